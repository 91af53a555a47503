import PyProof.Rows.All
import Wide.All
import OpenK.AllK
import Wide.FinOn
import Lean
import PySem.Challenge.RW_roadcall_k09_whole_beats_tell_all_length
import PyProof.EqAt
import PyProof.EqKinds
import PyProof.TupleCall
import PyProof.NeKinds
import PyProof.EnumMake
import PyProof.EnumFor
import PyProof.ZipIter
import PyProof.Rows.ZipGen
import KE.KLam
import PyProof.DictItems
import KE.KTurnsDict
import KE.KPairComp
import KE.KDictList
import KE.KRevSl
open PySem renaming Addr->ac,Value->al,wpAny_bind->ap,Shared->ar,Str->bi,wpAny_pure->br,Expr->cr,Program->c8,World->ff,Heap->gc,Obj->im,FuncData->i0,Around->l4,wpAny_mono->l6,Stmt->mv,boot_len->on,SetTable->r6,seg_bind_wrap->tw,Pos->ul,Builtin->u4,wpAny_newObj_type->v6,Scope->wn,wpAny_callSpecial?_slot->ww,mem_of_lookup->wE,wpAny_call_entry->wS,Spec->xy,codeAny_builtin->ze,wpAny_truthy_bool->AM,wpAny_standAt->AS,wpAny_Call_Name_kw->BY,Paired->Cn,wpAny_holding->Db,plainId_quiet->DD,wpAny_rule->ET,wpAny_setField_rec->FS,wpAny_typeNameOfWhole_keyiter->GT,Env->IF,wpAny_field->IR,Arguments->IT,TriplesOk->KB,wpAny_passesOwn->Lo,wpAny_attempt->LP,wpAny_setEntries_of->OE,wpAny_updateSeq->OP,NameKind->Pd,wpAny_setState_of->PP,wpAny_fieldsOf->Sk,GenState->So,CmpOp->SB,wpAny_askSetting->SI,sizeLine_eq->SO,wpAny_loadPart'->TW,DictEntry->UF,wpAny_pyIter_tuple->UK,codeAny_mono->UL,tupleKind_room_in1->UO,Keyword->UR,IsEnum->UZ,wpAny_isInstance->U4,seg_again->U7,Tok->Vc,wpAny_execs_nil->Vd,codeAny_of_tree->Vh,wpAny_typeOf->Vi,wpAny_specialOf->Vj,wpAny_runValue->Vt,ElemsOf->Vu,isSubtype_type->Vv,wpAny_seqItems->Vw,wpAny_of_eq->Vy,Sem->VC,fits_of_scanBound->VP,wpAny_pyIter_slot->VT,wpAny_dictEntries->VY,call_meets->V0,BindsTo->V2,wpAny_of_in1->V6,PassesOwn->Wc,wpAny_dictEpoch->Wj,Result->Wn,call->Wp,wpAny_load->Wr,Params->Wu,IsEnumOut->Ww,Walks->Wx
open List renaming getElem?_eq_getElem->ag,getElem?_eq_some_iff->bv,getElem?_map->ca,getD_eq_getElem?_getD->ce,length_map->ci,size_toArray->db,mem_cons_of_mem->gl,mem_append_right->hX,mem_of_getElem?->ii,mem_cons_self->jp,mem_singleton->kw,mem_cons->l3,range->l9,getElem_mem->mf,mem_iff_getElem?->mo,replicate->r9,mem_map->sw,getElem?_append_left->sB,length_append->tz,getElem?_append_right->wp,map_cons->wv,all_eq_true->wP,map_append->wT,replicate_succ->xb,mem_append->zd,getElem?_zip_eq_some->AC,getElem?_range->AE,map_map->BN,mem_append_left->Ch,append_nil->Cs,not_mem_nil->Da,getElem?_cons_succ->EM,mem_filter->EN,filterMap_cons->EO,length_cons->Fa,getElem?_eq_none->FM,drop_eq_getElem_cons->Gc,flatten_cons->GG,append_assoc->GM,mem_range->ID,Nodup->IS,nodup_cons->Lu,length_singleton->LB,nil_append->LG,pairwise_iff_getElem->MW,lookup_cons->NH,filter_cons->NO,getElem?_replicate->OF,of_mem_zip->OL,find?_cons->OR,zip_cons_cons->Pc,take_of_length_le->Pe,pairwise_lt_range->Pf,length_pos_of_mem->Po,eq_nil_of_length_eq_zero->Ps,length_range->PM,length_replicate->Rs,length_set->Tl,length_nil->TM,length_zip->T0,mem_or_eq_of_mem_set->Uf,Perm->UN,nodup_append->UW,getElem?_set_self->UX,length_take->U1,take_length->U3,drop_length->U5,length_filter_le->Vb,map_nil->Vf,pairwise_append->Vk,getElem?_append->Vm,mem_filterMap->VE,foldl_append->VQ,take_add_one->VR,ext_getElem?->VW,getElem?_set->VX,length_drop->V4,cons_append->V9,foldl_cons->Wd,Pairwise->Wt
open PySem.W renaming Frag->ba,nsIn->lc,mg_none_of->l7,CodeHd->nw,fnOf->xw,hideAll->xL,keepIn->AT,kia_one->BS,mg_of->DO,codeIn->FF,kla_obj->LH,tabObj->No,envX->On,hideAll_get->SS,looseW->Vp,kitOne->Vs,of_hideAll->VB,kb_classed->VF,recOk->VG,excIn->VL,methodObj->VM,xlAt->V3,opening->Wa,instObj->Wb,OpenLaw->Wi
open PySem.Heap renaming get?_push_of_some->bn,get?_push_size->dL,lt_size->ge,SameBut->u7,get?_update_other->At,get?_update_self->BB,size_push->Nl,ExtBut->Vz
open Nat renaming le_refl->cb,ne_of_lt->i4,lt_of_lt_of_le->l5,zero_le->qr,le_trans->uu,le_succ->Do,lt_succ_self->EU,min_self->KM,lt_irrefl->LM,lt_succ_of_lt->Me,ne_of_gt->NG,le_of_lt->Re,mul_comm->RI,strongRecOn->TD,le_of_eq->UP,sub_self->UQ,le_of_not_lt->U2,mod_lt->Vl,add_mul->Wl,gcd->Wo,not_lt->Ws
open Option.some renaming inj->ij,injEq->GS
open Bool renaming false_ne_true->io,false_eq_true->lp,and_eq_true->Fk,true_and->U0,eq_iff_iff->Ve,false_and->Vr,and_false->Vx,not_true->VJ
open PySem.SeqAt renaming RcNeAt->i1,EqAt->i8,RcAt->lw
open Option renaming map_eq_some_iff->li,map_some->ON,some->Pi,isSome_map->P3,join_some->V7,bind_some->V8
open Or renaming inl->l8,inr->ES
open PySem.Value renaming ref->ma,none->zw,type->AL,isInt_shape->UT,str->U6,int->VA,bool->Wq
open Array renaming length_toList->mT,getElem?_eq_getElem->CS,getElem?_toList->LF,toList_append->SZ,getElem?_eq_none->UY,size_append->VU,size_push->We
open PySem.PassesOwn renaming never->rb
open PySem.Str renaming ofString->rf
open Int renaming toNat_natCast->ss,eq_ofNat_of_zero_le->xp,zero_add->Ll,natCast_dvd_natCast->OK,emod_nonneg->Vn,natCast_mul->Wk
open PySem.NameKind renaming free->sK
open PySem.SetTable renaming below->ut,grown->NE
open PySem.Around renaming under_plainId->u8
open Ne renaming symm->xz
open PyProof.Rows renaming callWith_type1->zn,IntsAre->RS,BMod->UM,assignInOrder_cons->VD,AllBare->Wm
open PySem.F renaming slot_dict_keyiterator_next->AN,plainAttrs_list->Cf,excBase_ValueError->LS,plain_list_iadd->Mn,called_set->NL,slot_list_append->Op,type_list_append->Os,plain_extend_loop->Tk,entry_proto_collect->U8,plain_proto_collect->U9,entry_list_iadd->VN,plain_all_loop->V5
open PySem.Builtin.List renaming listExtendWith->B0,listTooLong->GE,listSameRef->NJ,listLengthHint->Sm
open Sum renaming inl->Cc,inr->Vq
open False renaming elim->Co
open PySem.Heap.SameBut renaming update->EQ
open True renaming intro->Go
open PySem.Builtin.Str renaming occurrences->Is
open Classical renaming propDecidable->Ix,byContradiction->Na
open PySem.Obj renaming mapSeq->IN,data_mapFields->KF,isFreed_of_fields->Va,cls_mapFields->VS,putSet->V1
open PySem.Calls renaming spliced_cons->JJ,spliced_nil->Mc
open PySem.W.Fast renaming tw821141287760084731->Nd
open PySem.Paired renaming length->SL
open PyProof.Rows.F renaming plain_set_update_loop->US
open PySem.Sem renaming bind_eq_wrap'->UU,onRaise_eq_wrap->Vo,wrap_wrap->VH
open PySem.SetTable.below renaming go->UV
open ForInStep renaming yield->Vg
open PySem.Shared renaming TypeIs->VI
open PySem.SetTable.probe renaming go->VO
open List.Pairwise renaming map->VZ
open PySem.Txt renaming slice->Wg
open PySem.SeqAt.EqAt renaming same->Wh
open And renaming intro->Wv
set_option linter.all false
set_option Elab.async false
set_option maxRecDepth 100000
namespace My
open PySem PyProof.Rows
def kA (s:mv):IT:=match s with
 | .FunctionDef _ a _ _ _ _ _ _ _ _=>a
 |_=>{posonlyargs:=[],args:=[],vararg:=none,kwonlyargs:=[],kw_defaults:=[],kwarg:=none,defaults:=[]}
def kB (s:mv):List mv:=match s with
 | .FunctionDef _ _ b _ _ _ _ _ _ _=>b
 |_=>[]
def kS (s:mv):wn:=match s with
 | .FunctionDef _ _ _ _ _ _ sc _ _ _=>sc
 |_=>{kind:=.function,names:=[],isGenerator:=false,isCoroutine:=false}
def vS (x:String) (t:Nat):al:=.str (rf x) t
def kE (P:Wu) (x:String) (t:Nat) (v:al):UF:=⟨PyData.keyHash P (rf x),vS x t,v⟩
def kF (i:Nat) (x:String) (d m:al) (c:Nat):im:=let st:=PySem.Challenge.pw_roadcall_k09_whole_beats_tell_all_length.main.body.getD i (.Pass ⟨0,0,0,0⟩);⟨.type "function",none,.func (xw (rf x) (rf x) (kA st) (kB st) (kS st) d .none .none m none (.ref c) .none),#[]⟩
def kC (x:String) (t:Nat) (l n f:Int) (a:Nat) (b:Bool) (m:Int) (p:Nat) (u z:al) (q:Nat) (e:Int) (t2:Nat):im:=⟨.type "code",none,.fields #[vS x t,vS x (t+1),vS "/claim/cut.py" (t+2),.int l 0,.int n 0,.int 0 0,.int 0 0,.int f 0,.ref a,.bool b,.int m 0,.ref p,.none,u,z,.ref q,.int e 0,.int l 0,vS "/claim/cut.py" t2],#[]⟩
def kK (P:Wu):ba:=[(2,⟨.none,none,.dict [].toArray 0,#[]⟩),
 (3,⟨.type "dict",none,.dict [kE P "__name__" 165 (vS "law_roadcall_k09_whole_beats_tell_all_length" 445),kE P "__doc__" 166 .none,kE P "__package__" 167 .none,kE P "__loader__" 168 (.builtin "__main__.__loader__#opaque"),kE P "__spec__" 169 .none,kE P "__annotations__" 170 (.ref 6),kE P "__builtins__" 171 (.ref 4),kE P "__file__" 173 (vS "/claim/cut.py" 172),kE P "__cached__" 174 .none,kE P "RoadError" 206 (.ref 24),kE P "NoNet" 222 (.ref 37),kE P "NoPlace" 238 (.ref 49),kE P "NoWord" 254 (.ref 61),kE P "NoWhole" 270 (.ref 73),kE P "is_whole" 279 (.ref 82),kE P "is_whole_below" 287 (.ref 89),kE P "common_divisor" 295 (.ref 96),kE P "SIGNS" 299 (vS "abc" 298),kE P "MOST_PLACES" 301 (.int 9 300),kE P "MOST_SIGNS_OF_WORD" 303 (.int 2000 302),kE P "is_row" 313 (.ref 103),kE P "is_net" 322 (.ref 110),kE P "need_net" 329 (.ref 117),kE P "signs_of" 336 (.ref 124),kE P "is_place" 344 (.ref 131),kE P "need_place" 352 (.ref 138),kE P "is_word" 361 (.ref 145),kE P "need_word" 369 (.ref 152),kE P "MOST_SETS" 373 (.int 511 372),kE P "end_of" 383 (.ref 159),kE P "led" 392 (.ref 166),kE P "first_met" 407 (.ref 174),kE P "first_words" 416 (.ref 181),kE P "parts" 422 (.ref 186),kE P "hangs_together" 429 (.ref 193),kE P "need_whole" 436 (.ref 200),kE P "beat" 444 (.ref 205),kE P "_law_bag" 457 (.ref 212),kE P "_law_take" 468 (.ref 219),kE P "_law_order" 479 (.ref 226),kE P "_law_net" 485 (.ref 231),kE P "_law_word" 496 (.ref 238),kE P "_law_behind" 506 (.ref 245),kE P "_law_lengths" 512 (.ref 250),kE P "law" 527 (.ref 257)].toArray 45,#[]⟩),
 (23,⟨.type "dict",none,.dict [kE P "__module__" 196 (vS "roadcall.errors" 187),kE P "__firstlineno__" 200 (.int 2 199),kE P "__static_attributes__" 201 (.ref 22),kE P "__weakref__" 203 (.ref 25),kE P "__doc__" 204 .none].toArray 3,#[]⟩),
 (24,⟨.type "type",none,.cls {name:=rf "RoadError",bases:=[.type "ValueError"],mro:=[.ref 24,.type "ValueError",.type "Exception",.type "BaseException",.type "object"],ns:=23,qualname:=rf "RoadError",subclasses:=[.ref 37,.ref 49,.ref 61,.ref 73]},#[some (.ref 15),none,some (vS "RoadError" 189),some (vS "RoadError" 197),some (.builtin "ValueError.__new__"),some (.bool true)]⟩),
 (36,⟨.type "dict",none,.dict [kE P "__module__" 214 (vS "roadcall.errors" 187),kE P "__firstlineno__" 218 (.int 4 217),kE P "__static_attributes__" 219 (.ref 35),kE P "__doc__" 220 .none].toArray 2,#[]⟩),
 (37,⟨.type "type",none,.cls {name:=rf "NoNet",bases:=[.ref 24],mro:=[.ref 37,.ref 24,.type "ValueError",.type "Exception",.type "BaseException",.type "object"],ns:=36,qualname:=rf "NoNet",subclasses:=[]},#[some (.ref 28),none,some (vS "NoNet" 207),some (vS "NoNet" 215),some (.builtin "ValueError.__new__"),some (.bool true)]⟩),
 (48,⟨.type "dict",none,.dict [kE P "__module__" 230 (vS "roadcall.errors" 187),kE P "__firstlineno__" 234 (.int 6 233),kE P "__static_attributes__" 235 (.ref 47),kE P "__doc__" 236 .none].toArray 2,#[]⟩),
 (49,⟨.type "type",none,.cls {name:=rf "NoPlace",bases:=[.ref 24],mro:=[.ref 49,.ref 24,.type "ValueError",.type "Exception",.type "BaseException",.type "object"],ns:=48,qualname:=rf "NoPlace",subclasses:=[]},#[some (.ref 40),none,some (vS "NoPlace" 223),some (vS "NoPlace" 231),some (.builtin "ValueError.__new__"),some (.bool true)]⟩),
 (60,⟨.type "dict",none,.dict [kE P "__module__" 246 (vS "roadcall.errors" 187),kE P "__firstlineno__" 250 (.int 8 249),kE P "__static_attributes__" 251 (.ref 59),kE P "__doc__" 252 .none].toArray 2,#[]⟩),
 (61,⟨.type "type",none,.cls {name:=rf "NoWord",bases:=[.ref 24],mro:=[.ref 61,.ref 24,.type "ValueError",.type "Exception",.type "BaseException",.type "object"],ns:=60,qualname:=rf "NoWord",subclasses:=[]},#[some (.ref 52),none,some (vS "NoWord" 239),some (vS "NoWord" 247),some (.builtin "ValueError.__new__"),some (.bool true)]⟩),
 (72,⟨.type "dict",none,.dict [kE P "__module__" 262 (vS "roadcall.errors" 187),kE P "__firstlineno__" 266 (.int 10 265),kE P "__static_attributes__" 267 (.ref 71),kE P "__doc__" 268 .none].toArray 2,#[]⟩),
 (73,⟨.type "type",none,.cls {name:=rf "NoWhole",bases:=[.ref 24],mro:=[.ref 73,.ref 24,.type "ValueError",.type "Exception",.type "BaseException",.type "object"],ns:=72,qualname:=rf "NoWhole",subclasses:=[]},#[some (.ref 64),none,some (vS "NoWhole" 255),some (vS "NoWhole" 263),some (.builtin "ValueError.__new__"),some (.bool true)]⟩),
 (81,kC "is_whole" 273 13 1 3 76 true 181 77 (.ref 78) (.ref 79) 80 277 278),
 (82,kF 7 "is_whole" .none (vS "roadcall.whole" 271) 81),
 (88,kC "is_whole_below" 280 15 2 3 83 true 181 84 (.ref 85) (.ref 86) 87 285 286),
 (89,kF 8 "is_whole_below" .none (vS "roadcall.whole" 271) 88),
 (95,kC "common_divisor" 288 17 2 3 90 true 181 91 (.ref 92) (.ref 93) 94 293 294),
 (96,kF 9 "common_divisor" .none (vS "roadcall.whole" 271) 95),
 (102,kC "is_row" 304 26 3 3 97 true 181 98 (.ref 99) (.ref 100) 101 311 312),
 (103,kF 14 "is_row" .none (vS "roadcall.nets" 296) 102),
 (109,kC "is_net" 314 30 1 3 104 true 181 105 (.ref 106) (.ref 107) 108 320 321),
 (110,kF 15 "is_net" .none (vS "roadcall.nets" 296) 109),
 (116,kC "need_net" 323 38 1 3 111 true 181 112 (.ref 113) (.ref 114) 115 327 328),
 (117,kF 16 "need_net" .none (vS "roadcall.nets" 296) 116),
 (123,kC "signs_of" 330 41 1 3 118 true 181 119 (.ref 120) (.ref 121) 122 334 335),
 (124,kF 17 "signs_of" .none (vS "roadcall.nets" 296) 123),
 (130,kC "is_place" 337 44 2 3 125 true 181 126 (.ref 127) (.ref 128) 129 342 343),
 (131,kF 18 "is_place" .none (vS "roadcall.nets" 296) 130),
 (137,kC "need_place" 345 46 2 3 132 true 181 133 (.ref 134) (.ref 135) 136 350 351),
 (138,kF 19 "need_place" .none (vS "roadcall.nets" 296) 137),
 (144,kC "is_word" 353 49 2 3 139 true 181 140 (.ref 141) (.ref 142) 143 359 360),
 (145,kF 20 "is_word" .none (vS "roadcall.nets" 296) 144),
 (151,kC "need_word" 362 54 2 3 146 true 181 147 (.ref 148) (.ref 149) 150 367 368),
 (152,kF 21 "need_word" .none (vS "roadcall.nets" 296) 151),
 (158,kC "end_of" 374 59 3 3 153 true 181 154 (.ref 155) (.ref 156) 157 381 382),
 (159,kF 24 "end_of" .none (vS "roadcall.ways" 370) 158),
 (165,kC "led" 384 63 3 3 160 true 181 161 (.ref 162) (.ref 163) 164 390 391),
 (166,kF 25 "led" .none (vS "roadcall.ways" 370) 165),
 (167,⟨.type "tuple",none,.seq #[.int 511 372] 0,#[]⟩),
 (173,kC "first_met" 393 68 4 3 168 true 181 169 (.ref 170) (.ref 171) 172 405 406),
 (174,kF 26 "first_met" (.ref 167) (vS "roadcall.ways" 370) 173),
 (180,kC "first_words" 408 79 2 3 175 true 181 176 (.ref 177) (.ref 178) 179 414 415),
 (181,kF 27 "first_words" .none (vS "roadcall.ways" 370) 180),
 (185,kC "parts" 417 81 1 3 182 true 181 183 .none .none 184 420 421),
 (186,kF 28 "parts" .none (vS "roadcall.ways" 370) 185),
 (192,kC "hangs_together" 423 90 1 3 187 true 181 188 (.ref 189) (.ref 190) 191 427 428),
 (193,kF 29 "hangs_together" .none (vS "roadcall.ways" 370) 192),
 (199,kC "need_whole" 430 92 1 3 194 true 181 195 (.ref 196) (.ref 197) 198 434 435),
 (200,kF 30 "need_whole" .none (vS "roadcall.ways" 370) 199),
 (204,kC "beat" 439 96 1 3 201 true 181 202 .none .none 203 442 443),
 (205,kF 32 "beat" .none (vS "roadcall.beats" 437) 204),
 (211,kC "_law_bag" 447 106 2 3 206 true 181 207 (.ref 208) (.ref 209) 210 455 456),
 (212,kF 34 "_law_bag" .none (vS "law_roadcall_k09_whole_beats_tell_all_length" 445) 211),
 (218,kC "_law_take" 458 116 2 3 213 true 181 214 (.ref 215) (.ref 216) 217 466 467),
 (219,kF 35 "_law_take" .none (vS "law_roadcall_k09_whole_beats_tell_all_length" 445) 218),
 (225,kC "_law_order" 469 128 2 3 220 true 181 221 (.ref 222) (.ref 223) 224 477 478),
 (226,kF 36 "_law_order" .none (vS "law_roadcall_k09_whole_beats_tell_all_length" 445) 225),
 (230,kC "_law_net" 480 134 2 3 227 true 181 228 .none .none 229 483 484),
 (231,kF 37 "_law_net" .none (vS "law_roadcall_k09_whole_beats_tell_all_length" 445) 230),
 (237,kC "_law_word" 486 156 3 3 232 true 181 233 (.ref 234) (.ref 235) 236 494 495),
 (238,kF 38 "_law_word" .none (vS "law_roadcall_k09_whole_beats_tell_all_length" 445) 237),
 (244,kC "_law_behind" 497 161 2 3 239 true 181 240 (.ref 241) (.ref 242) 243 504 505),
 (245,kF 39 "_law_behind" .none (vS "law_roadcall_k09_whole_beats_tell_all_length" 445) 244),
 (249,kC "_law_lengths" 507 166 3 3 246 true 181 247 .none .none 248 510 511),
 (250,kF 40 "_law_lengths" .none (vS "law_roadcall_k09_whole_beats_tell_all_length" 445) 249),
 (256,kC "law" 513 175 1 3 251 true 181 252 (.ref 253) (.ref 254) 255 525 526),
 (257,kF 41 "law" .none (vS "law_roadcall_k09_whole_beats_tell_all_length" 445) 256)]
def Rp:List ac:=[2,3,23,24,36,37,48,49,60,61,72,73,81,82,88,89,95,96,102,103,109,110,116,117,123,124,130,131,137,138,144,145,151,152,158,159,165,166,167,173,174,180,181,185,186,192,193,199,200,204,205,211,212,218,219,225,226,230,231,237,238,244,245,249,250,256,257]
def kq:c8:=PySem.W.view PySem.Challenge.pw_roadcall_k09_whole_beats_tell_all_length [1,2,3,4,5,7,8,9,11,12,13,14,15,16,17,18,19,20,21,23,24,25,27,28,29,30,32,34,35,36,37,38,39,40,41]
def kL:List bi:=[rf "first_met"]
def kH:PySem.W.Hook:=PySem.W.kHook kK Rp fun _=>by kernel_rfl
theorem F7 {r:PySem.W.OpenRow} {q:c8} {loose:List bi} {H:PySem.W.Hook} {d:DefRec} {HM:List (bi×cr)} {N:Nat} (left:PySem.W.LeftO r.prog q loose (fun s=>V3 q [] s && VG r.records s) H.obs H.val N)
  (tX:PySem.W.defOf q r.name=some (d,HM)) (hp:r.prog.theDef r.name=some (d.params,d.body,d.scope)) (hk:PySem.W.kwWritten? d.params.kwonlyargs d.params.kw_defaults=some HM) (Rq:(!r.writes || r.records.isEmpty)=true) (k1:r.wellSaid=true)
  (ok:(PySem.W.chainsOk q && PySem.W.opensWell r.prog && (PySem.W.frees r.toRowW && r.within.isEmpty))=true) (hb:r.prog.bare) (hw:r.toRowW.promised) (call:PySem.W.WalkO q loose (PySem.W.XL q []) H.says r.toRowW d HM fun f vs=>Wp f vs):r.Holds:=
 PySem.W.holds_open left H.of H.keeps (fun s e=>PySem.W.xl_of s (Bool.and_eq_true_iff.mp e).1) PySem.W.XL.keeps tX hp hk (fun s e=>PySem.W.recFacts_of (Bool.and_eq_true_iff.mp e).2) Rq k1 ok hb hw call
noncomputable def oeQ (p:c8) (w:ff) (N:Nat):Option ar:=((PySem.W.Fast.tw10274390034422433532 PySem.W.Fast.tw14364793385576792824 (Wa p) w N (PySem.W.Fast.tw1435165496053646825 (Wa p)).1 (PySem.W.Fast.tw1435165496053646825 (Wa p)).2).bind (PySem.W.Fast.tw14289696077712309145 p)).bind fun s₀=>match s₀.heap.isNs PySem.mainGlobals && s₀.gens.size==0 with
 |true=>(PySem.W.Fast.tw14082659384304107361 PySem.W.Fast.tw14364793385576792824 p w s₀.heap.objs.size (s₀.heap.nsMap PySem.mainGlobals "__annotations__") N s₀ (PySem.W.topStub p)).bind fun aw=>match PySem.W.staticsOk (importedModules p.main.body) s₀.heap aw.heap && PySem.W.namesBound p aw.heap && PySem.W.gensDone aw && PySem.W.laidKept s₀.heap aw.heap with
   |true=>some aw
   |false=>none
 |false=>none
theorem MA (p:c8) (w:ff) (N:Nat):PySem.W.openEnds treeTable p w N=oeQ p w N :=by
 unfold oeQ
 rw [<- PySem.W.Fast.te10274390034422433532,<- PySem.W.Fast.te14364793385576792824,<- PySem.W.Fast.te1435165496053646825,<- PySem.W.Fast.te14289696077712309145,<- PySem.W.Fast.te14082659384304107361]
 rfl
noncomputable def nsQ (q:c8):List bi:=(PySem.W.Fast.tw3399658132070893891 q).map (·.name)
theorem EY (q:c8):(recsOf q).map (·.name)=nsQ q :=by unfold nsQ;rw [<- PySem.W.Fast.te3399658132070893891]
noncomputable def c1Q (s:ar):=PySem.W.Fast.tw5160383126252970620 (nsQ kq) (PySem.W.Fast.tw5991557255702980513 kq) [] {s with gens:=#[]}
theorem MB (s:ar):seen ((recsOf kq).map (·.name)) (ownsOf kq) [] {s with gens:=#[]}=c1Q s :=by unfold c1Q;rw [EY,<- PySem.W.Fast.te5160383126252970620,<- PySem.W.Fast.te5991557255702980513]
def c2 (s:ar):=(s.heap.bltView,s.heap.keysOk (Vp kq kL) ((recsOf kq).map (·.name)) ((litsOf kq).map (·.1)) ((clssOf kq (Vp kq kL)).map (·.name)) && s.heap.accountedOkI (importedModules PySem.Challenge.pw_roadcall_k09_whole_beats_tell_all_length.main.body) && s.heap.isNs mainGlobals && s.heap.isNs builtinsNs && tablesOk kq s.heap && (V3 kq [] s && VG [] s) && (s.gens.size==0))
noncomputable def c2Q (s:ar):=(s.heap.bltView,PySem.W.Fast.tw10880121769531294198 s.heap (Nd kq kL) (nsQ kq) ((PySem.W.Fast.tw7409074990110511671 kq).map (·.1)) ((PySem.W.Fast.tw13664370479719496447 kq (Nd kq kL)).map (·.name)) && PySem.W.Fast.tw14722251495701143533 s.heap (importedModules PySem.Challenge.pw_roadcall_k09_whole_beats_tell_all_length.main.body) && s.heap.isNs mainGlobals && s.heap.isNs builtinsNs && PySem.W.Fast.tw10994771534591457954 kq s.heap && (V3 kq [] s && VG [] s) && (s.gens.size==0))
theorem MC (s:ar):c2 s=c2Q s :=by unfold c2 c2Q;rw [EY,<- PySem.W.Fast.te10880121769531294198,<- PySem.W.Fast.te821141287760084731,<- PySem.W.Fast.te7409074990110511671,<- PySem.W.Fast.te13664370479719496447,<- PySem.W.Fast.te14722251495701143533,<- PySem.W.Fast.te10994771534591457954]
def c3 (s:ar):=tabsOk kq s
def c5 (s:ar):=plainSeenE kq (Vp kq kL) s
def c4 (s:ar):=(PySem.pinSeenD kq (drecsOf kq) s,plainSeenD kq kL s,PySem.W.wideSeen kq s,PySem.W.clsSeenW kq kL s)
noncomputable def c3Q (s:ar):=PySem.W.Fast.tw479339242167458305 kq s
noncomputable def c5Q (s:ar):=PySem.W.Fast.tw2386780881361962483 kq (Nd kq kL) s
noncomputable def c4Q (s:ar):=(PySem.W.Fast.tw16090120013241838585 kq (PySem.W.Fast.tw3247288618530077131 kq) s,PySem.W.Fast.tw11698064438423848299 kq kL s,PySem.W.Fast.tw7317090234206586261 kq s,PySem.W.Fast.tw7369524293546568484 kq kL s)
theorem MD (s:ar):c3 s=c3Q s :=by unfold c3 c3Q;rw [<- PySem.W.Fast.te479339242167458305]
theorem ME (s:ar):c5 s=c5Q s :=by unfold c5 c5Q;rw [<- PySem.W.Fast.te2386780881361962483,<- PySem.W.Fast.te821141287760084731]
theorem MF (s:ar):c4 s=c4Q s :=by unfold c4 c4Q;rw [<- PySem.W.Fast.te16090120013241838585,<- PySem.W.Fast.te3247288618530077131,<- PySem.W.Fast.te11698064438423848299,<- PySem.W.Fast.te7317090234206586261,<- PySem.W.Fast.te7369524293546568484]
set_option maxHeartbeats 0 in
theorem left0 (w:ff):(oeQ PySem.Challenge.pw_roadcall_k09_whole_beats_tell_all_length w 4038).map (fun s=>kH.obs s)=some (kH.val w) :=by kernel_rfl
set_option maxHeartbeats 0 in
theorem left1 (w:ff):(oeQ PySem.Challenge.pw_roadcall_k09_whole_beats_tell_all_length w 4038).map c1Q=some (expectedOf kq) :=by kernel_rfl
set_option maxHeartbeats 0 in
theorem left2 (w:ff):(oeQ PySem.Challenge.pw_roadcall_k09_whole_beats_tell_all_length w 4038).map c2Q=some (bltViewBooted,true) :=by kernel_rfl
set_option maxHeartbeats 0 in
theorem left3 (w:ff):(oeQ PySem.Challenge.pw_roadcall_k09_whole_beats_tell_all_length w 4038).map c3Q=some true :=by kernel_rfl
set_option maxHeartbeats 0 in
theorem left5 (w:ff):(oeQ PySem.Challenge.pw_roadcall_k09_whole_beats_tell_all_length w 4038).map c5Q=some (plainGoodE kq (Vp kq kL)) :=by kernel_rfl
set_option maxHeartbeats 0 in
theorem left4 (w:ff):(oeQ PySem.Challenge.pw_roadcall_k09_whole_beats_tell_all_length w 4038).map c4Q=some (PySem.pinGoodD (drecsOf kq),plainGoodD kq kL,PySem.W.wideGood kq,PySem.W.clsGoodW kq kL) :=by kernel_rfl
theorem left (w:ff):(PySem.W.openEnds treeTable PySem.Challenge.pw_roadcall_k09_whole_beats_tell_all_length w 4038).map (fun s=>(PySem.W.openSeen kq kL (importedModules PySem.Challenge.pw_roadcall_k09_whole_beats_tell_all_length.main.body) (fun s=>V3 kq [] s && VG [] s) true s,kH.obs s))=some (PySem.W.openGood kq kL,kH.val w) :=by
 rw [MA]
 have a0:=left0 w
 have a1:=left1 w
 have a2:=left2 w
 have a3:=left3 w
 have a4:=left4 w
 have a5:=left5 w
 revert a0 a1 a2 a3 a4 a5
 generalize oeQ PySem.Challenge.pw_roadcall_k09_whole_beats_tell_all_length w 4038=o
 cases o with
 |none=>intro a0;cases a0
 |some s=>
  intro a0 a1 a2 a3 a4 a5
  have a0:kH.obs s=kH.val w:=ij a0
  have a1:=ij a1
  have a2:=ij a2
  have a3:=ij a3
  have a4:=ij a4
  have a5:=ij a5
  rw [<- MB] at a1
  rw [<- MC] at a2
  rw [<- MD] at a3
  rw [<- MF] at a4
  rw [<- ME] at a5
  show some ((seen ((recsOf kq).map (·.name)) (ownsOf kq) [] {s with gens:=#[]},(c2 s).1,(c2 s).2,c3 s,(c4 s).1,c5 s,(c4 s).2),kH.obs s)=_
  rw [a0,a1,a2,a3,a4,a5]
  rfl
end My
namespace L2
open PySem PySem.Spec PyProof.Rows
abbrev Key:=Sum Int bi
def nA:Key->al->Bool
 | .inl k,v=>al.isInt k v
 | .inr x,v=>al.isStrOf x v
def P0 (w:ff):Key->Int
 | .inl k=>hashInt k
 | .inr x=>hashStr w x
theorem b8:∀{k:Key} {v:al},nA k v=true->(∃i t,k=Cc i/\v=VA i t)\/(∃x t,k=Vq x/\v=U6 x t)
 | .inl i,v,h=>by
          obtain ⟨t,e⟩:=UT (k:=i) (v:=v) h
          exact .inl ⟨i,t,rfl,e⟩
 | .inr x,v,h=>by
          obtain ⟨t,e⟩:=al.isStrOf_shape (x:=x) (v:=v) h
          exact .inr ⟨x,t,rfl,e⟩
theorem zN (i:Int) (t:Vc):nA (.inl i) (.int i t)=true :=by simp [nA,al.isInt]
theorem zO (x:bi) (t:Vc):nA (.inr x) (.str x t)=true :=by simp [nA,al.isStrOf]
theorem HN (a b:Int):decide ((Cc a:Key)=Cc b)=(a==b) :=by
 by_cases e:a=b
 ·subst e;simp
 ·have h:¬ (Cc a:Key)=Cc b:=fun q=>e (Cc.inj q)
  rw [decide_eq_false h]
  exact (beq_eq_false_iff_ne.mpr e).symm
theorem HP (a b:bi):decide ((Vq a:Key)=Vq b)=decide (a=b) :=by
 by_cases e:a=b
 ·subst e;simp
 ·have h:¬ (Vq a:Key)=Vq b:=fun q=>e (Vq.inj q)
  rw [decide_eq_false h,decide_eq_false e]
theorem HQ (a:Int) (b:bi):decide ((Cc a:Key)=Vq b)=false:=decide_eq_false (fun q=>nomatch q)
theorem HR (a:bi) (b:Int):decide ((Vq a:Key)=Cc b)=false:=decide_eq_false (fun q=>nomatch q)
def bJ (prog:c8) (w:ff):PySem.KeyKind prog w Key where
 is:=nA
 hash:=P0 w
 inj:=fun v a b ha hb=>by
  rcases b8 ha with ⟨i,t,rfl,rfl⟩|⟨x,t,rfl,rfl⟩
  ·rcases b8 hb with ⟨j,u,rfl,e⟩|⟨y,u,rfl,e⟩
   ·injection e with e1 _;rw [e1]
   ·exact nomatch e
  ·rcases b8 hb with ⟨j,u,rfl,e⟩|⟨y,u,rfl,e⟩
   ·exact nomatch e
   ·injection e with e1 _;rw [e1]
 byValue:=fun k v h=>by
  rcases b8 h with ⟨i,t,rfl,rfl⟩|⟨x,t,rfl,rfl⟩ <;> rfl
 pyHash:=fun hv h=>by
  rcases b8 hv with ⟨i,t,rfl,rfl⟩|⟨x,t,rfl,rfl⟩
  ·exact wpAny_pyHash_int h
  ·exact wpAny_pyHash_str h
 eqBool:=fun hu hv h=>by
  rcases b8 hu with ⟨i,t,rfl,rfl⟩|⟨x,t,rfl,rfl⟩
  ·rcases b8 hv with ⟨j,u,rfl,rfl⟩|⟨y,u,rfl,rfl⟩
   ·rw [HN] at h;exact wpAny_eqBool_int h
   ·rw [HQ] at h;exact i8.int_str i t y u _ _ _ _ h
  ·rcases b8 hv with ⟨j,u,rfl,rfl⟩|⟨y,u,rfl,rfl⟩
   ·rw [HR] at h;exact i8.str_int x t j u _ _ _ _ h
   ·rw [HP] at h;exact wpAny_eqBool_str h
 «strs»:=fun k x t v h=>by
  rcases b8 h with ⟨i,u,rfl,e⟩|⟨y,u,rfl,e⟩
  ·exact nomatch e
  ·injection e with e1 _
   subst e1
   cases v <;> rfl
theorem wj (prog:c8) (w:ff) (i:Int) (t:Vc):(bJ prog w).is (.inl i) (.int i t)=true:=zN i t
theorem wm (prog:c8) (w:ff) (x:bi) (t:Vc):(bJ prog w).is (.inr x) (.str x t)=true:=zO x t
inductive V where
 |av|bl (b:Bool)|int (i:Int)|str (x:bi)|i9 (b:Array UInt8)|xf (b:UInt64)|ref (a:ac)|ty (n:String)
 deriving DecidableEq
def RelV:V->al->Prop
 | .av,u=>u=zw
 | .bl b,u=>u=Wq b
 | .int i,u=>∃t,u=VA i t
 | .str x,u=>∃t,u=U6 x t
 | .i9 b,u=>∃t,u=al.bytes b t
 | .xf b,u=>∃t,u=al.float b t
 | .ref a,u=>u=ma a
 | .ty n,u=>u=AL n
abbrev Vals:List V->List al->Prop:=Cn RelV
theorem Vals.length {xs:List V} {us:List al} (r:Vals xs us):xs.length=us.length:=SL r
theorem Vals.get:∀{xs:List V} {us:List al} {i:Nat} {x:V},Vals xs us->xs[i]?=some x->∃u,us[i]?=some u/\RelV x u
 |_,_,_,_,.nil,e=>by simp at e
 |_,_,0,_,.cons r _,e=>by simp at e;subst e;exact ⟨_,rfl,r⟩
 |_,_,i+1,x,.cons _ t,e=>by
          obtain ⟨u,h1,h2⟩:=Vals.get (i:=i) (x:=x) t (by simpa using e)
          exact ⟨u,by simpa using h1,h2⟩
theorem Vals.set {x:V} {u:al} (r:RelV x u):∀{xs:List V} {us:List al} (i:Nat),Vals xs us->Vals (xs.set i x) (us.set i u)
 |_,_,_,.nil=>.nil
 |_,_,0,.cons _ t=>.cons r t
 |_,_,i+1,.cons q t=>.cons q (Vals.set r i t)
theorem Vals.append:∀{xs ys:List V} {us ws:List al},Vals xs us->Vals ys ws->Vals (xs++ys) (us++ws)
 |_,_,_,_,.nil,s=>s
 |_,_,_,_,.cons r t,s=>.cons r (Vals.append t s)
theorem Vals.take:∀{xs:List V} {us:List al} (n:Nat),Vals xs us->Vals (xs.take n) (us.take n)
 |_,_,0,_=>.nil
 |_,_,_+1,.nil=>.nil
 |_,_,n+1,.cons r t=>.cons r (Vals.take n t)
theorem Vals.drop:∀{xs:List V} {us:List al} (n:Nat),Vals xs us->Vals (xs.drop n) (us.drop n)
 |_,_,0,r=>r
 |_,_,_+1,.nil=>.nil
 |_,_,n+1,.cons _ t=>Vals.drop n t
def ja:Option V->Option al->Prop
 |some v,some u=>RelV v u
 |none,none=>True
 |_,_=>False
def KV {κ:Type}:List (κ×V)->List (κ×al)->Prop:=Cn fun (p:κ×V) (q:κ×al)=>p.1=q.1/\RelV p.2 q.2
def kV:Key->V
 | .inl i=>.int i
 | .inr x=>.str x
inductive HO where
 |lst (xs:List V)
 |tup (xs:List V)
 |dK (ao:List (Key×V))|dT (ao:List (List Key×V))
 |set (S:Int->Bool) (n:Nat)
 |ins (C dx:ac) (fs:List (bi×V))
 |own (x:ac)
 |xd (fs:List (bi×V))
 |met (f x:ac)
 |EZ (lo hi:Int)
 |bL (o:im) (u:HO)
 |cF (ps:Array al)
 |lam (ps:Array al)
 |ext (φ:gc->Prop)
abbrev Hp:=ac->Option HO
def upd (H:Hp) (a:ac) (o:HO):Hp:=fun b=>if b=a then some o else H b
theorem ay {H:Hp} {a:ac} {o:HO}:upd H a o a=some o :=by unfold upd;rw [if_pos rfl]
theorem af {H:Hp} {a b:ac} {o:HO} (h:b≠a):upd H a o b=H b :=by unfold upd;rw [if_neg h]
theorem xg {H:Hp} {a:ac} {o u:HO}:upd (upd H a o) a u=upd H a u :=by
 funext b;unfold upd;split <;> rfl
theorem yh {H:Hp} {a b:ac} {o u:HO} (h:H a=some o) (h':H b=some u) (d:o≠u):a≠b :=by
 intro e;subst e;rw [h] at h';exact d (ij h')
theorem a8 {H:Hp} {a b:ac} {o:HO} (h:H a=some o) (h':H b=none):a≠b :=by
 intro e;subst e;rw [h] at h';cases h'
section
variable (P:c8) (w:ff)
def j9 (h:gc) (a:ac) (items:Array al):Prop:=∃o,h.get? a=some o/\o.cls=.type "tuple" /\ ∃n,o.data=.seq items n/\o.dict=none
theorem j9.tup {h:gc} {a:ac} {items:Array al} (x:j9 h a items):IsTup h a items:=let ⟨o,e,c,n,d,_⟩:=x;⟨o,e,c,n,d⟩
theorem j9.lt {h:gc} {a:ac} {items:Array al} (x:j9 h a items):a<h.objs.size:=x.tup.lt
theorem j9.new (h:gc) (items:Array al):j9 (h.push {cls:=.type "tuple",data:=.seq items}) h.objs.size items:=⟨_,dL _ rfl,rfl,_,rfl,rfl⟩
def ObjOk (H:Hp) (h:gc) (a:ac):HO->Prop
 | .lst xs=>xs.length<=sizeLine/\∃(its:List al) (n:Nat),Vals xs its/\h.get? a=some {cls:=.type "list",data:=.seq its.toArray n}
 | .tup xs=>xs.length<=sizeLine/\∃its:List al,Vals xs its/\j9 h a its.toArray
 | .dK ao=>ao.length<=sizeLine/\(a==sysModules)=false/\∃vs,KV ao vs/\h.DictOf (bJ P w) a vs
 | .dT ao=>ao.length<=sizeLine/\(a==sysModules)=false/\∃xs:List (List Key×ac×al),
   Cn (fun (p:List Key×V) (q:List Key×ac×al)=>p.1=q.1/\H q.2.1=some (.tup (p.1.map kV))/\RelV p.2 q.2.2) ao xs /\
   ∃o es ep,h.get? a=some o/\o.ExactDict/\o.data=.dict es ep/\es.toList=xs.map (entryOfKey (tupleKind (bJ P w)))/\(xs.map (·.1)).Nodup
 | .set S n=>h.SetOf (intKind P w) a S n
 | .ins C dx fs=>H dx=some (.own a)/\fs.length<=1000/\dx≠a/\h.get? a=some (Wb C dx) /\
   ∃mA,h.Ns1 dx mA/\(∀f,ja (fs.lookup f) (mA f))/\PySem.Within mA (fs.map (·.1))
 | .own _=>∃o,h.get? a=some o
 | .xd fs=>∃mA,h.Ns1 a mA/\∀f,ja (fs.lookup f) (mA f)
 | .EZ lo hi=>∃t u v,h.get? a=some {cls:=.type "range",data:=.fields #[.int lo t,.int hi u,.int 1 v]}
 | .bL o u=>h.get? a=some o/\ObjOk H h a u
 | .cF ps=>h.get? a=some {cls:=.none,data:=.fields ps}
 | .lam ps=>h.get? a=some {cls:=.none,data:=.fields ps}
 | .met f x=>h.get? a=some (VM (.ref f) (.ref x))
 | .ext φ=>φ h/\(∃o,h.get? a=some o)/\∀h1 h2:gc,φ h1->(∀o,h1.get? a=some o->h2.get? a=some o)->φ h2
def cL (H:Hp) (h:gc):Prop:=∀a o,H a=some o->ObjOk P w H h a o
end
section
variable {P:c8} {w:ff} {H H':Hp} {h h':gc} {a:ac} {o:HO}
theorem ObjOk.lt (x:ObjOk P w H h a o):a<h.objs.size :=by
 cases o with
 |lst xs=>obtain ⟨_,_,_,_,e⟩:=x;exact ge e
 |tup xs=>obtain ⟨_,_,_,p⟩:=x;exact p.lt
 |dK ao=>obtain ⟨_,_,_,_,o,_,_,e,_⟩:=x;exact ge e
 |dT ao=>obtain ⟨_,_,_,_,o,_,_,e,_⟩:=x;exact ge e
 |set S n=>obtain ⟨o,_,_,_,e,_⟩:=x;exact ge e
 |ins C dx fs=>obtain ⟨_,_,_,e,_⟩:=x;exact ge e
 |own y=>obtain ⟨_,e⟩:=x;exact ge e
 |xd fs=>obtain ⟨_,⟨_,_,_,e,_⟩,_⟩:=x;exact ge e
 |EZ lo hi=>obtain ⟨_,_,_,e⟩:=x;exact ge e
 |bL ob u=>obtain ⟨e,_⟩:=x;exact ge e
 |cF ps=>exact ge (show h.get? a=some _ from x)
 |lam ps=>exact ge (show h.get? a=some _ from x)
 |met f y=>exact ge (show h.get? a=some _ from x)
 |ext φ=>obtain ⟨_,⟨_,e⟩,_⟩:=x;exact ge e
theorem Cn.CV {α β:Type} {F G:α->β->Prop}:∀{HS:List α} {HU:List β},Cn F HS HU->(∀a b,F a b->G a b)->Cn G HS HU
 |_,_,.nil,_=>.nil
 |_,_,.cons r t,f=>.cons (f _ _ r) (Cn.CV t f)
theorem ObjOk.b9 (x:ObjOk P w H h a o) (k:∀b u,(b=a\/H b=some (.own a))->h.get? b=some u->h'.get? b=some u)
  (ho:∀b,H b=some (.own a)->H' b=some (.own a)) (ht:∀b xs,H b=some (.tup xs)->H' b=some (.tup xs)):ObjOk P w H' h' a o :=by
 induction o with
 |lst xs=>obtain ⟨z,its,n,r,e⟩:=x;exact ⟨z,its,n,r,k _ _ (.inl rfl) e⟩
 |tup xs=>obtain ⟨z,its,r,ob,e,c⟩:=x;exact ⟨z,its,r,ob,k _ _ (.inl rfl) e,c⟩
 |dK ao=>obtain ⟨z,y,vs,r,ob,es,ep,e,c⟩:=x;exact ⟨z,y,vs,r,ob,es,ep,k _ _ (.inl rfl) e,c⟩
 |dT ao=>
  obtain ⟨z,y,xs,r,ob,es,ep,e,c⟩:=x
  exact ⟨z,y,xs,Cn.CV r fun p q z=>⟨z.1,ht _ _ z.2.1,z.2.2⟩,ob,es,ep,k _ _ (.inl rfl) e,c⟩
 |set S n=>obtain ⟨ob,es,ep,t,e,c⟩:=x;exact ⟨ob,es,ep,t,k _ _ (.inl rfl) e,c⟩
 |ins C dx fs=>
  obtain ⟨d,z,ne,e,mA,⟨od,es,ep,e2,c⟩,r⟩:=x
  exact ⟨ho _ d,z,ne,k _ _ (.inl rfl) e,mA,⟨od,es,ep,k _ _ (.inr d) e2,c⟩,r⟩
 |own y=>obtain ⟨ob,e⟩:=x;exact ⟨ob,k _ _ (.inl rfl) e⟩
 |xd fs=>obtain ⟨mA,⟨od,es,ep,e,c⟩,r⟩:=x;exact ⟨mA,⟨od,es,ep,k _ _ (.inl rfl) e,c⟩,r⟩
 |EZ lo hi=>obtain ⟨t,u,v,e⟩:=x;exact ⟨t,u,v,k _ _ (.inl rfl) e⟩
 |bL ob u ih=>obtain ⟨e,q⟩:=x;exact ⟨k _ _ (.inl rfl) e,ih q⟩
 |cF ps=>
  have e:h.get? a=some {cls:=.none,data:=.fields ps}:=x
  show h'.get? a=some {cls:=.none,data:=.fields ps}
  exact k a _ (.inl rfl) e
 |lam ps=>
  have e:h.get? a=some {cls:=.none,data:=.fields ps}:=x
  show h'.get? a=some {cls:=.none,data:=.fields ps}
  exact k a _ (.inl rfl) e
 |met f y=>
  have e:h.get? a=some (VM (.ref f) (.ref y)):=x
  show h'.get? a=some (VM (.ref f) (.ref y))
  exact k a _ (.inl rfl) e
 |ext φ=>obtain ⟨p,⟨o,e⟩,st⟩:=x;exact ⟨st _ _ p fun o q=>k _ _ (.inl rfl) q,⟨o,k _ _ (.inl rfl) e⟩,st⟩
theorem cL.lt (x:cL P w H h) (e:H a=some o):a<h.objs.size:=(x a o e).lt
theorem cL.fresh (x:cL P w H h) (e:h.objs.size<=a):H a=none :=by
 cases q:H a with
 |none=>rfl
 |some u=>exact absurd (l5 (x.lt q) e) (LM _)
theorem cL.kept (x:cL P w H h) (k:∀b u,h.get? b=some u->h'.get? b=some u):cL P w H h':=fun a o e=>
 (x a o e).b9 (fun b u _ q=>k b u q) (fun _ q=>q) fun _ _ q=>q
theorem cL.laid (x:cL P w H h) (k:∀b u,h.get? b=some u->h'.get? b=some u) (hp:h.objs.size<=a) (new:ObjOk P w (upd H a o) h' a o):cL P w (upd H a o) h':=fun b u e=>by
 have hn:=x.fresh hp
 by_cases hb:b=a
 ·subst hb;rw [ay] at e;cases e;exact new
 ·rw [af hb] at e
  exact (x b u e).b9 (fun c v _ q=>k c v q) (fun c q=>by rw [af (a8 q hn)];exact q) fun c xs q=>by rw [af (a8 q hn)];exact q
end
def Rd (H:Hp) (a:ac) (u:HO):Prop:=H a=some u\/∃o,H a=some (.bL o u)
theorem Rd.ok {P:c8} {w:ff} {H:Hp} {h:gc} {a:ac} {u:HO} (r:Rd H a u) (x:cL P w H h):ObjOk P w H h a u :=by
 rcases r with r|⟨o,r⟩
 ·exact x a u r
 ·obtain ⟨_,q⟩:=x a _ r
  exact q
def zP:Option HO->Prop
 |some (.lst _)=>True
 |some (.dK _)=>True
 |some (.dT _)=>True
 |some (.set _ _)=>True
 |some (.ins _ _ _)=>True
 |some (.ext _)=>True
 |some (.lam _)=>True
 |_=>False
section
variable {P:c8} {w:ff} {H:Hp} {h h':gc} {x e:ac} {o':HO}
theorem cL.write (ok:cL P w H h) (mu:zP (H x)) (he:e=x\/H e=some (.own x)) (k:∀b u,b≠e->h.get? b=some u->h'.get? b=some u) (xh:∃u,h'.get? e=some u)
  (new:ObjOk P w (upd H x o') h' x o'):cL P w (upd H x o') h':=fun b u q=>by
 have HV:∀c y,H c=some (.own y)->c≠x:=fun c y r z=>by subst z;rw [r] at mu;exact mu
 have P1:∀c xs,H c=some (.tup xs)->c≠x:=fun c xs r z=>by subst z;rw [r] at mu;exact mu
 by_cases hb:b=x
 ·subst hb;rw [ay] at q;cases q;exact new
 ·rw [af hb] at q
  by_cases tY:b=e
  ·have q':H b=some (.own x) :=by
    rcases he with z|z
    ·exact absurd (tY.trans z) hb
    ·rw [tY];exact z
   rw [q] at q';cases q'
   obtain ⟨v,hv⟩:=xh
   exact ⟨v,by rw [tY];exact hv⟩
  ·refine (ok b u q).b9 (fun c v hc r=>k c v ?_ r) (fun c r=>by rw [af (HV c b r)];exact r) fun c xs r=>by rw [af (P1 c xs r)];exact r
   rcases hc with rfl|hc
   ·exact tY
   ·rintro rfl
    rcases he with z|z
    ·exact HV c b hc z
    ·rw [hc] at z;cases z;exact hb rfl
end
structure Un (fs ex:List ac) (H H':Hp) (h h':gc):Prop where
 keep:∀b o,h.get? b=some o->H b=none->b ∉ fs->b ∉ ex->h'.get? b=some o
 slot:∀b o,h.get? b=some o->H b=none->b∈fs->b ∉ ex->∃sl,h'.get? b=some {o with slots:=sl}
 free:∀b o,h.get? b=some o->H b=none->b ∉ ex->H' b=none
 there:∀b o,h.get? b=some o->b ∉ ex->∃o',h'.get? b=some o'
 tups:∀b xs,H b=some (.tup xs)->H' b=some (.tup xs)
 frzs:∀b o u,H b=some (.bL o u)->H' b=some (.bL o u)
 tbls:∀b ps,H b=some (.cF ps)->∃more,H' b=some (.cF (ps++more))
section
variable {fs Rr ex Uj:List ac} {H H1 H2:Hp} {h h1 h2 h':gc} {a x e:ac} {o:HO}
theorem Un.any (u:Un fs ex H H1 h h1) {b:ac} {ob:im} (q:h.get? b=some ob) (n:H b=none) (hx:b ∉ ex):∃sl,h1.get? b=some {ob with slots:=sl}:=by
 by_cases hb:b∈fs
 ·exact u.slot b ob q n hb hx
 ·exact ⟨ob.slots,u.keep b ob q n hb hx⟩
theorem Un.kept (k:∀b u,h.get? b=some u->h'.get? b=some u):Un fs ex H H h h':=
 ⟨fun b ob q _ _ _=>k b ob q,fun b ob q _ _ _=>⟨ob.slots,k b ob q⟩,fun _ _ _ n _=>n,fun b ob q _=>⟨ob,k b ob q⟩,fun _ _ q=>q,fun _ _ _ q=>q,fun _ ps q=>⟨#[],by rw [q];simp⟩⟩
theorem Un.refl:Un fs ex H H h h:=Un.kept fun _ _ q=>q
theorem Un.laid (k:∀b u,h.get? b=some u->h'.get? b=some u) (hp:h.objs.size<=a) (hn:H a=none):Un fs ex H (upd H a o) h h' where
 keep:=fun b u q _ _ _=>k b u q
 slot:=fun b u q _ _ _=>⟨u.slots,k b u q⟩
 free:=fun b u q n _=>by rw [af (i4 (l5 (ge q) hp))];exact n
 there:=fun b u q _=>⟨u,k b u q⟩
 tups:=fun b xs q=>by rw [af (a8 q hn)];exact q
 frzs:=fun b u xs q=>by rw [af (a8 q hn)];exact q
 tbls:=fun b ps q=>⟨#[],by rw [af (a8 q hn),q];simp⟩
theorem Un.write (mu:zP (H x)) (he:e=x\/H e=some (.own x)) (k:∀b u,b≠e->h.get? b=some u->h'.get? b=some u) (xh:∃u,h'.get? e=some u):Un fs ex H (upd H x o) h h':=by
 have hx:∀b,H b=none->b≠x:=fun b n z=>by subst z;rw [n] at mu;exact mu
 have hb:∀b,H b=none->b≠e:=fun b n z=>by
  subst z
  rcases he with r|r
  ·exact hx b n r
  ·rw [n] at r;cases r
 have hm:∀b u,H b=some u->¬ zP (some u)->b≠x:=fun b u q nm z=>by subst z;rw [q] at mu;exact nm mu
 refine ⟨fun b u q n _ _=>k b u (hb b n) q,fun b u q n _ _=>⟨u.slots,k b u (hb b n) q⟩,fun b u q n _=>by rw [af (hx b n)];exact n,fun b u q _=>?_,
  fun b xs q=>by rw [af (hm b _ q fun z=>z)];exact q,fun b u xs q=>by rw [af (hm b _ q fun z=>z)];exact q,fun b ps q=>⟨#[],by rw [af (hm b _ q fun z=>z),q];simp⟩⟩
 by_cases tY:b=e
 ·subst tY;exact xh
 ·exact ⟨u,k b u tY q⟩
end
def E1 (h:gc) (H:Hp):List ac:=(l9 h.objs.size).filter fun a=>(H a).isSome
def jb (h:gc) (H:Hp):gc:=xL h (E1 h H)
theorem zQ (h:gc) (H:Hp):(jb h H).objs.size=h.objs.size:=PySem.W.hideAll_size _ _
theorem CW {h:gc} {H:Hp} {b:ac} {o:im} (e:h.get? b=some o) (n:H b=none):(jb h H).get? b=some o:=
 SS _ e fun hm=>by
  have q:(H b).isSome=true:=(EN.mp hm).2
  rw [n] at q;simp at q
theorem F8 {h:gc} {H:Hp} {b:ac} {o:im} (e:(jb h H).get? b=some o):h.get? b=some o/\H b=none :=by
 have e':h.get? b=some o:=VB (E1 h H) e
 refine ⟨e',?_⟩
 cases q:H b with
 |none=>rfl
 |some x=>
  have hm:b∈E1 h H:=EN.mpr ⟨ID.mpr (ge e'),by simp [q]⟩
  have z:(jb h H).get? b=none:=PySem.W.hideAll_none (E1 h H) hm
  rw [z] at e;cases e
def F9 (g h:gc) (L:ac):List (ac×im):=(l9 h.objs.size).filterMap fun a=>if a=L\/(g.get? a).isSome=true then none else (h.get? a).map fun o=>(a,o)
def rest (g h:gc) (L d:ac):List (ac×im):=(F9 g h L).filter fun p=>decide (p.1≠d)
structure Mod (K:ba) (mg:bi->Option al) (base:gc):Prop where
 kin:K.In base
 glob:base.Ns mainGlobals mg
 blt:∃mb,base.Ns builtinsNs mb/\∀x:bi,x ≠ "__name__" -> mb x=bootBuiltins x
 nolimit:base.NoLimit
structure Cx where
 prog:c8
 w:ff
 K:ba
 mg:bi->Option al
 base:gc
 A:l4
 N:List bi
 s₀:ar
 H₀:Hp
 env:IF
 outer:List IF
 stack:List IF
 ex:List ac
 fn:bi->Bool
 calm:Bool
 pn:List (ac×im)
 xe:al->ar->Prop
def eh (l:List IF):List ac:=l.filterMap (·.frame)
abbrev Cx.fs (X:Cx):List ac:=eh X.outer
def o9 (sc:wn) (x:bi):Prop:=sc.names.lookup x=some .local\/sc.names.lookup x=some .cell\/sc.names.lookup x=some .free
def Loc (sc:wn) (x:bi):Prop:=sc.names.lookup x=some .local\/sc.names.lookup x=some .cell
def Look (env:IF) (h:gc) (m:bi->Option al) (x:bi) (u:al):Prop:=
 (env.kindOf x=some .local/\m x=some u)\/((env.kindOf x=some .cell\/env.kindOf x=some .free)/\∃c,env.cells.lookup x=some c/\h.IsCell c (some u))
structure Cx.Ok (X:Cx):Prop where
 mod:Mod X.K X.mg X.base
 kind:X.env.scope.kind=.function
 glob:X.env.globals=mainGlobals
 blt:X.env.builtins=builtinsNs
 above:X.s₀.heap.objs.size<=X.env.locals
 inj:∀x y c,X.env.cells.lookup x=some c->X.env.cells.lookup y=some c->x=y
 has:∀x,(X.env.kindOf x=some .cell\/X.env.kindOf x=some .free)->∃c,X.env.cells.lookup x=some c
 cab:∀x c,X.fn x=true->X.env.cells.lookup x=some c->X.s₀.heap.objs.size<=c
 hd:X.calm=true->X.A.handled=none
 frames:X.A.frames=some X.stack
 stk:X.stack=X.outer\/(X.stack=X.env::X.outer/\X.env.frame=some X.env.locals)
 exf:∀b∈X.ex,b≠X.env.locals/\∀x c,X.env.cells.lookup x=some c->c≠b
 bs:∀b o,X.base.get? b=some o->X.s₀.heap.get? b=some o/\X.H₀ b=none
 bsz:X.base.objs.size<=X.s₀.heap.objs.size
 noex:∀b o,X.base.get? b=some o->b ∉ X.ex
 exfs:∀b∈X.ex,b ∉ X.fs
 funs:X.s₀.heap.FunFrames X.base X.outer
 frf:∀b∈X.fs,X.H₀ b=none
def Gn (n:Nat) (g:Array So):Prop:=Wm g/\n<=g.size
theorem Gn.self {n:Nat} {g:Array So} (x:Gn n g):Gn g.size g:=⟨x.1,cb _⟩
theorem Gn.trans {n:Nat} {g g':Array So} (x:Gn n g) (y:Gn g.size g'):Gn n g':=⟨y.1,uu x.2 y.2⟩
structure Inv (X:Cx) (pins:List (ac×im)) (σ:List (Option V)) (H:Hp) (s:ar):Prop where
 ok:X.Ok
 os:s.os=X.s₀.os
 bare:Gn X.s₀.gens.size s.gens
 base:Un X.fs X.ex X.H₀ H X.s₀.heap s.heap
 loc:∃m,s.heap.Ns X.env.locals m/\∀(i:Nat) (x:bi) (v:V),X.N[i]?=some x->σ[i]?=some (some v)->o9 X.env.scope x->∃u,RelV v u/\Look X.env s.heap m x u
 cell:∀x c,X.env.cells.lookup x=some c->∃v,s.heap.IsCell c v
 free:H X.env.locals=none
 freeC:∀x c,X.env.cells.lookup x=some c->H c=none
 pin:∀p∈X.pn++pins,s.heap.get? p.1=some p.2/\H p.1=none/\p.1≠X.env.locals/\p.1 ∉ X.fs/\∀v,p.2.data≠.cell v
 hok:cL X.prog X.w H s.heap
 len:σ.length=X.N.length
section
variable {X:Cx} {pins:List (ac×im)} {σ:List (Option V)} {H H':Hp} {s:ar} {h':gc}
theorem Cx.Ok.P2 (ok:X.Ok) {b:ac} {o:im} (e:X.base.get? b=some o):b ∉ X.fs:=fun hb=>by
 have:=(ok.funs.mem hb).1
 rw [e] at this;cases this
theorem Inv.bs (I:Inv X pins σ H s):∀b o,X.base.get? b=some o->s.heap.get? b=some o/\H b=none:=fun b o e=>
 ⟨I.base.keep b o (I.ok.bs b o e).1 (I.ok.bs b o e).2 (I.ok.P2 e) (I.ok.noex b o e),I.base.free b o (I.ok.bs b o e).1 (I.ok.bs b o e).2 (I.ok.noex b o e)⟩
theorem Inv.bk (I:Inv X pins σ H s):∀b o,X.base.get? b=some o->s.heap.get? b=some o:=fun b o e=>(I.bs b o e).1
theorem Inv.mod (I:Inv X pins σ H s):Mod X.K X.mg X.base:=I.ok.mod
theorem Inv.gf (I:Inv X pins σ H s):X.K.In s.heap:=I.ok.mod.kin.keeps I.bk
theorem Inv.nolimit (I:Inv X pins σ H s):s.heap.NoLimit:=I.ok.mod.nolimit.keeps I.bk
theorem Inv.lt (I:Inv X pins σ H s):X.env.locals<s.heap.objs.size:=let ⟨_,hn,_⟩:=I.loc;hn.lt
theorem Inv.sz (I:Inv X pins σ H s):X.s₀.heap.objs.size<=s.heap.objs.size:=uu I.ok.above (Re I.lt)
theorem Inv.HW (I:Inv X pins σ H s) {a:ac} (h:s.heap.objs.size<=a):a ∉ X.fs:=fun hb=>by
 obtain ⟨_,o,ho,_⟩:=I.ok.funs.mem hb
 exact absurd (l5 (ge ho) (uu I.sz h)) (LM _)
theorem Inv.rG (I:Inv X pins σ H s):∀x c,X.env.cells.lookup x=some c->c≠X.env.locals:=fun x c e z=>by
 obtain ⟨v,o,ho,hd⟩:=I.cell x c e
 obtain ⟨m,⟨o',es,ep,gM,jN,_⟩,_⟩:=I.loc
 rw [z,gM] at ho;cases ho;rw [jN] at hd;cases hd
theorem Inv.funs (I:Inv X pins σ H s):s.heap.FunFrames X.base X.outer :=by
 have all:∀(l:List IF),(∀b∈eh l,b∈X.fs)->X.s₀.heap.FunFrames X.base l->s.heap.FunFrames X.base l :=by
  intro l
  induction l with
  |nil=>intro _ _;trivial
  |cons env r ih=>
   intro hs hl
   obtain ⟨hk,⟨L,o,hf,hn,ho,hd⟩,hr⟩:=hl
   have hL:L∈X.fs:=hs L (by unfold eh;rw [EO,hf];exact jp)
   obtain ⟨sl,e⟩:=I.base.slot L o ho (I.ok.frf L hL) hL fun z=>I.ok.exfs L z hL
   exact ⟨hk,⟨L,_,hf,hn,e,hd⟩,ih (fun b hb=>hs b (by unfold eh;rw [EO,hf];exact gl _ hb)) hr⟩
 exact all X.outer (fun _ hb=>hb) I.ok.funs
theorem Inv.stack (I:Inv X pins σ H s):s.heap.FunFrames X.base X.stack :=by
 rcases I.ok.stk with e|⟨e,hf⟩
 ·rw [e];exact I.funs
 ·rw [e]
  obtain ⟨m,hn,_⟩:=I.loc
  refine .cons (by rw [I.ok.kind];decide) hf hn ?_ I.funs
  exact gc.get?_none_of_le (uu I.ok.bsz I.ok.above)
theorem Inv.hZ (I:Inv X pins σ H s):∀b∈eh X.stack,b∈X.env.locals::X.fs:=fun b hb=>by
 rcases I.ok.stk with e|⟨e,hf⟩
 ·rw [e] at hb;exact gl _ hb
 ·rw [e] at hb
  unfold eh at hb
  rw [EO,hf] at hb
  exact hb
theorem Inv.nB (I:Inv X pins σ H s):∀b∈eh X.stack,H b=none:=fun b hb=>by
 rcases l3.mp (I.hZ b hb) with e|hb
 ·rw [e];exact I.free
 ·obtain ⟨_,o,ho,_⟩:=I.ok.funs.mem hb
  exact I.base.free b o ho (I.ok.frf b hb) fun z=>I.ok.exfs b z hb
theorem Inv.step {g':Array So} {t':Nat} {d':Drawn} {ch:List ac} (I:Inv X pins σ H s)
  (oh:∀b∈ch,(b∈X.ex\/X.s₀.heap.objs.size<=b)/\b≠X.env.locals/\(∀x c,X.env.cells.lookup x=some c->c≠b)/\∀p∈X.pn++pins,p.1≠b)
  (keep:∀b o,b≠X.env.locals->b ∉ X.fs->b ∉ ch->s.heap.get? b=some o->H b=none->h'.get? b=some o)
  (slot:∀b o,b≠X.env.locals->b∈X.fs->b ∉ ch->s.heap.get? b=some o->H b=none->∃sl,h'.get? b=some {o with slots:=sl}) (free:∀b o,b ∉ ch->s.heap.get? b=some o->H b=none->H' b=none)
  (there:∀b o,b ∉ ch->s.heap.get? b=some o->∃o',h'.get? b=some o')
  (tups:∀b xs,H b=some (.tup xs)->H' b=some (.tup xs)) (frzs:∀b o u,H b=some (.bL o u)->H' b=some (.bL o u)) (tbls:∀b ps,H b=some (.cF ps)->∃more,H' b=some (.cF (ps++more)))
  (ns:∀m,s.heap.Ns X.env.locals m->h'.Ns X.env.locals m) (hok:cL X.prog X.w H' h') (hg:Gn s.gens.size g') :
  Inv X pins σ H' {s with heap:=h',gens:=g',drawn:=d',toks:=t'}:=by
 have Oi:∀b o,X.s₀.heap.get? b=some o->b≠X.env.locals:=fun b o e=>i4 (l5 (ge e) I.ok.above)
 have E2:∀b o,X.s₀.heap.get? b=some o->b ∉ X.ex->b ∉ ch:=fun b o e hx hb=>by
  rcases (oh b hb).1 with z|z
  ·exact hx z
  ·exact absurd (l5 (ge e) z) (LM _)
 have cellK:∀x c,X.env.cells.lookup x=some c->∀v,s.heap.IsCell c v->h'.IsCell c v:=fun x c e v ⟨o,ho,hd⟩=>by
  have zR:c ∉ ch:=fun z=>(oh c z).2.2.1 x c e rfl
  by_cases hc:c∈X.fs
  ·obtain ⟨sl,q⟩:=slot c o (I.rG x c e) hc zR ho (I.freeC x c e)
   exact ⟨_,q,hd⟩
  ·exact ⟨o,keep c o (I.rG x c e) hc zR ho (I.freeC x c e),hd⟩
 refine ⟨I.ok,I.os,I.bare.trans hg,⟨fun b o e n hb hx=>?_,fun b o e n hb hx=>?_,fun b o e n hx=>?_,fun b o e hx=>?_,fun b xs e=>tups b xs (I.base.tups b xs e),fun b o xs e=>frzs b o xs (I.base.frzs b o xs e),fun b ps e=>?_⟩,?_,fun x c e=>?_,?_,fun x c e=>?_,fun p hp=>?_,hok,I.len⟩
 ·exact keep b o (Oi b o e) hb (E2 b o e hx) (I.base.keep b o e n hb hx) (I.base.free b o e n hx)
 ·obtain ⟨sl,e1⟩:=I.base.slot b o e n hb hx
  obtain ⟨Oj,e2⟩:=slot b _ (Oi b o e) hb (E2 b o e hx) e1 (I.base.free b o e n hx)
  exact ⟨Oj,e2⟩
 ·obtain ⟨o',e1⟩:=I.base.there b o e hx
  exact free b o' (E2 b o e hx) e1 (I.base.free b o e n hx)
 ·obtain ⟨o',e1⟩:=I.base.there b o e hx
  exact there b o' (E2 b o e hx) e1
 ·obtain ⟨m1,e1⟩:=I.base.tbls b ps e
  obtain ⟨m2,e2⟩:=tbls b _ e1
  exact ⟨m1++m2,by rw [e2,Array.append_assoc]⟩
 ·obtain ⟨m,hn,hl⟩:=I.loc
  refine ⟨m,ns m hn,fun i x v e1 e2 e3=>?_⟩
  obtain ⟨u,r,l⟩:=hl i x v e1 e2 e3
  refine ⟨u,r,?_⟩
  rcases l with l|⟨k,c,e,z⟩
  ·exact .inl l
  ·exact .inr ⟨k,c,e,cellK x c e _ z⟩
 ·obtain ⟨v,z⟩:=I.cell x c e
  exact ⟨v,cellK x c e v z⟩
 ·obtain ⟨m,⟨o,_,_,ho,_⟩,_⟩:=I.loc
  exact free _ o (fun z=>(oh _ z).2.1 rfl) ho I.free
 ·obtain ⟨v,o,ho,hd⟩:=I.cell x c e
  exact free c o (fun z=>(oh c z).2.2.1 x c e rfl) ho (I.freeC x c e)
 ·obtain ⟨e,n,ne,nf,d⟩:=I.pin p hp
  have zR:p.1 ∉ ch:=fun z=>(oh p.1 z).2.2.2 p hp rfl
  exact ⟨keep p.1 p.2 ne nf zR e n,free p.1 p.2 zR e n,ne,nf,d⟩
theorem Inv.un {t':Nat} (I:Inv X pins σ H s) (u:Un X.fs [] H H' s.heap h') (hok:cL X.prog X.w H' h'):Inv X pins σ H' {s with heap:=h',toks:=t'}:=by
 obtain ⟨m,⟨o,es,ep,ho,r⟩,_⟩:=id I.loc
 obtain ⟨sl,hL⟩:=u.any ho I.free (by simp)
 exact I.step (g':=s.gens) (d':=s.drawn) (ch:=[]) (fun _ z=>nomatch z) (fun b o _ hb _ e n=>u.keep b o e n hb (by simp)) (fun b o _ hb _ e n=>u.slot b o e n hb (by simp)) (fun b o _ e n=>u.free b o e n (by simp)) (fun b o _ e=>u.there b o e (by simp)) u.tups u.frzs u.tbls (fun m' hm=>by
  obtain ⟨o',h8,HX,gM,r'⟩:=hm
  rw [ho] at gM;cases gM
  exact ⟨_,h8,HX,hL,r'⟩) hok I.bare.self
theorem Inv.call {g':Array So} {t':Nat} {d':Drawn} {ch:List ac} (I:Inv X pins σ H s) (u:Un (eh X.stack) ch H H' s.heap h') (hok:cL X.prog X.w H' h') (hg:Gn s.gens.size g')
  (oh:∀b∈ch,(b∈X.ex\/X.s₀.heap.objs.size<=b)/\b≠X.env.locals/\(∀x c,X.env.cells.lookup x=some c->c≠b)/\∀p∈X.pn++pins,p.1≠b) :
  Inv X pins σ H' {s with heap:=h',gens:=g',drawn:=d',toks:=t'}:=by
 obtain ⟨m,⟨o,es,ep,ho,r⟩,_⟩:=id I.loc
 obtain ⟨sl,hL⟩:=u.any ho I.free fun z=>(oh _ z).2.1 rfl
 exact I.step (ch:=ch) oh (fun b o hL hb hc e n=>u.keep b o e n (fun z=>(l3.mp (I.hZ b z)).elim hL hb) hc) (fun b o _ _ hc e n=>u.any e n hc) (fun b o hc e n=>u.free b o e n hc) (fun b o hc e=>u.there b o e hc) u.tups u.frzs u.tbls (fun m' hm=>by
  obtain ⟨o',h8,HX,gM,r'⟩:=hm
  rw [ho] at gM;cases gM
  exact ⟨_,h8,HX,hL,r'⟩) hok hg
theorem Inv.turned {t':Nat} {it:ac} (I:Inv X pins σ H s) (k:∀b o,b≠it->s.heap.get? b=some o->h'.get? b=some o) (hn:H it=none) (hL:it≠X.env.locals)
  (h1:it∈X.ex\/X.s₀.heap.objs.size<=it) (h2:∀x c,X.env.cells.lookup x=some c->c≠it) (h3:∀p∈X.pn++pins,p.1≠it):Inv X pins σ H {s with heap:=h',toks:=t'}:=by
 have zS:∀b u,H b=some u->b≠it:=fun b u e z=>by rw [z,hn] at e;cases e
 refine I.step (g':=s.gens) (d':=s.drawn) (ch:=[it]) (fun b hb=>?_) (fun b o _ _ hc e _=>k b o (fun z=>hc (by simp [z])) e) (fun b o _ _ hc e _=>⟨o.slots,k b o (fun z=>hc (by simp [z])) e⟩) (fun _ _ _ _ n=>n)
  (fun b o hc e=>⟨o,k b o (fun z=>hc (by simp [z])) e⟩) (fun _ _ e=>e) (fun _ _ _ e=>e) (fun b ps e=>⟨#[],by rw [e];simp⟩) (fun m hm=>?_) (fun b u e=>?_) I.bare.self
 ·have e:b=it :=by simpa using hb
  subst e
  exact ⟨h1,hL,h2,h3⟩
 ·obtain ⟨o,es,ep,ho,r⟩:=hm
  exact ⟨o,es,ep,k _ o (xz hL) ho,r⟩
 ·refine (I.hok b u e).b9 (fun c v hc q=>k c v ?_ q) (fun _ q=>q) fun _ _ q=>q
  rcases hc with z|z
  ·rw [z];exact zS b u e
  ·exact zS c _ z
theorem Inv.tok (I:Inv X pins σ H s) (t:Nat):Inv X pins σ H {s with toks:=t}:=I.un (h':=s.heap) (t':=t) Un.refl I.hok
theorem Inv.kept {t':Nat} (I:Inv X pins σ H s) (k:∀b u,s.heap.get? b=some u->h'.get? b=some u):Inv X pins σ H {s with heap:=h',toks:=t'}:=I.un (Un.kept k) (I.hok.kept k)
theorem Inv.laid {a:ac} {o:HO} {t':Nat} (I:Inv X pins σ H s) (k:∀b u,s.heap.get? b=some u->h'.get? b=some u) (hp:s.heap.objs.size<=a) (new:ObjOk X.prog X.w (upd H a o) h' a o) :
  Inv X pins σ (upd H a o) {s with heap:=h',toks:=t'}:=I.un (Un.laid k hp (I.hok.fresh hp)) (I.hok.laid k hp new)
theorem Inv.write {x e:ac} {o:HO} {t':Nat} (I:Inv X pins σ H s) (mu:zP (H x)) (he:e=x\/H e=some (.own x)) (k:∀b u,b≠e->s.heap.get? b=some u->h'.get? b=some u) (xh:∃u,h'.get? e=some u)
  (new:ObjOk X.prog X.w (upd H x o) h' x o):Inv X pins σ (upd H x o) {s with heap:=h',toks:=t'}:=I.un (Un.write mu he k xh) (I.hok.write mu he k xh new)
theorem Inv.qD {pins':List (ac×im)} (I:Inv X pins σ H s) (h:∀p∈pins',s.heap.get? p.1=some p.2/\H p.1=none/\p.1≠X.env.locals/\p.1 ∉ X.fs/\∀v,p.2.data≠.cell v):Inv X pins' σ H s:=
 ⟨I.ok,I.os,I.bare,I.base,I.loc,I.cell,I.free,I.freeC,fun p hp=>(zd.mp hp).elim (fun z=>I.pin p (Ch _ z)) (h p),I.hok,I.len⟩
theorem tZ {N:List bi} (hN:N.Nodup) {i j:Nat} {x:bi} (a:N[i]?=some x) (b:N[j]?=some x):i=j :=by
 obtain ⟨h1,e1⟩:=bv.mp a
 obtain ⟨h2,e2⟩:=bv.mp b
 exact (List.getElem_inj hN).mp (e1.trans e2.symm)
theorem store_ok2 {M:Model} {A:l4} {E:al->ar->Prop} {i:Nat} {x:bi} {v:V} {u:al} {Q:Unit->ar->Prop} (I:Inv X pins σ H s) (hN:X.N.Nodup) (hi:X.N[i]?=some x) (hx:Loc X.env.scope x) (r:RelV v u)
  (h:∀s',Inv X pins (σ.set i (some v)) H s'->(∃a,u7 a s.heap s'.heap/\(a=X.env.locals\/X.env.cells.lookup x=some a))->Q () s') (hf:X.fn x=true\/X.env.scope.names.lookup x=some .local :=by first|exact .inl rfl|exact .inr rfl|assumption):wpAny M A (storeName X.env x u) Q E s :=by
 obtain ⟨m,hn,hl⟩:=id I.loc
 have P4:(X.env.scope.kind==.class || (X.env.scope.kind==.module && X.env.locals != X.env.globals))=false :=by rw [I.ok.kind];rfl
 have HY:i<σ.length :=by rw [I.len];exact (bv.mp hi).1
 have rG:=I.rG
 have tracked:∀{a:ac} {h':gc},(∃o,s.heap.get? a=some o/\H a=none)->u7 a s.heap h'->cL X.prog X.w H h':=fun {a h'} ha hs b ob e=>by
  obtain ⟨_,_,nC⟩:=ha
  refine (I.hok b ob e).b9 (fun c w' hc q=>(hs.2 c ?_).trans q) (fun _ q=>q) fun _ _ q=>q
  rintro rfl
  rcases hc with rfl|hc
  ·rw [nC] at e;cases e
  ·rw [nC] at hc;cases hc
 rcases hx with hk|hk
 ·refine wpAny_storeName_local hk hn (fun h' zT hs=>?_) P4
  obtain ⟨oL,_,_,zU,_⟩:=id hn
  refine h _ ⟨I.ok,I.os,I.bare,⟨fun b o e n hb hx=>?_,fun b o e n hb hx=>?_,I.base.free,fun b o e hx=>?_,I.base.tups,I.base.frzs,I.base.tbls⟩,⟨_,zT,fun j y v' e1 e2 e3=>?_⟩,fun y c e=>?_,I.free,I.freeC,fun p hp=>?_,tracked ⟨oL,zU,I.free⟩ hs,by simpa using I.len⟩ ⟨_,hs,.inl rfl⟩
  ·exact (hs.2 b (i4 (l5 (ge e) I.ok.above))).trans (I.base.keep b o e n hb hx)
  ·obtain ⟨sl,e1⟩:=I.base.slot b o e n hb hx
   exact ⟨sl,(hs.2 b (i4 (l5 (ge e) I.ok.above))).trans e1⟩
  ·obtain ⟨o',e1⟩:=I.base.there b o e hx
   exact ⟨o',(hs.2 b (i4 (l5 (ge e) I.ok.above))).trans e1⟩
  ·by_cases hj:j=i
   ·subst hj
    rw [hi] at e1;cases e1
    rw [UX HY] at e2
    cases e2
    exact ⟨u,r,.inl ⟨hk,by simp⟩⟩
   ·rw [List.getElem?_set_ne (xz hj)] at e2
    obtain ⟨u',r',q⟩:=hl j y v' e1 e2 e3
    refine ⟨u',r',?_⟩
    rcases q with ⟨k,e⟩|⟨k,c,e,z⟩
    ·refine .inl ⟨k,?_⟩
     have:y≠x:=fun e=>hj (tZ hN e1 (e▸hi))
     simp [this,e]
    ·exact .inr ⟨k,c,e,z.sameBut hs (rG y c e)⟩
  ·obtain ⟨w',z⟩:=I.cell y c e
   exact ⟨w',z.sameBut hs (rG y c e)⟩
  ·obtain ⟨e,n,ne,nf,d⟩:=I.pin p hp
   exact ⟨(hs.2 p.1 ne).trans e,n,ne,nf,d⟩
 ·have pf:X.fn x=true :=by
   rcases hf with z|z
   ·exact z
   ·rw [z] at hk;cases hk
  obtain ⟨c,hc⟩:=I.ok.has x (.inl hk)
  obtain ⟨w',z⟩:=I.cell x c hc
  refine wpAny_storeName_cell I.ok.kind hk hc z (fun h' E3 hs=>?_)
  obtain ⟨oc,rH,P5⟩:=id z
  refine h {s with heap:=h'} ⟨I.ok,I.os,I.bare,⟨fun b o e n hb hx=>?_,fun b o e n hb hx=>?_,I.base.free,fun b o e hx=>?_,I.base.tups,I.base.frzs,I.base.tbls⟩,⟨m,hn.sameBut hs (xz (rG x c hc)),fun j y v' e1 e2 e3=>?_⟩,fun y c' e=>?_,I.free,I.freeC,fun p hp=>?_,tracked ⟨oc,rH,I.freeC x c hc⟩ hs,by simpa using I.len⟩ ⟨c,hs,.inr hc⟩
  ·exact (hs.2 b (i4 (l5 (ge e) (I.ok.cab x c pf hc)))).trans (I.base.keep b o e n hb hx)
  ·obtain ⟨sl,e1⟩:=I.base.slot b o e n hb hx
   exact ⟨sl,(hs.2 b (i4 (l5 (ge e) (I.ok.cab x c pf hc)))).trans e1⟩
  ·obtain ⟨o',e1⟩:=I.base.there b o e hx
   exact ⟨o',(hs.2 b (i4 (l5 (ge e) (I.ok.cab x c pf hc)))).trans e1⟩
  ·by_cases hj:j=i
   ·subst hj
    rw [hi] at e1;cases e1
    rw [UX HY] at e2
    cases e2
    exact ⟨u,r,.inr ⟨.inl hk,c,hc,E3⟩⟩
   ·rw [List.getElem?_set_ne (xz hj)] at e2
    obtain ⟨u',r',q⟩:=hl j y v' e1 e2 e3
    refine ⟨u',r',?_⟩
    rcases q with q|⟨k,c',e,z'⟩
    ·exact .inl q
    ·refine .inr ⟨k,c',e,z'.sameBut hs ?_⟩
     rintro rfl
     exact hj (tZ hN e1 (I.ok.inj _ _ _ e hc▸hi))
  ·by_cases Ol:c'=c
   ·subst Ol;exact ⟨_,E3⟩
   ·obtain ⟨w2,z2⟩:=I.cell y c' e
    exact ⟨w2,z2.sameBut hs Ol⟩
  ·obtain ⟨e,n,ne,nf,d⟩:=I.pin p hp
   refine ⟨(hs.2 p.1 ?_).trans e,n,ne,nf,d⟩
   intro q
   rw [q,rH] at e
   have q':oc=p.2:=ij e
   exact d w' (by rw [<- q'];exact P5)
theorem kW {M:Model} {A:l4} {E:al->ar->Prop} {i:Nat} {x:bi} {v:V} {u:al} {Q:Unit->ar->Prop} (I:Inv X pins σ H s) (hN:X.N.Nodup) (hi:X.N[i]?=some x) (hx:Loc X.env.scope x) (r:RelV v u)
  (h:∀s',Inv X pins (σ.set i (some v)) H s'->Q () s') (hf:X.fn x=true\/X.env.scope.names.lookup x=some .local :=by first|exact .inl rfl|exact .inr rfl|assumption):wpAny M A (storeName X.env x u) Q E s:=
 store_ok2 I hN hi hx r (fun s' I' _=>h s' I') hf
theorem Inv.yi {s':ar} {ch:List ac} (I:Inv X pins σ H s) (ho:s'.os=s.os) (u:Un (eh X.stack) ch H H' s.heap s'.heap) (hok:cL X.prog X.w H' s'.heap) (hg:Gn s.gens.size s'.gens)
  (oh:∀b∈ch,(b∈X.ex\/X.s₀.heap.objs.size<=b)/\b≠X.env.locals/\(∀x c,X.env.cells.lookup x=some c->c≠b)/\∀p∈X.pn++pins,p.1≠b):Inv X pins σ H' s':=by
 obtain ⟨h',g',d',t',o'⟩:=s'
 have e:o'=s.os:=ho
 subst e
 exact I.call (g':=g') (t':=t') (d':=d') u hok hg oh
end
abbrev XK:=al->Option ac->Hp->Prop
abbrev St:=List (Option V)
abbrev VK:=V->Hp->Prop
abbrev TE:=St->Hp->VK->Prop
abbrev TT:=St->Hp->(Bool->Hp->Prop)->Prop
abbrev TA:=St->Hp->(List V->Hp->Prop)->Prop
structure Ends where
 nx:St->Hp->Prop
 rt:VK
 bk:St->Hp->Prop:=fun _ _=>False
 ct:St->Hp->Prop:=fun _ _=>False
abbrev TS:=Ends->St->Hp->Prop
def EP (X:Cx) (pins:List (ac×im)) (σ:St) (Q:VK) (u:al) (s':ar):Prop:=∃v H',Inv X pins σ H' s'/\RelV v u/\Q v H'
def TP (X:Cx) (pins:List (ac×im)) (σ:St) (Q:Bool->Hp->Prop) (b:Bool) (s':ar):Prop:=∃H',Inv X pins σ H' s'/\Q b H'
def AP (X:Cx) (pins:List (ac×im)) (σ:St) (Q:List V->Hp->Prop) (us:List al) (s':ar):Prop:=∃vs H',Inv X pins σ H' s'/\Vals vs us/\Q vs H'
def SP (X:Cx) (pins:List (ac×im)) (D:Ends) (f:Flow) (s':ar):Prop:=
 match f with
 | .next=>∃aH H',Inv X pins aH H' s'/\D.nx aH H'
 | .brk=>∃aH H',Inv X pins aH H' s'/\D.bk aH H'
 | .cont=>∃aH H',Inv X pins aH H' s'/\D.ct aH H'
 | .ret u=>∃v aH H',Inv X pins aH H' s'/\RelV v u/\D.rt v H'
structure PE (X:Cx) (e:cr) (t:TE):Prop where
 run:∀(pins:List (ac×im)) (s:ar) (σ:St) (H:Hp) (Q:VK),Inv X pins σ H s->t σ H Q->wpAny (model X.prog X.w) X.A (eval e X.env) (EP X pins σ Q) X.xe s
instance {X:Cx} {e:cr} {t:TE}:CoeFun (PE X e t) (fun _=>∀(pins:List (ac×im)) (s:ar) (σ:St) (H:Hp) (Q:VK),Inv X pins σ H s->t σ H Q->wpAny (model X.prog X.w) X.A (eval e X.env) (EP X pins σ Q) X.xe s):=⟨PE.run⟩
structure PT (X:Cx) (e:cr) (t:TT):Prop where
 run:∀(pins:List (ac×im)) (s:ar) (σ:St) (H:Hp) (Q:Bool->Hp->Prop),Inv X pins σ H s->t σ H Q->wpAny (model X.prog X.w) X.A (isTrue e X.env (eval e X.env)) (TP X pins σ Q) X.xe s
instance {X:Cx} {e:cr} {t:TT}:CoeFun (PT X e t) (fun _=>∀(pins:List (ac×im)) (s:ar) (σ:St) (H:Hp) (Q:Bool->Hp->Prop),Inv X pins σ H s->t σ H Q->wpAny (model X.prog X.w) X.A (isTrue e X.env (eval e X.env)) (TP X pins σ Q) X.xe s):=⟨PT.run⟩
def PW (X:Cx) (e:cr) (t:TT):Prop:=
 ∀(whole:VC al) (pins:List (ac×im)) (s:ar) (σ:St) (H:Hp) (Q:Bool->Hp->Prop),Inv X pins σ H s->t σ H Q->wpAny (model X.prog X.w) X.A (isTrue e X.env whole) (TP X pins σ Q) X.xe s
theorem PW.pt {X:Cx} {e:cr} {t:TT} (h:PW X e t):PT X e t:=⟨h _⟩
structure PA (X:Cx) (es:List cr) (t:TA):Prop where
 run:∀(pos:ul) (pins:List (ac×im)) (s:ar) (σ:St) (H:Hp) (Q:List V->Hp->Prop),Inv X pins σ H s->t σ H Q->wpAny (model X.prog X.w) X.A (spliced (backTo pos (starEach es X.env))) (AP X pins σ Q) X.xe s
instance {X:Cx} {es:List cr} {t:TA}:CoeFun (PA X es t) (fun _=>∀(pos:ul) (pins:List (ac×im)) (s:ar) (σ:St) (H:Hp) (Q:List V->Hp->Prop),Inv X pins σ H s->t σ H Q->wpAny (model X.prog X.w) X.A (spliced (backTo pos (starEach es X.env))) (AP X pins σ Q) X.xe s):=⟨PA.run⟩
structure PS (X:Cx) (st:mv) (t:TS):Prop where
 run:∀(pins:List (ac×im)) (s:ar) (σ:St) (H:Hp) (D:Ends),Inv X pins σ H s->t D σ H->wpAny (model X.prog X.w) X.A (exec st X.env) (SP X pins D) X.xe s
instance {X:Cx} {st:mv} {t:TS}:CoeFun (PS X st t) (fun _=>∀(pins:List (ac×im)) (s:ar) (σ:St) (H:Hp) (D:Ends),Inv X pins σ H s->t D σ H->wpAny (model X.prog X.w) X.A (exec st X.env) (SP X pins D) X.xe s):=⟨PS.run⟩
structure fW (X:Cx) (st:List mv) (t:TS):Prop where
 run:∀(pins:List (ac×im)) (s:ar) (σ:St) (H:Hp) (D:Ends),Inv X pins σ H s->t D σ H->wpAny (model X.prog X.w) X.A (execs st X.env) (SP X pins D) X.xe s
instance {X:Cx} {st:List mv} {t:TS}:CoeFun (fW X st t) (fun _=>∀(pins:List (ac×im)) (s:ar) (σ:St) (H:Hp) (D:Ends),Inv X pins σ H s->t D σ H->wpAny (model X.prog X.w) X.A (execs st X.env) (SP X pins D) X.xe s):=⟨fW.run⟩
theorem thn {α:Type} {t:VC α} {Q Q':α->ar->Prop} {M:Model} {A:l4} {E:al->ar->Prop} {s:ar} (h:wpAny M A t Q E s) (hQ:∀a s,Q a s->Q' a s):wpAny M A t Q' E s:=l6 h hQ fun _ _ x=>x
section
variable {X:Cx}
theorem bin {a b:cr} {ta tb:TE} (ha:PE X a ta) (hb:PE X b tb) {pins:List (ac×im)} {s:ar} {σ:St} {H:Hp} {R:V->V->Hp->Prop} (I:Inv X pins σ H s) (h:ta σ H fun x H1=>tb σ H1 fun y H2=>R x y H2)
  {α:Type} {Q:α->ar->Prop} {f:al->al->VC α}
  (hf:∀v u s2 x y H2,Inv X pins σ H2 s2->RelV x v->RelV y u->R x y H2->wpAny (model X.prog X.w) X.A (f v u) Q X.xe s2) :
  wpAny (model X.prog X.w) X.A (eval a X.env) (fun v aw=>wpAny (model X.prog X.w) X.A (eval b X.env) (fun u gP=>wpAny (model X.prog X.w) X.A (f v u) Q X.xe gP) X.xe aw) X.xe s :=by
 refine thn (ha pins s σ H _ I h) fun v s1 ⟨x,H1,I1,r1,q1⟩=>?_
 refine thn (hb pins s1 σ H1 _ I1 q1) fun u s2 ⟨y,H2,I2,r2,q2⟩=>?_
 exact hf v u s2 x y H2 I2 r1 r2 q2
def HZ (i:Nat):TE:=fun σ H Q=>∃v,σ[i]?=some (some v)/\Q v H
def tC (v:V):TE:=fun _ H Q=>Q v H
theorem t5 {i:Nat} {x:bi} {pos:ul} (hN:X.N[i]?=some x) (hv:o9 X.env.scope x) (hd:(x==("__debug__" : bi))=false :=by decide) (dG:(x==("__classdict__" : bi))=false :=by decide):PE X (.Name x pos) (HZ i) :=by
 refine ⟨?_⟩
 intro pins s σ H Q I h
 obtain ⟨v,e,h⟩:=h
 obtain ⟨m,hn,hl⟩:=I.loc
 obtain ⟨u,r,l⟩:=hl i x v hN e hv
 have fin:EP X pins σ Q u s:=⟨v,H,I,r,h⟩
 rcases l with ⟨hk,hm⟩|⟨hk,c,hc,tK⟩
 ·exact wpAny_Name (wpAny_loadName_local I.ok.kind hk hn hm fin) hd
 ·rcases hk with hk|hk
  ·exact wpAny_Name (wpAny_loadName_cell I.ok.kind hk hc tK fin) hd
  ·exact wpAny_Name (wpAny_loadName_free I.ok.kind hk hc tK fin dG) hd
theorem Ia {i j pos}:PE X (.Constant (.int i) j pos) (tC (.int i)):=⟨fun _ _ _ H _ I h=>wpAny_Constant_int ⟨.int i,H,I.tok _,⟨_,rfl⟩,h⟩⟩
theorem MG {b j pos}:PE X (.Constant (.bool b) j pos) (tC (.bl b)):=⟨fun _ _ _ H _ I h=>Constant_bool ⟨.bl b,H,I,rfl,h⟩⟩
theorem Ib {x j pos}:PE X (.Constant (.str x) j pos) (tC (.str x)):=⟨fun _ _ _ H _ I h=>Calls.Constant_str ⟨.str x,H,I.tok _,⟨_,rfl⟩,h⟩⟩
def Gl (X:Cx) (x:bi):Prop:=X.env.kindOf x=some .globalImplicit
theorem nE {E:al->ar->Prop} {pins:List (ac×im)} {s:ar} {σ:St} {H:Hp} {x:bi} {u:al} {pos:ul} {Q:al->ar->Prop} (I:Inv X pins σ H s) (hg:Gl X x) (hm:X.mg x=some u) (h:Q u s)
  (hd:(x==("__debug__" : bi))=false :=by decide):wpAny (model X.prog X.w) X.A (eval (.Name x pos) X.env) Q E s:=
 Calls.Name_function_global I.ok.kind hg (Calls.loadGlobal_global (by rw [I.ok.glob];exact I.mod.glob.keeps I.bk) hm h) hd
theorem fw {E:al->ar->Prop} {pins:List (ac×im)} {s:ar} {σ:St} {H:Hp} {x:bi} {u:al} {pos:ul} {Q:al->ar->Prop} (I:Inv X pins σ H s) (hg:Gl X x) (hm:X.mg x=none) (hv:bootBuiltins x=some u) (h:Q u s)
  (hn:x ≠ "__name__" := by decide) (hd:(x==("__debug__" : bi))=false :=by decide):wpAny (model X.prog X.w) X.A (eval (.Name x pos) X.env) Q E s :=by
 obtain ⟨mb,h1,h2⟩:=I.mod.blt
 exact Calls.Name_function_global I.ok.kind hg (Calls.loadGlobal_builtin (by rw [I.ok.glob];exact I.mod.glob.keeps I.bk) hm (by rw [I.ok.blt];exact h1.keeps I.bk) ((h2 x hn).trans hv) h) hd
theorem xi {x:bi} {v:V} {u:al} {pos:ul} (hg:Gl X x) (hm:X.mg x=some u) (r:RelV v u) (hd:(x==("__debug__" : bi))=false :=by decide):PE X (.Name x pos) (tC v):=⟨fun _ _ _ H _ I h=>nE I hg hm ⟨v,H,I,r,h⟩ hd⟩
theorem Ga {x:bi} {v:V} {u:al} {pos:ul} (hg:Gl X x) (hm:X.mg x=none) (hv:bootBuiltins x=some u) (r:RelV v u) (hn:x ≠ "__name__" := by decide) (hd:(x==("__debug__" : bi))=false :=by decide):PE X (.Name x pos) (tC v):=⟨fun _ _ _ H _ I h=>fw I hg hm hv ⟨v,H,I,r,h⟩ hn hd⟩
variable {a b:cr} {ta tb:TE} {pos:ul}
def PC (X:Cx) (op:SB) (a b:cr) (t:TE):Prop:=
 ∀(pins:List (ac×im)) (s:ar) (σ:St) (H:Hp) (Q:VK),Inv X pins σ H s->t σ H Q->
  wpAny (model X.prog X.w) X.A (eval a X.env) (fun v aw=>wpAny (model X.prog X.w) X.A (eval b X.env) (fun u gP=>wpAny (model X.prog X.w) X.A (compareOp op v u) (EP X pins σ Q) X.xe gP) X.xe aw) X.xe s
theorem CY (b:cr) {op:SB} (h:op≠.In) (h2:op≠.NotIn):behindInMarks op b=false :=by
 have e1:(op==SB.In)=false :=by cases op <;> first|rfl|exact absurd rfl h
 have e2:(op==SB.NotIn)=false :=by cases op <;> first|rfl|exact absurd rfl h2
 cases b <;> simp [behindInMarks,e1,e2]
def tB (t:TE):TT:=fun σ H Q=>t σ H fun x H1=>∃c,x=.bl c/\Q c H1
theorem Rt {op:SB} {t:TE} (h:PC X op a b t) (h1:behindInMarks op b=false :=by first|exact CY _ (by decide) (by decide)|rfl):PT X (.Compare a [op] [b] pos) (tB t) :=by
 refine ⟨?_⟩
 intro pins s σ H Q I hw
 refine wpAny_isTrue_Compare1 (thn (h pins s σ H _ I hw) fun v s1 h1=>thn h1 fun u s2 h2=>thn h2 fun c s3 ⟨x,H1,I1,r1,q1⟩=>?_) h1
 obtain ⟨d,rfl,q⟩:=q1
 cases r1
 exact AM ⟨H1,I1,q⟩
theorem Ic {e:cr} {t:TE} (h:PE X e t) (he:∀whole,isTrue e X.env whole=(do let v <- whole;standAt e.pos;holding [v] (truthy v)) :=by intro _;rfl):PT X e (tB t) :=by
 refine ⟨?_⟩
 intro pins s σ H Q I hw
 refine isTrue_plain (thn (h pins s σ H _ I hw) fun v s1 ⟨x,H1,I1,r1,q1⟩=>?_) (he _)
 obtain ⟨d,rfl,q⟩:=q1
 cases r1
 exact AM ⟨H1,I1,q⟩
variable {tA ph:TT} {rest:List cr}
def P6 (t u:TT):TT:=fun σ H Q=>t σ H fun c H1=>if c=true then u σ H1 Q else Q false H1
def Ru (t u:TT):TT:=fun σ H Q=>t σ H fun c H1=>if c=true then Q true H1 else u σ H1 Q
def P7 (t:TT):TT:=fun σ H Q=>t σ H fun c H1=>Q (!c) H1
theorem Gb (ha:PT X a tA):PW X (.BoolOp .And [a] pos) tA :=by
 intro wh pins s σ H Q I h
 refine isTrue_and (thn (ha pins s σ H Q I h) fun c s1 e=>?_)
 cases c with
 |true=>exact isTrue_and_nil e
 |false=>exact e
theorem Ie (ha:PT X a tA):PW X (.BoolOp .Or [a] pos) tA :=by
 intro wh pins s σ H Q I h
 refine isTrue_or (thn (ha pins s σ H Q I h) fun c s1 e=>?_)
 cases c with
 |false=>exact isTrue_or_nil e
 |true=>exact e
theorem Ig (ha:PT X a tA) (hb:PW X (.BoolOp .And (b::rest) pos) ph):PW X (.BoolOp .And (a::b::rest) pos) (P6 tA ph) :=by
 intro wh pins s σ H Q I h
 refine isTrue_and (thn (ha pins s σ H _ I h) fun c s1 ⟨H1,I1,q1⟩=>?_)
 cases c with
 |true=>exact hb wh pins s1 σ H1 Q I1 q1
 |false=>exact ⟨H1,I1,q1⟩
theorem MH (ha:PT X a tA) (hb:PW X (.BoolOp .Or (b::rest) pos) ph):PW X (.BoolOp .Or (a::b::rest) pos) (Ru tA ph) :=by
 intro wh pins s σ H Q I h
 refine isTrue_or (thn (ha pins s σ H _ I h) fun c s1 ⟨H1,I1,q1⟩=>?_)
 cases c with
 |true=>exact ⟨H1,I1,q1⟩
 |false=>exact hb wh pins s1 σ H1 Q I1 q1
theorem Ih (ha:PT X a tA):PT X (.UnaryOp .Not a pos) (P7 tA) :=by
 refine ⟨?_⟩
 intro pins s σ H Q I h
 exact isTrue_not (ha pins s σ H (fun c H1=>Q (!c) H1) I h)
def MI (ta tb:TE):TE:=fun σ H Q=>ta σ H fun x H1=>∃c,x=.bl c/\if c=true then tb σ H1 Q else Q (.bl false) H1
def MJ (ta:TE):TE:=fun σ H Q=>ta σ H fun x H1=>∃c,x=.bl c/\Q (.bl (!c)) H1
theorem Ii {op} {t:TE} (h:PE X a t):PE X (.BoolOp op [a] pos) t:=⟨fun pins s σ H Q I hw=>BoolOp_one (h pins s σ H Q I hw)⟩
theorem Ij (ha:PE X a ta) (hb:PE X (.BoolOp .And (b::rest) pos) tb):PE X (.BoolOp .And (a::b::rest) pos) (MI ta tb) :=by
 refine ⟨?_⟩
 intro pins s σ H Q I h
 refine BoolOp_and (thn (ha pins s σ H _ I h) fun v s1 ⟨x,H1,I1,r1,q1⟩=>?_)
 obtain ⟨c,rfl,q1⟩:=q1
 cases r1
 refine AM ?_
 cases c with
 |true=>exact hb pins s1 σ H1 Q I1 q1
 |false=>exact ⟨.bl false,H1,I1,rfl,q1⟩
theorem Ik (ha:PE X a ta):PE X (.UnaryOp .Not a pos) (MJ ta) :=by
 refine ⟨?_⟩
 intro pins s σ H Q I h
 refine UnaryOp_ (thn (ha pins s σ H _ I h) fun v s1 ⟨x,H1,I1,r1,q1⟩=>?_)
 obtain ⟨c,rfl,q1⟩:=q1
 cases r1
 exact not_of (AM ⟨.bl (!c),H1,I1,rfl,q1⟩)
end
def bN (K:ba) (H:Hp) (a:ac) (xs:List V):Prop:=
 Rd H a (.lst xs) \/
  ∃(o:im) (its:Array al) (n:Nat),K.lookup a=some o/\o.cls=.type "list" /\ o.dict=none/\o.data=.seq its n/\its.size<=sizeLine/\Vals xs its.toList
def cM (K:ba) (H:Hp) (a:ac) (xs:List V):Prop:=
 Rd H a (.tup xs) \/
  ∃(o:im) (its:Array al) (n:Nat),K.lookup a=some o/\o.cls=.type "tuple" /\ o.data=.seq its n/\its.size<=sizeLine/\Vals xs its.toList
def P8:al->Option V
 | .none=>some .av
 | .bool b=>some (.bl b)
 | .int i _=>some (.int i)
 | .str x _=>some (.str x)
 | .bytes b _=>some (.i9 b)
 | .float b _=>some (.xf b)
 | .ref a=>some (.ref a)
 | .type n=>some (.ty n)
 |_=>none
theorem RelV.abs {x:V} {u:al} (r:RelV x u):P8 u=some x :=by
 cases x with
 |av=>cases r;rfl
 |bl _=>cases r;rfl
 |int _=>obtain ⟨t,rfl⟩:=r;rfl
 |str _=>obtain ⟨t,rfl⟩:=r;rfl
 |i9 _=>obtain ⟨t,rfl⟩:=r;rfl
 |xf _=>obtain ⟨t,rfl⟩:=r;rfl
 |ref _=>cases r;rfl
 |ty _=>cases r;rfl
theorem RelV.inj {x y:V} {u:al} (r:RelV x u) (q:RelV y u):x=y:=ij (r.abs.symm.trans q.abs)
theorem Vals.inj:∀{xs ys:List V} {us:List al},Vals xs us->Vals ys us->xs=ys
 |_,_,_,.nil,.nil=>rfl
 |_,_,_,.cons r t,.cons r' t'=>by rw [r.inj r',Vals.inj t t']
section
variable {X:Cx} {pins:List (ac×im)} {σ:St} {H:Hp} {s:ar} {a:ac} {xs ys:List V}
theorem bN.of {K:ba} (h:H a=some (.lst xs)):bN K H a xs:=.inl (.inl h)
theorem cM.of {K:ba} (h:H a=some (.tup xs)):cM K H a xs:=.inl (.inl h)
theorem Inv.list (I:Inv X pins σ H s) (h:bN X.K H a xs):∃its:List al,Vals xs its/\PlainL s.heap a its.toArray/\xs.length<=sizeLine :=by
 rcases h with h|⟨o,its,n,hk,hc,hd,hs,hz,r⟩
 ·obtain ⟨z,its,n,r,e⟩:=h.ok I.hok
  exact ⟨its,r,⟨_,n,e,rfl,rfl,rfl⟩,z⟩
 ·refine ⟨its.toList,r,⟨o,n,I.gf a o hk,hc,hd,by simpa using hs⟩,?_⟩
  have e:=r.length
  simp only [mT] at e
  omega
theorem Inv.tuple (I:Inv X pins σ H s) (h:cM X.K H a xs):∃its:List al,Vals xs its/\IsTup s.heap a its.toArray/\xs.length<=sizeLine :=by
 rcases h with h|⟨o,its,n,hk,hc,hs,hz,r⟩
 ·obtain ⟨z,its,r,p⟩:=h.ok I.hok
  exact ⟨its,r,j9.tup p,z⟩
 ·refine ⟨its.toList,r,⟨o,I.gf a o hk,hc,n,by simpa using hs⟩,?_⟩
  have e:=r.length
  simp only [mT] at e
  omega
theorem Inv.t6 (I:Inv X pins σ H s) (h:bN X.K H a xs) (h':bN X.K H a ys):xs=ys :=by
 obtain ⟨its,r,⟨o,n,e,_,_,d⟩,_⟩:=I.list h
 obtain ⟨its',r',⟨o',n',e',_,_,d'⟩,_⟩:=I.list h'
 rw [e] at e';cases e'
 rw [d] at d'
 injection d' with d1 _
 have:its=its':=by simpa using congrArg Array.toList d1
 subst this
 exact r.inj r'
theorem Inv.rJ (I:Inv X pins σ H s) (h:cM X.K H a xs) (h':cM X.K H a ys):xs=ys :=by
 obtain ⟨its,r,⟨o,e,_,n,d⟩,_⟩:=I.tuple h
 obtain ⟨its',r',⟨o',e',_,n',d'⟩,_⟩:=I.tuple h'
 rw [e] at e';cases e'
 rw [d] at d'
 injection d' with d1 _
 have:its=its':=by simpa using congrArg Array.toList d1
 subst this
 exact r.inj r'
end
abbrev Cx.ix (X:Cx) (E:al->ar->Prop):Cx:={X with xe:=E}
abbrev Cx.iE (X:Cx):Cx:=X.ix fun _ _=>False
theorem Cx.Ok.ix {X:Cx} (ok:X.Ok) (E:al->ar->Prop):(X.ix E).Ok:=
 ⟨ok.mod,ok.kind,ok.glob,ok.blt,ok.above,ok.inj,ok.has,ok.cab,ok.hd,ok.frames,ok.stk,ok.exf,ok.bs,ok.bsz,ok.noex,ok.exfs,ok.funs,ok.frf⟩
theorem Cx.Ok.fx {X:Cx} {E:al->ar->Prop} (ok:(X.ix E).Ok):X.Ok:=
 ⟨ok.mod,ok.kind,ok.glob,ok.blt,ok.above,ok.inj,ok.has,ok.cab,ok.hd,ok.frames,ok.stk,ok.exf,ok.bs,ok.bsz,ok.noex,ok.exfs,ok.funs,ok.frf⟩
section
variable {X:Cx} {pins:List (ac×im)} {σ:St} {H:Hp} {s:ar} {E:al->ar->Prop}
theorem Inv.ix (I:Inv X pins σ H s) (E:al->ar->Prop):Inv (X.ix E) pins σ H s:=⟨I.ok.ix E,I.os,I.bare,I.base,I.loc,I.cell,I.free,I.freeC,I.pin,I.hok,I.len⟩
theorem Inv.fx (I:Inv (X.ix E) pins σ H s):Inv X pins σ H s:=⟨I.ok.fx,I.os,I.bare,I.base,I.loc,I.cell,I.free,I.freeC,I.pin,I.hok,I.len⟩
theorem SP.fx {D:Ends} {f:Flow} {s':ar} (h:SP (X.ix E) pins D f s'):SP X pins D f s':=by
 cases f with
 |next=>obtain ⟨aH,H',I,q⟩:=h;exact ⟨aH,H',I.fx,q⟩
 |brk=>obtain ⟨aH,H',I,q⟩:=h;exact ⟨aH,H',I.fx,q⟩
 |cont=>obtain ⟨aH,H',I,q⟩:=h;exact ⟨aH,H',I.fx,q⟩
 |ret u=>obtain ⟨v,aH,H',I,r,q⟩:=h;exact ⟨v,aH,H',I.fx,r,q⟩
theorem PE.iE {e:cr} {t:TE} (h:PE X.iE e t):PE X e t:=⟨fun pins s σ H Q I hw=>
 l6 (h pins s σ H Q (I.ix _) hw) (fun _ _ ⟨v,H',I',r,q⟩=>⟨v,H',I'.fx,r,q⟩) fun _ _ z=>Co z⟩
theorem fW.iE {st:List mv} {t:TS} (h:fW X.iE st t):fW X st t:=⟨fun pins s σ H D I hw=>
 l6 (h pins s σ H D (I.ix _) hw) (fun _ _ q=>q.fx) fun _ _ z=>Co z⟩
end
section
variable {X:Cx} {st:mv} {rest:List mv} {t u:TS} {e:cr} {te:TE} {pos:ul}
def MK:TS:=fun D σ H=>D.nx σ H
def P9 (t u:TS):TS:=fun D σ H=>t {D with nx:=u D} σ H
theorem Gd:fW X [] MK:=⟨fun _ _ σ H _ I h=>Vd ⟨σ,H,I,h⟩⟩
theorem CZ (h1:PS X st t) (h2:fW X rest u):fW X (st::rest) (P9 t u) :=by
 refine ⟨?_⟩
 intro pins s σ H D I h
 refine wpAny_execs_cons (thn (h1 pins s σ H {D with nx:=u D} I h) fun f s1 q=>?_)
 cases f with
 |next=>
  obtain ⟨aH,H',I',q⟩:=q
  exact h2 pins s1 aH H' D I' q
 |ret v=>exact q
 |brk=>exact q
 |cont=>exact q
theorem Ge (h1:PS X st t):fW X [st] t :=by
 refine ⟨?_⟩
 intro pins s σ H D I h
 refine wpAny_execs_cons (thn (h1 pins s σ H D I h) fun f s1 q=>?_)
 cases f with
 |next=>exact Vd q
 |ret v=>exact q
 |brk=>exact q
 |cont=>exact q
theorem Inv.quiet {pins:List (ac×im)} {σ:St} {H:Hp} {s:ar} (I:Inv X pins σ H s):interactive X.env=false :=by simp [interactive,I.ok.kind]
def ML (te:TE):TS:=fun D σ H=>te σ H fun _ H1=>D.nx σ H1
theorem Gf (he:PE X e te) (hs:swapsWith e none pos.line X.env=pure false :=by rfl):PS X (.Expr e pos) (ML te) :=by
 refine ⟨?_⟩
 intro pins s σ H D I h
 exact wpAny_Expr_any (thn (he pins s σ H _ I h) fun v s1 ⟨x,H1,I1,r1,q1⟩=>⟨σ,H1,I1,q1⟩) I.quiet hs
def Qa (te:TE):TS:=fun D σ H=>te σ H D.rt
theorem Il (he:PE X e te):PS X (.Return (some e) pos) (Qa te) :=by
 refine ⟨?_⟩
 intro pins s σ H D I h
 exact wpAny_Return_some (thn (he pins s σ H _ I h) fun v s1 ⟨x,H1,I1,r1,q1⟩=>⟨x,σ,H1,I1,r1,q1⟩)
def Qb (c:TT) (t u:TS):TS:=fun D σ H=>c σ H fun b H1=>if b=true then t D σ H1 else u D σ H1
theorem MM {c:cr} {a b:List mv} {tc:TT} (hc:PT X c tc) (ha:fW X a t) (hb:fW X b u):PS X (.If c a b pos) (Qb tc t u) :=by
 refine ⟨?_⟩
 intro pins s σ H D I h
 refine wpAny_If (thn (hc pins s σ H _ I h) fun d s1 ⟨H1,I1,q1⟩=>?_)
 cases d with
 |true=>exact ha pins s1 σ H1 D I1 q1
 |false=>exact hb pins s1 σ H1 D I1 q1
end
abbrev TG:=V->St->Hp->(St->Hp->Prop)->Prop
abbrev pj:=List V->St->Hp->(St->Hp->Prop)->Prop
def PG (X:Cx) (target:cr) (t:TG):Prop:=
 ∀(pins:List (ac×im)) (s:ar) (σ:St) (H:Hp) (v:V) (u:al) (Q:St->Hp->Prop),Inv X pins σ H s->RelV v u->t v σ H Q->
  wpAny (model X.prog X.w) X.A (assign target X.env u) (fun _ s'=>∃aH H',Inv X pins aH H' s'/\Q aH H') X.xe s
def rK (X:Cx) (ts:List cr) (t:pj):Prop:=
 ∀(pins:List (ac×im)) (s:ar) (σ:St) (H:Hp) (vs:List V) (us:List al) (Q:St->Hp->Prop),Inv X pins σ H s->Vals vs us->t vs σ H Q->
  wpAny (model X.prog X.w) X.A (assignInOrder ((assignEach ts X.env).map (·.2)) us) (fun _ s'=>∃aH H',Inv X pins aH H' s'/\Q aH H') X.xe s
abbrev C1:=V->V->V->Hp->(Hp->Prop)->Prop
def Im (X:Cx) (t:C1):Prop:=
 ∀(pins:List (ac×im)) (s:ar) (σ:St) (H:Hp) (o i v:V) (ov iv u:al) (Q:Hp->Prop),Inv X pins σ H s->RelV o ov->RelV i iv->RelV v u->t o i v H Q->
  wpAny (model X.prog X.w) X.A (setItem ov iv u) (fun _ s'=>∃H',Inv X pins σ H' s'/\Q H') X.xe s
section
variable {X:Cx} {pos:ul}
def tL (i:Nat):TG:=fun v σ H Q=>Q (σ.set i (some v)) H
theorem Gg {i:Nat} {x:bi} (hN:X.N.Nodup) (hi:X.N[i]?=some x) (hx:Loc X.env.scope x) (hf:X.fn x=true\/X.env.scope.names.lookup x=some .local :=by first|exact .inl rfl|exact .inr rfl|assumption):PG X (.Name x pos) (tL i) :=by
 intro pins s σ H v u Q I r h
 exact wpAny_assign_Name (kW I hN hi hx r (fun s' I'=>⟨_,H,I',h⟩) hf)
def Qc:pj:=fun vs σ H Q=>vs=[]/\Q σ H
def MN (t:TG) (u:pj):pj:=fun vs σ H Q=>∃v r,vs=v::r/\t v σ H fun aH H'=>u r aH H' Q
theorem Gh:rK X [] Qc :=by
 intro pins s σ H vs us Q I r h
 obtain ⟨e,h⟩:=h
 subst e
 cases r
 exact assignInOrder_nil ⟨σ,H,I,h⟩
theorem C2 {e:cr} {es:List cr} {t:TG} {u:pj} (h1:PG X e t) (h2:rK X es u)
  (hs:(assignEach (e::es) X.env).map (·.2)=assign e X.env::(assignEach es X.env).map (·.2) :=by rfl):rK X (e::es) (MN t u) :=by
 intro pins s σ H vs us Q I r h
 obtain ⟨v,vr,e1,h⟩:=h
 subst e1
 cases r with
 |cons r rr=>
  rw [hs]
  refine VD (thn (h1 pins s σ H _ _ _ I r h) fun _ s1 ⟨pq,H1,I1,q1⟩=>?_)
  exact h2 pins s1 pq H1 _ _ Q I1 rr q1
def Qd (K:ba) (n:Nat) (t:pj):TG:=fun v σ H Q=>∃a xs,v=.ref a/\cM K H a xs/\xs.length=n/\t xs σ H Q
theorem Io {es:List cr} {k:Nat} {t:pj} {n:Nat} (hc:X.calm=true) (h:rK X es t)
  (hn:(assignEach es X.env).length=n :=by rfl) (lV:(assignEach es X.env).findIdx? (·.1)=none :=by rfl):PG X (.Tuple es k pos) (Qd X.K n t) :=by
 intro pins s σ H v u Q I r hw
 obtain ⟨a,xs,e1,hq,hl,hw⟩:=hw
 subst e1
 cases r
 obtain ⟨its,rv,ht,hz⟩:=I.tuple hq
 refine assign_Tuple_tuple (I.ok.hd hc) ht (by simp [hn,<- hl,rv.length]) lV fun h' hx=>?_
 have I1:Inv X pins σ H {s with heap:=h'}:=I.kept (t':=s.toks) fun b o e=>hx b o (i4 (ge e)) e
 exact h pins _ σ H xs _ Q I1 (by simpa using rv) hw
def Qe (to ti:TE) (t:C1):TG:=fun v σ H Q=>to σ H fun o H1=>ti σ H1 fun i H2=>t o i v H2 fun H3=>Q σ H3
theorem Ip {o i:cr} {to ti:TE} {t:C1} (ho:PE X o to) (hi:PE X i ti) (hs:Im X t)
  (ha:∀v,assign (.Subscript o i pos) X.env v=(do
   let ov <- holding [v] (eval o X.env)
   let iv <- holding [v,ov] (eval i X.env)
   standAt pos
   holding [v,ov,iv] (setItem ov iv v)
   release [v,ov,iv] []) :=by intro _;rfl):PG X (.Subscript o i pos) (Qe to ti t) :=by
 intro pins s σ H v u Q I r h
 rw [ha]
 refine ap (Db (thn (ho pins s σ H _ I h) fun ov s1 ⟨x,H1,I1,r1,q1⟩=>?_))
 refine ap (Db (thn (hi pins s1 σ H1 _ I1 q1) fun iv s2 ⟨y,H2,I2,r2,q2⟩=>?_))
 refine ap (AS (ap (Db (thn (hs pins s2 σ H2 x y v ov iv u _ I2 r1 r2 r q2) fun _ s3 ⟨H3,I3,q3⟩=>?_))))
 exact wpAny_release ⟨σ,H3,I3,q3⟩
def t7 (te:TE) (g:TG):TS:=fun D σ H=>te σ H fun x H1=>g x σ H1 D.nx
theorem Iq {tg e:cr} {te:TE} {g:TG} (he:PE X e te) (hg:PG X tg g) (hs:swapsWithSole [tg] e pos.line X.env=pure false :=by rfl) (hw:swappedStores [tg] e X.env=pure none :=by rfl)
  (h1:(assignEach [tg] X.env).map (·.2)=[assign tg X.env] :=by rfl):PS X (.Assign [tg] e pos) (t7 te g) :=by
 refine ⟨?_⟩
 intro pins s σ H D I h
 refine wpAny_Assign_stores (thn (he pins s σ H _ I h) fun v s1 ⟨x,H1,I1,r1,q1⟩=>?_) hs hw
 rw [h1]
 exact thn (hg pins s1 σ H1 x v _ I1 r1 q1) fun _ s2 q=>q
theorem Ir {i:Nat} {x:bi} {e:cr} {te:TE} {pos':ul} (hN:X.N.Nodup) (hi:X.N[i]?=some x) (hx:Loc X.env.scope x) (he:PE X e te) (hs:swapsWith e (some (.Name x pos')) pos.line X.env=pure false :=by rfl) (hf:X.fn x=true\/X.env.scope.names.lookup x=some .local :=by first|exact .inl rfl|exact .inr rfl|assumption) :
  PS X (.Assign [.Name x pos'] e pos) (t7 te (tL i)) :=by
 refine ⟨?_⟩
 intro pins s σ H D I h
 refine wpAny_Assign_Name (thn (he pins s σ H _ I h) fun v s1 ⟨y,H1,I1,r1,q1⟩=>?_) hs
 exact kW I1 hN hi hx r1 (fun s2 I2=>⟨_,H1,I2,q1⟩) hf
def Qf (i j:Nat) (ta:TA):TS:=fun D σ H=>ta σ H fun vs H1=>∃v w,vs=[v,w]/\D.nx ((σ.set i (some v)).set j (some w)) H1
theorem Iu {i j:Nat} {x y:bi} {a b:cr} {ta:TA} {px py pt:ul} {kt k2 t8} (hc:X.calm=true) (hN:X.N.Nodup) (hi:X.N[i]?=some x) (hj:X.N[j]?=some y) (oi:i≠j)
  (hx:X.env.scope.names.lookup x=some .local) (hy:X.env.scope.names.lookup y=some .local) (ha:PA X [a,b] ta)
  (hw:swappedStores [.Tuple [.Name x px,.Name y py] kt pt] (.Tuple [a,b] k2 t8) X.env=pure (some [x,y]))
  (hs:swapsWithSole [.Tuple [.Name x px,.Name y py] kt pt] (.Tuple [a,b] k2 t8) pos.line X.env=pure false :=by rfl) :
  PS X (.Assign [.Tuple [.Name x px,.Name y py] kt pt] (.Tuple [a,b] k2 t8) pos) (Qf i j ta) :=by
 refine ⟨?_⟩
 intro pins s σ H D I h
 rw [exec_Assign_arm]
 refine ap (AS ?_)
 rw [hs]
 refine ap (br ?_)
 rw [if_neg (by decide)]
 refine ap (Tuple_ (thn (ha _ pins s σ H _ I h) fun us s1 ⟨vs,H1,I1,r1,q1⟩=>?_))
 obtain ⟨v,w,e1,q1⟩:=q1
 subst e1
 obtain ⟨u1,u2,rfl,rv,jc⟩:∃u1 u2,us=[u1,u2]/\RelV v u1/\RelV w u2 :=by
  cases r1 with
  |cons p q=>
   cases q with
   |cons p' q'=>
    cases q'
    exact ⟨_,_,rfl,p,p'⟩
 refine v6 ?_ (by show 2<=sizeLine;decide)
 have I2:Inv X pins σ H1 {s1 with heap:=s1.heap.push {cls:=.type "tuple",data:=.seq [u1,u2].toArray}}:=I1.kept (t':=s1.toks) fun b o e=>bn _ e
 rw [hw]
 refine ap (br ?_)
 show wpAny (model X.prog X.w) X.A (do rule "assign.swapped-stores";let items <- unpackItems (.ref s1.heap.objs.size) 2 none;assignInOrder [fun v=>bindName X.env y v,fun v=>bindName X.env x v] items.reverse;pure Flow.next) _ _ _
 refine ap (ET (ap (unpackItems_tuple (items:=#[u1,u2]) (I.ok.hd hc) (IsTup.new s1.heap _) fun h' oj=>?_)))
 have I3:=I2.kept (h':=h') (t':=s1.toks) fun b o e=>oj b o (i4 (ge e)) e
 show wpAny _ _ (assignInOrder [fun v=>bindName X.env y v,fun v=>bindName X.env x v] [u2,u1]>>=fun _=>pure Flow.next) _ _ _
 refine ap (VD (wpAny_bindName (kW I3 hN hj (.inl hy) jc (fun s2 I4=>?_) (.inr hy))))
 refine VD (wpAny_bindName (kW I4 hN hi (.inl hx) rv (fun s3 I5=>assignInOrder_nil (br ?_)) (.inr hx)))
 rw [List.set_comm _ _ (xz oi)] at I5
 exact ⟨_,H1,I5,q1⟩
end
section
variable {X:Cx} {pos:ul}
def zV (c:TT) (tb:TS):TS:=fun D σ H=>∃W:Nat->St->Hp->Prop,(∃m,W m σ H)/\∀m σ H,W m σ H->
 c σ H fun b H1=>if b=true then ∃N:St->Hp->Prop,(∀aH H',N aH H'->∃m',m'<m/\W m' aH H')/\tb {D with nx:=N,ct:=N,bk:=D.nx} σ H1 else D.nx σ H1
theorem C3 {c:cr} {body:List mv} {tc:TT} {tb:TS} (hp:Wc (model X.prog X.w) X.A X.env X.xe) (hc:PT X c tc) (hb:fW X body tb):PS X (.While c body [] pos) (zV tc tb) :=by
 refine ⟨?_⟩
 intro pins s σ H D I h
 obtain ⟨W,⟨m0,w0⟩,turn⟩:=h
 refine wpAny_While (codeAny_whileLoop (fun n s'=>∃aH H',Inv X pins aH H' s'/\W n aH H') ?_ m0 ⟨σ,H,I,w0⟩)
 rintro n s1 ⟨pq,H1,I1,w1⟩
 refine Lo hp (thn (hc pins s1 pq H1 _ I1 (turn n pq H1 w1)) fun b s2 ⟨H2,I2,q2⟩=>?_)
 cases b with
 |true=>
  obtain ⟨N,hN,q2⟩:=q2
  rw [if_pos rfl]
  refine Lo hp (thn (hb pins s2 pq H2 _ I2 q2) fun f s3 q3=>?_)
  cases f with
  |next=>
   obtain ⟨lW,H3,I3,n3⟩:=q3
   obtain ⟨m',hm,w3⟩:=hN lW H3 n3
   exact ⟨m',hm,lW,H3,I3,w3⟩
  |cont=>
   obtain ⟨lW,H3,I3,n3⟩:=q3
   obtain ⟨m',hm,w3⟩:=hN lW H3 n3
   exact ⟨m',hm,lW,H3,I3,w3⟩
  |brk=>exact q3
  |ret v=>exact q3
 |false=>
  rw [if_neg io]
  exact Vd ⟨pq,H2,I2,q2⟩
end
structure It where
 go:Nat->Hp->Prop
 yld:Nat->Hp->V->Hp->Prop
 stop:Nat->Hp->Prop
def dy (X:Cx) (pins:List (ac×im)) (H:Hp) (b:ac):Prop:=
 H b=none/\b≠X.env.locals/\b ∉ X.fs/\(b∈X.ex\/X.s₀.heap.objs.size<=b)/\(∀x c,X.env.cells.lookup x=some c->c≠b)/\∀p∈X.pn++pins,p.1≠b
theorem Inv.kX {X:Cx} {pins:List (ac×im)} {σ:St} {H H':Hp} {s:ar} {b:ac} (I:Inv X pins σ H s) (hb:s.heap.objs.size<=b) (hn:H' b=none):dy X pins H' b :=by
 refine ⟨hn,NG (l5 I.lt hb),I.HW hb,.inr (uu I.sz hb),fun x c e z=>?_,fun p hp z=>?_⟩
 ·obtain ⟨v,q⟩:=I.cell x c e
  exact absurd (l5 q.lt (by rw [z];exact hb)) (LM _)
 ·exact absurd (l5 (ge (I.pin p hp).1) (by rw [z];exact hb)) (LM _)
structure Turn (P:c8) (w:ff) (K:ba) (tg:cr) (J:It) (fp:List ac) (it:ac) (tn:Nat->gc->Prop):Prop where
 mem:it∈fp
 obj:∀i h,tn i h->∀b∈fp,∃o,h.get? b=some o/\∀v,o.data≠.cell v
 keep:∀i h h',tn i h->(∀b∈fp,∀o,h.get? b=some o->h'.get? b=some o)->tn i h'
 item:∀(X:Cx),X.prog=P->X.w=w->X.K=K->X.calm=true->∀(i:Nat) (pins:List (ac×im)) (s:ar) (σ:St) (H:Hp) (E:al->ar->Prop),Inv X pins σ H s->(∀b∈fp,dy X pins H b)->tn i s.heap->J.go i H->
  wpAny (model P w) X.A (pyNext (.ref it)) (fun r s1=>∃u,r=some u /\
   wpAny (model P w) X.A (letOwnedTupleGo tg (.ref it) u) (fun _ s2=>∃x H',Inv X pins σ H' s2/\RelV x u/\J.yld i H x H'/\tn (i+1) s2.heap/\∀b∈fp,H' b=none) E s1) E s
 done:∀(X:Cx),X.prog=P->X.w=w->X.K=K->X.calm=true->∀(i:Nat) (pins:List (ac×im)) (s:ar) (σ:St) (H:Hp) (E:al->ar->Prop),Inv X pins σ H s->(∀b∈fp,dy X pins H b)->tn i s.heap->J.stop i H->
  wpAny (model P w) X.A (pyNext (.ref it)) (fun r s1=>r=none/\Inv X pins σ H s1) E s
 self:∀(A:l4) (i:Nat) (s:ar) (Q:al->ar->Prop) (E:al->ar->Prop),tn i s.heap->Q (.ref it) s->wpAny (model P w) A (pyIter (.ref it)) Q E s
abbrev TI:=St->Hp->(It->Hp->Prop)->Prop
def Iv (X:Cx) (pins:List (ac×im)) (σ:St) (tg:cr) (R:It->Hp->Prop) (zW:al) (s2:ar):Prop:=
 ∃(it:ac) (fp:List ac) (tn:Nat->gc->Prop) (J:It) (H':Hp),zW=.ref it/\Inv X pins σ H' s2/\Turn X.prog X.w X.K tg J fp it tn/\tn 0 s2.heap/\(∀b∈fp,dy X pins H' b)/\R J H'
def PI (X:Cx) (tg iter:cr) (wi:TI):Prop:=
 ∀(pins:List (ac×im)) (s:ar) (σ:St) (H:Hp) (R:It->Hp->Prop),Inv X pins σ H s->wi σ H R->
  wpAny (model X.prog X.w) X.A (eval iter X.env) (fun v s1=>wpAny (model X.prog X.w) X.A (pyIter v) (Iv X pins σ tg R) X.xe s1) X.xe s
theorem pz {M:Model} {A:l4} {E:al->ar->Prop} {s:ar} {tg:cr} {it:ac} {u:al} {o:im} {n:String} {vs:Array al} {Q:Unit->ar->Prop} (ho:s.heap.get? it=some o) (hc:o.cls=.type n) (hd:o.data=.fields vs)
  (hn:["enumerate","zip","dict_itemiterator","dict_reverseitemiterator","odict_iterator","itertools.zip_longest","itertools.pairwise"].contains n=false) (hQ:Q () s):wpAny M A (letOwnedTupleGo tg (.ref it) u) Q E s :=by
 unfold letOwnedTupleGo
 cases tg <;> first
  |exact br hQ
  |(cases u <;> first
    |exact br hQ
    |(refine ap (Wr ho ?_)
      rw [hc,hd]
      show wpAny M A (if (["enumerate","zip","dict_itemiterator","dict_reverseitemiterator","odict_iterator","itertools.zip_longest","itertools.pairwise"].contains n && vs[0]?==some (rawInt _))=true then _ else _) Q E s
      rw [if_neg (by intro h;rw [hn,Vr] at h;cases h)]
      exact br hQ))
def Iw (K:ba) (a:ac):It:=
 ⟨fun i H=>∃xs x,bN K H a xs/\xs[i]?=some x,fun i H x H'=>H'=H/\∀xs,bN K H a xs->xs[i]?=some x,fun i H=>∃xs,bN K H a xs/\xs.length<=i⟩
def Iy (K:ba) (a:ac):It:=
 ⟨fun i H=>∃xs x,cM K H a xs/\xs[i]?=some x,fun i H x H'=>H'=H/\∀xs,cM K H a xs->xs[i]?=some x,fun i H=>∃xs,cM K H a xs/\xs.length<=i⟩
def zX (lo:Int) (n:Nat):It:=⟨fun i _=>i<n,fun i H x H'=>H'=H/\x=.int (lo+i),fun i _=>n<=i⟩
theorem zY {P:c8} {w:ff} {K:ba} {tg:cr} (a it:ac):Turn P w K tg (Iw K a) [it] it (fun i h=>h.IsListIter it a i) where
 mem :=by simp
 obj:=fun i h st b hb=>by
  have e:b=it :=by simpa using hb
  subst e
  obtain ⟨o,e,c,d⟩:=st
  exact ⟨o,e,fun v z=>by rw [d] at z;cases z⟩
 keep:=fun i h h' st k=>st.at fun o e=>k it (by simp) o e
 item :=by
  intro X hP hw hK hc i pins s σ H E I hf st hg
  subst hP hw hK
  obtain ⟨xs,x,hq,hx⟩:=hg
  obtain ⟨its,rv,p,hz⟩:=I.list hq
  obtain ⟨u,hu,ru⟩:=rv.get hx
  obtain ⟨f0,f1,f2,f3,f4,f5⟩:=hf it (by simp)
  refine wpAny_pyNext_list_item st p.isList (x:=u) (by simpa using hu) fun h' jO sb=>?_
  have I1:Inv X pins σ H {s with heap:=h'}:=I.turned (t':=s.toks) (fun b o hb e=>(sb.2 b hb).trans e) f0 f1 f3 f4 f5
  obtain ⟨o,e,c,d⟩:=id jO
  exact ⟨u,rfl,pz (s:={s with heap:=h'}) e c d (by decide) ⟨x,H,I1,ru,⟨rfl,fun ys hy=>by rw [I.t6 hy hq];exact hx⟩,jO,fun b hb=>(hf b hb).1⟩⟩
 done :=by
  intro X hP hw hK hc i pins s σ H E I hf st hg
  subst hP hw hK
  obtain ⟨xs,hq,hx⟩:=hg
  obtain ⟨its,rv,p,hz⟩:=I.list hq
  obtain ⟨f0,f1,f2,f3,f4,f5⟩:=hf it (by simp)
  have hl:=rv.length
  exact wpAny_pyNext_list_end (I.ok.hd hc) st p.isList (by simp;omega) fun h' eb=>⟨rfl,I.turned (t':=s.toks) (fun b o hb e=>eb b o hb e) f0 f1 f3 f4 f5⟩
 self:=fun _ _ _ _ _ st h=>wpAny_pyIter_listiter st h
theorem yj {P:c8} {w:ff} {K:ba} {tg:cr} (a it:ac):Turn P w K tg (Iy K a) [it] it (fun i h=>h.IsTupleIter it a i) where
 mem :=by simp
 obj:=fun i h st b hb=>by
  have e:b=it :=by simpa using hb
  subst e
  obtain ⟨o,e,c,d⟩:=st
  exact ⟨o,e,fun v z=>by rw [d] at z;cases z⟩
 keep:=fun i h h' st k=>st.at fun o e=>k it (by simp) o e
 item :=by
  intro X hP hw hK hc i pins s σ H E I hf st hg
  subst hP hw hK
  obtain ⟨xs,x,hq,hx⟩:=hg
  obtain ⟨its,rv,p,hz⟩:=I.tuple hq
  obtain ⟨u,hu,ru⟩:=rv.get hx
  obtain ⟨f0,f1,f2,f3,f4,f5⟩:=hf it (by simp)
  refine wpAny_pyNext_tuple_item st (show s.heap.IsTuple a its.toArray from p) (x:=u) (by simpa using hu) fun h' jO sb=>?_
  have I1:Inv X pins σ H {s with heap:=h'}:=I.turned (t':=s.toks) (fun b o hb e=>(sb.2 b hb).trans e) f0 f1 f3 f4 f5
  obtain ⟨o,e,c,d⟩:=id jO
  exact ⟨u,rfl,pz (s:={s with heap:=h'}) e c d (by decide) ⟨x,H,I1,ru,⟨rfl,fun ys hy=>by rw [I.rJ hy hq];exact hx⟩,jO,fun b hb=>(hf b hb).1⟩⟩
 done :=by
  intro X hP hw hK hc i pins s σ H E I hf st hg
  subst hP hw hK
  obtain ⟨xs,hq,hx⟩:=hg
  obtain ⟨its,rv,p,hz⟩:=I.tuple hq
  obtain ⟨f0,f1,f2,f3,f4,f5⟩:=hf it (by simp)
  have hl:=rv.length
  exact wpAny_pyNext_tuple_end (I.ok.hd hc) st (show s.heap.IsTuple a its.toArray from p) (by simp;omega) fun h' eb=>⟨rfl,I.turned (t':=s.toks) (fun b o hb e=>eb b o hb e) f0 f1 f3 f4 f5⟩
 self:=fun _ _ _ _ _ st h=>wpAny_pyIter_tupleiter st h
theorem yk {P:c8} {w:ff} {K:ba} {tg:cr} (it:ac) (lo:Int) (n:Nat):Turn P w K tg (zX lo n) [it] it (fun i h=>IsRangeIter h it (lo+(i:Nat) * 1) ((n:Int) - (i:Nat)) 1) where
 mem :=by simp
 obj:=fun i h st b hb=>by
  have e:b=it :=by simpa using hb
  subst e
  exact ⟨_,st,fun v z=>by
   have z':Data.fields _=Data.cell v:=z
   cases z'⟩
 keep:=fun i h h' st k=>k it (by simp) _ st
 item :=by
  intro X hP hw hK hc i pins s σ H E I hf st hg
  subst hP hw hK
  obtain ⟨f0,f1,f2,f3,f4,f5⟩:=hf it (by simp)
  have W:=Wx.range (prog:=X.prog) (w:=X.w) (I.ok.hd hc) it lo 1 n
  refine W.item i s _ _ hg st fun v h' tk hv jO kk=>?_
  obtain ⟨t,rfl⟩:=hv
  have I1:Inv X pins σ H {s with heap:=h',toks:=tk}:=I.turned (fun b o hb e=>kk b o (by simpa using hb) e) f0 f1 f3 f4 f5
  refine ⟨_,rfl,pz (s:={s with heap:=h',toks:=tk}) (n := "range_iterator") jO rfl rfl (by decide) ⟨.int (lo+i),H,I1,⟨t,?_⟩,⟨rfl,rfl⟩,jO,fun b hb=>(hf b hb).1⟩⟩
  rw [Int.mul_one]
 done :=by
  intro X hP hw hK hc i pins s σ H E I hf st hg
  subst hP hw hK
  obtain ⟨f0,f1,f2,f3,f4,f5⟩:=hf it (by simp)
  exact wpAny_pyNext_range_end (I.ok.hd hc) st (by have:n<=i:=hg;omega) fun h' eb=>⟨rfl,I.turned (t':=s.toks) (fun b o hb e=>eb b o hb e) f0 f1 f3 f4 f5⟩
 self:=fun _ _ _ _ _ st h=>wpAny_pyIter_rangeiter st h
section
variable {X:Cx} {tg:cr}
def E4 (K:ba) (tl:TE):TI:=fun σ H R=>tl σ H fun x H1=>∃a,x=.ref a/\(∃xs,bN K H1 a xs)/\R (Iw K a) H1
def Iz (K:ba) (tl:TE):TI:=fun σ H R=>tl σ H fun x H1=>∃a,x=.ref a/\(∃xs,cM K H1 a xs)/\R (Iy K a) H1
theorem Gi {l:cr} {tl:TE} (hl:PE X l tl):PI X tg l (E4 X.K tl) :=by
 intro pins s σ H R I h
 refine thn (hl pins s σ H _ I h) fun v s1 ⟨x,H1,I1,r1,q1⟩=>?_
 obtain ⟨a,e,⟨xs,hq⟩,q⟩:=q1
 subst e
 cases r1
 obtain ⟨its,rv,p,hz⟩:=I1.list hq
 refine wpAny_pyIter_list p.isList ?_
 refine ⟨s1.heap.objs.size,[s1.heap.objs.size],_,_,H1,rfl,I1.kept (t':=s1.toks) fun b o e=>bn _ e,zY a _,⟨_,dL _ rfl,rfl,rfl⟩,fun b hb=>?_,q⟩
 have e:b=s1.heap.objs.size :=by simpa using hb
 subst e
 exact I1.kX (cb _) (I1.hok.fresh (cb _))
theorem IA {l:cr} {tl:TE} (hl:PE X l tl):PI X tg l (Iz X.K tl) :=by
 intro pins s σ H R I h
 refine thn (hl pins s σ H _ I h) fun v s1 ⟨x,H1,I1,r1,q1⟩=>?_
 obtain ⟨a,e,⟨xs,hq⟩,q⟩:=q1
 subst e
 cases r1
 obtain ⟨its,rv,p,hz⟩:=I1.tuple hq
 refine UK (show s1.heap.IsTuple a its.toArray from p) ?_
 refine ⟨s1.heap.objs.size,[s1.heap.objs.size],_,_,H1,rfl,I1.kept (t':=s1.toks) fun b o e=>bn _ e,yj a _,⟨_,dL _ rfl,rfl,rfl⟩,fun b hb=>?_,q⟩
 have e:b=s1.heap.objs.size :=by simpa using hb
 subst e
 exact I1.kX (cb _) (I1.hok.fresh (cb _))
theorem t9 {pins:List (ac×im)} {σ:St} {H:Hp} {s:ar} {R:It->Hp->Prop} {E:al->ar->Prop} {lo hi:Int} {t u v:Vc} {tk:Nat} (I:Inv X pins σ H s) (h1 : -(2 ^ 62)<=lo) (h2:lo<2 ^ 62) (h3 : -(2 ^ 62)<=hi) (h4:hi<2 ^ 62)
  (q:R (zX lo (hi - lo).toNat) H):wpAny (model X.prog X.w) X.A (pyIter (.ref s.heap.objs.size)) (Iv X pins σ tg R) E {s with heap:=s.heap.push {cls:=.type "range",data:=.fields #[.int lo t,.int hi u,.int 1 v]},toks:=tk}:=by
 refine wpAny_pyIter_range (IsRange.new ..) (small_one h1 h2 h3 h4) ?_
 have I1:Inv X pins σ H {s with heap:=s.heap.push {cls:=.type "range",data:=.fields #[.int lo t,.int hi u,.int 1 v]},toks:=tk}:=I.kept fun b o e=>bn _ e
 refine ⟨(s.heap.push {cls:=.type "range",data:=.fields #[.int lo t,.int hi u,.int 1 v]}).objs.size,[(s.heap.push {cls:=.type "range",data:=.fields #[.int lo t,.int hi u,.int 1 v]}).objs.size],_,_,H,rfl,
  I1.kept (t':=tk) fun b o e=>bn _ e,yk _ lo (hi - lo).toNat,?_,fun b hb=>?_,q⟩
 ·have e1:lo+((0:Nat):Int) * 1=lo :=by simp
  have e2:(((hi - lo).toNat:Nat):Int) - ((0:Nat):Int)=u4.Range.rangeSize lo hi 1 :=by rw [rangeSize_one];split <;> omega
  show IsRangeIter _ _ (lo+((0:Nat):Int) * 1) ((((hi - lo).toNat:Nat):Int) - ((0:Nat):Int)) 1
  rw [e1,e2]
  exact dL _ rfl
 ·have e:b=(s.heap.push {cls:=.type "range",data:=.fields #[.int lo t,.int hi u,.int 1 v]}).objs.size :=by simpa using hb
  subst e
  exact I1.kX (cb _) (I1.hok.fresh (cb _))
def E5 (ta:TA):TI:=fun σ H R=>ta σ H fun vs H1=>∃j:Int,vs=[.int j] /\ -(2 ^ 62)<=j/\j<2 ^ 62/\R (zX 0 j.toNat) H1
def E6 (ta:TA):TI:=fun σ H R=>ta σ H fun vs H1=>∃i j:Int,vs=[.int i,.int j]/\(-(2 ^ 62)<=i/\i<2 ^ 62 /\ -(2 ^ 62)<=j/\j<2 ^ 62)/\R (zX i (j - i).toNat) H1
theorem zZ {a:cr} {ta:TA} {p pos:ul} (hg:Gl X "range") (hm:X.mg "range" = none) (ha:PA X [a] ta) (hs:starEach [a] X.env=[(false,eval a X.env)] :=by rfl):PI X tg (.Call (.Name "range" p) [a] [] pos) (E5 ta) :=by
 intro pins s σ H R I h
 refine Call_ (fw I hg hm boot_range (zn (thn (ha pos pins s σ H _ I h) fun us s1 ⟨vs,H1,I1,r1,q1⟩=>?_) hs rfl))
 obtain ⟨j,e,q1,q2,q⟩:=q1
 subst e
 cases r1 with
 |cons r rr=>
  cases rr
  obtain ⟨t,rfl⟩:=r
  exact call_range_1 (t9 I1 (by omega) (by omega) q1 q2 (by simpa using q))
theorem z5 {a b:cr} {ta:TA} {p pos:ul} (hg:Gl X "range") (hm:X.mg "range" = none) (ha:PA X [a,b] ta) (hs:starEach [a,b] X.env=[(false,eval a X.env),(false,eval b X.env)] :=by rfl) (xj:starEach [b] X.env=[(false,eval b X.env)] :=by rfl) :
  PI X tg (.Call (.Name "range" p) [a,b] [] pos) (E6 ta) :=by
 intro pins s σ H R I h
 refine Call_ (fw I hg hm boot_range (zn (thn (ha pos pins s σ H _ I h) fun us s1 ⟨vs,H1,I1,r1,q1⟩=>?_) (by rw [hs,xj]) (by rw [xj];rfl)))
 obtain ⟨i,j,e,⟨q1,q2,q3,q4⟩,q⟩:=q1
 subst e
 cases r1 with
 |cons r rr=>
  cases rr with
  |cons r' rr=>
   cases rr
   obtain ⟨t,rfl⟩:=r
   obtain ⟨t',rfl⟩:=r'
   exact call_range_2 (t9 I1 q1 q2 q3 q4 q)
def IB (wi:TI) (g:TG) (tb:TS):TS:=fun D σ H=>wi σ H fun J H1=>∃W:Nat->Nat->St->Hp->Prop,(∃m,W 0 m σ H1)/\∀i m σ H,W i m σ H->
 (J.stop i H/\D.nx σ H)\/(J.go i H/\∃N:St->Hp->Prop,(∀aH H',N aH H'->∃m',m'<m/\W (i+1) m' aH H')/\∀x H',J.yld i H x H'->g x σ H' fun pA H2=>tb {D with nx:=N,ct:=N,bk:=D.nx} pA H2)
def ia (fp:List ac) (h:gc):List (ac×im):=fp.filterMap fun b=>(h.get? b).map fun o=>(b,o)
theorem cE {fp:List ac} {h:gc} {b:ac} {o:im} (hb:b∈fp) (e:h.get? b=some o):(b,o)∈ia fp h:=VE.mpr ⟨b,hb,by rw [e];rfl⟩
theorem z6 {fp:List ac} {h:gc} {p:ac×im} (hp:p∈ia fp h):p.1∈fp/\h.get? p.1=some p.2 :=by
 obtain ⟨b,hb,e⟩:=VE.mp hp
 cases q:h.get? b with
 |none=>rw [q] at e;cases e
 |some o=>
  rw [q] at e
  have e':(b,o)=p:=ij e
  subst e'
  exact ⟨hb,q⟩
theorem Inv.pinned {pins:List (ac×im)} {σ:St} {H:Hp} {s:ar} {fp:List ac} (I:Inv X pins σ H s) (hf:∀b∈fp,dy X pins H b) (ho:∀b∈fp,∃o,s.heap.get? b=some o/\∀v,o.data≠.cell v):Inv X (pins++ia fp s.heap) σ H s:=
 I.qD fun p hp=>(zd.mp hp).elim (fun z=>I.pin p (hX _ z)) fun z=>by
  obtain ⟨hb,e⟩:=z6 z
  obtain ⟨f0,f1,f2,_⟩:=hf p.1 hb
  obtain ⟨o,e',d⟩:=ho p.1 hb
  rw [e] at e';cases e'
  exact ⟨e,f0,f1,f2,d⟩
theorem Inv.cc {pins pl:List (ac×im)} {σ:St} {H:Hp} {s:ar} (I:Inv X (pins++pl) σ H s):Inv X pins σ H s:=I.qD fun p hp=>I.pin p (hX _ (Ch _ hp))
theorem IC {iter:cr} {body:List mv} {wi:TI} {g:TG} {tb:TS} {pos:ul} (hp:Wc (model X.prog X.w) X.A X.env X.xe) (hc:X.calm=true) (hi:PI X tg iter wi) (hg:PG X tg g) (hb:fW X body tb)
  (hs:∀x,foldedSetIterable iter X.env x=pure x :=by intro _;rfl):PS X (.For tg iter body [] pos) (IB wi g tb) :=by
 refine ⟨?_⟩
 intro pins s σ H D I h
 refine wpAny_For (thn (hi pins s σ H _ I h) fun v s1 h1=>thn h1 fun zW s2 h2=>?_) hs
 obtain ⟨it,fp,tn,J,H2,e,I2,T,ua,f2,W,⟨m0,w0⟩,turn⟩:=h2
 subst e
 have stat:∀{H':Hp},(∀b∈fp,H' b=none)->∀b∈fp,dy X pins H' b:=fun hn b hb=>⟨hn b hb,(f2 b hb).2⟩
 refine codeAny_forLoop_any (fun n s'=>∃i aH H',Inv X pins aH H' s'/\tn i s'.heap/\(∀b∈fp,H' b=none)/\W i n aH H') ?_ m0 ⟨0,σ,H2,I2,ua,fun b hb=>(f2 b hb).1,w0⟩
 rintro n s3 ⟨i,lW,H3,I3,rL,z7,w3⟩
 rcases turn i n lW H3 w3 with ⟨stop,qn⟩|⟨go,N,hN,step⟩
 ·refine Lo hp (thn (T.done X rfl rfl rfl hc i pins s3 lW H3 X.xe I3 (stat z7) rL stop) fun r s4 ⟨hr,I4⟩=>?_)
  subst hr
  exact Vd ⟨lW,H3,I4,qn⟩
 ·refine Lo hp (thn (T.item X rfl rfl rfl hc i pins s3 lW H3 X.xe I3 (stat z7) rL go) fun r s4 ⟨u,hr,h4⟩=>?_)
  subst hr
  refine Lo hp (thn h4 fun _ s5 ⟨x,H5,I5,r5,y5,jd,ub⟩=>?_)
  have ud:=I5.pinned (stat ub) (T.obj _ _ jd)
  refine Lo hp (thn (hg _ s5 lW H5 x u _ ud r5 (step x H5 y5)) fun _ s6 ⟨Rv,H6,I6,q6⟩=>?_)
  refine Lo hp (thn (hb _ s6 Rv H6 _ I6 q6) fun f s7 q7=>?_)
  have again:∀{mn:St} {H7:Hp},Inv X (pins++ia fp s5.heap) mn H7 s7->N mn H7->∃m,m<n/\∃i aH H',Inv X pins aH H' s7/\tn i s7.heap/\(∀b∈fp,H' b=none)/\W i m aH H':=fun {mn H7} I7 n7=>by
   obtain ⟨m',hm,w7⟩:=hN mn H7 n7
   refine ⟨m',hm,i+1,mn,H7,I7.cc,T.keep _ _ _ jd fun b hb o e=>(I7.pin (b,o) (hX _ (hX _ (cE hb e)))).1,fun b hb=>?_,w7⟩
   obtain ⟨o,e,d⟩:=T.obj _ _ jd b hb
   exact (I7.pin (b,o) (hX _ (hX _ (cE hb e)))).2.1
  cases f with
  |next=>obtain ⟨mn,H7,I7,n7⟩:=q7;exact again I7 n7
  |cont=>obtain ⟨mn,H7,I7,n7⟩:=q7;exact again I7 n7
  |brk=>obtain ⟨mn,H7,I7,q7⟩:=q7;exact ⟨mn,H7,I7.cc,q7⟩
  |ret v=>obtain ⟨x7,mn,H7,I7,r7,q7⟩:=q7;exact ⟨x7,mn,H7,I7.cc,r7,q7⟩
end
abbrev R2:=V->V->Hp->VK->Prop
def OpR (X:Cx) (f:al->al->VC al) (r:R2):Prop:=
 ∀(pins:List (ac×im)) (s:ar) (σ:St) (H:Hp) (x y:V) (v u:al) (Q:VK),Inv X pins σ H s->RelV x v->RelV y u->r x y H Q->
  wpAny (model X.prog X.w) X.A (f v u) (EP X pins σ Q) X.xe s
def dj (X:Cx) (f:al) (r:List V->Hp->VK->Prop):Prop:=
 ∀(pins:List (ac×im)) (s:ar) (σ:St) (H:Hp) (xs:List V) (us:List al) (Q:VK),Inv X pins σ H s->Vals xs us->r xs H Q->
  wpAny (model X.prog X.w) X.A (call f us) (EP X pins σ Q) X.xe s
def Qg (X:Cx) (r:V->Hp->(Bool->Hp->Prop)->Prop):Prop:=
 ∀(pins:List (ac×im)) (s:ar) (σ:St) (H:Hp) (x:V) (v:al) (Q:Bool->Hp->Prop),Inv X pins σ H s->RelV x v->r x H Q->
  wpAny (model X.prog X.w) X.A (truthy v) (TP X pins σ Q) X.xe s
def z8 (r:R2) (ta tb:TE):TE:=fun σ H Q=>ta σ H fun x H1=>tb σ H1 fun y H2=>r x y H2 Q
def rI (C:Int->Int->Prop) (g:Int->Int->V):R2:=fun x y H Q=>∃i j,x=.int i/\y=.int j/\C i j/\Q (g i j) H
def rM (g:Int->Int->V):R2:=fun x y H Q=>∃i j,x=.int i/\y=.int j/\Q (g i j) H
section
variable {X:Cx} {a b c:cr} {ta tb tc:TE} {pos:ul}
theorem C4 (ha:PE X a ta) (hb:PE X b tb) {pins:List (ac×im)} {s:ar} {σ:St} {H:Hp} {R:V->V->Hp->Prop} (I:Inv X pins σ H s)
  (h:ta σ H fun x H1=>tb σ H1 fun y H2=>R x y H2) {Q:al->ar->Prop} {f:al->al->VC al}
  (hf:∀v u s2 x y H2,Inv X pins σ H2 s2->RelV x v->RelV y u->R x y H2->wpAny (model X.prog X.w) X.A (f v u) Q X.xe s2) :
  wpAny (model X.prog X.w) X.A (eval a X.env) (fun v aw=>wpAny (model X.prog X.w) X.A (eval b X.env) (fun u gP=>wpAny (model X.prog X.w) X.A (f v u) Q X.xe gP) X.xe aw) X.xe s :=by
 refine thn (ha pins s σ H _ I h) fun v s1 ⟨x,H1,I1,r1,q1⟩=>?_
 refine thn (hb pins s1 σ H1 _ I1 q1) fun u s2 ⟨y,H2,I2,r2,q2⟩=>?_
 exact hf v u s2 x y H2 I2 r1 r2 q2
theorem MO {op:Operator} {r:R2} (ho:OpR X (binaryOp op) r) (ha:PE X a ta) (hb:PE X b tb):PE X (.BinOp a op b pos) (z8 r ta tb) :=by
 refine ⟨?_⟩
 intro pins s σ H Q I h
 exact wpAny_BinOp (C4 ha hb I h fun v u s2 x y H2 I2 rx ry q=>ho pins s2 σ H2 x y v u Q I2 rx ry q)
theorem E7 {f:al->al->VC al} {C:Int->Int->Prop} {g:Int->Int->Int}
  (rule:∀(i j:Int) (t u:Vc) (s:ar) (Q:al->ar->Prop) (E:al->ar->Prop),C i j->Q (.int (g i j) s.toks) {s with toks:=s.toks+1}->wpAny (model X.prog X.w) X.A (f (.int i t) (.int j u)) Q E s) :
  OpR X f (rI C fun i j=>.int (g i j)) :=by
 intro pins s σ H x y v u Q I rx ry h
 obtain ⟨i,j,rfl,rfl,hc,q⟩:=h
 obtain ⟨t,rfl⟩:=rx
 obtain ⟨t',rfl⟩:=ry
 exact rule i j t t' s _ _ hc ⟨.int (g i j),H,I.tok _,⟨_,rfl⟩,q⟩
theorem IE {f:al->al->VC al} {g:Int->Int->Int}
  (rule:∀(i j:Int) (t u:Vc) (s:ar) (Q:al->ar->Prop) (E:al->ar->Prop),Q (.int (g i j) s.toks) {s with toks:=s.toks+1}->wpAny (model X.prog X.w) X.A (f (.int i t) (.int j u)) Q E s) :
  OpR X f (rM fun i j=>.int (g i j)) :=by
 intro pins s σ H x y v u Q I rx ry h
 obtain ⟨i,j,rfl,rfl,q⟩:=h
 obtain ⟨t,rfl⟩:=rx
 obtain ⟨t',rfl⟩:=ry
 exact rule i j t t' s _ _ ⟨.int (g i j),H,I.tok _,⟨_,rfl⟩,q⟩
theorem C5 {f:al->al->VC al} {g:Int->Int->Bool}
  (rule:∀(i j:Int) (t u:Vc) (s:ar) (Q:al->ar->Prop) (E:al->ar->Prop),Q (.bool (g i j)) s->wpAny (model X.prog X.w) X.A (f (.int i t) (.int j u)) Q E s) :
  OpR X f (rM fun i j=>.bl (g i j)) :=by
 intro pins s σ H x y v u Q I rx ry h
 obtain ⟨i,j,rfl,rfl,q⟩:=h
 obtain ⟨t,rfl⟩:=rx
 obtain ⟨t',rfl⟩:=ry
 exact rule i j t t' s _ _ ⟨.bl (g i j),H,I,rfl,q⟩
def IG (i j:Int):Prop:=0<j/\j<1073741824
def IH (i j:Int):Prop:=0<=j/\j<=1000000/\i.natAbs<2 ^ 64
def yl (i j:Int):Prop:=(-(2 ^ 64)<i/\i<2 ^ 64)\/(-(2 ^ 64)<j/\j<2 ^ 64)
theorem yl.ok {i j:Int} (h:yl i j):IntMulOk i j :=by
 rcases h with ⟨h1,h2⟩|⟨h1,h2⟩
 ·exact .of_left (intBits_le_64 h1 h2)
 ·exact .of_right (intBits_le_64 h1 h2)
theorem II:OpR X (binaryOp .Add) (rM fun i j=>.int (i+j)):=IE fun _ _ _ _ _ _ _ q=>add_int q
theorem IJ:OpR X (binaryOp .Sub) (rM fun i j=>.int (i - j)):=IE fun _ _ _ _ _ _ _ q=>sub_int q
theorem IK:OpR X (binaryOp .Mult) (rI yl fun i j=>.int (i * j)):=E7 fun _ _ _ _ _ _ _ hc q=>mul_int q hc.ok
theorem Gj:OpR X (binaryOp .FloorDiv) (rI IG fun i j=>.int (i / j)):=E7 fun i j _ _ _ _ _ hc q=>by
 have h1:(0:Int)<j:=hc.1
 have h2:j<1073741824:=hc.2
 exact floordiv_int (by omega) (by rw [Int.fdiv_eq_ediv_of_nonneg i (by omega)];exact q) (.inl (PyProof.noPylong_small (by omega)))
theorem IL:OpR X (binaryOp .Mod) (rI (fun _ j=>0<j) fun i j=>.int (i % j)):=E7 fun i j _ _ _ _ _ hc q=>by
 have h1:(0:Int)<j:=hc
 exact mod_int' (by omega) (by rw [Int.fmod_eq_emod_of_nonneg i (by omega)];exact q)
theorem IM:OpR X (binaryOp .Pow) (rI IH fun i j=>.int (i ^ j.toNat)):=E7 fun _ _ _ _ _ _ _ hc q=>pow_int_small hc.1 hc.2.1 hc.2.2 q
end
def C6:V->V->Bool
 | .av,.av=>true | .av,.int _=>true | .int _,.av=>true | .av,.bl _=>true | .bl _,.av=>true | .av,.str _=>true | .str _,.av=>true
 | .int _,.int _=>true | .bl _,.bl _=>true | .str _,.str _=>true | .i9 _,.i9 _=>true
 | .int _,.str _=>true | .str _,.int _=>true | .bl _,.str _=>true | .str _,.bl _=>true
 |_,_=>false
def Rw:R2:=fun x y H Q=>C6 x y=true/\Q (.bl (decide (x=y))) H
def Rx:R2:=fun x y H Q=>C6 x y=true/\Q (.bl (!decide (x=y))) H
theorem xk {i j:Int}:decide (V.int i=V.int j)=(i==j) :=by
 rw [Ve]
 simp
theorem z9 {i j:Bool}:decide (V.bl i=V.bl j)=(i==j) :=by
 rw [Ve]
 simp
theorem xl {i j:bi}:decide (V.str i=V.str j)=(i==j) :=by
 rw [Ve]
 simp
theorem xm {i j:Array UInt8}:decide (V.i9 i=V.i9 j)=(i.toList==j.toList) :=by
 rw [Ve]
 cases i
 cases j
 simp
section
variable {X:Cx} {a b c:cr} {ta tb tc:TE} {pos:ul}
theorem aX {pins:List (ac×im)} {σ:St} {H:Hp} {s:ar} {Q:VK} {k k':Bool} (I:Inv X pins σ H s) (q:Q (.bl k) H) (e:k=k'):EP X pins σ Q (.bool k') s :=by
 subst e
 exact ⟨.bl k,H,I,rfl,q⟩
theorem MP:OpR X (compareOp .Eq) Rw :=by
 intro pins s σ H x y v u Q I rx ry h
 obtain ⟨hs,q⟩:=h
 cases x with
 |av=>
  cases rx
  cases y with
  |av=>cases ry;exact PySem.EqNone.eq_none_none (aX I q (by simp))
  |bl j=>cases ry;exact PySem.EqNone.eq_none_bool (aX I q (by simp))
  |int j=>obtain ⟨t',rfl⟩:=ry;exact PySem.EqNone.eq_none_int (aX I q (by simp))
  |str j=>obtain ⟨t',rfl⟩:=ry;exact PySem.EqNone.eq_none_str (aX I q (by simp))
  |_=>exact absurd (show false=true from hs) io
 |bl i=>
  cases rx
  cases y with
  |av=>cases ry;exact PySem.EqNone.eq_bool_none (aX I q (by simp))
  |bl j=>cases ry;exact eq_bool (aX I q z9)
  |str j=>obtain ⟨t',rfl⟩:=ry;exact PySem.EqMixed.eq_bool_str (aX I q (by simp))
  |_=>exact absurd (show false=true from hs) io
 |int i=>
  obtain ⟨t,rfl⟩:=rx
  cases y with
  |av=>cases ry;exact PySem.EqNone.eq_int_none (aX I q (by simp))
  |int j=>obtain ⟨t',rfl⟩:=ry;exact eq_int (aX I q xk)
  |str j=>obtain ⟨t',rfl⟩:=ry;exact PySem.EqMixed.eq_int_str (aX I q (by simp))
  |_=>exact absurd (show false=true from hs) io
 |str i=>
  obtain ⟨t,rfl⟩:=rx
  cases y with
  |av=>cases ry;exact PySem.EqNone.eq_str_none (aX I q (by simp))
  |bl j=>cases ry;exact PySem.EqMixed.eq_str_bool (aX I q (by simp))
  |int j=>obtain ⟨t',rfl⟩:=ry;exact PySem.EqMixed.eq_str_int (aX I q (by simp))
  |str j=>obtain ⟨t',rfl⟩:=ry;exact eq_str (aX I q xl)
  |_=>exact absurd (show false=true from hs) io
 |i9 i=>
  obtain ⟨t,rfl⟩:=rx
  cases y with
  |i9 j=>obtain ⟨t',rfl⟩:=ry;exact PySem.W.eq_bytes (aX I q xm)
  |_=>exact absurd (show false=true from hs) io
 |_=>cases y <;> exact absurd (show false=true from hs) io
theorem MQ:OpR X (compareOp .NotEq) Rx :=by
 intro pins s σ H x y v u Q I rx ry h
 obtain ⟨hs,q⟩:=h
 cases x with
 |av=>
  cases rx
  cases y with
  |av=>cases ry;exact PySem.EqNone.ne_none_none (aX I q (by simp))
  |bl j=>cases ry;exact PySem.EqNone.ne_none_bool (aX I q (by simp))
  |int j=>obtain ⟨t',rfl⟩:=ry;exact PySem.EqNone.ne_none_int (aX I q (by simp))
  |str j=>obtain ⟨t',rfl⟩:=ry;exact PySem.EqNone.ne_none_str (aX I q (by simp))
  |_=>exact absurd (show false=true from hs) io
 |bl i=>
  cases rx
  cases y with
  |av=>cases ry;exact PySem.EqNone.ne_bool_none (aX I q (by simp))
  |bl j=>cases ry;exact ne_bool (aX I q (congrArg not z9))
  |str j=>obtain ⟨t',rfl⟩:=ry;exact PySem.EqMixed.ne_bool_str (aX I q (by simp))
  |_=>exact absurd (show false=true from hs) io
 |int i=>
  obtain ⟨t,rfl⟩:=rx
  cases y with
  |av=>cases ry;exact PySem.EqNone.ne_int_none (aX I q (by simp))
  |int j=>obtain ⟨t',rfl⟩:=ry;exact ne_int (aX I q (congrArg not xk))
  |str j=>obtain ⟨t',rfl⟩:=ry;exact PySem.EqMixed.ne_int_str (aX I q (by simp))
  |_=>exact absurd (show false=true from hs) io
 |str i=>
  obtain ⟨t,rfl⟩:=rx
  cases y with
  |av=>cases ry;exact PySem.EqNone.ne_str_none (aX I q (by simp))
  |bl j=>cases ry;exact PySem.EqMixed.ne_str_bool (aX I q (by simp))
  |int j=>obtain ⟨t',rfl⟩:=ry;exact PySem.EqMixed.ne_str_int (aX I q (by simp))
  |str j=>obtain ⟨t',rfl⟩:=ry;exact ne_str (aX I q (congrArg not xl))
  |_=>exact absurd (show false=true from hs) io
 |i9 i=>
  obtain ⟨t,rfl⟩:=rx
  cases y with
  |i9 j=>obtain ⟨t',rfl⟩:=ry;exact PySem.W.ne_bytes (aX I q (congrArg not xm))
  |_=>exact absurd (show false=true from hs) io
 |_=>cases y <;> exact absurd (show false=true from hs) io
theorem MR:OpR X (compareOp .Lt) (rM fun i j=>.bl (decide (i<j))):=C5 fun _ _ _ _ _ _ _ q=>lt_int q
theorem MS:OpR X (compareOp .LtE) (rM fun i j=>.bl (decide (i<=j))):=C5 fun _ _ _ _ _ _ _ q=>le_int q
theorem MT:OpR X (compareOp .Gt) (rM fun i j=>.bl (decide (j<i))):=C5 fun _ _ _ _ _ _ _ q=>gt_int q
theorem Aa:OpR X (compareOp .In) (fun x y H Q=>∃i j,x=.str i/\y=.str j/\Q (.bl (!(Is j i 0 j.length 1).isEmpty)) H) :=by
 intro pins s σ H x y v u Q I rx ry h
 obtain ⟨i,j,rfl,rfl,q⟩:=h
 obtain ⟨t,rfl⟩:=rx
 obtain ⟨t',rfl⟩:=ry
 exact in_str (aX I q rfl)
theorem cz (b:cr) {op:SB} (h:op≠.In :=by decide) (h2:op≠.NotIn :=by decide):behindInMarks op b=false :=by
 have e1:(op==SB.In)=false :=by cases op <;> first|rfl|exact absurd rfl h
 have e2:(op==SB.NotIn)=false :=by cases op <;> first|rfl|exact absurd rfl h2
 cases b <;> simp [behindInMarks,e1,e2]
theorem Gk {op:SB} {r:R2} (ho:OpR X (compareOp op) r) (ha:PE X a ta) (hb:PE X b tb) (hm:behindInMarks op b=false):PE X (.Compare a [op] [b] pos) (z8 r ta tb) :=by
 refine ⟨?_⟩
 intro pins s σ H Q I h
 exact wpAny_Compare1 (C4 ha hb I h fun v u s2 x y H2 I2 rx ry q=>ho pins s2 σ H2 x y v u Q I2 rx ry q) hm
def ym (t:TE):TT:=fun σ H Q=>t σ H fun x H'=>∃k,x=.bl k/\Q k H'
theorem Gm {op:SB} {r:R2} (ho:OpR X (compareOp op) r) (ha:PE X a ta) (hb:PE X b tb) (hm:behindInMarks op b=false):PT X (.Compare a [op] [b] pos) (ym (z8 r ta tb)) :=by
 refine ⟨?_⟩
 intro pins s σ H Q I h
 refine wpAny_isTrue_Compare1 (thn (ha pins s σ H _ I h) fun v s1 ⟨x,H1,I1,r1,q1⟩=>thn (hb pins s1 σ H1 _ I1 q1) fun u s2 ⟨y,H2,I2,r2,q2⟩=>
  thn (ho pins s2 σ H2 x y v u _ I2 r1 r2 q2) fun c s3 ⟨z,H3,I3,r3,k,e,q3⟩=>?_) hm
 subst e
 cases r3
 exact AM ⟨H3,I3,q3⟩
def ue (r r':R2) (ta tb tc:TE):TE:=fun σ H Q=>ta σ H fun x H1=>tb σ H1 fun y H2=>r x y H2 fun z H3=>∃k,z=.bl k /\
 (if k=true then tc σ H3 fun w' H4=>r' y w' H4 Q else Q (.bl false) H3)
theorem C7 {op je:SB} {r r':R2} (ho:OpR X (compareOp op) r) (gM:OpR X (compareOp je) r') (ha:PE X a ta) (hb:PE X b tb) (hc:PE X c tc)
  (hm:lastMarks [op,je] [b,c]=false :=by with_unfolding_all rfl):PE X (.Compare a [op,je] [b,c] pos) (ue r r' ta tb tc) :=by
 refine ⟨?_⟩
 intro pins s σ H Q I h
 refine Compare_chain (thn (ha pins s σ H _ I h) fun v s1 ⟨x,H1,I1,r1,q1⟩=>chain_link (thn (hb pins s1 σ H1 _ I1 q1) fun u s2 ⟨y,H2,I2,r2,q2⟩=>
  thn (ho pins s2 σ H2 x y v u _ I2 r1 r2 q2) fun d s3 ⟨z,H3,I3,r3,k,e,q3⟩=>?_)) hm
 subst e
 cases r3
 refine AM ?_
 cases k with
 |false=>exact ite_ff ⟨.bl false,H3,I3,rfl,q3⟩
 |true=>exact ite_tt (chain_last (thn (hc pins s3 σ H3 _ I3 q3) fun w' s4 ⟨z',H4,I4,r4,q4⟩=>gM pins s4 σ H4 y z' u w' Q I4 r2 r4 q4))
theorem C8 {op je:SB} {r r':R2} (ho:OpR X (compareOp op) r) (gM:OpR X (compareOp je) r') (ha:PE X a ta) (hb:PE X b tb) (hc:PE X c tc)
  (hm:lastMarks [op,je] [b,c]=false :=by with_unfolding_all rfl):PT X (.Compare a [op,je] [b,c] pos) (ym (ue r r' ta tb tc)) :=by
 refine ⟨?_⟩
 intro pins s σ H Q I h
 refine isTrue_chain (thn (ha pins s σ H _ I h) fun v s1 ⟨x,H1,I1,r1,q1⟩=>test_link (thn (hb pins s1 σ H1 _ I1 q1) fun u s2 ⟨y,H2,I2,r2,q2⟩=>
  thn (ho pins s2 σ H2 x y v u _ I2 r1 r2 q2) fun d s3 ⟨z,H3,I3,r3,k,e,q3⟩=>?_)) hm
 subst e
 cases r3
 refine AM ?_
 cases k with
 |false=>
  obtain ⟨k',e',q'⟩:=q3
  cases e'
  exact ite_ff ⟨H3,I3,q'⟩
 |true=>
  refine ite_tt (test_last (thn (hc pins s3 σ H3 _ I3 q3) fun w' s4 ⟨z',H4,I4,r4,q4⟩=>thn (gM pins s4 σ H4 y z' u w' _ I4 r2 r4 q4) fun d' s5 ⟨z2,H5,I5,r5,k2,e2,q5⟩=>?_))
  subst e2
  cases r5
  exact AM ⟨H5,I5,q5⟩
def C9 (K:ba) (x:V) (H:Hp) (k:Bool):Prop:=
 match x with
 | .av=>k=false
 | .bl b=>k=b
 | .int i=>k=(i != 0)
 | .str y=>y.length<=sizeLine/\k=((y.length:Int) != 0)
 | .i9 y=>y.size<=sizeLine/\k=((y.size:Int) != 0)
 | .ref p=>(∃xs,bN K H p xs/\k = !xs.isEmpty)\/(∃xs,cM K H p xs/\k = !xs.isEmpty)\/∃ao,H p=some (.dK ao)/\k = !ao.isEmpty
 |_=>False
theorem yn {κ:Type} {ao:List (κ×V)} {vs:List (κ×al)} (r:KV ao vs):(!vs.isEmpty) = !ao.isEmpty :=by
 cases r <;> rfl
theorem pB {xs:List V} {its:List al} (r:Vals xs its):(!its.toArray.isEmpty) = !xs.isEmpty :=by
 cases r <;> simp
theorem kj:(sizeLine:Nat)<2 ^ 63 :=by rw [SO];decide
theorem IP:Qg X (fun x H Q=>∃k,C9 X.K x H k/\Q k H) :=by
 intro pins s σ H x v Q I rx h
 obtain ⟨k,e,q⟩:=h
 have hl:=kj
 have hs:sizeLine=16777216:=SO
 cases x with
 |av=>
  cases rx
  have e':k=false:=e
  subst e'
  exact truthy_none ⟨H,I,q⟩
 |bl b=>
  cases rx
  have e':k=b:=e
  subst e'
  exact AM ⟨H,I,q⟩
 |int i=>
  obtain ⟨t,rfl⟩:=rx
  have e':k=(i != 0):=e
  subst e'
  exact PySem.P.truthy_int ⟨H,I,q⟩
 |str y=>
  obtain ⟨t,rfl⟩:=rx
  obtain ⟨hy,e'⟩:y.length<=sizeLine/\k=((y.length:Int) != 0):=e
  subst e'
  exact PySem.P.truthy_str (by omega) ⟨H,I.tok _,q⟩
 |i9 y=>
  obtain ⟨t,rfl⟩:=rx
  obtain ⟨hy,e'⟩:y.size<=sizeLine/\k=((y.size:Int) != 0):=e
  subst e'
  exact PySem.W.truthy_bytes (by omega) ⟨H,I.tok _,q⟩
 |ref p=>
  cases rx
  have e':(∃xs,bN X.K H p xs/\k = !xs.isEmpty)\/(∃xs,cM X.K H p xs/\k = !xs.isEmpty)\/∃ao,H p=some (.dK ao)/\k = !ao.isEmpty:=e
  rcases e' with ⟨xs,hx,e'⟩|⟨xs,hx,e'⟩|⟨ao,hx,e'⟩
  ·subst e'
   obtain ⟨its,r,pl,hz⟩:=I.list hx
   have hlen:=r.length
   exact wpAny_truthy_list pl.isList (by simp only [db];omega) ⟨H,I.tok _,by rw [pB r];exact q⟩
  ·subst e'
   obtain ⟨its,r,pl,hz⟩:=I.tuple hx
   have hlen:=r.length
   exact truthy_tuple pl (by simp only [db];omega) ⟨H,I.tok _,by rw [pB r];exact q⟩
  ·subst e'
   obtain ⟨hz,hS,vs,r,m⟩:ao.length<=sizeLine/\(p==sysModules)=false/\∃vs,KV ao vs/\s.heap.DictOf (bJ X.prog X.w) p vs:=I.hok p _ hx
   have hlen:ao.length=vs.length:=SL r
   exact wpAny_truthy_dict hS m (by omega) ⟨H,I.tok _,by rw [yn r];exact q⟩
 |_=>exact (show False from e).elim
theorem Dc (ha:PE X a ta) (he:∀whole,isTrue a X.env whole=(do let v <- whole;standAt a.pos;holding [v] (truthy v))) :
  PT X a (fun σ H Q=>ta σ H fun x H'=>∃k,C9 X.K x H' k/\Q k H') :=by
 refine ⟨?_⟩
 intro pins s σ H Q I h
 exact isTrue_plain (thn (ha pins s σ H _ I h) fun v s1 ⟨x,H1,I1,r1,q1⟩=>IP pins s1 σ H1 x v Q I1 r1 q1) (he _)
theorem yo:OpR X (binaryOp .Add) (fun x y H Q=>∃i j,x=.str i/\y=.str j/\i.length+j.length<=sizeLine/\Q (.str (i++j)) H) :=by
 intro pins s σ H x y v u Q I rx ry h
 obtain ⟨i,j,rfl,rfl,hz,q⟩:=h
 obtain ⟨t,rfl⟩:=rx
 obtain ⟨t',rfl⟩:=ry
 exact add_str (fun t' tk=>⟨.str (i++j),H,I.tok _,⟨_,rfl⟩,q⟩) hz
theorem vals1 {x:V} {us:List al} (r:Vals [x] us):∃u,us=[u]/\RelV x u :=by
 cases r with
 |cons r1 r2=>cases r2;exact ⟨_,rfl,r1⟩
theorem vals2 {x y:V} {us:List al} (r:Vals [x,y] us):∃u w',us=[u,w']/\RelV x u/\RelV y w':=by
 cases r with
 |cons r1 r2=>
  cases r2 with
  |cons r3 r4=>cases r4;exact ⟨_,_,rfl,r1,r3⟩
theorem Dd:dj X (.builtin "abs") (fun xs H Q=>∃i,xs=[.int i]/\Q (.int (if i<0 then -i else i)) H) :=by
 intro pins s σ H xs us Q I r h
 obtain ⟨i,rfl,q⟩:=h
 obtain ⟨u,rfl,t,rfl⟩:=vals1 r
 exact call_abs_int fun u tk=>⟨.int (if i<0 then -i else i),H,I.tok _,⟨_,rfl⟩,q⟩
theorem Ab (hc:X.calm=true):dj X (.builtin "max") (fun xs H Q=>∃i j,xs=[.int i,.int j]/\Q (.int (if j > i then j else i)) H) :=by
 intro pins s σ H xs us Q I r h
 obtain ⟨i,j,rfl,q⟩:=h
 obtain ⟨u,w',rfl,⟨t,rfl⟩,⟨t',rfl⟩⟩:=vals2 r
 refine max_two_ints (I.ok.hd hc) fun h' tk k=>⟨_,H,I.kept k,?_,q⟩
 by_cases hj:j > i
 ·rw [if_pos hj,if_pos hj];exact ⟨_,rfl⟩
 ·rw [if_neg hj,if_neg hj];exact ⟨_,rfl⟩
theorem Ac (hc:X.calm=true):dj X (.builtin "min") (fun xs H Q=>∃i j,xs=[.int i,.int j]/\Q (.int (if j<i then j else i)) H) :=by
 intro pins s σ H xs us Q I r h
 obtain ⟨i,j,rfl,q⟩:=h
 obtain ⟨u,w',rfl,⟨t,rfl⟩,⟨t',rfl⟩⟩:=vals2 r
 refine min_two_ints (I.ok.hd hc) fun h' tk k=>⟨_,H,I.kept k,?_,q⟩
 by_cases hj:j<i
 ·rw [if_pos hj,if_pos hj];exact ⟨_,rfl⟩
 ·rw [if_neg hj,if_neg hj];exact ⟨_,rfl⟩
def IQ (K:ba) (x:V) (H:Hp) (n:Nat):Prop:=
 match x with
 | .str y=>y.length<=sizeLine/\n=y.length
 | .i9 y=>y.size<=sizeLine/\n=y.size
 | .ref p=>(∃xs,bN K H p xs/\n=xs.length)\/∃xs,cM K H p xs/\n=xs.length
 |_=>False
theorem De:dj X (.builtin "len") (fun xs H Q=>∃x n,xs=[x]/\IQ X.K x H n/\Q (.int n) H) :=by
 intro pins s σ H xs us Q I r h
 obtain ⟨x,n,rfl,e,q⟩:=h
 obtain ⟨u,rfl,rx⟩:=vals1 r
 have hl:=kj
 have hs:sizeLine=16777216:=SO
 cases x with
 |str y=>
  obtain ⟨t,rfl⟩:=rx
  obtain ⟨hy,e'⟩:y.length<=sizeLine/\n=y.length:=e
  subst e'
  exact len_str (by omega) ⟨.int _,H,I.tok _,⟨_,rfl⟩,q⟩
 |i9 y=>
  obtain ⟨t,rfl⟩:=rx
  obtain ⟨hy,e'⟩:y.size<=sizeLine/\n=y.size:=e
  subst e'
  exact PySem.W.len_bytes (by omega) ⟨.int _,H,I.tok _,⟨_,rfl⟩,q⟩
 |ref p=>
  cases rx
  have e':(∃xs,bN X.K H p xs/\n=xs.length)\/∃xs,cM X.K H p xs/\n=xs.length:=e
  rcases e' with ⟨xs,hx,e'⟩|⟨xs,hx,e'⟩
  ·subst e'
   obtain ⟨its,r',pl,hz⟩:=I.list hx
   have hlen:=r'.length
   exact Calls.call_len_list pl.isList (by simp only [db];omega) ⟨.int xs.length,H,I.tok _,⟨_,by simp only [db];rw [hlen]⟩,q⟩
  ·subst e'
   obtain ⟨its,r',pl,hz⟩:=I.tuple hx
   have hlen:=r'.length
   exact len_tuple pl (by simp only [db];omega) ⟨.int xs.length,H,I.tok _,⟨_,by simp only [db];rw [hlen]⟩,q⟩
 |_=>exact (show False from e).elim
end
structure Dg (h:gc) (x dx C:ac) (mA:bi->Option al):Prop where
 obj:h.get? x=some (Wb C dx)
 ns:h.Ns1 dx mA
 ne:dx≠x
theorem Ad {h:gc} {dx:ac} {mA:bi->Option al} (n:h.Ns1 dx mA):∃od,h.get? dx=some od/\∀name,PySem.W.lookIn name od=some (mA name) :=by
 obtain ⟨o,es,ep,ho,hd,hk,_,hm⟩:=n
 refine ⟨o,ho,fun name=>?_⟩
 have e:=hm name
 unfold nsFind findBy at e
 rw [<- Array.find?_toList] at e
 unfold PySem.W.lookIn
 rw [hd]
 dsimp only
 split
 ·rename_i y q
  rw [q] at e
  exact congrArg some e
 ·rename_i q
  rw [q] at e
  have a:es.toList.any (·.refKey)=false :=by
   rw [List.any_eq_false]
   intro y hy
   obtain ⟨z,t,yp⟩:=hk y (Array.mem_toList_iff.mp hy)
   simp [UF.refKey,yp]
  have a':¬ es.toList.any (·.refKey)=true :=by rw [a];exact io
  rw [if_neg a']
  exact congrArg some e
theorem Dg.look {h:gc} {x dx C:ac} {mA:bi->Option al} (I:Dg h x dx C mA):∃od,PySem.W.InstAt h x (Wb C dx) C (some od)/\∀name,PySem.W.lookIn name od=some (mA name):=
 let ⟨od,ho,hl⟩:=Ad I.ns
 ⟨od,⟨I.obj,rfl,rfl,ho⟩,hl⟩
theorem ja.some_of {v:V} {o:Option al} (r:ja (some v) o):∃u,o=some u/\RelV v u :=by
 cases o with
 |none=>exact (show False from r).elim
 |some u=>exact ⟨u,rfl,r⟩
section
variable {P:c8} {w:ff} {H H':Hp} {h h':gc} {a C dx:ac} {fs Rr:List (bi×V)}
theorem Gp (hok:cL P w H h) (e:H a=some (.ins C dx fs)):∃mA,Dg h a dx C mA/\(∀f,ja (fs.lookup f) (mA f))/\PySem.Within mA (fs.map (·.1))/\fs.length<=1000/\H dx=some (.own a) :=by
 obtain ⟨d,z,ne,ob,mA,n,r,q⟩:=(show ObjOk P w H h a (.ins C dx fs) from hok a _ e)
 exact ⟨mA,⟨ob,n,ne⟩,r,q,z,d⟩
end
structure IU (K:ba) (C:ac):Prop where
 pg:PySem.W.plainGet K C bi.empty=true
 hd:PySem.W.hasDictIn K C=true
 po:PySem.W.plainOver K C=true
 sa:PySem.W.findIn K (.ref C) "__setattr__" = some (some (.builtin "object.__setattr__"))
theorem IU.get {K:ba} {C:ac} (c:IU K C) (f:bi):PySem.W.plainGet K C f=true:=c.pg
section
variable {X:Cx} {pins:List (ac×im)} {σ:St} {H:Hp} {s:ar} {A:l4} {E:al->ar->Prop} {Q:al->ar->Prop} {c:al} {b:Bool}
inductive fL (K:ba) (H:Hp):V->al->Prop where
 |av:fL K H .av (.type "NoneType")
 |bl (x:Bool):fL K H (.bl x) (.type "bool")
 |int (i:Int):fL K H (.int i) (.type "int")
 |str (x:bi):fL K H (.str x) (.type "str")
 |xf (x:UInt64):fL K H (.xf x) (.type "float")
 |lst {a:ac} {xs:List V} (e:H a=some (.lst xs)):fL K H (.ref a) (.type "list")
 |bL {a:ac} {o:im} {xs:List V} (e:H a=some (.bL o (.lst xs))):fL K H (.ref a) (.type "list")
 |tup {a:ac} {xs:List V} (e:H a=some (.tup xs)):fL K H (.ref a) (.type "tuple")
 |dK {a:ac} {ao:List (Key×V)} (e:H a=some (.dK ao)):fL K H (.ref a) (.type "dict")
 |dT {a:ac} {ao:List (List Key×V)} (e:H a=some (.dT ao)):fL K H (.ref a) (.type "dict")
 |ins {a C dx:ac} {fs:List (bi×V)} (e:H a=some (.ins C dx fs)) (cl:IU K C) (ha:PySem.W.findIn K (.ref C) "__class__" = some (some (.builtin "object.__class__")))
   (hn:PySem.W.specialIn K (.builtin "object.__class__") "__get__" = some (some (.builtin "getset_descriptor.__get__"))) (Om:PySem.W.takesIn K (.builtin "object.__class__")=some true)
   (hm:PySem.W.mroIn K C (.type "object")=some true):fL K H (.ref a) (.ref C)
theorem Ae {x:V} {u t:al} (I:Inv X pins σ H s) (rx:RelV x u) (ty:fL X.K H x t) (e:Vs X.K t c=some b) (h:∀tk,Q (.bool b) {s with toks:=tk}) :
  wpAny (model X.prog X.w) A (call (.builtin "isinstance") [u,c]) Q E s :=by
 cases ty with
 |av=>cases (show u=zw from rx);exact BS PySem.W.kitx_none I.gf Go e (fun z=>nomatch z) h
 |bl y=>cases (show u=Wq y from rx);exact BS PySem.W.kitx_bool I.gf Go e (fun z=>nomatch z) h
 |int i=>obtain ⟨t,q⟩:=(show ∃t,u=VA i t from rx);cases q;exact BS PySem.W.kitx_int I.gf Go e (fun z=>nomatch z) h
 |str y=>obtain ⟨t,q⟩:=(show ∃t,u=U6 y t from rx);cases q;exact BS PySem.W.kitx_str I.gf Go e (fun z=>nomatch z) h
 |xf y=>obtain ⟨t,q⟩:=(show ∃t,u=al.float y t from rx);cases q;exact BS PySem.W.kitx_float I.gf Go e (fun z=>nomatch z) h
 | @lst a xs ea=>
  cases (show u=ma a from rx)
  obtain ⟨_,_,n,_,h1⟩:=(show ObjOk X.prog X.w H s.heap a (.lst xs) from I.hok a _ ea)
  exact BS PySem.W.kitx_list I.gf ⟨_,h1,rfl⟩ e (fun z=>nomatch z) h
 | @bL a ob xs ea=>
  cases (show u=ma a from rx)
  obtain ⟨_,_,_,n,_,h1⟩:=(show ObjOk X.prog X.w H s.heap a (.bL ob (.lst xs)) from I.hok a _ ea)
  exact BS PySem.W.kitx_list I.gf ⟨_,h1,rfl⟩ e (fun z=>nomatch z) h
 | @tup a xs ea=>
  cases (show u=ma a from rx)
  obtain ⟨_,_,_,p⟩:=(show ObjOk X.prog X.w H s.heap a (.tup xs) from I.hok a _ ea)
  obtain ⟨o,h1,h2,_⟩:=p
  exact BS PySem.W.kitx_tuple I.gf ⟨o,h1,h2⟩ e (fun z=>nomatch z) h
 | @dK a ao ea=>
  cases (show u=ma a from rx)
  obtain ⟨_,_,vs,_,p⟩:=(show ObjOk X.prog X.w H s.heap a (.dK ao) from I.hok a _ ea)
  obtain ⟨o,es,ep,h1,h2,_⟩:=p
  exact BS PySem.W.kitx_dict I.gf ⟨o,h1,h2.1⟩ e (fun z=>nomatch z) h
 | @dT a ao ea=>
  cases (show u=ma a from rx)
  obtain ⟨_,_,xs,_,o,es,ep,h1,h2,_⟩:=(show ObjOk X.prog X.w H s.heap a (.dT ao) from I.hok a _ ea)
  exact BS PySem.W.kitx_dict I.gf ⟨o,h1,h2.1⟩ e (fun z=>nomatch z) h
 | @ins a C dx fs ea cl ha hn Om hm=>
  cases (show u=ma a from rx)
  obtain ⟨mA,O,_⟩:=Gp I.hok ea
  obtain ⟨od,J,_⟩:=O.look
  exact BS (PySem.W.kitx_own (cl.get _) cl.hd ha hn Om hm) I.gf J e (fun z=>nomatch z) h
end
structure bB (k:Nat) (A:l4):Prop where
 hd:A.handled=none
 dp:A.depth+3 * k+5<recursionLimit
 un:A.units+16 * k+200<cLine
theorem bB.mono {j k:Nat} {A:l4} (r:bB k A) (h:j<=k):bB j A:=⟨r.hd,by have:=r.dp;omega,by have:=r.un;omega⟩
theorem bB.deeper {k:Nat} {A:l4} (r:bB (k+1) A) (env:IF):bB k (A.deeper env):=
 ⟨r.hd,by have:=r.dp;show A.depth+1+3 * k+5<_;omega,by have:=r.un;show A.units+3+16 * k+200<_;omega⟩
theorem bB.depth {k:Nat} {A:l4} (r:bB k A):A.depth<recursionLimit :=by have:=r.dp;omega
theorem bB.units {k:Nat} {A:l4} (r:bB k A):A.units+64<cLine :=by have:=r.un;omega
def Qh:TA:=fun _ H Q=>Q [] H
def MU (ta:TE) (tr:TA):TA:=fun σ H Q=>ta σ H fun x H1=>tr σ H1 fun xs H2=>Q (x::xs) H2
section
variable {X:Cx} {e:cr} {es:List cr} {te:TE} {t:TA} {pos:ul}
theorem IV:PA X [] Qh:=⟨fun _ _ _ _ H Q I h=>Mc ⟨[],H,I,.nil,h⟩⟩
theorem nF (ha:PE X e te) (hr:PA X es t) (hs:starEach (e::es) X.env=(false,eval e X.env)::starEach es X.env :=by rfl):PA X (e::es) (MU te t) :=by
 refine ⟨?_⟩
 intro pos pins s σ H Q I h
 rw [hs]
 show wpAny _ _ (spliced ((false,eval e X.env)::backTo pos (starEach es X.env))) _ _ s
 refine JJ (thn (ha pins s σ H _ I h) fun u s1 ⟨x,H1,I1,r1,q1⟩=>?_)
 exact thn (hr pos pins s1 σ H1 _ I1 q1) fun us s2 ⟨xs,H2,I2,r2,q2⟩=>⟨x::xs,H2,I2,.cons r1 r2,q2⟩
def Qi (t:TA):TE:=fun σ H Q=>t σ H fun xs H1=>xs.length<=sizeLine/\∀p,H1 p=none->Q (.ref p) (upd H1 p (.tup xs))
def Qj (t:TA):TE:=fun σ H Q=>t σ H fun xs H1=>xs.length<=sizeLine/\∀p,H1 p=none->Q (.ref p) (upd H1 p (.lst xs))
theorem IW {x1} (h:PA X es t):PE X (.Tuple es x1 pos) (Qi t) :=by
 refine ⟨?_⟩
 intro pins s σ H Q I hq
 refine wpAny_Tuple_spliced (thn (h pos pins s σ H _ I hq) fun us s1 ⟨xs,H1,I1,r,z,q⟩=>⟨by rw [<- r.length];exact z,?_⟩)
 have hf:H1 s1.heap.objs.size=none:=I1.hok.fresh (cb _)
 refine ⟨.ref s1.heap.objs.size,upd H1 s1.heap.objs.size (.tup xs),I1.laid (t':=s1.toks) (fun b u e=>bn _ e) (cb _) ?_,rfl,q _ hf⟩
 exact ⟨z,us,r,⟨_,dL _ rfl,rfl,_,rfl,rfl⟩⟩
theorem Af (h:PA X es t):PE X (.List es pos) (Qj t) :=by
 refine ⟨?_⟩
 intro pins s σ H Q I hq
 refine wpAny_List_spliced (thn (h pos pins s σ H _ I hq) fun us s1 ⟨xs,H1,I1,r,z,q⟩=>⟨by rw [<- r.length];exact z,?_⟩)
 have hf:H1 s1.heap.objs.size=none:=I1.hok.fresh (cb _)
 refine ⟨.ref s1.heap.objs.size,upd H1 s1.heap.objs.size (.lst xs),I1.laid (t':=s1.toks) (fun b u e=>bn _ e) (cb _) ?_,rfl,q _ hf⟩
 exact ⟨z,us,0,r,dL _ rfl⟩
end
abbrev Sp:=List V->Hp->VK->XK->Prop
abbrev fX:=List IF->Hp->ar->XK->al->ar->Prop
structure qE (P:c8) (w:ff) (K:ba) (mg:bi->Option al) (base:gc) (A:l4) (outer:List IF) (s:ar) (H:Hp):Prop where
 frames:A.frames=some outer
 mod:Mod K mg base
 bs:∀b o,base.get? b=some o->s.heap.get? b=some o/\H b=none
 bsz:base.objs.size<=s.heap.objs.size
 funs:s.heap.FunFrames base outer
 frf:∀b∈eh outer,H b=none
 hok:cL P w H s.heap
 bare:Wm s.gens
def CE (outer:List IF) (P:c8) (w:ff) (H:Hp) (s:ar) (Q:VK) (u:al) (s':ar):Prop:=
 ∃v H',s'.os=s.os/\Gn s.gens.size s'.gens/\Un (eh outer) [] H H' s.heap s'.heap/\cL P w H' s'.heap/\RelV v u/\Q v H'
def CR (CX:fX) (outer:List IF) (P:c8) (w:ff) (H:Hp) (s:ar) (Q:VK) (E:XK) (r:Wn) (s':ar):Prop:=
 match r with
 | .ok (.ret u)=>CE outer P w H s Q u s'
 | .ok _=>False
 | .error e=>CX outer H s E e s'
structure FnOk (P:c8) (w:ff) (K:ba) (mg:bi->Option al) (base:gc) (CX:fX) (k:Nat) (f:ac) (fd:i0) (ps:List bi) (sp:Sp):Prop where
 len:∀vs H Q E,sp vs H Q E->vs.length=ps.length
 run:∀(A:l4) (outer:List IF) (s:ar) (H:Hp) (args:Args) (us:List al) (vs:List V) (Q:VK) (E:XK),bB k A->qE P w K mg base A outer s H->V2 s fd args (ps.zip us)->Vals vs us->sp vs H Q E->
  codeAny (model P w) A (.call (.ref f) args) (CR CX outer P w H s Q E) s
theorem FnOk.mono {P:c8} {w:ff} {K:ba} {mg:bi->Option al} {base:gc} {CX:fX} {j k:Nat} {f:ac} {fd:i0} {ps:List bi} {sp:Sp} (F:FnOk P w K mg base CX j f fd ps sp) (h:j<=k) :
  FnOk P w K mg base CX k f fd ps sp:=⟨F.len,fun A outer s H args us vs Q E hr=>F.run A outer s H args us vs Q E (hr.mono h)⟩
theorem FnOk.imp {P:c8} {w:ff} {K:ba} {mg:bi->Option al} {base:gc} {CX:fX} {k:Nat} {f:ac} {fd:i0} {ps:List bi} {sp Oo:Sp} (F:FnOk P w K mg base CX k f fd ps sp)
  (h:∀vs H Q E,Oo vs H Q E->sp vs H Q E):FnOk P w K mg base CX k f fd ps Oo:=
 ⟨fun vs H Q E q=>F.len vs H Q E (h _ _ _ _ q),fun A outer s H args us vs Q E hr he hb hv hs=>F.run A outer s H args us vs Q E hr he hb hv (h _ _ _ _ hs)⟩
section
variable {X:Cx} {pins:List (ac×im)} {σ:St} {H:Hp} {s s':ar}
theorem Inv.Qk (I:Inv X pins σ H s):qE X.prog X.w X.K X.mg X.base X.A X.stack s H:=
 ⟨I.ok.frames,I.ok.mod,I.bs,uu I.ok.bsz I.sz,I.stack,I.nB,I.hok,I.bare.1⟩
theorem Inv.after {Q:VK} {u:al} (I:Inv X pins σ H s) (h:CE X.stack X.prog X.w H s Q u s'):EP X pins σ Q u s':=by
 obtain ⟨v,H',os,bare,un,hok,r,q⟩:=h
 obtain ⟨hh,g,d,t,E8⟩:=s'
 obtain rfl:E8=s.os:=os
 exact ⟨v,H',I.call (h':=hh) (g':=g) (d':=d) (t':=t) (ch:=[]) un hok bare (fun b z=>absurd z (by simp)),r,q⟩
end
def E9 (sp:Sp) (fy:List V) (E:XK) (t:TA):TE:=fun σ H Q=>t σ H fun vs H1=>sp (vs++fy) H1 Q E
def Binds (K:ba) (fd:i0) (ps:List bi) (ds:List al):Prop:=
 ∀(s:ar) (us:List al),K.In s.heap->(us++ds).length=ps.length->V2 s fd ⟨us,[]⟩ (ps.zip (us++ds))
theorem Binds.all {K:ba} {fd:i0} {ps:List bi} (h:∀us:List al,us.length=ps.length->bindArgs fd ⟨us,[]⟩=pure (ps.zip us)):Binds K fd ps []:=fun s us _ hl=>by
 rw [Cs] at hl ⊢
 exact .of_eq (h us hl)
def Passes (CX:fX) (X:Cx) (E:XK):Prop:=∀(pins:List (ac×im)) (σ:St) (H:Hp) (s:ar) (e:al) (s':ar),Inv X pins σ H s->CX X.stack H s E e s'->X.xe e s'
section
variable {X:Cx} {CX:fX} {k:Nat} {f C:ac} {fd:i0} {ps:List bi} {sp:Sp} {fy:List V} {ds:List al} {E:XK} {x m:bi} {p pos apos:ul} {e o:cr} {es:List cr} {ta:TE} {t:TA}
theorem Ag {pins:List (ac×im)} {σ:St} {H:Hp} {s:ar} {Q:VK} {us:List al} {vs:List V} (F:FnOk X.prog X.w X.K X.mg X.base CX k f fd ps sp) (hr:bB k X.A) (hb:Binds X.K fd ps ds) (hd:Vals fy ds) (hx:Passes CX X E)
  (I:Inv X pins σ H s) (r:Vals vs us) (h:sp (vs++fy) H Q E):wpAny (model X.prog X.w) X.A (call (.ref f) us) (EP X pins σ Q) X.xe s :=by
 have r2:Vals (vs++fy) (us++ds):=r.append hd
 have hl:(us++ds).length=ps.length :=by rw [<- r2.length];exact F.len _ _ _ _ h
 refine wpAny_call (UL (F.run X.A X.stack s H ⟨us,[]⟩ (us++ds) (vs++fy) Q E hr I.Qk (hb s us I.gf hl) r2 h) fun r s' hq=>?_)
 cases r with
 |error e=>exact hx pins σ H s e s' I hq
 |ok fl=>
  cases fl with
  |ret u=>exact I.after hq
  |next=>exact Co hq
  |brk=>exact Co hq
  |cont=>exact Co hq
theorem Gq (F:FnOk X.prog X.w X.K X.mg X.base CX k f fd ps sp) (hr:bB k X.A) (hg:Gl X x) (hm:X.mg x=some (.ref f)) (hk:AT X.K (.ref f)=true) (hb:Binds X.K fd ps ds) (hd:Vals fy ds) (hx:Passes CX X E)
  (ha:PA X (e::es) t) (eS:(x==("__debug__" : bi))=false :=by decide) (he:starEach (e::es) X.env=(false,eval e X.env)::starEach es X.env :=by rfl) (cY:(backTo pos (starEach es X.env)).any (·.1)=false :=by rfl) :
  PE X (.Call (.Name x p) (e::es) [] pos) (E9 sp fy E t) :=by
 refine ⟨?_⟩
 intro pins s σ H Q I h
 refine BY (nE I hg hm ?_ eS)
 refine PySem.W.callWith_K (h₀:=X.base) I.ok.mod.kin hk (thn (ha pos pins s σ H _ I h) fun us s1 ⟨vs,H1,I1,r,q⟩=>⟨I1.gf,?_⟩) he cY
 exact Ag F hr hb hd hx I1 r q
end
structure aK (N P:List bi) (sc:wn):Prop where
 kind:sc.kind=.function
 co:sc.isCoroutine=false
 gen:sc.isGenerator=false
 nd:N.Nodup
 pre:N.take P.length=P
 par:∀x∈P,sc.names.lookup x=some .local\/sc.names.lookup x=some .cell
 nofree:∀y∈sc.names,y.2≠.free
theorem rN {kindOf:bi->Option Pd} {x:bi}:∀{binds:List (bi×al)} {m:bi->Option al},(∀v,(x,v) ∉ binds)->bindL kindOf binds m x=m x
 | [],_,_=>rfl
 |(n,v)::r,m,h=>by
          unfold bindL
          rw [rN fun w hw=>h w (gl _ hw)]
          split
          ·have:x≠n :=by rintro rfl;exact h v jp
           simp [this]
          ·rfl
theorem rO {kindOf:bi->Option Pd} {x:bi}:∀{binds:List (bi×al)} {m:bi->Option al},(∀v,(x,v) ∉ binds)->bindC kindOf binds m x=m x
 | [],_,_=>rfl
 |(n,v)::r,m,h=>by
          unfold bindC
          rw [rO fun w hw=>h w (gl _ hw)]
          split
          ·rfl
          ·have:x≠n :=by rintro rfl;exact h v jp
           simp [this]
theorem rP {kindOf:bi->Option Pd} {x:bi} {v:al}:∀{P:List bi} {vs:List al} {i:Nat} {m:bi->Option al},P.Nodup->P[i]?=some x->vs[i]?=some v->kindOf x=some .local->
  bindL kindOf (P.zip vs) m x=some v
 | [],_,_,_,_,h,_,_=>by simp at h
 |_::_,[],_,_,_,_,h,_=>by simp at h
 |p::P,w::vs,0,m,nd,h1,h2,hk=>by
          simp at h1 h2;subst h1;subst h2
          show bindL kindOf ((p,w)::P.zip vs) m p=_
          unfold bindL
          rw [rN fun v hv=>(Lu.mp nd).1 (OL hv).1,if_pos hk]
          simp
 |p::P,w::vs,i+1,m,nd,h1,h2,hk=>by
          show bindL kindOf ((p,w)::P.zip vs) m x=_
          unfold bindL
          exact rP (i:=i) (Lu.mp nd).2 (by simpa using h1) (by simpa using h2) hk
theorem rQ {kindOf:bi->Option Pd} {x:bi} {v:al}:∀{P:List bi} {vs:List al} {i:Nat} {m:bi->Option al},P.Nodup->P[i]?=some x->vs[i]?=some v->kindOf x≠some .local->
  bindC kindOf (P.zip vs) m x=some v
 | [],_,_,_,_,h,_,_=>by simp at h
 |_::_,[],_,_,_,_,h,_=>by simp at h
 |p::P,w::vs,0,m,nd,h1,h2,hk=>by
          simp at h1 h2;subst h1;subst h2
          show bindC kindOf ((p,w)::P.zip vs) m p=_
          unfold bindC
          rw [rO fun v hv=>(Lu.mp nd).1 (OL hv).1,if_neg hk]
          simp
 |p::P,w::vs,i+1,m,nd,h1,h2,hk=>by
          show bindC kindOf ((p,w)::P.zip vs) m x=_
          unfold bindC
          exact rQ (i:=i) (Lu.mp nd).2 (by simpa using h1) (by simpa using h2) hk
def start (N:List bi) (vs:List V):St:=vs.map some++r9 (N.length - vs.length) none
def fo (CX:fX) (P:c8) (w:ff) (K:ba) (mg:bi->Option al) (base:gc) (N:List bi) (qual:bi) (scope:wn) (f:ac) (cd:al) (A:l4) (outer:List IF) (s:ar) (H:Hp) (E:XK):Cx where
 prog:=P
 w:=w
 K:=K
 mg:=mg
 base:=base
 A:=A.deeper (envOfC qual scope s.heap.objs.size f cd)
 N:=N
 s₀:=s
 H₀:=H
 env:=envOfC qual scope s.heap.objs.size f cd
 outer:=outer
 stack:=envOfC qual scope s.heap.objs.size f cd::outer
 ex:=[]
 calm:=true
 fn:=fun _=>true
 pn:=[]
 xe:=fun e s'=>wpAny (model P w) (A.deeper (envOfC qual scope s.heap.objs.size f cd)) (leaving (envOfC qual scope s.heap.objs.size f cd) e) (fun _ a9=>CX outer H s E e a9) (fun e' a9=>CX outer H s E e' a9) s'
theorem uf {sc:wn} {n:Nat} {x:bi} (h:sc.names.lookup x=some .cell):∃c,(cellsFrom n sc.names []).lookup x=some c :=by
 have q:=PySem.W.cellsFrom_some sc.names n [] (.inl h)
 exact Option.isSome_iff_exists.mp q
theorem Ah {CX:fX} {P:c8} {w:ff} {K:ba} {mg:bi->Option al} {base:gc} {N ps:List bi} {qual:bi} {scope:wn} {f:ac} {cd:al} {A:l4} {outer:List IF} {s s1:ar} {H:Hp} {E:XK} {us:List al} {vs:List V}
  (S:aK N ps scope) (hd:A.handled=none) (e0:qE P w K mg base A outer s H) (hl:vs.length=ps.length) (r:Vals vs us)
  (x:InCallC s s.heap.objs.size (bindL (envOfC qual scope s.heap.objs.size f cd).kindOf (ps.zip us) fun _=>none) (cellsFrom (s.heap.objs.size+1) scope.names []) (bindC (envOfC qual scope s.heap.objs.size f cd).kindOf (ps.zip us) fun _=>none) s1) :
  Inv (fo CX P w K mg base N qual scope f cd A outer s H E) [] (start N vs) H s1 :=by
 have cY:ps.length<=N.length :=by have:=congrArg List.length S.pre;rw [U1] at this;omega
 obtain ⟨h1,tk,rfl,hk⟩:=x.done
 have IX:∀b:ac,b ∉ (fo CX P w K mg base N qual scope f cd A outer s H E).ex:=fun b z=>absurd (show b∈([]:List ac) from z) (by simp)
 refine ⟨⟨e0.mod,S.kind,rfl,rfl,cb _,fun y z c h1 h2=>?_,fun y hy=>?_,fun y c _ h=>?_,fun _=>hd,l4.frames_deeper e0.frames,.inr ⟨rfl,rfl⟩,fun b z=>absurd z (IX b),e0.bs,e0.bsz,fun b _ _=>IX b,fun b z=>absurd z (IX b),e0.funs,e0.frf⟩,
  rfl,⟨e0.bare,cb _⟩,Un.kept hk,⟨_,x.toInCall.ns,fun i y v h1 h2 h3=>?_⟩,fun y c h=>⟨_,x.cell y c h⟩,e0.hok.fresh (cb _),fun y c h=>?_,fun p hp=>absurd (show p∈([]:List (ac×im)) from hp) (by simp),e0.hok.kept hk,?_⟩
 ·exact name_of_addr x.apart (wE h1) (wE h2)
 ·have hy:scope.names.lookup y=some .cell\/scope.names.lookup y=some .free:=hy
  rcases hy with hy|hy
  ·exact uf hy
  ·exact absurd rfl (S.nofree _ (wE hy))
 ·exact Re (x.above y c (wE h))
 ·have hi:i<vs.length :=by
   unfold start at h2
   by_cases hi:i<vs.length
   ·exact hi
   ·rw [wp (by simpa using hi)] at h2
    rw [OF] at h2
    split at h2 <;> cases h2
  have ha:vs[i]?=some v :=by
   unfold start at h2
   rw [sB (by simpa using hi),ca] at h2
   cases e:vs[i]? with
   |none=>rw [e] at h2;cases h2
   |some a=>rw [e] at h2;cases h2;rfl
  obtain ⟨u,hu,rv⟩:=r.get ha
  have hp:ps[i]?=some y :=by
   rw [<- S.pre,List.getElem?_take_of_lt (by omega)];exact h1
  have Oq:ps.Nodup :=by rw [<- S.pre];exact S.nd.sublist (List.take_sublist _ _)
  refine ⟨u,rv,?_⟩
  rcases S.par y (ii hp) with k|k
  ·exact .inl ⟨k,rP Oq hp hu k⟩
  ·obtain ⟨c,e⟩:=uf (n:=s.heap.objs.size+1) k
   refine .inr ⟨.inl k,c,e,?_⟩
   have q:=x.cell y c e
   rw [rQ Oq hp hu (by show scope.names.lookup y≠_;rw [k];decide)] at q
   exact q
 ·exact e0.hok.fresh (Re (x.above y c (wE h)))
 ·unfold start
  show _=N.length
  rw [tz,ci,Rs]
  omega
theorem yq {CX:fX} {P:c8} {w:ff} {K:ba} {mg:bi->Option al} {base:gc} {k:Nat} {f:ac} {name qual:bi} {params:IT} {body:List mv} {scope:wn} {dV kV doc pm cD ct oc:al} {an od:Option ac}
  {jP:Array (Option al)} {N ps:List bi} {sp:Sp} (lk:K.lookup f=some ⟨oc,od,.func (xw name qual params body scope dV kV doc pm an cD ct),jP⟩) (dG:FF K cD qual=true) (S:aK N ps scope)
  (len:∀vs H Q E,sp vs H Q E->vs.length=ps.length)
  (kY:∀(A:l4) (outer:List IF) (s:ar) (H:Hp) (vs:List V) (Q:VK) (E:XK),bB k (A.deeper (envOfC qual scope s.heap.objs.size f cD))->sp vs H Q E->
   ∃t,fW (fo CX P w K mg base N qual scope f cD A outer s H E) body t/\t {nx:=fun _ H'=>Q .av H',rt:=Q} (start N vs) H) :
  FnOk P w K mg base CX (k+1) f (xw name qual params body scope dV kV doc pm an cD ct) ps sp :=by
 refine ⟨len,fun A outer s H args us vs Q E hr e0 hb r jQ=>?_⟩
 have hl:=len _ _ _ _ jQ
 have KX:K.In s.heap:=e0.mod.kin.keeps fun b o e=>(e0.bs b o e).1
 have lim:s.heap.NoLimit:=e0.mod.nolimit.keeps fun b o e=>(e0.bs b o e).1
 have tM:∀y∈ps.zip us,scope.names.lookup y.1=some .local\/(scope.names.lookup y.1=some .cell/\((cellsFrom (s.heap.objs.size+1) scope.names []).lookup y.1).isSome=true):=fun ⟨n,v⟩ hy=>by
  rcases S.par n (OL hy).1 with q|q
  ·exact .inl q
  ·exact .inr ⟨q,PySem.W.cellsFrom_some _ _ _ (.inl q)⟩
 refine codeAny_call_function hr.depth (KX _ _ lk) rfl S.co S.gen rfl (PySem.W.codeRec_of KX dG) (hb _ _ _ _ ?_)
 refine wpAny_newFunctionEnv_cells S.kind tM fun env he s1 x=>?_
 subst he
 refine ⟨lim.keeps x.toInCall.keep,codeAny_func ?_⟩
 obtain ⟨t,ht,hq⟩:=kY A outer s H vs Q E (hr.deeper _) jQ
 have I:Inv (fo CX P w K mg base N qual scope f cD A outer s H E) [] (start N vs) H s1:=Ah S hr.hd e0 hl r x
 refine l6 (ht [] s1 (start N vs) H _ I hq) (fun fl s' hs=>?_) fun e s' hs=>hs
 have fin:∀{aH:St} {H':Hp} {v:V} {u:al},Inv (fo CX P w K mg base N qual scope f cD A outer s H E) [] aH H' s'->RelV v u->Q v H'->CE outer P w H s Q u s':=
  fun {aH H' v u} J rv q=>⟨v,H',J.os,J.bare,J.base,J.hok,rv,q⟩
 cases fl with
 |ret u=>
  obtain ⟨v,aH,H',J,rv,q⟩:=hs
  exact fin J rv q
 |next=>
  obtain ⟨aH,H',J,q⟩:=hs
  exact fin (v:=V.av) (u:=zw) J rfl q
 |brk=>
  obtain ⟨_,_,_,q⟩:=hs
  exact Co q
 |cont=>
  obtain ⟨_,_,_,q⟩:=hs
  exact Co q
section
variable {X:Cx} {x:bi} {p pos:ul} {e:cr} {es:List cr} {t:TA} {id T:String} {r:List V->Hp->VK->Prop}
def IY (r:List V->Hp->VK->Prop) (t:TA):TE:=fun σ H Q=>t σ H fun vs H1=>r vs H1 Q
theorem Dh (hc:dj X (.builtin id) r) (hg:Gl X x) (hm:X.mg x=none) (hv:bootBuiltins x=some (.builtin id)) (ha:PA X (e::es) t) (hn:x ≠ "__name__" := by decide) (eS:(x==("__debug__" : bi))=false :=by decide)
  (he:starEach (e::es) X.env=(false,eval e X.env)::starEach es X.env :=by rfl) (cY:(backTo pos (starEach es X.env)).any (·.1)=false :=by rfl):PE X (.Call (.Name x p) (e::es) [] pos) (IY r t) :=by
 refine ⟨?_⟩
 intro pins s σ H Q I h
 refine BY (fw I hg hm hv ?_ hn eS)
 exact PyProof.Rows.callWith_builtin1 (thn (ha pos pins s σ H _ I h) fun us s1 ⟨vs,H1,I1,r1,q1⟩=>hc pins s1 σ H1 vs us Q I1 r1 q1) he cY
theorem Ai (hc:dj X (.type T) r) (hg:Gl X x) (hm:X.mg x=none) (hv:bootBuiltins x=some (.type T)) (ha:PA X (e::es) t) (hn:x ≠ "__name__" := by decide) (eS:(x==("__debug__" : bi))=false :=by decide)
  (he:starEach (e::es) X.env=(false,eval e X.env)::starEach es X.env :=by rfl) (cY:(backTo pos (starEach es X.env)).any (·.1)=false :=by rfl):PE X (.Call (.Name x p) (e::es) [] pos) (IY r t) :=by
 refine ⟨?_⟩
 intro pins s σ H Q I h
 refine BY (fw I hg hm hv ?_ hn eS)
 exact zn (thn (ha pos pins s σ H _ I h) fun us s1 ⟨vs,H1,I1,r1,q1⟩=>hc pins s1 σ H1 vs us Q I1 r1 q1) he cY
end
end L2
namespace HT
open PySem PyProof.Rows
section
variable {prog:c8} {w:ff} {A:l4} {E:al->ar->Prop} {s:ar}
def jf (n d:Nat):Option Int->Nat
 |none=>d
 |some v=>if v<0 then (v+(n:Int)).toNat else min v.toNat n
end
end HT
namespace L2
open PySem PySem.Spec PyProof.Rows
abbrev TO:=St->Hp->(Option Int->Hp->Prop)->Prop
def PO (X:Cx) (e:Option cr) (t:TO):Prop:=
 ∀(pins:List (ac×im)) (s:ar) (σ:St) (H:Hp) (Q:Option Int->Hp->Prop),Inv X pins σ H s->t σ H Q->
  wpAny (model X.prog X.w) X.A (evalPart e X.env) (fun u s'=>∃o H',Inv X pins σ H' s'/\IsPart u o/\Q o H') X.xe s
def Gr:TO:=fun _ H Q=>Q none H
def MV (t:TE):TO:=fun σ H Q=>t σ H fun x H1=>∃i,x=.int i/\Q (some i) H1
section
variable {X:Cx} {e:cr} {te:TE} {lo hi:Option cr} {tl th:TO} {pos p2:ul}
theorem Gs:PO X none Gr :=by
 intro pins s σ H Q I h
 rw [evalPart_none]
 exact br ⟨none,H,I,.none,h⟩
theorem Gu (h:PE X e te):PO X (some e) (MV te) :=by
 intro pins s σ H Q I hw
 rw [evalPart_some]
 refine thn (h pins s σ H _ I hw) fun u s1 ⟨x,H1,I1,r1,q1⟩=>?_
 obtain ⟨i,rfl,q⟩:=q1
 obtain ⟨t,rfl⟩:=r1
 exact ⟨some i,H1,I1,.int i t,q⟩
def Fb (X:Cx) (r:V->Option Int->Option Int->Hp->VK->Prop):Prop:=
 ∀(pins:List (ac×im)) (s:ar) (σ:St) (H:Hp) (x:V) (v vl vu:al) (lo hi:Option Int) (sl:ac) (Q:VK),Inv X pins σ H s->RelV x v->s.heap.IsSliceOf sl vl vu .none->IsPart vl lo->IsPart vu hi->r x lo hi H Q->
  ∃T id,typeLookup (.type T) "__getitem__" = pure (some (.builtin id))/\s.TypeIs v T/\wpAny (model X.prog X.w) X.A (getItem v (.ref sl)) (EP X pins σ Q) X.xe s
def Ry (r:V->Option Int->Option Int->Hp->VK->Prop) (te:TE) (tl th:TO):TE:=fun σ H Q=>te σ H fun x H1=>tl σ H1 fun l H2=>th σ H2 fun u H3=>r x l u H3 Q
theorem Di {r:V->Option Int->Option Int->Hp->VK->Prop} (hr:Fb X r) (he:PE X e te) (hl:PO X lo tl) (hu:PO X hi th):PE X (.Subscript e (.Slice lo hi none p2) pos) (Ry r te tl th) :=by
 refine ⟨?_⟩
 intro pins s σ H Q I h
 refine Subscript_ (thn (he pins s σ H _ I h) fun v s1 ⟨x,H1,I1,r1,q1⟩=>?_)
 refine wpAny_Slice (thn (hl pins s1 σ H1 _ I1 q1) fun vl s2 ⟨l,H2,I2,pl,q2⟩=>thn (hu pins s2 σ H2 _ I2 q2) fun vu s3 ⟨u,H3,I3,pu,q3⟩=>?_)
 rw [evalPart_none]
 refine br ?_
 have I4:Inv X pins σ H3 {s3 with heap:=s3.heap.push {cls:=.type "slice",data:=.fields #[vl,vu,.none]}}:=I3.kept (t':=s3.toks) fun b ob q=>bn _ q
 obtain ⟨T,id,hT,ht,hg⟩:=hr pins {s3 with heap:=s3.heap.push {cls:=.type "slice",data:=.fields #[vl,vu,.none]}} σ H3 x v vl vu l u s3.heap.objs.size Q I4 r1 (gc.IsSliceOf.new ..) pl pu q3
 show wpAny (model X.prog X.w) X.A (subscriptTail e (.Slice lo hi none p2) v (.ref s3.heap.objs.size)) (EP X pins σ Q) X.xe {s3 with heap:=s3.heap.push {cls:=.type "slice",data:=.fields #[vl,vu,.none]}}
 exact tail_any (ops:=[.ref s3.heap.objs.size,v]) ht hT hg (by with_unfolding_all rfl)
def yr (xs:List V) (lo hi:Option Int):List V:=(xs.drop (HT.jf xs.length 0 lo)).take (HT.jf xs.length xs.length hi - HT.jf xs.length 0 lo)
theorem wo (xs:List V) (lo hi:Option Int):(yr xs lo hi).length<=xs.length :=by
 unfold yr
 rw [U1,V4]
 omega
end
def gh (n:Nat) (i:Int):Option Nat:=if 0<=i then (if i<n then some i.toNat else none) else if -(n:Int)<=i then some (i+n).toNat else none
def cf {α:Type} (xs:List α) (i:Int):Option α:=(gh xs.length i).bind fun j=>xs[j]?
theorem qF {n:Nat} {i:Int} {j:Nat} (h:gh n i=some j):seqIndex? i n=some j/\j<n /\ -(n:Int)<=i/\i<n :=by
 unfold gh at h
 by_cases h0:0<=i
 ·rw [if_pos h0] at h
  by_cases h1:i<n
  ·rw [if_pos h1] at h
   have e:i.toNat=j:=ij h
   exact ⟨by rw [seqIndex_of h0 h1,e],by omega,by omega,h1⟩
  ·rw [if_neg h1] at h;cases h
 ·rw [if_neg h0] at h
  by_cases h1 : -(n:Int)<=i
  ·rw [if_pos h1] at h
   have e:(i+n).toNat=j:=ij h
   exact ⟨by rw [seqIndex_neg (by omega) h1,e],by omega,h1,by omega⟩
  ·rw [if_neg h1] at h;cases h
theorem qG {α:Type} {xs:List α} {i:Int} {v:α} (h:cf xs i=some v):∃j,seqIndex? i xs.length=some j/\xs[j]?=some v/\j<xs.length /\ -(xs.length:Int)<=i/\i<xs.length :=by
 unfold cf at h
 cases e:gh xs.length i with
 |none=>rw [e] at h;cases h
 |some j=>
  rw [e] at h
  obtain ⟨h1,h2,h3,h4⟩:=qF e
  exact ⟨j,h1,h,h2,h3,h4⟩
theorem ck {α:Type} {xs:List α} {j:Nat} {v:α} (h:xs[j]?=some v):cf xs (j:Int)=some v :=by
 have hj:j<xs.length:=(bv.mp h).1
 have e:gh xs.length (j:Int)=some j :=by
  unfold gh
  rw [if_pos (by omega),if_pos (by omega)];simp
 unfold cf;rw [e];exact h
def xn (b:cr):Prop:=∀o i,subscripted b false o i=operate [o,i] (getItem o i)
def mq (X:Cx) (r:R2):Prop:=
 ∀(value slice:cr) (pins:List (ac×im)) (s:ar) (σ:St) (H:Hp) (x y:V) (v u:al) (Q:VK),Inv X pins σ H s->RelV x v->RelV y u->r x y H Q->
  subscripted slice false v u=operate [v,u] (getItem v u)->wpAny (model X.prog X.w) X.A (subscriptTail value slice v u) (EP X pins σ Q) X.xe s
def Fc (X:Cx) (id:String) (r:V->List V->Hp->VK->Prop):Prop:=
 ∀(pins:List (ac×im)) (s:ar) (σ:St) (H:Hp) (x:V) (xs:List V) (v:al) (us:List al) (Q:VK),Inv X pins σ H s->RelV x v->Vals xs us->r x xs H Q->
  wpAny (model X.prog X.w) X.A (call (.builtin id) (v::us)) (EP X pins σ Q) X.xe s
section
variable {X:Cx} {a b:cr} {ta tb:TE} {pos:ul}
theorem mq.or {r r':R2} (h:mq X r) (h':mq X r'):mq X (fun x y H Q=>r x y H Q\/r' x y H Q) :=by
 intro value slice pins s σ H x y v u Q I rx ry q hs
 rcases q with q|q
 ·exact h value slice pins s σ H x y v u Q I rx ry q hs
 ·exact h' value slice pins s σ H x y v u Q I rx ry q hs
theorem MX {r:R2} (hr:mq X r) (ha:PE X a ta) (hb:PE X b tb) (hs:xn b):PE X (.Subscript a b pos) (z8 r ta tb) :=by
 refine ⟨?_⟩
 intro pins s σ H Q I h
 exact Subscript_ (C4 ha hb I h fun v u s2 x y H2 I2 rx ry q=>hr a b pins s2 σ H2 x y v u Q I2 rx ry q (hs _ _))
def IZ (K:ba):R2:=fun x y H Q=>∃p xs i v,x=.ref p/\y=.int i/\bN K H p xs/\cf xs i=some v/\Q v H
def Ja (K:ba):R2:=fun x y H Q=>∃p xs i v,x=.ref p/\y=.int i/\cM K H p xs/\cf xs i=some v/\Q v H
def Jb:R2:=fun x y H Q=>∃z i c,x=.str z/\y=.int i/\z.length<=sizeLine/\cf z.cps.toList i=some c/\Q (.str ⟨#[c]⟩) H
theorem Gv:mq X (IZ X.K) :=by
 intro value slice pins s σ H x y v u Q I rx ry h hs
 obtain ⟨p,xs,i,z,rfl,rfl,hq,he,q⟩:=h
 cases rx
 obtain ⟨t,rfl⟩:=ry
 obtain ⟨its,r,pl,hz⟩:=I.list hq
 obtain ⟨j,h1,h2,h3,h4,h5⟩:=qG he
 obtain ⟨w,ew,jc⟩:=r.get h2
 have hl:=r.length
 have hn:=kj
 have fin:EP X pins σ Q w s:=⟨z,H,I,jc,q⟩
 by_cases h0:0<=i
 ·have hj:i.toNat=j :=by
   rw [seqIndex_of h0 h5] at h1
   exact ij h1
  exact item_listR pl.isList h0 (by omega) (by rw [hj];simpa using ew) fin hs
 ·have hj:(i+(its.toArray.size:Int)).toNat=j :=by
   rw [seqIndex_neg (by omega) h4] at h1
   rw [db,<- hl]
   exact ij h1
  exact subscriptTail_builtinR (x:=w) pl.isList.typeIs slot_list_getitem.lookup
   (wpAny_getItem_list_neg (Q:=fun r s'=>r=w/\EP X pins σ Q r s') pl.isList (by omega) (by rw [db] <;> omega) (by omega) (by rw [hj];simpa using ew) ⟨rfl,fin⟩) hs
theorem Jc:mq X (Ja X.K) :=by
 intro value slice pins s σ H x y v u Q I rx ry h hs
 obtain ⟨p,xs,i,z,rfl,rfl,hq,he,q⟩:=h
 cases rx
 obtain ⟨t,rfl⟩:=ry
 obtain ⟨its,r,pl,hz⟩:=I.tuple hq
 obtain ⟨j,h1,h2,h3,h4,h5⟩:=qG he
 obtain ⟨w,ew,jc⟩:=r.get h2
 have hl:=r.length
 have hn:=kj
 have fin:EP X pins σ Q w s:=⟨z,H,I,jc,q⟩
 exact subscriptTail_builtinR (x:=w) pl.typeIs slot_tuple_getitem.lookup
  (getItem_tuple (j:=j) (Q:=fun r s'=>r=w/\EP X pins σ Q r s') pl (by omega) (by omega) (by rw [db,<- hl];exact h1) (by simpa using ew) ⟨rfl,fin⟩) hs
theorem Jd:mq X Jb :=by
 intro value slice pins s σ H x y v u Q I rx ry h hs
 obtain ⟨z,i,c,rfl,rfl,hz,he,q⟩:=h
 obtain ⟨t,rfl⟩:=rx
 obtain ⟨t',rfl⟩:=ry
 obtain ⟨j,h1,h2,h3,h4,h5⟩:=qG he
 have hl:z.cps.toList.length=z.length :=by simp [bi.length]
 rw [hl] at h1 h4 h5
 have hn:=kj
 exact tail_any (typeIs_str s z t) slot_str_getitem.lookup (getItem_str (c:=c) (by
  have e1:decide (i < -(2 ^ 63:Int))=false:=decide_eq_false (by omega)
  have e2:decide (i ≥ 2 ^ 63)=false:=decide_eq_false (by omega)
  rw [e1,e2,Bool.or_false]) (by rw [h1];simpa using h2) ⟨.str ⟨#[c]⟩,H,I.tok _,⟨_,rfl⟩,q⟩) hs
def Ot (K:ba):R2:=fun x y H Q=>IZ K x y H Q\/Ja K x y H Q\/Jb x y H Q
theorem Je:mq X (Ot X.K):=Gv.or (Jc.or Jd)
theorem yt (its:List al) (n j:Nat) (u:al):IN (·.setIfInBounds j u) {cls:=.type "list",data:=.seq its.toArray n}={cls:=.type "list",data:=.seq (its.set j u).toArray n}:=by
 simp [IN]
theorem Inv.lst {pins:List (ac×im)} {σ:St} {H:Hp} {s:ar} {p:ac} {xs:List V} (I:Inv X pins σ H s) (h:H p=some (.lst xs)) :
  ∃(its:List al) (n:Nat),Vals xs its/\s.heap.get? p=some {cls:=.type "list",data:=.seq its.toArray n}/\xs.length<=sizeLine :=by
 obtain ⟨z,its,n,r,e⟩:=I.hok p _ h
 exact ⟨its,n,r,e,z⟩
theorem Inv.Jf {pins:List (ac×im)} {σ:St} {H:Hp} {s:ar} {p:ac} {xs ys:List V} {its its':List al} {n n':Nat} {f:im->im} (I:Inv X pins σ H s) (h:H p=some (.lst xs))
  (ho:s.heap.get? p=some {cls:=.type "list",data:=.seq its.toArray n}) (hf:f {cls:=.type "list",data:=.seq its.toArray n}={cls:=.type "list",data:=.seq its'.toArray n'}) (r:Vals ys its') (hz:ys.length<=sizeLine) (t:Nat) :
  Inv X pins σ (upd H p (.lst ys)) {s with heap:=s.heap.update p f,toks:=t}:=by
 have e:(s.heap.update p f).get? p=some {cls:=.type "list",data:=.seq its'.toArray n'}:=by
  rw [BB f ho (by rw [hf] <;> rfl),hf]
 refine I.write (x:=p) (e:=p) (by rw [h];trivial) (.inl rfl) (fun b u hb q=>(At _ _ (xz hb)).trans q) ⟨_,e⟩ ?_
 exact ⟨hz,its',n',r,e⟩
def MY:V->V->V->Hp->(Hp->Prop)->Prop:=fun o i v H Q=>∃p xs k j,o=.ref p/\i=.int k/\H p=some (.lst xs)/\gh xs.length k=some j/\Q (upd H p (.lst (xs.set j v)))
theorem set_list:Im X MY :=by
 intro pins s σ H o i v ov iv u Q I ro ri rv h
 obtain ⟨p,xs,k,j,rfl,rfl,hp,hj,q⟩:=h
 cases ro
 obtain ⟨t,rfl⟩:=ri
 obtain ⟨its,n,r,ho,hz⟩:=I.lst hp
 obtain ⟨h1,h2,h3,h4⟩:=qF hj
 have hl:=r.length
 have hn:=kj
 have I':Inv X pins σ (upd H p (.lst (xs.set j v))) {s with heap:=s.heap.update p (IN (·.setIfInBounds j u))}:=
  I.Jf hp ho (yt its n j u) (r.set rv j) (by rw [Tl];exact hz) s.toks
 by_cases h0:0<=k
 ·have hk:k.toNat=j :=by
   rw [seqIndex_of h0 h4] at h1
   exact ij h1
  exact PySem.W.ki_setAt ho h0 (by omega) (by rw [db,<- hl];exact h4) (by rw [hk];exact ⟨_,I',q⟩)
 ·have hk:(k+(its.toArray.size:Int)).toNat=j :=by
   rw [seqIndex_neg (by omega) h3] at h1
   rw [db,<- hl]
   exact ij h1
  exact PySem.W.ki_setBack ho (by omega) (by rw [db,<- hl];exact h3) (by omega) (by rw [hk];exact ⟨_,I',q⟩)
theorem ug (lo hi:Option Int) (n:Nat):(sliceBounds lo hi none n).1=((HT.jf n 0 lo:Nat):Int)/\(sliceBounds lo hi none n).2.1=((HT.jf n n hi:Nat):Int)/\(sliceBounds lo hi none n).2.2=1 :=by
 refine ⟨?_,?_,rfl⟩
 ·cases lo with
  |none=>simp [sliceBounds,HT.jf]
  |some i=>
   simp only [sliceBounds,HT.jf,Option.getD_none,show (1:Int) > 0 by decide,if_true]
   by_cases h:i<0
   ·simp only [h,if_true] <;> omega
   ·simp only [h,if_false] <;> omega
 ·cases hi with
  |none=>simp [sliceBounds,HT.jf]
  |some i=>
   simp only [sliceBounds,HT.jf,Option.getD_none,show (1:Int) > 0 by decide,if_true]
   by_cases h:i<0
   ·simp only [h,if_true] <;> omega
   ·simp only [h,if_false] <;> omega
theorem sZ (its:List al) (lo hi:Option Int):slicePick its.toArray lo hi none=((its.drop (HT.jf its.length 0 lo)).take (HT.jf its.length its.length hi - HT.jf its.length 0 lo)).toArray :=by
 obtain ⟨h1,h2,h3⟩:=ug lo hi its.toArray.size
 unfold slicePick
 rw [h1,h2,h3]
 simp only [sliceRange_one,pick_run,db] <;> rfl
def Ql (K:ba):V->Option Int->Option Int->Hp->VK->Prop:=fun x lo hi H Q=>∃a xs,x=.ref a/\bN K H a xs/\∀p,H p=none->Q (.ref p) (upd H p (.lst (yr xs lo hi)))
theorem Rk:Fb X (Ql X.K) :=by
 intro pins s σ H x v vl vu lo hi sl Q I rx hs pl pu h
 obtain ⟨a,xs,rfl,hx,q⟩:=h
 cases rx
 obtain ⟨its,r,ht,hz⟩:=I.list hx
 have hlen:=r.length
 refine ⟨"list",_,slot_list_getitem.lookup,ht.isList.typeIs,?_⟩
 refine wpAny_getItem_list_slice ht.isList hs pl pu .none (by simp) ?_ (by rw [db] <;> omega)
 rw [sZ,<- hlen]
 refine ⟨.ref s.heap.objs.size,_,I.laid (t':=s.toks) (o:=.lst (yr xs lo hi)) (fun b ob q=>bn _ q) (cb _) ?_,rfl,q _ (I.hok.fresh (cb _))⟩
 exact ⟨uu (wo xs lo hi) hz,_,0,(r.drop (HT.jf xs.length 0 lo)).take (HT.jf xs.length xs.length hi - HT.jf xs.length 0 lo),dL _ rfl⟩
theorem tj:dj X (.type "tuple") (fun xs H Q=>∃p ys,xs=[.ref p]/\((bN X.K H p ys/\∀l,H l=none->Q (.ref l) (upd H l (.tup ys)))\/(cM X.K H p ys/\Q (.ref p) H))) :=by
 intro pins s σ H xs us Q I r h
 obtain ⟨p,ys,rfl,h⟩:=h
 obtain ⟨u,rfl,rx⟩:=vals1 r
 cases rx
 rcases h with ⟨hq,q⟩|⟨hq,q⟩
 ·obtain ⟨its,r',pl,hz⟩:=I.list hq
  have hlen:=r'.length
  refine call_tuple_list pl.isList (fun h' kp=>?_) (by simp only [db] <;> omega)
  have I1:Inv X pins σ H {s with heap:=h'}:=I.kept (t':=s.toks) kp
  have I2:Inv X pins σ (upd H h'.objs.size (.tup ys)) {s with heap:=h'.push {cls:=.type "tuple",data:=.seq its.toArray}}:=
   I1.laid (t':=s.toks) (fun b o e=>bn _ e) (cb _) (show ObjOk X.prog X.w _ _ _ (.tup ys) from ⟨hz,its,r',j9.new _ _⟩)
  exact ⟨.ref h'.objs.size,_,I2,rfl,q _ (I1.hok.fresh (cb _))⟩
 ·obtain ⟨its,r',pl,hz⟩:=I.tuple hq
  exact call_tuple_same pl ⟨.ref p,H,I,rfl,q⟩
def Jg (K:ba) (T:String) (x:V) (H:Hp):Prop:=match x with
 | .str _=>T = "str"
 | .int _=>T = "int"
 | .ref p=>(T = "list" /\ ∃xs,bN K H p xs)\/(T = "tuple" /\ ((∃o,K.lookup p=some o/\o.cls=.type "tuple" /\ o.dict=none)\/∃xs,H p=some (.tup xs))) \/
   (T = "dict" /\ ((∃ao,H p=some (.dK ao))\/∃ao,H p=some (.dT ao)))\/(T = "set" /\ ∃S n,H p=some (.set S n))
 |_=>False
theorem Jh {pins:List (ac×im)} {σ:St} {H:Hp} {s:ar} {T:String} {x:V} {v:al} (I:Inv X pins σ H s) (r:RelV x v) (ty:Jg X.K T x H) :
  s.TypeIs v T/\∀a,v=.ref a->∃ob,s.heap.get? a=some ob/\ob.dict=none :=by
 cases x with
 |str z=>
  obtain ⟨t,rfl⟩:=r
  cases (show T = "str" from ty)
  exact ⟨typeIs_str s z t,fun _ e=>nomatch e⟩
 |int i=>
  obtain ⟨t,rfl⟩:=r
  cases (show T = "int" from ty)
  exact ⟨typeIs_int s i t,fun _ e=>nomatch e⟩
 |ref p=>
  cases r
  rcases ty with ⟨rfl,xs,hq⟩|⟨rfl,⟨o,hk,hc,hd⟩|⟨xs,hk⟩⟩|⟨rfl,hk⟩|⟨rfl,S,n,hk⟩
  ·obtain ⟨its,_,pl,_⟩:=I.list hq
   refine ⟨pl.isList.typeIs,fun a e=>?_⟩
   cases e
   obtain ⟨o,n,e,c,hd,_⟩:=pl
   exact ⟨o,e,hd⟩
  ·refine ⟨⟨o,I.gf p o hk,hc⟩,fun a e=>?_⟩
   cases e
   exact ⟨o,I.gf _ o hk,hd⟩
  ·obtain ⟨_,its,_,o,e,c,n,d,hd⟩:=I.hok p _ hk
   refine ⟨⟨o,e,c⟩,fun a e2=>?_⟩
   cases e2
   exact ⟨o,e,hd⟩
  ·have z:∃o,s.heap.get? p=some o/\o.ExactDict :=by
    rcases hk with ⟨ao,hk⟩|⟨ao,hk⟩
    ·obtain ⟨_,_,_,_,o,_,_,e,ex,_⟩:=I.hok p _ hk
     exact ⟨o,e,ex⟩
    ·obtain ⟨_,_,_,_,o,_,_,e,ex,_⟩:=I.hok p _ hk
     exact ⟨o,e,ex⟩
   obtain ⟨o,e,ex⟩:=z
   refine ⟨⟨o,e,ex.1⟩,fun a e2=>?_⟩
   cases e2
   exact ⟨o,e,ex.2.1⟩
  ·obtain ⟨o,_,_,_,e,ex,_⟩:=I.hok p _ hk
   refine ⟨⟨o,e,ex.1⟩,fun a e2=>?_⟩
   cases e2
   exact ⟨o,e,ex.2.1⟩
 |_=>exact Co ty
def Ou (K:ba) (T:String) (r:V->List V->Hp->VK->Prop) (to:TE) (t:TA):TE:=fun σ H Q=>to σ H fun x H1=>Jg K T x H1/\t σ H1 fun xs H2=>r x xs H2 Q
variable {o e:cr} {es:List cr} {to:TE} {t:TA} {name:bi} {apos bG:ul} {T id:String} {r:V->List V->Hp->VK->Prop}
theorem MZ (pa:PlainAttrs T) (slot:Slot T name id) (uh:typeOf (.builtin id)=pure (.type "method_descriptor")) (hm:Fc X id r) (ho:PE X o to) (ha:PA X (e::es) t)
  (pC:attributeBase o name X.env (eval o X.env)=eval o X.env :=by rfl)
  (uk:((backTo bG (starEach (e::es) X.env)).all (fun x => !x.1) && (backToKw bG (keywordEach [] X.env)).all (fun x=>x.1.isSome)
   && decide ((e::es).length+([]:List UR).length+(if ([]:List UR).isEmpty then 0 else 1)<30))=true :=by rfl)
  (hline:(apos.endLine==bG.line)=true :=by rfl) (hs:starEach (e::es) X.env=(false,eval e X.env)::starEach es X.env :=by rfl) (mr:(backTo bG (starEach es X.env)).any (·.1)=false :=by rfl) :
  PE X (.Call (.Attribute o name apos) (e::es) [] bG) (Ou X.K T r to t) :=by
 refine ⟨?_⟩
 intro pins s σ H Q I h
 refine wpAny_Call_method_late pC uk hline rfl (thn (ho pins s σ H _ I h) fun v s1 ⟨x,H1,I1,r1,ty,q1⟩=>?_)
 obtain ⟨h1,h2⟩:=Jh I1 r1 ty
 refine ⟨T,id,pa,slot,uh,h1,h2,?_⟩
 have hA:=ha bG pins s1 σ H1 _ I1 q1
 rw [hs] at hA ⊢
 refine Calls.callWith_builtin (by show (false || (backTo bG (starEach es X.env)).any (·.1))=false;rw [mr] <;> rfl) (Calls.evalArgs_plain ?_)
 exact thn hA fun us s2 ⟨vs,H2,I2,r2,q2⟩=>hm pins s2 σ H2 x vs v us Q I2 r1 r2 q2
end
def Ji (X:Cx) (id:String) (r:V->List V->Hp->VK->Prop):Prop:=
 ∀(pins:List (ac×im)) (s:ar) (σ:St) (H:Hp) (x:V) (xs:List V) (v:al) (us:List al) (Q:VK),Inv X pins σ H s->RelV x v->Vals xs us->r x xs H Q->
  wpAny (model X.prog X.w) X.A (call (.builtin id) (v::us)) (EP X pins σ Q) X.xe s
theorem Vals.one:∀{x:V} {us:List al},Vals [x] us->∃u,us=[u]/\RelV x u
 |_,_,.cons r .nil=>⟨_,rfl,r⟩
theorem Vals.eraseIdx:∀{xs:List V} {us:List al} (i:Nat),Vals xs us->Vals (xs.eraseIdx i) (us.eraseIdx i)
 |_,_,_,.nil=>.nil
 |_,_,0,.cons _ t=>t
 |_,_,i+1,.cons r t=>.cons r (Vals.eraseIdx i t)
theorem Vals.rep {xs:List V} {us:List al} (h:Vals xs us):∀k:Nat,Vals (r9 k xs).flatten (r9 k us).flatten
 |0=>.nil
 |k+1=>by
          rw [xb,xb,GG,GG]
          exact Vals.append h (Vals.rep h k)
theorem rR {α:Type}:∀(l:List α) (i:Nat),(l.eraseIdx i).length<=l.length
 | [],_=>cb _
 |_::_,0=>Do _
 |_::r,i+1=>Nat.succ_le_succ (rR r i)
theorem foldl_rep (its:List al):∀(k:Nat) (acc:List al),
  List.foldl (fun x1 x2=>x1++x2) acc.toArray (r9 k its.toArray)=(acc++(r9 k its).flatten).toArray
 |0,acc=>by simp
 |k+1,acc=>by
          have e:acc.toArray++its.toArray=(acc++its).toArray :=by simp
          have e2:(acc++its)++(r9 k its).flatten=acc++(r9 (k+1) its).flatten :=by
           rw [xb,GG,GM]
          rw [<- e2,<- foldl_rep its k (acc++its),<- e,xb,Wd]
section
variable {X:Cx} {pins:List (ac×im)} {σ:St} {H:Hp} {s:ar} {l b:ac} {xs ys zs:List V}
theorem Inv.qH {its its':List al} {n:Nat} {f:Array al->Array al} {t':Nat} (I:Inv X pins σ H s) (hH:H l=some (.lst xs))
  (e:s.heap.get? l=some {cls:=.type "list",data:=.seq its.toArray n}) (hf:f its.toArray=its'.toArray) (hv:Vals ys its') (hz:ys.length<=sizeLine) :
  Inv X pins σ (upd H l (.lst ys)) {s with heap:=s.heap.update l (IN f),toks:=t'}:=by
 have q:=PySem.IsL.update e f
 rw [hf] at q
 refine I.write (x:=l) (e:=l) (by rw [hH];exact trivial) (.inl rfl) (fun b' u hb hu=>(At s.heap (IN f) (xz hb)).trans hu) ⟨_,q⟩ ?_
 exact ⟨hz,its',_,hv,q⟩
theorem Inv.Jj {its:List al} {t':Nat} (I:Inv X pins σ H s) (hv:Vals ys its) (hz:ys.length<=sizeLine) :
  Inv X pins σ (upd H s.heap.objs.size (.lst ys)) {s with heap:=s.heap.push {cls:=.type "list",data:=.seq its.toArray},toks:=t'}:=
 I.laid (fun _ _ q=>bn _ q) (cb _) ⟨hz,its,0,hv,dL _ rfl⟩
theorem Inv.fresh (I:Inv X pins σ H s):H s.heap.objs.size=none:=I.hok.fresh (cb _)
theorem Inv.mw (I:Inv X pins σ H s) (hH:H l=some (.lst xs)):xs.length<=sizeLine/\∃(its:List al) (n:Nat),Vals xs its/\xs.length=its.length/\s.heap.get? l=some {cls:=.type "list",data:=.seq its.toArray n}:=by
 obtain ⟨z,its,n,r,e⟩:=I.hok l _ hH
 exact ⟨z,its,n,r,r.length,e⟩
theorem um {n:Nat} (h:n<=sizeLine):GE n=false :=by
 unfold GE
 exact decide_eq_false (by omega)
end
section
variable {X:Cx}
def Gw:V->List V->Hp->VK->Prop:=fun x vs H Q=>∃l xs y,x=.ref l/\vs=[y]/\H l=some (.lst xs)/\xs.length<sizeLine/\Q .av (upd H l (.lst (xs++[y])))
theorem rS:Ji X "list.append" Gw :=by
 intro pins s σ H x vs v us Q I rx rv h
 obtain ⟨l,xs,y,rfl,rfl,hH,hz,q⟩:=h
 cases rx
 obtain ⟨u,rfl,ru⟩:=rv.one
 obtain ⟨z,its,n,r,hl,e⟩:=I.mw hH
 refine V0 F.slot_list_append ⟨_,e,rfl⟩ F.entry_list_append (F.args_list_append_2 _ _) (PySem.list_append l its.toArray n u (by rw [db];omega)) ⟨e,?_⟩
 refine ⟨.av,_,I.qH (its':=its++[u]) hH e (by simp) (r.append (.cons ru .nil)) ?_,rfl,q⟩
 rw [tz,LB]
 omega
def Jk:V->List V->Hp->VK->Prop:=fun x vs H Q=>∃l xs i k y,x=.ref l/\vs=[.int i]/\H l=some (.lst xs) /\ -(2 ^ 63)<=i/\i<2 ^ 63/\seqIndex? i xs.length=some k/\xs[k]?=some y/\Q y (upd H l (.lst (xs.eraseIdx k)))
theorem Dj:Ji X "list.pop" Jk :=by
 intro pins s σ H x vs v us Q I rx rv h
 obtain ⟨l,xs,i,k,y,rfl,rfl,hH,h1,h2,hk,hy,q⟩:=h
 cases rx
 obtain ⟨u,rfl,ru⟩:=rv.one
 obtain ⟨t,rfl⟩:=ru
 obtain ⟨z,its,n,r,hl,e⟩:=I.mw hH
 obtain ⟨w,hw,jc⟩:=r.get hy
 refine V0 F.slot_list_pop ⟨_,e,rfl⟩ F.entry_list_pop (F.args_list_pop_2 _ _)
  (MeetsSeq.list_pop_at l its.toArray n i t k w (fitsIndex_both h1 h2) (by rw [db,<- hl];exact hk) (by rw [<- LF];exact hw) (by rw [db];omega)) ⟨e,?_⟩
 refine ⟨y,_,I.qH (its':=its.eraseIdx k) hH e ?_ (r.eraseIdx k) ?_,jc,q⟩
 ·show its.toArray.eraseIdxIfInBounds k=(its.eraseIdx k).toArray
  rw [List.eraseIdxIfInBounds_toArray]
 ·have:=rR xs k
  omega
def Qm:R2:=fun x y H Q=>∃l k xs,x=.ref l/\y=.int k/\H l=some (.lst xs) /\ -(2 ^ 63)<=k/\k<2 ^ 63/\xs.length * k.toNat<=sizeLine /\
 ∀p,H p=none->Q (.ref p) (upd H p (.lst (r9 k.toNat xs).flatten))
theorem len_rep {α:Type} (xs:List α) (k:Nat):(r9 k xs).flatten.length=k * xs.length :=by
 induction k with
 |zero=>simp
 |succ k ih=>rw [xb,GG,tz,ih,Nat.succ_mul,Nat.add_comm]
theorem Jl:OpR X (binaryOp .Mult) Qm :=by
 intro pins s σ H x y v u Q I rx ry h
 obtain ⟨l,k,xs,rfl,rfl,hH,h1,h2,hz,q⟩:=h
 cases rx
 obtain ⟨t,rfl⟩:=ry
 obtain ⟨z,its,n,r,hl,e⟩:=I.mw hH
 have hlen:its.toArray.size * k.toNat<=sizeLine :=by rw [db,<- hl];exact hz
 have Qn:¬ its.toArray.size * k.toNat > (2 ^ 63 - 1) / 8 :=by
  have:(sizeLine:Nat)<=(2 ^ 63 - 1) / 8 :=by decide
  omega
 have Qo:¬ (!Builtin.List.listFitsIndex k)=true :=by
  rw [fitsIndex_both h1 h2]
  exact io
 have yu:¬ GE (its.toArray.size * k.toNat)=true :=by
  rw [um hlen]
  exact io
 have Qp:List.foldl (fun x1 x2=>x1++x2) #[] (r9 (if its.toArray.isEmpty=true then 0 else k.toNat) its.toArray)=(r9 k.toNat its).flatten.toArray :=by
  have f0:∀m:Nat,List.foldl (fun x1 x2=>x1++x2) #[] (r9 m its.toArray)=(r9 m its).flatten.toArray:=fun m=>by
   have:=foldl_rep its m []
   rw [LG] at this
   exact this
  rw [f0]
  cases its with
  |nil=>simp
  |cons a r'=>rw [if_neg (by simp)]
 refine wpAny_binaryOp_repeat_ref (T := "list") (U := "int") (by decide) ⟨_,e,rfl⟩ (fun s'=>typeIs_int s' k t) noFill_list_mul F.fills_int_mul F.slot_int_rmul repeat_list F.slot_int_index.lookup
  (V0 F.slot_int_rmul (typeIs_int s k t) F.entry_int_rmul (F.args_int_rmul_2 _ _) (int___rmul___int_list k t l its.toArray n)
   ⟨e,rfl,⟨_,e,rfl⟩,V0 F.slot_list_mul ⟨_,e,rfl⟩ F.entry_list_mul (F.args_list_mul_2 _ _) (AutoListH.list___mul___list_int_3 l its.toArray n k t Qo Qn yu) ⟨e,?_⟩⟩)
 rw [Qp]
 exact ⟨.ref _,_,I.Jj (t':=s.toks) (r.rep k.toNat) (by rw [len_rep,RI];exact hz),rfl,q _ I.fresh⟩
end
end L2
namespace Ov
open PySem PySem.W PySem.Calls PyProof.Rows
theorem pD {P:Wu} {h:gc}:∀(ns:List Int) (vs:List al),WellAll P h vs (ns.map WData.int)->RS vs ns :=by
 intro ns
 induction ns with
 |nil=>
  intro vs w
  rw [Vf] at w
  cases w
  exact .nil
 |cons n ns ih=>
  intro vs w
  rw [wv] at w
  cases w with
  |cons a b=>
   cases a
   exact .cons _ _ (ih _ b)
theorem Aj {l:OpenLaw} {n:Nat} (hn:l.most=some n) {P:Wu} {h:gc} {args:List WData} {vals:List al}
  (yw:l.row.toRowW.claim.pre args=true) (Fd:WellAll P h vals args) :
  ∃a vs ns,vals=[ma a]/\args=[WData.list (ns.map WData.int)]/\h.get? a=some {cls:=.type "list",data:=.seq vs.toArray}/\RS vs ns/\ns.length<=n :=by
 have RA:WShape.hasAll [] args [.list .int]=true:=(pre_splitW yw).1
 have hc:l.pre.holds [] {args:=args}=true:=(pre_splitW yw).2
 obtain ⟨d,r,rfl,h1,h2⟩:=hasAllW_cons RA
 obtain rfl:=hasAllW_nil h2
 obtain ⟨xs,rfl,h3⟩:=hasW_list h1
 obtain ⟨ns,rfl⟩:=items_int h3
 have hlen:ns.length<=n :=by
  unfold OpenLaw.pre at hc
  have h4:(WTm.not (.lt (.lit (.int (n:Int))) (.len (.arg 0)))).holds [] {args:=[.list (ns.map .int)]}=true :=by
   have h4:=(holds_andW hc).1
   rw [hn] at h4
   exact h4
  have h5:=condW_of h4 (w_not (w_lt w_lit (w_len_list (w_arg rfl))))
  rw [ci] at h5
  refine U2 fun q=>?_
  have q':(n:Int)<((ns.length:Nat):Int) :=by omega
  first
   |(rw [decide_eq_true q'] at h5;exact absurd h5 (by decide))
   |(simp at h5;omega)
 cases Fd with
 |cons w1 w2=>
  cases w2
  cases w1 with
  |list ho qI=>exact ⟨_,_,ns,rfl,rfl,ho,pD ns _ qI,hlen⟩
theorem Ak (l:OpenLaw) (args:List WData):l.row.toRowW.claim.post args (.bool true) args=true:=
 postW_of (r:=l.row.toRowW) (X:=(true==true))
  (show WShape.has [] (.bool true) .bool=true by first|rfl|decide|simp [WShape.has,WShape.arms,WShape.armsAll])
  (show (WTm.eq .res (.lit (.bool true))).value [] {args:=args,res:=some (.bool true),after:=args}=some (.bool (true==true)) from w_eq_bool (w_res rfl) w_lit) rfl
theorem wq {l:OpenLaw} {n:Nat} {q:c8} {loose:List bi} {XP:(bi->Option al)->gc->Prop} {YP:ff->gc->Prop} {d:DefRec}
  (hn:l.most=some n) (Al:d.params.defaults=[])
  (call:∀(w:ff) (s₀ aw:ar) (mg mb:bi->Option al) (fa:ac) (o:im) (pm cd doc:al) (a:ac) (vs:List al) (ns:List Int),
   Ground q loose [] XP w s₀ mg mb aw.heap->YP w aw.heap->
   aw.heap.get? fa=some o->o.data=.func (docDef d.name d.params d.body d.scope pm cd doc)->aw.heap.CodeRec cd d.name->mg d.name=some (.ref fa)->
   aw.heap.get? a=some {cls:=.type "list",data:=.seq vs.toArray}->RS vs ns->ns.length<=n->aw.gens=#[]->
   codeAny (model l.prog w) callerA (.call (.ref fa) ⟨[.ref a],[]⟩) (fun r s'=>r=.ok (.ret (.bool true))/\OldK aw.heap s'.heap/\s'.os=aw.os/\Wm s'.gens) aw) :
  WalkO q loose XP YP l.row.toRowW d [] (fun f vs=>Wp f vs) :=by
 intro w s₀ aw mg mb G Y fa o pm cd doc dV kV ho hd dG hD Am hg args vals as yw Uc Uk Fd Ul
 obtain rfl:dV=.none:=Dflts.none hD Al
 obtain rfl:kV=.none:=Dflts.noKw hD
 obtain ⟨a,vs,ns,rfl,rfl,Dk,hints,hlen⟩:=Aj hn yw Fd
 refine enter_call (UL (call w s₀ aw mg mb fa o pm cd doc a vs ns G Y ho (fd_plain hd) dG Am Dk hints hlen hg) fun r s' hq=>?_)
 obtain ⟨rfl,h2,h3,h4⟩:=hq
 exact ⟨.inl ⟨.bool true,.bool true,[],rfl,fun _=>rfl,.bool true,Ak l _,fun _=>⟨Wt.nil,fun _ hm=>(nomatch hm)⟩⟩,h2,h3,h4⟩
end Ov
namespace L2
open PySem PySem.Spec PyProof.Rows
theorem rT:∀{vs:List al} {ns:List Int},RS vs ns->Vals (ns.map V.int) vs
 |_,_,.nil=>.nil
 |_,_,.cons n t h=>.cons ⟨t,rfl⟩ (rT h)
def cN (s:mv):IT:=match s with
 | .FunctionDef _ a _ _ _ _ _ _ _ _=>a
 |_=>{posonlyargs:=[],args:=[],vararg:=none,kwonlyargs:=[],kw_defaults:=[],kwarg:=none,defaults:=[]}
def bK (s:mv):List mv:=match s with
 | .FunctionDef _ _ b _ _ _ _ _ _ _=>b
 |_=>[]
def aj (s:mv):wn:=match s with
 | .FunctionDef _ _ _ _ _ _ sc _ _ _=>sc
 |_=>{kind:=.function,names:=[],isGenerator:=false,isCoroutine:=false}
abbrev bq:fX:=fun _ _ _ _ _ _=>False
abbrev E0:XK:=fun _ _ _=>False
theorem bH {X:Cx}:Passes bq X E0:=fun _ _ _ _ _ _ _ h=>h.elim
structure rU (K:ba) (x qual:bi) (st:mv) (f:ac) (fd:i0):Prop where
 ex:∃(oc:al) (od:Option ac) (kV doc pm:al) (an:Option ac) (cD ct:al) (jP:Array (Option al)),
  fd=xw x qual (cN st) (bK st) (aj st) .none kV doc pm an cD ct/\K.lookup f=some ⟨oc,od,.func fd,jP⟩/\FF K cD qual=true
 kp:AT K (.ref f)=true
section
variable {P:c8} {w:ff} {K:ba} {mg:bi->Option al} {base:gc}
theorem rU.binds {x qual:bi} {st:mv} {f:ac} {fd:i0} {ps:List bi} (F:rU K x qual st f fd)
  (h:∀(kV doc pm:al) (an:Option ac) (cD ct:al) (us:List al),us.length=ps.length->bindArgs (xw x qual (cN st) (bK st) (aj st) .none kV doc pm an cD ct) ⟨us,[]⟩=pure (ps.zip us)):Binds K fd ps [] :=by
 obtain ⟨oc,od,kV,doc,pm,an,cD,ct,jP,rfl,lk,dG⟩:=F.ex
 exact .all (h kV doc pm an cD ct)
theorem Jm {x qual:bi} {st:mv} {f:ac} {oc:al} {od an:Option ac} {jP:Array (Option al)} {kV doc pm cD ct:al} (l:K.lookup f=some ⟨oc,od,.func (xw x qual (cN st) (bK st) (aj st) .none kV doc pm an cD ct),jP⟩)
  (c:FF K cD qual=true) (k:AT K (.ref f)=true):rU K x qual st f (xw x qual (cN st) (bK st) (aj st) .none kV doc pm an cD ct):=⟨⟨oc,od,kV,doc,pm,an,cD,ct,jP,rfl,l,c⟩,k⟩
end
section
variable {X:Cx}
theorem pv (i:Nat) {x:bi} {pos:ul} (hN:X.N[i]?=some x :=by rfl) (hv:o9 X.env.scope x :=by first|exact l8 rfl|exact ES (l8 rfl)|exact ES (ES rfl)) (hd:(x==("__debug__" : bi))=false :=by decide)
  (dG:(x==("__classdict__" : bi))=false :=by decide):PE X (.Name x pos) (HZ i):=t5 hN hv hd dG
end
end L2
set_option maxHeartbeats 4000000
namespace L2
open PySem PySem.Spec PyProof.Rows
theorem kZ {env:IF}:∀(names:List (bi×Pd)) (acc:List (bi×ac)),(∀n,(n,sK)∈names->∃c,env.cells.lookup n=some c)->
  (∀n c,acc.lookup n=some c->env.cells.lookup n=some c)->
  ∃cl,(forIn names acc fun x r=>if (x.2==sK)=true then (do let a <- cellOf env x.1;pure (Vg ((x.1,a)::r))) else pure (Vg r):VC (List (bi×ac)))=pure cl /\
   (∀n c,cl.lookup n=some c->env.cells.lookup n=some c)/\(∀n,(n,sK)∈names->∃c,cl.lookup n=some c)/\(∀n c,acc.lookup n=some c->∃c',cl.lookup n=some c')
 | [],acc,_,h2=>⟨acc,rfl,h2,fun n h=>by simp at h,fun n c h=>⟨c,h⟩⟩
 |(n,k)::r,acc,h1,h2=>by
          rw [List.forIn_cons]
          cases hk:(k==sK) with
          |true=>
           have ek:k=sK :=by simpa using hk
           subst ek
           obtain ⟨c,hc⟩:=h1 n jp
           have e1:cellOf env n=pure c :=by unfold cellOf;rw [hc]
           obtain ⟨cl,e,a1,a2,a3⟩:=kZ r ((n,c)::acc) (fun m hm=>h1 m (gl _ hm)) (fun m c' hm=>by
            rw [NH] at hm
            cases hb:m==n with
            |true=>
             rw [hb] at hm
             have e2:m=n :=by simpa using hb
             rw [e2,hc];exact hm
            |false=>rw [hb] at hm;exact h2 m c' hm)
           refine ⟨cl,?_,a1,fun m hm=>?_,fun m c' hm=>?_⟩
           ·simp only [if_true,e1]
            exact e
           ·rcases l3.mp hm with z|z
            ·cases z
             exact a3 n c (by rw [NH];simp)
            ·exact a2 m z
           ·by_cases hb:m=n
            ·subst hb
             exact a3 m c (by rw [NH];simp)
            ·exact a3 m c' (by
              rw [NH]
              have:(m==n)=false :=by simpa using hb
              rw [this];exact hm)
          |false=>
           obtain ⟨cl,e,a1,a2,a3⟩:=kZ r acc (fun m hm=>h1 m (gl _ hm)) h2
           refine ⟨cl,?_,a1,fun m hm=>?_,a3⟩
           ·simp only [lp,if_false]
            exact e
           ·rcases l3.mp hm with z|z
            ·cases z;simp at hk
            ·exact a2 m z
theorem iL {scope:wn} {env:IF} (h:∀n,(n,sK)∈scope.names->∃c,env.cells.lookup n=some c) :
  ∃cl,closureFor scope env=pure cl/\(∀n c,cl.lookup n=some c->env.cells.lookup n=some c)/\(∀n,(n,sK)∈scope.names->∃c,cl.lookup n=some c) :=by
 obtain ⟨cl,e,a1,a2,_⟩:=kZ (env:=env) scope.names [] h (fun n c hn=>by simp at hn)
 refine ⟨cl,?_,a1,a2⟩
 simp only [closureFor]
 rw [e]
 rfl
def cxBlock (X:Cx) (N':List bi) (env':IF) (A':l4) (stack':List IF) (s:ar) (H:Hp) (ex:List ac):Cx:=
 {X with N:=N',s₀:=s,H₀:=H,env:=env',A:=A',outer:=X.stack,stack:=stack',ex:=ex,fn:=fun _=>false,pn:=[],xe:=fun _ _=>False}
theorem rV {X:Cx} {pins:List (ac×im)} {σ aH:St} {H H':Hp} {s:ar} {N':List bi} {env':IF} {A':l4} {stack':List IF} {ex:List ac} {h1:gc} {m0:bi->Option al} {g':Array So} {tk:Nat}
  (I:Inv X pins σ H s) (tM:env'.scope.kind=.function) (M6:env'.globals=X.env.globals) (Qq:env'.builtins=X.env.builtins)
  (dD:∀n c,env'.cells.lookup n=some c->X.env.cells.lookup n=some c)
  (yx:∀x,(env'.kindOf x=some .cell\/env'.kindOf x=some .free)->∃c,env'.cells.lookup x=some c)
  (hh:X.calm=true->A'.handled=none) (uo:A'.frames=some stack') (Qr:stack'=X.stack\/(stack'=env'::X.stack/\env'.frame=some env'.locals))
  (hC:s.heap.objs.size<=env'.locals) (hf:∀b∈ex,dy X pins H b) (Qs:∀b∈ex,b<s.heap.objs.size)
  (Ow:Un (eh X.stack) ex H H' s.heap h1) (hok:cL X.prog X.w H' h1) (Jn:H' env'.locals=none) (Fe:∀b o,s.heap.get? b=some o->h1.get? b=some o) (dU:h1.Ns env'.locals m0)
  (Jo:∀(i:Nat) (x:bi) (v:V),N'[i]?=some x->aH[i]?=some (some v)->o9 env'.scope x->(env'.kindOf x=some .cell\/env'.kindOf x=some .free)/\o9 X.env.scope x/\(X.env.kindOf x=some .cell\/X.env.kindOf x=some .free)/\∃j:Nat,X.N[j]?=some x/\σ[j]?=some (some v))
  (hlen:aH.length=N'.length) (hg:Gn s.gens.size g'):Inv (cxBlock X N' env' A' stack' s H ex) [] aH H' {s with heap:=h1,gens:=g',toks:=tk}:=by
 have Ox:∀b∈ex,∀x c,X.env.cells.lookup x=some c->c≠b:=fun b hb=>(hf b hb).2.2.2.2.1
 refine ⟨⟨I.ok.mod,tM,M6.trans I.ok.glob,Qq.trans I.ok.blt,hC,fun x y c a b=>I.ok.inj x y c (dD x c a) (dD y c b),yx,fun _ _ z=>(nomatch z),hh,uo,Qr,fun b hb=>⟨i4 (l5 (Qs b hb) hC),fun x c e=>Ox b hb x c (dD x c e)⟩,
   I.bs,uu I.ok.bsz I.sz,fun b o e hb=>?_,fun b hb z=>?_,I.stack,I.nB⟩,rfl,hg,Ow,⟨m0,dU,fun i x v e1 e2 e3=>?_⟩,fun x c e=>?_,Jn,fun x c e=>?_,fun p hp=>absurd (show p∈([]:List (ac×im)) from hp) (by simp),hok,hlen⟩
 ·rcases (hf b hb).2.2.2.1 with z|z
  ·exact I.ok.noex b o e z
  ·exact absurd (l5 (ge e) (uu I.ok.bsz z)) (LM _)
 ·rcases l3.mp (I.hZ b z) with q|q
  ·exact (hf b hb).2.1 q
  ·exact (hf b hb).2.2.1 q
 ·obtain ⟨k1,vx,k2,j,n1,n2⟩:=Jo i x v e1 e2 e3
  obtain ⟨m,hn,hl⟩:=I.loc
  obtain ⟨u,r,l⟩:=hl j x v n1 n2 vx
  refine ⟨u,r,.inr ⟨k1,?_⟩⟩
  obtain ⟨c',Oy⟩:=yx x k1
  rcases l with ⟨kl,_⟩|⟨_,c,ec,z⟩
  ·rcases k2 with q|q <;> (rw [kl] at q;cases q)
  ·have:c'=c:=ij ((dD x c' Oy).symm.trans ec)
   subst this
   exact ⟨c',Oy,z.keeps Fe⟩
 ·obtain ⟨v,z⟩:=I.cell x c (dD x c e)
  exact ⟨v,z.keeps Fe⟩
 ·obtain ⟨v,o,ho,hd⟩:=I.cell x c (dD x c e)
  exact Ow.free c o ho (I.freeC x c (dD x c e)) fun z=>Ox c z x c (dD x c e) rfl
theorem lookup_map2 {c:bi->Pd->Pd}:∀{names:List (bi×Pd)} {x:bi},(names.map fun (p:bi×Pd)=>(p.1,c p.1 p.2)).lookup x=(names.lookup x).map (c x)
 | [],x=>rfl
 |(n,k')::r,x=>by
          have ih:=@lookup_map2 c r x
          rw [wv,NH,NH]
          cases hx:x==n with
          |true=>
           have e:x=n :=by simpa using hx
           subst e
           rfl
          |false=>exact ih
theorem my {scope:wn} {env:IF} (x:bi):(relabel scope env).names.lookup x=(scope.names.lookup x).map fun k=>if (k==.free && env.scope.kind==.function && env.kindOf x==some .cell)=true then .cell else k :=by
 have e:(relabel scope env).names=scope.names.map fun p=>(p.1,(fun n k=>if (k==sK && env.scope.kind==.function && env.kindOf n==some .cell)=true then Pd.cell else k) p.1 p.2) :=by
  unfold relabel
  dsimp only
  congr 1
  funext p
  obtain ⟨n,k⟩:=p
  dsimp only
  split <;> rfl
 rw [e]
 exact lookup_map2 (c:=fun n k=>if (k==sK && env.scope.kind==.function && env.kindOf n==some .cell)=true then Pd.cell else k)
def aW (N:List bi) (sc scope:wn) (N':List bi) (tn:Nat) (idx:List Nat):Prop:=
 scope.kind=.function/\(∀y∈scope.names,y.2≠.cell/\(y.2=.local->scope.names.lookup y.1=some .local)/\(y.2=.free->sc.names.lookup y.1=some .cell\/sc.names.lookup y.1=some .free)) /\
  N'.length=tn+idx.length/\∀p∈idx.zip (N'.drop tn),N[p.1]?=some p.2/\scope.names.lookup p.2=some .free
instance (N:List bi) (sc scope:wn) (N':List bi) (tn:Nat) (idx:List Nat):Decidable (aW N sc scope N' tn idx) :=by unfold aW;infer_instance
def bW (tn:Nat) (idx:List Nat) (σ:St):St:=r9 tn none++idx.map fun i=>(σ[i]?).join
theorem aW.at {N:List bi} {sc scope:wn} {N':List bi} {tn:Nat} {idx:List Nat} (B:aW N sc scope N' tn idx) {σ:St} {i:Nat} {x:bi} {v:V} (h1:N'[i]?=some x) (h2:(bW tn idx σ)[i]?=some (some v)) :
  scope.names.lookup x=some .free/\∃j:Nat,N[j]?=some x/\σ[j]?=some (some v) :=by
 obtain ⟨_,_,b3,b4⟩:=B
 unfold bW at h2
 by_cases hi:i<tn
 ·rw [sB (by simpa using hi),OF,if_pos hi] at h2
  cases h2
 ·rw [wp (by simpa using hi),Rs,ca] at h2
  cases e:idx[i - tn]? with
  |none=>rw [e] at h2;cases h2
  |some k=>
   rw [e] at h2
   have h3:(σ[k]?).join=some v:=ij h2
   have e2:(N'.drop tn)[i - tn]?=some x :=by
    rw [List.getElem?_drop]
    have:tn+(i - tn)=i :=by omega
    rw [this];exact h1
   have m:(k,x)∈idx.zip (N'.drop tn) :=by
    refine ii (i:=i - tn) ?_
    rw [AC]
    exact ⟨e,e2⟩
   obtain ⟨a,b⟩:=b4 _ m
   refine ⟨b,k,a,?_⟩
   cases q:σ[k]? with
   |none=>rw [q] at h3;cases h3
   |some w=>rw [q] at h3;exact congrArg some h3
theorem aW.len {N:List bi} {sc scope:wn} {N':List bi} {tn:Nat} {idx:List Nat} (B:aW N sc scope N' tn idx) (σ:St):(bW tn idx σ).length=N'.length :=by
 rw [B.2.2.1]
 unfold bW
 simp
section
variable {X:Cx}
def ib (X:Cx) (ifs:List cr) (tt:TT):Prop:=
 ∀(pins:List (ac×im)) (s:ar) (σ:St) (H:Hp) (Q:Bool->Hp->Prop),Inv X pins σ H s->tt σ H Q->
  wpAny (model X.prog X.w) X.A (forIn ifs true fun c r=>if r=true then do let ok <- isTrue c X.env (eval c X.env);pure (Vg ok) else pure (Vg r)) (TP X pins σ Q) X.xe s
def M7:TT:=fun _ H Q=>Q true H
theorem Gx:ib X [] M7:=fun _ _ _ H _ I h=>wpAny_tests_nil ⟨H,I,h⟩
theorem Gy {c:cr} {tc:TT} (h:PT X c tc):ib X [c] tc:=fun pins s σ H Q I q=>wpAny_tests_one (h pins s σ H Q I q)
abbrev An (X:Cx) (N':List bi) (scope:wn) (cl:List (bi×ac)) (C:ac) (s:ar) (H:Hp) (fp:List ac):Cx:=cxBlock X N' (compEnvC scope cl C X.env) X.A X.stack s H fp
abbrev Blk (X:Cx) (N':List bi) (scope:wn) (P:Cx->Prop):Prop:=∀(cl:List (bi×ac)) (C:ac) (s:ar) (H:Hp) (fp:List ac),P (An X N' scope cl C s H fp)
end
abbrev TB:=St->Hp->(St->Hp->Prop)->Prop
def PB (X:Cx) (b:VC Unit) (t:TB):Prop:=∀(pins:List (ac×im)) (s:ar) (σ:St) (H:Hp) (Q:St->Hp->Prop),Inv X pins σ H s->t σ H Q->wpAny (model X.prog X.w) X.A b (fun _ s'=>∃aH H',Inv X pins aH H' s'/\Q aH H') X.xe s
def yy (J:It) (g:TG) (tt:TT) (tb:TB) (QE:St->Hp->Prop) (W:Nat->Nat->St->Hp->Prop):Prop:=∀i m τ H,W i m τ H->
 (J.stop i H/\QE τ H)\/(J.go i H/\∀x H',J.yld i H x H'->g x τ H' fun aC H2=>tt aC H2 fun b H3=>if b=true then tb aC H3 fun RB H4=>∃m',m'<m/\W (i+1) m' RB H4 else ∃m',m'<m/\W (i+1) m' aC H3)
def yz (e tg iter:cr) (ifs:List cr) (d:Nat) (it acc:al) (env:IF) (body:VC Unit):VC Fin:=do
 standAt iter.pos
 match <- pyNext it with
 |none=>pure (.done .next)
 |some v=>
  letOwnedTupleGo tg it v
  assign tg env v
  let mut ok:=true
  for c in ifs do
   if ok then ok <- isTrue c env (eval c env)
  if ok then body
  again (.compLoop e d it acc env)
section
variable {Y:Cx} {e tg iter:cr} {ifs:List cr} {dp:Nat} {it:ac} {acc:al} {body:VC Unit} {fp:List ac} {bO:Nat->gc->Prop} {J:It} {g:TG} {tt:TT} {tb:TB} {QE:St->Hp->Prop} {W:Nat->Nat->St->Hp->Prop} {R:Wn->ar->Prop} {pins:List (ac×im)} {τ:St} {H:Hp} {s:ar} {m0:Nat}
structure Dl (Y:Cx) (e tg iter:cr) (ifs:List cr) (dp:Nat) (acc:al) (body:VC Unit):Prop where
 q:∀it,(Code.compLoop e dp it acc Y.env).quiet=true
 den:∀it Q E s,wpAny (model Y.prog Y.w) Y.A ((compTurn e dp it acc Y.env).onRaise (fun x=>do noteFrame x Y.env;theTreesLotGoes x)) Q E s->wpAny (model Y.prog Y.w) (Y.A.under (.compLoop e dp it acc Y.env)) ((model Y.prog Y.w).den (.compLoop e dp it acc Y.env)) Q E s
 turn:∀it,compTurn e dp it acc Y.env=yz e tg iter ifs dp it acc Y.env body
 denS:∀it Q E s,wpAny (model Y.prog Y.w) Y.A ((compStart e dp it acc Y.env).onRaise (fun x=>do noteFrame x Y.env;standAt theWindowsPlace)) Q E s->wpAny (model Y.prog Y.w) (Y.A.under (.compStart e dp it acc Y.env)) ((model Y.prog Y.w).den (.compStart e dp it acc Y.env)) Q E s
 cl:(clausesOf e)[dp]?=some ⟨tg,iter,ifs,0⟩
theorem Ao (hc:Y.calm=true) (mB:∀x s,Y.xe x s->False) (C:Dl Y e tg iter ifs dp acc body) (hg:PG Y tg g) (ht:ib Y ifs tt) (hb:PB Y body tb) (T:Turn Y.prog Y.w Y.K tg J fp it bO) (turn:yy J g tt tb QE W)
  (I:Inv Y pins τ H s) (st:bO 0 s.heap) (f:∀b∈fp,dy Y pins H b) (w0:W 0 m0 τ H) (hR:∀cm H' s',Inv Y pins cm H' s'->QE cm H'->R (.ok .next) s') :
  codeAny (model Y.prog Y.w) Y.A (.compLoop e dp (.ref it) acc Y.env) R s :=by
 have stat:∀{H':Hp},(∀b∈fp,H' b=none)->∀b∈fp,dy Y pins H' b:=fun hn b hb=>⟨hn b hb,(f b hb).2⟩
 refine codeAny_loop (C.q _) (fun n s'=>∃i τ H',Inv Y pins τ H' s'/\bO i s'.heap/\(∀b∈fp,H' b=none)/\W i n τ H') (fun n s hI=>?_) m0 ⟨0,τ,H,I,st,fun b hb=>(f b hb).1,w0⟩
 refine C.den _ _ _ _ (wpAny_noted ?_)
 rw [C.turn]
 unfold yz
 obtain ⟨i,τ,H3,I3,rL,z7,w3⟩:=hI
 rcases turn i n τ H3 w3 with ⟨stop,qn⟩|⟨go,step⟩
 ·refine ap (AS (ap (l6 (T.done Y rfl rfl rfl hc i pins s τ H3 (fun _ _=>False) I3 (stat z7) rL stop) (fun r s4 ⟨hr,I4⟩=>?_) fun _ _ z=>z.elim)))
  subst hr
  exact br (hR _ _ _ I4 qn)
 ·refine ap (AS (ap (l6 (T.item Y rfl rfl rfl hc i pins s τ H3 (fun _ _=>False) I3 (stat z7) rL go) (fun r s4 ⟨u,hr,h4⟩=>?_) fun _ _ z=>z.elim)))
  subst hr
  refine ap (l6 h4 (fun _ s5 ⟨x,H5,I5,r5,y5,jd,ub⟩=>?_) fun _ _ z=>z.elim)
  have ud:=I5.pinned (stat ub) (T.obj _ _ jd)
  have again:∀{om:St} {H7:Hp} {s7:ar},Inv Y (pins++ia fp s5.heap) om H7 s7->(∃m',m'<n/\W (i+1) m' om H7)->
    ∃m,m<n/\∃i τ H',Inv Y pins τ H' s7/\bO i s7.heap/\(∀b∈fp,H' b=none)/\W i m τ H':=fun {om H7 s7} I7 n7=>by
   obtain ⟨m',hm,w7⟩:=n7
   refine ⟨m',hm,i+1,om,H7,I7.cc,T.keep _ _ _ jd fun b hb o e=>(I7.pin (b,o) (hX _ (hX _ (cE hb e)))).1,fun b hb=>?_,w7⟩
   obtain ⟨o,e,d⟩:=T.obj _ _ jd b hb
   exact (I7.pin (b,o) (hX _ (hX _ (cE hb e)))).2.1
  refine ap (l6 (hg _ s5 τ H5 x u _ ud r5 (step x H5 y5)) (fun _ s6 ⟨jR,H6,I6,q6⟩=>?_) fun _ _ z=>(mB _ _ z).elim)
  refine ap (l6 (ht _ s6 jR H6 _ I6 q6) (fun ok s7 ⟨H7,I7,q7⟩=>?_) fun _ _ z=>(mB _ _ z).elim)
  cases ok with
  |false=>exact br ⟨rfl,again I7 q7⟩
  |true=>
   refine ap (l6 (hb _ s7 jR H7 _ I7 q7) (fun _ s8 ⟨Um,H8,I8,q8⟩=>?_) fun _ _ z=>(mB _ _ z).elim)
   exact br ⟨rfl,again I8 q8⟩
theorem yA (C:Dl Y e tg iter ifs dp acc body) (T:Turn Y.prog Y.w Y.K tg J fp it bO) (st:bO 0 s.heap)
  (h:codeAny (model Y.prog Y.w) Y.A (.compLoop e dp (.ref it) acc Y.env) R s):codeAny (model Y.prog Y.w) Y.A (.compStart e dp (.ref it) acc Y.env) R s :=by
 refine Vh (C.denS _ _ _ _ (wpAny_notedAt ?_))
 unfold compStart
 rw [C.cl]
 show wpAny _ _ (ask>>=_) _ _ s
 refine ap (SI (wpAny_ite ?_))
 split
 ·first
   |exact ap (br (br (Wv rfl h)))
   |exact br (Wv rfl h)
 ·have h2:wpAny (model Y.prog Y.w) Y.A (pyIter (.ref it)) (fun Ap s'=>codeAny (model Y.prog Y.w) Y.A (.compLoop e dp Ap acc Y.env) R s') (notedBy (model Y.prog Y.w) Y.A Y.env fun x s'=>R (.error x) s') s:=T.self _ 0 _ _ _ st h
  first
   |exact ap (ET (ap (AS (ap (l6 h2 (fun Ap s' h'=>br (Wv (C.q Ap) h')) fun _ _ x=>x)))))
   |(refine ap (ET ?_);show wpAny _ _ (standAt iter.pos>>=_) _ _ s;exact ap (AS (ap (l6 h2 (fun Ap s' h'=>br (Wv (C.q Ap) h')) fun _ _ x=>x))))
end
section
variable {Y:Cx}
def uq (D:ac) (te:TE):TB:=fun τ H Q=>te τ H fun y H4=>∃ys,H4 D=some (.lst ys)/\ys.length<sizeLine/\Q τ (upd H4 D (.lst (ys++[y])))
theorem GA {elt:cr} {te:TE} {D:ac} (h:PE Y elt te):PB Y (do let _ <- call (.builtin "list.append") [.ref D,<- eval elt Y.env]) (uq D te) :=by
 intro pins s τ H Q I q
 refine ap (l6 (h pins s τ H _ I q) (fun yv s8 ⟨y,H8,I8,r8,q8⟩=>?_) fun _ _ z=>z)
 obtain ⟨ys,hD,hsz,w8⟩:=q8
 refine ap (l6 (rS (X:=Y) _ s8 τ H8 (.ref D) [y] (.ref D) [yv] (fun v H9=>v=.av/\H9=upd H8 D (.lst (ys++[y]))) I8 rfl (.cons r8 .nil) ⟨_,ys,y,rfl,rfl,hD,hsz,rfl,rfl⟩) (fun rv s9 ⟨v9,H9,I9,_,_,e9⟩=>?_) fun _ _ z=>z)
 subst e9
 exact br ⟨τ,_,I9,w8⟩
end
section
variable {X:Cx}
theorem compG_core {pins:List (ac×im)} {σ:St} {H2:Hp} {s2:ar} {e tg iter:cr} {ifs:List cr} {scope:wn} {N':List bi} {tn:Nat} {idx:List Nat} {g:TG} {tt:TT} {tb:ac->TB} {body:al->IF->VC Unit} {it:ac} {fp:List ac} {bO:Nat->gc->Prop} {J:It}
  {cl:List (bi×ac)} {E:al->ar->Prop} {RR:al->ac->Wn->ar->Prop} {Q:VK} {mk:VC al} {O0:HO} {o0:im}
  (RC:∀(Q:al->ar->Prop),Q (.ref s2.heap.objs.size) {s2 with heap:=s2.heap.push o0}->wpAny (model X.prog X.w) X.A mk Q E s2) (uo:o0.isFreed=false)
  (RD:∀(H:Hp) (h1:gc),h1.get? s2.heap.objs.size=some o0->ObjOk X.prog X.w H h1 s2.heap.objs.size O0)
  (hc:X.calm=true) (B:aW X.N X.env.scope scope N' tn idx)
  (hC:∀(D:ac),Blk X N' scope fun Y=>Dl Y e tg iter ifs 0 (.ref D) (body (.ref D) Y.env))
  (hg:Blk X N' scope fun Y=>PG Y tg g) (ht:Blk X N' scope fun Y=>ib Y ifs tt) (hb:∀D,Blk X N' scope fun Y=>PB Y (body (.ref D) Y.env) (tb D))
  (I:Inv X pins σ H2 s2) (T:Turn X.prog X.w X.K tg J fp it bO) (st:bO 0 s2.heap) (f2:∀b∈fp,dy X pins H2 b)
  (gm:∀n c,cl.lookup n=some c->X.env.cells.lookup n=some c) (iy:∀n,(n,sK)∈scope.names->∃c,cl.lookup n=some c)
  (hq:∀D,H2 D=none->∃W:Nat->Nat->St->Hp->Prop,(∃m,W 0 m (bW tn idx σ) (upd H2 D O0))/\yy J g tt (tb D) (fun _ H'=>Q (.ref D) H') W)
  (Jp:∀D C m s' H',Inv X pins σ H' s'->dy X pins H' C->s'.heap.Ns C m->Q (.ref D) H'->RR (.ref D) C (.ok .next) s') :
  wpAny (model X.prog X.w) X.A mk (fun acc qJ=>wpAny (model X.prog X.w) X.A (newFunctionEnv scope X.env.globals cl [] X.env.qual none .none (some X.env)) (fun ur Dm=>
   codeAny (model X.prog X.w) X.A (.compStart e 0 (.ref it) acc {ur with scope:=relabel scope X.env}) (RR acc ur.locals) Dm) E qJ) E s2 :=by
 obtain ⟨b1,b2,b3,b4⟩:=id B
 refine RC _ (wpAny_newFunctionEnv (fun y hy=>(b2 y hy).1) (by intro y hy;simp at hy) (fun jg uv pE=>?_) b1)
 dsimp only at uv pE ⊢
 generalize hG:s2.heap.push o0=G at uv pE ⊢
 have Jq:G.objs.size=s2.heap.objs.size+1 :=by rw [<- hG,Nl]
 have Oz:s2.heap.objs.size≠G.objs.size :=by rw [Jq];exact i4 (EU _)
 have Dn:s2.heap.objs.size<=G.objs.size :=by rw [Jq];exact Do _
 have below:∀b,b<s2.heap.objs.size->b≠G.objs.size:=fun b hb=>by rw [Jq];exact i4 (Me hb)
 have old:∀b o,s2.heap.get? b=some o->jg.get? b=some o:=fun b o e=>pE.extBut b o (below b (ge e)) (bn _ (hG▸bn _ e))
 have RE:jg.get? s2.heap.objs.size=some o0:=pE.extBut _ _ Oz (bn _ (hG▸dL _ uo))
 have OA:H2 s2.heap.objs.size=none:=I.hok.fresh (cb _)
 have Jn:upd H2 s2.heap.objs.size O0 G.objs.size=none :=by rw [af (xz Oz)];exact I.hok.fresh Dn
 have Qt:cL X.prog X.w (upd H2 s2.heap.objs.size O0) jg:=I.hok.laid old (cb _) (RD _ _ RE)
 have uw:∀b∈fp,b<s2.heap.objs.size:=fun b hb=>let ⟨o,e,_⟩:=T.obj _ _ st b hb;ge e
 obtain ⟨W,⟨m0,w0⟩,turn⟩:=hq s2.heap.objs.size OA
 have I1:Inv (An X N' scope cl G.objs.size s2 H2 fp) [] (bW tn idx σ) (upd H2 s2.heap.objs.size O0) {s2 with heap:=jg,toks:=s2.toks+([]:List (bi×al)).length}:=by
  refine rV (g':=s2.gens) (m0:=fun x=>([]:List (bi×al)).reverse.lookup x) I b1 rfl rfl gm (fun x hx=>?_) (fun z=>I.ok.hd z) I.ok.frames (.inl rfl) Dn f2 uw (Un.laid old (cb _) OA) Qt Jn old uv (fun i x v e1 e2 e3=>?_) (B.len σ) I.bare.self
  ·have oj:(relabel scope X.env).names.lookup x=some .cell\/(relabel scope X.env).names.lookup x=some .free:=hx
   rw [my] at oj
   cases q:scope.names.lookup x with
   |none=>rw [q] at oj;rcases oj with z|z <;> cases z
   |some k0=>
    have hm:=wE q
    rw [q] at oj
    by_cases hk:k0=.free
    ·subst hk;exact iy x hm
    ·have nk:(k0==sK)=false :=by simpa using hk
     have nc:=(b2 _ hm).1
     simp only [ON,nk,Vr,lp,if_false] at oj
     rcases oj with z|z
     ·exact absurd (ij z) nc
     ·exact absurd (ij z) hk
  ·obtain ⟨fr,j,e4,e5⟩:=B.at e1 e2
   have kx:=(b2 _ (wE fr)).2.2 rfl
   refine ⟨?_,.inr kx,kx,j,e4,e5⟩
   show (relabel scope X.env).names.lookup x=some .cell\/(relabel scope X.env).names.lookup x=some .free
   rw [my,fr]
   simp only [ON]
   split
   ·exact .inl rfl
   ·exact .inr rfl
 have stat:∀b∈fp,dy (An X N' scope cl G.objs.size s2 H2 fp) [] (upd H2 s2.heap.objs.size O0) b:=fun b hb=>by
  refine ⟨by rw [af (i4 (uw b hb))];exact (f2 b hb).1,below b (uw b hb),fun z=>?_,.inl hb,fun x c e=>(f2 b hb).2.2.2.2.1 x c (gm x c e),fun p hp=>absurd (show p∈([]:List (ac×im)) from hp) (by simp)⟩
  rcases l3.mp (I.hZ b z) with q|q
  ·exact (f2 b hb).2.1 q
  ·exact (f2 b hb).2.2.1 q
 have OB:bO 0 jg:=T.keep _ _ _ st fun b _ o e=>old b o e
 refine yA (Y:=An X N' scope cl G.objs.size s2 H2 fp) (hC _ cl G.objs.size s2 H2 fp) T OB (Ao (Y:=An X N' scope cl G.objs.size s2 H2 fp) hc (fun _ _ z=>z) (hC _ cl G.objs.size s2 H2 fp) (hg cl G.objs.size s2 H2 fp) (ht cl G.objs.size s2 H2 fp) (hb _ cl G.objs.size s2 H2 fp) T turn I1 OB stat w0 fun cm H' s' I4 qn=>?_)
 have J2:Inv X pins σ H' s':=I.yi I4.os I4.base I4.hok I4.bare fun b hb=>⟨(f2 b hb).2.2.2.1,(f2 b hb).2.1,(f2 b hb).2.2.2.2.1,(f2 b hb).2.2.2.2.2⟩
 obtain ⟨mm,hm,_⟩:=I4.loc
 exact Jp _ _ mm s' H' J2 (I.kX Dn I4.free) hm qn
end
section
variable {X:Cx}
def tN (J:It) (g:TG) (tt:TT) (te:TE) (D:ac) (Q:VK) (W:Nat->Nat->St->Hp->Prop):Prop:=∀i m τ H,W i m τ H->
 (J.stop i H/\Q (.ref D) H)\/(J.go i H/\∀x H',J.yld i H x H'->g x τ H' fun aC H2=>tt aC H2 fun b H3=>if b=true then te aC H3 fun y H4=>∃ys m',H4 D=some (.lst ys)/\ys.length<sizeLine/\m'<m/\W (i+1) m' aC (upd H4 D (.lst (ys++[y]))) else ∃m',m'<m/\W (i+1) m' aC H3)
def tO (tn:Nat) (idx:List Nat) (wi:TI) (g:TG) (tt:TT) (te:TE):TE:=fun σ H Q=>wi σ H fun J H1=>∀D,H1 D=none->∃W:Nat->Nat->St->Hp->Prop,(∃m,W 0 m (bW tn idx σ) (upd H1 D (.lst [])))/\tN J g tt te D Q W
theorem yB {J:It} {g:TG} {tt:TT} {te:TE} {D:ac} {Q:VK} {W:Nat->Nat->St->Hp->Prop} (h:tN J g tt te D Q W):yy J g tt (uq D te) (fun _ H=>Q (.ref D) H) W :=by
 simp only [tN,exists_and_left] at h
 exact h
theorem Dp (elt tg iter:cr) (ifs:List cr) (scope:wn) (pos:ul) (it acc:al) (env:IF) :
  compTurn (.ListComp elt [⟨tg,iter,ifs,0⟩] scope pos) 0 it acc env=yz (.ListComp elt [⟨tg,iter,ifs,0⟩] scope pos) tg iter ifs 0 it acc env (do let _ <- call (.builtin "list.append") [acc,<- eval elt env]) :=by
 rfl
theorem rW {pins:List (ac×im)} {σ:St} {H2:Hp} {s2:ar} {tg elt iter:cr} {ifs:List cr} {scope:wn} {pos:ul} {N':List bi} {tn:Nat} {idx:List Nat} {g:TG} {tt:TT} {te:TE} {it:ac} {fp:List ac} {bO:Nat->gc->Prop} {J:It}
  {cl:List (bi×ac)} {E:al->ar->Prop} {RR:al->ac->Wn->ar->Prop} {Q:VK}
  (hc:X.calm=true) (B:aW X.N X.env.scope scope N' tn idx)
  (hg:Blk X N' scope fun Y=>PG Y tg g) (ht:Blk X N' scope fun Y=>ib Y ifs tt) (he:Blk X N' scope fun Y=>PE Y elt te)
  (I:Inv X pins σ H2 s2) (T:Turn X.prog X.w X.K tg J fp it bO) (st:bO 0 s2.heap) (f2:∀b∈fp,dy X pins H2 b)
  (gm:∀n c,cl.lookup n=some c->X.env.cells.lookup n=some c) (iy:∀n,(n,sK)∈scope.names->∃c,cl.lookup n=some c)
  (hq:∀D,H2 D=none->∃W:Nat->Nat->St->Hp->Prop,(∃m,W 0 m (bW tn idx σ) (upd H2 D (.lst [])))/\tN J g tt te D Q W)
  (Jp:∀D C m s' H',Inv X pins σ H' s'->dy X pins H' C->s'.heap.Ns C m->Q (.ref D) H'->RR (.ref D) C (.ok .next) s') :
  wpAny (model X.prog X.w) X.A (newList []) (fun acc qJ=>wpAny (model X.prog X.w) X.A (newFunctionEnv scope X.env.globals cl [] X.env.qual none .none (some X.env)) (fun ur Dm=>
   codeAny (model X.prog X.w) X.A (.compStart (.ListComp elt [⟨tg,iter,ifs,0⟩] scope pos) 0 (.ref it) acc {ur with scope:=relabel scope X.env}) (RR acc ur.locals) Dm) E qJ) E s2:=
 compG_core (body:=fun acc env=>do let _ <- call (.builtin "list.append") [acc,<- eval elt env]) (tb:=fun D=>uq D te) (O0:=.lst []) (o0:={cls:=.type "list",dict:=none,data:=.seq ([]:List al).toArray})
  (fun Q q=>v6 q) rfl (fun H h1 hd=>⟨qr _,[],0,.nil,hd⟩) hc B (fun D cl C s H fp=>⟨fun _=>rfl,fun _ _ _ _ h=>h,fun _=>Dp ..,fun _ _ _ _ h=>h,rfl⟩) hg ht (fun D cl C s H fp=>GA (he cl C s H fp))
  I T st f2 gm iy (fun D hD=>let ⟨W,w0,t⟩:=hq D hD;⟨W,w0,yB t⟩) Jp
variable {tg elt iter:cr} {ifs:List cr} {scope:wn} {pos:ul} {N':List bi} {tn:Nat} {idx:List Nat} {wi:TI} {g:TG} {tt:TT} {te:TE}
theorem dy.turn {pins:List (ac×im)} {σ:St} {H:Hp} {s:ar} {C:ac} {h':gc} (f:dy X pins H C) (I:Inv X pins σ H s) (hs:u7 C s.heap h'):Inv X pins σ H {s with heap:=h'}:=
 I.turned (t':=s.toks) (fun b o hb e=>(hs.2 b hb).trans e) f.1 f.2.1 f.2.2.2.1 f.2.2.2.2.1 f.2.2.2.2.2
theorem wt (hc:X.calm=true) (B:aW X.N X.env.scope scope N' tn idx) (hi:PI X tg iter wi)
  (hg:Blk X N' scope fun Y=>PG Y tg g) (ht:Blk X N' scope fun Y=>ib Y ifs tt) (he:Blk X N' scope fun Y=>PE Y elt te)
  (hs:∀x,foldedSetIterable iter X.env x=pure x :=by intro _;rfl):PE X (.ListComp elt [⟨tg,iter,ifs,0⟩] scope pos) (tO tn idx wi g tt te) :=by
 refine ⟨?_⟩
 intro pins s σ H Q I h
 obtain ⟨cl,jS,gm,iy⟩:=iL (scope:=scope) (env:=X.env) fun n hn=>I.ok.has n ((B.2.1 _ hn).2.2 rfl)
 rw [eval_ListComp]
 refine wpAny_comprehension_free (use:=none) rfl hs jS B.1 (fun y hy=>(B.2.1 y hy).2.1) (l6 (hi pins s σ H _ I h) (fun xv s1 h1=>l6 h1 (fun zW s2 h2=>?_) fun _ _ z=>z) fun _ _ z=>z)
 obtain ⟨it,fp,bO,J,H2,e,I2,T,ua,f2,q2⟩:=h2
 subst e
 refine rW (RR:=fun acc C=>compPost (model X.prog X.w) X.A X.xe none (EP X pins σ Q) acc C) hc B hg ht he I2 T ua f2 gm iy q2 fun D C m s' H' J2 fC hm q=>?_
 exact ⟨m,hm,fun h' xo=>⟨.ref D,H',fC.turn J2 xo,rfl,q⟩⟩
theorem pF {i:Nat} {y:bi} {py mC:ul} (hN:X.N.Nodup) (eT:X.N[i]?=some y) (hy:X.env.scope.names.lookup y=some .local) (hc:X.calm=true) (B:aW X.N X.env.scope scope N' tn idx) (hi:PI X tg iter wi)
  (hg:Blk X N' scope fun Y=>PG Y tg g) (ht:Blk X N' scope fun Y=>ib Y ifs tt) (he:Blk X N' scope fun Y=>PE Y elt te)
  (Aq:swapsWith (.ListComp elt [⟨tg,iter,ifs,0⟩] scope pos) (some (.Name y py)) mC.line X.env=pure true :=by rfl)
  (hs:∀x,foldedSetIterable iter X.env x=pure x :=by intro _;rfl):PS X (.Assign [.Name y py] (.ListComp elt [⟨tg,iter,ifs,0⟩] scope pos) mC) (t7 (tO tn idx wi g tt te) (tL i)) :=by
 refine ⟨?_⟩
 intro pins s σ H D I h
 obtain ⟨cl,jS,gm,iy⟩:=iL (scope:=scope) (env:=X.env) fun n hn=>I.ok.has n ((B.2.1 _ hn).2.2 rfl)
 rw [exec_Assign_Name_used _ _ _ _ Aq]
 refine ap (AS (ap ?_))
 show wpAny _ X.A (do let _ <- comprehension (.ListComp elt [⟨tg,iter,ifs,0⟩] scope pos) scope X.env _ (newList []) false (eval iter X.env) (some (assign (.Name y py) X.env))) _ _ s
 refine ap (l6 (wpAny_comprehension_free (use:=some (assign (.Name y py) X.env)) (Q:=fun _ s'=>SP X pins D .next s') rfl hs jS B.1 (fun y hy=>(B.2.1 y hy).2.1)
  (l6 (hi pins s σ H _ I h) (fun xv s1 h1=>l6 h1 (fun zW s2 h2=>?_) fun _ _ z=>z) fun _ _ z=>z)) (fun _ s' hq=>br (br hq)) fun _ _ z=>z)
 obtain ⟨it,fp,bO,J,H2,e,I2,T,ua,f2,q2⟩:=h2
 subst e
 refine rW (RR:=fun acc C=>compPost (model X.prog X.w) X.A X.xe (some (assign (.Name y py) X.env)) (fun _ s'=>SP X pins D .next s') acc C) hc B hg ht he I2 T ua f2 gm iy q2 fun E C m s' H' J2 fC hm q=>?_
 show wpAny _ X.A (assign (.Name y py) X.env (.ref E)) _ _ s'
 refine wpAny_assign_Name (store_ok2 J2 hN eT (.inl hy) (v:=.ref E) rfl (fun s3 J3 ⟨a,km,ha⟩=>?_) (.inr hy))
 have fA:C≠a :=by
  rcases ha with z|z
  ·rw [z];exact fC.2.1
  ·exact fun w=>fC.2.2.2.2.1 _ _ z w.symm
 exact ⟨m,hm.sameBut km fA,fun h' xo=>⟨_,H',fC.turn J3 xo,q⟩⟩
end
def Tb (P:ac) (H:Hp):Prop:=∃ps,H P=some (.cF ps)/\KB ps.toList
section
variable {X:Cx} {pins:List (ac×im)} {σ:St} {H:Hp} {s:ar} {P:ac} {ps more:Array al} {h':gc}
theorem Inv.grown (I:Inv X pins σ H s) (hP:H P=some (.cF ps)) (k:∀b o,b≠P->s.heap.get? b=some o->h'.get? b=some o) (n:h'.get? P=some {cls:=.none,data:=.fields (ps++more)}) (t':Nat) :
  Inv X pins σ (upd H P (.cF (ps++more))) {s with heap:=h',toks:=t'}:=by
 have ne:∀b u,H b=some u->u≠.cF ps->b≠P:=fun b u e d=>yh e hP d
 have nn:∀b,H b=none->b≠P:=fun b e z=>by rw [z,hP] at e;cases e
 refine I.un ⟨fun b o e q _ _=>k b o (nn b q) e,fun b o e q _ _=>⟨o.slots,k b o (nn b q) e⟩,fun b o e q _=>by rw [af (nn b q)];exact q,fun b o e _=>?_,fun b xs e=>by rw [af (ne b _ e (by intro z;cases z))];exact e,
  fun b o u e=>by rw [af (ne b _ e (by intro z;cases z))];exact e,fun b qs e=>?_⟩ fun b u e=>?_
 ·by_cases hb:b=P
  ·subst hb;exact ⟨_,n⟩
  ·exact ⟨o,k b o hb e⟩
 ·by_cases hb:b=P
  ·subst hb
   rw [hP] at e;cases e
   exact ⟨more,ay⟩
  ·exact ⟨#[],by rw [af hb,e];simp⟩
 ·by_cases hb:b=P
  ·subst hb
   rw [ay] at e;cases e
   exact n
  ·rw [af hb] at e
   refine (I.hok b u e).b9 (fun c v hc q=>k c v ?_ q) (fun c q=>?_) fun c xs q=>?_
   ·rcases hc with z|z
    ·rw [z];exact hb
    ·exact ne c _ z (by intro w;cases w)
   ·rw [af (ne c _ q (by intro w;cases w))];exact q
   ·rw [af (ne c _ q (by intro w;cases w))];exact q
theorem qK {c:ac} {pos:ul} {qn:bi} {scope:wn} {Q:al->ar->Prop} {A:l4} {E:al->ar->Prop} (I:Inv X pins σ H s) (hc:X.env.code=.ref c) (hd:nw X.base c P) (hP:H P=some (.cF ps)) (ht:KB ps.toList)
  (h:∀code gq s',KB gq.toList->Inv X pins σ (upd H P (.cF gq)) s'->(∀b o,b≠P->s.heap.get? b=some o->s'.heap.get? b=some o)->s'.gens=s.gens->Q code s'):wpAny (model X.prog X.w) A (genexprCode X.env pos qn scope) Q E s :=by
 have ux:s.heap.get? P=some (No ps):=I.hok P _ hP
 have jN:=hd.keeps I.bk
 have ic:=jN.code ux ht
 cases q:codeAmong pos ps.toList with
 |some c'=>
  refine wpAny_genexprCode_hit hc ic q (h c' ps s ht ?_ (fun _ _ _ e=>e) rfl)
  have e:upd H P (.cF ps)=H :=by
   funext b
   by_cases hb:b=P
   ·subst hb;rw [ay,hP]
   ·rw [af hb]
  rw [e];exact I
 |none=>
  refine wpAny_genexprCodeX hc ic (jN.tab ux) q fun c' h' tk ex h1 h2 Uo _ ta _=>?_
  obtain ⟨_,Ff⟩:=ta
  have tr:KB (ps++#[rawInt pos.line,rawInt pos.col,ma c']).toList :=by
   rw [SZ]
   exact TriplesOk_snoc _ _ _ _ ht
  exact h _ _ _ tr (I.grown hP (fun b o hb e=>ex b o hb e) Ff tk) (fun b o hb e=>ex b o hb e) rfl
end
def k4 (s a9:ar):Prop:=a9.heap=s.heap/\a9.os=s.os/\Gn s.gens.size a9.gens
theorem Inv.ka {X:Cx} {pins:List (ac×im)} {σ:St} {H:Hp} {s a9:ar} (I:Inv X pins σ H s) (o:k4 s a9):Inv X pins σ H a9 :=by
 obtain ⟨h,g,d,t,os⟩:=s
 obtain ⟨h',g',d',t',E8⟩:=a9
 obtain ⟨e1,e2,e3⟩:=o
 cases e1
 cases e2
 exact ⟨I.ok,I.os,I.bare.trans e3,I.base,I.loc,I.cell,I.free,I.freeC,I.pin,I.hok,I.len⟩
section
variable {Y:Cx} {A2:l4} {tg elt iter:cr} {ifs:List cr} {scope:wn} {pos:ul} {it:ac} {fp:List ac} {bO:Nat->gc->Prop} {J:It} {g:TG} {tt:TT} {te:TE} {pp:List (ac×im)} {R:GenEnd} {Yp:Protocol}
def Jr (J:It) (g:TG) (tt:TT) (te:TE) (stopAt:Bool) (Z:Bool->Hp->Prop) (W:Nat->Nat->St->Hp->Prop):Prop:=∀i m τ H,W i m τ H->
 (J.stop i H/\Z (!stopAt) H)\/(J.go i H/\∀x H',J.yld i H x H'->g x τ H' fun aC H2=>tt aC H2 fun b H3=>if b=true then te aC H3 fun y H4=>∃c,y=.bl c/\(if c=stopAt then Z stopAt H4 else ∃m',m'<m/\W (i+1) m' aC H4) else ∃m',m'<m/\W (i+1) m' aC H3)
theorem Dq (hA:Y.A=A2.over (.compLoop (.GeneratorExp elt [⟨tg,iter,ifs,0⟩] scope pos) 0 (.ref it) .none Y.env) []) (mB:Y.xe=fun _ _=>False) (hc:Y.calm=true) (jT:Y.env.scope.isCoroutine=false)
  (T:Turn Y.prog Y.w Y.K tg J fp it bO) (hg:PG Y tg g) (ht:ib Y ifs tt) (he:PE Y elt te) (stat:∀{H':Hp},(∀b∈fp,H' b=none)->∀b∈fp,dy Y pp H' b)
  {W:Nat->Nat->St->Hp->Prop} {Z:Bool->Hp->Prop} {stopAt:Bool} (turn:Jr J g tt te stopAt Z W)
  (hR:∀n s₀ aw τ H,Inv Y pp τ H aw->Z (!stopAt) H->R n s₀ (.ok .next) aw)
  (hY:∀n s₀ s jh c τ H,Inv Y pp τ H s->(c=stopAt->Z stopAt H)->(c≠stopAt->∀a9,k4 s a9->jh (.send .none) a9)->Yp n s₀ (.bool c) s jh) :
  ∀(m n i:Nat) (τ:St) (H:Hp) (s s₀:ar),m<n->W i m τ H->Inv Y pp τ H s->bO i s.heap->(∀b∈fp,H b=none)->
   Seg (model Y.prog Y.w) A2 R Yp n s₀ (.compLoop (.GeneratorExp elt [⟨tg,iter,ifs,0⟩] scope pos) 0 (.ref it) .none Y.env)
    ((model Y.prog Y.w).den (.compLoop (.GeneratorExp elt [⟨tg,iter,ifs,0⟩] scope pos) 0 (.ref it) .none Y.env)) [] s :=by
 intro m
 induction m using TD with
 |ind m ih=>
  intro n i τ H s s₀ Fg w I st fr
  show Seg _ A2 _ _ _ s₀ _ ((compTurn (.GeneratorExp elt [⟨tg,iter,ifs,0⟩] scope pos) 0 (.ref it) .none Y.env).onRaise (leaving Y.env)) [] s
  rw [compTurn_gen,Vo]
  rcases turn i m τ H w with ⟨stop,qn⟩|⟨go,step⟩
  ·refine tw (AS ?_)
   have d:=T.done Y rfl rfl rfl hc i pp s τ H (fun _ _=>False) I (stat fr) st stop
   rw [hA] at d
   refine tw (l6 d (fun r s1 ⟨hr,I1⟩=>?_) fun _ _ z=>z.elim)
   subst hr
   exact seg_end (.ok .next) (hR _ _ _ _ _ I1 qn)
  ·refine tw (AS ?_)
   have d:=T.item Y rfl rfl rfl hc i pp s τ H (fun _ _=>False) I (stat fr) st go
   rw [hA] at d
   refine tw (l6 d (fun r s4 ⟨u,hr,h4⟩=>?_) fun _ _ z=>z.elim)
   subst hr
   refine tw (l6 h4 (fun _ s5 ⟨x,H5,I5,r5,y5,jd,ub⟩=>?_) fun _ _ z=>z.elim)
   have ud:=I5.pinned (stat ub) (T.obj _ _ jd)
   have back:∀{om:St} {H7:Hp} {s7:ar},Inv Y (pp++ia fp s5.heap) om H7 s7->bO (i+1) s7.heap/\∀b∈fp,H7 b=none:=fun {om H7 s7} I7=>by
    refine ⟨T.keep _ _ _ jd fun b hb o e=>(I7.pin (b,o) (hX _ (hX _ (cE hb e)))).1,fun b hb=>?_⟩
    obtain ⟨o,e,d⟩:=T.obj _ _ jd b hb
    exact (I7.pin (b,o) (hX _ (hX _ (cE hb e)))).2.1
   have d2:=hg _ s5 τ H5 x u _ ud r5 (step x H5 y5)
   rw [hA,mB] at d2
   refine tw (l6 d2 (fun _ s6 ⟨jR,H6,I6,q6⟩=>?_) fun _ _ z=>z.elim)
   have d3:=ht _ s6 jR H6 _ I6 q6
   rw [hA,mB] at d3
   refine tw (l6 d3 (fun ok s7 ⟨H7,I7,q7⟩=>?_) fun _ _ z=>z.elim)
   have hy:∀v,yieldOut Y.env v=yieldValue v:=fun v=>by simp only [yieldOut,jT,lp,if_false]
   cases ok with
   |false=>
    simp only [lp,if_false] at q7 ⊢
    obtain ⟨m',pG,w7⟩:=q7
    exact U7 rfl (ih m' pG n (i+1) jR H7 s7 s₀ (by omega) w7 I7.cc (back I7).1 (back I7).2)
   |true=>
    simp only [if_true] at q7 ⊢
    simp only [hy]
    rw [UU,UU,VH,VH]
    have d4:=he _ s7 jR H7 _ I7 q7
    rw [hA,mB] at d4
    refine seg_wrap (l6 d4 (fun yv s8 ⟨y,H8,I8,r8,q8⟩=>?_) fun _ _ z=>z.elim)
    obtain ⟨c,ey,q8⟩:=q8
    subst ey
    cases (show yv=Wq c from r8)
    obtain ⟨n,rfl⟩:∃n',n=n'+1:=⟨n - 1,by omega⟩
    refine seg_at (seg_yield rfl rfl rfl (hY _ _ _ _ c jR H8 I8.cc (fun e=>by rw [if_pos e] at q8;exact q8) fun e a9 ok=>?_))
    rw [if_neg e] at q8
    obtain ⟨m',pG,w8⟩:=q8
    have I9:=I8.ka ok
    exact U7 rfl (ih m' pG n (i+1) jR H8 a9 a9 (by omega) w8 I9.cc (back I9).1 (back I9).2)
end
abbrev dn (elt tg iter:cr) (ifs:List cr) (scope:wn) (pos:ul):cr:=.GeneratorExp elt [⟨tg,iter,ifs,0⟩] scope pos
abbrev Js (X:Cx) (N':List bi) (scope:wn) (cl:List (bi×ac)) (C:ac) (code:al) (A':l4) (s:ar) (H:Hp) (fp:List ac):Cx:=
 cxBlock X N' (genEnv scope cl C code builtinsNs X.env) A' (genEnv scope cl C code builtinsNs X.env::X.stack) s H fp
abbrev dX (X:Cx) (N':List bi) (scope:wn) (k:Nat) (P:Cx->Prop):Prop:=∀(cl:List (bi×ac)) (C:ac) (code:al) (A':l4) (s:ar) (H:Hp) (fp:List ac),bB k A'->P (Js X N' scope cl C code A' s H fp)
structure uy (X:Cx) (pins:List (ac×im)) (σ:St) (N':List bi) (scope:wn) (tn:Nat) (idx:List Nat) (k:Nat) (elt tg iter:cr) (ifs:List cr) (pos:ul) (J:It) (H3:Hp) (a:ac) (s5:ar)
  (Y:Cx) (it:ac) (fp:List ac) (bO:Nat->gc->Prop) (g:Nat) (pp:List (ac×im)):Prop where
 inv:Inv Y pp (bW tn idx σ) H3 s5
 isg:∀{τ:St} {H':Hp} {s':ar},Inv Y pp τ H' s'->s'.heap.IsGen a g
 st:s5.gens[g]?=some (.fresh (.compStart (dn elt tg iter ifs scope pos) 0 (.ref it) .none Y.env))
 T:Turn Y.prog Y.w Y.K tg J fp it bO
 tn0:bO 0 s5.heap
 fr:∀b∈fp,H3 b=none
 stat:∀{H':Hp},(∀b∈fp,H' b=none)->∀b∈fp,dy Y pp H' b
 out:∀{τ:St} {H':Hp} {s':ar},Inv Y pp τ H' s'->Inv X pins σ H' s'
 A:Y.A=X.A.in4.in1.over (.compLoop (dn elt tg iter ifs scope pos) 0 (.ref it) .none Y.env) []
 xe:Y.xe=fun _ _=>False
 calm:Y.calm=true
 co:Y.env.scope.isCoroutine=false
 gsz:∀{τ:St} {H':Hp} {s':ar},Inv Y pp τ H' s'->g<s'.gens.size
 blk:∀P:Cx->Prop,dX X N' scope k P->P Y
 prog:Y.prog=X.prog
 w:Y.w=X.w
section
variable {X:Cx} {tg elt iter:cr} {ifs:List cr} {scope:wn} {pos:ul} {N':List bi} {tn:Nat} {idx:List Nat} {wi:TI} {g:TG} {tt:TT} {te:TE} {c P:ac} {k:Nat}
def Fh (P:ac) (wi:TI) (R:It->Hp->Prop):St->Hp->Prop:=fun σ H=>wi σ H fun J H1=>Tb P H1/\∀ps,KB ps.toList->R J (upd H1 P (.cF ps))
theorem uz {pins:List (ac×im)} {s:ar} {σ:St} {H:Hp} {QQ:al->ar->Prop} {R:It->Hp->Prop} (hr:bB (k+1) X.A) (hc:X.calm=true) (B:aW X.N X.env.scope scope N' tn idx)
  (h0:scope.names.lookup (".0" : bi)=some .local) (jT:scope.isCoroutine=false) (dF:X.env.code=.ref c) (hd:nw X.base c P) (de:∃bm ob,UM X.base mainGlobals X.mg bm ob)
  (hi:PI X tg iter wi) (hs:∀x,genFold iter X.env x=pure x) (I:Inv X pins σ H s) (h:Fh P wi R σ H)
  (q:∀J H3 a s5 Y it fp bO gn pp,uy X pins σ N' scope tn idx k elt tg iter ifs pos J H3 a s5 Y it fp bO gn pp->R J H3->QQ (.ref a) s5) :
  wpAny (model X.prog X.w) X.A (eval (dn elt tg iter ifs scope pos) X.env) QQ X.xe s :=by
 obtain ⟨cl,jS,gm,iy⟩:=iL (scope:=scope) (env:=X.env) fun n hn=>I.ok.has n ((B.2.1 _ hn).2.2 rfl)
 refine wpAny_GeneratorExp_make jT jS (fun y hy=>(B.2.1 y hy).1) h0 B.1 hr.depth (thn (hi pins s σ H _ I h) fun xv s1 h1=>thn h1 fun zW s2 h2=>?_) hs
 obtain ⟨it,fp,bO,J,H2,e,I2,T,ua,f2,⟨ps,hP,mD⟩,q2⟩:=h2
 subst e
 refine ⟨I2.nolimit,qK I2 dF hd hP mD fun code gq s3 RG I3 kp Up=>?_⟩
 obtain ⟨bm,ob,bmod⟩:=de
 have fY:=bmod.keeps I3.bk
 refine wpAny_builtinsFor (by rw [I3.ok.glob];exact fY.ns) fY.name fY.ne fY.obj fY.cls fY.dict fY.data ?_
 intro h' zT xo
 have OC:∀b∈fp,b≠P:=fun b hb z=>by have:=(f2 b hb).1;rw [z,hP] at this;cases this
 have rL:bO 0 s3.heap:=T.keep _ _ _ ua fun b hb o e=>kp b o (OC b hb) e
 have uw:∀b∈fp,b<s3.heap.objs.size:=fun b hb=>let ⟨o,e,_⟩:=T.obj _ _ rL b hb;ge e
 have f3:∀b∈fp,dy X pins (upd H2 P (.cF gq)) b:=fun b hb=>⟨by rw [af (OC b hb)];exact (f2 b hb).1,(f2 b hb).2⟩
 have hsz:h'.objs.size=s3.heap.objs.size+1 :=by rw [xo.1,Nl]
 have M8:∀b o,s3.heap.get? b=some o->h'.get? b=some o:=fun b o e=>xo.extBut b o (i4 (ge e)) (bn _ e)
 have OD:Gn s3.gens.size (s3.gens.push (.fresh (.compStart (dn elt tg iter ifs scope pos) 0 (.ref it) .none (genEnv scope cl s3.heap.objs.size code builtinsNs X.env)))):=⟨Wm.push I3.bare.1 rfl,by rw [We];exact Do _⟩
 have OG:Inv X pins σ (upd H2 P (.cF gq)) {s3 with gens:=s3.gens.push (.fresh (.compStart (dn elt tg iter ifs scope pos) 0 (.ref it) .none (genEnv scope cl s3.heap.objs.size code builtinsNs X.env)))}:=I3.ka ⟨rfl,rfl,OD⟩
 have hA:(X.A.in4.in1.over (.compLoop (dn elt tg iter ifs scope pos) 0 (.ref it) .none (genEnv scope cl s3.heap.objs.size code builtinsNs X.env)) []).frames=some (genEnv scope cl s3.heap.objs.size code builtinsNs X.env::X.stack) :=by
  show pushEnvs [_] (pushEnvs [] X.A.frames)=_
  rw [I.ok.frames];rfl
 have pH:bB k (X.A.in4.in1.over (.compLoop (dn elt tg iter ifs scope pos) 0 (.ref it) .none (genEnv scope cl s3.heap.objs.size code builtinsNs X.env)) []) :=by
  refine ⟨hr.hd,?_,?_⟩
  ·show X.A.depth+0+1+3 * k+5<recursionLimit
   have:=hr.dp
   omega
  ·show X.A.units+1+1+1+1+1+0+3+16 * k+200<cLine
   have:=hr.un
   omega
 generalize pI:({cls:=.type "generator",data:=.fields #[.int s3.gens.size 0,.str "<genexpr>" (s3.toks+1),.str (X.env.qual ++ "<genexpr>") (s3.toks+1+1)]}:im)=oo
 have tP:∀b o,s3.heap.get? b=some o->(h'.push oo).get? b=some o:=fun b o e=>bn _ (M8 b o e)
 have Qu:oo.isFreed=false :=by rw [<- pI];rfl
 have RH:(h'.push oo).get? h'.objs.size=some oo:=dL _ Qu
 have RJ:h'.objs.size≠s3.heap.objs.size :=by rw [hsz];exact Nat.succ_ne_self _
 have RK:upd H2 P (.cF gq) h'.objs.size=none:=I3.hok.fresh (by rw [hsz];exact Do _)
 have I5:=rV (X:=X) (N':=N') (A':=X.A.in4.in1.over (.compLoop (dn elt tg iter ifs scope pos) 0 (.ref it) .none (genEnv scope cl s3.heap.objs.size code builtinsNs X.env)) []) (env':=genEnv scope cl s3.heap.objs.size code builtinsNs X.env) (stack':=genEnv scope cl s3.heap.objs.size code builtinsNs X.env::X.stack) (ex:=fp) (h1:=h'.push oo) (m0:=fun y=>if y = ".0" then some (.ref it) else none)
  (g':=s3.gens.push (.fresh (.compStart (dn elt tg iter ifs scope pos) 0 (.ref it) .none (genEnv scope cl s3.heap.objs.size code builtinsNs X.env)))) (tk:=s3.toks+1+1+1) (aH:=bW tn idx σ) OG B.1 rfl I3.ok.blt.symm gm (fun x hx=>by
   have oj:scope.names.lookup x=some .cell\/scope.names.lookup x=some .free:=hx
   rcases oj with z|z
   ·exact absurd rfl ((B.2.1 _ (wE z)).1)
   ·exact iy x (wE z)) (fun z=>I.ok.hd z) hA (.inr ⟨rfl,rfl⟩) (cb _) f3 uw (Un.kept tP) (I3.hok.kept tP) (I3.hok.fresh (cb _)) tP (zT.push _) (fun i x v e1 e2 e3=>by
   obtain ⟨fr,j,e4,e5⟩:=B.at e1 e2
   have kx:=(B.2.1 _ (wE fr)).2.2 rfl
   exact ⟨.inr fr,.inr kx,kx,j,e4,e5⟩) (B.len σ) (Gn.self OD)
 have RL:h'.objs.size ∉ eh X.stack:=fun z=>by
  rcases l3.mp (I3.hZ _ z) with q|q
  ·exact NG (l5 I3.lt (by rw [hsz];exact Do _)) q
  ·exact I3.HW (by rw [hsz];exact Do _) q
 have tK:∀v,oo.data≠.cell v :=by rw [<- pI];intro v z;cases z
 have I6:=I5.qD (pins':=[(h'.objs.size,oo)]) (fun p hp=>by
  rcases kw.mp hp with rfl
  exact ⟨RH,RK,RJ,RL,tK⟩)
 refine q J _ _ _ (Js X N' scope cl s3.heap.objs.size code _ _ _ fp) it fp bO s3.gens.size [(h'.objs.size,oo)] ⟨I6,fun {τ H' s'} J'=>?_,?_,T,T.keep _ _ _ rL fun b _ o e=>tP b o e,fun b hb=>(f3 b hb).1,fun {H'} hn b hb=>?_,fun {τ H' s'} J'=>?_,rfl,rfl,hc,jT,fun {τ H' s'} J'=>?_,fun Pp hb=>hb cl _ code _ _ _ fp pH,rfl,rfl⟩ (q2 gq RG)
 ·have:=(J'.pin (h'.objs.size,oo) (hX _ (kw.mpr rfl))).1
  exact ⟨oo,_,_,this,by rw [<- pI],by rw [<- pI],by rw [<- pI]⟩
 ·exact Array.getElem?_push_size ..
 ·refine ⟨hn b hb,i4 (uw b hb),fun z=>?_,.inl hb,fun x c e=>(f2 b hb).2.2.2.2.1 x c (gm x c e),fun p hp z=>?_⟩
  ·rcases l3.mp (I2.hZ b z) with q|q
   ·exact (f2 b hb).2.1 q
   ·exact (f2 b hb).2.2.1 q
  ·rcases kw.mp hp with rfl
   have z':h'.objs.size=b:=z
   have:=uw b hb
   rw [<- z',hsz] at this
   exact absurd this (Ws.mpr (Do _))
 ·exact OG.yi J'.os J'.base J'.hok J'.bare fun b hb=>⟨(f3 b hb).2.2.2.1,(f3 b hb).2.1,(f3 b hb).2.2.2.2.1,(f3 b hb).2.2.2.2.2⟩
 ·have:=J'.bare.2
  have e:(Js X N' scope cl s3.heap.objs.size code (X.A.in4.in1.over (.compLoop (dn elt tg iter ifs scope pos) 0 (.ref it) .none (genEnv scope cl s3.heap.objs.size code builtinsNs X.env)) []) {s3 with gens:=s3.gens.push (.fresh (.compStart (dn elt tg iter ifs scope pos) 0 (.ref it) .none (genEnv scope cl s3.heap.objs.size code builtinsNs X.env)))} (upd H2 P (.cF gq)) fp).s₀.gens.size=s3.gens.size+1 :=by
   show (s3.gens.push _).size=_
   rw [We]
  rw [e] at this
  omega
theorem Dr {prog:c8} {w:ff} {A:l4} {a:ac} {R':Wn->ar->Prop} (In:Nat->ar->Prop)
  (turn:∀n s,In n s->wpAny (model prog w) A.in1 (pyNext (.ref a)) (fun r s1=>match r with
   |none=>R' (.ok (.ret (.bool true))) s1
   |some v=>∃c,v=.bool c/\if c=true then ∃m,m<n/\In m s1 else R' (.ok (.ret (.bool false))) s1) (fun e s'=>R' (.error e) s') s) :
  ∀(n:Nat) (s:ar),In n s->codeAny (model prog w) A (.builtin "all.loop" ⟨[.ref a],[]⟩) R' s :=by
 intro n
 induction n using TD with
 |ind n ih=>
  intro s h
  refine ze F.entry_all_loop ?_
  rw [u8 V5 _]
  show wpAny _ A.in1 (pyNext (.ref a)>>=_) _ _ s
  refine ap (l6 (turn n s h) (fun r s1 q=>?_) fun _ _ z=>z)
  cases r with
  |none=>exact ap (ET (br q))
  |some v=>
   obtain ⟨c,e,q⟩:=q
   subst e
   refine ap (Db (AM ?_))
   refine ap (wpAny_letGo ?_)
   cases c with
   |true=>
    simp only [if_true] at q ⊢
    obtain ⟨m,hm,hI⟩:=q
    exact br ⟨DD V5 _,ih m hm s1 hI⟩
   |false=>
    simp only [lp,if_false] at q ⊢
    exact ap (ET (br q))
theorem fZ {s:ar} {g:Nat} {x:So} {n:Nat} (h:Gn n s.gens) (hx:x.bare=true):Gn s.gens.size (s.setGen g x).gens :=by
 refine ⟨fun y hy=>?_,?_⟩
 ·have RN:y∈s.gens.setIfInBounds g x:=hy
  rcases Array.mem_or_eq_of_mem_setIfInBounds RN with z|z
  ·exact h.1 y z
  ·rw [z];exact hx
 ·show s.gens.size<=(s.gens.setIfInBounds g x).size
  rw [Array.size_setIfInBounds]
  exact cb _
theorem rX {s:ar} {g:Nat} {x:So} (h:g<s.gens.size):(s.setGen g x).gens[g]?=some x :=by
 show (s.gens.setIfInBounds g x)[g]?=_
 rw [Array.getElem?_setIfInBounds_self]
 simp [h]
theorem rY {Y:Cx} {A2:l4} {R:GenEnd} {Yp:Protocol} {n:Nat} {s₀ s:ar} {it:ac} {J:It} {fp:List ac} {bO:Nat->gc->Prop} (T:Turn Y.prog Y.w Y.K tg J fp it bO) {i:Nat} (st:bO i s.heap)
  (loop:Seg (model Y.prog Y.w) A2 R Yp n s₀ (.compLoop (dn elt tg iter ifs scope pos) 0 (.ref it) .none Y.env) ((model Y.prog Y.w).den (.compLoop (dn elt tg iter ifs scope pos) 0 (.ref it) .none Y.env)) [] s) :
  Seg (model Y.prog Y.w) A2 R Yp n s₀ (.compStart (dn elt tg iter ifs scope pos) 0 (.ref it) .none Y.env) ((model Y.prog Y.w).den (.compStart (dn elt tg iter ifs scope pos) 0 (.ref it) .none Y.env)) [] s :=by
 show Seg _ A2 _ _ _ s₀ _ ((compStart (dn elt tg iter ifs scope pos) 0 (.ref it) .none Y.env).onRaise (leaving Y.env)) [] s
 unfold compStart
 rw [Vo]
 show Seg _ A2 _ _ _ s₀ _ ((ask>>=_).wrap _ _ _ _) [] s
 refine tw (SI ?_)
 split
 ·exact U7 rfl loop
 ·first
   |exact tw (ET (tw (AS (tw (T.self _ i s _ _ st (U7 rfl loop))))))
   |(refine tw (ET ?_);show Seg _ A2 _ _ _ s₀ _ ((standAt iter.pos>>=_).wrap _ _ _ _) [] s;exact tw (AS (tw (T.self _ i s _ _ st (U7 rfl loop)))))
def Jt (P:ac) (tn:Nat) (idx:List Nat) (wi:TI) (g:TG) (tt:TT) (te:TE):TE:=fun σ H Q=>Fh P wi (fun J H1=>∃W:Nat->Nat->St->Hp->Prop,(∃m,W 0 m (bW tn idx σ) H1)/\Jr J g tt te false (fun b H2=>Q (.bl b) H2) W) σ H
theorem Ju {p kb:ul} (hr:bB (k+1) X.A) (hc:X.calm=true) (B:aW X.N X.env.scope scope N' tn idx)
  (h0:scope.names.lookup (".0" : bi)=some .local) (jT:scope.isCoroutine=false) (dF:X.env.code=.ref c) (hd:nw X.base c P) (de:∃bm ob,UM X.base mainGlobals X.mg bm ob)
  (uA:Gl X "all") (hm:X.mg "all" = none) (hi:PI X tg iter wi) (hg:dX X N' scope k fun Y=>PG Y tg g) (ht:dX X N' scope k fun Y=>ib Y ifs tt) (he:dX X N' scope k fun Y=>PE Y elt te)
  (hs:∀x,genFold iter X.env x=pure x :=by intro _;rfl):PE X (.Call (.Name "all" p) [dn elt tg iter ifs scope kb] [] pos) (Jt P tn idx wi g tt te) :=by
 refine ⟨?_⟩
 intro pins s σ H Q I h
 refine BY (fw I uA hm PyProof.Rows.boot_all ?_)
 refine PyProof.Rows.callWith_builtin1 ?_ rfl rfl
 show wpAny _ _ (spliced ((false,eval (dn elt tg iter ifs scope kb) X.env)::[])) _ _ s
 refine JJ (uz hr hc B h0 jT dF hd de hi hs I h ?_)
 intro J H3 a s5 Y it fp bO gn pp G ⟨W,⟨m0,w0⟩,turn⟩
 refine Mc ?_
 refine call_function_tree F.kind_all F.plain_all F.entry_all (F.args_all1 _) ?_
 unfold u4.«all»
 refine ap (m:=oneArg "all" _) (br ?_)
 refine ap (wpAny_pyIter_gen (G.isg G.inv) ?_)
 refine br ⟨DD V5 _,?_⟩
 have yC:=Dq (A2:=X.A.in4.in1) (pp:=pp) (R:=fun n s₀ r aw=>r=.ok .next/\∃τ H,Inv Y pp τ H aw/\Q (.bl true) H)
  (Yp:=fun n s₀ v s jh=>∃c τ H,v=.bool c/\Inv Y pp τ H s/\(c=false->Q (.bl false) H)/\(c≠false->∀a9,k4 s a9->jh (.send .none) a9)) G.A G.xe G.calm G.co G.T (G.blk _ hg) (G.blk _ ht) (G.blk _ he) G.stat turn
  (fun n s₀ aw τ H J z=>⟨rfl,τ,H,J,z⟩) (fun n s₀ s jh c τ H J z1 z2=>⟨c,τ,H,rfl,J,z1,z2⟩)
 have hP:=G.prog
 have hW:=G.w
 rw [hP,hW] at yC
 refine Dr (A:=X.A) (fun n s=>(∃τ H,Inv Y pp τ H s)/\∃gs,s.gens[gn]?=some gs/\∀a9,k4 s a9->gs.Goes (model X.prog X.w) X.A.in4.in1 (fun n s₀ r aw=>r=.ok .next/\∃τ H,Inv Y pp τ H aw/\Q (.bl true) H)
  (fun n s₀ v s jh=>∃c τ H,v=.bool c/\Inv Y pp τ H s/\(c=false->Q (.bl false) H)/\(c≠false->∀a9,k4 s a9->jh (.send .none) a9)) n (.send .none) a9) ?_ (m0+1) s5 ?_
 ·rintro n s6 ⟨⟨τ,H6,I6⟩,gs,Jv,pI⟩
  have Ud:=G.gsz I6
  refine V6 (V6 (V6 ?_))
  show wpAny (model X.prog X.w) X.A.in4 (pyNext (.ref a)) _ _ s6
  refine wpAny_pyNext_genexpQ (A:=X.A.in4) (P:=fun n s₀ aw=>∃τ H,Inv Y pp τ H aw/\Q (.bl true) H) hr.hd I6.nolimit hr.depth (G.isg I6) Jv (pI _ ⟨rfl,rfl,fZ I6.bare rfl⟩) (fun v s1 Ar hb hv=>?_) (fun s1 hp h' hk=>?_)
  ·obtain ⟨c,xq,H1,e,I1,z1,z2⟩:=hv
   subst e
   refine ⟨c,rfl,?_⟩
   have uB:k4 s1 (s1.setGen gn Ar):=⟨rfl,rfl,fZ I1.bare hb⟩
   cases c with
   |false=>
    rw [if_neg io]
    exact ⟨.bl false,H1,G.out (I1.ka uB),rfl,z1 rfl⟩
   |true=>
    rw [if_pos rfl]
    have z3:=z2 (by decide)
    cases n with
    |zero=>exact (z3 s1 ⟨rfl,rfl,I1.bare.self⟩).elim
    |succ m=>
     refine ⟨m,EU _,⟨xq,H1,I1.ka uB⟩,Ar,rX (G.gsz I1),fun a9 o=>z3 a9 ⟨o.1,o.2.1,?_⟩⟩
     exact uB.2.2.trans o.2.2
  ·obtain ⟨xq,H1,I1,z1⟩:=hp
   have I2:=I1.kept (t':=s1.toks) hk
   have Jw:k4 {s1 with heap:=h'} {s1.setGen gn .finished with heap:=h'}:=⟨rfl,rfl,fZ (s:=s1) I1.bare rfl⟩
   exact ⟨.bl true,H1,G.out (I2.ka Jw),rfl,z1⟩
 ·refine ⟨⟨_,_,G.inv⟩,_,G.st,fun a9 o=>⟨rfl,?_⟩⟩
  have I7:=G.inv.ka o
  have As:bO 0 a9.heap :=by rw [o.1];exact G.tn0
  have q:=rY (iter:=iter) (ifs:=ifs) (scope:=scope) (pos:=kb) (elt:=elt) G.T As (by rw [hP,hW];exact yC m0 (m0+1) 0 _ _ a9 a9 (EU _) w0 I7 As G.fr)
  rw [hP,hW] at q
  exact q
end
def Au (x:bi):It:=⟨fun i _=>i<x.length,fun i H v H'=>H'=H/\∃c,x.cps[i]?=some c/\v=.str ⟨#[c]⟩,fun i _=>x.length<=i⟩
theorem uC {P:c8} {w:ff} {K:ba} {tg:cr} (it:ac) (x:bi) (t:Vc) (ty:String) (uh:["enumerate","zip","dict_itemiterator","dict_reverseitemiterator","odict_iterator","itertools.zip_longest","itertools.pairwise"].contains ty=false)
  (W:∀A:l4,A.handled=none->Wx P w A it [it] [it] x.cps.size (SignAt x) (fun i h=>h.IsStrIter it ty x t i))
  (self:∀(A:l4) (i:Nat) (s:ar) (Q:al->ar->Prop) (E:al->ar->Prop),s.heap.IsStrIter it ty x t i->Q (.ref it) s->wpAny (model P w) A (pyIter (.ref it)) Q E s) :
  Turn P w K tg (Au x) [it] it (fun i h=>h.IsStrIter it ty x t i/\i<=x.length) where
 mem :=by simp
 obj:=fun i h st b hb=>by
  have e:b=it :=by simpa using hb
  subst e
  obtain ⟨⟨o,ho,_,hd⟩,_⟩:=st
  exact ⟨o,ho,fun v z=>by rw [hd] at z;cases z⟩
 keep:=fun i h h' st k=>⟨let ⟨o,ho,r⟩:=st.1;⟨o,k it (by simp) o ho,r⟩,st.2⟩
 item :=by
  intro X hP hw hK hc i pins s σ H E I hf st hg
  subst hP hw hK
  obtain ⟨f0,f1,f2,f3,f4,f5⟩:=hf it (by simp)
  have OH:i<x.cps.size:=hg
  refine (W X.A (I.ok.hd hc)).item i s _ _ OH st.1 fun v h' tk hv jO kk=>?_
  obtain ⟨c,u,RO,rfl⟩:=hv
  have I1:Inv X pins σ H {s with heap:=h',toks:=tk}:=I.turned (fun b o hb e=>kk b o (by simpa using hb) e) f0 f1 f3 f4 f5
  obtain ⟨o,ho,dD,hd⟩:=id jO
  exact ⟨_,rfl,pz (s:={s with heap:=h',toks:=tk}) (n:=ty) ho dD hd uh ⟨.str ⟨#[c]⟩,H,I1,⟨u,rfl⟩,⟨rfl,c,RO,rfl⟩,⟨jO,OH⟩,fun b hb=>(hf b hb).1⟩⟩
 done :=by
  intro X hP hw hK hc i pins s σ H E I hf st hg
  subst hP hw hK
  obtain ⟨f0,f1,f2,f3,f4,f5⟩:=hf it (by simp)
  have e:i=x.cps.size:=Nat.le_antisymm st.2 hg
  subst e
  exact (W X.A (I.ok.hd hc)).done s _ _ st.1 fun h' tk kk=>⟨rfl,I.turned (fun b o hb e=>kk b o (by simpa using hb) e) f0 f1 f3 f4 f5⟩
 self:=fun A i s Q E st h=>self A i s Q E st.1 h
section
variable {X:Cx} {tg l:cr} {tl:TE}
def Qv (tl:TE):TI:=fun σ H R=>tl σ H fun x H1=>∃z,x=.str z/\R (Au z) H1
theorem Jx (hl:PE X l tl):PI X tg l (Qv tl) :=by
 intro pins s σ H R I h
 refine thn (hl pins s σ H _ I h) fun v s1 ⟨y,H1,I1,r1,q1⟩=>?_
 obtain ⟨z,rfl,q⟩:=q1
 obtain ⟨t,rfl⟩:=r1
 have fin:∀(o:im) (ty:String),(∀v,o.data≠.cell v)->(s1.heap.push o).IsStrIter s1.heap.objs.size ty z t 0->Turn X.prog X.w X.K tg (Au z) [s1.heap.objs.size] s1.heap.objs.size (fun i h=>h.IsStrIter s1.heap.objs.size ty z t i/\i<=z.length)->Iv X pins σ tg R (.ref s1.heap.objs.size) {s1 with heap:=s1.heap.push o}:=fun o ty hd hit T=>
  ⟨_,[s1.heap.objs.size],_,Au z,H1,rfl,I1.kept (t':=s1.toks) (fun b u e=>bn _ e),T,⟨hit,qr _⟩,fun b hb=>by
   have e:b=s1.heap.objs.size :=by simpa using hb
   subst e
   exact I1.kX (cb _) (I1.hok.fresh (cb _)),q⟩
 cases ha:z.cps.all (· < 128)
 ·exact wpAny_pyIter_wide ha (fin _ "str_iterator" (fun v e=>by cases e) ⟨_,dL _ rfl,rfl,rfl⟩ (uC _ z t _ (by decide) (fun A' hA=>Wx.strWide hA _ z t) fun A i s Q E st h=>wpAny_pyIter_striter_wide st h))
 ·exact wpAny_pyIter_ascii ha (fin _ "str_ascii_iterator" (fun v e=>by cases e) ⟨_,dL _ rfl,rfl,rfl⟩ (uC _ z t _ (by decide) (fun A' hA=>Wx.strAscii hA _ z t) fun A i s Q E st h=>wpAny_pyIter_striter_ascii st h))
def Qw:V->Option Int->Option Int->Hp->VK->Prop:=fun x lo hi H Q=>∃z,x=.str z/\z.length<=sizeLine/\Q (.str (Wg z lo hi)) H
theorem Jy:Fb X Qw :=by
 intro pins s σ H x v vl vu lo hi sl Q I rx hs pl pu h
 obtain ⟨z,rfl,hz,q⟩:=h
 obtain ⟨t,rfl⟩:=rx
 refine ⟨"str",_,F.slot_str_getitem.lookup,typeIs_str _ _ _,?_⟩
 have fin:∀(l u:Option (Int×Vc)),s.heap.IsSlice sl l u none->l.map (·.1)=lo->u.map (·.1)=hi->wpAny (model X.prog X.w) X.A (getItem (.str z t) (.ref sl)) (EP X pins σ Q) X.xe s:=fun l u e e1 e2=>by
  refine wpAny_getItem_str_slice (l:=l) (u:=u) (st:=none) e rfl ?_
  refine post_val_or_str ⟨?_,fun t' k=>?_⟩
  ·exact (show (Wg z (l.map (·.1)) (u.map (·.1))).length<=sizeLine from uu (Txt.slice_le z _ _) hz)
  ·refine ⟨.str (Wg z lo hi),H,I.tok k,⟨t',?_⟩,q⟩
   rw [<- e1,<- e2]
   rfl
 obtain ⟨o,ho,hc,hd⟩:=hs
 cases pl with
 |none=>
  cases pu with
  |none=>exact fin none none ⟨o,ho,hc,hd⟩ rfl rfl
  |int j uj=>exact fin none (some (j,uj)) ⟨o,ho,hc,hd⟩ rfl rfl
 |int i ui=>
  cases pu with
  |none=>exact fin (some (i,ui)) none ⟨o,ho,hc,hd⟩ rfl rfl
  |int j uj=>exact fin (some (i,ui)) (some (j,uj)) ⟨o,ho,hc,hd⟩ rfl rfl
theorem cn {xs:List V} {us:List al} (r:Vals xs us) {j:Nat} (h:j<us.toArray.size):RelV (xs.getD j .av) us.toArray[j] :=by
 have hl:=r.length
 have hj:j<xs.length :=by simpa [hl] using h
 obtain ⟨u,e,q⟩:=r.get (i:=j) (x:=xs[j]) (ag hj)
 have e2:us.toArray[j]=u :=by
  rw [bv] at e
  obtain ⟨h',e⟩:=e
  simpa using e
 rw [e2,ce,ag hj]
 exact q
theorem wu:dj X (.builtin "isinstance") (fun xs H Q=>∃x T t b,xs=[x,.ty T]/\fL X.K H x t/\Vs X.K t (.type T)=some b/\Q (.bl b) H) :=by
 intro pins s σ H xs us Q I r h
 obtain ⟨x,T,t,b,rfl,ty,e,q⟩:=h
 obtain ⟨u,w',rfl,r1,r2⟩:=vals2 r
 cases (show w'=AL T from r2)
 exact Ae I r1 ty e fun tk=>⟨.bl b,H,I.tok tk,rfl,q⟩
theorem oq:∀{xs:List V} {us:List al},xs.length=us.length->(∀(i:Nat) (v:V),xs[i]?=some v->∃u,us[i]?=some u/\RelV v u)->Vals xs us
 | [],[],_,_=>.nil
 | [],_::_,h,_=>by simp at h
 |_::_,[],h,_=>by simp at h
 |x::xs,u::us,h,g=>by
          obtain ⟨u',e,r⟩:=g 0 x rfl
          have e':u=u':=by simpa using e
          subst e'
          exact .cons r (oq (by simpa using h) fun i v hv=>by
           obtain ⟨w,e2,r2⟩:=g (i+1) v (by simpa using hv)
           exact ⟨w,by simpa using e2,r2⟩)
theorem uD {e:cr} {te:TE} {p p1 p2 pos:ul} (hc:X.calm=true) (hg:Gl X "list") (hm:X.mg "list" = none) (Jz:Gl X "range") (JA:X.mg "range" = none) (he:PE X e te) (hs:starEach [e] X.env=[(false,eval e X.env)] :=by rfl) :
  PE X (.Call (.Name "list" p) [.Call (.Name "range" p1) [e] [] p2] [] pos) (fun σ H Q=>te σ H fun x H1=>∃j:Int,x=.int j /\ -(2 ^ 24)<=j/\j<=2 ^ 24/\∀l,H1 l=none->Q (.ref l) (upd H1 l (.lst ((l9 j.toNat).map fun i=>V.int (i:Nat))))) :=by
 refine ⟨?_⟩
 intro pins s σ H Q I h
 refine BY (fw I hg hm (by decide +kernel:bootBuiltins "list" = some (.type "list")) ?_)
 refine zn ?_ rfl rfl
 show wpAny _ _ (spliced ((false,eval (.Call (.Name "range" p1) [e] [] p2) X.env)::[])) _ _ s
 refine JJ ?_
 refine Call_ (fw I Jz JA boot_range (zn ?_ hs rfl))
 rw [hs]
 refine JJ (thn (he pins s σ H _ I h) fun v s1 ⟨x,H1,I1,r1,q1⟩=>Mc ?_)
 obtain ⟨j,rfl,b1,b2,q⟩:=q1
 obtain ⟨t,rfl⟩:=r1
 refine call_range_1 ?_
 refine Mc ?_
 refine call_list_range (n:=j.toNat) (I1.ok.hd hc) (IsRange.new ..) (small_one (by omega) (by omega) (by omega) (by omega)) (by rw [PyProof.Rows.rangeSize_nat];simp) (by omega) fun h' tk iz c' hk hS hit=>?_
 have I2:Inv X pins σ H1 {s1 with heap:=s1.heap.push {cls:=.type "range",data:=.fields #[.int 0 s1.toks,.int j t,.int 1 (s1.toks+1)]},toks:=s1.toks+1+1}:=I1.kept fun b o e=>bn _ e
 obtain ⟨hsz,pJ⟩:=hit
 have rv:Vals ((l9 j.toNat).map fun i=>V.int (i:Nat)) iz.toList :=by
  refine oq (by simpa using hsz.symm) fun i v e=>?_
  rw [ca] at e
  cases q2:(l9 j.toNat)[i]? with
  |none=>rw [q2] at e;cases e
  |some k=>
   rw [q2] at e
   have ek:k=i :=by
    obtain ⟨_,e3⟩:=bv.mp q2
    simpa using e3.symm
   have hi:i<iz.size :=by
    have:=(bv.mp q2).1
    rw [PM] at this
    omega
   obtain ⟨t2,e4⟩:=pJ i iz[i] (by simp [hi])
   refine ⟨iz[i],by simp [hi],?_⟩
   rw [e4]
   have e5:v=V.int (k:Nat):=(ij e).symm
   rw [e5,ek]
   exact ⟨t2,by simp⟩
 have ob:ObjOk X.prog X.w (upd H1 (s1.heap.push {cls:=.type "range",data:=.fields #[.int 0 s1.toks,.int j t,.int 1 (s1.toks+1)]}).objs.size (.lst ((l9 j.toNat).map fun i=>V.int (i:Nat)))) h' (s1.heap.push {cls:=.type "range",data:=.fields #[.int 0 s1.toks,.int j t,.int 1 (s1.toks+1)]}).objs.size (.lst ((l9 j.toNat).map fun i=>V.int (i:Nat))) :=by
  refine ⟨?_,iz.toList,c',rv,by simpa using hS⟩
  rw [ci,PM]
  exact uu (show j.toNat<=2 ^ 24 by omega) (by decide)
 exact ⟨.ref _,_,I2.laid (t':=tk) hk (cb _) ob,rfl,q _ (I2.hok.fresh (cb _))⟩
end
theorem JB:bootBuiltins "int" = some (.type "int") :=by decide +kernel
theorem JC:bootBuiltins "str" = some (.type "str") :=by decide +kernel
theorem GB:bootBuiltins "bool" = some (.type "bool") :=by decide +kernel
theorem ji:bootBuiltins "tuple" = some (.type "tuple") :=by decide +kernel
theorem pK:bootBuiltins "min" = some (.builtin "min") :=by decide +kernel
theorem JD:bootBuiltins "max" = some (.builtin "max") :=by decide +kernel
theorem uE:bootBuiltins "abs" = some (.builtin "abs") :=by decide +kernel
theorem eu:bootBuiltins "isinstance" = some (.builtin "isinstance") :=by decide +kernel
structure Bl (mg:bi->Option al):Prop where
 len_:mg "len" = none
 range_:mg "range" = none
 min_:mg "min" = none
 max_:mg "max" = none
 abs_:mg "abs" = none
 list_:mg "list" = none
 tuple_:mg "tuple" = none
 int_:mg "int" = none
 str_:mg "str" = none
 bool_:mg "bool" = none
 isinstance_:mg "isinstance" = none
 all_:mg "all" = none
 set_:mg "set" = none
 sorted_:mg "sorted" = none
 zip_:mg "zip" = none
 enumerate_:mg "enumerate" = none
 sum_:mg "sum" = none
 reversed_:mg "reversed" = none
 divmod_:mg "divmod" = none
 any_:mg "any" = none
 ValueError_:mg "ValueError" = none
structure Df (K:ba) (mg:bi->Option al) (x:bi) (st:mv) (ps:List bi) (f:ac) (fd:i0):Prop where
 fn:rU K x x st f fd
 bd:Binds K fd ps []
 mg:mg x=some (.ref f)
structure uF (base:gc) (fd:i0) (c P:ac):Prop where
 code:fd.code=.ref c
 hd:nw base c P
section
variable {P:c8} {w:ff} {K:ba} {mg:bi->Option al} {base:gc}
theorem rU.RP {x qual:bi} {st:mv} {f:ac} {fd:i0} {N ps:List bi} {k:Nat} {sp:Sp} (F:rU K x qual st f fd) (S:aK N ps (aj st)) (len:∀vs H Q E,sp vs H Q E->vs.length=ps.length)
  (kY:∀(A:l4) (outer:List IF) (s:ar) (H:Hp) (vs:List V) (Q:VK) (E:XK),bB k (A.deeper (envOfC qual (aj st) s.heap.objs.size f fd.code))->sp vs H Q E->
   ∃t,fW (fo bq P w K mg base N qual (aj st) f fd.code A outer s H E).iE (bK st) t/\t {nx:=fun _ H'=>Q .av H',rt:=Q} (start N vs) H):FnOk P w K mg base bq (k+1) f fd ps sp :=by
 obtain ⟨oc,od,kV,doc,pm,an,cD,ct,jP,rfl,lk,dG⟩:=F.ex
 refine yq lk dG S len fun A outer s H vs Q E hr jQ=>?_
 obtain ⟨t,h,q⟩:=kY A outer s H vs Q E hr jQ
 exact ⟨t,h.iE,q⟩
end
def Uq:V->Bool | .int _=>true|_=>false
def below (m:Int):V->Bool | .int i=>decide (0<=i) && decide (i<m)|_=>false
structure aL (net:List (List Int)) (w:Nat):Prop where
 one:1<=net.length
 nine:net.length<=9
 wid:w=2\/w=3
 row:∀r∈net,r.length=w/\∀g∈r,0<=g/\g<(net.length:Int)
def Fi (tb:List ac) (H:Hp):Prop:=∀p∈tb,Tb p H
def M9 (H:Hp) (b:ac):Prop:=∃c m:Int,H b=some (.lst [.int c,.int m])/\0<=c/\0<=m
def Runs (J:It) (ys:List V) (H:Hp):Prop:=∀i,(i<ys.length->J.go i H/\∀x H',J.yld i H x H'->H'=H/\ys[i]?=some x)/\(ys.length<=i->J.stop i H)
def jj (z:bi):List V:=z.cps.toList.map fun c=>.str ⟨#[c]⟩
theorem Ds {K:ba} {a:ac} {ys:List V} {H:Hp} (h:cM K H a ys):Runs (Iy K a) ys H:=fun i=>
 ⟨fun hi=>⟨⟨ys,ys[i],h,ag hi⟩,fun x H' y=>⟨y.1,y.2 ys h⟩⟩,fun hi=>⟨ys,h,hi⟩⟩
theorem Av {K:ba} {a:ac} {ys:List V} {H:Hp} (h:bN K H a ys):Runs (Iw K a) ys H:=fun i=>
 ⟨fun hi=>⟨⟨ys,ys[i],h,ag hi⟩,fun x H' y=>⟨y.1,y.2 ys h⟩⟩,fun hi=>⟨ys,h,hi⟩⟩
theorem pL {lo:Int} {n:Nat} {H:Hp}:Runs (zX lo n) ((l9 n).map fun i=>V.int (lo+(i:Nat))) H:=fun i=>by
 have el:((l9 n).map fun i=>V.int (lo+(i:Nat))).length=n :=by simp
 rw [el]
 refine ⟨fun hi=>⟨hi,fun x H' y=>?_⟩,fun hi=>hi⟩
 obtain ⟨e1,e2⟩:=y
 refine ⟨e1,?_⟩
 rw [e2,ca,AE hi]
 rfl
theorem pM (z:bi):(jj z).length=z.length :=by
 unfold jj
 rw [ci]
 rfl
theorem Du {z:bi} {H:Hp}:Runs (Au z) (jj z) H:=fun i=>
 ⟨fun hi=>⟨by rw [pM] at hi;exact hi,fun x H' y=>by
  obtain ⟨e,c,hc,rfl⟩:=y
  refine ⟨e,?_⟩
  unfold jj
  rw [ca,LF,hc]
  rfl⟩,fun hi=>by rw [pM] at hi;exact hi⟩
section
variable {X:Cx} {K:ba}
theorem xr (h:X.K=K):mq X (Ot K):=h▸Je
theorem Aw (h:X.K=K):dj X (.builtin "len") (fun xs H Q=>∃x n,xs=[x]/\IQ K x H n/\Q (.int n) H):=h▸De
theorem qM (h:X.K=K):dj X (.type "tuple") (fun xs H Q=>∃p ys,xs=[.ref p]/\((bN K H p ys/\∀l,H l=none->Q (.ref l) (upd H l (.tup ys)))\/(cM K H p ys/\Q (.ref p) H))):=h▸tj
theorem uG (h:X.K=K):dj X (.builtin "isinstance") (fun xs H Q=>∃x T t b,xs=[x,.ty T]/\fL K H x t/\Vs K t (.type T)=some b/\Q (.bl b) H):=h▸wu
theorem Dw {tg l:cr} {tl:TE} (h:X.K=K) (hl:PE X l tl):PI X tg l (E4 K tl):=h▸Gi hl
theorem GC {tg l:cr} {tl:TE} (h:X.K=K) (hl:PE X l tl):PI X tg l (Iz K tl):=h▸IA hl
variable {o e:cr} {es:List cr} {to:TE} {t:TA} {name:bi} {apos bG:ul} {T id:String} {r:V->List V->Hp->VK->Prop}
theorem JE (h:X.K=K) (pa:PlainAttrs T) (slot:Slot T name id) (uh:typeOf (.builtin id)=pure (.type "method_descriptor")) (hm:Fc X id r) (ho:PE X o to) (ha:PA X (e::es) t) (pC:attributeBase o name X.env (eval o X.env)=eval o X.env :=by rfl)
  (uk:((backTo bG (starEach (e::es) X.env)).all (fun x => !x.1) && (backToKw bG (keywordEach [] X.env)).all (fun x=>x.1.isSome)
   && decide ((e::es).length+([]:List UR).length+(if ([]:List UR).isEmpty then 0 else 1)<30))=true :=by rfl)
  (hline:(apos.endLine==bG.line)=true :=by rfl) (hs:starEach (e::es) X.env=(false,eval e X.env)::starEach es X.env :=by rfl) (mr:(backTo bG (starEach es X.env)).any (·.1)=false :=by rfl) :
  PE X (.Call (.Attribute o name apos) (e::es) [] bG) (Ou K T r to t):=h▸MZ pa slot uh hm ho ha pC uk hline hs mr
end
abbrev bI (K:ba) (x:bi) (st:mv):Prop:=
 ∃(f:ac) (oc:al) (od:Option ac) (sl:Array (Option al)) (kV dc pm:al) (an:Option ac) (cd ct:al),
  lc K mainGlobals x=some (some (.ref f))/\K.lookup f=some ⟨oc,od,.func (xw x x (cN st) (bK st) (aj st) .none kV dc pm an cd ct),sl⟩/\FF K cd x=true/\AT K (.ref f)=true
theorem aS {K:ba} {x:bi} {st:mv} {f:ac} {oc:al} {od:Option ac} {sl:Array (Option al)} {kV dc pm:al} {an:Option ac} {cd ct:al} (a:lc K mainGlobals x=some (some (.ref f)))
  (l:K.lookup f=some ⟨oc,od,.func (xw x x (cN st) (bK st) (aj st) .none kV dc pm an cd ct),sl⟩) (c:FF K cd x=true) (k:AT K (.ref f)=true):bI K x st:=⟨f,oc,od,sl,kV,dc,pm,an,cd,ct,a,l,c,k⟩
section
variable {K:ba} {mg:bi->Option al} {h base:gc}
theorem bI.df {x:bi} {st:mv} (d:bI K x st) (X:K.In h) (G:h.Ns mainGlobals mg) (ps:List bi)
  (hb:∀(kV doc pm:al) (an:Option ac) (cD ct:al) (us:List al),us.length=ps.length->bindArgs (xw x x (cN st) (bK st) (aj st) .none kV doc pm an cD ct) ⟨us,[]⟩=pure (ps.zip us)) :
  ∃f fd,Df K mg x st ps f fd :=by
 obtain ⟨f,oc,od,sl,kV,dc,pm,an,cd,ct,a,l,c,k⟩:=d
 have F:=Jm (st:=st) l c k
 exact ⟨f,_,F,F.binds hb,DO X G a⟩
theorem mE {x:bi} {st:mv} {ps:List bi} {f p:ac} {fd:i0} (D:Df K mg x st ps f fd) (X:K.In h)
  (t:∃f o fd c,mg x=some (.ref f)/\h.get? f=some o/\o.data=.func fd/\fd.code=.ref c/\nw h c p) (tr:∀c p,nw h c p->nw base c p):∃c,uF base fd c p :=by
 obtain ⟨f',o,Fj,c,e1,e2,e3,e4,e5⟩:=t
 obtain ⟨oc,od,kV,doc,pm,an,cD,ct,jP,rfl,lk,dG⟩:=D.fn.ex
 have e:=D.mg.symm.trans e1
 cases e
 have q:=(X _ _ lk).symm.trans e2
 cases q
 cases e3
 exact ⟨c,e4,tr _ _ e5⟩
theorem Df.bind1 {x y:bi} {st:mv} {f:ac} {fd:i0} (D:Df K mg x st [y] f fd) (s:ar) (v:al)
  (hb:∀(kV doc pm:al) (an:Option ac) (cD ct:al) (u:al),bindArgs (xw x x (cN st) (bK st) (aj st) .none kV doc pm an cD ct) ⟨[u],[]⟩=pure [(y,u)]):V2 s fd ⟨[v],[]⟩ [(y,v)] :=by
 obtain ⟨oc,od,kV,doc,pm,an,cD,ct,jP,rfl,lk,dG⟩:=D.fn.ex
 exact .of_eq (hb kV doc pm an cD ct v)
theorem fB {α β:Type} {F:α->β->Prop} {a:α} {r:List α} {t:List β} (h:Cn F (a::r) t):∃b t',t=b::t'/\F a b/\Cn F r t':=by
 cases h with
 |cons x y=>exact ⟨_,_,rfl,x,y⟩
theorem recs_of {q:c8} {lX:List bi} (h:(lX.all fun y=>(recsOf q).any fun r=>decide (r.name=y))=true):∀y∈lX,∃r∈recsOf q,r.name=y:=fun y hy=>by
 have:=wP.mp h y hy
 obtain ⟨r,hr,e⟩:=List.any_eq_true.mp this
 exact ⟨r,hr,of_decide_eq_true e⟩
end
abbrev nG:=V->Hp->(Hp->Prop)->Prop
section
variable {Y:Cx} {A2:l4} {tg elt iter:cr} {ifs:List cr} {scope:wn} {pos:ul} {it:ac} {fp:List ac} {bO:Nat->gc->Prop} {J:It} {g:TG} {tt:TT} {te:TE} {pp:List (ac×im)} {R:GenEnd} {Yp:Protocol}
def tGenV (J:It) (g:TG) (tt:TT) (te:TE) (C:nG) (Z:Hp->Prop) (W:Nat->Nat->St->Hp->Prop):Prop:=∀i m τ H,W i m τ H->
 (J.stop i H/\Z H)\/(J.go i H/\∀x H',J.yld i H x H'->g x τ H' fun aC H2=>tt aC H2 fun b H3=>if b=true then te aC H3 fun y H4=>C y H4 fun H5=>∃m',m'<m/\W (i+1) m' aC H5 else ∃m',m'<m/\W (i+1) m' aC H3)
theorem Ax (hA:Y.A=A2.over (.compLoop (.GeneratorExp elt [⟨tg,iter,ifs,0⟩] scope pos) 0 (.ref it) .none Y.env) []) (mB:Y.xe=fun _ _=>False) (hc:Y.calm=true) (jT:Y.env.scope.isCoroutine=false)
  (T:Turn Y.prog Y.w Y.K tg J fp it bO) (hg:PG Y tg g) (ht:ib Y ifs tt) (he:PE Y elt te) (stat:∀{H':Hp},(∀b∈fp,H' b=none)->∀b∈fp,dy Y pp H' b)
  {W:Nat->Nat->St->Hp->Prop} {C:nG} {Z:Hp->Prop} (turn:tGenV J g tt te C Z W)
  (hR:∀n s₀ aw τ H,Inv Y pp τ H aw->Z H->R n s₀ (.ok .next) aw)
  (hY:∀n s₀ s jh y v τ H pl (N:Hp->Prop),RelV y v->Inv Y (pp++pl) τ H s->C y H N->(∀H5 a9,Inv Y (pp++pl) τ H5 a9->N H5->jh (.send .none) a9)->Yp n s₀ v s jh) :
  ∀(m n i:Nat) (τ:St) (H:Hp) (s s₀:ar),m<n->W i m τ H->Inv Y pp τ H s->bO i s.heap->(∀b∈fp,H b=none)->
   Seg (model Y.prog Y.w) A2 R Yp n s₀ (.compLoop (.GeneratorExp elt [⟨tg,iter,ifs,0⟩] scope pos) 0 (.ref it) .none Y.env)
    ((model Y.prog Y.w).den (.compLoop (.GeneratorExp elt [⟨tg,iter,ifs,0⟩] scope pos) 0 (.ref it) .none Y.env)) [] s :=by
 intro m
 induction m using TD with
 |ind m ih=>
  intro n i τ H s s₀ Fg w I st fr
  show Seg _ A2 _ _ _ s₀ _ ((compTurn (.GeneratorExp elt [⟨tg,iter,ifs,0⟩] scope pos) 0 (.ref it) .none Y.env).onRaise (leaving Y.env)) [] s
  rw [compTurn_gen,Vo]
  rcases turn i m τ H w with ⟨stop,qn⟩|⟨go,step⟩
  ·refine tw (AS ?_)
   have d:=T.done Y rfl rfl rfl hc i pp s τ H (fun _ _=>False) I (stat fr) st stop
   rw [hA] at d
   refine tw (l6 d (fun r s1 ⟨hr,I1⟩=>?_) fun _ _ z=>z.elim)
   subst hr
   exact seg_end (.ok .next) (hR _ _ _ _ _ I1 qn)
  ·refine tw (AS ?_)
   have d:=T.item Y rfl rfl rfl hc i pp s τ H (fun _ _=>False) I (stat fr) st go
   rw [hA] at d
   refine tw (l6 d (fun r s4 ⟨u,hr,h4⟩=>?_) fun _ _ z=>z.elim)
   subst hr
   refine tw (l6 h4 (fun _ s5 ⟨x,H5,I5,r5,y5,jd,ub⟩=>?_) fun _ _ z=>z.elim)
   have ud:=I5.pinned (stat ub) (T.obj _ _ jd)
   have back:∀{om:St} {H7:Hp} {s7:ar},Inv Y (pp++ia fp s5.heap) om H7 s7->bO (i+1) s7.heap/\∀b∈fp,H7 b=none:=fun {om H7 s7} I7=>by
    refine ⟨T.keep _ _ _ jd fun b hb o e=>(I7.pin (b,o) (hX _ (hX _ (cE hb e)))).1,fun b hb=>?_⟩
    obtain ⟨o,e,d⟩:=T.obj _ _ jd b hb
    exact (I7.pin (b,o) (hX _ (hX _ (cE hb e)))).2.1
   have d2:=hg _ s5 τ H5 x u _ ud r5 (step x H5 y5)
   rw [hA,mB] at d2
   refine tw (l6 d2 (fun _ s6 ⟨jR,H6,I6,q6⟩=>?_) fun _ _ z=>z.elim)
   have d3:=ht _ s6 jR H6 _ I6 q6
   rw [hA,mB] at d3
   refine tw (l6 d3 (fun ok s7 ⟨H7,I7,q7⟩=>?_) fun _ _ z=>z.elim)
   have hy:∀v,yieldOut Y.env v=yieldValue v:=fun v=>by simp only [yieldOut,jT,lp,if_false]
   cases ok with
   |false=>
    simp only [lp,if_false] at q7 ⊢
    obtain ⟨m',pG,w7⟩:=q7
    exact U7 rfl (ih m' pG n (i+1) jR H7 s7 s₀ (by omega) w7 I7.cc (back I7).1 (back I7).2)
   |true=>
    simp only [if_true] at q7 ⊢
    simp only [hy]
    rw [UU,UU,VH,VH]
    have d4:=he _ s7 jR H7 _ I7 q7
    rw [hA,mB] at d4
    refine seg_wrap (l6 d4 (fun yv s8 ⟨y,H8,I8,r8,q8⟩=>?_) fun _ _ z=>z.elim)
    obtain ⟨n,rfl⟩:∃n',n=n'+1:=⟨n - 1,by omega⟩
    refine seg_at (seg_yield rfl rfl rfl (hY _ _ _ _ y yv jR H8 _ _ r8 I8 q8 fun H9 a9 I9 ⟨m',pG,w8⟩=>?_))
    exact U7 rfl (ih m' pG n (i+1) jR H9 a9 a9 (by omega) w8 I9.cc (back I9).1 (back I9).2)
end
section
variable {X:Cx} {tg elt iter:cr} {ifs:List cr} {scope:wn} {pos:ul} {N':List bi} {tn:Nat} {idx:List Nat} {wi:TI} {g:TG} {tt:TT} {te:TE} {c P:ac} {k:Nat}
def Fl (X Y:Cx) (pp:List (ac×im)) (gn:Nat) (C:nG) (Z:Hp->Prop) (n:Nat) (H:Hp) (s:ar):Prop:=
 ∃τ pl gs,Inv Y (pp++pl) τ H s/\s.gens[gn]?=some gs/\∀a9,Inv Y (pp++pl) τ H a9->gs.Goes (model X.prog X.w) X.A.in4.in1 (fun _ _ r aw=>r=.ok .next/\∃τ H,Inv Y pp τ H aw/\Z H)
  (fun _ _ v s jh=>∃y τ H pl N,RelV y v/\Inv Y (pp++pl) τ H s/\C y H N/\∀H5 a9,Inv Y (pp++pl) τ H5 a9->N H5->jh (.send .none) a9) n (.send .none) a9
theorem Nb {pins:List (ac×im)} {σ:St} {J:It} {H3:Hp} {a:ac} {s5:ar} {Y:Cx} {it:ac} {fp:List ac} {bO:Nat->gc->Prop} {gn:Nat} {pp:List (ac×im)} {C:nG} {Z:Hp->Prop} {n:Nat} {H:Hp} {s:ar} {E:al->ar->Prop}
  (hr:bB (k+1) X.A) (G:uy X pins σ N' scope tn idx k elt tg iter ifs pos J H3 a s5 Y it fp bO gn pp) (h:Fl X Y pp gn C Z n H s) :
  wpAny (model X.prog X.w) X.A.in4 (pyNext (.ref a)) (fun r s1=>match r with
   |none=>∃H1,Inv X pins σ H1 s1/\Z H1
   |some v=>∃y τ H1 pl N,RelV y v/\Inv Y (pp++pl) τ H1 s1/\C y H1 N/\∀H2 s2,Inv Y (pp++pl) τ H2 s2->s2.gens=s1.gens->N H2->∃m,m<n/\Fl X Y pp gn C Z m H2 s2) E s :=by
 obtain ⟨τ,pl,gs,I6,Jv,pI⟩:=h
 refine wpAny_pyNext_genexpQ (A:=X.A.in4) (P:=fun _ _ aw=>∃τ H,Inv Y pp τ H aw/\Z H) hr.hd I6.nolimit hr.depth (G.isg I6.cc) Jv (pI _ (I6.ka ⟨rfl,rfl,fZ I6.bare rfl⟩)) (fun v s1 Ar hb hv=>?_) (fun s1 hp h' hk=>?_)
 ·obtain ⟨y,xq,H1,OI,N,r1,I1,c1,z2⟩:=hv
  have uB:k4 s1 (s1.setGen gn Ar):=⟨rfl,rfl,fZ I1.bare hb⟩
  refine ⟨y,xq,H1,OI,N,r1,I1.ka uB,c1,fun H2 s2 I2 e2 n2=>?_⟩
  have z3:=z2 H2 s2 I2 n2
  cases n with
  |zero=>exact z3.elim
  |succ m=>exact ⟨m,EU _,xq,OI,Ar,I2,by rw [e2];exact rX (G.gsz I1.cc),fun a9 I3=>z2 H2 a9 I3 n2⟩
 ·obtain ⟨xq,H1,I1,z1⟩:=hp
  have I2:=I1.kept (t':=s1.toks) hk
  have Jw:k4 {s1 with heap:=h'} {s1.setGen gn .finished with heap:=h'}:=⟨rfl,rfl,fZ (s:=s1) I1.bare rfl⟩
  exact ⟨H1,G.out (I2.ka Jw),z1⟩
theorem Ay {pins:List (ac×im)} {σ:St} {J:It} {H3:Hp} {a:ac} {s5:ar} {Y:Cx} {it:ac} {fp:List ac} {bO:Nat->gc->Prop} {gn:Nat} {pp:List (ac×im)} {C:nG} {Z:Hp->Prop} {W:Nat->Nat->St->Hp->Prop} {m0:Nat} {H4:Hp} {s6:ar}
  (G:uy X pins σ N' scope tn idx k elt tg iter ifs pos J H3 a s5 Y it fp bO gn pp) (hg:dX X N' scope k fun Y=>PG Y tg g) (ht:dX X N' scope k fun Y=>ib Y ifs tt) (he:dX X N' scope k fun Y=>PE Y elt te)
  (I6:Inv Y (pp++ia fp s5.heap) (bW tn idx σ) H4 s6) (RQ:s6.gens=s5.gens) (turn:tGenV J g tt te C Z W) (w0:W 0 m0 (bW tn idx σ) H4):Fl X Y pp gn C Z (m0+1) H4 s6 :=by
 have yC:=Ax (A2:=X.A.in4.in1) (pp:=pp) (R:=fun _ _ r aw=>r=.ok .next/\∃τ H,Inv Y pp τ H aw/\Z H)
  (Yp:=fun _ _ v s jh=>∃y τ H pl N,RelV y v/\Inv Y (pp++pl) τ H s/\C y H N/\∀H5 a9,Inv Y (pp++pl) τ H5 a9->N H5->jh (.send .none) a9) G.A G.xe G.calm G.co G.T (G.blk _ hg) (G.blk _ ht) (G.blk _ he) G.stat turn
  (fun n s₀ aw τ H J z=>⟨rfl,τ,H,J,z⟩) (fun n s₀ s jh y v τ H pl N r J z1 z2=>⟨y,τ,H,pl,N,r,J,z1,z2⟩)
 have hP:=G.prog
 have hW:=G.w
 have lV:=G.st
 rw [<- RQ] at lV
 refine ⟨_,_,_,I6,lV,fun a9 I7=>⟨rfl,?_⟩⟩
 have As:bO 0 a9.heap:=G.T.keep _ _ _ G.tn0 fun b hb o e=>(I7.pin (b,o) (hX _ (hX _ (cE hb e)))).1
 have RT:∀b∈fp,H4 b=none:=fun b hb=>by
  obtain ⟨o,e,d⟩:=G.T.obj _ _ G.tn0 b hb
  exact (I7.pin (b,o) (hX _ (hX _ (cE hb e)))).2.1
 have q:=rY (iter:=iter) (ifs:=ifs) (scope:=scope) (pos:=pos) (elt:=elt) G.T As (yC m0 (m0+1) 0 _ _ a9 a9 (EU _) w0 I7.cc As RT)
 rw [hP,hW] at q
 exact q
def takeIn (S:ac):nG:=fun y H N=>∃ys,H S=some (.lst ys)/\ys.length<sizeLine/\N (upd H S (.lst (ys++[y])))
theorem wx {pins:List (ac×im)} {σ:St} {J:It} {H3:Hp} {a:ac} {s5:ar} {Y:Cx} {it:ac} {fp:List ac} {bO:Nat->gc->Prop} {gn:Nat} {pp:List (ac×im)} {Z:Hp->Prop} {A:l4} {R':Wn->ar->Prop} {S:ac} {res:al}
  (hr:bB (k+1) X.A) (G:uy X pins σ N' scope tn idx k elt tg iter ifs pos J H3 a s5 Y it fp bO gn pp)
  (iF:∀{Q:Option al->ar->Prop} {E:al->ar->Prop} {s:ar},wpAny (model X.prog X.w) X.A.in4 (pyNext (.ref a)) Q E s->wpAny (model X.prog X.w) A.in1 (pyNext (.ref a)) Q E s)
  (hR:∀s H,Inv X pins σ H s->Z H->R' (.ok (.ret res)) s) :
  ∀(n:Nat) (H:Hp) (s:ar),Fl X Y pp gn (takeIn S) Z n H s->codeAny (model X.prog X.w) A (.builtin "list.extend.loop" ⟨[.ref S,.ref a,res],[]⟩) R' s :=by
 intro n
 induction n using TD with
 |ind n ih=>
  intro H s h
  refine ze F.entry_extend_loop ?_
  rw [u8 Tk _]
  show wpAny _ A.in1 (pyNext (.ref a)>>=_) _ _ s
  refine ap (iF (l6 (Nb (E:=fun _ _=>False) hr G h) (fun r s1 q=>?_) fun _ _ z=>z.elim))
  cases r with
  |none=>
   obtain ⟨H1,I1,z1⟩:=q
   exact br (hR s1 H1 I1 z1)
  |some v=>
   obtain ⟨y,τ,H1,pl,N,r1,I1,⟨ys,hS,hz,n1⟩,nx⟩:=q
   obtain ⟨_,its,c,rv,hl,e⟩:=I1.mw hS
   show wpAny _ A.in1 (updateSeq S (·.push v)>>=_) _ _ _
   have hP:=G.prog
   have hW:=G.w
   obtain ⟨m,hm,h2⟩:=nx _ _ (I1.qH (its':=its++[v]) (f:=(·.push v)) (t':=s1.toks) hS e (by simp) (rv.append (.cons r1 .nil)) (by rw [tz,LB];omega)) rfl n1
   refine ap (OP e rfl (br ⟨DD Tk _,ih m hm _ _ h2⟩) (by rw [db];omega) (by show (its.toArray.push v).size<=sizeLine+1;rw [We,db];omega))
theorem yD {pins:List (ac×im)} {σ:St} {J:It} {H3:Hp} {a:ac} {s5:ar} {Y:Cx} {it:ac} {fp:List ac} {bO:Nat->gc->Prop} {gn:Nat} {pp:List (ac×im)} {A:l4} {E:al->ar->Prop} {QL:List al->ar->Prop} {R:List V->Hp->Prop}
  (hr:bB (k+1) X.A) (G:uy X pins σ N' scope tn idx k elt tg iter ifs pos J H3 a s5 Y it fp bO gn pp) (hg:dX X N' scope k fun Y=>PG Y tg g) (ht:dX X N' scope k fun Y=>ib Y ifs tt) (he:dX X N' scope k fun Y=>PE Y elt te)
  (iF:∀{Q:Option al->ar->Prop} {E:al->ar->Prop} {s:ar},wpAny (model X.prog X.w) X.A.in4 (pyNext (.ref a)) Q E s->wpAny (model X.prog X.w) A.in1 (pyNext (.ref a)) Q E s)
  (hW:∀S,H3 S=none->∃W:Nat->Nat->St->Hp->Prop,(∃m,W 0 m (bW tn idx σ) (upd H3 S (.lst [])))/\tGenV J g tt te (takeIn S) (fun H=>∃ys,H S=some (.lst ys)/\R ys H) W)
  (hQ:∀us ys s H,Inv X pins σ H s->Vals ys us->ys.length<=sizeLine->R ys H->QL us s):wpAny (model X.prog X.w) A (collect (.ref a)) QL E s5 :=by
 have hT:∀{s':ar},s'.heap.IsGen a gn->s'.TypeIs (.ref a) "generator" := fun h=>h.typeIs
 obtain ⟨W,⟨m0,w0⟩,turn⟩:=hW s5.heap.objs.size (G.inv.hok.fresh (cb _))
 have I0:=G.inv.pinned (G.stat G.fr) (G.T.obj _ _ G.tn0)
 have RU:s5.heap.objs.size≠a:=fun e=>by
  obtain ⟨o,_,_,ho,_⟩:=G.isg G.inv
  have:=ge ho
  rw [e] at this
  exact LM _ this
 unfold collect
 refine ap (Vt (ze U8 ?_))
 rw [u8 U9 _]
 show wpAny _ A.in1 (newList []>>=fun l=>again (.builtin "list.__iadd__" ⟨[l,.ref a],[]⟩)) _ _ s5
 refine ap (v6 ?_)
 refine br ⟨DD Mn _,ze VN ?_⟩
 rw [u8 Mn _]
 have I1:=I0.Jj (ys:=[]) (its:=[]) (t':=s5.toks) .nil (qr _)
 have T1:=hT (G.isg I1.cc)
 show wpAny _ A.in1 (B0 (.ref s5.heap.objs.size) (.ref a) (.ref s5.heap.objs.size)) _ _ _
 unfold B0
 refine ap (Vi T1 ?_)
 have h1:NJ (.ref s5.heap.objs.size) (.ref a)=false :=by simp [NJ,RU]
 have h2:(AL "generator" == AL "list")=false :=by decide
 have h3:(AL "generator" == AL "tuple")=false :=by decide
 simp only [h1,h2,h3,Bool.or_false,lp,if_false]
 refine ap (wpAny_pyIter_gen (G.isg I1.cc) ?_)
 refine ap (Db ?_)
 unfold Sm
 refine ap (Vj T1 F.gen_no_len ?_)
 show wpAny _ A.in1 (specialOf (ma a) (rf "__length_hint__")>>=_) _ _ _
 refine ap (Vj T1 F.gen_no_hint ?_)
 refine br ?_
 show wpAny _ A.in1 (rule "list.extend.makes-room" >>= fun _=>u4.List.listTouch (.ref s5.heap.objs.size)>>=fun _=>
  again (.builtin "list.extend.loop" ⟨[.ref s5.heap.objs.size,.ref a,.ref s5.heap.objs.size],[]⟩)) _ _ _
 refine ap (ET ?_)
 obtain ⟨_,Qx,c1,RV,jU,nH⟩:=I1.mw ay
 have e1:Qx=[] :=by cases RV;rfl
 subst e1
 refine ap ?_
 show wpAny _ A.in1 (updateSeq s5.heap.objs.size (·.push .none)>>=fun _=>updateSeq s5.heap.objs.size (·.pop)) _ _ _
 refine ap (OP nH rfl ?_)
 have I2:=I1.qH (ys:=[.av]) (its':=[.none]) (f:=(·.push .none)) (t':=s5.toks) ay nH (by simp) (.cons rfl .nil) (by decide)
 have tQ:=BB (IN (·.push zw)) nH rfl
 refine OP tQ rfl ?_
 obtain ⟨_,cG,c2,gr,gN,JF⟩:=I2.mw ay
 have I3:=I2.qH (ys:=[]) (its':=[]) (f:=(·.pop)) (t':=s5.toks) ay JF (by
  cases gr with
  |cons r t=>cases t;simp) .nil (qr _)
 rw [xg,xg] at I3
 refine br ⟨DD Tk _,wx (Z:=fun H=>∃ys,H s5.heap.objs.size=some (.lst ys)/\R ys H) hr G iF (fun s H I ⟨ys,hS,q⟩=>?_) (m0+1) _ _ (Ay G hg ht he I3 rfl turn w0)⟩
 obtain ⟨hz,its,c,rv,hl,e⟩:=I.mw hS
 show wpAny _ A (load s5.heap.objs.size>>=_) _ _ s
 refine ap (Wr e ?_)
 refine br ?_
 have:=hQ its ys s H I rv hz q
 simpa using this
end
section
variable {X:Cx} {tg elt iter:cr} {ifs:List cr} {scope:wn} {pos:ul} {N':List bi} {tn:Nat} {idx:List Nat} {wi:TI} {g:TG} {tt:TT} {te:TE} {c P:ac} {k:Nat}
def Fm (P:ac) (tn:Nat) (idx:List Nat) (wi:TI) (g:TG) (tt:TT) (te:TE):TE:=fun σ H Q=>Fh P wi (fun J H1=>∀S,H1 S=none->∃W:Nat->Nat->St->Hp->Prop,(∃m,W 0 m (bW tn idx σ) (upd H1 S (.lst []))) /\
 tGenV J g tt te (takeIn S) (fun H2=>∃ys,H2 S=some (.lst ys)/\∀l,H2 l=none->Q (.ref l) (upd H2 l (.tup ys))) W) σ H
theorem mF {Q₁:al->ar->Prop} {QL:List al->ar->Prop} {prog:c8} {w:ff} {A:l4} {E:al->ar->Prop} {s:ar} {I:ac} (hT:s.TypeIs (.ref I) "generator")
  (W:wpAny (model prog w) A.in1 (collect (.ref I)) QL E s) (hsz:∀us s',QL us s'->us.length<=sizeLine)
  (h:∀us s',QL us s'->Q₁ (.ref s'.heap.objs.size) {s' with heap:=s'.heap.push {cls:=.type "tuple",data:=.seq us.toArray}}) :
  codeAny (model prog w) A (.call (.builtin "tuple.__new__") ⟨[.type "tuple",.ref I],[]⟩) (wants Q₁ E) s :=by
 refine Vh ?_
 show wpAny _ A.in1 (do checkBuiltinCall "tuple.__new__" ⟨[.type "tuple",.ref I],[]⟩;again (.builtin "tuple.__new__" ⟨[.type "tuple",.ref I],[]⟩)) _ _ s
 refine ap (Vy (F.newCall_tuple_1 _) (br ⟨DD F.plain_tuple_new _,ze F.entry_tuple_new ?_⟩))
 rw [u8 F.plain_tuple_new _]
 have qN:=sub_tuple_self
 have T5:=init_tuple_lookup
 have Ur:=madeHere_tuple
 wp_walk using Vi hT,l6 W
 ·intro us s' hq
  show wpAny _ _ (u4.Tuple.tupleExact us.toArray>>=fun v=>ret v) _ _ _
  unfold u4.Tuple.tupleExact
  refine ap (v6 ?_ (by show us.toArray.size<=sizeLine;rw [db];exact hsz us s' hq))
  exact br (h us s' hq)
 ·exact fun _ _ z=>z
theorem wy {p kb:ul} (hr:bB (k+1) X.A) (hc:X.calm=true) (B:aW X.N X.env.scope scope N' tn idx)
  (h0:scope.names.lookup (".0" : bi)=some .local) (jT:scope.isCoroutine=false) (dF:X.env.code=.ref c) (hd:nw X.base c P) (de:∃bm ob,UM X.base mainGlobals X.mg bm ob)
  (uA:Gl X "tuple") (hm:X.mg "tuple" = none) (hi:PI X tg iter wi) (hg:dX X N' scope k fun Y=>PG Y tg g) (ht:dX X N' scope k fun Y=>ib Y ifs tt) (he:dX X N' scope k fun Y=>PE Y elt te)
  (hs:∀x,genFold iter X.env x=pure x :=by intro _;rfl):PE X (.Call (.Name "tuple" p) [dn elt tg iter ifs scope kb] [] pos) (Fm P tn idx wi g tt te) :=by
 refine ⟨?_⟩
 intro pins s σ H Q I h
 refine BY (fw I uA hm ji ?_)
 refine zn ?_ rfl rfl
 show wpAny _ _ (spliced ((false,eval (dn elt tg iter ifs scope kb) X.env)::[])) _ _ s
 refine JJ (uz hr hc B h0 jT dF hd de hi hs I h ?_)
 intro J H3 a s5 Y it fp bO gn pp G hW
 refine Mc ?_
 have hT:s5.TypeIs (.ref a) "generator" := (G.isg G.inv).typeIs
 refine callType_codes (Q₁:=fun obj aw=>aw.TypeIs obj "tuple" /\ EP X pins σ Q obj aw) F.called_tuple (F.typeCall_tuple_1 _) F.entry_object_init
  (mF (QL:=fun us s'=>us.length<=sizeLine/\∃ys H',Inv X pins σ H' s'/\Vals ys us/\∀l,H' l=none->Q (.ref l) (upd H' l (.tup ys))) hT
   (yD hr G hg ht he (fun h=>V6 h) hW fun us ys s' H' I' rv hz q=>⟨by rw [<- rv.length];exact hz,ys,H',I',rv,q⟩) (fun us s' q=>q.1) fun us s' ⟨hl,ys,H',I',rv,q⟩=>⟨⟨_,dL _ rfl,rfl⟩,?_⟩) fun obj aw jg=>?_
 ·have I2:Inv X pins σ (upd H' s'.heap.objs.size (.tup ys)) {s' with heap:=s'.heap.push {cls:=.type "tuple",data:=.seq us.toArray}}:=
   I'.laid (t':=s'.toks) (fun b o e=>bn _ e) (cb _) (show ObjOk X.prog X.w _ _ _ (.tup ys) from ⟨by rw [rv.length];exact hl,us,rv,j9.new _ _⟩)
  exact ⟨.ref s'.heap.objs.size,_,I2,rfl,q _ (I'.hok.fresh (cb _))⟩
 ·exact ⟨jg.1,F.args_object_init_2 obj _,object_init_meets F.called_tuple.init.lookup F.called_tuple.made (by decide) X.prog X.w X.A.in1 _ aw ⟨jg.1,rfl,jg.2⟩⟩
end
def kn (xs:Array Nat):Prop:=xs.toList.Pairwise (· < ·)
theorem pN {xs:Array Nat} (h:kn xs) {i j:Nat} (oi:i<j) (hj:j<xs.size):xs[i]<xs[j] :=by
 have:=MW.mp h i j (by simpa using Nat.lt_trans oi hj) (by simpa using hj) oi
 simpa using this
theorem below_go {xs:Array Nat} {v:Nat} (h:kn xs):∀(fuel lo hi:Nat),hi - lo<=fuel->lo<=hi->hi<=xs.size->(∀i (eT:i<xs.size),i<lo->xs[i]<v)->(∀i (eT:i<xs.size),hi<=i->v<=xs[i])->
  UV xs v fuel lo hi<=xs.size/\(∀i (eT:i<xs.size),i<UV xs v fuel lo hi->xs[i]<v)/\∀i (eT:i<xs.size),UV xs v fuel lo hi<=i->v<=xs[i]
 |0,lo,hi,hf,h1,h2,ha,hb=>by
          have e:lo=hi :=by omega
          subst e
          exact ⟨h2,ha,hb⟩
 |fuel+1,lo,hi,hf,h1,h2,ha,hb=>by
          unfold UV
          by_cases bb:lo<hi
          ·rw [if_pos bb]
           dsimp only
           have hm:(lo+hi) / 2<xs.size :=by omega
           have e:xs.getD ((lo+hi) / 2) v=xs[(lo+hi) / 2] :=by simp [Array.getD,hm]
           rw [e]
           by_cases hc:xs[(lo+hi) / 2]<v
           ·rw [if_pos hc]
            refine below_go h fuel _ _ (by omega) (by omega) h2 (fun i eT hl=>?_) hb
            by_cases ei:i=(lo+hi) / 2
            ·subst ei;exact hc
            ·exact Nat.lt_trans (pN h (show i<(lo+hi) / 2 by omega) hm) hc
           ·rw [if_neg hc]
            refine below_go h fuel _ _ (by omega) (by omega) (by omega) ha (fun i eT hl=>?_)
            by_cases ei:i=(lo+hi) / 2
            ·subst ei;exact U2 hc
            ·exact uu (U2 hc) (Re (pN h (show (lo+hi) / 2<i by omega) eT))
          ·rw [if_neg bb]
           have e:lo=hi :=by omega
           subst e
           exact ⟨h2,ha,hb⟩
theorem oG {xs:Array Nat} (v:Nat) (h:kn xs):ut xs v<=xs.size/\(∀i (eT:i<xs.size),i<ut xs v->xs[i]<v)/\∀i (eT:i<xs.size),ut xs v<=i->v<=xs[i]:=
 below_go h _ _ _ (by omega) (qr _) (cb _) (fun i _ z=>absurd z (Nat.not_lt_zero _)) (fun i z z'=>absurd z (Ws.mpr z'))
theorem yE {xs:Array Nat} {v:Nat} (h:kn xs) (hn:xs[ut xs v]?≠some v):kn (r6.insertAt xs (ut xs v) v) :=by
 obtain ⟨b0,b1,b2⟩:=oG v h
 generalize ut xs v=p at *
 unfold kn r6.insertAt
 have e:((xs.extract 0 p).push v++xs.extract p xs.size).toList=xs.toList.take p++[v]++xs.toList.drop p :=by
  simp
  exact Pe (by simp)
 rw [e]
 have hl:∀y∈xs.toList.take p,y<v:=fun y hy=>by
  obtain ⟨i,hi,rfl⟩:=List.mem_take_iff_getElem.mp hy
  have iG:i<p/\i<xs.size :=by simpa [Nat.lt_min] using hi
  simpa using b1 i iG.2 iG.1
 have hr:∀y∈xs.toList.drop p,v<y:=fun y hy=>by
  obtain ⟨i,hi,rfl⟩:=List.mem_drop_iff_getElem.mp hy
  have iG:p+i<xs.size :=by rw [Nat.add_comm];simpa using hi
  have h1:v<=xs[p+i]:=b2 (p+i) iG (Nat.le_add_right _ _)
  have h2:v≠xs[p+i]:=fun z=>by
   by_cases RW:i=0
   ·subst RW
    exact hn (by rw [Nat.add_zero] at iG;rw [CS iG];simpa using z.symm)
   ·have q:=pN h (show p<p+i by omega) iG
    have q2:=b2 p (by omega) (cb _)
    omega
  have:xs.toList[p+i]'(by simpa using iG)=xs[p+i] :=by simp
  rw [this]
  omega
 have hp:=List.take_append_drop p xs.toList
 have RX:(xs.toList.take p++xs.toList.drop p).Pairwise (· < ·) :=by rw [hp];exact h
 obtain ⟨q1,q2,q3⟩:=Vk.mp RX
 refine Vk.mpr ⟨Vk.mpr ⟨q1,List.pairwise_singleton _ _,fun a ha b hb=>?_⟩,q2,fun a ha b hb=>?_⟩
 ·rw [kw] at hb;subst hb;exact hl a ha
 ·rcases zd.mp ha with ha|ha
  ·exact q3 a ha b hb
  ·rw [kw] at ha;subst ha;exact hr b hb
structure bX (w:ff) (t:r6):Prop where
 dum:t.dummies=#[]
 ris:kn t.place
 led:t.led = !w.params.followText "set-order"
theorem Az (n:Nat):kn (Array.range n) :=by
 unfold kn
 rw [Array.toList_range]
 exact Pf
theorem bX.standIn {w:ff} {t:r6} (h:bX w t) (n:Nat):bX w (t.standIn n):=⟨rfl,Az n,h.led⟩
theorem bX.orStandIn {w:ff} {t:r6} (h:bX w t) (n:Nat):bX w (t.orStandIn n) :=by
 unfold r6.orStandIn
 split
 ·exact h
 ·exact h.standIn n
theorem xt (j:Nat):r6.has #[] j=false :=by
 unfold r6.has
 have:(#[]:Array Nat)[ut #[] j]?=none :=by simp
 rw [this]
 rfl
theorem uH {w:ff} {t:r6} (h:bX w t) {hashAt:Nat->Int} {hh:Int} {j:Nat} {d:Option Nat}:∀(fuel:Nat) (p:r6.Probe),p.dummy=none->VO t hashAt hh fuel p=some (.empty j d)->t.slot j=.empty/\d=none
 |0,p,_,e=>by simp [VO] at e
 |fuel+1,p,hp,e=>by
          unfold VO at e
          have Qy:∀p:r6.Probe,(t.advance p).dummy=p.dummy:=fun p=>by
           unfold r6.advance
           split <;> rfl
          cases hs:t.slot p.j with
          |empty=>
           rw [hs] at e
           have e':=ij e
           injection e' with e1 e2
           exact ⟨by rw [<- e1];exact hs,by rw [<- e2];exact hp⟩
          |dummy=>
           exfalso
           unfold r6.slot at hs
           dsimp only at hs
           rw [h.dum,xt] at hs
           split at hs <;> simp at hs
          |live i=>
           rw [hs] at e
           dsimp only at e
           split at e
           ·simp at e
           ·exact uH h fuel _ (by rw [Qy];exact hp) e
theorem yF {w:ff} {t:r6} (h:bX w t) {j:Nat} (e:t.slot j=.empty):t.place[ut t.place j]?≠some j:=fun z=>by
 unfold r6.slot at e
 dsimp only at e
 rw [z] at e
 simp at e
theorem bX.put {w:ff} {t:r6} (h:bX w t) {j:Nat} (e:t.slot j=.empty):bX w (t.put j).1 :=by
 unfold r6.put
 refine ⟨?_,yE h.ris (yF h e),h.led⟩
 show (if r6.has t.dummies j then _ else t.dummies)=#[]
 rw [h.dum,xt]
 rfl
theorem bX.layNew {w:ff} {t:r6} (h:bX w t) (es:Array (Int×al)) (hh:Int) (x:al):bX w (layNew t es hh x).2.1 :=by
 unfold PySem.layNew
 split
 ·rename_i slot oH hf
  unfold r6.freeSlot at hf
  refine (bX.put h ?_).orStandIn _
  split at hf
  ·rename_i j dummy hp
   obtain ⟨e1,e2⟩:=uH h _ _ rfl hp
   subst e2
   have:=ij hf
   injection this with z1 _
   rw [<- z1]
   exact e1
  ·cases hf
 ·exact h.standIn _
theorem Dx {α:Type} (f:Nat->Option α) (n:Nat):kn (((l9 n).filterMap fun j=>(f j).map (j,·)).map (·.1)).toArray :=by
 unfold kn
 have e:(((l9 n).filterMap fun j=>(f j).map (j,·)).map (·.1)).toArray.toList=(l9 n).filter fun j=>(f j).isSome :=by
  rw [List.toList_toArray]
  induction l9 n with
  |nil=>rfl
  |cons a l ih=>
   cases hf:f a with
   |none=>simp [EO,hf,ih]
   |some b=>simp [EO,hf,ih]
 rw [e]
 exact Wt.filter _ Pf
theorem bX.Nc {w:ff} {t:r6} (h:bX w t) (es:Array (Int×al)) (wanted:Nat):bX w (relayAll t es wanted).2.1 :=by
 unfold relayAll
 split
 ·rename_i t' order hr
  dsimp only
  split
  ·unfold r6.relaid r6.laid at hr
   simp only [Option.bind_eq_bind,Option.bind_eq_some_iff,Option.pure_def] at hr
   obtain ⟨owner,_,hr⟩:=hr
   have:=ij hr
   injection this with z1 _
   subst z1
   exact ⟨rfl,Dx (fun j=>owner.getD j none) _,h.led⟩
  ·exact h.standIn _
 ·exact h.standIn _
theorem bX.Dy {w:ff} {t:r6} (h:bX w t) (b:Bool):bX w (if b=true then t else {t with plain:=false}) :=by
 split
 ·exact h
 ·exact ⟨h.dum,h.ris,h.led⟩
def dz (e:Int×al):Int:=match e.2 with | .int i _=>i|_=>0
def cq (P:c8) (w:ff) (h:gc) (a:ac) (ns:List Int):Prop:=
 ∃o es ep t,h.get? a=some o/\o.ExactSet/\o.data=.set es ep t/\Vu (intKind P w) es.toList/\(es.toList.map dz).Perm ns/\ns.Nodup/\es.size<scanBound/\t.fits es.size=true/\bX w t
theorem cq.b9 {P:c8} {w:ff} {h h':gc} {a:ac} {ns:List Int} (x:cq P w h a ns) (k:∀o,h.get? a=some o->h'.get? a=some o):cq P w h' a ns:=
 let ⟨o,es,ep,t,e,r⟩:=x;⟨o,es,ep,t,k o e,r⟩
def oI (P:c8) (w:ff) (a:ac) (ns:List Int):HO:=.ext fun h=>cq P w h a ns
def dH (ns:List Int) (m:Int):List Int:=if m∈ns then ns else ns++[m]
theorem wz {P:c8} {w:ff} {es:List (Int×al)} (h:Vu (intKind P w) es) {k:Int}:(∃e∈es,(intKind P w).is k e.2=true) ↔ k∈es.map dz :=by
 constructor
 ·rintro ⟨e,he,hk⟩
  obtain ⟨t,e2⟩:=UT (k:=k) (v:=e.2) hk
  exact sw.mpr ⟨e,he,by unfold dz;rw [e2]⟩
 ·intro hm
  obtain ⟨e,he,q⟩:=sw.mp hm
  obtain ⟨⟨k',ou,_⟩,_⟩:=h e he
  obtain ⟨t,e2⟩:=UT (k:=k') (v:=e.2) ou
  have:k'=k :=by rw [<- q];unfold dz;rw [e2]
  exact ⟨e,he,this▸ou⟩
section
variable {P:c8} {w:ff} {A:l4} {E:al->ar->Prop} {s:ar}
theorem pO {h:gc} {a:ac} {o:im} {es:Array (Int×al)} {ep:Nat} {t:r6} (ho:h.get? a=some o) (hex:o.ExactSet) (hd:o.data=.set es ep t)
  {h8:Array (Int×al)} {t':r6} {ns:List Int} (jV:Vu (intKind P w) h8.toList) (hp:(h8.toList.map dz).Perm ns) (hn:ns.Nodup) (hb:h8.size<scanBound) (hf:t'.fits h8.size=true) (ht:bX w t') :
  (h.update a (V1 h8 t')).get? a=some {o with data:=.set h8 (ep+1) t'}/\cq P w (h.update a (V1 h8 t')) a ns :=by
 have hg:(h.update a (V1 h8 t')).get? a=some {o with data:=.set h8 (ep+1) t'}:=by
  have:=BB (V1 h8 t') ho (by rw [putSet_of h8 t' hd];rfl)
  rw [putSet_of h8 t' hd] at this;exact this
 exact ⟨hg,_,h8,ep+1,t',hg,hex,rfl,jV,hp,hn,hb,hf,ht⟩
theorem uI {g:Bool->VC Unit} (hg:∀(b:Bool) (aw:ar) (Q':Unit->ar->Prop),Q' () aw->wpAny (model P w) A (g b) Q' E aw)
  {a:ac} {o:im} {es:Array (Int×al)} {ep:Nat} {t:r6} (ho:s.heap.get? a=some o) (hex:o.ExactSet) (hd:o.data=.set es ep t)
  {ez:Array (Int×al)} {t2:r6} {ns:List Int} (uJ:Vu (intKind P w) ez.toList) (AA:(ez.toList.map dz).Perm ns) (hn:ns.Nodup)
  (xu:ez.size<scanBound) (RY:t2.fits ez.size=true) (OJ:bX w t2) {oH:Bool} {R:Option Bool->ar->Prop}
  (h:∀h',u7 a s.heap h'->cq P w h' a ns->R (some true) {s with heap:=h'}) :
  wpAny (model P w) A (do
    storeSet a ez t2
    if (!oH && t2.tooFull)=true then do
      g (relayAll t2 ez (NE ez.size)).2.2
      storeSet a (relayAll t2 ez (NE ez.size)).1 (relayAll t2 ez (NE ez.size)).2.1
      pure (some true)
     else pure (some true)) R E s :=by
 refine ap (wpAny_storeSet_of ho hd ?_ (VP xu))
 obtain ⟨OM,AB⟩:=pO (P:=P) (w:=w) ho hex hd uJ AA hn xu RY OJ
 have JG:=EQ s.heap a (V1 ez t2)
 split
 ·have hp:=relayAll_perm t2 ez (NE ez.size)
  have uo:=relayAll_fits t2 ez (NE ez.size)
  have mD:=OJ.Nc ez (NE ez.size)
  generalize relayAll t2 ez (NE ez.size)=Rl at hp uo mD ⊢
  obtain ⟨OO,t3,T6⟩:=Rl
  dsimp only at hp uo mD ⊢
  have hsz:OO.size=ez.size :=by rw [<- mT,hp.length_eq,mT]
  have pP:OO.size<scanBound :=by rw [hsz];exact xu
  refine ap (hg _ _ _ (ap (wpAny_storeSet_of OM rfl ?_ (VP pP))))
  obtain ⟨_,JH⟩:=pO (P:=P) (w:=w) OM hex rfl (uJ.perm hp) ((hp.map dz).trans AA) hn pP uo mD
  exact br (h _ (JG.trans (EQ _ a _)) JH)
 ·exact br (h _ JG AB)
theorem AD {a:ac} {ns:List Int} {m:Int} {tk:Vc} {Q:Bool->ar->Prop} (hS:cq P w s.heap a ns) (pH:ns.length+1<scanBound)
  (h:∀h',u7 a s.heap h'->cq P w h' a (dH ns m)->Q (decide (m ∉ ns)) {s with heap:=h',toks:=s.toks+1}):wpAny (model P w) A (setAdd a (.int m tk)) Q E s :=by
 unfold setAdd
 refine Db (ap ((intKind P w).pyHash (k:=m) (intKind_is _ _ _ _) ?_))
 have yp:(intKind P w).is m (.int m tk)=true:=intKind_is _ _ _ _
 obtain ⟨o,es,ep,t,ho,hex,hd,jV,hp,hn,hb,hf,ht⟩:=hS
 have k6:∀k,(∃e∈es.toList,(intKind P w).is k e.2=true) ↔ k∈ns:=fun k=>(wz jV).trans hp.mem_iff
 have hlen:es.size=ns.length :=by rw [<- mT,<- hp.length_eq,ci]
 unfold setAddHashed setAddHashedIn
 refine Db (ap (PP (s:={s with toks:=s.toks+1}) ho hd hf ?_))
 dsimp only
 rw [byScan_of (x:=.int m tk) rfl hb jV]
 simp only [↓reduceIte]
 unfold setAddByScan
 refine ap (ap (ET (ap (wpAny_setScan_of yp ho hd hf jV ?_))))
 cases hr:List.findIdx? (fun e=>(intKind P w).is m e.2) es.toList with
 |some j=>
  dsimp only
  obtain ⟨hj,JI,_⟩:=List.findIdx?_eq_some_iff_getElem.mp hr
  have hm:m∈ns:=(k6 m).mp ⟨es.toList[j],mf hj,JI⟩
  have:=h s.heap (u7.refl a s.heap) (by unfold dH;rw [if_pos hm];exact ⟨o,es,ep,t,ho,hex,hd,jV,hp,hn,hb,hf,ht⟩)
  rw [decide_eq_false (fun z=>z hm)] at this
  exact br (br this)
 |none=>
  dsimp only
  have hm:m ∉ ns:=fun z=>by
   obtain ⟨e,he,q⟩:=(k6 m).mpr z
   have:=List.findIdx?_eq_none_iff.mp hr e he
   rw [q] at this;cases this
  have nI:=layNew_perm t es ((intKind P w).hash m) (.int m tk)
  have pQ:=layNew_fits t es ((intKind P w).hash m) (.int m tk)
  have jk:=ht.layNew es ((intKind P w).hash m) (.int m tk)
  generalize layNew t es ((intKind P w).hash m) (.int m tk)=L at nI pQ jk ⊢
  obtain ⟨ez,t1,oH,Ue⟩:=L
  dsimp only at nI pQ jk ⊢
  rw [Array.toList_push] at nI
  have uJ:Vu (intKind P w) ez.toList:=(jV.push yp rfl).perm nI
  have JK:dH ns m=ns++[m] :=by unfold dH;rw [if_neg hm]
  have AA:(ez.toList.map dz).Perm (dH ns m) :=by
   rw [JK]
   refine (nI.map dz).trans ?_
   rw [wT]
   exact UN.append hp (.refl _)
  have OQ:(dH ns m).Nodup :=by
   rw [JK]
   exact UW.mpr ⟨hn,by simp,fun a ha b hb=>by rw [kw] at hb;rw [hb];exact fun z=>hm (z▸ha)⟩
  have xu:ez.size<scanBound :=by rw [<- mT,nI.length_eq,tz,mT,hlen];simpa using pH
  have JL:∀(b:Bool) (aw:ar) (Q':Unit->ar->Prop),Q' () aw->wpAny (model P w) A (match b with|true=>rule "set.scan.the-table-gave-way" |false=>pure ()) Q' E aw:=
   fun b aw Q' hq=>by cases b <;> first|exact br hq|exact ET hq
  have JM:∀h',u7 a s.heap h'->cq P w h' a (dH ns m)->Q true {s with heap:=h',toks:=s.toks+1}:=by
   intro h' km ko
   have:=h h' km ko
   rw [decide_eq_true hm] at this
   exact this
  refine ap (JL _ _ _ ?_)
  split
  ·refine ap ?_
   rw [hashByValue_scannable 8 (x:=.int m tk) rfl]
   refine br (uI (P:=P) (w:=w) (s:={s with toks:=s.toks+1}) JL ho hex hd uJ AA OQ xu ?_ (jk.Dy _) fun h' km ko=>br (JM h' km ko))
   split
   ·exact pQ
   ·exact r6.fits_plain_off pQ
  ·refine ap (br ?_)
   simp only [↓reduceIte]
   exact uI (P:=P) (w:=w) (s:={s with toks:=s.toks+1}) JL ho hex hd uJ AA OQ xu pQ jk fun h' km ko=>br (JM h' km ko)
theorem yG {ns:List Int} (h:ns.Nodup) (m:Int):(dH ns m).Nodup :=by
 unfold dH
 split
 ·exact h
 ·rename_i hm
  exact UW.mpr ⟨h,by simp,fun a ha b hb=>by rw [kw] at hb;rw [hb];exact fun z=>hm (z▸ha)⟩
theorem Dz {ns:List Int} {m k:Int}:k∈dH ns m ↔ k∈ns\/k=m :=by
 unfold dH
 split
 ·rename_i hm
  exact ⟨.inl,fun h=>h.elim id fun e=>e▸hm⟩
 ·simp
theorem DA {ns:List Int} {m:Int}:(dH ns m).length<=ns.length+1 :=by
 unfold dH
 split
 ·omega
 ·simp
end
def cV (ns:List Int):List Int:=ns.foldl dH []
theorem AF (ns:List Int) (m:Int):cV (ns++[m])=dH (cV ns) m :=by
 unfold cV
 rw [VQ]
 rfl
theorem yH (ns:List Int):(cV ns).Nodup :=by
 unfold cV
 have:∀(l acc:List Int),acc.Nodup->(l.foldl dH acc).Nodup:=fun l=>by
  induction l with
  |nil=>exact fun acc h=>h
  |cons a l ih=>exact fun acc h=>ih _ (yG h a)
 exact this ns [] .nil
theorem DB {ns:List Int} {k:Int}:k∈cV ns ↔ k∈ns :=by
 unfold cV
 have:∀(l acc:List Int),k∈l.foldl dH acc ↔ k∈acc\/k∈l:=fun l=>by
  induction l with
  |nil=>intro acc;simp
  |cons a l ih=>
   intro acc
   rw [Wd,ih,Dz,l3]
   constructor
   ·rintro ((h|h)|h)
    ·exact .inl h
    ·exact .inr (.inl h)
    ·exact .inr (.inr h)
   ·rintro (h|h|h)
    ·exact .inl (.inl h)
    ·exact .inl (.inr h)
    ·exact .inr h
 rw [this]
 simp
theorem uK (ns:List Int):(cV ns).length<=ns.length :=by
 unfold cV
 have:∀(l acc:List Int),(l.foldl dH acc).length<=acc.length+l.length:=fun l=>by
  induction l with
  |nil=>intro acc;simp
  |cons a l ih=>
   intro acc
   rw [Wd,Fa]
   have h1:=ih (dH acc a)
   have h2:=@DA acc a
   omega
 simpa using this ns []
section
variable {P:c8} {w:ff} {A:l4} {R:Wn->ar->Prop} {I:ac} {fp wr:List ac} {G:Array So->Array So->Prop} {n:Nat} {St:Nat->ar->Prop}
theorem DC {vs:List Int} {Pv:Nat->al->Prop} (W:WalksS P w A.in1 I fp wr G vs.length Pv St) (S:ac) (uL:S ∉ fp) (DE:∀(i:Nat) (v:al),Pv i v->∃m t,vs[i]?=some m/\v=.int m t) (hb:vs.length+1<scanBound) :
  ∀(k i:Nat) (s:ar),vs.length - i=k->i<=vs.length->St i s->cq P w s.heap S (cV (vs.take i))->
   (∀s',Moved (S::wr) G s s'->cq P w s'.heap S (cV vs)->R (.ok (.ret .none)) s')->
   codeAny (model P w) A (.builtin "set.update.loop" ⟨[.ref S,.ref I],[]⟩) R s :=by
 have OS:S ∉ wr:=fun h=>uL (W.sub _ h)
 have qN:∀b∈wr,b∈S::wr:=fun b hb=>gl _ hb
 intro k
 induction k with
 |zero=>
  intro i s hk hi lV hS hR
  have iF:i=vs.length :=by omega
  subst iF
  refine ze F.entry_set_update_loop ?_
  rw [u8 US _]
  show wpAny _ A.in1 (pyNext (.ref I)>>=_) _ _ s
  refine ap (W.done s _ _ lV fun s' hm=>?_)
  rw [U3] at hS
  exact br (hR s' (hm.mono qN) (hS.b9 fun o e=>hm.heap S _ OS e))
 |succ k ih=>
  intro i s hk hi lV hS hR
  have bb:i<vs.length :=by omega
  refine ze F.entry_set_update_loop ?_
  rw [u8 US _]
  show wpAny _ A.in1 (pyNext (.ref I)>>=_) _ _ s
  refine ap (W.item i s _ _ bb lV fun v s' hP Qz hm=>?_)
  obtain ⟨m,t,kr,rfl⟩:=DE i v hP
  have ko:cq P w s'.heap S (cV (vs.take i)):=hS.b9 fun o e=>hm.heap S _ OS e
  show wpAny _ A.in1 (holding [VA m t] (setAdd S (.int m t))>>=_) _ _ s'
  have pH:(cV (vs.take i)).length+1<scanBound :=by
   have h1:=uK (vs.take i)
   rw [U1] at h1
   omega
  refine ap (Db (AD ko pH fun h' km JH=>?_))
  have RZ:cq P w h' S (cV (vs.take (i+1))) :=by
   rw [VR,kr]
   show cq P w h' S (cV (vs.take i++[m]))
   rw [AF]
   exact JH
  refine br ⟨DD US _,ih (i+1) _ (by omega) bb (W.frame _ s' _ _ Qz (Do _) fun b hb o e=>?_) RZ fun a9 QB QC=>?_⟩
  ·rw [km.2 b (fun h:b=S=>uL (by rw [<- h];exact hb))];exact e
  ·refine hR a9 (Moved.trans W.gtrans ((hm.mono qN).then_heap (Do _) fun b o hb e=>?_) QB) QC
   rw [km.2 b (fun h:b=S=>hb (by rw [h];exact jp))];exact e
end
theorem sub_tuple_set:isSubtype (.type "tuple") (.type "set")=pure false :=by rw [Vv];kernel_rfl
theorem qO:isSubtype (.type "tuple") (.type "frozenset")=pure false :=by rw [Vv];kernel_rfl
section
variable {P:c8} {w:ff} {A:l4} {E:al->ar->Prop} {s:ar}
abbrev gQ (w:ff):im:={cls:=.type "set",dict:=none,data:=.set #[] 0 (.fresh 0 0 (!w.params.followText "set-order"))}
theorem GD {h:gc}:cq P w (h.push (gQ w)) h.objs.size []:=⟨_,#[],0,_,dL _ rfl,⟨rfl,rfl,rfl⟩,rfl,fun e he=>by simp at he,by simp,by simp,by decide,by rfl,rfl,Wt.nil,rfl⟩
theorem DF (a:al) {Q₁:al->ar->Prop} (h:Q₁ (.ref s.heap.objs.size) {s with heap:=s.heap.push (gQ w)}) :
  codeAny (model P w) A (.call (.builtin "set.__new__") ⟨[.type "set",a],[]⟩) (wants Q₁ E) s :=by
 refine Vh ?_
 show wpAny _ A.in1 (do checkBuiltinCall "set.__new__" ⟨[.type "set",a],[]⟩;again (.builtin "set.__new__" ⟨[.type "set",a],[]⟩)) _ _ s
 refine ap (Vy (F.newCall_set_1 a) (br ⟨DD F.plain_set_new _,ze F.entry_set_new ?_⟩))
 rw [u8 F.plain_set_new _]
 unfold u4.«set.__new__» u4.Frozenset.newClass
 have qN:=sub_set_self
 obtain ⟨hp,g,d,tk,os⟩:=s
 dsimp only
 wp_walk
 refine SI (br ?_)
 dsimp only
 simp only [newObj]
 refine ap (wpAny_alloc (br ?_))
 exact br h
theorem cq.typeIs {h:gc} {a:ac} {ns:List Int} {s:ar} (x:cq P w s.heap a ns):s.TypeIs (.ref a) "set" := let ⟨o,_,_,_,ho,hex,_⟩:=x;⟨o,ho,hex.1⟩
theorem mG {T:String} {l:ac} {itob:im} {vs:List Int} {Pv:Nat->al->Prop} {St:ac->Nat->gc->Prop} {Q:al->ar->Prop} (hh:A.handled=none)
  (hl:∃o,s.heap.get? l=some o) (hT:∀s1:ar,(∀o,s.heap.get? l=some o->s1.heap.get? l=some o)->s1.TypeIs (.ref l) T) (h1:isSubtype (.type T) (.type "set")=pure false) (h2:isSubtype (.type T) (.type "frozenset")=pure false) (h3:(AL T==AL "dict")=false)
  (hit:∀(A':l4) (s1:ar) (Q':al->ar->Prop) (E':al->ar->Prop),(∀o,s.heap.get? l=some o->s1.heap.get? l=some o)->Q' (.ref s1.heap.objs.size) {s1 with heap:=s1.heap.push itob}->wpAny (model P w) A' (pyIter (.ref l)) Q' E' s1)
  (hW:∀(A':l4) (I:ac),A'.handled=none->l≠I->Wx P w A' I [I,l] [I] vs.length Pv (St I)) (R1:∀h1:gc,(∀o,s.heap.get? l=some o->h1.get? l=some o)->St h1.objs.size 0 (h1.push itob))
  (DE:∀(i:Nat) (v:al),Pv i v->∃m t,vs[i]?=some m/\v=.int m t) (hb:vs.length+1<scanBound)
  (h:∀(h':gc) (tk:Nat),cq P w h' s.heap.objs.size (cV vs)->(∀b o,s.heap.get? b=some o->h'.get? b=some o)->Q (.ref s.heap.objs.size) {s with heap:=h',toks:=tk}) :
  wpAny (model P w) A (call (.type "set") [.ref l]) Q E s :=by
 obtain ⟨c,tl,Ug⟩:=NL.mro
 have T7:=NL.made
 have qN:=NL.sub
 refine wpAny_call (Vh ?_)
 show wpAny _ _ (callAny (.type "set") _) _ _ _
 refine br ⟨Code.quiet_builtin _ (by decide +kernel),ze F.entry_type_call ?_⟩
 rw [l4.under_plain (weight_type_call_type "set" [.ref l] []) rfl]
 have k1:=NL.notType
 have k2:=NL.canCreate
 have Us:=F.typeCall_set_1 (.ref l)
 repeat (any_goals (first|assumption|wp_step))
 refine UL (DF (P:=P) (w:=w) (.ref l) (E:=E) (Q₁:=fun obj aw=>obj=.ref s.heap.objs.size/\aw={s with heap:=s.heap.push (gQ w)}) ⟨rfl,rfl⟩) fun r aw hr=>?_
 cases r with
 |error e=>exact hr
 |ok fl=>
  cases fl with
  |ret obj=>
   obtain ⟨rfl,rfl⟩:=hr
   have hS:(s.heap.push (gQ w)).get? s.heap.objs.size=some {cls:=.type "set",dict:=none,data:=.set #[] 0 (.fresh 0 0 (!w.params.followText "set-order"))}:=dL _ rfl
   have R3:VI {s with heap:=s.heap.push (gQ w)} (.ref s.heap.objs.size) "set" := ⟨_,hS,rfl⟩
   have kp:∀b o,s.heap.get? b=some o->(s.heap.push (gQ w)).get? b=some o:=fun b o e=>bn _ e
   have sz:(s.heap.push (gQ w)).objs.size=s.heap.objs.size+1 :=by rw [Nl]
   have JN:=NL.init.lookup
   have OT:=NL.init.bind (.ref s.heap.objs.size)
   repeat (any_goals (first|assumption|wp_step))
   refine UL (codeAny_call_builtin (R:=wants (fun r gP=>r=.none/\∃h' tk,gP={s with heap:=h',toks:=tk}/\cq P w h' s.heap.objs.size (cV vs) /\
     (∀b o,s.heap.get? b=some o->h'.get? b=some o)) E) NL.init.plain F.entry_set_init (check_set_init_1 R3 ?_)) fun QD gP yI=>?_
   ·have Ut:=hT {s with heap:=s.heap.push (gQ w)} (fun o e=>kp l o e)
    unfold u4.«set.__init__» noKeywords u4.Frozenset.updateFrom
    generalize R4:pyIter=PI
    wp_walk
    subst R4
    obtain ⟨ol,uM⟩:=hl
    have OU:l<s.heap.objs.size:=ge uM
    refine hit _ {s with heap:=s.heap.push (gQ w)} _ _ (fun o e=>kp l o e) ?_
    refine ap (Vt ?_)
    have R5:A.in1.in1.in1.handled=none :=by simp [hh]
    have QF:l≠(s.heap.push (gQ w)).objs.size :=by rw [sz];exact i4 (Me OU)
    have uL:s.heap.objs.size ∉ [(s.heap.push (gQ w)).objs.size,l] :=by
     rw [sz];simp only [l3,Da,or_false,not_or]
     exact ⟨i4 (EU _),NG OU⟩
    refine DC ((hW _ (s.heap.push (gQ w)).objs.size R5 QF).toS) s.heap.objs.size uL DE hb (vs.length - 0) 0 _ (by omega) (qr _) (R1 (s.heap.push (gQ w)) fun o e=>kp l o e) (GD.b9 fun o e=>bn _ e) ?_
    intro s' hm ko
    obtain ⟨h',g',d',R6,E8⟩:=s'
    have eg:g'=s.gens:=hm.gens
    have ed:d'=s.drawn:=hm.drawn
    have eo:E8=s.os:=hm.os
    subst eg;subst ed;subst eo
    show wpAny _ _ _ _ _ _
    refine br ?_
    show wpAny _ _ (ret zw) _ _ _
    refine br ⟨rfl,h',R6,rfl,ko,fun b o e=>?_⟩
    have Fn:b<s.heap.objs.size:=ge e
    refine hm.heap b o ?_ (bn _ (kp b o e))
    simp only [l3,Da,or_false,not_or]
    exact ⟨i4 Fn,by rw [sz];exact i4 (Me Fn)⟩
   ·cases QD with
    |error e=>exact yI
    |ok Nf=>
     cases Nf with
     |ret r=>
      obtain ⟨rfl,h',tk,rfl,ko,ou⟩:=yI
      repeat (any_goals (first|assumption|wp_step))
      exact h _ _ ko ou
     |_=>exact yI.elim
  |_=>exact hr.elim
end
theorem AG:Manifest.owners.lookup (String.ofList ['r','o','t','a','r','e','t','i','_','t','e','s'].reverse)=some Manifest.sig_set_iterator :=by kernel_rfl
theorem cg:Slot "set_iterator" "__next__" "set_iterator.__next__" :=
 .of (owner := "set_iterator") (n := "__next__") (by rw [typeLookup_type,builtinLookup_eq_fast];kernel_rfl) (by decide +kernel) (by decide +kernel) (by decide +kernel)
  (by first|exact .inl (by decide +kernel)|exact .inr (by decide +kernel)) (by rw [Vv];kernel_rfl)
theorem iM:entryFor table "set_iterator.__next__" = some u4.«set_iterator.__next__»:=entryFor_of_tree (by kernel_rfl)
theorem iN (a:al):argsOk "set_iterator.__next__" ⟨[a],[]⟩ :=by
 unfold argsOk;rw [signature?_of (id := "set_iterator.__next__") (n:=['_','_','t','x','e','n','_','_']) (o:=['r','o','t','a','r','e','t','i','_','t','e','s']) (by kernel_rfl) AG];kernel_rfl
theorem pR:Slot "set_iterator" "__iter__" "set_iterator.__iter__" :=
 .of (owner := "set_iterator") (n := "__iter__") (by rw [typeLookup_type,builtinLookup_eq_fast];kernel_rfl) (by decide +kernel) (by decide +kernel) (by decide +kernel)
  (by first|exact .inl (by decide +kernel)|exact .inr (by decide +kernel)) (by rw [Vv];kernel_rfl)
theorem yJ:entryFor table "set_iterator.__iter__" = some u4.«dict_keyiterator.__iter__»:=
 entryFor_alias (id' := "dict_keyiterator.__iter__") (by kernel_rfl) (by first|rfl|decide +kernel|(unfold String.splitOn;simp +decide [String.splitOnAux])) (by decide +kernel) (by kernel_rfl)
theorem yK (a:al):argsOk "set_iterator.__iter__" ⟨[a],[]⟩ :=by
 unfold argsOk;rw [signature?_of (id := "set_iterator.__iter__") (n:=['_','_','r','e','t','i','_','_']) (o:=['r','o','t','a','r','e','t','i','_','t','e','s']) (by kernel_rfl) AG];kernel_rfl
theorem wA:entryFor table "set.__iter__" = some u4.«frozenset.__iter__»:=
 entryFor_alias (id' := "frozenset.__iter__") (by kernel_rfl) (by first|rfl|decide +kernel|(unfold String.splitOn;simp +decide [String.splitOnAux])) (by decide +kernel) (by kernel_rfl)
def eA (h:gc) (I a:ac) (first:al) (i n ep:Nat):Prop:=∃o,h.get? I=some o/\o.cls=.type "set_iterator" /\ o.data=.fields #[first,.int i 0,.ref a,.int n 0,.int ep 0]
theorem eA.typeIs {s:ar} {I a:ac} {first:al} {i n ep:Nat} (x:eA s.heap I a first i n ep):s.TypeIs (.ref I) "set_iterator" := let ⟨o,ho,hc,_⟩:=x;⟨o,ho,hc⟩
theorem eX {α:Type}:∀{l:List α} {i:Nat} (h:i<l.length),(l[i]::l.eraseIdx i).Perm l
 | [],i,h=>by simp at h
 |x::l,0,h=>.refl _
 |x::l,i+1,h=>by
          rw [List.eraseIdx_cons_succ,List.getElem_cons_succ]
          exact (UN.swap _ _ _).trans (.cons _ (eX (by simpa using h)))
section
variable {P:c8} {w:ff} {A:l4} {E:al->ar->Prop} {s:ar}
theorem wp_choose {src:Source} {n:Nat} {Q:Nat->ar->Prop} (hn:n≠0) (h:∀i d,i<n->Q i {s with drawn:=d}):wpAny (model P w) A (choose src n) Q E s:=fun Γ p _=>by
 refine ⟨hn,?_⟩
 exact h _ _ (Vl _ (Nat.pos_of_ne_zero hn))
theorem mH {α:Type}:∀(n:Nat) (xs:List α) {s:ar} {Q:List α->ar->Prop},n=xs.length->(∀ys d,ys.Perm xs->Q ys {s with drawn:=d})->wpAny (model P w) A (drawOrder n xs) Q E s
 |0,xs,s,Q,hn,h=>by
          have:xs=[]:=Ps hn.symm
          subst this
          exact br (h [] s.drawn .nil)
 |n+1,[],s,Q,hn,h=>by simp at hn
 |n+1,x::xs,s,Q,hn,h=>by
          show wpAny _ _ (choose .order (x::xs).length>>=_) _ _ s
          refine ap (wp_choose (by simp) fun i d hi=>?_)
          have e:(x::xs)[i]?=some (x::xs)[i]:=ag hi
          rw [e]
          dsimp only
          refine ap (mH n _ (by rw [List.length_eraseIdx_of_lt hi];simp at hn ⊢;omega) fun ys d' hp=>br (h _ _ ?_))
          exact (UN.cons _ hp).trans (eX hi)
end
section
variable {P:c8} {w:ff} {A:l4} {E:al->ar->Prop} {s:ar}
structure jl (P:c8) (w:ff) (h:gc) (a:ac) (es:Array (Int×al)) (ep:Nat) (t:r6):Prop where
 at_:∃o,h.get? a=some o/\o.ExactSet/\o.data=.set es ep t
 fits:t.fits es.size=true
 tab:bX w t
theorem xx {α:Type} (next:Nat->Nat):∀(fuel k:Nat) (left:List α) (out:Array α),fuel=left.length->(pickOrder.go next fuel k left out).toList.Perm (out.toList++left)
 |0,k,left,out,h=>by
          have:left=[]:=Ps h.symm
          subst this
          simp [pickOrder.go]
 |fuel+1,k,left,out,h=>by
          unfold pickOrder.go
          have hl:next k % left.length<left.length:=Vl _ (by omega)
          rw [ag hl]
          dsimp only
          refine (xx next fuel (k+1) _ _ (by rw [List.length_eraseIdx_of_lt hl];omega)).trans ?_
          rw [Array.toList_push,GM]
          exact UN.append_left _ (eX hl)
theorem rZ {α:Type} (next:Nat->Nat) (xs:Array α):(pickOrder next xs).toList.Perm xs.toList :=by
 unfold pickOrder
 exact (xx next xs.size 0 xs.toList #[] (by simp)).trans (by simp)
theorem mI {Q:Bool->ar->Prop} (h:Q (w.params.followText "set-order") s):wpAny (model P w) A setsByText Q E s :=by
 unfold setsByText
 exact ap (SI (br h))
theorem pS {a:ac} {es:Array (Int×al)} {ep:Nat} {t:r6} {slot given:Nat} {Q:Option (al×Nat)->ar->Prop} (hE:jl P w s.heap a es ep t)
  (hd:w.params.followText "set-order" = false->(!t.plain && decide (es.size > 1))=false)
  (h1:w.params.followText "set-order" = true->Q ((pickOrder (w.params.setOrder a ep) es)[given]?.map fun e=>(e.2,slot)) s)
  (h2:w.params.followText "set-order" = false->Q (match es[ut t.place slot]?,t.place[ut t.place slot]? with|some (_,x),some j=>some (x,j+1)|_,_=>none) s) :
  wpAny (model P w) A (setNext a slot given ep) Q E s :=by
 obtain ⟨⟨o,ho,hex,ow⟩,hf,ht⟩:=hE
 unfold setNext
 refine ap (PP ho ow hf ?_)
 dsimp only
 refine ap (mI ?_)
 cases hb:w.params.followText "set-order" with
 |true=>
  simp only [if_true,bne_self_eq_false,lp,if_false]
  unfold setWalk
  refine ap (ap (PP ho ow hf ?_))
  dsimp only
  refine ap (mI ?_)
  rw [hb]
  simp only [if_true]
  refine ap (SI (br (br ?_)))
  exact h1 hb
 |false=>
  simp only [lp,if_false]
  have jN:=hd hb
  have QH:t.led=true :=by rw [ht.led,hb];rfl
  show wpAny _ _ (if (!t.plain && decide (es.size > 1))=true then _ else _) _ _ s
  rw [jN]
  simp only [lp,if_false]
  refine ap ?_
  show wpAny _ _ (if (!t.led && !es.isEmpty)=true then _ else _) _ _ s
  rw [QH]
  simp only [VJ,Vr,lp,if_false]
  exact br (br (h2 hb))
end
section
variable {P:c8} {w:ff} {A:l4} {E:al->ar->Prop} {s:ar}
theorem eA.JO {h:gc} {I a:ac} {first x:al} {i n ep:Nat} (hit:eA h I a first i n ep):eA (h.update I (im.mapFields (·.setIfInBounds 0 x))) I a x i n ep :=by
 obtain ⟨o,ho,hc,hd⟩:=hit
 exact ⟨_,BB _ ho (Va (KF hd _)),(VS ..).trans hc,by rw [KF hd];simp⟩
theorem eA.uN {h:gc} {I a:ac} {first:al} {i n ep:Nat} (hit:eA h I a first i n ep):eA (h.update I (im.mapFields (·.setIfInBounds 1 (rawInt ((i:Int)+1))))) I a first (i+1) n ep :=by
 obtain ⟨o,ho,hc,hd⟩:=hit
 exact ⟨_,BB _ ho (Va (KF hd _)),(VS ..).trans hc,by rw [KF hd];simp [rawInt]⟩
theorem ku {I a:ac} {first x:al} {i n ep k:Nat} {Q:Unit->ar->Prop} (hk:k<5) (hit:eA s.heap I a first i n ep) (h:Q () {s with heap:=s.heap.update I (im.mapFields (·.setIfInBounds k x))}):wpAny (model P w) A (setField (.ref I) k x) Q E s :=by
 obtain ⟨o,ho,hc,hd⟩:=hit
 exact wpAny_setField ho hd (by simpa using hk) h
theorem xA {Q:Fin->ar->Prop} (hh:A.handled=none) (h:∀e h',s.TypeIs e "StopIteration" \/ True->(∀b o,s.heap.get? b=some o->h'.get? b=some o)->VI {s with heap:=h'} e "StopIteration" -> E e {s with heap:=h'}) :
  wpAny (model P w) A (newExc (.type "StopIteration") []>>=fun e=>raiseNew e) Q E s :=by
 refine ap ?_
 simp only [newExc,newTuple]
 refine ap (v6 ?_ (by size_fits))
 refine ap (m:=firstArgMember _ _) (Vy (a:=zw) (by first|rfl|(simp only [firstArgMember];rfl)) ?_)
 refine v6 ?_ (by size_fits)
 simp only [raiseNew]
 refine ap (wpAny_handled ?_)
 rw [hh]
 refine ap (br (wpAny_throw ?_))
 exact h _ _ (.inr trivial) (fun b o e=>bn _ (bn _ e)) ⟨_,dL _ rfl,rfl⟩
theorem uO {Q:Option al->ar->Prop} {e:al} (hT:s.TypeIs e "StopIteration") (h:Q none s):wpAny (model P w) A (do let b <- isInstance e (.type "StopIteration");if b=true then pure none else throw e) Q E s:=
 ap (U4 (T := "StopIteration") (b:=true) hT isSubtype_stop (br h))
theorem GF {I a:ac} {slot i ep next:Nat} {es:Array (Int×al)} {t:r6} {x:al} {Q:Option al->ar->Prop} (hit:eA s.heap I a (.int slot 0) i es.size ep) (hE:jl P w s.heap a es ep t)
  (hd:w.params.followText "set-order" = false->(!t.plain && decide (es.size > 1))=false)
  (h1:w.params.followText "set-order" = true->(pickOrder (w.params.setOrder a ep) es)[i]?.map (fun e=>(e.2,slot))=some (x,next))
  (h2:w.params.followText "set-order" = false->(match es[ut t.place slot]?,t.place[ut t.place slot]? with|some (_,x),some j=>some (x,j+1)|_,_=>none)=some (x,next))
  (hQ:∀h',eA h' I a (.int next 0) (i+1) es.size ep->u7 I s.heap h'->Q (some x) {s with heap:=h'}):wpAny (model P w) A (pyNext (.ref I)) Q E s :=by
 obtain ⟨o,ho,hc,jN⟩:=id hit
 obtain ⟨oa,sd,DG,se⟩:=hE.at_
 unfold pyNext
 refine ap (LP (ww (name:=rf "__next__") hit.typeIs cg (wS cg hit.typeIs iM ?_ (iN _))))
 unfold u4.«set_iterator.__next__»
 refine ap (m:=slotArgs "__next__" 0 _) (br ?_)
 dsimp only
 refine ap (Sk ho jN ?_)
 dsimp only
 refine ap (OE sd se hE.fits ?_)
 simp only [bne_self_eq_false,lp,if_false,ss]
 have fin:∀r,r=some (x,next)->wpAny (model P w) A.in1 (match r with
    |some (x,next)=>do
     setField (ma I) 0 (rawInt next)
     setField (ma I) 1 (rawInt (↑i+1))
     ret x
    |none=>do
     setField (ma I) 2 zw
     let __do_lift <- newExc (AL "StopIteration") []
     raiseNew __do_lift) (fun fin s'=>∃v,fin=Fin.done (Flow.ret v)/\wpAny (model P w) A (pure (some v)) Q E s') (fun e s'=>wpAny (model P w) A (do
     let __do_lift <- isInstance e (AL "StopIteration")
     if __do_lift=true then pure none else throw e) Q E s') s:=fun r hr=>by
  subst hr
  dsimp only
  refine ap (ku (by decide) hit ?_)
  have JP:=hit.JO (x:=rawInt next)
  refine ap (ku (by decide) JP ?_)
  exact br ⟨x,rfl,br (hQ _ JP.uN ((EQ ..).trans (EQ ..)))⟩
 exact ap (pS hE hd (fun hb=>fin _ (h1 hb)) (fun hb=>fin _ (h2 hb)))
theorem GH {I a:ac} {slot i ep:Nat} {es:Array (Int×al)} {t:r6} {Q:Option al->ar->Prop} (hh:A.handled=none) (hit:eA s.heap I a (.int slot 0) i es.size ep) (hE:jl P w s.heap a es ep t)
  (hd:w.params.followText "set-order" = false->(!t.plain && decide (es.size > 1))=false)
  (h1:w.params.followText "set-order" = true->(pickOrder (w.params.setOrder a ep) es)[i]?.map (fun e=>(e.2,slot))=none)
  (h2:w.params.followText "set-order" = false->(match es[ut t.place slot]?,t.place[ut t.place slot]? with|some (_,x),some j=>some (x,j+1)|_,_=>none)=none)
  (hQ:∀h',(∀b o,b≠I->s.heap.get? b=some o->h'.get? b=some o)->Q none {s with heap:=h'}):wpAny (model P w) A (pyNext (.ref I)) Q E s :=by
 obtain ⟨o,ho,hc,jN⟩:=id hit
 obtain ⟨oa,sd,DG,se⟩:=hE.at_
 unfold pyNext
 refine ap (LP (ww (name:=rf "__next__") hit.typeIs cg (wS cg hit.typeIs iM ?_ (iN _))))
 unfold u4.«set_iterator.__next__»
 refine ap (m:=slotArgs "__next__" 0 _) (br ?_)
 dsimp only
 refine ap (Sk ho jN ?_)
 dsimp only
 refine ap (OE sd se hE.fits ?_)
 simp only [bne_self_eq_false,lp,if_false,ss]
 have fin:∀r:Option (al×Nat),r=none->wpAny (model P w) A.in1 (match r with
    |some (x,next)=>do
     setField (ma I) 0 (rawInt next)
     setField (ma I) 1 (rawInt (↑i+1))
     ret x
    |none=>do
     setField (ma I) 2 zw
     let __do_lift <- newExc (AL "StopIteration") []
     raiseNew __do_lift) (fun fin s'=>∃v,fin=Fin.done (Flow.ret v)/\wpAny (model P w) A (pure (some v)) Q E s') (fun e s'=>wpAny (model P w) A (do
     let __do_lift <- isInstance e (AL "StopIteration")
     if __do_lift=true then pure none else throw e) Q E s') s:=fun r hr=>by
  subst hr
  dsimp only
  refine ap (ku (by decide) hit ?_)
  exact xA hh fun e h' _ k hT=>uO hT (hQ h' fun b o hb q=>k b o ((At _ _ (xz hb)).trans q))
 exact ap (pS hE hd (fun hb=>fin _ (h1 hb)) (fun hb=>fin _ (h2 hb)))
theorem GI {I a T:ac} {i ep j:Nat} {es:Array (Int×al)} {t:r6} {ps:List Nat} {x:Int×al} {Q:Option al->ar->Prop} (hit:eA s.heap I a (.ref T) i es.size ep) (hE:jl P w s.heap a es ep t)
  (hT:s.heap.IsTuple T (ps.map fun (i:Nat)=>rawInt i).toArray) (hj:ps[i]?=some j) (hx:es[j]?=some x)
  (hQ:∀h',eA h' I a (.ref T) (i+1) es.size ep->u7 I s.heap h'->Q (some x.2) {s with heap:=h'}):wpAny (model P w) A (pyNext (.ref I)) Q E s :=by
 obtain ⟨o,ho,hc,jN⟩:=id hit
 obtain ⟨oa,sd,DG,se⟩:=hE.at_
 unfold pyNext
 refine ap (LP (ww (name:=rf "__next__") hit.typeIs cg (wS cg hit.typeIs iM ?_ (iN _))))
 unfold u4.«set_iterator.__next__»
 refine ap (m:=slotArgs "__next__" 0 _) (br ?_)
 dsimp only
 refine ap (Sk ho jN ?_)
 dsimp only
 refine ap (OE sd se hE.fits ?_)
 simp only [bne_self_eq_false,lp,if_false,ss]
 obtain ⟨ot,JQ,_,nt,ow⟩:=hT
 refine ap (Vw JQ ow ?_)
 have e:(ps.map fun (i:Nat)=>rawInt i).toArray[i]?=some (rawInt j) :=by simp [hj]
 dsimp only
 rw [e]
 show wpAny _ _ (setNextDrawn a (Int.toNat (j:Int)) ep>>=_) _ _ s
 rw [ss]
 refine ap ?_
 unfold setNextDrawn
 refine ap (PP sd se hE.fits ?_)
 simp only [bne_self_eq_false,lp,if_false,hx]
 refine br ?_
 refine ap (ku (by decide) hit ?_)
 exact br ⟨x.2,rfl,br (hQ _ hit.uN (EQ ..))⟩
theorem GJ {I a T:ac} {i ep:Nat} {es:Array (Int×al)} {t:r6} {ps:List Nat} {Q:Option al->ar->Prop} (hh:A.handled=none) (hit:eA s.heap I a (.ref T) i es.size ep) (hE:jl P w s.heap a es ep t)
  (hT:s.heap.IsTuple T (ps.map fun (i:Nat)=>rawInt i).toArray) (hj:ps.length<=i)
  (hQ:∀h',(∀b o,b≠I->s.heap.get? b=some o->h'.get? b=some o)->Q none {s with heap:=h'}):wpAny (model P w) A (pyNext (.ref I)) Q E s :=by
 obtain ⟨o,ho,hc,jN⟩:=id hit
 obtain ⟨oa,sd,DG,se⟩:=hE.at_
 unfold pyNext
 refine ap (LP (ww (name:=rf "__next__") hit.typeIs cg (wS cg hit.typeIs iM ?_ (iN _))))
 unfold u4.«set_iterator.__next__»
 refine ap (m:=slotArgs "__next__" 0 _) (br ?_)
 dsimp only
 refine ap (Sk ho jN ?_)
 dsimp only
 refine ap (OE sd se hE.fits ?_)
 simp only [bne_self_eq_false,lp,if_false,ss]
 obtain ⟨ot,JQ,_,nt,ow⟩:=hT
 refine ap (Vw JQ ow ?_)
 have e:(ps.map fun (i:Nat)=>rawInt i).toArray[i]?=none :=by simp [hj]
 dsimp only
 rw [e]
 dsimp only
 refine ap (ku (by decide) hit ?_)
 refine ap (ku (by decide) (hit.JO (x:=rawInt 0)) ?_)
 exact xA hh fun e h' _ k hT=>uO hT (hQ h' fun b o hb q=>k b o ((At _ _ (xz hb)).trans ((At _ _ (xz hb)).trans q)))
end
theorem eA.b9 {h h':gc} {I a:ac} {first:al} {i n ep:Nat} (x:eA h I a first i n ep) (k:∀o,h.get? I=some o->h'.get? I=some o):eA h' I a first i n ep:=let ⟨o,ho,r⟩:=x;⟨o,k o ho,r⟩
theorem jl.b9 {P:c8} {w:ff} {h h':gc} {a:ac} {es:Array (Int×al)} {ep:Nat} {t:r6} (x:jl P w h a es ep t) (k:∀o,h.get? a=some o->h'.get? a=some o):jl P w h' a es ep t:=
 ⟨let ⟨o,ho,r⟩:=x.at_;⟨o,k o ho,r⟩,x.fits,x.tab⟩
theorem yL {xs:Array Nat} (h:kn xs) {i:Nat} (hi:i<xs.size):ut xs (xs[i]+1)=i+1 :=by
 obtain ⟨b0,b1,b2⟩:=oG (xs[i]+1) h
 generalize ut xs (xs[i]+1)=p at *
 have h1:i<p :=by
  refine Nat.lt_of_not_le fun hp=>?_
  have:=b2 i hi hp
  omega
 refine Nat.le_antisymm (U2 fun hp=>?_) h1
 have OV:i+1<xs.size :=by omega
 have q:=b1 (i+1) OV hp
 have q2:=pN h (show i<i+1 by omega) OV
 omega
theorem yM {xs:Array Nat} (h:kn xs):ut xs 0=0 :=by
 obtain ⟨b0,b1,b2⟩:=oG 0 h
 generalize ut xs 0=p at *
 by_cases hp:p=0
 ·exact hp
 ·have:=b1 0 (by omega) (by omega)
  omega
section
variable {P:c8} {w:ff} {A:l4} {E:al->ar->Prop} {s:ar}
theorem si_self {I a:ac} {first:al} {i n ep:Nat} {Q:al->ar->Prop} (hit:eA s.heap I a first i n ep) (h:Q (.ref I) s):wpAny (model P w) A (pyIter (.ref I)) Q E s :=by
 refine VT hit.typeIs pR (wS pR hit.typeIs yJ ?_ (yK _))
 show wpAny _ _ (ret (.ref I)) _ _ s
 exact br ⟨_,rfl,"set_iterator",_,hit.typeIs,cg.lookup,h⟩
theorem uP {es:List (Int×al)} (h:Vu (intKind P w) es) {e:Int×al} (he:e∈es):∃t,e.2=.int (dz e) t :=by
 obtain ⟨⟨k',ou,_⟩,_⟩:=h e he
 obtain ⟨t,e2⟩:=UT (k:=k') (v:=e.2) ou
 exact ⟨t,by unfold dz;rw [e2]⟩
abbrev AH (xs:List Int):Nat->al->Prop:=fun i v=>∃m t,xs[i]?=some m/\v=.int m t
def eY (w:ff) (a:ac) (ep:Nat) (es:Array (Int×al)):List (Int×al):=if w.params.followText "set-order" = true then (pickOrder (w.params.setOrder a ep) es).toList else es.toList
theorem iO (w:ff) (a:ac) (ep:Nat) (es:Array (Int×al)):(eY w a ep es).Perm es.toList :=by
 unfold eY
 split
 ·exact rZ _ _
 ·exact .refl _
theorem DH {I a:ac} {es:Array (Int×al)} {ep:Nat} {t:r6} (hh:A.handled=none) (fA:a≠I) (jV:Vu (intKind P w) es.toList) (hd:w.params.followText "set-order" = false->(!t.plain && decide (es.size > 1))=false) :
  WalksS P w A I [I,a] [I] (fun a b=>b=a) ((eY w a ep es).map dz).length (AH ((eY w a ep es).map dz))
   (fun i s=>jl P w s.heap a es ep t/\∃slot:Nat,eA s.heap I a (.int slot 0) i es.size ep/\(w.params.followText "set-order" = false->ut t.place slot=i)) where
 sub:=fun b hb=>by simp at hb;simp [hb]
 grefl:=fun _=>rfl
 gtrans:=fun _ _ _ h1 h2=>h2.trans h1
 frame:=fun i s h' _ st _ hk=>⟨st.1.b9 fun o e=>hk a (by simp) o e,let ⟨slot,h1,h2⟩:=st.2;⟨slot,h1.b9 fun o e=>hk I (by simp) o e,h2⟩⟩
 item:=fun i s Q E hi st hQ=>by
  obtain ⟨hE,slot,hit,hb⟩:=st
  have hl:i<(eY w a ep es).length :=by simpa using hi
  have JN:i<es.size :=by rw [<- mT,<- (iO w a ep es).length_eq];exact hl
  obtain ⟨tk,he⟩:=uP (P:=P) (w:=w) jV ((iO w a ep es).mem_iff.mp (mf hl))
  have cY:i<t.place.size :=by
   have:=hE.fits
   simp only [r6.fits,Fk,beq_iff_eq] at this
   rw [this.1];exact JN
  refine GF (next:=if w.params.followText "set-order" = true then slot else t.place[i]+1) (x:=((eY w a ep es)[i]).2) hit hE hd (fun gO=>?_) (fun gO=>?_) (fun h' DI hs=>hQ _ _ ⟨_,tk,by rw [ca,ag hl];rfl,he⟩ ⟨hE.b9 fun o e=>by rw [hs.2 a fA];exact e,_,DI,fun gO=>?_⟩ ⟨fun b o hb e=>by rw [hs.2 b (fun z=>hb (by simp [z]))];exact e,rfl,rfl,rfl,cb _⟩)
  ·rw [if_pos gO]
   have e1:eY w a ep es=(pickOrder (w.params.setOrder a ep) es).toList :=by unfold eY;rw [if_pos gO]
   have e2:(pickOrder (w.params.setOrder a ep) es)[i]?=some (eY w a ep es)[i] :=by
    rw [<- LF,<- e1]
    exact ag hl
   rw [e2]
   rfl
  ·rw [if_neg (by rw [gO];decide),hb gO,CS JN,CS cY]
   have e1:eY w a ep es=es.toList :=by unfold eY;rw [if_neg (by rw [gO];decide)]
   have e2:(eY w a ep es)[i]=es[i] :=by simp [e1]
   rw [e2]
  ·rw [if_neg (by rw [gO];decide)]
   exact yL hE.tab.ris cY
 done:=fun s Q E st hQ=>by
  obtain ⟨hE,slot,hit,hb⟩:=st
  have hl:((eY w a ep es).map dz).length=es.size :=by rw [ci,(iO w a ep es).length_eq,mT]
  rw [hl] at hit hb
  refine GH hh hit hE hd (fun gO=>?_) (fun gO=>?_) (fun h' k=>hQ _ ⟨fun b o hb e=>k b o (fun z=>hb (by simp [z])) e,rfl,rfl,rfl,cb _⟩)
  ·have e1:(pickOrder (w.params.setOrder a ep) es)[es.size]?=none :=by
    refine UY ?_
    rw [<- mT,(rZ _ es).length_eq,mT]
    exact cb _
   rw [e1]
   rfl
  ·rw [hb gO,UY (cb _)]
 self:=fun i s Q E st hQ=>let ⟨_,slot,hit,_⟩:=st;si_self hit hQ
theorem yN {I a T:ac} {es:Array (Int×al)} {ep:Nat} {t:r6} {ps:List Nat} (hh:A.handled=none) (fA:a≠I) (QJ:T≠I) (jV:Vu (intKind P w) es.toList) (AI:∀j∈ps,j<es.size) (cY:ps.length=es.size) :
  WalksS P w A I [I,a,T] [I] (fun a b=>b=a) (ps.map fun j=>dz (es.getD j (0,.none))).length (AH (ps.map fun j=>dz (es.getD j (0,.none))))
   (fun i s=>jl P w s.heap a es ep t/\s.heap.IsTuple T (ps.map fun (i:Nat)=>rawInt i).toArray/\eA s.heap I a (.ref T) i es.size ep) where
 sub:=fun b hb=>by simp at hb;simp [hb]
 grefl:=fun _=>rfl
 gtrans:=fun _ _ _ h1 h2=>h2.trans h1
 frame:=fun i s h' _ st _ hk=>⟨st.1.b9 fun o e=>hk a (by simp) o e,st.2.1.at fun o e=>hk T (by simp) o e,st.2.2.b9 fun o e=>hk I (by simp) o e⟩
 item:=fun i s Q E hi st hQ=>by
  obtain ⟨hE,hT,hit⟩:=st
  have hl:i<ps.length :=by simpa using hi
  have hj:=AI _ (mf hl)
  have hx:es[ps[i]]?=some es[ps[i]]:=CS hj
  have hg:es.getD ps[i] (0,.none)=es[ps[i]] :=by simp [Array.getD,hj]
  obtain ⟨tk,he⟩:=uP (P:=P) (w:=w) jV (show es[ps[i]]∈es.toList by simp)
  refine GI hit hE hT (ag hl) hx fun h' DI hs=>hQ _ _ ⟨_,tk,by rw [ca,ag hl];rfl,by dsimp only;rw [hg];exact he⟩ ⟨hE.b9 fun o e=>by rw [hs.2 a fA];exact e,hT.at fun o e=>by rw [hs.2 T QJ];exact e,DI⟩ ⟨fun b o hb e=>by rw [hs.2 b (fun z=>hb (by simp [z]))];exact e,rfl,rfl,rfl,cb _⟩
 done:=fun s Q E st hQ=>by
  obtain ⟨hE,hT,hit⟩:=st
  have hl:(ps.map fun j=>dz (es.getD j (0,.none))).length=ps.length:=ci _
  rw [hl] at hit
  exact GJ hh hit hE hT (cb _) fun h' k=>hQ _ ⟨fun b o hb e=>k b o (fun z=>hb (by simp [z])) e,rfl,rfl,rfl,cb _⟩
 self:=fun i s Q E st hQ=>si_self st.2.2 hQ
theorem yO {a:ac} {ns:List Int} {Q:al->ar->Prop} (hS:cq P w s.heap a ns)
  (hQ:∀(I:ac) (h':gc) (d':Drawn) (xs:List Int) (fp:List ac) (St:Nat->ar->Prop),xs.Perm ns->(∀b o,s.heap.get? b=some o->h'.get? b=some o)->s.heap.objs.size<=I->(∀b∈fp,b=a\/s.heap.objs.size<=b)->
   (∀A':l4,A'.handled=none->WalksS P w A' I fp [I] (fun a b=>b=a) xs.length (AH xs) St)->St 0 {s with heap:=h',drawn:=d'}->Q (.ref I) {s with heap:=h',drawn:=d'}):wpAny (model P w) A (pyIter (.ref a)) Q E s :=by
 have OW:=hS.typeIs (h:=s.heap)
 obtain ⟨o,es,ep,t,ho,hex,hd,jV,hp,hn,hb,hf,ht⟩:=hS
 have hE:jl P w s.heap a es ep t:=⟨⟨o,ho,hex,hd⟩,hf,ht⟩
 have bb:=ge ho
 refine VT OW F.slot_set_iter (wS F.slot_set_iter OW wA ?_ (F.args_set_iter_1 _))
 unfold u4.«frozenset.__iter__»
 refine ap (m:=u4.Frozenset.slot0 "__iter__" _) (br ?_)
 unfold u4.Frozenset.sizeOf
 refine ap (ap (OE ho hd hf (br ?_)))
 refine ap ?_
 unfold setDrawn
 refine ap (PP ho hd hf ?_)
 dsimp only
 refine ap (mI ?_)
 refine br ?_
 by_cases sf:(!w.params.followText "set-order" && (!t.plain && decide (es.size > 1)))=true
 ·show wpAny _ _ (if (!w.params.followText "set-order" && (!t.plain && decide (es.size > 1)))=true then _ else _) _ _ s
  rw [if_pos sf]
  refine ap (mH _ _ (by simp) fun ps d AI=>?_)
  have cY:ps.length=es.size :=by rw [AI.length_eq,PM]
  refine ap (wpAny_newTuple ?_ (by rw [ci,cY];exact VP hb))
  refine ap (wpAny_setEpoch_of (o:=o) (bn _ ho) hd hf ?_)
  unfold newFields
  refine ap (v6 ?_ (by size_fits))
  have hsz:∀u:im,(s.heap.push u).objs.size=s.heap.objs.size+1:=fun u=>Nl _ _
  have hit:eA ((s.heap.push {cls:=.type "tuple",data:=.seq (ps.map fun (i:Nat)=>rawInt i).toArray}).push {cls:=.type "set_iterator",data:=.fields #[.ref s.heap.objs.size,.int (0:Nat) 0,.ref a,.int es.size 0,.int ep 0]}) (s.heap.push {cls:=.type "tuple",data:=.seq (ps.map fun (i:Nat)=>rawInt i).toArray}).objs.size a (.ref s.heap.objs.size) 0 es.size ep:=⟨_,dL _ rfl,rfl,rfl⟩
  have R7:(ps.map fun j=>dz (es.getD j (0,.none))).Perm ns :=by
   refine ((AI.map _).trans ?_).trans hp
   have:(l9 es.size).map (fun j=>dz (es.getD j (0,.none)))=es.toList.map dz :=by
    refine List.ext_getElem (by simp) fun n h1 h2=>?_
    have zT:n<es.size :=by simpa using h1
    simp [Array.getD,zT]
   rw [this]
  refine br ⟨_,rfl,"set_iterator",_,eA.typeIs (s:={s with heap:=_,drawn:=d}) hit,cg.lookup,?_⟩
  refine hQ _ _ d _ [(s.heap.push {cls:=.type "tuple",data:=.seq (ps.map fun (i:Nat)=>rawInt i).toArray}).objs.size,a,s.heap.objs.size] _ R7 (fun b o e=>bn _ (bn _ e)) (by rw [hsz];exact Do _) (fun b hb=>?_) (fun A' hA=>yN (t:=t) (ep:=ep) hA ?_ ?_ jV (fun j hj=>by simpa using AI.mem_iff.mp hj) cY) ⟨hE.b9 fun o e=>bn _ (bn _ e),⟨_,bn _ (dL _ rfl),rfl,_,rfl⟩,hit⟩
  ·simp only [l3,Da,or_false] at hb
   rcases hb with rfl|rfl|rfl
   ·exact .inr (by rw [hsz];exact Do _)
   ·exact .inl rfl
   ·exact .inr (cb _)
  ·rw [hsz];exact i4 (Me bb)
  ·rw [hsz];exact i4 (EU _)
 ·show wpAny _ _ (if (!w.params.followText "set-order" && (!t.plain && decide (es.size > 1)))=true then _ else _) _ _ s
  rw [if_neg sf]
  refine ap (br (ap (wpAny_setEpoch_of ho hd hf ?_)))
  unfold newFields
  refine ap (v6 ?_ (by size_fits))
  have hit:eA (s.heap.push {cls:=.type "set_iterator",data:=.fields #[.int (0:Nat) 0,.int (0:Nat) 0,.ref a,.int es.size 0,.int ep 0]}) s.heap.objs.size a (.int (0:Nat) 0) 0 es.size ep:=⟨_,dL _ rfl,rfl,rfl⟩
  refine br ⟨_,rfl,"set_iterator",_,eA.typeIs (s:={s with heap:=_}) hit,cg.lookup,?_⟩
  refine hQ _ _ s.drawn _ [s.heap.objs.size,a] _ (((iO w a ep es).map dz).trans hp) (fun b o e=>bn _ e) (cb _) (fun b hb=>?_) (fun A' hA=>DH (t:=t) (ep:=ep) hA (i4 bb) jV fun hb=>?_) ⟨hE.b9 fun o e=>bn _ e,0,hit,fun _=>yM ht.ris⟩
  ·simp only [l3,Da,or_false] at hb
   rcases hb with rfl|rfl
   ·exact .inr (cb _)
   ·exact .inl rfl
  ·rw [hb] at sf
   simpa using sf
end
section
variable {P:c8} {w:ff} {A:l4} {E:al->ar->Prop} {s:ar}
theorem wB {a:ac} {Q:Bool->ar->Prop} (hT:s.TypeIs (.ref a) "set") (h:Q false s):wpAny (model P w) A (Sm (.ref a)) Q E s :=by
 unfold Sm
 refine ap (Vj hT F.slot_set_len.lookup ?_)
 have e:splitId "set.__len__" = some ("set","__len__") :=by kernel_rfl
 dsimp only
 rw [e]
 dsimp only
 refine ap (U4 hT sub_set_self ?_)
 simp only [VJ,lp,if_false]
 show wpAny _ _ (if _=true then _ else _) _ _ s
 rw [if_pos (by kernel_rfl)]
 exact ap (Vi hT (br h))
theorem ints_of {xs:List Int} {acc:Array al} (h:ItemsOf (AH xs) acc xs.length):RS acc.toList xs :=by
 obtain ⟨hs,hi⟩:=h
 have:∀(vs:List al) (xs:List Int),vs.length=xs.length->(∀(j:Nat) (v:al),vs[j]?=some v->AH xs j v)->RS vs xs :=by
  intro vs
  induction vs with
  |nil=>intro xs hl _;cases xs with|nil=>exact .nil|cons x xs=>simp at hl
  |cons v vs ih=>
   intro xs hl hg
   cases xs with
   |nil=>simp at hl
   |cons x xs=>
    obtain ⟨m,t,e1,rfl⟩:=hg 0 v rfl
    have e2:x=m :=by simpa using e1
    subst e2
    refine .cons _ _ (ih xs (by simpa using hl) fun j u hu=>?_)
    obtain ⟨m',t',e3,e4⟩:=hg (j+1) u (by simpa using hu)
    exact ⟨m',t',by simpa using e3,e4⟩
 exact this acc.toList xs (by simpa using hs) fun j v hv=>hi j v (by rw [<- LF];exact hv)
theorem wC {a:ac} {ns:List Int} {QL:List al->ar->Prop} (hh:A.handled=none) (hS:cq P w s.heap a ns) (hz:ns.length<=sizeLine)
  (hQ:∀us xs h' d' tk,RS us xs->xs.Perm ns->(∀b o,s.heap.get? b=some o->h'.get? b=some o)->QL us {s with heap:=h',drawn:=d',toks:=tk}):wpAny (model P w) A (collect (.ref a)) QL E s :=by
 have bb:a<s.heap.objs.size:=let ⟨_,_,_,_,ho,_⟩:=hS;ge ho
 have OX:s.heap.objs.size≠a:=NG bb
 unfold collect
 refine ap (Vt (ze U8 ?_))
 rw [u8 U9 _]
 show wpAny _ A.in1 (newList []>>=fun l=>again (.builtin "list.__iadd__" ⟨[l,.ref a],[]⟩)) _ _ s
 refine ap (v6 ?_)
 refine br ⟨DD Mn _,ze VN ?_⟩
 rw [u8 Mn _]
 have AB:cq P w (s.heap.push {cls:=.type "list",data:=.seq ([]:List al).toArray}) a ns:=hS.b9 fun o e=>bn _ e
 have T1:VI {s with heap:=s.heap.push {cls:=.type "list",data:=.seq ([]:List al).toArray}} (.ref a) "set" := cq.typeIs (P:=P) (w:=w) (h:=s.heap) (s:={s with heap:=_}) AB
 show wpAny _ A.in1 (B0 (.ref s.heap.objs.size) (.ref a) (.ref s.heap.objs.size)) _ _ _
 unfold B0
 refine ap (Vi T1 ?_)
 have h1:NJ (.ref s.heap.objs.size) (.ref a)=false :=by simp [NJ,OX]
 have h2:(AL "set" == AL "list")=false :=by decide
 have h3:(AL "set" == AL "tuple")=false :=by decide
 simp only [h1,h2,h3,Bool.or_false,lp,if_false]
 refine ap (yO (s:={s with heap:=s.heap.push {cls:=.type "list",data:=.seq ([]:List al).toArray}}) AB ?_)
 intro I h' d' xs fp St hp hk hI R8 hW lV
 have T2:VI {s with heap:=h',drawn:=d'} (.ref a) "set" := cq.typeIs (P:=P) (w:=w) (h:=s.heap) (s:={s with heap:=_,drawn:=d'}) (AB.b9 fun o e=>hk a o e)
 refine ap (Db (wB T2 ?_))
 show wpAny _ A.in1 (if _=true then _ else _) _ _ _
 rw [if_pos (by kernel_rfl)]
 show wpAny _ A.in1 (rule "list.extend.makes-room" >>= fun _=>u4.List.listTouch (.ref s.heap.objs.size)>>=fun _=>
  again (.builtin "list.extend.loop" ⟨[.ref s.heap.objs.size,.ref I,.ref s.heap.objs.size],[]⟩)) _ _ _
 refine ap (ET ?_)
 have nH:h'.get? s.heap.objs.size=some {cls:=.type "list",data:=.seq ([]:List al).toArray}:=hk _ _ (dL _ rfl)
 refine ap ?_
 show wpAny _ A.in1 (updateSeq s.heap.objs.size (·.push .none)>>=fun _=>updateSeq s.heap.objs.size (·.pop)) _ _ _
 refine ap (OP nH rfl ?_)
 have tQ:=BB (IN (·.push zw)) nH rfl
 refine OP tQ rfl ?_
 have Ng:=BB (IN (·.pop)) tQ rfl
 have oth:∀b o,b≠s.heap.objs.size->h'.get? b=some o->((h'.update s.heap.objs.size (IN (·.push zw))).update s.heap.objs.size (IN (·.pop))).get? b=some o:=
  fun b o hb e=>(At _ _ (xz hb)).trans ((At _ _ (xz hb)).trans e)
 have JR:(s.heap.push {cls:=.type "list",data:=.seq ([]:List al).toArray}).objs.size=s.heap.objs.size+1:=Nl _ _
 have uL:s.heap.objs.size ∉ fp:=fun hm=>by
  rcases R8 _ hm with z|z
  ·exact OX z
  ·have z':s.heap.objs.size+1<=s.heap.objs.size :=by rw [<- JR];exact z
   exact absurd z' (Nat.not_succ_le_self _)
 have W:=hW A.in1.in1 (by simp [hh])
 have hl:xs.length<=sizeLine :=by rw [hp.length_eq];exact hz
 refine br ⟨DD Tk _,codeAny_extend_loopS (W.of_in1) hl _ uL _ xs.length 0 _ _ _ rfl (qr _) (W.frame 0 ({s with heap:=h',drawn:=d'}:ar) _ s.toks lV (cb _) fun b hb o e=>oth b o (fun h=>uL (h▸hb)) e) Ng (ItemsOf.nil _) fun s' iz c' hm ko JS=>?_⟩
 show wpAny _ A (load s.heap.objs.size>>=_) _ _ s'
 refine ap (Wr ko ?_)
 refine br ?_
 obtain ⟨h2,g2,d2,R9,os2⟩:=s'
 have eg:g2=s.gens:=hm.gens
 have ed:d2=d':=hm.drawn
 have eo:os2=s.os:=hm.os
 subst eg;subst ed;subst eo
 refine hQ _ xs h2 _ R9 (ints_of JS) hp fun b o e=>hm.heap b o ?_ (oth b o (i4 (ge e)) (hk b o (bn _ e)))
 have hb:b<s.heap.objs.size:=ge e
 simp only [l3,Da,or_false,not_or]
 refine ⟨i4 hb,fun z=>?_⟩
 have z':s.heap.objs.size+1<=b :=by rw [<- JR,z];exact hI
 exact absurd (l5 (Me hb) z') (LM _)
end
def sortI (ns:List Int):List Int:=ns.mergeSort fun a b=>decide (a<=b)
theorem sortI_perm (ns:List Int):(sortI ns).Perm ns:=List.mergeSort_perm _ _
theorem uQ (ns:List Int):(sortI ns).Pairwise (·<=·) :=by
 have:=List.pairwise_mergeSort (le:=fun a b:Int=>decide (a<=b)) (fun a b c h1 h2=>by simp only [decide_eq_true_eq] at *;omega) (fun a b=>by simp only [Bool.or_eq_true,decide_eq_true_eq];omega) ns
 exact this.imp fun h=>by simpa using h
theorem sorted_uniq {a b:List Int} (p:a.Perm b) (ha:a.Pairwise (·<=·)) (hb:b.Pairwise (·<=·)):a=b:=UN.eq_of_pairwise (le:=(·<=·)) (fun x y _ _ h1 h2=>Int.le_antisymm h1 h2) ha hb p
theorem uR {ms ns:List Int} (p:ms.Perm ns) (h:ms.Pairwise (·<=·)):ms=sortI ns:=sorted_uniq (p.trans (sortI_perm ns).symm) h (uQ ns)
theorem pT:∀{ns:List Int} {us:List al},Vals (ns.map V.int) us->RS us ns
 | [],_,.nil=>.nil
 |n::ns,_,.cons r t=>by
          obtain ⟨k,rfl⟩:=r
          exact .cons _ _ (pT t)
theorem mJ:∀{ns:List Int} {us:List al},RS us ns->Vals (ns.map V.int) us
 |_,_,.nil=>.nil
 |_,_,.cons n t r=>.cons ⟨t,rfl⟩ (mJ r)
section
variable {P:c8} {w:ff} {A:l4} {E:al->ar->Prop} {s:ar}
theorem ox {T:String} {l:ac} {vs:List al} {Q:List al->ar->Prop} {o:im} {n:Nat} (ho:s.heap.get? l=some o) (hc:o.cls=.type T) (hd:o.data=.seq vs.toArray n) (hT:T = "list" \/ T = "tuple")
  (h:∀h',(∀b o,s.heap.get? b=some o->h'.get? b=some o)->Q vs {s with heap:=h'}) (hsz:vs.length<=sizeLine):wpAny (model P w) A (collect (.ref l)) Q E s :=by
 unfold collect
 refine ap (Vt (ze U8 ?_))
 rw [u8 U9 _]
 show wpAny _ A.in1 (newList []>>=fun l'=>again (.builtin "list.__iadd__" ⟨[l',.ref l],[]⟩)) _ _ s
 refine ap (wpAny_newList (br ⟨DD Mn _,ze VN ?_⟩))
 rw [u8 Mn _]
 show wpAny _ A.in1 (B0 (.ref s.heap.objs.size) (.ref l) (.ref s.heap.objs.size)) _ _ {s with heap:=s.heap.push (seqObj "list" #[] 0)}
 unfold B0
 have gM:(s.heap.push (seqObj "list" #[] 0)).get? l=some o:=bn _ ho
 refine ap (Vi (T:=T) ⟨o,gM,hc⟩ ?_)
 rw [if_pos (by rcases hT with rfl|rfl <;> simp)]
 refine ap (listItems_at gM hd ?_)
 refine ap (listItems_at (xs:=#[]) (n:=0) (dL _ rfl) rfl ?_)
 rw [if_neg (by simp)]
 refine ap (listUpdate_at (xs:=#[]) (n:=0) (dL _ rfl) rfl ?_ (qr _) (by show (#[]++vs.toArray).size<=sizeLine+1;simp only [VU,db,TM];omega))
 refine br ?_
 show wpAny (model P w) A (load s.heap.objs.size>>=_) Q E _
 refine ap (Wr (get?_update_seq (dL _ rfl) _) ?_)
 show wpAny _ _ (pure ((#[]:Array al)++vs.toArray).toList) Q E _
 rw [show ((#[]:Array al)++vs.toArray).toList=vs by simp]
 exact br (h _ fun b o e=>(At _ _ (NG (ge e))).trans (bn _ e))
theorem yP {a:al} {ns:List Int} {Q:al->ar->Prop} (QK:∀QL:List al->ar->Prop,(∀us xs h' d' tk,RS us xs->xs.Perm ns->(∀b o,s.heap.get? b=some o->h'.get? b=some o)->QL us {s with heap:=h',drawn:=d',toks:=tk})->wpAny (model P w) A.in1 (collect a) QL E s) (JT:ns.length<64)
  (h:∀(h1 h':gc) d' tk (us:List al) e,RS us (sortI ns)->(∀b o,s.heap.get? b=some o->h1.get? b=some o)->(∀b o,h1.get? b=some o->h'.get? b=some o)->h'.get? h1.objs.size=some {cls:=.type "list",data:=.seq us.toArray e}->Q (.ref h1.objs.size) {s with heap:=h',drawn:=d',toks:=tk}) :
  wpAny (model P w) A (call (.builtin "sorted") [a]) Q E s :=by
 refine Calls.call_function_entry kind_sorted plain_sorted entry_sorted (args_sorted1 _) ?_
 unfold u4.«sorted»
 refine ap (m:=checkCount "sorted" 1 1 _) (br ?_)
 refine ap (QK _ fun us xs h' d' tk hI hp hk=>?_)
 have JU:us.length<64 :=by
  have:us.length=xs.length:=(mJ hI).length.symm.trans (ci _)
  rw [this,hp.length_eq]
  exact JT
 refine ap (wpAny_newList ?_ (hsz:=uu (Re JU) (by decide)))
 have zU:(h'.push (seqObj "list" us.toArray 0)).get? h'.objs.size=some (seqObj "list" us.toArray 0):=dL _ rfl
 refine ap (Db (wS slot_list_sort ⟨_,zU,rfl⟩ entry_list_sort (list_sort_tree zU hI JU fun out Uu a1 a2 a3=>⟨_,rfl,?_⟩) (args_list_sort _)))
 refine br ⟨_,rfl,?_⟩
 obtain ⟨e,he⟩:=sortedHeap_at (out:=out) zU
 refine h h' _ d' tk out.toList e (by rw [<- uR (a2.trans hp) a3];exact a1) hk (fun b o hb=>?_) (by simpa using he)
 have bb:=ge hb
 rw [sortedHeap_old (i4 bb) (by rw [Nl];exact Me bb)]
 exact bn _ hb
end
theorem yQ {P:c8} {w:ff} {h:gc} {a:ac} {ns:List Int} (x:cq P w h a ns):∃o,h.get? a=some o:=let ⟨o,_,_,_,e,_⟩:=x;⟨o,e⟩
theorem GK {P:c8} {w:ff} {H:Hp} {h:gc} {a:ac} {ns:List Int} (x:cq P w h a ns):ObjOk P w H h a (oI P w a ns):=⟨x,yQ x,fun h1 h2 y k=>y.b9 k⟩
theorem GL {X:Cx} {pins:List (ac×im)} {σ:St} {H:Hp} {s:ar} {a:ac} {ns:List Int} (I:Inv X pins σ H s) (h:H a=some (oI X.prog X.w a ns)):cq X.prog X.w s.heap a ns:=(I.hok a _ h).1
inductive Dt where
 |av|bl (b:Bool)|int (i:Int)|str (x:bi)|lst (xs:List Dt)|tup (xs:List Dt)
inductive eB (H:Hp):V->Dt->Prop where
 |av:eB H .av .av
 |bl (b:Bool):eB H (.bl b) (.bl b)
 |int (i:Int):eB H (.int i) (.int i)
 |str (x:bi):eB H (.str x) (.str x)
 |lst {a:ac} {xs:List V} {ds:List Dt} (e:H a=some (.lst xs)) (hl:xs.length=ds.length) (h:∀(i:Nat) (x:V) (d:Dt),xs[i]?=some x->ds[i]?=some d->eB H x d):eB H (.ref a) (.lst ds)
 |tup {a:ac} {xs:List V} {ds:List Dt} (e:H a=some (.tup xs)) (hl:xs.length=ds.length) (h:∀(i:Nat) (x:V) (d:Dt),xs[i]?=some x->ds[i]?=some d->eB H x d):eB H (.ref a) (.tup ds)
mutual
def dE:Dt->Dt->Bool
 | .av,.av=>true
 | .bl a,.bl b=>a==b
 | .bl a,.int b=>(if a then 1 else 0)==b
 | .int a,.bl b=>a==(if b then 1 else 0)
 | .int a,.int b=>a==b
 | .str a,.str b=>a==b
 | .lst xs,.lst ys=>jm xs ys
 | .tup xs,.tup ys=>jm xs ys
 |_,_=>false
def jm:List Dt->List Dt->Bool
 | [],[]=>true
 |x::xs,y::ys=>dE x y && jm xs ys
 |_,_=>false
end
mutual
theorem k7:∀d:Dt,dE d d=true
 | .av=>by simp [dE]
 | .bl b=>by simp [dE]
 | .int i=>by simp [dE]
 | .str x=>by simp [dE]
 | .lst xs=>by simp only [dE];exact mK xs
 | .tup xs=>by simp only [dE];exact mK xs
theorem mK:∀ds:List Dt,jm ds ds=true
 | []=>by simp [jm]
 |d::ds=>by simp only [jm];rw [k7 d,mK ds];rfl
end
theorem dY:∀(xs ys:List Dt),jm xs ys=((l9 (min xs.length ys.length)).all (fun j=>dE (xs.getD j .av) (ys.getD j .av)) && xs.length==ys.length)
 | [],[]=>by simp [jm]
 | [],_::_=>by simp [jm]
 |_::_,[]=>by simp [jm]
 |x::xs,y::ys=>by
          rw [jm,dY xs ys]
          have e:min (x::xs).length (y::ys).length=min xs.length ys.length+1 :=by simp [Nat.succ_min_succ]
          rw [e,List.range_succ_eq_map,List.all_cons,List.all_map]
          have e2:((x::xs).length==(y::ys).length)=(xs.length==ys.length) :=by simp
          rw [e2,Bool.and_assoc]
          rfl
theorem eB.inj {H:Hp} {v:V} {d:Dt} (h:eB H v d):∀{d':Dt},eB H v d'->d=d':=by
 induction h with
 |av=>intro d' h';cases h';rfl
 |bl b=>intro d' h';cases h';rfl
 |int i=>intro d' h';cases h';rfl
 |str x=>intro d' h';cases h';rfl
 |lst e hl h ih=>
  intro d' h'
  cases h' with
  |lst e' JV h'=>
   rw [e] at e';cases e'
   congr 1
   refine VW fun i=>?_
   rename_i xs ds ds'
   by_cases hi:i<xs.length
   ·rw [ag (by omega),ag (by omega)]
    exact congrArg some (ih i _ _ (ag hi) (ag (by omega)) (h' i _ _ (ag hi) (ag (by omega))))
   ·rw [FM (by omega),FM (by omega)]
  |tup e' JV h'=>rw [e] at e';cases e'
 |tup e hl h ih=>
  intro d' h'
  cases h' with
  |lst e' JV h'=>rw [e] at e';cases e'
  |tup e' JV h'=>
   rw [e] at e';cases e'
   congr 1
   refine VW fun i=>?_
   rename_i xs ds ds'
   by_cases hi:i<xs.length
   ·rw [ag (by omega),ag (by omega)]
    exact congrArg some (ih i _ _ (ag hi) (ag (by omega)) (h' i _ _ (ag hi) (ag (by omega))))
   ·rw [FM (by omega),FM (by omega)]
mutual
def iH:Dt->Nat
 | .lst xs=>fq xs+1
 | .tup xs=>fq xs+1
 |_=>0
def fq:List Dt->Nat
 | []=>0
 |x::xs=>max (iH x) (fq xs)
end
theorem jn:∀{ds:List Dt} {i:Nat} {d:Dt},ds[i]?=some d->iH d<=fq ds
 | [],_,_,h=>by simp at h
 |x::xs,0,d,h=>by
          simp at h;subst h
          rw [fq];exact Nat.le_max_left _ _
 |x::xs,i+1,d,h=>by
          rw [fq]
          exact uu (jn (i:=i) (by simpa using h)) (Nat.le_max_right _ _)
section
variable {X:Cx} {pins:List (ac×im)} {σ:St} {H:Hp} {s:ar}
theorem Inv.lists (I:Inv X pins σ H s) {a:ac} {xs:List V} (h:H a=some (.lst xs)):∃its:List al,Vals xs its/\s.heap.IsList a its.toArray :=by
 obtain ⟨its,rv,p,_⟩:=I.list (bN.of h)
 exact ⟨its,rv,p.isList⟩
theorem Inv.tups (I:Inv X pins σ H s) {a:ac} {xs:List V} (h:H a=some (.tup xs)):∃its:List al,Vals xs its/\s.heap.IsTuple a its.toArray :=by
 obtain ⟨its,rv,p,_⟩:=I.tuple (cM.of h)
 exact ⟨its,rv,p⟩
theorem pU (I:Inv X pins σ H s) {x y:V} {d:Dt} (hx:eB H x d):∀{e:Dt} {u v:al} {A:l4},eB H y e->RelV x u->RelV y v->A.units+iH d<cLine->i8 A s u v (dE d e) :=by
 have lists:=fun {a:ac} {xs:List V} (h:H a=some (.lst xs))=>I.lists h
 have tups:=fun {a:ac} {xs:List V} (h:H a=some (.tup xs))=>I.tups h
 induction hx generalizing y with
 |av=>
  intro e u v A hy rx ry hu
  have aV:A.units<cLine :=by omega
  cases rx
  cases hy with
  |av=>cases ry;exact Wh _
  |bl b=>cases ry;exact i8.none_bool _
  |int i=>obtain ⟨t,rfl⟩:=ry;exact i8.none_int _ _
  |str z=>obtain ⟨t,rfl⟩:=ry;exact i8.none_str _ _
  |lst e2 _ _=>cases ry;obtain ⟨_,_,p⟩:=lists e2;exact i8.none_list p aV
  |tup e2 _ _=>cases ry;obtain ⟨_,_,p⟩:=tups e2;exact i8.none_tuple p aV
 |bl a=>
  intro e u v A hy rx ry hu
  have aV:A.units<cLine :=by omega
  cases rx
  cases hy with
  |av=>cases ry;exact i8.bool_none _
  |bl b=>cases ry;exact i8.bool_bool _ _
  |int i=>obtain ⟨t,rfl⟩:=ry;exact i8.bool_int _ _ _
  |str z=>obtain ⟨t,rfl⟩:=ry;exact i8.bool_str _ _ _
  |lst e2 _ _=>cases ry;obtain ⟨_,_,p⟩:=lists e2;exact i8.bool_list _ p aV
  |tup e2 _ _=>cases ry;obtain ⟨_,_,p⟩:=tups e2;exact i8.bool_tuple _ p aV
 |int a=>
  intro e u v A hy rx ry hu
  have aV:A.units<cLine :=by omega
  obtain ⟨ta,rfl⟩:=rx
  cases hy with
  |av=>cases ry;exact i8.int_none _ _
  |bl b=>cases ry;exact i8.int_bool _ _ _
  |int i=>obtain ⟨t,rfl⟩:=ry;exact i8.int_int _ _ _ _
  |str z=>obtain ⟨t,rfl⟩:=ry;exact i8.int_str _ _ _ _
  |lst e2 _ _=>cases ry;obtain ⟨_,_,p⟩:=lists e2;exact i8.int_list _ _ p aV
  |tup e2 _ _=>cases ry;obtain ⟨_,_,p⟩:=tups e2;exact i8.int_tuple _ _ p aV
 |str a=>
  intro e u v A hy rx ry hu
  have aV:A.units<cLine :=by omega
  obtain ⟨ta,rfl⟩:=rx
  cases hy with
  |av=>cases ry;exact i8.str_none _ _
  |bl b=>cases ry;exact i8.str_bool _ _ _
  |int i=>obtain ⟨t,rfl⟩:=ry;exact i8.str_int _ _ _ _
  |str z=>obtain ⟨t,rfl⟩:=ry;exact i8.str_str _ _ _ _
  |lst e2 _ _=>cases ry;obtain ⟨_,_,p⟩:=lists e2;exact i8.str_list _ _ p aV
  |tup e2 _ _=>cases ry;obtain ⟨_,_,p⟩:=tups e2;exact i8.str_tuple _ _ p aV
 |lst e1 jU h1 ih=>
  rename_i a xs ds
  intro e u v A hy rx ry hu
  have aV:A.units<cLine :=by omega
  have AJ:A.units+fq ds+1<cLine :=by rw [iH] at hu;omega
  cases rx
  obtain ⟨its,rv,p⟩:=lists e1
  cases hy with
  |av=>cases ry;exact i8.list_none p aV
  |bl b=>cases ry;exact i8.list_bool _ p aV
  |int i=>obtain ⟨t,rfl⟩:=ry;exact i8.list_int _ _ p aV
  |str z=>obtain ⟨t,rfl⟩:=ry;exact i8.list_str _ _ p aV
  |lst e2 gN h2=>
   rename_i b ys es
   cases ry
   by_cases uS:a=b
   ·subst uS
    have:=(eB.lst e1 jU h1).inj (eB.lst e2 gN h2)
    cases this
    rw [k7]
    exact Wh _
   ·obtain ⟨cG,gr,p2⟩:=lists e2
    have l1:=rv.length
    have l2:=gr.length
    have at_:∀j (g1:j<its.toArray.size) (g2:j<cG.toArray.size),i8 A.in1 s its.toArray[j] cG.toArray[j] (dE (ds.getD j .av) (es.getD j .av)):=fun j g1 g2=>by
     have ie:j<xs.length :=by rw [l1];simpa using g1
     have ig:j<ys.length :=by rw [l2];simpa using g2
     have r1:=cn rv g1
     have r2:=cn gr g2
     rw [ce,ag ie] at r1
     rw [ce,ag ig] at r2
     have d1:ds[j]?=some ds[j]:=ag (by omega)
     have d2:es[j]?=some es[j]:=ag (by omega)
     rw [ce,ce,d1,d2]
     have:=jn d1
     exact ih j _ _ (ag ie) d1 (h2 j _ _ (ag ig) d2) r1 r2 (by show A.units+1+_<cLine;omega)
    refine i8.of_refs uS ?_
    rw [dE,dY]
    by_cases hsz:ds.length=es.length
    ·have q:=lw.lists p p2 (by simp only [db];omega) aV at_
     have z:(ds.length==es.length)=true :=by simpa using hsz
     rw [z,Bool.and_true,<- hsz,KM]
     rw [db,<- l1,jU] at q
     exact q
    ·have z:(ds.length==es.length)=false :=by simpa using hsz
     rw [z,Vx]
     exact lw.lists_lengths p p2 (by simp only [db];simpa [bne_iff_ne] using (show its.length≠cG.length by omega)) aV
  |tup e2 gN h2=>cases ry;obtain ⟨_,_,p2⟩:=tups e2;exact i8.list_tuple p p2 aV
 |tup e1 jU h1 ih=>
  rename_i a xs ds
  intro e u v A hy rx ry hu
  have aV:A.units<cLine :=by omega
  have AJ:A.units+fq ds+1<cLine :=by rw [iH] at hu;omega
  cases rx
  obtain ⟨its,rv,p⟩:=tups e1
  cases hy with
  |av=>cases ry;exact i8.tuple_none p aV
  |bl b=>cases ry;exact i8.tuple_bool _ p aV
  |int i=>obtain ⟨t,rfl⟩:=ry;exact i8.tuple_int _ _ p aV
  |str z=>obtain ⟨t,rfl⟩:=ry;exact i8.tuple_str _ _ p aV
  |lst e2 gN h2=>cases ry;obtain ⟨_,_,p2⟩:=lists e2;exact i8.tuple_list p p2 aV
  |tup e2 gN h2=>
   rename_i b ys es
   cases ry
   by_cases uS:a=b
   ·subst uS
    have:=(eB.tup e1 jU h1).inj (eB.tup e2 gN h2)
    cases this
    rw [k7]
    exact Wh _
   ·obtain ⟨cG,gr,p2⟩:=tups e2
    have l1:=rv.length
    have l2:=gr.length
    have at_:∀j (g1:j<its.toArray.size) (g2:j<cG.toArray.size),i8 A.in1 s its.toArray[j] cG.toArray[j] (dE (ds.getD j .av) (es.getD j .av)):=fun j g1 g2=>by
     have ie:j<xs.length :=by rw [l1];simpa using g1
     have ig:j<ys.length :=by rw [l2];simpa using g2
     have r1:=cn rv g1
     have r2:=cn gr g2
     rw [ce,ag ie] at r1
     rw [ce,ag ig] at r2
     have d1:ds[j]?=some ds[j]:=ag (by omega)
     have d2:es[j]?=some es[j]:=ag (by omega)
     rw [ce,ce,d1,d2]
     have:=jn d1
     exact ih j _ _ (ag ie) d1 (h2 j _ _ (ag ig) d2) r1 r2 (by show A.units+1+_<cLine;omega)
    refine i8.of_refs uS ?_
    rw [dE,dY]
    have q:=lw.tuples p p2 aV at_
    rw [db,db,<- l1,<- l2,jU,gN] at q
    exact q
end
section
variable {X:Cx} {pins:List (ac×im)} {σ:St} {H:Hp} {s:ar}
theorem JW (I:Inv X pins σ H s) {x y:V} {d e:Dt} {u v:al} {A:l4} (hx:eB H x d) (hy:eB H y e) (rx:RelV x u) (ry:RelV y v) (hu:A.units+iH d<cLine):lw A s u v (dE d e) :=by
 have aV:A.units<cLine :=by omega
 have lists:=fun {a:ac} {xs:List V} (h:H a=some (.lst xs))=>I.lists h
 have tups:=fun {a:ac} {xs:List V} (h:H a=some (.tup xs))=>I.tups h
 cases hx with
 |av=>
  cases rx
  cases hy with
  |av=>cases ry;exact lw.none_none
  |bl b=>cases ry;exact lw.none_bool _
  |int b=>obtain ⟨t,rfl⟩:=ry;exact lw.none_int _ _
  |str b=>obtain ⟨t,rfl⟩:=ry;exact lw.none_str _ _
  |lst e2 _ _=>cases ry;obtain ⟨_,_,p⟩:=lists e2;exact lw.none_list p aV
  |tup e2 _ _=>cases ry;obtain ⟨_,_,p⟩:=tups e2;exact lw.none_tuple p aV
 |bl a=>
  cases rx
  cases hy with
  |av=>cases ry;exact lw.bool_none _
  |bl b=>cases ry;exact lw.bool_bool _ _
  |int b=>obtain ⟨t,rfl⟩:=ry;exact lw.bool_int _ _ _
  |str b=>obtain ⟨t,rfl⟩:=ry;exact lw.bool_str _ _ _
  |lst e2 _ _=>cases ry;obtain ⟨_,_,p⟩:=lists e2;exact lw.bool_list _ p aV
  |tup e2 _ _=>cases ry;obtain ⟨_,_,p⟩:=tups e2;exact lw.bool_tuple _ p aV
 |int a=>
  obtain ⟨ta,rfl⟩:=rx
  cases hy with
  |av=>cases ry;exact lw.int_none _ _
  |bl b=>cases ry;exact lw.int_bool _ _ _
  |int b=>obtain ⟨t,rfl⟩:=ry;exact lw.int_int _ _ _ _
  |str b=>obtain ⟨t,rfl⟩:=ry;exact lw.int_str _ _ _ _
  |lst e2 _ _=>cases ry;obtain ⟨_,_,p⟩:=lists e2;exact lw.int_list _ _ p aV
  |tup e2 _ _=>cases ry;obtain ⟨_,_,p⟩:=tups e2;exact lw.int_tuple _ _ p aV
 |str a=>
  obtain ⟨ta,rfl⟩:=rx
  cases hy with
  |av=>cases ry;exact lw.str_none _ _
  |bl b=>cases ry;exact lw.str_bool _ _ _
  |int b=>obtain ⟨t,rfl⟩:=ry;exact lw.str_int _ _ _ _
  |str b=>obtain ⟨t,rfl⟩:=ry;exact lw.str_str _ _ _ _
  |lst e2 _ _=>cases ry;obtain ⟨_,_,p⟩:=lists e2;exact lw.str_list _ _ p aV
  |tup e2 _ _=>cases ry;obtain ⟨_,_,p⟩:=tups e2;exact lw.str_tuple _ _ p aV
 |lst e1 jU h1=>
  rename_i a xs ds
  have AJ:A.units+fq ds+1<cLine :=by rw [iH] at hu;omega
  cases rx
  obtain ⟨its,rv,p⟩:=lists e1
  cases hy with
  |av=>cases ry;exact lw.list_none p aV
  |bl b=>cases ry;exact lw.list_bool _ p aV
  |int b=>obtain ⟨t,rfl⟩:=ry;exact lw.list_int _ _ p aV
  |str b=>obtain ⟨t,rfl⟩:=ry;exact lw.list_str _ _ p aV
  |lst e2 gN h2=>
   rename_i b ys es
   cases ry
   obtain ⟨cG,gr,p2⟩:=lists e2
   have l1:=rv.length
   have l2:=gr.length
   have at_:∀j (g1:j<its.toArray.size) (g2:j<cG.toArray.size),i8 A.in1 s its.toArray[j] cG.toArray[j] (dE (ds.getD j .av) (es.getD j .av)):=fun j g1 g2=>by
    have ie:j<xs.length :=by rw [l1];simpa using g1
    have ig:j<ys.length :=by rw [l2];simpa using g2
    have r1:=cn rv g1
    have r2:=cn gr g2
    rw [ce,ag ie] at r1
    rw [ce,ag ig] at r2
    have d1:ds[j]?=some ds[j]:=ag (by omega)
    have d2:es[j]?=some es[j]:=ag (by omega)
    rw [ce,ce,d1,d2]
    have:=jn d1
    exact pU I (h1 j _ _ (ag ie) d1) (h2 j _ _ (ag ig) d2) r1 r2 (by show A.units+1+_<cLine;omega)
   rw [dE,dY]
   by_cases hsz:ds.length=es.length
   ·have q:=lw.lists p p2 (by simp only [db];omega) aV at_
    have z:(ds.length==es.length)=true :=by simpa using hsz
    rw [z,Bool.and_true,<- hsz,KM]
    rw [db,<- l1,jU] at q
    exact q
   ·have z:(ds.length==es.length)=false :=by simpa using hsz
    rw [z,Vx]
    exact lw.lists_lengths p p2 (by simp only [db];simpa [bne_iff_ne] using (show its.length≠cG.length by omega)) aV
  |tup e2 gN h2=>cases ry;obtain ⟨_,_,p2⟩:=tups e2;exact lw.list_tuple p p2 aV
 |tup e1 jU h1=>
  rename_i a xs ds
  have AJ:A.units+fq ds+1<cLine :=by rw [iH] at hu;omega
  cases rx
  obtain ⟨its,rv,p⟩:=tups e1
  cases hy with
  |av=>cases ry;exact lw.tuple_none p aV
  |bl b=>cases ry;exact lw.tuple_bool _ p aV
  |int b=>obtain ⟨t,rfl⟩:=ry;exact lw.tuple_int _ _ p aV
  |str b=>obtain ⟨t,rfl⟩:=ry;exact lw.tuple_str _ _ p aV
  |lst e2 gN h2=>cases ry;obtain ⟨_,_,p2⟩:=lists e2;exact lw.tuple_list p p2 aV
  |tup e2 gN h2=>
   rename_i b ys es
   cases ry
   obtain ⟨cG,gr,p2⟩:=tups e2
   have l1:=rv.length
   have l2:=gr.length
   have at_:∀j (g1:j<its.toArray.size) (g2:j<cG.toArray.size),i8 A.in1 s its.toArray[j] cG.toArray[j] (dE (ds.getD j .av) (es.getD j .av)):=fun j g1 g2=>by
    have ie:j<xs.length :=by rw [l1];simpa using g1
    have ig:j<ys.length :=by rw [l2];simpa using g2
    have r1:=cn rv g1
    have r2:=cn gr g2
    rw [ce,ag ie] at r1
    rw [ce,ag ig] at r2
    have d1:ds[j]?=some ds[j]:=ag (by omega)
    have d2:es[j]?=some es[j]:=ag (by omega)
    rw [ce,ce,d1,d2]
    have:=jn d1
    exact pU I (h1 j _ _ (ag ie) d1) (h2 j _ _ (ag ig) d2) r1 r2 (by show A.units+1+_<cLine;omega)
   rw [dE,dY]
   have q:=lw.tuples p p2 aV at_
   rw [db,db,<- l1,<- l2,jU,gN] at q
   exact q
theorem JX (I:Inv X pins σ H s) {x y:V} {d e:Dt} {u v:al} {A:l4} (hx:eB H x d) (hy:eB H y e) (rx:RelV x u) (ry:RelV y v) (hu:A.units+iH d<cLine):i1 A s u v (!(dE d e)) :=by
 have aV:A.units<cLine :=by omega
 have lists:=fun {a:ac} {xs:List V} (h:H a=some (.lst xs))=>I.lists h
 have tups:=fun {a:ac} {xs:List V} (h:H a=some (.tup xs))=>I.tups h
 cases hx with
 |av=>
  cases rx
  cases hy with
  |av=>cases ry;exact i1.none_none
  |bl b=>cases ry;exact i1.none_bool _
  |int b=>obtain ⟨t,rfl⟩:=ry;exact i1.none_int _ _
  |str b=>obtain ⟨t,rfl⟩:=ry;exact i1.none_str _ _
  |lst e2 _ _=>cases ry;obtain ⟨_,_,p⟩:=lists e2;exact i1.none_list p aV
  |tup e2 _ _=>cases ry;obtain ⟨_,_,p⟩:=tups e2;exact i1.none_tuple p aV
 |bl a=>
  cases rx
  cases hy with
  |av=>cases ry;exact i1.bool_none _
  |bl b=>cases ry;exact i1.bool_bool _ _
  |int b=>obtain ⟨t,rfl⟩:=ry;exact i1.bool_int _ _ _
  |str b=>obtain ⟨t,rfl⟩:=ry;exact i1.bool_str _ _ _
  |lst e2 _ _=>cases ry;obtain ⟨_,_,p⟩:=lists e2;exact i1.bool_list _ p aV
  |tup e2 _ _=>cases ry;obtain ⟨_,_,p⟩:=tups e2;exact i1.bool_tuple _ p aV
 |int a=>
  obtain ⟨ta,rfl⟩:=rx
  cases hy with
  |av=>cases ry;exact i1.int_none _ _
  |bl b=>cases ry;exact i1.int_bool _ _ _
  |int b=>obtain ⟨t,rfl⟩:=ry;exact i1.int_int _ _ _ _
  |str b=>obtain ⟨t,rfl⟩:=ry;exact i1.int_str _ _ _ _
  |lst e2 _ _=>cases ry;obtain ⟨_,_,p⟩:=lists e2;exact i1.int_list _ _ p aV
  |tup e2 _ _=>cases ry;obtain ⟨_,_,p⟩:=tups e2;exact i1.int_tuple _ _ p aV
 |str a=>
  obtain ⟨ta,rfl⟩:=rx
  cases hy with
  |av=>cases ry;exact i1.str_none _ _
  |bl b=>cases ry;exact i1.str_bool _ _ _
  |int b=>obtain ⟨t,rfl⟩:=ry;exact i1.str_int _ _ _ _
  |str b=>obtain ⟨t,rfl⟩:=ry;exact i1.str_str _ _ _ _
  |lst e2 _ _=>cases ry;obtain ⟨_,_,p⟩:=lists e2;exact i1.str_list _ _ p aV
  |tup e2 _ _=>cases ry;obtain ⟨_,_,p⟩:=tups e2;exact i1.str_tuple _ _ p aV
 |lst e1 jU h1=>
  rename_i a xs ds
  have AJ:A.units+fq ds+1<cLine :=by rw [iH] at hu;omega
  cases rx
  obtain ⟨its,rv,p⟩:=lists e1
  cases hy with
  |av=>cases ry;exact i1.list_none p aV
  |bl b=>cases ry;exact i1.list_bool _ p aV
  |int b=>obtain ⟨t,rfl⟩:=ry;exact i1.list_int _ _ p aV
  |str b=>obtain ⟨t,rfl⟩:=ry;exact i1.list_str _ _ p aV
  |lst e2 gN h2=>
   rename_i b ys es
   cases ry
   obtain ⟨cG,gr,p2⟩:=lists e2
   have l1:=rv.length
   have l2:=gr.length
   have at_:∀j (g1:j<its.toArray.size) (g2:j<cG.toArray.size),i8 A.in1 s its.toArray[j] cG.toArray[j] (dE (ds.getD j .av) (es.getD j .av)):=fun j g1 g2=>by
    have ie:j<xs.length :=by rw [l1];simpa using g1
    have ig:j<ys.length :=by rw [l2];simpa using g2
    have r1:=cn rv g1
    have r2:=cn gr g2
    rw [ce,ag ie] at r1
    rw [ce,ag ig] at r2
    have d1:ds[j]?=some ds[j]:=ag (by omega)
    have d2:es[j]?=some es[j]:=ag (by omega)
    rw [ce,ce,d1,d2]
    have:=jn d1
    exact pU I (h1 j _ _ (ag ie) d1) (h2 j _ _ (ag ig) d2) r1 r2 (by show A.units+1+_<cLine;omega)
   rw [dE,dY]
   by_cases hsz:ds.length=es.length
   ·have q:=i1.lists p p2 (by simp only [db];omega) aV at_
    have z:(ds.length==es.length)=true :=by simpa using hsz
    rw [z,Bool.and_true,<- hsz,KM]
    rw [db,<- l1,jU] at q
    exact q
   ·have z:(ds.length==es.length)=false :=by simpa using hsz
    rw [z,Vx]
    exact i1.lists_lengths p p2 (by simp only [db];simpa [bne_iff_ne] using (show its.length≠cG.length by omega)) aV
  |tup e2 gN h2=>cases ry;obtain ⟨_,_,p2⟩:=tups e2;exact i1.list_tuple p p2 aV
 |tup e1 jU h1=>
  rename_i a xs ds
  have AJ:A.units+fq ds+1<cLine :=by rw [iH] at hu;omega
  cases rx
  obtain ⟨its,rv,p⟩:=tups e1
  cases hy with
  |av=>cases ry;exact i1.tuple_none p aV
  |bl b=>cases ry;exact i1.tuple_bool _ p aV
  |int b=>obtain ⟨t,rfl⟩:=ry;exact i1.tuple_int _ _ p aV
  |str b=>obtain ⟨t,rfl⟩:=ry;exact i1.tuple_str _ _ p aV
  |lst e2 gN h2=>cases ry;obtain ⟨_,_,p2⟩:=lists e2;exact i1.tuple_list p p2 aV
  |tup e2 gN h2=>
   rename_i b ys es
   cases ry
   obtain ⟨cG,gr,p2⟩:=tups e2
   have l1:=rv.length
   have l2:=gr.length
   have at_:∀j (g1:j<its.toArray.size) (g2:j<cG.toArray.size),i8 A.in1 s its.toArray[j] cG.toArray[j] (dE (ds.getD j .av) (es.getD j .av)):=fun j g1 g2=>by
    have ie:j<xs.length :=by rw [l1];simpa using g1
    have ig:j<ys.length :=by rw [l2];simpa using g2
    have r1:=cn rv g1
    have r2:=cn gr g2
    rw [ce,ag ie] at r1
    rw [ce,ag ig] at r2
    have d1:ds[j]?=some ds[j]:=ag (by omega)
    have d2:es[j]?=some es[j]:=ag (by omega)
    rw [ce,ce,d1,d2]
    have:=jn d1
    exact pU I (h1 j _ _ (ag ie) d1) (h2 j _ _ (ag ig) d2) r1 r2 (by show A.units+1+_<cLine;omega)
   rw [dE,dY]
   have q:=i1.tuples p p2 aV at_
   rw [db,db,<- l1,<- l2,jU,gN] at q
   exact q
end
section
variable {X:Cx}
def DJ (neg:Bool):R2:=fun x y H Q=>∃d e,eB H x d/\eB H y e/\iH d<=60/\Q (.bl (if neg then !dE d e else dE d e)) H
theorem Sa (hu:X.A.units+64<cLine):OpR X (compareOp .Eq) (DJ false) :=by
 intro pins s σ H x y v u Q I rx ry h
 obtain ⟨d,e,hx,hy,hd,q⟩:=h
 exact JW I hx hy rx ry (by omega) X.prog X.w X.xe _ ⟨.bl _,H,I,rfl,q⟩
theorem JY (hu:X.A.units+64<cLine):OpR X (compareOp .NotEq) (DJ true) :=by
 intro pins s σ H x y v u Q I rx ry h
 obtain ⟨d,e,hx,hy,hd,q⟩:=h
 exact JX I hx hy rx ry (by omega) X.prog X.w X.xe _ ⟨.bl _,H,I,rfl,q⟩
end
theorem JZ:bootBuiltins "set" = some (.type "set") :=by decide +kernel
theorem sg:bootBuiltins "sorted" = some (.builtin "sorted") :=by decide +kernel
section
variable {X:Cx}
def AK (K:ba) (H:Hp) (p:ac) (ns:List Int):Prop:=bN K H p (ns.map V.int)\/cM K H p (ns.map V.int)
def uT (P:c8) (w:ff) (K:ba):List V->Hp->VK->Prop:=fun xs H Q=>∃p ns,xs=[.ref p]/\AK K H p ns/\ns.length+1<scanBound/\∀l,H l=none->Q (.ref l) (upd H l (oI P w l (cV ns)))
theorem uU {ns:List Int} {us:List al} (r:Vals (ns.map V.int) us):∀(i:Nat) (v:al),us.toArray[i]?=some v->∃m t,ns[i]?=some m/\v=.int m t:=fun i v h=>by
 have hl:=r.length
 have h':us[i]?=some v :=by simpa using h
 have hi:i<us.length:=(bv.mp h').1
 have eT:i<ns.length :=by rw [ci] at hl;omega
 obtain ⟨u,e,q⟩:=r.get (i:=i) (x:=V.int ns[i]) (by rw [ca,ag eT];rfl)
 rw [h'] at e;cases e
 obtain ⟨t,rfl⟩:=q
 exact ⟨_,t,ag eT,rfl⟩
theorem AO (hc:X.calm=true):dj X (.type "set") (uT X.prog X.w X.K) :=by
 intro pins s σ H xs us Q I r h
 obtain ⟨p,ns,rfl,hq,hb,q⟩:=h
 obtain ⟨u,rfl,rx⟩:=vals1 r
 cases rx
 have fin:∀(h':gc) (tk:Nat),cq X.prog X.w h' s.heap.objs.size (cV ns)->(∀b o,s.heap.get? b=some o->h'.get? b=some o)->EP X pins σ Q (.ref s.heap.objs.size) {s with heap:=h',toks:=tk}:=fun h' tk hM hk=>
  ⟨.ref s.heap.objs.size,_,I.laid (t':=tk) hk (cb _) (GK hM),rfl,q _ (I.hok.fresh (cb _))⟩
 have hh:=I.ok.hd hc
 rcases hq with hq|hq
 ·obtain ⟨its,rv,pl,hz⟩:=I.list hq
  have hl:its.toArray.size=ns.length :=by rw [db,<- rv.length,ci]
  obtain ⟨o,ho,dD,n,hd⟩:=pl.isList
  refine mG (T := "list") (vs:=ns) (itob:={cls:=.type "list_iterator",data:=.fields #[.ref p,.int 0 0]}) (Pv:=fun i v=>its.toArray[i]?=some v) (St:=fun I i h=>h.IsListIter I p i/\h.IsList p its.toArray) hh ⟨o,ho⟩ (fun s1 k=>⟨o,k o ho,dD⟩) F.sub_list_set F.sub_list_frozenset (by decide)
   (fun A' s1 Q' E' k AQ=>wpAny_pyIter_list ⟨o,k o ho,dD,n,hd⟩ AQ) (fun A' I' hA fA=>hl▸Wx.list hA I' p fA its.toArray) (fun h1 k=>⟨⟨_,dL _ rfl,rfl,rfl⟩,⟨o,bn _ (k o ho),dD,n,hd⟩⟩) (uU rv) hb fin
 ·obtain ⟨its,rv,pl,hz⟩:=I.tuple hq
  have hl:its.toArray.size=ns.length :=by rw [db,<- rv.length,ci]
  obtain ⟨o,ho,dD,n,hd⟩:=pl
  refine mG (T := "tuple") (vs:=ns) (itob:={cls:=.type "tuple_iterator",data:=.fields #[.ref p,.int 0 0]}) (Pv:=fun i v=>its.toArray[i]?=some v) (St:=fun I i h=>h.IsTupleIter I p i/\h.IsTuple p its.toArray) hh ⟨o,ho⟩ (fun s1 k=>⟨o,k o ho,dD⟩) sub_tuple_set qO (by decide)
   (fun A' s1 Q' E' k AQ=>UK ⟨o,k o ho,dD,n,hd⟩ AQ) (fun A' I' hA fA=>hl▸Wx.tuple hA I' p fA its.toArray) (fun h1 k=>⟨⟨_,dL _ rfl,rfl,rfl⟩,⟨o,bn _ (k o ho),dD,n,hd⟩⟩) (uU rv) hb fin
def xB (P:c8) (w:ff) (K:ba):List V->Hp->VK->Prop:=fun xs H Q=>∃p ns,xs=[.ref p]/\(H p=some (oI P w p ns)\/AK K H p ns)/\ns.length<64/\∀l,H l=none->Q (.ref l) (upd H l (.lst ((sortI ns).map V.int)))
theorem uV (hc:X.calm=true):dj X (.builtin "sorted") (xB X.prog X.w X.K) :=by
 intro pins s σ H xs us Q I r h
 obtain ⟨p,ns,rfl,hq,JT,q⟩:=h
 obtain ⟨u,rfl,rx⟩:=vals1 r
 cases rx
 have hh:=I.ok.hd hc
 refine yP (ns:=ns) (fun QL J0=>?_) JT (fun h1 h' d' tk us e hI k1 k2 he=>?_)
 ·rcases hq with hq|hq|hq
  ·exact wC (by simp [hh]) (GL I hq) (by have:sizeLine=16777216:=SO;omega) J0
  ·obtain ⟨its,rv,pl,hz⟩:=I.list hq
   have hl:=rv.length
   obtain ⟨o,ho,dD,n,hd⟩:=pl.isList
   exact ox ho dD hd (.inl rfl) (fun h' k=>J0 its ns h' s.drawn s.toks (pT rv) (.refl _) k) (by omega)
  ·obtain ⟨its,rv,pl,hz⟩:=I.tuple hq
   have hl:=rv.length
   obtain ⟨o,ho,dD,n,hd⟩:=pl
   exact ox ho dD hd (.inr rfl) (fun h' k=>J0 its ns h' s.drawn s.toks (pT rv) (.refl _) k) (by omega)
 ·have I1:Inv X pins σ H {s with heap:=h1,drawn:=d'}:=(I.kept (t':=s.toks) k1).ka ⟨rfl,rfl,I.bare.self⟩
  have hsz:sizeLine=16777216:=SO
  have ob:ObjOk X.prog X.w (upd H h1.objs.size (.lst ((sortI ns).map V.int))) h' h1.objs.size (.lst ((sortI ns).map V.int)):=⟨by rw [ci,(sortI_perm ns).length_eq];omega,us,e,mJ hI,he⟩
  exact ⟨.ref h1.objs.size,_,I1.laid (t':=tk) k2 (cb _) ob,rfl,q _ (I1.hok.fresh (cb _))⟩
def J1:V->List V->Hp->VK->Prop:=fun x vs H Q=>∃a b i rest,x=.str a/\vs=[.str b]/\Is a b 0 a.length 1=i::rest/\Q (.int (i:Nat)) H
theorem DK:Fc X "str.index" J1 :=by
 intro pins s σ H x vs v us Q I rx rv h
 obtain ⟨a,b,i,rest,rfl,rfl,ho,q⟩:=h
 obtain ⟨t,rfl⟩:=rx
 obtain ⟨u,rfl,ru⟩:=rv.one
 obtain ⟨t',rfl⟩:=ru
 exact SC.index ho ⟨.int i,H,I.tok _,⟨_,rfl⟩,q⟩
end
section
variable {X:Cx}
theorem yR {K:ba} (h:X.K=K) (hc:X.calm=true):dj X (.type "set") (uT X.prog X.w K):=h▸AO hc
end
theorem ObjOk.there {P:c8} {w:ff} {H:Hp} {h:gc} {a:ac} {o:HO} (x:ObjOk P w H h a o):∃u,h.get? a=some u :=by
 cases o with
 |lst xs=>obtain ⟨_,_,_,_,e⟩:=x;exact ⟨_,e⟩
 |tup xs=>obtain ⟨_,_,_,ob,e,_⟩:=x;exact ⟨_,e⟩
 |dK ao=>obtain ⟨_,_,_,_,o,_,_,e,_⟩:=x;exact ⟨_,e⟩
 |dT ao=>obtain ⟨_,_,_,_,o,_,_,e,_⟩:=x;exact ⟨_,e⟩
 |set S n=>obtain ⟨o,_,_,_,e,_⟩:=x;exact ⟨_,e⟩
 |ins C dx fs=>obtain ⟨_,_,_,e,_⟩:=x;exact ⟨_,e⟩
 |own y=>obtain ⟨_,e⟩:=x;exact ⟨_,e⟩
 |xd fs=>obtain ⟨_,⟨_,_,_,e,_⟩,_⟩:=x;exact ⟨_,e⟩
 |EZ lo hi=>obtain ⟨_,_,_,e⟩:=x;exact ⟨_,e⟩
 |bL ob u=>obtain ⟨e,_⟩:=x;exact ⟨_,e⟩
 |cF ps=>exact ⟨_,x⟩
 |lam ps=>exact ⟨_,x⟩
 |met f y=>exact ⟨_,x⟩
 |ext φ=>obtain ⟨_,⟨_,e⟩,_⟩:=x;exact ⟨_,e⟩
def cH (P:c8) (w:ff):fX:=fun outer H s E e s'=>∃(a C t:ac) (B:gc) (H':Hp),e=.ref a/\s'.os=s.os/\Gn s.gens.size s'.gens/\gc.FlyingW B outer a (.ref C) (.ref t) s'.heap /\
 (∀b o,s.heap.get? b=some o->b ∉ eh outer->∃o',B.get? b=some o')/\(∀b u,H' b=some u->∃o',B.get? b=some o')/\Un (eh outer) [] H H' s.heap s'.heap/\cL P w H' s'.heap/\E (.ref C) none H'
section
variable {X:Cx} {pins:List (ac×im)} {σ:St} {H H1:Hp} {s s1:ar} {B h':gc}
theorem Inv.mL (I:Inv X pins σ H s) {b:ac} (h1:b≠X.env.locals) (h2:b ∉ X.fs):b ∉ eh X.stack:=fun z=>by
 rcases l3.mp (I.hZ b z) with q|q
 ·exact h1 q
 ·exact h2 q
theorem Inv.tR (I:Inv X pins σ H s) {b:ac} {o:im} (e:X.s₀.heap.get? b=some o):b≠X.env.locals:=fun z=>by
 have l:=ge e
 have:=I.ok.above
 rw [<- z] at this
 exact absurd l (Ws.mpr this)
theorem Inv.OY (I1:Inv X pins σ H1 s1) (I:Inv X pins σ H s) (c1:∀b o,s1.heap.get? b=some o->b ∉ eh X.stack->∃o',B.get? b=some o') (c2:∀b u,H b=some u->∃o',B.get? b=some o')
  (k:B.StaysIn s.heap) (k':B.StaysIn h') (up:s.heap.UpToSlots h'):Inv X pins σ H {s with heap:=h'}:=by
 have same:∀b o',(∃o2,B.get? b=some o2)->s.heap.get? b=some o'->h'.get? b=some o':=fun b o' ⟨o2,e⟩ q=>by
  have z:=k b o2 e
  rw [q] at z
  cases z
  exact k' b _ e
 refine ⟨I.ok,I.os,I.bare,⟨fun b o q n hb hx=>?_,fun b o q n hb hx=>?_,I.base.free,fun b o q hx=>?_,I.base.tups,I.base.frzs,I.base.tbls⟩,?_,fun x c e=>?_,I.free,I.freeC,fun p hp=>?_,fun a o e=>?_,I.len⟩
 ·exact same b o (c1 b o (I1.base.keep b o q n hb hx) (I.mL (I.tR q) hb)) (I.base.keep b o q n hb hx)
 ·obtain ⟨sl,e⟩:=I.base.slot b o q n hb hx
  obtain ⟨_,o2,e2,nf⟩:=I.funs.mem hb
  rw [e] at e2
  cases e2
  obtain ⟨Sb,e4⟩:=up b {o with slots:=sl} e nf
  exact ⟨Sb,e4⟩
 ·obtain ⟨o',e⟩:=I.base.there b o q hx
  by_cases hb:b∈X.fs
  ·obtain ⟨_,o2,e2,nf⟩:=I.funs.mem hb
   obtain ⟨sl,e3⟩:=up b _ e2 nf
   exact ⟨_,e3⟩
  ·obtain ⟨o1,q1⟩:=I1.base.there b o q hx
   exact ⟨o',same b o' (c1 b o1 q1 (I.mL (I.tR q) hb)) e⟩
 ·obtain ⟨m,hn,hl⟩:=I.loc
  refine ⟨m,up.ns hn,fun i x v a b c=>?_⟩
  obtain ⟨u,r,l⟩:=hl i x v a b c
  refine ⟨u,r,?_⟩
  rcases l with l|⟨kd,c,ec,o,ho,hd⟩
  ·exact .inl l
  ·obtain ⟨sl,e⟩:=up c o ho fun vs z=>by rw [hd] at z;cases z
   exact .inr ⟨kd,c,ec,_,e,hd⟩
 ·obtain ⟨v,o,ho,hd⟩:=I.cell x c e
  obtain ⟨sl,e⟩:=up c o ho fun vs z=>by rw [hd] at z;cases z
  exact ⟨v,_,e,hd⟩
 ·obtain ⟨p1,p2,p3,p4,p5⟩:=I.pin p hp
  exact ⟨same p.1 p.2 (c1 p.1 p.2 (I1.pin p hp).1 (I.mL p3 p4)) p1,p2,p3,p4,p5⟩
 ·refine (I.hok a o e).b9 (fun b u hb q=>?_) (fun _ q=>q) fun _ _ q=>q
  rcases hb with z|z
  ·exact same b u (c2 b o (by rw [z];exact e)) q
  ·exact same b u (c2 b _ z) q
end
section
variable {P:c8} {w:ff} {K:ba} {mg:bi->Option al} {base:gc} {N:List bi} {qual:bi} {scope:wn} {f:ac} {cd:al} {A:l4} {outer:List IF} {s0:ar} {H0:Hp} {E:XK}
theorem gX:Passes (cH P w) (fo (cH P w) P w K mg base N qual scope f cd A outer s0 H0 E) E :=by
 intro pins σ H s e s' I h
 obtain ⟨a,C,t,B,H',rfl,os,gn,fl,c1,c2,un,hok,q⟩:=h
 have I':=I.yi (ch:=[]) os un hok gn (fun b z=>absurd z (by simp))
 refine wpAny_leaves_onW (cls:=.ref C) (a0:=.ref t) I.ok.frames rfl fl fun h' OZ up=>?_
 have I2:=I.OY I' c1 c2 fl.1 OZ.1 up
 refine ⟨a,C,t,B,H',rfl,I2.os,I2.bare,OZ,fun b o e n=>?_,c2,I2.base,I2.hok,q⟩
 obtain ⟨o1,e1⟩:=I.base.there b o e (fun z=>absurd (show b∈([]:List ac) from z) (by simp))
 exact c1 b o1 e1 (I.mL (I.tR e) n)
def Raises (X:Cx) (E:XK):Prop:=∀(pins:List (ac×im)) (σ:St) (H:Hp) (s:ar) (C:ac) (h':gc) (a:ac) (vs:List al),Inv X pins σ H s->gc.MadeExcOf s.heap h' a (.ref C) vs->E (.ref C) none H->X.xe (.ref a) {s with heap:=h'}
theorem pV:Raises (fo (cH P w) P w K mg base N qual scope f cd A outer s0 H0 E) E :=by
 intro pins σ H s C h' a vs I hx q
 have c1:∀b o,s.heap.get? b=some o->b ∉ eh (fo (cH P w) P w K mg base N qual scope f cd A outer s0 H0 E).stack->∃o',(xL s.heap (eh (fo (cH P w) P w K mg base N qual scope f cd A outer s0 H0 E).stack)).get? b=some o':=
  fun b o e n=>⟨o,SS _ e n⟩
 have c2:∀b u,H b=some u->∃o',(xL s.heap (eh (fo (cH P w) P w K mg base N qual scope f cd A outer s0 H0 E).stack)).get? b=some o':=fun b u hu=>by
  obtain ⟨o,e⟩:=(I.hok b u hu).there
  exact c1 b o e fun z=>by rw [I.nB b z] at hu;cases hu
 have st:(xL s.heap (eh (fo (cH P w) P w K mg base N qual scope f cd A outer s0 H0 E).stack)).StaysIn s.heap:=fun b o e=>VB _ e
 refine wpAny_leaves_madeW (cls:=.ref C) I.ok.frames rfl st (PySem.W.funFrames_hide I.stack fun env he b hb=>VE.mpr ⟨env,he,hb⟩) hx fun Uv t fl _ _ up=>?_
 have I2:=I.OY I c1 c2 st fl.1 ((gc.UpToSlots.of_keeps hx.keeps).trans up)
 refine ⟨a,C,t,_,H,rfl,I2.os,I2.bare,fl,fun b o e n=>?_,c2,I2.base,I2.hok,q⟩
 obtain ⟨o1,e1⟩:=I.base.there b o e (fun z=>absurd (show b∈([]:List ac) from z) (by simp))
 exact c1 b o1 e1 (I.mL (I.tR e) n)
end
theorem GN {K:ba} {h:gc} {C:ac} {sh:List al} {newId:String} (X:K.In h) (q:VL K C sh newId=true) :
  ∃bm Nn nm qn bs hd sn sub ab col dd k0 k1 k2 k3 k5 mN,h.get? C=some (excClassObj nm qn C Nn bs bm hd sn sub ab col dd k0 k1 k2 k3 k5 newId)/\h.Ns Nn mN/\mN "__init__" = none/\OwnTail h sh bm :=by
 unfold VL at q
 split at q
 case h_2=>cases q
 case h_1 dd cd sl ho=>
  split at q
  case h_2=>cases q
  case h_1 C' bm k0 k1 k2 k3 n k5 hm hs=>
   rw [Fk,Fk,Fk,Fk,Fk] at q
   obtain ⟨⟨⟨⟨⟨q1,q2⟩,q3⟩,q4⟩,q5⟩,q6⟩:=q
   have e1:C'=C:=beq_iff_eq.mp q1
   have e2:n=newId:=beq_iff_eq.mp q2
   have e3:cd.hasDel=false :=by simpa using q3
   subst e1 e2
   obtain ⟨nm,bs,mro,ns,qn,hd,sn,sub,ab,col,del⟩:=cd
   dsimp only at hm e3 q5 q6
   subst hm e3
   have es:sl=#[k0,k1,k2,k3,some (.builtin n),k5] :=by
    cases sl with
    |mk l=>exact congrArg Array.mk hs
   subst es
   exact ⟨bm,ns,nm,qn,bs,hd,sn,sub,ab,col,dd,k0,k1,k2,k3,k5,_,X _ _ ho,gc.Ns.of_isNs (PySem.W.isNs_of_in X q5),PySem.W.nsMap_none_of_in X q5 (beq_iff_eq.mp q6),PySem.W.tail_of_in X q4⟩
section
variable {X:Cx} {x:bi} {C:ac} {ke:cr} {rest:List cr} {t:TA} {sh:List al} {B newId uW:String} {E:XK} {np bG pos:ul}
def J4 (C:ac) (E:XK) (t:TA):TS:=fun _ σ H=>t σ H fun vs H1=>vs.length<=sizeLine/\E (.ref C) none H1
theorem DL (O:VL X.K C sh newId=true) (FB:ExcBaseFacts B newId uW sh) (hc:X.calm=true) (hR:Raises X E) (hg:Gl X x) (hm:X.mg x=some (.ref C)) (ha:PA X (ke::rest) t)
  (eS:(x==("__debug__" : bi))=false :=by decide) (he:starEach (ke::rest) X.env=(false,eval ke X.env)::starEach rest X.env :=by rfl) (cY:(backTo bG (starEach rest X.env)).any (·.1)=false :=by rfl) :
  PS X (.Raise (some (.Call (.Name x np) (ke::rest) [] bG)) none pos) (J4 C E t) :=by
 refine ⟨fun pins s σ H D I h=>?_⟩
 obtain ⟨bm,Nn,nm,qn,bs,hd,sn,sub,ab,col,dd,k0,k1,k2,k3,k5,mN,hC,hN,Sd,T⟩:=GN I.ok.mod.kin O
 have hp:(backTo bG (starEach (ke::rest) X.env)).any (·.1)=false :=by
  rw [he]
  exact cY
 have xC:=ha bG pins s σ H _ I h
 rw [he] at xC
 refine wpAny_Raise_call_subT (C:=C) (nm:=nm) (q:=qn) (N:=Nn) (bs:=bs) (bm:=bm) (hdct:=hd) (sn:=sn) (sub:=sub) (ab:=ab) (col:=col) (dd:=dd) (k0:=k0) (k1:=k1) (k2:=k2) (k3:=k3) (k5:=k5) FB (mN:=mN)
  (T.hasType FB.hasBase) (I.ok.hd hc) hp Sd (nE I hg hm ⟨rfl,?_⟩ eS)
 rw [he]
 refine Calls.evalArgs_plain (thn xC fun us s2 ⟨vs,H2,I2,r,l,q⟩=>?_)
 exact ⟨rfl,by rw [<- r.length];exact l,I2.bk _ _ hC,hN.keeps I2.bk,T.keeps I2.bk,fun h' a hx=>hR pins σ H2 s2 C h' a us I2 hx q⟩
end
end L2
namespace L2
open PySem PySem.Spec PyProof.Rows PySem.W Builtin Builtin.ObjectAttr Builtin.Getset_descriptor
def ExcAt (C a:ac) (h:gc):Prop:=∃o vs,h.get? a=some o/\o.cls=.ref C/\o.data=.fields vs
def QM (C a:ac):HO:=.ext (ExcAt C a)
structure J5 (K:Frag) (C:ac):Prop where
 cls:(clsIn K C).isSome=true
 ga:findIn K (.ref C) "__getattribute__" = some (some (.builtin "BaseException.__getattribute__"))
 gt:findIn K (.ref C) "__getattr__" = some none
 cl:findIn K (.ref C) "__class__" = some (some (.builtin "object.__class__"))
 gg:specialIn K (.builtin "object.__class__") "__get__" = some (some (.builtin "getset_descriptor.__get__"))
 tk:takesIn K (.builtin "object.__class__")=some true
 ob:mroIn K C (.type "object")=some true
 be:mroIn K C (.type "BaseException")=some true
end L2
namespace L2
open PySem PySem.Spec PyProof.Rows PySem.W
section
variable {X:Cx} {pins pins':List (ac×im)} {σ:St} {H:Hp} {s:ar} {T:al->ar->Prop}
theorem Inv.Nh {a:ac} {o:HO} (I:Inv X pins σ H s) (n0:H a=none) (n1:X.s₀.heap.get? a=none) (n2:a≠X.env.locals) (n3:∀x c,X.env.cells.lookup x=some c->c≠a) (n4:∀p∈X.pn++pins,p.1≠a)
  (ob:ObjOk X.prog X.w (upd H a o) s.heap a o):Inv X pins σ (upd H a o) s :=by
 have un:∀b u,H b=some u->upd H a o b=some u:=fun b u e=>by rw [af (a8 e n0)];exact e
 refine ⟨I.ok,I.os,I.bare,⟨I.base.keep,I.base.slot,fun b u q n hx=>?_,I.base.there,fun b xs e=>un _ _ (I.base.tups b xs e),fun b u v e=>un _ _ (I.base.frzs b u v e),fun b ps e=>?_⟩,I.loc,I.cell,?_,fun x c e=>?_,fun p hp=>?_,fun b u e=>?_,I.len⟩
 ·rw [af (fun z=>by rw [z,n1] at q;cases q)]
  exact I.base.free b u q n hx
 ·obtain ⟨more,z⟩:=I.base.tbls b ps e
  exact ⟨more,un _ _ z⟩
 ·rw [af (xz n2)]
  exact I.free
 ·rw [af (n3 x c e)]
  exact I.freeC x c e
 ·obtain ⟨p1,p2,p3⟩:=I.pin p hp
  exact ⟨p1,by rw [af (n4 p hp)];exact p2,p3⟩
 ·by_cases hb:b=a
  ·subst hb
   rw [ay] at e
   cases e
   exact ob
  ·rw [af hb] at e
   exact (I.hok b u e).b9 (fun _ _ _ q=>q) (fun c q=>un _ _ q) fun c xs q=>un _ _ q
end
structure AR (K:Frag) (C0:ac):Prop where
 ty:typeIn K (.ref C0)=some (.type "type")
 be:subIn K (.ref C0) (.type "BaseException")=some true
 it:(clsIn K C0).isSome=true
theorem yS {P:c8} {w:ff} {X:Cx}:Passes (cH P w) X (fun _ _ _=>False):=fun _ _ _ _ _ _ _ h=>by
 obtain ⟨_,_,_,_,_,_,_,_,_,_,_,_,_,q⟩:=h
 exact q.elim
theorem rU.uB {P:c8} {w:ff} {K:ba} {mg:bi->Option al} {base:gc} {x qual:bi} {st:mv} {f:ac} {fd:i0} {N ps:List bi} {k:Nat} {sp:Sp} (F:rU K x qual st f fd) (S:aK N ps (aj st)) (len:∀vs H Q E,sp vs H Q E->vs.length=ps.length)
  (kY:∀(A:l4) (outer:List IF) (s:ar) (H:Hp) (vs:List V) (Q:VK) (E:XK),bB k (A.deeper (envOfC qual (aj st) s.heap.objs.size f fd.code))->sp vs H Q E->
   ∃t,fW (fo (cH P w) P w K mg base N qual (aj st) f fd.code A outer s H E) (bK st) t/\t {nx:=fun _ H'=>Q .av H',rt:=Q} (start N vs) H):FnOk P w K mg base (cH P w) (k+1) f fd ps sp :=by
 obtain ⟨oc,od,kV,doc,pm,an,cD,ct,jP,rfl,lk,dG⟩:=F.ex
 exact yq lk dG S len fun A outer s H vs Q E hr jQ=>kY A outer s H vs Q E hr jQ
def O1:List al:=[.type "ValueError",.type "Exception",.type "BaseException",.type "object"]
def DM (K:Frag) (C0 C:ac):Bool:=excIn K C O1 "ValueError.__new__" && (clsIn K C).isSome && findIn K (.ref C) "__getattribute__" == some (some (.builtin "BaseException.__getattribute__")) && findIn K (.ref C) "__getattr__" == some none &&
 findIn K (.ref C) "__class__" == some (some (.builtin "object.__class__")) && mroIn K C (.type "object")==some true && mroIn K C (.type "BaseException")==some true && subIn K (.ref C) (.ref C0)==some true && kitOne K (.ref C) (.type "ValueError")==some true
def yT (K:Frag) (C0:ac) (cs:List ac):Bool:=cs.all (DM K C0) && (cs.all fun C=>cs.all fun D=>kitOne K (.ref C) (.ref D)==some (decide (C=D))) && specialIn K (.builtin "object.__class__") "__get__" == some (some (.builtin "getset_descriptor.__get__")) && takesIn K (.builtin "object.__class__")==some true &&
 typeIn K (.ref C0)==some (.type "type") && subIn K (.ref C0) (.type "BaseException")==some true && (clsIn K C0).isSome
structure uX (K:Frag) (C0:ac) (cs:List ac):Prop where
 ex:∀C∈cs,excIn K C O1 "ValueError.__new__" = true
 cl:∀C∈cs,J5 K C
 sub:∀C∈cs,subIn K (.ref C) (.ref C0)=some true
 one:∀C∈cs,∀D∈cs,kitOne K (.ref C) (.ref D)=some (decide (C=D))
 val:∀C∈cs,kitOne K (.ref C) (.type "ValueError")=some true
 top:AR K C0
theorem GO {K:Frag} {C0:ac} {cs:List ac} (h:yT K C0 cs=true):uX K C0 cs :=by
 unfold yT at h
 simp only [Fk] at h
 obtain ⟨⟨⟨⟨⟨⟨h1,h2⟩,h3⟩,h4⟩,h5⟩,h6⟩,h7⟩:=h
 have all:∀C∈cs,DM K C0 C=true:=wP.mp h1
 have part:∀C∈cs,_:=fun C hC=>by
  have z:=all C hC
  unfold DM at z
  simp only [Fk] at z
  exact z
 refine ⟨fun C hC=>(part C hC).1.1.1.1.1.1.1.1,fun C hC=>?_,fun C hC=>beq_iff_eq.mp (part C hC).1.2,fun C hC D hD=>beq_iff_eq.mp (wP.mp (wP.mp h2 C hC) D hD),fun C hC=>beq_iff_eq.mp (part C hC).2,⟨beq_iff_eq.mp h5,beq_iff_eq.mp h6,h7⟩⟩
 obtain ⟨⟨⟨⟨⟨⟨⟨⟨_,p1⟩,p2⟩,p3⟩,p4⟩,p5⟩,p6⟩,_⟩,_⟩:=part C hC
 exact ⟨p1,beq_iff_eq.mp p2,beq_iff_eq.mp p3,beq_iff_eq.mp p4,beq_iff_eq.mp h3,beq_iff_eq.mp h4,beq_iff_eq.mp p5,beq_iff_eq.mp p6⟩
end L2
namespace L2
open PySem PySem.Spec PyProof.Rows Builtin.SmallTypes
def fM (k:Bool) (h:gc) (it a:ac) (i:Nat):Prop:=if k=true then h.IsListIter it a i else h.IsTupleIter it a i
def oJ (k:Bool) (h:gc) (a:ac) (items:Array al):Prop:=if k=true then h.IsList a items else h.IsTuple a items
theorem fM.at {k:Bool} {h h':gc} {it a:ac} {i:Nat} (x:fM k h it a i) (q:∀o,h.get? it=some o->h'.get? it=some o):fM k h' it a i :=by
 cases k with
 |true=>exact gc.IsListIter.at (h:=h) x q
 |false=>exact gc.IsTupleIter.at (h:=h) x q
theorem fM.obj {k:Bool} {h:gc} {it a:ac} {i:Nat} (x:fM k h it a i):∃o,h.get? it=some o/\∃vs,o.data=.fields vs :=by
 cases k with
 |true=>obtain ⟨o,e,_,d⟩:=(show h.IsListIter it a i from x);exact ⟨o,e,_,d⟩
 |false=>obtain ⟨o,e,_,d⟩:=(show h.IsTupleIter it a i from x);exact ⟨o,e,_,d⟩
section
variable {prog:c8} {w:ff} {A:l4} {E:al->ar->Prop} {s:ar} {it a:ac} {i:Nat} {items:Array al} {x:al} {k:Bool}
theorem DN {Q:Option al->ar->Prop} (hit:s.heap.IsTupleIter it a i) (ha:s.heap.IsTuple a items) (hx:items[i]?=some x)
  (hQ:∀h',h'.IsTupleIter it a (i+1)->u7 it s.heap h'->Q (some x) {s with heap:=h'}):wpAny (model prog w) A (callSpecial? (.ref it) "__next__") Q E s :=by
 obtain ⟨o,ho,hc,hd⟩:=id hit
 obtain ⟨ol,uM,_,nl,J6⟩:=ha
 have sl:=F.slot_tuple_iterator_next
 refine ww (name:=rf "__next__") hit.typeIs sl (wS sl hit.typeIs F.entry_tuple_iterator_next ?_ (F.args_tuple_iterator_next_1 _))
 have nn:¬ ((ma a==zw)=true):=io
 refine ap (m:=field (.ref it) 0) (IR ho hd (x:=.ref a) rfl ?_)
 rw [if_neg nn]
 refine ap (m:=field (.ref it) 1) (IR ho hd (x:=.int i 0) rfl (ap (m:=seqItems? (.ref a)) (Vw uM J6 ?_)))
 simp only [ss,hx]
 refine ap (m:=setField _ _ _) (wpAny_setField ho hd (by simp) (br ⟨x,rfl,hQ _ ?_ (EQ ..)⟩))
 refine ⟨_,BB _ ho (Va (KF hd _)),(VS ..).trans hc,?_⟩
 rw [KF hd]
 simp [rawInt]
theorem DP {Q:Option al->ar->Prop} (hh:A.handled=none) (hit:s.heap.IsTupleIter it a i) (ha:s.heap.IsTuple a items) (hx:items[i]?=none)
  (hE:∀h' e,Vz it s.heap h'->(∃o,h'.get? e=some o/\o.cls=.type "StopIteration")->E (.ref e) {s with heap:=h'}):wpAny (model prog w) A (callSpecial? (.ref it) "__next__") Q E s :=by
 obtain ⟨o,ho,hc,hd⟩:=id hit
 obtain ⟨ol,uM,_,nl,J6⟩:=ha
 have sl:=F.slot_tuple_iterator_next
 refine ww (name:=rf "__next__") hit.typeIs sl (wS sl hit.typeIs F.entry_tuple_iterator_next ?_ (F.args_tuple_iterator_next_1 _))
 have nn:¬ ((ma a==zw)=true):=io
 refine ap (m:=field (.ref it) 0) (IR ho hd (x:=.ref a) rfl ?_)
 rw [if_neg nn]
 refine ap (m:=field (.ref it) 1) (IR ho hd (x:=.int i 0) rfl (ap (m:=seqItems? (.ref a)) (Vw uM J6 ?_)))
 simp only [ss,hx]
 refine ap (ET (ap (m:=setField _ _ _) (wpAny_setField ho hd (by simp) ?_)))
 refine ap (m:=newExc (.type "StopIteration") []) ?_
 unfold newExc newTuple
 refine ap (v6 ?_ (by size_fits))
 refine ap (m:=firstArgMember _ _) (Vy (a:=zw) (by first|rfl|(simp only [firstArgMember];rfl)) (v6 ?_ (by size_fits)))
 refine wpAny_raiseNew_none hh ?_
 exact hE _ _ (((EQ ..).extBut.push _).push _) ⟨_,dL _ rfl,rfl⟩
theorem GP {Q:al->ar->Prop} (hit:fM k s.heap it a i) (ha:oJ k s.heap a items) (hx:items[i]?=some x)
  (hQ:∀h',fM k h' it a (i+1)->u7 it s.heap h'->Q x {s with heap:=h'}):wpAny (model prog w) A (nextOf (.ref it)) Q E s :=by
 cases k with
 |true=>exact wpAny_nextOf_list_item hit ha hx hQ
 |false=>
  unfold nextOf
  exact ap (DN hit ha hx fun h' a b=>br (hQ h' a b))
theorem GQ {Q:al->ar->Prop} (hh:A.handled=none) (hit:fM k s.heap it a i) (ha:oJ k s.heap a items) (hx:items[i]?=none)
  (hE:∀h' e,Vz it s.heap h'->(∃o,h'.get? e=some o/\o.cls=.type "StopIteration")->E (.ref e) {s with heap:=h'}):wpAny (model prog w) A (nextOf (.ref it)) Q E s :=by
 cases k with
 |true=>exact wpAny_nextOf_list_end hh hit ha hx hE
 |false=>
  unfold nextOf
  exact ap (DP hh hit ha hx hE)
end
section
variable {prog:c8} {w:ff} {A:l4} {E:al->ar->Prop} {s:ar} {e it a:ac} {i:Nat} {items:Array al} {x old:al} {k:Bool}
theorem AU {Q:al->ar->Prop} (he:UZ s.heap e it i old) (fA:e≠it) (hit:fM k s.heap it a i) (ha:oJ k s.heap a items) (hx:items[i]?=some x)
  (hQ:∀h',Ww h' e it ((i:Int)+1) x s.heap.objs.size->fM k h' it a (i+1)->h'.get? s.heap.objs.size=some {cls:=.type "tuple",data:=.seq #[.int i s.toks,x]}->
   (∀b o,b≠e->b≠it->s.heap.get? b=some o->h'.get? b=some o)->Q (.ref s.heap.objs.size) {s with heap:=h',toks:=s.toks+1}) :
  wpAny (model prog w) A (u4.«enumerate.__next__» ⟨[.ref e],[]⟩) (fun fin s'=>∃v,fin=.done (.ret v)/\Q v s') E s :=by
 obtain ⟨hp,g,d,tk,os⟩:=s
 refine ap (m:=field (.ref e) 2) (IR he rfl (x:=.ref it) rfl (ap (m:=nextOf (.ref it)) (GP hit ha hx fun h1 J7 (J8:u7 it hp h1)=>?_)))
 have e1:UZ h1 e it i old:=(J8.2 e fA).trans he
 refine ap (m:=field (.ref e) 3) (IR e1 rfl (x:=rawInt i) rfl (ap (m:=field (.ref e) 4) (IR e1 rfl (x:=.none) rfl (ap (m:=mkInt i) (wpAny_mkInt ?_)))))
 refine ap (m:=setField (.ref e) 3 _) (FS e1 (by simp) fun h2 (e2:UZ h2 e it ((i:Int)+1) old) (xD:u7 e h1 h2)=>?_)
 refine ap (m:=setField (.ref e) 4 .none) (FS e2 (by simp) fun h3 (e3:UZ h3 e it ((i:Int)+1) old) (O2:u7 e h2 h3)=>?_)
 refine ap (m:=newTuple [.int i tk,x]) (wpAny_newTuple ?_)
 have z3:h3.objs.size=hp.objs.size :=by rw [O2.1,xD.1,J8.1]
 have el:e<hp.objs.size:=ge he
 have e4:UZ (h3.push {cls:=.type "tuple",data:=.seq #[.int i tk,x]}) e it ((i:Int)+1) old:=bn _ e3
 have t4:(h3.push {cls:=.type "tuple",data:=.seq #[.int i tk,x]}).get? hp.objs.size=some {cls:=.type "tuple",data:=.seq #[.int i tk,x]}:=z3▸dL _ rfl
 have up:∀b o,b≠e->h1.get? b=some o->(h3.push {cls:=.type "tuple",data:=.seq #[.int i tk,x]}).get? b=some o:=fun b o n q=>bn _ (O2.extBut b o n (xD.extBut b o n q))
 generalize h3.push {cls:=.type "tuple",data:=.seq #[.int i tk,x]}=h4 at e4 t4 up
 rw [z3]
 refine ap (m:=ownedTupleIsFree (.ref e)) ?_
 unfold ownedTupleIsFree
 refine ap (m:=field (.ref e) 0) (IR e4 rfl (x:=.none) rfl (br ?_))
 rw [if_pos rfl]
 refine ap (ET (ap (m:=field (.ref e) 5) (IR e4 rfl (x:=old) rfl ?_)))
 refine ap (m:=setField (.ref e) 5 x) (FS e4 (by simp) fun h5 (e5:UZ h5 e it ((i:Int)+1) x) (Se:u7 e h4 h5)=>?_)
 refine ap (m:=ownedTupleHandOut (.ref e) _) ?_
 unfold ownedTupleHandOut
 refine ap (FS e5 (by simp) fun h6 (e6:Ww h6 e it ((i:Int)+1) x hp.objs.size) (Sf:u7 e h5 h6)=>?_)
 refine FS e6 (by simp) fun h7 (e7:Ww h7 e it ((i:Int)+1) x hp.objs.size) (Sg:u7 e h6 h7)=>?_
 have J9:∀b o,b≠e->h4.get? b=some o->h7.get? b=some o:=fun b o n q=>Sg.extBut b o n (Sf.extBut b o n (Se.extBut b o n q))
 refine ap (wpAny_letGo (br ⟨_,rfl,hQ h7 e7 (J7.at fun o q=>J9 it o (xz fA) (up it o (xz fA) q)) (J9 _ _ (NG el) t4) fun b o n1 n2 q=>J9 b o n1 (up b o n1 ((J8.2 b n2).trans q))⟩))
theorem AV {Q:Option al->ar->Prop} (he:UZ s.heap e it i old) (fA:e≠it) (hit:fM k s.heap it a i) (ha:oJ k s.heap a items) (hx:items[i]?=some x)
  (hQ:∀h',Ww h' e it ((i:Int)+1) x s.heap.objs.size->fM k h' it a (i+1)->h'.get? s.heap.objs.size=some {cls:=.type "tuple",data:=.seq #[.int i s.toks,x]}->
   (∀b o,b≠e->b≠it->s.heap.get? b=some o->h'.get? b=some o)->Q (some (.ref s.heap.objs.size)) {s with heap:=h',toks:=s.toks+1}) :
  wpAny (model prog w) A (pyNext (.ref e)) Q E s :=by
 have hT:s.TypeIs (.ref e) "enumerate" := ⟨_,he,rfl⟩
 have sl:=F.slot_enumerate_next
 unfold pyNext
 exact ap (LP (ww (name:=rf "__next__") hT sl (wS sl hT F.entry_enumerate_next (AU he fA hit ha hx fun h' a b c d=>br (hQ h' a b c d)) (F.args_enumerate_next_1 _))))
theorem AW {Q:Option al->ar->Prop} (hh:A.handled=none) (he:UZ s.heap e it i old) (hit:fM k s.heap it a i) (ha:oJ k s.heap a items) (hx:items[i]?=none)
  (hQ:∀h',Vz it s.heap h'->Q none {s with heap:=h'}):wpAny (model prog w) A (pyNext (.ref e)) Q E s :=by
 have hT:s.TypeIs (.ref e) "enumerate" := ⟨_,he,rfl⟩
 have sl:=F.slot_enumerate_next
 unfold pyNext
 refine ap (LP (ww (name:=rf "__next__") hT sl (wS sl hT F.entry_enumerate_next ?_ (F.args_enumerate_next_1 _))))
 refine ap (m:=field (.ref e) 2) (IR he rfl (x:=.ref it) rfl (ap (m:=nextOf (.ref it)) (GQ hh hit ha hx fun h' y eb ⟨o,ho,hc⟩=>?_)))
 exact ap (U4 (T := "StopIteration") (b:=true) ⟨o,ho,hc⟩ isSubtype_stop (br (hQ _ eb)))
end
end L2
namespace L2
open PySem PySem.Spec PyProof.Rows Builtin.SmallTypes AutoSeq1
theorem uY:bootBuiltins "enumerate" = some (.type "enumerate") :=by decide +kernel
section
variable {X:Cx} {pins:List (ac×im)} {σ:St} {H:Hp} {s:ar} {h':gc}
theorem Inv.xE {t':Nat} {ch:List ac} (I:Inv X pins σ H s) (k:∀b o,b ∉ ch->s.heap.get? b=some o->h'.get? b=some o) (hf:∀b∈ch,dy X pins H b):Inv X pins σ H {s with heap:=h',toks:=t'}:=by
 have zS:∀b u,H b=some u->b ∉ ch:=fun b u e z=>by rw [(hf b z).1] at e;cases e
 refine I.step (g':=s.gens) (d':=s.drawn) (ch:=ch) (fun b hb=>?_) (fun b o _ _ hc e _=>k b o hc e) (fun b o _ _ hc e _=>⟨o.slots,k b o hc e⟩) (fun _ _ _ _ n=>n)
  (fun b o hc e=>⟨o,k b o hc e⟩) (fun _ _ e=>e) (fun _ _ _ e=>e) (fun b ps e=>⟨#[],by rw [e];simp⟩) (fun m hm=>?_) (fun b u e=>?_) I.bare.self
 ·obtain ⟨_,f1,f2,f3,f4,f5⟩:=hf b hb
  exact ⟨f3,f1,f4,f5⟩
 ·obtain ⟨o,es,ep,ho,r⟩:=hm
  exact ⟨o,es,ep,k _ o (fun z=>(hf _ z).2.1 rfl) ho,r⟩
 ·refine (I.hok b u e).b9 (fun c v hc q=>k c v ?_ q) (fun _ q=>q) fun _ _ q=>q
  rcases hc with z|z
  ·rw [z];exact zS b u e
  ·exact zS c _ z
theorem Inv.pair {t:ac} {a b:V} {u v:al} {h1:gc} {tk tk0:Nat} (I0:Inv X pins σ H {s with toks:=tk0}) (ht:s.heap.objs.size<=t) (I:Inv X pins σ H {s with heap:=h1,toks:=tk}) (e:h1.get? t=some {cls:=.type "tuple",data:=.seq #[u,v]}) (ru:RelV a u) (rv:RelV b v) :
  Inv X pins σ (upd H t (.tup [a,b])) {s with heap:=h1,toks:=tk}:=by
 have f:=Inv.kX (H':=H) I0 (b:=t) ht (I0.hok.fresh ht)
 refine I.Nh f.1 ?_ f.2.1 f.2.2.2.2.1 f.2.2.2.2.2 ⟨by show 2<=sizeLine;decide,[u,v],.cons ru (.cons rv .nil),⟨_,e,rfl,_,rfl,rfl⟩⟩
 exact gc.get?_none_of_le (uu I0.sz ht)
end
def Sq (k:Bool) (K:ba) (H:Hp) (a:ac) (xs:List V):Prop:=if k=true then bN K H a xs else cM K H a xs
theorem Inv.sq {X:Cx} {pins:List (ac×im)} {σ:St} {H:Hp} {s:ar} {k:Bool} {a:ac} {xs:List V} (I:Inv X pins σ H s) (h:Sq k X.K H a xs):∃its:List al,Vals xs its/\oJ k s.heap a its.toArray :=by
 cases k with
 |true=>obtain ⟨its,rv,p,_⟩:=I.list (show bN X.K H a xs from h);exact ⟨its,rv,p.isList⟩
 |false=>obtain ⟨its,rv,p,_⟩:=I.tuple (show cM X.K H a xs from h);exact ⟨its,rv,p⟩
theorem Inv.Ka {X:Cx} {pins:List (ac×im)} {σ:St} {H:Hp} {s:ar} {k:Bool} {a:ac} {xs ys:List V} (I:Inv X pins σ H s) (h:Sq k X.K H a xs) (h':Sq k X.K H a ys):xs=ys :=by
 cases k with
 |true=>exact I.t6 (show bN X.K H a xs from h) h'
 |false=>exact I.rJ (show cM X.K H a xs from h) h'
def Fo (k:Bool) (K:ba) (a:ac):It:=
 ⟨fun i H=>∃xs x,Sq k K H a xs/\xs[i]?=some x,fun i H v H'=>∃t x,H t=none/\v=.ref t/\H'=upd H t (.tup [.int (i:Nat),x])/\∀xs,Sq k K H a xs->xs[i]?=some x,fun i H=>∃xs,Sq k K H a xs/\xs.length<=i⟩
theorem AX {P:c8} {w:ff} {K:ba} {elts:List cr} {x1:Nat} {pos:ul} (k:Bool) (a it e:ac) (fA:e≠it) :
  Turn P w K (.Tuple elts x1 pos) (Fo k K a) [e,it] e (fun i h=>(∃old,UZ h e it i old)/\fM k h it a i) where
 mem :=by simp
 obj:=fun i h st b hb=>by
  obtain ⟨⟨old,he⟩,hit⟩:=st
  simp only [l3,Da,or_false] at hb
  rcases hb with rfl|rfl
  ·exact ⟨_,he,fun v z=>nomatch z⟩
  ·obtain ⟨o,ho,vs,hd⟩:=hit.obj
   exact ⟨o,ho,fun v z=>by rw [hd] at z;cases z⟩
 keep:=fun i h h' st q=>by
  obtain ⟨⟨old,he⟩,hit⟩:=st
  exact ⟨⟨old,q e (by simp) _ he⟩,hit.at fun o ho=>q it (by simp) o ho⟩
 item :=by
  intro X hP hw hK hc i pins s σ H E I hf st hg
  subst hP hw hK
  obtain ⟨⟨old,he⟩,hit⟩:=st
  obtain ⟨xs,x,hq,hx⟩:=hg
  obtain ⟨its,rv,p⟩:=I.sq hq
  obtain ⟨u,hu,ru⟩:=rv.get hx
  refine AV he fA hit p (x:=u) (by simpa using hu) fun h1 eo J7 t1 kk=>?_
  refine ⟨_,rfl,wpAny_letOwnedTupleGo_enum eo fun h2 e2 (xD:u7 e h1 h2)=>?_⟩
  have el:e<s.heap.objs.size:=ge he
  have I2:Inv X pins σ H {s with heap:=h2,toks:=s.toks+1}:=I.xE (ch:=[e,it]) (fun b o hb q=>by
   simp only [l3,Da,or_false,not_or] at hb
   exact (xD.2 b hb.1).trans (kk b o hb.1 hb.2 q)) hf
  have t2:h2.get? s.heap.objs.size=some {cls:=.type "tuple",data:=.seq #[.int i s.toks,u]}:=(xD.2 _ (NG el)).trans t1
  have hn:H s.heap.objs.size=none:=I.hok.fresh (cb _)
  refine ⟨.ref s.heap.objs.size,_,Inv.pair (s:=s) (tk0:=s.toks) I (cb _) I2 t2 (a:=.int (i:Nat)) ⟨s.toks,rfl⟩ ru,rfl,⟨_,x,hn,rfl,rfl,fun ys hy=>by rw [I.Ka hy hq];exact hx⟩,⟨⟨u,?_⟩,J7.at fun o q=>(xD.2 it (xz fA)).trans q⟩,fun b hb=>?_⟩
  ·have c:((i+1:Nat):Int)=(i:Int)+1 :=by push_cast;rfl
   rw [c]
   exact e2
  ·have l:b≠s.heap.objs.size :=by
    simp only [l3,Da,or_false] at hb
    rcases hb with rfl|rfl
    ·exact i4 el
    ·obtain ⟨o,ho,_⟩:=hit.obj
     exact i4 (ge ho)
   rw [af l]
   exact (hf b hb).1
 done :=by
  intro X hP hw hK hc i pins s σ H E I hf st hg
  subst hP hw hK
  obtain ⟨⟨old,he⟩,hit⟩:=st
  obtain ⟨xs,hq,hx⟩:=hg
  obtain ⟨its,rv,p⟩:=I.sq hq
  have hl:=rv.length
  exact AW (I.ok.hd hc) he hit p (by simp;omega) fun h1 eb=>⟨rfl,I.xE (t':=s.toks) (ch:=[it]) (fun b o hb q=>eb b o (by simpa using hb) q) fun b hb=>hf b (by simp at hb;simp [hb])⟩
 self:=fun _ _ _ _ _ st h=>wpAny_pyIter_enum st.1.choose_spec h
abbrev AY (a:ac):im:={cls:=.type "tuple_iterator",data:=.fields #[.ref a,.int 0 0]}
abbrev Kb (it:ac):im:={cls:=.type "enumerate",data:=.fields #[.none,.bool false,.ref it,rawInt 0,.none,.none]}
theorem GR (a:ac) (items:Array al) (n:Nat) (dct:Option ac) (sl:Array (Option al)) :
  Meets (u4.«enumerate.__new__» ⟨[.type "enumerate",.ref a],[]⟩) (fun _ R s=>s.heap.get? a=some {cls:=.type "tuple",dict:=dct,data:=.seq items n,slots:=sl} /\
   R (.ok (.ret (.ref (s.heap.push (AY a)).objs.size))) {s with heap:=(s.heap.push (AY a)).push (Kb s.heap.objs.size)}):=
 .of_wp fun prog w A R s h=>by
  obtain ⟨hp,g,d,tk,os⟩:=s
  obtain ⟨hl,h⟩:=h
  have qN:=sub_enumerate
  have hT:gc.IsTuple (ar.heap ⟨hp,g,d,tk,os⟩) a items:=⟨_,hl,rfl,n,rfl⟩
  wp_walk using TW hl
  refine wpAny_stack_any fun st=>br ?_
  split
  case h_1 c _ _ _ _ _=>cases (c==AL "enumerate") <;> (wp_walk using TW hl,UK hT;exact ⟨_,rfl,h⟩)
  case h_2=>wp_walk using TW hl,UK hT;exact ⟨_,rfl,h⟩
section
variable {prog:c8} {w:ff} {A:l4} {E:al->ar->Prop} {s:ar}
theorem yU {a:ac} {items:Array al} {Q:al->ar->Prop} (hT:s.heap.IsTuple a items)
  (h:∀h',UZ h' (s.heap.objs.size+1) s.heap.objs.size 0 .none->h'.IsTupleIter s.heap.objs.size a 0->(∀b o,s.heap.get? b=some o->h'.get? b=some o)->Q (.ref (s.heap.objs.size+1)) {s with heap:=h'}) :
  wpAny (model prog w) A (call (.type "enumerate") [.ref a]) Q E s :=by
 obtain ⟨ob,ho,hc,n,hd⟩:=hT
 obtain ⟨c,dd,dt,sl⟩:=ob
 dsimp only at hc hd
 subst hc hd
 refine callType_new F.called_enumerate (by decide) (F.typeCall_enumerate_1 _) (F.newCall_enumerate_1 _) (fun obj=>F.args_object_init_2 obj _) F.entry_enumerate_new (GR a items n dd sl) ⟨ho,?_⟩
 have z:(s.heap.push (AY a)).objs.size=s.heap.objs.size+1:=Nl ..
 have he:((s.heap.push (AY a)).push (Kb s.heap.objs.size)).get? (s.heap.objs.size+1)=some (Kb s.heap.objs.size):=z▸dL (s.heap.push (AY a)) rfl
 show _/\_
 rw [z]
 exact ⟨⟨_,he,rfl⟩,h _ he ⟨_,bn _ (dL _ rfl),rfl,rfl⟩ fun b o x=>bn _ (bn _ x)⟩
theorem AZ {k:Bool} {a:ac} {items:Array al} {Q:al->ar->Prop} (hT:oJ k s.heap a items)
  (h:∀h',UZ h' (s.heap.objs.size+1) s.heap.objs.size 0 .none->fM k h' s.heap.objs.size a 0->(∀b o,s.heap.get? b=some o->h'.get? b=some o)->Q (.ref (s.heap.objs.size+1)) {s with heap:=h'}) :
  wpAny (model prog w) A (call (.type "enumerate") [.ref a]) Q E s :=by
 cases k with
 |true=>exact call_enumerate_list hT fun h' a b _ c=>h h' a b c
 |false=>exact yU hT h
end
section
variable {X:Cx} {l:cr} {tl:TE} {elts:List cr} {x1:Nat} {tp p pos:ul}
def Ni (k:Bool) (K:ba) (tl:TE):TI:=fun σ H R=>tl σ H fun x H1=>∃a,x=.ref a/\(∃xs,Sq k K H1 a xs)/\R (Fo k K a) H1
theorem GU (k:Bool) {K:ba} (hK:X.K=K) (hg:Gl X "enumerate") (hm:X.mg "enumerate" = none) (hl:PE X l tl) (hs:starEach [l] X.env=[(false,eval l X.env)] :=by rfl) :
  PI X (.Tuple elts x1 tp) (.Call (.Name "enumerate" p) [l] [] pos) (Ni k K tl) :=by
 subst hK
 intro pins s σ H R I h
 refine BY (fw I hg hm uY ?_)
 refine zn ?_ hs rfl
 rw [hs]
 refine JJ (thn (hl pins s σ H _ I h) fun v s1 ⟨x,H1,I1,r1,q1⟩=>Mc ?_)
 obtain ⟨a,rfl,⟨xs,hq⟩,q⟩:=q1
 cases (show v=ma a from r1)
 obtain ⟨its,rv,sq⟩:=I1.sq hq
 refine AZ sq fun h' he hit kk=>?_
 refine wpAny_pyIter_enum he ?_
 have I2:Inv X pins σ H1 {s1 with heap:=h'}:=I1.kept (t':=s1.toks) kk
 have ne:s1.heap.objs.size+1≠s1.heap.objs.size:=NG (EU _)
 refine ⟨_,[s1.heap.objs.size+1,s1.heap.objs.size],_,Fo k X.K a,H1,rfl,I2,AX k a _ _ ne,⟨⟨_,he⟩,hit⟩,fun b hb=>?_,q⟩
 simp only [l3,Da,or_false] at hb
 rcases hb with rfl|rfl
 ·exact I1.kX (Do _) (I1.hok.fresh (Do _))
 ·exact I1.kX (cb _) (I1.hok.fresh (cb _))
end
def Fp (J:It) (ys:List (V×V)) (H:Hp):Prop:=∀i,(i<ys.length->J.go i H/\∀x H',J.yld i H x H'->∃t p,H t=none/\x=.ref t/\ys[i]?=some p/\H'=upd H t (.tup [p.1,p.2]))/\(ys.length<=i->J.stop i H)
theorem si {k:Bool} {K:ba} {a:ac} {ys:List V} {H:Hp} (h:Sq k K H a ys):Fp (Fo k K a) ((l9 ys.length).map fun i=>(V.int (i:Nat),ys.getD i .av)) H:=fun i=>by
 have el:((l9 ys.length).map fun i=>(V.int (i:Nat),ys.getD i .av)).length=ys.length :=by simp
 rw [el]
 refine ⟨fun hi=>⟨⟨ys,ys[i],h,ag hi⟩,fun x H' ⟨t,y,n,e1,e2,e3⟩=>⟨t,(.int (i:Nat),y),n,e1,?_,e2⟩⟩,fun hi=>⟨ys,h,hi⟩⟩
 rw [ca,AE hi]
 have:=e3 ys h
 show some (V.int (i:Nat),ys.getD i .av)=_
 rw [ce,this]
 rfl
end L2
namespace L2
open PySem PySem.Spec PyProof.Rows
section
variable {X:Cx} {st:mv} {ι:Type} {Pre:ι->St->Hp->Prop} {D:ι->Ends}
theorem lY {P:c8} {w:ff} {K:ba} (hP:X.prog=P) (hw:X.w=w) (h:X.K=K) (hc:X.calm=true):dj X (.builtin "sorted") (xB P w K) :=by
 subst hP hw h
 exact uV hc
theorem PS.iE {st:mv} {t:TS} (h:PS X.iE st t):PS X st t:=⟨fun pins s σ H D I hw=>
 l6 (h pins s σ H D (I.ix _) hw) (fun _ _ q=>q.fx) fun _ _ z=>Co z⟩
end
section
variable {κ:Type} [DecidableEq κ]
def iA (ao:List (κ×V)) (k:κ):Option V:=(ao.find? fun kv=>decide (kv.1=k)).map (·.2)
def putK (ao:List (κ×V)) (k:κ) (v:V):List (κ×V):=
 if (ao.any fun kv=>decide (kv.1=k))=true then ao.map (fun kv=>if kv.1=k then (kv.1,v) else kv) else ao++[(k,v)]
theorem k8 {p:κ×V} {r:List (κ×V)} {k:κ} (e:p.1=k):iA (p::r) k=some p.2 :=by simp [iA,OR,e]
theorem k9 {p:κ×V} {r:List (κ×V)} {k:κ} (e:¬ p.1=k):iA (p::r) k=iA r k :=by simp [iA,OR,e]
theorem oK (k:κ):∀ao:List (κ×V),(ao.any fun kv=>decide (kv.1=k))=(iA ao k).isSome
 | []=>rfl
 |p::r=>by
          rw [List.any_cons]
          by_cases e:p.1=k
          ·simp only [k8 e,decide_eq_true e,Bool.true_or,Option.isSome_some]
          ·rw [k9 e,decide_eq_false e,Bool.false_or];exact oK k r
theorem kf (ao:List (κ×V)) (k:κ) (v:V):(putK ao k v).length<=ao.length+1 :=by
 unfold putK
 split
 ·rw [ci];omega
 ·rw [tz,Fa,TM];omega
theorem ja.ik {o:Option V} {u:Option al} (r:ja o u):o.isSome=u.isSome :=by
 cases o with
 |none=>cases u with
  |none=>rfl
  |some _=>exact (show False from r).elim
 |some _=>cases u with
  |none=>exact (show False from r).elim
  |some _=>rfl
theorem KV.val {ao:List (κ×V)} {vs:List (κ×al)} (r:KV ao vs) (k:κ):ja (iA ao k) (valueAt vs k) :=by
 unfold KV at r
 induction r with
 |nil=>exact Go
 | @cons p q ps qs h t ih=>
  obtain ⟨h1,h2⟩:=h
  by_cases e:p.1=k
  ·have e':q.1=k:=h1.symm.trans e
   have b:valueAt (q::qs) k=some q.2 :=by simp [valueAt,OR,e']
   rw [k8 e,b];exact h2
  ·have e':¬ q.1=k:=fun z=>e (h1.trans z)
   have b:valueAt (q::qs) k=valueAt qs k :=by simp [valueAt,OR,e']
   rw [k9 e,b];exact ih
theorem KV.any {ao:List (κ×V)} {vs:List (κ×al)} (r:KV ao vs) (k:κ):(ao.any fun kv=>decide (kv.1=k))=vs.any fun kv=>decide (kv.1=k) :=by
 unfold KV at r
 induction r with
 |nil=>rfl
 |cons h t ih=>rw [List.any_cons,List.any_cons,ih,h.1]
theorem KV.repl {ao:List (κ×V)} {vs:List (κ×al)} (r:KV ao vs) (k:κ) {y:V} {u:al} (ry:RelV y u) :
  KV (ao.map fun kv=>if kv.1=k then (kv.1,y) else kv) (vs.map fun kv=>if kv.1=k then (kv.1,u) else kv) :=by
 unfold KV at r ⊢
 induction r with
 |nil=>exact .nil
 | @cons p q ps qs h t ih=>
  rw [wv,wv]
  refine .cons ?_ ih
  obtain ⟨h1,h2⟩:=h
  by_cases e:p.1=k
  ·rw [if_pos e,if_pos (h1.symm.trans e)];exact ⟨h1,ry⟩
  ·rw [if_neg e,if_neg (fun z=>e (h1.trans z))];exact ⟨h1,h2⟩
theorem KV.put {ao:List (κ×V)} {vs:List (κ×al)} (r:KV ao vs) (k:κ) {y:V} {u:al} (ry:RelV y u):KV (putK ao k y) (stored vs k u) :=by
 unfold putK stored
 rw [r.any k]
 by_cases e:(vs.any fun kv=>decide (kv.1=k))=true
 ·rw [if_pos e,if_pos e];exact r.repl k ry
 ·rw [if_neg e,if_neg e];exact Cn.snoc r ⟨rfl,ry⟩
theorem KV.length {ao:List (κ×V)} {vs:List (κ×al)} (r:KV ao vs):ao.length=vs.length:=SL r
end
theorem nJ {P:c8} {w:ff} {k:Key} {u:al} (r:RelV (kV k) u):(bJ P w).is k u=true :=by
 cases k with
 |inl i=>obtain ⟨t,e⟩:=(show ∃t,u=VA i t from r);subst e;exact wj P w i t
 |inr x=>obtain ⟨t,e⟩:=(show ∃t,u=U6 x t from r);subst e;exact wm P w x t
theorem sj {P:c8} {w:ff}:∀{ks:List Key} {us:List al},Vals (ks.map kV) us->ItemsAre (bJ P w) ks us
 | [],_,r=>by rw [Vf] at r;cases r;exact .nil
 |k::ks,_,r=>by
          rw [wv] at r
          cases r with
          |cons h t=>exact .cons (nJ h) (sj t)
abbrev KT (H:Hp):List (List Key×V)->List (List Key×ac×al)->Prop:=Cn fun p q=>p.1=q.1/\H q.2.1=some (.tup (p.1.map kV))/\RelV p.2 q.2.2
theorem KT.val {H:Hp} {ao:List (List Key×V)} {xs:List (List Key×ac×al)} (r:KT H ao xs) (k:List Key):ja (iA ao k) ((atKey xs k).map (·.2)) :=by
 induction r with
 |nil=>exact Go
 | @cons p q ps qs h t ih=>
  obtain ⟨h1,_,h2⟩:=h
  by_cases e:p.1=k
  ·have e':q.1=k:=h1.symm.trans e
   have b:atKey (q::qs) k=some q.2 :=by simp [atKey,OR,e']
   rw [k8 e,b];exact h2
  ·have e':¬ q.1=k:=fun z=>e (h1.trans z)
   have b:atKey (q::qs) k=atKey qs k :=by simp [atKey,OR,e']
   rw [k9 e,b];exact ih
theorem KT.repl {H:Hp} {ao:List (List Key×V)} {xs:List (List Key×ac×al)} (r:KT H ao xs) (k:List Key) {y:V} {u:al} (ry:RelV y u) :
  KT H (ao.map fun kv=>if kv.1=k then (kv.1,y) else kv) (xs.map (putAt k u)) :=by
 induction r with
 |nil=>exact .nil
 | @cons p q ps qs h t ih=>
  rw [wv,wv]
  refine .cons ?_ ih
  obtain ⟨h1,h2,h3⟩:=h
  unfold putAt
  by_cases e:p.1=k
  ·rw [if_pos e,if_pos (h1.symm.trans e)];exact ⟨h1,h2,ry⟩
  ·rw [if_neg e,if_neg (fun z=>e (h1.trans z))];exact ⟨h1,h2,h3⟩
theorem KT.put {H:Hp} {ao:List (List Key×V)} {xs:List (List Key×ac×al)} (r:KT H ao xs) (k:List Key) {b:ac} {y:V} {u:al} (hb:H b=some (.tup (k.map kV))) (ry:RelV y u) :
  KT H (putK ao k y) (storedH xs k b u) :=by
 have e:(ao.any fun kv=>decide (kv.1=k))=(atKey xs k).isSome :=by
  rw [oK,(r.val k).ik,P3]
 unfold putK storedH
 rw [e]
 by_cases q:(atKey xs k).isSome=true
 ·rw [if_pos q,if_pos q];exact r.repl k ry
 ·rw [if_neg q,if_neg q];exact Cn.snoc r ⟨rfl,hb,ry⟩
theorem KT.keeps {H H':Hp} {ao:List (List Key×V)} {xs:List (List Key×ac×al)} (r:KT H ao xs) (ht:∀b ys,H b=some (.tup ys)->H' b=some (.tup ys)):KT H' ao xs:=
 Cn.CV r fun _ _ z=>⟨z.1,ht _ _ z.2.1,z.2.2⟩
section
variable {P:c8} {w:ff} {H:Hp} {h:gc} {a:ac}
theorem Fq {u:HO} (ok:cL P w H h) (e:Rd H a u):ObjOk P w H h a u:=e.ok ok
theorem nK {ao:List (Key×V)} (ok:cL P w H h) (e:Rd H a (.dK ao)):ao.length<=sizeLine/\(a==sysModules)=false/\∃vs,KV ao vs/\h.DictOf (bJ P w) a vs:=
 show ObjOk P w H h a (.dK ao) from Fq ok e
theorem Fs {ao:List (Key×V)} (ok:cL P w H h) (e:H a=some (.dK ao)):ao.length<=sizeLine/\(a==sysModules)=false/\∃vs,KV ao vs/\h.DictOf (bJ P w) a vs:=nK ok (.inl e)
theorem ky {ks:List Key} (ok:cL P w H h) (e:H a=some (.tup (ks.map kV))):(tupleKind (bJ P w)).is h ks a :=by
 obtain ⟨_,its,r,o,h1,h2,n,h3,_⟩:=(show ObjOk P w H h a (.tup (ks.map kV)) from ok a _ e)
 exact ⟨o,its.toArray,n,h1,h2,h3,by simpa using sj r⟩
theorem pW {ao:List (List Key×V)} (ok:cL P w H h) (e:Rd H a (.dT ao)):ao.length<=sizeLine/\(a==sysModules)=false /\
  ∃xs,KT H ao xs/\h.DictOfH (tupleKind (bJ P w)) a xs :=by
 obtain ⟨z,y,xs,r,o,es,ep,h1,h2,h3,h4,h5⟩:=(show ObjOk P w H h a (.dT ao) from Fq ok e)
 refine ⟨z,y,xs,r,o,es,ep,h1,h2,h3,h4,fun x hx=>?_,h5⟩
 have all:∀{l:List (List Key×V)} {m:List (List Key×ac×al)},KT H l m->∀x∈m,(tupleKind (bJ P w)).is h x.1 x.2.1 :=by
  intro l m q
  induction q with
  |nil=>intro x hx;exact nomatch hx
  | @cons p q ps qs hq t ih=>
   intro x hx
   rcases l3.mp hx with e|hx
   ·subst e
    exact ky ok (by rw [<- hq.1];exact hq.2.1)
   ·exact ih x hx
 exact all r x hx
theorem Ft {ao:List (List Key×V)} (ok:cL P w H h) (e:H a=some (.dT ao)):ao.length<=sizeLine/\(a==sysModules)=false /\
  ∃xs,KT H ao xs/\h.DictOfH (tupleKind (bJ P w)) a xs:=pW ok (.inl e)
end
def oM (H:Hp) (a:ac) (y:V) (r:Option V):Prop:=
 (∃ao k,Rd H a (.dK ao)/\y=kV k/\r=iA ao k)\/∃ao k b,Rd H a (.dT ao)/\y=.ref b/\H b=some (.tup (k.map kV))/\r=iA ao k
def Kc (H:Hp) (a:ac) (y v:V) (H':Hp):Prop:=
 (∃ao k,H a=some (.dK ao)/\y=kV k/\ao.length<sizeLine/\H'=upd H a (.dK (putK ao k v))) \/
 ∃ao k b,H a=some (.dT ao)/\y=.ref b/\H b=some (.tup (k.map kV))/\ao.length<sizeLine/\H'=upd H a (.dT (putK ao k v))
section
variable {X:Cx} {pins:List (ac×im)} {σ:St} {H:Hp} {s:ar} {a:ac} {y v:V} {u r:al} {o:Option V} {A:l4} {E:al->ar->Prop}
theorem Inv.big (I:Inv X pins σ H s):sysModules<s.heap.objs.size :=by
 have h:mainGlobals<s.heap.objs.size:=(I.mod.glob.keeps I.bk).lt
 exact Nat.lt_trans (by decide) h
theorem A0 {Q:al->ar->Prop} (hu:A.units+1<cLine) (I:Inv X pins σ H s) (g:oM H a y (some v)) (ry:RelV y u) (h:∀w' s',Inv X pins σ H s'->RelV v w'->Q w' s') :
  wpAny (model X.prog X.w) A (getItem (.ref a) u) Q E s :=by
 rcases g with ⟨ao,k,e,ey,l⟩|⟨ao,k,b,e,ey,eb,l⟩
 ·subst ey
  obtain ⟨z,hd,vs,rel,dd⟩:=nK I.hok e
  obtain ⟨w',hw,jc⟩:=ja.some_of (v:=v) (o:=valueAt vs k) (by rw [l];exact rel.val k)
  exact wpAny_getItem_of (nJ ry) dd.mapOf hw (h w' _ (I.tok _) jc)
 ·subst ey
  cases (show u=ma b from ry)
  obtain ⟨z,hd,xs,rel,dd⟩:=pW I.hok e
  obtain ⟨w',hw,jc⟩:=ja.some_of (v:=v) (o:=(atKey xs k).map (·.2)) (by rw [l];exact rel.val k)
  obtain ⟨p,hp,Sh⟩:=li.mp hw
  refine wpAny_getItem_heap (UO hu) (ky I.hok eb) dd hp ?_
  rw [Sh]
  exact h w' _ (I.tok _) jc
theorem QN {Q:al->ar->Prop} (hu:A.units+1<cLine) (I:Inv X pins σ H s) (g:oM H a y o) (ry:RelV y u) (h:∀s',Inv X pins σ H s'->Q (.bool o.isSome) s') :
  wpAny (model X.prog X.w) A (compareOp .In u (.ref a)) Q E s :=by
 rcases g with ⟨ao,k,e,ey,l⟩|⟨ao,k,b,e,ey,eb,l⟩
 ·subst ey
  obtain ⟨z,hd,vs,rel,dd⟩:=nK I.hok e
  refine wpAny_in_of (nJ ry) hd dd.mapOf ?_
  rw [<- (rel.val k).ik,<- l]
  exact h _ (I.tok _)
 ·subst ey
  cases (show u=ma b from ry)
  obtain ⟨z,hd,xs,rel,dd⟩:=pW I.hok e
  refine wpAny_in_heap (UO hu) (ky I.hok eb) hd dd ?_
  have q:=(rel.val k).ik
  rw [P3] at q
  rw [<- q,<- l]
  exact h _ (I.tok _)
theorem GV {Q:al->ar->Prop} (hu:A.units+1<cLine) (I:Inv X pins σ H s) (g:oM H a y o) (ry:RelV y u) (h:∀s',Inv X pins σ H s'->Q (.bool (!o.isSome)) s') :
  wpAny (model X.prog X.w) A (compareOp .NotIn u (.ref a)) Q E s :=by
 rcases g with ⟨ao,k,e,ey,l⟩|⟨ao,k,b,e,ey,eb,l⟩
 ·subst ey
  obtain ⟨z,hd,vs,rel,dd⟩:=nK I.hok e
  refine wpAny_notIn_of (nJ ry) hd dd.mapOf ?_
  rw [<- (rel.val k).ik,<- l]
  exact h _ (I.tok _)
 ·subst ey
  cases (show u=ma b from ry)
  obtain ⟨z,hd,xs,rel,dd⟩:=pW I.hok e
  refine wpAny_notIn_heap (UO hu) (ky I.hok eb) hd dd ?_
  have q:=(rel.val k).ik
  rw [P3] at q
  rw [<- q,<- l]
  exact h _ (I.tok _)
theorem nL {h':gc} {t':Nat} {ob:HO} (I:Inv X pins σ H s) (mu:zP (H a)) (hs:u7 a s.heap h') (he:∃q,h'.get? a=some q) (new:ObjOk X.prog X.w (upd H a ob) h' a ob) :
  Inv X pins σ (upd H a ob) {s with heap:=h',toks:=t'}:=
 I.write (x:=a) (e:=a) mu (.inl rfl) (fun b q hb z=>(hs.2 b hb).trans z) he new
theorem A1 {P:c8} {w:ff} {H':Hp} {h':gc} {ao:List (Key×V)} {vs:List (Key×al)} (z:ao.length<=sizeLine) (hd:(a==sysModules)=false) (rel:KV ao vs) (dd:h'.DictOf (bJ P w) a vs) :
  ObjOk P w H' h' a (.dK ao):=⟨z,hd,vs,rel,dd⟩
theorem A6 {H':Hp} {Q:Unit->ar->Prop} (hu:A.units+1<cLine) (I:Inv X pins σ H s) (g:Kc H a y v H') (ry:RelV y u) (rv:RelV v r) (h:∀s',Inv X pins σ H' s'->Q () s') :
  wpAny (model X.prog X.w) A (setItem (.ref a) u r) Q E s :=by
 rcases g with ⟨ao,k,e,ey,l,eH⟩|⟨ao,k,b,e,ey,eb,l,eH⟩
 ·subst ey eH
  obtain ⟨z,hd,vs,rel,dd⟩:=Fs I.hok e
  have hz:vs.length<=sizeLine :=by rw [<- rel.length];exact z
  have hl:(putK ao k v).length<=sizeLine :=by have:=kf ao k v;omega
  refine wpAny_setItem_pairs (hsz:=hz) (nJ ry) dd fun h' pX hs=>h _ ?_
  have he:∃q,h'.get? a=some q:=let ⟨q,_,_,hq,_⟩:=pX;⟨q,hq⟩
  exact nL I (by rw [e];exact Go) hs he (A1 hl hd (rel.put k rv) pX)
 ·subst ey eH
  cases (show u=ma b from ry)
  obtain ⟨z,hd,xs,rel,dd⟩:=Ft I.hok e
  have hz:xs.length<=sizeLine :=by rw [<- SL rel];exact z
  have hl:(putK ao k v).length<=sizeLine :=by have:=kf ao k v;omega
  refine wpAny_setItem_heap (hsz:=hz) (UO hu) (ky I.hok eb) dd fun h' pX hs=>h _ ?_
  obtain ⟨q,es,ep,hq,h2,h3,h4,_,h5⟩:=pX
  refine nL I (by rw [e];exact Go) hs ⟨q,hq⟩ ⟨hl,hd,_,(rel.put k eb rv).keeps fun c ys ec=>?_,q,es,ep,hq,h2,h3,h4,h5⟩
  rw [af (yh ec e (fun z=>nomatch z))]
  exact ec
end
section
variable {X:Cx} {pins:List (ac×im)} {σ:St} {H:Hp} {s:ar} {a:ac} {ao:List (Key×V)} {k:Key} {u:al} {A:l4} {E:al->ar->Prop}
theorem Nj {Q:al->ar->Prop} (I:Inv X pins σ H s) (e:Rd H a (.dK ao)) (h:∀t s',Inv X pins σ H s'->Q (.int ao.length t) s'):wpAny (model X.prog X.w) A (call (.builtin "len") [.ref a]) Q E s :=by
 obtain ⟨z,hd,vs,rel,dd⟩:=nK I.hok e
 refine call_len_dict hd dd (by rw [<- rel.length];rw [SO] at z;omega) ?_
 rw [<- rel.length]
 exact h _ _ (I.tok _)
end
def DQ (i:cr):Prop:=∀ov iv,subscripted i false ov iv=operate [ov,iv] (getItem ov iv)
theorem GW {prog:c8} {w:ff} {A:l4} {E:al->ar->Prop} {s:ar} {env:IF} {value slice:cr} {pos:ul} {T id:String} {Q:al->ar->Prop}
  (hl:typeLookup (.type T) "__getitem__" = pure (some (.builtin id))) (hs:DQ slice)
  (h:wpAny (model prog w) A (eval value env) (fun o aw=>wpAny (model prog w) A (eval slice env) (fun i gP=>gP.TypeIs o T/\wpAny (model prog w) A (getItem o i) Q E gP) E aw) E s) :
  wpAny (model prog w) A (eval (.Subscript value slice pos) env) Q E s :=by
 refine Subscript_ (l6 h (fun o aw jg=>l6 jg (fun i gP DR=>?_) fun _ _ x=>x) fun _ _ x=>x)
 obtain ⟨hT,DR⟩:=DR
 unfold subscriptTail
 refine ap ?_
 rw [getitemInPython_of_ne hT.not_modules]
 refine ap (Vj hT hl ?_)
 have fin:wpAny (model prog w) A (subscripted slice false o i) (fun r qJ=>wpAny (model prog w) A (letTemporaryGo value o r>>=fun _=>pure r) Q E qJ) E gP :=by
  rw [hs o i]
  exact wpAny_operating (l6 DR (fun r qJ QO=>ap (wpAny_letTemporaryGo (br QO))) fun _ _ x=>x)
 first
  |exact br (ap fin)
  |exact ap (br (ap fin))
  |exact ap fin
theorem wD {X:Cx} {pins:List (ac×im)} {σ:St} {H:Hp} {s:ar} {a:ac} {y:V} {o:Option V} (I:Inv X pins σ H s) (g:oM H a y o):s.TypeIs (.ref a) "dict" := by
 rcases g with ⟨ao,k,e,_,_⟩|⟨ao,k,b,e,_,_,_⟩
 ·obtain ⟨_,_,vs,_,dd⟩:=nK I.hok e
  exact dd.typeIs
 ·obtain ⟨_,_,xs,_,dd⟩:=pW I.hok e
  exact dd.typeIs
def Nk (td ty:TE):TE:=fun σ H Q=>td σ H fun x H1=>ty σ H1 fun y H2=>∃a v,x=.ref a/\oM H2 a y (some v)/\Q v H2
def Nm (td ty tv:TE):TS:=fun D σ H=>tv σ H fun v H1=>td σ H1 fun x H2=>ty σ H2 fun y H3=>∃a H4,x=.ref a/\Kc H3 a y v H4/\D.nx σ H4
section
variable {X:Cx} {o i e value:cr} {pos pos' Uh:ul} {td ty tv:TE}
theorem GX (hu:X.A.units+1<cLine) (ho:PE X o td) (hi:PE X i ty) (hs:DQ i):PE X (.Subscript o i pos) (Nk td ty) :=by
 refine ⟨?_⟩
 intro pins s σ H Q I h
 refine GW PySem.F.slot_dict_getitem.lookup hs (thn (ho pins s σ H _ I h) fun u s1 ⟨x,H1,I1,rx,q1⟩=>thn (hi pins s1 σ H1 _ I1 q1) fun iv s2 ⟨y,H2,I2,ry,a,v,ex,g,q2⟩=>?_)
 subst ex
 obtain rfl:u=ma a:=rx
 exact ⟨wD I2 g,A0 hu I2 g ry fun w' s3 I3 jc=>⟨v,H2,I3,jc,q2⟩⟩
theorem GY (hu:X.A.units+1<cLine) (ho:PE X o td) (hi:PE X i ty) (hv:PE X value tv) (hs:swapsWith value (some (.Subscript o i pos')) pos.line X.env=pure false) :
  PS X (.Assign [.Subscript o i pos'] value pos) (Nm td ty tv) :=by
 refine ⟨?_⟩
 intro pins s σ H D I h
 refine wpAny_Assign_Subscript (thn (hv pins s σ H _ I h) fun r s1 ⟨v,H1,I1,rv,q1⟩=>thn (ho pins s1 σ H1 _ I1 q1) fun u s2 ⟨x,H2,I2,rx,q2⟩=>thn (hi pins s2 σ H2 _ I2 q2) fun iv s3 ⟨y,H3,I3,ry,a,H4,ex,g,q3⟩=>?_) hs
 subst ex
 obtain rfl:u=ma a:=rx
 exact A6 hu I3 g ry rv fun s4 I4=>⟨σ,H4,I4,q3⟩
end
theorem DS {P:c8} {w:ff} {H:Hp} (h:gc) (hb:sysModules<h.objs.size):ObjOk P w H (h.push {cls:=.type "dict",data:=.dict #[]}) h.objs.size (.dK []):=
 ⟨qr _,beq_eq_false_iff_ne.mpr (xz (i4 hb)),[],.nil,gc.DictOf.new h⟩
theorem DT {P:c8} {w:ff} {H:Hp} (h:gc) (hb:sysModules<h.objs.size):ObjOk P w H (h.push {cls:=.type "dict",data:=.dict #[]}) h.objs.size (.dT []):=
 ⟨qr _,beq_eq_false_iff_ne.mpr (xz (i4 hb)),[],.nil,_,#[],0,dL _ rfl,⟨rfl,rfl,rfl⟩,rfl,rfl,List.nodup_nil⟩
def uZ:List (TE×TE)->St->Hp->(List (V×V)->Hp->Prop)->Prop
 | [],_,H,Q=>Q [] H
 |(tk,tv)::r,σ,H,Q=>tk σ H fun x H1=>tv σ H1 fun y H2=>uZ r σ H2 fun ps H3=>Q ((x,y)::ps) H3
abbrev VV:List (V×V)->List (al×al)->Prop:=Cn fun p q=>RelV p.1 q.1/\RelV p.2 q.2
def PPs (X:Cx) (pos:ul) (keys:List (Option cr)) (values:List cr) (pY:List (TE×TE)):Prop:=
 ∀(pins:List (ac×im)) (s:ar) (σ:St) (H:Hp) (Q:List (V×V)->Hp->Prop),Inv X pins σ H s->uZ pY σ H Q->
  wpAny (model X.prog X.w) X.A (evalPairs (pairTrees keys values X.env pos)) (fun vs s'=>∃ps H',Inv X pins σ H' s'/\VV ps vs/\Q ps H') X.xe s
theorem GZ {X:Cx} {pos:ul}:PPs X pos [] [] []:=fun pins s σ H Q I h=>pairTrees_nil_walk ⟨[],H,I,.nil,h⟩
theorem DU {X:Cx} {pos:ul} {k v:cr} {ks:List (Option cr)} {vs:List cr} {tk tv:TE} {pY:List (TE×TE)} (hk:PE X k tk) (hv:PE X v tv) (hr:PPs X pos ks vs pY) :
  PPs X pos (some k::ks) (v::vs) ((tk,tv)::pY):=fun pins s σ H Q I h=>
 pairTrees_cons_walk (thn (hk pins s σ H _ I h) fun u s1 ⟨x,H1,I1,rx,q1⟩=>thn (hv pins s1 σ H1 _ I1 q1) fun w2 s2 ⟨y,H2,I2,ry,q2⟩=>
  thn (hr pins s2 σ H2 _ I2 q2) fun ws s3 ⟨ps,H3,I3,rel,q3⟩=>⟨(x,y)::ps,H3,I3,.cons ⟨rx,ry⟩ rel,q3⟩)
def kz (ao more:List (Key×V)):List (Key×V):=more.foldl (fun acc kv=>putK acc kv.1 kv.2) ao
theorem KV.merge:∀{more:List (Key×V)} {rs:List (Key×al)} {ao:List (Key×V)} {vs:List (Key×al)},KV more rs->KV ao vs->KV (kz ao more) (merged vs rs) :=by
 intro more rs ao vs r
 unfold KV at r
 induction r generalizing ao vs with
 |nil=>intro q;exact q
 | @cons p q ps qs h t ih=>
  intro r0
  have e:KV (putK ao p.1 p.2) (stored vs q.1 q.2) :=by
   have:=r0.put p.1 h.2
   rw [<- h.1];exact this
  exact ih e
theorem lZ:∀(more ao:List (Key×V)),(kz ao more).length<=ao.length+more.length
 | [],ao=>by show ao.length<=ao.length+0;omega
 |p::r,ao=>by
          have h1:=lZ r (putK ao p.1 p.2)
          have h2:=kf ao p.1 p.2
          show (kz (putK ao p.1 p.2) r).length<=_
          rw [Fa];omega
theorem pZ {P:c8} {w:ff}:∀{ao:List (Key×V)} {ws:List (al×al)},VV (ao.map fun kv=>(kV kv.1,kv.2)) ws->∃rs,Carries (bJ P w) ws rs/\KV ao rs
 | [],_,r=>by rw [Vf] at r;cases r;exact ⟨[],Go,.nil⟩
 |p::ao,_,r=>by
          rw [wv] at r
          cases r with
          | @cons a b as bs h t=>
           obtain ⟨rs,c,q⟩:=pZ (P:=P) (w:=w) t
           obtain ⟨b1,b2⟩:=b
           exact ⟨(p.1,b2)::rs,⟨nJ h.1,rfl,c⟩,.cons ⟨rfl,h.2⟩ q⟩
def Np (pY:List (TE×TE)):TE:=fun σ H Q=>∀p,H p=none->uZ pY σ (upd H p (.dK [])) fun ps H2=>H2 p=some (.dK [])/\∃ao:List (Key×V),ps=ao.map (fun kv=>(kV kv.1,kv.2))/\ao.length<=15/\Q (.ref p) (upd H2 p (.dK (kz [] ao)))
theorem G0 {X:Cx} {pos:ul} {keys:List (Option cr)} {values:List cr} {pY:List (TE×TE)} (h:PPs X pos keys values pY) (qI:keys.all (·.isSome)=true) (hl:keys.length=values.length) (h0:keys≠[])
  (Si:keys.length<=15):PE X (.Dict keys values pos) (Np pY) :=by
 refine ⟨?_⟩
 intro pins s σ H Q I q
 have hn:=I.hok.fresh (cb s.heap.objs.size)
 have I1:=I.laid (a:=s.heap.objs.size) (o:=.dK []) (h':=s.heap.push {cls:=.type "dict",data:=.dict #[]}) (t':=s.toks) (fun _ _ q=>bn _ q) (cb _) (DS s.heap I.big)
 refine wpAny_Dict_walk (knd:=bJ X.prog X.w) qI hl h0 Si (thn (h pins _ σ _ _ I1 (q _ hn)) fun ws s2 ⟨ps,H2,I2,rel,e,ao,ep,lk,q2⟩=>?_)
 subst ep
 obtain ⟨rs,c,rk⟩:=pZ (P:=X.prog) (w:=X.w) rel
 obtain ⟨z,hd,Kd,r0,dd⟩:=Fs I2.hok e
 cases r0
 refine ⟨rs,c,dd,fun h' pX hs=>⟨.ref s.heap.objs.size,_,?_,rfl,q2⟩⟩
 have hz:(kz [] ao).length<=sizeLine :=by
  have h1:=lZ ao []
  rw [TM] at h1
  rw [SO];omega
 have he:∃q,h'.get? s.heap.objs.size=some q:=let ⟨q,_,_,hq,_⟩:=pX;⟨q,hq⟩
 exact nL I2 (by rw [e];exact Go) hs he (A1 hz hd (rk.merge .nil) pX)
structure M1 (X:Cx) (o:cr) (m:bi) (apos:ul) (e:cr) (bG:ul):Prop where
 base:attributeBase o m X.env (eval o X.env)=eval o X.env
 few:((backTo bG (starEach [e] X.env)).all (fun x => !x.1) && (backToKw bG (keywordEach [] X.env)).all (fun x=>x.1.isSome)
  && decide (([e]:List cr).length+([]:List UR).length+(if ([]:List UR).isEmpty then 0 else 1)<30))=true
 line:(apos.endLine==bG.line)=true
 trees:backTo bG (starEach [e] X.env)=[(false,eval e X.env)]
structure M2 (X:Cx) (o:cr) (m:bi) (apos:ul) (e f:cr) (bG:ul):Prop where
 base:attributeBase o m X.env (eval o X.env)=eval o X.env
 few:((backTo bG (starEach [e,f] X.env)).all (fun x => !x.1) && (backToKw bG (keywordEach [] X.env)).all (fun x=>x.1.isSome)
  && decide (([e,f]:List cr).length+([]:List UR).length+(if ([]:List UR).isEmpty then 0 else 1)<30))=true
 line:(apos.endLine==bG.line)=true
 trees:backTo bG (starEach [e,f] X.env)=[(false,eval e X.env),(false,eval f X.env)]
inductive Dv where
 |int (i:Int)|bl (b:Bool)|av|str (z:bi)|tup (xs:List Dv)|lst (xs:List Dv)|set (ns:List Int)|ptr (a:ac)|exc (C:ac)|bC (ns:List Int)|raw (v:V)|dk (ks:List Key) (ds:List Dv)|dt (ks:List (List Key)) (ds:List Dv)|bP (f:ac) (o:im) (c:ac) (oc:im) (vs:List V) (ds:List Dv)
inductive Mo where
 |lst (xs:List Dv)|cI|dk (ks:List Key) (ds:List Dv)|dt (ks:List (List Key)) (ds:List Dv)
abbrev Mh:=ac->Option Mo
structure b5 where
 g:List ac
 l:List (ac×bi)
instance:Membership ac b5:=⟨fun t a=>a∈t.g⟩
def Fu:HO->Bool
 | .cF _=>true
 | .lam _=>true
 | .dK _=>true
 | .dT _=>true
 |_=>false
def A7:HO->Bool
 | .cF _=>false
 |_=>true
def jo:HO->Bool
 | .dK _=>true
 | .dT _=>true
 |_=>false
theorem Rd.map {H H':Hp} {a:ac} {u:HO} (e:Rd H a u) (k:∀x,H a=some x->H' a=some x):Rd H' a u:=e.imp (k _) fun ⟨o,h⟩=>⟨o,k _ h⟩
theorem Rd.Ke {H H':Hp} {a:ac} {u:HO} (e:Rd H a u) (hu:jo u=true) (k:∀x,A7 x=true->H a=some x->H' a=some x):Rd H' a u:=e.imp (k _ (by cases u <;> first|rfl|cases hu)) fun ⟨o,h⟩=>⟨o,k _ rfl h⟩
theorem Rd.there {H:Hp} {a:ac} {u:HO} (e:Rd H a u):∃x,H a=some x:=e.elim (fun h=>⟨_,h⟩) fun ⟨o,h⟩=>⟨_,h⟩
def Tg (o o':HO):Prop:=(∃ps gq:Array al,o=.cF ps/\o'=.cF gq/\KB gq.toList)\/(∃ps gq:Array al,o=.lam ps/\o'=.lam gq)\/(jo o=true/\∃ob,o'=.bL ob o)
theorem Tg.trans {a b c:HO} (x:Tg a b) (y:Tg b c):Tg a c :=by
 rcases x with ⟨p,q,rfl,rfl,t⟩|⟨p,q,rfl,rfl⟩|⟨hd,ob,rfl⟩
 ·rcases y with ⟨p2,q2,e,rfl,t2⟩|⟨p2,q2,e,_⟩|⟨e,_⟩
  ·exact .inl ⟨p,q2,rfl,rfl,t2⟩
  ·cases e
  ·cases e
 ·rcases y with ⟨p2,q2,e,_⟩|⟨p2,q2,e,rfl⟩|⟨e,_⟩
  ·cases e
  ·exact .inr (.inl ⟨p,q2,rfl,rfl⟩)
  ·cases e
 ·rcases y with ⟨p2,q2,e,_⟩|⟨p2,q2,e,_⟩|⟨e,_⟩ <;> cases e
theorem Tg.tab {a b:HO} (x:Tg a b):Fu a=true :=by
 rcases x with ⟨p,q,rfl,rfl,_⟩|⟨p,q,rfl,rfl⟩|⟨hd,ob,rfl⟩
 ·rfl
 ·rfl
 ·cases a <;> first|rfl|cases hd
def QP (H:Hp) (q:bi) (cv:al):Prop:=∃(c:ac) (oc:im) (u:HO) (vs:Array al) (t:Vc),cv=ma c/\H c=some (.bL oc u)/\oc.data=.fields vs/\vs[1]?=some (U6 q t)
def Lm (H:Hp) (p:ac×bi):Prop:=∃ps:Array al,H p.1=some (.lam ps)/\KB ps.toList/\∀pos cv,codeAmong pos ps.toList=some cv->QP H p.2 cv
theorem Lm.keep {H H':Hp} {p:ac×bi} (h:Lm H p) (k1:∀ps,H p.1=some (.lam ps)->H' p.1=some (.lam ps)) (k2:∀c oc u,H c=some (.bL oc u)->H' c=some (.bL oc u)):Lm H' p :=by
 obtain ⟨ps,e,t,c⟩:=h
 refine ⟨ps,k1 _ e,t,fun pos cv q=>?_⟩
 obtain ⟨a,oc,u,vs,tk,e1,e2,r⟩:=c pos cv q
 exact ⟨a,oc,u,vs,tk,e1,k2 _ _ _ e2,r⟩
structure Bz where
 P:c8
 w:ff
 K:ba
 tb:b5
 hid:List ac
def Fz (β:Bz) (M:Mh) (a:ac):Prop:=M a=none/\a ∉ β.hid
def Kl (K:ba) (a:ac) (ns:List Int):Prop:=∃(o:im) (its:Array al) (n:Nat),K.lookup a=some o/\o.cls=.type "list" /\ o.dict=none/\o.data=.seq its n/\its.size<=sizeLine/\Vals (ns.map V.int) its.toList
inductive Rz (β:Bz) (M:Mh) (H:Hp):V->Dv->Prop where
 |int (i:Int):Rz β M H (.int i) (.int i)
 |bl (b:Bool):Rz β M H (.bl b) (.bl b)
 |av:Rz β M H .av .av
 |str (z:bi):Rz β M H (.str z) (.str z)
 |tup {a:ac} {vs:List V} {ds:List Dv} (m:Fz β M a) (e:H a=some (.tup vs)) (hl:vs.length=ds.length) (h:∀(i:Nat) (v:V) (d:Dv),vs[i]?=some v->ds[i]?=some d->Rz β M H v d):Rz β M H (.ref a) (.tup ds)
 |lst {a:ac} {vs:List V} {ds:List Dv} (m:Fz β M a) (e:H a=some (.lst vs)) (hl:vs.length=ds.length) (h:∀(i:Nat) (v:V) (d:Dv),vs[i]?=some v->ds[i]?=some d->Rz β M H v d):Rz β M H (.ref a) (.lst ds)
 |set {a:ac} {ns:List Int} (m:Fz β M a) (e:H a=some (oI β.P β.w a ns)):Rz β M H (.ref a) (.set ns)
 |ptr {a:ac} (m:(M a).isSome=true):Rz β M H (.ref a) (.ptr a)
 |exc {a C:ac} (m:Fz β M a) (e:H a=some (QM C a)):Rz β M H (.ref a) (.exc C)
 |bC {a:ac} {o:im} {ns:List Int} (m:Fz β M a) (e:H a=some (.bL o (.lst (ns.map V.int)))):Rz β M H (.ref a) (.bC ns)
 |cu {a:ac} {ns:List Int} (m:Fz β M a) (e:H a=some (.lst (ns.map V.int))):Rz β M H (.ref a) (.bC ns)
 |cw {a:ac} {ns:List Int} (e:Kl β.K a ns):Rz β M H (.ref a) (.bC ns)
 |raw (v:V):Rz β M H v (.raw v)
 |dk {a:ac} {ks:List Key} {vs:List V} {ds:List Dv} (m:Fz β M a) (e:Rd H a (.dK (ks.zip vs))) (hk:ks.length=vs.length) (hl:vs.length=ds.length) (h:∀(i:Nat) (v:V) (d:Dv),vs[i]?=some v->ds[i]?=some d->Rz β M H v d):Rz β M H (.ref a) (.dk ks ds)
 |dt {a:ac} {ks:List (List Key)} {vs:List V} {ds:List Dv} (m:Fz β M a) (e:Rd H a (.dT (ks.zip vs))) (hk:ks.length=vs.length) (hl:vs.length=ds.length) (h:∀(i:Nat) (v:V) (d:Dv),vs[i]?=some v->ds[i]?=some d->Rz β M H v d):Rz β M H (.ref a) (.dt ks ds)
 |bP {f c:ac} {o oc:im} {u uc:HO} {vs:List V} {ds:List Dv} (m:Fz β M f) (e:H f=some (.bL o u)) (m2:Fz β M c) (e2:H c=some (.bL oc uc)) (hl:vs.length=ds.length) (h:∀(i:Nat) (v:V) (d:Dv),vs[i]?=some v->ds[i]?=some d->Rz β M H v d):Rz β M H (.ref f) (.bP f o c oc vs ds)
structure aG (β:Bz) (M:Mh) (H:Hp) (vs:List V) (ds:List Dv):Prop where
 len:vs.length=ds.length
 at':∀(i:Nat) (v:V) (d:Dv),vs[i]?=some v->ds[i]?=some d->Rz β M H v d
def il (β:Bz) (M:Mh) (H:Hp) (a:ac):Mo->Prop
 | .lst ds=>∃vs,H a=some (.lst vs)/\aG β M H vs ds
 | .cI=>M9 H a
 | .dk ks ds=>∃vs,H a=some (.dK (ks.zip vs))/\ks.length=vs.length/\aG β M H vs ds
 | .dt ks ds=>∃vs,H a=some (.dT (ks.zip vs))/\ks.length=vs.length/\aG β M H vs ds
def mM:HO->Bool
 | .lst _=>true
 | .set _ _=>true
 | .dK _=>true
 | .dT _=>true
 | .ext _=>true
 | .cF _=>true
 |_=>false
def yV (H:Hp) (a:ac):Prop:=∃o,H a=some o/\mM o=true
theorem yV.upd {H:Hp} {a p:ac} {o:HO} (h:yV H a) (d:H p=none\/mM o=true):yV (upd H p o) a :=by
 obtain ⟨u,e,n⟩:=h
 by_cases z:a=p
 ·subst z
  rcases d with d|d
  ·rw [e] at d;cases d
  ·exact ⟨o,ay,d⟩
 ·exact ⟨u,by rw [af z];exact e,n⟩
structure Mz (β:Bz) (M:Mh) (H:Hp):Prop where
 obj:∀a o,M a=some o->il β M H a o
 tabs:Fi β.tb.g H
 hids:∀a∈β.hid,yV H a
 apart:∀a o,M a=some o->a ∉ β.hid
 lams:∀p∈β.tb.l,Lm H p
structure Ey (M:Mh) (H:Hp) (M':Mh) (H':Hp):Prop where
 keep:∀b o,M b=none->H b=some o->H' b=some o\/∃o',Tg o o'/\H' b=some o'
 dom:∀a,(M a).isSome=true->(M' a).isSome=true
 new:∀a o,M a=none->H a=some o->M' a=none
structure Ex (β:Bz) (M:Mh) (H:Hp) (M':Mh) (H':Hp):Prop extends Ey M H M' H' where
 mz:Mz β M' H'
section
variable {β:Bz} {M M1 M2:Mh} {H H1 H2:Hp}
theorem Ey.refl:Ey M H M H:=⟨fun _ _ _ h=>.inl h,fun _ h=>h,fun _ _ h _=>h⟩
theorem Ex.refl (m:Mz β M H):Ex β M H M H:=⟨.refl,m⟩
theorem Ey.trans (x:Ey M H M1 H1) (y:Ey M1 H1 M2 H2):Ey M H M2 H2 :=by
 refine ⟨fun b o hm h=>?_,fun a h=>y.dom a (x.dom a h),fun a o hm h=>?_⟩
 ·have kr:=x.new b o hm h
  rcases x.keep b o hm h with q|⟨o1,t,q⟩
  ·exact y.keep b o kr q
  ·rcases y.keep b _ kr q with q2|⟨o2,t2,q2⟩
   ·exact .inr ⟨o1,t,q2⟩
   ·exact .inr ⟨o2,t.trans t2,q2⟩
 ·have kr:=x.new a o hm h
  rcases x.keep a o hm h with q|⟨o1,t,q⟩
  ·exact y.new a _ kr q
  ·exact y.new a _ kr q
theorem Ex.trans (x:Ex β M H M1 H1) (y:Ex β M1 H1 M2 H2):Ex β M H M2 H2:=⟨x.toEy.trans y.toEy,y.mz⟩
theorem Ey.get (x:Ey M H M1 H1) {b:ac} {o:HO} (m:M b=none) (h:H b=some o) (n:Fu o=false):H1 b=some o :=by
 rcases x.keep b o m h with q|⟨o',e,_⟩
 ·exact q
 ·rw [e.tab] at n;cases n
theorem Ey.rd (x:Ey M H M1 H1) {b:ac} {u:HO} (m:M b=none) (h:Rd H b u) (hu:jo u=true):Rd H1 b u :=by
 rcases h with h|⟨o,h⟩
 ·rcases x.keep b u m h with q|⟨o',t,q⟩
  ·exact .inl q
  ·rcases t with ⟨_,_,rfl,_⟩|⟨_,_,rfl,_⟩|⟨_,ob,rfl⟩
   ·cases hu
   ·cases hu
   ·exact .inr ⟨ob,q⟩
 ·exact .inr ⟨o,x.get m h rfl⟩
theorem Ey.gone (x:Ey M H M1 H1) {b:ac} (h:H1 b=none):M b=none->H b=none:=fun m=>by
 cases e:H b with
 |none=>rfl
 |some o=>
  rcases x.keep b o m e with q|⟨_,_,q⟩ <;> (rw [h] at q;cases q)
theorem Rz.ey (x:Ey M H M1 H1) {v:V} {d:Dv} (h:Rz β M H v d):Rz β M1 H1 v d :=by
 induction h with
 |int i=>exact .int i
 |bl b=>exact .bl b
 |av=>exact .av
 |str z=>exact .str z
 |tup m e hl h ih=>exact .tup ⟨x.new _ _ m.1 e,m.2⟩ (x.get m.1 e rfl) hl ih
 |lst m e hl h ih=>exact .lst ⟨x.new _ _ m.1 e,m.2⟩ (x.get m.1 e rfl) hl ih
 |dk m e hk hl h ih=>exact .dk ⟨x.new _ _ m.1 e.there.choose_spec,m.2⟩ (x.rd m.1 e rfl) hk hl ih
 |dt m e hk hl h ih=>exact .dt ⟨x.new _ _ m.1 e.there.choose_spec,m.2⟩ (x.rd m.1 e rfl) hk hl ih
 |bP m e m2 e2 hl h ih=>exact .bP ⟨x.new _ _ m.1 e,m.2⟩ (x.get m.1 e rfl) ⟨x.new _ _ m2.1 e2,m2.2⟩ (x.get m2.1 e2 rfl) hl ih
 |set m e=>exact .set ⟨x.new _ _ m.1 e,m.2⟩ (x.get m.1 e rfl)
 |ptr m=>exact .ptr (x.dom _ m)
 |exc m e=>exact .exc ⟨x.new _ _ m.1 e,m.2⟩ (x.get m.1 e rfl)
 |bC m e=>exact .bC ⟨x.new _ _ m.1 e,m.2⟩ (x.get m.1 e rfl)
 |cu m e=>exact .cu ⟨x.new _ _ m.1 e,m.2⟩ (x.get m.1 e rfl)
 |cw e=>exact .cw e
 |raw v=>exact .raw v
theorem Rz.ex (x:Ex β M H M1 H1) {v:V} {d:Dv} (h:Rz β M H v d):Rz β M1 H1 v d:=h.ey x.toEy
theorem aG.ex (x:Ex β M H M1 H1) {vs:List V} {ds:List Dv} (h:aG β M H vs ds):aG β M1 H1 vs ds:=⟨h.len,fun i v d a b=>(h.at' i v d a b).ex x⟩
theorem aG.nil:aG β M H [] []:=⟨rfl,fun i v d h=>by simp at h⟩
theorem aG.cons {v:V} {d:Dv} {vs:List V} {ds:List Dv} (h:Rz β M H v d) (t:aG β M H vs ds):aG β M H (v::vs) (d::ds):=⟨by simp [t.len],fun i x y a b=>by
 cases i with
 |zero=>simp at a b;subst a b;exact h
 |succ i=>rw [EM] at a b;exact t.at' i x y a b⟩
theorem aG.head {v:V} {d:Dv} {vs:List V} {ds:List Dv} (h:aG β M H (v::vs) (d::ds)):Rz β M H v d:=h.at' 0 v d rfl rfl
theorem aG.tail {v:V} {d:Dv} {vs:List V} {ds:List Dv} (h:aG β M H (v::vs) (d::ds)):aG β M H vs ds:=⟨by simpa using h.len,fun i x y a b=>h.at' (i+1) x y (by rw [EM];exact a) (by rw [EM];exact b)⟩
theorem aG.append {vs u0:List V} {ds ds':List Dv} (h:aG β M H vs ds) (t:aG β M H u0 ds'):aG β M H (vs++u0) (ds++ds'):=⟨by simp [h.len,t.len],fun i x y a b=>by
 rw [Vm] at a b
 rw [h.len] at a
 split at b
 ·rename_i z
  rw [if_pos z] at a
  exact h.at' i x y a b
 ·rename_i z
  rw [if_neg z] at a
  exact t.at' _ x y a b⟩
theorem aG.snoc {v:V} {d:Dv} {vs:List V} {ds:List Dv} (t:aG β M H vs ds) (h:Rz β M H v d):aG β M H (vs++[v]) (ds++[d]):=t.append (.cons h .nil)
theorem aG.get {vs:List V} {ds:List Dv} (h:aG β M H vs ds) {i:Nat} {d:Dv} (e:ds[i]?=some d):∃v,vs[i]?=some v/\Rz β M H v d :=by
 have hi:=(bv.mp e).1
 have eT:i<vs.length :=by rw [h.len];exact hi
 exact ⟨vs[i],ag eT,h.at' i _ _ (ag eT) e⟩
theorem aG.get' {vs:List V} {ds:List Dv} (h:aG β M H vs ds) {i:Nat} {v:V} (e:vs[i]?=some v):∃d,ds[i]?=some d/\Rz β M H v d :=by
 have hi:=(bv.mp e).1
 have eT:i<ds.length :=by rw [<- h.len];exact hi
 exact ⟨ds[i],ag eT,h.at' i _ _ e (ag eT)⟩
theorem aG.take {vs:List V} {ds:List Dv} (h:aG β M H vs ds) (n:Nat):aG β M H (vs.take n) (ds.take n):=⟨by simp [h.len],fun i x y a b=>by
 rw [List.getElem?_take] at a b
 split at a
 ·rename_i z;rw [if_pos z] at b;exact h.at' i x y a b
 ·cases a⟩
theorem aG.drop {vs:List V} {ds:List Dv} (h:aG β M H vs ds) (n:Nat):aG β M H (vs.drop n) (ds.drop n):=⟨by simp [h.len],fun i x y a b=>by
 rw [List.getElem?_drop] at a b
 exact h.at' _ x y a b⟩
theorem aG.set {vs:List V} {ds:List Dv} (h:aG β M H vs ds) (n:Nat) {v:V} {d:Dv} (r:Rz β M H v d):aG β M H (vs.set n v) (ds.set n d):=⟨by simp [h.len],fun i x y a b=>by
 rw [VX] at a b
 rw [h.len] at a
 split at a
 ·rename_i z
  rw [if_pos z] at b
  split at a
  ·rename_i z2;rw [if_pos z2] at b;cases a;cases b;exact r
  ·cases a
 ·rename_i z;rw [if_neg z] at b;exact h.at' i x y a b⟩
theorem kD {a:ac} {vs:List V} {ds:List Dv} (m:Fz β M a) (e:H a=some (.tup vs)) (h:aG β M H vs ds):Rz β M H (.ref a) (.tup ds):=.tup m e h.len h.at'
theorem u5 {a:ac} {vs:List V} {ds:List Dv} (m:Fz β M a) (e:H a=some (.lst vs)) (h:aG β M H vs ds):Rz β M H (.ref a) (.lst ds):=.lst m e h.len h.at'
theorem cZ {v:V} {ds:List Dv} (h:Rz β M H v (.tup ds)):∃a vs,v=.ref a/\Fz β M a/\H a=some (.tup vs)/\aG β M H vs ds :=by
 cases h with
 |tup m e hl h=>exact ⟨_,_,rfl,m,e,hl,h⟩
theorem f9 {v:V} {ds:List Dv} (h:Rz β M H v (.lst ds)):∃a vs,v=.ref a/\Fz β M a/\H a=some (.lst vs)/\aG β M H vs ds :=by
 cases h with
 |lst m e hl h=>exact ⟨_,_,rfl,m,e,hl,h⟩
theorem aN {v:V} {i:Int} (h:Rz β M H v (.int i)):v=.int i :=by cases h;rfl
theorem dA {v:V} {b:Bool} (h:Rz β M H v (.bl b)):v=.bl b :=by cases h;rfl
theorem bE {v:V} {z:bi} (h:Rz β M H v (.str z)):v=.str z :=by cases h;rfl
theorem ip {v:V} (h:Rz β M H v .av):v=.av :=by cases h;rfl
theorem A8 {v u:V} (h:Rz β M H v (.raw u)):v=u :=by cases h;rfl
theorem bZ {v:V} {a:ac} (h:Rz β M H v (.ptr a)):v=.ref a/\(M a).isSome=true :=by cases h with|ptr m=>exact ⟨rfl,m⟩
theorem sk {v:V} {ns:List Int} (h:Rz β M H v (.set ns)):∃a,v=.ref a/\Fz β M a/\H a=some (oI β.P β.w a ns) :=by cases h with|set m e=>exact ⟨_,rfl,m,e⟩
theorem sm {v:V} {ns:List Int} (h:Rz β M H v (.bC ns)):∃a,v=.ref a/\bN β.K H a (ns.map V.int) :=by
 cases h with
 |bC m e=>exact ⟨_,rfl,.inl (.inr ⟨_,e⟩)⟩
 |cu m e=>exact ⟨_,rfl,.inl (.inl e)⟩
 |cw e=>exact ⟨_,rfl,.inr e⟩
def oN:HO->Bool
 | .lst _=>true
 | .dK _=>true
 | .dT _=>true
 |_=>false
theorem Mz.own (m:Mz β M H) {a:ac} {o:Mo} (e:M a=some o):∃u,H a=some u/\oN u=true :=by
 have q:=m.obj a o e
 cases o with
 |lst ds=>obtain ⟨vs,q,_⟩:=q;exact ⟨_,q,rfl⟩
 |dk ks ds=>obtain ⟨vs,q,_⟩:=q;exact ⟨_,q,rfl⟩
 |dt ks ds=>obtain ⟨vs,q,_⟩:=q;exact ⟨_,q,rfl⟩
 |cI=>obtain ⟨_,_,q,_⟩:=q;exact ⟨_,q,rfl⟩
theorem Mz.kG (m:Mz β M H) {a:ac} {u:HO} (h:H a=some u) (n:oN u=false):M a=none :=by
 cases e:M a with
 |none=>rfl
 |some o=>obtain ⟨u',q,w⟩:=m.own e;rw [h] at q;cases q;rw [n] at w;cases w
theorem Mz.Nq (m:Mz β M H) {p:ac} (hp:p∈β.tb):M p=none:=let ⟨_,h,_⟩:=m.tabs p hp;m.kG h rfl
theorem Mz.Kf (m:Mz β M H) {p:ac×bi} (hp:p∈β.tb.l):M p.1=none:=let ⟨_,h,_⟩:=m.lams p hp;m.kG h rfl
theorem Mz.free (m:Mz β M H) {a:ac} (h:H a=none):M a=none :=by
 cases e:M a with
 |none=>rfl
 |some o=>obtain ⟨xs,q,_⟩:=m.own e;rw [h] at q;cases q
theorem Mz.fz (m:Mz β M H) {a:ac} (h:H a=none):Fz β M a:=⟨m.free h,fun z=>by
 obtain ⟨o,e,_⟩:=m.hids a z
 rw [h] at e
 cases e⟩
theorem DV {p a:ac} {o:HO} (h:∃u,H a=Pi u):∃u,upd H p o a=Pi u :=by
 unfold upd
 split
 ·exact ⟨_,rfl⟩
 ·exact h
theorem Ex.lay (m:Mz β M H) {p:ac} (h:H p=none) (o:HO):Ex β M H M (upd H p o) :=by
 have pre:∀b u,H b=some u->upd H p o b=some u:=fun b u q=>by rw [af (a8 q h)];exact q
 have rz:∀{v:V} {d:Dv},Rz β M H v d->Rz β M (upd H p o) v d:=fun r=>by
  induction r with
  |int i=>exact .int i
  |bl b=>exact .bl b
  |av=>exact .av
  |str z=>exact .str z
  |tup m e hl h ih=>exact .tup m (pre _ _ e) hl ih
  |lst m e hl h ih=>exact .lst m (pre _ _ e) hl ih
  |dk m e hk hl h ih=>exact .dk m (e.map fun _ h=>pre _ _ h) hk hl ih
  |dt m e hk hl h ih=>exact .dt m (e.map fun _ h=>pre _ _ h) hk hl ih
  |bP m e m2 e2 hl h ih=>exact .bP m (pre _ _ e) m2 (pre _ _ e2) hl ih
  |set m e=>exact .set m (pre _ _ e)
  |ptr m=>exact .ptr m
  |exc m e=>exact .exc m (pre _ _ e)
  |bC m e=>exact .bC m (pre _ _ e)
  |cu m e=>exact .cu m (pre _ _ e)
  |cw e=>exact .cw e
  |raw v=>exact .raw v
 refine ⟨⟨fun b u _ q=>.inl (pre b u q),fun _ h=>h,fun _ _ h _=>h⟩,fun a u e=>?_,fun q hq=>?_,fun a ha=>(m.hids a ha).upd (.inl h),m.apart,fun q hq=>(m.lams q hq).keep (fun _ e=>pre _ _ e) fun _ _ _ e=>pre _ _ e⟩
 ·have z:=m.obj a u e
  cases u with
  |lst ds=>obtain ⟨vs,z,l,r⟩:=z;exact ⟨vs,pre _ _ z,l,fun i v d a b=>rz (r i v d a b)⟩
  |dk ks ds=>obtain ⟨vs,z,hk,l,r⟩:=z;exact ⟨vs,pre _ _ z,hk,l,fun i v d a b=>rz (r i v d a b)⟩
  |dt ks ds=>obtain ⟨vs,z,hk,l,r⟩:=z;exact ⟨vs,pre _ _ z,hk,l,fun i v d a b=>rz (r i v d a b)⟩
  |cI=>obtain ⟨c,n,z,r⟩:=z;exact ⟨c,n,pre _ _ z,r⟩
 ·obtain ⟨ps,e,t⟩:=m.tabs q hq
  exact ⟨ps,pre _ _ e,t⟩
theorem Ex.grow (m:Mz β M H) {p:ac} (hp:p∈β.tb) {ps:Array al} (t:KB ps.toList):Ex β M H M (upd H p (.cF ps)) :=by
 obtain ⟨Sj,O3,t0⟩:=m.tabs p hp
 have pre:∀b u,H b=some u->A7 u=true->upd H p (.cF ps) b=some u:=fun b u q n=>by
  have:b≠p:=fun z=>by subst z;rw [O3] at q;cases q;cases n
  rw [af this];exact q
 have rz:∀{v:V} {d:Dv},Rz β M H v d->Rz β M (upd H p (.cF ps)) v d:=fun r=>by
  induction r with
  |int i=>exact .int i
  |bl b=>exact .bl b
  |av=>exact .av
  |str z=>exact .str z
  |tup m e hl h ih=>exact .tup m (pre _ _ e rfl) hl ih
  |lst m e hl h ih=>exact .lst m (pre _ _ e rfl) hl ih
  |dk m e hk hl h ih=>exact .dk m (e.Ke rfl fun x hx h=>pre _ _ h hx) hk hl ih
  |dt m e hk hl h ih=>exact .dt m (e.Ke rfl fun x hx h=>pre _ _ h hx) hk hl ih
  |bP m e m2 e2 hl h ih=>exact .bP m (pre _ _ e rfl) m2 (pre _ _ e2 rfl) hl ih
  |set m e=>exact .set m (pre _ _ e rfl)
  |ptr m=>exact .ptr m
  |exc m e=>exact .exc m (pre _ _ e rfl)
  |bC m e=>exact .bC m (pre _ _ e rfl)
  |cu m e=>exact .cu m (pre _ _ e rfl)
  |cw e=>exact .cw e
  |raw v=>exact .raw v
 refine ⟨⟨fun b u _ q=>?_,fun _ h=>h,fun _ _ h _=>h⟩,fun a u e=>?_,fun q hq=>?_,fun a ha=>(m.hids a ha).upd (.inr rfl),m.apart,fun q hq=>(m.lams q hq).keep (fun _ e=>pre _ _ e rfl) fun _ _ _ e=>pre _ _ e rfl⟩
 ·by_cases e:b=p
  ·subst e
   rw [O3] at q
   cases q
   exact .inr ⟨_,.inl ⟨Sj,ps,rfl,rfl,t⟩,ay⟩
  ·exact .inl (by rw [af e];exact q)
 ·have z:=m.obj a u e
  cases u with
  |lst ds=>obtain ⟨vs,z,l,r⟩:=z;exact ⟨vs,pre _ _ z rfl,l,fun i v d a b=>rz (r i v d a b)⟩
  |dk ks ds=>obtain ⟨vs,z,hk,l,r⟩:=z;exact ⟨vs,pre _ _ z rfl,hk,l,fun i v d a b=>rz (r i v d a b)⟩
  |dt ks ds=>obtain ⟨vs,z,hk,l,r⟩:=z;exact ⟨vs,pre _ _ z rfl,hk,l,fun i v d a b=>rz (r i v d a b)⟩
  |cI=>obtain ⟨c,n,z,r⟩:=z;exact ⟨c,n,pre _ _ z rfl,r⟩
 ·by_cases e:q=p
  ·subst e;exact ⟨ps,ay,t⟩
  ·obtain ⟨p2,e2,t2⟩:=m.tabs q hq
   exact ⟨p2,by rw [af e];exact e2,t2⟩
def az (M:Mh) (a:ac) (o:Mo):Mh:=fun b=>if b=a then Pi o else M b
theorem updM_same {a:ac} {o:Mo}:az M a o a=Pi o :=by unfold az;rw [if_pos rfl]
theorem ak {a b:ac} {o:Mo} (h:b≠a):az M a o b=M b :=by unfold az;rw [if_neg h]
theorem updM_updM {a:ac} {o u:Mo}:az (az M a o) a u=az M a u :=by funext b;unfold az;split <;> rfl
theorem kI {p:ac} {o:Mo} {u:HO} (hp:(M p).isSome=true\/H p=none) {v:V} {d:Dv} (h:Rz β M H v d):Rz β (az M p o) (upd H p u) v d :=by
 have ne:∀a x,M a=none->H a=Pi x->a≠p:=fun a x m e z=>by
  subst z
  rcases hp with q|q
  ·rw [m] at q;cases q
  ·rw [q] at e;cases e
 induction h with
 |int i=>exact .int i
 |bl b=>exact .bl b
 |av=>exact .av
 |str z=>exact .str z
 |tup m e hl h ih=>have n:=ne _ _ m.1 e;exact .tup ⟨by rw [ak n];exact m.1,m.2⟩ (by rw [af n];exact e) hl ih
 |lst m e hl h ih=>have n:=ne _ _ m.1 e;exact .lst ⟨by rw [ak n];exact m.1,m.2⟩ (by rw [af n];exact e) hl ih
 |dk m e hk hl h ih=>have n:=ne _ _ m.1 e.there.choose_spec;exact .dk ⟨by rw [ak n];exact m.1,m.2⟩ (e.map fun _ h=>by rw [af n];exact h) hk hl ih
 |dt m e hk hl h ih=>have n:=ne _ _ m.1 e.there.choose_spec;exact .dt ⟨by rw [ak n];exact m.1,m.2⟩ (e.map fun _ h=>by rw [af n];exact h) hk hl ih
 |bP m e m2 e2 hl h ih=>have n:=ne _ _ m.1 e;have n2:=ne _ _ m2.1 e2;exact .bP ⟨by rw [ak n];exact m.1,m.2⟩ (by rw [af n];exact e) ⟨by rw [ak n2];exact m2.1,m2.2⟩ (by rw [af n2];exact e2) hl ih
 |set m e=>have n:=ne _ _ m.1 e;exact .set ⟨by rw [ak n];exact m.1,m.2⟩ (by rw [af n];exact e)
 |ptr m=>
  refine .ptr ?_
  unfold az
  split
  ·rfl
  ·exact m
 |exc m e=>have n:=ne _ _ m.1 e;exact .exc ⟨by rw [ak n];exact m.1,m.2⟩ (by rw [af n];exact e)
 |bC m e=>have n:=ne _ _ m.1 e;exact .bC ⟨by rw [ak n];exact m.1,m.2⟩ (by rw [af n];exact e)
 |cu m e=>have n:=ne _ _ m.1 e;exact .cu ⟨by rw [ak n];exact m.1,m.2⟩ (by rw [af n];exact e)
 |cw e=>exact .cw e
 |raw v=>exact .raw v
theorem il.upd {p:ac} {o':Mo} {u:HO} (hp:(M p).isSome=true\/H p=none) {a:ac} {o:Mo} (ha:a≠p) (z:il β M H a o):il β (az M p o') (L2.upd H p u) a o :=by
 cases o with
 |lst ds=>obtain ⟨vs,z,l,r⟩:=z;exact ⟨vs,by rw [af ha];exact z,l,fun i v d a b=>kI hp (r i v d a b)⟩
 |dk ks ds=>obtain ⟨vs,z,hk,l,r⟩:=z;exact ⟨vs,by rw [af ha];exact z,hk,l,fun i v d a b=>kI hp (r i v d a b)⟩
 |dt ks ds=>obtain ⟨vs,z,hk,l,r⟩:=z;exact ⟨vs,by rw [af ha];exact z,hk,l,fun i v d a b=>kI hp (r i v d a b)⟩
 |cI=>obtain ⟨c,n,z,r⟩:=z;exact ⟨c,n,by rw [af ha];exact z,r⟩
theorem Ex.oN (m:Mz β M H) {p:ac} {u:HO} {o':Mo} (hp:(M p).isSome=true\/H p=none) (hu:mM u=true) (r:il β (az M p o') (upd H p u) p o'):Ex β M H (az M p o') (upd H p u) :=by
 have ne:∀a x,M a=none->H a=Pi x->a≠p:=fun a x m e z=>by
  subst z
  rcases hp with q|q
  ·rw [m] at q;cases q
  ·rw [q] at e;cases e
 refine ⟨⟨fun b u hm q=>.inl ?_,fun a h=>?_,fun a o hm h=>?_⟩,fun a o e=>?_,fun q hq=>?_,fun a ha=>(m.hids a ha).upd (.inr hu),fun a o e z=>?_,fun q hq=>?_⟩
 ·rw [af (ne b _ hm q)];exact q
 ·unfold az
  split
  ·rfl
  ·exact h
 ·rw [ak (ne a _ hm h)];exact hm
 ·by_cases ha:a=p
  ·subst ha
   rw [updM_same] at e
   cases e
   exact r
  ·rw [ak ha] at e
   exact (m.obj a o e).upd hp ha
 ·obtain ⟨ps,e,t⟩:=m.tabs q hq
  exact ⟨ps,by rw [af (ne q _ (m.Nq hq) e)];exact e,t⟩
 ·by_cases ha:a=p
  ·subst ha
   rcases hp with h|h
   ·cases q:M a with
    |none=>rw [q] at h;cases h
    |some u=>exact m.apart a u q z
   ·obtain ⟨u,hu,_⟩:=m.hids a z
    rw [h] at hu
    cases hu
  ·rw [ak ha] at e
   exact m.apart a o e z
 ·exact (m.lams q hq).keep (fun _ e=>by rw [af (ne q.1 _ (m.Kf hq) e)];exact e) fun c _ _ e=>by rw [af (ne c _ (m.kG e rfl) e)];exact e
theorem Ex.own (m:Mz β M H) {p:ac} {vs:List V} {ds:List Dv} (hp:(M p).isSome=true\/H p=none) (r:aG β M H vs ds):Ex β M H (az M p (.lst ds)) (upd H p (.lst vs)):=
 Ex.oN m hp rfl ⟨vs,ay,r.len,fun i v d a b=>kI hp (r.at' i v d a b)⟩
theorem Ex.QR (m:Mz β M H) {p:ac} {ks:List Key} {vs:List V} {ds:List Dv} (hp:(M p).isSome=true\/H p=none) (hk:ks.length=vs.length) (r:aG β M H vs ds):Ex β M H (az M p (.dk ks ds)) (upd H p (.dK (ks.zip vs))):=
 Ex.oN m hp rfl ⟨vs,ay,hk,r.len,fun i v d a b=>kI hp (r.at' i v d a b)⟩
theorem Ex.QU (m:Mz β M H) {p:ac} {ks:List (List Key)} {vs:List V} {ds:List Dv} (hp:(M p).isSome=true\/H p=none) (hk:ks.length=vs.length) (r:aG β M H vs ds):Ex β M H (az M p (.dt ks ds)) (upd H p (.dT (ks.zip vs))):=
 Ex.oN m hp rfl ⟨vs,ay,hk,r.len,fun i v d a b=>kI hp (r.at' i v d a b)⟩
abbrev Bz.add (β:Bz) (D:ac):Bz:={β with hid:=D::β.hid}
theorem Rz.enter {D:ac} {o:HO} (hD:H D=none) {v:V} {d:Dv} (h:Rz β M H v d):Rz (β.add D) M (upd H D o) v d :=by
 have ne:∀a x,Fz β M a->H a=some x->Fz (β.add D) M a:=fun a x m e=>⟨m.1,by
  intro z
  rcases l3.mp z with z|z
  ·subst z;rw [hD] at e;cases e
  ·exact m.2 z⟩
 have pre:∀a x,H a=some x->upd H D o a=some x:=fun a x e=>by rw [af (a8 e hD)];exact e
 induction h with
 |int i=>exact .int i
 |bl b=>exact .bl b
 |av=>exact .av
 |str z=>exact .str z
 |tup m e hl h ih=>exact .tup (ne _ _ m e) (pre _ _ e) hl ih
 |lst m e hl h ih=>exact .lst (ne _ _ m e) (pre _ _ e) hl ih
 |dk m e hk hl h ih=>exact .dk (ne _ _ m e.there.choose_spec) (e.map fun _ h=>pre _ _ h) hk hl ih
 |dt m e hk hl h ih=>exact .dt (ne _ _ m e.there.choose_spec) (e.map fun _ h=>pre _ _ h) hk hl ih
 |bP m e m2 e2 hl h ih=>exact .bP (ne _ _ m e) (pre _ _ e) (ne _ _ m2 e2) (pre _ _ e2) hl ih
 |set m e=>exact .set (ne _ _ m e) (pre _ _ e)
 |ptr m=>exact .ptr m
 |exc m e=>exact .exc (ne _ _ m e) (pre _ _ e)
 |bC m e=>exact .bC (ne _ _ m e) (pre _ _ e)
 |cu m e=>exact .cu (ne _ _ m e) (pre _ _ e)
 |cw e=>exact .cw e
 |raw v=>exact .raw v
theorem Rz.sub {cJ:Bz} (hP:cJ.P=β.P) (hw:cJ.w=β.w) (hK:cJ.K=β.K) (hs:∀a,a∈cJ.hid->a∈β.hid) {v:V} {d:Dv} (h:Rz β M H v d):Rz cJ M H v d :=by
 have ne:∀a,Fz β M a->Fz cJ M a:=fun a m=>⟨m.1,fun z=>m.2 (hs a z)⟩
 induction h with
 |int i=>exact .int i
 |bl b=>exact .bl b
 |av=>exact .av
 |str z=>exact .str z
 |tup m e hl h ih=>exact .tup (ne _ m) e hl ih
 |lst m e hl h ih=>exact .lst (ne _ m) e hl ih
 |dk m e hk hl h ih=>exact .dk (ne _ m) e hk hl ih
 |dt m e hk hl h ih=>exact .dt (ne _ m) e hk hl ih
 |bP m e m2 e2 hl h ih=>exact .bP (ne _ m) e (ne _ m2) e2 hl ih
 |set m e=>exact .set (ne _ m) (by rw [hP,hw];exact e)
 |ptr m=>exact .ptr m
 |exc m e=>exact .exc (ne _ m) e
 |bC m e=>exact .bC (ne _ m) e
 |cu m e=>exact .cu (ne _ m) e
 |cw e=>exact .cw (by rw [hK];exact e)
 |raw v=>exact .raw v
theorem Mz.sub {cJ:Bz} (hP:cJ.P=β.P) (hw:cJ.w=β.w) (hK:cJ.K=β.K) (ht:cJ.tb=β.tb) (hs:∀a,a∈cJ.hid->a∈β.hid) (m:Mz β M H):Mz cJ M H:=⟨fun a o e=>by
 have z:=m.obj a o e
 cases o with
 |lst ds=>obtain ⟨vs,z,l,r⟩:=z;exact ⟨vs,z,l,fun i v d a b=>(r i v d a b).sub hP hw hK hs⟩
 |dk ks ds=>obtain ⟨vs,z,hk,l,r⟩:=z;exact ⟨vs,z,hk,l,fun i v d a b=>(r i v d a b).sub hP hw hK hs⟩
 |dt ks ds=>obtain ⟨vs,z,hk,l,r⟩:=z;exact ⟨vs,z,hk,l,fun i v d a b=>(r i v d a b).sub hP hw hK hs⟩
 |cI=>exact z,by rw [ht];exact m.tabs,fun a ha=>m.hids a (hs a ha),fun a o e z=>m.apart a o e (hs a z),by rw [ht];exact m.lams⟩
theorem Mz.enter {D:ac} {o:HO} (hD:H D=none) (ho:mM o=true) (m:Mz β M H):Mz (β.add D) M (upd H D o):=⟨fun a u e=>by
 have pre:∀a x,H a=Pi x->upd H D o a=Pi x:=fun a x e=>by rw [af (a8 e hD)];exact e
 have z:=m.obj a u e
 cases u with
 |lst ds=>obtain ⟨vs,z,l,r⟩:=z;exact ⟨vs,pre _ _ z,l,fun i v d a b=>(r i v d a b).enter hD⟩
 |dk ks ds=>obtain ⟨vs,z,hk,l,r⟩:=z;exact ⟨vs,pre _ _ z,hk,l,fun i v d a b=>(r i v d a b).enter hD⟩
 |dt ks ds=>obtain ⟨vs,z,hk,l,r⟩:=z;exact ⟨vs,pre _ _ z,hk,l,fun i v d a b=>(r i v d a b).enter hD⟩
 |cI=>obtain ⟨c,n,z,r⟩:=z;exact ⟨c,n,pre _ _ z,r⟩,fun p hp=>by
 obtain ⟨ps,e,t⟩:=m.tabs p hp
 exact ⟨ps,by rw [af (a8 e hD)];exact e,t⟩,fun a ha=>by
 rcases l3.mp ha with z|z
 ·subst z;exact ⟨_,ay,ho⟩
 ·exact (m.hids a z).upd (.inl hD),fun a o e ha=>by
 rcases l3.mp ha with z|z
 ·subst z;rw [m.free hD] at e;cases e
 ·exact m.apart a o e z,fun q hq=>(m.lams q hq).keep (fun _ e=>by rw [af (a8 e hD)];exact e) fun _ _ _ e=>by rw [af (a8 e hD)];exact e⟩
theorem Rz.over {D:ac} {o:HO} (hD:D∈β.hid) {v:V} {d:Dv} (h:Rz β M H v d):Rz β M (upd H D o) v d :=by
 have pre:∀a x,Fz β M a->H a=some x->upd H D o a=some x:=fun a x m e=>by
  have n:a≠D:=fun z=>by subst z;exact m.2 hD
  rw [af n];exact e
 induction h with
 |int i=>exact .int i
 |bl b=>exact .bl b
 |av=>exact .av
 |str z=>exact .str z
 |tup m e hl h ih=>exact .tup m (pre _ _ m e) hl ih
 |lst m e hl h ih=>exact .lst m (pre _ _ m e) hl ih
 |dk m e hk hl h ih=>exact .dk m (e.map fun _ h=>pre _ _ m h) hk hl ih
 |dt m e hk hl h ih=>exact .dt m (e.map fun _ h=>pre _ _ m h) hk hl ih
 |bP m e m2 e2 hl h ih=>exact .bP m (pre _ _ m e) m2 (pre _ _ m2 e2) hl ih
 |set m e=>exact .set m (pre _ _ m e)
 |ptr m=>exact .ptr m
 |exc m e=>exact .exc m (pre _ _ m e)
 |bC m e=>exact .bC m (pre _ _ m e)
 |cu m e=>exact .cu m (pre _ _ m e)
 |cw e=>exact .cw e
 |raw v=>exact .raw v
theorem Mz.over {D:ac} {o:HO} (hD:D∈β.hid) (ho:mM o=true) (hM:M D=none) (ht:D ∉ β.tb) (m:Mz β M H):Mz β M (upd H D o):=⟨fun a u e=>by
 have na:a≠D:=fun z=>by subst z;rw [hM] at e;cases e
 have z:=m.obj a u e
 cases u with
 |lst ds=>obtain ⟨vs,z,l,r⟩:=z;exact ⟨vs,by rw [af na];exact z,l,fun i v d a b=>(r i v d a b).over hD⟩
 |dk ks ds=>obtain ⟨vs,z,hk,l,r⟩:=z;exact ⟨vs,by rw [af na];exact z,hk,l,fun i v d a b=>(r i v d a b).over hD⟩
 |dt ks ds=>obtain ⟨vs,z,hk,l,r⟩:=z;exact ⟨vs,by rw [af na];exact z,hk,l,fun i v d a b=>(r i v d a b).over hD⟩
 |cI=>obtain ⟨c,n,z,r⟩:=z;exact ⟨c,n,by rw [af na];exact z,r⟩,fun p hp=>by
 obtain ⟨ps,e,t⟩:=m.tabs p hp
 have n:p≠D:=fun z=>by subst z;exact ht hp
 exact ⟨ps,by rw [af n];exact e,t⟩,fun a ha=>(m.hids a ha).upd (.inr ho),m.apart,fun q hq=>by
 obtain ⟨o',e',n⟩:=m.hids D hD
 exact (m.lams q hq).keep (fun _ e=>by rw [af (fun z=>by subst z;rw [e'] at e;cases e;cases n)];exact e) fun c _ _ e=>by rw [af (fun z=>by subst z;rw [e'] at e;cases e;cases n)];exact e⟩
theorem Ey.over {D:ac} {o:HO} (x:Ey M H M1 H1) (hD:H D=none):Ey M H M1 (upd H1 D o):=⟨fun b u m h=>by
 have nb:b≠D:=a8 h hD
 rw [af nb]
 exact x.keep b u m h,x.dom,x.new⟩
theorem Mz.DW {D:ac} (m:Mz β M H) (hD:H D=none):D ∉ β.tb:=fun z=>by
 obtain ⟨_,e,_⟩:=m.tabs D z
 rw [hD] at e
 cases e
structure Bx (β cJ:Bz) (H:Hp):Prop where
 P:cJ.P=β.P
 w:cJ.w=β.w
 K:cJ.K=β.K
 tb:cJ.tb=β.tb
 old:∀a,a∈β.hid->a∈cJ.hid
 new:∀a,a∈cJ.hid->a∈β.hid\/H a=none
theorem Bx.refl:Bx β β H:=⟨rfl,rfl,rfl,rfl,fun _ h=>h,fun _ h=>.inl h⟩
theorem Bx.add {D:ac} (hD:H D=none):Bx β (β.add D) H:=⟨rfl,rfl,rfl,rfl,fun _ h=>gl _ h,fun a h=>by
 rcases l3.mp h with z|z
 ·exact .inr (z▸hD)
 ·exact .inl z⟩
theorem Rz.bx {cJ:Bz} (b:Bx β cJ H) {v:V} {d:Dv} (h:Rz β M H v d):Rz cJ M H v d :=by
 have ne:∀a x,Fz β M a->H a=some x->Fz cJ M a:=fun a x m e=>⟨m.1,fun z=>by
  rcases b.new a z with q|q
  ·exact m.2 q
  ·rw [q] at e;cases e⟩
 induction h with
 |int i=>exact .int i
 |bl b=>exact .bl b
 |av=>exact .av
 |str z=>exact .str z
 |tup m e hl h ih=>exact .tup (ne _ _ m e) e hl ih
 |lst m e hl h ih=>exact .lst (ne _ _ m e) e hl ih
 |dk m e hk hl h ih=>exact .dk (ne _ _ m e.there.choose_spec) e hk hl ih
 |dt m e hk hl h ih=>exact .dt (ne _ _ m e.there.choose_spec) e hk hl ih
 |bP m e m2 e2 hl h ih=>exact .bP (ne _ _ m e) e (ne _ _ m2 e2) e2 hl ih
 |set m e=>exact .set (ne _ _ m e) (by rw [b.P,b.w];exact e)
 |ptr m=>exact .ptr m
 |exc m e=>exact .exc (ne _ _ m e) e
 |bC m e=>exact .bC (ne _ _ m e) e
 |cu m e=>exact .cu (ne _ _ m e) e
 |cw e=>exact .cw (by rw [b.K];exact e)
 |raw v=>exact .raw v
end
inductive Pin (M:Mh):Dv->Prop where
 |int (i:Int):Pin M (.int i)
 |bl (b:Bool):Pin M (.bl b)
 |av:Pin M .av
 |str (z:bi):Pin M (.str z)
 |tup {ds:List Dv} (h:∀d∈ds,Pin M d):Pin M (.tup ds)
 |lst {ds:List Dv} (h:∀d∈ds,Pin M d):Pin M (.lst ds)
 |set (ns:List Int):Pin M (.set ns)
 |ptr {a:ac} (h:(M a).isSome=true):Pin M (.ptr a)
 |exc (C:ac):Pin M (.exc C)
 |bC (ns:List Int):Pin M (.bC ns)
 |raw (v:V):Pin M (.raw v)
 |dk {ks:List Key} {ds:List Dv} (h:∀d∈ds,Pin M d):Pin M (.dk ks ds)
 |dt {ks:List (List Key)} {ds:List Dv} (h:∀d∈ds,Pin M d):Pin M (.dt ks ds)
 |bP {f c:ac} {o oc:im} {vs:List V} {ds:List Dv} (h:∀d∈ds,Pin M d):Pin M (.bP f o c oc vs ds)
theorem Rz.pin {β:Bz} {M:Mh} {H:Hp} {v:V} {d:Dv} (h:Rz β M H v d):Pin M d :=by
 induction h with
 |int i=>exact .int i
 |bl b=>exact .bl b
 |av=>exact .av
 |str z=>exact .str z
 |tup m e hl h ih=>
  refine .tup fun d hd=>?_
  obtain ⟨i,hi⟩:=mo.mp hd
  have h1:=(bv.mp hi).1
  exact ih i _ d (ag (by omega)) hi
 |lst m e hl h ih=>
  refine .lst fun d hd=>?_
  obtain ⟨i,hi⟩:=mo.mp hd
  have h1:=(bv.mp hi).1
  exact ih i _ d (ag (by omega)) hi
 |dk m e hk hl h ih=>
  refine .dk fun d hd=>?_
  obtain ⟨i,hi⟩:=mo.mp hd
  have h1:=(bv.mp hi).1
  exact ih i _ d (ag (by omega)) hi
 |dt m e hk hl h ih=>
  refine .dt fun d hd=>?_
  obtain ⟨i,hi⟩:=mo.mp hd
  have h1:=(bv.mp hi).1
  exact ih i _ d (ag (by omega)) hi
 |bP m e m2 e2 hl h ih=>
  refine .bP fun d hd=>?_
  obtain ⟨i,hi⟩:=mo.mp hd
  have h1:=(bv.mp hi).1
  exact ih i _ d (ag (by omega)) hi
 |set m e=>exact .set _
 |ptr m=>exact .ptr m
 |exc m e=>exact .exc _
 |bC m e=>exact .bC _
 |cu m e=>exact .bC _
 |cw e=>exact .bC _
 |raw v=>exact .raw v
def Mo.items:Mo->List Dv
 | .lst ds=>ds
 | .dk _ ds=>ds
 | .dt _ ds=>ds
 | .cI=>[]
def Wf (M:Mh):Prop:=∀b o,M b=some o->∀d∈o.items,Pin M d
theorem il.Sl {β:Bz} {M:Mh} {H:Hp} {a:ac} {o:Mo} (h:il β M H a o):∃vs,aG β M H vs o.items :=by
 cases o with
 |lst ds=>obtain ⟨vs,_,rs⟩:=h;exact ⟨vs,rs⟩
 |dk ks ds=>obtain ⟨vs,_,_,rs⟩:=h;exact ⟨vs,rs⟩
 |dt ks ds=>obtain ⟨vs,_,_,rs⟩:=h;exact ⟨vs,rs⟩
 |cI=>exact ⟨[],.nil⟩
theorem Mz.wf {β:Bz} {M:Mh} {H:Hp} (m:Mz β M H):Wf M:=fun b o e d hd=>by
 obtain ⟨vs,rs⟩:=(m.obj b _ e).Sl
 obtain ⟨i,hi⟩:=mo.mp hd
 obtain ⟨v,_,r⟩:=rs.get hi
 exact r.pin
abbrev aA:=List (Option Dv)
abbrev ZK:=Dv->Mh->Prop
abbrev aI:=aA->Mh->ZK->Prop
abbrev cU:=aA->Mh->(Bool->Mh->Prop)->Prop
abbrev dW:=aA->Mh->(List Dv->Mh->Prop)->Prop
structure fF where
 nx:aA->Mh->Prop
 rt:ZK
 bk:aA->Mh->Prop:=fun _ _=>False
 ct:aA->Mh->Prop:=fun _ _=>False
abbrev cp:=fF->aA->Mh->Prop
abbrev cO:=Dv->aA->Mh->(aA->Mh->Prop)->Prop
abbrev mO:=List Dv->aA->Mh->(aA->Mh->Prop)->Prop
abbrev fm:=aA->Mh->(List Dv->Mh->Prop)->Prop
structure Gz extends Bz where
 M0:Mh
 H0:Hp
structure Zr (Γ:Gz) (β:Bz) (M:Mh) (ρ:aA) (σ:St) (H:Hp):Prop where
 eP:β.P=Γ.P
 ew:β.w=Γ.w
 eK:β.K=Γ.K
 et:β.tb=Γ.tb
 sub:∀a,a∈Γ.hid->a∈β.hid
 wf:Wf Γ.M0
 ent:Ey Γ.M0 Γ.H0 M H
 mz:Mz β M H
 len:ρ.length=σ.length
 at':∀(i:Nat) (d:Dv),ρ[i]?=some (some d)->∃v,σ[i]?=some (some v)/\Rz β M H v d
section
variable {Γ:Gz} {β:Bz} {M M':Mh} {ρ:aA} {σ:St} {H H':Hp}
theorem Zr.step (z:Zr Γ β M ρ σ H) (x:Ex β M H M' H'):Zr Γ β M' ρ σ H':=⟨z.eP,z.ew,z.eK,z.et,z.sub,z.wf,z.ent.trans x.toEy,x.mz,z.len,fun i d e=>let ⟨v,h,r⟩:=z.at' i d e;⟨v,h,r.ex x⟩⟩
theorem Zr.set (z:Zr Γ β M ρ σ H) (i:Nat) {v:V} {d:Dv} (r:Rz β M H v d):Zr Γ β M (ρ.set i (some d)) (σ.set i (some v)) H:=⟨z.eP,z.ew,z.eK,z.et,z.sub,z.wf,z.ent,z.mz,by simp [z.len],fun j e h=>by
 rw [VX] at h ⊢
 rw [z.len] at h
 split at h
 ·rename_i q
  rw [if_pos q]
  split at h
  ·rename_i q2
   rw [if_pos q2]
   cases h
   exact ⟨v,rfl,r⟩
  ·cases h
 ·rename_i q
  rw [if_neg q]
  exact z.at' j e h⟩
end
def lE (Γ:Gz) (p:aI):TE:=fun σ H Q=>∃(β:Bz) (ρ:aA) (M:Mh) (Q':ZK),Zr Γ β M ρ σ H/\p ρ M Q'/\∀d M' v H',Ex β M H M' H'->Rz β M' H' v d->Q' d M'->Q v H'
def lT (Γ:Gz) (p:cU):TT:=fun σ H Q=>∃(β:Bz) (ρ:aA) (M:Mh) (Q':Bool->Mh->Prop),Zr Γ β M ρ σ H/\p ρ M Q'/\∀b M' H',Ex β M H M' H'->Q' b M'->Q b H'
def lA (Γ:Gz) (p:dW):TA:=fun σ H Q=>∃(β:Bz) (ρ:aA) (M:Mh) (Q':List Dv->Mh->Prop),Zr Γ β M ρ σ H/\p ρ M Q'/\∀ds M' vs H',Ex β M H M' H'->aG β M' H' vs ds->Q' ds M'->Q vs H'
structure Ev (β:Bz) (M:Mh) (H:Hp) (M':Mh) (H':Hp):Prop where
 keep:∀b o,M b=none->H b=some o->H' b=some o\/∃o',Tg o o'/\H' b=some o'
 new:∀a o,M a=none->H a=some o->M' a=none
 mz:Mz β M' H'
theorem Ex.ev {β:Bz} {M M':Mh} {H H':Hp} (x:Ex β M H M' H'):Ev β M H M' H':=⟨x.keep,x.new,x.mz⟩
theorem Ev.refl {β:Bz} {M:Mh} {H:Hp} (m:Mz β M H):Ev β M H M H:=(Ex.refl m).ev
theorem Ev.trans {β:Bz} {M M1 M2:Mh} {H H1 H2:Hp} (x:Ev β M H M1 H1) (y:Ev β M1 H1 M2 H2):Ev β M H M2 H2 :=by
 refine ⟨fun b o hm h=>?_,fun a o hm h=>?_,y.mz⟩
 ·have kr:=x.new b o hm h
  rcases x.keep b o hm h with q|⟨o1,t,q⟩
  ·exact y.keep b o kr q
  ·rcases y.keep b _ kr q with q2|⟨o2,t2,q2⟩
   ·exact .inr ⟨o1,t,q2⟩
   ·exact .inr ⟨o2,t.trans t2,q2⟩
 ·have kr:=x.new a o hm h
  rcases x.keep a o hm h with q|⟨o1,t,q⟩
  ·exact y.new a _ kr q
  ·exact y.new a _ kr q
structure yW (Γ:Gz) (β:Bz) (M:Mh) (H:Hp) (D':fF) (D:Ends):Prop where
 nx:∀bQ M' aH H',Ev β M H M' H'->Zr Γ β M' bQ aH H'->D'.nx bQ M'->D.nx aH H'
 rt:∀d M' v H',Ev β M H M' H'->Ey Γ.M0 Γ.H0 M' H'->Rz β M' H' v d->D'.rt d M'->D.rt v H'
 bk:∀bQ M' aH H',Ev β M H M' H'->Zr Γ β M' bQ aH H'->D'.bk bQ M'->D.bk aH H'
 ct:∀bQ M' aH H',Ev β M H M' H'->Zr Γ β M' bQ aH H'->D'.ct bQ M'->D.ct aH H'
theorem yW.step {Γ:Gz} {β:Bz} {M M1:Mh} {H H1:Hp} {D':fF} {D:Ends} (r:yW Γ β M H D' D) (x:Ev β M H M1 H1):yW Γ β M1 H1 D' D:=
 ⟨fun a b c d y=>r.nx a b c d (x.trans y),fun a b c d y=>r.rt a b c d (x.trans y),fun a b c d y=>r.bk a b c d (x.trans y),fun a b c d y=>r.ct a b c d (x.trans y)⟩
def lS (Γ:Gz) (p:cp):TS:=fun D σ H=>∃(β:Bz) (ρ:aA) (M:Mh) (D':fF),Zr Γ β M ρ σ H/\p D' ρ M/\yW Γ β M H D' D
def lG (Γ:Gz) (p:cO):TG:=fun x σ H N=>∃(β:Bz) (d:Dv) (ρ:aA) (M:Mh) (N':aA->Mh->Prop),Zr Γ β M ρ σ H/\Rz β M H x d/\p d ρ M N'/\∀bQ M' aH H',Ex β M H M' H'->Zr Γ β M' bQ aH H'->N' bQ M'->N aH H'
def Sn (Γ:Gz) (p:mO):pj:=fun xs σ H N=>∃(β:Bz) (ds:List Dv) (ρ:aA) (M:Mh) (N':aA->Mh->Prop),Zr Γ β M ρ σ H/\aG β M H xs ds/\p ds ρ M N'/\∀bQ M' aH H',Ex β M H M' H'->Zr Γ β M' bQ aH H'->N' bQ M'->N aH H'
def A9 (β:Bz) (J:It) (ds:List Dv) (M:Mh) (H:Hp):Prop:=∀cJ M' H',Bx β cJ H->Ey M H M' H'->Mz cJ M' H'->∀i,(i<ds.length->J.go i H'/\∀x mP,J.yld i H' x mP->Ex cJ M' H' M' mP/\∃d,ds[i]?=some d/\Rz cJ M' mP x d)/\(ds.length<=i->J.stop i H')
def lI (Γ:Gz) (p:fm):TI:=fun σ H R=>∃(β:Bz) (ρ:aA) (M:Mh) (R':List Dv->Mh->Prop),Zr Γ β M ρ σ H/\p ρ M R'/\∀ds M' H' J,Ex β M H M' H'->A9 β J ds M' H'->R' ds M'->R J H'
abbrev QE (Γ:Gz) (X:Cx) (e:cr) (p:aI):Prop:=PE X e (lE Γ p)
abbrev QT (Γ:Gz) (X:Cx) (e:cr) (p:cU):Prop:=PT X e (lT Γ p)
abbrev QW (Γ:Gz) (X:Cx) (e:cr) (p:cU):Prop:=PW X e (lT Γ p)
abbrev QA (Γ:Gz) (X:Cx) (es:List cr) (p:dW):Prop:=PA X es (lA Γ p)
abbrev QS (Γ:Gz) (X:Cx) (s:mv) (p:cp):Prop:=PS X s (lS Γ p)
abbrev md (Γ:Gz) (X:Cx) (s:List mv) (p:cp):Prop:=fW X s (lS Γ p)
abbrev QG (Γ:Gz) (X:Cx) (e:cr) (p:cO):Prop:=PG X e (lG Γ p)
abbrev Fv (Γ:Gz) (X:Cx) (e:List cr) (p:mO):Prop:=rK X e (Sn Γ p)
abbrev QI (Γ:Gz) (X:Cx) (tg e:cr) (p:fm):Prop:=PI X tg e (lI Γ p)
section
variable {X:Cx}
theorem PE.imp {e:cr} {t t':TE} (h:PE X e t) (i:∀σ H Q,t' σ H Q->t σ H Q):PE X e t':=⟨fun pins s σ H Q I q=>h pins s σ H Q I (i _ _ _ q)⟩
theorem PT.imp {e:cr} {t t':TT} (h:PT X e t) (i:∀σ H Q,t' σ H Q->t σ H Q):PT X e t':=⟨fun pins s σ H Q I q=>h pins s σ H Q I (i _ _ _ q)⟩
theorem PW.imp {e:cr} {t t':TT} (h:PW X e t) (i:∀σ H Q,t' σ H Q->t σ H Q):PW X e t':=fun wh pins s σ H Q I q=>h wh pins s σ H Q I (i _ _ _ q)
theorem PA.imp {e:List cr} {t t':TA} (h:PA X e t) (i:∀σ H Q,t' σ H Q->t σ H Q):PA X e t':=⟨fun pos pins s σ H Q I q=>h pos pins s σ H Q I (i _ _ _ q)⟩
theorem PS.imp {e:mv} {t t':TS} (h:PS X e t) (i:∀D σ H,t' D σ H->t D σ H):PS X e t':=⟨fun pins s σ H D I q=>h pins s σ H D I (i _ _ _ q)⟩
theorem fW.imp {e:List mv} {t t':TS} (h:fW X e t) (i:∀D σ H,t' D σ H->t D σ H):fW X e t':=⟨fun pins s σ H D I q=>h pins s σ H D I (i _ _ _ q)⟩
theorem PG.imp {e:cr} {t t':TG} (h:PG X e t) (i:∀v σ H Q,t' v σ H Q->t v σ H Q):PG X e t':=fun pins s σ H v u Q I r q=>h pins s σ H v u Q I r (i _ _ _ _ q)
theorem rK.imp {e:List cr} {t t':pj} (h:rK X e t) (i:∀v σ H Q,t' v σ H Q->t v σ H Q):rK X e t':=fun pins s σ H v u Q I r q=>h pins s σ H v u Q I r (i _ _ _ _ q)
theorem PI.imp {tg e:cr} {t t':TI} (h:PI X tg e t) (i:∀σ H Q,t' σ H Q->t σ H Q):PI X tg e t':=fun pins s σ H Q I q=>h pins s σ H Q I (i _ _ _ q)
theorem ib.imp {e:List cr} {t t':TT} (h:ib X e t) (i:∀σ H Q,t' σ H Q->t σ H Q):ib X e t':=fun pins s σ H Q I q=>h pins s σ H Q I (i _ _ _ q)
variable {Γ:Gz} {a b c:cr} {pa pb pc:aI} {pos:ul}
def zVar (i:Nat):aI:=fun ρ M Q=>match ρ[i]? with|some (some d)=>Q d M|_=>False
def zC (d:Dv):aI:=fun _ M Q=>Q d M
theorem Kg {i:Nat} {x:bi} (hN:X.N[i]?=some x) (hv:o9 X.env.scope x) (hd:(x==("__debug__" : bi))=false :=by decide) (dG:(x==("__classdict__" : bi))=false :=by decide):QE Γ X (.Name x pos) (zVar i):=
 (t5 hN hv hd dG).imp fun σ H Q ⟨β,ρ,M,Q',z,h,q⟩=>by
  unfold zVar at h
  split at h
  ·rename_i d e
   obtain ⟨v,e2,r⟩:=z.at' i d e
   exact ⟨v,e2,q d M v H (.refl z.mz) r h⟩
  ·exact h.elim
theorem qc {e:cr} {v:V} {d:Dv} (h:PE X e (tC v)) (r:∀β M H,Rz β M H v d):QE Γ X e (zC d):=h.imp fun σ H Q ⟨β,ρ,M,Q',z,h,q⟩=>q d M v H (.refl z.mz) (r β M H) h
theorem ax {i j pos}:QE Γ X (.Constant (.int i) j pos) (zC (.int i)):=qc Ia fun _ _ _=>.int _
theorem gY {b j pos}:QE Γ X (.Constant (.bool b) j pos) (zC (.bl b)):=qc MG fun _ _ _=>.bl _
theorem jq {x j pos}:QE Γ X (.Constant (.str x) j pos) (zC (.str x)):=qc Ib fun _ _ _=>.str _
theorem u6 {x:bi} {i:Int} {u:al} (hg:Gl X x) (hm:X.mg x=some u) (r:RelV (.int i) u) (hd:(x==("__debug__" : bi))=false :=by decide):QE Γ X (.Name x pos) (zC (.int i)):=qc (xi hg hm r hd) fun _ _ _=>.int _
theorem oO {x z:bi} {u:al} (hg:Gl X x) (hm:X.mg x=some u) (r:RelV (.str z) u) (hd:(x==("__debug__" : bi))=false :=by decide):QE Γ X (.Name x pos) (zC (.str z)):=qc (xi hg hm r hd) fun _ _ _=>.str _
theorem kJ {x:bi} {v:V} {u:al} (hg:Gl X x) (hm:X.mg x=none) (hv:bootBuiltins x=some u) (r:RelV v u) (hn:x ≠ "__name__" := by decide) (hd:(x==("__debug__" : bi))=false :=by decide):QE Γ X (.Name x pos) (zC (.raw v)):=qc (Ga hg hm hv r hn hd) fun _ _ _=>.raw _
abbrev eC:=Dv->Dv->Mh->ZK->Prop
def p0 (Γ:Gz) (r:R2) (z:eC):Prop:=∀(β:Bz) x y d e M H Q Q',β.P=Γ.P->β.w=Γ.w->β.K=Γ.K->Mz β M H->Rz β M H x d->Rz β M H y e->z d e M Q'->(∀d' M' v H',Ex β M H M' H'->Rz β M' H' v d'->Q' d' M'->Q v H')->r x y H Q
def eO (Γ:Gz) (X:Cx) (f:al->al->VC al) (z:eC):Prop:=∃r,OpR X f r/\p0 Γ r z
def zOp (z:eC) (pa pb:aI):aI:=fun ρ M Q=>pa ρ M fun d M1=>pb ρ M1 fun e M2=>z d e M2 Q
theorem yX {r:R2} {z:eC} (hz:p0 Γ r z) {σ:St} {H:Hp} {Q:VK} (h:lE Γ (zOp z pa pb) σ H Q):z8 r (lE Γ pa) (lE Γ pb) σ H Q :=by
 obtain ⟨β,ρ,M,Q',zr,h,q⟩:=h
 exact ⟨β,ρ,M,_,zr,h,fun d M1 v H1 x1 r1 h1=>⟨β,ρ,M1,_,zr.step x1,h1,fun e M2 u H2 x2 r2 h2=>hz β v u d e M2 H2 Q Q' zr.eP zr.ew zr.eK x2.mz (r1.ex x2) r2 h2 fun d' M' v' H' x3 r3 q3=>q _ _ _ _ (x1.trans (x2.trans x3)) r3 q3⟩⟩
theorem aP {op:Operator} {z:eC} (ho:eO Γ X (binaryOp op) z) (ha:QE Γ X a pa) (hb:QE Γ X b pb):QE Γ X (.BinOp a op b pos) (zOp z pa pb) :=by
 obtain ⟨r,h1,h2⟩:=ho
 exact (MO h1 ha hb).imp fun σ H Q h=>yX h2 h
theorem xF {op:SB} {z:eC} (ho:eO Γ X (compareOp op) z) (ha:QE Γ X a pa) (hb:QE Γ X b pb) (hm:behindInMarks op b=false):QE Γ X (.Compare a [op] [b] pos) (zOp z pa pb) :=by
 obtain ⟨r,h1,h2⟩:=ho
 exact (Gk h1 ha hb hm).imp fun σ H Q h=>yX h2 h
def zBool (Q:Bool->Mh->Prop):ZK:=fun d M=>match d with | .bl k=>Q k M|_=>False
theorem jr {Q:Bool->Mh->Prop} {d:Dv} {M:Mh} (h:zBool Q d M):∃k,d=.bl k/\Q k M :=by
 unfold zBool at h
 split at h
 ·exact ⟨_,rfl,h⟩
 ·exact h.elim
def zTest (p:aI):cU:=fun ρ M Q=>p ρ M (zBool Q)
theorem u9 {p:aI} {t:TE} (i:∀σ H Q,lE Γ p σ H Q->t σ H Q) {σ:St} {H:Hp} {Q:Bool->Hp->Prop} (h:lT Γ (zTest p) σ H Q):ym t σ H Q :=by
 obtain ⟨β,ρ,M,Q',zr,h,q⟩:=h
 refine i _ _ _ ⟨β,ρ,M,_,zr,h,fun d M1 v H1 x1 r1 h1=>?_⟩
 obtain ⟨k,rfl,h2⟩:=jr h1
 exact ⟨k,dA r1,q k M1 H1 x1 h2⟩
theorem bR {op:SB} {z:eC} (ho:eO Γ X (compareOp op) z) (ha:QE Γ X a pa) (hb:QE Γ X b pb) (hm:behindInMarks op b=false):QT Γ X (.Compare a [op] [b] pos) (zTest (zOp z pa pb)) :=by
 obtain ⟨r,h1,h2⟩:=ho
 exact (Gm h1 ha hb hm).imp fun σ H Q h=>u9 (fun _ _ _=>yX h2) h
theorem fD {e:cr} {p:aI} (h:QE Γ X e p) (he:∀whole,isTrue e X.env whole=(do let v <- whole;standAt e.pos;holding [v] (truthy v)) :=by intro _;rfl):QT Γ X e (zTest p):=
 (Ic h he).imp fun σ H Q h=>u9 (fun _ _ _ h=>h) h
def zChain (z z':eC) (pa pb pc:aI):aI:=fun ρ M Q=>pa ρ M fun x M1=>pb ρ M1 fun y M2=>z x y M2 (zBool fun k M3=>if k=true then pc ρ M3 fun u M4=>z' y u M4 Q else Q (.bl false) M3)
theorem xG {r r':R2} {z z':eC} (hz:p0 Γ r z) (Kh:p0 Γ r' z') {σ:St} {H:Hp} {Q:VK} (h:lE Γ (zChain z z' pa pb pc) σ H Q):ue r r' (lE Γ pa) (lE Γ pb) (lE Γ pc) σ H Q :=by
 obtain ⟨β,ρ,M,Q',zr,h,q⟩:=h
 refine ⟨β,ρ,M,_,zr,h,fun d M1 v H1 x1 r1 h1=>⟨β,ρ,M1,_,zr.step x1,h1,fun e M2 u H2 x2 r2 h2=>hz β v u d e M2 H2 _ _ zr.eP zr.ew zr.eK x2.mz (r1.ex x2) r2 h2 fun d' M3 v' H3 x3 r3 h3=>?_⟩⟩
 obtain ⟨k,rfl,h4⟩:=jr h3
 have xH:=x1.trans (x2.trans x3)
 refine ⟨k,dA r3,?_⟩
 cases k with
 |true=>
  rw [if_pos rfl] at h4 ⊢
  exact ⟨β,ρ,M3,_,zr.step xH,h4,fun f M4 g H4 x4 r4 h5=>Kh β u g e f M4 H4 _ _ zr.eP zr.ew zr.eK x4.mz ((r2.ex x3).ex x4) r4 h5 fun d5 M5 v5 H5 x5 r5 q5=>q _ _ _ _ (xH.trans (x4.trans x5)) r5 q5⟩
 |false=>
  rw [if_neg io] at h4 ⊢
  exact q _ _ _ _ xH (.bl _) h4
theorem DX {op je:SB} {z z':eC} (ho:eO Γ X (compareOp op) z) (gM:eO Γ X (compareOp je) z') (ha:QE Γ X a pa) (hb:QE Γ X b pb) (hc:QE Γ X c pc) (hm:lastMarks [op,je] [b,c]=false :=by with_unfolding_all rfl) :
  QE Γ X (.Compare a [op,je] [b,c] pos) (zChain z z' pa pb pc) :=by
 obtain ⟨r,h1,h2⟩:=ho
 obtain ⟨r',Ki,Kj⟩:=gM
 exact (C7 h1 Ki ha hb hc hm).imp fun σ H Q h=>xG h2 Kj h
theorem DY {op je:SB} {z z':eC} (ho:eO Γ X (compareOp op) z) (gM:eO Γ X (compareOp je) z') (ha:QE Γ X a pa) (hb:QE Γ X b pb) (hc:QE Γ X c pc) (hm:lastMarks [op,je] [b,c]=false :=by with_unfolding_all rfl) :
  QT Γ X (.Compare a [op,je] [b,c] pos) (zTest (zChain z z' pa pb pc)) :=by
 obtain ⟨r,h1,h2⟩:=ho
 obtain ⟨r',Ki,Kj⟩:=gM
 exact (C8 h1 Ki ha hb hc hm).imp fun σ H Q h=>u9 (fun _ _ _=>xG h2 Kj) h
variable {tA ph:cU} {rest:List cr}
def zAnd (t u:cU):cU:=fun ρ M Q=>t ρ M fun c M1=>if c=true then u ρ M1 Q else Q false M1
def zOr (t u:cU):cU:=fun ρ M Q=>t ρ M fun c M1=>if c=true then Q true M1 else u ρ M1 Q
def zNot (t:cU):cU:=fun ρ M Q=>t ρ M fun c M1=>Q (!c) M1
theorem xI (ha:QT Γ X a tA):QW Γ X (.BoolOp .And [a] pos) tA:=Gb ha
theorem va (ha:QT Γ X a tA):QW Γ X (.BoolOp .Or [a] pos) tA:=Ie ha
theorem Ba (ha:QT Γ X a tA) (hb:QW Γ X (.BoolOp .And (b::rest) pos) ph):QW Γ X (.BoolOp .And (a::b::rest) pos) (zAnd tA ph):=
 (Ig ha hb).imp fun σ H Q ⟨β,ρ,M,Q',zr,h,q⟩=>⟨β,ρ,M,_,zr,h,fun k M1 H1 x1 h1=>by
  cases k with
  |true=>rw [if_pos rfl] at h1 ⊢;exact ⟨β,ρ,M1,_,zr.step x1,h1,fun k2 M2 H2 x2 h2=>q _ _ _ (x1.trans x2) h2⟩
  |false=>rw [if_neg io] at h1 ⊢;exact q _ _ _ x1 h1⟩
theorem yY (ha:QT Γ X a tA) (hb:QW Γ X (.BoolOp .Or (b::rest) pos) ph):QW Γ X (.BoolOp .Or (a::b::rest) pos) (zOr tA ph):=
 (MH ha hb).imp fun σ H Q ⟨β,ρ,M,Q',zr,h,q⟩=>⟨β,ρ,M,_,zr,h,fun k M1 H1 x1 h1=>by
  cases k with
  |false=>rw [if_neg io] at h1 ⊢;exact ⟨β,ρ,M1,_,zr.step x1,h1,fun k2 M2 H2 x2 h2=>q _ _ _ (x1.trans x2) h2⟩
  |true=>rw [if_pos rfl] at h1 ⊢;exact q _ _ _ x1 h1⟩
theorem gu (ha:QT Γ X a tA):QT Γ X (.UnaryOp .Not a pos) (zNot tA):=(Ih ha).imp fun σ H Q ⟨β,ρ,M,Q',zr,h,q⟩=>⟨β,ρ,M,_,zr,h,fun k M1 H1 x1 h1=>q _ _ _ x1 h1⟩
theorem QW.pt {e:cr} {t:cU} (h:QW Γ X e t):QT Γ X e t:=PW.pt h
def zAndV (pa pb:aI):aI:=fun ρ M Q=>pa ρ M (zBool fun c M1=>if c=true then pb ρ M1 Q else Q (.bl false) M1)
def zNotV (pa:aI):aI:=fun ρ M Q=>pa ρ M (zBool fun c M1=>Q (.bl (!c)) M1)
theorem Bb {op} (h:QE Γ X a pa):QE Γ X (.BoolOp op [a] pos) pa:=Ii h
theorem Bc (ha:QE Γ X a pa) (hb:QE Γ X (.BoolOp .And (b::rest) pos) pb):QE Γ X (.BoolOp .And (a::b::rest) pos) (zAndV pa pb):=
 (Ij ha hb).imp fun σ H Q ⟨β,ρ,M,Q',zr,h,q⟩=>⟨β,ρ,M,_,zr,h,fun d M1 v H1 x1 r1 h1=>by
  obtain ⟨k,rfl,h2⟩:=jr h1
  refine ⟨k,dA r1,?_⟩
  cases k with
  |true=>rw [if_pos rfl] at h2 ⊢;exact ⟨β,ρ,M1,_,zr.step x1,h2,fun d2 M2 v2 H2 x2 r2 h2=>q _ _ _ _ (x1.trans x2) r2 h2⟩
  |false=>rw [if_neg io] at h2 ⊢;exact q _ _ _ _ x1 (.bl _) h2⟩
theorem Kk (ha:QE Γ X a pa):QE Γ X (.UnaryOp .Not a pos) (zNotV pa):=(Ik ha).imp fun σ H Q ⟨β,ρ,M,Q',zr,h,q⟩=>⟨β,ρ,M,_,zr,h,fun d M1 v H1 x1 r1 h1=>by
  obtain ⟨k,rfl,h2⟩:=jr h1
  exact ⟨k,dA r1,q _ _ _ _ x1 (.bl _) h2⟩⟩
def zNil:dW:=fun _ M Q=>Q [] M
def zCons (p:aI) (r:dW):dW:=fun ρ M Q=>p ρ M fun d M1=>r ρ M1 fun ds M2=>Q (d::ds) M2
variable {es:List cr} {za:dW}
theorem ae:QA Γ X [] zNil:=IV.imp fun σ H Q ⟨β,ρ,M,Q',zr,h,q⟩=>q [] M [] H (.refl zr.mz) .nil h
theorem aa {e:cr} (ha:QE Γ X e pa) (hr:QA Γ X es za) (hs:starEach (e::es) X.env=(false,eval e X.env)::starEach es X.env :=by rfl):QA Γ X (e::es) (zCons pa za):=
 (nF ha hr hs).imp fun σ H Q ⟨β,ρ,M,Q',zr,h,q⟩=>⟨β,ρ,M,_,zr,h,fun d M1 v H1 x1 r1 h1=>⟨β,ρ,M1,_,zr.step x1,h1,fun ds M2 vs H2 x2 r2 h2=>q _ _ _ _ (x1.trans x2) (.cons (r1.ex x2) r2) h2⟩⟩
def zTup (p:dW):aI:=fun ρ M Q=>p ρ M fun ds M1=>ds.length<=sizeLine/\Q (.tup ds) M1
def zLst (p:dW):aI:=fun ρ M Q=>p ρ M fun ds M1=>ds.length<=sizeLine/\Q (.lst ds) M1
def zLstP (p:dW):aI:=fun ρ M Q=>p ρ M fun ds M1=>ds.length<=sizeLine/\∀a,M1 a=none->Q (.ptr a) (az M1 a (.lst ds))
theorem Bd {x1} (h:QA Γ X es za):QE Γ X (.Tuple es x1 pos) (zTup za):=(IW h).imp fun σ H Q ⟨β,ρ,M,Q',zr,h,q⟩=>⟨β,ρ,M,_,zr,h,fun ds M1 vs H1 x1 r1 h1=>⟨by rw [r1.len];exact h1.1,fun p hp=>by
  have x2:=Ex.lay x1.mz hp (.tup vs)
  exact q _ _ _ _ (x1.trans x2) (kD (x1.mz.fz hp) ay (r1.ex x2)) h1.2⟩⟩
theorem Be (h:QA Γ X es za):QE Γ X (.List es pos) (zLst za):=(Af h).imp fun σ H Q ⟨β,ρ,M,Q',zr,h,q⟩=>⟨β,ρ,M,_,zr,h,fun ds M1 vs H1 x1 r1 h1=>⟨by rw [r1.len];exact h1.1,fun p hp=>by
  have x2:=Ex.lay x1.mz hp (.lst vs)
  exact q _ _ _ _ (x1.trans x2) (u5 (x1.mz.fz hp) ay (r1.ex x2)) h1.2⟩⟩
theorem iW (h:QA Γ X es za):QE Γ X (.List es pos) (zLstP za):=(Af h).imp fun σ H Q ⟨β,ρ,M,Q',zr,h,q⟩=>⟨β,ρ,M,_,zr,h,fun ds M1 vs H1 x1 r1 h1=>⟨by rw [r1.len];exact h1.1,fun p hp=>by
  have x2:=Ex.own x1.mz (.inr hp) r1
  exact q _ _ _ _ (x1.trans x2) (.ptr (by rw [updM_same];rfl)) (h1.2 p (x1.mz.free hp))⟩⟩
abbrev so:=List Dv->Mh->ZK->Prop
def Fw (Γ:Gz) (r:List V->Hp->VK->Prop) (z:so):Prop:=∀(β:Bz) xs ds M H Q Q',β.P=Γ.P->β.w=Γ.w->β.K=Γ.K->Mz β M H->aG β M H xs ds->z ds M Q'->(∀d' M' v H',Ex β M H M' H'->Rz β M' H' v d'->Q' d' M'->Q v H')->r xs H Q
def eZ (Γ:Gz) (X:Cx) (f:al) (z:so):Prop:=∃r,dj X f r/\Fw Γ r z
def zCB (z:so) (p:dW):aI:=fun ρ M Q=>p ρ M fun ds M1=>z ds M1 Q
theorem Km {r:List V->Hp->VK->Prop} {z:so} (hz:Fw Γ r z) {σ:St} {H:Hp} {Q:VK} (h:lE Γ (zCB z za) σ H Q):IY r (lA Γ za) σ H Q :=by
 obtain ⟨β,ρ,M,Q',zr,h,q⟩:=h
 exact ⟨β,ρ,M,_,zr,h,fun ds M1 vs H1 x1 r1 h1=>hz β vs ds M1 H1 _ _ zr.eP zr.ew zr.eK x1.mz r1 h1 fun d' M' v' H' x2 r2 q2=>q _ _ _ _ (x1.trans x2) r2 q2⟩
variable {st:mv} {O4:List mv} {p p2:cp} {e:cr} {pe:aI}
def zNext:cp:=fun D ρ M=>D.nx ρ M
def zSeq (p q:cp):cp:=fun D ρ M=>p {D with nx:=q D} ρ M
theorem qss_nil:md Γ X [] zNext:=Gd.imp fun D σ H ⟨β,ρ,M,D',zr,h,r⟩=>r.nx ρ M σ H (.refl zr.mz) zr h
theorem ai (h1:QS Γ X st p) (h2:md Γ X O4 p2):md Γ X (st::O4) (zSeq p p2):=(CZ h1 h2).imp fun D σ H ⟨β,ρ,M,D',zr,h,r⟩=>
 ⟨β,ρ,M,_,zr,h,fun bQ M' aH H' x gv h'=>⟨β,bQ,M',D',gv,h',r.step x⟩,r.rt,r.bk,r.ct⟩
theorem aq (h1:QS Γ X st p):md Γ X [st] p:=Ge h1
def zDrop (p:aI):cp:=fun D ρ M=>p ρ M fun _ M1=>D.nx ρ M1
theorem dI (he:QE Γ X e pe) (hs:swapsWith e none pos.line X.env=pure false :=by rfl):QS Γ X (.Expr e pos) (zDrop pe):=(Gf he hs).imp fun D σ H ⟨β,ρ,M,D',zr,h,r⟩=>
 ⟨β,ρ,M,_,zr,h,fun d M1 v H1 x1 r1 h1=>r.nx ρ M1 σ H1 x1.ev (zr.step x1) h1⟩
def zRet (p:aI):cp:=fun D ρ M=>p ρ M D.rt
theorem aY (he:QE Γ X e pe):QS Γ X (.Return (some e) pos) (zRet pe):=(Il he).imp fun D σ H ⟨β,ρ,M,D',zr,h,r⟩=>⟨β,ρ,M,_,zr,h,fun d M' v H' x r1 h1=>r.rt _ _ _ _ x.ev (zr.ent.trans x.toEy) r1 h1⟩
def zIfS (c:cU) (p q:cp):cp:=fun D ρ M=>c ρ M fun b M1=>if b=true then p D ρ M1 else q D ρ M1
theorem cP {as bs:List mv} {pa pb:cp} (hc:QT Γ X c tA) (ha:md Γ X as pa) (hb:md Γ X bs pb):QS Γ X (.If c as bs pos) (zIfS tA pa pb):=(MM hc ha hb).imp fun D σ H ⟨β,ρ,M,D',zr,h,r⟩=>
 ⟨β,ρ,M,_,zr,h,fun k M1 H1 x1 h1=>by
  cases k with
  |true=>rw [if_pos rfl] at h1 ⊢;exact ⟨β,ρ,M1,D',zr.step x1,h1,r.step x1.ev⟩
  |false=>rw [if_neg io] at h1 ⊢;exact ⟨β,ρ,M1,D',zr.step x1,h1,r.step x1.ev⟩⟩
def zgName (i:Nat):cO:=fun d ρ M N=>N (ρ.set i (some d)) M
theorem aO {i:Nat} {x:bi} (hN:X.N.Nodup) (hi:X.N[i]?=some x) (hx:Loc X.env.scope x) (hf:X.fn x=true\/X.env.scope.names.lookup x=some .local :=by first|exact .inl rfl|exact .inr rfl|assumption):QG Γ X (.Name x pos) (zgName i):=
 (Gg hN hi hx hf).imp fun v σ H N ⟨β,d,ρ,M,N',zr,r,h,q⟩=>q _ _ _ _ (.refl zr.mz) (zr.set i r) h
def zgNil:mO:=fun ds ρ M N=>match ds with | []=>N ρ M|_=>False
def zgCons (g:cO) (u:mO):mO:=fun ds ρ M N=>match ds with|d::r=>g d ρ M fun bQ M'=>u r bQ M' N | []=>False
theorem xJ:Fv Γ X [] zgNil:=Gh.imp fun vs σ H N ⟨β,ds,ρ,M,N',zr,r,h,q⟩=>by
 unfold zgNil at h
 split at h
 ·have e:vs=[]:=List.length_eq_zero_iff.mp r.len
  exact ⟨e,q _ _ _ _ (.refl zr.mz) zr h⟩
 ·exact h.elim
theorem la {g:cO} {u:mO} (h1:QG Γ X e g) (h2:Fv Γ X es u) (hs:(assignEach (e::es) X.env).map (·.2)=assign e X.env::(assignEach es X.env).map (·.2) :=by rfl):Fv Γ X (e::es) (zgCons g u):=
 (C2 h1 h2 hs).imp fun vs σ H N ⟨β,ds,ρ,M,N',zr,r,h,q⟩=>by
  unfold zgCons at h
  split at h
  ·rename_i d rest
   cases vs with
   |nil=>exact absurd r.len (by simp)
   |cons v vs=>exact ⟨v,vs,rfl,β,d,ρ,M,_,zr,r.head,h,fun bQ M' aH H' x gv h'=>⟨β,rest,bQ,M',N',gv,r.tail.ex x,h',fun a b c d y=>q a b c d (x.trans y)⟩⟩
  ·exact h.elim
def zgTup (n:Nat) (u:mO):cO:=fun d ρ M N=>match d with | .tup ds=>ds.length=n/\u ds ρ M N|_=>False
theorem Bf {k:Nat} {u:mO} {n:Nat} (hc:X.calm=true) (h:Fv Γ X es u) (hn:(assignEach es X.env).length=n :=by rfl) (lV:(assignEach es X.env).findIdx? (·.1)=none :=by rfl):QG Γ X (.Tuple es k pos) (zgTup n u):=
 (Io hc h hn lV).imp fun v σ H N ⟨β,d,ρ,M,N',zr,r,h,q⟩=>by
  unfold zgTup at h
  split at h
  ·obtain ⟨a,vs,rfl,m,e,rs⟩:=cZ r
   exact ⟨a,vs,rfl,cM.of e,by rw [rs.len];exact h.1,β,_,ρ,M,N',zr,rs,h.2,q⟩
  ·exact h.elim
def zAsg (p:aI) (g:cO):cp:=fun D ρ M=>p ρ M fun d M1=>g d ρ M1 D.nx
theorem Nr {g:cO} {D:Ends} {σ:St} {H:Hp} (h:lS Γ (zAsg pe g) D σ H):t7 (lE Γ pe) (lG Γ g) D σ H :=by
 obtain ⟨β,ρ,M,D',zr,h,r⟩:=h
 exact ⟨β,ρ,M,_,zr,h,fun d M1 v H1 x1 r1 h1=>⟨β,d,ρ,M1,D'.nx,zr.step x1,r1,h1,fun bQ M' aH H' x gv h'=>r.nx _ _ _ _ (x1.trans x).ev gv h'⟩⟩
theorem kM {tg:cr} {g:cO} (he:QE Γ X e pe) (hg:QG Γ X tg g) (hs:swapsWithSole [tg] e pos.line X.env=pure false :=by rfl) (hw:swappedStores [tg] e X.env=pure none :=by rfl)
  (h1:(assignEach [tg] X.env).map (·.2)=[assign tg X.env] :=by rfl):QS Γ X (.Assign [tg] e pos) (zAsg pe g):=(Iq he hg hs hw h1).imp fun D σ H h=>Nr h
theorem yZ {t:TE} (i:∀σ H Q,lE Γ pe σ H Q->t σ H Q) {n:Nat} {D:Ends} {σ:St} {H:Hp} (h:lS Γ (zAsg pe (zgName n)) D σ H):t7 t (tL n) D σ H :=by
 obtain ⟨β,ρ,M,D',zr,h,r⟩:=h
 exact i _ _ _ ⟨β,ρ,M,_,zr,h,fun d M1 v H1 x1 r1 h1=>r.nx _ _ _ _ x1.ev ((zr.step x1).set n r1) h1⟩
theorem aJ {i:Nat} {x:bi} {pos':ul} (hN:X.N.Nodup) (hi:X.N[i]?=some x) (hx:Loc X.env.scope x) (he:QE Γ X e pe) (hs:swapsWith e (some (.Name x pos')) pos.line X.env=pure false :=by rfl) (hf:X.fn x=true\/X.env.scope.names.lookup x=some .local :=by first|exact .inl rfl|exact .inr rfl|assumption) :
  QS Γ X (.Assign [.Name x pos'] e pos) (zAsg pe (zgName i)):=(Ir hN hi hx he hs hf).imp fun D σ H h=>yZ (fun _ _ _ h=>h) h
end
section
variable {X:Cx} {Γ:Gz} {β:Bz}
def ziTup (p:aI):fm:=fun ρ M R=>p ρ M fun d M1=>match d with | .tup ds=>R ds M1|_=>False
def ziLst (p:aI):fm:=fun ρ M R=>p ρ M fun d M1=>match d with | .lst ds=>R ds M1|_=>False
def gy (z:bi):List Dv:=z.cps.toList.map fun c=>.str ⟨#[c]⟩
def ziStr (p:aI):fm:=fun ρ M R=>p ρ M fun d M1=>match d with | .str z=>R (gy z) M1|_=>False
def bT (lo:Int) (n:Nat):List Dv:=(l9 n).map fun i=>.int (lo+(i:Nat))
def ziRng1 (p:dW):fm:=fun ρ M R=>p ρ M fun ds M1=>match ds with | [.int j] => -(2 ^ 62)<=j/\j<2 ^ 62/\R (bT 0 j.toNat) M1|_=>False
def ziRng2 (p:dW):fm:=fun ρ M R=>p ρ M fun ds M1=>match ds with | [.int i,.int j]=>(-(2 ^ 62)<=i/\i<2 ^ 62 /\ -(2 ^ 62)<=j/\j<2 ^ 62)/\R (bT i (j - i).toNat) M1|_=>False
theorem fN {J:It} {vs:List V} {ds:List Dv} {M:Mh} {H:Hp} (r:aG β M H vs ds) (h:∀M' H',Ey M H M' H'->Runs J vs H'):A9 β J ds M H:=fun cJ M' H' bx x m i=>by
 have q:=h M' H' x i
 rw [<- r.len]
 refine ⟨fun hi=>⟨(q.1 hi).1,fun v mP y=>?_⟩,q.2⟩
 obtain ⟨e,hv⟩:=(q.1 hi).2 v mP y
 subst e
 obtain ⟨d,hd,rd⟩:=r.get' hv
 exact ⟨.refl m,d,hd,(rd.bx bx).ey x⟩
variable {tg l:cr} {p:aI} {pa:dW} {K:ba}
theorem p7 (hK:X.K=K) (hl:QE Γ X l p):QI Γ X tg l (ziTup p):=(GC hK hl).imp fun σ H R ⟨β,ρ,M,R',zr,h,q⟩=>⟨β,ρ,M,_,zr,h,fun d M1 v H1 x1 r1 h1=>by
 revert h1
 split
 ·intro h1
  obtain ⟨a,vs,rfl,m,e,rs⟩:=cZ r1
  exact ⟨a,rfl,⟨_,cM.of e⟩,q _ _ _ _ x1 (fN rs fun M' H' x=>Ds (cM.of (x.get m.1 e rfl))) h1⟩
 ·exact fun h=>h.elim⟩
theorem qP (hK:X.K=K) (hl:QE Γ X l p):QI Γ X tg l (ziLst p):=(Dw hK hl).imp fun σ H R ⟨β,ρ,M,R',zr,h,q⟩=>⟨β,ρ,M,_,zr,h,fun d M1 v H1 x1 r1 h1=>by
 revert h1
 split
 ·intro h1
  obtain ⟨a,vs,rfl,m,e,rs⟩:=f9 r1
  exact ⟨a,rfl,⟨_,bN.of e⟩,q _ _ _ _ x1 (fN rs fun M' H' x=>Av (bN.of (x.get m.1 e rfl))) h1⟩
 ·exact fun h=>h.elim⟩
theorem Bg {z:bi} {M:Mh} {H:Hp}:aG β M H (jj z) (gy z):=⟨by simp [jj,gy],fun i v d a b=>by
 unfold jj at a
 unfold gy at b
 rw [ca] at a b
 cases e:z.cps.toList[i]? with
 |none=>rw [e] at a;cases a
 |some c=>rw [e] at a b;cases a;cases b;exact .str _⟩
theorem Bh (hl:QE Γ X l p):QI Γ X tg l (ziStr p):=(Jx hl).imp fun σ H R ⟨β,ρ,M,R',zr,h,q⟩=>⟨β,ρ,M,_,zr,h,fun d M1 v H1 x1 r1 h1=>by
 revert h1
 split
 ·intro h1
  exact ⟨_,bE r1,q _ _ _ _ x1 (fN Bg fun M' H' x=>Du) h1⟩
 ·exact fun h=>h.elim⟩
theorem sr {lo:Int} {n:Nat} {M:Mh} {H:Hp}:aG β M H ((l9 n).map fun i=>V.int (lo+(i:Nat))) (bT lo n):=⟨by simp [bT],fun i v d a b=>by
 unfold bT at b
 rw [ca] at a b
 cases e:(l9 n)[i]? with
 |none=>rw [e] at a;cases a
 |some c=>rw [e] at a b;cases a;cases b;exact .int _⟩
theorem c6 {xs:List V} {d:Dv} {M:Mh} {H:Hp} (r:aG β M H xs [d]):∃v,xs=[v]/\Rz β M H v d :=by
 match xs,r with
 | [v],r=>exact ⟨v,rfl,r.head⟩
 | [],r=>exact absurd r.len (by simp)
 |_::_::_,r=>exact absurd r.len (by simp)
theorem kN {xs:List V} {d e:Dv} {M:Mh} {H:Hp} (r:aG β M H xs [d,e]):∃v u,xs=[v,u]/\Rz β M H v d/\Rz β M H u e :=by
 match xs,r with
 | [v,u],r=>exact ⟨v,u,rfl,r.head,r.tail.head⟩
 | [],r=>exact absurd r.len (by simp)
 | [_],r=>exact absurd r.len (by simp)
 |_::_::_::_,r=>exact absurd r.len (by simp)
section
variable {e e1 e2:cr} {pr pos:ul}
theorem Kn {σ:St} {H:Hp} {R:It->Hp->Prop} (h:lI Γ (ziRng1 pa) σ H R):E5 (lA Γ pa) σ H R :=by
 obtain ⟨β,ρ,M,R',zr,h,q⟩:=h
 refine ⟨β,ρ,M,_,zr,h,fun ds M1 vs H1 x1 r1 h1=>?_⟩
 revert h1
 split
 ·rintro ⟨b1,b2,h1⟩
  obtain ⟨v,rfl,r⟩:=c6 r1
  rw [aN r]
  exact ⟨_,rfl,b1,b2,q _ _ _ _ x1 (fN sr fun M' H' x=>pL) h1⟩
 ·exact fun h=>h.elim
theorem Ko {σ:St} {H:Hp} {R:It->Hp->Prop} (h:lI Γ (ziRng2 pa) σ H R):E6 (lA Γ pa) σ H R :=by
 obtain ⟨β,ρ,M,R',zr,h,q⟩:=h
 refine ⟨β,ρ,M,_,zr,h,fun ds M1 vs H1 x1 r1 h1=>?_⟩
 revert h1
 split
 ·rintro ⟨b1,h1⟩
  obtain ⟨v,u,rfl,r,r'⟩:=kN r1
  rw [aN r,aN r']
  exact ⟨_,_,rfl,b1,q _ _ _ _ x1 (fN sr fun M' H' x=>pL) h1⟩
 ·exact fun h=>h.elim
end
def zLoop (g:cO) (tb:cp) (D:fF):List Dv->aA->Mh->Prop
 | [],ρ,M=>D.nx ρ M
 |d::ds,ρ,M=>g d ρ M fun kO M2=>tb {D with nx:=zLoop g tb D ds,ct:=zLoop g tb D ds,bk:=D.nx} kO M2
def zFor (zi:fm) (g:cO) (tb:cp):cp:=fun D ρ M=>zi ρ M fun ds M1=>zLoop g tb D ds ρ M1
def zForM (zi:fm) (g:cO) (tb:Mh->cp):cp:=fun D ρ M=>zi ρ M fun ds M1=>zLoop g (tb M1) D ds ρ M1
theorem Zr.root {M:Mh} {ρ:aA} {σ:St} {H:Hp} (z:Zr Γ β M ρ σ H):Zr ⟨β,M,H⟩ β M ρ σ H:=⟨rfl,rfl,rfl,rfl,fun _ h=>h,z.mz.wf,.refl,z.mz,z.len,z.at'⟩
theorem Zr.Bi {M M1:Mh} {ρ O5:aA} {σ pq:St} {H H1:Hp} (z:Zr Γ β M ρ σ H) (y:Zr ⟨β,M,H⟩ β M1 O5 pq H1):Zr Γ β M1 O5 pq H1:=⟨z.eP,z.ew,z.eK,z.et,z.sub,z.wf,z.ent.trans y.ent,y.mz,y.len,y.at'⟩
theorem Nt {zi:fm} {g:cO} {tb:Mh->cp} {t:TS} (hb:∀bF:Gz,bF.P=Γ.P->bF.w=Γ.w->bF.K=Γ.K->bF.tb=Γ.tb->∀D σ H,lS bF (tb bF.M0) D σ H->t D σ H) {tg:TG} (hg:∀bF:Gz,bF.P=Γ.P->bF.w=Γ.w->bF.K=Γ.K->bF.tb=Γ.tb->∀x σ H N,lG bF g x σ H N->tg x σ H N) {D:Ends} {σ:St} {H:Hp} (h:lS Γ (zForM zi g tb) D σ H):IB (lI Γ zi) tg t D σ H :=by
 obtain ⟨β,ρ,M,D',zr,h,r⟩:=h
 refine ⟨β,ρ,M,_,zr,h,fun ds M1 H1 J x1 it h1=>?_⟩
 have jW:=zr.step x1
 refine ⟨fun i m aH H'=>m=ds.length - i/\i<=ds.length/\∃bQ M',Zr ⟨β,M1,H1⟩ β M' bQ aH H'/\zLoop g (tb M1) D' (ds.drop i) bQ M',⟨ds.length,rfl,qr _,ρ,M1,jW.root,h1⟩,?_⟩
 rintro i m aH H' ⟨rfl,hi,bQ,M',gv,h'⟩
 have ev:∀{M2:Mh} {kO:aA} {pA:St} {H2:Hp},Zr ⟨β,M1,H1⟩ β M2 kO pA H2->Ev β M H M2 H2:=fun z=>x1.ev.trans ⟨z.ent.keep,z.ent.new,z.mz⟩
 by_cases bb:i<ds.length
 ·have q:=(it β M' H' .refl gv.ent gv.mz i).1 bb
  refine .inr ⟨q.1,fun pA H2=>∃kO M2,Zr ⟨β,M1,H1⟩ β M2 kO pA H2/\zLoop g (tb M1) D' (ds.drop (i+1)) kO M2,fun pA H2 ⟨kO,M2,Fx,h2⟩=>⟨ds.length - (i+1),by omega,rfl,bb,kO,M2,Fx,h2⟩,fun v mP y=>?_⟩
  obtain ⟨x2,d,hd,rd⟩:=q.2 v mP y
  have e:ds.drop i=d::ds.drop (i+1) :=by
   rw [Gc bb]
   rw [ag bb] at hd
   cases hd
   rfl
  rw [e] at h'
  refine hg ⟨β,M1,H1⟩ zr.eP zr.ew zr.eK zr.et _ _ _ _ ⟨β,d,bQ,M',_,gv.step x2,rd,h',fun Sr M3 lW H3 x3 Kp h3=>hb ⟨β,M1,H1⟩ zr.eP zr.ew zr.eK zr.et _ _ _ ⟨β,Sr,M3,_,Kp,h3,?_⟩⟩
  exact ⟨fun qa M4 Bj H4 x4 mh h4=>⟨qa,M4,mh,h4⟩,fun d4 M4 v4 H4 x4 e4 r4 h4=>r.rt _ _ _ _ (x1.ev.trans ⟨e4.keep,e4.new,x4.mz⟩) (jW.ent.trans e4) r4 h4,fun qa M4 Bj H4 x4 mh h4=>r.nx _ _ _ _ (ev mh) (jW.Bi mh) h4,fun qa M4 Bj H4 x4 mh h4=>⟨qa,M4,mh,h4⟩⟩
 ·have e:i=ds.length :=by omega
  subst e
  rw [U5] at h'
  exact .inl ⟨(it β M' H' .refl gv.ent gv.mz _).2 (cb _),r.nx _ _ _ _ (ev gv) (jW.Bi gv) h'⟩
def Ss (Γ:Gz) (p:Mh->cp):TS:=fun D σ H=>∃bF:Gz,bF.P=Γ.P/\bF.w=Γ.w/\bF.K=Γ.K/\bF.tb=Γ.tb/\lS bF (p bF.M0) D σ H
def Su (Γ:Gz) (p:cO):TG:=fun x σ H N=>∃bF:Gz,bF.P=Γ.P/\bF.w=Γ.w/\bF.K=Γ.K/\bF.tb=Γ.tb/\lG bF p x σ H N
theorem G1 {body:List mv} {iter:cr} {zi:fm} {g:cO} {tb:Mh->cp} {pos:ul} (hp:Wc (model X.prog X.w) X.A X.env X.xe) (hc:X.calm=true) (hi:QI Γ X tg iter zi)
  (Fy:∀(bF:Gz) (M1:Mh),bF.M0=M1->bF.P=Γ.P->bF.w=Γ.w->bF.K=Γ.K->bF.tb=Γ.tb->QG bF X tg g/\md bF X body (tb M1))
  (hs:∀x,foldedSetIterable iter X.env x=pure x :=by intro _;rfl):QS Γ X (.For tg iter body [] pos) (zForM zi g tb):=
 (IC (g:=Su Γ g) (tb:=Ss Γ tb) hp hc hi (fun pins s σ H v u Q I r h=>by obtain ⟨bF,e1,e2,e3,e4,h⟩:=h;exact (Fy bF _ rfl e1 e2 e3 e4).1 pins s σ H v u Q I r h) ⟨fun pins s σ H D I h=>by obtain ⟨bF,e1,e2,e3,e4,h⟩:=h;exact (Fy bF _ rfl e1 e2 e3 e4).2 pins s σ H D I h⟩ hs).imp
  fun D σ H h=>Nt (fun bF e1 e2 e3 e4 D σ H h=>⟨bF,e1,e2,e3,e4,h⟩) (fun bF e1 e2 e3 e4 x σ H N h=>⟨bF,e1,e2,e3,e4,h⟩) h
theorem cA {body:List mv} {iter:cr} {zi:fm} {g:cO} {tb:cp} {pos:ul} (hp:Wc (model X.prog X.w) X.A X.env X.xe) (hc:X.calm=true) (hi:QI Γ X tg iter zi)
  (Fy:∀bF:Gz,bF.P=Γ.P->bF.w=Γ.w->bF.K=Γ.K->bF.tb=Γ.tb->QG bF X tg g/\md bF X body tb)
  (hs:∀x,foldedSetIterable iter X.env x=pure x :=by intro _;rfl):QS Γ X (.For tg iter body [] pos) (zFor zi g tb):=G1 (tb:=fun _=>tb) hp hc hi (fun bF M1 _ e1 e2 e3 e4=>Fy bF e1 e2 e3 e4) hs
theorem bw {a:cr} {p pos:ul} (hg:Gl X "range") (hm:X.mg "range" = none) (ha:QA Γ X [a] pa) (hs:starEach [a] X.env=[(false,eval a X.env)] :=by rfl):QI Γ X tg (.Call (.Name "range" p) [a] [] pos) (ziRng1 pa):=(zZ hg hm ha hs).imp fun σ H R h=>Kn h
theorem Bk {a b:cr} {p pos:ul} (hg:Gl X "range") (hm:X.mg "range" = none) (ha:QA Γ X [a,b] pa) (hs:starEach [a,b] X.env=[(false,eval a X.env),(false,eval b X.env)] :=by rfl) (xj:starEach [b] X.env=[(false,eval b X.env)] :=by rfl) :
  QI Γ X tg (.Call (.Name "range" p) [a,b] [] pos) (ziRng2 pa):=(z5 hg hm ha hs xj).imp fun σ H R h=>Ko h
def Bm (c:cU) (tb:cp):cp:=fun D ρ M=>∃W:Nat->aA->Mh->Prop,(∃m,W m ρ M)/\∀m ρ M,W m ρ M->
 c ρ M fun b M1=>if b=true then tb {D with nx:=fun bQ M'=>∃m',m'<m/\W m' bQ M',ct:=fun bQ M'=>∃m',m'<m/\W m' bQ M',bk:=D.nx} ρ M1 else D.nx ρ M1
theorem G2 {c:cU} {tb:cp} {D:Ends} {σ:St} {H:Hp} (h:lS Γ (Bm c tb) D σ H):zV (lT Γ c) (lS Γ tb) D σ H :=by
 obtain ⟨β,ρ,M,D',zr,⟨W,⟨m0,w0⟩,turn⟩,r⟩:=h
 refine ⟨fun m aH H'=>∃bQ M',Ev β M H M' H'/\Zr Γ β M' bQ aH H'/\W m bQ M',⟨m0,ρ,M,.refl zr.mz,zr,w0⟩,?_⟩
 rintro m aH H' ⟨bQ,M',x',gv,w'⟩
 refine ⟨β,bQ,M',_,gv,turn m bQ M' w',fun k M1 H1 x1 h1=>?_⟩
 have Bn:=x'.trans x1.ev
 cases k with
 |true=>
  dsimp only at h1 ⊢
  rw [if_pos rfl] at h1 ⊢
  refine ⟨fun pA H2=>∃m',m'<m/\∃kO M2,Ev β M H M2 H2/\Zr Γ β M2 kO pA H2/\W m' kO M2,fun pA H2 h2=>h2,β,bQ,M1,_,gv.step x1,h1,?_⟩
  exact ⟨fun qa M4 Bj H4 x4 mh ⟨m',hm,w4⟩=>⟨m',hm,qa,M4,Bn.trans x4,mh,w4⟩,fun d4 M4 v4 H4 x4 e4 r4 h4=>r.rt _ _ _ _ (Bn.trans x4) e4 r4 h4,fun qa M4 Bj H4 x4 mh h4=>r.nx _ _ _ _ (Bn.trans x4) mh h4,fun qa M4 Bj H4 x4 mh ⟨m',hm,w4⟩=>⟨m',hm,qa,M4,Bn.trans x4,mh,w4⟩⟩
 |false=>
  dsimp only at h1 ⊢
  rw [if_neg io] at h1 ⊢
  exact r.nx _ _ _ _ Bn (gv.step x1) h1
theorem oP {body:List mv} {c:cr} {zc:cU} {tb:cp} {pos:ul} (hp:Wc (model X.prog X.w) X.A X.env X.xe) (hc:QT Γ X c zc) (hb:md Γ X body tb):QS Γ X (.While c body [] pos) (Bm zc tb):=(C3 hp hc hb).imp fun D σ H h=>G2 h
theorem bz {g:cO} {tb:cp} {D:fF} (J:Nat->aA->Mh->Prop) {ds:List Dv} {ρ:aA} {M:Mh} (h0:J 0 ρ M)
  (hs:∀i d ρ M (N:aA->Mh->Prop),ds[i]?=some d->J i ρ M->(∀bQ M',J (i+1) bQ M'->N bQ M')->g d ρ M fun kO M2=>tb {D with nx:=N,ct:=N,bk:=D.nx} kO M2)
  (hd:∀ρ M,J ds.length ρ M->D.nx ρ M):zLoop g tb D ds ρ M :=by
 have key:∀(n i:Nat) ρ M,n=ds.length - i->i<=ds.length->J i ρ M->zLoop g tb D (ds.drop i) ρ M :=by
  intro n
  induction n with
  |zero=>
   intro i ρ M e hi h
   have:i=ds.length :=by omega
   subst this
   rw [U5]
   exact hd _ _ h
  |succ n ih=>
   intro i ρ M e hi h
   have bb:i<ds.length :=by omega
   rw [Gc bb]
   exact hs i _ ρ M _ (ag bb) h fun ρ M h=>ih (i+1) ρ M (by omega) bb h
 exact key _ 0 ρ M rfl (qr _) h0
end
section
variable {X:Cx} {Γ:Gz} {β:Bz}
def zBlock (tn:Nat) (idx:List Nat) (ρ:aA):aA:=r9 tn none++idx.map fun i=>(ρ[i]?).join
theorem Zr.block {M:Mh} {ρ:aA} {σ:St} {H:Hp} (z:Zr Γ β M ρ σ H) (tn:Nat) (idx:List Nat):Zr Γ β M (zBlock tn idx ρ) (bW tn idx σ) H:=⟨z.eP,z.ew,z.eK,z.et,z.sub,z.wf,z.ent,z.mz,by simp [zBlock,bW],fun i d e=>by
 unfold zBlock at e
 unfold bW
 rw [Vm] at e ⊢
 rw [Rs] at e ⊢
 split at e
 ·rw [OF] at e
  split at e <;> cases e
 ·rename_i hi
  rw [if_neg hi]
  rw [ca] at e ⊢
  cases q:idx[i - tn]? with
  |none=>rw [q] at e;cases e
  |some j=>
   rw [q] at e
   have e2:ρ[j]?=some (some d) :=by
    simp only [ON,GS] at e
    cases q2:ρ[j]? with
    |none=>rw [q2] at e;cases e
    |some o=>rw [q2] at e;simp only [V7] at e;rw [e]
   obtain ⟨v,hv,r⟩:=z.at' j d e2
   exact ⟨v,by simp [hv],r⟩⟩
theorem Zr.enter {M:Mh} {ρ:aA} {σ:St} {H:Hp} {D:ac} {o:HO} (z:Zr Γ β M ρ σ H) (hD:H D=none) (ho:mM o=true):Zr Γ (β.add D) M ρ σ (upd H D o):=
 ⟨z.eP,z.ew,z.eK,z.et,fun a h=>gl _ (z.sub a h),z.wf,z.ent.over (z.ent.gone hD (by
  cases e:Γ.M0 D with
  |none=>rfl
  |some u=>have:=z.ent.dom D (by rw [e];rfl);rw [z.mz.free hD] at this;cases this)),z.mz.enter hD ho,z.len,fun i d e=>let ⟨v,h,r⟩:=z.at' i d e;⟨v,h,r.enter hD⟩⟩
theorem Zr.over {M:Mh} {ρ:aA} {σ:St} {H:Hp} {D:ac} {o:HO} (z:Zr Γ β M ρ σ H) (hD:D∈β.hid) (ho:mM o=true) (hM:M D=none) (ht:D ∉ β.tb) (h0:Γ.H0 D=none):Zr Γ β M ρ σ (upd H D o):=
 ⟨z.eP,z.ew,z.eK,z.et,z.sub,z.wf,z.ent.over h0,z.mz.over hD ho hM ht,z.len,fun i d e=>let ⟨v,h,r⟩:=z.at' i d e;⟨v,h,r.over hD⟩⟩
abbrev vb (Γ:Gz) (X:Cx) (ifs:List cr) (t:cU):Prop:=ib X ifs (lT Γ t)
def zNoIf:cU:=fun _ M Q=>Q true M
theorem gb:vb Γ X [] zNoIf:=Gx.imp fun σ H Q ⟨β,ρ,M,Q',zr,h,q⟩=>q true M H (.refl zr.mz) h
theorem qQ {c:cr} {tc:cU} (h:QT Γ X c tc):vb Γ X [c] tc:=Gy h
def ft (g:cO) (tt:cU) (te:aI):List Dv->aA->Mh->(List Dv->Mh->Prop)->Prop
 | [],_,M,Q=>Q [] M
 |d::ds,τ,M,Q=>g d τ M fun aC M2=>tt aC M2 fun b M3=>if b=true then te aC M3 fun y M4=>ft g tt te ds aC M4 fun ys M5=>Q (y::ys) M5 else ft g tt te ds aC M3 Q
structure Acc (Γ:Gz) (β:Bz) (D:ac) (M1:Mh) (H1:Hp) (cm:aA) (M:Mh) (τ:St) (H:Hp) (acc:List V) (bY:List Dv):Prop where
 ey:Ey M1 H1 M H
 m:M D=none
 zr:Zr Γ (β.add D) M cm τ H
 at':H D=some (.lst acc)
 rs:aG (β.add D) M H acc bY
 h1:H1 D=none
 h0:Γ.H0 D=none
 nt:D ∉ β.tb
theorem Acc.start {D:ac} {M1:Mh} {H1:Hp} {cm:aA} {τ:St} (zr:Zr Γ β M1 cm τ H1) (hD:H1 D=none):Acc Γ β D M1 H1 cm M1 τ (upd H1 D (.lst [])) [] []:=
 ⟨Ey.refl.over hD,zr.mz.free hD,zr.enter hD rfl,ay,.nil,hD,zr.ent.gone hD (by
  cases e:Γ.M0 D with
  |none=>rfl
  |some u=>have:=zr.ent.dom D (by rw [e];rfl);rw [zr.mz.free hD] at this;cases this),zr.mz.DW hD⟩
section
variable {D:ac} {M1 M M2:Mh} {H1 H H2:Hp} {cm Kq:aA} {τ aC:St} {acc:List V} {bY:List Dv}
theorem Acc.step (A:Acc Γ β D M1 H1 cm M τ H acc bY) (x:Ex (β.add D) M H M2 H2) (z:Zr Γ (β.add D) M2 Kq aC H2):Acc Γ β D M1 H1 Kq M2 aC H2 acc bY:=
 ⟨A.ey.trans x.toEy,x.new D _ A.m A.at',z,x.get A.m A.at' rfl,A.rs.ex x,A.h1,A.h0,A.nt⟩
theorem Acc.snoc (A:Acc Γ β D M1 H1 cm M τ H acc bY) {y:V} {d:Dv} (r:Rz (β.add D) M H y d):Acc Γ β D M1 H1 cm M τ (upd H D (.lst (acc++[y]))) (acc++[y]) (bY++[d]) :=by
 have hD:D∈(β.add D).hid:=jp
 exact ⟨A.ey.over A.h1,A.m,A.zr.over hD rfl A.m A.nt A.h0,ay,⟨by simp [A.rs.len],fun i v d a b=>((A.rs.snoc r).at' i v d a b).over hD⟩,A.h1,A.h0,A.nt⟩
theorem Acc.fz (A:Acc Γ β D M1 H1 cm M τ H acc bY) (m1:Mz β M1 H1):Fz β M D:=⟨A.m,(m1.fz A.h1).2⟩
theorem Acc.mz (A:Acc Γ β D M1 H1 cm M τ H acc bY):Mz β M H:=Mz.sub (β:=β.add D) (cJ:=β) rfl rfl rfl rfl (fun a h=>gl _ h) A.zr.mz
theorem Acc.items (A:Acc Γ β D M1 H1 cm M τ H acc bY):aG β M H acc bY:=⟨A.rs.len,fun i v d a b=>Rz.sub (β:=β.add D) (cJ:=β) rfl rfl rfl (fun a h=>gl _ h) (A.rs.at' i v d a b)⟩
theorem Acc.ex (A:Acc Γ β D M1 H1 cm M τ H acc bY):Ex β M1 H1 M H:=⟨A.ey,A.mz⟩
end
def zComp (tn:Nat) (idx:List Nat) (zi:fm) (g:cO) (tt:cU) (te:aI):aI:=fun ρ M Q=>zi ρ M fun ds M1=>ds.length<sizeLine/\ft g tt te ds (zBlock tn idx ρ) M1 fun ys M2=>Q (.lst ys) M2
def zCompP (tn:Nat) (idx:List Nat) (zi:fm) (g:cO) (tt:cU) (te:aI):aI:=fun ρ M Q=>zi ρ M fun ds M1=>ds.length<sizeLine/\ft g tt te ds (zBlock tn idx ρ) M1 fun ys M2=>∀a,M2 a=none->Q (.ptr a) (az M2 a (.lst ys))
def zTupG (tn:Nat) (idx:List Nat) (zi:fm) (g:cO) (tt:cU) (te:aI):aI:=fun ρ M Q=>zi ρ M fun ds M1=>ds.length<sizeLine/\ft g tt te ds (zBlock tn idx ρ) M1 fun ys M2=>Q (.tup ys) M2
variable {zi:fm} {g:cO} {tt:cU} {te:aI} {tn:Nat} {idx:List Nat}
def kg (Γ:Gz) (β:Bz) (D:ac) (M1:Mh) (H1:Hp) (g:cO) (tt:cU) (te:aI) (ds:List Dv) (Q':List Dv->Mh->Prop) (i m:Nat) (τ:St) (H:Hp):Prop:=
 m=ds.length - i/\i<=ds.length/\∃cm M acc bY,Acc Γ β D M1 H1 cm M τ H acc bY/\acc.length<=i/\ft g tt te (ds.drop i) cm M fun ys M2=>Q' (bY++ys) M2
theorem mQ {D:ac} {M1:Mh} {H1:Hp} {ds:List Dv} {Q':List Dv->Mh->Prop} {J:It} (it:A9 β J ds M1 H1) (hlen:ds.length<sizeLine) {i m:Nat} {τ:St} {H:Hp} (w:kg Γ β D M1 H1 g tt te ds Q' i m τ H)
  {C:V->St->Hp->Prop} (hC:∀y aC H4 acc,H4 D=some (.lst acc)->acc.length<sizeLine->(∃m',m'<m/\kg Γ β D M1 H1 g tt te ds Q' (i+1) m' aC (upd H4 D (.lst (acc++[y]))))->C y aC H4) :
  (J.stop i H/\∃cm M acc bY,Acc Γ β D M1 H1 cm M τ H acc bY/\acc.length<sizeLine/\Q' bY M) \/
  (J.go i H/\∀x H',J.yld i H x H'->lG Γ g x τ H' fun aC H2=>lT Γ tt aC H2 fun b H3=>if b=true then lE Γ te aC H3 fun y H4=>C y aC H4 else ∃m',m'<m/\kg Γ β D M1 H1 g tt te ds Q' (i+1) m' aC H3) :=by
 obtain ⟨rfl,hi,cm,M,acc,bY,A,JS,h⟩:=w
 have q:=it (β.add D) M H (.add A.h1) A.ey A.zr.mz i
 by_cases bb:i<ds.length
 ·refine .inr ⟨(q.1 bb).1,fun x H' y=>?_⟩
  obtain ⟨x2,d,hd,rd⟩:=(q.1 bb).2 x H' y
  have e:ds.drop i=d::ds.drop (i+1) :=by
   rw [Gc bb]
   rw [ag bb] at hd
   cases hd
   rfl
  rw [e] at h
  have A2:=A.step x2 (A.zr.step x2)
  refine ⟨β.add D,d,cm,M,_,A2.zr,rd,h,fun lb M3 oy H3 x3 z3 h3=>?_⟩
  have A3:=A2.step x3 z3
  refine ⟨β.add D,lb,M3,_,z3,h3,fun b M4 H4 x4 h4=>?_⟩
  have A4:=A3.step x4 (z3.step x4)
  cases b with
  |false=>
   dsimp only at h4 ⊢
   rw [if_neg io] at h4 ⊢
   exact ⟨ds.length - (i+1),by omega,rfl,bb,lb,M4,acc,bY,A4,by omega,h4⟩
  |true=>
   dsimp only at h4 ⊢
   rw [if_pos rfl] at h4 ⊢
   refine ⟨β.add D,lb,M4,_,A4.zr,h4,fun yd M5 yv H5 x5 r5 h5=>?_⟩
   have A5:=A4.step x5 (A4.zr.step x5)
   refine hC yv oy H5 acc A5.at' (by omega) ⟨ds.length - (i+1),by omega,rfl,bb,lb,M5,acc++[yv],bY++[yd],A5.snoc r5,by simp;omega,?_⟩
   have e2:(fun ys M2=>Q' (bY++[yd]++ys) M2)=fun ys M2=>Q' (bY++yd::ys) M2 :=by
    funext ys M2
    rw [GM]
    rfl
   rw [e2]
   exact h5
 ·have e:i=ds.length :=by omega
  subst e
  rw [U5] at h
  refine .inl ⟨q.2 (cb _),cm,M,acc,bY,A,by omega,?_⟩
  have h':Q' (bY++[]) M:=h
  rwa [Cs] at h'
theorem lg {D:ac} {M1:Mh} {H1:Hp} {ds:List Dv} {Q':List Dv->Mh->Prop} {cm:aA} {τ:St} (zr:Zr Γ β M1 cm τ H1) (hD:H1 D=none) (h:ft g tt te ds cm M1 Q'):kg Γ β D M1 H1 g tt te ds Q' 0 ds.length τ (upd H1 D (.lst [])):=
 ⟨rfl,qr _,cm,M1,[],[],.start zr hD,cb _,h⟩
theorem Bo {σ:St} {H:Hp} {Q:VK} (h:lE Γ (zComp tn idx zi g tt te) σ H Q):tO tn idx (lI Γ zi) (lG Γ g) (lT Γ tt) (lE Γ te) σ H Q :=by
 obtain ⟨β,ρ,M,Q',zr,h,q⟩:=h
 refine ⟨β,ρ,M,_,zr,h,fun ds M1 H1 J x1 it ⟨hlen,h1⟩ D hD=>?_⟩
 have jW:=zr.step x1
 refine ⟨kg Γ β D M1 H1 g tt te ds fun ys M2=>Q' (.lst ys) M2,⟨_,lg (jW.block tn idx) hD h1⟩,fun i m τ H' w=>?_⟩
 rcases mQ it hlen w (C:=fun y aC H4=>∃ys m',H4 D=some (.lst ys)/\ys.length<sizeLine/\m'<m/\kg Γ β D M1 H1 g tt te ds (fun ys M2=>Q' (.lst ys) M2) (i+1) m' aC (upd H4 D (.lst (ys++[y])))) (fun y aC H4 acc e hl ⟨m',hm,w'⟩=>⟨acc,m',e,hl,hm,w'⟩) with ⟨hs,cm,M',acc,bY,A,_,hq⟩|z
 ·exact .inl ⟨hs,q _ _ _ _ (x1.trans A.ex) (u5 (A.fz jW.mz) A.at' A.items) hq⟩
 ·exact .inr z
theorem G3 {σ:St} {H:Hp} {Q:VK} (h:lE Γ (zCompP tn idx zi g tt te) σ H Q):tO tn idx (lI Γ zi) (lG Γ g) (lT Γ tt) (lE Γ te) σ H Q :=by
 obtain ⟨β,ρ,M,Q',zr,h,q⟩:=h
 refine ⟨β,ρ,M,_,zr,h,fun ds M1 H1 J x1 it ⟨hlen,h1⟩ D hD=>?_⟩
 have jW:=zr.step x1
 refine ⟨kg Γ β D M1 H1 g tt te ds fun ys M2=>∀a,M2 a=none->Q' (.ptr a) (az M2 a (.lst ys)),⟨_,lg (jW.block tn idx) hD h1⟩,fun i m τ H' w=>?_⟩
 rcases mQ it hlen w (C:=fun y aC H4=>∃ys m',H4 D=some (.lst ys)/\ys.length<sizeLine/\m'<m/\kg Γ β D M1 H1 g tt te ds (fun ys M2=>∀a,M2 a=none->Q' (.ptr a) (az M2 a (.lst ys))) (i+1) m' aC (upd H4 D (.lst (ys++[y])))) (fun y aC H4 acc e hl ⟨m',hm,w'⟩=>⟨acc,m',e,hl,hm,w'⟩) with ⟨hs,cm,M',acc,bY,A,_,hq⟩|z
 ·refine .inl ⟨hs,?_⟩
  have Sv:D ∉ β.hid:=(A.fz jW.mz).2
  have hM:M' D=none:=A.m
  have mz:Mz β (az M' D (.lst bY)) H':=by
   have rz:∀{v:V} {d:Dv},Rz (β.add D) M' H' v d->Rz β (az M' D (.lst bY)) H' v d:=fun r=>by
    have ne:∀a,Fz (β.add D) M' a->Fz β (az M' D (.lst bY)) a:=fun a f=>⟨by rw [ak (fun z=>f.2 (by rw [z];exact jp))];exact f.1,fun z=>f.2 (gl _ z)⟩
    induction r with
    |int i=>exact .int i
    |bl b=>exact .bl b
    |av=>exact .av
    |str z=>exact .str z
    |tup m e hl h ih=>exact .tup (ne _ m) e hl ih
    |lst m e hl h ih=>exact .lst (ne _ m) e hl ih
    |dk m e hk hl h ih=>exact .dk (ne _ m) e hk hl ih
    |dt m e hk hl h ih=>exact .dt (ne _ m) e hk hl ih
    |bP m e m2 e2 hl h ih=>exact .bP (ne _ m) e (ne _ m2) e2 hl ih
    |set m e=>exact .set (ne _ m) e
    |ptr m=>exact .ptr (by unfold az;split;rfl;exact m)
    |exc m e=>exact .exc (ne _ m) e
    |bC m e=>exact .bC (ne _ m) e
    |cu m e=>exact .cu (ne _ m) e
    |cw e=>exact .cw e
    |raw v=>exact .raw v
   refine ⟨fun a o e=>?_,A.zr.mz.tabs,fun a ha=>A.zr.mz.hids a (gl _ ha),fun a o e z=>?_,A.zr.mz.lams⟩
   by_cases ha:a=D
   ·subst ha
    rw [updM_same] at e
    cases e
    exact ⟨acc,A.at',A.rs.len,fun i v d a b=>rz (A.rs.at' i v d a b)⟩
   ·rw [ak ha] at e
    have z:=A.zr.mz.obj a o e
    cases o with
    |lst ds=>obtain ⟨vs,z,l,r⟩:=z;exact ⟨vs,z,l,fun i v d a b=>rz (r i v d a b)⟩
    |dk ks ds=>obtain ⟨vs,z,hk,l,r⟩:=z;exact ⟨vs,z,hk,l,fun i v d a b=>rz (r i v d a b)⟩
    |dt ks ds=>obtain ⟨vs,z,hk,l,r⟩:=z;exact ⟨vs,z,hk,l,fun i v d a b=>rz (r i v d a b)⟩
    |cI=>exact z
   ·by_cases ha:a=D
    ·subst ha;exact Sv z
    ·rw [ak ha] at e
     exact A.zr.mz.apart a o e (gl _ z)
  have ey:Ey M1 H1 (az M' D (.lst bY)) H':=⟨A.ey.keep,fun a h=>by unfold az;split;rfl;exact A.ey.dom a h,fun a o m e=>by rw [ak (a8 e A.h1)];exact A.ey.new a o m e⟩
  exact q _ _ _ _ (x1.trans ⟨ey,mz⟩) (.ptr (by rw [updM_same];rfl)) (hq D hM)
 ·exact .inr z
theorem Kr {P:ac} {zi:fm} {R:It->Hp->Prop} {σ:St} {H:Hp} {ρ:aA} {M:Mh} {R':List Dv->Mh->Prop} (hP:P∈Γ.tb) (zr:Zr Γ β M ρ σ H) (h:zi ρ M R') (q:∀ds M' H' J,Ex β M H M' H'->A9 β J ds M' H'->R' ds M'->R J H'):Fh P (lI Γ zi) R σ H :=by
 refine ⟨β,ρ,M,_,zr,h,fun ds M1 H1 J x1 it h1=>?_⟩
 have Ff:P∈β.tb :=by rw [zr.et];exact hP
 refine ⟨x1.mz.tabs P Ff,fun ps t=>?_⟩
 have x2:=Ex.grow x1.mz Ff t
 refine q ds M1 _ J (x1.trans x2) (fun cJ M' H' bx ey mz=>it cJ M' H' ⟨bx.P,bx.w,bx.K,bx.tb,bx.old,fun a ha=>?_⟩ (x2.toEy.trans ey) mz) h1
 rcases bx.new a ha with z|z
 ·exact .inl z
 ·right
  cases e:H1 a with
  |none=>rfl
  |some o=>obtain ⟨u,hu⟩:=DV (p:=P) (o:=.cF ps) ⟨o,e⟩;rw [z] at hu;cases hu
theorem Ks {P:ac} (hP:P∈Γ.tb) {σ:St} {H:Hp} {Q:VK} (h:lE Γ (zTupG tn idx zi g tt te) σ H Q):Fm P tn idx (lI Γ zi) (lG Γ g) (lT Γ tt) (lE Γ te) σ H Q :=by
 obtain ⟨β,ρ,M,Q',zr,h,q⟩:=h
 refine Kr hP zr h fun ds M1 H1 J x1 it ⟨hlen,h1⟩ D hD=>?_
 have jW:=zr.step x1
 refine ⟨kg Γ β D M1 H1 g tt te ds fun ys M2=>Q' (.tup ys) M2,⟨_,lg (jW.block tn idx) hD h1⟩,fun i m τ H' w=>?_⟩
 rcases mQ it hlen w (C:=fun y aC H4=>takeIn D y H4 fun H5=>∃m',m'<m/\kg Γ β D M1 H1 g tt te ds (fun ys M2=>Q' (.tup ys) M2) (i+1) m' aC H5) (fun y aC H4 acc e hl hw=>⟨acc,e,hl,hw⟩) with ⟨hs,cm,M',acc,bY,A,_,hq⟩|z
 ·refine .inl ⟨hs,acc,A.at',fun l hl=>?_⟩
  have x2:=Ex.lay A.mz hl (.tup acc)
  exact q _ _ _ _ (x1.trans (A.ex.trans x2)) (kD (A.mz.fz hl) ay (A.items.ex x2)) hq
 ·exact .inr z
def jX (g:cO) (tt:cU) (te:aI):List Dv->aA->Mh->(Bool->Mh->Prop)->Prop
 | [],_,M,Q=>Q true M
 |d::ds,τ,M,Q=>g d τ M fun aC M2=>tt aC M2 fun b M3=>if b=true then te aC M3 (zBool fun c M4=>if c=false then Q false M4 else jX g tt te ds aC M4 Q) else jX g tt te ds aC M3 Q
def zAll (tn:Nat) (idx:List Nat) (zi:fm) (g:cO) (tt:cU) (te:aI):aI:=fun ρ M Q=>zi ρ M fun ds M1=>jX g tt te ds (zBlock tn idx ρ) M1 fun b M2=>Q (.bl b) M2
theorem Nu {P:ac} (hP:P∈Γ.tb) {σ:St} {H:Hp} {Q:VK} (h:lE Γ (zAll tn idx zi g tt te) σ H Q):Jt P tn idx (lI Γ zi) (lG Γ g) (lT Γ tt) (lE Γ te) σ H Q :=by
 obtain ⟨β,ρ,M,Q',zr,h,q⟩:=h
 refine Kr hP zr h fun ds M1 H1 J x1 it h1=>?_
 have jW:=zr.step x1
 refine ⟨fun i m τ H'=>m=ds.length - i/\i<=ds.length/\∃cm M',Ex β M1 H1 M' H'/\Zr Γ β M' cm τ H'/\jX g tt te (ds.drop i) cm M' fun b M2=>Q' (.bl b) M2,⟨_,rfl,qr _,_,M1,.refl x1.mz,jW.block tn idx,h1⟩,?_⟩
 rintro i m τ H' ⟨rfl,hi,cm,M',x',gv,h'⟩
 have qq:=it β M' H' .refl x'.toEy x'.mz i
 by_cases bb:i<ds.length
 ·refine .inr ⟨(qq.1 bb).1,fun x mP y=>?_⟩
  obtain ⟨x2,d,hd,rd⟩:=(qq.1 bb).2 x mP y
  have e:ds.drop i=d::ds.drop (i+1) :=by
   rw [Gc bb]
   rw [ag bb] at hd
   cases hd
   rfl
  rw [e] at h'
  refine ⟨β,d,cm,M',_,gv.step x2,rd,h',fun lb M3 oy H3 x3 z3 h3=>⟨β,lb,M3,_,z3,h3,fun b M4 H4 x4 h4=>?_⟩⟩
  have vc:=x'.trans (x2.trans (x3.trans x4))
  cases b with
  |false=>
   dsimp only at h4 ⊢
   rw [if_neg io] at h4 ⊢
   exact ⟨ds.length - (i+1),by omega,rfl,bb,lb,M4,vc,z3.step x4,h4⟩
  |true=>
   dsimp only at h4 ⊢
   rw [if_pos rfl] at h4 ⊢
   refine ⟨β,lb,M4,_,z3.step x4,h4,fun yd M5 yv H5 x5 r5 h5=>?_⟩
   obtain ⟨k,rfl,h6⟩:=jr h5
   refine ⟨k,dA r5,?_⟩
   cases k with
   |false=>
    rw [if_pos rfl] at h6 ⊢
    exact q _ _ _ _ (x1.trans (vc.trans x5)) (.bl _) h6
   |true=>
    rw [if_neg (by decide)] at h6 ⊢
    exact ⟨ds.length - (i+1),by omega,rfl,bb,lb,M5,vc.trans x5,(z3.step x4).step x5,h6⟩
 ·have e:i=ds.length :=by omega
  subst e
  rw [U5] at h'
  exact .inl ⟨qq.2 (cb _),q _ _ _ _ (x1.trans x') (.bl _) h'⟩
end
section
variable {X:Cx} {Γ:Gz} {β:Bz} {K:ba}
def zII (f:Int->Int->Dv):eC:=fun d e M Q=>match d,e with | .int i,.int j=>Q (f i j) M|_,_=>False
def zIC (C:Int->Int->Prop) (f:Int->Int->Dv):eC:=fun d e M Q=>match d,e with | .int i,.int j=>C i j/\Q (f i j) M|_,_=>False
theorem mS {g:Int->Int->V} {f:Int->Int->Dv} (h:∀β M H i j,Rz β M H (g i j) (f i j)):p0 Γ (rM g) (zII f):=fun β x y d e M H Q Q' _ _ _ m rx ry z q=>by
 unfold zII at z
 split at z
 ·exact ⟨_,_,aN rx,aN ry,q _ _ _ _ (.refl m) (h ..) z⟩
 ·exact z.elim
theorem qb {C:Int->Int->Prop} {g:Int->Int->V} {f:Int->Int->Dv} (h:∀β M H i j,Rz β M H (g i j) (f i j)):p0 Γ (rI C g) (zIC C f):=fun β x y d e M H Q Q' _ _ _ m rx ry z q=>by
 unfold zIC at z
 split at z
 ·exact ⟨_,_,aN rx,aN ry,z.1,q _ _ _ _ (.refl m) (h ..) z.2⟩
 ·exact z.elim
theorem eQ:eO Γ X (binaryOp .Add) (zII fun i j=>.int (i+j)):=⟨_,II,mS fun _ _ _ _ _=>.int _⟩
theorem tS:eO Γ X (binaryOp .Sub) (zII fun i j=>.int (i - j)):=⟨_,IJ,mS fun _ _ _ _ _=>.int _⟩
theorem jY:eO Γ X (binaryOp .Mult) (zIC yl fun i j=>.int (i * j)):=⟨_,IK,qb fun _ _ _ _ _=>.int _⟩
theorem vd:eO Γ X (binaryOp .FloorDiv) (zIC IG fun i j=>.int (i / j)):=⟨_,Gj,qb fun _ _ _ _ _=>.int _⟩
theorem fG:eO Γ X (binaryOp .Mod) (zIC (fun _ j=>0<j) fun i j=>.int (i % j)):=⟨_,IL,qb fun _ _ _ _ _=>.int _⟩
theorem Nv:eO Γ X (binaryOp .Pow) (zIC IH fun i j=>.int (i ^ j.toNat)):=⟨_,IM,qb fun _ _ _ _ _=>.int _⟩
theorem y0:eO Γ X (compareOp .Lt) (zII fun i j=>.bl (decide (i<j))):=⟨_,MR,mS fun _ _ _ _ _=>.bl _⟩
theorem y1:eO Γ X (compareOp .LtE) (zII fun i j=>.bl (decide (i<=j))):=⟨_,MS,mS fun _ _ _ _ _=>.bl _⟩
theorem ve:eO Γ X (compareOp .Gt) (zII fun i j=>.bl (decide (j<i))):=⟨_,MT,mS fun _ _ _ _ _=>.bl _⟩
def scalZ (d e:Dv):Option Bool:=match d with
 | .int i=>(match e with | .int j=>some (decide (i=j)) | .av=>some false | .str _=>some false|_=>none)
 | .bl i=>(match e with | .bl j=>some (decide (i=j)) | .av=>some false | .str _=>some false|_=>none)
 | .str i=>(match e with | .str j=>some (decide (i=j)) | .av=>some false | .int _=>some false | .bl _=>some false|_=>none)
 | .av=>(match e with | .av=>some true | .int _=>some false | .bl _=>some false | .str _=>some false|_=>none)
 |_=>none
def zEq:eC:=fun d e M Q=>match scalZ d e with|some b=>Q (.bl b) M|none=>False
def zNe:eC:=fun d e M Q=>match scalZ d e with|some b=>Q (.bl (!b)) M|none=>False
theorem vf {M:Mh} {H:Hp} {x y:V} {d e:Dv} {b:Bool} (rx:Rz β M H x d) (ry:Rz β M H y e) (h:scalZ d e=some b):C6 x y=true/\decide (x=y)=b :=by
 unfold scalZ at h
 split at h
 ·rw [aN rx]
  split at h <;> cases h
  ·rw [aN ry];exact ⟨rfl,by simp⟩
  ·rw [ip ry];exact ⟨rfl,by simp⟩
  ·rw [bE ry];exact ⟨rfl,by simp⟩
 ·rw [dA rx]
  split at h <;> cases h
  ·rw [dA ry];exact ⟨rfl,by simp⟩
  ·rw [ip ry];exact ⟨rfl,by simp⟩
  ·rw [bE ry];exact ⟨rfl,by simp⟩
 ·rw [bE rx]
  split at h <;> cases h
  ·rw [bE ry];exact ⟨rfl,by simp⟩
  ·rw [ip ry];exact ⟨rfl,by simp⟩
  ·rw [aN ry];exact ⟨rfl,by simp⟩
  ·rw [dA ry];exact ⟨rfl,by simp⟩
 ·rw [ip rx]
  split at h <;> cases h
  ·rw [ip ry];exact ⟨rfl,by simp⟩
  ·rw [aN ry];exact ⟨rfl,by simp⟩
  ·rw [dA ry];exact ⟨rfl,by simp⟩
  ·rw [bE ry];exact ⟨rfl,by simp⟩
 ·cases h
theorem qR:eO Γ X (compareOp .Eq) zEq:=⟨_,MP,fun β x y d e M H Q Q' _ _ _ m rx ry z q=>by
 unfold zEq at z
 split at z
 ·rename_i b hb
  obtain ⟨h1,h2⟩:=vf rx ry hb
  exact ⟨h1,by rw [h2];exact q _ _ _ _ (.refl m) (.bl _) z⟩
 ·exact z.elim⟩
theorem Kt:eO Γ X (compareOp .NotEq) zNe:=⟨_,MQ,fun β x y d e M H Q Q' _ _ _ m rx ry z q=>by
 unfold zNe at z
 split at z
 ·rename_i b hb
  obtain ⟨h1,h2⟩:=vf rx ry hb
  exact ⟨h1,by rw [h2];exact q _ _ _ _ (.refl m) (.bl _) z⟩
 ·exact z.elim⟩
def isNonD:Dv->Option Bool
 | .av=>some true
 | .raw _=>none
 |_=>some false
def zIsN (neg:Bool):eC:=fun d e M Q=>match e,isNonD d with | .av,some b=>Q (.bl (if neg then !b else b)) M|_,_=>False
def zSS (C:bi->bi->Prop) (f:bi->bi->Dv):eC:=fun d e M Q=>match d,e with | .str i,.str j=>C i j/\Q (f i j) M|_,_=>False
theorem sx:eO Γ X (binaryOp .Add) (zSS (fun i j=>i.length+j.length<=sizeLine) fun i j=>.str (i++j)):=⟨_,yo,fun β x y d e M H Q Q' _ _ _ m rx ry z q=>by
 unfold zSS at z
 split at z
 ·exact ⟨_,_,bE rx,bE ry,z.1,q _ _ _ _ (.refl m) (.str _) z.2⟩
 ·exact z.elim⟩
def y2 (i j:bi):Bool := !(Is j i 0 j.length 1).isEmpty
theorem DZ:eO Γ X (compareOp .In) (zSS (fun _ _=>True) fun i j=>.bl (y2 i j)):=⟨_,Aa,fun β x y d e M H Q Q' _ _ _ m rx ry z q=>by
 unfold zSS at z
 split at z
 ·exact ⟨_,_,bE rx,bE ry,q _ _ _ _ (.refl m) (.bl _) z.2⟩
 ·exact z.elim⟩
mutual
def cj:Dv->Option Dt
 | .int i=>some (.int i)
 | .bl b=>some (.bl b)
 | .av=>some .av
 | .str z=>some (.str z)
 | .tup ds=>(jZ ds).map .tup
 | .lst ds=>(jZ ds).map .lst
 |_=>none
def jZ:List Dv->Option (List Dt)
 | []=>some []
 |d::ds=>match cj d,jZ ds with|some a,some as=>some (a::as)|_,_=>none
end
theorem lh:∀{ds:List Dv} {ts:List Dt},jZ ds=some ts->ds.length=ts.length/\∀(i:Nat) (d:Dv) (t:Dt),ds[i]?=some d->ts[i]?=some t->cj d=some t
 | [],ts,h=>by simp only [jZ,GS] at h;subst h;exact ⟨rfl,fun i d t a=>by simp at a⟩
 |d::ds,ts,h=>by
          simp only [jZ] at h
          split at h
          ·rename_i a as h1 h2
           cases h
           obtain ⟨hl,q⟩:=lh h2
           refine ⟨by simp [hl],fun i e t x y=>?_⟩
           cases i with
           |zero=>simp at x y;subst x y;exact h1
           |succ i=>rw [EM] at x y;exact q i e t x y
          ·cases h
theorem Bp {M:Mh} {H:Hp} {v:V} {d:Dv} (h:Rz β M H v d):∀{t:Dt},cj d=some t->eB H v t :=by
 induction h with
 |int i=>intro t e;simp only [cj,GS] at e;subst e;exact .int i
 |bl b=>intro t e;simp only [cj,GS] at e;subst e;exact .bl b
 |av=>intro t e;simp only [cj,GS] at e;subst e;exact .av
 |str z=>intro t e;simp only [cj,GS] at e;subst e;exact .str z
 |tup m e hl h ih=>
  intro t q
  simp only [cj,li] at q
  obtain ⟨ts,q,rfl⟩:=q
  obtain ⟨l2,at2⟩:=lh q
  refine .tup e (hl.trans l2) fun i x d hx hd=>?_
  have hi:=(bv.mp hd).1
  have:=ag (l:=_) (i:=i) (show i<_ from l2▸hi)
  exact ih i x _ hx this (at2 i _ _ this hd)
 |lst m e hl h ih=>
  intro t q
  simp only [cj,li] at q
  obtain ⟨ts,q,rfl⟩:=q
  obtain ⟨l2,at2⟩:=lh q
  refine .lst e (hl.trans l2) fun i x d hx hd=>?_
  have hi:=(bv.mp hd).1
  have:=ag (l:=_) (i:=i) (show i<_ from l2▸hi)
  exact ih i x _ hx this (at2 i _ _ this hd)
 |set m e=>intro t q;simp [cj] at q
 |ptr m=>intro t q;simp [cj] at q
 |exc m e=>intro t q;simp [cj] at q
 |bC m e=>intro t q;simp [cj] at q
 |cu m e=>intro t q;simp [cj] at q
 |cw e=>intro t q;simp [cj] at q
 |dk m e hk hl h ih=>intro t q;simp [cj] at q
 |dt m e hk hl h ih=>intro t q;simp [cj] at q
 |bP m e m2 e2 hl h ih=>intro t q;simp [cj] at q
 |raw v=>intro t q;simp [cj] at q
def now (M:Mh):Dv->Dv
 | .ptr a=>match M a with|some (.lst ds)=>.lst ds|_=>.ptr a
 |d=>d
theorem xK {M:Mh} {H:Hp} {v:V} {d:Dv} (m:Mz β M H) (h:Rz β M H v d) {t:Dt} (e:cj (now M d)=some t):eB H v t :=by
 cases d with
 |ptr a=>
  simp only [now] at e
  obtain ⟨rfl,hs⟩:=bZ h
  cases q:M a with
  |none=>rw [q] at hs;cases hs
  |some o=>
   rw [q] at e
   cases o with
   |cI=>simp [cj] at e
   |dk ks es=>simp [cj] at e
   |dt ks es=>simp [cj] at e
   |lst ds=>
    obtain ⟨vs,hv,rs⟩:=m.obj a _ q
    simp only [cj,li] at e
    obtain ⟨ts,q,rfl⟩:=e
    obtain ⟨l2,at2⟩:=lh q
    refine .lst hv (rs.len.trans l2) fun i x d hx hd=>?_
    have hi:=(bv.mp hd).1
    have:=ag (l:=_) (i:=i) (show i<_ from l2▸hi)
    exact Bp (rs.at' i x _ hx this) (at2 i _ _ this hd)
 |_=>exact Bp h e
def vg (neg:Bool):eC:=fun d e M Q=>match cj (now M d),cj (now M e) with|some a,some b=>iH a<=60/\Q (.bl (if neg then !dE a b else dE a b)) M|_,_=>False
theorem G4 {neg:Bool}:p0 Γ (DJ neg) (vg neg):=fun β x y d e M H Q Q' _ _ _ m rx ry z q=>by
 unfold vg at z
 split at z
 ·rename_i a b h1 h2
  exact ⟨a,b,xK m rx h1,xK m ry h2,z.1,q _ _ _ _ (.refl m) (.bl _) z.2⟩
 ·exact z.elim
theorem Nw (hu:X.A.units+64<cLine):eO Γ X (compareOp .NotEq) (vg true):=⟨_,JY hu,G4⟩
def itemsM (M:Mh):Dv->Option (List Dv)
 | .tup ds=>some ds
 | .lst ds=>some ds
 | .ptr a=>match M a with|some (.lst ds)=>some ds|_=>none
 |_=>none
theorem js {M:Mh} {H:Hp} {x:V} {d:Dv} {ds:List Dv} (m:Mz β M H) (r:Rz β M H x d) (h:itemsM M d=some ds):∃a vs,x=.ref a/\(H a=some (.lst vs)\/H a=some (.tup vs))/\aG β M H vs ds :=by
 cases d with
 |tup es=>cases h;obtain ⟨a,vs,e,_,h,rs⟩:=cZ r;exact ⟨a,vs,e,.inr h,rs⟩
 |lst es=>cases h;obtain ⟨a,vs,e,_,h,rs⟩:=f9 r;exact ⟨a,vs,e,.inl h,rs⟩
 |ptr a=>
  obtain ⟨rfl,hs⟩:=bZ r
  simp only [itemsM] at h
  split at h
  ·rename_i es q
   cases h
   obtain ⟨vs,hv,rs⟩:=m.obj a _ q
   exact ⟨a,vs,rfl,.inl hv,rs⟩
  ·cases h
 |_=>cases h
theorem G5 {M:Mh} {H:Hp} {vs:List V} {ds:List Dv} (rs:aG β M H vs ds) {i:Int} {d:Dv} (h:cf ds i=some d):∃v,cf vs i=some v/\Rz β M H v d :=by
 unfold cf at h ⊢
 rw [rs.len]
 cases e:gh ds.length i with
 |none=>rw [e] at h;cases h
 |some j=>
  rw [e] at h
  obtain ⟨v,hv,r⟩:=rs.get (i:=j) (d:=d) h
  exact ⟨v,hv,r⟩
def Ku (Γ:Gz) (X:Cx) (z:eC):Prop:=∃r,mq X r/\p0 Γ r z
def zIx:eC:=fun d e M Q=>match e with
 | .int i=>(match d with
  | .str z=>z.length<=sizeLine/\(match cf z.cps.toList i with|some c=>Q (.str ⟨#[c]⟩) M|none=>False)
  |_=>match itemsM M d with|some ds=>(match cf ds i with|some r=>Q r M|none=>False)|none=>False)
 |_=>False
theorem bU (hK:X.K=K):Ku Γ X zIx:=⟨_,xr hK,fun β x y d e M H Q Q' _ _ _ m rx ry z q=>by
 unfold zIx at z
 split at z
 ·rename_i i
  have hy:=aN ry
  split at z
  ·rename_i s
   obtain ⟨hz,z⟩:=z
   split at z
   ·rename_i c hc
    exact .inr (.inr ⟨s,i,c,bE rx,hy,hz,hc,q _ _ _ _ (.refl m) (.str _) z⟩)
   ·exact z.elim
  ·split at z
   ·rename_i ds sy
    obtain ⟨a,vs,rfl,ha,rs⟩:=js m rx sy
    split at z
    ·rename_i r hr
     obtain ⟨v,hv,rv⟩:=G5 rs hr
     have z':=q _ _ _ _ (.refl m) rv z
     rcases ha with ha|ha
     ·exact .inl ⟨a,vs,i,v,rfl,hy,bN.of ha,hv,z'⟩
     ·exact .inr (.inl ⟨a,vs,i,v,rfl,hy,cM.of ha,hv,z'⟩)
    ·exact z.elim
   ·exact z.elim
 ·exact z.elim⟩
theorem bf {a b:cr} {pa pb:aI} {z:eC} {pos:ul} (hr:Ku Γ X z) (ha:QE Γ X a pa) (hb:QE Γ X b pb) (hs:xn b):QE Γ X (.Subscript a b pos) (zOp z pa pb) :=by
 obtain ⟨r,h1,h2⟩:=hr
 exact (MX h1 ha hb hs).imp fun σ H Q h=>yX h2 h
abbrev Bq:=aA->Mh->(Option Int->Mh->Prop)->Prop
def lO (Γ:Gz) (p:Bq):TO:=fun σ H Q=>∃(β:Bz) (ρ:aA) (M:Mh) (Q':Option Int->Mh->Prop),Zr Γ β M ρ σ H/\p ρ M Q'/\∀o M' H',Ex β M H M' H'->Q' o M'->Q o H'
def zoNone:Bq:=fun _ M Q=>Q none M
def zoSome (p:aI):Bq:=fun ρ M Q=>p ρ M fun d M1=>match d with | .int i=>Q (some i) M1|_=>False
theorem PO.imp {e:Option cr} {t t':TO} (h:PO X e t) (i:∀σ H Q,t' σ H Q->t σ H Q):PO X e t':=fun pins s σ H Q I q=>h pins s σ H Q I (i _ _ _ q)
theorem G6:PO X none (lO Γ zoNone):=PO.imp Gs fun σ H Q ⟨β,ρ,M,Q',zr,h,q⟩=>q _ _ _ (.refl zr.mz) h
theorem G7 {e:cr} {p:aI} (h:QE Γ X e p):PO X (some e) (lO Γ (zoSome p)):=PO.imp (Gu h) fun σ H Q ⟨β,ρ,M,Q',zr,h,q⟩=>⟨β,ρ,M,_,zr,h,fun d M1 v H1 x1 r1 h1=>by
 revert h1
 split
 ·intro h1
  exact ⟨_,aN r1,q _ _ _ x1 h1⟩
 ·exact fun z=>z.elim⟩
abbrev FA:=Dv->Option Int->Option Int->Mh->ZK->Prop
def O6 (Γ:Gz) (X:Cx) (z:FA):Prop:=∃r,Fb X r/\∀(β:Bz) x d lo hi M H Q Q',β.P=Γ.P->β.w=Γ.w->β.K=Γ.K->Mz β M H->Rz β M H x d->z d lo hi M Q'->(∀d' M' v H',Ex β M H M' H'->Rz β M' H' v d'->Q' d' M'->Q v H')->r x lo hi H Q
def zSl (z:FA) (p:aI) (l h:Bq):aI:=fun ρ M Q=>p ρ M fun d M1=>l ρ M1 fun lo M2=>h ρ M2 fun hi M3=>z d lo hi M3 Q
theorem D0 {z:FA} {e:cr} {p:aI} {lo hi:Option cr} {l h:Bq} {p2 pos:ul} (hr:O6 Γ X z) (he:QE Γ X e p) (hl:PO X lo (lO Γ l)) (hu:PO X hi (lO Γ h)):QE Γ X (.Subscript e (.Slice lo hi none p2) pos) (zSl z p l h) :=by
 obtain ⟨r,h1,h2⟩:=hr
 exact (Di h1 he hl hu).imp fun σ H Q ⟨β,ρ,M,Q',zr,h,q⟩=>⟨β,ρ,M,_,zr,h,fun d M1 v H1 x1 r1 h1=>⟨β,ρ,M1,_,zr.step x1,h1,fun o M2 H2 x2 h3=>⟨β,ρ,M2,_,(zr.step x1).step x2,h3,fun o2 M3 H3 x3 h4=>
  h2 β v d o o2 M3 H3 _ _ zr.eP zr.ew zr.eK x3.mz ((r1.ex x2).ex x3) h4 fun d' M' v' H' x4 r4 q4=>q _ _ _ _ (x1.trans (x2.trans (x3.trans x4))) r4 q4⟩⟩⟩
def zSlS:FA:=fun d lo hi M Q=>match d with | .str s=>s.length<=sizeLine/\Q (.str (Wg s lo hi)) M|_=>False
theorem Nx:O6 Γ X zSlS:=⟨_,Jy,fun β x d lo hi M H Q Q' _ _ _ m rx z q=>by
 unfold zSlS at z
 split at z
 ·exact ⟨_,bE rx,z.1,q _ _ _ _ (.refl m) (.str _) z.2⟩
 ·exact z.elim⟩
end
section
variable {X:Cx} {Γ:Gz} {β:Bz} {K:ba}
section
variable {x:bi} {p pos:ul} {e:cr} {es:List cr} {za:dW} {id T:String} {z:so}
theorem aD (hc:eZ Γ X (.builtin id) z) (hg:Gl X x) (hm:X.mg x=none) (hv:bootBuiltins x=some (.builtin id)) (ha:QA Γ X (e::es) za) (hn:x ≠ "__name__" := by decide) (eS:(x==("__debug__" : bi))=false :=by decide)
  (he:starEach (e::es) X.env=(false,eval e X.env)::starEach es X.env :=by rfl) (cY:(backTo pos (starEach es X.env)).any (·.1)=false :=by rfl):QE Γ X (.Call (.Name x p) (e::es) [] pos) (zCB z za) :=by
 obtain ⟨r,h1,h2⟩:=hc
 exact (Dh h1 hg hm hv ha hn eS he cY).imp fun σ H Q h=>Km h2 h
theorem mU (hc:eZ Γ X (.type T) z) (hg:Gl X x) (hm:X.mg x=none) (hv:bootBuiltins x=some (.type T)) (ha:QA Γ X (e::es) za) (hn:x ≠ "__name__" := by decide) (eS:(x==("__debug__" : bi))=false :=by decide)
  (he:starEach (e::es) X.env=(false,eval e X.env)::starEach es X.env :=by rfl) (cY:(backTo pos (starEach es X.env)).any (·.1)=false :=by rfl):QE Γ X (.Call (.Name x p) (e::es) [] pos) (zCB z za) :=by
 obtain ⟨r,h1,h2⟩:=hc
 exact (Ai h1 hg hm hv ha hn eS he cY).imp fun σ H Q h=>Km h2 h
end
def z1 (f:Dv->Mh->ZK->Prop):so:=fun ds M Q=>match ds with | [d]=>f d M Q|_=>False
def zLenD (d:Dv) (M:Mh) (Q:ZK):Prop:=match d with
 | .str s=>s.length<=sizeLine/\Q (.int s.length) M
 | .bC ns=>Q (.int ns.length) M
 |_=>match itemsM M d with|some ds=>Q (.int ds.length) M|none=>False
theorem cy (hK:X.K=K) (hG:K=Γ.K):eZ Γ X (.builtin "len") (z1 zLenD):=⟨_,Aw hK,fun β xs ds M H Q Q' _ _ eK m rs z q=>by
 rw [<- hG] at eK
 unfold z1 at z
 split at z
 ·rename_i d
  obtain ⟨x,rfl,r⟩:=c6 rs
  unfold zLenD at z
  split at z
  ·rename_i s
   have e:=bE r
   subst e
   exact ⟨_,_,rfl,⟨z.1,rfl⟩,q _ _ _ _ (.refl m) (.int _) z.2⟩
  ·rename_i ns
   obtain ⟨a,rfl,h⟩:=sm r
   rw [eK] at h
   exact ⟨_,ns.length,rfl,.inl ⟨_,h,by simp⟩,q _ _ _ _ (.refl m) (.int _) z⟩
  ·split at z
   ·rename_i ds sy
    obtain ⟨a,vs,rfl,ha,fE⟩:=js m r sy
    have q':=q _ _ (.int ds.length) _ (.refl m) (.int _) z
    rcases ha with ha|ha
    ·exact ⟨_,ds.length,rfl,.inl ⟨vs,bN.of ha,fE.len.symm⟩,q'⟩
    ·exact ⟨_,ds.length,rfl,.inr ⟨vs,cM.of ha,fE.len.symm⟩,q'⟩
   ·exact z.elim
 ·exact z.elim⟩
def z2I (f:Int->Int->Int):so:=fun ds M Q=>match ds with | [.int i,.int j]=>Q (.int (f i j)) M|_=>False
theorem Kv (hc:X.calm=true):eZ Γ X (.builtin "max") (z2I fun i j=>if j > i then j else i):=⟨_,Ab hc,fun β xs ds M H Q Q' _ _ _ m rs z q=>by
 unfold z2I at z
 split at z
 ·obtain ⟨x,y,rfl,r,r'⟩:=kN rs
  rw [aN r,aN r']
  exact ⟨_,_,rfl,q _ _ _ _ (.refl m) (.int _) z⟩
 ·exact z.elim⟩
theorem vh (hc:X.calm=true):eZ Γ X (.builtin "min") (z2I fun i j=>if j<i then j else i):=⟨_,Ac hc,fun β xs ds M H Q Q' _ _ _ m rs z q=>by
 unfold z2I at z
 split at z
 ·obtain ⟨x,y,rfl,r,r'⟩:=kN rs
  rw [aN r,aN r']
  exact ⟨_,_,rfl,q _ _ _ _ (.refl m) (.int _) z⟩
 ·exact z.elim⟩
def zAbs (d:Dv) (M:Mh) (Q:ZK):Prop:=match d with | .int i=>Q (.int (if i<0 then -i else i)) M|_=>False
theorem y3:eZ Γ X (.builtin "abs") (z1 zAbs):=⟨_,Dd,fun β xs ds M H Q Q' _ _ _ m rs z q=>by
 unfold z1 at z
 split at z
 ·obtain ⟨x,rfl,r⟩:=c6 rs
  unfold zAbs at z
  split at z
  ·rw [aN r]
   exact ⟨_,rfl,q _ _ _ _ (.refl m) (.int _) z⟩
  ·exact z.elim
 ·exact z.elim⟩
def zTuple (d:Dv) (M:Mh) (Q:ZK):Prop:=match itemsM M d with|some ds=>Q (.tup ds) M|none=>False
theorem xM (hK:X.K=K):eZ Γ X (.type "tuple") (z1 zTuple):=⟨_,qM hK,fun β xs ds M H Q Q' _ _ _ m rs z q=>by
 unfold z1 at z
 split at z
 ·rename_i d
  obtain ⟨x,rfl,r⟩:=c6 rs
  unfold zTuple at z
  split at z
  ·rename_i ds sy
   obtain ⟨a,vs,rfl,ha,fE⟩:=js m r sy
   refine ⟨a,vs,rfl,?_⟩
   rcases ha with ha|ha
   ·refine .inl ⟨bN.of ha,fun l hl=>?_⟩
    have x2:=Ex.lay m hl (.tup vs)
    exact q _ _ _ _ x2 (kD (m.fz hl) ay (fE.ex x2)) z
   ·refine .inr ⟨cM.of ha,?_⟩
    have f:Fz β M a :=by
     cases d with
     |tup es=>obtain ⟨b,us,e,f,_⟩:=cZ r;cases e;exact f
     |lst es=>obtain ⟨b,us,e,f,_⟩:=f9 r;cases e;exact f
     |ptr b=>
      obtain ⟨e,hs⟩:=bZ r
      cases e
      cases q2:M a with
      |none=>rw [q2] at hs;cases hs
      |some o=>have:=m.kG ha rfl;rw [q2] at this;cases this
     |_=>cases sy
    exact q _ _ _ _ (.refl m) (kD f ha fE) z
  ·exact z.elim
 ·exact z.elim⟩
def gz:List Dv->Option (List Int)
 | []=>some []
 | .int i::ds=>(gz ds).map (i::·)
 |_::_=>none
theorem oQ:∀{ds:List Dv} {ns:List Int},gz ds=some ns->ds=ns.map Dv.int
 | [],ns,h=>by simp only [gz,GS] at h;subst h;rfl
 |d::ds,ns,h=>by
          cases d with
          |int i=>
           simp only [gz,li] at h
           obtain ⟨ms,h,rfl⟩:=h
           rw [oQ h]
           rfl
          |_=>simp [gz] at h
theorem mV:∀ns:List Int,gz (ns.map Dv.int)=some ns
 | []=>rfl
 |n::ns=>by simp [gz,mV ns]
theorem lj {M:Mh} {H:Hp}:∀{vs:List V} {ns:List Int},aG β M H vs (ns.map Dv.int)->vs=ns.map V.int
 | [],[],_=>rfl
 | [],_::_,r=>absurd r.len (by simp)
 |_::_,[],r=>absurd r.len (by simp)
 |v::vs,n::ns,r=>by
          rw [wv] at r
          rw [wv,aN r.head,lj r.tail]
theorem ll {M:Mh} {H:Hp}:∀{ns:List Int},aG β M H (ns.map V.int) (ns.map Dv.int)
 | []=>.nil
 |n::ns=>.cons (.int _) ll
def intsM (M:Mh) (d:Dv):Option (List Int):=match d with | .set ns=>some ns|_=>(itemsM M d).bind gz
def zSorted (d:Dv) (M:Mh) (Q:ZK):Prop:=match intsM M d with|some ns=>ns.length<64/\Q (.lst ((sortI ns).map .int)) M|none=>False
theorem mW {M:Mh} {H:Hp} {x:V} {d:Dv} {ns:List Int} (m:Mz β M H) (r:Rz β M H x d) (h:(itemsM M d).bind gz=some ns):∃a,x=.ref a/\(H a=some (.lst (ns.map V.int))\/H a=some (.tup (ns.map V.int))) :=by
 cases e:itemsM M d with
 |none=>rw [e] at h;cases h
 |some ds=>
  rw [e] at h
  obtain ⟨a,vs,rfl,ha,rs⟩:=js m r e
  have e2:=oQ (ns:=ns) h
  subst e2
  have:=lj rs
  subst this
  exact ⟨a,rfl,ha⟩
theorem D1 (hP:X.prog=Γ.P) (hw:X.w=Γ.w) (hK:X.K=K) (hc:X.calm=true):eZ Γ X (.builtin "sorted") (z1 zSorted):=⟨_,lY hP hw hK hc,fun β xs ds M H Q Q' eP ew _ m rs z q=>by
 unfold z1 at z
 split at z
 ·rename_i d
  obtain ⟨x,rfl,r⟩:=c6 rs
  unfold zSorted at z
  split at z
  ·rename_i ns dU
   have fin:∀l,H l=none->Q (.ref l) (upd H l (.lst ((sortI ns).map V.int))):=fun l hl=>by
    have x2:=Ex.lay m hl (.lst ((sortI ns).map V.int))
    exact q _ _ _ _ x2 (u5 (m.fz hl) ay ll) z.2
   unfold intsM at dU
   split at dU
   ·cases dU
    obtain ⟨a,rfl,f,h⟩:=sk r
    rw [eP,ew] at h
    exact ⟨a,_,rfl,.inl h,z.1,fin⟩
   ·obtain ⟨a,rfl,ha⟩:=mW m r dU
    exact ⟨a,_,rfl,.inr (ha.imp bN.of cM.of),z.1,fin⟩
  ·exact z.elim
 ·exact z.elim⟩
def zSet (d:Dv) (M:Mh) (Q:ZK):Prop:=match (itemsM M d).bind gz with|some ns=>ns.length+1<scanBound/\Q (.set (cV ns)) M|none=>False
theorem Ny (hP:X.prog=Γ.P) (hw:X.w=Γ.w) (hK:X.K=K) (hc:X.calm=true):eZ Γ X (.type "set") (z1 zSet) :=by
 refine ⟨uT Γ.P Γ.w K,by rw [<- hP,<- hw];exact yR hK hc,fun β xs ds M H Q Q' eP ew _ m rs z q=>?_⟩
 unfold z1 at z
 split at z
 ·rename_i d
  obtain ⟨x,rfl,r⟩:=c6 rs
  unfold zSet at z
  split at z
  ·rename_i ns dU
   obtain ⟨a,rfl,ha⟩:=mW m r dU
   refine ⟨a,ns,rfl,ha.imp bN.of cM.of,z.1,fun l hl=>?_⟩
   have x2:=Ex.lay m hl (oI Γ.P Γ.w l (cV ns))
   exact q _ _ _ _ x2 (.set (m.fz hl) (by rw [eP,ew];exact ay)) z.2
  ·exact z.elim
 ·exact z.elim
def isD (T:String) (M:Mh) (d:Dv):Option Bool:=match d with
 | .int _=>some (T == "int") | .bl _=>some (T == "int" || T == "bool") | .av=>some false | .str _=>some (T == "str") | .tup _=>some (T == "tuple") | .lst _=>some (T == "list") | .ptr a=>(match M a with|some (.lst _)=>some (T == "list")|some .cI=>some (T == "list")|some _=>some false|none=>none)|_=>none
def qS:List String:=["int","bool","str","tuple","list"]
def zIsInst:so:=fun ds M Q=>match ds with | [d,.raw (.ty T)]=>T∈qS/\(match isD T M d with|some b=>Q (.bl b) M|none=>False)|_=>False
theorem Kw {K:ba} {M:Mh} {H:Hp} {x:V} {d:Dv} {T:String} {b:Bool} (m:Mz β M H) (hT:T∈qS) (r:Rz β M H x d) (h:isD T M d=some b):∃t,fL K H x t/\Vs K t (.type T)=some b :=by
 have oz:T = "int" \/ T = "bool" \/ T = "str" \/ T = "tuple" \/ T = "list" := by simpa [qS] using hT
 cases r with
 |int i=>cases h;exact ⟨_,.int i,by rcases oz with rfl|rfl|rfl|rfl|rfl <;> rfl⟩
 |bl i=>cases h;exact ⟨_,.bl i,by rcases oz with rfl|rfl|rfl|rfl|rfl <;> rfl⟩
 |av=>cases h;exact ⟨_,.av,by rcases oz with rfl|rfl|rfl|rfl|rfl <;> rfl⟩
 |str i=>cases h;exact ⟨_,.str i,by rcases oz with rfl|rfl|rfl|rfl|rfl <;> rfl⟩
 |tup f e hl q=>cases h;exact ⟨_,.tup e,by rcases oz with rfl|rfl|rfl|rfl|rfl <;> rfl⟩
 |lst f e hl q=>cases h;exact ⟨_,.lst e,by rcases oz with rfl|rfl|rfl|rfl|rfl <;> rfl⟩
 |ptr hs=>
  rename_i a
  cases q2:M a with
  |none=>rw [q2] at hs;cases hs
  |some o=>
   simp only [isD,q2] at h
   have q:=m.obj a o q2
   cases o with
   |lst ds=>obtain ⟨vs,e,_⟩:=q;cases h;exact ⟨_,.lst e,by rcases oz with rfl|rfl|rfl|rfl|rfl <;> rfl⟩
   |cI=>obtain ⟨_,_,e,_⟩:=q;cases h;exact ⟨_,.lst e,by rcases oz with rfl|rfl|rfl|rfl|rfl <;> rfl⟩
   |dk ks ds=>obtain ⟨vs,e,_⟩:=q;cases h;exact ⟨_,.dK e,by rcases oz with rfl|rfl|rfl|rfl|rfl <;> rfl⟩
   |dt ks ds=>obtain ⟨vs,e,_⟩:=q;cases h;exact ⟨_,.dT e,by rcases oz with rfl|rfl|rfl|rfl|rfl <;> rfl⟩
 |set f e=>cases h
 |exc f e=>cases h
 |bC f e=>cases h
 |cu f e=>cases h
 |cw e=>cases h
 |raw v=>cases h
 |dk f e _ _ _=>cases h
 |dt f e _ _ _=>cases h
 |bP _ _ _ _ _ _=>cases h
theorem jt (hK:X.K=K):eZ Γ X (.builtin "isinstance") zIsInst:=⟨_,uG hK,fun β xs ds M H Q Q' _ _ _ m rs z q=>by
 unfold zIsInst at z
 split at z
 ·obtain ⟨x,y,rfl,r,r'⟩:=kN rs
  rw [A8 r']
  obtain ⟨hT,z⟩:=z
  split at z
  ·rename_i b hb
   obtain ⟨t,ht,hk⟩:=Kw (K:=K) m hT r hb
   exact ⟨_,_,t,b,rfl,ht,hk,q _ _ _ _ (.refl m) (.bl _) z⟩
  ·exact z.elim
 ·exact z.elim⟩
abbrev sA:=Dv->List Dv->Mh->ZK->Prop
def Br (Γ:Gz) (X:Cx) (T id:String) (K:ba) (z:sA):Prop:=∃r,Fc X id r/\∀(β:Bz) x xs d ds M H Q Q',β.P=Γ.P->β.w=Γ.w->β.K=Γ.K->Mz β M H->Rz β M H x d->aG β M H xs ds->z d ds M Q'->(∀d' M' v H',Ex β M H M' H'->Rz β M' H' v d'->Q' d' M'->Q v H')->r x xs H Q
def tyZ (T:String) (M:Mh):Dv->Prop
 | .ptr a=>match M a with|some (.lst _)=>T = "list" |some .cI=>T = "list" |some (.dk _ _)=>T = "dict" |some (.dt _ _)=>T = "dict" |none=>False
 | .lst _=>T = "list"
 | .tup _=>T = "tuple"
 | .str _=>T = "str"
 |_=>False
theorem Kx {M:Mh} {H:Hp} {x:V} {d:Dv} {T:String} (m:Mz β M H) (r:Rz β M H x d) (h:tyZ T M d):Jg K T x H :=by
 cases r with
 |str=>exact h
 |lst f e _ _=>exact .inl ⟨h,_,bN.of e⟩
 |tup f e _ _=>exact .inr (.inl ⟨h,.inr ⟨_,e⟩⟩)
 |ptr hs=>
  rename_i a
  cases q2:M a with
  |none=>rw [q2] at hs;cases hs
  |some o=>
   simp only [tyZ,q2] at h
   have q:=m.obj a o q2
   cases o with
   |lst ds=>obtain ⟨vs,e,_⟩:=q;exact .inl ⟨h,_,bN.of e⟩
   |cI=>obtain ⟨_,_,e,_⟩:=q;exact .inl ⟨h,_,bN.of e⟩
   |dk ks ds=>obtain ⟨vs,e,_⟩:=q;exact .inr (.inr (.inl ⟨h,.inl ⟨_,e⟩⟩))
   |dt ks ds=>obtain ⟨vs,e,_⟩:=q;exact .inr (.inr (.inl ⟨h,.inr ⟨_,e⟩⟩))
 |_=>exact h.elim
def zBM (T:String) (z:sA) (po:aI) (pa:dW):aI:=fun ρ M Q=>po ρ M fun d M1=>tyZ T M1 d/\pa ρ M1 fun ds M2=>z d ds M2 Q
section
variable {o e:cr} {es:List cr} {po:aI} {pa:dW} {name:bi} {apos bG:ul} {T id:String} {z:sA}
theorem j0 (h:X.K=K) (pat:PlainAttrs T) (slot:Slot T name id) (uh:typeOf (.builtin id)=pure (.type "method_descriptor")) (hm:Br Γ X T id K z) (ho:QE Γ X o po) (ha:QA Γ X (e::es) pa) (pC:attributeBase o name X.env (eval o X.env)=eval o X.env :=by rfl)
  (uk:((backTo bG (starEach (e::es) X.env)).all (fun x => !x.1) && (backToKw bG (keywordEach [] X.env)).all (fun x=>x.1.isSome)
   && decide ((e::es).length+([]:List UR).length+(if ([]:List UR).isEmpty then 0 else 1)<30))=true :=by rfl)
  (hline:(apos.endLine==bG.line)=true :=by rfl) (hs:starEach (e::es) X.env=(false,eval e X.env)::starEach es X.env :=by rfl) (mr:(backTo bG (starEach es X.env)).any (·.1)=false :=by rfl) :
  QE Γ X (.Call (.Attribute o name apos) (e::es) [] bG) (zBM T z po pa) :=by
 obtain ⟨r,h1,h2⟩:=hm
 exact (JE h pat slot uh h1 ho ha pC uk hline hs mr).imp fun σ H Q ⟨β,ρ,M,Q',zr,h,q⟩=>⟨β,ρ,M,_,zr,h,fun d M1 v H1 x1 r1 ⟨ht,h1⟩=>⟨Kx x1.mz r1 ht,β,ρ,M1,_,zr.step x1,h1,fun ds M2 vs H2 x2 r2 h3=>
  h2 β v vs d ds M2 H2 _ _ zr.eP zr.ew zr.eK x2.mz (r1.ex x2) r2 h3 fun d' M' v' H' x3 r3 q3=>q _ _ _ _ (x1.trans (x2.trans x3)) r3 q3⟩⟩
end
def zAppend:sA:=fun d ds M Q=>match d,ds with | .ptr a,[y]=>(match M a with|some (.lst xs)=>xs.length<sizeLine/\Q .av (az M a (.lst (xs++[y])))|_=>False)|_,_=>False
theorem lq:Br Γ X "list" "list.append" K zAppend:=⟨_,rS,fun β x xs d ds M H Q Q' _ _ _ m r rs z q=>by
 unfold zAppend at z
 split at z
 ·rename_i a y
  split at z
  ·rename_i es he
   obtain ⟨e,hs⟩:=bZ r
   obtain ⟨v,e2,rv⟩:=c6 rs
   subst e e2
   obtain ⟨vs,hv,fE⟩:=m.obj a _ he
   refine ⟨a,vs,v,rfl,rfl,hv,by rw [fE.len];exact z.1,?_⟩
   exact q _ _ _ _ (Ex.own m (.inl hs) (fE.snoc rv)) .av z.2
  ·exact z.elim
 ·exact z.elim⟩
def zPop:sA:=fun d ds M Q=>match d,ds with | .ptr a,[]=>(match M a with|some (.lst xs)=>(match xs[xs.length - 1]? with|some y=>Q y (az M a (.lst xs.dropLast))|none=>False)|_=>False)|_,_=>False
def zPopAt:sA:=fun d ds M Q=>match d,ds with | .ptr a,[.int i]=>(match M a with|some (.lst xs) => -(2 ^ 63)<=i/\i<2 ^ 63/\(match seqIndex? i xs.length with|some k=>(match xs[k]? with|some y=>Q y (az M a (.lst (xs.eraseIdx k)))|none=>False)|none=>False)|_=>False)|_,_=>False
theorem aG.eraseIdx {M:Mh} {H:Hp} {vs:List V} {ds:List Dv} (h:aG β M H vs ds) (k:Nat):aG β M H (vs.eraseIdx k) (ds.eraseIdx k) :=by
 rw [List.eraseIdx_eq_take_drop_succ,List.eraseIdx_eq_take_drop_succ]
 exact (h.take _).append (h.drop _)
theorem xN:Br Γ X "list" "list.pop" K zPopAt:=⟨_,Dj,fun β x xs d ds M H Q Q' _ _ _ m r rs z q=>by
 unfold zPopAt at z
 split at z
 ·rename_i a i
  split at z
  ·rename_i es he
   obtain ⟨b1,b2,z⟩:=z
   split at z
   ·rename_i k hk
    split at z
    ·rename_i y hy
     obtain ⟨e,hs⟩:=bZ r
     obtain ⟨v0,e2,Sw⟩:=c6 rs
     subst e e2
     rw [aN Sw]
     obtain ⟨vs,hv,fE⟩:=m.obj a _ he
     obtain ⟨v,Sx,rv⟩:=fE.get hy
     refine ⟨a,vs,i,k,v,rfl,rfl,hv,b1,b2,by rw [fE.len];exact hk,Sx,?_⟩
     have x2:=Ex.own m (.inl hs) (fE.eraseIdx k)
     exact q _ _ _ _ x2 (rv.ex x2) z
    ·exact z.elim
   ·exact z.elim
  ·exact z.elim
 ·exact z.elim⟩
def zIndexS:sA:=fun d ds M Q=>match d,ds with | .str a,[.str b]=>(match Is a b 0 a.length 1 with|i::_=>Q (.int (i:Nat)) M | []=>False)|_,_=>False
theorem D2:Br Γ X "str" "str.index" K zIndexS:=⟨_,DK,fun β x xs d ds M H Q Q' _ _ _ m r rs z q=>by
 unfold zIndexS at z
 split at z
 ·split at z
  ·rename_i i rest hi
   obtain ⟨v,e2,rv⟩:=c6 rs
   subst e2
   exact ⟨_,_,i,rest,bE r,by rw [bE rv],hi,q _ _ _ _ (.refl m) (.int _) z⟩
  ·exact z.elim
 ·exact z.elim⟩
def zSetI:Dv->Dv->Dv->Mh->(Mh->Prop)->Prop:=fun o i v M N=>match o,i with | .ptr a,.int k=>(match M a with|some (.lst xs)=>(match gh xs.length k with|some j=>N (az M a (.lst (xs.set j v)))|none=>False)|_=>False)|_,_=>False
def zgSub (po pi:aI):cO:=fun d ρ M N=>po ρ M fun o M1=>pi ρ M1 fun i M2=>zSetI o i d M2 fun M3=>N ρ M3
theorem mX {o i:cr} {po pi:aI} {pos:ul} (ho:QE Γ X o po) (hi:QE Γ X i pi)
  (ha:∀v,assign (.Subscript o i pos) X.env v=(do
   let ov <- holding [v] (eval o X.env)
   let iv <- holding [v,ov] (eval i X.env)
   standAt pos
   holding [v,ov,iv] (setItem ov iv v)
   release [v,ov,iv] []) :=by intro _;rfl):QG Γ X (.Subscript o i pos) (zgSub po pi):=
 (Ip ho hi set_list ha).imp fun v σ H N ⟨β,d,ρ,M,N',zr,r,h,q⟩=>⟨β,ρ,M,_,zr,h,fun od M1 ov H1 x1 r1 h1=>⟨β,ρ,M1,_,zr.step x1,h1,fun Uw M2 iv H2 x2 r2 h2=>by
  unfold zSetI at h2
  split at h2
  ·rename_i a k
   split at h2
   ·rename_i es he
    split at h2
    ·rename_i j hj
     obtain ⟨e,hs⟩:=bZ (r1.ex x2)
     subst e
     rw [aN r2]
     obtain ⟨vs,hv,fE⟩:=x2.mz.obj a _ he
     have x3:=Ex.own x2.mz (.inl hs) (fE.set j ((r.ex x1).ex x2))
     exact ⟨a,vs,k,j,rfl,rfl,hv,by rw [fE.len];exact hj,q _ _ _ _ (x1.trans (x2.trans x3)) (((zr.step x1).step x2).step x3) h2⟩
    ·exact h2.elim
   ·exact h2.elim
  ·exact h2.elim⟩⟩
end
end L2
namespace L2
open PySem PySem.Spec PySem.W PyProof.Rows
abbrev ZX:=ac->Mh->Prop
abbrev bV:=List Dv->Mh->ZK->ZX->Prop
def aR (P:c8) (w:ff) (K:ba) (tb:b5) (S:bV):Sp:=fun vs H Q E=>∃(β:Bz) (ds:List Dv) (M:Mh) (Q':ZK) (E':ZX),β.P=P/\β.w=w/\β.K=K/\β.tb=tb/\Mz β M H/\aG β M H vs ds/\S ds M Q' E' /\
 (∀d M' v H',Ex β M H M' H'->Rz β M' H' v d->Q' d M'->Q v H')/\∀C M' H',Ex β M H M' H'->E' C M'->E (.ref C) none H'
theorem Rz.nM {β:Bz} {M0 M:Mh} {H:Hp} (dom:∀a,(M0 a).isSome=true->(M a).isSome=true) {v:V} {d:Dv} (h:Rz β M H v d):Pin M0 d->Rz β M0 H v d :=by
 have ne:∀a,Fz β M a->Fz β M0 a:=fun a m=>⟨(by
  cases e:M0 a with
  |none=>rfl
  |some o=>have:=dom a (by rw [e];rfl);rw [m.1] at this;cases this),m.2⟩
 induction h with
 |int i=>exact fun _=>.int i
 |bl b=>exact fun _=>.bl b
 |av=>exact fun _=>.av
 |str z=>exact fun _=>.str z
 |tup m e hl h ih=>
  intro p
  cases p with
  |tup p=>exact .tup (ne _ m) e hl fun i v d a b=>ih i v d a b (p d (ii b))
 |lst m e hl h ih=>
  intro p
  cases p with
  |lst p=>exact .lst (ne _ m) e hl fun i v d a b=>ih i v d a b (p d (ii b))
 |set m e=>exact fun _=>.set (ne _ m) e
 |ptr m=>intro p;cases p with|ptr p=>exact .ptr p
 |exc m e=>exact fun _=>.exc (ne _ m) e
 |bC m e=>exact fun _=>.bC (ne _ m) e
 |cu m e=>exact fun _=>.cu (ne _ m) e
 |cw e=>exact fun _=>.cw e
 |dk m e hk hl h ih=>
  intro p
  cases p with
  |dk p=>exact .dk (ne _ m) e hk hl fun i v d a b=>ih i v d a b (p d (ii b))
 |dt m e hk hl h ih=>
  intro p
  cases p with
  |dt p=>exact .dt (ne _ m) e hk hl fun i v d a b=>ih i v d a b (p d (ii b))
 |bP m e m2 e2 hl h ih=>
  intro p
  cases p with
  |bP p=>exact .bP (ne _ m) e (ne _ m2) e2 hl fun i v d a b=>ih i v d a b (p d (ii b))
 |raw v=>exact fun _=>.raw v
inductive mi (M0 M:Mh):Dv->Dv->Prop where
 |pin {d:Dv} (h:Pin M0 d):mi M0 M d d
 |ptr {a:ac} {ds ds':List Dv} (h0:M0 a=none) (h:M a=some (.lst ds)) (hl:ds.length=ds'.length) (r:∀(i:Nat) (d d':Dv),ds[i]?=some d->ds'[i]?=some d'->mi M0 M d d'):mi M0 M (.ptr a) (.lst ds')
 |tup {ds ds':List Dv} (hl:ds.length=ds'.length) (r:∀(i:Nat) (d d':Dv),ds[i]?=some d->ds'[i]?=some d'->mi M0 M d d'):mi M0 M (.tup ds) (.tup ds')
 |dk {a:ac} {ks:List Key} {ds ds':List Dv} (h0:M0 a=none) (h:M a=some (.dk ks ds)) (hl:ds.length=ds'.length) (r:∀(i:Nat) (d d':Dv),ds[i]?=some d->ds'[i]?=some d'->mi M0 M d d'):mi M0 M (.ptr a) (.dk ks ds')
 |dt {a:ac} {ks:List (List Key)} {ds ds':List Dv} (h0:M0 a=none) (h:M a=some (.dt ks ds)) (hl:ds.length=ds'.length) (r:∀(i:Nat) (d d':Dv),ds[i]?=some d->ds'[i]?=some d'->mi M0 M d d'):mi M0 M (.ptr a) (.dt ks ds')
theorem mi.rz {β:Bz} {M0 M:Mh} {H:Hp} (mz:Mz β M H) (dom:∀a,(M0 a).isSome=true->(M a).isSome=true) {d d':Dv} (h:mi M0 M d d'):∀{v:V},Rz β M H v d->Rz β M0 H v d':=by
 induction h with
 |pin h=>exact fun r=>r.nM dom h
 |ptr h0 h hl r ih=>
  intro v r
  obtain ⟨rfl,_⟩:=bZ r
  obtain ⟨vs,hv,rs⟩:=mz.obj _ _ h
  refine .lst ⟨h0,mz.apart _ _ h⟩ hv (rs.len.trans hl) fun i v d a b=>?_
  obtain ⟨d0,q,rd⟩:=rs.get' a
  exact ih i d0 d q b rd
 |dk h0 h hl r ih=>
  intro v r
  obtain ⟨rfl,_⟩:=bZ r
  obtain ⟨vs,hv,hk,rs⟩:=mz.obj _ _ h
  refine .dk ⟨h0,mz.apart _ _ h⟩ (.inl hv) hk (rs.len.trans hl) fun i v d a b=>?_
  obtain ⟨d0,q,rd⟩:=rs.get' a
  exact ih i d0 d q b rd
 |dt h0 h hl r ih=>
  intro v r
  obtain ⟨rfl,_⟩:=bZ r
  obtain ⟨vs,hv,hk,rs⟩:=mz.obj _ _ h
  refine .dt ⟨h0,mz.apart _ _ h⟩ (.inl hv) hk (rs.len.trans hl) fun i v d a b=>?_
  obtain ⟨d0,q,rd⟩:=rs.get' a
  exact ih i d0 d q b rd
 |tup hl r ih=>
  intro v r
  obtain ⟨a,vs,rfl,f,hv,rs⟩:=cZ r
  refine .tup ⟨?_,f.2⟩ hv (rs.len.trans hl) fun i v d a b=>?_
  ·cases e:M0 a with
   |none=>rfl
   |some o=>have:=dom a (by rw [e];rfl);rw [f.1] at this;cases this
  ·obtain ⟨d0,q,rd⟩:=rs.get' a
   exact ih i d0 d q b rd
def ju (M0:Mh) (Q:ZK):ZK:=fun d M=>Q d M\/((∀a o,M0 a=some o->M a=some o)/\∃d',mi M0 M d d'/\Q d' M0)
theorem nN {β:Bz} {M0 M:Mh} {H0 H:Hp} {Q':ZK} {Q:VK} (m0:Mz β M0 H0) (q:∀d M' v H',Ex β M0 H0 M' H'->Rz β M' H' v d->Q' d M'->Q v H') {d:Dv} {v:V} (x:Ex β M0 H0 M H) (r:Rz β M H v d) (h:ju M0 Q' d M):Q v H :=by
 rcases h with h|⟨same,d',rv,h⟩
 ·exact q _ _ _ _ x r h
 ·refine q d' M0 v H ⟨⟨x.keep,fun _ h=>h,fun _ _ h _=>h⟩,fun a o e=>?_,x.mz.tabs,x.mz.hids,m0.apart,x.mz.lams⟩ (rv.rz x.mz x.dom r) h
  have z:=x.mz.obj a o (same a o e)
  have z0:=m0.obj a o e
  cases o with
  |lst ds=>
   obtain ⟨vs,z,rs⟩:=z
   obtain ⟨Kd,_,Bs⟩:=z0
   refine ⟨vs,z,rs.len,fun i v d a b=>(rs.at' i v d a b).nM x.dom ?_⟩
   obtain ⟨v0,_,r0⟩:=Bs.get b
   exact r0.pin
  |dk ks ds=>
   obtain ⟨vs,z,hk,rs⟩:=z
   obtain ⟨Kd,_,_,Bs⟩:=z0
   refine ⟨vs,z,hk,rs.len,fun i v d a b=>(rs.at' i v d a b).nM x.dom ?_⟩
   obtain ⟨v0,_,r0⟩:=Bs.get b
   exact r0.pin
  |dt ks ds=>
   obtain ⟨vs,z,hk,rs⟩:=z
   obtain ⟨Kd,_,_,Bs⟩:=z0
   refine ⟨vs,z,hk,rs.len,fun i v d a b=>(rs.at' i v d a b).nM x.dom ?_⟩
   obtain ⟨v0,_,r0⟩:=Bs.get b
   exact r0.pin
  |cI=>exact z
def zstart (N:List bi) (ds:List Dv):aA:=ds.map some++r9 (N.length - ds.length) none
theorem oR {Γ:Gz} {N:List bi} {vs:List V} {ds:List Dv} (m:Mz Γ.toBz Γ.M0 Γ.H0) (rs:aG Γ.toBz Γ.M0 Γ.H0 vs ds):Zr Γ Γ.toBz Γ.M0 (zstart N ds) (start N vs) Γ.H0:=⟨rfl,rfl,rfl,rfl,fun _ h=>h,m.wf,.refl,m,by simp [zstart,start,rs.len],fun i d e=>by
 unfold zstart at e
 unfold start
 rw [Vm] at e ⊢
 rw [ci] at e ⊢
 rw [rs.len]
 split at e
 ·rename_i hi
  rw [if_pos hi]
  rw [ca,li] at e
  obtain ⟨d2,e,e2⟩:=e
  cases e2
  obtain ⟨v,hv,r⟩:=rs.get e
  exact ⟨v,by rw [ca,hv];rfl,r⟩
 ·rw [OF] at e
  split at e <;> cases e⟩
def zEndsOf (M0:Mh) (Q:ZK):fF:={nx:=fun _ M=>ju M0 Q .av M,rt:=ju M0 Q}
def XR (Γ:Gz) (E':ZX) (E:XK):Prop:=∀C M' H',Ex Γ.toBz Γ.M0 Γ.H0 M' H'->E' C M'->E (.ref C) none H'
section
variable {P:c8} {w:ff} {K:ba} {mg:bi->Option al} {base:gc} {tb:b5} {x:bi} {st:mv} {f:ac} {fd:i0} {N ps:List bi} {k:Nat} {S:bV}
theorem qT (len:∀ds M Q E,S ds M Q E->ds.length=ps.length):∀vs H Q E,aR P w K tb S vs H Q E->vs.length=ps.length:=fun vs H Q E hS=>by
 obtain ⟨β,ds,M,Q',E',_,_,_,_,m,rs,s,_⟩:=hS
 exact rs.len.trans (len _ _ _ _ s)
theorem fu (D:Df K mg x st ps f fd) (sc:aK N ps (aj st)) (len:∀ds M Q E,S ds M Q E->ds.length=ps.length)
  (body:∀(A:l4) (outer:List IF) (s:ar) (E:XK) (Γ:Gz) (ds:List Dv) (Q':ZK) (E':ZX),P=Γ.P->w=Γ.w->K=Γ.K->tb=Γ.tb->bB k (A.deeper (envOfC x (aj st) s.heap.objs.size f fd.code))->S ds Γ.M0 Q' E'->
   ∃p,md Γ (fo bq P w K mg base N x (aj st) f fd.code A outer s Γ.H0 E).iE (bK st) p/\p (zEndsOf Γ.M0 Q') (zstart N ds) Γ.M0):FnOk P w K mg base bq (k+1) f fd ps (aR P w K tb S) :=by
 refine D.fn.RP sc (qT len) fun A outer s H vs Q E hr h=>?_
 obtain ⟨β,ds,M,Q',E',eP,ew,eK,et,m,rs,hS,q,_⟩:=h
 obtain ⟨p,hp,hq⟩:=body A outer s E ⟨β,M,H⟩ ds Q' E' eP.symm ew.symm eK.symm et.symm hr hS
 refine ⟨_,hp,β,zstart N ds,M,zEndsOf M Q',oR (Γ:=⟨β,M,H⟩) m rs,hq,?_⟩
 have fin:∀d M' v H',Ex β M H M' H'->Rz β M' H' v d->ju M Q' d M'->Q v H':=fun d M' v H' x r h=>nN m q x r h
 exact ⟨fun bQ M' aH H' x zr h=>fin _ _ _ _ ⟨zr.ent,x.mz⟩ .av h,fun d M' v H' x e r h=>fin _ _ _ _ ⟨e,x.mz⟩ r h,fun _ _ _ _ _ _ h=>h,fun _ _ _ _ _ _ h=>h⟩
end
section
variable {P:c8} {w:ff} {K:ba} {mg:bi->Option al} {base:gc} {tb:b5} {x:bi} {st:mv} {f:ac} {fd:i0} {N ps:List bi} {k:Nat} {S:bV}
theorem gZ (D:Df K mg x st ps f fd) (sc:aK N ps (aj st)) (len:∀ds M Q E,S ds M Q E->ds.length=ps.length)
  (body:∀(A:l4) (outer:List IF) (s:ar) (E:XK) (Γ:Gz) (ds:List Dv) (Q':ZK) (E':ZX),P=Γ.P->w=Γ.w->K=Γ.K->tb=Γ.tb->XR Γ E' E->bB k (A.deeper (envOfC x (aj st) s.heap.objs.size f fd.code))->S ds Γ.M0 Q' E'->
   ∃p,md Γ (fo (cH P w) P w K mg base N x (aj st) f fd.code A outer s Γ.H0 E) (bK st) p/\p (zEndsOf Γ.M0 Q') (zstart N ds) Γ.M0):FnOk P w K mg base (cH P w) (k+1) f fd ps (aR P w K tb S) :=by
 refine D.fn.uB sc (qT len) fun A outer s H vs Q E hr h=>?_
 obtain ⟨β,ds,M,Q',E',eP,ew,eK,et,m,rs,hS,q,qx⟩:=h
 obtain ⟨p,hp,hq⟩:=body A outer s E ⟨β,M,H⟩ ds Q' E' eP.symm ew.symm eK.symm et.symm qx hr hS
 refine ⟨_,hp,β,zstart N ds,M,zEndsOf M Q',oR (Γ:=⟨β,M,H⟩) m rs,hq,?_⟩
 have fin:∀d M' v H',Ex β M H M' H'->Rz β M' H' v d->ju M Q' d M'->Q v H':=fun d M' v H' x r h=>nN m q x r h
 exact ⟨fun bQ M' aH H' x zr h=>fin _ _ _ _ ⟨zr.ent,x.mz⟩ .av h,fun d M' v H' x e r h=>fin _ _ _ _ ⟨e,x.mz⟩ r h,fun _ _ _ _ _ _ h=>h,fun _ _ _ _ _ _ h=>h⟩
end
section
variable {X:Cx} {Γ:Gz} {β:Bz} {K:ba}
def zCall (S:bV) (E':ZX) (za:dW):aI:=fun ρ M Q=>za ρ M fun ds M1=>S ds M1 Q E'
theorem XR.none:XR Γ (fun _ _=>False) (fun _ _ _=>False):=fun _ _ _ _ h=>h
theorem qd {M M1 M2:Mh} {H H1 H2:Hp} (ent:Ey M H M1 H1) (sub:∀a,a∈Γ.hid->a∈β.hid) (eP:β.P=Γ.P) (ew:β.w=Γ.w) (eK:β.K=Γ.K) (et:β.tb=Γ.tb) (x:Ex β M1 H1 M2 H2):Ex Γ.toBz M H M2 H2:=⟨ent.trans x.toEy,x.mz.sub eP.symm ew.symm eK.symm et.symm sub⟩
section
variable {CX:fX} {k:Nat} {f:ac} {fd:i0} {ps:List bi} {S:bV} {E:XK} {E':ZX} {x:bi} {p pos:ul} {e:cr} {es:List cr} {za:dW} {P:c8} {w:ff} {tb:b5}
theorem Ky (hP:P=Γ.P) (hw:w=Γ.w) (hK:K=Γ.K) (ht:tb=Γ.tb) (hE:XR Γ E' E) {σ:St} {H:Hp} {Q:VK} (h:lE Γ (zCall S E' za) σ H Q):E9 (aR P w K tb S) [] E (lA Γ za) σ H Q :=by
 subst hP hw hK ht
 obtain ⟨β,ρ,M,Q',zr,h,q⟩:=h
 refine ⟨β,ρ,M,_,zr,h,fun ds M1 vs H1 x1 r1 h1=>?_⟩
 show aR Γ.P Γ.w Γ.K Γ.tb S (vs++[]) H1 Q E
 rw [Cs]
 exact ⟨β,ds,M1,Q',E',zr.eP,zr.ew,zr.eK,zr.et,x1.mz,r1,h1,fun d M2 v H2 x2 r2 h2=>q _ _ _ _ (x1.trans x2) r2 h2,fun C M2 H2 x2 h2=>hE C M2 H2 (qd zr.ent zr.sub zr.eP zr.ew zr.eK zr.et (x1.trans x2)) h2⟩
theorem aF (F:FnOk X.prog X.w X.K X.mg X.base CX k f fd ps (aR P w K tb S)) (hr:bB k X.A) (hg:Gl X x) (hm:X.mg x=some (.ref f)) (hk:AT X.K (.ref f)=true) (hb:Binds X.K fd ps []) (hx:Passes CX X E) (hP:P=Γ.P) (hw:w=Γ.w) (hK:K=Γ.K) (ht:tb=Γ.tb) (hE:XR Γ E' E)
  (ha:QA Γ X (e::es) za) (eS:(x==("__debug__" : bi))=false :=by decide) (he:starEach (e::es) X.env=(false,eval e X.env)::starEach es X.env :=by rfl) (cY:(backTo pos (starEach es X.env)).any (·.1)=false :=by rfl) :
  QE Γ X (.Call (.Name x p) (e::es) [] pos) (zCall S E' za):=(Gq F hr hg hm hk hb .nil hx ha eS he cY).imp fun σ H Q h=>Ky hP hw hK ht hE h
end
def zRaise (C:ac) (E':ZX) (za:dW):cp:=fun _ ρ M=>za ρ M fun ds M1=>ds.length<=sizeLine/\E' C M1
theorem lr {x:bi} {C:ac} {ke:cr} {rest:List cr} {za:dW} {sh:List al} {B newId uW:String} {E:XK} {E':ZX} {np bG pos:ul} (O:VL X.K C sh newId=true) (FB:ExcBaseFacts B newId uW sh) (hc:X.calm=true) (hR:Raises X E) (hE:XR Γ E' E) (hg:Gl X x) (hm:X.mg x=some (.ref C)) (ha:QA Γ X (ke::rest) za)
  (eS:(x==("__debug__" : bi))=false :=by decide) (he:starEach (ke::rest) X.env=(false,eval ke X.env)::starEach rest X.env :=by rfl) (cY:(backTo bG (starEach rest X.env)).any (·.1)=false :=by rfl) :
  QS Γ X (.Raise (some (.Call (.Name x np) (ke::rest) [] bG)) none pos) (zRaise C E' za):=(DL O FB hc hR hg hm ha eS he cY).imp fun D σ H ⟨β,ρ,M,D',zr,h,r⟩=>⟨β,ρ,M,_,zr,h,fun ds M1 vs H1 x1 r1 h1=>
 ⟨by rw [r1.len];exact h1.1,hE C M1 H1 (qd zr.ent zr.sub zr.eP zr.ew zr.eK zr.et x1) h1.2⟩⟩
section
variable {tg elt iter:cr} {ifs:List cr} {scope:wn} {pos:ul} {N':List bi} {tn:Nat} {idx:List Nat} {zi:fm} {g:cO} {tt:cU} {te:aI} {c P:ac} {k:Nat}
theorem oA (hc:X.calm=true) (B:aW X.N X.env.scope scope N' tn idx) (hi:QI Γ X tg iter zi)
  (hg:Blk X N' scope fun Y=>QG Γ Y tg g) (ht:Blk X N' scope fun Y=>vb Γ Y ifs tt) (he:Blk X N' scope fun Y=>QE Γ Y elt te)
  (hs:∀x,foldedSetIterable iter X.env x=pure x :=by intro _;rfl):QE Γ X (.ListComp elt [⟨tg,iter,ifs,0⟩] scope pos) (zComp tn idx zi g tt te):=(wt hc B hi hg ht he hs).imp fun σ H Q h=>Bo h
theorem iP {i:Nat} {y:bi} {py mC:ul} (hN:X.N.Nodup) (eT:X.N[i]?=some y) (hy:X.env.scope.names.lookup y=some .local) (hc:X.calm=true) (B:aW X.N X.env.scope scope N' tn idx) (hi:QI Γ X tg iter zi)
  (hg:Blk X N' scope fun Y=>QG Γ Y tg g) (ht:Blk X N' scope fun Y=>vb Γ Y ifs tt) (he:Blk X N' scope fun Y=>QE Γ Y elt te)
  (Aq:swapsWith (.ListComp elt [⟨tg,iter,ifs,0⟩] scope pos) (some (.Name y py)) mC.line X.env=pure true :=by rfl)
  (hs:∀x,foldedSetIterable iter X.env x=pure x :=by intro _;rfl):QS Γ X (.Assign [.Name y py] (.ListComp elt [⟨tg,iter,ifs,0⟩] scope pos) mC) (zAsg (zComp tn idx zi g tt te) (zgName i)):=(pF hN eT hy hc B hi hg ht he Aq hs).imp fun D σ H h=>yZ (fun _ _ _ h=>Bo h) h
theorem wG {i:Nat} {y:bi} {py mC:ul} (hN:X.N.Nodup) (eT:X.N[i]?=some y) (hy:X.env.scope.names.lookup y=some .local) (hc:X.calm=true) (B:aW X.N X.env.scope scope N' tn idx) (hi:QI Γ X tg iter zi)
  (hg:Blk X N' scope fun Y=>QG Γ Y tg g) (ht:Blk X N' scope fun Y=>vb Γ Y ifs tt) (he:Blk X N' scope fun Y=>QE Γ Y elt te)
  (Aq:swapsWith (.ListComp elt [⟨tg,iter,ifs,0⟩] scope pos) (some (.Name y py)) mC.line X.env=pure true :=by rfl)
  (hs:∀x,foldedSetIterable iter X.env x=pure x :=by intro _;rfl):QS Γ X (.Assign [.Name y py] (.ListComp elt [⟨tg,iter,ifs,0⟩] scope pos) mC) (zAsg (zCompP tn idx zi g tt te) (zgName i)):=(pF hN eT hy hc B hi hg ht he Aq hs).imp fun D σ H h=>yZ (fun _ _ _ h=>G3 h) h
theorem vi {p kb:ul} (hP:P∈Γ.tb) (hr:bB (k+1) X.A) (hc:X.calm=true) (B:aW X.N X.env.scope scope N' tn idx)
  (h0:scope.names.lookup (".0" : bi)=some .local) (jT:scope.isCoroutine=false) (dF:X.env.code=.ref c) (hd:nw X.base c P) (de:∃bm ob,UM X.base mainGlobals X.mg bm ob)
  (uA:Gl X "all") (hm:X.mg "all" = none) (hi:QI Γ X tg iter zi) (hg:dX X N' scope k fun Y=>QG Γ Y tg g) (ht:dX X N' scope k fun Y=>vb Γ Y ifs tt) (he:dX X N' scope k fun Y=>QE Γ Y elt te)
  (hs:∀x,genFold iter X.env x=pure x :=by intro _;rfl):QE Γ X (.Call (.Name "all" p) [dn elt tg iter ifs scope kb] [] pos) (zAll tn idx zi g tt te):=(Ju hr hc B h0 jT dF hd de uA hm hi hg ht he hs).imp fun σ H Q h=>Nu hP h
end
end
section
variable {X:Cx} {Γ:Gz} {β:Bz} {K:ba}
section
variable {tg elt iter:cr} {ifs:List cr} {scope:wn} {pos:ul} {N':List bi} {tn:Nat} {idx:List Nat} {zi:fm} {g:cO} {tt:cU} {te:aI} {c P:ac} {k:Nat}
theorem wH {p kb:ul} (hP:P∈Γ.tb) (hr:bB (k+1) X.A) (hc:X.calm=true) (B:aW X.N X.env.scope scope N' tn idx)
  (h0:scope.names.lookup (".0" : bi)=some .local) (jT:scope.isCoroutine=false) (dF:X.env.code=.ref c) (hd:nw X.base c P) (de:∃bm ob,UM X.base mainGlobals X.mg bm ob)
  (uA:Gl X "tuple") (hm:X.mg "tuple" = none) (hi:QI Γ X tg iter zi) (hg:dX X N' scope k fun Y=>QG Γ Y tg g) (ht:dX X N' scope k fun Y=>vb Γ Y ifs tt) (he:dX X N' scope k fun Y=>QE Γ Y elt te)
  (hs:∀x,genFold iter X.env x=pure x :=by intro _;rfl):QE Γ X (.Call (.Name "tuple" p) [dn elt tg iter ifs scope kb] [] pos) (zTupG tn idx zi g tt te):=(wy hr hc B h0 jT dF hd de uA hm hi hg ht he hs).imp fun σ H Q h=>Ks hP h
def FC (g:cO) (tt:cU) (te:aI):List Dv->aA->Mh->(List Int->Mh->Prop)->List Int->Prop
 | [],_,M,Q,acc=>Q acc M
 |d::ds,τ,M,Q,acc=>g d τ M fun aC M2=>tt aC M2 fun b M3=>if b=true then te aC M3 fun y M4=>(match y with | .int k=>acc.length+1<scanBound/\FC g tt te ds aC M4 Q (dH acc k)|_=>False) else FC g tt te ds aC M3 Q acc
end
def eU (xs ys:List Dv):List Dv:=(xs.zip ys).map fun p=>.tup [p.1,p.2]
def iB (n:Nat):List Dv:=(l9 n).map fun i=>.int (i:Nat)
theorem sC {J:It} {vs us:List V} {ds es:List Dv} {M:Mh} {H:Hp} (r:aG β M H vs ds) (r2:aG β M H us es) (h:∀M' H',Ey M H M' H'->Fp J (vs.zip us) H'):A9 β J (eU ds es) M H:=fun cJ M' H' bx x m i=>by
 have q:=h M' H' x i
 have hl:(eU ds es).length=(vs.zip us).length :=by simp [eU,r.len,r2.len]
 rw [hl]
 refine ⟨fun hi=>⟨(q.1 hi).1,fun v mP y=>?_⟩,q.2⟩
 obtain ⟨t,p,ht,rfl,hp,rfl⟩:=(q.1 hi).2 v mP y
 rw [AC] at hp
 obtain ⟨d,hd,rd⟩:=r.get' hp.1
 obtain ⟨e,he,re⟩:=r2.get' hp.2
 have x2:=Ex.lay m ht (.tup [p.1,p.2])
 refine ⟨x2,.tup [d,e],?_,kD (m.fz ht) ay (.cons (((rd.bx bx).ey x).ex x2) (.cons (((re.bx bx).ey x).ex x2) .nil))⟩
 unfold eU
 rw [ca,li]
 exact ⟨(d,e),by rw [AC];exact ⟨hd,he⟩,rfl⟩
theorem enum_zip (vs:List V):((l9 vs.length).map fun i=>(V.int (i:Nat),vs.getD i .av))=((l9 vs.length).map fun i=>V.int (i:Nat)).zip vs :=by
 refine VW fun i=>?_
 by_cases hi:i<vs.length
 ·rw [ca,AE hi]
  symm
  show _=some (V.int (i:Nat),vs.getD i .av)
  rw [AC,ca,AE hi,ce,ag hi]
  exact ⟨rfl,rfl⟩
 ·rw [List.getElem?_eq_none_iff.mpr (by simp;omega),List.getElem?_eq_none_iff.mpr (by simp;omega)]
theorem qU {n:Nat} {M:Mh} {H:Hp}:aG β M H ((l9 n).map fun i=>V.int (i:Nat)) (iB n):=⟨by simp [iB],fun i v d a b=>by
 unfold iB at b
 rw [ca] at a b
 cases e:(l9 n)[i]? with
 |none=>rw [e] at a;cases a
 |some c=>rw [e] at a b;cases a;cases b;exact .int _⟩
theorem Sq.O7 {H:Hp} {a:ac} {xs:List V} (h:H a=some (.lst xs)):Sq true K H a xs :=by
 unfold Sq
 exact bN.of h
theorem Sq.ofT {H:Hp} {a:ac} {xs:List V} (h:H a=some (.tup xs)):Sq false K H a xs :=by
 unfold Sq
 exact cM.of h
section
variable {elts:List cr} {x1:Nat} {tp p pos:ul} {l l1 l2:cr} {pl p1 p2:aI}
def ziEnumK (k:Bool) (p:aI):fm:=fun ρ M R=>p ρ M fun d M1=>match k,d with|false,.tup ds=>R (eU (iB ds.length) ds) M1|true,.lst ds=>R (eU (iB ds.length) ds) M1|_,_=>False
theorem G8 (k:Bool) (hK:X.K=K) (hg:Gl X "enumerate") (hm:X.mg "enumerate" = none) (hl:QE Γ X l pl) (hs:starEach [l] X.env=[(false,eval l X.env)] :=by rfl) :
  QI Γ X (.Tuple elts x1 tp) (.Call (.Name "enumerate" p) [l] [] pos) (ziEnumK k pl):=(GU k hK hg hm hl hs).imp fun σ H R ⟨β,ρ,M,R',zr,h,q⟩=>⟨β,ρ,M,_,zr,h,fun d M1 v H1 x1 r1 h1=>by
 revert h1
 split
 ·intro h1
  obtain ⟨a,vs,rfl,f,e,rs⟩:=cZ r1
  refine ⟨a,rfl,⟨vs,Sq.ofT e⟩,q _ _ _ _ x1 ?_ h1⟩
  rw [<- rs.len]
  exact sC qU rs fun M' H' x=>by rw [<- enum_zip];exact si (Sq.ofT (x.get f.1 e rfl))
 ·intro h1
  obtain ⟨a,vs,rfl,f,e,rs⟩:=f9 r1
  refine ⟨a,rfl,⟨vs,Sq.O7 e⟩,q _ _ _ _ x1 ?_ h1⟩
  rw [<- rs.len]
  exact sC qU rs fun M' H' x=>by rw [<- enum_zip];exact si (Sq.O7 (x.get f.1 e rfl))
 ·exact fun h=>h.elim⟩
end
def zRangeP (p:aI):aI:=fun ρ M Q=>p ρ M fun d M1=>match d with | .int j => -(2 ^ 24)<=j/\j<=2 ^ 24/\∀a,M1 a=none->Q (.ptr a) (az M1 a (.lst (iB j.toNat)))|_=>False
section
variable {e:cr} {pe:aI} {p p1 p2 pos:ul}
theorem tm (hc:X.calm=true) (hg:Gl X "list") (hm:X.mg "list" = none) (Jz:Gl X "range") (JA:X.mg "range" = none) (he:QE Γ X e pe) (hs:starEach [e] X.env=[(false,eval e X.env)] :=by rfl) :
  QE Γ X (.Call (.Name "list" p) [.Call (.Name "range" p1) [e] [] p2] [] pos) (zRangeP pe):=(uD hc hg hm Jz JA he hs).imp fun σ H Q ⟨β,ρ,M,Q',zr,h,q⟩=>⟨β,ρ,M,_,zr,h,fun d M1 v H1 x1 r1 h1=>by
 revert h1
 split
 ·rename_i j
  rintro ⟨b1,b2,h1⟩
  refine ⟨_,aN r1,b1,b2,fun l hl=>?_⟩
  have x2:=Ex.own x1.mz (.inr hl) (qU (n:=j.toNat) (β:=β) (M:=M1) (H:=H1))
  exact q _ _ _ _ (x1.trans x2) (.ptr (by rw [updM_same];rfl)) (h1 l (x1.mz.free hl))
 ·exact fun h=>h.elim⟩
def truD (M:Mh):Dv->Option Bool
 | .bl b=>some b
 | .av=>some false
 | .int i=>some (i != 0)
 | .str z=>if z.length<=sizeLine then some ((z.length:Int) != 0) else none
 | .tup ds=>some (!ds.isEmpty)
 | .lst ds=>some (!ds.isEmpty)
 | .ptr a=>match M a with|some (.lst ds)=>some (!ds.isEmpty)|_=>none
 |_=>none
def zTruth (p:aI):cU:=fun ρ M Q=>p ρ M fun d M1=>match truD M1 d with|some b=>Q b M1|none=>False
theorem aG.isEmpty {M:Mh} {H:Hp} {vs:List V} {ds:List Dv} (h:aG β M H vs ds):vs.isEmpty=ds.isEmpty :=by
 have:=h.len
 cases vs <;> cases ds <;> simp_all
theorem G9 {M:Mh} {H:Hp} {v:V} {d:Dv} {b:Bool} (m:Mz β M H) (r:Rz β M H v d) (h:truD M d=some b):C9 K v H b :=by
 cases r with
 |int i=>cases h;exact rfl
 |bl i=>cases h;exact rfl
 |av=>cases h;exact rfl
 |str z=>
  simp only [truD] at h
  split at h
  ·rename_i hz
   cases h
   exact ⟨hz,rfl⟩
  ·cases h
 |tup f e hl q=>cases h;exact .inr (.inl ⟨_,cM.of e,by rw [aG.isEmpty ⟨hl,q⟩]⟩)
 |lst f e hl q=>cases h;exact .inl ⟨_,bN.of e,by rw [aG.isEmpty ⟨hl,q⟩]⟩
 |ptr hs=>
  simp only [truD] at h
  split at h
  ·rename_i ds sy
   cases h
   obtain ⟨vs,hv,rs⟩:=m.obj _ _ sy
   exact .inl ⟨_,bN.of hv,by rw [rs.isEmpty]⟩
  ·cases h
 |set f e=>cases h
 |exc f e=>cases h
 |bC f e=>cases h
 |cu f e=>cases h
 |cw e=>cases h
 |raw v=>cases h
 |dk f e _ _ _=>cases h
 |dt f e _ _ _=>cases h
 |bP _ _ _ _ _ _=>cases h
theorem D3 (ha:QE Γ X e pe) (he:∀whole,isTrue e X.env whole=(do let v <- whole;standAt e.pos;holding [v] (truthy v)) :=by intro _;rfl):QT Γ X e (zTruth pe):=(Dc ha he).imp fun σ H Q ⟨β,ρ,M,Q',zr,h,q⟩=>⟨β,ρ,M,_,zr,h,fun d M1 v H1 x1 r1 h1=>by
 revert h1
 split
 ·rename_i b hb
  intro h1
  exact ⟨b,G9 x1.mz r1 hb,q _ _ _ x1 h1⟩
 ·exact fun h=>h.elim⟩
end
theorem qv (i:Nat) {x:bi} {pos:ul} (hN:X.N[i]?=some x :=by rfl) (hv:o9 X.env.scope x :=by first|exact l8 rfl|exact ES (l8 rfl)|exact ES (ES rfl)) (hd:(x==("__debug__" : bi))=false :=by decide)
  (dG:(x==("__classdict__" : bi))=false :=by decide):QE Γ X (.Name x pos) (zVar i):=Kg hN hv hd dG
end
theorem Sy {c:Bool} {A B:Prop} (h:c=true) (a:A):if c=true then A else B :=by rw [if_pos h];exact a
theorem Sz {c:Bool} {A B:Prop} (h:c=false) (b:B):if c=true then A else B :=by rw [h,if_neg io];exact b
theorem eE {c:Bool} {A B:Prop} (h1:c=true->A) (h2:c=false->B):if c=true then A else B :=by
 cases c
 ·exact Sz rfl (h2 rfl)
 ·exact Sy rfl (h1 rfl)
theorem nO {g:cO} {te:aI} {M:Mh} (p:Dv->Bool) (I:aA->Prop):∀{ds:List Dv} {τ:aA} {Q:Bool->Mh->Prop},I τ->(∀d∈ds,∀τ,I τ->∀R:aA->ZK,(∀aC,I aC->R aC (.bl (p d)) M)->g d τ M fun aC M2=>te aC M2 (R aC))->Q (ds.all p) M->jX g zNoIf te ds τ M Q
 | [],τ,Q,_,_,q=>q
 |d::ds,τ,Q,i,h,q=>by
          refine h d jp τ i (fun aC=>zBool fun c M4=>if c=false then Q false M4 else jX g zNoIf te ds aC M4 Q) fun aC i2=>?_
          show if p d=false then Q false M else jX g zNoIf te ds aC M Q
          cases e:p d with
          |false=>
           rw [if_pos rfl]
           rw [List.all_cons,e] at q
           exact q
          |true=>
           rw [if_neg (by decide)]
           rw [List.all_cons,e,U0] at q
           exact nO p I i2 (fun d' hd=>h d' (gl _ hd)) q
theorem nQ {g:cO} {te:aI} (f:Dv->Dv) (I:aA->Mh->Prop):∀{ds:List Dv} {τ:aA} {M:Mh} {Q:List Dv->Mh->Prop},I τ M->(∀d∈ds,∀τ M,I τ M->∀R:aA->ZK,(∀aC M2,I aC M2->R aC (f d) M2)->g d τ M fun aC M2=>te aC M2 (R aC))->(∀τ M,I τ M->Q (ds.map f) M)->ft g zNoIf te ds τ M Q
 | [],τ,M,Q,i,_,q=>q τ M i
 |d::ds,τ,M,Q,i,h,q=>by
          refine h d jp τ M i (fun aC y M4=>ft g zNoIf te ds aC M4 fun ys M5=>Q (y::ys) M5) fun aC M2 i2=>?_
          exact nQ f I i2 (fun d' hd=>h d' (gl _ hd)) fun oy M3 i3=>q oy M3 i3
theorem qV {g:cO} {tt:cU} {te:aI} (t:Dv->Bool) (f:Dv->Dv) (I:aA->Mh->Prop):∀{ds:List Dv} {τ:aA} {M:Mh} {Q:List Dv->Mh->Prop},I τ M->
  (∀d∈ds,∀τ M,I τ M->∀(R0:aA->Mh->Prop) (R:aA->ZK),(t d=true->∀aC M2,I aC M2->R aC (f d) M2)->(t d=false->∀aC M2,I aC M2->R0 aC M2)->g d τ M fun aC M2=>tt aC M2 fun b M3=>if b=true then te aC M3 (R aC) else R0 aC M3)->
  (∀τ M,I τ M->Q ((ds.filter t).map f) M)->ft g tt te ds τ M Q
 | [],τ,M,Q,i,_,q=>q τ M i
 |d::ds,τ,M,Q,i,h,q=>by
          refine h d jp τ M i (fun aC M3=>ft g tt te ds aC M3 Q) (fun aC y M4=>ft g tt te ds aC M4 fun ys M5=>Q (y::ys) M5) (fun e aC M2 i2=>?_) fun e aC M2 i2=>?_
          ·refine qV t f I i2 (fun d' hd=>h d' (gl _ hd)) fun oy M3 i3=>?_
           have:=q oy M3 i3
           rw [NO,if_pos e] at this
           exact this
          ·refine qV t f I i2 (fun d' hd=>h d' (gl _ hd)) fun oy M3 i3=>?_
           have:=q oy M3 i3
           rw [NO,if_neg (by rw [e];decide)] at this
           exact this
abbrev eI (ns:List Int):Dv:=.tup (ns.map .int)
abbrev eN (net:List (List Int)):Dv:=.tup (net.map eI)
abbrev j1 (ns:List Int):Dv:=.lst (ns.map .int)
theorem vj:∀ns:List Int,jZ (ns.map Dv.int)=some (ns.map Dt.int)
 | []=>rfl
 |n::ns=>by simp only [wv,jZ,cj,vj ns]
theorem vk {n:Nat}:∀{ds:List Dt},(∀d∈ds,iH d<=n)->fq ds<=n
 | [],_=>by rw [fq];exact qr _
 |d::ds,h=>by
          rw [fq]
          exact Nat.max_le.mpr ⟨h d jp,vk fun d' hd=>h d' (gl _ hd)⟩
theorem Ha (ns:List Int):fq (ns.map Dt.int)<=0:=vk fun d hd=>by
 obtain ⟨i,_,rfl⟩:=sw.mp hd
 exact cb _
theorem jv {M:Mh} (ns:List Int):∀d∈ns.map Dv.int,Pin M d:=fun d hd=>by
 obtain ⟨i,_,rfl⟩:=sw.mp hd
 exact .int i
theorem Kz {M:Mh} (ns:List Int):Pin M (eI ns):=.tup (jv ns)
theorem KA {M:Mh} (net:List (List Int)):Pin M (eN net):=.tup fun d hd=>by
 obtain ⟨r,_,rfl⟩:=sw.mp hd
 exact Kz r
theorem Hb {α β:Type} {f:α->β} {xs:List α} {i:Int} {x:α} (h:cf xs i=some x):cf (xs.map f) i=some (f x) :=by
 unfold cf at h ⊢
 rw [ci]
 cases e:gh xs.length i with
 |none=>rw [e] at h;cases h
 |some j=>rw [e] at h;simp only [V8] at h ⊢;rw [ca,h];rfl
theorem Bt {α:Type} {xs:List α} {k:Nat} (h:k<xs.length):cf xs ((k:Nat):Int)=some xs[k]:=ck (ag h)
def spLaw (K:ba) (tb:b5):Sp:=fun vs H Q _=>∃(a:ac) (ns:List Int),vs=[.ref a]/\bN K H a (ns.map V.int)/\ns.length<=63/\Fi tb.g H/\(∀p∈tb.l,Lm H p)/\∀H',(∀p∈tb.l,∃ps,H' p.1=some (.lam ps))->Q (.bl true) H'
def KC:bV:=fun ds M Q _=>∃ns:List Int,ds=[.bC ns]/\ns.length<=63/\(∀a,M a=none)/\∀M',Q (.bl true) M'
theorem KD {P:c8} {w:ff} {K:ba} {mg:bi->Option al} {base:gc} {k:Nat} {f:ac} {fd:i0} {x:bi} {tb:b5} (G:FnOk P w K mg base bq k f fd [x] (aR P w K tb KC)):FnOk P w K mg base bq k f fd [x] (spLaw K tb):=
 G.imp fun vs H Q E ⟨a,ns,e,hS,hl,hT,hL,q⟩=>by
  subst e
  have m:Mz ⟨P,w,K,tb,[]⟩ (fun _=>none) H:=⟨(fun a o e=>nomatch e),hT,(fun a ha=>absurd ha (by simp)),(fun a o e=>nomatch e),hL⟩
  refine ⟨⟨P,w,K,tb,[]⟩,[.bC ns],fun _=>none,fun d _=>d=.bl true,fun _ _=>False,rfl,rfl,rfl,rfl,m,.cons ?_ .nil,⟨ns,rfl,hl,fun _=>rfl,fun _=>rfl⟩,fun d M' v H' x r h=>?_,fun _ _ _ _ h=>h.elim⟩
  ·have fz:Fz ⟨P,w,K,tb,[]⟩ (fun _=>none) a:=⟨rfl,by simp⟩
   rcases hS with (h|⟨o,h⟩)|h
   ·exact .cu fz h
   ·exact .bC fz h
   ·exact .cw h
  ·subst h
   rw [dA r]
   exact q H' fun p hp=>let ⟨ps,e,_⟩:=x.mz.lams p hp;⟨ps,e⟩
def Keeps (M0 M:Mh):Prop:=∀a o,M0 a=some o->M a=some o
theorem Keeps.refl {M0:Mh}:Keeps M0 M0:=fun _ _ h=>h
theorem Keeps.upd {M0 M:Mh} {a:ac} {o:Mo} (ha:M0 a=none) (h:Keeps M0 M):Keeps M0 (az M a o):=fun b u e=>by
 rw [ak (fun z=>by rw [z,ha] at e;cases e)]
 exact h b u e
theorem Bu {M0 M:Mh} {Q:ZK} {d:Dv} (h:Keeps M0 M) (p:Pin M0 d) (q:Q d M0):ju M0 Q d M:=.inr ⟨h,d,.pin p,q⟩
theorem Bv {M0 M:Mh} {Q:ZK} {a:ac} {ds:List Dv} (h:Keeps M0 M) (h0:M0 a=none) (ha:M a=some (.lst ds)) (p:∀d∈ds,Pin M0 d) (q:Q (.lst ds) M0):ju M0 Q (.ptr a) M:=.inr ⟨h,.lst ds,.ptr h0 ha rfl fun i d d' e e'=>by
 rw [e] at e'
 cases e'
 exact .pin (p d (ii e)),q⟩
theorem bA {lo:Int} {n i:Nat} {d:Dv} (h:(bT lo n)[i]?=some d):d=.int (lo+(i:Nat))/\i<n :=by
 unfold bT at h
 rw [ca] at h
 cases e:(l9 n)[i]? with
 |none=>rw [e] at h;cases h
 |some k=>
  rw [e] at h
  obtain ⟨h1,h2⟩:=bv.mp e
  rw [List.getElem_range] at h2
  subst h2
  exact ⟨(ij h).symm,by simpa using h1⟩
theorem qf {lo:Int} {n:Nat} {d:Dv} (h:d∈bT lo n):∃i:Nat,i<n/\d=.int (lo+(i:Nat)) :=by
 obtain ⟨i,hi⟩:=mo.mp h
 obtain ⟨e,l⟩:=bA hi
 exact ⟨i,l,e⟩
theorem rangeD_len (lo:Int) (n:Nat):(bT lo n).length=n :=by simp [bT]
theorem lu {tt:cU} (t:Dv->Bool) {τ:aA}:∀{ds:List Dv} {x:Option Dv} {M:Mh} {Q:List Dv->Mh->Prop},(∀d∈ds,∀R:Bool->Mh->Prop,R (t d) M->tt (some d::τ) M R)->Q (ds.filter t) M->ft (zgName 0) tt (zVar 0) ds (x::τ) M Q
 | [],x,M,Q,_,q=>q
 |d::ds,x,M,Q,h,q=>by
          refine h d jp _ ?_
          cases e:t d with
          |true=>
           rw [NO,if_pos e] at q
           exact lu t (Q:=fun ys M5=>Q (d::ys) M5) (fun d' hd=>h d' (gl _ hd)) q
          |false=>
           rw [NO,if_neg (by rw [e];decide)] at q
           exact lu t (fun d' hd=>h d' (gl _ hd)) q
theorem Bw {xs ys:List Dv} {k:Nat} {d:Dv} (h:(eU xs ys)[k]?=some d):∃x y,d=.tup [x,y]/\xs[k]?=some x/\ys[k]?=some y :=by
 unfold eU at h
 rw [ca,li] at h
 obtain ⟨p,h,rfl⟩:=h
 rw [AC] at h
 exact ⟨p.1,p.2,rfl,h.1,h.2⟩
theorem Hc {n k:Nat} {d:Dv} (h:(iB n)[k]?=some d):d=.int (k:Nat)/\k<n :=by
 unfold iB at h
 rw [ca] at h
 cases e:(l9 n)[k]? with
 |none=>rw [e] at h;cases h
 |some j=>
  rw [e] at h
  obtain ⟨h1,h2⟩:=bv.mp e
  rw [List.getElem_range] at h2
  subst h2
  exact ⟨(ij h).symm,by simpa using h1⟩
theorem atI_zero {α:Type} {x:α} {xs:List α}:cf (x::xs) 0=some x:=ck (j:=0) rfl
theorem KG {α:Type} {f:α->Dv} {xs:List α} {k:Nat} {d:Dv} (h:(xs.map f)[k]?=some d):∃x,xs[k]?=some x/\d=f x :=by
 rw [ca,li] at h
 obtain ⟨x,h,e⟩:=h
 exact ⟨x,h,e.symm⟩
theorem pairsD_len (xs ys:List Dv):(eU xs ys).length=min xs.length ys.length :=by simp [eU]
theorem numD_len (n:Nat):(iB n).length=n :=by simp [iB]
end L2
namespace L2
open PySem PySem.Spec PyProof.Rows
def vm (N:List bi) (sc scope:wn) (N':List bi) (tn:Nat) (idx:List Nat):Prop:=
 scope.kind=.function/\(∀y∈scope.names,(y.2=.cell->scope.names.lookup y.1=some .cell)/\(y.2=.local->scope.names.lookup y.1=some .local)/\(y.2=.free->sc.names.lookup y.1=some .cell\/sc.names.lookup y.1=some .free)) /\
  N'.length=tn+idx.length/\∀p∈idx.zip (N'.drop tn),N[p.1]?=some p.2/\scope.names.lookup p.2=some .free
instance (N:List bi) (sc scope:wn) (N':List bi) (tn:Nat) (idx:List Nat):Decidable (vm N sc scope N' tn idx) :=by unfold vm;infer_instance
end L2
namespace L2
open PySem PySem.Spec PySem.W PyProof.Rows
section
variable {X:Cx} {Γ:Gz} {β:Bz} {K:ba}
theorem Pin.mono {M M':Mh} {d:Dv} (h:Pin M d):(∀a,(M a).isSome=true->(M' a).isSome=true)->Pin M' d :=by
 intro k
 induction h with
 |int i=>exact .int i
 |bl b=>exact .bl b
 |av=>exact .av
 |str z=>exact .str z
 |tup h ih=>exact .tup ih
 |lst h ih=>exact .lst ih
 |dk h ih=>exact .dk ih
 |dt h ih=>exact .dt ih
 |bP h ih=>exact .bP ih
 |set ns=>exact .set ns
 |ptr h=>exact .ptr (k _ h)
 |exc C=>exact .exc C
 |bC ns=>exact .bC ns
 |raw v=>exact .raw v
def dm (M:Mh) (a:ac):Mh:=fun b=>if b=a then none else M b
theorem dZ {M:Mh} {a:ac}:dm M a a=none :=by unfold dm;rw [if_pos rfl]
theorem cT {M:Mh} {a b:ac} (h:b≠a):dm M a b=M b :=by unfold dm;rw [if_neg h]
structure KH (M1 M:Mh) (ρ:aA):Prop where
 env:∀(i:Nat) (d:Dv),ρ[i]?=some (some d)->Pin M d
 obj:∀b o,M b=some o->M1 b=some o\/∀d∈o.items,Pin M d
theorem Zr.freeze {M:Mh} {ρ:aA} {σ:St} {H:Hp} {i:Nat} {a:ac} {ds:List Dv} (z:Zr Γ β M ρ σ H) (hi:ρ[i]?=some (some (.ptr a))) (ha:M a=some (.lst ds)) (h0:Γ.M0 a=none) (fr:KH Γ.M0 (dm M a) (ρ.set i (some (.lst ds)))) :
  Zr Γ β (dm M a) (ρ.set i (some (.lst ds))) σ H/\Ev β M H (dm M a) H :=by
 have rz:∀{v:V} {d:Dv},Rz β M H v d->Pin (dm M a) d->Rz β (dm M a) H v d:=fun r p=>r.nM (M0:=dm M a) (fun b hb=>by
  by_cases e:b=a
  ·rw [e,dZ] at hb;cases hb
  ·rw [cT e] at hb;exact hb) p
 have iF:i<ρ.length:=(bv.mp hi).1
 have SA:∀d∈ds,Pin (dm M a) d:=fun d hd=>by
  have:=fr.env i (.lst ds) (by rw [UX iF])
  cases this with|lst h=>exact h d hd
 have obj:∀b es,dm M a b=some es->∀d∈es.items,Pin (dm M a) d:=fun b es e d hd=>by
  rcases fr.obj b es e with q|q
  ·refine (z.wf b es q d hd).mono fun c hc=>?_
   have nc:c≠a:=fun w=>by rw [w,h0] at hc;cases hc
   rw [cT nc]
   exact z.ent.dom c hc
  ·exact q d hd
 have mz:Mz β (dm M a) H :=by
  refine ⟨fun b o e=>?_,z.mz.tabs,z.mz.hids,fun b o e=>?_,z.mz.lams⟩
  ·have nb:b≠a:=fun q=>by rw [q,dZ] at e;cases e
   have e':M b=some o :=by rw [cT nb] at e;exact e
   have q:=z.mz.obj b o e'
   cases o with
   |lst es=>obtain ⟨vs,hv,rs⟩:=q;exact ⟨vs,hv,rs.len,fun j v d x y=>rz (rs.at' j v d x y) (obj b _ e d (ii y))⟩
   |dk ks es=>obtain ⟨vs,hv,hk,rs⟩:=q;exact ⟨vs,hv,hk,rs.len,fun j v d x y=>rz (rs.at' j v d x y) (obj b _ e d (ii y))⟩
   |dt ks es=>obtain ⟨vs,hv,hk,rs⟩:=q;exact ⟨vs,hv,hk,rs.len,fun j v d x y=>rz (rs.at' j v d x y) (obj b _ e d (ii y))⟩
   |cI=>exact q
  ·have nb:b≠a:=fun q=>by rw [q,dZ] at e;cases e
   rw [cT nb] at e
   exact z.mz.apart b o e
 refine ⟨⟨z.eP,z.ew,z.eK,z.et,z.sub,z.wf,⟨z.ent.keep,fun b hb=>?_,fun b o m h=>?_⟩,mz,by simp [z.len],fun j d e=>?_⟩,⟨fun b o _ h=>.inl h,fun b o m h=>?_,mz⟩⟩
 ·have nb:b≠a:=fun q=>by rw [q,h0] at hb;cases hb
  rw [cT nb];exact z.ent.dom b hb
 ·by_cases e:b=a
  ·rw [e,dZ]
  ·rw [cT e];exact z.ent.new b o m h
 ·have p:=fr.env j d e
  rw [VX] at e
  split at e
  ·rename_i q
   subst q
   first
    |cases e
    |(rw [if_pos iF] at e;cases e)
   obtain ⟨v,hv,r⟩:=z.at' i _ hi
   obtain ⟨rfl,_⟩:=bZ r
   obtain ⟨vs,hl,rs⟩:=z.mz.obj a _ ha
   refine ⟨_,hv,.lst ⟨dZ,z.mz.apart a _ ha⟩ hl rs.len fun k v d x y=>rz (rs.at' k v d x y) (SA d (ii y))⟩
  ·obtain ⟨v,hv,r⟩:=z.at' j d e
   exact ⟨v,hv,rz r p⟩
 ·by_cases e:b=a
  ·rw [e,dZ]
  ·rw [cT e];exact m
def QV (i:Nat) (M0:Mh) (p:cp):cp:=fun D ρ M=>p D ρ M\/∃a ds,ρ[i]?=some (some (.ptr a))/\M a=some (.lst ds)/\M0 a=none/\KH M0 (dm M a) (ρ.set i (some (.lst ds)))/\p D (ρ.set i (some (.lst ds))) (dm M a)
theorem KI (i:Nat) {M1:Mh} {st:mv} {p:cp} (hM:Γ.M0=M1) (h:QS Γ X st p):QS Γ X st (QV i M1 p):=h.imp fun D σ H ⟨β,ρ,M,D',zr,h,r⟩=>by
 rcases h with h|⟨a,ds,hi,ha,h0,fr,h⟩
 ·exact ⟨β,ρ,M,D',zr,h,r⟩
 ·obtain ⟨z2,e2⟩:=zr.freeze hi ha (by rw [hM];exact h0) (by rw [hM];exact fr)
  exact ⟨β,_,_,D',z2,h,r.step e2⟩
end
end L2
namespace L2
open PySem PySem.Spec PyProof.Rows
section
variable {κ:Type} [DecidableEq κ] {α:Type}
def look:List κ->List α->κ->Option α
 |k::ks,d::ds,x=>if k=x then some d else look ks ds x
 |_,_,_=>none
def g5:List κ->List α->κ->α->List α
 |k::ks,d::ds,x,y=>(if k=x then y else d)::g5 ks ds x y
 |_,_,_,_=>[]
def putL (ks:List κ) (k:κ):List κ:=if k∈ks then ks else ks++[k]
def fO (ks:List κ) (ds:List α) (k:κ) (d:α):List α:=if k∈ks then g5 ks ds k d else ds++[d]
theorem iq {x:κ}:∀{ks:List κ} {ds:List α},ks.length=ds.length->(look ks ds x=none ↔ x ∉ ks)
 | [],[],_=>by simp [look]
 |k::ks,d::ds,h=>by
          have ih:=iq (x:=x) (ks:=ks) (ds:=ds) (by simpa using h)
          unfold look
          by_cases e:k=x
          ·simp [e]
          ·rw [if_neg e,ih,l3]
           constructor
           ·rintro a (b|b)
            ·exact e b.symm
            ·exact a b
           ·exact fun a b=>a (.inr b)
 | [],_::_,h=>by simp at h
 |_::_,[],h=>by simp at h
theorem oS (x:κ):∀(ks:List κ) (vs:List V),iA (ks.zip vs) x=look ks vs x
 | [],vs=>by cases vs <;> rfl
 |_::_,[]=>rfl
 |k::ks,v::vs=>by
          rw [Pc]
          unfold look
          by_cases e:k=x
          ·rw [if_pos e];exact k8 (p:=(k,v)) e
          ·rw [if_neg e,k9 (p:=(k,v)) e];exact oS x ks vs
theorem vn (x:κ):∀(ks:List κ) (ds:List α) {d:α},look ks ds x=some d->∃i:Nat,ks[i]?=some x/\ds[i]?=some d/\∀{β:Type} (es:List β),look ks es x=es[i]?
 | [],ds,d,h=>by cases ds <;> cases h
 |_::_,[],d,h=>by cases h
 |k::ks,e::ds,d,h=>by
          unfold look at h
          by_cases q:k=x
          ·rw [if_pos q] at h
           cases h
           refine ⟨0,by rw [q];rfl,rfl,fun es=>?_⟩
           cases es with
           |nil=>rfl
           |cons a es=>unfold look;rw [if_pos q];rfl
          ·rw [if_neg q] at h
           obtain ⟨i,a,b,c⟩:=vn x ks ds h
           refine ⟨i+1,a,b,fun es=>?_⟩
           cases es with
           |nil=>rfl
           |cons y es=>unfold look;rw [if_neg q,c es];rfl
theorem mY (x:κ):∀(ks:List κ) (ds:List α) {β:Type} (es:List β),ds.length=es.length->look ks ds x=none->look ks es x=none
 | [],ds,_,es,_,_=>by cases es <;> rfl
 |_::_,[],_,es,h,_=>by cases es with
  |nil=>rfl
  |cons _ _=>simp at h
 |k::ks,d::ds,_,[],h,_=>by simp at h
 |k::ks,d::ds,_,e::es,h,q=>by
          unfold look at q ⊢
          by_cases z:k=x
          ·rw [if_pos z] at q;cases q
          ·rw [if_neg z] at q ⊢
           exact mY x ks ds es (by simpa using h) q
theorem sD (x:κ) (y:α):∀(ks:List κ) (ds:List α),ks.length=ds.length->(g5 ks ds x y).length=ds.length
 | [],[],_=>rfl
 |k::ks,d::ds,h=>by unfold g5;rw [Fa,sD x y ks ds (by simpa using h)];rfl
 | [],_::_,h=>by simp at h
 |_::_,[],h=>by simp at h
theorem vo {ks:List κ} {ds:List α} (h:ks.length=ds.length) (k:κ) (d:α):(putL ks k).length=(fO ks ds k d).length :=by
 unfold putL fO
 split
 ·rw [sD _ _ _ _ h,h]
 ·simp [h]
theorem sE (x:κ) (y:V):∀(ks:List κ) (vs:List V),ks.length=vs.length->(ks.zip vs).map (fun kv=>if kv.1=x then (kv.1,y) else kv)=ks.zip (g5 ks vs x y)
 | [],[],_=>rfl
 |k::ks,d::ds,h=>by
          unfold g5
          rw [Pc,Pc,wv,sE x y ks ds (by simpa using h)]
          congr 1
          dsimp only
          split <;> rfl
 | [],_::_,h=>by simp at h
 |_::_,[],h=>by simp at h
theorem xO {ks:List κ} {vs:List V} (h:ks.length=vs.length) (k:κ) (v:V):putK (ks.zip vs) k v=(putL ks k).zip (fO ks vs k v) :=by
 have e:((ks.zip vs).any fun kv=>decide (kv.1=k))=decide (k∈ks) :=by
  rw [oK,oS]
  cases q:look ks vs k with
  |none=>exact (decide_eq_false ((iq h).mp q)).symm
  |some x=>
   have hm:k∈ks:=Na fun z=>by rw [(iq h).mpr z] at q;cases q
   rw [decide_eq_true hm];rfl
 unfold putK putL fO
 rw [e]
 by_cases q:k∈ks
 ·rw [if_pos (decide_eq_true q),if_pos q,if_pos q]
  exact sE k v ks vs h
 ·rw [if_neg (by rw [decide_eq_false q];exact io),if_neg q,if_neg q,List.zip_append h]
  rfl
end
section
variable {β:Bz} {M:Mh} {H:Hp} {κ:Type} [DecidableEq κ]
theorem sF (x:κ) {v:V} {d:Dv} (r:Rz β M H v d):∀(ks:List κ) (vs:List V) (ds:List Dv),aG β M H vs ds->aG β M H (g5 ks vs x v) (g5 ks ds x d)
 | [],_,_,_=>by
          unfold g5;exact .nil
 |_::_,[],[],_=>.nil
 |_::_,[],_::_,h=>absurd h.len (by simp)
 |_::_,_::_,[],h=>absurd h.len (by simp)
 |k::ks,u::vs,e::ds,h=>by
          unfold g5
          refine .cons ?_ (sF x r ks vs ds h.tail)
          split
          ·exact r
          ·exact h.head
theorem vp (x:κ) {v:V} {d:Dv} (r:Rz β M H v d) {ks:List κ} {vs:List V} {ds:List Dv} (h:aG β M H vs ds):aG β M H (fO ks vs x v) (fO ks ds x d) :=by
 unfold fO
 split
 ·exact sF x r ks vs ds h
 ·exact h.snoc r
theorem vq {ks:List κ} {vs:List V} {ds:List Dv} (rs:aG β M H vs ds) {x:κ} {o:Option Dv} (h:look ks ds x=o):∃ov,iA (ks.zip vs) x=ov/\ov.isSome=o.isSome/\∀r,o=some r->∃v,ov=some v/\Rz β M H v r :=by
 rw [oS]
 cases o with
 |none=>exact ⟨none,mY x ks ds vs rs.len.symm h,rfl,fun r e=>nomatch e⟩
 |some r=>
  obtain ⟨i,a,b,c⟩:=vn x ks ds h
  obtain ⟨v,hv,rv⟩:=rs.get b
  exact ⟨some v,(c vs).trans hv,rfl,fun r' e=>by cases e;exact ⟨v,rfl,rv⟩⟩
end
def keyD:Dv->Option Key
 | .int i=>some (.inl i)
 | .str z=>some (.inr z)
 |_=>none
def nR:List Dv->Option (List Key)
 | []=>some []
 |d::ds=>match keyD d,nR ds with|some k,some ks=>some (k::ks)|_,_=>none
def nowK (M:Mh):Dv->Dv
 | .ptr a=>match M a with|some (.dk ks ds)=>.dk ks ds|some (.dt ks ds)=>.dt ks ds|_=>.ptr a
 |d=>d
def lookD (M:Mh) (d e:Dv):Option (Option Dv):=match nowK M d with
 | .dk ks ds=>(match keyD e with|some k=>some (look ks ds k)|none=>none)
 | .dt ks ds=>(match e with | .tup es=>(match nR es with|some k=>some (look ks ds k)|none=>none)|_=>none)
 |_=>none
section
variable {X:Cx} {Γ:Gz} {β:Bz} {K:ba} {M:Mh} {H:Hp}
theorem nS {y:V} {e:Dv} {k:Key} (r:Rz β M H y e) (h:keyD e=some k):y=kV k :=by
 cases e with
 |int i=>cases h;exact aN r
 |str z=>cases h;exact bE r
 |_=>cases h
theorem lx:∀{es:List Dv} {ks:List Key} {vs:List V},aG β M H vs es->nR es=some ks->vs=ks.map kV
 | [],ks,vs,rs,h=>by
          cases h
          cases vs with
          |nil=>rfl
          |cons _ _=>exact absurd rs.len (by simp)
 |e::es,ks,[],rs,h=>absurd rs.len (by simp)
 |e::es,ks,v::vs,rs,h=>by
          unfold nR at h
          split at h
          ·rename_i k O8 h1 h2
           cases h
           rw [wv,nS rs.head h1,lx rs.tail h2]
          ·cases h
theorem xP (m:Mz β M H) {x:V} {d:Dv} (r:Rz β M H x d):(∀ks ds,nowK M d=.dk ks ds->∃a vs,x=.ref a/\Rd H a (.dK (ks.zip vs))/\ks.length=vs.length/\aG β M H vs ds) /\
  (∀ks ds,nowK M d=.dt ks ds->∃a vs,x=.ref a/\Rd H a (.dT (ks.zip vs))/\ks.length=vs.length/\aG β M H vs ds) :=by
 cases r with
 |dk f e hk hl h=>exact ⟨fun ks ds q=>(by cases q;exact ⟨_,_,rfl,e,hk,hl,h⟩),fun ks ds q=>by cases q⟩
 |dt f e hk hl h=>exact ⟨fun ks ds q=>(by cases q),fun ks ds q=>by cases q;exact ⟨_,_,rfl,e,hk,hl,h⟩⟩
 | @ptr a hs=>
  simp only [nowK]
  cases q2:M a with
  |none=>rw [q2] at hs;cases hs
  |some o=>
   have q:=m.obj a o q2
   cases o with
   |dk ks ds=>obtain ⟨vs,e,hk,rs⟩:=q;exact ⟨fun ks ds q=>(by cases q;exact ⟨_,_,rfl,.inl e,hk,rs⟩),fun ks ds q=>by cases q⟩
   |dt ks ds=>obtain ⟨vs,e,hk,rs⟩:=q;exact ⟨fun ks ds q=>(by cases q),fun ks ds q=>by cases q;exact ⟨_,_,rfl,.inl e,hk,rs⟩⟩
   |_=>exact ⟨fun ks ds q=>(by cases q),fun ks ds q=>by cases q⟩
 |_=>exact ⟨fun ks ds q=>(by cases q),fun ks ds q=>(by cases q)⟩
theorem vt (m:Mz β M H) {x y:V} {d e:Dv} {o:Option Dv} (r:Rz β M H x d) (re:Rz β M H y e) (h:lookD M d e=some o):∃a ov,x=.ref a/\oM H a y ov/\ov.isSome=o.isSome/\∀r,o=some r->∃v,ov=some v/\Rz β M H v r :=by
 unfold lookD at h
 obtain ⟨h1,h2⟩:=xP m r
 split at h
 ·rename_i ks ds q
  obtain ⟨a,vs,rfl,ha,hk,rs⟩:=h1 ks ds q
  split at h
  ·rename_i k vw
   rw [nS re vw]
   obtain ⟨ov,e1,e2,e3⟩:=vq rs (ij h)
   subst e1
   exact ⟨a,_,rfl,.inl ⟨_,k,ha,rfl,rfl⟩,e2,e3⟩
  ·cases h
 ·rename_i ks ds q
  obtain ⟨a,vs,rfl,ha,hk,rs⟩:=h2 ks ds q
  split at h
  ·split at h
   ·rename_i k vw
    obtain ⟨b,us,rfl,_,hb,ru⟩:=cZ re
    rw [lx ru vw] at hb
    obtain ⟨ov,e1,e2,e3⟩:=vq rs (ij h)
    subst e1
    exact ⟨a,_,rfl,.inr ⟨_,k,b,ha,rfl,hb,rfl⟩,e2,e3⟩
   ·cases h
  ·cases h
 ·cases h
def zGetR:eC:=fun d e M Q=>match lookD M d e with|some (some r)=>Q r M|_=>False
theorem xQ {a b:cr} {pa pb:aI} {pos:ul} (hu:X.A.units+64<cLine) (ha:QE Γ X a pa) (hb:QE Γ X b pb) (hs:DQ b):QE Γ X (.Subscript a b pos) (zOp zGetR pa pb):=
 (GX (by omega) ha hb hs).imp fun σ H Q ⟨β,ρ,M,Q',zr,h,q⟩=>⟨β,ρ,M,_,zr,h,fun d M1 v H1 x1 r1 h1=>⟨β,ρ,M1,_,zr.step x1,h1,fun e M2 u H2 x2 r2 h2=>by
  unfold zGetR at h2
  split at h2
  ·rename_i r hl
   obtain ⟨a,ov,rfl,g,_,e3⟩:=vt x2.mz (r1.ex x2) r2 hl
   obtain ⟨w,rfl,jc⟩:=e3 r rfl
   exact ⟨a,w,rfl,g,q _ _ _ _ (x1.trans x2) jc h2⟩
  ·exact h2.elim⟩⟩
def zDIn (neg:Bool):eC:=fun e d M Q=>match lookD M d e with|some o=>Q (.bl (if neg then !o.isSome else o.isSome)) M|none=>False
def D4 (neg:Bool):R2:=fun y x H Q=>∃a o,x=.ref a/\oM H a y o/\Q (.bl (if neg then !o.isSome else o.isSome)) H
theorem xR {neg:Bool}:p0 Γ (D4 neg) (zDIn neg):=fun β x y d e M H Q Q' _ _ _ m rx ry z q=>by
 unfold zDIn at z
 split at z
 ·rename_i o hl
  obtain ⟨a,ov,rfl,g,e2,_⟩:=vt m ry rx hl
  refine ⟨a,ov,rfl,g,?_⟩
  rw [e2]
  exact q _ _ _ _ (.refl m) (.bl _) z
 ·exact z.elim
theorem Nz (hu:X.A.units+64<cLine):eO Γ X (compareOp .In) (zDIn false):=⟨D4 false,fun pins s σ H x y v u Q I rx ry ⟨a,o,e,g,q⟩=>by
 subst e
 cases (show u=ma a from ry)
 exact QN (by omega) I g rx fun s3 I3=>⟨.bl o.isSome,H,I3,rfl,q⟩,xR⟩
theorem D5 (hu:X.A.units+64<cLine):eO Γ X (compareOp .NotIn) (zDIn true):=⟨D4 true,fun pins s σ H x y v u Q I rx ry ⟨a,o,e,g,q⟩=>by
 subst e
 cases (show u=ma a from ry)
 exact GV (by omega) I g rx fun s3 I3=>⟨.bl (!o.isSome),H,I3,rfl,q⟩,xR⟩
end
section
variable {β:Bz} {M:Mh} {H:Hp} {D:ac} {o':Mo} {u:HO}
theorem Hd {v:V} {d:Dv} (r:Rz (β.add D) M H v d):Rz β (az M D o') (upd H D u) v d :=by
 have na:∀a,Fz (β.add D) M a->a≠D:=fun a f z=>f.2 (by rw [z];exact jp)
 have ne:∀a,Fz (β.add D) M a->Fz β (az M D o') a:=fun a f=>⟨by rw [ak (na a f)];exact f.1,fun z=>f.2 (gl _ z)⟩
 have pre:∀a x,Fz (β.add D) M a->H a=some x->upd H D u a=some x:=fun a x f e=>by rw [af (na a f)];exact e
 induction r with
 |int i=>exact .int i
 |bl b=>exact .bl b
 |av=>exact .av
 |str z=>exact .str z
 |tup m e hl h ih=>exact .tup (ne _ m) (pre _ _ m e) hl ih
 |lst m e hl h ih=>exact .lst (ne _ m) (pre _ _ m e) hl ih
 |dk m e hk hl h ih=>exact .dk (ne _ m) (e.map fun _ h=>pre _ _ m h) hk hl ih
 |dt m e hk hl h ih=>exact .dt (ne _ m) (e.map fun _ h=>pre _ _ m h) hk hl ih
 |bP m e m2 e2 hl h ih=>exact .bP (ne _ m) (pre _ _ m e) (ne _ m2) (pre _ _ m2 e2) hl ih
 |set m e=>exact .set (ne _ m) (pre _ _ m e)
 |ptr m=>exact .ptr (by unfold az;split;rfl;exact m)
 |exc m e=>exact .exc (ne _ m) (pre _ _ m e)
 |bC m e=>exact .bC (ne _ m) (pre _ _ m e)
 |cu m e=>exact .cu (ne _ m) (pre _ _ m e)
 |cw e=>exact .cw e
 |raw v=>exact .raw v
theorem jw {vs:List V} {ds:List Dv} (r:aG (β.add D) M H vs ds):aG β (az M D o') (upd H D u) vs ds:=⟨r.len,fun i v d a b=>Hd (r.at' i v d a b)⟩
theorem Ex.By {M2:Mh} {H2:Hp} {o:HO} (x:Ex β M H M2 H2) (hD:D∈β.hid) (m:M D=none) (h:H D=some o) (ho:jo o=true):H2 D=some o :=by
 rcases x.keep D o m h with q|⟨o',t,q⟩
 ·exact q
 ·rcases t with ⟨_,_,rfl,_⟩|⟨_,_,rfl,_⟩|⟨_,ob,rfl⟩
  ·cases ho
  ·cases ho
  ·obtain ⟨w,e,n⟩:=x.mz.hids D hD
   rw [q] at e;cases e;cases n
theorem Mz.KJ (m:Mz (β.add D) M H) (hM:M D=none) (hD:D ∉ β.hid) (nt:D ∉ β.tb) (hu:mM u=true) (r:il β (az M D o') (upd H D u) D o'):Mz β (az M D o') (upd H D u) :=by
 obtain ⟨oD,eD,nD⟩:=m.hids D jp
 refine ⟨fun a o e=>?_,fun q hq=>?_,fun a ha=>(m.hids a (gl _ ha)).upd (.inr hu),fun a o e z=>?_,fun q hq=>?_⟩
 ·by_cases ha:a=D
  ·subst ha
   rw [updM_same] at e
   cases e
   exact r
  ·rw [ak ha] at e
   have z:=m.obj a o e
   cases o with
   |lst ds=>obtain ⟨vs,z,rs⟩:=z;exact ⟨vs,by rw [af ha];exact z,jw rs⟩
   |dk ks ds=>obtain ⟨vs,z,hk,rs⟩:=z;exact ⟨vs,by rw [af ha];exact z,hk,jw rs⟩
   |dt ks ds=>obtain ⟨vs,z,hk,rs⟩:=z;exact ⟨vs,by rw [af ha];exact z,hk,jw rs⟩
   |cI=>obtain ⟨c,n,z,q⟩:=z;exact ⟨c,n,by rw [af ha];exact z,q⟩
 ·obtain ⟨ps,e,t⟩:=m.tabs q hq
  exact ⟨ps,by rw [af (show q≠D from fun z=>nt (by rw [<- z];exact hq))];exact e,t⟩
 ·by_cases ha:a=D
  ·exact hD (ha▸z)
  ·rw [ak ha] at e
   exact m.apart a o e (gl _ z)
 ·exact (m.lams q hq).keep (fun _ e=>by rw [af (fun z=>by subst z;rw [eD] at e;cases e;cases nD)];exact e) fun c _ _ e=>by rw [af (fun z=>by subst z;rw [eD] at e;cases e;cases nD)];exact e
end
section
variable {X:Cx} {pos:ul}
def He (tk tv:TE):TE:=fun σ H Q=>∀p,H p=none->tk σ (upd H p (.dT [])) fun x H1=>tv σ H1 fun y H2=>H2 p=some (.dT [])/\∃b k,x=.ref b/\H2 b=some (.tup (k.map kV))/\Q (.ref p) (upd H2 p (.dT [(k,y)]))
theorem BA {k v:cr} {tk tv:TE} (hu:X.A.units+1<cLine) (hk:PE X k tk) (hv:PE X v tv):PE X (.Dict [some k] [v] pos) (He tk tv) :=by
 refine ⟨?_⟩
 intro pins s σ H Q I q
 have hn:=I.hok.fresh (cb s.heap.objs.size)
 have I1:=I.laid (a:=s.heap.objs.size) (o:=.dT []) (h':=s.heap.push {cls:=.type "dict",data:=.dict #[]}) (t':=s.toks) (fun _ _ q=>bn _ q) (cb _) (DT s.heap I.big)
 refine wpAny_Dict_any rfl rfl (by simp) (by simp) (pairTrees_cons_walk (thn (hk pins _ σ _ _ I1 (q _ hn)) fun w1 s2 ⟨x,H1,I2,rx,q1⟩=>thn (hv pins s2 σ H1 _ I2 q1) fun w2 s3 ⟨y,H2,I3,ry,hp,b,ks,ex,hb,q2⟩=>pairTrees_nil_walk ?_))
 subst ex
 cases (show w1=ma b from rx)
 unfold storeAll
 rw [List.forIn_cons]
 obtain ⟨z,hd,xs,rel,dd⟩:=Ft I3.hok hp
 cases rel
 refine ap (ap (wpAny_dictSet_heap (knd:=tupleKind (bJ X.prog X.w)) (by show X.A.units<cLine;omega) (ky I3.hok hb) dd (fun h' pX hs=>br ?_) (by simp)))
 dsimp only
 rw [List.forIn_nil]
 refine br ⟨.ref s.heap.objs.size,_,?_,rfl,q2⟩
 obtain ⟨o,es,ep,ho,h2,h3,h4,h5,h6⟩:=pX
 have he:storedH ([]:List (List Key×ac×al)) ks b w2=[(ks,b,w2)]:=rfl
 rw [he] at h4 h6
 refine nL I3 (by rw [hp];exact Go) hs ⟨o,ho⟩ ⟨by show 1<=sizeLine;decide,hd,[(ks,b,w2)],.cons ⟨rfl,?_,ry⟩ .nil,o,es,ep,ho,h2,h3,h4,h6⟩
 rw [af (yh hb hp (by intro z;cases z))]
 exact hb
end
section
variable {X:Cx} {Γ:Gz} {β:Bz} {K:ba}
def zDisp1K (pk pv:aI):aI:=fun ρ M Q=>pk ρ M fun e M1=>pv ρ M1 fun v M2=>match keyD e with|some k=>∀a,M2 a=none->Q (.ptr a) (az M2 a (.dk [k] [v]))|none=>False
def zDisp1T (pk pv:aI):aI:=fun ρ M Q=>pk ρ M fun e M1=>pv ρ M1 fun v M2=>match e with | .tup es=>(match nR es with|some k=>∀a,M2 a=none->Q (.ptr a) (az M2 a (.dt [k] [v]))|none=>False)|_=>False
theorem xS {M M2:Mh} {H H2:Hp} {D:ac} {o:HO} {o':Mo} {u:HO} (hD:H D=none) (x:Ex (β.add D) M (upd H D o) M2 H2) (mz:Mz β (az M2 D o') (upd H2 D u)):Ex β M H (az M2 D o') (upd H2 D u) :=by
 have ey:Ey M H M2 (upd H2 D u):=((Ey.refl (M:=M) (H:=H)).over (o:=o) hD |>.trans x.toEy).over hD
 exact ⟨⟨ey.keep,fun a h=>by unfold az;split;rfl;exact ey.dom a h,fun a w m e=>by rw [ak (a8 e hD)];exact ey.new a w m e⟩,mz⟩
theorem BC {k v:cr} {pk pv:aI} {pos:ul} (hk:QE Γ X k pk) (hv:QE Γ X v pv):QE Γ X (.Dict [some k] [v] pos) (zDisp1K pk pv):=
 (G0 (DU hk hv GZ) rfl rfl (by simp) (by simp)).imp fun σ H Q ⟨β,ρ,M,Q',zr,h,q⟩ p hp=>by
  have z1:=zr.enter hp (o:=.dK []) rfl
  refine ⟨β.add p,ρ,M,_,z1,h,fun e M1 y H1 x1 r1 h1=>⟨β.add p,ρ,M1,_,z1.step x1,h1,fun d M2 w H2 x2 r2 h2=>?_⟩⟩
  have qg:=x1.trans x2
  have BD:M p=none:=zr.mz.free hp
  have e2:H2 p=some (.dK []):=qg.By jp BD ay rfl
  have BE:M2 p=none:=qg.new p _ BD ay
  refine ⟨e2,?_⟩
  split at h2
  ·rename_i kk KL
   refine ⟨[(kk,w)],by rw [nS (r1.ex x2) KL];rfl,by simp,?_⟩
   have e:kz [] [(kk,w)]=[kk].zip [w]:=rfl
   rw [e]
   refine q _ _ _ _ (xS (o':=.dk [kk] [d]) hp qg (qg.mz.KJ BE (zr.mz.fz hp).2 (zr.mz.DW hp) rfl ⟨[w],ay,rfl,jw (.cons r2 .nil)⟩)) (.ptr (by rw [updM_same];rfl)) (h2 p BE)
  ·exact h2.elim
theorem O9 {k v:cr} {pk pv:aI} {pos:ul} (hu:X.A.units+64<cLine) (hk:QE Γ X k pk) (hv:QE Γ X v pv):QE Γ X (.Dict [some k] [v] pos) (zDisp1T pk pv):=
 (BA (by omega) hk hv).imp fun σ H Q ⟨β,ρ,M,Q',zr,h,q⟩ p hp=>by
  have z1:=zr.enter hp (o:=.dT []) rfl
  refine ⟨β.add p,ρ,M,_,z1,h,fun e M1 y H1 x1 r1 h1=>⟨β.add p,ρ,M1,_,z1.step x1,h1,fun d M2 w H2 x2 r2 h2=>?_⟩⟩
  have qg:=x1.trans x2
  have BD:M p=none:=zr.mz.free hp
  have e2:H2 p=some (.dT []):=qg.By jp BD ay rfl
  have BE:M2 p=none:=qg.new p _ BD ay
  refine ⟨e2,?_⟩
  split at h2
  ·split at h2
   ·rename_i es kk KL
    obtain ⟨b,us,rfl,_,hb,ru⟩:=cZ (r1.ex x2)
    rw [lx ru KL] at hb
    refine ⟨b,kk,rfl,hb,?_⟩
    refine q _ _ _ _ (xS (o':=.dt [kk] [d]) (u:=.dT ([kk].zip [w])) hp qg (qg.mz.KJ BE (zr.mz.fz hp).2 (zr.mz.DW hp) rfl ⟨[w],ay,rfl,jw (.cons r2 .nil)⟩)) (.ptr (by rw [updM_same];rfl)) (h2 p BE)
   ·exact h2.elim
  ·exact h2.elim
def zDPut (pd pk pv:aI):cp:=fun D ρ M=>pv ρ M fun v M1=>pd ρ M1 fun d M2=>pk ρ M2 fun e M3=>match d with
 | .ptr a=>(match M3 a with
  |some (.dk ks ds)=>(match keyD e with|some k=>ks.length<sizeLine/\D.nx ρ (az M3 a (.dk (putL ks k) (fO ks ds k v)))|none=>False)
  |some (.dt ks ds)=>(match e with | .tup es=>(match nR es with|some k=>ks.length<sizeLine/\D.nx ρ (az M3 a (.dt (putL ks k) (fO ks ds k v)))|none=>False)|_=>False)
  |_=>False)
 |_=>False
theorem Hf {o i value:cr} {pd pk pv:aI} {pos pos':ul} (hu:X.A.units+64<cLine) (ho:QE Γ X o pd) (hi:QE Γ X i pk) (hv:QE Γ X value pv) (hs:swapsWith value (some (.Subscript o i pos')) pos.line X.env=pure false :=by rfl) :
  QS Γ X (.Assign [.Subscript o i pos'] value pos) (zDPut pd pk pv):=(GY (by omega) ho hi hv hs).imp fun D σ H ⟨β,ρ,M,D',zr,h,r⟩=>⟨β,ρ,M,_,zr,h,fun v M1 vv H1 x1 r1 h1=>⟨β,ρ,M1,_,zr.step x1,h1,fun d M2 dv H2 x2 r2 h2=>
   ⟨β,ρ,M2,_,(zr.step x1).step x2,h2,fun e M3 ev H3 x3 r3 h3=>by
 have z3:=((zr.step x1).step x2).step x3
 have xH:=x1.trans (x2.trans x3)
 have rv:=(r1.ex x2).ex x3
 split at h3
 ·rename_i a
  obtain ⟨rfl,hs⟩:=bZ r2
  split at h3
  ·rename_i ks ds hM
   obtain ⟨vs,ha,hk,rs⟩:=x3.mz.obj a _ hM
   split at h3
   ·rename_i k vw
    obtain ⟨hl,h3⟩:=h3
    have hp:(M3 a).isSome=true :=by rw [hM];rfl
    have x4:Ex β M3 H3 (az M3 a (.dk (putL ks k) (fO ks ds k v))) (upd H3 a (.dK ((putL ks k).zip (fO ks vs k vv)))):=Ex.QR x3.mz (.inl hp) (vo hk k vv) (vp k rv rs)
    refine ⟨a,_,rfl,.inl ⟨_,k,ha,nS r3 vw,by rw [T0,<- hk,KM];exact hl,rfl⟩,?_⟩
    rw [xO hk]
    exact r.nx _ _ _ _ (xH.trans x4).ev (z3.step x4) h3
   ·exact h3.elim
  ·rename_i ks ds hM
   obtain ⟨vs,ha,hk,rs⟩:=x3.mz.obj a _ hM
   split at h3
   ·split at h3
    ·rename_i k vw
     obtain ⟨hl,h3⟩:=h3
     obtain ⟨b,us,rfl,_,hb,ru⟩:=cZ r3
     rw [lx ru vw] at hb
     have hp:(M3 a).isSome=true :=by rw [hM];rfl
     have x4:Ex β M3 H3 (az M3 a (.dt (putL ks k) (fO ks ds k v))) (upd H3 a (.dT ((putL ks k).zip (fO ks vs k vv)))):=Ex.QU x3.mz (.inl hp) (vo hk k vv) (vp k rv rs)
     refine ⟨a,_,rfl,.inr ⟨_,k,b,ha,rfl,hb,by rw [T0,<- hk,KM];exact hl,rfl⟩,?_⟩
     rw [xO hk]
     exact r.nx _ _ _ _ (xH.trans x4).ev (z3.step x4) h3
    ·exact h3.elim
   ·exact h3.elim
  ·exact h3.elim
 ·exact h3.elim⟩⟩⟩
def zLenK (d:Dv) (M:Mh) (Q:ZK):Prop:=match nowK M d with | .dk ks _=>Q (.int ks.length) M|_=>False
theorem KN:eZ Γ X (.builtin "len") (z1 zLenK):=⟨fun xs H Q=>∃a ao,xs=[.ref a]/\Rd H a (.dK ao)/\Q (.int ao.length) H,fun pins s σ H xs us Q I rs ⟨a,ao,e,ha,q⟩=>by
 subst e
 cases rs with
 |cons r1 rs=>
  cases rs
  cases r1
  exact Nj I ha fun t s' I'=>⟨.int ao.length,H,I',⟨t,rfl⟩,q⟩,fun β xs ds M H Q Q' _ _ _ m rs z q=>by
 unfold z1 at z
 split at z
 ·obtain ⟨x,rfl,r⟩:=c6 rs
  unfold zLenK at z
  split at z
  ·rename_i ks ds hk
   obtain ⟨a,vs,rfl,ha,hk,_⟩:=(xP m r).1 _ _ hk
   refine ⟨a,_,rfl,ha,?_⟩
   rw [T0,<- hk,KM]
   exact q _ _ _ _ (.refl m) (.int _) z
  ·exact z.elim
 ·exact z.elim⟩
end
def fP (X:Cx):bi:=X.env.qual ++ "<lambda>"
structure KO (X:Cx) (params:IT) (body:cr) (scope:wn) (o:im) (c:ac) (oc:im) (aQ:List (bi×ac)):Prop where
 cells:∀n a,aQ.lookup n=some a->X.env.cells.lookup n=some a
 has:∀n,(n,sK)∈scope.names->∃a,aQ.lookup n=some a
 obj:∃iI,o=LH "<lambda>" (fP X) params body scope aQ ((X.mg "__name__").getD .none) c iI
 code:∃vs t,oc.data=.fields vs/\vs[1]?=some (U6 (fP X) t)
structure KP (X:Cx) (P:ac) (H H2:Hp) (f:ac) (o:im) (c:ac) (oc:im):Prop where
 new:H f=none
 at':∃u,H2 f=some (.bL o u)
 cd:∃u,H2 c=some (.bL oc u)
 lm:Lm H2 (P,fP X)
 keep:∀b u,H b=some u->b≠P->H2 b=some u
 tab:∃ps,H P=some (.lam ps)
def QX (X:Cx) (P:ac) (params:IT) (body:cr) (scope:wn):TE:=fun _ H Q=>Lm H (P,fP X)/\∀f o c oc aQ H2,KO X params body scope o c oc aQ->KP X P H H2 f o c oc->Q (.ref f) H2
def jx (a:ac) (o:im):HO:=.bL o (.ext fun h=>h.get? a=some o)
theorem vy {P:c8} {w:ff} {H:Hp} {h:gc} {a:ac} {o:im} (e:h.get? a=some o):ObjOk P w H h a (jx a o):=⟨e,e,⟨o,e⟩,fun _ _ x k=>k o x⟩
theorem BF {a b c cv:al} {pos:ul} (l:List al) (h:KB l) (e:codeAmong pos (l++[a,b,c])=some cv):codeAmong pos l=some cv\/cv=c :=by
 induction l using TriplesOk.induct with
 |case1=>
  right
  simp only [LG] at e
  unfold codeAmong at e
  split at e
  ·rename_i heq
   cases heq
   split at e
   ·exact (ij e).symm
   ·simp [codeAmong] at e
  ·cases e
 |case2 x tx y ty z rest ih=>
  simp only [V9,codeAmong] at e ⊢
  split at e
  ·rename_i q
   rw [if_pos q];exact .inl e
  ·rename_i q
   rw [if_neg q];exact ih h e
 |case3 l n1 n2=>
  exfalso
  unfold KB at h
  split at h
  ·exact n1 rfl
  ·exact n2 _ _ _ _ _ _ rfl
  ·exact h
section
variable {X:Cx} {params:IT} {body:cr} {scope:wn} {pos:ul} {P cX:ac}
theorem y4 {pins:List (ac×im)} {s:ar} {σ:St} {H:Hp} {h':gc} {o:im} (I:Inv X pins σ H s) (hk:∀b u,s.heap.get? b=some u->h'.get? b=some u) (hsz:s.heap.objs.size<=h'.objs.size) (hc:o.isFreed=false) (tk:Nat) :
  Inv X pins σ (upd H h'.objs.size (jx h'.objs.size o)) {s with heap:=h'.push o,toks:=tk}:=
 I.laid (a:=h'.objs.size) (o:=jx h'.objs.size o) (t':=tk) (fun b u e=>bn _ (hk b u e)) hsz (vy (dL _ hc))
theorem y6 {pins:List (ac×im)} {s:ar} {σ:St} {H:Hp} {h':gc} {o oc:im} {c:ac} {ps gq:Array al} (I:Inv X pins σ H s) (hP:H P=some (.lam ps)) (hx:Vz P s.heap h') (vz:s.heap.objs.size<=c) (bb:c<h'.objs.size) (rH:h'.get? c=some oc)
  (FD:h'.get? P=some {cls:=.none,data:=.fields gq}) (hc:o.isFreed=false) (tk:Nat) :
  Inv X pins σ (upd (upd (upd H P (.lam gq)) c (jx c oc)) h'.objs.size (jx h'.objs.size o)) {s with heap:=h'.push o,toks:=tk}:=by
 have KQ:P<s.heap.objs.size:=(I.hok P _ hP).lt
 have hsz:s.heap.objs.size<=h'.objs.size:=Re (Nat.lt_of_le_of_lt vz bb)
 have old:∀b,b<s.heap.objs.size->b≠P->upd (upd (upd H P (.lam gq)) c (jx c oc)) h'.objs.size (jx h'.objs.size o) b=H b:=fun b hb n=>by
  rw [af (i4 (l5 hb hsz)),af (i4 (l5 hb vz)),af n]
 have Ux:upd (upd (upd H P (.lam gq)) c (jx c oc)) h'.objs.size (jx h'.objs.size o) P=some (.lam gq) :=by
  rw [af (i4 (l5 KQ hsz)),af (i4 (l5 KQ vz)),ay]
 have k:∀b u,b≠P->s.heap.get? b=some u->(h'.push o).get? b=some u:=fun b u n e=>bn _ (hx b u n e)
 have BG:∀b u,H b=some u->b<s.heap.objs.size:=fun b u e=>(I.hok b u e).lt
 have nP:∀b,H b=none->b≠P:=fun b e z=>by rw [z,hP] at e;cases e
 have nT:∀b u,H b=some u->(∀ps,u≠.lam ps)->b≠P:=fun b u e n z=>by rw [z,hP] at e;cases e;exact n _ rfl
 refine I.un ⟨fun b u q n _ _=>k b u (nP b n) q,fun b u q n _ _=>⟨u.slots,k b u (nP b n) q⟩,fun b u q n _=>by rw [old b (ge q) (nP b n)];exact n,fun b u q _=>?_,fun b xs q=>by rw [old b (BG b _ q) (nT b _ q (by intro _ z;cases z))];exact q,
  fun b u xs q=>by rw [old b (BG b _ q) (nT b _ q (by intro _ z;cases z))];exact q,fun b qs q=>⟨#[],by rw [old b (BG b _ q) (nT b _ q (by intro _ z;cases z)),q];simp⟩⟩ fun b u q=>?_
 ·by_cases e:b=P
  ·subst e;exact ⟨_,bn _ FD⟩
  ·exact ⟨u,k b u e q⟩
 ·by_cases e1:b=h'.objs.size
  ·subst e1
   rw [ay] at q;cases q
   exact vy (dL _ hc)
  ·rw [af e1] at q
   by_cases e2:b=c
   ·subst e2
    rw [ay] at q;cases q
    exact vy (bn _ rH)
   ·rw [af e2] at q
    by_cases e3:b=P
    ·subst e3
     rw [ay] at q;cases q
     exact bn _ FD
    ·rw [af e3] at q
     refine (I.hok b u q).b9 (fun a v hc q=>k a v ?_ q) (fun a z=>?_) fun a xs z=>?_
     ·rcases hc with z|z
      ·rw [z];exact e3
      ·exact nT a _ z (by intro _ w;cases w)
     ·rw [old a (BG a _ z) (nT a _ z (by intro _ w;cases w))];exact z
     ·rw [old a (BG a _ z) (nT a _ z (by intro _ w;cases w))];exact z
theorem KR (dF:X.env.code=.ref cX) (hd:nw X.base cX P) (de:∃bm ob,UM X.base mainGlobals X.mg bm ob) (tX:defaultsOf params X.env=([],[]))
  (nC:∀n,(n,sK)∈scope.names->X.env.kindOf n=some .cell\/X.env.kindOf n=some .free):PE X (.Lambda params body scope pos) (QX X P params body scope) :=by
 refine ⟨?_⟩
 intro pins s σ H Q I ⟨⟨ps,hP,mD,KS⟩,q⟩
 obtain ⟨aQ,jS,gm,iy⟩:=iL (scope:=scope) (env:=X.env) fun n hn=>I.ok.has n (nC n hn)
 have ux:s.heap.get? P=some (No ps):=I.hok P _ hP
 obtain ⟨bm,ob,bmod⟩:=de
 have fY:=bmod.keeps I.bk
 have SD:mainGlobals≠P:=fun z=>by
  obtain ⟨o,es,ep,e,hd,_⟩:=fY.ns
  rw [z,ux] at e;cases e;cases hd
 have SE:bm≠P:=fun z=>by
  have e:=fY.obj
  have e2:=fY.data
  rw [z,ux] at e;cases e;cases e2
 have SF:bm≠mainGlobals:=fun z=>by
  obtain ⟨o,es,ep,e,hd,_⟩:=fY.ns
  have e1:=fY.obj
  have e2:=fY.data
  rw [z,e] at e1;cases e1;rw [hd] at e2;cases e2
 have hb:s.heap.BuiltinsAt X.mg P:=⟨bm,ob,fY.name,fY.ne,SF,SE,fY.obj,fY.cls,fY.dict,fY.data⟩
 refine PySem.W.kla_eval tX ?_
 cases hq:codeAmong pos ps.toList with
 |some cv=>
  obtain ⟨c,oc,uc,vs,t,rfl,ec,d1,d2⟩:=KS pos cv hq
  refine PySem.W.kla_makeFunctionHit (mg:=X.mg) jS I.ok.glob (I.mod.glob.keeps I.bk) dF (hd.keeps I.bk) ux mD hq hb fun iI h' tk hk hsz=>?_
  have hf:H h'.objs.size=none:=I.hok.fresh hsz
  have pre:∀b u,H b=some u->upd H h'.objs.size (jx h'.objs.size (LH "<lambda>" (fP X) params body scope aQ ((X.mg "__name__").getD .none) c iI)) b=some u:=fun b u e=>by rw [af (a8 e hf)];exact e
  refine ⟨.ref h'.objs.size,_,y4 I hk hsz (o:=LH "<lambda>" (fP X) params body scope aQ ((X.mg "__name__").getD .none) c iI) rfl tk,rfl,q _ _ c oc aQ _ ⟨gm,iy,⟨iI,rfl⟩,⟨vs,t,d1,d2⟩⟩ ⟨hf,⟨_,ay⟩,⟨uc,pre _ _ ec⟩,Lm.keep ⟨ps,hP,mD,KS⟩ (fun _ e=>pre _ _ e) fun _ _ _ e=>pre _ _ e,fun b u e _=>pre b u e,⟨ps,hP⟩⟩⟩
 |none=>
  refine PySem.W.kla_makeFunction (mg:=X.mg) jS I.ok.glob (I.mod.glob.keeps I.bk) dF (hd.keeps I.bk) ux mD hq SD hb fun c iI h' tk hx vz bb QY FD=>?_
  obtain ⟨c2,oc,vs,t,e2,rH,d1,d2⟩:=QY
  cases e2
  have I2:=y6 (o:=LH "<lambda>" (fP X) params body scope aQ ((X.mg "__name__").getD .none) c iI) I hP hx vz bb rH FD rfl tk
  have hsz:s.heap.objs.size<=h'.objs.size:=Re (Nat.lt_of_le_of_lt vz bb)
  have hf:H h'.objs.size=none:=I.hok.fresh hsz
  have qh:H c=none:=I.hok.fresh vz
  have SG:c≠h'.objs.size:=i4 bb
  have SH:P≠c:=fun z=>by rw [z,qh] at hP;cases hP
  have SJ:P≠h'.objs.size:=fun z=>by rw [z,hf] at hP;cases hP
  have SK:KB (ps++#[rawInt pos.line,rawInt pos.col,ma c]).toList :=by
   rw [SZ]
   exact TriplesOk_snoc _ _ _ _ mD
  have pre:∀b u,H b=some u->b≠P->upd (upd (upd H P (.lam (ps++#[rawInt pos.line,rawInt pos.col,ma c]))) c (jx c oc)) h'.objs.size (jx h'.objs.size (LH "<lambda>" (fP X) params body scope aQ ((X.mg "__name__").getD .none) c iI)) b=some u:=fun b u e n=>by
   rw [af (a8 e hf),af (a8 e qh),af n];exact e
  have Pa:upd (upd (upd H P (.lam (ps++#[rawInt pos.line,rawInt pos.col,ma c]))) c (jx c oc)) h'.objs.size (jx h'.objs.size (LH "<lambda>" (fP X) params body scope aQ ((X.mg "__name__").getD .none) c iI)) c=some (jx c oc) :=by rw [af SG,ay]
  refine ⟨.ref h'.objs.size,_,I2,rfl,q _ _ c oc aQ _ ⟨gm,iy,⟨iI,rfl⟩,⟨vs,t,d1,d2⟩⟩ ⟨hf,⟨_,ay⟩,⟨_,Pa⟩,⟨_,by rw [af SJ,af SH,ay],SK,fun p cv e=>?_⟩,pre,⟨ps,hP⟩⟩⟩
  rw [SZ] at e
  rcases BF _ mD e with e|e
  ·obtain ⟨c3,SM,u3,SN,t3,a1,a2,a3⟩:=KS p cv e
   exact ⟨c3,SM,u3,SN,t3,a1,pre _ _ a2 (fun z=>by rw [z,hP] at a2;cases a2),a3⟩
  ·exact ⟨c,oc,_,vs,t,e,Pa,d1,d2⟩
end
structure FE (X:Cx) (σ:St) (b':gc):Prop where
 ext:∀b o,X.base.get? b=some o->b'.get? b=some o
 cell:∀(i:Nat) (x:bi) (v:V),X.N[i]?=some x->σ[i]?=some (some v)->X.env.scope.names.lookup x=some .cell->∃c u,X.env.cells.lookup x=some c/\RelV v u/\b'.IsCell c (some u)
 cells:∀x c,X.env.cells.lookup x=some c->∃v,b'.IsCell c v
 inj:∀x y c,X.env.cells.lookup x=some c->X.env.cells.lookup y=some c->x=y
theorem Mod.ext {K:ba} {mg:bi->Option al} {b b':gc} (m:Mod K mg b) (k:∀a o,b.get? a=some o->b'.get? a=some o):Mod K mg b':=
 ⟨m.kin.keeps k,m.glob.keeps k,let ⟨mb,h1,h2⟩:=m.blt;⟨mb,h1.keeps k,h2⟩,m.nolimit.keeps k⟩
section
variable {X:Cx} {pins:List (ac×im)} {σ:St} {H:Hp} {s:ar}
theorem Inv.NA (I:Inv X pins σ H s) (pf:∀x,X.fn x=true):∃b',FE X σ b'/\qE X.prog X.w X.K X.mg b' X.A X.stack s H :=by
 let FG:ac->Prop:=fun a=>∃x,X.env.cells.lookup x=some a
 let l:List ac:=(l9 s.heap.objs.size).filter fun a=>@decide ((X.base.get? a=none)/\¬ FG a) (Ix _)
 have ml:∀a,a∈l ↔ a<s.heap.objs.size/\X.base.get? a=none/\¬ FG a:=fun a=>by
  show a∈(l9 s.heap.objs.size).filter _ ↔ _
  rw [EN,ID]
  simp only [decide_eq_true_eq]
 have ext:∀b o,X.base.get? b=some o->(xL s.heap l).get? b=some o:=fun b o e=>SS l (I.bk b o e) fun z=>by
  have:=((ml b).mp z).2.1
  rw [e] at this;cases this
 have cls:∀x c o,X.env.cells.lookup x=some c->s.heap.get? c=some o->(xL s.heap l).get? c=some o:=fun x c o e ho=>SS l ho fun z=>((ml c).mp z).2.2 ⟨x,e⟩
 have only:∀b o,(xL s.heap l).get? b=some o->s.heap.get? b=some o/\((∃o',X.base.get? b=some o')\/FG b):=fun b o e=>by
  have e':=VB l e
  refine ⟨e',?_⟩
  by_cases hc:FG b
  ·exact .inr hc
  ·cases q:X.base.get? b with
   |some o'=>exact .inl ⟨o',rfl⟩
   |none=>
    have:(xL s.heap l).get? b=none:=PySem.W.hideAll_none l ((ml b).mpr ⟨ge e',q,hc⟩)
    rw [e] at this;cases this
 refine ⟨xL s.heap l,⟨ext,fun i x v h1 h2 h3=>?_,fun x c e=>?_,I.ok.inj⟩,I.ok.frames,I.ok.mod.ext ext,fun b o e=>?_,UP (PySem.W.hideAll_size _ _),?_,I.nB,I.hok,I.bare.1⟩
 ·obtain ⟨m,hn,hl⟩:=I.loc
  obtain ⟨u,r,lk⟩:=hl i x v h1 h2 (.inr (.inl h3))
  rcases lk with ⟨hk,_⟩|⟨_,c,ec,o,ho,hd⟩
  ·have hk:X.env.scope.names.lookup x=some .local:=hk
   rw [h3] at hk;cases hk
  ·exact ⟨c,u,ec,r,o,cls x c o ec ho,hd⟩
 ·obtain ⟨v,o,ho,hd⟩:=I.cell x c e
  exact ⟨v,o,cls x c o e ho,hd⟩
 ·obtain ⟨e',q⟩:=only b o e
  refine ⟨e',?_⟩
  rcases q with ⟨o',q⟩|⟨x,q⟩
  ·exact (I.bs b o' q).2
  ·exact I.freeC x b q
 ·have fr:∀L∈eh X.stack,(xL s.heap l).get? L=none:=fun L hL=>by
   cases q:(xL s.heap l).get? L with
   |none=>rfl
   |some o=>
    exfalso
    obtain ⟨e',q⟩:=only L o q
    have nb:=(I.stack.mem hL).1
    rcases q with ⟨o',q⟩|⟨x,q⟩
    ·rw [nb] at q;cases q
    ·rcases l3.mp (I.hZ L hL) with z|z
     ·exact I.rG x L q z
     ·have h1:=I.ok.cab x L (pf x) q
      obtain ⟨_,o2,SQ,_⟩:=I.ok.funs.mem z
      exact absurd (ge SQ) (Ws.mpr h1)
  have go:∀(st:List IF),(∀L∈eh st,(xL s.heap l).get? L=none)->s.heap.FunFrames X.base st->s.heap.FunFrames (xL s.heap l) st :=by
   intro st
   induction st with
   |nil=>intro _ _;trivial
   |cons env r ih=>
    intro hs hl
    obtain ⟨hk,⟨L,o,hf,hn,ho,hd⟩,hr⟩:=hl
    exact ⟨hk,⟨L,o,hf,hs L (by unfold eh;rw [EO,hf];exact jp),ho,hd⟩,ih (fun b hb=>hs b (by unfold eh;rw [EO,hf];exact gl _ hb)) hr⟩
  exact go X.stack fr I.stack
end
section
variable {X:Cx} {CX:fX} {k:Nat} {f:ac} {fd:i0} {ps:List bi} {fy:List V} {ds:List al} {E:XK} {x:bi} {p pos:ul} {e:cr} {es:List cr} {t:TA}
def KU (X:Cx) (sp:gc->Sp) (fy:List V) (E:XK) (t:TA):TE:=fun σ H Q=>t σ H fun vs H1=>∀b',FE X σ b'->sp b' (vs++fy) H1 Q E
theorem D6 {sp:gc->Sp} (F:∀b',(∀b o,X.base.get? b=some o->b'.get? b=some o)->FnOk X.prog X.w X.K X.mg b' CX k f fd ps (sp b')) (hr:bB k X.A) (pf:∀x,X.fn x=true) (hg:Gl X x) (hm:X.mg x=some (.ref f)) (hk:AT X.K (.ref f)=true) (hb:Binds X.K fd ps ds) (hd:Vals fy ds) (hx:Passes CX X E)
  (ha:PA X (e::es) t) (eS:(x==("__debug__" : bi))=false :=by decide) (he:starEach (e::es) X.env=(false,eval e X.env)::starEach es X.env :=by rfl) (cY:(backTo pos (starEach es X.env)).any (·.1)=false :=by rfl) :
  PE X (.Call (.Name x p) (e::es) [] pos) (KU X sp fy E t) :=by
 refine ⟨?_⟩
 intro pins s σ H Q I h
 refine BY (nE I hg hm ?_ eS)
 refine PySem.W.callWith_K (h₀:=X.base) I.ok.mod.kin hk (thn (ha pos pins s σ H _ I h) fun us s1 ⟨vs,H1,I1,r,q⟩=>⟨I1.gf,?_⟩) he cY
 obtain ⟨b',B,e0⟩:=I1.NA pf
 have r2:Vals (vs++fy) (us++ds):=r.append hd
 have hl:(us++ds).length=ps.length :=by rw [<- r2.length];exact (F b' B.ext).len _ _ _ _ (q b' B)
 refine wpAny_call (UL ((F b' B.ext).run X.A X.stack s1 H1 ⟨us,[]⟩ (us++ds) (vs++fy) Q E hr e0 (hb s1 us I1.gf hl) r2 (q b' B)) fun r s' hq=>?_)
 cases r with
 |error e=>exact hx pins σ H1 s1 e s' I1 hq
 |ok fl=>
  cases fl with
  |ret u=>exact I1.after hq
  |next=>exact Co hq
  |brk=>exact Co hq
  |cont=>exact Co hq
def KW (f:ac) (o:im) (sp:Sp) (E:XK) (i:Nat) (t:TA):TE:=fun σ H Q=>σ[i]?=some (some (.ref f))/\(∃u,H f=some (.bL o u))/\t σ H fun vs H1=>(∃u,H1 f=some (.bL o u))/\sp vs H1 Q E
theorem D7 {o:im} {sp:Sp} {i:Nat} (F:FnOk X.prog X.w X.K X.mg X.base CX k f fd ps sp) (ho:∃oc od fd sl,o=⟨oc,od,.func fd,sl⟩) (hr:bB k X.A) (hN:X.N[i]?=some x) (hv:o9 X.env.scope x) (hb:Binds X.K fd ps []) (hx:Passes CX X E) (ha:PA X (e::es) t)
  (eS:(x==("__debug__" : bi))=false :=by decide) (dG:(x==("__classdict__" : bi))=false :=by decide) (he:starEach (e::es) X.env=(false,eval e X.env)::starEach es X.env :=by rfl) (cY:(backTo pos (starEach es X.env)).any (·.1)=false :=by rfl) :
  PE X (.Call (.Name x p) (e::es) [] pos) (KW f o sp E i t) :=by
 refine ⟨?_⟩
 intro pins s σ H Q I ⟨hi,hf,h⟩
 obtain ⟨oc,od,Fj,sl,rfl⟩:=ho
 refine BY (thn ((t5 hN hv eS dG) pins s σ H (fun v H'=>v=.ref f/\H'=H) I ⟨_,hi,rfl,rfl⟩) fun u s0 ⟨v,H0,I0,r0,e1,e2⟩=>?_)
 subst e1 e2
 cases (show u=ma f from r0)
 have at_:∀{H':Hp} {s':ar},Inv X pins σ H' s'->(∃u,H' f=some (.bL ⟨oc,od,.func Fj,sl⟩ u))->PySem.W.FnAt f s'.heap:=fun I' ⟨u,hu⟩=>⟨oc,od,Fj,sl,(I'.hok f _ hu).1⟩
 refine PySem.W.callWith_F (at_ I0 hf) (thn (ha pos pins s0 σ H0 _ I0 h) fun us s1 ⟨vs,H1,I1,r,SR,q⟩=>⟨at_ I1 SR,?_⟩) he cY
 have q':sp (vs++[]) H1 Q E :=by rw [Cs];exact q
 exact Ag F hr hb .nil hx I1 r q'
end
def y7 (CX:fX) (P:c8) (w:ff) (K:ba) (mg:bi->Option al) (base:gc) (N:List bi) (qual:bi) (scope:wn) (f:ac) (cd:al) (aQ:List (bi×ac)) (A:l4) (outer:List IF) (s:ar) (H:Hp) (E:XK):Cx where
 prog:=P
 w:=w
 K:=K
 mg:=mg
 base:=base
 A:=A.deeper (On qual scope s.heap.objs.size f cd aQ)
 N:=N
 s₀:=s
 H₀:=H
 env:=On qual scope s.heap.objs.size f cd aQ
 outer:=outer
 stack:=On qual scope s.heap.objs.size f cd aQ::outer
 ex:=[]
 calm:=true
 fn:=fun _=>false
 pn:=[]
 xe:=fun e s'=>wpAny (model P w) (A.deeper (On qual scope s.heap.objs.size f cd aQ)) (leaving (On qual scope s.heap.objs.size f cd aQ) e) (fun _ a9=>CX outer H s E e a9) (fun e' a9=>CX outer H s E e' a9) s'
structure ly (ps fs:List bi) (sc:wn):Prop where
 kind:sc.kind=.function
 co:sc.isCoroutine=false
 gen:sc.isGenerator=false
 nd:(ps++fs).Nodup
 par:∀x∈ps,sc.names.lookup x=some .local
 fre:∀x∈fs,sc.names.lookup x=some .free
 nocell:∀y∈sc.names,y.2≠.cell
structure qX (base:gc) (fs:List bi) (aQ:List (bi×ac)) (vcs:List V):Prop where
 inj:∀x y c,aQ.lookup x=some c->aQ.lookup y=some c->x=y
 all:∀x c,aQ.lookup x=some c->∃v,base.IsCell c v
 cell:∀(j:Nat) (x:bi) (v:V),fs[j]?=some x->vcs[j]?=some v->∃c u,aQ.lookup x=some c/\RelV v u/\base.IsCell c (some u)
theorem qi {x:bi} {v:al}:∀{ps:List bi} {us:List al} {i:Nat},ps.Nodup->ps[i]?=some x->us[i]?=some v->(ps.zip us).reverse.lookup x=some v
 | [],_,_,_,h,_=>by simp at h
 |_::_,[],_,_,_,h=>by simp at h
 |p::ps,u::us,i,nd,h1,h2=>by
          rw [Pc,List.reverse_cons]
          have hn:=Lu.mp nd
          cases i with
          |zero=>
           simp at h1 h2
           subst h1 h2
           rw [List.lookup_append]
           have:(ps.zip us).reverse.lookup p=none :=by
            rw [List.lookup_eq_none_iff]
            intro q hq
            have AQ:=List.mem_reverse.mp hq
            have:=(OL AQ).1
            have ne:p≠q.1:=fun z=>hn.1 (by rw [z];exact this)
            simpa using ne
           rw [this]
           simp [List.lookup]
          |succ i=>
           rw [List.lookup_append,qi hn.2 (by simpa using h1) (by simpa using h2)]
           rfl
section
variable {CX:fX} {P:c8} {w:ff} {K:ba} {mg:bi->Option al} {base:gc} {ps fs:List bi} {qual:bi} {scope:wn} {f c:ac} {aQ:List (bi×ac)} {A:l4} {outer:List IF} {s:ar} {H:Hp} {E:XK} {us:List al} {vs vcs:List V}
theorem Hg {h1:gc} {tk:Nat} (S:ly ps fs scope) (C:qX base fs aQ vcs) (has:∀n,(n,sK)∈scope.names->∃a,aQ.lookup n=some a) (hd:A.handled=none) (e0:qE P w K mg base A outer s H) (hl:vs.length=ps.length) (hc:vcs.length=fs.length) (r:Vals vs us)
  (dU:h1.Ns s.heap.objs.size (fun y=>(ps.zip us).reverse.lookup y)) (hk:∀b o,s.heap.get? b=some o->h1.get? b=some o) :
  Inv (y7 CX P w K mg base (ps++fs) qual scope f (.ref c) aQ A outer s H E) [] (vs.map some++vcs.map some) H {s with heap:=h1,toks:=tk}:=by
 have bc:∀x a,aQ.lookup x=some a->∃v o,s.heap.get? a=some o/\o.data=.cell v/\H a=none:=fun x a e=>by
  obtain ⟨v,o,ho,hd⟩:=C.all x a e
  obtain ⟨h1,h2⟩:=e0.bs a o ho
  exact ⟨v,o,h1,hd,h2⟩
 refine ⟨⟨e0.mod,S.kind,rfl,rfl,cb _,C.inj,fun y hy=>?_,fun _ _ z=>(nomatch z),fun _=>hd,l4.frames_deeper e0.frames,.inr ⟨rfl,rfl⟩,fun b z=>absurd (show b∈([]:List ac) from z) (by simp),e0.bs,e0.bsz,fun b _ _ z=>absurd (show b∈([]:List ac) from z) (by simp),fun b z=>absurd (show b∈([]:List ac) from z) (by simp),e0.funs,e0.frf⟩,
  rfl,⟨e0.bare,cb _⟩,Un.kept hk,⟨_,dU,fun i y v h1 h2 h3=>?_⟩,fun y a e=>?_,e0.hok.fresh (cb _),fun y a e=>?_,fun p hp=>absurd (show p∈([]:List (ac×im)) from hp) (by simp),e0.hok.kept hk,?_⟩
 ·have hy:scope.names.lookup y=some .cell\/scope.names.lookup y=some .free:=hy
  rcases hy with hy|hy
  ·exact absurd rfl (S.nocell _ (wE hy))
  ·exact has y (wE hy)
 ·have h1:(ps++fs)[i]?=some y:=h1
  by_cases hi:i<ps.length
  ·rw [sB hi] at h1
   rw [sB (by simpa [hl] using hi),ca] at h2
   have ha:vs[i]?=some v :=by
    cases e:vs[i]? with
    |none=>rw [e] at h2;cases h2
    |some a=>rw [e] at h2;cases h2;rfl
   obtain ⟨u,hu,rv⟩:=r.get ha
   have nd:ps.Nodup:=S.nd.sublist (List.sublist_append_left _ _)
   exact ⟨u,rv,.inl ⟨S.par y (ii h1),qi nd h1 hu⟩⟩
  ·rw [wp (by omega)] at h1
   rw [wp (by simp only [ci];omega),ci,hl,ca] at h2
   have ha:vcs[i - ps.length]?=some v :=by
    cases e:vcs[i - ps.length]? with
    |none=>rw [e] at h2;cases h2
    |some a=>rw [e] at h2;cases h2;rfl
   obtain ⟨a,u,e1,rv,o,ho,hd⟩:=C.cell _ y v h1 ha
   exact ⟨u,rv,.inr ⟨.inr (S.fre y (ii h1)),a,e1,o,hk _ _ (e0.bs a o ho).1,hd⟩⟩
 ·obtain ⟨v,o,ho,hd,_⟩:=bc y a e
  exact ⟨v,o,hk _ _ ho,hd⟩
 ·obtain ⟨v,o,ho,hd,hn⟩:=bc y a e
  exact hn
 ·show _=(ps++fs).length
  simp [hl,hc]
structure y8 (params:IT) (body:cr) (scope:wn) (qual:bi) (o:im) (c:ac) (oc:im) (aQ:List (bi×ac)) (fd:i0):Prop where
 has:∀n,(n,sK)∈scope.names->∃a,aQ.lookup n=some a
 obj:∃name pm iI,fd=PySem.W.kla_fn name qual params body scope aQ pm (.ref c) iI/\o={cls:=.type "function",data:=.func fd}
 code:∃vs t,oc.data=.fields vs/\vs[1]?=some (U6 qual t)
theorem KY {params:IT} {body:cr} {o oc:im} {fd:i0} {k:Nat} {sp:Sp} (L:y8 params body scope qual o c oc aQ fd) (S:ly ps fs scope) (C:qX base fs aQ vcs) (dD:vcs.length=fs.length) (len:∀vs H Q E,sp vs H Q E->vs.length=ps.length)
  (at':∀vs H Q E,sp vs H Q E->(∃u,H f=some (.bL o u))/\∃u,H c=some (.bL oc u))
  (kY:∀(A:l4) (outer:List IF) (s:ar) (H:Hp) (vs:List V) (Q:VK) (E:XK),bB k (A.deeper (On qual scope s.heap.objs.size f (.ref c) aQ))->sp vs H Q E->
   ∃t,PE (y7 CX P w K mg base (ps++fs) qual scope f (.ref c) aQ A outer s H E) body t/\t (vs.map some++vcs.map some) H Q):FnOk P w K mg base CX (k+1) f fd ps sp :=by
 obtain ⟨has,⟨name,pm,iI,rfl,rfl⟩,⟨SU,ct,d1,d2⟩⟩:=L
 refine ⟨len,fun A outer s H args us vs Q E hr e0 hb r jQ=>?_⟩
 have hl:=len _ _ _ _ jQ
 obtain ⟨⟨u1,ef⟩,⟨u2,ec⟩⟩:=at' _ _ _ _ jQ
 have SV:=(e0.hok f _ ef).1
 have rH:=(e0.hok c _ ec).1
 have lim:s.heap.NoLimit:=e0.mod.nolimit.keeps fun b o e=>(e0.bs b o e).1
 refine PySem.W.kla_callFunE hr.depth SV rfl S.co S.gen rfl ⟨c,oc,SU,ct,rfl,rH,d1,d2⟩ (hb _ _ _ _ ?_)
 refine wpAny_newFunctionEnv S.nocell (fun y hy=>S.par y.1 (OL hy).1) (fun h1 dU km=>⟨lim.fresh _ km,?_⟩) S.kind
 have hk:∀b o,s.heap.get? b=some o->h1.get? b=some o:=fun b o e=>km.extBut b o (i4 (ge e)) (bn _ e)
 obtain ⟨t,ht,hq⟩:=kY A outer s H vs Q E (hr.deeper _) jQ
 have I:=Hg (CX:=CX) (qual:=qual) (f:=f) (c:=c) (E:=E) (tk:=s.toks+(ps.zip us).length) S C has hr.hd e0 hl dD r dU hk
 show codeAny _ _ (.expr body (On qual scope s.heap.objs.size f (.ref c) aQ)) _ _
 refine PySem.W.kla_codeExpr (l6 (ht [] _ _ H Q I hq) (fun u s' ⟨v,H',J,rv,q⟩=>?_) fun e s' hs=>hs)
 exact ⟨v,H',J.os,J.bare,J.base,J.hok,rv,q⟩
end
end L2
namespace L2
open PySem PySem.Spec PySem.W PyProof.Rows
structure FH (K:ba) (mg:bi->Option al) (x:bi) (st:mv) (ps:List bi) (ds:List al) (f:ac) (fd:i0):Prop where
 ex:∃(oc:al) (od:Option ac) (dV kV doc pm:al) (an:Option ac) (cD ct:al) (jP:Array (Option al)),
  fd=xw x x (cN st) (bK st) (aj st) dV kV doc pm an cD ct/\K.lookup f=some ⟨oc,od,.func fd,jP⟩/\FF K cD x=true
 kp:AT K (.ref f)=true
 bd:Binds K fd ps ds
 bd0:Binds K fd ps []
 mg:mg x=some (.ref f)
section
variable {P:c8} {w:ff} {K:ba} {mg:bi->Option al} {base:gc} {tb:b5} {x:bi} {st:mv} {f:ac} {fd:i0} {N ps:List bi} {fy:List al} {k:Nat} {S:bV}
theorem NB (D:FH K mg x st ps fy f fd) (sc:aK N ps (aj st)) (len:∀ds M Q E,S ds M Q E->ds.length=ps.length)
  (body:∀(A:l4) (outer:List IF) (s:ar) (E:XK) (Γ:Gz) (ds:List Dv) (Q':ZK) (E':ZX),P=Γ.P->w=Γ.w->K=Γ.K->tb=Γ.tb->bB k (A.deeper (envOfC x (aj st) s.heap.objs.size f fd.code))->S ds Γ.M0 Q' E'->
   ∃p,md Γ (fo bq P w K mg base N x (aj st) f fd.code A outer s Γ.H0 E).iE (bK st) p/\p (zEndsOf Γ.M0 Q') (zstart N ds) Γ.M0):FnOk P w K mg base bq (k+1) f fd ps (aR P w K tb S) :=by
 obtain ⟨oc,od,dV,kV,doc,pm,an,cD,ct,jP,rfl,lk,dG⟩:=D.ex
 refine yq lk dG sc (qT len) fun A outer s H vs Q E hr h=>?_
 obtain ⟨β,ds,M,Q',E',eP,ew,eK,et,m,rs,hS,q,_⟩:=h
 obtain ⟨p,hp,hq⟩:=body A outer s E ⟨β,M,H⟩ ds Q' E' eP.symm ew.symm eK.symm et.symm hr hS
 refine ⟨_,hp.iE,β,zstart N ds,M,zEndsOf M Q',oR (Γ:=⟨β,M,H⟩) m rs,hq,?_⟩
 have fin:∀d M' v H',Ex β M H M' H'->Rz β M' H' v d->ju M Q' d M'->Q v H':=fun d M' v H' x r h=>nN m q x r h
 exact ⟨fun bQ M' aH H' x zr h=>fin _ _ _ _ ⟨zr.ent,x.mz⟩ .av h,fun d M' v H' x e r h=>fin _ _ _ _ ⟨e,x.mz⟩ r h,fun _ _ _ _ _ _ h=>h,fun _ _ _ _ _ _ h=>h⟩
def FI (P:c8) (w:ff) (K:ba) (tb:b5) (f:ac) (o:im) (c:ac) (oc:im) (vcs:List V) (S:List Dv->bV):Sp:=fun vs H Q E=>∃(β:Bz) (ds b6:List Dv) (M:Mh) (Q':ZK) (E':ZX),β.P=P/\β.w=w/\β.K=K/\β.tb=tb/\Mz β M H/\aG β M H vs ds/\Rz β M H (.ref f) (.bP f o c oc vcs b6)/\S b6 ds M Q' E' /\
 (∀d M' v H',Ex β M H M' H'->Rz β M' H' v d->Q' d M'->Q v H')/\∀C M' H',Ex β M H M' H'->E' C M'->E (.ref C) none H'
theorem j4 {β:Bz} {M:Mh} {H:Hp} {v:V} {f c:ac} {o oc:im} {vs:List V} {ds:List Dv} (h:Rz β M H v (.bP f o c oc vs ds)):v=.ref f/\(∃u,H f=some (.bL o u))/\(∃u,H c=some (.bL oc u))/\aG β M H vs ds :=by
 cases h with
 |bP m e m2 e2 hl h=>exact ⟨rfl,⟨_,e⟩,⟨_,e2⟩,hl,h⟩
theorem KZ {Γ:Gz} {vs vcs:List V} {ds b6:List Dv} (m:Mz Γ.toBz Γ.M0 Γ.H0) (rs:aG Γ.toBz Γ.M0 Γ.H0 vs ds) (rc:aG Γ.toBz Γ.M0 Γ.H0 vcs b6):Zr Γ Γ.toBz Γ.M0 (ds.map some++b6.map some) (vs.map some++vcs.map some) Γ.H0:=
 ⟨rfl,rfl,rfl,rfl,fun _ h=>h,m.wf,.refl,m,by simp [rs.len,rc.len],fun i d e=>by
  rw [<- wT,ca,li] at e
  obtain ⟨d2,e,e2⟩:=e
  cases e2
  obtain ⟨v,hv,r⟩:=(rs.append rc).get e
  exact ⟨v,by rw [<- wT,ca,hv];rfl,r⟩⟩
theorem QZ {fs:List bi} {qual:bi} {scope:wn} {params:IT} {body:cr} {c:ac} {o oc:im} {aQ:List (bi×ac)} {vcs:List V} {Sc:List Dv->bV} (L:y8 params body scope qual o c oc aQ fd) (sc:ly ps fs scope) (C:qX base fs aQ vcs) (dD:vcs.length=fs.length)
  (len:∀b6 ds M Q E,Sc b6 ds M Q E->ds.length=ps.length)
  (hb:∀(A:l4) (outer:List IF) (s:ar) (E:XK) (Γ:Gz) (b6 ds:List Dv) (Q':ZK) (E':ZX),P=Γ.P->w=Γ.w->K=Γ.K->tb=Γ.tb->bB k (A.deeper (On qual scope s.heap.objs.size f (.ref c) aQ))->Sc b6 ds Γ.M0 Q' E'->
   ∃p,QE Γ (y7 bq P w K mg base (ps++fs) qual scope f (.ref c) aQ A outer s Γ.H0 E).iE body p/\p (ds.map some++b6.map some) Γ.M0 (ju Γ.M0 Q')):FnOk P w K mg base bq (k+1) f fd ps (FI P w K tb f o c oc vcs Sc) :=by
 refine KY L sc C dD (fun vs H Q E hS=>by obtain ⟨β,ds,b6,M,Q',E',_,_,_,_,m,rs,rc,s,_⟩:=hS;exact rs.len.trans (len _ _ _ _ _ s)) (fun vs H Q E hS=>by obtain ⟨β,ds,b6,M,Q',E',_,_,_,_,m,rs,rc,s,_⟩:=hS;obtain ⟨_,h1,h2,_⟩:=j4 rc;exact ⟨h1,h2⟩) fun A outer s H vs Q E hr h=>?_
 obtain ⟨β,ds,b6,M,Q',E',eP,ew,eK,et,m,rs,rc,hS,q,_⟩:=h
 obtain ⟨p,hp,hq⟩:=hb A outer s E ⟨β,M,H⟩ b6 ds Q' E' eP.symm ew.symm eK.symm et.symm hr hS
 obtain ⟨_,_,_,FJ⟩:=j4 rc
 exact ⟨_,hp.iE,β,_,M,_,KZ (Γ:=⟨β,M,H⟩) m rs FJ,hq,fun d M' v H' x r h=>nN m q x r h⟩
end
section
variable {X:Cx} {Γ:Gz} {β:Bz} {CX:fX} {k:Nat} {f:ac} {fd:i0} {ps:List bi} {E:XK} {E':ZX} {x:bi} {p pos:ul} {e:cr} {es:List cr} {za:dW} {P:c8} {w:ff} {tb:b5} {K:ba}
def zCallL (f:ac) (o:im) (c:ac) (oc:im) (vcs:List V) (S:List Dv->bV) (E':ZX) (i:Nat) (za:dW):aI:=fun ρ M Q=>match ρ[i]? with
 |some (some (.bP f' o' c' K0 K1 b6))=>(f'=f/\o'=o/\c'=c/\K0=oc/\K1=vcs)/\za ρ M fun ds M1=>S b6 ds M1 Q E'
 |_=>False
theorem D8 {c:ac} {o oc:im} {vcs:List V} {S:List Dv->bV} {i:Nat} (F:FnOk X.prog X.w X.K X.mg X.base CX k f fd ps (FI P w K tb f o c oc vcs S)) (ho:∃oc od fd sl,o=⟨oc,od,.func fd,sl⟩) (hr:bB k X.A) (hN:X.N[i]?=some x) (hv:o9 X.env.scope x) (hb:Binds X.K fd ps [])
  (hx:Passes CX X E) (hP:P=Γ.P) (hw:w=Γ.w) (hK:K=Γ.K) (ht:tb=Γ.tb) (hE:XR Γ E' E) (ha:QA Γ X (e::es) za) (eS:(x==("__debug__" : bi))=false :=by decide) (dG:(x==("__classdict__" : bi))=false :=by decide)
  (he:starEach (e::es) X.env=(false,eval e X.env)::starEach es X.env :=by rfl) (cY:(backTo pos (starEach es X.env)).any (·.1)=false :=by rfl):QE Γ X (.Call (.Name x p) (e::es) [] pos) (zCallL f o c oc vcs S E' i za):=
 (D7 F ho hr hN hv hb hx ha eS dG he cY).imp fun σ H Q ⟨β,ρ,M,Q',zr,h,q⟩=>by
  subst hP hw hK ht
  unfold zCallL at h
  split at h
  ·rename_i f' o' c' K0 K1 b6 hi
   obtain ⟨⟨rfl,rfl,rfl,rfl,rfl⟩,h⟩:=h
   obtain ⟨v,hv,r⟩:=zr.at' i _ hi
   obtain ⟨rfl,h1,_,_⟩:=j4 r
   refine ⟨hv,h1,β,ρ,M,_,zr,h,fun ds M1 vs H1 x1 r1 h2=>?_⟩
   have r':=r.ex x1
   obtain ⟨_,h3,_,_⟩:=j4 r'
   exact ⟨h3,β,ds,b6,M1,Q',E',zr.eP,zr.ew,zr.eK,zr.et,x1.mz,r1,r',h2,fun d M2 v H2 x2 r2 h2=>q _ _ _ _ (x1.trans x2) r2 h2,fun C M2 H2 x2 h2=>hE C M2 H2 (qd zr.ent zr.sub zr.eP zr.ew zr.eK zr.et (x1.trans x2)) h2⟩
  ·exact h.elim
end
theorem Ex.Q0 {X:Cx} {P:ac} {β:Bz} {M:Mh} {H H2:Hp} {f c:ac} {o oc:im} (m:Mz β M H) (hp:∀q∈β.tb.l,q.1=P->q.2=fP X) (n:KP X P H H2 f o c oc):Ex β M H M H2 :=by
 obtain ⟨new,at',cd,lm,keep,⟨ps,hP⟩⟩:=n
 obtain ⟨ps2,SW,_⟩:=id lm
 have nP:∀b u,H b=some u->(∀ps,u≠.lam ps)->b≠P:=fun b u e q z=>by rw [z,hP] at e;cases e;exact q _ rfl
 have ey:Ey M H M H2:=⟨fun b u _ e=>by
  by_cases hb:b=P
  ·subst hb
   rw [hP] at e;cases e
   exact .inr ⟨_,.inr (.inl ⟨ps,ps2,rfl,rfl⟩),SW⟩
  ·exact .inl (keep b u e hb),fun _ h=>h,fun _ _ h _=>h⟩
 refine ⟨ey,fun a u e=>?_,fun q hq=>?_,fun a ha=>?_,m.apart,fun q hq=>?_⟩
 ·have z:=m.obj a u e
  have k:∀u,H a=some u->L2.oN u=true->H2 a=some u:=fun u h hu=>keep a u h (nP a u h (by intro ps z;subst z;cases hu))
  cases u with
  |lst ds=>obtain ⟨vs,z,l,r⟩:=z;exact ⟨vs,k _ z rfl,l,fun i v d a b=>(r i v d a b).ey ey⟩
  |dk ks ds=>obtain ⟨vs,z,hk,l,r⟩:=z;exact ⟨vs,k _ z rfl,hk,l,fun i v d a b=>(r i v d a b).ey ey⟩
  |dt ks ds=>obtain ⟨vs,z,hk,l,r⟩:=z;exact ⟨vs,k _ z rfl,hk,l,fun i v d a b=>(r i v d a b).ey ey⟩
  |cI=>obtain ⟨c,n,z,r⟩:=z;exact ⟨c,n,k _ z rfl,r⟩
 ·obtain ⟨ps,e,t⟩:=m.tabs q hq
  exact ⟨ps,keep _ _ e (nP _ _ e (by intro ps z;cases z)),t⟩
 ·obtain ⟨u,e,n⟩:=m.hids a ha
  exact ⟨u,keep _ _ e (nP _ _ e (by intro ps z;subst z;cases n)),n⟩
 ·by_cases hb:q.1=P
  ·have:q=(P,fP X):=Prod.ext hb (hp q hq hb)
   rw [this];exact lm
  ·exact (m.lams q hq).keep (fun _ e=>keep _ _ e hb) fun c' _ _ e=>keep _ _ e (nP _ _ e (by intro ps z;cases z))
section
variable {X:Cx} {Γ:Gz} {β:Bz} {CX:fX} {k:Nat} {f:ac} {fd:i0} {ps:List bi} {E:XK} {E':ZX} {x:bi} {p pos mZ:ul} {e1 e2:cr} {rest:List cr} {z1 z2:aI} {zr:dW} {P:c8} {w:ff} {tb:b5} {K:ba}
def qj:List Nat->aA->Option (List Dv)
 | [],_=>some []
 |i::is,ρ=>match ρ[i]?,qj is ρ with|some (some d),some ds=>some (d::ds)|_,_=>none
theorem xT {Γ:Gz} {M:Mh} {ρ:aA} {σ:St} {H:Hp} (z:Zr Γ β M ρ σ H):∀{idx:List Nat} {b6:List Dv},qj idx ρ=some b6->∃vcs,aG β M H vcs b6/\vcs.length=idx.length/\∀(j i:Nat) (v:V),idx[j]?=some i->vcs[j]?=some v->σ[i]?=some (some v)
 | [],b6,h=>by cases h;exact ⟨[],.nil,rfl,fun j i v h=>by simp at h⟩
 |i::is,b6,h=>by
          unfold qj at h
          split at h
          ·rename_i d ds h1 h2
           cases h
           obtain ⟨v,hv,r⟩:=z.at' i d h1
           obtain ⟨vcs,rs,l,q⟩:=xT z h2
           refine ⟨v::vcs,.cons r rs,by simp [l],fun j i' u a b=>?_⟩
           cases j with
           |zero=>simp at a b;subst a b;exact hv
           |succ j=>exact q j i' u (by simpa using a) (by simpa using b)
          ·cases h
def vA (X:Cx) (params:IT) (body:cr) (scope:wn) (idx:List Nat) (fs:List bi) (S:gc->bV) (dd:List Dv) (E':ZX) (z1 z2:aI) (zr:dW):aI:=fun ρ M Q=>z1 ρ M fun d1 M1=>z2 ρ M1 fun d2 M2=>match qj idx ρ with
 |some b6=>∀f o c oc aQ vcs,vcs.length=idx.length->KO X params body scope o c oc aQ->zr ρ M2 fun es M3=>∀b',(∀b o,X.base.get? b=some o->b'.get? b=some o)->qX b' fs aQ vcs->S b' (d1::d2::.bP f o c oc vcs b6::es++dd) M3 Q E'
 |none=>False
theorem y9 {params:IT} {body:cr} {scope:wn} {idx:List Nat} {fs:List bi} {S:gc->bV} {fy:List V} {dd:List Dv} {ds:List al} {PT cX:ac} (dF:X.env.code=.ref cX) (dG:nw X.base cX PT) (de:∃bm ob,UM X.base mainGlobals X.mg bm ob) (tX:defaultsOf params X.env=([],[]))
  (nC:∀n,(n,sK)∈scope.names->X.env.kindOf n=some .cell\/X.env.kindOf n=some .free) (SX:∀(j:Nat) (n:bi),fs[j]?=some n->(n,sK)∈scope.names/\X.env.scope.names.lookup n=some .cell/\∃i,idx[j]?=some i/\X.N[i]?=some n)
  (iF:(PT,fP X)∈Γ.tb.l) (K2:∀q∈Γ.tb.l,q.1=PT->q.2=fP X)
  (F:∀b',(∀b o,X.base.get? b=some o->b'.get? b=some o)->FnOk X.prog X.w X.K X.mg b' CX k f fd ps (aR P w K tb (S b'))) (hr:bB k X.A) (pf:∀x,X.fn x=true) (hg:Gl X x) (hm:X.mg x=some (.ref f)) (hk:AT X.K (.ref f)=true) (hb:Binds X.K fd ps ds) (hd:Vals fy ds) (SY:∀β M H,aG β M H fy dd)
  (hx:Passes CX X E) (hP:P=Γ.P) (hw:w=Γ.w) (hK:K=Γ.K) (ht:tb=Γ.tb) (hE:XR Γ E' E) (h1:QE Γ X e1 z1) (h2:QE Γ X e2 z2) (h3:QA Γ X rest zr) (eS:(x==("__debug__" : bi))=false :=by decide)
  (s1:starEach (e1::e2::.Lambda params body scope mZ::rest) X.env=(false,eval e1 X.env)::starEach (e2::.Lambda params body scope mZ::rest) X.env :=by rfl)
  (s2:starEach (e2::.Lambda params body scope mZ::rest) X.env=(false,eval e2 X.env)::starEach (.Lambda params body scope mZ::rest) X.env :=by rfl)
  (s3:starEach (.Lambda params body scope mZ::rest) X.env=(false,eval (.Lambda params body scope mZ) X.env)::starEach rest X.env :=by rfl)
  (cY:(backTo pos (starEach (e2::.Lambda params body scope mZ::rest) X.env)).any (·.1)=false :=by rfl) :
  QE Γ X (.Call (.Name x p) (e1::e2::.Lambda params body scope mZ::rest) [] pos) (vA X params body scope idx fs S dd E' z1 z2 zr):=
 (D6 F hr pf hg hm hk hb hd hx (nF h1 (nF h2 (nF (KR dF dG de tX nC) h3 s3) s2) s1) eS s1 cY).imp fun σ H Q ⟨β,ρ,M,Q',jy,h,q⟩=>by
  subst hP hw hK ht
  refine ⟨β,ρ,M,_,jy,h,fun d1 M1 v1 H1 x1 r1 h1=>⟨β,ρ,M1,_,jy.step x1,h1,fun d2 M2 v2 H2 x2 r2 h2=>?_⟩⟩
  have Fx:=(jy.step x1).step x2
  have Q1:(PT,fP X)∈β.tb.l :=by rw [jy.et];exact iF
  have Q2:∀q∈β.tb.l,q.1=PT->q.2=fP X :=by rw [jy.et];exact K2
  refine ⟨x2.mz.lams _ Q1,fun lf o c oc aQ H3 hO hN=>?_⟩
  split at h2
  ·rename_i b6 NC
   obtain ⟨vcs,FJ,lcs,at'⟩:=xT Fx NC
   have x3:=Ex.Q0 x2.mz Q2 hN
   have Kp:=Fx.step x3
   refine ⟨β,ρ,M2,_,Kp,h2 lf o c oc aQ vcs lcs hO,fun es M4 ws H4 x4 r4 h4=>?_⟩
   intro b' B
   obtain ⟨u1,a1⟩:=hN.at'
   obtain ⟨u2,a2⟩:=hN.cd
   have Pb:=x3.mz
   have S0:Fz β M2 lf:=x2.mz.fz hN.new
   have Q3:∀a o u,H3 a=some (.bL o u)->a ∉ β.hid:=fun a o u e z=>by
    obtain ⟨w,e',n⟩:=Pb.hids a z
    rw [e] at e';cases e';cases n
   have Q4:Rz β M2 H3 (.ref lf) (.bP lf o c oc vcs b6):=.bP S0 a1 ⟨Pb.kG a2 rfl,Q3 _ _ _ a2⟩ a2 FJ.len fun i v d a b=>(FJ.at' i v d a b).ex x3
   have Q5:qX b' fs aQ vcs :=by
    refine ⟨fun n m a e e'=>B.inj n m a (hO.cells n a e) (hO.cells m a e'),fun n a e=>B.cells n a (hO.cells n a e),fun j n v hj hv=>?_⟩
    obtain ⟨fr,kc,i,hi,hn⟩:=SX j n hj
    obtain ⟨a,u,e1,e2,e3⟩:=B.cell i n v hn (at' j i v hi hv) kc
    obtain ⟨a',e'⟩:=hO.has n fr
    have:=(hO.cells n a' e').symm.trans e1
    cases this
    exact ⟨a,u,e',e2,e3⟩
   have vc:=x2.trans (x3.trans x4)
   have S1:=x3.trans x4
   refine ⟨β,_,M4,Q',E',jy.eP,jy.ew,jy.eK,jy.et,x4.mz,?_,h4 b' B.ext Q5,fun d M5 v H5 x5 r5 h5=>q _ _ _ _ (x1.trans (vc.trans x5)) r5 h5,fun C M5 H5 x5 h5=>hE C M5 H5 (qd jy.ent jy.sub jy.eP jy.ew jy.eK jy.et (x1.trans (vc.trans x5))) h5⟩
   have rs:aG β M4 H4 (v1::v2::.ref lf::ws++fy) (d1::d2::.bP lf o c oc vcs b6::es++dd):=.cons (r1.ex vc) (.cons (r2.ex S1) (.cons (Q4.ex x4) (r4.append (SY _ _ _))))
   exact rs
  ·exact h2.elim
end
end L2
namespace L2
open PySem PySem.Spec PyProof.Rows
theorem BH {P:c8} {w:ff} {K:ba} {mg mb:bi->Option al} {CX:fX} {k:Nat} {fa a:ac} {fd:i0} {x:bi} {sp:Sp} {aw:ar} {vs:List al} {ns:List Int} {tabs lts:List ac}
  (KX:K.In aw.heap) (dU:aw.heap.Ns mainGlobals mg) (hb:aw.heap.Ns builtinsNs mb) (S2:∀x:bi,x ≠ "__name__" -> mb x=bootBuiltins x) (K3:aw.heap.NoLimit) (hg:aw.gens=#[])
  (ha:aw.heap.get? a=some {cls:=.type "list",data:=.seq vs.toArray}) (hi:RS vs ns) (hl:ns.length<=sizeLine) (hr:bB k callerA)
  (jk:∀p∈tabs++lts,aw.heap.get? p=some (No #[])/\isCodeTable aw.heap p) (Q6:∀p∈tabs,p ∉ lts) (BI:VF K=true) (de:∃bm ob,UM aw.heap mainGlobals mg bm ob)
  (F:∀base:gc,K.In base->base.Ns mainGlobals mg->(∃bm ob,UM base mainGlobals mg bm ob)->(∀c p,nw aw.heap c p->nw base c p)->FnOk P w K mg base CX k fa fd [x] sp)
  (ND:∀(s:ar) (u:al),V2 s fd ⟨[u],[]⟩ [(x,u)])
  (jQ:∀H:Hp,(∀p∈tabs,Tb p H)->(∀p∈lts,H p=some (.lam #[]))->bN K H a (ns.map V.int)->sp [.ref a] H (fun v H'=>v=.bl true/\∀p∈lts,∃ps,H' p=some (.lam ps)) fun _ _ _=>False)
  (K4:∀H e s',CX [] H aw (fun _ _ _=>False) e s'->False) :
  codeAny (model P w) callerA (.call (.ref fa) ⟨[.ref a],[]⟩) (fun r s'=>r=.ok (.ret (.bool true))/\OldK aw.heap s'.heap/\s'.os=aw.os/\Wm s'.gens) aw :=by
 have rv:=rT hi
 have Q7:=hi.length
 have pJ:a ∉ tabs++lts:=fun z=>by
  have e:=(jk a z).1
  rw [ha] at e
  cases e
 have core:∀H:Hp,(∀b u,H b=some u->(b=a/\∃o xs,u=.bL o (.lst xs))\/(b∈tabs++lts/\(u=.cF #[]/\b∈tabs\/u=.lam #[]/\b∈lts)))->(∀p∈tabs,H p=some (.cF #[]))->(∀p∈lts,H p=some (.lam #[]))->bN K H a (ns.map V.int)->cL P w H aw.heap->(H a≠none->K.lookup a=none)->
   codeAny (model P w) callerA (.call (.ref fa) ⟨[.ref a],[]⟩) (fun r s'=>r=.ok (.ret (.bool true))/\OldK aw.heap s'.heap/\s'.os=aw.os/\Wm s'.gens) aw :=by
  intro H hO S3 S4 hS hok hK
  have nU:∀{b:ac} {o:im},aw.heap.get? b=some o->H b=none->(jb aw.heap H).get? b=some o:=fun e n=>CW e n
  have no:∀{b:ac} {o:im},aw.heap.get? b=some o->(∀n,o.data≠.seq vs.toArray n)->o≠No #[]->H b=none:=fun {b o} e d1 d2=>by
   cases q:H b with
   |none=>rfl
   |some u=>
    rcases hO b u q with ⟨e',_⟩|⟨gO,_⟩
    ·subst e'
     rw [ha] at e;cases e
     exact absurd rfl (d1 _)
    ·rw [(jk b gO).1] at e
     exact absurd (ij e).symm d2
  have S5:∀{b:ac} {o:im} {es:Array UF} {ep:Nat},aw.heap.get? b=some o->o.data=.dict es ep->H b=none:=fun {b o es ep} e d=>no e (fun n z=>by rw [d] at z;cases z) fun z=>by rw [z] at d;cases d
  have BJ:∀{b:ac} {m:bi->Option al},aw.heap.Ns b m->(jb aw.heap H).Ns b m:=fun {b m} hS=>by obtain ⟨o,es,ep,e,d,r⟩:=hS;exact ⟨o,es,ep,nU e (S5 e d),d,r⟩
  have Pg:K.In (jb aw.heap H):=fun b o e=>nU (KX b o e) (by
   cases q:H b with
   |none=>rfl
   |some u=>
    rcases hO b u q with ⟨e',_⟩|⟨gO,_⟩
    ·subst e'
     rw [hK (by rw [q];simp)] at e;cases e
    ·have e1:=KX b o e
     have e2:=(jk b gO).1
     rw [e1] at e2
     have e3:o=No #[]:=ij e2
     have q2:=wP.mp BI (b,o) (PySem.W.kb_mem e)
     simp only [Bool.or_eq_true,decide_eq_true_eq,beq_iff_eq] at q2
     rcases q2 with (q2|q2)|q2
     ·rw [e3] at q2;exact absurd rfl q2
     ·obtain ⟨mc,⟨oc,es,ep,ho,hd,_⟩,_⟩:=K3
      rw [<- q2,e1] at ho
      cases ho
      rw [e3] at hd;cases hd
     ·obtain ⟨oc,es,ep,ho,hd,_⟩:=id dU
      rw [<- q2,e1] at ho
      cases ho
      rw [e3] at hd;cases hd)
  have hM:Mod K mg (jb aw.heap H):=⟨Pg,BJ dU,⟨mb,BJ hb,S2⟩,let ⟨mc,h1,h2⟩:=K3;⟨mc,BJ h1,h2⟩⟩
  have hB:∃bm ob,UM (jb aw.heap H) mainGlobals mg bm ob :=by
   obtain ⟨bm,ob,B⟩:=de
   exact ⟨bm,ob,BJ B.ns,B.name,B.ne,nU B.obj (no B.obj (fun n z=>by rw [B.data] at z;cases z) fun z=>by have:=B.data;rw [z] at this;cases this),B.cls,B.dict,B.data⟩
  have hC:∀c p,nw aw.heap c p->nw (jb aw.heap H) c p:=fun c p ⟨o,u0,file,tf,flags,tg,S6,text,tt,e1,e2,e3,r⟩=>
   ⟨o,u0,file,tf,flags,tg,S6,text,tt,nU e1 (no e1 (fun n z=>by rw [e3] at z;cases z) fun z=>by rw [z] at e2;cases e2),e2,e3,r⟩
  have e0:qE P w K mg (jb aw.heap H) callerA [] aw H:=⟨rfl,hM,fun b o e=>F8 e,UP (zQ _ _),trivial,fun b hb=>absurd (show b∈([]:List ac) from hb) (by simp),hok,.of_eq hg⟩
  refine UL ((F _ Pg (BJ dU) hB hC).run callerA [] aw H ⟨[.ref a],[]⟩ [.ref a] [.ref a] _ _ hr e0 (ND aw (.ref a)) (.cons rfl .nil) (jQ H (fun p hp=>⟨#[],S3 p hp,trivial⟩) S4 hS)) fun r s' h=>?_
  cases r with
  |error e=>exact (K4 H e s' h).elim
  |ok fl=>
   cases fl with
   |next=>exact Co h
   |brk=>exact Co h
   |cont=>exact Co h
   |ret u=>
    obtain ⟨v,H',os,bare,un,D9,r',q⟩:=h
    obtain ⟨q',qL⟩:=q
    subst q'
    obtain rfl:u=Wq true:=r'
    have all:∀b o,aw.heap.get? b=some o->asItWas aw.heap s'.heap b o/\∃o',s'.heap.get? b=some o':=fun b o e=>by
     cases q:H b with
     |none=>
      have:=un.keep b o e q (by intro z;exact absurd (show b∈([]:List ac) from z) (by simp)) (by simp)
      exact ⟨.inl this,_,this⟩
     |some u=>
      rcases hO b u q with ⟨_,ob,xs,z⟩|⟨gO,z⟩
      ·subst z
       have z2:=un.frzs b ob _ q
       obtain ⟨e1,_⟩:=hok b _ q
       obtain ⟨e2,_⟩:=D9 b _ z2
       rw [e] at e1;cases e1
       exact ⟨.inl e2,_,e2⟩
      ·have e2:∃more,s'.heap.get? b=some {cls:=.none,data:=.fields (#[]++more)}:=by
        rcases z with ⟨z,_⟩|⟨z,pP⟩
        ·subst z
         obtain ⟨more,z2⟩:=un.tbls b #[] q
         exact ⟨more,D9 b _ z2⟩
        ·obtain ⟨ps,z2⟩:=qL b pP
         refine ⟨ps,?_⟩
         have:=D9 b _ z2
         rw [show (#[]:Array al)++ps=ps by simp]
         exact this
       obtain ⟨more,e2⟩:=e2
       have e1:=(jk b gO).1
       rw [e] at e1
       obtain rfl:o=No #[]:=ij e1
       exact ⟨.inr (.inl ⟨(jk b gO).2,rfl,#[],more,rfl,e2⟩),_,e2⟩
    exact ⟨rfl,⟨fun b o e=>(all b o e).1,fun b o e=>(all b o e).2⟩,os,bare.1⟩
 have K5:∀p∈tabs++lts,∀H:Hp,∀u,(u=.cF #[]/\p∈tabs\/u=.lam #[]/\p∈lts)->ObjOk P w H aw.heap p u:=fun p hp H u hu=>by
  rcases hu with ⟨rfl,_⟩|⟨rfl,_⟩ <;> exact (jk p hp).1
 let T:Hp:=fun b=>if b∈lts then some (.lam #[]) else if b∈tabs then some (.cF #[]) else none
 have T1:∀b u,T b=some u->b∈tabs++lts/\(u=.cF #[]/\b∈tabs\/u=.lam #[]/\b∈lts):=fun b u z=>by
  by_cases h1:b∈lts
  ·have z':=(show T b=_ from if_pos h1).symm.trans z
   cases z'
   exact ⟨hX _ h1,.inr ⟨rfl,h1⟩⟩
  ·by_cases h2:b∈tabs
   ·have z':=(show T b=_ from (if_neg h1).trans (if_pos h2)).symm.trans z
    cases z'
    exact ⟨Ch _ h2,.inl ⟨rfl,h2⟩⟩
   ·have z':=(show T b=_ from (if_neg h1).trans (if_neg h2)).symm.trans z
    cases z'
 have T2:∀p∈tabs,T p=some (.cF #[]):=fun p hp=>(if_neg (Q6 p hp)).trans (if_pos hp)
 have T3:∀p∈lts,T p=some (.lam #[]):=fun p hp=>if_pos hp
 have Ta:T a=none:=(if_neg fun z=>pJ (hX _ z)).trans (if_neg fun z=>pJ (Ch _ z))
 cases hk:K.lookup a with
 |some o=>
  have e:=KX a o hk
  rw [ha] at e
  cases e
  exact core T (fun b u z=>.inr (T1 b u z)) T2 T3 (.inr ⟨_,vs.toArray,_,hk,rfl,rfl,rfl,by rw [db,Q7];exact hl,by simpa using rv⟩) (fun b u z=>K5 b (T1 b u z).1 _ u (T1 b u z).2) fun z=>absurd Ta z
 |none=>
  have na:∀p∈tabs++lts,p≠a:=fun p hp z=>pJ (z▸hp)
  refine core (upd T a (.bL {cls:=.type "list",data:=.seq vs.toArray} (.lst (ns.map V.int)))) (fun b u z=>?_) (fun p hp=>by rw [af (na p (Ch _ hp))];exact T2 p hp) (fun p hp=>by rw [af (na p (hX _ hp))];exact T3 p hp) (.inl (.inr ⟨_,ay⟩)) (fun b u z=>?_) fun _=>hk
  ·by_cases hb:b=a
   ·subst hb
    rw [ay] at z
    cases z
    exact .inl ⟨rfl,_,_,rfl⟩
   ·rw [af hb] at z
    exact .inr (T1 b u z)
  ·by_cases hb:b=a
   ·subst hb
    rw [ay] at z
    cases z
    exact ⟨ha,by rw [ci];exact hl,vs,_,rv,ha⟩
   ·rw [af hb] at z
    exact K5 b (T1 b u z).1 _ u (T1 b u z).2
def tT (K:ba) (x:bi):Option ac:=match lc K mainGlobals x with
 |some (some (.ref f))=>(match K.lookup f with
  |some ⟨_,_,.func fd,_⟩=>(match fd.code with
   | .ref c=>(match K.lookup c with
    |some ⟨_,_,.fields vs,_⟩=>(match vs[11]? with|some (ma p)=>some p|_=>none)
    |_=>none)
   |_=>none)
  |_=>none)
 |_=>none
abbrev TabOf (mg:bi->Option al) (h:gc) (y:bi) (p:ac):Prop:=∃f o fd c,mg y=some (.ref f)/\h.get? f=some o/\o.data=.func fd/\fd.code=.ref c/\nw h c p
theorem vB {K:ba} {mg:bi->Option al} {h:gc} {y:bi} {p q:ac} (X:K.In h) (G:h.Ns mainGlobals mg) (t:TabOf mg h y p) (e:tT K y=some q):p=q :=by
 obtain ⟨f,o,fd,c,e1,e2,e3,e4,oc,vs,_,_,_,_,_,_,_,g1,_,g3,g4,_⟩:=t
 unfold tT at e
 split at e
 ·rename_i f' dU
  have:=(DO X G dU).symm.trans e1
  cases this
  split at e
  ·rename_i K0 Uy Fj Oj K6
   have:=(X _ _ K6).symm.trans e2
   cases this
   cases e3
   rw [e4] at e
   dsimp only at e
   split at e
   ·rename_i a1 a2 u0 a3 S7
    have:=(X _ _ S7).symm.trans g1
    cases this
    cases g3
    rw [g4] at e
    cases e
    rfl
   ·cases e
  ·cases e
 ·cases e
def qY (K:ba) (gs ls:List bi):Bool:=gs.all fun x=>ls.all fun y=>match tT K x,tT K y with|some p,some q=>decide (p≠q)|_,_=>false
theorem xU {α β:Type} {F:α->β->Prop} {l:List α} {m:List β} (h:Cn F l m) {b:β} (hb:b∈m):∃a∈l,F a b :=by
 induction h with
 |nil=>simp at hb
 |cons x t ih=>
  rcases l3.mp hb with e|e
  ·subst e;exact ⟨_,jp,x⟩
  ·obtain ⟨a,ha,q⟩:=ih e
   exact ⟨a,gl _ ha,q⟩
theorem Ea {K:ba} {mg:bi->Option al} {h:gc} {gs ls:List bi} {tabs lts:List ac} (X:K.In h) (G:h.Ns mainGlobals mg) (d:qY K gs ls=true) (t1:Cn (TabOf mg h) gs tabs) (t2:Cn (TabOf mg h) ls lts):∀p∈tabs,p ∉ lts:=fun p hp hq=>by
 obtain ⟨x,hx,tx⟩:=xU t1 hp
 obtain ⟨y,hy,ty⟩:=xU t2 hq
 have:=wP.mp (wP.mp d x hx) y hy
 split at this
 ·rename_i p' q' e1 e2
  have a:=vB X G tx e1
  have b:=vB X G ty e2
  exact (of_decide_eq_true this) (a.symm.trans b)
 ·cases this
theorem Eb {l:Wi} {n k:Nat} {q:c8} {loose:List bi} {XP:(bi->Option al)->gc->Prop} {YP:ff->gc->Prop} {d:DefRec} {K:Wu->ba} {CX:fX} {sp:ba->List ac->List ac->Sp} {x:bi} {lX BK:List bi}
  (hn:l.most=some n) (S8:n<=sizeLine) (Al:d.params.defaults=[]) (hr:bB k callerA) (BI:∀w:ff,VF (K w.params)=true)
  (FK:∀y∈lX++BK,∃r∈recsOf q,r.name=y) (ow:∀w:ff,qY (K w.params) lX BK=true)
  (hY:∀(w:ff) (h:gc),YP w h->(K w.params).In h)
  (F:∀(w:ff) (mg:bi->Option al) (fa:ac) (h:gc) (tabs lts:List ac),(K w.params).In h->h.Ns mainGlobals mg->mg d.name=some (.ref fa)->
   Cn (TabOf mg h) lX tabs->Cn (TabOf mg h) BK lts->
   ∃fd:i0,(∀(s:ar) (u:al),V2 s fd ⟨[u],[]⟩ [(x,u)]) /\
    ∀base:gc,(K w.params).In base->base.Ns mainGlobals mg->(∃bm ob,UM base mainGlobals mg bm ob)->(∀c p,nw h c p->nw base c p)->FnOk l.prog w (K w.params) mg base CX k fa fd [x] (sp (K w.params) tabs lts))
  (jQ:∀(K:ba) (tabs lts:List ac) (H:Hp) (a:ac) (ns:List Int),lts.length=BK.length->ns.length<=n->(∀p∈tabs,Tb p H)->(∀p∈lts,H p=some (.lam #[]))->bN K H a (ns.map V.int)->sp K tabs lts [.ref a] H (fun v H'=>v=.bl true/\∀p∈lts,∃ps,H' p=some (.lam ps)) fun _ _ _=>False)
  (K4:∀(H:Hp) (s:ar) (e:al) (s':ar),CX [] H s (fun _ _ _=>False) e s'->False) :
  PySem.W.WalkO q loose XP YP l.row.toRowW d [] (fun f vs=>Wp f vs) :=by
 refine Ov.wq hn Al fun w s₀ aw mg mb fa o pm cd doc a vs ns G Y ho hd dG Am Dk hints hlen hg=>?_
 have KX:=hY w _ Y
 have tb:∀lX:List bi,(∀y∈lX,∃r∈recsOf q,r.name=y)->∃tabs,Cn (TabOf mg aw.heap) lX tabs/\∀p∈tabs,aw.heap.get? p=some (No #[])/\isCodeTable aw.heap p :=by
  intro lX
  induction lX with
  |nil=>intro _;exact ⟨[],.nil,fun p hp=>absurd hp (by simp)⟩
  |cons y r ih=>
   intro hm
   obtain ⟨tabs,h1,h2⟩:=ih fun z hz=>hm z (gl _ hz)
   obtain ⟨rr,S9,e⟩:=hm y jp
   obtain ⟨f,o',fd,c,p,a1,a2,a3,a4,a5,a6⟩:=G.T.tab rr S9
   rw [e] at a1
   refine ⟨p::tabs,.cons ⟨f,o',fd,c,a1,a2,a3,a4,.of a5 a6⟩ h1,fun z hz=>?_⟩
   rcases l3.mp hz with rfl|hz
   ·exact ⟨a6.2,a6.isCodeTable⟩
   ·exact h2 z hz
 obtain ⟨tabs,t1,t2⟩:=tb lX fun y hy=>FK y (Ch _ hy)
 obtain ⟨lts,u1,u2⟩:=tb BK fun y hy=>FK y (hX _ hy)
 obtain ⟨fd,hb,hF⟩:=F w mg fa _ tabs lts KX G.T.g Am t1 u1
 exact BH (lts:=lts) KX G.T.g G.T.b G.T.builtins G.T.nolimit hg Dk hints (uu hlen S8) hr (fun p hp=>(zd.mp hp).elim (t2 p) (u2 p)) (Ea KX G.T.g (ow w) t1 u1) (BI w) (PySem.W.bmod_of_top G.T) hF hb (fun H hO hL hS=>jQ _ tabs lts H a ns (SL u1).symm hlen hO hL hS) fun H e s'=>K4 H aw e s'
abbrev m4 (K:ba) (x:bi) (st:mv) (dv:al):Prop:=
 ∃(f:ac) (oc:al) (od:Option ac) (sl:Array (Option al)) (T:ac) (oT:im) (nT:Nat) (kV dc pm:al) (an:Option ac) (cd ct:al),
  lc K mainGlobals x=some (some (.ref f))/\K.lookup f=some ⟨oc,od,.func (xw x x (cN st) (bK st) (aj st) (.ref T) kV dc pm an cd ct),sl⟩/\FF K cd x=true/\AT K (.ref f)=true/\K.lookup T=some oT/\oT.data=.seq #[dv] nT
theorem BL {K:ba} {x:bi} {st:mv} {dv:al} {f:ac} {oc:al} {od:Option ac} {sl:Array (Option al)} {T:ac} {oT:im} {nT:Nat} {kV dc pm:al} {an:Option ac} {cd ct:al} (a:lc K mainGlobals x=some (some (.ref f)))
  (l:K.lookup f=some ⟨oc,od,.func (xw x x (cN st) (bK st) (aj st) (.ref T) kV dc pm an cd ct),sl⟩) (c:FF K cd x=true) (k:AT K (.ref f)=true) (t:K.lookup T=some oT) (u:oT.data=.seq #[dv] nT):m4 K x st dv:=⟨f,oc,od,sl,T,oT,nT,kV,dc,pm,an,cd,ct,a,l,c,k,t,u⟩
theorem m4.df {K:ba} {mg:bi->Option al} {h:gc} {x:bi} {st:mv} {dv:al} (d:m4 K x st dv) (X:K.In h) (G:h.Ns mainGlobals mg) (ps:List bi)
  (hb:∀(T:ac) (kV doc pm:al) (an:Option ac) (cD ct:al) (us:List al),us.length+1=ps.length->∃k,bindArgs (xw x x (cN st) (bK st) (aj st) (.ref T) kV doc pm an cD ct) ⟨us,[]⟩=seqItems? (.ref T)>>=k/\k (some #[dv])=pure (ps.zip (us++[dv])))
  (Fn:∀(T:ac) (kV doc pm:al) (an:Option ac) (cD ct:al) (us:List al),us.length=ps.length->∃k,bindArgs (xw x x (cN st) (bK st) (aj st) (.ref T) kV doc pm an cD ct) ⟨us,[]⟩=seqItems? (.ref T)>>=k/\k (some #[dv])=pure (ps.zip us)) :
  ∃f fd,FH K mg x st ps [dv] f fd :=by
 obtain ⟨f,oc,od,sl,T,oT,nT,kV,dc,pm,an,cd,ct,a,l,c,k,t,u⟩:=d
 refine ⟨f,_,⟨oc,od,.ref T,kV,dc,pm,an,cd,ct,sl,rfl,l,c⟩,k,fun s us hK hl=>?_,fun s us hK hl=>?_,DO X G a⟩
 ·obtain ⟨kk,h1,h2⟩:=hb T kV dc pm an cd ct us (by rw [tz] at hl;exact hl)
  exact PySem.W.binds_K hK rfl t u h1 h2
 ·rw [Cs] at hl ⊢
  obtain ⟨kk,h1,h2⟩:=Fn T kV dc pm an cd ct us hl
  exact PySem.W.binds_K hK rfl t u h1 h2
theorem Ec {K:ba} {tabs lts:List ac} {qs:List bi} {H:Hp} {a:ac} {ns:List Int} (hl:lts.length=qs.length) (hn:ns.length<=63) (hT:∀p∈tabs,Tb p H) (hL:∀p∈lts,H p=some (.lam #[])) (hS:bN K H a (ns.map V.int)) :
  spLaw K ⟨tabs,lts.zip qs⟩ [.ref a] H (fun v H'=>v=.bl true/\∀p∈lts,∃ps,H' p=some (.lam ps)) fun _ _ _=>False:=
 ⟨a,ns,rfl,hS,hn,hT,fun p hp=>⟨#[],hL p.1 (OL hp).1,trivial,fun pos cv e=>nomatch e⟩,fun H' h=>⟨rfl,fun p hp=>by
  obtain ⟨i,hi⟩:=mo.mp hp
  have h1:=(bv.mp hi).1
  exact h (p,qs[i]) (ii (i:=i) (AC.mpr ⟨hi,ag (by omega)⟩))⟩⟩
theorem BM {K:ba} {x:bi} {st:mv} {i:Int} {tk:Vc} {f:ac} {oc:al} {od:Option ac} {sl:Array (Option al)} {T:ac} {oT:im} {nT:Nat} {kV dc pm:al} {an:Option ac} {cd ct:al} (a:lc K mainGlobals x=some (some (.ref f)))
  (l:K.lookup f=some ⟨oc,od,.func (xw x x (cN st) (bK st) (aj st) (.ref T) kV dc pm an cd ct),sl⟩) (c:FF K cd x=true) (k:AT K (.ref f)=true) (t:K.lookup T=some oT) (u:oT.data=.seq #[.int i tk] nT):∃tk,m4 K x st (.int i tk):=⟨tk,BL a l c k t u⟩
structure m5 (h:gc) (d:ac) (es:Array UF) (ep:Nat):Prop where
 ex:∃o,h.get? d=some o/\o.cls=.type "dict" /\ o.data=.dict es ep
abbrev sG (d:ac) (i n ep:Nat):im:={cls:=.type "dict_keyiterator",dict:=none,data:=.fields #[.ref d,.int i 0,.int n 0,.int ep 0],slots:=#[]}
theorem BO (d:ac):¬ ((ma d==zw)=true):=fun z=>nomatch (show false=true from z)
section
variable {prog:c8} {w:ff} {A:l4} {E:al->ar->Prop} {s:ar} {d it:ac} {es:Array UF} {ep i:Nat}
theorem BP {Q:al->ar->Prop} (lo:(d==sysModules)=false) (r:m5 s.heap d es ep) (q:Q (.ref s.heap.objs.size) {s with heap:=s.heap.push (sG d 0 es.size ep)}) :
  wpAny (model prog w) A (pyIter (.ref d)) Q E s :=by
 obtain ⟨o,g,c,dt⟩:=r
 have ty:s.TypeIs (.ref d) "dict" := ⟨o,g,c⟩
 refine VT ty PySem.F.slot_dict_iter (wS PySem.F.slot_dict_iter ty PySem.F.entry_dict_iter ?_ (PySem.F.args_dict_iter_1 _))
 unfold u4.«dict.__iter__» u4.Dict.dictSlotNone
 refine ap (ap (wpAny_notOrdered_dict ty ?_))
 refine (show wpAny _ _ (pure (ma d)) _ _ s from br ?_)
 refine (show wpAny _ _ (u4.Dict.showsAll d>>=_) _ _ s from ?_)
 unfold u4.Dict.showsAll;rw [if_neg (by rw [lo];decide)]
 refine ap (br (ap (VY g dt (ap (Wj g dt ?_)))))
 refine ap (v6 (br ⟨_,rfl,"dict_keyiterator",_,⟨_,dL _ rfl,rfl⟩,AN.lookup,?_⟩))
 simpa [rawInt,sG] using q
theorem BQ {Q:Option al->ar->Prop} (gi:s.heap.get? it=some (sG d i es.size ep)) (r:m5 s.heap d es ep) (hi:i<es.size)
  (q:∀h',h'.get? it=some (sG d (i+1) es.size ep)->u7 it s.heap h'->Q (some es[i].key) {s with heap:=h'}):wpAny (model prog w) A (pyNext (.ref it)) Q E s :=by
 obtain ⟨o,g,c,dt⟩:=r
 have ty:s.TypeIs (.ref it) "dict_keyiterator" := ⟨_,gi,rfl⟩
 unfold pyNext
 refine ap (LP (ww (name:=rf "__next__") ty AN (wS AN ty PySem.F.entry_dict_keyiterator_next ?_ (PySem.F.args_dict_keyiterator_next_1 _))))
 refine ap (br (ap (ap ?_)))
 refine ap (GT ty (br (ap (Sk gi rfl ?_))))
 simp only [show u4.Dict_items.ownsTuple "dict_keyiterator" = false by decide,lp,if_false]
 refine (show wpAny _ _ (if (ma d==zw)=true then _ else _) _ _ s from ?_)
 rw [if_neg (BO d)]
 refine ap (br (ap (VY g dt ?_)))
 rw [if_neg (by simp)]
 refine ap (br (ap (Wj g dt ?_)))
 rw [if_neg (by simp)]
 refine br ?_
 simp only [show ¬ ((i:Int)<0) by omega,if_false,ss,CS hi]
 refine ap (ap (GT ty (br (ap (wpAny_isOneOf_keyiter ty ?_)))))
 refine (show wpAny _ _ (setField (.ref it) 1 (rawInt ((i:Int)+1))>>=_) _ _ s from ap (FS gi (by simp) fun h1 e1 b1=>?_))
 have e1:h1.get? it=some (sG d (i+1) es.size ep) :=by
  rw [e1];simp [sG,rawInt]
 refine ap (Db (ap (wpAny_isOneOf_keyiter (s:={s with heap:=h1}) ⟨_,e1,rfl⟩ ?_)))
 exact (show wpAny _ _ (pure es[i].key) _ _ _ from br (br ⟨_,rfl,br (q _ e1 b1)⟩))
theorem Ed {Q:Option al->ar->Prop} (hh:A.handled=none) (gi:s.heap.get? it=some (sG d i es.size ep)) (r:m5 s.heap d es ep) (hi:es.size<=i)
  (q:∀h',Vz it s.heap h'->Q none {s with heap:=h'}):wpAny (model prog w) A (pyNext (.ref it)) Q E s :=by
 obtain ⟨o,g,c,dt⟩:=r
 have ty:s.TypeIs (.ref it) "dict_keyiterator" := ⟨_,gi,rfl⟩
 unfold pyNext
 refine ap (LP (ww (name:=rf "__next__") ty AN (wS AN ty PySem.F.entry_dict_keyiterator_next ?_ (PySem.F.args_dict_keyiterator_next_1 _))))
 refine ap (br (ap (ap ?_)))
 refine ap (GT ty (br (ap (Sk gi rfl ?_))))
 simp only [show u4.Dict_items.ownsTuple "dict_keyiterator" = false by decide,lp,if_false]
 refine (show wpAny _ _ (if (ma d==zw)=true then _ else _) _ _ s from ?_)
 rw [if_neg (BO d)]
 refine ap (br (ap (VY g dt ?_)))
 rw [if_neg (by simp)]
 refine ap (br (ap (Wj g dt ?_)))
 rw [if_neg (by simp)]
 refine br ?_
 simp only [show ¬ ((i:Int)<0) by omega,if_false,ss,UY hi]
 refine ap (ap (GT ty (br ?_)))
 refine (show wpAny _ _ (setField (.ref it) 0 .none>>=_) _ _ s from ap (FS gi (by simp) fun h1 e1 b1=>?_))
 refine (show wpAny _ _ (newExc (.type "StopIteration") []>>=_) _ _ _ from ap ?_)
 simp only [newExc,newTuple]
 refine ap (v6 (ap (m:=firstArgMember _ _) (Vy (a:=zw) (by first|rfl|(simp only [firstArgMember];rfl)) (v6 ?_ (by size_fits)))) (by size_fits))
 simp only [raiseNew]
 refine ap (wpAny_handled ?_)
 rw [show A.in1.handled=none from hh]
 refine ap (br (wpAny_throw ?_))
 refine ap (U4 (T := "StopIteration") (b:=true) ⟨_,dL _ rfl,rfl⟩ isSubtype_stop (br (q _ ?_)))
 exact (b1.extBut.push _).push _
end
def FL (es:Array UF) (ps:List (V×V)):Prop:=es.size=ps.length/\∀(i:Nat) (p:V×V),ps[i]?=some p->∃hi:i<es.size,RelV p.1 es[i].key/\RelV p.2 es[i].val
inductive zb (H:Hp):HO->List (V×V)->Prop where
 |k (ao:List (Key×V)):zb H (.dK ao) (ao.map fun kv=>(kV kv.1,kv.2))
 |t (ao:List (List Key×V)) (bs:List ac) (hl:bs.length=ao.length) (h:∀(i:Nat) (b:ac) (kv:List Key×V),bs[i]?=some b->ao[i]?=some kv->H b=some (.tup (kv.1.map kV))):zb H (.dT ao) ((bs.map V.ref).zip (ao.map (·.2)))
theorem Ee {P:c8} {w:ff} {k:Key} {u:al} (h:(bJ P w).is k u=true):RelV (kV k) u :=by
 rcases b8 (k:=k) (v:=u) h with ⟨i,t,rfl,rfl⟩|⟨x,t,rfl,rfl⟩
 ·exact ⟨t,rfl⟩
 ·exact ⟨t,rfl⟩
theorem j5 {α β:Type} {F:α->β->Prop}:∀{l:List α} {m:List β} {i:Nat} {a:α},Cn F l m->l[i]?=some a->∃b,m[i]?=some b/\F a b
 |_,_,_,_,.nil,h=>by simp at h
 |_,_,0,_,.cons x _,h=>by simp at h;subst h;exact ⟨_,rfl,x⟩
 |_,_,i+1,_,.cons _ t,h=>by obtain ⟨b,e,q⟩:=j5 (i:=i) t (by simpa using h);exact ⟨b,by simpa using e,q⟩
section
variable {P:c8} {w:ff} {H:Hp} {h:gc} {a:ac} {u:HO}
structure Rows (H:Hp) (h:gc) (a:ac) (u:HO) (o:im) (es:Array UF) (ep:Nat) (ps:List (V×V)):Prop where
 obj:h.get? a=some o
 cls:o.cls=.type "dict"
 dict:o.dict=none
 data:o.data=.dict es ep
 lo:(a==sysModules)=false
 rel:FL es ps
 ps:zb H u ps
theorem Hh (ok:cL P w H h) (e:Rd H a u) (hu:jo u=true):∃o es ep ps,Rows H h a u o es ep ps :=by
 have q:=e.ok ok
 cases u with
 |dK ao=>
  obtain ⟨z,lo,vs,rel,o,es,ep,g,x,dt,hk,hp,hn⟩:=q
  refine ⟨o,es,ep,_,g,x.1,x.2.1,dt,lo,⟨?_,fun i p hi=>?_⟩,.k ao⟩
  ·have h1:=hp.length
   have h2:=rel.length
   simp only [ci,mT] at h1 ⊢
   omega
  ·rw [ca,li] at hi
   obtain ⟨kv,sH,rfl⟩:=hi
   obtain ⟨⟨k',v'⟩,hv,e1,e2⟩:=j5 rel sH
   have hl:i<es.size :=by
    have h1:=hp.length
    have h2:=(bv.mp hv).1
    simp only [mT] at h1
    omega
   obtain ⟨a1,a2⟩:=hp.get? (e:=es[i]) (by simp [hl]) hv
   refine ⟨hl,?_,?_⟩
   ·rw [e1];exact Ee a1
   ·rw [a2];exact e2
 |dT ao=>
  obtain ⟨z,lo,xs,rel,o,es,ep,g,x,dt,he,hn⟩:=q
  have Tc:ao.length=xs.length:=SL rel
  have Td:es.size=xs.length :=by
   have:=congrArg List.length he
   simpa using this
  refine ⟨o,es,ep,_,g,x.1,x.2.1,dt,lo,⟨?_,fun i p hi=>?_⟩,.t ao (xs.map (·.2.1)) (by rw [ci];exact Tc.symm) fun i b kv hb sH=>?_⟩
  ·simp only [T0,ci];omega
  ·rw [AC,BN,ca,ca,li,li] at hi
   obtain ⟨⟨x1,BR,e1⟩,⟨kv,sH,e2⟩⟩:=hi
   obtain ⟨x2,BU,_,_,r⟩:=j5 rel sH
   rw [BR] at BU
   cases BU
   have hl:i<es.size :=by rw [Td];exact (bv.mp BR).1
   have Ph:es[i]=entryOfKey (tupleKind (bJ P w)) x1 :=by
    have:es.toList[i]?=some (entryOfKey (tupleKind (bJ P w)) x1) :=by rw [he,ca,BR];rfl
    rw [LF,CS hl] at this
    exact ij this
   refine ⟨hl,?_,?_⟩
   ·rw [Ph,<- e1];rfl
   ·rw [Ph,<- e2];exact r
  ·rw [ca,li] at hb
   obtain ⟨x1,BR,rfl⟩:=hb
   obtain ⟨x2,BU,e1,e2,_⟩:=j5 rel sH
   rw [BR] at BU
   cases BU
   exact e2
 |_=>cases hu
end
inductive gR (a:ac) (o:im) (u:HO) (H:Hp):Hp->Prop where
 |now (e:H a=some u) (hu:jo u=true):gR a o u H (upd H a (.bL o u))
 |was (e:H a=some (.bL o u)):gR a o u H H
theorem gR.at {a:ac} {o:im} {u:HO} {H H2:Hp} (f:gR a o u H H2):H2 a=some (.bL o u) :=by
 cases f with
 |now e hu=>exact ay
 |was e=>exact e
section
variable {X:Cx} {pins:List (ac×im)} {σ:St} {H:Hp} {s:ar} {a:ac} {o:im} {u:HO}
theorem Inv.bL (I:Inv X pins σ H s) (e:H a=some u) (hu:jo u=true) (ho:s.heap.get? a=some o):Inv X pins σ (upd H a (.bL o u)) s :=by
 have nT:∀b v,H b=some v->jo v=false->b≠a:=fun b v q n z=>by rw [z,e] at q;cases q;rw [hu] at n;cases n
 have n0:∀b,H b=none->b≠a:=fun b q z=>by rw [z,e] at q;cases q
 have J:=I.un (t':=s.toks) (h':=s.heap) (H':=upd H a (.bL o u)) ⟨fun b v q n _ _=>q,fun b v q n _ _=>⟨v.slots,q⟩,fun b v q n _=>by rw [af (n0 b n)];exact n,fun b v q _=>⟨v,q⟩,fun b xs q=>by rw [af (nT b _ q rfl)];exact q,
  fun b v xs q=>by rw [af (nT b _ q rfl)];exact q,fun b qs q=>⟨#[],by rw [af (nT b _ q rfl),q];simp⟩⟩ fun b v q=>?_
 ·exact J
 ·by_cases hb:b=a
  ·subst hb
   rw [ay] at q;cases q
   exact ⟨ho,(I.hok b u e).b9 (fun _ _ _ z=>z) (fun c z=>by rw [af (nT c _ z rfl)];exact z) fun c xs z=>by rw [af (nT c _ z rfl)];exact z⟩
  ·rw [af hb] at q
   exact (I.hok b v q).b9 (fun _ _ _ z=>z) (fun c z=>by rw [af (nT c _ z rfl)];exact z) fun c xs z=>by rw [af (nT c _ z rfl)];exact z
theorem Inv.Hi (I:Inv X pins σ H s) (d:Rd H a u) (hu:jo u=true):∃o H2 es ep ps,gR a o u H H2/\Inv X pins σ H2 s/\Rows H s.heap a u o es ep ps :=by
 obtain ⟨o,es,ep,ps,R⟩:=Hh I.hok d hu
 rcases d with d|⟨o',d⟩
 ·exact ⟨o,_,es,ep,ps,.now d hu,I.bL d hu R.obj,R⟩
 ·have e:=(I.hok a _ d).1
  rw [R.obj] at e
  cases e
  exact ⟨o,H,es,ep,ps,.was d,I,R⟩
end
def K7 (a:ac) (o:im) (u:HO) (ks:List V):It:=⟨fun i H=>H a=some (.bL o u)/\i<ks.length,fun i H x H'=>H'=H/\ks[i]?=some x,fun i H=>H a=some (.bL o u)/\ks.length<=i⟩
section
variable {P:c8} {w:ff} {K:ba} {a it:ac} {o:im} {u:HO} {es:Array UF} {ep:Nat} {ps:List (V×V)}
theorem BV {tg:cr} (qh:o.cls=.type "dict") (Pj:o.data=.dict es ep) (rel:FL es ps) (fA:a≠it):Turn P w K tg (K7 a o u (ps.map (·.1))) [it] it (fun i h=>h.get? it=some (sG a i es.size ep)) where
 mem :=by simp
 obj:=fun i h st b hb=>by
  have e:b=it :=by simpa using hb
  subst e
  exact ⟨_,st,fun v z=>nomatch z⟩
 keep:=fun i h h' st k=>k it (by simp) _ st
 item :=by
  intro X hP hw hK hc i pins s σ H E I hf st hg
  subst hP hw hK
  obtain ⟨ha,hi⟩:=hg
  rw [ci] at hi
  have hr:m5 s.heap a es ep:=⟨o,(I.hok a _ ha).1,qh,Pj⟩
  obtain ⟨p,hp⟩:∃p,ps[i]?=some p:=⟨_,ag hi⟩
  obtain ⟨iG,r1,_⟩:=rel.2 i p hp
  obtain ⟨f0,f1,f2,f3,f4,f5⟩:=hf it (by simp)
  refine BQ st hr iG fun h' jO sb=>?_
  have I1:Inv X pins σ H {s with heap:=h'}:=I.turned (t':=s.toks) (fun b o hb e=>(sb.2 b hb).trans e) f0 f1 f3 f4 f5
  exact ⟨_,rfl,pz (s:={s with heap:=h'}) jO rfl rfl (by decide) ⟨p.1,H,I1,r1,⟨rfl,by rw [ca,hp];rfl⟩,jO,fun b hb=>(hf b hb).1⟩⟩
 done :=by
  intro X hP hw hK hc i pins s σ H E I hf st hg
  subst hP hw hK
  obtain ⟨ha,hi⟩:=hg
  rw [ci] at hi
  have hr:m5 s.heap a es ep:=⟨o,(I.hok a _ ha).1,qh,Pj⟩
  obtain ⟨f0,f1,f2,f3,f4,f5⟩:=hf it (by simp)
  exact Ed (I.ok.hd hc) st hr (by rw [rel.1];exact hi) fun h' eb=>⟨rfl,I.turned (t':=s.toks) (fun b o hb e=>eb b o hb e) f0 f1 f3 f4 f5⟩
 self:=fun _ i _ _ _ st h=>wpAny_pyIter_keyiter (d:=a) (i:=i) (n:=es.size) (ep:=ep) ⟨_,st,rfl,rfl⟩ h
end
end L2
namespace L2
open PySem PySem.Spec PySem.W PyProof.Rows
section
variable {X:Cx} {Γ:Gz} {K:ba}
theorem aG.rep {β:Bz} {M:Mh} {H:Hp} {vs:List V} {ds:List Dv} (r:aG β M H vs ds):∀k:Nat,aG β M H (r9 k vs).flatten (r9 k ds).flatten
 |0=>⟨rfl,fun i v d h=>by simp at h⟩
 |k+1=>by rw [xb,xb,GG,GG];exact r.append (aG.rep r k)
open Classical in
end
end L2
namespace L2
open PySem PySem.Spec PyProof.Rows
section
variable {X:Cx} {tg l:cr} {tl:TE}
def NF (tl:TE):TI:=fun σ H R=>tl σ H fun x H1=>∃a u,x=.ref a/\jo u=true/\Rd H1 a u/\∀o H2 ps,gR a o u H1 H2->zb H1 u ps->R (K7 a o u (ps.map (·.1))) H2
theorem Hj (hl:PE X l tl):PI X tg l (NF tl) :=by
 intro pins s σ H R I h
 refine thn (hl pins s σ H _ I h) fun v s1 ⟨x,H1,I1,r1,q1⟩=>?_
 obtain ⟨a,u,e,hu,hr,q⟩:=q1
 subst e
 cases r1
 obtain ⟨o,H2,es,ep,ps,f,I2,rw⟩:=I1.Hi hr hu
 have fA:a≠s1.heap.objs.size:=i4 (ge rw.obj)
 refine BP rw.lo ⟨o,rw.obj,rw.cls,rw.data⟩ ?_
 refine ⟨s1.heap.objs.size,[s1.heap.objs.size],_,_,H2,rfl,I2.kept (t':=s1.toks) fun b o e=>bn _ e,BV rw.cls rw.data rw.rel fA,dL _ rfl,fun b hb=>?_,q o H2 ps f rw.ps⟩
 have e:b=s1.heap.objs.size :=by simpa using hb
 subst e
 exact I2.kX (cb _) (I2.hok.fresh (cb _))
end
theorem Ex.bL {β:Bz} {M:Mh} {H H2:Hp} {a:ac} {o:im} {u:HO} (m:Mz β M H) (f:gR a o u H H2) (fz:Fz β M a):Ex β M H M H2 :=by
 cases f with
 |was e=>exact .refl m
 |now e hu=>
  have y:Ey M H M (upd H a (.bL o u)):=⟨fun b v hm hb=>by
   by_cases z:b=a
   ·subst z
    rw [e] at hb
    cases hb
    exact .inr ⟨_,.inr (.inr ⟨hu,_,rfl⟩),ay⟩
   ·exact .inl (by rw [af z];exact hb),fun _ h=>h,fun _ _ h _=>h⟩
  have nd:∀b v,H b=some v->jo v=false->b≠a:=fun b v q n z=>by rw [z,e] at q;cases q;rw [hu] at n;cases n
  refine ⟨y,⟨fun b v hb=>?_,fun p hp=>?_,fun b hb=>?_,m.apart,fun p hp=>?_⟩⟩
  ·have xV:b≠a:=fun z=>by rw [z,fz.1] at hb;cases hb
   have q:=m.obj b v hb
   cases v with
   |cI=>
    obtain ⟨c,k,e2,r⟩:=q
    exact ⟨c,k,by rw [af xV];exact e2,r⟩
   |lst ds=>
    obtain ⟨us,e2,ru⟩:=q
    exact ⟨us,by rw [af xV];exact e2,ru.len,fun i w d p q=>(ru.at' i w d p q).ey y⟩
   |dk ks ds=>
    obtain ⟨us,e2,hk,ru⟩:=q
    exact ⟨us,by rw [af xV];exact e2,hk,ru.len,fun i w d p q=>(ru.at' i w d p q).ey y⟩
   |dt ks ds=>
    obtain ⟨us,e2,hk,ru⟩:=q
    exact ⟨us,by rw [af xV];exact e2,hk,ru.len,fun i w d p q=>(ru.at' i w d p q).ey y⟩
  ·obtain ⟨ps,e2,t⟩:=m.tabs p hp
   exact ⟨ps,by rw [af (nd _ _ e2 rfl)];exact e2,t⟩
  ·obtain ⟨v,e2,n⟩:=m.hids b hb
   have xV:b≠a:=fun z=>fz.2 (by rw [<- z];exact hb)
   exact ⟨v,by rw [af xV];exact e2,n⟩
  ·exact (m.lams p hp).keep (fun ps e2=>by rw [af (nd _ _ e2 rfl)];exact e2) fun c oc v e2=>by rw [af (nd _ _ e2 rfl)];exact e2
def qZ:Key->Dv
 | .inl i=>.int i
 | .inr z=>.str z
def ziKeys (p:aI):fm:=fun ρ M R=>p ρ M fun d M1=>match d with | .dk ks _=>R (ks.map qZ) M1 | .dt ks _=>R (ks.map fun k=>.tup (k.map qZ)) M1|_=>False
section
variable {X:Cx} {Γ:Gz} {β:Bz} {M:Mh} {H:Hp} {tg l:cr} {p:aI}
theorem K8 (k:Key):Rz β M H (kV k) (qZ k) :=by
 cases k with
 |inl i=>exact .int i
 |inr z=>exact .str z
theorem vC (ks:List Key):aG β M H (ks.map kV) (ks.map qZ):=⟨by simp,fun i v d a b=>by
 rw [ca] at a b
 cases e:ks[i]? with
 |none=>rw [e] at a;cases a
 |some k=>rw [e] at a b;cases a;cases b;exact K8 k⟩
theorem sI {a:ac} {o:im} {u:HO} {vs:List V} (h:H a=some (.bL o u)):Runs (K7 a o u vs) vs H:=fun i=>⟨fun hi=>⟨⟨h,hi⟩,fun v H' q=>q⟩,fun hi=>⟨h,hi⟩⟩
theorem nV {α γ:Type}:∀{ks:List α} {vs:List γ},ks.length=vs.length->(ks.zip vs).map (·.1)=ks
 | [],[],_=>rfl
 |k::ks,v::vs,h=>by rw [Pc,wv,nV (by simpa using h)]
theorem Hk (hl:QE Γ X l p):QI Γ X tg l (ziKeys p):=(Hj hl).imp fun σ H R ⟨β,ρ,M,R',zr,h,q⟩=>⟨β,ρ,M,_,zr,h,fun d M1 v H1 x1 r1 h1=>by
 revert h1
 split
 ·intro h1
  rename_i ks ds
  cases r1 with
  | @dk a _ vs _ f e hk hl hh=>
   refine ⟨a,.dK (ks.zip vs),rfl,rfl,e,fun o H2 ps g K9=>?_⟩
   have x2:=Ex.bL x1.mz g f
   cases K9
   refine q _ _ _ _ (x1.trans x2) (fN (vs:=ks.map kV) (vC ks) fun M' H' x=>?_) h1
   have e2:((ks.zip vs).map fun kv=>(kV kv.1,kv.2)).map (·.1)=ks.map kV :=by
    rw [BN]
    show (ks.zip vs).map (kV ∘ Prod.fst)=_
    rw [<- BN,nV hk]
   rw [e2]
   exact sI (x.get f.1 g.at rfl)
 ·intro h1
  rename_i ks ds
  cases r1 with
  | @dt a _ vs _ f e hk hl hh=>
   refine ⟨a,.dT (ks.zip vs),rfl,rfl,e,fun o H2 ps g K9=>?_⟩
   have x2:=Ex.bL x1.mz g f
   cases K9 with
   |t _ bs hb pJ=>
    have hz:(ks.zip vs).length=ks.length :=by rw [T0,<- hk,KM]
    have e2:((bs.map V.ref).zip ((ks.zip vs).map (·.2))).map (·.1)=bs.map V.ref:=nV (by rw [ci,ci];exact hb)
    rw [e2]
    refine q _ _ _ _ (x1.trans x2) (fN (vs:=bs.map V.ref) ⟨by rw [ci,ci,hb,hz],fun i v d ha hd=>?_⟩ fun M' H' x=>sI (x.get f.1 g.at rfl)) h1
    rw [ca,li] at ha hd
    obtain ⟨b,OT,rfl⟩:=ha
    obtain ⟨k,Pk,rfl⟩:=hd
    have sJ:i<(ks.zip vs).length :=by rw [hz];exact (bv.mp Pk).1
    have sH:=ag sJ
    have ht:=pJ i b _ OT sH
    have ek:((ks.zip vs)[i]).1=k :=by
     have:((ks.zip vs).map (·.1))[i]?=some ((ks.zip vs)[i]).1 :=by rw [ca,sH];rfl
     rw [nV hk,Pk] at this
     exact (ij this).symm
    rw [ek] at ht
    have fb:Fz β M1 b:=⟨x1.mz.kG ht rfl,fun z=>by
     obtain ⟨w,hw,n⟩:=x1.mz.hids b z
     rw [ht] at hw
     cases hw
     cases n⟩
    have r0:Rz β M1 H1 (.ref b) (.tup (k.map qZ)):=kD fb ht (vC k)
    exact r0.ex x2
 ·exact fun h=>h.elim⟩
end
theorem lz {g:cO} {te:aI} (J:List Dv->aA->Mh->Prop):∀{ds acc:List Dv} {τ:aA} {M:Mh} {Q:List Dv->Mh->Prop},J acc τ M->
  (∀i d iz τ M,ds[i]?=some d->iz.length=acc.length+i->J iz τ M->∀R:aA->ZK,(∀y aC M2,J (iz++[y]) aC M2->R aC y M2)->g d τ M fun aC M2=>te aC M2 (R aC))->
  (∀ys τ M,ys.length=ds.length->J (acc++ys) τ M->Q ys M)->ft g zNoIf te ds τ M Q
 | [],acc,τ,M,Q,j,_,q=>q [] τ M rfl (by rw [Cs];exact j)
 |d::ds,acc,τ,M,Q,j,h,q=>by
          refine h 0 d acc τ M rfl rfl j (fun aC y M4=>ft g zNoIf te ds aC M4 fun ys M5=>Q (y::ys) M5) fun y aC M2 j2=>?_
          refine lz J (acc:=acc++[y]) j2 (fun i d' iz cm M' e1 e2 j' R hR=>?_) fun ys oy M3 e3 j3=>?_
          ·exact h (i+1) d' iz cm M' e1 (by rw [e2,tz];simp;omega) j' R hR
          ·exact q (y::ys) oy M3 (by simp [e3]) (by rw [GM] at j3;exact j3)
theorem FN {a1 r:cp} {D:fF} {ρ:aA} {M:Mh} (I:aA->Mh->Prop) (h1:∀N:aA->Mh->Prop,(∀ρ M,I ρ M->N ρ M)->a1 {D with nx:=N} ρ M) (h2:∀ρ M,I ρ M->r D ρ M):(zSeq a1 r) D ρ M:=h1 _ h2
theorem NI {a1 a2 r:cp} {D:fF} {ρ:aA} {M:Mh} (I:aA->Mh->Prop) (h1:∀N:aA->Mh->Prop,(∀ρ M,I ρ M->N ρ M)->(zSeq a1 a2) {D with nx:=N} ρ M) (h2:∀ρ M,I ρ M->r D ρ M):(zSeq a1 (zSeq a2 r)) D ρ M:=h1 _ h2
theorem NK {a1 a2 a3 r:cp} {D:fF} {ρ:aA} {M:Mh} (I:aA->Mh->Prop) (h1:∀N:aA->Mh->Prop,(∀ρ M,I ρ M->N ρ M)->(zSeq a1 (zSeq a2 a3)) {D with nx:=N} ρ M) (h2:∀ρ M,I ρ M->r D ρ M):(zSeq a1 (zSeq a2 (zSeq a3 r))) D ρ M:=h1 _ h2
theorem NM {a1 a2 a3 a4 r:cp} {D:fF} {ρ:aA} {M:Mh} (I:aA->Mh->Prop) (h1:∀N:aA->Mh->Prop,(∀ρ M,I ρ M->N ρ M)->(zSeq a1 (zSeq a2 (zSeq a3 a4))) {D with nx:=N} ρ M) (h2:∀ρ M,I ρ M->r D ρ M):(zSeq a1 (zSeq a2 (zSeq a3 (zSeq a4 r)))) D ρ M:=h1 _ h2
theorem NN {a1 a2 a3 a4 a5 r:cp} {D:fF} {ρ:aA} {M:Mh} (I:aA->Mh->Prop) (h1:∀N:aA->Mh->Prop,(∀ρ M,I ρ M->N ρ M)->(zSeq a1 (zSeq a2 (zSeq a3 (zSeq a4 a5)))) {D with nx:=N} ρ M) (h2:∀ρ M,I ρ M->r D ρ M):(zSeq a1 (zSeq a2 (zSeq a3 (zSeq a4 (zSeq a5 r))))) D ρ M:=h1 _ h2
section
variable {β:Bz} {M M':Mh} {H H':Hp} {a:ac} {o o' o2 oB:Mo}
theorem Rz.dom (hd:∀a,(M a).isSome=(M' a).isSome) {v:V} {d:Dv} (r:Rz β M H v d):Rz β M' H v d:=
 r.nM (M0:=M') (fun a h=>by rw [hd a];exact h) (r.pin.mono fun a h=>by rw [<- hd a];exact h)
theorem il.dom (hd:∀a,(M a).isSome=(M' a).isSome) (h:il β M H a o):il β M' H a o :=by
 cases o with
 |lst ds=>obtain ⟨vs,h1,rs⟩:=h;exact ⟨vs,h1,rs.len,fun i v d x y=>(rs.at' i v d x y).dom hd⟩
 |cI=>exact h
 |dk ks ds=>obtain ⟨vs,h1,h2,rs⟩:=h;exact ⟨vs,h1,h2,rs.len,fun i v d x y=>(rs.at' i v d x y).dom hd⟩
 |dt ks ds=>obtain ⟨vs,h1,h2,rs⟩:=h;exact ⟨vs,h1,h2,rs.len,fun i v d x y=>(rs.at' i v d x y).dom hd⟩
theorem iX (M:Mh) (a:ac) (o o2:Mo) (b:ac):(az M a o b).isSome=(az M a o2 b).isSome :=by
 by_cases e:b=a
 ·subst e;rw [updM_same,updM_same];rfl
 ·rw [ak e,ak e]
theorem j6 {b:ac} (o2:Mo) (h:az M a o b=none):az M a o2 b=none :=by
 by_cases e:b=a
 ·subst e;rw [updM_same] at h;cases h
 ·rw [ak e] at h ⊢;exact h
theorem Mz.chg (m:Mz β (az M a o) H) (h2:il β (az M a o2) H a o2):Mz β (az M a o2) H :=by
 refine ⟨fun b u e=>?_,m.tabs,m.hids,fun b u e=>?_,m.lams⟩
 ·by_cases z:b=a
  ·subst z;rw [updM_same] at e;cases e;exact h2
  ·rw [ak z] at e
   exact il.dom (iX M a o o2) (m.obj b u (by rw [ak z];exact e))
 ·by_cases z:b=a
  ·subst z;exact m.apart b o updM_same
  ·rw [ak z] at e
   exact m.apart b u (by rw [ak z];exact e)
theorem xW (h:M a=some o):az M a o=M :=by
 funext b
 by_cases e:b=a
 ·subst e;rw [updM_same,h]
 ·rw [ak e]
theorem Ex.chg (x:Ex β (az M a o) H (az M a o') H') (h2:il β (az M a oB) H' a oB):Ex β (az M a o2) H (az M a oB) H':=
 ⟨⟨fun b u h e=>x.keep b u (j6 o h) e,fun b h=>by rw [iX M a oB o'];exact x.dom b (by rw [iX M a o o2];exact h),fun b u h e=>j6 oB (x.new b u (j6 o h) e)⟩,x.mz.chg h2⟩
theorem Ex.sealed (hn:M a=none) (x:Ex β M H (az M a o') H') (h2:il β (az M a oB) H' a oB):Ex β M H (az M a oB) H':=
 ⟨⟨x.keep,fun b h=>by rw [iX M a oB o'];exact x.dom b h,fun b u h e=>j6 oB (x.new b u h e)⟩,x.mz.chg h2⟩
theorem BW {c m:Int} (z:Mz β (az M a (.lst [.int c,.int m])) H) (hc:0<=c) (hm:0<=m):il β (az M a .cI) H a .cI :=by
 obtain ⟨vs,h,rs⟩:=z.obj a _ updM_same
 refine ⟨c,m,?_,hc,hm⟩
 have:=lj (ns:=[c,m]) rs
 rw [h,this]
 rfl
theorem La (z:Mz β (az M a .cI) H):∃c m:Int,0<=c/\0<=m/\il β (az M a (.lst [.int c,.int m])) H a (.lst [.int c,.int m]) :=by
 obtain ⟨c,m,h,hc,hm⟩:=z.obj a _ updM_same
 exact ⟨c,m,hc,hm,_,h,ll (ns:=[c,m])⟩
end
section
variable {X:Cx} {Γ:Gz} {K:ba}
def zIxS:eC:=fun d e M Q=>match d,e with | .bC ns,.int i=>(match cf ns i with|some x=>Q (.int x) M|none=>False)|_,_=>False
theorem FO (hK:X.K=K) (hG:K=Γ.K):Ku Γ X zIxS:=⟨_,xr hK,fun β x y d e M H Q Q' _ _ eK m rx ry z q=>by
 unfold zIxS at z
 split at z
 ·rename_i ns i
  split at z
  ·rename_i v hv
   obtain ⟨a,rfl,hS⟩:=sm rx
   rw [eK,<- hG] at hS
   exact .inl ⟨a,_,i,.int v,rfl,aN ry,hS,Hb hv,q _ _ _ _ (.refl m) (.int _) z⟩
  ·exact z.elim
 ·exact z.elim⟩
end
def xX (k:Nat):bi:=⟨#[97+k]⟩
theorem q0 (k:Nat):(xX k).length=1:=rfl
theorem lC (a b:bi):(a++b).length=a.length+b.length :=by
 show (a.cps++b.cps).size=a.cps.size+b.cps.size
 exact VU
section
variable {κ:Type} [DecidableEq κ]
theorem eF:∀(ks U:List κ),ks.Nodup->(∀k∈ks,k∈U)->ks.length<=U.length
 | [],_,_,_=>qr _
 |k::ks,U,nd,h=>by
          have hn:=Lu.mp nd
          have hk:=h k jp
          have ih:=eF ks (U.erase k) hn.2 fun x hx=>(List.mem_erase_of_ne (fun e=>hn.1 (by rw [<- e];exact hx))).mpr (h x (gl _ hx))
          rw [List.length_erase_of_mem hk] at ih
          have:=Po hk
          rw [Fa]
          omega
def fQ (step:κ->Nat->κ) (met:κ) (w:bi) (st:List κ×List bi) (a:Nat):List κ×List bi:=if step met a∈st.1 then st else (st.1++[step met a],st.2++[w++xX a])
def visit (step:κ->Nat->κ) (met:κ) (w:bi) (n:Nat) (st:List κ×List bi):List κ×List bi:=(l9 n).foldl (fQ step met w) st
def gA (step:κ->Nat->κ) (n most:Nat):Nat->Nat->List κ×List bi->List κ×List bi
 |0,_,st=>st
 |fuel+1,i,st=>match st.1[i]?,st.2[i]? with
  |some met,some w=>if st.1.length<=most then gA step n most fuel (i+1) (visit step met w n st) else st
  |_,_=>st
structure eR (U:List κ) (st:List κ×List bi):Prop where
 len:st.1.length=st.2.length
 nd:st.1.Nodup
 sub:∀k∈st.1,k∈U
 wl:∀(i:Nat) (w:bi),st.2[i]?=some w->w.length<=i
theorem eR.le {U:List κ} {st:List κ×List bi} (o:eR U st):st.1.length<=U.length:=eF _ _ o.nd o.sub
theorem e8 (step:κ->Nat->κ) (met:κ) (w:bi) (n:Nat) (st:List κ×List bi):visit step met w (n+1) st=fQ step met w (visit step met w n st) n :=by
 unfold visit
 rw [List.range_succ,VQ]
 rfl
theorem sL (step:κ->Nat->κ) (met:κ) (w:bi) (st:List κ×List bi) (a:Nat):∃ks ws,(fQ step met w st a).1=st.1++ks/\(fQ step met w st a).2=st.2++ws :=by
 unfold fQ
 split
 ·exact ⟨[],[],by simp,by simp⟩
 ·exact ⟨_,_,rfl,rfl⟩
theorem iQ (step:κ->Nat->κ) (met:κ) (w:bi) (n:Nat) (st:List κ×List bi):∃ks ws,(visit step met w n st).1=st.1++ks/\(visit step met w n st).2=st.2++ws :=by
 induction n with
 |zero=>exact ⟨[],[],by simp [visit],by simp [visit]⟩
 |succ n ih=>
  obtain ⟨ks,ws,h1,h2⟩:=ih
  rw [e8]
  obtain ⟨O8,Te,h3,h4⟩:=sL step met w (visit step met w n st) n
  exact ⟨ks++O8,ws++Te,by rw [h3,h1,GM],by rw [h4,h2,GM]⟩
theorem q9 {α:Type} {l m:List α} {i:Nat} {x:α} (h:l[i]?=some x):(l++m)[i]?=some x :=by
 rw [sB (bv.mp h).1];exact h
theorem eR.fQ {U:List κ} {step:κ->Nat->κ} {st:List κ×List bi} (o:eR U st) {i a:Nat} {met:κ} {w:bi} (hw:st.2[i]?=some w) (hs:step met a∈U):eR U (L2.fQ step met w st a) :=by
 unfold L2.fQ
 split
 ·exact o
 ·rename_i hn
  refine ⟨by simp [o.len],?_,fun k hk=>?_,fun j v hj=>?_⟩
  ·rw [UW]
   refine ⟨o.nd,by simp,fun x hx y hy e=>?_⟩
   rw [kw] at hy
   subst e
   exact hn (hy▸hx)
  ·rcases zd.mp hk with z|z
   ·exact o.sub k z
   ·rw [kw] at z;rw [z];exact hs
  ·by_cases h:j<st.2.length
   ·rw [sB h] at hj
    exact o.wl j v hj
   ·rw [wp (by omega)] at hj
    have e:j - st.2.length=0 :=by
     have:=(bv.mp hj).1
     simp at this;omega
    rw [e] at hj
    cases hj
    have h1:=o.wl i w hw
    have h2:=(bv.mp hw).1
    rw [lC,q0]
    omega
theorem eR.visit {U:List κ} {step:κ->Nat->κ} {st:List κ×List bi} (o:eR U st) {i n:Nat} {met:κ} {w:bi} (hw:st.2[i]?=some w) (hs:∀a,a<n->step met a∈U):eR U (L2.visit step met w n st) :=by
 induction n with
 |zero=>exact o
 |succ n ih=>
  rw [e8]
  obtain ⟨ks,ws,h1,h2⟩:=iQ step met w n st
  exact (ih fun a ha=>hs a (by omega)).fQ (i:=i) (by rw [h2];exact q9 hw) (hs n (by omega))
def met (step:κ->Nat->κ) (n most N:Nat) (s:κ):List κ×List bi:=gA step n most (N+1) 0 ([s],[""])
theorem m6 {U:List κ} {s:κ} (h:s∈U):eR U ([s],[("" : bi)]):=⟨rfl,by simp,fun k hk=>by rw [kw] at hk;rw [hk];exact h,fun i w e=>by
 cases i with
 |zero=>cases e;exact cb 0
 |succ i=>simp at e⟩
theorem bfs_ok {U:List κ} {step:κ->Nat->κ} {n most:Nat} (hs:∀k∈U,∀a,a<n->step k a∈U):∀(fuel i:Nat) (st:List κ×List bi),eR U st->eR U (gA step n most fuel i st)
 |0,_,st,o=>o
 |fuel+1,i,st,o=>by
          unfold gA
          split
          ·rename_i k w h1 h2
           split
           ·exact bfs_ok hs fuel (i+1) _ (o.visit h2 fun a ha=>hs k (o.sub k (ii h1)) a ha)
           ·exact o
          ·exact o
theorem vD {step:κ->Nat->κ} {n most fuel i:Nat} {st:List κ×List bi} {k:κ} {w:bi} (h1:st.1[i]?=some k) (h2:st.2[i]?=some w) (h3:st.1.length<=most):gA step n most (fuel+1) i st=gA step n most fuel (i+1) (visit step k w n st) :=by
 rw [gA]
 simp only [h1,h2,if_pos h3]
theorem nW:∀{ks:List κ} {ws:List bi} {i:Nat} {k:κ} {w:bi},ks.Nodup->ks[i]?=some k->ws[i]?=some w->look ks ws k=some w
 | [],_,_,_,_,_,h,_=>by simp at h
 |_::_,[],_,_,_,_,_,h=>by simp at h
 |c::ks,v::ws,0,k,w,_,h1,h2=>by
          simp at h1 h2
          unfold look
          rw [if_pos h1,h2]
 |c::ks,v::ws,i+1,k,w,nd,h1,h2=>by
          have hn:=Lu.mp nd
          have h1:ks[i]?=some k :=by simpa using h1
          unfold look
          rw [if_neg (fun e=>hn.1 (by rw [e];exact ii h1))]
          exact nW hn.2 h1 (by simpa using h2)
theorem lD {FP:Type} [DecidableEq FP] {f:κ->FP} (hf:∀a b,f a=f b->a=b) (x:κ):∀(ks:List κ) (ws:List bi),look (ks.map f) (ws.map Dv.str) (f x)=(look ks ws x).map Dv.str
 | [],ws=>by cases ws <;> rfl
 |_::_,[]=>rfl
 |k::ks,w::ws=>by
          rw [wv,wv]
          unfold look
          by_cases e:k=x
          ·rw [if_pos e,if_pos (by rw [e])];rfl
          ·rw [if_neg e,if_neg (fun z=>e (hf _ _ z))]
           exact lD hf x ks ws
theorem Hl {α:Type} {ks:List κ} {ds:List α} {k:κ} {d:α} (h:k ∉ ks):putL ks k=ks++[k]/\fO ks ds k d=ds++[d] :=by
 unfold putL fO
 rw [if_neg h,if_neg h]
 exact ⟨rfl,rfl⟩
theorem wI {FP:Type} {f:κ->FP} (hf:∀a b,f a=f b->a=b) {x:κ} {ks:List κ}:f x∈ks.map f ↔ x∈ks :=by
 constructor
 ·intro h
  obtain ⟨y,hy,e⟩:=sw.mp h
  rw [<- hf _ _ e];exact hy
 ·exact fun h=>List.mem_map_of_mem h
theorem sM {ks:List κ} {ws:List bi} (h:ks.length=ws.length) (x:κ):(look ks ws x).isSome=decide (x∈ks) :=by
 cases q:look ks ws x with
 |none=>rw [decide_eq_false ((iq h).mp q)];rfl
 |some w=>
  have:x∈ks:=Na fun z=>by rw [(iq h).mpr z] at q;cases q
  rw [decide_eq_true this];rfl
end
theorem xY {k:Nat} (h:k<3):cf ("abc" : bi).cps.toList ((k:Nat):Int)=some (97+k) :=by
 have:k=0\/k=1\/k=2 :=by omega
 rcases this with rfl|rfl|rfl <;> decide +kernel
theorem nX (a b:Int) (h:(Cc a:Key)=Cc b):a=b:=Cc.inj h
theorem oU {α:Type} {l:List α} {i:Nat} {x:α} (h:l[i]?=some x):l.drop i=x::l.drop (i+1) :=by
 obtain ⟨hi,e⟩:=bv.mp h
 rw [Gc hi,e]
section
variable {X:Cx} {Γ:Gz}
def zRepP:eC:=fun d e M Q=>match d,e with | .lst ds,.int k=>(-(2 ^ 63)<=k/\k<2 ^ 63/\ds.length * k.toNat<=sizeLine)/\∀a,M a=none->Q (.ptr a) (az M a (.lst (r9 k.toNat ds).flatten))|_,_=>False
theorem Lb:eO Γ X (binaryOp .Mult) zRepP:=⟨_,Jl,fun β x y d e M H Q Q' _ _ _ m rx ry z q=>by
 unfold zRepP at z
 split at z
 ·rename_i ds k
  obtain ⟨a,vs,rfl,f,ha,rs⟩:=f9 rx
  obtain ⟨⟨z1,z2,z3⟩,z4⟩:=z
  refine ⟨a,_,vs,rfl,aN ry,ha,z1,z2,by rw [rs.len];exact z3,fun p hp=>?_⟩
  have x2:=Ex.own m (.inr hp) (rs.rep k.toNat)
  exact q _ _ _ _ x2 (.ptr (by rw [updM_same];rfl)) (z4 p (m.free hp))
 ·exact z.elim⟩
end
def Lc (K:ba):List V->Hp->VK->Prop:=fun xs H Q=>∃(p:ac) (ns:List Int),xs=[.ref p]/\bN K H p (ns.map V.int)/\0<ns.length/\∀m:Int,m∈ns->(∀a∈ns,m<=a)->Q (.int m) H
theorem BX {X:Cx} (hc:X.calm=true):dj X (.builtin "min") (Lc X.K) :=by
 intro pins s σ H xs us Q I r h
 obtain ⟨p,ns,rfl,hq,h0,q⟩:=h
 obtain ⟨u,rfl,rx⟩:=vals1 r
 cases rx
 have hh:=I.ok.hd hc
 obtain ⟨its,rv,pl,hz⟩:=I.list hq
 obtain ⟨ys,hy⟩:=(pT rv).allInts.items
 have hl:=pl.isList
 rw [hy] at hl
 have en:ys.toList.map (·.1)=ns :=by
  rw [<- nums_intItems,<- hy]
  exact (pT rv).numsOf
 have hsz:0<ys.size :=by
  rw [<- en,ci,mT] at h0
  exact h0
 refine min_intList hh hl hsz fun v h' tk hv hk=>?_
 obtain ⟨t,rfl⟩:=intItems_at hv
 obtain ⟨h1,h2⟩:=argBest_lt (numAt ys) (ys.size - 1)
 refine ⟨.int _,H,I.kept (t':=tk) hk,⟨t,rfl⟩,q _ ?_ fun a ha=>?_⟩
 ·rw [<- en,numAt_eq];exact getD_mem (by rw [ci,mT];omega)
 ·rw [<- en] at ha
  obtain ⟨j,hj,rfl⟩:=mem_getD ha
  rw [ci,mT] at hj
  rw [<- numAt_eq];exact h2 j (by omega)
theorem zf {X:Cx} {K:ba} (h:X.K=K) (hc:X.calm=true):dj X (.builtin "min") (Lc K):=h▸BX hc
def zMinL (d:Dv) (M:Mh) (Q:ZK):Prop:=match (itemsM M d).bind gz with|some ns=>0<ns.length/\(∀t,d≠.tup t)/\∀m:Int,m∈ns->(∀a∈ns,m<=a)->Q (.int m) M|none=>False
theorem Ld {Γ:Gz} {X:Cx} {K:ba} (hK:X.K=K) (hc:X.calm=true):eZ Γ X (.builtin "min") (z1 zMinL):=⟨_,zf hK hc,fun β xs ds M H Q Q' _ _ _ m rs z q=>by
 unfold z1 at z
 split at z
 ·rename_i d
  obtain ⟨x,rfl,r⟩:=c6 rs
  unfold zMinL at z
  split at z
  ·rename_i ns dU
   obtain ⟨z1,z2,z3⟩:=z
   rw [Option.bind_eq_some_iff] at dU
   obtain ⟨es,he,hi⟩:=dU
   obtain ⟨a,vs,rfl,ha,fE⟩:=js m r he
   rw [oQ hi] at fE
   rw [lj fE] at ha
   rcases ha with ha|ha
   ·exact ⟨a,ns,rfl,bN.of ha,z1,fun k h1 h2=>q _ _ _ _ (.refl m) (.int _) (z3 k h1 h2)⟩
   ·exfalso
    cases d with
    |tup t=>exact z2 t rfl
    |lst t=>obtain ⟨a',u0,e,f,hv,_⟩:=f9 r;cases e;rw [hv] at ha;cases ha
    |ptr p=>
     obtain ⟨e,_⟩:=bZ r
     cases e
     simp only [itemsM] at he
     split at he
     ·rename_i xs hx;obtain ⟨u0,hv,_⟩:=m.obj _ _ hx;rw [hv] at ha;cases ha
     ·cases he
    |_=>cases he
  ·exact z.elim
 ·exact z.elim⟩
end L2
namespace L2
open PySem PySem.Spec PySem.W PyProof.Rows
def rk (R:Nat->Int) (p:Array Nat) (k:Nat):Int:=R (p.getD k 0)
end L2
namespace L2
open PySem PySem.Spec PyProof.Rows
section
variable {X:Cx} {Γ:Gz} {K:ba}
def zSortedP (d:Dv) (M:Mh) (Q:ZK):Prop:=match intsM M d with|some ns=>ns.length<64/\∀a,M a=none->Q (.ptr a) (az M a (.lst ((sortI ns).map .int)))|none=>False
theorem BZ (hP:X.prog=Γ.P) (hw:X.w=Γ.w) (hK:X.K=K) (hc:X.calm=true):eZ Γ X (.builtin "sorted") (z1 zSortedP):=⟨_,lY hP hw hK hc,fun β xs ds M H Q Q' eP ew _ m rs z q=>by
 unfold z1 at z
 split at z
 ·rename_i d
  obtain ⟨x,rfl,r⟩:=c6 rs
  unfold zSortedP at z
  split at z
  ·rename_i ns dU
   have fin:∀l,H l=none->Q (.ref l) (upd H l (.lst ((sortI ns).map V.int))):=fun l hl=>by
    have x2:=Ex.own m (p:=l) (.inr hl) (ll (ns:=sortI ns))
    exact q _ _ _ _ x2 (.ptr (by rw [updM_same];rfl)) (z.2 l (m.free hl))
   unfold intsM at dU
   split at dU
   ·cases dU
    obtain ⟨a,rfl,f,h⟩:=sk r
    rw [eP,ew] at h
    exact ⟨a,_,rfl,.inl h,z.1,fin⟩
   ·obtain ⟨a,rfl,ha⟩:=mW m r dU
    exact ⟨a,_,rfl,.inr (ha.imp bN.of cM.of),z.1,fin⟩
  ·exact z.elim
 ·exact z.elim⟩
end
end L2
namespace PySem.AutoSeq1
theorem jM (l:ac) (items:Array al) (n:Nat) (b:ac) (m7:Array al) (n2:Nat) (dd:Option ac) (sl:Array (Option al)) (Uz:¬(!items.isEmpty && GE (items.size+m7.size))=true) (Tf:items.size<=sizeLine) (xj:items.size+m7.size<=sizeLine+1) :
  Meets (u4.«list.extend» ⟨[.ref l,.ref b],[]⟩) (fun _ R s=>s.heap.get? l=some {cls:=.type "list",dict:=none,data:=.seq items n,slots:=#[]}/\s.heap.get? b=some {cls:=.type "tuple",dict:=dd,data:=.seq m7 n2,slots:=sl}/\R (.ok (.ret zw)) {s with heap:=s.heap.update l (IN fun x=>x++m7),toks:=s.toks}):=
 .of_wp fun prog w A R s h=>by
  obtain ⟨hp,g,d,tk,os⟩:=s;obtain ⟨hl,hb,h⟩:=h;have f1:=idx_int;have f2:=sub_tuple_tuple;have f3:=sub_list_list;have f4:=sub_tuple_list;have f5:=sub_list_tuple;
  have Kh:(items++m7).size<=sizeLine+1 :=by rw [VU];exact xj
  wp_walk using (OP hl rfl (hz:=Tf) (_hz':=Kh)),TW hl,TW hb;exact ⟨_,rfl,h⟩
end PySem.AutoSeq1
namespace L2
open PySem PySem.Spec PyProof.Rows
section
variable {X:Cx} {Γ:Gz} {K:ba}
def Ef:V->List V->Hp->VK->Prop:=fun x vs H Q=>∃l b xs zs,x=.ref l/\vs=[.ref b]/\H l=some (.lst xs)/\H b=some (.tup zs)/\xs.length+zs.length<=sizeLine/\Q .av (upd H l (.lst (xs++zs)))
theorem zg:Ji X "list.extend" Ef :=by
 intro pins s σ H x vs v us Q I rx rv h
 obtain ⟨l,b,xs,zs,rfl,rfl,hH,hB,hz,q⟩:=h
 cases rx
 obtain ⟨u,rfl,ru⟩:=rv.one
 cases ru
 obtain ⟨z,its,n,r,hl,e⟩:=I.mw hH
 obtain ⟨z2,cG,r2,o2,e2,c2,n2,d2,t2⟩:=I.hok b _ hB
 obtain ⟨c0,dd,dt,sl⟩:=o2
 subst c2 d2
 have l1:=r.length
 have l2:=r2.length
 have hsz:its.toArray.size+cG.toArray.size<=sizeLine :=by rw [db,db];omega
 have yu:¬ (!its.toArray.isEmpty && GE (its.toArray.size+cG.toArray.size))=true :=by
  rw [um hsz,Vx]
  exact io
 refine V0 F.slot_list_extend ⟨_,e,rfl⟩ F.entry_list_extend (F.args_list_extend_2 _ _)
  (AutoSeq1.jM l its.toArray n b cG.toArray n2 dd sl yu (by rw [db];omega) (by omega)) ⟨e,e2,?_⟩
 refine ⟨.av,_,I.qH (its':=its++cG) hH e (by simp) (r.append r2) ?_,rfl,q⟩
 rw [tz]
 omega
def zExtendT:sA:=fun d ds M Q=>match d,ds with | .ptr a,[.tup ys]=>(match M a with|some (.lst xs)=>xs.length+ys.length<=sizeLine/\Q .av (az M a (.lst (xs++ys)))|_=>False)|_,_=>False
theorem B1:Br Γ X "list" "list.extend" K zExtendT:=⟨_,zg,fun β x xs d ds M H Q Q' _ _ _ m r rs z q=>by
 unfold zExtendT at z
 split at z
 ·rename_i a ys
  split at z
  ·rename_i es he
   obtain ⟨e,hs⟩:=bZ r
   obtain ⟨v,e2,rv⟩:=c6 rs
   subst e e2
   obtain ⟨vs,hv,fE⟩:=m.obj a _ he
   obtain ⟨b,us,rfl,_,hb,Pl⟩:=cZ rv
   refine ⟨a,b,vs,us,rfl,rfl,hv,hb,by rw [fE.len,Pl.len];exact z.1,?_⟩
   exact q _ _ _ _ (Ex.own m (.inl hs) (fE.append Pl)) .av z.2
  ·exact z.elim
 ·exact z.elim⟩
end
section
variable {X:Cx} {Γ:Gz}
def zPar (i j:Nat) (za:dW):cp:=fun D ρ M=>za ρ M fun ds M1=>match ds with | [d,e]=>D.nx ((ρ.set i (some d)).set j (some e)) M1|_=>False
theorem B2 {i j:Nat} {x y:bi} {a b:cr} {za:dW} {px py pt pos:ul} {kt k2 t8} (hc:X.calm=true) (hN:X.N.Nodup) (hi:X.N[i]?=some x) (hj:X.N[j]?=some y) (oi:i≠j)
  (hx:X.env.scope.names.lookup x=some .local) (hy:X.env.scope.names.lookup y=some .local) (ha:QA Γ X [a,b] za)
  (hw:swappedStores [.Tuple [.Name x px,.Name y py] kt pt] (.Tuple [a,b] k2 t8) X.env=pure (some [x,y]))
  (hs:swapsWithSole [.Tuple [.Name x px,.Name y py] kt pt] (.Tuple [a,b] k2 t8) pos.line X.env=pure false :=by rfl) :
  QS Γ X (.Assign [.Tuple [.Name x px,.Name y py] kt pt] (.Tuple [a,b] k2 t8) pos) (zPar i j za):=
 (Iu hc hN hi hj oi hx hy ha hw hs).imp fun D σ H ⟨β,ρ,M,D',zr,h,r⟩=>⟨β,ρ,M,_,zr,h,fun ds M1 vs H1 x1 rs h1=>by
  revert h1
  split
  ·rename_i d e
   intro h1
   obtain ⟨v,w,rfl,r1,r2⟩:=kN rs
   exact ⟨v,w,rfl,r.nx _ _ _ _ x1.ev (((zr.step x1).set i r1).set j r2) h1⟩
  ·exact fun h=>h.elim⟩
end
end L2
open PySem L2 PyProof.Rows
local macro_rules | `(tactic| simp! only [$xs,*] $[$l]?)=>`(tactic| simp only [zVar,zC,zOp,zII,zIC,zEq,zNe,scalZ,zIsN,isNonD,zSS,zTest,zBool,zChain,zAnd,zOr,zNot,zAndV,zNotV,zNil,zCons,zTup,zLst,zLstP,zCB,z1,zLenD,z2I,zAbs,zTuple,zSorted,zSet,intsM,itemsM,zIsInst,isD,zBM,tyZ,zAppend,zPop,zPopAt,zIndexS,zSetI,zgSub,zNext,zSeq,zDrop,zRet,zIfS,zgName,zgNil,zgCons,zgTup,zAsg,zFor,zForM,zComp,zCompP,zTupG,zAll,zBlock,zCall,zRaise,zstart,zEndsOf,ziTup,ziLst,ziStr,ziRng1,ziRng2,ziEnumK,ziKeys,zoNone,zoSome,zSl,zSlS,zIx,zRangeP,zTruth,truD,zNoIf,zGetR,zDIn,lookD,nowK,keyD,zDisp1K,zDisp1T,zDPut,zLenK,zIxS,zRepP,zMinL,zSortedP,zCallL,zPar,zExtendT,List.getElem?_cons_zero,EM,wv,Vf,LG,V9,Fa,TM,xb,List.replicate_zero,List.set_cons_zero,List.set_cons_succ,V7,Nat.reduceAdd,Nat.reduceSub,UQ,Nat.zero_add,if_true,if_false,lp,VJ,Bool.not_false,true_and,and_true,beq_self_eq_true,String.reduceBEq,zLoop,ci,Tl,updM_same,updM_updM,Cs,Ll,ss,rangeD_len,pairsD_len,numD_len,KM,atI_zero,decide_true,decide_false,Bool.not_eq_true,bne_self_eq_false,$xs,*] $[$l]?)
local macro_rules | `(tactic| dsimp! only [$xs,*] $[$l]?)=>`(tactic| simp only [zVar,zC,zOp,zII,zIC,zEq,zNe,scalZ,zIsN,isNonD,zSS,zTest,zBool,zChain,zAnd,zOr,zNot,zAndV,zNotV,zNil,zCons,zTup,zLst,zLstP,zCB,z1,zLenD,z2I,zAbs,zTuple,zSorted,zSet,intsM,itemsM,zIsInst,isD,zBM,tyZ,zAppend,zPop,zPopAt,zIndexS,zSetI,zgSub,zNext,zSeq,zDrop,zRet,zIfS,zgName,zgNil,zgCons,zgTup,zAsg,zFor,zForM,zComp,zCompP,zTupG,zAll,zBlock,zCall,zRaise,zstart,zEndsOf,ziTup,ziLst,ziStr,ziRng1,ziRng2,ziEnumK,ziKeys,zoNone,zoSome,zSl,zSlS,zIx,zRangeP,zTruth,truD,zNoIf,zGetR,zDIn,lookD,nowK,keyD,zDisp1K,zDisp1T,zDPut,zLenK,zIxS,zRepP,zMinL,zSortedP,zCallL,zPar,zExtendT,List.getElem?_cons_zero,EM,wv,Vf,LG,V9,Fa,TM,xb,List.replicate_zero,List.set_cons_zero,List.set_cons_succ,V7,Nat.reduceAdd,Nat.reduceSub,UQ,Nat.zero_add,if_true,if_false,lp,VJ,Bool.not_false,true_and,and_true,beq_self_eq_true,String.reduceBEq,ci,Tl,updM_same,updM_updM,Cs,Ll,ss,rangeD_len,pairsD_len,numD_len,KM,atI_zero,decide_true,decide_false,Bool.not_eq_true,bne_self_eq_false,$xs,*] $[$l]?)
namespace My
open PySem L2 PyProof.Rows
def top (i:Nat):mv:=PySem.Challenge.pw_roadcall_k09_whole_beats_tell_all_length.main.body.getD i (.Pass ⟨0,0,0,0⟩)
abbrev d6:mv:=top 7
abbrev cB:mv:=top 8
abbrev d7:mv:=top 9
abbrev jz:mv:=top 14
abbrev jA:mv:=top 15
abbrev fc:mv:=top 16
abbrev iR:mv:=top 17
abbrev iS:mv:=top 18
abbrev gB:mv:=top 19
abbrev ir:mv:=top 20
abbrev g6:mv:=top 21
abbrev lF:mv:=top 24
abbrev tU:mv:=top 25
abbrev g7:mv:=top 26
abbrev aB:mv:=top 27
abbrev iY:mv:=top 28
abbrev dg:mv:=top 29
abbrev gC:mv:=top 30
abbrev kP:mv:=top 32
abbrev iT:mv:=top 34
abbrev dB:mv:=top 35
abbrev gD:mv:=top 36
abbrev d8:mv:=top 37
abbrev g8:mv:=top 38
abbrev fH:mv:=top 39
abbrev dJ:mv:=top 40
abbrev zh:mv:=top 41
section
variable {P:c8} {w:ff} {K:ba} {mg:bi->Option al} {base:gc} {tb:b5}
theorem dM:aK ["start","width","step","most","found","queue","met","at","goal"] ["start","width","step","most"] (aj g7):=⟨rfl,rfl,rfl,by decide +kernel,rfl,by decide +kernel,by decide +kernel⟩
def B3 (b6:List Dv) (step:Int->Nat->Int) (U:List Int) (n:Nat):List Dv->bV:=fun Q8 ds M Q _=>Q8=b6/\∃(p:Int) (a:Nat),ds=[.int p,.int ((a:Nat):Int)]/\p∈U/\a<n/\Q (.int (step p a)) M
def m8 (r:List Int×List bi):Dv:=.dk (r.1.map Cc) (r.2.map Dv.str)
def xZ (P:c8) (w:ff) (K:ba) (mg:bi->Option al) (tb:b5) (base:gc):bV:=fun ds M Q _=>∃(s:Int) (step:Int->Nat->Int) (U:List Int) (n most:Nat) (f:ac) (fd:i0) (o:im) (c:ac) (oc:im) (vcs:List V) (b6:List Dv) (ps:List bi),
 ds=[.int s,.int (n:Nat),.bP f o c oc vcs b6,.int (most:Nat)]/\FnOk P w K mg base bq 6 f fd ps (FI P w K tb f o c oc vcs (B3 b6 step U n))/\(∃oc od fd sl,o=⟨oc,od,.func fd,sl⟩)/\Binds K fd ps []/\n<=3/\s∈U/\(∀k∈U,∀a,a<n->step k a∈U)/\U.length<=10000 /\
 Q (m8 (met step n most U.length s)) M
theorem vE {f:ac} {fd:i0} {dv:List al} (D:FH K mg "first_met" g7 ["start","width","step","most"] dv f fd) (bl:Bl mg) {tk:Vc} (dh:mg "SIGNS" = some (.str "abc" tk)) :
  FnOk P w K mg base bq 7 f fd ["start","width","step","most"] (aR P w K tb (xZ P w K mg tb base)) :=by
 refine NB D dM (fun ds M Q E hS=>by obtain ⟨s,step,U,n,most,f,fd,o,c,oc,vcs,b6,ps,e,_⟩:=hS;rw [e];rfl) fun A outer s0 E Γ ds Q' E' hP hw hK ht hr hS=>?_
 obtain ⟨s,step,U,n,most,f,fd,o,c,oc,vcs,b6,ps,e,Lf,Lg,Lh,hn,hs,hU,hl,q⟩:=hS
 refine ⟨_,(ai (aJ (i:=4) dM.nd rfl (l8 rfl) (BC (qv 0) jq))
  (ai (aJ (i:=5) dM.nd rfl (l8 rfl) (iW (aa (qv 0) ae)))
  (ai (oP rb (QW.pt (Ba (D3 (qv 5)) (xI (bR y1 (aD KN rfl bl.len_ on (aa (qv 4) ae)) (qv 3) (cz _)))))
   (ai (aJ (i:=6) dM.nd rfl (l8 rfl) (j0 (K:=K) rfl Cf PySem.F.slot_list_pop PySem.F.type_list_pop xN (qv 5) (aa ax ae)))
  (aq (cA rb rfl (bw rfl bl.range_ (aa (qv 1) ae)) (fun iu eP ew eK et=>by have hP:=hP.trans eP.symm;have hw:=hw.trans ew.symm;have hK:=hK.trans eK.symm;have ht:=ht.trans et.symm;exact ⟨(aO (i:=7) dM.nd rfl (l8 rfl)),(ai (aJ (i:=8) dM.nd rfl (l8 rfl) (D8 (i:=2) Lf Lg (hr.mono (by decide)) rfl (l8 rfl) Lh bH hP hw hK ht XR.none (aa (qv 6) (aa (qv 7) ae))))
  (aq (cP (bR (D5 hr.units) (qv 8) (qv 4) (by rfl))
   (ai (Hf hr.units (qv 4) (qv 8) (aP sx (xQ hr.units (qv 4) (qv 6) (fun _ _=>rfl)) (bf (bU (K:=K) rfl) (oO (z := "abc") rfl dh ⟨_,rfl⟩) (qv 7) (fun _ _=>rfl))))
  (aq (dI (j0 (K:=K) rfl Cf Op Os lq (qv 5) (aa (qv 8) ae)))))
   qss_nil)))⟩)))))
  (aq (aY (qv 4)))))),?_⟩
 subst e
 simp! only []
 intro a ha
 refine ⟨by decide,fun qq hq=>?_⟩
 have B4:qq≠a:=fun z=>by rw [z,updM_same] at hq;cases hq
 have Th:Γ.M0 qq=none :=by rw [ak B4] at hq;exact hq
 have big:(10000:Nat)+10<sizeLine :=by decide
 have Pm:∀{M:Mh},(∀b,b≠a->b≠qq->M b=Γ.M0 b)->Keeps Γ.M0 M:=fun h b o e=>by
  rw [h b (fun z=>by rw [z,ha] at e;cases e) (fun z=>by rw [z,Th] at e;cases e)];exact e
 let I:Nat->List Int×List bi->aA->Mh->Prop:=fun i st ρ M=>(∃x6 x7 x8,ρ=[some (.int s),some (.int (n:Nat)),some (.bP f o c oc vcs b6),some (.int (most:Nat)),some (.ptr a),some (.ptr qq),x6,x7,x8])/\M a=some (.dk (st.1.map Cc) (st.2.map Dv.str))/\M qq=some (.lst ((st.1.drop i).map Dv.int))/\(∀b,b≠a->b≠qq->M b=Γ.M0 b)/\eR U st/\i<=st.1.length
 refine ⟨fun m ρ M=>∃i st,m=U.length+1 - i/\I i st ρ M/\gA step n most (U.length+1 - i) i st=met step n most U.length s,⟨_,0,([s],[""]),rfl,⟨⟨_,_,_,rfl⟩,by rw [ak (xz B4),updM_same];rfl,updM_same,fun b h1 h2=>by rw [ak h2,ak h1],m6 hs,qr _⟩,rfl⟩,?_⟩
 rintro m ρ M ⟨i,st,rfl,⟨⟨x6,x7,x8,rfl⟩,sN,Ti,sO,ok,hi⟩,hb⟩
 have hle:=ok.le
 have UA:=ok.len
 have fin:∀M',M' a=some (.dk (st.1.map Cc) (st.2.map Dv.str))->Keeps Γ.M0 M'->st=met step n most U.length s->ju Γ.M0 Q' (.ptr a) M':=fun M' h k e=>.inr ⟨k,m8 st,.dk ha h rfl fun j d d' e1 e2=>by
  rw [e1] at e2;cases e2
  obtain ⟨w,_,rfl⟩:=sw.mp (ii e1)
  exact .pin (.str w),by rw [e];exact q⟩
 have Li:U.length+1 - i=(U.length - i)+1 :=by omega
 simp! only [sN,Ti]
 refine eE (fun h1=>?_) (fun h1=>?_)
 ·have bb:i<st.1.length :=by
   rcases Nat.lt_or_ge i st.1.length with h|h
   ·exact h
   ·rw [List.drop_eq_nil_of_le h] at h1;cases h1
  obtain ⟨k,hk⟩:∃k,st.1[i]?=some k:=⟨_,ag bb⟩
  obtain ⟨wd,B5⟩:∃wd,st.2[i]?=some wd:=⟨_,ag (by omega)⟩
  have Lj:k∈U:=ok.sub k (ii hk)
  refine eE (fun h2=>?_) (fun h2=>?_)
  ·have zj:st.1.length<=most :=by simpa using h2
   have T8:(st.1.drop i).length=st.1.length - i:=V4
   have Tj:seqIndex? 0 (st.1.drop i).length=some 0:=(by unfold seqIndex?;simp;omega)
   have e0:((st.1.drop i).map Dv.int)[0]?=some (.int k) :=by rw [oU hk];rfl
   simp only [Tj,e0]
   refine ⟨by decide,by decide,by omega,by omega,?_⟩
   have er:((st.1.drop i).map Dv.int).eraseIdx 0=(st.1.drop (i+1)).map Dv.int :=by rw [oU hk];rfl
   simp only [er]
   refine bz (fun j ρ M=>(∃x7 x8,ρ=[some (.int s),some (.int (n:Nat)),some (.bP f o c oc vcs b6),some (.int (most:Nat)),some (.ptr a),some (.ptr qq),some (.int k),x7,x8])/\M a=some (.dk ((visit step k wd j st).1.map Cc) ((visit step k wd j st).2.map Dv.str))/\M qq=some (.lst (((visit step k wd j st).1.drop (i+1)).map Dv.int))/\(∀b,b≠a->b≠qq->M b=Γ.M0 b)/\j<=n)
    ⟨⟨_,_,rfl⟩,by rw [ak (xz B4)];exact sN,updM_same,fun b h1 h2=>by rw [ak h2];exact sO b h1 h2,qr _⟩ (fun j d ρ M N hd ⟨⟨x7,x8,e1⟩,B6,B7,FQ,gj⟩ hN=>?_) (fun ρ M ⟨⟨x7,x8,e1⟩,B6,B7,FQ,gj⟩=>?_)
   ·subst e1
    obtain ⟨rfl,hj⟩:=bA hd
    obtain ⟨gk,gw,g1,g2⟩:=iQ step k wd j st
    have FR:=ok.visit (n:=j) (step:=step) (met:=k) B5 fun b hb=>hU k Lj b (by omega)
    have UB:=FR.le
    have Q9:=FR.len
    have Pn:(visit step k wd j st).1[i]?=some k :=by rw [g1];exact q9 hk
    have Pq:(visit step k wd j st).2[i]?=some wd :=by rw [g2];exact q9 B5
    have K6:=nW FR.nd Pn Pq
    have Fd:=FR.wl i wd Pq
    have Ui:i<(visit step k wd j st).1.length:=(bv.mp Pn).1
    simp! only []
    refine ⟨rfl,k,j,rfl,Lj,hj,?_⟩
    simp! only [B6,lD nX,P3,sM Q9]
    have nx:∀{bQ M'},(∃x7 x8,bQ=[some (.int s),some (.int (n:Nat)),some (.bP f o c oc vcs b6),some (.int (most:Nat)),some (.ptr a),some (.ptr qq),some (.int k),x7,x8])->M' a=some (.dk ((visit step k wd (j+1) st).1.map Cc) ((visit step k wd (j+1) st).2.map Dv.str))->M' qq=some (.lst (((visit step k wd (j+1) st).1.drop (i+1)).map Dv.int))->(∀b,b≠a->b≠qq->M' b=Γ.M0 b)->N bQ M':=fun h1 h2 h3 h4=>hN _ _ ⟨h1,h2,h3,h4,hj⟩
    have vs:=e8 step k wd j st
    refine eE (fun hm=>?_) (fun hm=>?_)
    ·have hm:step k j ∉ (visit step k wd j st).1 :=by simpa using hm
     have hv:visit step k wd (j+1) st=((visit step k wd j st).1++[step k j],(visit step k wd j st).2++[wd++xX j]) :=by rw [vs];unfold fQ;rw [if_neg hm]
     obtain ⟨p1,p2⟩:=Hl (κ:=Key) (k:=Cc (step k j)) (d:=Dv.str (wd++xX j)) (ks:=(visit step k wd j st).1.map Cc) (ds:=(visit step k wd j st).2.map Dv.str) (fun z=>hm ((wI nX).mp z))
     simp only [K6,ON,xY (show j<3 by omega)]
     refine ⟨by decide,by rw [show (⟨#[97+j]⟩:bi)=xX j from rfl,q0];omega,by omega,?_⟩
     rw [show (⟨#[97+j]⟩:bi)=xX j from rfl,p1,p2]
     simp only [ak B4,B7]
     refine ⟨trivial,by simp only [ci,V4];omega,nx ⟨_,_,rfl⟩ ?_ ?_ fun b h1 h2=>by rw [ak h2,ak h1];exact FQ b h1 h2⟩
     ·rw [ak (xz B4),updM_same,hv,wT,wT];rfl
     ·rw [updM_same,hv]
      show some (Mo.lst (_++[_]))=_
      rw [List.drop_append_of_le_length (by omega),wT];rfl
    ·have hm:step k j∈(visit step k wd j st).1 :=by simpa using hm
     have hv:visit step k wd (j+1) st=visit step k wd j st :=by rw [vs];unfold fQ;rw [if_pos hm]
     exact nx ⟨_,_,rfl⟩ (by rw [hv];exact B6) (by rw [hv];exact B7) FQ
   ·subst e1
    have Tn:(bT 0 n).length=n:=rangeD_len 0 n
    rw [Tn] at B6 B7 gj
    have To:=ok.visit (n:=n) (step:=step) (met:=k) B5 fun b hb=>hU k Lj b hb
    obtain ⟨gk,gw,g1,g2⟩:=iQ step k wd n st
    refine ⟨U.length+1 - (i+1),by omega,i+1,visit step k wd n st,rfl,⟨⟨_,_,_,rfl⟩,B6,B7,FQ,To,by rw [g1,tz];omega⟩,?_⟩
    rw [<- hb,Li,vD hk B5 zj]
    rw [show U.length+1 - (i+1)=U.length - i by omega]
  ·refine fin M sN (Pm sO) ?_
   have zj:¬ st.1.length<=most :=by simpa using h2
   rw [<- hb,Li]
   unfold gA
   simp only [hk,B5,if_neg zj]
 ·refine fin M sN (Pm sO) ?_
  have h:st.1.length<=i :=by
   rcases Nat.lt_or_ge i st.1.length with h|h
   ·rw [oU (ag h)] at h1;cases h1
   ·exact h
  rw [<- hb,Li]
  unfold gA
  have e1:st.1[i]?=none:=FM h
  simp only [e1]
end
section
def vF (st:mv):cr:=match bK st with | [.Return (some (.Call _ (_::_::l::_) _ _)) _]=>l|_=>.Constant .none 0 ⟨0,0,0,0⟩
def lP (st:mv):IT:=match vF st with | .Lambda p _ _ _=>p|_=>⟨[],[],none,[],[],none,[]⟩
def lB (st:mv):cr:=match vF st with | .Lambda _ b _ _=>b|e=>e
def lS (st:mv):wn:=match vF st with | .Lambda _ _ s _=>s|_=>aj st
variable {P:c8} {w:ff} {K:ba} {mg:bi->Option al} {base:gc} {tb:b5}
theorem ra:aK ["net","start"] ["net","start"] (aj aB):=⟨rfl,rfl,rfl,by decide +kernel,rfl,by decide +kernel,by decide +kernel⟩
def qW:bi:=("first_words" ++ ".<locals>." : bi) ++ "<lambda>"
def ah (net:List (List Int)):List Int:=(l9 net.length).map fun i:Nat=>(i:Int)
def bD (net:List (List Int)) (p:Int) (a:Nat):Int:=(net.getD p.toNat []).getD a 0
theorem bg {net:List (List Int)} {p:Int}:p∈ah net ↔ 0<=p/\p<(net.length:Int) :=by
 unfold ah
 rw [sw]
 constructor
 ·rintro ⟨i,hi,rfl⟩
  have:=ID.mp hi
  omega
 ·rintro ⟨h1,h2⟩
  exact ⟨p.toNat,ID.mpr (by omega),by omega⟩
theorem getD_at {α:Type} {l:List α} {i:Nat} {d:α} (h:i<l.length):l.getD i d=l[i] :=by rw [ce,ag h];rfl
theorem d9 {net:List (List Int)} {n:Nat} (o:aL net n) {p:Int} (hp:p∈ah net) {a:Nat} (ha:a<n):bD net p a∈ah net :=by
 obtain ⟨h1,h2⟩:=bg.mp hp
 have bb:p.toNat<net.length :=by omega
 obtain ⟨e1,e2⟩:=o.row net[p.toNat] (mf bb)
 unfold bD
 rw [getD_at bb,getD_at (by omega)]
 exact bg.mpr (e2 _ (mf _))
theorem vG {net:List (List Int)} {p:Int} (hp:p∈ah net):cf (net.map eI) p=some (eI (net.getD p.toNat [])) :=by
 obtain ⟨h1,h2⟩:=bg.mp hp
 have bb:p.toNat<net.length :=by omega
 have e:p=((p.toNat:Nat):Int) :=by omega
 rw [e]
 refine ck ?_
 rw [ca,ss,ce,ag bb]
 rfl
theorem Lk {net:List (List Int)} {n:Nat} (o:aL net n) {p:Int} (hp:p∈ah net) {a:Nat} (ha:a<n):cf ((net.getD p.toNat []).map Dv.int) ((a:Nat):Int)=some (.int (bD net p a)) :=by
 obtain ⟨h1,h2⟩:=bg.mp hp
 have bb:p.toNat<net.length :=by omega
 have e1:=(o.row net[p.toNat] (mf bb)).1
 refine ck ?_
 unfold bD
 rw [ca,getD_at bb,getD_at (by omega),ag (by omega)]
 rfl
theorem qk:ly ["place","at"] ["net"] (lS aB):=⟨rfl,rfl,rfl,by decide +kernel,by decide +kernel,by decide +kernel,by decide +kernel⟩
theorem vH {f c:ac} {fd:i0} {o oc:im} {aQ:List (bi×ac)} {vcs:List V} (L:y8 (lP aB) (lB aB) (lS aB) qW o c oc aQ fd) (C:qX base ["net"] aQ vcs) (dD:vcs.length=1) {net:List (List Int)} {n:Nat} (O:aL net n) :
  FnOk P w K mg base bq 1 f fd ["place","at"] (FI P w K tb f o c oc vcs (B3 [eN net] (bD net) (ah net) n)) :=by
 refine QZ L qk C dD (fun b6 ds M Q E hS=>by obtain ⟨_,p,a,e,_⟩:=hS;rw [e];rfl) fun A outer s E Γ b6 ds Q' E' hP hw hK ht hr hS=>?_
 obtain ⟨e0,p,a,e,hp,ha,q⟩:=hS
 refine ⟨_,(bf (bU (K:=K) rfl) (bf (bU (K:=K) rfl) (qv 2) (qv 0) (fun _ _=>rfl)) (qv 1) (fun _ _=>rfl)),?_⟩
 subst e e0
 simp! only [vG hp,Lk O hp ha]
 exact .inl q
theorem n5:∀n,(n,sK)∈(lS aB).names->(aj aB).names.lookup n=some .cell\/(aj aB).names.lookup n=some .free :=by
 have h:∀y∈(lS aB).names,y.2=sK->(aj aB).names.lookup y.1=some .cell :=by decide +kernel
 exact fun n hn=>.inl (h _ hn rfl)
theorem ql:∀(j:Nat) (n:bi),(["net"]:List bi)[j]?=some n->(n,sK)∈(lS aB).names/\(aj aB).names.lookup n=some .cell/\∃i,([0]:List Nat)[j]?=some i/\(["net","start"]:List bi)[i]?=some n:=fun j n h=>by
 cases j with
 |zero=>cases h;exact ⟨by decide +kernel,by decide +kernel,0,rfl,rfl⟩
 |succ j=>simp at h
def cK (net:List (List Int)) (n:Nat) (s:Int):List Int×List bi:=met (bD net) n 511 net.length s
def vI:bV:=fun ds M Q _=>∃net n s,ds=[eN net,.int s]/\aL net n/\s∈ah net/\Q (m8 (cK net n s)) M
theorem rg {f f1:ac} {fd bp:i0} {mj aE:ac} {tk0:Vc} (D:Df K mg "first_words" aB ["net","start"] f fd) (fI:uF base fd mj aE) (de:∃bm ob,UM base mainGlobals mg bm ob)
  (iF:(aE,qW)∈tb.l) (K2:∀q∈tb.l,q.1=aE->q.2=qW) (eG:FH K mg "first_met" g7 ["start","width","step","most"] [.int 511 tk0] f1 bp) (bl:Bl mg) {tk:Vc} (dh:mg "SIGNS" = some (.str "abc" tk)) :
  FnOk P w K mg base bq 8 f fd ["net","start"] (aR P w K tb vI) :=by
 refine fu D ra (fun ds M Q E hS=>by obtain ⟨net,n,s,e,_⟩:=hS;rw [e];rfl) fun A outer s0 E Γ ds Q' E' hP hw hK ht hr hS=>?_
 obtain ⟨net,n,s,e,O,hs,q⟩:=hS
 have gE:(aE,qW)∈Γ.tb.l:=ht▸iF
 have gF:∀q∈Γ.tb.l,q.1=aE->q.2=qW:=ht▸K2
 have wJ:∀b',(∀b o,base.get? b=some o->b'.get? b=some o)->FnOk P w K mg b' bq 7 f1 bp ["start","width","step","most"] (aR P w K tb (xZ P w K mg tb b')):=fun b' _=>vE eG bl dh
 have vJ:Vals [V.int 511] [VA 511 tk0]:=.cons ⟨_,rfl⟩ .nil
 have vK:∀(β:Bz) (M:Mh) (H:Hp),aG β M H [V.int 511] [Dv.int 511]:=fun _ _ _=>.cons (.int _) .nil
 refine ⟨_,(aq (aY (y9 (idx:=[0]) (fs:=["net"]) fI.code fI.hd de rfl (n5) (ql) gE gF wJ (hr.mono (by decide)) (fun _=>rfl) rfl eG.mg eG.kp eG.bd (vJ) (vK) bH hP hw hK ht XR.none (qv 1) (aD (cy (K:=K) rfl hK) rfl bl.len_ on (aa (bf (bU (K:=K) rfl) (qv 0) ax (fun _ _=>rfl)) ae)) ae))),?_⟩
 subst e
 obtain ⟨h1,h2⟩:=bg.mp hs
 have h0:(0:Int)∈ah net:=bg.mpr ⟨by omega,by omega⟩
 have Ln:(net.getD 0 []).length=n :=by
  have:=O.one
  rw [getD_at (by omega)]
  exact (O.row _ (mf _)).1
 have Lp:=O.wid
 simp! only [vA,qj,vG h0,Int.toNat_zero,Ln]
 intro lf o c oc aQ vcs lv hO b' hb hC
 obtain ⟨Tp,yx,⟨iI,rfl⟩,dF⟩:=hO
 have L:y8 (lP aB) (lB aB) (lS aB) qW (LH "<lambda>" qW (lP aB) (lB aB) (lS aB) aQ ((mg "__name__").getD .none) c iI) c oc aQ (PySem.W.kla_fn "<lambda>" qW (lP aB) (lB aB) (lS aB) aQ ((mg "__name__").getD .none) (.ref c) iI):=⟨yx,⟨_,_,_,rfl,rfl⟩,dF⟩
 refine ⟨s,bD net,ah net,n,511,lf,_,_,c,oc,vcs,[eN net],["place","at"],rfl,(vH L hC lv O).mono (by decide),⟨_,_,_,_,rfl⟩,.all fun us hl=>?_,by omega,hs,fun k hk a ha=>d9 O hk ha,?_,.inl ?_⟩
 ·match us,hl with
  | [_,_],_=>rfl
 ·have:=O.nine
  simp only [ah,ci,PM]
  omega
 ·rw [show (ah net).length=net.length by simp [ah]]
  exact q
end
section
variable {P:c8} {w:ff} {K:ba} {mg:bi->Option al} {base:gc} {tb:b5} {k:Nat} {f:ac} {fd:i0} {ps:List bi}
theorem dC:aK ["_law_script","_law_at","_law_cell","_law_mix","_law_k"] ["_law_script","_law_at"] (aj iT):=⟨rfl,rfl,rfl,by decide +kernel,rfl,by decide +kernel,by decide +kernel⟩
theorem dN:aK ["_law_bag_here","_law_many","_law_digit","_law_number","_law_room"] ["_law_bag_here","_law_many"] (aj dB):=⟨rfl,rfl,rfl,by decide +kernel,rfl,by decide +kernel,by decide +kernel⟩
theorem fJ:aK ["_law_bag_here","_law_many","_law_rest","_law_found","_law_k"] ["_law_bag_here","_law_many"] (aj gD):=⟨rfl,rfl,rfl,by decide +kernel,rfl,by decide +kernel,by decide +kernel⟩
theorem bt:aK ["_law_bag_here","_law_most","_law_many","_law_fans","_law_kind","_law_lap","_law_order_here","_law_rows","_law_k","_law_goals","_law_fan"] ["_law_bag_here","_law_most"] (aj d8):=⟨rfl,rfl,rfl,by decide +kernel,rfl,by decide +kernel,by decide +kernel⟩
def Lq:bV:=fun ds M Q _=>∃(ns:List Int) (t:Int),ds=[.bC ns,.int t]/\ns.length<=63/\0<=t/\t<=63/\∀b,M b=none->Q (.ptr b) (az M b .cI)
def FT:bV:=fun ds M Q _=>∃(ns:List Int) (t:Int),ds=[.bC ns,.int t]/\ns.length<=63/\0<=t/\t<=63/\∀b c m,M b=none->0<=c->0<=m->Q (.ptr b) (az M b (.lst [.int c,.int m]))
theorem zk (D:Df K mg "_law_bag" iT ["_law_script","_law_at"] f fd) (bl:Bl mg):FnOk P w K mg base bq 1 f fd ["_law_script","_law_at"] (aR P w K tb FT) :=by
 refine fu D dC (fun ds M Q E hS=>by obtain ⟨ns,t,e,_⟩:=hS;rw [e];rfl) fun A outer s E Γ ds Q' E' hP hw hK ht hr hS=>?_
 obtain ⟨ns,t,e,hl,t0,t1,q⟩:=hS
 refine ⟨_,(ai (aJ (i:=2) dC.nd rfl (l8 rfl) ax)
  (ai (cP (bR y0 (qv 1) (aD (cy (K:=K) rfl hK) rfl bl.len_ on (aa (qv 0) ae)) (cz _))
   (aq (aJ (i:=2) dC.nd rfl (l8 rfl) (aD y3 rfl bl.abs_ uE (aa (bf (FO (K:=K) rfl hK) (qv 0) (qv 1) (fun _ _=>rfl)) ae))))
   qss_nil)
  (ai (aJ (i:=3) dC.nd rfl (l8 rfl) (aP eQ (aP jY ax (qv 1)) ax))
  (ai (cA rb rfl (bw rfl bl.range_ (aa (aD (vh rfl) rfl bl.min_ pK (aa (aD (cy (K:=K) rfl hK) rfl bl.len_ on (aa (qv 0) ae)) (aa ax ae))) ae)) (fun iu eP ew eK et=>by have hP:=hP.trans eP.symm;have hw:=hw.trans ew.symm;have hK:=hK.trans eK.symm;have ht:=ht.trans et.symm;exact ⟨(aO (i:=4) dC.nd rfl (l8 rfl)),(aq (aJ (i:=3) dC.nd rfl (l8 rfl) (aP fG (aP eQ (aP eQ (aP jY (qv 3) ax) (aP fG (bf (FO (K:=K) rfl hK) (qv 0) (qv 4) (fun _ _=>rfl)) ax)) (qv 4)) ax)))⟩))
  (ai (cP (bR y0 (qv 2) (aP Nv ax ax) (cz _))
   (aq (aJ (i:=2) dC.nd rfl (l8 rfl) ax))
   qss_nil)
  (aq (aY (iW (aa (qv 2) (aa (qv 3) ae)))))))))),?_⟩
 subst e
 refine NM (fun ρ M=>M=Γ.M0/\∃c m x:Int,∃x4,0<=c/\0<=m/\ρ=[some (.bC ns),some (.int t),some (.int c),some (.int m),x4]) (fun N hN=>?_) ?_
 ·refine NI (fun ρ M=>M=Γ.M0/\∃c:Int,0<=c/\ρ=[some (.bC ns),some (.int t),some (.int c),none,none]) (fun N hN=>?_) ?_
  ·simp! only []
   refine eE (fun h=>?_) (fun _=>hN _ _ ⟨rfl,0,by omega,rfl⟩)
   have ht:t<(ns.length:Int):=of_decide_eq_true h
   obtain ⟨k,rfl⟩:=xp t0
   rw [Bt (show k<ns.length by omega)]
   exact hN _ _ ⟨rfl,_,by split <;> omega,rfl⟩
  rintro ρ M ⟨rfl,c,hc,rfl⟩
  simp! only []
  refine ⟨.inl ⟨by decide,by decide⟩,by split <;> omega,by split <;> omega,?_⟩
  refine bz (fun i ρ M=>M=Γ.M0/\∃m:Int,∃x4,0<=m/\ρ=[some (.bC ns),some (.int t),some (.int c),some (.int m),x4]) ⟨rfl,_,_,by omega,rfl⟩ (fun i d ρ M N2 hd hJ kQ=>?_) (fun ρ M hJ=>?_)
  ·obtain ⟨rfl,m,x4,hm,rfl⟩:=hJ
   obtain ⟨rfl,hi⟩:=bA hd
   have hi:i<ns.length :=by split at hi <;> omega
   simp! only [Bt hi]
   exact ⟨.inr ⟨by decide,by decide⟩,by decide,by decide,kQ _ _ ⟨rfl,_,_,Vn _ (by decide),rfl⟩⟩
  ·obtain ⟨rfl,m,x4,hm,rfl⟩:=hJ
   exact hN _ _ ⟨rfl,c,m,0,x4,hc,hm,rfl⟩
 ·rintro ρ M ⟨rfl,c,m,x,x4,hc,hm,rfl⟩
  simp! only []
  exact ⟨⟨by decide,by decide,by decide⟩,eE (fun _=>⟨by decide,fun a ha=>.inl (q a 0 m ha (by omega) hm)⟩) (fun _=>⟨by decide,fun a ha=>.inl (q a c m ha hc hm)⟩)⟩
theorem NP (G:FnOk P w K mg base bq k f fd ps (aR P w K tb FT)):FnOk P w K mg base bq k f fd ps (aR P w K tb Lq):=G.imp fun vs H Q E hS=>by
 obtain ⟨β,ds,M,Q',E',eP,ew,eK,et,m,rs,⟨ns,t,e,h1,h2,h3,h⟩,q,qe⟩:=hS
 refine ⟨β,ds,M,fun d M'=>∃b c m,d=.ptr b/\M b=none/\0<=c/\0<=m/\M'=az M b (.lst [.int c,.int m]),fun _ _=>False,eP,ew,eK,et,m,rs,⟨ns,t,e,h1,h2,h3,fun b c m h4 h5 h6=>⟨b,c,m,rfl,h4,h5,h6,rfl⟩⟩,fun d M' v H' x r hQ=>?_,fun _ _ _ _ h=>h.elim⟩
 obtain ⟨b,c,m',rfl,hb,hc,hm,rfl⟩:=hQ
 have hB:=BW x.mz hc hm
 exact q _ _ _ _ (Ex.sealed hb x hB) (r.dom (iX M b _ _)) (h b hb)
def qm:bV:=fun ds M Q _=>∃(b:ac) (n:Int),ds=[.ptr b,.int n]/\M b=some .cI/\1<=n/\n<1073741824/\∀d:Nat,(d:Int)<n->Q (.int (d:Nat)) M
def B8:bV:=fun ds M Q _=>∃(b:ac) (n c m:Int),ds=[.ptr b,.int n]/\M b=some (.lst [.int c,.int m])/\0<=c/\0<=m/\1<=n/\n<1073741824/\∀(d:Nat) (c m:Int),(d:Int)<n->0<=c->0<=m->Q (.int (d:Nat)) (az M b (.lst [.int c,.int m]))
theorem wK (D:Df K mg "_law_take" dB ["_law_bag_here","_law_many"] f fd):FnOk P w K mg base bq 1 f fd ["_law_bag_here","_law_many"] (aR P w K tb B8) :=by
 refine fu D dN (fun ds M Q E hS=>by obtain ⟨b,n,c,m,e,_⟩:=hS;rw [e];rfl) fun A outer s E Γ ds Q' E' hP hw hK ht hr hS=>?_
 obtain ⟨b,n,c,m,e,hb,hc,hm,n1,n2,q⟩:=hS
 refine ⟨_,(ai (cP (bR ve (bf (bU (K:=K) rfl) (qv 0) ax (fun _ _=>rfl)) ax (cz _))
   (ai (aJ (i:=2) dN.nd rfl (l8 rfl) (aP fG (bf (bU (K:=K) rfl) (qv 0) ax (fun _ _=>rfl)) (qv 1)))
  (ai (kM (aP vd (bf (bU (K:=K) rfl) (qv 0) ax (fun _ _=>rfl)) (qv 1)) (mX (qv 0) ax))
  (aq (aY (qv 2)))))
   qss_nil)
  (ai (aJ (i:=3) dN.nd rfl (l8 rfl) ax)
  (ai (aJ (i:=4) dN.nd rfl (l8 rfl) ax)
  (ai (oP rb (bR y0 (qv 4) (qv 1) (cz _))
   (ai (kM (aP fG (aP eQ (aP jY (bf (bU (K:=K) rfl) (qv 0) ax (fun _ _=>rfl)) ax) ax) ax) (mX (qv 0) ax))
  (ai (aJ (i:=3) dN.nd rfl (l8 rfl) (aP eQ (aP jY (qv 3) ax) (aP fG (aP jY (aP vd (bf (bU (K:=K) rfl) (qv 0) ax (fun _ _=>rfl)) ax) ax) ax)))
  (aq (aJ (i:=4) dN.nd rfl (l8 rfl) (aP jY (qv 4) ax))))))
  (aq (aY (aP fG (qv 3) (qv 1)))))))),?_⟩
 subst e
 have Tq:∀x y:Int,cf [Dv.int x,Dv.int y] 1=some (.int y):=fun x y=>ck (j:=1) rfl
 have Tr:gh 2 0=some 0:=rfl
 have Ts:gh 2 1=some 1:=rfl
 have fin:∀{i c m:Int} {M:Mh},0<=c->0<=m->M=az Γ.M0 b (.lst [.int c,.int m])->ju Γ.M0 Q' (.int (i % n)) M:=fun {i c m M} hc hm e=>by
  obtain ⟨d,hd⟩:=xp (Vn i (show n≠0 by omega))
  have:=Int.emod_lt_of_pos i (show 0<n by omega)
  rw [hd,e]
  exact .inl (q d c m (by omega) hc hm)
 simp! only [hb,Tr]
 refine eE (fun h=>?_) (fun h=>?_)
 ·refine ⟨by omega,⟨by omega,n2⟩,fin (Int.ediv_nonneg hc (by omega)) hm rfl⟩
 ·refine ⟨fun k ρ M=>∃num room c m x2,0<=num/\1<=room/\0<=c/\0<=m/\k=(n - room).toNat/\ρ=[some (.ptr b),some (.int n),x2,some (.int num),some (.int room)]/\M=az Γ.M0 b (.lst [.int c,.int m]),⟨_,0,1,c,m,_,by omega,by omega,hc,hm,rfl,rfl,(xW hb).symm⟩,?_⟩
  rintro k ρ M ⟨num,room,c,m,x2,h1,h2,hc,hm,rfl,rfl,rfl⟩
  simp! only [Tq,Ts,updM_same]
  refine eE (fun h=>?_) (fun h=>⟨by omega,fin hc hm rfl⟩)
  have h:=of_decide_eq_true h
  have m3:0<=(m * 48271+7919) % 2147483647:=Vn _ (by decide)
  have n3:0<=(m * 48271+7919) % 2147483647 / 8 * 69621 % 1073741789:=Vn _ (by decide)
  refine ⟨.inr ⟨by decide,by decide⟩,by decide,.inr ⟨by decide,by decide⟩,⟨by decide,by decide⟩,.inr ⟨by decide,by decide⟩,by decide,.inr ⟨by decide,by decide⟩,_,?_,_,_,c,_,_,?_,?_,hc,m3,rfl,rfl,rfl⟩ <;> omega
theorem Lr (G:FnOk P w K mg base bq k f fd ps (aR P w K tb B8)):FnOk P w K mg base bq k f fd ps (aR P w K tb qm):=G.imp fun vs H Q E hS=>by
 obtain ⟨β,ds,M,Q',E',eP,ew,eK,et,m,rs,⟨b,n,e,hb,h1,h2,h⟩,q,qe⟩:=hS
 have eM:=xW hb
 have d1:∀o a,(M a).isSome=(az M b o a).isSome:=fun o a=>by have:=iX M b .cI o a;rwa [eM] at this
 rw [<- eM] at m
 obtain ⟨c,m0,hc,hm,hO⟩:=La m
 refine ⟨β,ds,az M b (.lst [.int c,.int m0]),fun d M'=>∃(k:Nat) (c' m':Int),d=.int (k:Nat)/\(k:Int)<n/\0<=c'/\0<=m'/\M'=az M b (.lst [.int c',.int m']),fun _ _=>False,eP,ew,eK,et,m.chg hO,⟨rs.len,fun i v d x y=>(rs.at' i v d x y).dom (d1 _)⟩,⟨b,n,c,m0,e,updM_same,hc,hm,h1,h2,fun d c' m' h3 h4 h5=>⟨d,c',m',rfl,h3,h4,h5,updM_updM⟩⟩,fun d M' v H' x r hQ=>?_,fun _ _ _ _ h=>h.elim⟩
 obtain ⟨k,c',m',rfl,hk,E3,pG,rfl⟩:=hQ
 have hB:=BW x.mz E3 pG
 have x2:=Ex.chg (o2:=.cI) x hB
 rw [eM] at x2
 exact q _ _ _ _ x2 (r.dom fun a=>(d1 _ a).symm) (h k hk)
theorem sP {α β:Type} (f:α->β):∀(l:List α) (i:Nat),(l.map f).eraseIdx i=(l.eraseIdx i).map f
 | [],_=>rfl
 |_::_,0=>rfl
 |a::l,i+1=>by
          show f a::(l.map f).eraseIdx i=f a::(l.eraseIdx i).map f
          rw [sP f l i]
theorem eX {α:Type}:∀(l:List α) (i:Nat) (h:i<l.length),(l[i]::l.eraseIdx i).Perm l
 |a::l,0,_=>.refl _
 |a::l,i+1,h=>by
          have h':i<l.length :=by simpa using h
          show (l[i]::a::l.eraseIdx i).Perm (a::l)
          exact (UN.swap a l[i] _).trans ((eX l i h').cons a)
structure c7 (n:Nat) (os:List Int):Prop where
 perm:os.Perm ((l9 n).map fun i:Nat=>(i:Int))
theorem c7.len {n:Nat} {os:List Int} (h:c7 n os):os.length=n :=by
 have:=h.perm.length_eq
 simpa using this
theorem c7.mem {n:Nat} {os:List Int} (h:c7 n os) {x:Int} (hx:x∈os):0<=x/\x<n :=by
 have:=h.perm.mem_iff.mp hx
 obtain ⟨i,hi,rfl⟩:=sw.mp this
 have:=ID.mp hi
 omega
theorem c7.at {n:Nat} {os:List Int} (h:c7 n os) {i:Nat} (hi:i<n):∃x:Int,cf (os.map Dv.int) (i:Int)=some (.int x)/\0<=x/\x<n :=by
 have hl:i<os.length :=by rw [h.len];exact hi
 exact ⟨os[i],ck (by rw [ca,ag hl];rfl),h.mem (mf hl)⟩
def B9:bV:=fun ds M Q _=>∃(b:ac) (n:Nat),ds=[.ptr b,.int (n:Nat)]/\M b=some .cI/\n<=100/\∀os,c7 n os->Q (j1 os) M
def FU:bV:=fun ds M Q _=>∃(b:ac) (most:Nat),ds=[.ptr b,.int (most:Nat)]/\M b=some .cI/\1<=most/\most<=9/\∀net n,aL net n->net.length<=most->Q (eN net) M
theorem Hm {n d:Nat} (h:d<n):seqIndex? (d:Int) n=some d:=(qF (n:=n) (i:=(d:Int)) (j:=d) (by unfold gh;rw [if_pos (by omega),if_pos (by omega)];rfl)).1
theorem vL {f1:ac} {bp:i0} (D:Df K mg "_law_order" gD ["_law_bag_here","_law_many"] f fd)
  (au:Df K mg "_law_take" dB ["_law_bag_here","_law_many"] f1 bp) (bu:FnOk P w K mg base bq 1 f1 bp ["_law_bag_here","_law_many"] (aR P w K tb qm)) (bl:Bl mg):FnOk P w K mg base bq 2 f fd ["_law_bag_here","_law_many"] (aR P w K tb B9) :=by
 refine fu D fJ (fun ds M Q E hS=>by obtain ⟨b,n,e,_⟩:=hS;rw [e];rfl) fun A outer s E Γ ds Q' E' hP hw hK ht hr hS=>?_
 obtain ⟨b,n,e,hb,hn,q⟩:=hS
 refine ⟨_,(ai (aJ (i:=2) fJ.nd rfl (l8 rfl) (tm rfl rfl bl.list_ rfl bl.range_ (qv 1)))
  (ai (aJ (i:=3) fJ.nd rfl (l8 rfl) (iW ae))
  (ai (cA rb rfl (bw rfl bl.range_ (aa (qv 1) ae)) (fun iu eP ew eK et=>by have hP:=hP.trans eP.symm;have hw:=hw.trans ew.symm;have hK:=hK.trans eK.symm;have ht:=ht.trans et.symm;exact ⟨(aO (i:=4) fJ.nd rfl (l8 rfl)),(aq (dI (j0 (K:=K) rfl Cf Op Os lq (qv 3) (aa (j0 (K:=K) rfl Cf PySem.F.slot_list_pop PySem.F.type_list_pop xN (qv 2) (aa (aF bu (hr.mono (by decide)) rfl au.mg au.fn.kp au.bd bH hP hw hK ht XR.none (aa (qv 0) (aa (aD (cy (K:=K) rfl hK) rfl bl.len_ on (aa (qv 2) ae)) ae))) ae)) ae))))⟩))
  (aq (aY (qv 3)))))),?_⟩
 subst e
 have big:(1000:Nat)<sizeLine :=by decide
 simp! only []
 refine ⟨by omega,by omega,fun a ha=>⟨by omega,fun c hc=>⟨by omega,by omega,?_⟩⟩⟩
 have FV:c≠a:=fun z=>by rw [z,updM_same] at hc;cases hc
 have qh:Γ.M0 c=none :=by rw [ak FV] at hc;exact hc
 have Tt:b≠a:=fun z=>by rw [z,ha] at hb;cases hb
 have Tu:b≠c:=fun z=>by rw [z,qh] at hb;cases hb
 refine bz (fun i ρ M=>∃rest got:List Int,(∃x,ρ=[some (.ptr b),some (.int (n:Nat)),some (.ptr a),some (.ptr c),x])/\M a=some (.lst (rest.map .int))/\M c=some (.lst (got.map .int))/\(∀d,d≠a->d≠c->M d=Γ.M0 d)/\got.length=i/\(got++rest).Perm ((l9 n).map fun i:Nat=>(i:Int)))
  ⟨(l9 n).map fun i:Nat=>(i:Int),[],⟨_,rfl⟩,by rw [ak (xz FV),updM_same,iB,BN];rfl,updM_same,fun d h1 h2=>by rw [ak h2,ak h1],rfl,.refl _⟩ (fun i d ρ M N hd hJ hN=>?_) (fun ρ M hJ=>?_)
 ·obtain ⟨rest,got,⟨x,rfl⟩,sN,FW,sO,hg,pm⟩:=hJ
  obtain ⟨rfl,hi⟩:=bA hd
  have hlen:got.length+rest.length=n :=by have:=pm.length_eq;simpa using this
  simp! only [sN,FW]
  refine ⟨b,_,rfl,(by rw [sO b Tt Tu];exact hb),by omega,by omega,fun d hd=>?_⟩
  have sf:d<rest.length :=by omega
  simp only [sN,ci,Hm sf,ca,ag sf,ON,ak FV,FW]
  refine ⟨by omega,by omega,by omega,hN _ _ ⟨rest.eraseIdx d,got++[rest[d]],⟨_,rfl⟩,by rw [ak (xz FV),updM_same,sP],by rw [updM_same,wT];rfl,fun e h1 h2=>by rw [ak h2,ak h1];exact sO e h1 h2,by simp [hg],?_⟩⟩
  refine UN.trans ?_ pm
  rw [GM]
  exact UN.append_left got (eX rest d sf)
 ·obtain ⟨rest,got,⟨x,rfl⟩,sN,FW,sO,hg,pm⟩:=hJ
  rw [rangeD_len] at hg
  have hlen:got.length+rest.length=n :=by have:=pm.length_eq;simpa using this
  have Ln:rest=[]:=Ps (by omega)
  rw [Ln,Cs] at pm
  exact Bv (fun d o e=>by rw [sO d (fun z=>by rw [z,ha] at e;cases e) (fun z=>by rw [z,qh] at e;cases e)];exact e) qh FW (jv _) (q got ⟨pm⟩)
end
section
variable {P:c8} {w:ff} {K:ba} {mg:bi->Option al} {base:gc} {tb:b5}
def iU (n ways:Nat) (row:List Int):Prop:=row.length=ways/\∀x∈row,0<=x/\x<(n:Int)
structure fe (M0 M:Mh) (r:ac) (as:List ac) (n ways:Nat):Prop where
 kp:Keeps M0 M
 r0:M0 r=none
 rm:M r=some (.lst (as.map .ptr))
 fr:∀a∈as,M0 a=none/\a≠r
 len:as.length=n
 row:∀a∈as,∃row:List Int,M a=some (.lst (row.map .int))/\iU n ways row
 pin:∀b o,M b=some o->M0 b=some o\/b=r\/(∃row:List Int,o=.lst (row.map .int))\/∃bs:List ac,o=.lst (bs.map .ptr)/\∀c∈bs,c≠r/\∃o,M c=some o
theorem fe.uN {M0 M:Mh} {r:ac} {as:List ac} {n ways:Nat} (h:fe M0 M r as n ways) {a:ac} (ha:a∈as) {row:List Int} (o:iU n ways row):fe M0 (az M a (.lst (row.map .int))) r as n ways :=by
 obtain ⟨f0,f1⟩:=h.fr a ha
 refine ⟨.upd f0 h.kp,h.r0,by rw [ak (xz f1)];exact h.rm,h.fr,h.len,fun c hc=>?_,fun b u e=>?_⟩
 ·by_cases z:c=a
  ·subst z;exact ⟨row,updM_same,o⟩
  ·rw [ak z];exact h.row c hc
 ·by_cases z:b=a
  ·subst z;rw [updM_same] at e;cases e;exact .inr (.inr (.inl ⟨row,rfl⟩))
  ·rw [ak z] at e
   rcases h.pin b u e with q|q|q|⟨bs,q1,q2⟩
   ·exact .inl q
   ·exact .inr (.inl q)
   ·exact .inr (.inr (.inl q))
   ·refine .inr (.inr (.inr ⟨bs,q1,fun c hc=>⟨(q2 c hc).1,?_⟩⟩))
    by_cases z:c=a
    ·subst z;exact ⟨_,updM_same⟩
    ·rw [ak z];exact (q2 c hc).2
theorem fe.put {M0 M:Mh} {r:ac} {as:List ac} {n ways:Nat} (h:fe M0 M r as n ways) {a:ac} (ha:M a=none) {row:List Int} (o:iU n ways row) {i:Nat} (hi:i<n):fe M0 (az (az M a (.lst (row.map .int))) r (.lst ((as.map .ptr).set i (.ptr a)))) r (as.set i a) n ways :=by
 have nr:a≠r:=fun z=>by rw [z,h.rm] at ha;cases ha
 have a0:M0 a=none :=by
  cases e:M0 a with
  |none=>rfl
  |some u=>rw [h.kp a u e] at ha;cases ha
 have Tv:a ∉ as:=fun z=>by obtain ⟨row,e,_⟩:=h.row a z;rw [ha] at e;cases e
 refine ⟨.upd h.r0 (.upd a0 h.kp),h.r0,by rw [updM_same,List.map_set],fun c hc=>?_,by rw [Tl];exact h.len,fun c hc=>?_,fun b u e=>?_⟩
 ·rcases Uf hc with z|z
  ·exact h.fr c z
  ·rw [z];exact ⟨a0,nr⟩
 ·rcases Uf hc with z|z
  ·have n1:=(h.fr c z).2
   have n2:c≠a:=fun e=>Tv (e▸z)
   rw [ak n1,ak n2];exact h.row c z
  ·rw [z,ak nr,updM_same];exact ⟨row,rfl,o⟩
 ·by_cases z:b=r
  ·exact .inr (.inl z)
  ·rw [ak z] at e
   by_cases z2:b=a
   ·subst z2;rw [updM_same] at e;cases e;exact .inr (.inr (.inl ⟨row,rfl⟩))
   ·rw [ak z2] at e
    rcases h.pin b u e with q|q|q|⟨bs,q1,q2⟩
    ·exact .inl q
    ·exact .inr (.inl q)
    ·exact .inr (.inr (.inl q))
    ·refine .inr (.inr (.inr ⟨bs,q1,fun c hc=>⟨(q2 c hc).1,?_⟩⟩))
     rw [ak (q2 c hc).1]
     by_cases z:c=a
     ·subst z;exact ⟨_,updM_same⟩
     ·rw [ak z];exact (q2 c hc).2
structure oV (M0 M:Mh):Prop where
 kp:Keeps M0 M
 pin:∀b o,M b=some o->M0 b=some o\/(∃row:List Int,o=.lst (row.map .int))\/∃bs:List ac,o=.lst (bs.map .ptr)/\∀c∈bs,∃o,M c=some o
theorem oV.refl {M0:Mh}:oV M0 M0:=⟨.refl,fun b o e=>.inl e⟩
theorem iV {M0 M:Mh} (h:Keeps M0 M) {a:ac} (ha:M a=none):M0 a=none :=by
 cases e:M0 a with
 |none=>rfl
 |some u=>rw [h a u e] at ha;cases ha
theorem oV.row {M0 M:Mh} (h:oV M0 M) {a:ac} (ha:M a=none) (row:List Int):oV M0 (az M a (.lst (row.map .int))) :=by
 refine ⟨.upd (iV h.kp ha) h.kp,fun b o e=>?_⟩
 by_cases z:b=a
 ·subst z;rw [updM_same] at e;cases e;exact .inr (.inl ⟨row,rfl⟩)
 ·rw [ak z] at e
  rcases h.pin b o e with q|q|⟨bs,q1,q2⟩
  ·exact .inl q
  ·exact .inr (.inl q)
  ·refine .inr (.inr ⟨bs,q1,fun c hc=>?_⟩)
   by_cases z:c=a
   ·subst z;exact ⟨_,updM_same⟩
   ·rw [ak z];exact q2 c hc
theorem T9 {g:cO} {te:aI} {n:Nat} {M1:Mh} (T:aA->Prop) {ds:List Dv} {τ:aA} {Q:List Dv->Mh->Prop} (h0:T τ) (h:∀d∈ds,∀τ,T τ->∀R:aA->ZK,(∀(x:Int) aC,0<=x->x<(n:Int)->T aC->R aC (.int x) M1)->g d τ M1 fun aC M2=>te aC M2 (R aC)) (q:∀row:List Int,row.length=ds.length->(∀x∈row,0<=x/\x<(n:Int))->Q (row.map .int) M1):ft g zNoIf te ds τ M1 Q :=by
 refine lz (acc:=[]) (fun acc τ M=>∃row:List Int,acc=row.map Dv.int/\(∀x∈row,0<=x/\x<(n:Int))/\T τ/\M=M1) ⟨[],rfl,(fun _ h=>nomatch h),h0,rfl⟩ (fun i d acc τ M hd _ ⟨row,e1,hr,ht,e2⟩ R hR=>?_) (fun ys τ M hl ⟨row,e1,hr,ht,e2⟩=>?_)
 ·subst e1 e2
  refine h d (ii hd) τ ht R fun x aC x0 x1 t2=>hR _ _ _ ⟨row++[x],by rw [wT];rfl,fun y hy=>?_,t2,rfl⟩
  rcases zd.mp hy with z|z
  ·exact hr y z
  ·rw [kw] at z;rw [z];exact ⟨x0,x1⟩
 ·rw [LG] at e1
  subst e1 e2
  exact q row (by simpa using hl) hr
def eV (x:Option Dv):Prop:=∀M d,x=some d->Pin M d
theorem eV.none:eV none:=fun _ _ h=>nomatch h
theorem eV.int (i:Int):eV (some (.int i)):=fun _ _ h=>by cases h;exact .int i
theorem eV.lI (ns:List Int):eV (some (j1 ns)):=fun _ _ h=>by cases h;exact .lst (jv ns)
theorem rh {n d:Nat} (h:d<n):gh n (d:Int)=some d :=by unfold gh;rw [if_pos (by omega),if_pos (by omega)];rfl
theorem vM (row:List Int) (t:Nat) (x:Int):(row.map Dv.int).set t (.int x)=(row.set t x).map Dv.int :=by rw [List.map_set]
theorem iU.set {n ways:Nat} {row:List Int} (h:iU n ways row) {t:Nat} {x:Int} (x0:0<=x) (x1:x<(n:Int)):iU n ways (row.set t x):=⟨by rw [Tl];exact h.1,fun y hy=>by
 rcases Uf hy with z|z
 ·exact h.2 y z
 ·rw [z];exact ⟨x0,x1⟩⟩
def qo (os:List Int):Dv->Int | .int j=>os.getD j.toNat 0|_=>0
theorem vN {os:List Int} {j:Nat} {x:Int} (h:cf (os.map Dv.int) (j:Int)=some (.int x)):qo os (.int (j:Nat))=x :=by
 by_cases hj:j<os.length
 ·rw [ck (j:=j) (v:=Dv.int os[j]) (by rw [ca,ag hj];rfl)] at h
  cases h
  show os.getD (Int.toNat (j:Int)) 0=_
  rw [ss,ce,ag hj];rfl
 ·unfold cf gh at h
  rw [if_pos (by omega),if_neg (by simp;omega)] at h
  cases h
def Eg (per i:Nat):Dv->Bool | .int j=>decide (j % (per:Int)=((i:Int)+1) % (per:Int))|_=>false
theorem Eh {n per i:Nat} {os:List Int} (jB:c7 n os) (p1:1<=per) (pn:per<=n):∃gs:List Int,((bT 0 n).filter (Eg per i)).map (fun d=>Dv.int (qo os d))=gs.map Dv.int/\1<=gs.length/\gs.length<=n/\∀x∈gs,0<=x/\x<(n:Int) :=by
 refine ⟨((bT 0 n).filter (Eg per i)).map (qo os),by rw [BN];rfl,?_,?_,fun x hx=>?_⟩
 ·rw [ci]
  refine Po (a:=Dv.int (((i+1) % per:Nat):Int)) (EN.mpr ⟨?_,?_⟩)
  ·have:(i+1) % per<per:=Vl _ (by omega)
   exact ii (i:=(i+1) % per) (by rw [bT,ca,AE (by omega)];simp)
  ·show decide _=true
   rw [decide_eq_true_eq]
   push_cast
   exact Int.emod_emod_of_dvd _ (Int.dvd_refl _)
 ·rw [ci]
  exact uu (Vb _ _) (by rw [rangeD_len];exact cb _)
 ·obtain ⟨d,hd,rfl⟩:=sw.mp hx
  obtain ⟨j,hj,rfl⟩:=qf (EN.mp hd).1
  rw [Ll]
  obtain ⟨gx,FX,g0,g1⟩:=jB.at hj
  rw [vN FX]
  exact ⟨g0,g1⟩
structure gG (M0 M:Mh) (r:ac) (as:List ac) (n:Nat) (L:Nat->Nat):Prop where
 own:oV M0 M
 r0:M0 r=none
 rm:M r=some (.lst (as.map .ptr))
 fr:∀a∈as,M0 a=none/\a≠r
 nd:as.Nodup
 len:as.length=n
 rows:∀i a,as[i]?=some a->∃row:List Int,M a=some (.lst (row.map .int))/\iU n (L i) row
 ptr:∀b bs,M b=some (.lst (bs.map .ptr))->b=r\/M0 b=some (.lst (bs.map .ptr))\/bs=[]
theorem gG.set {M0 M:Mh} {r:ac} {as:List ac} {n:Nat} {L:Nat->Nat} (h:gG M0 M r as n L) {i:Nat} {a:ac} (ha:as[i]?=some a) {row:List Int} {m:Nat} (o:iU n m row):gG M0 (az M a (.lst (row.map .int))) r as n fun j=>if j=i then m else L j :=by
 have hm:=ii ha
 obtain ⟨f0,f1⟩:=h.fr a hm
 refine ⟨⟨.upd f0 h.own.kp,fun b o e=>?_⟩,h.r0,by rw [ak (xz f1)];exact h.rm,h.fr,h.nd,h.len,fun j c hc=>?_,fun b bs e=>?_⟩
 ·by_cases z:b=a
  ·subst z;rw [updM_same] at e;cases e;exact .inr (.inl ⟨row,rfl⟩)
  ·rw [ak z] at e
   rcases h.own.pin b o e with q|q|⟨bs,q1,q2⟩
   ·exact .inl q
   ·exact .inr (.inl q)
   ·refine .inr (.inr ⟨bs,q1,fun c hc=>?_⟩)
    by_cases z:c=a
    ·subst z;exact ⟨_,updM_same⟩
    ·rw [ak z];exact q2 c hc
 ·by_cases z:j=i
  ·subst z
   rw [ha] at hc;cases hc
   exact ⟨row,updM_same,by rw [if_pos rfl];exact o⟩
  ·have sQ:c≠a:=fun e=>z (by
    subst e
    obtain ⟨h1,e1⟩:=bv.mp ha
    obtain ⟨h2,e2⟩:=bv.mp hc
    rcases Nat.lt_trichotomy j i with q|q|q
    ·exact absurd (e2.trans e1.symm) (MW.mp h.nd j i h2 h1 q)
    ·exact q
    ·exact absurd (e1.trans e2.symm) (MW.mp h.nd i j h1 h2 q))
   rw [ak sQ,if_neg z];exact h.rows j c hc
 ·by_cases z:b=a
  ·subst z
   rw [updM_same] at e
   cases row with
   |nil=>cases bs with
    |nil=>exact .inr (.inr rfl)
    |cons c bs=>simp at e
   |cons x row=>cases bs with
    |nil=>exact .inr (.inr rfl)
    |cons c bs=>simp at e
  ·rw [ak z] at e;exact h.ptr b bs e
theorem gG.full {M0 M:Mh} {r:ac} {as:List ac} {n ways:Nat} {L:Nat->Nat} (h:gG M0 M r as n L) (hL:∀i,i<n->L i=ways):fe M0 M r as n ways :=by
 refine ⟨h.own.kp,h.r0,h.rm,h.fr,h.len,fun a ha=>?_,fun b o e=>?_⟩
 ·obtain ⟨i,hi⟩:=mo.mp ha
  obtain ⟨row,e,o⟩:=h.rows i a hi
  rw [hL i (by rw [<- h.len];exact (bv.mp hi).1)] at o
  exact ⟨row,e,o⟩
 ·rcases h.own.pin b o e with q|q|⟨bs,rfl,q2⟩
  ·exact .inl q
  ·exact .inr (.inr (.inl q))
  ·rcases h.ptr b bs e with z|z|z
   ·exact .inr (.inl z)
   ·exact .inl z
   ·subst z;exact .inr (.inr (.inl ⟨[],rfl⟩))
theorem gG.zl {M0 M:Mh} {r:ac} {as:List ac} {n:Nat} {L L':Nat->Nat} (h:gG M0 M r as n L) (e:∀i,i<n->L i=L' i):gG M0 M r as n L':=
 ⟨h.own,h.r0,h.rm,h.fr,h.nd,h.len,fun i a ha=>by
  have:=h.rows i a ha
  rwa [e i (by rw [<- h.len];exact (bv.mp ha).1)] at this,h.ptr⟩
theorem c7.nodup {n:Nat} {os:List Int} (h:c7 n os):os.Nodup :=by
 refine h.perm.nodup_iff.mpr ?_
 exact List.pairwise_map.mpr (List.nodup_range.imp fun h e=>h (by omega))
theorem c7.prev {n:Nat} {os:List Int} (h:c7 n os) {k:Nat} (hk:k<n):∃p:Nat,cf (os.map Dv.int) ((k:Int) - 1)=some (.int (p:Nat))/\p<n :=by
 have hl:=h.len
 obtain ⟨j,hj,e⟩:∃j:Nat,j<n/\gh n ((k:Int) - 1)=some j :=by
  unfold gh
  by_cases z:k=0
  ·exact ⟨n - 1,by omega,by rw [if_neg (by omega),if_pos (by omega)];congr 1;omega⟩
  ·exact ⟨k - 1,by omega,by rw [if_pos (by omega),if_pos (by omega)];congr 1;omega⟩
 have Pr:j<os.length :=by omega
 obtain ⟨g0,g1⟩:=h.mem (mf Pr)
 refine ⟨os[j].toNat,?_,by omega⟩
 unfold cf
 rw [ci,hl,e]
 show (os.map Dv.int)[j]?=_
 rw [ca,ag Pr]
 show some (Dv.int os[j])=_
 congr 2
 omega
theorem Hn (x:Int) (k:Nat):(r9 k [Dv.int x]).flatten=(r9 k x).map Dv.int :=by
 induction k with
 |zero=>rfl
 |succ k ih=>rw [xb,GG,ih,xb];rfl
theorem zm {f f1 f2:ac} {fd bp fd2:i0} (D:Df K mg "_law_net" d8 ["_law_bag_here","_law_most"] f fd)
  (au:Df K mg "_law_take" dB ["_law_bag_here","_law_many"] f1 bp) (bu:FnOk P w K mg base bq 1 f1 bp ["_law_bag_here","_law_many"] (aR P w K tb qm))
  (dO:Df K mg "_law_order" gD ["_law_bag_here","_law_many"] f2 fd2) (vO:FnOk P w K mg base bq 2 f2 fd2 ["_law_bag_here","_law_many"] (aR P w K tb B9)) (bl:Bl mg):FnOk P w K mg base bq 3 f fd ["_law_bag_here","_law_most"] (aR P w K tb FU) :=by
 refine fu D bt (fun ds M Q E hS=>by obtain ⟨b,n,e,_⟩:=hS;rw [e];rfl) fun A outer s E Γ ds Q' E' hP hw hK ht hr hS=>?_
 obtain ⟨b,most,e,hb,h1,h9,q⟩:=hS
 refine ⟨_,(ai (aJ (i:=2) bt.nd rfl (l8 rfl) (aP eQ ax (aF bu (hr.mono (by decide)) rfl au.mg au.fn.kp au.bd bH hP hw hK ht XR.none (aa (qv 0) (aa (qv 1) ae)))))
  (ai (aJ (i:=3) bt.nd rfl (l8 rfl) (aP eQ ax (aF bu (hr.mono (by decide)) rfl au.mg au.fn.kp au.bd bH hP hw hK ht XR.none (aa (qv 0) (aa ax ae)))))
  (ai (aJ (i:=4) bt.nd rfl (l8 rfl) (aF bu (hr.mono (by decide)) rfl au.mg au.fn.kp au.bd bH hP hw hK ht XR.none (aa (qv 0) (aa ax ae))))
  (ai (aJ (i:=5) bt.nd rfl (ES rfl) ax)
  (ai (cP (bR qR (qv 4) ax (cz _))
   (ai (aJ (i:=5) bt.nd rfl (ES rfl) (aD (vh rfl) rfl bl.min_ pK (aa (aP eQ ax (aF bu (hr.mono (by decide)) rfl au.mg au.fn.kp au.bd bH hP hw hK ht XR.none (aa (qv 0) (aa ax ae)))) (aa (qv 2) ae))))
  (aq (aJ (i:=2) bt.nd rfl (l8 rfl) (aP jY (aP vd (qv 2) (qv 5)) (qv 5)))))
   qss_nil)
  (ai (aJ (i:=6) bt.nd rfl (ES rfl) (aF vO (hr.mono (by decide)) rfl dO.mg dO.fn.kp dO.bd bH hP hw hK ht XR.none (aa (qv 0) (aa (qv 2) ae))))
  (ai (wG (i:=7) bt.nd rfl rfl (N':=["_law_place"]) (tn:=1) (idx:=[]) rfl (show aW ["_law_bag_here","_law_most","_law_many","_law_fans","_law_kind","_law_lap","_law_order_here","_law_rows","_law_k","_law_goals","_law_fan"] (aj d8) _ ["_law_place"] 1 [] from by decide +kernel) (bw rfl bl.range_ (aa (qv 2) ae)) (fun _ _ _ _ _=>(aO (i:=0) (show IS [("_law_place" : bi)] from by decide +kernel) rfl (l8 rfl))) (fun _ _ _ _ _=>gb) (fun _ _ _ _ _=>(iW ae)))
  (ai (cA rb rfl (bw rfl bl.range_ (aa (qv 2) ae)) (fun iu eP ew eK et=>by have hP:=hP.trans eP.symm;have hw:=hw.trans ew.symm;have hK:=hK.trans eK.symm;have ht:=ht.trans et.symm;exact ⟨(aO (i:=8) bt.nd rfl (ES rfl)),(ai (iP (i:=9) bt.nd rfl rfl (N':=["_law_j","_law_order_here","_law_lap","_law_k"]) (tn:=1) (idx:=[6,5,8]) rfl (show aW ["_law_bag_here","_law_most","_law_many","_law_fans","_law_kind","_law_lap","_law_order_here","_law_rows","_law_k","_law_goals","_law_fan"] (aj d8) _ ["_law_j","_law_order_here","_law_lap","_law_k"] 1 [6,5,8] from by decide +kernel) (bw rfl bl.range_ (aa (qv 2) ae)) (fun _ _ _ _ _=>(aO (i:=0) (show IS [("_law_j" : bi),("_law_order_here" : bi),("_law_lap" : bi),("_law_k" : bi)] from by decide +kernel) rfl (l8 rfl))) (fun _ _ _ _ _=>(qQ (bR qR (aP fG (qv 0) (qv 2)) (aP fG (aP eQ (qv 3) ax) (qv 2)) (cz _)))) (fun _ _ _ _ _=>(bf (bU (K:=K) rfl) (qv 1) (qv 0) (fun _ _=>rfl))))
  (aq (cA rb rfl (bw rfl bl.range_ (aa (qv 3) ae)) (fun iu eP ew eK et=>by have hP:=hP.trans eP.symm;have hw:=hw.trans ew.symm;have hK:=hK.trans eK.symm;have ht:=ht.trans et.symm;exact ⟨(aO (i:=10) bt.nd rfl (l8 rfl)),(aq (dI (j0 (K:=K) rfl Cf Op Os lq (bf (bU (K:=K) rfl) (qv 7) (bf (bU (K:=K) rfl) (qv 6) (qv 8) (fun _ _=>rfl)) (fun _ _=>rfl)) (aa (bf (bU (K:=K) rfl) (qv 9) (aF bu (hr.mono (by decide)) rfl au.mg au.fn.kp au.bd bH hP hw hK ht XR.none (aa (qv 0) (aa (aD (cy (K:=K) rfl hK) rfl bl.len_ on (aa (qv 9) ae)) ae))) (fun _ _=>rfl)) ae))))⟩))))⟩))
  (ai (cP (bR ve (qv 4) ax (cz _))
   (aq (cA rb rfl (bw rfl bl.range_ (aa (qv 2) ae)) (fun iu eP ew eK et=>by have hP:=hP.trans eP.symm;have hw:=hw.trans ew.symm;have hK:=hK.trans eK.symm;have ht:=ht.trans et.symm;exact ⟨(aO (i:=8) bt.nd rfl (ES rfl)),(aq (kM (bf (bU (K:=K) rfl) (qv 6) (qv 8) (fun _ _=>rfl)) (mX (bf (bU (K:=K) rfl) (qv 7) (bf (bU (K:=K) rfl) (qv 6) (aP tS (qv 8) ax) (fun _ _=>rfl)) (fun _ _=>rfl)) (aF bu (hr.mono (by decide)) rfl au.mg au.fn.kp au.bd bH hP hw hK ht XR.none (aa (qv 0) (aa (qv 3) ae))))))⟩)))
   qss_nil)
  (ai (cP (bR qR (qv 4) ax (cz _))
   (ai (cA rb rfl (bw rfl bl.range_ (aa (qv 2) ae)) (fun iu eP ew eK et=>by have hP:=hP.trans eP.symm;have hw:=hw.trans ew.symm;have hK:=hK.trans eK.symm;have ht:=ht.trans et.symm;exact ⟨(aO (i:=8) bt.nd rfl (ES rfl)),(aq (kM (aP Lb (Be (aa (bf (bU (K:=K) rfl) (qv 6) (qv 8) (fun _ _=>rfl)) ae)) (qv 3)) (mX (qv 7) (bf (bU (K:=K) rfl) (qv 6) (aP tS (qv 8) ax) (fun _ _=>rfl)))))⟩))
  (aq (kM (aF bu (hr.mono (by decide)) rfl au.mg au.fn.kp au.bd bH hP hw hK ht XR.none (aa (qv 0) (aa (qv 2) ae))) (mX (bf (bU (K:=K) rfl) (qv 7) ax (fun _ _=>rfl)) ax))))
   qss_nil)
  (aq (KI 7 rfl (aY (mU (xM (K:=K) rfl) rfl bl.tuple_ ji (aa (oA (N':=["_law_row"]) (tn:=1) (idx:=[]) rfl (show aW ["_law_bag_here","_law_most","_law_many","_law_fans","_law_kind","_law_lap","_law_order_here","_law_rows","_law_k","_law_goals","_law_fan"] (aj d8) _ ["_law_row"] 1 [] from by decide +kernel) (qP (K:=K) rfl (qv 7)) (fun _ _ _ _ _=>(aO (i:=0) (show IS [("_law_row" : bi)] from by decide +kernel) rfl (l8 rfl))) (fun _ _ _ _ _=>gb) (fun _ _ _ _ _=>(mU (xM (K:=K) rfl) rfl bl.tuple_ ji (aa (qv 0) ae)))) ae))))))))))))))),?_⟩
 subst e
 have big:(100:Nat)<sizeLine :=by decide
 refine NN (fun ρ M=>M=Γ.M0/\∃(n ways kind cQ:Nat),ρ=[some (.ptr b),some (.int (most:Nat)),some (.int (n:Nat)),some (.int (ways:Nat)),some (.int (kind:Nat)),some (.int (cQ:Nat)),none,none,none,none,none]/\1<=n/\n<=most/\(ways=2\/ways=3)/\1<=cQ/\cQ<=n) (fun N hN=>?_) ?_
 ·simp! only []
  refine ⟨b,_,rfl,hb,by omega,by omega,fun m hm=>?_⟩
  obtain ⟨n,hn⟩:∃n:Nat,(1+(m:Int))=(n:Nat):=⟨1+m,by omega⟩
  have n1:1<=n :=by omega
  have n9:n<=most :=by omega
  simp! only [hn]
  refine ⟨b,_,rfl,hb,by omega,by omega,fun v hv=>?_⟩
  obtain ⟨ways,NQ⟩:∃ways:Nat,(2+(v:Int))=(ways:Nat):=⟨2+v,by omega⟩
  have w2:ways=2\/ways=3 :=by omega
  simp! only [NQ]
  refine ⟨b,_,rfl,hb,by omega,by omega,fun kind tM=>?_⟩
  simp! only []
  refine eE (fun h=>?_) (fun h=>hN _ _ ⟨rfl,n,ways,kind,1,rfl,n1,n9,w2,by omega,n1⟩)
  refine ⟨b,_,rfl,hb,by omega,by omega,fun t ht=>?_⟩
  obtain ⟨cQ,Ra,l1,ln⟩:∃cQ:Nat,(if (n:Int)<2+(t:Int) then (n:Int) else 2+(t:Int))=(cQ:Nat)/\1<=cQ/\cQ<=n :=by
   by_cases z:(n:Int)<2+(t:Int)
   ·exact ⟨n,by rw [if_pos z],n1,cb _⟩
   ·exact ⟨2+t,by rw [if_neg z];omega,by omega,by omega⟩
  simp only [Ra]
  have en:(n:Int) / (cQ:Int) * (cQ:Int)=((n / cQ * cQ:Nat):Int) :=by push_cast;rfl
  have d1:n / cQ * cQ<=n:=Nat.div_mul_le_self n cQ
  have d2:cQ<=n / cQ * cQ :=by
   have:1<=n / cQ:=Nat.div_pos ln (by omega)
   exact Nat.le_mul_of_pos_left cQ this
  rw [en]
  exact ⟨⟨by omega,by omega⟩,.inr ⟨by omega,by omega⟩,hN _ _ ⟨rfl,n / cQ * cQ,ways,kind,cQ,rfl,by omega,by omega,w2,l1,d2⟩⟩
 rintro ρ M ⟨rfl,n,ways,kind,cQ,rfl,n1,n9,w2,l1,ln⟩
 refine NK (fun ρ M=>∃(r:ac) (as:List ac) (os:List Int) (x8 x9 iw:Option Dv),(eV x8/\eV x9/\eV iw)/\ρ=[some (.ptr b),some (.int (most:Nat)),some (.int (n:Nat)),some (.int (ways:Nat)),some (.int (kind:Nat)),some (.int (cQ:Nat)),some (j1 os),some (.ptr r),x8,x9,iw]/\fe Γ.M0 M r as n ways/\c7 n os) (fun N hN=>?_) ?_
 ·simp! only []
  refine ⟨b,n,rfl,hb,by omega,fun os jB=>?_⟩
  have uM:=jB.len
  simp! only []
  refine ⟨by omega,by omega,by omega,lz (acc:=[]) (fun acc τ M=>∃as:List ac,acc=as.map Dv.ptr/\(∃x,τ=[x])/\oV Γ.M0 M/\as.Nodup/\(∀a∈as,Γ.M0 a=none/\M a=some (.lst []))/\∀c (bs:List ac),M c=some (.lst (bs.map .ptr))->Γ.M0 c=some (.lst (bs.map .ptr))\/bs=[]) ⟨[],rfl,⟨_,rfl⟩,.refl,.nil,(fun _ h=>nomatch h),fun c bs e=>.inl e⟩ (fun i d acc τ M hd _ hJ R hR=>?_) (fun ys τ M hl hJ=>?_)⟩
  ·obtain ⟨as,rfl,⟨x,rfl⟩,hO,Ls,ha,hp⟩:=hJ
   simp! only []
   refine ⟨by omega,fun a hn=>hR _ _ _ ⟨as++[a],by rw [wT];rfl,⟨_,rfl⟩,hO.row hn [],?_,fun c hc=>?_,fun c bs e=>?_⟩⟩
   ·rw [UW]
    refine ⟨Ls,by simp,fun x hx y hy e=>?_⟩
    rw [kw] at hy
    subst e hy
    rw [(ha _ hx).2] at hn;cases hn
   ·rcases zd.mp hc with z|z
    ·obtain ⟨q1,q2⟩:=ha c z
     have ne:c≠a:=fun q=>by rw [q,hn] at q2;cases q2
     exact ⟨q1,by rw [ak ne];exact q2⟩
    ·rw [kw] at z
     subst z
     exact ⟨iV hO.kp hn,updM_same⟩
   ·by_cases z:c=a
    ·subst z
     rw [updM_same] at e
     cases bs with
     |nil=>exact .inr rfl
     |cons y bs=>simp at e
    ·rw [ak z] at e;exact hp c bs e
  ·obtain ⟨as,e1,⟨x,rfl⟩,hO,Ls,ha,hp⟩:=hJ
   rw [LG] at e1
   subst e1
   intro r Lv
   have Rb:as.length=n :=by simpa [rangeD_len] using hl
   have ne:∀{c o},M c=some o->c≠r:=fun e z=>by rw [z,Lv] at e;cases e
   have RF:gG Γ.M0 (az M r (.lst (as.map .ptr))) r as n fun _=>0 :=by
    refine ⟨⟨.upd (iV hO.kp Lv) hO.kp,fun c o e=>?_⟩,iV hO.kp Lv,updM_same,fun a h=>⟨(ha a h).1,ne (ha a h).2⟩,Ls,Rb,fun i a h=>?_,fun c bs e=>?_⟩
    ·by_cases z:c=r
     ·subst z;rw [updM_same] at e;cases e
      exact .inr (.inr ⟨as,rfl,fun a h=>⟨_,by rw [ak (ne (ha a h).2)];exact (ha a h).2⟩⟩)
     ·rw [ak z] at e
      rcases hO.pin c o e with q|q|⟨bs,q1,q2⟩
      ·exact .inl q
      ·exact .inr (.inl q)
      ·refine .inr (.inr ⟨bs,q1,fun y hy=>?_⟩)
       obtain ⟨u,hu⟩:=q2 y hy
       exact ⟨u,by rw [ak (ne hu)];exact hu⟩
    ·have hm:=ha a (ii h)
     exact ⟨[],by rw [ak (ne hm.2)];exact hm.2,rfl,fun _ h=>nomatch h⟩
    ·by_cases z:c=r
     ·exact .inl z
     ·rw [ak z] at e;exact .inr (hp c bs e)
   refine ⟨by omega,by omega,?_⟩
   refine bz (fun i ρ M=>∃x8 x9 iw,(eV x8/\eV x9/\eV iw)/\ρ=[some (.ptr b),some (.int (most:Nat)),some (.int (n:Nat)),some (.int (ways:Nat)),some (.int (kind:Nat)),some (.int (cQ:Nat)),some (j1 os),some (.ptr r),x8,x9,iw]/\gG Γ.M0 M r as n (fun j=>if ((j:Nat):Int)∈os.take i then ways else 0))
    ⟨_,_,_,⟨.none,.none,.none⟩,rfl,RF.zl fun i _=>by simp⟩ (fun i d ρ M N2 hd hJ kQ=>?_) (fun ρ M hJ=>?_)
   ·obtain ⟨x8,x9,iw,⟨p8,p9,sR⟩,rfl,RF⟩:=hJ
    obtain ⟨rfl,hi⟩:=bA hd
    have sJ:i<os.length :=by omega
    obtain ⟨g0,g1⟩:=jB.mem (mf sJ)
    obtain ⟨pk,iJ⟩:=xp g0
    have oC:pk<n :=by omega
    have pJ:cf (os.map Dv.int) ((i:Nat):Int)=some (.int (pk:Nat)):=ck (by rw [ca,ag sJ,iJ];rfl)
    have Lw:pk<as.length :=by omega
    have Tw:cf (as.map Dv.ptr) ((pk:Nat):Int)=some (.ptr as[pk]):=ck (by rw [ca,ag Lw];rfl)
    have Pt:as[pk]?=some as[pk]:=ag Lw
    have Rc:((pk:Nat):Int) ∉ os.take i:=fun z=>by
     obtain ⟨j,hj,e⟩:=List.mem_iff_getElem.mp z
     rw [List.getElem_take,<- iJ] at e
     rw [U1] at hj
     exact MW.mp jB.nodup j i (by omega) sJ (by omega) e
    simp! only []
    refine ⟨by omega,by omega,by omega,qV (Eg cQ i) (fun d=>.int (qo os d)) (fun τ M'=>(∃x,τ=[x,some (j1 os),some (.int (cQ:Nat)),some (.int (i:Nat))])/\M'=M) ⟨⟨_,rfl⟩,rfl⟩ (fun d hd τ M' hI R0 R h1 h2=>?_) (fun τ M' hI=>?_)⟩
    ·obtain ⟨⟨x,rfl⟩,rfl⟩:=hI
     obtain ⟨j,hj,rfl⟩:=qf hd
     simp only [Ll] at h1 h2 ⊢
     obtain ⟨gx,FX,g0,g1⟩:=jB.at hj
     have hg:qo os (.int (j:Nat))=gx:=vN FX
     simp! only [FX]
     refine ⟨by omega,by omega,eE (fun h=>?_) (fun h=>?_)⟩
     ·rw [hg] at h1
      exact h1 h _ _ ⟨⟨_,rfl⟩,rfl⟩
     ·exact h2 h _ _ ⟨⟨_,rfl⟩,rfl⟩
    ·obtain ⟨⟨x,rfl⟩,rfl⟩:=hI
     obtain ⟨gs,Tx,UC,UD,Tz⟩:=Eh (i:=i) jB (per:=cQ) (by omega) (by omega)
     rw [Tx]
     refine ⟨by omega,by omega,?_⟩
     refine bz (fun f ρ M=>(∃iw,eV iw/\ρ=[some (.ptr b),some (.int (most:Nat)),some (.int (n:Nat)),some (.int (ways:Nat)),some (.int (kind:Nat)),some (.int (cQ:Nat)),some (j1 os),some (.ptr r),some (.int (i:Nat)),some (j1 gs),iw])/\gG Γ.M0 M r as n (fun j=>if j=pk then f else if ((j:Nat):Int)∈os.take i then ways else 0))
      ⟨⟨_,sR,rfl⟩,RF.zl fun j _=>by
       by_cases z:j=pk
       ·subst z;rw [if_neg Rc,if_pos rfl]
       ·rw [if_neg z]⟩ (fun f d ρ M N3 hd hJ TC=>?_) (fun ρ M hJ=>?_)
     ·obtain ⟨⟨iw,sR,rfl⟩,RF⟩:=hJ
      obtain ⟨rfl,hf⟩:=bA hd
      obtain ⟨row,em,ro⟩:=RF.rows pk _ Pt
      rw [if_pos rfl] at ro
      simp! only [pJ,RF.rm,Tw,em]
      refine ⟨b,_,rfl,RF.own.kp _ _ hb,by omega,by omega,fun t ht=>?_⟩
      have Lx:t<gs.length :=by omega
      simp only [show cf (gs.map Dv.int) (t:Int)=some (.int gs[t]) from ck (by rw [ca,ag Lx];rfl),em,ci,ro.1]
      have TF:=Tz _ (mf Lx)
      have er:row.map Dv.int++[Dv.int gs[t]]=(row++[gs[t]]).map Dv.int :=by rw [wT];rfl
      rw [er]
      refine ⟨by omega,TC _ _ ⟨⟨_,.int _,rfl⟩,(RF.set Pt (row:=row++[gs[t]]) (m:=f+1) ⟨by rw [tz,ro.1];rfl,fun y hy=>?_⟩).zl fun j _=>?_⟩⟩
      ·rcases zd.mp hy with z|z
       ·exact ro.2 y z
       ·rw [kw.mp z];exact TF
      ·by_cases z:j=pk
       ·rw [if_pos z,if_pos z]
       ·rw [if_neg z,if_neg z,if_neg z]
     ·obtain ⟨⟨iw,sR,rfl⟩,RF⟩:=hJ
      rw [rangeD_len] at RF
      refine kQ _ _ ⟨_,_,_,⟨.int _,.lI gs,sR⟩,rfl,RF.zl fun j _=>?_⟩
      have k6:((j:Nat):Int)∈os.take (i+1) ↔ ((j:Nat):Int)∈os.take i\/j=pk :=by
       rw [VR,zd,ag sJ,iJ]
       constructor
       ·rintro (z|z)
        ·exact .inl z
        ·have:((j:Nat):Int)=(pk:Nat) :=by simpa using z
         exact .inr (by omega)
       ·rintro (z|z)
        ·exact .inl z
        ·exact .inr (by simp [z])
      by_cases z:j=pk
      ·rw [if_pos z,if_pos (k6.mpr (.inr z))]
      ·rw [if_neg z]
       by_cases y:((j:Nat):Int)∈os.take i
       ·rw [if_pos y,if_pos (k6.mpr (.inl y))]
       ·rw [if_neg y,if_neg (fun q=>(k6.mp q).elim y z)]
   ·obtain ⟨x8,x9,iw,⟨p8,p9,sR⟩,rfl,RF⟩:=hJ
    rw [rangeD_len] at RF
    refine hN _ _ ⟨r,as,os,_,_,_,⟨p8,p9,sR⟩,rfl,RF.full fun j hj=>?_,jB⟩
    rw [Pe (by omega),if_pos (jB.perm.mem_iff.mpr (sw.mpr ⟨j,ID.mpr hj,rfl⟩))]
 rintro ρ M ⟨r,as,os,x8,x9,iw,⟨p8,p9,sR⟩,rfl,RM,jB⟩
 have uM:=jB.len
 have Ly:∀{as:List ac} {M:Mh} {p:Nat},fe Γ.M0 M r as n ways->p<n->∃a,cf (as.map Dv.ptr) ((p:Nat):Int)=some (.ptr a)/\a∈as:=fun {as M p} RM hp=>by
  have hl:p<as.length :=by rw [RM.len];exact hp
  exact ⟨as[p],ck (by rw [ca,ag hl];rfl),mf hl⟩
 refine FN (fun ρ M=>∃(as:List ac) (x8:Option Dv),eV x8/\ρ=[some (.ptr b),some (.int (most:Nat)),some (.int (n:Nat)),some (.int (ways:Nat)),some (.int (kind:Nat)),some (.int (cQ:Nat)),some (j1 os),some (.ptr r),x8,x9,iw]/\fe Γ.M0 M r as n ways) (fun N hN=>?_) ?_
 ·simp! only []
  refine eE (fun h=>⟨by omega,by omega,?_⟩) (fun _=>hN _ _ ⟨as,_,p8,rfl,RM⟩)
  refine bz (fun i ρ M=>∃(as:List ac) (x8:Option Dv),eV x8/\ρ=[some (.ptr b),some (.int (most:Nat)),some (.int (n:Nat)),some (.int (ways:Nat)),some (.int (kind:Nat)),some (.int (cQ:Nat)),some (j1 os),some (.ptr r),x8,x9,iw]/\fe Γ.M0 M r as n ways) ⟨as,_,p8,rfl,RM⟩ (fun i d ρ M N2 hd hJ kQ=>?_) (fun ρ M hJ=>hN _ _ hJ)
  obtain ⟨as,x8,p8,rfl,RM⟩:=hJ
  obtain ⟨rfl,hi⟩:=bA hd
  obtain ⟨p,hp,pn⟩:=jB.prev hi
  obtain ⟨g,hg,g0,g1⟩:=jB.at hi
  obtain ⟨a,ea,ha⟩:=Ly RM pn
  obtain ⟨row,em,ro⟩:=RM.row a ha
  simp! only [hg,hp,RM.rm,ea]
  refine ⟨b,_,rfl,RM.kp _ _ hb,by omega,by omega,fun t ht=>?_⟩
  simp only [em,ci,ro.1,rh (show t<ways by omega)]
  rw [vM]
  exact kQ _ _ ⟨as,_,.int _,rfl,RM.uN ha (ro.set g0 g1)⟩
 rintro ρ M ⟨as,x8,p8,rfl,RM⟩
 refine FN (fun ρ M=>∃(as:List ac) (x8:Option Dv),eV x8/\ρ=[some (.ptr b),some (.int (most:Nat)),some (.int (n:Nat)),some (.int (ways:Nat)),some (.int (kind:Nat)),some (.int (cQ:Nat)),some (j1 os),some (.ptr r),x8,x9,iw]/\fe Γ.M0 M r as n ways) (fun N hN=>?_) ?_
 ·simp! only []
  refine eE (fun h=>⟨by omega,by omega,?_⟩) (fun _=>hN _ _ ⟨as,_,p8,rfl,RM⟩)
  refine bz (fun i ρ M=>∃(as:List ac) (x8:Option Dv),eV x8/\ρ=[some (.ptr b),some (.int (most:Nat)),some (.int (n:Nat)),some (.int (ways:Nat)),some (.int (kind:Nat)),some (.int (cQ:Nat)),some (j1 os),some (.ptr r),x8,x9,iw]/\fe Γ.M0 M r as n ways) ⟨as,_,p8,rfl,RM⟩ (fun i d ρ M N2 hd hJ kQ=>?_) (fun ρ M hJ=>?_)
  ·obtain ⟨as,x8,p8,rfl,RM⟩:=hJ
   obtain ⟨rfl,hi⟩:=bA hd
   obtain ⟨p,hp,pn⟩:=jB.prev hi
   obtain ⟨g,hg,g0,g1⟩:=jB.at hi
   simp! only [hg,hp]
   refine ⟨by omega,⟨by omega,by omega,by omega⟩,fun a xC=>?_⟩
   have nr:r≠a:=fun z=>by rw [<- z,RM.rm] at xC;cases xC
   rw [Hn]
   simp only [ak nr,RM.rm,ci,RM.len,rh pn]
   exact kQ _ _ ⟨_,_,.int _,rfl,RM.put xC ⟨by rw [Rs],fun x hx=>by rw [List.eq_of_mem_replicate hx];exact ⟨g0,g1⟩⟩ pn⟩
  ·obtain ⟨as,x8,p8,rfl,RM⟩:=hJ
   obtain ⟨a,ea,ha⟩:=Ly RM (p:=0) (by omega)
   have ea:cf (as.map Dv.ptr) 0=some (.ptr a):=ea
   obtain ⟨row,em,ro⟩:=RM.row a ha
   simp! only []
   refine ⟨b,_,rfl,RM.kp _ _ hb,by omega,by omega,fun t ht=>?_⟩
   simp! only [RM.rm,ea,em,ro.1,show gh ways 0=some 0 from rh (d:=0) (by omega)]
   rw [vM]
   exact hN _ _ ⟨as,_,p8,rfl,RM.uN ha (ro.set (by omega) (by omega))⟩
 rintro ρ M ⟨as,x8,p8,rfl,RM⟩
 have nb:∀{c o},Γ.M0 c=some o->c≠r:=fun e z=>by rw [z,RM.r0] at e;cases e
 have dk:Keeps Γ.M0 (dm M r):=fun c o e=>by rw [cT (nb e)];exact RM.kp c o e
 refine .inr ⟨r,_,rfl,RM.rm,RM.r0,⟨fun j d e=>?_,fun c o e=>?_⟩,?_⟩
 ·match j,e with
  |0,e=>cases e;exact .ptr (by rw [dk _ _ hb];rfl)
  |1,e=>cases e;exact .int _
  |2,e=>cases e;exact .int _
  |3,e=>cases e;exact .int _
  |4,e=>cases e;exact .int _
  |5,e=>cases e;exact .int _
  |6,e=>cases e;exact .lst (jv _)
  |7,e=>cases e;exact .lst fun d hd=>by
                obtain ⟨a,ha,rfl⟩:=sw.mp hd
                obtain ⟨row,em,_⟩:=RM.row a ha
                exact .ptr (by rw [cT (RM.fr a ha).2,em];rfl)
  |8,e=>exact p8 _ _ (ij e)
  |9,e=>exact p9 _ _ (ij e)
  |10,e=>exact sR _ _ (ij e)
  |j+11,e=>exact nomatch e
 ·have nc:c≠r:=fun z=>by rw [z,dZ] at e;cases e
  rw [cT nc] at e
  rcases RM.pin c o e with q|q|⟨row,rfl⟩|⟨bs,rfl,q2⟩
  ·exact .inl q
  ·exact absurd q nc
  ·exact .inr (jv row)
  ·refine .inr fun d hd=>?_
   obtain ⟨a,ha,rfl⟩:=sw.mp hd
   obtain ⟨h1,u,h2⟩:=q2 a ha
   exact .ptr (by rw [cT h1,h2];rfl)
 ·simp! only []
  refine ⟨by rw [RM.len];omega,lz (acc:=[]) (fun acc τ M'=>∃rs:List (List Int),acc=rs.map eI/\(∃x,τ=[x])/\(∀row∈rs,iU n ways row)/\M'=dm M r) ⟨[],rfl,⟨_,rfl⟩,(fun _ h=>nomatch h),rfl⟩ (fun i d acc τ M' hd _ ⟨rs,e1,⟨x,e2⟩,FY,eM⟩ R hR=>?_) (fun ys τ M' hl ⟨rs,e1,⟨x,e2⟩,FY,eM⟩=>?_)⟩
  ·subst e1 e2 eM
   obtain ⟨a,ha,rfl⟩:=KG hd
   have ha:=ii ha
   obtain ⟨row,em,ro⟩:=RM.row a ha
   simp! only [cT (RM.fr a ha).2,em]
   refine hR _ _ _ ⟨rs++[row],by rw [wT];rfl,⟨_,rfl⟩,fun c hc=>?_,rfl⟩
   rcases zd.mp hc with z|z
   ·exact FY c z
   ·rw [kw] at z;rw [z];exact ro
  ·rw [LG] at e1
   subst e1 e2 eM
   have FZ:rs.length=n :=by rw [ci,ci,RM.len] at hl;exact hl
   exact Bu dk (KA rs) (q rs ways ⟨by omega,by omega,w2,fun row hr=>⟨(FY row hr).1,fun g hg=>by rw [FZ];exact (FY row hr).2 g hg⟩⟩ (by omega))
end
section
variable {P:c8} {w:ff} {K:ba} {mg:bi->Option al} {base:gc} {tb:b5}
theorem wL:aK ["thing"] ["thing"] (aj d6):=⟨rfl,rfl,rfl,by decide +kernel,rfl,by decide +kernel,by decide +kernel⟩
theorem n6:aK ["thing","many"] ["thing","many"] (aj cB):=⟨rfl,rfl,rfl,by decide +kernel,rfl,by decide +kernel,by decide +kernel⟩
theorem Ca:aK ["thing","many","width"] ["thing","many","width"] (aj jz):=⟨rfl,rfl,rfl,by decide +kernel,rfl,by decide +kernel,by decide +kernel⟩
theorem m9:aK ["thing","many","width"] ["thing"] (aj jA):=⟨rfl,rfl,rfl,by decide +kernel,rfl,by decide +kernel,by decide +kernel⟩
def oW (d:Dv):Bool:=(isD "int" (fun _=>none) d).isSome
def Cb:Dv->Bool | .int _=>true|_=>false
def di (m:Int):Dv->Bool | .int i=>decide (0<=i) && decide (i<m)|_=>false
def Lz:bV:=fun ds M Q _=>∃d,ds=[d]/\oW d=true/\Q (.bl (Cb d)) M
theorem wM {f:ac} {fd:i0} (D:Df K mg "is_whole" d6 ["thing"] f fd) (bl:Bl mg):FnOk P w K mg base bq 1 f fd ["thing"] (aR P w K tb Lz) :=by
 refine fu D wL (fun ds M Q E hS=>by obtain ⟨d,e,_⟩:=hS;rw [e];rfl) fun A outer s E Γ ds Q' E' hP hw hK ht hr hS=>?_
 obtain ⟨d,e,hk,q⟩:=hS
 refine ⟨_,(aq (aY (Bc (aD (jt (K:=K) rfl) rfl bl.isinstance_ eu (aa (qv 0) (aa (kJ (v:=.ty "int") rfl bl.int_ JB rfl) ae))) (Bb (Kk (aD (jt (K:=K) rfl) rfl bl.isinstance_ eu (aa (qv 0) (aa (kJ (v:=.ty "bool") rfl bl.bool_ GB rfl) ae)))))))),?_⟩
 subst e
 cases d <;> first|exact ⟨by decide,⟨by decide,.inl q⟩⟩|exact ⟨by decide,.inl q⟩|exact nomatch hk
def LA:bV:=fun ds M Q _=>∃d m,ds=[d,.int m]/\oW d=true/\Q (.bl (di m d)) M
theorem iK {f f1:ac} {fd bp:i0} (D:Df K mg "is_whole_below" cB ["thing","many"] f fd) (bS:Df K mg "is_whole" d6 ["thing"] f1 bp) (bl:Bl mg):FnOk P w K mg base bq 2 f fd ["thing","many"] (aR P w K tb LA) :=by
 have zo:=wM (P:=P) (w:=w) (base:=base) (tb:=tb) bS bl
 refine fu D n6 (fun ds M Q E hS=>by obtain ⟨d,m,e,_⟩:=hS;rw [e];rfl) fun A outer s E Γ ds Q' E' hP hw hK ht hr hS=>?_
 obtain ⟨d,m,e,hk,q⟩:=hS
 refine ⟨_,(aq (aY (Bc (aF zo (hr.mono (by decide)) rfl bS.mg bS.fn.kp bS.bd bH hP hw hK ht XR.none (aa (qv 0) ae)) (Bb (DX y1 y0 ax (qv 0) (qv 1)))))),?_⟩
 subst e
 refine ⟨d,rfl,hk,?_⟩
 cases d with
 |int i=>
  simp! only [Cb]
  refine eE (fun h=>?_) (fun h=>?_)
  ·rw [show di m (.int i)=decide (i<m) by simp only [di,h,U0]] at q
   exact .inl q
  ·rw [show di m (.int i)=false by simp only [di,h,Vr]] at q
   exact .inl q
 |_=>exact .inl q
def gS (m:Int) (w:Nat):Dv->Bool | .tup ds=>decide (ds.length=w) && ds.all (di m)|_=>false
def Ei:Dv->Bool | .tup ds=>ds.all oW|d=>oW d
def LC:bV:=fun ds M Q _=>∃d m w,ds=[d,.int m,.int (w:Nat)]/\Ei d=true/\Q (.bl (gS m w d)) M
theorem Cd {f f1 f2:ac} {fd bp fd2:i0} {lH aT:ac} (D:Df K mg "is_row" jz ["thing","many","width"] f fd) (gT:uF base fd lH aT) (hp:aT∈tb) (de:∃bm ob,UM base mainGlobals mg bm ob)
  (aM:Df K mg "is_whole_below" cB ["thing","many"] f1 bp) (bS:Df K mg "is_whole" d6 ["thing"] f2 fd2) (bl:Bl mg):FnOk P w K mg base bq 4 f fd ["thing","many","width"] (aR P w K tb LC) :=by
 have fR:=iK (P:=P) (w:=w) (base:=base) (tb:=tb) aM bS bl
 refine fu D Ca (fun ds M Q E hS=>by obtain ⟨d,m,n,e,_⟩:=hS;rw [e];rfl) fun A outer s E Γ ds Q' E' hP hw hK ht hr hS=>?_
 obtain ⟨d,m,n,e,hk,q⟩:=hS
 have zp:aT∈Γ.tb:=ht▸hp
 refine ⟨_,(ai (cP (QW.pt (yY (gu (fD (aD (jt (K:=K) rfl) rfl bl.isinstance_ eu (aa (qv 0) (aa (kJ (v:=.ty "tuple") rfl bl.tuple_ ji rfl) ae))))) (va (bR Kt (aD (cy (K:=K) rfl hK) rfl bl.len_ on (aa (qv 0) ae)) (qv 2) (cz _)))))
   (aq (aY gY))
   qss_nil)
  (aq (aY (vi (k:=2) (N':=["goal","many"]) (tn:=1) (idx:=[1]) zp (hr.mono (by decide)) rfl (show aW ["thing","many","width"] (aj jz) _ ["goal","many"] 1 [1] from by decide +kernel) rfl rfl gT.code gT.hd de rfl bl.all_ (p7 (K:=K) rfl (qv 0)) (fun _ _ _ _ _ _ _ hr=>(aO (i:=0) (show IS [("goal" : bi),("many" : bi)] from by decide +kernel) rfl (l8 rfl))) (fun _ _ _ _ _ _ _ hr=>gb) (fun _ _ _ _ _ _ _ hr=>(aF fR (hr.mono (by decide)) rfl aM.mg aM.fn.kp aM.bd bH hP hw hK ht XR.none (aa (qv 0) (aa (qv 1) ae)))))))),?_⟩
 subst e
 cases d with
 |tup es=>
  refine ⟨by decide,eE (c := !decide ((es.length:Int)=(n:Nat))) (fun h=>?_) (fun h=>?_)⟩
  ·rw [show gS m n (.tup es)=false by simp at h;simp [gS];intro z;omega] at q
   exact .inl q
  ·rw [show gS m n (.tup es)=es.all (di m) by simp at h;simp [gS,show es.length=n by omega]] at q
   refine nO (di m) (fun τ=>∃x,τ=[x,some (.int m)]) ⟨none,rfl⟩ (fun d hd τ ⟨x,e⟩ R hR=>?_) (.inl q)
   subst e
   exact ⟨d,m,rfl,wP.mp hk d hd,hR _ ⟨_,rfl⟩⟩
 |_=>first|exact ⟨by decide,.inl q⟩|exact nomatch hk
def jC:Dv->Bool | .tup rs=>decide (1<=rs.length/\rs.length<=9) && (rs.all (gS rs.length 2) || rs.all (gS rs.length 3))|_=>false
def zq:Dv->Bool | .tup rs=>rs.all Ei|d=>oW d
def LD:bV:=fun ds M Q _=>∃d,ds=[d]/\zq d=true/\Q (.bl (jC d)) M
theorem Ce {f f1 f2 f3:ac} {fd bp fd2 ng:i0} {lH aT vP aZ:ac} (D:Df K mg "is_net" jA ["thing"] f fd) (lJ:uF base fd vP aZ) (oC:aZ∈tb) (fS:Df K mg "is_row" jz ["thing","many","width"] f3 ng) (gT:uF base ng lH aT) (hp:aT∈tb) (de:∃bm ob,UM base mainGlobals mg bm ob)
  (aM:Df K mg "is_whole_below" cB ["thing","many"] f1 bp) (bS:Df K mg "is_whole" d6 ["thing"] f2 fd2) (bl:Bl mg) {tk:Vc} (gU:mg "MOST_PLACES" = some (.int 9 tk)):FnOk P w K mg base bq 6 f fd ["thing"] (aR P w K tb LD) :=by
 have Ej:=Cd (P:=P) (w:=w) (tb:=tb) fS gT hp de aM bS bl
 refine fu D m9 (fun ds M Q E hS=>by obtain ⟨d,e,_⟩:=hS;rw [e];rfl) fun A outer s E Γ ds Q' E' hP hw hK ht hr hS=>?_
 obtain ⟨d,e,hk,q⟩:=hS
 have lK:aZ∈Γ.tb:=ht▸oC
 refine ⟨_,(ai (cP (QW.pt (yY (gu (fD (aD (jt (K:=K) rfl) rfl bl.isinstance_ eu (aa (qv 0) (aa (kJ (v:=.ty "tuple") rfl bl.tuple_ ji rfl) ae))))) (va (gu (DY y1 y1 ax (aD (cy (K:=K) rfl hK) rfl bl.len_ on (aa (qv 0) ae)) (u6 (i:=9) rfl gU ⟨_,rfl⟩))))))
   (aq (aY gY))
   qss_nil)
  (ai (aJ (i:=1) m9.nd rfl (ES rfl) (aD (cy (K:=K) rfl hK) rfl bl.len_ on (aa (qv 0) ae)))
  (ai (cA rb rfl (p7 (K:=K) rfl (Bd (aa ax (aa ax ae)))) (fun iu eP ew eK et=>by have hP:=hP.trans eP.symm;have hw:=hw.trans ew.symm;have hK:=hK.trans eK.symm;have ht:=ht.trans et.symm;have lK:=et.symm▸lK;exact ⟨(aO (i:=2) m9.nd rfl (ES rfl)),(aq (cP (fD (vi (k:=4) (N':=["row","many","width"]) (tn:=1) (idx:=[1,2]) lK (hr.mono (by decide)) rfl (show aW ["thing","many","width"] (aj jA) _ ["row","many","width"] 1 [1,2] from by decide +kernel) rfl rfl lJ.code lJ.hd de rfl bl.all_ (p7 (K:=K) rfl (qv 0)) (fun _ _ _ _ _ _ _ hr=>(aO (i:=0) (show IS [("row" : bi),("many" : bi),("width" : bi)] from by decide +kernel) rfl (l8 rfl))) (fun _ _ _ _ _ _ _ hr=>gb) (fun _ _ _ _ _ _ _ hr=>(aF Ej (hr.mono (by decide)) rfl fS.mg fS.fn.kp fS.bd bH hP hw hK ht XR.none (aa (qv 0) (aa (qv 1) (aa (qv 2) ae)))))))
   (aq (aY gY))
   qss_nil))⟩))
  (aq (aY gY))))),?_⟩
 subst e
 cases d with
 |tup rs=>
  refine ⟨by decide,?_⟩
  have row:∀(n:Nat) (D:Bool->Mh->Prop),(D (rs.all (gS rs.length n)) Γ.M0)->jX (zgName 0) zNoIf (zCall LC (fun _ _=>False) (zCons (zVar 0) (zCons (zVar 1) (zCons (zVar 2) zNil)))) rs [none,some (.int rs.length),some (.int (n:Nat))] Γ.M0 D:=fun n D hD=>by
   refine nO (gS rs.length n) (fun τ=>∃x,τ=[x,some (.int rs.length),some (.int (n:Nat))]) ⟨none,rfl⟩ (fun d hd τ ⟨x,e⟩ R hR=>?_) hD
   subst e
   exact ⟨d,rs.length,n,rfl,wP.mp hk d hd,hR _ ⟨_,rfl⟩⟩
  simp! only []
  refine eE (fun h1=>eE (fun h2=>?_) (fun h2=>⟨by decide,?_⟩)) (fun h1=>?_)
  ·rw [show jC (.tup rs)=false by simp at h1 h2;simp [jC];intro z;omega] at q
   exact .inl q
  ·have e:jC (.tup rs)=(rs.all (gS rs.length 2) || rs.all (gS rs.length 3)) :=by
    simp at h1 h2
    simp only [jC]
    rw [decide_eq_true (by omega),U0]
   rw [e] at q
   refine row 2 _ (eE (fun z=>?_) (fun z=>row 3 _ (eE (fun z2=>?_) (fun z2=>?_))))
   ·rw [z] at q;exact .inl q
   ·rw [z,z2] at q;exact .inl q
   ·rw [z,z2] at q;exact .inl q
  ·rw [show jC (.tup rs)=false by simp at h1;simp [jC];intro z;omega] at q
   exact .inl q
 |_=>first|exact ⟨by decide,.inl q⟩|exact nomatch hk
theorem wN:aK ["thing"] ["thing"] (aj fc):=⟨rfl,rfl,rfl,by decide +kernel,rfl,by decide +kernel,by decide +kernel⟩
theorem Cg {m:Int} {g:Int} (h:0<=g/\g<m):di m (.int g)=true :=by simp [di,h.1,h.2]
theorem rj {net:List (List Int)} {n:Nat} (o:aL net n):jC (eN net)=true :=by
 have hr:∀d∈net.map eI,gS (net.map eI).length n d=true:=fun d hd=>by
  obtain ⟨r,hr,rfl⟩:=sw.mp hd
  obtain ⟨h1,h2⟩:=o.row r hr
  simp only [gS,ci]
  rw [decide_eq_true h1,U0,wP]
  intro d hd
  obtain ⟨g,hg,rfl⟩:=sw.mp hd
  exact Cg (h2 g hg)
 have ho:=o.one
 have hn:=o.nine
 simp only [jC,eN]
 rw [decide_eq_true (by rw [ci];omega),U0]
 have ha:=wP.mpr hr
 rcases o.wid with rfl|rfl
 ·rw [ha];rfl
 ·rw [ha,Bool.or_true]
theorem rl (net:List (List Int)):zq (eN net)=true :=by
 simp only [zq,eN]
 rw [wP]
 intro d hd
 obtain ⟨r,_,rfl⟩:=sw.mp hd
 simp only [Ei,eI]
 rw [wP]
 intro d hd
 obtain ⟨g,hg,rfl⟩:=sw.mp hd
 rfl
def tV (C:ac):bV:=fun ds M Q E=>∃d,ds=[d]/\zq d=true/\(jC d=true->Q .av M)/\(jC d=false->E C M)
theorem wO {f f1:ac} {fd bp:i0} {C0 C_NoNet:ac} {cs:List ac} (D:Df K mg "need_net" fc ["thing"] f fd) (fT:Df K mg "is_net" jA ["thing"] f1 bp) (oX:FnOk P w K mg base bq 6 f1 bp ["thing"] (aR P w K tb LD))
  (X_:uX K C0 cs) (rn:C_NoNet∈cs) (rp:mg "NoNet" = some (.ref C_NoNet)):FnOk P w K mg base (cH P w) 7 f fd ["thing"] (aR P w K tb (tV C_NoNet)) :=by
 refine gZ D wN (fun ds M Q E hS=>by obtain ⟨d,e,_⟩:=hS;rw [e];rfl) fun A outer s E Γ ds Q' E' hP hw hK ht hE hr hS=>?_
 obtain ⟨d,e,hk,q1,q2⟩:=hS
 refine ⟨_,(aq (cP (gu (fD (aF oX (hr.mono (by decide)) rfl fT.mg fT.fn.kp fT.bd bH hP hw hK ht XR.none (aa (qv 0) ae))))
   (aq (lr (X_.ex _ rn) LS rfl pV hE rfl rp (aa jq ae)))
   qss_nil)),?_⟩
 subst e
 simp! only []
 refine ⟨d,rfl,hk,eE (fun h=>?_) (fun h=>?_)⟩
 ·exact ⟨by decide,q2 (by simpa using h)⟩
 ·exact .inl (q1 (by simpa using h))
end
section
theorem sS {κ:Type} [DecidableEq κ] {step:κ->Nat->κ} {k:κ} {w:bi} {st:List κ×List bi}:∀{n a:Nat},a<n->step k a∈(visit step k w n st).1
 |n+1,a,h=>by
          rw [e8]
          obtain ⟨ks,ws,h1,_⟩:=sL step k w (visit step k w n st) n
          by_cases e:a=n
          ·subst e
           unfold fQ
           split
           ·assumption
           ·exact hX _ (kw.mpr rfl)
          ·rw [h1]
           exact Ch _ (sS (by omega))
theorem qp {κ:Type} [DecidableEq κ] {step:κ->Nat->κ} {k:κ} {w:bi} {st:List κ×List bi}:∀{n:Nat} {x:κ},x∈(visit step k w n st).1->x∈st.1\/∃a,a<n/\x=step k a
 |0,x,h=>.inl h
 |n+1,x,h=>by
          rw [e8] at h
          have h2:x∈(visit step k w n st).1\/x=step k n :=by
           unfold fQ at h
           split at h
           ·exact .inl h
           ·exact (zd.mp h).imp id kw.mp
          rcases h2 with h2|h2
          ·exact (qp h2).imp id fun ⟨a,ha,e⟩=>⟨a,by omega,e⟩
          ·exact .inr ⟨n,by omega,h2⟩
theorem ya {κ:Type} [DecidableEq κ] {U:List κ} {step:κ->Nat->κ} {n most:Nat} {R:κ->Prop} (hs:∀k∈U,∀a,a<n->step k a∈U) (hm:U.length<=most) (hR:∀k,R k->∀a,a<n->R (step k a)):∀(fuel i:Nat) (st:List κ×List bi),eR U st->U.length<fuel+i->i<=st.1.length->
  (∀j k,st.1[j]?=some k->j<i->∀a,a<n->step k a∈st.1)->(∀k∈st.1,R k)->
  (∀k∈st.1,k∈(gA step n most fuel i st).1)/\(∀k∈(gA step n most fuel i st).1,R k/\∀a,a<n->step k a∈(gA step n most fuel i st).1)
 |0,i,st,ok,hf,hi,hc,hr=>by have:=ok.le;omega
 |fuel+1,i,st,ok,hf,hi,hc,hr=>by
          have hle:=ok.le
          have hlen:=ok.len
          by_cases bb:i<st.1.length
          ·have h1:=ag bb
           have h2:=ag (show i<st.2.length by omega)
           have k6:st.1[i]∈st.1:=mf bb
           rw [vD h1 h2 (by omega)]
           obtain ⟨ks,ws,g1,g2⟩:=iQ step st.1[i] (st.2[i]'(by omega)) n st
           have sub:∀x∈st.1,x∈(visit step st.1[i] (st.2[i]'(by omega)) n st).1:=fun x hx=>by rw [g1];exact Ch _ hx
           obtain ⟨r1,r2⟩:=ya hs hm hR fuel (i+1) (visit step st.1[i] (st.2[i]'(by omega)) n st) (ok.visit h2 fun a ha=>hs _ (ok.sub _ k6) a ha) (by omega) (by rw [g1,tz];omega) (fun j k hj UE a ha=>by
            rw [g1,sB (by omega)] at hj
            by_cases e:j=i
            ·subst e
             rw [h1] at hj;cases hj
             exact sS ha
            ·exact sub _ (hc j k hj (by omega) a ha)) (fun k hk=>by
            rcases qp hk with z|⟨a,ha,rfl⟩
            ·exact hr k z
            ·exact hR _ (hr _ k6) a ha)
           exact ⟨fun k hk=>r1 k (sub k hk),r2⟩
          ·have e:gA step n most (fuel+1) i st=st :=by
            unfold gA
            rw [FM (by omega)]
           rw [e]
           exact ⟨fun k hk=>hk,fun k hk=>⟨hr k hk,fun a ha=>by
            obtain ⟨j,hj⟩:=mo.mp hk
            exact hc j k hj (by have:=(bv.mp hj).1;omega) a ha⟩⟩
end
section
inductive gH (net:List (List Int)) (n:Nat) (s:Int):Int->Prop where
 |base:gH net n s s
 |step {p:Int} {a:Nat} (h:gH net n s p) (ha:a<n):gH net n s (bD net p a)
theorem gH.trans {net:List (List Int)} {n:Nat} {s p q:Int} (h:gH net n s p) (h2:gH net n p q):gH net n s q :=by
 induction h2 with
 |base=>exact h
 |step _ ha ih=>exact ih.step ha
theorem Ci {net:List (List Int)} {n:Nat} (O:aL net n) {s p:Int} (hs:s∈ah net) (h:gH net n s p):p∈ah net :=by
 induction h with
 |base=>exact hs
 |step _ ha ih=>exact d9 O ih ha
theorem places_len {net:List (List Int)}:(ah net).length=net.length :=by simp [ah]
theorem nh {net:List (List Int)}:(ah net).Nodup :=by
 unfold ah
 refine VZ _ (fun a b h=>?_) List.nodup_range
 intro e;exact h (Int.ofNat.inj e)
theorem sT {net:List (List Int)}:(ah net).Pairwise (·<=·) :=by
 unfold ah
 refine VZ _ (fun a b h=>?_) (Pf (n:=net.length))
 show (a:Int)<=b
 omega
theorem kR {net:List (List Int)} {n:Nat} (O:aL net n) {s:Int} (hs:s∈ah net):eR (ah net) (cK net n s):=
 bfs_ok (fun _ hk _ ha=>d9 O hk ha) _ _ _ (m6 hs)
theorem iZ {net:List (List Int)} {n:Nat} (O:aL net n) {s p:Int} (hs:s∈ah net):p∈(cK net n s).1 ↔ gH net n s p :=by
 have hl:=places_len (net:=net)
 have h9:=O.nine
 obtain ⟨h1,h2⟩:=ya (U:=ah net) (step:=bD net) (n:=n) (most:=511) (R:=gH net n s) (fun _ hk _ ha=>d9 O hk ha) (by omega) (fun k hk a ha=>hk.step ha) (net.length+1) 0 ([s],[""]) (m6 hs) (by omega) (qr _) (fun j k _ hj=>absurd hj (Nat.not_lt_zero _)) (fun k hk=>by rw [kw.mp hk];exact .base)
 constructor
 ·exact fun h=>(h2 p h).1
 ·intro h
  induction h with
  |base=>exact h1 s (kw.mpr rfl)
  |step _ ha ih=>exact (h2 _ ih).2 _ ha
def tW (net:List (List Int)) (n:Nat) (a b:Int):Prop:=gH net n a b/\gH net n b a
noncomputable instance {net:List (List Int)} {n:Nat} {a b:Int}:Decidable (gH net n a b):=Ix _
noncomputable instance {net:List (List Int)} {n:Nat} {a b:Int}:Decidable (tW net n a b):=Ix _
noncomputable def fU (net:List (List Int)) (n:Nat) (a:Int):List Int:=(ah net).filter fun b=>decide (tW net n a b)
def lL (net:List (List Int)) (n:Nat) (a:Int):Prop:=∀b∈fU net n a,a<=b
noncomputable instance {net:List (List Int)} {n:Nat} {a:Int}:Decidable (lL net n a):=Ix _
noncomputable def du (net:List (List Int)) (n i:Nat):List Int:=((ah net).take i).filter fun a=>decide (lL net n a)
noncomputable def cR (net:List (List Int)) (n:Nat):List (List Int):=(du net n net.length).map (fU net n)
theorem i5 {net:List (List Int)} {n:Nat} {a b:Int}:b∈fU net n a ↔ b∈ah net/\tW net n a b :=by
 unfold fU
 rw [EN,decide_eq_true_eq]
theorem lM {net:List (List Int)} {n:Nat} {a:Int} (h:a∈ah net):a∈fU net n a:=i5.mpr ⟨h,.base,.base⟩
theorem vQ {net:List (List Int)} {n:Nat} {a:Int}:(fU net n a).Pairwise (·<=·):=sT.filter _
theorem Ho {net:List (List Int)} {n:Nat} {a:Int}:(fU net n a).length<=net.length:=uu (Vb _ _) (UP places_len)
def fK (net:List (List Int)) (n:Nat) (p:Int):List Int:=(cK net n p).1.filter fun g=>decide (p∈(cK net n g).1)
theorem jD {net:List (List Int)} {n:Nat} (O:aL net n) {p g:Int} (hp:p∈ah net):g∈fK net n p ↔ g∈fU net n p :=by
 unfold fK
 rw [EN,decide_eq_true_eq,i5,iZ O hp]
 constructor
 ·rintro ⟨h1,h2⟩
  have hg:=Ci O hp h1
  exact ⟨hg,h1,(iZ O hg).mp h2⟩
 ·rintro ⟨hg,h1,h2⟩
  exact ⟨h1,(iZ O hg).mpr h2⟩
theorem sU {net:List (List Int)} {n:Nat} (O:aL net n) {p:Int} (hp:p∈ah net):(fU net n p).Perm (fK net n p):=
 (List.perm_ext_iff_of_nodup (nh.filter _) ((kR O hp).nd.filter _)).mpr fun q=>(jD O hp).symm
theorem Cj {net:List (List Int)} {n:Nat} (O:aL net n) {p:Int} (hp:p∈ah net):sortI (fK net n p)=fU net n p:=(uR (sU O hp) vQ).symm
theorem Ek {net:List (List Int)} {n:Nat} (O:aL net n) {p:Int} (hp:p∈ah net):(fK net n p).length<=9 :=by
 rw [<- (sU O hp).length_eq]
 exact uu Ho O.nine
theorem El {net:List (List Int)} {n:Nat} (O:aL net n) {p m:Int} (hp:p∈ah net) (hm:m∈fK net n p) (h:∀a∈fK net n p,m<=a):p=m ↔ lL net n p :=by
 constructor
 ·rintro rfl b hb
  exact h b ((jD O hp).mpr hb)
 ·intro hh
  have h1:=hh m ((jD O hp).mp hm)
  have h2:=h p ((jD O hp).mpr (lM hp))
  omega
theorem cls_cons {net:List (List Int)} {n:Nat} {a:Int} (h:a∈ah net):∃v t,fU net n a=v::t/\(v=a ↔ lL net n a) :=by
 cases e:fU net n a with
 |nil=>have:=lM (n:=n) h;rw [e] at this;cases this
 |cons v t=>
  refine ⟨v,t,rfl,?_⟩
  have pw:=vQ (net:=net) (n:=n) (a:=a)
  rw [e,List.pairwise_cons] at pw
  constructor
  ·intro ev b hb
   subst ev
   rw [e] at hb
   rcases l3.mp hb with rfl|hb
   ·exact Int.le_refl _
   ·exact pw.1 b hb
  ·intro hh
   have h1:=hh v (by rw [e];exact jp)
   have hs:=lM (n:=n) h
   rw [e] at hs
   rcases l3.mp hs with rfl|hs
   ·rfl
   ·have:=pw.1 _ hs;omega
theorem oE {net:List (List Int)} {n i:Nat} (hi:i<net.length):du net n (i+1)=if lL net n (i:Int) then du net n i++[(i:Int)] else du net n i :=by
 have e:(ah net).take (i+1)=(ah net).take i++[(i:Int)] :=by
  have:(ah net)[i]?=some (i:Int) :=by unfold ah;rw [ca,AE hi];rfl
  rw [List.take_succ,this];rfl
 unfold du
 rw [e,List.filter_append]
 by_cases h:lL net n (i:Int)
 ·rw [if_pos h,NO,if_pos (decide_eq_true h)];rfl
 ·rw [if_neg h,NO,if_neg (by simpa using h)];simp
theorem qt {net:List (List Int)} {n i:Nat}:(du net n i).length<=net.length:=uu (Vb _ _) (uu (List.length_take_le' ..) (UP places_len))
theorem gI {net:List (List Int)} {i:Nat} (h:i<net.length):((i:Nat):Int)∈ah net:=bg.mpr ⟨by omega,by omega⟩
theorem Ck {net:List (List Int)} {n:Nat} (O:aL net n) {i:Nat} (hi:i<net.length) {q:Int}:q∈net.getD i [] ↔ ∃a,a<n/\bD net (i:Int) a=q :=by
 have e:net.getD i []=net[i]:=getD_at hi
 have hr:=(O.row _ (mf hi)).1
 have hs:∀a,a<n->bD net (i:Int) a=(net.getD i []).getD a 0:=fun a _=>by unfold bD;rw [ss]
 constructor
 ·intro h
  obtain ⟨a,ha⟩:=mo.mp h
  have hl:=(bv.mp ha).1
  rw [e,hr] at hl
  exact ⟨a,hl,by rw [hs a hl,ce,ha];rfl⟩
 ·rintro ⟨a,ha,rfl⟩
  rw [hs a ha]
  have hl:a<(net.getD i []).length :=by rw [e,hr];exact ha
  rw [getD_at hl]
  exact mf hl
end
section
variable {P:c8} {w:ff} {K:ba} {mg:bi->Option al} {base:gc} {tb:b5} {C_NoNet:ac}
theorem jE:aK ["net","reached","told","place","part"] ["net"] (aj iY):=⟨rfl,rfl,rfl,by decide +kernel,rfl,by decide +kernel,by decide +kernel⟩
theorem n8:aK ["net"] ["net"] (aj dg):=⟨rfl,rfl,rfl,by decide +kernel,rfl,by decide +kernel,by decide +kernel⟩
theorem oF {M0 M:Mh} (h:Keeps M0 M) {a:ac} (ha:M a=none):M0 a=none :=by
 cases e:M0 a with
 |none=>rfl
 |some u=>rw [h a u e] at ha;cases ha
structure j7 (M0 M:Mh) (a:ac) (bs:List ac) (rs:List (List Int)):Prop where
 a0:M0 a=none
 am:M a=some (.lst (bs.map .ptr))
 len:bs.length=rs.length
 bm:∀(j:Nat) (b:ac) (r:List Int),bs[j]?=some b->rs[j]?=some r->M b=some (.lst (r.map .int))
 b0:∀b∈bs,M0 b=none/\b≠a
 kp:Keeps M0 M
 oth:∀c o,M c=some o->M0 c=some o\/c=a\/∃r:List Int,o=.lst (r.map .int)
theorem j7.junk {M0 M:Mh} {a c:ac} {bs:List ac} {rs:List (List Int)} {r:List Int} (h:j7 M0 M a bs rs) (hc:M c=none):j7 M0 (az M c (.lst (r.map .int))) a bs rs :=by
 have sQ:a≠c:=fun e=>by have:=h.am;rw [e,hc] at this;cases this
 have c0:=oF h.kp hc
 refine ⟨h.a0,by rw [ak sQ];exact h.am,h.len,fun j b s hb hs=>?_,h.b0,.upd c0 h.kp,fun d o e=>?_⟩
 ·have:=h.bm j b s hb hs
  rw [ak (fun e=>by rw [e,hc] at this;cases this)]
  exact this
 ·by_cases z:d=c
  ·subst z;rw [updM_same] at e;cases e;exact .inr (.inr ⟨r,rfl⟩)
  ·rw [ak z] at e;exact h.oth d o e
theorem j7.snoc {M0 M:Mh} {a c:ac} {bs:List ac} {rs:List (List Int)} {r:List Int} (h:j7 M0 M a bs rs) (hc:M c=none):j7 M0 (az (az M c (.lst (r.map .int))) a (.lst (bs.map .ptr++[.ptr c]))) a (bs++[c]) (rs++[r]) :=by
 have sQ:a≠c:=fun e=>by have:=h.am;rw [e,hc] at this;cases this
 have c0:=oF h.kp hc
 have hj:=h.junk (r:=r) hc
 refine ⟨h.a0,by rw [updM_same,wT];rfl,by simp [h.len],fun j b s hb hs=>?_,fun b hb=>?_,.upd h.a0 hj.kp,fun d o e=>?_⟩
 ·by_cases hi:j<bs.length
  ·rw [sB hi] at hb
   rw [sB (by rw [<- h.len];exact hi)] at hs
   rw [ak (h.b0 b (ii hb)).2]
   exact hj.bm j b s hb hs
  ·have sJ:=(bv.mp hb).1
   rw [tz,LB] at sJ
   have e:j=bs.length :=by omega
   subst e
   rw [wp (cb _),UQ] at hb
   rw [h.len,wp (cb _),UQ] at hs
   cases hb;cases hs
   rw [ak (xz sQ),updM_same]
 ·rcases zd.mp hb with z|z
  ·exact h.b0 b z
  ·rw [kw.mp z];exact ⟨c0,xz sQ⟩
 ·by_cases z:d=a
  ·exact .inr (.inl z)
  ·rw [ak z] at e;exact hj.oth d o e
theorem zt {m j:Nat} (h:j<m):(bT 0 m)[j]?=some (.int (j:Nat)) :=by
 unfold bT
 rw [ca,AE h]
 show some (Dv.int (0+(j:Int)))=_
 rw [Ll]
def wF (net:List (List Int)) (n:Nat):Dv->Dv
 | .int i=>m8 (cK net n i)
 |d=>d
def F0 (net:List (List Int)) (n:Nat):List Dv:=(bT 0 net.length).map (wF net n)
theorem F1 {net:List (List Int)} {n:Nat} {p:Int} (h:p∈ah net):cf (F0 net n) p=some (m8 (cK net n p)) :=by
 obtain ⟨h1,h2⟩:=bg.mp h
 obtain ⟨j,rfl⟩:=xp h1
 refine ck ?_
 unfold F0
 rw [ca,zt (by omega)]
 rfl
theorem LI {net:List (List Int)} {n:Nat} {p:Int}:(((cK net n p).1.map Cc).map qZ).filter (fun d=>match d with | .int g=>decide (p∈(cK net n g).1)|_=>false)=(fK net n p).map Dv.int :=by
 unfold fK
 rw [BN,List.filter_map]
 rfl
theorem Em {S S':bV} {cx:fX} {k:Nat} {f:ac} {fd:i0} {ps:List bi} (G:FnOk P w K mg base cx k f fd ps (aR P w K tb S')) (h:∀ds M Q E,S ds M Q E->S' ds M Q E):FnOk P w K mg base cx k f fd ps (aR P w K tb S):=
 G.imp fun vs H Q E ⟨β,ds,M,Q',E',e1,e2,e3,e4,m,r,hS,q,qe⟩=>⟨β,ds,M,Q',E',e1,e2,e3,e4,m,r,h _ _ _ _ hS,q,qe⟩
def En:bV:=fun ds M Q _=>∃net n,ds=[eN net]/\aL net n/\((∀a bs M',j7 M M' a bs (cR net n)->Q (.ptr a) M')\/Q (.lst ((cR net n).map j1)) M)
theorem Eo {f f1 f2:ac} {fd bp fd2:i0} (D:Df K mg "parts" iY ["net"] f fd)
  (bj:Df K mg "need_net" fc ["thing"] f1 bp) (cW:FnOk P w K mg base (cH P w) 7 f1 bp ["thing"] (aR P w K tb (tV C_NoNet)))
  (bo:Df K mg "first_words" aB ["net","start"] f2 fd2) (dq:FnOk P w K mg base bq 8 f2 fd2 ["net","start"] (aR P w K tb vI)) (bl:Bl mg) :
  FnOk P w K mg base (cH P w) 9 f fd ["net"] (aR P w K tb En) :=by
 refine gZ D jE (fun ds M Q E hS=>by obtain ⟨net,n,e,_⟩:=hS;rw [e];rfl) fun A outer s E Γ ds Q' E' hP hw hK ht hE hr hS=>?_
 obtain ⟨net,n,e,O,q⟩:=hS
 refine ⟨_,(ai (dI (aF cW (hr.mono (by decide)) rfl bj.mg bj.fn.kp bj.bd gX hP hw hK ht hE (aa (qv 0) ae)))
  (ai (aJ (i:=1) jE.nd rfl (ES rfl) (oA (N':=["place","net"]) (tn:=1) (idx:=[0]) rfl (show aW ["net","reached","told","place","part"] (aj iY) _ ["place","net"] 1 [0] from by decide +kernel) (bw rfl bl.range_ (aa (aD (cy (K:=K) rfl hK) rfl bl.len_ on (aa (qv 0) ae)) ae)) (fun _ _ _ _ _=>(aO (i:=0) (show IS [("place" : bi),("net" : bi)] from by decide +kernel) rfl (l8 rfl))) (fun _ _ _ _ _=>gb) (fun _ _ _ _ _=>(aF dq (hr.mono (by decide)) rfl bo.mg bo.fn.kp bo.bd bH hP hw hK ht XR.none (aa (qv 1) (aa (qv 0) ae))))))
  (ai (aJ (i:=2) jE.nd rfl (l8 rfl) (iW ae))
  (ai (PS.iE (cA rb rfl (bw rfl bl.range_ (aa (aD (cy (K:=K) rfl hK) rfl bl.len_ on (aa (qv 0) ae)) ae)) (fun iu eP ew eK et=>by have hP:=hP.trans eP.symm;have hw:=hw.trans ew.symm;have hK:=hK.trans eK.symm;have ht:=ht.trans et.symm;exact ⟨(aO (i:=3) jE.nd rfl (ES rfl)),(ai (iP (i:=4) jE.nd rfl rfl (N':=["goal","place","reached"]) (tn:=1) (idx:=[3,1]) rfl (show aW ["net","reached","told","place","part"] (aj iY) _ ["goal","place","reached"] 1 [3,1] from by decide +kernel) (Hk (bf (bU (K:=K) rfl) (qv 1) (qv 3) (fun _ _=>rfl))) (fun _ _ _ _ _=>(aO (i:=0) (show IS [("goal" : bi),("place" : bi),("reached" : bi)] from by decide +kernel) rfl (l8 rfl))) (fun _ _ _ _ _=>(qQ (bR (Nz hr.units) (qv 1) (bf (bU (K:=K) rfl) (qv 2) (qv 0) (fun _ _=>rfl)) (by rfl)))) (fun _ _ _ _ _=>(qv 0)))
  (aq (cP (bR qR (qv 3) (aD (Ld (K:=K) rfl rfl) rfl bl.min_ pK (aa (qv 4) ae)) (cz _))
   (aq (dI (j0 (K:=K) rfl Cf Op Os lq (qv 2) (aa (aD (BZ hP hw (K:=K) rfl rfl) rfl bl.sorted_ sg (aa (qv 4) ae)) ae))))
   qss_nil)))⟩)))
  (aq (aY (qv 2))))))),?_⟩
 subst e
 have h9:=O.nine
 have big:(1000:Nat)<sizeLine :=by decide
 refine ⟨_,rfl,rl net,fun _=>?_,fun h=>by rw [rj O] at h;cases h⟩
 simp! only []
 refine ⟨by omega,by omega,by omega,nQ (wF net n) (fun τ M=>(∃x,τ=[x,some (eN net)])/\M=Γ.M0) ⟨⟨_,rfl⟩,rfl⟩ (fun d hd τ M hI R hR=>?_) (fun τ M hI=>?_)⟩
 ·obtain ⟨⟨x,rfl⟩,rfl⟩:=hI
  obtain ⟨j,hj⟩:=mo.mp hd
  obtain ⟨rfl,yb⟩:=bA hj
  simp! only []
  rw [Ll] at hR
  exact ⟨net,n,_,rfl,O,gI yb,hR _ _ ⟨⟨_,rfl⟩,rfl⟩⟩
 obtain ⟨⟨x,rfl⟩,rfl⟩:=hI
 refine ⟨qr _,fun a ha=>⟨by omega,by omega,?_⟩⟩
 refine bz (fun i ρ M=>∃bs,(∃x3 x4,ρ=[some (eN net),some (.lst (F0 net n)),some (.ptr a),x3,x4])/\j7 Γ.M0 M a bs ((du net n i).map (fU net n))/\i<=net.length) ⟨[],⟨_,_,rfl⟩,⟨ha,updM_same,rfl,(fun j b r h=>nomatch h),(fun b h=>nomatch h),.upd ha .refl,fun c o e=>?_⟩,qr _⟩ (fun i d ρ M N hd hJ hN=>?_) (fun ρ M hJ=>?_)
 ·by_cases z:c=a
  ·exact .inr (.inl z)
  ·rw [ak z] at e;exact .inl e
 ·obtain ⟨bs,⟨x3,x4,rfl⟩,jF,hi⟩:=hJ
  obtain ⟨rfl,iG⟩:=bA hd
  have hp:=gI (net:=net) iG
  simp! only [F1 hp]
  show _<sizeLine/\_
  have ok:=kR O hp
  have hle:=ok.le
  have cY:=places_len (net:=net)
  refine ⟨by rw [ci];omega,?_⟩
  refine lu (fun d=>match d with | .int g=>decide ((i:Int)∈(cK net n g).1)|_=>false) (fun d hd R hR=>?_) ?_
  ·rw [BN] at hd
   obtain ⟨g,hg,rfl⟩:=sw.mp hd
   have Pu:=Ci O hp ((iZ O hp).mp hg)
   have TH:=kR O Pu
   show zTest (zOp (zDIn false) (zVar 1) (zOp zIx (zVar 2) (zVar 0))) [some (.int g),some (Dv.int i),some (Dv.lst (F0 net n))] M R
   simp! only [F1 Pu]
   show R (look ((cK net n g).1.map Cc) ((cK net n g).2.map Dv.str) (Cc (i:Int))).isSome M
   rw [lD nX,P3,sM TH.len]
   exact hR
  ·rw [LI,V8,mV]
   have Pw:=Ek (n:=n) O hp
   have NR:(i:Int)∈fK net n i:=(jD O hp).mpr (lM hp)
   have UG:bs.length<=9 :=by rw [jF.len,ci];exact uu qt h9
   refine ⟨Po NR,(fun t e=>nomatch e),fun m hm Ep=>?_⟩
   have Fg:=El O hp hm Ep
   refine eE (fun h=>?_) (fun h=>?_)
   ·have h:=of_decide_eq_true h
    rw [jF.am]
    refine ⟨trivial,by show (fK net n (i:Int)).length<64;omega,fun c hc=>?_⟩
    show match az M c (.lst ((sortI (fK net n (i:Int))).map .int)) a with|some (Mo.lst xs)=>_|_=>False
    rw [Cj O hp]
    have sQ:a≠c:=fun e=>by have:=jF.am;rw [e,hc] at this;cases this
    rw [ak sQ,jF.am]
    refine ⟨by rw [ci];omega,hN _ _ ⟨bs++[c],⟨_,_,rfl⟩,?_,iG⟩⟩
    rw [oE iG,if_pos (Fg.mp h),wT]
    exact jF.snoc hc
   ·have h:=of_decide_eq_false h
    refine hN _ _ ⟨bs,⟨_,_,rfl⟩,?_,iG⟩
    rw [oE iG,if_neg fun z=>h (Fg.mpr z)]
    exact jF
 ·obtain ⟨bs,⟨x3,x4,rfl⟩,jF,hi⟩:=hJ
  rw [rangeD_len] at jF
  simp! only []
  rcases q with q|q
  ·exact .inl (q a bs M jF)
  ·refine .inr ⟨jF.kp,_,.ptr (ds':=(cR net n).map j1) jF.a0 jF.am (by rw [ci,ci];exact jF.len) fun j d d' e1 e2=>?_,q⟩
   rw [ca] at e1 e2
   obtain ⟨b,hb,rfl⟩:=li.mp e1
   obtain ⟨r,hr,rfl⟩:=li.mp e2
   refine .ptr (jF.b0 b (ii hb)).1 (jF.bm j b r hb hr) rfl fun k d d' e1 e2=>?_
   rw [e1] at e2;cases e2
   obtain ⟨x,_,rfl⟩:=sw.mp (ii e1)
   exact .pin (.int x)
def yc:bV:=fun ds M Q _=>∃net n,ds=[eN net]/\aL net n/\Q (.lst ((cR net n).map j1)) M
theorem zu {net:List (List Int)} {n:Nat}:(cR net n).length<=net.length :=by unfold cR;rw [ci];exact qt
def vR:bV:=fun ds M Q _=>∃net n,ds=[eN net]/\aL net n/\Q (.bl (decide ((cR net n).length=1))) M
theorem oe {f f1:ac} {fd bp:i0} (D:Df K mg "hangs_together" dg ["net"] f fd)
  (i6:Df K mg "parts" iY ["net"] f1 bp) (Hq:FnOk P w K mg base (cH P w) 9 f1 bp ["net"] (aR P w K tb yc)) (bl:Bl mg) :
  FnOk P w K mg base (cH P w) 10 f fd ["net"] (aR P w K tb vR) :=by
 refine gZ D n8 (fun ds M Q E hS=>by obtain ⟨net,n,e,_⟩:=hS;rw [e];rfl) fun A outer s E Γ ds Q' E' hP hw hK ht hE hr hS=>?_
 obtain ⟨net,n,e,O,q⟩:=hS
 refine ⟨_,(aq (aY (xF qR (aD (cy (K:=K) rfl hK) rfl bl.len_ on (aa (aF Hq (hr.mono (by decide)) rfl i6.mg i6.fn.kp i6.bd gX hP hw hK ht hE (aa (qv 0) ae)) ae)) ax (cz _)))),?_⟩
 subst e
 have h9:=O.nine
 have hl:=zu (net:=net) (n:=n)
 simp! only []
 refine ⟨net,n,rfl,O,?_⟩
 simp! only []
 rw [show decide (((cR net n).length:Int)=1)=decide ((cR net n).length=1) from decide_eq_decide.mpr (by omega)]
 exact .inl q
end
section
variable {P:c8} {w:ff} {K:ba} {mg:bi->Option al} {base:gc} {tb:b5} {C0 C_NoPlace:ac} {cs:List ac}
theorem wQ:aK ["net","thing"] ["net","thing"] (aj iS):=⟨rfl,rfl,rfl,by decide +kernel,rfl,by decide +kernel,by decide +kernel⟩
theorem tq:aK ["net","thing"] ["net","thing"] (aj gB):=⟨rfl,rfl,rfl,by decide +kernel,rfl,by decide +kernel,by decide +kernel⟩
def Cm:bV:=fun ds M Q _=>∃net d,ds=[eN net,d]/\oW d=true/\Q (.bl (di (net.length:Int) d)) M
theorem wU {f f1 f2:ac} {fd bp fd2:i0} (D:Df K mg "is_place" iS ["net","thing"] f fd) (aM:Df K mg "is_whole_below" cB ["thing","many"] f1 bp) (bS:Df K mg "is_whole" d6 ["thing"] f2 fd2) (bl:Bl mg):FnOk P w K mg base bq 3 f fd ["net","thing"] (aR P w K tb Cm) :=by
 have fR:=iK (P:=P) (w:=w) (base:=base) (tb:=tb) aM bS bl
 refine fu D wQ (fun ds M Q E hS=>by obtain ⟨net,d,e,_⟩:=hS;rw [e];rfl) fun A outer s E Γ ds Q' E' hP hw hK ht hr hS=>?_
 obtain ⟨net,d,e,hk,q⟩:=hS
 refine ⟨_,(aq (aY (aF fR (hr.mono (by decide)) rfl aM.mg aM.fn.kp aM.bd bH hP hw hK ht XR.none (aa (qv 1) (aa (aD (cy (K:=K) rfl hK) rfl bl.len_ on (aa (qv 0) ae)) ae))))),?_⟩
 subst e
 simp! only []
 exact ⟨d,_,rfl,hk,.inl q⟩
def qu (C:ac):bV:=fun ds M Q E=>∃net d,ds=[eN net,d]/\oW d=true/\(di (net.length:Int) d=true->Q .av M)/\(di (net.length:Int) d=false->E C M)
theorem tu {f f1:ac} {fd bp:i0} (D:Df K mg "need_place" gB ["net","thing"] f fd) (fg:Df K mg "is_place" iS ["net","thing"] f1 bp) (lN:FnOk P w K mg base bq 3 f1 bp ["net","thing"] (aR P w K tb Cm))
  (X_:uX K C0 cs) (ni:C_NoPlace∈cs) (nj:mg "NoPlace" = some (.ref C_NoPlace)):FnOk P w K mg base (cH P w) 4 f fd ["net","thing"] (aR P w K tb (qu C_NoPlace)) :=by
 refine gZ D tq (fun ds M Q E hS=>by obtain ⟨net,d,e,_⟩:=hS;rw [e];rfl) fun A outer s E Γ ds Q' E' hP hw hK ht hE hr hS=>?_
 obtain ⟨net,d,e,hk,q1,q2⟩:=hS
 refine ⟨_,(aq (cP (gu (fD (aF lN (hr.mono (by decide)) rfl fg.mg fg.fn.kp fg.bd bH hP hw hK ht XR.none (aa (qv 0) (aa (qv 1) ae)))))
   (aq (lr (X_.ex _ ni) LS rfl pV hE rfl nj (aa jq ae)))
   qss_nil)),?_⟩
 subst e
 simp! only []
 refine ⟨net,d,rfl,hk,eE (fun h=>?_) (fun h=>?_)⟩
 ·exact ⟨by decide,q2 (by simpa using h)⟩
 ·exact .inl (q1 (by simpa using h))
end
section
inductive b7 (net:List (List Int)) (n:Nat):Nat->Int->Int->Prop where
 |nil (s:Int):b7 net n 0 s s
 |snoc {L:Nat} {s p:Int} {a:Nat} (h:b7 net n L s p) (ha:a<n):b7 net n (L+1) s (bD net p a)
theorem b7.app {net:List (List Int)} {n K L:Nat} {s p q:Int} (h:b7 net n K s p) (h2:b7 net n L p q):b7 net n (K+L) s q :=by
 induction h2 with
 |nil=>exact h
 |snoc _ ha ih=>exact (ih h).snoc ha
theorem i7 {net:List (List Int)} {n:Nat} {s p:Int} (h:gH net n s p):∃L,b7 net n L s p :=by
 induction h with
 |base=>exact ⟨0,.nil s⟩
 |step _ ha ih=>obtain ⟨L,w⟩:=ih;exact ⟨L+1,w.snoc ha⟩
theorem kT {net:List (List Int)} {n L:Nat} (O:aL net n) {s p:Int} (hs:s∈ah net) (h:b7 net n L s p):p∈ah net :=by
 induction h with
 |nil=>exact hs
 |snoc _ ha ih=>exact d9 O (ih hs) ha
theorem rq {net:List (List Int)} {n L:Nat} {s q:Int} (h:b7 net n L s q):∃f:Nat->Int,f 0=s/\f L=q/\∀i j,i<=j->j<=L->b7 net n (j - i) (f i) (f j) :=by
 induction h with
 |nil s=>exact ⟨fun _=>s,rfl,rfl,fun i j h1 h2=>by rw [show j - i=0 by omega];exact .nil _⟩
 | @snoc L s p a w ha ih=>
  obtain ⟨f,h0,hL,hf⟩:=ih
  refine ⟨fun i=>if i<=L then f i else bD net p a,by simp [h0],if_neg (by omega),fun i j h1 h2=>?_⟩
  show b7 net n (j - i) (if i<=L then f i else bD net p a) (if j<=L then f j else bD net p a)
  by_cases hj:j<=L
  ·rw [if_pos hj,if_pos (show i<=L by omega)]
   exact hf i j h1 hj
  ·rw [if_neg hj]
   have ej:j=L+1 :=by omega
   subst ej
   by_cases hi:i<=L
   ·rw [if_pos hi]
    have:=(hf i L hi (cb _)).snoc ha
    rw [hL] at this
    rw [show L+1 - i=L - i+1 by omega]
    exact this
   ·rw [if_neg hi,show L+1 - i=0 by omega]
    exact .nil _
def lQ (W:Nat->Int->Prop) (st:List Int×List bi):Prop:=st.1.length=st.2.length/\∀(i:Nat) (k:Int) (w:bi),st.1[i]?=some k->st.2[i]?=some w->W w.length k
theorem Cp {W:Nat->Int->Prop} {step:Int->Nat->Int} {k:Int} {w:bi} {st:List Int×List bi} {a:Nat} (o:lQ W st) (h:W (w.length+1) (step k a)):lQ W (fQ step k w st a) :=by
 unfold fQ
 split
 ·exact o
 ·refine ⟨by simp [o.1],fun i k2 w2 h1 h2=>?_⟩
  by_cases hi:i<st.1.length
  ·rw [sB hi] at h1
   rw [sB (by rw [<- o.1];exact hi)] at h2
   exact o.2 i k2 w2 h1 h2
  ·have hl:=(bv.mp h1).1
   rw [tz,LB] at hl
   have e:i=st.1.length :=by omega
   subst e
   rw [wp (cb _),UQ] at h1
   rw [o.1,wp (cb _),UQ] at h2
   cases h1;cases h2
   rw [lC,q0]
   exact h
theorem qw {W:Nat->Int->Prop} {step:Int->Nat->Int} {k:Int} {w:bi} {st:List Int×List bi}:∀{n:Nat},lQ W st->(∀a,a<n->W (w.length+1) (step k a))->lQ W (visit step k w n st)
 |0,o,_=>o
 |n+1,o,h=>by
          rw [e8]
          exact Cp (qw o fun a ha=>h a (by omega)) (h n (by omega))
theorem vT {W:Nat->Int->Prop} {step:Int->Nat->Int} {n most:Nat} (hW:∀L k,W L k->∀a,a<n->W (L+1) (step k a)):∀(fuel i:Nat) (st:List Int×List bi),lQ W st->lQ W (gA step n most fuel i st)
 |0,_,_,o=>o
 |fuel+1,i,st,o=>by
          cases e1:st.1[i]? with
          |none=>unfold gA;rw [e1];exact o
          |some k=>
           cases e2:st.2[i]? with
           |none=>unfold gA;rw [e1,e2];exact o
           |some w=>
            by_cases h:st.1.length<=most
            ·rw [vD e1 e2 h]
             exact vT hW fuel _ _ (qw o fun a ha=>hW _ _ (o.2 i k w e1 e2) a ha)
            ·unfold gA
             rw [e1,e2]
             simp only [if_neg h]
             exact o
def rA (net:List (List Int)) (n:Nat) (p:Int):bi:=(look (cK net n 0).1 (cK net n 0).2 p).getD ""
def bh (net:List (List Int)) (n:Nat) (p:Int):Nat:=(rA net n p).length
theorem fh {net:List (List Int)} {n:Nat} (O:aL net n):(0:Int)∈ah net:=bg.mpr ⟨Int.le_refl _,by have:=O.one;omega⟩
theorem oY {net:List (List Int)} {n:Nat} (O:aL net n) {p:Int} (h:gH net n 0 p):look (cK net n 0).1 (cK net n 0).2 p=some (rA net n p)/\b7 net n (bh net n p) 0 p :=by
 have hp:=(iZ O (fh O)).mpr h
 obtain ⟨i,hi⟩:=mo.mp hp
 have ok:=kR O (fh O)
 have hl:=(bv.mp hi).1
 have hw:=ag (show i<(cK net n 0).2.length by rw [<- ok.len];exact hl)
 have e:=nW ok.nd hi hw
 have pr:lQ (fun L k=>b7 net n L 0 k) (cK net n 0):=vT (fun L k w a ha=>w.snoc ha) _ _ _ ⟨rfl,fun i k w h1 h2=>by
  match i with
  |0=>cases h1;cases h2;exact .nil _
  |i+1=>exact nomatch h1⟩
 have e2:rA net n p=(cK net n 0).2[i]'(by rw [<- ok.len];exact hl) :=by unfold rA;rw [e];rfl
 refine ⟨by rw [e,e2],?_⟩
 unfold bh
 rw [e2]
 exact pr.2 i p _ hi hw
def dP (net:List (List Int)) (n:Nat):Prop:=∀a∈ah net,∀b∈ah net,gH net n a b
noncomputable instance {net:List (List Int)} {n:Nat}:Decidable (dP net n):=Ix _
structure nq (net:List (List Int)) (n g:Nat):Prop where
 dv:∀p∈ah net,∀a,a<n->(g:Int) ∣ (bh net n p:Int)+1 - bh net n (bD net p a)
 mx:∀c:Nat,(∀p∈ah net,∀a,a<n->(c:Int) ∣ (bh net n p:Int)+1 - bh net n (bD net p a))->c ∣ g
theorem jG {net:List (List Int)} {n g L:Nat} (O:aL net n) (h:∀p∈ah net,∀a,a<n->(g:Int) ∣ (bh net n p:Int)+1 - bh net n (bD net p a)) {s q:Int} (hs:s∈ah net) (w:b7 net n L s q):(g:Int) ∣ (bh net n s:Int)+L - bh net n q :=by
 induction w with
 |nil s=>exact ⟨0,by omega⟩
 | @snoc L s p a w ha ih=>
  have hp:=kT O hs w
  obtain ⟨x,hx⟩:=ih hs
  obtain ⟨y,hy⟩:=h p hp a ha
  exact ⟨x+y,by rw [Int.mul_add,<- hx,<- hy];omega⟩
theorem rB {net:List (List Int)} {n g:Nat} (O:aL net n) (W:dP net n) (h:nq net n g):0<g :=by
 have h0:=fh O
 have hn:0<n :=by rcases O.wid with h|h <;> omega
 have hq:=d9 O h0 hn
 obtain ⟨e,we⟩:=i7 (W _ hq 0 h0)
 have w1:=((b7.nil (net:=net) (n:=n) 0).snoc hn).app we
 have:=jG O h.dv h0 w1
 rw [show (bh net n 0:Int)+((0+1+e:Nat):Int) - bh net n 0=((0+1+e:Nat):Int) by omega] at this
 exact Nat.pos_of_dvd_of_pos (OK.mp this) (by omega)
theorem jH {net:List (List Int)} {n:Nat} (O:aL net n):(cR net n).length=1 ↔ dP net n :=by
 have h0:=fh O
 have hl:(cR net n).length=(du net n net.length).length :=by unfold cR;rw [ci]
 have hm:∀a,a∈du net n net.length ↔ a∈ah net/\lL net n a:=fun a=>by
  unfold du
  rw [Pe (UP places_len),EN,decide_eq_true_eq]
 have hd:∀a∈ah net,∃h,h∈du net n net.length/\tW net n a h:=fun a ha=>by
  obtain ⟨v,t,e,_⟩:=cls_cons (n:=n) ha
  have hv:v∈fU net n a :=by rw [e];exact jp
  obtain ⟨pv,sv⟩:=i5.mp hv
  refine ⟨v,(hm v).mpr ⟨pv,fun b hb=>?_⟩,sv⟩
  obtain ⟨pb,sb⟩:=i5.mp hb
  have pP:b∈fU net n a:=i5.mpr ⟨pb,sv.1.trans sb.1,sb.2.trans sv.2⟩
  have pw:=vQ (net:=net) (n:=n) (a:=a)
  rw [e,List.pairwise_cons] at pw
  rw [e] at pP
  rcases l3.mp pP with rfl|pP
  ·exact Int.le_refl _
  ·exact pw.1 b pP
 rw [hl]
 constructor
 ·intro h1 a ha b hb
  obtain ⟨x,hx⟩:=List.length_eq_one_iff.mp h1
  obtain ⟨u,hu,su⟩:=hd a ha
  obtain ⟨v,hv,sv⟩:=hd b hb
  rw [hx,kw] at hu hv
  subst hu;subst hv
  exact su.1.trans sv.2
 ·intro W
  have TJ:∀a∈du net n net.length,a=0:=fun a ha=>by
   obtain ⟨pa,ha⟩:=(hm a).mp ha
   have:=ha 0 (i5.mpr ⟨h0,W a pa 0 h0,W 0 h0 a pa⟩)
   have:=(bg.mp pa).1
   omega
  have nd:(du net n net.length).Nodup :=by
   unfold du
   rw [Pe (UP places_len)]
   exact nh.filter _
  obtain ⟨z,hz,_⟩:=hd 0 h0
  have:=eF _ [0] nd fun k hk=>by rw [TJ k hk];exact kw.mpr rfl
  have:=Po hz
  rw [LB] at *
  omega
end
section
variable {P:c8} {w:ff} {K:ba} {mg:bi->Option al} {base:gc} {tb:b5} {C_NoWhole:ac}
theorem fv:aK ["one","other"] ["one","other"] (aj d7):=⟨rfl,rfl,rfl,by decide +kernel,rfl,by decide +kernel,by decide +kernel⟩
theorem tD:aK ["net"] ["net"] (aj gC):=⟨rfl,rfl,rfl,by decide +kernel,rfl,by decide +kernel,by decide +kernel⟩
def LJ:bV:=fun ds M Q _=>∃a b:Int,ds=[.int a,.int b]/\Q (.int (Wo a.natAbs b.natAbs:Nat)) M
theorem Hr (a b:Nat):Wo b (a % b)=Wo a b :=by rw [Nat.gcd_comm,<- Nat.gcd_rec,Nat.gcd_comm]
theorem og {f:ac} {fd:i0} (D:Df K mg "common_divisor" d7 ["one","other"] f fd) (bl:Bl mg) :
  FnOk P w K mg base bq 1 f fd ["one","other"] (aR P w K tb LJ) :=by
 refine fu D fv (fun ds M Q E hS=>by obtain ⟨a,b,e,_⟩:=hS;rw [e];rfl) fun A outer s E Γ ds Q' E' hP hw hK ht hr hS=>?_
 obtain ⟨a,b,e,q⟩:=hS
 refine ⟨_,(ai (B2 (i:=0) (j:=1) rfl fv.nd rfl rfl (by decide) rfl rfl (aa (aD y3 rfl bl.abs_ uE (aa (qv 0) ae)) (aa (aD y3 rfl bl.abs_ uE (aa (qv 1) ae)) ae)) rfl)
  (ai (oP rb (bR ve (qv 1) ax (cz _))
   (aq (B2 (i:=0) (j:=1) rfl fv.nd rfl rfl (by decide) rfl rfl (aa (qv 1) (aa (aP fG (qv 0) (qv 1)) ae)) rfl)))
  (aq (aY (qv 0))))),?_⟩
 subst e
 simp! only []
 have ab:∀z:Int,(if z<0 then -z else z)=(z.natAbs:Int):=fun z=>by split <;> omega
 refine ⟨fun m ρ M=>∃x y:Nat,m=y/\ρ=[some (.int (x:Nat)),some (.int (y:Nat))]/\Wo x y=Wo a.natAbs b.natAbs/\M=Γ.M0,⟨_,a.natAbs,b.natAbs,rfl,by rw [ab,ab],rfl,rfl⟩,?_⟩
 rintro m ρ M ⟨x,y,rfl,rfl,hg,rfl⟩
 simp! only []
 refine eE (fun h=>?_) (fun h=>?_)
 ·have h:=of_decide_eq_true h
  have hm:=Vl x (show 0<m by omega)
  exact ⟨by omega,x % m,hm,m,x % m,rfl,by rw [Int.natCast_emod],by rw [Hr];exact hg⟩
 ·have h:=of_decide_eq_false h
  have e:m=0 :=by omega
  subst e
  rw [Nat.gcd_zero_right] at hg
  rw [hg]
  exact .inl q
theorem tE {f f1:ac} {fd bp:i0} {C0:ac} {cs:List ac} (D:Df K mg "need_whole" gC ["net"] f fd) (a7:Df K mg "hangs_together" dg ["net"] f1 bp) (fV:FnOk P w K mg base (cH P w) 10 f1 bp ["net"] (aR P w K tb vR))
  (X_:uX K C0 cs) (nu:C_NoWhole∈cs) (nv:mg "NoWhole" = some (.ref C_NoWhole)) :
  FnOk P w K mg base (cH P w) 11 f fd ["net"] (aR P w K tb fun ds M Q E=>∃net n,ds=[eN net]/\aL net n/\(dP net n->Q .av M)/\(¬ dP net n->E C_NoWhole M)) :=by
 refine gZ D tD (fun ds M Q E hS=>by obtain ⟨net,n,e,_⟩:=hS;rw [e];rfl) fun A outer s E Γ ds Q' E' hP hw hK ht hE hr hS=>?_
 obtain ⟨net,n,e,O,q1,q2⟩:=hS
 refine ⟨_,(aq (cP (gu (fD (aF fV (hr.mono (by decide)) rfl a7.mg a7.fn.kp a7.bd gX hP hw hK ht hE (aa (qv 0) ae))))
   (aq (lr (X_.ex _ nu) LS rfl pV hE rfl nv (aa jq ae)))
   qss_nil)),?_⟩
 subst e
 simp! only []
 refine ⟨net,n,rfl,O,?_⟩
 simp! only []
 refine eE (fun h=>?_) (fun h=>?_)
 ·have h:¬ (cR net n).length=1 :=by simpa using h
  exact ⟨by decide,q2 fun w=>h ((jH O).mpr w)⟩
 ·have h:(cR net n).length=1 :=by simpa using h
  exact .inl (q1 ((jH O).mp h))
end
section
variable {P:c8} {w:ff} {K:ba} {mg:bi->Option al} {base:gc} {tb:b5} {C_NoWhole:ac}
theorem gd:aK ["net","words","far","size","place","row","goal"] ["net"] (aj kP):=⟨rfl,rfl,rfl,by decide +kernel,rfl,by decide +kernel,by decide +kernel⟩
def zv (C:ac):bV:=fun ds M Q E=>∃net n,ds=[eN net]/\aL net n/\(dP net n->Q .av M)/\(¬ dP net n->E C M)
def hV (net:List (List Int)) (n g:Nat):List Int:=(ah net).map fun p=>(bh net n p:Int) % g
def F2 (C:ac):bV:=fun ds M Q E=>∃net n,ds=[eN net]/\aL net n/\(dP net n->∀g,nq net n g->Q (.tup [.int (g:Nat),.tup ((hV net n g).map Dv.int)]) M)/\(¬ dP net n->E C M)
def Er (net:List (List Int)) (n:Nat):Dv->Dv
 | .int p=>.int (bh net n p:Nat)
 |d=>d
def lR (net:List (List Int)) (n:Nat):List Dv:=(ah net).map fun p=>.int (bh net n p:Nat)
theorem NS (net:List (List Int)) (n:Nat):(bT 0 net.length).map (Er net n)=lR net n :=by
 unfold bT lR ah
 rw [BN,BN]
 refine List.map_congr_left fun i _=>?_
 show Er net n (.int (0+(i:Int)))=_
 rw [Ll]
 rfl
theorem Cq {net:List (List Int)} {n:Nat} {p:Int} (h:p∈ah net):cf (lR net n) p=some (.int (bh net n p:Nat)) :=by
 obtain ⟨h1,h2⟩:=bg.mp h
 obtain ⟨i,rfl⟩:=xp h1
 refine ck ?_
 unfold lR ah
 rw [BN,ca,AE (by omega)]
 rfl
structure iC (net:List (List Int)) (n k l g:Nat):Prop where
 dv:∀(i:Nat) a,a<n->i<k\/(i=k/\a<l)->i<net.length->(g:Int) ∣ (bh net n (i:Int):Int)+1 - bh net n (bD net (i:Int) a)
 mx:∀c:Nat,(∀p∈ah net,∀a,a<n->(c:Int) ∣ (bh net n p:Int)+1 - bh net n (bD net p a))->c ∣ g
theorem iC.next {net:List (List Int)} {n k l g:Nat} (h:iC net n k l g) (hk:k<net.length) (hl:l<n):iC net n k (l+1) (Wo g ((bh net n (k:Int):Int)+1 - bh net n (bD net (k:Int) l)).natAbs) :=by
 refine ⟨fun i a ha hi iF=>?_,fun c hc=>Nat.dvd_gcd (h.mx c hc) (Int.ofNat_dvd_left.mp (hc _ (gI hk) l hl))⟩
 by_cases e:i=k/\a=l
 ·obtain ⟨rfl,rfl⟩:=e
  exact Int.ofNat_dvd_left.mpr (Nat.gcd_dvd_right _ _)
 ·have:=h.dv i a ha (by omega) iF
  exact Int.dvd_trans (OK.mpr (Nat.gcd_dvd_left _ _)) this
theorem iC.up {net:List (List Int)} {n k g:Nat} (h:iC net n k n g):iC net n (k+1) 0 g:=⟨fun i a ha hi iF=>h.dv i a ha (by omega) iF,h.mx⟩
theorem iC.all {net:List (List Int)} {n l g:Nat} (h:iC net n net.length l g):nq net n g:=⟨fun p hp a ha=>by
 obtain ⟨h1,h2⟩:=bg.mp hp
 obtain ⟨i,rfl⟩:=xp h1
 exact h.dv i a ha (by omega) (by omega),h.mx⟩
theorem iC.zero {net:List (List Int)} {n:Nat}:iC net n 0 0 0:=⟨fun i a ha hi=>by omega,fun c _=>Nat.dvd_zero c⟩
theorem LK {net:List (List Int)} {n:Nat} (O:aL net n) {p:Int} (h:gH net n 0 p):bh net n p<=9 :=by
 have hp:=(iZ O (fh O)).mpr h
 obtain ⟨i,hi⟩:=mo.mp hp
 have ok:=kR O (fh O)
 have hl:=(bv.mp hi).1
 have hw:=ag (show i<(cK net n 0).2.length by rw [<- ok.len];exact hl)
 have e:=nW ok.nd hi hw
 have e2:rA net n p=(cK net n 0).2[i]'(by rw [<- ok.len];exact hl) :=by unfold rA;rw [e];rfl
 have:=ok.wl i _ hw
 have h9:=O.nine
 have hle:=ok.le
 rw [places_len] at hle
 unfold bh
 rw [e2]
 omega
theorem Es {net:List (List Int)} {k l:Nat} {x:Int} (hk:k<net.length) (h:(net.getD k [])[l]?=some x):bD net (k:Int) l=x :=by
 unfold bD
 rw [ss,ce,h]
 rfl
def LL (g:Nat):Dv->Dv
 | .int j=>.int (j % (g:Int))
 |d=>d
theorem Hs {f f1 f2 f3:ac} {fd bp fd2 ng:i0} {Cr bM:ac} (D:Df K mg "beat" kP ["net"] f fd) (qy:uF base fd Cr bM) (hp:bM∈tb) (de:∃bm ob,UM base mainGlobals mg bm ob)
  (dQ:Df K mg "need_whole" gC ["net"] f1 bp) (jI:FnOk P w K mg base (cH P w) 11 f1 bp ["net"] (aR P w K tb (zv C_NoWhole)))
  (bo:Df K mg "first_words" aB ["net","start"] f2 fd2) (dq:FnOk P w K mg base bq 8 f2 fd2 ["net","start"] (aR P w K tb vI))
  (cC:Df K mg "common_divisor" d7 ["one","other"] f3 ng) (oZ:FnOk P w K mg base bq 1 f3 ng ["one","other"] (aR P w K tb LJ)) (bl:Bl mg) :
  FnOk P w K mg base (cH P w) 12 f fd ["net"] (aR P w K tb (F2 C_NoWhole)) :=by
 refine gZ D gd (fun ds M Q E hS=>by obtain ⟨net,n,e,_⟩:=hS;rw [e];rfl) fun A outer s E Γ ds Q' E' hP hw hK ht hE hr hS=>?_
 obtain ⟨net,n,e,O,q1,q2⟩:=hS
 have jJ:bM∈Γ.tb:=ht▸hp
 refine ⟨_,(ai (dI (aF jI (hr.mono (by decide)) rfl dQ.mg dQ.fn.kp dQ.bd gX hP hw hK ht hE (aa (qv 0) ae)))
  (ai (aJ (i:=1) gd.nd rfl (ES rfl) (aF dq (hr.mono (by decide)) rfl bo.mg bo.fn.kp bo.bd bH hP hw hK ht XR.none (aa (qv 0) (aa ax ae))))
  (ai (iP (i:=2) gd.nd rfl rfl (N':=["place","words"]) (tn:=1) (idx:=[1]) rfl (show aW ["net","words","far","size","place","row","goal"] (aj kP) _ ["place","words"] 1 [1] from by decide +kernel) (bw rfl bl.range_ (aa (aD (cy (K:=K) rfl hK) rfl bl.len_ on (aa (qv 0) ae)) ae)) (fun _ _ _ _ _=>(aO (i:=0) (show IS [("place" : bi),("words" : bi)] from by decide +kernel) rfl (l8 rfl))) (fun _ _ _ _ _=>gb) (fun _ _ _ _ _=>(aD (cy (K:=K) rfl hK) rfl bl.len_ on (aa (xQ hr.units (qv 1) (qv 0) (fun _ _=>rfl)) ae))))
  (ai (aJ (i:=3) gd.nd rfl (ES rfl) ax)
  (ai (PS.iE (cA rb rfl (G8 false (K:=K) rfl rfl bl.enumerate_ (qv 0)) (fun iu eP ew eK et=>by have hP:=hP.trans eP.symm;have hw:=hw.trans ew.symm;have hK:=hK.trans eK.symm;have ht:=ht.trans et.symm;have jJ:=et.symm▸jJ;exact ⟨(Bf (n:=2) rfl (la (aO (i:=4) gd.nd rfl (l8 rfl)) (la (aO (i:=5) gd.nd rfl (l8 rfl)) xJ))),(aq (PS.iE (cA rb rfl (p7 (K:=K) rfl (qv 5)) (fun iu eP ew eK et=>by have hP:=hP.trans eP.symm;have hw:=hw.trans ew.symm;have hK:=hK.trans eK.symm;have ht:=ht.trans et.symm;have jJ:=et.symm▸jJ;exact ⟨(aO (i:=6) gd.nd rfl (l8 rfl)),(aq (aJ (i:=3) gd.nd rfl (ES rfl) (aF oZ (hr.mono (by decide)) rfl cC.mg cC.fn.kp cC.bd bH hP hw hK ht XR.none (aa (qv 3) (aa (aP tS (aP eQ (bf (bU (K:=K) rfl) (qv 2) (qv 4) (fun _ _=>rfl)) ax) (bf (bU (K:=K) rfl) (qv 2) (qv 6) (fun _ _=>rfl))) ae)))))⟩))))⟩)))
  (aq (aY (Bd (aa (qv 3) (aa (wH (k:=0) (N':=["steps","size"]) (tn:=1) (idx:=[3]) jJ (hr.mono (by decide)) rfl (show aW ["net","words","far","size","place","row","goal"] (aj kP) _ ["steps","size"] 1 [3] from by decide +kernel) rfl rfl qy.code qy.hd de rfl bl.tuple_ (qP (K:=K) rfl (qv 2)) (fun _ _ _ _ _ _ _ hr=>(aO (i:=0) (show IS [("steps" : bi),("size" : bi)] from by decide +kernel) rfl (l8 rfl))) (fun _ _ _ _ _ _ _ hr=>gb) (fun _ _ _ _ _ _ _ hr=>(aP fG (qv 0) (qv 1)))) ae)))))))))),?_⟩
 subst e
 have h9:=O.nine
 have Lp:=O.wid
 have big:(1000:Nat)<sizeLine :=by decide
 have h0:=fh O
 simp! only []
 refine ⟨net,n,rfl,O,fun W=>?_,q2⟩
 have qI:∀p∈ah net,gH net n 0 p:=fun p hp=>W 0 h0 p hp
 simp! only []
 refine ⟨net,n,_,rfl,O,h0,?_⟩
 simp! only []
 refine ⟨by omega,by omega,by omega,nQ (Er net n) (fun τ M=>(∃x,τ=[x,some (m8 (cK net n 0))])/\M=Γ.M0) ⟨⟨_,rfl⟩,rfl⟩ (fun d hd τ M hI R hR=>?_) (fun τ M hI=>?_)⟩
 ·obtain ⟨⟨x,rfl⟩,rfl⟩:=hI
  obtain ⟨j,hj⟩:=mo.mp hd
  obtain ⟨rfl,yb⟩:=bA hj
  obtain ⟨lk,_⟩:=oY O (qI _ (gI yb))
  simp! only []
  show (match some (look ((cK net n 0).1.map Cc) ((cK net n 0).2.map Dv.str) (Cc (j:Int))) with|some (some r)=>_|_=>False)
  rw [lD nX,lk]
  rw [Ll] at hR
  have hf:=LK O (qI _ (gI yb))
  exact ⟨by show bh net n (j:Int)<=sizeLine;omega,hR _ _ ⟨⟨_,rfl⟩,rfl⟩⟩
 obtain ⟨⟨x,rfl⟩,rfl⟩:=hI
 rw [NS]
 refine bz (fun k ρ M=>(∃g x4 x5 x6,ρ=[some (eN net),some (m8 (cK net n 0)),some (.lst (lR net n)),some (.int (g:Nat)),x4,x5,x6]/\iC net n k 0 g)/\M=Γ.M0/\k<=net.length) ⟨⟨0,_,_,_,rfl,.zero⟩,rfl,qr _⟩ (fun k d ρ M N hd hJ hN=>?_) (fun ρ M hJ=>?_)
 ·obtain ⟨⟨g,x4,x5,x6,rfl,hg⟩,rfl,hk⟩:=hJ
  obtain ⟨x,y,rfl,e1,e2⟩:=Bw hd
  obtain ⟨rfl,qz⟩:=Hc e1
  have ey:y=eI (net.getD k []) :=by
   rw [ca,ag qz] at e2
   rw [getD_at qz]
   cases e2
   rfl
  subst ey
  have FZ:(net.getD k []).length=n :=by
   rw [getD_at qz]
   exact (O.row _ (mf _)).1
  have iJ:=gI (net:=net) qz
  simp! only []
  refine bz (fun l ρ M=>(∃g x6,ρ=[some (eN net),some (m8 (cK net n 0)),some (.lst (lR net n)),some (.int (g:Nat)),some (.int (k:Nat)),some (eI (net.getD k [])),x6]/\iC net n k l g)/\M=Γ.M0/\l<=n) ⟨⟨g,_,rfl,hg⟩,rfl,qr _⟩ (fun l d ρ M N2 hd hJ kQ=>?_) (fun ρ M hJ=>?_)
  ·obtain ⟨⟨g,x6,rfl,hg⟩,rfl,hl⟩:=hJ
   rw [ca] at hd
   obtain ⟨x,hx,rfl⟩:=li.mp hd
   have F3:=(bv.mp hx).1
   rw [FZ] at F3
   have es:=Es qz hx
   have TK:x∈ah net :=by rw [<- es];exact d9 O iJ F3
   simp! only [Cq iJ,Cq TK]
   refine ⟨_,_,rfl,kQ _ _ ⟨⟨_,_,rfl,?_⟩,rfl,F3⟩⟩
   have:=hg.next qz F3
   rw [es] at this
   exact this
  ·obtain ⟨⟨g,x6,rfl,hg⟩,rfl,hl⟩:=hJ
   rw [ci,FZ] at hg
   exact hN _ _ ⟨⟨g,_,_,_,rfl,hg.up⟩,rfl,qz⟩
 ·obtain ⟨⟨g,x4,x5,x6,rfl,hg⟩,rfl,hk⟩:=hJ
  have hlen:(eU (iB net.length) (net.map eI)).length=net.length :=by simp [pairsD_len,numD_len]
  rw [hlen] at hg
  have hE:=hg.all
  have gp:=rB O W hE
  simp! only []
  refine ⟨by unfold lR;rw [ci,places_len];omega,nQ (LL g) (fun τ M=>(∃x,τ=[x,some (.int (g:Nat))])/\M=Γ.M0) ⟨⟨_,rfl⟩,rfl⟩ (fun d hd τ M hI R hR=>?_) (fun τ M hI=>?_)⟩
  ·obtain ⟨⟨x,rfl⟩,rfl⟩:=hI
   obtain ⟨p,hp,rfl⟩:=sw.mp hd
   simp! only []
   exact ⟨by omega,hR _ _ ⟨⟨_,rfl⟩,rfl⟩⟩
  ·obtain ⟨⟨x,rfl⟩,rfl⟩:=hI
   have e:(lR net n).map (LL g)=(hV net n g).map Dv.int :=by
    unfold lR hV
    rw [BN,BN]
    rfl
   rw [e]
   exact ⟨by omega,.inl (q1 W g hE)⟩
end
section
variable {P:c8} {w:ff} {K:ba} {mg:bi->Option al} {base:gc} {tb:b5} {C_NoNet C_NoWord C0:ac} {cs:List ac}
theorem wV:aK ["net"] ["net"] (aj iR):=⟨rfl,rfl,rfl,by decide +kernel,rfl,by decide +kernel,by decide +kernel⟩
theorem qA:aK ["net","thing","signs"] ["net","thing"] (aj ir):=⟨rfl,rfl,rfl,by decide +kernel,rfl,by decide +kernel,by decide +kernel⟩
theorem vU:aK ["net","thing"] ["net","thing"] (aj g6):=⟨rfl,rfl,rfl,by decide +kernel,rfl,by decide +kernel,by decide +kernel⟩
theorem ny:aK ["net","place","word","sign"] ["net","place","word"] (aj lF):=⟨rfl,rfl,rfl,by decide +kernel,rfl,by decide +kernel,by decide +kernel⟩
def sgn (w:Nat):bi:=Wg "abc" none (some (w:Int))
theorem Ct {net:List (List Int)} {n k:Nat} (h:k<net.length):cf (net.map eI) ((k:Nat):Int)=some (eI net[k]):=ck (by rw [ca,ag h];rfl)
theorem ye {net:List (List Int)} {n:Nat} (o:aL net n):∃r,cf (net.map eI) 0=some (eI r)/\r.length=n :=by
 have:=o.one
 exact ⟨net[0],Ct (n:=n) (k:=0) (by omega),(o.row _ (mf _)).1⟩
def Cu:bV:=fun ds M Q _=>∃net n,ds=[eN net]/\aL net n/\Q (.str (sgn n)) M
theorem wW {f f1:ac} {fd bp:i0} (D:Df K mg "signs_of" iR ["net"] f fd)
  (bj:Df K mg "need_net" fc ["thing"] f1 bp) (cW:FnOk P w K mg base (cH P w) 7 f1 bp ["thing"] (aR P w K tb (tV C_NoNet))) (bl:Bl mg) {tk:Vc} (dh:mg "SIGNS" = some (.str "abc" tk)) :
  FnOk P w K mg base (cH P w) 8 f fd ["net"] (aR P w K tb Cu) :=by
 refine gZ D wV (fun ds M Q E hS=>by obtain ⟨net,n,e,_⟩:=hS;rw [e];rfl) fun A outer s E Γ ds Q' E' hP hw hK ht hE hr hS=>?_
 obtain ⟨net,n,e,o,q⟩:=hS
 refine ⟨_,(ai (dI (aF cW (hr.mono (by decide)) rfl bj.mg bj.fn.kp bj.bd gX hP hw hK ht hE (aa (qv 0) ae)))
  (aq (aY (D0 Nx (oO (z := "abc") rfl dh ⟨_,rfl⟩) G6 (G7 (aD (cy (K:=K) rfl hK) rfl bl.len_ on (aa (bf (bU (K:=K) rfl) (qv 0) ax (fun _ _=>rfl)) ae))))))),?_⟩
 subst e
 obtain ⟨r,h0,hl⟩:=ye o
 refine ⟨_,rfl,rl net,fun _=>?_,fun h=>by rw [rj o] at h;cases h⟩
 simp! only [h0,hl]
 exact ⟨by decide,.inl q⟩
def dw (n:Nat) (z:bi):Prop:=∀c∈z.cps.toList,∃k:Nat,k<n/\c=97+k
theorem Ht {n k:Nat} (hn:n=2\/n=3) (hk:k<n):y2 ⟨#[97+k]⟩ (sgn n)=true :=by
 rcases hn with rfl|rfl
 ·have:k=0\/k=1 :=by omega
  rcases this with rfl|rfl <;> decide +kernel
 ·have:k=0\/k=1\/k=2 :=by omega
  rcases this with rfl|rfl|rfl <;> decide +kernel
def Px (n:Nat):Dv->Bool | .str y=>y2 y (sgn n)|_=>false
theorem LN {n:Nat} {z:bi} (hn:n=2\/n=3) (hw:dw n z):(gy z).all (Px n)=true :=by
 rw [wP]
 intro d hd
 obtain ⟨c,hc,rfl⟩:=sw.mp hd
 obtain ⟨k,hk,rfl⟩:=hw c hc
 exact Ht hn hk
def F4:bV:=fun ds M Q _=>∃net n z,ds=[eN net,.str z]/\aL net n/\dw n z/\z.length<=2000/\Q (.bl true) M
theorem zx {f f1:ac} {fd bp:i0} {sV aU:ac} (D:Df K mg "is_word" ir ["net","thing"] f fd) (j8:uF base fd sV aU) (hp:aU∈tb) (de:∃bm ob,UM base mainGlobals mg bm ob)
  (fi:Df K mg "signs_of" iR ["net"] f1 bp) (lU:FnOk P w K mg base (cH P w) 8 f1 bp ["net"] (aR P w K tb Cu)) (bl:Bl mg) {tk:Vc} (dR:mg "MOST_SIGNS_OF_WORD" = some (.int 2000 tk)) :
  FnOk P w K mg base (cH P w) 9 f fd ["net","thing"] (aR P w K tb F4) :=by
 refine gZ D qA (fun ds M Q E hS=>by obtain ⟨net,n,z,e,_⟩:=hS;rw [e];rfl) fun A outer s E Γ ds Q' E' hP hw hK ht hE hr hS=>?_
 obtain ⟨net,n,z,e,o,hW,hl,q⟩:=hS
 have wX:aU∈Γ.tb:=ht▸hp
 refine ⟨_,(ai (aJ (i:=2) qA.nd rfl (ES rfl) (aF lU (hr.mono (by decide)) rfl fi.mg fi.fn.kp fi.bd gX hP hw hK ht hE (aa (qv 0) ae)))
  (ai (cP (QW.pt (yY (gu (fD (aD (jt (K:=K) rfl) rfl bl.isinstance_ eu (aa (qv 1) (aa (kJ (v:=.ty "str") rfl bl.str_ JC rfl) ae))))) (va (bR ve (aD (cy (K:=K) rfl hK) rfl bl.len_ on (aa (qv 1) ae)) (u6 (i:=2000) rfl dR ⟨_,rfl⟩) (cz _)))))
   (aq (aY gY))
   qss_nil)
  (aq (aY (vi (k:=0) (N':=["sign","signs"]) (tn:=1) (idx:=[2]) wX (hr.mono (by decide)) rfl (show aW ["net","thing","signs"] (aj ir) _ ["sign","signs"] 1 [2] from by decide +kernel) rfl rfl j8.code j8.hd de rfl bl.all_ (Bh (qv 1)) (fun _ _ _ _ _ _ _ hr=>(aO (i:=0) (show IS [("sign" : bi),("signs" : bi)] from by decide +kernel) rfl (l8 rfl))) (fun _ _ _ _ _ _ _ hr=>gb) (fun _ _ _ _ _ _ _ hr=>(xF DZ (qv 0) (qv 1) (by rfl)))))))),?_⟩
 subst e
 have big:(2000:Nat)<sizeLine :=by decide
 simp! only []
 refine ⟨net,n,rfl,o,?_⟩
 simp! only []
 refine ⟨by decide,by omega,eE (fun h=>?_) (fun h=>?_)⟩
 ·exact absurd (by simpa using h) (by omega:¬ (2000:Int)<(z.length:Nat))
 ·refine nO (Px n) (fun τ=>∃x,τ=[x,some (.str (sgn n))]) ⟨none,rfl⟩ (fun d hd τ ⟨x,e⟩ R hR=>?_) (by rw [LN o.wid hW];exact .inl q)
  subst e
  obtain ⟨c,hc,rfl⟩:=sw.mp hd
  exact ⟨trivial,hR _ ⟨_,rfl⟩⟩
def sW:bV:=fun ds M Q _=>∃net n z,ds=[eN net,.str z]/\aL net n/\dw n z/\z.length<=2000/\Q .av M
theorem vV {f f1:ac} {fd bp:i0} (D:Df K mg "need_word" g6 ["net","thing"] f fd) (eW:Df K mg "is_word" ir ["net","thing"] f1 bp) (nz:FnOk P w K mg base (cH P w) 9 f1 bp ["net","thing"] (aR P w K tb F4))
  (X_:uX K C0 cs) (o3:C_NoWord∈cs) (o4:mg "NoWord" = some (.ref C_NoWord)):FnOk P w K mg base (cH P w) 10 f fd ["net","thing"] (aR P w K tb sW) :=by
 refine gZ D vU (fun ds M Q E hS=>by obtain ⟨net,n,d,e,_⟩:=hS;rw [e];rfl) fun A outer s E Γ ds Q' E' hP hw hK ht hE hr hS=>?_
 obtain ⟨net,n,z,e,o,hW,hl,q⟩:=hS
 refine ⟨_,(aq (cP (gu (fD (aF nz (hr.mono (by decide)) rfl eW.mg eW.fn.kp eW.bd gX hP hw hK ht hE (aa (qv 0) (aa (qv 1) ae)))))
   (aq (lr (X_.ex _ o3) LS rfl pV hE rfl o4 (aa jq ae)))
   qss_nil)),?_⟩
 subst e
 simp! only []
 exact ⟨net,n,z,rfl,o,hW,hl,.inl q⟩
def stepI (net:List (List Int)) (p:Int) (c:Nat):Int:=(net.getD p.toNat []).getD (c - 97) 0
def gJ (net:List (List Int)) (p:Int) (cs:List Nat):Int:=cs.foldl (stepI net) p
theorem Hu {k:Nat} (hk:k<3):∃rest,Is "abc" ⟨#[97+k]⟩ 0 (bi.length "abc") 1=k::rest :=by
 have:k=0\/k=1\/k=2 :=by omega
 rcases this with rfl|rfl|rfl
 ·exact ⟨[],by decide +kernel⟩
 ·exact ⟨[],by decide +kernel⟩
 ·exact ⟨[],by decide +kernel⟩
theorem step_at {net:List (List Int)} {n:Nat} (o:aL net n) {p:Int} (h0:0<=p) (h1:p<(net.length:Nat)) {k:Nat} (hk:k<n) :
  (0<=stepI net p (97+k)/\stepI net p (97+k)<(net.length:Nat))/\∃r,cf (net.map eI) p=some (eI r)/\cf (r.map Dv.int) ((k:Nat):Int)=some (.int (stepI net p (97+k))) :=by
 have hp:p.toNat<net.length :=by omega
 have e:net.getD p.toNat []=net[p.toNat] :=by rw [ce,ag hp];rfl
 obtain ⟨o1,o2⟩:=o.row _ (mf hp)
 have ek:97+k - 97=k :=by omega
 have ou:k<net[p.toNat].length :=by omega
 have es:stepI net p (97+k)=net[p.toNat][k] :=by
  unfold stepI
  rw [e,ek,ce,ag ou];rfl
 rw [es]
 refine ⟨o2 _ (mf ou),net[p.toNat],?_,ck (by rw [ca,ag ou];rfl)⟩
 have:=Ct (n:=n) hp
 rwa [show ((p.toNat:Nat):Int)=p by omega] at this
theorem Cv {net:List (List Int)} {n:Nat} (o:aL net n):∀(cs:List Nat) {p:Int},0<=p->p<(net.length:Nat)->(∀c∈cs,∃k:Nat,k<n/\c=97+k)->0<=gJ net p cs/\gJ net p cs<(net.length:Nat)
 | [],p,h0,h1,_=>⟨h0,h1⟩
 |c::cs,p,h0,h1,hw=>by
          obtain ⟨k,hk,rfl⟩:=hw c jp
          obtain ⟨s0,s1⟩:=(step_at o h0 h1 hk).1
          exact Cv o cs s0 s1 fun c hc=>hw c (gl _ hc)
theorem Cw {z:bi} {i:Nat} {y:Dv} (h:(gy z)[i]?=some y):∃c,z.cps.toList[i]?=some c/\y=.str ⟨#[c]⟩ :=by
 unfold gy at h
 rw [ca] at h
 cases e:z.cps.toList[i]? with
 |none=>rw [e] at h;cases h
 |some c=>rw [e] at h;exact ⟨c,rfl,(ij h).symm⟩
theorem sX {net:List (List Int)} {p:Int} {cs:List Nat} {i c:Nat} (h:cs[i]?=some c):gJ net p (cs.take (i+1))=stepI net (gJ net p (cs.take i)) c :=by
 rw [VR,h]
 unfold gJ
 rw [Option.toList_some,VQ];rfl
def zEnd:bV:=fun ds M Q _=>∃net n p z,ds=[eN net,.int p,.str z]/\aL net n/\0<=p/\p<(net.length:Nat)/\dw n z/\Q (.int (gJ net p z.cps.toList)) M
theorem Cy {f:ac} {fd:i0} {tk:Vc} (D:Df K mg "end_of" lF ["net","place","word"] f fd) (dh:mg "SIGNS" = some (.str "abc" tk)):FnOk P w K mg base bq 1 f fd ["net","place","word"] (aR P w K tb zEnd) :=by
 refine fu D ny (fun ds M Q E hS=>by obtain ⟨net,n,p,z,e,_⟩:=hS;rw [e];rfl) fun A outer s E Γ ds Q' E' hP hw hK ht hr hS=>?_
 obtain ⟨net,n,p,z,e,o,h0,h1,hW,q⟩:=hS
 refine ⟨_,(ai (cA rb rfl (Bh (qv 2)) (fun iu eP ew eK et=>by have hP:=hP.trans eP.symm;have hw:=hw.trans ew.symm;have hK:=hK.trans eK.symm;have ht:=ht.trans et.symm;exact ⟨(aO (i:=3) ny.nd rfl (l8 rfl)),(aq (aJ (i:=1) ny.nd rfl (l8 rfl) (bf (bU (K:=K) rfl) (bf (bU (K:=K) rfl) (qv 0) (qv 1) (fun _ _=>rfl)) (j0 (K:=K) rfl PySem.F.plainAttrs_str PySem.F.slot_str_index PySem.F.type_str_index D2 (oO (z := "abc") rfl dh ⟨_,rfl⟩) (aa (qv 3) ae)) (fun _ _=>rfl))))⟩))
  (aq (aY (qv 1)))),?_⟩
 subst e
 simp! only []
 refine bz (fun i ρ M=>(∃x,ρ=[some (eN net),some (.int (gJ net p (z.cps.toList.take i))),some (.str z),x])/\M=Γ.M0) ⟨⟨_,rfl⟩,rfl⟩ (fun i d ρ M N hd ⟨⟨x,e⟩,eM⟩ hN=>?_) (fun ρ M ⟨⟨x,e⟩,eM⟩=>?_)
 ·subst e eM
  obtain ⟨c,hc,rfl⟩:=Cw hd
  obtain ⟨k,hk,rfl⟩:=hW c (ii hc)
  obtain ⟨a0,a1⟩:=Cv o (z.cps.toList.take i) h0 h1 fun c hc=>hW c (List.mem_of_mem_take hc)
  obtain ⟨_,r,TL,Cz⟩:=step_at o a0 a1 hk
  obtain ⟨rest,hi⟩:=Hu (show k<3 by have:=o.wid;omega)
  simp! only [TL,hi,Cz,eN,eI]
  exact hN _ _ ⟨⟨_,by rw [sX hc]⟩,rfl⟩
 ·subst e eM
  have:z.cps.toList.take (gy z).length=z.cps.toList :=by unfold gy;rw [ci,U3]
  rw [this]
  exact .inl q
end
section
theorem CA {net:List (List Int)} (f:Nat->Int) (h:∀i,i<=net.length->f i∈ah net):∃i j,i<j/\j<=net.length/\f i=f j :=by
 refine Na fun LO=>?_
 have nd:((l9 (net.length+1)).map f).Nodup :=by
  refine (VZ (R:=fun i j=>i<j/\j<net.length+1) f (fun i j oi e=>LO ⟨i,j,oi.1,by omega,e⟩) ?_)
  exact (Pf (n:=net.length+1)).imp_of_mem fun _ hb uS=>⟨uS,ID.mp hb⟩
 have:=eF _ (ah net) nd fun x hx=>by
  obtain ⟨i,hi,rfl⟩:=sw.mp hx
  exact h i (by have:=ID.mp hi;omega)
 rw [ci,PM,places_len] at this
 omega
theorem kU {net:List (List Int)} {n L:Nat} {x:Int} (h:b7 net n L x x):∀k,b7 net n (k * L) x x
 |0=>by rw [Nat.zero_mul];exact .nil x
 |k+1=>by rw [Wl,Nat.one_mul];exact (kU h k).app h
theorem sY {net:List (List Int)} {n c:Nat} (O:aL net n):∀(N t:Nat),t<=N->∀x y:Int,x∈ah net->b7 net n (t * c) x y->∃t',t'<net.length/\b7 net n (t' * c) x y:=fun N=>by
 induction N with
 |zero=>
  intro t ht x y hx w
  have:=O.one
  exact ⟨t,by omega,w⟩
 |succ N ih=>
  intro t ht x y hx w
  by_cases hl:t<net.length
  ·exact ⟨t,hl,w⟩
  ·obtain ⟨f,h0,hL,hf⟩:=rq w
   have le:∀{i j:Nat},i<=j->i * c<=j * c:=fun h=>Nat.mul_le_mul_right _ h
   obtain ⟨i,j,oi,hj,e⟩:=CA (net:=net) (fun i=>f (i * c)) fun i hi=>by
    have:=hf 0 (i * c) (qr _) (le (by omega))
    rw [h0] at this
    exact kT O hx this
   have w1:=hf 0 (i * c) (qr _) (le (by omega))
   have w2:=hf (j * c) (t * c) (le (by omega)) (cb _)
   rw [h0] at w1
   rw [hL,<- e] at w2
   have w3:=w1.app w2
   rw [show i * c - 0+(t * c - j * c)=(i+(t - j)) * c by rw [Wl,Nat.sub_mul];omega] at w3
   exact ih (i+(t - j)) (by omega) x y hx w3
theorem CB {net:List (List Int)} {n:Nat} (O:aL net n) {x y:Int} (hx:x∈ah net) (h:gH net n x y):∃t,t<net.length/\b7 net n t x y :=by
 obtain ⟨L,w⟩:=i7 h
 obtain ⟨t,ht,w2⟩:=sY (c:=1) O L L (cb _) x y hx (by rw [Nat.mul_one];exact w)
 rw [Nat.mul_one] at w2
 exact ⟨t,ht,w2⟩
theorem Et {a b k c:Nat} (h:a % c=b % c):(k * a) % c=(k * b) % c :=by rw [Nat.mul_mod,h,<- Nat.mul_mod]
theorem Eu {a b z c:Nat} (h:a % c=b % c):(z+a) % c=(z+b) % c :=by rw [Nat.add_mod,h,<- Nat.add_mod]
theorem CC {net:List (List Int)} {n g e:Nat} (O:aL net n) (W:dP net n) (h:nq net n g) (he:∀s∈ah net,∀L,b7 net n L s s->e ∣ L):e ∣ g :=by
 have h0:=fh O
 refine h.mx e fun p hp a ha=>?_
 have hq:=d9 O hp ha
 obtain ⟨l,wl⟩:=i7 (W _ hq 0 h0)
 obtain ⟨x,hx⟩:=he 0 h0 _ ((((oY O (W 0 h0 p hp)).2).snoc ha).app wl)
 obtain ⟨y,hy⟩:=he 0 h0 _ (((oY O (W 0 h0 _ hq)).2).app wl)
 refine ⟨(x:Int) - y,?_⟩
 have hx:((bh net n p:Int)+1+l)=(e:Int) * x :=by rw [<- Wk,<- hx];omega
 have hy:((bh net n (bD net p a):Int)+l)=(e:Int) * y :=by rw [<- Wk,<- hy];omega
 rw [Int.mul_sub,<- hx,<- hy]
 omega
theorem Ew {net:List (List Int)} {n g c l:Nat} (O:aL net n) (W:dP net n) (h:nq net n g) (hc:0<c) {x:Int} (hx:x∈ah net) (hl:g ∣ l):∃L,b7 net n L x x/\(l+L) % c=0 :=by
 have ex:∃t,0<t/\∃L,b7 net n L x x/\L % c=t % c:=⟨c,hc,0,.nil x,by rw [Nat.mod_self,Nat.zero_mod]⟩
 obtain ⟨e,⟨he,Le,we,me⟩,Ep⟩:∃e,(0<e/\∃L,b7 net n L x x/\L % c=e % c)/\∀t,t<e->¬ (0<t/\∃L,b7 net n L x x/\L % c=t % c) :=by
  obtain ⟨t,ht⟩:=ex
  induction t using TD with
  |ind t ih=>
   by_cases hh:∃t',t'<t/\(0<t'/\∃L,b7 net n L x x/\L % c=t' % c)
   ·obtain ⟨t',h1,h2⟩:=hh
    exact ih t' h1 h2
   ·exact ⟨t,ht,fun t' h1 h2=>hh ⟨t',h1,h2⟩⟩
 obtain ⟨c',rfl⟩:∃c',c=c'+1:=⟨c - 1,by omega⟩
 have key:∀q z,(z+q * c' * Le+q * e) % (c'+1)=z % (c'+1):=fun q z=>by
  have e1:(q * c' * Le) % (c'+1)=(q * c' * e) % (c'+1):=Et me
  rw [Nat.add_right_comm,Eu e1,show z+q * e+q * c' * e=z+(c'+1) * (q * e) by
   rw [Wl,Nat.one_mul,RI q c',Nat.mul_assoc];omega]
  exact Nat.add_mul_mod_self_left _ _ _
 have Py:∀L,b7 net n L x x->e ∣ L:=fun L w=>by
  refine Na fun LO=>?_
  have hr:0<L % e:=Nat.pos_of_ne_zero fun z=>LO (Nat.dvd_of_mod_eq_zero z)
  have bb:=Vl L he
  refine Ep (L % e) bb ⟨hr,L+(L / e) * c' * Le,w.app (kU we _),?_⟩
  have:=key (L / e) (L % e)
  rw [show L % e+L / e * c' * Le+L / e * e=L+L / e * c' * Le by
   have:=Nat.div_add_mod L e
   rw [RI] at this
   omega] at this
  exact this
 have TN:e ∣ g:=CC O W h fun s hs L w=>by
  obtain ⟨a,wa⟩:=i7 (W x hx s hs)
  obtain ⟨b,wb⟩:=i7 (W s hs x hx)
  have d1:=Py _ (wa.app wb)
  have d2:=Py _ ((wa.app w).app wb)
  rw [show a+L+b=L+(a+b) by omega] at d2
  exact (Nat.dvd_add_left d1).mp d2
 obtain ⟨k,hk⟩:=Nat.dvd_trans TN hl
 refine ⟨k * c' * Le,kU we _,?_⟩
 have:=key k 0
 rw [Nat.zero_mod] at this
 rw [hk,RI e k,show k * e+k * c' * Le=0+k * c' * Le+k * e by omega]
 exact this
theorem qB {net:List (List Int)} {n:Nat} (O:aL net n):∃c k,1<=c/\c<=net.length/\k∈ah net/\b7 net n c k k :=by
 have hn:0<n :=by rcases O.wid with h|h <;> omega
 have ex:∀L,∃q,b7 net n L 0 q:=fun L=>by
  induction L with
  |zero=>exact ⟨0,.nil 0⟩
  |succ L ih=>obtain ⟨q,w⟩:=ih;exact ⟨_,w.snoc hn⟩
 obtain ⟨q,w⟩:=ex net.length
 obtain ⟨f,h0,hL,hf⟩:=rq w
 have hp:∀i,i<=net.length->f i∈ah net:=fun i hi=>by
  have:=hf 0 i (qr _) hi
  rw [h0] at this
  exact kT O (fh O) this
 obtain ⟨i,j,oi,hj,e⟩:=CA (net:=net) f hp
 have w1:=hf i j (by omega) hj
 rw [<- e] at w1
 exact ⟨j - i,f i,by omega,by omega,hp i (by omega),w1⟩
theorem Ez {net:List (List Int)} {n c:Nat} (hc:1<=c) {k0:Int} (w:b7 net n c k0 k0) (j:Nat):∃k,b7 net n j k0 k/\b7 net n c k k :=by
 obtain ⟨f,h0,hL,hf⟩:=rq w
 have hi:=Vl j (show 0<c by omega)
 have w1:=hf 0 (j % c) (qr _) (by omega)
 have w2:=hf (j % c) c (by omega) (cb _)
 rw [h0] at w1
 rw [hL] at w2
 refine ⟨f (j % c),?_,?_⟩
 ·have:=(kU w (j / c)).app w1
  rw [show j / c * c+(j % c - 0)=j by have:=Nat.div_add_mod j c;rw [RI] at this;omega] at this
  exact this
 ·have:=w2.app w1
  rw [show c - j % c+(j % c - 0)=c by omega] at this
  exact this
theorem vW {net:List (List Int)} {n g L:Nat} (O:aL net n) (W:dP net n) (h:nq net n g) (hL:81<=L) {s q:Int} (hs:s∈ah net) (hq:q∈ah net):b7 net n L s q ↔ (g:Int) ∣ (bh net n s:Int)+L - bh net n q :=by
 refine ⟨jG O h.dv hs,fun hd=>?_⟩
 have h9:=O.nine
 have h1:=O.one
 obtain ⟨c,k0,c1,c9,LQ,wc⟩:=qB O
 have TQ:c * (net.length - 1)<=9 * 8:=Nat.mul_le_mul (by omega) (by omega)
 rw [RI] at TQ
 obtain ⟨a,ha,wa⟩:=CB O hs (W s hs k0 LQ)
 obtain ⟨r,hr⟩:∃r,L=r+(net.length - 1) * c:=⟨L - (net.length - 1) * c,by omega⟩
 obtain ⟨k,wk,Pz⟩:=Ez c1 wc (r - a)
 have w1:=wa.app wk
 rw [show a+(r - a)=r by omega] at w1
 have hk:=kT O hs w1
 obtain ⟨l0,wl⟩:=i7 (W k hk q hq)
 have dc:=jG O h.dv hk Pz
 rw [show (bh net n k:Int)+c - bh net n k=(c:Int) by omega] at dc
 have d1:=jG O h.dv hs w1
 have d2:=jG O h.dv hk wl
 have dl:(g:Int) ∣ (l0:Int) :=by
  obtain ⟨u,hu⟩:=hd
  obtain ⟨v,hv⟩:=dc
  obtain ⟨y,hy⟩:=d1
  obtain ⟨z,hz⟩:=d2
  refine ⟨z+y - u+v * ((net.length - 1:Nat):Int),?_⟩
  have e:(g:Int) * (v * ((net.length - 1:Nat):Int))=(((net.length - 1) * c:Nat):Int) :=by
   rw [<- Int.mul_assoc,<- hv,Wk,Int.mul_comm]
  rw [Int.mul_add,Int.mul_sub,Int.mul_add,e,<- hu,<- hy,<- hz,hr]
  omega
 obtain ⟨R,wR,mR⟩:=Ew (c:=c) O W h (by omega) hk (OK.mp dl)
 have w2:=wR.app wl
 obtain ⟨t,ht⟩:=Nat.dvd_of_mod_eq_zero mR
 rw [show R+l0=t * c by rw [RI,<- ht];omega] at w2
 obtain ⟨t',UH,w3⟩:=sY O t t (cb _) k q hk w2
 have w4:=(w1.app (kU Pz (net.length - 1 - t'))).app w3
 rw [show r+(net.length - 1 - t') * c+t' * c=L by
  rw [Nat.add_assoc,<- Wl,show net.length - 1 - t'+t'=net.length - 1 by omega,<- hr]] at w4
 exact w4
end
section
variable {P:c8} {w:ff} {K:ba} {mg:bi->Option al} {base:gc} {tb:b5}
theorem gV:aK ["_law_net_here","_law_places","_law_found","_law_place"] ["_law_net_here","_law_places"] (aj fH):=⟨rfl,rfl,rfl,by decide +kernel,rfl,by decide +kernel,by decide +kernel⟩
theorem cS:aK ["_law_net_here","_law_many","_law_numbers","_law_start","_law_layer","_law_length","_law_due"] ["_law_net_here","_law_many","_law_numbers"] (aj dJ):=⟨rfl,rfl,rfl,by decide +kernel,rfl,by decide +kernel,by decide +kernel⟩
theorem gK:aK ["_law_bag_here","_law_net_here","_law_most","_law_word_here","_law_k"] ["_law_bag_here","_law_net_here","_law_most"] (aj g8):=⟨rfl,rfl,rfl,by decide +kernel,rfl,by decide +kernel,by decide +kernel⟩
theorem EA {net:List (List Int)} {n L:Nat} {s q:Int}:b7 net n (L+1) s q ↔ ∃p,b7 net n L s p/\∃a,a<n/\bD net p a=q :=by
 constructor
 ·intro h
  cases h with
  |snoc h ha=>exact ⟨_,h,_,ha,rfl⟩
 ·rintro ⟨p,w,a,ha,rfl⟩
  exact w.snoc ha
theorem CD {d:Dv} {t:Dt} {M:Mh} {Q:ZK} (h:cj (now M d)=some t) (hp:iH t<=60) (q:Q (.bl false) M):vg true d d M Q :=by
 unfold vg
 rw [h]
 refine ⟨hp,?_⟩
 rw [k7]
 exact q
theorem dw.app {n:Nat} {y z:bi} (hy:dw n y) (hz:dw n z):dw n (y++z):=fun c hc=>by
 rw [show (y++z).cps=y.cps++z.cps from rfl,SZ,zd] at hc
 exact hc.elim (hy c) (hz c)
theorem zy {n:Nat}:dw n "" := fun c hc=>by rw [show ("" : bi).cps.toList=[] from by decide +kernel] at hc;cases hc
theorem zz {n k:Nat} (h:k<n):dw n ⟨#[97+k]⟩:=fun c hc=>⟨k,h,by simpa using hc⟩
def CF:bV:=fun ds M Q _=>∃(b:ac) (net:List (List Int)) (n most:Nat),ds=[.ptr b,eN net,.int (most:Nat)]/\M b=some .cI/\aL net n/\most<=100/\∀z:bi,z.length<=most->dw n z->Q (.str z) M
theorem wY {f f1:ac} {fd bp:i0} (D:Df K mg "_law_word" g8 ["_law_bag_here","_law_net_here","_law_most"] f fd)
  (au:Df K mg "_law_take" dB ["_law_bag_here","_law_many"] f1 bp) (bu:FnOk P w K mg base bq 1 f1 bp ["_law_bag_here","_law_many"] (aR P w K tb qm)) (bl:Bl mg) :
  FnOk P w K mg base bq 2 f fd ["_law_bag_here","_law_net_here","_law_most"] (aR P w K tb CF) :=by
 refine fu D gK (fun ds M Q E hS=>by obtain ⟨b,net,n,most,e,_⟩:=hS;rw [e];rfl) fun A outer s E Γ ds Q' E' hP hw hK ht hr hS=>?_
 obtain ⟨b,net,n,most,e,hb,o,hm,q⟩:=hS
 refine ⟨_,(ai (aJ (i:=3) gK.nd rfl (l8 rfl) jq)
  (ai (cA rb rfl (bw rfl bl.range_ (aa (aF bu (hr.mono (by decide)) rfl au.mg au.fn.kp au.bd bH hP hw hK ht XR.none (aa (qv 0) (aa (aP eQ (qv 2) ax) ae))) ae)) (fun iu eP ew eK et=>by have hP:=hP.trans eP.symm;have hw:=hw.trans ew.symm;have hK:=hK.trans eK.symm;have ht:=ht.trans et.symm;exact ⟨(aO (i:=4) gK.nd rfl (l8 rfl)),(aq (aJ (i:=3) gK.nd rfl (l8 rfl) (aP sx (qv 3) (bf (bU (K:=K) rfl) jq (aF bu (hr.mono (by decide)) rfl au.mg au.fn.kp au.bd bH hP hw hK ht XR.none (aa (qv 0) (aa (aD (cy (K:=K) rfl hK) rfl bl.len_ on (aa (bf (bU (K:=K) rfl) (qv 1) ax (fun _ _=>rfl)) ae)) ae))) (fun _ _=>rfl)))))⟩))
  (aq (aY (qv 3))))),?_⟩
 subst e
 obtain ⟨r,h0,hl⟩:=ye o
 have big:(200:Nat)<sizeLine :=by decide
 simp! only []
 refine ⟨b,(most:Int)+1,rfl,hb,by omega,by omega,fun d hd=>?_⟩
 refine ⟨by omega,by omega,?_⟩
 simp! only []
 refine bz (fun i ρ M=>(∃x z,ρ=[some (.ptr b),some (eN net),some (.int (most:Nat)),some (.str z),x]/\z.length<=i/\dw n z)/\M=Γ.M0) ⟨⟨_,"",rfl,cb _,zy⟩,rfl⟩ (fun i d ρ M N hd ⟨⟨x,z,e,hz,hW⟩,eM⟩ hN=>?_) (fun ρ M ⟨⟨x,z,e,hz,hW⟩,eM⟩=>?_)
 ·subst e eM
  obtain ⟨rfl,hi⟩:=bA hd
  have Lp:=o.wid
  simp! only [h0,hl,eN,eI]
  refine ⟨b,n,rfl,hb,by omega,by omega,fun k hk=>?_⟩
  simp! only [xY (show k<3 by omega)]
  refine ⟨by decide,?_,hN _ _ ⟨⟨_,_,rfl,?_,hW.app (zz (by omega))⟩,rfl⟩⟩
  ·show z.length+1<=sizeLine
   omega
  ·rw [lC];show z.length+1<=i+1;omega
 ·subst e eM
  rw [rangeD_len] at hz
  exact .inl (q z (by omega) hW)
def LR (net:List (List Int)) (n:Nat) (ns r:List Int):Prop:=r.length<=9/\(∀x∈r,x∈ah net)/\∀q,q∈r ↔ ∃p∈ns,∃a,a<n/\bD net p a=q
theorem tF {f:ac} {fd:i0} (D:Df K mg "_law_behind" fH ["_law_net_here","_law_places"] f fd) (bl:Bl mg) :
  FnOk P w K mg base bq 1 f fd ["_law_net_here","_law_places"] (aR P w K tb fun ds M Q _=>∃net n ns,ds=[eN net,.lst (ns.map .int)]/\aL net n/\ns.length<=9/\(∀x∈ns,x∈ah net)/\∀r,LR net n ns r->r.Nodup->r.Pairwise (·<=·)->Q (.lst (r.map .int)) M) :=by
 refine fu D gV (fun ds M Q E hS=>by obtain ⟨net,n,ns,e,_⟩:=hS;rw [e];rfl) fun A outer s E Γ ds Q' E' hP hw hK ht hr hS=>?_
 obtain ⟨net,n,ns,e,O,hl,hp,q⟩:=hS
 refine ⟨_,(ai (aJ (i:=2) gV.nd rfl (l8 rfl) (iW ae))
  (ai (cA rb rfl (qP (K:=K) rfl (qv 1)) (fun iu eP ew eK et=>by have hP:=hP.trans eP.symm;have hw:=hw.trans ew.symm;have hK:=hK.trans eK.symm;have ht:=ht.trans et.symm;exact ⟨(aO (i:=3) gV.nd rfl (l8 rfl)),(aq (dI (j0 (K:=K) rfl Cf PySem.F.slot_list_extend PySem.F.type_list_extend B1 (qv 2) (aa (bf (bU (K:=K) rfl) (qv 0) (qv 3) (fun _ _=>rfl)) ae))))⟩))
  (aq (aY (aD (D1 hP hw (K:=K) rfl rfl) rfl bl.sorted_ sg (aa (mU (Ny hP hw (K:=K) rfl rfl) rfl bl.set_ JZ (aa (qv 2) ae)) ae)))))),?_⟩
 subst e
 have h9:=O.nine
 have big:(1000:Nat)<sizeLine :=by decide
 simp! only []
 have Lp:=O.wid
 have LU:∀p∈ah net,(net.getD p.toNat []).length=n:=fun p hp=>by
  obtain ⟨h1,h2⟩:=bg.mp hp
  rw [getD_at (by omega)]
  exact (O.row _ (mf _)).1
 have PD:∀l:List Int,(∀x∈l,x∈ah net)->(l.flatMap fun p=>net.getD p.toNat []).length<=3 * l.length:=fun l=>by
  induction l with
  |nil=>intro _;simp
  |cons p l ih=>
   intro h
   have h1:=LU p (h p jp)
   have h2:=ih fun x hx=>h x (gl _ hx)
   rw [List.flatMap_cons,tz,Fa]
   omega
 refine ⟨qr _,fun a ha=>?_⟩
 refine bz (fun k ρ M=>(∃x,ρ=[some (eN net),some (.lst (ns.map .int)),some (.ptr a),x])/\M=az Γ.M0 a (.lst (((ns.take k).flatMap fun p=>net.getD p.toNat []).map .int))/\k<=ns.length) ⟨⟨_,rfl⟩,rfl,qr _⟩ (fun k d ρ M N hd hJ hN=>?_) (fun ρ M hJ=>?_)
 ·obtain ⟨⟨x,rfl⟩,rfl,hk⟩:=hJ
  rw [ca] at hd
  obtain ⟨p,iJ,rfl⟩:=li.mp hd
  have vX:=hp p (ii iJ)
  have bb:=(bv.mp iJ).1
  have hf:=PD (ns.take k) fun x hx=>hp x (List.mem_of_mem_take hx)
  have Lx:=List.length_take_le k ns
  have UI:=LU p vX
  simp! only [vG vX]
  show _<=sizeLine/\_
  refine ⟨by omega,hN _ _ ⟨⟨_,rfl⟩,?_,bb⟩⟩
  rw [List.take_succ,iJ,List.flatMap_append,wT]
  simp only [Option.toList_some,List.flatMap_cons,List.flatMap_nil,Cs]
 ·obtain ⟨⟨x,rfl⟩,rfl,hk⟩:=hJ
  rw [ci,U3]
  simp! only []
  have hf:=PD ns hp
  rw [V8,mV]
  generalize el:(ns.flatMap fun p=>net.getD p.toNat [])=L at hf
  have mem:∀q,q∈sortI (cV L) ↔ ∃p∈ns,∃a,a<n/\bD net p a=q:=fun q=>by
   rw [(sortI_perm _).mem_iff,DB,<- el,List.mem_flatMap]
   constructor
   ·rintro ⟨p,oC,hq⟩
    obtain ⟨h1,h2⟩:=bg.mp (hp p oC)
    obtain ⟨i,rfl⟩:=xp h1
    rw [ss] at hq
    obtain ⟨a,ha,e⟩:=(Ck O (by omega)).mp hq
    exact ⟨_,oC,a,ha,e⟩
   ·rintro ⟨p,oC,a,ha,e⟩
    obtain ⟨h1,h2⟩:=bg.mp (hp p oC)
    obtain ⟨i,rfl⟩:=xp h1
    exact ⟨_,oC,by rw [ss];exact (Ck O (by omega)).mpr ⟨a,ha,e⟩⟩
  have sub:∀x∈sortI (cV L),x∈ah net:=fun x hx=>by
   obtain ⟨p,oC,a,ha,rfl⟩:=(mem x).mp hx
   exact d9 O (hp p oC) ha
  have nd:(sortI (cV L)).Nodup:=(sortI_perm _).nodup_iff.mpr (yH L)
  have Pw:=eF _ (ah net) nd sub
  rw [places_len] at Pw
  have hd:=uK L
  have sb:(1000:Nat)<scanBound :=by decide
  refine ⟨by omega,by omega,.inr ⟨Keeps.upd ha Keeps.refl,_,.pin (.lst fun d hd=>?_),q _ ⟨by omega,sub,mem⟩ nd (uQ _)⟩⟩
  obtain ⟨x,_,rfl⟩:=sw.mp hd
  exact .int x
def Hv:bV:=fun ds M Q _=>∃net n ns,ds=[eN net,.lst (ns.map .int)]/\aL net n/\ns.length<=9/\(∀x∈ns,x∈ah net)/\∀r,LR net n ns r->r.Nodup->r.Pairwise (·<=·)->Q (.lst (r.map .int)) M
theorem CG {net:List (List Int)} {n g:Nat} (O:aL net n) (h:nq net n g):g<=9 :=by
 obtain ⟨c,k0,c1,c9,LQ,wc⟩:=qB O
 have:=jG O h.dv LQ wc
 rw [show (bh net n k0:Int)+c - bh net n k0=(c:Int) by omega] at this
 have:=Nat.le_of_dvd (by omega) (OK.mp this)
 have:=O.nine
 omega
theorem LV {g:Nat} {a b L:Int}:((a % g+L - b % g) % g=0) ↔ (g:Int) ∣ a+L - b :=by
 rw [<- Int.dvd_iff_emod_eq_zero]
 have e:a % g+L - b % g=(a+L - b) - g * (a / g - b / g) :=by
  have h1:=Int.emod_add_mul_ediv a g
  have h2:=Int.emod_add_mul_ediv b g
  rw [Int.mul_sub]
  omega
 rw [e]
 constructor
 ·intro h
  have:=Int.dvd_add h (Int.dvd_mul_right (g:Int) (a / g - b / g))
  rwa [Int.sub_add_cancel] at this
 ·exact fun h=>Int.dvd_sub h (Int.dvd_mul_right _ _)
theorem CH {net:List (List Int)} {r:List Int} {p:Int->Bool} (nd:r.Nodup) (pw:r.Pairwise (·<=·)) (h:∀q,q∈r ↔ q∈ah net/\p q=true):r=(ah net).filter p:=
 sorted_uniq ((List.perm_ext_iff_of_nodup nd (nh.filter _)).mpr fun q=>by rw [h q,EN]) pw (sT.filter _)
def F5:bV:=fun ds M Q _=>∃net n g,ds=[eN net,.int (g:Nat),.tup ((hV net n g).map Dv.int)]/\aL net n/\dP net n/\nq net n g/\Q (.bl true) M
theorem nY {net:List (List Int)} {n g:Nat} {p:Int} (hp:p∈ah net):cf ((hV net n g).map Dv.int) p=some (.int ((bh net n p:Int) % g)) :=by
 obtain ⟨g1,g2⟩:=bg.mp hp
 obtain ⟨i,rfl⟩:=xp g1
 refine ck ?_
 unfold hV ah
 rw [BN,ca,ca,AE (by omega)]
 rfl
theorem rC {f f1:ac} {fd bp:i0} (D:Df K mg "_law_lengths" dJ ["_law_net_here","_law_many","_law_numbers"] f fd)
  (dr:Df K mg "_law_behind" fH ["_law_net_here","_law_places"] f1 bp) (tG:FnOk P w K mg base bq 1 f1 bp ["_law_net_here","_law_places"] (aR P w K tb Hv)) (bl:Bl mg) :
  FnOk P w K mg base bq 2 f fd ["_law_net_here","_law_many","_law_numbers"] (aR P w K tb F5) :=by
 refine fu D cS (fun ds M Q E hS=>by obtain ⟨net,n,g,e,_⟩:=hS;rw [e];rfl) fun A outer s E Γ ds Q' E' hP hw hK ht hr hS=>?_
 obtain ⟨net,n,g,e,O,W,hg,q⟩:=hS
 refine ⟨_,(ai (cA rb rfl (bw rfl bl.range_ (aa (aD (cy (K:=K) rfl hK) rfl bl.len_ on (aa (qv 0) ae)) ae)) (fun iu eP ew eK et=>by have hP:=hP.trans eP.symm;have hw:=hw.trans ew.symm;have hK:=hK.trans eK.symm;have ht:=ht.trans et.symm;exact ⟨(aO (i:=3) cS.nd rfl (ES rfl)),(ai (aJ (i:=4) cS.nd rfl (l8 rfl) (Be (aa (qv 3) ae)))
  (aq (cA rb rfl (Bk rfl bl.range_ (aa ax (aa (aP eQ ax (aP jY ax (qv 1))) ae))) (fun iu eP ew eK et=>by have hP:=hP.trans eP.symm;have hw:=hw.trans ew.symm;have hK:=hK.trans eK.symm;have ht:=ht.trans et.symm;exact ⟨(aO (i:=5) cS.nd rfl (ES rfl)),(ai (aJ (i:=4) cS.nd rfl (l8 rfl) (aF tG (hr.mono (by decide)) rfl dr.mg dr.fn.kp dr.bd bH hP hw hK ht XR.none (aa (qv 0) (aa (qv 4) ae))))
  (ai (iP (i:=6) cS.nd rfl rfl (N':=["_law_place","_law_many","_law_length","_law_numbers","_law_start"]) (tn:=1) (idx:=[1,5,2,3]) rfl (show aW ["_law_net_here","_law_many","_law_numbers","_law_start","_law_layer","_law_length","_law_due"] (aj dJ) _ ["_law_place","_law_many","_law_length","_law_numbers","_law_start"] 1 [1,5,2,3] from by decide +kernel) (bw rfl bl.range_ (aa (aD (cy (K:=K) rfl hK) rfl bl.len_ on (aa (qv 0) ae)) ae)) (fun _ _ _ _ _=>(aO (i:=0) (show IS [("_law_place" : bi),("_law_many" : bi),("_law_length" : bi),("_law_numbers" : bi),("_law_start" : bi)] from by decide +kernel) rfl (l8 rfl))) (fun _ _ _ _ _=>(qQ (bR qR (aP fG (aP tS (aP eQ (bf (bU (K:=K) rfl) (qv 3) (qv 4) (fun _ _=>rfl)) (qv 2)) (bf (bU (K:=K) rfl) (qv 3) (qv 0) (fun _ _=>rfl))) (qv 1)) ax (cz _)))) (fun _ _ _ _ _=>(qv 0)))
  (aq (cP (QW.pt (Ba (bR ve (qv 5) ax (cz _)) (xI (bR (Nw hr.units) (qv 4) (qv 6) (cz _)))))
   (aq (aY gY))
   qss_nil))))⟩))))⟩))
  (aq (aY gY))),?_⟩
 subst e
 have h9:=O.nine
 have big:(1000:Nat)<sizeLine :=by decide
 have gp:=rB O W hg
 have g9:=CG O hg
 simp! only []
 refine ⟨by omega,by omega,?_⟩
 refine bz (fun k ρ M=>(∃x3 x4 x5 x6,ρ=[some (eN net),some (.int (g:Nat)),some (.tup ((hV net n g).map Dv.int)),x3,x4,x5,x6])/\M=Γ.M0) ⟨⟨_,_,_,_,rfl⟩,rfl⟩ (fun k d ρ M N hd hJ hN=>?_) (fun ρ M hJ=>?_)
 ·obtain ⟨⟨x3,x4,x5,x6,rfl⟩,rfl⟩:=hJ
  obtain ⟨rfl,qz⟩:=bA hd
  have iJ:=gI (net:=net) qz
  simp! only []
  refine ⟨by decide,.inl (by decide),by omega,?_⟩
  refine bz (fun l ρ M=>(∃r x5 x6,ρ=[some (eN net),some (.int (g:Nat)),some (.tup ((hV net n g).map Dv.int)),some (.int (k:Nat)),some (.lst (r.map Dv.int)),x5,x6]/\r.length<=9/\(∀x∈r,x∈ah net)/\∀q,q∈r ↔ b7 net n l (k:Int) q)/\M=Γ.M0) ⟨⟨[(k:Int)],_,_,rfl,by simp,fun x hx=>by rw [kw.mp hx];exact iJ,fun q=>?_⟩,rfl⟩ (fun l d ρ M N2 hd hJ kQ=>?_) (fun ρ M hJ=>?_)
  ·rw [kw]
   constructor
   ·rintro rfl;exact .nil _
   ·intro h;cases h;rfl
  ·obtain ⟨⟨r,x5,x6,rfl,PF,PH,LW⟩,rfl⟩:=hJ
   obtain ⟨rfl,gN⟩:=bA hd
   simp! only []
   refine ⟨net,n,r,rfl,O,PF,PH,fun r2 Cz TR TU=>?_⟩
   have PJ:∀q,q∈r2 ↔ b7 net n (l+1) (k:Int) q:=fun q=>by
    rw [Cz.2.2 q,EA]
    constructor
    ·rintro ⟨p,hp,h⟩;exact ⟨p,(LW p).mp hp,h⟩
    ·rintro ⟨p,hp,h⟩;exact ⟨p,(LW p).mpr hp,h⟩
   simp! only []
   have e2:=nY (n:=n) (g:=g) iJ
   refine ⟨by omega,by omega,by omega,lu (fun d=>match d with | .int p=>decide (((bh net n (k:Int):Int) % g+((1:Int)+(l:Nat)) - (bh net n p:Int) % g) % g=0)|_=>false) (fun d hd R hR=>?_) ?_⟩
   ·obtain ⟨j,hj⟩:=mo.mp hd
    obtain ⟨rfl,yb⟩:=bA hj
    have JI:=gI (net:=net) yb
    simp! only [e2,nY JI] at hR ⊢
    exact ⟨by omega,hR⟩
   ·have fin:∀d:Dv,N2 [some (eN net),some (.int (g:Nat)),some (.tup ((hV net n g).map Dv.int)),some (.int (k:Nat)),some (.lst (r2.map Dv.int)),some (.int ((1:Int)+(l:Nat))),some d] Γ.M0:=fun d=>kQ _ _ ⟨⟨r2,_,_,rfl,Cz.1,Cz.2.1,PJ⟩,rfl⟩
    refine eE (fun h=>?_) (fun h=>fin _)
    have h:=of_decide_eq_true h
    have er:r2=(ah net).filter fun p=>decide (((bh net n (k:Int):Int) % g+((1:Int)+(l:Nat)) - (bh net n p:Int) % g) % g=0):=CH TR TU fun q=>by
     rw [PJ q,decide_eq_true_eq,LV]
     constructor
     ·intro w
      have hq:=kT O iJ w
      have:=(vW O W hg (by omega) iJ hq).mp w
      rw [show ((l+1:Nat):Int)=1+(l:Int) by omega] at this
      exact ⟨hq,this⟩
     ·rintro ⟨hq,hd⟩
      refine (vW O W hg (by omega) iJ hq).mpr ?_
      rw [show ((l+1:Nat):Int)=1+(l:Int) by omega]
      exact hd
    have eD:(bT 0 net.length).filter (fun d=>match d with | .int p=>decide (((bh net n (k:Int):Int) % g+((1:Int)+(l:Nat)) - (bh net n p:Int) % g) % g=0)|_=>false)=r2.map Dv.int :=by
     have TV:bT 0 net.length=(ah net).map Dv.int :=by
      unfold bT ah
      rw [BN]
      refine List.map_congr_left fun i _=>?_
      show Dv.int (0+(i:Int))=_
      rw [Ll]
      rfl
     rw [er,TV,List.filter_map]
     rfl
    rw [eD]
    refine CD (t:=.lst (r2.map Dt.int)) (by simp only [now,cj,vj,ON]) (by rw [iH];have:=Ha r2;omega) ?_
    exact fin _
  ·obtain ⟨⟨r,x5,x6,rfl,PF,PH,LW⟩,rfl⟩:=hJ
   exact hN _ _ ⟨⟨_,_,_,_,rfl⟩,rfl⟩
 ·obtain ⟨⟨x3,x4,x5,x6,rfl⟩,rfl⟩:=hJ
  exact .inl q
end
section
variable {P:c8} {w:ff} {K:ba} {mg:bi->Option al} {base:gc} {tb:b5} {C_NoNet C_NoPlace:ac}
theorem LX:aK ["net","place","word"] ["net","place","word"] (aj tU):=⟨rfl,rfl,rfl,by decide +kernel,rfl,by decide +kernel,by decide +kernel⟩
def LY:bV:=fun ds M Q _=>∃net n p z,ds=[eN net,.int p,.str z]/\aL net n/\p∈ah net/\dw n z/\z.length<=2000/\Q (.int (gJ net p z.cps.toList)) M
theorem LZ {f f1 f2 f3 f4:ac} {fd bp fd2 ng CI:i0} (D:Df K mg "led" tU ["net","place","word"] f fd)
  (bj:Df K mg "need_net" fc ["thing"] f1 bp) (cW:FnOk P w K mg base (cH P w) 7 f1 bp ["thing"] (aR P w K tb (tV C_NoNet)))
  (dS:Df K mg "need_place" gB ["net","thing"] f2 fd2) (jK:FnOk P w K mg base (cH P w) 4 f2 fd2 ["net","thing"] (aR P w K tb (qu C_NoPlace)))
  (eJ:Df K mg "need_word" g6 ["net","thing"] f3 ng) (kh:FnOk P w K mg base (cH P w) 10 f3 ng ["net","thing"] (aR P w K tb sW))
  (gW:Df K mg "end_of" lF ["net","place","word"] f4 CI) (o5:FnOk P w K mg base bq 1 f4 CI ["net","place","word"] (aR P w K tb zEnd)) :
  FnOk P w K mg base (cH P w) 11 f fd ["net","place","word"] (aR P w K tb LY) :=by
 refine gZ D LX (fun ds M Q E hS=>by obtain ⟨net,n,p,z,e,_⟩:=hS;rw [e];rfl) fun A outer s0 E Γ ds Q' E' hP hw hK ht hE hr hS=>?_
 obtain ⟨net,n,p,z,e,O,hp,hW,hz,q⟩:=hS
 refine ⟨_,(ai (dI (aF cW (hr.mono (by decide)) rfl bj.mg bj.fn.kp bj.bd gX hP hw hK ht hE (aa (qv 0) ae)))
  (ai (dI (aF jK (hr.mono (by decide)) rfl dS.mg dS.fn.kp dS.bd gX hP hw hK ht hE (aa (qv 0) (aa (qv 1) ae))))
  (ai (dI (aF kh (hr.mono (by decide)) rfl eJ.mg eJ.fn.kp eJ.bd gX hP hw hK ht hE (aa (qv 0) (aa (qv 2) ae))))
  (aq (aY (aF o5 (hr.mono (by decide)) rfl gW.mg gW.fn.kp gW.bd bH hP hw hK ht XR.none (aa (qv 0) (aa (qv 1) (aa (qv 2) ae))))))))),?_⟩
 subst e
 obtain ⟨p1,p2⟩:=bg.mp hp
 have hb:di (net.length:Int) (.int p)=true :=by simp [di,p1,p2]
 refine ⟨_,rfl,rl net,fun _=>?_,fun h=>by rw [rj O] at h;cases h⟩
 refine ⟨net,_,rfl,rfl,fun _=>?_,fun h1=>by rw [hb] at h1;cases h1⟩
 refine ⟨net,n,z,rfl,O,hW,hz,?_⟩
 exact ⟨net,n,p,z,rfl,O,p1,p2,hW,.inl q⟩
theorem EB {net:List (List Int)} {n:Nat} {z:bi} (h:dw n z) {p:Int}:b7 net n z.length p (gJ net p z.cps.toList) :=by
 have g:∀(cs:List Nat),(∀c∈cs,∃k:Nat,k<n/\c=97+k)->∀i,i<=cs.length->b7 net n i p (gJ net p (cs.take i)):=fun cs hc i=>by
  induction i with
  |zero=>intro _;exact .nil p
  |succ i ih=>
   intro hi
   have TX:=ag (show i<cs.length by omega)
   obtain ⟨k,hk,e⟩:=hc cs[i] (mf _)
   rw [sX TX,e]
   have:=(ih (by omega)).snoc hk
   have es:stepI net (gJ net p (cs.take i)) (97+k)=bD net (gJ net p (cs.take i)) k :=by
    unfold stepI bD
    rw [show 97+k - 97=k by omega]
   rw [es]
   exact this
 have:=g z.cps.toList h z.cps.toList.length (cb _)
 rw [U3,mT] at this
 exact this
end
section
variable {P:c8} {w:ff} {K:ba} {mg:bi->Option al} {base:gc} {tb:b5} {C_NoWhole:ac}
theorem gL:aK ["_law_script","_law_k","_law_bag_here","_law_net_here","_law_many","_law_numbers","_law_j","_law_place","_law_word_here"] ["_law_script"] (aj zh):=⟨rfl,rfl,rfl,by decide +kernel,rfl,by decide +kernel,by decide +kernel⟩
theorem L0 {f f1 f2 f3 f4 f5 f6 f7 f8:ac} {fd bp fd2 ng CI PK PL PN PQ:i0} (D:Df K mg "law" zh ["_law_script"] f fd)
  (fj:Df K mg "_law_bag" iT ["_law_script","_law_at"] f1 bp) (zA:FnOk P w K mg base bq 1 f1 bp ["_law_script","_law_at"] (aR P w K tb Lq))
  (fk:Df K mg "_law_net" d8 ["_law_bag_here","_law_most"] f2 fd2) (zB:FnOk P w K mg base bq 3 f2 fd2 ["_law_bag_here","_law_most"] (aR P w K tb FU))
  (au:Df K mg "_law_take" dB ["_law_bag_here","_law_many"] f3 ng) (bu:FnOk P w K mg base bq 1 f3 ng ["_law_bag_here","_law_many"] (aR P w K tb qm))
  (eL:Df K mg "_law_word" g8 ["_law_bag_here","_law_net_here","_law_most"] f4 CI) (wZ:FnOk P w K mg base bq 2 f4 CI ["_law_bag_here","_law_net_here","_law_most"] (aR P w K tb CF))
  (a7:Df K mg "hangs_together" dg ["net"] f5 PK) (fV:FnOk P w K mg base (cH P w) 10 f5 PK ["net"] (aR P w K tb vR))
  (jL:Df K mg "beat" kP ["net"] f6 PL) (vY:FnOk P w K mg base (cH P w) 12 f6 PL ["net"] (aR P w K tb (F2 C_NoWhole)))
  (nZ:Df K mg "led" tU ["net","place","word"] f7 PN) (zD:FnOk P w K mg base (cH P w) 11 f7 PN ["net","place","word"] (aR P w K tb LY))
  (da:Df K mg "_law_lengths" dJ ["_law_net_here","_law_many","_law_numbers"] f8 PQ) (rD:FnOk P w K mg base bq 2 f8 PQ ["_law_net_here","_law_many","_law_numbers"] (aR P w K tb F5)) (bl:Bl mg) :
  FnOk P w K mg base bq 13 f fd ["_law_script"] (aR P w K tb KC) :=by
 refine fu D gL (fun ds M Q E hS=>by obtain ⟨ns,e,_⟩:=hS;rw [e];rfl) fun A outer s E Γ ds Q' E' hP hw hK ht hr hS=>?_
 obtain ⟨ns,e,hl,hM,q⟩:=hS
 refine ⟨_,(ai (cA rb rfl (bw rfl bl.range_ (aa (aD (Kv rfl) rfl bl.max_ JD (aa ax (aa (aD (vh rfl) rfl bl.min_ pK (aa ax (aa (aD (cy (K:=K) rfl hK) rfl bl.len_ on (aa (qv 0) ae)) ae))) ae))) ae)) (fun iu eP ew eK et=>by have hP:=hP.trans eP.symm;have hw:=hw.trans ew.symm;have hK:=hK.trans eK.symm;have ht:=ht.trans et.symm;exact ⟨(aO (i:=1) gL.nd rfl (l8 rfl)),(ai (aJ (i:=2) gL.nd rfl (l8 rfl) (aF zA (hr.mono (by decide)) rfl fj.mg fj.fn.kp fj.bd bH hP hw hK ht XR.none (aa (qv 0) (aa (qv 1) ae))))
  (ai (aJ (i:=3) gL.nd rfl (l8 rfl) (aF zB (hr.mono (by decide)) rfl fk.mg fk.fn.kp fk.bd bH hP hw hK ht XR.none (aa (qv 2) (aa ax ae))))
  (aq (cP (fD (aF fV (hr.mono (by decide)) rfl a7.mg a7.fn.kp a7.bd yS hP hw hK ht XR.none (aa (qv 3) ae)))
   (ai (kM (aF vY (hr.mono (by decide)) rfl jL.mg jL.fn.kp jL.bd yS hP hw hK ht XR.none (aa (qv 3) ae)) (Bf (n:=2) rfl (la (aO (i:=4) gL.nd rfl (l8 rfl)) (la (aO (i:=5) gL.nd rfl (l8 rfl)) xJ))))
  (ai (cP (gu (fD (aF rD (hr.mono (by decide)) rfl da.mg da.fn.kp da.bd bH hP hw hK ht XR.none (aa (qv 3) (aa (qv 4) (aa (qv 5) ae))))))
   (aq (aY gY))
   qss_nil)
  (aq (cA rb rfl (bw rfl bl.range_ (aa ax ae)) (fun iu eP ew eK et=>by have hP:=hP.trans eP.symm;have hw:=hw.trans ew.symm;have hK:=hK.trans eK.symm;have ht:=ht.trans et.symm;exact ⟨(aO (i:=6) gL.nd rfl (l8 rfl)),(ai (aJ (i:=7) gL.nd rfl (l8 rfl) (aF bu (hr.mono (by decide)) rfl au.mg au.fn.kp au.bd bH hP hw hK ht XR.none (aa (qv 2) (aa (aD (cy (K:=K) rfl hK) rfl bl.len_ on (aa (qv 3) ae)) ae))))
  (ai (aJ (i:=8) gL.nd rfl (l8 rfl) (aF wZ (hr.mono (by decide)) rfl eL.mg eL.fn.kp eL.bd bH hP hw hK ht XR.none (aa (qv 2) (aa (qv 3) (aa ax ae)))))
  (aq (cP (bR Kt (bf (bU (K:=K) rfl) (qv 5) (aF zD (hr.mono (by decide)) rfl nZ.mg nZ.fn.kp nZ.bd yS hP hw hK ht XR.none (aa (qv 3) (aa (qv 7) (aa (qv 8) ae)))) (fun _ _=>rfl)) (aP fG (aP eQ (bf (bU (K:=K) rfl) (qv 5) (qv 7) (fun _ _=>rfl)) (aD (cy (K:=K) rfl hK) rfl bl.len_ on (aa (qv 8) ae))) (qv 4)) (cz _))
   (aq (aY gY))
   qss_nil))))⟩)))))
   qss_nil))))⟩))
  (aq (aY gY))),?_⟩
 subst e
 simp! only []
 refine ⟨by split <;> split <;> omega,by split <;> split <;> omega,?_⟩
 refine bz (fun k ρ M=>∃x1 x2 x3 x4 x5 x6 x7 x8,ρ=[some (.bC ns),x1,x2,x3,x4,x5,x6,x7,x8]) ⟨_,_,_,_,_,_,_,_,rfl⟩ (fun k d ρ M N hd hJ hN=>?_) (fun ρ M _=>.inl (q _))
 obtain ⟨x1,x2,x3,x4,x5,x6,x7,x8,rfl⟩:=hJ
 obtain ⟨rfl,hk⟩:=bA hd
 have hk:k<=20 :=by split at hk <;> split at hk <;> omega
 have big:(1000:Nat)<sizeLine :=by decide
 simp! only []
 refine ⟨ns,_,rfl,hl,by omega,by omega,fun b hb=>?_⟩
 refine ⟨b,9,rfl,updM_same,by omega,by omega,fun net n O _=>?_⟩
 have h9:=O.nine
 have h1:=O.one
 have L1:az M b .cI b=some .cI:=updM_same
 generalize az M b .cI=M at L1
 simp! only []
 refine ⟨net,n,rfl,O,?_⟩
 simp! only []
 refine eE (fun h=>?_) (fun h=>hN _ _ ⟨_,_,_,_,_,_,_,_,rfl⟩)
 have W:=(jH O).mp (of_decide_eq_true h)
 refine ⟨net,n,rfl,O,fun _ g hg=>?_,fun z=>absurd W z⟩
 have gp:=rB O W hg
 simp! only []
 refine ⟨net,n,g,rfl,O,W,hg,?_⟩
 simp! only []
 refine ⟨by decide,by decide,?_⟩
 refine bz (fun j ρ M2=>(∃x6 x7 x8,ρ=[some (.bC ns),some (.int (k:Nat)),some (.ptr b),some (eN net),some (.int (g:Nat)),some (.tup ((hV net n g).map Dv.int)),x6,x7,x8])/\M2=M) ⟨⟨_,_,_,rfl⟩,rfl⟩ (fun j d ρ M2 N2 hd hJ kQ=>?_) (fun ρ M2 hJ=>?_)
 ·obtain ⟨⟨x6,x7,x8,rfl⟩,rfl⟩:=hJ
  obtain ⟨rfl,hj⟩:=bA hd
  simp! only []
  refine ⟨b,_,rfl,L1,by omega,by omega,fun p hp=>?_⟩
  have hp:p<net.length :=by omega
  have vX:=gI (net:=net) hp
  simp! only []
  refine ⟨b,net,n,30,rfl,L1,O,by omega,fun z hz hW=>?_⟩
  have wl:=EB (net:=net) (p:=(p:Int)) hW
  have hq:=kT O vX wl
  simp! only []
  refine ⟨net,n,_,z,rfl,O,vX,hW,by omega,?_⟩
  simp! only [nY hq,nY vX]
  have dv:=jG O hg.dv vX wl
  obtain ⟨u,hu⟩:=dv
  have em:(bh net n (gJ net (p:Int) z.cps.toList):Int) % g=((bh net n (p:Int):Int) % g+z.length) % g :=by
   rw [Int.emod_add_emod,show (bh net n (p:Int):Int)+z.length=(bh net n (gJ net (p:Int) z.cps.toList):Int)+g * u by omega,Int.add_mul_emod_self_left]
  refine ⟨by omega,by omega,?_⟩
  rw [em,if_neg (by simp)]
  exact kQ _ _ ⟨⟨_,_,_,rfl⟩,rfl⟩
 ·obtain ⟨⟨x6,x7,x8,rfl⟩,rfl⟩:=hJ
  exact hN _ _ ⟨_,_,_,_,_,_,_,_,rfl⟩
end
theorem all_mk {l:Wi} {w:ff} {K:ba} {h:gc} {mg:bi->Option al} {fa:ac} {tabs lts:List ac} {C_RoadError C_NoNet C_NoPlace C_NoWord C_NoWhole:ac} (X:K.In h) (G:h.Ns mainGlobals mg) (TY:mg "law" = some (.ref fa))
  (T:Cn (TabOf mg h) ["is_row","is_net","is_word","beat"] tabs) (U:Cn (TabOf mg h) ["first_words"] lts)
  (w5:lc K mainGlobals "RoadError" = some (some (.ref C_RoadError)))
  (Hw:lc K mainGlobals "NoNet" = some (some (.ref C_NoNet)))
  (CJ:lc K mainGlobals "NoPlace" = some (some (.ref C_NoPlace)))
  (EC:lc K mainGlobals "NoWord" = some (some (.ref C_NoWord)))
  (CK:lc K mainGlobals "NoWhole" = some (some (.ref C_NoWhole)))
  (eb:yT K C_RoadError [C_NoNet,C_NoPlace,C_NoWord,C_NoWhole]=true) (UJ:[C_NoNet,C_NoPlace,C_NoWord,C_NoWhole].Nodup)
  (zE:bI K "is_whole" d6)
  (o6:bI K "is_whole_below" cB)
  (o7:bI K "common_divisor" d7)
  (ED:bI K "is_row" jz)
  (EE:bI K "is_net" jA)
  (zF:bI K "need_net" fc)
  (zG:bI K "signs_of" iR)
  (zH:bI K "is_place" iS)
  (vZ:bI K "need_place" gB)
  (CL:bI K "is_word" ir)
  (w6:bI K "need_word" g6)
  (EF:bI K "end_of" lF)
  (NT:bI K "led" tU)
  (ki:∃tk,m4 K "first_met" g7 (.int 511 tk))
  (tH:bI K "first_words" aB)
  (Hx:bI K "parts" iY)
  (o8:bI K "hangs_together" dg)
  (v3:bI K "need_whole" gC)
  (L3:bI K "beat" kP)
  (zI:bI K "_law_bag" iT)
  (w9:bI K "_law_take" dB)
  (v7:bI K "_law_order" gD)
  (zJ:bI K "_law_net" d8)
  (xa:bI K "_law_word" g8)
  (tI:bI K "_law_behind" fH)
  (rE:bI K "_law_lengths" dJ)
  (NU:bI K "law" zh)
  (NV:lc K mainGlobals "len" = some none)
  (Hy:lc K mainGlobals "range" = some none)
  (NW:lc K mainGlobals "min" = some none)
  (NX:lc K mainGlobals "max" = some none)
  (NY:lc K mainGlobals "abs" = some none)
  (L4:lc K mainGlobals "list" = some none)
  (Hz:lc K mainGlobals "tuple" = some none)
  (NZ:lc K mainGlobals "int" = some none)
  (N0:lc K mainGlobals "str" = some none)
  (L5:lc K mainGlobals "bool" = some none)
  (v8:lc K mainGlobals "isinstance" = some none)
  (N1:lc K mainGlobals "all" = some none)
  (N4:lc K mainGlobals "set" = some none)
  (EG:lc K mainGlobals "sorted" = some none)
  (N5:lc K mainGlobals "zip" = some none)
  (xc:lc K mainGlobals "enumerate" = some none)
  (N6:lc K mainGlobals "sum" = some none)
  (zK:lc K mainGlobals "reversed" = some none)
  (EH:lc K mainGlobals "divmod" = some none)
  (N7:lc K mainGlobals "any" = some none)
  (wg:lc K mainGlobals "ValueError" = some none)
  (rF:∃tk,lc K mainGlobals "SIGNS" = some (some (.str "abc" tk)))
  (iD:∃tk,lc K mainGlobals "MOST_PLACES" = some (some (.int 9 tk)))
  (ee:∃tk,lc K mainGlobals "MOST_SIGNS_OF_WORD" = some (some (.int 2000 tk)))
  : ∃fd:i0,(∀(s:ar) (v:al),V2 s fd ⟨[v],[]⟩ [("_law_script",v)])/\∀base:gc,K.In base->base.Ns mainGlobals mg->(∃bm ob,UM base mainGlobals mg bm ob)->(∀c p,nw h c p->nw base c p)->FnOk l.prog w K mg base bq 13 fa fd ["_law_script"] (spLaw K ⟨tabs,lts.zip [qW]⟩) :=by
 obtain ⟨N8,Ml,bS⟩:=zE.df X G ["thing"] fun _ _ _ _ _ _ us hl=>match us,hl with | [_],_=>rfl
 obtain ⟨EI,CQ,aM⟩:=o6.df X G ["thing","many"] fun _ _ _ _ _ _ us hl=>match us,hl with | [_,_],_=>rfl
 obtain ⟨EJ,CT,cC⟩:=o7.df X G ["one","other"] fun _ _ _ _ _ _ us hl=>match us,hl with | [_,_],_=>rfl
 obtain ⟨Rf,PR,fS⟩:=ED.df X G ["thing","many","width"] fun _ _ _ _ _ _ us hl=>match us,hl with | [_,_,_],_=>rfl
 obtain ⟨Rg,PU,fT⟩:=EE.df X G ["thing"] fun _ _ _ _ _ _ us hl=>match us,hl with | [_],_=>rfl
 obtain ⟨N9,Mm,bj⟩:=zF.df X G ["thing"] fun _ _ _ _ _ _ us hl=>match us,hl with | [_],_=>rfl
 obtain ⟨Oa,Mp,fi⟩:=zG.df X G ["net"] fun _ _ _ _ _ _ us hl=>match us,hl with | [_],_=>rfl
 obtain ⟨Ob,Mq,fg⟩:=zH.df X G ["net","thing"] fun _ _ _ _ _ _ us hl=>match us,hl with | [_,_],_=>rfl
 obtain ⟨L6,HH,dS⟩:=vZ.df X G ["net","thing"] fun _ _ _ _ _ _ us hl=>match us,hl with | [_,_],_=>rfl
 obtain ⟨PV,Oc,eW⟩:=CL.df X G ["net","thing"] fun _ _ _ _ _ _ us hl=>match us,hl with | [_,_],_=>rfl
 obtain ⟨Mr,L7,eJ⟩:=w6.df X G ["net","thing"] fun _ _ _ _ _ _ us hl=>match us,hl with | [_,_],_=>rfl
 obtain ⟨Rh,PX,gW⟩:=EF.df X G ["net","place","word"] fun _ _ _ _ _ _ us hl=>match us,hl with | [_,_,_],_=>rfl
 obtain ⟨Ua,TZ,nZ⟩:=NT.df X G ["net","place","word"] fun _ _ _ _ _ _ us hl=>match us,hl with | [_,_,_],_=>rfl
 obtain ⟨L8,ki⟩:=ki
 obtain ⟨Ms,L9,eG⟩:=ki.df X G ["start","width","step","most"] (fun _ _ _ _ _ _ _ us hl=>match us,hl with | [_,_,_],_=>⟨_,rfl,rfl⟩) fun _ _ _ _ _ _ _ us hl=>match us,hl with | [_,_,_,_],_=>⟨_,rfl,rfl⟩
 obtain ⟨HI,HA,bo⟩:=tH.df X G ["net","start"] fun _ _ _ _ _ _ us hl=>match us,hl with | [_,_],_=>rfl
 obtain ⟨Rm,Ri,i6⟩:=Hx.df X G ["net"] fun _ _ _ _ _ _ us hl=>match us,hl with | [_],_=>rfl
 obtain ⟨EK,CU,a7⟩:=o8.df X G ["net"] fun _ _ _ _ _ _ us hl=>match us,hl with | [_],_=>rfl
 obtain ⟨Ma,HJ,dQ⟩:=v3.df X G ["net"] fun _ _ _ _ _ _ us hl=>match us,hl with | [_],_=>rfl
 obtain ⟨T4,Rn,jL⟩:=L3.df X G ["net"] fun _ _ _ _ _ _ us hl=>match us,hl with | [_],_=>rfl
 obtain ⟨Od,Mt,fj⟩:=zI.df X G ["_law_script","_law_at"] fun _ _ _ _ _ _ us hl=>match us,hl with | [_,_],_=>rfl
 obtain ⟨Mu,Mb,au⟩:=w9.df X G ["_law_bag_here","_law_many"] fun _ _ _ _ _ _ us hl=>match us,hl with | [_,_],_=>rfl
 obtain ⟨Md,HK,dO⟩:=v7.df X G ["_law_bag_here","_law_many"] fun _ _ _ _ _ _ us hl=>match us,hl with | [_,_],_=>rfl
 obtain ⟨Oe,Mv,fk⟩:=zJ.df X G ["_law_bag_here","_law_most"] fun _ _ _ _ _ _ us hl=>match us,hl with | [_,_],_=>rfl
 obtain ⟨Mw,Mf,eL⟩:=xa.df X G ["_law_bag_here","_law_net_here","_law_most"] fun _ _ _ _ _ _ us hl=>match us,hl with | [_,_,_],_=>rfl
 obtain ⟨HL,HB,dr⟩:=tI.df X G ["_law_net_here","_law_places"] fun _ _ _ _ _ _ us hl=>match us,hl with | [_,_],_=>rfl
 obtain ⟨HC,F6,da⟩:=rE.df X G ["_law_net_here","_law_many","_law_numbers"] fun _ _ _ _ _ _ us hl=>match us,hl with | [_,_,_],_=>rfl
 obtain ⟨Ub,Mg,zL⟩:=NU.df X G ["_law_script"] fun _ _ _ _ _ _ us hl=>match us,hl with | [_],_=>rfl
 have Mx:=DO X G w5
 have rp:=DO X G Hw
 have nj:=DO X G CJ
 have o4:=DO X G EC
 have nv:=DO X G CK
 have X_:=GO eb
 have rn:C_NoNet∈[C_NoNet,C_NoPlace,C_NoWord,C_NoWhole] :=by simp
 have ni:C_NoPlace∈[C_NoNet,C_NoPlace,C_NoWord,C_NoWhole] :=by simp
 have o3:C_NoWord∈[C_NoNet,C_NoPlace,C_NoWord,C_NoWhole] :=by simp
 have nu:C_NoWhole∈[C_NoNet,C_NoPlace,C_NoWord,C_NoWhole] :=by simp
 have e:=TY.symm.trans zL.mg
 cases e
 have bl:Bl mg:=⟨l7 X G NV,l7 X G Hy,l7 X G NW,l7 X G NX,l7 X G NY,l7 X G L4,l7 X G Hz,l7 X G NZ,l7 X G N0,l7 X G L5,l7 X G v8,l7 X G N1,l7 X G N4,l7 X G EG,l7 X G N5,l7 X G xc,l7 X G N6,l7 X G zK,l7 X G EH,l7 X G N7,l7 X G wg⟩
 obtain ⟨Rj,rF⟩:=rF
 have dh:=DO X G rF
 obtain ⟨HD,iD⟩:=iD
 have gU:=DO X G iD
 obtain ⟨yf,ee⟩:=ee
 have dR:=DO X G ee
 obtain ⟨aT,PY,rfl,EL,T⟩:=fB T
 obtain ⟨aZ,PZ,rfl,ER,T⟩:=fB T
 obtain ⟨aU,Of,rfl,CM,T⟩:=fB T
 obtain ⟨bM,Ro,rfl,Mi,T⟩:=fB T
 cases T
 obtain ⟨aE,HE,rfl,tJ,U⟩:=fB U
 cases U
 refine ⟨Mg,fun s v=>zL.bind1 s v (by intros;rfl),fun base _ _ de tr=>?_⟩
 obtain ⟨lH,gT⟩:=mE fS X EL tr
 obtain ⟨vP,lJ⟩:=mE fT X ER tr
 obtain ⟨sV,j8⟩:=mE eW X CM tr
 obtain ⟨Cr,qy⟩:=mE jL X Mi tr
 obtain ⟨mj,fI⟩:=mE bo X tJ tr
 have CN:aT∈(⟨[aT,aZ,aU,bM],[(aE,qW)]⟩:b5) :=by show _∈[aT,aZ,aU,bM];simp
 have CO:aZ∈(⟨[aT,aZ,aU,bM],[(aE,qW)]⟩:b5) :=by show _∈[aT,aZ,aU,bM];simp
 have zM:aU∈(⟨[aT,aZ,aU,bM],[(aE,qW)]⟩:b5) :=by show _∈[aT,aZ,aU,bM];simp
 have HF:bM∈(⟨[aT,aZ,aU,bM],[(aE,qW)]⟩:b5) :=by show _∈[aT,aZ,aU,bM];simp
 have gE:(aE,qW)∈(⟨[aT,aZ,aU,bM],[(aE,qW)]⟩:b5).l :=by simp
 have gF:∀q∈(⟨[aT,aZ,aU,bM],[(aE,qW)]⟩:b5).l,q.1=aE->q.2=qW :=by simp
 have oX:=Ce (P:=l.prog) (w:=w) (tb:=(⟨[aT,aZ,aU,bM],[(aE,qW)]⟩:b5)) fT lJ CO fS gT CN de aM bS bl gU
 have cW:=wO bj fT oX X_ rn rp
 have lN:=wU (P:=l.prog) (w:=w) (base:=base) (tb:=(⟨[aT,aZ,aU,bM],[(aE,qW)]⟩:b5)) fg aM bS bl
 have jK:=tu dS fg lN X_ ni nj
 have lU:=wW fi bj cW bl dh
 have nz:=zx eW j8 zM de fi lU bl dR
 have kh:=vV eJ eW nz X_ o3 o4
 have o5:=Cy (P:=l.prog) (w:=w) (base:=base) (tb:=(⟨[aT,aZ,aU,bM],[(aE,qW)]⟩:b5)) gW dh
 have zD:=LZ nZ bj cW dS jK eJ kh gW o5
 have dq:=rg (P:=l.prog) (w:=w) (tb:=(⟨[aT,aZ,aU,bM],[(aE,qW)]⟩:b5)) bo fI de gE gF eG bl dh
 have EV:=Eo i6 bj cW bo dq bl
 have CP:=Em (S:=yc) EV fun ds M Q E ⟨net,n,e,O,q⟩=>⟨net,n,e,O,.inr q⟩
 have yg:=oe a7 i6 CP bl
 have jI:=tE dQ a7 yg X_ nu nv
 have EW:=og (P:=l.prog) (w:=w) (base:=base) (tb:=(⟨[aT,aZ,aU,bM],[(aE,qW)]⟩:b5)) cC bl
 have vY:=Hs jL qy HF de dQ jI bo dq cC EW bl
 have qC:=Lr (tb:=(⟨[aT,aZ,aU,bM],[(aE,qW)]⟩:b5)) (wK (P:=l.prog) (w:=w) (base:=base) au)
 have Og:=NP (tb:=(⟨[aT,aZ,aU,bM],[(aE,qW)]⟩:b5)) (zk (P:=l.prog) (w:=w) (base:=base) fj bl)
 have HG:=vL dO au qC bl
 have Oh:=zm fk au qC dO HG bl
 have Mj:=wY eL au qC bl
 have EX:=tF (P:=l.prog) (w:=w) (base:=base) (tb:=(⟨[aT,aZ,aU,bM],[(aE,qW)]⟩:b5)) dr bl
 have Mk:=rC da dr EX bl
 exact KD (L0 zL fj Og fk Oh au qC eL Mj a7 yg jL vY nZ zD da Mk bl)
theorem walk {l:Wi} {q:c8} {loose:List bi} {XP:(bi->Option al)->gc->Prop} {YP:ff->gc->Prop} {d:DefRec} {K:Wu->ba} (hn:l.most=some 63) (Al:d.params.defaults=[])
  (BI:∀w:ff,VF (K w.params)=true) (FK:∀y∈((["is_row","is_net","is_word","beat"]:List bi)++(["first_words"]:List bi)),∃r∈recsOf q,r.name=y) (ow:∀w:ff,qY (K w.params) ["is_row","is_net","is_word","beat"] ["first_words"]=true) (hY:∀(w:ff) (h:gc),YP w h->(K w.params).In h)
  (F:∀(w:ff) (mg:bi->Option al) (fa:ac) (h:gc) (tabs lts:List ac),(K w.params).In h->h.Ns mainGlobals mg->mg d.name=some (.ref fa)->
   Cn (TabOf mg h) ["is_row","is_net","is_word","beat"] tabs->Cn (TabOf mg h) ["first_words"] lts->
   ∃fd:i0,(∀(s:ar) (u:al),V2 s fd ⟨[u],[]⟩ [("_law_script",u)]) /\
    ∀base:gc,(K w.params).In base->base.Ns mainGlobals mg->(∃bm ob,UM base mainGlobals mg bm ob)->(∀c p,nw h c p->nw base c p)->FnOk l.prog w (K w.params) mg base bq 13 fa fd ["_law_script"] (spLaw (K w.params) ⟨tabs,lts.zip [qW]⟩)) :
  PySem.W.WalkO q loose XP YP l.row.toRowW d [] (fun f vs=>Wp f vs):=
 L2.Eb (n:=63) (k:=13) (x := "_law_script") (CX:=bq) (sp:=fun K tabs lts=>spLaw K ⟨tabs,lts.zip [qW]⟩) hn (by decide) Al ⟨rfl,by decide,by decide⟩ BI FK ow hY F (fun _ _ _ _ a ns hl hn hT hL hS=>Ec hl hn hT hL hS) fun _ _ _ _ z=>z
end My
open PySem PySem.W PyProof.Rows L2
set_option maxRecDepth 100000 in
set_option maxHeartbeats 0 in
theorem PySem.Challenge.cw_roadcall_k09_whole_beats_tell_all_length_holds : PySem.Challenge.rw_roadcall_k09_whole_beats_tell_all_length.Holds := by
 w_on;o_law
 refine My.F7 (q:=My.kq) (loose:=My.kL) (H:=My.kH) My.left (by rfl) (by rfl) (by rfl) (by rfl) (by first|assumption|decide +kernel) (by decide +kernel) ⟨rfl,rfl,rfl,rfl,rfl,by decide +kernel⟩ ?hw ?hc
 (case hw=>w_witness2)
 refine My.walk (l:=PySem.Challenge.rw_roadcall_k09_whole_beats_tell_all_length) rfl rfl (fun w=>by kernel_rfl) (recs_of (by decide +kernel)) (fun w=>by kernel_rfl) (fun w h Y=>Y) ?F
 intro w mg fa h tabs lts KX G Am T U
 exact My.all_mk (C_RoadError:=24) (C_NoNet:=37) (C_NoPlace:=49) (C_NoWord:=61) (C_NoWhole:=73) KX G Am T U
  (by kernel_rfl)
  (by kernel_rfl)
  (by kernel_rfl)
  (by kernel_rfl)
  (by kernel_rfl)
  (by kernel_rfl)
  (by decide)
  (L2.aS (f:=82) (oc:=.type "function") (od:=none) (sl:=#[]) (kV:=.none) (dc:=.none) (pm:=My.vS "roadcall.whole" 271) (an:=none) (cd:=.ref 81) (ct:=.none) (by kernel_rfl) (by kernel_rfl) (by kernel_rfl) (by kernel_rfl))
  (L2.aS (f:=89) (oc:=.type "function") (od:=none) (sl:=#[]) (kV:=.none) (dc:=.none) (pm:=My.vS "roadcall.whole" 271) (an:=none) (cd:=.ref 88) (ct:=.none) (by kernel_rfl) (by kernel_rfl) (by kernel_rfl) (by kernel_rfl))
  (L2.aS (f:=96) (oc:=.type "function") (od:=none) (sl:=#[]) (kV:=.none) (dc:=.none) (pm:=My.vS "roadcall.whole" 271) (an:=none) (cd:=.ref 95) (ct:=.none) (by kernel_rfl) (by kernel_rfl) (by kernel_rfl) (by kernel_rfl))
  (L2.aS (f:=103) (oc:=.type "function") (od:=none) (sl:=#[]) (kV:=.none) (dc:=.none) (pm:=My.vS "roadcall.nets" 296) (an:=none) (cd:=.ref 102) (ct:=.none) (by kernel_rfl) (by kernel_rfl) (by kernel_rfl) (by kernel_rfl))
  (L2.aS (f:=110) (oc:=.type "function") (od:=none) (sl:=#[]) (kV:=.none) (dc:=.none) (pm:=My.vS "roadcall.nets" 296) (an:=none) (cd:=.ref 109) (ct:=.none) (by kernel_rfl) (by kernel_rfl) (by kernel_rfl) (by kernel_rfl))
  (L2.aS (f:=117) (oc:=.type "function") (od:=none) (sl:=#[]) (kV:=.none) (dc:=.none) (pm:=My.vS "roadcall.nets" 296) (an:=none) (cd:=.ref 116) (ct:=.none) (by kernel_rfl) (by kernel_rfl) (by kernel_rfl) (by kernel_rfl))
  (L2.aS (f:=124) (oc:=.type "function") (od:=none) (sl:=#[]) (kV:=.none) (dc:=.none) (pm:=My.vS "roadcall.nets" 296) (an:=none) (cd:=.ref 123) (ct:=.none) (by kernel_rfl) (by kernel_rfl) (by kernel_rfl) (by kernel_rfl))
  (L2.aS (f:=131) (oc:=.type "function") (od:=none) (sl:=#[]) (kV:=.none) (dc:=.none) (pm:=My.vS "roadcall.nets" 296) (an:=none) (cd:=.ref 130) (ct:=.none) (by kernel_rfl) (by kernel_rfl) (by kernel_rfl) (by kernel_rfl))
  (L2.aS (f:=138) (oc:=.type "function") (od:=none) (sl:=#[]) (kV:=.none) (dc:=.none) (pm:=My.vS "roadcall.nets" 296) (an:=none) (cd:=.ref 137) (ct:=.none) (by kernel_rfl) (by kernel_rfl) (by kernel_rfl) (by kernel_rfl))
  (L2.aS (f:=145) (oc:=.type "function") (od:=none) (sl:=#[]) (kV:=.none) (dc:=.none) (pm:=My.vS "roadcall.nets" 296) (an:=none) (cd:=.ref 144) (ct:=.none) (by kernel_rfl) (by kernel_rfl) (by kernel_rfl) (by kernel_rfl))
  (L2.aS (f:=152) (oc:=.type "function") (od:=none) (sl:=#[]) (kV:=.none) (dc:=.none) (pm:=My.vS "roadcall.nets" 296) (an:=none) (cd:=.ref 151) (ct:=.none) (by kernel_rfl) (by kernel_rfl) (by kernel_rfl) (by kernel_rfl))
  (L2.aS (f:=159) (oc:=.type "function") (od:=none) (sl:=#[]) (kV:=.none) (dc:=.none) (pm:=My.vS "roadcall.ways" 370) (an:=none) (cd:=.ref 158) (ct:=.none) (by kernel_rfl) (by kernel_rfl) (by kernel_rfl) (by kernel_rfl))
  (L2.aS (f:=166) (oc:=.type "function") (od:=none) (sl:=#[]) (kV:=.none) (dc:=.none) (pm:=My.vS "roadcall.ways" 370) (an:=none) (cd:=.ref 165) (ct:=.none) (by kernel_rfl) (by kernel_rfl) (by kernel_rfl) (by kernel_rfl))
  (L2.BM (f:=174) (oc:=.type "function") (od:=none) (sl:=#[]) (T:=167) (oT:=⟨.type "tuple",none,.seq #[.int 511 372] 0,#[]⟩) (kV:=.none) (dc:=.none) (pm:=My.vS "roadcall.ways" 370) (an:=none) (cd:=.ref 173) (ct:=.none) (by kernel_rfl) (by kernel_rfl) (by kernel_rfl) (by kernel_rfl) (by kernel_rfl) rfl)
  (L2.aS (f:=181) (oc:=.type "function") (od:=none) (sl:=#[]) (kV:=.none) (dc:=.none) (pm:=My.vS "roadcall.ways" 370) (an:=none) (cd:=.ref 180) (ct:=.none) (by kernel_rfl) (by kernel_rfl) (by kernel_rfl) (by kernel_rfl))
  (L2.aS (f:=186) (oc:=.type "function") (od:=none) (sl:=#[]) (kV:=.none) (dc:=.none) (pm:=My.vS "roadcall.ways" 370) (an:=none) (cd:=.ref 185) (ct:=.none) (by kernel_rfl) (by kernel_rfl) (by kernel_rfl) (by kernel_rfl))
  (L2.aS (f:=193) (oc:=.type "function") (od:=none) (sl:=#[]) (kV:=.none) (dc:=.none) (pm:=My.vS "roadcall.ways" 370) (an:=none) (cd:=.ref 192) (ct:=.none) (by kernel_rfl) (by kernel_rfl) (by kernel_rfl) (by kernel_rfl))
  (L2.aS (f:=200) (oc:=.type "function") (od:=none) (sl:=#[]) (kV:=.none) (dc:=.none) (pm:=My.vS "roadcall.ways" 370) (an:=none) (cd:=.ref 199) (ct:=.none) (by kernel_rfl) (by kernel_rfl) (by kernel_rfl) (by kernel_rfl))
  (L2.aS (f:=205) (oc:=.type "function") (od:=none) (sl:=#[]) (kV:=.none) (dc:=.none) (pm:=My.vS "roadcall.beats" 437) (an:=none) (cd:=.ref 204) (ct:=.none) (by kernel_rfl) (by kernel_rfl) (by kernel_rfl) (by kernel_rfl))
  (L2.aS (f:=212) (oc:=.type "function") (od:=none) (sl:=#[]) (kV:=.none) (dc:=.none) (pm:=My.vS "law_roadcall_k09_whole_beats_tell_all_length" 445) (an:=none) (cd:=.ref 211) (ct:=.none) (by kernel_rfl) (by kernel_rfl) (by kernel_rfl) (by kernel_rfl))
  (L2.aS (f:=219) (oc:=.type "function") (od:=none) (sl:=#[]) (kV:=.none) (dc:=.none) (pm:=My.vS "law_roadcall_k09_whole_beats_tell_all_length" 445) (an:=none) (cd:=.ref 218) (ct:=.none) (by kernel_rfl) (by kernel_rfl) (by kernel_rfl) (by kernel_rfl))
  (L2.aS (f:=226) (oc:=.type "function") (od:=none) (sl:=#[]) (kV:=.none) (dc:=.none) (pm:=My.vS "law_roadcall_k09_whole_beats_tell_all_length" 445) (an:=none) (cd:=.ref 225) (ct:=.none) (by kernel_rfl) (by kernel_rfl) (by kernel_rfl) (by kernel_rfl))
  (L2.aS (f:=231) (oc:=.type "function") (od:=none) (sl:=#[]) (kV:=.none) (dc:=.none) (pm:=My.vS "law_roadcall_k09_whole_beats_tell_all_length" 445) (an:=none) (cd:=.ref 230) (ct:=.none) (by kernel_rfl) (by kernel_rfl) (by kernel_rfl) (by kernel_rfl))
  (L2.aS (f:=238) (oc:=.type "function") (od:=none) (sl:=#[]) (kV:=.none) (dc:=.none) (pm:=My.vS "law_roadcall_k09_whole_beats_tell_all_length" 445) (an:=none) (cd:=.ref 237) (ct:=.none) (by kernel_rfl) (by kernel_rfl) (by kernel_rfl) (by kernel_rfl))
  (L2.aS (f:=245) (oc:=.type "function") (od:=none) (sl:=#[]) (kV:=.none) (dc:=.none) (pm:=My.vS "law_roadcall_k09_whole_beats_tell_all_length" 445) (an:=none) (cd:=.ref 244) (ct:=.none) (by kernel_rfl) (by kernel_rfl) (by kernel_rfl) (by kernel_rfl))
  (L2.aS (f:=250) (oc:=.type "function") (od:=none) (sl:=#[]) (kV:=.none) (dc:=.none) (pm:=My.vS "law_roadcall_k09_whole_beats_tell_all_length" 445) (an:=none) (cd:=.ref 249) (ct:=.none) (by kernel_rfl) (by kernel_rfl) (by kernel_rfl) (by kernel_rfl))
  (L2.aS (f:=257) (oc:=.type "function") (od:=none) (sl:=#[]) (kV:=.none) (dc:=.none) (pm:=My.vS "law_roadcall_k09_whole_beats_tell_all_length" 445) (an:=none) (cd:=.ref 256) (ct:=.none) (by kernel_rfl) (by kernel_rfl) (by kernel_rfl) (by kernel_rfl))
  (by kernel_rfl)
  (by kernel_rfl)
  (by kernel_rfl)
  (by kernel_rfl)
  (by kernel_rfl)
  (by kernel_rfl)
  (by kernel_rfl)
  (by kernel_rfl)
  (by kernel_rfl)
  (by kernel_rfl)
  (by kernel_rfl)
  (by kernel_rfl)
  (by kernel_rfl)
  (by kernel_rfl)
  (by kernel_rfl)
  (by kernel_rfl)
  (by kernel_rfl)
  (by kernel_rfl)
  (by kernel_rfl)
  (by kernel_rfl)
  (by kernel_rfl)
  ⟨298,by kernel_rfl⟩
  ⟨300,by kernel_rfl⟩
  ⟨302,by kernel_rfl⟩
