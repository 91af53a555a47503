import PyProof.Rows.All
import Wide.All
import OpenK.AllK
import Wide.FinOn
import Lean
import PySem.Challenge.RW_roadcall_k26_pairs_led
import PyProof.EqAt
import PyProof.EqKinds
import PyProof.TupleCall
import PyProof.NeKinds
import PyProof.EnumMake
import PyProof.EnumFor
import PyProof.ZipIter
import PyProof.Rows.ZipGen
import KE.KLam
import PyProof.DictItems
import KE.KTurnsDict
import KE.KPairComp
import KE.KDictList
import KE.KRevSl
open PySem renaming wpAny_bind->ac,Addr->ag,Value->al,Shared->ar,Str->bi,wpAny_pure->bn,Expr->c8,Program->ff,Heap->hX,World->im,Obj->kw,FuncData->ln,wpAny_mono->lp,Around->l5,Builtin->ss,Stmt->sw,Scope->sB,mem_of_lookup->tw,SetTable->ul,boot_len->u4,Pos->u7,wpAny_call_entry->wb,wpAny_callSpecial?_slot->wv,wpAny_newObj_type->xb,Paired->xz,wpAny_setField_rec->At,wpAny_holding->AC,wpAny_truthy_bool->AN,Spec->AS,wpAny_field->BB,wpAny_standAt->BS,seg_bind_wrap->Ch,wpAny_comprehension_free->EM,wpAny_Call_Name_kw->ET,wpAny_rule->GG,Env->IN,wpAny_seqItems->IS,IsPair->IT,codeAny_builtin->KB,wpAny_attempt->LG,plainId_quiet->Mn,wpAny_typeNameOfWhole_keyiter->MW,sizeLine_eq->NE,Arguments->NG,TriplesOk->NH,tupleKind_room_in1->NO,wpAny_passesOwn->On,Keyword->Po,NameKind->P3,wpAny_askSetting->Re,wpAny_setEntries_of->SC,wpAny_pyIter_tuple->SO,GenState->TM,wpAny_pyIter_list->UF,wpAny_setState_of->US,wpAny_dictEntries->UV,wpAny_fieldsOf->Wp,DictEntry->WE,Sem->WF,CmpOp->WJ,PlainAttrs->WP,wpAny_isInstance->XV,IsZip->YO,codeAny_mono->Zl,wpAny_assign_Name->Zu,IsEnum->ZD,exec_Assign_Name_used->ZN,wpAny_execs_nil->ZR,wpAny_newFunctionEnv->ZW,wpAny_updateSeq_pair->Z1,call_meetsIn->Z2,ElemsOf->aad,isSubtype_type->aae,isSubtype_stop->aaf,wpAny_newTuple->aag,wpAny_letGo->aai,wpAny_of_eq->aaj,call_function_tree->aap,wpAny_newList->aaw,wpAny_onRaise->aaA,fits_of_scanBound->aaE,wpAny_pyIter_slot->aaH,call_meets->aaN,BindsTo->aaP,Tok->aaR,Result->aaS,PassesOwn->aa2,codeAny_of_tree->aa3,seg_again->aa4,wpAny_loadPart'->aa6,pushCells_keeps->aa7,wpAny_dictEpoch->aa9,call->abd,Slot->abe,ZipApart->abh,Params->abi,IsEnumOut->abk
open List renaming getElem?_eq_getElem->ap,length_map->bv,getElem?_eq_some_iff->ca,getElem?_map->ce,getD_eq_getElem?_getD->ci,mem_of_getElem?->cr,size_toArray->dL,mem_cons_of_mem->en,range->ii,mem_singleton->io,mem_cons->i4,mem_cons_self->i8,mem_map->kt,mem_append_right->li,mem_iff_getElem?->l7,length_append->l8,map_cons->mo,map_append->mv,mem_append->rf,mem_append_left->r9,getElem_mem->tz,Nodup->ut,mem_range->uu,getElem?_append_left->ww,all_eq_true->wT,map_map->xy,not_mem_nil->xL,getElem?_zip_eq_some->zw,getElem?_append_right->AE,length_cons->AL,drop_eq_getElem_cons->AT,lookup_cons->CS,nodup_append->Da,replicate->DD,mem_filter->EN,append_nil->EQ,append_assoc->FM,getElem?_range->Gc,length_zip->GS,length_singleton->GT,eq_nil_of_length_eq_zero->Ix,getElem?_cons_succ->JJ,nil_append->KF,filterMap_cons->KM,getElem?_eq_none->LP,pairwise_cons->LS,length_range->Me,getElem?_replicate->Na,flatMap_append->Nd,map_congr_left->Nl,drop_length->No,nodup_cons->Os,map->OR,take_succ->PP,any_eq_true->Rs,toArray->Sk,of_mem_zip->SS,Perm->SZ,length_nil->Tk,find?_cons->Tl,zip_cons_cons->TD,getElem?_set_self->TW,length_replicate->VT,length_filter_le->WA,take_length->W1,length_set->YE,mem_or_eq_of_mem_set->YU,getElem_range->Zo,prefix_append->Zp,getElem?_cons_zero->Zs,getElem?_set->Zx,take_of_length_le->ZA,pairwise_lt_range->ZB,length_take->ZF,filter_cons->ZI,map_nil->ZT,forIn_cons->ZV,pairwise_append->Z0,getElem?_append->Z3,range_succ->Z4,length_take_le'->Z6,getD_cons_zero->Z8,getD_cons_succ->Z9,mem_filterMap->aan,getElem?_drop->aao,set_cons_zero->aar,set_cons_succ->aas,Pairwise->aau,all_cons->aay,any_cons->aaB,foldl_append->aaF,ext_getElem?->aaI,getElem?_inj->aaK,filter_congr->aaL,pairwise_map->aaM,length_drop->aaT,ext_getElem->aaU,cons_append->aaW,getElem_map->aaX,mem_flatMap->aaZ,filter_map->aba,prefix_rfl->abb
open PySem.W renaming Frag->ba,nsIn->mT,mg_none_of->nw,CodeHd->u8,fnOf->AM,hideAll->BN,keepIn->Do,kia_one->EO,codeIn->LM,kla_obj->OL,mg_of->ON,tabObj->Ps,envX->RS,hideAll_get->YA,looseW->aaa,kitOne->aac,of_hideAll->aam,kb_classed->aaq,recOk->aat,excIn->aaz,methodObj->aaC,xlAt->aaQ,opening->aa0,instObj->aa1,OpenLaw->aa8
open PySem.Heap renaming get?_push_of_some->br,get?_push_size->db,lt_size->gc,SameBut->v6,size_push->xw,get?_update_other->Cs,get?_update_self->DO,get?_push_ne->Zy,size_update->ZL,ExtBut->aak
open Nat renaming le_refl->cb,ne_of_lt->jp,lt_of_lt_of_le->l3,zero_le->mf,le_trans->qr,lt_succ_of_lt->zd,lt_of_le_of_lt->Co,le_succ->ES,lt_succ_self->Fa,lt_irrefl->FF,min_self->ID,le_of_lt->Ll,ne_of_gt->Lo,lt_or_ge->Lu,zero_add->Mc,le_add_right->WS,not_lt_zero->YI,lt_trans->Zn,le_of_not_lt->ZG,sub_self->aaY,not_lt->abf,mod_lt->abg
open Option.some renaming inj->ij,injEq->FS
open Bool renaming false_ne_true->i0,false_eq_true->lw,and_eq_true->B0,eq_iff_iff->Op,true_and->OP,false_and->Pi,not_true->ZE,not_false->aah
open Option renaming map_eq_some_iff->lc,map_some->BY,bind_eq_some_iff->SI,some->Uf,bind_some->ZJ,isSome_map->aaJ,join_some->aaV
open PySem.SeqAt renaming EqAt->l4,RcAt->l9
open PySem.Value renaming ref->l6,none->wS,type->LB,bool->WI,isInt_shape->Zt,str->ZM,int->aal
open Or renaming inl->ma,inr->GE
open PySem.NameKind renaming free->sK,cell->SL
open Array renaming length_toList->wn,getElem?_eq_getElem->GM,getElem?_toList->OE,getElem?_eq_none->ZC,getD->ZZ,toList_append->Z7
open PySem.Str renaming ofString->wp
open Int renaming toNat_natCast->wE,eq_ofNat_of_zero_le->EU,le_refl->Pe,zero_add->Sm,emod_nonneg->Z5
open PySem.SetTable renaming below->wP,grown->PM
open PySem.PassesOwn renaming never->xp
open Ne renaming symm->ze
open PySem.F renaming plainAttrs_list->zn,slot_dict_keyiterator_next->Db,slot_dict_get->OK,called_set->RI,slot_list_append->So,type_list_append->SB,entry_dict_get->T0,plain_list_iadd->Zw,plain_all_loop->ZH,slot_list_pop->ZP,type_list_pop->ZQ
open PySem.Heap.SameBut renaming update->Cc
open PyProof.Rows renaming callWith_type1->Cf,IntsAre->OF,BMod->ZY,listUpdate_at->aax,AllBare->abc
open List.cons renaming inj->Cn
open PySem.Around renaming under_plainId->Fk
open False renaming elim->Go
open PySem.Paired renaming length->IF
open PySem.Obj renaming mapSeq->IR,data_mapFields->NJ,isFreed_of_fields->ZO,cls_mapFields->aaG,putSet->aaO
open True renaming intro->LF
open PySem.Calls renaming spliced_cons->LH,spliced_nil->Pc,callWith_builtin->Zz,evalArgs_plain->ZS
open PySem.Builtin.List renaming listExtendWith->NL,listTooLong->Zm
open PySem.W.Fast renaming tw821141287760084731->Pd
open Sum renaming inl->Pf,inr->aab
open PyProof.Rows.F renaming plain_set_update_loop->Zq
open PySem.SetTable.below renaming go->Zv
open ForInStep renaming yield->ZU
open PySem.Shared renaming TypeIs->aav
open PySem.SetTable.probe renaming go->aaD
open PySem.SeqAt.EqAt renaming same->aa5
open And renaming intro->abj
set_option linter.all false
set_option Elab.async false
set_option maxRecDepth 100000
namespace My
open PySem PyProof.Rows
def kA (s:sw):NG:=match s with
 | .FunctionDef _ a _ _ _ _ _ _ _ _=>a
 |_=>{posonlyargs:=[],args:=[],vararg:=none,kwonlyargs:=[],kw_defaults:=[],kwarg:=none,defaults:=[]}
def kB (s:sw):List sw:=match s with
 | .FunctionDef _ _ b _ _ _ _ _ _ _=>b
 |_=>[]
def kS (s:sw):sB:=match s with
 | .FunctionDef _ _ _ _ _ _ sc _ _ _=>sc
 |_=>{kind:=.function,names:=[],isGenerator:=false,isCoroutine:=false}
def vS (x:String) (t:Nat):al:=.str (wp x) t
def kE (P:abi) (x:String) (t:Nat) (v:al):WE:=⟨PyData.keyHash P (wp x),vS x t,v⟩
def kF (i:Nat) (x:String) (d m:al) (c:Nat):kw:=let st:=PySem.Challenge.pw_roadcall_k26_pairs_led.main.body.getD i (.Pass ⟨0,0,0,0⟩);⟨.type "function",none,.func (AM (wp x) (wp x) (kA st) (kB st) (kS st) d .none .none m none (.ref c) .none),#[]⟩
def kC (x:String) (t:Nat) (l n f:Int) (a:Nat) (b:Bool) (m:Int) (p:Nat) (u z:al) (q:Nat) (e:Int) (t2:Nat):kw:=⟨.type "code",none,.fields #[vS x t,vS x (t+1),vS "/claim/cut.py" (t+2),.int l 0,.int n 0,.int 0 0,.int 0 0,.int f 0,.ref a,.bool b,.int m 0,.ref p,.none,u,z,.ref q,.int e 0,.int l 0,vS "/claim/cut.py" t2],#[]⟩
def kK (P:abi):ba:=[(2,⟨.none,none,.dict [].toArray 0,#[]⟩),
 (3,⟨.type "dict",none,.dict [kE P "__name__" 165 (vS "law_roadcall_k26_pairs_led" 403),kE P "__doc__" 166 .none,kE P "__package__" 167 .none,kE P "__loader__" 168 (.builtin "__main__.__loader__#opaque"),kE P "__spec__" 169 .none,kE P "__annotations__" 170 (.ref 6),kE P "__builtins__" 171 (.ref 4),kE P "__file__" 173 (vS "/claim/cut.py" 172),kE P "__cached__" 174 .none,kE P "RoadError" 206 (.ref 24),kE P "NoNet" 222 (.ref 37),kE P "NoPair" 238 (.ref 49),kE P "is_whole" 247 (.ref 58),kE P "is_whole_below" 255 (.ref 65),kE P "SIGNS" 259 (vS "abc" 258),kE P "MOST_PLACES" 261 (.int 9 260),kE P "is_row" 271 (.ref 72),kE P "is_net" 280 (.ref 79),kE P "need_net" 287 (.ref 86),kE P "is_place" 295 (.ref 93),kE P "MOST_SETS" 299 (.int 511 298),kE P "first_met" 314 (.ref 101),kE P "is_set" 325 (.ref 108),kE P "is_pair" 333 (.ref 115),kE P "sign_image" 339 (.ref 120),kE P "images_met" 348 (.ref 127),kE P "need_pair" 358 (.ref 134),kE P "led_pairs" 364 (.ref 139),kE P "all_pairs" 370 (.ref 144),kE P "in_order" 378 (.ref 151),kE P "coming_pairs" 390 (.ref 158),kE P "led_to_some" 396 (.ref 163),kE P "never_called" 402 (.ref 168),kE P "_law_bag" 415 (.ref 175),kE P "_law_take" 426 (.ref 182),kE P "_law_order" 432 (.ref 187),kE P "_law_net" 438 (.ref 192),kE P "_law_like" 444 (.ref 197),kE P "_law_pairs" 450 (.ref 202),kE P "_law_goals" 456 (.ref 207),kE P "_law_led" 467 (.ref 214),kE P "_law_is_called" 473 (.ref 219),kE P "_law_right" 483 (.ref 226),kE P "law" 489 (.ref 231)].toArray 44,#[]⟩),
 (23,⟨.type "dict",none,.dict [kE P "__module__" 196 (vS "roadcall.errors" 187),kE P "__firstlineno__" 200 (.int 2 199),kE P "__static_attributes__" 201 (.ref 22),kE P "__weakref__" 203 (.ref 25),kE P "__doc__" 204 .none].toArray 3,#[]⟩),
 (24,⟨.type "type",none,.cls {name:=wp "RoadError",bases:=[.type "ValueError"],mro:=[.ref 24,.type "ValueError",.type "Exception",.type "BaseException",.type "object"],ns:=23,qualname:=wp "RoadError",subclasses:=[.ref 37,.ref 49]},#[some (.ref 15),none,some (vS "RoadError" 189),some (vS "RoadError" 197),some (.builtin "ValueError.__new__"),some (.bool true)]⟩),
 (36,⟨.type "dict",none,.dict [kE P "__module__" 214 (vS "roadcall.errors" 187),kE P "__firstlineno__" 218 (.int 4 217),kE P "__static_attributes__" 219 (.ref 35),kE P "__doc__" 220 .none].toArray 2,#[]⟩),
 (37,⟨.type "type",none,.cls {name:=wp "NoNet",bases:=[.ref 24],mro:=[.ref 37,.ref 24,.type "ValueError",.type "Exception",.type "BaseException",.type "object"],ns:=36,qualname:=wp "NoNet",subclasses:=[]},#[some (.ref 28),none,some (vS "NoNet" 207),some (vS "NoNet" 215),some (.builtin "ValueError.__new__"),some (.bool true)]⟩),
 (48,⟨.type "dict",none,.dict [kE P "__module__" 230 (vS "roadcall.errors" 187),kE P "__firstlineno__" 234 (.int 6 233),kE P "__static_attributes__" 235 (.ref 47),kE P "__doc__" 236 .none].toArray 2,#[]⟩),
 (49,⟨.type "type",none,.cls {name:=wp "NoPair",bases:=[.ref 24],mro:=[.ref 49,.ref 24,.type "ValueError",.type "Exception",.type "BaseException",.type "object"],ns:=48,qualname:=wp "NoPair",subclasses:=[]},#[some (.ref 40),none,some (vS "NoPair" 223),some (vS "NoPair" 231),some (.builtin "ValueError.__new__"),some (.bool true)]⟩),
 (57,kC "is_whole" 241 9 1 3 52 true 181 53 (.ref 54) (.ref 55) 56 245 246),
 (58,kF 5 "is_whole" .none (vS "roadcall.whole" 239) 57),
 (64,kC "is_whole_below" 248 11 2 3 59 true 181 60 (.ref 61) (.ref 62) 63 253 254),
 (65,kF 6 "is_whole_below" .none (vS "roadcall.whole" 239) 64),
 (71,kC "is_row" 262 16 3 3 66 true 181 67 (.ref 68) (.ref 69) 70 269 270),
 (72,kF 10 "is_row" .none (vS "roadcall.nets" 256) 71),
 (78,kC "is_net" 272 20 1 3 73 true 181 74 (.ref 75) (.ref 76) 77 278 279),
 (79,kF 11 "is_net" .none (vS "roadcall.nets" 256) 78),
 (85,kC "need_net" 281 28 1 3 80 true 181 81 (.ref 82) (.ref 83) 84 285 286),
 (86,kF 12 "need_net" .none (vS "roadcall.nets" 256) 85),
 (92,kC "is_place" 288 31 2 3 87 true 181 88 (.ref 89) (.ref 90) 91 293 294),
 (93,kF 13 "is_place" .none (vS "roadcall.nets" 256) 92),
 (94,⟨.type "tuple",none,.seq #[.int 511 298] 0,#[]⟩),
 (100,kC "first_met" 300 35 4 3 95 true 181 96 (.ref 97) (.ref 98) 99 312 313),
 (101,kF 16 "first_met" (.ref 94) (vS "roadcall.ways" 296) 100),
 (107,kC "is_set" 317 47 2 3 102 true 181 103 (.ref 104) (.ref 105) 106 323 324),
 (108,kF 18 "is_set" .none (vS "roadcall.words" 315) 107),
 (114,kC "is_pair" 326 51 2 3 109 true 181 110 (.ref 111) (.ref 112) 113 331 332),
 (115,kF 19 "is_pair" .none (vS "roadcall.words" 315) 114),
 (119,kC "sign_image" 334 53 3 3 116 true 181 117 .none .none 118 337 338),
 (120,kF 20 "sign_image" .none (vS "roadcall.words" 315) 119),
 (126,kC "images_met" 340 55 2 3 121 true 181 122 (.ref 123) (.ref 124) 125 346 347),
 (127,kF 21 "images_met" .none (vS "roadcall.words" 315) 126),
 (133,kC "need_pair" 351 58 2 3 128 true 181 129 (.ref 130) (.ref 131) 132 356 357),
 (134,kF 23 "need_pair" .none (vS "roadcall.pairs" 349) 133),
 (138,kC "led_pairs" 359 61 2 3 135 true 181 136 .none .none 137 362 363),
 (139,kF 24 "led_pairs" .none (vS "roadcall.pairs" 349) 138),
 (143,kC "all_pairs" 365 65 1 3 140 true 181 141 .none .none 142 368 369),
 (144,kF 25 "all_pairs" .none (vS "roadcall.pairs" 349) 143),
 (150,kC "in_order" 371 68 2 3 145 true 181 146 (.ref 147) (.ref 148) 149 376 377),
 (151,kF 26 "in_order" .none (vS "roadcall.pairs" 349) 150),
 (157,kC "coming_pairs" 379 70 1 3 152 true 181 153 (.ref 154) (.ref 155) 156 388 389),
 (158,kF 27 "coming_pairs" .none (vS "roadcall.pairs" 349) 157),
 (162,kC "led_to_some" 391 76 2 3 159 true 181 160 .none .none 161 394 395),
 (163,kF 28 "led_to_some" .none (vS "roadcall.pairs" 349) 162),
 (167,kC "never_called" 397 86 1 3 164 true 181 165 .none .none 166 400 401),
 (168,kF 29 "never_called" .none (vS "roadcall.pairs" 349) 167),
 (174,kC "_law_bag" 405 92 2 3 169 true 181 170 (.ref 171) (.ref 172) 173 413 414),
 (175,kF 31 "_law_bag" .none (vS "law_roadcall_k26_pairs_led" 403) 174),
 (181,kC "_law_take" 416 102 2 3 176 true 181 177 (.ref 178) (.ref 179) 180 424 425),
 (182,kF 32 "_law_take" .none (vS "law_roadcall_k26_pairs_led" 403) 181),
 (186,kC "_law_order" 427 114 2 3 183 true 181 184 .none .none 185 430 431),
 (187,kF 33 "_law_order" .none (vS "law_roadcall_k26_pairs_led" 403) 186),
 (191,kC "_law_net" 433 117 2 3 188 true 181 189 .none .none 190 436 437),
 (192,kF 34 "_law_net" .none (vS "law_roadcall_k26_pairs_led" 403) 191),
 (196,kC "_law_like" 439 140 2 3 193 true 181 194 .none .none 195 442 443),
 (197,kF 35 "_law_like" .none (vS "law_roadcall_k26_pairs_led" 403) 196),
 (201,kC "_law_pairs" 445 150 1 3 198 true 181 199 .none .none 200 448 449),
 (202,kF 36 "_law_pairs" .none (vS "law_roadcall_k26_pairs_led" 403) 201),
 (206,kC "_law_goals" 451 155 2 3 203 true 181 204 .none .none 205 454 455),
 (207,kF 37 "_law_goals" .none (vS "law_roadcall_k26_pairs_led" 403) 206),
 (213,kC "_law_led" 457 157 2 3 208 true 181 209 (.ref 210) (.ref 211) 212 465 466),
 (214,kF 38 "_law_led" .none (vS "law_roadcall_k26_pairs_led" 403) 213),
 (218,kC "_law_is_called" 468 166 2 3 215 true 181 216 .none .none 217 471 472),
 (219,kF 39 "_law_is_called" .none (vS "law_roadcall_k26_pairs_led" 403) 218),
 (225,kC "_law_right" 474 171 3 3 220 true 181 221 (.ref 222) (.ref 223) 224 481 482),
 (226,kF 40 "_law_right" .none (vS "law_roadcall_k26_pairs_led" 403) 225),
 (230,kC "law" 484 176 1 3 227 true 181 228 .none .none 229 487 488),
 (231,kF 41 "law" .none (vS "law_roadcall_k26_pairs_led" 403) 230)]
def Ws:List ag:=[2,3,23,24,36,37,48,49,57,58,64,65,71,72,78,79,85,86,92,93,94,100,101,107,108,114,115,119,120,126,127,133,134,138,139,143,144,150,151,157,158,162,163,167,168,174,175,181,182,186,187,191,192,196,197,201,202,206,207,213,214,218,219,225,226,230,231]
def kq:ff:=PySem.W.view PySem.Challenge.pw_roadcall_k26_pairs_led [1,2,3,5,6,8,9,10,11,12,13,15,18,19,20,21,23,24,25,26,27,28,29,31,32,33,34,35,36,37,38,39,40,41]
def kL:List bi:=[wp "first_met"]
def kH:PySem.W.Hook:=PySem.W.kHook kK Ws fun _=>by kernel_rfl
theorem K0 {r:PySem.W.OpenRow}{q:ff}{loose:List bi}{H:PySem.W.Hook}{d:DefRec}{MZ:List (bi×c8)}{N:Nat}(left:PySem.W.LeftO r.prog q loose (fun s=>aaQ q [] s && aat r.records s) H.obs H.val N)
  (xl:PySem.W.defOf q r.name=some (d,MZ)) (hp:r.prog.theDef r.name=some (d.params,d.body,d.scope)) (hk:PySem.W.kwWritten? d.params.kwonlyargs d.params.kw_defaults=some MZ) (Wt:(!r.writes || r.records.isEmpty)=true) (k1:r.wellSaid=true)
  (ok:(PySem.W.chainsOk q && PySem.W.opensWell r.prog && (PySem.W.frees r.toRowW && r.within.isEmpty))=true) (hb:r.prog.bare) (hw:r.toRowW.promised) (call:PySem.W.WalkO q loose (PySem.W.XL q []) H.says r.toRowW d MZ fun f vs=>abd f vs):r.Holds:=
 PySem.W.holds_open left H.of H.keeps (fun s e=>PySem.W.xl_of s (Bool.and_eq_true_iff.mp e).1) PySem.W.XL.keeps xl hp hk (fun s e=>PySem.W.recFacts_of (Bool.and_eq_true_iff.mp e).2) Wt k1 ok hb hw call
noncomputable def oeQ (p:ff) (w:im) (N:Nat):Option ar:=((PySem.W.Fast.tw10274390034422433532 PySem.W.Fast.tw14364793385576792824 (aa0 p) w N (PySem.W.Fast.tw1435165496053646825 (aa0 p)).1 (PySem.W.Fast.tw1435165496053646825 (aa0 p)).2).bind (PySem.W.Fast.tw14289696077712309145 p)).bind fun s₀=>match s₀.heap.isNs PySem.mainGlobals && s₀.gens.size==0 with
 |true=>(PySem.W.Fast.tw14082659384304107361 PySem.W.Fast.tw14364793385576792824 p w s₀.heap.objs.size (s₀.heap.nsMap PySem.mainGlobals "__annotations__") N s₀ (PySem.W.topStub p)).bind fun aF=>match PySem.W.staticsOk (importedModules p.main.body) s₀.heap aF.heap && PySem.W.namesBound p aF.heap && PySem.W.gensDone aF && PySem.W.laidKept s₀.heap aF.heap with
   |true=>some aF
   |false=>none
 |false=>none
theorem RW (p:ff) (w:im) (N:Nat):PySem.W.openEnds treeTable p w N=oeQ p w N :=by
 unfold oeQ;rw[<- PySem.W.Fast.te10274390034422433532,<- PySem.W.Fast.te14364793385576792824,<- PySem.W.Fast.te1435165496053646825,<- PySem.W.Fast.te14289696077712309145,<- PySem.W.Fast.te14082659384304107361];rfl
noncomputable def nsQ (q:ff):List bi:=(PySem.W.Fast.tw3399658132070893891 q).map (·.name)
theorem JH (q:ff):(recsOf q).map (·.name)=nsQ q :=by unfold nsQ;rw[<- PySem.W.Fast.te3399658132070893891]
noncomputable def c1Q (s:ar):=PySem.W.Fast.tw5160383126252970620 (nsQ kq) (PySem.W.Fast.tw5991557255702980513 kq) [] {s with gens:=#[]}
theorem RX (s:ar):seen ((recsOf kq).map (·.name)) (ownsOf kq) [] {s with gens:=#[]}=c1Q s :=by unfold c1Q;rw[JH,<- PySem.W.Fast.te5160383126252970620,<- PySem.W.Fast.te5991557255702980513]
def c2 (s:ar):=(s.heap.bltView,s.heap.keysOk (aaa kq kL) ((recsOf kq).map (·.name)) ((litsOf kq).map (·.1)) ((clssOf kq (aaa kq kL)).map (·.name)) && s.heap.accountedOkI (importedModules PySem.Challenge.pw_roadcall_k26_pairs_led.main.body) && s.heap.isNs mainGlobals && s.heap.isNs builtinsNs && tablesOk kq s.heap && (aaQ kq [] s && aat [] s) && (s.gens.size==0))
noncomputable def c2Q (s:ar):=(s.heap.bltView,PySem.W.Fast.tw10880121769531294198 s.heap (Pd kq kL) (nsQ kq) ((PySem.W.Fast.tw7409074990110511671 kq).map (·.1)) ((PySem.W.Fast.tw13664370479719496447 kq (Pd kq kL)).map (·.name)) && PySem.W.Fast.tw14722251495701143533 s.heap (importedModules PySem.Challenge.pw_roadcall_k26_pairs_led.main.body) && s.heap.isNs mainGlobals && s.heap.isNs builtinsNs && PySem.W.Fast.tw10994771534591457954 kq s.heap && (aaQ kq [] s && aat [] s) && (s.gens.size==0))
theorem RY (s:ar):c2 s=c2Q s :=by unfold c2 c2Q;rw[JH,<- PySem.W.Fast.te10880121769531294198,<- PySem.W.Fast.te821141287760084731,<- PySem.W.Fast.te7409074990110511671,<- PySem.W.Fast.te13664370479719496447,<- PySem.W.Fast.te14722251495701143533,<- PySem.W.Fast.te10994771534591457954]
def c3 (s:ar):=tabsOk kq s
def c5 (s:ar):=plainSeenE kq (aaa kq kL) s
def c4 (s:ar):=(PySem.pinSeenD kq (drecsOf kq) s,plainSeenD kq kL s,PySem.W.wideSeen kq s,PySem.W.clsSeenW kq kL s)
noncomputable def c3Q (s:ar):=PySem.W.Fast.tw479339242167458305 kq s
noncomputable def c5Q (s:ar):=PySem.W.Fast.tw2386780881361962483 kq (Pd kq kL) s
noncomputable def c4Q (s:ar):=(PySem.W.Fast.tw16090120013241838585 kq (PySem.W.Fast.tw3247288618530077131 kq) s,PySem.W.Fast.tw11698064438423848299 kq kL s,PySem.W.Fast.tw7317090234206586261 kq s,PySem.W.Fast.tw7369524293546568484 kq kL s)
theorem RZ (s:ar):c3 s=c3Q s :=by unfold c3 c3Q;rw[<- PySem.W.Fast.te479339242167458305]
theorem R1 (s:ar):c5 s=c5Q s :=by unfold c5 c5Q;rw[<- PySem.W.Fast.te2386780881361962483,<- PySem.W.Fast.te821141287760084731]
theorem R3 (s:ar):c4 s=c4Q s :=by unfold c4 c4Q;rw[<- PySem.W.Fast.te16090120013241838585,<- PySem.W.Fast.te3247288618530077131,<- PySem.W.Fast.te11698064438423848299,<- PySem.W.Fast.te7317090234206586261,<- PySem.W.Fast.te7369524293546568484]
set_option maxHeartbeats 0 in
theorem left0 (w:im):(oeQ PySem.Challenge.pw_roadcall_k26_pairs_led w 3230).map (fun s=>kH.obs s)=some (kH.val w) :=by kernel_rfl
set_option maxHeartbeats 0 in
theorem left1 (w:im):(oeQ PySem.Challenge.pw_roadcall_k26_pairs_led w 3230).map c1Q=some (expectedOf kq) :=by kernel_rfl
set_option maxHeartbeats 0 in
theorem left2 (w:im):(oeQ PySem.Challenge.pw_roadcall_k26_pairs_led w 3230).map c2Q=some (bltViewBooted,true) :=by kernel_rfl
set_option maxHeartbeats 0 in
theorem left3 (w:im):(oeQ PySem.Challenge.pw_roadcall_k26_pairs_led w 3230).map c3Q=some true :=by kernel_rfl
set_option maxHeartbeats 0 in
theorem left5 (w:im):(oeQ PySem.Challenge.pw_roadcall_k26_pairs_led w 3230).map c5Q=some (plainGoodE kq (aaa kq kL)) :=by kernel_rfl
set_option maxHeartbeats 0 in
theorem left4 (w:im):(oeQ PySem.Challenge.pw_roadcall_k26_pairs_led w 3230).map c4Q=some (PySem.pinGoodD (drecsOf kq),plainGoodD kq kL,PySem.W.wideGood kq,PySem.W.clsGoodW kq kL) :=by kernel_rfl
theorem left (w:im):(PySem.W.openEnds treeTable PySem.Challenge.pw_roadcall_k26_pairs_led w 3230).map (fun s=>(PySem.W.openSeen kq kL (importedModules PySem.Challenge.pw_roadcall_k26_pairs_led.main.body) (fun s=>aaQ kq [] s && aat [] s) true s,kH.obs s))=some (PySem.W.openGood kq kL,kH.val w) :=by
 rw[RW];have a0:=left0 w;have a1:=left1 w;have a2:=left2 w;have a3:=left3 w;have a4:=left4 w;have a5:=left5 w;revert a0 a1 a2 a3 a4 a5
 generalize oeQ PySem.Challenge.pw_roadcall_k26_pairs_led w 3230=o
 cases o with
 |none=>intro a0;cases a0
 |some s=>
  intro a0 a1 a2 a3 a4 a5;have a0:kH.obs s=kH.val w:=ij a0;have a1:=ij a1;have a2:=ij a2;have a3:=ij a3;have a4:=ij a4;have a5:=ij a5;rw[<- RX]at a1;rw[<- RY]at a2;rw[<- RZ]at a3;rw[<- R3]at a4;rw[<- R1]at a5;show some ((seen ((recsOf kq).map (·.name)) (ownsOf kq) [] {s with gens:=#[]},(c2 s).1,(c2 s).2,c3 s,(c4 s).1,c5 s,(c4 s).2),kH.obs s)=_
  rw[a0,a1,a2,a3,a4,a5];rfl
end My
namespace L2
open PySem PySem.Spec PyProof.Rows
abbrev Key:=Sum Int bi
def qu:Key->al->Bool
 | .inl k,v=>al.isInt k v
 | .inr x,v=>al.isStrOf x v
def Vd (w:im):Key->Int
 | .inl k=>hashInt k
 | .inr x=>hashStr w x
theorem cJ:∀{k:Key}{v:al},qu k v=true->(∃i t,k=Pf i/\v=aal i t)\/(∃x t,k=aab x/\v=ZM x t)
 | .inl i,v,h=>by
          obtain⟨t,e⟩:=Zt (k:=i) (v:=v) h;exact .inl ⟨i,t,rfl,e⟩
 | .inr x,v,h=>by
          obtain⟨t,e⟩:=al.isStrOf_shape (x:=x) (v:=v) h;exact .inr ⟨x,t,rfl,e⟩
theorem DZ (i:Int) (t:aaR):qu (.inl i) (.int i t)=true :=by simp[qu,al.isInt]
theorem D0 (x:bi) (t:aaR):qu (.inr x) (.str x t)=true :=by simp[qu,al.isStrOf]
theorem M7 (a b:Int):decide ((Pf a:Key)=Pf b)=(a==b) :=by
 by_cases e:a=b
 ·subst e;simp
 ·have h:¬ (Pf a:Key)=Pf b:=fun q=>e (Pf.inj q)
  rw[decide_eq_false h];exact(beq_eq_false_iff_ne.mpr e).symm
theorem M8 (a b:bi):decide ((aab a:Key)=aab b)=decide (a=b) :=by
 by_cases e:a=b
 ·subst e;simp
 ·have h:¬ (aab a:Key)=aab b:=fun q=>e (aab.inj q)
  rw[decide_eq_false h,decide_eq_false e]
theorem M9 (a:Int) (b:bi):decide ((Pf a:Key)=aab b)=false:=decide_eq_false (fun q=>nomatch q)
theorem Nb (a:bi) (b:Int):decide ((aab a:Key)=Pf b)=false:=decide_eq_false (fun q=>nomatch q)
def bA (prog:ff) (w:im):PySem.KeyKind prog w Key where
 is:=qu
 hash:=Vd w
 inj:=fun v a b ha hb=>by
  rcases cJ ha with ⟨i,t,rfl,rfl⟩|⟨x,t,rfl,rfl⟩
  ·rcases cJ hb with ⟨j,u,rfl,e⟩|⟨y,u,rfl,e⟩
   ·injection e with e1 _;rw[e1]
   ·exact nomatch e
  ·rcases cJ hb with ⟨j,u,rfl,e⟩|⟨y,u,rfl,e⟩
   ·exact nomatch e
   ·injection e with e1 _;rw[e1]
 byValue:=fun k v h=>by
  rcases cJ h with ⟨i,t,rfl,rfl⟩|⟨x,t,rfl,rfl⟩<;>rfl
 pyHash:=fun hv h=>by
  rcases cJ hv with ⟨i,t,rfl,rfl⟩|⟨x,t,rfl,rfl⟩
  ·exact wpAny_pyHash_int h
  ·exact wpAny_pyHash_str h
 eqBool:=fun hu hv h=>by
  rcases cJ hu with ⟨i,t,rfl,rfl⟩|⟨x,t,rfl,rfl⟩
  ·rcases cJ hv with ⟨j,u,rfl,rfl⟩|⟨y,u,rfl,rfl⟩
   ·rw[M7]at h;exact wpAny_eqBool_int h
   ·rw[M9]at h;exact l4.int_str i t y u _ _ _ _ h
  ·rcases cJ hv with ⟨j,u,rfl,rfl⟩|⟨y,u,rfl,rfl⟩
   ·rw[Nb]at h;exact l4.str_int x t j u _ _ _ _ h
   ·rw[M8]at h;exact wpAny_eqBool_str h
 «strs»:=fun k x t v h=>by
  rcases cJ h with ⟨i,u,rfl,e⟩|⟨y,u,rfl,e⟩
  ·exact nomatch e
  ·injection e with e1 _
   subst e1;cases v<;>rfl
theorem Ad (prog:ff) (w:im) (i:Int) (t:aaR):(bA prog w).is (.inl i) (.int i t)=true:=DZ i t
theorem Ae (prog:ff) (w:im) (x:bi) (t:aaR):(bA prog w).is (.inr x) (.str x t)=true:=D0 x t
inductive V where
 |ax|bl (b:Bool)|int (i:Int)|str (x:bi)|kX (b:Array UInt8)|AW (b:UInt64)|ref (a:ag)|ty (n:String)
 deriving DecidableEq
def RelV:V->al->Prop
 | .ax,u=>u=wS
 | .bl b,u=>u=WI b
 | .int i,u=>∃t,u=aal i t
 | .str x,u=>∃t,u=ZM x t
 | .kX b,u=>∃t,u=al.bytes b t
 | .AW b,u=>∃t,u=al.float b t
 | .ref a,u=>u=l6 a
 | .ty n,u=>u=LB n
abbrev Vals:List V->List al->Prop:=xz RelV
theorem Vals.length {xs:List V}{us:List al}(r:Vals xs us):xs.length=us.length:=IF r
theorem Vals.get:∀{xs:List V}{us:List al}{i:Nat}{x:V},Vals xs us->xs[i]?=some x->∃u,us[i]?=some u/\RelV x u
 |_,_,_,_,.nil,e=>by simp at e
 |_,_,0,_,.cons r _,e=>by simp at e;subst e;exact⟨_,rfl,r⟩
 |_,_,i+1,x,.cons _ t,e=>by
          obtain⟨u,h1,h2⟩:=Vals.get (i:=i) (x:=x) t (by simpa using e)
          exact⟨u,by simpa using h1,h2⟩
theorem Vals.set {x:V}{u:al}(r:RelV x u):∀{xs:List V}{us:List al}(i:Nat),Vals xs us->Vals (xs.set i x) (us.set i u)
 |_,_,_,.nil=>.nil
 |_,_,0,.cons _ t=>.cons r t
 |_,_,i+1,.cons q t=>.cons q (Vals.set r i t)
theorem Vals.append:∀{xs ys:List V}{us ws:List al},Vals xs us->Vals ys ws->Vals (xs++ys) (us++ws)
 |_,_,_,_,.nil,s=>s
 |_,_,_,_,.cons r t,s=>.cons r (Vals.append t s)
theorem Vals.take:∀{xs:List V}{us:List al}(n:Nat),Vals xs us->Vals (xs.take n) (us.take n)
 |_,_,0,_=>.nil
 |_,_,_+1,.nil=>.nil
 |_,_,n+1,.cons r t=>.cons r (Vals.take n t)
theorem Vals.drop:∀{xs:List V}{us:List al}(n:Nat),Vals xs us->Vals (xs.drop n) (us.drop n)
 |_,_,0,r=>r
 |_,_,_+1,.nil=>.nil
 |_,_,n+1,.cons _ t=>Vals.drop n t
def jq:Option V->Option al->Prop
 |some v,some u=>RelV v u
 |none,none=>True
 |_,_=>False
def KV {κ:Type}:List (κ×V)->List (κ×al)->Prop:=xz fun (p:κ×V) (q:κ×al)=>p.1=q.1/\RelV p.2 q.2
def kV:Key->V
 | .inl i=>.int i
 | .inr x=>.str x
inductive HO where
 |lst (xs:List V)
 |tup (xs:List V)
 |dK (aq:List (Key×V))|dT (aq:List (List Key×V))
 |set (S:Int->Bool) (n:Nat)
 |ins (C dx:ag) (fs:List (bi×V))
 |own (x:ag)
 |xd (fs:List (bi×V))
 |met (f x:ag)
 |rng (lo hi:Int)
 |bV (o:kw) (u:HO)
 |dw (ps:Array al)
 |lam (ps:Array al)
 |ext (φ:hX->Prop)
abbrev Hp:=ag->Option HO
def upd (H:Hp) (a:ag) (o:HO):Hp:=fun b=>if b=a then some o else H b
theorem aE {H:Hp}{a:ag}{o:HO}:upd H a o a=some o :=by unfold upd;rw[if_pos rfl]
theorem ah {H:Hp}{a b:ag}{o:HO}(h:b≠a):upd H a o b=H b :=by unfold upd;rw[if_neg h]
theorem sG {H:Hp}{a b:ag}{o u:HO}(h:H a=some o) (h':H b=some u) (d:o≠u):a≠b :=by
 intro e;subst e;rw[h]at h';exact d (ij h')
theorem bp {H:Hp}{a b:ag}{o:HO}(h:H a=some o) (h':H b=none):a≠b :=by
 intro e;subst e;rw[h]at h';cases h'
section
variable (P:ff) (w:im)
def nJ (h:hX) (a:ag) (items:Array al):Prop:=∃o,h.get? a=some o/\o.cls=.type "tuple" /\ ∃n,o.data=.seq items n/\o.dict=none
theorem nJ.tup {h:hX}{a:ag}{items:Array al}(x:nJ h a items):IsTup h a items:=let ⟨o,e,c,n,d,_⟩:=x;⟨o,e,c,n,d⟩
theorem nJ.lt {h:hX}{a:ag}{items:Array al}(x:nJ h a items):a<h.objs.size:=x.tup.lt
theorem nJ.new (h:hX) (items:Array al):nJ (h.push {cls:=.type "tuple",data:=.seq items}) h.objs.size items:=⟨_,db _ rfl,rfl,_,rfl,rfl⟩
def ObjOk (H:Hp) (h:hX) (a:ag):HO->Prop
 | .lst xs=>xs.length<=sizeLine/\∃(its:List al) (n:Nat),Vals xs its/\h.get? a=some {cls:=.type "list",data:=.seq its.toArray n}
 | .tup xs=>xs.length<=sizeLine/\∃its:List al,Vals xs its/\nJ h a its.toArray
 | .dK aq=>aq.length<=sizeLine/\(a==sysModules)=false/\∃vs,KV aq vs/\h.DictOf (bA P w) a vs
 | .dT aq=>aq.length<=sizeLine/\(a==sysModules)=false/\∃xs:List (List Key×ag×al),
   xz (fun (p:List Key×V) (q:List Key×ag×al)=>p.1=q.1/\H q.2.1=some (.tup (p.1.map kV))/\RelV p.2 q.2.2) aq xs /\
   ∃o es ep,h.get? a=some o/\o.ExactDict/\o.data=.dict es ep/\es.toList=xs.map (entryOfKey (tupleKind (bA P w)))/\(xs.map (·.1)).Nodup
 | .set S n=>h.SetOf (intKind P w) a S n
 | .ins C dx fs=>H dx=some (.own a)/\fs.length<=1000/\dx≠a/\h.get? a=some (aa1 C dx) /\
   ∃mA,h.Ns1 dx mA/\(∀f,jq (fs.lookup f) (mA f))/\PySem.Within mA (fs.map (·.1))
 | .own _=>∃o,h.get? a=some o
 | .xd fs=>∃mA,h.Ns1 a mA/\∀f,jq (fs.lookup f) (mA f)
 | .rng lo hi=>∃t u v,h.get? a=some {cls:=.type "range",data:=.fields #[.int lo t,.int hi u,.int 1 v]}
 | .bV o u=>h.get? a=some o/\ObjOk H h a u
 | .dw ps=>h.get? a=some {cls:=.none,data:=.fields ps}
 | .lam ps=>h.get? a=some {cls:=.none,data:=.fields ps}
 | .met f x=>h.get? a=some (aaC (.ref f) (.ref x))
 | .ext φ=>φ h/\(∃o,h.get? a=some o)/\∀h1 h2:hX,φ h1->(∀o,h1.get? a=some o->h2.get? a=some o)->φ h2
def c7 (H:Hp) (h:hX):Prop:=∀a o,H a=some o->ObjOk P w H h a o
end
section
variable {P:ff}{w:im}{H H':Hp}{h h':hX}{a:ag}{o:HO}
theorem ObjOk.lt (x:ObjOk P w H h a o):a<h.objs.size :=by
 cases o with
 |lst xs=>obtain⟨_,_,_,_,e⟩:=x;exact gc e
 |tup xs=>obtain⟨_,_,_,p⟩:=x;exact p.lt
 |dK aq=>obtain⟨_,_,_,_,o,_,_,e,_⟩:=x;exact gc e
 |dT aq=>obtain⟨_,_,_,_,o,_,_,e,_⟩:=x;exact gc e
 |set S n=>obtain⟨o,_,_,_,e,_⟩:=x;exact gc e
 |ins C dx fs=>obtain⟨_,_,_,e,_⟩:=x;exact gc e
 |own y=>obtain⟨_,e⟩:=x;exact gc e
 |xd fs=>obtain⟨_,⟨_,_,_,e,_⟩,_⟩:=x;exact gc e
 |rng lo hi=>obtain⟨_,_,_,e⟩:=x;exact gc e
 |bV ob u=>obtain⟨e,_⟩:=x;exact gc e
 |dw ps=>exact gc (show h.get? a=some _ from x)
 |lam ps=>exact gc (show h.get? a=some _ from x)
 |met f y=>exact gc (show h.get? a=some _ from x)
 |ext φ=>obtain⟨_,⟨_,e⟩,_⟩:=x;exact gc e
theorem xz.B7 {α β:Type}{F G:α->β->Prop}:∀{xm:List α}{l₂:List β},xz F xm l₂->(∀a b,F a b->G a b)->xz G xm l₂
 |_,_,.nil,_=>.nil
 |_,_,.cons r t,f=>.cons (f _ _ r) (xz.B7 t f)
theorem xz.imp' {α β:Type}{F G:α->β->Prop}(f:∀a b,F a b->G a b) {xm:List α}{l₂:List β}(r:xz F xm l₂):xz G xm l₂:=xz.B7 r f
theorem ObjOk.cG (x:ObjOk P w H h a o) (k:∀b u,(b=a\/H b=some (.own a))->h.get? b=some u->h'.get? b=some u)
  (ho:∀b,H b=some (.own a)->H' b=some (.own a)) (ht:∀b xs,H b=some (.tup xs)->H' b=some (.tup xs)):ObjOk P w H' h' a o :=by
 induction o with
 |lst xs=>obtain⟨z,its,n,r,e⟩:=x;exact⟨z,its,n,r,k _ _ (.inl rfl) e⟩
 |tup xs=>obtain⟨z,its,r,ob,e,c⟩:=x;exact⟨z,its,r,ob,k _ _ (.inl rfl) e,c⟩
 |dK aq=>obtain⟨z,y,vs,r,ob,es,ep,e,c⟩:=x;exact⟨z,y,vs,r,ob,es,ep,k _ _ (.inl rfl) e,c⟩
 |dT aq=>
  obtain⟨z,y,xs,r,ob,es,ep,e,c⟩:=x;exact⟨z,y,xs,xz.B7 r fun p q z=>⟨z.1,ht _ _ z.2.1,z.2.2⟩,ob,es,ep,k _ _ (.inl rfl) e,c⟩
 |set S n=>obtain⟨ob,es,ep,t,e,c⟩:=x;exact⟨ob,es,ep,t,k _ _ (.inl rfl) e,c⟩
 |ins C dx fs=>
  obtain⟨d,z,ne,e,mA,⟨od,es,ep,e2,c⟩,r⟩:=x;exact⟨ho _ d,z,ne,k _ _ (.inl rfl) e,mA,⟨od,es,ep,k _ _ (.inr d) e2,c⟩,r⟩
 |own y=>obtain⟨ob,e⟩:=x;exact⟨ob,k _ _ (.inl rfl) e⟩
 |xd fs=>obtain⟨mA,⟨od,es,ep,e,c⟩,r⟩:=x;exact⟨mA,⟨od,es,ep,k _ _ (.inl rfl) e,c⟩,r⟩
 |rng lo hi=>obtain⟨t,u,v,e⟩:=x;exact⟨t,u,v,k _ _ (.inl rfl) e⟩
 |bV ob u ih=>obtain⟨e,q⟩:=x;exact⟨k _ _ (.inl rfl) e,ih q⟩
 |dw ps=>
  have e:h.get? a=some {cls:=.none,data:=.fields ps}:=x;show h'.get? a=some {cls:=.none,data:=.fields ps};exact k a _ (.inl rfl) e
 |lam ps=>
  have e:h.get? a=some {cls:=.none,data:=.fields ps}:=x;show h'.get? a=some {cls:=.none,data:=.fields ps};exact k a _ (.inl rfl) e
 |met f y=>
  have e:h.get? a=some (aaC (.ref f) (.ref y)):=x;show h'.get? a=some (aaC (.ref f) (.ref y));exact k a _ (.inl rfl) e
 |ext φ=>obtain⟨p,⟨o,e⟩,st⟩:=x;exact⟨st _ _ p fun o q=>k _ _ (.inl rfl) q,⟨o,k _ _ (.inl rfl) e⟩,st⟩
theorem c7.lt (x:c7 P w H h) (e:H a=some o):a<h.objs.size:=(x a o e).lt
theorem c7.fresh (x:c7 P w H h) (e:h.objs.size<=a):H a=none :=by
 cases q:H a with
 |none=>rfl
 |some u=>exact absurd (l3 (x.lt q) e) (FF _)
theorem c7.kept (x:c7 P w H h) (k:∀b u,h.get? b=some u->h'.get? b=some u):c7 P w H h':=fun a o e=>
 (x a o e).cG (fun b u _ q=>k b u q) (fun _ q=>q) fun _ _ q=>q
theorem c7.laid (x:c7 P w H h) (k:∀b u,h.get? b=some u->h'.get? b=some u) (hp:h.objs.size<=a) (new:ObjOk P w (upd H a o) h' a o):c7 P w (upd H a o) h':=fun b u e=>by
 have hn:=x.fresh hp;by_cases hb:b=a
 ·subst hb;rw[aE]at e;cases e;exact new
 ·rw[ah hb]at e;exact(x b u e).cG (fun c v _ q=>k c v q) (fun c q=>by rw[ah (bp q hn)];exact q) fun c xs q=>by rw[ah (bp q hn)];exact q
end
def Rd (H:Hp) (a:ag) (u:HO):Prop:=H a=some u\/∃o,H a=some (.bV o u)
theorem Rd.ok {P:ff}{w:im}{H:Hp}{h:hX}{a:ag}{u:HO}(r:Rd H a u) (x:c7 P w H h):ObjOk P w H h a u :=by
 rcases r with r|⟨o,r⟩
 ·exact x a u r
 ·obtain⟨_,q⟩:=x a _ r;exact q
def D1:Option HO->Prop
 |some (.lst _)=>True
 |some (.dK _)=>True
 |some (.dT _)=>True
 |some (.set _ _)=>True
 |some (.ins _ _ _)=>True
 |some (.ext _)=>True
 |some (.lam _)=>True
 |_=>False
section
variable {P:ff}{w:im}{H:Hp}{h h':hX}{x e:ag}{o':HO}
theorem c7.write (ok:c7 P w H h) (mu:D1 (H x)) (he:e=x\/H e=some (.own x)) (k:∀b u,b≠e->h.get? b=some u->h'.get? b=some u) (AX:∃u,h'.get? e=some u)
  (new:ObjOk P w (upd H x o') h' x o'):c7 P w (upd H x o') h':=fun b u q=>by
 have Nc:∀c y,H c=some (.own y)->c≠x:=fun c y r z=>by subst z;rw[r]at mu;exact mu
 have Ve:∀c xs,H c=some (.tup xs)->c≠x:=fun c xs r z=>by subst z;rw[r]at mu;exact mu
 by_cases hb:b=x
 ·subst hb;rw[aE]at q;cases q;exact new
 ·rw[ah hb]at q;by_cases xn:b=e
  ·have q':H b=some (.own x) :=by
    rcases he with z|z
    ·exact absurd (xn.trans z) hb
    ·rw[xn];exact z
   rw[q]at q';cases q';obtain⟨v,hv⟩:=AX;exact⟨v,by rw[xn];exact hv⟩
  ·refine(ok b u q).cG (fun c v hc r=>k c v ?_ r) (fun c r=>by rw[ah (Nc c b r)];exact r) fun c xs r=>by rw[ah (Ve c xs r)];exact r
   rcases hc with rfl|hc
   ·exact xn
   ·rintro rfl;rcases he with z|z
    ·exact Nc c b hc z
    ·rw[hc]at z;cases z;exact hb rfl
end
structure Un (fs ex:List ag) (H H':Hp) (h h':hX):Prop where
 keep:∀b o,h.get? b=some o->H b=none->b ∉ fs->b ∉ ex->h'.get? b=some o
 slot:∀b o,h.get? b=some o->H b=none->b∈fs->b ∉ ex->∃sl,h'.get? b=some {o with slots:=sl}
 free:∀b o,h.get? b=some o->H b=none->b ∉ ex->H' b=none
 there:∀b o,h.get? b=some o->b ∉ ex->∃o',h'.get? b=some o'
 tups:∀b xs,H b=some (.tup xs)->H' b=some (.tup xs)
 frzs:∀b o u,H b=some (.bV o u)->H' b=some (.bV o u)
 tbls:∀b ps,H b=some (.dw ps)->∃more,H' b=some (.dw (ps++more))
section
variable {fs Wu ex YW:List ag}{H H1 H2:Hp}{h h1 h2 h':hX}{a x e:ag}{o:HO}
theorem Un.any (u:Un fs ex H H1 h h1) {b:ag}{ob:kw}(q:h.get? b=some ob) (n:H b=none) (hx:b ∉ ex):∃sl,h1.get? b=some {ob with slots:=sl}:=by
 by_cases hb:b∈fs
 ·exact u.slot b ob q n hb hx
 ·exact⟨ob.slots,u.keep b ob q n hb hx⟩
theorem Un.kept (k:∀b u,h.get? b=some u->h'.get? b=some u):Un fs ex H H h h':=
 ⟨fun b ob q _ _ _=>k b ob q,fun b ob q _ _ _=>⟨ob.slots,k b ob q⟩,fun _ _ _ n _=>n,fun b ob q _=>⟨ob,k b ob q⟩,fun _ _ q=>q,fun _ _ _ q=>q,fun _ ps q=>⟨#[],by rw[q];simp⟩⟩
theorem Un.refl:Un fs ex H H h h:=Un.kept fun _ _ q=>q
theorem Un.laid (k:∀b u,h.get? b=some u->h'.get? b=some u) (hp:h.objs.size<=a) (hn:H a=none):Un fs ex H (upd H a o) h h' where
 keep:=fun b u q _ _ _=>k b u q
 slot:=fun b u q _ _ _=>⟨u.slots,k b u q⟩
 free:=fun b u q n _=>by rw[ah (jp (l3 (gc q) hp))];exact n
 there:=fun b u q _=>⟨u,k b u q⟩
 tups:=fun b xs q=>by rw[ah (bp q hn)];exact q
 frzs:=fun b u xs q=>by rw[ah (bp q hn)];exact q
 tbls:=fun b ps q=>⟨#[],by rw[ah (bp q hn),q];simp⟩
theorem Un.write (mu:D1 (H x)) (he:e=x\/H e=some (.own x)) (k:∀b u,b≠e->h.get? b=some u->h'.get? b=some u) (AX:∃u,h'.get? e=some u):Un fs ex H (upd H x o) h h':=by
 have hx:∀b,H b=none->b≠x:=fun b n z=>by subst z;rw[n]at mu;exact mu
 have hb:∀b,H b=none->b≠e:=fun b n z=>by
  subst z;rcases he with r|r
  ·exact hx b n r
  ·rw[n]at r;cases r
 have hm:∀b u,H b=some u->¬ D1 (some u)->b≠x:=fun b u q nm z=>by subst z;rw[q]at mu;exact nm mu
 refine⟨fun b u q n _ _=>k b u (hb b n) q,fun b u q n _ _=>⟨u.slots,k b u (hb b n) q⟩,fun b u q n _=>by rw[ah (hx b n)];exact n,fun b u q _=>?_,
  fun b xs q=>by rw[ah (hm b _ q fun z=>z)];exact q,fun b u xs q=>by rw[ah (hm b _ q fun z=>z)];exact q,fun b ps q=>⟨#[],by rw[ah (hm b _ q fun z=>z),q];simp⟩⟩
 by_cases xn:b=e
 ·subst xn;exact AX
 ·exact⟨u,k b u xn q⟩
end
def JI (h:hX) (H:Hp):List ag:=(ii h.objs.size).filter fun a=>(H a).isSome
def kY (h:hX) (H:Hp):hX:=BN h (JI h H)
theorem D2 (h:hX) (H:Hp):(kY h H).objs.size=h.objs.size:=PySem.W.hideAll_size _ _
theorem Hm {h:hX}{H:Hp}{b:ag}{o:kw}(e:h.get? b=some o) (n:H b=none):(kY h H).get? b=some o:=
 YA _ e fun hm=>by
  have q:(H b).isSome=true:=(EN.mp hm).2;rw[n]at q;simp at q
theorem K1 {h:hX}{H:Hp}{b:ag}{o:kw}(e:(kY h H).get? b=some o):h.get? b=some o/\H b=none :=by
 have e':h.get? b=some o:=aam (JI h H) e;refine⟨e',?_⟩;cases q:H b with
 |none=>rfl
 |some x=>
  have hm:b∈JI h H:=EN.mpr ⟨uu.mpr (gc e'),by simp[q]⟩
  have z:(kY h H).get? b=none:=PySem.W.hideAll_none (JI h H) hm;rw[z]at e;cases e
def K2 (g h:hX) (L:ag):List (ag×kw):=(ii h.objs.size).filterMap fun a=>if a=L\/(g.get? a).isSome=true then none else (h.get? a).map fun o=>(a,o)
def rest (g h:hX) (L d:ag):List (ag×kw):=(K2 g h L).filter fun p=>decide (p.1≠d)
structure Mod (K:ba) (mg:bi->Option al) (base:hX):Prop where
 kin:K.In base
 glob:base.Ns mainGlobals mg
 blt:∃mb,base.Ns builtinsNs mb/\∀x:bi,x ≠ "__name__" -> mb x=bootBuiltins x
 nolimit:base.NoLimit
structure Cx where
 prog:ff
 w:im
 K:ba
 mg:bi->Option al
 base:hX
 A:l5
 N:List bi
 s₀:ar
 H₀:Hp
 env:IN
 outer:List IN
 stack:List IN
 ex:List ag
 fn:bi->Bool
 calm:Bool
 pn:List (ag×kw)
 xe:al->ar->Prop
def fm (l:List IN):List ag:=l.filterMap (·.frame)
abbrev Cx.fs (X:Cx):List ag:=fm X.outer
def qY (sc:sB) (x:bi):Prop:=sc.names.lookup x=some .local\/sc.names.lookup x=some .cell\/sc.names.lookup x=some .free
def Loc (sc:sB) (x:bi):Prop:=sc.names.lookup x=some .local\/sc.names.lookup x=some .cell
def Look (env:IN) (h:hX) (m:bi->Option al) (x:bi) (u:al):Prop:=
 (env.kindOf x=some .local/\m x=some u)\/((env.kindOf x=some .cell\/env.kindOf x=some .free)/\∃c,env.cells.lookup x=some c/\h.IsCell c (some u))
structure Cx.Ok (X:Cx):Prop where
 mod:Mod X.K X.mg X.base
 kind:X.env.scope.kind=.function
 glob:X.env.globals=mainGlobals
 blt:X.env.builtins=builtinsNs
 above:X.s₀.heap.objs.size<=X.env.locals
 inj:∀x y c,X.env.cells.lookup x=some c->X.env.cells.lookup y=some c->x=y
 has:∀x,(X.env.kindOf x=some .cell\/X.env.kindOf x=some .free)->∃c,X.env.cells.lookup x=some c
 cab:∀x c,X.fn x=true->X.env.cells.lookup x=some c->X.s₀.heap.objs.size<=c
 hd:X.calm=true->X.A.handled=none
 frames:X.A.frames=some X.stack
 stk:X.stack=X.outer\/(X.stack=X.env::X.outer/\X.env.frame=some X.env.locals)
 exf:∀b∈X.ex,b≠X.env.locals/\∀x c,X.env.cells.lookup x=some c->c≠b
 bs:∀b o,X.base.get? b=some o->X.s₀.heap.get? b=some o/\X.H₀ b=none
 bsz:X.base.objs.size<=X.s₀.heap.objs.size
 noex:∀b o,X.base.get? b=some o->b ∉ X.ex
 exfs:∀b∈X.ex,b ∉ X.fs
 funs:X.s₀.heap.FunFrames X.base X.outer
 frf:∀b∈X.fs,X.H₀ b=none
def Gn (n:Nat) (g:Array TM):Prop:=abc g/\n<=g.size
theorem Gn.self {n:Nat}{g:Array TM}(x:Gn n g):Gn g.size g:=⟨x.1,cb _⟩
theorem Gn.trans {n:Nat}{g g':Array TM}(x:Gn n g) (y:Gn g.size g'):Gn n g':=⟨y.1,qr x.2 y.2⟩
structure Inv (X:Cx) (pins:List (ag×kw)) (σ:List (Option V)) (H:Hp) (s:ar):Prop where
 ok:X.Ok
 os:s.os=X.s₀.os
 bare:Gn X.s₀.gens.size s.gens
 base:Un X.fs X.ex X.H₀ H X.s₀.heap s.heap
 loc:∃m,s.heap.Ns X.env.locals m/\∀(i:Nat) (x:bi) (v:V),X.N[i]?=some x->σ[i]?=some (some v)->qY X.env.scope x->∃u,RelV v u/\Look X.env s.heap m x u
 cell:∀x c,X.env.cells.lookup x=some c->∃v,s.heap.IsCell c v
 free:H X.env.locals=none
 freeC:∀x c,X.env.cells.lookup x=some c->H c=none
 pin:∀p∈X.pn++pins,s.heap.get? p.1=some p.2/\H p.1=none/\p.1≠X.env.locals/\p.1 ∉ X.fs/\∀v,p.2.data≠.cell v
 hok:c7 X.prog X.w H s.heap
 len:σ.length=X.N.length
section
variable {X:Cx}{pins:List (ag×kw)}{σ:List (Option V)}{H H':Hp}{s:ar}{h':hX}
theorem Cx.Ok.Vf (ok:X.Ok) {b:ag}{o:kw}(e:X.base.get? b=some o):b ∉ X.fs:=fun hb=>by
 have:=(ok.funs.mem hb).1;rw[e]at this;cases this
theorem Inv.bs (I:Inv X pins σ H s):∀b o,X.base.get? b=some o->s.heap.get? b=some o/\H b=none:=fun b o e=>
 ⟨I.base.keep b o (I.ok.bs b o e).1 (I.ok.bs b o e).2 (I.ok.Vf e) (I.ok.noex b o e),I.base.free b o (I.ok.bs b o e).1 (I.ok.bs b o e).2 (I.ok.noex b o e)⟩
theorem Inv.bk (I:Inv X pins σ H s):∀b o,X.base.get? b=some o->s.heap.get? b=some o:=fun b o e=>(I.bs b o e).1
theorem Inv.mod (I:Inv X pins σ H s):Mod X.K X.mg X.base:=I.ok.mod
theorem Inv.iU (I:Inv X pins σ H s):X.K.In s.heap:=I.ok.mod.kin.keeps I.bk
theorem Inv.nolimit (I:Inv X pins σ H s):s.heap.NoLimit:=I.ok.mod.nolimit.keeps I.bk
theorem Inv.lt (I:Inv X pins σ H s):X.env.locals<s.heap.objs.size:=let ⟨_,hn,_⟩:=I.loc;hn.lt
theorem Inv.sz (I:Inv X pins σ H s):X.s₀.heap.objs.size<=s.heap.objs.size:=qr I.ok.above (Ll I.lt)
theorem Inv.Nf (I:Inv X pins σ H s) {a:ag}(h:s.heap.objs.size<=a):a ∉ X.fs:=fun hb=>by
 obtain⟨_,o,ho,_⟩:=I.ok.funs.mem hb;exact absurd (l3 (gc ho) (qr I.sz h)) (FF _)
theorem Inv.vj (I:Inv X pins σ H s):∀x c,X.env.cells.lookup x=some c->c≠X.env.locals:=fun x c e z=>by
 obtain⟨v,o,ho,hd⟩:=I.cell x c e;obtain⟨m,⟨o',es,ep,fV,jS,_⟩,_⟩:=I.loc;rw[z,fV]at ho;cases ho;rw[jS]at hd;cases hd
theorem Inv.funs (I:Inv X pins σ H s):s.heap.FunFrames X.base X.outer :=by
 have all:∀(l:List IN),(∀b∈fm l,b∈X.fs)->X.s₀.heap.FunFrames X.base l->s.heap.FunFrames X.base l :=by
  intro l;induction l with
  |nil=>intro _ _;trivial
  |cons env r ih=>
   intro hs hl;obtain⟨hk,⟨L,o,hf,hn,ho,hd⟩,hr⟩:=hl;have hL:L∈X.fs:=hs L (by unfold fm;rw[KM,hf];exact i8)
   obtain⟨sl,e⟩:=I.base.slot L o ho (I.ok.frf L hL) hL fun z=>I.ok.exfs L z hL
   exact⟨hk,⟨L,_,hf,hn,e,hd⟩,ih (fun b hb=>hs b (by unfold fm;rw[KM,hf];exact en _ hb)) hr⟩
 exact all X.outer (fun _ hb=>hb) I.ok.funs
theorem Inv.stack (I:Inv X pins σ H s):s.heap.FunFrames X.base X.stack :=by
 rcases I.ok.stk with e|⟨e,hf⟩
 ·rw[e];exact I.funs
 ·rw[e];obtain⟨m,hn,_⟩:=I.loc;refine .cons (by rw[I.ok.kind];decide) hf hn ?_ I.funs
  exact hX.get?_none_of_le (qr I.ok.bsz I.ok.above)
theorem Inv.gb (I:Inv X pins σ H s):∀b∈fm X.stack,b∈X.env.locals::X.fs:=fun b hb=>by
 rcases I.ok.stk with e|⟨e,hf⟩
 ·rw[e]at hb;exact en _ hb
 ·rw[e]at hb;unfold fm at hb;rw[KM,hf]at hb;exact hb
theorem Inv.m9 (I:Inv X pins σ H s):∀b∈fm X.stack,H b=none:=fun b hb=>by
 rcases i4.mp (I.gb b hb) with e|hb
 ·rw[e];exact I.free
 ·obtain⟨_,o,ho,_⟩:=I.ok.funs.mem hb;exact I.base.free b o ho (I.ok.frf b hb) fun z=>I.ok.exfs b z hb
theorem Inv.step {g':Array TM}{t':Nat}{d':Drawn}{ch:List ag}(I:Inv X pins σ H s)
  (qZ:∀b∈ch,(b∈X.ex\/X.s₀.heap.objs.size<=b)/\b≠X.env.locals/\(∀x c,X.env.cells.lookup x=some c->c≠b)/\∀p∈X.pn++pins,p.1≠b)
  (keep:∀b o,b≠X.env.locals->b ∉ X.fs->b ∉ ch->s.heap.get? b=some o->H b=none->h'.get? b=some o)
  (slot:∀b o,b≠X.env.locals->b∈X.fs->b ∉ ch->s.heap.get? b=some o->H b=none->∃sl,h'.get? b=some {o with slots:=sl}) (free:∀b o,b ∉ ch->s.heap.get? b=some o->H b=none->H' b=none)
  (there:∀b o,b ∉ ch->s.heap.get? b=some o->∃o',h'.get? b=some o')
  (tups:∀b xs,H b=some (.tup xs)->H' b=some (.tup xs)) (frzs:∀b o u,H b=some (.bV o u)->H' b=some (.bV o u)) (tbls:∀b ps,H b=some (.dw ps)->∃more,H' b=some (.dw (ps++more)))
  (ns:∀m,s.heap.Ns X.env.locals m->h'.Ns X.env.locals m) (hok:c7 X.prog X.w H' h') (hg:Gn s.gens.size g') :
  Inv X pins σ H' {s with heap:=h',gens:=g',drawn:=d',toks:=t'}:=by
 have TL:∀b o,X.s₀.heap.get? b=some o->b≠X.env.locals:=fun b o e=>jp (l3 (gc e) I.ok.above)
 have JK:∀b o,X.s₀.heap.get? b=some o->b ∉ X.ex->b ∉ ch:=fun b o e hx hb=>by
  rcases (qZ b hb).1 with z|z
  ·exact hx z
  ·exact absurd (l3 (gc e) z) (FF _)
 have cellK:∀x c,X.env.cells.lookup x=some c->∀v,s.heap.IsCell c v->h'.IsCell c v:=fun x c e v ⟨o,ho,hd⟩=>by
  have D3:c ∉ ch:=fun z=>(qZ c z).2.2.1 x c e rfl
  by_cases hc:c∈X.fs
  ·obtain⟨sl,q⟩:=slot c o (I.vj x c e) hc D3 ho (I.freeC x c e);exact⟨_,q,hd⟩
  ·exact⟨o,keep c o (I.vj x c e) hc D3 ho (I.freeC x c e),hd⟩
 refine⟨I.ok,I.os,I.bare.trans hg,⟨fun b o e n hb hx=>?_,fun b o e n hb hx=>?_,fun b o e n hx=>?_,fun b o e hx=>?_,fun b xs e=>tups b xs (I.base.tups b xs e),fun b o xs e=>frzs b o xs (I.base.frzs b o xs e),fun b ps e=>?_⟩,?_,fun x c e=>?_,?_,fun x c e=>?_,fun p hp=>?_,hok,I.len⟩
 ·exact keep b o (TL b o e) hb (JK b o e hx) (I.base.keep b o e n hb hx) (I.base.free b o e n hx)
 ·obtain⟨sl,e1⟩:=I.base.slot b o e n hb hx;obtain⟨TN,e2⟩:=slot b _ (TL b o e) hb (JK b o e hx) e1 (I.base.free b o e n hx);exact⟨TN,e2⟩
 ·obtain⟨o',e1⟩:=I.base.there b o e hx;exact free b o' (JK b o e hx) e1 (I.base.free b o e n hx)
 ·obtain⟨o',e1⟩:=I.base.there b o e hx;exact there b o' (JK b o e hx) e1
 ·obtain⟨m1,e1⟩:=I.base.tbls b ps e;obtain⟨m2,e2⟩:=tbls b _ e1;exact⟨m1++m2,by rw[e2,Array.append_assoc]⟩
 ·obtain⟨m,hn,hl⟩:=I.loc;refine⟨m,ns m hn,fun i x v e1 e2 e3=>?_⟩
  obtain⟨u,r,l⟩:=hl i x v e1 e2 e3;refine⟨u,r,?_⟩;rcases l with l|⟨k,c,e,z⟩
  ·exact .inl l
  ·exact .inr ⟨k,c,e,cellK x c e _ z⟩
 ·obtain⟨v,z⟩:=I.cell x c e;exact⟨v,cellK x c e v z⟩
 ·obtain⟨m,⟨o,_,_,ho,_⟩,_⟩:=I.loc;exact free _ o (fun z=>(qZ _ z).2.1 rfl) ho I.free
 ·obtain⟨v,o,ho,hd⟩:=I.cell x c e;exact free c o (fun z=>(qZ c z).2.2.1 x c e rfl) ho (I.freeC x c e)
 ·obtain⟨e,n,ne,nf,d⟩:=I.pin p hp;have D3:p.1 ∉ ch:=fun z=>(qZ p.1 z).2.2.2 p hp rfl
  exact⟨keep p.1 p.2 ne nf D3 e n,free p.1 p.2 D3 e n,ne,nf,d⟩
theorem Inv.un {t':Nat}(I:Inv X pins σ H s) (u:Un X.fs [] H H' s.heap h') (hok:c7 X.prog X.w H' h'):Inv X pins σ H' {s with heap:=h',toks:=t'}:=by
 obtain⟨m,⟨o,es,ep,ho,r⟩,_⟩:=id I.loc;obtain⟨sl,hL⟩:=u.any ho I.free (by simp)
 exact I.step (g':=s.gens) (d':=s.drawn) (ch:=[]) (fun _ z=>nomatch z) (fun b o _ hb _ e n=>u.keep b o e n hb (by simp)) (fun b o _ hb _ e n=>u.slot b o e n hb (by simp)) (fun b o _ e n=>u.free b o e n (by simp)) (fun b o _ e=>u.there b o e (by simp)) u.tups u.frzs u.tbls (fun m' hm=>by
  obtain⟨o',jT,Ng,fV,r'⟩:=hm;rw[ho]at fV;cases fV;exact⟨_,jT,Ng,hL,r'⟩) hok I.bare.self
theorem Inv.call {g':Array TM}{t':Nat}{d':Drawn}{ch:List ag}(I:Inv X pins σ H s) (u:Un (fm X.stack) ch H H' s.heap h') (hok:c7 X.prog X.w H' h') (hg:Gn s.gens.size g')
  (qZ:∀b∈ch,(b∈X.ex\/X.s₀.heap.objs.size<=b)/\b≠X.env.locals/\(∀x c,X.env.cells.lookup x=some c->c≠b)/\∀p∈X.pn++pins,p.1≠b) :
  Inv X pins σ H' {s with heap:=h',gens:=g',drawn:=d',toks:=t'}:=by
 obtain⟨m,⟨o,es,ep,ho,r⟩,_⟩:=id I.loc;obtain⟨sl,hL⟩:=u.any ho I.free fun z=>(qZ _ z).2.1 rfl
 exact I.step (ch:=ch) qZ (fun b o hL hb hc e n=>u.keep b o e n (fun z=>(i4.mp (I.gb b z)).elim hL hb) hc) (fun b o _ _ hc e n=>u.any e n hc) (fun b o hc e n=>u.free b o e n hc) (fun b o hc e=>u.there b o e hc) u.tups u.frzs u.tbls (fun m' hm=>by
  obtain⟨o',jT,Ng,fV,r'⟩:=hm;rw[ho]at fV;cases fV;exact⟨_,jT,Ng,hL,r'⟩) hok hg
theorem Inv.turned {t':Nat}{it:ag}(I:Inv X pins σ H s) (k:∀b o,b≠it->s.heap.get? b=some o->h'.get? b=some o) (hn:H it=none) (hL:it≠X.env.locals)
  (h1:it∈X.ex\/X.s₀.heap.objs.size<=it) (h2:∀x c,X.env.cells.lookup x=some c->c≠it) (h3:∀p∈X.pn++pins,p.1≠it):Inv X pins σ H {s with heap:=h',toks:=t'}:=by
 have D4:∀b u,H b=some u->b≠it:=fun b u e z=>by rw[z,hn]at e;cases e
 refine I.step (g':=s.gens) (d':=s.drawn) (ch:=[it]) (fun b hb=>?_) (fun b o _ _ hc e _=>k b o (fun z=>hc (by simp[z])) e) (fun b o _ _ hc e _=>⟨o.slots,k b o (fun z=>hc (by simp[z])) e⟩) (fun _ _ _ _ n=>n)
  (fun b o hc e=>⟨o,k b o (fun z=>hc (by simp[z])) e⟩) (fun _ _ e=>e) (fun _ _ _ e=>e) (fun b ps e=>⟨#[],by rw[e];simp⟩) (fun m hm=>?_) (fun b u e=>?_) I.bare.self
 ·have e:b=it :=by simpa using hb
  subst e;exact⟨h1,hL,h2,h3⟩
 ·obtain⟨o,es,ep,ho,r⟩:=hm;exact⟨o,es,ep,k _ o (ze hL) ho,r⟩
 ·refine(I.hok b u e).cG (fun c v hc q=>k c v ?_ q) (fun _ q=>q) fun _ _ q=>q
  rcases hc with z|z
  ·rw[z];exact D4 b u e
  ·exact D4 c _ z
theorem Inv.tok (I:Inv X pins σ H s) (t:Nat):Inv X pins σ H {s with toks:=t}:=I.un (h':=s.heap) (t':=t) Un.refl I.hok
theorem Inv.kept {t':Nat}(I:Inv X pins σ H s) (k:∀b u,s.heap.get? b=some u->h'.get? b=some u):Inv X pins σ H {s with heap:=h',toks:=t'}:=I.un (Un.kept k) (I.hok.kept k)
theorem Inv.laid {a:ag}{o:HO}{t':Nat}(I:Inv X pins σ H s) (k:∀b u,s.heap.get? b=some u->h'.get? b=some u) (hp:s.heap.objs.size<=a) (new:ObjOk X.prog X.w (upd H a o) h' a o) :
  Inv X pins σ (upd H a o) {s with heap:=h',toks:=t'}:=I.un (Un.laid k hp (I.hok.fresh hp)) (I.hok.laid k hp new)
theorem Inv.write {x e:ag}{o:HO}{t':Nat}(I:Inv X pins σ H s) (mu:D1 (H x)) (he:e=x\/H e=some (.own x)) (k:∀b u,b≠e->s.heap.get? b=some u->h'.get? b=some u) (AX:∃u,h'.get? e=some u)
  (new:ObjOk X.prog X.w (upd H x o) h' x o):Inv X pins σ (upd H x o) {s with heap:=h',toks:=t'}:=I.un (Un.write mu he k AX) (I.hok.write mu he k AX new)
theorem Inv.ux {pins':List (ag×kw)}(I:Inv X pins σ H s) (h:∀p∈pins',s.heap.get? p.1=some p.2/\H p.1=none/\p.1≠X.env.locals/\p.1 ∉ X.fs/\∀v,p.2.data≠.cell v):Inv X pins' σ H s:=
 ⟨I.ok,I.os,I.bare,I.base,I.loc,I.cell,I.free,I.freeC,fun p hp=>(rf.mp hp).elim (fun z=>I.pin p (r9 _ z)) (h p),I.hok,I.len⟩
theorem xo {N:List bi}(hN:N.Nodup) {i j:Nat}{x:bi}(a:N[i]?=some x) (b:N[j]?=some x):i=j :=by
 obtain⟨h1,e1⟩:=ca.mp a;obtain⟨h2,e2⟩:=ca.mp b;exact(List.getElem_inj hN).mp (e1.trans e2.symm)
theorem store_ok2 {M:Model}{A:l5}{E:al->ar->Prop}{i:Nat}{x:bi}{v:V}{u:al}{Q:Unit->ar->Prop}(I:Inv X pins σ H s) (hN:X.N.Nodup) (hi:X.N[i]?=some x) (hx:Loc X.env.scope x) (r:RelV v u)
  (h:∀s',Inv X pins (σ.set i (some v)) H s'->(∃a,v6 a s.heap s'.heap/\(a=X.env.locals\/X.env.cells.lookup x=some a))->Q () s') (hf:X.fn x=true\/X.env.scope.names.lookup x=some .local :=by first|exact .inl rfl|exact .inr rfl|assumption):wpAny M A (storeName X.env x u) Q E s :=by
 obtain⟨m,hn,hl⟩:=id I.loc;have Vg:(X.env.scope.kind==.class || (X.env.scope.kind==.module && X.env.locals != X.env.globals))=false :=by rw[I.ok.kind];rfl
 have Nh:i<σ.length :=by rw[I.len];exact(ca.mp hi).1
 have vj:=I.vj;have tracked:∀{a:ag} {h':hX},(∃o,s.heap.get? a=some o/\H a=none)->v6 a s.heap h'->c7 X.prog X.w H h':=fun {a h'} ha hs b ob e=>by
  obtain⟨_,_,qw⟩:=ha;refine(I.hok b ob e).cG (fun c w' hc q=>(hs.2 c ?_).trans q) (fun _ q=>q) fun _ _ q=>q
  rintro rfl;rcases hc with rfl|hc
  ·rw[qw]at e;cases e
  ·rw[qw]at hc;cases hc
 rcases hx with hk|hk
 ·refine wpAny_storeName_local hk hn (fun h' D5 hs=>?_) Vg
  obtain⟨oL,_,_,sH,_⟩:=id hn;refine h _ ⟨I.ok,I.os,I.bare,⟨fun b o e n hb hx=>?_,fun b o e n hb hx=>?_,I.base.free,fun b o e hx=>?_,I.base.tups,I.base.frzs,I.base.tbls⟩,⟨_,D5,fun j y v' e1 e2 e3=>?_⟩,fun y c e=>?_,I.free,I.freeC,fun p hp=>?_,tracked ⟨oL,sH,I.free⟩ hs,by simpa using I.len⟩ ⟨_,hs,.inl rfl⟩
  ·exact(hs.2 b (jp (l3 (gc e) I.ok.above))).trans (I.base.keep b o e n hb hx)
  ·obtain⟨sl,e1⟩:=I.base.slot b o e n hb hx;exact⟨sl,(hs.2 b (jp (l3 (gc e) I.ok.above))).trans e1⟩
  ·obtain⟨o',e1⟩:=I.base.there b o e hx;exact⟨o',(hs.2 b (jp (l3 (gc e) I.ok.above))).trans e1⟩
  ·by_cases hj:j=i
   ·subst hj;rw[hi]at e1;cases e1;rw[TW Nh]at e2;cases e2;exact⟨u,r,.inl ⟨hk,by simp⟩⟩
   ·rw[List.getElem?_set_ne (ze hj)]at e2;obtain⟨u',r',q⟩:=hl j y v' e1 e2 e3;refine⟨u',r',?_⟩;rcases q with ⟨k,e⟩|⟨k,c,e,z⟩
    ·refine .inl ⟨k,?_⟩;have:y≠x:=fun e=>hj (xo hN e1 (e▸hi))
     simp[this,e]
    ·exact .inr ⟨k,c,e,z.sameBut hs (vj y c e)⟩
  ·obtain⟨w',z⟩:=I.cell y c e;exact⟨w',z.sameBut hs (vj y c e)⟩
  ·obtain⟨e,n,ne,nf,d⟩:=I.pin p hp;exact⟨(hs.2 p.1 ne).trans e,n,ne,nf,d⟩
 ·have sI:X.fn x=true :=by
   rcases hf with z|z
   ·exact z
   ·rw[z]at hk;cases hk
  obtain⟨c,hc⟩:=I.ok.has x (.inl hk);obtain⟨w',z⟩:=I.cell x c hc;refine wpAny_storeName_cell I.ok.kind hk hc z (fun h' JL hs=>?_)
  obtain⟨oc,vk,Vh⟩:=id z;refine h {s with heap:=h'} ⟨I.ok,I.os,I.bare,⟨fun b o e n hb hx=>?_,fun b o e n hb hx=>?_,I.base.free,fun b o e hx=>?_,I.base.tups,I.base.frzs,I.base.tbls⟩,⟨m,hn.sameBut hs (ze (vj x c hc)),fun j y v' e1 e2 e3=>?_⟩,fun y c' e=>?_,I.free,I.freeC,fun p hp=>?_,tracked ⟨oc,vk,I.freeC x c hc⟩ hs,by simpa using I.len⟩ ⟨c,hs,.inr hc⟩
  ·exact(hs.2 b (jp (l3 (gc e) (I.ok.cab x c sI hc)))).trans (I.base.keep b o e n hb hx)
  ·obtain⟨sl,e1⟩:=I.base.slot b o e n hb hx;exact⟨sl,(hs.2 b (jp (l3 (gc e) (I.ok.cab x c sI hc)))).trans e1⟩
  ·obtain⟨o',e1⟩:=I.base.there b o e hx;exact⟨o',(hs.2 b (jp (l3 (gc e) (I.ok.cab x c sI hc)))).trans e1⟩
  ·by_cases hj:j=i
   ·subst hj;rw[hi]at e1;cases e1;rw[TW Nh]at e2;cases e2;exact⟨u,r,.inr ⟨.inl hk,c,hc,JL⟩⟩
   ·rw[List.getElem?_set_ne (ze hj)]at e2;obtain⟨u',r',q⟩:=hl j y v' e1 e2 e3;refine⟨u',r',?_⟩;rcases q with q|⟨k,c',e,z'⟩
    ·exact .inl q
    ·refine .inr ⟨k,c',e,z'.sameBut hs ?_⟩;rintro rfl;exact hj (xo hN e1 (I.ok.inj _ _ _ e hc▸hi))
  ·by_cases TQ:c'=c
   ·subst TQ;exact⟨_,JL⟩
   ·obtain⟨w2,z2⟩:=I.cell y c' e;exact⟨w2,z2.sameBut hs TQ⟩
  ·obtain⟨e,n,ne,nf,d⟩:=I.pin p hp;refine⟨(hs.2 p.1 ?_).trans e,n,ne,nf,d⟩;intro q;rw[q,vk]at e;have q':oc=p.2:=ij e;exact d w' (by rw[<- q'];exact Vh)
theorem xq {M:Model}{A:l5}{E:al->ar->Prop}{i:Nat}{x:bi}{v:V}{u:al}{Q:Unit->ar->Prop}(I:Inv X pins σ H s) (hN:X.N.Nodup) (hi:X.N[i]?=some x) (hx:Loc X.env.scope x) (r:RelV v u)
  (h:∀s',Inv X pins (σ.set i (some v)) H s'->Q () s') (hf:X.fn x=true\/X.env.scope.names.lookup x=some .local :=by first|exact .inl rfl|exact .inr rfl|assumption):wpAny M A (storeName X.env x u) Q E s:=
 store_ok2 I hN hi hx r (fun s' I' _=>h s' I') hf
theorem Inv.sJ {s':ar}{ch:List ag}(I:Inv X pins σ H s) (ho:s'.os=s.os) (u:Un (fm X.stack) ch H H' s.heap s'.heap) (hok:c7 X.prog X.w H' s'.heap) (hg:Gn s.gens.size s'.gens)
  (qZ:∀b∈ch,(b∈X.ex\/X.s₀.heap.objs.size<=b)/\b≠X.env.locals/\(∀x c,X.env.cells.lookup x=some c->c≠b)/\∀p∈X.pn++pins,p.1≠b):Inv X pins σ H' s':=by
 obtain⟨h',g',d',t',o'⟩:=s';have e:o'=s.os:=ho;subst e;exact I.call (g':=g') (t':=t') (d':=d') u hok hg qZ
end
abbrev XK:=al->Option ag->Hp->Prop
abbrev St:=List (Option V)
abbrev VK:=V->Hp->Prop
abbrev TE:=St->Hp->VK->Prop
abbrev TT:=St->Hp->(Bool->Hp->Prop)->Prop
abbrev TA:=St->Hp->(List V->Hp->Prop)->Prop
structure Ends where
 nx:St->Hp->Prop
 rt:VK
 bk:St->Hp->Prop:=fun _ _=>False
 ct:St->Hp->Prop:=fun _ _=>False
abbrev TS:=Ends->St->Hp->Prop
def EP (X:Cx) (pins:List (ag×kw)) (σ:St) (Q:VK) (u:al) (s':ar):Prop:=∃v H',Inv X pins σ H' s'/\RelV v u/\Q v H'
def TP (X:Cx) (pins:List (ag×kw)) (σ:St) (Q:Bool->Hp->Prop) (b:Bool) (s':ar):Prop:=∃H',Inv X pins σ H' s'/\Q b H'
def AP (X:Cx) (pins:List (ag×kw)) (σ:St) (Q:List V->Hp->Prop) (us:List al) (s':ar):Prop:=∃vs H',Inv X pins σ H' s'/\Vals vs us/\Q vs H'
def SP (X:Cx) (pins:List (ag×kw)) (D:Ends) (f:Flow) (s':ar):Prop:=
 match f with
 | .next=>∃aQ H',Inv X pins aQ H' s'/\D.nx aQ H'
 | .brk=>∃aQ H',Inv X pins aQ H' s'/\D.bk aQ H'
 | .cont=>∃aQ H',Inv X pins aQ H' s'/\D.ct aQ H'
 | .ret u=>∃v aQ H',Inv X pins aQ H' s'/\RelV v u/\D.rt v H'
structure PE (X:Cx) (e:c8) (t:TE):Prop where
 run:∀(pins:List (ag×kw)) (s:ar) (σ:St) (H:Hp) (Q:VK),Inv X pins σ H s->t σ H Q->wpAny (model X.prog X.w) X.A (eval e X.env) (EP X pins σ Q) X.xe s
instance {X:Cx} {e:c8} {t:TE}:CoeFun (PE X e t) (fun _=>∀(pins:List (ag×kw)) (s:ar) (σ:St) (H:Hp) (Q:VK),Inv X pins σ H s->t σ H Q->wpAny (model X.prog X.w) X.A (eval e X.env) (EP X pins σ Q) X.xe s):=⟨PE.run⟩
structure PT (X:Cx) (e:c8) (t:TT):Prop where
 run:∀(pins:List (ag×kw)) (s:ar) (σ:St) (H:Hp) (Q:Bool->Hp->Prop),Inv X pins σ H s->t σ H Q->wpAny (model X.prog X.w) X.A (isTrue e X.env (eval e X.env)) (TP X pins σ Q) X.xe s
instance {X:Cx} {e:c8} {t:TT}:CoeFun (PT X e t) (fun _=>∀(pins:List (ag×kw)) (s:ar) (σ:St) (H:Hp) (Q:Bool->Hp->Prop),Inv X pins σ H s->t σ H Q->wpAny (model X.prog X.w) X.A (isTrue e X.env (eval e X.env)) (TP X pins σ Q) X.xe s):=⟨PT.run⟩
def PW (X:Cx) (e:c8) (t:TT):Prop:=
 ∀(whole:WF al) (pins:List (ag×kw)) (s:ar) (σ:St) (H:Hp) (Q:Bool->Hp->Prop),Inv X pins σ H s->t σ H Q->wpAny (model X.prog X.w) X.A (isTrue e X.env whole) (TP X pins σ Q) X.xe s
theorem PW.pt {X:Cx}{e:c8}{t:TT}(h:PW X e t):PT X e t:=⟨h _⟩
structure PA (X:Cx) (es:List c8) (t:TA):Prop where
 run:∀(pos:u7) (pins:List (ag×kw)) (s:ar) (σ:St) (H:Hp) (Q:List V->Hp->Prop),Inv X pins σ H s->t σ H Q->wpAny (model X.prog X.w) X.A (spliced (backTo pos (starEach es X.env))) (AP X pins σ Q) X.xe s
instance {X:Cx} {es:List c8} {t:TA}:CoeFun (PA X es t) (fun _=>∀(pos:u7) (pins:List (ag×kw)) (s:ar) (σ:St) (H:Hp) (Q:List V->Hp->Prop),Inv X pins σ H s->t σ H Q->wpAny (model X.prog X.w) X.A (spliced (backTo pos (starEach es X.env))) (AP X pins σ Q) X.xe s):=⟨PA.run⟩
structure PS (X:Cx) (st:sw) (t:TS):Prop where
 run:∀(pins:List (ag×kw)) (s:ar) (σ:St) (H:Hp) (D:Ends),Inv X pins σ H s->t D σ H->wpAny (model X.prog X.w) X.A (exec st X.env) (SP X pins D) X.xe s
instance {X:Cx} {st:sw} {t:TS}:CoeFun (PS X st t) (fun _=>∀(pins:List (ag×kw)) (s:ar) (σ:St) (H:Hp) (D:Ends),Inv X pins σ H s->t D σ H->wpAny (model X.prog X.w) X.A (exec st X.env) (SP X pins D) X.xe s):=⟨PS.run⟩
structure iG (X:Cx) (st:List sw) (t:TS):Prop where
 run:∀(pins:List (ag×kw)) (s:ar) (σ:St) (H:Hp) (D:Ends),Inv X pins σ H s->t D σ H->wpAny (model X.prog X.w) X.A (execs st X.env) (SP X pins D) X.xe s
instance {X:Cx} {st:List sw} {t:TS}:CoeFun (iG X st t) (fun _=>∀(pins:List (ag×kw)) (s:ar) (σ:St) (H:Hp) (D:Ends),Inv X pins σ H s->t D σ H->wpAny (model X.prog X.w) X.A (execs st X.env) (SP X pins D) X.xe s):=⟨iG.run⟩
theorem thn {α:Type}{t:WF α}{Q Q':α->ar->Prop}{M:Model}{A:l5}{E:al->ar->Prop}{s:ar}(h:wpAny M A t Q E s) (hQ:∀a s,Q a s->Q' a s):wpAny M A t Q' E s:=lp h hQ fun _ _ x=>x
section
variable {X:Cx}
theorem bin {a b:c8}{ta tb:TE}(ha:PE X a ta) (hb:PE X b tb) {pins:List (ag×kw)}{s:ar}{σ:St}{H:Hp}{R:V->V->Hp->Prop}(I:Inv X pins σ H s) (h:ta σ H fun x H1=>tb σ H1 fun y H2=>R x y H2)
  {α:Type} {Q:α->ar->Prop} {f:al->al->WF α}
  (hf:∀v u s2 x y H2,Inv X pins σ H2 s2->RelV x v->RelV y u->R x y H2->wpAny (model X.prog X.w) X.A (f v u) Q X.xe s2) :
  wpAny (model X.prog X.w) X.A (eval a X.env) (fun v aF=>wpAny (model X.prog X.w) X.A (eval b X.env) (fun u jr=>wpAny (model X.prog X.w) X.A (f v u) Q X.xe jr) X.xe aF) X.xe s :=by
 refine thn (ha pins s σ H _ I h) fun v s1 ⟨x,H1,I1,r1,q1⟩=>?_
 refine thn (hb pins s1 σ H1 _ I1 q1) fun u s2 ⟨y,H2,I2,r2,q2⟩=>?_
 exact hf v u s2 x y H2 I2 r1 r2 q2
def Ni (i:Nat):TE:=fun σ H Q=>∃v,σ[i]?=some (some v)/\Q v H
def tC (v:V):TE:=fun _ H Q=>Q v H
theorem xr {i:Nat}{x:bi}{pos:u7}(hN:X.N[i]?=some x) (hv:qY X.env.scope x) (hd:(x==("__debug__" : bi))=false :=by decide) (eU:(x==("__classdict__" : bi))=false :=by decide):PE X (.Name x pos) (Ni i) :=by
 refine⟨?_⟩;intro pins s σ H Q I h;obtain⟨v,e,h⟩:=h;obtain⟨m,hn,hl⟩:=I.loc;obtain⟨u,r,l⟩:=hl i x v hN e hv;have fin:EP X pins σ Q u s:=⟨v,H,I,r,h⟩;rcases l with ⟨hk,hm⟩|⟨hk,c,hc,wV⟩
 ·exact wpAny_Name (wpAny_loadName_local I.ok.kind hk hn hm fin) hd
 ·rcases hk with hk|hk
  ·exact wpAny_Name (wpAny_loadName_cell I.ok.kind hk hc wV fin) hd
  ·exact wpAny_Name (wpAny_loadName_free I.ok.kind hk hc wV fin eU) hd
theorem Nj {i j pos}:PE X (.Constant (.int i) j pos) (tC (.int i)):=⟨fun _ _ _ H _ I h=>wpAny_Constant_int ⟨.int i,H,I.tok _,⟨_,rfl⟩,h⟩⟩
theorem R4 {b j pos}:PE X (.Constant (.bool b) j pos) (tC (.bl b)):=⟨fun _ _ _ H _ I h=>Constant_bool ⟨.bl b,H,I,rfl,h⟩⟩
theorem Nk {j pos}:PE X (.Constant .none j pos) (tC .ax):=⟨fun _ _ _ H _ I h=>Constant_none ⟨.ax,H,I,rfl,h⟩⟩
theorem Nm {x j pos}:PE X (.Constant (.str x) j pos) (tC (.str x)):=⟨fun _ _ _ H _ I h=>Calls.Constant_str ⟨.str x,H,I.tok _,⟨_,rfl⟩,h⟩⟩
def Gl (X:Cx) (x:bi):Prop:=X.env.kindOf x=some .globalImplicit
theorem qy {E:al->ar->Prop}{pins:List (ag×kw)}{s:ar}{σ:St}{H:Hp}{x:bi}{u:al}{pos:u7}{Q:al->ar->Prop}(I:Inv X pins σ H s) (hg:Gl X x) (hm:X.mg x=some u) (h:Q u s)
  (hd:(x==("__debug__" : bi))=false :=by decide):wpAny (model X.prog X.w) X.A (eval (.Name x pos) X.env) Q E s:=
 Calls.Name_function_global I.ok.kind hg (Calls.loadGlobal_global (by rw[I.ok.glob];exact I.mod.glob.keeps I.bk) hm h) hd
theorem gY {E:al->ar->Prop}{pins:List (ag×kw)}{s:ar}{σ:St}{H:Hp}{x:bi}{u:al}{pos:u7}{Q:al->ar->Prop}(I:Inv X pins σ H s) (hg:Gl X x) (hm:X.mg x=none) (hv:bootBuiltins x=some u) (h:Q u s)
  (hn:x ≠ "__name__" := by decide) (hd:(x==("__debug__" : bi))=false :=by decide):wpAny (model X.prog X.w) X.A (eval (.Name x pos) X.env) Q E s :=by
 obtain⟨mb,h1,h2⟩:=I.mod.blt;exact Calls.Name_function_global I.ok.kind hg (Calls.loadGlobal_builtin (by rw[I.ok.glob];exact I.mod.glob.keeps I.bk) hm (by rw[I.ok.blt];exact h1.keeps I.bk) ((h2 x hn).trans hv) h) hd
theorem AY {x:bi}{v:V}{u:al}{pos:u7}(hg:Gl X x) (hm:X.mg x=some u) (r:RelV v u) (hd:(x==("__debug__" : bi))=false :=by decide):PE X (.Name x pos) (tC v):=⟨fun _ _ _ H _ I h=>qy I hg hm ⟨v,H,I,r,h⟩ hd⟩
theorem K3 {x:bi}{v:V}{u:al}{pos:u7}(hg:Gl X x) (hm:X.mg x=none) (hv:bootBuiltins x=some u) (r:RelV v u) (hn:x ≠ "__name__" := by decide) (hd:(x==("__debug__" : bi))=false :=by decide):PE X (.Name x pos) (tC v):=⟨fun _ _ _ H _ I h=>gY I hg hm hv ⟨v,H,I,r,h⟩ hn hd⟩
variable {a b:c8}{ta tb:TE}{pos:u7}
def PC (X:Cx) (op:WJ) (a b:c8) (t:TE):Prop:=
 ∀(pins:List (ag×kw)) (s:ar) (σ:St) (H:Hp) (Q:VK),Inv X pins σ H s->t σ H Q->
  wpAny (model X.prog X.w) X.A (eval a X.env) (fun v aF=>wpAny (model X.prog X.w) X.A (eval b X.env) (fun u jr=>wpAny (model X.prog X.w) X.A (compareOp op v u) (EP X pins σ Q) X.xe jr) X.xe aF) X.xe s
theorem Hn (b:c8) {op:WJ}(h:op≠.In) (h2:op≠.NotIn):behindInMarks op b=false :=by
 have e1:(op==WJ.In)=false :=by cases op<;>first|rfl|exact absurd rfl h
 have e2:(op==WJ.NotIn)=false :=by cases op<;>first|rfl|exact absurd rfl h2
 cases b<;>simp[behindInMarks,e1,e2]
def tB (t:TE):TT:=fun σ H Q=>t σ H fun x H1=>∃c,x=.bl c/\Q c H1
theorem Wv {op:WJ}{t:TE}(h:PC X op a b t) (h1:behindInMarks op b=false :=by first|exact Hn _ (by decide) (by decide)|rfl):PT X (.Compare a [op] [b] pos) (tB t) :=by
 refine⟨?_⟩;intro pins s σ H Q I hw;refine wpAny_isTrue_Compare1 (thn (h pins s σ H _ I hw) fun v s1 h1=>thn h1 fun u s2 h2=>thn h2 fun c s3 ⟨x,H1,I1,r1,q1⟩=>?_) h1
 obtain⟨d,rfl,q⟩:=q1;cases r1;exact AN ⟨H1,I1,q⟩
theorem Np {e:c8}{t:TE}(h:PE X e t) (he:∀whole,isTrue e X.env whole=(do let v <- whole;standAt e.pos;holding [v] (truthy v)) :=by intro _;rfl):PT X e (tB t) :=by
 refine⟨?_⟩;intro pins s σ H Q I hw;refine isTrue_plain (thn (h pins s σ H _ I hw) fun v s1 ⟨x,H1,I1,r1,q1⟩=>?_) (he _)
 obtain⟨d,rfl,q⟩:=q1;cases r1;exact AN ⟨H1,I1,q⟩
variable {tA sL:TT}{rest:List c8}
def Vi (t u:TT):TT:=fun σ H Q=>t σ H fun c H1=>if c=true then u σ H1 Q else Q false H1
def Ww (t u:TT):TT:=fun σ H Q=>t σ H fun c H1=>if c=true then Q true H1 else u σ H1 Q
def Vj (t:TT):TT:=fun σ H Q=>t σ H fun c H1=>Q (!c) H1
theorem K4 (ha:PT X a tA):PW X (.BoolOp .And [a] pos) tA :=by
 intro wh pins s σ H Q I h;refine isTrue_and (thn (ha pins s σ H Q I h) fun c s1 e=>?_)
 cases c with
 |true=>exact isTrue_and_nil e
 |false=>exact e
theorem Nq (ha:PT X a tA):PW X (.BoolOp .Or [a] pos) tA :=by
 intro wh pins s σ H Q I h;refine isTrue_or (thn (ha pins s σ H Q I h) fun c s1 e=>?_)
 cases c with
 |false=>exact isTrue_or_nil e
 |true=>exact e
theorem Nr (ha:PT X a tA) (hb:PW X (.BoolOp .And (b::rest) pos) sL):PW X (.BoolOp .And (a::b::rest) pos) (Vi tA sL) :=by
 intro wh pins s σ H Q I h;refine isTrue_and (thn (ha pins s σ H _ I h) fun c s1 ⟨H1,I1,q1⟩=>?_)
 cases c with
 |true=>exact hb wh pins s1 σ H1 Q I1 q1
 |false=>exact⟨H1,I1,q1⟩
theorem R5 (ha:PT X a tA) (hb:PW X (.BoolOp .Or (b::rest) pos) sL):PW X (.BoolOp .Or (a::b::rest) pos) (Ww tA sL) :=by
 intro wh pins s σ H Q I h;refine isTrue_or (thn (ha pins s σ H _ I h) fun c s1 ⟨H1,I1,q1⟩=>?_)
 cases c with
 |true=>exact⟨H1,I1,q1⟩
 |false=>exact hb wh pins s1 σ H1 Q I1 q1
theorem Nt (ha:PT X a tA):PT X (.UnaryOp .Not a pos) (Vj tA) :=by
 refine⟨?_⟩;intro pins s σ H Q I h;exact isTrue_not (ha pins s σ H (fun c H1=>Q (!c) H1) I h)
def R6 (ta tb:TE):TE:=fun σ H Q=>ta σ H fun x H1=>∃c,x=.bl c/\if c=true then tb σ H1 Q else Q (.bl false) H1
def R7 (ta:TE):TE:=fun σ H Q=>ta σ H fun x H1=>∃c,x=.bl c/\Q (.bl (!c)) H1
theorem Nu {op}{t:TE}(h:PE X a t):PE X (.BoolOp op [a] pos) t:=⟨fun pins s σ H Q I hw=>BoolOp_one (h pins s σ H Q I hw)⟩
theorem Nv (ha:PE X a ta) (hb:PE X (.BoolOp .And (b::rest) pos) tb):PE X (.BoolOp .And (a::b::rest) pos) (R6 ta tb) :=by
 refine⟨?_⟩;intro pins s σ H Q I h;refine BoolOp_and (thn (ha pins s σ H _ I h) fun v s1 ⟨x,H1,I1,r1,q1⟩=>?_)
 obtain⟨c,rfl,q1⟩:=q1;cases r1;refine AN ?_;cases c with
 |true=>exact hb pins s1 σ H1 Q I1 q1
 |false=>exact⟨.bl false,H1,I1,rfl,q1⟩
theorem Nw (ha:PE X a ta):PE X (.UnaryOp .Not a pos) (R7 ta) :=by
 refine⟨?_⟩;intro pins s σ H Q I h;refine UnaryOp_ (thn (ha pins s σ H _ I h) fun v s1 ⟨x,H1,I1,r1,q1⟩=>?_)
 obtain⟨c,rfl,q1⟩:=q1;cases r1;exact not_of (AN ⟨.bl (!c),H1,I1,rfl,q1⟩)
def Wx (t:TT) (ta tb:TE):TE:=fun σ H Q=>t σ H fun c H1=>if c=true then ta σ H1 Q else tb σ H1 Q
theorem Ho {c:c8}(hc:PT X c tA) (ha:PE X a ta) (hb:PE X b tb):PE X (.IfExp c a b pos) (Wx tA ta tb) :=by
 refine⟨?_⟩;intro pins s σ H Q I h;refine wpAny_IfExp (thn (hc pins s σ H _ I h) fun d s1 ⟨H1,I1,q1⟩=>?_)
 cases d with
 |true=>exact ha pins s1 σ H1 Q I1 q1
 |false=>exact hb pins s1 σ H1 Q I1 q1
end
def bL (K:ba) (H:Hp) (a:ag) (xs:List V):Prop:=
 Rd H a (.lst xs) \/
  ∃(o:kw) (its:Array al) (n:Nat),K.lookup a=some o/\o.cls=.type "list" /\ o.dict=none/\o.data=.seq its n/\its.size<=sizeLine/\Vals xs its.toList
def c9 (K:ba) (H:Hp) (a:ag) (xs:List V):Prop:=
 Rd H a (.tup xs) \/
  ∃(o:kw) (its:Array al) (n:Nat),K.lookup a=some o/\o.cls=.type "tuple" /\ o.data=.seq its n/\its.size<=sizeLine/\Vals xs its.toList
def Vk:al->Option V
 | .none=>some .ax
 | .bool b=>some (.bl b)
 | .int i _=>some (.int i)
 | .str x _=>some (.str x)
 | .bytes b _=>some (.kX b)
 | .float b _=>some (.AW b)
 | .ref a=>some (.ref a)
 | .type n=>some (.ty n)
 |_=>none
theorem RelV.abs {x:V}{u:al}(r:RelV x u):Vk u=some x :=by
 cases x with
 |ax=>cases r;rfl
 |bl _=>cases r;rfl
 |int _=>obtain⟨t,rfl⟩:=r;rfl
 |str _=>obtain⟨t,rfl⟩:=r;rfl
 |kX _=>obtain⟨t,rfl⟩:=r;rfl
 |AW _=>obtain⟨t,rfl⟩:=r;rfl
 |ref _=>cases r;rfl
 |ty _=>cases r;rfl
theorem RelV.inj {x y:V}{u:al}(r:RelV x u) (q:RelV y u):x=y:=ij (r.abs.symm.trans q.abs)
theorem Vals.inj:∀{xs ys:List V}{us:List al},Vals xs us->Vals ys us->xs=ys
 |_,_,_,.nil,.nil=>rfl
 |_,_,_,.cons r t,.cons r' t'=>by rw[r.inj r',Vals.inj t t']
section
variable {X:Cx}{pins:List (ag×kw)}{σ:St}{H:Hp}{s:ar}{a:ag}{xs ys:List V}
theorem bL.of {K:ba}(h:H a=some (.lst xs)):bL K H a xs:=.inl (.inl h)
theorem c9.of {K:ba}(h:H a=some (.tup xs)):c9 K H a xs:=.inl (.inl h)
theorem Inv.list (I:Inv X pins σ H s) (h:bL X.K H a xs):∃its:List al,Vals xs its/\PlainL s.heap a its.toArray/\xs.length<=sizeLine :=by
 rcases h with h|⟨o,its,n,hk,hc,hd,hs,hz,r⟩
 ·obtain⟨z,its,n,r,e⟩:=h.ok I.hok;exact⟨its,r,⟨_,n,e,rfl,rfl,rfl⟩,z⟩
 ·refine⟨its.toList,r,⟨o,n,I.iU a o hk,hc,hd,by simpa using hs⟩,?_⟩
  have e:=r.length;simp only[wn]at e;omega
theorem Inv.tuple (I:Inv X pins σ H s) (h:c9 X.K H a xs):∃its:List al,Vals xs its/\IsTup s.heap a its.toArray/\xs.length<=sizeLine :=by
 rcases h with h|⟨o,its,n,hk,hc,hs,hz,r⟩
 ·obtain⟨z,its,r,p⟩:=h.ok I.hok;exact⟨its,r,nJ.tup p,z⟩
 ·refine⟨its.toList,r,⟨o,I.iU a o hk,hc,n,by simpa using hs⟩,?_⟩
  have e:=r.length;simp only[wn]at e;omega
theorem Inv.xt (I:Inv X pins σ H s) (h:bL X.K H a xs) (h':bL X.K H a ys):xs=ys :=by
 obtain⟨its,r,⟨o,n,e,_,_,d⟩,_⟩:=I.list h;obtain⟨its',r',⟨o',n',e',_,_,d'⟩,_⟩:=I.list h';rw[e]at e';cases e';rw[d]at d';injection d' with d1 _
 have:its=its':=by simpa using congrArg Array.toList d1
 subst this;exact r.inj r'
theorem Inv.vm (I:Inv X pins σ H s) (h:c9 X.K H a xs) (h':c9 X.K H a ys):xs=ys :=by
 obtain⟨its,r,⟨o,e,_,n,d⟩,_⟩:=I.tuple h;obtain⟨its',r',⟨o',e',_,n',d'⟩,_⟩:=I.tuple h';rw[e]at e';cases e';rw[d]at d';injection d' with d1 _
 have:its=its':=by simpa using congrArg Array.toList d1
 subst this;exact r.inj r'
end
abbrev Cx.kZ (X:Cx) (E:al->ar->Prop):Cx:={X with xe:=E}
abbrev Cx.oX (X:Cx):Cx:=X.kZ fun _ _=>False
theorem Cx.Ok.kZ {X:Cx}(ok:X.Ok) (E:al->ar->Prop):(X.kZ E).Ok:=
 ⟨ok.mod,ok.kind,ok.glob,ok.blt,ok.above,ok.inj,ok.has,ok.cab,ok.hd,ok.frames,ok.stk,ok.exf,ok.bs,ok.bsz,ok.noex,ok.exfs,ok.funs,ok.frf⟩
theorem Cx.Ok.iV {X:Cx}{E:al->ar->Prop}(ok:(X.kZ E).Ok):X.Ok:=
 ⟨ok.mod,ok.kind,ok.glob,ok.blt,ok.above,ok.inj,ok.has,ok.cab,ok.hd,ok.frames,ok.stk,ok.exf,ok.bs,ok.bsz,ok.noex,ok.exfs,ok.funs,ok.frf⟩
section
variable {X:Cx}{pins:List (ag×kw)}{σ:St}{H:Hp}{s:ar}{E:al->ar->Prop}
theorem Inv.kZ (I:Inv X pins σ H s) (E:al->ar->Prop):Inv (X.kZ E) pins σ H s:=⟨I.ok.kZ E,I.os,I.bare,I.base,I.loc,I.cell,I.free,I.freeC,I.pin,I.hok,I.len⟩
theorem Inv.iV (I:Inv (X.kZ E) pins σ H s):Inv X pins σ H s:=⟨I.ok.iV,I.os,I.bare,I.base,I.loc,I.cell,I.free,I.freeC,I.pin,I.hok,I.len⟩
theorem SP.iV {D:Ends}{f:Flow}{s':ar}(h:SP (X.kZ E) pins D f s'):SP X pins D f s':=by
 cases f with
 |next=>obtain⟨aQ,H',I,q⟩:=h;exact⟨aQ,H',I.iV,q⟩
 |brk=>obtain⟨aQ,H',I,q⟩:=h;exact⟨aQ,H',I.iV,q⟩
 |cont=>obtain⟨aQ,H',I,q⟩:=h;exact⟨aQ,H',I.iV,q⟩
 |ret u=>obtain⟨v,aQ,H',I,r,q⟩:=h;exact⟨v,aQ,H',I.iV,r,q⟩
theorem PE.oX {e:c8}{t:TE}(h:PE X.oX e t):PE X e t:=⟨fun pins s σ H Q I hw=>
 lp (h pins s σ H Q (I.kZ _) hw) (fun _ _ ⟨v,H',I',r,q⟩=>⟨v,H',I'.iV,r,q⟩) fun _ _ z=>Go z⟩
theorem iG.oX {st:List sw}{t:TS}(h:iG X.oX st t):iG X st t:=⟨fun pins s σ H D I hw=>
 lp (h pins s σ H D (I.kZ _) hw) (fun _ _ q=>q.iV) fun _ _ z=>Go z⟩
end
section
variable {X:Cx}{st:sw}{rest:List sw}{t u:TS}{e:c8}{te:TE}{pos:u7}
def R8:TS:=fun D σ H=>D.nx σ H
def Vl (t u:TS):TS:=fun D σ H=>t {D with nx:=u D} σ H
theorem K5:iG X [] R8:=⟨fun _ _ σ H _ I h=>ZR ⟨σ,H,I,h⟩⟩
theorem Hq (h1:PS X st t) (h2:iG X rest u):iG X (st::rest) (Vl t u) :=by
 refine⟨?_⟩;intro pins s σ H D I h;refine wpAny_execs_cons (thn (h1 pins s σ H {D with nx:=u D} I h) fun f s1 q=>?_)
 cases f with
 |next=>
  obtain⟨aQ,H',I',q⟩:=q;exact h2 pins s1 aQ H' D I' q
 |ret v=>exact q
 |brk=>exact q
 |cont=>exact q
theorem K6 (h1:PS X st t):iG X [st] t :=by
 refine⟨?_⟩;intro pins s σ H D I h;refine wpAny_execs_cons (thn (h1 pins s σ H D I h) fun f s1 q=>?_)
 cases f with
 |next=>exact ZR q
 |ret v=>exact q
 |brk=>exact q
 |cont=>exact q
theorem Inv.quiet {pins:List (ag×kw)}{σ:St}{H:Hp}{s:ar}(I:Inv X pins σ H s):interactive X.env=false :=by simp[interactive,I.ok.kind]
def R9 (te:TE):TS:=fun D σ H=>te σ H fun _ H1=>D.nx σ H1
theorem K7 (he:PE X e te) (hs:swapsWith e none pos.line X.env=pure false :=by rfl):PS X (.Expr e pos) (R9 te) :=by
 refine⟨?_⟩;intro pins s σ H D I h;exact wpAny_Expr_any (thn (he pins s σ H _ I h) fun v s1 ⟨x,H1,I1,r1,q1⟩=>⟨σ,H1,I1,q1⟩) I.quiet hs
def Vm (te:TE):TS:=fun D σ H=>te σ H D.rt
theorem Nx (he:PE X e te):PS X (.Return (some e) pos) (Vm te) :=by
 refine⟨?_⟩;intro pins s σ H D I h;exact wpAny_Return_some (thn (he pins s σ H _ I h) fun v s1 ⟨x,H1,I1,r1,q1⟩=>⟨x,σ,H1,I1,r1,q1⟩)
def Vn (c:TT) (t u:TS):TS:=fun D σ H=>c σ H fun b H1=>if b=true then t D σ H1 else u D σ H1
theorem Sa {c:c8}{a b:List sw}{tc:TT}(hc:PT X c tc) (ha:iG X a t) (hb:iG X b u):PS X (.If c a b pos) (Vn tc t u) :=by
 refine⟨?_⟩;intro pins s σ H D I h;refine wpAny_If (thn (hc pins s σ H _ I h) fun d s1 ⟨H1,I1,q1⟩=>?_)
 cases d with
 |true=>exact ha pins s1 σ H1 D I1 q1
 |false=>exact hb pins s1 σ H1 D I1 q1
end
abbrev TG:=V->St->Hp->(St->Hp->Prop)->Prop
abbrev sM:=List V->St->Hp->(St->Hp->Prop)->Prop
def PG (X:Cx) (target:c8) (t:TG):Prop:=
 ∀(pins:List (ag×kw)) (s:ar) (σ:St) (H:Hp) (v:V) (u:al) (Q:St->Hp->Prop),Inv X pins σ H s->RelV v u->t v σ H Q->
  wpAny (model X.prog X.w) X.A (assign target X.env u) (fun _ s'=>∃aQ H',Inv X pins aQ H' s'/\Q aQ H') X.xe s
def vn (X:Cx) (ts:List c8) (t:sM):Prop:=
 ∀(pins:List (ag×kw)) (s:ar) (σ:St) (H:Hp) (vs:List V) (us:List al) (Q:St->Hp->Prop),Inv X pins σ H s->Vals vs us->t vs σ H Q->
  wpAny (model X.prog X.w) X.A (assignInOrder ((assignEach ts X.env).map (·.2)) us) (fun _ s'=>∃aQ H',Inv X pins aQ H' s'/\Q aQ H') X.xe s
abbrev Hr:=V->V->V->Hp->(Hp->Prop)->Prop
def Ny (X:Cx) (t:Hr):Prop:=
 ∀(pins:List (ag×kw)) (s:ar) (σ:St) (H:Hp) (o i v:V) (ov iv u:al) (Q:Hp->Prop),Inv X pins σ H s->RelV o ov->RelV i iv->RelV v u->t o i v H Q->
  wpAny (model X.prog X.w) X.A (setItem ov iv u) (fun _ s'=>∃H',Inv X pins σ H' s'/\Q H') X.xe s
section
variable {X:Cx}{pos:u7}
def nK (i:Nat):TG:=fun v σ H Q=>Q (σ.set i (some v)) H
theorem K8 {i:Nat}{x:bi}(hN:X.N.Nodup) (hi:X.N[i]?=some x) (hx:Loc X.env.scope x) (hf:X.fn x=true\/X.env.scope.names.lookup x=some .local :=by first|exact .inl rfl|exact .inr rfl|assumption):PG X (.Name x pos) (nK i) :=by
 intro pins s σ H v u Q I r h;exact Zu (xq I hN hi hx r (fun s' I'=>⟨_,H,I',h⟩) hf)
def Vo:sM:=fun vs σ H Q=>vs=[]/\Q σ H
def Sb (t:TG) (u:sM):sM:=fun vs σ H Q=>∃v r,vs=v::r/\t v σ H fun aQ H'=>u r aQ H' Q
theorem K9:vn X [] Vo :=by
 intro pins s σ H vs us Q I r h;obtain⟨e,h⟩:=h;subst e;cases r;exact assignInOrder_nil ⟨σ,H,I,h⟩
theorem Hs {e:c8}{es:List c8}{t:TG}{u:sM}(h1:PG X e t) (h2:vn X es u)
  (hs:(assignEach (e::es) X.env).map (·.2)=assign e X.env::(assignEach es X.env).map (·.2) :=by rfl):vn X (e::es) (Sb t u) :=by
 intro pins s σ H vs us Q I r h;obtain⟨v,vr,e1,h⟩:=h;subst e1;cases r with
 |cons r rr=>
  rw[hs];refine assignInOrder_cons (thn (h1 pins s σ H _ _ _ I r h) fun _ s1 ⟨sN,H1,I1,q1⟩=>?_)
  exact h2 pins s1 sN H1 _ _ Q I1 rr q1
def Vp (K:ba) (n:Nat) (t:sM):TG:=fun v σ H Q=>∃a xs,v=.ref a/\c9 K H a xs/\xs.length=n/\t xs σ H Q
theorem Nz {es:List c8}{k:Nat}{t:sM}{n:Nat}(hc:X.calm=true) (h:vn X es t)
  (hn:(assignEach es X.env).length=n :=by rfl) (q9:(assignEach es X.env).findIdx? (·.1)=none :=by rfl):PG X (.Tuple es k pos) (Vp X.K n t) :=by
 intro pins s σ H v u Q I r hw;obtain⟨a,xs,e1,hq,hl,hw⟩:=hw;subst e1;cases r;obtain⟨its,rv,ht,hz⟩:=I.tuple hq;refine assign_Tuple_tuple (I.ok.hd hc) ht (by simp[hn,<- hl,rv.length]) q9 fun h' hx=>?_
 have I1:Inv X pins σ H {s with heap:=h'}:=I.kept (t':=s.toks) fun b o e=>hx b o (jp (gc e)) e
 exact h pins _ σ H xs _ Q I1 (by simpa using rv) hw
def Vq (to ti:TE) (t:Hr):TG:=fun v σ H Q=>to σ H fun o H1=>ti σ H1 fun i H2=>t o i v H2 fun H3=>Q σ H3
theorem NA {o i:c8}{to ti:TE}{t:Hr}(ho:PE X o to) (hi:PE X i ti) (hs:Ny X t)
  (ha:∀v,assign (.Subscript o i pos) X.env v=(do
   let ov <- holding [v] (eval o X.env)
   let iv <- holding [v,ov] (eval i X.env)
   standAt pos
   holding [v,ov,iv] (setItem ov iv v)
   release [v,ov,iv] []) :=by intro _;rfl):PG X (.Subscript o i pos) (Vq to ti t) :=by
 intro pins s σ H v u Q I r h;rw[ha];refine ac (AC (thn (ho pins s σ H _ I h) fun ov s1 ⟨x,H1,I1,r1,q1⟩=>?_))
 refine ac (AC (thn (hi pins s1 σ H1 _ I1 q1) fun iv s2 ⟨y,H2,I2,r2,q2⟩=>?_))
 refine ac (BS (ac (AC (thn (hs pins s2 σ H2 x y v ov iv u _ I2 r1 r2 r q2) fun _ s3 ⟨H3,I3,q3⟩=>?_))))
 exact wpAny_release ⟨σ,H3,I3,q3⟩
def rL (te:TE) (g:TG):TS:=fun D σ H=>te σ H fun x H1=>g x σ H1 D.nx
theorem NB {tg e:c8}{te:TE}{g:TG}(he:PE X e te) (hg:PG X tg g) (hs:swapsWithSole [tg] e pos.line X.env=pure false :=by rfl) (hw:swappedStores [tg] e X.env=pure none :=by rfl)
  (h1:(assignEach [tg] X.env).map (·.2)=[assign tg X.env] :=by rfl):PS X (.Assign [tg] e pos) (rL te g) :=by
 refine⟨?_⟩;intro pins s σ H D I h;refine wpAny_Assign_stores (thn (he pins s σ H _ I h) fun v s1 ⟨x,H1,I1,r1,q1⟩=>?_) hs hw
 rw[h1];exact thn (hg pins s1 σ H1 x v _ I1 r1 q1) fun _ s2 q=>q
theorem NC {i:Nat}{x:bi}{e:c8}{te:TE}{pos':u7}(hN:X.N.Nodup) (hi:X.N[i]?=some x) (hx:Loc X.env.scope x) (he:PE X e te) (hs:swapsWith e (some (.Name x pos')) pos.line X.env=pure false :=by rfl) (hf:X.fn x=true\/X.env.scope.names.lookup x=some .local :=by first|exact .inl rfl|exact .inr rfl|assumption) :
  PS X (.Assign [.Name x pos'] e pos) (rL te (nK i)) :=by
 refine⟨?_⟩;intro pins s σ H D I h;refine wpAny_Assign_Name (thn (he pins s σ H _ I h) fun v s1 ⟨y,H1,I1,r1,q1⟩=>?_) hs
 exact xq I1 hN hi hx r1 (fun s2 I2=>⟨_,H1,I2,q1⟩) hf
def D6 (c:TT) (tb:TS):TS:=fun D σ H=>∃W:Nat->St->Hp->Prop,(∃m,W m σ H)/\∀m σ H,W m σ H->
 c σ H fun b H1=>if b=true then ∃N:St->Hp->Prop,(∀aQ H',N aQ H'->∃m',m'<m/\W m' aQ H')/\tb {D with nx:=N,ct:=N,bk:=D.nx} σ H1 else D.nx σ H1
theorem Ht {c:c8}{body:List sw}{tc:TT}{tb:TS}(hp:aa2 (model X.prog X.w) X.A X.env X.xe) (hc:PT X c tc) (hb:iG X body tb):PS X (.While c body [] pos) (D6 tc tb) :=by
 refine⟨?_⟩;intro pins s σ H D I h;obtain⟨W,⟨m0,w0⟩,turn⟩:=h;refine wpAny_While (codeAny_whileLoop (fun n s'=>∃aQ H',Inv X pins aQ H' s'/\W n aQ H') ?_ m0 ⟨σ,H,I,w0⟩)
 rintro n s1 ⟨sN,H1,I1,w1⟩;refine On hp (thn (hc pins s1 sN H1 _ I1 (turn n sN H1 w1)) fun b s2 ⟨H2,I2,q2⟩=>?_)
 cases b with
 |true=>
  obtain⟨N,hN,q2⟩:=q2;rw[if_pos rfl];refine On hp (thn (hb pins s2 sN H2 _ I2 q2) fun f s3 q3=>?_)
  cases f with
  |next=>
   obtain⟨oF,H3,I3,n3⟩:=q3;obtain⟨m',hm,w3⟩:=hN oF H3 n3;exact⟨m',hm,oF,H3,I3,w3⟩
  |cont=>
   obtain⟨oF,H3,I3,n3⟩:=q3;obtain⟨m',hm,w3⟩:=hN oF H3 n3;exact⟨m',hm,oF,H3,I3,w3⟩
  |brk=>exact q3
  |ret v=>exact q3
 |false=>
  rw[if_neg i0];exact ZR ⟨sN,H2,I2,q2⟩
end
structure It where
 go:Nat->Hp->Prop
 yld:Nat->Hp->V->Hp->Prop
 stop:Nat->Hp->Prop
def dg (X:Cx) (pins:List (ag×kw)) (H:Hp) (b:ag):Prop:=
 H b=none/\b≠X.env.locals/\b ∉ X.fs/\(b∈X.ex\/X.s₀.heap.objs.size<=b)/\(∀x c,X.env.cells.lookup x=some c->c≠b)/\∀p∈X.pn++pins,p.1≠b
theorem Inv.k6 {X:Cx}{pins:List (ag×kw)}{σ:St}{H H':Hp}{s:ar}{b:ag}(I:Inv X pins σ H s) (hb:s.heap.objs.size<=b) (hn:H' b=none):dg X pins H' b :=by
 refine⟨hn,Lo (l3 I.lt hb),I.Nf hb,.inr (qr I.sz hb),fun x c e z=>?_,fun p hp z=>?_⟩
 ·obtain⟨v,q⟩:=I.cell x c e;exact absurd (l3 q.lt (by rw[z];exact hb)) (FF _)
 ·exact absurd (l3 (gc (I.pin p hp).1) (by rw[z];exact hb)) (FF _)
structure Turn (P:ff) (w:im) (K:ba) (tg:c8) (J:It) (fp:List ag) (it:ag) (tn:Nat->hX->Prop):Prop where
 mem:it∈fp
 obj:∀i h,tn i h->∀b∈fp,∃o,h.get? b=some o/\∀v,o.data≠.cell v
 keep:∀i h h',tn i h->(∀b∈fp,∀o,h.get? b=some o->h'.get? b=some o)->tn i h'
 item:∀(X:Cx),X.prog=P->X.w=w->X.K=K->X.calm=true->∀(i:Nat) (pins:List (ag×kw)) (s:ar) (σ:St) (H:Hp) (E:al->ar->Prop),Inv X pins σ H s->(∀b∈fp,dg X pins H b)->tn i s.heap->J.go i H->
  wpAny (model P w) X.A (pyNext (.ref it)) (fun r s1=>∃u,r=some u /\
   wpAny (model P w) X.A (letOwnedTupleGo tg (.ref it) u) (fun _ s2=>∃x H',Inv X pins σ H' s2/\RelV x u/\J.yld i H x H'/\tn (i+1) s2.heap/\∀b∈fp,H' b=none) E s1) E s
 done:∀(X:Cx),X.prog=P->X.w=w->X.K=K->X.calm=true->∀(i:Nat) (pins:List (ag×kw)) (s:ar) (σ:St) (H:Hp) (E:al->ar->Prop),Inv X pins σ H s->(∀b∈fp,dg X pins H b)->tn i s.heap->J.stop i H->
  wpAny (model P w) X.A (pyNext (.ref it)) (fun r s1=>r=none/\Inv X pins σ H s1) E s
 self:∀(A:l5) (i:Nat) (s:ar) (Q:al->ar->Prop) (E:al->ar->Prop),tn i s.heap->Q (.ref it) s->wpAny (model P w) A (pyIter (.ref it)) Q E s
abbrev TI:=St->Hp->(It->Hp->Prop)->Prop
def TR (X:Cx) (pins:List (ag×kw)) (σ:St) (tg:c8) (R:It->Hp->Prop) (oY:al) (s2:ar):Prop:=
 ∃(it:ag) (fp:List ag) (tn:Nat->hX->Prop) (J:It) (H':Hp),oY=.ref it/\Inv X pins σ H' s2/\Turn X.prog X.w X.K tg J fp it tn/\tn 0 s2.heap/\(∀b∈fp,dg X pins H' b)/\R J H'
def PI (X:Cx) (tg iter:c8) (wi:TI):Prop:=
 ∀(pins:List (ag×kw)) (s:ar) (σ:St) (H:Hp) (R:It->Hp->Prop),Inv X pins σ H s->wi σ H R->
  wpAny (model X.prog X.w) X.A (eval iter X.env) (fun v s1=>wpAny (model X.prog X.w) X.A (pyIter v) (TR X pins σ tg R) X.xe s1) X.xe s
theorem wW {M:Model}{A:l5}{E:al->ar->Prop}{s:ar}{tg:c8}{it:ag}{u:al}{o:kw}{n:String}{vs:Array al}{Q:Unit->ar->Prop}(ho:s.heap.get? it=some o) (hc:o.cls=.type n) (hd:o.data=.fields vs)
  (hn:["enumerate","zip","dict_itemiterator","dict_reverseitemiterator","odict_iterator","itertools.zip_longest","itertools.pairwise"].contains n=false) (hQ:Q () s):wpAny M A (letOwnedTupleGo tg (.ref it) u) Q E s :=by
 unfold letOwnedTupleGo;cases tg<;>first
  |exact bn hQ
  |(cases u<;>first
    |exact bn hQ
    |(refine ac (wpAny_load ho ?_)
      rw[hc,hd];show wpAny M A (if (["enumerate","zip","dict_itemiterator","dict_reverseitemiterator","odict_iterator","itertools.zip_longest","itertools.pairwise"].contains n && vs[0]?==some (rawInt _))=true then _ else _) Q E s
      rw[if_neg (by intro h;rw[hn,Pi]at h;cases h)]
      exact bn hQ))
def ND (K:ba) (a:ag):It:=
 ⟨fun i H=>∃xs x,bL K H a xs/\xs[i]?=some x,fun i H x H'=>H'=H/\∀xs,bL K H a xs->xs[i]?=some x,fun i H=>∃xs,bL K H a xs/\xs.length<=i⟩
def NF (K:ba) (a:ag):It:=
 ⟨fun i H=>∃xs x,c9 K H a xs/\xs[i]?=some x,fun i H x H'=>H'=H/\∀xs,c9 K H a xs->xs[i]?=some x,fun i H=>∃xs,c9 K H a xs/\xs.length<=i⟩
def D7 (lo:Int) (n:Nat):It:=⟨fun i _=>i<n,fun i H x H'=>H'=H/\x=.int (lo+i),fun i _=>n<=i⟩
theorem D8 {P:ff}{w:im}{K:ba}{tg:c8}(a it:ag):Turn P w K tg (ND K a) [it] it (fun i h=>h.IsListIter it a i) where
 mem :=by simp
 obj:=fun i h st b hb=>by
  have e:b=it :=by simpa using hb
  subst e;obtain⟨o,e,c,d⟩:=st;exact⟨o,e,fun v z=>by rw[d]at z;cases z⟩
 keep:=fun i h h' st k=>st.at fun o e=>k it (by simp) o e
 item :=by
  intro X hP hw hK hc i pins s σ H E I hf st hg;subst hP hw hK;obtain⟨xs,x,hq,hx⟩:=hg;obtain⟨its,rv,p,hz⟩:=I.list hq;obtain⟨u,hu,ru⟩:=rv.get hx;obtain⟨f0,f1,f2,f3,f4,f5⟩:=hf it (by simp)
  refine wpAny_pyNext_list_item st p.isList (x:=u) (by simpa using hu) fun h' kb sb=>?_
  have I1:Inv X pins σ H {s with heap:=h'}:=I.turned (t':=s.toks) (fun b o hb e=>(sb.2 b hb).trans e) f0 f1 f3 f4 f5
  obtain⟨o,e,c,d⟩:=id kb;exact⟨u,rfl,wW (s:={s with heap:=h'}) e c d (by decide) ⟨x,H,I1,ru,⟨rfl,fun ys hy=>by rw[I.xt hy hq];exact hx⟩,kb,fun b hb=>(hf b hb).1⟩⟩
 done :=by
  intro X hP hw hK hc i pins s σ H E I hf st hg;subst hP hw hK;obtain⟨xs,hq,hx⟩:=hg;obtain⟨its,rv,p,hz⟩:=I.list hq;obtain⟨f0,f1,f2,f3,f4,f5⟩:=hf it (by simp)
  have hl:=rv.length;exact wpAny_pyNext_list_end (I.ok.hd hc) st p.isList (by simp;omega) fun h' eb=>⟨rfl,I.turned (t':=s.toks) (fun b o hb e=>eb b o hb e) f0 f1 f3 f4 f5⟩
 self:=fun _ _ _ _ _ st h=>wpAny_pyIter_listiter st h
theorem B8 {P:ff}{w:im}{K:ba}{tg:c8}(a it:ag):Turn P w K tg (NF K a) [it] it (fun i h=>h.IsTupleIter it a i) where
 mem :=by simp
 obj:=fun i h st b hb=>by
  have e:b=it :=by simpa using hb
  subst e;obtain⟨o,e,c,d⟩:=st;exact⟨o,e,fun v z=>by rw[d]at z;cases z⟩
 keep:=fun i h h' st k=>st.at fun o e=>k it (by simp) o e
 item :=by
  intro X hP hw hK hc i pins s σ H E I hf st hg;subst hP hw hK;obtain⟨xs,x,hq,hx⟩:=hg;obtain⟨its,rv,p,hz⟩:=I.tuple hq;obtain⟨u,hu,ru⟩:=rv.get hx;obtain⟨f0,f1,f2,f3,f4,f5⟩:=hf it (by simp)
  refine wpAny_pyNext_tuple_item st (show s.heap.IsTuple a its.toArray from p) (x:=u) (by simpa using hu) fun h' kb sb=>?_
  have I1:Inv X pins σ H {s with heap:=h'}:=I.turned (t':=s.toks) (fun b o hb e=>(sb.2 b hb).trans e) f0 f1 f3 f4 f5
  obtain⟨o,e,c,d⟩:=id kb;exact⟨u,rfl,wW (s:={s with heap:=h'}) e c d (by decide) ⟨x,H,I1,ru,⟨rfl,fun ys hy=>by rw[I.vm hy hq];exact hx⟩,kb,fun b hb=>(hf b hb).1⟩⟩
 done :=by
  intro X hP hw hK hc i pins s σ H E I hf st hg;subst hP hw hK;obtain⟨xs,hq,hx⟩:=hg;obtain⟨its,rv,p,hz⟩:=I.tuple hq;obtain⟨f0,f1,f2,f3,f4,f5⟩:=hf it (by simp)
  have hl:=rv.length;exact wpAny_pyNext_tuple_end (I.ok.hd hc) st (show s.heap.IsTuple a its.toArray from p) (by simp;omega) fun h' eb=>⟨rfl,I.turned (t':=s.toks) (fun b o hb e=>eb b o hb e) f0 f1 f3 f4 f5⟩
 self:=fun _ _ _ _ _ st h=>wpAny_pyIter_tupleiter st h
theorem B9 {P:ff}{w:im}{K:ba}{tg:c8}(it:ag) (lo:Int) (n:Nat):Turn P w K tg (D7 lo n) [it] it (fun i h=>IsRangeIter h it (lo+(i:Nat) * 1) ((n:Int) - (i:Nat)) 1) where
 mem :=by simp
 obj:=fun i h st b hb=>by
  have e:b=it :=by simpa using hb
  subst e;exact⟨_,st,fun v z=>by
   have z':Data.fields _=Data.cell v:=z;cases z'⟩
 keep:=fun i h h' st k=>k it (by simp) _ st
 item :=by
  intro X hP hw hK hc i pins s σ H E I hf st hg;subst hP hw hK;obtain⟨f0,f1,f2,f3,f4,f5⟩:=hf it (by simp)
  have W:=Walks.range (prog:=X.prog) (w:=X.w) (I.ok.hd hc) it lo 1 n;refine W.item i s _ _ hg st fun v h' tk hv kb kk=>?_
  obtain⟨t,rfl⟩:=hv;have I1:Inv X pins σ H {s with heap:=h',toks:=tk}:=I.turned (fun b o hb e=>kk b o (by simpa using hb) e) f0 f1 f3 f4 f5
  refine⟨_,rfl,wW (s:={s with heap:=h',toks:=tk}) (n := "range_iterator") kb rfl rfl (by decide) ⟨.int (lo+i),H,I1,⟨t,?_⟩,⟨rfl,rfl⟩,kb,fun b hb=>(hf b hb).1⟩⟩
  rw[Int.mul_one]
 done :=by
  intro X hP hw hK hc i pins s σ H E I hf st hg;subst hP hw hK;obtain⟨f0,f1,f2,f3,f4,f5⟩:=hf it (by simp)
  exact wpAny_pyNext_range_end (I.ok.hd hc) st (by have:n<=i:=hg;omega) fun h' eb=>⟨rfl,I.turned (t':=s.toks) (fun b o hb e=>eb b o hb e) f0 f1 f3 f4 f5⟩
 self:=fun _ _ _ _ _ st h=>wpAny_pyIter_rangeiter st h
section
variable {X:Cx}{tg:c8}
def JM (K:ba) (tl:TE):TI:=fun σ H R=>tl σ H fun x H1=>∃a,x=.ref a/\(∃xs,bL K H1 a xs)/\R (ND K a) H1
def NI (K:ba) (tl:TE):TI:=fun σ H R=>tl σ H fun x H1=>∃a,x=.ref a/\(∃xs,c9 K H1 a xs)/\R (NF K a) H1
theorem La {l:c8}{tl:TE}(hl:PE X l tl):PI X tg l (JM X.K tl) :=by
 intro pins s σ H R I h;refine thn (hl pins s σ H _ I h) fun v s1 ⟨x,H1,I1,r1,q1⟩=>?_
 obtain⟨a,e,⟨xs,hq⟩,q⟩:=q1;subst e;cases r1;obtain⟨its,rv,p,hz⟩:=I1.list hq;refine UF p.isList ?_;refine⟨s1.heap.objs.size,[s1.heap.objs.size],_,_,H1,rfl,I1.kept (t':=s1.toks) fun b o e=>br _ e,D8 a _,⟨_,db _ rfl,rfl,rfl⟩,fun b hb=>?_,q⟩
 have e:b=s1.heap.objs.size :=by simpa using hb
 subst e;exact I1.k6 (cb _) (I1.hok.fresh (cb _))
theorem NK {l:c8}{tl:TE}(hl:PE X l tl):PI X tg l (NI X.K tl) :=by
 intro pins s σ H R I h;refine thn (hl pins s σ H _ I h) fun v s1 ⟨x,H1,I1,r1,q1⟩=>?_
 obtain⟨a,e,⟨xs,hq⟩,q⟩:=q1;subst e;cases r1;obtain⟨its,rv,p,hz⟩:=I1.tuple hq;refine SO (show s1.heap.IsTuple a its.toArray from p) ?_;refine⟨s1.heap.objs.size,[s1.heap.objs.size],_,_,H1,rfl,I1.kept (t':=s1.toks) fun b o e=>br _ e,B8 a _,⟨_,db _ rfl,rfl,rfl⟩,fun b hb=>?_,q⟩
 have e:b=s1.heap.objs.size :=by simpa using hb
 subst e;exact I1.k6 (cb _) (I1.hok.fresh (cb _))
theorem xu {pins:List (ag×kw)}{σ:St}{H:Hp}{s:ar}{R:It->Hp->Prop}{E:al->ar->Prop}{lo hi:Int}{t u v:aaR}{tk:Nat}(I:Inv X pins σ H s) (h1 : -(2 ^ 62)<=lo) (h2:lo<2 ^ 62) (h3 : -(2 ^ 62)<=hi) (h4:hi<2 ^ 62)
  (q:R (D7 lo (hi - lo).toNat) H):wpAny (model X.prog X.w) X.A (pyIter (.ref s.heap.objs.size)) (TR X pins σ tg R) E {s with heap:=s.heap.push {cls:=.type "range",data:=.fields #[.int lo t,.int hi u,.int 1 v]},toks:=tk}:=by
 refine wpAny_pyIter_range (IsRange.new ..) (small_one h1 h2 h3 h4) ?_;have I1:Inv X pins σ H {s with heap:=s.heap.push {cls:=.type "range",data:=.fields #[.int lo t,.int hi u,.int 1 v]},toks:=tk}:=I.kept fun b o e=>br _ e
 refine⟨(s.heap.push {cls:=.type "range",data:=.fields #[.int lo t,.int hi u,.int 1 v]}).objs.size,[(s.heap.push {cls:=.type "range",data:=.fields #[.int lo t,.int hi u,.int 1 v]}).objs.size],_,_,H,rfl,
  I1.kept (t':=tk) fun b o e=>br _ e,B9 _ lo (hi - lo).toNat,?_,fun b hb=>?_,q⟩
 ·have e1:lo+((0:Nat):Int) * 1=lo :=by simp
  have e2:(((hi - lo).toNat:Nat):Int) - ((0:Nat):Int)=ss.Range.rangeSize lo hi 1 :=by rw[rangeSize_one];split<;>omega
  show IsRangeIter _ _ (lo+((0:Nat):Int) * 1) ((((hi - lo).toNat:Nat):Int) - ((0:Nat):Int)) 1;rw[e1,e2];exact db _ rfl
 ·have e:b=(s.heap.push {cls:=.type "range",data:=.fields #[.int lo t,.int hi u,.int 1 v]}).objs.size :=by simpa using hb
  subst e;exact I1.k6 (cb _) (I1.hok.fresh (cb _))
def JN (ta:TA):TI:=fun σ H R=>ta σ H fun vs H1=>∃j:Int,vs=[.int j] /\ -(2 ^ 62)<=j/\j<2 ^ 62/\R (D7 0 j.toNat) H1
def JO (ta:TA):TI:=fun σ H R=>ta σ H fun vs H1=>∃i j:Int,vs=[.int i,.int j]/\(-(2 ^ 62)<=i/\i<2 ^ 62 /\ -(2 ^ 62)<=j/\j<2 ^ 62)/\R (D7 i (j - i).toNat) H1
theorem D9 {a:c8}{ta:TA}{p pos:u7}(hg:Gl X "range") (hm:X.mg "range" = none) (ha:PA X [a] ta) (hs:starEach [a] X.env=[(false,eval a X.env)] :=by rfl):PI X tg (.Call (.Name "range" p) [a] [] pos) (JN ta) :=by
 intro pins s σ H R I h;refine Call_ (gY I hg hm boot_range (Cf (thn (ha pos pins s σ H _ I h) fun us s1 ⟨vs,H1,I1,r1,q1⟩=>?_) hs rfl))
 obtain⟨j,e,q1,q2,q⟩:=q1;subst e;cases r1 with
 |cons r rr=>
  cases rr;obtain⟨t,rfl⟩:=r;exact call_range_1 (xu I1 (by omega) (by omega) q1 q2 (by simpa using q))
theorem vo {a b:c8}{ta:TA}{p pos:u7}(hg:Gl X "range") (hm:X.mg "range" = none) (ha:PA X [a,b] ta) (hs:starEach [a,b] X.env=[(false,eval a X.env),(false,eval b X.env)] :=by rfl) (k7:starEach [b] X.env=[(false,eval b X.env)] :=by rfl) :
  PI X tg (.Call (.Name "range" p) [a,b] [] pos) (JO ta) :=by
 intro pins s σ H R I h;refine Call_ (gY I hg hm boot_range (Cf (thn (ha pos pins s σ H _ I h) fun us s1 ⟨vs,H1,I1,r1,q1⟩=>?_) (by rw[hs,k7]) (by rw[k7];rfl)))
 obtain⟨i,j,e,⟨q1,q2,q3,q4⟩,q⟩:=q1;subst e;cases r1 with
 |cons r rr=>
  cases rr with
  |cons r' rr=>
   cases rr;obtain⟨t,rfl⟩:=r;obtain⟨t',rfl⟩:=r';exact call_range_2 (xu I1 q1 q2 q3 q4 q)
def NM (wi:TI) (g:TG) (tb:TS):TS:=fun D σ H=>wi σ H fun J H1=>∃W:Nat->Nat->St->Hp->Prop,(∃m,W 0 m σ H1)/\∀i m σ H,W i m σ H->
 (J.stop i H/\D.nx σ H)\/(J.go i H/\∃N:St->Hp->Prop,(∀aQ H',N aQ H'->∃m',m'<m/\W (i+1) m' aQ H')/\∀x H',J.yld i H x H'->g x σ H' fun sO H2=>tb {D with nx:=N,ct:=N,bk:=D.nx} sO H2)
def ng (fp:List ag) (h:hX):List (ag×kw):=fp.filterMap fun b=>(h.get? b).map fun o=>(b,o)
theorem gA {fp:List ag}{h:hX}{b:ag}{o:kw}(hb:b∈fp) (e:h.get? b=some o):(b,o)∈ng fp h:=aan.mpr ⟨b,hb,by rw[e];rfl⟩
theorem Ea {fp:List ag}{h:hX}{p:ag×kw}(hp:p∈ng fp h):p.1∈fp/\h.get? p.1=some p.2 :=by
 obtain⟨b,hb,e⟩:=aan.mp hp;cases q:h.get? b with
 |none=>rw[q]at e;cases e
 |some o=>
  rw[q]at e;have e':(b,o)=p:=ij e;subst e';exact⟨hb,q⟩
theorem Inv.pinned {pins:List (ag×kw)}{σ:St}{H:Hp}{s:ar}{fp:List ag}(I:Inv X pins σ H s) (hf:∀b∈fp,dg X pins H b) (ho:∀b∈fp,∃o,s.heap.get? b=some o/\∀v,o.data≠.cell v):Inv X (pins++ng fp s.heap) σ H s:=
 I.ux fun p hp=>(rf.mp hp).elim (fun z=>I.pin p (li _ z)) fun z=>by
  obtain⟨hb,e⟩:=Ea z;obtain⟨f0,f1,f2,_⟩:=hf p.1 hb;obtain⟨o,e',d⟩:=ho p.1 hb;rw[e]at e';cases e';exact⟨e,f0,f1,f2,d⟩
theorem Inv.iq {pins pl:List (ag×kw)}{σ:St}{H:Hp}{s:ar}(I:Inv X (pins++pl) σ H s):Inv X pins σ H s:=I.ux fun p hp=>I.pin p (li _ (r9 _ hp))
theorem NN {iter:c8}{body:List sw}{wi:TI}{g:TG}{tb:TS}{pos:u7}(hp:aa2 (model X.prog X.w) X.A X.env X.xe) (hc:X.calm=true) (hi:PI X tg iter wi) (hg:PG X tg g) (hb:iG X body tb)
  (hs:∀x,foldedSetIterable iter X.env x=pure x :=by intro _;rfl):PS X (.For tg iter body [] pos) (NM wi g tb) :=by
 refine⟨?_⟩;intro pins s σ H D I h;refine wpAny_For (thn (hi pins s σ H _ I h) fun v s1 h1=>thn h1 fun oY s2 h2=>?_) hs
 obtain⟨it,fp,tn,J,H2,e,I2,T,iH,f2,W,⟨m0,w0⟩,turn⟩:=h2;subst e;have stat:∀{H':Hp},(∀b∈fp,H' b=none)->∀b∈fp,dg X pins H' b:=fun hn b hb=>⟨hn b hb,(f2 b hb).2⟩
 refine codeAny_forLoop_any (fun n s'=>∃i aQ H',Inv X pins aQ H' s'/\tn i s'.heap/\(∀b∈fp,H' b=none)/\W i n aQ H') ?_ m0 ⟨0,σ,H2,I2,iH,fun b hb=>(f2 b hb).1,w0⟩
 rintro n s3 ⟨i,oF,H3,I3,vp,Eb,w3⟩;rcases turn i n oF H3 w3 with ⟨stop,qn⟩|⟨go,N,hN,step⟩
 ·refine On hp (thn (T.done X rfl rfl rfl hc i pins s3 oF H3 X.xe I3 (stat Eb) vp stop) fun r s4 ⟨hr,I4⟩=>?_)
  subst hr;exact ZR ⟨oF,H3,I4,qn⟩
 ·refine On hp (thn (T.item X rfl rfl rfl hc i pins s3 oF H3 X.xe I3 (stat Eb) vp go) fun r s4 ⟨u,hr,h4⟩=>?_)
  subst hr;refine On hp (thn h4 fun _ s5 ⟨x,H5,I5,r5,y5,oZ,Ec⟩=>?_)
  have Ed:=I5.pinned (stat Ec) (T.obj _ _ oZ);refine On hp (thn (hg _ s5 oF H5 x u _ Ed r5 (step x H5 y5)) fun _ s6 ⟨Wy,H6,I6,q6⟩=>?_)
  refine On hp (thn (hb _ s6 Wy H6 _ I6 q6) fun f s7 q7=>?_)
  have again:∀{o6:St} {H7:Hp},Inv X (pins++ng fp s5.heap) o6 H7 s7->N o6 H7->∃m,m<n/\∃i aQ H',Inv X pins aQ H' s7/\tn i s7.heap/\(∀b∈fp,H' b=none)/\W i m aQ H':=fun {o6 H7} I7 n7=>by
   obtain⟨m',hm,w7⟩:=hN o6 H7 n7;refine⟨m',hm,i+1,o6,H7,I7.iq,T.keep _ _ _ oZ fun b hb o e=>(I7.pin (b,o) (li _ (li _ (gA hb e)))).1,fun b hb=>?_,w7⟩
   obtain⟨o,e,d⟩:=T.obj _ _ oZ b hb;exact(I7.pin (b,o) (li _ (li _ (gA hb e)))).2.1
  cases f with
  |next=>obtain⟨o6,H7,I7,n7⟩:=q7;exact again I7 n7
  |cont=>obtain⟨o6,H7,I7,n7⟩:=q7;exact again I7 n7
  |brk=>obtain⟨o6,H7,I7,q7⟩:=q7;exact⟨o6,H7,I7.iq,q7⟩
  |ret v=>obtain⟨x7,o6,H7,I7,r7,q7⟩:=q7;exact⟨x7,o6,H7,I7.iq,r7,q7⟩
end
abbrev R2:=V->V->Hp->VK->Prop
def OpR (X:Cx) (f:al->al->WF al) (r:R2):Prop:=
 ∀(pins:List (ag×kw)) (s:ar) (σ:St) (H:Hp) (x y:V) (v u:al) (Q:VK),Inv X pins σ H s->RelV x v->RelV y u->r x y H Q->
  wpAny (model X.prog X.w) X.A (f v u) (EP X pins σ Q) X.xe s
def cK (X:Cx) (f:al) (r:List V->Hp->VK->Prop):Prop:=
 ∀(pins:List (ag×kw)) (s:ar) (σ:St) (H:Hp) (xs:List V) (us:List al) (Q:VK),Inv X pins σ H s->Vals xs us->r xs H Q->
  wpAny (model X.prog X.w) X.A (call f us) (EP X pins σ Q) X.xe s
def Vr (X:Cx) (r:V->Hp->(Bool->Hp->Prop)->Prop):Prop:=
 ∀(pins:List (ag×kw)) (s:ar) (σ:St) (H:Hp) (x:V) (v:al) (Q:Bool->Hp->Prop),Inv X pins σ H s->RelV x v->r x H Q->
  wpAny (model X.prog X.w) X.A (truthy v) (TP X pins σ Q) X.xe s
def Ee (r:R2) (ta tb:TE):TE:=fun σ H Q=>ta σ H fun x H1=>tb σ H1 fun y H2=>r x y H2 Q
def rI (C:Int->Int->Prop) (g:Int->Int->V):R2:=fun x y H Q=>∃i j,x=.int i/\y=.int j/\C i j/\Q (g i j) H
def vq (g:Int->Int->V):R2:=fun x y H Q=>∃i j,x=.int i/\y=.int j/\Q (g i j) H
section
variable {X:Cx}{a b c:c8}{ta tb tc:TE}{pos:u7}
theorem Hu (ha:PE X a ta) (hb:PE X b tb) {pins:List (ag×kw)}{s:ar}{σ:St}{H:Hp}{R:V->V->Hp->Prop}(I:Inv X pins σ H s)
  (h:ta σ H fun x H1=>tb σ H1 fun y H2=>R x y H2) {Q:al->ar->Prop} {f:al->al->WF al}
  (hf:∀v u s2 x y H2,Inv X pins σ H2 s2->RelV x v->RelV y u->R x y H2->wpAny (model X.prog X.w) X.A (f v u) Q X.xe s2) :
  wpAny (model X.prog X.w) X.A (eval a X.env) (fun v aF=>wpAny (model X.prog X.w) X.A (eval b X.env) (fun u jr=>wpAny (model X.prog X.w) X.A (f v u) Q X.xe jr) X.xe aF) X.xe s :=by
 refine thn (ha pins s σ H _ I h) fun v s1 ⟨x,H1,I1,r1,q1⟩=>?_
 refine thn (hb pins s1 σ H1 _ I1 q1) fun u s2 ⟨y,H2,I2,r2,q2⟩=>?_
 exact hf v u s2 x y H2 I2 r1 r2 q2
theorem Sd {op:Operator}{r:R2}(ho:OpR X (binaryOp op) r) (ha:PE X a ta) (hb:PE X b tb):PE X (.BinOp a op b pos) (Ee r ta tb) :=by
 refine⟨?_⟩;intro pins s σ H Q I h;exact wpAny_BinOp (Hu ha hb I h fun v u s2 x y H2 I2 rx ry q=>ho pins s2 σ H2 x y v u Q I2 rx ry q)
theorem JP {f:al->al->WF al}{C:Int->Int->Prop}{g:Int->Int->Int}
  (rule:∀(i j:Int) (t u:aaR) (s:ar) (Q:al->ar->Prop) (E:al->ar->Prop),C i j->Q (.int (g i j) s.toks) {s with toks:=s.toks+1}->wpAny (model X.prog X.w) X.A (f (.int i t) (.int j u)) Q E s) :
  OpR X f (rI C fun i j=>.int (g i j)) :=by
 intro pins s σ H x y v u Q I rx ry h;obtain⟨i,j,rfl,rfl,hc,q⟩:=h;obtain⟨t,rfl⟩:=rx;obtain⟨t',rfl⟩:=ry;exact rule i j t t' s _ _ hc ⟨.int (g i j),H,I.tok _,⟨_,rfl⟩,q⟩
theorem NP {f:al->al->WF al}{g:Int->Int->Int}
  (rule:∀(i j:Int) (t u:aaR) (s:ar) (Q:al->ar->Prop) (E:al->ar->Prop),Q (.int (g i j) s.toks) {s with toks:=s.toks+1}->wpAny (model X.prog X.w) X.A (f (.int i t) (.int j u)) Q E s) :
  OpR X f (vq fun i j=>.int (g i j)) :=by
 intro pins s σ H x y v u Q I rx ry h;obtain⟨i,j,rfl,rfl,q⟩:=h;obtain⟨t,rfl⟩:=rx;obtain⟨t',rfl⟩:=ry;exact rule i j t t' s _ _ ⟨.int (g i j),H,I.tok _,⟨_,rfl⟩,q⟩
theorem Hv {f:al->al->WF al}{g:Int->Int->Bool}
  (rule:∀(i j:Int) (t u:aaR) (s:ar) (Q:al->ar->Prop) (E:al->ar->Prop),Q (.bool (g i j)) s->wpAny (model X.prog X.w) X.A (f (.int i t) (.int j u)) Q E s) :
  OpR X f (vq fun i j=>.bl (g i j)) :=by
 intro pins s σ H x y v u Q I rx ry h;obtain⟨i,j,rfl,rfl,q⟩:=h;obtain⟨t,rfl⟩:=rx;obtain⟨t',rfl⟩:=ry;exact rule i j t t' s _ _ ⟨.bl (g i j),H,I,rfl,q⟩
def NQ (i j:Int):Prop:=0<j/\j<1073741824
def NR (i j:Int):Prop:=0<=j/\j<=1000000/\i.natAbs<2 ^ 64
def Ca (i j:Int):Prop:=(-(2 ^ 64)<i/\i<2 ^ 64)\/(-(2 ^ 64)<j/\j<2 ^ 64)
theorem Ca.ok {i j:Int}(h:Ca i j):IntMulOk i j :=by
 rcases h with ⟨h1,h2⟩|⟨h1,h2⟩
 ·exact .of_left (intBits_le_64 h1 h2)
 ·exact .of_right (intBits_le_64 h1 h2)
theorem NS:OpR X (binaryOp .Add) (vq fun i j=>.int (i+j)):=NP fun _ _ _ _ _ _ _ q=>add_int q
theorem NT:OpR X (binaryOp .Sub) (vq fun i j=>.int (i - j)):=NP fun _ _ _ _ _ _ _ q=>sub_int q
theorem NU:OpR X (binaryOp .Mult) (rI Ca fun i j=>.int (i * j)):=JP fun _ _ _ _ _ _ _ hc q=>mul_int q hc.ok
theorem Lb:OpR X (binaryOp .FloorDiv) (rI NQ fun i j=>.int (i / j)):=JP fun i j _ _ _ _ _ hc q=>by
 have h1:(0:Int)<j:=hc.1;have h2:j<1073741824:=hc.2;exact floordiv_int (by omega) (by rw[Int.fdiv_eq_ediv_of_nonneg i (by omega)];exact q) (.inl (PyProof.noPylong_small (by omega)))
theorem NV:OpR X (binaryOp .Mod) (rI (fun _ j=>0<j) fun i j=>.int (i % j)):=JP fun i j _ _ _ _ _ hc q=>by
 have h1:(0:Int)<j:=hc;exact mod_int' (by omega) (by rw[Int.fmod_eq_emod_of_nonneg i (by omega)];exact q)
theorem NW:OpR X (binaryOp .Pow) (rI NR fun i j=>.int (i ^ j.toNat)):=JP fun _ _ _ _ _ _ _ hc q=>pow_int_small hc.1 hc.2.1 hc.2.2 q
end
def Hw:V->V->Bool
 | .ax,.ax=>true | .ax,.int _=>true | .int _,.ax=>true | .ax,.bl _=>true | .bl _,.ax=>true | .ax,.str _=>true | .str _,.ax=>true
 | .int _,.int _=>true | .bl _,.bl _=>true | .str _,.str _=>true | .kX _,.kX _=>true
 | .int _,.str _=>true | .str _,.int _=>true | .bl _,.str _=>true | .str _,.bl _=>true
 |_,_=>false
def Wz:R2:=fun x y H Q=>Hw x y=true/\Q (.bl (decide (x=y))) H
def WB:R2:=fun x y H Q=>Hw x y=true/\Q (.bl (!decide (x=y))) H
theorem AZ {i j:Int}:decide (V.int i=V.int j)=(i==j) :=by
 rw[Op];simp
theorem Ef {i j:Bool}:decide (V.bl i=V.bl j)=(i==j) :=by
 rw[Op];simp
theorem A0 {i j:bi}:decide (V.str i=V.str j)=(i==j) :=by
 rw[Op];simp
theorem A1 {i j:Array UInt8}:decide (V.kX i=V.kX j)=(i.toList==j.toList) :=by
 rw[Op];cases i;cases j;simp
section
variable {X:Cx}{a b c:c8}{ta tb tc:TE}{pos:u7}
theorem bu {pins:List (ag×kw)}{σ:St}{H:Hp}{s:ar}{Q:VK}{k k':Bool}(I:Inv X pins σ H s) (q:Q (.bl k) H) (e:k=k'):EP X pins σ Q (.bool k') s :=by
 subst e;exact⟨.bl k,H,I,rfl,q⟩
theorem Se:OpR X (compareOp .Eq) Wz :=by
 intro pins s σ H x y v u Q I rx ry h;obtain⟨hs,q⟩:=h;cases x with
 |ax=>
  cases rx;cases y with
  |ax=>cases ry;exact PySem.EqNone.eq_none_none (bu I q (by simp))
  |bl j=>cases ry;exact PySem.EqNone.eq_none_bool (bu I q (by simp))
  |int j=>obtain⟨t',rfl⟩:=ry;exact PySem.EqNone.eq_none_int (bu I q (by simp))
  |str j=>obtain⟨t',rfl⟩:=ry;exact PySem.EqNone.eq_none_str (bu I q (by simp))
  |_=>exact absurd (show false=true from hs) i0
 |bl i=>
  cases rx;cases y with
  |ax=>cases ry;exact PySem.EqNone.eq_bool_none (bu I q (by simp))
  |bl j=>cases ry;exact eq_bool (bu I q Ef)
  |str j=>obtain⟨t',rfl⟩:=ry;exact PySem.EqMixed.eq_bool_str (bu I q (by simp))
  |_=>exact absurd (show false=true from hs) i0
 |int i=>
  obtain⟨t,rfl⟩:=rx;cases y with
  |ax=>cases ry;exact PySem.EqNone.eq_int_none (bu I q (by simp))
  |int j=>obtain⟨t',rfl⟩:=ry;exact eq_int (bu I q AZ)
  |str j=>obtain⟨t',rfl⟩:=ry;exact PySem.EqMixed.eq_int_str (bu I q (by simp))
  |_=>exact absurd (show false=true from hs) i0
 |str i=>
  obtain⟨t,rfl⟩:=rx;cases y with
  |ax=>cases ry;exact PySem.EqNone.eq_str_none (bu I q (by simp))
  |bl j=>cases ry;exact PySem.EqMixed.eq_str_bool (bu I q (by simp))
  |int j=>obtain⟨t',rfl⟩:=ry;exact PySem.EqMixed.eq_str_int (bu I q (by simp))
  |str j=>obtain⟨t',rfl⟩:=ry;exact eq_str (bu I q A0)
  |_=>exact absurd (show false=true from hs) i0
 |kX i=>
  obtain⟨t,rfl⟩:=rx;cases y with
  |kX j=>obtain⟨t',rfl⟩:=ry;exact PySem.W.eq_bytes (bu I q A1)
  |_=>exact absurd (show false=true from hs) i0
 |_=>cases y<;>exact absurd (show false=true from hs) i0
theorem Sf:OpR X (compareOp .NotEq) WB :=by
 intro pins s σ H x y v u Q I rx ry h;obtain⟨hs,q⟩:=h;cases x with
 |ax=>
  cases rx;cases y with
  |ax=>cases ry;exact PySem.EqNone.ne_none_none (bu I q (by simp))
  |bl j=>cases ry;exact PySem.EqNone.ne_none_bool (bu I q (by simp))
  |int j=>obtain⟨t',rfl⟩:=ry;exact PySem.EqNone.ne_none_int (bu I q (by simp))
  |str j=>obtain⟨t',rfl⟩:=ry;exact PySem.EqNone.ne_none_str (bu I q (by simp))
  |_=>exact absurd (show false=true from hs) i0
 |bl i=>
  cases rx;cases y with
  |ax=>cases ry;exact PySem.EqNone.ne_bool_none (bu I q (by simp))
  |bl j=>cases ry;exact ne_bool (bu I q (congrArg not Ef))
  |str j=>obtain⟨t',rfl⟩:=ry;exact PySem.EqMixed.ne_bool_str (bu I q (by simp))
  |_=>exact absurd (show false=true from hs) i0
 |int i=>
  obtain⟨t,rfl⟩:=rx;cases y with
  |ax=>cases ry;exact PySem.EqNone.ne_int_none (bu I q (by simp))
  |int j=>obtain⟨t',rfl⟩:=ry;exact ne_int (bu I q (congrArg not AZ))
  |str j=>obtain⟨t',rfl⟩:=ry;exact PySem.EqMixed.ne_int_str (bu I q (by simp))
  |_=>exact absurd (show false=true from hs) i0
 |str i=>
  obtain⟨t,rfl⟩:=rx;cases y with
  |ax=>cases ry;exact PySem.EqNone.ne_str_none (bu I q (by simp))
  |bl j=>cases ry;exact PySem.EqMixed.ne_str_bool (bu I q (by simp))
  |int j=>obtain⟨t',rfl⟩:=ry;exact PySem.EqMixed.ne_str_int (bu I q (by simp))
  |str j=>obtain⟨t',rfl⟩:=ry;exact ne_str (bu I q (congrArg not A0))
  |_=>exact absurd (show false=true from hs) i0
 |kX i=>
  obtain⟨t,rfl⟩:=rx;cases y with
  |kX j=>obtain⟨t',rfl⟩:=ry;exact PySem.W.ne_bytes (bu I q (congrArg not A1))
  |_=>exact absurd (show false=true from hs) i0
 |_=>cases y<;>exact absurd (show false=true from hs) i0
theorem Sg:OpR X (compareOp .Lt) (vq fun i j=>.bl (decide (i<j))):=Hv fun _ _ _ _ _ _ _ q=>lt_int q
theorem Sh:OpR X (compareOp .LtE) (vq fun i j=>.bl (decide (i<=j))):=Hv fun _ _ _ _ _ _ _ q=>le_int q
theorem Si:OpR X (compareOp .Gt) (vq fun i j=>.bl (decide (j<i))):=Hv fun _ _ _ _ _ _ _ q=>gt_int q
theorem NX:OpR X (compareOp .Is) (fun x y H Q=>y=.ax/\Q (.bl (decide (x=.ax))) H) :=by
 intro pins s σ H x y v u Q I rx ry h;obtain⟨rfl,q⟩:=h;cases ry;refine is_none_gen (bu I q ?_);cases x<;>first
  |(cases rx;rfl)
  |(obtain⟨t,rfl⟩:=rx;rfl)
theorem a9 (b:c8) {op:WJ}(h:op≠.In :=by decide) (h2:op≠.NotIn :=by decide):behindInMarks op b=false :=by
 have e1:(op==WJ.In)=false :=by cases op<;>first|rfl|exact absurd rfl h
 have e2:(op==WJ.NotIn)=false :=by cases op<;>first|rfl|exact absurd rfl h2
 cases b<;>simp[behindInMarks,e1,e2]
theorem Lc {op:WJ}{r:R2}(ho:OpR X (compareOp op) r) (ha:PE X a ta) (hb:PE X b tb) (hm:behindInMarks op b=false):PE X (.Compare a [op] [b] pos) (Ee r ta tb) :=by
 refine⟨?_⟩;intro pins s σ H Q I h;exact wpAny_Compare1 (Hu ha hb I h fun v u s2 x y H2 I2 rx ry q=>ho pins s2 σ H2 x y v u Q I2 rx ry q) hm
def Cb (t:TE):TT:=fun σ H Q=>t σ H fun x H'=>∃k,x=.bl k/\Q k H'
theorem Ld {op:WJ}{r:R2}(ho:OpR X (compareOp op) r) (ha:PE X a ta) (hb:PE X b tb) (hm:behindInMarks op b=false):PT X (.Compare a [op] [b] pos) (Cb (Ee r ta tb)) :=by
 refine⟨?_⟩;intro pins s σ H Q I h;refine wpAny_isTrue_Compare1 (thn (ha pins s σ H _ I h) fun v s1 ⟨x,H1,I1,r1,q1⟩=>thn (hb pins s1 σ H1 _ I1 q1) fun u s2 ⟨y,H2,I2,r2,q2⟩=>
  thn (ho pins s2 σ H2 x y v u _ I2 r1 r2 q2) fun c s3 ⟨z,H3,I3,r3,k,e,q3⟩=>?_) hm
 subst e;cases r3;exact AN ⟨H3,I3,q3⟩
def xx (r r':R2) (ta tb tc:TE):TE:=fun σ H Q=>ta σ H fun x H1=>tb σ H1 fun y H2=>r x y H2 fun z H3=>∃k,z=.bl k /\
 (if k=true then tc σ H3 fun w' H4=>r' y w' H4 Q else Q (.bl false) H3)
theorem Hx {op k8:WJ}{r r':R2}(ho:OpR X (compareOp op) r) (fV:OpR X (compareOp k8) r') (ha:PE X a ta) (hb:PE X b tb) (hc:PE X c tc)
  (hm:lastMarks [op,k8] [b,c]=false :=by with_unfolding_all rfl):PE X (.Compare a [op,k8] [b,c] pos) (xx r r' ta tb tc) :=by
 refine⟨?_⟩;intro pins s σ H Q I h;refine Compare_chain (thn (ha pins s σ H _ I h) fun v s1 ⟨x,H1,I1,r1,q1⟩=>chain_link (thn (hb pins s1 σ H1 _ I1 q1) fun u s2 ⟨y,H2,I2,r2,q2⟩=>
  thn (ho pins s2 σ H2 x y v u _ I2 r1 r2 q2) fun d s3 ⟨z,H3,I3,r3,k,e,q3⟩=>?_)) hm
 subst e;cases r3;refine AN ?_;cases k with
 |false=>exact ite_ff ⟨.bl false,H3,I3,rfl,q3⟩
 |true=>exact ite_tt (chain_last (thn (hc pins s3 σ H3 _ I3 q3) fun w' s4 ⟨z',H4,I4,r4,q4⟩=>fV pins s4 σ H4 y z' u w' Q I4 r2 r4 q4))
theorem Hy {op k8:WJ}{r r':R2}(ho:OpR X (compareOp op) r) (fV:OpR X (compareOp k8) r') (ha:PE X a ta) (hb:PE X b tb) (hc:PE X c tc)
  (hm:lastMarks [op,k8] [b,c]=false :=by with_unfolding_all rfl):PT X (.Compare a [op,k8] [b,c] pos) (Cb (xx r r' ta tb tc)) :=by
 refine⟨?_⟩;intro pins s σ H Q I h;refine isTrue_chain (thn (ha pins s σ H _ I h) fun v s1 ⟨x,H1,I1,r1,q1⟩=>test_link (thn (hb pins s1 σ H1 _ I1 q1) fun u s2 ⟨y,H2,I2,r2,q2⟩=>
  thn (ho pins s2 σ H2 x y v u _ I2 r1 r2 q2) fun d s3 ⟨z,H3,I3,r3,k,e,q3⟩=>?_)) hm
 subst e;cases r3;refine AN ?_;cases k with
 |false=>
  obtain⟨k',e',q'⟩:=q3;cases e';exact ite_ff ⟨H3,I3,q'⟩
 |true=>
  refine ite_tt (test_last (thn (hc pins s3 σ H3 _ I3 q3) fun w' s4 ⟨z',H4,I4,r4,q4⟩=>thn (fV pins s4 σ H4 y z' u w' _ I4 r2 r4 q4) fun d' s5 ⟨z2,H5,I5,r5,k2,e2,q5⟩=>?_))
  subst e2;cases r5;exact AN ⟨H5,I5,q5⟩
def Hz (K:ba) (x:V) (H:Hp) (k:Bool):Prop:=
 match x with
 | .ax=>k=false
 | .bl b=>k=b
 | .int i=>k=(i != 0)
 | .str y=>y.length<=sizeLine/\k=((y.length:Int) != 0)
 | .kX y=>y.size<=sizeLine/\k=((y.size:Int) != 0)
 | .ref p=>(∃xs,bL K H p xs/\k = !xs.isEmpty)\/(∃xs,c9 K H p xs/\k = !xs.isEmpty)\/∃aq,H p=some (.dK aq)/\k = !aq.isEmpty
 |_=>False
theorem Cd {κ:Type}{aq:List (κ×V)}{vs:List (κ×al)}(r:KV aq vs):(!vs.isEmpty) = !aq.isEmpty :=by
 cases r<;>rfl
theorem sP {xs:List V}{its:List al}(r:Vals xs its):(!its.toArray.isEmpty) = !xs.isEmpty :=by
 cases r<;>simp
theorem nh:(sizeLine:Nat)<2 ^ 63 :=by rw[NE];decide
theorem NY:Vr X (fun x H Q=>∃k,Hz X.K x H k/\Q k H) :=by
 intro pins s σ H x v Q I rx h;obtain⟨k,e,q⟩:=h;have hl:=nh;have hs:sizeLine=16777216:=NE;cases x with
 |ax=>
  cases rx;have e':k=false:=e;subst e';exact truthy_none ⟨H,I,q⟩
 |bl b=>
  cases rx;have e':k=b:=e;subst e';exact AN ⟨H,I,q⟩
 |int i=>
  obtain⟨t,rfl⟩:=rx;have e':k=(i != 0):=e;subst e';exact PySem.P.truthy_int ⟨H,I,q⟩
 |str y=>
  obtain⟨t,rfl⟩:=rx;obtain⟨hy,e'⟩:y.length<=sizeLine/\k=((y.length:Int) != 0):=e;subst e';exact PySem.P.truthy_str (by omega) ⟨H,I.tok _,q⟩
 |kX y=>
  obtain⟨t,rfl⟩:=rx;obtain⟨hy,e'⟩:y.size<=sizeLine/\k=((y.size:Int) != 0):=e;subst e';exact PySem.W.truthy_bytes (by omega) ⟨H,I.tok _,q⟩
 |ref p=>
  cases rx;have e':(∃xs,bL X.K H p xs/\k = !xs.isEmpty)\/(∃xs,c9 X.K H p xs/\k = !xs.isEmpty)\/∃aq,H p=some (.dK aq)/\k = !aq.isEmpty:=e;rcases e' with ⟨xs,hx,e'⟩|⟨xs,hx,e'⟩|⟨aq,hx,e'⟩
  ·subst e';obtain⟨its,r,pl,hz⟩:=I.list hx;have hlen:=r.length;exact wpAny_truthy_list pl.isList (by simp only[dL];omega) ⟨H,I.tok _,by rw[sP r];exact q⟩
  ·subst e';obtain⟨its,r,pl,hz⟩:=I.tuple hx;have hlen:=r.length;exact truthy_tuple pl (by simp only[dL];omega) ⟨H,I.tok _,by rw[sP r];exact q⟩
  ·subst e';obtain⟨hz,hS,vs,r,m⟩:aq.length<=sizeLine/\(p==sysModules)=false/\∃vs,KV aq vs/\s.heap.DictOf (bA X.prog X.w) p vs:=I.hok p _ hx;have hlen:aq.length=vs.length:=IF r;exact wpAny_truthy_dict hS m (by omega) ⟨H,I.tok _,by rw[Cd r];exact q⟩
 |_=>exact(show False from e).elim
theorem HA (ha:PE X a ta) (he:∀whole,isTrue a X.env whole=(do let v <- whole;standAt a.pos;holding [v] (truthy v))) :
  PT X a (fun σ H Q=>ta σ H fun x H'=>∃k,Hz X.K x H' k/\Q k H') :=by
 refine⟨?_⟩;intro pins s σ H Q I h;exact isTrue_plain (thn (ha pins s σ H _ I h) fun v s1 ⟨x,H1,I1,r1,q1⟩=>NY pins s1 σ H1 x v Q I1 r1 q1) (he _)
theorem Ce:OpR X (binaryOp .Add) (fun x y H Q=>∃i j,x=.str i/\y=.str j/\i.length+j.length<=sizeLine/\Q (.str (i++j)) H) :=by
 intro pins s σ H x y v u Q I rx ry h;obtain⟨i,j,rfl,rfl,hz,q⟩:=h;obtain⟨t,rfl⟩:=rx;obtain⟨t',rfl⟩:=ry;exact add_str (fun t' tk=>⟨.str (i++j),H,I.tok _,⟨_,rfl⟩,q⟩) hz
theorem vals1 {x:V}{us:List al}(r:Vals [x] us):∃u,us=[u]/\RelV x u :=by
 cases r with
 |cons r1 r2=>cases r2;exact⟨_,rfl,r1⟩
theorem vals2 {x y:V}{us:List al}(r:Vals [x,y] us):∃u w',us=[u,w']/\RelV x u/\RelV y w':=by
 cases r with
 |cons r1 r2=>
  cases r2 with
  |cons r3 r4=>cases r4;exact⟨_,_,rfl,r1,r3⟩
theorem HB:cK X (.builtin "abs") (fun xs H Q=>∃i,xs=[.int i]/\Q (.int (if i<0 then -i else i)) H) :=by
 intro pins s σ H xs us Q I r h;obtain⟨i,rfl,q⟩:=h;obtain⟨u,rfl,t,rfl⟩:=vals1 r;exact call_abs_int fun u tk=>⟨.int (if i<0 then -i else i),H,I.tok _,⟨_,rfl⟩,q⟩
theorem Eg (hc:X.calm=true):cK X (.builtin "max") (fun xs H Q=>∃i j,xs=[.int i,.int j]/\Q (.int (if j > i then j else i)) H) :=by
 intro pins s σ H xs us Q I r h;obtain⟨i,j,rfl,q⟩:=h;obtain⟨u,w',rfl,⟨t,rfl⟩,⟨t',rfl⟩⟩:=vals2 r;refine max_two_ints (I.ok.hd hc) fun h' tk k=>⟨_,H,I.kept k,?_,q⟩
 by_cases hj:j > i
 ·rw[if_pos hj,if_pos hj];exact⟨_,rfl⟩
 ·rw[if_neg hj,if_neg hj];exact⟨_,rfl⟩
theorem Eh (hc:X.calm=true):cK X (.builtin "min") (fun xs H Q=>∃i j,xs=[.int i,.int j]/\Q (.int (if j<i then j else i)) H) :=by
 intro pins s σ H xs us Q I r h;obtain⟨i,j,rfl,q⟩:=h;obtain⟨u,w',rfl,⟨t,rfl⟩,⟨t',rfl⟩⟩:=vals2 r;refine min_two_ints (I.ok.hd hc) fun h' tk k=>⟨_,H,I.kept k,?_,q⟩
 by_cases hj:j<i
 ·rw[if_pos hj,if_pos hj];exact⟨_,rfl⟩
 ·rw[if_neg hj,if_neg hj];exact⟨_,rfl⟩
def NZ (K:ba) (x:V) (H:Hp) (n:Nat):Prop:=
 match x with
 | .str y=>y.length<=sizeLine/\n=y.length
 | .kX y=>y.size<=sizeLine/\n=y.size
 | .ref p=>(∃xs,bL K H p xs/\n=xs.length)\/∃xs,c9 K H p xs/\n=xs.length
 |_=>False
theorem HC:cK X (.builtin "len") (fun xs H Q=>∃x n,xs=[x]/\NZ X.K x H n/\Q (.int n) H) :=by
 intro pins s σ H xs us Q I r h;obtain⟨x,n,rfl,e,q⟩:=h;obtain⟨u,rfl,rx⟩:=vals1 r;have hl:=nh;have hs:sizeLine=16777216:=NE;cases x with
 |str y=>
  obtain⟨t,rfl⟩:=rx;obtain⟨hy,e'⟩:y.length<=sizeLine/\n=y.length:=e;subst e';exact len_str (by omega) ⟨.int _,H,I.tok _,⟨_,rfl⟩,q⟩
 |kX y=>
  obtain⟨t,rfl⟩:=rx;obtain⟨hy,e'⟩:y.size<=sizeLine/\n=y.size:=e;subst e';exact PySem.W.len_bytes (by omega) ⟨.int _,H,I.tok _,⟨_,rfl⟩,q⟩
 |ref p=>
  cases rx;have e':(∃xs,bL X.K H p xs/\n=xs.length)\/∃xs,c9 X.K H p xs/\n=xs.length:=e;rcases e' with ⟨xs,hx,e'⟩|⟨xs,hx,e'⟩
  ·subst e';obtain⟨its,r',pl,hz⟩:=I.list hx;have hlen:=r'.length;exact Calls.call_len_list pl.isList (by simp only[dL];omega) ⟨.int xs.length,H,I.tok _,⟨_,by simp only[dL];rw[hlen]⟩,q⟩
  ·subst e';obtain⟨its,r',pl,hz⟩:=I.tuple hx;have hlen:=r'.length;exact len_tuple pl (by simp only[dL];omega) ⟨.int xs.length,H,I.tok _,⟨_,by simp only[dL];rw[hlen]⟩,q⟩
 |_=>exact(show False from e).elim
end
structure HD (h:hX) (x dx C:ag) (mA:bi->Option al):Prop where
 obj:h.get? x=some (aa1 C dx)
 ns:h.Ns1 dx mA
 ne:dx≠x
theorem Ei {h:hX}{dx:ag}{mA:bi->Option al}(n:h.Ns1 dx mA):∃od,h.get? dx=some od/\∀name,PySem.W.lookIn name od=some (mA name) :=by
 obtain⟨o,es,ep,ho,hd,hk,_,hm⟩:=n;refine⟨o,ho,fun name=>?_⟩
 have e:=hm name;unfold nsFind findBy at e;rw[<- Array.find?_toList]at e;unfold PySem.W.lookIn;rw[hd];dsimp only;split
 ·rename_i y q;rw[q]at e;exact congrArg some e
 ·rename_i q;rw[q]at e;have a:es.toList.any (·.refKey)=false :=by
   rw[List.any_eq_false];intro y hy;obtain⟨z,t,mY⟩:=hk y (Array.mem_toList_iff.mp hy);simp[WE.refKey,mY]
  have a':¬ es.toList.any (·.refKey)=true :=by rw[a];exact i0
  rw[if_neg a'];exact congrArg some e
theorem HD.look {h:hX}{x dx C:ag}{mA:bi->Option al}(I:HD h x dx C mA):∃od,PySem.W.InstAt h x (aa1 C dx) C (some od)/\∀name,PySem.W.lookIn name od=some (mA name):=
 let ⟨od,ho,hl⟩:=Ei I.ns
 ⟨od,⟨I.obj,rfl,rfl,ho⟩,hl⟩
theorem jq.some_of {v:V}{o:Option al}(r:jq (some v) o):∃u,o=some u/\RelV v u :=by
 cases o with
 |none=>exact(show False from r).elim
 |some u=>exact⟨u,rfl,r⟩
section
variable {P:ff}{w:im}{H H':Hp}{h h':hX}{a C dx:ag}{fs Wu:List (bi×V)}
theorem Le (hok:c7 P w H h) (e:H a=some (.ins C dx fs)):∃mA,HD h a dx C mA/\(∀f,jq (fs.lookup f) (mA f))/\PySem.Within mA (fs.map (·.1))/\fs.length<=1000/\H dx=some (.own a) :=by
 obtain⟨d,z,ne,ob,mA,n,r,q⟩:=(show ObjOk P w H h a (.ins C dx fs) from hok a _ e);exact⟨mA,⟨ob,n,ne⟩,r,q,z,d⟩
end
structure N0 (K:ba) (C:ag):Prop where
 pg:PySem.W.plainGet K C bi.empty=true
 hd:PySem.W.hasDictIn K C=true
 po:PySem.W.plainOver K C=true
 sa:PySem.W.findIn K (.ref C) "__setattr__" = some (some (.builtin "object.__setattr__"))
theorem N0.get {K:ba}{C:ag}(c:N0 K C) (f:bi):PySem.W.plainGet K C f=true:=c.pg
section
variable {X:Cx}{pins:List (ag×kw)}{σ:St}{H:Hp}{s:ar}{A:l5}{E:al->ar->Prop}{Q:al->ar->Prop}{c:al}{b:Bool}
inductive ir (K:ba) (H:Hp):V->al->Prop where
 |ax:ir K H .ax (.type "NoneType")
 |bl (x:Bool):ir K H (.bl x) (.type "bool")
 |int (i:Int):ir K H (.int i) (.type "int")
 |str (x:bi):ir K H (.str x) (.type "str")
 |AW (x:UInt64):ir K H (.AW x) (.type "float")
 |lst {a:ag} {xs:List V} (e:H a=some (.lst xs)):ir K H (.ref a) (.type "list")
 |bV {a:ag} {o:kw} {xs:List V} (e:H a=some (.bV o (.lst xs))):ir K H (.ref a) (.type "list")
 |tup {a:ag} {xs:List V} (e:H a=some (.tup xs)):ir K H (.ref a) (.type "tuple")
 |dK {a:ag} {aq:List (Key×V)} (e:H a=some (.dK aq)):ir K H (.ref a) (.type "dict")
 |dT {a:ag} {aq:List (List Key×V)} (e:H a=some (.dT aq)):ir K H (.ref a) (.type "dict")
 |ins {a C dx:ag} {fs:List (bi×V)} (e:H a=some (.ins C dx fs)) (cl:N0 K C) (ha:PySem.W.findIn K (.ref C) "__class__" = some (some (.builtin "object.__class__")))
   (hn:PySem.W.specialIn K (.builtin "object.__class__") "__get__" = some (some (.builtin "getset_descriptor.__get__"))) (TU:PySem.W.takesIn K (.builtin "object.__class__")=some true)
   (hm:PySem.W.mroIn K C (.type "object")=some true):ir K H (.ref a) (.ref C)
theorem Ej {x:V}{u t:al}(I:Inv X pins σ H s) (rx:RelV x u) (ty:ir X.K H x t) (e:aac X.K t c=some b) (h:∀tk,Q (.bool b) {s with toks:=tk}) :
  wpAny (model X.prog X.w) A (call (.builtin "isinstance") [u,c]) Q E s :=by
 cases ty with
 |ax=>cases (show u=wS from rx);exact EO PySem.W.kitx_none I.iU LF e (fun z=>nomatch z) h
 |bl y=>cases (show u=WI y from rx);exact EO PySem.W.kitx_bool I.iU LF e (fun z=>nomatch z) h
 |int i=>obtain⟨t,q⟩:=(show ∃t,u=aal i t from rx);cases q;exact EO PySem.W.kitx_int I.iU LF e (fun z=>nomatch z) h
 |str y=>obtain⟨t,q⟩:=(show ∃t,u=ZM y t from rx);cases q;exact EO PySem.W.kitx_str I.iU LF e (fun z=>nomatch z) h
 |AW y=>obtain⟨t,q⟩:=(show ∃t,u=al.float y t from rx);cases q;exact EO PySem.W.kitx_float I.iU LF e (fun z=>nomatch z) h
 | @lst a xs ea=>
  cases (show u=l6 a from rx);obtain⟨_,_,n,_,h1⟩:=(show ObjOk X.prog X.w H s.heap a (.lst xs) from I.hok a _ ea);exact EO PySem.W.kitx_list I.iU ⟨_,h1,rfl⟩ e (fun z=>nomatch z) h
 | @bV a ob xs ea=>
  cases (show u=l6 a from rx);obtain⟨_,_,_,n,_,h1⟩:=(show ObjOk X.prog X.w H s.heap a (.bV ob (.lst xs)) from I.hok a _ ea);exact EO PySem.W.kitx_list I.iU ⟨_,h1,rfl⟩ e (fun z=>nomatch z) h
 | @tup a xs ea=>
  cases (show u=l6 a from rx);obtain⟨_,_,_,p⟩:=(show ObjOk X.prog X.w H s.heap a (.tup xs) from I.hok a _ ea);obtain⟨o,h1,h2,_⟩:=p;exact EO PySem.W.kitx_tuple I.iU ⟨o,h1,h2⟩ e (fun z=>nomatch z) h
 | @dK a aq ea=>
  cases (show u=l6 a from rx);obtain⟨_,_,vs,_,p⟩:=(show ObjOk X.prog X.w H s.heap a (.dK aq) from I.hok a _ ea);obtain⟨o,es,ep,h1,h2,_⟩:=p;exact EO PySem.W.kitx_dict I.iU ⟨o,h1,h2.1⟩ e (fun z=>nomatch z) h
 | @dT a aq ea=>
  cases (show u=l6 a from rx);obtain⟨_,_,xs,_,o,es,ep,h1,h2,_⟩:=(show ObjOk X.prog X.w H s.heap a (.dT aq) from I.hok a _ ea);exact EO PySem.W.kitx_dict I.iU ⟨o,h1,h2.1⟩ e (fun z=>nomatch z) h
 | @ins a C dx fs ea cl ha hn TU hm=>
  cases (show u=l6 a from rx);obtain⟨mA,O,_⟩:=Le I.hok ea;obtain⟨od,J,_⟩:=O.look;exact EO (PySem.W.kitx_own (cl.get _) cl.hd ha hn TU hm) I.iU J e (fun z=>nomatch z) h
end
structure ck (k:Nat) (A:l5):Prop where
 hd:A.handled=none
 dp:A.depth+3 * k+5<recursionLimit
 un:A.units+16 * k+200<cLine
theorem ck.mono {j k:Nat}{A:l5}(r:ck k A) (h:j<=k):ck j A:=⟨r.hd,by have:=r.dp;omega,by have:=r.un;omega⟩
theorem ck.deeper {k:Nat}{A:l5}(r:ck (k+1) A) (env:IN):ck k (A.deeper env):=
 ⟨r.hd,by have:=r.dp;show A.depth+1+3 * k+5<_;omega,by have:=r.un;show A.units+3+16 * k+200<_;omega⟩
theorem ck.depth {k:Nat}{A:l5}(r:ck k A):A.depth<recursionLimit :=by have:=r.dp;omega
theorem ck.units {k:Nat}{A:l5}(r:ck k A):A.units+64<cLine :=by have:=r.un;omega
def Vs:TA:=fun _ H Q=>Q [] H
def Sj (ta:TE) (tr:TA):TA:=fun σ H Q=>ta σ H fun x H1=>tr σ H1 fun xs H2=>Q (x::xs) H2
section
variable {X:Cx}{e:c8}{es:List c8}{te:TE}{t:TA}{pos:u7}
theorem N1:PA X [] Vs:=⟨fun _ _ _ _ H Q I h=>Pc ⟨[],H,I,.nil,h⟩⟩
theorem qz (ha:PE X e te) (hr:PA X es t) (hs:starEach (e::es) X.env=(false,eval e X.env)::starEach es X.env :=by rfl):PA X (e::es) (Sj te t) :=by
 refine⟨?_⟩;intro pos pins s σ H Q I h;rw[hs];show wpAny _ _ (spliced ((false,eval e X.env)::backTo pos (starEach es X.env))) _ _ s;refine LH (thn (ha pins s σ H _ I h) fun u s1 ⟨x,H1,I1,r1,q1⟩=>?_)
 exact thn (hr pos pins s1 σ H1 _ I1 q1) fun us s2 ⟨xs,H2,I2,r2,q2⟩=>⟨x::xs,H2,I2,.cons r1 r2,q2⟩
def Vt (t:TA):TE:=fun σ H Q=>t σ H fun xs H1=>xs.length<=sizeLine/\∀p,H1 p=none->Q (.ref p) (upd H1 p (.tup xs))
def Vu (t:TA):TE:=fun σ H Q=>t σ H fun xs H1=>xs.length<=sizeLine/\∀p,H1 p=none->Q (.ref p) (upd H1 p (.lst xs))
theorem N3 {x1}(h:PA X es t):PE X (.Tuple es x1 pos) (Vt t) :=by
 refine⟨?_⟩;intro pins s σ H Q I hq;refine wpAny_Tuple_spliced (thn (h pos pins s σ H _ I hq) fun us s1 ⟨xs,H1,I1,r,z,q⟩=>⟨by rw[<- r.length];exact z,?_⟩)
 have hf:H1 s1.heap.objs.size=none:=I1.hok.fresh (cb _);refine⟨.ref s1.heap.objs.size,upd H1 s1.heap.objs.size (.tup xs),I1.laid (t':=s1.toks) (fun b u e=>br _ e) (cb _) ?_,rfl,q _ hf⟩
 exact⟨z,us,r,⟨_,db _ rfl,rfl,_,rfl,rfl⟩⟩
theorem Ek (h:PA X es t):PE X (.List es pos) (Vu t) :=by
 refine⟨?_⟩;intro pins s σ H Q I hq;refine wpAny_List_spliced (thn (h pos pins s σ H _ I hq) fun us s1 ⟨xs,H1,I1,r,z,q⟩=>⟨by rw[<- r.length];exact z,?_⟩)
 have hf:H1 s1.heap.objs.size=none:=I1.hok.fresh (cb _);refine⟨.ref s1.heap.objs.size,upd H1 s1.heap.objs.size (.lst xs),I1.laid (t':=s1.toks) (fun b u e=>br _ e) (cb _) ?_,rfl,q _ hf⟩
 exact⟨z,us,0,r,db _ rfl⟩
end
abbrev Sp:=List V->Hp->VK->XK->Prop
abbrev iI:=List IN->Hp->ar->XK->al->ar->Prop
structure uy (P:ff) (w:im) (K:ba) (mg:bi->Option al) (base:hX) (A:l5) (outer:List IN) (s:ar) (H:Hp):Prop where
 frames:A.frames=some outer
 mod:Mod K mg base
 bs:∀b o,base.get? b=some o->s.heap.get? b=some o/\H b=none
 bsz:base.objs.size<=s.heap.objs.size
 funs:s.heap.FunFrames base outer
 frf:∀b∈fm outer,H b=none
 hok:c7 P w H s.heap
 bare:abc s.gens
def CE (outer:List IN) (P:ff) (w:im) (H:Hp) (s:ar) (Q:VK) (u:al) (s':ar):Prop:=
 ∃v H',s'.os=s.os/\Gn s.gens.size s'.gens/\Un (fm outer) [] H H' s.heap s'.heap/\c7 P w H' s'.heap/\RelV v u/\Q v H'
def CR (CX:iI) (outer:List IN) (P:ff) (w:im) (H:Hp) (s:ar) (Q:VK) (E:XK) (r:aaS) (s':ar):Prop:=
 match r with
 | .ok (.ret u)=>CE outer P w H s Q u s'
 | .ok _=>False
 | .error e=>CX outer H s E e s'
structure FnOk (P:ff) (w:im) (K:ba) (mg:bi->Option al) (base:hX) (CX:iI) (k:Nat) (f:ag) (fd:ln) (ps:List bi) (sp:Sp):Prop where
 len:∀vs H Q E,sp vs H Q E->vs.length=ps.length
 run:∀(A:l5) (outer:List IN) (s:ar) (H:Hp) (args:Args) (us:List al) (vs:List V) (Q:VK) (E:XK),ck k A->uy P w K mg base A outer s H->aaP s fd args (ps.zip us)->Vals vs us->sp vs H Q E->
  codeAny (model P w) A (.call (.ref f) args) (CR CX outer P w H s Q E) s
theorem FnOk.mono {P:ff}{w:im}{K:ba}{mg:bi->Option al}{base:hX}{CX:iI}{j k:Nat}{f:ag}{fd:ln}{ps:List bi}{sp:Sp}(F:FnOk P w K mg base CX j f fd ps sp) (h:j<=k) :
  FnOk P w K mg base CX k f fd ps sp:=⟨F.len,fun A outer s H args us vs Q E hr=>F.run A outer s H args us vs Q E (hr.mono h)⟩
theorem FnOk.imp {P:ff}{w:im}{K:ba}{mg:bi->Option al}{base:hX}{CX:iI}{k:Nat}{f:ag}{fd:ln}{ps:List bi}{sp TV:Sp}(F:FnOk P w K mg base CX k f fd ps sp)
  (h:∀vs H Q E,TV vs H Q E->sp vs H Q E):FnOk P w K mg base CX k f fd ps TV:=
 ⟨fun vs H Q E q=>F.len vs H Q E (h _ _ _ _ q),fun A outer s H args us vs Q E hr he hb hv hs=>F.run A outer s H args us vs Q E hr he hb hv (h _ _ _ _ hs)⟩
section
variable {X:Cx}{pins:List (ag×kw)}{σ:St}{H:Hp}{s s':ar}
theorem Inv.Vv (I:Inv X pins σ H s):uy X.prog X.w X.K X.mg X.base X.A X.stack s H:=
 ⟨I.ok.frames,I.ok.mod,I.bs,qr I.ok.bsz I.sz,I.stack,I.m9,I.hok,I.bare.1⟩
theorem Inv.after {Q:VK}{u:al}(I:Inv X pins σ H s) (h:CE X.stack X.prog X.w H s Q u s'):EP X pins σ Q u s':=by
 obtain⟨v,H',os,bare,un,hok,r,q⟩:=h;obtain⟨hh,g,d,t,JQ⟩:=s';obtain rfl:JQ=s.os:=os;exact⟨v,H',I.call (h':=hh) (g':=g) (d':=d) (t':=t) (ch:=[]) un hok bare (fun b z=>absurd z (by simp)),r,q⟩
end
def JR (sp:Sp) (gZ:List V) (E:XK) (t:TA):TE:=fun σ H Q=>t σ H fun vs H1=>sp (vs++gZ) H1 Q E
def Binds (K:ba) (fd:ln) (ps:List bi) (ds:List al):Prop:=
 ∀(s:ar) (us:List al),K.In s.heap->(us++ds).length=ps.length->aaP s fd ⟨us,[]⟩ (ps.zip (us++ds))
theorem Binds.all {K:ba}{fd:ln}{ps:List bi}(h:∀us:List al,us.length=ps.length->bindArgs fd ⟨us,[]⟩=pure (ps.zip us)):Binds K fd ps []:=fun s us _ hl=>by
 rw[EQ]at hl ⊢;exact .of_eq (h us hl)
def Passes (CX:iI) (X:Cx) (E:XK):Prop:=∀(pins:List (ag×kw)) (σ:St) (H:Hp) (s:ar) (e:al) (s':ar),Inv X pins σ H s->CX X.stack H s E e s'->X.xe e s'
section
variable {X:Cx}{CX:iI}{k:Nat}{f C:ag}{fd:ln}{ps:List bi}{sp:Sp}{gZ:List V}{ds:List al}{E:XK}{x m:bi}{p pos apos:u7}{e o:c8}{es:List c8}{ta:TE}{t:TA}
theorem El {pins:List (ag×kw)}{σ:St}{H:Hp}{s:ar}{Q:VK}{us:List al}{vs:List V}(F:FnOk X.prog X.w X.K X.mg X.base CX k f fd ps sp) (hr:ck k X.A) (hb:Binds X.K fd ps ds) (hd:Vals gZ ds) (hx:Passes CX X E)
  (I:Inv X pins σ H s) (r:Vals vs us) (h:sp (vs++gZ) H Q E):wpAny (model X.prog X.w) X.A (call (.ref f) us) (EP X pins σ Q) X.xe s :=by
 have r2:Vals (vs++gZ) (us++ds):=r.append hd;have hl:(us++ds).length=ps.length :=by rw[<- r2.length];exact F.len _ _ _ _ h
 refine wpAny_call (Zl (F.run X.A X.stack s H ⟨us,[]⟩ (us++ds) (vs++gZ) Q E hr I.Vv (hb s us I.iU hl) r2 h) fun r s' hq=>?_)
 cases r with
 |error e=>exact hx pins σ H s e s' I hq
 |ok fl=>
  cases fl with
  |ret u=>exact I.after hq
  |next=>exact Go hq
  |brk=>exact Go hq
  |cont=>exact Go hq
theorem Lf (F:FnOk X.prog X.w X.K X.mg X.base CX k f fd ps sp) (hr:ck k X.A) (hg:Gl X x) (hm:X.mg x=some (.ref f)) (hk:Do X.K (.ref f)=true) (hb:Binds X.K fd ps ds) (hd:Vals gZ ds) (hx:Passes CX X E)
  (ha:PA X (e::es) t) (gd:(x==("__debug__" : bi))=false :=by decide) (he:starEach (e::es) X.env=(false,eval e X.env)::starEach es X.env :=by rfl) (cL:(backTo pos (starEach es X.env)).any (·.1)=false :=by rfl) :
  PE X (.Call (.Name x p) (e::es) [] pos) (JR sp gZ E t) :=by
 refine⟨?_⟩;intro pins s σ H Q I h;refine ET (qy I hg hm ?_ gd);refine PySem.W.callWith_K (h₀:=X.base) I.ok.mod.kin hk (thn (ha pos pins s σ H _ I h) fun us s1 ⟨vs,H1,I1,r,q⟩=>⟨I1.iU,?_⟩) he cL
 exact El F hr hb hd hx I1 r q
end
structure aS (N P:List bi) (sc:sB):Prop where
 kind:sc.kind=.function
 co:sc.isCoroutine=false
 gen:sc.isGenerator=false
 nd:N.Nodup
 pre:N.take P.length=P
 par:∀x∈P,sc.names.lookup x=some .local\/sc.names.lookup x=some .cell
 nofree:∀y∈sc.names,y.2≠.free
theorem vt {kindOf:bi->Option P3}{x:bi}:∀{binds:List (bi×al)}{m:bi->Option al},(∀v,(x,v) ∉ binds)->bindL kindOf binds m x=m x
 | [],_,_=>rfl
 |(n,v)::r,m,h=>by
          unfold bindL;rw[vt fun w hw=>h w (en _ hw)]
          split
          ·have:x≠n :=by rintro rfl;exact h v i8
           simp[this]
          ·rfl
theorem vw {kindOf:bi->Option P3}{x:bi}:∀{binds:List (bi×al)}{m:bi->Option al},(∀v,(x,v) ∉ binds)->bindC kindOf binds m x=m x
 | [],_,_=>rfl
 |(n,v)::r,m,h=>by
          unfold bindC;rw[vw fun w hw=>h w (en _ hw)]
          split
          ·rfl
          ·have:x≠n :=by rintro rfl;exact h v i8
           simp[this]
theorem vy {kindOf:bi->Option P3}{x:bi}{v:al}:∀{P:List bi}{vs:List al}{i:Nat}{m:bi->Option al},P.Nodup->P[i]?=some x->vs[i]?=some v->kindOf x=some .local->
  bindL kindOf (P.zip vs) m x=some v
 | [],_,_,_,_,h,_,_=>by simp at h
 |_::_,[],_,_,_,_,h,_=>by simp at h
 |p::P,w::vs,0,m,nd,h1,h2,hk=>by
          simp at h1 h2;subst h1;subst h2;show bindL kindOf ((p,w)::P.zip vs) m p=_;unfold bindL;rw[vt fun v hv=>(Os.mp nd).1 (SS hv).1,if_pos hk]
          simp
 |p::P,w::vs,i+1,m,nd,h1,h2,hk=>by
          show bindL kindOf ((p,w)::P.zip vs) m x=_;unfold bindL;exact vy (i:=i) (Os.mp nd).2 (by simpa using h1) (by simpa using h2) hk
theorem vz {kindOf:bi->Option P3}{x:bi}{v:al}:∀{P:List bi}{vs:List al}{i:Nat}{m:bi->Option al},P.Nodup->P[i]?=some x->vs[i]?=some v->kindOf x≠some .local->
  bindC kindOf (P.zip vs) m x=some v
 | [],_,_,_,_,h,_,_=>by simp at h
 |_::_,[],_,_,_,_,h,_=>by simp at h
 |p::P,w::vs,0,m,nd,h1,h2,hk=>by
          simp at h1 h2;subst h1;subst h2;show bindC kindOf ((p,w)::P.zip vs) m p=_;unfold bindC;rw[vw fun v hv=>(Os.mp nd).1 (SS hv).1,if_neg hk]
          simp
 |p::P,w::vs,i+1,m,nd,h1,h2,hk=>by
          show bindC kindOf ((p,w)::P.zip vs) m x=_;unfold bindC;exact vz (i:=i) (Os.mp nd).2 (by simpa using h1) (by simpa using h2) hk
def start (N:List bi) (vs:List V):St:=vs.map some++DD (N.length - vs.length) none
def gU (CX:iI) (P:ff) (w:im) (K:ba) (mg:bi->Option al) (base:hX) (N:List bi) (qual:bi) (scope:sB) (f:ag) (cd:al) (A:l5) (outer:List IN) (s:ar) (H:Hp) (E:XK):Cx where
 prog:=P
 w:=w
 K:=K
 mg:=mg
 base:=base
 A:=A.deeper (envOfC qual scope s.heap.objs.size f cd)
 N:=N
 s₀:=s
 H₀:=H
 env:=envOfC qual scope s.heap.objs.size f cd
 outer:=outer
 stack:=envOfC qual scope s.heap.objs.size f cd::outer
 ex:=[]
 calm:=true
 fn:=fun _=>true
 pn:=[]
 xe:=fun e s'=>wpAny (model P w) (A.deeper (envOfC qual scope s.heap.objs.size f cd)) (leaving (envOfC qual scope s.heap.objs.size f cd) e) (fun _ cU=>CX outer H s E e cU) (fun e' cU=>CX outer H s E e' cU) s'
theorem xA {sc:sB}{n:Nat}{x:bi}(h:sc.names.lookup x=some .cell):∃c,(cellsFrom n sc.names []).lookup x=some c :=by
 have q:=PySem.W.cellsFrom_some sc.names n [] (.inl h);exact Option.isSome_iff_exists.mp q
theorem Em {CX:iI}{P:ff}{w:im}{K:ba}{mg:bi->Option al}{base:hX}{N ps:List bi}{qual:bi}{scope:sB}{f:ag}{cd:al}{A:l5}{outer:List IN}{s s1:ar}{H:Hp}{E:XK}{us:List al}{vs:List V}
  (S:aS N ps scope) (hd:A.handled=none) (e0:uy P w K mg base A outer s H) (hl:vs.length=ps.length) (r:Vals vs us)
  (x:InCallC s s.heap.objs.size (bindL (envOfC qual scope s.heap.objs.size f cd).kindOf (ps.zip us) fun _=>none) (cellsFrom (s.heap.objs.size+1) scope.names []) (bindC (envOfC qual scope s.heap.objs.size f cd).kindOf (ps.zip us) fun _=>none) s1) :
  Inv (gU CX P w K mg base N qual scope f cd A outer s H E) [] (start N vs) H s1 :=by
 have cL:ps.length<=N.length :=by have:=congrArg List.length S.pre;rw[ZF]at this;omega
 obtain⟨h1,tk,rfl,hk⟩:=x.done;have N4:∀b:ag,b ∉ (gU CX P w K mg base N qual scope f cd A outer s H E).ex:=fun b z=>absurd (show b∈([]:List ag) from z) (by simp)
 refine⟨⟨e0.mod,S.kind,rfl,rfl,cb _,fun y z c h1 h2=>?_,fun y hy=>?_,fun y c _ h=>?_,fun _=>hd,l5.frames_deeper e0.frames,.inr ⟨rfl,rfl⟩,fun b z=>absurd z (N4 b),e0.bs,e0.bsz,fun b _ _=>N4 b,fun b z=>absurd z (N4 b),e0.funs,e0.frf⟩,
  rfl,⟨e0.bare,cb _⟩,Un.kept hk,⟨_,x.toInCall.ns,fun i y v h1 h2 h3=>?_⟩,fun y c h=>⟨_,x.cell y c h⟩,e0.hok.fresh (cb _),fun y c h=>?_,fun p hp=>absurd (show p∈([]:List (ag×kw)) from hp) (by simp),e0.hok.kept hk,?_⟩
 ·exact name_of_addr x.apart (tw h1) (tw h2)
 ·have hy:scope.names.lookup y=some .cell\/scope.names.lookup y=some .free:=hy;rcases hy with hy|hy
  ·exact xA hy
  ·exact absurd rfl (S.nofree _ (tw hy))
 ·exact Ll (x.above y c (tw h))
 ·have hi:i<vs.length :=by
   unfold start at h2;by_cases hi:i<vs.length
   ·exact hi
   ·rw[AE (by simpa using hi)]at h2
    rw[Na]at h2;split at h2<;>cases h2
  have ha:vs[i]?=some v :=by
   unfold start at h2;rw[ww (by simpa using hi),ce]at h2
   cases e:vs[i]? with
   |none=>rw[e]at h2;cases h2
   |some a=>rw[e]at h2;cases h2;rfl
  obtain⟨u,hu,rv⟩:=r.get ha;have hp:ps[i]?=some y :=by
   rw[<- S.pre,List.getElem?_take_of_lt (by omega)];exact h1
  have TX:ps.Nodup :=by rw[<- S.pre];exact S.nd.sublist (List.take_sublist _ _)
  refine⟨u,rv,?_⟩;rcases S.par y (cr hp) with k|k
  ·exact .inl ⟨k,vy TX hp hu k⟩
  ·obtain⟨c,e⟩:=xA (n:=s.heap.objs.size+1) k;refine .inr ⟨.inl k,c,e,?_⟩;have q:=x.cell y c e;rw[vz TX hp hu (by show scope.names.lookup y≠_;rw[k];decide)]at q
   exact q
 ·exact e0.hok.fresh (Ll (x.above y c (tw h)))
 ·unfold start;show _=N.length;rw[l8,bv,VT];omega
theorem Cg {CX:iI}{P:ff}{w:im}{K:ba}{mg:bi->Option al}{base:hX}{k:Nat}{f:ag}{name qual:bi}{params:NG}{body:List sw}{scope:sB}{dV kV doc pm dn ct oc:al}{an od:Option ag}
  {mB:Array (Option al)} {N ps:List bi} {sp:Sp} (lk:K.lookup f=some ⟨oc,od,.func (AM name qual params body scope dV kV doc pm an dn ct),mB⟩) (eU:LM K dn qual=true) (S:aS N ps scope)
  (len:∀vs H Q E,sp vs H Q E->vs.length=ps.length)
  (nL:∀(A:l5) (outer:List IN) (s:ar) (H:Hp) (vs:List V) (Q:VK) (E:XK),ck k (A.deeper (envOfC qual scope s.heap.objs.size f dn))->sp vs H Q E->
   ∃t,iG (gU CX P w K mg base N qual scope f dn A outer s H E) body t/\t {nx:=fun _ H'=>Q .ax H',rt:=Q} (start N vs) H) :
  FnOk P w K mg base CX (k+1) f (AM name qual params body scope dV kV doc pm an dn ct) ps sp :=by
 refine⟨len,fun A outer s H args us vs Q E hr e0 hb r mC=>?_⟩
 have hl:=len _ _ _ _ mC;have KX:K.In s.heap:=e0.mod.kin.keeps fun b o e=>(e0.bs b o e).1
 have lim:s.heap.NoLimit:=e0.mod.nolimit.keeps fun b o e=>(e0.bs b o e).1
 have qA:∀y∈ps.zip us,scope.names.lookup y.1=some .local\/(scope.names.lookup y.1=some .cell/\((cellsFrom (s.heap.objs.size+1) scope.names []).lookup y.1).isSome=true):=fun⟨n,v⟩ hy=>by
  rcases S.par n (SS hy).1 with q|q
  ·exact .inl q
  ·exact .inr ⟨q,PySem.W.cellsFrom_some _ _ _ (.inl q)⟩
 refine codeAny_call_function hr.depth (KX _ _ lk) rfl S.co S.gen rfl (PySem.W.codeRec_of KX eU) (hb _ _ _ _ ?_);refine wpAny_newFunctionEnv_cells S.kind qA fun env he s1 x=>?_
 subst he;refine⟨lim.keeps x.toInCall.keep,codeAny_func ?_⟩;obtain⟨t,ht,hq⟩:=nL A outer s H vs Q E (hr.deeper _) mC;have I:Inv (gU CX P w K mg base N qual scope f dn A outer s H E) [] (start N vs) H s1:=Em S hr.hd e0 hl r x;refine lp (ht [] s1 (start N vs) H _ I hq) (fun fl s' hs=>?_) fun e s' hs=>hs
 have fin:∀{aQ:St} {H':Hp} {v:V} {u:al},Inv (gU CX P w K mg base N qual scope f dn A outer s H E) [] aQ H' s'->RelV v u->Q v H'->CE outer P w H s Q u s':=
  fun {aQ H' v u} J rv q=>⟨v,H',J.os,J.bare,J.base,J.hok,rv,q⟩
 cases fl with
 |ret u=>
  obtain⟨v,aQ,H',J,rv,q⟩:=hs;exact fin J rv q
 |next=>
  obtain⟨aQ,H',J,q⟩:=hs;exact fin (v:=V.ax) (u:=wS) J rfl q
 |brk=>
  obtain⟨_,_,_,q⟩:=hs;exact Go q
 |cont=>
  obtain⟨_,_,_,q⟩:=hs;exact Go q
section
variable {X:Cx}{x:bi}{p pos:u7}{e:c8}{es:List c8}{t:TA}{id T:String}{r:List V->Hp->VK->Prop}
def N5 (r:List V->Hp->VK->Prop) (t:TA):TE:=fun σ H Q=>t σ H fun vs H1=>r vs H1 Q
theorem HE (hc:cK X (.builtin id) r) (hg:Gl X x) (hm:X.mg x=none) (hv:bootBuiltins x=some (.builtin id)) (ha:PA X (e::es) t) (hn:x ≠ "__name__" := by decide) (gd:(x==("__debug__" : bi))=false :=by decide)
  (he:starEach (e::es) X.env=(false,eval e X.env)::starEach es X.env :=by rfl) (cL:(backTo pos (starEach es X.env)).any (·.1)=false :=by rfl):PE X (.Call (.Name x p) (e::es) [] pos) (N5 r t) :=by
 refine⟨?_⟩;intro pins s σ H Q I h;refine ET (gY I hg hm hv ?_ hn gd);exact PyProof.Rows.callWith_builtin1 (thn (ha pos pins s σ H _ I h) fun us s1 ⟨vs,H1,I1,r1,q1⟩=>hc pins s1 σ H1 vs us Q I1 r1 q1) he cL
theorem En (hc:cK X (.type T) r) (hg:Gl X x) (hm:X.mg x=none) (hv:bootBuiltins x=some (.type T)) (ha:PA X (e::es) t) (hn:x ≠ "__name__" := by decide) (gd:(x==("__debug__" : bi))=false :=by decide)
  (he:starEach (e::es) X.env=(false,eval e X.env)::starEach es X.env :=by rfl) (cL:(backTo pos (starEach es X.env)).any (·.1)=false :=by rfl):PE X (.Call (.Name x p) (e::es) [] pos) (N5 r t) :=by
 refine⟨?_⟩;intro pins s σ H Q I h;refine ET (gY I hg hm hv ?_ hn gd);exact Cf (thn (ha pos pins s σ H _ I h) fun us s1 ⟨vs,H1,I1,r1,q1⟩=>hc pins s1 σ H1 vs us Q I1 r1 q1) he cL
end
end L2
namespace HT
open PySem PyProof.Rows
def lexLt:List Int->List Int->Bool
 | [],[]=>false
 | [],_::_=>true
 |_::_,[]=>false
 |x::xs,y::ys=>if x=y then lexLt xs ys else decide (x<y)
theorem kn (x y:Int) (xs ys:List Int):lexLt (x::xs) (y::ys)=if x=y then lexLt xs ys else decide (x<y):=rfl
section
variable {prog:ff}{w:im}{A:l5}{E:al->ar->Prop}{s:ar}
def k9 (n d:Nat):Option Int->Nat
 |none=>d
 |some v=>if v<0 then (v+(n:Int)).toNat else min v.toNat n
end
end HT
namespace L2
open PySem PySem.Spec PyProof.Rows
abbrev TO:=St->Hp->(Option Int->Hp->Prop)->Prop
section
variable {X:Cx}{e:c8}{te:TE}{lo hi:Option c8}{tl th:TO}{pos p2:u7}
def WC (X:Cx) (r:V->Option Int->Option Int->Hp->VK->Prop):Prop:=
 ∀(pins:List (ag×kw)) (s:ar) (σ:St) (H:Hp) (x:V) (v vl vu:al) (lo hi:Option Int) (sl:ag) (Q:VK),Inv X pins σ H s->RelV x v->s.heap.IsSliceOf sl vl vu .none->IsPart vl lo->IsPart vu hi->r x lo hi H Q->
  ∃T id,typeLookup (.type T) "__getitem__" = pure (some (.builtin id))/\s.TypeIs v T/\wpAny (model X.prog X.w) X.A (getItem v (.ref sl)) (EP X pins σ Q) X.xe s
def Ci (xs:List V) (lo hi:Option Int):List V:=(xs.drop (HT.k9 xs.length 0 lo)).take (HT.k9 xs.length xs.length hi - HT.k9 xs.length 0 lo)
theorem Af (xs:List V) (lo hi:Option Int):(Ci xs lo hi).length<=xs.length :=by
 unfold Ci;rw[ZF,aaT];omega
end
def jU (n:Nat) (i:Int):Option Nat:=if 0<=i then (if i<n then some i.toNat else none) else if -(n:Int)<=i then some (i+n).toNat else none
def dF {α:Type}(xs:List α) (i:Int):Option α:=(jU xs.length i).bind fun j=>xs[j]?
theorem uz {n:Nat}{i:Int}{j:Nat}(h:jU n i=some j):seqIndex? i n=some j/\j<n /\ -(n:Int)<=i/\i<n :=by
 unfold jU at h;by_cases h0:0<=i
 ·rw[if_pos h0]at h;by_cases h1:i<n
  ·rw[if_pos h1]at h;have e:i.toNat=j:=ij h;exact⟨by rw[seqIndex_of h0 h1,e],by omega,by omega,h1⟩
  ·rw[if_neg h1]at h;cases h
 ·rw[if_neg h0]at h;by_cases h1 : -(n:Int)<=i
  ·rw[if_pos h1]at h;have e:(i+n).toNat=j:=ij h;exact⟨by rw[seqIndex_neg (by omega) h1,e],by omega,h1,by omega⟩
  ·rw[if_neg h1]at h;cases h
theorem uA {α:Type}{xs:List α}{i:Int}{v:α}(h:dF xs i=some v):∃j,seqIndex? i xs.length=some j/\xs[j]?=some v/\j<xs.length /\ -(xs.length:Int)<=i/\i<xs.length :=by
 unfold dF at h;cases e:jU xs.length i with
 |none=>rw[e]at h;cases h
 |some j=>
  rw[e]at h;obtain⟨h1,h2,h3,h4⟩:=uz e;exact⟨j,h1,h,h2,h3,h4⟩
theorem eh {α:Type}{xs:List α}{j:Nat}{v:α}(h:xs[j]?=some v):dF xs (j:Int)=some v :=by
 have hj:j<xs.length:=(ca.mp h).1;have e:jU xs.length (j:Int)=some j :=by
  unfold jU;rw[if_pos (by omega),if_pos (by omega)];simp
 unfold dF;rw[e];exact h
def A7 (b:c8):Prop:=∀o i,subscripted b false o i=operate [o,i] (getItem o i)
def o7 (X:Cx) (r:R2):Prop:=
 ∀(value slice:c8) (pins:List (ag×kw)) (s:ar) (σ:St) (H:Hp) (x y:V) (v u:al) (Q:VK),Inv X pins σ H s->RelV x v->RelV y u->r x y H Q->
  subscripted slice false v u=operate [v,u] (getItem v u)->wpAny (model X.prog X.w) X.A (subscriptTail value slice v u) (EP X pins σ Q) X.xe s
def xB (X:Cx) (id:String) (r:V->List V->Hp->VK->Prop):Prop:=
 ∀(pins:List (ag×kw)) (s:ar) (σ:St) (H:Hp) (x:V) (xs:List V) (v:al) (us:List al) (Q:VK),Inv X pins σ H s->RelV x v->Vals xs us->r x xs H Q->
  wpAny (model X.prog X.w) X.A (call (.builtin id) (v::us)) (EP X pins σ Q) X.xe s
section
variable {X:Cx}{a b:c8}{ta tb:TE}{pos:u7}
theorem o7.or {r r':R2}(h:o7 X r) (h':o7 X r'):o7 X (fun x y H Q=>r x y H Q\/r' x y H Q) :=by
 intro value slice pins s σ H x y v u Q I rx ry q hs;rcases q with q|q
 ·exact h value slice pins s σ H x y v u Q I rx ry q hs
 ·exact h' value slice pins s σ H x y v u Q I rx ry q hs
theorem Sl {r:R2}(hr:o7 X r) (ha:PE X a ta) (hb:PE X b tb) (hs:A7 b):PE X (.Subscript a b pos) (Ee r ta tb) :=by
 refine⟨?_⟩;intro pins s σ H Q I h;exact Subscript_ (Hu ha hb I h fun v u s2 x y H2 I2 rx ry q=>hr a b pins s2 σ H2 x y v u Q I2 rx ry q (hs _ _))
def N6 (K:ba):R2:=fun x y H Q=>∃p xs i v,x=.ref p/\y=.int i/\bL K H p xs/\dF xs i=some v/\Q v H
def N7 (K:ba):R2:=fun x y H Q=>∃p xs i v,x=.ref p/\y=.int i/\c9 K H p xs/\dF xs i=some v/\Q v H
def N8:R2:=fun x y H Q=>∃z i c,x=.str z/\y=.int i/\z.length<=sizeLine/\dF z.cps.toList i=some c/\Q (.str ⟨#[c]⟩) H
theorem Lg:o7 X (N6 X.K) :=by
 intro value slice pins s σ H x y v u Q I rx ry h hs;obtain⟨p,xs,i,z,rfl,rfl,hq,he,q⟩:=h;cases rx;obtain⟨t,rfl⟩:=ry;obtain⟨its,r,pl,hz⟩:=I.list hq;obtain⟨j,h1,h2,h3,h4,h5⟩:=uA he;obtain⟨w,ew,gf⟩:=r.get h2;have hl:=r.length;have hn:=nh;have fin:EP X pins σ Q w s:=⟨z,H,I,gf,q⟩;by_cases h0:0<=i
 ·have hj:i.toNat=j :=by
   rw[seqIndex_of h0 h5]at h1;exact ij h1
  exact item_listR pl.isList h0 (by omega) (by rw[hj];simpa using ew) fin hs
 ·have hj:(i+(its.toArray.size:Int)).toNat=j :=by
   rw[seqIndex_neg (by omega) h4]at h1
   rw[dL,<- hl];exact ij h1
  exact subscriptTail_builtinR (x:=w) pl.isList.typeIs slot_list_getitem.lookup
   (wpAny_getItem_list_neg (Q:=fun r s'=>r=w/\EP X pins σ Q r s') pl.isList (by omega) (by rw[dL]<;>omega) (by omega) (by rw[hj];simpa using ew) ⟨rfl,fin⟩) hs
theorem N9:o7 X (N7 X.K) :=by
 intro value slice pins s σ H x y v u Q I rx ry h hs;obtain⟨p,xs,i,z,rfl,rfl,hq,he,q⟩:=h;cases rx;obtain⟨t,rfl⟩:=ry;obtain⟨its,r,pl,hz⟩:=I.tuple hq;obtain⟨j,h1,h2,h3,h4,h5⟩:=uA he;obtain⟨w,ew,gf⟩:=r.get h2;have hl:=r.length;have hn:=nh;have fin:EP X pins σ Q w s:=⟨z,H,I,gf,q⟩;exact subscriptTail_builtinR (x:=w) pl.typeIs slot_tuple_getitem.lookup
  (getItem_tuple (j:=j) (Q:=fun r s'=>r=w/\EP X pins σ Q r s') pl (by omega) (by omega) (by rw[dL,<- hl];exact h1) (by simpa using ew) ⟨rfl,fin⟩) hs
theorem Oa:o7 X N8 :=by
 intro value slice pins s σ H x y v u Q I rx ry h hs;obtain⟨z,i,c,rfl,rfl,hz,he,q⟩:=h;obtain⟨t,rfl⟩:=rx;obtain⟨t',rfl⟩:=ry;obtain⟨j,h1,h2,h3,h4,h5⟩:=uA he;have hl:z.cps.toList.length=z.length :=by simp[bi.length]
 rw[hl]at h1 h4 h5;have hn:=nh;exact tail_any (typeIs_str s z t) slot_str_getitem.lookup (getItem_str (c:=c) (by
  have e1:decide (i < -(2 ^ 63:Int))=false:=decide_eq_false (by omega)
  have e2:decide (i ≥ 2 ^ 63)=false:=decide_eq_false (by omega)
  rw[e1,e2,Bool.or_false]) (by rw[h1];simpa using h2) ⟨.str ⟨#[c]⟩,H,I.tok _,⟨_,rfl⟩,q⟩) hs
def TY (K:ba):R2:=fun x y H Q=>N6 K x y H Q\/N7 K x y H Q\/N8 x y H Q
theorem Ob:o7 X (TY X.K):=Lg.or (N9.or Oa)
theorem Cj (its:List al) (n j:Nat) (u:al):IR (·.setIfInBounds j u) {cls:=.type "list",data:=.seq its.toArray n}={cls:=.type "list",data:=.seq (its.set j u).toArray n}:=by
 simp[IR]
theorem Inv.lst {pins:List (ag×kw)}{σ:St}{H:Hp}{s:ar}{p:ag}{xs:List V}(I:Inv X pins σ H s) (h:H p=some (.lst xs)) :
  ∃(its:List al) (n:Nat),Vals xs its/\s.heap.get? p=some {cls:=.type "list",data:=.seq its.toArray n}/\xs.length<=sizeLine :=by
 obtain⟨z,its,n,r,e⟩:=I.hok p _ h;exact⟨its,n,r,e,z⟩
theorem Inv.Oc {pins:List (ag×kw)}{σ:St}{H:Hp}{s:ar}{p:ag}{xs ys:List V}{its its':List al}{n n':Nat}{f:kw->kw}(I:Inv X pins σ H s) (h:H p=some (.lst xs))
  (ho:s.heap.get? p=some {cls:=.type "list",data:=.seq its.toArray n}) (hf:f {cls:=.type "list",data:=.seq its.toArray n}={cls:=.type "list",data:=.seq its'.toArray n'}) (r:Vals ys its') (hz:ys.length<=sizeLine) (t:Nat) :
  Inv X pins σ (upd H p (.lst ys)) {s with heap:=s.heap.update p f,toks:=t}:=by
 have e:(s.heap.update p f).get? p=some {cls:=.type "list",data:=.seq its'.toArray n'}:=by
  rw[DO f ho (by rw[hf]<;>rfl),hf]
 refine I.write (x:=p) (e:=p) (by rw[h];trivial) (.inl rfl) (fun b u hb q=>(Cs _ _ (ze hb)).trans q) ⟨_,e⟩ ?_
 exact⟨hz,its',n',r,e⟩
def Sn:V->V->V->Hp->(Hp->Prop)->Prop:=fun o i v H Q=>∃p xs k j,o=.ref p/\i=.int k/\H p=some (.lst xs)/\jU xs.length k=some j/\Q (upd H p (.lst (xs.set j v)))
theorem set_list:Ny X Sn :=by
 intro pins s σ H o i v ov iv u Q I ro ri rv h;obtain⟨p,xs,k,j,rfl,rfl,hp,hj,q⟩:=h;cases ro;obtain⟨t,rfl⟩:=ri;obtain⟨its,n,r,ho,hz⟩:=I.lst hp;obtain⟨h1,h2,h3,h4⟩:=uz hj;have hl:=r.length;have hn:=nh;have I':Inv X pins σ (upd H p (.lst (xs.set j v))) {s with heap:=s.heap.update p (IR (·.setIfInBounds j u))}:=
  I.Oc hp ho (Cj its n j u) (r.set rv j) (by rw[YE];exact hz) s.toks
 by_cases h0:0<=k
 ·have hk:k.toNat=j :=by
   rw[seqIndex_of h0 h4]at h1;exact ij h1
  exact PySem.W.ki_setAt ho h0 (by omega) (by rw[dL,<- hl];exact h4) (by rw[hk];exact⟨_,I',q⟩)
 ·have hk:(k+(its.toArray.size:Int)).toNat=j :=by
   rw[seqIndex_neg (by omega) h3]at h1
   rw[dL,<- hl];exact ij h1
  exact PySem.W.ki_setBack ho (by omega) (by rw[dL,<- hl];exact h3) (by omega) (by rw[hk];exact⟨_,I',q⟩)
theorem xC (lo hi:Option Int) (n:Nat):(sliceBounds lo hi none n).1=((HT.k9 n 0 lo:Nat):Int)/\(sliceBounds lo hi none n).2.1=((HT.k9 n n hi:Nat):Int)/\(sliceBounds lo hi none n).2.2=1 :=by
 refine⟨?_,?_,rfl⟩
 ·cases lo with
  |none=>simp[sliceBounds,HT.k9]
  |some i=>
   simp only[sliceBounds,HT.k9,Option.getD_none,show (1:Int) > 0 by decide,if_true]
   by_cases h:i<0
   ·simp only[h,if_true]<;>omega
   ·simp only[h,if_false]<;>omega
 ·cases hi with
  |none=>simp[sliceBounds,HT.k9]
  |some i=>
   simp only[sliceBounds,HT.k9,Option.getD_none,show (1:Int) > 0 by decide,if_true]
   by_cases h:i<0
   ·simp only[h,if_true]<;>omega
   ·simp only[h,if_false]<;>omega
theorem wG (its:List al) (lo hi:Option Int):slicePick its.toArray lo hi none=((its.drop (HT.k9 its.length 0 lo)).take (HT.k9 its.length its.length hi - HT.k9 its.length 0 lo)).toArray :=by
 obtain⟨h1,h2,h3⟩:=xC lo hi its.toArray.size;unfold slicePick;rw[h1,h2,h3];simp only[sliceRange_one,pick_run,dL]<;>rfl
def Vw (K:ba):V->Option Int->Option Int->Hp->VK->Prop:=fun x lo hi H Q=>∃a xs,x=.ref a/\bL K H a xs/\∀p,H p=none->Q (.ref p) (upd H p (.lst (Ci xs lo hi)))
theorem Wq:WC X (Vw X.K) :=by
 intro pins s σ H x v vl vu lo hi sl Q I rx hs pl pu h;obtain⟨a,xs,rfl,hx,q⟩:=h;cases rx;obtain⟨its,r,ht,hz⟩:=I.list hx;have hlen:=r.length;refine⟨"list",_,slot_list_getitem.lookup,ht.isList.typeIs,?_⟩
 refine wpAny_getItem_list_slice ht.isList hs pl pu .none (by simp) ?_ (by rw[dL]<;>omega)
 rw[wG,<- hlen];refine⟨.ref s.heap.objs.size,_,I.laid (t':=s.toks) (o:=.lst (Ci xs lo hi)) (fun b ob q=>br _ q) (cb _) ?_,rfl,q _ (I.hok.fresh (cb _))⟩
 exact⟨qr (Af xs lo hi) hz,_,0,(r.drop (HT.k9 xs.length 0 lo)).take (HT.k9 xs.length xs.length hi - HT.k9 xs.length 0 lo),db _ rfl⟩
theorem xD:cK X (.type "list") (fun xs H Q=>∃p ys,xs=[.ref p]/\(bL X.K H p ys\/c9 X.K H p ys)/\∀l,H l=none->Q (.ref l) (upd H l (.lst ys))) :=by
 intro pins s σ H xs us Q I r h;obtain⟨p,ys,rfl,hq,q⟩:=h;obtain⟨u,rfl,rx⟩:=vals1 r;cases rx;have fin:∀(its:List al),Vals ys its->ys.length<=sizeLine->∀(h':hX) (c':Nat),(∀b o',s.heap.get? b=some o'->h'.get? b=some o')->
   h'.get? s.heap.objs.size=some {cls:=.type "list",dict:=none,data:=.seq its.toArray c',slots:=#[]}->EP X pins σ Q (.ref s.heap.objs.size) {s with heap:=h'}:=fun its r' hz h' c' kp e=>
  ⟨.ref s.heap.objs.size,_,I.laid (t':=s.toks) kp (cb _) (show ObjOk X.prog X.w _ h' _ (.lst ys) from ⟨hz,its,c',r',e⟩),rfl,q _ (I.hok.fresh (cb _))⟩
 rcases hq with hq|hq
 ·obtain⟨its,r',pl,hz⟩:=I.list hq;have hlen:=r'.length;obtain⟨o,ho,hc,n,hd⟩:=pl.isList;exact call_list_seq p (.inl rfl) ho hc hd (fun h' c' kp e=>fin its r' hz h' c' kp e) (by simp only[dL]<;>omega)
 ·obtain⟨its,r',pl,hz⟩:=I.tuple hq;have hlen:=r'.length;obtain⟨o,ho,hc,n,hd⟩:=pl;exact call_list_seq p (.inr rfl) ho hc hd (fun h' c' kp e=>fin its r' hz h' c' kp e) (by simp only[dL]<;>omega)
theorem wH:cK X (.type "tuple") (fun xs H Q=>∃p ys,xs=[.ref p]/\((bL X.K H p ys/\∀l,H l=none->Q (.ref l) (upd H l (.tup ys)))\/(c9 X.K H p ys/\Q (.ref p) H))) :=by
 intro pins s σ H xs us Q I r h;obtain⟨p,ys,rfl,h⟩:=h;obtain⟨u,rfl,rx⟩:=vals1 r;cases rx;rcases h with ⟨hq,q⟩|⟨hq,q⟩
 ·obtain⟨its,r',pl,hz⟩:=I.list hq;have hlen:=r'.length;refine call_tuple_list pl.isList (fun h' kp=>?_) (by simp only[dL]<;>omega)
  have I1:Inv X pins σ H {s with heap:=h'}:=I.kept (t':=s.toks) kp
  have I2:Inv X pins σ (upd H h'.objs.size (.tup ys)) {s with heap:=h'.push {cls:=.type "tuple",data:=.seq its.toArray}}:=
   I1.laid (t':=s.toks) (fun b o e=>br _ e) (cb _) (show ObjOk X.prog X.w _ _ _ (.tup ys) from ⟨hz,its,r',nJ.new _ _⟩)
  exact⟨.ref h'.objs.size,_,I2,rfl,q _ (I1.hok.fresh (cb _))⟩
 ·obtain⟨its,r',pl,hz⟩:=I.tuple hq;exact call_tuple_same pl ⟨.ref p,H,I,rfl,q⟩
def JS (K:ba) (T:String) (x:V) (H:Hp):Prop:=match x with
 | .str _=>T = "str"
 | .int _=>T = "int"
 | .ref p=>(T = "list" /\ ∃xs,bL K H p xs)\/(T = "tuple" /\ ((∃o,K.lookup p=some o/\o.cls=.type "tuple" /\ o.dict=none)\/∃xs,H p=some (.tup xs))) \/
   (T = "dict" /\ ((∃aq,H p=some (.dK aq))\/∃aq,H p=some (.dT aq)))\/(T = "set" /\ ∃S n,H p=some (.set S n))
 |_=>False
theorem Eo {pins:List (ag×kw)}{σ:St}{H:Hp}{s:ar}{T:String}{x:V}{v:al}(I:Inv X pins σ H s) (r:RelV x v) (ty:JS X.K T x H) :
  s.TypeIs v T/\∀a,v=.ref a->∃ob,s.heap.get? a=some ob/\ob.dict=none :=by
 cases x with
 |str z=>
  obtain⟨t,rfl⟩:=r;cases (show T = "str" from ty)
  exact⟨typeIs_str s z t,fun _ e=>nomatch e⟩
 |int i=>
  obtain⟨t,rfl⟩:=r;cases (show T = "int" from ty)
  exact⟨typeIs_int s i t,fun _ e=>nomatch e⟩
 |ref p=>
  cases r;rcases ty with ⟨rfl,xs,hq⟩|⟨rfl,⟨o,hk,hc,hd⟩|⟨xs,hk⟩⟩|⟨rfl,hk⟩|⟨rfl,S,n,hk⟩
  ·obtain⟨its,_,pl,_⟩:=I.list hq;refine⟨pl.isList.typeIs,fun a e=>?_⟩
   cases e;obtain⟨o,n,e,c,hd,_⟩:=pl;exact⟨o,e,hd⟩
  ·refine⟨⟨o,I.iU p o hk,hc⟩,fun a e=>?_⟩
   cases e;exact⟨o,I.iU _ o hk,hd⟩
  ·obtain⟨_,its,_,o,e,c,n,d,hd⟩:=I.hok p _ hk;refine⟨⟨o,e,c⟩,fun a e2=>?_⟩
   cases e2;exact⟨o,e,hd⟩
  ·have z:∃o,s.heap.get? p=some o/\o.ExactDict :=by
    rcases hk with ⟨aq,hk⟩|⟨aq,hk⟩
    ·obtain⟨_,_,_,_,o,_,_,e,ex,_⟩:=I.hok p _ hk;exact⟨o,e,ex⟩
    ·obtain⟨_,_,_,_,o,_,_,e,ex,_⟩:=I.hok p _ hk;exact⟨o,e,ex⟩
   obtain⟨o,e,ex⟩:=z;refine⟨⟨o,e,ex.1⟩,fun a e2=>?_⟩
   cases e2;exact⟨o,e,ex.2.1⟩
  ·obtain⟨o,_,_,_,e,ex,_⟩:=I.hok p _ hk;refine⟨⟨o,e,ex.1⟩,fun a e2=>?_⟩
   cases e2;exact⟨o,e,ex.2.1⟩
 |_=>exact Go ty
def Od (K:ba) (T:String) (r:V->List V->Hp->VK->Prop) (to:TE):TE:=fun σ H Q=>to σ H fun x H1=>JS K T x H1/\r x [] H1 Q
def TZ (K:ba) (T:String) (r:V->List V->Hp->VK->Prop) (to:TE) (t:TA):TE:=fun σ H Q=>to σ H fun x H1=>JS K T x H1/\t σ H1 fun xs H2=>r x xs H2 Q
variable {o e:c8}{es:List c8}{to:TE}{t:TA}{name:bi}{apos aX:u7}{T id:String}{r:V->List V->Hp->VK->Prop}
theorem Oe (pa:WP T) (slot:abe T name id) (lg:typeOf (.builtin id)=pure (.type "method_descriptor")) (hm:xB X id r) (ho:PE X o to)
  (fx:attributeBase o name X.env (eval o X.env)=eval o X.env :=by rfl) (hline:(apos.endLine==aX.line)=true :=by rfl):PE X (.Call (.Attribute o name apos) [] [] aX) (Od X.K T r to) :=by
 refine⟨?_⟩;intro pins s σ H Q I h;refine wpAny_Call_method0_late fx hline (thn (ho pins s σ H _ I h) fun v s1 ⟨x,H1,I1,r1,ty,q1⟩=>?_)
 obtain⟨h1,h2⟩:=Eo I1 r1 ty;exact⟨T,id,pa,slot,lg,h1,h2,Zz rfl (PySem.evalArgs_none (hm pins s1 σ H1 x [] v [] Q I1 r1 .nil q1))⟩
theorem Sr (pa:WP T) (slot:abe T name id) (lg:typeOf (.builtin id)=pure (.type "method_descriptor")) (hm:xB X id r) (ho:PE X o to) (ha:PA X (e::es) t)
  (fx:attributeBase o name X.env (eval o X.env)=eval o X.env :=by rfl)
  (nM:((backTo aX (starEach (e::es) X.env)).all (fun x => !x.1) && (backToKw aX (keywordEach [] X.env)).all (fun x=>x.1.isSome)
   && decide ((e::es).length+([]:List Po).length+(if ([]:List Po).isEmpty then 0 else 1)<30))=true :=by rfl)
  (hline:(apos.endLine==aX.line)=true :=by rfl) (hs:starEach (e::es) X.env=(false,eval e X.env)::starEach es X.env :=by rfl) (iW:(backTo aX (starEach es X.env)).any (·.1)=false :=by rfl) :
  PE X (.Call (.Attribute o name apos) (e::es) [] aX) (TZ X.K T r to t) :=by
 refine⟨?_⟩;intro pins s σ H Q I h;refine wpAny_Call_method_late fx nM hline rfl (thn (ho pins s σ H _ I h) fun v s1 ⟨x,H1,I1,r1,ty,q1⟩=>?_)
 obtain⟨h1,h2⟩:=Eo I1 r1 ty;refine⟨T,id,pa,slot,lg,h1,h2,?_⟩;have hA:=ha aX pins s1 σ H1 _ I1 q1;rw[hs]at hA ⊢;refine Zz (by show (false || (backTo aX (starEach es X.env)).any (·.1))=false;rw[iW]<;>rfl) (ZS ?_)
 exact thn hA fun us s2 ⟨vs,H2,I2,r2,q2⟩=>hm pins s2 σ H2 x vs v us Q I2 r1 r2 q2
end
def Ep (X:Cx) (id:String) (r:V->List V->Hp->VK->Prop):Prop:=
 ∀(pins:List (ag×kw)) (s:ar) (σ:St) (H:Hp) (x:V) (xs:List V) (v:al) (us:List al) (Q:VK),Inv X pins σ H s->RelV x v->Vals xs us->r x xs H Q->
  wpAny (model X.prog X.w) X.A (call (.builtin id) (v::us)) (EP X pins σ Q) X.xe s
theorem Vals.one:∀{x:V}{us:List al},Vals [x] us->∃u,us=[u]/\RelV x u
 |_,_,.cons r .nil=>⟨_,rfl,r⟩
theorem Vals.zero:∀{us:List al},Vals [] us->us=[]
 |_,.nil=>rfl
theorem Vals.dropLast {xs:List V}{us:List al}(h:Vals xs us):Vals xs.dropLast us.dropLast :=by
 induction h with
 |nil=>exact .nil
 |cons r t ih=>
  cases t with
  |nil=>exact .nil
  |cons q t'=>exact .cons r ih
theorem Vals.eraseIdx:∀{xs:List V}{us:List al}(i:Nat),Vals xs us->Vals (xs.eraseIdx i) (us.eraseIdx i)
 |_,_,_,.nil=>.nil
 |_,_,0,.cons _ t=>t
 |_,_,i+1,.cons r t=>.cons r (Vals.eraseIdx i t)
theorem Ck {α:Type}(l:List α):l.eraseIdx (l.length - 1)=l.dropLast :=by
 induction l with
 |nil=>rfl
 |cons a r ih=>
  cases r with
  |nil=>rfl
  |cons b r=>
   have e:(a::b::r).length - 1=((b::r).length - 1)+1 :=by
    have h1:(a::b::r).length=r.length+2:=rfl;have h2:(b::r).length=r.length+1:=rfl;omega
   rw[e,List.eraseIdx_cons_succ,ih]
   all_goals rfl
theorem vA {α:Type}:∀(l:List α) (i:Nat),(l.eraseIdx i).length<=l.length
 | [],_=>cb _
 |_::_,0=>ES _
 |_::r,i+1=>Nat.succ_le_succ (vA r i)
section
variable {X:Cx}{pins:List (ag×kw)}{σ:St}{H:Hp}{s:ar}{l b:ag}{xs ys zs:List V}
theorem Inv.xE {its its':List al}{n:Nat}{f:Array al->Array al}{t':Nat}(I:Inv X pins σ H s) (hH:H l=some (.lst xs))
  (e:s.heap.get? l=some {cls:=.type "list",data:=.seq its.toArray n}) (hf:f its.toArray=its'.toArray) (hv:Vals ys its') (hz:ys.length<=sizeLine) :
  Inv X pins σ (upd H l (.lst ys)) {s with heap:=s.heap.update l (IR f),toks:=t'}:=by
 have q:=PySem.IsL.update e f;rw[hf]at q;refine I.write (x:=l) (e:=l) (by rw[hH];exact trivial) (.inl rfl) (fun b' u hb hu=>(Cs s.heap (IR f) (ze hb)).trans hu) ⟨_,q⟩ ?_
 exact⟨hz,its',_,hv,q⟩
theorem Inv.Vx {its:List al}{t':Nat}(I:Inv X pins σ H s) (hv:Vals ys its) (hz:ys.length<=sizeLine) :
  Inv X pins σ (upd H s.heap.objs.size (.lst ys)) {s with heap:=s.heap.push {cls:=.type "list",data:=.seq its.toArray},toks:=t'}:=
 I.laid (fun _ _ q=>br _ q) (cb _) ⟨hz,its,0,hv,db _ rfl⟩
theorem Inv.fresh (I:Inv X pins σ H s):H s.heap.objs.size=none:=I.hok.fresh (cb _)
theorem Inv.o8 (I:Inv X pins σ H s) (hH:H l=some (.lst xs)):xs.length<=sizeLine/\∃(its:List al) (n:Nat),Vals xs its/\xs.length=its.length/\s.heap.get? l=some {cls:=.type "list",data:=.seq its.toArray n}:=by
 obtain⟨z,its,n,r,e⟩:=I.hok l _ hH;exact⟨z,its,n,r,r.length,e⟩
theorem HF {n:Nat}(h:n<=sizeLine):Zm n=false :=by
 unfold Zm;exact decide_eq_false (by omega)
end
section
variable {X:Cx}
def Lh:V->List V->Hp->VK->Prop:=fun x vs H Q=>∃l xs y,x=.ref l/\vs=[y]/\H l=some (.lst xs)/\xs.length<sizeLine/\Q .ax (upd H l (.lst (xs++[y])))
theorem vB:Ep X "list.append" Lh :=by
 intro pins s σ H x vs v us Q I rx rv h;obtain⟨l,xs,y,rfl,rfl,hH,hz,q⟩:=h;cases rx;obtain⟨u,rfl,ru⟩:=rv.one;obtain⟨z,its,n,r,hl,e⟩:=I.o8 hH;refine aaN F.slot_list_append ⟨_,e,rfl⟩ F.entry_list_append (F.args_list_append_2 _ _) (PySem.list_append l its.toArray n u (by rw[dL];omega)) ⟨e,?_⟩
 refine⟨.ax,_,I.xE (its':=its++[u]) hH e (by simp) (r.append (.cons ru .nil)) ?_,rfl,q⟩
 rw[l8,GT];omega
def Li:V->List V->Hp->VK->Prop:=fun x vs H Q=>∃l b xs zs,x=.ref l/\vs=[.ref b]/\H l=some (.lst xs)/\H b=some (.lst zs)/\xs.length+zs.length<=sizeLine/\Q .ax (upd H l (.lst (xs++zs)))
theorem Er:Ep X "list.extend" Li :=by
 intro pins s σ H x vs v us Q I rx rv h;obtain⟨l,b,xs,zs,rfl,rfl,hH,hB,hz,q⟩:=h;cases rx;obtain⟨u,rfl,ru⟩:=rv.one;cases ru;obtain⟨z,its,n,r,hl,e⟩:=I.o8 hH;obtain⟨z2,dN,n2,r2,mD,e2⟩:=I.o8 hB;have hsz:its.toArray.size+dN.toArray.size<=sizeLine :=by rw[dL,dL];omega
 have Ss:¬ (!its.toArray.isEmpty && Zm (its.toArray.size+dN.toArray.size))=true :=by
  rw[HF hsz,Bool.and_false];exact i0
 refine aaN F.slot_list_extend ⟨_,e,rfl⟩ F.entry_list_extend (F.args_list_extend_2 _ _)
  (AutoSeq1.list_extend_list_list_0 l its.toArray n b dN.toArray n2 Ss (by rw[dL];omega) (by omega)) ⟨e,e2,?_⟩
 refine⟨.ax,_,I.xE (its':=its++dN) hH e (by simp) (r.append r2) ?_,rfl,q⟩
 rw[l8];omega
def Vy:V->List V->Hp->VK->Prop:=fun x vs H Q=>∃l xs y,x=.ref l/\vs=[]/\H l=some (.lst xs)/\xs[xs.length - 1]?=some y/\Q y (upd H l (.lst xs.dropLast))
theorem Of:Ep X "list.pop" Vy :=by
 intro pins s σ H x vs v us Q I rx rv h;obtain⟨l,xs,y,rfl,rfl,hH,hy,q⟩:=h;cases rx;have Og:=rv.zero;subst Og;obtain⟨z,its,n,r,hl,e⟩:=I.o8 hH;obtain⟨u,hu,ru⟩:=r.get hy;have Oh:its.toArray[its.toArray.size - 1]?=some u :=by
  show its.toArray[its.length - 1]?=some u;rw[<- OE,<- hl];exact hu
 refine aaN F.slot_list_pop ⟨_,e,rfl⟩ F.entry_list_pop (F.args_list_pop_1 _) (MeetsSeq.list_pop_last l its.toArray n u Oh (by rw[dL];omega)) ⟨e,?_⟩
 refine⟨y,_,I.xE (its':=its.dropLast) hH e ?_ r.dropLast ?_,ru,q⟩
 ·show its.toArray.eraseIdxIfInBounds (its.toArray.size - 1)=its.dropLast.toArray;rw[dL,List.eraseIdxIfInBounds_toArray,Ck]
 ·rw[List.length_dropLast];omega
def Oi:V->List V->Hp->VK->Prop:=fun x vs H Q=>∃l xs i k y,x=.ref l/\vs=[.int i]/\H l=some (.lst xs) /\ -(2 ^ 63)<=i/\i<2 ^ 63/\seqIndex? i xs.length=some k/\xs[k]?=some y/\Q y (upd H l (.lst (xs.eraseIdx k)))
theorem HG:Ep X "list.pop" Oi :=by
 intro pins s σ H x vs v us Q I rx rv h;obtain⟨l,xs,i,k,y,rfl,rfl,hH,h1,h2,hk,hy,q⟩:=h;cases rx;obtain⟨u,rfl,ru⟩:=rv.one;obtain⟨t,rfl⟩:=ru;obtain⟨z,its,n,r,hl,e⟩:=I.o8 hH;obtain⟨w,hw,gf⟩:=r.get hy;refine aaN F.slot_list_pop ⟨_,e,rfl⟩ F.entry_list_pop (F.args_list_pop_2 _ _)
  (MeetsSeq.list_pop_at l its.toArray n i t k w (fitsIndex_both h1 h2) (by rw[dL,<- hl];exact hk) (by rw[<- OE];exact hw) (by rw[dL];omega)) ⟨e,?_⟩
 refine⟨y,_,I.xE (its':=its.eraseIdx k) hH e ?_ (r.eraseIdx k) ?_,gf,q⟩
 ·show its.toArray.eraseIdxIfInBounds k=(its.eraseIdx k).toArray;rw[List.eraseIdxIfInBounds_toArray]
 ·have:=vA xs k;omega
def Oj:V->List V->Hp->VK->Prop:=fun x vs H Q=>∃l xs,x=.ref l/\vs=[]/\H l=some (.lst xs)/\Q .ax (upd H l (.lst []))
theorem HH:Ep X "list.clear" Oj :=by
 intro pins s σ H x vs v us Q I rx rv h;obtain⟨l,xs,rfl,rfl,hH,q⟩:=h;cases rx;have Og:=rv.zero;subst Og;obtain⟨z,its,n,r,hl,e⟩:=I.o8 hH;refine aaN F.slot_list_clear ⟨_,e,rfl⟩ F.entry_list_clear (F.args_list_clear_1 _) (AutoSeq1.list_clear_list_0 l its.toArray n (by rw[dL];omega)) ⟨e,?_⟩
 exact⟨.ax,_,I.xE (its':=[]) (ys:=[]) hH e rfl .nil (mf _),rfl,q⟩
def Vz:R2:=fun x y H Q=>∃l b xs zs,x=.ref l/\y=.ref b/\H l=some (.lst xs)/\H b=some (.lst zs)/\xs.length+zs.length<=sizeLine/\∀p,H p=none->Q (.ref p) (upd H p (.lst (xs++zs)))
theorem Ol:OpR X (binaryOp .Add) Vz :=by
 intro pins s σ H x y v u Q I rx ry h;obtain⟨l,b,xs,zs,rfl,rfl,hH,hB,hz,q⟩:=h;cases rx;cases ry;obtain⟨z,its,n,r,hl,e⟩:=I.o8 hH;obtain⟨z2,dN,n2,r2,mD,e2⟩:=I.o8 hB;refine PySem.P.add_list e e2 ?_ (by rw[dL,dL];omega)
 have ea:its.toArray++dN.toArray=(its++dN).toArray :=by simp
 rw[ea];exact⟨.ref _,_,I.Vx (t':=s.toks) (r.append r2) (by rw[l8];omega),rfl,q _ I.fresh⟩
end
end L2
namespace T4
open PySem PySem.W PySem.Calls PyProof.Rows
theorem sQ {P:abi}{h:hX}:∀(ns:List Int) (vs:List al),WellAll P h vs (ns.map WData.int)->OF vs ns :=by
 intro ns;induction ns with
 |nil=>
  intro vs w;rw[ZT]at w;cases w;exact .nil
 |cons n ns ih=>
  intro vs w;rw[mo]at w;cases w with
  |cons a b=>
   cases a;exact .cons _ _ (ih _ b)
theorem Es {l:OpenLaw}{n:Nat}(hn:l.most=some n) {P:abi}{h:hX}{args:List WData}{vals:List al}
  (Cm:l.row.toRowW.claim.pre args=true) (JT:WellAll P h vals args) :
  ∃a vs ns,vals=[l6 a]/\args=[WData.list (ns.map WData.int)]/\h.get? a=some {cls:=.type "list",data:=.seq vs.toArray}/\OF vs ns/\ns.length<=n :=by
 have WD:WShape.hasAll [] args [.list .int]=true:=(pre_splitW Cm).1;have hc:l.pre.holds [] {args:=args}=true:=(pre_splitW Cm).2;obtain⟨d,r,rfl,h1,h2⟩:=hasAllW_cons WD;obtain rfl:=hasAllW_nil h2;obtain⟨xs,rfl,h3⟩:=hasW_list h1;obtain⟨ns,rfl⟩:=items_int h3;have hlen:ns.length<=n :=by
  unfold OpenLaw.pre at hc;have h4:(WTm.not (.lt (.lit (.int (n:Int))) (.len (.arg 0)))).holds [] {args:=[.list (ns.map .int)]}=true :=by
   have h4:=(holds_andW hc).1;rw[hn]at h4;exact h4
  have h5:=condW_of h4 (w_not (w_lt w_lit (w_len_list (w_arg rfl))));rw[bv]at h5;refine ZG fun q=>?_
  have q':(n:Int)<((ns.length:Nat):Int) :=by omega
  first
   |(rw[decide_eq_true q']at h5;exact absurd h5 (by decide))
   |(simp at h5;omega)
 cases JT with
 |cons w1 w2=>
  cases w2;cases w1 with
  |list ho VA=>exact⟨_,_,ns,rfl,rfl,ho,sQ ns _ VA,hlen⟩
theorem Et (l:OpenLaw) (args:List WData):l.row.toRowW.claim.post args (.bool true) args=true:=
 postW_of (r:=l.row.toRowW) (X:=(true==true))
  (show WShape.has [] (.bool true) .bool=true by first|rfl|decide|simp[WShape.has,WShape.arms,WShape.armsAll])
  (show (WTm.eq .res (.lit (.bool true))).value [] {args:=args,res:=some (.bool true),after:=args}=some (.bool (true==true)) from w_eq_bool (w_res rfl) w_lit) rfl
theorem Ag {l:OpenLaw}{n:Nat}{q:ff}{loose:List bi}{XP:(bi->Option al)->hX->Prop}{YP:im->hX->Prop}{d:DefRec}
  (hn:l.most=some n) (Eu:d.params.defaults=[])
  (call:∀(w:im) (s₀ aF:ar) (mg mb:bi->Option al) (fa:ag) (o:kw) (pm cd doc:al) (a:ag) (vs:List al) (ns:List Int),
   Ground q loose [] XP w s₀ mg mb aF.heap->YP w aF.heap->
   aF.heap.get? fa=some o->o.data=.func (docDef d.name d.params d.body d.scope pm cd doc)->aF.heap.CodeRec cd d.name->mg d.name=some (.ref fa)->
   aF.heap.get? a=some {cls:=.type "list",data:=.seq vs.toArray}->OF vs ns->ns.length<=n->aF.gens=#[]->
   codeAny (model l.prog w) callerA (.call (.ref fa) ⟨[.ref a],[]⟩) (fun r s'=>r=.ok (.ret (.bool true))/\OldK aF.heap s'.heap/\s'.os=aF.os/\abc s'.gens) aF) :
  WalkO q loose XP YP l.row.toRowW d [] (fun f vs=>abd f vs) :=by
 intro w s₀ aF mg mb G Y fa o pm cd doc dV kV ho hd eU hD Ew hg args vals as Cm YL YX JT YY;obtain rfl:dV=.none:=Dflts.none hD Eu;obtain rfl:kV=.none:=Dflts.noKw hD;obtain⟨a,vs,ns,rfl,rfl,HI,hints,hlen⟩:=Es hn Cm JT;refine enter_call (Zl (call w s₀ aF mg mb fa o pm cd doc a vs ns G Y ho (fd_plain hd) eU Ew HI hints hlen hg) fun r s' hq=>?_)
 obtain⟨rfl,h2,h3,h4⟩:=hq;exact⟨.inl ⟨.bool true,.bool true,[],rfl,fun _=>rfl,.bool true,Et l _,fun _=>⟨aau.nil,fun _ hm=>(nomatch hm)⟩⟩,h2,h3,h4⟩
end T4
namespace L2
open PySem PySem.Spec PyProof.Rows
theorem vC:∀{vs:List al}{ns:List Int},OF vs ns->Vals (ns.map V.int) vs
 |_,_,.nil=>.nil
 |_,_,.cons n t h=>.cons ⟨t,rfl⟩ (vC h)
def dG (s:sw):NG:=match s with
 | .FunctionDef _ a _ _ _ _ _ _ _ _=>a
 |_=>{posonlyargs:=[],args:=[],vararg:=none,kwonlyargs:=[],kw_defaults:=[],kwarg:=none,defaults:=[]}
def bQ (s:sw):List sw:=match s with
 | .FunctionDef _ _ b _ _ _ _ _ _ _=>b
 |_=>[]
def ai (s:sw):sB:=match s with
 | .FunctionDef _ _ _ _ _ _ sc _ _ _=>sc
 |_=>{kind:=.function,names:=[],isGenerator:=false,isCoroutine:=false}
abbrev bh:iI:=fun _ _ _ _ _ _=>False
abbrev E0:XK:=fun _ _ _=>False
theorem bf {X:Cx}:Passes bh X E0:=fun _ _ _ _ _ _ _ h=>h.elim
structure vD (K:ba) (x qual:bi) (st:sw) (f:ag) (fd:ln):Prop where
 ex:∃(oc:al) (od:Option ag) (kV doc pm:al) (an:Option ag) (dn ct:al) (mB:Array (Option al)),
  fd=AM x qual (dG st) (bQ st) (ai st) .none kV doc pm an dn ct/\K.lookup f=some ⟨oc,od,.func fd,mB⟩/\LM K dn qual=true
 kp:Do K (.ref f)=true
section
variable {P:ff}{w:im}{K:ba}{mg:bi->Option al}{base:hX}
theorem vD.binds {x qual:bi}{st:sw}{f:ag}{fd:ln}{ps:List bi}(F:vD K x qual st f fd)
  (h:∀(kV doc pm:al) (an:Option ag) (dn ct:al) (us:List al),us.length=ps.length->bindArgs (AM x qual (dG st) (bQ st) (ai st) .none kV doc pm an dn ct) ⟨us,[]⟩=pure (ps.zip us)):Binds K fd ps [] :=by
 obtain⟨oc,od,kV,doc,pm,an,dn,ct,mB,rfl,lk,eU⟩:=F.ex;exact .all (h kV doc pm an dn ct)
theorem Om {x qual:bi}{st:sw}{f:ag}{oc:al}{od an:Option ag}{mB:Array (Option al)}{kV doc pm dn ct:al}(l:K.lookup f=some ⟨oc,od,.func (AM x qual (dG st) (bQ st) (ai st) .none kV doc pm an dn ct),mB⟩)
  (c:LM K dn qual=true) (k:Do K (.ref f)=true):vD K x qual st f (AM x qual (dG st) (bQ st) (ai st) .none kV doc pm an dn ct):=⟨⟨oc,od,kV,doc,pm,an,dn,ct,mB,rfl,l,c⟩,k⟩
end
section
variable {X:Cx}
theorem pv (i:Nat) {x:bi}{pos:u7}(hN:X.N[i]?=some x :=by rfl) (hv:qY X.env.scope x :=by first|exact ma rfl|exact GE (ma rfl)|exact GE (GE rfl)) (hd:(x==("__debug__" : bi))=false :=by decide)
  (eU:(x==("__classdict__" : bi))=false :=by decide):PE X (.Name x pos) (Ni i):=xr hN hv hd eU
end
end L2
set_option maxHeartbeats 4000000
namespace L2
open PySem PySem.Spec PyProof.Rows
theorem nN {env:IN}:∀(names:List (bi×P3)) (acc:List (bi×ag)),(∀n,(n,sK)∈names->∃c,env.cells.lookup n=some c)->
  (∀n c,acc.lookup n=some c->env.cells.lookup n=some c)->
  ∃cl,(forIn names acc fun x r=>if (x.2==sK)=true then (do let a <- cellOf env x.1;pure (ZU ((x.1,a)::r))) else pure (ZU r):WF (List (bi×ag)))=pure cl /\
   (∀n c,cl.lookup n=some c->env.cells.lookup n=some c)/\(∀n,(n,sK)∈names->∃c,cl.lookup n=some c)/\(∀n c,acc.lookup n=some c->∃c',cl.lookup n=some c')
 | [],acc,_,h2=>⟨acc,rfl,h2,fun n h=>by simp at h,fun n c h=>⟨c,h⟩⟩
 |(n,k)::r,acc,h1,h2=>by
          rw[ZV];cases hk:(k==sK) with
          |true=>
           have ek:k=sK :=by simpa using hk
           subst ek;obtain⟨c,hc⟩:=h1 n i8;have e1:cellOf env n=pure c :=by unfold cellOf;rw[hc]
           obtain⟨cl,e,a1,a2,a3⟩:=nN r ((n,c)::acc) (fun m hm=>h1 m (en _ hm)) (fun m c' hm=>by
            rw[CS]at hm;cases hb:m==n with
            |true=>
             rw[hb]at hm;have e2:m=n :=by simpa using hb
             rw[e2,hc];exact hm
            |false=>rw[hb]at hm;exact h2 m c' hm)
           refine⟨cl,?_,a1,fun m hm=>?_,fun m c' hm=>?_⟩
           ·simp only[if_true,e1];exact e
           ·rcases i4.mp hm with z|z
            ·cases z;exact a3 n c (by rw[CS];simp)
            ·exact a2 m z
           ·by_cases hb:m=n
            ·subst hb;exact a3 m c (by rw[CS];simp)
            ·exact a3 m c' (by
              rw[CS];have:(m==n)=false :=by simpa using hb
              rw[this];exact hm)
          |false=>
           obtain⟨cl,e,a1,a2,a3⟩:=nN r acc (fun m hm=>h1 m (en _ hm)) h2
           refine⟨cl,?_,a1,fun m hm=>?_,a3⟩
           ·simp only[lw,if_false];exact e
           ·rcases i4.mp hm with z|z
            ·cases z;simp at hk
            ·exact a2 m z
theorem dO {scope:sB}{env:IN}(h:∀n,(n,sK)∈scope.names->∃c,env.cells.lookup n=some c) :
  ∃cl,closureFor scope env=pure cl/\(∀n c,cl.lookup n=some c->env.cells.lookup n=some c)/\(∀n,(n,sK)∈scope.names->∃c,cl.lookup n=some c) :=by
 obtain⟨cl,e,a1,a2,_⟩:=nN (env:=env) scope.names [] h (fun n c hn=>by simp at hn)
 refine⟨cl,?_,a1,a2⟩;simp only[closureFor];rw[e];rfl
def cxBlock (X:Cx) (N':List bi) (env':IN) (A':l5) (stack':List IN) (s:ar) (H:Hp) (ex:List ag):Cx:=
 {X with N:=N',s₀:=s,H₀:=H,env:=env',A:=A',outer:=X.stack,stack:=stack',ex:=ex,fn:=fun _=>false,pn:=[],xe:=fun _ _=>False}
theorem o9 {X:Cx}{pins:List (ag×kw)}{σ aQ:St}{H H':Hp}{s:ar}{N':List bi}{env':IN}{A':l5}{stack':List IN}{ex:List ag}{h1:hX}{m0:bi->Option al}{g':Array TM}{tk:Nat}
  (I:Inv X pins σ H s) (qA:env'.scope.kind=.function) (Su:env'.globals=X.env.globals) (VB:env'.builtins=X.env.builtins)
  (cq:∀n c,env'.cells.lookup n=some c->X.env.cells.lookup n=some c)
  (rM:∀x,(env'.kindOf x=some .cell\/env'.kindOf x=some .free)->∃c,env'.cells.lookup x=some c)
  (hh:X.calm=true->A'.handled=none) (xF:A'.frames=some stack') (VC:stack'=X.stack\/(stack'=env'::X.stack/\env'.frame=some env'.locals))
  (hC:s.heap.objs.size<=env'.locals) (hf:∀b∈ex,dg X pins H b) (Cp:∀b∈ex,b<s.heap.objs.size)
  (Ez:Un (fm X.stack) ex H H' s.heap h1) (hok:c7 X.prog X.w H' h1) (sR:H' env'.locals=none) (sS:∀b o,s.heap.get? b=some o->h1.get? b=some o) (iJ:h1.Ns env'.locals m0)
  (xG:∀(i:Nat) (x:bi) (v:V),N'[i]?=some x->aQ[i]?=some (some v)->qY env'.scope x->(env'.kindOf x=some .cell\/env'.kindOf x=some .free)/\qY X.env.scope x/\(X.env.kindOf x=some .cell\/X.env.kindOf x=some .free)/\∃j:Nat,X.N[j]?=some x/\σ[j]?=some (some v))
  (hlen:aQ.length=N'.length) (hg:Gn s.gens.size g'):Inv (cxBlock X N' env' A' stack' s H ex) [] aQ H' {s with heap:=h1,gens:=g',toks:=tk}:=by
 have EA:∀b∈ex,∀x c,X.env.cells.lookup x=some c->c≠b:=fun b hb=>(hf b hb).2.2.2.2.1
 refine⟨⟨I.ok.mod,qA,Su.trans I.ok.glob,VB.trans I.ok.blt,hC,fun x y c a b=>I.ok.inj x y c (cq x c a) (cq y c b),rM,fun _ _ z=>(nomatch z),hh,xF,VC,fun b hb=>⟨jp (l3 (Cp b hb) hC),fun x c e=>EA b hb x c (cq x c e)⟩,
   I.bs,qr I.ok.bsz I.sz,fun b o e hb=>?_,fun b hb z=>?_,I.stack,I.m9⟩,rfl,hg,Ez,⟨m0,iJ,fun i x v e1 e2 e3=>?_⟩,fun x c e=>?_,sR,fun x c e=>?_,fun p hp=>absurd (show p∈([]:List (ag×kw)) from hp) (by simp),hok,hlen⟩
 ·rcases (hf b hb).2.2.2.1 with z|z
  ·exact I.ok.noex b o e z
  ·exact absurd (l3 (gc e) (qr I.ok.bsz z)) (FF _)
 ·rcases i4.mp (I.gb b z) with q|q
  ·exact(hf b hb).2.1 q
  ·exact(hf b hb).2.2.1 q
 ·obtain⟨k1,vx,k2,j,n1,n2⟩:=xG i x v e1 e2 e3;obtain⟨m,hn,hl⟩:=I.loc;obtain⟨u,r,l⟩:=hl j x v n1 n2 vx;refine⟨u,r,.inr ⟨k1,?_⟩⟩;obtain⟨c',EB⟩:=rM x k1;rcases l with ⟨kl,_⟩|⟨_,c,ec,z⟩
  ·rcases k2 with q|q<;>(rw[kl]at q;cases q)
  ·have:c'=c:=ij ((cq x c' EB).symm.trans ec);subst this;exact⟨c',EB,z.keeps sS⟩
 ·obtain⟨v,z⟩:=I.cell x c (cq x c e);exact⟨v,z.keeps sS⟩
 ·obtain⟨v,o,ho,hd⟩:=I.cell x c (cq x c e);exact Ez.free c o ho (I.freeC x c (cq x c e)) fun z=>EA c z x c (cq x c e) rfl
theorem lookup_map2 {c:bi->P3->P3}:∀{names:List (bi×P3)}{x:bi},(names.map fun (p:bi×P3)=>(p.1,c p.1 p.2)).lookup x=(names.lookup x).map (c x)
 | [],x=>rfl
 |(n,k')::r,x=>by
          have ih:=@lookup_map2 c r x;rw[mo,CS,CS];cases hx:x==n with
          |true=>
           have e:x=n :=by simpa using hx
           subst e;rfl
          |false=>exact ih
theorem dY {scope:sB}{env:IN}(x:bi):(relabel scope env).names.lookup x=(scope.names.lookup x).map fun k=>if (k==.free && env.scope.kind==.function && env.kindOf x==some .cell)=true then .cell else k :=by
 have e:(relabel scope env).names=scope.names.map fun p=>(p.1,(fun n k=>if (k==sK && env.scope.kind==.function && env.kindOf n==some .cell)=true then SL else k) p.1 p.2) :=by
  unfold relabel;dsimp only;congr 1
  funext p
  obtain⟨n,k⟩:=p;dsimp only;split<;>rfl
 rw[e];exact lookup_map2 (c:=fun n k=>if (k==sK && env.scope.kind==.function && env.kindOf n==some .cell)=true then SL else k)
def aD (N:List bi) (sc scope:sB) (N':List bi) (tn:Nat) (idx:List Nat):Prop:=
 scope.kind=.function/\(∀y∈scope.names,y.2≠.cell/\(y.2=.local->scope.names.lookup y.1=some .local)/\(y.2=.free->sc.names.lookup y.1=some .cell\/sc.names.lookup y.1=some .free)) /\
  N'.length=tn+idx.length/\∀p∈idx.zip (N'.drop tn),N[p.1]?=some p.2/\scope.names.lookup p.2=some .free
instance (N:List bi) (sc scope:sB) (N':List bi) (tn:Nat) (idx:List Nat):Decidable (aD N sc scope N' tn idx) :=by unfold aD;infer_instance
def bw (tn:Nat) (idx:List Nat) (σ:St):St:=DD tn none++idx.map fun i=>(σ[i]?).join
theorem aD.at {N:List bi}{sc scope:sB}{N':List bi}{tn:Nat}{idx:List Nat}(B:aD N sc scope N' tn idx) {σ:St}{i:Nat}{x:bi}{v:V}(h1:N'[i]?=some x) (h2:(bw tn idx σ)[i]?=some (some v)) :
  scope.names.lookup x=some .free/\∃j:Nat,N[j]?=some x/\σ[j]?=some (some v) :=by
 obtain⟨_,_,b3,b4⟩:=B;unfold bw at h2;by_cases hi:i<tn
 ·rw[ww (by simpa using hi),Na,if_pos hi]at h2
  cases h2
 ·rw[AE (by simpa using hi),VT,ce]at h2
  cases e:idx[i - tn]? with
  |none=>rw[e]at h2;cases h2
  |some k=>
   rw[e]at h2;have h3:(σ[k]?).join=some v:=ij h2;have e2:(N'.drop tn)[i - tn]?=some x :=by
    rw[aao];have:tn+(i - tn)=i :=by omega
    rw[this];exact h1
   have m:(k,x)∈idx.zip (N'.drop tn) :=by
    refine cr (i:=i - tn) ?_;rw[zw];exact⟨e,e2⟩
   obtain⟨a,b⟩:=b4 _ m;refine⟨b,k,a,?_⟩;cases q:σ[k]? with
   |none=>rw[q]at h3;cases h3
   |some w=>rw[q]at h3;exact congrArg some h3
theorem aD.len {N:List bi}{sc scope:sB}{N':List bi}{tn:Nat}{idx:List Nat}(B:aD N sc scope N' tn idx) (σ:St):(bw tn idx σ).length=N'.length :=by
 rw[B.2.2.1];unfold bw;simp
section
variable {X:Cx}
def gO (X:Cx) (ifs:List c8) (tt:TT):Prop:=
 ∀(pins:List (ag×kw)) (s:ar) (σ:St) (H:Hp) (Q:Bool->Hp->Prop),Inv X pins σ H s->tt σ H Q->
  wpAny (model X.prog X.w) X.A (forIn ifs true fun c r=>if r=true then do let ok <- isTrue c X.env (eval c X.env);pure (ZU ok) else pure (ZU r)) (TP X pins σ Q) X.xe s
def Sv:TT:=fun _ H Q=>Q true H
theorem Lj:gO X [] Sv:=fun _ _ _ H _ I h=>wpAny_tests_nil ⟨H,I,h⟩
theorem Lk {c:c8}{tc:TT}(h:PT X c tc):gO X [c] tc:=fun pins s σ H Q I q=>wpAny_tests_one (h pins s σ H Q I q)
abbrev sT (X:Cx) (N':List bi) (scope:sB) (cl:List (bi×ag)) (C:ag) (s:ar) (H:Hp) (fp:List ag):Cx:=cxBlock X N' (compEnvC scope cl C X.env) X.A X.stack s H fp
abbrev Blk (X:Cx) (N':List bi) (scope:sB) (P:Cx->Prop):Prop:=∀(cl:List (bi×ag)) (C:ag) (s:ar) (H:Hp) (fp:List ag),P (sT X N' scope cl C s H fp)
end
abbrev TB:=St->Hp->(St->Hp->Prop)->Prop
def PB (X:Cx) (b:WF Unit) (t:TB):Prop:=∀(pins:List (ag×kw)) (s:ar) (σ:St) (H:Hp) (Q:St->Hp->Prop),Inv X pins σ H s->t σ H Q->wpAny (model X.prog X.w) X.A b (fun _ s'=>∃aQ H',Inv X pins aQ H' s'/\Q aQ H') X.xe s
def tLoop (J:It) (g:TG) (tt:TT) (tb:TB) (QE:St->Hp->Prop) (W:Nat->Nat->St->Hp->Prop):Prop:=∀i m τ H,W i m τ H->
 (J.stop i H/\QE τ H)\/(J.go i H/\∀x H',J.yld i H x H'->g x τ H' fun az H2=>tt az H2 fun b H3=>if b=true then tb az H3 fun Oo H4=>∃m',m'<m/\W (i+1) m' Oo H4 else ∃m',m'<m/\W (i+1) m' az H3)
def sU (e c6:c8) (d:Nat) (acc:al) (env:IN):WF Unit:=do
 let x <- eval c6 env
 standAt c6.pos
 let x <- foldedSetIterable c6 env x
 let it <- holding [x] (pyIter x)
 let _ <- runOwn (.compStart e d it acc env) env
def turnB (e tg iter:c8) (ifs:List c8) (d:Nat) (it acc:al) (env:IN) (body:WF Unit):WF Fin:=do
 standAt iter.pos
 match <- pyNext it with
 |none=>pure (.done .next)
 |some v=>
  letOwnedTupleGo tg it v
  assign tg env v
  let mut ok:=true
  for c in ifs do
   if ok then ok <- isTrue c env (eval c env)
  if ok then body
  again (.compLoop e d it acc env)
section
variable {Y:Cx}{e tg iter:c8}{ifs:List c8}{dp:Nat}{it:ag}{acc:al}{body:WF Unit}{fp:List ag}{bZ:Nat->hX->Prop}{J:It}{g:TG}{tt:TT}{tb:TB}{QE:St->Hp->Prop}{W:Nat->Nat->St->Hp->Prop}{R:aaS->ar->Prop}{pins:List (ag×kw)}{τ:St}{H:Hp}{s:ar}{m0:Nat}
structure uB (Y:Cx) (e tg iter:c8) (ifs:List c8) (dp:Nat) (acc:al) (body:WF Unit):Prop where
 q:∀it,(Code.compLoop e dp it acc Y.env).quiet=true
 den:∀it Q E s,wpAny (model Y.prog Y.w) Y.A ((compTurn e dp it acc Y.env).onRaise (fun x=>do noteFrame x Y.env;theTreesLotGoes x)) Q E s->wpAny (model Y.prog Y.w) (Y.A.under (.compLoop e dp it acc Y.env)) ((model Y.prog Y.w).den (.compLoop e dp it acc Y.env)) Q E s
 turn:∀it,compTurn e dp it acc Y.env=turnB e tg iter ifs dp it acc Y.env body
 denS:∀it Q E s,wpAny (model Y.prog Y.w) Y.A ((compStart e dp it acc Y.env).onRaise (fun x=>do noteFrame x Y.env;standAt theWindowsPlace)) Q E s->wpAny (model Y.prog Y.w) (Y.A.under (.compStart e dp it acc Y.env)) ((model Y.prog Y.w).den (.compStart e dp it acc Y.env)) Q E s
 cl:(clausesOf e)[dp]?=some ⟨tg,iter,ifs,0⟩
theorem mE (hc:Y.calm=true) (sV:∀x s,Y.xe x s->False) (C:uB Y e tg iter ifs dp acc body) (hg:PG Y tg g) (ht:gO Y ifs tt) (hb:PB Y body tb) (T:Turn Y.prog Y.w Y.K tg J fp it bZ) (turn:tLoop J g tt tb QE W)
  (I:Inv Y pins τ H s) (st:bZ 0 s.heap) (f:∀b∈fp,dg Y pins H b) (w0:W 0 m0 τ H) (hR:∀aT H' s',Inv Y pins aT H' s'->QE aT H'->R (.ok .next) s') :
  codeAny (model Y.prog Y.w) Y.A (.compLoop e dp (.ref it) acc Y.env) R s :=by
 have stat:∀{H':Hp},(∀b∈fp,H' b=none)->∀b∈fp,dg Y pins H' b:=fun hn b hb=>⟨hn b hb,(f b hb).2⟩
 refine codeAny_loop (C.q _) (fun n s'=>∃i τ H',Inv Y pins τ H' s'/\bZ i s'.heap/\(∀b∈fp,H' b=none)/\W i n τ H') (fun n s hI=>?_) m0 ⟨0,τ,H,I,st,fun b hb=>(f b hb).1,w0⟩
 refine C.den _ _ _ _ (wpAny_noted ?_);rw[C.turn];unfold turnB;obtain⟨i,τ,H3,I3,vp,Eb,w3⟩:=hI;rcases turn i n τ H3 w3 with ⟨stop,qn⟩|⟨go,step⟩
 ·refine ac (BS (ac (lp (T.done Y rfl rfl rfl hc i pins s τ H3 (fun _ _=>False) I3 (stat Eb) vp stop) (fun r s4 ⟨hr,I4⟩=>?_) fun _ _ z=>z.elim)))
  subst hr;exact bn (hR _ _ _ I4 qn)
 ·refine ac (BS (ac (lp (T.item Y rfl rfl rfl hc i pins s τ H3 (fun _ _=>False) I3 (stat Eb) vp go) (fun r s4 ⟨u,hr,h4⟩=>?_) fun _ _ z=>z.elim)))
  subst hr;refine ac (lp h4 (fun _ s5 ⟨x,H5,I5,r5,y5,oZ,Ec⟩=>?_) fun _ _ z=>z.elim)
  have Ed:=I5.pinned (stat Ec) (T.obj _ _ oZ);have again:∀{xH:St} {H7:Hp} {s7:ar},Inv Y (pins++ng fp s5.heap) xH H7 s7->(∃m',m'<n/\W (i+1) m' xH H7)->
    ∃m,m<n/\∃i τ H',Inv Y pins τ H' s7/\bZ i s7.heap/\(∀b∈fp,H' b=none)/\W i m τ H':=fun {xH H7 s7} I7 n7=>by
   obtain⟨m',hm,w7⟩:=n7;refine⟨m',hm,i+1,xH,H7,I7.iq,T.keep _ _ _ oZ fun b hb o e=>(I7.pin (b,o) (li _ (li _ (gA hb e)))).1,fun b hb=>?_,w7⟩
   obtain⟨o,e,d⟩:=T.obj _ _ oZ b hb;exact(I7.pin (b,o) (li _ (li _ (gA hb e)))).2.1
  refine ac (lp (hg _ s5 τ H5 x u _ Ed r5 (step x H5 y5)) (fun _ s6 ⟨vE,H6,I6,q6⟩=>?_) fun _ _ z=>(sV _ _ z).elim)
  refine ac (lp (ht _ s6 vE H6 _ I6 q6) (fun ok s7 ⟨H7,I7,q7⟩=>?_) fun _ _ z=>(sV _ _ z).elim)
  cases ok with
  |false=>exact bn ⟨rfl,again I7 q7⟩
  |true=>
   refine ac (lp (hb _ s7 vE H7 _ I7 q7) (fun _ s8 ⟨YZ,H8,I8,q8⟩=>?_) fun _ _ z=>(sV _ _ z).elim)
   exact bn ⟨rfl,again I8 q8⟩
theorem ko (C:uB Y e tg iter ifs dp acc body) (T:Turn Y.prog Y.w Y.K tg J fp it bZ) (st:bZ 0 s.heap)
  (h:codeAny (model Y.prog Y.w) Y.A (.compLoop e dp (.ref it) acc Y.env) R s):codeAny (model Y.prog Y.w) Y.A (.compStart e dp (.ref it) acc Y.env) R s :=by
 refine aa3 (C.denS _ _ _ _ (wpAny_notedAt ?_));unfold compStart;rw[C.cl];show wpAny _ _ (ask>>=_) _ _ s;refine ac (Re (wpAny_ite ?_));split
 ·first
   |exact ac (bn (bn (abj rfl h)))
   |exact bn (abj rfl h)
 ·have h2:wpAny (model Y.prog Y.w) Y.A (pyIter (.ref it)) (fun EC s'=>codeAny (model Y.prog Y.w) Y.A (.compLoop e dp EC acc Y.env) R s') (notedBy (model Y.prog Y.w) Y.A Y.env fun x s'=>R (.error x) s') s:=T.self _ 0 _ _ _ st h
  first
   |exact ac (GG (ac (BS (ac (lp h2 (fun EC s' h'=>bn (abj (C.q EC) h')) fun _ _ x=>x)))))
   |(refine ac (GG ?_);show wpAny _ _ (standAt iter.pos>>=_) _ _ s;exact ac (BS (ac (lp h2 (fun EC s' h'=>bn (abj (C.q EC) h')) fun _ _ x=>x))))
end
section
variable {Y:Cx}
def ni (D:ag) (te:TE):TB:=fun τ H Q=>te τ H fun y H4=>∃ys,H4 D=some (.lst ys)/\ys.length<sizeLine/\Q τ (upd H4 D (.lst (ys++[y])))
theorem uC {elt:c8}{te:TE}{D:ag}(h:PE Y elt te):PB Y (do let _ <- call (.builtin "list.append") [.ref D,<- eval elt Y.env]) (ni D te) :=by
 intro pins s τ H Q I q;refine ac (lp (h pins s τ H _ I q) (fun yv s8 ⟨y,H8,I8,r8,q8⟩=>?_) fun _ _ z=>z)
 obtain⟨ys,hD,hsz,w8⟩:=q8;refine ac (lp (vB (X:=Y) _ s8 τ H8 (.ref D) [y] (.ref D) [yv] (fun v H9=>v=.ax/\H9=upd H8 D (.lst (ys++[y]))) I8 rfl (.cons r8 .nil) ⟨_,ys,y,rfl,rfl,hD,hsz,rfl,rfl⟩) (fun rv s9 ⟨v9,H9,I9,_,_,e9⟩=>?_) fun _ _ z=>z)
 subst e9;exact bn ⟨τ,_,I9,w8⟩
end
section
variable {X:Cx}
theorem compG_core {pins:List (ag×kw)}{σ:St}{H2:Hp}{s2:ar}{e tg iter:c8}{ifs:List c8}{scope:sB}{N':List bi}{tn:Nat}{idx:List Nat}{g:TG}{tt:TT}{tb:ag->TB}{body:al->IN->WF Unit}{it:ag}{fp:List ag}{bZ:Nat->hX->Prop}{J:It}
  {cl:List (bi×ag)} {E:al->ar->Prop} {RR:al->ag->aaS->ar->Prop} {Q:VK} {mk:WF al} {O0:HO} {o0:kw}
  (WG:∀(Q:al->ar->Prop),Q (.ref s2.heap.objs.size) {s2 with heap:=s2.heap.push o0}->wpAny (model X.prog X.w) X.A mk Q E s2) (xF:o0.isFreed=false)
  (WH:∀(H:Hp) (h1:hX),h1.get? s2.heap.objs.size=some o0->ObjOk X.prog X.w H h1 s2.heap.objs.size O0)
  (hc:X.calm=true) (B:aD X.N X.env.scope scope N' tn idx)
  (hC:∀(D:ag),Blk X N' scope fun Y=>uB Y e tg iter ifs 0 (.ref D) (body (.ref D) Y.env))
  (hg:Blk X N' scope fun Y=>PG Y tg g) (ht:Blk X N' scope fun Y=>gO Y ifs tt) (hb:∀D,Blk X N' scope fun Y=>PB Y (body (.ref D) Y.env) (tb D))
  (I:Inv X pins σ H2 s2) (T:Turn X.prog X.w X.K tg J fp it bZ) (st:bZ 0 s2.heap) (f2:∀b∈fp,dg X pins H2 b)
  (cn:∀n c,cl.lookup n=some c->X.env.cells.lookup n=some c) (dy:∀n,(n,sK)∈scope.names->∃c,cl.lookup n=some c)
  (hq:∀D,H2 D=none->∃W:Nat->Nat->St->Hp->Prop,(∃m,W 0 m (bw tn idx σ) (upd H2 D O0))/\tLoop J g tt (tb D) (fun _ H'=>Q (.ref D) H') W)
  (xI:∀D C m s' H',Inv X pins σ H' s'->dg X pins H' C->s'.heap.Ns C m->Q (.ref D) H'->RR (.ref D) C (.ok .next) s') :
  wpAny (model X.prog X.w) X.A mk (fun acc mZ=>wpAny (model X.prog X.w) X.A (newFunctionEnv scope X.env.globals cl [] X.env.qual none .none (some X.env)) (fun lh rN=>
   codeAny (model X.prog X.w) X.A (.compStart e 0 (.ref it) acc {lh with scope:=relabel scope X.env}) (RR acc lh.locals) rN) E mZ) E s2 :=by
 obtain⟨b1,b2,b3,b4⟩:=id B;refine WG _ (ZW (fun y hy=>(b2 y hy).1) (by intro y hy;simp at hy) (fun ee iX iY=>?_) b1)
 dsimp only at iX iY ⊢;generalize hG:s2.heap.push o0=G at iX iY ⊢
 have Oq:G.objs.size=s2.heap.objs.size+1 :=by rw[<- hG,xw]
 have xJ:s2.heap.objs.size≠G.objs.size :=by rw[Oq];exact jp (Fa _)
 have js:s2.heap.objs.size<=G.objs.size :=by rw[Oq];exact ES _
 have below:∀b,b<s2.heap.objs.size->b≠G.objs.size:=fun b hb=>by rw[Oq];exact jp (zd hb)
 have old:∀b o,s2.heap.get? b=some o->ee.get? b=some o:=fun b o e=>iY.extBut b o (below b (gc e)) (br _ (hG▸br _ e))
 have ED:ee.get? s2.heap.objs.size=some o0:=iY.extBut _ _ xJ (br _ (hG▸db _ xF));have vF:H2 s2.heap.objs.size=none:=I.hok.fresh (cb _);have sR:upd H2 s2.heap.objs.size O0 G.objs.size=none :=by rw[ah (ze xJ)];exact I.hok.fresh js
 have xK:c7 X.prog X.w (upd H2 s2.heap.objs.size O0) ee:=I.hok.laid old (cb _) (WH _ _ ED);have ke:∀b∈fp,b<s2.heap.objs.size:=fun b hb=>let ⟨o,e,_⟩:=T.obj _ _ st b hb;gc e
 obtain⟨W,⟨m0,w0⟩,turn⟩:=hq s2.heap.objs.size vF;have I1:Inv (sT X N' scope cl G.objs.size s2 H2 fp) [] (bw tn idx σ) (upd H2 s2.heap.objs.size O0) {s2 with heap:=ee,toks:=s2.toks+([]:List (bi×al)).length}:=by
  refine o9 (g':=s2.gens) (m0:=fun x=>([]:List (bi×al)).reverse.lookup x) I b1 rfl rfl cn (fun x hx=>?_) (fun z=>I.ok.hd z) I.ok.frames (.inl rfl) js f2 ke (Un.laid old (cb _) vF) xK sR old iX (fun i x v e1 e2 e3=>?_) (B.len σ) I.bare.self
  ·have jn:(relabel scope X.env).names.lookup x=some .cell\/(relabel scope X.env).names.lookup x=some .free:=hx;rw[dY]at jn;cases q:scope.names.lookup x with
   |none=>rw[q]at jn;rcases jn with z|z<;>cases z
   |some k0=>
    have hm:=tw q;rw[q]at jn;by_cases hk:k0=.free
    ·subst hk;exact dy x hm
    ·have nk:(k0==sK)=false :=by simpa using hk
     have nc:=(b2 _ hm).1;simp only[BY,nk,Pi,lw,if_false]at jn;rcases jn with z|z
     ·exact absurd (ij z) nc
     ·exact absurd (ij z) hk
  ·obtain⟨fr,j,e4,e5⟩:=B.at e1 e2;have kx:=(b2 _ (tw fr)).2.2 rfl;refine⟨?_,.inr kx,kx,j,e4,e5⟩;show (relabel scope X.env).names.lookup x=some .cell\/(relabel scope X.env).names.lookup x=some .free;rw[dY,fr];simp only[BY];split
   ·exact .inl rfl
   ·exact .inr rfl
 have stat:∀b∈fp,dg (sT X N' scope cl G.objs.size s2 H2 fp) [] (upd H2 s2.heap.objs.size O0) b:=fun b hb=>by
  refine⟨by rw[ah (jp (ke b hb))];exact(f2 b hb).1,below b (ke b hb),fun z=>?_,.inl hb,fun x c e=>(f2 b hb).2.2.2.2.1 x c (cn x c e),fun p hp=>absurd (show p∈([]:List (ag×kw)) from hp) (by simp)⟩
  rcases i4.mp (I.gb b z) with q|q
  ·exact(f2 b hb).2.1 q
  ·exact(f2 b hb).2.2.1 q
 have vG:bZ 0 ee:=T.keep _ _ _ st fun b _ o e=>old b o e
 refine ko (Y:=sT X N' scope cl G.objs.size s2 H2 fp) (hC _ cl G.objs.size s2 H2 fp) T vG (mE (Y:=sT X N' scope cl G.objs.size s2 H2 fp) hc (fun _ _ z=>z) (hC _ cl G.objs.size s2 H2 fp) (hg cl G.objs.size s2 H2 fp) (ht cl G.objs.size s2 H2 fp) (hb _ cl G.objs.size s2 H2 fp) T turn I1 vG stat w0 fun aT H' s' I4 qn=>?_)
 have J2:Inv X pins σ H' s':=I.sJ I4.os I4.base I4.hok I4.bare fun b hb=>⟨(f2 b hb).2.2.2.1,(f2 b hb).2.1,(f2 b hb).2.2.2.2.1,(f2 b hb).2.2.2.2.2⟩
 obtain⟨mm,hm,_⟩:=I4.loc;exact xI _ _ mm s' H' J2 (I.k6 js I4.free) hm qn
def sW (J:It) (g:TG) (tt:TT) (te:TE) (D:ag) (Q:VK) (W:Nat->Nat->St->Hp->Prop):Prop:=∀i m τ H,W i m τ H->
 (J.stop i H/\Q (.ref D) H)\/(J.go i H/\∀x H',J.yld i H x H'->g x τ H' fun az H2=>tt az H2 fun b H3=>if b=true then te az H3 fun y H4=>∃ys m',H4 D=some (.lst ys)/\ys.length<sizeLine/\m'<m/\W (i+1) m' az (upd H4 D (.lst (ys++[y]))) else ∃m',m'<m/\W (i+1) m' az H3)
def sX (tn:Nat) (idx:List Nat) (wi:TI) (g:TG) (tt:TT) (te:TE):TE:=fun σ H Q=>wi σ H fun J H1=>∀D,H1 D=none->∃W:Nat->Nat->St->Hp->Prop,(∃m,W 0 m (bw tn idx σ) (upd H1 D (.lst [])))/\sW J g tt te D Q W
theorem sY {J:It}{g:TG}{tt:TT}{te:TE}{D:ag}{Q:VK}{W:Nat->Nat->St->Hp->Prop}(h:sW J g tt te D Q W):tLoop J g tt (ni D te) (fun _ H=>Q (.ref D) H) W :=by
 simp only[sW,exists_and_left]at h;exact h
theorem xM (elt tg iter:c8) (ifs:List c8) (scope:sB) (pos:u7) (it acc:al) (env:IN) :
  compTurn (.ListComp elt [⟨tg,iter,ifs,0⟩] scope pos) 0 it acc env=turnB (.ListComp elt [⟨tg,iter,ifs,0⟩] scope pos) tg iter ifs 0 it acc env (do let _ <- call (.builtin "list.append") [acc,<- eval elt env]) :=by
 rfl
theorem vH {pins:List (ag×kw)}{σ:St}{H2:Hp}{s2:ar}{tg elt iter:c8}{ifs:List c8}{scope:sB}{pos:u7}{N':List bi}{tn:Nat}{idx:List Nat}{g:TG}{tt:TT}{te:TE}{it:ag}{fp:List ag}{bZ:Nat->hX->Prop}{J:It}
  {cl:List (bi×ag)} {E:al->ar->Prop} {RR:al->ag->aaS->ar->Prop} {Q:VK}
  (hc:X.calm=true) (B:aD X.N X.env.scope scope N' tn idx)
  (hg:Blk X N' scope fun Y=>PG Y tg g) (ht:Blk X N' scope fun Y=>gO Y ifs tt) (he:Blk X N' scope fun Y=>PE Y elt te)
  (I:Inv X pins σ H2 s2) (T:Turn X.prog X.w X.K tg J fp it bZ) (st:bZ 0 s2.heap) (f2:∀b∈fp,dg X pins H2 b)
  (cn:∀n c,cl.lookup n=some c->X.env.cells.lookup n=some c) (dy:∀n,(n,sK)∈scope.names->∃c,cl.lookup n=some c)
  (hq:∀D,H2 D=none->∃W:Nat->Nat->St->Hp->Prop,(∃m,W 0 m (bw tn idx σ) (upd H2 D (.lst [])))/\sW J g tt te D Q W)
  (xI:∀D C m s' H',Inv X pins σ H' s'->dg X pins H' C->s'.heap.Ns C m->Q (.ref D) H'->RR (.ref D) C (.ok .next) s') :
  wpAny (model X.prog X.w) X.A (newList []) (fun acc mZ=>wpAny (model X.prog X.w) X.A (newFunctionEnv scope X.env.globals cl [] X.env.qual none .none (some X.env)) (fun lh rN=>
   codeAny (model X.prog X.w) X.A (.compStart (.ListComp elt [⟨tg,iter,ifs,0⟩] scope pos) 0 (.ref it) acc {lh with scope:=relabel scope X.env}) (RR acc lh.locals) rN) E mZ) E s2:=
 compG_core (body:=fun acc env=>do let _ <- call (.builtin "list.append") [acc,<- eval elt env]) (tb:=fun D=>ni D te) (O0:=.lst []) (o0:={cls:=.type "list",dict:=none,data:=.seq ([]:List al).toArray})
  (fun Q q=>xb q) rfl (fun H h1 hd=>⟨mf _,[],0,.nil,hd⟩) hc B (fun D cl C s H fp=>⟨fun _=>rfl,fun _ _ _ _ h=>h,fun _=>xM ..,fun _ _ _ _ h=>h,rfl⟩) hg ht (fun D cl C s H fp=>uC (he cl C s H fp))
  I T st f2 cn dy (fun D hD=>let ⟨W,w0,t⟩:=hq D hD;⟨W,w0,sY t⟩) xI
variable {tg elt iter:c8}{ifs:List c8}{scope:sB}{pos:u7}{N':List bi}{tn:Nat}{idx:List Nat}{wi:TI}{g:TG}{tt:TT}{te:TE}
theorem dg.turn {pins:List (ag×kw)}{σ:St}{H:Hp}{s:ar}{C:ag}{h':hX}(f:dg X pins H C) (I:Inv X pins σ H s) (hs:v6 C s.heap h'):Inv X pins σ H {s with heap:=h'}:=
 I.turned (t':=s.toks) (fun b o hb e=>(hs.2 b hb).trans e) f.1 f.2.1 f.2.2.2.1 f.2.2.2.2.1 f.2.2.2.2.2
theorem rg (hc:X.calm=true) (B:aD X.N X.env.scope scope N' tn idx) (hi:PI X tg iter wi)
  (hg:Blk X N' scope fun Y=>PG Y tg g) (ht:Blk X N' scope fun Y=>gO Y ifs tt) (he:Blk X N' scope fun Y=>PE Y elt te)
  (hs:∀x,foldedSetIterable iter X.env x=pure x :=by intro _;rfl):PE X (.ListComp elt [⟨tg,iter,ifs,0⟩] scope pos) (sX tn idx wi g tt te) :=by
 refine⟨?_⟩;intro pins s σ H Q I h;obtain⟨cl,d9,cn,dy⟩:=dO (scope:=scope) (env:=X.env) fun n hn=>I.ok.has n ((B.2.1 _ hn).2.2 rfl)
 rw[eval_ListComp];refine EM (use:=none) rfl hs d9 B.1 (fun y hy=>(B.2.1 y hy).2.1) (lp (hi pins s σ H _ I h) (fun xv s1 h1=>lp h1 (fun oY s2 h2=>?_) fun _ _ z=>z) fun _ _ z=>z)
 obtain⟨it,fp,bZ,J,H2,e,I2,T,iH,f2,q2⟩:=h2;subst e;refine vH (RR:=fun acc C=>compPost (model X.prog X.w) X.A X.xe none (EP X pins σ Q) acc C) hc B hg ht he I2 T iH f2 cn dy q2 fun D C m s' H' J2 fC hm q=>?_
 exact⟨m,hm,fun h' iK=>⟨.ref D,H',fC.turn J2 iK,rfl,q⟩⟩
theorem sZ {i:Nat}{y:bi}{py eW:u7}(hN:X.N.Nodup) (cy:X.N[i]?=some y) (hy:X.env.scope.names.lookup y=some .local) (hc:X.calm=true) (B:aD X.N X.env.scope scope N' tn idx) (hi:PI X tg iter wi)
  (hg:Blk X N' scope fun Y=>PG Y tg g) (ht:Blk X N' scope fun Y=>gO Y ifs tt) (he:Blk X N' scope fun Y=>PE Y elt te)
  (nj:swapsWith (.ListComp elt [⟨tg,iter,ifs,0⟩] scope pos) (some (.Name y py)) eW.line X.env=pure true :=by rfl)
  (hs:∀x,foldedSetIterable iter X.env x=pure x :=by intro _;rfl):PS X (.Assign [.Name y py] (.ListComp elt [⟨tg,iter,ifs,0⟩] scope pos) eW) (rL (sX tn idx wi g tt te) (nK i)) :=by
 refine⟨?_⟩;intro pins s σ H D I h;obtain⟨cl,d9,cn,dy⟩:=dO (scope:=scope) (env:=X.env) fun n hn=>I.ok.has n ((B.2.1 _ hn).2.2 rfl)
 rw[ZN _ _ _ _ nj];refine ac (BS (ac ?_));show wpAny _ X.A (do let _ <- comprehension (.ListComp elt [⟨tg,iter,ifs,0⟩] scope pos) scope X.env _ (newList []) false (eval iter X.env) (some (assign (.Name y py) X.env))) _ _ s;refine ac (lp (EM (use:=some (assign (.Name y py) X.env)) (Q:=fun _ s'=>SP X pins D .next s') rfl hs d9 B.1 (fun y hy=>(B.2.1 y hy).2.1)
  (lp (hi pins s σ H _ I h) (fun xv s1 h1=>lp h1 (fun oY s2 h2=>?_) fun _ _ z=>z) fun _ _ z=>z)) (fun _ s' hq=>bn (bn hq)) fun _ _ z=>z)
 obtain⟨it,fp,bZ,J,H2,e,I2,T,iH,f2,q2⟩:=h2;subst e;refine vH (RR:=fun acc C=>compPost (model X.prog X.w) X.A X.xe (some (assign (.Name y py) X.env)) (fun _ s'=>SP X pins D .next s') acc C) hc B hg ht he I2 T iH f2 cn dy q2 fun E C m s' H' J2 fC hm q=>?_
 show wpAny _ X.A (assign (.Name y py) X.env (.ref E)) _ _ s';refine Zu (store_ok2 J2 hN cy (.inl hy) (v:=.ref E) rfl (fun s3 J3 ⟨a,g6,ha⟩=>?_) (.inr hy))
 have dZ:C≠a :=by
  rcases ha with z|z
  ·rw[z];exact fC.2.1
  ·exact fun w=>fC.2.2.2.2.1 _ _ z w.symm
 exact⟨m,hm.sameBut g6 dZ,fun h' iK=>⟨_,H',fC.turn J3 iK,q⟩⟩
end
def Tb (P:ag) (H:Hp):Prop:=∃ps,H P=some (.dw ps)/\NH ps.toList
section
variable {X:Cx}{pins:List (ag×kw)}{σ:St}{H:Hp}{s:ar}{P:ag}{ps more:Array al}{h':hX}
theorem Inv.grown (I:Inv X pins σ H s) (hP:H P=some (.dw ps)) (k:∀b o,b≠P->s.heap.get? b=some o->h'.get? b=some o) (n:h'.get? P=some {cls:=.none,data:=.fields (ps++more)}) (t':Nat) :
  Inv X pins σ (upd H P (.dw (ps++more))) {s with heap:=h',toks:=t'}:=by
 have ne:∀b u,H b=some u->u≠.dw ps->b≠P:=fun b u e d=>sG e hP d
 have nn:∀b,H b=none->b≠P:=fun b e z=>by rw[z,hP]at e;cases e
 refine I.un ⟨fun b o e q _ _=>k b o (nn b q) e,fun b o e q _ _=>⟨o.slots,k b o (nn b q) e⟩,fun b o e q _=>by rw[ah (nn b q)];exact q,fun b o e _=>?_,fun b xs e=>by rw[ah (ne b _ e (by intro z;cases z))];exact e,
  fun b o u e=>by rw[ah (ne b _ e (by intro z;cases z))];exact e,fun b qs e=>?_⟩ fun b u e=>?_
 ·by_cases hb:b=P
  ·subst hb;exact⟨_,n⟩
  ·exact⟨o,k b o hb e⟩
 ·by_cases hb:b=P
  ·subst hb;rw[hP]at e;cases e;exact⟨more,aE⟩
  ·exact⟨#[],by rw[ah hb,e];simp⟩
 ·by_cases hb:b=P
  ·subst hb;rw[aE]at e;cases e;exact n
  ·rw[ah hb]at e;refine(I.hok b u e).cG (fun c v hc q=>k c v ?_ q) (fun c q=>?_) fun c xs q=>?_
   ·rcases hc with z|z
    ·rw[z];exact hb
    ·exact ne c _ z (by intro w;cases w)
   ·rw[ah (ne c _ q (by intro w;cases w))];exact q
   ·rw[ah (ne c _ q (by intro w;cases w))];exact q
theorem uD {c:ag}{pos:u7}{qn:bi}{scope:sB}{Q:al->ar->Prop}{A:l5}{E:al->ar->Prop}(I:Inv X pins σ H s) (hc:X.env.code=.ref c) (hd:u8 X.base c P) (hP:H P=some (.dw ps)) (ht:NH ps.toList)
  (h:∀code iZ s',NH iZ.toList->Inv X pins σ (upd H P (.dw iZ)) s'->(∀b o,b≠P->s.heap.get? b=some o->s'.heap.get? b=some o)->s'.gens=s.gens->Q code s'):wpAny (model X.prog X.w) A (genexprCode X.env pos qn scope) Q E s :=by
 have xN:s.heap.get? P=some (Ps ps):=I.hok P _ hP;have jS:=hd.keeps I.bk;have ic:=jS.code xN ht;cases q:codeAmong pos ps.toList with
 |some c'=>
  refine wpAny_genexprCode_hit hc ic q (h c' ps s ht ?_ (fun _ _ _ e=>e) rfl)
  have e:upd H P (.dw ps)=H :=by
   funext b
   by_cases hb:b=P
   ·subst hb;rw[aE,hP]
   ·rw[ah hb]
  rw[e];exact I
 |none=>
  refine wpAny_genexprCodeX hc ic (jS.tab xN) q fun c' h' tk ex h1 h2 Y0 _ ta _=>?_
  obtain⟨_,JU⟩:=ta;have tr:NH (ps++#[rawInt pos.line,rawInt pos.col,l6 c']).toList :=by
   rw[Z7];exact TriplesOk_snoc _ _ _ _ ht
  exact h _ _ _ tr (I.grown hP (fun b o hb e=>ex b o hb e) JU tk) (fun b o hb e=>ex b o hb e) rfl
end
def rO (s cU:ar):Prop:=cU.heap=s.heap/\cU.os=s.os/\Gn s.gens.size cU.gens
theorem Inv.pf {X:Cx}{pins:List (ag×kw)}{σ:St}{H:Hp}{s cU:ar}(I:Inv X pins σ H s) (o:rO s cU):Inv X pins σ H cU :=by
 obtain⟨h,g,d,t,os⟩:=s;obtain⟨h',g',d',t',JQ⟩:=cU;obtain⟨e1,e2,e3⟩:=o;cases e1;cases e2;exact⟨I.ok,I.os,I.bare.trans e3,I.base,I.loc,I.cell,I.free,I.freeC,I.pin,I.hok,I.len⟩
section
variable {Y:Cx}{A2:l5}{tg elt iter:c8}{ifs:List c8}{scope:sB}{pos:u7}{it:ag}{fp:List ag}{bZ:Nat->hX->Prop}{J:It}{g:TG}{tt:TT}{te:TE}{pp:List (ag×kw)}{R:GenEnd}{Yp:Protocol}
def Ot (J:It) (g:TG) (tt:TT) (te:TE) (stopAt:Bool) (Z:Bool->Hp->Prop) (W:Nat->Nat->St->Hp->Prop):Prop:=∀i m τ H,W i m τ H->
 (J.stop i H/\Z (!stopAt) H)\/(J.go i H/\∀x H',J.yld i H x H'->g x τ H' fun az H2=>tt az H2 fun b H3=>if b=true then te az H3 fun y H4=>∃c,y=.bl c/\(if c=stopAt then Z stopAt H4 else ∃m',m'<m/\W (i+1) m' az H4) else ∃m',m'<m/\W (i+1) m' az H3)
theorem HJ (hA:Y.A=A2.over (.compLoop (.GeneratorExp elt [⟨tg,iter,ifs,0⟩] scope pos) 0 (.ref it) .none Y.env) []) (sV:Y.xe=fun _ _=>False) (hc:Y.calm=true) (vI:Y.env.scope.isCoroutine=false)
  (T:Turn Y.prog Y.w Y.K tg J fp it bZ) (hg:PG Y tg g) (ht:gO Y ifs tt) (he:PE Y elt te) (stat:∀{H':Hp},(∀b∈fp,H' b=none)->∀b∈fp,dg Y pp H' b)
  {W:Nat->Nat->St->Hp->Prop} {Z:Bool->Hp->Prop} {stopAt:Bool} (turn:Ot J g tt te stopAt Z W)
  (hR:∀n s₀ aF τ H,Inv Y pp τ H aF->Z (!stopAt) H->R n s₀ (.ok .next) aF)
  (hY:∀n s₀ s xO c τ H,Inv Y pp τ H s->(c=stopAt->Z stopAt H)->(c≠stopAt->∀cU,rO s cU->xO (.send .none) cU)->Yp n s₀ (.bool c) s xO) :
  ∀(m n i:Nat) (τ:St) (H:Hp) (s s₀:ar),m<n->W i m τ H->Inv Y pp τ H s->bZ i s.heap->(∀b∈fp,H b=none)->
   Seg (model Y.prog Y.w) A2 R Yp n s₀ (.compLoop (.GeneratorExp elt [⟨tg,iter,ifs,0⟩] scope pos) 0 (.ref it) .none Y.env)
    ((model Y.prog Y.w).den (.compLoop (.GeneratorExp elt [⟨tg,iter,ifs,0⟩] scope pos) 0 (.ref it) .none Y.env)) [] s :=by
 intro m;induction m using Nat.strongRecOn with
 |ind m ih=>
  intro n i τ H s s₀ WK w I st fr;show Seg _ A2 _ _ _ s₀ _ ((compTurn (.GeneratorExp elt [⟨tg,iter,ifs,0⟩] scope pos) 0 (.ref it) .none Y.env).onRaise (leaving Y.env)) [] s;rw[compTurn_gen,WF.onRaise_eq_wrap];rcases turn i m τ H w with ⟨stop,qn⟩|⟨go,step⟩
  ·refine Ch (BS ?_);have d:=T.done Y rfl rfl rfl hc i pp s τ H (fun _ _=>False) I (stat fr) st stop
   rw[hA]at d;refine Ch (lp d (fun r s1 ⟨hr,I1⟩=>?_) fun _ _ z=>z.elim)
   subst hr;exact seg_end (.ok .next) (hR _ _ _ _ _ I1 qn)
  ·refine Ch (BS ?_);have d:=T.item Y rfl rfl rfl hc i pp s τ H (fun _ _=>False) I (stat fr) st go
   rw[hA]at d;refine Ch (lp d (fun r s4 ⟨u,hr,h4⟩=>?_) fun _ _ z=>z.elim)
   subst hr;refine Ch (lp h4 (fun _ s5 ⟨x,H5,I5,r5,y5,oZ,Ec⟩=>?_) fun _ _ z=>z.elim)
   have Ed:=I5.pinned (stat Ec) (T.obj _ _ oZ);have back:∀{xH:St} {H7:Hp} {s7:ar},Inv Y (pp++ng fp s5.heap) xH H7 s7->bZ (i+1) s7.heap/\∀b∈fp,H7 b=none:=fun {xH H7 s7} I7=>by
    refine⟨T.keep _ _ _ oZ fun b hb o e=>(I7.pin (b,o) (li _ (li _ (gA hb e)))).1,fun b hb=>?_⟩
    obtain⟨o,e,d⟩:=T.obj _ _ oZ b hb;exact(I7.pin (b,o) (li _ (li _ (gA hb e)))).2.1
   have d2:=hg _ s5 τ H5 x u _ Ed r5 (step x H5 y5);rw[hA,sV]at d2;refine Ch (lp d2 (fun _ s6 ⟨vE,H6,I6,q6⟩=>?_) fun _ _ z=>z.elim)
   have d3:=ht _ s6 vE H6 _ I6 q6;rw[hA,sV]at d3;refine Ch (lp d3 (fun ok s7 ⟨H7,I7,q7⟩=>?_) fun _ _ z=>z.elim)
   have hy:∀v,yieldOut Y.env v=yieldValue v:=fun v=>by simp only[yieldOut,vI,lw,if_false]
   cases ok with
   |false=>
    simp only[lw,if_false]at q7 ⊢;obtain⟨m',xP,w7⟩:=q7;exact aa4 rfl (ih m' xP n (i+1) vE H7 s7 s₀ (by omega) w7 I7.iq (back I7).1 (back I7).2)
   |true=>
    simp only[if_true]at q7 ⊢;simp only[hy];rw[WF.bind_eq_wrap',WF.bind_eq_wrap',WF.wrap_wrap,WF.wrap_wrap];have d4:=he _ s7 vE H7 _ I7 q7;rw[hA,sV]at d4;refine seg_wrap (lp d4 (fun yv s8 ⟨y,H8,I8,r8,q8⟩=>?_) fun _ _ z=>z.elim)
    obtain⟨c,ey,q8⟩:=q8;subst ey;cases (show yv=WI c from r8);obtain⟨n,rfl⟩:∃n',n=n'+1:=⟨n - 1,by omega⟩
    refine seg_at (seg_yield rfl rfl rfl (hY _ _ _ _ c vE H8 I8.iq (fun e=>by rw[if_pos e]at q8;exact q8) fun e cU ok=>?_))
    rw[if_neg e]at q8;obtain⟨m',xP,w8⟩:=q8;have I9:=I8.pf ok;exact aa4 rfl (ih m' xP n (i+1) vE H8 cU cU (by omega) w8 I9.iq (back I9).1 (back I9).2)
end
abbrev fy (elt tg iter:c8) (ifs:List c8) (scope:sB) (pos:u7):c8:=.GeneratorExp elt [⟨tg,iter,ifs,0⟩] scope pos
abbrev Ou (X:Cx) (N':List bi) (scope:sB) (cl:List (bi×ag)) (C:ag) (code:al) (A':l5) (s:ar) (H:Hp) (fp:List ag):Cx:=
 cxBlock X N' (genEnv scope cl C code builtinsNs X.env) A' (genEnv scope cl C code builtinsNs X.env::X.stack) s H fp
abbrev rP (X:Cx) (N':List bi) (scope:sB) (k:Nat) (P:Cx->Prop):Prop:=∀(cl:List (bi×ag)) (C:ag) (code:al) (A':l5) (s:ar) (H:Hp) (fp:List ag),ck k A'->P (Ou X N' scope cl C code A' s H fp)
structure VD (X:Cx) (pins:List (ag×kw)) (σ:St) (N':List bi) (scope:sB) (tn:Nat) (idx:List Nat) (k:Nat) (elt tg iter:c8) (ifs:List c8) (pos:u7) (J:It) (H3:Hp) (a:ag) (s5:ar)
  (Y:Cx) (it:ag) (fp:List ag) (bZ:Nat->hX->Prop) (g:Nat) (pp:List (ag×kw)):Prop where
 inv:Inv Y pp (bw tn idx σ) H3 s5
 isg:∀{τ:St} {H':Hp} {s':ar},Inv Y pp τ H' s'->s'.heap.IsGen a g
 st:s5.gens[g]?=some (.fresh (.compStart (fy elt tg iter ifs scope pos) 0 (.ref it) .none Y.env))
 T:Turn Y.prog Y.w Y.K tg J fp it bZ
 tn0:bZ 0 s5.heap
 fr:∀b∈fp,H3 b=none
 stat:∀{H':Hp},(∀b∈fp,H' b=none)->∀b∈fp,dg Y pp H' b
 out:∀{τ:St} {H':Hp} {s':ar},Inv Y pp τ H' s'->Inv X pins σ H' s'
 A:Y.A=X.A.in4.in1.over (.compLoop (fy elt tg iter ifs scope pos) 0 (.ref it) .none Y.env) []
 xe:Y.xe=fun _ _=>False
 calm:Y.calm=true
 co:Y.env.scope.isCoroutine=false
 gsz:∀{τ:St} {H':Hp} {s':ar},Inv Y pp τ H' s'->g<s'.gens.size
 blk:∀P:Cx->Prop,rP X N' scope k P->P Y
 prog:Y.prog=X.prog
 w:Y.w=X.w
section
variable {X:Cx}{tg elt iter:c8}{ifs:List c8}{scope:sB}{pos:u7}{N':List bi}{tn:Nat}{idx:List Nat}{wi:TI}{g:TG}{tt:TT}{te:TE}{c P:ag}{k:Nat}
def Ov (P:ag) (wi:TI) (R:It->Hp->Prop):St->Hp->Prop:=fun σ H=>wi σ H fun J H1=>Tb P H1/\∀ps,NH ps.toList->R J (upd H1 P (.dw ps))
theorem HK {pins:List (ag×kw)}{s:ar}{σ:St}{H:Hp}{QQ:al->ar->Prop}{R:It->Hp->Prop}(hr:ck (k+1) X.A) (hc:X.calm=true) (B:aD X.N X.env.scope scope N' tn idx)
  (h0:scope.names.lookup (".0" : bi)=some .local) (vI:scope.isCoroutine=false) (ik:X.env.code=.ref c) (hd:u8 X.base c P) (fW:∃bm ob,ZY X.base mainGlobals X.mg bm ob)
  (hi:PI X tg iter wi) (hs:∀x,genFold iter X.env x=pure x) (I:Inv X pins σ H s) (h:Ov P wi R σ H)
  (q:∀J H3 a s5 Y it fp bZ gn pp,VD X pins σ N' scope tn idx k elt tg iter ifs pos J H3 a s5 Y it fp bZ gn pp->R J H3->QQ (.ref a) s5) :
  wpAny (model X.prog X.w) X.A (eval (fy elt tg iter ifs scope pos) X.env) QQ X.xe s :=by
 obtain⟨cl,d9,cn,dy⟩:=dO (scope:=scope) (env:=X.env) fun n hn=>I.ok.has n ((B.2.1 _ hn).2.2 rfl)
 refine wpAny_GeneratorExp_make vI d9 (fun y hy=>(B.2.1 y hy).1) h0 B.1 hr.depth (thn (hi pins s σ H _ I h) fun xv s1 h1=>thn h1 fun oY s2 h2=>?_) hs
 obtain⟨it,fp,bZ,J,H2,e,I2,T,iH,f2,⟨ps,hP,ph⟩,q2⟩:=h2;subst e;refine⟨I2.nolimit,uD I2 ik hd hP ph fun code iZ s3 Ow I3 kp Y1=>?_⟩
 obtain⟨bm,ob,bmod⟩:=fW;have iL:=bmod.keeps I3.bk;refine wpAny_builtinsFor (by rw[I3.ok.glob];exact iL.ns) iL.name iL.ne iL.obj iL.cls iL.dict iL.data ?_
 intro h' D5 iK;have T5:∀b∈fp,b≠P:=fun b hb z=>by have:=(f2 b hb).1;rw[z,hP]at this;cases this
 have vp:bZ 0 s3.heap:=T.keep _ _ _ iH fun b hb o e=>kp b o (T5 b hb) e
 have ke:∀b∈fp,b<s3.heap.objs.size:=fun b hb=>let ⟨o,e,_⟩:=T.obj _ _ vp b hb;gc e
 have f3:∀b∈fp,dg X pins (upd H2 P (.dw iZ)) b:=fun b hb=>⟨by rw[ah (T5 b hb)];exact(f2 b hb).1,(f2 b hb).2⟩
 have hsz:h'.objs.size=s3.heap.objs.size+1 :=by rw[iK.1,xw]
 have Sw:∀b o,s3.heap.get? b=some o->h'.get? b=some o:=fun b o e=>iK.extBut b o (jp (gc e)) (br _ e)
 have T6:Gn s3.gens.size (s3.gens.push (.fresh (.compStart (fy elt tg iter ifs scope pos) 0 (.ref it) .none (genEnv scope cl s3.heap.objs.size code builtinsNs X.env)))):=⟨abc.push I3.bare.1 rfl,by rw[Array.size_push];exact ES _⟩
 have T7:Inv X pins σ (upd H2 P (.dw iZ)) {s3 with gens:=s3.gens.push (.fresh (.compStart (fy elt tg iter ifs scope pos) 0 (.ref it) .none (genEnv scope cl s3.heap.objs.size code builtinsNs X.env)))}:=I3.pf ⟨rfl,rfl,T6⟩
 have hA:(X.A.in4.in1.over (.compLoop (fy elt tg iter ifs scope pos) 0 (.ref it) .none (genEnv scope cl s3.heap.objs.size code builtinsNs X.env)) []).frames=some (genEnv scope cl s3.heap.objs.size code builtinsNs X.env::X.stack) :=by
  show pushEnvs [_] (pushEnvs [] X.A.frames)=_;rw[I.ok.frames];rfl
 have nO:ck k (X.A.in4.in1.over (.compLoop (fy elt tg iter ifs scope pos) 0 (.ref it) .none (genEnv scope cl s3.heap.objs.size code builtinsNs X.env)) []) :=by
  refine⟨hr.hd,?_,?_⟩
  ·show X.A.depth+0+1+3 * k+5<recursionLimit;have:=hr.dp;omega
  ·show X.A.units+1+1+1+1+1+0+3+16 * k+200<cLine;have:=hr.un;omega
 generalize xQ:({cls:=.type "generator",data:=.fields #[.int s3.gens.size 0,.str "<genexpr>" (s3.toks+1),.str (X.env.qual ++ "<genexpr>") (s3.toks+1+1)]}:kw)=rh
 have wX:∀b o,s3.heap.get? b=some o->(h'.push rh).get? b=some o:=fun b o e=>br _ (Sw b o e)
 have VE:rh.isFreed=false :=by rw[<- xQ];rfl
 have WL:(h'.push rh).get? h'.objs.size=some rh:=db _ VE;have WM:h'.objs.size≠s3.heap.objs.size :=by rw[hsz];exact Nat.succ_ne_self _
 have WN:upd H2 P (.dw iZ) h'.objs.size=none:=I3.hok.fresh (by rw[hsz];exact ES _)
 have I5:=o9 (X:=X) (N':=N') (A':=X.A.in4.in1.over (.compLoop (fy elt tg iter ifs scope pos) 0 (.ref it) .none (genEnv scope cl s3.heap.objs.size code builtinsNs X.env)) []) (env':=genEnv scope cl s3.heap.objs.size code builtinsNs X.env) (stack':=genEnv scope cl s3.heap.objs.size code builtinsNs X.env::X.stack) (ex:=fp) (h1:=h'.push rh) (m0:=fun y=>if y = ".0" then some (.ref it) else none)
  (g':=s3.gens.push (.fresh (.compStart (fy elt tg iter ifs scope pos) 0 (.ref it) .none (genEnv scope cl s3.heap.objs.size code builtinsNs X.env)))) (tk:=s3.toks+1+1+1) (aQ:=bw tn idx σ) T7 B.1 rfl I3.ok.blt.symm cn (fun x hx=>by
   have jn:scope.names.lookup x=some .cell\/scope.names.lookup x=some .free:=hx;rcases jn with z|z
   ·exact absurd rfl ((B.2.1 _ (tw z)).1)
   ·exact dy x (tw z)) (fun z=>I.ok.hd z) hA (.inr ⟨rfl,rfl⟩) (cb _) f3 ke (Un.kept wX) (I3.hok.kept wX) (I3.hok.fresh (cb _)) wX (D5.push _) (fun i x v e1 e2 e3=>by
   obtain⟨fr,j,e4,e5⟩:=B.at e1 e2;have kx:=(B.2.1 _ (tw fr)).2.2 rfl;exact⟨.inr fr,.inr kx,kx,j,e4,e5⟩) (B.len σ) (Gn.self T6)
 have WO:h'.objs.size ∉ fm X.stack:=fun z=>by
  rcases i4.mp (I3.gb _ z) with q|q
  ·exact Lo (l3 I3.lt (by rw[hsz];exact ES _)) q
  ·exact I3.Nf (by rw[hsz];exact ES _) q
 have wV:∀v,rh.data≠.cell v :=by rw[<- xQ];intro v z;cases z
 have I6:=I5.ux (pins':=[(h'.objs.size,rh)]) (fun p hp=>by
  rcases io.mp hp with rfl
  exact⟨WL,WN,WM,WO,wV⟩)
 refine q J _ _ _ (Ou X N' scope cl s3.heap.objs.size code _ _ _ fp) it fp bZ s3.gens.size [(h'.objs.size,rh)] ⟨I6,fun {τ H' s'} J'=>?_,?_,T,T.keep _ _ _ vp fun b _ o e=>wX b o e,fun b hb=>(f3 b hb).1,fun {H'} hn b hb=>?_,fun {τ H' s'} J'=>?_,rfl,rfl,hc,vI,fun {τ H' s'} J'=>?_,fun Pp hb=>hb cl _ code _ _ _ fp nO,rfl,rfl⟩ (q2 iZ Ow)
 ·have:=(J'.pin (h'.objs.size,rh) (li _ (io.mpr rfl))).1;exact⟨rh,_,_,this,by rw[<- xQ],by rw[<- xQ],by rw[<- xQ]⟩
 ·exact Array.getElem?_push_size ..
 ·refine⟨hn b hb,jp (ke b hb),fun z=>?_,.inl hb,fun x c e=>(f2 b hb).2.2.2.2.1 x c (cn x c e),fun p hp z=>?_⟩
  ·rcases i4.mp (I2.gb b z) with q|q
   ·exact(f2 b hb).2.1 q
   ·exact(f2 b hb).2.2.1 q
  ·rcases io.mp hp with rfl
   have z':h'.objs.size=b:=z;have:=ke b hb;rw[<- z',hsz]at this;exact absurd this (abf.mpr (ES _))
 ·exact T7.sJ J'.os J'.base J'.hok J'.bare fun b hb=>⟨(f3 b hb).2.2.2.1,(f3 b hb).2.1,(f3 b hb).2.2.2.2.1,(f3 b hb).2.2.2.2.2⟩
 ·have:=J'.bare.2;have e:(Ou X N' scope cl s3.heap.objs.size code (X.A.in4.in1.over (.compLoop (fy elt tg iter ifs scope pos) 0 (.ref it) .none (genEnv scope cl s3.heap.objs.size code builtinsNs X.env)) []) {s3 with gens:=s3.gens.push (.fresh (.compStart (fy elt tg iter ifs scope pos) 0 (.ref it) .none (genEnv scope cl s3.heap.objs.size code builtinsNs X.env)))} (upd H2 P (.dw iZ)) fp).s₀.gens.size=s3.gens.size+1 :=by
   show (s3.gens.push _).size=_;rw[Array.size_push]
  rw[e]at this;omega
theorem HL {prog:ff}{w:im}{A:l5}{a:ag}{R':aaS->ar->Prop}(In:Nat->ar->Prop)
  (turn:∀n s,In n s->wpAny (model prog w) A.in1 (pyNext (.ref a)) (fun r s1=>match r with
   |none=>R' (.ok (.ret (.bool true))) s1
   |some v=>∃c,v=.bool c/\if c=true then ∃m,m<n/\In m s1 else R' (.ok (.ret (.bool false))) s1) (fun e s'=>R' (.error e) s') s) :
  ∀(n:Nat) (s:ar),In n s->codeAny (model prog w) A (.builtin "all.loop" ⟨[.ref a],[]⟩) R' s :=by
 intro n;induction n using Nat.strongRecOn with
 |ind n ih=>
  intro s h;refine KB F.entry_all_loop ?_;rw[Fk ZH _];show wpAny _ A.in1 (pyNext (.ref a)>>=_) _ _ s;refine ac (lp (turn n s h) (fun r s1 q=>?_) fun _ _ z=>z)
  cases r with
  |none=>exact ac (GG (bn q))
  |some v=>
   obtain⟨c,e,q⟩:=q;subst e;refine ac (AC (AN ?_));refine ac (aai ?_);cases c with
   |true=>
    simp only[if_true]at q ⊢;obtain⟨m,hm,hI⟩:=q;exact bn ⟨Mn ZH _,ih m hm s1 hI⟩
   |false=>
    simp only[lw,if_false]at q ⊢;exact ac (GG (bn q))
theorem pj {s:ar}{g:Nat}{x:TM}{n:Nat}(h:Gn n s.gens) (hx:x.bare=true):Gn s.gens.size (s.setGen g x).gens :=by
 refine⟨fun y hy=>?_,?_⟩
 ·have Oh:y∈s.gens.setIfInBounds g x:=hy;rcases Array.mem_or_eq_of_mem_setIfInBounds Oh with z|z
  ·exact h.1 y z
  ·rw[z];exact hx
 ·show s.gens.size<=(s.gens.setIfInBounds g x).size;rw[Array.size_setIfInBounds];exact cb _
theorem EE {s:ar}{g:Nat}{x:TM}(h:g<s.gens.size):(s.setGen g x).gens[g]?=some x :=by
 show (s.gens.setIfInBounds g x)[g]?=_;rw[Array.getElem?_setIfInBounds_self];simp[h]
theorem EF {Y:Cx}{A2:l5}{R:GenEnd}{Yp:Protocol}{n:Nat}{s₀ s:ar}{it:ag}{J:It}{fp:List ag}{bZ:Nat->hX->Prop}(T:Turn Y.prog Y.w Y.K tg J fp it bZ) {i:Nat}(st:bZ i s.heap)
  (loop:Seg (model Y.prog Y.w) A2 R Yp n s₀ (.compLoop (fy elt tg iter ifs scope pos) 0 (.ref it) .none Y.env) ((model Y.prog Y.w).den (.compLoop (fy elt tg iter ifs scope pos) 0 (.ref it) .none Y.env)) [] s) :
  Seg (model Y.prog Y.w) A2 R Yp n s₀ (.compStart (fy elt tg iter ifs scope pos) 0 (.ref it) .none Y.env) ((model Y.prog Y.w).den (.compStart (fy elt tg iter ifs scope pos) 0 (.ref it) .none Y.env)) [] s :=by
 show Seg _ A2 _ _ _ s₀ _ ((compStart (fy elt tg iter ifs scope pos) 0 (.ref it) .none Y.env).onRaise (leaving Y.env)) [] s;unfold compStart;rw[WF.onRaise_eq_wrap];show Seg _ A2 _ _ _ s₀ _ ((ask>>=_).wrap _ _ _ _) [] s;refine Ch (Re ?_);split
 ·exact aa4 rfl loop
 ·first
   |exact Ch (GG (Ch (BS (Ch (T.self _ i s _ _ st (aa4 rfl loop))))))
   |(refine Ch (GG ?_);show Seg _ A2 _ _ _ s₀ _ ((standAt iter.pos>>=_).wrap _ _ _ _) [] s;exact Ch (BS (Ch (T.self _ i s _ _ st (aa4 rfl loop)))))
def Ox (P:ag) (tn:Nat) (idx:List Nat) (wi:TI) (g:TG) (tt:TT) (te:TE):TE:=fun σ H Q=>Ov P wi (fun J H1=>∃W:Nat->Nat->St->Hp->Prop,(∃m,W 0 m (bw tn idx σ) H1)/\Ot J g tt te false (fun b H2=>Q (.bl b) H2) W) σ H
theorem Oy {p xR:u7}(hr:ck (k+1) X.A) (hc:X.calm=true) (B:aD X.N X.env.scope scope N' tn idx)
  (h0:scope.names.lookup (".0" : bi)=some .local) (vI:scope.isCoroutine=false) (ik:X.env.code=.ref c) (hd:u8 X.base c P) (fW:∃bm ob,ZY X.base mainGlobals X.mg bm ob)
  (vJ:Gl X "all") (hm:X.mg "all" = none) (hi:PI X tg iter wi) (hg:rP X N' scope k fun Y=>PG Y tg g) (ht:rP X N' scope k fun Y=>gO Y ifs tt) (he:rP X N' scope k fun Y=>PE Y elt te)
  (hs:∀x,genFold iter X.env x=pure x :=by intro _;rfl):PE X (.Call (.Name "all" p) [fy elt tg iter ifs scope xR] [] pos) (Ox P tn idx wi g tt te) :=by
 refine⟨?_⟩;intro pins s σ H Q I h;refine ET (gY I vJ hm PyProof.Rows.boot_all ?_);refine PyProof.Rows.callWith_builtin1 ?_ rfl rfl;show wpAny _ _ (spliced ((false,eval (fy elt tg iter ifs scope xR) X.env)::[])) _ _ s;refine LH (HK hr hc B h0 vI ik hd fW hi hs I h ?_);intro J H3 a s5 Y it fp bZ gn pp G ⟨W,⟨m0,w0⟩,turn⟩;refine Pc ?_;refine aap F.kind_all F.plain_all F.entry_all (F.args_all1 _) ?_;unfold ss.«all»;refine ac (m:=oneArg "all" _) (bn ?_)
 refine ac (wpAny_pyIter_gen (G.isg G.inv) ?_);refine bn ⟨Mn ZH _,?_⟩;have Oz:=HJ (A2:=X.A.in4.in1) (pp:=pp) (R:=fun n s₀ r aF=>r=.ok .next/\∃τ H,Inv Y pp τ H aF/\Q (.bl true) H)
  (Yp:=fun n s₀ v s xO=>∃c τ H,v=.bool c/\Inv Y pp τ H s/\(c=false->Q (.bl false) H)/\(c≠false->∀cU,rO s cU->xO (.send .none) cU)) G.A G.xe G.calm G.co G.T (G.blk _ hg) (G.blk _ ht) (G.blk _ he) G.stat turn
  (fun n s₀ aF τ H J z=>⟨rfl,τ,H,J,z⟩) (fun n s₀ s xO c τ H J z1 z2=>⟨c,τ,H,rfl,J,z1,z2⟩)
 have hP:=G.prog;have hW:=G.w;rw[hP,hW]at Oz;refine HL (A:=X.A) (fun n s=>(∃τ H,Inv Y pp τ H s)/\∃gs,s.gens[gn]?=some gs/\∀cU,rO s cU->gs.Goes (model X.prog X.w) X.A.in4.in1 (fun n s₀ r aF=>r=.ok .next/\∃τ H,Inv Y pp τ H aF/\Q (.bl true) H)
  (fun n s₀ v s xO=>∃c τ H,v=.bool c/\Inv Y pp τ H s/\(c=false->Q (.bl false) H)/\(c≠false->∀cU,rO s cU->xO (.send .none) cU)) n (.send .none) cU) ?_ (m0+1) s5 ?_
 ·rintro n s6 ⟨⟨τ,H6,I6⟩,gs,WQ,xQ⟩;have YM:=G.gsz I6;refine wpAny_of_in1 (wpAny_of_in1 (wpAny_of_in1 ?_));show wpAny (model X.prog X.w) X.A.in4 (pyNext (.ref a)) _ _ s6;refine wpAny_pyNext_genexpQ (A:=X.A.in4) (P:=fun n s₀ aF=>∃τ H,Inv Y pp τ H aF/\Q (.bl true) H) hr.hd I6.nolimit hr.depth (G.isg I6) WQ (xQ _ ⟨rfl,rfl,pj I6.bare rfl⟩) (fun v s1 T8 hb hv=>?_) (fun s1 hp h' hk=>?_)
  ·obtain⟨c,T9,H1,e,I1,z1,z2⟩:=hv;subst e;refine⟨c,rfl,?_⟩;have EG:rO s1 (s1.setGen gn T8):=⟨rfl,rfl,pj I1.bare hb⟩;cases c with
   |false=>
    rw[if_neg i0];exact⟨.bl false,H1,G.out (I1.pf EG),rfl,z1 rfl⟩
   |true=>
    rw[if_pos rfl];have z3:=z2 (by decide)
    cases n with
    |zero=>exact(z3 s1 ⟨rfl,rfl,I1.bare.self⟩).elim
    |succ m=>
     refine⟨m,Fa _,⟨T9,H1,I1.pf EG⟩,T8,EE (G.gsz I1),fun cU o=>z3 cU ⟨o.1,o.2.1,?_⟩⟩
     exact EG.2.2.trans o.2.2
  ·obtain⟨T9,H1,I1,z1⟩:=hp;have I2:=I1.kept (t':=s1.toks) hk;have WR:rO {s1 with heap:=h'} {s1.setGen gn .finished with heap:=h'}:=⟨rfl,rfl,pj (s:=s1) I1.bare rfl⟩
   exact⟨.bl true,H1,G.out (I2.pf WR),rfl,z1⟩
 ·refine⟨⟨_,_,G.inv⟩,_,G.st,fun cU o=>⟨rfl,?_⟩⟩
  have I7:=G.inv.pf o;have Ua:bZ 0 cU.heap :=by rw[o.1];exact G.tn0
  have q:=EF (iter:=iter) (ifs:=ifs) (scope:=scope) (pos:=xR) (elt:=elt) G.T Ua (by rw[hP,hW];exact Oz m0 (m0+1) 0 _ _ cU cU (Fa _) w0 I7 Ua G.fr)
  rw[hP,hW]at q;exact q
end
section
variable {X:Cx}{tg l:c8}{tl:TE}
theorem fo {xs:List V}{us:List al}(r:Vals xs us) {j:Nat}(h:j<us.toArray.size):RelV (xs.getD j .ax) us.toArray[j] :=by
 have hl:=r.length;have hj:j<xs.length :=by simpa[hl] using h
 obtain⟨u,e,q⟩:=r.get (i:=j) (x:=xs[j]) (ap hj);have e2:us.toArray[j]=u :=by
  rw[ca]at e;obtain⟨h',e⟩:=e;simpa using e
 rw[e2,ci,ap hj];exact q
theorem Ah:cK X (.builtin "isinstance") (fun xs H Q=>∃x T t b,xs=[x,.ty T]/\ir X.K H x t/\aac X.K t (.type T)=some b/\Q (.bl b) H) :=by
 intro pins s σ H xs us Q I r h;obtain⟨x,T,t,b,rfl,ty,e,q⟩:=h;obtain⟨u,w',rfl,r1,r2⟩:=vals2 r;cases (show w'=LB T from r2);exact Ej I r1 ty e fun tk=>⟨.bl b,H,I.tok tk,rfl,q⟩
theorem rj:∀{xs:List V}{us:List al},xs.length=us.length->(∀(i:Nat) (v:V),xs[i]?=some v->∃u,us[i]?=some u/\RelV v u)->Vals xs us
 | [],[],_,_=>.nil
 | [],_::_,h,_=>by simp at h
 |_::_,[],h,_=>by simp at h
 |x::xs,u::us,h,g=>by
          obtain⟨u',e,r⟩:=g 0 x rfl;have e':u=u':=by simpa using e
          subst e';exact .cons r (rj (by simpa using h) fun i v hv=>by
           obtain⟨w,e2,r2⟩:=g (i+1) v (by simpa using hv)
           exact⟨w,by simpa using e2,r2⟩)
theorem xS {e:c8}{te:TE}{p p1 p2 pos:u7}(hc:X.calm=true) (hg:Gl X "list") (hm:X.mg "list" = none) (OA:Gl X "range") (OB:X.mg "range" = none) (he:PE X e te) (hs:starEach [e] X.env=[(false,eval e X.env)] :=by rfl) :
  PE X (.Call (.Name "list" p) [.Call (.Name "range" p1) [e] [] p2] [] pos) (fun σ H Q=>te σ H fun x H1=>∃j:Int,x=.int j /\ -(2 ^ 24)<=j/\j<=2 ^ 24/\∀l,H1 l=none->Q (.ref l) (upd H1 l (.lst ((ii j.toNat).map fun i=>V.int (i:Nat))))) :=by
 refine⟨?_⟩;intro pins s σ H Q I h;refine ET (gY I hg hm (by decide +kernel:bootBuiltins "list" = some (.type "list")) ?_)
 refine Cf ?_ rfl rfl;show wpAny _ _ (spliced ((false,eval (.Call (.Name "range" p1) [e] [] p2) X.env)::[])) _ _ s
 refine LH ?_;refine Call_ (gY I OA OB boot_range (Cf ?_ hs rfl));rw[hs];refine LH (thn (he pins s σ H _ I h) fun v s1 ⟨x,H1,I1,r1,q1⟩=>Pc ?_)
 obtain⟨j,rfl,b1,b2,q⟩:=q1;obtain⟨t,rfl⟩:=r1;refine call_range_1 ?_;refine Pc ?_;refine call_list_range (n:=j.toNat) (I1.ok.hd hc) (IsRange.new ..) (small_one (by omega) (by omega) (by omega) (by omega)) (by rw[PyProof.Rows.rangeSize_nat];simp) (by omega) fun h' tk gV c' hk hS hit=>?_
 have I2:Inv X pins σ H1 {s1 with heap:=s1.heap.push {cls:=.type "range",data:=.fields #[.int 0 s1.toks,.int j t,.int 1 (s1.toks+1)]},toks:=s1.toks+1+1}:=I1.kept fun b o e=>br _ e
 obtain⟨hsz,lj⟩:=hit;have rv:Vals ((ii j.toNat).map fun i=>V.int (i:Nat)) gV.toList :=by
  refine rj (by simpa using hsz.symm) fun i v e=>?_
  rw[ce]at e;cases q2:(ii j.toNat)[i]? with
  |none=>rw[q2]at e;cases e
  |some k=>
   rw[q2]at e;have ek:k=i :=by
    obtain⟨_,e3⟩:=ca.mp q2;simpa using e3.symm
   have hi:i<gV.size :=by
    have:=(ca.mp q2).1;rw[Me]at this;omega
   obtain⟨t2,e4⟩:=lj i gV[i] (by simp[hi])
   refine⟨gV[i],by simp[hi],?_⟩
   rw[e4];have e5:v=V.int (k:Nat):=(ij e).symm;rw[e5,ek];exact⟨t2,by simp⟩
 have ob:ObjOk X.prog X.w (upd H1 (s1.heap.push {cls:=.type "range",data:=.fields #[.int 0 s1.toks,.int j t,.int 1 (s1.toks+1)]}).objs.size (.lst ((ii j.toNat).map fun i=>V.int (i:Nat)))) h' (s1.heap.push {cls:=.type "range",data:=.fields #[.int 0 s1.toks,.int j t,.int 1 (s1.toks+1)]}).objs.size (.lst ((ii j.toNat).map fun i=>V.int (i:Nat))) :=by
  refine⟨?_,gV.toList,c',rv,by simpa using hS⟩
  rw[bv,Me];exact qr (show j.toNat<=2 ^ 24 by omega) (by decide)
 exact⟨.ref _,_,I2.laid (t':=tk) hk (cb _) ob,rfl,q _ (I2.hok.fresh (cb _))⟩
end
theorem xT:bootBuiltins "int" = some (.type "int") :=by decide +kernel
theorem tj:bootBuiltins "str" = some (.type "str") :=by decide +kernel
theorem uE:bootBuiltins "bool" = some (.type "bool") :=by decide +kernel
theorem dJ:bootBuiltins "tuple" = some (.type "tuple") :=by decide +kernel
theorem iM:bootBuiltins "list" = some (.type "list") :=by decide +kernel
theorem xU:bootBuiltins "min" = some (.builtin "min") :=by decide +kernel
theorem EH:bootBuiltins "max" = some (.builtin "max") :=by decide +kernel
theorem OC:bootBuiltins "abs" = some (.builtin "abs") :=by decide +kernel
theorem aH:bootBuiltins "isinstance" = some (.builtin "isinstance") :=by decide +kernel
structure Bl (mg:bi->Option al):Prop where
 len_:mg "len" = none
 range_:mg "range" = none
 min_:mg "min" = none
 max_:mg "max" = none
 abs_:mg "abs" = none
 list_:mg "list" = none
 tuple_:mg "tuple" = none
 int_:mg "int" = none
 str_:mg "str" = none
 bool_:mg "bool" = none
 isinstance_:mg "isinstance" = none
 all_:mg "all" = none
 set_:mg "set" = none
 sorted_:mg "sorted" = none
 zip_:mg "zip" = none
 enumerate_:mg "enumerate" = none
 sum_:mg "sum" = none
 reversed_:mg "reversed" = none
 divmod_:mg "divmod" = none
 any_:mg "any" = none
 ValueError_:mg "ValueError" = none
structure Df (K:ba) (mg:bi->Option al) (x:bi) (st:sw) (ps:List bi) (f:ag) (fd:ln):Prop where
 fn:vD K x x st f fd
 bd:Binds K fd ps []
 mg:mg x=some (.ref f)
structure A8 (base:hX) (fd:ln) (c P:ag):Prop where
 code:fd.code=.ref c
 hd:u8 base c P
section
variable {P:ff}{w:im}{K:ba}{mg:bi->Option al}{base:hX}
theorem vD.WT {x qual:bi}{st:sw}{f:ag}{fd:ln}{N ps:List bi}{k:Nat}{sp:Sp}(F:vD K x qual st f fd) (S:aS N ps (ai st)) (len:∀vs H Q E,sp vs H Q E->vs.length=ps.length)
  (nL:∀(A:l5) (outer:List IN) (s:ar) (H:Hp) (vs:List V) (Q:VK) (E:XK),ck k (A.deeper (envOfC qual (ai st) s.heap.objs.size f fd.code))->sp vs H Q E->
   ∃t,iG (gU bh P w K mg base N qual (ai st) f fd.code A outer s H E).oX (bQ st) t/\t {nx:=fun _ H'=>Q .ax H',rt:=Q} (start N vs) H):FnOk P w K mg base bh (k+1) f fd ps sp :=by
 obtain⟨oc,od,kV,doc,pm,an,dn,ct,mB,rfl,lk,eU⟩:=F.ex;refine Cg lk eU S len fun A outer s H vs Q E hr mC=>?_
 obtain⟨t,h,q⟩:=nL A outer s H vs Q E hr mC;exact⟨t,h.oX,q⟩
end
def Y2:V->Bool | .int _=>true|_=>false
def below (m:Int):V->Bool | .int i=>decide (0<=i) && decide (i<m)|_=>false
structure bM (ae:List (List Int)) (w:Nat):Prop where
 one:1<=ae.length
 nine:ae.length<=9
 wid:w=2\/w=3
 row:∀r∈ae,r.length=w/\∀g∈r,0<=g/\g<(ae.length:Int)
theorem kr {α β:Type}{F:α->β->Prop}:∀{xs:List α}{ys:List β}{i:Nat}{y:β},xz F xs ys->ys[i]?=some y->∃x,xs[i]?=some x/\F x y
 |_,_,_,_,.nil,e=>by simp at e
 |_,_,0,_,.cons f _,e=>by simp at e;subst e;exact⟨_,rfl,f⟩
 |_,_,i+1,y,.cons _ t,e=>by
          obtain⟨x,h1,h2⟩:=kr (i:=i) (y:=y) t (by simpa using e)
          exact⟨x,by simpa using h1,h2⟩
def JV (tb:List ag) (H:Hp):Prop:=∀p∈tb,Tb p H
def Sx (H:Hp) (b:ag):Prop:=∃c m:Int,H b=some (.lst [.int c,.int m])/\0<=c/\0<=m
def Runs (J:It) (ys:List V) (H:Hp):Prop:=∀i,(i<ys.length->J.go i H/\∀x H',J.yld i H x H'->H'=H/\ys[i]?=some x)/\(ys.length<=i->J.stop i H)
theorem HM {K:ba}{a:ag}{ys:List V}{H:Hp}(h:c9 K H a ys):Runs (NF K a) ys H:=fun i=>
 ⟨fun hi=>⟨⟨ys,ys[i],h,ap hi⟩,fun x H' y=>⟨y.1,y.2 ys h⟩⟩,fun hi=>⟨ys,h,hi⟩⟩
theorem EI {K:ba}{a:ag}{ys:List V}{H:Hp}(h:bL K H a ys):Runs (ND K a) ys H:=fun i=>
 ⟨fun hi=>⟨⟨ys,ys[i],h,ap hi⟩,fun x H' y=>⟨y.1,y.2 ys h⟩⟩,fun hi=>⟨ys,h,hi⟩⟩
theorem nQ {lo:Int}{n:Nat}{H:Hp}:Runs (D7 lo n) ((ii n).map fun i=>V.int (lo+(i:Nat))) H:=fun i=>by
 have el:((ii n).map fun i=>V.int (lo+(i:Nat))).length=n :=by simp
 rw[el];refine⟨fun hi=>⟨hi,fun x H' y=>?_⟩,fun hi=>hi⟩
 obtain⟨e1,e2⟩:=y;refine⟨e1,?_⟩;rw[e2,ce,Gc hi];rfl
section
variable {X:Cx}{K:ba}
theorem A9 (h:X.K=K):o7 X (TY K):=h▸Ob
theorem EJ (h:X.K=K):cK X (.builtin "len") (fun xs H Q=>∃x n,xs=[x]/\NZ K x H n/\Q (.int n) H):=h▸HC
theorem oG (h:X.K=K):cK X (.type "list") (fun xs H Q=>∃p ys,xs=[.ref p]/\(bL K H p ys\/c9 K H p ys)/\∀l,H l=none->Q (.ref l) (upd H l (.lst ys))):=h▸xD
theorem uF (h:X.K=K):cK X (.type "tuple") (fun xs H Q=>∃p ys,xs=[.ref p]/\((bL K H p ys/\∀l,H l=none->Q (.ref l) (upd H l (.tup ys)))\/(c9 K H p ys/\Q (.ref p) H))):=h▸wH
theorem xV (h:X.K=K):cK X (.builtin "isinstance") (fun xs H Q=>∃x T t b,xs=[x,.ty T]/\ir K H x t/\aac K t (.type T)=some b/\Q (.bl b) H):=h▸Ah
theorem HN {tg l:c8}{tl:TE}(h:X.K=K) (hl:PE X l tl):PI X tg l (JM K tl):=h▸La hl
theorem Ln {tg l:c8}{tl:TE}(h:X.K=K) (hl:PE X l tl):PI X tg l (NI K tl):=h▸NK hl
variable {o e:c8}{es:List c8}{to:TE}{t:TA}{name:bi}{apos aX:u7}{T id:String}{r:V->List V->Hp->VK->Prop}
theorem Lp (h:X.K=K) (pa:WP T) (slot:abe T name id) (lg:typeOf (.builtin id)=pure (.type "method_descriptor")) (hm:xB X id r) (ho:PE X o to) (fx:attributeBase o name X.env (eval o X.env)=eval o X.env :=by rfl) (hline:(apos.endLine==aX.line)=true :=by rfl) :
  PE X (.Call (.Attribute o name apos) [] [] aX) (Od K T r to):=h▸Oe pa slot lg hm ho fx hline
theorem OD (h:X.K=K) (pa:WP T) (slot:abe T name id) (lg:typeOf (.builtin id)=pure (.type "method_descriptor")) (hm:xB X id r) (ho:PE X o to) (ha:PA X (e::es) t) (fx:attributeBase o name X.env (eval o X.env)=eval o X.env :=by rfl)
  (nM:((backTo aX (starEach (e::es) X.env)).all (fun x => !x.1) && (backToKw aX (keywordEach [] X.env)).all (fun x=>x.1.isSome)
   && decide ((e::es).length+([]:List Po).length+(if ([]:List Po).isEmpty then 0 else 1)<30))=true :=by rfl)
  (hline:(apos.endLine==aX.line)=true :=by rfl) (hs:starEach (e::es) X.env=(false,eval e X.env)::starEach es X.env :=by rfl) (iW:(backTo aX (starEach es X.env)).any (·.1)=false :=by rfl) :
  PE X (.Call (.Attribute o name apos) (e::es) [] aX) (TZ K T r to t):=h▸Sr pa slot lg hm ho ha fx nM hline hs iW
end
abbrev bH (K:ba) (x:bi) (st:sw):Prop:=
 ∃(f:ag) (oc:al) (od:Option ag) (sl:Array (Option al)) (kV dc pm:al) (an:Option ag) (cd ct:al),
  mT K mainGlobals x=some (some (.ref f))/\K.lookup f=some ⟨oc,od,.func (AM x x (dG st) (bQ st) (ai st) .none kV dc pm an cd ct),sl⟩/\LM K cd x=true/\Do K (.ref f)=true
theorem aW {K:ba}{x:bi}{st:sw}{f:ag}{oc:al}{od:Option ag}{sl:Array (Option al)}{kV dc pm:al}{an:Option ag}{cd ct:al}(a:mT K mainGlobals x=some (some (.ref f)))
  (l:K.lookup f=some ⟨oc,od,.func (AM x x (dG st) (bQ st) (ai st) .none kV dc pm an cd ct),sl⟩) (c:LM K cd x=true) (k:Do K (.ref f)=true):bH K x st:=⟨f,oc,od,sl,kV,dc,pm,an,cd,ct,a,l,c,k⟩
section
variable {K:ba}{mg:bi->Option al}{h base:hX}
theorem bH.df {x:bi}{st:sw}(d:bH K x st) (X:K.In h) (G:h.Ns mainGlobals mg) (ps:List bi)
  (hb:∀(kV doc pm:al) (an:Option ag) (dn ct:al) (us:List al),us.length=ps.length->bindArgs (AM x x (dG st) (bQ st) (ai st) .none kV doc pm an dn ct) ⟨us,[]⟩=pure (ps.zip us)) :
  ∃f fd,Df K mg x st ps f fd :=by
 obtain⟨f,oc,od,sl,kV,dc,pm,an,cd,ct,a,l,c,k⟩:=d;have F:=Om (st:=st) l c k;exact⟨f,_,F,F.binds hb,ON X G a⟩
theorem tm {x:bi}{st:sw}{ps:List bi}{f p:ag}{fd:ln}(D:Df K mg x st ps f fd) (X:K.In h)
  (t:∃f o fd c,mg x=some (.ref f)/\h.get? f=some o/\o.data=.func fd/\fd.code=.ref c/\u8 h c p) (tr:∀c p,u8 h c p->u8 base c p):∃c,A8 base fd c p :=by
 obtain⟨f',o,JW,c,e1,e2,e3,e4,e5⟩:=t;obtain⟨oc,od,kV,doc,pm,an,dn,ct,mB,rfl,lk,eU⟩:=D.fn.ex;have e:=D.mg.symm.trans e1;cases e;have q:=(X _ _ lk).symm.trans e2;cases q;cases e3;exact⟨c,e4,tr _ _ e5⟩
theorem Df.bind1 {x y:bi}{st:sw}{f:ag}{fd:ln}(D:Df K mg x st [y] f fd) (s:ar) (v:al)
  (hb:∀(kV doc pm:al) (an:Option ag) (dn ct:al) (u:al),bindArgs (AM x x (dG st) (bQ st) (ai st) .none kV doc pm an dn ct) ⟨[u],[]⟩=pure [(y,u)]):aaP s fd ⟨[v],[]⟩ [(y,v)] :=by
 obtain⟨oc,od,kV,doc,pm,an,dn,ct,mB,rfl,lk,eU⟩:=D.fn.ex;exact .of_eq (hb kV doc pm an dn ct v)
theorem fK {α β:Type}{F:α->β->Prop}{a:α}{r:List α}{t:List β}(h:xz F (a::r) t):∃b t',t=b::t'/\F a b/\xz F r t':=by
 cases h with
 |cons x y=>exact⟨_,_,rfl,x,y⟩
theorem recs_of {q:ff}{oH:List bi}(h:(oH.all fun y=>(recsOf q).any fun r=>decide (r.name=y))=true):∀y∈oH,∃r∈recsOf q,r.name=y:=fun y hy=>by
 have:=wT.mp h y hy;obtain⟨r,hr,e⟩:=Rs.mp this;exact⟨r,hr,of_decide_eq_true e⟩
end
def nq (xs:Array Nat):Prop:=xs.toList.Pairwise (· < ·)
theorem tq {xs:Array Nat}(h:nq xs) {i j:Nat}(xW:i<j) (hj:j<xs.size):xs[i]<xs[j] :=by
 have:=List.pairwise_iff_getElem.mp h i j (by simpa using Zn xW hj) (by simpa using hj) xW
 simpa using this
theorem below_go {xs:Array Nat}{v:Nat}(h:nq xs):∀(fuel lo hi:Nat),hi - lo<=fuel->lo<=hi->hi<=xs.size->(∀i (cy:i<xs.size),i<lo->xs[i]<v)->(∀i (cy:i<xs.size),hi<=i->v<=xs[i])->
  Zv xs v fuel lo hi<=xs.size/\(∀i (cy:i<xs.size),i<Zv xs v fuel lo hi->xs[i]<v)/\∀i (cy:i<xs.size),Zv xs v fuel lo hi<=i->v<=xs[i]
 |0,lo,hi,hf,h1,h2,ha,hb=>by
          have e:lo=hi :=by omega
          subst e;exact⟨h2,ha,hb⟩
 |fuel+1,lo,hi,hf,h1,h2,ha,hb=>by
          unfold Zv;by_cases aN:lo<hi
          ·rw[if_pos aN];dsimp only;have hm:(lo+hi) / 2<xs.size :=by omega
           have e:xs.getD ((lo+hi) / 2) v=xs[(lo+hi) / 2] :=by simp[ZZ,hm]
           rw[e];by_cases hc:xs[(lo+hi) / 2]<v
           ·rw[if_pos hc];refine below_go h fuel _ _ (by omega) (by omega) h2 (fun i cy hl=>?_) hb
            by_cases ei:i=(lo+hi) / 2
            ·subst ei;exact hc
            ·exact Zn (tq h (show i<(lo+hi) / 2 by omega) hm) hc
           ·rw[if_neg hc];refine below_go h fuel _ _ (by omega) (by omega) (by omega) ha (fun i cy hl=>?_)
            by_cases ei:i=(lo+hi) / 2
            ·subst ei;exact ZG hc
            ·exact qr (ZG hc) (Ll (tq h (show (lo+hi) / 2<i by omega) cy))
          ·rw[if_neg aN];have e:lo=hi :=by omega
           subst e;exact⟨h2,ha,hb⟩
theorem rQ {xs:Array Nat}(v:Nat) (h:nq xs):wP xs v<=xs.size/\(∀i (cy:i<xs.size),i<wP xs v->xs[i]<v)/\∀i (cy:i<xs.size),wP xs v<=i->v<=xs[i]:=
 below_go h _ _ _ (by omega) (mf _) (cb _) (fun i _ z=>absurd z (YI _)) (fun i z z'=>absurd z (abf.mpr z'))
theorem Cq {xs:Array Nat}{v:Nat}(h:nq xs) (hn:xs[wP xs v]?≠some v):nq (ul.insertAt xs (wP xs v) v) :=by
 obtain⟨b0,b1,b2⟩:=rQ v h;generalize wP xs v=p at *
 unfold nq ul.insertAt;have e:((xs.extract 0 p).push v++xs.extract p xs.size).toList=xs.toList.take p++[v]++xs.toList.drop p :=by
  simp;exact ZA (by simp)
 rw[e];have hl:∀y∈xs.toList.take p,y<v:=fun y hy=>by
  obtain⟨i,hi,rfl⟩:=List.mem_take_iff_getElem.mp hy;have fX:i<p/\i<xs.size :=by simpa[Nat.lt_min] using hi
  simpa using b1 i fX.2 fX.1
 have hr:∀y∈xs.toList.drop p,v<y:=fun y hy=>by
  obtain⟨i,hi,rfl⟩:=List.mem_drop_iff_getElem.mp hy;have fX:p+i<xs.size :=by rw[Nat.add_comm];simpa using hi
  have h1:v<=xs[p+i]:=b2 (p+i) fX (WS _ _);have h2:v≠xs[p+i]:=fun z=>by
   by_cases WU:i=0
   ·subst WU;exact hn (by rw[Nat.add_zero]at fX;rw[GM fX];simpa using z.symm)
   ·have q:=tq h (show p<p+i by omega) fX
    have q2:=b2 p (by omega) (cb _)
    omega
  have:xs.toList[p+i]'(by simpa using fX)=xs[p+i] :=by simp
  rw[this];omega
 have hp:=List.take_append_drop p xs.toList;have WV:(xs.toList.take p++xs.toList.drop p).Pairwise (· < ·) :=by rw[hp];exact h
 obtain⟨q1,q2,q3⟩:=Z0.mp WV;refine Z0.mpr ⟨Z0.mpr ⟨q1,List.pairwise_singleton _ _,fun a ha b hb=>?_⟩,q2,fun a ha b hb=>?_⟩
 ·rw[io]at hb;subst hb;exact hl a ha
 ·rcases rf.mp ha with ha|ha
  ·exact q3 a ha b hb
  ·rw[io]at ha;subst ha;exact hr b hb
structure cC (w:im) (t:ul):Prop where
 dum:t.dummies=#[]
 ris:nq t.place
 led:t.led = !w.params.followText "set-order"
theorem EK (n:Nat):nq (Array.range n) :=by
 unfold nq;rw[Array.toList_range];exact ZB
theorem cC.standIn {w:im}{t:ul}(h:cC w t) (n:Nat):cC w (t.standIn n):=⟨rfl,EK n,h.led⟩
theorem cC.orStandIn {w:im}{t:ul}(h:cC w t) (n:Nat):cC w (t.orStandIn n) :=by
 unfold ul.orStandIn;split
 ·exact h
 ·exact h.standIn n
theorem Ba (j:Nat):ul.has #[] j=false :=by
 unfold ul.has;have:(#[]:Array Nat)[wP #[] j]?=none :=by simp
 rw[this];rfl
theorem xX {w:im}{t:ul}(h:cC w t) {hashAt:Nat->Int}{hh:Int}{j:Nat}{d:Option Nat}:∀(fuel:Nat) (p:ul.Probe),p.dummy=none->aaD t hashAt hh fuel p=some (.empty j d)->t.slot j=.empty/\d=none
 |0,p,_,e=>by simp[aaD]at e
 |fuel+1,p,hp,e=>by
          unfold aaD at e;have VF:∀p:ul.Probe,(t.advance p).dummy=p.dummy:=fun p=>by
           unfold ul.advance;split<;>rfl
          cases hs:t.slot p.j with
          |empty=>
           rw[hs]at e;have e':=ij e;injection e' with e1 e2
           exact⟨by rw[<- e1];exact hs,by rw[<- e2];exact hp⟩
          |dummy=>
           exfalso
           unfold ul.slot at hs;dsimp only at hs;rw[h.dum,Ba]at hs;split at hs<;>simp at hs
          |live i=>
           rw[hs]at e;dsimp only at e;split at e
           ·simp at e
           ·exact xX h fuel _ (by rw[VF];exact hp) e
theorem Cr {w:im}{t:ul}(h:cC w t) {j:Nat}(e:t.slot j=.empty):t.place[wP t.place j]?≠some j:=fun z=>by
 unfold ul.slot at e;dsimp only at e;rw[z]at e;simp at e
theorem cC.put {w:im}{t:ul}(h:cC w t) {j:Nat}(e:t.slot j=.empty):cC w (t.put j).1 :=by
 unfold ul.put;refine⟨?_,Cq h.ris (Cr h e),h.led⟩;show (if ul.has t.dummies j then _ else t.dummies)=#[]
 rw[h.dum,Ba];rfl
theorem cC.layNew {w:im}{t:ul}(h:cC w t) (es:Array (Int×al)) (hh:Int) (x:al):cC w (layNew t es hh x).2.1 :=by
 unfold PySem.layNew;split
 ·rename_i slot rR hf;unfold ul.freeSlot at hf;refine(cC.put h ?_).orStandIn _;split at hf
  ·rename_i j dummy hp;obtain⟨e1,e2⟩:=xX h _ _ rfl hp;subst e2;have:=ij hf;injection this with z1 _
   rw[<- z1];exact e1
  ·cases hf
 ·exact h.standIn _
theorem HP {α:Type}(f:Nat->Option α) (n:Nat):nq (((ii n).filterMap fun j=>(f j).map (j,·)).map (·.1)).toArray :=by
 unfold nq;have e:(((ii n).filterMap fun j=>(f j).map (j,·)).map (·.1)).toArray.toList=(ii n).filter fun j=>(f j).isSome :=by
  rw[List.toList_toArray];induction ii n with
  |nil=>rfl
  |cons a l ih=>
   cases hf:f a with
   |none=>simp[KM,hf,ih]
   |some b=>simp[KM,hf,ih]
 rw[e];exact aau.filter _ ZB
theorem cC.Sy {w:im}{t:ul}(h:cC w t) (es:Array (Int×al)) (wanted:Nat):cC w (relayAll t es wanted).2.1 :=by
 unfold relayAll;split
 ·rename_i t' order hr;dsimp only;split
  ·unfold ul.relaid ul.laid at hr;simp only[Option.bind_eq_bind,SI,Option.pure_def]at hr;obtain⟨owner,_,hr⟩:=hr;have:=ij hr;injection this with z1 _
   subst z1;exact⟨rfl,HP (fun j=>owner.getD j none) _,h.led⟩
  ·exact h.standIn _
 ·exact h.standIn _
theorem cC.HQ {w:im}{t:ul}(h:cC w t) (b:Bool):cC w (if b=true then t else {t with plain:=false}) :=by
 split
 ·exact h
 ·exact⟨h.dum,h.ris,h.led⟩
def eL (e:Int×al):Int:=match e.2 with | .int i _=>i|_=>0
def cp (P:ff) (w:im) (h:hX) (a:ag) (ns:List Int):Prop:=
 ∃o es ep t,h.get? a=some o/\o.ExactSet/\o.data=.set es ep t/\aad (intKind P w) es.toList/\(es.toList.map eL).Perm ns/\ns.Nodup/\es.size<scanBound/\t.fits es.size=true/\cC w t
theorem cp.cG {P:ff}{w:im}{h h':hX}{a:ag}{ns:List Int}(x:cp P w h a ns) (k:∀o,h.get? a=some o->h'.get? a=some o):cp P w h' a ns:=
 let ⟨o,es,ep,t,e,r⟩:=x;⟨o,es,ep,t,k o e,r⟩
def gh (P:ff) (w:im) (a:ag) (ns:List Int):HO:=.ext fun h=>cp P w h a ns
def dh (ns:List Int) (m:Int):List Int:=if m∈ns then ns else ns++[m]
theorem Ai {P:ff}{w:im}{es:List (Int×al)}(h:aad (intKind P w) es) {k:Int}:(∃e∈es,(intKind P w).is k e.2=true) ↔ k∈es.map eL :=by
 constructor
 ·rintro⟨e,he,hk⟩;obtain⟨t,e2⟩:=Zt (k:=k) (v:=e.2) hk;exact kt.mpr ⟨e,he,by unfold eL;rw[e2]⟩
 ·intro hm;obtain⟨e,he,q⟩:=kt.mp hm;obtain⟨⟨k',jV,_⟩,_⟩:=h e he;obtain⟨t,e2⟩:=Zt (k:=k') (v:=e.2) jV;have:k'=k :=by rw[<- q];unfold eL;rw[e2]
  exact⟨e,he,this▸jV⟩
section
variable {P:ff}{w:im}{A:l5}{E:al->ar->Prop}{s:ar}
theorem tu {h:hX}{a:ag}{o:kw}{es:Array (Int×al)}{ep:Nat}{t:ul}(ho:h.get? a=some o) (hex:o.ExactSet) (hd:o.data=.set es ep t)
  {jT:Array (Int×al)} {t':ul} {ns:List Int} (mF:aad (intKind P w) jT.toList) (hp:(jT.toList.map eL).Perm ns) (hn:ns.Nodup) (hb:jT.size<scanBound) (hf:t'.fits jT.size=true) (ht:cC w t') :
  (h.update a (aaO jT t')).get? a=some {o with data:=.set jT (ep+1) t'}/\cp P w (h.update a (aaO jT t')) a ns :=by
 have hg:(h.update a (aaO jT t')).get? a=some {o with data:=.set jT (ep+1) t'}:=by
  have:=DO (aaO jT t') ho (by rw[putSet_of jT t' hd];rfl)
  rw[putSet_of jT t' hd]at this;exact this
 exact⟨hg,_,jT,ep+1,t',hg,hex,rfl,mF,hp,hn,hb,hf,ht⟩
theorem xY {g:Bool->WF Unit}(hg:∀(b:Bool) (aF:ar) (Q':Unit->ar->Prop),Q' () aF->wpAny (model P w) A (g b) Q' E aF)
  {a:ag} {o:kw} {es:Array (Int×al)} {ep:Nat} {t:ul} (ho:s.heap.get? a=some o) (hex:o.ExactSet) (hd:o.data=.set es ep t)
  {fF:Array (Int×al)} {t2:ul} {ns:List Int} (xZ:aad (intKind P w) fF.toList) (EL:(fF.toList.map eL).Perm ns) (hn:ns.Nodup)
  (tD:fF.size<scanBound) (vK:t2.fits fF.size=true) (Bb:cC w t2) {rR:Bool} {R:Option Bool->ar->Prop}
  (h:∀h',v6 a s.heap h'->cp P w h' a ns->R (some true) {s with heap:=h'}) :
  wpAny (model P w) A (do
    storeSet a fF t2
    if (!rR && t2.tooFull)=true then do
      g (relayAll t2 fF (PM fF.size)).2.2
      storeSet a (relayAll t2 fF (PM fF.size)).1 (relayAll t2 fF (PM fF.size)).2.1
      pure (some true)
     else pure (some true)) R E s :=by
 refine ac (wpAny_storeSet_of ho hd ?_ (aaE tD));obtain⟨ER,EV⟩:=tu (P:=P) (w:=w) ho hex hd xZ EL hn tD vK Bb;have OG:=Cc s.heap a (aaO fF t2);split
 ·have hp:=relayAll_perm t2 fF (PM fF.size);have xF:=relayAll_fits t2 fF (PM fF.size);have ph:=Bb.Sy fF (PM fF.size);generalize relayAll t2 fF (PM fF.size)=Rl at hp xF ph ⊢
  obtain⟨rl,t3,YG⟩:=Rl;dsimp only at hp xF ph ⊢;have hsz:rl.size=fF.size :=by rw[<- wn,hp.length_eq,wn]
  have Bc:rl.size<scanBound :=by rw[hsz];exact tD
  refine ac (hg _ _ _ (ac (wpAny_storeSet_of ER rfl ?_ (aaE Bc))));obtain⟨_,OH⟩:=tu (P:=P) (w:=w) ER hex rfl (xZ.perm hp) ((hp.map eL).trans EL) hn Bc xF ph;exact bn (h _ (OG.trans (Cc _ a _)) OH)
 ·exact bn (h _ OG EV)
theorem vL {a:ag}{ns:List Int}{m:Int}{tk:aaR}{Q:Bool->ar->Prop}(hS:cp P w s.heap a ns) (nO:ns.length+1<scanBound)
  (h:∀h',v6 a s.heap h'->cp P w h' a (dh ns m)->Q (decide (m ∉ ns)) {s with heap:=h',toks:=s.toks+1}):wpAny (model P w) A (setAdd a (.int m tk)) Q E s :=by
 unfold setAdd;refine AC (ac ((intKind P w).pyHash (k:=m) (intKind_is _ _ _ _) ?_));have mY:(intKind P w).is m (.int m tk)=true:=intKind_is _ _ _ _;obtain⟨o,es,ep,t,ho,hex,hd,mF,hp,hn,hb,hf,ht⟩:=hS;have rS:∀k,(∃e∈es.toList,(intKind P w).is k e.2=true) ↔ k∈ns:=fun k=>(Ai mF).trans hp.mem_iff
 have hlen:es.size=ns.length :=by rw[<- wn,<- hp.length_eq,bv]
 unfold setAddHashed setAddHashedIn;refine AC (ac (US (s:={s with toks:=s.toks+1}) ho hd hf ?_))
 dsimp only;rw[byScan_of (x:=.int m tk) rfl hb mF];simp only[↓reduceIte];unfold setAddByScan;refine ac (ac (GG (ac (wpAny_setScan_of mY ho hd hf mF ?_))));cases hr:List.findIdx? (fun e=>(intKind P w).is m e.2) es.toList with
 |some j=>
  dsimp only;obtain⟨hj,WW,_⟩:=List.findIdx?_eq_some_iff_getElem.mp hr;have hm:m∈ns:=(rS m).mp ⟨es.toList[j],tz hj,WW⟩;have:=h s.heap (v6.refl a s.heap) (by unfold dh;rw[if_pos hm];exact⟨o,es,ep,t,ho,hex,hd,mF,hp,hn,hb,hf,ht⟩)
  rw[decide_eq_false (fun z=>z hm)]at this
  exact bn (bn this)
 |none=>
  dsimp only;have hm:m ∉ ns:=fun z=>by
   obtain⟨e,he,q⟩:=(rS m).mpr z;have:=List.findIdx?_eq_none_iff.mp hr e he;rw[q]at this;cases this
  have qB:=layNew_perm t es ((intKind P w).hash m) (.int m tk);have tE:=layNew_fits t es ((intKind P w).hash m) (.int m tk);have ll:=ht.layNew es ((intKind P w).hash m) (.int m tk);generalize layNew t es ((intKind P w).hash m) (.int m tk)=L at qB tE ll ⊢
  obtain⟨fF,t1,rR,YN⟩:=L;dsimp only at qB tE ll ⊢;rw[Array.toList_push]at qB;have xZ:aad (intKind P w) fF.toList:=(mF.push mY rfl).perm qB;have OI:dh ns m=ns++[m] :=by unfold dh;rw[if_neg hm]
  have EL:(fF.toList.map eL).Perm (dh ns m) :=by
   rw[OI];refine(qB.map eL).trans ?_;rw[mv];exact SZ.append hp (.refl _)
  have Ub:(dh ns m).Nodup :=by
   rw[OI];exact Da.mpr ⟨hn,by simp,fun a ha b hb=>by rw[io]at hb;rw[hb];exact fun z=>hm (z▸ha)⟩
  have tD:fF.size<scanBound :=by rw[<- wn,qB.length_eq,l8,wn,hlen];simpa using nO
  have OJ:∀(b:Bool) (aF:ar) (Q':Unit->ar->Prop),Q' () aF->wpAny (model P w) A (match b with|true=>rule "set.scan.the-table-gave-way" |false=>pure ()) Q' E aF:=
   fun b aF Q' hq=>by cases b<;>first|exact bn hq|exact GG hq
  have pq:∀h',v6 a s.heap h'->cp P w h' a (dh ns m)->Q true {s with heap:=h',toks:=s.toks+1}:=by
   intro h' g6 lq;have:=h h' g6 lq;rw[decide_eq_true hm]at this;exact this
  refine ac (OJ _ _ _ ?_);split
  ·refine ac ?_;rw[hashByValue_scannable 8 (x:=.int m tk) rfl];refine bn (xY (P:=P) (w:=w) (s:={s with toks:=s.toks+1}) OJ ho hex hd xZ EL Ub tD ?_ (ll.HQ _) fun h' g6 lq=>bn (pq h' g6 lq))
   split
   ·exact tE
   ·exact ul.fits_plain_off tE
  ·refine ac (bn ?_);simp only[↓reduceIte];exact xY (P:=P) (w:=w) (s:={s with toks:=s.toks+1}) OJ ho hex hd xZ EL Ub tD tE ll fun h' g6 lq=>bn (pq h' g6 lq)
theorem Ct {ns:List Int}(h:ns.Nodup) (m:Int):(dh ns m).Nodup :=by
 unfold dh;split
 ·exact h
 ·rename_i hm;exact Da.mpr ⟨h,by simp,fun a ha b hb=>by rw[io]at hb;rw[hb];exact fun z=>hm (z▸ha)⟩
theorem HR {ns:List Int}{m k:Int}:k∈dh ns m ↔ k∈ns\/k=m :=by
 unfold dh;split
 ·rename_i hm;exact⟨.inl,fun h=>h.elim id fun e=>e▸hm⟩
 ·simp
theorem ya {ns:List Int}{m:Int}:(dh ns m).length<=ns.length+1 :=by
 unfold dh;split
 ·omega
 ·simp
end
def dP (ns:List Int):List Int:=ns.foldl dh []
theorem EW (ns:List Int) (m:Int):dP (ns++[m])=dh (dP ns) m :=by
 unfold dP;rw[aaF];rfl
theorem Cu (ns:List Int):(dP ns).Nodup :=by
 unfold dP;have:∀(l acc:List Int),acc.Nodup->(l.foldl dh acc).Nodup:=fun l=>by
  induction l with
  |nil=>exact fun acc h=>h
  |cons a l ih=>exact fun acc h=>ih _ (Ct h a)
 exact this ns [] .nil
theorem HS {ns:List Int}{k:Int}:k∈dP ns ↔ k∈ns :=by
 unfold dP;have:∀(l acc:List Int),k∈l.foldl dh acc ↔ k∈acc\/k∈l:=fun l=>by
  induction l with
  |nil=>intro acc;simp
  |cons a l ih=>
   intro acc;rw[List.foldl_cons,ih,HR,i4];constructor
   ·rintro ((h|h)|h)
    ·exact .inl h
    ·exact .inr (.inl h)
    ·exact .inr (.inr h)
   ·rintro (h|h|h)
    ·exact .inl (.inl h)
    ·exact .inl (.inr h)
    ·exact .inr h
 rw[this];simp
theorem rT (ns:List Int):(dP ns).length<=ns.length :=by
 unfold dP;have:∀(l acc:List Int),(l.foldl dh acc).length<=acc.length+l.length:=fun l=>by
  induction l with
  |nil=>intro acc;simp
  |cons a l ih=>
   intro acc;rw[List.foldl_cons,AL];have h1:=ih (dh acc a);have h2:=@ya acc a;omega
 simpa using this ns []
section
variable {P:ff}{w:im}{A:l5}{R:aaS->ar->Prop}{I:ag}{fp wr:List ag}{G:Array TM->Array TM->Prop}{n:Nat}{St:Nat->ar->Prop}
theorem HU {vs:List Int}{Pv:Nat->al->Prop}(W:WalksS P w A.in1 I fp wr G vs.length Pv St) (S:ag) (yb:S ∉ fp) (HV:∀(i:Nat) (v:al),Pv i v->∃m t,vs[i]?=some m/\v=.int m t) (hb:vs.length+1<scanBound) :
  ∀(k i:Nat) (s:ar),vs.length - i=k->i<=vs.length->St i s->cp P w s.heap S (dP (vs.take i))->
   (∀s',Moved (S::wr) G s s'->cp P w s'.heap S (dP vs)->R (.ok (.ret .none)) s')->
   codeAny (model P w) A (.builtin "set.update.loop" ⟨[.ref S,.ref I],[]⟩) R s :=by
 have Uc:S ∉ wr:=fun h=>yb (W.sub _ h)
 have uG:∀b∈wr,b∈S::wr:=fun b hb=>en _ hb
 intro k;induction k with
 |zero=>
  intro i s hk hi q9 hS hR;have gP:i=vs.length :=by omega
  subst gP;refine KB F.entry_set_update_loop ?_;rw[Fk Zq _];show wpAny _ A.in1 (pyNext (.ref I)>>=_) _ _ s;refine ac (W.done s _ _ q9 fun s' hm=>?_)
  rw[W1]at hS;exact bn (hR s' (hm.mono uG) (hS.cG fun o e=>hm.heap S _ Uc e))
 |succ k ih=>
  intro i s hk hi q9 hS hR;have aN:i<vs.length :=by omega
  refine KB F.entry_set_update_loop ?_;rw[Fk Zq _];show wpAny _ A.in1 (pyNext (.ref I)>>=_) _ _ s;refine ac (W.item i s _ _ aN q9 fun v s' hP VG hm=>?_)
  obtain⟨m,t,mG,rfl⟩:=HV i v hP;have lq:cp P w s'.heap S (dP (vs.take i)):=hS.cG fun o e=>hm.heap S _ Uc e
  show wpAny _ A.in1 (holding [aal m t] (setAdd S (.int m t))>>=_) _ _ s';have nO:(dP (vs.take i)).length+1<scanBound :=by
   have h1:=rT (vs.take i);rw[ZF]at h1;omega
  refine ac (AC (vL lq nO fun h' g6 OH=>?_))
  have WX:cp P w h' S (dP (vs.take (i+1))) :=by
   rw[List.take_add_one,mG];show cp P w h' S (dP (vs.take i++[m]));rw[EW];exact OH
  refine bn ⟨Mn Zq _,ih (i+1) _ (by omega) aN (W.frame _ s' _ _ VG (ES _) fun b hb o e=>?_) WX fun cU VH VI=>?_⟩
  ·rw[g6.2 b (fun h:b=S=>yb (by rw[<- h];exact hb))];exact e
  ·refine hR cU (Moved.trans W.gtrans ((hm.mono uG).then_heap (ES _) fun b o hb e=>?_) VH) VI
   rw[g6.2 b (fun h:b=S=>hb (by rw[h];exact i8))];exact e
end
theorem sub_tuple_set:isSubtype (.type "tuple") (.type "set")=pure false :=by rw[aae];kernel_rfl
theorem uH:isSubtype (.type "tuple") (.type "frozenset")=pure false :=by rw[aae];kernel_rfl
section
variable {P:ff}{w:im}{A:l5}{E:al->ar->Prop}{s:ar}
abbrev iu (w:im):kw:={cls:=.type "set",dict:=none,data:=.set #[] 0 (.fresh 0 0 (!w.params.followText "set-order"))}
theorem Bd {h:hX}:cp P w (h.push (iu w)) h.objs.size []:=⟨_,#[],0,_,db _ rfl,⟨rfl,rfl,rfl⟩,rfl,fun e he=>by simp at he,by simp,by simp,by decide,by rfl,rfl,aau.nil,rfl⟩
theorem HW (a:al) {Q₁:al->ar->Prop}(h:Q₁ (.ref s.heap.objs.size) {s with heap:=s.heap.push (iu w)}) :
  codeAny (model P w) A (.call (.builtin "set.__new__") ⟨[.type "set",a],[]⟩) (wants Q₁ E) s :=by
 refine aa3 ?_;show wpAny _ A.in1 (do checkBuiltinCall "set.__new__" ⟨[.type "set",a],[]⟩;again (.builtin "set.__new__" ⟨[.type "set",a],[]⟩)) _ _ s
 refine ac (aaj (F.newCall_set_1 a) (bn ⟨Mn F.plain_set_new _,KB F.entry_set_new ?_⟩));rw[Fk F.plain_set_new _];unfold ss.«set.__new__» ss.Frozenset.newClass;have uG:=sub_set_self;obtain⟨hp,g,d,tk,os⟩:=s;dsimp only;wp_walk
 refine Re (bn ?_);dsimp only;simp only[newObj];refine ac (wpAny_alloc (bn ?_));exact bn h
theorem cp.typeIs {h:hX}{a:ag}{ns:List Int}{s:ar}(x:cp P w s.heap a ns):s.TypeIs (.ref a) "set" := let ⟨o,_,_,_,ho,hex,_⟩:=x;⟨o,ho,hex.1⟩
theorem px {T:String}{l:ag}{itob:kw}{vs:List Int}{Pv:Nat->al->Prop}{St:ag->Nat->hX->Prop}{Q:al->ar->Prop}(hh:A.handled=none)
  (hl:∃o,s.heap.get? l=some o) (hT:∀s1:ar,(∀o,s.heap.get? l=some o->s1.heap.get? l=some o)->s1.TypeIs (.ref l) T) (h1:isSubtype (.type T) (.type "set")=pure false) (h2:isSubtype (.type T) (.type "frozenset")=pure false) (h3:(LB T==LB "dict")=false)
  (hit:∀(A':l5) (s1:ar) (Q':al->ar->Prop) (E':al->ar->Prop),(∀o,s.heap.get? l=some o->s1.heap.get? l=some o)->Q' (.ref s1.heap.objs.size) {s1 with heap:=s1.heap.push itob}->wpAny (model P w) A' (pyIter (.ref l)) Q' E' s1)
  (hW:∀(A':l5) (I:ag),A'.handled=none->l≠I->Walks P w A' I [I,l] [I] vs.length Pv (St I)) (WY:∀h1:hX,(∀o,s.heap.get? l=some o->h1.get? l=some o)->St h1.objs.size 0 (h1.push itob))
  (HV:∀(i:Nat) (v:al),Pv i v->∃m t,vs[i]?=some m/\v=.int m t) (hb:vs.length+1<scanBound)
  (h:∀(h':hX) (tk:Nat),cp P w h' s.heap.objs.size (dP vs)->(∀b o,s.heap.get? b=some o->h'.get? b=some o)->Q (.ref s.heap.objs.size) {s with heap:=h',toks:=tk}) :
  wpAny (model P w) A (call (.type "set") [.ref l]) Q E s :=by
 obtain⟨c,tl,YQ⟩:=RI.mro;have YH:=RI.made;have uG:=RI.sub;refine wpAny_call (aa3 ?_);show wpAny _ _ (callAny (.type "set") _) _ _ _
 refine bn ⟨Code.quiet_builtin _ (by decide +kernel),KB F.entry_type_call ?_⟩
 rw[l5.under_plain (weight_type_call_type "set" [.ref l] []) rfl]
 have k1:=RI.notType;have k2:=RI.canCreate;have Y3:=F.typeCall_set_1 (.ref l);repeat (any_goals (first|assumption|wp_step))
 refine Zl (HW (P:=P) (w:=w) (.ref l) (E:=E) (Q₁:=fun obj aF=>obj=.ref s.heap.objs.size/\aF={s with heap:=s.heap.push (iu w)}) ⟨rfl,rfl⟩) fun r aF hr=>?_
 cases r with
 |error e=>exact hr
 |ok fl=>
  cases fl with
  |ret obj=>
   obtain⟨rfl,rfl⟩:=hr;have hS:(s.heap.push (iu w)).get? s.heap.objs.size=some {cls:=.type "set",dict:=none,data:=.set #[] 0 (.fresh 0 0 (!w.params.followText "set-order"))}:=db _ rfl
   have WZ:aav {s with heap:=s.heap.push (iu w)} (.ref s.heap.objs.size) "set" := ⟨_,hS,rfl⟩
   have kp:∀b o,s.heap.get? b=some o->(s.heap.push (iu w)).get? b=some o:=fun b o e=>br _ e
   have sz:(s.heap.push (iu w)).objs.size=s.heap.objs.size+1 :=by rw[xw]
   have oI:=RI.init.lookup;have Ud:=RI.init.bind (.ref s.heap.objs.size);repeat (any_goals (first|assumption|wp_step))
   refine Zl (codeAny_call_builtin (R:=wants (fun r jr=>r=.none/\∃h' tk,jr={s with heap:=h',toks:=tk}/\cp P w h' s.heap.objs.size (dP vs) /\
     (∀b o,s.heap.get? b=some o->h'.get? b=some o)) E) RI.init.plain F.entry_set_init (check_set_init_1 WZ ?_)) fun VJ jr Cv=>?_
   ·have Y4:=hT {s with heap:=s.heap.push (iu w)} (fun o e=>kp l o e)
    unfold ss.«set.__init__» noKeywords ss.Frozenset.updateFrom;generalize W0:pyIter=PI
    wp_walk
    subst W0;obtain⟨ol,yc⟩:=hl;have Ue:l<s.heap.objs.size:=gc yc;refine hit _ {s with heap:=s.heap.push (iu w)} _ _ (fun o e=>kp l o e) ?_
    refine ac (wpAny_runValue ?_);have W2:A.in1.in1.in1.handled=none :=by simp[hh]
    have VL:l≠(s.heap.push (iu w)).objs.size :=by rw[sz];exact jp (zd Ue)
    have yb:s.heap.objs.size ∉ [(s.heap.push (iu w)).objs.size,l] :=by
     rw[sz];simp only[i4,xL,or_false,not_or];exact⟨jp (Fa _),Lo Ue⟩
    refine HU ((hW _ (s.heap.push (iu w)).objs.size W2 VL).toS) s.heap.objs.size yb HV hb (vs.length - 0) 0 _ (by omega) (mf _) (WY (s.heap.push (iu w)) fun o e=>kp l o e) (Bd.cG fun o e=>br _ e) ?_
    intro s' hm lq;obtain⟨h',g',d',EX,JQ⟩:=s';have eg:g'=s.gens:=hm.gens;have ed:d'=s.drawn:=hm.drawn;have eo:JQ=s.os:=hm.os;subst eg;subst ed;subst eo;show wpAny _ _ _ _ _ _;refine bn ?_;show wpAny _ _ (ret wS) _ _ _;refine bn ⟨rfl,h',EX,rfl,lq,fun b o e=>?_⟩
    have vM:b<s.heap.objs.size:=gc e;refine hm.heap b o ?_ (br _ (kp b o e));simp only[i4,xL,or_false,not_or];exact⟨jp vM,by rw[sz];exact jp (zd vM)⟩
   ·cases VJ with
    |error e=>exact Cv
    |ok Sz=>
     cases Sz with
     |ret r=>
      obtain⟨rfl,h',tk,rfl,lq,jV⟩:=Cv;repeat (any_goals (first|assumption|wp_step))
      exact h _ _ lq jV
     |_=>exact Cv.elim
  |_=>exact hr.elim
end
theorem EY:Manifest.owners.lookup (String.ofList ['r','o','t','a','r','e','t','i','_','t','e','s'].reverse)=some Manifest.sig_set_iterator :=by kernel_rfl
theorem cM:abe "set_iterator" "__next__" "set_iterator.__next__" :=
 .of (owner := "set_iterator") (n := "__next__") (by rw[typeLookup_type,builtinLookup_eq_fast];kernel_rfl) (by decide +kernel) (by decide +kernel) (by decide +kernel)
  (by first|exact .inl (by decide +kernel)|exact .inr (by decide +kernel)) (by rw[aae];kernel_rfl)
theorem ky:entryFor table "set_iterator.__next__" = some ss.«set_iterator.__next__»:=entryFor_of_tree (by kernel_rfl)
theorem kz (a:al):argsOk "set_iterator.__next__" ⟨[a],[]⟩ :=by
 unfold argsOk;rw[signature?_of (id := "set_iterator.__next__") (n:=['_','_','t','x','e','n','_','_']) (o:=['r','o','t','a','r','e','t','i','_','t','e','s']) (by kernel_rfl) EY];kernel_rfl
theorem tF:abe "set_iterator" "__iter__" "set_iterator.__iter__" :=
 .of (owner := "set_iterator") (n := "__iter__") (by rw[typeLookup_type,builtinLookup_eq_fast];kernel_rfl) (by decide +kernel) (by decide +kernel) (by decide +kernel)
  (by first|exact .inl (by decide +kernel)|exact .inr (by decide +kernel)) (by rw[aae];kernel_rfl)
theorem Cw:entryFor table "set_iterator.__iter__" = some ss.«dict_keyiterator.__iter__»:=
 entryFor_alias (id' := "dict_keyiterator.__iter__") (by kernel_rfl) (by first|rfl|decide +kernel|(unfold String.splitOn;simp +decide [String.splitOnAux])) (by decide +kernel) (by kernel_rfl)
theorem Cy (a:al):argsOk "set_iterator.__iter__" ⟨[a],[]⟩ :=by
 unfold argsOk;rw[signature?_of (id := "set_iterator.__iter__") (n:=['_','_','r','e','t','i','_','_']) (o:=['r','o','t','a','r','e','t','i','_','t','e','s']) (by kernel_rfl) EY];kernel_rfl
theorem Aj:entryFor table "set.__iter__" = some ss.«frozenset.__iter__»:=
 entryFor_alias (id' := "frozenset.__iter__") (by kernel_rfl) (by first|rfl|decide +kernel|(unfold String.splitOn;simp +decide [String.splitOnAux])) (by decide +kernel) (by kernel_rfl)
def fG (h:hX) (I a:ag) (first:al) (i n ep:Nat):Prop:=∃o,h.get? I=some o/\o.cls=.type "set_iterator" /\ o.data=.fields #[first,.int i 0,.ref a,.int n 0,.int ep 0]
theorem fG.typeIs {s:ar}{I a:ag}{first:al}{i n ep:Nat}(x:fG s.heap I a first i n ep):s.TypeIs (.ref I) "set_iterator" := let ⟨o,ho,hc,_⟩:=x;⟨o,ho,hc⟩
theorem gB {α:Type}:∀{l:List α}{i:Nat}(h:i<l.length),(l[i]::l.eraseIdx i).Perm l
 | [],i,h=>by simp at h
 |x::l,0,h=>.refl _
 |x::l,i+1,h=>by
          rw[List.eraseIdx_cons_succ,List.getElem_cons_succ];exact(SZ.swap _ _ _).trans (.cons _ (gB (by simpa using h)))
section
variable {P:ff}{w:im}{A:l5}{E:al->ar->Prop}{s:ar}
theorem wp_choose {src:Source}{n:Nat}{Q:Nat->ar->Prop}(hn:n≠0) (h:∀i d,i<n->Q i {s with drawn:=d}):wpAny (model P w) A (choose src n) Q E s:=fun Γ p _=>by
 refine⟨hn,?_⟩;exact h _ _ (abg _ (Nat.pos_of_ne_zero hn))
theorem pz {α:Type}:∀(n:Nat) (xs:List α) {s:ar}{Q:List α->ar->Prop},n=xs.length->(∀ys d,ys.Perm xs->Q ys {s with drawn:=d})->wpAny (model P w) A (drawOrder n xs) Q E s
 |0,xs,s,Q,hn,h=>by
          have:xs=[]:=Ix hn.symm;subst this;exact bn (h [] s.drawn .nil)
 |n+1,[],s,Q,hn,h=>by simp at hn
 |n+1,x::xs,s,Q,hn,h=>by
          show wpAny _ _ (choose .order (x::xs).length>>=_) _ _ s;refine ac (wp_choose (by simp) fun i d hi=>?_)
          have e:(x::xs)[i]?=some (x::xs)[i]:=ap hi;rw[e];dsimp only;refine ac (pz n _ (by rw[List.length_eraseIdx_of_lt hi];simp at hn ⊢;omega) fun ys d' hp=>bn (h _ _ ?_))
          exact(SZ.cons _ hp).trans (gB hi)
structure lr (P:ff) (w:im) (h:hX) (a:ag) (es:Array (Int×al)) (ep:Nat) (t:ul):Prop where
 at_:∃o,h.get? a=some o/\o.ExactSet/\o.data=.set es ep t
 fits:t.fits es.size=true
 tab:cC w t
theorem Be {α:Type}(next:Nat->Nat):∀(fuel k:Nat) (left:List α) (out:Array α),fuel=left.length->(pickOrder.go next fuel k left out).toList.Perm (out.toList++left)
 |0,k,left,out,h=>by
          have:left=[]:=Ix h.symm;subst this;simp[pickOrder.go]
 |fuel+1,k,left,out,h=>by
          unfold pickOrder.go;have hl:next k % left.length<left.length:=abg _ (by omega)
          rw[ap hl];dsimp only;refine(Be next fuel (k+1) _ _ (by rw[List.length_eraseIdx_of_lt hl];omega)).trans ?_
          rw[Array.toList_push,FM];exact SZ.append_left _ (gB hl)
theorem vN {α:Type}(next:Nat->Nat) (xs:Array α):(pickOrder next xs).toList.Perm xs.toList :=by
 unfold pickOrder;exact(Be next xs.size 0 xs.toList #[] (by simp)).trans (by simp)
theorem pA {Q:Bool->ar->Prop}(h:Q (w.params.followText "set-order") s):wpAny (model P w) A setsByText Q E s :=by
 unfold setsByText;exact ac (Re (bn h))
theorem tG {a:ag}{es:Array (Int×al)}{ep:Nat}{t:ul}{slot given:Nat}{Q:Option (al×Nat)->ar->Prop}(hE:lr P w s.heap a es ep t)
  (hd:w.params.followText "set-order" = false->(!t.plain && decide (es.size > 1))=false)
  (h1:w.params.followText "set-order" = true->Q ((pickOrder (w.params.setOrder a ep) es)[given]?.map fun e=>(e.2,slot)) s)
  (h2:w.params.followText "set-order" = false->Q (match es[wP t.place slot]?,t.place[wP t.place slot]? with|some (_,x),some j=>some (x,j+1)|_,_=>none) s) :
  wpAny (model P w) A (setNext a slot given ep) Q E s :=by
 obtain⟨⟨o,ho,hex,rn⟩,hf,ht⟩:=hE;unfold setNext;refine ac (US ho rn hf ?_);dsimp only;refine ac (pA ?_);cases hb:w.params.followText "set-order" with
 |true=>
  simp only[if_true,bne_self_eq_false,lw,if_false];unfold setWalk;refine ac (ac (US ho rn hf ?_));dsimp only;refine ac (pA ?_);rw[hb];simp only[if_true];refine ac (Re (bn (bn ?_)));exact h1 hb
 |false=>
  simp only[lw,if_false];have jS:=hd hb;have VM:t.led=true :=by rw[ht.led,hb];rfl
  show wpAny _ _ (if (!t.plain && decide (es.size > 1))=true then _ else _) _ _ s
  rw[jS];simp only[lw,if_false];refine ac ?_;show wpAny _ _ (if (!t.led && !es.isEmpty)=true then _ else _) _ _ s
  rw[VM];simp only[ZE,Pi,lw,if_false];exact bn (bn (h2 hb))
theorem fG.OM {h:hX}{I a:ag}{first x:al}{i n ep:Nat}(hit:fG h I a first i n ep):fG (h.update I (kw.mapFields (·.setIfInBounds 0 x))) I a x i n ep :=by
 obtain⟨o,ho,hc,hd⟩:=hit;exact⟨_,DO _ ho (ZO (NJ hd _)),(aaG ..).trans hc,by rw[NJ hd];simp⟩
theorem fG.ye {h:hX}{I a:ag}{first:al}{i n ep:Nat}(hit:fG h I a first i n ep):fG (h.update I (kw.mapFields (·.setIfInBounds 1 (rawInt ((i:Int)+1))))) I a first (i+1) n ep :=by
 obtain⟨o,ho,hc,hd⟩:=hit;exact⟨_,DO _ ho (ZO (NJ hd _)),(aaG ..).trans hc,by rw[NJ hd];simp[rawInt]⟩
theorem nu {I a:ag}{first x:al}{i n ep k:Nat}{Q:Unit->ar->Prop}(hk:k<5) (hit:fG s.heap I a first i n ep) (h:Q () {s with heap:=s.heap.update I (kw.mapFields (·.setIfInBounds k x))}):wpAny (model P w) A (setField (.ref I) k x) Q E s :=by
 obtain⟨o,ho,hc,hd⟩:=hit;exact wpAny_setField ho hd (by simpa using hk) h
theorem Bf {Q:Fin->ar->Prop}(hh:A.handled=none) (h:∀e h',s.TypeIs e "StopIteration" \/ True->(∀b o,s.heap.get? b=some o->h'.get? b=some o)->aav {s with heap:=h'} e "StopIteration" -> E e {s with heap:=h'}) :
  wpAny (model P w) A (newExc (.type "StopIteration") []>>=fun e=>raiseNew e) Q E s :=by
 refine ac ?_;simp only[newExc,newTuple];refine ac (xb ?_ (by size_fits))
 refine ac (m:=firstArgMember _ _) (aaj (a:=wS) (by first|rfl|(simp only[firstArgMember];rfl)) ?_)
 refine xb ?_ (by size_fits)
 simp only[raiseNew];refine ac (wpAny_handled ?_);rw[hh];refine ac (bn (wpAny_throw ?_));exact h _ _ (.inr trivial) (fun b o e=>br _ (br _ e)) ⟨_,db _ rfl,rfl⟩
theorem yf {Q:Option al->ar->Prop}{e:al}(hT:s.TypeIs e "StopIteration") (h:Q none s):wpAny (model P w) A (do let b <- isInstance e (.type "StopIteration");if b=true then pure none else throw e) Q E s:=
 ac (XV (T := "StopIteration") (b:=true) hT aaf (bn h))
theorem Lq {I a:ag}{slot i ep next:Nat}{es:Array (Int×al)}{t:ul}{x:al}{Q:Option al->ar->Prop}(hit:fG s.heap I a (.int slot 0) i es.size ep) (hE:lr P w s.heap a es ep t)
  (hd:w.params.followText "set-order" = false->(!t.plain && decide (es.size > 1))=false)
  (h1:w.params.followText "set-order" = true->(pickOrder (w.params.setOrder a ep) es)[i]?.map (fun e=>(e.2,slot))=some (x,next))
  (h2:w.params.followText "set-order" = false->(match es[wP t.place slot]?,t.place[wP t.place slot]? with|some (_,x),some j=>some (x,j+1)|_,_=>none)=some (x,next))
  (hQ:∀h',fG h' I a (.int next 0) (i+1) es.size ep->v6 I s.heap h'->Q (some x) {s with heap:=h'}):wpAny (model P w) A (pyNext (.ref I)) Q E s :=by
 obtain⟨o,ho,hc,jS⟩:=id hit;obtain⟨oa,vO,HX,vP⟩:=hE.at_;unfold pyNext;refine ac (LG (wv (name:=wp "__next__") hit.typeIs cM (wb cM hit.typeIs ky ?_ (kz _))))
 unfold ss.«set_iterator.__next__»;refine ac (m:=slotArgs "__next__" 0 _) (bn ?_)
 dsimp only;refine ac (Wp ho jS ?_);dsimp only;refine ac (SC vO vP hE.fits ?_);simp only[bne_self_eq_false,lw,if_false,wE];have fin:∀r,r=some (x,next)->wpAny (model P w) A.in1 (match r with
    |some (x,next)=>do
     setField (l6 I) 0 (rawInt next)
     setField (l6 I) 1 (rawInt (↑i+1))
     ret x
    |none=>do
     setField (l6 I) 2 wS
     let __do_lift <- newExc (LB "StopIteration") []
     raiseNew __do_lift) (fun fin s'=>∃v,fin=Fin.done (Flow.ret v)/\wpAny (model P w) A (pure (some v)) Q E s') (fun e s'=>wpAny (model P w) A (do
     let __do_lift <- isInstance e (LB "StopIteration")
     if __do_lift=true then pure none else throw e) Q E s') s:=fun r hr=>by
  subst hr;dsimp only;refine ac (nu (by decide) hit ?_)
  have OO:=hit.OM (x:=rawInt next);refine ac (nu (by decide) OO ?_)
  exact bn ⟨x,rfl,bn (hQ _ OO.ye ((Cc ..).trans (Cc ..)))⟩
 exact ac (tG hE hd (fun hb=>fin _ (h1 hb)) (fun hb=>fin _ (h2 hb)))
theorem Lr {I a:ag}{slot i ep:Nat}{es:Array (Int×al)}{t:ul}{Q:Option al->ar->Prop}(hh:A.handled=none) (hit:fG s.heap I a (.int slot 0) i es.size ep) (hE:lr P w s.heap a es ep t)
  (hd:w.params.followText "set-order" = false->(!t.plain && decide (es.size > 1))=false)
  (h1:w.params.followText "set-order" = true->(pickOrder (w.params.setOrder a ep) es)[i]?.map (fun e=>(e.2,slot))=none)
  (h2:w.params.followText "set-order" = false->(match es[wP t.place slot]?,t.place[wP t.place slot]? with|some (_,x),some j=>some (x,j+1)|_,_=>none)=none)
  (hQ:∀h',(∀b o,b≠I->s.heap.get? b=some o->h'.get? b=some o)->Q none {s with heap:=h'}):wpAny (model P w) A (pyNext (.ref I)) Q E s :=by
 obtain⟨o,ho,hc,jS⟩:=id hit;obtain⟨oa,vO,HX,vP⟩:=hE.at_;unfold pyNext;refine ac (LG (wv (name:=wp "__next__") hit.typeIs cM (wb cM hit.typeIs ky ?_ (kz _))))
 unfold ss.«set_iterator.__next__»;refine ac (m:=slotArgs "__next__" 0 _) (bn ?_)
 dsimp only;refine ac (Wp ho jS ?_);dsimp only;refine ac (SC vO vP hE.fits ?_);simp only[bne_self_eq_false,lw,if_false,wE];have fin:∀r:Option (al×Nat),r=none->wpAny (model P w) A.in1 (match r with
    |some (x,next)=>do
     setField (l6 I) 0 (rawInt next)
     setField (l6 I) 1 (rawInt (↑i+1))
     ret x
    |none=>do
     setField (l6 I) 2 wS
     let __do_lift <- newExc (LB "StopIteration") []
     raiseNew __do_lift) (fun fin s'=>∃v,fin=Fin.done (Flow.ret v)/\wpAny (model P w) A (pure (some v)) Q E s') (fun e s'=>wpAny (model P w) A (do
     let __do_lift <- isInstance e (LB "StopIteration")
     if __do_lift=true then pure none else throw e) Q E s') s:=fun r hr=>by
  subst hr;dsimp only;refine ac (nu (by decide) hit ?_)
  exact Bf hh fun e h' _ k hT=>yf hT (hQ h' fun b o hb q=>k b o ((Cs _ _ (ze hb)).trans q))
 exact ac (tG hE hd (fun hb=>fin _ (h1 hb)) (fun hb=>fin _ (h2 hb)))
theorem Ls {I a T:ag}{i ep j:Nat}{es:Array (Int×al)}{t:ul}{ps:List Nat}{x:Int×al}{Q:Option al->ar->Prop}(hit:fG s.heap I a (.ref T) i es.size ep) (hE:lr P w s.heap a es ep t)
  (hT:s.heap.IsTuple T (ps.map fun (i:Nat)=>rawInt i).toArray) (hj:ps[i]?=some j) (hx:es[j]?=some x)
  (hQ:∀h',fG h' I a (.ref T) (i+1) es.size ep->v6 I s.heap h'->Q (some x.2) {s with heap:=h'}):wpAny (model P w) A (pyNext (.ref I)) Q E s :=by
 obtain⟨o,ho,hc,jS⟩:=id hit;obtain⟨oa,vO,HX,vP⟩:=hE.at_;unfold pyNext;refine ac (LG (wv (name:=wp "__next__") hit.typeIs cM (wb cM hit.typeIs ky ?_ (kz _))))
 unfold ss.«set_iterator.__next__»;refine ac (m:=slotArgs "__next__" 0 _) (bn ?_)
 dsimp only;refine ac (Wp ho jS ?_);dsimp only;refine ac (SC vO vP hE.fits ?_);simp only[bne_self_eq_false,lw,if_false,wE];obtain⟨ot,OQ,_,nt,rn⟩:=hT;refine ac (IS OQ rn ?_);have e:(ps.map fun (i:Nat)=>rawInt i).toArray[i]?=some (rawInt j) :=by simp[hj]
 dsimp only;rw[e];show wpAny _ _ (setNextDrawn a (Int.toNat (j:Int)) ep>>=_) _ _ s;rw[wE];refine ac ?_;unfold setNextDrawn;refine ac (US vO vP hE.fits ?_);simp only[bne_self_eq_false,lw,if_false,hx];refine bn ?_;refine ac (nu (by decide) hit ?_)
 exact bn ⟨x.2,rfl,bn (hQ _ hit.ye (Cc ..))⟩
theorem Lv {I a T:ag}{i ep:Nat}{es:Array (Int×al)}{t:ul}{ps:List Nat}{Q:Option al->ar->Prop}(hh:A.handled=none) (hit:fG s.heap I a (.ref T) i es.size ep) (hE:lr P w s.heap a es ep t)
  (hT:s.heap.IsTuple T (ps.map fun (i:Nat)=>rawInt i).toArray) (hj:ps.length<=i)
  (hQ:∀h',(∀b o,b≠I->s.heap.get? b=some o->h'.get? b=some o)->Q none {s with heap:=h'}):wpAny (model P w) A (pyNext (.ref I)) Q E s :=by
 obtain⟨o,ho,hc,jS⟩:=id hit;obtain⟨oa,vO,HX,vP⟩:=hE.at_;unfold pyNext;refine ac (LG (wv (name:=wp "__next__") hit.typeIs cM (wb cM hit.typeIs ky ?_ (kz _))))
 unfold ss.«set_iterator.__next__»;refine ac (m:=slotArgs "__next__" 0 _) (bn ?_)
 dsimp only;refine ac (Wp ho jS ?_);dsimp only;refine ac (SC vO vP hE.fits ?_);simp only[bne_self_eq_false,lw,if_false,wE];obtain⟨ot,OQ,_,nt,rn⟩:=hT;refine ac (IS OQ rn ?_);have e:(ps.map fun (i:Nat)=>rawInt i).toArray[i]?=none :=by simp[hj]
 dsimp only;rw[e];dsimp only;refine ac (nu (by decide) hit ?_)
 refine ac (nu (by decide) (hit.OM (x:=rawInt 0)) ?_)
 exact Bf hh fun e h' _ k hT=>yf hT (hQ h' fun b o hb q=>k b o ((Cs _ _ (ze hb)).trans ((Cs _ _ (ze hb)).trans q)))
end
theorem fG.cG {h h':hX}{I a:ag}{first:al}{i n ep:Nat}(x:fG h I a first i n ep) (k:∀o,h.get? I=some o->h'.get? I=some o):fG h' I a first i n ep:=let ⟨o,ho,r⟩:=x;⟨o,k o ho,r⟩
theorem lr.cG {P:ff}{w:im}{h h':hX}{a:ag}{es:Array (Int×al)}{ep:Nat}{t:ul}(x:lr P w h a es ep t) (k:∀o,h.get? a=some o->h'.get? a=some o):lr P w h' a es ep t:=
 ⟨let ⟨o,ho,r⟩:=x.at_;⟨o,k o ho,r⟩,x.fits,x.tab⟩
theorem Cz {xs:Array Nat}(h:nq xs) {i:Nat}(hi:i<xs.size):wP xs (xs[i]+1)=i+1 :=by
 obtain⟨b0,b1,b2⟩:=rQ (xs[i]+1) h;generalize wP xs (xs[i]+1)=p at *
 have h1:i<p :=by
  refine Nat.lt_of_not_le fun hp=>?_
  have:=b2 i hi hp;omega
 refine Nat.le_antisymm (ZG fun hp=>?_) h1
 have Ug:i+1<xs.size :=by omega
 have q:=b1 (i+1) Ug hp;have q2:=tq h (show i<i+1 by omega) Ug
 omega
theorem CA {xs:Array Nat}(h:nq xs):wP xs 0=0 :=by
 obtain⟨b0,b1,b2⟩:=rQ 0 h;generalize wP xs 0=p at *
 by_cases hp:p=0
 ·exact hp
 ·have:=b1 0 (by omega) (by omega)
  omega
section
variable {P:ff}{w:im}{A:l5}{E:al->ar->Prop}{s:ar}
theorem si_self {I a:ag}{first:al}{i n ep:Nat}{Q:al->ar->Prop}(hit:fG s.heap I a first i n ep) (h:Q (.ref I) s):wpAny (model P w) A (pyIter (.ref I)) Q E s :=by
 refine aaH hit.typeIs tF (wb tF hit.typeIs Cw ?_ (Cy _));show wpAny _ _ (ret (.ref I)) _ _ s;exact bn ⟨_,rfl,"set_iterator",_,hit.typeIs,cM.lookup,h⟩
theorem yg {es:List (Int×al)}(h:aad (intKind P w) es) {e:Int×al}(he:e∈es):∃t,e.2=.int (eL e) t :=by
 obtain⟨⟨k',jV,_⟩,_⟩:=h e he;obtain⟨t,e2⟩:=Zt (k:=k') (v:=e.2) jV;exact⟨t,by unfold eL;rw[e2]⟩
abbrev EZ (xs:List Int):Nat->al->Prop:=fun i v=>∃m t,xs[i]?=some m/\v=.int m t
def gC (w:im) (a:ag) (ep:Nat) (es:Array (Int×al)):List (Int×al):=if w.params.followText "set-order" = true then (pickOrder (w.params.setOrder a ep) es).toList else es.toList
theorem kD (w:im) (a:ag) (ep:Nat) (es:Array (Int×al)):(gC w a ep es).Perm es.toList :=by
 unfold gC;split
 ·exact vN _ _
 ·exact .refl _
theorem HY {I a:ag}{es:Array (Int×al)}{ep:Nat}{t:ul}(hh:A.handled=none) (dZ:a≠I) (mF:aad (intKind P w) es.toList) (hd:w.params.followText "set-order" = false->(!t.plain && decide (es.size > 1))=false) :
  WalksS P w A I [I,a] [I] (fun a b=>b=a) ((gC w a ep es).map eL).length (EZ ((gC w a ep es).map eL))
   (fun i s=>lr P w s.heap a es ep t/\∃slot:Nat,fG s.heap I a (.int slot 0) i es.size ep/\(w.params.followText "set-order" = false->wP t.place slot=i)) where
 sub:=fun b hb=>by simp at hb;simp[hb]
 grefl:=fun _=>rfl
 gtrans:=fun _ _ _ h1 h2=>h2.trans h1
 frame:=fun i s h' _ st _ hk=>⟨st.1.cG fun o e=>hk a (by simp) o e,let ⟨slot,h1,h2⟩:=st.2;⟨slot,h1.cG fun o e=>hk I (by simp) o e,h2⟩⟩
 item:=fun i s Q E hi st hQ=>by
  obtain⟨hE,slot,hit,hb⟩:=st;have hl:i<(gC w a ep es).length :=by simpa using hi
  have oI:i<es.size :=by rw[<- wn,<- (kD w a ep es).length_eq];exact hl
  obtain⟨tk,he⟩:=yg (P:=P) (w:=w) mF ((kD w a ep es).mem_iff.mp (tz hl));have cL:i<t.place.size :=by
   have:=hE.fits;simp only[ul.fits,B0,beq_iff_eq]at this;rw[this.1];exact oI
  refine Lq (next:=if w.params.followText "set-order" = true then slot else t.place[i]+1) (x:=((gC w a ep es)[i]).2) hit hE hd (fun fq=>?_) (fun fq=>?_) (fun h' HZ hs=>hQ _ _ ⟨_,tk,by rw[ce,ap hl];rfl,he⟩ ⟨hE.cG fun o e=>by rw[hs.2 a dZ];exact e,_,HZ,fun fq=>?_⟩ ⟨fun b o hb e=>by rw[hs.2 b (fun z=>hb (by simp[z]))];exact e,rfl,rfl,rfl,cb _⟩)
  ·rw[if_pos fq];have e1:gC w a ep es=(pickOrder (w.params.setOrder a ep) es).toList :=by unfold gC;rw[if_pos fq]
   have e2:(pickOrder (w.params.setOrder a ep) es)[i]?=some (gC w a ep es)[i] :=by
    rw[<- OE,<- e1];exact ap hl
   rw[e2];rfl
  ·rw[if_neg (by rw[fq];decide),hb fq,GM oI,GM cL]
   have e1:gC w a ep es=es.toList :=by unfold gC;rw[if_neg (by rw[fq];decide)]
   have e2:(gC w a ep es)[i]=es[i] :=by simp[e1]
   rw[e2]
  ·rw[if_neg (by rw[fq];decide)]
   exact Cz hE.tab.ris cL
 done:=fun s Q E st hQ=>by
  obtain⟨hE,slot,hit,hb⟩:=st;have hl:((gC w a ep es).map eL).length=es.size :=by rw[bv,(kD w a ep es).length_eq,wn]
  rw[hl]at hit hb;refine Lr hh hit hE hd (fun fq=>?_) (fun fq=>?_) (fun h' k=>hQ _ ⟨fun b o hb e=>k b o (fun z=>hb (by simp[z])) e,rfl,rfl,rfl,cb _⟩)
  ·have e1:(pickOrder (w.params.setOrder a ep) es)[es.size]?=none :=by
    refine ZC ?_;rw[<- wn,(vN _ es).length_eq,wn];exact cb _
   rw[e1];rfl
  ·rw[hb fq,ZC (cb _)]
 self:=fun i s Q E st hQ=>let ⟨_,slot,hit,_⟩:=st;si_self hit hQ
theorem CB {I a T:ag}{es:Array (Int×al)}{ep:Nat}{t:ul}{ps:List Nat}(hh:A.handled=none) (dZ:a≠I) (VN:T≠I) (mF:aad (intKind P w) es.toList) (E1:∀j∈ps,j<es.size) (cL:ps.length=es.size) :
  WalksS P w A I [I,a,T] [I] (fun a b=>b=a) (ps.map fun j=>eL (es.getD j (0,.none))).length (EZ (ps.map fun j=>eL (es.getD j (0,.none))))
   (fun i s=>lr P w s.heap a es ep t/\s.heap.IsTuple T (ps.map fun (i:Nat)=>rawInt i).toArray/\fG s.heap I a (.ref T) i es.size ep) where
 sub:=fun b hb=>by simp at hb;simp[hb]
 grefl:=fun _=>rfl
 gtrans:=fun _ _ _ h1 h2=>h2.trans h1
 frame:=fun i s h' _ st _ hk=>⟨st.1.cG fun o e=>hk a (by simp) o e,st.2.1.at fun o e=>hk T (by simp) o e,st.2.2.cG fun o e=>hk I (by simp) o e⟩
 item:=fun i s Q E hi st hQ=>by
  obtain⟨hE,hT,hit⟩:=st;have hl:i<ps.length :=by simpa using hi
  have hj:=E1 _ (tz hl);have hx:es[ps[i]]?=some es[ps[i]]:=GM hj;have hg:es.getD ps[i] (0,.none)=es[ps[i]] :=by simp[ZZ,hj]
  obtain⟨tk,he⟩:=yg (P:=P) (w:=w) mF (show es[ps[i]]∈es.toList by simp)
  refine Ls hit hE hT (ap hl) hx fun h' HZ hs=>hQ _ _ ⟨_,tk,by rw[ce,ap hl];rfl,by dsimp only;rw[hg];exact he⟩ ⟨hE.cG fun o e=>by rw[hs.2 a dZ];exact e,hT.at fun o e=>by rw[hs.2 T VN];exact e,HZ⟩ ⟨fun b o hb e=>by rw[hs.2 b (fun z=>hb (by simp[z]))];exact e,rfl,rfl,rfl,cb _⟩
 done:=fun s Q E st hQ=>by
  obtain⟨hE,hT,hit⟩:=st;have hl:(ps.map fun j=>eL (es.getD j (0,.none))).length=ps.length:=bv _
  rw[hl]at hit;exact Lv hh hit hE hT (cb _) fun h' k=>hQ _ ⟨fun b o hb e=>k b o (fun z=>hb (by simp[z])) e,rfl,rfl,rfl,cb _⟩
 self:=fun i s Q E st hQ=>si_self st.2.2 hQ
theorem CC {a:ag}{ns:List Int}{Q:al->ar->Prop}(hS:cp P w s.heap a ns)
  (hQ:∀(I:ag) (h':hX) (d':Drawn) (xs:List Int) (fp:List ag) (St:Nat->ar->Prop),xs.Perm ns->(∀b o,s.heap.get? b=some o->h'.get? b=some o)->s.heap.objs.size<=I->(∀b∈fp,b=a\/s.heap.objs.size<=b)->
   (∀A':l5,A'.handled=none->WalksS P w A' I fp [I] (fun a b=>b=a) xs.length (EZ xs) St)->St 0 {s with heap:=h',drawn:=d'}->Q (.ref I) {s with heap:=h',drawn:=d'}):wpAny (model P w) A (pyIter (.ref a)) Q E s :=by
 have Uh:=hS.typeIs (h:=s.heap);obtain⟨o,es,ep,t,ho,hex,hd,mF,hp,hn,hb,hf,ht⟩:=hS;have hE:lr P w s.heap a es ep t:=⟨⟨o,ho,hex,hd⟩,hf,ht⟩;have aN:=gc ho;refine aaH Uh F.slot_set_iter (wb F.slot_set_iter Uh Aj ?_ (F.args_set_iter_1 _));unfold ss.«frozenset.__iter__»;refine ac (m:=ss.Frozenset.slot0 "__iter__" _) (bn ?_)
 unfold ss.Frozenset.sizeOf;refine ac (ac (SC ho hd hf (bn ?_)));refine ac ?_;unfold setDrawn;refine ac (US ho hd hf ?_);dsimp only;refine ac (pA ?_);refine bn ?_;by_cases vQ:(!w.params.followText "set-order" && (!t.plain && decide (es.size > 1)))=true
 ·show wpAny _ _ (if (!w.params.followText "set-order" && (!t.plain && decide (es.size > 1)))=true then _ else _) _ _ s
  rw[if_pos vQ];refine ac (pz _ _ (by simp) fun ps d E1=>?_)
  have cL:ps.length=es.size :=by rw[E1.length_eq,Me]
  refine ac (aag ?_ (by rw[bv,cL];exact aaE hb))
  refine ac (wpAny_setEpoch_of (o:=o) (br _ ho) hd hf ?_);unfold newFields;refine ac (xb ?_ (by size_fits))
  have hsz:∀u:kw,(s.heap.push u).objs.size=s.heap.objs.size+1:=fun u=>xw _ _
  have hit:fG ((s.heap.push {cls:=.type "tuple",data:=.seq (ps.map fun (i:Nat)=>rawInt i).toArray}).push {cls:=.type "set_iterator",data:=.fields #[.ref s.heap.objs.size,.int (0:Nat) 0,.ref a,.int es.size 0,.int ep 0]}) (s.heap.push {cls:=.type "tuple",data:=.seq (ps.map fun (i:Nat)=>rawInt i).toArray}).objs.size a (.ref s.heap.objs.size) 0 es.size ep:=⟨_,db _ rfl,rfl,rfl⟩
  have W3:(ps.map fun j=>eL (es.getD j (0,.none))).Perm ns :=by
   refine((E1.map _).trans ?_).trans hp;have:(ii es.size).map (fun j=>eL (es.getD j (0,.none)))=es.toList.map eL :=by
    refine aaU (by simp) fun n h1 h2=>?_
    have D5:n<es.size :=by simpa using h1
    simp[ZZ,D5]
   rw[this]
  refine bn ⟨_,rfl,"set_iterator",_,fG.typeIs (s:={s with heap:=_,drawn:=d}) hit,cM.lookup,?_⟩
  refine hQ _ _ d _ [(s.heap.push {cls:=.type "tuple",data:=.seq (ps.map fun (i:Nat)=>rawInt i).toArray}).objs.size,a,s.heap.objs.size] _ W3 (fun b o e=>br _ (br _ e)) (by rw[hsz];exact ES _) (fun b hb=>?_) (fun A' hA=>CB (t:=t) (ep:=ep) hA ?_ ?_ mF (fun j hj=>by simpa using E1.mem_iff.mp hj) cL) ⟨hE.cG fun o e=>br _ (br _ e),⟨_,br _ (db _ rfl),rfl,_,rfl⟩,hit⟩
  ·simp only[i4,xL,or_false]at hb;rcases hb with rfl|rfl|rfl
   ·exact .inr (by rw[hsz];exact ES _)
   ·exact .inl rfl
   ·exact .inr (cb _)
  ·rw[hsz];exact jp (zd aN)
  ·rw[hsz];exact jp (Fa _)
 ·show wpAny _ _ (if (!w.params.followText "set-order" && (!t.plain && decide (es.size > 1)))=true then _ else _) _ _ s
  rw[if_neg vQ];refine ac (bn (ac (wpAny_setEpoch_of ho hd hf ?_)));unfold newFields;refine ac (xb ?_ (by size_fits))
  have hit:fG (s.heap.push {cls:=.type "set_iterator",data:=.fields #[.int (0:Nat) 0,.int (0:Nat) 0,.ref a,.int es.size 0,.int ep 0]}) s.heap.objs.size a (.int (0:Nat) 0) 0 es.size ep:=⟨_,db _ rfl,rfl,rfl⟩
  refine bn ⟨_,rfl,"set_iterator",_,fG.typeIs (s:={s with heap:=_}) hit,cM.lookup,?_⟩
  refine hQ _ _ s.drawn _ [s.heap.objs.size,a] _ (((kD w a ep es).map eL).trans hp) (fun b o e=>br _ e) (cb _) (fun b hb=>?_) (fun A' hA=>HY (t:=t) (ep:=ep) hA (jp aN) mF fun hb=>?_) ⟨hE.cG fun o e=>br _ e,0,hit,fun _=>CA ht.ris⟩
  ·simp only[i4,xL,or_false]at hb;rcases hb with rfl|rfl
   ·exact .inr (cb _)
   ·exact .inl rfl
  ·rw[hb]at vQ;simpa using vQ
theorem Ak {a:ag}{Q:Bool->ar->Prop}(hT:s.TypeIs (.ref a) "set") (h:Q false s):wpAny (model P w) A (ss.List.listLengthHint (.ref a)) Q E s :=by
 unfold ss.List.listLengthHint;refine ac (wpAny_specialOf hT F.slot_set_len.lookup ?_);have e:splitId "set.__len__" = some ("set","__len__") :=by kernel_rfl
 dsimp only;rw[e];dsimp only;refine ac (XV hT sub_set_self ?_);simp only[ZE,lw,if_false];show wpAny _ _ (if _=true then _ else _) _ _ s
 rw[if_pos (by kernel_rfl)]
 exact ac (wpAny_typeOf hT (bn h))
theorem ints_of {xs:List Int}{acc:Array al}(h:ItemsOf (EZ xs) acc xs.length):OF acc.toList xs :=by
 obtain⟨hs,hi⟩:=h;have:∀(vs:List al) (xs:List Int),vs.length=xs.length->(∀(j:Nat) (v:al),vs[j]?=some v->EZ xs j v)->OF vs xs :=by
  intro vs;induction vs with
  |nil=>intro xs hl _;cases xs with|nil=>exact .nil|cons x xs=>simp at hl
  |cons v vs ih=>
   intro xs hl hg;cases xs with
   |nil=>simp at hl
   |cons x xs=>
    obtain⟨m,t,e1,rfl⟩:=hg 0 v rfl;have e2:x=m :=by simpa using e1
    subst e2;refine .cons _ _ (ih xs (by simpa using hl) fun j u hu=>?_)
    obtain⟨m',t',e3,e4⟩:=hg (j+1) u (by simpa using hu)
    exact⟨m',t',by simpa using e3,e4⟩
 exact this acc.toList xs (by simpa using hs) fun j v hv=>hi j v (by rw[<- OE];exact hv)
theorem Al {a:ag}{ns:List Int}{QL:List al->ar->Prop}(hh:A.handled=none) (hS:cp P w s.heap a ns) (hz:ns.length<=sizeLine)
  (hQ:∀us xs h' d' tk,OF us xs->xs.Perm ns->(∀b o,s.heap.get? b=some o->h'.get? b=some o)->QL us {s with heap:=h',drawn:=d',toks:=tk}):wpAny (model P w) A (collect (.ref a)) QL E s :=by
 have aN:a<s.heap.objs.size:=let ⟨_,_,_,_,ho,_⟩:=hS;gc ho;have Ui:s.heap.objs.size≠a:=Lo aN;unfold collect;refine ac (wpAny_runValue (KB F.entry_proto_collect ?_));rw[Fk F.plain_proto_collect _];show wpAny _ A.in1 (newList []>>=fun l=>again (.builtin "list.__iadd__" ⟨[l,.ref a],[]⟩)) _ _ s
 refine ac (xb ?_);refine bn ⟨Mn Zw _,KB F.entry_list_iadd ?_⟩;rw[Fk Zw _];have EV:cp P w (s.heap.push {cls:=.type "list",data:=.seq ([]:List al).toArray}) a ns:=hS.cG fun o e=>br _ e
 have T1:aav {s with heap:=s.heap.push {cls:=.type "list",data:=.seq ([]:List al).toArray}} (.ref a) "set" := cp.typeIs (P:=P) (w:=w) (h:=s.heap) (s:={s with heap:=_}) EV
 show wpAny _ A.in1 (NL (.ref s.heap.objs.size) (.ref a) (.ref s.heap.objs.size)) _ _ _;unfold NL;refine ac (wpAny_typeOf T1 ?_);have h1:ss.List.listSameRef (.ref s.heap.objs.size) (.ref a)=false :=by simp[ss.List.listSameRef,Ui]
 have h2:(LB "set" == LB "list")=false :=by decide
 have h3:(LB "set" == LB "tuple")=false :=by decide
 simp only[h1,h2,h3,Bool.or_false,lw,if_false];refine ac (CC (s:={s with heap:=s.heap.push {cls:=.type "list",data:=.seq ([]:List al).toArray}}) EV ?_)
 intro I h' d' xs fp St hp hk hI W4 hW q9;have T2:aav {s with heap:=h',drawn:=d'} (.ref a) "set" := cp.typeIs (P:=P) (w:=w) (h:=s.heap) (s:={s with heap:=_,drawn:=d'}) (EV.cG fun o e=>hk a o e)
 refine ac (AC (Ak T2 ?_));show wpAny _ A.in1 (if _=true then _ else _) _ _ _
 rw[if_pos (by kernel_rfl)]
 show wpAny _ A.in1 (rule "list.extend.makes-room" >>= fun _=>ss.List.listTouch (.ref s.heap.objs.size)>>=fun _=>
  again (.builtin "list.extend.loop" ⟨[.ref s.heap.objs.size,.ref I,.ref s.heap.objs.size],[]⟩)) _ _ _
 refine ac (GG ?_);have JX:h'.get? s.heap.objs.size=some {cls:=.type "list",data:=.seq ([]:List al).toArray}:=hk _ _ (db _ rfl)
 refine ac ?_;show wpAny _ A.in1 (updateSeq s.heap.objs.size (·.push .none)>>=fun _=>updateSeq s.heap.objs.size (·.pop)) _ _ _
 refine ac (wpAny_updateSeq JX rfl ?_);have JY:=DO (IR (·.push wS)) JX rfl;refine wpAny_updateSeq JY rfl ?_;have SA:=DO (IR (·.pop)) JY rfl;have Uj:∀b o,b≠s.heap.objs.size->h'.get? b=some o->((h'.update s.heap.objs.size (IR (·.push wS))).update s.heap.objs.size (IR (·.pop))).get? b=some o:=
  fun b o hb e=>(Cs _ _ (ze hb)).trans ((Cs _ _ (ze hb)).trans e)
 have OS:(s.heap.push {cls:=.type "list",data:=.seq ([]:List al).toArray}).objs.size=s.heap.objs.size+1:=xw _ _
 have yb:s.heap.objs.size ∉ fp:=fun hm=>by
  rcases W4 _ hm with z|z
  ·exact Ui z
  ·have z':s.heap.objs.size+1<=s.heap.objs.size :=by rw[<- OS];exact z
   exact absurd z' (Nat.not_succ_le_self _)
 have W:=hW A.in1.in1 (by simp[hh])
 have hl:xs.length<=sizeLine :=by rw[hp.length_eq];exact hz
 refine bn ⟨Mn F.plain_extend_loop _,codeAny_extend_loopS (W.of_in1) hl _ yb _ xs.length 0 _ _ _ rfl (mf _) (W.frame 0 ({s with heap:=h',drawn:=d'}:ar) _ s.toks q9 (cb _) fun b hb o e=>Uj b o (fun h=>yb (h▸hb)) e) SA (ItemsOf.nil _) fun s' gV c' hm lq OT=>?_⟩
 show wpAny _ A (load s.heap.objs.size>>=_) _ _ s';refine ac (wpAny_load lq ?_);refine bn ?_;obtain⟨h2,g2,d2,W5,os2⟩:=s';have eg:g2=s.gens:=hm.gens;have ed:d2=d':=hm.drawn;have eo:os2=s.os:=hm.os;subst eg;subst ed;subst eo;refine hQ _ xs h2 _ W5 (ints_of OT) hp fun b o e=>hm.heap b o ?_ (Uj b o (jp (gc e)) (hk b o (br _ e)))
 have hb:b<s.heap.objs.size:=gc e;simp only[i4,xL,or_false,not_or];refine⟨jp hb,fun z=>?_⟩
 have z':s.heap.objs.size+1<=b :=by rw[<- OS,z];exact hI
 exact absurd (l3 (zd hb) z') (FF _)
end
def sortI (ns:List Int):List Int:=ns.mergeSort fun a b=>decide (a<=b)
theorem sortI_perm (ns:List Int):(sortI ns).Perm ns:=List.mergeSort_perm _ _
theorem yh (ns:List Int):(sortI ns).Pairwise (·<=·) :=by
 have:=List.pairwise_mergeSort (le:=fun a b:Int=>decide (a<=b)) (fun a b c h1 h2=>by simp only[decide_eq_true_eq]at *;omega) (fun a b=>by simp only[Bool.or_eq_true,decide_eq_true_eq];omega) ns
 exact this.imp fun h=>by simpa using h
theorem Am {a b:List Int}(p:a.Perm b) (ha:a.Pairwise (·<=·)) (hb:b.Pairwise (·<=·)):a=b:=SZ.eq_of_pairwise (le:=(·<=·)) (fun x y _ _ h1 h2=>Int.le_antisymm h1 h2) ha hb p
theorem Ia {ms ns:List Int}(p:ms.Perm ns) (h:ms.Pairwise (·<=·)):ms=sortI ns:=Am (p.trans (sortI_perm ns).symm) h (yh ns)
theorem wY:∀{ns:List Int}{us:List al},Vals (ns.map V.int) us->OF us ns
 | [],_,.nil=>.nil
 |n::ns,_,.cons r t=>by
          obtain⟨k,rfl⟩:=r;exact .cons _ _ (wY t)
theorem pB:∀{ns:List Int}{us:List al},OF us ns->Vals (ns.map V.int) us
 |_,_,.nil=>.nil
 |_,_,.cons n t r=>.cons ⟨t,rfl⟩ (pB r)
section
variable {P:ff}{w:im}{A:l5}{E:al->ar->Prop}{s:ar}
theorem jK {T:String}{l:ag}{vs:List al}{Q:List al->ar->Prop}{o:kw}{n:Nat}(ho:s.heap.get? l=some o) (hc:o.cls=.type T) (hd:o.data=.seq vs.toArray n) (hT:T = "list" \/ T = "tuple")
  (h:∀h',(∀b o,s.heap.get? b=some o->h'.get? b=some o)->Q vs {s with heap:=h'}) (hsz:vs.length<=sizeLine):wpAny (model P w) A (collect (.ref l)) Q E s :=by
 unfold collect;refine ac (wpAny_runValue (KB F.entry_proto_collect ?_));rw[Fk F.plain_proto_collect _];show wpAny _ A.in1 (newList []>>=fun l'=>again (.builtin "list.__iadd__" ⟨[l',.ref l],[]⟩)) _ _ s
 refine ac (aaw (bn ⟨Mn Zw _,KB F.entry_list_iadd ?_⟩));rw[Fk Zw _];show wpAny _ A.in1 (NL (.ref s.heap.objs.size) (.ref l) (.ref s.heap.objs.size)) _ _ {s with heap:=s.heap.push (seqObj "list" #[] 0)}
 unfold NL;have fV:(s.heap.push (seqObj "list" #[] 0)).get? l=some o:=br _ ho
 refine ac (wpAny_typeOf (T:=T) ⟨o,fV,hc⟩ ?_);rw[if_pos (by rcases hT with rfl|rfl<;>simp)]
 refine ac (listItems_at fV hd ?_);refine ac (listItems_at (xs:=#[]) (n:=0) (db _ rfl) rfl ?_);rw[if_neg (by simp)]
 refine ac (aax (xs:=#[]) (n:=0) (db _ rfl) rfl ?_ (mf _) (by show (#[]++vs.toArray).size<=sizeLine+1;simp only[Array.size_append,dL,Tk];omega))
 refine bn ?_;show wpAny (model P w) A (load s.heap.objs.size>>=_) Q E _;refine ac (wpAny_load (get?_update_seq (db _ rfl) _) ?_);show wpAny _ _ (pure ((#[]:Array al)++vs.toArray).toList) Q E _;rw[show ((#[]:Array al)++vs.toArray).toList=vs by simp]
 exact bn (h _ fun b o e=>(Cs _ _ (Lo (gc e))).trans (br _ e))
theorem CD {a:al}{ns:List Int}{Q:al->ar->Prop}(Ib:∀QL:List al->ar->Prop,(∀us xs h' d' tk,OF us xs->xs.Perm ns->(∀b o,s.heap.get? b=some o->h'.get? b=some o)->QL us {s with heap:=h',drawn:=d',toks:=tk})->wpAny (model P w) A.in1 (collect a) QL E s) (tH:ns.length<64)
  (h:∀(h1 h':hX) d' tk (us:List al) e,OF us (sortI ns)->(∀b o,s.heap.get? b=some o->h1.get? b=some o)->(∀b o,h1.get? b=some o->h'.get? b=some o)->h'.get? h1.objs.size=some {cls:=.type "list",data:=.seq us.toArray e}->Q (.ref h1.objs.size) {s with heap:=h',drawn:=d',toks:=tk}) :
  wpAny (model P w) A (call (.builtin "sorted") [a]) Q E s :=by
 refine Calls.call_function_entry kind_sorted plain_sorted entry_sorted (args_sorted1 _) ?_;unfold ss.«sorted»;refine ac (m:=checkCount "sorted" 1 1 _) (bn ?_)
 refine ac (Ib _ fun us xs h' d' tk hI hp hk=>?_)
 have OU:us.length<64 :=by
  have:us.length=xs.length:=(pB hI).length.symm.trans (bv _);rw[this,hp.length_eq];exact tH
 refine ac (aaw ?_ (hsz:=qr (Ll OU) (by decide)))
 have sH:(h'.push (seqObj "list" us.toArray 0)).get? h'.objs.size=some (seqObj "list" us.toArray 0):=db _ rfl
 refine ac (AC (wb slot_list_sort ⟨_,sH,rfl⟩ entry_list_sort (list_sort_tree sH hI OU fun out Y5 a1 a2 a3=>⟨_,rfl,?_⟩) (args_list_sort _)))
 refine bn ⟨_,rfl,?_⟩;obtain⟨e,he⟩:=sortedHeap_at (out:=out) sH;refine h h' _ d' tk out.toList e (by rw[<- Ia (a2.trans hp) a3];exact a1) hk (fun b o hb=>?_) (by simpa using he)
 have aN:=gc hb;rw[sortedHeap_old (jp aN) (by rw[xw];exact zd aN)]
 exact br _ hb
end
theorem tI {P:ff}{w:im}{h:hX}{a:ag}{ns:List Int}(x:cp P w h a ns):∃o,h.get? a=some o:=let ⟨o,_,_,_,e,_⟩:=x;⟨o,e⟩
theorem uI {P:ff}{w:im}{H:Hp}{h:hX}{a:ag}{ns:List Int}(x:cp P w h a ns):ObjOk P w H h a (gh P w a ns):=⟨x,tI x,fun h1 h2 y k=>y.cG k⟩
theorem Bg {X:Cx}{pins:List (ag×kw)}{σ:St}{H:Hp}{s:ar}{a:ag}{ns:List Int}(I:Inv X pins σ H s) (h:H a=some (gh X.prog X.w a ns)):cp X.prog X.w s.heap a ns:=(I.hok a _ h).1
section
variable {P:ff}{w:im}{A:l5}{E:al->ar->Prop}{s:ar}
theorem Lw {Q:al->ar->Prop}(h:Q (.ref s.heap.objs.size) {s with heap:=s.heap.push (iu w)}):wpAny (model P w) A (newSet (.type "set")) Q E s :=by
 unfold newSet setsByText;refine ac (ac (Re (bn ?_)));dsimp only;simp only[newObj];exact ac (wpAny_alloc (bn h))
theorem E2 {a:ag}{ns:List Int}{m:Int}{tk:aaR}{Q:al->ar->Prop}(hS:cp P w s.heap a ns) (nO:ns.length+1<scanBound)
  (h:∀h' EX,v6 a s.heap h'->cp P w h' a (dh ns m)->Q .none {s with heap:=h',toks:=EX}):wpAny (model P w) A (call (.builtin "set.add") [.ref a,.int m tk]) Q E s :=by
 refine wb F.slot_set_add (cp.typeIs (h:=s.heap) hS) F.entry_set_add ?_ (F.args_set_add_2 _ _);unfold ss.«set.add» ss.Frozenset.oneOther;simp only[List.isEmpty_nil,bind_assoc];unfold ss.Frozenset.addrOf;refine ac (bn ?_);try dsimp only
 refine ac (bn ?_);try dsimp only
 refine ac (vL hS nO fun h' g6 lq=>?_)
 show wpAny _ _ (ret wS) _ _ _;exact bn ⟨_,rfl,h h' _ g6 lq⟩
theorem Ic (elt tg iter:c8) (ifs:List c8) (scope:sB) (pos:u7) (it acc:al) (env:IN) :
  compTurn (.SetComp elt [⟨tg,iter,ifs,0⟩] scope pos) 0 it acc env=turnB (.SetComp elt [⟨tg,iter,ifs,0⟩] scope pos) tg iter ifs 0 it acc env (eval elt env>>=fun v=>standAt elt.pos>>=fun _=>call (.builtin "set.add") [acc,v]>>=fun _=>pure ()) :=by
 rfl
end
section
variable {X:Cx}
def tJ (X:Cx) (J:It) (g:TG) (tt:TT) (te:TE) (D:ag) (Q:VK) (W:Nat->Nat->St->Hp->Prop):Prop:=∀i m τ H,W i m τ H->
 (J.stop i H/\Q (.ref D) H)\/(J.go i H/\∀x H',J.yld i H x H'->g x τ H' fun az H2=>tt az H2 fun b H3=>if b=true then te az H3 fun y H4=>∃k ns m',y=.int k/\H4 D=some (gh X.prog X.w D ns)/\ns.length+1<scanBound/\m'<m/\W (i+1) m' az (upd H4 D (gh X.prog X.w D (dh ns k))) else ∃m',m'<m/\W (i+1) m' az H3)
def E3 (X:Cx) (tn:Nat) (idx:List Nat) (wi:TI) (g:TG) (tt:TT) (te:TE):TE:=fun σ H Q=>wi σ H fun J H1=>∀D,H1 D=none->∃W:Nat->Nat->St->Hp->Prop,(∃m,W 0 m (bw tn idx σ) (upd H1 D (gh X.prog X.w D [])))/\tJ X J g tt te D Q W
def yi (X:Cx) (D:ag) (te:TE):TB:=fun τ H Q=>te τ H fun y H4=>∃k ns,y=.int k/\H4 D=some (gh X.prog X.w D ns)/\ns.length+1<scanBound/\Q τ (upd H4 D (gh X.prog X.w D (dh ns k)))
theorem An {J:It}{g:TG}{tt:TT}{te:TE}{D:ag}{Q:VK}{W:Nat->Nat->St->Hp->Prop}(h:tJ X J g tt te D Q W):tLoop J g tt (yi X D te) (fun _ H=>Q (.ref D) H) W :=by
 simp only[tJ,exists_and_left]at h;simp only[tLoop,yi,exists_and_left];exact h
theorem Lx {Y:Cx}{elt:c8}{te:TE}{D:ag}(hp:Y.prog=X.prog) (hw:Y.w=X.w) (h:PE Y elt te):PB Y (eval elt Y.env>>=fun v=>standAt elt.pos>>=fun _=>call (.builtin "set.add") [.ref D,v]>>=fun _=>pure ()) (yi X D te) :=by
 intro pins s τ H Q I q;refine ac (lp (h pins s τ H _ I q) (fun yv s8 ⟨y,H8,I8,r8,q8⟩=>?_) fun _ _ z=>z)
 obtain⟨m,ns,ey,hD,hsz,w8⟩:=q8;subst ey;obtain⟨tk,rfl⟩:=r8;rw[<- hp,<- hw]at hD w8;refine ac (BS (ac (E2 (Bg (X:=Y) I8 hD) hsz fun h' EX g6 hM=>?_)))
 have I9:=I8.write (x:=D) (e:=D) (t':=EX) (by rw[hD];exact trivial) (.inl rfl) (fun b u hb hu=>(g6.2 b hb).trans hu) (tI hM) (uI hM)
 exact bn ⟨τ,_,I9,w8⟩
theorem CF {pins:List (ag×kw)}{σ:St}{H2:Hp}{s2:ar}{tg elt iter:c8}{ifs:List c8}{scope:sB}{pos:u7}{N':List bi}{tn:Nat}{idx:List Nat}{g:TG}{tt:TT}{te:TE}{it:ag}{fp:List ag}{bZ:Nat->hX->Prop}{J:It}
  {cl:List (bi×ag)} {E:al->ar->Prop} {RR:al->ag->aaS->ar->Prop} {Q:VK}
  (hc:X.calm=true) (B:aD X.N X.env.scope scope N' tn idx)
  (hg:Blk X N' scope fun Y=>PG Y tg g) (ht:Blk X N' scope fun Y=>gO Y ifs tt) (he:Blk X N' scope fun Y=>PE Y elt te)
  (I:Inv X pins σ H2 s2) (T:Turn X.prog X.w X.K tg J fp it bZ) (st:bZ 0 s2.heap) (f2:∀b∈fp,dg X pins H2 b)
  (cn:∀n c,cl.lookup n=some c->X.env.cells.lookup n=some c) (dy:∀n,(n,sK)∈scope.names->∃c,cl.lookup n=some c)
  (hq:∀D,H2 D=none->∃W:Nat->Nat->St->Hp->Prop,(∃m,W 0 m (bw tn idx σ) (upd H2 D (gh X.prog X.w D [])))/\tJ X J g tt te D Q W)
  (xI:∀D C m s' H',Inv X pins σ H' s'->dg X pins H' C->s'.heap.Ns C m->Q (.ref D) H'->RR (.ref D) C (.ok .next) s') :
  wpAny (model X.prog X.w) X.A (newSet (.type "set")) (fun acc mZ=>wpAny (model X.prog X.w) X.A (newFunctionEnv scope X.env.globals cl [] X.env.qual none .none (some X.env)) (fun lh rN=>
   codeAny (model X.prog X.w) X.A (.compStart (.SetComp elt [⟨tg,iter,ifs,0⟩] scope pos) 0 (.ref it) acc {lh with scope:=relabel scope X.env}) (RR acc lh.locals) rN) E mZ) E s2 :=by
 obtain⟨b1,b2,b3,b4⟩:=id B;refine Lw (ZW (fun y hy=>(b2 y hy).1) (by intro y hy;simp at hy) (fun ee iX iY=>?_) b1)
 dsimp only at iX iY ⊢;generalize hG:s2.heap.push (iu X.w)=G at iX iY ⊢
 have hC:G.objs.size=s2.heap.objs.size+1 :=by rw[<- hG,xw]
 have xJ:s2.heap.objs.size≠G.objs.size :=by rw[hC];exact jp (Fa _)
 have js:s2.heap.objs.size<=G.objs.size :=by rw[hC];exact ES _
 have below:∀b,b<s2.heap.objs.size->b≠G.objs.size:=fun b hb=>by rw[hC];exact jp (zd hb)
 have old:∀b o,s2.heap.get? b=some o->ee.get? b=some o:=fun b o e=>iY.extBut b o (below b (gc e)) (br _ (hG▸br _ e))
 have ED:cp X.prog X.w ee s2.heap.objs.size [] :=by
  have q:cp X.prog X.w G s2.heap.objs.size []:=hG▸Bd;exact q.cG fun o e=>iY.extBut _ _ xJ (br _ e)
 have vF:H2 s2.heap.objs.size=none:=I.hok.fresh (cb _);have sR:upd H2 s2.heap.objs.size (gh X.prog X.w s2.heap.objs.size []) G.objs.size=none :=by rw[ah (ze xJ)];exact I.hok.fresh js
 have xK:c7 X.prog X.w (upd H2 s2.heap.objs.size (gh X.prog X.w s2.heap.objs.size [])) ee:=I.hok.laid old (cb _) (uI ED);have ke:∀b∈fp,b<s2.heap.objs.size:=fun b hb=>let ⟨o,e,_⟩:=T.obj _ _ st b hb;gc e
 obtain⟨W,⟨m0,w0⟩,turn⟩:=hq s2.heap.objs.size vF;have I1:Inv (sT X N' scope cl G.objs.size s2 H2 fp) [] (bw tn idx σ) (upd H2 s2.heap.objs.size (gh X.prog X.w s2.heap.objs.size [])) {s2 with heap:=ee,toks:=s2.toks+([]:List (bi×al)).length}:=by
  refine o9 (g':=s2.gens) (m0:=fun x=>([]:List (bi×al)).reverse.lookup x) I b1 rfl rfl cn (fun x hx=>?_) (fun z=>I.ok.hd z) I.ok.frames (.inl rfl) js f2 ke (Un.laid old (cb _) vF) xK sR old iX (fun i x v e1 e2 e3=>?_) (B.len σ) I.bare.self
  ·have jn:(relabel scope X.env).names.lookup x=some .cell\/(relabel scope X.env).names.lookup x=some .free:=hx;rw[dY]at jn;cases q:scope.names.lookup x with
   |none=>rw[q]at jn;rcases jn with z|z<;>cases z
   |some k0=>
    have hm:=tw q;rw[q]at jn;by_cases hk:k0=.free
    ·subst hk;exact dy x hm
    ·have nk:(k0==sK)=false :=by simpa using hk
     have nc:=(b2 _ hm).1;simp only[BY,nk,Pi,lw,if_false]at jn;rcases jn with z|z
     ·exact absurd (ij z) nc
     ·exact absurd (ij z) hk
  ·obtain⟨fr,j,e4,e5⟩:=B.at e1 e2;have kx:=(b2 _ (tw fr)).2.2 rfl;refine⟨?_,.inr kx,kx,j,e4,e5⟩;show (relabel scope X.env).names.lookup x=some .cell\/(relabel scope X.env).names.lookup x=some .free;rw[dY,fr];simp only[BY];split
   ·exact .inl rfl
   ·exact .inr rfl
 have stat:∀{H':Hp},(∀b∈fp,H' b=none)->∀b∈fp,dg (sT X N' scope cl G.objs.size s2 H2 fp) [] H' b:=fun hn b hb=>by
  refine⟨hn b hb,below b (ke b hb),fun z=>?_,.inl hb,fun x c e=>(f2 b hb).2.2.2.2.1 x c (cn x c e),fun p hp=>absurd (show p∈([]:List (ag×kw)) from hp) (by simp)⟩
  rcases i4.mp (I.gb b z) with q|q
  ·exact(f2 b hb).2.1 q
  ·exact(f2 b hb).2.2.1 q
 have C1:uB (sT X N' scope cl G.objs.size s2 H2 fp) (.SetComp elt [⟨tg,iter,ifs,0⟩] scope pos) tg iter ifs 0 (.ref s2.heap.objs.size) _:=⟨fun _=>rfl,fun _ _ _ _ h=>h,fun _=>Ic ..,fun _ _ _ _ h=>h,rfl⟩
 have vG:bZ 0 ee:=T.keep _ _ _ st fun b _ o e=>old b o e
 refine ko C1 T vG (mE hc (fun _ _ z=>z) C1 (hg cl G.objs.size s2 H2 fp) (ht cl G.objs.size s2 H2 fp) (Lx (X:=X) rfl rfl (he cl G.objs.size s2 H2 fp)) T (An turn) I1 vG (stat fun b hb=>by rw[ah (jp (ke b hb))];exact(f2 b hb).1) w0 fun aT H' s' I4 qn=>?_)
 have J2:Inv X pins σ H' s':=I.sJ I4.os I4.base I4.hok I4.bare fun b hb=>⟨(f2 b hb).2.2.2.1,(f2 b hb).2.1,(f2 b hb).2.2.2.2.1,(f2 b hb).2.2.2.2.2⟩
 obtain⟨mm,hm,_⟩:=I4.loc;exact xI _ _ mm s' H' J2 (I.k6 js I4.free) hm qn
variable {tg elt iter:c8}{ifs:List c8}{scope:sB}{pos:u7}{N':List bi}{tn:Nat}{idx:List Nat}{wi:TI}{g:TG}{tt:TT}{te:TE}
theorem CG (hc:X.calm=true) (B:aD X.N X.env.scope scope N' tn idx) (hi:PI X tg iter wi)
  (hg:Blk X N' scope fun Y=>PG Y tg g) (ht:Blk X N' scope fun Y=>gO Y ifs tt) (he:Blk X N' scope fun Y=>PE Y elt te)
  (hs:∀x,foldedSetIterable iter X.env x=pure x :=by intro _;rfl):PE X (.SetComp elt [⟨tg,iter,ifs,0⟩] scope pos) (E3 X tn idx wi g tt te) :=by
 refine⟨?_⟩;intro pins s σ H Q I h;obtain⟨cl,d9,cn,dy⟩:=dO (scope:=scope) (env:=X.env) fun n hn=>I.ok.has n ((B.2.1 _ hn).2.2 rfl)
 rw[arm_eval_SetComp];refine EM (use:=none) rfl hs d9 B.1 (fun y hy=>(B.2.1 y hy).2.1) (lp (hi pins s σ H _ I h) (fun xv s1 h1=>lp h1 (fun oY s2 h2=>?_) fun _ _ z=>z) fun _ _ z=>z)
 obtain⟨it,fp,bZ,J,H2,e,I2,T,iH,f2,q2⟩:=h2;subst e;refine CF (RR:=fun acc C=>compPost (model X.prog X.w) X.A X.xe none (EP X pins σ Q) acc C) hc B hg ht he I2 T iH f2 cn dy q2 fun D C m s' H' J2 fC hm q=>?_
 exact⟨m,hm,fun h' iK=>⟨.ref D,H',fC.turn J2 iK,rfl,q⟩⟩
end
inductive Dt where
 |ax|bl (b:Bool)|int (i:Int)|str (x:bi)|lst (xs:List Dt)|tup (xs:List Dt)
inductive ez (H:Hp):V->Dt->Prop where
 |ax:ez H .ax .ax
 |bl (b:Bool):ez H (.bl b) (.bl b)
 |int (i:Int):ez H (.int i) (.int i)
 |str (x:bi):ez H (.str x) (.str x)
 |lst {a:ag} {xs:List V} {ds:List Dt} (e:H a=some (.lst xs)) (hl:xs.length=ds.length) (h:∀(i:Nat) (x:V) (d:Dt),xs[i]?=some x->ds[i]?=some d->ez H x d):ez H (.ref a) (.lst ds)
 |tup {a:ag} {xs:List V} {ds:List Dt} (e:H a=some (.tup xs)) (hl:xs.length=ds.length) (h:∀(i:Nat) (x:V) (d:Dt),xs[i]?=some x->ds[i]?=some d->ez H x d):ez H (.ref a) (.tup ds)
mutual
def da:Dt->Dt->Bool
 | .ax,.ax=>true
 | .bl a,.bl b=>a==b
 | .bl a,.int b=>(if a then 1 else 0)==b
 | .int a,.bl b=>a==(if b then 1 else 0)
 | .int a,.int b=>a==b
 | .str a,.str b=>a==b
 | .lst xs,.lst ys=>gW xs ys
 | .tup xs,.tup ys=>gW xs ys
 |_,_=>false
def gW:List Dt->List Dt->Bool
 | [],[]=>true
 |x::xs,y::ys=>da x y && gW xs ys
 |_,_=>false
end
mutual
theorem nR:∀d:Dt,da d d=true
 | .ax=>by simp[da]
 | .bl b=>by simp[da]
 | .int i=>by simp[da]
 | .str x=>by simp[da]
 | .lst xs=>by simp only[da];exact pC xs
 | .tup xs=>by simp only[da];exact pC xs
theorem pC:∀ds:List Dt,gW ds ds=true
 | []=>by simp[gW]
 |d::ds=>by simp only[gW];rw[nR d,pC ds];rfl
end
theorem i5:∀(xs ys:List Dt),gW xs ys=((ii (min xs.length ys.length)).all (fun j=>da (xs.getD j .ax) (ys.getD j .ax)) && xs.length==ys.length)
 | [],[]=>by simp[gW]
 | [],_::_=>by simp[gW]
 |_::_,[]=>by simp[gW]
 |x::xs,y::ys=>by
          rw[gW,i5 xs ys];have e:min (x::xs).length (y::ys).length=min xs.length ys.length+1 :=by simp[Nat.succ_min_succ]
          rw[e,List.range_succ_eq_map,aay,List.all_map];have e2:((x::xs).length==(y::ys).length)=(xs.length==ys.length) :=by simp
          rw[e2,Bool.and_assoc];rfl
theorem ez.inj {H:Hp}{v:V}{d:Dt}(h:ez H v d):∀{d':Dt},ez H v d'->d=d':=by
 induction h with
 |ax=>intro d' h';cases h';rfl
 |bl b=>intro d' h';cases h';rfl
 |int i=>intro d' h';cases h';rfl
 |str x=>intro d' h';cases h';rfl
 |lst e hl h ih=>
  intro d' h';cases h' with
  |lst e' OV h'=>
   rw[e]at e';cases e';congr 1
   refine aaI fun i=>?_
   rename_i xs ds iN;by_cases hi:i<xs.length
   ·rw[ap (by omega),ap (by omega)]
    exact congrArg some (ih i _ _ (ap hi) (ap (by omega)) (h' i _ _ (ap hi) (ap (by omega))))
   ·rw[LP (by omega),LP (by omega)]
  |tup e' OV h'=>rw[e]at e';cases e'
 |tup e hl h ih=>
  intro d' h';cases h' with
  |lst e' OV h'=>rw[e]at e';cases e'
  |tup e' OV h'=>
   rw[e]at e';cases e';congr 1
   refine aaI fun i=>?_
   rename_i xs ds iN;by_cases hi:i<xs.length
   ·rw[ap (by omega),ap (by omega)]
    exact congrArg some (ih i _ _ (ap hi) (ap (by omega)) (h' i _ _ (ap hi) (ap (by omega))))
   ·rw[LP (by omega),LP (by omega)]
mutual
def jW:Dt->Nat
 | .lst xs=>i6 xs+1
 | .tup xs=>i6 xs+1
 |_=>0
def i6:List Dt->Nat
 | []=>0
 |x::xs=>max (jW x) (i6 xs)
end
theorem pD:∀{ds:List Dt}{i:Nat}{d:Dt},ds[i]?=some d->jW d<=i6 ds
 | [],_,_,h=>by simp at h
 |x::xs,0,d,h=>by
          simp at h;subst h;rw[i6];exact Nat.le_max_left _ _
 |x::xs,i+1,d,h=>by
          rw[i6];exact qr (pD (i:=i) (by simpa using h)) (Nat.le_max_right _ _)
section
variable {X:Cx}{pins:List (ag×kw)}{σ:St}{H:Hp}{s:ar}
theorem Inv.lists (I:Inv X pins σ H s) {a:ag}{xs:List V}(h:H a=some (.lst xs)):∃its:List al,Vals xs its/\s.heap.IsList a its.toArray :=by
 obtain⟨its,rv,p,_⟩:=I.list (bL.of h);exact⟨its,rv,p.isList⟩
theorem Inv.tups (I:Inv X pins σ H s) {a:ag}{xs:List V}(h:H a=some (.tup xs)):∃its:List al,Vals xs its/\s.heap.IsTuple a its.toArray :=by
 obtain⟨its,rv,p,_⟩:=I.tuple (c9.of h);exact⟨its,rv,p⟩
theorem yj (I:Inv X pins σ H s) {x y:V}{d:Dt}(hx:ez H x d):∀{e:Dt}{u v:al}{A:l5},ez H y e->RelV x u->RelV y v->A.units+jW d<cLine->l4 A s u v (da d e) :=by
 have lists:=fun {a:ag} {xs:List V} (h:H a=some (.lst xs))=>I.lists h
 have tups:=fun {a:ag} {xs:List V} (h:H a=some (.tup xs))=>I.tups h
 induction hx generalizing y with
 |ax=>
  intro e u v A hy rx ry hu;have bR:A.units<cLine :=by omega
  cases rx;cases hy with
  |ax=>cases ry;exact aa5 _
  |bl b=>cases ry;exact l4.none_bool _
  |int i=>obtain⟨t,rfl⟩:=ry;exact l4.none_int _ _
  |str z=>obtain⟨t,rfl⟩:=ry;exact l4.none_str _ _
  |lst e2 _ _=>cases ry;obtain⟨_,_,p⟩:=lists e2;exact l4.none_list p bR
  |tup e2 _ _=>cases ry;obtain⟨_,_,p⟩:=tups e2;exact l4.none_tuple p bR
 |bl a=>
  intro e u v A hy rx ry hu;have bR:A.units<cLine :=by omega
  cases rx;cases hy with
  |ax=>cases ry;exact l4.bool_none _
  |bl b=>cases ry;exact l4.bool_bool _ _
  |int i=>obtain⟨t,rfl⟩:=ry;exact l4.bool_int _ _ _
  |str z=>obtain⟨t,rfl⟩:=ry;exact l4.bool_str _ _ _
  |lst e2 _ _=>cases ry;obtain⟨_,_,p⟩:=lists e2;exact l4.bool_list _ p bR
  |tup e2 _ _=>cases ry;obtain⟨_,_,p⟩:=tups e2;exact l4.bool_tuple _ p bR
 |int a=>
  intro e u v A hy rx ry hu;have bR:A.units<cLine :=by omega
  obtain⟨ta,rfl⟩:=rx;cases hy with
  |ax=>cases ry;exact l4.int_none _ _
  |bl b=>cases ry;exact l4.int_bool _ _ _
  |int i=>obtain⟨t,rfl⟩:=ry;exact l4.int_int _ _ _ _
  |str z=>obtain⟨t,rfl⟩:=ry;exact l4.int_str _ _ _ _
  |lst e2 _ _=>cases ry;obtain⟨_,_,p⟩:=lists e2;exact l4.int_list _ _ p bR
  |tup e2 _ _=>cases ry;obtain⟨_,_,p⟩:=tups e2;exact l4.int_tuple _ _ p bR
 |str a=>
  intro e u v A hy rx ry hu;have bR:A.units<cLine :=by omega
  obtain⟨ta,rfl⟩:=rx;cases hy with
  |ax=>cases ry;exact l4.str_none _ _
  |bl b=>cases ry;exact l4.str_bool _ _ _
  |int i=>obtain⟨t,rfl⟩:=ry;exact l4.str_int _ _ _ _
  |str z=>obtain⟨t,rfl⟩:=ry;exact l4.str_str _ _ _ _
  |lst e2 _ _=>cases ry;obtain⟨_,_,p⟩:=lists e2;exact l4.str_list _ _ p bR
  |tup e2 _ _=>cases ry;obtain⟨_,_,p⟩:=tups e2;exact l4.str_tuple _ _ p bR
 |lst e1 rp h1 ih=>
  rename_i a xs ds;intro e u v A hy rx ry hu;have bR:A.units<cLine :=by omega
  have E4:A.units+i6 ds+1<cLine :=by rw[jW]at hu;omega
  cases rx;obtain⟨its,rv,p⟩:=lists e1;cases hy with
  |ax=>cases ry;exact l4.list_none p bR
  |bl b=>cases ry;exact l4.list_bool _ p bR
  |int i=>obtain⟨t,rfl⟩:=ry;exact l4.list_int _ _ p bR
  |str z=>obtain⟨t,rfl⟩:=ry;exact l4.list_str _ _ p bR
  |lst e2 mD h2=>
   rename_i b ys es;cases ry;by_cases ft:a=b
   ·subst ft;have:=(ez.lst e1 rp h1).inj (ez.lst e2 mD h2);cases this;rw[nR];exact aa5 _
   ·obtain⟨dN,kf,p2⟩:=lists e2;have l1:=rv.length;have l2:=kf.length;have at_:∀j (g1:j<its.toArray.size) (g2:j<dN.toArray.size),l4 A.in1 s its.toArray[j] dN.toArray[j] (da (ds.getD j .ax) (es.getD j .ax)):=fun j g1 g2=>by
     have pE:j<xs.length :=by rw[l1];simpa using g1
     have pF:j<ys.length :=by rw[l2];simpa using g2
     have r1:=fo rv g1;have r2:=fo kf g2;rw[ci,ap pE]at r1;rw[ci,ap pF]at r2;have d1:ds[j]?=some ds[j]:=ap (by omega)
     have d2:es[j]?=some es[j]:=ap (by omega)
     rw[ci,ci,d1,d2];have:=pD d1;exact ih j _ _ (ap pE) d1 (h2 j _ _ (ap pF) d2) r1 r2 (by show A.units+1+_<cLine;omega)
    refine l4.of_refs ft ?_;rw[da,i5];by_cases hsz:ds.length=es.length
    ·have q:=l9.lists p p2 (by simp only[dL];omega) bR at_
     have z:(ds.length==es.length)=true :=by simpa using hsz
     rw[z,Bool.and_true,<- hsz,ID];rw[dL,<- l1,rp]at q;exact q
    ·have z:(ds.length==es.length)=false :=by simpa using hsz
     rw[z,Bool.and_false];exact l9.lists_lengths p p2 (by simp only[dL];simpa[bne_iff_ne] using (show its.length≠dN.length by omega)) bR
  |tup e2 mD h2=>cases ry;obtain⟨_,_,p2⟩:=tups e2;exact l4.list_tuple p p2 bR
 |tup e1 rp h1 ih=>
  rename_i a xs ds;intro e u v A hy rx ry hu;have bR:A.units<cLine :=by omega
  have E4:A.units+i6 ds+1<cLine :=by rw[jW]at hu;omega
  cases rx;obtain⟨its,rv,p⟩:=tups e1;cases hy with
  |ax=>cases ry;exact l4.tuple_none p bR
  |bl b=>cases ry;exact l4.tuple_bool _ p bR
  |int i=>obtain⟨t,rfl⟩:=ry;exact l4.tuple_int _ _ p bR
  |str z=>obtain⟨t,rfl⟩:=ry;exact l4.tuple_str _ _ p bR
  |lst e2 mD h2=>cases ry;obtain⟨_,_,p2⟩:=lists e2;exact l4.tuple_list p p2 bR
  |tup e2 mD h2=>
   rename_i b ys es;cases ry;by_cases ft:a=b
   ·subst ft;have:=(ez.tup e1 rp h1).inj (ez.tup e2 mD h2);cases this;rw[nR];exact aa5 _
   ·obtain⟨dN,kf,p2⟩:=tups e2;have l1:=rv.length;have l2:=kf.length;have at_:∀j (g1:j<its.toArray.size) (g2:j<dN.toArray.size),l4 A.in1 s its.toArray[j] dN.toArray[j] (da (ds.getD j .ax) (es.getD j .ax)):=fun j g1 g2=>by
     have pE:j<xs.length :=by rw[l1];simpa using g1
     have pF:j<ys.length :=by rw[l2];simpa using g2
     have r1:=fo rv g1;have r2:=fo kf g2;rw[ci,ap pE]at r1;rw[ci,ap pF]at r2;have d1:ds[j]?=some ds[j]:=ap (by omega)
     have d2:es[j]?=some es[j]:=ap (by omega)
     rw[ci,ci,d1,d2];have:=pD d1;exact ih j _ _ (ap pE) d1 (h2 j _ _ (ap pF) d2) r1 r2 (by show A.units+1+_<cLine;omega)
    refine l4.of_refs ft ?_;rw[da,i5];have q:=l9.tuples p p2 bR at_;rw[dL,dL,<- l1,<- l2,rp,mD]at q;exact q
theorem OW (I:Inv X pins σ H s) {x y:V}{d e:Dt}{u v:al}{A:l5}(hx:ez H x d) (hy:ez H y e) (rx:RelV x u) (ry:RelV y v) (hu:A.units+jW d<cLine):l9 A s u v (da d e) :=by
 have bR:A.units<cLine :=by omega
 have lists:=fun {a:ag} {xs:List V} (h:H a=some (.lst xs))=>I.lists h
 have tups:=fun {a:ag} {xs:List V} (h:H a=some (.tup xs))=>I.tups h
 cases hx with
 |ax=>
  cases rx;cases hy with
  |ax=>cases ry;exact l9.none_none
  |bl b=>cases ry;exact l9.none_bool _
  |int b=>obtain⟨t,rfl⟩:=ry;exact l9.none_int _ _
  |str b=>obtain⟨t,rfl⟩:=ry;exact l9.none_str _ _
  |lst e2 _ _=>cases ry;obtain⟨_,_,p⟩:=lists e2;exact l9.none_list p bR
  |tup e2 _ _=>cases ry;obtain⟨_,_,p⟩:=tups e2;exact l9.none_tuple p bR
 |bl a=>
  cases rx;cases hy with
  |ax=>cases ry;exact l9.bool_none _
  |bl b=>cases ry;exact l9.bool_bool _ _
  |int b=>obtain⟨t,rfl⟩:=ry;exact l9.bool_int _ _ _
  |str b=>obtain⟨t,rfl⟩:=ry;exact l9.bool_str _ _ _
  |lst e2 _ _=>cases ry;obtain⟨_,_,p⟩:=lists e2;exact l9.bool_list _ p bR
  |tup e2 _ _=>cases ry;obtain⟨_,_,p⟩:=tups e2;exact l9.bool_tuple _ p bR
 |int a=>
  obtain⟨ta,rfl⟩:=rx;cases hy with
  |ax=>cases ry;exact l9.int_none _ _
  |bl b=>cases ry;exact l9.int_bool _ _ _
  |int b=>obtain⟨t,rfl⟩:=ry;exact l9.int_int _ _ _ _
  |str b=>obtain⟨t,rfl⟩:=ry;exact l9.int_str _ _ _ _
  |lst e2 _ _=>cases ry;obtain⟨_,_,p⟩:=lists e2;exact l9.int_list _ _ p bR
  |tup e2 _ _=>cases ry;obtain⟨_,_,p⟩:=tups e2;exact l9.int_tuple _ _ p bR
 |str a=>
  obtain⟨ta,rfl⟩:=rx;cases hy with
  |ax=>cases ry;exact l9.str_none _ _
  |bl b=>cases ry;exact l9.str_bool _ _ _
  |int b=>obtain⟨t,rfl⟩:=ry;exact l9.str_int _ _ _ _
  |str b=>obtain⟨t,rfl⟩:=ry;exact l9.str_str _ _ _ _
  |lst e2 _ _=>cases ry;obtain⟨_,_,p⟩:=lists e2;exact l9.str_list _ _ p bR
  |tup e2 _ _=>cases ry;obtain⟨_,_,p⟩:=tups e2;exact l9.str_tuple _ _ p bR
 |lst e1 rp h1=>
  rename_i a xs ds;have E4:A.units+i6 ds+1<cLine :=by rw[jW]at hu;omega
  cases rx;obtain⟨its,rv,p⟩:=lists e1;cases hy with
  |ax=>cases ry;exact l9.list_none p bR
  |bl b=>cases ry;exact l9.list_bool _ p bR
  |int b=>obtain⟨t,rfl⟩:=ry;exact l9.list_int _ _ p bR
  |str b=>obtain⟨t,rfl⟩:=ry;exact l9.list_str _ _ p bR
  |lst e2 mD h2=>
   rename_i b ys es;cases ry;obtain⟨dN,kf,p2⟩:=lists e2;have l1:=rv.length;have l2:=kf.length;have at_:∀j (g1:j<its.toArray.size) (g2:j<dN.toArray.size),l4 A.in1 s its.toArray[j] dN.toArray[j] (da (ds.getD j .ax) (es.getD j .ax)):=fun j g1 g2=>by
    have pE:j<xs.length :=by rw[l1];simpa using g1
    have pF:j<ys.length :=by rw[l2];simpa using g2
    have r1:=fo rv g1;have r2:=fo kf g2;rw[ci,ap pE]at r1;rw[ci,ap pF]at r2;have d1:ds[j]?=some ds[j]:=ap (by omega)
    have d2:es[j]?=some es[j]:=ap (by omega)
    rw[ci,ci,d1,d2];have:=pD d1;exact yj I (h1 j _ _ (ap pE) d1) (h2 j _ _ (ap pF) d2) r1 r2 (by show A.units+1+_<cLine;omega)
   rw[da,i5];by_cases hsz:ds.length=es.length
   ·have q:=l9.lists p p2 (by simp only[dL];omega) bR at_
    have z:(ds.length==es.length)=true :=by simpa using hsz
    rw[z,Bool.and_true,<- hsz,ID];rw[dL,<- l1,rp]at q;exact q
   ·have z:(ds.length==es.length)=false :=by simpa using hsz
    rw[z,Bool.and_false];exact l9.lists_lengths p p2 (by simp only[dL];simpa[bne_iff_ne] using (show its.length≠dN.length by omega)) bR
  |tup e2 mD h2=>cases ry;obtain⟨_,_,p2⟩:=tups e2;exact l9.list_tuple p p2 bR
 |tup e1 rp h1=>
  rename_i a xs ds;have E4:A.units+i6 ds+1<cLine :=by rw[jW]at hu;omega
  cases rx;obtain⟨its,rv,p⟩:=tups e1;cases hy with
  |ax=>cases ry;exact l9.tuple_none p bR
  |bl b=>cases ry;exact l9.tuple_bool _ p bR
  |int b=>obtain⟨t,rfl⟩:=ry;exact l9.tuple_int _ _ p bR
  |str b=>obtain⟨t,rfl⟩:=ry;exact l9.tuple_str _ _ p bR
  |lst e2 mD h2=>cases ry;obtain⟨_,_,p2⟩:=lists e2;exact l9.tuple_list p p2 bR
  |tup e2 mD h2=>
   rename_i b ys es;cases ry;obtain⟨dN,kf,p2⟩:=tups e2;have l1:=rv.length;have l2:=kf.length;have at_:∀j (g1:j<its.toArray.size) (g2:j<dN.toArray.size),l4 A.in1 s its.toArray[j] dN.toArray[j] (da (ds.getD j .ax) (es.getD j .ax)):=fun j g1 g2=>by
    have pE:j<xs.length :=by rw[l1];simpa using g1
    have pF:j<ys.length :=by rw[l2];simpa using g2
    have r1:=fo rv g1;have r2:=fo kf g2;rw[ci,ap pE]at r1;rw[ci,ap pF]at r2;have d1:ds[j]?=some ds[j]:=ap (by omega)
    have d2:es[j]?=some es[j]:=ap (by omega)
    rw[ci,ci,d1,d2];have:=pD d1;exact yj I (h1 j _ _ (ap pE) d1) (h2 j _ _ (ap pF) d2) r1 r2 (by show A.units+1+_<cLine;omega)
   rw[da,i5];have q:=l9.tuples p p2 bR at_;rw[dL,dL,<- l1,<- l2,rp,mD]at q;exact q
end
section
variable {X:Cx}
def OX (neg:Bool):R2:=fun x y H Q=>∃d e,ez H x d/\ez H y e/\jW d<=60/\Q (.bl (if neg then !da d e else da d e)) H
theorem OY (hu:X.A.units+64<cLine):OpR X (compareOp .Eq) (OX false) :=by
 intro pins s σ H x y v u Q I rx ry h;obtain⟨d,e,hx,hy,hd,q⟩:=h;exact OW I hx hy rx ry (by omega) X.prog X.w X.xe _ ⟨.bl _,H,I,rfl,q⟩
end
theorem OZ:bootBuiltins "set" = some (.type "set") :=by decide +kernel
theorem jX:bootBuiltins "sorted" = some (.builtin "sorted") :=by decide +kernel
section
variable {X:Cx}
def E5 (K:ba) (H:Hp) (p:ag) (ns:List Int):Prop:=bL K H p (ns.map V.int)\/c9 K H p (ns.map V.int)
def yk (P:ff) (w:im) (K:ba):List V->Hp->VK->Prop:=fun xs H Q=>∃p ns,xs=[.ref p]/\E5 K H p ns/\ns.length+1<scanBound/\∀l,H l=none->Q (.ref l) (upd H l (gh P w l (dP ns)))
theorem yl {ns:List Int}{us:List al}(r:Vals (ns.map V.int) us):∀(i:Nat) (v:al),us.toArray[i]?=some v->∃m t,ns[i]?=some m/\v=.int m t:=fun i v h=>by
 have hl:=r.length;have h':us[i]?=some v :=by simpa using h
 have hi:i<us.length:=(ca.mp h').1;have cy:i<ns.length :=by rw[bv]at hl;omega
 obtain⟨u,e,q⟩:=r.get (i:=i) (x:=V.int ns[i]) (by rw[ce,ap cy];rfl)
 rw[h']at e;cases e;obtain⟨t,rfl⟩:=q;exact⟨_,t,ap cy,rfl⟩
theorem E6 (hc:X.calm=true):cK X (.type "set") (yk X.prog X.w X.K) :=by
 intro pins s σ H xs us Q I r h;obtain⟨p,ns,rfl,hq,hb,q⟩:=h;obtain⟨u,rfl,rx⟩:=vals1 r;cases rx;have fin:∀(h':hX) (tk:Nat),cp X.prog X.w h' s.heap.objs.size (dP ns)->(∀b o,s.heap.get? b=some o->h'.get? b=some o)->EP X pins σ Q (.ref s.heap.objs.size) {s with heap:=h',toks:=tk}:=fun h' tk hM hk=>
  ⟨.ref s.heap.objs.size,_,I.laid (t':=tk) hk (cb _) (uI hM),rfl,q _ (I.hok.fresh (cb _))⟩
 have hh:=I.ok.hd hc;rcases hq with hq|hq
 ·obtain⟨its,rv,pl,hz⟩:=I.list hq;have hl:its.toArray.size=ns.length :=by rw[dL,<- rv.length,bv]
  obtain⟨o,ho,cq,n,hd⟩:=pl.isList;refine px (T := "list") (vs:=ns) (itob:={cls:=.type "list_iterator",data:=.fields #[.ref p,.int 0 0]}) (Pv:=fun i v=>its.toArray[i]?=some v) (St:=fun I i h=>h.IsListIter I p i/\h.IsList p its.toArray) hh ⟨o,ho⟩ (fun s1 k=>⟨o,k o ho,cq⟩) F.sub_list_set F.sub_list_frozenset (by decide)
   (fun A' s1 Q' E' k tK=>UF ⟨o,k o ho,cq,n,hd⟩ tK) (fun A' I' hA dZ=>hl▸Walks.list hA I' p dZ its.toArray) (fun h1 k=>⟨⟨_,db _ rfl,rfl,rfl⟩,⟨o,br _ (k o ho),cq,n,hd⟩⟩) (yl rv) hb fin
 ·obtain⟨its,rv,pl,hz⟩:=I.tuple hq;have hl:its.toArray.size=ns.length :=by rw[dL,<- rv.length,bv]
  obtain⟨o,ho,cq,n,hd⟩:=pl;refine px (T := "tuple") (vs:=ns) (itob:={cls:=.type "tuple_iterator",data:=.fields #[.ref p,.int 0 0]}) (Pv:=fun i v=>its.toArray[i]?=some v) (St:=fun I i h=>h.IsTupleIter I p i/\h.IsTuple p its.toArray) hh ⟨o,ho⟩ (fun s1 k=>⟨o,k o ho,cq⟩) sub_tuple_set uH (by decide)
   (fun A' s1 Q' E' k tK=>SO ⟨o,k o ho,cq,n,hd⟩ tK) (fun A' I' hA dZ=>hl▸Walks.tuple hA I' p dZ its.toArray) (fun h1 k=>⟨⟨_,db _ rfl,rfl,rfl⟩,⟨o,br _ (k o ho),cq,n,hd⟩⟩) (yl rv) hb fin
def Bh (P:ff) (w:im) (K:ba):List V->Hp->VK->Prop:=fun xs H Q=>∃p ns,xs=[.ref p]/\(H p=some (gh P w p ns)\/E5 K H p ns)/\ns.length<64/\∀l,H l=none->Q (.ref l) (upd H l (.lst ((sortI ns).map V.int)))
theorem ym (hc:X.calm=true):cK X (.builtin "sorted") (Bh X.prog X.w X.K) :=by
 intro pins s σ H xs us Q I r h;obtain⟨p,ns,rfl,hq,tH,q⟩:=h;obtain⟨u,rfl,rx⟩:=vals1 r;cases rx;have hh:=I.ok.hd hc;refine CD (ns:=ns) (fun QL yn=>?_) tH (fun h1 h' d' tk us e hI k1 k2 he=>?_)
 ·rcases hq with hq|hq|hq
  ·exact Al (by simp[hh]) (Bg I hq) (by have:sizeLine=16777216:=NE;omega) yn
  ·obtain⟨its,rv,pl,hz⟩:=I.list hq;have hl:=rv.length;obtain⟨o,ho,cq,n,hd⟩:=pl.isList;exact jK ho cq hd (.inl rfl) (fun h' k=>yn its ns h' s.drawn s.toks (wY rv) (.refl _) k) (by omega)
  ·obtain⟨its,rv,pl,hz⟩:=I.tuple hq;have hl:=rv.length;obtain⟨o,ho,cq,n,hd⟩:=pl;exact jK ho cq hd (.inr rfl) (fun h' k=>yn its ns h' s.drawn s.toks (wY rv) (.refl _) k) (by omega)
 ·have I1:Inv X pins σ H {s with heap:=h1,drawn:=d'}:=(I.kept (t':=s.toks) k1).pf ⟨rfl,rfl,I.bare.self⟩
  have hsz:sizeLine=16777216:=NE;have ob:ObjOk X.prog X.w (upd H h1.objs.size (.lst ((sortI ns).map V.int))) h' h1.objs.size (.lst ((sortI ns).map V.int)):=⟨by rw[bv,(sortI_perm ns).length_eq];omega,us,e,pB hI,he⟩
  exact⟨.ref h1.objs.size,_,I1.laid (t':=tk) k2 (cb _) ob,rfl,q _ (I1.hok.fresh (cb _))⟩
end
def g9 (n:Nat):List Int:=(ii n).map fun i=>((i:Nat):Int)
section
variable {X:Cx}
theorem CH {K:ba}(h:X.K=K) (hc:X.calm=true):cK X (.type "set") (yk X.prog X.w K):=h▸E6 hc
end
theorem E7:bootBuiltins "all" = some (.builtin "all"):=PyProof.Rows.boot_all
section
variable {X:Cx}
def JZ (K:ba):List V->Hp->VK->Prop:=fun xs H Q=>∃(p:ag) (bs:List Bool),xs=[.ref p]/\bL K H p (bs.map V.bl)/\Q (.bl (bs.all id)) H
theorem E8 (hc:X.calm=true):cK X (.builtin "all") (JZ X.K) :=by
 intro pins s σ H xs us Q I r h;obtain⟨p,bs,rfl,hq,q⟩:=h;obtain⟨u,rfl,rx⟩:=vals1 r;cases rx;have hh:=I.ok.hd hc;obtain⟨its,rv,pl,hz⟩:=I.list hq;have hl:its.toArray.size=bs.length :=by rw[dL,<- rv.length,bv]
 have oI:s.heap.IsList p its.toArray:=pl.isList;have aN:p<s.heap.objs.size:=let ⟨o,ho,_⟩:=oI;gc ho;have at_:∀(i:Nat) (v:al),its.toArray[i]?=some v->v=.bool (bs.getD i false):=fun i v hv=>by
  have h':its[i]?=some v :=by simpa using hv
  have hi:i<its.length:=(ca.mp h').1;have cy:i<bs.length :=by rw[dL]at hl;omega
  obtain⟨u,e,q2⟩:=rv.get (i:=i) (x:=V.bl bs[i]) (by rw[ce,ap cy];rfl)
  rw[h']at e;cases e;rw[ci,ap cy];exact q2
 refine aap F.kind_all F.plain_all F.entry_all (F.args_all1 _) ?_;unfold ss.«all»;refine ac (m:=oneArg "all" _) (bn ?_)
 refine ac (UF oI ?_);have W:=Walks.list (prog:=X.prog) (w:=X.w) (A:=X.A.in1) (by simp[hh]) s.heap.objs.size p (jp aN) its.toArray
 refine bn ⟨Mn ZH _,codeAny_all_loop W (fun i=>bs.getD i false) ?_ its.toArray.size 0 _ rfl (mf _) ⟨⟨_,db _ rfl,rfl,rfl⟩,oI.push _⟩ fun h' tk hk=>?_⟩
 ·intro i v s' Q' E' hv tK;have:=at_ i v hv;subst this;exact AN tK
 ·have e:((ii its.toArray.size).drop 0).all (fun i=>bs.getD i false)=bs.all id :=by
   rw[List.drop_zero,hl];refine Op.mpr ?_;rw[wT,wT];constructor
   ·intro hx b hb;obtain⟨i,hi⟩:=List.getElem?_of_mem hb;have fX:=(ca.mp hi).1;have:=hx i (by rw[uu];exact fX)
    rw[ci,hi]at this;exact this
   ·intro hx i hi;rw[uu]at hi;rw[ci,ap hi];exact hx _ (tz hi)
  have I2:Inv X pins σ H {s with heap:=h',toks:=tk}:=I.kept fun b o eb=>hk b o (by simp only[io];exact jp (gc eb)) (br _ eb)
  refine⟨.bl (bs.all id),H,I2,?_,q⟩;show WI _=WI _;rw[e]
theorem CI {K:ba}(h:X.K=K) (hc:X.calm=true):cK X (.builtin "all") (JZ K):=h▸E8 hc
end
theorem ObjOk.there {P:ff}{w:im}{H:Hp}{h:hX}{a:ag}{o:HO}(x:ObjOk P w H h a o):∃u,h.get? a=some u :=by
 cases o with
 |lst xs=>obtain⟨_,_,_,_,e⟩:=x;exact⟨_,e⟩
 |tup xs=>obtain⟨_,_,_,ob,e,_⟩:=x;exact⟨_,e⟩
 |dK aq=>obtain⟨_,_,_,_,o,_,_,e,_⟩:=x;exact⟨_,e⟩
 |dT aq=>obtain⟨_,_,_,_,o,_,_,e,_⟩:=x;exact⟨_,e⟩
 |set S n=>obtain⟨o,_,_,_,e,_⟩:=x;exact⟨_,e⟩
 |ins C dx fs=>obtain⟨_,_,_,e,_⟩:=x;exact⟨_,e⟩
 |own y=>obtain⟨_,e⟩:=x;exact⟨_,e⟩
 |xd fs=>obtain⟨_,⟨_,_,_,e,_⟩,_⟩:=x;exact⟨_,e⟩
 |rng lo hi=>obtain⟨_,_,_,e⟩:=x;exact⟨_,e⟩
 |bV ob u=>obtain⟨e,_⟩:=x;exact⟨_,e⟩
 |dw ps=>exact⟨_,x⟩
 |lam ps=>exact⟨_,x⟩
 |met f y=>exact⟨_,x⟩
 |ext φ=>obtain⟨_,⟨_,e⟩,_⟩:=x;exact⟨_,e⟩
def eX (P:ff) (w:im):iI:=fun outer H s E e s'=>∃(a C t:ag) (B:hX) (H':Hp),e=.ref a/\s'.os=s.os/\Gn s.gens.size s'.gens/\hX.FlyingW B outer a (.ref C) (.ref t) s'.heap /\
 (∀b o,s.heap.get? b=some o->b ∉ fm outer->∃o',B.get? b=some o')/\(∀b u,H' b=some u->∃o',B.get? b=some o')/\Un (fm outer) [] H H' s.heap s'.heap/\c7 P w H' s'.heap/\E (.ref C) none H'
section
variable {X:Cx}{pins:List (ag×kw)}{σ:St}{H H1:Hp}{s s1:ar}{B h':hX}
theorem Inv.pG (I:Inv X pins σ H s) {b:ag}(h1:b≠X.env.locals) (h2:b ∉ X.fs):b ∉ fm X.stack:=fun z=>by
 rcases i4.mp (I.gb b z) with q|q
 ·exact h1 q
 ·exact h2 q
theorem Inv.wZ (I:Inv X pins σ H s) {b:ag}{o:kw}(e:X.s₀.heap.get? b=some o):b≠X.env.locals:=fun z=>by
 have l:=gc e;have:=I.ok.above;rw[<- z]at this;exact absurd l (abf.mpr this)
theorem Inv.Uk (I1:Inv X pins σ H1 s1) (I:Inv X pins σ H s) (c1:∀b o,s1.heap.get? b=some o->b ∉ fm X.stack->∃o',B.get? b=some o') (c2:∀b u,H b=some u->∃o',B.get? b=some o')
  (k:B.StaysIn s.heap) (k':B.StaysIn h') (up:s.heap.UpToSlots h'):Inv X pins σ H {s with heap:=h'}:=by
 have same:∀b o',(∃o2,B.get? b=some o2)->s.heap.get? b=some o'->h'.get? b=some o':=fun b o' ⟨o2,e⟩ q=>by
  have z:=k b o2 e;rw[q]at z;cases z;exact k' b _ e
 refine⟨I.ok,I.os,I.bare,⟨fun b o q n hb hx=>?_,fun b o q n hb hx=>?_,I.base.free,fun b o q hx=>?_,I.base.tups,I.base.frzs,I.base.tbls⟩,?_,fun x c e=>?_,I.free,I.freeC,fun p hp=>?_,fun a o e=>?_,I.len⟩
 ·exact same b o (c1 b o (I1.base.keep b o q n hb hx) (I.pG (I.wZ q) hb)) (I.base.keep b o q n hb hx)
 ·obtain⟨sl,e⟩:=I.base.slot b o q n hb hx;obtain⟨_,o2,e2,nf⟩:=I.funs.mem hb;rw[e]at e2;cases e2;obtain⟨W6,e4⟩:=up b {o with slots:=sl} e nf
  exact⟨W6,e4⟩
 ·obtain⟨o',e⟩:=I.base.there b o q hx;by_cases hb:b∈X.fs
  ·obtain⟨_,o2,e2,nf⟩:=I.funs.mem hb;obtain⟨sl,e3⟩:=up b _ e2 nf;exact⟨_,e3⟩
  ·obtain⟨o1,q1⟩:=I1.base.there b o q hx;exact⟨o',same b o' (c1 b o1 q1 (I.pG (I.wZ q) hb)) e⟩
 ·obtain⟨m,hn,hl⟩:=I.loc;refine⟨m,up.ns hn,fun i x v a b c=>?_⟩
  obtain⟨u,r,l⟩:=hl i x v a b c;refine⟨u,r,?_⟩;rcases l with l|⟨kd,c,ec,o,ho,hd⟩
  ·exact .inl l
  ·obtain⟨sl,e⟩:=up c o ho fun vs z=>by rw[hd]at z;cases z
   exact .inr ⟨kd,c,ec,_,e,hd⟩
 ·obtain⟨v,o,ho,hd⟩:=I.cell x c e;obtain⟨sl,e⟩:=up c o ho fun vs z=>by rw[hd]at z;cases z
  exact⟨v,_,e,hd⟩
 ·obtain⟨p1,p2,p3,p4,p5⟩:=I.pin p hp;exact⟨same p.1 p.2 (c1 p.1 p.2 (I1.pin p hp).1 (I.pG p3 p4)) p1,p2,p3,p4,p5⟩
 ·refine(I.hok a o e).cG (fun b u hb q=>?_) (fun _ q=>q) fun _ _ q=>q
  rcases hb with z|z
  ·exact same b u (c2 b o (by rw[z];exact e)) q
  ·exact same b u (c2 b _ z) q
end
section
variable {P:ff}{w:im}{K:ba}{mg:bi->Option al}{base:hX}{N:List bi}{qual:bi}{scope:sB}{f:ag}{cd:al}{A:l5}{outer:List IN}{s0:ar}{H0:Hp}{E:XK}
theorem CJ:Passes (eX P w) (gU (eX P w) P w K mg base N qual scope f cd A outer s0 H0 E) E :=by
 intro pins σ H s e s' I h;obtain⟨a,C,t,B,H',rfl,os,gn,fl,c1,c2,un,hok,q⟩:=h;have I':=I.sJ (ch:=[]) os un hok gn (fun b z=>absurd z (by simp))
 refine wpAny_leaves_onW (cls:=.ref C) (a0:=.ref t) I.ok.frames rfl fl fun h' Ul up=>?_
 have I2:=I.Uk I' c1 c2 fl.1 Ul.1 up;refine⟨a,C,t,B,H',rfl,I2.os,I2.bare,Ul,fun b o e n=>?_,c2,I2.base,I2.hok,q⟩
 obtain⟨o1,e1⟩:=I.base.there b o e (fun z=>absurd (show b∈([]:List ag) from z) (by simp))
 exact c1 b o1 e1 (I.pG (I.wZ e) n)
def Raises (X:Cx) (E:XK):Prop:=∀(pins:List (ag×kw)) (σ:St) (H:Hp) (s:ar) (C:ag) (h':hX) (a:ag) (vs:List al),Inv X pins σ H s->hX.MadeExcOf s.heap h' a (.ref C) vs->E (.ref C) none H->X.xe (.ref a) {s with heap:=h'}
theorem E9:Raises (gU (eX P w) P w K mg base N qual scope f cd A outer s0 H0 E) E :=by
 intro pins σ H s C h' a vs I hx q;have c1:∀b o,s.heap.get? b=some o->b ∉ fm (gU (eX P w) P w K mg base N qual scope f cd A outer s0 H0 E).stack->∃o',(BN s.heap (fm (gU (eX P w) P w K mg base N qual scope f cd A outer s0 H0 E).stack)).get? b=some o':=
  fun b o e n=>⟨o,YA _ e n⟩
 have c2:∀b u,H b=some u->∃o',(BN s.heap (fm (gU (eX P w) P w K mg base N qual scope f cd A outer s0 H0 E).stack)).get? b=some o':=fun b u hu=>by
  obtain⟨o,e⟩:=(I.hok b u hu).there;exact c1 b o e fun z=>by rw[I.m9 b z]at hu;cases hu
 have st:(BN s.heap (fm (gU (eX P w) P w K mg base N qual scope f cd A outer s0 H0 E).stack)).StaysIn s.heap:=fun b o e=>aam _ e
 refine wpAny_leaves_madeW (cls:=.ref C) I.ok.frames rfl st (PySem.W.funFrames_hide I.stack fun env he b hb=>aan.mpr ⟨env,he,hb⟩) hx fun Y6 t fl _ _ up=>?_
 have I2:=I.Uk I c1 c2 st fl.1 ((hX.UpToSlots.of_keeps hx.keeps).trans up);refine⟨a,C,t,_,H,rfl,I2.os,I2.bare,fl,fun b o e n=>?_,c2,I2.base,I2.hok,q⟩
 obtain⟨o1,e1⟩:=I.base.there b o e (fun z=>absurd (show b∈([]:List ag) from z) (by simp))
 exact c1 b o1 e1 (I.pG (I.wZ e) n)
end
theorem Ly {K:ba}{h:hX}{C:ag}{vR:List al}{newId:String}(X:K.In h) (q:aaz K C vR newId=true) :
  ∃bm Nn nm qn bs hd sn sub ab col dd k0 k1 k2 k3 k5 mN,h.get? C=some (excClassObj nm qn C Nn bs bm hd sn sub ab col dd k0 k1 k2 k3 k5 newId)/\h.Ns Nn mN/\mN "__init__" = none/\OwnTail h vR bm :=by
 unfold aaz at q;split at q;case h_2=>cases q
 case h_1 dd cd sl ho=>
  split at q;case h_2=>cases q
  case h_1 C' bm k0 k1 k2 k3 n k5 hm hs=>
   rw[B0,B0,B0,B0,B0]at q;obtain⟨⟨⟨⟨⟨q1,q2⟩,q3⟩,q4⟩,q5⟩,q6⟩:=q;have e1:C'=C:=beq_iff_eq.mp q1;have e2:n=newId:=beq_iff_eq.mp q2;have e3:cd.hasDel=false :=by simpa using q3
   subst e1 e2;obtain⟨nm,bs,mro,ns,qn,hd,sn,sub,ab,col,del⟩:=cd;dsimp only at hm e3 q5 q6;subst hm e3;have es:sl=#[k0,k1,k2,k3,some (.builtin n),k5] :=by
    cases sl with
    |mk l=>exact congrArg Array.mk hs
   subst es;exact⟨bm,ns,nm,qn,bs,hd,sn,sub,ab,col,dd,k0,k1,k2,k3,k5,_,X _ _ ho,hX.Ns.of_isNs (PySem.W.isNs_of_in X q5),PySem.W.nsMap_none_of_in X q5 (beq_iff_eq.mp q6),PySem.W.tail_of_in X q4⟩
section
variable {X:Cx}{x:bi}{C:ag}{m4:c8}{rest:List c8}{t:TA}{vR:List al}{B newId yo:String}{E:XK}{np aX pos:u7}
def O1 (C:ag) (E:XK) (t:TA):TS:=fun _ σ H=>t σ H fun vs H1=>vs.length<=sizeLine/\E (.ref C) none H1
theorem Ie (O:aaz X.K C vR newId=true) (FB:ExcBaseFacts B newId yo vR) (hc:X.calm=true) (hR:Raises X E) (hg:Gl X x) (hm:X.mg x=some (.ref C)) (ha:PA X (m4::rest) t)
  (gd:(x==("__debug__" : bi))=false :=by decide) (he:starEach (m4::rest) X.env=(false,eval m4 X.env)::starEach rest X.env :=by rfl) (cL:(backTo aX (starEach rest X.env)).any (·.1)=false :=by rfl) :
  PS X (.Raise (some (.Call (.Name x np) (m4::rest) [] aX)) none pos) (O1 C E t) :=by
 refine⟨fun pins s σ H D I h=>?_⟩
 obtain⟨bm,Nn,nm,qn,bs,hd,sn,sub,ab,col,dd,k0,k1,k2,k3,k5,mN,hC,hN,W7,T⟩:=Ly I.ok.mod.kin O;have hp:(backTo aX (starEach (m4::rest) X.env)).any (·.1)=false :=by
  rw[he];exact cL
 have mH:=ha aX pins s σ H _ I h;rw[he]at mH;refine wpAny_Raise_call_subT (C:=C) (nm:=nm) (q:=qn) (N:=Nn) (bs:=bs) (bm:=bm) (hdct:=hd) (sn:=sn) (sub:=sub) (ab:=ab) (col:=col) (dd:=dd) (k0:=k0) (k1:=k1) (k2:=k2) (k3:=k3) (k5:=k5) FB (mN:=mN)
  (T.hasType FB.hasBase) (I.ok.hd hc) hp W7 (qy I hg hm ⟨rfl,?_⟩ gd)
 rw[he];refine ZS (thn mH fun us s2 ⟨vs,H2,I2,r,l,q⟩=>?_)
 exact⟨rfl,by rw[<- r.length];exact l,I2.bk _ _ hC,hN.keeps I2.bk,T.keeps I2.bk,fun h' a hx=>hR pins σ H2 s2 C h' a us I2 hx q⟩
end
end L2
namespace L2
open PySem PySem.Spec PyProof.Rows PySem.W Builtin Builtin.ObjectAttr Builtin.Getset_descriptor
def ExcAt (C a:ag) (h:hX):Prop:=∃o vs,h.get? a=some o/\o.cls=.ref C/\o.data=.fields vs
def VO (C a:ag):HO:=.ext (ExcAt C a)
structure O2 (K:Frag) (C:ag):Prop where
 cls:(clsIn K C).isSome=true
 ga:findIn K (.ref C) "__getattribute__" = some (some (.builtin "BaseException.__getattribute__"))
 gt:findIn K (.ref C) "__getattr__" = some none
 cl:findIn K (.ref C) "__class__" = some (some (.builtin "object.__class__"))
 gg:specialIn K (.builtin "object.__class__") "__get__" = some (some (.builtin "getset_descriptor.__get__"))
 tk:takesIn K (.builtin "object.__class__")=some true
 ob:mroIn K C (.type "object")=some true
 be:mroIn K C (.type "BaseException")=some true
end L2
namespace L2
open PySem PySem.Spec PyProof.Rows PySem.W
section
variable {X:Cx}{pins pins':List (ag×kw)}{σ:St}{H:Hp}{s:ar}{T:al->ar->Prop}
theorem Inv.SD {a:ag}{o:HO}(I:Inv X pins σ H s) (n0:H a=none) (n1:X.s₀.heap.get? a=none) (n2:a≠X.env.locals) (n3:∀x c,X.env.cells.lookup x=some c->c≠a) (n4:∀p∈X.pn++pins,p.1≠a)
  (ob:ObjOk X.prog X.w (upd H a o) s.heap a o):Inv X pins σ (upd H a o) s :=by
 have un:∀b u,H b=some u->upd H a o b=some u:=fun b u e=>by rw[ah (bp e n0)];exact e
 refine⟨I.ok,I.os,I.bare,⟨I.base.keep,I.base.slot,fun b u q n hx=>?_,I.base.there,fun b xs e=>un _ _ (I.base.tups b xs e),fun b u v e=>un _ _ (I.base.frzs b u v e),fun b ps e=>?_⟩,I.loc,I.cell,?_,fun x c e=>?_,fun p hp=>?_,fun b u e=>?_,I.len⟩
 ·rw[ah (fun z=>by rw[z,n1]at q;cases q)]
  exact I.base.free b u q n hx
 ·obtain⟨more,z⟩:=I.base.tbls b ps e;exact⟨more,un _ _ z⟩
 ·rw[ah (ze n2)];exact I.free
 ·rw[ah (n3 x c e)];exact I.freeC x c e
 ·obtain⟨p1,p2,p3⟩:=I.pin p hp;exact⟨p1,by rw[ah (n4 p hp)];exact p2,p3⟩
 ·by_cases hb:b=a
  ·subst hb;rw[aE]at e;cases e;exact ob
  ·rw[ah hb]at e;exact(I.hok b u e).cG (fun _ _ _ q=>q) (fun c q=>un _ _ q) fun c xs q=>un _ _ q
end
structure Fb (K:Frag) (C0:ag):Prop where
 ty:typeIn K (.ref C0)=some (.type "type")
 be:subIn K (.ref C0) (.type "BaseException")=some true
 it:(clsIn K C0).isSome=true
theorem w5 {P:ff}{w:im}{X:Cx}:Passes (eX P w) X (fun _ _ _=>False):=fun _ _ _ _ _ _ _ h=>by
 obtain⟨_,_,_,_,_,_,_,_,_,_,_,_,_,q⟩:=h;exact q.elim
theorem vD.EG {P:ff}{w:im}{K:ba}{mg:bi->Option al}{base:hX}{x qual:bi}{st:sw}{f:ag}{fd:ln}{N ps:List bi}{k:Nat}{sp:Sp}(F:vD K x qual st f fd) (S:aS N ps (ai st)) (len:∀vs H Q E,sp vs H Q E->vs.length=ps.length)
  (nL:∀(A:l5) (outer:List IN) (s:ar) (H:Hp) (vs:List V) (Q:VK) (E:XK),ck k (A.deeper (envOfC qual (ai st) s.heap.objs.size f fd.code))->sp vs H Q E->
   ∃t,iG (gU (eX P w) P w K mg base N qual (ai st) f fd.code A outer s H E) (bQ st) t/\t {nx:=fun _ H'=>Q .ax H',rt:=Q} (start N vs) H):FnOk P w K mg base (eX P w) (k+1) f fd ps sp :=by
 obtain⟨oc,od,kV,doc,pm,an,dn,ct,mB,rfl,lk,eU⟩:=F.ex;exact Cg lk eU S len fun A outer s H vs Q E hr mC=>nL A outer s H vs Q E hr mC
def Um:List al:=[.type "ValueError",.type "Exception",.type "BaseException",.type "object"]
def Ig (K:Frag) (C0 C:ag):Bool:=excIn K C Um "ValueError.__new__" && (clsIn K C).isSome && findIn K (.ref C) "__getattribute__" == some (some (.builtin "BaseException.__getattribute__")) && findIn K (.ref C) "__getattr__" == some none &&
 findIn K (.ref C) "__class__" == some (some (.builtin "object.__class__")) && mroIn K C (.type "object")==some true && mroIn K C (.type "BaseException")==some true && subIn K (.ref C) (.ref C0)==some true && kitOne K (.ref C) (.type "ValueError")==some true
def CK (K:Frag) (C0:ag) (cs:List ag):Bool:=cs.all (Ig K C0) && (cs.all fun C=>cs.all fun D=>kitOne K (.ref C) (.ref D)==some (decide (C=D))) && specialIn K (.builtin "object.__class__") "__get__" == some (some (.builtin "getset_descriptor.__get__")) && takesIn K (.builtin "object.__class__")==some true &&
 typeIn K (.ref C0)==some (.type "type") && subIn K (.ref C0) (.type "BaseException")==some true && (clsIn K C0).isSome
structure Ih (K:Frag) (C0:ag) (cs:List ag):Prop where
 ex:∀C∈cs,excIn K C Um "ValueError.__new__" = true
 cl:∀C∈cs,O2 K C
 sub:∀C∈cs,subIn K (.ref C) (.ref C0)=some true
 one:∀C∈cs,∀D∈cs,kitOne K (.ref C) (.ref D)=some (decide (C=D))
 val:∀C∈cs,kitOne K (.ref C) (.type "ValueError")=some true
 top:Fb K C0
theorem Lz {K:Frag}{C0:ag}{cs:List ag}(h:CK K C0 cs=true):Ih K C0 cs :=by
 unfold CK at h;simp only[B0]at h;obtain⟨⟨⟨⟨⟨⟨h1,h2⟩,h3⟩,h4⟩,h5⟩,h6⟩,h7⟩:=h;have all:∀C∈cs,Ig K C0 C=true:=wT.mp h1;have part:∀C∈cs,_:=fun C hC=>by
  have z:=all C hC;unfold Ig at z;simp only[B0]at z;exact z
 refine⟨fun C hC=>(part C hC).1.1.1.1.1.1.1.1,fun C hC=>?_,fun C hC=>beq_iff_eq.mp (part C hC).1.2,fun C hC D hD=>beq_iff_eq.mp (wT.mp (wT.mp h2 C hC) D hD),fun C hC=>beq_iff_eq.mp (part C hC).2,⟨beq_iff_eq.mp h5,beq_iff_eq.mp h6,h7⟩⟩
 obtain⟨⟨⟨⟨⟨⟨⟨⟨_,p1⟩,p2⟩,p3⟩,p4⟩,p5⟩,p6⟩,_⟩,_⟩:=part C hC;exact⟨p1,beq_iff_eq.mp p2,beq_iff_eq.mp p3,beq_iff_eq.mp p4,beq_iff_eq.mp h3,beq_iff_eq.mp h4,beq_iff_eq.mp p5,beq_iff_eq.mp p6⟩
end L2
namespace L2
open PySem PySem.Spec PyProof.Rows Builtin.SmallTypes
def SqIt (k:Bool) (h:hX) (it a:ag) (i:Nat):Prop:=if k=true then h.IsListIter it a i else h.IsTupleIter it a i
def cW (k:Bool) (h:hX) (a:ag) (items:Array al):Prop:=if k=true then h.IsList a items else h.IsTuple a items
theorem SqIt.at {k:Bool}{h h':hX}{it a:ag}{i:Nat}(x:SqIt k h it a i) (q:∀o,h.get? it=some o->h'.get? it=some o):SqIt k h' it a i :=by
 cases k with
 |true=>exact hX.IsListIter.at (h:=h) x q
 |false=>exact hX.IsTupleIter.at (h:=h) x q
theorem SqIt.obj {k:Bool}{h:hX}{it a:ag}{i:Nat}(x:SqIt k h it a i):∃o,h.get? it=some o/\∃vs,o.data=.fields vs :=by
 cases k with
 |true=>obtain⟨o,e,_,d⟩:=(show h.IsListIter it a i from x);exact⟨o,e,_,d⟩
 |false=>obtain⟨o,e,_,d⟩:=(show h.IsTupleIter it a i from x);exact⟨o,e,_,d⟩
theorem cW.obj {k:Bool}{h:hX}{a:ag}{items:Array al}(x:cW k h a items):∃o n,h.get? a=some o/\o.data=.seq items n :=by
 cases k with
 |true=>obtain⟨o,e,_,n,d⟩:=(show h.IsList a items from x);exact⟨o,n,e,d⟩
 |false=>obtain⟨o,e,_,n,d⟩:=(show h.IsTuple a items from x);exact⟨o,n,e,d⟩
theorem cW.at {k:Bool}{h h':hX}{a:ag}{items:Array al}(x:cW k h a items) (q:∀o,h.get? a=some o->h'.get? a=some o):cW k h' a items :=by
 cases k with
 |true=>exact hX.IsList.at (h:=h) x q
 |false=>exact hX.IsTuple.at (h:=h) x q
section
variable {prog:ff}{w:im}{A:l5}{E:al->ar->Prop}{s:ar}{it a:ag}{i:Nat}{items:Array al}{x:al}{k:Bool}
theorem Ii {Q:Option al->ar->Prop}(hit:s.heap.IsTupleIter it a i) (ha:s.heap.IsTuple a items) (hx:items[i]?=some x)
  (hQ:∀h',h'.IsTupleIter it a (i+1)->v6 it s.heap h'->Q (some x) {s with heap:=h'}):wpAny (model prog w) A (callSpecial? (.ref it) "__next__") Q E s :=by
 obtain⟨o,ho,hc,hd⟩:=id hit;obtain⟨ol,yc,_,nl,O3⟩:=ha;have sl:=F.slot_tuple_iterator_next;refine wv (name:=wp "__next__") hit.typeIs sl (wb sl hit.typeIs F.entry_tuple_iterator_next ?_ (F.args_tuple_iterator_next_1 _))
 have nn:¬ ((l6 a==wS)=true):=i0;refine ac (m:=field (.ref it) 0) (BB ho hd (x:=.ref a) rfl ?_);rw[if_neg nn];refine ac (m:=field (.ref it) 1) (BB ho hd (x:=.int i 0) rfl (ac (m:=seqItems? (.ref a)) (IS yc O3 ?_)));simp only[wE,hx];refine ac (m:=setField _ _ _) (wpAny_setField ho hd (by simp) (bn ⟨x,rfl,hQ _ ?_ (Cc ..)⟩))
 refine⟨_,DO _ ho (ZO (NJ hd _)),(aaG ..).trans hc,?_⟩;rw[NJ hd];simp[rawInt]
theorem Ij {Q:Option al->ar->Prop}(hh:A.handled=none) (hit:s.heap.IsTupleIter it a i) (ha:s.heap.IsTuple a items) (hx:items[i]?=none)
  (hE:∀h' e,aak it s.heap h'->(∃o,h'.get? e=some o/\o.cls=.type "StopIteration")->E (.ref e) {s with heap:=h'}):wpAny (model prog w) A (callSpecial? (.ref it) "__next__") Q E s :=by
 obtain⟨o,ho,hc,hd⟩:=id hit;obtain⟨ol,yc,_,nl,O3⟩:=ha;have sl:=F.slot_tuple_iterator_next;refine wv (name:=wp "__next__") hit.typeIs sl (wb sl hit.typeIs F.entry_tuple_iterator_next ?_ (F.args_tuple_iterator_next_1 _))
 have nn:¬ ((l6 a==wS)=true):=i0;refine ac (m:=field (.ref it) 0) (BB ho hd (x:=.ref a) rfl ?_);rw[if_neg nn];refine ac (m:=field (.ref it) 1) (BB ho hd (x:=.int i 0) rfl (ac (m:=seqItems? (.ref a)) (IS yc O3 ?_)));simp only[wE,hx];refine ac (GG (ac (m:=setField _ _ _) (wpAny_setField ho hd (by simp) ?_)))
 refine ac (m:=newExc (.type "StopIteration") []) ?_
 unfold newExc newTuple;refine ac (xb ?_ (by size_fits))
 refine ac (m:=firstArgMember _ _) (aaj (a:=wS) (by first|rfl|(simp only[firstArgMember];rfl)) (xb ?_ (by size_fits)))
 refine wpAny_raiseNew_none hh ?_;exact hE _ _ (((Cc ..).extBut.push _).push _) ⟨_,db _ rfl,rfl⟩
theorem qC {Q:al->ar->Prop}(hit:SqIt k s.heap it a i) (ha:cW k s.heap a items) (hx:items[i]?=some x)
  (hQ:∀h',SqIt k h' it a (i+1)->v6 it s.heap h'->Q x {s with heap:=h'}):wpAny (model prog w) A (nextOf (.ref it)) Q E s :=by
 cases k with
 |true=>exact wpAny_nextOf_list_item hit ha hx hQ
 |false=>
  unfold nextOf;exact ac (Ii hit ha hx fun h' a b=>bn (hQ h' a b))
theorem uJ {Q:al->ar->Prop}(hh:A.handled=none) (hit:SqIt k s.heap it a i) (ha:cW k s.heap a items) (hx:items[i]?=none)
  (hE:∀h' e,aak it s.heap h'->(∃o,h'.get? e=some o/\o.cls=.type "StopIteration")->E (.ref e) {s with heap:=h'}):wpAny (model prog w) A (nextOf (.ref it)) Q E s :=by
 cases k with
 |true=>exact wpAny_nextOf_list_end hh hit ha hx hE
 |false=>
  unfold nextOf;exact ac (Ij hh hit ha hx hE)
end
section
variable {prog:ff}{w:im}{A:l5}{E:al->ar->Prop}{s:ar}{e it a:ag}{i:Nat}{items:Array al}{x old:al}{k:Bool}
theorem Fc {Q:al->ar->Prop}(he:ZD s.heap e it i old) (dZ:e≠it) (hit:SqIt k s.heap it a i) (ha:cW k s.heap a items) (hx:items[i]?=some x)
  (hQ:∀h',abk h' e it ((i:Int)+1) x s.heap.objs.size->SqIt k h' it a (i+1)->h'.get? s.heap.objs.size=some {cls:=.type "tuple",data:=.seq #[.int i s.toks,x]}->
   (∀b o,b≠e->b≠it->s.heap.get? b=some o->h'.get? b=some o)->Q (.ref s.heap.objs.size) {s with heap:=h',toks:=s.toks+1}) :
  wpAny (model prog w) A (ss.«enumerate.__next__» ⟨[.ref e],[]⟩) (fun fin s'=>∃v,fin=.done (.ret v)/\Q v s') E s :=by
 obtain⟨hp,g,d,tk,os⟩:=s;refine ac (m:=field (.ref e) 2) (BB he rfl (x:=.ref it) rfl (ac (m:=nextOf (.ref it)) (qC hit ha hx fun h1 Fd (hV:v6 it hp h1)=>?_)))
 have e1:ZD h1 e it i old:=(hV.2 e dZ).trans he;refine ac (m:=field (.ref e) 3) (BB e1 rfl (x:=rawInt i) rfl (ac (m:=field (.ref e) 4) (BB e1 rfl (x:=.none) rfl (ac (m:=mkInt i) (wpAny_mkInt ?_)))));refine ac (m:=setField (.ref e) 3 _) (At e1 (by simp) fun h2 (e2:ZD h2 e it ((i:Int)+1) old) (fu:v6 e h1 h2)=>?_)
 refine ac (m:=setField (.ref e) 4 .none) (At e2 (by simp) fun h3 (e3:ZD h3 e it ((i:Int)+1) old) (mI:v6 e h2 h3)=>?_)
 refine ac (m:=newTuple [.int i tk,x]) (aag ?_);have z3:h3.objs.size=hp.objs.size :=by rw[mI.1,fu.1,hV.1]
 have el:e<hp.objs.size:=gc he;have e4:ZD (h3.push {cls:=.type "tuple",data:=.seq #[.int i tk,x]}) e it ((i:Int)+1) old:=br _ e3
 have t4:(h3.push {cls:=.type "tuple",data:=.seq #[.int i tk,x]}).get? hp.objs.size=some {cls:=.type "tuple",data:=.seq #[.int i tk,x]}:=z3▸db _ rfl
 have up:∀b o,b≠e->h1.get? b=some o->(h3.push {cls:=.type "tuple",data:=.seq #[.int i tk,x]}).get? b=some o:=fun b o n q=>br _ (mI.extBut b o n (fu.extBut b o n q))
 generalize h3.push {cls:=.type "tuple",data:=.seq #[.int i tk,x]}=h4 at e4 t4 up
 rw[z3];refine ac (m:=ownedTupleIsFree (.ref e)) ?_;unfold ownedTupleIsFree;refine ac (m:=field (.ref e) 0) (BB e4 rfl (x:=.none) rfl (bn ?_));rw[if_pos rfl];refine ac (GG (ac (m:=field (.ref e) 5) (BB e4 rfl (x:=old) rfl ?_)));refine ac (m:=setField (.ref e) 5 x) (At e4 (by simp) fun h5 (e5:ZD h5 e it ((i:Int)+1) x) (yp:v6 e h4 h5)=>?_)
 refine ac (m:=ownedTupleHandOut (.ref e) _) ?_;unfold ownedTupleHandOut;refine ac (At e5 (by simp) fun h6 (e6:abk h6 e it ((i:Int)+1) x hp.objs.size) (W8:v6 e h5 h6)=>?_)
 refine At e6 (by simp) fun h7 (e7:abk h7 e it ((i:Int)+1) x hp.objs.size) (J0:v6 e h6 h7)=>?_
 have O4:∀b o,b≠e->h4.get? b=some o->h7.get? b=some o:=fun b o n q=>J0.extBut b o n (W8.extBut b o n (yp.extBut b o n q))
 refine ac (aai (bn ⟨_,rfl,hQ h7 e7 (Fd.at fun o q=>O4 it o (ze dZ) (up it o (ze dZ) q)) (O4 _ _ (Lo el) t4) fun b o n1 n2 q=>O4 b o n1 (up b o n1 ((hV.2 b n2).trans q))⟩))
theorem Fe {Q:Option al->ar->Prop}(he:ZD s.heap e it i old) (dZ:e≠it) (hit:SqIt k s.heap it a i) (ha:cW k s.heap a items) (hx:items[i]?=some x)
  (hQ:∀h',abk h' e it ((i:Int)+1) x s.heap.objs.size->SqIt k h' it a (i+1)->h'.get? s.heap.objs.size=some {cls:=.type "tuple",data:=.seq #[.int i s.toks,x]}->
   (∀b o,b≠e->b≠it->s.heap.get? b=some o->h'.get? b=some o)->Q (some (.ref s.heap.objs.size)) {s with heap:=h',toks:=s.toks+1}) :
  wpAny (model prog w) A (pyNext (.ref e)) Q E s :=by
 have hT:s.TypeIs (.ref e) "enumerate" := ⟨_,he,rfl⟩
 have sl:=F.slot_enumerate_next;unfold pyNext;exact ac (LG (wv (name:=wp "__next__") hT sl (wb sl hT F.entry_enumerate_next (Fc he dZ hit ha hx fun h' a b c d=>bn (hQ h' a b c d)) (F.args_enumerate_next_1 _))))
theorem Ff {Q:Option al->ar->Prop}(hh:A.handled=none) (he:ZD s.heap e it i old) (hit:SqIt k s.heap it a i) (ha:cW k s.heap a items) (hx:items[i]?=none)
  (hQ:∀h',aak it s.heap h'->Q none {s with heap:=h'}):wpAny (model prog w) A (pyNext (.ref e)) Q E s :=by
 have hT:s.TypeIs (.ref e) "enumerate" := ⟨_,he,rfl⟩
 have sl:=F.slot_enumerate_next;unfold pyNext;refine ac (LG (wv (name:=wp "__next__") hT sl (wb sl hT F.entry_enumerate_next ?_ (F.args_enumerate_next_1 _))))
 refine ac (m:=field (.ref e) 2) (BB he rfl (x:=.ref it) rfl (ac (m:=nextOf (.ref it)) (uJ hh hit ha hx fun h' y eb ⟨o,ho,hc⟩=>?_)))
 exact ac (XV (T := "StopIteration") (b:=true) ⟨o,ho,hc⟩ aaf (bn (hQ _ eb)))
end
end L2
namespace L2
open PySem PySem.Spec PyProof.Rows Builtin.SmallTypes AutoSeq1
theorem yq:bootBuiltins "enumerate" = some (.type "enumerate") :=by decide +kernel
theorem O5:bootBuiltins "zip" = some (.type "zip") :=by decide +kernel
section
variable {X:Cx}{pins:List (ag×kw)}{σ:St}{H:Hp}{s:ar}{h':hX}
theorem Inv.qD {t':Nat}{ch:List ag}(I:Inv X pins σ H s) (k:∀b o,b ∉ ch->s.heap.get? b=some o->h'.get? b=some o) (hf:∀b∈ch,dg X pins H b):Inv X pins σ H {s with heap:=h',toks:=t'}:=by
 have D4:∀b u,H b=some u->b ∉ ch:=fun b u e z=>by rw[(hf b z).1]at e;cases e
 refine I.step (g':=s.gens) (d':=s.drawn) (ch:=ch) (fun b hb=>?_) (fun b o _ _ hc e _=>k b o hc e) (fun b o _ _ hc e _=>⟨o.slots,k b o hc e⟩) (fun _ _ _ _ n=>n)
  (fun b o hc e=>⟨o,k b o hc e⟩) (fun _ _ e=>e) (fun _ _ _ e=>e) (fun b ps e=>⟨#[],by rw[e];simp⟩) (fun m hm=>?_) (fun b u e=>?_) I.bare.self
 ·obtain⟨_,f1,f2,f3,f4,f5⟩:=hf b hb;exact⟨f3,f1,f4,f5⟩
 ·obtain⟨o,es,ep,ho,r⟩:=hm;exact⟨o,es,ep,k _ o (fun z=>(hf _ z).2.1 rfl) ho,r⟩
 ·refine(I.hok b u e).cG (fun c v hc q=>k c v ?_ q) (fun _ q=>q) fun _ _ q=>q
  rcases hc with z|z
  ·rw[z];exact D4 b u e
  ·exact D4 c _ z
theorem Inv.pair {t:ag}{a b:V}{u v:al}{h1:hX}{tk tk0:Nat}(I0:Inv X pins σ H {s with toks:=tk0}) (ht:s.heap.objs.size<=t) (I:Inv X pins σ H {s with heap:=h1,toks:=tk}) (e:h1.get? t=some {cls:=.type "tuple",data:=.seq #[u,v]}) (ru:RelV a u) (rv:RelV b v) :
  Inv X pins σ (upd H t (.tup [a,b])) {s with heap:=h1,toks:=tk}:=by
 have f:=Inv.k6 (H':=H) I0 (b:=t) ht (I0.hok.fresh ht);refine I.SD f.1 ?_ f.2.1 f.2.2.2.2.1 f.2.2.2.2.2 ⟨by show 2<=sizeLine;decide,[u,v],.cons ru (.cons rv .nil),⟨_,e,rfl,_,rfl,rfl⟩⟩
 exact hX.get?_none_of_le (qr I0.sz ht)
end
def Sq (k:Bool) (K:ba) (H:Hp) (a:ag) (xs:List V):Prop:=if k=true then bL K H a xs else c9 K H a xs
theorem Inv.sq {X:Cx}{pins:List (ag×kw)}{σ:St}{H:Hp}{s:ar}{k:Bool}{a:ag}{xs:List V}(I:Inv X pins σ H s) (h:Sq k X.K H a xs):∃its:List al,Vals xs its/\cW k s.heap a its.toArray :=by
 cases k with
 |true=>obtain⟨its,rv,p,_⟩:=I.list (show bL X.K H a xs from h);exact⟨its,rv,p.isList⟩
 |false=>obtain⟨its,rv,p,_⟩:=I.tuple (show c9 X.K H a xs from h);exact⟨its,rv,p⟩
theorem Inv.yr {X:Cx}{pins:List (ag×kw)}{σ:St}{H:Hp}{s:ar}{k:Bool}{a:ag}{xs ys:List V}(I:Inv X pins σ H s) (h:Sq k X.K H a xs) (h':Sq k X.K H a ys):xs=ys :=by
 cases k with
 |true=>exact I.xt (show bL X.K H a xs from h) h'
 |false=>exact I.vm (show c9 X.K H a xs from h) h'
def J1 (k:Bool) (K:ba) (a:ag):It:=
 ⟨fun i H=>∃xs x,Sq k K H a xs/\xs[i]?=some x,fun i H v H'=>∃t x,H t=none/\v=.ref t/\H'=upd H t (.tup [.int (i:Nat),x])/\∀xs,Sq k K H a xs->xs[i]?=some x,fun i H=>∃xs,Sq k K H a xs/\xs.length<=i⟩
theorem Fg {P:ff}{w:im}{K:ba}{elts:List c8}{x1:Nat}{pos:u7}(k:Bool) (a it e:ag) (dZ:e≠it) :
  Turn P w K (.Tuple elts x1 pos) (J1 k K a) [e,it] e (fun i h=>(∃old,ZD h e it i old)/\SqIt k h it a i) where
 mem :=by simp
 obj:=fun i h st b hb=>by
  obtain⟨⟨old,he⟩,hit⟩:=st;simp only[i4,xL,or_false]at hb;rcases hb with rfl|rfl
  ·exact⟨_,he,fun v z=>nomatch z⟩
  ·obtain⟨o,ho,vs,hd⟩:=hit.obj;exact⟨o,ho,fun v z=>by rw[hd]at z;cases z⟩
 keep:=fun i h h' st q=>by
  obtain⟨⟨old,he⟩,hit⟩:=st;exact⟨⟨old,q e (by simp) _ he⟩,hit.at fun o ho=>q it (by simp) o ho⟩
 item :=by
  intro X hP hw hK hc i pins s σ H E I hf st hg;subst hP hw hK;obtain⟨⟨old,he⟩,hit⟩:=st;obtain⟨xs,x,hq,hx⟩:=hg;obtain⟨its,rv,p⟩:=I.sq hq;obtain⟨u,hu,ru⟩:=rv.get hx;refine Fe he dZ hit p (x:=u) (by simpa using hu) fun h1 eo Fd t1 kk=>?_
  refine⟨_,rfl,wpAny_letOwnedTupleGo_enum eo fun h2 e2 (fu:v6 e h1 h2)=>?_⟩
  have el:e<s.heap.objs.size:=gc he;have I2:Inv X pins σ H {s with heap:=h2,toks:=s.toks+1}:=I.qD (ch:=[e,it]) (fun b o hb q=>by
   simp only[i4,xL,or_false,not_or]at hb;exact(fu.2 b hb.1).trans (kk b o hb.1 hb.2 q)) hf
  have t2:h2.get? s.heap.objs.size=some {cls:=.type "tuple",data:=.seq #[.int i s.toks,u]}:=(fu.2 _ (Lo el)).trans t1
  have hn:H s.heap.objs.size=none:=I.hok.fresh (cb _);refine⟨.ref s.heap.objs.size,_,Inv.pair (s:=s) (tk0:=s.toks) I (cb _) I2 t2 (a:=.int (i:Nat)) ⟨s.toks,rfl⟩ ru,rfl,⟨_,x,hn,rfl,rfl,fun ys hy=>by rw[I.yr hy hq];exact hx⟩,⟨⟨u,?_⟩,Fd.at fun o q=>(fu.2 it (ze dZ)).trans q⟩,fun b hb=>?_⟩
  ·have c:((i+1:Nat):Int)=(i:Int)+1 :=by push_cast;rfl
   rw[c];exact e2
  ·have l:b≠s.heap.objs.size :=by
    simp only[i4,xL,or_false]at hb;rcases hb with rfl|rfl
    ·exact jp el
    ·obtain⟨o,ho,_⟩:=hit.obj;exact jp (gc ho)
   rw[ah l];exact(hf b hb).1
 done :=by
  intro X hP hw hK hc i pins s σ H E I hf st hg;subst hP hw hK;obtain⟨⟨old,he⟩,hit⟩:=st;obtain⟨xs,hq,hx⟩:=hg;obtain⟨its,rv,p⟩:=I.sq hq;have hl:=rv.length;exact Ff (I.ok.hd hc) he hit p (by simp;omega) fun h1 eb=>⟨rfl,I.qD (t':=s.toks) (ch:=[it]) (fun b o hb q=>eb b o (by simpa using hb) q) fun b hb=>hf b (by simp at hb;simp[hb])⟩
 self:=fun _ _ _ _ _ st h=>wpAny_pyIter_enum st.1.choose_spec h
abbrev Fh (a:ag):kw:={cls:=.type "tuple_iterator",data:=.fields #[.ref a,.int 0 0]}
abbrev O6 (it:ag):kw:={cls:=.type "enumerate",data:=.fields #[.none,.bool false,.ref it,rawInt 0,.none,.none]}
theorem LA (a:ag) (items:Array al) (n:Nat) (dct:Option ag) (sl:Array (Option al)) :
  Meets (ss.«enumerate.__new__» ⟨[.type "enumerate",.ref a],[]⟩) (fun _ R s=>s.heap.get? a=some {cls:=.type "tuple",dict:=dct,data:=.seq items n,slots:=sl} /\
   R (.ok (.ret (.ref (s.heap.push (Fh a)).objs.size))) {s with heap:=(s.heap.push (Fh a)).push (O6 s.heap.objs.size)}):=
 .of_wp fun prog w A R s h=>by
  obtain⟨hp,g,d,tk,os⟩:=s;obtain⟨hl,h⟩:=h;have uG:=sub_enumerate;have hT:hX.IsTuple (ar.heap ⟨hp,g,d,tk,os⟩) a items:=⟨_,hl,rfl,n,rfl⟩;wp_walk using aa6 hl
  refine wpAny_stack_any fun st=>bn ?_
  split;case h_1 c _ _ _ _ _=>cases (c==LB "enumerate")<;>(wp_walk using aa6 hl,SO hT;exact⟨_,rfl,h⟩)
  case h_2=>wp_walk using aa6 hl,SO hT;exact⟨_,rfl,h⟩
section
variable {prog:ff}{w:im}{A:l5}{E:al->ar->Prop}{s:ar}
theorem CL {a:ag}{items:Array al}{Q:al->ar->Prop}(hT:s.heap.IsTuple a items)
  (h:∀h',ZD h' (s.heap.objs.size+1) s.heap.objs.size 0 .none->h'.IsTupleIter s.heap.objs.size a 0->(∀b o,s.heap.get? b=some o->h'.get? b=some o)->Q (.ref (s.heap.objs.size+1)) {s with heap:=h'}) :
  wpAny (model prog w) A (call (.type "enumerate") [.ref a]) Q E s :=by
 obtain⟨ob,ho,hc,n,hd⟩:=hT;obtain⟨c,dd,dt,sl⟩:=ob;dsimp only at hc hd;subst hc hd;refine callType_new F.called_enumerate (by decide) (F.typeCall_enumerate_1 _) (F.newCall_enumerate_1 _) (fun obj=>F.args_object_init_2 obj _) F.entry_enumerate_new (LA a items n dd sl) ⟨ho,?_⟩
 have z:(s.heap.push (Fh a)).objs.size=s.heap.objs.size+1:=xw ..;have he:((s.heap.push (Fh a)).push (O6 s.heap.objs.size)).get? (s.heap.objs.size+1)=some (O6 s.heap.objs.size):=z▸db (s.heap.push (Fh a)) rfl;show _/\_;rw[z];exact⟨⟨_,he,rfl⟩,h _ he ⟨_,br _ (db _ rfl),rfl,rfl⟩ fun b o x=>br _ (br _ x)⟩
theorem Fi {k:Bool}{a:ag}{items:Array al}{Q:al->ar->Prop}(hT:cW k s.heap a items)
  (h:∀h',ZD h' (s.heap.objs.size+1) s.heap.objs.size 0 .none->SqIt k h' s.heap.objs.size a 0->(∀b o,s.heap.get? b=some o->h'.get? b=some o)->Q (.ref (s.heap.objs.size+1)) {s with heap:=h'}) :
  wpAny (model prog w) A (call (.type "enumerate") [.ref a]) Q E s :=by
 cases k with
 |true=>exact call_enumerate_list hT fun h' a b _ c=>h h' a b c
 |false=>exact CL hT h
end
section
variable {X:Cx}{l:c8}{tl:TE}{elts:List c8}{x1:Nat}{tp p pos:u7}
def SE (k:Bool) (K:ba) (tl:TE):TI:=fun σ H R=>tl σ H fun x H1=>∃a,x=.ref a/\(∃xs,Sq k K H1 a xs)/\R (J1 k K a) H1
theorem LC (k:Bool) {K:ba}(hK:X.K=K) (hg:Gl X "enumerate") (hm:X.mg "enumerate" = none) (hl:PE X l tl) (hs:starEach [l] X.env=[(false,eval l X.env)] :=by rfl) :
  PI X (.Tuple elts x1 tp) (.Call (.Name "enumerate" p) [l] [] pos) (SE k K tl) :=by
 subst hK;intro pins s σ H R I h;refine ET (gY I hg hm yq ?_);refine Cf ?_ hs rfl;rw[hs];refine LH (thn (hl pins s σ H _ I h) fun v s1 ⟨x,H1,I1,r1,q1⟩=>Pc ?_)
 obtain⟨a,rfl,⟨xs,hq⟩,q⟩:=q1;cases (show v=l6 a from r1);obtain⟨its,rv,sq⟩:=I1.sq hq;refine Fi sq fun h' he hit kk=>?_
 refine wpAny_pyIter_enum he ?_;have I2:Inv X pins σ H1 {s1 with heap:=h'}:=I1.kept (t':=s1.toks) kk
 have ne:s1.heap.objs.size+1≠s1.heap.objs.size:=Lo (Fa _);refine⟨_,[s1.heap.objs.size+1,s1.heap.objs.size],_,J1 k X.K a,H1,rfl,I2,Fg k a _ _ ne,⟨⟨_,he⟩,hit⟩,fun b hb=>?_,q⟩
 simp only[i4,xL,or_false]at hb;rcases hb with rfl|rfl
 ·exact I1.k6 (ES _) (I1.hok.fresh (ES _))
 ·exact I1.k6 (cb _) (I1.hok.fresh (cb _))
end
def CM (J:It) (ys:List (V×V)) (H:Hp):Prop:=∀i,(i<ys.length->J.go i H/\∀x H',J.yld i H x H'->∃t p,H t=none/\x=.ref t/\ys[i]?=some p/\H'=upd H t (.tup [p.1,p.2]))/\(ys.length<=i->J.stop i H)
theorem vT {k:Bool}{K:ba}{a:ag}{ys:List V}{H:Hp}(h:Sq k K H a ys):CM (J1 k K a) ((ii ys.length).map fun i=>(V.int (i:Nat),ys.getD i .ax)) H:=fun i=>by
 have el:((ii ys.length).map fun i=>(V.int (i:Nat),ys.getD i .ax)).length=ys.length :=by simp
 rw[el];refine⟨fun hi=>⟨⟨ys,ys[i],h,ap hi⟩,fun x H' ⟨t,y,n,e1,e2,e3⟩=>⟨t,(.int (i:Nat),y),n,e1,?_,e2⟩⟩,fun hi=>⟨ys,h,hi⟩⟩
 rw[ce,Gc hi];have:=e3 ys h;show some (V.int (i:Nat),ys.getD i .ax)=_;rw[ci,this];rfl
section
variable {prog:ff}{w:im}{A:l5}{E:al->ar->Prop}{s:ar}{z TI TO i1 i2 l1 l2:ag}{n1 n2:Nat}{xs ys:Array al}{x y a b:al}{k1 k2:Bool}
theorem Ik {Q:al->ar->Prop}(D:abh z TI TO i1 i2 l1 l2) (hz:YO s.heap z TI TO .none) (i7:IT s.heap TI (.ref i1) (.ref i2)) (jo:IT s.heap TO a b)
  (h1:SqIt k1 s.heap i1 l1 n1) (h2:SqIt k2 s.heap i2 l2 n2) (q1:cW k1 s.heap l1 xs) (q2:cW k2 s.heap l2 ys) (hx:xs[n1]?=some x) (hy:ys[n2]?=some y)
  (hQ:∀h',YO h' z TI TO (rawInt s.heap.objs.size)->IT h' TO x y->SqIt k1 h' i1 l1 (n1+1)->SqIt k2 h' i2 l2 (n2+1)->IT h' s.heap.objs.size x y->
   (∀c o,c≠z->c≠TO->c≠i1->c≠i2->s.heap.get? c=some o->h'.get? c=some o)->Q (.ref s.heap.objs.size) {s with heap:=h'}) :
  wpAny (model prog w) A (ss.«zip.__next__» ⟨[.ref z],[]⟩) (fun fin s'=>∃v,fin=.done (.ret v)/\Q v s') E s :=by
 refine ac (m:=field (.ref z) 2) (BB hz rfl (x:=.bool false) rfl (ac (m:=field (.ref z) 3) (BB hz rfl (x:=.ref TI) rfl (ac (m:=seqItems? (.ref TI)) (IS i7 rfl ?_)))));refine ac (m:=ownedTupleIsFree (.ref z)) ?_;unfold ownedTupleIsFree;refine ac (m:=field (.ref z) 0) (BB hz rfl (x:=.none) rfl (bn ?_));rw[if_pos rfl];refine ac (GG (ac (m:=field (.ref z) 4) (BB hz rfl (x:=.ref TO) rfl (ac (m:=setField (.ref z) 0 .ellipsis) (At hz (by simp) fun g1 (z1:YO g1 z TI TO .ellipsis) hV=>?_)))))
 refine ac ?_;simp only[List.zipIdx_cons,List.zipIdx_nil,ZV,List.forIn_nil];refine ac (ac (aaA ?_));refine ac (m:=nextOf (.ref i1)) (qC (h1.at fun o e=>hV.extBut _ o D.i1z e) (q1.at fun o e=>hV.extBut _ o D.l1z e) hx fun g2 J4 fu=>bn ?_)
 have o2:IT g2 TO a b:=fu.extBut _ _ D.TOi1 (hV.extBut _ _ D.TOz jo);refine ac (IS o2 rfl (ac (Z1 o2 fun g3 (o3:IT g3 TO x b) mI=>ac (aai (bn ?_)))))
 refine ac (ac (aaA ?_));refine ac (m:=nextOf (.ref i2)) (qC (h2.at fun o e=>mI.extBut _ o D.TOi2.symm (fu.extBut _ o D.i12.symm (hV.extBut _ o D.i2z e))) (q2.at fun o e=>mI.extBut _ o D.l2TO (fu.extBut _ o D.l2i1 (hV.extBut _ o D.l2z e))) hy fun g4 W9 Fj=>bn ?_)
 have o4:IT g4 TO x b:=Fj.extBut _ _ D.TOi2 o3;refine ac (IS o4 rfl (ac (Z1 o4 fun g5 (o5:IT g5 TO x y) yp=>ac (aai (bn (bn ?_))))))
 refine ac (IS o5 rfl (ac (aag ?_)));have sz:g5.objs.size=s.heap.objs.size :=by rw[yp.1,Fj.1,mI.1,fu.1,hV.1]
 have z5:YO g5 z TI TO .ellipsis:=yp.extBut _ _ D.TOz.symm (Fj.extBut _ _ D.i2z.symm (mI.extBut _ _ D.TOz.symm (fu.extBut _ _ D.i1z.symm z1)));have k5:∀c o,c≠z->c≠TO->c≠i1->c≠i2->s.heap.get? c=some o->g5.get? c=some o:=fun c o c1 c2 c3 c4 e=>yp.extBut _ _ c2 (Fj.extBut _ _ c4 (mI.extBut _ _ c2 (fu.extBut _ _ c3 (hV.extBut _ _ c1 e))))
 have zl:z<g5.objs.size:=gc z5;refine ac (m:=ownedTupleHandOut (.ref z) _) ?_;unfold ownedTupleHandOut;have z6:YO (g5.push {cls:=.type "tuple",data:=.seq #[x,y]}) z TI TO .ellipsis:=br _ z5
 refine ac (At z6 (by simp) fun g7 (z7:YO g7 z TI TO (rawInt g5.objs.size)) J0=>?_)
 refine At z7 (by simp) fun g8 (z8:YO g8 z TI TO (rawInt g5.objs.size)) Uo=>?_
 have up:∀c o,c≠z->g5.get? c=some o->g8.get? c=some o:=fun c o c1 e=>Uo.extBut _ _ c1 (J0.extBut _ _ c1 (br _ e))
 have t8:IT g8 g5.objs.size x y:=Uo.extBut _ _ (Lo zl) (J0.extBut _ _ (Lo zl) (db _ rfl));rw[sz]at z8 t8;refine bn ⟨_,rfl,?_⟩;show Q (.ref g5.objs.size) _;rw[sz];exact hQ g8 z8 (up _ _ D.TOz o5) (J4.at fun o e=>up _ o D.i1z (yp.extBut _ o D.TOi1.symm (Fj.extBut _ o D.i12 (mI.extBut _ o D.TOi1.symm e)))) (W9.at fun o e=>up _ o D.i2z (yp.extBut _ o D.TOi2.symm e)) t8
  fun c o c1 c2 c3 c4 e=>up c o c1 (k5 c o c1 c2 c3 c4 e)
theorem LD {Q:Fin->ar->Prop}(hh:A.handled=none) (D:abh z TI TO i1 i2 l1 l2) (hz:YO s.heap z TI TO .none) (i7:IT s.heap TI (.ref i1) (.ref i2)) (jo:IT s.heap TO a b)
  (h1:SqIt k1 s.heap i1 l1 n1) (h2:SqIt k2 s.heap i2 l2 n2) (q1:cW k1 s.heap l1 xs) (q2:cW k2 s.heap l2 ys) (pq:xs[n1]?=none\/ys[n2]?=none)
  (hE:∀h' e,(∀c o,c≠z->c≠TO->c≠i1->c≠i2->s.heap.get? c=some o->h'.get? c=some o)->(∃o,h'.get? e=some o/\o.cls=.type "StopIteration")->E (.ref e) {s with heap:=h'}) :
  wpAny (model prog w) A (ss.«zip.__next__» ⟨[.ref z],[]⟩) Q E s :=by
 refine ac (m:=field (.ref z) 2) (BB hz rfl (x:=.bool false) rfl (ac (m:=field (.ref z) 3) (BB hz rfl (x:=.ref TI) rfl (ac (m:=seqItems? (.ref TI)) (IS i7 rfl ?_)))));refine ac (m:=ownedTupleIsFree (.ref z)) ?_;unfold ownedTupleIsFree;refine ac (m:=field (.ref z) 0) (BB hz rfl (x:=.none) rfl (bn ?_));rw[if_pos rfl];refine ac (GG (ac (m:=field (.ref z) 4) (BB hz rfl (x:=.ref TO) rfl (ac (m:=setField (.ref z) 0 .ellipsis) (At hz (by simp) fun g1 (z1:YO g1 z TI TO .ellipsis) hV=>?_)))))
 refine ac ?_;simp only[List.zipIdx_cons,List.zipIdx_nil,ZV,List.forIn_nil];refine ac (ac (aaA ?_));have stop:∀(g:hX) (e:ag),YO g z TI TO .ellipsis->(∃o,g.get? e=some o/\o.cls=.type "StopIteration")->(∀c o,c≠z->c≠TO->c≠i1->c≠i2->s.heap.get? c=some o->g.get? c=some o)->
   wpAny (model prog w) A (setField (.ref z) 0 .none) (fun _ s'=>E (.ref e) s') E {s with heap:=g}:=fun g e zg ⟨o,ho,hc⟩ kk=>by
  have ne:e≠z:=fun q=>by subst q;rw[zg]at ho;cases ho;simp at hc
  exact At zg (by simp) fun g' _ Up=>hE g' e (fun c o c1 c2 c3 c4 q=>Up.extBut _ _ c1 (kk c o c1 c2 c3 c4 q)) ⟨o,Up.extBut _ _ ne ho,hc⟩
 cases hx:xs[n1]? with
 |none=>
  refine ac (m:=nextOf (.ref i1)) (uJ hh (h1.at fun o e=>hV.extBut _ o D.i1z e) (q1.at fun o e=>hV.extBut _ o D.l1z e) hx fun g2 e eb he=>?_)
  exact stop g2 e (eb _ _ D.i1z.symm z1) he fun c o c1 c2 c3 c4 q=>eb _ _ c3 (hV.extBut _ _ c1 q)
 |some x=>
  have hy:ys[n2]?=none:=pq.elim (fun q=>by rw[hx]at q;cases q) id
  refine ac (m:=nextOf (.ref i1)) (qC (h1.at fun o e=>hV.extBut _ o D.i1z e) (q1.at fun o e=>hV.extBut _ o D.l1z e) hx fun g2 J4 fu=>bn ?_)
  have o2:IT g2 TO a b:=fu.extBut _ _ D.TOi1 (hV.extBut _ _ D.TOz jo);refine ac (IS o2 rfl (ac (Z1 o2 fun g3 (o3:IT g3 TO x b) mI=>ac (aai (bn ?_)))))
  refine ac (ac (aaA ?_));refine ac (m:=nextOf (.ref i2)) (uJ hh (h2.at fun o e=>mI.extBut _ o D.TOi2.symm (fu.extBut _ o D.i12.symm (hV.extBut _ o D.i2z e))) (q2.at fun o e=>mI.extBut _ o D.l2TO (fu.extBut _ o D.l2i1 (hV.extBut _ o D.l2z e))) hy fun g4 e eb he=>?_)
  exact stop g4 e (eb _ _ D.i2z.symm (mI.extBut _ _ D.TOz.symm (fu.extBut _ _ D.i1z.symm z1))) he fun c o c1 c2 c3 c4 q=>eb _ _ c4 (mI.extBut _ _ c2 (fu.extBut _ _ c3 (hV.extBut _ _ c1 q)))
theorem Il {Q:Option al->ar->Prop}(D:abh z TI TO i1 i2 l1 l2) (hz:YO s.heap z TI TO .none) (i7:IT s.heap TI (.ref i1) (.ref i2)) (jo:IT s.heap TO a b)
  (h1:SqIt k1 s.heap i1 l1 n1) (h2:SqIt k2 s.heap i2 l2 n2) (q1:cW k1 s.heap l1 xs) (q2:cW k2 s.heap l2 ys) (hx:xs[n1]?=some x) (hy:ys[n2]?=some y)
  (hQ:∀h',YO h' z TI TO (rawInt s.heap.objs.size)->IT h' TO x y->SqIt k1 h' i1 l1 (n1+1)->SqIt k2 h' i2 l2 (n2+1)->IT h' s.heap.objs.size x y->
   (∀c o,c≠z->c≠TO->c≠i1->c≠i2->s.heap.get? c=some o->h'.get? c=some o)->Q (some (.ref s.heap.objs.size)) {s with heap:=h'}):wpAny (model prog w) A (pyNext (.ref z)) Q E s :=by
 have hT:s.TypeIs (.ref z) "zip" := ⟨_,hz,rfl⟩
 have sl:=F.slot_zip_next;unfold pyNext;exact ac (LG (wv (name:=wp "__next__") hT sl (wb sl hT F.entry_zip_next (Ik D hz i7 jo h1 h2 q1 q2 hx hy fun h' b1 b2 b3 b4 b5 b6=>bn (hQ h' b1 b2 b3 b4 b5 b6)) (F.args_zip_next_1 _))))
theorem Im {Q:Option al->ar->Prop}(hh:A.handled=none) (D:abh z TI TO i1 i2 l1 l2) (hz:YO s.heap z TI TO .none) (i7:IT s.heap TI (.ref i1) (.ref i2)) (jo:IT s.heap TO a b)
  (h1:SqIt k1 s.heap i1 l1 n1) (h2:SqIt k2 s.heap i2 l2 n2) (q1:cW k1 s.heap l1 xs) (q2:cW k2 s.heap l2 ys) (pq:xs[n1]?=none\/ys[n2]?=none)
  (hQ:∀h',(∀c o,c≠z->c≠TO->c≠i1->c≠i2->s.heap.get? c=some o->h'.get? c=some o)->Q none {s with heap:=h'}):wpAny (model prog w) A (pyNext (.ref z)) Q E s :=by
 have hT:s.TypeIs (.ref z) "zip" := ⟨_,hz,rfl⟩
 have sl:=F.slot_zip_next;unfold pyNext;refine ac (LG (wv (name:=wp "__next__") hT sl (wb sl hT F.entry_zip_next (LD hh D hz i7 jo h1 h2 q1 q2 pq fun h' e kk ⟨o,ho,hc⟩=>?_) (F.args_zip_next_1 _))))
 exact ac (XV (T := "StopIteration") (b:=true) ⟨o,ho,hc⟩ aaf (bn (hQ _ kk)))
end
def J5 (k1 k2:Bool) (K:ba) (a1 a2:ag):It:=
 ⟨fun i H=>∃xs ys x y,Sq k1 K H a1 xs/\Sq k2 K H a2 ys/\xs[i]?=some x/\ys[i]?=some y,fun i H v H'=>∃t x y,H t=none/\v=.ref t/\H'=upd H t (.tup [x,y])/\(∀xs,Sq k1 K H a1 xs->xs[i]?=some x)/\∀ys,Sq k2 K H a2 ys->ys[i]?=some y,
  fun i H=>∃xs ys,Sq k1 K H a1 xs/\Sq k2 K H a2 ys/\(xs.length<=i\/ys.length<=i)⟩
theorem Io {P:ff}{w:im}{K:ba}{elts:List c8}{x1:Nat}{pos:u7}(k1 k2:Bool) (z TI TO i1 i2 l1 l2:ag) (D:abh z TI TO i1 i2 l1 l2) :
  Turn P w K (.Tuple elts x1 pos) (J5 k1 k2 K l1 l2) [z,TI,TO,i1,i2] z (fun i h=>YO h z TI TO .none/\IT h TI (.ref i1) (.ref i2)/\(∃a b,IT h TO a b)/\SqIt k1 h i1 l1 i/\SqIt k2 h i2 l2 i) where
 mem :=by simp
 obj:=fun i h st b hb=>by
  obtain⟨hz,i7,⟨a,c,jo⟩,h1,h2⟩:=st;simp only[i4,xL,or_false]at hb;rcases hb with rfl|rfl|rfl|rfl|rfl
  ·exact⟨_,hz,fun v q=>nomatch q⟩
  ·exact⟨_,i7,fun v q=>nomatch q⟩
  ·exact⟨_,jo,fun v q=>nomatch q⟩
  ·obtain⟨o,ho,vs,hd⟩:=h1.obj;exact⟨o,ho,fun v q=>by rw[hd]at q;cases q⟩
  ·obtain⟨o,ho,vs,hd⟩:=h2.obj;exact⟨o,ho,fun v q=>by rw[hd]at q;cases q⟩
 keep:=fun i h h' st q=>by
  obtain⟨hz,i7,⟨a,c,jo⟩,h1,h2⟩:=st;exact⟨q z (by simp) _ hz,q TI (by simp) _ i7,⟨a,c,q TO (by simp) _ jo⟩,h1.at fun o ho=>q i1 (by simp) o ho,h2.at fun o ho=>q i2 (by simp) o ho⟩
 item :=by
  intro X hP hw hK hc i pins s σ H E I hf st hg;subst hP hw hK;obtain⟨hz,i7,⟨a,c,jo⟩,h1,h2⟩:=st;obtain⟨xs,ys,x,y,Bi,Bj,hx,hy⟩:=hg;obtain⟨O7,J6,p1⟩:=I.sq Bi;obtain⟨u1,E4,Xa⟩:=J6.get hx;obtain⟨dN,kf,p2⟩:=I.sq Bj;obtain⟨u2,Xb,Xc⟩:=kf.get hy;refine Il D hz i7 jo h1 h2 p1 p2 (x:=u1) (y:=u2) (by simpa using E4) (by simpa using Xb) fun g1 zo Xd Fd J4 t1 kk=>?_
  refine⟨_,rfl,wpAny_letOwnedTupleGo_zip zo fun g2 z2 (fu:v6 z g1 g2)=>?_⟩
  have zl:z<s.heap.objs.size:=gc hz;have I2:Inv X pins σ H {s with heap:=g2}:=I.qD (t':=s.toks) (ch:=[z,TO,i1,i2]) (fun b o hb q=>by
   simp only[i4,xL,or_false,not_or]at hb;exact(fu.2 b hb.1).trans (kk b o hb.1 hb.2.1 hb.2.2.1 hb.2.2.2 q)) fun b hb=>hf b (by simp at hb ⊢;rcases hb with h|h|h|h<;>simp[h])
  have hn:H s.heap.objs.size=none:=I.hok.fresh (cb _);refine⟨.ref s.heap.objs.size,_,Inv.pair (s:=s) (tk0:=s.toks) (tk:=s.toks) I (cb _) I2 ((fu.2 _ (Lo zl)).trans t1) Xa Xc,rfl,⟨_,x,y,hn,rfl,rfl,fun zs hs=>by rw[I.yr hs Bi];exact hx,fun zs hs=>by rw[I.yr hs Bj];exact hy⟩,
   ⟨z2,(fu.2 _ D.TIz).trans (kk _ _ D.TIz D.TITO D.TIi1 D.TIi2 i7),⟨u1,u2,(fu.2 _ D.TOz).trans Xd⟩,Fd.at fun o q=>(fu.2 _ D.i1z).trans q,J4.at fun o q=>(fu.2 _ D.i2z).trans q⟩,fun b hb=>?_⟩
  have l:b≠s.heap.objs.size :=by
   have ex:∃o,s.heap.get? b=some o :=by
    simp only[i4,xL,or_false]at hb;rcases hb with rfl|rfl|rfl|rfl|rfl
    ·exact⟨_,hz⟩
    ·exact⟨_,i7⟩
    ·exact⟨_,jo⟩
    ·obtain⟨o,ho,_⟩:=h1.obj;exact⟨o,ho⟩
    ·obtain⟨o,ho,_⟩:=h2.obj;exact⟨o,ho⟩
   obtain⟨o,ho⟩:=ex;exact jp (gc ho)
  rw[ah l];exact(hf b hb).1
 done :=by
  intro X hP hw hK hc i pins s σ H E I hf st hg;subst hP hw hK;obtain⟨hz,i7,⟨a,c,jo⟩,h1,h2⟩:=st;obtain⟨xs,ys,Bi,Bj,hx⟩:=hg;obtain⟨O7,J6,p1⟩:=I.sq Bi;obtain⟨dN,kf,p2⟩:=I.sq Bj;have rp:=J6.length;have mD:=kf.length;exact Im (I.ok.hd hc) D hz i7 jo h1 h2 p1 p2 (by rcases hx with h|h;exact .inl (by simp;omega);exact .inr (by simp;omega)) fun g1 kk=>⟨rfl,I.qD (t':=s.toks) (ch:=[z,TO,i1,i2]) (fun b o hb q=>by
   simp only[i4,xL,or_false,not_or]at hb;exact kk b o hb.1 hb.2.1 hb.2.2.1 hb.2.2.2 q) fun b hb=>hf b (by simp at hb ⊢;rcases hb with h|h|h|h<;>simp[h])⟩
 self:=fun _ _ _ _ _ st h=>wpAny_pyIter_zip st.1 h
abbrev vU (k:Bool) (a:ag):kw:={cls:=.type (if k=true then "list_iterator" else "tuple_iterator"),data:=.fields #[.ref a,.int 0 0]}
theorem vV {prog:ff}{w:im}{A:l5}{E:al->ar->Prop}{s:ar}{k:Bool}{a:ag}{items:Array al}{Q:al->ar->Prop}(h:cW k s.heap a items) (hQ:Q (.ref s.heap.objs.size) {s with heap:=s.heap.push (vU k a)}) :
  wpAny (model prog w) A (pyIter (.ref a)) Q E s :=by
 cases k with
 |true=>exact UF h hQ
 |false=>exact SO h hQ
theorem Fl {k:Bool}{a it:ag}{h:hX}(e:h.get? it=some (vU k a)):SqIt k h it a 0 :=by
 cases k with
 |true=>exact⟨_,e,rfl,rfl⟩
 |false=>exact⟨_,e,rfl,rfl⟩
abbrev J7 (k1 k2:Bool) (h:hX) (a1 a2:ag):hX:=(h.push (vU k1 a1)).push (vU k2 a2)
abbrev J8 (k1 k2:Bool) (h:hX) (a1 a2:ag):hX:=(J7 k1 k2 h a1 a2).push {cls:=.type "tuple",data:=.seq #[.ref h.objs.size,.ref (h.push (vU k1 a1)).objs.size]}
abbrev J9 (k1 k2:Bool) (h:hX) (a1 a2:ag):hX:=(J8 k1 k2 h a1 a2).push {cls:=.type "tuple",data:=.seq #[.none,.none]}
abbrev Bk (k1 k2:Bool) (h:hX) (a1 a2:ag):hX:=(J9 k1 k2 h a1 a2).push {cls:=.type "zip",data:=.fields #[.none,.bool false,.bool false,.ref (J7 k1 k2 h a1 a2).objs.size,.ref (J8 k1 k2 h a1 a2).objs.size]}
theorem O8 (k1 k2:Bool) (a1 a2:ag) (xs ys:Array al) :
  Meets (ss.«zip.__new__» ⟨[.type "zip",.ref a1,.ref a2],[]⟩) (fun _ R s=>cW k1 s.heap a1 xs/\cW k2 s.heap a2 ys/\R (.ok (.ret (.ref (J9 k1 k2 s.heap a1 a2).objs.size))) {s with heap:=Bk k1 k2 s.heap a1 a2}):=
 .of_wp fun prog w A R s h=>by
  obtain⟨hp,g,d,tk,os⟩:=s;obtain⟨q1,q2,h⟩:=h;have uG:=sub_zip;have Q1:cW k1 (ar.heap ⟨hp,g,d,tk,os⟩) a1 xs:=q1;have Q2:cW k2 (ar.heap ⟨hp.push (vU k1 a1),g,d,tk,os⟩) a2 ys:=cW.at (h:=hp) q2 fun o e=>br _ e
  wp_walk using vV Q1,vV Q2
  exact⟨_,rfl,h⟩
section
variable {prog:ff}{w:im}{A:l5}{E:al->ar->Prop}{s:ar}{k1 k2:Bool}{a1 a2:ag}{xs ys:Array al}
theorem LI {Q:al->ar->Prop}(q1:cW k1 s.heap a1 xs) (q2:cW k2 s.heap a2 ys)
  (h:∀h',YO h' (s.heap.objs.size+4) (s.heap.objs.size+2) (s.heap.objs.size+3) .none->IT h' (s.heap.objs.size+2) (.ref s.heap.objs.size) (.ref (s.heap.objs.size+1))->IT h' (s.heap.objs.size+3) .none .none->
   SqIt k1 h' s.heap.objs.size a1 0->SqIt k2 h' (s.heap.objs.size+1) a2 0->(∀c o,s.heap.get? c=some o->h'.get? c=some o)->Q (.ref (s.heap.objs.size+4)) {s with heap:=h'}) :
  wpAny (model prog w) A (call (.type "zip") [.ref a1,.ref a2]) Q E s :=by
 refine callType_new F.called_zip (by decide) (F.typeCall_zip_2 _ _) (F.newCall_zip_2 _ _) (fun obj=>F.args_object_init_3 obj _ _) F.entry_zip_new (O8 k1 k2 a1 a2 xs ys) ⟨q1,q2,?_⟩
 have p:∀{g:hX} {o o':kw} {b:ag},g.get? b=some o->(g.push o').get? b=some o:=fun e=>br _ e
 have e1:(s.heap.push (vU k1 a1)).objs.size=s.heap.objs.size+1:=xw ..;have e2:(J7 k1 k2 s.heap a1 a2).objs.size=s.heap.objs.size+2 :=by rw[xw,e1]
 have e3:(J8 k1 k2 s.heap a1 a2).objs.size=s.heap.objs.size+3 :=by rw[xw,e2]
 have e4:(J9 k1 k2 s.heap a1 a2).objs.size=s.heap.objs.size+4 :=by rw[xw,e3]
 have g5:(Bk k1 k2 s.heap a1 a2).get? (J9 k1 k2 s.heap a1 a2).objs.size=some _:=db _ rfl;have g4:(Bk k1 k2 s.heap a1 a2).get? (J8 k1 k2 s.heap a1 a2).objs.size=some _:=p (db _ rfl);have g3:(Bk k1 k2 s.heap a1 a2).get? (J7 k1 k2 s.heap a1 a2).objs.size=some _:=p (p (db _ rfl));have g2:(Bk k1 k2 s.heap a1 a2).get? (s.heap.push (vU k1 a1)).objs.size=some _:=p (p (p (db _ rfl)));have g1:(Bk k1 k2 s.heap a1 a2).get? s.heap.objs.size=some _:=p (p (p (p (db _ rfl))));show _/\_;rw[e2,e3,e4]at g5;rw[e1,e2]at g3;rw[e3]at g4;rw[e1]at g2;rw[e4];exact⟨⟨_,g5,rfl⟩,h _ g5 g3 g4 (Fl g1) (Fl g2) fun c o q=>p (p (p (p (p q))))⟩
end
section
variable {X:Cx}{l1 l2:c8}{t1 t2:TE}{elts:List c8}{x1:Nat}{tp p pos:u7}
def VP (k1 k2:Bool) (K:ba) (t1 t2:TE):TI:=fun σ H R=>t1 σ H fun x H1=>t2 σ H1 fun y H2=>∃a1 a2,x=.ref a1/\y=.ref a2/\(∃xs,Sq k1 K H2 a1 xs)/\(∃ys,Sq k2 K H2 a2 ys)/\R (J5 k1 k2 K a1 a2) H2
theorem O9 (k1 k2:Bool) {K:ba}(hK:X.K=K) (hg:Gl X "zip") (hm:X.mg "zip" = none) (h1:PE X l1 t1) (h2:PE X l2 t2) (hs:starEach [l1,l2] X.env=(false,eval l1 X.env)::starEach [l2] X.env :=by rfl) (k7:starEach [l2] X.env=[(false,eval l2 X.env)] :=by rfl) :
  PI X (.Tuple elts x1 tp) (.Call (.Name "zip" p) [l1,l2] [] pos) (VP k1 k2 K t1 t2) :=by
 subst hK;intro pins s σ H R I h;refine ET (gY I hg hm O5 ?_);refine Cf ?_ hs (by rw[k7];rfl)
 rw[hs,k7];refine LH (thn (h1 pins s σ H _ I h) fun v s1 ⟨x,H1,I1,r1,q1⟩=>LH (thn (h2 pins s1 σ H1 _ I1 q1) fun u s2 ⟨y,H2,I2,r2,q2⟩=>Pc ?_))
 obtain⟨a1,a2,rfl,rfl,⟨xs,Bi⟩,⟨ys,Bj⟩,q⟩:=q2;cases (show v=l6 a1 from r1);cases (show u=l6 a2 from r2);obtain⟨O7,J6,Uq⟩:=I2.sq Bi;obtain⟨dN,kf,Ur⟩:=I2.sq Bj;refine LI Uq Ur fun h' hz i7 jo i1 i2 kk=>?_
 refine wpAny_pyIter_zip hz ?_;have I3:Inv X pins σ H2 {s2 with heap:=h'}:=I2.kept (t':=s2.toks) kk
 have Xe:a1<s2.heap.objs.size:=let ⟨o,n,ho,_⟩:=Uq.obj;gc ho;have Xf:a2<s2.heap.objs.size:=let ⟨o,n,ho,_⟩:=Ur.obj;gc ho;refine⟨_,[s2.heap.objs.size+4,s2.heap.objs.size+2,s2.heap.objs.size+3,s2.heap.objs.size,s2.heap.objs.size+1],_,J5 k1 k2 X.K a1 a2,H2,rfl,I3,Io k1 k2 _ _ _ _ _ a1 a2 (zipApart_new Xe Xf),⟨hz,i7,⟨_,_,jo⟩,i1,i2⟩,fun b hb=>?_,q⟩
 have ge:s2.heap.objs.size<=b :=by
  simp only[i4,xL,or_false]at hb;rcases hb with rfl|rfl|rfl|rfl|rfl
  ·exact WS _ _
  ·exact WS _ _
  ·exact WS _ _
  ·exact cb _
  ·exact WS _ _
 exact I2.k6 ge (I2.hok.fresh ge)
end
theorem Ip {k1 k2:Bool}{K:ba}{a1 a2:ag}{xs ys:List V}{H:Hp}(h1:Sq k1 K H a1 xs) (h2:Sq k2 K H a2 ys):CM (J5 k1 k2 K a1 a2) (xs.zip ys) H:=fun i=>by
 refine⟨fun hi=>?_,fun hi=>?_⟩
 ·have cy:=hi;rw[GS]at cy;have i1:i<xs.length :=by omega
  have i2:i<ys.length :=by omega
  refine⟨⟨xs,ys,xs[i],ys[i],h1,h2,ap i1,ap i2⟩,fun v H' ⟨t,x,y,n,e1,e2,e3,e4⟩=>⟨t,(x,y),n,e1,?_,e2⟩⟩
  rw[zw];exact⟨e3 xs h1,e4 ys h2⟩
 ·rw[GS]at hi;exact⟨xs,ys,h1,h2,by omega⟩
end L2
namespace L2
open PySem PySem.Spec PyProof.Rows
section
variable {X:Cx}{st:sw}{ι:Type}{Pre:ι->St->Hp->Prop}{D:ι->Ends}
theorem wI {P:ff}{w:im}{K:ba}(hP:X.prog=P) (hw:X.w=w) (h:X.K=K) (hc:X.calm=true):cK X (.builtin "sorted") (Bh P w K) :=by
 subst hP hw h;exact ym hc
end
section
variable {κ:Type} [DecidableEq κ]
def fU (aq:List (κ×V)) (k:κ):Option V:=(aq.find? fun kv=>decide (kv.1=k)).map (·.2)
def putK (aq:List (κ×V)) (k:κ) (v:V):List (κ×V):=
 if (aq.any fun kv=>decide (kv.1=k))=true then aq.map (fun kv=>if kv.1=k then (kv.1,v) else kv) else aq++[(k,v)]
theorem nS {p:κ×V}{r:List (κ×V)}{k:κ}(e:p.1=k):fU (p::r) k=some p.2 :=by simp[fU,Tl,e]
theorem nU {p:κ×V}{r:List (κ×V)}{k:κ}(e:¬ p.1=k):fU (p::r) k=fU r k :=by simp[fU,Tl,e]
theorem rU (k:κ):∀aq:List (κ×V),(aq.any fun kv=>decide (kv.1=k))=(fU aq k).isSome
 | []=>rfl
 |p::r=>by
          rw[aaB];by_cases e:p.1=k
          ·simp only[nS e,decide_eq_true e,Bool.true_or,Option.isSome_some]
          ·rw[nU e,decide_eq_false e,Bool.false_or];exact rU k r
theorem hZ (aq:List (κ×V)) (k:κ) (v:V):(putK aq k v).length<=aq.length+1 :=by
 unfold putK;split
 ·rw[bv];omega
 ·rw[l8,AL,Tk];omega
theorem jq.pH {o:Option V}{u:Option al}(r:jq o u):o.isSome=u.isSome :=by
 cases o with
 |none=>cases u with
  |none=>rfl
  |some _=>exact(show False from r).elim
 |some _=>cases u with
  |none=>exact(show False from r).elim
  |some _=>rfl
theorem jq.getD {o:Option V}{u:Option al}{d:V}{d':al}(r:jq o u) (rd:RelV d d'):RelV (o.getD d) (u.getD d') :=by
 cases o with
 |none=>cases u with
  |none=>exact rd
  |some _=>exact(show False from r).elim
 |some _=>cases u with
  |none=>exact(show False from r).elim
  |some _=>exact r
theorem KV.val {aq:List (κ×V)}{vs:List (κ×al)}(r:KV aq vs) (k:κ):jq (fU aq k) (valueAt vs k) :=by
 unfold KV at r;induction r with
 |nil=>exact LF
 | @cons p q ps qs h t ih=>
  obtain⟨h1,h2⟩:=h;by_cases e:p.1=k
  ·have e':q.1=k:=h1.symm.trans e;have b:valueAt (q::qs) k=some q.2 :=by simp[valueAt,Tl,e']
   rw[nS e,b];exact h2
  ·have e':¬ q.1=k:=fun z=>e (h1.trans z)
   have b:valueAt (q::qs) k=valueAt qs k :=by simp[valueAt,Tl,e']
   rw[nU e,b];exact ih
theorem KV.any {aq:List (κ×V)}{vs:List (κ×al)}(r:KV aq vs) (k:κ):(aq.any fun kv=>decide (kv.1=k))=vs.any fun kv=>decide (kv.1=k) :=by
 unfold KV at r;induction r with
 |nil=>rfl
 |cons h t ih=>rw[aaB,aaB,ih,h.1]
theorem KV.repl {aq:List (κ×V)}{vs:List (κ×al)}(r:KV aq vs) (k:κ) {y:V}{u:al}(ry:RelV y u) :
  KV (aq.map fun kv=>if kv.1=k then (kv.1,y) else kv) (vs.map fun kv=>if kv.1=k then (kv.1,u) else kv) :=by
 unfold KV at r ⊢;induction r with
 |nil=>exact .nil
 | @cons p q ps qs h t ih=>
  rw[mo,mo];refine .cons ?_ ih;obtain⟨h1,h2⟩:=h;by_cases e:p.1=k
  ·rw[if_pos e,if_pos (h1.symm.trans e)];exact⟨h1,ry⟩
  ·rw[if_neg e,if_neg (fun z=>e (h1.trans z))];exact⟨h1,h2⟩
theorem KV.put {aq:List (κ×V)}{vs:List (κ×al)}(r:KV aq vs) (k:κ) {y:V}{u:al}(ry:RelV y u):KV (putK aq k y) (stored vs k u) :=by
 unfold putK stored;rw[r.any k];by_cases e:(vs.any fun kv=>decide (kv.1=k))=true
 ·rw[if_pos e,if_pos e];exact r.repl k ry
 ·rw[if_neg e,if_neg e];exact xz.snoc r ⟨rfl,ry⟩
theorem KV.length {aq:List (κ×V)}{vs:List (κ×al)}(r:KV aq vs):aq.length=vs.length:=IF r
end
theorem nV {P:ff}{w:im}{k:Key}{u:al}(r:RelV (kV k) u):(bA P w).is k u=true :=by
 cases k with
 |inl i=>obtain⟨t,e⟩:=(show ∃t,u=aal i t from r);subst e;exact Ad P w i t
 |inr x=>obtain⟨t,e⟩:=(show ∃t,u=ZM x t from r);subst e;exact Ae P w x t
theorem vW {P:ff}{w:im}:∀{ks:List Key}{us:List al},Vals (ks.map kV) us->ItemsAre (bA P w) ks us
 | [],_,r=>by rw[ZT]at r;cases r;exact .nil
 |k::ks,_,r=>by
          rw[mo]at r;cases r with
          |cons h t=>exact .cons (nV h) (vW t)
abbrev KT (H:Hp):List (List Key×V)->List (List Key×ag×al)->Prop:=xz fun p q=>p.1=q.1/\H q.2.1=some (.tup (p.1.map kV))/\RelV p.2 q.2.2
theorem KT.val {H:Hp}{aq:List (List Key×V)}{xs:List (List Key×ag×al)}(r:KT H aq xs) (k:List Key):jq (fU aq k) ((atKey xs k).map (·.2)) :=by
 induction r with
 |nil=>exact LF
 | @cons p q ps qs h t ih=>
  obtain⟨h1,_,h2⟩:=h;by_cases e:p.1=k
  ·have e':q.1=k:=h1.symm.trans e;have b:atKey (q::qs) k=some q.2 :=by simp[atKey,Tl,e']
   rw[nS e,b];exact h2
  ·have e':¬ q.1=k:=fun z=>e (h1.trans z)
   have b:atKey (q::qs) k=atKey qs k :=by simp[atKey,Tl,e']
   rw[nU e,b];exact ih
theorem KT.repl {H:Hp}{aq:List (List Key×V)}{xs:List (List Key×ag×al)}(r:KT H aq xs) (k:List Key) {y:V}{u:al}(ry:RelV y u) :
  KT H (aq.map fun kv=>if kv.1=k then (kv.1,y) else kv) (xs.map (putAt k u)) :=by
 induction r with
 |nil=>exact .nil
 | @cons p q ps qs h t ih=>
  rw[mo,mo];refine .cons ?_ ih;obtain⟨h1,h2,h3⟩:=h;unfold putAt;by_cases e:p.1=k
  ·rw[if_pos e,if_pos (h1.symm.trans e)];exact⟨h1,h2,ry⟩
  ·rw[if_neg e,if_neg (fun z=>e (h1.trans z))];exact⟨h1,h2,h3⟩
theorem KT.put {H:Hp}{aq:List (List Key×V)}{xs:List (List Key×ag×al)}(r:KT H aq xs) (k:List Key) {b:ag}{y:V}{u:al}(hb:H b=some (.tup (k.map kV))) (ry:RelV y u) :
  KT H (putK aq k y) (storedH xs k b u) :=by
 have e:(aq.any fun kv=>decide (kv.1=k))=(atKey xs k).isSome :=by
  rw[rU,(r.val k).pH,aaJ]
 unfold putK storedH;rw[e];by_cases q:(atKey xs k).isSome=true
 ·rw[if_pos q,if_pos q];exact r.repl k ry
 ·rw[if_neg q,if_neg q];exact xz.snoc r ⟨rfl,hb,ry⟩
theorem KT.keeps {H H':Hp}{aq:List (List Key×V)}{xs:List (List Key×ag×al)}(r:KT H aq xs) (ht:∀b ys,H b=some (.tup ys)->H' b=some (.tup ys)):KT H' aq xs:=
 xz.B7 r fun _ _ z=>⟨z.1,ht _ _ z.2.1,z.2.2⟩
section
variable {P:ff}{w:im}{H:Hp}{h:hX}{a:ag}
theorem Ka {u:HO}(ok:c7 P w H h) (e:Rd H a u):ObjOk P w H h a u:=e.ok ok
theorem nW {aq:List (Key×V)}(ok:c7 P w H h) (e:Rd H a (.dK aq)):aq.length<=sizeLine/\(a==sysModules)=false/\∃vs,KV aq vs/\h.DictOf (bA P w) a vs:=
 show ObjOk P w H h a (.dK aq) from Ka ok e
theorem Kb {aq:List (Key×V)}(ok:c7 P w H h) (e:H a=some (.dK aq)):aq.length<=sizeLine/\(a==sysModules)=false/\∃vs,KV aq vs/\h.DictOf (bA P w) a vs:=nW ok (.inl e)
theorem i9 {ks:List Key}(ok:c7 P w H h) (e:H a=some (.tup (ks.map kV))):(tupleKind (bA P w)).is h ks a :=by
 obtain⟨_,its,r,o,h1,h2,n,h3,_⟩:=(show ObjOk P w H h a (.tup (ks.map kV)) from ok a _ e);exact⟨o,its.toArray,n,h1,h2,h3,by simpa using vW r⟩
theorem mJ {aq:List (List Key×V)}(ok:c7 P w H h) (e:Rd H a (.dT aq)):aq.length<=sizeLine/\(a==sysModules)=false /\
  ∃xs,KT H aq xs/\h.DictOfH (tupleKind (bA P w)) a xs :=by
 obtain⟨z,y,xs,r,o,es,ep,h1,h2,h3,h4,h5⟩:=(show ObjOk P w H h a (.dT aq) from Ka ok e);refine⟨z,y,xs,r,o,es,ep,h1,h2,h3,h4,fun x hx=>?_,h5⟩
 have all:∀{l:List (List Key×V)} {m:List (List Key×ag×al)},KT H l m->∀x∈m,(tupleKind (bA P w)).is h x.1 x.2.1 :=by
  intro l m q;induction q with
  |nil=>intro x hx;exact nomatch hx
  | @cons p q ps qs hq t ih=>
   intro x hx;rcases i4.mp hx with e|hx
   ·subst e;exact i9 ok (by rw[<- hq.1];exact hq.2.1)
   ·exact ih x hx
 exact all r x hx
theorem w6 {aq:List (List Key×V)}(ok:c7 P w H h) (e:H a=some (.dT aq)):aq.length<=sizeLine/\(a==sysModules)=false /\
  ∃xs,KT H aq xs/\h.DictOfH (tupleKind (bA P w)) a xs:=mJ ok (.inl e)
end
def m5 (H:Hp) (a:ag) (y:V) (r:Option V):Prop:=
 (∃aq k,Rd H a (.dK aq)/\y=kV k/\r=fU aq k)\/∃aq k b,Rd H a (.dT aq)/\y=.ref b/\H b=some (.tup (k.map kV))/\r=fU aq k
def CN (H:Hp) (a:ag) (y v:V) (H':Hp):Prop:=
 (∃aq k,H a=some (.dK aq)/\y=kV k/\aq.length<sizeLine/\H'=upd H a (.dK (putK aq k v))) \/
 ∃aq k b,H a=some (.dT aq)/\y=.ref b/\H b=some (.tup (k.map kV))/\aq.length<sizeLine/\H'=upd H a (.dT (putK aq k v))
section
variable {X:Cx}{pins:List (ag×kw)}{σ:St}{H:Hp}{s:ar}{a:ag}{y v:V}{u r:al}{o:Option V}{A:l5}{E:al->ar->Prop}
theorem Inv.big (I:Inv X pins σ H s):sysModules<s.heap.objs.size :=by
 have h:mainGlobals<s.heap.objs.size:=(I.mod.glob.keeps I.bk).lt;exact Zn (by decide) h
theorem Fm {Q:al->ar->Prop}(hu:A.units+1<cLine) (I:Inv X pins σ H s) (g:m5 H a y (some v)) (ry:RelV y u) (h:∀w' s',Inv X pins σ H s'->RelV v w'->Q w' s') :
  wpAny (model X.prog X.w) A (getItem (.ref a) u) Q E s :=by
 rcases g with ⟨aq,k,e,ey,l⟩|⟨aq,k,b,e,ey,eb,l⟩
 ·subst ey;obtain⟨z,hd,vs,rel,dd⟩:=nW I.hok e;obtain⟨w',hw,gf⟩:=jq.some_of (v:=v) (o:=valueAt vs k) (by rw[l];exact rel.val k)
  exact wpAny_getItem_of (nV ry) dd.mapOf hw (h w' _ (I.tok _) gf)
 ·subst ey;cases (show u=l6 b from ry);obtain⟨z,hd,xs,rel,dd⟩:=mJ I.hok e;obtain⟨w',hw,gf⟩:=jq.some_of (v:=v) (o:=(atKey xs k).map (·.2)) (by rw[l];exact rel.val k)
  obtain⟨p,hp,Xg⟩:=lc.mp hw;refine wpAny_getItem_heap (NO hu) (i9 I.hok eb) dd hp ?_;rw[Xg];exact h w' _ (I.tok _) gf
theorem LJ {Q:al->ar->Prop}(hu:A.units+1<cLine) (I:Inv X pins σ H s) (g:m5 H a y o) (ry:RelV y u) (h:∀s',Inv X pins σ H s'->Q (.bool (!o.isSome)) s') :
  wpAny (model X.prog X.w) A (compareOp .NotIn u (.ref a)) Q E s :=by
 rcases g with ⟨aq,k,e,ey,l⟩|⟨aq,k,b,e,ey,eb,l⟩
 ·subst ey;obtain⟨z,hd,vs,rel,dd⟩:=nW I.hok e;refine wpAny_notIn_of (nV ry) hd dd.mapOf ?_;rw[<- (rel.val k).pH,<- l];exact h _ (I.tok _)
 ·subst ey;cases (show u=l6 b from ry);obtain⟨z,hd,xs,rel,dd⟩:=mJ I.hok e;refine wpAny_notIn_heap (NO hu) (i9 I.hok eb) hd dd ?_;have q:=(rel.val k).pH;rw[aaJ]at q;rw[<- q,<- l];exact h _ (I.tok _)
theorem kU {h':hX}{t':Nat}{ob:HO}(I:Inv X pins σ H s) (mu:D1 (H a)) (hs:v6 a s.heap h') (he:∃q,h'.get? a=some q) (new:ObjOk X.prog X.w (upd H a ob) h' a ob) :
  Inv X pins σ (upd H a ob) {s with heap:=h',toks:=t'}:=
 I.write (x:=a) (e:=a) mu (.inl rfl) (fun b q hb z=>(hs.2 b hb).trans z) he new
theorem Fn {P:ff}{w:im}{H':Hp}{h':hX}{aq:List (Key×V)}{vs:List (Key×al)}(z:aq.length<=sizeLine) (hd:(a==sysModules)=false) (rel:KV aq vs) (dd:h'.DictOf (bA P w) a vs) :
  ObjOk P w H' h' a (.dK aq):=⟨z,hd,vs,rel,dd⟩
theorem Fo {H':Hp}{Q:Unit->ar->Prop}(hu:A.units+1<cLine) (I:Inv X pins σ H s) (g:CN H a y v H') (ry:RelV y u) (rv:RelV v r) (h:∀s',Inv X pins σ H' s'->Q () s') :
  wpAny (model X.prog X.w) A (setItem (.ref a) u r) Q E s :=by
 rcases g with ⟨aq,k,e,ey,l,eH⟩|⟨aq,k,b,e,ey,eb,l,eH⟩
 ·subst ey eH;obtain⟨z,hd,vs,rel,dd⟩:=Kb I.hok e;have hz:vs.length<=sizeLine :=by rw[<- rel.length];exact z
  have hl:(putK aq k v).length<=sizeLine :=by have:=hZ aq k v;omega
  refine wpAny_setItem_pairs (hsz:=hz) (nV ry) dd fun h' nv hs=>h _ ?_
  have he:∃q,h'.get? a=some q:=let ⟨q,_,_,hq,_⟩:=nv;⟨q,hq⟩;exact kU I (by rw[e];exact LF) hs he (Fn hl hd (rel.put k rv) nv)
 ·subst ey eH;cases (show u=l6 b from ry);obtain⟨z,hd,xs,rel,dd⟩:=w6 I.hok e;have hz:xs.length<=sizeLine :=by rw[<- IF rel];exact z
  have hl:(putK aq k v).length<=sizeLine :=by have:=hZ aq k v;omega
  refine wpAny_setItem_heap (hsz:=hz) (NO hu) (i9 I.hok eb) dd fun h' nv hs=>h _ ?_
  obtain⟨q,es,ep,hq,h2,h3,h4,_,h5⟩:=nv;refine kU I (by rw[e];exact LF) hs ⟨q,hq⟩ ⟨hl,hd,_,(rel.put k eb rv).keeps fun c ys ec=>?_,q,es,ep,hq,h2,h3,h4,h5⟩
  rw[ah (sG ec e (fun z=>nomatch z))]
  exact ec
end
def Iq (i:c8):Prop:=∀ov iv,subscripted i false ov iv=operate [ov,iv] (getItem ov iv)
theorem LK {prog:ff}{w:im}{A:l5}{E:al->ar->Prop}{s:ar}{env:IN}{value slice:c8}{pos:u7}{T id:String}{Q:al->ar->Prop}
  (hl:typeLookup (.type T) "__getitem__" = pure (some (.builtin id))) (hs:Iq slice)
  (h:wpAny (model prog w) A (eval value env) (fun o aF=>wpAny (model prog w) A (eval slice env) (fun i jr=>jr.TypeIs o T/\wpAny (model prog w) A (getItem o i) Q E jr) E aF) E s) :
  wpAny (model prog w) A (eval (.Subscript value slice pos) env) Q E s :=by
 refine Subscript_ (lp h (fun o aF ee=>lp ee (fun i jr Ir=>?_) fun _ _ x=>x) fun _ _ x=>x)
 obtain⟨hT,Ir⟩:=Ir;unfold subscriptTail;refine ac ?_;rw[getitemInPython_of_ne hT.not_modules];refine ac (wpAny_specialOf hT hl ?_);have fin:wpAny (model prog w) A (subscripted slice false o i) (fun r mZ=>wpAny (model prog w) A (letTemporaryGo value o r>>=fun _=>pure r) Q E mZ) E jr :=by
  rw[hs o i];exact wpAny_operating (lp Ir (fun r mZ VQ=>ac (wpAny_letTemporaryGo (bn VQ))) fun _ _ x=>x)
 first
  |exact bn (ac fin)
  |exact ac (bn (ac fin))
  |exact ac fin
theorem Ao {X:Cx}{pins:List (ag×kw)}{σ:St}{H:Hp}{s:ar}{a:ag}{y:V}{o:Option V}(I:Inv X pins σ H s) (g:m5 H a y o):s.TypeIs (.ref a) "dict" := by
 rcases g with ⟨aq,k,e,_,_⟩|⟨aq,k,b,e,_,_,_⟩
 ·obtain⟨_,_,vs,_,dd⟩:=nW I.hok e;exact dd.typeIs
 ·obtain⟨_,_,xs,_,dd⟩:=mJ I.hok e;exact dd.typeIs
def SF (td ty:TE):TE:=fun σ H Q=>td σ H fun x H1=>ty σ H1 fun y H2=>∃a v,x=.ref a/\m5 H2 a y (some v)/\Q v H2
def SG (td ty tv:TE):TS:=fun D σ H=>tv σ H fun v H1=>td σ H1 fun x H2=>ty σ H2 fun y H3=>∃a H4,x=.ref a/\CN H3 a y v H4/\D.nx σ H4
section
variable {X:Cx}{o i e value:c8}{pos pos' YR:u7}{td ty tv:TE}
theorem LL (hu:X.A.units+1<cLine) (ho:PE X o td) (hi:PE X i ty) (hs:Iq i):PE X (.Subscript o i pos) (SF td ty) :=by
 refine⟨?_⟩;intro pins s σ H Q I h;refine LK PySem.F.slot_dict_getitem.lookup hs (thn (ho pins s σ H _ I h) fun u s1 ⟨x,H1,I1,rx,q1⟩=>thn (hi pins s1 σ H1 _ I1 q1) fun iv s2 ⟨y,H2,I2,ry,a,v,ex,g,q2⟩=>?_)
 subst ex;obtain rfl:u=l6 a:=rx;exact⟨Ao I2 g,Fm hu I2 g ry fun w' s3 I3 gf=>⟨v,H2,I3,gf,q2⟩⟩
theorem LN (hu:X.A.units+1<cLine) (ho:PE X o td) (hi:PE X i ty) (hv:PE X value tv) (hs:swapsWith value (some (.Subscript o i pos')) pos.line X.env=pure false) :
  PS X (.Assign [.Subscript o i pos'] value pos) (SG td ty tv) :=by
 refine⟨?_⟩;intro pins s σ H D I h;refine wpAny_Assign_Subscript (thn (hv pins s σ H _ I h) fun r s1 ⟨v,H1,I1,rv,q1⟩=>thn (ho pins s1 σ H1 _ I1 q1) fun u s2 ⟨x,H2,I2,rx,q2⟩=>thn (hi pins s2 σ H2 _ I2 q2) fun iv s3 ⟨y,H3,I3,ry,a,H4,ex,g,q3⟩=>?_) hs
 subst ex;obtain rfl:u=l6 a:=rx;exact Fo hu I3 g ry rv fun s4 I4=>⟨σ,H4,I4,q3⟩
end
theorem yt {P:ff}{w:im}{H:Hp}(h:hX) (hb:sysModules<h.objs.size):ObjOk P w H (h.push {cls:=.type "dict",data:=.dict #[]}) h.objs.size (.dT []):=
 ⟨mf _,beq_eq_false_iff_ne.mpr (ze (jp hb)),[],.nil,_,#[],0,db _ rfl,⟨rfl,rfl,rfl⟩,rfl,rfl,List.nodup_nil⟩
def Pa:TE:=fun _ H Q=>∀p,H p=none->Q (.ref p) (upd H p (.dT []))
section
variable {X:Cx}{pos:u7}
theorem Iu:PE X (.Dict [] [] pos) Pa:=⟨fun pins s σ H Q I h=>
 wpAny_Dict_empty ⟨.ref s.heap.objs.size,_,I.laid (a:=s.heap.objs.size) (o:=.dT []) (t':=s.toks) (fun _ _ q=>br _ q) (cb _) (yt s.heap I.big),rfl,h _ (I.hok.fresh (cb _))⟩⟩
end
structure M1 (X:Cx) (o:c8) (m:bi) (apos:u7) (e:c8) (aX:u7):Prop where
 base:attributeBase o m X.env (eval o X.env)=eval o X.env
 few:((backTo aX (starEach [e] X.env)).all (fun x => !x.1) && (backToKw aX (keywordEach [] X.env)).all (fun x=>x.1.isSome)
  && decide (([e]:List c8).length+([]:List Po).length+(if ([]:List Po).isEmpty then 0 else 1)<30))=true
 line:(apos.endLine==aX.line)=true
 trees:backTo aX (starEach [e] X.env)=[(false,eval e X.env)]
structure M2 (X:Cx) (o:c8) (m:bi) (apos:u7) (e f:c8) (aX:u7):Prop where
 base:attributeBase o m X.env (eval o X.env)=eval o X.env
 few:((backTo aX (starEach [e,f] X.env)).all (fun x => !x.1) && (backToKw aX (keywordEach [] X.env)).all (fun x=>x.1.isSome)
  && decide (([e,f]:List c8).length+([]:List Po).length+(if ([]:List Po).isEmpty then 0 else 1)<30))=true
 line:(apos.endLine==aX.line)=true
 trees:backTo aX (starEach [e,f] X.env)=[(false,eval e X.env),(false,eval f X.env)]
section
variable {X:Cx}{pins:List (ag×kw)}{σ:St}{H:Hp}{s:ar}{a:ag}{y d:V}{u r:al}{o:Option V}{A:l5}{E:al->ar->Prop}
theorem Pb {Q:al->ar->Prop}(hu:A.units+1<cLine) (I:Inv X pins σ H s) (g:m5 H a y o) (ry:RelV y u) (h:∀w' s',Inv X pins σ H s'->RelV (o.getD .ax) w'->Q w' s') :
  wpAny (model X.prog X.w) A (call (.builtin "dict.get") [.ref a,u]) Q E s :=by
 rcases g with ⟨aq,k,e,ey,l⟩|⟨aq,k,b,e,ey,eb,l⟩
 ·subst ey;obtain⟨z,hd,vs,rel,dd⟩:=nW I.hok e;refine Z2 OK dd.typeIs T0 (PySem.F.args_dict_get_2 _ _) (meets_dict_get (bA X.prog X.w) a (nV ry) hd) ⟨_,dd.mapOf,h _ _ (I.tok _) ?_⟩;rw[l];exact(rel.val k).getD rfl
 ·subst ey;cases (show u=l6 b from ry);obtain⟨z,hd,xs,rel,dd⟩:=mJ I.hok e;refine Z2 OK dd.typeIs T0 (PySem.F.args_dict_get_2 _ _) (meetsH_dict_get (tupleKind (bA X.prog X.w)) a b hd) ⟨NO hu,k,xs,i9 I.hok eb,dd,h _ _ (I.tok _) ?_⟩;rw[l];exact(rel.val k).getD rfl
theorem Pg {Q:al->ar->Prop}(hu:A.units+1<cLine) (I:Inv X pins σ H s) (g:m5 H a y o) (ry:RelV y u) (rd:RelV d r) (h:∀w' s',Inv X pins σ H s'->RelV (o.getD d) w'->Q w' s') :
  wpAny (model X.prog X.w) A (call (.builtin "dict.get") [.ref a,u,r]) Q E s :=by
 rcases g with ⟨aq,k,e,ey,l⟩|⟨aq,k,b,e,ey,eb,l⟩
 ·subst ey;obtain⟨z,hd,vs,rel,dd⟩:=nW I.hok e;refine Z2 OK dd.typeIs T0 (PySem.F.args_dict_get_3 _ _ _) (meets_dict_get_default (bA X.prog X.w) a (nV ry) hd r) ⟨_,dd.mapOf,h _ _ (I.tok _) ?_⟩;rw[l];exact(rel.val k).getD rd
 ·subst ey;cases (show u=l6 b from ry);obtain⟨z,hd,xs,rel,dd⟩:=mJ I.hok e;refine Z2 OK dd.typeIs T0 (PySem.F.args_dict_get_3 _ _ _) (meetsH_dict_get_default (tupleKind (bA X.prog X.w)) a b hd r) ⟨NO hu,k,xs,i9 I.hok eb,dd,h _ _ (I.tok _) ?_⟩;rw[l];exact(rel.val k).getD rd
end
inductive Dv where
 |int (i:Int)|bl (b:Bool)|ax|str (z:bi)|tup (xs:List Dv)|lst (xs:List Dv)|set (ns:List Int)|ptr (a:ag)|exc (C:ag)|bK (ns:List Int)|raw (v:V)|dk (ks:List Key) (ds:List Dv)|dt (ks:List (List Key)) (ds:List Dv)|b7 (f:ag) (o:kw) (c:ag) (oc:kw) (vs:List V) (ds:List Dv)
inductive Mo where
 |lst (xs:List Dv)|cH|dk (ks:List Key) (ds:List Dv)|dt (ks:List (List Key)) (ds:List Dv)
abbrev Mh:=ag->Option Mo
structure cf where
 g:List ag
 l:List (ag×bi)
instance:Membership ag cf:=⟨fun t a=>a∈t.g⟩
def Kc:HO->Bool
 | .dw _=>true
 | .lam _=>true
 | .dK _=>true
 | .dT _=>true
 |_=>false
def Fp:HO->Bool
 | .dw _=>false
 |_=>true
def lu:HO->Bool
 | .dK _=>true
 | .dT _=>true
 |_=>false
theorem Rd.map {H H':Hp}{a:ag}{u:HO}(e:Rd H a u) (k:∀x,H a=some x->H' a=some x):Rd H' a u:=e.imp (k _) fun⟨o,h⟩=>⟨o,k _ h⟩
theorem Rd.Ph {H H':Hp}{a:ag}{u:HO}(e:Rd H a u) (hu:lu u=true) (k:∀x,Fp x=true->H a=some x->H' a=some x):Rd H' a u:=e.imp (k _ (by cases u<;>first|rfl|cases hu)) fun⟨o,h⟩=>⟨o,k _ rfl h⟩
theorem Rd.there {H:Hp}{a:ag}{u:HO}(e:Rd H a u):∃x,H a=some x:=e.elim (fun h=>⟨_,h⟩) fun⟨o,h⟩=>⟨_,h⟩
def Tg (o o':HO):Prop:=(∃ps iZ:Array al,o=.dw ps/\o'=.dw iZ/\NH iZ.toList)\/(∃ps iZ:Array al,o=.lam ps/\o'=.lam iZ)\/(lu o=true/\∃ob,o'=.bV ob o)
theorem Tg.trans {a b c:HO}(x:Tg a b) (y:Tg b c):Tg a c :=by
 rcases x with ⟨p,q,rfl,rfl,t⟩|⟨p,q,rfl,rfl⟩|⟨hd,ob,rfl⟩
 ·rcases y with ⟨p2,q2,e,rfl,t2⟩|⟨p2,q2,e,_⟩|⟨e,_⟩
  ·exact .inl ⟨p,q2,rfl,rfl,t2⟩
  ·cases e
  ·cases e
 ·rcases y with ⟨p2,q2,e,_⟩|⟨p2,q2,e,rfl⟩|⟨e,_⟩
  ·cases e
  ·exact .inr (.inl ⟨p,q2,rfl,rfl⟩)
  ·cases e
 ·rcases y with ⟨p2,q2,e,_⟩|⟨p2,q2,e,_⟩|⟨e,_⟩<;>cases e
theorem Tg.tab {a b:HO}(x:Tg a b):Kc a=true :=by
 rcases x with ⟨p,q,rfl,rfl,_⟩|⟨p,q,rfl,rfl⟩|⟨hd,ob,rfl⟩
 ·rfl
 ·rfl
 ·cases a<;>first|rfl|cases hd
def VR (H:Hp) (q:bi) (cv:al):Prop:=∃(c:ag) (oc:kw) (u:HO) (vs:Array al) (t:aaR),cv=l6 c/\H c=some (.bV oc u)/\oc.data=.fields vs/\vs[1]?=some (ZM q t)
def Lm (H:Hp) (p:ag×bi):Prop:=∃ps:Array al,H p.1=some (.lam ps)/\NH ps.toList/\∀pos cv,codeAmong pos ps.toList=some cv->VR H p.2 cv
theorem Lm.keep {H H':Hp}{p:ag×bi}(h:Lm H p) (k1:∀ps,H p.1=some (.lam ps)->H' p.1=some (.lam ps)) (k2:∀c oc u,H c=some (.bV oc u)->H' c=some (.bV oc u)):Lm H' p :=by
 obtain⟨ps,e,t,c⟩:=h;refine⟨ps,k1 _ e,t,fun pos cv q=>?_⟩
 obtain⟨a,oc,u,vs,tk,e1,e2,r⟩:=c pos cv q;exact⟨a,oc,u,vs,tk,e1,k2 _ _ _ e2,r⟩
structure Bz where
 P:ff
 w:im
 K:ba
 tb:cf
 hid:List ag
def Fz (β:Bz) (M:Mh) (a:ag):Prop:=M a=none/\a ∉ β.hid
def Kl (K:ba) (a:ag) (ns:List Int):Prop:=∃(o:kw) (its:Array al) (n:Nat),K.lookup a=some o/\o.cls=.type "list" /\ o.dict=none/\o.data=.seq its n/\its.size<=sizeLine/\Vals (ns.map V.int) its.toList
inductive Rz (β:Bz) (M:Mh) (H:Hp):V->Dv->Prop where
 |int (i:Int):Rz β M H (.int i) (.int i)
 |bl (b:Bool):Rz β M H (.bl b) (.bl b)
 |ax:Rz β M H .ax .ax
 |str (z:bi):Rz β M H (.str z) (.str z)
 |tup {a:ag} {vs:List V} {ds:List Dv} (m:Fz β M a) (e:H a=some (.tup vs)) (hl:vs.length=ds.length) (h:∀(i:Nat) (v:V) (d:Dv),vs[i]?=some v->ds[i]?=some d->Rz β M H v d):Rz β M H (.ref a) (.tup ds)
 |lst {a:ag} {vs:List V} {ds:List Dv} (m:Fz β M a) (e:H a=some (.lst vs)) (hl:vs.length=ds.length) (h:∀(i:Nat) (v:V) (d:Dv),vs[i]?=some v->ds[i]?=some d->Rz β M H v d):Rz β M H (.ref a) (.lst ds)
 |set {a:ag} {ns:List Int} (m:Fz β M a) (e:H a=some (gh β.P β.w a ns)):Rz β M H (.ref a) (.set ns)
 |ptr {a:ag} (m:(M a).isSome=true):Rz β M H (.ref a) (.ptr a)
 |exc {a C:ag} (m:Fz β M a) (e:H a=some (VO C a)):Rz β M H (.ref a) (.exc C)
 |bK {a:ag} {o:kw} {ns:List Int} (m:Fz β M a) (e:H a=some (.bV o (.lst (ns.map V.int)))):Rz β M H (.ref a) (.bK ns)
 |cY {a:ag} {ns:List Int} (m:Fz β M a) (e:H a=some (.lst (ns.map V.int))):Rz β M H (.ref a) (.bK ns)
 |cZ {a:ag} {ns:List Int} (e:Kl β.K a ns):Rz β M H (.ref a) (.bK ns)
 |raw (v:V):Rz β M H v (.raw v)
 |dk {a:ag} {ks:List Key} {vs:List V} {ds:List Dv} (m:Fz β M a) (e:Rd H a (.dK (ks.zip vs))) (hk:ks.length=vs.length) (hl:vs.length=ds.length) (h:∀(i:Nat) (v:V) (d:Dv),vs[i]?=some v->ds[i]?=some d->Rz β M H v d):Rz β M H (.ref a) (.dk ks ds)
 |dt {a:ag} {ks:List (List Key)} {vs:List V} {ds:List Dv} (m:Fz β M a) (e:Rd H a (.dT (ks.zip vs))) (hk:ks.length=vs.length) (hl:vs.length=ds.length) (h:∀(i:Nat) (v:V) (d:Dv),vs[i]?=some v->ds[i]?=some d->Rz β M H v d):Rz β M H (.ref a) (.dt ks ds)
 |b7 {f c:ag} {o oc:kw} {u uc:HO} {vs:List V} {ds:List Dv} (m:Fz β M f) (e:H f=some (.bV o u)) (m2:Fz β M c) (e2:H c=some (.bV oc uc)) (hl:vs.length=ds.length) (h:∀(i:Nat) (v:V) (d:Dv),vs[i]?=some v->ds[i]?=some d->Rz β M H v d):Rz β M H (.ref f) (.b7 f o c oc vs ds)
structure aJ (β:Bz) (M:Mh) (H:Hp) (vs:List V) (ds:List Dv):Prop where
 len:vs.length=ds.length
 at':∀(i:Nat) (v:V) (d:Dv),vs[i]?=some v->ds[i]?=some d->Rz β M H v d
def jY (β:Bz) (M:Mh) (H:Hp) (a:ag):Mo->Prop
 | .lst ds=>∃vs,H a=some (.lst vs)/\aJ β M H vs ds
 | .cH=>Sx H a
 | .dk ks ds=>∃vs,H a=some (.dK (ks.zip vs))/\ks.length=vs.length/\aJ β M H vs ds
 | .dt ks ds=>∃vs,H a=some (.dT (ks.zip vs))/\ks.length=vs.length/\aJ β M H vs ds
def pI:HO->Bool
 | .lst _=>true
 | .set _ _=>true
 | .dK _=>true
 | .dT _=>true
 | .ext _=>true
 | .dw _=>true
 |_=>false
def CO (H:Hp) (a:ag):Prop:=∃o,H a=some o/\pI o=true
theorem CO.upd {H:Hp}{a p:ag}{o:HO}(h:CO H a) (d:H p=none\/pI o=true):CO (upd H p o) a :=by
 obtain⟨u,e,n⟩:=h;by_cases z:a=p
 ·subst z;rcases d with d|d
  ·rw[e]at d;cases d
  ·exact⟨o,aE,d⟩
 ·exact⟨u,by rw[ah z];exact e,n⟩
structure Mz (β:Bz) (M:Mh) (H:Hp):Prop where
 obj:∀a o,M a=some o->jY β M H a o
 tabs:JV β.tb.g H
 hids:∀a∈β.hid,CO H a
 apart:∀a o,M a=some o->a ∉ β.hid
 lams:∀p∈β.tb.l,Lm H p
structure Ey (M:Mh) (H:Hp) (M':Mh) (H':Hp):Prop where
 keep:∀b o,M b=none->H b=some o->H' b=some o\/∃o',Tg o o'/\H' b=some o'
 dom:∀a,(M a).isSome=true->(M' a).isSome=true
 new:∀a o,M a=none->H a=some o->M' a=none
structure Ex (β:Bz) (M:Mh) (H:Hp) (M':Mh) (H':Hp):Prop extends Ey M H M' H' where
 mz:Mz β M' H'
section
variable {β:Bz}{M M1 M2:Mh}{H H1 H2:Hp}
theorem Ey.refl:Ey M H M H:=⟨fun _ _ _ h=>.inl h,fun _ h=>h,fun _ _ h _=>h⟩
theorem Ex.refl (m:Mz β M H):Ex β M H M H:=⟨.refl,m⟩
theorem Ey.trans (x:Ey M H M1 H1) (y:Ey M1 H1 M2 H2):Ey M H M2 H2 :=by
 refine⟨fun b o hm h=>?_,fun a h=>y.dom a (x.dom a h),fun a o hm h=>?_⟩
 ·have mG:=x.new b o hm h;rcases x.keep b o hm h with q|⟨o1,t,q⟩
  ·exact y.keep b o mG q
  ·rcases y.keep b _ mG q with q2|⟨o2,t2,q2⟩
   ·exact .inr ⟨o1,t,q2⟩
   ·exact .inr ⟨o2,t.trans t2,q2⟩
 ·have mG:=x.new a o hm h;rcases x.keep a o hm h with q|⟨o1,t,q⟩
  ·exact y.new a _ mG q
  ·exact y.new a _ mG q
theorem Ex.trans (x:Ex β M H M1 H1) (y:Ex β M1 H1 M2 H2):Ex β M H M2 H2:=⟨x.toEy.trans y.toEy,y.mz⟩
theorem Ey.get (x:Ey M H M1 H1) {b:ag}{o:HO}(m:M b=none) (h:H b=some o) (n:Kc o=false):H1 b=some o :=by
 rcases x.keep b o m h with q|⟨o',e,_⟩
 ·exact q
 ·rw[e.tab]at n;cases n
theorem Ey.rd (x:Ey M H M1 H1) {b:ag}{u:HO}(m:M b=none) (h:Rd H b u) (hu:lu u=true):Rd H1 b u :=by
 rcases h with h|⟨o,h⟩
 ·rcases x.keep b u m h with q|⟨o',t,q⟩
  ·exact .inl q
  ·rcases t with ⟨_,_,rfl,_⟩|⟨_,_,rfl,_⟩|⟨_,ob,rfl⟩
   ·cases hu
   ·cases hu
   ·exact .inr ⟨ob,q⟩
 ·exact .inr ⟨o,x.get m h rfl⟩
theorem Ey.gone (x:Ey M H M1 H1) {b:ag}(h:H1 b=none):M b=none->H b=none:=fun m=>by
 cases e:H b with
 |none=>rfl
 |some o=>
  rcases x.keep b o m e with q|⟨_,_,q⟩<;>(rw[h]at q;cases q)
theorem Rz.ey (x:Ey M H M1 H1) {v:V}{d:Dv}(h:Rz β M H v d):Rz β M1 H1 v d :=by
 induction h with
 |int i=>exact .int i
 |bl b=>exact .bl b
 |ax=>exact .ax
 |str z=>exact .str z
 |tup m e hl h ih=>exact .tup ⟨x.new _ _ m.1 e,m.2⟩ (x.get m.1 e rfl) hl ih
 |lst m e hl h ih=>exact .lst ⟨x.new _ _ m.1 e,m.2⟩ (x.get m.1 e rfl) hl ih
 |dk m e hk hl h ih=>exact .dk ⟨x.new _ _ m.1 e.there.choose_spec,m.2⟩ (x.rd m.1 e rfl) hk hl ih
 |dt m e hk hl h ih=>exact .dt ⟨x.new _ _ m.1 e.there.choose_spec,m.2⟩ (x.rd m.1 e rfl) hk hl ih
 |b7 m e m2 e2 hl h ih=>exact .b7 ⟨x.new _ _ m.1 e,m.2⟩ (x.get m.1 e rfl) ⟨x.new _ _ m2.1 e2,m2.2⟩ (x.get m2.1 e2 rfl) hl ih
 |set m e=>exact .set ⟨x.new _ _ m.1 e,m.2⟩ (x.get m.1 e rfl)
 |ptr m=>exact .ptr (x.dom _ m)
 |exc m e=>exact .exc ⟨x.new _ _ m.1 e,m.2⟩ (x.get m.1 e rfl)
 |bK m e=>exact .bK ⟨x.new _ _ m.1 e,m.2⟩ (x.get m.1 e rfl)
 |cY m e=>exact .cY ⟨x.new _ _ m.1 e,m.2⟩ (x.get m.1 e rfl)
 |cZ e=>exact .cZ e
 |raw v=>exact .raw v
theorem Rz.ex (x:Ex β M H M1 H1) {v:V}{d:Dv}(h:Rz β M H v d):Rz β M1 H1 v d:=h.ey x.toEy
theorem aJ.ex (x:Ex β M H M1 H1) {vs:List V}{ds:List Dv}(h:aJ β M H vs ds):aJ β M1 H1 vs ds:=⟨h.len,fun i v d a b=>(h.at' i v d a b).ex x⟩
theorem aJ.nil:aJ β M H [] []:=⟨rfl,fun i v d h=>by simp at h⟩
theorem aJ.cons {v:V}{d:Dv}{vs:List V}{ds:List Dv}(h:Rz β M H v d) (t:aJ β M H vs ds):aJ β M H (v::vs) (d::ds):=⟨by simp[t.len],fun i x y a b=>by
 cases i with
 |zero=>simp at a b;subst a b;exact h
 |succ i=>rw[JJ]at a b;exact t.at' i x y a b⟩
theorem aJ.head {v:V}{d:Dv}{vs:List V}{ds:List Dv}(h:aJ β M H (v::vs) (d::ds)):Rz β M H v d:=h.at' 0 v d rfl rfl
theorem aJ.tail {v:V}{d:Dv}{vs:List V}{ds:List Dv}(h:aJ β M H (v::vs) (d::ds)):aJ β M H vs ds:=⟨by simpa using h.len,fun i x y a b=>h.at' (i+1) x y (by rw[JJ];exact a) (by rw[JJ];exact b)⟩
theorem aJ.append {vs Fq:List V}{ds iN:List Dv}(h:aJ β M H vs ds) (t:aJ β M H Fq iN):aJ β M H (vs++Fq) (ds++iN):=⟨by simp[h.len,t.len],fun i x y a b=>by
 rw[Z3]at a b;rw[h.len]at a;split at b
 ·rename_i z;rw[if_pos z]at a;exact h.at' i x y a b
 ·rename_i z;rw[if_neg z]at a;exact t.at' _ x y a b⟩
theorem aJ.snoc {v:V}{d:Dv}{vs:List V}{ds:List Dv}(t:aJ β M H vs ds) (h:Rz β M H v d):aJ β M H (vs++[v]) (ds++[d]):=t.append (.cons h .nil)
theorem aJ.get {vs:List V}{ds:List Dv}(h:aJ β M H vs ds) {i:Nat}{d:Dv}(e:ds[i]?=some d):∃v,vs[i]?=some v/\Rz β M H v d :=by
 have hi:=(ca.mp e).1;have cy:i<vs.length :=by rw[h.len];exact hi
 exact⟨vs[i],ap cy,h.at' i _ _ (ap cy) e⟩
theorem aJ.get' {vs:List V}{ds:List Dv}(h:aJ β M H vs ds) {i:Nat}{v:V}(e:vs[i]?=some v):∃d,ds[i]?=some d/\Rz β M H v d :=by
 have hi:=(ca.mp e).1;have cy:i<ds.length :=by rw[<- h.len];exact hi
 exact⟨ds[i],ap cy,h.at' i _ _ e (ap cy)⟩
theorem aJ.take {vs:List V}{ds:List Dv}(h:aJ β M H vs ds) (n:Nat):aJ β M H (vs.take n) (ds.take n):=⟨by simp[h.len],fun i x y a b=>by
 rw[List.getElem?_take]at a b;split at a
 ·rename_i z;rw[if_pos z]at b;exact h.at' i x y a b
 ·cases a⟩
theorem aJ.drop {vs:List V}{ds:List Dv}(h:aJ β M H vs ds) (n:Nat):aJ β M H (vs.drop n) (ds.drop n):=⟨by simp[h.len],fun i x y a b=>by
 rw[aao]at a b;exact h.at' _ x y a b⟩
theorem aJ.set {vs:List V}{ds:List Dv}(h:aJ β M H vs ds) (n:Nat) {v:V}{d:Dv}(r:Rz β M H v d):aJ β M H (vs.set n v) (ds.set n d):=⟨by simp[h.len],fun i x y a b=>by
 rw[Zx]at a b;rw[h.len]at a;split at a
 ·rename_i z;rw[if_pos z]at b;split at a
  ·rename_i z2;rw[if_pos z2]at b;cases a;cases b;exact r
  ·cases a
 ·rename_i z;rw[if_neg z]at b;exact h.at' i x y a b⟩
theorem pJ {a:ag}{vs:List V}{ds:List Dv}(m:Fz β M a) (e:H a=some (.tup vs)) (h:aJ β M H vs ds):Rz β M H (.ref a) (.tup ds):=.tup m e h.len h.at'
theorem ny {a:ag}{vs:List V}{ds:List Dv}(m:Fz β M a) (e:H a=some (.lst vs)) (h:aJ β M H vs ds):Rz β M H (.ref a) (.lst ds):=.lst m e h.len h.at'
theorem cE {v:V}{ds:List Dv}(h:Rz β M H v (.tup ds)):∃a vs,v=.ref a/\Fz β M a/\H a=some (.tup vs)/\aJ β M H vs ds :=by
 cases h with
 |tup m e hl h=>exact⟨_,_,rfl,m,e,hl,h⟩
theorem dS {v:V}{ds:List Dv}(h:Rz β M H v (.lst ds)):∃a vs,v=.ref a/\Fz β M a/\H a=some (.lst vs)/\aJ β M H vs ds :=by
 cases h with
 |lst m e hl h=>exact⟨_,_,rfl,m,e,hl,h⟩
theorem aV {v:V}{i:Int}(h:Rz β M H v (.int i)):v=.int i :=by cases h;rfl
theorem d6 {v:V}{b:Bool}(h:Rz β M H v (.bl b)):v=.bl b :=by cases h;rfl
theorem dU {v:V}{z:bi}(h:Rz β M H v (.str z)):v=.str z :=by cases h;rfl
theorem iO {v:V}(h:Rz β M H v .ax):v=.ax :=by cases h;rfl
theorem Fs {v u:V}(h:Rz β M H v (.raw u)):v=u :=by cases h;rfl
theorem bF {v:V}{a:ag}(h:Rz β M H v (.ptr a)):v=.ref a/\(M a).isSome=true :=by cases h with|ptr m=>exact⟨rfl,m⟩
theorem Ft {v:V}{ns:List Int}(h:Rz β M H v (.set ns)):∃a,v=.ref a/\Fz β M a/\H a=some (gh β.P β.w a ns) :=by cases h with|set m e=>exact⟨_,rfl,m,e⟩
theorem vX {v:V}{ns:List Int}(h:Rz β M H v (.bK ns)):∃a,v=.ref a/\bL β.K H a (ns.map V.int) :=by
 cases h with
 |bK m e=>exact⟨_,rfl,.inl (.inr ⟨_,e⟩)⟩
 |cY m e=>exact⟨_,rfl,.inl (.inl e)⟩
 |cZ e=>exact⟨_,rfl,.inr e⟩
def rV:HO->Bool
 | .lst _=>true
 | .dK _=>true
 | .dT _=>true
 |_=>false
theorem Mz.own (m:Mz β M H) {a:ag}{o:Mo}(e:M a=some o):∃u,H a=some u/\rV u=true :=by
 have q:=m.obj a o e;cases o with
 |lst ds=>obtain⟨vs,q,_⟩:=q;exact⟨_,q,rfl⟩
 |dk ks ds=>obtain⟨vs,q,_⟩:=q;exact⟨_,q,rfl⟩
 |dt ks ds=>obtain⟨vs,q,_⟩:=q;exact⟨_,q,rfl⟩
 |cH=>obtain⟨_,_,q,_⟩:=q;exact⟨_,q,rfl⟩
theorem Mz.lx (m:Mz β M H) {a:ag}{u:HO}(h:H a=some u) (n:rV u=false):M a=none :=by
 cases e:M a with
 |none=>rfl
 |some o=>obtain⟨u',q,w⟩:=m.own e;rw[h]at q;cases q;rw[n]at w;cases w
theorem Mz.SH (m:Mz β M H) {p:ag}(hp:p∈β.tb):M p=none:=let ⟨_,h,_⟩:=m.tabs p hp;m.lx h rfl
theorem Mz.Pj (m:Mz β M H) {p:ag×bi}(hp:p∈β.tb.l):M p.1=none:=let ⟨_,h,_⟩:=m.lams p hp;m.lx h rfl
theorem Mz.free (m:Mz β M H) {a:ag}(h:H a=none):M a=none :=by
 cases e:M a with
 |none=>rfl
 |some o=>obtain⟨xs,q,_⟩:=m.own e;rw[h]at q;cases q
theorem Mz.fz (m:Mz β M H) {a:ag}(h:H a=none):Fz β M a:=⟨m.free h,fun z=>by
 obtain⟨o,e,_⟩:=m.hids a z;rw[h]at e;cases e⟩
theorem Iv {p a:ag}{o:HO}(h:∃u,H a=Uf u):∃u,upd H p o a=Uf u :=by
 unfold upd;split
 ·exact⟨_,rfl⟩
 ·exact h
theorem Ex.lay (m:Mz β M H) {p:ag}(h:H p=none) (o:HO):Ex β M H M (upd H p o) :=by
 have pre:∀b u,H b=some u->upd H p o b=some u:=fun b u q=>by rw[ah (bp q h)];exact q
 have rz:∀{v:V} {d:Dv},Rz β M H v d->Rz β M (upd H p o) v d:=fun r=>by
  induction r with
  |int i=>exact .int i
  |bl b=>exact .bl b
  |ax=>exact .ax
  |str z=>exact .str z
  |tup m e hl h ih=>exact .tup m (pre _ _ e) hl ih
  |lst m e hl h ih=>exact .lst m (pre _ _ e) hl ih
  |dk m e hk hl h ih=>exact .dk m (e.map fun _ h=>pre _ _ h) hk hl ih
  |dt m e hk hl h ih=>exact .dt m (e.map fun _ h=>pre _ _ h) hk hl ih
  |b7 m e m2 e2 hl h ih=>exact .b7 m (pre _ _ e) m2 (pre _ _ e2) hl ih
  |set m e=>exact .set m (pre _ _ e)
  |ptr m=>exact .ptr m
  |exc m e=>exact .exc m (pre _ _ e)
  |bK m e=>exact .bK m (pre _ _ e)
  |cY m e=>exact .cY m (pre _ _ e)
  |cZ e=>exact .cZ e
  |raw v=>exact .raw v
 refine⟨⟨fun b u _ q=>.inl (pre b u q),fun _ h=>h,fun _ _ h _=>h⟩,fun a u e=>?_,fun q hq=>?_,fun a ha=>(m.hids a ha).upd (.inl h),m.apart,fun q hq=>(m.lams q hq).keep (fun _ e=>pre _ _ e) fun _ _ _ e=>pre _ _ e⟩
 ·have z:=m.obj a u e;cases u with
  |lst ds=>obtain⟨vs,z,l,r⟩:=z;exact⟨vs,pre _ _ z,l,fun i v d a b=>rz (r i v d a b)⟩
  |dk ks ds=>obtain⟨vs,z,hk,l,r⟩:=z;exact⟨vs,pre _ _ z,hk,l,fun i v d a b=>rz (r i v d a b)⟩
  |dt ks ds=>obtain⟨vs,z,hk,l,r⟩:=z;exact⟨vs,pre _ _ z,hk,l,fun i v d a b=>rz (r i v d a b)⟩
  |cH=>obtain⟨c,n,z,r⟩:=z;exact⟨c,n,pre _ _ z,r⟩
 ·obtain⟨ps,e,t⟩:=m.tabs q hq;exact⟨ps,pre _ _ e,t⟩
theorem Ex.grow (m:Mz β M H) {p:ag}(hp:p∈β.tb) {ps:Array al}(t:NH ps.toList):Ex β M H M (upd H p (.dw ps)) :=by
 obtain⟨Xh,Us,t0⟩:=m.tabs p hp;have pre:∀b u,H b=some u->Fp u=true->upd H p (.dw ps) b=some u:=fun b u q n=>by
  have:b≠p:=fun z=>by subst z;rw[Us]at q;cases q;cases n
  rw[ah this];exact q
 have rz:∀{v:V} {d:Dv},Rz β M H v d->Rz β M (upd H p (.dw ps)) v d:=fun r=>by
  induction r with
  |int i=>exact .int i
  |bl b=>exact .bl b
  |ax=>exact .ax
  |str z=>exact .str z
  |tup m e hl h ih=>exact .tup m (pre _ _ e rfl) hl ih
  |lst m e hl h ih=>exact .lst m (pre _ _ e rfl) hl ih
  |dk m e hk hl h ih=>exact .dk m (e.Ph rfl fun x hx h=>pre _ _ h hx) hk hl ih
  |dt m e hk hl h ih=>exact .dt m (e.Ph rfl fun x hx h=>pre _ _ h hx) hk hl ih
  |b7 m e m2 e2 hl h ih=>exact .b7 m (pre _ _ e rfl) m2 (pre _ _ e2 rfl) hl ih
  |set m e=>exact .set m (pre _ _ e rfl)
  |ptr m=>exact .ptr m
  |exc m e=>exact .exc m (pre _ _ e rfl)
  |bK m e=>exact .bK m (pre _ _ e rfl)
  |cY m e=>exact .cY m (pre _ _ e rfl)
  |cZ e=>exact .cZ e
  |raw v=>exact .raw v
 refine⟨⟨fun b u _ q=>?_,fun _ h=>h,fun _ _ h _=>h⟩,fun a u e=>?_,fun q hq=>?_,fun a ha=>(m.hids a ha).upd (.inr rfl),m.apart,fun q hq=>(m.lams q hq).keep (fun _ e=>pre _ _ e rfl) fun _ _ _ e=>pre _ _ e rfl⟩
 ·by_cases e:b=p
  ·subst e;rw[Us]at q;cases q;exact .inr ⟨_,.inl ⟨Xh,ps,rfl,rfl,t⟩,aE⟩
  ·exact .inl (by rw[ah e];exact q)
 ·have z:=m.obj a u e;cases u with
  |lst ds=>obtain⟨vs,z,l,r⟩:=z;exact⟨vs,pre _ _ z rfl,l,fun i v d a b=>rz (r i v d a b)⟩
  |dk ks ds=>obtain⟨vs,z,hk,l,r⟩:=z;exact⟨vs,pre _ _ z rfl,hk,l,fun i v d a b=>rz (r i v d a b)⟩
  |dt ks ds=>obtain⟨vs,z,hk,l,r⟩:=z;exact⟨vs,pre _ _ z rfl,hk,l,fun i v d a b=>rz (r i v d a b)⟩
  |cH=>obtain⟨c,n,z,r⟩:=z;exact⟨c,n,pre _ _ z rfl,r⟩
 ·by_cases e:q=p
  ·subst e;exact⟨ps,aE,t⟩
  ·obtain⟨p2,e2,t2⟩:=m.tabs q hq;exact⟨p2,by rw[ah e];exact e2,t2⟩
def aw (M:Mh) (a:ag) (o:Mo):Mh:=fun b=>if b=a then Uf o else M b
theorem updM_same {a:ag}{o:Mo}:aw M a o a=Uf o :=by unfold aw;rw[if_pos rfl]
theorem ao {a b:ag}{o:Mo}(h:b≠a):aw M a o b=M b :=by unfold aw;rw[if_neg h]
theorem updM_updM {a:ag}{o u:Mo}:aw (aw M a o) a u=aw M a u :=by funext b;unfold aw;split<;>rfl
theorem nz {p:ag}{o:Mo}{u:HO}(hp:(M p).isSome=true\/H p=none) {v:V}{d:Dv}(h:Rz β M H v d):Rz β (aw M p o) (upd H p u) v d :=by
 have ne:∀a x,M a=none->H a=Uf x->a≠p:=fun a x m e z=>by
  subst z;rcases hp with q|q
  ·rw[m]at q;cases q
  ·rw[q]at e;cases e
 induction h with
 |int i=>exact .int i
 |bl b=>exact .bl b
 |ax=>exact .ax
 |str z=>exact .str z
 |tup m e hl h ih=>have n:=ne _ _ m.1 e;exact .tup ⟨by rw[ao n];exact m.1,m.2⟩ (by rw[ah n];exact e) hl ih
 |lst m e hl h ih=>have n:=ne _ _ m.1 e;exact .lst ⟨by rw[ao n];exact m.1,m.2⟩ (by rw[ah n];exact e) hl ih
 |dk m e hk hl h ih=>have n:=ne _ _ m.1 e.there.choose_spec;exact .dk ⟨by rw[ao n];exact m.1,m.2⟩ (e.map fun _ h=>by rw[ah n];exact h) hk hl ih
 |dt m e hk hl h ih=>have n:=ne _ _ m.1 e.there.choose_spec;exact .dt ⟨by rw[ao n];exact m.1,m.2⟩ (e.map fun _ h=>by rw[ah n];exact h) hk hl ih
 |b7 m e m2 e2 hl h ih=>have n:=ne _ _ m.1 e;have n2:=ne _ _ m2.1 e2;exact .b7 ⟨by rw[ao n];exact m.1,m.2⟩ (by rw[ah n];exact e) ⟨by rw[ao n2];exact m2.1,m2.2⟩ (by rw[ah n2];exact e2) hl ih
 |set m e=>have n:=ne _ _ m.1 e;exact .set ⟨by rw[ao n];exact m.1,m.2⟩ (by rw[ah n];exact e)
 |ptr m=>
  refine .ptr ?_;unfold aw;split
  ·rfl
  ·exact m
 |exc m e=>have n:=ne _ _ m.1 e;exact .exc ⟨by rw[ao n];exact m.1,m.2⟩ (by rw[ah n];exact e)
 |bK m e=>have n:=ne _ _ m.1 e;exact .bK ⟨by rw[ao n];exact m.1,m.2⟩ (by rw[ah n];exact e)
 |cY m e=>have n:=ne _ _ m.1 e;exact .cY ⟨by rw[ao n];exact m.1,m.2⟩ (by rw[ah n];exact e)
 |cZ e=>exact .cZ e
 |raw v=>exact .raw v
theorem jY.upd {p:ag}{o':Mo}{u:HO}(hp:(M p).isSome=true\/H p=none) {a:ag}{o:Mo}(ha:a≠p) (z:jY β M H a o):jY β (aw M p o') (L2.upd H p u) a o :=by
 cases o with
 |lst ds=>obtain⟨vs,z,l,r⟩:=z;exact⟨vs,by rw[ah ha];exact z,l,fun i v d a b=>nz hp (r i v d a b)⟩
 |dk ks ds=>obtain⟨vs,z,hk,l,r⟩:=z;exact⟨vs,by rw[ah ha];exact z,hk,l,fun i v d a b=>nz hp (r i v d a b)⟩
 |dt ks ds=>obtain⟨vs,z,hk,l,r⟩:=z;exact⟨vs,by rw[ah ha];exact z,hk,l,fun i v d a b=>nz hp (r i v d a b)⟩
 |cH=>obtain⟨c,n,z,r⟩:=z;exact⟨c,n,by rw[ah ha];exact z,r⟩
theorem Ex.rV (m:Mz β M H) {p:ag}{u:HO}{o':Mo}(hp:(M p).isSome=true\/H p=none) (hu:pI u=true) (r:jY β (aw M p o') (upd H p u) p o'):Ex β M H (aw M p o') (upd H p u) :=by
 have ne:∀a x,M a=none->H a=Uf x->a≠p:=fun a x m e z=>by
  subst z;rcases hp with q|q
  ·rw[m]at q;cases q
  ·rw[q]at e;cases e
 refine⟨⟨fun b u hm q=>.inl ?_,fun a h=>?_,fun a o hm h=>?_⟩,fun a o e=>?_,fun q hq=>?_,fun a ha=>(m.hids a ha).upd (.inr hu),fun a o e z=>?_,fun q hq=>?_⟩
 ·rw[ah (ne b _ hm q)];exact q
 ·unfold aw;split
  ·rfl
  ·exact h
 ·rw[ao (ne a _ hm h)];exact hm
 ·by_cases ha:a=p
  ·subst ha;rw[updM_same]at e;cases e;exact r
  ·rw[ao ha]at e;exact(m.obj a o e).upd hp ha
 ·obtain⟨ps,e,t⟩:=m.tabs q hq;exact⟨ps,by rw[ah (ne q _ (m.SH hq) e)];exact e,t⟩
 ·by_cases ha:a=p
  ·subst ha;rcases hp with h|h
   ·cases q:M a with
    |none=>rw[q]at h;cases h
    |some u=>exact m.apart a u q z
   ·obtain⟨u,hu,_⟩:=m.hids a z;rw[h]at hu;cases hu
  ·rw[ao ha]at e;exact m.apart a o e z
 ·exact(m.lams q hq).keep (fun _ e=>by rw[ah (ne q.1 _ (m.Pj hq) e)];exact e) fun c _ _ e=>by rw[ah (ne c _ (m.lx e rfl) e)];exact e
theorem Ex.own (m:Mz β M H) {p:ag}{vs:List V}{ds:List Dv}(hp:(M p).isSome=true\/H p=none) (r:aJ β M H vs ds):Ex β M H (aw M p (.lst ds)) (upd H p (.lst vs)):=
 Ex.rV m hp rfl ⟨vs,aE,r.len,fun i v d a b=>nz hp (r.at' i v d a b)⟩
theorem Ex.VS (m:Mz β M H) {p:ag}{ks:List Key}{vs:List V}{ds:List Dv}(hp:(M p).isSome=true\/H p=none) (hk:ks.length=vs.length) (r:aJ β M H vs ds):Ex β M H (aw M p (.dk ks ds)) (upd H p (.dK (ks.zip vs))):=
 Ex.rV m hp rfl ⟨vs,aE,hk,r.len,fun i v d a b=>nz hp (r.at' i v d a b)⟩
theorem Ex.Iw (m:Mz β M H) {p:ag}{ks:List (List Key)}{vs:List V}{ds:List Dv}(hp:(M p).isSome=true\/H p=none) (hk:ks.length=vs.length) (r:aJ β M H vs ds):Ex β M H (aw M p (.dt ks ds)) (upd H p (.dT (ks.zip vs))):=
 Ex.rV m hp rfl ⟨vs,aE,hk,r.len,fun i v d a b=>nz hp (r.at' i v d a b)⟩
abbrev Bz.add (β:Bz) (D:ag):Bz:={β with hid:=D::β.hid}
theorem Rz.enter {D:ag}{o:HO}(hD:H D=none) {v:V}{d:Dv}(h:Rz β M H v d):Rz (β.add D) M (upd H D o) v d :=by
 have ne:∀a x,Fz β M a->H a=some x->Fz (β.add D) M a:=fun a x m e=>⟨m.1,by
  intro z;rcases i4.mp z with z|z
  ·subst z;rw[hD]at e;cases e
  ·exact m.2 z⟩
 have pre:∀a x,H a=some x->upd H D o a=some x:=fun a x e=>by rw[ah (bp e hD)];exact e
 induction h with
 |int i=>exact .int i
 |bl b=>exact .bl b
 |ax=>exact .ax
 |str z=>exact .str z
 |tup m e hl h ih=>exact .tup (ne _ _ m e) (pre _ _ e) hl ih
 |lst m e hl h ih=>exact .lst (ne _ _ m e) (pre _ _ e) hl ih
 |dk m e hk hl h ih=>exact .dk (ne _ _ m e.there.choose_spec) (e.map fun _ h=>pre _ _ h) hk hl ih
 |dt m e hk hl h ih=>exact .dt (ne _ _ m e.there.choose_spec) (e.map fun _ h=>pre _ _ h) hk hl ih
 |b7 m e m2 e2 hl h ih=>exact .b7 (ne _ _ m e) (pre _ _ e) (ne _ _ m2 e2) (pre _ _ e2) hl ih
 |set m e=>exact .set (ne _ _ m e) (pre _ _ e)
 |ptr m=>exact .ptr m
 |exc m e=>exact .exc (ne _ _ m e) (pre _ _ e)
 |bK m e=>exact .bK (ne _ _ m e) (pre _ _ e)
 |cY m e=>exact .cY (ne _ _ m e) (pre _ _ e)
 |cZ e=>exact .cZ e
 |raw v=>exact .raw v
theorem Rz.sub {dq:Bz}(hP:dq.P=β.P) (hw:dq.w=β.w) (hK:dq.K=β.K) (hs:∀a,a∈dq.hid->a∈β.hid) {v:V}{d:Dv}(h:Rz β M H v d):Rz dq M H v d :=by
 have ne:∀a,Fz β M a->Fz dq M a:=fun a m=>⟨m.1,fun z=>m.2 (hs a z)⟩
 induction h with
 |int i=>exact .int i
 |bl b=>exact .bl b
 |ax=>exact .ax
 |str z=>exact .str z
 |tup m e hl h ih=>exact .tup (ne _ m) e hl ih
 |lst m e hl h ih=>exact .lst (ne _ m) e hl ih
 |dk m e hk hl h ih=>exact .dk (ne _ m) e hk hl ih
 |dt m e hk hl h ih=>exact .dt (ne _ m) e hk hl ih
 |b7 m e m2 e2 hl h ih=>exact .b7 (ne _ m) e (ne _ m2) e2 hl ih
 |set m e=>exact .set (ne _ m) (by rw[hP,hw];exact e)
 |ptr m=>exact .ptr m
 |exc m e=>exact .exc (ne _ m) e
 |bK m e=>exact .bK (ne _ m) e
 |cY m e=>exact .cY (ne _ m) e
 |cZ e=>exact .cZ (by rw[hK];exact e)
 |raw v=>exact .raw v
theorem Mz.sub {dq:Bz}(hP:dq.P=β.P) (hw:dq.w=β.w) (hK:dq.K=β.K) (ht:dq.tb=β.tb) (hs:∀a,a∈dq.hid->a∈β.hid) (m:Mz β M H):Mz dq M H:=⟨fun a o e=>by
 have z:=m.obj a o e;cases o with
 |lst ds=>obtain⟨vs,z,l,r⟩:=z;exact⟨vs,z,l,fun i v d a b=>(r i v d a b).sub hP hw hK hs⟩
 |dk ks ds=>obtain⟨vs,z,hk,l,r⟩:=z;exact⟨vs,z,hk,l,fun i v d a b=>(r i v d a b).sub hP hw hK hs⟩
 |dt ks ds=>obtain⟨vs,z,hk,l,r⟩:=z;exact⟨vs,z,hk,l,fun i v d a b=>(r i v d a b).sub hP hw hK hs⟩
 |cH=>exact z,by rw[ht];exact m.tabs,fun a ha=>m.hids a (hs a ha),fun a o e z=>m.apart a o e (hs a z),by rw[ht];exact m.lams⟩
theorem Mz.enter {D:ag}{o:HO}(hD:H D=none) (ho:pI o=true) (m:Mz β M H):Mz (β.add D) M (upd H D o):=⟨fun a u e=>by
 have pre:∀a x,H a=Uf x->upd H D o a=Uf x:=fun a x e=>by rw[ah (bp e hD)];exact e
 have z:=m.obj a u e;cases u with
 |lst ds=>obtain⟨vs,z,l,r⟩:=z;exact⟨vs,pre _ _ z,l,fun i v d a b=>(r i v d a b).enter hD⟩
 |dk ks ds=>obtain⟨vs,z,hk,l,r⟩:=z;exact⟨vs,pre _ _ z,hk,l,fun i v d a b=>(r i v d a b).enter hD⟩
 |dt ks ds=>obtain⟨vs,z,hk,l,r⟩:=z;exact⟨vs,pre _ _ z,hk,l,fun i v d a b=>(r i v d a b).enter hD⟩
 |cH=>obtain⟨c,n,z,r⟩:=z;exact⟨c,n,pre _ _ z,r⟩,fun p hp=>by
 obtain⟨ps,e,t⟩:=m.tabs p hp;exact⟨ps,by rw[ah (bp e hD)];exact e,t⟩,fun a ha=>by
 rcases i4.mp ha with z|z
 ·subst z;exact⟨_,aE,ho⟩
 ·exact(m.hids a z).upd (.inl hD),fun a o e ha=>by
 rcases i4.mp ha with z|z
 ·subst z;rw[m.free hD]at e;cases e
 ·exact m.apart a o e z,fun q hq=>(m.lams q hq).keep (fun _ e=>by rw[ah (bp e hD)];exact e) fun _ _ _ e=>by rw[ah (bp e hD)];exact e⟩
theorem Rz.over {D:ag}{o:HO}(hD:D∈β.hid) {v:V}{d:Dv}(h:Rz β M H v d):Rz β M (upd H D o) v d :=by
 have pre:∀a x,Fz β M a->H a=some x->upd H D o a=some x:=fun a x m e=>by
  have n:a≠D:=fun z=>by subst z;exact m.2 hD
  rw[ah n];exact e
 induction h with
 |int i=>exact .int i
 |bl b=>exact .bl b
 |ax=>exact .ax
 |str z=>exact .str z
 |tup m e hl h ih=>exact .tup m (pre _ _ m e) hl ih
 |lst m e hl h ih=>exact .lst m (pre _ _ m e) hl ih
 |dk m e hk hl h ih=>exact .dk m (e.map fun _ h=>pre _ _ m h) hk hl ih
 |dt m e hk hl h ih=>exact .dt m (e.map fun _ h=>pre _ _ m h) hk hl ih
 |b7 m e m2 e2 hl h ih=>exact .b7 m (pre _ _ m e) m2 (pre _ _ m2 e2) hl ih
 |set m e=>exact .set m (pre _ _ m e)
 |ptr m=>exact .ptr m
 |exc m e=>exact .exc m (pre _ _ m e)
 |bK m e=>exact .bK m (pre _ _ m e)
 |cY m e=>exact .cY m (pre _ _ m e)
 |cZ e=>exact .cZ e
 |raw v=>exact .raw v
theorem Mz.over {D:ag}{o:HO}(hD:D∈β.hid) (ho:pI o=true) (hM:M D=none) (ht:D ∉ β.tb) (m:Mz β M H):Mz β M (upd H D o):=⟨fun a u e=>by
 have na:a≠D:=fun z=>by subst z;rw[hM]at e;cases e
 have z:=m.obj a u e;cases u with
 |lst ds=>obtain⟨vs,z,l,r⟩:=z;exact⟨vs,by rw[ah na];exact z,l,fun i v d a b=>(r i v d a b).over hD⟩
 |dk ks ds=>obtain⟨vs,z,hk,l,r⟩:=z;exact⟨vs,by rw[ah na];exact z,hk,l,fun i v d a b=>(r i v d a b).over hD⟩
 |dt ks ds=>obtain⟨vs,z,hk,l,r⟩:=z;exact⟨vs,by rw[ah na];exact z,hk,l,fun i v d a b=>(r i v d a b).over hD⟩
 |cH=>obtain⟨c,n,z,r⟩:=z;exact⟨c,n,by rw[ah na];exact z,r⟩,fun p hp=>by
 obtain⟨ps,e,t⟩:=m.tabs p hp;have n:p≠D:=fun z=>by subst z;exact ht hp
 exact⟨ps,by rw[ah n];exact e,t⟩,fun a ha=>(m.hids a ha).upd (.inr ho),m.apart,fun q hq=>by
 obtain⟨o',e',n⟩:=m.hids D hD;exact(m.lams q hq).keep (fun _ e=>by rw[ah (fun z=>by subst z;rw[e']at e;cases e;cases n)];exact e) fun c _ _ e=>by rw[ah (fun z=>by subst z;rw[e']at e;cases e;cases n)];exact e⟩
theorem Ey.over {D:ag}{o:HO}(x:Ey M H M1 H1) (hD:H D=none):Ey M H M1 (upd H1 D o):=⟨fun b u m h=>by
 have nb:b≠D:=bp h hD;rw[ah nb];exact x.keep b u m h,x.dom,x.new⟩
theorem Mz.CP {D:ag}(m:Mz β M H) (hD:H D=none):D ∉ β.tb:=fun z=>by
 obtain⟨_,e,_⟩:=m.tabs D z;rw[hD]at e;cases e
structure Bx (β dq:Bz) (H:Hp):Prop where
 P:dq.P=β.P
 w:dq.w=β.w
 K:dq.K=β.K
 tb:dq.tb=β.tb
 old:∀a,a∈β.hid->a∈dq.hid
 new:∀a,a∈dq.hid->a∈β.hid\/H a=none
theorem Bx.refl:Bx β β H:=⟨rfl,rfl,rfl,rfl,fun _ h=>h,fun _ h=>.inl h⟩
theorem Bx.add {D:ag}(hD:H D=none):Bx β (β.add D) H:=⟨rfl,rfl,rfl,rfl,fun _ h=>en _ h,fun a h=>by
 rcases i4.mp h with z|z
 ·exact .inr (z▸hD)
 ·exact .inl z⟩
theorem Rz.bx {dq:Bz}(b:Bx β dq H) {v:V}{d:Dv}(h:Rz β M H v d):Rz dq M H v d :=by
 have ne:∀a x,Fz β M a->H a=some x->Fz dq M a:=fun a x m e=>⟨m.1,fun z=>by
  rcases b.new a z with q|q
  ·exact m.2 q
  ·rw[q]at e;cases e⟩
 induction h with
 |int i=>exact .int i
 |bl b=>exact .bl b
 |ax=>exact .ax
 |str z=>exact .str z
 |tup m e hl h ih=>exact .tup (ne _ _ m e) e hl ih
 |lst m e hl h ih=>exact .lst (ne _ _ m e) e hl ih
 |dk m e hk hl h ih=>exact .dk (ne _ _ m e.there.choose_spec) e hk hl ih
 |dt m e hk hl h ih=>exact .dt (ne _ _ m e.there.choose_spec) e hk hl ih
 |b7 m e m2 e2 hl h ih=>exact .b7 (ne _ _ m e) e (ne _ _ m2 e2) e2 hl ih
 |set m e=>exact .set (ne _ _ m e) (by rw[b.P,b.w];exact e)
 |ptr m=>exact .ptr m
 |exc m e=>exact .exc (ne _ _ m e) e
 |bK m e=>exact .bK (ne _ _ m e) e
 |cY m e=>exact .cY (ne _ _ m e) e
 |cZ e=>exact .cZ (by rw[b.K];exact e)
 |raw v=>exact .raw v
end
inductive Pin (M:Mh):Dv->Prop where
 |int (i:Int):Pin M (.int i)
 |bl (b:Bool):Pin M (.bl b)
 |ax:Pin M .ax
 |str (z:bi):Pin M (.str z)
 |tup {ds:List Dv} (h:∀d∈ds,Pin M d):Pin M (.tup ds)
 |lst {ds:List Dv} (h:∀d∈ds,Pin M d):Pin M (.lst ds)
 |set (ns:List Int):Pin M (.set ns)
 |ptr {a:ag} (h:(M a).isSome=true):Pin M (.ptr a)
 |exc (C:ag):Pin M (.exc C)
 |bK (ns:List Int):Pin M (.bK ns)
 |raw (v:V):Pin M (.raw v)
 |dk {ks:List Key} {ds:List Dv} (h:∀d∈ds,Pin M d):Pin M (.dk ks ds)
 |dt {ks:List (List Key)} {ds:List Dv} (h:∀d∈ds,Pin M d):Pin M (.dt ks ds)
 |b7 {f c:ag} {o oc:kw} {vs:List V} {ds:List Dv} (h:∀d∈ds,Pin M d):Pin M (.b7 f o c oc vs ds)
theorem Rz.pin {β:Bz}{M:Mh}{H:Hp}{v:V}{d:Dv}(h:Rz β M H v d):Pin M d :=by
 induction h with
 |int i=>exact .int i
 |bl b=>exact .bl b
 |ax=>exact .ax
 |str z=>exact .str z
 |tup m e hl h ih=>
  refine .tup fun d hd=>?_
  obtain⟨i,hi⟩:=l7.mp hd;have h1:=(ca.mp hi).1;exact ih i _ d (ap (by omega)) hi
 |lst m e hl h ih=>
  refine .lst fun d hd=>?_
  obtain⟨i,hi⟩:=l7.mp hd;have h1:=(ca.mp hi).1;exact ih i _ d (ap (by omega)) hi
 |dk m e hk hl h ih=>
  refine .dk fun d hd=>?_
  obtain⟨i,hi⟩:=l7.mp hd;have h1:=(ca.mp hi).1;exact ih i _ d (ap (by omega)) hi
 |dt m e hk hl h ih=>
  refine .dt fun d hd=>?_
  obtain⟨i,hi⟩:=l7.mp hd;have h1:=(ca.mp hi).1;exact ih i _ d (ap (by omega)) hi
 |b7 m e m2 e2 hl h ih=>
  refine .b7 fun d hd=>?_
  obtain⟨i,hi⟩:=l7.mp hd;have h1:=(ca.mp hi).1;exact ih i _ d (ap (by omega)) hi
 |set m e=>exact .set _
 |ptr m=>exact .ptr m
 |exc m e=>exact .exc _
 |bK m e=>exact .bK _
 |cY m e=>exact .bK _
 |cZ e=>exact .bK _
 |raw v=>exact .raw v
def Mo.items:Mo->List Dv
 | .lst ds=>ds
 | .dk _ ds=>ds
 | .dt _ ds=>ds
 | .cH=>[]
def Wf (M:Mh):Prop:=∀b o,M b=some o->∀d∈o.items,Pin M d
theorem jY.Xi {β:Bz}{M:Mh}{H:Hp}{a:ag}{o:Mo}(h:jY β M H a o):∃vs,aJ β M H vs o.items :=by
 cases o with
 |lst ds=>obtain⟨vs,_,rs⟩:=h;exact⟨vs,rs⟩
 |dk ks ds=>obtain⟨vs,_,_,rs⟩:=h;exact⟨vs,rs⟩
 |dt ks ds=>obtain⟨vs,_,_,rs⟩:=h;exact⟨vs,rs⟩
 |cH=>exact⟨[],.nil⟩
theorem Mz.wf {β:Bz}{M:Mh}{H:Hp}(m:Mz β M H):Wf M:=fun b o e d hd=>by
 obtain⟨vs,rs⟩:=(m.obj b _ e).Xi;obtain⟨i,hi⟩:=l7.mp hd;obtain⟨v,_,r⟩:=rs.get hi;exact r.pin
abbrev aC:=List (Option Dv)
abbrev ZK:=Dv->Mh->Prop
abbrev aM:=aC->Mh->ZK->Prop
abbrev cg:=aC->Mh->(Bool->Mh->Prop)->Prop
abbrev eY:=aC->Mh->(List Dv->Mh->Prop)->Prop
structure ja where
 nx:aC->Mh->Prop
 rt:ZK
 bk:aC->Mh->Prop:=fun _ _=>False
 ct:aC->Mh->Prop:=fun _ _=>False
abbrev cN:=ja->aC->Mh->Prop
abbrev bS:=Dv->aC->Mh->(aC->Mh->Prop)->Prop
abbrev pK:=List Dv->aC->Mh->(aC->Mh->Prop)->Prop
abbrev dz:=aC->Mh->(List Dv->Mh->Prop)->Prop
structure Gz extends Bz where
 M0:Mh
 H0:Hp
structure Zr (Γ:Gz) (β:Bz) (M:Mh) (ρ:aC) (σ:St) (H:Hp):Prop where
 eP:β.P=Γ.P
 ew:β.w=Γ.w
 eK:β.K=Γ.K
 et:β.tb=Γ.tb
 sub:∀a,a∈Γ.hid->a∈β.hid
 wf:Wf Γ.M0
 ent:Ey Γ.M0 Γ.H0 M H
 mz:Mz β M H
 len:ρ.length=σ.length
 at':∀(i:Nat) (d:Dv),ρ[i]?=some (some d)->∃v,σ[i]?=some (some v)/\Rz β M H v d
section
variable {Γ:Gz}{β:Bz}{M M':Mh}{ρ:aC}{σ:St}{H H':Hp}
theorem Zr.step (z:Zr Γ β M ρ σ H) (x:Ex β M H M' H'):Zr Γ β M' ρ σ H':=⟨z.eP,z.ew,z.eK,z.et,z.sub,z.wf,z.ent.trans x.toEy,x.mz,z.len,fun i d e=>let ⟨v,h,r⟩:=z.at' i d e;⟨v,h,r.ex x⟩⟩
theorem Zr.set (z:Zr Γ β M ρ σ H) (i:Nat) {v:V}{d:Dv}(r:Rz β M H v d):Zr Γ β M (ρ.set i (some d)) (σ.set i (some v)) H:=⟨z.eP,z.ew,z.eK,z.et,z.sub,z.wf,z.ent,z.mz,by simp[z.len],fun j e h=>by
 rw[Zx]at h ⊢;rw[z.len]at h;split at h
 ·rename_i q;rw[if_pos q];split at h
  ·rename_i q2;rw[if_pos q2];cases h;exact⟨v,rfl,r⟩
  ·cases h
 ·rename_i q;rw[if_neg q];exact z.at' j e h⟩
end
def lE (Γ:Gz) (p:aM):TE:=fun σ H Q=>∃(β:Bz) (ρ:aC) (M:Mh) (Q':ZK),Zr Γ β M ρ σ H/\p ρ M Q'/\∀d M' v H',Ex β M H M' H'->Rz β M' H' v d->Q' d M'->Q v H'
def lT (Γ:Gz) (p:cg):TT:=fun σ H Q=>∃(β:Bz) (ρ:aC) (M:Mh) (Q':Bool->Mh->Prop),Zr Γ β M ρ σ H/\p ρ M Q'/\∀b M' H',Ex β M H M' H'->Q' b M'->Q b H'
def lA (Γ:Gz) (p:eY):TA:=fun σ H Q=>∃(β:Bz) (ρ:aC) (M:Mh) (Q':List Dv->Mh->Prop),Zr Γ β M ρ σ H/\p ρ M Q'/\∀ds M' vs H',Ex β M H M' H'->aJ β M' H' vs ds->Q' ds M'->Q vs H'
structure Ev (β:Bz) (M:Mh) (H:Hp) (M':Mh) (H':Hp):Prop where
 keep:∀b o,M b=none->H b=some o->H' b=some o\/∃o',Tg o o'/\H' b=some o'
 new:∀a o,M a=none->H a=some o->M' a=none
 mz:Mz β M' H'
theorem Ex.ev {β:Bz}{M M':Mh}{H H':Hp}(x:Ex β M H M' H'):Ev β M H M' H':=⟨x.keep,x.new,x.mz⟩
theorem Ev.refl {β:Bz}{M:Mh}{H:Hp}(m:Mz β M H):Ev β M H M H:=(Ex.refl m).ev
theorem Ev.trans {β:Bz}{M M1 M2:Mh}{H H1 H2:Hp}(x:Ev β M H M1 H1) (y:Ev β M1 H1 M2 H2):Ev β M H M2 H2 :=by
 refine⟨fun b o hm h=>?_,fun a o hm h=>?_,y.mz⟩
 ·have mG:=x.new b o hm h;rcases x.keep b o hm h with q|⟨o1,t,q⟩
  ·exact y.keep b o mG q
  ·rcases y.keep b _ mG q with q2|⟨o2,t2,q2⟩
   ·exact .inr ⟨o1,t,q2⟩
   ·exact .inr ⟨o2,t.trans t2,q2⟩
 ·have mG:=x.new a o hm h;rcases x.keep a o hm h with q|⟨o1,t,q⟩
  ·exact y.new a _ mG q
  ·exact y.new a _ mG q
structure CQ (Γ:Gz) (β:Bz) (M:Mh) (H:Hp) (D':ja) (D:Ends):Prop where
 nx:∀b8 M' aQ H',Ev β M H M' H'->Zr Γ β M' b8 aQ H'->D'.nx b8 M'->D.nx aQ H'
 rt:∀d M' v H',Ev β M H M' H'->Ey Γ.M0 Γ.H0 M' H'->Rz β M' H' v d->D'.rt d M'->D.rt v H'
 bk:∀b8 M' aQ H',Ev β M H M' H'->Zr Γ β M' b8 aQ H'->D'.bk b8 M'->D.bk aQ H'
 ct:∀b8 M' aQ H',Ev β M H M' H'->Zr Γ β M' b8 aQ H'->D'.ct b8 M'->D.ct aQ H'
theorem CQ.step {Γ:Gz}{β:Bz}{M M1:Mh}{H H1:Hp}{D':ja}{D:Ends}(r:CQ Γ β M H D' D) (x:Ev β M H M1 H1):CQ Γ β M1 H1 D' D:=
 ⟨fun a b c d y=>r.nx a b c d (x.trans y),fun a b c d y=>r.rt a b c d (x.trans y),fun a b c d y=>r.bk a b c d (x.trans y),fun a b c d y=>r.ct a b c d (x.trans y)⟩
def lS (Γ:Gz) (p:cN):TS:=fun D σ H=>∃(β:Bz) (ρ:aC) (M:Mh) (D':ja),Zr Γ β M ρ σ H/\p D' ρ M/\CQ Γ β M H D' D
def lG (Γ:Gz) (p:bS):TG:=fun x σ H N=>∃(β:Bz) (d:Dv) (ρ:aC) (M:Mh) (N':aC->Mh->Prop),Zr Γ β M ρ σ H/\Rz β M H x d/\p d ρ M N'/\∀b8 M' aQ H',Ex β M H M' H'->Zr Γ β M' b8 aQ H'->N' b8 M'->N aQ H'
def Xj (Γ:Gz) (p:pK):sM:=fun xs σ H N=>∃(β:Bz) (ds:List Dv) (ρ:aC) (M:Mh) (N':aC->Mh->Prop),Zr Γ β M ρ σ H/\aJ β M H xs ds/\p ds ρ M N'/\∀b8 M' aQ H',Ex β M H M' H'->Zr Γ β M' b8 aQ H'->N' b8 M'->N aQ H'
def Fu (β:Bz) (J:It) (ds:List Dv) (M:Mh) (H:Hp):Prop:=∀dq M' H',Bx β dq H->Ey M H M' H'->Mz dq M' H'->∀i,(i<ds.length->J.go i H'/\∀x iP,J.yld i H' x iP->Ex dq M' H' M' iP/\∃d,ds[i]?=some d/\Rz dq M' iP x d)/\(ds.length<=i->J.stop i H')
def lI (Γ:Gz) (p:dz):TI:=fun σ H R=>∃(β:Bz) (ρ:aC) (M:Mh) (R':List Dv->Mh->Prop),Zr Γ β M ρ σ H/\p ρ M R'/\∀ds M' H' J,Ex β M H M' H'->Fu β J ds M' H'->R' ds M'->R J H'
abbrev QE (Γ:Gz) (X:Cx) (e:c8) (p:aM):Prop:=PE X e (lE Γ p)
abbrev QT (Γ:Gz) (X:Cx) (e:c8) (p:cg):Prop:=PT X e (lT Γ p)
abbrev QW (Γ:Gz) (X:Cx) (e:c8) (p:cg):Prop:=PW X e (lT Γ p)
abbrev QA (Γ:Gz) (X:Cx) (es:List c8) (p:eY):Prop:=PA X es (lA Γ p)
abbrev QS (Γ:Gz) (X:Cx) (s:sw) (p:cN):Prop:=PS X s (lS Γ p)
abbrev oJ (Γ:Gz) (X:Cx) (s:List sw) (p:cN):Prop:=iG X s (lS Γ p)
abbrev QG (Γ:Gz) (X:Cx) (e:c8) (p:bS):Prop:=PG X e (lG Γ p)
abbrev Kd (Γ:Gz) (X:Cx) (e:List c8) (p:pK):Prop:=vn X e (Xj Γ p)
abbrev QI (Γ:Gz) (X:Cx) (tg e:c8) (p:dz):Prop:=PI X tg e (lI Γ p)
section
variable {X:Cx}
theorem PE.imp {e:c8}{t t':TE}(h:PE X e t) (i:∀σ H Q,t' σ H Q->t σ H Q):PE X e t':=⟨fun pins s σ H Q I q=>h pins s σ H Q I (i _ _ _ q)⟩
theorem PT.imp {e:c8}{t t':TT}(h:PT X e t) (i:∀σ H Q,t' σ H Q->t σ H Q):PT X e t':=⟨fun pins s σ H Q I q=>h pins s σ H Q I (i _ _ _ q)⟩
theorem PW.imp {e:c8}{t t':TT}(h:PW X e t) (i:∀σ H Q,t' σ H Q->t σ H Q):PW X e t':=fun wh pins s σ H Q I q=>h wh pins s σ H Q I (i _ _ _ q)
theorem PA.imp {e:List c8}{t t':TA}(h:PA X e t) (i:∀σ H Q,t' σ H Q->t σ H Q):PA X e t':=⟨fun pos pins s σ H Q I q=>h pos pins s σ H Q I (i _ _ _ q)⟩
theorem PS.imp {e:sw}{t t':TS}(h:PS X e t) (i:∀D σ H,t' D σ H->t D σ H):PS X e t':=⟨fun pins s σ H D I q=>h pins s σ H D I (i _ _ _ q)⟩
theorem iG.imp {e:List sw}{t t':TS}(h:iG X e t) (i:∀D σ H,t' D σ H->t D σ H):iG X e t':=⟨fun pins s σ H D I q=>h pins s σ H D I (i _ _ _ q)⟩
theorem PG.imp {e:c8}{t t':TG}(h:PG X e t) (i:∀v σ H Q,t' v σ H Q->t v σ H Q):PG X e t':=fun pins s σ H v u Q I r q=>h pins s σ H v u Q I r (i _ _ _ _ q)
theorem vn.imp {e:List c8}{t t':sM}(h:vn X e t) (i:∀v σ H Q,t' v σ H Q->t v σ H Q):vn X e t':=fun pins s σ H v u Q I r q=>h pins s σ H v u Q I r (i _ _ _ _ q)
theorem PI.imp {tg e:c8}{t t':TI}(h:PI X tg e t) (i:∀σ H Q,t' σ H Q->t σ H Q):PI X tg e t':=fun pins s σ H Q I q=>h pins s σ H Q I (i _ _ _ q)
theorem gO.imp {e:List c8}{t t':TT}(h:gO X e t) (i:∀σ H Q,t' σ H Q->t σ H Q):gO X e t':=fun pins s σ H Q I q=>h pins s σ H Q I (i _ _ _ q)
variable {Γ:Gz}{a b c:c8}{pa pb pc:aM}{pos:u7}
def zVar (i:Nat):aM:=fun ρ M Q=>match ρ[i]? with|some (some d)=>Q d M|_=>False
def zC (d:Dv):aM:=fun _ M Q=>Q d M
theorem Pk {i:Nat}{x:bi}(hN:X.N[i]?=some x) (hv:qY X.env.scope x) (hd:(x==("__debug__" : bi))=false :=by decide) (eU:(x==("__classdict__" : bi))=false :=by decide):QE Γ X (.Name x pos) (zVar i):=
 (xr hN hv hd eU).imp fun σ H Q ⟨β,ρ,M,Q',z,h,q⟩=>by
  unfold zVar at h;split at h
  ·rename_i d e;obtain⟨v,e2,r⟩:=z.at' i d e;exact⟨v,e2,q d M v H (.refl z.mz) r h⟩
  ·exact h.elim
theorem qc {e:c8}{v:V}{d:Dv}(h:PE X e (tC v)) (r:∀β M H,Rz β M H v d):QE Γ X e (zC d):=h.imp fun σ H Q ⟨β,ρ,M,Q',z,h,q⟩=>q d M v H (.refl z.mz) (r β M H) h
theorem aB {i j pos}:QE Γ X (.Constant (.int i) j pos) (zC (.int i)):=qc Nj fun _ _ _=>.int _
theorem fA {b j pos}:QE Γ X (.Constant (.bool b) j pos) (zC (.bl b)):=qc R4 fun _ _ _=>.bl _
theorem tL {j pos}:QE Γ X (.Constant .none j pos) (zC .ax):=qc Nk fun _ _ _=>.ax
theorem yu {x j pos}:QE Γ X (.Constant (.str x) j pos) (zC (.str x)):=qc Nm fun _ _ _=>.str _
theorem Iy {x:bi}{i:Int}{u:al}(hg:Gl X x) (hm:X.mg x=some u) (r:RelV (.int i) u) (hd:(x==("__debug__" : bi))=false :=by decide):QE Γ X (.Name x pos) (zC (.int i)):=qc (AY hg hm r hd) fun _ _ _=>.int _
theorem Iz {x z:bi}{u:al}(hg:Gl X x) (hm:X.mg x=some u) (r:RelV (.str z) u) (hd:(x==("__debug__" : bi))=false :=by decide):QE Γ X (.Name x pos) (zC (.str z)):=qc (AY hg hm r hd) fun _ _ _=>.str _
theorem bz {x:bi}{v:V}{u:al}(hg:Gl X x) (hm:X.mg x=none) (hv:bootBuiltins x=some u) (r:RelV v u) (hn:x ≠ "__name__" := by decide) (hd:(x==("__debug__" : bi))=false :=by decide):QE Γ X (.Name x pos) (zC (.raw v)):=qc (K3 hg hm hv r hn hd) fun _ _ _=>.raw _
abbrev fv:=Dv->Dv->Mh->ZK->Prop
def rq (Γ:Gz) (r:R2) (z:fv):Prop:=∀(β:Bz) x y d e M H Q Q',β.P=Γ.P->β.w=Γ.w->β.K=Γ.K->Mz β M H->Rz β M H x d->Rz β M H y e->z d e M Q'->(∀d' M' v H',Ex β M H M' H'->Rz β M' H' v d'->Q' d' M'->Q v H')->r x y H Q
def fY (Γ:Gz) (X:Cx) (f:al->al->WF al) (z:fv):Prop:=∃r,OpR X f r/\rq Γ r z
def zOp (z:fv) (pa pb:aM):aM:=fun ρ M Q=>pa ρ M fun d M1=>pb ρ M1 fun e M2=>z d e M2 Q
theorem CT {r:R2}{z:fv}(hz:rq Γ r z) {σ:St}{H:Hp}{Q:VK}(h:lE Γ (zOp z pa pb) σ H Q):Ee r (lE Γ pa) (lE Γ pb) σ H Q :=by
 obtain⟨β,ρ,M,Q',zr,h,q⟩:=h;exact⟨β,ρ,M,_,zr,h,fun d M1 v H1 x1 r1 h1=>⟨β,ρ,M1,_,zr.step x1,h1,fun e M2 u H2 x2 r2 h2=>hz β v u d e M2 H2 Q Q' zr.eP zr.ew zr.eK x2.mz (r1.ex x2) r2 h2 fun d' M' v' H' x3 r3 q3=>q _ _ _ _ (x1.trans (x2.trans x3)) r3 q3⟩⟩
theorem bB {op:Operator}{z:fv}(ho:fY Γ X (binaryOp op) z) (ha:QE Γ X a pa) (hb:QE Γ X b pb):QE Γ X (.BinOp a op b pos) (zOp z pa pb) :=by
 obtain⟨r,h1,h2⟩:=ho;exact(Sd h1 ha hb).imp fun σ H Q h=>CT h2 h
theorem eZ {op:WJ}{z:fv}(ho:fY Γ X (compareOp op) z) (ha:QE Γ X a pa) (hb:QE Γ X b pb) (hm:behindInMarks op b=false):QE Γ X (.Compare a [op] [b] pos) (zOp z pa pb) :=by
 obtain⟨r,h1,h2⟩:=ho;exact(Lc h1 ha hb hm).imp fun σ H Q h=>CT h2 h
def zBool (Q:Bool->Mh->Prop):ZK:=fun d M=>match d with | .bl k=>Q k M|_=>False
theorem ly {Q:Bool->Mh->Prop}{d:Dv}{M:Mh}(h:zBool Q d M):∃k,d=.bl k/\Q k M :=by
 unfold zBool at h;split at h
 ·exact⟨_,rfl,h⟩
 ·exact h.elim
def zTest (p:aM):cg:=fun ρ M Q=>p ρ M (zBool Q)
theorem yw {p:aM}{t:TE}(i:∀σ H Q,lE Γ p σ H Q->t σ H Q) {σ:St}{H:Hp}{Q:Bool->Hp->Prop}(h:lT Γ (zTest p) σ H Q):Cb t σ H Q :=by
 obtain⟨β,ρ,M,Q',zr,h,q⟩:=h;refine i _ _ _ ⟨β,ρ,M,_,zr,h,fun d M1 v H1 x1 r1 h1=>?_⟩
 obtain⟨k,rfl,h2⟩:=ly h1;exact⟨k,d6 r1,q k M1 H1 x1 h2⟩
theorem bj {op:WJ}{z:fv}(ho:fY Γ X (compareOp op) z) (ha:QE Γ X a pa) (hb:QE Γ X b pb) (hm:behindInMarks op b=false):QT Γ X (.Compare a [op] [b] pos) (zTest (zOp z pa pb)) :=by
 obtain⟨r,h1,h2⟩:=ho;exact(Ld h1 ha hb hm).imp fun σ H Q h=>yw (fun _ _ _=>CT h2) h
theorem dA {e:c8}{p:aM}(h:QE Γ X e p) (he:∀whole,isTrue e X.env whole=(do let v <- whole;standAt e.pos;holding [v] (truthy v)) :=by intro _;rfl):QT Γ X e (zTest p):=
 (Np h he).imp fun σ H Q h=>yw (fun _ _ _ h=>h) h
def zChain (z z':fv) (pa pb pc:aM):aM:=fun ρ M Q=>pa ρ M fun x M1=>pb ρ M1 fun y M2=>z x y M2 (zBool fun k M3=>if k=true then pc ρ M3 fun u M4=>z' y u M4 Q else Q (.bl false) M3)
theorem Bm {r r':R2}{z z':fv}(hz:rq Γ r z) (Xk:rq Γ r' z') {σ:St}{H:Hp}{Q:VK}(h:lE Γ (zChain z z' pa pb pc) σ H Q):xx r r' (lE Γ pa) (lE Γ pb) (lE Γ pc) σ H Q :=by
 obtain⟨β,ρ,M,Q',zr,h,q⟩:=h;refine⟨β,ρ,M,_,zr,h,fun d M1 v H1 x1 r1 h1=>⟨β,ρ,M1,_,zr.step x1,h1,fun e M2 u H2 x2 r2 h2=>hz β v u d e M2 H2 _ _ zr.eP zr.ew zr.eK x2.mz (r1.ex x2) r2 h2 fun d' M3 v' H3 x3 r3 h3=>?_⟩⟩
 obtain⟨k,rfl,h4⟩:=ly h3;have lz:=x1.trans (x2.trans x3);refine⟨k,d6 r3,?_⟩;cases k with
 |true=>
  rw[if_pos rfl]at h4 ⊢;exact⟨β,ρ,M3,_,zr.step lz,h4,fun f M4 g H4 x4 r4 h5=>Xk β u g e f M4 H4 _ _ zr.eP zr.ew zr.eK x4.mz ((r2.ex x3).ex x4) r4 h5 fun d5 M5 v5 H5 x5 r5 q5=>q _ _ _ _ (lz.trans (x4.trans x5)) r5 q5⟩
 |false=>
  rw[if_neg i0]at h4 ⊢;exact q _ _ _ _ lz (.bl _) h4
theorem IA {op k8:WJ}{z z':fv}(ho:fY Γ X (compareOp op) z) (fV:fY Γ X (compareOp k8) z') (ha:QE Γ X a pa) (hb:QE Γ X b pb) (hc:QE Γ X c pc) (hm:lastMarks [op,k8] [b,c]=false :=by with_unfolding_all rfl) :
  QE Γ X (.Compare a [op,k8] [b,c] pos) (zChain z z' pa pb pc) :=by
 obtain⟨r,h1,h2⟩:=ho;obtain⟨r',Pl,Pn⟩:=fV;exact(Hx h1 Pl ha hb hc hm).imp fun σ H Q h=>Bm h2 Pn h
theorem yx {op k8:WJ}{z z':fv}(ho:fY Γ X (compareOp op) z) (fV:fY Γ X (compareOp k8) z') (ha:QE Γ X a pa) (hb:QE Γ X b pb) (hc:QE Γ X c pc) (hm:lastMarks [op,k8] [b,c]=false :=by with_unfolding_all rfl) :
  QT Γ X (.Compare a [op,k8] [b,c] pos) (zTest (zChain z z' pa pb pc)) :=by
 obtain⟨r,h1,h2⟩:=ho;obtain⟨r',Pl,Pn⟩:=fV;exact(Hy h1 Pl ha hb hc hm).imp fun σ H Q h=>yw (fun _ _ _=>Bm h2 Pn) h
variable {tA sL:cg}{rest:List c8}
def zAnd (t u:cg):cg:=fun ρ M Q=>t ρ M fun c M1=>if c=true then u ρ M1 Q else Q false M1
def zOr (t u:cg):cg:=fun ρ M Q=>t ρ M fun c M1=>if c=true then Q true M1 else u ρ M1 Q
def zNot (t:cg):cg:=fun ρ M Q=>t ρ M fun c M1=>Q (!c) M1
theorem uK (ha:QT Γ X a tA):QW Γ X (.BoolOp .And [a] pos) tA:=K4 ha
theorem jZ (ha:QT Γ X a tA):QW Γ X (.BoolOp .Or [a] pos) tA:=Nq ha
theorem yy (ha:QT Γ X a tA) (hb:QW Γ X (.BoolOp .And (b::rest) pos) sL):QW Γ X (.BoolOp .And (a::b::rest) pos) (zAnd tA sL):=
 (Nr ha hb).imp fun σ H Q ⟨β,ρ,M,Q',zr,h,q⟩=>⟨β,ρ,M,_,zr,h,fun k M1 H1 x1 h1=>by
  cases k with
  |true=>rw[if_pos rfl]at h1 ⊢;exact⟨β,ρ,M1,_,zr.step x1,h1,fun k2 M2 H2 x2 h2=>q _ _ _ (x1.trans x2) h2⟩
  |false=>rw[if_neg i0]at h1 ⊢;exact q _ _ _ x1 h1⟩
theorem mK (ha:QT Γ X a tA) (hb:QW Γ X (.BoolOp .Or (b::rest) pos) sL):QW Γ X (.BoolOp .Or (a::b::rest) pos) (zOr tA sL):=
 (R5 ha hb).imp fun σ H Q ⟨β,ρ,M,Q',zr,h,q⟩=>⟨β,ρ,M,_,zr,h,fun k M1 H1 x1 h1=>by
  cases k with
  |false=>rw[if_neg i0]at h1 ⊢;exact⟨β,ρ,M1,_,zr.step x1,h1,fun k2 M2 H2 x2 h2=>q _ _ _ (x1.trans x2) h2⟩
  |true=>rw[if_pos rfl]at h1 ⊢;exact q _ _ _ x1 h1⟩
theorem h8 (ha:QT Γ X a tA):QT Γ X (.UnaryOp .Not a pos) (zNot tA):=(Nt ha).imp fun σ H Q ⟨β,ρ,M,Q',zr,h,q⟩=>⟨β,ρ,M,_,zr,h,fun k M1 H1 x1 h1=>q _ _ _ x1 h1⟩
theorem QW.pt {e:c8}{t:cg}(h:QW Γ X e t):QT Γ X e t:=PW.pt h
def zAndV (pa pb:aM):aM:=fun ρ M Q=>pa ρ M (zBool fun c M1=>if c=true then pb ρ M1 Q else Q (.bl false) M1)
def zNotV (pa:aM):aM:=fun ρ M Q=>pa ρ M (zBool fun c M1=>Q (.bl (!c)) M1)
theorem ia {op}(h:QE Γ X a pa):QE Γ X (.BoolOp op [a] pos) pa:=Nu h
theorem fH (ha:QE Γ X a pa) (hb:QE Γ X (.BoolOp .And (b::rest) pos) pb):QE Γ X (.BoolOp .And (a::b::rest) pos) (zAndV pa pb):=
 (Nv ha hb).imp fun σ H Q ⟨β,ρ,M,Q',zr,h,q⟩=>⟨β,ρ,M,_,zr,h,fun d M1 v H1 x1 r1 h1=>by
  obtain⟨k,rfl,h2⟩:=ly h1;refine⟨k,d6 r1,?_⟩;cases k with
  |true=>rw[if_pos rfl]at h2 ⊢;exact⟨β,ρ,M1,_,zr.step x1,h2,fun d2 M2 v2 H2 x2 r2 h2=>q _ _ _ _ (x1.trans x2) r2 h2⟩
  |false=>rw[if_neg i0]at h2 ⊢;exact q _ _ _ _ x1 (.bl _) h2⟩
theorem yz (ha:QE Γ X a pa):QE Γ X (.UnaryOp .Not a pos) (zNotV pa):=(Nw ha).imp fun σ H Q ⟨β,ρ,M,Q',zr,h,q⟩=>⟨β,ρ,M,_,zr,h,fun d M1 v H1 x1 r1 h1=>by
  obtain⟨k,rfl,h2⟩:=ly h1;exact⟨k,d6 r1,q _ _ _ _ x1 (.bl _) h2⟩⟩
def zIfE (t:cg) (pa pb:aM):aM:=fun ρ M Q=>t ρ M fun c M1=>if c=true then pa ρ M1 Q else pb ρ M1 Q
theorem IB (hc:QT Γ X c tA) (ha:QE Γ X a pa) (hb:QE Γ X b pb):QE Γ X (.IfExp c a b pos) (zIfE tA pa pb):=
 (Ho hc ha hb).imp fun σ H Q ⟨β,ρ,M,Q',zr,h,q⟩=>⟨β,ρ,M,_,zr,h,fun k M1 H1 x1 h1=>by
  cases k with
  |true=>rw[if_pos rfl]at h1 ⊢;exact⟨β,ρ,M1,_,zr.step x1,h1,fun d2 M2 v2 H2 x2 r2 h2=>q _ _ _ _ (x1.trans x2) r2 h2⟩
  |false=>rw[if_neg i0]at h1 ⊢;exact⟨β,ρ,M1,_,zr.step x1,h1,fun d2 M2 v2 H2 x2 r2 h2=>q _ _ _ _ (x1.trans x2) r2 h2⟩⟩
def zNil:eY:=fun _ M Q=>Q [] M
def zCons (p:aM) (r:eY):eY:=fun ρ M Q=>p ρ M fun d M1=>r ρ M1 fun ds M2=>Q (d::ds) M2
variable {es:List c8}{za:eY}
theorem af:QA Γ X [] zNil:=N1.imp fun σ H Q ⟨β,ρ,M,Q',zr,h,q⟩=>q [] M [] H (.refl zr.mz) .nil h
theorem aa {e:c8}(ha:QE Γ X e pa) (hr:QA Γ X es za) (hs:starEach (e::es) X.env=(false,eval e X.env)::starEach es X.env :=by rfl):QA Γ X (e::es) (zCons pa za):=
 (qz ha hr hs).imp fun σ H Q ⟨β,ρ,M,Q',zr,h,q⟩=>⟨β,ρ,M,_,zr,h,fun d M1 v H1 x1 r1 h1=>⟨β,ρ,M1,_,zr.step x1,h1,fun ds M2 vs H2 x2 r2 h2=>q _ _ _ _ (x1.trans x2) (.cons (r1.ex x2) r2) h2⟩⟩
def zTup (p:eY):aM:=fun ρ M Q=>p ρ M fun ds M1=>ds.length<=sizeLine/\Q (.tup ds) M1
def zLst (p:eY):aM:=fun ρ M Q=>p ρ M fun ds M1=>ds.length<=sizeLine/\Q (.lst ds) M1
def zLstP (p:eY):aM:=fun ρ M Q=>p ρ M fun ds M1=>ds.length<=sizeLine/\∀a,M1 a=none->Q (.ptr a) (aw M1 a (.lst ds))
theorem jb {x1}(h:QA Γ X es za):QE Γ X (.Tuple es x1 pos) (zTup za):=(N3 h).imp fun σ H Q ⟨β,ρ,M,Q',zr,h,q⟩=>⟨β,ρ,M,_,zr,h,fun ds M1 vs H1 x1 r1 h1=>⟨by rw[r1.len];exact h1.1,fun p hp=>by
  have x2:=Ex.lay x1.mz hp (.tup vs);exact q _ _ _ _ (x1.trans x2) (pJ (x1.mz.fz hp) aE (r1.ex x2)) h1.2⟩⟩
theorem yA (h:QA Γ X es za):QE Γ X (.List es pos) (zLst za):=(Ek h).imp fun σ H Q ⟨β,ρ,M,Q',zr,h,q⟩=>⟨β,ρ,M,_,zr,h,fun ds M1 vs H1 x1 r1 h1=>⟨by rw[r1.len];exact h1.1,fun p hp=>by
  have x2:=Ex.lay x1.mz hp (.lst vs);exact q _ _ _ _ (x1.trans x2) (ny (x1.mz.fz hp) aE (r1.ex x2)) h1.2⟩⟩
theorem nA (h:QA Γ X es za):QE Γ X (.List es pos) (zLstP za):=(Ek h).imp fun σ H Q ⟨β,ρ,M,Q',zr,h,q⟩=>⟨β,ρ,M,_,zr,h,fun ds M1 vs H1 x1 r1 h1=>⟨by rw[r1.len];exact h1.1,fun p hp=>by
  have x2:=Ex.own x1.mz (.inr hp) r1;exact q _ _ _ _ (x1.trans x2) (.ptr (by rw[updM_same];rfl)) (h1.2 p (x1.mz.free hp))⟩⟩
abbrev vY:=List Dv->Mh->ZK->Prop
def Ke (Γ:Gz) (r:List V->Hp->VK->Prop) (z:vY):Prop:=∀(β:Bz) xs ds M H Q Q',β.P=Γ.P->β.w=Γ.w->β.K=Γ.K->Mz β M H->aJ β M H xs ds->z ds M Q'->(∀d' M' v H',Ex β M H M' H'->Rz β M' H' v d'->Q' d' M'->Q v H')->r xs H Q
def eA (Γ:Gz) (X:Cx) (f:al) (z:vY):Prop:=∃r,cK X f r/\Ke Γ r z
def zCB (z:vY) (p:eY):aM:=fun ρ M Q=>p ρ M fun ds M1=>z ds M1 Q
theorem Pq {r:List V->Hp->VK->Prop}{z:vY}(hz:Ke Γ r z) {σ:St}{H:Hp}{Q:VK}(h:lE Γ (zCB z za) σ H Q):N5 r (lA Γ za) σ H Q :=by
 obtain⟨β,ρ,M,Q',zr,h,q⟩:=h;exact⟨β,ρ,M,_,zr,h,fun ds M1 vs H1 x1 r1 h1=>hz β vs ds M1 H1 _ _ zr.eP zr.ew zr.eK x1.mz r1 h1 fun d' M' v' H' x2 r2 q2=>q _ _ _ _ (x1.trans x2) r2 q2⟩
variable {st:sw}{Ut:List sw}{p p2:cN}{e:c8}{pe:aM}
def zNext:cN:=fun D ρ M=>D.nx ρ M
def zSeq (p q:cN):cN:=fun D ρ M=>p {D with nx:=q D} ρ M
theorem qss_nil:oJ Γ X [] zNext:=K5.imp fun D σ H ⟨β,ρ,M,D',zr,h,r⟩=>r.nx ρ M σ H (.refl zr.mz) zr h
theorem aj (h1:QS Γ X st p) (h2:oJ Γ X Ut p2):oJ Γ X (st::Ut) (zSeq p p2):=(Hq h1 h2).imp fun D σ H ⟨β,ρ,M,D',zr,h,r⟩=>
 ⟨β,ρ,M,_,zr,h,fun b8 M' aQ H' x gp h'=>⟨β,b8,M',D',gp,h',r.step x⟩,r.rt,r.bk,r.ct⟩
theorem au (h1:QS Γ X st p):oJ Γ X [st] p:=K6 h1
def zDrop (p:aM):cN:=fun D ρ M=>p ρ M fun _ M1=>D.nx ρ M1
theorem fL (he:QE Γ X e pe) (hs:swapsWith e none pos.line X.env=pure false :=by rfl):QS Γ X (.Expr e pos) (zDrop pe):=(K7 he hs).imp fun D σ H ⟨β,ρ,M,D',zr,h,r⟩=>
 ⟨β,ρ,M,_,zr,h,fun d M1 v H1 x1 r1 h1=>r.nx ρ M1 σ H1 x1.ev (zr.step x1) h1⟩
def zRet (p:aM):cN:=fun D ρ M=>p ρ M D.rt
theorem aO (he:QE Γ X e pe):QS Γ X (.Return (some e) pos) (zRet pe):=(Nx he).imp fun D σ H ⟨β,ρ,M,D',zr,h,r⟩=>⟨β,ρ,M,_,zr,h,fun d M' v H' x r1 h1=>r.rt _ _ _ _ x.ev (zr.ent.trans x.toEy) r1 h1⟩
def zIfS (c:cg) (p q:cN):cN:=fun D ρ M=>c ρ M fun b M1=>if b=true then p D ρ M1 else q D ρ M1
theorem bN {as bs:List sw}{pa pb:cN}(hc:QT Γ X c tA) (ha:oJ Γ X as pa) (hb:oJ Γ X bs pb):QS Γ X (.If c as bs pos) (zIfS tA pa pb):=(Sa hc ha hb).imp fun D σ H ⟨β,ρ,M,D',zr,h,r⟩=>
 ⟨β,ρ,M,_,zr,h,fun k M1 H1 x1 h1=>by
  cases k with
  |true=>rw[if_pos rfl]at h1 ⊢;exact⟨β,ρ,M1,D',zr.step x1,h1,r.step x1.ev⟩
  |false=>rw[if_neg i0]at h1 ⊢;exact⟨β,ρ,M1,D',zr.step x1,h1,r.step x1.ev⟩⟩
def zgName (i:Nat):bS:=fun d ρ M N=>N (ρ.set i (some d)) M
theorem aI {i:Nat}{x:bi}(hN:X.N.Nodup) (hi:X.N[i]?=some x) (hx:Loc X.env.scope x) (hf:X.fn x=true\/X.env.scope.names.lookup x=some .local :=by first|exact .inl rfl|exact .inr rfl|assumption):QG Γ X (.Name x pos) (zgName i):=
 (K8 hN hi hx hf).imp fun v σ H N ⟨β,d,ρ,M,N',zr,r,h,q⟩=>q _ _ _ _ (.refl zr.mz) (zr.set i r) h
def zgNil:pK:=fun ds ρ M N=>match ds with | []=>N ρ M|_=>False
def zgCons (g:bS) (u:pK):pK:=fun ds ρ M N=>match ds with|d::r=>g d ρ M fun b8 M'=>u r b8 M' N | []=>False
theorem jt:Kd Γ X [] zgNil:=K9.imp fun vs σ H N ⟨β,ds,ρ,M,N',zr,r,h,q⟩=>by
 unfold zgNil at h;split at h
 ·have e:vs=[]:=List.length_eq_zero_iff.mp r.len;exact⟨e,q _ _ _ _ (.refl zr.mz) zr h⟩
 ·exact h.elim
theorem cO {g:bS}{u:pK}(h1:QG Γ X e g) (h2:Kd Γ X es u) (hs:(assignEach (e::es) X.env).map (·.2)=assign e X.env::(assignEach es X.env).map (·.2) :=by rfl):Kd Γ X (e::es) (zgCons g u):=
 (Hs h1 h2 hs).imp fun vs σ H N ⟨β,ds,ρ,M,N',zr,r,h,q⟩=>by
  unfold zgCons at h;split at h
  ·rename_i d rest;cases vs with
   |nil=>exact absurd r.len (by simp)
   |cons v vs=>exact⟨v,vs,rfl,β,d,ρ,M,_,zr,r.head,h,fun b8 M' aQ H' x gp h'=>⟨β,rest,b8,M',N',gp,r.tail.ex x,h',fun a b c d y=>q a b c d (x.trans y)⟩⟩
  ·exact h.elim
def zgTup (n:Nat) (u:pK):bS:=fun d ρ M N=>match d with | .tup ds=>ds.length=n/\u ds ρ M N|_=>False
theorem lC {k:Nat}{u:pK}{n:Nat}(hc:X.calm=true) (h:Kd Γ X es u) (hn:(assignEach es X.env).length=n :=by rfl) (q9:(assignEach es X.env).findIdx? (·.1)=none :=by rfl):QG Γ X (.Tuple es k pos) (zgTup n u):=
 (Nz hc h hn q9).imp fun v σ H N ⟨β,d,ρ,M,N',zr,r,h,q⟩=>by
  unfold zgTup at h;split at h
  ·obtain⟨a,vs,rfl,m,e,rs⟩:=cE r;exact⟨a,vs,rfl,c9.of e,by rw[rs.len];exact h.1,β,_,ρ,M,N',zr,rs,h.2,q⟩
  ·exact h.elim
def zAsg (p:aM) (g:bS):cN:=fun D ρ M=>p ρ M fun d M1=>g d ρ M1 D.nx
theorem SJ {g:bS}{D:Ends}{σ:St}{H:Hp}(h:lS Γ (zAsg pe g) D σ H):rL (lE Γ pe) (lG Γ g) D σ H :=by
 obtain⟨β,ρ,M,D',zr,h,r⟩:=h;exact⟨β,ρ,M,_,zr,h,fun d M1 v H1 x1 r1 h1=>⟨β,d,ρ,M1,D'.nx,zr.step x1,r1,h1,fun b8 M' aQ H' x gp h'=>r.nx _ _ _ _ (x1.trans x).ev gp h'⟩⟩
theorem nB {tg:c8}{g:bS}(he:QE Γ X e pe) (hg:QG Γ X tg g) (hs:swapsWithSole [tg] e pos.line X.env=pure false :=by rfl) (hw:swappedStores [tg] e X.env=pure none :=by rfl)
  (h1:(assignEach [tg] X.env).map (·.2)=[assign tg X.env] :=by rfl):QS Γ X (.Assign [tg] e pos) (zAsg pe g):=(NB he hg hs hw h1).imp fun D σ H h=>SJ h
theorem tM {t:TE}(i:∀σ H Q,lE Γ pe σ H Q->t σ H Q) {n:Nat}{D:Ends}{σ:St}{H:Hp}(h:lS Γ (zAsg pe (zgName n)) D σ H):rL t (nK n) D σ H :=by
 obtain⟨β,ρ,M,D',zr,h,r⟩:=h;exact i _ _ _ ⟨β,ρ,M,_,zr,h,fun d M1 v H1 x1 r1 h1=>r.nx _ _ _ _ x1.ev ((zr.step x1).set n r1) h1⟩
theorem bb {i:Nat}{x:bi}{pos':u7}(hN:X.N.Nodup) (hi:X.N[i]?=some x) (hx:Loc X.env.scope x) (he:QE Γ X e pe) (hs:swapsWith e (some (.Name x pos')) pos.line X.env=pure false :=by rfl) (hf:X.fn x=true\/X.env.scope.names.lookup x=some .local :=by first|exact .inl rfl|exact .inr rfl|assumption) :
  QS Γ X (.Assign [.Name x pos'] e pos) (zAsg pe (zgName i)):=(NC hN hi hx he hs hf).imp fun D σ H h=>tM (fun _ _ _ h=>h) h
end
section
variable {X:Cx}{Γ:Gz}{β:Bz}
def ziTup (p:aM):dz:=fun ρ M R=>p ρ M fun d M1=>match d with | .tup ds=>R ds M1|_=>False
def ziLst (p:aM):dz:=fun ρ M R=>p ρ M fun d M1=>match d with | .lst ds=>R ds M1|_=>False
def cP (lo:Int) (n:Nat):List Dv:=(ii n).map fun i=>.int (lo+(i:Nat))
def ziRng1 (p:eY):dz:=fun ρ M R=>p ρ M fun ds M1=>match ds with | [.int j] => -(2 ^ 62)<=j/\j<2 ^ 62/\R (cP 0 j.toNat) M1|_=>False
def ziRng2 (p:eY):dz:=fun ρ M R=>p ρ M fun ds M1=>match ds with | [.int i,.int j]=>(-(2 ^ 62)<=i/\i<2 ^ 62 /\ -(2 ^ 62)<=j/\j<2 ^ 62)/\R (cP i (j - i).toNat) M1|_=>False
theorem ju {J:It}{vs:List V}{ds:List Dv}{M:Mh}{H:Hp}(r:aJ β M H vs ds) (h:∀M' H',Ey M H M' H'->Runs J vs H'):Fu β J ds M H:=fun dq M' H' bx x m i=>by
 have q:=h M' H' x i;rw[<- r.len];refine⟨fun hi=>⟨(q.1 hi).1,fun v iP y=>?_⟩,q.2⟩
 obtain⟨e,hv⟩:=(q.1 hi).2 v iP y;subst e;obtain⟨d,hd,rd⟩:=r.get' hv;exact⟨.refl m,d,hd,(rd.bx bx).ey x⟩
variable {tg l:c8}{p:aM}{pa:eY}{K:ba}
theorem pL (hK:X.K=K) (hl:QE Γ X l p):QI Γ X tg l (ziTup p):=(Ln hK hl).imp fun σ H R ⟨β,ρ,M,R',zr,h,q⟩=>⟨β,ρ,M,_,zr,h,fun d M1 v H1 x1 r1 h1=>by
 revert h1
 split
 ·intro h1;obtain⟨a,vs,rfl,m,e,rs⟩:=cE r1;exact⟨a,rfl,⟨_,c9.of e⟩,q _ _ _ _ x1 (ju rs fun M' H' x=>HM (c9.of (x.get m.1 e rfl))) h1⟩
 ·exact fun h=>h.elim⟩
theorem fM (hK:X.K=K) (hl:QE Γ X l p):QI Γ X tg l (ziLst p):=(HN hK hl).imp fun σ H R ⟨β,ρ,M,R',zr,h,q⟩=>⟨β,ρ,M,_,zr,h,fun d M1 v H1 x1 r1 h1=>by
 revert h1
 split
 ·intro h1;obtain⟨a,vs,rfl,m,e,rs⟩:=dS r1;exact⟨a,rfl,⟨_,bL.of e⟩,q _ _ _ _ x1 (ju rs fun M' H' x=>EI (bL.of (x.get m.1 e rfl))) h1⟩
 ·exact fun h=>h.elim⟩
theorem pM {lo:Int}{n:Nat}{M:Mh}{H:Hp}:aJ β M H ((ii n).map fun i=>V.int (lo+(i:Nat))) (cP lo n):=⟨by simp[cP],fun i v d a b=>by
 unfold cP at b;rw[ce]at a b;cases e:(ii n)[i]? with
 |none=>rw[e]at a;cases a
 |some c=>rw[e]at a b;cases a;cases b;exact .int _⟩
theorem cF {xs:List V}{d:Dv}{M:Mh}{H:Hp}(r:aJ β M H xs [d]):∃v,xs=[v]/\Rz β M H v d :=by
 match xs,r with
 | [v],r=>exact⟨v,rfl,r.head⟩
 | [],r=>exact absurd r.len (by simp)
 |_::_::_,r=>exact absurd r.len (by simp)
theorem jv {xs:List V}{d e:Dv}{M:Mh}{H:Hp}(r:aJ β M H xs [d,e]):∃v u,xs=[v,u]/\Rz β M H v d/\Rz β M H u e :=by
 match xs,r with
 | [v,u],r=>exact⟨v,u,rfl,r.head,r.tail.head⟩
 | [],r=>exact absurd r.len (by simp)
 | [_],r=>exact absurd r.len (by simp)
 |_::_::_::_,r=>exact absurd r.len (by simp)
section
variable {e e1 e2:c8}{pr pos:u7}
theorem Pr {σ:St}{H:Hp}{R:It->Hp->Prop}(h:lI Γ (ziRng1 pa) σ H R):JN (lA Γ pa) σ H R :=by
 obtain⟨β,ρ,M,R',zr,h,q⟩:=h;refine⟨β,ρ,M,_,zr,h,fun ds M1 vs H1 x1 r1 h1=>?_⟩
 revert h1
 split
 ·rintro⟨b1,b2,h1⟩;obtain⟨v,rfl,r⟩:=cF r1;rw[aV r];exact⟨_,rfl,b1,b2,q _ _ _ _ x1 (ju pM fun M' H' x=>nQ) h1⟩
 ·exact fun h=>h.elim
theorem Pt {σ:St}{H:Hp}{R:It->Hp->Prop}(h:lI Γ (ziRng2 pa) σ H R):JO (lA Γ pa) σ H R :=by
 obtain⟨β,ρ,M,R',zr,h,q⟩:=h;refine⟨β,ρ,M,_,zr,h,fun ds M1 vs H1 x1 r1 h1=>?_⟩
 revert h1
 split
 ·rintro⟨b1,h1⟩;obtain⟨v,u,rfl,r,r'⟩:=jv r1;rw[aV r,aV r'];exact⟨_,_,rfl,b1,q _ _ _ _ x1 (ju pM fun M' H' x=>nQ) h1⟩
 ·exact fun h=>h.elim
end
def zLoop (g:bS) (tb:cN) (D:ja):List Dv->aC->Mh->Prop
 | [],ρ,M=>D.nx ρ M
 |d::ds,ρ,M=>g d ρ M fun nC M2=>tb {D with nx:=zLoop g tb D ds,ct:=zLoop g tb D ds,bk:=D.nx} nC M2
def zFor (zi:dz) (g:bS) (tb:cN):cN:=fun D ρ M=>zi ρ M fun ds M1=>zLoop g tb D ds ρ M1
def zForM (zi:dz) (g:bS) (tb:Mh->cN):cN:=fun D ρ M=>zi ρ M fun ds M1=>zLoop g (tb M1) D ds ρ M1
theorem Zr.root {M:Mh}{ρ:aC}{σ:St}{H:Hp}(z:Zr Γ β M ρ σ H):Zr ⟨β,M,H⟩ β M ρ σ H:=⟨rfl,rfl,rfl,rfl,fun _ h=>h,z.mz.wf,.refl,z.mz,z.len,z.at'⟩
theorem Zr.Fv {M M1:Mh}{ρ Uu:aC}{σ sN:St}{H H1:Hp}(z:Zr Γ β M ρ σ H) (y:Zr ⟨β,M,H⟩ β M1 Uu sN H1):Zr Γ β M1 Uu sN H1:=⟨z.eP,z.ew,z.eK,z.et,z.sub,z.wf,z.ent.trans y.ent,y.mz,y.len,y.at'⟩
theorem SK {zi:dz}{g:bS}{tb:Mh->cN}{t:TS}(hb:∀bO:Gz,bO.P=Γ.P->bO.w=Γ.w->bO.K=Γ.K->bO.tb=Γ.tb->∀D σ H,lS bO (tb bO.M0) D σ H->t D σ H) {tg:TG}(hg:∀bO:Gz,bO.P=Γ.P->bO.w=Γ.w->bO.K=Γ.K->bO.tb=Γ.tb->∀x σ H N,lG bO g x σ H N->tg x σ H N) {D:Ends}{σ:St}{H:Hp}(h:lS Γ (zForM zi g tb) D σ H):NM (lI Γ zi) tg t D σ H :=by
 obtain⟨β,ρ,M,D',zr,h,r⟩:=h;refine⟨β,ρ,M,_,zr,h,fun ds M1 H1 J x1 it h1=>?_⟩
 have gQ:=zr.step x1;refine⟨fun i m aQ H'=>m=ds.length - i/\i<=ds.length/\∃b8 M',Zr ⟨β,M1,H1⟩ β M' b8 aQ H'/\zLoop g (tb M1) D' (ds.drop i) b8 M',⟨ds.length,rfl,mf _,ρ,M1,gQ.root,h1⟩,?_⟩
 rintro i m aQ H' ⟨rfl,hi,b8,M',gp,h'⟩;have ev:∀{M2:Mh} {nC:aC} {sO:St} {H2:Hp},Zr ⟨β,M1,H1⟩ β M2 nC sO H2->Ev β M H M2 H2:=fun z=>x1.ev.trans ⟨z.ent.keep,z.ent.new,z.mz⟩
 by_cases aN:i<ds.length
 ·have q:=(it β M' H' .refl gp.ent gp.mz i).1 aN;refine .inr ⟨q.1,fun sO H2=>∃nC M2,Zr ⟨β,M1,H1⟩ β M2 nC sO H2/\zLoop g (tb M1) D' (ds.drop (i+1)) nC M2,fun sO H2 ⟨nC,M2,Kf,h2⟩=>⟨ds.length - (i+1),by omega,rfl,aN,nC,M2,Kf,h2⟩,fun v iP y=>?_⟩
  obtain⟨x2,d,hd,rd⟩:=q.2 v iP y;have e:ds.drop i=d::ds.drop (i+1) :=by
   rw[AT aN];rw[ap aN]at hd;cases hd;rfl
  rw[e]at h';refine hg ⟨β,M1,H1⟩ zr.eP zr.ew zr.eK zr.et _ _ _ _ ⟨β,d,b8,M',_,gp.step x2,rd,h',fun Xl M3 oF H3 x3 Pu h3=>hb ⟨β,M1,H1⟩ zr.eP zr.ew zr.eK zr.et _ _ _ ⟨β,Xl,M3,_,Pu,h3,?_⟩⟩
  exact⟨fun tN M4 Fw H4 x4 oK h4=>⟨tN,M4,oK,h4⟩,fun d4 M4 v4 H4 x4 e4 r4 h4=>r.rt _ _ _ _ (x1.ev.trans ⟨e4.keep,e4.new,x4.mz⟩) (gQ.ent.trans e4) r4 h4,fun tN M4 Fw H4 x4 oK h4=>r.nx _ _ _ _ (ev oK) (gQ.Fv oK) h4,fun tN M4 Fw H4 x4 oK h4=>⟨tN,M4,oK,h4⟩⟩
 ·have e:i=ds.length :=by omega
  subst e;rw[No]at h';exact .inl ⟨(it β M' H' .refl gp.ent gp.mz _).2 (cb _),r.nx _ _ _ _ (ev gp) (gQ.Fv gp) h'⟩
def Xm (Γ:Gz) (p:Mh->cN):TS:=fun D σ H=>∃bO:Gz,bO.P=Γ.P/\bO.w=Γ.w/\bO.K=Γ.K/\bO.tb=Γ.tb/\lS bO (p bO.M0) D σ H
def Xn (Γ:Gz) (p:bS):TG:=fun x σ H N=>∃bO:Gz,bO.P=Γ.P/\bO.w=Γ.w/\bO.K=Γ.K/\bO.tb=Γ.tb/\lG bO p x σ H N
theorem Bn {body:List sw}{iter:c8}{zi:dz}{g:bS}{tb:Mh->cN}{pos:u7}(hp:aa2 (model X.prog X.w) X.A X.env X.xe) (hc:X.calm=true) (hi:QI Γ X tg iter zi)
  (Kg:∀(bO:Gz) (M1:Mh),bO.M0=M1->bO.P=Γ.P->bO.w=Γ.w->bO.K=Γ.K->bO.tb=Γ.tb->QG bO X tg g/\oJ bO X body (tb M1))
  (hs:∀x,foldedSetIterable iter X.env x=pure x :=by intro _;rfl):QS Γ X (.For tg iter body [] pos) (zForM zi g tb):=
 (NN (g:=Xn Γ g) (tb:=Xm Γ tb) hp hc hi (fun pins s σ H v u Q I r h=>by obtain⟨bO,e1,e2,e3,e4,h⟩:=h;exact(Kg bO _ rfl e1 e2 e3 e4).1 pins s σ H v u Q I r h) ⟨fun pins s σ H D I h=>by obtain⟨bO,e1,e2,e3,e4,h⟩:=h;exact(Kg bO _ rfl e1 e2 e3 e4).2 pins s σ H D I h⟩ hs).imp
  fun D σ H h=>SK (fun bO e1 e2 e3 e4 D σ H h=>⟨bO,e1,e2,e3,e4,h⟩) (fun bO e1 e2 e3 e4 x σ H N h=>⟨bO,e1,e2,e3,e4,h⟩) h
theorem fI {body:List sw}{iter:c8}{zi:dz}{g:bS}{tb:cN}{pos:u7}(hp:aa2 (model X.prog X.w) X.A X.env X.xe) (hc:X.calm=true) (hi:QI Γ X tg iter zi)
  (Kg:∀bO:Gz,bO.P=Γ.P->bO.w=Γ.w->bO.K=Γ.K->bO.tb=Γ.tb->QG bO X tg g/\oJ bO X body tb)
  (hs:∀x,foldedSetIterable iter X.env x=pure x :=by intro _;rfl):QS Γ X (.For tg iter body [] pos) (zFor zi g tb):=Bn (tb:=fun _=>tb) hp hc hi (fun bO M1 _ e1 e2 e3 e4=>Kg bO e1 e2 e3 e4) hs
theorem cu {a:c8}{p pos:u7}(hg:Gl X "range") (hm:X.mg "range" = none) (ha:QA Γ X [a] pa) (hs:starEach [a] X.env=[(false,eval a X.env)] :=by rfl):QI Γ X tg (.Call (.Name "range" p) [a] [] pos) (ziRng1 pa):=(D9 hg hm ha hs).imp fun σ H R h=>Pr h
theorem Fx {a b:c8}{p pos:u7}(hg:Gl X "range") (hm:X.mg "range" = none) (ha:QA Γ X [a,b] pa) (hs:starEach [a,b] X.env=[(false,eval a X.env),(false,eval b X.env)] :=by rfl) (k7:starEach [b] X.env=[(false,eval b X.env)] :=by rfl) :
  QI Γ X tg (.Call (.Name "range" p) [a,b] [] pos) (ziRng2 pa):=(vo hg hm ha hs k7).imp fun σ H R h=>Pt h
def Fy (c:cg) (tb:cN):cN:=fun D ρ M=>∃W:Nat->aC->Mh->Prop,(∃m,W m ρ M)/\∀m ρ M,W m ρ M->
 c ρ M fun b M1=>if b=true then tb {D with nx:=fun b8 M'=>∃m',m'<m/\W m' b8 M',ct:=fun b8 M'=>∃m',m'<m/\W m' b8 M',bk:=D.nx} ρ M1 else D.nx ρ M1
theorem LO {c:cg}{tb:cN}{D:Ends}{σ:St}{H:Hp}(h:lS Γ (Fy c tb) D σ H):D6 (lT Γ c) (lS Γ tb) D σ H :=by
 obtain⟨β,ρ,M,D',zr,⟨W,⟨m0,w0⟩,turn⟩,r⟩:=h;refine⟨fun m aQ H'=>∃b8 M',Ev β M H M' H'/\Zr Γ β M' b8 aQ H'/\W m b8 M',⟨m0,ρ,M,.refl zr.mz,zr,w0⟩,?_⟩
 rintro m aQ H' ⟨b8,M',x',gp,w'⟩;refine⟨β,b8,M',_,gp,turn m b8 M' w',fun k M1 H1 x1 h1=>?_⟩
 have FA:=x'.trans x1.ev;cases k with
 |true=>
  dsimp only at h1 ⊢;rw[if_pos rfl]at h1 ⊢;refine⟨fun sO H2=>∃m',m'<m/\∃nC M2,Ev β M H M2 H2/\Zr Γ β M2 nC sO H2/\W m' nC M2,fun sO H2 h2=>h2,β,b8,M1,_,gp.step x1,h1,?_⟩
  exact⟨fun tN M4 Fw H4 x4 oK ⟨m',hm,w4⟩=>⟨m',hm,tN,M4,FA.trans x4,oK,w4⟩,fun d4 M4 v4 H4 x4 e4 r4 h4=>r.rt _ _ _ _ (FA.trans x4) e4 r4 h4,fun tN M4 Fw H4 x4 oK h4=>r.nx _ _ _ _ (FA.trans x4) oK h4,fun tN M4 Fw H4 x4 oK ⟨m',hm,w4⟩=>⟨m',hm,tN,M4,FA.trans x4,oK,w4⟩⟩
 |false=>
  dsimp only at h1 ⊢;rw[if_neg i0]at h1 ⊢;exact r.nx _ _ _ _ FA (gp.step x1) h1
theorem nX {body:List sw}{c:c8}{zc:cg}{tb:cN}{pos:u7}(hp:aa2 (model X.prog X.w) X.A X.env X.xe) (hc:QT Γ X c zc) (hb:oJ Γ X body tb):QS Γ X (.While c body [] pos) (Fy zc tb):=(Ht hp hc hb).imp fun D σ H h=>LO h
theorem cV {g:bS}{tb:cN}{D:ja}(J:Nat->aC->Mh->Prop) {ds:List Dv}{ρ:aC}{M:Mh}(h0:J 0 ρ M)
  (hs:∀i d ρ M (N:aC->Mh->Prop),ds[i]?=some d->J i ρ M->(∀b8 M',J (i+1) b8 M'->N b8 M')->g d ρ M fun nC M2=>tb {D with nx:=N,ct:=N,bk:=D.nx} nC M2)
  (hd:∀ρ M,J ds.length ρ M->D.nx ρ M):zLoop g tb D ds ρ M :=by
 have key:∀(n i:Nat) ρ M,n=ds.length - i->i<=ds.length->J i ρ M->zLoop g tb D (ds.drop i) ρ M :=by
  intro n;induction n with
  |zero=>
   intro i ρ M e hi h;have:i=ds.length :=by omega
   subst this;rw[No];exact hd _ _ h
  |succ n ih=>
   intro i ρ M e hi h;have aN:i<ds.length :=by omega
   rw[AT aN];exact hs i _ ρ M _ (ap aN) h fun ρ M h=>ih (i+1) ρ M (by omega) aN h
 exact key _ 0 ρ M rfl (mf _) h0
end
section
variable {X:Cx}{Γ:Gz}{β:Bz}
def zBlock (tn:Nat) (idx:List Nat) (ρ:aC):aC:=DD tn none++idx.map fun i=>(ρ[i]?).join
theorem Zr.block {M:Mh}{ρ:aC}{σ:St}{H:Hp}(z:Zr Γ β M ρ σ H) (tn:Nat) (idx:List Nat):Zr Γ β M (zBlock tn idx ρ) (bw tn idx σ) H:=⟨z.eP,z.ew,z.eK,z.et,z.sub,z.wf,z.ent,z.mz,by simp[zBlock,bw],fun i d e=>by
 unfold zBlock at e;unfold bw;rw[Z3]at e ⊢;rw[VT]at e ⊢;split at e
 ·rw[Na]at e;split at e<;>cases e
 ·rename_i hi;rw[if_neg hi];rw[ce]at e ⊢;cases q:idx[i - tn]? with
  |none=>rw[q]at e;cases e
  |some j=>
   rw[q]at e;have e2:ρ[j]?=some (some d) :=by
    simp only[BY,FS]at e;cases q2:ρ[j]? with
    |none=>rw[q2]at e;cases e
    |some o=>rw[q2]at e;simp only[aaV]at e;rw[e]
   obtain⟨v,hv,r⟩:=z.at' j d e2;exact⟨v,by simp[hv],r⟩⟩
theorem Zr.enter {M:Mh}{ρ:aC}{σ:St}{H:Hp}{D:ag}{o:HO}(z:Zr Γ β M ρ σ H) (hD:H D=none) (ho:pI o=true):Zr Γ (β.add D) M ρ σ (upd H D o):=
 ⟨z.eP,z.ew,z.eK,z.et,fun a h=>en _ (z.sub a h),z.wf,z.ent.over (z.ent.gone hD (by
  cases e:Γ.M0 D with
  |none=>rfl
  |some u=>have:=z.ent.dom D (by rw[e];rfl);rw[z.mz.free hD]at this;cases this)),z.mz.enter hD ho,z.len,fun i d e=>let ⟨v,h,r⟩:=z.at' i d e;⟨v,h,r.enter hD⟩⟩
theorem Zr.over {M:Mh}{ρ:aC}{σ:St}{H:Hp}{D:ag}{o:HO}(z:Zr Γ β M ρ σ H) (hD:D∈β.hid) (ho:pI o=true) (hM:M D=none) (ht:D ∉ β.tb) (h0:Γ.H0 D=none):Zr Γ β M ρ σ (upd H D o):=
 ⟨z.eP,z.ew,z.eK,z.et,z.sub,z.wf,z.ent.over h0,z.mz.over hD ho hM ht,z.len,fun i d e=>let ⟨v,h,r⟩:=z.at' i d e;⟨v,h,r.over hD⟩⟩
abbrev nE (Γ:Gz) (X:Cx) (ifs:List c8) (t:cg):Prop:=gO X ifs (lT Γ t)
def zNoIf:cg:=fun _ M Q=>Q true M
theorem bG:nE Γ X [] zNoIf:=Lj.imp fun σ H Q ⟨β,ρ,M,Q',zr,h,q⟩=>q true M H (.refl zr.mz) h
theorem qE {c:c8}{tc:cg}(h:QT Γ X c tc):nE Γ X [c] tc:=Lk h
def iw (g:bS) (tt:cg) (te:aM):List Dv->aC->Mh->(List Dv->Mh->Prop)->Prop
 | [],_,M,Q=>Q [] M
 |d::ds,τ,M,Q=>g d τ M fun az M2=>tt az M2 fun b M3=>if b=true then te az M3 fun y M4=>iw g tt te ds az M4 fun ys M5=>Q (y::ys) M5 else iw g tt te ds az M3 Q
structure Acc (Γ:Gz) (β:Bz) (D:ag) (M1:Mh) (H1:Hp) (aT:aC) (M:Mh) (τ:St) (H:Hp) (acc:List V) (aR:List Dv):Prop where
 ey:Ey M1 H1 M H
 m:M D=none
 zr:Zr Γ (β.add D) M aT τ H
 at':H D=some (.lst acc)
 rs:aJ (β.add D) M H acc aR
 h1:H1 D=none
 h0:Γ.H0 D=none
 nt:D ∉ β.tb
theorem Acc.start {D:ag}{M1:Mh}{H1:Hp}{aT:aC}{τ:St}(zr:Zr Γ β M1 aT τ H1) (hD:H1 D=none):Acc Γ β D M1 H1 aT M1 τ (upd H1 D (.lst [])) [] []:=
 ⟨Ey.refl.over hD,zr.mz.free hD,zr.enter hD rfl,aE,.nil,hD,zr.ent.gone hD (by
  cases e:Γ.M0 D with
  |none=>rfl
  |some u=>have:=zr.ent.dom D (by rw[e];rfl);rw[zr.mz.free hD]at this;cases this),zr.mz.CP hD⟩
section
variable {D:ag}{M1 M M2:Mh}{H1 H H2:Hp}{aT yB:aC}{τ az:St}{acc:List V}{aR:List Dv}
theorem Acc.step (A:Acc Γ β D M1 H1 aT M τ H acc aR) (x:Ex (β.add D) M H M2 H2) (z:Zr Γ (β.add D) M2 yB az H2):Acc Γ β D M1 H1 yB M2 az H2 acc aR:=
 ⟨A.ey.trans x.toEy,x.new D _ A.m A.at',z,x.get A.m A.at' rfl,A.rs.ex x,A.h1,A.h0,A.nt⟩
theorem Acc.snoc (A:Acc Γ β D M1 H1 aT M τ H acc aR) {y:V}{d:Dv}(r:Rz (β.add D) M H y d):Acc Γ β D M1 H1 aT M τ (upd H D (.lst (acc++[y]))) (acc++[y]) (aR++[d]) :=by
 have hD:D∈(β.add D).hid:=i8;exact⟨A.ey.over A.h1,A.m,A.zr.over hD rfl A.m A.nt A.h0,aE,⟨by simp[A.rs.len],fun i v d a b=>((A.rs.snoc r).at' i v d a b).over hD⟩,A.h1,A.h0,A.nt⟩
theorem Acc.fz (A:Acc Γ β D M1 H1 aT M τ H acc aR) (m1:Mz β M1 H1):Fz β M D:=⟨A.m,(m1.fz A.h1).2⟩
theorem Acc.mz (A:Acc Γ β D M1 H1 aT M τ H acc aR):Mz β M H:=Mz.sub (β:=β.add D) (dq:=β) rfl rfl rfl rfl (fun a h=>en _ h) A.zr.mz
theorem Acc.items (A:Acc Γ β D M1 H1 aT M τ H acc aR):aJ β M H acc aR:=⟨A.rs.len,fun i v d a b=>Rz.sub (β:=β.add D) (dq:=β) rfl rfl rfl (fun a h=>en _ h) (A.rs.at' i v d a b)⟩
theorem Acc.ex (A:Acc Γ β D M1 H1 aT M τ H acc aR):Ex β M1 H1 M H:=⟨A.ey,A.mz⟩
end
def zComp (tn:Nat) (idx:List Nat) (zi:dz) (g:bS) (tt:cg) (te:aM):aM:=fun ρ M Q=>zi ρ M fun ds M1=>ds.length<sizeLine/\iw g tt te ds (zBlock tn idx ρ) M1 fun ys M2=>Q (.lst ys) M2
def zCompP (tn:Nat) (idx:List Nat) (zi:dz) (g:bS) (tt:cg) (te:aM):aM:=fun ρ M Q=>zi ρ M fun ds M1=>ds.length<sizeLine/\iw g tt te ds (zBlock tn idx ρ) M1 fun ys M2=>∀a,M2 a=none->Q (.ptr a) (aw M2 a (.lst ys))
variable {zi:dz}{g:bS}{tt:cg}{te:aM}{tn:Nat}{idx:List Nat}
def pN (Γ:Gz) (β:Bz) (D:ag) (M1:Mh) (H1:Hp) (g:bS) (tt:cg) (te:aM) (ds:List Dv) (Q':List Dv->Mh->Prop) (i m:Nat) (τ:St) (H:Hp):Prop:=
 m=ds.length - i/\i<=ds.length/\∃aT M acc aR,Acc Γ β D M1 H1 aT M τ H acc aR/\acc.length<=i/\iw g tt te (ds.drop i) aT M fun ys M2=>Q' (aR++ys) M2
theorem vZ {D:ag}{M1:Mh}{H1:Hp}{ds:List Dv}{Q':List Dv->Mh->Prop}{J:It}(it:Fu β J ds M1 H1) (hlen:ds.length<sizeLine) {i m:Nat}{τ:St}{H:Hp}(w:pN Γ β D M1 H1 g tt te ds Q' i m τ H)
  {C:V->St->Hp->Prop} (hC:∀y az H4 acc,H4 D=some (.lst acc)->acc.length<sizeLine->(∃m',m'<m/\pN Γ β D M1 H1 g tt te ds Q' (i+1) m' az (upd H4 D (.lst (acc++[y]))))->C y az H4) :
  (J.stop i H/\∃aT M acc aR,Acc Γ β D M1 H1 aT M τ H acc aR/\acc.length<sizeLine/\Q' aR M) \/
  (J.go i H/\∀x H',J.yld i H x H'->lG Γ g x τ H' fun az H2=>lT Γ tt az H2 fun b H3=>if b=true then lE Γ te az H3 fun y H4=>C y az H4 else ∃m',m'<m/\pN Γ β D M1 H1 g tt te ds Q' (i+1) m' az H3) :=by
 obtain⟨rfl,hi,aT,M,acc,aR,A,OT,h⟩:=w;have q:=it (β.add D) M H (.add A.h1) A.ey A.zr.mz i;by_cases aN:i<ds.length
 ·refine .inr ⟨(q.1 aN).1,fun x H' y=>?_⟩
  obtain⟨x2,d,hd,rd⟩:=(q.1 aN).2 x H' y;have e:ds.drop i=d::ds.drop (i+1) :=by
   rw[AT aN];rw[ap aN]at hd;cases hd;rfl
  rw[e]at h;have A2:=A.step x2 (A.zr.step x2);refine⟨β.add D,d,aT,M,_,A2.zr,rd,h,fun dQ M3 lD H3 x3 z3 h3=>?_⟩
  have A3:=A2.step x3 z3;refine⟨β.add D,dQ,M3,_,z3,h3,fun b M4 H4 x4 h4=>?_⟩
  have A4:=A3.step x4 (z3.step x4);cases b with
  |false=>
   dsimp only at h4 ⊢;rw[if_neg i0]at h4 ⊢;exact⟨ds.length - (i+1),by omega,rfl,aN,dQ,M4,acc,aR,A4,by omega,h4⟩
  |true=>
   dsimp only at h4 ⊢;rw[if_pos rfl]at h4 ⊢;refine⟨β.add D,dQ,M4,_,A4.zr,h4,fun yd M5 yv H5 x5 r5 h5=>?_⟩
   have A5:=A4.step x5 (A4.zr.step x5);refine hC yv lD H5 acc A5.at' (by omega) ⟨ds.length - (i+1),by omega,rfl,aN,dQ,M5,acc++[yv],aR++[yd],A5.snoc r5,by simp;omega,?_⟩
   have e2:(fun ys M2=>Q' (aR++[yd]++ys) M2)=fun ys M2=>Q' (aR++yd::ys) M2 :=by
    funext ys M2
    rw[FM];rfl
   rw[e2];exact h5
 ·have e:i=ds.length :=by omega
  subst e;rw[No]at h;refine .inl ⟨q.2 (cb _),aT,M,acc,aR,A,by omega,?_⟩
  have h':Q' (aR++[]) M:=h;rwa [EQ]at h'
theorem tO {D:ag}{M1:Mh}{H1:Hp}{ds:List Dv}{Q':List Dv->Mh->Prop}{aT:aC}{τ:St}(zr:Zr Γ β M1 aT τ H1) (hD:H1 D=none) (h:iw g tt te ds aT M1 Q'):pN Γ β D M1 H1 g tt te ds Q' 0 ds.length τ (upd H1 D (.lst [])):=
 ⟨rfl,mf _,aT,M1,[],[],.start zr hD,cb _,h⟩
theorem FC {σ:St}{H:Hp}{Q:VK}(h:lE Γ (zComp tn idx zi g tt te) σ H Q):sX tn idx (lI Γ zi) (lG Γ g) (lT Γ tt) (lE Γ te) σ H Q :=by
 obtain⟨β,ρ,M,Q',zr,h,q⟩:=h;refine⟨β,ρ,M,_,zr,h,fun ds M1 H1 J x1 it ⟨hlen,h1⟩ D hD=>?_⟩
 have gQ:=zr.step x1;refine⟨pN Γ β D M1 H1 g tt te ds fun ys M2=>Q' (.lst ys) M2,⟨_,tO (gQ.block tn idx) hD h1⟩,fun i m τ H' w=>?_⟩
 rcases vZ it hlen w (C:=fun y az H4=>∃ys m',H4 D=some (.lst ys)/\ys.length<sizeLine/\m'<m/\pN Γ β D M1 H1 g tt te ds (fun ys M2=>Q' (.lst ys) M2) (i+1) m' az (upd H4 D (.lst (ys++[y])))) (fun y az H4 acc e hl ⟨m',hm,w'⟩=>⟨acc,m',e,hl,hm,w'⟩) with ⟨hs,aT,M',acc,aR,A,_,hq⟩|z
 ·exact .inl ⟨hs,q _ _ _ _ (x1.trans A.ex) (ny (A.fz gQ.mz) A.at' A.items) hq⟩
 ·exact .inr z
theorem uL {σ:St}{H:Hp}{Q:VK}(h:lE Γ (zCompP tn idx zi g tt te) σ H Q):sX tn idx (lI Γ zi) (lG Γ g) (lT Γ tt) (lE Γ te) σ H Q :=by
 obtain⟨β,ρ,M,Q',zr,h,q⟩:=h;refine⟨β,ρ,M,_,zr,h,fun ds M1 H1 J x1 it ⟨hlen,h1⟩ D hD=>?_⟩
 have gQ:=zr.step x1;refine⟨pN Γ β D M1 H1 g tt te ds fun ys M2=>∀a,M2 a=none->Q' (.ptr a) (aw M2 a (.lst ys)),⟨_,tO (gQ.block tn idx) hD h1⟩,fun i m τ H' w=>?_⟩
 rcases vZ it hlen w (C:=fun y az H4=>∃ys m',H4 D=some (.lst ys)/\ys.length<sizeLine/\m'<m/\pN Γ β D M1 H1 g tt te ds (fun ys M2=>∀a,M2 a=none->Q' (.ptr a) (aw M2 a (.lst ys))) (i+1) m' az (upd H4 D (.lst (ys++[y])))) (fun y az H4 acc e hl ⟨m',hm,w'⟩=>⟨acc,m',e,hl,hm,w'⟩) with ⟨hs,aT,M',acc,aR,A,_,hq⟩|z
 ·refine .inl ⟨hs,?_⟩;have Xo:D ∉ β.hid:=(A.fz gQ.mz).2;have hM:M' D=none:=A.m;have mz:Mz β (aw M' D (.lst aR)) H':=by
   have rz:∀{v:V} {d:Dv},Rz (β.add D) M' H' v d->Rz β (aw M' D (.lst aR)) H' v d:=fun r=>by
    have ne:∀a,Fz (β.add D) M' a->Fz β (aw M' D (.lst aR)) a:=fun a f=>⟨by rw[ao (fun z=>f.2 (by rw[z];exact i8))];exact f.1,fun z=>f.2 (en _ z)⟩
    induction r with
    |int i=>exact .int i
    |bl b=>exact .bl b
    |ax=>exact .ax
    |str z=>exact .str z
    |tup m e hl h ih=>exact .tup (ne _ m) e hl ih
    |lst m e hl h ih=>exact .lst (ne _ m) e hl ih
    |dk m e hk hl h ih=>exact .dk (ne _ m) e hk hl ih
    |dt m e hk hl h ih=>exact .dt (ne _ m) e hk hl ih
    |b7 m e m2 e2 hl h ih=>exact .b7 (ne _ m) e (ne _ m2) e2 hl ih
    |set m e=>exact .set (ne _ m) e
    |ptr m=>exact .ptr (by unfold aw;split;rfl;exact m)
    |exc m e=>exact .exc (ne _ m) e
    |bK m e=>exact .bK (ne _ m) e
    |cY m e=>exact .cY (ne _ m) e
    |cZ e=>exact .cZ e
    |raw v=>exact .raw v
   refine⟨fun a o e=>?_,A.zr.mz.tabs,fun a ha=>A.zr.mz.hids a (en _ ha),fun a o e z=>?_,A.zr.mz.lams⟩
   by_cases ha:a=D
   ·subst ha;rw[updM_same]at e;cases e;exact⟨acc,A.at',A.rs.len,fun i v d a b=>rz (A.rs.at' i v d a b)⟩
   ·rw[ao ha]at e;have z:=A.zr.mz.obj a o e;cases o with
    |lst ds=>obtain⟨vs,z,l,r⟩:=z;exact⟨vs,z,l,fun i v d a b=>rz (r i v d a b)⟩
    |dk ks ds=>obtain⟨vs,z,hk,l,r⟩:=z;exact⟨vs,z,hk,l,fun i v d a b=>rz (r i v d a b)⟩
    |dt ks ds=>obtain⟨vs,z,hk,l,r⟩:=z;exact⟨vs,z,hk,l,fun i v d a b=>rz (r i v d a b)⟩
    |cH=>exact z
   ·by_cases ha:a=D
    ·subst ha;exact Xo z
    ·rw[ao ha]at e;exact A.zr.mz.apart a o e (en _ z)
  have ey:Ey M1 H1 (aw M' D (.lst aR)) H':=⟨A.ey.keep,fun a h=>by unfold aw;split;rfl;exact A.ey.dom a h,fun a o m e=>by rw[ao (bp e A.h1)];exact A.ey.new a o m e⟩
  exact q _ _ _ _ (x1.trans ⟨ey,mz⟩) (.ptr (by rw[updM_same];rfl)) (hq D hM)
 ·exact .inr z
theorem VU {P:ag}{zi:dz}{R:It->Hp->Prop}{σ:St}{H:Hp}{ρ:aC}{M:Mh}{R':List Dv->Mh->Prop}(hP:P∈Γ.tb) (zr:Zr Γ β M ρ σ H) (h:zi ρ M R') (q:∀ds M' H' J,Ex β M H M' H'->Fu β J ds M' H'->R' ds M'->R J H'):Ov P (lI Γ zi) R σ H :=by
 refine⟨β,ρ,M,_,zr,h,fun ds M1 H1 J x1 it h1=>?_⟩
 have JU:P∈β.tb :=by rw[zr.et];exact hP
 refine⟨x1.mz.tabs P JU,fun ps t=>?_⟩
 have x2:=Ex.grow x1.mz JU t;refine q ds M1 _ J (x1.trans x2) (fun dq M' H' bx ey mz=>it dq M' H' ⟨bx.P,bx.w,bx.K,bx.tb,bx.old,fun a ha=>?_⟩ (x2.toEy.trans ey) mz) h1
 rcases bx.new a ha with z|z
 ·exact .inl z
 ·right;cases e:H1 a with
  |none=>rfl
  |some o=>obtain⟨u,hu⟩:=Iv (p:=P) (o:=.dw ps) ⟨o,e⟩;rw[z]at hu;cases hu
def mL (g:bS) (tt:cg) (te:aM):List Dv->aC->Mh->(Bool->Mh->Prop)->Prop
 | [],_,M,Q=>Q true M
 |d::ds,τ,M,Q=>g d τ M fun az M2=>tt az M2 fun b M3=>if b=true then te az M3 (zBool fun c M4=>if c=false then Q false M4 else mL g tt te ds az M4 Q) else mL g tt te ds az M3 Q
def zAll (tn:Nat) (idx:List Nat) (zi:dz) (g:bS) (tt:cg) (te:aM):aM:=fun ρ M Q=>zi ρ M fun ds M1=>mL g tt te ds (zBlock tn idx ρ) M1 fun b M2=>Q (.bl b) M2
theorem SM {P:ag}(hP:P∈Γ.tb) {σ:St}{H:Hp}{Q:VK}(h:lE Γ (zAll tn idx zi g tt te) σ H Q):Ox P tn idx (lI Γ zi) (lG Γ g) (lT Γ tt) (lE Γ te) σ H Q :=by
 obtain⟨β,ρ,M,Q',zr,h,q⟩:=h;refine VU hP zr h fun ds M1 H1 J x1 it h1=>?_
 have gQ:=zr.step x1;refine⟨fun i m τ H'=>m=ds.length - i/\i<=ds.length/\∃aT M',Ex β M1 H1 M' H'/\Zr Γ β M' aT τ H'/\mL g tt te (ds.drop i) aT M' fun b M2=>Q' (.bl b) M2,⟨_,rfl,mf _,_,M1,.refl x1.mz,gQ.block tn idx,h1⟩,?_⟩
 rintro i m τ H' ⟨rfl,hi,aT,M',x',gp,h'⟩;have qq:=it β M' H' .refl x'.toEy x'.mz i;by_cases aN:i<ds.length
 ·refine .inr ⟨(qq.1 aN).1,fun x iP y=>?_⟩
  obtain⟨x2,d,hd,rd⟩:=(qq.1 aN).2 x iP y;have e:ds.drop i=d::ds.drop (i+1) :=by
   rw[AT aN];rw[ap aN]at hd;cases hd;rfl
  rw[e]at h';refine⟨β,d,aT,M',_,gp.step x2,rd,h',fun dQ M3 lD H3 x3 z3 h3=>⟨β,dQ,M3,_,z3,h3,fun b M4 H4 x4 h4=>?_⟩⟩
  have oM:=x'.trans (x2.trans (x3.trans x4));cases b with
  |false=>
   dsimp only at h4 ⊢;rw[if_neg i0]at h4 ⊢;exact⟨ds.length - (i+1),by omega,rfl,aN,dQ,M4,oM,z3.step x4,h4⟩
  |true=>
   dsimp only at h4 ⊢;rw[if_pos rfl]at h4 ⊢;refine⟨β,dQ,M4,_,z3.step x4,h4,fun yd M5 yv H5 x5 r5 h5=>?_⟩
   obtain⟨k,rfl,h6⟩:=ly h5;refine⟨k,d6 r5,?_⟩;cases k with
   |false=>
    rw[if_pos rfl]at h6 ⊢;exact q _ _ _ _ (x1.trans (oM.trans x5)) (.bl _) h6
   |true=>
    rw[if_neg (by decide)]at h6 ⊢
    exact⟨ds.length - (i+1),by omega,rfl,aN,dQ,M5,oM.trans x5,(z3.step x4).step x5,h6⟩
 ·have e:i=ds.length :=by omega
  subst e;rw[No]at h';exact .inl ⟨qq.2 (cb _),q _ _ _ _ (x1.trans x') (.bl _) h'⟩
end
section
variable {X:Cx}{Γ:Gz}{β:Bz}{K:ba}
def zII (f:Int->Int->Dv):fv:=fun d e M Q=>match d,e with | .int i,.int j=>Q (f i j) M|_,_=>False
def zIC (C:Int->Int->Prop) (f:Int->Int->Dv):fv:=fun d e M Q=>match d,e with | .int i,.int j=>C i j/\Q (f i j) M|_,_=>False
theorem pO {g:Int->Int->V}{f:Int->Int->Dv}(h:∀β M H i j,Rz β M H (g i j) (f i j)):rq Γ (vq g) (zII f):=fun β x y d e M H Q Q' _ _ _ m rx ry z q=>by
 unfold zII at z;split at z
 ·exact⟨_,_,aV rx,aV ry,q _ _ _ _ (.refl m) (h ..) z⟩
 ·exact z.elim
theorem tP {C:Int->Int->Prop}{g:Int->Int->V}{f:Int->Int->Dv}(h:∀β M H i j,Rz β M H (g i j) (f i j)):rq Γ (rI C g) (zIC C f):=fun β x y d e M H Q Q' _ _ _ m rx ry z q=>by
 unfold zIC at z;split at z
 ·exact⟨_,_,aV rx,aV ry,z.1,q _ _ _ _ (.refl m) (h ..) z.2⟩
 ·exact z.elim
theorem il:fY Γ X (binaryOp .Add) (zII fun i j=>.int (i+j)):=⟨_,NS,pO fun _ _ _ _ _=>.int _⟩
theorem SN:fY Γ X (binaryOp .Sub) (zII fun i j=>.int (i - j)):=⟨_,NT,pO fun _ _ _ _ _=>.int _⟩
theorem qF:fY Γ X (binaryOp .Mult) (zIC Ca fun i j=>.int (i * j)):=⟨_,NU,tP fun _ _ _ _ _=>.int _⟩
theorem FD:fY Γ X (binaryOp .FloorDiv) (zIC NQ fun i j=>.int (i / j)):=⟨_,Lb,tP fun _ _ _ _ _=>.int _⟩
theorem kG:fY Γ X (binaryOp .Mod) (zIC (fun _ j=>0<j) fun i j=>.int (i % j)):=⟨_,NV,tP fun _ _ _ _ _=>.int _⟩
theorem SQ:fY Γ X (binaryOp .Pow) (zIC NR fun i j=>.int (i ^ j.toNat)):=⟨_,NW,tP fun _ _ _ _ _=>.int _⟩
theorem nY:fY Γ X (compareOp .Lt) (zII fun i j=>.bl (decide (i<j))):=⟨_,Sg,pO fun _ _ _ _ _=>.bl _⟩
theorem CU:fY Γ X (compareOp .LtE) (zII fun i j=>.bl (decide (i<=j))):=⟨_,Sh,pO fun _ _ _ _ _=>.bl _⟩
theorem Pw:fY Γ X (compareOp .Gt) (zII fun i j=>.bl (decide (j<i))):=⟨_,Si,pO fun _ _ _ _ _=>.bl _⟩
def scalZ (d e:Dv):Option Bool:=match d with
 | .int i=>(match e with | .int j=>some (decide (i=j)) | .ax=>some false | .str _=>some false|_=>none)
 | .bl i=>(match e with | .bl j=>some (decide (i=j)) | .ax=>some false | .str _=>some false|_=>none)
 | .str i=>(match e with | .str j=>some (decide (i=j)) | .ax=>some false | .int _=>some false | .bl _=>some false|_=>none)
 | .ax=>(match e with | .ax=>some true | .int _=>some false | .bl _=>some false | .str _=>some false|_=>none)
 |_=>none
def zEq:fv:=fun d e M Q=>match scalZ d e with|some b=>Q (.bl b) M|none=>False
def zNe:fv:=fun d e M Q=>match scalZ d e with|some b=>Q (.bl (!b)) M|none=>False
theorem yC {M:Mh}{H:Hp}{x y:V}{d e:Dv}{b:Bool}(rx:Rz β M H x d) (ry:Rz β M H y e) (h:scalZ d e=some b):Hw x y=true/\decide (x=y)=b :=by
 unfold scalZ at h;split at h
 ·rw[aV rx];split at h<;>cases h
  ·rw[aV ry];exact⟨rfl,by simp⟩
  ·rw[iO ry];exact⟨rfl,by simp⟩
  ·rw[dU ry];exact⟨rfl,by simp⟩
 ·rw[d6 rx];split at h<;>cases h
  ·rw[d6 ry];exact⟨rfl,by simp⟩
  ·rw[iO ry];exact⟨rfl,by simp⟩
  ·rw[dU ry];exact⟨rfl,by simp⟩
 ·rw[dU rx];split at h<;>cases h
  ·rw[dU ry];exact⟨rfl,by simp⟩
  ·rw[iO ry];exact⟨rfl,by simp⟩
  ·rw[aV ry];exact⟨rfl,by simp⟩
  ·rw[d6 ry];exact⟨rfl,by simp⟩
 ·rw[iO rx];split at h<;>cases h
  ·rw[iO ry];exact⟨rfl,by simp⟩
  ·rw[aV ry];exact⟨rfl,by simp⟩
  ·rw[d6 ry];exact⟨rfl,by simp⟩
  ·rw[dU ry];exact⟨rfl,by simp⟩
 ·cases h
theorem j7:fY Γ X (compareOp .Eq) zEq:=⟨_,Se,fun β x y d e M H Q Q' _ _ _ m rx ry z q=>by
 unfold zEq at z;split at z
 ·rename_i b hb;obtain⟨h1,h2⟩:=yC rx ry hb;exact⟨h1,by rw[h2];exact q _ _ _ _ (.refl m) (.bl _) z⟩
 ·exact z.elim⟩
theorem yD:fY Γ X (compareOp .NotEq) zNe:=⟨_,Sf,fun β x y d e M H Q Q' _ _ _ m rx ry z q=>by
 unfold zNe at z;split at z
 ·rename_i b hb;obtain⟨h1,h2⟩:=yC rx ry hb;exact⟨h1,by rw[h2];exact q _ _ _ _ (.refl m) (.bl _) z⟩
 ·exact z.elim⟩
def isNonD:Dv->Option Bool
 | .ax=>some true
 | .raw _=>none
 |_=>some false
theorem FE {M:Mh}{H:Hp}{x:V}{d:Dv}{b:Bool}(r:Rz β M H x d) (h:isNonD d=some b):decide (x=.ax)=b :=by
 cases r<;>simp[isNonD]at h ⊢<;>exact h
def zIsN (neg:Bool):fv:=fun d e M Q=>match e,isNonD d with | .ax,some b=>Q (.bl (if neg then !b else b)) M|_,_=>False
theorem w9:fY Γ X (compareOp .Is) (zIsN false):=⟨_,NX,fun β x y d e M H Q Q' _ _ _ m rx ry z q=>by
 unfold zIsN at z;split at z
 ·rename_i b hb;exact⟨iO ry,by rw[FE rx hb];exact q _ _ _ _ (.refl m) (.bl _) z⟩
 ·exact z.elim⟩
def zSS (C:bi->bi->Prop) (f:bi->bi->Dv):fv:=fun d e M Q=>match d,e with | .str i,.str j=>C i j/\Q (f i j) M|_,_=>False
theorem FG:fY Γ X (binaryOp .Add) (zSS (fun i j=>i.length+j.length<=sizeLine) fun i j=>.str (i++j)):=⟨_,Ce,fun β x y d e M H Q Q' _ _ _ m rx ry z q=>by
 unfold zSS at z;split at z
 ·exact⟨_,_,dU rx,dU ry,z.1,q _ _ _ _ (.refl m) (.str _) z.2⟩
 ·exact z.elim⟩
mutual
def bW:Dv->Option Dt
 | .int i=>some (.int i)
 | .bl b=>some (.bl b)
 | .ax=>some .ax
 | .str z=>some (.str z)
 | .tup ds=>(ip ds).map .tup
 | .lst ds=>(ip ds).map .lst
 |_=>none
def ip:List Dv->Option (List Dt)
 | []=>some []
 |d::ds=>match bW d,ip ds with|some a,some as=>some (a::as)|_,_=>none
end
theorem nZ:∀{ds:List Dv}{ts:List Dt},ip ds=some ts->ds.length=ts.length/\∀(i:Nat) (d:Dv) (t:Dt),ds[i]?=some d->ts[i]?=some t->bW d=some t
 | [],ts,h=>by simp only[ip,FS]at h;subst h;exact⟨rfl,fun i d t a=>by simp at a⟩
 |d::ds,ts,h=>by
          simp only[ip]at h;split at h
          ·rename_i a as h1 h2;cases h;obtain⟨hl,q⟩:=nZ h2;refine⟨by simp[hl],fun i e t x y=>?_⟩
           cases i with
           |zero=>simp at x y;subst x y;exact h1
           |succ i=>rw[JJ]at x y;exact q i e t x y
          ·cases h
theorem FH {M:Mh}{H:Hp}{v:V}{d:Dv}(h:Rz β M H v d):∀{t:Dt},bW d=some t->ez H v t :=by
 induction h with
 |int i=>intro t e;simp only[bW,FS]at e;subst e;exact .int i
 |bl b=>intro t e;simp only[bW,FS]at e;subst e;exact .bl b
 |ax=>intro t e;simp only[bW,FS]at e;subst e;exact .ax
 |str z=>intro t e;simp only[bW,FS]at e;subst e;exact .str z
 |tup m e hl h ih=>
  intro t q;simp only[bW,lc]at q;obtain⟨ts,q,rfl⟩:=q;obtain⟨l2,at2⟩:=nZ q;refine .tup e (hl.trans l2) fun i x d hx hd=>?_
  have hi:=(ca.mp hd).1;have:=ap (l:=_) (i:=i) (show i<_ from l2▸hi);exact ih i x _ hx this (at2 i _ _ this hd)
 |lst m e hl h ih=>
  intro t q;simp only[bW,lc]at q;obtain⟨ts,q,rfl⟩:=q;obtain⟨l2,at2⟩:=nZ q;refine .lst e (hl.trans l2) fun i x d hx hd=>?_
  have hi:=(ca.mp hd).1;have:=ap (l:=_) (i:=i) (show i<_ from l2▸hi);exact ih i x _ hx this (at2 i _ _ this hd)
 |set m e=>intro t q;simp[bW]at q
 |ptr m=>intro t q;simp[bW]at q
 |exc m e=>intro t q;simp[bW]at q
 |bK m e=>intro t q;simp[bW]at q
 |cY m e=>intro t q;simp[bW]at q
 |cZ e=>intro t q;simp[bW]at q
 |dk m e hk hl h ih=>intro t q;simp[bW]at q
 |dt m e hk hl h ih=>intro t q;simp[bW]at q
 |b7 m e m2 e2 hl h ih=>intro t q;simp[bW]at q
 |raw v=>intro t q;simp[bW]at q
def now (M:Mh):Dv->Dv
 | .ptr a=>match M a with|some (.lst ds)=>.lst ds|_=>.ptr a
 |d=>d
theorem qG {M:Mh}{H:Hp}{v:V}{d:Dv}(m:Mz β M H) (h:Rz β M H v d) {t:Dt}(e:bW (now M d)=some t):ez H v t :=by
 cases d with
 |ptr a=>
  simp only[now]at e;obtain⟨rfl,hs⟩:=bF h;cases q:M a with
  |none=>rw[q]at hs;cases hs
  |some o=>
   rw[q]at e;cases o with
   |cH=>simp[bW]at e
   |dk ks es=>simp[bW]at e
   |dt ks es=>simp[bW]at e
   |lst ds=>
    obtain⟨vs,hv,rs⟩:=m.obj a _ q;simp only[bW,lc]at e;obtain⟨ts,q,rfl⟩:=e;obtain⟨l2,at2⟩:=nZ q;refine .lst hv (rs.len.trans l2) fun i x d hx hd=>?_
    have hi:=(ca.mp hd).1;have:=ap (l:=_) (i:=i) (show i<_ from l2▸hi);exact FH (rs.at' i x _ hx this) (at2 i _ _ this hd)
 |_=>exact FH h e
def pP (neg:Bool):fv:=fun d e M Q=>match bW (now M d),bW (now M e) with|some a,some b=>jW a<=60/\Q (.bl (if neg then !da a b else da a b)) M|_,_=>False
theorem LQ {neg:Bool}:rq Γ (OX neg) (pP neg):=fun β x y d e M H Q Q' _ _ _ m rx ry z q=>by
 unfold pP at z;split at z
 ·rename_i a b h1 h2;exact⟨a,b,qG m rx h1,qG m ry h2,z.1,q _ _ _ _ (.refl m) (.bl _) z.2⟩
 ·exact z.elim
theorem qH (hu:X.A.units+64<cLine):fY Γ X (compareOp .Eq) (pP false):=⟨_,OY hu,LQ⟩
def itemsM (M:Mh):Dv->Option (List Dv)
 | .tup ds=>some ds
 | .lst ds=>some ds
 | .ptr a=>match M a with|some (.lst ds)=>some ds|_=>none
 |_=>none
theorem fB {M:Mh}{H:Hp}{x:V}{d:Dv}{ds:List Dv}(m:Mz β M H) (r:Rz β M H x d) (h:itemsM M d=some ds):∃a vs,x=.ref a/\(H a=some (.lst vs)\/H a=some (.tup vs))/\aJ β M H vs ds :=by
 cases d with
 |tup es=>cases h;obtain⟨a,vs,e,_,h,rs⟩:=cE r;exact⟨a,vs,e,.inr h,rs⟩
 |lst es=>cases h;obtain⟨a,vs,e,_,h,rs⟩:=dS r;exact⟨a,vs,e,.inl h,rs⟩
 |ptr a=>
  obtain⟨rfl,hs⟩:=bF r;simp only[itemsM]at h;split at h
  ·rename_i es q;cases h;obtain⟨vs,hv,rs⟩:=m.obj a _ q;exact⟨a,vs,rfl,.inl hv,rs⟩
  ·cases h
 |_=>cases h
theorem LR {M:Mh}{H:Hp}{vs:List V}{ds:List Dv}(rs:aJ β M H vs ds) {i:Int}{d:Dv}(h:dF ds i=some d):∃v,dF vs i=some v/\Rz β M H v d :=by
 unfold dF at h ⊢;rw[rs.len];cases e:jU ds.length i with
 |none=>rw[e]at h;cases h
 |some j=>
  rw[e]at h;obtain⟨v,hv,r⟩:=rs.get (i:=j) (d:=d) h;exact⟨v,hv,r⟩
def Px (Γ:Gz) (X:Cx) (z:fv):Prop:=∃r,o7 X r/\rq Γ r z
def zIx:fv:=fun d e M Q=>match e with
 | .int i=>(match d with
  | .str z=>z.length<=sizeLine/\(match dF z.cps.toList i with|some c=>Q (.str ⟨#[c]⟩) M|none=>False)
  |_=>match itemsM M d with|some ds=>(match dF ds i with|some r=>Q r M|none=>False)|none=>False)
 |_=>False
theorem dB (hK:X.K=K):Px Γ X zIx:=⟨_,A9 hK,fun β x y d e M H Q Q' _ _ _ m rx ry z q=>by
 unfold zIx at z;split at z
 ·rename_i i;have hy:=aV ry;split at z
  ·rename_i s;obtain⟨hz,z⟩:=z;split at z
   ·rename_i c hc;exact .inr (.inr ⟨s,i,c,dU rx,hy,hz,hc,q _ _ _ _ (.refl m) (.str _) z⟩)
   ·exact z.elim
  ·split at z
   ·rename_i ds oN;obtain⟨a,vs,rfl,ha,rs⟩:=fB m rx oN;split at z
    ·rename_i r hr;obtain⟨v,hv,rv⟩:=LR rs hr;have z':=q _ _ _ _ (.refl m) rv z;rcases ha with ha|ha
     ·exact .inl ⟨a,vs,i,v,rfl,hy,bL.of ha,hv,z'⟩
     ·exact .inr (.inl ⟨a,vs,i,v,rfl,hy,c9.of ha,hv,z'⟩)
    ·exact z.elim
   ·exact z.elim
 ·exact z.elim⟩
theorem bU {a b:c8}{pa pb:aM}{z:fv}{pos:u7}(hr:Px Γ X z) (ha:QE Γ X a pa) (hb:QE Γ X b pb) (hs:A7 b):QE Γ X (.Subscript a b pos) (zOp z pa pb) :=by
 obtain⟨r,h1,h2⟩:=hr;exact(Sl h1 ha hb hs).imp fun σ H Q h=>CT h2 h
section
variable {x:bi}{p pos:u7}{e:c8}{es:List c8}{za:eY}{id T:String}{z:vY}
theorem av (hc:eA Γ X (.builtin id) z) (hg:Gl X x) (hm:X.mg x=none) (hv:bootBuiltins x=some (.builtin id)) (ha:QA Γ X (e::es) za) (hn:x ≠ "__name__" := by decide) (gd:(x==("__debug__" : bi))=false :=by decide)
  (he:starEach (e::es) X.env=(false,eval e X.env)::starEach es X.env :=by rfl) (cL:(backTo pos (starEach es X.env)).any (·.1)=false :=by rfl):QE Γ X (.Call (.Name x p) (e::es) [] pos) (zCB z za) :=by
 obtain⟨r,h1,h2⟩:=hc;exact(HE h1 hg hm hv ha hn gd he cL).imp fun σ H Q h=>Pq h2 h
theorem iQ (hc:eA Γ X (.type T) z) (hg:Gl X x) (hm:X.mg x=none) (hv:bootBuiltins x=some (.type T)) (ha:QA Γ X (e::es) za) (hn:x ≠ "__name__" := by decide) (gd:(x==("__debug__" : bi))=false :=by decide)
  (he:starEach (e::es) X.env=(false,eval e X.env)::starEach es X.env :=by rfl) (cL:(backTo pos (starEach es X.env)).any (·.1)=false :=by rfl):QE Γ X (.Call (.Name x p) (e::es) [] pos) (zCB z za) :=by
 obtain⟨r,h1,h2⟩:=hc;exact(En h1 hg hm hv ha hn gd he cL).imp fun σ H Q h=>Pq h2 h
end
def z1 (f:Dv->Mh->ZK->Prop):vY:=fun ds M Q=>match ds with | [d]=>f d M Q|_=>False
def zLenD (d:Dv) (M:Mh) (Q:ZK):Prop:=match d with
 | .str s=>s.length<=sizeLine/\Q (.int s.length) M
 | .bK ns=>Q (.int ns.length) M
 |_=>match itemsM M d with|some ds=>Q (.int ds.length) M|none=>False
theorem dr (hK:X.K=K) (hG:K=Γ.K):eA Γ X (.builtin "len") (z1 zLenD):=⟨_,EJ hK,fun β xs ds M H Q Q' _ _ eK m rs z q=>by
 rw[<- hG]at eK;unfold z1 at z;split at z
 ·rename_i d;obtain⟨x,rfl,r⟩:=cF rs;unfold zLenD at z;split at z
  ·rename_i s;have e:=dU r;subst e;exact⟨_,_,rfl,⟨z.1,rfl⟩,q _ _ _ _ (.refl m) (.int _) z.2⟩
  ·rename_i ns;obtain⟨a,rfl,h⟩:=vX r;rw[eK]at h;exact⟨_,ns.length,rfl,.inl ⟨_,h,by simp⟩,q _ _ _ _ (.refl m) (.int _) z⟩
  ·split at z
   ·rename_i ds oN;obtain⟨a,vs,rfl,ha,cw⟩:=fB m r oN;have q':=q _ _ (.int ds.length) _ (.refl m) (.int _) z;rcases ha with ha|ha
    ·exact⟨_,ds.length,rfl,.inl ⟨vs,bL.of ha,cw.len.symm⟩,q'⟩
    ·exact⟨_,ds.length,rfl,.inr ⟨vs,c9.of ha,cw.len.symm⟩,q'⟩
   ·exact z.elim
 ·exact z.elim⟩
def z2I (f:Int->Int->Int):vY:=fun ds M Q=>match ds with | [.int i,.int j]=>Q (.int (f i j)) M|_=>False
theorem FI (hc:X.calm=true):eA Γ X (.builtin "max") (z2I fun i j=>if j > i then j else i):=⟨_,Eg hc,fun β xs ds M H Q Q' _ _ _ m rs z q=>by
 unfold z2I at z;split at z
 ·obtain⟨x,y,rfl,r,r'⟩:=jv rs;rw[aV r,aV r'];exact⟨_,_,rfl,q _ _ _ _ (.refl m) (.int _) z⟩
 ·exact z.elim⟩
theorem yE (hc:X.calm=true):eA Γ X (.builtin "min") (z2I fun i j=>if j<i then j else i):=⟨_,Eh hc,fun β xs ds M H Q Q' _ _ _ m rs z q=>by
 unfold z2I at z;split at z
 ·obtain⟨x,y,rfl,r,r'⟩:=jv rs;rw[aV r,aV r'];exact⟨_,_,rfl,q _ _ _ _ (.refl m) (.int _) z⟩
 ·exact z.elim⟩
def zAbs (d:Dv) (M:Mh) (Q:ZK):Prop:=match d with | .int i=>Q (.int (if i<0 then -i else i)) M|_=>False
theorem SR:eA Γ X (.builtin "abs") (z1 zAbs):=⟨_,HB,fun β xs ds M H Q Q' _ _ _ m rs z q=>by
 unfold z1 at z;split at z
 ·obtain⟨x,rfl,r⟩:=cF rs;unfold zAbs at z;split at z
  ·rw[aV r];exact⟨_,rfl,q _ _ _ _ (.refl m) (.int _) z⟩
  ·exact z.elim
 ·exact z.elim⟩
def zList (d:Dv) (M:Mh) (Q:ZK):Prop:=match itemsM M d with|some ds=>Q (.lst ds) M|none=>False
def zListP (d:Dv) (M:Mh) (Q:ZK):Prop:=match itemsM M d with|some ds=>∀a,M a=none->Q (.ptr a) (aw M a (.lst ds))|none=>False
theorem Py (hK:X.K=K):eA Γ X (.type "list") (z1 zList):=⟨_,oG hK,fun β xs ds M H Q Q' _ _ _ m rs z q=>by
 unfold z1 at z;split at z
 ·obtain⟨x,rfl,r⟩:=cF rs;unfold zList at z;split at z
  ·rename_i ds oN;obtain⟨a,vs,rfl,ha,cw⟩:=fB m r oN;refine⟨a,vs,rfl,ha.imp bL.of c9.of,fun l hl=>?_⟩
   have x2:=Ex.lay m hl (.lst vs);exact q _ _ _ _ x2 (ny (m.fz hl) aE (cw.ex x2)) z
  ·exact z.elim
 ·exact z.elim⟩
theorem LU (hK:X.K=K):eA Γ X (.type "list") (z1 zListP):=⟨_,oG hK,fun β xs ds M H Q Q' _ _ _ m rs z q=>by
 unfold z1 at z;split at z
 ·obtain⟨x,rfl,r⟩:=cF rs;unfold zListP at z;split at z
  ·rename_i ds oN;obtain⟨a,vs,rfl,ha,cw⟩:=fB m r oN;refine⟨a,vs,rfl,ha.imp bL.of c9.of,fun l hl=>?_⟩
   have x2:=Ex.own m (.inr hl) cw;exact q _ _ _ _ x2 (.ptr (by rw[updM_same];rfl)) (z l (m.free hl))
  ·exact z.elim
 ·exact z.elim⟩
def zTuple (d:Dv) (M:Mh) (Q:ZK):Prop:=match itemsM M d with|some ds=>Q (.tup ds) M|none=>False
theorem uM (hK:X.K=K):eA Γ X (.type "tuple") (z1 zTuple):=⟨_,uF hK,fun β xs ds M H Q Q' _ _ _ m rs z q=>by
 unfold z1 at z;split at z
 ·rename_i d;obtain⟨x,rfl,r⟩:=cF rs;unfold zTuple at z;split at z
  ·rename_i ds oN;obtain⟨a,vs,rfl,ha,cw⟩:=fB m r oN;refine⟨a,vs,rfl,?_⟩;rcases ha with ha|ha
   ·refine .inl ⟨bL.of ha,fun l hl=>?_⟩
    have x2:=Ex.lay m hl (.tup vs);exact q _ _ _ _ x2 (pJ (m.fz hl) aE (cw.ex x2)) z
   ·refine .inr ⟨c9.of ha,?_⟩;have f:Fz β M a :=by
     cases d with
     |tup es=>obtain⟨b,us,e,f,_⟩:=cE r;cases e;exact f
     |lst es=>obtain⟨b,us,e,f,_⟩:=dS r;cases e;exact f
     |ptr b=>
      obtain⟨e,hs⟩:=bF r;cases e;cases q2:M a with
      |none=>rw[q2]at hs;cases hs
      |some o=>have:=m.lx ha rfl;rw[q2]at this;cases this
     |_=>cases oN
    exact q _ _ _ _ (.refl m) (pJ f ha cw) z
  ·exact z.elim
 ·exact z.elim⟩
def fZ:List Dv->Option (List Int)
 | []=>some []
 | .int i::ds=>(fZ ds).map (i::·)
 |_::_=>none
theorem rW:∀{ds:List Dv}{ns:List Int},fZ ds=some ns->ds=ns.map Dv.int
 | [],ns,h=>by simp only[fZ,FS]at h;subst h;rfl
 |d::ds,ns,h=>by
          cases d with
          |int i=>
           simp only[fZ,lc]at h;obtain⟨ms,h,rfl⟩:=h;rw[rW h];rfl
          |_=>simp[fZ]at h
theorem gq:∀ns:List Int,fZ (ns.map Dv.int)=some ns
 | []=>rfl
 |n::ns=>by simp[fZ,gq ns]
theorem n5 {M:Mh}{H:Hp}:∀{vs:List V}{ns:List Int},aJ β M H vs (ns.map Dv.int)->vs=ns.map V.int
 | [],[],_=>rfl
 | [],_::_,r=>absurd r.len (by simp)
 |_::_,[],r=>absurd r.len (by simp)
 |v::vs,n::ns,r=>by
          rw[mo]at r;rw[mo,aV r.head,n5 r.tail]
theorem rX {M:Mh}{H:Hp}:∀{ns:List Int},aJ β M H (ns.map V.int) (ns.map Dv.int)
 | []=>.nil
 |n::ns=>.cons (.int _) rX
def intsM (M:Mh) (d:Dv):Option (List Int):=match d with | .set ns=>some ns|_=>(itemsM M d).bind fZ
def zSorted (d:Dv) (M:Mh) (Q:ZK):Prop:=match intsM M d with|some ns=>ns.length<64/\Q (.lst ((sortI ns).map .int)) M|none=>False
theorem v3 {M:Mh}{H:Hp}{x:V}{d:Dv}{ns:List Int}(m:Mz β M H) (r:Rz β M H x d) (h:(itemsM M d).bind fZ=some ns):∃a,x=.ref a/\(H a=some (.lst (ns.map V.int))\/H a=some (.tup (ns.map V.int))) :=by
 cases e:itemsM M d with
 |none=>rw[e]at h;cases h
 |some ds=>
  rw[e]at h;obtain⟨a,vs,rfl,ha,rs⟩:=fB m r e;have e2:=rW (ns:=ns) h;subst e2;have:=n5 rs;subst this;exact⟨a,rfl,ha⟩
theorem yF (hP:X.prog=Γ.P) (hw:X.w=Γ.w) (hK:X.K=K) (hc:X.calm=true):eA Γ X (.builtin "sorted") (z1 zSorted):=⟨_,wI hP hw hK hc,fun β xs ds M H Q Q' eP ew _ m rs z q=>by
 unfold z1 at z;split at z
 ·rename_i d;obtain⟨x,rfl,r⟩:=cF rs;unfold zSorted at z;split at z
  ·rename_i ns iJ;have fin:∀l,H l=none->Q (.ref l) (upd H l (.lst ((sortI ns).map V.int))):=fun l hl=>by
    have x2:=Ex.lay m hl (.lst ((sortI ns).map V.int));exact q _ _ _ _ x2 (ny (m.fz hl) aE rX) z.2
   unfold intsM at iJ;split at iJ
   ·cases iJ;obtain⟨a,rfl,f,h⟩:=Ft r;rw[eP,ew]at h;exact⟨a,_,rfl,.inl h,z.1,fin⟩
   ·obtain⟨a,rfl,ha⟩:=v3 m r iJ;exact⟨a,_,rfl,.inr (ha.imp bL.of c9.of),z.1,fin⟩
  ·exact z.elim
 ·exact z.elim⟩
def zSet (d:Dv) (M:Mh) (Q:ZK):Prop:=match (itemsM M d).bind fZ with|some ns=>ns.length+1<scanBound/\Q (.set (dP ns)) M|none=>False
theorem SU (hP:X.prog=Γ.P) (hw:X.w=Γ.w) (hK:X.K=K) (hc:X.calm=true):eA Γ X (.type "set") (z1 zSet) :=by
 refine⟨yk Γ.P Γ.w K,by rw[<- hP,<- hw];exact CH hK hc,fun β xs ds M H Q Q' eP ew _ m rs z q=>?_⟩
 unfold z1 at z;split at z
 ·rename_i d;obtain⟨x,rfl,r⟩:=cF rs;unfold zSet at z;split at z
  ·rename_i ns iJ;obtain⟨a,rfl,ha⟩:=v3 m r iJ;refine⟨a,ns,rfl,ha.imp bL.of c9.of,z.1,fun l hl=>?_⟩
   have x2:=Ex.lay m hl (gh Γ.P Γ.w l (dP ns));exact q _ _ _ _ x2 (.set (m.fz hl) (by rw[eP,ew];exact aE)) z.2
  ·exact z.elim
 ·exact z.elim
def isD (T:String) (M:Mh) (d:Dv):Option Bool:=match d with
 | .int _=>some (T == "int") | .bl _=>some (T == "int" || T == "bool") | .ax=>some false | .str _=>some (T == "str") | .tup _=>some (T == "tuple") | .lst _=>some (T == "list") | .ptr a=>(match M a with|some (.lst _)=>some (T == "list")|some .cH=>some (T == "list")|some _=>some false|none=>none)|_=>none
def uN:List String:=["int","bool","str","tuple","list"]
def zIsInst:vY:=fun ds M Q=>match ds with | [d,.raw (.ty T)]=>T∈uN/\(match isD T M d with|some b=>Q (.bl b) M|none=>False)|_=>False
theorem Pz {K:ba}{M:Mh}{H:Hp}{x:V}{d:Dv}{T:String}{b:Bool}(m:Mz β M H) (hT:T∈uN) (r:Rz β M H x d) (h:isD T M d=some b):∃t,ir K H x t/\aac K t (.type T)=some b :=by
 have rA:T = "int" \/ T = "bool" \/ T = "str" \/ T = "tuple" \/ T = "list" := by simpa[uN] using hT
 cases r with
 |int i=>cases h;exact⟨_,.int i,by rcases rA with rfl|rfl|rfl|rfl|rfl<;>rfl⟩
 |bl i=>cases h;exact⟨_,.bl i,by rcases rA with rfl|rfl|rfl|rfl|rfl<;>rfl⟩
 |ax=>cases h;exact⟨_,.ax,by rcases rA with rfl|rfl|rfl|rfl|rfl<;>rfl⟩
 |str i=>cases h;exact⟨_,.str i,by rcases rA with rfl|rfl|rfl|rfl|rfl<;>rfl⟩
 |tup f e hl q=>cases h;exact⟨_,.tup e,by rcases rA with rfl|rfl|rfl|rfl|rfl<;>rfl⟩
 |lst f e hl q=>cases h;exact⟨_,.lst e,by rcases rA with rfl|rfl|rfl|rfl|rfl<;>rfl⟩
 |ptr hs=>
  rename_i a;cases q2:M a with
  |none=>rw[q2]at hs;cases hs
  |some o=>
   simp only[isD,q2]at h;have q:=m.obj a o q2;cases o with
   |lst ds=>obtain⟨vs,e,_⟩:=q;cases h;exact⟨_,.lst e,by rcases rA with rfl|rfl|rfl|rfl|rfl<;>rfl⟩
   |cH=>obtain⟨_,_,e,_⟩:=q;cases h;exact⟨_,.lst e,by rcases rA with rfl|rfl|rfl|rfl|rfl<;>rfl⟩
   |dk ks ds=>obtain⟨vs,e,_⟩:=q;cases h;exact⟨_,.dK e,by rcases rA with rfl|rfl|rfl|rfl|rfl<;>rfl⟩
   |dt ks ds=>obtain⟨vs,e,_⟩:=q;cases h;exact⟨_,.dT e,by rcases rA with rfl|rfl|rfl|rfl|rfl<;>rfl⟩
 |set f e=>cases h
 |exc f e=>cases h
 |bK f e=>cases h
 |cY f e=>cases h
 |cZ e=>cases h
 |raw v=>cases h
 |dk f e _ _ _=>cases h
 |dt f e _ _ _=>cases h
 |b7 _ _ _ _ _ _=>cases h
theorem bo (hK:X.K=K):eA Γ X (.builtin "isinstance") zIsInst:=⟨_,xV hK,fun β xs ds M H Q Q' _ _ _ m rs z q=>by
 unfold zIsInst at z;split at z
 ·obtain⟨x,y,rfl,r,r'⟩:=jv rs;rw[Fs r'];obtain⟨hT,z⟩:=z;split at z
  ·rename_i b hb;obtain⟨t,ht,hk⟩:=Pz (K:=K) m hT r hb;exact⟨_,_,t,b,rfl,ht,hk,q _ _ _ _ (.refl m) (.bl _) z⟩
  ·exact z.elim
 ·exact z.elim⟩
abbrev oO:=Dv->List Dv->Mh->ZK->Prop
def rB (Γ:Gz) (X:Cx) (T id:String) (K:ba) (z:oO):Prop:=∃r,xB X id r/\∀(β:Bz) x xs d ds M H Q Q',β.P=Γ.P->β.w=Γ.w->β.K=Γ.K->Mz β M H->Rz β M H x d->aJ β M H xs ds->z d ds M Q'->(∀d' M' v H',Ex β M H M' H'->Rz β M' H' v d'->Q' d' M'->Q v H')->r x xs H Q
def tyZ (T:String) (M:Mh):Dv->Prop
 | .ptr a=>match M a with|some (.lst _)=>T = "list" |some .cH=>T = "list" |some (.dk _ _)=>T = "dict" |some (.dt _ _)=>T = "dict" |none=>False
 | .lst _=>T = "list"
 | .tup _=>T = "tuple"
 | .str _=>T = "str"
 |_=>False
theorem FJ {M:Mh}{H:Hp}{x:V}{d:Dv}{T:String}(m:Mz β M H) (r:Rz β M H x d) (h:tyZ T M d):JS K T x H :=by
 cases r with
 |str=>exact h
 |lst f e _ _=>exact .inl ⟨h,_,bL.of e⟩
 |tup f e _ _=>exact .inr (.inl ⟨h,.inr ⟨_,e⟩⟩)
 |ptr hs=>
  rename_i a;cases q2:M a with
  |none=>rw[q2]at hs;cases hs
  |some o=>
   simp only[tyZ,q2]at h;have q:=m.obj a o q2;cases o with
   |lst ds=>obtain⟨vs,e,_⟩:=q;exact .inl ⟨h,_,bL.of e⟩
   |cH=>obtain⟨_,_,e,_⟩:=q;exact .inl ⟨h,_,bL.of e⟩
   |dk ks ds=>obtain⟨vs,e,_⟩:=q;exact .inr (.inr (.inl ⟨h,.inl ⟨_,e⟩⟩))
   |dt ks ds=>obtain⟨vs,e,_⟩:=q;exact .inr (.inr (.inl ⟨h,.inr ⟨_,e⟩⟩))
 |_=>exact h.elim
def zBM (T:String) (z:oO) (po:aM) (pa:eY):aM:=fun ρ M Q=>po ρ M fun d M1=>tyZ T M1 d/\pa ρ M1 fun ds M2=>z d ds M2 Q
section
variable {o e:c8}{es:List c8}{po:aM}{pa:eY}{name:bi}{apos aX:u7}{T id:String}{z:oO}
theorem mM (h:X.K=K) (pat:WP T) (slot:abe T name id) (lg:typeOf (.builtin id)=pure (.type "method_descriptor")) (hm:rB Γ X T id K z) (ho:QE Γ X o po) (ha:QA Γ X (e::es) pa) (fx:attributeBase o name X.env (eval o X.env)=eval o X.env :=by rfl)
  (nM:((backTo aX (starEach (e::es) X.env)).all (fun x => !x.1) && (backToKw aX (keywordEach [] X.env)).all (fun x=>x.1.isSome)
   && decide ((e::es).length+([]:List Po).length+(if ([]:List Po).isEmpty then 0 else 1)<30))=true :=by rfl)
  (hline:(apos.endLine==aX.line)=true :=by rfl) (hs:starEach (e::es) X.env=(false,eval e X.env)::starEach es X.env :=by rfl) (iW:(backTo aX (starEach es X.env)).any (·.1)=false :=by rfl) :
  QE Γ X (.Call (.Attribute o name apos) (e::es) [] aX) (zBM T z po pa) :=by
 obtain⟨r,h1,h2⟩:=hm;exact(OD h pat slot lg h1 ho ha fx nM hline hs iW).imp fun σ H Q ⟨β,ρ,M,Q',zr,h,q⟩=>⟨β,ρ,M,_,zr,h,fun d M1 v H1 x1 r1 ⟨ht,h1⟩=>⟨FJ x1.mz r1 ht,β,ρ,M1,_,zr.step x1,h1,fun ds M2 vs H2 x2 r2 h3=>
  h2 β v vs d ds M2 H2 _ _ zr.eP zr.ew zr.eK x2.mz (r1.ex x2) r2 h3 fun d' M' v' H' x3 r3 q3=>q _ _ _ _ (x1.trans (x2.trans x3)) r3 q3⟩⟩
theorem yG (h:X.K=K) (pat:WP T) (slot:abe T name id) (lg:typeOf (.builtin id)=pure (.type "method_descriptor")) (hm:rB Γ X T id K z) (ho:QE Γ X o po) (fx:attributeBase o name X.env (eval o X.env)=eval o X.env :=by rfl) (hline:(apos.endLine==aX.line)=true :=by rfl) :
  QE Γ X (.Call (.Attribute o name apos) [] [] aX) (zBM T z po zNil) :=by
 obtain⟨r,h1,h2⟩:=hm;exact(Lp h pat slot lg h1 ho fx hline).imp fun σ H Q ⟨β,ρ,M,Q',zr,h,q⟩=>⟨β,ρ,M,_,zr,h,fun d M1 v H1 x1 r1 ⟨ht,h1⟩=>⟨FJ x1.mz r1 ht,
  h2 β v [] d [] M1 H1 _ _ zr.eP zr.ew zr.eK x1.mz r1 .nil h1 fun d' M' v' H' x3 r3 q3=>q _ _ _ _ (x1.trans x3) r3 q3⟩⟩
end
def zAppend:oO:=fun d ds M Q=>match d,ds with | .ptr a,[y]=>(match M a with|some (.lst xs)=>xs.length<sizeLine/\Q .ax (aw M a (.lst (xs++[y])))|_=>False)|_,_=>False
theorem n6:rB Γ X "list" "list.append" K zAppend:=⟨_,vB,fun β x xs d ds M H Q Q' _ _ _ m r rs z q=>by
 unfold zAppend at z;split at z
 ·rename_i a y;split at z
  ·rename_i es he;obtain⟨e,hs⟩:=bF r;obtain⟨v,e2,rv⟩:=cF rs;subst e e2;obtain⟨vs,hv,cw⟩:=m.obj a _ he;refine⟨a,vs,v,rfl,rfl,hv,by rw[cw.len];exact z.1,?_⟩
   exact q _ _ _ _ (Ex.own m (.inl hs) (cw.snoc rv)) .ax z.2
  ·exact z.elim
 ·exact z.elim⟩
def zExtend:oO:=fun d ds M Q=>match d,ds with | .ptr a,[y]=>(match M a,itemsM M y with|some (.lst xs),some ys=>(∀t,y≠.tup t)/\xs.length+ys.length<=sizeLine/\Q .ax (aw M a (.lst (xs++ys)))|_,_=>False)|_,_=>False
theorem IC:rB Γ X "list" "list.extend" K zExtend:=⟨_,Er,fun β x xs d ds M H Q Q' _ _ _ m r rs z q=>by
 unfold zExtend at z;split at z
 ·rename_i a y;split at z
  ·rename_i es ys he hy;obtain⟨e,hs⟩:=bF r;obtain⟨v,e2,rv⟩:=cF rs;subst e e2;obtain⟨vs,hv,cw⟩:=m.obj a _ he;obtain⟨b,us,rfl,hb,Uv⟩:=fB m rv hy;have fq:H b=some (.lst us) :=by
    rcases hb with hb|hb
    ·exact hb
    ·exfalso
     cases y with
     |tup t=>exact z.1 t rfl
     |lst t=>obtain⟨c,_,e,_,h,_⟩:=dS rv;cases e;rw[hb]at h;cases h
     |ptr c=>
      obtain⟨e,hs⟩:=bF rv;cases e;cases q2:M b with
      |none=>rw[q2]at hs;cases hs
      |some o=>have:=m.lx hb rfl;rw[q2]at this;cases this
     |_=>cases hy
   refine⟨a,b,vs,us,rfl,rfl,hv,fq,by rw[cw.len,Uv.len];exact z.2.1,?_⟩
   exact q _ _ _ _ (Ex.own m (.inl hs) (cw.append Uv)) .ax z.2.2
  ·exact z.elim
 ·exact z.elim⟩
def zPop:oO:=fun d ds M Q=>match d,ds with | .ptr a,[]=>(match M a with|some (.lst xs)=>(match xs[xs.length - 1]? with|some y=>Q y (aw M a (.lst xs.dropLast))|none=>False)|_=>False)|_,_=>False
theorem aJ.dropLast {M:Mh}{H:Hp}{vs:List V}{ds:List Dv}(h:aJ β M H vs ds):aJ β M H vs.dropLast ds.dropLast :=by
 rw[List.dropLast_eq_take,List.dropLast_eq_take,h.len];exact h.take _
theorem SV:rB Γ X "list" "list.pop" K zPop:=⟨_,Of,fun β x xs d ds M H Q Q' _ _ _ m r rs z q=>by
 unfold zPop at z;split at z
 ·rename_i a;split at z
  ·rename_i es he;split at z
   ·rename_i y hy;obtain⟨e,hs⟩:=bF r;have e2:xs=[]:=List.length_eq_zero_iff.mp rs.len;subst e e2;obtain⟨vs,hv,cw⟩:=m.obj a _ he;obtain⟨v,Kh,rv⟩:=cw.get hy;rw[<- cw.len]at Kh;refine⟨a,vs,v,rfl,rfl,hv,Kh,?_⟩;have x2:=Ex.own m (.inl hs) cw.dropLast;exact q _ _ _ _ x2 (rv.ex x2) z
   ·exact z.elim
  ·exact z.elim
 ·exact z.elim⟩
def zPopAt:oO:=fun d ds M Q=>match d,ds with | .ptr a,[.int i]=>(match M a with|some (.lst xs) => -(2 ^ 63)<=i/\i<2 ^ 63/\(match seqIndex? i xs.length with|some k=>(match xs[k]? with|some y=>Q y (aw M a (.lst (xs.eraseIdx k)))|none=>False)|none=>False)|_=>False)|_,_=>False
theorem aJ.eraseIdx {M:Mh}{H:Hp}{vs:List V}{ds:List Dv}(h:aJ β M H vs ds) (k:Nat):aJ β M H (vs.eraseIdx k) (ds.eraseIdx k) :=by
 rw[List.eraseIdx_eq_take_drop_succ,List.eraseIdx_eq_take_drop_succ];exact(h.take _).append (h.drop _)
theorem Bo:rB Γ X "list" "list.pop" K zPopAt:=⟨_,HG,fun β x xs d ds M H Q Q' _ _ _ m r rs z q=>by
 unfold zPopAt at z;split at z
 ·rename_i a i;split at z
  ·rename_i es he;obtain⟨b1,b2,z⟩:=z;split at z
   ·rename_i k hk;split at z
    ·rename_i y hy;obtain⟨e,hs⟩:=bF r;obtain⟨v0,e2,Xp⟩:=cF rs;subst e e2;rw[aV Xp];obtain⟨vs,hv,cw⟩:=m.obj a _ he;obtain⟨v,Kh,rv⟩:=cw.get hy;refine⟨a,vs,i,k,v,rfl,rfl,hv,b1,b2,by rw[cw.len];exact hk,Kh,?_⟩
     have x2:=Ex.own m (.inl hs) (cw.eraseIdx k);exact q _ _ _ _ x2 (rv.ex x2) z
    ·exact z.elim
   ·exact z.elim
  ·exact z.elim
 ·exact z.elim⟩
def zSetI:Dv->Dv->Dv->Mh->(Mh->Prop)->Prop:=fun o i v M N=>match o,i with | .ptr a,.int k=>(match M a with|some (.lst xs)=>(match jU xs.length k with|some j=>N (aw M a (.lst (xs.set j v)))|none=>False)|_=>False)|_,_=>False
def zgSub (po pi:aM):bS:=fun d ρ M N=>po ρ M fun o M1=>pi ρ M1 fun i M2=>zSetI o i d M2 fun M3=>N ρ M3
theorem nF {o i:c8}{po pi:aM}{pos:u7}(ho:QE Γ X o po) (hi:QE Γ X i pi)
  (ha:∀v,assign (.Subscript o i pos) X.env v=(do
   let ov <- holding [v] (eval o X.env)
   let iv <- holding [v,ov] (eval i X.env)
   standAt pos
   holding [v,ov,iv] (setItem ov iv v)
   release [v,ov,iv] []) :=by intro _;rfl):QG Γ X (.Subscript o i pos) (zgSub po pi):=
 (NA ho hi set_list ha).imp fun v σ H N ⟨β,d,ρ,M,N',zr,r,h,q⟩=>⟨β,ρ,M,_,zr,h,fun od M1 ov H1 x1 r1 h1=>⟨β,ρ,M1,_,zr.step x1,h1,fun Y7 M2 iv H2 x2 r2 h2=>by
  unfold zSetI at h2;split at h2
  ·rename_i a k;split at h2
   ·rename_i es he;split at h2
    ·rename_i j hj;obtain⟨e,hs⟩:=bF (r1.ex x2);subst e;rw[aV r2];obtain⟨vs,hv,cw⟩:=x2.mz.obj a _ he;have x3:=Ex.own x2.mz (.inl hs) (cw.set j ((r.ex x1).ex x2));exact⟨a,vs,k,j,rfl,rfl,hv,by rw[cw.len];exact hj,q _ _ _ _ (x1.trans (x2.trans x3)) (((zr.step x1).step x2).step x3) h2⟩
    ·exact h2.elim
   ·exact h2.elim
  ·exact h2.elim⟩⟩
end
end L2
namespace L2
open PySem PySem.Spec PySem.W PyProof.Rows
abbrev ZX:=ag->Mh->Prop
abbrev bP:=List Dv->Mh->ZK->ZX->Prop
def aU (P:ff) (w:im) (K:ba) (tb:cf) (S:bP):Sp:=fun vs H Q E=>∃(β:Bz) (ds:List Dv) (M:Mh) (Q':ZK) (E':ZX),β.P=P/\β.w=w/\β.K=K/\β.tb=tb/\Mz β M H/\aJ β M H vs ds/\S ds M Q' E' /\
 (∀d M' v H',Ex β M H M' H'->Rz β M' H' v d->Q' d M'->Q v H')/\∀C M' H',Ex β M H M' H'->E' C M'->E (.ref C) none H'
theorem Rz.n8 {β:Bz}{M0 M:Mh}{H:Hp}(dom:∀a,(M0 a).isSome=true->(M a).isSome=true) {v:V}{d:Dv}(h:Rz β M H v d):Pin M0 d->Rz β M0 H v d :=by
 have ne:∀a,Fz β M a->Fz β M0 a:=fun a m=>⟨(by
  cases e:M0 a with
  |none=>rfl
  |some o=>have:=dom a (by rw[e];rfl);rw[m.1]at this;cases this),m.2⟩
 induction h with
 |int i=>exact fun _=>.int i
 |bl b=>exact fun _=>.bl b
 |ax=>exact fun _=>.ax
 |str z=>exact fun _=>.str z
 |tup m e hl h ih=>
  intro p;cases p with
  |tup p=>exact .tup (ne _ m) e hl fun i v d a b=>ih i v d a b (p d (cr b))
 |lst m e hl h ih=>
  intro p;cases p with
  |lst p=>exact .lst (ne _ m) e hl fun i v d a b=>ih i v d a b (p d (cr b))
 |set m e=>exact fun _=>.set (ne _ m) e
 |ptr m=>intro p;cases p with|ptr p=>exact .ptr p
 |exc m e=>exact fun _=>.exc (ne _ m) e
 |bK m e=>exact fun _=>.bK (ne _ m) e
 |cY m e=>exact fun _=>.cY (ne _ m) e
 |cZ e=>exact fun _=>.cZ e
 |dk m e hk hl h ih=>
  intro p;cases p with
  |dk p=>exact .dk (ne _ m) e hk hl fun i v d a b=>ih i v d a b (p d (cr b))
 |dt m e hk hl h ih=>
  intro p;cases p with
  |dt p=>exact .dt (ne _ m) e hk hl fun i v d a b=>ih i v d a b (p d (cr b))
 |b7 m e m2 e2 hl h ih=>
  intro p;cases p with
  |b7 p=>exact .b7 (ne _ m) e (ne _ m2) e2 hl fun i v d a b=>ih i v d a b (p d (cr b))
 |raw v=>exact fun _=>.raw v
inductive oP (M0 M:Mh):Dv->Dv->Prop where
 |pin {d:Dv} (h:Pin M0 d):oP M0 M d d
 |ptr {a:ag} {ds iN:List Dv} (h0:M0 a=none) (h:M a=some (.lst ds)) (hl:ds.length=iN.length) (r:∀(i:Nat) (d d':Dv),ds[i]?=some d->iN[i]?=some d'->oP M0 M d d'):oP M0 M (.ptr a) (.lst iN)
 |tup {ds iN:List Dv} (hl:ds.length=iN.length) (r:∀(i:Nat) (d d':Dv),ds[i]?=some d->iN[i]?=some d'->oP M0 M d d'):oP M0 M (.tup ds) (.tup iN)
 |dk {a:ag} {ks:List Key} {ds iN:List Dv} (h0:M0 a=none) (h:M a=some (.dk ks ds)) (hl:ds.length=iN.length) (r:∀(i:Nat) (d d':Dv),ds[i]?=some d->iN[i]?=some d'->oP M0 M d d'):oP M0 M (.ptr a) (.dk ks iN)
 |dt {a:ag} {ks:List (List Key)} {ds iN:List Dv} (h0:M0 a=none) (h:M a=some (.dt ks ds)) (hl:ds.length=iN.length) (r:∀(i:Nat) (d d':Dv),ds[i]?=some d->iN[i]?=some d'->oP M0 M d d'):oP M0 M (.ptr a) (.dt ks iN)
theorem oP.rz {β:Bz}{M0 M:Mh}{H:Hp}(mz:Mz β M H) (dom:∀a,(M0 a).isSome=true->(M a).isSome=true) {d d':Dv}(h:oP M0 M d d'):∀{v:V},Rz β M H v d->Rz β M0 H v d':=by
 induction h with
 |pin h=>exact fun r=>r.n8 dom h
 |ptr h0 h hl r ih=>
  intro v r;obtain⟨rfl,_⟩:=bF r;obtain⟨vs,hv,rs⟩:=mz.obj _ _ h;refine .lst ⟨h0,mz.apart _ _ h⟩ hv (rs.len.trans hl) fun i v d a b=>?_
  obtain⟨d0,q,rd⟩:=rs.get' a;exact ih i d0 d q b rd
 |dk h0 h hl r ih=>
  intro v r;obtain⟨rfl,_⟩:=bF r;obtain⟨vs,hv,hk,rs⟩:=mz.obj _ _ h;refine .dk ⟨h0,mz.apart _ _ h⟩ (.inl hv) hk (rs.len.trans hl) fun i v d a b=>?_
  obtain⟨d0,q,rd⟩:=rs.get' a;exact ih i d0 d q b rd
 |dt h0 h hl r ih=>
  intro v r;obtain⟨rfl,_⟩:=bF r;obtain⟨vs,hv,hk,rs⟩:=mz.obj _ _ h;refine .dt ⟨h0,mz.apart _ _ h⟩ (.inl hv) hk (rs.len.trans hl) fun i v d a b=>?_
  obtain⟨d0,q,rd⟩:=rs.get' a;exact ih i d0 d q b rd
 |tup hl r ih=>
  intro v r;obtain⟨a,vs,rfl,f,hv,rs⟩:=cE r;refine .tup ⟨?_,f.2⟩ hv (rs.len.trans hl) fun i v d a b=>?_
  ·cases e:M0 a with
   |none=>rfl
   |some o=>have:=dom a (by rw[e];rfl);rw[f.1]at this;cases this
  ·obtain⟨d0,q,rd⟩:=rs.get' a;exact ih i d0 d q b rd
def jw (M0:Mh) (Q:ZK):ZK:=fun d M=>Q d M\/((∀a o,M0 a=some o->M a=some o)/\∃d',oP M0 M d d'/\Q d' M0)
theorem qJ {β:Bz}{M0 M:Mh}{H0 H:Hp}{Q':ZK}{Q:VK}(m0:Mz β M0 H0) (q:∀d M' v H',Ex β M0 H0 M' H'->Rz β M' H' v d->Q' d M'->Q v H') {d:Dv}{v:V}(x:Ex β M0 H0 M H) (r:Rz β M H v d) (h:jw M0 Q' d M):Q v H :=by
 rcases h with h|⟨same,d',rv,h⟩
 ·exact q _ _ _ _ x r h
 ·refine q d' M0 v H ⟨⟨x.keep,fun _ h=>h,fun _ _ h _=>h⟩,fun a o e=>?_,x.mz.tabs,x.mz.hids,m0.apart,x.mz.lams⟩ (rv.rz x.mz x.dom r) h
  have z:=x.mz.obj a o (same a o e);have z0:=m0.obj a o e;cases o with
  |lst ds=>
   obtain⟨vs,z,rs⟩:=z;obtain⟨Uw,_,FK⟩:=z0;refine⟨vs,z,rs.len,fun i v d a b=>(rs.at' i v d a b).n8 x.dom ?_⟩
   obtain⟨v0,_,r0⟩:=FK.get b;exact r0.pin
  |dk ks ds=>
   obtain⟨vs,z,hk,rs⟩:=z;obtain⟨Uw,_,_,FK⟩:=z0;refine⟨vs,z,hk,rs.len,fun i v d a b=>(rs.at' i v d a b).n8 x.dom ?_⟩
   obtain⟨v0,_,r0⟩:=FK.get b;exact r0.pin
  |dt ks ds=>
   obtain⟨vs,z,hk,rs⟩:=z;obtain⟨Uw,_,_,FK⟩:=z0;refine⟨vs,z,hk,rs.len,fun i v d a b=>(rs.at' i v d a b).n8 x.dom ?_⟩
   obtain⟨v0,_,r0⟩:=FK.get b;exact r0.pin
  |cH=>exact z
def zstart (N:List bi) (ds:List Dv):aC:=ds.map some++DD (N.length - ds.length) none
theorem rY {Γ:Gz}{N:List bi}{vs:List V}{ds:List Dv}(m:Mz Γ.toBz Γ.M0 Γ.H0) (rs:aJ Γ.toBz Γ.M0 Γ.H0 vs ds):Zr Γ Γ.toBz Γ.M0 (zstart N ds) (start N vs) Γ.H0:=⟨rfl,rfl,rfl,rfl,fun _ h=>h,m.wf,.refl,m,by simp[zstart,start,rs.len],fun i d e=>by
 unfold zstart at e;unfold start;rw[Z3]at e ⊢;rw[bv]at e ⊢;rw[rs.len];split at e
 ·rename_i hi;rw[if_pos hi];rw[ce,lc]at e;obtain⟨d2,e,e2⟩:=e;cases e2;obtain⟨v,hv,r⟩:=rs.get e;exact⟨v,by rw[ce,hv];rfl,r⟩
 ·rw[Na]at e;split at e<;>cases e⟩
def zEndsOf (M0:Mh) (Q:ZK):ja:={nx:=fun _ M=>jw M0 Q .ax M,rt:=jw M0 Q}
def XR (Γ:Gz) (E':ZX) (E:XK):Prop:=∀C M' H',Ex Γ.toBz Γ.M0 Γ.H0 M' H'->E' C M'->E (.ref C) none H'
section
variable {P:ff}{w:im}{K:ba}{mg:bi->Option al}{base:hX}{tb:cf}{x:bi}{st:sw}{f:ag}{fd:ln}{N ps:List bi}{k:Nat}{S:bP}
theorem uO (len:∀ds M Q E,S ds M Q E->ds.length=ps.length):∀vs H Q E,aU P w K tb S vs H Q E->vs.length=ps.length:=fun vs H Q E hS=>by
 obtain⟨β,ds,M,Q',E',_,_,_,_,m,rs,s,_⟩:=hS;exact rs.len.trans (len _ _ _ _ s)
theorem dM (D:Df K mg x st ps f fd) (sc:aS N ps (ai st)) (len:∀ds M Q E,S ds M Q E->ds.length=ps.length)
  (body:∀(A:l5) (outer:List IN) (s:ar) (E:XK) (Γ:Gz) (ds:List Dv) (Q':ZK) (E':ZX),P=Γ.P->w=Γ.w->K=Γ.K->tb=Γ.tb->ck k (A.deeper (envOfC x (ai st) s.heap.objs.size f fd.code))->S ds Γ.M0 Q' E'->
   ∃p,oJ Γ (gU bh P w K mg base N x (ai st) f fd.code A outer s Γ.H0 E).oX (bQ st) p/\p (zEndsOf Γ.M0 Q') (zstart N ds) Γ.M0):FnOk P w K mg base bh (k+1) f fd ps (aU P w K tb S) :=by
 refine D.fn.WT sc (uO len) fun A outer s H vs Q E hr h=>?_
 obtain⟨β,ds,M,Q',E',eP,ew,eK,et,m,rs,hS,q,_⟩:=h;obtain⟨p,hp,hq⟩:=body A outer s E ⟨β,M,H⟩ ds Q' E' eP.symm ew.symm eK.symm et.symm hr hS;refine⟨_,hp,β,zstart N ds,M,zEndsOf M Q',rY (Γ:=⟨β,M,H⟩) m rs,hq,?_⟩;have fin:∀d M' v H',Ex β M H M' H'->Rz β M' H' v d->jw M Q' d M'->Q v H':=fun d M' v H' x r h=>qJ m q x r h
 exact⟨fun b8 M' aQ H' x zr h=>fin _ _ _ _ ⟨zr.ent,x.mz⟩ .ax h,fun d M' v H' x e r h=>fin _ _ _ _ ⟨e,x.mz⟩ r h,fun _ _ _ _ _ _ h=>h,fun _ _ _ _ _ _ h=>h⟩
theorem xa (D:Df K mg x st ps f fd) (sc:aS N ps (ai st)) (len:∀ds M Q E,S ds M Q E->ds.length=ps.length)
  (body:∀(A:l5) (outer:List IN) (s:ar) (E:XK) (Γ:Gz) (ds:List Dv) (Q':ZK) (E':ZX),P=Γ.P->w=Γ.w->K=Γ.K->tb=Γ.tb->XR Γ E' E->ck k (A.deeper (envOfC x (ai st) s.heap.objs.size f fd.code))->S ds Γ.M0 Q' E'->
   ∃p,oJ Γ (gU (eX P w) P w K mg base N x (ai st) f fd.code A outer s Γ.H0 E) (bQ st) p/\p (zEndsOf Γ.M0 Q') (zstart N ds) Γ.M0):FnOk P w K mg base (eX P w) (k+1) f fd ps (aU P w K tb S) :=by
 refine D.fn.EG sc (uO len) fun A outer s H vs Q E hr h=>?_
 obtain⟨β,ds,M,Q',E',eP,ew,eK,et,m,rs,hS,q,qx⟩:=h;obtain⟨p,hp,hq⟩:=body A outer s E ⟨β,M,H⟩ ds Q' E' eP.symm ew.symm eK.symm et.symm qx hr hS;refine⟨_,hp,β,zstart N ds,M,zEndsOf M Q',rY (Γ:=⟨β,M,H⟩) m rs,hq,?_⟩;have fin:∀d M' v H',Ex β M H M' H'->Rz β M' H' v d->jw M Q' d M'->Q v H':=fun d M' v H' x r h=>qJ m q x r h
 exact⟨fun b8 M' aQ H' x zr h=>fin _ _ _ _ ⟨zr.ent,x.mz⟩ .ax h,fun d M' v H' x e r h=>fin _ _ _ _ ⟨e,x.mz⟩ r h,fun _ _ _ _ _ _ h=>h,fun _ _ _ _ _ _ h=>h⟩
end
section
variable {X:Cx}{Γ:Gz}{β:Bz}{K:ba}
def zCall (S:bP) (E':ZX) (za:eY):aM:=fun ρ M Q=>za ρ M fun ds M1=>S ds M1 Q E'
theorem XR.none:XR Γ (fun _ _=>False) (fun _ _ _=>False):=fun _ _ _ _ h=>h
theorem tQ {M M1 M2:Mh}{H H1 H2:Hp}(ent:Ey M H M1 H1) (sub:∀a,a∈Γ.hid->a∈β.hid) (eP:β.P=Γ.P) (ew:β.w=Γ.w) (eK:β.K=Γ.K) (et:β.tb=Γ.tb) (x:Ex β M1 H1 M2 H2):Ex Γ.toBz M H M2 H2:=⟨ent.trans x.toEy,x.mz.sub eP.symm ew.symm eK.symm et.symm sub⟩
section
variable {CX:iI}{k:Nat}{f:ag}{fd:ln}{ps:List bi}{S:bP}{E:XK}{E':ZX}{x:bi}{p pos:u7}{e:c8}{es:List c8}{za:eY}{P:ff}{w:im}{tb:cf}
theorem PD (hP:P=Γ.P) (hw:w=Γ.w) (hK:K=Γ.K) (ht:tb=Γ.tb) (hE:XR Γ E' E) {σ:St}{H:Hp}{Q:VK}(h:lE Γ (zCall S E' za) σ H Q):JR (aU P w K tb S) [] E (lA Γ za) σ H Q :=by
 subst hP hw hK ht;obtain⟨β,ρ,M,Q',zr,h,q⟩:=h;refine⟨β,ρ,M,_,zr,h,fun ds M1 vs H1 x1 r1 h1=>?_⟩
 show aU Γ.P Γ.w Γ.K Γ.tb S (vs++[]) H1 Q E;rw[EQ];exact⟨β,ds,M1,Q',E',zr.eP,zr.ew,zr.eK,zr.et,x1.mz,r1,h1,fun d M2 v H2 x2 r2 h2=>q _ _ _ _ (x1.trans x2) r2 h2,fun C M2 H2 x2 h2=>hE C M2 H2 (tQ zr.ent zr.sub zr.eP zr.ew zr.eK zr.et (x1.trans x2)) h2⟩
theorem aG (F:FnOk X.prog X.w X.K X.mg X.base CX k f fd ps (aU P w K tb S)) (hr:ck k X.A) (hg:Gl X x) (hm:X.mg x=some (.ref f)) (hk:Do X.K (.ref f)=true) (hb:Binds X.K fd ps []) (hx:Passes CX X E) (hP:P=Γ.P) (hw:w=Γ.w) (hK:K=Γ.K) (ht:tb=Γ.tb) (hE:XR Γ E' E)
  (ha:QA Γ X (e::es) za) (gd:(x==("__debug__" : bi))=false :=by decide) (he:starEach (e::es) X.env=(false,eval e X.env)::starEach es X.env :=by rfl) (cL:(backTo pos (starEach es X.env)).any (·.1)=false :=by rfl) :
  QE Γ X (.Call (.Name x p) (e::es) [] pos) (zCall S E' za):=(Lf F hr hg hm hk hb .nil hx ha gd he cL).imp fun σ H Q h=>PD hP hw hK ht hE h
end
def zRaise (C:ag) (E':ZX) (za:eY):cN:=fun _ ρ M=>za ρ M fun ds M1=>ds.length<=sizeLine/\E' C M1
theorem yH {x:bi}{C:ag}{m4:c8}{rest:List c8}{za:eY}{vR:List al}{B newId yo:String}{E:XK}{E':ZX}{np aX pos:u7}(O:aaz X.K C vR newId=true) (FB:ExcBaseFacts B newId yo vR) (hc:X.calm=true) (hR:Raises X E) (hE:XR Γ E' E) (hg:Gl X x) (hm:X.mg x=some (.ref C)) (ha:QA Γ X (m4::rest) za)
  (gd:(x==("__debug__" : bi))=false :=by decide) (he:starEach (m4::rest) X.env=(false,eval m4 X.env)::starEach rest X.env :=by rfl) (cL:(backTo aX (starEach rest X.env)).any (·.1)=false :=by rfl) :
  QS Γ X (.Raise (some (.Call (.Name x np) (m4::rest) [] aX)) none pos) (zRaise C E' za):=(Ie O FB hc hR hg hm ha gd he cL).imp fun D σ H ⟨β,ρ,M,D',zr,h,r⟩=>⟨β,ρ,M,_,zr,h,fun ds M1 vs H1 x1 r1 h1=>
 ⟨by rw[r1.len];exact h1.1,hE C M1 H1 (tQ zr.ent zr.sub zr.eP zr.ew zr.eK zr.et x1) h1.2⟩⟩
section
variable {tg elt iter:c8}{ifs:List c8}{scope:sB}{pos:u7}{N':List bi}{tn:Nat}{idx:List Nat}{zi:dz}{g:bS}{tt:cg}{te:aM}{c P:ag}{k:Nat}
theorem cz (hc:X.calm=true) (B:aD X.N X.env.scope scope N' tn idx) (hi:QI Γ X tg iter zi)
  (hg:Blk X N' scope fun Y=>QG Γ Y tg g) (ht:Blk X N' scope fun Y=>nE Γ Y ifs tt) (he:Blk X N' scope fun Y=>QE Γ Y elt te)
  (hs:∀x,foldedSetIterable iter X.env x=pure x :=by intro _;rfl):QE Γ X (.ListComp elt [⟨tg,iter,ifs,0⟩] scope pos) (zComp tn idx zi g tt te):=(rg hc B hi hg ht he hs).imp fun σ H Q h=>FC h
theorem jc (hc:X.calm=true) (B:aD X.N X.env.scope scope N' tn idx) (hi:QI Γ X tg iter zi)
  (hg:Blk X N' scope fun Y=>QG Γ Y tg g) (ht:Blk X N' scope fun Y=>nE Γ Y ifs tt) (he:Blk X N' scope fun Y=>QE Γ Y elt te)
  (hs:∀x,foldedSetIterable iter X.env x=pure x :=by intro _;rfl):QE Γ X (.ListComp elt [⟨tg,iter,ifs,0⟩] scope pos) (zCompP tn idx zi g tt te):=(rg hc B hi hg ht he hs).imp fun σ H Q h=>uL h
theorem tR {i:Nat}{y:bi}{py eW:u7}(hN:X.N.Nodup) (cy:X.N[i]?=some y) (hy:X.env.scope.names.lookup y=some .local) (hc:X.calm=true) (B:aD X.N X.env.scope scope N' tn idx) (hi:QI Γ X tg iter zi)
  (hg:Blk X N' scope fun Y=>QG Γ Y tg g) (ht:Blk X N' scope fun Y=>nE Γ Y ifs tt) (he:Blk X N' scope fun Y=>QE Γ Y elt te)
  (nj:swapsWith (.ListComp elt [⟨tg,iter,ifs,0⟩] scope pos) (some (.Name y py)) eW.line X.env=pure true :=by rfl)
  (hs:∀x,foldedSetIterable iter X.env x=pure x :=by intro _;rfl):QS Γ X (.Assign [.Name y py] (.ListComp elt [⟨tg,iter,ifs,0⟩] scope pos) eW) (zAsg (zComp tn idx zi g tt te) (zgName i)):=(sZ hN cy hy hc B hi hg ht he nj hs).imp fun D σ H h=>tM (fun _ _ _ h=>FC h) h
theorem Ap {i:Nat}{y:bi}{py eW:u7}(hN:X.N.Nodup) (cy:X.N[i]?=some y) (hy:X.env.scope.names.lookup y=some .local) (hc:X.calm=true) (B:aD X.N X.env.scope scope N' tn idx) (hi:QI Γ X tg iter zi)
  (hg:Blk X N' scope fun Y=>QG Γ Y tg g) (ht:Blk X N' scope fun Y=>nE Γ Y ifs tt) (he:Blk X N' scope fun Y=>QE Γ Y elt te)
  (nj:swapsWith (.ListComp elt [⟨tg,iter,ifs,0⟩] scope pos) (some (.Name y py)) eW.line X.env=pure true :=by rfl)
  (hs:∀x,foldedSetIterable iter X.env x=pure x :=by intro _;rfl):QS Γ X (.Assign [.Name y py] (.ListComp elt [⟨tg,iter,ifs,0⟩] scope pos) eW) (zAsg (zCompP tn idx zi g tt te) (zgName i)):=(sZ hN cy hy hc B hi hg ht he nj hs).imp fun D σ H h=>tM (fun _ _ _ h=>uL h) h
theorem yI {p xR:u7}(hP:P∈Γ.tb) (hr:ck (k+1) X.A) (hc:X.calm=true) (B:aD X.N X.env.scope scope N' tn idx)
  (h0:scope.names.lookup (".0" : bi)=some .local) (vI:scope.isCoroutine=false) (ik:X.env.code=.ref c) (hd:u8 X.base c P) (fW:∃bm ob,ZY X.base mainGlobals X.mg bm ob)
  (vJ:Gl X "all") (hm:X.mg "all" = none) (hi:QI Γ X tg iter zi) (hg:rP X N' scope k fun Y=>QG Γ Y tg g) (ht:rP X N' scope k fun Y=>nE Γ Y ifs tt) (he:rP X N' scope k fun Y=>QE Γ Y elt te)
  (hs:∀x,genFold iter X.env x=pure x :=by intro _;rfl):QE Γ X (.Call (.Name "all" p) [fy elt tg iter ifs scope xR] [] pos) (zAll tn idx zi g tt te):=(Oy hr hc B h0 vI ik hd fW vJ hm hi hg ht he hs).imp fun σ H Q h=>SM hP h
end
end
section
variable {X:Cx}{Γ:Gz}{β:Bz}{K:ba}
section
variable {tg elt iter:c8}{ifs:List c8}{scope:sB}{pos:u7}{N':List bi}{tn:Nat}{idx:List Nat}{zi:dz}{g:bS}{tt:cg}{te:aM}{c P:ag}{k:Nat}
def oe (g:bS) (tt:cg) (te:aM):List Dv->aC->Mh->(List Int->Mh->Prop)->List Int->Prop
 | [],_,M,Q,acc=>Q acc M
 |d::ds,τ,M,Q,acc=>g d τ M fun az M2=>tt az M2 fun b M3=>if b=true then te az M3 fun y M4=>(match y with | .int k=>acc.length+1<scanBound/\oe g tt te ds az M4 Q (dh acc k)|_=>False) else oe g tt te ds az M3 Q acc
def zSetC (tn:Nat) (idx:List Nat) (zi:dz) (g:bS) (tt:cg) (te:aM):aM:=fun ρ M Q=>zi ρ M fun ds M1=>oe g tt te ds (zBlock tn idx ρ) M1 (fun ns M2=>Q (.set ns) M2) []
theorem PF (hP:X.prog=Γ.P) (hw:X.w=Γ.w) {σ:St}{H:Hp}{Q:VK}(h:lE Γ (zSetC tn idx zi g tt te) σ H Q):E3 X tn idx (lI Γ zi) (lG Γ g) (lT Γ tt) (lE Γ te) σ H Q :=by
 obtain⟨β,ρ,M,Q',zr,h,q⟩:=h;refine⟨β,ρ,M,_,zr,h,fun ds M1 H1 J x1 it h1 D hD=>?_⟩
 have gQ:=zr.step x1;have Xq:=gQ.block tn idx;have Xr:Γ.H0 D=none:=gQ.ent.gone hD (by
  cases e:Γ.M0 D with
  |none=>rfl
  |some u=>have:=gQ.ent.dom D (by rw[e];rfl);rw[x1.mz.free hD]at this;cases this)
 have PH:=x1.mz.CP hD;have rS:D∈(β.add D).hid:=i8;refine⟨fun i m τ H'=>m=ds.length - i/\i<=ds.length/\∃aT M' acc,Ey M1 H1 M' H'/\M' D=none/\Zr Γ (β.add D) M' aT τ H'/\H' D=some (gh X.prog X.w D acc)/\oe g tt te (ds.drop i) aT M' (fun ns M2=>Q' (.set ns) M2) acc,
  ⟨_,rfl,mf _,_,M1,[],Ey.refl.over hD,x1.mz.free hD,Xq.enter hD rfl,aE,h1⟩,?_⟩
 rintro i m τ H' ⟨rfl,hi,aT,M',acc,ey,hm,gp,at',h'⟩;have qq:=it (β.add D) M' H' (.add hD) ey gp.mz i;by_cases aN:i<ds.length
 ·refine .inr ⟨(qq.1 aN).1,fun x iP y=>?_⟩
  obtain⟨x2,d,hd,rd⟩:=(qq.1 aN).2 x iP y;have e:ds.drop i=d::ds.drop (i+1) :=by
   rw[AT aN];rw[ap aN]at hd;cases hd;rfl
  rw[e]at h';refine⟨β.add D,d,aT,M',_,gp.step x2,rd,h',fun dQ M3 lD H3 x3 z3 h3=>⟨β.add D,dQ,M3,_,z3,h3,fun b M4 H4 x4 h4=>?_⟩⟩
  have oM:=x2.trans (x3.trans x4);cases b with
  |false=>
   dsimp only at h4 ⊢;rw[if_neg i0]at h4 ⊢;exact⟨ds.length - (i+1),by omega,rfl,aN,dQ,M4,acc,ey.trans oM.toEy,oM.new D _ hm at',z3.step x4,oM.get hm at' rfl,h4⟩
  |true=>
   dsimp only at h4 ⊢;rw[if_pos rfl]at h4 ⊢;refine⟨β.add D,dQ,M4,_,z3.step x4,h4,fun yd M5 yv H5 x5 r5 h5=>?_⟩
   have PJ:=oM.trans x5;cases yd with
   |int k=>
    have h6:acc.length+1<scanBound/\oe g tt te (ds.drop (i+1)) dQ M5 (fun ns M2=>Q' (.set ns) M2) (dh acc k):=h5
    have Ux:=PJ.new D _ hm at';exact⟨k,acc,ds.length - (i+1),aV r5,PJ.get hm at' rfl,h6.1,by omega,rfl,aN,dQ,M5,dh acc k,(ey.trans PJ.toEy).over hD,Ux,((z3.step x4).step x5).over rS rfl Ux PH Xr,aE,h6.2⟩
   |_=>exact Go h5
 ·have e:i=ds.length :=by omega
  subst e;rw[No]at h';have mz:Mz β M' H':=Mz.sub (β:=β.add D) (dq:=β) rfl rfl rfl rfl (fun a h=>en _ h) gp.mz
  refine .inl ⟨qq.2 (cb _),q _ _ _ _ (x1.trans ⟨ey,mz⟩) (.set ⟨hm,(x1.mz.fz hD).2⟩ ?_) h'⟩;rw[zr.eP,zr.ew,<- hP,<- hw];exact at'
theorem CV (hP:X.prog=Γ.P) (hw:X.w=Γ.w) (hc:X.calm=true) (B:aD X.N X.env.scope scope N' tn idx) (hi:QI Γ X tg iter zi)
  (hg:Blk X N' scope fun Y=>QG Γ Y tg g) (ht:Blk X N' scope fun Y=>nE Γ Y ifs tt) (he:Blk X N' scope fun Y=>QE Γ Y elt te)
  (hs:∀x,foldedSetIterable iter X.env x=pure x :=by intro _;rfl):QE Γ X (.SetComp elt [⟨tg,iter,ifs,0⟩] scope pos) (zSetC tn idx zi g tt te):=(CG hc B hi hg ht he hs).imp fun σ H Q h=>PF hP hw h
end
def cj (xs ys:List Dv):List Dv:=(xs.zip ys).map fun p=>.tup [p.1,p.2]
def lF (n:Nat):List Dv:=(ii n).map fun i=>.int (i:Nat)
theorem pQ {J:It}{vs us:List V}{ds es:List Dv}{M:Mh}{H:Hp}(r:aJ β M H vs ds) (r2:aJ β M H us es) (h:∀M' H',Ey M H M' H'->CM J (vs.zip us) H'):Fu β J (cj ds es) M H:=fun dq M' H' bx x m i=>by
 have q:=h M' H' x i;have hl:(cj ds es).length=(vs.zip us).length :=by simp[cj,r.len,r2.len]
 rw[hl];refine⟨fun hi=>⟨(q.1 hi).1,fun v iP y=>?_⟩,q.2⟩
 obtain⟨t,p,ht,rfl,hp,rfl⟩:=(q.1 hi).2 v iP y;rw[zw]at hp;obtain⟨d,hd,rd⟩:=r.get' hp.1;obtain⟨e,he,re⟩:=r2.get' hp.2;have x2:=Ex.lay m ht (.tup [p.1,p.2]);refine⟨x2,.tup [d,e],?_,pJ (m.fz ht) aE (.cons (((rd.bx bx).ey x).ex x2) (.cons (((re.bx bx).ey x).ex x2) .nil))⟩;unfold cj;rw[ce,lc];exact⟨(d,e),by rw[zw];exact⟨hd,he⟩,rfl⟩
theorem enum_zip (vs:List V):((ii vs.length).map fun i=>(V.int (i:Nat),vs.getD i .ax))=((ii vs.length).map fun i=>V.int (i:Nat)).zip vs :=by
 refine aaI fun i=>?_
 by_cases hi:i<vs.length
 ·rw[ce,Gc hi];symm
  show _=some (V.int (i:Nat),vs.getD i .ax);rw[zw,ce,Gc hi,ci,ap hi];exact⟨rfl,rfl⟩
 ·rw[List.getElem?_eq_none_iff.mpr (by simp;omega),List.getElem?_eq_none_iff.mpr (by simp;omega)]
theorem uP {n:Nat}{M:Mh}{H:Hp}:aJ β M H ((ii n).map fun i=>V.int (i:Nat)) (lF n):=⟨by simp[lF],fun i v d a b=>by
 unfold lF at b;rw[ce]at a b;cases e:(ii n)[i]? with
 |none=>rw[e]at a;cases a
 |some c=>rw[e]at a b;cases a;cases b;exact .int _⟩
theorem Sq.PK {H:Hp}{a:ag}{xs:List V}(h:H a=some (.lst xs)):Sq true K H a xs :=by
 unfold Sq;exact bL.of h
theorem Sq.ofT {H:Hp}{a:ag}{xs:List V}(h:H a=some (.tup xs)):Sq false K H a xs :=by
 unfold Sq;exact c9.of h
section
variable {elts:List c8}{x1:Nat}{tp p pos:u7}{l l1 l2:c8}{pl p1 p2:aM}
def ziEnumK (k:Bool) (p:aM):dz:=fun ρ M R=>p ρ M fun d M1=>match k,d with|false,.tup ds=>R (cj (lF ds.length) ds) M1|true,.lst ds=>R (cj (lF ds.length) ds) M1|_,_=>False
theorem LV (k:Bool) (hK:X.K=K) (hg:Gl X "enumerate") (hm:X.mg "enumerate" = none) (hl:QE Γ X l pl) (hs:starEach [l] X.env=[(false,eval l X.env)] :=by rfl) :
  QI Γ X (.Tuple elts x1 tp) (.Call (.Name "enumerate" p) [l] [] pos) (ziEnumK k pl):=(LC k hK hg hm hl hs).imp fun σ H R ⟨β,ρ,M,R',zr,h,q⟩=>⟨β,ρ,M,_,zr,h,fun d M1 v H1 x1 r1 h1=>by
 revert h1
 split
 ·intro h1;obtain⟨a,vs,rfl,f,e,rs⟩:=cE r1;refine⟨a,rfl,⟨vs,Sq.ofT e⟩,q _ _ _ _ x1 ?_ h1⟩;rw[<- rs.len];exact pQ uP rs fun M' H' x=>by rw[<- enum_zip];exact vT (Sq.ofT (x.get f.1 e rfl))
 ·intro h1;obtain⟨a,vs,rfl,f,e,rs⟩:=dS r1;refine⟨a,rfl,⟨vs,Sq.PK e⟩,q _ _ _ _ x1 ?_ h1⟩;rw[<- rs.len];exact pQ uP rs fun M' H' x=>by rw[<- enum_zip];exact vT (Sq.PK (x.get f.1 e rfl))
 ·exact fun h=>h.elim⟩
def seqK (k:Bool) (d:Dv) (R:List Dv->Prop):Prop:=match k,d with|false,.tup ds=>R ds|true,.lst ds=>R ds|_,_=>False
theorem Bp {k:Bool}{M:Mh}{H:Hp}{v:V}{d:Dv}{R:List Dv->Prop}(r:Rz β M H v d) (h:seqK k d R):∃a vs ds,v=.ref a/\R ds/\aJ β M H vs ds/\∀M' H',Ey M H M' H'->Sq k K H' a vs :=by
 unfold seqK at h;split at h
 ·obtain⟨a,vs,rfl,f,e,rs⟩:=cE r;exact⟨a,vs,_,rfl,h,rs,fun M' H' x=>Sq.ofT (x.get f.1 e rfl)⟩
 ·obtain⟨a,vs,rfl,f,e,rs⟩:=dS r;exact⟨a,vs,_,rfl,h,rs,fun M' H' x=>Sq.PK (x.get f.1 e rfl)⟩
 ·exact h.elim
def ziZip (k1 k2:Bool) (p1 p2:aM):dz:=fun ρ M R=>p1 ρ M fun d M1=>p2 ρ M1 fun e M2=>seqK k1 d fun xs=>seqK k2 e fun ys=>R (cj xs ys) M2
theorem nG (k1 k2:Bool) (hK:X.K=K) (hg:Gl X "zip") (hm:X.mg "zip" = none) (h1:QE Γ X l1 p1) (h2:QE Γ X l2 p2) (hs:starEach [l1,l2] X.env=(false,eval l1 X.env)::starEach [l2] X.env :=by rfl) (k7:starEach [l2] X.env=[(false,eval l2 X.env)] :=by rfl) :
  QI Γ X (.Tuple elts x1 tp) (.Call (.Name "zip" p) [l1,l2] [] pos) (ziZip k1 k2 p1 p2):=(O9 k1 k2 hK hg hm h1 h2 hs k7).imp fun σ H R ⟨β,ρ,M,R',zr,h,q⟩=>⟨β,ρ,M,_,zr,h,fun d M1 v H1 x1 r1 h1=>⟨β,ρ,M1,_,zr.step x1,h1,fun e M2 u H2 x2 r2 h2=>by
 obtain⟨a,vs,ds,rfl,h3,rs,s1⟩:=Bp (K:=K) (r1.ex x2) h2;obtain⟨b,us,es,rfl,h4,cw,s2⟩:=Bp (K:=K) r2 h3;exact⟨a,b,rfl,rfl,⟨vs,s1 _ _ .refl⟩,⟨us,s2 _ _ .refl⟩,q _ _ _ _ (x1.trans x2) (pQ rs cw fun M' H' x=>Ip (s1 _ _ x) (s2 _ _ x)) h4⟩⟩⟩
end
def zRangeP (p:aM):aM:=fun ρ M Q=>p ρ M fun d M1=>match d with | .int j => -(2 ^ 24)<=j/\j<=2 ^ 24/\∀a,M1 a=none->Q (.ptr a) (aw M1 a (.lst (lF j.toNat)))|_=>False
section
variable {e:c8}{pe:aM}{p p1 p2 pos:u7}
theorem wJ (hc:X.calm=true) (hg:Gl X "list") (hm:X.mg "list" = none) (OA:Gl X "range") (OB:X.mg "range" = none) (he:QE Γ X e pe) (hs:starEach [e] X.env=[(false,eval e X.env)] :=by rfl) :
  QE Γ X (.Call (.Name "list" p) [.Call (.Name "range" p1) [e] [] p2] [] pos) (zRangeP pe):=(xS hc hg hm OA OB he hs).imp fun σ H Q ⟨β,ρ,M,Q',zr,h,q⟩=>⟨β,ρ,M,_,zr,h,fun d M1 v H1 x1 r1 h1=>by
 revert h1
 split
 ·rename_i j;rintro⟨b1,b2,h1⟩;refine⟨_,aV r1,b1,b2,fun l hl=>?_⟩
  have x2:=Ex.own x1.mz (.inr hl) (uP (n:=j.toNat) (β:=β) (M:=M1) (H:=H1));exact q _ _ _ _ (x1.trans x2) (.ptr (by rw[updM_same];rfl)) (h1 l (x1.mz.free hl))
 ·exact fun h=>h.elim⟩
def truD (M:Mh):Dv->Option Bool
 | .bl b=>some b
 | .ax=>some false
 | .int i=>some (i != 0)
 | .str z=>if z.length<=sizeLine then some ((z.length:Int) != 0) else none
 | .tup ds=>some (!ds.isEmpty)
 | .lst ds=>some (!ds.isEmpty)
 | .ptr a=>match M a with|some (.lst ds)=>some (!ds.isEmpty)|_=>none
 |_=>none
def zTruth (p:aM):cg:=fun ρ M Q=>p ρ M fun d M1=>match truD M1 d with|some b=>Q b M1|none=>False
theorem aJ.isEmpty {M:Mh}{H:Hp}{vs:List V}{ds:List Dv}(h:aJ β M H vs ds):vs.isEmpty=ds.isEmpty :=by
 have:=h.len;cases vs<;>cases ds<;>simp_all
theorem LX {M:Mh}{H:Hp}{v:V}{d:Dv}{b:Bool}(m:Mz β M H) (r:Rz β M H v d) (h:truD M d=some b):Hz K v H b :=by
 cases r with
 |int i=>cases h;exact rfl
 |bl i=>cases h;exact rfl
 |ax=>cases h;exact rfl
 |str z=>
  simp only[truD]at h;split at h
  ·rename_i hz;cases h;exact⟨hz,rfl⟩
  ·cases h
 |tup f e hl q=>cases h;exact .inr (.inl ⟨_,c9.of e,by rw[aJ.isEmpty ⟨hl,q⟩]⟩)
 |lst f e hl q=>cases h;exact .inl ⟨_,bL.of e,by rw[aJ.isEmpty ⟨hl,q⟩]⟩
 |ptr hs=>
  simp only[truD]at h;split at h
  ·rename_i ds oN;cases h;obtain⟨vs,hv,rs⟩:=m.obj _ _ oN;exact .inl ⟨_,bL.of hv,by rw[rs.isEmpty]⟩
  ·cases h
 |set f e=>cases h
 |exc f e=>cases h
 |bK f e=>cases h
 |cY f e=>cases h
 |cZ e=>cases h
 |raw v=>cases h
 |dk f e _ _ _=>cases h
 |dt f e _ _ _=>cases h
 |b7 _ _ _ _ _ _=>cases h
theorem yJ (ha:QE Γ X e pe) (he:∀whole,isTrue e X.env whole=(do let v <- whole;standAt e.pos;holding [v] (truthy v)) :=by intro _;rfl):QT Γ X e (zTruth pe):=(HA ha he).imp fun σ H Q ⟨β,ρ,M,Q',zr,h,q⟩=>⟨β,ρ,M,_,zr,h,fun d M1 v H1 x1 r1 h1=>by
 revert h1
 split
 ·rename_i b hb;intro h1;exact⟨b,LX x1.mz r1 hb,q _ _ _ x1 h1⟩
 ·exact fun h=>h.elim⟩
end
theorem qv (i:Nat) {x:bi}{pos:u7}(hN:X.N[i]?=some x :=by rfl) (hv:qY X.env.scope x :=by first|exact ma rfl|exact GE (ma rfl)|exact GE (GE rfl)) (hd:(x==("__debug__" : bi))=false :=by decide)
  (eU:(x==("__classdict__" : bi))=false :=by decide):QE Γ X (.Name x pos) (zVar i):=Pk hN hv hd eU
end
theorem Xs {c:Bool}{A B:Prop}(h:c=true) (a:A):if c=true then A else B :=by rw[if_pos h];exact a
theorem Xt {c:Bool}{A B:Prop}(h:c=false) (b:B):if c=true then A else B :=by rw[h,if_neg i0];exact b
theorem eB {c:Bool}{A B:Prop}(h1:c=true->A) (h2:c=false->B):if c=true then A else B :=by
 cases c
 ·exact Xt rfl (h2 rfl)
 ·exact Xs rfl (h1 rfl)
theorem qK {g:bS}{te:aM}{M:Mh}(p:Dv->Bool) (I:aC->Prop):∀{ds:List Dv}{τ:aC}{Q:Bool->Mh->Prop},I τ->(∀d∈ds,∀τ,I τ->∀R:aC->ZK,(∀az,I az->R az (.bl (p d)) M)->g d τ M fun az M2=>te az M2 (R az))->Q (ds.all p) M->mL g zNoIf te ds τ M Q
 | [],τ,Q,_,_,q=>q
 |d::ds,τ,Q,i,h,q=>by
          refine h d i8 τ i (fun az=>zBool fun c M4=>if c=false then Q false M4 else mL g zNoIf te ds az M4 Q) fun az i2=>?_
          show if p d=false then Q false M else mL g zNoIf te ds az M Q
          cases e:p d with
          |false=>
           rw[if_pos rfl];rw[aay,e]at q;exact q
          |true=>
           rw[if_neg (by decide)]
           rw[aay,e,OP]at q;exact qK p I i2 (fun d' hd=>h d' (en _ hd)) q
theorem jx {g:bS}{te:aM}(f:Dv->Dv) (I:aC->Mh->Prop):∀{ds:List Dv}{τ:aC}{M:Mh}{Q:List Dv->Mh->Prop},I τ M->(∀d∈ds,∀τ M,I τ M->∀R:aC->ZK,(∀az M2,I az M2->R az (f d) M2)->g d τ M fun az M2=>te az M2 (R az))->(∀τ M,I τ M->Q (ds.map f) M)->iw g zNoIf te ds τ M Q
 | [],τ,M,Q,i,_,q=>q τ M i
 |d::ds,τ,M,Q,i,h,q=>by
          refine h d i8 τ M i (fun az y M4=>iw g zNoIf te ds az M4 fun ys M5=>Q (y::ys) M5) fun az M2 i2=>?_
          exact jx f I i2 (fun d' hd=>h d' (en _ hd)) fun lD M3 i3=>q lD M3 i3
theorem uQ {g:bS}{tt:cg}{te:aM}(t:Dv->Bool) (f:Dv->Dv) (I:aC->Mh->Prop):∀{ds:List Dv}{τ:aC}{M:Mh}{Q:List Dv->Mh->Prop},I τ M->
  (∀d∈ds,∀τ M,I τ M->∀(R0:aC->Mh->Prop) (R:aC->ZK),(t d=true->∀az M2,I az M2->R az (f d) M2)->(t d=false->∀az M2,I az M2->R0 az M2)->g d τ M fun az M2=>tt az M2 fun b M3=>if b=true then te az M3 (R az) else R0 az M3)->
  (∀τ M,I τ M->Q ((ds.filter t).map f) M)->iw g tt te ds τ M Q
 | [],τ,M,Q,i,_,q=>q τ M i
 |d::ds,τ,M,Q,i,h,q=>by
          refine h d i8 τ M i (fun az M3=>iw g tt te ds az M3 Q) (fun az y M4=>iw g tt te ds az M4 fun ys M5=>Q (y::ys) M5) (fun e az M2 i2=>?_) fun e az M2 i2=>?_
          ·refine uQ t f I i2 (fun d' hd=>h d' (en _ hd)) fun lD M3 i3=>?_
           have:=q lD M3 i3;rw[ZI,if_pos e]at this;exact this
          ·refine uQ t f I i2 (fun d' hd=>h d' (en _ hd)) fun lD M3 i3=>?_
           have:=q lD M3 i3;rw[ZI,if_neg (by rw[e];decide)]at this
           exact this
theorem Bq {g:bS}{te:aM}(f:Dv->Int) (I:aC->Mh->Prop):∀{ds:List Dv}{τ:aC}{M:Mh}{Q:List Int->Mh->Prop}{acc:List Int},I τ M->acc.length+ds.length+1<scanBound->(∀d∈ds,∀τ M,I τ M->∀R:aC->ZK,(∀az M2,I az M2->R az (.int (f d)) M2)->g d τ M fun az M2=>te az M2 (R az))->(∀τ M,I τ M->Q ((ds.map f).foldl dh acc) M)->oe g zNoIf te ds τ M Q acc
 | [],τ,M,Q,acc,i,_,_,q=>q τ M i
 |d::ds,τ,M,Q,acc,i,hl,h,q=>by
          refine h d i8 τ M i (fun az y M4=>match y with | .int k=>acc.length+1<scanBound/\oe g zNoIf te ds az M4 Q (dh acc k)|_=>False) fun az M2 i2=>?_
          rw[AL]at hl;refine⟨by omega,Bq f I i2 ?_ (fun d' hd=>h d' (en _ hd)) fun lD M3 i3=>q lD M3 i3⟩
          have:=ya (ns:=acc) (m:=f d);omega
abbrev eI (ns:List Int):Dv:=.tup (ns.map .int)
abbrev eN (ae:List (List Int)):Dv:=.tup (ae.map eI)
abbrev mO (ns:List Int):Dv:=.lst (ns.map .int)
theorem rZ:∀ns:List Int,ip (ns.map Dv.int)=some (ns.map Dt.int)
 | []=>rfl
 |n::ns=>by simp only[mo,ip,bW,rZ ns]
theorem Ki (ns:List Int):bW (eI ns)=some (.tup (ns.map Dt.int)) :=by simp only[eI,bW,rZ,BY]
theorem Br {α:Type}{f:α->Dv}{g:α->Dt}(h:∀x,bW (f x)=some (g x)):∀xs:List α,ip (xs.map f)=some (xs.map g)
 | []=>rfl
 |x::xs=>by simp only[mo,ip,h x,Br h xs]
theorem og:∀xs ys:List Int,gW (xs.map Dt.int) (ys.map Dt.int)=decide (xs=ys)
 | [],[]=>by simp[gW]
 | [],_::_=>by simp[gW]
 |_::_,[]=>by simp[gW]
 |x::xs,y::ys=>by
          rw[mo,mo,gW,og xs ys,da];by_cases h1:x=y<;>by_cases h2:xs=ys<;>simp[h1,h2]
theorem yK {n:Nat}:∀{ds:List Dt},(∀d∈ds,jW d<=n)->i6 ds<=n
 | [],_=>by rw[i6];exact mf _
 |d::ds,h=>by
          rw[i6];exact Nat.max_le.mpr ⟨h d i8,yK fun d' hd=>h d' (en _ hd)⟩
theorem Bs (ns:List Int):i6 (ns.map Dt.int)<=0:=yK fun d hd=>by
 obtain⟨i,_,rfl⟩:=kt.mp hd;exact cb _
theorem jy {M:Mh}(ns:List Int):∀d∈ns.map Dv.int,Pin M d:=fun d hd=>by
 obtain⟨i,_,rfl⟩:=kt.mp hd;exact .int i
theorem jd {M:Mh}(ns:List Int):Pin M (eI ns):=.tup (jy ns)
theorem FL {M:Mh}(ae:List (List Int)):Pin M (eN ae):=.tup fun d hd=>by
 obtain⟨r,_,rfl⟩:=kt.mp hd;exact jd r
theorem LY {α β:Type}{f:α->β}{xs:List α}{i:Int}{x:α}(h:dF xs i=some x):dF (xs.map f) i=some (f x) :=by
 unfold dF at h ⊢;rw[bv];cases e:jU xs.length i with
 |none=>rw[e]at h;cases h
 |some j=>rw[e]at h;simp only[ZJ]at h ⊢;rw[ce,h];rfl
theorem FN {α:Type}{xs:List α}{k:Nat}(h:k<xs.length):dF xs ((k:Nat):Int)=some xs[k]:=eh (ap h)
def spLaw (K:ba) (tb:cf):Sp:=fun vs H Q _=>∃(a:ag) (ns:List Int),vs=[.ref a]/\bL K H a (ns.map V.int)/\ns.length<=63/\JV tb.g H/\(∀p∈tb.l,Lm H p)/\∀H',(∀p∈tb.l,∃ps,H' p.1=some (.lam ps))->Q (.bl true) H'
def PL:bP:=fun ds M Q _=>∃ns:List Int,ds=[.bK ns]/\ns.length<=63/\(∀a,M a=none)/\∀M',Q (.bl true) M'
theorem PN {P:ff}{w:im}{K:ba}{mg:bi->Option al}{base:hX}{k:Nat}{f:ag}{fd:ln}{x:bi}{tb:cf}(G:FnOk P w K mg base bh k f fd [x] (aU P w K tb PL)):FnOk P w K mg base bh k f fd [x] (spLaw K tb):=
 G.imp fun vs H Q E ⟨a,ns,e,hS,hl,hT,hL,q⟩=>by
  subst e;have m:Mz ⟨P,w,K,tb,[]⟩ (fun _=>none) H:=⟨(fun a o e=>nomatch e),hT,(fun a ha=>absurd ha (by simp)),(fun a o e=>nomatch e),hL⟩
  refine⟨⟨P,w,K,tb,[]⟩,[.bK ns],fun _=>none,fun d _=>d=.bl true,fun _ _=>False,rfl,rfl,rfl,rfl,m,.cons ?_ .nil,⟨ns,rfl,hl,fun _=>rfl,fun _=>rfl⟩,fun d M' v H' x r h=>?_,fun _ _ _ _ h=>h.elim⟩
  ·have fz:Fz ⟨P,w,K,tb,[]⟩ (fun _=>none) a:=⟨rfl,by simp⟩
   rcases hS with (h|⟨o,h⟩)|h
   ·exact .cY fz h
   ·exact .bK fz h
   ·exact .cZ h
  ·subst h;rw[d6 r];exact q H' fun p hp=>let ⟨ps,e,_⟩:=x.mz.lams p hp;⟨ps,e⟩
def Keeps (M0 M:Mh):Prop:=∀a o,M0 a=some o->M a=some o
theorem Keeps.refl {M0:Mh}:Keeps M0 M0:=fun _ _ h=>h
theorem Keeps.upd {M0 M:Mh}{a:ag}{o:Mo}(ha:M0 a=none) (h:Keeps M0 M):Keeps M0 (aw M a o):=fun b u e=>by
 rw[ao (fun z=>by rw[z,ha]at e;cases e)]
 exact h b u e
theorem pR {M0 M:Mh}{Q:ZK}{d:Dv}(h:Keeps M0 M) (p:Pin M0 d) (q:Q d M0):jw M0 Q d M:=.inr ⟨h,d,.pin p,q⟩
theorem pS {M0 M:Mh}{Q:ZK}{a:ag}{ds:List Dv}(h:Keeps M0 M) (h0:M0 a=none) (ha:M a=some (.lst ds)) (p:∀d∈ds,Pin M0 d) (q:Q (.lst ds) M0):jw M0 Q (.ptr a) M:=.inr ⟨h,.lst ds,.ptr h0 ha rfl fun i d d' e e'=>by
 rw[e]at e';cases e';exact .pin (p d (cr e)),q⟩
theorem dC {lo:Int}{n i:Nat}{d:Dv}(h:(cP lo n)[i]?=some d):d=.int (lo+(i:Nat))/\i<n :=by
 unfold cP at h;rw[ce]at h;cases e:(ii n)[i]? with
 |none=>rw[e]at h;cases h
 |some k=>
  rw[e]at h;obtain⟨h1,h2⟩:=ca.mp e;rw[Zo]at h2;subst h2;exact⟨(ij h).symm,by simpa using h1⟩
theorem tS {lo:Int}{n:Nat}{d:Dv}(h:d∈cP lo n):∃i:Nat,i<n/\d=.int (lo+(i:Nat)) :=by
 obtain⟨i,hi⟩:=l7.mp h;obtain⟨e,l⟩:=dC hi;exact⟨i,l,e⟩
theorem rangeD_len (lo:Int) (n:Nat):(cP lo n).length=n :=by simp[cP]
theorem lH {tt:cg}(t:Dv->Bool) {τ:aC}:∀{ds:List Dv}{x:Option Dv}{M:Mh}{Q:List Dv->Mh->Prop},(∀d∈ds,∀R:Bool->Mh->Prop,R (t d) M->tt (some d::τ) M R)->Q (ds.filter t) M->iw (zgName 0) tt (zVar 0) ds (x::τ) M Q
 | [],x,M,Q,_,q=>q
 |d::ds,x,M,Q,h,q=>by
          refine h d i8 _ ?_;cases e:t d with
          |true=>
           rw[ZI,if_pos e]at q;exact lH t (Q:=fun ys M5=>Q (d::ys) M5) (fun d' hd=>h d' (en _ hd)) q
          |false=>
           rw[ZI,if_neg (by rw[e];decide)]at q
           exact lH t (fun d' hd=>h d' (en _ hd)) q
theorem j0 {xs ys:List Dv}{k:Nat}{d:Dv}(h:(cj xs ys)[k]?=some d):∃x y,d=.tup [x,y]/\xs[k]?=some x/\ys[k]?=some y :=by
 unfold cj at h;rw[ce,lc]at h;obtain⟨p,h,rfl⟩:=h;rw[zw]at h;exact⟨p.1,p.2,rfl,h.1,h.2⟩
theorem LZ {n k:Nat}{d:Dv}(h:(lF n)[k]?=some d):d=.int (k:Nat)/\k<n :=by
 unfold lF at h;rw[ce]at h;cases e:(ii n)[k]? with
 |none=>rw[e]at h;cases h
 |some j=>
  rw[e]at h;obtain⟨h1,h2⟩:=ca.mp e;rw[Zo]at h2;subst h2;exact⟨(ij h).symm,by simpa using h1⟩
theorem L0 {ds:List Dv}{k:Nat}{d:Dv}(h:(cj (lF ds.length) ds)[k]?=some d):∃x,d=.tup [.int (k:Nat),x]/\ds[k]?=some x :=by
 obtain⟨x,y,rfl,h1,h2⟩:=j0 h;obtain⟨rfl,_⟩:=LZ h1;exact⟨y,rfl,h2⟩
theorem atI_zero {α:Type}{x:α}{xs:List α}:dF (x::xs) 0=some x:=eh (j:=0) rfl
theorem je {α:Type}{f:α->Dv}{xs:List α}{k:Nat}{d:Dv}(h:(xs.map f)[k]?=some d):∃x,xs[k]?=some x/\d=f x :=by
 rw[ce,lc]at h;obtain⟨x,h,e⟩:=h;exact⟨x,h,e.symm⟩
theorem pairsD_len (xs ys:List Dv):(cj xs ys).length=min xs.length ys.length :=by simp[cj]
end L2
namespace L2
open PySem PySem.Spec PyProof.Rows
theorem FO {M:Model}{A:l5}{E:al->ar->Prop}{s:ar}{scope:sB}{globals:ag}{cl:List (bi×ag)}{qual:bi}{env:IN}{Q:IN->ar->Prop}
  (h:Q (newEnv scope s.heap.objs.size globals (cellsFrom (s.heap.objs.size+1) scope.names cl) qual none .none (some env) builtinsNs) {s with heap:=pushCells (s.heap.push {cls:=.type "dict",data:=.dict #[]}) scope.names}) :
  wpAny M A (newFunctionEnv scope globals cl [] qual none .none (some env)) Q E s :=by
 simp only[newFunctionEnv,Option.isSome_some,if_true];refine ac (wpAny_alloc ?_);refine ac (wpAny_layCells _ (fun name kind cells=>by cases Xu:kind==SL<;>simp[Xu]) _ _ _ _ ?_)
 rw[show ({s with heap:=s.heap.push {cls:=.type "dict",data:=.dict #[]}}:ar).heap.objs.size=s.heap.objs.size+1 from xw ..]
 exact bn h
theorem lJ:∀(names:List (bi×P3)) (h:hX) (cl:List (bi×ag)) (x:bi) (c:ag),(cellsFrom h.objs.size names cl).lookup x=some c->
  ((x,SL)∈names/\h.objs.size<=c/\(pushCells h names).IsCell c none)\/((∀k,(x,k)∈names->k≠.cell)/\cl.lookup x=some c)
 | [],h,cl,x,c,e=>.inr ⟨fun k z=>by simp at z,e⟩
 |(n,k)::r,h,cl,x,c,e=>by
          unfold cellsFrom at e;unfold pushCells;split at e
          ·rename_i hk;have jV:k=.cell :=by simpa using hk
           subst jV;rw[if_pos hk];have sz:(h.push {cls:=.type "cell",data:=.cell none}).objs.size=h.objs.size+1:=xw ..
           rw[<- sz]at e;rcases lJ r _ _ x c e with ⟨a,b,d⟩|⟨a,b⟩
           ·exact .inl ⟨en _ a,by omega,d⟩
           ·rw[CS]at b;cases hx:x==n with
            |true=>
             rw[hx]at b;cases b;have e2:x=n :=by simpa using hx
             subst e2;exact .inl ⟨i8,cb _,⟨_,aa7 r _ _ _ (db _ rfl),rfl⟩⟩
            |false=>
             rw[hx]at b;refine .inr ⟨fun k2 z=>?_,b⟩
             rcases i4.mp z with q|q
             ·cases q;simp at hx
             ·exact a k2 q
          ·rename_i hk;rw[if_neg hk];rcases lJ r h cl x c e with ⟨a,b,d⟩|⟨a,b⟩
           ·exact .inl ⟨en _ a,b,d⟩
           ·refine .inr ⟨fun k2 z=>?_,b⟩
            rcases i4.mp z with q|q
            ·cases q;intro z;subst z;exact hk rfl
            ·exact a k2 q
theorem cells_apart:∀(names:List (bi×P3)) (h:hX) (cl:List (bi×ag)) (x y:bi) (c:ag),(∀n c,cl.lookup n=some c->c<h.objs.size)->(∀x y c,cl.lookup x=some c->cl.lookup y=some c->x=y)->(cellsFrom h.objs.size names cl).lookup x=some c->(cellsFrom h.objs.size names cl).lookup y=some c->x=y
 | [],h,cl,x,y,c,_,inj,e,e'=>inj x y c e e'
 |(n,k)::r,h,cl,x,y,c,lt,inj,e,e'=>by
          unfold cellsFrom at e e';split at e
          ·rename_i hk;rw[if_pos hk]at e';have sz:(h.push {cls:=.type "cell",data:=.cell none}).objs.size=h.objs.size+1:=xw ..
           rw[<- sz]at e e';refine cells_apart r _ _ x y c (fun m d z=>?_) (fun x y d a b=>?_) e e'
           ·rw[sz];rw[CS]at z;cases hm:m==n with
            |true=>rw[hm]at z;cases z;exact Fa _
            |false=>rw[hm]at z;exact zd (lt m d z)
           ·rw[CS]at a b;have old:∀z,cl.lookup z=some h.objs.size->False:=fun z q=>absurd (lt _ _ q) (FF _)
            cases hx:x==n with
            |true=>
             rw[hx]at a;cases a;cases hy:y==n with
             |true=>rw[show x=n by simpa using hx,show y=n by simpa using hy]
             |false=>rw[hy]at b;exact(old y b).elim
            |false=>
             rw[hx]at a;cases hy:y==n with
             |true=>rw[hy]at b;cases b;exact(old x a).elim
             |false=>rw[hy]at b;exact inj x y d a b
          ·rename_i hk;rw[if_neg hk]at e';exact cells_apart r h cl x y c lt inj e e'
theorem mP:∀(names:List (bi×P3)) (n:Nat) (cl:List (bi×ag)) (x:bi),((x,SL)∈names\/∃c,cl.lookup x=some c)->∃c,(cellsFrom n names cl).lookup x=some c
 | [],n,cl,x,h=>by
          rcases h with h|h
          ·simp at h
          ·exact h
 |(y,k)::r,n,cl,x,h=>by
          unfold cellsFrom;split
          ·rename_i hk;refine mP r _ _ x ?_;by_cases e:x=y
           ·subst e;exact .inr ⟨n,by rw[CS];simp⟩
           ·rcases h with h|⟨c,h⟩
            ·rcases i4.mp h with q|q
             ·cases q;exact absurd rfl e
             ·exact .inl q
            ·exact .inr ⟨c,by rw[CS,show (x==y)=false by simpa using e];exact h⟩
          ·rename_i hk;refine mP r _ _ x ?_;rcases h with h|h
           ·rcases i4.mp h with q|q
            ·cases q;exact absurd rfl hk
            ·exact .inl q
           ·exact .inr h
theorem CW {X:Cx}{pins:List (ag×kw)}{σ:St}{H:Hp}{s:ar}(I:Inv X pins σ H s) {x:bi}{c:ag}(h:X.env.cells.lookup x=some c):c<s.heap.objs.size :=by
 obtain⟨v,o,ho,_⟩:=I.cell x c h;exact gc ho
abbrev FP (X:Cx) (N':List bi) (scope:sB) (cl:List (bi×ag)) (C:ag) (s:ar) (H:Hp) (fp:List ag) (own:bi->Bool):Cx:={sT X N' scope cl C s H fp with fn:=own}
def eO (N:List bi) (sc scope:sB) (N':List bi) (tn:Nat) (idx:List Nat):Prop:=
 scope.kind=.function/\(∀y∈scope.names,(y.2=.cell->scope.names.lookup y.1=some .cell)/\(y.2=.local->scope.names.lookup y.1=some .local)/\(y.2=.free->sc.names.lookup y.1=some .cell\/sc.names.lookup y.1=some .free)) /\
  N'.length=tn+idx.length/\∀p∈idx.zip (N'.drop tn),N[p.1]?=some p.2/\scope.names.lookup p.2=some .free
instance (N:List bi) (sc scope:sB) (N':List bi) (tn:Nat) (idx:List Nat):Decidable (eO N sc scope N' tn idx) :=by unfold eO;infer_instance
theorem eO.at {N:List bi}{sc scope:sB}{N':List bi}{tn:Nat}{idx:List Nat}(B:eO N sc scope N' tn idx) {σ:St}{i:Nat}{x:bi}{v:V}(h1:N'[i]?=some x) (h2:(bw tn idx σ)[i]?=some (some v)) :
  scope.names.lookup x=some .free/\∃j:Nat,N[j]?=some x/\σ[j]?=some (some v) :=by
 obtain⟨_,_,b3,b4⟩:=B;unfold bw at h2;by_cases hi:i<tn
 ·rw[ww (by simpa using hi),Na,if_pos hi]at h2
  cases h2
 ·rw[AE (by simpa using hi),VT,ce]at h2
  cases e:idx[i - tn]? with
  |none=>rw[e]at h2;cases h2
  |some k=>
   rw[e]at h2;have h3:(σ[k]?).join=some v:=ij h2;have e2:(N'.drop tn)[i - tn]?=some x :=by
    rw[aao];have:tn+(i - tn)=i :=by omega
    rw[this];exact h1
   have m:(k,x)∈idx.zip (N'.drop tn) :=by
    refine cr (i:=i - tn) ?_;rw[zw];exact⟨e,e2⟩
   obtain⟨a,b⟩:=b4 _ m;refine⟨b,k,a,?_⟩;cases q:σ[k]? with
   |none=>rw[q]at h3;cases h3
   |some w=>rw[q]at h3;exact congrArg some h3
theorem eO.len {N:List bi}{sc scope:sB}{N':List bi}{tn:Nat}{idx:List Nat}(B:eO N sc scope N' tn idx) (σ:St):(bw tn idx σ).length=N'.length :=by
 rw[B.2.2.1];unfold bw;simp
def gX (scope:sB) (x:bi):Bool:=scope.names.lookup x==some .cell
abbrev oh (X:Cx) (N':List bi) (scope:sB) (P:Cx->Prop):Prop:=∀(cl:List (bi×ag)) (C:ag) (s:ar) (H:Hp) (fp:List ag),P (FP X N' scope cl C s H fp (gX scope))
theorem CY {X:Cx}{pins:List (ag×kw)}{σ aQ:St}{H H':Hp}{s:ar}{N':List bi}{scope:sB}{cs:List (bi×ag)}{C:ag}{ex:List ag}{h1:hX}{m0:bi->Option al}{g':Array TM}{tk:Nat}
  (I:Inv X pins σ H s) (qA:scope.kind=.function)
  (cq:∀n c,cs.lookup n=some c->(gX scope n=true/\C<c/\h1.IsCell c none/\H' c=none)\/(gX scope n=false/\X.env.cells.lookup n=some c))
  (VV:∀x y c,cs.lookup x=some c->cs.lookup y=some c->x=y)
  (rM:∀x,((relabel scope X.env).names.lookup x=some .cell\/(relabel scope X.env).names.lookup x=some .free)->∃c,cs.lookup x=some c)
  (hC:s.heap.objs.size<=C) (hf:∀b∈ex,dg X pins H b) (Cp:∀b∈ex,b<s.heap.objs.size)
  (Ez:Un (fm X.stack) ex H H' s.heap h1) (hok:c7 X.prog X.w H' h1) (sR:H' C=none) (sS:∀b o,s.heap.get? b=some o->h1.get? b=some o) (iJ:h1.Ns C m0)
  (xG:∀(i:Nat) (x:bi) (v:V),N'[i]?=some x->aQ[i]?=some (some v)->gX scope x=false/\((relabel scope X.env).names.lookup x=some .cell\/(relabel scope X.env).names.lookup x=some .free)/\qY X.env.scope x/\(X.env.kindOf x=some .cell\/X.env.kindOf x=some .free)/\∃j:Nat,X.N[j]?=some x/\σ[j]?=some (some v))
  (hlen:aQ.length=N'.length) (hg:Gn s.gens.size g'):Inv (FP X N' scope cs C s H ex (gX scope)) [] aQ H' {s with heap:=h1,gens:=g',toks:=tk}:=by
 have EA:∀b∈ex,∀x c,X.env.cells.lookup x=some c->c≠b:=fun b hb=>(hf b hb).2.2.2.2.1
 have Xv:∀b∈ex,∀x c,cs.lookup x=some c->c≠b:=fun b hb x c e z=>by
  rcases cq x c e with ⟨_,q,_⟩|⟨_,q⟩
  ·subst z;exact absurd (Zn (Co hC q) (Cp _ hb)) (FF _)
  ·exact EA b hb x c q z
 refine⟨⟨I.ok.mod,qA,I.ok.glob,I.ok.blt,hC,VV,rM,fun x c hx e=>?_,fun z=>I.ok.hd z,I.ok.frames,.inl rfl,fun b hb=>⟨jp (l3 (Cp b hb) hC),fun x c e=>Xv b hb x c e⟩,
   I.bs,qr I.ok.bsz I.sz,fun b o e hb=>?_,fun b hb z=>?_,I.stack,I.m9⟩,rfl,hg,Ez,⟨m0,iJ,fun i x v e1 e2 e3=>?_⟩,fun x c e=>?_,sR,fun x c e=>?_,fun p hp=>absurd (show p∈([]:List (ag×kw)) from hp) (by simp),hok,hlen⟩
 ·rcases cq x c e with ⟨_,q,_⟩|⟨q,_⟩
  ·exact Ll (Co hC q)
  ·have jn:gX scope x=true:=hx;rw[q]at jn;cases jn
 ·rcases (hf b hb).2.2.2.1 with z|z
  ·exact I.ok.noex b o e z
  ·exact absurd (l3 (gc e) (qr I.ok.bsz z)) (FF _)
 ·rcases i4.mp (I.gb b z) with q|q
  ·exact(hf b hb).2.1 q
  ·exact(hf b hb).2.2.1 q
 ·obtain⟨k0,k1,vx,k2,j,n1,n2⟩:=xG i x v e1 e2;obtain⟨m,hn,hl⟩:=I.loc;obtain⟨u,r,l⟩:=hl j x v n1 n2 vx;refine⟨u,r,.inr ⟨k1,?_⟩⟩;obtain⟨c',EB⟩:=rM x k1;rcases l with ⟨kl,_⟩|⟨_,c,ec,z⟩
  ·rcases k2 with q|q<;>(rw[kl]at q;cases q)
  ·rcases cq x c' EB with ⟨q,_⟩|⟨_,q⟩
   ·rw[k0]at q;cases q
   ·have:c'=c:=ij (q.symm.trans ec);subst this;exact⟨c',EB,z.keeps sS⟩
 ·rcases cq x c e with ⟨_,_,q,_⟩|⟨_,q⟩
  ·exact⟨_,q⟩
  ·obtain⟨v,z⟩:=I.cell x c q;exact⟨v,z.keeps sS⟩
 ·rcases cq x c e with ⟨_,_,_,q⟩|⟨_,q⟩
  ·exact q
  ·obtain⟨v,o,ho,hd⟩:=I.cell x c q;exact Ez.free c o ho (I.freeC x c q) fun z=>EA c z x c q rfl
section
variable {X:Cx}
theorem CZ {pins:List (ag×kw)}{σ:St}{H2:Hp}{s2:ar}{tg elt iter:c8}{ifs:List c8}{scope:sB}{pos:u7}{N':List bi}{tn:Nat}{idx:List Nat}{g:TG}{tt:TT}{te:TE}{it:ag}{fp:List ag}{bZ:Nat->hX->Prop}{J:It}
  {cl:List (bi×ag)} {E:al->ar->Prop} {RR:al->ag->aaS->ar->Prop} {Q:VK}
  (hc:X.calm=true) (B:eO X.N X.env.scope scope N' tn idx)
  (hg:oh X N' scope fun Y=>PG Y tg g) (ht:oh X N' scope fun Y=>gO Y ifs tt) (he:oh X N' scope fun Y=>PE Y elt te)
  (I:Inv X pins σ H2 s2) (T:Turn X.prog X.w X.K tg J fp it bZ) (st:bZ 0 s2.heap) (f2:∀b∈fp,dg X pins H2 b)
  (cn:∀n c,cl.lookup n=some c->X.env.cells.lookup n=some c) (dy:∀n,(n,sK)∈scope.names->∃c,cl.lookup n=some c)
  (hq:∀D,H2 D=none->∃W:Nat->Nat->St->Hp->Prop,(∃m,W 0 m (bw tn idx σ) (upd H2 D (.lst [])))/\sW J g tt te D Q W)
  (xI:∀D C m s' H',Inv X pins σ H' s'->dg X pins H' C->s'.heap.Ns C m->Q (.ref D) H'->RR (.ref D) C (.ok .next) s') :
  wpAny (model X.prog X.w) X.A (newList []) (fun acc mZ=>wpAny (model X.prog X.w) X.A (newFunctionEnv scope X.env.globals cl [] X.env.qual none .none (some X.env)) (fun lh rN=>
   codeAny (model X.prog X.w) X.A (.compStart (.ListComp elt [⟨tg,iter,ifs,0⟩] scope pos) 0 (.ref it) acc {lh with scope:=relabel scope X.env}) (RR acc lh.locals) rN) E mZ) E s2 :=by
 obtain⟨b1,b2,b3,b4⟩:=id B;refine xb (FO ?_);dsimp only;generalize hG:s2.heap.push {cls:=.type "list",dict:=none,data:=.seq ([]:List al).toArray}=G
 have hC:G.objs.size=s2.heap.objs.size+1 :=by rw[<- hG,xw]
 generalize PO:pushCells (G.push {cls:=.type "dict",data:=.dict #[]}) scope.names=ee
 have iX:ee.Ns G.objs.size fun _=>none :=by rw[<- PO];exact(hX.Ns.new G (.type "dict")).keeps (aa7 _ _)
 have Bt:∀b o,G.get? b=some o->ee.get? b=some o:=fun b o e=>by rw[<- PO];exact aa7 _ _ b o (br _ e)
 have xJ:s2.heap.objs.size≠G.objs.size :=by rw[hC];exact jp (Fa _)
 have js:s2.heap.objs.size<=G.objs.size :=by rw[hC];exact ES _
 have below:∀b,b<s2.heap.objs.size->b≠G.objs.size:=fun b hb=>by rw[hC];exact jp (zd hb)
 have old:∀b o,s2.heap.get? b=some o->ee.get? b=some o:=fun b o e=>Bt b o (hG▸br _ e)
 have ED:ee.get? s2.heap.objs.size=some {cls:=.type "list",data:=.seq ([]:List al).toArray}:=Bt _ _ (hG▸db _ rfl)
 generalize yL:cellsFrom (G.objs.size+1) scope.names cl=cs
 have Kj:(G.push {cls:=.type "dict",data:=.dict #[]}).objs.size=G.objs.size+1:=xw ..
 have PQ:∀x,(x,SL)∈scope.names->gX scope x=true:=fun x hx=>by
  unfold gX;rw[(b2 _ hx).1 rfl];rfl
 have L1:∀x,(∀k,(x,k)∈scope.names->k≠SL)->gX scope x=false:=fun x hx=>by
  unfold gX;cases q:scope.names.lookup x with
  |none=>rfl
  |some k=>have:=hx k (tw q);simpa using this
 have look:∀x c,cs.lookup x=some c->(gX scope x=true/\G.objs.size<c/\ee.IsCell c none)\/(gX scope x=false/\cl.lookup x=some c):=fun x c e=>by
  rw[<- yL,<- Kj]at e;rcases lJ scope.names _ cl x c e with ⟨a,b,d⟩|⟨a,b⟩
  ·rw[PO]at d;rw[Kj]at b;exact .inl ⟨PQ x a,b,d⟩
  ·exact .inr ⟨L1 x a,b⟩
 have inj:∀x y c,cs.lookup x=some c->cs.lookup y=some c->x=y:=fun x y c e e'=>by
  rw[<- yL,<- Kj]at e e';refine cells_apart scope.names _ cl x y c (fun n d z=>?_) (fun x y d a b=>I.ok.inj x y d (cn x d a) (cn y d b)) e e'
  rw[Kj,hC];exact zd (zd (CW I (cn n d z)))
 have vF:H2 s2.heap.objs.size=none:=I.hok.fresh (cb _);have sR:upd H2 s2.heap.objs.size (.lst []) G.objs.size=none :=by rw[ah (ze xJ)];exact I.hok.fresh js
 have xK:c7 X.prog X.w (upd H2 s2.heap.objs.size (.lst [])) ee:=I.hok.laid old (cb _) ⟨mf _,[],0,.nil,ED⟩;have ke:∀b∈fp,b<s2.heap.objs.size:=fun b hb=>let ⟨o,e,_⟩:=T.obj _ _ st b hb;gc e
 obtain⟨W,⟨m0,w0⟩,turn⟩:=hq s2.heap.objs.size vF;have I1:Inv (FP X N' scope cs G.objs.size s2 H2 fp (gX scope)) [] (bw tn idx σ) (upd H2 s2.heap.objs.size (.lst [])) {s2 with heap:=ee,toks:=s2.toks}:=by
  refine CY (g':=s2.gens) (m0:=fun _=>none) I b1 (fun n c e=>?_) inj (fun x hx=>?_) js f2 ke (Un.laid old (cb _) vF) xK sR old iX (fun i x v e1 e2=>?_) (B.len σ) I.bare.self
  ·rcases look n c e with ⟨o,a,b⟩|⟨o,a⟩
   ·refine .inl ⟨o,a,b,?_⟩;have:c≠s2.heap.objs.size:=fun z=>by rw[z,hC]at a;exact absurd (Zn a (Fa _)) (fun h=>by omega)
    rw[ah this];exact I.hok.fresh (Ll (Co js a))
   ·exact .inr ⟨o,cn n c a⟩
  ·rw[dY]at hx;rw[<- yL];cases q:scope.names.lookup x with
   |none=>rw[q]at hx;rcases hx with z|z<;>cases z
   |some k0=>
    have hm:=tw q;rw[q]at hx;by_cases hk:k0=.free
    ·subst hk;exact mP _ _ _ _ (.inr (dy x hm))
    ·have nk:(k0==sK)=false :=by simpa using hk
     simp only[BY,nk,Pi,lw,if_false]at hx;rcases hx with z|z
     ·have e0:k0=.cell:=ij z;subst e0;exact mP _ _ _ _ (.inl hm)
     ·exact absurd (ij z) hk
  ·obtain⟨fr,j,e4,e5⟩:=B.at e1 e2;have kx:=(b2 _ (tw fr)).2.2 rfl;refine⟨by unfold gX;rw[fr];rfl,?_,.inr kx,kx,j,e4,e5⟩
   rw[dY,fr];simp only[BY];split
   ·exact .inl rfl
   ·exact .inr rfl
 have stat:∀{H':Hp},(∀b∈fp,H' b=none)->∀b∈fp,dg (FP X N' scope cs G.objs.size s2 H2 fp (gX scope)) [] H' b:=fun hn b hb=>by
  refine⟨hn b hb,below b (ke b hb),fun z=>?_,.inl hb,(fun x c e=>by
   rcases look x c e with ⟨_,a,_⟩|⟨_,a⟩
   ·exact fun z=>absurd (Zn (Co js (z▸a)) (ke b hb)) (FF _)
   ·exact(f2 b hb).2.2.2.2.1 x c (cn x c a)),fun p hp=>absurd (show p∈([]:List (ag×kw)) from hp) (by simp)⟩
  rcases i4.mp (I.gb b z) with q|q
  ·exact(f2 b hb).2.1 q
  ·exact(f2 b hb).2.2.1 q
 have C1:uB (FP X N' scope cs G.objs.size s2 H2 fp (gX scope)) (.ListComp elt [⟨tg,iter,ifs,0⟩] scope pos) tg iter ifs 0 (.ref s2.heap.objs.size) _:=⟨fun _=>rfl,fun _ _ _ _ h=>h,fun _=>xM ..,fun _ _ _ _ h=>h,rfl⟩
 have vG:bZ 0 ee:=T.keep _ _ _ st fun b _ o e=>old b o e
 refine ko C1 T vG (mE hc (fun _ _ z=>z) C1 (hg cs G.objs.size s2 H2 fp) (ht cs G.objs.size s2 H2 fp) (uC (he cs G.objs.size s2 H2 fp)) T (sY turn) I1 vG (stat fun b hb=>by rw[ah (jp (ke b hb))];exact(f2 b hb).1) w0 fun aT H' s' I4 qn=>?_)
 have J2:Inv X pins σ H' s':=I.sJ I4.os I4.base I4.hok I4.bare fun b hb=>⟨(f2 b hb).2.2.2.1,(f2 b hb).2.1,(f2 b hb).2.2.2.2.1,(f2 b hb).2.2.2.2.2⟩
 obtain⟨mm,hm,_⟩:=I4.loc;exact xI _ _ mm s' H' J2 (I.k6 js I4.free) hm qn
variable {tg elt iter:c8}{ifs:List c8}{scope:sB}{pos:u7}{N':List bi}{tn:Nat}{idx:List Nat}{wi:TI}{g:TG}{tt:TT}{te:TE}
variable {Γ:Gz}
theorem Aq {i:Nat}{y:bi}{py eW:u7}(hN:X.N.Nodup) (cy:X.N[i]?=some y) (hy:X.env.scope.names.lookup y=some .local) (hc:X.calm=true) (B:eO X.N X.env.scope scope N' tn idx) (hi:PI X tg iter wi)
  (hg:oh X N' scope fun Y=>PG Y tg g) (ht:oh X N' scope fun Y=>gO Y ifs tt) (he:oh X N' scope fun Y=>PE Y elt te)
  (nj:swapsWith (.ListComp elt [⟨tg,iter,ifs,0⟩] scope pos) (some (.Name y py)) eW.line X.env=pure true :=by rfl)
  (hs:∀x,foldedSetIterable iter X.env x=pure x :=by intro _;rfl):PS X (.Assign [.Name y py] (.ListComp elt [⟨tg,iter,ifs,0⟩] scope pos) eW) (rL (sX tn idx wi g tt te) (nK i)) :=by
 refine⟨?_⟩;intro pins s σ H D I h;obtain⟨cl,d9,cn,dy⟩:=dO (scope:=scope) (env:=X.env) fun n hn=>I.ok.has n ((B.2.1 _ hn).2.2 rfl)
 rw[ZN _ _ _ _ nj];refine ac (BS (ac ?_));show wpAny _ X.A (do let _ <- comprehension (.ListComp elt [⟨tg,iter,ifs,0⟩] scope pos) scope X.env _ (newList []) false (eval iter X.env) (some (assign (.Name y py) X.env))) _ _ s;refine ac (lp (EM (use:=some (assign (.Name y py) X.env)) (Q:=fun _ s'=>SP X pins D .next s') rfl hs d9 B.1 (fun y hy=>(B.2.1 y hy).2.1)
  (lp (hi pins s σ H _ I h) (fun xv s1 h1=>lp h1 (fun oY s2 h2=>?_) fun _ _ z=>z) fun _ _ z=>z)) (fun _ s' hq=>bn (bn hq)) fun _ _ z=>z)
 obtain⟨it,fp,bZ,J,H2,e,I2,T,iH,f2,q2⟩:=h2;subst e;refine CZ (RR:=fun acc C=>compPost (model X.prog X.w) X.A X.xe (some (assign (.Name y py) X.env)) (fun _ s'=>SP X pins D .next s') acc C) hc B hg ht he I2 T iH f2 cn dy q2 fun E C m s' H' J2 fC hm q=>?_
 show wpAny _ X.A (assign (.Name y py) X.env (.ref E)) _ _ s';refine Zu (store_ok2 J2 hN cy (.inl hy) (v:=.ref E) rfl (fun s3 J3 ⟨a,g6,ha⟩=>?_) (.inr hy))
 have dZ:C≠a :=by
  rcases ha with z|z
  ·rw[z];exact fC.2.1
  ·exact fun w=>fC.2.2.2.2.1 _ _ z w.symm
 exact⟨m,hm.sameBut g6 dZ,fun h' iK=>⟨_,H',fC.turn J3 iK,q⟩⟩
end
theorem IE {scope:sB}{env:IN}{x:bi}(h:scope.names.lookup x=some .cell\/scope.names.lookup x=some .free):(relabel scope env).names.lookup x=some .cell\/(relabel scope env).names.lookup x=some .free :=by
 rw[dY];rcases h with h|h
 ·rw[h];exact .inl rfl
 ·rw[h];simp only[BY];split
  ·exact .inl rfl
  ·exact .inr rfl
theorem aD.rel {N:List bi}{sc scope:sB}{env:IN}{N':List bi}{tn:Nat}{idx:List Nat}(B:aD N sc scope N' tn idx):aD N (relabel sc env) scope N' tn idx:=
 ⟨B.1,fun y hy=>⟨(B.2.1 y hy).1,(B.2.1 y hy).2.1,fun z=>IE ((B.2.1 y hy).2.2 z)⟩,B.2.2.1,B.2.2.2⟩
end L2
namespace L2
open PySem PySem.Spec PySem.W PyProof.Rows
section
variable {X:Cx}{Γ:Gz}{β:Bz}{K:ba}
def boolsD:List Dv->Option (List Bool)
 | []=>some []
 | .bl b::ds=>(boolsD ds).map (b::·)
 |_::_=>none
theorem pT:∀{ds:List Dv}{bs:List Bool},boolsD ds=some bs->ds=bs.map Dv.bl
 | [],bs,h=>by simp only[boolsD,FS]at h;subst h;rfl
 |d::ds,bs,h=>by
          cases d with
          |bl b=>
           simp only[boolsD,lc]at h;obtain⟨ms,h,rfl⟩:=h;rw[pT h];rfl
          |_=>simp[boolsD]at h
theorem oi:∀bs:List Bool,boolsD (bs.map Dv.bl)=some bs
 | []=>rfl
 |n::ns=>by simp[boolsD,oi ns]
theorem pU {M:Mh}{H:Hp}:∀{vs:List V}{bs:List Bool},aJ β M H vs (bs.map Dv.bl)->vs=bs.map V.bl
 | [],[],_=>rfl
 | [],_::_,r=>absurd r.len (by simp)
 |_::_,[],r=>absurd r.len (by simp)
 |v::vs,n::ns,r=>by
          rw[mo]at r;rw[mo,d6 r.head,pU r.tail]
def zAllB (d:Dv) (M:Mh) (Q:ZK):Prop:=match d with | .lst ds=>(match boolsD ds with|some bs=>Q (.bl (bs.all id)) M|none=>False)|_=>False
theorem FQ (hK:X.K=K) (hc:X.calm=true):eA Γ X (.builtin "all") (z1 zAllB):=⟨_,CI hK hc,fun β xs ds M H Q Q' _ _ _ m rs z q=>by
 unfold z1 at z;split at z
 ·obtain⟨x,rfl,r⟩:=cF rs;unfold zAllB at z;split at z
  ·split at z
   ·rename_i bs PR;obtain⟨a,vs,rfl,f,ha,cw⟩:=dS r;have e:=pT PR;subst e;have:=pU cw;subst this;exact⟨a,bs,rfl,bL.of ha,q _ _ _ _ (.refl m) (.bl _) z⟩
   ·exact z.elim
  ·exact z.elim
 ·exact z.elim⟩
theorem Pin.mono {M M':Mh}{d:Dv}(h:Pin M d):(∀a,(M a).isSome=true->(M' a).isSome=true)->Pin M' d :=by
 intro k;induction h with
 |int i=>exact .int i
 |bl b=>exact .bl b
 |ax=>exact .ax
 |str z=>exact .str z
 |tup h ih=>exact .tup ih
 |lst h ih=>exact .lst ih
 |dk h ih=>exact .dk ih
 |dt h ih=>exact .dt ih
 |b7 h ih=>exact .b7 ih
 |set ns=>exact .set ns
 |ptr h=>exact .ptr (k _ h)
 |exc C=>exact .exc C
 |bK ns=>exact .bK ns
 |raw v=>exact .raw v
def bC (M:Mh) (a:ag):Mh:=fun b=>if b=a then none else M b
theorem b9 {M:Mh}{a:ag}:bC M a a=none :=by unfold bC;rw[if_pos rfl]
theorem bI {M:Mh}{a b:ag}(h:b≠a):bC M a b=M b :=by unfold bC;rw[if_neg h]
theorem C2 {M:Mh}{a:ag}{o:Mo}(h:M a=none):bC (aw M a o) a=M :=by
 funext b
 unfold bC aw;by_cases e:b=a
 ·rw[if_pos e,e,h]
 ·rw[if_neg e,if_neg e]
structure C3 (M1 M:Mh) (ρ:aC):Prop where
 env:∀(i:Nat) (d:Dv),ρ[i]?=some (some d)->Pin M d
 obj:∀b o,M b=some o->M1 b=some o\/∀d∈o.items,Pin M d
theorem Zr.freeze {M:Mh}{ρ:aC}{σ:St}{H:Hp}{i:Nat}{a:ag}{ds:List Dv}(z:Zr Γ β M ρ σ H) (hi:ρ[i]?=some (some (.ptr a))) (ha:M a=some (.lst ds)) (h0:Γ.M0 a=none) (fr:C3 Γ.M0 (bC M a) (ρ.set i (some (.lst ds)))) :
  Zr Γ β (bC M a) (ρ.set i (some (.lst ds))) σ H/\Ev β M H (bC M a) H :=by
 have rz:∀{v:V} {d:Dv},Rz β M H v d->Pin (bC M a) d->Rz β (bC M a) H v d:=fun r p=>r.n8 (M0:=bC M a) (fun b hb=>by
  by_cases e:b=a
  ·rw[e,b9]at hb;cases hb
  ·rw[bI e]at hb;exact hb) p
 have gP:i<ρ.length:=(ca.mp hi).1;have PU:∀d∈ds,Pin (bC M a) d:=fun d hd=>by
  have:=fr.env i (.lst ds) (by rw[TW gP])
  cases this with|lst h=>exact h d hd
 have obj:∀b es,bC M a b=some es->∀d∈es.items,Pin (bC M a) d:=fun b es e d hd=>by
  rcases fr.obj b es e with q|q
  ·refine(z.wf b es q d hd).mono fun c hc=>?_
   have nc:c≠a:=fun w=>by rw[w,h0]at hc;cases hc
   rw[bI nc];exact z.ent.dom c hc
  ·exact q d hd
 have mz:Mz β (bC M a) H :=by
  refine⟨fun b o e=>?_,z.mz.tabs,z.mz.hids,fun b o e=>?_,z.mz.lams⟩
  ·have nb:b≠a:=fun q=>by rw[q,b9]at e;cases e
   have e':M b=some o :=by rw[bI nb]at e;exact e
   have q:=z.mz.obj b o e';cases o with
   |lst es=>obtain⟨vs,hv,rs⟩:=q;exact⟨vs,hv,rs.len,fun j v d x y=>rz (rs.at' j v d x y) (obj b _ e d (cr y))⟩
   |dk ks es=>obtain⟨vs,hv,hk,rs⟩:=q;exact⟨vs,hv,hk,rs.len,fun j v d x y=>rz (rs.at' j v d x y) (obj b _ e d (cr y))⟩
   |dt ks es=>obtain⟨vs,hv,hk,rs⟩:=q;exact⟨vs,hv,hk,rs.len,fun j v d x y=>rz (rs.at' j v d x y) (obj b _ e d (cr y))⟩
   |cH=>exact q
  ·have nb:b≠a:=fun q=>by rw[q,b9]at e;cases e
   rw[bI nb]at e;exact z.mz.apart b o e
 refine⟨⟨z.eP,z.ew,z.eK,z.et,z.sub,z.wf,⟨z.ent.keep,fun b hb=>?_,fun b o m h=>?_⟩,mz,by simp[z.len],fun j d e=>?_⟩,⟨fun b o _ h=>.inl h,fun b o m h=>?_,mz⟩⟩
 ·have nb:b≠a:=fun q=>by rw[q,h0]at hb;cases hb
  rw[bI nb];exact z.ent.dom b hb
 ·by_cases e:b=a
  ·rw[e,b9]
  ·rw[bI e];exact z.ent.new b o m h
 ·have p:=fr.env j d e;rw[Zx]at e;split at e
  ·rename_i q;subst q;first
    |cases e
    |(rw[if_pos gP]at e;cases e)
   obtain⟨v,hv,r⟩:=z.at' i _ hi;obtain⟨rfl,_⟩:=bF r;obtain⟨vs,hl,rs⟩:=z.mz.obj a _ ha;refine⟨_,hv,.lst ⟨b9,z.mz.apart a _ ha⟩ hl rs.len fun k v d x y=>rz (rs.at' k v d x y) (PU d (cr y))⟩
  ·obtain⟨v,hv,r⟩:=z.at' j d e;exact⟨v,hv,rz r p⟩
 ·by_cases e:b=a
  ·rw[e,b9]
  ·rw[bI e];exact m
def VW (i:Nat) (M0:Mh) (p:cN):cN:=fun D ρ M=>p D ρ M\/∃a ds,ρ[i]?=some (some (.ptr a))/\M a=some (.lst ds)/\M0 a=none/\C3 M0 (bC M a) (ρ.set i (some (.lst ds)))/\p D (ρ.set i (some (.lst ds))) (bC M a)
theorem PV (i:Nat) {M1:Mh}{st:sw}{p:cN}(hM:Γ.M0=M1) (h:QS Γ X st p):QS Γ X st (VW i M1 p):=h.imp fun D σ H ⟨β,ρ,M,D',zr,h,r⟩=>by
 rcases h with h|⟨a,ds,hi,ha,h0,fr,h⟩
 ·exact⟨β,ρ,M,D',zr,h,r⟩
 ·obtain⟨z2,e2⟩:=zr.freeze hi ha (by rw[hM];exact h0) (by rw[hM];exact fr)
  exact⟨β,_,_,D',z2,h,r.step e2⟩
end
section
variable {X:Cx}{Γ:Gz}{β:Bz}
def PX (neg:Bool):R2:=fun x y H Q=>∃(p:ag) (xs:List V) (d:Dt) (ds:List Dt),y=.ref p/\H p=some (.lst xs)/\ez H x d/\xs.length=ds.length/\(∀(i:Nat) (v:V) (t:Dt),xs[i]?=some v->ds[i]?=some t->ez H v t) /\
 (∀t∈ds,jW t<=60)/\Q (.bl (if neg then !(ds.any fun t=>da t d) else ds.any fun t=>da t d)) H
open Classical in
theorem PY {pins:List (ag×kw)}{σ:St}{H:Hp}{s:ar}(I:Inv X pins σ H s) {x:V}{v:al}{d:Dt}{xs:List V}{ds:List Dt}{its:List al}(rx:RelV x v) (hx:ez H x d) (rv:Vals xs its) (hl:xs.length=ds.length)
  (lj:∀(i:Nat) (v:V) (t:Dt),xs[i]?=some v->ds[i]?=some t->ez H v t) (PZ:∀t∈ds,jW t<=60) (hu:X.A.units+64<cLine) :
  ∃e:al->Bool,(∀y∈its,l4 X.A.in1 s y v (e y))/\its.any e=ds.any fun t=>da t d :=by
 have oI:=rv.length;let e:al->Bool:=fun y=>decide (∃(i:Nat) (t:Dt),its[i]?=some y/\ds[i]?=some t/\da t d=true)
 have key:∀(i:Nat) (y:al) (t:Dt),its[i]?=some y->ds[i]?=some t->e y=da t d:=fun i y t hi ht=>by
  cases hE:da t d with
  |true=>exact decide_eq_true ⟨i,t,hi,ht,hE⟩
  |false=>
   refine decide_eq_false fun⟨j,t',hj,Xw,he⟩=>?_
   obtain⟨a,ha,ra⟩:=kr rv hi;obtain⟨b,hb,rb⟩:=kr rv hj;have Xx:=ra.inj rb;subst Xx;have:=(lj i a t ha ht).inj (lj j a t' hb Xw);subst this;rw[he]at hE;cases hE
 refine⟨e,fun y hy=>?_,?_⟩
 ·obtain⟨i,hi⟩:=l7.mp hy;obtain⟨a,ha,ra⟩:=kr rv hi;have lK:i<ds.length :=by
   have:=(ca.mp ha).1;omega
  have ht:=ap lK;rw[key i y _ hi ht];refine yj I (lj i a _ ha ht) hx ra rx ?_;have:=PZ _ (tz lK);have:X.A.in1.units=X.A.units+1:=rfl;omega
 ·rw[Op,Rs,Rs];constructor
  ·rintro⟨y,hy,he⟩;obtain⟨i,t,_,ht,h⟩:=of_decide_eq_true he;exact⟨t,cr ht,h⟩
  ·rintro⟨t,ht,h⟩;obtain⟨i,hi⟩:=l7.mp ht;have lK:i<its.length :=by
    have:=(ca.mp hi).1;omega
   exact⟨_,tz lK,by rw[key i _ t (ap lK) hi];exact h⟩
theorem FR (hu:X.A.units+64<cLine):OpR X (compareOp .NotIn) (PX true) :=by
 intro pins s σ H x y v u Q I rx ry h;obtain⟨p,xs,d,ds,rfl,hp,hx,hl,lj,PZ,q⟩:=h;cases ry;obtain⟨its,rv,pl⟩:=I.lists hp;obtain⟨e,he,VX⟩:=PY I rx hx rv hl lj PZ hu;refine SeqAt.notIn_listAt e pl (fun y hy=>he y (by simpa using hy)) ⟨.bl _,H,I,rfl,?_⟩
 rw[show its.toArray.any e=its.any e by simp,VX]
 exact q
def yM (neg:Bool):fv:=fun d e M Q=>match bW (now M d),(now M e) with
 |some a,.lst ds=>(match ip ds with|some ts=>(∀t∈ts,jW t<=60)/\Q (.bl (if neg then !(ts.any fun t=>da t a) else ts.any fun t=>da t a)) M|none=>False)
 |_,_=>False
theorem L4 {neg:Bool}:rq Γ (PX neg) (yM neg):=fun β x y d e M H Q Q' _ _ _ m rx ry z q=>by
 unfold yM at z;split at z
 ·rename_i a ds h1 h2;split at z
  ·rename_i ts Xy;have hy:ez H y (.lst ts):=qG m ry (by rw[h2];simp only[bW,Xy,BY])
   have hx:ez H x a:=qG m rx h1;cases hy with
   |lst e hl lj=>exact⟨_,_,a,ts,rfl,e,hx,hl,lj,z.1,q _ _ _ _ (.refl m) (.bl _) z.2⟩
  ·exact z.elim
 ·exact z.elim
theorem IG (hu:X.A.units+64<cLine):fY Γ X (compareOp .NotIn) (yM true):=⟨_,FR hu,L4⟩
end
end L2
namespace L2
open PySem PySem.Spec PyProof.Rows
section
variable {κ:Type} [DecidableEq κ] {α:Type}
def look:List κ->List α->κ->Option α
 |k::ks,d::ds,x=>if k=x then some d else look ks ds x
 |_,_,_=>none
def jL:List κ->List α->κ->α->List α
 |k::ks,d::ds,x,y=>(if k=x then y else d)::jL ks ds x y
 |_,_,_,_=>[]
def putL (ks:List κ) (k:κ):List κ:=if k∈ks then ks else ks++[k]
def dR (ks:List κ) (ds:List α) (k:κ) (d:α):List α:=if k∈ks then jL ks ds k d else ds++[d]
theorem gr {x:κ}:∀{ks:List κ}{ds:List α},ks.length=ds.length->(look ks ds x=none ↔ x ∉ ks)
 | [],[],_=>by simp[look]
 |k::ks,d::ds,h=>by
          have ih:=gr (x:=x) (ks:=ks) (ds:=ds) (by simpa using h)
          unfold look;by_cases e:k=x
          ·simp[e]
          ·rw[if_neg e,ih,i4];constructor
           ·rintro a (b|b)
            ·exact e b.symm
            ·exact a b
           ·exact fun a b=>a (.inr b)
 | [],_::_,h=>by simp at h
 |_::_,[],h=>by simp at h
theorem jz (x:κ):∀(ks:List κ) (vs:List V),fU (ks.zip vs) x=look ks vs x
 | [],vs=>by cases vs<;>rfl
 |_::_,[]=>rfl
 |k::ks,v::vs=>by
          rw[TD];unfold look;by_cases e:k=x
          ·rw[if_pos e];exact nS (p:=(k,v)) e
          ·rw[if_neg e,nU (p:=(k,v)) e];exact jz x ks vs
theorem yN (x:κ):∀(ks:List κ) (ds:List α) {d:α},look ks ds x=some d->∃i:Nat,ks[i]?=some x/\ds[i]?=some d/\∀{β:Type}(es:List β),look ks es x=es[i]?
 | [],ds,d,h=>by cases ds<;>cases h
 |_::_,[],d,h=>by cases h
 |k::ks,e::ds,d,h=>by
          unfold look at h;by_cases q:k=x
          ·rw[if_pos q]at h;cases h;refine⟨0,by rw[q];rfl,rfl,fun es=>?_⟩
           cases es with
           |nil=>rfl
           |cons a es=>unfold look;rw[if_pos q];rfl
          ·rw[if_neg q]at h;obtain⟨i,a,b,c⟩:=yN x ks ds h;refine⟨i+1,a,b,fun es=>?_⟩
           cases es with
           |nil=>rfl
           |cons y es=>unfold look;rw[if_neg q,c es];rfl
theorem lL (x:κ):∀(ks:List κ) (ds:List α) {β:Type}(es:List β),ds.length=es.length->look ks ds x=none->look ks es x=none
 | [],ds,_,es,_,_=>by cases es<;>rfl
 |_::_,[],_,es,h,_=>by cases es with
  |nil=>rfl
  |cons _ _=>simp at h
 |k::ks,d::ds,_,[],h,_=>by simp at h
 |k::ks,d::ds,_,e::es,h,q=>by
          unfold look at q ⊢;by_cases z:k=x
          ·rw[if_pos z]at q;cases q
          ·rw[if_neg z]at q ⊢;exact lL x ks ds es (by simpa using h) q
theorem v7 (x:κ) (y:α):∀(ks:List κ) (ds:List α),ks.length=ds.length->(jL ks ds x y).length=ds.length
 | [],[],_=>rfl
 |k::ks,d::ds,h=>by unfold jL;rw[AL,v7 x y ks ds (by simpa using h)];rfl
 | [],_::_,h=>by simp at h
 |_::_,[],h=>by simp at h
theorem oj {ks:List κ}{ds:List α}(h:ks.length=ds.length) (k:κ) (d:α):(putL ks k).length=(dR ks ds k d).length :=by
 unfold putL dR;split
 ·rw[v7 _ _ _ _ h,h]
 ·simp[h]
theorem v8 (x:κ) (y:V):∀(ks:List κ) (vs:List V),ks.length=vs.length->(ks.zip vs).map (fun kv=>if kv.1=x then (kv.1,y) else kv)=ks.zip (jL ks vs x y)
 | [],[],_=>rfl
 |k::ks,d::ds,h=>by
          unfold jL;rw[TD,TD,mo,v8 x y ks ds (by simpa using h)]
          congr 1
          dsimp only;split<;>rfl
 | [],_::_,h=>by simp at h
 |_::_,[],h=>by simp at h
theorem qM {ks:List κ}{vs:List V}(h:ks.length=vs.length) (k:κ) (v:V):putK (ks.zip vs) k v=(putL ks k).zip (dR ks vs k v) :=by
 have e:((ks.zip vs).any fun kv=>decide (kv.1=k))=decide (k∈ks) :=by
  rw[rU,jz];cases q:look ks vs k with
  |none=>exact(decide_eq_false ((gr h).mp q)).symm
  |some x=>
   have hm:k∈ks:=Classical.byContradiction fun z=>by rw[(gr h).mpr z]at q;cases q
   rw[decide_eq_true hm];rfl
 unfold putK putL dR;rw[e];by_cases q:k∈ks
 ·rw[if_pos (decide_eq_true q),if_pos q,if_pos q];exact v8 k v ks vs h
 ·rw[if_neg (by rw[decide_eq_false q];exact i0),if_neg q,if_neg q,List.zip_append h]
  rfl
end
section
variable {β:Bz}{M:Mh}{H:Hp}{κ:Type} [DecidableEq κ]
theorem wa (x:κ) {v:V}{d:Dv}(r:Rz β M H v d):∀(ks:List κ) (vs:List V) (ds:List Dv),aJ β M H vs ds->aJ β M H (jL ks vs x v) (jL ks ds x d)
 | [],_,_,_=>by
          unfold jL;exact .nil
 |_::_,[],[],_=>.nil
 |_::_,[],_::_,h=>absurd h.len (by simp)
 |_::_,_::_,[],h=>absurd h.len (by simp)
 |k::ks,u::vs,e::ds,h=>by
          unfold jL;refine .cons ?_ (wa x r ks vs ds h.tail);split
          ·exact r
          ·exact h.head
theorem lM (x:κ) {v:V}{d:Dv}(r:Rz β M H v d) {ks:List κ}{vs:List V}{ds:List Dv}(h:aJ β M H vs ds):aJ β M H (dR ks vs x v) (dR ks ds x d) :=by
 unfold dR;split
 ·exact wa x r ks vs ds h
 ·exact h.snoc r
theorem sd {ks:List κ}{vs:List V}{ds:List Dv}(rs:aJ β M H vs ds) {x:κ}{o:Option Dv}(h:look ks ds x=o):∃ov,fU (ks.zip vs) x=ov/\ov.isSome=o.isSome/\∀r,o=some r->∃v,ov=some v/\Rz β M H v r :=by
 rw[jz];cases o with
 |none=>exact⟨none,lL x ks ds vs rs.len.symm h,rfl,fun r e=>nomatch e⟩
 |some r=>
  obtain⟨i,a,b,c⟩:=yN x ks ds h;obtain⟨v,hv,rv⟩:=rs.get b;exact⟨some v,(c vs).trans hv,rfl,fun r' e=>by cases e;exact⟨v,rfl,rv⟩⟩
end
def keyD:Dv->Option Key
 | .int i=>some (.inl i)
 | .str z=>some (.inr z)
 |_=>none
def fD:List Dv->Option (List Key)
 | []=>some []
 |d::ds=>match keyD d,fD ds with|some k,some ks=>some (k::ks)|_,_=>none
theorem om:∀(ns:List Int),fD (ns.map Dv.int)=some (ns.map Pf)
 | []=>rfl
 |n::ns=>by rw[mo,fD,om ns];rfl
def nowK (M:Mh):Dv->Dv
 | .ptr a=>match M a with|some (.dk ks ds)=>.dk ks ds|some (.dt ks ds)=>.dt ks ds|_=>.ptr a
 |d=>d
def lookD (M:Mh) (d e:Dv):Option (Option Dv):=match nowK M d with
 | .dk ks ds=>(match keyD e with|some k=>some (look ks ds k)|none=>none)
 | .dt ks ds=>(match e with | .tup es=>(match fD es with|some k=>some (look ks ds k)|none=>none)|_=>none)
 |_=>none
section
variable {X:Cx}{Γ:Gz}{β:Bz}{K:ba}{M:Mh}{H:Hp}
theorem uR {y:V}{e:Dv}{k:Key}(r:Rz β M H y e) (h:keyD e=some k):y=kV k :=by
 cases e with
 |int i=>cases h;exact aV r
 |str z=>cases h;exact dU r
 |_=>cases h
theorem jA:∀{es:List Dv}{ks:List Key}{vs:List V},aJ β M H vs es->fD es=some ks->vs=ks.map kV
 | [],ks,vs,rs,h=>by
          cases h;cases vs with
          |nil=>rfl
          |cons _ _=>exact absurd rs.len (by simp)
 |e::es,ks,[],rs,h=>absurd rs.len (by simp)
 |e::es,ks,v::vs,rs,h=>by
          unfold fD at h;split at h
          ·rename_i k Uy h1 h2;cases h;rw[mo,uR rs.head h1,jA rs.tail h2]
          ·cases h
theorem qN (m:Mz β M H) {x:V}{d:Dv}(r:Rz β M H x d):(∀ks ds,nowK M d=.dk ks ds->∃a vs,x=.ref a/\Rd H a (.dK (ks.zip vs))/\ks.length=vs.length/\aJ β M H vs ds) /\
  (∀ks ds,nowK M d=.dt ks ds->∃a vs,x=.ref a/\Rd H a (.dT (ks.zip vs))/\ks.length=vs.length/\aJ β M H vs ds) :=by
 cases r with
 |dk f e hk hl h=>exact⟨fun ks ds q=>(by cases q;exact⟨_,_,rfl,e,hk,hl,h⟩),fun ks ds q=>by cases q⟩
 |dt f e hk hl h=>exact⟨fun ks ds q=>(by cases q),fun ks ds q=>by cases q;exact⟨_,_,rfl,e,hk,hl,h⟩⟩
 | @ptr a hs=>
  simp only[nowK];cases q2:M a with
  |none=>rw[q2]at hs;cases hs
  |some o=>
   have q:=m.obj a o q2;cases o with
   |dk ks ds=>obtain⟨vs,e,hk,rs⟩:=q;exact⟨fun ks ds q=>(by cases q;exact⟨_,_,rfl,.inl e,hk,rs⟩),fun ks ds q=>by cases q⟩
   |dt ks ds=>obtain⟨vs,e,hk,rs⟩:=q;exact⟨fun ks ds q=>(by cases q),fun ks ds q=>by cases q;exact⟨_,_,rfl,.inl e,hk,rs⟩⟩
   |_=>exact⟨fun ks ds q=>(by cases q),fun ks ds q=>by cases q⟩
 |_=>exact⟨fun ks ds q=>(by cases q),fun ks ds q=>(by cases q)⟩
theorem oo (m:Mz β M H) {x y:V}{d e:Dv}{o:Option Dv}(r:Rz β M H x d) (re:Rz β M H y e) (h:lookD M d e=some o):∃a ov,x=.ref a/\m5 H a y ov/\ov.isSome=o.isSome/\∀r,o=some r->∃v,ov=some v/\Rz β M H v r :=by
 unfold lookD at h;obtain⟨h1,h2⟩:=qN m r;split at h
 ·rename_i ks ds q;obtain⟨a,vs,rfl,ha,hk,rs⟩:=h1 ks ds q;split at h
  ·rename_i k tT;rw[uR re tT];obtain⟨ov,e1,e2,e3⟩:=sd rs (ij h);subst e1;exact⟨a,_,rfl,.inl ⟨_,k,ha,rfl,rfl⟩,e2,e3⟩
  ·cases h
 ·rename_i ks ds q;obtain⟨a,vs,rfl,ha,hk,rs⟩:=h2 ks ds q;split at h
  ·split at h
   ·rename_i k tT;obtain⟨b,us,rfl,_,hb,ru⟩:=cE re;rw[jA ru tT]at hb;obtain⟨ov,e1,e2,e3⟩:=sd rs (ij h);subst e1;exact⟨a,_,rfl,.inr ⟨_,k,b,ha,rfl,hb,rfl⟩,e2,e3⟩
   ·cases h
  ·cases h
 ·cases h
def zGetR:fv:=fun d e M Q=>match lookD M d e with|some (some r)=>Q r M|_=>False
theorem uS {a b:c8}{pa pb:aM}{pos:u7}(hu:X.A.units+64<cLine) (ha:QE Γ X a pa) (hb:QE Γ X b pb) (hs:Iq b):QE Γ X (.Subscript a b pos) (zOp zGetR pa pb):=
 (LL (by omega) ha hb hs).imp fun σ H Q ⟨β,ρ,M,Q',zr,h,q⟩=>⟨β,ρ,M,_,zr,h,fun d M1 v H1 x1 r1 h1=>⟨β,ρ,M1,_,zr.step x1,h1,fun e M2 u H2 x2 r2 h2=>by
  unfold zGetR at h2;split at h2
  ·rename_i r hl;obtain⟨a,ov,rfl,g,_,e3⟩:=oo x2.mz (r1.ex x2) r2 hl;obtain⟨w,rfl,gf⟩:=e3 r rfl;exact⟨a,w,rfl,g,q _ _ _ _ (x1.trans x2) gf h2⟩
  ·exact h2.elim⟩⟩
def zDIn (neg:Bool):fv:=fun e d M Q=>match lookD M d e with|some o=>Q (.bl (if neg then !o.isSome else o.isSome)) M|none=>False
def P0 (neg:Bool):R2:=fun y x H Q=>∃a o,x=.ref a/\m5 H a y o/\Q (.bl (if neg then !o.isSome else o.isSome)) H
theorem L5 {neg:Bool}:rq Γ (P0 neg) (zDIn neg):=fun β x y d e M H Q Q' _ _ _ m rx ry z q=>by
 unfold zDIn at z;split at z
 ·rename_i o hl;obtain⟨a,ov,rfl,g,e2,_⟩:=oo m ry rx hl;refine⟨a,ov,rfl,g,?_⟩;rw[e2];exact q _ _ _ _ (.refl m) (.bl _) z
 ·exact z.elim
theorem se (hu:X.A.units+64<cLine):fY Γ X (compareOp .NotIn) (zDIn true):=⟨P0 true,fun pins s σ H x y v u Q I rx ry ⟨a,o,e,g,q⟩=>by
 subst e;cases (show u=l6 a from ry);exact LJ (by omega) I g rx fun s3 I3=>⟨.bl (!o.isSome),H,I3,rfl,q⟩,L5⟩
def zMGet:oO:=fun d ds M Q=>match ds with
 | [e]=>(match lookD M d e with|some o=>Q (o.getD .ax) M|none=>False)
 | [e,z]=>(match lookD M d e with|some o=>Q (o.getD z) M|none=>False)
 |_=>False
def SW:V->List V->Hp->VK->Prop:=fun x xs H Q=>(∃a y o,x=.ref a/\xs=[y]/\m5 H a y o/\Q (o.getD .ax) H)\/∃a y z o,x=.ref a/\xs=[y,z]/\m5 H a y o/\Q (o.getD z) H
theorem P1 (hu:X.A.units+64<cLine):rB Γ X "dict" "dict.get" K zMGet:=⟨SW,fun pins s σ H x xs v us Q I rx rs h=>by
 rcases h with ⟨a,y,o,rfl,rfl,g,q⟩|⟨a,y,z,o,rfl,rfl,g,q⟩
 ·cases (show v=l6 a from rx);cases rs with
  |cons r1 rs=>cases rs;exact Pb (by omega) I g r1 fun w' s3 I3 gf=>⟨_,H,I3,gf,q⟩
 ·cases (show v=l6 a from rx);cases rs with
  |cons r1 rs=>cases rs with
   |cons r2 rs=>cases rs;exact Pg (by omega) I g r1 r2 fun w' s3 I3 gf=>⟨_,H,I3,gf,q⟩,fun β x xs d ds M H Q Q' _ _ _ m rx rs z q=>by
 unfold zMGet at z;split at z
 ·split at z
  ·rename_i o hl;obtain⟨y,rfl,ry⟩:=cF rs;obtain⟨a,ov,rfl,g,e2,e3⟩:=oo m rx ry hl;refine .inl ⟨a,y,ov,rfl,rfl,g,?_⟩;cases o with
   |none=>cases ov with
    |none=>exact q _ _ _ _ (.refl m) .ax z
    |some _=>cases e2
   |some r=>
    obtain⟨w,rfl,gf⟩:=e3 r rfl;exact q _ _ _ _ (.refl m) gf z
  ·exact z.elim
 ·split at z
  ·rename_i o hl;obtain⟨y,u,rfl,ry,ru⟩:=jv rs;obtain⟨a,ov,rfl,g,e2,e3⟩:=oo m rx ry hl;refine .inr ⟨a,y,u,ov,rfl,rfl,g,?_⟩;cases o with
   |none=>cases ov with
    |none=>exact q _ _ _ _ (.refl m) ru z
    |some _=>cases e2
   |some r=>
    obtain⟨w,rfl,gf⟩:=e3 r rfl;exact q _ _ _ _ (.refl m) gf z
  ·exact z.elim
 ·exact z.elim⟩
end
section
variable {β:Bz}{M:Mh}{H:Hp}{D:ag}{o':Mo}{u:HO}
theorem L6 {v:V}{d:Dv}(r:Rz (β.add D) M H v d):Rz β (aw M D o') (upd H D u) v d :=by
 have na:∀a,Fz (β.add D) M a->a≠D:=fun a f z=>f.2 (by rw[z];exact i8)
 have ne:∀a,Fz (β.add D) M a->Fz β (aw M D o') a:=fun a f=>⟨by rw[ao (na a f)];exact f.1,fun z=>f.2 (en _ z)⟩
 have pre:∀a x,Fz (β.add D) M a->H a=some x->upd H D u a=some x:=fun a x f e=>by rw[ah (na a f)];exact e
 induction r with
 |int i=>exact .int i
 |bl b=>exact .bl b
 |ax=>exact .ax
 |str z=>exact .str z
 |tup m e hl h ih=>exact .tup (ne _ m) (pre _ _ m e) hl ih
 |lst m e hl h ih=>exact .lst (ne _ m) (pre _ _ m e) hl ih
 |dk m e hk hl h ih=>exact .dk (ne _ m) (e.map fun _ h=>pre _ _ m h) hk hl ih
 |dt m e hk hl h ih=>exact .dt (ne _ m) (e.map fun _ h=>pre _ _ m h) hk hl ih
 |b7 m e m2 e2 hl h ih=>exact .b7 (ne _ m) (pre _ _ m e) (ne _ m2) (pre _ _ m2 e2) hl ih
 |set m e=>exact .set (ne _ m) (pre _ _ m e)
 |ptr m=>exact .ptr (by unfold aw;split;rfl;exact m)
 |exc m e=>exact .exc (ne _ m) (pre _ _ m e)
 |bK m e=>exact .bK (ne _ m) (pre _ _ m e)
 |cY m e=>exact .cY (ne _ m) (pre _ _ m e)
 |cZ e=>exact .cZ e
 |raw v=>exact .raw v
theorem lN {vs:List V}{ds:List Dv}(r:aJ (β.add D) M H vs ds):aJ β (aw M D o') (upd H D u) vs ds:=⟨r.len,fun i v d a b=>L6 (r.at' i v d a b)⟩
theorem Ex.FT {M2:Mh}{H2:Hp}{o:HO}(x:Ex β M H M2 H2) (hD:D∈β.hid) (m:M D=none) (h:H D=some o) (ho:lu o=true):H2 D=some o :=by
 rcases x.keep D o m h with q|⟨o',t,q⟩
 ·exact q
 ·rcases t with ⟨_,_,rfl,_⟩|⟨_,_,rfl,_⟩|⟨_,ob,rfl⟩
  ·cases ho
  ·cases ho
  ·obtain⟨w,e,n⟩:=x.mz.hids D hD;rw[q]at e;cases e;cases n
theorem Mz.P2 (m:Mz (β.add D) M H) (hM:M D=none) (hD:D ∉ β.hid) (nt:D ∉ β.tb) (hu:pI u=true) (r:jY β (aw M D o') (upd H D u) D o'):Mz β (aw M D o') (upd H D u) :=by
 obtain⟨oD,eD,nD⟩:=m.hids D i8;refine⟨fun a o e=>?_,fun q hq=>?_,fun a ha=>(m.hids a (en _ ha)).upd (.inr hu),fun a o e z=>?_,fun q hq=>?_⟩
 ·by_cases ha:a=D
  ·subst ha;rw[updM_same]at e;cases e;exact r
  ·rw[ao ha]at e;have z:=m.obj a o e;cases o with
   |lst ds=>obtain⟨vs,z,rs⟩:=z;exact⟨vs,by rw[ah ha];exact z,lN rs⟩
   |dk ks ds=>obtain⟨vs,z,hk,rs⟩:=z;exact⟨vs,by rw[ah ha];exact z,hk,lN rs⟩
   |dt ks ds=>obtain⟨vs,z,hk,rs⟩:=z;exact⟨vs,by rw[ah ha];exact z,hk,lN rs⟩
   |cH=>obtain⟨c,n,z,q⟩:=z;exact⟨c,n,by rw[ah ha];exact z,q⟩
 ·obtain⟨ps,e,t⟩:=m.tabs q hq;exact⟨ps,by rw[ah (show q≠D from fun z=>nt (by rw[<- z];exact hq))];exact e,t⟩
 ·by_cases ha:a=D
  ·exact hD (ha▸z)
  ·rw[ao ha]at e;exact m.apart a o e (en _ z)
 ·exact(m.lams q hq).keep (fun _ e=>by rw[ah (fun z=>by subst z;rw[eD]at e;cases e;cases nD)];exact e) fun c _ _ e=>by rw[ah (fun z=>by subst z;rw[eD]at e;cases e;cases nD)];exact e
end
section
variable {X:Cx}{pos:u7}
def L7 (tk tv:TE):TE:=fun σ H Q=>∀p,H p=none->tk σ (upd H p (.dT [])) fun x H1=>tv σ H1 fun y H2=>H2 p=some (.dT [])/\∃b k,x=.ref b/\H2 b=some (.tup (k.map kV))/\Q (.ref p) (upd H2 p (.dT [(k,y)]))
theorem FU {k v:c8}{tk tv:TE}(hu:X.A.units+1<cLine) (hk:PE X k tk) (hv:PE X v tv):PE X (.Dict [some k] [v] pos) (L7 tk tv) :=by
 refine⟨?_⟩;intro pins s σ H Q I q;have hn:=I.hok.fresh (cb s.heap.objs.size);have I1:=I.laid (a:=s.heap.objs.size) (o:=.dT []) (h':=s.heap.push {cls:=.type "dict",data:=.dict #[]}) (t':=s.toks) (fun _ _ q=>br _ q) (cb _) (yt s.heap I.big)
 refine wpAny_Dict_any rfl rfl (by simp) (by simp) (pairTrees_cons_walk (thn (hk pins _ σ _ _ I1 (q _ hn)) fun w1 s2 ⟨x,H1,I2,rx,q1⟩=>thn (hv pins s2 σ H1 _ I2 q1) fun w2 s3 ⟨y,H2,I3,ry,hp,b,ks,ex,hb,q2⟩=>pairTrees_nil_walk ?_))
 subst ex;cases (show w1=l6 b from rx);unfold storeAll;rw[ZV];obtain⟨z,hd,xs,rel,dd⟩:=w6 I3.hok hp;cases rel;refine ac (ac (wpAny_dictSet_heap (knd:=tupleKind (bA X.prog X.w)) (by show X.A.units<cLine;omega) (i9 I3.hok hb) dd (fun h' nv hs=>bn ?_) (by simp)))
 dsimp only;rw[List.forIn_nil];refine bn ⟨.ref s.heap.objs.size,_,?_,rfl,q2⟩;obtain⟨o,es,ep,ho,h2,h3,h4,h5,h6⟩:=nv;have he:storedH ([]:List (List Key×ag×al)) ks b w2=[(ks,b,w2)]:=rfl;rw[he]at h4 h6;refine kU I3 (by rw[hp];exact LF) hs ⟨o,ho⟩ ⟨by show 1<=sizeLine;decide,hd,[(ks,b,w2)],.cons ⟨rfl,?_,ry⟩ .nil,o,es,ep,ho,h2,h3,h4,h6⟩
 rw[ah (sG hb hp (by intro z;cases z))]
 exact hb
end
section
variable {X:Cx}{Γ:Gz}{β:Bz}{K:ba}
def zDNewT:aM:=fun _ M Q=>∀a,M a=none->Q (.ptr a) (aw M a (.dt [] []))
theorem yO {pos:u7}:QE Γ X (.Dict [] [] pos) zDNewT:=Iu.imp fun σ H Q ⟨β,ρ,M,Q',zr,h,q⟩ p hp=>
 q _ _ _ _ (Ex.Iw (ks:=[]) (vs:=[]) (ds:=[]) zr.mz (.inr hp) rfl .nil) (.ptr (by rw[updM_same];rfl)) (h p (zr.mz.free hp))
def zDisp1K (pk pv:aM):aM:=fun ρ M Q=>pk ρ M fun e M1=>pv ρ M1 fun v M2=>match keyD e with|some k=>∀a,M2 a=none->Q (.ptr a) (aw M2 a (.dk [k] [v]))|none=>False
def zDisp1T (pk pv:aM):aM:=fun ρ M Q=>pk ρ M fun e M1=>pv ρ M1 fun v M2=>match e with | .tup es=>(match fD es with|some k=>∀a,M2 a=none->Q (.ptr a) (aw M2 a (.dt [k] [v]))|none=>False)|_=>False
theorem L8 {M M2:Mh}{H H2:Hp}{D:ag}{o:HO}{o':Mo}{u:HO}(hD:H D=none) (x:Ex (β.add D) M (upd H D o) M2 H2) (mz:Mz β (aw M2 D o') (upd H2 D u)):Ex β M H (aw M2 D o') (upd H2 D u) :=by
 have ey:Ey M H M2 (upd H2 D u):=((Ey.refl (M:=M) (H:=H)).over (o:=o) hD |>.trans x.toEy).over hD
 exact⟨⟨ey.keep,fun a h=>by unfold aw;split;rfl;exact ey.dom a h,fun a w m e=>by rw[ao (bp e hD)];exact ey.new a w m e⟩,mz⟩
theorem FV {k v:c8}{pk pv:aM}{pos:u7}(hu:X.A.units+64<cLine) (hk:QE Γ X k pk) (hv:QE Γ X v pv):QE Γ X (.Dict [some k] [v] pos) (zDisp1T pk pv):=
 (FU (by omega) hk hv).imp fun σ H Q ⟨β,ρ,M,Q',zr,h,q⟩ p hp=>by
  have z1:=zr.enter hp (o:=.dT []) rfl;refine⟨β.add p,ρ,M,_,z1,h,fun e M1 y H1 x1 r1 h1=>⟨β.add p,ρ,M1,_,z1.step x1,h1,fun d M2 w H2 x2 r2 h2=>?_⟩⟩
  have eV:=x1.trans x2;have Uz:M p=none:=zr.mz.free hp;have e2:H2 p=some (.dT []):=eV.FT i8 Uz aE rfl;have UA:M2 p=none:=eV.new p _ Uz aE;refine⟨e2,?_⟩;split at h2
  ·split at h2
   ·rename_i es kk Xz;obtain⟨b,us,rfl,_,hb,ru⟩:=cE (r1.ex x2);rw[jA ru Xz]at hb;refine⟨b,kk,rfl,hb,?_⟩;refine q _ _ _ _ (L8 (o':=.dt [kk] [d]) (u:=.dT ([kk].zip [w])) hp eV (eV.mz.P2 UA (zr.mz.fz hp).2 (zr.mz.CP hp) rfl ⟨[w],aE,rfl,lN (.cons r2 .nil)⟩)) (.ptr (by rw[updM_same];rfl)) (h2 p UA)
   ·exact h2.elim
  ·exact h2.elim
def zDPut (pd pk pv:aM):cN:=fun D ρ M=>pv ρ M fun v M1=>pd ρ M1 fun d M2=>pk ρ M2 fun e M3=>match d with
 | .ptr a=>(match M3 a with
  |some (.dk ks ds)=>(match keyD e with|some k=>ks.length<sizeLine/\D.nx ρ (aw M3 a (.dk (putL ks k) (dR ks ds k v)))|none=>False)
  |some (.dt ks ds)=>(match e with | .tup es=>(match fD es with|some k=>ks.length<sizeLine/\D.nx ρ (aw M3 a (.dt (putL ks k) (dR ks ds k v)))|none=>False)|_=>False)
  |_=>False)
 |_=>False
theorem uT {o i value:c8}{pd pk pv:aM}{pos pos':u7}(hu:X.A.units+64<cLine) (ho:QE Γ X o pd) (hi:QE Γ X i pk) (hv:QE Γ X value pv) (hs:swapsWith value (some (.Subscript o i pos')) pos.line X.env=pure false :=by rfl) :
  QS Γ X (.Assign [.Subscript o i pos'] value pos) (zDPut pd pk pv):=(LN (by omega) ho hi hv hs).imp fun D σ H ⟨β,ρ,M,D',zr,h,r⟩=>⟨β,ρ,M,_,zr,h,fun v M1 vv H1 x1 r1 h1=>⟨β,ρ,M1,_,zr.step x1,h1,fun d M2 dv H2 x2 r2 h2=>
   ⟨β,ρ,M2,_,(zr.step x1).step x2,h2,fun e M3 ev H3 x3 r3 h3=>by
 have z3:=((zr.step x1).step x2).step x3;have lz:=x1.trans (x2.trans x3);have rv:=(r1.ex x2).ex x3;split at h3
 ·rename_i a;obtain⟨rfl,hs⟩:=bF r2;split at h3
  ·rename_i ks ds hM;obtain⟨vs,ha,hk,rs⟩:=x3.mz.obj a _ hM;split at h3
   ·rename_i k tT;obtain⟨hl,h3⟩:=h3;have hp:(M3 a).isSome=true :=by rw[hM];rfl
    have x4:Ex β M3 H3 (aw M3 a (.dk (putL ks k) (dR ks ds k v))) (upd H3 a (.dK ((putL ks k).zip (dR ks vs k vv)))):=Ex.VS x3.mz (.inl hp) (oj hk k vv) (lM k rv rs);refine⟨a,_,rfl,.inl ⟨_,k,ha,uR r3 tT,by rw[GS,<- hk,ID];exact hl,rfl⟩,?_⟩
    rw[qM hk];exact r.nx _ _ _ _ (lz.trans x4).ev (z3.step x4) h3
   ·exact h3.elim
  ·rename_i ks ds hM;obtain⟨vs,ha,hk,rs⟩:=x3.mz.obj a _ hM;split at h3
   ·split at h3
    ·rename_i k tT;obtain⟨hl,h3⟩:=h3;obtain⟨b,us,rfl,_,hb,ru⟩:=cE r3;rw[jA ru tT]at hb;have hp:(M3 a).isSome=true :=by rw[hM];rfl
     have x4:Ex β M3 H3 (aw M3 a (.dt (putL ks k) (dR ks ds k v))) (upd H3 a (.dT ((putL ks k).zip (dR ks vs k vv)))):=Ex.Iw x3.mz (.inl hp) (oj hk k vv) (lM k rv rs);refine⟨a,_,rfl,.inr ⟨_,k,b,ha,rfl,hb,by rw[GS,<- hk,ID];exact hl,rfl⟩,?_⟩
     rw[qM hk];exact r.nx _ _ _ _ (lz.trans x4).ev (z3.step x4) h3
    ·exact h3.elim
   ·exact h3.elim
  ·exact h3.elim
 ·exact h3.elim⟩⟩⟩
end
def ix (X:Cx):bi:=X.env.qual ++ "<lambda>"
structure P4 (X:Cx) (params:NG) (body:c8) (scope:sB) (o:kw) (c:ag) (oc:kw) (aY:List (bi×ag)):Prop where
 cells:∀n a,aY.lookup n=some a->X.env.cells.lookup n=some a
 has:∀n,(n,sK)∈scope.names->∃a,aY.lookup n=some a
 obj:∃kg,o=OL "<lambda>" (ix X) params body scope aY ((X.mg "__name__").getD .none) c kg
 code:∃vs t,oc.data=.fields vs/\vs[1]?=some (ZM (ix X) t)
structure P5 (X:Cx) (P:ag) (H H2:Hp) (f:ag) (o:kw) (c:ag) (oc:kw):Prop where
 new:H f=none
 at':∃u,H2 f=some (.bV o u)
 cd:∃u,H2 c=some (.bV oc u)
 lm:Lm H2 (P,ix X)
 keep:∀b u,H b=some u->b≠P->H2 b=some u
 tab:∃ps,H P=some (.lam ps)
def VY (X:Cx) (P:ag) (params:NG) (body:c8) (scope:sB):TE:=fun _ H Q=>Lm H (P,ix X)/\∀f o c oc aY H2,P4 X params body scope o c oc aY->P5 X P H H2 f o c oc->Q (.ref f) H2
def lO (a:ag) (o:kw):HO:=.bV o (.ext fun h=>h.get? a=some o)
theorem yP {P:ff}{w:im}{H:Hp}{h:hX}{a:ag}{o:kw}(e:h.get? a=some o):ObjOk P w H h a (lO a o):=⟨e,e,⟨o,e⟩,fun _ _ x k=>k o x⟩
theorem FW {a b c cv:al}{pos:u7}(l:List al) (h:NH l) (e:codeAmong pos (l++[a,b,c])=some cv):codeAmong pos l=some cv\/cv=c :=by
 induction l using TriplesOk.induct with
 |case1=>
  right;simp only[KF]at e;unfold codeAmong at e;split at e
  ·rename_i heq;cases heq;split at e
   ·exact(ij e).symm
   ·simp[codeAmong]at e
  ·cases e
 |case2 x tx y ty z rest ih=>
  simp only[aaW,codeAmong]at e ⊢;split at e
  ·rename_i q;rw[if_pos q];exact .inl e
  ·rename_i q;rw[if_neg q];exact ih h e
 |case3 l n1 n2=>
  exfalso
  unfold NH at h;split at h
  ·exact n1 rfl
  ·exact n2 _ _ _ _ _ _ rfl
  ·exact h
section
variable {X:Cx}{params:NG}{body:c8}{scope:sB}{pos:u7}{P cX:ag}
theorem C4 {pins:List (ag×kw)}{s:ar}{σ:St}{H:Hp}{h':hX}{o:kw}(I:Inv X pins σ H s) (hk:∀b u,s.heap.get? b=some u->h'.get? b=some u) (hsz:s.heap.objs.size<=h'.objs.size) (hc:o.isFreed=false) (tk:Nat) :
  Inv X pins σ (upd H h'.objs.size (lO h'.objs.size o)) {s with heap:=h'.push o,toks:=tk}:=
 I.laid (a:=h'.objs.size) (o:=lO h'.objs.size o) (t':=tk) (fun b u e=>br _ (hk b u e)) hsz (yP (db _ hc))
theorem C5 {pins:List (ag×kw)}{s:ar}{σ:St}{H:Hp}{h':hX}{o oc:kw}{c:ag}{ps iZ:Array al}(I:Inv X pins σ H s) (hP:H P=some (.lam ps)) (hx:aak P s.heap h') (rC:s.heap.objs.size<=c) (aN:c<h'.objs.size) (vk:h'.get? c=some oc)
  (Kk:h'.get? P=some {cls:=.none,data:=.fields iZ}) (hc:o.isFreed=false) (tk:Nat) :
  Inv X pins σ (upd (upd (upd H P (.lam iZ)) c (lO c oc)) h'.objs.size (lO h'.objs.size o)) {s with heap:=h'.push o,toks:=tk}:=by
 have P6:P<s.heap.objs.size:=(I.hok P _ hP).lt;have hsz:s.heap.objs.size<=h'.objs.size:=Ll (Co rC aN);have old:∀b,b<s.heap.objs.size->b≠P->upd (upd (upd H P (.lam iZ)) c (lO c oc)) h'.objs.size (lO h'.objs.size o) b=H b:=fun b hb n=>by
  rw[ah (jp (l3 hb hsz)),ah (jp (l3 hb rC)),ah n]
 have Y8:upd (upd (upd H P (.lam iZ)) c (lO c oc)) h'.objs.size (lO h'.objs.size o) P=some (.lam iZ) :=by
  rw[ah (jp (l3 P6 hsz)),ah (jp (l3 P6 rC)),aE]
 have k:∀b u,b≠P->s.heap.get? b=some u->(h'.push o).get? b=some u:=fun b u n e=>br _ (hx b u n e)
 have FX:∀b u,H b=some u->b<s.heap.objs.size:=fun b u e=>(I.hok b u e).lt
 have nP:∀b,H b=none->b≠P:=fun b e z=>by rw[z,hP]at e;cases e
 have nT:∀b u,H b=some u->(∀ps,u≠.lam ps)->b≠P:=fun b u e n z=>by rw[z,hP]at e;cases e;exact n _ rfl
 refine I.un ⟨fun b u q n _ _=>k b u (nP b n) q,fun b u q n _ _=>⟨u.slots,k b u (nP b n) q⟩,fun b u q n _=>by rw[old b (gc q) (nP b n)];exact n,fun b u q _=>?_,fun b xs q=>by rw[old b (FX b _ q) (nT b _ q (by intro _ z;cases z))];exact q,
  fun b u xs q=>by rw[old b (FX b _ q) (nT b _ q (by intro _ z;cases z))];exact q,fun b qs q=>⟨#[],by rw[old b (FX b _ q) (nT b _ q (by intro _ z;cases z)),q];simp⟩⟩ fun b u q=>?_
 ·by_cases e:b=P
  ·subst e;exact⟨_,br _ Kk⟩
  ·exact⟨u,k b u e q⟩
 ·by_cases e1:b=h'.objs.size
  ·subst e1;rw[aE]at q;cases q;exact yP (db _ hc)
  ·rw[ah e1]at q;by_cases e2:b=c
   ·subst e2;rw[aE]at q;cases q;exact yP (br _ vk)
   ·rw[ah e2]at q;by_cases e3:b=P
    ·subst e3;rw[aE]at q;cases q;exact br _ Kk
    ·rw[ah e3]at q;refine(I.hok b u q).cG (fun a v hc q=>k a v ?_ q) (fun a z=>?_) fun a xs z=>?_
     ·rcases hc with z|z
      ·rw[z];exact e3
      ·exact nT a _ z (by intro _ w;cases w)
     ·rw[old a (FX a _ z) (nT a _ z (by intro _ w;cases w))];exact z
     ·rw[old a (FX a _ z) (nT a _ z (by intro _ w;cases w))];exact z
theorem P7 (ik:X.env.code=.ref cX) (hd:u8 X.base cX P) (fW:∃bm ob,ZY X.base mainGlobals X.mg bm ob) (xl:defaultsOf params X.env=([],[]))
  (qw:∀n,(n,sK)∈scope.names->X.env.kindOf n=some .cell\/X.env.kindOf n=some .free):PE X (.Lambda params body scope pos) (VY X P params body scope) :=by
 refine⟨?_⟩;intro pins s σ H Q I ⟨⟨ps,hP,ph,yL⟩,q⟩;obtain⟨aY,d9,cn,dy⟩:=dO (scope:=scope) (env:=X.env) fun n hn=>I.ok.has n (qw n hn)
 have xN:s.heap.get? P=some (Ps ps):=I.hok P _ hP;obtain⟨bm,ob,bmod⟩:=fW;have iL:=bmod.keeps I.bk;have XA:mainGlobals≠P:=fun z=>by
  obtain⟨o,es,ep,e,hd,_⟩:=iL.ns;rw[z,xN]at e;cases e;cases hd
 have XB:bm≠P:=fun z=>by
  have e:=iL.obj;have e2:=iL.data;rw[z,xN]at e;cases e;cases e2
 have XC:bm≠mainGlobals:=fun z=>by
  obtain⟨o,es,ep,e,hd,_⟩:=iL.ns;have e1:=iL.obj;have e2:=iL.data;rw[z,e]at e1;cases e1;rw[hd]at e2;cases e2
 have hb:s.heap.BuiltinsAt X.mg P:=⟨bm,ob,iL.name,iL.ne,XC,XB,iL.obj,iL.cls,iL.dict,iL.data⟩;refine PySem.W.kla_eval xl ?_;cases hq:codeAmong pos ps.toList with
 |some cv=>
  obtain⟨c,oc,uc,vs,t,rfl,ec,d1,d2⟩:=yL pos cv hq;refine PySem.W.kla_makeFunctionHit (mg:=X.mg) d9 I.ok.glob (I.mod.glob.keeps I.bk) ik (hd.keeps I.bk) xN ph hq hb fun kg h' tk hk hsz=>?_
  have hf:H h'.objs.size=none:=I.hok.fresh hsz;have pre:∀b u,H b=some u->upd H h'.objs.size (lO h'.objs.size (OL "<lambda>" (ix X) params body scope aY ((X.mg "__name__").getD .none) c kg)) b=some u:=fun b u e=>by rw[ah (bp e hf)];exact e
  refine⟨.ref h'.objs.size,_,C4 I hk hsz (o:=OL "<lambda>" (ix X) params body scope aY ((X.mg "__name__").getD .none) c kg) rfl tk,rfl,q _ _ c oc aY _ ⟨cn,dy,⟨kg,rfl⟩,⟨vs,t,d1,d2⟩⟩ ⟨hf,⟨_,aE⟩,⟨uc,pre _ _ ec⟩,Lm.keep ⟨ps,hP,ph,yL⟩ (fun _ e=>pre _ _ e) fun _ _ _ e=>pre _ _ e,fun b u e _=>pre b u e,⟨ps,hP⟩⟩⟩
 |none=>
  refine PySem.W.kla_makeFunction (mg:=X.mg) d9 I.ok.glob (I.mod.glob.keeps I.bk) ik (hd.keeps I.bk) xN ph hq XA hb fun c kg h' tk hx rC aN VZ Kk=>?_
  obtain⟨c2,oc,vs,t,e2,vk,d1,d2⟩:=VZ;cases e2;have I2:=C5 (o:=OL "<lambda>" (ix X) params body scope aY ((X.mg "__name__").getD .none) c kg) I hP hx rC aN vk Kk rfl tk
  have hsz:s.heap.objs.size<=h'.objs.size:=Ll (Co rC aN);have hf:H h'.objs.size=none:=I.hok.fresh hsz;have FY:H c=none:=I.hok.fresh rC;have XD:c≠h'.objs.size:=jp aN;have XE:P≠c:=fun z=>by rw[z,FY]at hP;cases hP
  have XF:P≠h'.objs.size:=fun z=>by rw[z,hf]at hP;cases hP
  have XG:NH (ps++#[rawInt pos.line,rawInt pos.col,l6 c]).toList :=by
   rw[Z7];exact TriplesOk_snoc _ _ _ _ ph
  have pre:∀b u,H b=some u->b≠P->upd (upd (upd H P (.lam (ps++#[rawInt pos.line,rawInt pos.col,l6 c]))) c (lO c oc)) h'.objs.size (lO h'.objs.size (OL "<lambda>" (ix X) params body scope aY ((X.mg "__name__").getD .none) c kg)) b=some u:=fun b u e n=>by
   rw[ah (bp e hf),ah (bp e FY),ah n];exact e
  have UB:upd (upd (upd H P (.lam (ps++#[rawInt pos.line,rawInt pos.col,l6 c]))) c (lO c oc)) h'.objs.size (lO h'.objs.size (OL "<lambda>" (ix X) params body scope aY ((X.mg "__name__").getD .none) c kg)) c=some (lO c oc) :=by rw[ah XD,aE]
  refine⟨.ref h'.objs.size,_,I2,rfl,q _ _ c oc aY _ ⟨cn,dy,⟨kg,rfl⟩,⟨vs,t,d1,d2⟩⟩ ⟨hf,⟨_,aE⟩,⟨_,UB⟩,⟨_,by rw[ah XF,ah XE,aE],XG,fun p cv e=>?_⟩,pre,⟨ps,hP⟩⟩⟩
  rw[Z7]at e;rcases FW _ ph e with e|e
  ·obtain⟨c3,XH,u3,XI,t3,a1,a2,a3⟩:=yL p cv e;exact⟨c3,XH,u3,XI,t3,a1,pre _ _ a2 (fun z=>by rw[z,hP]at a2;cases a2),a3⟩
  ·exact⟨c,oc,_,vs,t,e,UB,d1,d2⟩
end
structure Km (X:Cx) (σ:St) (b':hX):Prop where
 ext:∀b o,X.base.get? b=some o->b'.get? b=some o
 cell:∀(i:Nat) (x:bi) (v:V),X.N[i]?=some x->σ[i]?=some (some v)->X.env.scope.names.lookup x=some .cell->∃c u,X.env.cells.lookup x=some c/\RelV v u/\b'.IsCell c (some u)
 cells:∀x c,X.env.cells.lookup x=some c->∃v,b'.IsCell c v
 inj:∀x y c,X.env.cells.lookup x=some c->X.env.cells.lookup y=some c->x=y
theorem Mod.ext {K:ba}{mg:bi->Option al}{b b':hX}(m:Mod K mg b) (k:∀a o,b.get? a=some o->b'.get? a=some o):Mod K mg b':=
 ⟨m.kin.keeps k,m.glob.keeps k,let ⟨mb,h1,h2⟩:=m.blt;⟨mb,h1.keeps k,h2⟩,m.nolimit.keeps k⟩
section
variable {X:Cx}{pins:List (ag×kw)}{σ:St}{H:Hp}{s:ar}
theorem Inv.SX (I:Inv X pins σ H s) (sI:∀x,X.fn x=true):∃b',Km X σ b'/\uy X.prog X.w X.K X.mg b' X.A X.stack s H :=by
 let Kn:ag->Prop:=fun a=>∃x,X.env.cells.lookup x=some a
 let l:List ag:=(ii s.heap.objs.size).filter fun a=>@decide ((X.base.get? a=none)/\¬ Kn a) (Classical.propDecidable _)
 have ml:∀a,a∈l ↔ a<s.heap.objs.size/\X.base.get? a=none/\¬ Kn a:=fun a=>by
  show a∈(ii s.heap.objs.size).filter _ ↔ _;rw[EN,uu];simp only[decide_eq_true_eq]
 have ext:∀b o,X.base.get? b=some o->(BN s.heap l).get? b=some o:=fun b o e=>YA l (I.bk b o e) fun z=>by
  have:=((ml b).mp z).2.1;rw[e]at this;cases this
 have cls:∀x c o,X.env.cells.lookup x=some c->s.heap.get? c=some o->(BN s.heap l).get? c=some o:=fun x c o e ho=>YA l ho fun z=>((ml c).mp z).2.2 ⟨x,e⟩
 have only:∀b o,(BN s.heap l).get? b=some o->s.heap.get? b=some o/\((∃o',X.base.get? b=some o')\/Kn b):=fun b o e=>by
  have e':=aam l e;refine⟨e',?_⟩;by_cases hc:Kn b
  ·exact .inr hc
  ·cases q:X.base.get? b with
   |some o'=>exact .inl ⟨o',rfl⟩
   |none=>
    have:(BN s.heap l).get? b=none:=PySem.W.hideAll_none l ((ml b).mpr ⟨gc e',q,hc⟩);rw[e]at this;cases this
 refine⟨BN s.heap l,⟨ext,fun i x v h1 h2 h3=>?_,fun x c e=>?_,I.ok.inj⟩,I.ok.frames,I.ok.mod.ext ext,fun b o e=>?_,Nat.le_of_eq (PySem.W.hideAll_size _ _),?_,I.m9,I.hok,I.bare.1⟩
 ·obtain⟨m,hn,hl⟩:=I.loc;obtain⟨u,r,lk⟩:=hl i x v h1 h2 (.inr (.inl h3));rcases lk with ⟨hk,_⟩|⟨_,c,ec,o,ho,hd⟩
  ·have hk:X.env.scope.names.lookup x=some .local:=hk;rw[h3]at hk;cases hk
  ·exact⟨c,u,ec,r,o,cls x c o ec ho,hd⟩
 ·obtain⟨v,o,ho,hd⟩:=I.cell x c e;exact⟨v,o,cls x c o e ho,hd⟩
 ·obtain⟨e',q⟩:=only b o e;refine⟨e',?_⟩;rcases q with ⟨o',q⟩|⟨x,q⟩
  ·exact(I.bs b o' q).2
  ·exact I.freeC x b q
 ·have fr:∀L∈fm X.stack,(BN s.heap l).get? L=none:=fun L hL=>by
   cases q:(BN s.heap l).get? L with
   |none=>rfl
   |some o=>
    exfalso
    obtain⟨e',q⟩:=only L o q;have nb:=(I.stack.mem hL).1;rcases q with ⟨o',q⟩|⟨x,q⟩
    ·rw[nb]at q;cases q
    ·rcases i4.mp (I.gb L hL) with z|z
     ·exact I.vj x L q z
     ·have h1:=I.ok.cab x L (sI x) q;obtain⟨_,o2,P8,_⟩:=I.ok.funs.mem z;exact absurd (gc P8) (abf.mpr h1)
  have go:∀(st:List IN),(∀L∈fm st,(BN s.heap l).get? L=none)->s.heap.FunFrames X.base st->s.heap.FunFrames (BN s.heap l) st :=by
   intro st;induction st with
   |nil=>intro _ _;trivial
   |cons env r ih=>
    intro hs hl;obtain⟨hk,⟨L,o,hf,hn,ho,hd⟩,hr⟩:=hl;exact⟨hk,⟨L,o,hf,hs L (by unfold fm;rw[KM,hf];exact i8),ho,hd⟩,ih (fun b hb=>hs b (by unfold fm;rw[KM,hf];exact en _ hb)) hr⟩
  exact go X.stack fr I.stack
end
section
variable {X:Cx}{CX:iI}{k:Nat}{f:ag}{fd:ln}{ps:List bi}{gZ:List V}{ds:List al}{E:XK}{x:bi}{p pos:u7}{e:c8}{es:List c8}{t:TA}
def P9 (X:Cx) (sp:hX->Sp) (gZ:List V) (E:XK) (t:TA):TE:=fun σ H Q=>t σ H fun vs H1=>∀b',Km X σ b'->sp b' (vs++gZ) H1 Q E
theorem IH {sp:hX->Sp}(F:∀b',(∀b o,X.base.get? b=some o->b'.get? b=some o)->FnOk X.prog X.w X.K X.mg b' CX k f fd ps (sp b')) (hr:ck k X.A) (sI:∀x,X.fn x=true) (hg:Gl X x) (hm:X.mg x=some (.ref f)) (hk:Do X.K (.ref f)=true) (hb:Binds X.K fd ps ds) (hd:Vals gZ ds) (hx:Passes CX X E)
  (ha:PA X (e::es) t) (gd:(x==("__debug__" : bi))=false :=by decide) (he:starEach (e::es) X.env=(false,eval e X.env)::starEach es X.env :=by rfl) (cL:(backTo pos (starEach es X.env)).any (·.1)=false :=by rfl) :
  PE X (.Call (.Name x p) (e::es) [] pos) (P9 X sp gZ E t) :=by
 refine⟨?_⟩;intro pins s σ H Q I h;refine ET (qy I hg hm ?_ gd);refine PySem.W.callWith_K (h₀:=X.base) I.ok.mod.kin hk (thn (ha pos pins s σ H _ I h) fun us s1 ⟨vs,H1,I1,r,q⟩=>⟨I1.iU,?_⟩) he cL
 obtain⟨b',B,e0⟩:=I1.SX sI;have r2:Vals (vs++gZ) (us++ds):=r.append hd;have hl:(us++ds).length=ps.length :=by rw[<- r2.length];exact(F b' B.ext).len _ _ _ _ (q b' B)
 refine wpAny_call (Zl ((F b' B.ext).run X.A X.stack s1 H1 ⟨us,[]⟩ (us++ds) (vs++gZ) Q E hr e0 (hb s1 us I1.iU hl) r2 (q b' B)) fun r s' hq=>?_)
 cases r with
 |error e=>exact hx pins σ H1 s1 e s' I1 hq
 |ok fl=>
  cases fl with
  |ret u=>exact I1.after hq
  |next=>exact Go hq
  |brk=>exact Go hq
  |cont=>exact Go hq
def Qa (f:ag) (o:kw) (sp:Sp) (E:XK) (i:Nat) (t:TA):TE:=fun σ H Q=>σ[i]?=some (some (.ref f))/\(∃u,H f=some (.bV o u))/\t σ H fun vs H1=>(∃u,H1 f=some (.bV o u))/\sp vs H1 Q E
theorem II {o:kw}{sp:Sp}{i:Nat}(F:FnOk X.prog X.w X.K X.mg X.base CX k f fd ps sp) (ho:∃oc od fd sl,o=⟨oc,od,.func fd,sl⟩) (hr:ck k X.A) (hN:X.N[i]?=some x) (hv:qY X.env.scope x) (hb:Binds X.K fd ps []) (hx:Passes CX X E) (ha:PA X (e::es) t)
  (gd:(x==("__debug__" : bi))=false :=by decide) (eU:(x==("__classdict__" : bi))=false :=by decide) (he:starEach (e::es) X.env=(false,eval e X.env)::starEach es X.env :=by rfl) (cL:(backTo pos (starEach es X.env)).any (·.1)=false :=by rfl) :
  PE X (.Call (.Name x p) (e::es) [] pos) (Qa f o sp E i t) :=by
 refine⟨?_⟩;intro pins s σ H Q I ⟨hi,hf,h⟩;obtain⟨oc,od,JW,sl,rfl⟩:=ho;refine ET (thn ((xr hN hv gd eU) pins s σ H (fun v H'=>v=.ref f/\H'=H) I ⟨_,hi,rfl,rfl⟩) fun u s0 ⟨v,H0,I0,r0,e1,e2⟩=>?_)
 subst e1 e2;cases (show u=l6 f from r0);have at_:∀{H':Hp} {s':ar},Inv X pins σ H' s'->(∃u,H' f=some (.bV ⟨oc,od,.func JW,sl⟩ u))->PySem.W.FnAt f s'.heap:=fun I' ⟨u,hu⟩=>⟨oc,od,JW,sl,(I'.hok f _ hu).1⟩
 refine PySem.W.callWith_F (at_ I0 hf) (thn (ha pos pins s0 σ H0 _ I0 h) fun us s1 ⟨vs,H1,I1,r,XJ,q⟩=>⟨at_ I1 XJ,?_⟩) he cL
 have q':sp (vs++[]) H1 Q E :=by rw[EQ];exact q
 exact El F hr hb .nil hx I1 r q'
end
def C6 (CX:iI) (P:ff) (w:im) (K:ba) (mg:bi->Option al) (base:hX) (N:List bi) (qual:bi) (scope:sB) (f:ag) (cd:al) (aY:List (bi×ag)) (A:l5) (outer:List IN) (s:ar) (H:Hp) (E:XK):Cx where
 prog:=P
 w:=w
 K:=K
 mg:=mg
 base:=base
 A:=A.deeper (RS qual scope s.heap.objs.size f cd aY)
 N:=N
 s₀:=s
 H₀:=H
 env:=RS qual scope s.heap.objs.size f cd aY
 outer:=outer
 stack:=RS qual scope s.heap.objs.size f cd aY::outer
 ex:=[]
 calm:=true
 fn:=fun _=>false
 pn:=[]
 xe:=fun e s'=>wpAny (model P w) (A.deeper (RS qual scope s.heap.objs.size f cd aY)) (leaving (RS qual scope s.heap.objs.size f cd aY) e) (fun _ cU=>CX outer H s E e cU) (fun e' cU=>CX outer H s E e' cU) s'
structure oq (ps fs:List bi) (sc:sB):Prop where
 kind:sc.kind=.function
 co:sc.isCoroutine=false
 gen:sc.isGenerator=false
 nd:(ps++fs).Nodup
 par:∀x∈ps,sc.names.lookup x=some .local
 fre:∀x∈fs,sc.names.lookup x=some .free
 nocell:∀y∈sc.names,y.2≠.cell
structure uU (base:hX) (fs:List bi) (aY:List (bi×ag)) (vcs:List V):Prop where
 inj:∀x y c,aY.lookup x=some c->aY.lookup y=some c->x=y
 all:∀x c,aY.lookup x=some c->∃v,base.IsCell c v
 cell:∀(j:Nat) (x:bi) (v:V),fs[j]?=some x->vcs[j]?=some v->∃c u,aY.lookup x=some c/\RelV v u/\base.IsCell c (some u)
theorem tU {x:bi}{v:al}:∀{ps:List bi}{us:List al}{i:Nat},ps.Nodup->ps[i]?=some x->us[i]?=some v->(ps.zip us).reverse.lookup x=some v
 | [],_,_,_,h,_=>by simp at h
 |_::_,[],_,_,_,h=>by simp at h
 |p::ps,u::us,i,nd,h1,h2=>by
          rw[TD,List.reverse_cons];have hn:=Os.mp nd;cases i with
          |zero=>
           simp at h1 h2;subst h1 h2;rw[List.lookup_append];have:(ps.zip us).reverse.lookup p=none :=by
            rw[List.lookup_eq_none_iff];intro q hq;have tK:=List.mem_reverse.mp hq;have:=(SS tK).1;have ne:p≠q.1:=fun z=>hn.1 (by rw[z];exact this)
            simpa using ne
           rw[this];simp[List.lookup]
          |succ i=>
           rw[List.lookup_append,tU hn.2 (by simpa using h1) (by simpa using h2)]
           rfl
section
variable {CX:iI}{P:ff}{w:im}{K:ba}{mg:bi->Option al}{base:hX}{ps fs:List bi}{qual:bi}{scope:sB}{f c:ag}{aY:List (bi×ag)}{A:l5}{outer:List IN}{s:ar}{H:Hp}{E:XK}{us:List al}{vs vcs:List V}
theorem L9 {h1:hX}{tk:Nat}(S:oq ps fs scope) (C:uU base fs aY vcs) (has:∀n,(n,sK)∈scope.names->∃a,aY.lookup n=some a) (hd:A.handled=none) (e0:uy P w K mg base A outer s H) (hl:vs.length=ps.length) (hc:vcs.length=fs.length) (r:Vals vs us)
  (iJ:h1.Ns s.heap.objs.size (fun y=>(ps.zip us).reverse.lookup y)) (hk:∀b o,s.heap.get? b=some o->h1.get? b=some o) :
  Inv (C6 CX P w K mg base (ps++fs) qual scope f (.ref c) aY A outer s H E) [] (vs.map some++vcs.map some) H {s with heap:=h1,toks:=tk}:=by
 have bc:∀x a,aY.lookup x=some a->∃v o,s.heap.get? a=some o/\o.data=.cell v/\H a=none:=fun x a e=>by
  obtain⟨v,o,ho,hd⟩:=C.all x a e;obtain⟨h1,h2⟩:=e0.bs a o ho;exact⟨v,o,h1,hd,h2⟩
 refine⟨⟨e0.mod,S.kind,rfl,rfl,cb _,C.inj,fun y hy=>?_,fun _ _ z=>(nomatch z),fun _=>hd,l5.frames_deeper e0.frames,.inr ⟨rfl,rfl⟩,fun b z=>absurd (show b∈([]:List ag) from z) (by simp),e0.bs,e0.bsz,fun b _ _ z=>absurd (show b∈([]:List ag) from z) (by simp),fun b z=>absurd (show b∈([]:List ag) from z) (by simp),e0.funs,e0.frf⟩,
  rfl,⟨e0.bare,cb _⟩,Un.kept hk,⟨_,iJ,fun i y v h1 h2 h3=>?_⟩,fun y a e=>?_,e0.hok.fresh (cb _),fun y a e=>?_,fun p hp=>absurd (show p∈([]:List (ag×kw)) from hp) (by simp),e0.hok.kept hk,?_⟩
 ·have hy:scope.names.lookup y=some .cell\/scope.names.lookup y=some .free:=hy;rcases hy with hy|hy
  ·exact absurd rfl (S.nocell _ (tw hy))
  ·exact has y (tw hy)
 ·have h1:(ps++fs)[i]?=some y:=h1;by_cases hi:i<ps.length
  ·rw[ww hi]at h1;rw[ww (by simpa[hl] using hi),ce]at h2
   have ha:vs[i]?=some v :=by
    cases e:vs[i]? with
    |none=>rw[e]at h2;cases h2
    |some a=>rw[e]at h2;cases h2;rfl
   obtain⟨u,hu,rv⟩:=r.get ha;have nd:ps.Nodup:=S.nd.sublist (List.sublist_append_left _ _);exact⟨u,rv,.inl ⟨S.par y (cr h1),tU nd h1 hu⟩⟩
  ·rw[AE (by omega)]at h1
   rw[AE (by simp only[bv];omega),bv,hl,ce]at h2
   have ha:vcs[i - ps.length]?=some v :=by
    cases e:vcs[i - ps.length]? with
    |none=>rw[e]at h2;cases h2
    |some a=>rw[e]at h2;cases h2;rfl
   obtain⟨a,u,e1,rv,o,ho,hd⟩:=C.cell _ y v h1 ha;exact⟨u,rv,.inr ⟨.inr (S.fre y (cr h1)),a,e1,o,hk _ _ (e0.bs a o ho).1,hd⟩⟩
 ·obtain⟨v,o,ho,hd,_⟩:=bc y a e;exact⟨v,o,hk _ _ ho,hd⟩
 ·obtain⟨v,o,ho,hd,hn⟩:=bc y a e;exact hn
 ·show _=(ps++fs).length;simp[hl,hc]
structure C7 (params:NG) (body:c8) (scope:sB) (qual:bi) (o:kw) (c:ag) (oc:kw) (aY:List (bi×ag)) (fd:ln):Prop where
 has:∀n,(n,sK)∈scope.names->∃a,aY.lookup n=some a
 obj:∃name pm kg,fd=PySem.W.kla_fn name qual params body scope aY pm (.ref c) kg/\o={cls:=.type "function",data:=.func fd}
 code:∃vs t,oc.data=.fields vs/\vs[1]?=some (ZM qual t)
theorem Qb {params:NG}{body:c8}{o oc:kw}{fd:ln}{k:Nat}{sp:Sp}(L:C7 params body scope qual o c oc aY fd) (S:oq ps fs scope) (C:uU base fs aY vcs) (cq:vcs.length=fs.length) (len:∀vs H Q E,sp vs H Q E->vs.length=ps.length)
  (at':∀vs H Q E,sp vs H Q E->(∃u,H f=some (.bV o u))/\∃u,H c=some (.bV oc u))
  (nL:∀(A:l5) (outer:List IN) (s:ar) (H:Hp) (vs:List V) (Q:VK) (E:XK),ck k (A.deeper (RS qual scope s.heap.objs.size f (.ref c) aY))->sp vs H Q E->
   ∃t,PE (C6 CX P w K mg base (ps++fs) qual scope f (.ref c) aY A outer s H E) body t/\t (vs.map some++vcs.map some) H Q):FnOk P w K mg base CX (k+1) f fd ps sp :=by
 obtain⟨has,⟨name,pm,kg,rfl,rfl⟩,⟨XM,ct,d1,d2⟩⟩:=L;refine⟨len,fun A outer s H args us vs Q E hr e0 hb r mC=>?_⟩
 have hl:=len _ _ _ _ mC;obtain⟨⟨u1,ef⟩,⟨u2,ec⟩⟩:=at' _ _ _ _ mC;have XN:=(e0.hok f _ ef).1;have vk:=(e0.hok c _ ec).1;have lim:s.heap.NoLimit:=e0.mod.nolimit.keeps fun b o e=>(e0.bs b o e).1
 refine PySem.W.kla_callFunE hr.depth XN rfl S.co S.gen rfl ⟨c,oc,XM,ct,rfl,vk,d1,d2⟩ (hb _ _ _ _ ?_);refine ZW S.nocell (fun y hy=>S.par y.1 (SS hy).1) (fun h1 iJ g6=>⟨lim.fresh _ g6,?_⟩) S.kind
 have hk:∀b o,s.heap.get? b=some o->h1.get? b=some o:=fun b o e=>g6.extBut b o (jp (gc e)) (br _ e)
 obtain⟨t,ht,hq⟩:=nL A outer s H vs Q E (hr.deeper _) mC;have I:=L9 (CX:=CX) (qual:=qual) (f:=f) (c:=c) (E:=E) (tk:=s.toks+(ps.zip us).length) S C has hr.hd e0 hl cq r iJ hk;show codeAny _ _ (.expr body (RS qual scope s.heap.objs.size f (.ref c) aY)) _ _;refine PySem.W.kla_codeExpr (lp (ht [] _ _ H Q I hq) (fun u s' ⟨v,H',J,rv,q⟩=>?_) fun e s' hs=>hs)
 exact⟨v,H',J.os,J.bare,J.base,J.hok,rv,q⟩
end
end L2
namespace L2
open PySem PySem.Spec PySem.W PyProof.Rows
structure Ko (K:ba) (mg:bi->Option al) (x:bi) (st:sw) (ps:List bi) (ds:List al) (f:ag) (fd:ln):Prop where
 ex:∃(oc:al) (od:Option ag) (dV kV doc pm:al) (an:Option ag) (dn ct:al) (mB:Array (Option al)),
  fd=AM x x (dG st) (bQ st) (ai st) dV kV doc pm an dn ct/\K.lookup f=some ⟨oc,od,.func fd,mB⟩/\LM K dn x=true
 kp:Do K (.ref f)=true
 bd:Binds K fd ps ds
 bd0:Binds K fd ps []
 mg:mg x=some (.ref f)
section
variable {P:ff}{w:im}{K:ba}{mg:bi->Option al}{base:hX}{tb:cf}{x:bi}{st:sw}{f:ag}{fd:ln}{N ps:List bi}{gZ:List al}{k:Nat}{S:bP}
theorem SY (D:Ko K mg x st ps gZ f fd) (sc:aS N ps (ai st)) (len:∀ds M Q E,S ds M Q E->ds.length=ps.length)
  (body:∀(A:l5) (outer:List IN) (s:ar) (E:XK) (Γ:Gz) (ds:List Dv) (Q':ZK) (E':ZX),P=Γ.P->w=Γ.w->K=Γ.K->tb=Γ.tb->ck k (A.deeper (envOfC x (ai st) s.heap.objs.size f fd.code))->S ds Γ.M0 Q' E'->
   ∃p,oJ Γ (gU bh P w K mg base N x (ai st) f fd.code A outer s Γ.H0 E).oX (bQ st) p/\p (zEndsOf Γ.M0 Q') (zstart N ds) Γ.M0):FnOk P w K mg base bh (k+1) f fd ps (aU P w K tb S) :=by
 obtain⟨oc,od,dV,kV,doc,pm,an,dn,ct,mB,rfl,lk,eU⟩:=D.ex;refine Cg lk eU sc (uO len) fun A outer s H vs Q E hr h=>?_
 obtain⟨β,ds,M,Q',E',eP,ew,eK,et,m,rs,hS,q,_⟩:=h;obtain⟨p,hp,hq⟩:=body A outer s E ⟨β,M,H⟩ ds Q' E' eP.symm ew.symm eK.symm et.symm hr hS;refine⟨_,hp.oX,β,zstart N ds,M,zEndsOf M Q',rY (Γ:=⟨β,M,H⟩) m rs,hq,?_⟩;have fin:∀d M' v H',Ex β M H M' H'->Rz β M' H' v d->jw M Q' d M'->Q v H':=fun d M' v H' x r h=>qJ m q x r h
 exact⟨fun b8 M' aQ H' x zr h=>fin _ _ _ _ ⟨zr.ent,x.mz⟩ .ax h,fun d M' v H' x e r h=>fin _ _ _ _ ⟨e,x.mz⟩ r h,fun _ _ _ _ _ _ h=>h,fun _ _ _ _ _ _ h=>h⟩
def Kp (P:ff) (w:im) (K:ba) (tb:cf) (f:ag) (o:kw) (c:ag) (oc:kw) (vcs:List V) (S:List Dv->bP):Sp:=fun vs H Q E=>∃(β:Bz) (ds cI:List Dv) (M:Mh) (Q':ZK) (E':ZX),β.P=P/\β.w=w/\β.K=K/\β.tb=tb/\Mz β M H/\aJ β M H vs ds/\Rz β M H (.ref f) (.b7 f o c oc vcs cI)/\S cI ds M Q' E' /\
 (∀d M' v H',Ex β M H M' H'->Rz β M' H' v d->Q' d M'->Q v H')/\∀C M' H',Ex β M H M' H'->E' C M'->E (.ref C) none H'
theorem mQ {β:Bz}{M:Mh}{H:Hp}{v:V}{f c:ag}{o oc:kw}{vs:List V}{ds:List Dv}(h:Rz β M H v (.b7 f o c oc vs ds)):v=.ref f/\(∃u,H f=some (.bV o u))/\(∃u,H c=some (.bV oc u))/\aJ β M H vs ds :=by
 cases h with
 |b7 m e m2 e2 hl h=>exact⟨rfl,⟨_,e⟩,⟨_,e2⟩,hl,h⟩
theorem Qc {Γ:Gz}{vs vcs:List V}{ds cI:List Dv}(m:Mz Γ.toBz Γ.M0 Γ.H0) (rs:aJ Γ.toBz Γ.M0 Γ.H0 vs ds) (rc:aJ Γ.toBz Γ.M0 Γ.H0 vcs cI):Zr Γ Γ.toBz Γ.M0 (ds.map some++cI.map some) (vs.map some++vcs.map some) Γ.H0:=
 ⟨rfl,rfl,rfl,rfl,fun _ h=>h,m.wf,.refl,m,by simp[rs.len,rc.len],fun i d e=>by
  rw[<- mv,ce,lc]at e;obtain⟨d2,e,e2⟩:=e;cases e2;obtain⟨v,hv,r⟩:=(rs.append rc).get e;exact⟨v,by rw[<- mv,ce,hv];rfl,r⟩⟩
theorem V0 {fs:List bi}{qual:bi}{scope:sB}{params:NG}{body:c8}{c:ag}{o oc:kw}{aY:List (bi×ag)}{vcs:List V}{Sc:List Dv->bP}(L:C7 params body scope qual o c oc aY fd) (sc:oq ps fs scope) (C:uU base fs aY vcs) (cq:vcs.length=fs.length)
  (len:∀cI ds M Q E,Sc cI ds M Q E->ds.length=ps.length)
  (hb:∀(A:l5) (outer:List IN) (s:ar) (E:XK) (Γ:Gz) (cI ds:List Dv) (Q':ZK) (E':ZX),P=Γ.P->w=Γ.w->K=Γ.K->tb=Γ.tb->ck k (A.deeper (RS qual scope s.heap.objs.size f (.ref c) aY))->Sc cI ds Γ.M0 Q' E'->
   ∃p,QE Γ (C6 bh P w K mg base (ps++fs) qual scope f (.ref c) aY A outer s Γ.H0 E).oX body p/\p (ds.map some++cI.map some) Γ.M0 (jw Γ.M0 Q')):FnOk P w K mg base bh (k+1) f fd ps (Kp P w K tb f o c oc vcs Sc) :=by
 refine Qb L sc C cq (fun vs H Q E hS=>by obtain⟨β,ds,cI,M,Q',E',_,_,_,_,m,rs,rc,s,_⟩:=hS;exact rs.len.trans (len _ _ _ _ _ s)) (fun vs H Q E hS=>by obtain⟨β,ds,cI,M,Q',E',_,_,_,_,m,rs,rc,s,_⟩:=hS;obtain⟨_,h1,h2,_⟩:=mQ rc;exact⟨h1,h2⟩) fun A outer s H vs Q E hr h=>?_
 obtain⟨β,ds,cI,M,Q',E',eP,ew,eK,et,m,rs,rc,hS,q,_⟩:=h;obtain⟨p,hp,hq⟩:=hb A outer s E ⟨β,M,H⟩ cI ds Q' E' eP.symm ew.symm eK.symm et.symm hr hS;obtain⟨_,_,_,Kq⟩:=mQ rc;exact⟨_,hp.oX,β,_,M,_,Qc (Γ:=⟨β,M,H⟩) m rs Kq,hq,fun d M' v H' x r h=>qJ m q x r h⟩
end
section
variable {X:Cx}{Γ:Gz}{β:Bz}{CX:iI}{k:Nat}{f:ag}{fd:ln}{ps:List bi}{E:XK}{E':ZX}{x:bi}{p pos:u7}{e:c8}{es:List c8}{za:eY}{P:ff}{w:im}{tb:cf}{K:ba}
def zCallL (f:ag) (o:kw) (c:ag) (oc:kw) (vcs:List V) (S:List Dv->bP) (E':ZX) (i:Nat) (za:eY):aM:=fun ρ M Q=>match ρ[i]? with
 |some (some (.b7 f' o' c' Qd Qe cI))=>(f'=f/\o'=o/\c'=c/\Qd=oc/\Qe=vcs)/\za ρ M fun ds M1=>S cI ds M1 Q E'
 |_=>False
theorem IJ {c:ag}{o oc:kw}{vcs:List V}{S:List Dv->bP}{i:Nat}(F:FnOk X.prog X.w X.K X.mg X.base CX k f fd ps (Kp P w K tb f o c oc vcs S)) (ho:∃oc od fd sl,o=⟨oc,od,.func fd,sl⟩) (hr:ck k X.A) (hN:X.N[i]?=some x) (hv:qY X.env.scope x) (hb:Binds X.K fd ps [])
  (hx:Passes CX X E) (hP:P=Γ.P) (hw:w=Γ.w) (hK:K=Γ.K) (ht:tb=Γ.tb) (hE:XR Γ E' E) (ha:QA Γ X (e::es) za) (gd:(x==("__debug__" : bi))=false :=by decide) (eU:(x==("__classdict__" : bi))=false :=by decide)
  (he:starEach (e::es) X.env=(false,eval e X.env)::starEach es X.env :=by rfl) (cL:(backTo pos (starEach es X.env)).any (·.1)=false :=by rfl):QE Γ X (.Call (.Name x p) (e::es) [] pos) (zCallL f o c oc vcs S E' i za):=
 (II F ho hr hN hv hb hx ha gd eU he cL).imp fun σ H Q ⟨β,ρ,M,Q',zr,h,q⟩=>by
  subst hP hw hK ht;unfold zCallL at h;split at h
  ·rename_i f' o' c' Qd Qe cI hi;obtain⟨⟨rfl,rfl,rfl,rfl,rfl⟩,h⟩:=h;obtain⟨v,hv,r⟩:=zr.at' i _ hi;obtain⟨rfl,h1,_,_⟩:=mQ r;refine⟨hv,h1,β,ρ,M,_,zr,h,fun ds M1 vs H1 x1 r1 h2=>?_⟩
   have r':=r.ex x1;obtain⟨_,h3,_,_⟩:=mQ r';exact⟨h3,β,ds,cI,M1,Q',E',zr.eP,zr.ew,zr.eK,zr.et,x1.mz,r1,r',h2,fun d M2 v H2 x2 r2 h2=>q _ _ _ _ (x1.trans x2) r2 h2,fun C M2 H2 x2 h2=>hE C M2 H2 (tQ zr.ent zr.sub zr.eP zr.ew zr.eK zr.et (x1.trans x2)) h2⟩
  ·exact h.elim
end
theorem Ex.V1 {X:Cx}{P:ag}{β:Bz}{M:Mh}{H H2:Hp}{f c:ag}{o oc:kw}(m:Mz β M H) (hp:∀q∈β.tb.l,q.1=P->q.2=ix X) (n:P5 X P H H2 f o c oc):Ex β M H M H2 :=by
 obtain⟨new,at',cd,lm,keep,⟨ps,hP⟩⟩:=n;obtain⟨ps2,XO,_⟩:=id lm;have nP:∀b u,H b=some u->(∀ps,u≠.lam ps)->b≠P:=fun b u e q z=>by rw[z,hP]at e;cases e;exact q _ rfl
 have ey:Ey M H M H2:=⟨fun b u _ e=>by
  by_cases hb:b=P
  ·subst hb;rw[hP]at e;cases e;exact .inr ⟨_,.inr (.inl ⟨ps,ps2,rfl,rfl⟩),XO⟩
  ·exact .inl (keep b u e hb),fun _ h=>h,fun _ _ h _=>h⟩
 refine⟨ey,fun a u e=>?_,fun q hq=>?_,fun a ha=>?_,m.apart,fun q hq=>?_⟩
 ·have z:=m.obj a u e;have k:∀u,H a=some u->L2.rV u=true->H2 a=some u:=fun u h hu=>keep a u h (nP a u h (by intro ps z;subst z;cases hu))
  cases u with
  |lst ds=>obtain⟨vs,z,l,r⟩:=z;exact⟨vs,k _ z rfl,l,fun i v d a b=>(r i v d a b).ey ey⟩
  |dk ks ds=>obtain⟨vs,z,hk,l,r⟩:=z;exact⟨vs,k _ z rfl,hk,l,fun i v d a b=>(r i v d a b).ey ey⟩
  |dt ks ds=>obtain⟨vs,z,hk,l,r⟩:=z;exact⟨vs,k _ z rfl,hk,l,fun i v d a b=>(r i v d a b).ey ey⟩
  |cH=>obtain⟨c,n,z,r⟩:=z;exact⟨c,n,k _ z rfl,r⟩
 ·obtain⟨ps,e,t⟩:=m.tabs q hq;exact⟨ps,keep _ _ e (nP _ _ e (by intro ps z;cases z)),t⟩
 ·obtain⟨u,e,n⟩:=m.hids a ha;exact⟨u,keep _ _ e (nP _ _ e (by intro ps z;subst z;cases n)),n⟩
 ·by_cases hb:q.1=P
  ·have:q=(P,ix X):=Prod.ext hb (hp q hq hb);rw[this];exact lm
  ·exact(m.lams q hq).keep (fun _ e=>keep _ _ e hb) fun c' _ _ e=>keep _ _ e (nP _ _ e (by intro ps z;cases z))
section
variable {X:Cx}{Γ:Gz}{β:Bz}{CX:iI}{k:Nat}{f:ag}{fd:ln}{ps:List bi}{E:XK}{E':ZX}{x:bi}{p pos pV:u7}{e1 e2:c8}{rest:List c8}{z1 z2:aM}{zr:eY}{P:ff}{w:im}{tb:cf}{K:ba}
def tV:List Nat->aC->Option (List Dv)
 | [],_=>some []
 |i::is,ρ=>match ρ[i]?,tV is ρ with|some (some d),some ds=>some (d::ds)|_,_=>none
theorem Bu {Γ:Gz}{M:Mh}{ρ:aC}{σ:St}{H:Hp}(z:Zr Γ β M ρ σ H):∀{idx:List Nat}{cI:List Dv},tV idx ρ=some cI->∃vcs,aJ β M H vcs cI/\vcs.length=idx.length/\∀(j i:Nat) (v:V),idx[j]?=some i->vcs[j]?=some v->σ[i]?=some (some v)
 | [],cI,h=>by cases h;exact⟨[],.nil,rfl,fun j i v h=>by simp at h⟩
 |i::is,cI,h=>by
          unfold tV at h;split at h
          ·rename_i d ds h1 h2;cases h;obtain⟨v,hv,r⟩:=z.at' i d h1;obtain⟨vcs,rs,l,q⟩:=Bu z h2;refine⟨v::vcs,.cons r rs,by simp[l],fun j i' u a b=>?_⟩
           cases j with
           |zero=>simp at a b;subst a b;exact hv
           |succ j=>exact q j i' u (by simpa using a) (by simpa using b)
          ·cases h
def yQ (X:Cx) (params:NG) (body:c8) (scope:sB) (idx:List Nat) (fs:List bi) (S:hX->bP) (dd:List Dv) (E':ZX) (z1 z2:aM) (zr:eY):aM:=fun ρ M Q=>z1 ρ M fun d1 M1=>z2 ρ M1 fun d2 M2=>match tV idx ρ with
 |some cI=>∀f o c oc aY vcs,vcs.length=idx.length->P4 X params body scope o c oc aY->zr ρ M2 fun es M3=>∀b',(∀b o,X.base.get? b=some o->b'.get? b=some o)->uU b' fs aY vcs->S b' (d1::d2::.b7 f o c oc vcs cI::es++dd) M3 Q E'
 |none=>False
theorem C8 {params:NG}{body:c8}{scope:sB}{idx:List Nat}{fs:List bi}{S:hX->bP}{gZ:List V}{dd:List Dv}{ds:List al}{PT cX:ag}(ik:X.env.code=.ref cX) (eU:u8 X.base cX PT) (fW:∃bm ob,ZY X.base mainGlobals X.mg bm ob) (xl:defaultsOf params X.env=([],[]))
  (qw:∀n,(n,sK)∈scope.names->X.env.kindOf n=some .cell\/X.env.kindOf n=some .free) (XQ:∀(j:Nat) (n:bi),fs[j]?=some n->(n,sK)∈scope.names/\X.env.scope.names.lookup n=some .cell/\∃i,idx[j]?=some i/\X.N[i]?=some n)
  (gP:(PT,ix X)∈Γ.tb.l) (Qf:∀q∈Γ.tb.l,q.1=PT->q.2=ix X)
  (F:∀b',(∀b o,X.base.get? b=some o->b'.get? b=some o)->FnOk X.prog X.w X.K X.mg b' CX k f fd ps (aU P w K tb (S b'))) (hr:ck k X.A) (sI:∀x,X.fn x=true) (hg:Gl X x) (hm:X.mg x=some (.ref f)) (hk:Do X.K (.ref f)=true) (hb:Binds X.K fd ps ds) (hd:Vals gZ ds) (XS:∀β M H,aJ β M H gZ dd)
  (hx:Passes CX X E) (hP:P=Γ.P) (hw:w=Γ.w) (hK:K=Γ.K) (ht:tb=Γ.tb) (hE:XR Γ E' E) (h1:QE Γ X e1 z1) (h2:QE Γ X e2 z2) (h3:QA Γ X rest zr) (gd:(x==("__debug__" : bi))=false :=by decide)
  (s1:starEach (e1::e2::.Lambda params body scope pV::rest) X.env=(false,eval e1 X.env)::starEach (e2::.Lambda params body scope pV::rest) X.env :=by rfl)
  (s2:starEach (e2::.Lambda params body scope pV::rest) X.env=(false,eval e2 X.env)::starEach (.Lambda params body scope pV::rest) X.env :=by rfl)
  (s3:starEach (.Lambda params body scope pV::rest) X.env=(false,eval (.Lambda params body scope pV) X.env)::starEach rest X.env :=by rfl)
  (cL:(backTo pos (starEach (e2::.Lambda params body scope pV::rest) X.env)).any (·.1)=false :=by rfl) :
  QE Γ X (.Call (.Name x p) (e1::e2::.Lambda params body scope pV::rest) [] pos) (yQ X params body scope idx fs S dd E' z1 z2 zr):=
 (IH F hr sI hg hm hk hb hd hx (qz h1 (qz h2 (qz (P7 ik eU fW xl qw) h3 s3) s2) s1) gd s1 cL).imp fun σ H Q ⟨β,ρ,M,Q',lQ,h,q⟩=>by
  subst hP hw hK ht;refine⟨β,ρ,M,_,lQ,h,fun d1 M1 v1 H1 x1 r1 h1=>⟨β,ρ,M1,_,lQ.step x1,h1,fun d2 M2 v2 H2 x2 r2 h2=>?_⟩⟩
  have Kf:=(lQ.step x1).step x2;have V2:(PT,ix X)∈β.tb.l :=by rw[lQ.et];exact gP
  have V3:∀q∈β.tb.l,q.1=PT->q.2=ix X :=by rw[lQ.et];exact Qf
  refine⟨x2.mz.lams _ V2,fun lf o c oc aY H3 hO hN=>?_⟩
  split at h2
  ·rename_i cI S0;obtain⟨vcs,Kq,lcs,at'⟩:=Bu Kf S0;have x3:=Ex.V1 x2.mz V3 hN;have Pu:=Kf.step x3;refine⟨β,ρ,M2,_,Pu,h2 lf o c oc aY vcs lcs hO,fun es M4 ws H4 x4 r4 h4=>?_⟩
   intro b' B;obtain⟨u1,a1⟩:=hN.at';obtain⟨u2,a2⟩:=hN.cd;have UC:=x3.mz;have XT:Fz β M2 lf:=x2.mz.fz hN.new;have V4:∀a o u,H3 a=some (.bV o u)->a ∉ β.hid:=fun a o u e z=>by
    obtain⟨w,e',n⟩:=UC.hids a z;rw[e]at e';cases e';cases n
   have V5:Rz β M2 H3 (.ref lf) (.b7 lf o c oc vcs cI):=.b7 XT a1 ⟨UC.lx a2 rfl,V4 _ _ _ a2⟩ a2 Kq.len fun i v d a b=>(Kq.at' i v d a b).ex x3
   have V6:uU b' fs aY vcs :=by
    refine⟨fun n m a e e'=>B.inj n m a (hO.cells n a e) (hO.cells m a e'),fun n a e=>B.cells n a (hO.cells n a e),fun j n v hj hv=>?_⟩
    obtain⟨fr,kc,i,hi,hn⟩:=XQ j n hj;obtain⟨a,u,e1,e2,e3⟩:=B.cell i n v hn (at' j i v hi hv) kc;obtain⟨a',e'⟩:=hO.has n fr;have:=(hO.cells n a' e').symm.trans e1;cases this;exact⟨a,u,e',e2,e3⟩
   have oM:=x2.trans (x3.trans x4);have XU:=x3.trans x4;refine⟨β,_,M4,Q',E',lQ.eP,lQ.ew,lQ.eK,lQ.et,x4.mz,?_,h4 b' B.ext V6,fun d M5 v H5 x5 r5 h5=>q _ _ _ _ (x1.trans (oM.trans x5)) r5 h5,fun C M5 H5 x5 h5=>hE C M5 H5 (tQ lQ.ent lQ.sub lQ.eP lQ.ew lQ.eK lQ.et (x1.trans (oM.trans x5))) h5⟩
   have rs:aJ β M4 H4 (v1::v2::.ref lf::ws++gZ) (d1::d2::.b7 lf o c oc vcs cI::es++dd):=.cons (r1.ex oM) (.cons (r2.ex XU) (.cons (V5.ex x4) (r4.append (XS _ _ _))));exact rs
  ·exact h2.elim
end
end L2
namespace L2
open PySem PySem.Spec PyProof.Rows
theorem FZ {P:ff}{w:im}{K:ba}{mg mb:bi->Option al}{CX:iI}{k:Nat}{fa a:ag}{fd:ln}{x:bi}{sp:Sp}{aF:ar}{vs:List al}{ns:List Int}{tabs lts:List ag}
  (KX:K.In aF.heap) (iJ:aF.heap.Ns mainGlobals mg) (hb:aF.heap.Ns builtinsNs mb) (XW:∀x:bi,x ≠ "__name__" -> mb x=bootBuiltins x) (Qg:aF.heap.NoLimit) (hg:aF.gens=#[])
  (ha:aF.heap.get? a=some {cls:=.type "list",data:=.seq vs.toArray}) (hi:OF vs ns) (hl:ns.length<=sizeLine) (hr:ck k callerA)
  (ll:∀p∈tabs++lts,aF.heap.get? p=some (Ps #[])/\isCodeTable aF.heap p) (V7:∀p∈tabs,p ∉ lts) (F0:aaq K=true) (fW:∃bm ob,ZY aF.heap mainGlobals mg bm ob)
  (F:∀base:hX,K.In base->base.Ns mainGlobals mg->(∃bm ob,ZY base mainGlobals mg bm ob)->(∀c p,u8 aF.heap c p->u8 base c p)->FnOk P w K mg base CX k fa fd [x] sp)
  (S1:∀(s:ar) (u:al),aaP s fd ⟨[u],[]⟩ [(x,u)])
  (mC:∀H:Hp,(∀p∈tabs,Tb p H)->(∀p∈lts,H p=some (.lam #[]))->bL K H a (ns.map V.int)->sp [.ref a] H (fun v H'=>v=.bl true/\∀p∈lts,∃ps,H' p=some (.lam ps)) fun _ _ _=>False)
  (Qh:∀H e s',CX [] H aF (fun _ _ _=>False) e s'->False) :
  codeAny (model P w) callerA (.call (.ref fa) ⟨[.ref a],[]⟩) (fun r s'=>r=.ok (.ret (.bool true))/\OldK aF.heap s'.heap/\s'.os=aF.os/\abc s'.gens) aF :=by
 have rv:=vC hi;have V8:=hi.length;have lj:a ∉ tabs++lts:=fun z=>by
  have e:=(ll a z).1;rw[ha]at e;cases e
 have core:∀H:Hp,(∀b u,H b=some u->(b=a/\∃o xs,u=.bV o (.lst xs))\/(b∈tabs++lts/\(u=.dw #[]/\b∈tabs\/u=.lam #[]/\b∈lts)))->(∀p∈tabs,H p=some (.dw #[]))->(∀p∈lts,H p=some (.lam #[]))->bL K H a (ns.map V.int)->c7 P w H aF.heap->(H a≠none->K.lookup a=none)->
   codeAny (model P w) callerA (.call (.ref fa) ⟨[.ref a],[]⟩) (fun r s'=>r=.ok (.ret (.bool true))/\OldK aF.heap s'.heap/\s'.os=aF.os/\abc s'.gens) aF :=by
  intro H hO XX XY hS hok hK;have qO:∀{b:ag} {o:kw},aF.heap.get? b=some o->H b=none->(kY aF.heap H).get? b=some o:=fun e n=>Hm e n
  have no:∀{b:ag} {o:kw},aF.heap.get? b=some o->(∀n,o.data≠.seq vs.toArray n)->o≠Ps #[]->H b=none:=fun {b o} e d1 d2=>by
   cases q:H b with
   |none=>rfl
   |some u=>
    rcases hO b u q with ⟨e',_⟩|⟨fq,_⟩
    ·subst e';rw[ha]at e;cases e;exact absurd rfl (d1 _)
    ·rw[(ll b fq).1]at e;exact absurd (ij e).symm d2
  have XZ:∀{b:ag} {o:kw} {es:Array WE} {ep:Nat},aF.heap.get? b=some o->o.data=.dict es ep->H b=none:=fun {b o es ep} e d=>no e (fun n z=>by rw[d]at z;cases z) fun z=>by rw[z]at d;cases d
  have F1:∀{b:ag} {m:bi->Option al},aF.heap.Ns b m->(kY aF.heap H).Ns b m:=fun {b m} hS=>by obtain⟨o,es,ep,e,d,r⟩:=hS;exact⟨o,es,ep,qO e (XZ e d),d,r⟩
  have UD:K.In (kY aF.heap H):=fun b o e=>qO (KX b o e) (by
   cases q:H b with
   |none=>rfl
   |some u=>
    rcases hO b u q with ⟨e',_⟩|⟨fq,_⟩
    ·subst e';rw[hK (by rw[q];simp)]at e;cases e
    ·have e1:=KX b o e;have e2:=(ll b fq).1;rw[e1]at e2;have e3:o=Ps #[]:=ij e2;have q2:=wT.mp F0 (b,o) (PySem.W.kb_mem e);simp only[Bool.or_eq_true,decide_eq_true_eq,beq_iff_eq]at q2;rcases q2 with (q2|q2)|q2
     ·rw[e3]at q2;exact absurd rfl q2
     ·obtain⟨mc,⟨oc,es,ep,ho,hd,_⟩,_⟩:=Qg;rw[<- q2,e1]at ho;cases ho;rw[e3]at hd;cases hd
     ·obtain⟨oc,es,ep,ho,hd,_⟩:=id iJ;rw[<- q2,e1]at ho;cases ho;rw[e3]at hd;cases hd)
  have hM:Mod K mg (kY aF.heap H):=⟨UD,F1 iJ,⟨mb,F1 hb,XW⟩,let ⟨mc,h1,h2⟩:=Qg;⟨mc,F1 h1,h2⟩⟩;have hB:∃bm ob,ZY (kY aF.heap H) mainGlobals mg bm ob :=by
   obtain⟨bm,ob,B⟩:=fW;exact⟨bm,ob,F1 B.ns,B.name,B.ne,qO B.obj (no B.obj (fun n z=>by rw[B.data]at z;cases z) fun z=>by have:=B.data;rw[z]at this;cases this),B.cls,B.dict,B.data⟩
  have hC:∀c p,u8 aF.heap c p->u8 (kY aF.heap H) c p:=fun c p ⟨o,Fq,file,tf,flags,tg,X0,text,tt,e1,e2,e3,r⟩=>
   ⟨o,Fq,file,tf,flags,tg,X0,text,tt,qO e1 (no e1 (fun n z=>by rw[e3]at z;cases z) fun z=>by rw[z]at e2;cases e2),e2,e3,r⟩
  have e0:uy P w K mg (kY aF.heap H) callerA [] aF H:=⟨rfl,hM,fun b o e=>K1 e,Nat.le_of_eq (D2 _ _),trivial,fun b hb=>absurd (show b∈([]:List ag) from hb) (by simp),hok,.of_eq hg⟩
  refine Zl ((F _ UD (F1 iJ) hB hC).run callerA [] aF H ⟨[.ref a],[]⟩ [.ref a] [.ref a] _ _ hr e0 (S1 aF (.ref a)) (.cons rfl .nil) (mC H (fun p hp=>⟨#[],XX p hp,trivial⟩) XY hS)) fun r s' h=>?_
  cases r with
  |error e=>exact(Qh H e s' h).elim
  |ok fl=>
   cases fl with
   |next=>exact Go h
   |brk=>exact Go h
   |cont=>exact Go h
   |ret u=>
    obtain⟨v,H',os,bare,un,IK,r',q⟩:=h;obtain⟨q',qL⟩:=q;subst q';obtain rfl:u=WI true:=r';have all:∀b o,aF.heap.get? b=some o->asItWas aF.heap s'.heap b o/\∃o',s'.heap.get? b=some o':=fun b o e=>by
     cases q:H b with
     |none=>
      have:=un.keep b o e q (by intro z;exact absurd (show b∈([]:List ag) from z) (by simp)) (by simp)
      exact⟨.inl this,_,this⟩
     |some u=>
      rcases hO b u q with ⟨_,ob,xs,z⟩|⟨fq,z⟩
      ·subst z;have z2:=un.frzs b ob _ q;obtain⟨e1,_⟩:=hok b _ q;obtain⟨e2,_⟩:=IK b _ z2;rw[e]at e1;cases e1;exact⟨.inl e2,_,e2⟩
      ·have e2:∃more,s'.heap.get? b=some {cls:=.none,data:=.fields (#[]++more)}:=by
        rcases z with ⟨z,_⟩|⟨z,Bc⟩
        ·subst z;obtain⟨more,z2⟩:=un.tbls b #[] q;exact⟨more,IK b _ z2⟩
        ·obtain⟨ps,z2⟩:=qL b Bc;refine⟨ps,?_⟩;have:=IK b _ z2;rw[show (#[]:Array al)++ps=ps by simp]
         exact this
       obtain⟨more,e2⟩:=e2;have e1:=(ll b fq).1;rw[e]at e1;obtain rfl:o=Ps #[]:=ij e1;exact⟨.inr (.inl ⟨(ll b fq).2,rfl,#[],more,rfl,e2⟩),_,e2⟩
    exact⟨rfl,⟨fun b o e=>(all b o e).1,fun b o e=>(all b o e).2⟩,os,bare.1⟩
 have Qi:∀p∈tabs++lts,∀H:Hp,∀u,(u=.dw #[]/\p∈tabs\/u=.lam #[]/\p∈lts)->ObjOk P w H aF.heap p u:=fun p hp H u hu=>by
  rcases hu with ⟨rfl,_⟩|⟨rfl,_⟩<;>exact(ll p hp).1
 let T:Hp:=fun b=>if b∈lts then some (.lam #[]) else if b∈tabs then some (.dw #[]) else none
 have T1:∀b u,T b=some u->b∈tabs++lts/\(u=.dw #[]/\b∈tabs\/u=.lam #[]/\b∈lts):=fun b u z=>by
  by_cases h1:b∈lts
  ·have z':=(show T b=_ from if_pos h1).symm.trans z;cases z';exact⟨li _ h1,.inr ⟨rfl,h1⟩⟩
  ·by_cases h2:b∈tabs
   ·have z':=(show T b=_ from (if_neg h1).trans (if_pos h2)).symm.trans z;cases z';exact⟨r9 _ h2,.inl ⟨rfl,h2⟩⟩
   ·have z':=(show T b=_ from (if_neg h1).trans (if_neg h2)).symm.trans z;cases z'
 have T2:∀p∈tabs,T p=some (.dw #[]):=fun p hp=>(if_neg (V7 p hp)).trans (if_pos hp)
 have T3:∀p∈lts,T p=some (.lam #[]):=fun p hp=>if_pos hp
 have Ta:T a=none:=(if_neg fun z=>lj (li _ z)).trans (if_neg fun z=>lj (r9 _ z))
 cases hk:K.lookup a with
 |some o=>
  have e:=KX a o hk;rw[ha]at e;cases e;exact core T (fun b u z=>.inr (T1 b u z)) T2 T3 (.inr ⟨_,vs.toArray,_,hk,rfl,rfl,rfl,by rw[dL,V8];exact hl,by simpa using rv⟩) (fun b u z=>Qi b (T1 b u z).1 _ u (T1 b u z).2) fun z=>absurd Ta z
 |none=>
  have na:∀p∈tabs++lts,p≠a:=fun p hp z=>lj (z▸hp)
  refine core (upd T a (.bV {cls:=.type "list",data:=.seq vs.toArray} (.lst (ns.map V.int)))) (fun b u z=>?_) (fun p hp=>by rw[ah (na p (r9 _ hp))];exact T2 p hp) (fun p hp=>by rw[ah (na p (li _ hp))];exact T3 p hp) (.inl (.inr ⟨_,aE⟩)) (fun b u z=>?_) fun _=>hk
  ·by_cases hb:b=a
   ·subst hb;rw[aE]at z;cases z;exact .inl ⟨rfl,_,_,rfl⟩
   ·rw[ah hb]at z;exact .inr (T1 b u z)
  ·by_cases hb:b=a
   ·subst hb;rw[aE]at z;cases z;exact⟨ha,by rw[bv];exact hl,vs,_,rv,ha⟩
   ·rw[ah hb]at z;exact Qi b (T1 b u z).1 _ u (T1 b u z).2
def xc (K:ba) (x:bi):Option ag:=match mT K mainGlobals x with
 |some (some (.ref f))=>(match K.lookup f with
  |some ⟨_,_,.func fd,_⟩=>(match fd.code with
   | .ref c=>(match K.lookup c with
    |some ⟨_,_,.fields vs,_⟩=>(match vs[11]? with|some (l6 p)=>some p|_=>none)
    |_=>none)
   |_=>none)
  |_=>none)
 |_=>none
abbrev TabOf (mg:bi->Option al) (h:hX) (y:bi) (p:ag):Prop:=∃f o fd c,mg y=some (.ref f)/\h.get? f=some o/\o.data=.func fd/\fd.code=.ref c/\u8 h c p
theorem yR {K:ba}{mg:bi->Option al}{h:hX}{y:bi}{p q:ag}(X:K.In h) (G:h.Ns mainGlobals mg) (t:TabOf mg h y p) (e:xc K y=some q):p=q :=by
 obtain⟨f,o,fd,c,e1,e2,e3,e4,oc,vs,_,_,_,_,_,_,_,g1,_,g3,g4,_⟩:=t;unfold xc at e;split at e
 ·rename_i f' iJ;have:=(ON X G iJ).symm.trans e1;cases this;split at e
  ·rename_i Qd Y9 JW TN tW;have:=(X _ _ tW).symm.trans e2;cases this;cases e3;rw[e4]at e;dsimp only at e;split at e
   ·rename_i a1 a2 Fq a3 X1;have:=(X _ _ X1).symm.trans g1;cases this;cases g3;rw[g4]at e;cases e;rfl
   ·cases e
  ·cases e
 ·cases e
def uV (K:ba) (gs ls:List bi):Bool:=gs.all fun x=>ls.all fun y=>match xc K x,xc K y with|some p,some q=>decide (p≠q)|_,_=>false
theorem Bv {α β:Type}{F:α->β->Prop}{l:List α}{m:List β}(h:xz F l m) {b:β}(hb:b∈m):∃a∈l,F a b :=by
 induction h with
 |nil=>simp at hb
 |cons x t ih=>
  rcases i4.mp hb with e|e
  ·subst e;exact⟨_,i8,x⟩
  ·obtain⟨a,ha,q⟩:=ih e;exact⟨a,en _ ha,q⟩
theorem IL {K:ba}{mg:bi->Option al}{h:hX}{gs ls:List bi}{tabs lts:List ag}(X:K.In h) (G:h.Ns mainGlobals mg) (d:uV K gs ls=true) (t1:xz (TabOf mg h) gs tabs) (t2:xz (TabOf mg h) ls lts):∀p∈tabs,p ∉ lts:=fun p hp hq=>by
 obtain⟨x,hx,tx⟩:=Bv t1 hp;obtain⟨y,hy,ty⟩:=Bv t2 hq;have:=wT.mp (wT.mp d x hx) y hy;split at this
 ·rename_i p' q' e1 e2;have a:=yR X G tx e1;have b:=yR X G ty e2;exact(of_decide_eq_true this) (a.symm.trans b)
 ·cases this
theorem IM {l:aa8}{n k:Nat}{q:ff}{loose:List bi}{XP:(bi->Option al)->hX->Prop}{YP:im->hX->Prop}{d:DefRec}{K:abi->ba}{CX:iI}{sp:ba->List ag->List ag->Sp}{x:bi}{oH F2:List bi}
  (hn:l.most=some n) (X2:n<=sizeLine) (Eu:d.params.defaults=[]) (hr:ck k callerA) (F0:∀w:im,aaq (K w.params)=true)
  (Kr:∀y∈oH++F2,∃r∈recsOf q,r.name=y) (rn:∀w:im,uV (K w.params) oH F2=true)
  (hY:∀(w:im) (h:hX),YP w h->(K w.params).In h)
  (F:∀(w:im) (mg:bi->Option al) (fa:ag) (h:hX) (tabs lts:List ag),(K w.params).In h->h.Ns mainGlobals mg->mg d.name=some (.ref fa)->
   xz (TabOf mg h) oH tabs->xz (TabOf mg h) F2 lts->
   ∃fd:ln,(∀(s:ar) (u:al),aaP s fd ⟨[u],[]⟩ [(x,u)]) /\
    ∀base:hX,(K w.params).In base->base.Ns mainGlobals mg->(∃bm ob,ZY base mainGlobals mg bm ob)->(∀c p,u8 h c p->u8 base c p)->FnOk l.prog w (K w.params) mg base CX k fa fd [x] (sp (K w.params) tabs lts))
  (mC:∀(K:ba) (tabs lts:List ag) (H:Hp) (a:ag) (ns:List Int),lts.length=F2.length->ns.length<=n->(∀p∈tabs,Tb p H)->(∀p∈lts,H p=some (.lam #[]))->bL K H a (ns.map V.int)->sp K tabs lts [.ref a] H (fun v H'=>v=.bl true/\∀p∈lts,∃ps,H' p=some (.lam ps)) fun _ _ _=>False)
  (Qh:∀(H:Hp) (s:ar) (e:al) (s':ar),CX [] H s (fun _ _ _=>False) e s'->False) :
  PySem.W.WalkO q loose XP YP l.row.toRowW d [] (fun f vs=>abd f vs) :=by
 refine T4.Ag hn Eu fun w s₀ aF mg mb fa o pm cd doc a vs ns G Y ho hd eU Ew HI hints hlen hg=>?_
 have KX:=hY w _ Y;have tb:∀oH:List bi,(∀y∈oH,∃r∈recsOf q,r.name=y)->∃tabs,xz (TabOf mg aF.heap) oH tabs/\∀p∈tabs,aF.heap.get? p=some (Ps #[])/\isCodeTable aF.heap p :=by
  intro oH;induction oH with
  |nil=>intro _;exact⟨[],.nil,fun p hp=>absurd hp (by simp)⟩
  |cons y r ih=>
   intro hm;obtain⟨tabs,h1,h2⟩:=ih fun z hz=>hm z (en _ hz)
   obtain⟨rr,X3,e⟩:=hm y i8;obtain⟨f,o',fd,c,p,a1,a2,a3,a4,a5,a6⟩:=G.T.tab rr X3;rw[e]at a1;refine⟨p::tabs,.cons ⟨f,o',fd,c,a1,a2,a3,a4,.of a5 a6⟩ h1,fun z hz=>?_⟩
   rcases i4.mp hz with rfl|hz
   ·exact⟨a6.2,a6.isCodeTable⟩
   ·exact h2 z hz
 obtain⟨tabs,t1,t2⟩:=tb oH fun y hy=>Kr y (r9 _ hy)
 obtain⟨lts,u1,u2⟩:=tb F2 fun y hy=>Kr y (li _ hy)
 obtain⟨fd,hb,hF⟩:=F w mg fa _ tabs lts KX G.T.g Ew t1 u1;exact FZ (lts:=lts) KX G.T.g G.T.b G.T.builtins G.T.nolimit hg HI hints (qr hlen X2) hr (fun p hp=>(rf.mp hp).elim (t2 p) (u2 p)) (IL KX G.T.g (rn w) t1 u1) (F0 w) (PySem.W.bmod_of_top G.T) hF hb (fun H hO hL hS=>mC _ tabs lts H a ns (IF u1).symm hlen hO hL hS) fun H e s'=>Qh H aF e s'
abbrev pW (K:ba) (x:bi) (st:sw) (dv:al):Prop:=
 ∃(f:ag) (oc:al) (od:Option ag) (sl:Array (Option al)) (T:ag) (oT:kw) (nT:Nat) (kV dc pm:al) (an:Option ag) (cd ct:al),
  mT K mainGlobals x=some (some (.ref f))/\K.lookup f=some ⟨oc,od,.func (AM x x (dG st) (bQ st) (ai st) (.ref T) kV dc pm an cd ct),sl⟩/\LM K cd x=true/\Do K (.ref f)=true/\K.lookup T=some oT/\oT.data=.seq #[dv] nT
theorem F3 {K:ba}{x:bi}{st:sw}{dv:al}{f:ag}{oc:al}{od:Option ag}{sl:Array (Option al)}{T:ag}{oT:kw}{nT:Nat}{kV dc pm:al}{an:Option ag}{cd ct:al}(a:mT K mainGlobals x=some (some (.ref f)))
  (l:K.lookup f=some ⟨oc,od,.func (AM x x (dG st) (bQ st) (ai st) (.ref T) kV dc pm an cd ct),sl⟩) (c:LM K cd x=true) (k:Do K (.ref f)=true) (t:K.lookup T=some oT) (u:oT.data=.seq #[dv] nT):pW K x st dv:=⟨f,oc,od,sl,T,oT,nT,kV,dc,pm,an,cd,ct,a,l,c,k,t,u⟩
theorem pW.df {K:ba}{mg:bi->Option al}{h:hX}{x:bi}{st:sw}{dv:al}(d:pW K x st dv) (X:K.In h) (G:h.Ns mainGlobals mg) (ps:List bi)
  (hb:∀(T:ag) (kV doc pm:al) (an:Option ag) (dn ct:al) (us:List al),us.length+1=ps.length->∃k,bindArgs (AM x x (dG st) (bQ st) (ai st) (.ref T) kV doc pm an dn ct) ⟨us,[]⟩=seqItems? (.ref T)>>=k/\k (some #[dv])=pure (ps.zip (us++[dv])))
  (vM:∀(T:ag) (kV doc pm:al) (an:Option ag) (dn ct:al) (us:List al),us.length=ps.length->∃k,bindArgs (AM x x (dG st) (bQ st) (ai st) (.ref T) kV doc pm an dn ct) ⟨us,[]⟩=seqItems? (.ref T)>>=k/\k (some #[dv])=pure (ps.zip us)) :
  ∃f fd,Ko K mg x st ps [dv] f fd :=by
 obtain⟨f,oc,od,sl,T,oT,nT,kV,dc,pm,an,cd,ct,a,l,c,k,t,u⟩:=d;refine⟨f,_,⟨oc,od,.ref T,kV,dc,pm,an,cd,ct,sl,rfl,l,c⟩,k,fun s us hK hl=>?_,fun s us hK hl=>?_,ON X G a⟩
 ·obtain⟨kk,h1,h2⟩:=hb T kV dc pm an cd ct us (by rw[l8]at hl;exact hl)
  exact PySem.W.binds_K hK rfl t u h1 h2
 ·rw[EQ]at hl ⊢;obtain⟨kk,h1,h2⟩:=vM T kV dc pm an cd ct us hl;exact PySem.W.binds_K hK rfl t u h1 h2
theorem IP {K:ba}{tabs lts:List ag}{qs:List bi}{H:Hp}{a:ag}{ns:List Int}(hl:lts.length=qs.length) (hn:ns.length<=63) (hT:∀p∈tabs,Tb p H) (hL:∀p∈lts,H p=some (.lam #[])) (hS:bL K H a (ns.map V.int)) :
  spLaw K ⟨tabs,lts.zip qs⟩ [.ref a] H (fun v H'=>v=.bl true/\∀p∈lts,∃ps,H' p=some (.lam ps)) fun _ _ _=>False:=
 ⟨a,ns,rfl,hS,hn,hT,fun p hp=>⟨#[],hL p.1 (SS hp).1,trivial,fun pos cv e=>nomatch e⟩,fun H' h=>⟨rfl,fun p hp=>by
  obtain⟨i,hi⟩:=l7.mp hp;have h1:=(ca.mp hi).1;exact h (p,qs[i]) (cr (i:=i) (zw.mpr ⟨hi,ap (by omega)⟩))⟩⟩
theorem F4 {K:ba}{x:bi}{st:sw}{i:Int}{tk:aaR}{f:ag}{oc:al}{od:Option ag}{sl:Array (Option al)}{T:ag}{oT:kw}{nT:Nat}{kV dc pm:al}{an:Option ag}{cd ct:al}(a:mT K mainGlobals x=some (some (.ref f)))
  (l:K.lookup f=some ⟨oc,od,.func (AM x x (dG st) (bQ st) (ai st) (.ref T) kV dc pm an cd ct),sl⟩) (c:LM K cd x=true) (k:Do K (.ref f)=true) (t:K.lookup T=some oT) (u:oT.data=.seq #[.int i tk] nT):∃tk,pW K x st (.int i tk):=⟨tk,F3 a l c k t u⟩
structure pX (h:hX) (d:ag) (es:Array WE) (ep:Nat):Prop where
 ex:∃o,h.get? d=some o/\o.cls=.type "dict" /\ o.data=.dict es ep
abbrev wc (d:ag) (i n ep:Nat):kw:={cls:=.type "dict_keyiterator",dict:=none,data:=.fields #[.ref d,.int i 0,.int n 0,.int ep 0],slots:=#[]}
theorem F5 (d:ag):¬ ((l6 d==wS)=true):=fun z=>nomatch (show false=true from z)
section
variable {prog:ff}{w:im}{A:l5}{E:al->ar->Prop}{s:ar}{d it:ag}{es:Array WE}{ep i:Nat}
theorem F6 {Q:al->ar->Prop}(lo:(d==sysModules)=false) (r:pX s.heap d es ep) (q:Q (.ref s.heap.objs.size) {s with heap:=s.heap.push (wc d 0 es.size ep)}) :
  wpAny (model prog w) A (pyIter (.ref d)) Q E s :=by
 obtain⟨o,g,c,dt⟩:=r;have ty:s.TypeIs (.ref d) "dict" := ⟨o,g,c⟩
 refine aaH ty PySem.F.slot_dict_iter (wb PySem.F.slot_dict_iter ty PySem.F.entry_dict_iter ?_ (PySem.F.args_dict_iter_1 _));unfold ss.«dict.__iter__» ss.Dict.dictSlotNone;refine ac (ac (wpAny_notOrdered_dict ty ?_));refine(show wpAny _ _ (pure (l6 d)) _ _ s from bn ?_);refine(show wpAny _ _ (ss.Dict.showsAll d>>=_) _ _ s from ?_);unfold ss.Dict.showsAll;rw[if_neg (by rw[lo];decide)]
 refine ac (bn (ac (UV g dt (ac (aa9 g dt ?_)))));refine ac (xb (bn ⟨_,rfl,"dict_keyiterator",_,⟨_,db _ rfl,rfl⟩,Db.lookup,?_⟩))
 simpa[rawInt,wc] using q
theorem F7 {Q:Option al->ar->Prop}(gi:s.heap.get? it=some (wc d i es.size ep)) (r:pX s.heap d es ep) (hi:i<es.size)
  (q:∀h',h'.get? it=some (wc d (i+1) es.size ep)->v6 it s.heap h'->Q (some es[i].key) {s with heap:=h'}):wpAny (model prog w) A (pyNext (.ref it)) Q E s :=by
 obtain⟨o,g,c,dt⟩:=r;have ty:s.TypeIs (.ref it) "dict_keyiterator" := ⟨_,gi,rfl⟩
 unfold pyNext;refine ac (LG (wv (name:=wp "__next__") ty Db (wb Db ty PySem.F.entry_dict_keyiterator_next ?_ (PySem.F.args_dict_keyiterator_next_1 _))))
 refine ac (bn (ac (ac ?_)));refine ac (MW ty (bn (ac (Wp gi rfl ?_))));simp only[show ss.Dict_items.ownsTuple "dict_keyiterator" = false by decide,lw,if_false]
 refine(show wpAny _ _ (if (l6 d==wS)=true then _ else _) _ _ s from ?_)
 rw[if_neg (F5 d)];refine ac (bn (ac (UV g dt ?_)));rw[if_neg (by simp)]
 refine ac (bn (ac (aa9 g dt ?_)));rw[if_neg (by simp)]
 refine bn ?_;simp only[show ¬ ((i:Int)<0) by omega,if_false,wE,GM hi]
 refine ac (ac (MW ty (bn (ac (wpAny_isOneOf_keyiter ty ?_)))));refine(show wpAny _ _ (setField (.ref it) 1 (rawInt ((i:Int)+1))>>=_) _ _ s from ac (At gi (by simp) fun h1 e1 b1=>?_))
 have e1:h1.get? it=some (wc d (i+1) es.size ep) :=by
  rw[e1];simp[wc,rawInt]
 refine ac (AC (ac (wpAny_isOneOf_keyiter (s:={s with heap:=h1}) ⟨_,e1,rfl⟩ ?_)))
 exact(show wpAny _ _ (pure es[i].key) _ _ _ from bn (bn ⟨_,rfl,bn (q _ e1 b1)⟩))
theorem IQ {Q:Option al->ar->Prop}(hh:A.handled=none) (gi:s.heap.get? it=some (wc d i es.size ep)) (r:pX s.heap d es ep) (hi:es.size<=i)
  (q:∀h',aak it s.heap h'->Q none {s with heap:=h'}):wpAny (model prog w) A (pyNext (.ref it)) Q E s :=by
 obtain⟨o,g,c,dt⟩:=r;have ty:s.TypeIs (.ref it) "dict_keyiterator" := ⟨_,gi,rfl⟩
 unfold pyNext;refine ac (LG (wv (name:=wp "__next__") ty Db (wb Db ty PySem.F.entry_dict_keyiterator_next ?_ (PySem.F.args_dict_keyiterator_next_1 _))))
 refine ac (bn (ac (ac ?_)));refine ac (MW ty (bn (ac (Wp gi rfl ?_))));simp only[show ss.Dict_items.ownsTuple "dict_keyiterator" = false by decide,lw,if_false]
 refine(show wpAny _ _ (if (l6 d==wS)=true then _ else _) _ _ s from ?_)
 rw[if_neg (F5 d)];refine ac (bn (ac (UV g dt ?_)));rw[if_neg (by simp)]
 refine ac (bn (ac (aa9 g dt ?_)));rw[if_neg (by simp)]
 refine bn ?_;simp only[show ¬ ((i:Int)<0) by omega,if_false,wE,ZC hi]
 refine ac (ac (MW ty (bn ?_)));refine(show wpAny _ _ (setField (.ref it) 0 .none>>=_) _ _ s from ac (At gi (by simp) fun h1 e1 b1=>?_))
 refine(show wpAny _ _ (newExc (.type "StopIteration") []>>=_) _ _ _ from ac ?_)
 simp only[newExc,newTuple];refine ac (xb (ac (m:=firstArgMember _ _) (aaj (a:=wS) (by first|rfl|(simp only[firstArgMember];rfl)) (xb ?_ (by size_fits)))) (by size_fits))
 simp only[raiseNew];refine ac (wpAny_handled ?_);rw[show A.in1.handled=none from hh];refine ac (bn (wpAny_throw ?_));refine ac (XV (T := "StopIteration") (b:=true) ⟨_,db _ rfl,rfl⟩ aaf (bn (q _ ?_)))
 exact(b1.extBut.push _).push _
end
def Ks (es:Array WE) (ps:List (V×V)):Prop:=es.size=ps.length/\∀(i:Nat) (p:V×V),ps[i]?=some p->∃hi:i<es.size,RelV p.1 es[i].key/\RelV p.2 es[i].val
inductive C9 (H:Hp):HO->List (V×V)->Prop where
 |k (aq:List (Key×V)):C9 H (.dK aq) (aq.map fun kv=>(kV kv.1,kv.2))
 |t (aq:List (List Key×V)) (bs:List ag) (hl:bs.length=aq.length) (h:∀(i:Nat) (b:ag) (kv:List Key×V),bs[i]?=some b->aq[i]?=some kv->H b=some (.tup (kv.1.map kV))):C9 H (.dT aq) ((bs.map V.ref).zip (aq.map (·.2)))
theorem IU {P:ff}{w:im}{k:Key}{u:al}(h:(bA P w).is k u=true):RelV (kV k) u :=by
 rcases cJ (k:=k) (v:=u) h with ⟨i,t,rfl,rfl⟩|⟨x,t,rfl,rfl⟩
 ·exact⟨t,rfl⟩
 ·exact⟨t,rfl⟩
theorem j1 {α β:Type}{F:α->β->Prop}:∀{l:List α}{m:List β}{i:Nat}{a:α},xz F l m->l[i]?=some a->∃b,m[i]?=some b/\F a b
 |_,_,_,_,.nil,h=>by simp at h
 |_,_,0,_,.cons x _,h=>by simp at h;subst h;exact⟨_,rfl,x⟩
 |_,_,i+1,_,.cons _ t,h=>by obtain⟨b,e,q⟩:=j1 (i:=i) t (by simpa using h);exact⟨b,by simpa using e,q⟩
section
variable {P:ff}{w:im}{H:Hp}{h:hX}{a:ag}{u:HO}
structure Rows (H:Hp) (h:hX) (a:ag) (u:HO) (o:kw) (es:Array WE) (ep:Nat) (ps:List (V×V)):Prop where
 obj:h.get? a=some o
 cls:o.cls=.type "dict"
 dict:o.dict=none
 data:o.data=.dict es ep
 lo:(a==sysModules)=false
 rel:Ks es ps
 ps:C9 H u ps
theorem Bw (ok:c7 P w H h) (e:Rd H a u) (hu:lu u=true):∃o es ep ps,Rows H h a u o es ep ps :=by
 have q:=e.ok ok;cases u with
 |dK aq=>
  obtain⟨z,lo,vs,rel,o,es,ep,g,x,dt,hk,hp,hn⟩:=q;refine⟨o,es,ep,_,g,x.1,x.2.1,dt,lo,⟨?_,fun i p hi=>?_⟩,.k aq⟩
  ·have h1:=hp.length;have h2:=rel.length;simp only[bv,wn]at h1 ⊢;omega
  ·rw[ce,lc]at hi;obtain⟨kv,we,rfl⟩:=hi;obtain⟨⟨k',v'⟩,hv,e1,e2⟩:=j1 rel we;have hl:i<es.size :=by
    have h1:=hp.length;have h2:=(ca.mp hv).1;simp only[wn]at h1;omega
   obtain⟨a1,a2⟩:=hp.get? (e:=es[i]) (by simp[hl]) hv
   refine⟨hl,?_,?_⟩
   ·rw[e1];exact IU a1
   ·rw[a2];exact e2
 |dT aq=>
  obtain⟨z,lo,xs,rel,o,es,ep,g,x,dt,he,hn⟩:=q;have X4:aq.length=xs.length:=IF rel;have X5:es.size=xs.length :=by
   have:=congrArg List.length he;simpa using this
  refine⟨o,es,ep,_,g,x.1,x.2.1,dt,lo,⟨?_,fun i p hi=>?_⟩,.t aq (xs.map (·.2.1)) (by rw[bv];exact X4.symm) fun i b kv hb we=>?_⟩
  ·simp only[GS,bv];omega
  ·rw[zw,xy,ce,ce,lc,lc]at hi;obtain⟨⟨x1,F8,e1⟩,⟨kv,we,e2⟩⟩:=hi;obtain⟨x2,F9,_,_,r⟩:=j1 rel we;rw[F8]at F9;cases F9;have hl:i<es.size :=by rw[X5];exact(ca.mp F8).1
   have UE:es[i]=entryOfKey (tupleKind (bA P w)) x1 :=by
    have:es.toList[i]?=some (entryOfKey (tupleKind (bA P w)) x1) :=by rw[he,ce,F8];rfl
    rw[OE,GM hl]at this;exact ij this
   refine⟨hl,?_,?_⟩
   ·rw[UE,<- e1];rfl
   ·rw[UE,<- e2];exact r
  ·rw[ce,lc]at hb;obtain⟨x1,F8,rfl⟩:=hb;obtain⟨x2,F9,e1,e2,_⟩:=j1 rel we;rw[F8]at F9;cases F9;exact e2
 |_=>cases hu
end
inductive jB (a:ag) (o:kw) (u:HO) (H:Hp):Hp->Prop where
 |now (e:H a=some u) (hu:lu u=true):jB a o u H (upd H a (.bV o u))
 |was (e:H a=some (.bV o u)):jB a o u H H
theorem jB.at {a:ag}{o:kw}{u:HO}{H H2:Hp}(f:jB a o u H H2):H2 a=some (.bV o u) :=by
 cases f with
 |now e hu=>exact aE
 |was e=>exact e
section
variable {X:Cx}{pins:List (ag×kw)}{σ:St}{H:Hp}{s:ar}{a:ag}{o:kw}{u:HO}
theorem Inv.bV (I:Inv X pins σ H s) (e:H a=some u) (hu:lu u=true) (ho:s.heap.get? a=some o):Inv X pins σ (upd H a (.bV o u)) s :=by
 have nT:∀b v,H b=some v->lu v=false->b≠a:=fun b v q n z=>by rw[z,e]at q;cases q;rw[hu]at n;cases n
 have n0:∀b,H b=none->b≠a:=fun b q z=>by rw[z,e]at q;cases q
 have J:=I.un (t':=s.toks) (h':=s.heap) (H':=upd H a (.bV o u)) ⟨fun b v q n _ _=>q,fun b v q n _ _=>⟨v.slots,q⟩,fun b v q n _=>by rw[ah (n0 b n)];exact n,fun b v q _=>⟨v,q⟩,fun b xs q=>by rw[ah (nT b _ q rfl)];exact q,
  fun b v xs q=>by rw[ah (nT b _ q rfl)];exact q,fun b qs q=>⟨#[],by rw[ah (nT b _ q rfl),q];simp⟩⟩ fun b v q=>?_
 ·exact J
 ·by_cases hb:b=a
  ·subst hb;rw[aE]at q;cases q;exact⟨ho,(I.hok b u e).cG (fun _ _ _ z=>z) (fun c z=>by rw[ah (nT c _ z rfl)];exact z) fun c xs z=>by rw[ah (nT c _ z rfl)];exact z⟩
  ·rw[ah hb]at q;exact(I.hok b v q).cG (fun _ _ _ z=>z) (fun c z=>by rw[ah (nT c _ z rfl)];exact z) fun c xs z=>by rw[ah (nT c _ z rfl)];exact z
theorem Inv.Ma (I:Inv X pins σ H s) (d:Rd H a u) (hu:lu u=true):∃o H2 es ep ps,jB a o u H H2/\Inv X pins σ H2 s/\Rows H s.heap a u o es ep ps :=by
 obtain⟨o,es,ep,ps,R⟩:=Bw I.hok d hu;rcases d with d|⟨o',d⟩
 ·exact⟨o,_,es,ep,ps,.now d hu,I.bV d hu R.obj,R⟩
 ·have e:=(I.hok a _ d).1;rw[R.obj]at e;cases e;exact⟨o,H,es,ep,ps,.was d,I,R⟩
end
def Qj (a:ag) (o:kw) (u:HO) (ks:List V):It:=⟨fun i H=>H a=some (.bV o u)/\i<ks.length,fun i H x H'=>H'=H/\ks[i]?=some x,fun i H=>H a=some (.bV o u)/\ks.length<=i⟩
section
variable {P:ff}{w:im}{K:ba}{a it:ag}{o:kw}{u:HO}{es:Array WE}{ep:Nat}{ps:List (V×V)}
theorem Ga {tg:c8}(FY:o.cls=.type "dict") (UG:o.data=.dict es ep) (rel:Ks es ps) (dZ:a≠it):Turn P w K tg (Qj a o u (ps.map (·.1))) [it] it (fun i h=>h.get? it=some (wc a i es.size ep)) where
 mem :=by simp
 obj:=fun i h st b hb=>by
  have e:b=it :=by simpa using hb
  subst e;exact⟨_,st,fun v z=>nomatch z⟩
 keep:=fun i h h' st k=>k it (by simp) _ st
 item :=by
  intro X hP hw hK hc i pins s σ H E I hf st hg;subst hP hw hK;obtain⟨ha,hi⟩:=hg;rw[bv]at hi;have hr:pX s.heap a es ep:=⟨o,(I.hok a _ ha).1,FY,UG⟩;obtain⟨p,hp⟩:∃p,ps[i]?=some p:=⟨_,ap hi⟩;obtain⟨fX,r1,_⟩:=rel.2 i p hp;obtain⟨f0,f1,f2,f3,f4,f5⟩:=hf it (by simp)
  refine F7 st hr fX fun h' kb sb=>?_
  have I1:Inv X pins σ H {s with heap:=h'}:=I.turned (t':=s.toks) (fun b o hb e=>(sb.2 b hb).trans e) f0 f1 f3 f4 f5
  exact⟨_,rfl,wW (s:={s with heap:=h'}) kb rfl rfl (by decide) ⟨p.1,H,I1,r1,⟨rfl,by rw[ce,hp];rfl⟩,kb,fun b hb=>(hf b hb).1⟩⟩
 done :=by
  intro X hP hw hK hc i pins s σ H E I hf st hg;subst hP hw hK;obtain⟨ha,hi⟩:=hg;rw[bv]at hi;have hr:pX s.heap a es ep:=⟨o,(I.hok a _ ha).1,FY,UG⟩;obtain⟨f0,f1,f2,f3,f4,f5⟩:=hf it (by simp)
  exact IQ (I.ok.hd hc) st hr (by rw[rel.1];exact hi) fun h' eb=>⟨rfl,I.turned (t':=s.toks) (fun b o hb e=>eb b o hb e) f0 f1 f3 f4 f5⟩
 self:=fun _ i _ _ _ st h=>wpAny_pyIter_keyiter (d:=a) (i:=i) (n:=es.size) (ep:=ep) ⟨_,st,rfl,rfl⟩ h
end
end L2
namespace L2
open PySem PySem.Spec PySem.W PyProof.Rows
section
variable {X:Cx}{Γ:Gz}{K:ba}
open Classical in
theorem IV {A:l5}{E:al->ar->Prop}{s:ar}{P:ff}{w:im}{d:ag}{o:kw}{es:Array WE}{ep:Nat}{Q:al->ar->Prop}(hd:(d==sysModules)=false) (ho:s.heap.get? d=some o) (hc:o.cls=.type "dict") (V9:o.data=.dict es ep) (YS:(es.size:Int)<2 ^ 63)
  (h:Q (.int es.size (s.toks+1)) {s with toks:=s.toks+1+1}):wpAny (model P w) A (call (.builtin "len") [.ref d]) Q E s :=by
 have mt:Meets (ss.«dict.__len__» ⟨[.ref d],[]⟩) (fun _ R s'=>s'.heap.get? d=some o/\R (.ok (.ret (.int es.size s'.toks))) {s' with toks:=s'.toks+1}):=.of_wp fun P w A R s' ⟨hg,hR⟩=>by
  show wpAny _ _ (dictSize d>>=_) _ _ s';unfold dictSize;exact ac (ac (UV hg V9 (bn (ac (wpAny_pendingCount_other hd (wpAny_ret_mkInt (by rw[Nat.add_zero];exact hR)))))))
 exact call_len_meets ⟨_,ho,hc⟩ F.slot_dict_len F.entry_dict_len (F.args_dict_len_1 _) mt (by omega) (by omega) (fun _ q=>⟨ho,q⟩) h
def zLenT (d:Dv) (M:Mh) (Q:ZK):Prop:=match nowK M d with | .dt ks _=>Q (.int ks.length) M|_=>False
theorem Qk:eA Γ X (.builtin "len") (z1 zLenT):=⟨fun xs H Q=>∃a aq,xs=[.ref a]/\Rd H a (.dT aq)/\Q (.int aq.length) H,fun pins s σ H xs us Q I rs ⟨a,aq,e,ha,q⟩=>by
 subst e;cases rs with
 |cons r1 rs=>
  cases rs;cases r1;obtain⟨o,es,ep,ps,R⟩:=Bw I.hok ha rfl;have hl:=(mJ I.hok ha).1;have hp:ps.length=aq.length :=by
   cases R.ps with
   |t _ bs hl h=>simp only[GS,bv];omega
  have he:es.size=aq.length:=R.rel.1.trans hp;refine IV R.lo R.obj R.cls R.data (by rw[he];rw[show sizeLine=16777216 from rfl]at hl;omega) ⟨.int aq.length,H,I.tok _,⟨_,by rw[he]⟩,q⟩,fun β xs ds M H Q Q' _ _ _ m rs z q=>by
 unfold z1 at z;split at z
 ·obtain⟨x,rfl,r⟩:=cF rs;unfold zLenT at z;split at z
  ·rename_i ks ds hk;obtain⟨a,vs,rfl,ha,hk,_⟩:=(qN m r).2 _ _ hk;refine⟨a,_,rfl,ha,?_⟩;rw[GS,<- hk,ID];exact q _ _ _ _ (.refl m) (.int _) z
  ·exact z.elim
 ·exact z.elim⟩
end
end L2
namespace L2
open PySem PySem.Spec PyProof.Rows
section
variable {X:Cx}{tg l:c8}{tl:TE}
def S2 (tl:TE):TI:=fun σ H R=>tl σ H fun x H1=>∃a u,x=.ref a/\lu u=true/\Rd H1 a u/\∀o H2 ps,jB a o u H1 H2->C9 H1 u ps->R (Qj a o u (ps.map (·.1))) H2
theorem Mb (hl:PE X l tl):PI X tg l (S2 tl) :=by
 intro pins s σ H R I h;refine thn (hl pins s σ H _ I h) fun v s1 ⟨x,H1,I1,r1,q1⟩=>?_
 obtain⟨a,u,e,hu,hr,q⟩:=q1;subst e;cases r1;obtain⟨o,H2,es,ep,ps,f,I2,rw⟩:=I1.Ma hr hu;have dZ:a≠s1.heap.objs.size:=jp (gc rw.obj);refine F6 rw.lo ⟨o,rw.obj,rw.cls,rw.data⟩ ?_;refine⟨s1.heap.objs.size,[s1.heap.objs.size],_,_,H2,rfl,I2.kept (t':=s1.toks) fun b o e=>br _ e,Ga rw.cls rw.data rw.rel dZ,db _ rfl,fun b hb=>?_,q o H2 ps f rw.ps⟩
 have e:b=s1.heap.objs.size :=by simpa using hb
 subst e;exact I2.k6 (cb _) (I2.hok.fresh (cb _))
end
theorem Ex.bV {β:Bz}{M:Mh}{H H2:Hp}{a:ag}{o:kw}{u:HO}(m:Mz β M H) (f:jB a o u H H2) (fz:Fz β M a):Ex β M H M H2 :=by
 cases f with
 |was e=>exact .refl m
 |now e hu=>
  have y:Ey M H M (upd H a (.bV o u)):=⟨fun b v hm hb=>by
   by_cases z:b=a
   ·subst z;rw[e]at hb;cases hb;exact .inr ⟨_,.inr (.inr ⟨hu,_,rfl⟩),aE⟩
   ·exact .inl (by rw[ah z];exact hb),fun _ h=>h,fun _ _ h _=>h⟩
  have nd:∀b v,H b=some v->lu v=false->b≠a:=fun b v q n z=>by rw[z,e]at q;cases q;rw[hu]at n;cases n
  refine⟨y,⟨fun b v hb=>?_,fun p hp=>?_,fun b hb=>?_,m.apart,fun p hp=>?_⟩⟩
  ·have By:b≠a:=fun z=>by rw[z,fz.1]at hb;cases hb
   have q:=m.obj b v hb;cases v with
   |cH=>
    obtain⟨c,k,e2,r⟩:=q;exact⟨c,k,by rw[ah By];exact e2,r⟩
   |lst ds=>
    obtain⟨us,e2,ru⟩:=q;exact⟨us,by rw[ah By];exact e2,ru.len,fun i w d p q=>(ru.at' i w d p q).ey y⟩
   |dk ks ds=>
    obtain⟨us,e2,hk,ru⟩:=q;exact⟨us,by rw[ah By];exact e2,hk,ru.len,fun i w d p q=>(ru.at' i w d p q).ey y⟩
   |dt ks ds=>
    obtain⟨us,e2,hk,ru⟩:=q;exact⟨us,by rw[ah By];exact e2,hk,ru.len,fun i w d p q=>(ru.at' i w d p q).ey y⟩
  ·obtain⟨ps,e2,t⟩:=m.tabs p hp;exact⟨ps,by rw[ah (nd _ _ e2 rfl)];exact e2,t⟩
  ·obtain⟨v,e2,n⟩:=m.hids b hb;have By:b≠a:=fun z=>fz.2 (by rw[<- z];exact hb)
   exact⟨v,by rw[ah By];exact e2,n⟩
  ·exact(m.lams p hp).keep (fun ps e2=>by rw[ah (nd _ _ e2 rfl)];exact e2) fun c oc v e2=>by rw[ah (nd _ _ e2 rfl)];exact e2
def lR:Key->Dv
 | .inl i=>.int i
 | .inr z=>.str z
def ziKeys (p:aM):dz:=fun ρ M R=>p ρ M fun d M1=>match d with | .dk ks _=>R (ks.map lR) M1 | .dt ks _=>R (ks.map fun k=>.tup (k.map lR)) M1|_=>False
section
variable {X:Cx}{Γ:Gz}{β:Bz}{M:Mh}{H:Hp}{tg l:c8}{p:aM}
theorem Ql (k:Key):Rz β M H (kV k) (lR k) :=by
 cases k with
 |inl i=>exact .int i
 |inr z=>exact .str z
theorem yS (ks:List Key):aJ β M H (ks.map kV) (ks.map lR):=⟨by simp,fun i v d a b=>by
 rw[ce]at a b;cases e:ks[i]? with
 |none=>rw[e]at a;cases a
 |some k=>rw[e]at a b;cases a;cases b;exact Ql k⟩
theorem wg {a:ag}{o:kw}{u:HO}{vs:List V}(h:H a=some (.bV o u)):Runs (Qj a o u vs) vs H:=fun i=>⟨fun hi=>⟨⟨h,hi⟩,fun v H' q=>q⟩,fun hi=>⟨h,hi⟩⟩
theorem qP {α γ:Type}:∀{ks:List α}{vs:List γ},ks.length=vs.length->(ks.zip vs).map (·.1)=ks
 | [],[],_=>rfl
 |k::ks,v::vs,h=>by rw[TD,mo,qP (by simpa using h)]
theorem uW (hl:QE Γ X l p):QI Γ X tg l (ziKeys p):=(Mb hl).imp fun σ H R ⟨β,ρ,M,R',zr,h,q⟩=>⟨β,ρ,M,_,zr,h,fun d M1 v H1 x1 r1 h1=>by
 revert h1
 split
 ·intro h1;rename_i ks ds;cases r1 with
  | @dk a _ vs _ f e hk hl hh=>
   refine⟨a,.dK (ks.zip vs),rfl,rfl,e,fun o H2 ps g Qm=>?_⟩
   have x2:=Ex.bV x1.mz g f;cases Qm;refine q _ _ _ _ (x1.trans x2) (ju (vs:=ks.map kV) (yS ks) fun M' H' x=>?_) h1
   have e2:((ks.zip vs).map fun kv=>(kV kv.1,kv.2)).map (·.1)=ks.map kV :=by
    rw[xy];show (ks.zip vs).map (kV ∘ Prod.fst)=_;rw[<- xy,qP hk]
   rw[e2];exact wg (x.get f.1 g.at rfl)
 ·intro h1;rename_i ks ds;cases r1 with
  | @dt a _ vs _ f e hk hl hh=>
   refine⟨a,.dT (ks.zip vs),rfl,rfl,e,fun o H2 ps g Qm=>?_⟩
   have x2:=Ex.bV x1.mz g f;cases Qm with
   |t _ bs hb lj=>
    have hz:(ks.zip vs).length=ks.length :=by rw[GS,<- hk,ID]
    have e2:((bs.map V.ref).zip ((ks.zip vs).map (·.2))).map (·.1)=bs.map V.ref:=qP (by rw[bv,bv];exact hb)
    rw[e2];refine q _ _ _ _ (x1.trans x2) (ju (vs:=bs.map V.ref) ⟨by rw[bv,bv,hb,hz],fun i v d ha hd=>?_⟩ fun M' H' x=>wg (x.get f.1 g.at rfl)) h1
    rw[ce,lc]at ha hd;obtain⟨b,Ud,rfl⟩:=ha;obtain⟨k,UH,rfl⟩:=hd;have lK:i<(ks.zip vs).length :=by rw[hz];exact(ca.mp UH).1
    have we:=ap lK;have ht:=lj i b _ Ud we;have ek:((ks.zip vs)[i]).1=k :=by
     have:((ks.zip vs).map (·.1))[i]?=some ((ks.zip vs)[i]).1 :=by rw[ce,we];rfl
     rw[qP hk,UH]at this;exact(ij this).symm
    rw[ek]at ht;have fb:Fz β M1 b:=⟨x1.mz.lx ht rfl,fun z=>by
     obtain⟨w,hw,n⟩:=x1.mz.hids b z;rw[ht]at hw;cases hw;cases n⟩
    have r0:Rz β M1 H1 (.ref b) (.tup (k.map lR)):=pJ fb ht (yS k);exact r0.ex x2
 ·exact fun h=>h.elim⟩
end
section
variable {Γ:Gz}{X:Cx}{K:ba}
def zCatLP:fv:=fun d e M Q=>match d,e with | .lst ds,.lst es=>ds.length+es.length<=sizeLine/\∀a,M a=none->Q (.ptr a) (aw M a (.lst (ds++es)))|_,_=>False
theorem Md (hK:X.K=K):fY Γ X (binaryOp .Add) zCatLP:=⟨_,Ol,fun β x y d e M H Q Q' _ _ _ m rx ry z q=>by
 unfold zCatLP at z;split at z
 ·obtain⟨a,vs,rfl,f,ha,rs⟩:=dS rx;obtain⟨b,us,rfl,f2,hb,cw⟩:=dS ry;refine⟨a,b,vs,us,rfl,rfl,ha,hb,by rw[rs.len,cw.len];exact z.1,fun p hp=>?_⟩
  have x2:=Ex.own m (.inr hp) (rs.append cw);exact q _ _ _ _ x2 (.ptr (by rw[updM_same];rfl)) (z.2 p (m.free hp))
 ·exact z.elim⟩
def zClear:oO:=fun d ds M Q=>match d,ds with | .ptr a,[]=>(match M a with|some (.lst _)=>Q .ax (aw M a (.lst []))|_=>False)|_,_=>False
theorem BA:rB Γ X "list" "list.clear" K zClear:=⟨_,HH,fun β x xs d ds M H Q Q' _ _ _ m r rs z q=>by
 unfold zClear at z;split at z
 ·rename_i a;split at z
  ·rename_i ys ha;obtain⟨rfl,h⟩:=bF r;obtain⟨vs,hv,cw⟩:=m.obj a _ ha;have e:=rs.len;have e0:xs=[]:=Ix e;subst e0;refine⟨a,vs,rfl,rfl,hv,?_⟩;exact q _ _ _ _ (Ex.own m (.inl h) .nil) .ax z
  ·exact z.elim
 ·exact z.elim⟩
end
theorem iy {g:bS}{te:aM}(J:List Dv->aC->Mh->Prop):∀{ds acc:List Dv}{τ:aC}{M:Mh}{Q:List Dv->Mh->Prop},J acc τ M->
  (∀i d gV τ M,ds[i]?=some d->gV.length=acc.length+i->J gV τ M->∀R:aC->ZK,(∀y az M2,J (gV++[y]) az M2->R az y M2)->g d τ M fun az M2=>te az M2 (R az))->
  (∀ys τ M,ys.length=ds.length->J (acc++ys) τ M->Q ys M)->iw g zNoIf te ds τ M Q
 | [],acc,τ,M,Q,j,_,q=>q [] τ M rfl (by rw[EQ];exact j)
 |d::ds,acc,τ,M,Q,j,h,q=>by
          refine h 0 d acc τ M rfl rfl j (fun az y M4=>iw g zNoIf te ds az M4 fun ys M5=>Q (y::ys) M5) fun y az M2 j2=>?_
          refine iy J (acc:=acc++[y]) j2 (fun i d' gV aT M' e1 e2 j' R hR=>?_) fun ys lD M3 e3 j3=>?_
          ·exact h (i+1) d' gV aT M' e1 (by rw[e2,l8];simp;omega) j' R hR
          ·exact q (y::ys) lD M3 (by simp[e3]) (by rw[FM]at j3;exact j3)
section
variable {X:Cx}{Γ:Gz}{tg elt iter:c8}{ifs:List c8}{scope:sB}{pos:u7}{N':List bi}{tn:Nat}{idx:List Nat}
theorem yT {zi:dz}{g:bS}{tt:cg}{te:aM}{i:Nat}{y:bi}{py eW:u7}(hN:X.N.Nodup) (cy:X.N[i]?=some y) (hy:X.env.scope.names.lookup y=some .local) (hc:X.calm=true) (B:eO X.N X.env.scope scope N' tn idx) (hi:QI Γ X tg iter zi)
  (hg:oh X N' scope fun Y=>QG Γ Y tg g) (ht:oh X N' scope fun Y=>nE Γ Y ifs tt) (he:oh X N' scope fun Y=>QE Γ Y elt te)
  (nj:swapsWith (.ListComp elt [⟨tg,iter,ifs,0⟩] scope pos) (some (.Name y py)) eW.line X.env=pure true :=by rfl)
  (hs:∀x,foldedSetIterable iter X.env x=pure x :=by intro _;rfl):QS Γ X (.Assign [.Name y py] (.ListComp elt [⟨tg,iter,ifs,0⟩] scope pos) eW) (zAsg (zCompP tn idx zi g tt te) (zgName i)):=(Aq hN cy hy hc B hi hg ht he nj hs).imp fun D σ H h=>tM (fun _ _ _ h=>uL h) h
end
theorem tX {a1 r:cN}{D:ja}{ρ:aC}{M:Mh}(I:aC->Mh->Prop) (h1:∀N:aC->Mh->Prop,(∀ρ M,I ρ M->N ρ M)->a1 {D with nx:=N} ρ M) (h2:∀ρ M,I ρ M->r D ρ M):(zSeq a1 r) D ρ M:=h1 _ h2
theorem S3 {a1 a2 r:cN}{D:ja}{ρ:aC}{M:Mh}(I:aC->Mh->Prop) (h1:∀N:aC->Mh->Prop,(∀ρ M,I ρ M->N ρ M)->(zSeq a1 a2) {D with nx:=N} ρ M) (h2:∀ρ M,I ρ M->r D ρ M):(zSeq a1 (zSeq a2 r)) D ρ M:=h1 _ h2
theorem S4 {a1 a2 a3 a4 r:cN}{D:ja}{ρ:aC}{M:Mh}(I:aC->Mh->Prop) (h1:∀N:aC->Mh->Prop,(∀ρ M,I ρ M->N ρ M)->(zSeq a1 (zSeq a2 (zSeq a3 a4))) {D with nx:=N} ρ M) (h2:∀ρ M,I ρ M->r D ρ M):(zSeq a1 (zSeq a2 (zSeq a3 (zSeq a4 r)))) D ρ M:=h1 _ h2
theorem S5 {a1 a2 a3 a4 a5 a6 a7 a8 r:cN}{D:ja}{ρ:aC}{M:Mh}(I:aC->Mh->Prop) (h1:∀N:aC->Mh->Prop,(∀ρ M,I ρ M->N ρ M)->(zSeq a1 (zSeq a2 (zSeq a3 (zSeq a4 (zSeq a5 (zSeq a6 (zSeq a7 a8))))))) {D with nx:=N} ρ M) (h2:∀ρ M,I ρ M->r D ρ M):(zSeq a1 (zSeq a2 (zSeq a3 (zSeq a4 (zSeq a5 (zSeq a6 (zSeq a7 (zSeq a8 r)))))))) D ρ M:=h1 _ h2
section
variable {β:Bz}{M M':Mh}{H H':Hp}{a:ag}{o o' o2 rD:Mo}
theorem Rz.dom (hd:∀a,(M a).isSome=(M' a).isSome) {v:V}{d:Dv}(r:Rz β M H v d):Rz β M' H v d:=
 r.n8 (M0:=M') (fun a h=>by rw[hd a];exact h) (r.pin.mono fun a h=>by rw[<- hd a];exact h)
theorem jY.dom (hd:∀a,(M a).isSome=(M' a).isSome) (h:jY β M H a o):jY β M' H a o :=by
 cases o with
 |lst ds=>obtain⟨vs,h1,rs⟩:=h;exact⟨vs,h1,rs.len,fun i v d x y=>(rs.at' i v d x y).dom hd⟩
 |cH=>exact h
 |dk ks ds=>obtain⟨vs,h1,h2,rs⟩:=h;exact⟨vs,h1,h2,rs.len,fun i v d x y=>(rs.at' i v d x y).dom hd⟩
 |dt ks ds=>obtain⟨vs,h1,h2,rs⟩:=h;exact⟨vs,h1,h2,rs.len,fun i v d x y=>(rs.at' i v d x y).dom hd⟩
theorem kW (M:Mh) (a:ag) (o o2:Mo) (b:ag):(aw M a o b).isSome=(aw M a o2 b).isSome :=by
 by_cases e:b=a
 ·subst e;rw[updM_same,updM_same];rfl
 ·rw[ao e,ao e]
theorem mR {b:ag}(o2:Mo) (h:aw M a o b=none):aw M a o2 b=none :=by
 by_cases e:b=a
 ·subst e;rw[updM_same]at h;cases h
 ·rw[ao e]at h ⊢;exact h
theorem Mz.chg (m:Mz β (aw M a o) H) (h2:jY β (aw M a o2) H a o2):Mz β (aw M a o2) H :=by
 refine⟨fun b u e=>?_,m.tabs,m.hids,fun b u e=>?_,m.lams⟩
 ·by_cases z:b=a
  ·subst z;rw[updM_same]at e;cases e;exact h2
  ·rw[ao z]at e;exact jY.dom (kW M a o o2) (m.obj b u (by rw[ao z];exact e))
 ·by_cases z:b=a
  ·subst z;exact m.apart b o updM_same
  ·rw[ao z]at e;exact m.apart b u (by rw[ao z];exact e)
theorem BC (h:M a=some o):aw M a o=M :=by
 funext b
 by_cases e:b=a
 ·subst e;rw[updM_same,h]
 ·rw[ao e]
theorem Ex.chg (x:Ex β (aw M a o) H (aw M a o') H') (h2:jY β (aw M a rD) H' a rD):Ex β (aw M a o2) H (aw M a rD) H':=
 ⟨⟨fun b u h e=>x.keep b u (mR o h) e,fun b h=>by rw[kW M a rD o'];exact x.dom b (by rw[kW M a o o2];exact h),fun b u h e=>mR rD (x.new b u (mR o h) e)⟩,x.mz.chg h2⟩
theorem Ex.sealed (hn:M a=none) (x:Ex β M H (aw M a o') H') (h2:jY β (aw M a rD) H' a rD):Ex β M H (aw M a rD) H':=
 ⟨⟨x.keep,fun b h=>by rw[kW M a rD o'];exact x.dom b h,fun b u h e=>mR rD (x.new b u h e)⟩,x.mz.chg h2⟩
theorem Gb {c m:Int}(z:Mz β (aw M a (.lst [.int c,.int m])) H) (hc:0<=c) (hm:0<=m):jY β (aw M a .cH) H a .cH :=by
 obtain⟨vs,h,rs⟩:=z.obj a _ updM_same;refine⟨c,m,?_,hc,hm⟩;have:=n5 (ns:=[c,m]) rs;rw[h,this];rfl
theorem Qn (z:Mz β (aw M a .cH) H):∃c m:Int,0<=c/\0<=m/\jY β (aw M a (.lst [.int c,.int m])) H a (.lst [.int c,.int m]) :=by
 obtain⟨c,m,h,hc,hm⟩:=z.obj a _ updM_same;exact⟨c,m,hc,hm,_,h,rX (ns:=[c,m])⟩
end
section
variable {X:Cx}{Γ:Gz}{K:ba}
def zIxS:fv:=fun d e M Q=>match d,e with | .bK ns,.int i=>(match dF ns i with|some x=>Q (.int x) M|none=>False)|_,_=>False
theorem Kt (hK:X.K=K) (hG:K=Γ.K):Px Γ X zIxS:=⟨_,A9 hK,fun β x y d e M H Q Q' _ _ eK m rx ry z q=>by
 unfold zIxS at z;split at z
 ·rename_i ns i;split at z
  ·rename_i v hv;obtain⟨a,rfl,hS⟩:=vX rx;rw[eK,<- hG]at hS;exact .inl ⟨a,_,i,.int v,rfl,aV ry,hS,LY hv,q _ _ _ _ (.refl m) (.int _) z⟩
  ·exact z.elim
 ·exact z.elim⟩
end
def BD (k:Nat):bi:=⟨#[97+k]⟩
theorem BE (k:Nat):(BD k).length=1:=rfl
theorem Dc (a b:bi):(a++b).length=a.length+b.length :=by
 show (a.cps++b.cps).size=a.cps.size+b.cps.size;exact Array.size_append
section
variable {κ:Type} [DecidableEq κ]
theorem ej:∀(ks U:List κ),ks.Nodup->(∀k∈ks,k∈U)->ks.length<=U.length
 | [],_,_,_=>mf _
 |k::ks,U,nd,h=>by
          have hn:=Os.mp nd;have hk:=h k i8;have ih:=ej ks (U.erase k) hn.2 fun x hx=>(List.mem_erase_of_ne (fun e=>hn.1 (by rw[<- e];exact hx))).mpr (h x (en _ hx))
          rw[List.length_erase_of_mem hk]at ih;have:=List.length_pos_of_mem hk;rw[AL];omega
def jC (step:κ->Nat->κ) (met:κ) (w:bi) (st:List κ×List bi) (a:Nat):List κ×List bi:=if step met a∈st.1 then st else (st.1++[step met a],st.2++[w++BD a])
def visit (step:κ->Nat->κ) (met:κ) (w:bi) (n:Nat) (st:List κ×List bi):List κ×List bi:=(ii n).foldl (jC step met w) st
def lU (step:κ->Nat->κ) (n most:Nat):Nat->Nat->List κ×List bi->List κ×List bi
 |0,_,st=>st
 |fuel+1,i,st=>match st.1[i]?,st.2[i]? with
  |some met,some w=>if st.1.length<=most then lU step n most fuel (i+1) (visit step met w n st) else st
  |_,_=>st
structure gD (U:List κ) (st:List κ×List bi):Prop where
 len:st.1.length=st.2.length
 nd:st.1.Nodup
 sub:∀k∈st.1,k∈U
 wl:∀(i:Nat) (w:bi),st.2[i]?=some w->w.length<=i
theorem gD.le {U:List κ}{st:List κ×List bi}(o:gD U st):st.1.length<=U.length:=ej _ _ o.nd o.sub
theorem jf (step:κ->Nat->κ) (met:κ) (w:bi) (n:Nat) (st:List κ×List bi):visit step met w (n+1) st=jC step met w (visit step met w n st) n :=by
 unfold visit;rw[Z4,aaF];rfl
theorem wj (step:κ->Nat->κ) (met:κ) (w:bi) (st:List κ×List bi) (a:Nat):∃ks ws,(jC step met w st a).1=st.1++ks/\(jC step met w st a).2=st.2++ws :=by
 unfold jC;split
 ·exact⟨[],[],by simp,by simp⟩
 ·exact⟨_,_,rfl,rfl⟩
theorem kI (step:κ->Nat->κ) (met:κ) (w:bi) (n:Nat) (st:List κ×List bi):∃ks ws,(visit step met w n st).1=st.1++ks/\(visit step met w n st).2=st.2++ws :=by
 induction n with
 |zero=>exact⟨[],[],by simp[visit],by simp[visit]⟩
 |succ n ih=>
  obtain⟨ks,ws,h1,h2⟩:=ih;rw[jf];obtain⟨Uy,X6,h3,h4⟩:=wj step met w (visit step met w n st) n;exact⟨ks++Uy,ws++X6,by rw[h3,h1,FM],by rw[h4,h2,FM]⟩
theorem uX {α:Type}{l m:List α}{i:Nat}{x:α}(h:l[i]?=some x):(l++m)[i]?=some x :=by
 rw[ww (ca.mp h).1];exact h
theorem gD.jC {U:List κ}{step:κ->Nat->κ}{st:List κ×List bi}(o:gD U st) {i a:Nat}{met:κ}{w:bi}(hw:st.2[i]?=some w) (hs:step met a∈U):gD U (L2.jC step met w st a) :=by
 unfold L2.jC;split
 ·exact o
 ·rename_i hn;refine⟨by simp[o.len],?_,fun k hk=>?_,fun j v hj=>?_⟩
  ·rw[Da];refine⟨o.nd,by simp,fun x hx y hy e=>?_⟩
   rw[io]at hy;subst e;exact hn (hy▸hx)
  ·rcases rf.mp hk with z|z
   ·exact o.sub k z
   ·rw[io]at z;rw[z];exact hs
  ·by_cases h:j<st.2.length
   ·rw[ww h]at hj;exact o.wl j v hj
   ·rw[AE (by omega)]at hj
    have e:j - st.2.length=0 :=by
     have:=(ca.mp hj).1;simp at this;omega
    rw[e]at hj;cases hj;have h1:=o.wl i w hw;have h2:=(ca.mp hw).1;rw[Dc,BE];omega
theorem gD.visit {U:List κ}{step:κ->Nat->κ}{st:List κ×List bi}(o:gD U st) {i n:Nat}{met:κ}{w:bi}(hw:st.2[i]?=some w) (hs:∀a,a<n->step met a∈U):gD U (L2.visit step met w n st) :=by
 induction n with
 |zero=>exact o
 |succ n ih=>
  rw[jf];obtain⟨ks,ws,h1,h2⟩:=kI step met w n st;exact(ih fun a ha=>hs a (by omega)).jC (i:=i) (by rw[h2];exact uX hw) (hs n (by omega))
def met (step:κ->Nat->κ) (n most N:Nat) (s:κ):List κ×List bi:=lU step n most (N+1) 0 ([s],[""])
theorem mS {U:List κ}{s:κ}(h:s∈U):gD U ([s],[("" : bi)]):=⟨rfl,by simp,fun k hk=>by rw[io]at hk;rw[hk];exact h,fun i w e=>by
 cases i with
 |zero=>cases e;exact cb 0
 |succ i=>simp at e⟩
theorem yU {U:List κ}{step:κ->Nat->κ}{n most:Nat}(hs:∀k∈U,∀a,a<n->step k a∈U):∀(fuel i:Nat) (st:List κ×List bi),gD U st->gD U (lU step n most fuel i st)
 |0,_,st,o=>o
 |fuel+1,i,st,o=>by
          unfold lU;split
          ·rename_i k w h1 h2;split
           ·exact yU hs fuel (i+1) _ (o.visit h2 fun a ha=>hs k (o.sub k (cr h1)) a ha)
           ·exact o
          ·exact o
theorem Gd {step:κ->Nat->κ}{n most fuel i:Nat}{st:List κ×List bi}{k:κ}{w:bi}(h1:st.1[i]?=some k) (h2:st.2[i]?=some w) (h3:st.1.length<=most):lU step n most (fuel+1) i st=lU step n most fuel (i+1) (visit step k w n st) :=by
 rw[lU];simp only[h1,h2,if_pos h3]
theorem BF:∀{ks:List κ}{ws:List bi}{i:Nat}{k:κ}{w:bi},ks.Nodup->ks[i]?=some k->ws[i]?=some w->look ks ws k=some w
 | [],_,_,_,_,_,h,_=>by simp at h
 |_::_,[],_,_,_,_,_,h=>by simp at h
 |c::ks,v::ws,0,k,w,_,h1,h2=>by
          simp at h1 h2;unfold look;rw[if_pos h1,h2]
 |c::ks,v::ws,i+1,k,w,nd,h1,h2=>by
          have hn:=Os.mp nd;have h1:ks[i]?=some k :=by simpa using h1
          unfold look;rw[if_neg (fun e=>hn.1 (by rw[e];exact cr h1))]
          exact BF hn.2 h1 (by simpa using h2)
theorem yV {Ku:Type} [DecidableEq Ku] {f:κ->Ku}(hf:∀a b,f a=f b->a=b) (x:κ):∀(ks:List κ) (ws:List bi),look (ks.map f) (ws.map Dv.str) (f x)=(look ks ws x).map Dv.str
 | [],ws=>by cases ws<;>rfl
 |_::_,[]=>rfl
 |k::ks,w::ws=>by
          rw[mo,mo];unfold look;by_cases e:k=x
          ·rw[if_pos e,if_pos (by rw[e])];rfl
          ·rw[if_neg e,if_neg (fun z=>e (hf _ _ z))]
           exact yV hf x ks ws
theorem qQ {α:Type}{ks:List κ}{ds:List α}{k:κ}{d:α}(h:k ∉ ks):putL ks k=ks++[k]/\dR ks ds k d=ds++[d] :=by
 unfold putL dR;rw[if_neg h,if_neg h];exact⟨rfl,rfl⟩
theorem m6 {Ku:Type}{f:κ->Ku}(hf:∀a b,f a=f b->a=b) {x:κ}{ks:List κ}:f x∈ks.map f ↔ x∈ks :=by
 constructor
 ·intro h;obtain⟨y,hy,e⟩:=kt.mp h;rw[<- hf _ _ e];exact hy
 ·exact fun h=>List.mem_map_of_mem h
theorem Ge {ks:List κ}{ws:List bi}(h:ks.length=ws.length) (x:κ):(look ks ws x).isSome=decide (x∈ks) :=by
 cases q:look ks ws x with
 |none=>rw[decide_eq_false ((gr h).mp q)];rfl
 |some w=>
  have:x∈ks:=Classical.byContradiction fun z=>by rw[(gr h).mpr z]at q;cases q
  rw[decide_eq_true this];rfl
end
theorem Mf {k:Nat}(h:k<3):dF ("abc" : bi).cps.toList ((k:Nat):Int)=some (97+k) :=by
 have:k=0\/k=1\/k=2 :=by omega
 rcases this with rfl|rfl|rfl<;>decide +kernel
theorem sf {α:Type}{l:List α}{i:Nat}{x:α}(h:l[i]?=some x):l.drop i=x::l.drop (i+1) :=by
 obtain⟨hi,e⟩:=ca.mp h;rw[AT hi,e]
def Wa (p q:dz):dz:=fun ρ M R=>p ρ M R\/q ρ M R
theorem Kv {Γ:Gz}{X:Cx}{tg e:c8}{p q:dz}(h1:QI Γ X tg e p) (h2:QI Γ X tg e q):QI Γ X tg e (Wa p q):=fun pins s σ H R I h=>by
 obtain⟨β,ρ,M,R',zr,hp|hq,k⟩:=h
 ·exact h1 pins s σ H R I ⟨β,ρ,M,R',zr,hp,k⟩
 ·exact h2 pins s σ H R I ⟨β,ρ,M,R',zr,hq,k⟩
end L2
namespace L2
open PySem PySem.Spec PySem.W PyProof.Rows
section
variable {prog:ff}{w:im}{K:Type} [DecidableEq K] {knd:HeapKind prog w K}{A:l5}{E:al->ar->Prop}{s:ar}
theorem Mg {d a:ag}{xs:List (K×ag×al)}{k:K}{v:al}{Q:al->ar->Prop}(hu:knd.room A) (mY:knd.is s.heap k a) (hm:s.heap.DictOfH knd d xs)
  (h1:∀y,(atKey xs k).map (·.2)=some y->Q y {s with toks:=s.toks+knd.draws k})
  (h2:(atKey xs k).map (·.2)=none->∀h',h'.DictOfH knd d (storedH xs k a v)->v6 d s.heap h'->Q v {s with heap:=h',toks:=s.toks+knd.draws k})
  (hsz:xs.length<=sizeLine):wpAny (model prog w) A (dictSetDefault d (.ref a) v) Q E s :=by
 obtain⟨o,es,ep,ho,hc,hd,he,UI,hn⟩:=hm;unfold dictSetDefault;try with_reducible refine AC ?_
 refine ac (knd.pyHash hu mY ?_);refine ac (wpAny_dictFind_heap (s:={s with toks:=s.toks+knd.draws k}) hu mY ho hd he UI hn ?_ ?_)
 ·intro yW;have Wb:k ∉ xs.map (·.1):=not_mem_keys_of_get yW;have tY:=atKey_none_of_get yW;refine ac (GG (ac (wpAny_updateDictKeys (hz :=by have e:=size_of_entries he;omega) (s:={s with toks:=s.toks+knd.draws k}) ho hd (bn (h2 (by rw[tY];rfl) _ ⟨_,_,ep+1,DO _ ho (kw.isFreed_of_dict (kw.data_mapDictKeys hd _)),
   hc.mapDictKeys _,kw.data_mapDictKeys hd _,?_,?_,?_⟩ (Cc ..))))))
  ·rw[storedH_new tY];simp[he,entryOfKey]
  ·rw[storedH_new tY];intro x hx;rcases rf.mp hx with hx|hx
   ·exact knd.keeps (UI x hx) ho hd (Cc ..)
   ·simp only[io]at hx;subst hx;exact knd.keeps mY ho hd (Cc ..)
  ·rw[storedH_new tY];rw[mv,Da];refine⟨hn,by simp,?_⟩
   intro x hx y hy;simp only[mo,ZT,io]at hy;subst hy;exact fun e=>Wb (e▸hx)
 ·intro j p hj;have tY:=atKey_of_get hn hj;refine ac (UV (s:={s with toks:=s.toks+knd.draws k}) ho hd ?_)
  rw[entry_at he j,hj];exact ac (GG (bn (h1 _ (by rw[tY];rfl))))
theorem wK (knd:HeapKind prog w K) (d a:ag) (hd:(d==sysModules)=false) (dflt:al) :
  MeetsIn prog w (ss.«dict.setdefault» ⟨[.ref d,.ref a,dflt],[]⟩) (fun A R s=>knd.room A.in1/\∃k xs,knd.is s.heap k a/\s.heap.DictOfH knd d xs/\xs.length<=sizeLine /\
   (∀v,(atKey xs k).map (·.2)=some v->R (.ok (.ret v)) {s with toks:=s.toks+knd.draws k}) /\
   ((atKey xs k).map (·.2)=none->∀h',h'.DictOfH knd d (storedH xs k a dflt)->v6 d s.heap h'->R (.ok (.ret dflt)) {s with heap:=h',toks:=s.toks+knd.draws k})):=
 .of_wp fun A R s hh=>by
  obtain⟨hu,k,xs,mY,hm,hz,h1,h2⟩:=hh;unfold ss.«dict.setdefault»;refine ac ?_;unfold ss.Dict.keyAndDefault;refine ac (wpAny_notOrdered_dict hm.typeIs ?_);show wpAny _ _ (pure (d,l6 a,some dflt)) _ _ s;refine bn ?_;show wpAny _ _ (if (d==sysModules)=true then _ else (dictSetDefault d (l6 a) dflt>>=_)) _ _ s
  rw[if_neg (by rw[hd];exact i0)]
  exact ac (Mg hu mY hm (fun v hv=>bn ⟨v,rfl,h1 v hv⟩) (fun hn h' xP iK=>bn ⟨dflt,rfl,h2 hn h' xP iK⟩) hz)
end
section
variable {X:Cx}{pins:List (ag×kw)}{σ:St}{H:Hp}{s:ar}{a b:ag}{A:l5}{E:al->ar->Prop}
theorem yX {aq:List (List Key×V)}{k:List Key}{d:V}{r:al}{Q:al->ar->Prop}(hu:A.units+1<cLine) (I:Inv X pins σ H s) (e:H a=some (.dT aq)) (eb:H b=some (.tup (k.map kV))) (l:aq.length<sizeLine) (rd:RelV d r)
  (h1:∀v,fU aq k=some v->∀w' s',Inv X pins σ H s'->RelV v w'->Q w' s') (h2:fU aq k=none->∀s',Inv X pins σ (upd H a (.dT (putK aq k d))) s'->Q r s') :
  wpAny (model X.prog X.w) A (call (.builtin "dict.setdefault") [.ref a,.ref b,r]) Q E s :=by
 obtain⟨z,hd,xs,rel,dd⟩:=w6 I.hok e;have hz:xs.length<=sizeLine :=by rw[<- IF rel];exact z
 have hl:(putK aq k d).length<=sizeLine :=by have:=hZ aq k d;omega
 have rv:=rel.val k;refine Z2 PySem.F.slot_dict_setdefault dd.typeIs PySem.F.entry_dict_setdefault (PySem.F.args_dict_setdefault_3 _ _ _) (wK (tupleKind (bA X.prog X.w)) a b hd r) ⟨NO hu,k,xs,i9 I.hok eb,dd,hz,fun y hy=>?_,fun hn h' nv hs=>?_⟩
 ·rw[hy]at rv;cases hv:fU aq k with
  |none=>rw[hv]at rv;exact rv.elim
  |some v=>rw[hv]at rv;exact h1 v hv _ _ (I.tok _) rv
 ·rw[hn]at rv;cases hv:fU aq k with
  |some v=>rw[hv]at rv;exact rv.elim
  |none=>
   obtain⟨q,es,ep,hq,g2,g3,g4,_,g5⟩:=nv;refine h2 hv _ (kU I (by rw[e];exact LF) hs ⟨q,hq⟩ ⟨hl,hd,_,(rel.put k eb rd).keeps fun c ys ec=>?_,q,es,ep,hq,g2,g3,g4,g5⟩)
   rw[ah (sG ec e (fun z=>nomatch z))]
   exact ec
end
def Mi:V->List V->Hp->VK->Prop:=fun x xs H Q=>∃a b k aq d,x=.ref a/\xs=[.ref b,d]/\H a=some (.dT aq)/\H b=some (.tup (k.map kV))/\aq.length<sizeLine/\(∀v,fU aq k=some v->Q v H)/\(fU aq k=none->Q d (upd H a (.dT (putK aq k d))))
theorem Gf {X:Cx}(hu:X.A.units+64<cLine):xB X "dict.setdefault" Mi :=by
 intro pins s σ H x xs v us Q I rx rs h;obtain⟨a,b,k,aq,d,rfl,rfl,e,eb,l,h1,h2⟩:=h;cases (show v=l6 a from rx);cases rs with
 |cons r1 rs=>cases rs with
  |cons r2 rs=>
   cases rs;rename_i u1 u2;cases (show u1=l6 b from r1);exact yX (by omega) I e eb l r2 (fun v hv w' s' I' gf=>⟨v,H,I',gf,h1 v hv⟩) fun hn s' I'=>⟨d,_,I',r2,h2 hn⟩
def zSetDef:oO:=fun d ds M Q=>match d,ds with
 | .ptr a,[.tup es,x]=>(match M a,fD es with|some (.dt ks vs),some k=>ks.length<sizeLine/\(match look ks vs k with|some r=>Q r M|none=>Q x (aw M a (.dt (ks++[k]) (vs++[x]))))|_,_=>False)
 |_,_=>False
theorem IW {Γ:Gz}{X:Cx}{K:ba}(hu:X.A.units+64<cLine):rB Γ X "dict" "dict.setdefault" K zSetDef:=⟨_,Gf hu,fun β x xs d ds M H Q Q' eP ew eK m r rs z q=>by
 unfold zSetDef at z;split at z
 ·rename_i a es y;obtain⟨rfl,hs⟩:=bF r;obtain⟨x1,x2,rfl,r1,r2⟩:=jv rs;split at z
  ·rename_i ks vs k hM hk;obtain⟨us,ha,hl,Kw⟩:=m.obj a _ hM;obtain⟨b,ws,rfl,_,hb,rb⟩:=cE r1;rw[jA rb hk]at hb;obtain⟨z1,z2⟩:=z;refine⟨a,b,k,_,x2,rfl,rfl,ha,hb,by rw[GS,<- hl,ID];exact z1,fun v hv=>?_,fun hn=>?_⟩
   ·rw[jz]at hv;cases tW:look ks vs k with
    |none=>rw[lL k ks vs us Kw.len.symm tW]at hv;cases hv
    |some r0=>
     obtain⟨ov,e1,e2,e3⟩:=sd Kw tW;rw[jz,hv]at e1;subst e1;obtain⟨v',ev,Qo⟩:=e3 r0 rfl;cases ev;simp only[tW]at z2;exact q _ _ _ _ (.refl m) Qo z2
   ·rw[jz]at hn;have Kx:k ∉ ks:=(gr hl).mp hn;have tW:look ks vs k=none:=(gr (hl.trans Kw.len)).mpr Kx;simp only[tW]at z2;have hp:(M a).isSome=true :=by rw[hM];rfl
    have x4:Ex β M H (aw M a (.dt (putL ks k) (dR ks vs k y))) (upd H a (.dT ((putL ks k).zip (dR ks us k x2)))):=Ex.Iw m (.inl hp) (oj hl k x2) (lM k r2 Kw);rw[qM hl];rw[show putL ks k=ks++[k] from if_neg Kx,show dR ks vs k y=vs++[y] from if_neg Kx]at x4;rw[show putL ks k=ks++[k] from if_neg Kx];exact q _ _ _ _ x4 (r2.ex x4) z2
  ·exact z.elim
 ·exact z.elim⟩
def e8 {α:Type}(R:Nat->Int) (n:Nat):KasT α->(α->Prop)->Prop
 | .ret a,Q=>Q a
 | .ask i j k,Q=>i<n/\j<n/\e8 R n (k (decide (R i<R j))) Q
theorem iR {α β:Type}{R:Nat->Int}{n:Nat}{f:α->KasT β}{Q:β->Prop}:∀{t:KasT α},e8 R n t (fun a=>e8 R n (f a) Q)->e8 R n (t.bind f) Q
 | .ret _,h=>h
 | .ask _ _ k,h=>⟨h.1,h.2.1,iR (t:=k _) h.2.2⟩
structure Pm (n:Nat) (p:Array Nat):Prop where
 sz:p.size=n
 pm:p.toList.Perm (ii n)
theorem Pm.lt {n:Nat}{p:Array Nat}(h:Pm n p) {k:Nat}(hk:k<n):p.getD k 0<n :=by
 have jV:k<p.size :=by rw[h.sz];exact hk
 have e:p.getD k 0=p[k] :=by simp[ZZ,jV]
 rw[e];have:p[k]∈p.toList :=by simp
 exact uu.mp (h.pm.mem_iff.mp this)
theorem Pm.of {n:Nat}{p p':Array Nat}(h:Pm n p) (hs:p'.size=p.size) (hp:p'.Perm p):Pm n p':=⟨hs.trans h.sz,(Array.perm_iff_toList_perm.mp hp).trans h.pm⟩
def rk (R:Nat->Int) (p:Array Nat) (k:Nat):Int:=R (p.getD k 0)
theorem jD (p:Array Nat) (k:Nat):p.getD k 0=(p[k]?).getD 0 :=by simp[Array.getD_eq_getD_getElem?]
theorem tZ (R:Nat->Int) {p:Array Nat}{i j:Nat}(hj:j<=p.size) (k:Nat):rk R (kas_rev p i j) k=if i<=k/\k<j then rk R p (i+j - 1 - k) else rk R p k :=by
 unfold rk kas_rev;rw[jD,getElem?_mirror_all hj k];split<;>rw[jD]
theorem Gg (R:Nat->Int) {p:Array Nat}{src d:Nat}(hs:src<p.size) (hd:d<=src) (k:Nat):rk R (bubble p src d) k=if k=src - d then rk R p src else if src - d<k/\k<=src then rk R p (k - 1) else rk R p k :=by
 unfold rk;rw[jD,jD p src,jD p (k - 1),jD p k,getElem?_bubble hs d hd k];by_cases h1:k=src - d
 ·rw[if_pos h1,if_pos h1]
 ·rw[if_neg h1,if_neg h1];by_cases h2:src - d<k/\k<=src
  ·rw[if_pos h2,if_pos h2]
  ·rw[if_neg h2,if_neg h2]
def pY (R:Nat->Int) (p:Array Nat) (m:Nat):Prop:=∀a b,a<=b->b<m->rk R p a<=rk R p b
def rE (R:Nat->Int) (p:Array Nat) (m:Nat):Prop:=∀a b,a<=b->b<m->rk R p b<=rk R p a
section
variable {R:Nat->Int}{n:Nat}
theorem yY {p:Array Nat}(hp:Pm n p) {Q:Nat->Prop}:∀(f m:Nat),pY R p m->1<=m->m+f<=n->(∀m',m<=m'->m'<=m+f->pY R p m'->(m'<m+f->rk R p m'<rk R p (m' - 1))->Q m')->e8 R n (kas_asc p f m) Q
 |0,m,ha,h1,hn,q=>q m (cb _) (cb _) ha (fun h=>absurd h (FF _))
 |f+1,m,ha,h1,hn,q=>by
          refine⟨hp.lt (by omega),hp.lt (by omega),?_⟩
          show e8 R n (if decide (rk R p m<rk R p (m - 1))=true then _ else _) Q
          by_cases h:rk R p m<rk R p (m - 1)
          ·rw[decide_eq_true h,if_pos rfl];exact q m (cb _) (by omega) ha (fun _=>h)
          ·rw[decide_eq_false h,if_neg i0];refine yY hp f (m+1) (fun a b ft hb=>?_) (by omega) (by omega) fun m' h2 h3 h4 h5=>q m' (by omega) (by omega) h4 (fun z=>h5 (by omega))
           rcases Lu b m with z|z
           ·exact ha a b ft z
           ·have eb:b=m :=by omega
            subst eb;rcases Lu a b with y|y
            ·have:=ha a (b - 1) (by omega) (by omega)
             omega
            ·have:a=b :=by omega
             subst this;exact Pe _
theorem rE.rev {p:Array Nat}{m i:Nat}(hm:m<=p.size) (h:rE R p m) (he:∀k,i<=k->k<m->rk R p k=rk R p (m - 1)):rE R (kas_rev p i m) m/\∀k,rk R (kas_rev p i m) k=rk R p k :=by
 have e:∀k,rk R (kas_rev p i m) k=rk R p k:=fun k=>by
  rw[tZ R hm];split
  ·rename_i z;rw[he (i+m - 1 - k) (by omega) (by omega),he k z.1 z.2]
  ·rfl
 exact⟨fun a b ft hb=>by rw[e a,e b];exact h a b ft hb,e⟩
theorem Pm.rev {p:Array Nat}(h:Pm n p) (i j:Nat):Pm n (kas_rev p i j):=h.of (mirror_size _ _ _ _) (mirror_perm _ _ _ _)
theorem qR {Q:Array Nat×Nat×Nat->Prop}:∀(f:Nat) (p:Array Nat) (m q:Nat),Pm n p->rE R p m->(∀k,m - (q+1)<=k->k<m->rk R p k=rk R p (m - 1))->q+1<=m->m+f<=n->
  (∀p' m' q',Pm n p'->rE R p' m'->(∀k,m' - (q'+1)<=k->k<m'->rk R p' k=rk R p' (m' - 1))->q'+1<=m'->m'<=n->Q (p',m',q'))->e8 R n (kas_desc f p m q) Q
 |0,p,m,q,hp,hd,he,hq,hn,k=>k p m q hp hd he hq (by omega)
 |f+1,p,m,q,hp,hd,he,hq,hn,k=>by
          have hsz:=hp.sz;refine⟨hp.lt (by omega),hp.lt (by omega),?_⟩
          show e8 R n (if decide (rk R p m<rk R p (m - 1))=true then _ else _) Q
          by_cases h:rk R p m<rk R p (m - 1)
          ·rw[decide_eq_true h,if_pos rfl];have more:∀p',Pm n p'->(∀k,rk R p' k=rk R p k)->rE R p' (m+1):=fun p' _ e a b ft hb=>by
            rw[e a,e b];rcases Lu b m with z|z
            ·exact hd a b ft z
            ·have eb:b=m :=by omega
             subst eb;rcases Lu a b with y|y
             ·have:=hd a (b - 1) (by omega) (by omega)
              omega
             ·have:a=b :=by omega
              subst this;exact Pe _
           have one:∀p':Array Nat,∀k,m+1 - (0+1)<=k->k<m+1->rk R p' k=rk R p' (m+1 - 1):=fun p' k h1 h2=>by rw[show k=m by omega];rfl
           by_cases Ky:q > 0
           ·rw[if_pos Ky];obtain⟨_,e⟩:=rE.rev (i:=m - (q+1)) (show m<=p.size by omega) hd he
            exact qR f _ (m+1) 0 (hp.rev _ _) (more _ (hp.rev _ _) e) (one _) (by omega) (by omega) k
           ·rw[if_neg Ky];exact qR f p (m+1) 0 hp (more p hp fun _=>rfl) (one p) (by omega) (by omega) k
          ·rw[decide_eq_false h,if_neg i0];refine⟨hp.lt (by omega),hp.lt (by omega),?_⟩
           show e8 R n (if decide (rk R p (m - 1)<rk R p m)=true then _ else _) Q
           by_cases h2:rk R p (m - 1)<rk R p m
           ·rw[decide_eq_true h2,if_pos rfl];exact k p m q hp hd he hq (by omega)
           ·rw[decide_eq_false h2,if_neg i0];have e:rk R p m=rk R p (m - 1) :=by omega
            refine qR f p (m+1) (q+1) hp (fun a b ft hb=>?_) (fun x h3 h4=>?_) (by omega) (by omega) k
            ·rcases Lu b m with z|z
             ·exact hd a b ft z
             ·have eb:b=m :=by omega
              subst eb;rcases Lu a b with y|y
              ·rw[e];exact hd a (b - 1) (by omega) (by omega)
              ·have:a=b :=by omega
               subst this;exact Pe _
            ·show rk R p x=rk R p m;rcases Lu x m with z|z
             ·rw[e];exact he x (by omega) z
             ·rw[show x=m by omega]
theorem yZ {m:Nat}{p:Array Nat}(hp:Pm n p) (hd:rE R p m) (h1:1<=m) (hm:m<=n) {Q:Nat×Array Nat->Prop}(q:∀m' p',Pm n p'->pY R p' m'->1<=m'->m'<=n->Q (m',p')):e8 R n (kas_tail3 m n p) Q :=by
 have hsz:=hp.sz;refine iR (yY (hp.rev 0 m) (n - m) m (fun a b ft hb=>?_) h1 (by omega) fun m' h2 h3 h4 _=>q m' _ (hp.rev 0 m) h4 (by omega) (by omega))
 rw[tZ R (by omega),tZ R (by omega),if_pos ⟨by omega,by omega⟩,if_pos ⟨by omega,by omega⟩]
 exact hd _ _ (by omega) (by omega)
theorem rF {m:Nat}{p:Array Nat}(hp:Pm n p) (hd:rE R p (m+1)) (hm:m+1<=n) {Q:Nat×Array Nat->Prop}(q:∀m' p',Pm n p'->pY R p' m'->1<=m'->m'<=n->Q (m',p')):e8 R n (kas_descPart m n p) Q :=by
 refine iR (qR (n - (m+1)) p (m+1) 0 hp hd (fun k h1 h2=>by rw[show k=m by omega];rfl) (by omega) (by omega) fun p' m' q' Qp jS he hq hn=>?_)
 have hsz:=Qp.sz;show e8 R n (if q' > 0 then kas_tail3 m' n (kas_rev p' (m' - (q'+1)) m') else kas_tail3 m' n p') Q
 by_cases h:q' > 0
 ·rw[if_pos h];exact yZ (Qp.rev _ _) (rE.rev (by omega) jS he).1 (by omega) hn q
 ·rw[if_neg h];exact yZ Qp jS (by omega) hn q
theorem IX {p:Array Nat}(hp:Pm n p) (h1:1<=n) {Q:Nat×Array Nat->Prop}(q:∀m' p',Pm n p'->pY R p' m'->1<=m'->m'<=n->Q (m',p')):e8 R n (kas_count n p) Q :=by
 have hsz:=hp.sz;refine iR (yY hp (n - 1) 1 (fun a b ft hb=>by rw[show a=b by omega];exact Pe _) (cb _) (by omega) fun m h2 h3 h4 h5=>?_)
 by_cases e:m=n
 ·rw[if_pos (by simpa using e)]
  exact q m p hp h4 h2 (by omega)
 ·rw[if_neg (by simpa using e)]
  have aN:=h5 (by omega)
  by_cases hm:m > 1
  ·rw[if_pos hm];refine⟨hp.lt (by omega),hp.lt (by omega),?_⟩
   show e8 R n (if decide (rk R p 0<rk R p (m - 1))=true then _ else _) Q
   by_cases h:rk R p 0<rk R p (m - 1)
   ·rw[decide_eq_true h,if_pos rfl];exact q m p hp h4 (by omega) (by omega)
   ·rw[decide_eq_false h,if_neg i0];have eq:∀k,k<m->rk R p k=rk R p (m - 1):=fun k hk=>by
     have a1:=h4 k (m - 1) (by omega) (by omega)
     have a2:=h4 0 k (by omega) hk
     omega
    have er:∀k,rk R (kas_rev p 0 m) k=rk R p k:=fun k=>by
     rw[tZ R (by omega)]
     split
     ·rename_i z;rw[eq (0+m - 1 - k) (by omega),eq k z.2]
     ·rfl
    refine rF (hp.rev 0 m) (fun a b ft hb=>?_) (by omega) q
    rw[er,er];rcases Lu b m with z|z
    ·rw[eq a (by omega),eq b z];exact Pe _
    ·have eb:b=m :=by omega
     subst eb;rcases Lu a b with y|y
     ·rw[eq a y];omega
     ·rw[show a=b by omega];exact Pe _
  ·rw[if_neg hm];have em:m=1 :=by omega
   subst em;refine rF hp (fun a b ft hb=>?_) (by omega) q
   have aN:rk R p 1<rk R p 0:=aN;match a,b,ft,hb with
   |0,0,_,_=>exact Pe _
   |0,1,_,_=>omega
   |1,1,_,_=>exact Pe _
   |a,b+2,_,hb=>omega
   |a+2,b,h,hb=>omega
   |1,0,h,_=>omega
theorem sg {p:Array Nat}(hp:Pm n p) {k:Nat}(hk:k<n) (ha:pY R p k) {Q:Nat->Prop}:∀(f l r:Nat),r - l<=f->l<=r->r<=k->(∀a,a<l->rk R p a<=rk R p k)->(∀a,r<=a->a<k->rk R p k<rk R p a)->
  (∀l,l<=k->(∀a,a<l->rk R p a<=rk R p k)->(∀a,l<=a->a<k->rk R p k<rk R p a)->Q l)->e8 R n (kas_place p k f l r) Q
 |0,l,r,hf,hl,hr,h1,h2,q=>q l (by omega) h1 (fun a x y=>h2 a (by omega) y)
 |f+1,l,r,hf,hl,hr,h1,h2,q=>by
          unfold kas_place;by_cases e:l ≥ r
          ·rw[if_pos e];exact q l (by omega) h1 (fun a x y=>h2 a (by omega) y)
          ·rw[if_neg e];refine⟨hp.lt hk,hp.lt (by omega),?_⟩
           show e8 R n (if decide (rk R p k<rk R p ((l+r) / 2))=true then _ else _) Q
           by_cases h:rk R p k<rk R p ((l+r) / 2)
           ·rw[decide_eq_true h,if_pos rfl];refine sg hp hk ha f l ((l+r) / 2) (by omega) (by omega) (by omega) h1 (fun a x y=>?_) q
            have:=ha ((l+r) / 2) a x y;omega
           ·rw[decide_eq_false h,if_neg i0];refine sg hp hk ha f ((l+r) / 2+1) r (by omega) (by omega) hr (fun a x=>?_) h2 q
            have:=ha a ((l+r) / 2) (by omega) (by omega)
            omega
theorem Gh {Q:Array Nat->Prop}:∀(f:Nat) (p:Array Nat) (k:Nat),Pm n p->pY R p k->k+f=n->(∀p',Pm n p'->pY R p' n->Q p')->e8 R n (kas_bin f p k) Q
 |0,p,k,hp,ha,hn,q=>q p hp (by rw[<- hn];exact ha)
 |f+1,p,k,hp,ha,hn,q=>by
          have hsz:=hp.sz;refine iR (sg hp (by omega) ha k 0 k (by omega) (by omega) (cb _) (fun a h=>by omega) (fun a h1 h2=>by omega) fun l hl h1 h2=>?_)
          refine Gh f _ (k+1) (hp.of (bubble_size _ _ _) (bubble_perm _ _ _)) (fun a b ft hb=>?_) (by omega) q
          have hd:k - (k - l)=l :=by omega
          rw[Gg R (by omega) (by omega),Gg R (by omega) (by omega),hd]
          by_cases a1:a=l
          ·rw[if_pos a1];by_cases b1:b=l
           ·rw[if_pos b1];exact Pe _
           ·rw[if_neg b1,if_pos ⟨by omega,by omega⟩]
            exact Int.le_of_lt (h2 (b - 1) (by omega) (by omega))
          ·rw[if_neg a1];by_cases b1:b=l
           ·rw[if_pos b1,if_neg (by omega)]
            exact h1 a (by omega)
           ·rw[if_neg b1];by_cases a2:l<a/\a<=k
            ·rw[if_pos a2,if_pos ⟨by omega,by omega⟩]
             exact ha _ _ (by omega) (by omega)
            ·rw[if_neg a2];by_cases b2:l<b/\b<=k
             ·rw[if_pos b2];exact ha _ _ (by omega) (by omega)
             ·rw[if_neg b2];exact ha _ _ ft (by omega)
theorem Mj (h1:1<=n) {Q:Array Nat->Prop}(q:∀p,Pm n p->pY R p n->Q p):e8 R n (kas_sort n) Q :=by
 have h0:Pm n (Sk (ii n)):=⟨by simp,by simp⟩
 refine iR (IX h0 h1 fun m p hp ha mG WK=>?_)
 show e8 R n (if m<n then kas_bin (n - max m 1) p (max m 1) else .ret p) Q
 have em:max m 1=m :=by omega
 rw[em];by_cases h:m<n
 ·rw[if_pos h];exact Gh _ p m hp ha (by omega) q
 ·rw[if_neg h];exact q p hp (by rw[show n=m by omega];exact ha)
end
theorem y0 {α:Type}{cmp:Nat->Nat->(Bool->ar->Prop)->ar->Prop}{I:ar->Prop}{R:Nat->Int}{n:Nat}(hc:∀i j C s,i<n->j<n->I s->(∀s',I s'->C (decide (R i<R j)) s')->cmp i j C s):∀(t:KasT α) (Q:α->ar->Prop) (s:ar),I s->e8 R n t (fun a=>∀s',I s'->Q a s')->t.kasWp cmp Q s
 | .ret _,Q,s,hI,h=>h s hI
 | .ask i j k,Q,s,hI,h=>hc i j _ s h.1 h.2.1 hI fun s' X7=>y0 hc (k _) Q s' X7 h.2.2
theorem t5:∀a:List Int,HT.lexLt a a=false
 | []=>rfl
 |x::a=>by rw[HT.kn,if_pos rfl];exact t5 a
theorem lV:∀{a b c:List Int},HT.lexLt a b=true->HT.lexLt b c=true->HT.lexLt a c=true
 | [],[],_,h,_=>by cases h
 | [],_::_,[],_,h=>by cases h
 | [],_::_,_::_,_,_=>rfl
 |_::_,[],_,h,_=>by cases h
 |_::_,_::_,[],_,h=>by cases h
 |x::a,y::b,z::c,h1,h2=>by
          rw[HT.kn]at h1 h2 ⊢;by_cases e1:x=y
          ·subst e1;rw[if_pos rfl]at h1;by_cases e2:x=z
           ·subst e2;rw[if_pos rfl]at h2 ⊢;exact lV h1 h2
           ·rw[if_neg e2]at h2 ⊢;exact h2
          ·rw[if_neg e1]at h1;have h1:=of_decide_eq_true h1;by_cases e2:y=z
           ·subst e2;rw[if_neg e1];exact decide_eq_true h1
           ·rw[if_neg e2]at h2;have h2:=of_decide_eq_true h2;rw[if_neg (by omega)]
            exact decide_eq_true (by omega)
theorem t6:∀{a b:List Int},HT.lexLt a b=false->HT.lexLt b a=false->a=b
 | [],[],_,_=>rfl
 | [],_::_,h,_=>by cases h
 |_::_,[],_,h=>by cases h
 |x::a,y::b,h1,h2=>by
          rw[HT.kn]at h1 h2;by_cases e:x=y
          ·subst e;rw[if_pos rfl]at h1 h2;rw[t6 h1 h2]
          ·rw[if_neg e]at h1;rw[if_neg (ze e)]at h2;have h1:=of_decide_eq_false h1;have h2:=of_decide_eq_false h2;exact absurd (show x=y by omega) e
def wk (rows:List (List Int)) (r:List Int):Int:=(rows.countP fun x=>HT.lexLt x r:Nat)
theorem wm {α:Type}{p q:α->Bool}(Qq:∀x,p x=true->q x=true):∀{l:List α}{a:α},a∈l->q a=true->p a=false->l.countP p<l.countP q
 |x::l,a,h,hq,hp=>by
          have le:l.countP p<=l.countP q:=List.countP_mono_left fun x _=>Qq x
          rcases i4.mp h with rfl|h
          ·rw[List.countP_cons_of_neg (by simp[hp]),List.countP_cons_of_pos hq]
           omega
          ·have ih:=wm Qq h hq hp;rw[List.countP_cons,List.countP_cons];by_cases e:p x=true
           ·rw[if_pos e,if_pos (Qq x e)];omega
           ·rw[if_neg e];split<;>omega
theorem Gi {rows:List (List Int)}{a b:List Int}(ha:a∈rows):decide (wk rows a<wk rows b)=HT.lexLt a b :=by
 unfold wk;cases h:HT.lexLt a b with
 |true=>
  refine decide_eq_true ?_;have:=wm (p:=fun x=>HT.lexLt x a) (q:=fun x=>HT.lexLt x b) (fun x hx=>lV hx h) ha h (t5 a)
  omega
 |false=>
  refine decide_eq_false ?_;have:rows.countP (fun x=>HT.lexLt x b)<=rows.countP (fun x=>HT.lexLt x a):=List.countP_mono_left fun x _ hx=>by
   cases h2:HT.lexLt b a with
   |true=>exact lV hx h2
   |false=>rw[t6 h h2];exact hx
  omega
def gu (h:hX) (v:al) (row:List Int):Prop:=∃b o xs n,v=.ref b/\h.get? b=some o/\o.cls=.type "tuple" /\ o.data=.seq xs n/\OF xs.toList row/\row≠[]
section
variable {prog:ff}{w:im}{A:l5}{E:al->ar->Prop}{s:ar}
theorem rG {fin:Bool}{Q:Bool->ar->Prop}:∀{us ws:List al}{ns ms:List Int}(i:Nat),OF us ns->OF ws ms->fin=decide (us.length<ws.length)->Q (HT.lexLt ns ms) s->KatLex prog w A true fin Q (us.zip ws) i s
 | [],[],[],[],i,_,_,hf,q=>by
          refine kat_nil ?_;rw[hf];exact q
 | [],y::ws,[],m::ms,i,_,_,hf,q=>by
          refine kat_nil ?_;rw[hf];exact q
 |x::us,[],n::ns,[],i,_,_,hf,q=>by
          refine kat_nil ?_;rw[hf];exact q
 |x::us,y::ws,n::ns,m::ms,i,hu,hw,hf,q=>by
          cases hu with
          |cons _ t hu=>
          cases hw with
          |cons _ t2 hw=>
          rw[HT.kn]at q;refine kat_cons (PySem.SeqAt.EqAt.int_int n t m t2 prog w _ _ (kat_go (fun e=>kat_yes ?_) (fun e=>kat_no ?_)))
          ·have e:n=m :=by simpa using e
           rw[if_pos e]at q;exact rG (i+1) hu hw (by rw[hf];simp) q
          ·have e:n≠m :=by simpa using e
           rw[if_neg e]at q;cases hi:(i==0) with
           |true=>exact oneLt_int q
           |false=>exact kat_one _ _ (PyProof.Rows.lt_int q)
theorem Dd {v1 v2:al}{r1 r2:List Int}{Q:Bool->ar->Prop}(h1:gu s.heap v1 r1) (h2:gu s.heap v2 r2) (q:Q (HT.lexLt r1 r2) s):wpAny (model prog w) A (keyLt' (tuples' true) v1 v2) Q E s :=by
 obtain⟨b,o,xs,n,rfl,ho,hc,hd,hi,_⟩:=h1;obtain⟨b2,o2,Za,n2,rfl,P8,BG,hd2,fX,_⟩:=h2;exact kat_lt ho hd P8 hd2 (rG 0 hi fX (by simp) q)
theorem t7:∀{vs:List al}{rows:List (List Int)},xz (fun v r=>gu s.heap v r) vs rows->∃fs,KatTups s.heap vs fs/\fs.length=vs.length/\∀f∈fs,∃n t,f=.int n t
 | [],[],_=>⟨[],.nil,rfl,fun _ h=>nomatch h⟩
 |v::vs,r::rows,h=>by
          obtain⟨r',S6,e,hv,ht⟩:=fK h;cases e;obtain⟨fs,k1,k2,k3⟩:=t7 ht;obtain⟨b,o,xs,n,rfl,ho,hc,hd,hi,dZ⟩:=hv;obtain⟨ls⟩:=xs;cases hi with
          |nil=>exact absurd rfl dZ
          |cons m t hi=>exact⟨_,.cons ho hc hd (f:=.int m t) (by simp) k1,by simp[k2],fun f hf=>by
            rcases i4.mp hf with rfl|hf
            ·exact⟨_,_,rfl⟩
            ·exact k3 f hf⟩
theorem uY {a:ag}{vs:List al}{rows:List (List Int)}{n:Nat}{P:PySem.Fin->ar->Prop}(ho:s.heap.get? a=some (seqObj "list" vs.toArray n))
  (hr:xz (fun v r=>gu s.heap v r) vs rows) (tH:vs.length<64)
  (h:∀(p:Array Nat),Pm vs.length p->(∀i j,i<=j->j<vs.length->HT.lexLt (rows.getD (p.getD j 0) []) (rows.getD (p.getD i 0) [])=false)->P (.done (.ret .none)) {s with heap:=sortedHeap s.heap a vs (Sk (p.toList.map fun i=>vs.getD i wS))}) :
  wpAny (model prog w) A (ss.«list.sort» ⟨[.ref a],[]⟩) P E s :=by
 rw[list_sort_plain];have ha:a<s.heap.objs.size:=gc ho;have UJ:vs.length=rows.length:=IF hr;refine ac (listItems_at ho rfl ?_);refine ac (aax ho rfl ?_ (by rw[dL,NE];omega) (mf _))
 obtain⟨e1,ER⟩:∃e1,(s.heap.update a (IR fun _=>(#[]:Array al))).get? a=some (seqObj "list" #[] e1):=⟨_,get?_update_seq ho fun _=>#[]⟩
 refine ac (seqEpoch_at ER rfl ?_);refine ac (aag ?_ (by show vs.length<=_;rw[NE];omega))
 refine ac (aaw ?_ (mf _));refine AC ?_;have Gj:(((s.heap.update a (IR fun _=>#[])).push (seqObj "tuple" vs.toArray 0)).push (seqObj "list" #[] 0)).get? a=some (seqObj "list" #[] e1) :=by
  rw[Zy _ _ _ (by rw[size_push',ZL];exact jp (zd ha)),Zy _ _ _ (by rw[ZL];exact jp ha)]
  exact ER
 show wpAny (model prog w) A _ P E {s with heap:=((s.heap.update a (IR fun _=>(#[]:Array al))).push (seqObj "tuple" vs.toArray 0)).push (seqObj "list" #[] 0)}
 obtain⟨hh,Qr⟩:∃hh,hh=((s.heap.update a (IR fun _=>(#[]:Array al))).push (seqObj "tuple" vs.toArray 0)).push (seqObj "list" #[] 0):=⟨_,rfl⟩
 rw[<- Qr]at Gj ⊢;have keep:∀b o,b≠a->s.heap.get? b=some o->hh.get? b=some o:=fun b o hb e=>by
  have aN:=gc e;rw[Qr,Zy _ _ _ (by rw[size_push',ZL];exact jp (zd aN)),Zy _ _ _ (by rw[ZL];exact jp aN),hX.get?_update_ne _ _ _ _ hb]
  exact e
 have tr:∀{v r},gu s.heap v r->gu hh v r:=fun h=>by
  obtain⟨b,o,xs,n,rfl,fV,hc,hd,hi⟩:=h;exact⟨b,o,xs,n,rfl,keep b o (fun z=>by subst z;rw[ho]at fV;injection fV with fV;subst fV;injection hc with hc;exact absurd hc (by decide)) fV,hc,hd,hi⟩
 have BH:xz (fun v r=>gu hh v r) vs rows:=xz.imp' (fun _ _ h=>tr h) hr
 dsimp only;have hsz:vs.toArray.size=vs.length :=by simp
 have fin:∀p:Array Nat,Pm vs.length p->(∀i j,i<=j->j<vs.length->HT.lexLt (rows.getD (p.getD j 0) []) (rows.getD (p.getD i 0) [])=false)->P (.done (.ret .none)) {s with heap:=hh.update a (IR fun _=>Sk (p.toList.map fun i=>vs.getD i wS))}:=fun p h1 h2=>by
  have:=h p h1 h2;unfold sortedHeap at this;rw[<- Qr]at this;exact this
 by_cases h2:vs.toArray.size<2
 ·rw[if_pos h2,if_pos h2];refine ac (bn ?_);rw[StateT.run_pure];refine ac (bn ?_);dsimp only;refine ac (seqEpoch_at Gj rfl ?_);have eo:((arrOf (SortSt.mk' general' (vs.toArray.zip vs.toArray) #[] 7 none)).map (·.2))=Sk ((Sk (ii vs.length)).toList.map fun i=>vs.getD i wS) :=by
   refine kat_snds (ks:=vs) (vs:=vs) rfl (p:=Sk (ii vs.length)) ?_;have e:vs.length=(vs.toArray.zip vs.toArray).size :=by simp
   rw[e];exact(kas_range _).symm
  rw[eo];refine ac (aax Gj rfl ?_ (mf _) (by simp only[dL,bv,Me,NE];omega))
  simp only[bne_self_eq_false,lw,if_false];refine bn (fin (Sk (ii vs.length)) ⟨by simp,by simp⟩ fun i j xW hj=>?_)
  have:i=j :=by omega
  subst this;exact t5 _
 ·rw[if_neg h2,if_neg h2];obtain⟨fs,k1,k2,k3⟩:=t7 (s:={s with heap:=hh}) BH
  refine ac (kat_kind (T:=.type "int") k1 (by omega) (fun v hv=>by obtain⟨m,t,rfl⟩:=k3 v hv;exact Looks.of_pure rfl) (by decide) ?_)
  have IY:∀i,i<vs.length->∃r,gu hh (vs.getD i wS) (rows.getD i [])/\rows.getD i []∈rows/\r=rows.getD i []:=fun i hi=>by
   have hv:vs[i]?=some (vs.getD i wS) :=by simp[hi]
   obtain⟨r,er,Ow⟩:=j1 BH hv;have e:rows.getD i []=r :=by simp[er]
   exact⟨_,by rw[e];exact Ow,by rw[e];exact cr er,rfl⟩
  refine ac (lp (kat_run (κ:=tuples' true) (ks:=vs) (vs:=vs) (Q:=fun kb s'=>∃p:Array Nat,Pm vs.length p/\pY (fun i=>wk rows (rows.getD i [])) p vs.length/\arrOf kb=p.map (kas_item (vs.toArray.zip vs.toArray))/\failedOf kb=none/\s'={s with heap:=hh})
   rfl (by omega) tH (G:=fun p s'=>Pm vs.length p/\pY (fun i=>wk rows (rows.getD i [])) p vs.length/\s'={s with heap:=hh}) (fun p' kb s' a1 a2 a3 a4=>⟨p',a4.1,a4.2.1,a2,a3,a4.2.2⟩) ?_) ?_ fun _ _ e=>e)
  ·refine y0 (I:=fun s'=>s'={s with heap:=hh}) (R:=fun i=>wk rows (rows.getD i [])) (n:=vs.length) (fun i j C s' hi hj hI hC=>?_) _ _ _ rfl (Mj (by omega) fun p h1 h2 s' iK=>⟨h1,h2,iK⟩)
   subst hI;obtain⟨_,t1,m1,_⟩:=IY i hi;obtain⟨_,t2,_,_⟩:=IY j hj;refine Dd (s:={s with heap:=hh}) t1 t2 ?_
   rw[<- Gi m1];exact hC _ rfl
  ·intro r s' hs;obtain⟨_,kb⟩:=r;obtain⟨p,hp,hA,UK,hf,rfl⟩:=hs;dsimp only at UK hf ⊢;have Wc:=kat_snds (ks:=vs) (vs:=vs) rfl UK;refine ac (seqEpoch_at Gj rfl ?_);rw[Wc];refine ac (aax Gj rfl ?_ (mf _) (by rw[dL,bv,wn,hp.sz,NE];omega))
   rw[hf];simp only[bne_self_eq_false,lw,if_false];refine bn (fin p hp fun i j xW hj=>?_)
   have X8:=hp.lt hj;obtain⟨_,_,m1,_⟩:=IY _ X8;rw[<- Gi m1];have:=hA i j xW hj;refine decide_eq_false ?_;have this:wk rows (rows.getD (p.getD i 0) [])<=wk rows (rows.getD (p.getD j 0) []):=this;omega
end
def jM (rs:List (List Int)):List (List Int):=rs.mergeSort fun a b => !HT.lexLt b a
theorem t9 (rs:List (List Int)):(jM rs).Perm rs:=List.mergeSort_perm _ _
theorem Ar {a b c:List Int}(h1:HT.lexLt b a=false) (h2:HT.lexLt c b=false):HT.lexLt c a=false :=by
 cases h:HT.lexLt c a with
 |false=>rfl
 |true=>
  cases h3:HT.lexLt a b with
  |true=>rw[lV h h3]at h2;cases h2
  |false=>
   have:=t6 h3 h1;subst this;rw[h]at h2;cases h2
theorem y1 (rs:List (List Int)):(jM rs).Pairwise fun a b=>HT.lexLt b a=false :=by
 have:=List.pairwise_mergeSort (le:=fun a b => !HT.lexLt b a) (fun a b c h1 h2=>by
  simp only[Bool.not_eq_true']at *;exact Ar h1 h2) (fun a b=>by
  cases h:HT.lexLt b a with
  |false=>rfl
  |true=>
   cases h2:HT.lexLt a b with
   |false=>rfl
   |true=>have:=lV h h2;rw[t5]at this;cases this) rs
 exact this.imp fun h=>by simpa using h
theorem sh {ms rs:List (List Int)}(p:ms.Perm rs) (h:ms.Pairwise fun a b=>HT.lexLt b a=false):ms=jM rs:=
 SZ.eq_of_pairwise (le:=fun a b=>HT.lexLt b a=false) (fun x y _ _ h1 h2=>t6 h2 h1) h (y1 rs) (p.trans (t9 rs).symm)
def IZ (H:Hp) (v:V) (r:List Int):Prop:=∃a,v=.ref a/\H a=some (.tup (r.map V.int))/\r≠[]
def Qs (K:ba):List V->Hp->VK->Prop:=fun xs H Q=>∃p vs rows,xs=[.ref p]/\(H p=some (.lst vs)\/H p=some (.tup vs))/\xz (IZ H) vs rows/\vs.length<64/\∀l (is:List Nat),H l=none->(∀i∈is,i<vs.length)->(is.map fun i=>rows.getD i [])=jM rows->Q (.ref l) (upd H l (.lst (is.map fun i=>vs.getD i .ax)))
section
variable {X:Cx}{P:ff}{w:im}{A:l5}{E:al->ar->Prop}{s:ar}
theorem As {a:al}{us:List al}{rows:List (List Int)}{Q:al->ar->Prop}(Ib:∀QL:List al->ar->Prop,(∀h',(∀b o,s.heap.get? b=some o->h'.get? b=some o)->QL us {s with heap:=h'})->wpAny (model P w) A.in1 (collect a) QL E s)
  (hr:xz (fun v r=>gu s.heap v r) us rows) (tH:us.length<64)
  (h:∀(h1 h':hX) (is:List Nat) e,(∀i∈is,i<us.length)->(is.map fun i=>rows.getD i [])=jM rows->(∀b o,s.heap.get? b=some o->h1.get? b=some o)->(∀b o,h1.get? b=some o->h'.get? b=some o)->h'.get? h1.objs.size=some {cls:=.type "list",data:=.seq (is.map fun i=>us.getD i wS).toArray e}->Q (.ref h1.objs.size) {s with heap:=h'}) :
  wpAny (model P w) A (call (.builtin "sorted") [a]) Q E s :=by
 refine Calls.call_function_entry kind_sorted plain_sorted entry_sorted (args_sorted1 _) ?_;unfold ss.«sorted»;refine ac (m:=checkCount "sorted" 1 1 _) (bn ?_)
 refine ac (Ib _ fun h' hk=>?_)
 refine ac (aaw ?_ (hsz:=qr (Ll tH) (by decide)))
 have sH:(h'.push (seqObj "list" us.toArray 0)).get? h'.objs.size=some (seqObj "list" us.toArray 0):=db _ rfl
 have BH:xz (fun v r=>gu (h'.push (seqObj "list" us.toArray 0)) v r) us rows:=xz.imp' (fun v r t=>by
  obtain⟨b,o,xs,n,rfl,ho,z⟩:=t;exact⟨b,o,xs,n,rfl,br _ (hk _ _ ho),z⟩) hr
 have hl:=IF hr;refine ac (AC (wb slot_list_sort ⟨_,sH,rfl⟩ entry_list_sort (uY sH BH tH fun p hp ha=>⟨_,rfl,?_⟩) (args_list_sort _)))
 refine bn ⟨_,rfl,?_⟩;obtain⟨e,he⟩:=sortedHeap_at (out:=Sk (p.toList.map fun i=>us.getD i wS)) sH
 refine h h' _ p.toList e (fun i hi=>?_) (sh ?_ ?_) hk (fun b o hb=>?_) he
 ·have:=hp.pm.mem_iff.mp hi;exact uu.mp this
 ·have q:=hp.pm.map fun i=>rows.getD i []
  refine q.trans (SZ.of_eq ?_);rw[hl];refine aaU (by simp) fun i h1 h2=>?_
  simp only[aaX,Zo];rw[ci,ap h2];rfl
 ·rw[List.pairwise_iff_getElem];intro i j hi hj xW;simp only[bv,wn]at hi hj;have hsz:=hp.sz;have:=ha i j (Ll xW) (by omega)
  simp only[aaX,Array.getElem_toList];have e1:p.getD i 0=p[i] :=by simp[ZZ,hi]
  have e2:p.getD j 0=p[j] :=by simp[ZZ,hj]
  rw[e1,e2]at this;exact this
 ·have aN:=gc hb;rw[sortedHeap_old (jp aN) (by rw[xw];exact zd aN)]
  exact br _ hb
theorem De {vs:List V}{us:List al}(r:Vals vs us) (is:List Nat) (h:∀i∈is,i<vs.length):Vals (is.map fun i=>vs.getD i .ax) (is.map fun i=>us.getD i wS) :=by
 induction is with
 |nil=>exact .nil
 |cons i is ih=>
  refine .cons ?_ (ih fun j hj=>h j (en _ hj))
  have hi:=h i (i8 ..);have e:vs[i]?=some (vs.getD i .ax) :=by simp[hi]
  have hl:=r.length;have e2:us[i]?=some (us.getD i wS) :=by simp[show i<us.length by omega]
  obtain⟨u,e3,q⟩:=r.get e;rw[e2]at e3;cases e3;exact q
theorem ua {K:ba}(hK:X.K=K):cK X (.builtin "sorted") (Qs K) :=by
 subst hK;intro pins s σ H xs us Q I r h;obtain⟨p,vs,rows,rfl,hq,hr,tH,q⟩:=h;obtain⟨u,rfl,rx⟩:=vals1 r;cases rx;have hsz:sizeLine=16777216:=NE;have tr:∀{vs:List V} {its:List al} {rows:List (List Int)},Vals vs its->xz (IZ H) vs rows->xz (fun v r=>gu s.heap v r) its rows :=by
  intro vs;induction vs with
  |nil=>intro its rows rv hr;cases rv;cases hr;exact .nil
  |cons v vs ih=>
   intro its rows rv hr;cases rv with
   |cons r1 Qo=>
   obtain⟨rr,S6,rfl,hv,ht⟩:=fK hr;obtain⟨a,rfl,ha,dZ⟩:=hv;cases r1;obtain⟨ts,rt,⟨o,ho,cq,n,hd⟩,_⟩:=I.tuple (.inl (.inl ha));exact .cons ⟨a,o,_,n,rfl,ho,cq,hd,wY rt,dZ⟩ (ih Qo ht)
 obtain⟨its,rv,S7⟩:∃its:List al,Vals vs its/\∀QL:List al->ar->Prop,(∀h',(∀b o,s.heap.get? b=some o->h'.get? b=some o)->QL its {s with heap:=h'})->wpAny (model X.prog X.w) X.A.in1 (collect (.ref p)) QL X.xe s :=by
  rcases hq with hq|hq
  ·obtain⟨its,rv,pl,hz⟩:=I.list (.inl (.inl hq));have hl:=rv.length;obtain⟨o,ho,cq,n,hd⟩:=pl.isList;exact⟨its,rv,fun QL yn=>jK ho cq hd (.inl rfl) (fun h' k=>yn h' k) (by omega)⟩
  ·obtain⟨its,rv,pl,hz⟩:=I.tuple (.inl (.inl hq));have hl:=rv.length;obtain⟨o,ho,cq,n,hd⟩:=pl;exact⟨its,rv,fun QL yn=>jK ho cq hd (.inr rfl) (fun h' k=>yn h' k) (by omega)⟩
 have hl:=rv.length;refine As S7 (tr rv hr) (by omega) (fun h1 h' is e hi hs k1 k2 he=>?_)
 have I1:Inv X pins σ H {s with heap:=h1}:=(I.kept (t':=s.toks) k1).pf ⟨rfl,rfl,I.bare.self⟩
 have cy:∀i∈is,i<vs.length:=fun i h=>by have:=hi i h;omega
 have X9:is.length=rows.length :=by
  have:=congrArg List.length hs;rw[bv,(t9 rows).length_eq]at this;exact this
 have UL:=IF hr;have ob:ObjOk X.prog X.w (upd H h1.objs.size (.lst (is.map fun i=>vs.getD i .ax))) h' h1.objs.size (.lst (is.map fun i=>vs.getD i .ax)):=⟨by rw[bv];omega,_,e,De rv is cy,he⟩
 exact⟨.ref h1.objs.size,_,I1.laid (t':=s.toks) k2 (cb _) ob,rfl,q _ is (I1.hok.fresh (cb _)) cy hs⟩
end
def rowD?:Dv->Option (List Int)
 | .tup ds=>fZ ds
 |_=>none
def jN:List Dv->Option (List (List Int))
 | []=>some []
 |d::ds=>(rowD? d).bind fun r=>(jN ds).map (r::·)
theorem j4:∀rs:List (List Int),jN (rs.map eI)=some rs
 | []=>rfl
 |r::rs=>by simp[jN,rowD?,gq,j4 rs]
theorem si:∀{ds:List Dv}{rs:List (List Int)},jN ds=some rs->ds=rs.map eI
 | [],rs,h=>by simp only[jN,FS]at h;subst h;rfl
 |d::ds,rs,h=>by
          simp only[jN,SI,lc]at h;obtain⟨r,hr,Zb,h,rfl⟩:=h;cases d with
          |tup es=>rw[si h,rW (ns:=r) hr];rfl
          |_=>simp[rowD?]at hr
def zSortT (d:Dv) (M:Mh) (Q:ZK):Prop:=match (itemsM M d).bind jN with|some rs=>rs.length<64/\(∀r∈rs,r≠[])/\Q (.lst ((jM rs).map eI)) M|none=>False
theorem uZ {β:Bz}{M:Mh}{H:Hp}:∀{vs:List V}{rs:List (List Int)},aJ β M H vs (rs.map eI)->(∀r∈rs,r≠[])->xz (IZ H) vs rs
 | [],[],_,_=>.nil
 | [],_::_,r,_=>absurd r.len (by simp)
 |_::_,[],r,_=>absurd r.len (by simp)
 |v::vs,x::rs,r,h=>by
          rw[mo]at r;obtain⟨a,us,rfl,_,ha,hu⟩:=cE r.head;have:=n5 hu;subst this;exact .cons ⟨a,rfl,ha,h x (i8 ..)⟩ (uZ r.tail fun y hy=>h y (en _ hy))
theorem sj {β:Bz}{M:Mh}{H:Hp}{vs:List V}{rs:List (List Int)}(h:aJ β M H vs (rs.map eI)):∀is:List Nat,(∀i∈is,i<vs.length)->aJ β M H (is.map fun i=>vs.getD i .ax) ((is.map fun i=>rs.getD i []).map eI)
 | [],_=>.nil
 |i::is,hi=>by
          have h1:=hi i (i8 ..);have hl:=h.len;rw[bv]at hl;refine .cons (h.at' i _ _ (by simp[h1]) ?_) (sj h is fun j hj=>hi j (en _ hj))
          simp[show i<rs.length by omega]
theorem BI {Γ:Gz}{X:Cx}{K:ba}(hK:X.K=K):eA Γ X (.builtin "sorted") (z1 zSortT):=⟨_,ua hK,fun β xs ds M H Q Q' eP ew _ m rs z q=>by
 unfold z1 at z;split at z
 ·rename_i d;obtain⟨x,rfl,r⟩:=cF rs;unfold zSortT at z;split at z
  ·rename_i rows Dg;obtain⟨ds,e1,e2⟩:=SI.mp Dg;obtain⟨a,vs,rfl,ha,cw⟩:=fB m r e1;have:=si e2;subst this;have Gk:=cw.len;rw[bv]at Gk;refine⟨a,vs,rows,rfl,ha,uZ cw z.2.1,by rw[Gk];exact z.1,fun l is hl hi hs=>?_⟩
   have x2:=Ex.lay m hl (.lst (is.map fun i=>vs.getD i .ax))
   refine q _ _ _ _ x2 (ny (m.fz hl) aE ((?_:aJ β M H _ _).ex x2)) z.2.2;rw[<- hs];exact sj cw is hi
  ·exact z.elim
 ·exact z.elim⟩
end L2
namespace L2
open PySem PySem.Spec PyProof.Rows
theorem Ja (elt tg iter kh c6:c8) (ifs jg:List c8) (scope:sB) (pos:u7) (it acc:al) (env:IN) :
  compTurn (.ListComp elt [⟨tg,iter,ifs,0⟩,⟨kh,c6,jg,0⟩] scope pos) 0 it acc env =
   turnB (.ListComp elt [⟨tg,iter,ifs,0⟩,⟨kh,c6,jg,0⟩] scope pos) tg iter ifs 0 it acc env (sU (.ListComp elt [⟨tg,iter,ifs,0⟩,⟨kh,c6,jg,0⟩] scope pos) c6 1 acc env) :=by
 unfold turnB sU;simp only[bind_assoc];rfl
theorem Gm (elt tg iter kh c6:c8) (ifs jg:List c8) (scope:sB) (pos:u7) (it acc:al) (env:IN) :
  compTurn (.ListComp elt [⟨tg,iter,ifs,0⟩,⟨kh,c6,jg,0⟩] scope pos) 1 it acc env =
   turnB (.ListComp elt [⟨tg,iter,ifs,0⟩,⟨kh,c6,jg,0⟩] scope pos) kh c6 jg 1 it acc env (do let _ <- call (.builtin "list.append") [acc,<- eval elt env]) :=by
 rfl
theorem wo (k v tg iter:c8) (ifs:List c8) (scope:sB) (pos:u7) (it:al) (D:ag) (env:IN) :
  compTurn (.DictComp k v [⟨tg,iter,ifs,0⟩] scope pos) 0 it (.ref D) env =
   turnB (.DictComp k v [⟨tg,iter,ifs,0⟩] scope pos) tg iter ifs 0 it (.ref D) env (do
    let kv <- eval k env
    let vv <- holding [kv] (eval v env)
    standAt {k.pos with endLine:=v.pos.endLine,endCol:=v.pos.endCol}
    holding [kv,vv] (dictSet D kv vv)) :=by
 rfl
section
variable {Y:Cx}
def ub (wi:TI) (g:TG) (tt:TT) (tb:TB):TB:=fun τ H Q=>wi τ H fun J H1=>∃W:Nat->Nat->St->Hp->Prop,(∃m,W 0 m τ H1)/\tLoop J g tt tb Q W
theorem Mk {e tg iter:c8}{ifs:List c8}{dp:Nat}{acc:al}{body:WF Unit}{wi:TI}{g:TG}{tt:TT}{tb:TB}(hc:Y.calm=true) (sV:∀x s,Y.xe x s->False) (C:uB Y e tg iter ifs dp acc body)
  (hi:PI Y tg iter wi) (hg:PG Y tg g) (ht:gO Y ifs tt) (hb:PB Y body tb) (hs:∀x,foldedSetIterable iter Y.env x=pure x):PB Y (sU e iter dp acc Y.env) (ub wi g tt tb) :=by
 intro pins s τ H Q I q;unfold sU;refine ac (lp (hi pins s τ H _ I q) (fun xv s1 h1=>?_) fun _ _ z=>z)
 refine ac (BS (ac (aaj (hs xv) (ac (AC (lp h1 (fun oY s2 h2=>?_) fun _ _ z=>z))))))
 obtain⟨it,fp,bZ,J,H2,e2,I2,T,iH,f2,W,⟨m0,w0⟩,turn⟩:=h2;subst e2;refine ac (wpAny_runOwn (h:=none) ?_);exact ko C T iH (mE hc sV C hg ht hb T turn I2 iH f2 w0 fun aT H' s' I' q'=>bn ⟨aT,H',I',q'⟩)
end
section
variable {X:Cx}{pins:List (ag×kw)}{σ:St}{H:Hp}{s:ar}{a:ag}{y v:V}{u r:al}{A:l5}{E:al->ar->Prop}
theorem Gp {H':Hp}{Q:Unit->ar->Prop}(hu:A.units+1<cLine) (I:Inv X pins σ H s) (g:CN H a y v H') (ry:RelV y u) (rv:RelV v r) (h:∀s',Inv X pins σ H' s'->Q () s') :
  wpAny (model X.prog X.w) A (dictSet a u r) Q E s :=by
 rcases g with ⟨aq,k,e,ey,l,eH⟩|⟨aq,k,b,e,ey,eb,l,eH⟩
 ·subst ey eH;obtain⟨z,hd,vs,rel,dd⟩:=Kb I.hok e;have hz:vs.length<=sizeLine :=by rw[<- rel.length];exact z
  have hl:(putK aq k v).length<=sizeLine :=by have:=hZ aq k v;omega
  refine wpAny_dictSet_pairs (hsz:=hz) (nV ry) dd fun h' nv hs=>h _ ?_
  have he:∃q,h'.get? a=some q:=let ⟨q,_,_,hq,_⟩:=nv;⟨q,hq⟩;exact kU I (by rw[e];exact LF) hs he (Fn hl hd (rel.put k rv) nv)
 ·subst ey eH;cases (show u=l6 b from ry);obtain⟨z,hd,xs,rel,dd⟩:=w6 I.hok e;have hz:xs.length<=sizeLine :=by rw[<- IF rel];exact z
  have hl:(putK aq k v).length<=sizeLine :=by have:=hZ aq k v;omega
  refine wpAny_dictSet_heap (hsz:=hz) (show (tupleKind (bA X.prog X.w)).room A from Nat.lt_of_succ_lt hu) (i9 I.hok eb) dd fun h' nv hs=>h _ ?_
  obtain⟨q,es,ep,hq,h2,h3,h4,_,h5⟩:=nv;refine kU I (by rw[e];exact LF) hs ⟨q,hq⟩ ⟨hl,hd,_,(rel.put k eb rv).keeps fun c ys ec=>?_,q,es,ep,hq,h2,h3,h4,h5⟩
  rw[ah (sG ec e (fun z=>nomatch z))]
  exact ec
end
section
variable {X:Cx}
def xf (k v:c8) (D:ag) (env:IN):WF Unit:=do
 let kv <- eval k env
 let vv <- holding [kv] (eval v env)
 standAt {k.pos with endLine:=v.pos.endLine,endCol:=v.pos.endCol}
 holding [kv,vv] (dictSet D kv vv)
def xg (D:ag) (tk tv:TE):TB:=fun τ H Q=>tk τ H fun y H1=>tv τ H1 fun v H2=>∃H3,CN H2 D y v H3/\Q τ H3
theorem Gq {Y:Cx}{k v:c8}{tk tv:TE}{D:ag}(hu:Y.A.units+1<cLine) (hk:PE Y k tk) (hv:PE Y v tv):PB Y (xf k v D Y.env) (xg D tk tv) :=by
 intro pins s τ H Q I q;unfold xf;refine ac (lp (hk pins s τ H _ I q) (fun kv s1 ⟨y,H1,I1,r1,q1⟩=>?_) fun _ _ z=>z)
 refine ac (AC (lp (hv pins s1 τ H1 _ I1 q1) (fun vv s2 ⟨x,H2,I2,r2,q2⟩=>?_) fun _ _ z=>z))
 obtain⟨H3,g,q3⟩:=q2;exact ac (BS (AC (Gp hu I2 g r1 r2 fun s' I3=>⟨τ,H3,I3,q3⟩)))
def BJ (tn:Nat) (idx:List Nat) (wi:TI) (g:TG) (tt:TT) (Gr:TI) (g2:TG) (oQ:TT) (te:TE):TE:=fun σ H Q=>wi σ H fun J H1=>∀D,H1 D=none->∃W:Nat->Nat->St->Hp->Prop,(∃m,W 0 m (bw tn idx σ) (upd H1 D (.lst []))) /\
 tLoop J g tt (ub Gr g2 oQ (ni D te)) (fun _ H'=>Q (.ref D) H') W
def y2 (tup:Bool) (tn:Nat) (idx:List Nat) (wi:TI) (g:TG) (tt:TT) (tk tv:TE):TE:=fun σ H Q=>wi σ H fun J H1=>∀D,H1 D=none->∃W:Nat->Nat->St->Hp->Prop,(∃m,W 0 m (bw tn idx σ) (upd H1 D (if tup=true then .dT [] else .dK []))) /\
 tLoop J g tt (xg D tk tv) (fun _ H'=>Q (.ref D) H') W
variable {tg elt iter kh c6 k v:c8}{ifs jg:List c8}{scope:sB}{pos:u7}{N':List bi}{tn:Nat}{idx:List Nat}{wi Gr:TI}{g g2:TG}{tt oQ:TT}{te tk tv:TE}
theorem y3 (hc:X.calm=true) (B:aD X.N X.env.scope scope N' tn idx) (hi:PI X tg iter wi)
  (hg:Blk X N' scope fun Y=>PG Y tg g) (ht:Blk X N' scope fun Y=>gO Y ifs tt) (fX:Blk X N' scope fun Y=>PI Y kh c6 Gr) (Qt:Blk X N' scope fun Y=>PG Y kh g2) (Bb:Blk X N' scope fun Y=>gO Y jg oQ) (he:Blk X N' scope fun Y=>PE Y elt te)
  (hs:∀x,foldedSetIterable iter X.env x=pure x :=by intro _;rfl) (k7:∀env x,foldedSetIterable c6 env x=pure x :=by intro _ _;rfl):PE X (.ListComp elt [⟨tg,iter,ifs,0⟩,⟨kh,c6,jg,0⟩] scope pos) (BJ tn idx wi g tt Gr g2 oQ te) :=by
 refine⟨?_⟩;intro pins s σ H Q I h;obtain⟨cl,d9,cn,dy⟩:=dO (scope:=scope) (env:=X.env) fun n hn=>I.ok.has n ((B.2.1 _ hn).2.2 rfl)
 rw[eval_ListComp];refine EM (use:=none) rfl hs d9 B.1 (fun y hy=>(B.2.1 y hy).2.1) (lp (hi pins s σ H _ I h) (fun xv s1 h1=>lp h1 (fun oY s2 h2=>?_) fun _ _ z=>z) fun _ _ z=>z)
 obtain⟨it,fp,bZ,J,H2,e,I2,T,iH,f2,q2⟩:=h2;subst e;refine compG_core (RR:=fun acc C=>compPost (model X.prog X.w) X.A X.xe none (EP X pins σ Q) acc C) (body:=fun acc env=>sU (.ListComp elt [⟨tg,iter,ifs,0⟩,⟨kh,c6,jg,0⟩] scope pos) c6 1 acc env) (tb:=fun D=>ub Gr g2 oQ (ni D te)) (O0:=.lst []) (o0:={cls:=.type "list",dict:=none,data:=.seq ([]:List al).toArray})
  (fun Q q=>xb q) rfl (fun H h1 hd=>⟨mf _,[],0,.nil,hd⟩) hc B (fun D cl C s H fp=>⟨fun _=>rfl,fun _ _ _ _ h=>h,fun _=>Ja ..,fun _ _ _ _ h=>h,rfl⟩) hg ht (fun D cl C s H fp=>Mk hc (fun _ _ z=>z) ⟨fun _=>rfl,fun _ _ _ _ h=>h,fun _=>Gm ..,fun _ _ _ _ h=>h,rfl⟩ (fX cl C s H fp) (Qt cl C s H fp) (Bb cl C s H fp) (uC (he cl C s H fp)) (k7 _))
  I2 T iH f2 cn dy q2 fun D C m s' H' J2 fC hm q=>?_
 exact⟨m,hm,fun h' iK=>⟨.ref D,H',fC.turn J2 iK,rfl,q⟩⟩
theorem ud {P:ff}{w:im}{H:Hp}{h:hX}{a:ag}(tup:Bool) (hb:sysModules<a) (e:h.get? a=some {cls:=.type "dict",data:=.dict #[]}):ObjOk P w H h a (if tup=true then .dT [] else .dK []) :=by
 have ne:(a==sysModules)=false:=beq_eq_false_iff_ne.mpr (ze (jp hb));cases tup with
 |true=>exact⟨mf _,ne,[],.nil,_,#[],0,e,⟨rfl,rfl,rfl⟩,rfl,rfl,List.nodup_nil⟩
 |false=>exact⟨mf _,ne,[],.nil,_,#[],0,e,⟨rfl,rfl,rfl⟩,rfl,(fun _ he=>by simp at he),Pairs.nil,List.nodup_nil⟩
theorem Au (tup:Bool) (hu:X.A.units+1<cLine) (hc:X.calm=true) (B:aD X.N X.env.scope scope N' tn idx) (hi:PI X tg iter wi)
  (hg:Blk X N' scope fun Y=>PG Y tg g) (ht:Blk X N' scope fun Y=>gO Y ifs tt) (hk:Blk X N' scope fun Y=>PE Y k tk) (hv:Blk X N' scope fun Y=>PE Y v tv)
  (hs:∀x,foldedSetIterable iter X.env x=pure x :=by intro _;rfl):PE X (.DictComp k v [⟨tg,iter,ifs,0⟩] scope pos) (y2 tup tn idx wi g tt tk tv) :=by
 refine⟨?_⟩;intro pins s σ H Q I h;obtain⟨cl,d9,cn,dy⟩:=dO (scope:=scope) (env:=X.env) fun n hn=>I.ok.has n ((B.2.1 _ hn).2.2 rfl)
 rw[arm_eval_DictComp];refine EM (use:=none) rfl hs d9 B.1 (fun y hy=>(B.2.1 y hy).2.1) (lp (hi pins s σ H _ I h) (fun xv s1 h1=>lp h1 (fun oY s2 h2=>?_) fun _ _ z=>z) fun _ _ z=>z)
 obtain⟨it,fp,bZ,J,H2,e,I2,T,iH,f2,q2⟩:=h2;subst e;refine compG_core (RR:=fun acc C=>compPost (model X.prog X.w) X.A X.xe none (EP X pins σ Q) acc C) (body:=fun acc env=>match acc with | .ref D=>xf k v D env|_=>pure ()) (tb:=fun D=>xg D tk tv) (O0:=if tup=true then .dT [] else .dK []) (o0:={cls:=.type "dict",data:=.dict #[]})
  (fun Q q=>xb q) rfl (fun H h1 hd=>ud tup I2.big hd) hc B (fun D cl C s H fp=>⟨fun _=>rfl,fun _ _ _ _ h=>h,fun _=>wo ..,fun _ _ _ _ h=>h,rfl⟩) hg ht (fun D cl C s H fp=>Gq hu (hk cl C s H fp) (hv cl C s H fp))
  I2 T iH f2 cn dy q2 fun D C m s' H' J2 fC hm q=>?_
 exact⟨m,hm,fun h' iK=>⟨.ref D,H',fC.turn J2 iK,rfl,q⟩⟩
theorem Dh {i:Nat}{y:bi}{py eW:u7}(tup:Bool) (hu:X.A.units+1<cLine) (hN:X.N.Nodup) (cy:X.N[i]?=some y) (hy:X.env.scope.names.lookup y=some .local) (hc:X.calm=true) (B:aD X.N X.env.scope scope N' tn idx) (hi:PI X tg iter wi)
  (hg:Blk X N' scope fun Y=>PG Y tg g) (ht:Blk X N' scope fun Y=>gO Y ifs tt) (hk:Blk X N' scope fun Y=>PE Y k tk) (hv:Blk X N' scope fun Y=>PE Y v tv)
  (nj:swapsWith (.DictComp k v [⟨tg,iter,ifs,0⟩] scope pos) (some (.Name y py)) eW.line X.env=pure true :=by rfl)
  (hs:∀x,foldedSetIterable iter X.env x=pure x :=by intro _;rfl):PS X (.Assign [.Name y py] (.DictComp k v [⟨tg,iter,ifs,0⟩] scope pos) eW) (rL (y2 tup tn idx wi g tt tk tv) (nK i)) :=by
 refine⟨?_⟩;intro pins s σ H D I h;obtain⟨cl,d9,cn,dy⟩:=dO (scope:=scope) (env:=X.env) fun n hn=>I.ok.has n ((B.2.1 _ hn).2.2 rfl)
 rw[ZN _ _ _ _ nj];refine ac (BS (ac ?_));show wpAny _ X.A (do let _ <- comprehension (.DictComp k v [⟨tg,iter,ifs,0⟩] scope pos) scope X.env _ newDict false (eval iter X.env) (some (assign (.Name y py) X.env))) _ _ s;refine ac (lp (EM (use:=some (assign (.Name y py) X.env)) (Q:=fun _ s'=>SP X pins D .next s') rfl hs d9 B.1 (fun y hy=>(B.2.1 y hy).2.1)
  (lp (hi pins s σ H _ I h) (fun xv s1 h1=>lp h1 (fun oY s2 h2=>?_) fun _ _ z=>z) fun _ _ z=>z)) (fun _ s' hq=>bn (bn hq)) fun _ _ z=>z)
 obtain⟨it,fp,bZ,J,H2,e,I2,T,iH,f2,q2⟩:=h2;subst e;refine compG_core (Q:=fun x H1=>nK i x σ H1 D.nx) (RR:=fun acc C=>compPost (model X.prog X.w) X.A X.xe (some (assign (.Name y py) X.env)) (fun _ s'=>SP X pins D .next s') acc C) (body:=fun acc env=>match acc with | .ref D=>xf k v D env|_=>pure ()) (tb:=fun D=>xg D tk tv) (O0:=if tup=true then .dT [] else .dK []) (o0:={cls:=.type "dict",data:=.dict #[]})
  (fun Q q=>xb q) rfl (fun H h1 hd=>ud tup I2.big hd) hc B (fun D cl C s H fp=>⟨fun _=>rfl,fun _ _ _ _ h=>h,fun _=>wo ..,fun _ _ _ _ h=>h,rfl⟩) hg ht (fun D cl C s H fp=>Gq hu (hk cl C s H fp) (hv cl C s H fp))
  I2 T iH f2 cn dy q2 fun E C m s' H' J2 fC hm q=>?_
 show wpAny _ X.A (assign (.Name y py) X.env (.ref E)) _ _ s';refine Zu (store_ok2 J2 hN cy (.inl hy) (v:=.ref E) rfl (fun s3 J3 ⟨a,g6,ha⟩=>?_) (.inr hy))
 have dZ:C≠a :=by
  rcases ha with z|z
  ·rw[z];exact fC.2.1
  ·exact fun w=>fC.2.2.2.2.1 _ _ z w.symm
 exact⟨m,hm.sameBut g6 dZ,fun h' iK=>⟨_,H',fC.turn J3 iK,q⟩⟩
end
abbrev pZ:=List Dv->aC->Mh->(List Dv->aC->Mh->Prop)->Prop
def zlOne (te:aM):pZ:=fun acc τ M Q=>te τ M fun y M'=>acc.length<sizeLine/\Q (acc++[y]) τ M'
def lW (g:bS) (tt:cg) (lb:pZ):List Dv->pZ
 | [],acc,τ,M,Q=>Q acc τ M
 |d::ds,acc,τ,M,Q=>g d τ M fun az M2=>tt az M2 fun b M3=>if b=true then lb acc az M3 fun ou Oo M4=>lW g tt lb ds ou Oo M4 Q else lW g tt lb ds acc az M3 Q
def zlNest (zi:dz) (g:bS) (tt:cg) (lb:pZ):pZ:=fun acc τ M Q=>zi τ M fun es M1=>lW g tt lb es acc τ M1 Q
theorem y6 {g:bS}{lb:pZ}(I:Nat->List Dv->aC->Mh->Prop):∀{ds:List Dv}{i:Nat}{acc:List Dv}{τ:aC}{M:Mh}{Q:List Dv->aC->Mh->Prop},I i acc τ M->
  (∀j d acc τ M,ds[j]?=some d->I (i+j) acc τ M->∀R:List Dv->aC->Mh->Prop,(∀ou az M2,I (i+j+1) ou az M2->R ou az M2)->g d τ M fun az M2=>lb acc az M2 R)->
  (∀acc τ M,I (i+ds.length) acc τ M->Q acc τ M)->lW g zNoIf lb ds acc τ M Q
 | [],i,acc,τ,M,Q,h,_,q=>q acc τ M h
 |d::ds,i,acc,τ,M,Q,h,hs,q=>by
          refine hs 0 d acc τ M rfl h (fun ou az M2=>lW g zNoIf lb ds ou az M2 Q) fun ou az M2 h2=>?_
          refine y6 I (i:=i+1) h2 (fun j d acc τ M hd hI R hR=>hs (j+1) d acc τ M hd (by rw[show i+(j+1)=i+1+j by omega];exact hI) R fun ou az M2 h3=>hR ou az M2 (by rw[show i+1+j+1=i+(j+1)+1 by omega];exact h3)) fun acc τ M h3=>q acc τ M (by rw[AL,show i+(ds.length+1)=i+1+ds.length by omega];exact h3)
def Ya (J:It) (ds:List Dv):Prop:=∃vs:List V,vs.length=ds.length/\(∀(β:Bz) M H,aJ β M H vs ds)/\∀H,Runs J vs H
def Qu (Γ:Gz) (p:dz):TI:=fun σ H R=>∃(β:Bz) (ρ:aC) (M:Mh) (R':List Dv->Mh->Prop),Zr Γ β M ρ σ H/\p ρ M R'/\∀ds M' H' J,Ex β M H M' H'->Ya J ds->R' ds M'->R J H'
abbrev QIr (Γ:Gz) (X:Cx) (tg e:c8) (p:dz):Prop:=PI X tg e (Qu Γ p)
section
variable {Γ:Gz}{β:Bz}{g:bS}{tt:cg}{D:ag}{M1:Mh}{H1:Hp}
def Kz (Γ:Gz) (β:Bz) (D:ag) (M1:Mh) (H1:Hp) (lb:pZ) (tb:TB):Prop:=∀(aT:aC) (M:Mh) (τ:St) (H:Hp) (acc:List V) (aR:List Dv) (N:St->Hp->Prop) (N':List Dv->aC->Mh->Prop),Acc Γ β D M1 H1 aT M τ H acc aR->lb aR aT M N'->
 (∀xh Di M' az H' gV,Acc Γ β D M1 H1 Di M' az H' gV xh->N' xh Di M'->N az H')->tb τ H N
def LW (Γ:Gz) (β:Bz) (D:ag) (M1:Mh) (H1:Hp) (g:bS) (tt:cg) (lb:pZ) (ds:List Dv) (N':List Dv->aC->Mh->Prop) (i m:Nat) (τ:St) (H:Hp):Prop:=
 m=ds.length - i/\i<=ds.length/\∃aT M acc aR,Acc Γ β D M1 H1 aT M τ H acc aR/\lW g tt lb (ds.drop i) aR aT M N'
theorem BK {lb:pZ}{tb:TB}{ds:List Dv}{N':List Dv->aC->Mh->Prop}{J:It}{QE:St->Hp->Prop}
  (it:∀aT M τ H acc aR,Acc Γ β D M1 H1 aT M τ H acc aR->∀i,(i<ds.length->J.go i H/\∀x iP,J.yld i H x iP->Ex (β.add D) M H M iP/\∃d,ds[i]?=some d/\Rz (β.add D) M iP x d)/\(ds.length<=i->J.stop i H))
  (Qv:Kz Γ β D M1 H1 lb tb) (pq:∀aT M τ H acc aR,Acc Γ β D M1 H1 aT M τ H acc aR->N' aR aT M->QE τ H) :
  tLoop J (lG Γ g) (lT Γ tt) tb QE (LW Γ β D M1 H1 g tt lb ds N') :=by
 rintro i m τ H ⟨rfl,hi,aT,M,acc,aR,A,h⟩;have q:=it _ _ _ _ _ _ A i;by_cases aN:i<ds.length
 ·refine .inr ⟨(q.1 aN).1,fun x H' y=>?_⟩
  obtain⟨x2,d,hd,rd⟩:=(q.1 aN).2 x H' y;have e:ds.drop i=d::ds.drop (i+1) :=by
   rw[AT aN];rw[ap aN]at hd;cases hd;rfl
  rw[e]at h;have A2:=A.step x2 (A.zr.step x2);refine⟨β.add D,d,aT,M,_,A2.zr,rd,h,fun dQ M3 lD H3 x3 z3 h3=>?_⟩
  have A3:=A2.step x3 z3;refine⟨β.add D,dQ,M3,_,z3,h3,fun b M4 H4 x4 h4=>?_⟩
  have A4:=A3.step x4 (z3.step x4);cases b with
  |false=>
   dsimp only at h4 ⊢;rw[if_neg i0]at h4 ⊢;exact⟨ds.length - (i+1),by omega,rfl,aN,dQ,M4,acc,aR,A4,h4⟩
  |true=>
   dsimp only at h4 ⊢;rw[if_pos rfl]at h4 ⊢;exact Qv _ _ _ _ _ _ _ _ A4 h4 fun xh Di M' az H' gV A5 h5=>⟨ds.length - (i+1),by omega,rfl,aN,Di,M',gV,xh,A5,h5⟩
 ·have e:i=ds.length :=by omega
  subst e;rw[No]at h;exact .inl ⟨q.2 (cb _),pq _ _ _ _ _ _ A h⟩
theorem Ml {te:aM}:Kz Γ β D M1 H1 (zlOne te) (ni D (lE Γ te)):=fun aT M τ H acc aR N N' A h hN=>by
 refine⟨β.add D,aT,M,_,A.zr,h,fun d M5 v H5 x5 r5 ⟨hl,h5⟩=>?_⟩
 have A5:=A.step x5 (A.zr.step x5);exact⟨acc,A5.at',by rw[A.rs.len];exact hl,hN _ _ _ _ _ _ (A5.snoc r5) h5⟩
theorem Jb {zi:dz}{lb:pZ}{tb:TB}(Qv:Kz Γ β D M1 H1 lb tb):Kz Γ β D M1 H1 (zlNest zi g tt lb) (ub (Qu Γ zi) (lG Γ g) (lT Γ tt) tb):=fun aT M τ H acc aR N N' A h hN=>by
 refine⟨β.add D,aT,M,_,A.zr,h,fun ds M2 H2 J x2 ⟨vs,hl,hr,hR⟩ h2=>?_⟩
 have A2:=A.step x2 (A.zr.step x2);refine⟨LW Γ β D M1 H1 g tt lb ds N',⟨_,rfl,mf _,_,_,_,_,A2,h2⟩,BK (fun aT M τ H acc aR A i=>?_) Qv fun aT M τ H acc aR A h=>hN _ _ _ _ _ _ A h⟩
 have q:=hR H i;rw[hl]at q;refine⟨fun hi=>⟨(q.1 hi).1,fun v iP y=>?_⟩,q.2⟩
 obtain⟨e,hv⟩:=(q.1 hi).2 v iP y;subst e;obtain⟨d,hd,rd⟩:=(hr (β.add D) M iP).get' hv;exact⟨.refl A.zr.mz,d,hd,rd⟩
def zComp2 (tn:Nat) (idx:List Nat) (zi:dz) (g:bS) (tt:cg) (lb:pZ):aM:=fun ρ M Q=>zi ρ M fun ds M1=>lW g tt lb ds [] (zBlock tn idx ρ) M1 fun ys _ M2=>Q (.lst ys) M2
theorem Mm {tn:Nat}{idx:List Nat}{zi BL:dz}{g2:bS}{oQ:cg}{te:aM}{σ:St}{H:Hp}{Q:VK}(h:lE Γ (zComp2 tn idx zi g tt (zlNest BL g2 oQ (zlOne te))) σ H Q):BJ tn idx (lI Γ zi) (lG Γ g) (lT Γ tt) (Qu Γ BL) (lG Γ g2) (lT Γ oQ) (lE Γ te) σ H Q :=by
 obtain⟨β,ρ,M,Q',zr,h,q⟩:=h;refine⟨β,ρ,M,_,zr,h,fun ds M1 H1 J x1 it h1 D hD=>?_⟩
 have gQ:=zr.step x1;refine⟨LW Γ β D M1 H1 g tt (zlNest BL g2 oQ (zlOne te)) ds fun ys _ M2=>Q' (.lst ys) M2,⟨_,rfl,mf _,_,_,_,_,.start (gQ.block tn idx) hD,h1⟩,BK (fun aT M τ H acc aR A i=>it (β.add D) M H (.add A.h1) A.ey A.zr.mz i) (Jb Ml) fun aT M τ H acc aR A h=>?_⟩
 exact q _ _ _ _ (x1.trans A.ex) (ny (A.fz gQ.mz) A.at' A.items) h
end
section
variable {X:Cx}{Γ:Gz}{tg elt iter kh c6:c8}{ifs jg:List c8}{scope:sB}{pos:u7}{N':List bi}{tn:Nat}{idx:List Nat}{zi BL:dz}{g g2:bS}{tt oQ:cg}{te:aM}
theorem y7 (hc:X.calm=true) (B:aD X.N X.env.scope scope N' tn idx) (hi:QI Γ X tg iter zi)
  (hg:Blk X N' scope fun Y=>QG Γ Y tg g) (ht:Blk X N' scope fun Y=>nE Γ Y ifs tt) (fX:Blk X N' scope fun Y=>QIr Γ Y kh c6 BL) (Qt:Blk X N' scope fun Y=>QG Γ Y kh g2) (Bb:Blk X N' scope fun Y=>nE Γ Y jg oQ) (he:Blk X N' scope fun Y=>QE Γ Y elt te)
  (hs:∀x,foldedSetIterable iter X.env x=pure x :=by intro _;rfl) (k7:∀env x,foldedSetIterable c6 env x=pure x :=by intro _ _;rfl):QE Γ X (.ListComp elt [⟨tg,iter,ifs,0⟩,⟨kh,c6,jg,0⟩] scope pos) (zComp2 tn idx zi g tt (zlNest BL g2 oQ (zlOne te))):=
 (y3 hc B hi hg ht fX Qt Bb he hs k7).imp fun σ H Q h=>Mm h
theorem Dj {pa:eY}{tg a b:c8}{p pos:u7}(hg:Gl X "range") (hm:X.mg "range" = none) (ha:QA Γ X [a,b] pa) (hs:starEach [a,b] X.env=[(false,eval a X.env),(false,eval b X.env)] :=by rfl) (k7:starEach [b] X.env=[(false,eval b X.env)] :=by rfl) :
  QIr Γ X tg (.Call (.Name "range" p) [a,b] [] pos) (ziRng2 pa):=(vo hg hm ha hs k7).imp fun σ H R h=>by
 obtain⟨β,ρ,M,R',zr,h,q⟩:=h;refine⟨β,ρ,M,_,zr,h,fun ds M1 vs H1 x1 r1 h1=>?_⟩
 revert h1
 split
 ·rintro⟨b1,h1⟩;obtain⟨v,u,rfl,r,r'⟩:=jv r1;rw[aV r,aV r'];exact⟨_,_,rfl,b1,q _ _ _ _ x1 ⟨_,by simp[cP],fun _ _ _=>pM,fun _=>nQ⟩ h1⟩
 ·exact fun h=>h.elim
end
def qS (g:bS) (tt:cg) (tk tv:aM):List Dv->List (List Key)->List Dv->aC->Mh->(List (List Key)->List Dv->Mh->Prop)->Prop
 | [],ks,es,_,M,Q=>Q ks es M
 |d::ds,ks,es,τ,M,Q=>g d τ M fun az M2=>tt az M2 fun b M3=>if b=true then tk az M3 fun k M4=>tv az M4 fun v M5=>ks.length<sizeLine/\(match k with
  | .tup xs=>(match fD xs with|some k=>qS g tt tk tv ds (putL ks k) (dR ks es k v) az M5 Q|none=>False)
  |_=>False) else qS g tt tk tv ds ks es az M3 Q
def zCompDT (tn:Nat) (idx:List Nat) (zi:dz) (g:bS) (tt:cg) (tk tv:aM):aM:=fun ρ M Q=>zi ρ M fun ds M1=>qS g tt tk tv ds [] [] (zBlock tn idx ρ) M1 fun ks es M2=>∀a,M2 a=none->Q (.ptr a) (aw M2 a (.dt ks es))
theorem Gs {g:bS}{tk tv:aM}(I:Nat->List (List Key)->List Dv->aC->Mh->Prop):∀{ds:List Dv}{i:Nat}{ks:List (List Key)}{es:List Dv}{τ:aC}{M:Mh}{Q:List (List Key)->List Dv->Mh->Prop},I i ks es τ M->
  (∀j d ks es τ M,ds[j]?=some d->I (i+j) ks es τ M->∀R:List (List Key)->List Dv->aC->Mh->Prop,(∀f9 rl az M2,I (i+j+1) f9 rl az M2->R f9 rl az M2)->g d τ M fun az M2=>tk az M2 fun k M4=>tv az M4 fun v M5=>ks.length<sizeLine/\(match k with
   | .tup xs=>(match fD xs with|some k=>R (putL ks k) (dR ks es k v) az M5|none=>False)
   |_=>False))->
  (∀ks es τ M,I (i+ds.length) ks es τ M->Q ks es M)->qS g zNoIf tk tv ds ks es τ M Q
 | [],i,ks,es,τ,M,Q,h,_,q=>q ks es τ M h
 |d::ds,i,ks,es,τ,M,Q,h,hs,q=>by
          refine hs 0 d ks es τ M rfl h (fun f9 rl az M2=>qS g zNoIf tk tv ds f9 rl az M2 Q) fun f9 rl az M2 h2=>?_
          refine Gs I (i:=i+1) h2 (fun j d ks es τ M hd hI R hR=>hs (j+1) d ks es τ M hd (by rw[show i+(j+1)=i+1+j by omega];exact hI) R fun f9 rl az M2 h3=>hR f9 rl az M2 (by rw[show i+1+j+1=i+(j+1)+1 by omega];exact h3)) fun ks es τ M h3=>q ks es τ M (by rw[AL,show i+(ds.length+1)=i+1+ds.length by omega];exact h3)
structure lX (Γ:Gz) (β:Bz) (D:ag) (M1:Mh) (H1:Hp) (aT:aC) (M:Mh) (τ:St) (H:Hp) (ks:List (List Key)) (acc:List V) (aR:List Dv):Prop where
 ey:Ey M1 H1 M H
 m:M D=none
 zr:Zr Γ (β.add D) M aT τ H
 at':H D=some (.dT (ks.zip acc))
 hk:ks.length=acc.length
 rs:aJ (β.add D) M H acc aR
 h1:H1 D=none
 h0:Γ.H0 D=none
 nt:D ∉ β.tb
section
variable {Γ:Gz}{β:Bz}{D:ag}{M1 M M2:Mh}{H1 H H2:Hp}{aT yB:aC}{τ az:St}{ks:List (List Key)}{acc:List V}{aR:List Dv}
theorem lX.start (zr:Zr Γ β M1 aT τ H1) (hD:H1 D=none):lX Γ β D M1 H1 aT M1 τ (upd H1 D (.dT [])) [] [] []:=
 ⟨Ey.refl.over hD,zr.mz.free hD,zr.enter hD rfl,aE,rfl,.nil,hD,zr.ent.gone hD (by
  cases e:Γ.M0 D with
  |none=>rfl
  |some u=>have:=zr.ent.dom D (by rw[e];rfl);rw[zr.mz.free hD]at this;cases this),zr.mz.CP hD⟩
theorem lX.step (A:lX Γ β D M1 H1 aT M τ H ks acc aR) (x:Ex (β.add D) M H M2 H2) (z:Zr Γ (β.add D) M2 yB az H2):lX Γ β D M1 H1 yB M2 az H2 ks acc aR:=
 ⟨A.ey.trans x.toEy,x.new D _ A.m A.at',z,x.FT i8 A.m A.at' rfl,A.hk,A.rs.ex x,A.h1,A.h0,A.nt⟩
theorem lX.put (A:lX Γ β D M1 H1 aT M τ H ks acc aR) {k:List Key}{y:V}{d:Dv}(r:Rz (β.add D) M H y d):lX Γ β D M1 H1 aT M τ (upd H D (.dT ((putL ks k).zip (dR ks acc k y)))) (putL ks k) (dR ks acc k y) (dR ks aR k d) :=by
 have hD:D∈(β.add D).hid:=i8;exact⟨A.ey.over A.h1,A.m,A.zr.over hD rfl A.m A.nt A.h0,aE,oj A.hk k y,⟨(lM k r A.rs).len,fun i v d a b=>((lM k r A.rs).at' i v d a b).over hD⟩,A.h1,A.h0,A.nt⟩
theorem Gu {H:Hp}{a:ag}{o:HO}(h:H a=some o):upd H a o=H :=by
 funext b
 by_cases e:b=a
 ·rw[e,aE,h]
 ·rw[ah e]
theorem lX.own (A:lX Γ β D M1 H1 aT M τ H ks acc aR) (m1:Mz β M1 H1):Ex β M1 H1 (aw M D (.dt ks aR)) H :=by
 have mz:Mz β (aw M D (.dt ks aR)) (upd H D (.dT (ks.zip acc))):=A.zr.mz.P2 A.m (m1.fz A.h1).2 A.nt rfl ⟨acc,aE,A.hk,lN A.rs⟩;rw[Gu A.at']at mz;exact⟨⟨A.ey.keep,fun a h=>by unfold aw;split;rfl;exact A.ey.dom a h,fun a w m e=>by rw[ao (bp e A.h1)];exact A.ey.new a w m e⟩,mz⟩
end
section
variable {Γ:Gz}{β:Bz}{g:bS}{tt:cg}{tk tv:aM}{zi:dz}{tn:Nat}{idx:List Nat}
theorem y8 {σ:St}{H:Hp}{Q:VK}(h:lE Γ (zCompDT tn idx zi g tt tk tv) σ H Q):y2 true tn idx (lI Γ zi) (lG Γ g) (lT Γ tt) (lE Γ tk) (lE Γ tv) σ H Q :=by
 obtain⟨β,ρ,M,Q',zr,h,q⟩:=h;refine⟨β,ρ,M,_,zr,h,fun ds M1 H1 J x1 it h1 D hD=>?_⟩
 have gQ:=zr.step x1;refine⟨fun i m τ H=>m=ds.length - i/\i<=ds.length/\∃aT M ks acc aR,lX Γ β D M1 H1 aT M τ H ks acc aR/\qS g tt tk tv (ds.drop i) ks aR aT M fun ks es M2=>∀a,M2 a=none->Q' (.ptr a) (aw M2 a (.dt ks es)),⟨_,rfl,mf _,_,_,_,_,_,.start (gQ.block tn idx) hD,h1⟩,?_⟩
 rintro i m τ H ⟨rfl,hi,aT,M,ks,acc,aR,A,h⟩;have q2:=it (β.add D) M H (.add A.h1) A.ey A.zr.mz i;by_cases aN:i<ds.length
 ·refine .inr ⟨(q2.1 aN).1,fun x H' y=>?_⟩
  obtain⟨x2,d,hd,rd⟩:=(q2.1 aN).2 x H' y;have e:ds.drop i=d::ds.drop (i+1) :=by
   rw[AT aN];rw[ap aN]at hd;cases hd;rfl
  rw[e]at h;have A2:=A.step x2 (A.zr.step x2);refine⟨β.add D,d,aT,M,_,A2.zr,rd,h,fun dQ M3 lD H3 x3 z3 h3=>?_⟩
  have A3:=A2.step x3 z3;refine⟨β.add D,dQ,M3,_,z3,h3,fun b M4 H4 x4 h4=>?_⟩
  have A4:=A3.step x4 (z3.step x4);cases b with
  |false=>
   dsimp only at h4 ⊢;rw[if_neg i0]at h4 ⊢;exact⟨ds.length - (i+1),by omega,rfl,aN,dQ,M4,ks,acc,aR,A4,h4⟩
  |true=>
   dsimp only at h4 ⊢;rw[if_pos rfl]at h4 ⊢;refine⟨β.add D,dQ,M4,_,A4.zr,h4,fun kd M5 kv H5 x5 r5 h5=>⟨β.add D,dQ,M5,_,A4.zr.step x5,h5,fun vd M6 vv H6 x6 r6 h6=>?_⟩⟩
   have A6:=(A4.step x5 (A4.zr.step x5)).step x6 ((A4.zr.step x5).step x6);obtain⟨hl,h6⟩:=h6;split at h6
   ·split at h6
    ·rename_i k tT;obtain⟨b,us,rfl,_,hb,ru⟩:=cE (r5.ex x6);rw[jA ru tT]at hb;have UM:(ks.zip acc).length<sizeLine :=by rw[GS,<- A6.hk,ID];exact hl
     have e4:putK (ks.zip acc) k vv=(putL ks k).zip (dR ks acc k vv):=qM A6.hk k vv;exact⟨_,.inr ⟨_,k,b,A6.at',rfl,hb,UM,rfl⟩,ds.length - (i+1),by omega,rfl,aN,dQ,M6,_,_,_,e4▸A6.put r6,h6⟩
    ·exact h6.elim
   ·exact h6.elim
 ·have e:i=ds.length :=by omega
  subst e;rw[No]at h;exact .inl ⟨q2.2 (cb _),q _ _ _ _ (x1.trans (A.own gQ.mz)) (.ptr (by rw[updM_same];rfl)) (h D A.m)⟩
variable {X:Cx}{tg k v iter:c8}{ifs:List c8}{scope:sB}{pos:u7}{N':List bi}
theorem Qw (hu:X.A.units+64<cLine) (hc:X.calm=true) (B:aD X.N X.env.scope scope N' tn idx) (hi:QI Γ X tg iter zi)
  (hg:Blk X N' scope fun Y=>QG Γ Y tg g) (ht:Blk X N' scope fun Y=>nE Γ Y ifs tt) (hk:Blk X N' scope fun Y=>QE Γ Y k tk) (hv:Blk X N' scope fun Y=>QE Γ Y v tv)
  (hs:∀x,foldedSetIterable iter X.env x=pure x :=by intro _;rfl):QE Γ X (.DictComp k v [⟨tg,iter,ifs,0⟩] scope pos) (zCompDT tn idx zi g tt tk tv):=
 (Au true (by omega) hc B hi hg ht hk hv hs).imp fun σ H Q h=>y8 h
theorem Av {i:Nat}{y:bi}{py eW:u7}(hu:X.A.units+64<cLine) (hN:X.N.Nodup) (cy:X.N[i]?=some y) (hy:X.env.scope.names.lookup y=some .local) (hc:X.calm=true) (B:aD X.N X.env.scope scope N' tn idx) (hi:QI Γ X tg iter zi)
  (hg:Blk X N' scope fun Y=>QG Γ Y tg g) (ht:Blk X N' scope fun Y=>nE Γ Y ifs tt) (hk:Blk X N' scope fun Y=>QE Γ Y k tk) (hv:Blk X N' scope fun Y=>QE Γ Y v tv)
  (nj:swapsWith (.DictComp k v [⟨tg,iter,ifs,0⟩] scope pos) (some (.Name y py)) eW.line X.env=pure true :=by rfl)
  (hs:∀x,foldedSetIterable iter X.env x=pure x :=by intro _;rfl):QS Γ X (.Assign [.Name y py] (.DictComp k v [⟨tg,iter,ifs,0⟩] scope pos) eW) (zAsg (zCompDT tn idx zi g tt tk tv) (zgName i)):=
 (Dh true (by omega) hN cy hy hc B hi hg ht hk hv nj hs).imp fun D σ H h=>tM (fun _ _ _ h=>y8 h) h
end
section
variable {X:Cx}{Γ:Gz}{K:ba}
def Jc (x:V) (H:Hp):Prop:=∃p,x=.ref p/\((∃aq,Rd H p (.dK aq))\/∃aq,Rd H p (.dT aq))
def Wd (r:V->List V->Hp->VK->Prop) (to:TE) (t:TA):TE:=fun σ H Q=>to σ H fun x H1=>Jc x H1/\t σ H1 fun xs H2=>r x xs H2 Q
theorem Mp {pins:List (ag×kw)}{σ:St}{H:Hp}{s:ar}{x:V}{v:al}(I:Inv X pins σ H s) (r:RelV x v) (ty:Jc x H):s.TypeIs v "dict" /\ ∀a,v=.ref a->∃ob,s.heap.get? a=some ob/\ob.dict=none :=by
 obtain⟨p,rfl,hk⟩:=ty;cases (show v=l6 p from r);rcases hk with ⟨aq,hk⟩|⟨aq,hk⟩
 ·obtain⟨_,_,_,_,o,_,_,e,ex,_⟩:=nW I.hok hk;exact⟨⟨o,e,ex.1⟩,fun a e2=>by cases e2;exact⟨o,e,ex.2.1⟩⟩
 ·obtain⟨_,_,_,_,o,_,_,e,ex,_⟩:=mJ I.hok hk;exact⟨⟨o,e,ex.1⟩,fun a e2=>by cases e2;exact⟨o,e,ex.2.1⟩⟩
variable {o e:c8}{es:List c8}{to:TE}{t:TA}{name:bi}{apos aX:u7}{id:String}{r:V->List V->Hp->VK->Prop}
theorem Qx (pa:WP "dict") (slot:abe "dict" name id) (lg:typeOf (.builtin id)=pure (.type "method_descriptor")) (hm:xB X id r) (ho:PE X o to) (ha:PA X (e::es) t)
  (fx:attributeBase o name X.env (eval o X.env)=eval o X.env :=by rfl)
  (nM:((backTo aX (starEach (e::es) X.env)).all (fun x => !x.1) && (backToKw aX (keywordEach [] X.env)).all (fun x=>x.1.isSome) && decide ((e::es).length+([]:List Po).length+(if ([]:List Po).isEmpty then 0 else 1)<30))=true :=by rfl)
  (hline:(apos.endLine==aX.line)=true :=by rfl) (hs:starEach (e::es) X.env=(false,eval e X.env)::starEach es X.env :=by rfl) (iW:(backTo aX (starEach es X.env)).any (·.1)=false :=by rfl) :
  PE X (.Call (.Attribute o name apos) (e::es) [] aX) (Wd r to t) :=by
 refine⟨?_⟩;intro pins s σ H Q I h;refine wpAny_Call_method_late fx nM hline rfl (thn (ho pins s σ H _ I h) fun v s1 ⟨x,H1,I1,r1,ty,q1⟩=>?_)
 obtain⟨h1,h2⟩:=Mp I1 r1 ty;refine⟨"dict",id,pa,slot,lg,h1,h2,?_⟩
 have hA:=ha aX pins s1 σ H1 _ I1 q1;rw[hs]at hA ⊢;refine Zz (by show (false || (backTo aX (starEach es X.env)).any (·.1))=false;rw[iW]<;>rfl) (ZS ?_)
 exact thn hA fun us s2 ⟨vs,H2,I2,r2,q2⟩=>hm pins s2 σ H2 x vs v us Q I2 r1 r2 q2
def tyD (M:Mh) (d:Dv):Prop:=match nowK M d with | .dk _ _=>True | .dt _ _=>True|_=>False
def zBMD (z:oO) (po:aM) (pa:eY):aM:=fun ρ M Q=>po ρ M fun d M1=>tyD M1 d/\pa ρ M1 fun ds M2=>z d ds M2 Q
theorem Qy {β:Bz}{M:Mh}{H:Hp}{x:V}{d:Dv}(m:Mz β M H) (r:Rz β M H x d) (h:tyD M d):Jc x H :=by
 unfold tyD at h;split at h
 ·rename_i ks ds hk;obtain⟨a,vs,rfl,ha,_⟩:=(qN m r).1 _ _ hk;exact⟨a,rfl,.inl ⟨_,ha⟩⟩
 ·rename_i ks ds hk;obtain⟨a,vs,rfl,ha,_⟩:=(qN m r).2 _ _ hk;exact⟨a,rfl,.inr ⟨_,ha⟩⟩
 ·exact h.elim
variable {po:aM}{pa:eY}{z:oO}
theorem Qz (pat:WP "dict") (slot:abe "dict" name id) (lg:typeOf (.builtin id)=pure (.type "method_descriptor")) (hm:rB Γ X "dict" id K z) (ho:QE Γ X o po) (ha:QA Γ X (e::es) pa) (fx:attributeBase o name X.env (eval o X.env)=eval o X.env :=by rfl)
  (nM:((backTo aX (starEach (e::es) X.env)).all (fun x => !x.1) && (backToKw aX (keywordEach [] X.env)).all (fun x=>x.1.isSome) && decide ((e::es).length+([]:List Po).length+(if ([]:List Po).isEmpty then 0 else 1)<30))=true :=by rfl)
  (hline:(apos.endLine==aX.line)=true :=by rfl) (hs:starEach (e::es) X.env=(false,eval e X.env)::starEach es X.env :=by rfl) (iW:(backTo aX (starEach es X.env)).any (·.1)=false :=by rfl) :
  QE Γ X (.Call (.Attribute o name apos) (e::es) [] aX) (zBMD z po pa) :=by
 obtain⟨r,h1,h2⟩:=hm;exact(Qx pat slot lg h1 ho ha fx nM hline hs iW).imp fun σ H Q ⟨β,ρ,M,Q',zr,h,q⟩=>⟨β,ρ,M,_,zr,h,fun d M1 v H1 x1 r1 ⟨ht,h1⟩=>⟨Qy x1.mz r1 ht,β,ρ,M1,_,zr.step x1,h1,fun ds M2 vs H2 x2 r2 h3=>
  h2 β v vs d ds M2 H2 _ _ zr.eP zr.ew zr.eK x2.mz (r1.ex x2) r2 h3 fun d' M' v' H' x3 r3 q3=>q _ _ _ _ (x1.trans (x2.trans x3)) r3 q3⟩⟩
end
section
variable {X:Cx}
def KA (K:ba):List V->Hp->VK->Prop:=fun xs H Q=>∃(p:ag) (bs:List Bool),xs=[.ref p]/\bL K H p (bs.map V.bl)/\Q (.bl (bs.any id)) H
theorem Gv (hc:X.calm=true):cK X (.builtin "any") (KA X.K) :=by
 intro pins s σ H xs us Q I r h;obtain⟨p,bs,rfl,hq,q⟩:=h;obtain⟨u,rfl,rx⟩:=vals1 r;cases rx;have hh:=I.ok.hd hc;obtain⟨its,rv,pl,hz⟩:=I.list hq;have hl:its.toArray.size=bs.length :=by rw[dL,<- rv.length,bv]
 have oI:s.heap.IsList p its.toArray:=pl.isList;have aN:p<s.heap.objs.size:=let ⟨o,ho,_⟩:=oI;gc ho;have at_:∀(i:Nat) (v:al),its.toArray[i]?=some v->v=.bool (bs.getD i false):=fun i v hv=>by
  have h':its[i]?=some v :=by simpa using hv
  have hi:i<its.length:=(ca.mp h').1;have cy:i<bs.length :=by rw[dL]at hl;omega
  obtain⟨u,e,q2⟩:=rv.get (i:=i) (x:=V.bl bs[i]) (by rw[ce,ap cy];rfl)
  rw[h']at e;cases e;rw[ci,ap cy];exact q2
 refine aap F.kind_any F.plain_any F.entry_any (F.args_any1 _) ?_;unfold ss.«any»;refine ac (m:=oneArg "any" _) (bn ?_)
 refine ac (UF oI ?_);have W:=Walks.list (prog:=X.prog) (w:=X.w) (A:=X.A.in1) (by simp[hh]) s.heap.objs.size p (jp aN) its.toArray
 refine bn ⟨Mn F.plain_any_loop _,codeAny_any_loop W (fun i=>bs.getD i false) ?_ its.toArray.size 0 _ rfl (mf _) ⟨⟨_,db _ rfl,rfl,rfl⟩,oI.push _⟩ fun h' tk hk=>?_⟩
 ·intro i v s' Q' E' hv tK;have:=at_ i v hv;subst this;exact AN tK
 ·have e:((ii its.toArray.size).drop 0).any (fun i=>bs.getD i false)=bs.any id :=by
   rw[List.drop_zero,hl];refine Op.mpr ?_;rw[Rs,Rs];constructor
   ·rintro⟨i,hi,hx⟩;rw[uu]at hi;rw[ci,ap hi]at hx;exact⟨_,tz hi,hx⟩
   ·rintro⟨b,hb,hx⟩;obtain⟨i,hi⟩:=List.getElem?_of_mem hb;have fX:=(ca.mp hi).1;refine⟨i,by rw[uu];exact fX,?_⟩
    rw[ci,hi];exact hx
  have I2:Inv X pins σ H {s with heap:=h',toks:=tk}:=I.kept fun b o eb=>hk b o (by simp only[io];exact jp (gc eb)) (br _ eb)
  refine⟨.bl (bs.any id),H,I2,?_,q⟩;show WI _=WI _;rw[e]
end
section
variable {X:Cx}{Γ:Gz}{K:ba}
theorem Dk {K:ba}(h:X.K=K) (hc:X.calm=true):cK X (.builtin "any") (KA K):=h▸Gv hc
def zAnyB (d:Dv) (M:Mh) (Q:ZK):Prop:=match d with | .lst ds=>(match boolsD ds with|some bs=>Q (.bl (bs.any id)) M|none=>False)|_=>False
theorem QB (hK:X.K=K) (hc:X.calm=true):eA Γ X (.builtin "any") (z1 zAnyB):=⟨_,Dk hK hc,fun β xs ds M H Q Q' _ _ _ m rs z q=>by
 unfold z1 at z;split at z
 ·obtain⟨x,rfl,r⟩:=cF rs;unfold zAnyB at z;split at z
  ·split at z
   ·rename_i bs PR;obtain⟨a,vs,rfl,f,ha,cw⟩:=dS r;have e:=pT PR;subst e;have:=pU cw;subst this;exact⟨a,bs,rfl,bL.of ha,q _ _ _ _ (.refl m) (.bl _) z⟩
   ·exact z.elim
  ·exact z.elim
 ·exact z.elim⟩
theorem QC:bootBuiltins "any" = some (.builtin "any"):=PyProof.Rows.boot_any
end
end L2
namespace L2
open PySem PySem.Spec PySem.W PyProof.Rows
section
variable {X:Cx}{Γ:Gz}{β:Bz}{K:ba}
theorem Zr.Mq {M:Mh}{ρ:aC}{σ:St}{H:Hp}{i:Nat}{a:ag}{ks:List (List Key)}{ds:List Dv}(z:Zr Γ β M ρ σ H) (hi:ρ[i]?=some (some (.ptr a))) (ha:M a=some (.dt ks ds)) (h0:Γ.M0 a=none) (fr:C3 Γ.M0 (bC M a) (ρ.set i (some (.dt ks ds)))) :
  Zr Γ β (bC M a) (ρ.set i (some (.dt ks ds))) σ H/\Ev β M H (bC M a) H :=by
 have rz:∀{v:V} {d:Dv},Rz β M H v d->Pin (bC M a) d->Rz β (bC M a) H v d:=fun r p=>r.n8 (M0:=bC M a) (fun b hb=>by
  by_cases e:b=a
  ·rw[e,b9]at hb;cases hb
  ·rw[bI e]at hb;exact hb) p
 have gP:i<ρ.length:=(ca.mp hi).1;have PU:∀d∈ds,Pin (bC M a) d:=fun d hd=>by
  have:=fr.env i (.dt ks ds) (by rw[TW gP])
  cases this with|dt h=>exact h d hd
 have obj:∀b es,bC M a b=some es->∀d∈es.items,Pin (bC M a) d:=fun b es e d hd=>by
  rcases fr.obj b es e with q|q
  ·refine(z.wf b es q d hd).mono fun c hc=>?_
   have nc:c≠a:=fun w=>by rw[w,h0]at hc;cases hc
   rw[bI nc];exact z.ent.dom c hc
  ·exact q d hd
 have mz:Mz β (bC M a) H :=by
  refine⟨fun b o e=>?_,z.mz.tabs,z.mz.hids,fun b o e=>?_,z.mz.lams⟩
  ·have nb:b≠a:=fun q=>by rw[q,b9]at e;cases e
   have e':M b=some o :=by rw[bI nb]at e;exact e
   have q:=z.mz.obj b o e';cases o with
   |lst es=>obtain⟨vs,hv,rs⟩:=q;exact⟨vs,hv,rs.len,fun j v d x y=>rz (rs.at' j v d x y) (obj b _ e d (cr y))⟩
   |dk ks es=>obtain⟨vs,hv,hk,rs⟩:=q;exact⟨vs,hv,hk,rs.len,fun j v d x y=>rz (rs.at' j v d x y) (obj b _ e d (cr y))⟩
   |dt ks es=>obtain⟨vs,hv,hk,rs⟩:=q;exact⟨vs,hv,hk,rs.len,fun j v d x y=>rz (rs.at' j v d x y) (obj b _ e d (cr y))⟩
   |cH=>exact q
  ·have nb:b≠a:=fun q=>by rw[q,b9]at e;cases e
   rw[bI nb]at e;exact z.mz.apart b o e
 refine⟨⟨z.eP,z.ew,z.eK,z.et,z.sub,z.wf,⟨z.ent.keep,fun b hb=>?_,fun b o m h=>?_⟩,mz,by simp[z.len],fun j d e=>?_⟩,⟨fun b o _ h=>.inl h,fun b o m h=>?_,mz⟩⟩
 ·have nb:b≠a:=fun q=>by rw[q,h0]at hb;cases hb
  rw[bI nb];exact z.ent.dom b hb
 ·by_cases e:b=a
  ·rw[e,b9]
  ·rw[bI e];exact z.ent.new b o m h
 ·have p:=fr.env j d e;rw[Zx]at e;split at e
  ·rename_i q;subst q;first
    |cases e
    |(rw[if_pos gP]at e;cases e)
   obtain⟨v,hv,r⟩:=z.at' i _ hi;obtain⟨rfl,_⟩:=bF r;obtain⟨vs,hl,hk,rs⟩:=z.mz.obj a _ ha;refine⟨_,hv,.dt ⟨b9,z.mz.apart a _ ha⟩ (.inl hl) hk rs.len fun k v d x y=>rz (rs.at' k v d x y) (PU d (cr y))⟩
  ·obtain⟨v,hv,r⟩:=z.at' j d e;exact⟨v,hv,rz r p⟩
 ·by_cases e:b=a
  ·rw[e,b9]
  ·rw[bI e];exact m
def S8 (i:Nat) (M0:Mh) (p:cN):cN:=fun D ρ M=>p D ρ M\/∃a ks ds,ρ[i]?=some (some (.ptr a))/\M a=some (.dt ks ds)/\M0 a=none/\C3 M0 (bC M a) (ρ.set i (some (.dt ks ds)))/\p D (ρ.set i (some (.dt ks ds))) (bC M a)
theorem Mr (i:Nat) {M1:Mh}{st:sw}{p:cN}(hM:Γ.M0=M1) (h:QS Γ X st p):QS Γ X st (S8 i M1 p):=h.imp fun D σ H ⟨β,ρ,M,D',zr,h,r⟩=>by
 rcases h with h|⟨a,ks,ds,hi,ha,h0,fr,h⟩
 ·exact⟨β,ρ,M,D',zr,h,r⟩
 ·obtain⟨z2,e2⟩:=zr.Mq hi ha (by rw[hM];exact h0) (by rw[hM];exact fr)
  exact⟨β,_,_,D',z2,h,r.step e2⟩
end
def zSortTP (d:Dv) (M:Mh) (Q:ZK):Prop:=match (itemsM M d).bind jN with|some rs=>rs.length<64/\(∀r∈rs,r≠[])/\∀a,M a=none->Q (.ptr a) (aw M a (.lst ((jM rs).map eI)))|none=>False
theorem Jd {Γ:Gz}{X:Cx}{K:ba}(hK:X.K=K):eA Γ X (.builtin "sorted") (z1 zSortTP):=⟨_,ua hK,fun β xs ds M H Q Q' eP ew _ m rs z q=>by
 unfold z1 at z;split at z
 ·rename_i d;obtain⟨x,rfl,r⟩:=cF rs;unfold zSortTP at z;split at z
  ·rename_i rows Dg;obtain⟨ds,e1,e2⟩:=SI.mp Dg;obtain⟨a,vs,rfl,ha,cw⟩:=fB m r e1;have:=si e2;subst this;have Gk:=cw.len;rw[bv]at Gk;refine⟨a,vs,rows,rfl,ha,uZ cw z.2.1,by rw[Gk];exact z.1,fun l is hl hi hs=>?_⟩
   have Yb:M l=none:=m.free hl;have rz:=sj cw is hi;rw[hs]at rz;have x2:=Ex.own m (p:=l) (.inr hl) rz;exact q _ _ _ _ x2 (.ptr (by rw[updM_same];rfl)) (z.2.2 l Yb)
  ·exact z.elim
 ·exact z.elim⟩
end L2
open PySem L2 PyProof.Rows
local macro_rules | `(tactic| simp! only[$xs,*] $[$l]?)=>`(tactic| simp only[zVar,zC,zOp,zII,zIC,zEq,zNe,scalZ,zIsN,isNonD,zSS,zTest,zBool,zChain,zAnd,zOr,zNot,zAndV,zNotV,zIfE,zNil,zCons,zTup,zLst,zLstP,zCB,z1,zLenD,z2I,zAbs,zList,zListP,zTuple,zSorted,zSet,intsM,itemsM,zIsInst,isD,zBM,tyZ,zAppend,zExtend,zPop,zPopAt,zSetI,zgSub,zNext,zSeq,zDrop,zRet,zIfS,zgName,zgNil,zgCons,zgTup,zAsg,zFor,zForM,zComp,zCompP,zAll,zSetC,zBlock,zCall,zRaise,zstart,zEndsOf,ziTup,ziLst,ziRng1,ziRng2,ziEnumK,ziZip,ziKeys,seqK,zIx,zRangeP,zTruth,truD,zNoIf,zAllB,zGetR,zDIn,zMGet,lookD,nowK,keyD,zDNewT,zDisp1K,zDisp1T,zDPut,zLenT,zCatLP,zClear,zIxS,boolsD,zSetDef,zSortT,zSortTP,zCallL,zBMD,tyD,zComp2,zlOne,zlNest,zCompDT,zAnyB,Zs,JJ,mo,ZT,KF,aaW,AL,Tk,List.replicate_succ,List.replicate_zero,aar,aas,aaV,Nat.reduceAdd,Nat.reduceSub,aaY,Mc,if_true,if_false,lw,ZE,aah,true_and,and_true,beq_self_eq_true,String.reduceBEq,zLoop,bv,YE,updM_same,updM_updM,EQ,Sm,wE,rangeD_len,pairsD_len,ID,atI_zero,decide_true,decide_false,Bool.not_eq_true,bne_self_eq_false,$xs,*] $[$l]?)
local macro_rules | `(tactic| dsimp! only[$xs,*] $[$l]?)=>`(tactic| simp only[zVar,zC,zOp,zII,zIC,zEq,zNe,scalZ,zIsN,isNonD,zSS,zTest,zBool,zChain,zAnd,zOr,zNot,zAndV,zNotV,zIfE,zNil,zCons,zTup,zLst,zLstP,zCB,z1,zLenD,z2I,zAbs,zList,zListP,zTuple,zSorted,zSet,intsM,itemsM,zIsInst,isD,zBM,tyZ,zAppend,zExtend,zPop,zPopAt,zSetI,zgSub,zNext,zSeq,zDrop,zRet,zIfS,zgName,zgNil,zgCons,zgTup,zAsg,zFor,zForM,zComp,zCompP,zAll,zSetC,zBlock,zCall,zRaise,zstart,zEndsOf,ziTup,ziLst,ziRng1,ziRng2,ziEnumK,ziZip,ziKeys,seqK,zIx,zRangeP,zTruth,truD,zNoIf,zAllB,zGetR,zDIn,zMGet,lookD,nowK,keyD,zDNewT,zDisp1K,zDisp1T,zDPut,zLenT,zCatLP,zClear,zIxS,boolsD,zSetDef,zSortT,zSortTP,zCallL,zBMD,tyD,zComp2,zlOne,zlNest,zCompDT,zAnyB,Zs,JJ,mo,ZT,KF,aaW,AL,Tk,List.replicate_succ,List.replicate_zero,aar,aas,aaV,Nat.reduceAdd,Nat.reduceSub,aaY,Mc,if_true,if_false,lw,ZE,aah,true_and,and_true,beq_self_eq_true,String.reduceBEq,bv,YE,updM_same,updM_updM,EQ,Sm,wE,rangeD_len,pairsD_len,ID,atI_zero,decide_true,decide_false,Bool.not_eq_true,bne_self_eq_false,$xs,*] $[$l]?)
namespace My
open PySem L2 PyProof.Rows
def top (i:Nat):sw:=PySem.Challenge.pw_roadcall_k26_pairs_led.main.body.getD i (.Pass ⟨0,0,0,0⟩)
abbrev eC:sw:=top 5
abbrev cD:sw:=top 6
abbrev lY:sw:=top 10
abbrev lZ:sw:=top 11
abbrev jh:sw:=top 12
abbrev kJ:sw:=top 13
abbrev jO:sw:=top 16
abbrev l0:sw:=top 18
abbrev mU:sw:=top 19
abbrev fc:sw:=top 20
abbrev aK:sw:=top 21
abbrev jP:sw:=top 23
abbrev fN:sw:=top 24
abbrev fO:sw:=top 25
abbrev kM:sw:=top 26
abbrev gE:sw:=top 27
abbrev fJ:sw:=top 28
abbrev di:sw:=top 29
abbrev kN:sw:=top 31
abbrev ib:sw:=top 32
abbrev gv:sw:=top 33
abbrev cQ:sw:=top 34
abbrev eQ:sw:=top 35
abbrev gz:sw:=top 36
abbrev fe:sw:=top 37
abbrev kO:sw:=top 38
abbrev d7:sw:=top 39
abbrev ji:sw:=top 40
abbrev xi:sw:=top 41
section
variable {P:ff}{w:im}{K:ba}{mg:bi->Option al}{base:hX}{tb:cf}{k:Nat}{f:ag}{fd:ln}{ps:List bi}
theorem eR:aS ["_law_script","_law_at","_law_cell","_law_mix","_law_k"] ["_law_script","_law_at"] (ai kN):=⟨rfl,rfl,rfl,by decide +kernel,rfl,by decide +kernel,by decide +kernel⟩
theorem fg:aS ["_law_bag_here","_law_many","_law_digit","_law_number","_law_room"] ["_law_bag_here","_law_many"] (ai ib):=⟨rfl,rfl,rfl,by decide +kernel,rfl,by decide +kernel,by decide +kernel⟩
theorem oR:aS ["_law_bag_here","_law_many","_law_free"] ["_law_bag_here","_law_many"] (ai gv):=⟨rfl,rfl,rfl,by decide +kernel,rfl,by decide +kernel,by decide +kernel⟩
theorem bE:aS ["_law_bag_here","_law_most","_law_many","_law_ways","_law_kind","_law_rows","_law_order_here","_law_period","_law_stays","_law_k","_law_place","_law_onward","_law_goals_here","_law_turns"] ["_law_bag_here","_law_most"] (ai cQ):=⟨rfl,rfl,rfl,by decide +kernel,rfl,by decide +kernel,by decide +kernel⟩
def QD:bP:=fun ds M Q _=>∃(ns:List Int) (t:Int),ds=[.bK ns,.int t]/\ns.length<=63/\0<=t/\t<=63/\∀b,M b=none->Q (.ptr b) (aw M b .cH)
def KC:bP:=fun ds M Q _=>∃(ns:List Int) (t:Int),ds=[.bK ns,.int t]/\ns.length<=63/\0<=t/\t<=63/\∀b c m,M b=none->0<=c->0<=m->Q (.ptr b) (aw M b (.lst [.int c,.int m]))
theorem Dl (D:Df K mg "_law_bag" kN ["_law_script","_law_at"] f fd) (bl:Bl mg):FnOk P w K mg base bh 1 f fd ["_law_script","_law_at"] (aU P w K tb KC) :=by
 refine dM D eR (fun ds M Q E hS=>by obtain⟨ns,t,e,_⟩:=hS;rw[e];rfl) fun A outer s E Γ ds Q' E' hP hw hK ht hr hS=>?_
 obtain⟨ns,t,e,hl,t0,t1,q⟩:=hS;refine⟨_,(aj (bb (i:=2) eR.nd rfl (ma rfl) aB)
  (aj (bN (bj nY (qv 1) (av (dr (K:=K) rfl hK) rfl bl.len_ u4 (aa (qv 0) af)) (a9 _))
   (au (bb (i:=2) eR.nd rfl (ma rfl) (av SR rfl bl.abs_ OC (aa (bU (Kt (K:=K) rfl hK) (qv 0) (qv 1) (fun _ _=>rfl)) af))))
   qss_nil)
  (aj (bb (i:=3) eR.nd rfl (ma rfl) (bB il (bB qF aB (qv 1)) aB))
  (aj (fI xp rfl (cu rfl bl.range_ (aa (av (yE rfl) rfl bl.min_ xU (aa (av (dr (K:=K) rfl hK) rfl bl.len_ u4 (aa (qv 0) af)) (aa aB af))) af)) (fun oS eP ew eK et=>by have hP:=hP.trans eP.symm;have hw:=hw.trans ew.symm;have hK:=hK.trans eK.symm;have ht:=ht.trans et.symm;exact⟨(aI (i:=4) eR.nd rfl (ma rfl)),(au (bb (i:=3) eR.nd rfl (ma rfl) (bB kG (bB il (bB il (bB qF (qv 3) aB) (bB kG (bU (Kt (K:=K) rfl hK) (qv 0) (qv 4) (fun _ _=>rfl)) aB)) (qv 4)) aB)))⟩))
  (aj (bN (bj nY (qv 2) (bB SQ aB aB) (a9 _))
   (au (bb (i:=2) eR.nd rfl (ma rfl) aB))
   qss_nil)
  (au (aO (nA (aa (qv 2) (aa (qv 3) af)))))))))),?_⟩
 subst e;refine S4 (fun ρ M=>M=Γ.M0/\∃c m x:Int,∃x4,0<=c/\0<=m/\ρ=[some (.bK ns),some (.int t),some (.int c),some (.int m),x4]) (fun N hN=>?_) ?_
 ·refine S3 (fun ρ M=>M=Γ.M0/\∃c:Int,0<=c/\ρ=[some (.bK ns),some (.int t),some (.int c),none,none]) (fun N hN=>?_) ?_
  ·simp! only[];refine eB (fun h=>?_) (fun _=>hN _ _ ⟨rfl,0,by omega,rfl⟩)
   have ht:t<(ns.length:Int):=of_decide_eq_true h;obtain⟨k,rfl⟩:=EU t0;rw[FN (show k<ns.length by omega)]
   exact hN _ _ ⟨rfl,_,by split<;>omega,rfl⟩
  rintro ρ M ⟨rfl,c,hc,rfl⟩;simp! only[];refine⟨.inl ⟨by decide,by decide⟩,by split<;>omega,by split<;>omega,?_⟩
  refine cV (fun i ρ M=>M=Γ.M0/\∃m:Int,∃x4,0<=m/\ρ=[some (.bK ns),some (.int t),some (.int c),some (.int m),x4]) ⟨rfl,_,_,by omega,rfl⟩ (fun i d ρ M N2 hd hJ p0=>?_) (fun ρ M hJ=>?_)
  ·obtain⟨rfl,m,x4,hm,rfl⟩:=hJ;obtain⟨rfl,hi⟩:=dC hd;have hi:i<ns.length :=by split at hi<;>omega
   simp! only[FN hi];exact⟨.inr ⟨by decide,by decide⟩,by decide,by decide,p0 _ _ ⟨rfl,_,_,Z5 _ (by decide),rfl⟩⟩
  ·obtain⟨rfl,m,x4,hm,rfl⟩:=hJ;exact hN _ _ ⟨rfl,c,m,0,x4,hc,hm,rfl⟩
 ·rintro ρ M ⟨rfl,c,m,x,x4,hc,hm,rfl⟩;simp! only[];exact⟨⟨by decide,by decide,by decide⟩,eB (fun _=>⟨by decide,fun a ha=>.inl (q a 0 m ha (by omega) hm)⟩) (fun _=>⟨by decide,fun a ha=>.inl (q a c m ha hc hm)⟩)⟩
theorem S9 (G:FnOk P w K mg base bh k f fd ps (aU P w K tb KC)):FnOk P w K mg base bh k f fd ps (aU P w K tb QD):=G.imp fun vs H Q E hS=>by
 obtain⟨β,ds,M,Q',E',eP,ew,eK,et,m,rs,⟨ns,t,e,h1,h2,h3,h⟩,q,qe⟩:=hS;refine⟨β,ds,M,fun d M'=>∃b c m,d=.ptr b/\M b=none/\0<=c/\0<=m/\M'=aw M b (.lst [.int c,.int m]),fun _ _=>False,eP,ew,eK,et,m,rs,⟨ns,t,e,h1,h2,h3,fun b c m h4 h5 h6=>⟨b,c,m,rfl,h4,h5,h6,rfl⟩⟩,fun d M' v H' x r hQ=>?_,fun _ _ _ _ h=>h.elim⟩
 obtain⟨b,c,m',rfl,hb,hc,hm,rfl⟩:=hQ;have hB:=Gb x.mz hc hm;exact q _ _ _ _ (Ex.sealed hb x hB) (r.dom (kW M b _ _)) (h b hb)
def ue:bP:=fun ds M Q _=>∃(b:ag) (n:Int),ds=[.ptr b,.int n]/\M b=some .cH/\1<=n/\n<1073741824/\∀d:Nat,(d:Int)<n->Q (.int (d:Nat)) M
def Gw:bP:=fun ds M Q _=>∃(b:ag) (n c m:Int),ds=[.ptr b,.int n]/\M b=some (.lst [.int c,.int m])/\0<=c/\0<=m/\1<=n/\n<1073741824/\∀(d:Nat) (c m:Int),(d:Int)<n->0<=c->0<=m->Q (.int (d:Nat)) (aw M b (.lst [.int c,.int m]))
theorem Aw (D:Df K mg "_law_take" ib ["_law_bag_here","_law_many"] f fd):FnOk P w K mg base bh 1 f fd ["_law_bag_here","_law_many"] (aU P w K tb Gw) :=by
 refine dM D fg (fun ds M Q E hS=>by obtain⟨b,n,c,m,e,_⟩:=hS;rw[e];rfl) fun A outer s E Γ ds Q' E' hP hw hK ht hr hS=>?_
 obtain⟨b,n,c,m,e,hb,hc,hm,n1,n2,q⟩:=hS;refine⟨_,(aj (bN (bj Pw (bU (dB (K:=K) rfl) (qv 0) aB (fun _ _=>rfl)) aB (a9 _))
   (aj (bb (i:=2) fg.nd rfl (ma rfl) (bB kG (bU (dB (K:=K) rfl) (qv 0) aB (fun _ _=>rfl)) (qv 1)))
  (aj (nB (bB FD (bU (dB (K:=K) rfl) (qv 0) aB (fun _ _=>rfl)) (qv 1)) (nF (qv 0) aB))
  (au (aO (qv 2)))))
   qss_nil)
  (aj (bb (i:=3) fg.nd rfl (ma rfl) aB)
  (aj (bb (i:=4) fg.nd rfl (ma rfl) aB)
  (aj (nX xp (bj nY (qv 4) (qv 1) (a9 _))
   (aj (nB (bB kG (bB il (bB qF (bU (dB (K:=K) rfl) (qv 0) aB (fun _ _=>rfl)) aB) aB) aB) (nF (qv 0) aB))
  (aj (bb (i:=3) fg.nd rfl (ma rfl) (bB il (bB qF (qv 3) aB) (bB kG (bB qF (bB FD (bU (dB (K:=K) rfl) (qv 0) aB (fun _ _=>rfl)) aB) aB) aB)))
  (au (bb (i:=4) fg.nd rfl (ma rfl) (bB qF (qv 4) aB))))))
  (au (aO (bB kG (qv 3) (qv 1)))))))),?_⟩
 subst e;have Yc:∀x y:Int,dF [Dv.int x,Dv.int y] 1=some (.int y):=fun x y=>eh (j:=1) rfl
 have Yd:jU 2 0=some 0:=rfl;have Ye:jU 2 1=some 1:=rfl;have fin:∀{i c m:Int} {M:Mh},0<=c->0<=m->M=aw Γ.M0 b (.lst [.int c,.int m])->jw Γ.M0 Q' (.int (i % n)) M:=fun {i c m M} hc hm e=>by
  obtain⟨d,hd⟩:=EU (Z5 i (show n≠0 by omega))
  have:=Int.emod_lt_of_pos i (show 0<n by omega)
  rw[hd,e];exact .inl (q d c m (by omega) hc hm)
 simp! only[hb,Yd];refine eB (fun h=>?_) (fun h=>?_)
 ·refine⟨by omega,⟨by omega,n2⟩,fin (Int.ediv_nonneg hc (by omega)) hm rfl⟩
 ·refine⟨fun k ρ M=>∃num room c m x2,0<=num/\1<=room/\0<=c/\0<=m/\k=(n - room).toNat/\ρ=[some (.ptr b),some (.int n),x2,some (.int num),some (.int room)]/\M=aw Γ.M0 b (.lst [.int c,.int m]),⟨_,0,1,c,m,_,by omega,by omega,hc,hm,rfl,rfl,(BC hb).symm⟩,?_⟩
  rintro k ρ M ⟨num,room,c,m,x2,h1,h2,hc,hm,rfl,rfl,rfl⟩;simp! only[Yc,Ye,updM_same];refine eB (fun h=>?_) (fun h=>⟨by omega,fin hc hm rfl⟩)
  have h:=of_decide_eq_true h;have m3:0<=(m * 48271+7919) % 2147483647:=Z5 _ (by decide)
  have n3:0<=(m * 48271+7919) % 2147483647 / 8 * 69621 % 1073741789:=Z5 _ (by decide)
  refine⟨.inr ⟨by decide,by decide⟩,by decide,.inr ⟨by decide,by decide⟩,⟨by decide,by decide⟩,.inr ⟨by decide,by decide⟩,by decide,.inr ⟨by decide,by decide⟩,_,?_,_,_,c,_,_,?_,?_,hc,m3,rfl,rfl,rfl⟩<;>omega
theorem QF (G:FnOk P w K mg base bh k f fd ps (aU P w K tb Gw)):FnOk P w K mg base bh k f fd ps (aU P w K tb ue):=G.imp fun vs H Q E hS=>by
 obtain⟨β,ds,M,Q',E',eP,ew,eK,et,m,rs,⟨b,n,e,hb,h1,h2,h⟩,q,qe⟩:=hS;have eM:=BC hb;have d1:∀o a,(M a).isSome=(aw M b o a).isSome:=fun o a=>by have:=kW M b .cH o a;rwa [eM]at this
 rw[<- eM]at m;obtain⟨c,m0,hc,hm,hO⟩:=Qn m;refine⟨β,ds,aw M b (.lst [.int c,.int m0]),fun d M'=>∃(k:Nat) (c' m':Int),d=.int (k:Nat)/\(k:Int)<n/\0<=c'/\0<=m'/\M'=aw M b (.lst [.int c',.int m']),fun _ _=>False,eP,ew,eK,et,m.chg hO,⟨rs.len,fun i v d x y=>(rs.at' i v d x y).dom (d1 _)⟩,⟨b,n,c,m0,e,updM_same,hc,hm,h1,h2,fun d c' m' h3 h4 h5=>⟨d,c',m',rfl,h3,h4,h5,updM_updM⟩⟩,fun d M' v H' x r hQ=>?_,fun _ _ _ _ h=>h.elim⟩
 obtain⟨k,c',m',rfl,hk,JL,xP,rfl⟩:=hQ;have hB:=Gb x.mz JL xP;have x2:=Ex.chg (o2:=.cH) x hB;rw[eM]at x2;exact q _ _ _ _ x2 (r.dom fun a=>(d1 _ a).symm) (h k hk)
theorem wq {α β:Type}(f:α->β):∀(l:List α) (i:Nat),(l.map f).eraseIdx i=(l.eraseIdx i).map f
 | [],_=>rfl
 |_::_,0=>rfl
 |a::l,i+1=>by
          show f a::(l.map f).eraseIdx i=f a::(l.eraseIdx i).map f;rw[wq f l i]
theorem gB {α:Type}:∀(l:List α) (i:Nat) (h:i<l.length),(l[i]::l.eraseIdx i).Perm l
 |a::l,0,_=>.refl _
 |a::l,i+1,h=>by
          have h':i<l.length :=by simpa using h
          show (l[i]::a::l.eraseIdx i).Perm (a::l);exact(SZ.swap a l[i] _).trans ((gB l i h').cons a)
structure fP (n:Nat) (os:List Int):Prop where
 perm:os.Perm ((ii n).map fun i:Nat=>(i:Int))
theorem fP.len {n:Nat}{os:List Int}(h:fP n os):os.length=n :=by
 have:=h.perm.length_eq;simpa using this
theorem fP.mem {n:Nat}{os:List Int}(h:fP n os) {x:Int}(hx:x∈os):0<=x/\x<n :=by
 have:=h.perm.mem_iff.mp hx;obtain⟨i,hi,rfl⟩:=kt.mp this;have:=uu.mp hi;omega
theorem fP.at {n:Nat}{os:List Int}(h:fP n os) {i:Nat}(hi:i<n):∃x:Int,dF (os.map Dv.int) (i:Int)=some (.int x)/\0<=x/\x<n :=by
 have hl:i<os.length :=by rw[h.len];exact hi
 exact⟨os[i],eh (by rw[ce,ap hl];rfl),h.mem (tz hl)⟩
def Gx:bP:=fun ds M Q _=>∃(b:ag) (n:Nat),ds=[.ptr b,.int (n:Nat)]/\M b=some .cH/\n<=100/\∀os,fP n os->Q (mO os) M
def KD:bP:=fun ds M Q _=>∃(b:ag) (most:Nat),ds=[.ptr b,.int (most:Nat)]/\M b=some .cH/\1<=most/\most<=9/\∀ae n,bM ae n->ae.length<=most->Q (eN ae) M
theorem Ms {n d:Nat}(h:d<n):seqIndex? (d:Int) n=some d:=(uz (n:=n) (i:=(d:Int)) (j:=d) (by unfold jU;rw[if_pos (by omega),if_pos (by omega)];rfl)).1
theorem y9 {f1:ag}{bT:ln}(D:Df K mg "_law_order" gv ["_law_bag_here","_law_many"] f fd)
  (aA:Df K mg "_law_take" ib ["_law_bag_here","_law_many"] f1 bT) (bY:FnOk P w K mg base bh 1 f1 bT ["_law_bag_here","_law_many"] (aU P w K tb ue)) (bl:Bl mg):FnOk P w K mg base bh 2 f fd ["_law_bag_here","_law_many"] (aU P w K tb Gx) :=by
 refine dM D oR (fun ds M Q E hS=>by obtain⟨b,n,e,_⟩:=hS;rw[e];rfl) fun A outer s E Γ ds Q' E' hP hw hK ht hr hS=>?_
 obtain⟨b,n,e,hb,hn,q⟩:=hS;refine⟨_,(aj (bb (i:=2) oR.nd rfl (GE rfl) (wJ rfl rfl bl.list_ rfl bl.range_ (qv 1)))
  (au (aO (cz (N':=["_law_k","_law_free","_law_bag_here","_law_many"]) (tn:=1) (idx:=[2,0,1]) rfl (show aD ["_law_bag_here","_law_many","_law_free"] (ai gv) _ ["_law_k","_law_free","_law_bag_here","_law_many"] 1 [2,0,1] from by decide +kernel) (cu rfl bl.range_ (aa (qv 1) af)) (fun _ _ _ _ _=>(aI (i:=0) (show ut [("_law_k" : bi),("_law_free" : bi),("_law_bag_here" : bi),("_law_many" : bi)] from by decide +kernel) rfl (ma rfl))) (fun _ _ _ _ _=>bG) (fun _ _ _ _ _=>(mM (K:=K) rfl zn ZP ZQ Bo (qv 1) (aa (aG bY (hr.mono (by decide)) rfl aA.mg aA.fn.kp aA.bd bf hP hw hK ht XR.none (aa (qv 2) (aa (bB SN (qv 3) (qv 0)) af))) af))))))),?_⟩
 subst e;simp! only[];refine⟨by omega,by omega,fun a ha=>⟨by omega,by omega,?_⟩⟩
 have UN:b≠a:=fun z=>by rw[z,ha]at hb;cases hb
 refine⟨Co hn (by decide),iy (acc:=[]) (fun acc τ M=>∃rest got:List Int,acc=got.map Dv.int/\(∃x,τ=[x,some (.ptr a),some (.ptr b),some (.int (n:Nat))])/\M a=some (.lst (rest.map .int))/\(∀c,c≠a->M c=Γ.M0 c)/\(got++rest).Perm ((ii n).map fun i:Nat=>(i:Int))) ⟨(ii n).map fun i:Nat=>(i:Int),[],rfl,⟨_,rfl⟩,by rw[updM_same,lF,xy];rfl,fun c hc=>ao hc,.refl _⟩ (fun i d acc τ M hd hl ⟨rest,got,e1,⟨x,e2⟩,h1,h2,h3⟩ R hR=>?_) (fun ys τ M hl ⟨rest,got,e1,⟨x,e2⟩,h1,h2,h3⟩=>?_)⟩
 ·subst e1 e2;obtain⟨rfl,hi⟩:=dC hd;have hlen:got.length+rest.length=n :=by have:=h3.length_eq;simpa using this
  have hl:got.length=i :=by simpa using hl
  simp! only[];refine⟨by rw[h1];trivial,b,_,rfl,(by rw[h2 b UN];exact hb),by omega,by omega,fun d hd=>?_⟩
  have vQ:d<rest.length :=by omega
  simp only[h1,bv,Ms vQ,ce,ap vQ,BY];refine⟨by omega,by omega,hR _ _ _ ⟨rest.eraseIdx d,got++[rest[d]],by rw[mv];rfl,⟨_,rfl⟩,by rw[updM_same,wq],fun c hc=>by rw[ao hc];exact h2 c hc,?_⟩⟩
  refine SZ.trans ?_ h3;rw[FM];exact SZ.append_left got (gB rest d vQ)
 ·simp only[KF]at e1;subst e1;have hlen:got.length+rest.length=n :=by have:=h3.length_eq;simpa using this
  have hl:got.length=n :=by simpa[rangeD_len] using hl
  have Gy:rest=[]:=Ix (by omega)
  rw[Gy,EQ]at h3;exact pR (fun c o e=>by rw[h2 c (fun z=>by rw[z,ha]at e;cases e)];exact e) (.lst (jy _)) (q got ⟨h3⟩)
end
section
variable {P:ff}{w:im}{K:ba}{mg:bi->Option al}{base:hX}{tb:cf}
def gF (n ways:Nat) (row:List Int):Prop:=row.length=ways/\∀x∈row,0<=x/\x<(n:Int)
structure dH (M0 M:Mh) (r:ag) (as:List ag) (n ways:Nat):Prop where
 kp:Keeps M0 M
 r0:M0 r=none
 rm:M r=some (.lst (as.map .ptr))
 fr:∀a∈as,M0 a=none/\a≠r
 len:as.length=n
 row:∀a∈as,∃row:List Int,M a=some (.lst (row.map .int))/\gF n ways row
 pin:∀b o,M b=some o->M0 b=some o\/b=r\/(∃row:List Int,o=.lst (row.map .int))\/∃bs:List ag,o=.lst (bs.map .ptr)/\∀c∈bs,c≠r/\∃o,M c=some o
theorem dH.ye {M0 M:Mh}{r:ag}{as:List ag}{n ways:Nat}(h:dH M0 M r as n ways) {a:ag}(ha:a∈as) {row:List Int}(o:gF n ways row):dH M0 (aw M a (.lst (row.map .int))) r as n ways :=by
 obtain⟨f0,f1⟩:=h.fr a ha;refine⟨.upd f0 h.kp,h.r0,by rw[ao (ze f1)];exact h.rm,h.fr,h.len,fun c hc=>?_,fun b u e=>?_⟩
 ·by_cases z:c=a
  ·subst z;exact⟨row,updM_same,o⟩
  ·rw[ao z];exact h.row c hc
 ·by_cases z:b=a
  ·subst z;rw[updM_same]at e;cases e;exact .inr (.inr (.inl ⟨row,rfl⟩))
  ·rw[ao z]at e;rcases h.pin b u e with q|q|q|⟨bs,q1,q2⟩
   ·exact .inl q
   ·exact .inr (.inl q)
   ·exact .inr (.inr (.inl q))
   ·refine .inr (.inr (.inr ⟨bs,q1,fun c hc=>⟨(q2 c hc).1,?_⟩⟩))
    by_cases z:c=a
    ·subst z;exact⟨_,updM_same⟩
    ·rw[ao z];exact(q2 c hc).2
theorem dH.put {M0 M:Mh}{r:ag}{as:List ag}{n ways:Nat}(h:dH M0 M r as n ways) {a:ag}(ha:M a=none) {row:List Int}(o:gF n ways row) {i:Nat}(hi:i<n):dH M0 (aw (aw M a (.lst (row.map .int))) r (.lst ((as.map .ptr).set i (.ptr a)))) r (as.set i a) n ways :=by
 have nr:a≠r:=fun z=>by rw[z,h.rm]at ha;cases ha
 have a0:M0 a=none :=by
  cases e:M0 a with
  |none=>rfl
  |some u=>rw[h.kp a u e]at ha;cases ha
 have Yf:a ∉ as:=fun z=>by obtain⟨row,e,_⟩:=h.row a z;rw[ha]at e;cases e
 refine⟨.upd h.r0 (.upd a0 h.kp),h.r0,by rw[updM_same,List.map_set],fun c hc=>?_,by rw[YE];exact h.len,fun c hc=>?_,fun b u e=>?_⟩
 ·rcases YU hc with z|z
  ·exact h.fr c z
  ·rw[z];exact⟨a0,nr⟩
 ·rcases YU hc with z|z
  ·have n1:=(h.fr c z).2;have n2:c≠a:=fun e=>Yf (e▸z)
   rw[ao n1,ao n2];exact h.row c z
  ·rw[z,ao nr,updM_same];exact⟨row,rfl,o⟩
 ·by_cases z:b=r
  ·exact .inr (.inl z)
  ·rw[ao z]at e;by_cases z2:b=a
   ·subst z2;rw[updM_same]at e;cases e;exact .inr (.inr (.inl ⟨row,rfl⟩))
   ·rw[ao z2]at e;rcases h.pin b u e with q|q|q|⟨bs,q1,q2⟩
    ·exact .inl q
    ·exact .inr (.inl q)
    ·exact .inr (.inr (.inl q))
    ·refine .inr (.inr (.inr ⟨bs,q1,fun c hc=>⟨(q2 c hc).1,?_⟩⟩))
     rw[ao (q2 c hc).1];by_cases z:c=a
     ·subst z;exact⟨_,updM_same⟩
     ·rw[ao z];exact(q2 c hc).2
structure md (M0 M:Mh):Prop where
 kp:Keeps M0 M
 pin:∀b o,M b=some o->M0 b=some o\/(∃row:List Int,o=.lst (row.map .int))\/∃bs:List ag,o=.lst (bs.map .ptr)/\∀c∈bs,∃o,M c=some o
theorem md.refl {M0:Mh}:md M0 M0:=⟨.refl,fun b o e=>.inl e⟩
theorem kQ {M0 M:Mh}(h:Keeps M0 M) {a:ag}(ha:M a=none):M0 a=none :=by
 cases e:M0 a with
 |none=>rfl
 |some u=>rw[h a u e]at ha;cases ha
theorem md.row {M0 M:Mh}(h:md M0 M) {a:ag}(ha:M a=none) (row:List Int):md M0 (aw M a (.lst (row.map .int))) :=by
 refine⟨.upd (kQ h.kp ha) h.kp,fun b o e=>?_⟩
 by_cases z:b=a
 ·subst z;rw[updM_same]at e;cases e;exact .inr (.inl ⟨row,rfl⟩)
 ·rw[ao z]at e;rcases h.pin b o e with q|q|⟨bs,q1,q2⟩
  ·exact .inl q
  ·exact .inr (.inl q)
  ·refine .inr (.inr ⟨bs,q1,fun c hc=>?_⟩)
   by_cases z:c=a
   ·subst z;exact⟨_,updM_same⟩
   ·rw[ao z];exact q2 c hc
theorem dH.own {M0 M:Mh}{r:ag}{as:List ag}{n ways:Nat}(h:dH M0 M r as n ways):md M0 M:=⟨h.kp,fun b o e=>by
 rcases h.pin b o e with q|q|q|⟨bs,q1,q2⟩
 ·exact .inl q
 ·subst q;rw[h.rm]at e;cases e;exact .inr (.inr ⟨as,rfl,fun c hc=>let ⟨row,e,_⟩:=h.row c hc;⟨_,e⟩⟩)
 ·exact .inr (.inl q)
 ·exact .inr (.inr ⟨bs,q1,fun c hc=>(q2 c hc).2⟩)⟩
theorem dH.mk' {M0 M:Mh}{r:ag}{as:List ag}{n ways:Nat}(h:md M0 M) (hr:M r=none) (hl:as.length=n) (ha:∀a∈as,M0 a=none/\∃row:List Int,M a=some (.lst (row.map .int))/\gF n ways row):dH M0 (aw M r (.lst (as.map .ptr))) r as n ways :=by
 have ne:∀{c o},M c=some o->c≠r:=fun e z=>by rw[z,hr]at e;cases e
 refine⟨.upd (kQ h.kp hr) h.kp,kQ h.kp hr,updM_same,fun a h=>?_,hl,fun a h=>?_,fun b o e=>?_⟩
 ·obtain⟨h0,row,e,_⟩:=ha a h;exact⟨h0,ne e⟩
 ·obtain⟨h0,row,e,o⟩:=ha a h;exact⟨row,by rw[ao (ne e)];exact e,o⟩
 ·by_cases z:b=r
  ·exact .inr (.inl z)
  ·rw[ao z]at e;rcases h.pin b o e with q|q|⟨bs,q1,q2⟩
   ·exact .inl q
   ·exact .inr (.inr (.inl q))
   ·refine .inr (.inr (.inr ⟨bs,q1,fun c hc=>?_⟩))
    obtain⟨u,e⟩:=q2 c hc;exact⟨ne e,u,by rw[ao (ne e)];exact e⟩
theorem xj {g:bS}{te:aM}{n:Nat}{M1:Mh}(T:aC->Prop) {ds:List Dv}{τ:aC}{Q:List Dv->Mh->Prop}(h0:T τ) (h:∀d∈ds,∀τ,T τ->∀R:aC->ZK,(∀(x:Int) az,0<=x->x<(n:Int)->T az->R az (.int x) M1)->g d τ M1 fun az M2=>te az M2 (R az)) (q:∀row:List Int,row.length=ds.length->(∀x∈row,0<=x/\x<(n:Int))->Q (row.map .int) M1):iw g zNoIf te ds τ M1 Q :=by
 refine iy (acc:=[]) (fun acc τ M=>∃row:List Int,acc=row.map Dv.int/\(∀x∈row,0<=x/\x<(n:Int))/\T τ/\M=M1) ⟨[],rfl,(fun _ h=>nomatch h),h0,rfl⟩ (fun i d acc τ M hd _ ⟨row,e1,hr,ht,e2⟩ R hR=>?_) (fun ys τ M hl ⟨row,e1,hr,ht,e2⟩=>?_)
 ·subst e1 e2;refine h d (cr hd) τ ht R fun x az x0 x1 t2=>hR _ _ _ ⟨row++[x],by rw[mv];rfl,fun y hy=>?_,t2,rfl⟩
  rcases rf.mp hy with z|z
  ·exact hr y z
  ·rw[io]at z;rw[z];exact⟨x0,x1⟩
 ·rw[KF]at e1;subst e1 e2;exact q row (by simpa using hl) hr
def fh (x:Option Dv):Prop:=∀M d,x=some d->Pin M d
theorem fh.none:fh none:=fun _ _ h=>nomatch h
theorem fh.int (i:Int):fh (some (.int i)):=fun _ _ h=>by cases h;exact .int i
theorem fh.lI (ns:List Int):fh (some (mO ns)):=fun _ _ h=>by cases h;exact .lst (jy ns)
theorem wt {M0 M:Mh}{as:List ag}{n ways:Nat}{T:Prop}(hO:md M0 M) (ha:∀a∈as,M0 a=none/\∃row:List Int,M a=some (.lst (row.map .int))/\gF n ways row) {a:ag}(h:M a=none) {row:List Int}(o:gF n ways row) (t:T) :
  ∃UO:List ag,as.map Dv.ptr++[Dv.ptr a]=UO.map Dv.ptr/\T/\md M0 (aw M a (.lst (row.map .int)))/\∀c∈UO,M0 c=none/\∃Dm:List Int,aw M a (.lst (row.map .int)) c=some (.lst (Dm.map .int))/\gF n ways Dm :=by
 refine⟨as++[a],by rw[mv];rfl,t,hO.row h row,fun c hc=>?_⟩
 rcases rf.mp hc with z|z
 ·obtain⟨h0,Dm,e,o'⟩:=ha c z;have ne:c≠a:=fun q=>by rw[q,h]at e;cases e
  exact⟨h0,Dm,by rw[ao ne];exact e,o'⟩
 ·rw[io]at z;subst z;exact⟨kQ hO.kp h,row,updM_same,o⟩
theorem qT {n d:Nat}(h:d<n):jU n (d:Int)=some d :=by unfold jU;rw[if_pos (by omega),if_pos (by omega)];rfl
theorem zb (row:List Int) (t:Nat) (x:Int):(row.map Dv.int).set t (.int x)=(row.set t x).map Dv.int :=by rw[List.map_set]
theorem gF.set {n ways:Nat}{row:List Int}(h:gF n ways row) {t:Nat}{x:Int}(x0:0<=x) (x1:x<(n:Int)):gF n ways (row.set t x):=⟨by rw[YE];exact h.1,fun y hy=>by
 rcases YU hy with z|z
 ·exact h.2 y z
 ·rw[z];exact⟨x0,x1⟩⟩
def uf (os:List Int):Dv->Int | .int j=>os.getD j.toNat 0|_=>0
theorem zf {os:List Int}{j:Nat}{x:Int}(h:dF (os.map Dv.int) (j:Int)=some (.int x)):uf os (.int (j:Nat))=x :=by
 by_cases hj:j<os.length
 ·rw[eh (j:=j) (v:=Dv.int os[j]) (by rw[ce,ap hj];rfl)]at h
  cases h;show os.getD (Int.toNat (j:Int)) 0=_;rw[wE,ci,ap hj];rfl
 ·unfold dF jU at h;rw[if_pos (by omega),if_neg (by simp;omega)]at h
  cases h
def Je (per i:Nat):Dv->Bool | .int j=>decide (j % (per:Int)=((i:Int)+1) % (per:Int))|_=>false
theorem Jf {n per i:Nat}{os:List Int}(p8:fP n os) (p1:1<=per) (pn:per<=n):∃gs:List Int,((cP 0 n).filter (Je per i)).map (fun d=>Dv.int (uf os d))=gs.map Dv.int/\1<=gs.length/\gs.length<=n/\∀x∈gs,0<=x/\x<(n:Int) :=by
 refine⟨((cP 0 n).filter (Je per i)).map (uf os),by rw[xy];rfl,?_,?_,fun x hx=>?_⟩
 ·rw[bv];refine List.length_pos_of_mem (a:=Dv.int (((i+1) % per:Nat):Int)) (EN.mpr ⟨?_,?_⟩)
  ·have:(i+1) % per<per:=abg _ (by omega)
   exact cr (i:=(i+1) % per) (by rw[cP,ce,Gc (by omega)];simp)
  ·show decide _=true;rw[decide_eq_true_eq];push_cast
   exact Int.emod_emod_of_dvd _ (Int.dvd_refl _)
 ·rw[bv];exact qr (WA _ _) (by rw[rangeD_len];exact cb _)
 ·obtain⟨d,hd,rfl⟩:=kt.mp hx;obtain⟨j,hj,rfl⟩:=tS (EN.mp hd).1;rw[Sm];obtain⟨gx,mV,g0,g1⟩:=p8.at hj;rw[zf mV];exact⟨g0,g1⟩
theorem Dn {f f1 f2:ag}{fd bT fd2:ln}(D:Df K mg "_law_net" cQ ["_law_bag_here","_law_most"] f fd)
  (aA:Df K mg "_law_take" ib ["_law_bag_here","_law_many"] f1 bT) (bY:FnOk P w K mg base bh 1 f1 bT ["_law_bag_here","_law_many"] (aU P w K tb ue))
  (cR:Df K mg "_law_order" gv ["_law_bag_here","_law_many"] f2 fd2) (qa:FnOk P w K mg base bh 2 f2 fd2 ["_law_bag_here","_law_many"] (aU P w K tb Gx)) (bl:Bl mg):FnOk P w K mg base bh 3 f fd ["_law_bag_here","_law_most"] (aU P w K tb KD) :=by
 refine dM D bE (fun ds M Q E hS=>by obtain⟨b,n,e,_⟩:=hS;rw[e];rfl) fun A outer s E Γ ds Q' E' hP hw hK ht hr hS=>?_
 obtain⟨b,most,e,hb,h1,h9,q⟩:=hS;refine⟨_,(aj (bb (i:=2) bE.nd rfl (GE rfl) (bB il aB (aG bY (hr.mono (by decide)) rfl aA.mg aA.fn.kp aA.bd bf hP hw hK ht XR.none (aa (qv 0) (aa (qv 1) af)))))
  (aj (bb (i:=3) bE.nd rfl (GE rfl) (bB il aB (aG bY (hr.mono (by decide)) rfl aA.mg aA.fn.kp aA.bd bf hP hw hK ht XR.none (aa (qv 0) (aa aB af)))))
  (aj (bb (i:=4) bE.nd rfl (ma rfl) (aG bY (hr.mono (by decide)) rfl aA.mg aA.fn.kp aA.bd bf hP hw hK ht XR.none (aa (qv 0) (aa aB af))))
  (aj (Ap (i:=5) bE.nd rfl rfl (N':=["_law_place","_law_bag_here","_law_many","_law_ways"]) (tn:=1) (idx:=[0,2,3]) rfl (show aD ["_law_bag_here","_law_most","_law_many","_law_ways","_law_kind","_law_rows","_law_order_here","_law_period","_law_stays","_law_k","_law_place","_law_onward","_law_goals_here","_law_turns"] (ai cQ) _ ["_law_place","_law_bag_here","_law_many","_law_ways"] 1 [0,2,3] from by decide +kernel) (cu rfl bl.range_ (aa (qv 2) af)) (fun _ _ _ _ _=>(aI (i:=0) (show ut [("_law_place" : bi),("_law_bag_here" : bi),("_law_many" : bi),("_law_ways" : bi)] from by decide +kernel) rfl (ma rfl))) (fun _ _ _ _ _=>bG) (fun _ _ _ _ _=>(jc (N':=["_law_road","_law_bag_here","_law_many"]) (tn:=1) (idx:=[1,2]) rfl (aD.rel (show aD ["_law_place","_law_bag_here","_law_many","_law_ways"] _ _ ["_law_road","_law_bag_here","_law_many"] 1 [1,2] from by decide +kernel)) (cu rfl bl.range_ (aa (qv 3) af)) (fun _ _ _ _ _=>(aI (i:=0) (show ut [("_law_road" : bi),("_law_bag_here" : bi),("_law_many" : bi)] from by decide +kernel) rfl (ma rfl))) (fun _ _ _ _ _=>bG) (fun _ _ _ _ _=>(aG bY (hr.mono (by decide)) rfl aA.mg aA.fn.kp aA.bd bf hP hw hK ht XR.none (aa (qv 1) (aa (qv 2) af)))))))
  (aj (bb (i:=6) bE.nd rfl (GE rfl) (aG qa (hr.mono (by decide)) rfl cR.mg cR.fn.kp cR.bd bf hP hw hK ht XR.none (aa (qv 0) (aa (qv 2) af))))
  (aj (bb (i:=7) bE.nd rfl (GE rfl) (bB il aB (aG bY (hr.mono (by decide)) rfl aA.mg aA.fn.kp aA.bd bf hP hw hK ht XR.none (aa (qv 0) (aa (qv 2) af)))))
  (aj (bb (i:=8) bE.nd rfl (GE rfl) (aG bY (hr.mono (by decide)) rfl aA.mg aA.fn.kp aA.bd bf hP hw hK ht XR.none (aa (qv 0) (aa aB af))))
  (aj (fI xp rfl (LV true (K:=K) rfl rfl bl.enumerate_ (qv 6)) (fun oS eP ew eK et=>by have hP:=hP.trans eP.symm;have hw:=hw.trans ew.symm;have hK:=hK.trans eK.symm;have ht:=ht.trans et.symm;exact⟨(lC (n:=2) rfl (cO (aI (i:=9) bE.nd rfl (GE rfl)) (cO (aI (i:=10) bE.nd rfl (GE rfl)) jt))),(aj (bb (i:=11) bE.nd rfl (GE rfl) (bU (dB (K:=K) rfl) (qv 6) (bB kG (bB il (qv 9) aB) (qv 2)) (fun _ _=>rfl)))
  (aj (bN (yx nY nY aB (qv 4) aB)
   (au (nB (qv 11) (nF (bU (dB (K:=K) rfl) (qv 5) (qv 10) (fun _ _=>rfl)) (aG bY (hr.mono (by decide)) rfl aA.mg aA.fn.kp aA.bd bf hP hw hK ht XR.none (aa (qv 0) (aa (qv 3) af))))))
   qss_nil)
  (aj (bN (bj j7 (qv 4) aB (a9 _))
   (aj (bb (i:=12) bE.nd rfl (GE rfl) (cz (N':=["_law_j","_law_order_here","_law_period","_law_k"]) (tn:=1) (idx:=[6,7,9]) rfl (show aD ["_law_bag_here","_law_most","_law_many","_law_ways","_law_kind","_law_rows","_law_order_here","_law_period","_law_stays","_law_k","_law_place","_law_onward","_law_goals_here","_law_turns"] (ai cQ) _ ["_law_j","_law_order_here","_law_period","_law_k"] 1 [6,7,9] from by decide +kernel) (cu rfl bl.range_ (aa (qv 2) af)) (fun _ _ _ _ _=>(aI (i:=0) (show ut [("_law_j" : bi),("_law_order_here" : bi),("_law_period" : bi),("_law_k" : bi)] from by decide +kernel) rfl (ma rfl))) (fun _ _ _ _ _=>(qE (bj j7 (bB kG (qv 0) (qv 2)) (bB kG (bB il (qv 3) aB) (qv 2)) (a9 _)))) (fun _ _ _ _ _=>(bU (dB (K:=K) rfl) (qv 1) (qv 0) (fun _ _=>rfl)))))
  (au (nB (jc (N':=["_law_road","_law_goals_here","_law_bag_here"]) (tn:=1) (idx:=[12,0]) rfl (show aD ["_law_bag_here","_law_most","_law_many","_law_ways","_law_kind","_law_rows","_law_order_here","_law_period","_law_stays","_law_k","_law_place","_law_onward","_law_goals_here","_law_turns"] (ai cQ) _ ["_law_road","_law_goals_here","_law_bag_here"] 1 [12,0] from by decide +kernel) (cu rfl bl.range_ (aa (qv 3) af)) (fun _ _ _ _ _=>(aI (i:=0) (show ut [("_law_road" : bi),("_law_goals_here" : bi),("_law_bag_here" : bi)] from by decide +kernel) rfl (ma rfl))) (fun _ _ _ _ _=>bG) (fun _ _ _ _ _=>(bU (dB (K:=K) rfl) (qv 1) (aG bY (hr.mono (by decide)) rfl aA.mg aA.fn.kp aA.bd bf hP hw hK ht XR.none (aa (qv 2) (aa (av (dr (K:=K) rfl hK) rfl bl.len_ u4 (aa (qv 1) af)) af))) (fun _ _=>rfl)))) (nF (qv 5) (qv 10)))))
   qss_nil)
  (au (bN (bj j7 (qv 4) aB (a9 _))
   (au (nB (bB (Md (K:=K) rfl) (yA (aa (qv 11) af)) (cz (N':=["_law_road","_law_stays","_law_onward","_law_place"]) (tn:=1) (idx:=[8,11,10]) rfl (show aD ["_law_bag_here","_law_most","_law_many","_law_ways","_law_kind","_law_rows","_law_order_here","_law_period","_law_stays","_law_k","_law_place","_law_onward","_law_goals_here","_law_turns"] (ai cQ) _ ["_law_road","_law_stays","_law_onward","_law_place"] 1 [8,11,10] from by decide +kernel) (Fx rfl bl.range_ (aa aB (aa (qv 3) af))) (fun _ _ _ _ _=>(aI (i:=0) (show ut [("_law_road" : bi),("_law_stays" : bi),("_law_onward" : bi),("_law_place" : bi)] from by decide +kernel) rfl (ma rfl))) (fun _ _ _ _ _=>bG) (fun _ _ _ _ _=>(bU (dB (K:=K) rfl) (yA (aa (qv 2) (aa (qv 3) af))) (qv 1) (fun _ _=>rfl))))) (nF (qv 5) (qv 10))))
   qss_nil)))))⟩))
  (aj (bN (bj j7 (qv 4) aB (a9 _))
   (aj (bb (i:=13) bE.nd rfl (GE rfl) (cz (N':=["_law_road","_law_bag_here","_law_many"]) (tn:=1) (idx:=[0,2]) rfl (show aD ["_law_bag_here","_law_most","_law_many","_law_ways","_law_kind","_law_rows","_law_order_here","_law_period","_law_stays","_law_k","_law_place","_law_onward","_law_goals_here","_law_turns"] (ai cQ) _ ["_law_road","_law_bag_here","_law_many"] 1 [0,2] from by decide +kernel) (cu rfl bl.range_ (aa (qv 3) af)) (fun _ _ _ _ _=>(aI (i:=0) (show ut [("_law_road" : bi),("_law_bag_here" : bi),("_law_many" : bi)] from by decide +kernel) rfl (ma rfl))) (fun _ _ _ _ _=>bG) (fun _ _ _ _ _=>(aG qa (hr.mono (by decide)) rfl cR.mg cR.fn.kp cR.bd bf hP hw hK ht XR.none (aa (qv 1) (aa (qv 2) af))))))
  (au (yT (i:=5) bE.nd rfl rfl (N':=["_law_place","_law_turns"]) (tn:=1) (idx:=[13]) rfl (show eO ["_law_bag_here","_law_most","_law_many","_law_ways","_law_kind","_law_rows","_law_order_here","_law_period","_law_stays","_law_k","_law_place","_law_onward","_law_goals_here","_law_turns"] (ai cQ) _ ["_law_place","_law_turns"] 1 [13] from by decide +kernel) (cu rfl bl.range_ (aa (qv 2) af)) (fun _ _ _ _ _=>(aI (i:=0) (show ut [("_law_place" : bi),("_law_turns" : bi)] from by decide +kernel) rfl (GE rfl))) (fun _ _ _ _ _=>bG) (fun _ _ _ _ _=>(jc (N':=["_law_turn","_law_place"]) (tn:=1) (idx:=[0]) rfl (aD.rel (show aD ["_law_place","_law_turns"] _ _ ["_law_turn","_law_place"] 1 [0] from by decide +kernel)) (fM (K:=K) rfl (qv 1)) (fun _ _ _ _ _=>(aI (i:=0) (show ut [("_law_turn" : bi),("_law_place" : bi)] from by decide +kernel) rfl (ma rfl))) (fun _ _ _ _ _=>bG) (fun _ _ _ _ _=>(bU (dB (K:=K) rfl) (qv 0) (qv 1) (fun _ _=>rfl))))))))
   qss_nil)
  (aj (bN (QW.pt (mK (bj j7 (qv 4) aB (a9 _)) (jZ (QW.pt (yy (bj j7 (qv 4) aB (a9 _)) (uK (bj j7 (qv 8) aB (a9 _))))))))
   (au (nB (aG bY (hr.mono (by decide)) rfl aA.mg aA.fn.kp aA.bd bf hP hw hK ht XR.none (aa (qv 0) (aa (qv 2) af))) (nF (bU (dB (K:=K) rfl) (qv 5) (bU (dB (K:=K) rfl) (qv 6) aB (fun _ _=>rfl)) (fun _ _=>rfl)) (aG bY (hr.mono (by decide)) rfl aA.mg aA.fn.kp aA.bd bf hP hw hK ht XR.none (aa (qv 0) (aa (qv 3) af))))))
   qss_nil)
  (au (PV 5 rfl (aO (iQ (uM (K:=K) rfl) rfl bl.tuple_ dJ (aa (cz (N':=["_law_row"]) (tn:=1) (idx:=[]) rfl (show aD ["_law_bag_here","_law_most","_law_many","_law_ways","_law_kind","_law_rows","_law_order_here","_law_period","_law_stays","_law_k","_law_place","_law_onward","_law_goals_here","_law_turns"] (ai cQ) _ ["_law_row"] 1 [] from by decide +kernel) (fM (K:=K) rfl (qv 5)) (fun _ _ _ _ _=>(aI (i:=0) (show ut [("_law_row" : bi)] from by decide +kernel) rfl (ma rfl))) (fun _ _ _ _ _=>bG) (fun _ _ _ _ _=>(iQ (uM (K:=K) rfl) rfl bl.tuple_ dJ (aa (qv 0) af)))) af))))))))))))))),?_⟩
 subst e;have big:(100:Nat)<sizeLine :=by decide
 refine S5 (fun ρ M=>∃(n ways kind stays:Nat) (r:ag) (as:List ag) (os:List Int) (x7 x9 qb qd eV:Option Dv),(fh x7/\fh x9/\fh qb/\fh qd/\fh eV)/\ρ=[some (.ptr b),some (.int (most:Nat)),some (.int (n:Nat)),some (.int (ways:Nat)),some (.int (kind:Nat)),some (.ptr r),some (mO os),x7,some (.int (stays:Nat)),x9,qb,qd,eV,none]/\dH Γ.M0 M r as n ways/\fP n os/\1<=n/\n<=most/\(ways=2\/ways=3)) (fun N hN=>?_) ?_
 ·simp! only[];refine⟨b,_,rfl,hb,by omega,by omega,fun m hm=>?_⟩
  obtain⟨n,hn⟩:∃n:Nat,(1+(m:Int))=(n:Nat):=⟨1+m,by omega⟩
  have n1:1<=n :=by omega
  have n9:n<=most :=by omega
  simp! only[hn];refine⟨b,_,rfl,hb,by omega,by omega,fun v hv=>?_⟩
  obtain⟨ways,Tc⟩:∃ways:Nat,(2+(v:Int))=(ways:Nat):=⟨2+v,by omega⟩
  have w2:ways=2\/ways=3 :=by omega
  simp! only[Tc];refine⟨b,_,rfl,hb,by omega,by omega,fun kind qA=>?_⟩
  simp! only[];refine⟨by omega,by omega,by omega,?_⟩
  refine iy (acc:=[]) (fun acc τ M=>∃as:List ag,acc=as.map Dv.ptr/\(∃x,τ=[x,some (.ptr b),some (.int (n:Nat)),some (.int (ways:Nat))])/\md Γ.M0 M/\∀a∈as,Γ.M0 a=none/\∃row:List Int,M a=some (.lst (row.map .int))/\gF n ways row) ⟨[],rfl,⟨_,rfl⟩,.refl,fun _ h=>nomatch h⟩ (fun i d acc τ M hd _ ⟨as,e1,⟨x,e2⟩,hO,ha⟩ R hR=>?_) (fun ys τ M hl ⟨as,e1,⟨x,e2⟩,hO,ha⟩=>?_)
  ·subst e1 e2;simp! only[];refine⟨by omega,by omega,by omega,xj (n:=n) (fun τ=>∃y,τ=[y,some (.ptr b),some (.int (n:Nat))]) ⟨_,rfl⟩ (fun d hd τ ⟨y,e⟩ R2 GA=>?_) (fun row hl sk a mH=>?_)⟩
   ·subst e;simp! only[];exact⟨b,_,rfl,hO.kp _ _ hb,by omega,by omega,fun d hd=>GA _ _ (by omega) (by omega) ⟨_,rfl⟩⟩
   ·exact hR _ _ _ (wt hO ha mH ⟨by simpa[rangeD_len] using hl,sk⟩ ⟨_,rfl⟩)
  ·rw[KF]at e1;subst e1 e2;intro r BH;have RM:=dH.mk' (n:=n) (ways:=ways) hO BH (by simpa[rangeD_len] using hl) ha
   refine⟨b,n,rfl,RM.kp _ _ hb,by omega,fun os p8=>?_⟩
   simp! only[];refine⟨b,_,rfl,RM.kp _ _ hb,by omega,by omega,fun pe Zc=>?_⟩
   simp! only[];refine⟨b,_,rfl,RM.kp _ _ hb,by omega,by omega,fun stays q9=>?_⟩
   obtain⟨per,We⟩:∃per:Nat,(1+(pe:Int))=(per:Nat):=⟨1+pe,by omega⟩
   simp! only[We];have yc:=p8.len;refine cV (fun i ρ M=>∃(as:List ag) (x9 qb qd eV:Option Dv),(fh x9/\fh qb/\fh qd/\fh eV)/\ρ=[some (.ptr b),some (.int (most:Nat)),some (.int (n:Nat)),some (.int (ways:Nat)),some (.int (kind:Nat)),some (.ptr r),some (mO os),some (.int (per:Nat)),some (.int (stays:Nat)),x9,qb,qd,eV,none]/\dH Γ.M0 M r as n ways)
    ⟨as,_,_,_,_,⟨.none,.none,.none,.none⟩,rfl,RM⟩ (fun i d ρ M N2 hd ⟨as,x9,qb,qd,eV,⟨p9,KG,KH,mW⟩,e1,RM⟩ p0=>?_) (fun ρ M ⟨as,x9,qb,qd,eV,⟨p9,KG,KH,mW⟩,e1,RM⟩=>?_)
   ·subst e1;have hd:(cj (lF (os.map Dv.int).length) (os.map Dv.int))[i]?=some d :=by rw[bv];exact hd
    obtain⟨y,rfl,hy⟩:=L0 hd;obtain⟨place,cL,rfl⟩:=je hy;have hi:i<n :=by have:=(ca.mp cL).1;omega
    obtain⟨UP,Yg⟩:=p8.mem (cr cL);obtain⟨pk,rfl⟩:=EU UP;have GB:pk<n :=by omega
    have Wg:((i:Int)+1) % (n:Int)=(((i+1) % n:Nat):Int) :=by push_cast;rfl
    obtain⟨on,Yh,KI,QH⟩:=p8.at (i:=(i+1) % n) (abg _ (by omega))
    obtain⟨BM,rfl⟩:=EU KI;have step:∀{as:List ag} {M:Mh},dH Γ.M0 M r as n ways->∃a,dF (as.map Dv.ptr) ((pk:Nat):Int)=some (.ptr a)/\a∈as:=fun {as M} RM=>by
     have hl:pk<as.length :=by rw[RM.len];exact GB
     exact⟨as[pk],eh (by rw[ce,ap hl];rfl),tz hl⟩
    simp only[zgTup,zgCons,zgNil,zgName,aar,aas,AL,Tk,Nat.reduceAdd,Zs];refine⟨trivial,?_⟩;refine tX (fun ρ M=>∃(as:List ag) (eV:Option Dv),fh eV/\ρ=[some (.ptr b),some (.int (most:Nat)),some (.int (n:Nat)),some (.int (ways:Nat)),some (.int (kind:Nat)),some (.ptr r),some (mO os),some (.int (per:Nat)),some (.int (stays:Nat)),some (.int (i:Nat)),some (.int (pk:Nat)),some (.int (BM:Nat)),eV,none]/\dH Γ.M0 M r as n ways) (fun N hN=>?_) ?_
    ·simp! only[Wg,Yh];exact⟨by omega,hN _ _ ⟨as,_,mW,rfl,RM⟩⟩
    rintro ρ M ⟨as,eV,mW,rfl,RM⟩;refine tX (fun ρ M=>∃(as:List ag) (eV:Option Dv),fh eV/\ρ=[some (.ptr b),some (.int (most:Nat)),some (.int (n:Nat)),some (.int (ways:Nat)),some (.int (kind:Nat)),some (.ptr r),some (mO os),some (.int (per:Nat)),some (.int (stays:Nat)),some (.int (i:Nat)),some (.int (pk:Nat)),some (.int (BM:Nat)),eV,none]/\dH Γ.M0 M r as n ways) (fun N hN=>?_) ?_
    ·simp! only[];refine eB (fun h=>eB (fun h2=>?_) (fun _=>hN _ _ ⟨as,_,mW,rfl,RM⟩)) (fun _=>hN _ _ ⟨as,_,mW,rfl,RM⟩)
     obtain⟨a,ea,ha⟩:=step RM;obtain⟨row,em,ro⟩:=RM.row a ha;simp only[RM.rm,ea];refine⟨b,_,rfl,RM.kp _ _ hb,by omega,by omega,fun t ht=>?_⟩
     simp only[em,bv,ro.1,qT (show t<ways by omega)]
     rw[zb];exact hN _ _ ⟨as,_,mW,rfl,RM.ye ha (ro.set KI QH)⟩
    rintro ρ M ⟨as,eV,mW,rfl,RM⟩;refine tX (fun ρ M=>∃(as:List ag) (eV:Option Dv),fh eV/\ρ=[some (.ptr b),some (.int (most:Nat)),some (.int (n:Nat)),some (.int (ways:Nat)),some (.int (kind:Nat)),some (.ptr r),some (mO os),some (.int (per:Nat)),some (.int (stays:Nat)),some (.int (i:Nat)),some (.int (pk:Nat)),some (.int (BM:Nat)),eV,none]/\dH Γ.M0 M r as n ways) (fun N hN=>?_) ?_
    ·simp! only[];refine eB (fun h=>?_) (fun _=>hN _ _ ⟨as,_,mW,rfl,RM⟩)
     have Zd:∀j:Nat,((j:Int) % (per:Int))=((j % per:Nat):Int):=fun j=>by push_cast;rfl
     refine⟨by omega,by omega,by omega,uQ (Je per i) (fun d=>.int (uf os d)) (fun τ M'=>(∃x,τ=[x,some (mO os),some (.int (per:Nat)),some (.int (i:Nat))])/\M'=M) ⟨⟨_,rfl⟩,rfl⟩ (fun d hd τ M' ⟨⟨x,e⟩,eM⟩ R0 R h1 h2=>?_) (fun τ M' ⟨⟨x,e⟩,eM⟩=>?_)⟩
     ·subst e eM;obtain⟨j,hj,rfl⟩:=tS hd;simp only[Sm]at h1 h2 ⊢;obtain⟨gx,mV,g0,g1⟩:=p8.at hj;have hg:uf os (.int (j:Nat))=gx:=zf mV;simp! only[mV];refine⟨by omega,by omega,eB (fun h=>?_) (fun h=>?_)⟩
      ·rw[hg]at h1;exact h1 h _ _ ⟨⟨_,rfl⟩,rfl⟩
      ·exact h2 h _ _ ⟨⟨_,rfl⟩,rfl⟩
     ·subst e eM;obtain⟨gs,Yi,GC,Ze,Yj⟩:=Jf (i:=i) p8 (per:=per) (by omega) (by omega)
      rw[Yi];refine⟨by omega,by omega,by omega,xj (n:=n) (fun τ=>∃y,τ=[y,some (mO gs),some (.ptr b)]) ⟨_,rfl⟩ (fun d hd τ ⟨y,e⟩ R hR=>?_) (fun row hl sk a mH=>?_)⟩
      ·subst e;simp! only[];refine⟨b,_,rfl,RM.kp _ _ hb,by omega,by omega,fun t ht=>?_⟩
       have KJ:t<gs.length :=by omega
       simp only[show dF (gs.map Dv.int) (t:Int)=some (.int gs[t]) from eh (by rw[ce,ap KJ];rfl)]
       obtain⟨q0,q1⟩:=Yj _ (tz KJ);exact hR _ _ q0 q1 ⟨_,rfl⟩
      ·have nr:r≠a:=fun z=>by rw[<- z,RM.rm]at mH;cases mH
       simp only[ao nr,RM.rm,bv,RM.len,qT GB];exact hN _ _ ⟨_,_,.lI gs,rfl,RM.put mH ⟨by simpa[rangeD_len] using hl,sk⟩ GB⟩
    rintro ρ M ⟨as,eV,mW,rfl,RM⟩;simp! only[];refine eB (fun h=>?_) (fun _=>p0 _ _ ⟨as,_,_,_,_,⟨.int _,.int _,.int _,mW⟩,rfl,RM⟩)
    refine⟨by omega,⟨by omega,by omega,by omega,by omega⟩,by omega,xj (n:=n) (fun τ=>∃y,τ=[y,some (.int (stays:Nat)),some (.int (BM:Nat)),some (.int (pk:Nat))]) ⟨_,rfl⟩ (fun d hd τ ⟨y,e⟩ R hR=>?_) (fun row hl sk=>⟨?_,fun a mH=>?_⟩)⟩
    ·subst e;simp! only[];have Yk:stays=0\/stays=1 :=by omega
     rcases Yk with rfl|rfl
     ·exact⟨by omega,hR _ _ KI QH ⟨_,rfl⟩⟩
     ·exact⟨by omega,hR _ _ UP Yg ⟨_,rfl⟩⟩
    ·rw[bv,hl,rangeD_len];omega
    ·have nr:r≠a:=fun z=>by rw[<- z,RM.rm]at mH;cases mH
     have er:Dv.int (BM:Nat)::row.map Dv.int=((BM:Int)::row).map Dv.int:=rfl;rw[er];simp only[ao nr,RM.rm,bv,RM.len,qT GB];refine p0 _ _ ⟨_,_,_,_,_,⟨.int _,.int _,.int _,mW⟩,rfl,RM.put mH ⟨?_,fun x hx=>?_⟩ GB⟩
     ·rw[AL,hl,rangeD_len];omega
     ·rcases i4.mp hx with z|z
      ·rw[z];exact⟨KI,QH⟩
      ·exact sk x z
   ·exact hN _ _ ⟨n,ways,kind,stays,r,as,os,_,_,_,_,_,⟨.int _,p9,KG,KH,mW⟩,e1,RM,p8,n1,n9,w2⟩
 ·rintro ρ M ⟨n,ways,kind,stays,r,as,os,x7,x9,qb,qd,eV,⟨p7,p9,KG,KH,mW⟩,rfl,RM,p8,n1,n9,w2⟩;have yc:=p8.len;refine tX (fun ρ M=>∃(r:ag) (as:List ag) (lz:Option Dv),fh lz/\ρ=[some (.ptr b),some (.int (most:Nat)),some (.int (n:Nat)),some (.int (ways:Nat)),some (.int (kind:Nat)),some (.ptr r),some (mO os),x7,some (.int (stays:Nat)),x9,qb,qd,eV,lz]/\dH Γ.M0 M r as n ways) (fun N hN=>?_) ?_
  ·simp! only[];refine eB (fun h=>?_) (fun _=>hN _ _ ⟨r,as,_,.none,rfl,RM⟩)
   refine⟨by omega,by omega,by omega,iy (acc:=[]) (fun acc τ M'=>∃ts:List (List Int),acc=ts.map mO/\(∃x,τ=[x,some (.ptr b),some (.int (n:Nat))])/\(∀o∈ts,fP n o)/\M'=M) ⟨[],rfl,⟨_,rfl⟩,(fun _ h=>nomatch h),rfl⟩ (fun i d acc τ M' hd _ ⟨ts,e1,⟨x,e2⟩,hT,eM⟩ R hR=>?_) (fun ys τ M' hl ⟨ts,e1,⟨x,e2⟩,hT,eM⟩=>?_)⟩
   ·subst e1 e2 eM;simp! only[];refine⟨b,n,rfl,RM.kp _ _ hb,by omega,fun o ho=>hR _ _ _ ⟨ts++[o],by rw[mv];rfl,⟨_,rfl⟩,fun c hc=>?_,rfl⟩⟩
    rcases rf.mp hc with z|z
    ·exact hT c z
    ·rw[io]at z;rw[z];exact ho
   ·rw[KF]at e1;subst e1 e2 eM;have KJ:ts.length=ways :=by simpa[rangeD_len] using hl
    refine⟨by omega,by omega,by omega,iy (acc:=[]) (fun acc τ M=>∃as:List ag,acc=as.map Dv.ptr/\(∃x,τ=[x,some (.lst (ts.map mO))])/\md Γ.M0 M/\∀a∈as,Γ.M0 a=none/\∃row:List Int,M a=some (.lst (row.map .int))/\gF n ways row) ⟨[],rfl,⟨_,rfl⟩,RM.own,fun _ h=>nomatch h⟩ (fun i d acc τ M hd _ ⟨as,e1,⟨x,e2⟩,hO,ha⟩ R hR=>?_) (fun ys τ M hl ⟨as,e1,⟨x,e2⟩,hO,ha⟩=>?_)⟩
    ·subst e1 e2;obtain⟨rfl,hi⟩:=dC hd;simp! only[];refine⟨by omega,xj (n:=n) (fun τ=>∃y,τ=[y,some (.int (i:Nat))]) ⟨_,rfl⟩ (fun d hd τ ⟨y,e⟩ R2 GA=>?_) (fun row hl sk a mH=>?_)⟩
     ·subst e;obtain⟨o,ho,rfl⟩:=kt.mp hd;obtain⟨gx,mV,g0,g1⟩:=(hT o ho).at hi;simp! only[mV];exact GA _ _ g0 g1 ⟨_,rfl⟩
     ·exact hR _ _ _ (wt hO ha mH ⟨by rw[hl,bv];exact KJ,sk⟩ ⟨_,rfl⟩)
    ·rw[KF]at e1;subst e1 e2;intro r2 Yl;refine hN _ _ ⟨r2,as,_,fun M d e=>?_,rfl,dH.mk' (n:=n) (ways:=ways) hO Yl (by simpa[rangeD_len] using hl) ha⟩
     cases e;exact .lst fun d hd=>by obtain⟨o,_,rfl⟩:=kt.mp hd;exact .lst (jy o)
  rintro ρ M ⟨r,as,lz,GD,rfl,RM⟩;refine tX (fun ρ M=>∃(r:ag) (as:List ag) (lz:Option Dv),fh lz/\ρ=[some (.ptr b),some (.int (most:Nat)),some (.int (n:Nat)),some (.int (ways:Nat)),some (.int (kind:Nat)),some (.ptr r),some (mO os),x7,some (.int (stays:Nat)),x9,qb,qd,eV,lz]/\dH Γ.M0 M r as n ways) (fun N hN=>?_) ?_
  ·simp! only[];obtain⟨gx,mV,g0,g1⟩:=p8.at (i:=0) (by omega)
   obtain⟨gk,rfl⟩:=EU g0;have mV:dF (os.map Dv.int) 0=some (.int (gk:Nat)):=mV;have vJ:gk<as.length :=by rw[RM.len];omega
   have ea:dF (as.map Dv.ptr) (gk:Int)=some (.ptr as[gk]):=eh (by rw[ce,ap vJ];rfl)
   have ha:=tz vJ;obtain⟨row,em,ro⟩:=RM.row as[gk] ha;simp only[mV];have put:ue [.ptr b,.int (n:Nat)] M (fun d M1=>match (match M1 r with|some (.lst ds)=>some ds|_=>none) with
     |some ds=>(match dF ds (gk:Int) with
      |some Ym=>ue [.ptr b,.int (ways:Nat)] M1 (fun i M2=>match Ym,i with
       | .ptr a,.int k=>(match M2 a with
        |some (.lst xs)=>(match jU xs.length k with
         |some j=>N [some (.ptr b),some (.int (most:Nat)),some (.int (n:Nat)),some (.int (ways:Nat)),some (.int (kind:Nat)),some (.ptr r),some (mO os),x7,some (.int (stays:Nat)),x9,qb,qd,eV,lz] (aw M2 a (.lst (xs.set j d)))
         |none=>False)
        |_=>False)
       |_,_=>False) fun _ _=>False
      |none=>False)
     |none=>False) fun _ _=>False :=by
    refine⟨b,_,rfl,RM.kp _ _ hb,by omega,by omega,fun u hu=>?_⟩
    simp only[RM.rm,ea];refine⟨b,_,rfl,RM.kp _ _ hb,by omega,by omega,fun t ht=>?_⟩
    simp only[em,bv,ro.1,qT (show t<ways by omega)]
    rw[zb];exact hN _ _ ⟨r,as,_,GD,rfl,RM.ye ha (ro.set (by omega) (by omega))⟩
   exact eB (fun _=>put) (fun _=>eB (fun _=>eB (fun _=>put) (fun _=>hN _ _ ⟨r,as,_,GD,rfl,RM⟩)) (fun _=>hN _ _ ⟨r,as,_,GD,rfl,RM⟩))
  rintro ρ M ⟨r,as,lz,GD,rfl,RM⟩;have nb:∀{c o},Γ.M0 c=some o->c≠r:=fun e z=>by rw[z,RM.r0]at e;cases e
  have dk:Keeps Γ.M0 (bC M r):=fun c o e=>by rw[bI (nb e)];exact RM.kp c o e
  refine .inr ⟨r,_,rfl,RM.rm,RM.r0,⟨fun j d e=>?_,fun c o e=>?_⟩,?_⟩
  ·match j,e with
   |0,e=>cases e;exact .ptr (by rw[dk _ _ hb];rfl)
   |1,e=>cases e;exact .int _
   |2,e=>cases e;exact .int _
   |3,e=>cases e;exact .int _
   |4,e=>cases e;exact .int _
   |5,e=>cases e;exact .lst fun d hd=>by
                 obtain⟨a,ha,rfl⟩:=kt.mp hd;obtain⟨row,em,_⟩:=RM.row a ha;exact .ptr (by rw[bI (RM.fr a ha).2,em];rfl)
   |6,e=>cases e;exact .lst (jy _)
   |7,e=>exact p7 _ _ (ij e)
   |8,e=>cases e;exact .int _
   |9,e=>exact p9 _ _ (ij e)
   |10,e=>exact KG _ _ (ij e)
   |11,e=>exact KH _ _ (ij e)
   |12,e=>exact mW _ _ (ij e)
   |13,e=>exact GD _ _ (ij e)
   |j+14,e=>exact nomatch e
  ·have nc:c≠r:=fun z=>by rw[z,b9]at e;cases e
   rw[bI nc]at e;rcases RM.pin c o e with q|q|⟨row,rfl⟩|⟨bs,rfl,q2⟩
   ·exact .inl q
   ·exact absurd q nc
   ·exact .inr (jy row)
   ·refine .inr fun d hd=>?_
    obtain⟨a,ha,rfl⟩:=kt.mp hd;obtain⟨h1,u,h2⟩:=q2 a ha;exact .ptr (by rw[bI h1,h2];rfl)
  ·simp! only[];refine⟨by rw[RM.len];omega,iy (acc:=[]) (fun acc τ M'=>∃rs:List (List Int),acc=rs.map eI/\(∃x,τ=[x])/\(∀row∈rs,gF n ways row)/\M'=bC M r) ⟨[],rfl,⟨_,rfl⟩,(fun _ h=>nomatch h),rfl⟩ (fun i d acc τ M' hd _ ⟨rs,e1,⟨x,e2⟩,KL,eM⟩ R hR=>?_) (fun ys τ M' hl ⟨rs,e1,⟨x,e2⟩,KL,eM⟩=>?_)⟩
   ·subst e1 e2 eM;obtain⟨a,ha,rfl⟩:=je hd;have ha:=cr ha;obtain⟨row,em,ro⟩:=RM.row a ha;simp! only[bI (RM.fr a ha).2,em];refine hR _ _ _ ⟨rs++[row],by rw[mv];rfl,⟨_,rfl⟩,fun c hc=>?_,rfl⟩
    rcases rf.mp hc with z|z
    ·exact KL c z
    ·rw[io]at z;rw[z];exact ro
   ·rw[KF]at e1;subst e1 e2 eM;have UJ:rs.length=n :=by rw[bv,bv,RM.len]at hl;exact hl
    exact pR dk (FL rs) (q rs ways ⟨by omega,by omega,w2,fun row hr=>⟨(KL row hr).1,fun g hg=>by rw[UJ];exact(KL row hr).2 g hg⟩⟩ (by omega))
theorem Ax:aS ["thing"] ["thing"] (ai eC):=⟨rfl,rfl,rfl,by decide +kernel,rfl,by decide +kernel,by decide +kernel⟩
theorem qX:aS ["thing","many"] ["thing","many"] (ai cD):=⟨rfl,rfl,rfl,by decide +kernel,rfl,by decide +kernel,by decide +kernel⟩
theorem GF:aS ["thing","many","width"] ["thing","many","width"] (ai lY):=⟨rfl,rfl,rfl,by decide +kernel,rfl,by decide +kernel,by decide +kernel⟩
theorem qf:aS ["thing","many","width"] ["thing"] (ai lZ):=⟨rfl,rfl,rfl,by decide +kernel,rfl,by decide +kernel,by decide +kernel⟩
def qg (d:Dv):Bool:=(isD "int" (fun _=>none) d).isSome
def GH:Dv->Bool | .int _=>true|_=>false
def de (m:Int):Dv->Bool | .int i=>decide (0<=i) && decide (i<m)|_=>false
def QJ:bP:=fun ds M Q _=>∃d,ds=[d]/\qg d=true/\Q (.bl (GH d)) M
theorem Ay {f:ag}{fd:ln}(D:Df K mg "is_whole" eC ["thing"] f fd) (bl:Bl mg):FnOk P w K mg base bh 1 f fd ["thing"] (aU P w K tb QJ) :=by
 refine dM D Ax (fun ds M Q E hS=>by obtain⟨d,e,_⟩:=hS;rw[e];rfl) fun A outer s E Γ ds Q' E' hP hw hK ht hr hS=>?_
 obtain⟨d,e,hk,q⟩:=hS;refine⟨_,(au (aO (fH (av (bo (K:=K) rfl) rfl bl.isinstance_ aH (aa (qv 0) (aa (bz (v:=.ty "int") rfl bl.int_ xT rfl) af))) (ia (yz (av (bo (K:=K) rfl) rfl bl.isinstance_ aH (aa (qv 0) (aa (bz (v:=.ty "bool") rfl bl.bool_ uE rfl) af)))))))),?_⟩
 subst e;cases d<;>first|exact⟨by decide,⟨by decide,.inl q⟩⟩|exact⟨by decide,.inl q⟩|exact nomatch hk
def QK:bP:=fun ds M Q _=>∃d m,ds=[d,.int m]/\qg d=true/\Q (.bl (de m d)) M
theorem ki {f f1:ag}{fd bT:ln}(D:Df K mg "is_whole_below" cD ["thing","many"] f fd) (bJ:Df K mg "is_whole" eC ["thing"] f1 bT) (bl:Bl mg):FnOk P w K mg base bh 2 f fd ["thing","many"] (aU P w K tb QK) :=by
 have Dp:=Ay (P:=P) (w:=w) (base:=base) (tb:=tb) bJ bl;refine dM D qX (fun ds M Q E hS=>by obtain⟨d,m,e,_⟩:=hS;rw[e];rfl) fun A outer s E Γ ds Q' E' hP hw hK ht hr hS=>?_
 obtain⟨d,m,e,hk,q⟩:=hS;refine⟨_,(au (aO (fH (aG Dp (hr.mono (by decide)) rfl bJ.mg bJ.fn.kp bJ.bd bf hP hw hK ht XR.none (aa (qv 0) af)) (ia (IA CU nY aB (qv 0) (qv 1)))))),?_⟩
 subst e;refine⟨d,rfl,hk,?_⟩;cases d with
 |int i=>
  simp! only[GH];refine eB (fun h=>?_) (fun h=>?_)
  ·rw[show de m (.int i)=decide (i<m) by simp only[de,h,OP]]at q
   exact .inl q
  ·rw[show de m (.int i)=false by simp only[de,h,Pi]]at q
   exact .inl q
 |_=>exact .inl q
def jE (m:Int) (w:Nat):Dv->Bool | .tup ds=>decide (ds.length=w) && ds.all (de m)|_=>false
def Jg:Dv->Bool | .tup ds=>ds.all qg|d=>qg d
def QM:bP:=fun ds M Q _=>∃d m w,ds=[d,.int m,.int (w:Nat)]/\Jg d=true/\Q (.bl (jE m w d)) M
theorem GI {f f1 f2:ag}{fd bT fd2:ln}{ow aZ:ag}(D:Df K mg "is_row" lY ["thing","many","width"] f fd) (jF:A8 base fd ow aZ) (hp:aZ∈tb) (fW:∃bm ob,ZY base mainGlobals mg bm ob)
  (aP:Df K mg "is_whole_below" cD ["thing","many"] f1 bT) (bJ:Df K mg "is_whole" eC ["thing"] f2 fd2) (bl:Bl mg):FnOk P w K mg base bh 4 f fd ["thing","many","width"] (aU P w K tb QM) :=by
 have iz:=ki (P:=P) (w:=w) (base:=base) (tb:=tb) aP bJ bl;refine dM D GF (fun ds M Q E hS=>by obtain⟨d,m,n,e,_⟩:=hS;rw[e];rfl) fun A outer s E Γ ds Q' E' hP hw hK ht hr hS=>?_
 obtain⟨d,m,n,e,hk,q⟩:=hS;have Dq:aZ∈Γ.tb:=ht▸hp;refine⟨_,(aj (bN (QW.pt (mK (h8 (dA (av (bo (K:=K) rfl) rfl bl.isinstance_ aH (aa (qv 0) (aa (bz (v:=.ty "tuple") rfl bl.tuple_ dJ rfl) af))))) (jZ (bj yD (av (dr (K:=K) rfl hK) rfl bl.len_ u4 (aa (qv 0) af)) (qv 2) (a9 _)))))
   (au (aO fA))
   qss_nil)
  (au (aO (yI (k:=2) (N':=["goal","many"]) (tn:=1) (idx:=[1]) Dq (hr.mono (by decide)) rfl (show aD ["thing","many","width"] (ai lY) _ ["goal","many"] 1 [1] from by decide +kernel) rfl rfl jF.code jF.hd fW rfl bl.all_ (pL (K:=K) rfl (qv 0)) (fun _ _ _ _ _ _ _ hr=>(aI (i:=0) (show ut [("goal" : bi),("many" : bi)] from by decide +kernel) rfl (ma rfl))) (fun _ _ _ _ _ _ _ hr=>bG) (fun _ _ _ _ _ _ _ hr=>(aG iz (hr.mono (by decide)) rfl aP.mg aP.fn.kp aP.bd bf hP hw hK ht XR.none (aa (qv 0) (aa (qv 1) af)))))))),?_⟩
 subst e;cases d with
 |tup es=>
  refine⟨by decide,eB (c := !decide ((es.length:Int)=(n:Nat))) (fun h=>?_) (fun h=>?_)⟩
  ·rw[show jE m n (.tup es)=false by simp at h;simp[jE];intro z;omega]at q
   exact .inl q
  ·rw[show jE m n (.tup es)=es.all (de m) by simp at h;simp[jE,show es.length=n by omega]]at q
   refine qK (de m) (fun τ=>∃x,τ=[x,some (.int m)]) ⟨none,rfl⟩ (fun d hd τ ⟨x,e⟩ R hR=>?_) (.inl q)
   subst e;exact⟨d,m,rfl,wT.mp hk d hd,hR _ ⟨_,rfl⟩⟩
 |_=>first|exact⟨by decide,.inl q⟩|exact nomatch hk
def me:Dv->Bool | .tup rs=>decide (1<=rs.length/\rs.length<=9) && (rs.all (jE rs.length 2) || rs.all (jE rs.length 3))|_=>false
def Dr:Dv->Bool | .tup rs=>rs.all Jg|d=>qg d
def QN:bP:=fun ds M Q _=>∃d,ds=[d]/\Dr d=true/\Q (.bl (me d)) M
theorem GJ {f f1 f2 f3:ag}{fd bT fd2 kj:ln}{ow aZ zh bq:ag}(D:Df K mg "is_net" lZ ["thing"] f fd) (ox:A8 base fd zh bq) (QO:bq∈tb) (iA:Df K mg "is_row" lY ["thing","many","width"] f3 kj) (jF:A8 base kj ow aZ) (hp:aZ∈tb) (fW:∃bm ob,ZY base mainGlobals mg bm ob)
  (aP:Df K mg "is_whole_below" cD ["thing","many"] f1 bT) (bJ:Df K mg "is_whole" eC ["thing"] f2 fd2) (bl:Bl mg) {tk:aaR} (jG:mg "MOST_PLACES" = some (.int 9 tk)):FnOk P w K mg base bh 6 f fd ["thing"] (aU P w K tb QN) :=by
 have Jh:=GI (P:=P) (w:=w) (tb:=tb) iA jF hp fW aP bJ bl;refine dM D qf (fun ds M Q E hS=>by obtain⟨d,e,_⟩:=hS;rw[e];rfl) fun A outer s E Γ ds Q' E' hP hw hK ht hr hS=>?_
 obtain⟨d,e,hk,q⟩:=hS;have oy:bq∈Γ.tb:=ht▸QO;refine⟨_,(aj (bN (QW.pt (mK (h8 (dA (av (bo (K:=K) rfl) rfl bl.isinstance_ aH (aa (qv 0) (aa (bz (v:=.ty "tuple") rfl bl.tuple_ dJ rfl) af))))) (jZ (h8 (yx CU CU aB (av (dr (K:=K) rfl hK) rfl bl.len_ u4 (aa (qv 0) af)) (Iy (i:=9) rfl jG ⟨_,rfl⟩))))))
   (au (aO fA))
   qss_nil)
  (aj (bb (i:=1) qf.nd rfl (GE rfl) (av (dr (K:=K) rfl hK) rfl bl.len_ u4 (aa (qv 0) af)))
  (aj (fI xp rfl (pL (K:=K) rfl (jb (aa aB (aa aB af)))) (fun oS eP ew eK et=>by have hP:=hP.trans eP.symm;have hw:=hw.trans ew.symm;have hK:=hK.trans eK.symm;have ht:=ht.trans et.symm;have oy:=et.symm▸oy;exact⟨(aI (i:=2) qf.nd rfl (GE rfl)),(au (bN (dA (yI (k:=4) (N':=["row","many","width"]) (tn:=1) (idx:=[1,2]) oy (hr.mono (by decide)) rfl (show aD ["thing","many","width"] (ai lZ) _ ["row","many","width"] 1 [1,2] from by decide +kernel) rfl rfl ox.code ox.hd fW rfl bl.all_ (pL (K:=K) rfl (qv 0)) (fun _ _ _ _ _ _ _ hr=>(aI (i:=0) (show ut [("row" : bi),("many" : bi),("width" : bi)] from by decide +kernel) rfl (ma rfl))) (fun _ _ _ _ _ _ _ hr=>bG) (fun _ _ _ _ _ _ _ hr=>(aG Jh (hr.mono (by decide)) rfl iA.mg iA.fn.kp iA.bd bf hP hw hK ht XR.none (aa (qv 0) (aa (qv 1) (aa (qv 2) af)))))))
   (au (aO fA))
   qss_nil))⟩))
  (au (aO fA))))),?_⟩
 subst e;cases d with
 |tup rs=>
  refine⟨by decide,?_⟩
  have row:∀(n:Nat) (D:Bool->Mh->Prop),(D (rs.all (jE rs.length n)) Γ.M0)->mL (zgName 0) zNoIf (zCall QM (fun _ _=>False) (zCons (zVar 0) (zCons (zVar 1) (zCons (zVar 2) zNil)))) rs [none,some (.int rs.length),some (.int (n:Nat))] Γ.M0 D:=fun n D hD=>by
   refine qK (jE rs.length n) (fun τ=>∃x,τ=[x,some (.int rs.length),some (.int (n:Nat))]) ⟨none,rfl⟩ (fun d hd τ ⟨x,e⟩ R hR=>?_) hD
   subst e;exact⟨d,rs.length,n,rfl,wT.mp hk d hd,hR _ ⟨_,rfl⟩⟩
  simp! only[];refine eB (fun h1=>eB (fun h2=>?_) (fun h2=>⟨by decide,?_⟩)) (fun h1=>?_)
  ·rw[show me (.tup rs)=false by simp at h1 h2;simp[me];intro z;omega]at q
   exact .inl q
  ·have e:me (.tup rs)=(rs.all (jE rs.length 2) || rs.all (jE rs.length 3)) :=by
    simp at h1 h2;simp only[me];rw[decide_eq_true (by omega),OP]
   rw[e]at q;refine row 2 _ (eB (fun z=>?_) (fun z=>row 3 _ (eB (fun z2=>?_) (fun z2=>?_))))
   ·rw[z]at q;exact .inl q
   ·rw[z,z2]at q;exact .inl q
   ·rw[z,z2]at q;exact .inl q
  ·rw[show me (.tup rs)=false by simp at h1;simp[me];intro z;omega]at q
   exact .inl q
 |_=>first|exact⟨by decide,.inl q⟩|exact nomatch hk
theorem Az:aS ["thing"] ["thing"] (ai jh):=⟨rfl,rfl,rfl,by decide +kernel,rfl,by decide +kernel,by decide +kernel⟩
theorem GK {m:Int}{g:Int}(h:0<=g/\g<m):de m (.int g)=true :=by simp[de,h.1,h.2]
theorem BO {ae:List (List Int)}{n:Nat}(o:bM ae n):me (eN ae)=true :=by
 have hr:∀d∈ae.map eI,jE (ae.map eI).length n d=true:=fun d hd=>by
  obtain⟨r,hr,rfl⟩:=kt.mp hd;obtain⟨h1,h2⟩:=o.row r hr;simp only[jE,bv];rw[decide_eq_true h1,OP,wT];intro d hd;obtain⟨g,hg,rfl⟩:=kt.mp hd;exact GK (h2 g hg)
 have ho:=o.one;have hn:=o.nine;simp only[me,eN];rw[decide_eq_true (by rw[bv];omega),OP]
 have ha:=wT.mpr hr;rcases o.wid with rfl|rfl
 ·rw[ha];rfl
 ·rw[ha,Bool.or_true]
theorem BP (ae:List (List Int)):Dr (eN ae)=true :=by
 simp only[Dr,eN];rw[wT];intro d hd;obtain⟨r,_,rfl⟩:=kt.mp hd;simp only[Jg,eI];rw[wT];intro d hd;obtain⟨g,hg,rfl⟩:=kt.mp hd;rfl
def Ds (C:ag):bP:=fun ds M Q E=>∃d,ds=[d]/\Dr d=true/\(me d=true->Q .ax M)/\(me d=false->E C M)
theorem AA {f f1:ag}{fd bT:ln}{C0 C_NoNet:ag}{cs:List ag}(D:Df K mg "need_net" jh ["thing"] f fd) (iB:Df K mg "is_net" lZ ["thing"] f1 bT) (sm:FnOk P w K mg base bh 6 f1 bT ["thing"] (aU P w K tb QN))
  (X_:Ih K C0 cs) (u0:C_NoNet∈cs) (u5:mg "NoNet" = some (.ref C_NoNet)):FnOk P w K mg base (eX P w) 7 f fd ["thing"] (aU P w K tb (Ds C_NoNet)) :=by
 refine xa D Az (fun ds M Q E hS=>by obtain⟨d,e,_⟩:=hS;rw[e];rfl) fun A outer s E Γ ds Q' E' hP hw hK ht hE hr hS=>?_
 obtain⟨d,e,hk,q1,q2⟩:=hS;refine⟨_,(au (bN (h8 (dA (aG sm (hr.mono (by decide)) rfl iB.mg iB.fn.kp iB.bd bf hP hw hK ht XR.none (aa (qv 0) af))))
   (au (yH (X_.ex _ u0) PySem.F.excBase_ValueError rfl E9 hE rfl u5 (aa yu af)))
   qss_nil)),?_⟩
 subst e;simp! only[];refine⟨d,rfl,hk,eB (fun h=>?_) (fun h=>?_)⟩
 ·exact⟨by decide,q2 (by simpa using h)⟩
 ·exact .inl (q1 (by simpa using h))
theorem qh:aS ["net","many"] ["net"] (ai fO):=⟨rfl,rfl,rfl,by decide +kernel,rfl,by decide +kernel,by decide +kernel⟩
theorem AB:aS ["one","other"] ["one","other"] (ai kM):=⟨rfl,rfl,rfl,by decide +kernel,rfl,by decide +kernel,by decide +kernel⟩
def iC (m i:Nat):List (List Int):=(ii (m - (i+1))).map fun j:Nat=>[(i:Int),(i:Int)+1+(j:Nat)]
def ay (m:Nat):List (List Int):=(ii m).flatMap (iC m)
theorem dD {m:Nat}{p:List Int}:p∈ay m ↔ ∃a b:Nat,a<b/\b<m/\p=[(a:Int),(b:Int)] :=by
 unfold ay iC;simp only[aaZ,uu,kt];constructor
 ·rintro⟨i,hi,j,hj,rfl⟩;exact⟨i,i+1+j,by omega,by omega,by simp⟩
 ·rintro⟨a,b,h1,h2,rfl⟩;refine⟨a,by omega,b - (a+1),by omega,?_⟩
  have:(a:Int)+1+((b - (a+1):Nat):Int)=b :=by omega
  rw[this]
theorem pairs_len {m:Nat}(h:m<=9):(ay m).length<=36 :=by
 have:m=0\/m=1\/m=2\/m=3\/m=4\/m=5\/m=6\/m=7\/m=8\/m=9 :=by omega
 rcases this with rfl|rfl|rfl|rfl|rfl|rfl|rfl|rfl|rfl|rfl<;>decide
theorem rH {m:Nat}(h:m<=9):(ay m).Nodup :=by
 have:m=0\/m=1\/m=2\/m=3\/m=4\/m=5\/m=6\/m=7\/m=8\/m=9 :=by omega
 rcases this with rfl|rfl|rfl|rfl|rfl|rfl|rfl|rfl|rfl|rfl<;>decide
def zj:bP:=fun ds M Q _=>∃ae n,ds=[eN ae]/\bM ae n/\Q (.lst ((ay ae.length).map eI)) M
theorem zk {f:ag}{fd:ln}(D:Df K mg "all_pairs" fO ["net"] f fd) (bl:Bl mg):FnOk P w K mg base bh 1 f fd ["net"] (aU P w K tb zj) :=by
 refine dM D qh (fun ds M Q E hS=>by obtain⟨ae,n,e,_⟩:=hS;rw[e];rfl) fun A outer s E Γ ds Q' E' hP hw hK ht hr hS=>?_
 obtain⟨ae,n,e,O,q⟩:=hS;refine⟨_,(aj (bb (i:=1) qh.nd rfl (GE rfl) (av (dr (K:=K) rfl hK) rfl bl.len_ u4 (aa (qv 0) af)))
  (au (aO (y7 (N':=["one","other","many"]) (tn:=2) (idx:=[1]) rfl (show aD ["net","many"] (ai fO) _ ["one","other","many"] 2 [1] from by decide +kernel) (cu rfl bl.range_ (aa (qv 1) af)) (fun _ _ _ _ _=>(aI (i:=0) (show ut [("one" : bi),("other" : bi),("many" : bi)] from by decide +kernel) rfl (ma rfl))) (fun _ _ _ _ _=>bG) (fun _ _ _ _ _=>(Dj rfl bl.range_ (aa (bB il (qv 0) aB) (aa (qv 2) af)))) (fun _ _ _ _ _=>(aI (i:=1) (show ut [("one" : bi),("other" : bi),("many" : bi)] from by decide +kernel) rfl (ma rfl))) (fun _ _ _ _ _=>bG) (fun _ _ _ _ _=>(jb (aa (qv 0) (aa (qv 1) af)))))))),?_⟩
 subst e;have h9:=O.nine;have big:(1000:Nat)<sizeLine :=by decide
 simp! only[];refine⟨by omega,by omega,?_⟩
 refine y6 (fun i acc τ M=>(∃x y,τ=[x,y,some (.int (ae.length:Nat))])/\M=Γ.M0/\acc=((ii i).flatMap (iC ae.length)).map eI/\i<=ae.length) (i:=0) ⟨⟨_,_,rfl⟩,rfl,rfl,mf _⟩ (fun i d acc τ M hd hI R hR=>?_) fun acc τ M hI=>?_
 ·obtain⟨⟨x,y,rfl⟩,rfl,rfl,hi⟩:=hI;obtain⟨rfl,hi⟩:=dC hd;simp! only[zlNest];have cy:i<ae.length :=by omega
  simp only[Mc]at *;refine⟨⟨by omega,by omega,by omega,by omega⟩,?_⟩
  refine y6 (fun j acc τ M=>(∃y,τ=[some (.int (i:Nat)),y,some (.int (ae.length:Nat))])/\M=Γ.M0/\acc=((ii i).flatMap (iC ae.length)++(iC ae.length i).take j).map eI/\j<=ae.length) (i:=0) ⟨⟨_,rfl⟩,rfl,by simp,mf _⟩ (fun j d acc τ M hd hI R2 GA=>?_) fun acc τ M hI=>?_
  ·obtain⟨⟨y,rfl⟩,rfl,rfl,Yn⟩:=hI;obtain⟨rfl,hj⟩:=dC hd;have GL:j<ae.length - (i+1) :=by omega
   simp! only[Mc];have l1:((ii i).flatMap (iC ae.length)++(iC ae.length i).take j).length<=36 :=by
    have:(ii i).flatMap (iC ae.length)++(iC ae.length i).take j <+: ay ae.length :=by
     unfold ay;have ht:ii ae.length=ii (i+1)++(ii (ae.length - (i+1))).map (fun x=>i+1+x) :=by
      rw[<- List.range_add];congr 1;omega
     rw[ht,Nd,Z4,Nd,FM];simp only[List.flatMap_cons,List.flatMap_nil,EQ];rw[List.prefix_append_right_inj];exact(List.take_prefix j _).trans (Zp _ _)
    exact qr this.length_le (pairs_len h9)
   refine⟨by omega,by omega,GA _ _ _ ⟨⟨_,rfl⟩,rfl,?_,by omega⟩⟩
   have e:(iC ae.length i).take (j+1)=(iC ae.length i).take j++[[(i:Int),(i:Int)+1+(j:Nat)]] :=by
    have:(iC ae.length i)[j]?=some [(i:Int),(i:Int)+1+(j:Nat)] :=by
     unfold iC;rw[ce,Gc GL];rfl
    rw[PP,this];rfl
   rw[Mc,e,<- FM,mv (l₂:=[_])];rfl
  ·obtain⟨⟨y,rfl⟩,rfl,rfl,Yn⟩:=hI;refine hR _ _ _ ⟨⟨_,_,rfl⟩,rfl,?_,by omega⟩
   have e:(iC ae.length i).length=ae.length - (i+1) :=by simp[iC]
   rw[rangeD_len,ZA (by rw[e];omega),Z4,Nd]
   simp only[List.flatMap_cons,List.flatMap_nil,EQ]
 ·obtain⟨⟨x,y,rfl⟩,rfl,rfl,hi⟩:=hI;rw[Mc,rangeD_len];exact .inl q
def mh (a b:Int):List Int:=if a<b then [a,b] else [b,a]
def QP:bP:=fun ds M Q _=>∃a b,ds=[.int a,.int b]/\Q (eI (mh a b)) M
theorem AD {f:ag}{fd:ln}(D:Df K mg "in_order" kM ["one","other"] f fd):FnOk P w K mg base bh 1 f fd ["one","other"] (aU P w K tb QP) :=by
 refine dM D AB (fun ds M Q E hS=>by obtain⟨a,b,e,_⟩:=hS;rw[e];rfl) fun A outer s E Γ ds Q' E' hP hw hK ht hr hS=>?_
 obtain⟨a,b,e,q⟩:=hS;refine⟨_,(au (aO (IB (bj nY (qv 0) (qv 1) (a9 _)) (jb (aa (qv 0) (aa (qv 1) af))) (jb (aa (qv 1) (aa (qv 0) af)))))),?_⟩;subst e;simp! only[];unfold mh at q;refine eB (fun h=>?_) (fun h=>?_)
 ·rw[if_pos (of_decide_eq_true h)]at q;exact⟨by decide,.inl q⟩
 ·rw[if_neg (of_decide_eq_false h)]at q;exact⟨by decide,.inl q⟩
theorem dI:aS ["net","coming","one","other","goal","far"] ["net"] (ai gE):=⟨rfl,rfl,rfl,by decide +kernel,rfl,by decide +kernel,by decide +kernel⟩
def kP (k:List Int):List Key:=k.map Pf
theorem qi (a b:List Int) (h:kP a=kP b):a=b :=by
 have:=congrArg (OR fun k:Key=>match k with | .inl i=>i | .inr _=>0) h
 simpa[kP,xy,Function.comp_def] using this
theorem eS (k:List Int):fD (k.map Dv.int)=some (kP k):=om k
def dW (ae:List (List Int)) (p:List Int) (k:Nat):List Int:=mh ((ae.getD (p.getD 0 0).toNat []).getD k 0) ((ae.getD (p.getD 1 0).toNat []).getD k 0)
abbrev mX:=List (List Int×List Int)
def gR (ae:List (List Int)) (n:Nat) (p:List Int):mX:=(ii n).map fun k=>(dW ae p k,p)
def iD (ae:List (List Int)) (n:Nat):mX:=(ay ae.length).flatMap (gR ae n)
def so (ks:List (List Int)) (e:List Int×List Int):List (List Int):=if e.1∈ks then ks else ks++[e.1]
def cc (E:mX):List (List Int):=E.foldl so []
def gS (E:mX) (q:List Int):List (List Int):=(E.filter fun e=>decide (e.1=q)).map (·.2)
theorem jj (E:mX) (e:List Int×List Int):cc (E++[e])=so (cc E) e :=by unfold cc;rw[aaF];rfl
theorem oz (E:mX) (q p r:List Int):gS (E++[(q,p)]) r=if q=r then gS E r++[p] else gS E r :=by
 unfold gS;rw[List.filter_append,mv];by_cases h:q=r
 ·rw[if_pos h];simp[h]
 ·rw[if_neg h];simp[h]
theorem snoc_ind {α:Type}{p:List α->Prop}(h0:p []) (h1:∀l a,p l->p (l++[a])):∀l,p l:=fun l=>by
 rw[<- List.reverse_reverse l];induction l.reverse with
 |nil=>exact h0
 |cons a l ih=>rw[List.reverse_cons];exact h1 _ _ ih
theorem GN {q:List Int}:∀E:mX,q∈cc E ↔ ∃e∈E,e.1=q:=snoc_ind (by simp[cc]) fun E a ih=>by
 rw[jj];unfold so;by_cases h:a.1∈cc E
 ·rw[if_pos h,ih];constructor
  ·rintro⟨e,he,rfl⟩;exact⟨e,by simp[he],rfl⟩
  ·rintro⟨e,he,rfl⟩;rcases rf.mp he with z|z
   ·exact⟨e,z,rfl⟩
   ·have:=io.mp z;subst this;exact ih.mp h
 ·rw[if_neg h,rf,ih,io];constructor
  ·rintro (⟨e,he,rfl⟩|rfl)
   ·exact⟨e,by simp[he],rfl⟩
   ·exact⟨a,by simp,rfl⟩
  ·rintro⟨e,he,rfl⟩;rcases rf.mp he with z|z
   ·exact .inl ⟨e,z,rfl⟩
   ·rw[io.mp z];exact .inr rfl
theorem Ji:∀E:mX,(cc E).Nodup:=snoc_ind (by simp[cc]) fun E a ih=>by
 rw[jj];unfold so;split
 ·exact ih
 ·rename_i h;rw[Da];exact⟨ih,by simp,fun x hx y hy e=>h (by rw[io.mp hy]at e;rw[<- e];exact hx)⟩
theorem GO (E:mX):(cc E).length<=E.length:=snoc_ind (p:=fun E=>(cc E).length<=E.length) (by simp[cc]) (fun E a ih=>by
 rw[jj];unfold so;split<;>simp<;>omega) E
theorem Mt (E:mX) (q:List Int):(gS E q).length<=E.length :=by
 unfold gS;rw[bv];exact WA _ _
theorem zm {E:mX}{q:List Int}(h:q ∉ cc E):gS E q=[] :=by
 unfold gS;rw[List.map_eq_nil_iff,List.filter_eq_nil_iff];intro e he z;exact h ((GN E).mpr ⟨e,he,by simpa using z⟩)
theorem iS {α:Type}{f:List Int->α}{q:List Int}:∀{ks:List (List Int)},look (ks.map kP) (ks.map f) (kP q)=if q∈ks then some (f q) else none
 | []=>rfl
 |k::ks=>by
          rw[mo,mo];unfold look;by_cases e:k=q
          ·rw[if_pos (by rw[e]),if_pos (by simp[e]),e]
          ·rw[if_neg (fun z=>e (qi _ _ z)),iS (ks:=ks)]
           simp[ze e]
theorem zp {α:Type}{q:List Int}:∀{ks:List (List Int)}{as:List α},as.length=ks.length->(q ∉ ks/\look (ks.map kP) as (kP q)=none)\/∃(j:Nat) (a:α),ks[j]?=some q/\as[j]?=some a/\look (ks.map kP) as (kP q)=some a
 | [],as,_=>by cases as<;>exact .inl ⟨by simp,rfl⟩
 |k::ks,[],h=>by simp at h
 |k::ks,a::as,h=>by
          rw[mo];unfold look;by_cases e:k=q
          ·subst e;exact .inr ⟨0,a,rfl,rfl,by rw[if_pos rfl]⟩
          ·rw[if_neg (fun z=>e (qi _ _ z))]
           rcases zp (q:=q) (ks:=ks) (as:=as) (by simpa using h) with ⟨h1,h2⟩|⟨j,b,h1,h2,h3⟩
           ·exact .inl ⟨by simp[ze e,h1],h2⟩
           ·exact .inr ⟨j+1,b,by simpa using h1,by simpa using h2,h3⟩
structure ComM (M0 M:Mh) (c:ag) (as:List ag) (E:mX):Prop where
 c0:M0 c=none
 cm:M c=some (.dt ((cc E).map kP) (as.map .ptr))
 len:as.length=(cc E).length
 am:∀(j:Nat) (a:ag) (q:List Int),as[j]?=some a->(cc E)[j]?=some q->M a=some (.lst ((gS E q).map eI))
 a0:∀a∈as,M0 a=none/\a≠c
 nd:as.Nodup
 kp:Keeps M0 M
theorem rJ {M0 M:Mh}(h:Keeps M0 M) {a:ag}(ha:M a=none):M0 a=none :=by
 cases e:M0 a with
 |none=>rfl
 |some u=>rw[h a u e]at ha;cases ha
theorem ComM.old {M0 M:Mh}{c a a':ag}{as:List ag}{E:mX}{j:Nat}{q p:List Int}(C:ComM M0 M c as E) (hj:(cc E)[j]?=some q) (ha:as[j]?=some a) (hn:M a'=none) :
  ComM M0 (aw (aw M a' (.lst [])) a (.lst ((gS E q).map eI++[eI p]))) c as (E++[(q,p)]) :=by
 have ek:cc (E++[(q,p)])=cc E :=by
  rw[jj];unfold so;rw[if_pos (cr hj)]
 have KN:=C.am j a q ha hj;have ne:∀b∈as,b≠a':=fun b hb e=>by
  obtain⟨i,hi⟩:=l7.mp hb;have lK:=(ca.mp hi).1;have:=C.am i b _ hi (ap (by rw[<- C.len];exact lK))
  rw[e,hn]at this;cases this
 have Yo:c≠a:=ze (C.a0 a (cr ha)).2;have sr:c≠a':=fun e=>by have:=C.cm;rw[e,hn]at this;cases this
 refine⟨C.c0,by rw[ao Yo,ao sr,ek];exact C.cm,by rw[ek];exact C.len,fun i b r hb hr=>?_,C.a0,C.nd,?_⟩
 ·rw[ek]at hr;have fq:=ne b (cr hb);by_cases e:b=a
  ·subst e;have e2:i=j:=(aaK (ca.mp hb).1 C.nd).mp (by rw[hb,ha])
   subst e2;rw[hj]at hr;cases hr;rw[updM_same,oz,if_pos rfl,mv];rfl
  ·rw[ao e,ao fq,C.am i b r hb hr,oz,if_neg];intro z;subst z;have e2:i=j:=(aaK (ca.mp hr).1 (Ji E)).mp (by rw[hr,hj])
   subst e2;rw[hb]at ha;cases ha;exact e rfl
 ·exact .upd (C.a0 a (cr ha)).1 (.upd (rJ C.kp hn) C.kp)
theorem ComM.new {M0 M:Mh}{c a':ag}{as:List ag}{E:mX}{q p:List Int}(C:ComM M0 M c as E) (hq:q ∉ cc E) (hn:M a'=none) :
  ComM M0 (aw (aw (aw M a' (.lst [])) c (.dt ((cc E).map kP++[kP q]) (as.map .ptr++[.ptr a']))) a' (.lst ([]++[eI p]))) c (as++[a']) (E++[(q,p)]) :=by
 have ek:cc (E++[(q,p)])=cc E++[q] :=by
  rw[jj];unfold so;rw[if_neg hq]
 have ne:∀b∈as,b≠a':=fun b hb e=>by
  obtain⟨i,hi⟩:=l7.mp hb;have lK:=(ca.mp hi).1;have:=C.am i b _ hi (ap (by rw[<- C.len];exact lK))
  rw[e,hn]at this;cases this
 have sr:c≠a':=fun e=>by have:=C.cm;rw[e,hn]at this;cases this
 have h0:=rJ C.kp hn;refine⟨C.c0,by rw[ao sr,updM_same,ek,mv,mv];rfl,by rw[ek,l8,l8,C.len];rfl,fun i b r hb hr=>?_,fun b hb=>?_,?_,.upd h0 (.upd C.c0 (.upd h0 C.kp))⟩
 ·rw[ek]at hr;by_cases hi:i<as.length
  ·rw[ww hi]at hb;rw[ww (by rw[<- C.len];exact hi)]at hr
   have fq:=cr hb;rw[ao (ne b fq),ao (C.a0 b fq).2,ao (ne b fq),C.am i b r hb hr,oz,if_neg];intro z;subst z;exact hq (cr hr)
  ·have lK:=(ca.mp hb).1;rw[l8,GT]at lK;have fX:i=as.length :=by omega
   subst fX;rw[AE (cb _),aaY]at hb;rw[C.len,AE (cb _),aaY]at hr;cases hb;cases hr;rw[updM_same,oz,if_pos rfl,zm hq];rfl
 ·rcases rf.mp hb with z|z
  ·exact C.a0 b z
  ·rw[io.mp z];exact⟨h0,ze sr⟩
 ·rw[Da];exact⟨C.nd,by simp,fun x hx y hy e=>ne x hx (by rw[io.mp hy]at e;exact e)⟩
def zq (ae:List (List Int)) (n:Nat):Dv:=.dt ((cc (iD ae n)).map kP) ((cc (iD ae n)).map fun q=>.lst ((gS (iD ae n) q).map eI))
def BQ:bP:=fun ds M Q _=>∃ae n,ds=[eN ae]/\bM ae n/\Q (zq ae n) M
theorem qU {ae:List (List Int)}{n a:Nat}(O:bM ae n) (ha:a<ae.length):dF (ae.map eI) (a:Int)=some (eI (ae.getD a []))/\(ae.getD a []).length=n :=by
 have e:ae.getD a []=ae[a] :=by rw[ci,ap ha];rfl
 rw[e];exact⟨eh (by rw[ce,ap ha];rfl),(O.row _ (tz ha)).1⟩
theorem ug {f f1 f2:ag}{fd bT fd2:ln}(D:Df K mg "coming_pairs" gE ["net"] f fd)
  (cA:Df K mg "all_pairs" fO ["net"] f1 bT) (fQ:FnOk P w K mg base bh 1 f1 bT ["net"] (aU P w K tb zj))
  (gG:Df K mg "in_order" kM ["one","other"] f2 fd2) (oA:FnOk P w K mg base bh 1 f2 fd2 ["one","other"] (aU P w K tb QP)) (bl:Bl mg) :
  FnOk P w K mg base bh 2 f fd ["net"] (aU P w K tb BQ) :=by
 refine dM D dI (fun ds M Q E hS=>by obtain⟨ae,n,e,_⟩:=hS;rw[e];rfl) fun A outer s E Γ ds Q' E' hP hw hK ht hr hS=>?_
 obtain⟨ae,n,e,O,q⟩:=hS;refine⟨_,(aj (bb (i:=1) dI.nd rfl (ma rfl) yO)
  (aj (fI xp rfl (fM (K:=K) rfl (aG fQ (hr.mono (by decide)) rfl cA.mg cA.fn.kp cA.bd bf hP hw hK ht XR.none (aa (qv 0) af))) (fun oS eP ew eK et=>by have hP:=hP.trans eP.symm;have hw:=hw.trans ew.symm;have hK:=hK.trans eK.symm;have ht:=ht.trans et.symm;exact⟨(lC (n:=2) rfl (cO (aI (i:=2) dI.nd rfl (ma rfl)) (cO (aI (i:=3) dI.nd rfl (ma rfl)) jt))),(au (fI xp rfl (nG false false (K:=K) rfl rfl bl.zip_ (bU (dB (K:=K) rfl) (qv 0) (qv 2) (fun _ _=>rfl)) (bU (dB (K:=K) rfl) (qv 0) (qv 3) (fun _ _=>rfl))) (fun oS eP ew eK et=>by have hP:=hP.trans eP.symm;have hw:=hw.trans ew.symm;have hK:=hK.trans eK.symm;have ht:=ht.trans et.symm;exact⟨(lC (n:=2) rfl (cO (aI (i:=4) dI.nd rfl (ma rfl)) (cO (aI (i:=5) dI.nd rfl (ma rfl)) jt))),(au (fL (mM (K:=K) rfl zn So SB n6 (mM (K:=K) rfl PySem.F.plainAttrs_dict PySem.F.slot_dict_setdefault PySem.F.type_dict_setdefault (IW hr.units) (qv 1) (aa (aG oA (hr.mono (by decide)) rfl gG.mg gG.fn.kp gG.bd bf hP hw hK ht XR.none (aa (qv 4) (aa (qv 5) af))) (aa (nA af) af))) (aa (jb (aa (qv 2) (aa (qv 3) af))) af))))⟩)))⟩))
  (au (aO (qv 1))))),?_⟩
 subst e;have h9:=O.nine;have GP:=O.wid;have big:(1000:Nat)<sizeLine :=by decide
 simp! only[];intro c hc;refine⟨ae,n,rfl,O,?_⟩;refine cV (fun i ρ M=>∃as,(∃x2 x3 x4 x5,ρ=[some (eN ae),some (.ptr c),x2,x3,x4,x5])/\ComM Γ.M0 M c as (((ay ae.length).take i).flatMap (gR ae n))) ⟨[],⟨_,_,_,_,rfl⟩,⟨hc,updM_same,rfl,(fun j a q h=>nomatch h),(fun a h=>nomatch h),.nil,.upd hc .refl⟩⟩ (fun i d ρ M N hd hJ hN=>?_) (fun ρ M hJ=>?_)
 ·obtain⟨as,⟨x2,x3,x4,x5,rfl⟩,C⟩:=hJ;obtain⟨p,hp,rfl⟩:=je hd;have GQ:=cr hp;obtain⟨a,b,ft,hb,rfl⟩:=dD.mp GQ;obtain⟨ea,la⟩:=qU O (show a<ae.length by omega)
  obtain⟨eb,lb⟩:=qU O hb;simp! only[ea,eb];refine cV (fun j ρ M=>∃as,(∃x4 x5,ρ=[some (eN ae),some (.ptr c),some (.int (a:Nat)),some (.int (b:Nat)),x4,x5])/\ComM Γ.M0 M c as (((ay ae.length).take i).flatMap (gR ae n)++(gR ae n [(a:Int),(b:Int)]).take j)) ⟨as,⟨_,_,rfl⟩,by simpa using C⟩ (fun j d ρ M N2 hd hJ p0=>?_) (fun ρ M hJ=>?_)
  ·obtain⟨as,⟨x4,x5,rfl⟩,C⟩:=hJ;obtain⟨x,y,rfl,hx,hy⟩:=j0 hd;rw[ce]at hx hy;obtain⟨gx,mV,rfl⟩:=lc.mp hx;obtain⟨gy,UQ,rfl⟩:=lc.mp hy;have hj:j<n :=by have:=(ca.mp mV).1;omega
   have eg:dW ae [(a:Int),(b:Int)] j=mh gx gy :=by
    unfold dW;simp only[Z8,Z9,wE];rw[ci (l:=ae.getD a []),mV,ci (l:=ae.getD b []),UQ];rfl
   obtain⟨E,hE⟩:∃E,E=((ay ae.length).take i).flatMap (gR ae n)++(gR ae n [(a:Int),(b:Int)]).take j:=⟨_,rfl⟩;have eT:((ay ae.length).take i).flatMap (gR ae n)++(gR ae n [(a:Int),(b:Int)]).take (j+1)=E++[(mh gx gy,[(a:Int),(b:Int)])] :=by
    rw[hE,FM];congr 1
    have:(gR ae n [(a:Int),(b:Int)])[j]?=some (mh gx gy,[(a:Int),(b:Int)]) :=by
     unfold gR;rw[ce,Gc hj,<- eg];rfl
    rw[PP,this];rfl
   have Zf:E.length<=111 :=by
    rw[hE,l8,List.length_flatMap];have h1:((((ay ae.length).take i).map fun p=>(gR ae n p).length)).sum<=36 * 3 :=by
     have:(((ay ae.length).take i).map fun p=>(gR ae n p).length)=DD ((ay ae.length).take i).length n :=by
      rw[List.eq_replicate_iff];refine⟨by simp,fun x hx=>?_⟩
      obtain⟨p,_,rfl⟩:=kt.mp hx;simp[gR]
     rw[this,List.sum_replicate_nat];have h1:((ay ae.length).take i).length<=36:=qr (Z6 ..) (pairs_len h9);exact Nat.mul_le_mul h1 (by omega)
    have h2:((gR ae n [(a:Int),(b:Int)]).take j).length<=n:=qr (Z6 ..) (by simp[gR])
    omega
   rw[<- hE]at C;rw[eT]at p0;have UM:=GO E;have Zg:=Mt E (mh gx gy);simp! only[C.cm];refine⟨_,_,rfl,by decide,fun a' hn=>?_⟩
   have sr:c≠a':=fun e=>by have:=C.cm;rw[e,hn]at this;cases this
   simp only[ao sr,C.cm,eS];refine⟨by rw[bv];omega,?_⟩
   rcases zp (q:=mh gx gy) (ks:=cc E) (as:=as.map Dv.ptr) (by rw[bv];exact C.len) with ⟨h1,h2⟩|⟨k,v,h1,h2,h3⟩
   ·simp only[h2,ao (ze sr),updM_same];exact⟨trivial,by decide,by decide,p0 _ _ ⟨as++[a'],⟨_,_,rfl⟩,C.new (p:=[(a:Int),(b:Int)]) h1 hn⟩⟩
   ·rw[ce]at h2;obtain⟨ak,tY,rfl⟩:=lc.mp h2;have KN:=C.am k ak _ tY h1;have dZ:ak≠a':=fun e=>by rw[e,hn]at KN;cases KN
    simp only[h3,ao dZ,KN];exact⟨trivial,by decide,by rw[bv];omega,p0 _ _ ⟨as,⟨_,_,rfl⟩,C.old (p:=[(a:Int),(b:Int)]) h1 tY hn⟩⟩
  ·obtain⟨as,⟨x4,x5,rfl⟩,C⟩:=hJ;refine hN _ _ ⟨as,⟨_,_,_,_,rfl⟩,?_⟩;have e1:((ay ae.length).take (i+1)).flatMap (gR ae n)=((ay ae.length).take i).flatMap (gR ae n)++gR ae n [(a:Int),(b:Int)] :=by
    rw[PP,hp,Nd];simp
   rw[e1];have el:(cj (OR Dv.int (ae.getD a [])) (OR Dv.int (ae.getD b []))).length=n :=by rw[pairsD_len,bv,bv,la,lb,ID]
   rw[el,ZA (l:=gR ae n [(a:Int),(b:Int)]) (by simp[gR])]at C
   exact C
 ·obtain⟨as,⟨x2,x3,x4,x5,rfl⟩,C⟩:=hJ;rw[bv,W1]at C;simp! only[];refine .inr ⟨C.kp,zq ae n,.dt C.c0 C.cm (by rw[bv,bv];exact C.len) fun j d d' e1 e2=>?_,q⟩
  rw[ce]at e1 e2;obtain⟨a,ha,rfl⟩:=lc.mp e1;obtain⟨k,hk,rfl⟩:=lc.mp e2;refine .ptr (C.a0 a (cr ha)).1 (C.am j a k ha hk) rfl fun i d d' e1 e2=>?_
  rw[show gS (iD ae n) k=gS ((ay ae.length).flatMap (gR ae n)) k from rfl,e1]at e2;cases e2;obtain⟨r,_,rfl⟩:=kt.mp (cr e1);exact .pin (jd r)
theorem fi:aS ["coming","goals","found","queue","goal","pair"] ["coming","goals"] (ai fJ):=⟨rfl,rfl,rfl,by decide +kernel,rfl,by decide +kernel,by decide +kernel⟩
def eE (m:Nat):List (List Int):=(ii m).map fun i:Nat=>[(i:Int),(i:Int)]
def jQ (m:Nat):List (List Int):=ay m++eE m
theorem zt {m:Nat}(h:m<=9):(jQ m).length<=45 :=by
 unfold jQ eE;have:=pairs_len h;simp;omega
theorem mi {m:Nat}{p:List Int}:p∈jQ m ↔ ∃a b:Nat,a<=b/\b<m/\p=[(a:Int),(b:Int)] :=by
 unfold jQ eE;rw[rf,dD,kt];constructor
 ·rintro (⟨a,b,h1,h2,rfl⟩|⟨a,h,rfl⟩)
  ·exact⟨a,b,by omega,h2,rfl⟩
  ·exact⟨a,a,cb _,uu.mp h,rfl⟩
 ·rintro⟨a,b,h1,h2,rfl⟩;by_cases e:a=b
  ·subst e;exact .inr ⟨a,uu.mpr h2,rfl⟩
  ·exact .inl ⟨a,b,by omega,h2,rfl⟩
theorem Jj {m:Nat}{x y:Int}(hx:0<=x/\x<m) (hy:0<=y/\y<m):mh x y∈jQ m :=by
 obtain⟨a,rfl⟩:=EU hx.1;obtain⟨b,rfl⟩:=EU hy.1;rw[mi];unfold mh;by_cases h:(a:Int)<(b:Int)
 ·rw[if_pos h];exact⟨a,b,by omega,by omega,rfl⟩
 ·rw[if_neg h];exact⟨b,a,by omega,by omega,rfl⟩
inductive eF (ae:List (List Int)) (n:Nat) (G:List Int->Prop):List Int->Prop where
 |base {p:List Int} (h:G p):eF ae n G p
 |step {p:List Int} {k:Nat} (hp:p∈ay ae.length) (hk:k<n) (h:eF ae n G (dW ae p k)):eF ae n G p
theorem BR {ae:List (List Int)}{n:Nat}{p q:List Int}:p∈gS (iD ae n) q ↔ p∈ay ae.length/\∃k,k<n/\dW ae p k=q :=by
 unfold gS iD gR;simp only[kt,EN,aaZ,uu,decide_eq_true_eq];constructor
 ·rintro⟨e,⟨⟨p',hp,k,hk,rfl⟩,rfl⟩,rfl⟩;exact⟨hp,k,hk,rfl⟩
 ·rintro⟨hp,k,hk,rfl⟩;exact⟨_,⟨⟨p,hp,k,hk,rfl⟩,rfl⟩,rfl⟩
theorem Mu {ae:List (List Int)}{n:Nat}{g:List Int}:(look ((cc (iD ae n)).map kP) ((cc (iD ae n)).map fun q=>Dv.lst ((gS (iD ae n) q).map eI)) (kP g)).getD (.lst [])=.lst ((gS (iD ae n) g).map eI) :=by
 rw[iS];split
 ·rfl
 ·rename_i h;rw[zm h];rfl
def Jk (ks:List (List Int)):Dv:=.dt (ks.map kP) (ks.map fun _=>.bl true)
def GR:bP:=fun ds M Q _=>∃(ae:List (List Int)) (n:Nat) (gs:List (List Int)),ds=[zq ae n,.lst (gs.map eI)]/\bM ae n/\gs.Nodup/\(∀p∈gs,p∈jQ ae.length)/\∀ks:List (List Int),(∀p,p∈ks ↔ eF ae n (·∈gs) p)->ks.length<=45->Q (Jk ks) M
theorem Jl {ae:List (List Int)}{n:Nat}{G:List Int->Prop}(hG:∀p,G p->p∈jQ ae.length) {p:List Int}(h:eF ae n G p):p∈jQ ae.length :=by
 cases h with
 |base h=>exact hG _ h
 |step hp _ _=>exact r9 _ hp
theorem u6 {f:ag}{fd:ln}(D:Df K mg "led_to_some" fJ ["coming","goals"] f fd) (bl:Bl mg) :
  FnOk P w K mg base bh 1 f fd ["coming","goals"] (aU P w K tb GR) :=by
 refine dM D fi (fun ds M Q E hS=>by obtain⟨ae,n,gs,e,_⟩:=hS;rw[e];rfl) fun A outer s E Γ ds Q' E' hP hw hK ht hr hS=>?_
 obtain⟨ae,n,gs,e,O,GU,hu,q⟩:=hS;refine⟨_,(aj (Av (i:=2) hr.units fi.nd rfl rfl (N':=["goal"]) (tn:=1) (idx:=[]) rfl (show aD ["coming","goals","found","queue","goal","pair"] (ai fJ) _ ["goal"] 1 [] from by decide +kernel) (fM (K:=K) rfl (qv 1)) (fun _ _ _ _ _=>(aI (i:=0) (show ut [("goal" : bi)] from by decide +kernel) rfl (ma rfl))) (fun _ _ _ _ _=>bG) (fun _ _ _ _ _=>(qv 0)) (fun _ _ _ _ _=>fA))
  (aj (bb (i:=3) fi.nd rfl (ma rfl) (iQ (LU (K:=K) rfl) rfl bl.list_ iM (aa (qv 1) af)))
  (aj (nX xp (yJ (qv 3))
   (aj (bb (i:=4) fi.nd rfl (ma rfl) (yG (K:=K) rfl zn ZP ZQ SV (qv 3)))
  (au (fI xp rfl (fM (K:=K) rfl (Qz (K:=K) PySem.F.plainAttrs_dict OK PySem.F.type_dict_get (P1 hr.units) (qv 0) (aa (qv 4) (aa (yA af) af)))) (fun oS eP ew eK et=>by have hP:=hP.trans eP.symm;have hw:=hw.trans ew.symm;have hK:=hK.trans eK.symm;have ht:=ht.trans et.symm;exact⟨(aI (i:=5) fi.nd rfl (ma rfl)),(au (bN (bj (se hr.units) (qv 5) (qv 2) (by rfl))
   (aj (uT hr.units (qv 2) (qv 5) fA)
  (au (fL (mM (K:=K) rfl zn So SB n6 (qv 3) (aa (qv 5) af)))))
   qss_nil))⟩)))))
  (au (aO (qv 2)))))),?_⟩
 subst e;have h9:=O.nine;have GP:=O.wid;have big:(1000:Nat)<sizeLine :=by decide
 have vJ:gs.length<=45:=qr (ej _ _ GU hu) (zt h9);simp! only[];refine Gs (fun i ks es τ M=>(∃x,τ=[x])/\M=Γ.M0/\ks=(gs.take i).map kP/\es=(gs.take i).map fun _=>Dv.bl true) (i:=0) ⟨⟨_,rfl⟩,rfl,rfl,rfl⟩ (fun i d ks es τ M hd hI R hR=>?_) fun ks es τ M hI=>?_
 ·obtain⟨⟨x,rfl⟩,rfl,rfl,rfl⟩:=hI;obtain⟨p,hp,rfl⟩:=je hd;simp! only[eS,Mc];have hl:(gs.take i).length<=45:=qr (Z6 ..) vJ;have Wh:p ∉ gs.take i:=fun h=>by
   obtain⟨j,hj⟩:=l7.mp h;rw[List.getElem?_take]at hj;split at hj
   ·have hi:=(ca.mp hp).1;have:=(aaK (ca.mp hj).1 GU).mp (hj.trans hp.symm);omega
   ·cases hj
  obtain⟨p1,p2⟩:=qQ (k:=kP p) (d:=Dv.bl true) (ks:=(gs.take i).map kP) (ds:=(gs.take i).map fun _=>Dv.bl true) fun h=>Wh ((m6 qi).mp h)
  rw[p1,p2];have et:gs.take (i+1)=gs.take i++[p] :=by rw[PP,hp];rfl
  refine⟨by omega,hR _ _ _ _ ⟨⟨_,rfl⟩,rfl,?_,?_⟩⟩
  ·rw[Mc,et,mv];rfl
  ·rw[Mc,et,mv];rfl
 ·obtain⟨⟨x,rfl⟩,rfl,rfl,rfl⟩:=hI;rw[bv,Mc,W1];intro a ha b hb;have GV:b≠a:=fun z=>by rw[z,updM_same]at hb;cases hb
  have vM:Γ.M0 b=none :=by rw[ao GV]at hb;exact hb
  let I:Nat->List (List Int)->List (List Int)->aC->Mh->Prop:=fun m ks qs ρ M=>(∃x4 x5,ρ=[some (zq ae n),some (.lst (gs.map eI)),some (.ptr a),some (.ptr b),x4,x5])/\M a=some (.dt (ks.map kP) (ks.map fun _=>Dv.bl true))/\M b=some (.lst (qs.map eI))/\Keeps Γ.M0 M/\ks.Nodup/\(∀x∈qs,x∈ks)/\(∀x∈gs,x∈ks)/\(∀x∈ks,eF ae n (·∈gs) x)/\2 * (45 - ks.length)+qs.length=m/\m<=200
  have ku:∀ks:List (List Int),ks.Nodup->(∀x∈ks,eF ae n (·∈gs) x)->ks.length<=45:=fun ks h1 h2=>qr (ej _ _ h1 fun x hx=>Jl hu (h2 x hx)) (zt h9)
  refine⟨fun m ρ M=>∃ks qs,I m ks qs ρ M/\∀g∈ks,g∈qs\/∀p∈gS (iD ae n) g,p∈ks,⟨_,gs,gs,⟨⟨_,_,rfl⟩,by rw[ao (ze GV),updM_same],updM_same,.upd vM (.upd ha .refl),GU,fun x h=>h,fun x h=>h,fun x h=>.base h,rfl,by omega⟩,fun g hg=>.inl hg⟩,?_⟩
  rintro m ρ M ⟨ks,qs,⟨⟨x4,x5,rfl⟩,zu,Yq,kp,k1,k2,k3,k4,rfl,Yr⟩,cq⟩;have kl:=ku ks k1 k4;simp! only[Yq,truD];rcases List.eq_nil_or_concat qs with rfl|⟨qs,g,rfl⟩
  ·rw[if_neg (by simp)]
   refine .inr ⟨kp,Jk ks,.dt ha zu rfl fun j d d' e1 e2=>?_,q ks (fun p=>⟨k4 p,fun h=>?_⟩) kl⟩
   ·rw[e1]at e2;cases e2;obtain⟨_,_,rfl⟩:=kt.mp (cr e1);exact .pin (.bl true)
   ·induction h with
    |base h=>exact k3 _ h
    |step hp hk _ ih=>exact((cq _ ih).resolve_left (fun z=>nomatch z)) _ (BR.mpr ⟨hp,_,hk,rfl⟩)
  ·rw[List.concat_eq_append]at *;have e1:(OR eI (qs++[g])).isEmpty=false :=by simp
   have e2:(OR eI (qs++[g]))[(qs++[g]).length - 1]?=some (.tup (g.map Dv.int)) :=by simp[eI]
   have e3:(OR eI (qs++[g])).dropLast=qs.map eI :=by simp
   rw[if_pos (by rw[e1];rfl)]
   simp only[e2,e3,zq,eS,Mu];refine⟨trivial,mf _,?_⟩;have hg:g∈ks:=k2 g (by simp)
   refine cV (fun i ρ M=>∃f9 zv m2,I m2 f9 zv ρ M/\m2<2 * (45 - ks.length)+(qs++[g]).length/\(∀x∈ks,x∈f9)/\(∀h∈f9,h=g\/h∈zv\/∀p∈gS (iD ae n) h,p∈f9)/\∀p∈(gS (iD ae n) g).take i,p∈f9)
    ⟨ks,qs,_,⟨⟨_,_,rfl⟩,by rw[ao (ze GV)];exact zu,updM_same,.upd vM kp,k1,fun x hx=>k2 x (by simp[hx]),k3,k4,rfl,by rw[l8,GT]at Yr;omega⟩,by rw[l8,GT];omega,fun x h=>h,fun h hh=>?_,fun p hp=>by simp at hp⟩ (fun i d ρ M N2 hd hJ p0=>?_) (fun ρ M hJ=>?_)
   ·rcases cq h hh with z|z
    ·rcases rf.mp z with z|z
     ·exact .inr (.inl z)
     ·exact .inl (io.mp z)
    ·exact .inr (.inr z)
   ·obtain⟨f9,zv,m2,⟨⟨y4,y5,rfl⟩,wu,UR,zx,g1,g2,g3,g4,rfl,Ys⟩,gm,GC,KO,gt⟩:=hJ;obtain⟨p,hp,rfl⟩:=je hd;have gl:=ku f9 g1 g4;have pm:=cr hp;have pl:eF ae n (·∈gs) p :=by
     obtain⟨h1,k,hk,h2⟩:=BR.mp pm;exact .step h1 hk (h2▸g4 g (GC g hg))
    have et:(gS (iD ae n) g).take (i+1)=(gS (iD ae n) g).take i++[p] :=by rw[PP,hp];rfl
    simp! only[wu,eS,iS];by_cases gP:p∈f9
    ·rw[if_pos gP,if_neg (by simp)]
     refine p0 _ _ ⟨f9,zv,_,⟨⟨_,_,rfl⟩,wu,UR,zx,g1,g2,g3,g4,rfl,Ys⟩,gm,GC,KO,fun x hx=>?_⟩
     rw[et]at hx;rcases rf.mp hx with z|z
     ·exact gt x z
     ·rw[io.mp z];exact gP
    ·rw[if_neg gP,if_pos (by simp)]
     obtain⟨p1,p2⟩:=qQ (k:=kP p) (d:=Dv.bl true) (ks:=f9.map kP) (ds:=f9.map fun _=>Dv.bl true) fun h=>gP ((m6 qi).mp h)
     have uh:(f9++[p]).Nodup :=by
      rw[Da];exact⟨g1,by simp,fun x hx y hy e=>gP (by rw[io.mp hy]at e;rw[<- e];exact hx)⟩
     have l2:∀x∈f9++[p],eF ae n (·∈gs) x:=fun x hx=>by
      rcases rf.mp hx with z|z
      ·exact g4 x z
      ·rw[io.mp z];exact pl
     have Yt:=ku _ uh l2;rw[l8,GT]at Yt;simp only[p1,p2,ao GV,UR];refine⟨by omega,trivial,by rw[bv];omega,p0 _ _ ⟨f9++[p],zv++[p],_,⟨⟨_,_,rfl⟩,?_,?_,.upd vM (.upd ha zx),uh,fun x hx=>?_,fun x hx=>r9 _ (g3 x hx),l2,rfl,?_⟩,?_,fun x hx=>r9 _ (GC x hx),fun h hh=>?_,fun x hx=>?_⟩⟩
     ·rw[ao (ze GV),updM_same,mv,mv];rfl
     ·rw[updM_same,mv];rfl
     ·rcases rf.mp hx with z|z
      ·exact r9 _ (g2 x z)
      ·exact li _ z
     ·rw[l8,l8,GT];omega
     ·rw[l8,l8,GT];omega
     ·rcases rf.mp hh with z|z
      ·rcases KO h z with w|w|w
       ·exact .inl w
       ·exact .inr (.inl (r9 _ w))
       ·exact .inr (.inr fun r hr=>r9 _ (w r hr))
      ·exact .inr (.inl (li _ z))
     ·rw[et]at hx;rcases rf.mp hx with z|z
      ·exact r9 _ (gt x z)
      ·exact li _ z
   ·obtain⟨f9,zv,m2,h1,gm,GC,KO,gt⟩:=hJ;rw[bv,W1]at gt;exact⟨m2,gm,f9,zv,h1,fun h hh=>by
     rcases KO h hh with rfl|z
     ·exact .inr gt
     ·exact z⟩
end
section
variable {P:ff}{w:im}{K:ba}{mg:bi->Option al}{base:hX}{tb:cf}{C_NoNet:ag}
theorem jk:aS ["net","ends","called"] ["net"] (ai di):=⟨rfl,rfl,rfl,by decide +kernel,rfl,by decide +kernel,by decide +kernel⟩
open Classical in
noncomputable def su (ae:List (List Int)) (n:Nat) (G:List Int->Prop):List (List Int):=(ay ae.length).filter fun p=>decide (¬ eF ae n G p)
noncomputable def ie (ae:List (List Int)) (n:Nat):List (List Int):=su ae n (·∈eE ae.length)
open Classical in
theorem Mv {ae:List (List Int)}{n:Nat}{G:List Int->Prop}{p:List Int}:p∈su ae n G ↔ p∈ay ae.length/\¬ eF ae n G p :=by
 unfold su;rw[EN,decide_eq_true_eq]
theorem BU {ae:List (List Int)}{n:Nat}{G:List Int->Prop}(h9:ae.length<=9):(su ae n G).length<=36:=qr (WA _ _) (pairs_len h9)
open Classical in
theorem Jm {ae:List (List Int)}{n:Nat}{G:List Int->Prop}{ks:List (List Int)}(h:∀p,p∈ks ↔ eF ae n G p) :
  ((ay ae.length).map eI).filter (fun d=>match d with | .tup es=>(match fD es with|some k => !(look (ks.map kP) (ks.map fun _=>Dv.bl true) k).isSome|none=>false)|_=>false)=(su ae n G).map eI :=by
 unfold su;rw[aba];congr 1
 refine aaL fun p _=>?_
 show (match fD (p.map Dv.int) with|some k => !(look (ks.map kP) (ks.map fun _=>Dv.bl true) k).isSome|none=>false)=_
 rw[eS];dsimp only;rw[iS];by_cases z:p∈ks
 ·rw[if_pos z];exact(decide_eq_false fun w=>w ((h p).mp z)).symm
 ·rw[if_neg z];exact(decide_eq_true (p:=¬ eF ae n G p) fun w=>z ((h p).mpr w)).symm
theorem Mw (m:Nat):(eE m).Nodup :=by
 unfold eE;exact aaM.mpr (List.nodup_range.imp fun h e=>h (by have:=(Cn e).1;omega))
theorem oB {S S':bP}{cx:iI}{k:Nat}{f:ag}{fd:ln}{ps:List bi}(G:FnOk P w K mg base cx k f fd ps (aU P w K tb S')) (h:∀ds M Q E,S ds M Q E->S' ds M Q E):FnOk P w K mg base cx k f fd ps (aU P w K tb S):=
 G.imp fun vs H Q E ⟨β,ds,M,Q',E',e1,e2,e3,e4,m,r,hS,q,qe⟩=>⟨β,ds,M,Q',E',e1,e2,e3,e4,m,r,h _ _ _ _ hS,q,qe⟩
def u9:bP:=fun ds M Q _=>∃ae n,ds=[eN ae]/\bM ae n/\Q (.lst ((ie ae n).map eI)) M
def va:bP:=fun ds M Q _=>∃ae n,ds=[eN ae]/\bM ae n/\∀a,M a=none->Q (.ptr a) (aw M a (.lst ((ie ae n).map eI)))
def Jn:bP:=fun ds M Q _=>∃ae n,ds=[eN ae]/\bM ae n/\((∀a,M a=none->Q (.ptr a) (aw M a (.lst ((ie ae n).map eI))))\/Q (.lst ((ie ae n).map eI)) M)
theorem ui {f f1 f2 f3 f4:ag}{fd bT fd2 kj GW:ln}(D:Df K mg "never_called" di ["net"] f fd)
  (cS:Df K mg "need_net" jh ["thing"] f1 bT) (gH:FnOk P w K mg base (eX P w) 7 f1 bT ["thing"] (aU P w K tb (Ds C_NoNet)))
  (cA:Df K mg "all_pairs" fO ["net"] f2 fd2) (fQ:FnOk P w K mg base bh 1 f2 fd2 ["net"] (aU P w K tb zj))
  (dX:Df K mg "coming_pairs" gE ["net"] f3 kj) (vb:FnOk P w K mg base bh 2 f3 kj ["net"] (aU P w K tb BQ))
  (eu:Df K mg "led_to_some" fJ ["coming","goals"] f4 GW) (wL:FnOk P w K mg base bh 1 f4 GW ["coming","goals"] (aU P w K tb GR)) (bl:Bl mg) :
  FnOk P w K mg base (eX P w) 8 f fd ["net"] (aU P w K tb Jn) :=by
 refine xa D jk (fun ds M Q E hS=>by obtain⟨ae,n,e,_⟩:=hS;rw[e];rfl) fun A outer s E Γ ds Q' E' hP hw hK ht hE hr hS=>?_
 obtain⟨ae,n,e,O,q⟩:=hS;refine⟨_,(aj (fL (aG gH (hr.mono (by decide)) rfl cS.mg cS.fn.kp cS.bd CJ hP hw hK ht hE (aa (qv 0) af)))
  (aj (tR (i:=1) jk.nd rfl rfl (N':=["place"]) (tn:=1) (idx:=[]) rfl (show aD ["net","ends","called"] (ai di) _ ["place"] 1 [] from by decide +kernel) (cu rfl bl.range_ (aa (av (dr (K:=K) rfl hK) rfl bl.len_ u4 (aa (qv 0) af)) af)) (fun _ _ _ _ _=>(aI (i:=0) (show ut [("place" : bi)] from by decide +kernel) rfl (ma rfl))) (fun _ _ _ _ _=>bG) (fun _ _ _ _ _=>(jb (aa (qv 0) (aa (qv 0) af)))))
  (aj (bb (i:=2) jk.nd rfl (GE rfl) (aG wL (hr.mono (by decide)) rfl eu.mg eu.fn.kp eu.bd bf hP hw hK ht XR.none (aa (aG vb (hr.mono (by decide)) rfl dX.mg dX.fn.kp dX.bd bf hP hw hK ht XR.none (aa (qv 0) af)) (aa (qv 1) af))))
  (au (aO (jc (N':=["pair","called"]) (tn:=1) (idx:=[2]) rfl (show aD ["net","ends","called"] (ai di) _ ["pair","called"] 1 [2] from by decide +kernel) (fM (K:=K) rfl (aG fQ (hr.mono (by decide)) rfl cA.mg cA.fn.kp cA.bd bf hP hw hK ht XR.none (aa (qv 0) af))) (fun _ _ _ _ _=>(aI (i:=0) (show ut [("pair" : bi),("called" : bi)] from by decide +kernel) rfl (ma rfl))) (fun _ _ _ _ _=>(qE (bj (se hr.units) (qv 0) (qv 1) (by rfl)))) (fun _ _ _ _ _=>(qv 0)))))))),?_⟩
 subst e;have h9:=O.nine;have big:(1000:Nat)<sizeLine :=by decide
 refine⟨_,rfl,BP ae,fun _=>?_,fun h=>by rw[BO O]at h;cases h⟩
 simp! only[];refine⟨by omega,by omega,by omega,?_⟩
 refine jx (fun d=>match d with | .int i=>eI [i,i]|d=>d) (fun τ M=>(∃x,τ=[x])/\M=Γ.M0) ⟨⟨_,rfl⟩,rfl⟩ (fun d hd τ M hJ R k=>?_) (fun τ M hJ=>?_)
 ·obtain⟨⟨x,rfl⟩,rfl⟩:=hJ;obtain⟨i,hi⟩:=l7.mp hd;obtain⟨rfl,fX⟩:=dC hi;simp! only[];have k:=k [some (.int (i:Nat))] Γ.M0 ⟨⟨_,rfl⟩,rfl⟩;simp only[Sm]at k;exact⟨by omega,k⟩
 ·obtain⟨⟨x,rfl⟩,rfl⟩:=hJ;have e:((cP 0 ae.length).map fun d=>match d with | .int i=>eI [i,i]|d=>d)=(eE ae.length).map eI :=by
   unfold cP eE;rw[xy,xy];refine Nl fun i _=>?_
   show eI [0+(i:Int),0+(i:Int)]=_;rw[Sm];rfl
  rw[e];have du:∀p∈eE ae.length,p∈jQ ae.length:=fun p hp=>li _ hp
  refine⟨ae,n,rfl,O,ae,n,eE ae.length,rfl,O,Mw _,du,fun ks QR hl=>?_⟩
  refine⟨ae,n,rfl,O,?_⟩;have pl:=pairs_len h9;have ol:=BU (n:=n) (G:=(·∈eE ae.length)) h9;simp! only[];refine⟨by omega,lH _ (fun d hd R hR=>?_) (by rw[Jm QR];exact fun a ha=>q.elim (fun q=>.inl (q a ha)) fun q=>pS (.upd ha .refl) ha updM_same (fun d hd=>by obtain⟨r,_,rfl⟩:=kt.mp hd;exact jd r) q)⟩
  obtain⟨p,hp,rfl⟩:=kt.mp hd;simp only[eI,eS]at hR;simp! only[Jk,eS];exact hR
end
section
variable {P:ff}{w:im}{K:ba}{mg:bi->Option al}{base:hX}{tb:cf}
theorem qj:aS ["_law_found","_law_due"] ["_law_found","_law_due"] (ai eQ):=⟨rfl,rfl,rfl,by decide +kernel,rfl,by decide +kernel,by decide +kernel⟩
def qV:Nat->Dv->Prop
 |0,d=>∃i,d=.int i
 |n+1,d=>∃xs:List Dv,(d=.lst xs\/d=.tup xs)/\xs.length<=1000/\∀x∈xs,qV n x
def xk (n:Nat):bP:=fun ds M Q _=>∃d,ds=[d,d]/\qV n d/\Q (.bl true) M
theorem uj {xs:List Dv}{d:Dv}(h:d∈cj xs xs):∃x∈xs,d=.tup [x,x] :=by
 obtain⟨i,hi⟩:=l7.mp h;obtain⟨x,y,rfl,h1,h2⟩:=j0 hi;rw[h1]at h2;cases h2;exact⟨x,cr h1,rfl⟩
theorem uk:∀n:Nat,boolsD (DD n (Dv.bl true))=some (DD n true)
 |n=>by
          have:=oi (DD n true);rwa [List.map_replicate]at this
theorem Jo {d:Dv}{t:Dt}{M:Mh}{Q:ZK}(h:bW (now M d)=some t) (hp:jW t<=60) (q:Q (.bl true) M):pP false d d M Q :=by
 unfold pP;rw[h];refine⟨hp,?_⟩;rw[nR];exact q
theorem GX {f:ag}{fd:ln}{k:Nat}:FnOk P w K mg base bh k f fd ["_law_found","_law_due"] (aU P w K tb fun _ _ _ _=>False):=
 have no:∀{vs H Q E},aU P w K tb (fun _ _ _ _=>False) vs H Q E->False:=fun h=>by obtain⟨β,ds,M,Q',E',_,_,_,_,m,rs,s,_⟩:=h;exact s
 ⟨fun _ _ _ _ h=>(no h).elim,fun _ _ _ _ _ _ _ _ _ _ _ _ _ h=>(no h).elim⟩
theorem GY {f:ag}{fd:ln}(D:Df K mg "_law_like" eQ ["_law_found","_law_due"] f fd) (bl:Bl mg):FnOk P w K mg base bh 1 f fd ["_law_found","_law_due"] (aU P w K tb (xk 0)) :=by
 have bg:=D;have fR:=GX (P:=P) (w:=w) (K:=K) (mg:=mg) (base:=base) (tb:=tb) (f:=f) (fd:=fd) (k:=0);refine dM D qj (fun ds M Q E hS=>by obtain⟨d,e,_⟩:=hS;rw[e];rfl) fun A outer s E Γ ds Q' E' hP hw hK ht hr hS=>?_
 obtain⟨d,e,h,q⟩:=hS;refine⟨_,(aj (bN (QW.pt (mK (dA (av (bo (K:=K) rfl) rfl bl.isinstance_ aH (aa (qv 1) (aa (bz (v:=.ty "list") rfl bl.list_ iM rfl) af)))) (jZ (dA (av (bo (K:=K) rfl) rfl bl.isinstance_ aH (aa (qv 1) (aa (bz (v:=.ty "tuple") rfl bl.tuple_ dJ rfl) af)))))))
   (aj (bN (QW.pt (mK (bj yD (av (bo (K:=K) rfl) rfl bl.isinstance_ aH (aa (qv 1) (aa (bz (v:=.ty "list") rfl bl.list_ iM rfl) af))) (av (bo (K:=K) rfl) rfl bl.isinstance_ aH (aa (qv 0) (aa (bz (v:=.ty "list") rfl bl.list_ iM rfl) af))) (a9 _)) (jZ (bj yD (av (bo (K:=K) rfl) rfl bl.isinstance_ aH (aa (qv 1) (aa (bz (v:=.ty "tuple") rfl bl.tuple_ dJ rfl) af))) (av (bo (K:=K) rfl) rfl bl.isinstance_ aH (aa (qv 0) (aa (bz (v:=.ty "tuple") rfl bl.tuple_ dJ rfl) af))) (a9 _)))))
   (au (aO fA))
   qss_nil)
  (au (aO (fH (eZ j7 (av (dr (K:=K) rfl hK) rfl bl.len_ u4 (aa (qv 0) af)) (av (dr (K:=K) rfl hK) rfl bl.len_ u4 (aa (qv 1) af)) (a9 _)) (ia (av (FQ (K:=K) rfl rfl) rfl bl.all_ E7 (aa (cz (N':=["_law_one","_law_other"]) (tn:=2) (idx:=[]) rfl (show aD ["_law_found","_law_due"] (ai eQ) _ ["_law_one","_law_other"] 2 [] from by decide +kernel) (Kv (nG true true (K:=K) rfl rfl bl.zip_ (qv 0) (qv 1)) (nG false false (K:=K) rfl rfl bl.zip_ (qv 0) (qv 1))) (fun _ _ _ _ _=>(lC (n:=2) rfl (cO (aI (i:=0) (show ut [("_law_one" : bi),("_law_other" : bi)] from by decide +kernel) rfl (ma rfl)) (cO (aI (i:=1) (show ut [("_law_one" : bi),("_law_other" : bi)] from by decide +kernel) rfl (ma rfl)) jt)))) (fun _ _ _ _ _=>bG) (fun _ _ _ _ _=>(aG fR hr rfl bg.mg bg.fn.kp bg.bd bf hP hw hK ht XR.none (aa (qv 0) (aa (qv 1) af))))) af)))))))
   qss_nil)
  (aj (bN (dA (av (bo (K:=K) rfl) rfl bl.isinstance_ aH (aa (qv 1) (aa (bz (v:=.ty "str") rfl bl.str_ tj rfl) af))))
   (au (aO (fH (av (bo (K:=K) rfl) rfl bl.isinstance_ aH (aa (qv 0) (aa (bz (v:=.ty "str") rfl bl.str_ tj rfl) af))) (ia (eZ (qH hr.units) (qv 0) (qv 1) (a9 _))))))
   qss_nil)
  (aj (bN (bj w9 (qv 1) tL (a9 _))
   (au (aO (eZ w9 (qv 0) tL (a9 _))))
   qss_nil)
  (au (aO (fH (av (bo (K:=K) rfl) rfl bl.isinstance_ aH (aa (qv 0) (aa (bz (v:=.ty "int") rfl bl.int_ xT rfl) af))) (fH (yz (av (bo (K:=K) rfl) rfl bl.isinstance_ aH (aa (qv 0) (aa (bz (v:=.ty "bool") rfl bl.bool_ uE rfl) af)))) (ia (eZ (qH hr.units) (qv 0) (qv 1) (a9 _)))))))))),?_⟩
 subst e;obtain⟨i,rfl⟩:=h;simp! only[];exact⟨by decide,by decide,by decide,by decide,by decide,Jo rfl (Nat.le_of_ble_eq_true rfl) (.inl q)⟩
theorem wx {f:ag}{fd:ln}{n k:Nat}(D:Df K mg "_law_like" eQ ["_law_found","_law_due"] f fd) (fR:FnOk P w K mg base bh k f fd ["_law_found","_law_due"] (aU P w K tb (xk n))) (bl:Bl mg):FnOk P w K mg base bh (k+1) f fd ["_law_found","_law_due"] (aU P w K tb (xk (n+1))) :=by
 have bg:=D;refine dM D qj (fun ds M Q E hS=>by obtain⟨d,e,_⟩:=hS;rw[e];rfl) fun A outer s E Γ ds Q' E' hP hw hK ht hr hS=>?_
 obtain⟨d,e,h,q⟩:=hS;refine⟨_,(aj (bN (QW.pt (mK (dA (av (bo (K:=K) rfl) rfl bl.isinstance_ aH (aa (qv 1) (aa (bz (v:=.ty "list") rfl bl.list_ iM rfl) af)))) (jZ (dA (av (bo (K:=K) rfl) rfl bl.isinstance_ aH (aa (qv 1) (aa (bz (v:=.ty "tuple") rfl bl.tuple_ dJ rfl) af)))))))
   (aj (bN (QW.pt (mK (bj yD (av (bo (K:=K) rfl) rfl bl.isinstance_ aH (aa (qv 1) (aa (bz (v:=.ty "list") rfl bl.list_ iM rfl) af))) (av (bo (K:=K) rfl) rfl bl.isinstance_ aH (aa (qv 0) (aa (bz (v:=.ty "list") rfl bl.list_ iM rfl) af))) (a9 _)) (jZ (bj yD (av (bo (K:=K) rfl) rfl bl.isinstance_ aH (aa (qv 1) (aa (bz (v:=.ty "tuple") rfl bl.tuple_ dJ rfl) af))) (av (bo (K:=K) rfl) rfl bl.isinstance_ aH (aa (qv 0) (aa (bz (v:=.ty "tuple") rfl bl.tuple_ dJ rfl) af))) (a9 _)))))
   (au (aO fA))
   qss_nil)
  (au (aO (fH (eZ j7 (av (dr (K:=K) rfl hK) rfl bl.len_ u4 (aa (qv 0) af)) (av (dr (K:=K) rfl hK) rfl bl.len_ u4 (aa (qv 1) af)) (a9 _)) (ia (av (FQ (K:=K) rfl rfl) rfl bl.all_ E7 (aa (cz (N':=["_law_one","_law_other"]) (tn:=2) (idx:=[]) rfl (show aD ["_law_found","_law_due"] (ai eQ) _ ["_law_one","_law_other"] 2 [] from by decide +kernel) (Kv (nG true true (K:=K) rfl rfl bl.zip_ (qv 0) (qv 1)) (nG false false (K:=K) rfl rfl bl.zip_ (qv 0) (qv 1))) (fun _ _ _ _ _=>(lC (n:=2) rfl (cO (aI (i:=0) (show ut [("_law_one" : bi),("_law_other" : bi)] from by decide +kernel) rfl (ma rfl)) (cO (aI (i:=1) (show ut [("_law_one" : bi),("_law_other" : bi)] from by decide +kernel) rfl (ma rfl)) jt)))) (fun _ _ _ _ _=>bG) (fun _ _ _ _ _=>(aG fR hr rfl bg.mg bg.fn.kp bg.bd bf hP hw hK ht XR.none (aa (qv 0) (aa (qv 1) af))))) af)))))))
   qss_nil)
  (aj (bN (dA (av (bo (K:=K) rfl) rfl bl.isinstance_ aH (aa (qv 1) (aa (bz (v:=.ty "str") rfl bl.str_ tj rfl) af))))
   (au (aO (fH (av (bo (K:=K) rfl) rfl bl.isinstance_ aH (aa (qv 0) (aa (bz (v:=.ty "str") rfl bl.str_ tj rfl) af))) (ia (eZ (qH hr.units) (qv 0) (qv 1) (a9 _))))))
   qss_nil)
  (aj (bN (bj w9 (qv 1) tL (a9 _))
   (au (aO (eZ w9 (qv 0) tL (a9 _))))
   qss_nil)
  (au (aO (fH (av (bo (K:=K) rfl) rfl bl.isinstance_ aH (aa (qv 0) (aa (bz (v:=.ty "int") rfl bl.int_ xT rfl) af))) (fH (yz (av (bo (K:=K) rfl) rfl bl.isinstance_ aH (aa (qv 0) (aa (bz (v:=.ty "bool") rfl bl.bool_ uE rfl) af)))) (ia (eZ (qH hr.units) (qv 0) (qv 1) (a9 _)))))))))),?_⟩
 subst e;obtain⟨xs,hd,hl,hx⟩:=h;have big:(1000:Nat)<sizeLine :=by decide
 rcases hd with rfl|rfl
 ·simp! only[];refine⟨by decide,by decide,by decide,by decide,by decide,.inl ?_⟩
  simp! only[];refine⟨by omega,jx (fun _=>.bl true) (fun τ M=>(∃x y,τ=[x,y])/\M=Γ.M0) ⟨⟨_,_,rfl⟩,rfl⟩ (fun d hd τ M hI R hR=>?_) (fun τ M hI=>?_)⟩
  ·obtain⟨⟨x,y,rfl⟩,rfl⟩:=hI;obtain⟨z,hz,rfl⟩:=uj hd;simp! only[];exact⟨z,rfl,hx z hz,hR _ _ ⟨⟨_,_,rfl⟩,rfl⟩⟩
  ·obtain⟨⟨x,y,rfl⟩,rfl⟩:=hI;rw[List.map_const',uk];have:(DD (cj xs xs).length true).all id=true :=by simp
   show jw Γ.M0 Q' (.bl ((DD (cj xs xs).length true).all id)) Γ.M0;rw[this];exact .inl q
 ·simp! only[];refine⟨by decide,by decide,by decide,by decide,by decide,by decide,.inr ?_⟩
  simp! only[];refine⟨by omega,jx (fun _=>.bl true) (fun τ M=>(∃x y,τ=[x,y])/\M=Γ.M0) ⟨⟨_,_,rfl⟩,rfl⟩ (fun d hd τ M hI R hR=>?_) (fun τ M hI=>?_)⟩
  ·obtain⟨⟨x,y,rfl⟩,rfl⟩:=hI;obtain⟨z,hz,rfl⟩:=uj hd;simp! only[];exact⟨z,rfl,hx z hz,hR _ _ ⟨⟨_,_,rfl⟩,rfl⟩⟩
  ·obtain⟨⟨x,y,rfl⟩,rfl⟩:=hI;rw[List.map_const',uk];have:(DD (cj xs xs).length true).all id=true :=by simp
   show jw Γ.M0 Q' (.bl ((DD (cj xs xs).length true).all id)) Γ.M0;rw[this];exact .inl q
theorem j8:aS ["_law_many","_law_found","_law_other"] ["_law_many"] (ai gz):=⟨rfl,rfl,rfl,by decide +kernel,rfl,by decide +kernel,by decide +kernel⟩
theorem wM:aS ["_law_net_here","_law_pair"] ["_law_net_here","_law_pair"] (ai fe):=⟨rfl,rfl,rfl,by decide +kernel,rfl,by decide +kernel,by decide +kernel⟩
theorem ig:aS ["_law_net_here","_law_pair","_law_found","_law_at","_law_there"] ["_law_net_here","_law_pair"] (ai kO):=⟨rfl,rfl,rfl,by decide +kernel,rfl,by decide +kernel,by decide +kernel⟩
theorem km:aS ["_law_net_here","_law_pairs_here","_law_here"] ["_law_net_here","_law_pairs_here"] (ai d7):=⟨rfl,rfl,rfl,by decide +kernel,rfl,by decide +kernel,by decide +kernel⟩
def mj (m:Nat):List (List Int):=(ii m).flatMap fun j=>(ii j).map fun i:Nat=>[(i:Int),(j:Int)]
theorem um {m:Nat}(h:m<=9):jM (mj m)=ay m/\(mj m).length<=36 :=by
 refine⟨(sh ?_ ?_).symm,?_⟩
 all_goals
  have:m=0\/m=1\/m=2\/m=3\/m=4\/m=5\/m=6\/m=7\/m=8\/m=9 :=by omega
  rcases this with rfl|rfl|rfl|rfl|rfl|rfl|rfl|rfl|rfl|rfl<;>decide +kernel
def BV:bP:=fun ds M Q _=>∃m:Nat,ds=[.int (m:Nat)]/\m<=9/\Q (.lst ((ay m).map eI)) M
theorem zy {f:ag}{fd:ln}(D:Df K mg "_law_pairs" gz ["_law_many"] f fd) (bl:Bl mg):FnOk P w K mg base bh 1 f fd ["_law_many"] (aU P w K tb BV) :=by
 refine dM D j8 (fun ds M Q E hS=>by obtain⟨m,e,_⟩:=hS;rw[e];rfl) fun A outer s E Γ ds Q' E' hP hw hK ht hr hS=>?_
 obtain⟨m,e,h9,q⟩:=hS;refine⟨_,(aj (bb (i:=1) j8.nd rfl (ma rfl) (nA af))
  (aj (fI xp rfl (cu rfl bl.range_ (aa (qv 0) af)) (fun oS eP ew eK et=>by have hP:=hP.trans eP.symm;have hw:=hw.trans ew.symm;have hK:=hK.trans eK.symm;have ht:=ht.trans et.symm;exact⟨(aI (i:=2) j8.nd rfl (GE rfl)),(au (fL (mM (K:=K) rfl zn PySem.F.slot_list_extend PySem.F.type_list_extend IC (qv 1) (aa (cz (N':=["_law_one","_law_other"]) (tn:=1) (idx:=[2]) rfl (show aD ["_law_many","_law_found","_law_other"] (ai gz) _ ["_law_one","_law_other"] 1 [2] from by decide +kernel) (cu rfl bl.range_ (aa (qv 2) af)) (fun _ _ _ _ _=>(aI (i:=0) (show ut [("_law_one" : bi),("_law_other" : bi)] from by decide +kernel) rfl (ma rfl))) (fun _ _ _ _ _=>bG) (fun _ _ _ _ _=>(jb (aa (qv 0) (aa (qv 1) af))))) af))))⟩))
  (au (aO (av (BI (K:=K) rfl) rfl bl.sorted_ jX (aa (qv 1) af)))))),?_⟩
 subst e;have big:(1000:Nat)<sizeLine :=by decide
 obtain⟨hs,hlen⟩:=um h9;simp! only[];refine⟨by omega,fun a ha=>⟨by omega,by omega,?_⟩⟩
 refine cV (fun j ρ M=>(∃x,ρ=[some (.int (m:Nat)),some (.ptr a),x])/\M=aw Γ.M0 a (.lst (((ii j).flatMap fun j=>(ii j).map fun i:Nat=>[(i:Int),(j:Int)]).map eI))/\j<=m) ⟨⟨_,rfl⟩,rfl,mf _⟩ (fun j d ρ M N hd hJ hN=>?_) (fun ρ M hJ=>?_)
 ·obtain⟨⟨x,rfl⟩,rfl,hj⟩:=hJ;obtain⟨rfl,QU⟩:=dC hd;simp! only[];have Zh:j<m :=by omega
  refine⟨by omega,by omega,by omega,jx (fun d=>match d with | .int i=>eI [i,(j:Int)]|d=>d) (fun τ M'=>(∃x,τ=[x,some (.int (j:Nat))])/\M'=aw Γ.M0 a (.lst (((ii j).flatMap fun j=>(ii j).map fun i:Nat=>[(i:Int),(j:Int)]).map eI))) ⟨⟨_,rfl⟩,rfl⟩ (fun d hd τ M' hI R hR=>?_) (fun τ M' hI=>?_)⟩
  ·obtain⟨⟨x,rfl⟩,rfl⟩:=hI;obtain⟨i,hi⟩:=l7.mp hd;obtain⟨rfl,fX⟩:=dC hi;have k:=hR [some (.int (0+(i:Nat))),some (.int (j:Nat))] _ ⟨⟨_,rfl⟩,rfl⟩;simp! only[];simp only[Sm]at k ⊢;exact⟨by omega,k⟩
  ·obtain⟨⟨x,rfl⟩,rfl⟩:=hI;have e:((cP 0 j).map fun d=>match d with | .int i=>eI [i,(j:Int)]|d=>d)=((ii j).map fun i:Nat=>[(i:Int),(j:Int)]).map eI :=by
    unfold cP;rw[xy,xy];refine Nl fun i _=>?_
    show eI [0+(i:Int),(j:Int)]=_;rw[Sm];rfl
   rw[e];simp only[updM_same];have pre:((ii (j+1)).flatMap fun j=>(ii j).map fun i:Nat=>[(i:Int),(j:Int)]) <+: mj m :=by
    unfold mj;have ht:ii m=ii (j+1)++(ii (m - (j+1))).map (fun x=>j+1+x) :=by
     rw[<- List.range_add];congr 1;omega
    rw[ht,Nd];exact Zp _ _
   have es:((ii (j+1)).flatMap fun j=>(ii j).map fun i:Nat=>[(i:Int),(j:Int)])=((ii j).flatMap fun j=>(ii j).map fun i:Nat=>[(i:Int),(j:Int)])++(ii j).map fun i:Nat=>[(i:Int),(j:Int)] :=by
    rw[Z4,Nd];simp
   have hl:=pre.length_le;rw[es,l8]at hl;refine⟨(fun t h=>nomatch h),by rw[bv,bv];omega,hN _ _ ⟨⟨_,rfl⟩,?_,by omega⟩⟩
   rw[updM_updM,es,mv]
 ·obtain⟨⟨x,rfl⟩,rfl,hj⟩:=hJ;rw[rangeD_len];simp! only[];show (match (some ((mj m).map eI)).bind jN with|some rs=>_|none=>False)
  rw[ZJ,j4];refine⟨by show (mj m).length<64;omega,fun r hr=>?_,?_⟩
  ·obtain⟨j,_,hr⟩:=aaZ.mp hr;obtain⟨i,_,rfl⟩:=kt.mp hr;exact fun h=>nomatch h
  ·refine pR (.upd ha .refl) (.lst fun d hd=>?_) ?_
   ·obtain⟨r,_,rfl⟩:=kt.mp hd;exact jd r
   ·show Q' (.lst ((jM (mj m)).map eI)) _;rw[hs];exact q
def vc:bP:=fun ds M Q _=>∃ae n p,ds=[eN ae,eI p]/\bM ae n/\p∈ay ae.length/\Q (.lst (((ii n).map (dW ae p)).map eI)) M
theorem GZ (x y:Int):mh x y=[min x y,max x y] :=by
 unfold mh;by_cases h:x<y
 ·rw[if_pos h,show min x y=x by omega,show max x y=y by omega]
 ·rw[if_neg h,show min x y=y by omega,show max x y=x by omega]
theorem zz {f:ag}{fd:ln}(D:Df K mg "_law_goals" fe ["_law_net_here","_law_pair"] f fd) (bl:Bl mg):FnOk P w K mg base bh 1 f fd ["_law_net_here","_law_pair"] (aU P w K tb vc) :=by
 refine dM D wM (fun ds M Q E hS=>by obtain⟨ae,n,p,e,_⟩:=hS;rw[e];rfl) fun A outer s E Γ ds Q' E' hP hw hK ht hr hS=>?_
 obtain⟨ae,n,p,e,O,hp,q⟩:=hS;refine⟨_,(au (aO (cz (N':=["_law_one","_law_other"]) (tn:=2) (idx:=[]) rfl (show aD ["_law_net_here","_law_pair"] (ai fe) _ ["_law_one","_law_other"] 2 [] from by decide +kernel) (nG false false (K:=K) rfl rfl bl.zip_ (bU (dB (K:=K) rfl) (qv 0) (bU (dB (K:=K) rfl) (qv 1) aB (fun _ _=>rfl)) (fun _ _=>rfl)) (bU (dB (K:=K) rfl) (qv 0) (bU (dB (K:=K) rfl) (qv 1) aB (fun _ _=>rfl)) (fun _ _=>rfl))) (fun _ _ _ _ _=>(lC (n:=2) rfl (cO (aI (i:=0) (show ut [("_law_one" : bi),("_law_other" : bi)] from by decide +kernel) rfl (ma rfl)) (cO (aI (i:=1) (show ut [("_law_one" : bi),("_law_other" : bi)] from by decide +kernel) rfl (ma rfl)) jt)))) (fun _ _ _ _ _=>bG) (fun _ _ _ _ _=>(jb (aa (av (yE rfl) rfl bl.min_ xU (aa (qv 0) (aa (qv 1) af))) (aa (av (FI rfl) rfl bl.max_ EH (aa (qv 0) (aa (qv 1) af))) af))))))),?_⟩
 subst e;have h9:=O.nine;have GP:=O.wid;have big:(1000:Nat)<sizeLine :=by decide
 obtain⟨a,b,ft,hb,rfl⟩:=dD.mp hp;obtain⟨ea,la⟩:=qU O (show a<ae.length by omega)
 obtain⟨eb,lb⟩:=qU O hb;have i1:dF [Dv.int (a:Nat),Dv.int (b:Nat)] 1=some (.int (b:Nat)):=rfl;simp! only[i1,ea,eb];have el:(cj (OR Dv.int (ae.getD a [])) (OR Dv.int (ae.getD b []))).length=n :=by rw[pairsD_len,bv,bv,la,lb,ID]
 refine⟨by omega,?_⟩
 refine jx (fun d=>match d with | .tup [.int x,.int y]=>eI (mh x y)|d=>d) (fun τ M=>(∃x y,τ=[x,y])/\M=Γ.M0) ⟨⟨_,_,rfl⟩,rfl⟩ (fun d hd τ M hJ R k=>?_) (fun τ M hJ=>?_)
 ·obtain⟨⟨x,y,rfl⟩,rfl⟩:=hJ;obtain⟨j,hj⟩:=l7.mp hd;obtain⟨x,y,rfl,hx,hy⟩:=j0 hj;rw[ce]at hx hy;obtain⟨gx,mV,rfl⟩:=lc.mp hx;obtain⟨gy,UQ,rfl⟩:=lc.mp hy;simp! only[];have k:=k [some (.int gx),some (.int gy)] Γ.M0 ⟨⟨_,_,rfl⟩,rfl⟩;have m1:min gx gy=if gy<gx then gy else gx :=by split<;>omega
  have m2:max gx gy=if gy > gx then gy else gx :=by split<;>omega
  simp only[GZ,m1,m2]at k;exact⟨by decide,k⟩
 ·obtain⟨⟨x,y,rfl⟩,rfl⟩:=hJ;refine .inl ?_;have e:((cj (OR Dv.int (ae.getD a [])) (OR Dv.int (ae.getD b []))).map fun d=>match d with | .tup [.int x,.int y]=>eI (mh x y)|d=>d)=((ii n).map (dW ae [(a:Int),(b:Int)])).map eI :=by
   refine aaU (by rw[bv,el];simp) fun j h1 h2=>?_
   simp only[bv,Me]at h2;have hj:j<(ae.getD a []).length :=by omega
   have QU:j<(ae.getD b []).length :=by omega
   simp only[aaX,Zo];obtain⟨x,y,e,hx,hy⟩:=j0 (ap (show j<(cj (OR Dv.int (ae.getD a [])) (OR Dv.int (ae.getD b []))).length by omega))
   rw[e];rw[ce,ap hj]at hx;rw[ce,ap QU]at hy;cases hx;cases hy;unfold dW;simp only[Z8,Z9,wE];rw[ci (l:=ae.getD a []),ap hj,ci (l:=ae.getD b []),ap QU];rfl
  rw[e];exact q
inductive gT (ae:List (List Int)) (n:Nat) (p:List Int):List Int->Prop where
 |base:gT ae n p p
 |step {q:List Int} {k:Nat} (h:gT ae n p q) (hk:k<n) (hp:dW ae q k∈ay ae.length):gT ae n p (dW ae q k)
theorem gT.mem {ae:List (List Int)}{n:Nat}{p q:List Int}(hp:p∈ay ae.length) (h:gT ae n p q):q∈ay ae.length :=by
 cases h with
 |base=>exact hp
 |step _ _ h=>exact h
theorem gT.trans {ae:List (List Int)}{n:Nat}{p q r:List Int}(h:gT ae n p q) (h2:gT ae n q r):gT ae n p r :=by
 induction h2 with
 |base=>exact h
 |step _ hk hp ih=>exact .step ih hk hp
theorem BW {ae:List (List Int)}{n:Nat}{G:List Int->Prop}{p:List Int}(hp:p∈ay ae.length):eF ae n G p ↔ ∃q,gT ae n p q/\(G q\/∃k,k<n/\G (dW ae q k)) :=by
 constructor
 ·intro h;induction h with
  |base h=>exact⟨_,.base,.inl h⟩
  | @step p k hp hk h ih=>
   by_cases hq:dW ae p k∈ay ae.length
   ·obtain⟨q,h1,h2⟩:=ih hq;exact⟨q,(gT.step .base hk hq).trans h1,h2⟩
   ·cases h with
    |base h=>exact⟨p,.base,.inr ⟨k,hk,h⟩⟩
    |step h _ _=>exact absurd h hq
 ·rintro⟨q,h1,h2⟩;have hq:eF ae n G q :=by
   rcases h2 with h|⟨k,hk,h⟩
   ·exact .base h
   ·exact .step (h1.mem hp) hk (.base h)
  clear h2
  induction h1 with
  |base=>exact hq
  |step h hk _ ih=>exact ih (.step (h.mem hp) hk hq)
theorem Mx (ks:List (List Int)):ip (ks.map eI)=some (ks.map fun k=>Dt.tup (k.map Dt.int)):=Br Ki ks
theorem BX (x:List Int):∀ks:List (List Int),((ks.map fun k=>Dt.tup (k.map Dt.int)).any fun t=>da t (.tup (x.map Dt.int)))=decide (x∈ks)
 | []=>rfl
 |k::ks=>by
          rw[mo,aaB,BX x ks];have:da (.tup (k.map Dt.int)) (.tup (x.map Dt.int))=decide (k=x) :=by rw[da,og]
          rw[this];by_cases e:k=x
          ·subst e;simp
          ·have e':¬ x=k:=fun z=>e z.symm
           simp[e,e']
theorem MA {neg:Bool}{M:Mh}{c:ag}{ks:List (List Int)}{g:List Int}{Q:ZK}(hc:M c=some (.lst (ks.map eI))) (q:Q (.bl (if neg then !decide (g∈ks) else decide (g∈ks))) M):yM neg (eI g) (.ptr c) M Q :=by
 unfold yM;have e1:now M (eI g)=eI g:=rfl;have e2:now M (.ptr c)=.lst (ks.map eI) :=by simp only[now,hc]
 rw[e1,e2,Ki];simp only[Mx,BX];refine⟨fun t ht=>?_,q⟩
 obtain⟨k,_,rfl⟩:=kt.mp ht;rw[jW];have:=Bs k;omega
def KP:bP:=fun ds M Q _=>∃(ae:List (List Int)) (n:Nat) (p:List Int),ds=[eN ae,eI p]/\bM ae n/\p∈ay ae.length/\∀L:List (List Int),(∀q,q∈L ↔ gT ae n p q)->L.Nodup->L.length<=36->Q (.lst (L.map eI)) M
theorem qW {ae:List (List Int)}{n:Nat}(O:bM ae n) {p:List Int}(hp:p∈ay ae.length) {k:Nat}(hk:k<n):dW ae p k∈jQ ae.length :=by
 obtain⟨a,b,ft,hb,rfl⟩:=dD.mp hp;unfold dW;simp only[Z8,Z9,wE];have at_:∀c:Nat,c<ae.length->0<=(ae.getD c []).getD k 0/\(ae.getD c []).getD k 0<ae.length:=fun c hc=>by
  have e:ae.getD c []=ae[c] :=by rw[ci,ap hc];rfl
  obtain⟨h1,h2⟩:=O.row _ (tz hc);rw[e,ci,ap (by omega)]
  exact h2 _ (tz _)
 exact Jj (at_ a (by omega)) (at_ b hb)
theorem Du {f f1:ag}{fd bT:ln}(D:Df K mg "_law_led" kO ["_law_net_here","_law_pair"] f fd)
  (bX:Df K mg "_law_goals" fe ["_law_net_here","_law_pair"] f1 bT) (mn:FnOk P w K mg base bh 1 f1 bT ["_law_net_here","_law_pair"] (aU P w K tb vc)) (bl:Bl mg):FnOk P w K mg base bh 2 f fd ["_law_net_here","_law_pair"] (aU P w K tb KP) :=by
 refine dM D ig (fun ds M Q E hS=>by obtain⟨ae,n,p,e,_⟩:=hS;rw[e];rfl) fun A outer s E Γ ds Q' E' hP hw hK ht hr hS=>?_
 obtain⟨ae,n,p,e,O,hp,q⟩:=hS;refine⟨_,(aj (bb (i:=2) ig.nd rfl (ma rfl) (nA (aa (qv 1) af)))
  (aj (bb (i:=3) ig.nd rfl (ma rfl) aB)
  (aj (nX xp (bj nY (qv 3) (av (dr (K:=K) rfl hK) rfl bl.len_ u4 (aa (qv 2) af)) (a9 _))
   (aj (fI xp rfl (fM (K:=K) rfl (aG mn (hr.mono (by decide)) rfl bX.mg bX.fn.kp bX.bd bf hP hw hK ht XR.none (aa (qv 0) (aa (bU (dB (K:=K) rfl) (qv 2) (qv 3) (fun _ _=>rfl)) af)))) (fun oS eP ew eK et=>by have hP:=hP.trans eP.symm;have hw:=hw.trans ew.symm;have hK:=hK.trans eK.symm;have ht:=ht.trans et.symm;exact⟨(aI (i:=4) ig.nd rfl (ma rfl)),(au (bN (QW.pt (yy (bj nY (bU (dB (K:=K) rfl) (qv 4) aB (fun _ _=>rfl)) (bU (dB (K:=K) rfl) (qv 4) aB (fun _ _=>rfl)) (a9 _)) (uK (bj (IG hr.units) (qv 4) (qv 2) (by rfl)))))
   (au (fL (mM (K:=K) rfl zn So SB n6 (qv 2) (aa (qv 4) af))))
   qss_nil))⟩))
  (au (bb (i:=3) ig.nd rfl (ma rfl) (bB il (qv 3) aB)))))
  (au (aO (qv 2)))))),?_⟩
 subst e;have h9:=O.nine;have GP:=O.wid;have big:(1000:Nat)<sizeLine :=by decide
 have QV:∀L:List (List Int),L.Nodup->(∀x∈L,gT ae n p x)->L.length<=36:=fun L h1 h2=>qr (ej _ _ h1 fun x hx=>(h2 x hx).mem hp) (pairs_len h9)
 simp! only[];refine⟨by omega,fun a ha=>?_⟩
 refine⟨fun m ρ M=>∃(L:List (List Int)) (i:Nat),m=36 - i/\(∃x,ρ=[some (eN ae),some (eI p),some (.ptr a),some (.int (i:Nat)),x])/\M=aw Γ.M0 a (.lst (L.map eI))/\L.Nodup/\p∈L/\i<=L.length/\(∀x∈L,gT ae n p x)/\∀j x,L[j]?=some x->j<i->∀k,k<n->dW ae x k∈ay ae.length->dW ae x k∈L,
  ⟨_,[p],0,rfl,⟨_,rfl⟩,rfl,by simp,by simp,mf _,fun x hx=>by rw[io.mp hx];exact .base,fun j x _ h=>absurd h (YI _)⟩,?_⟩
 rintro m ρ M ⟨L,i,rfl,⟨x,rfl⟩,rfl,nd,UT,hi,wy,cq⟩;have Yu:=QV L nd wy;simp! only[bv];refine eB (fun h1=>?_) (fun h1=>?_)
 ·have aN:i<L.length :=by have:=of_decide_eq_true h1;omega
  have eg:dF (L.map eI) (i:Int)=some (eI L[i]):=eh (by rw[ce,ap aN];rfl)
  have hg:L[i]∈L:=tz aN;have QX:=(wy _ hg).mem hp;obtain⟨g,rC⟩:∃g,g=L[i]:=⟨_,rfl⟩;rw[<- rC]at eg hg QX;simp only[eg];refine⟨ae,n,g,rfl,O,QX,?_⟩;refine cV (fun k ρ M=>∃L2:List (List Int),(∃x,ρ=[some (eN ae),some (eI p),some (.ptr a),some (.int (i:Nat)),x])/\M=aw Γ.M0 a (.lst (L2.map eI))/\L2.Nodup/\L <+: L2/\(∀x∈L2,gT ae n p x)/\∀k',k'<k->dW ae g k'∈ay ae.length->dW ae g k'∈L2) ⟨L,⟨_,rfl⟩,rfl,nd,abb,wy,fun k h=>absurd h (YI _)⟩ (fun k d ρ M N hd hJ hN=>?_) (fun ρ M hJ=>?_)
  ·obtain⟨L2,⟨x,rfl⟩,rfl,uh,pre,vK,BG⟩:=hJ;obtain⟨r,hr,rfl⟩:=je hd;rw[ce]at hr;obtain⟨k',jV,rfl⟩:=lc.mp hr;have QY:k<n :=by have:=(ca.mp jV).1;simpa using this
   rw[Gc QY]at jV;cases jV;obtain⟨u,v,QZ,hv,er⟩:=mi.mp (qW O QX QY);have Q0:dW ae g k∈ay ae.length->gT ae n p (dW ae g k):=fun h=>.step (wy _ hg) QY h
   have YT:=QV L2 uh vK;have fin:∀L3:List (List Int),L2 <+: L3->(dW ae g k∈ay ae.length->dW ae g k∈L3)->∀k',k'<k+1->dW ae g k'∈ay ae.length->dW ae g k'∈L3:=fun L3 h h2 k' jV hm=>by
    by_cases e:k'=k
    ·subst e;exact h2 hm
    ·exact h.subset (BG k' (by omega) hm)
   obtain⟨r,Gy⟩:∃r,r=dW ae g k:=⟨_,rfl⟩;rw[<- Gy]at er Q0 fin ⊢;have UU:r∈ay ae.length ↔ u<v :=by
    rw[dD,er];constructor
    ·rintro⟨a,b,h1,h2,e⟩;have e1:=(Cn e).1;have e2:=(Cn (Cn e).2).1;omega
    ·exact fun h=>⟨u,v,h,hv,rfl⟩
   subst er;have i1:dF [Dv.int (u:Nat),Dv.int (v:Nat)] 1=some (.int (v:Nat)):=rfl;simp! only[i1];refine eB (fun h=>?_) (fun h=>?_)
   ·have Jp:u<v :=by have:=of_decide_eq_true h;omega
    have hm:=UU.mpr Jp;refine MA (g:=[(u:Int),(v:Int)]) updM_same ?_;simp! only[];by_cases gP:[(u:Int),(v:Int)]∈L2
    ·rw[decide_eq_true gP,if_neg (by decide)]
     exact hN _ _ ⟨L2,⟨_,rfl⟩,rfl,uh,pre,vK,fin L2 abb fun _=>gP⟩
    ·rw[decide_eq_false gP,if_pos (by decide)]
     refine⟨by omega,hN _ _ ⟨L2++[[(u:Int),(v:Int)]],⟨_,rfl⟩,by rw[mv];rfl,?_,pre.trans (Zp _ _),fun x hx=>?_,fin _ (Zp _ _) fun _=>by simp⟩⟩
     ·rw[Da];exact⟨uh,by simp,fun x hx y hy e=>gP (by rw[io.mp hy]at e;rw[<- e];exact hx)⟩
     ·rcases rf.mp hx with z|z
      ·exact vK x z
      ·rw[io.mp z];exact Q0 hm
   ·have Jp:¬ u<v :=by have:=of_decide_eq_false h;omega
    exact hN _ _ ⟨L2,⟨_,rfl⟩,rfl,uh,pre,vK,fin L2 abb fun h=>absurd (UU.mp h) Jp⟩
  ·obtain⟨L2,⟨x,rfl⟩,rfl,uh,pre,vK,BG⟩:=hJ;rw[bv,bv,Me]at BG;simp! only[];have cL:=pre.length_le;refine⟨36 - (i+1),by omega,L2,i+1,rfl,⟨_,rfl⟩,rfl,uh,pre.subset UT,by omega,vK,fun j y hj UW k hk hm=>?_⟩
   obtain⟨t,ht⟩:=pre;have GL:L[j]?=some y :=by
    rw[<- ht,ww (by omega)]at hj
    exact hj
   by_cases e:j=i
   ·subst e;rw[ap aN]at GL;cases GL;rw[<- rC]at hm ⊢;exact BG k hk hm
   ·rw[<- ht];exact r9 _ (cq j y GL (by omega) k hk hm)
 ·have hle:i=L.length :=by have:=of_decide_eq_false h1;omega
  refine pS (.upd ha .refl) ha updM_same (fun d hd=>by obtain⟨r,_,rfl⟩:=kt.mp hd;exact jd r) (q L (fun x=>⟨wy x,fun h=>?_⟩) nd Yu)
  induction h with
  |base=>exact UT
  | @step y k h hk hm ih=>
   obtain⟨j,hj⟩:=l7.mp ih;exact cq j y hj (by have:=(ca.mp hj).1;omega) k hk hm
end
def mq (ns:List Int):List Int:=sortI (dP ns)
theorem mr {ns:List Int}{k:Int}:k∈mq ns ↔ k∈ns:=(sortI_perm _).mem_iff.trans HS
theorem jR (ns:List Int):(mq ns).Pairwise (· < ·) :=by
 have h1:=yh (dP ns);have h2:(mq ns).Nodup:=(sortI_perm _).nodup_iff.mpr (Cu ns);exact(aau.and h1 h2).imp fun⟨a,b⟩=>by omega
theorem oC:∀{a b:List Int},a.Pairwise (· < ·)->b.Pairwise (· < ·)->(∀k,k∈a ↔ k∈b)->a=b
 | [],[],_,_,_=>rfl
 | [],y::b,_,_,h=>by have:=(h y).mpr i8;cases this
 |x::a,[],_,_,h=>by have:=(h x).mp i8;cases this
 |x::a,y::b,ha,hb,h=>by
          obtain⟨UX,Yv⟩:=LS.mp ha;obtain⟨tD,Bc⟩:=LS.mp hb;have Yw:x=y :=by
           rcases i4.mp ((h x).mp i8) with e|e
           ·exact e
           ·rcases i4.mp ((h y).mpr i8) with e'|e'
            ·exact e'.symm
            ·have:=tD x e;have:=UX y e';omega
          subst Yw;congr 1
          refine oC Yv Bc fun k=>⟨fun hk=>?_,fun hk=>?_⟩
          ·rcases i4.mp ((h k).mp (en _ hk)) with e|e
           ·have:=UX k hk;omega
           ·exact e
          ·rcases i4.mp ((h k).mpr (en _ hk)) with e|e
           ·have:=tD k hk;omega
           ·exact e
theorem j5 {ns:List Int}(h:ns.Pairwise (· < ·)):mq ns=ns:=oC (jR _) h fun _=>mr
theorem uo {a b:List Int}(h:∀k,k∈a ↔ k∈b):mq a=mq b:=oC (jR _) (jR _) fun k=>mr.trans ((h k).trans mr.symm)
structure gI (m:Nat) (ns:List Int):Prop where
 str:ns.Pairwise (· < ·)
 rng:∀p∈ns,0<=p/\p<(m:Int)
 ne:ns≠[]
theorem uq {m:Nat}:∀{ns:List Int}{lo:Int},ns.Pairwise (· < ·)->(∀p∈ns,lo<=p/\p<(m:Int))->(ns.length:Int)<=max 0 ((m:Int) - lo)
 | [],lo,_,_=>by simp;omega
 |x::ns,lo,h,hr=>by
          obtain⟨h1,h2⟩:=LS.mp h;obtain⟨r1,r2⟩:=hr x i8;have:=uq (lo:=x+1) h2 fun p hp=>⟨h1 p hp,(hr p (en _ hp)).2⟩
          rw[AL];omega
theorem gI.len {m:Nat}{ns:List Int}(h:gI m ns):ns.length<=m :=by
 have:=uq (lo:=0) h.str h.rng;omega
theorem Dw (n:Nat):(g9 n).length=n :=by simp[g9]
section
variable {P:ff}{w:im}{K:ba}{mg:bi->Option al}{base:hX}{tb:cf}
theorem fj:aS ["start","width","step","most","found","queue","met","at","goal"] ["start","width","step","most"] (ai jO):=⟨rfl,rfl,rfl,by decide +kernel,rfl,by decide +kernel,by decide +kernel⟩
def G0 (cI:List Dv) (step:List Int->Nat->List Int) (U:List (List Int)) (n:Nat):List Dv->bP:=fun Wi ds M Q _=>Wi=cI/\∃(p:List Int) (a:Nat),ds=[eI p,.int ((a:Nat):Int)]/\p∈U/\a<n/\Q (eI (step p a)) M
def kT (k:List Int):List Key:=k.map Pf
theorem G1 (a b:List Int) (h:kT a=kT b):a=b :=by
 have:=congrArg (OR fun k:Key=>match k with | .inl i=>i | .inr _=>0) h
 simpa[kT,xy,Function.comp_def] using this
theorem zA (k:List Int):fD (k.map Dv.int)=some (kT k):=om k
def Dx (r:List (List Int)×List bi):Dv:=.dt (r.1.map kT) (r.2.map Dv.str)
def BZ (P:ff) (w:im) (K:ba) (mg:bi->Option al) (tb:cf) (base:hX):bP:=fun ds M Q _=>∃(s:List Int) (step:List Int->Nat->List Int) (U:List (List Int)) (n most:Nat) (f:ag) (fd:ln) (o:kw) (c:ag) (oc:kw) (vcs:List V) (cI:List Dv) (ps:List bi),
 ds=[eI s,.int (n:Nat),.b7 f o c oc vcs cI,.int (most:Nat)]/\FnOk P w K mg base bh 6 f fd ps (Kp P w K tb f o c oc vcs (G0 cI step U n))/\(∃oc od fd sl,o=⟨oc,od,.func fd,sl⟩)/\Binds K fd ps []/\n<=3/\s∈U/\(∀k∈U,∀a,a<n->step k a∈U)/\U.length<=10000 /\
 Q (Dx (met step n most U.length s)) M
theorem zB {f:ag}{fd:ln}{dv:List al}(D:Ko K mg "first_met" jO ["start","width","step","most"] dv f fd) (bl:Bl mg) {tk:aaR}(mw:mg "SIGNS" = some (.str "abc" tk)) :
  FnOk P w K mg base bh 7 f fd ["start","width","step","most"] (aU P w K tb (BZ P w K mg tb base)) :=by
 refine SY D fj (fun ds M Q E hS=>by obtain⟨s,step,U,n,most,f,fd,o,c,oc,vcs,cI,ps,e,_⟩:=hS;rw[e];rfl) fun A outer s0 E Γ ds Q' E' hP hw hK ht hr hS=>?_
 obtain⟨s,step,U,n,most,f,fd,o,c,oc,vcs,cI,ps,e,Q3,Q4,Q5,hn,hs,hU,hl,q⟩:=hS;refine⟨_,(aj (bb (i:=4) fj.nd rfl (ma rfl) (FV hr.units (qv 0) yu))
  (aj (bb (i:=5) fj.nd rfl (ma rfl) (nA (aa (qv 0) af)))
  (aj (nX xp (QW.pt (yy (yJ (qv 5)) (uK (bj CU (av Qk rfl bl.len_ u4 (aa (qv 4) af)) (qv 3) (a9 _)))))
   (aj (bb (i:=6) fj.nd rfl (ma rfl) (mM (K:=K) rfl zn ZP ZQ Bo (qv 5) (aa aB af)))
  (au (fI xp rfl (cu rfl bl.range_ (aa (qv 1) af)) (fun oS eP ew eK et=>by have hP:=hP.trans eP.symm;have hw:=hw.trans ew.symm;have hK:=hK.trans eK.symm;have ht:=ht.trans et.symm;exact⟨(aI (i:=7) fj.nd rfl (ma rfl)),(aj (bb (i:=8) fj.nd rfl (ma rfl) (IJ (i:=2) Q3 Q4 (hr.mono (by decide)) rfl (ma rfl) Q5 bf hP hw hK ht XR.none (aa (qv 6) (aa (qv 7) af))))
  (au (bN (bj (se hr.units) (qv 8) (qv 4) (by rfl))
   (aj (uT hr.units (qv 4) (qv 8) (bB FG (uS hr.units (qv 4) (qv 6) (fun _ _=>rfl)) (bU (dB (K:=K) rfl) (Iz (z := "abc") rfl mw ⟨_,rfl⟩) (qv 7) (fun _ _=>rfl))))
  (au (fL (mM (K:=K) rfl zn So SB n6 (qv 5) (aa (qv 8) af)))))
   qss_nil)))⟩)))))
  (au (aO (qv 4)))))),?_⟩
 subst e;simp! only[zA];intro a ha;refine⟨by decide,fun qq hq=>?_⟩
 have G2:qq≠a:=fun z=>by rw[z,updM_same]at hq;cases hq
 have Ky:Γ.M0 qq=none :=by rw[ao G2]at hq;exact hq
 have big:(10000:Nat)+10<sizeLine :=by decide
 have UY:∀{M:Mh},(∀b,b≠a->b≠qq->M b=Γ.M0 b)->Keeps Γ.M0 M:=fun h b o e=>by
  rw[h b (fun z=>by rw[z,ha]at e;cases e) (fun z=>by rw[z,Ky]at e;cases e)];exact e
 let I:Nat->List (List Int)×List bi->aC->Mh->Prop:=fun i st ρ M=>(∃x6 x7 x8,ρ=[some (eI s),some (.int (n:Nat)),some (.b7 f o c oc vcs cI),some (.int (most:Nat)),some (.ptr a),some (.ptr qq),x6,x7,x8])/\M a=some (.dt (st.1.map kT) (st.2.map Dv.str))/\M qq=some (.lst ((st.1.drop i).map eI))/\(∀b,b≠a->b≠qq->M b=Γ.M0 b)/\gD U st/\i<=st.1.length
 refine⟨fun m ρ M=>∃i st,m=U.length+1 - i/\I i st ρ M/\lU step n most (U.length+1 - i) i st=met step n most U.length s,⟨_,0,([s],[""]),rfl,⟨⟨_,_,_,rfl⟩,by rw[ao (ze G2),updM_same];rfl,updM_same,fun b h1 h2=>by rw[ao h2,ao h1],mS hs,mf _⟩,rfl⟩,?_⟩
 rintro m ρ M ⟨i,st,rfl,⟨⟨x6,x7,x8,rfl⟩,zu,Yx,Bt,ok,hi⟩,hb⟩;have hle:=ok.le;have Zi:=ok.len;have fin:∀M',M' a=some (.dt (st.1.map kT) (st.2.map Dv.str))->Keeps Γ.M0 M'->st=met step n most U.length s->jw Γ.M0 Q' (.ptr a) M':=fun M' h k e=>.inr ⟨k,Dx st,.dt ha h rfl fun j d d' e1 e2=>by
  rw[e1]at e2;cases e2;obtain⟨w,_,rfl⟩:=kt.mp (cr e1);exact .pin (.str w),by rw[e];exact q⟩
 have Q6:U.length+1 - i=(U.length - i)+1 :=by omega
 simp! only[zu,Yx];refine eB (fun h1=>?_) (fun h1=>?_)
 ·have aN:i<st.1.length :=by
   rcases Lu i st.1.length with h|h
   ·exact h
   ·rw[List.drop_eq_nil_of_le h]at h1;cases h1
  obtain⟨k,hk⟩:∃k,st.1[i]?=some k:=⟨_,ap aN⟩;obtain⟨wd,G3⟩:∃wd,st.2[i]?=some wd:=⟨_,ap (by omega)⟩
  have Q7:k∈U:=ok.sub k (cr hk);refine eB (fun h2=>?_) (fun h2=>?_)
  ·have Dy:st.1.length<=most :=by simpa using h2
   have YJ:(st.1.drop i).length=st.1.length - i:=aaT;have Yy:seqIndex? 0 (st.1.drop i).length=some 0:=(by unfold seqIndex?;simp;omega)
   have e0:((st.1.drop i).map eI)[0]?=some (eI k) :=by rw[sf hk];rfl
   simp only[Yy,e0];refine⟨by decide,by decide,by omega,by omega,?_⟩
   have er:((st.1.drop i).map eI).eraseIdx 0=(st.1.drop (i+1)).map eI :=by rw[sf hk];rfl
   simp only[er];refine cV (fun j ρ M=>(∃x7 x8,ρ=[some (eI s),some (.int (n:Nat)),some (.b7 f o c oc vcs cI),some (.int (most:Nat)),some (.ptr a),some (.ptr qq),some (eI k),x7,x8])/\M a=some (.dt ((visit step k wd j st).1.map kT) ((visit step k wd j st).2.map Dv.str))/\M qq=some (.lst (((visit step k wd j st).1.drop (i+1)).map eI))/\(∀b,b≠a->b≠qq->M b=Γ.M0 b)/\j<=n)
    ⟨⟨_,_,rfl⟩,by rw[ao (ze G2)];exact zu,updM_same,fun b h1 h2=>by rw[ao h2];exact Bt b h1 h2,mf _⟩ (fun j d ρ M N hd ⟨⟨x7,x8,e1⟩,wu,G4,zx,gj⟩ hN=>?_) (fun ρ M ⟨⟨x7,x8,e1⟩,wu,G4,zx,gj⟩=>?_)
   ·subst e1;obtain⟨rfl,hj⟩:=dC hd;obtain⟨gk,gw,g1,g2⟩:=kI step k wd j st;have KQ:=ok.visit (n:=j) (step:=step) (met:=k) G3 fun b hb=>hU k Q7 b (by omega)
    have Zj:=KQ.le;have Wj:=KQ.len;have UZ:(visit step k wd j st).1[i]?=some k :=by rw[g1];exact uX hk
    have U0:(visit step k wd j st).2[i]?=some wd :=by rw[g2];exact uX G3
    have tW:=BF KQ.nd UZ U0;have JT:=KQ.wl i wd U0;have YV:i<(visit step k wd j st).1.length:=(ca.mp UZ).1;simp! only[];refine⟨rfl,k,j,rfl,Q7,hj,?_⟩;simp! only[eI,zA,wu,yV G1,aaJ,Ge Wj];have nx:∀{b8 M'},(∃x7 x8,b8=[some (eI s),some (.int (n:Nat)),some (.b7 f o c oc vcs cI),some (.int (most:Nat)),some (.ptr a),some (.ptr qq),some (eI k),x7,x8])->M' a=some (.dt ((visit step k wd (j+1) st).1.map kT) ((visit step k wd (j+1) st).2.map Dv.str))->M' qq=some (.lst (((visit step k wd (j+1) st).1.drop (i+1)).map eI))->(∀b,b≠a->b≠qq->M' b=Γ.M0 b)->N b8 M':=fun h1 h2 h3 h4=>hN _ _ ⟨h1,h2,h3,h4,hj⟩
    have vs:=jf step k wd j st;refine eB (fun hm=>?_) (fun hm=>?_)
    ·have hm:step k j ∉ (visit step k wd j st).1 :=by simpa using hm
     have hv:visit step k wd (j+1) st=((visit step k wd j st).1++[step k j],(visit step k wd j st).2++[wd++BD j]) :=by rw[vs];unfold jC;rw[if_neg hm]
     obtain⟨p1,p2⟩:=qQ (κ:=List Key) (k:=kT (step k j)) (d:=Dv.str (wd++BD j)) (ks:=(visit step k wd j st).1.map kT) (ds:=(visit step k wd j st).2.map Dv.str) (fun z=>hm ((m6 G1).mp z))
     simp only[tW,BY,Mf (show j<3 by omega)]
     refine⟨by decide,by rw[show (⟨#[97+j]⟩:bi)=BD j from rfl,BE];omega,by omega,?_⟩
     rw[show (⟨#[97+j]⟩:bi)=BD j from rfl,p1,p2];simp only[ao G2,G4];refine⟨trivial,by simp only[bv,aaT];omega,nx ⟨_,_,rfl⟩ ?_ ?_ fun b h1 h2=>by rw[ao h2,ao h1];exact zx b h1 h2⟩
     ·rw[ao (ze G2),updM_same,hv,mv,mv];rfl
     ·rw[updM_same,hv];show some (Mo.lst (_++[_]))=_;rw[List.drop_append_of_le_length (by omega),mv];rfl
    ·have hm:step k j∈(visit step k wd j st).1 :=by simpa using hm
     have hv:visit step k wd (j+1) st=visit step k wd j st :=by rw[vs];unfold jC;rw[if_pos hm]
     exact nx ⟨_,_,rfl⟩ (by rw[hv];exact wu) (by rw[hv];exact G4) zx
   ·subst e1;have UL:(cP 0 n).length=n:=rangeD_len 0 n;rw[UL]at wu G4 gj;have Yz:=ok.visit (n:=n) (step:=step) (met:=k) G3 fun b hb=>hU k Q7 b hb
    obtain⟨gk,gw,g1,g2⟩:=kI step k wd n st;refine⟨U.length+1 - (i+1),by omega,i+1,visit step k wd n st,rfl,⟨⟨_,_,_,rfl⟩,wu,G4,zx,Yz,by rw[g1,l8];omega⟩,?_⟩
    rw[<- hb,Q6,Gd hk G3 Dy];rw[show U.length+1 - (i+1)=U.length - i by omega]
  ·refine fin M zu (UY Bt) ?_;have Dy:¬ st.1.length<=most :=by simpa using h2
   rw[<- hb,Q6];unfold lU;simp only[hk,G3,if_neg Dy]
 ·refine fin M zu (UY Bt) ?_;have h:st.1.length<=i :=by
   rcases Lu i st.1.length with h|h
   ·rw[sf (ap h)]at h1;cases h1
   ·exact h
  rw[<- hb,Q6];unfold lU;have e1:st.1[i]?=none:=LP h;simp only[e1]
end
def zD (st:sw):c8:=match bQ st with | [.Return (some (.Call _ (_::_::l::_) _ _)) _]=>l|_=>.Constant .none 0 ⟨0,0,0,0⟩
def lP (st:sw):NG:=match zD st with | .Lambda p _ _ _=>p|_=>⟨[],[],none,[],[],none,[]⟩
def lB (st:sw):c8:=match zD st with | .Lambda _ b _ _=>b|e=>e
def lS (st:sw):sB:=match zD st with | .Lambda _ _ s _=>s|_=>ai st
def jH (ae:List (List Int)):List Int:=(ii ae.length).map fun i:Nat=>(i:Int)
def eG (ae:List (List Int)) (p:Int) (a:Nat):Int:=(ae.getD p.toNat []).getD a 0
theorem eJ {ae:List (List Int)}{p:Int}:p∈jH ae ↔ 0<=p/\p<(ae.length:Int) :=by
 unfold jH;rw[kt];constructor
 ·rintro⟨i,hi,rfl⟩;have:=uu.mp hi;omega
 ·rintro⟨h1,h2⟩;exact⟨p.toNat,uu.mpr (by omega),by omega⟩
theorem getD_at {α:Type}{l:List α}{i:Nat}{d:α}(h:i<l.length):l.getD i d=l[i] :=by rw[ci,ap h];rfl
theorem Jq {ae:List (List Int)}{n:Nat}(o:bM ae n) {p:Int}(hp:p∈jH ae) {a:Nat}(ha:a<n):eG ae p a∈jH ae :=by
 obtain⟨h1,h2⟩:=eJ.mp hp;have aN:p.toNat<ae.length :=by omega
 obtain⟨e1,e2⟩:=o.row ae[p.toNat] (tz aN);unfold eG;rw[getD_at aN,getD_at (by omega)]
 exact eJ.mpr (e2 _ (tz _))
theorem G5 {ae:List (List Int)}{p:Int}(hp:p∈jH ae):dF (ae.map eI) p=some (eI (ae.getD p.toNat [])) :=by
 obtain⟨h1,h2⟩:=eJ.mp hp;have aN:p.toNat<ae.length :=by omega
 have e:p=((p.toNat:Nat):Int) :=by omega
 rw[e];refine eh ?_;rw[ce,wE,ci,ap aN];rfl
theorem Q8 {ae:List (List Int)}{n:Nat}(o:bM ae n) {p:Int}(hp:p∈jH ae) {a:Nat}(ha:a<n):dF ((ae.getD p.toNat []).map Dv.int) ((a:Nat):Int)=some (.int (eG ae p a)) :=by
 obtain⟨h1,h2⟩:=eJ.mp hp;have aN:p.toNat<ae.length :=by omega
 have e1:=(o.row ae[p.toNat] (tz aN)).1;refine eh ?_;unfold eG;rw[ce,getD_at aN,getD_at (by omega),ap (by omega)]
 rfl
def gJ:List Int->List (List Int)
 | []=>[[]]
 |x::xs=>gJ xs++(gJ xs).map (x::·)
theorem wz:∀xs:List Int,(gJ xs).length=2 ^ xs.length
 | []=>rfl
 |x::xs=>by rw[gJ,l8,bv,wz xs,AL,Nat.pow_succ];omega
theorem qk:∀xs:List Int,[]∈gJ xs
 | []=>io.mpr rfl
 |x::xs=>r9 _ (qk xs)
theorem ql:∀{xs ns:List Int},xs.Pairwise (· < ·)->ns.Pairwise (· < ·)->(∀p∈ns,p∈xs)->ns∈gJ xs
 | [],ns,_,_,h=>by
          cases ns with
          |nil=>exact io.mpr rfl
          |cons y ns=>exact absurd (h y i8) (by simp)
 |x::xs,[],_,_,_=>qk _
 |x::xs,y::ns,hx,hn,h=>by
          obtain⟨x1,x2⟩:=LS.mp hx;obtain⟨n1,n2⟩:=LS.mp hn;have ge:∀p∈y::ns,p≠x->p∈xs:=fun p hp ne=>by
           rcases i4.mp (h p hp) with z|z
           ·exact absurd z ne
           ·exact z
          by_cases e:y=x
          ·subst e;refine li _ (kt.mpr ⟨ns,ql x2 n2 fun p hp=>ge p (en _ hp) fun z=>?_,rfl⟩)
           have:=n1 p hp;omega
          ·refine r9 _ (ql x2 hn fun p hp=>ge p hp fun z=>?_)
           have hy:=x1 y (ge y i8 e);rcases i4.mp hp with q|q
           ·omega
           ·have:=n1 p q;omega
def jl (m:Nat):List (List Int):=(gJ (g9 m)).erase []
theorem qm {m:Nat}(h:m<=9):(jl m).length<=511 :=by
 unfold jl;rw[List.length_erase_of_mem (qk _),wz,Dw];have:2 ^ m<=2 ^ 9:=Nat.pow_le_pow_right (by omega) h
 omega
theorem oU (m:Nat):(g9 m).Pairwise (· < ·) :=by
 unfold g9;exact aaM.mpr (ZB.imp fun h=>by omega)
theorem ur {m:Nat}{p:Int}:p∈g9 m ↔ 0<=p/\p<(m:Int) :=by
 unfold g9;rw[kt];constructor
 ·rintro⟨i,hi,rfl⟩;have:=uu.mp hi;omega
 ·rintro⟨h1,h2⟩;exact⟨p.toNat,uu.mpr (by omega),by omega⟩
theorem j6 {m:Nat}{ns:List Int}:ns∈jl m->gI m ns:=fun h=>by
 have nd:(gJ (g9 m)).Nodup/\∀k∈gJ (g9 m),k.Pairwise (· < ·)/\∀p∈k,p∈g9 m :=by
  have key:∀xs:List Int,xs.Pairwise (· < ·)->(gJ xs).Nodup/\∀k∈gJ xs,k.Pairwise (· < ·)/\∀p∈k,p∈xs :=by
   intro xs;induction xs with
   |nil=>exact fun _=>⟨by simp[gJ],fun k hk=>by rw[io.mp hk];exact⟨.nil,fun _ h=>nomatch h⟩⟩
   |cons x xs ih=>
    intro h;obtain⟨x1,x2⟩:=LS.mp h;obtain⟨i1,i2⟩:=ih x2;refine⟨?_,fun k hk=>?_⟩
    ·rw[gJ,Da];refine⟨i1,aaM.mpr (i1.imp fun h e=>h (Cn e).2),fun a ha b hb e=>?_⟩
     obtain⟨c,hc,rfl⟩:=kt.mp hb;have:=x1 x ((i2 a ha).2 x (by rw[e];exact i8))
     omega
    ·rcases rf.mp hk with z|z
     ·exact⟨(i2 k z).1,fun p hp=>en _ ((i2 k z).2 p hp)⟩
     ·obtain⟨c,hc,rfl⟩:=kt.mp z;refine⟨LS.mpr ⟨fun p hp=>x1 p ((i2 c hc).2 p hp),(i2 c hc).1⟩,fun p hp=>?_⟩
      rcases i4.mp hp with z|z
      ·rw[z];exact i8
      ·exact en _ ((i2 c hc).2 p z)
  exact key _ (oU m)
 unfold jl at h;have h':=(ut.mem_erase_iff nd.1).mp h;exact⟨(nd.2 ns h'.2).1,fun p hp=>ur.mp ((nd.2 ns h'.2).2 p hp),h'.1⟩
theorem fw {m:Nat}{ns:List Int}(h:gI m ns):ns∈jl m:=(List.mem_erase_of_ne h.ne).mpr (ql (oU m) h.str fun p hp=>ur.mpr (h.rng p hp))
def j9 (ae:List (List Int)) (ps:List Int) (a:Nat):List Int:=mq (ps.map fun p=>eG ae p a)
theorem uv {ae:List (List Int)}{n:Nat}(O:bM ae n) {ps:List Int}(h:gI ae.length ps) {a:Nat}(ha:a<n):gI ae.length (j9 ae ps a) :=by
 refine⟨jR _,fun p hp=>?_,fun e=>?_⟩
 ·obtain⟨q,hq,rfl⟩:=kt.mp (mr.mp hp);exact eJ.mp (Jq O (eJ.mpr (h.rng q hq)) ha)
 ·cases ps with
  |nil=>exact h.ne rfl
  |cons p ps=>
   have:eG ae p a∈j9 ae (p::ps) a:=mr.mpr (kt.mpr ⟨p,i8,rfl⟩);rw[e]at this;cases this
section
variable {P:ff}{w:im}{K:ba}{mg:bi->Option al}{base:hX}{tb:cf}
theorem wN:aS ["net","places","at"] ["net","places","at"] (ai fc):=⟨rfl,rfl,rfl,by decide +kernel,rfl,by decide +kernel,by decide +kernel⟩
theorem wO:aS ["net","places"] ["net","places"] (ai aK):=⟨rfl,rfl,rfl,by decide +kernel,rfl,by decide +kernel,by decide +kernel⟩
def qI:bi:=("images_met" ++ ".<locals>." : bi) ++ "<lambda>"
def Td:bP:=fun ds M Q _=>∃ae n ps a,ds=[eN ae,eI ps,.int ((a:Nat):Int)]/\bM ae n/\gI ae.length ps/\a<n/\Q (eI (j9 ae ps a)) M
def KR (ae:List (List Int)) (a:Nat):Dv->Int | .int p=>eG ae p a|_=>0
theorem G6 (ae:List (List Int)) (a:Nat) (ps:List Int):(ps.map Dv.int).map (KR ae a)=ps.map fun p=>eG ae p a :=by rw[xy];rfl
theorem wQ {f:ag}{fd:ln}(D:Df K mg "sign_image" fc ["net","places","at"] f fd) (bl:Bl mg):FnOk P w K mg base bh 1 f fd ["net","places","at"] (aU P w K tb Td) :=by
 refine dM D wN (fun ds M Q E hS=>by obtain⟨ae,n,ps,a,e,_⟩:=hS;rw[e];rfl) fun A outer s0 E Γ ds Q' E' hP hw hK ht hr hS=>?_
 obtain⟨ae,n,ps,a,e,O,hS,ha,q⟩:=hS;refine⟨_,(au (aO (iQ (uM (K:=K) rfl) rfl bl.tuple_ dJ (aa (av (yF hP hw (K:=K) rfl rfl) rfl bl.sorted_ jX (aa (CV hP hw (N':=["place","at","net"]) (tn:=1) (idx:=[2,0]) rfl (show aD ["net","places","at"] (ai fc) _ ["place","at","net"] 1 [2,0] from by decide +kernel) (pL (K:=K) rfl (qv 1)) (fun _ _ _ _ _=>(aI (i:=0) (show ut [("place" : bi),("at" : bi),("net" : bi)] from by decide +kernel) rfl (ma rfl))) (fun _ _ _ _ _=>bG) (fun _ _ _ _ _=>(bU (dB (K:=K) rfl) (bU (dB (K:=K) rfl) (qv 2) (qv 0) (fun _ _=>rfl)) (qv 1) (fun _ _=>rfl)))) af)) af)))),?_⟩
 subst e;have h9:=O.nine;have hl:=hS.len;simp! only[];refine Bq (KR ae a) (fun τ M=>(∃x,τ=[x,some (.int (a:Nat)),some (eN ae)])/\M=Γ.M0) ⟨⟨_,rfl⟩,rfl⟩ (Co (show _<=21 by simp only[Tk,bv];omega) (by decide)) (fun d hd τ M ⟨⟨x,e⟩,eM⟩ R hR=>?_) (fun τ M ⟨⟨x,e⟩,eM⟩=>?_)
 ·subst e eM;obtain⟨p,hp,rfl⟩:=kt.mp hd;have cL:=eJ.mpr (hS.rng p hp);simp! only[G5 cL,Q8 O cL ha];exact hR _ _ ⟨⟨_,rfl⟩,rfl⟩
 ·subst e eM;rw[G6];have:=rT (ps.map fun p=>eG ae p a)
  rw[bv]at this;exact⟨Co (show (dP (ps.map fun p=>eG ae p a)).length<=9 by omega) (by decide),.inl q⟩
theorem ve:oq ["met","at"] ["net"] (lS aK):=⟨rfl,rfl,rfl,by decide +kernel,by decide +kernel,by decide +kernel,by decide +kernel⟩
theorem Dz {f c f1:ag}{fd bT:ln}{o oc:kw}{aY:List (bi×ag)}{vcs:List V}(L:C7 (lP aK) (lB aK) (lS aK) qI o c oc aY fd) (C:uU base ["net"] aY vcs) (cq:vcs.length=1) {ae:List (List Int)}{n:Nat}(O:bM ae n)
  (dE:Df K mg "sign_image" fc ["net","places","at"] f1 bT) (bl:Bl mg) :
  FnOk P w K mg base bh 2 f fd ["met","at"] (Kp P w K tb f o c oc vcs (G0 [eN ae] (j9 ae) (jl ae.length) n)) :=by
 have zE:=wQ (P:=P) (w:=w) (base:=base) (tb:=tb) dE bl;refine V0 L ve C cq (fun cI ds M Q E hS=>by obtain⟨_,p,a,e,_⟩:=hS;rw[e];rfl) fun A outer s E Γ cI ds Q' E' hP hw hK ht hr hS=>?_
 obtain⟨e0,p,a,e,hp,ha,q⟩:=hS;refine⟨_,(aG zE (hr.mono (by decide)) rfl dE.mg dE.fn.kp dE.bd bf hP hw hK ht XR.none (aa (qv 2) (aa (qv 0) (aa (qv 1) af)))),?_⟩
 subst e e0;simp! only[];exact⟨ae,n,p,a,rfl,O,j6 hp,ha,.inl q⟩
theorem sv:∀n,(n,sK)∈(lS aK).names->(ai aK).names.lookup n=some .cell\/(ai aK).names.lookup n=some .free :=by
 have h:∀y∈(lS aK).names,y.2=sK->(ai aK).names.lookup y.1=some .cell :=by decide +kernel
 exact fun n hn=>.inl (h _ hn rfl)
theorem vf:∀(j:Nat) (n:bi),(["net"]:List bi)[j]?=some n->(n,sK)∈(lS aK).names/\(ai aK).names.lookup n=some .cell/\∃i,([0]:List Nat)[j]?=some i/\(["net","places"]:List bi)[i]?=some n:=fun j n h=>by
 cases j with
 |zero=>cases h;exact⟨by decide +kernel,by decide +kernel,0,rfl,rfl⟩
 |succ j=>simp at h
def zF (ae:List (List Int)) (n:Nat) (s:List Int):List (List Int)×List bi:=met (j9 ae) n 511 (jl ae.length).length s
def KS:bP:=fun ds M Q _=>∃ae n s,ds=[eN ae,eI s]/\bM ae n/\gI ae.length s/\Q (Dx (zF ae n s)) M
theorem wR {f f1:ag}{fd bT:ln}{qo aL:ag}{tk0:aaR}(D:Df K mg "images_met" aK ["net","places"] f fd) (jm:A8 base fd qo aL) (fW:∃bm ob,ZY base mainGlobals mg bm ob)
  (gP:(aL,qI)∈tb.l) (Qf:∀q∈tb.l,q.1=aL->q.2=qI) (fS:Ko K mg "first_met" jO ["start","width","step","most"] [.int 511 tk0] f1 bT) {f2:ag} {fd2:ln} (dE:Df K mg "sign_image" fc ["net","places","at"] f2 fd2) (bl:Bl mg) {tk:aaR} (mw:mg "SIGNS" = some (.str "abc" tk)) :
  FnOk P w K mg base bh 8 f fd ["net","places"] (aU P w K tb KS) :=by
 refine dM D wO (fun ds M Q E hS=>by obtain⟨ae,n,s,e,_⟩:=hS;rw[e];rfl) fun A outer s0 E Γ ds Q' E' hP hw hK ht hr hS=>?_
 obtain⟨ae,n,s,e,O,hs,q⟩:=hS;have jI:(aL,qI)∈Γ.tb.l:=ht▸gP;have jJ:∀q∈Γ.tb.l,q.1=aL->q.2=qI:=ht▸Qf;have AF:∀b',(∀b o,base.get? b=some o->b'.get? b=some o)->FnOk P w K mg b' bh 7 f1 bT ["start","width","step","most"] (aU P w K tb (BZ P w K mg tb b')):=fun b' _=>zB fS bl mw
 have zG:Vals [V.int 511] [aal 511 tk0]:=.cons ⟨_,rfl⟩ .nil;have zH:∀(β:Bz) (M:Mh) (H:Hp),aJ β M H [V.int 511] [Dv.int 511]:=fun _ _ _=>.cons (.int _) .nil
 refine⟨_,(au (aO (C8 (idx:=[0]) (fs:=["net"]) jm.code jm.hd fW rfl (sv) (vf) jI jJ AF (hr.mono (by decide)) (fun _=>rfl) rfl fS.mg fS.kp fS.bd (zG) (zH) bf hP hw hK ht XR.none (qv 1) (av (dr (K:=K) rfl hK) rfl bl.len_ u4 (aa (bU (dB (K:=K) rfl) (qv 0) aB (fun _ _=>rfl)) af)) af))),?_⟩
 subst e;have h1:=O.one;have h0:(0:Int)∈jH ae:=eJ.mpr ⟨by omega,by omega⟩
 have Gy:(ae.getD 0 []).length=n :=by
  have:=O.one;rw[getD_at (by omega)]
  exact(O.row _ (tz _)).1
 have GP:=O.wid;simp! only[yQ,tV,G5 h0,Int.toNat_zero,Gy];intro lf o c oc aY vcs lv hO b' hb hC;obtain⟨YB,rM,⟨kg,rfl⟩,ik⟩:=hO;have L:C7 (lP aK) (lB aK) (lS aK) qI (OL "<lambda>" qI (lP aK) (lB aK) (lS aK) aY ((mg "__name__").getD .none) c kg) c oc aY (PySem.W.kla_fn "<lambda>" qI (lP aK) (lB aK) (lS aK) aY ((mg "__name__").getD .none) (.ref c) kg):=⟨rM,⟨_,_,_,rfl,rfl⟩,ik⟩
 refine⟨s,j9 ae,jl ae.length,n,511,lf,_,_,c,oc,vcs,[eN ae],["met","at"],rfl,(Dz L hC lv O dE bl).mono (by decide),⟨_,_,_,_,rfl⟩,.all fun us hl=>?_,by omega,fw hs,fun k hk a ha=>fw (uv O (j6 hk) ha),?_,.inl q⟩
 ·match us,hl with
  | [_,_],_=>rfl
 ·have:=qm O.nine;omega
end
section
variable {P:ff}{w:im}{K:ba}{mg:bi->Option al}{base:hX}{tb:cf}{C_NoNet Wk Wr C0:ag}{cs:List ag}
def Q9:bP:=fun ds M Q _=>∃ae d,ds=[eN ae,d]/\qg d=true/\Q (.bl (de (ae.length:Int) d)) M
theorem AG:aS ["net","thing"] ["net","thing"] (ai kJ):=⟨rfl,rfl,rfl,by decide +kernel,rfl,by decide +kernel,by decide +kernel⟩
theorem G7:aS ["net","thing"] ["net","thing"] (ai l0):=⟨rfl,rfl,rfl,by decide +kernel,rfl,by decide +kernel,by decide +kernel⟩
theorem AH {f f1 f2:ag}{fd bT fd2:ln}(D:Df K mg "is_place" kJ ["net","thing"] f fd) (aP:Df K mg "is_whole_below" cD ["thing","many"] f1 bT) (bJ:Df K mg "is_whole" eC ["thing"] f2 fd2) (bl:Bl mg):FnOk P w K mg base bh 3 f fd ["net","thing"] (aU P w K tb Q9) :=by
 have iz:=ki (P:=P) (w:=w) (base:=base) (tb:=tb) aP bJ bl;refine dM D AG (fun ds M Q E hS=>by obtain⟨ae,d,e,_⟩:=hS;rw[e];rfl) fun A outer s E Γ ds Q' E' hP hw hK ht hr hS=>?_
 obtain⟨ae,d,e,hk,q⟩:=hS;refine⟨_,(au (aO (aG iz (hr.mono (by decide)) rfl aP.mg aP.fn.kp aP.bd bf hP hw hK ht XR.none (aa (qv 1) (aa (av (dr (K:=K) rfl hK) rfl bl.len_ u4 (aa (qv 0) af)) af))))),?_⟩
 subst e;simp! only[];exact⟨d,_,rfl,hk,.inl q⟩
theorem G8 {m:Int}{d:Dv}(h:de m d=true):∃i,d=.int i/\0<=i/\i<m :=by
 cases d with
 |int i=>simp only[de,B0,decide_eq_true_eq]at h;exact⟨i,rfl,h.1,h.2⟩
 |_=>cases h
theorem wA {m:Int}:∀{ds:List Dv},ds.all (de m)=true->∃ns:List Int,ds=ns.map Dv.int/\∀p∈ns,0<=p/\p<m
 | [],_=>⟨[],rfl,fun _ h=>nomatch h⟩
 |d::ds,h=>by
          rw[aay,B0]at h;obtain⟨i,rfl,h0,h1⟩:=G8 h.1;obtain⟨ns,rfl,hn⟩:=wA h.2;exact⟨i::ns,rfl,fun p hp=>by rcases i4.mp hp with rfl|hp;exact⟨h0,h1⟩;exact hn p hp⟩
def DA (ds:List Dv):Bool:=match fZ ds with|some ns=>decide (ns=mq ns)|none=>false
def zI (m:Nat):Dv->Bool | .tup ds => !decide (ds.length=0) && ds.all (de m) && DA ds|_=>false
def Ra:Dv->Prop | .tup ds=>(∀d∈ds,qg d=true)/\ds.length<=20|d=>qg d=true
theorem gq:∀ns:List Int,fZ (ns.map Dv.int)=some ns
 | []=>rfl
 |n::ns=>by rw[mo,fZ,gq ns];rfl
def G9:bP:=fun ds M Q _=>∃ae n d,ds=[eN ae,d]/\bM ae n/\Ra d/\Q (.bl (zI ae.length d)) M
theorem Ha {f f1 f2 f3:ag}{fd bT fd2 kj:ln}{zJ bt:ag}(D:Df K mg "is_set" l0 ["net","thing"] f fd) (oE:A8 base fd zJ bt) (hp:bt∈tb) (fW:∃bm ob,ZY base mainGlobals mg bm ob)
  (gK:Df K mg "is_place" kJ ["net","thing"] f3 kj) (aP:Df K mg "is_whole_below" cD ["thing","many"] f1 bT) (bJ:Df K mg "is_whole" eC ["thing"] f2 fd2) (bl:Bl mg):FnOk P w K mg base bh 5 f fd ["net","thing"] (aU P w K tb G9) :=by
 have DB:=AH (P:=P) (w:=w) (base:=base) (tb:=tb) gK aP bJ bl;refine dM D G7 (fun ds M Q E hS=>by obtain⟨ae,n,d,e,_⟩:=hS;rw[e];rfl) fun A outer s E Γ ds Q' E' hP hw hK ht hr hS=>?_
 obtain⟨ae,n,d,e,o,hk,q⟩:=hS;have DC:bt∈Γ.tb:=ht▸hp;refine⟨_,(aj (bN (QW.pt (mK (h8 (dA (av (bo (K:=K) rfl) rfl bl.isinstance_ aH (aa (qv 1) (aa (bz (v:=.ty "tuple") rfl bl.tuple_ dJ rfl) af))))) (jZ (bj j7 (av (dr (K:=K) rfl hK) rfl bl.len_ u4 (aa (qv 1) af)) aB (a9 _)))))
   (au (aO fA))
   qss_nil)
  (au (aO (fH (yI (k:=3) (N':=["place","net"]) (tn:=1) (idx:=[0]) DC (hr.mono (by decide)) rfl (show aD ["net","thing"] (ai l0) _ ["place","net"] 1 [0] from by decide +kernel) rfl rfl oE.code oE.hd fW rfl bl.all_ (pL (K:=K) rfl (qv 1)) (fun _ _ _ _ _ _ _ hr=>(aI (i:=0) (show ut [("place" : bi),("net" : bi)] from by decide +kernel) rfl (ma rfl))) (fun _ _ _ _ _ _ _ hr=>bG) (fun _ _ _ _ _ _ _ hr=>(aG DB (hr.mono (by decide)) rfl gK.mg gK.fn.kp gK.bd bf hP hw hK ht XR.none (aa (qv 1) (aa (qv 0) af))))) (ia (eZ (qH hr.units) (iQ (Py (K:=K) rfl) rfl bl.list_ iM (aa (qv 1) af)) (av (yF hP hw (K:=K) rfl rfl) rfl bl.sorted_ jX (aa (iQ (SU hP hw (K:=K) rfl rfl) rfl bl.set_ OZ (aa (qv 1) af)) af)) (a9 _))))))),?_⟩
 subst e;cases d with
 |tup es=>
  obtain⟨hk,hl⟩:=hk;simp! only[];refine⟨by decide,eB (fun h=>?_) (fun h=>?_)⟩
  ·simp only[zI,show decide (es.length=0)=true by simp at h ⊢;omega,ZE,Pi]at q
   exact .inl q
  ·simp only[zI,show decide (es.length=0)=false by simp at h ⊢;omega,aah,OP]at q
   refine qK (de (ae.length:Int)) (fun τ=>∃x,τ=[x,some (eN ae)]) ⟨none,rfl⟩ (fun d hd τ ⟨x,e⟩ R hR=>?_) ?_
   ·subst e;exact⟨ae,d,rfl,hk d hd,hR _ ⟨_,rfl⟩⟩
   ·cases hb:es.all (de (ae.length:Int)) with
    |false=>rw[hb]at q;exact .inl q
    |true=>
     rw[hb]at q;obtain⟨ns,rfl,hn⟩:=wA hb;rw[bv]at hl;simp! only[gq,ZJ];have hd:=(rT (ns:=ns));refine⟨Co (show ns.length+1<=21 by omega) (by decide),by omega,?_⟩
     simp only[pP,now,bW,rZ,BY,da,og,lw,if_false];refine⟨by rw[jW];have:=Bs ns;omega,?_⟩
     simp only[DA,gq,OP]at q;exact .inl q
 |_=>first|exact⟨by decide,.inl q⟩|exact nomatch hk
theorem MB {m:Nat}{ns:List Int}(h:gI m ns):zI m (eI ns)=true :=by
 have hl:=h.ne;have h1:¬ ns.length=0:=fun e=>hl (Ix e)
 simp only[zI,bv,h1,decide_false,aah,OP,B0,DA,gq,decide_eq_true_eq];refine⟨wT.mpr fun d hd=>?_,(j5 h.str).symm⟩
 obtain⟨p,hp,rfl⟩:=kt.mp hd;have:=h.rng p hp;simp only[de,B0,decide_eq_true_eq];exact this
theorem MC {m:Nat}(hm:m<=9) {ns:List Int}(h:gI m ns):Ra (eI ns):=⟨fun d hd=>by obtain⟨p,_,rfl⟩:=kt.mp hd;rfl,by rw[bv];have:=h.len;omega⟩
end
section
variable {P:ff}{w:im}{K:ba}{mg:bi->Option al}{base:hX}{tb:cf}{C_NoNet C_NoPair C0:ag}{cs:List ag}
theorem DE:aS ["net","thing"] ["net","thing"] (ai mU):=⟨rfl,rfl,rfl,by decide +kernel,rfl,by decide +kernel,by decide +kernel⟩
theorem zK:aS ["net","thing"] ["net","thing"] (ai jP):=⟨rfl,rfl,rfl,by decide +kernel,rfl,by decide +kernel,by decide +kernel⟩
def KU:bP:=fun ds M Q _=>∃ae n s,ds=[eN ae,eI s]/\bM ae n/\gI ae.length s/\s.length=2/\Q (.bl true) M
theorem DF {f f1:ag}{fd bT:ln}(D:Df K mg "is_pair" mU ["net","thing"] f fd) (iE:Df K mg "is_set" l0 ["net","thing"] f1 bT) (sx:FnOk P w K mg base bh 5 f1 bT ["net","thing"] (aU P w K tb G9)) (bl:Bl mg):FnOk P w K mg base bh 6 f fd ["net","thing"] (aU P w K tb KU) :=by
 refine dM D DE (fun ds M Q E hS=>by obtain⟨ae,n,s,e,_⟩:=hS;rw[e];rfl) fun A outer s0 E Γ ds Q' E' hP hw hK ht hr hS=>?_
 obtain⟨ae,n,s,e,O,hs,h2,q⟩:=hS;refine⟨_,(au (aO (fH (aG sx (hr.mono (by decide)) rfl iE.mg iE.fn.kp iE.bd bf hP hw hK ht XR.none (aa (qv 0) (aa (qv 1) af))) (ia (eZ j7 (av (dr (K:=K) rfl hK) rfl bl.len_ u4 (aa (qv 1) af)) aB (a9 _)))))),?_⟩
 subst e;refine⟨ae,n,_,rfl,O,MC O.nine hs,?_⟩;rw[MB hs];simp! only[h2];exact .inl q
def wB:bP:=fun ds M Q _=>∃ae n s,ds=[eN ae,eI s]/\bM ae n/\gI ae.length s/\s.length=2/\Q .ax M
theorem zL {f f1:ag}{fd bT:ln}(D:Df K mg "need_pair" jP ["net","thing"] f fd) (iT:Df K mg "is_pair" mU ["net","thing"] f1 bT) (qp:FnOk P w K mg base bh 6 f1 bT ["net","thing"] (aU P w K tb KU))
  (X_:Ih K C0 cs) (sy:C_NoPair∈cs) (sA:mg "NoPair" = some (.ref C_NoPair)):FnOk P w K mg base (eX P w) 7 f fd ["net","thing"] (aU P w K tb wB) :=by
 refine xa D zK (fun ds M Q E hS=>by obtain⟨ae,n,s,e,_⟩:=hS;rw[e];rfl) fun A outer s0 E Γ ds Q' E' hP hw hK ht hE hr hS=>?_
 obtain⟨ae,n,s,e,O,hs,h2,q⟩:=hS;refine⟨_,(au (bN (h8 (dA (aG qp (hr.mono (by decide)) rfl iT.mg iT.fn.kp iT.bd bf hP hw hK ht XR.none (aa (qv 0) (aa (qv 1) af)))))
   (au (yH (X_.ex _ sy) PySem.F.excBase_ValueError rfl E9 hE rfl sA (aa yu af)))
   qss_nil)),?_⟩
 subst e;simp! only[];exact⟨ae,n,s,rfl,O,hs,h2,.inl q⟩
theorem Jr (x y:Int):mq [x,y]=if x=y then [x] else [if y<x then y else x,if y > x then y else x] :=by
 by_cases e:x=y
 ·subst e;rw[if_pos rfl,uo (b:=[x]) (fun k=>by simp),j5 (by simp)]
 ·rw[if_neg e];by_cases h:y<x
  ·rw[if_pos h,if_neg (by omega),uo (b:=[y,x]) (fun k=>by simp[or_comm]),j5 (by simp[h])]
  ·rw[if_neg h,if_pos (by omega),j5 (by simp;omega)]
end
section
variable {P:ff}{w:im}{K:ba}{mg:bi->Option al}{base:hX}{tb:cf}{C_NoNet:ag}
theorem zM:aS ["net","pair"] ["net","pair"] (ai fN):=⟨rfl,rfl,rfl,by decide +kernel,rfl,by decide +kernel,by decide +kernel⟩
theorem wC {κ:Type} [DecidableEq κ] {step:κ->Nat->κ}{k:κ}{w:bi}{st:List κ×List bi}:∀{n a:Nat},a<n->step k a∈(visit step k w n st).1
 |n+1,a,h=>by
          rw[jf];obtain⟨ks,ws,h1,_⟩:=wj step k w (visit step k w n st) n;by_cases e:a=n
          ·subst e;unfold jC;split
           ·assumption
           ·exact li _ (io.mpr rfl)
          ·rw[h1];exact r9 _ (wC (by omega))
theorem uw {κ:Type} [DecidableEq κ] {step:κ->Nat->κ}{k:κ}{w:bi}{st:List κ×List bi}:∀{n:Nat}{x:κ},x∈(visit step k w n st).1->x∈st.1\/∃a,a<n/\x=step k a
 |0,x,h=>.inl h
 |n+1,x,h=>by
          rw[jf]at h;have h2:x∈(visit step k w n st).1\/x=step k n :=by
           unfold jC at h;split at h
           ·exact .inl h
           ·exact(rf.mp h).imp id io.mp
          rcases h2 with h2|h2
          ·exact(uw h2).imp id fun⟨a,ha,e⟩=>⟨a,by omega,e⟩
          ·exact .inr ⟨n,by omega,h2⟩
theorem B1 {κ:Type} [DecidableEq κ] {U:List κ}{step:κ->Nat->κ}{n most:Nat}{R:κ->Prop}(hs:∀k∈U,∀a,a<n->step k a∈U) (hm:U.length<=most) (hR:∀k,R k->∀a,a<n->R (step k a)):∀(fuel i:Nat) (st:List κ×List bi),gD U st->U.length<fuel+i->i<=st.1.length->
  (∀j k,st.1[j]?=some k->j<i->∀a,a<n->step k a∈st.1)->(∀k∈st.1,R k)->
  (∀k∈st.1,k∈(lU step n most fuel i st).1)/\(∀k∈(lU step n most fuel i st).1,R k/\∀a,a<n->step k a∈(lU step n most fuel i st).1)
 |0,i,st,ok,hf,hi,hc,hr=>by have:=ok.le;omega
 |fuel+1,i,st,ok,hf,hi,hc,hr=>by
          have hle:=ok.le;have hlen:=ok.len;by_cases aN:i<st.1.length
          ·have h1:=ap aN;have h2:=ap (show i<st.2.length by omega)
           have rS:st.1[i]∈st.1:=tz aN;rw[Gd h1 h2 (by omega)]
           obtain⟨ks,ws,g1,g2⟩:=kI step st.1[i] (st.2[i]'(by omega)) n st
           have sub:∀x∈st.1,x∈(visit step st.1[i] (st.2[i]'(by omega)) n st).1:=fun x hx=>by rw[g1];exact r9 _ hx
           obtain⟨r1,r2⟩:=B1 hs hm hR fuel (i+1) (visit step st.1[i] (st.2[i]'(by omega)) n st) (ok.visit h2 fun a ha=>hs _ (ok.sub _ rS) a ha) (by omega) (by rw[g1,l8];omega) (fun j k hj UW a ha=>by
            rw[g1,ww (by omega)]at hj
            by_cases e:j=i
            ·subst e;rw[h1]at hj;cases hj;exact wC ha
            ·exact sub _ (hc j k hj (by omega) a ha)) (fun k hk=>by
            rcases uw hk with z|⟨a,ha,rfl⟩
            ·exact hr k z
            ·exact hR _ (hr _ rS) a ha)
           exact⟨fun k hk=>r1 k (sub k hk),r2⟩
          ·have e:lU step n most (fuel+1) i st=st :=by
            unfold lU;rw[LP (by omega)]
           rw[e];exact⟨fun k hk=>hk,fun k hk=>⟨hr k hk,fun a ha=>by
            obtain⟨j,hj⟩:=l7.mp hk;exact hc j k hj (by have:=(ca.mp hj).1;omega) a ha⟩⟩
theorem B2 {ae:List (List Int)}{n:Nat}(O:bM ae n) {q:List Int}(hq:q∈ay ae.length) {k:Nat}(hk:k<n):(dW ae q k∈ay ae.length/\j9 ae q k=dW ae q k)\/(dW ae q k ∉ ay ae.length/\(j9 ae q k).length=1) :=by
 obtain⟨u,v,QZ,hv,er⟩:=mi.mp (qW O hq hk);obtain⟨a,b,ft,hb,rfl⟩:=dD.mp hq;have e1:dW ae [(a:Int),(b:Int)] k=mh (eG ae (a:Int) k) (eG ae (b:Int) k):=rfl;have e2:j9 ae [(a:Int),(b:Int)] k=mq [eG ae (a:Int) k,eG ae (b:Int) k]:=rfl;rw[e2,Jr];obtain⟨x,hx⟩:∃x,x=eG ae (a:Int) k:=⟨_,rfl⟩;obtain⟨y,hy⟩:∃y,y=eG ae (b:Int) k:=⟨_,rfl⟩;rw[<- hx,<- hy]at e1 ⊢;rw[GZ]at e1;have hm:=er;rw[e1]at hm;have m1:=(Cn hm).1;have m2:=(Cn (Cn hm).2).1;by_cases e:x=y
 ·right;rw[if_pos e];refine⟨fun h=>?_,rfl⟩
  obtain⟨c,d,eU,hd,e3⟩:=dD.mp h;rw[er]at e3;have n1:=(Cn e3).1;have n2:=(Cn (Cn e3).2).1;omega
 ·left;rw[if_neg e,e1];refine⟨dD.mpr ⟨u,v,by omega,hv,by rw[m1,m2]⟩,?_⟩
  rw[show min x y=if y<x then y else x by split<;>omega,show max x y=if y > x then y else x by split<;>omega]
theorem MD {ae:List (List Int)}{q:List Int}(h:q.length=1) (k:Nat):(j9 ae q k).length=1 :=by
 obtain⟨x,rfl⟩:=List.length_eq_one_iff.mp h;show (mq [eG ae x k]).length=1;rw[j5 (by simp)]
 rfl
theorem fE {m:Nat}{p:List Int}(h:p∈ay m):gI m p/\p.length=2 :=by
 obtain⟨a,b,ft,hb,rfl⟩:=dD.mp h;refine⟨⟨by simp;omega,fun q hq=>?_,by simp⟩,rfl⟩
 simp only[i4,xL,or_false]at hq;rcases hq with rfl|rfl<;>omega
open Classical in
noncomputable def iF (ae:List (List Int)) (n:Nat) (p:List Int):List (List Int):=(ay ae.length).filter fun q=>decide (gT ae n p q)
open Classical in
theorem B3 {ae:List (List Int)}{n:Nat}{p q:List Int}(hp:p∈ay ae.length):q∈iF ae n p ↔ gT ae n p q :=by
 unfold iF;rw[EN,decide_eq_true_eq];exact⟨fun h=>h.2,fun h=>⟨h.mem hp,h⟩⟩
theorem ME {ae:List (List Int)}{n:Nat}{p:List Int}(h9:ae.length<=9):(iF ae n p).length<=36:=qr (WA _ _) (pairs_len h9)
theorem zN {ae:List (List Int)}{n:Nat}{p:List Int}(h9:ae.length<=9) (hp:p∈ay ae.length) {L:List (List Int)}(hL:∀q,q∈L ↔ gT ae n p q) (nd:L.Nodup):jM L=iF ae n p :=by
 have pw:(ay ae.length).Pairwise fun a b=>HT.lexLt b a=false :=by rw[<- (um h9).1];exact y1 _
 refine(sh ((List.perm_ext_iff_of_nodup ((rH h9).filter _) nd).mpr fun q=>?_) (pw.filter _)).symm
 exact(B3 hp).trans (hL q).symm
theorem MF {ae:List (List Int)}{n:Nat}(O:bM ae n) {p:List Int}(hp:p∈ay ae.length):∀q,q∈(zF ae n p).1.filter (fun k=>decide (k.length=2)) ↔ gT ae n p q :=by
 have hU:∀k∈jl ae.length,∀a,a<n->j9 ae k a∈jl ae.length:=fun k hk a ha=>fw (uv O (j6 hk) ha)
 have hs:=fw (fE hp).1;obtain⟨r1,r2⟩:=B1 (step:=j9 ae) (n:=n) (most:=511) (R:=fun k=>k.length=1\/(k∈ay ae.length/\gT ae n p k)) hU (qm O.nine) (fun k hk a ha=>by
  rcases hk with h|⟨h,h2⟩
  ·exact .inl (MD h a)
  ·rcases B2 O h ha with ⟨z,e⟩|⟨_,e⟩
   ·rw[e];exact .inr ⟨z,.step h2 ha z⟩
   ·exact .inl e) ((jl ae.length).length+1) 0 ([p],[""]) (mS hs) (by omega) (mf _) (fun j k _ h=>absurd h (YI _)) (fun k hk=>by rw[io.mp hk];exact .inr ⟨hp,.base⟩)
 intro q;rw[EN,decide_eq_true_eq];constructor
 ·rintro⟨h1,h2⟩;rcases (r2 q h1).1 with z|z
  ·omega
  ·exact z.2
 ·intro h;refine⟨?_,(fE (h.mem hp)).2⟩;induction h with
  |base=>exact r1 _ (io.mpr rfl)
  | @step y k h hk hm ih=>
   rcases B2 O (h.mem hp) hk with ⟨_,e⟩|⟨z,_⟩
   ·rw[<- e];exact(r2 y ih).2 k hk
   ·exact absurd hm z
def DG:bP:=fun ds M Q _=>∃ae n p,ds=[eN ae,eI p]/\bM ae n/\p∈ay ae.length/\Q (.lst ((iF ae n p).map eI)) M
def DH:bP:=fun ds M Q _=>∃ae n p,ds=[eN ae,eI p]/\bM ae n/\p∈ay ae.length/\∀a,M a=none->Q (.ptr a) (aw M a (.lst ((iF ae n p).map eI)))
def Rb:bP:=fun ds M Q _=>∃ae n p,ds=[eN ae,eI p]/\bM ae n/\p∈ay ae.length/\((∀a,M a=none->Q (.ptr a) (aw M a (.lst ((iF ae n p).map eI))))\/Q (.lst ((iF ae n p).map eI)) M)
theorem zO {f f1 f2 f3:ag}{fd bT fd2 kj:ln}(D:Df K mg "led_pairs" fN ["net","pair"] f fd)
  (cS:Df K mg "need_net" jh ["thing"] f1 bT) (gH:FnOk P w K mg base (eX P w) 7 f1 bT ["thing"] (aU P w K tb (Ds C_NoNet)))
  (fT:Df K mg "need_pair" jP ["net","thing"] f2 fd2) (m7:FnOk P w K mg base (eX P w) 7 f2 fd2 ["net","thing"] (aU P w K tb wB))
  (d8:Df K mg "images_met" aK ["net","places"] f3 kj) (mx:FnOk P w K mg base bh 8 f3 kj ["net","places"] (aU P w K tb KS)) (bl:Bl mg) :
  FnOk P w K mg base (eX P w) 10 f fd ["net","pair"] (aU P w K tb Rb) :=by
 refine xa D zM (fun ds M Q E hS=>by obtain⟨ae,n,s,e,_⟩:=hS;rw[e];rfl) fun A outer s0 E Γ ds Q' E' hP hw hK ht hE hr hS=>?_
 obtain⟨ae,n,p,e,O,hp,q⟩:=hS;refine⟨_,(aj (fL (aG gH (hr.mono (by decide)) rfl cS.mg cS.fn.kp cS.bd CJ hP hw hK ht hE (aa (qv 0) af)))
  (aj (fL (aG m7 (hr.mono (by decide)) rfl fT.mg fT.fn.kp fT.bd CJ hP hw hK ht hE (aa (qv 0) (aa (qv 1) af))))
  (au (aO (av (Jd (K:=K) rfl) rfl bl.sorted_ jX (aa (cz (N':=["met"]) (tn:=1) (idx:=[]) rfl (show aD ["net","pair"] (ai fN) _ ["met"] 1 [] from by decide +kernel) (uW (aG mx (hr.mono (by decide)) rfl d8.mg d8.fn.kp d8.bd bf hP hw hK ht XR.none (aa (qv 0) (aa (qv 1) af)))) (fun _ _ _ _ _=>(aI (i:=0) (show ut [("met" : bi)] from by decide +kernel) rfl (ma rfl))) (fun _ _ _ _ _=>(qE (bj j7 (av (dr (K:=K) rfl hK) rfl bl.len_ u4 (aa (qv 0) af)) aB (a9 _)))) (fun _ _ _ _ _=>(qv 0))) af)))))),?_⟩
 subst e;have big:(1000:Nat)<sizeLine :=by decide
 refine⟨_,rfl,BP ae,fun _=>?_,fun h=>by rw[BO O]at h;cases h⟩
 simp! only[];refine⟨ae,n,p,rfl,O,(fE hp).1,(fE hp).2,?_⟩;refine⟨ae,n,p,rfl,O,(fE hp).1,?_⟩;have YC:(zF ae n p).1.length<=511:=qr (yU (fun k hk a ha=>fw (uv O (j6 hk) ha)) _ _ _ (mS (fw (fE hp).1))).le (qm O.nine)
 have GU:(zF ae n p).1.Nodup:=(yU (fun k hk a ha=>fw (uv O (j6 hk) ha)) _ _ _ (mS (fw (fE hp).1))).nd
 obtain⟨ks,QR⟩:∃ks,ks=(zF ae n p).1:=⟨_,rfl⟩;have hL:=MF O hp;have Rc:=GU.filter fun k=>decide (k.length=2)
 unfold Dx;rw[<- QR]at YC hL Rc ⊢;have X9:(ks.filter fun k=>decide (k.length=2)).length<=36:=qr (ej _ _ Rc fun x hx=>((hL x).mp hx).mem hp) (pairs_len O.nine)
 have ek:(ks.map kT).map (fun k=>Dv.tup (k.map lR))=ks.map eI :=by
  rw[xy];refine Nl fun k _=>?_
  show Dv.tup ((k.map Pf).map lR)=_;rw[xy];rfl
 simp! only[];rw[ek];refine⟨by omega,lH (fun d=>match d with | .tup es=>decide (es.length=2)|_=>false) (fun d hd R hR=>?_) ?_⟩
 ·obtain⟨k,hk,rfl⟩:=kt.mp hd;simp! only[eI,bv]at hR ⊢;rw[show decide ((k.length:Int)=2)=decide (k.length=2) from decide_eq_decide.mpr (by omega)]
  exact hR
 ·have ef:(ks.map eI).filter (fun d=>match d with | .tup es=>decide (es.length=2)|_=>false)=(ks.filter fun k=>decide (k.length=2)).map eI :=by
   rw[aba];congr 1
   refine aaL fun k _=>?_
   show decide ((k.map Dv.int).length=2)=_;rw[bv]
  rw[ef];simp! only[];rw[j4];dsimp only;rw[zN O.nine hp hL Rc];refine⟨by omega,fun r hr=>?_,fun a ha=>q.elim (fun q=>.inl (q a ha)) fun q=>pS (.upd ha .refl) ha updM_same (fun d hd=>by obtain⟨r,_,rfl⟩:=kt.mp hd;exact jd r) q⟩
  have:=(EN.mp hr).2;intro e;rw[e]at this;cases this
theorem MG {x y:Int}{M:Mh}{Q:ZK}(q:Q (.bl (decide (x=y))) M):pP false (.int x) (.int y) M Q :=by
 unfold pP;have e1:∀z:Int,bW (now M (.int z))=some (.int z):=fun _=>rfl
 rw[e1,e1];refine⟨by show (0:Nat)<=60;decide,?_⟩
 have e2:da (Dt.int x) (Dt.int y)=decide (x=y):=rfl;rw[e2];exact q
open Classical in
noncomputable def kR (ae:List (List Int)) (n:Nat) (p:List Int):Bool:=decide (eF ae n (·∈eE ae.length) p)
open Classical in
theorem wD {ae:List (List Int)}{n:Nat}{p:List Int}:kR ae n p=true ↔ eF ae n (·∈eE ae.length) p :=by
 unfold kR;exact⟨of_decide_eq_true,fun h=>decide_eq_true h⟩
def zP:bP:=fun ds M Q _=>∃(ae:List (List Int)) (n:Nat) (p:List Int) (L:List (List Int)),ds=[eN ae,.lst (L.map eI)]/\bM ae n/\p∈ay ae.length/\(∀q,q∈L ↔ gT ae n p q)/\Q (.bl (kR ae n p)) M
theorem zQ {m u v:Nat}(h:v<m):[(u:Int),(v:Int)]∈eE m ↔ u=v :=by
 unfold eE;rw[kt];constructor
 ·rintro⟨i,_,e⟩;have e1:=(Cn e).1;have e2:=(Cn (Cn e).2).1;omega
 ·rintro rfl;exact⟨u,uu.mpr h,rfl⟩
theorem sC {f f2:ag}{fd fd2:ln}(D:Df K mg "_law_is_called" d7 ["_law_net_here","_law_pairs_here"] f fd)
  (bX:Df K mg "_law_goals" fe ["_law_net_here","_law_pair"] f2 fd2) (mn:FnOk P w K mg base bh 1 f2 fd2 ["_law_net_here","_law_pair"] (aU P w K tb vc)) (bl:Bl mg) :
  FnOk P w K mg base bh 3 f fd ["_law_net_here","_law_pairs_here"] (aU P w K tb zP) :=by
 refine dM D km (fun ds M Q E hS=>by obtain⟨ae,n,p,L,e,_⟩:=hS;rw[e];rfl) fun A outer s E Γ ds Q' E' hP hw hK ht hr hS=>?_
 obtain⟨ae,n,p,L,e,O,hp,hL,q⟩:=hS;refine⟨_,(aj (fI xp rfl (fM (K:=K) rfl (qv 1)) (fun oS eP ew eK et=>by have hP:=hP.trans eP.symm;have hw:=hw.trans ew.symm;have hK:=hK.trans eK.symm;have ht:=ht.trans et.symm;exact⟨(aI (i:=2) km.nd rfl (ma rfl)),(au (bN (dA (av (QB (K:=K) rfl rfl) rfl bl.any_ QC (aa (cz (N':=["_law_one","_law_other"]) (tn:=2) (idx:=[]) rfl (show aD ["_law_net_here","_law_pairs_here","_law_here"] (ai d7) _ ["_law_one","_law_other"] 2 [] from by decide +kernel) (fM (K:=K) rfl (aG mn (hr.mono (by decide)) rfl bX.mg bX.fn.kp bX.bd bf hP hw hK ht XR.none (aa (qv 0) (aa (qv 2) af)))) (fun _ _ _ _ _=>(lC (n:=2) rfl (cO (aI (i:=0) (show ut [("_law_one" : bi),("_law_other" : bi)] from by decide +kernel) rfl (ma rfl)) (cO (aI (i:=1) (show ut [("_law_one" : bi),("_law_other" : bi)] from by decide +kernel) rfl (ma rfl)) jt)))) (fun _ _ _ _ _=>bG) (fun _ _ _ _ _=>(eZ (qH hr.units) (qv 0) (qv 1) (a9 _)))) af)))
   (au (aO fA))
   qss_nil))⟩))
  (au (aO fA))),?_⟩
 subst e;have h9:=O.nine;have GP:=O.wid;have big:(1000:Nat)<sizeLine :=by decide
 simp! only[];refine cV (fun i ρ M=>(∃x,ρ=[some (eN ae),some (.lst (L.map eI)),x])/\M=Γ.M0/\∀j h,L[j]?=some h->j<i->∀k,k<n->dW ae h k ∉ eE ae.length) ⟨⟨_,rfl⟩,rfl,fun j h _ z=>absurd z (YI _)⟩ (fun i d ρ M N hd hJ hN=>?_) (fun ρ M hJ=>?_)
 ·obtain⟨⟨x,rfl⟩,rfl,yW⟩:=hJ;obtain⟨h,hh,rfl⟩:=je hd;have wy:=(hL h).mp (cr hh);have Rf:=wy.mem hp;simp! only[];refine⟨ae,n,h,rfl,O,Rf,?_⟩;simp! only[Me];refine⟨by omega,jx (fun d=>match d with | .tup [.int x,.int y]=>.bl (decide (x=y))|d=>d) (fun τ M=>(∃x y,τ=[x,y])/\M=Γ.M0) ⟨⟨_,_,rfl⟩,rfl⟩ (fun d hd τ M hJ R k=>?_) (fun τ M hJ=>?_)⟩
  ·obtain⟨⟨x,y,rfl⟩,rfl⟩:=hJ;obtain⟨r,hr,rfl⟩:=kt.mp hd;obtain⟨k',jV,rfl⟩:=kt.mp hr;obtain⟨u,v,QZ,hv,er⟩:=mi.mp (qW O Rf (uu.mp jV));rw[er]at k ⊢;simp! only[];exact MG (k _ _ ⟨⟨_,_,rfl⟩,rfl⟩)
  ·obtain⟨⟨x,y,rfl⟩,rfl⟩:=hJ;have e:(((ii n).map (dW ae h)).map eI).map (fun d=>match d with | .tup [.int x,.int y]=>Dv.bl (decide (x=y))|d=>d)=((ii n).map fun k=>decide (dW ae h k∈eE ae.length)).map Dv.bl :=by
    rw[xy,xy,xy];refine Nl fun k hk=>?_
    obtain⟨u,v,QZ,hv,er⟩:=mi.mp (qW O Rf (uu.mp hk));simp only[Function.comp];rw[er];show Dv.bl (decide ((u:Int)=(v:Int)))=_;congr 1
    rw[decide_eq_decide,zQ hv];omega
   rw[e,oi];simp! only[];refine eB (fun h1=>?_) (fun h1=>?_)
   ·rw[List.any_map,Rs]at h1;obtain⟨k,hk,h1⟩:=h1;have:kR ae n p=true:=wD.mpr ((BW hp).mpr ⟨h,wy,.inr ⟨k,uu.mp hk,of_decide_eq_true h1⟩⟩);rw[this]at q;exact .inl q
   ·refine hN _ _ ⟨⟨_,rfl⟩,rfl,fun j h' hj UW k hk hm=>?_⟩
    by_cases e:j=i
    ·subst e;rw[hh]at hj;cases hj;rw[List.any_map,List.any_eq_false]at h1;exact h1 k (uu.mpr hk) (decide_eq_true hm)
    ·exact yW j h' hj (by omega) k hk hm
 ·obtain⟨⟨x,rfl⟩,rfl,yW⟩:=hJ;rw[bv]at yW;have:kR ae n p=false :=by
   rw[Bool.eq_false_iff];intro z;obtain⟨h,h1,h2⟩:=(BW hp).mp (wD.mp z);obtain⟨j,hj⟩:=l7.mp ((hL h).mpr h1);rcases h2 with h2|⟨k,hk,h2⟩
   ·obtain⟨a,b,ft,hb,rfl⟩:=dD.mp (h1.mem hp);have:=(zQ hb).mp h2;omega
   ·exact yW j h hj (ca.mp hj).1 k hk h2
  rw[this]at q;simp! only[];exact .inl q
end
section
variable {P:ff}{w:im}{K:ba}{mg:bi->Option al}{base:hX}{tb:cf}
theorem oV:aS ["_law_net_here","_law_reached","_law_lost","_law_pair"] ["_law_net_here","_law_reached","_law_lost"] (ai ji):=⟨rfl,rfl,rfl,by decide +kernel,rfl,by decide +kernel,by decide +kernel⟩
theorem nH:aS ["_law_script","_law_k","_law_net_here","_law_reached","_law_pair","_law_lost"] ["_law_script"] (ai xi):=⟨rfl,rfl,rfl,by decide +kernel,rfl,by decide +kernel,by decide +kernel⟩
theorem Js (ks:List (List Int)) (h:ks.length<=1000) (h2:∀k∈ks,k.length<=1000):qV 2 (.lst (ks.map eI)) :=by
 refine⟨_,.inl rfl,by rw[bv];exact h,fun x hx=>?_⟩
 obtain⟨k,hk,rfl⟩:=kt.mp hx;refine⟨_,.inr rfl,by rw[bv];exact h2 k hk,fun x hx=>?_⟩
 obtain⟨i,_,rfl⟩:=kt.mp hx;exact⟨i,rfl⟩
theorem zR {m:Nat}{ks:List (List Int)}(h:ks.length<=36) (h2:∀k∈ks,k∈ay m):qV 2 (.lst (ks.map eI)):=Js _ (by omega) fun k hk=>by
 have:=(fE (h2 k hk)).2;omega
theorem DI {ae:List (List Int)}{n:Nat}(O:bM ae n):qV 2 (.lst ((ie ae n).map eI)):=zR (BU O.nine) fun k hk=>(Mv.mp hk).1
theorem Jt {ae:List (List Int)}{n:Nat}{p:List Int}(O:bM ae n):qV 2 (.lst ((iF ae n p).map eI)):=zR (ME O.nine) fun k hk=>(EN.mp hk).1
noncomputable def reached (ae:List (List Int)) (n:Nat):Dv:=.dt ((ay ae.length).map kP) ((ay ae.length).map fun p=>.lst ((iF ae n p).map eI))
theorem AI {M:Mh}{ae:List (List Int)}{n:Nat}:Pin M (reached ae n):=.dt fun d hd=>by
 obtain⟨p,_,rfl⟩:=kt.mp hd;exact .lst fun d hd=>by obtain⟨k,_,rfl⟩:=kt.mp hd;exact jd k
def B4:bP:=fun ds M Q _=>∃(ae:List (List Int)) (n:Nat),ds=[eN ae,reached ae n,.lst ((ie ae n).map eI)]/\bM ae n/\Q (.bl true) M
theorem zS {f f1 f2 f3:ag}{fd bT fd2 kj:ln}(D:Df K mg "_law_right" ji ["_law_net_here","_law_reached","_law_lost"] f fd)
  (cB:Df K mg "led_pairs" fN ["net","pair"] f1 bT) (rK:FnOk P w K mg base (eX P w) 10 f1 bT ["net","pair"] (aU P w K tb DH)) (oW:FnOk P w K mg base (eX P w) 10 f1 bT ["net","pair"] (aU P w K tb DG))
  (bD:Df K mg "never_called" di ["net"] f2 fd2) (nI:FnOk P w K mg base (eX P w) 8 f2 fd2 ["net"] (aU P w K tb va)) (my:FnOk P w K mg base (eX P w) 8 f2 fd2 ["net"] (aU P w K tb u9))
  (bg:Df K mg "_law_like" eQ ["_law_found","_law_due"] f3 kj) (fR:FnOk P w K mg base bh 3 f3 kj ["_law_found","_law_due"] (aU P w K tb (xk 2))) (bl:Bl mg) :
  FnOk P w K mg base bh 11 f fd ["_law_net_here","_law_reached","_law_lost"] (aU P w K tb B4) :=by
 refine dM D oV (fun ds M Q E hS=>by obtain⟨ae,n,e,_⟩:=hS;rw[e];rfl) fun A outer s E Γ ds Q' E' hP hw hK ht hr hS=>?_
 obtain⟨ae,n,e,O,q⟩:=hS;refine⟨_,(aj (fI xp rfl (uW (qv 1)) (fun oS eP ew eK et=>by have hP:=hP.trans eP.symm;have hw:=hw.trans ew.symm;have hK:=hK.trans eK.symm;have ht:=ht.trans et.symm;exact⟨(aI (i:=3) oV.nd rfl (ma rfl)),(au (bN (h8 (dA (aG fR (hr.mono (by decide)) rfl bg.mg bg.fn.kp bg.bd bf hP hw hK ht XR.none (aa (aG oW (hr.mono (by decide)) rfl cB.mg cB.fn.kp cB.bd w5 hP hw hK ht XR.none (aa (qv 0) (aa (qv 3) af))) (aa (uS hr.units (qv 1) (qv 3) (fun _ _=>rfl)) af)))))
   (au (aO fA))
   qss_nil))⟩))
  (au (aO (aG fR (hr.mono (by decide)) rfl bg.mg bg.fn.kp bg.bd bf hP hw hK ht XR.none (aa (aG my (hr.mono (by decide)) rfl bD.mg bD.fn.kp bD.bd w5 hP hw hK ht XR.none (aa (qv 0) af)) (aa (qv 2) af)))))),?_⟩
 subst e;simp! only[reached];have ek:((ay ae.length).map kP).map (fun k=>Dv.tup (k.map lR))=(ay ae.length).map eI :=by
  rw[xy];refine Nl fun k _=>?_
  show Dv.tup ((k.map Pf).map lR)=_;rw[xy];rfl
 rw[ek];refine cV (fun i ρ M=>(∃x,ρ=[some (eN ae),some (reached ae n),some (.lst ((ie ae n).map eI)),x])/\M=Γ.M0) ⟨⟨_,rfl⟩,rfl⟩ (fun i d ρ M N hd hJ hN=>?_) (fun ρ M hJ=>?_)
 ·obtain⟨⟨x,rfl⟩,rfl⟩:=hJ;obtain⟨p,hp,rfl⟩:=je hd;have hp:=cr hp;simp! only[];refine⟨ae,n,p,rfl,O,hp,?_⟩;simp! only[reached,eS,iS,if_pos hp];exact⟨_,rfl,Jt O,hN _ _ ⟨⟨_,rfl⟩,rfl⟩⟩
 ·obtain⟨⟨x,rfl⟩,rfl⟩:=hJ;simp! only[];exact⟨ae,n,rfl,O,_,rfl,DI O,.inl q⟩
def Hb (d:Dv):List Int:=((jN [d]).getD []).headD []
theorem Hc (p:List Int):Hb (eI p)=p :=by
 unfold Hb;rw[show [eI p]=[p].map eI from rfl,j4];rfl
theorem DJ {ae:List (List Int)}{n:Nat}:((ay ae.length).map eI).filter (fun d => !kR ae n (Hb d))=(ie ae n).map eI :=by
 unfold ie su;rw[aba];congr 1
 refine aaL fun p _=>?_
 show (!kR ae n (Hb (eI p)))=_;rw[Hc];unfold kR;simp
def DK (x:Option Dv):Prop:=∀M d,x=some d->Pin M d
theorem Rg {f f1 f2 f3 f4 f5 f6 f7 f8:ag}{fd bT fd2 kj GW U1 U2 Rh Ri:ln}(D:Df K mg "law" xi ["_law_script"] f fd)
  (gL:Df K mg "_law_bag" kN ["_law_script","_law_at"] f1 bT) (DL:FnOk P w K mg base bh 1 f1 bT ["_law_script","_law_at"] (aU P w K tb QD))
  (gM:Df K mg "_law_net" cQ ["_law_bag_here","_law_most"] f2 fd2) (DM:FnOk P w K mg base bh 3 f2 fd2 ["_law_bag_here","_law_most"] (aU P w K tb KD))
  (fk:Df K mg "_law_pairs" gz ["_law_many"] f3 kj) (zT:FnOk P w K mg base bh 1 f3 kj ["_law_many"] (aU P w K tb BV))
  (gN:Df K mg "_law_led" kO ["_law_net_here","_law_pair"] f4 GW) (DN:FnOk P w K mg base bh 2 f4 GW ["_law_net_here","_law_pair"] (aU P w K tb KP))
  (dj:Df K mg "_law_is_called" d7 ["_law_net_here","_law_pairs_here"] f5 U1) (sD:FnOk P w K mg base bh 3 f5 U1 ["_law_net_here","_law_pairs_here"] (aU P w K tb zP))
  (cT:Df K mg "_law_right" ji ["_law_net_here","_law_reached","_law_lost"] f6 U2) (qt:FnOk P w K mg base bh 11 f6 U2 ["_law_net_here","_law_reached","_law_lost"] (aU P w K tb B4))
  (cB:Df K mg "led_pairs" fN ["net","pair"] f7 Rh) (rK:FnOk P w K mg base (eX P w) 10 f7 Rh ["net","pair"] (aU P w K tb DH)) (oW:FnOk P w K mg base (eX P w) 10 f7 Rh ["net","pair"] (aU P w K tb DG))
  (bD:Df K mg "never_called" di ["net"] f8 Ri) (nI:FnOk P w K mg base (eX P w) 8 f8 Ri ["net"] (aU P w K tb va)) (my:FnOk P w K mg base (eX P w) 8 f8 Ri ["net"] (aU P w K tb u9)) (bl:Bl mg) :
  FnOk P w K mg base bh 12 f fd ["_law_script"] (aU P w K tb PL) :=by
 refine dM D nH (fun ds M Q E hS=>by obtain⟨ns,e,_⟩:=hS;rw[e];rfl) fun A outer s E Γ ds Q' E' hP hw hK ht hr hS=>?_
 obtain⟨ns,e,hl,hM,q⟩:=hS;refine⟨_,(aj (Bn xp rfl (cu rfl bl.range_ (aa (av (FI rfl) rfl bl.max_ EH (aa aB (aa (av (yE rfl) rfl bl.min_ xU (aa (av (dr (K:=K) rfl hK) rfl bl.len_ u4 (aa (qv 0) af)) (aa aB af))) af))) af)) (fun oS M1 hM eP ew eK et=>by have hP:=hP.trans eP.symm;have hw:=hw.trans ew.symm;have hK:=hK.trans eK.symm;have ht:=ht.trans et.symm;exact⟨(aI (i:=1) nH.nd rfl (ma rfl)),(aj (bb (i:=2) nH.nd rfl (GE rfl) (aG DM (hr.mono (by decide)) rfl gM.mg gM.fn.kp gM.bd bf hP hw hK ht XR.none (aa (aG DL (hr.mono (by decide)) rfl gL.mg gL.fn.kp gL.bd bf hP hw hK ht XR.none (aa (qv 0) (aa (qv 1) af))) (aa aB af))))
  (aj (bb (i:=3) nH.nd rfl (GE rfl) yO)
  (aj (fI xp rfl (fM (K:=K) rfl (aG zT (hr.mono (by decide)) rfl fk.mg fk.fn.kp fk.bd bf hP hw hK ht XR.none (aa (av (dr (K:=K) rfl hK) rfl bl.len_ u4 (aa (qv 2) af)) af))) (fun oS eP ew eK et=>by have hP:=hP.trans eP.symm;have hw:=hw.trans ew.symm;have hK:=hK.trans eK.symm;have ht:=ht.trans et.symm;exact⟨(aI (i:=4) nH.nd rfl (ma rfl)),(au (uT hr.units (qv 3) (qv 4) (av (BI (K:=K) rfl) rfl bl.sorted_ jX (aa (aG DN (hr.mono (by decide)) rfl gN.mg gN.fn.kp gN.bd bf hP hw hK ht XR.none (aa (qv 2) (aa (qv 4) af))) af))))⟩))
  (aj (Mr 3 hM (tR (i:=5) nH.nd rfl rfl (N':=["_law_pair","_law_net_here","_law_reached"]) (tn:=1) (idx:=[2,3]) rfl (show aD ["_law_script","_law_k","_law_net_here","_law_reached","_law_pair","_law_lost"] (ai xi) _ ["_law_pair","_law_net_here","_law_reached"] 1 [2,3] from by decide +kernel) (uW (qv 3)) (fun _ _ _ _ _=>(aI (i:=0) (show ut [("_law_pair" : bi),("_law_net_here" : bi),("_law_reached" : bi)] from by decide +kernel) rfl (ma rfl))) (fun _ _ _ _ _=>(qE (h8 (dA (aG sD (hr.mono (by decide)) rfl dj.mg dj.fn.kp dj.bd bf hP hw hK ht XR.none (aa (qv 1) (aa (uS hr.units (qv 2) (qv 0) (fun _ _=>rfl)) af))))))) (fun _ _ _ _ _=>(qv 0))))
  (aj (bN (h8 (dA (aG qt (hr.mono (by decide)) rfl cT.mg cT.fn.kp cT.bd bf hP hw hK ht XR.none (aa (qv 2) (aa (qv 3) (aa (qv 5) af))))))
   (au (aO fA))
   qss_nil)
  (aj (fL (yG (K:=K) rfl zn PySem.F.slot_list_clear PySem.F.type_list_clear BA (aG nI (hr.mono (by decide)) rfl bD.mg bD.fn.kp bD.bd w5 hP hw hK ht XR.none (aa (qv 2) af))))
  (aj (bN (bj Pw (av (dr (K:=K) rfl hK) rfl bl.len_ u4 (aa (qv 2) af)) aB (a9 _))
   (au (fL (yG (K:=K) rfl zn PySem.F.slot_list_clear PySem.F.type_list_clear BA (aG rK (hr.mono (by decide)) rfl cB.mg cB.fn.kp cB.bd w5 hP hw hK ht XR.none (aa (qv 2) (aa (jb (aa aB (aa aB af))) af))))))
   qss_nil)
  (au (bN (h8 (dA (aG qt (hr.mono (by decide)) rfl cT.mg cT.fn.kp cT.bd bf hP hw hK ht XR.none (aa (qv 2) (aa (qv 3) (aa (qv 5) af))))))
   (au (aO fA))
   qss_nil)))))))))⟩))
  (au (aO fA))),?_⟩
 subst e;simp! only[];refine⟨by split<;>split<;>omega,by split<;>split<;>omega,?_⟩
 refine cV (fun k ρ M=>(∃x1 x2 x3 x4 x5,(DK x4/\DK x5)/\ρ=[some (.bK ns),x1,x2,x3,x4,x5])/\∀b o,M b=some o->o=.cH\/o=.lst []) ⟨⟨none,none,none,none,none,⟨(fun _ _ h=>nomatch h),(fun _ _ h=>nomatch h)⟩,rfl⟩,fun b o e=>by rw[hM b]at e;cases e⟩ (fun k d ρ M N hd hJ hN=>?_) (fun ρ M _=>.inl (q _))
 obtain⟨⟨x1,x2,x3,x4,x5,⟨p4,p5⟩,rfl⟩,hO⟩:=hJ;obtain⟨rfl,hk⟩:=dC hd;have hk:k<=20 :=by split at hk<;>split at hk<;>omega
 have big:(1000:Nat)<sizeLine :=by decide
 simp! only[];refine⟨ns,_,rfl,hl,by omega,by omega,fun b hb=>?_⟩
 refine⟨b,9,rfl,updM_same,by omega,by omega,fun ae n O _=>?_⟩
 simp! only[];intro a ha;have h9:=O.nine;have cL:=pairs_len h9;have QO:=rH h9;have UN:b≠a:=fun z=>by rw[<- z,updM_same]at ha;cases ha
 have U3:∀c o,aw M b .cH c=some o->o=.cH\/o=.lst []:=fun c o e=>by
  by_cases z:c=b
  ·subst z;rw[updM_same]at e;cases e;exact .inl rfl
  ·rw[ao z]at e;exact hO c o e
 refine⟨ae.length,rfl,h9,?_⟩;refine cV (fun i ρ M'=>(∃x4,DK x4/\ρ=[some (.bK ns),some (.int (k:Nat)),some (eN ae),some (.ptr a),x4,x5])/\M'=aw (aw M b .cH) a (.dt (((ay ae.length).take i).map kP) (((ay ae.length).take i).map fun p=>.lst ((iF ae n p).map eI)))/\i<=(ay ae.length).length) ⟨⟨_,p4,rfl⟩,rfl,mf _⟩ (fun i d ρ M' N' hd hJ YD=>?_) (fun ρ M' hJ=>?_)
 ·obtain⟨⟨x4,p4,rfl⟩,rfl,hi⟩:=hJ;obtain⟨p,hp,rfl⟩:=je hd;have GQ:=cr hp;have lK:=(ca.mp hp).1;have PH:kP p ∉ ((ay ae.length).take i).map kP:=fun h=>by
   obtain⟨q',hq,e⟩:=kt.mp h;have e:=qi _ _ e;subst e;have hs:(ay ae.length).take (i+1)=(ay ae.length).take i++[q'] :=by rw[PP,hp];rfl
   have hn:=(List.take_sublist (i+1) (ay ae.length)).nodup QO;rw[hs,Da]at hn;exact hn.2.2 q' hq q' (io.mpr rfl) rfl
  have hs:(ay ae.length).take (i+1)=(ay ae.length).take i++[p] :=by rw[PP,hp];rfl
  simp! only[];refine⟨ae,n,p,rfl,O,GQ,fun L hL nd hl=>?_⟩
  simp! only[];rw[ZJ,j4];dsimp only;rw[zN h9 GQ hL nd];refine⟨by omega,fun r hr e=>?_,?_⟩
  ·have:=(fE (((hL r).mp hr).mem GQ)).2;rw[e]at this;cases this
  ·simp! only[updM_same,eS,updM_updM];refine⟨by rw[ZF];omega,?_⟩
   obtain⟨e1,e2⟩:=qQ (ds:=((ay ae.length).take i).map fun p=>Dv.lst ((iF ae n p).map eI)) (d:=.lst ((iF ae n p).map eI)) PH
   rw[e1,e2];refine YD _ _ ⟨⟨_,(fun M d e=>by cases e;exact jd p),rfl⟩,?_,lK⟩
   rw[hs,mv,mv];rfl
 ·obtain⟨⟨x4,p4,rfl⟩,rfl,hi⟩:=hJ;rw[bv,W1];have dm:bC (aw (aw M b .cH) a (.dt ((ay ae.length).map kP) ((ay ae.length).map fun p=>.lst ((iF ae n p).map eI)))) a=aw M b .cH:=C2 ha
  refine .inr ⟨a,_,_,rfl,updM_same,hM a,⟨fun j d e=>?_,fun c o e=>?_⟩,?_⟩
  ·match j,e with
   |0,e=>cases e;exact .bK _
   |1,e=>cases e;exact .int _
   |2,e=>cases e;exact FL ae
   |3,e=>cases e;exact AI
   |4,e=>exact p4 _ _ (ij e)
   |5,e=>exact p5 _ _ (ij e)
   |j+6,e=>exact nomatch e
  ·rw[dm]at e;rcases U3 c o e with rfl|rfl<;>exact .inr fun d hd=>nomatch hd
  ·rw[dm];simp! only[];have ek:((ay ae.length).map kP).map (fun k=>Dv.tup (k.map lR))=(ay ae.length).map eI :=by
    rw[xy];refine Nl fun k _=>?_
    show Dv.tup ((k.map Pf).map lR)=_;rw[xy];rfl
   rw[ek];refine⟨by omega,lH (fun d => !kR ae n (Hb d)) (fun d hd R hR=>?_) ?_⟩
   ·obtain⟨p,hp,rfl⟩:=kt.mp hd;simp! only[eS,iS,if_pos hp];rw[Hc]at hR;exact⟨ae,n,p,iF ae n p,rfl,O,hp,fun q=>B3 hp,hR⟩
   ·rw[DJ];refine⟨ae,n,rfl,O,?_⟩;simp! only[];refine⟨ae,n,rfl,O,fun c hc=>?_⟩
    have U4:∀c' o,aw (aw M b .cH) c (.lst []) c'=some o->o=.cH\/o=.lst []:=fun c' o e=>by
     by_cases z:c'=c
     ·subst z;rw[updM_same]at e;cases e;exact .inr rfl
     ·rw[ao z]at e;exact U3 c' o e
    have U5:DK (some (.lst ((ie ae n).map eI))):=fun M d e=>by cases e;exact .lst fun d hd=>by obtain⟨k,_,rfl⟩:=kt.mp hd;exact jd k
    simp! only[updM_same,updM_updM];refine eB (fun h=>?_) (fun h=>?_)
    ·have h:=of_decide_eq_true h;refine⟨by omega,ae,n,[0,1],rfl,O,dD.mpr ⟨0,1,by omega,by omega,rfl⟩,fun c2 BG=>?_⟩
     simp! only[updM_same,updM_updM];refine⟨ae,n,rfl,O,?_⟩;simp! only[];refine hN _ _ ⟨⟨_,_,_,_,_,⟨p4,U5⟩,rfl⟩,fun c' o e=>?_⟩
     by_cases z:c'=c2
     ·subst z;rw[updM_same]at e;cases e;exact .inr rfl
     ·rw[ao z]at e;exact U4 c' o e
    ·refine⟨ae,n,rfl,O,?_⟩;simp! only[];exact hN _ _ ⟨⟨_,_,_,_,_,⟨p4,U5⟩,rfl⟩,U4⟩
end
theorem all_mk {l:aa8}{w:im}{K:ba}{h:hX}{mg:bi->Option al}{fa:ag}{tabs lts:List ag}{C_RoadError C_NoNet C_NoPair:ag}(X:K.In h) (G:h.Ns mainGlobals mg) (YF:mg "law" = some (.ref fa))
  (T:xz (TabOf mg h) ["is_row","is_net","is_set"] tabs) (U:xz (TabOf mg h) ["images_met"] lts)
  (AJ:mT K mainGlobals "RoadError" = some (some (.ref C_RoadError)))
  (MH:mT K mainGlobals "NoNet" = some (some (.ref C_NoNet)))
  (Ju:mT K mainGlobals "NoPair" = some (some (.ref C_NoPair)))
  (eb:CK K C_RoadError [C_NoNet,C_NoPair]=true) (Zk:[C_NoNet,C_NoPair].Nodup)
  (DP:bH K "is_whole" eC)
  (sE:bH K "is_whole_below" cD)
  (Jv:bH K "is_row" lY)
  (Jw:bH K "is_net" lZ)
  (DQ:bH K "need_net" jh)
  (DR:bH K "is_place" kJ)
  (m8:∃tk,pW K "first_met" jO (.int 511 tk))
  (Jx:bH K "is_set" l0)
  (Hd:bH K "is_pair" mU)
  (zU:bH K "sign_image" fc)
  (zV:bH K "images_met" aK)
  (AK:bH K "need_pair" jP)
  (AO:bH K "led_pairs" fN)
  (AQ:bH K "all_pairs" fO)
  (DS:bH K "in_order" kM)
  (vg:bH K "coming_pairs" gE)
  (wU:bH K "led_to_some" fJ)
  (vh:bH K "never_called" di)
  (DT:bH K "_law_bag" kN)
  (AR:bH K "_law_take" ib)
  (zW:bH K "_law_order" gv)
  (DU:bH K "_law_net" cQ)
  (AU:bH K "_law_like" eQ)
  (zX:bH K "_law_pairs" gz)
  (zY:bH K "_law_goals" fe)
  (DV:bH K "_law_led" kO)
  (sF:bH K "_law_is_called" d7)
  (zZ:bH K "_law_right" ji)
  (Te:bH K "law" xi)
  (Tf:mT K mainGlobals "len" = some none)
  (MI:mT K mainGlobals "range" = some none)
  (Th:mT K mainGlobals "min" = some none)
  (Ti:mT K mainGlobals "max" = some none)
  (Tj:mT K mainGlobals "abs" = some none)
  (Rj:mT K mainGlobals "list" = some none)
  (MJ:mT K mainGlobals "tuple" = some none)
  (Tn:mT K mainGlobals "int" = some none)
  (To:mT K mainGlobals "str" = some none)
  (Rk:mT K mainGlobals "bool" = some none)
  (z4:mT K mainGlobals "isinstance" = some none)
  (Tp:mT K mainGlobals "all" = some none)
  (Tq:mT K mainGlobals "set" = some none)
  (Jy:mT K mainGlobals "sorted" = some none)
  (Tr:mT K mainGlobals "zip" = some none)
  (AV:mT K mainGlobals "enumerate" = some none)
  (Ts:mT K mainGlobals "sum" = some none)
  (DW:mT K mainGlobals "reversed" = some none)
  (Jz:mT K mainGlobals "divmod" = some none)
  (Tt:mT K mainGlobals "any" = some none)
  (z9:mT K mainGlobals "ValueError" = some none)
  (vi:∃tk,mT K mainGlobals "SIGNS" = some (some (.str "abc" tk)))
  (ka:∃tk,mT K mainGlobals "MOST_PLACES" = some (some (.int 9 tk)))
  : ∃fd:ln,(∀(s:ar) (v:al),aaP s fd ⟨[v],[]⟩ [("_law_script",v)])/\∀base:hX,K.In base->base.Ns mainGlobals mg->(∃bm ob,ZY base mainGlobals mg bm ob)->(∀c p,u8 h c p->u8 base c p)->FnOk l.prog w K mg base bh 12 fa fd ["_law_script"] (spLaw K ⟨tabs,lts.zip [qI]⟩) :=by
 obtain⟨Tu,RE,bJ⟩:=DP.df X G ["thing"] fun _ _ _ _ _ _ us hl=>match us,hl with | [_],_=>rfl
 obtain⟨JA,Hk,aP⟩:=sE.df X G ["thing","many"] fun _ _ _ _ _ _ us hl=>match us,hl with | [_,_],_=>rfl
 obtain⟨Wl,U6,iA⟩:=Jv.df X G ["thing","many","width"] fun _ _ _ _ _ _ us hl=>match us,hl with | [_,_,_],_=>rfl
 obtain⟨Wm,U7,iB⟩:=Jw.df X G ["thing"] fun _ _ _ _ _ _ us hl=>match us,hl with | [_],_=>rfl
 obtain⟨Tv,RF,cS⟩:=DQ.df X G ["thing"] fun _ _ _ _ _ _ us hl=>match us,hl with | [_],_=>rfl
 obtain⟨Tw,RG,gK⟩:=DR.df X G ["net","thing"] fun _ _ _ _ _ _ us hl=>match us,hl with | [_,_],_=>rfl
 obtain⟨Rm,m8⟩:=m8;obtain⟨RH,Rn,fS⟩:=m8.df X G ["start","width","step","most"] (fun _ _ _ _ _ _ _ us hl=>match us,hl with | [_,_,_],_=>⟨_,rfl,rfl⟩) fun _ _ _ _ _ _ _ us hl=>match us,hl with | [_,_,_,_],_=>⟨_,rfl,rfl⟩
 obtain⟨Wn,U8,iE⟩:=Jx.df X G ["net","thing"] fun _ _ _ _ _ _ us hl=>match us,hl with | [_,_],_=>rfl
 obtain⟨U9,Tx,iT⟩:=Hd.df X G ["net","thing"] fun _ _ _ _ _ _ us hl=>match us,hl with | [_,_],_=>rfl
 obtain⟨Ro,MQ,dE⟩:=zU.df X G ["net","places","at"] fun _ _ _ _ _ _ us hl=>match us,hl with | [_,_,_],_=>rfl
 obtain⟨Rp,MR,d8⟩:=zV.df X G ["net","places"] fun _ _ _ _ _ _ us hl=>match us,hl with | [_,_],_=>rfl
 obtain⟨RJ,Rq,fT⟩:=AK.df X G ["net","thing"] fun _ _ _ _ _ _ us hl=>match us,hl with | [_,_],_=>rfl
 obtain⟨RK,Rr,cB⟩:=AO.df X G ["net","pair"] fun _ _ _ _ _ _ us hl=>match us,hl with | [_,_],_=>rfl
 obtain⟨RL,Rt,cA⟩:=AQ.df X G ["net"] fun _ _ _ _ _ _ us hl=>match us,hl with | [_],_=>rfl
 obtain⟨Tz,RN,gG⟩:=DS.df X G ["one","other"] fun _ _ _ _ _ _ us hl=>match us,hl with | [_,_],_=>rfl
 obtain⟨MK,KW,dX⟩:=vg.df X G ["net"] fun _ _ _ _ _ _ us hl=>match us,hl with | [_],_=>rfl
 obtain⟨MS,ML,eu⟩:=wU.df X G ["coming","goals"] fun _ _ _ _ _ _ us hl=>match us,hl with | [_,_],_=>rfl
 obtain⟨MM,KY,bD⟩:=vh.df X G ["net"] fun _ _ _ _ _ _ us hl=>match us,hl with | [_],_=>rfl
 obtain⟨TC,RO,gL⟩:=DT.df X G ["_law_script","_law_at"] fun _ _ _ _ _ _ us hl=>match us,hl with | [_,_],_=>rfl
 obtain⟨RP,Ru,aA⟩:=AR.df X G ["_law_bag_here","_law_many"] fun _ _ _ _ _ _ us hl=>match us,hl with | [_,_],_=>rfl
 obtain⟨Rv,MT,cR⟩:=zW.df X G ["_law_bag_here","_law_many"] fun _ _ _ _ _ _ us hl=>match us,hl with | [_,_],_=>rfl
 obtain⟨TF,RQ,gM⟩:=DU.df X G ["_law_bag_here","_law_most"] fun _ _ _ _ _ _ us hl=>match us,hl with | [_,_],_=>rfl
 obtain⟨RT,Rw,bg⟩:=AU.df X G ["_law_found","_law_due"] fun _ _ _ _ _ _ us hl=>match us,hl with | [_,_],_=>rfl
 obtain⟨Rx,MU,fk⟩:=zX.df X G ["_law_many"] fun _ _ _ _ _ _ us hl=>match us,hl with | [_],_=>rfl
 obtain⟨Ry,MV,bX⟩:=zY.df X G ["_law_net_here","_law_pair"] fun _ _ _ _ _ _ us hl=>match us,hl with | [_,_],_=>rfl
 obtain⟨TH,RU,gN⟩:=DV.df X G ["_law_net_here","_law_pair"] fun _ _ _ _ _ _ us hl=>match us,hl with | [_,_],_=>rfl
 obtain⟨JB,Hl,dj⟩:=sF.df X G ["_law_net_here","_law_pairs_here"] fun _ _ _ _ _ _ us hl=>match us,hl with | [_,_],_=>rfl
 obtain⟨RA,MX,cT⟩:=zZ.df X G ["_law_net_here","_law_reached","_law_lost"] fun _ _ _ _ _ _ us hl=>match us,hl with | [_,_,_],_=>rfl
 obtain⟨YK,RB,DX⟩:=Te.df X G ["_law_script"] fun _ _ _ _ _ _ us hl=>match us,hl with | [_],_=>rfl
 have RV:=ON X G AJ;have u5:=ON X G MH;have sA:=ON X G Ju;have X_:=Lz eb;have u0:C_NoNet∈[C_NoNet,C_NoPair] :=by simp
 have sy:C_NoPair∈[C_NoNet,C_NoPair] :=by simp
 have e:=YF.symm.trans DX.mg;cases e;have bl:Bl mg:=⟨nw X G Tf,nw X G MI,nw X G Th,nw X G Ti,nw X G Tj,nw X G Rj,nw X G MJ,nw X G Tn,nw X G To,nw X G Rk,nw X G z4,nw X G Tp,nw X G Tq,nw X G Jy,nw X G Tr,nw X G AV,nw X G Ts,nw X G DW,nw X G Jz,nw X G Tt,nw X G z9⟩;obtain⟨Wo,vi⟩:=vi;have mw:=ON X G vi;obtain⟨MN,ka⟩:=ka;have jG:=ON X G ka;obtain⟨aZ,Va,rfl,JC,T⟩:=fK T;obtain⟨bq,Vb,rfl,JD,T⟩:=fK T;obtain⟨bt,Vc,rfl,JE,T⟩:=fK T;cases T;obtain⟨aL,MY,rfl,Aa,U⟩:=fK U;cases U;refine⟨RB,fun s v=>DX.bind1 s v (by intros;rfl),fun base _ _ fW tr=>?_⟩
 obtain⟨ow,jF⟩:=tm iA X JC tr;obtain⟨zh,ox⟩:=tm iB X JD tr;obtain⟨zJ,oE⟩:=tm iE X JE tr;obtain⟨qo,jm⟩:=tm d8 X Aa tr;have He:aZ∈(⟨[aZ,bq,bt],[(aL,qI)]⟩:cf) :=by show _∈[aZ,bq,bt];simp
 have Hf:bq∈(⟨[aZ,bq,bt],[(aL,qI)]⟩:cf) :=by show _∈[aZ,bq,bt];simp
 have Hg:bt∈(⟨[aZ,bq,bt],[(aL,qI)]⟩:cf) :=by show _∈[aZ,bq,bt];simp
 have jI:(aL,qI)∈(⟨[aZ,bq,bt],[(aL,qI)]⟩:cf).l :=by simp
 have jJ:∀q∈(⟨[aZ,bq,bt],[(aL,qI)]⟩:cf).l,q.1=aL->q.2=qI :=by simp
 have sm:=GJ (P:=l.prog) (w:=w) (tb:=(⟨[aZ,bq,bt],[(aL,qI)]⟩:cf)) iB ox Hf iA jF He fW aP bJ bl jG;have gH:=AA cS iB sm X_ u0 u5;have sx:=Ha (P:=l.prog) (w:=w) (base:=base) (tb:=(⟨[aZ,bq,bt],[(aL,qI)]⟩:cf)) iE oE Hg fW gK aP bJ bl;have qp:=DF iT iE sx bl;have m7:=zL fT iT qp X_ sy sA;have mx:=wR (P:=l.prog) (w:=w) (tb:=(⟨[aZ,bq,bt],[(aL,qI)]⟩:cf)) d8 jm fW jI jJ fS dE bl mw;have Hh:=zO cB cS gH fT m7 d8 mx bl;have KZ:=oB (S:=DH) Hh fun ds M Q E ⟨ae,n,p,e,O,hp,q⟩=>⟨ae,n,p,e,O,hp,.inl q⟩
 have B5:=oB (S:=DG) Hh fun ds M Q E ⟨ae,n,p,e,O,hp,q⟩=>⟨ae,n,p,e,O,hp,.inr q⟩
 have fQ:=zk (P:=l.prog) (w:=w) (base:=base) (tb:=(⟨[aZ,bq,bt],[(aL,qI)]⟩:cf)) cA bl;have oA:=AD (P:=l.prog) (w:=w) (base:=base) (tb:=(⟨[aZ,bq,bt],[(aL,qI)]⟩:cf)) gG;have JF:=ug dX cA fQ gG oA bl;have DY:=u6 (P:=l.prog) (w:=w) (base:=base) (tb:=(⟨[aZ,bq,bt],[(aL,qI)]⟩:cf)) eu bl;have Ab:=ui bD cS gH cA fQ dX JF eu DY bl;have B6:=oB (S:=va) Ab fun ds M Q E ⟨ae,n,e,O,q⟩=>⟨ae,n,e,O,.inl q⟩
 have wF:=oB (S:=u9) Ab fun ds M Q E ⟨ae,n,e,O,q⟩=>⟨ae,n,e,O,.inr q⟩
 have Hi:=QF (tb:=(⟨[aZ,bq,bt],[(aL,qI)]⟩:cf)) (Aw (P:=l.prog) (w:=w) (base:=base) aA);have TJ:=S9 (tb:=(⟨[aZ,bq,bt],[(aL,qI)]⟩:cf)) (Dl (P:=l.prog) (w:=w) (base:=base) gL bl);have MO:=y9 cR aA Hi bl;have TK:=Dn gM aA Hi cR MO bl;have JG:=zy (P:=l.prog) (w:=w) (base:=base) (tb:=(⟨[aZ,bq,bt],[(aL,qI)]⟩:cf)) fk bl;have Ac:=zz (P:=l.prog) (w:=w) (base:=base) (tb:=(⟨[aZ,bq,bt],[(aL,qI)]⟩:cf)) bX bl;have RC:=Du gN bX Ac bl;have Hj:=sC dj bX Ac bl;have RD:=wx bg (wx bg (GY (P:=l.prog) (w:=w) (base:=base) (tb:=(⟨[aZ,bq,bt],[(aL,qI)]⟩:cf)) bg bl) bl) bl;have MP:=zS cT cB KZ B5 bD B6 wF bg RD bl;exact PN (Rg DX gL TJ gM TK fk JG gN RC dj Hj cT MP cB KZ B5 bD B6 wF bl)
theorem walk {l:aa8}{q:ff}{loose:List bi}{XP:(bi->Option al)->hX->Prop}{YP:im->hX->Prop}{d:DefRec}{K:abi->ba}(hn:l.most=some 63) (Eu:d.params.defaults=[])
  (F0:∀w:im,aaq (K w.params)=true) (Kr:∀y∈((["is_row","is_net","is_set"]:List bi)++(["images_met"]:List bi)),∃r∈recsOf q,r.name=y) (rn:∀w:im,uV (K w.params) ["is_row","is_net","is_set"] ["images_met"]=true) (hY:∀(w:im) (h:hX),YP w h->(K w.params).In h)
  (F:∀(w:im) (mg:bi->Option al) (fa:ag) (h:hX) (tabs lts:List ag),(K w.params).In h->h.Ns mainGlobals mg->mg d.name=some (.ref fa)->
   xz (TabOf mg h) ["is_row","is_net","is_set"] tabs->xz (TabOf mg h) ["images_met"] lts->
   ∃fd:ln,(∀(s:ar) (u:al),aaP s fd ⟨[u],[]⟩ [("_law_script",u)]) /\
    ∀base:hX,(K w.params).In base->base.Ns mainGlobals mg->(∃bm ob,ZY base mainGlobals mg bm ob)->(∀c p,u8 h c p->u8 base c p)->FnOk l.prog w (K w.params) mg base bh 12 fa fd ["_law_script"] (spLaw (K w.params) ⟨tabs,lts.zip [qI]⟩)) :
  PySem.W.WalkO q loose XP YP l.row.toRowW d [] (fun f vs=>abd f vs):=
 L2.IM (n:=63) (k:=12) (x := "_law_script") (CX:=bh) (sp:=fun K tabs lts=>spLaw K ⟨tabs,lts.zip [qI]⟩) hn (by decide) Eu ⟨rfl,by decide,by decide⟩ F0 Kr rn hY F (fun _ _ _ _ a ns hl hn hT hL hS=>IP hl hn hT hL hS) fun _ _ _ _ z=>z
end My
open PySem PySem.W PyProof.Rows L2
set_option maxRecDepth 100000 in
set_option maxHeartbeats 0 in
theorem PySem.Challenge.cw_roadcall_k26_pairs_led_holds : PySem.Challenge.rw_roadcall_k26_pairs_led.Holds := by
 w_on;o_law
 refine My.K0 (q:=My.kq) (loose:=My.kL) (H:=My.kH) My.left (by rfl) (by rfl) (by rfl) (by rfl) (by first|assumption|decide +kernel) (by decide +kernel) ⟨rfl,rfl,rfl,rfl,rfl,by decide +kernel⟩ ?hw ?hc
 (case hw=>w_witness2)
 refine My.walk (l:=PySem.Challenge.rw_roadcall_k26_pairs_led) rfl rfl (fun w=>by kernel_rfl) (recs_of (by decide +kernel)) (fun w=>by kernel_rfl) (fun w h Y=>Y) ?F
 intro w mg fa h tabs lts KX G Ew T U;exact My.all_mk (C_RoadError:=24) (C_NoNet:=37) (C_NoPair:=49) KX G Ew T U
  (by kernel_rfl)
  (by kernel_rfl)
  (by kernel_rfl)
  (by kernel_rfl)
  (by decide)
  (L2.aW (f:=58) (oc:=.type "function") (od:=none) (sl:=#[]) (kV:=.none) (dc:=.none) (pm:=My.vS "roadcall.whole" 239) (an:=none) (cd:=.ref 57) (ct:=.none) (by kernel_rfl) (by kernel_rfl) (by kernel_rfl) (by kernel_rfl))
  (L2.aW (f:=65) (oc:=.type "function") (od:=none) (sl:=#[]) (kV:=.none) (dc:=.none) (pm:=My.vS "roadcall.whole" 239) (an:=none) (cd:=.ref 64) (ct:=.none) (by kernel_rfl) (by kernel_rfl) (by kernel_rfl) (by kernel_rfl))
  (L2.aW (f:=72) (oc:=.type "function") (od:=none) (sl:=#[]) (kV:=.none) (dc:=.none) (pm:=My.vS "roadcall.nets" 256) (an:=none) (cd:=.ref 71) (ct:=.none) (by kernel_rfl) (by kernel_rfl) (by kernel_rfl) (by kernel_rfl))
  (L2.aW (f:=79) (oc:=.type "function") (od:=none) (sl:=#[]) (kV:=.none) (dc:=.none) (pm:=My.vS "roadcall.nets" 256) (an:=none) (cd:=.ref 78) (ct:=.none) (by kernel_rfl) (by kernel_rfl) (by kernel_rfl) (by kernel_rfl))
  (L2.aW (f:=86) (oc:=.type "function") (od:=none) (sl:=#[]) (kV:=.none) (dc:=.none) (pm:=My.vS "roadcall.nets" 256) (an:=none) (cd:=.ref 85) (ct:=.none) (by kernel_rfl) (by kernel_rfl) (by kernel_rfl) (by kernel_rfl))
  (L2.aW (f:=93) (oc:=.type "function") (od:=none) (sl:=#[]) (kV:=.none) (dc:=.none) (pm:=My.vS "roadcall.nets" 256) (an:=none) (cd:=.ref 92) (ct:=.none) (by kernel_rfl) (by kernel_rfl) (by kernel_rfl) (by kernel_rfl))
  (L2.F4 (f:=101) (oc:=.type "function") (od:=none) (sl:=#[]) (T:=94) (oT:=⟨.type "tuple",none,.seq #[.int 511 298] 0,#[]⟩) (kV:=.none) (dc:=.none) (pm:=My.vS "roadcall.ways" 296) (an:=none) (cd:=.ref 100) (ct:=.none) (by kernel_rfl) (by kernel_rfl) (by kernel_rfl) (by kernel_rfl) (by kernel_rfl) rfl)
  (L2.aW (f:=108) (oc:=.type "function") (od:=none) (sl:=#[]) (kV:=.none) (dc:=.none) (pm:=My.vS "roadcall.words" 315) (an:=none) (cd:=.ref 107) (ct:=.none) (by kernel_rfl) (by kernel_rfl) (by kernel_rfl) (by kernel_rfl))
  (L2.aW (f:=115) (oc:=.type "function") (od:=none) (sl:=#[]) (kV:=.none) (dc:=.none) (pm:=My.vS "roadcall.words" 315) (an:=none) (cd:=.ref 114) (ct:=.none) (by kernel_rfl) (by kernel_rfl) (by kernel_rfl) (by kernel_rfl))
  (L2.aW (f:=120) (oc:=.type "function") (od:=none) (sl:=#[]) (kV:=.none) (dc:=.none) (pm:=My.vS "roadcall.words" 315) (an:=none) (cd:=.ref 119) (ct:=.none) (by kernel_rfl) (by kernel_rfl) (by kernel_rfl) (by kernel_rfl))
  (L2.aW (f:=127) (oc:=.type "function") (od:=none) (sl:=#[]) (kV:=.none) (dc:=.none) (pm:=My.vS "roadcall.words" 315) (an:=none) (cd:=.ref 126) (ct:=.none) (by kernel_rfl) (by kernel_rfl) (by kernel_rfl) (by kernel_rfl))
  (L2.aW (f:=134) (oc:=.type "function") (od:=none) (sl:=#[]) (kV:=.none) (dc:=.none) (pm:=My.vS "roadcall.pairs" 349) (an:=none) (cd:=.ref 133) (ct:=.none) (by kernel_rfl) (by kernel_rfl) (by kernel_rfl) (by kernel_rfl))
  (L2.aW (f:=139) (oc:=.type "function") (od:=none) (sl:=#[]) (kV:=.none) (dc:=.none) (pm:=My.vS "roadcall.pairs" 349) (an:=none) (cd:=.ref 138) (ct:=.none) (by kernel_rfl) (by kernel_rfl) (by kernel_rfl) (by kernel_rfl))
  (L2.aW (f:=144) (oc:=.type "function") (od:=none) (sl:=#[]) (kV:=.none) (dc:=.none) (pm:=My.vS "roadcall.pairs" 349) (an:=none) (cd:=.ref 143) (ct:=.none) (by kernel_rfl) (by kernel_rfl) (by kernel_rfl) (by kernel_rfl))
  (L2.aW (f:=151) (oc:=.type "function") (od:=none) (sl:=#[]) (kV:=.none) (dc:=.none) (pm:=My.vS "roadcall.pairs" 349) (an:=none) (cd:=.ref 150) (ct:=.none) (by kernel_rfl) (by kernel_rfl) (by kernel_rfl) (by kernel_rfl))
  (L2.aW (f:=158) (oc:=.type "function") (od:=none) (sl:=#[]) (kV:=.none) (dc:=.none) (pm:=My.vS "roadcall.pairs" 349) (an:=none) (cd:=.ref 157) (ct:=.none) (by kernel_rfl) (by kernel_rfl) (by kernel_rfl) (by kernel_rfl))
  (L2.aW (f:=163) (oc:=.type "function") (od:=none) (sl:=#[]) (kV:=.none) (dc:=.none) (pm:=My.vS "roadcall.pairs" 349) (an:=none) (cd:=.ref 162) (ct:=.none) (by kernel_rfl) (by kernel_rfl) (by kernel_rfl) (by kernel_rfl))
  (L2.aW (f:=168) (oc:=.type "function") (od:=none) (sl:=#[]) (kV:=.none) (dc:=.none) (pm:=My.vS "roadcall.pairs" 349) (an:=none) (cd:=.ref 167) (ct:=.none) (by kernel_rfl) (by kernel_rfl) (by kernel_rfl) (by kernel_rfl))
  (L2.aW (f:=175) (oc:=.type "function") (od:=none) (sl:=#[]) (kV:=.none) (dc:=.none) (pm:=My.vS "law_roadcall_k26_pairs_led" 403) (an:=none) (cd:=.ref 174) (ct:=.none) (by kernel_rfl) (by kernel_rfl) (by kernel_rfl) (by kernel_rfl))
  (L2.aW (f:=182) (oc:=.type "function") (od:=none) (sl:=#[]) (kV:=.none) (dc:=.none) (pm:=My.vS "law_roadcall_k26_pairs_led" 403) (an:=none) (cd:=.ref 181) (ct:=.none) (by kernel_rfl) (by kernel_rfl) (by kernel_rfl) (by kernel_rfl))
  (L2.aW (f:=187) (oc:=.type "function") (od:=none) (sl:=#[]) (kV:=.none) (dc:=.none) (pm:=My.vS "law_roadcall_k26_pairs_led" 403) (an:=none) (cd:=.ref 186) (ct:=.none) (by kernel_rfl) (by kernel_rfl) (by kernel_rfl) (by kernel_rfl))
  (L2.aW (f:=192) (oc:=.type "function") (od:=none) (sl:=#[]) (kV:=.none) (dc:=.none) (pm:=My.vS "law_roadcall_k26_pairs_led" 403) (an:=none) (cd:=.ref 191) (ct:=.none) (by kernel_rfl) (by kernel_rfl) (by kernel_rfl) (by kernel_rfl))
  (L2.aW (f:=197) (oc:=.type "function") (od:=none) (sl:=#[]) (kV:=.none) (dc:=.none) (pm:=My.vS "law_roadcall_k26_pairs_led" 403) (an:=none) (cd:=.ref 196) (ct:=.none) (by kernel_rfl) (by kernel_rfl) (by kernel_rfl) (by kernel_rfl))
  (L2.aW (f:=202) (oc:=.type "function") (od:=none) (sl:=#[]) (kV:=.none) (dc:=.none) (pm:=My.vS "law_roadcall_k26_pairs_led" 403) (an:=none) (cd:=.ref 201) (ct:=.none) (by kernel_rfl) (by kernel_rfl) (by kernel_rfl) (by kernel_rfl))
  (L2.aW (f:=207) (oc:=.type "function") (od:=none) (sl:=#[]) (kV:=.none) (dc:=.none) (pm:=My.vS "law_roadcall_k26_pairs_led" 403) (an:=none) (cd:=.ref 206) (ct:=.none) (by kernel_rfl) (by kernel_rfl) (by kernel_rfl) (by kernel_rfl))
  (L2.aW (f:=214) (oc:=.type "function") (od:=none) (sl:=#[]) (kV:=.none) (dc:=.none) (pm:=My.vS "law_roadcall_k26_pairs_led" 403) (an:=none) (cd:=.ref 213) (ct:=.none) (by kernel_rfl) (by kernel_rfl) (by kernel_rfl) (by kernel_rfl))
  (L2.aW (f:=219) (oc:=.type "function") (od:=none) (sl:=#[]) (kV:=.none) (dc:=.none) (pm:=My.vS "law_roadcall_k26_pairs_led" 403) (an:=none) (cd:=.ref 218) (ct:=.none) (by kernel_rfl) (by kernel_rfl) (by kernel_rfl) (by kernel_rfl))
  (L2.aW (f:=226) (oc:=.type "function") (od:=none) (sl:=#[]) (kV:=.none) (dc:=.none) (pm:=My.vS "law_roadcall_k26_pairs_led" 403) (an:=none) (cd:=.ref 225) (ct:=.none) (by kernel_rfl) (by kernel_rfl) (by kernel_rfl) (by kernel_rfl))
  (L2.aW (f:=231) (oc:=.type "function") (od:=none) (sl:=#[]) (kV:=.none) (dc:=.none) (pm:=My.vS "law_roadcall_k26_pairs_led" 403) (an:=none) (cd:=.ref 230) (ct:=.none) (by kernel_rfl) (by kernel_rfl) (by kernel_rfl) (by kernel_rfl))
  (by kernel_rfl)
  (by kernel_rfl)
  (by kernel_rfl)
  (by kernel_rfl)
  (by kernel_rfl)
  (by kernel_rfl)
  (by kernel_rfl)
  (by kernel_rfl)
  (by kernel_rfl)
  (by kernel_rfl)
  (by kernel_rfl)
  (by kernel_rfl)
  (by kernel_rfl)
  (by kernel_rfl)
  (by kernel_rfl)
  (by kernel_rfl)
  (by kernel_rfl)
  (by kernel_rfl)
  (by kernel_rfl)
  (by kernel_rfl)
  (by kernel_rfl)
  ⟨258,by kernel_rfl⟩
  ⟨260,by kernel_rfl⟩
