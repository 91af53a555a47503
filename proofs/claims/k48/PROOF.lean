import PyProof.Rows.All
import Wide.All
import OpenK.AllK
import Wide.FinOn
import Lean
import PySem.Challenge.RW_roadcall_k48_whole_top_pairs_are_stable
import PyProof.EqAt
import PyProof.EqKinds
import PyProof.TupleCall
import PyProof.NeKinds
import PyProof.EnumMake
import PyProof.EnumFor
import PyProof.ZipIter
import PyProof.Rows.ZipGen
import PyProof.TupleKey
import KE.KLam
import PyProof.DictItems
import KE.KTurnsDict
import KE.KPairComp
import KE.KDictList
import KE.KRevSl
import KE.KRevIter
import PyProof.FitsBits
import PyProof.NoPylong
import PyProof.CallType
import PyProof.TupleOfGen
open PySem renaming wpAny_bind->ac,Addr->ag,Value->al,Shared->ba,wpAny_pure->bi,Str->ci,wpAny->c8,Expr->io,Heap->i8,Program->jp,World->lf,mainGlobals->li,starEach->lw,SetTable->l7,Obj->l9,wpAny_mono->on,boot_len->r9,Around->sB,FuncData->tz,mem_of_lookup->u4,Builtin->wl,Pos->wv,Stmt->wE,wpAny_holding->wS,Scope->wT,seg_bind_wrap->xy,bootBuiltins->zd,tupleKeyHash->ze,wpAny_call_entry->zn,foldedSetIterable->zw,wpAny_truthy_bool->BB,Paired->BY,wpAny_newObj_type->B0,Spec->Cc,cLine->CS,wpAny_standAt->DO,builtinsNs->ET,intKind->Fa,wpAny_setState_of->Fk,wpAny_callSpecial?_slot->FF,plainId_quiet->FS,wpAny_seqItems->Gc,wpAny_rule->GS,wpAny_Call_Name_kw->Ll,IsPair->Lo,codeAny_builtin->Mc,wpAny_field->Mn,IsTupleKey->Nd,wpAny_comprehension_free->NJ,codeAny->OE,Env->ON,wpAny_setEntries_of->OR,sizeLine_eq->Pf,wpAny_of_in1->PM,tupleKind_room_in1->Rs,wpAny_setField_rec->RS,wpAny_passesOwn->Sk,wpAny_updateSeq->SB,wpAny_letGo->T0,Keyword->UF,NameKind->UV,CmpOp->YD,wpAny_askSetting->YE,wpAny_attempt->YL,Sem->YS,GenState->YX,TriplesOk->YZ,call_function_tree->Y0,wpAny_newTuple->Y6,wpAny_storeSet_of->Zd,fits_of_scanBound->Ze,wpAny_pyIter_slot->Zf,wpAny_setEpoch_of->Zg,Tok->Zj,Result->Zl,seg_again->ZC,wpAny_execs_nil->ZM,wpAny_newFunctionEnv->ZT,wpAny_pyNext_genexpQ->ZU,wpAny_typeOf->ZZ,call_meetsIn->Z0,wpAny_updateSeq_pair->Z4,ElemsOf->aaa,wpAny_fieldsOf->aab,wpAny_pyIter_tuple->aaf,putSet_of->aah,wpAny_newList->aan,wpAny_onRaise->aar,wpAny_assign_Name->aav,wpAny_pyIter_list->aaw,slot_list_getitem->aax,typeIs_int->aaC,PlainAttrs->aaD,call_meets->aaE,BindsTo->aaF,wpAny_pyIter_gen->aaJ,wpAny_isInstance->aaK,wpAny_forIn_list->aaM,PassesOwn->aaR,wpAny_specialOf->aaS,pushCells_keeps->aaU,intItems_at->aaY,call->aa0,wpAny_load->aa1,ZipApart->aa3,Params->aa4,compStart->aa6,WalksS->aa8,Walks->aa9
open List renaming getElem?_eq_getElem->ap,length_map->bn,getElem?_eq_some_iff->ca,getD_eq_getElem?_getD->cr,mem_cons_of_mem->db,getElem?_map->dL,mem_of_getElem?->ff,mem_append_right->f8,range->hX,mem_cons_self->ii,mem_map->im,mem_singleton->lc,mem_cons->lp,size_toArray->lv,mem_range->l6,map_append->mf,map_cons->mo,replicate->mT,mem_iff_getElem?->nw,mem_append->qr,length_append->r6,mem_append_left->uu,all_eq_true->u8,getElem_mem->v6,length_cons->wn,getElem?_append_left->wp,map_map->wP,replicate_succ->xb,length_range->At,getElem?_zip_eq_some->AC,Nodup->Cf,getElem?_append_right->Cs,drop_eq_getElem_cons->Do,not_mem_nil->EO,getElem?_range->EU,getElem?_cons_succ->FM,lookup_cons->GE,map_congr_left->GG,append_assoc->GM,length_singleton->GT,append_nil->Ix,nil_append->ID,nodup_append->IS,length_set->IT,pairwise_iff_getElem->JJ,getElem?_eq_none->KB,any_cons->LB,getElem?_set->LM,mem_filter->LS,drop_length->Nl,nodup_cons->NG,length_nil->NO,flatten_cons->OF,getElem?_replicate->OL,filterMap_cons->OP,length_pos_of_mem->Ps,Perm->PP,getElem_range->RI,length_replicate->Sm,length_zip->SI,range_succ->SO,getElem?_inj->TM,map_nil->Wp,length_erase_of_mem->WE,toArray->WF,getElem?_cons_zero->WJ,forIn_cons->Yn,find?_cons->Yq,take_of_length_le->Yr,pairwise_lt_range->Ys,eq_nil_of_length_eq_zero->Yw,pairwise_map->Yx,any_eq_true->YF,mem_erase_of_ne->YH,take_length->YK,toList_toArray->YN,zip_eq_zipWith->YO,replicate_zero->YQ,flatMap_append->YR,mem_or_eq_of_mem_set->YW,mem_filterMap->YY,zip_cons_cons->Y1,map->Y2,set_cons_zero->Y3,set_cons_succ->Y4,forIn_nil->Y7,take_succ->Y8,pairwise_singleton->Y9,ext_getElem?->Zh,getElem?_set_self->Zk,all_cons->Zm,Pairwise->Zn,nodup_range->Zv,filter_cons->Zw,cons_append->Zy,length_filter_le->ZI,of_mem_zip->ZO,foldl_cons->ZR,pairwise_append->ZV,mem_iff_getElem->Z1,zip_append->Z2,getElem?_append->Z3,length_take_le'->Z5,getElem?_drop->aag,find?_eq_none->aai,pairwise_cons->aak,reverse_cons->aay,take_add_one->aaB,length_take->aaH,ext_getElem->aaL,length->aaX
open PySem.Heap renaming get?_push_of_some->br,get?_push_size->ij,lt_size->kt,get?_update_self->ww,size_push->xp,get?_update_other->AM,SameBut->Cn,get?_push_ne->Zi,size_update->Zx
open PySem.W renaming Frag->bv,mg_none_of->tw,nsIn->ul,CodeHd->u7,kia_one->Is,fnOf->KF,keepIn->Uf,mg_of->WS,codeIn->Yz,tabObj->YA,hideAll->ZL,looseW->Z7,kitOne->Z9,kb_classed->aaj,recOk->aal,excIn->aap,methodObj->aau,xlAt->aaG,opening->aaO,instObj->aaQ,OpenLaw->aaV
open Nat renaming le_refl->cb,ne_of_lt->l5,lt_of_lt_of_le->sK,zero_le->ut,le_trans->wb,lt_succ_of_lt->xz,lt_succ_self->AT,lt_irrefl->DD,le_succ->IR,lt_of_le_of_lt->Lu,lt_or_ge->MW,le_of_lt->Pv,min_self->Re,sub_self->Sc,zero_add->WI,strongRecOn->Yo,ne_of_gt->Yy,lt_trans->YB,le_add_right->YG,not_lt_zero->YT,le_of_not_lt->Zq,mod_lt->ZW,reduceAdd->aas,reduceSub->aat,mul_comm->aaI
open Bool renaming false_ne_true->gc,false_eq_true->i4,and_eq_true->EN,not_true->Na,false_and->Pc,true_and->W1,eq_iff_iff->Ym,not_false->YC,or_eq_true->YU,not_eq_true->ZA
open Array renaming length_toList->kw,getElem?_eq_getElem->wr,getElem?_eq_none->Me,getElem?_toList->No,getD->NL,mem_of_getElem?->ZH,mem_toList_iff->ZN,replicate->aaT
open Option.some renaming inj->lm,injEq->LP
open PySem.SeqAt renaming EqAt->l8
open Or renaming inl->mv,inr->LH
open Option renaming map_eq_some_iff->rc,map_some->Co,ne_none_iff_exists'->SZ,some->Yv,join_some->YI,bind_some->Zu,getD_some->ZB
open PySem.SetTable renaming below->rf,insertAt->BN,bits->EM,grown->NE,runEnd->On,turns->Pd,Probe->US,fresh->aac,leap->aaq,layClean->aba,probe->abb
open PySem.Value renaming ref->ss,none->AS,type->LG,isInt_shape->Za,bool->ZJ,str->aaP,int->aa5
open PySem.PassesOwn renaming never->sw
open Int renaming eq_ofNat_of_zero_le->xw,toNat_natCast->xL,le_refl->LF,zero_add->Op,emod_nonneg->YV
open PySem.NameKind renaming free->AE,cell->WP
open PySem.Heap.SameBut renaming update->AL
open PySem.Str renaming ofString->AN
open PySem.F renaming plainAttrs_list->BS,slot_list_append->EQ,type_list_append->ES,slot_dict_get->SL,plain_list_iadd->Tl,entry_dict_get->Yt,plain_max_loop->YJ,plain_all_loop->Zt,entry_proto_collect->ZF,plain_proto_collect->ZG,slot_set_iter->ZY,entry_list_iadd->aaA,plain_any_loop->aaN,slot_zip_next->aaW
open Ne renaming symm->Ch
open PySem.Obj renaming mapSeq->Da,putSet->Po,data_mapFields->P3,isFreed_of_fields->ZE,cls_mapFields->aaz
open Classical renaming byContradiction->Db,not_not->TD
open PySem.Around renaming under_plainId->Go
open PyProof.Rows renaming callWith_type1->IF,callWith_builtin1->NH,IntsAre->So,BMod->Zs,listUpdate_at->aao,AllBare->aaZ,Subscript_->aa2
open PySem.Builtin.List renaming listExtendWith->IN,listTooLong->VT,listSameRef->WA
open PySem.Calls renaming spliced_cons->KM,spliced_nil->Os,evalArgs_plain->ZQ
open PySem.Builtin.Str renaming occurrences->OK
open False renaming elim->Pe
open True renaming intro->Pi
open PySem.Paired renaming length->SS
open PySem.SetTable.probe renaming go->Tk
open PySem.W.Fast renaming tw821141287760084731->TW
open List.cons renaming inj->XV
open PySem.SetTable.layClean renaming free->Yu
open Sum renaming inl->Y5,inr->Z8
open PySem.Sem renaming bind_eq_wrap'->Zb,onRaise_eq_wrap->Z6,wrap_wrap->aam
open PySem.SetTable.below renaming go->Zc
open PySem.Shared renaming TypeIs->Zo
open Function renaming comp->Zp
open String renaming reduceBEq->Zz
open PySem.Txt renaming slice->ZD
open PySem.SeqAt.EqAt renaming same->ZP,int_str->aad,str_int->aae
open ForInStep renaming yield->ZS
open And renaming intro->aa7
set_option linter.all false
set_option Elab.async false
set_option maxRecDepth 100000
namespace My
open PySem PyProof.Rows
def kA (s:wE):Arguments:=match s with
 | .FunctionDef _ a _ _ _ _ _ _ _ _=>a
 |_=>{posonlyargs:=[],args:=[],vararg:=none,kwonlyargs:=[],kw_defaults:=[],kwarg:=none,defaults:=[]}
def kB (s:wE):List wE:=match s with
 | .FunctionDef _ _ b _ _ _ _ _ _ _=>b
 |_=>[]
def kS (s:wE):wT:=match s with
 | .FunctionDef _ _ _ _ _ _ sc _ _ _=>sc
 |_=>{kind:=.function,names:=[],isGenerator:=false,isCoroutine:=false}
def vS (x:String) (t:Nat):al:=.str (AN x) t
def kE (P:aa4) (x:String) (t:Nat) (v:al):DictEntry:=⟨PyData.keyHash P (AN x),vS x t,v⟩
def kF (i:Nat) (x:String) (d m:al) (c:Nat):l9:=let st:=PySem.Challenge.pw_roadcall_k48_whole_top_pairs_are_stable.main.body.getD i (.Pass ⟨0,0,0,0⟩);⟨.type "function",none,.func (KF (AN x) (AN x) (kA st) (kB st) (kS st) d .none .none m none (.ref c) .none),#[]⟩
def kC (x:String) (t:Nat) (l n f:Int) (a:Nat) (b:Bool) (m:Int) (p:Nat) (u z:al) (q:Nat) (e:Int) (t2:Nat):l9:=⟨.type "code",none,.fields #[vS x t,vS x (t+1),vS "/claim/cut.py" (t+2),.int l 0,.int n 0,.int 0 0,.int 0 0,.int f 0,.ref a,.bool b,.int m 0,.ref p,.none,u,z,.ref q,.int e 0,.int l 0,vS "/claim/cut.py" t2],#[]⟩
noncomputable def kK (P:aa4):bv:=[(2,⟨.none,none,.dict [].toArray 0,#[]⟩),
 (3,⟨.type "dict",none,.dict [kE P "__name__" 165 (vS "law_roadcall_k48_whole_top_pairs_are_stable" 361),kE P "__doc__" 166 .none,kE P "__package__" 167 .none,kE P "__loader__" 168 (.builtin "__main__.__loader__#opaque"),kE P "__spec__" 169 .none,kE P "__annotations__" 170 (.ref 6),kE P "__builtins__" 171 (.ref 4),kE P "__file__" 173 (vS "/claim/cut.py" 172),kE P "__cached__" 174 .none,kE P "RoadError" 206 (.ref 24),kE P "NoNet" 222 (.ref 37),kE P "NoSign" 238 (.ref 49),kE P "is_whole" 247 (.ref 58),kE P "is_whole_below" 255 (.ref 65),kE P "SIGNS" 259 (vS "abc" 258),kE P "MOST_PLACES" 261 (.int 9 260),kE P "is_row" 271 (.ref 72),kE P "is_net" 280 (.ref 79),kE P "need_net" 287 (.ref 86),kE P "signs_of" 294 (.ref 93),kE P "is_sign" 302 (.ref 100),kE P "need_sign" 310 (.ref 107),kE P "in_order" 320 (.ref 114),kE P "goals_of" 328 (.ref 119),kE P "ring_places" 334 (.ref 124),kE P "ring_from" 343 (.ref 131),kE P "tails" 354 (.ref 138),kE P "top_pairs" 360 (.ref 143),kE P "_law_bag" 373 (.ref 150),kE P "_law_take" 384 (.ref 157),kE P "_law_order" 395 (.ref 164),kE P "_law_net" 401 (.ref 169),kE P "_law_reach" 407 (.ref 174),kE P "_law_whole" 413 (.ref 179),kE P "_law_back" 424 (.ref 186),kE P "_law_from" 437 (.ref 193),kE P "_law_twos" 443 (.ref 198),kE P "_law_judged" 449 (.ref 203),kE P "_law_hung" 455 (.ref 208),kE P "law" 461 (.ref 213)].toArray 40,#[]⟩),
 (23,⟨.type "dict",none,.dict [kE P "__module__" 196 (vS "roadcall.errors" 187),kE P "__firstlineno__" 200 (.int 2 199),kE P "__static_attributes__" 201 (.ref 22),kE P "__weakref__" 203 (.ref 25),kE P "__doc__" 204 .none].toArray 3,#[]⟩),
 (24,⟨.type "type",none,.cls {name:=AN "RoadError",bases:=[.type "ValueError"],mro:=[.ref 24,.type "ValueError",.type "Exception",.type "BaseException",.type "object"],ns:=23,qualname:=AN "RoadError",subclasses:=[.ref 37,.ref 49]},#[some (.ref 15),none,some (vS "RoadError" 189),some (vS "RoadError" 197),some (.builtin "ValueError.__new__"),some (.bool true)]⟩),
 (36,⟨.type "dict",none,.dict [kE P "__module__" 214 (vS "roadcall.errors" 187),kE P "__firstlineno__" 218 (.int 4 217),kE P "__static_attributes__" 219 (.ref 35),kE P "__doc__" 220 .none].toArray 2,#[]⟩),
 (37,⟨.type "type",none,.cls {name:=AN "NoNet",bases:=[.ref 24],mro:=[.ref 37,.ref 24,.type "ValueError",.type "Exception",.type "BaseException",.type "object"],ns:=36,qualname:=AN "NoNet",subclasses:=[]},#[some (.ref 28),none,some (vS "NoNet" 207),some (vS "NoNet" 215),some (.builtin "ValueError.__new__"),some (.bool true)]⟩),
 (48,⟨.type "dict",none,.dict [kE P "__module__" 230 (vS "roadcall.errors" 187),kE P "__firstlineno__" 234 (.int 6 233),kE P "__static_attributes__" 235 (.ref 47),kE P "__doc__" 236 .none].toArray 2,#[]⟩),
 (49,⟨.type "type",none,.cls {name:=AN "NoSign",bases:=[.ref 24],mro:=[.ref 49,.ref 24,.type "ValueError",.type "Exception",.type "BaseException",.type "object"],ns:=48,qualname:=AN "NoSign",subclasses:=[]},#[some (.ref 40),none,some (vS "NoSign" 223),some (vS "NoSign" 231),some (.builtin "ValueError.__new__"),some (.bool true)]⟩),
 (57,kC "is_whole" 241 9 1 3 52 true 181 53 (.ref 54) (.ref 55) 56 245 246),
 (58,kF 5 "is_whole" .none (vS "roadcall.whole" 239) 57),
 (64,kC "is_whole_below" 248 11 2 3 59 true 181 60 (.ref 61) (.ref 62) 63 253 254),
 (65,kF 6 "is_whole_below" .none (vS "roadcall.whole" 239) 64),
 (71,kC "is_row" 262 16 3 3 66 true 181 67 (.ref 68) (.ref 69) 70 269 270),
 (72,kF 10 "is_row" .none (vS "roadcall.nets" 256) 71),
 (78,kC "is_net" 272 20 1 3 73 true 181 74 (.ref 75) (.ref 76) 77 278 279),
 (79,kF 11 "is_net" .none (vS "roadcall.nets" 256) 78),
 (85,kC "need_net" 281 28 1 3 80 true 181 81 (.ref 82) (.ref 83) 84 285 286),
 (86,kF 12 "need_net" .none (vS "roadcall.nets" 256) 85),
 (92,kC "signs_of" 288 31 1 3 87 true 181 88 (.ref 89) (.ref 90) 91 292 293),
 (93,kF 13 "signs_of" .none (vS "roadcall.nets" 256) 92),
 (99,kC "is_sign" 295 34 2 3 94 true 181 95 (.ref 96) (.ref 97) 98 300 301),
 (100,kF 14 "is_sign" .none (vS "roadcall.nets" 256) 99),
 (106,kC "need_sign" 303 36 2 3 101 true 181 102 (.ref 103) (.ref 104) 105 308 309),
 (107,kF 15 "need_sign" .none (vS "roadcall.nets" 256) 106),
 (113,kC "in_order" 313 40 2 3 108 true 181 109 (.ref 110) (.ref 111) 112 318 319),
 (114,kF 17 "in_order" .none (vS "roadcall.pairs" 311) 113),
 (118,kC "goals_of" 323 43 2 3 115 true 181 116 .none .none 117 326 327),
 (119,kF 19 "goals_of" .none (vS "roadcall.rings" 321) 118),
 (123,kC "ring_places" 329 48 1 3 120 true 181 121 .none .none 122 332 333),
 (124,kF 20 "ring_places" .none (vS "roadcall.rings" 321) 123),
 (130,kC "ring_from" 335 53 2 3 125 true 181 126 (.ref 127) (.ref 128) 129 341 342),
 (131,kF 21 "ring_from" .none (vS "roadcall.rings" 321) 130),
 (137,kC "tails" 344 58 1 3 132 true 181 133 (.ref 134) (.ref 135) 136 352 353),
 (138,kF 22 "tails" .none (vS "roadcall.rings" 321) 137),
 (142,kC "top_pairs" 355 67 2 3 139 true 181 140 .none .none 141 358 359),
 (143,kF 23 "top_pairs" .none (vS "roadcall.rings" 321) 142),
 (149,kC "_law_bag" 363 78 2 3 144 true 181 145 (.ref 146) (.ref 147) 148 371 372),
 (150,kF 25 "_law_bag" .none (vS "law_roadcall_k48_whole_top_pairs_are_stable" 361) 149),
 (156,kC "_law_take" 374 88 2 3 151 true 181 152 (.ref 153) (.ref 154) 155 382 383),
 (157,kF 26 "_law_take" .none (vS "law_roadcall_k48_whole_top_pairs_are_stable" 361) 156),
 (163,kC "_law_order" 385 100 2 3 158 true 181 159 (.ref 160) (.ref 161) 162 393 394),
 (164,kF 27 "_law_order" .none (vS "law_roadcall_k48_whole_top_pairs_are_stable" 361) 163),
 (168,kC "_law_net" 396 106 2 3 165 true 181 166 .none .none 167 399 400),
 (169,kF 28 "_law_net" .none (vS "law_roadcall_k48_whole_top_pairs_are_stable" 361) 168),
 (173,kC "_law_reach" 402 128 1 3 170 true 181 171 .none .none 172 405 406),
 (174,kF 29 "_law_reach" .none (vS "law_roadcall_k48_whole_top_pairs_are_stable" 361) 173),
 (178,kC "_law_whole" 408 135 1 3 175 true 181 176 .none .none 177 411 412),
 (179,kF 30 "_law_whole" .none (vS "law_roadcall_k48_whole_top_pairs_are_stable" 361) 178),
 (185,kC "_law_back" 414 137 1 3 180 true 181 181 (.ref 182) (.ref 183) 184 422 423),
 (186,kF 31 "_law_back" .none (vS "law_roadcall_k48_whole_top_pairs_are_stable" 361) 185),
 (192,kC "_law_from" 425 144 2 3 187 true 181 188 (.ref 189) (.ref 190) 191 435 436),
 (193,kF 32 "_law_from" .none (vS "law_roadcall_k48_whole_top_pairs_are_stable" 361) 192),
 (197,kC "_law_twos" 438 158 1 3 194 true 181 195 .none .none 196 441 442),
 (198,kF 33 "_law_twos" .none (vS "law_roadcall_k48_whole_top_pairs_are_stable" 361) 197),
 (202,kC "_law_judged" 444 163 1 3 199 true 181 200 .none .none 201 447 448),
 (203,kF 34 "_law_judged" .none (vS "law_roadcall_k48_whole_top_pairs_are_stable" 361) 202),
 (207,kC "_law_hung" 450 170 2 3 204 true 181 205 .none .none 206 453 454),
 (208,kF 35 "_law_hung" .none (vS "law_roadcall_k48_whole_top_pairs_are_stable" 361) 207),
 (212,kC "law" 456 180 1 3 209 true 181 210 .none .none 211 459 460),
 (213,kF 36 "law" .none (vS "law_roadcall_k48_whole_top_pairs_are_stable" 361) 212)]
def Vt:List ag:=[2,3,23,24,36,37,48,49,57,58,64,65,71,72,78,79,85,86,92,93,99,100,106,107,113,114,118,119,123,124,130,131,137,138,142,143,149,150,156,157,163,164,168,169,173,174,178,179,185,186,192,193,197,198,202,203,207,208,212,213]
noncomputable def kq:jp:=PySem.W.view PySem.Challenge.pw_roadcall_k48_whole_top_pairs_are_stable [1,2,3,5,6,8,9,10,11,12,13,14,15,17,19,20,21,22,23,25,26,27,28,29,30,31,32,33,34,35,36]
def kL:List ci:=[]
noncomputable def kH:PySem.W.Hook:=PySem.W.kHook kK Vt fun _=>by kernel_rfl
theorem KD {r:PySem.W.OpenRow}{q:jp}{loose:List ci}{H:PySem.W.Hook}{d:DefRec}{Mv:List (ci×io)}{N:Nat}(left:PySem.W.LeftO r.prog q loose (fun s=>aaG q [] s && aal r.records s) H.obs H.val N)
  (Ut:PySem.W.defOf q r.name=some (d,Mv)) (hp:r.prog.theDef r.name=some (d.params,d.body,d.scope)) (hk:PySem.W.kwWritten? d.params.kwonlyargs d.params.kw_defaults=some Mv) (Vu:(!r.writes || r.records.isEmpty)=true) (k1:r.wellSaid=true)
  (ok:(PySem.W.chainsOk q && PySem.W.opensWell r.prog && (PySem.W.frees r.toRowW && r.within.isEmpty))=true) (hb:r.prog.bare) (hw:r.toRowW.promised) (call:PySem.W.WalkO q loose (PySem.W.XL q []) H.says r.toRowW d Mv fun f vs=>aa0 f vs):r.Holds:=
 PySem.W.holds_open left H.of H.keeps (fun s e=>PySem.W.xl_of s (Bool.and_eq_true_iff.mp e).1) PySem.W.XL.keeps Ut hp hk (fun s e=>PySem.W.recFacts_of (Bool.and_eq_true_iff.mp e).2) Vu k1 ok hb hw call
noncomputable def oeQ (p:jp) (w:lf) (N:Nat):Option ba:=((PySem.W.Fast.tw10274390034422433532 PySem.W.Fast.tw14364793385576792824 (aaO p) w N (PySem.W.Fast.tw1435165496053646825 (aaO p)).1 (PySem.W.Fast.tw1435165496053646825 (aaO p)).2).bind (PySem.W.Fast.tw14289696077712309145 p)).bind fun s₀=>match s₀.heap.isNs PySem.mainGlobals && s₀.gens.size==0 with
 |true=>(PySem.W.Fast.tw14082659384304107361 PySem.W.Fast.tw14364793385576792824 p w s₀.heap.objs.size (s₀.heap.nsMap PySem.mainGlobals "__annotations__") N s₀ (PySem.W.topStub p)).bind fun az=>match PySem.W.staticsOk (importedModules p.main.body) s₀.heap az.heap && PySem.W.namesBound p az.heap && PySem.W.gensDone az && PySem.W.laidKept s₀.heap az.heap with
   |true=>some az
   |false=>none
 |false=>none
theorem Rg (p:jp) (w:lf) (N:Nat):PySem.W.openEnds treeTable p w N=oeQ p w N :=by
 unfold oeQ;rw[<- PySem.W.Fast.te10274390034422433532,<- PySem.W.Fast.te14364793385576792824,<- PySem.W.Fast.te1435165496053646825,<- PySem.W.Fast.te14289696077712309145,<- PySem.W.Fast.te14082659384304107361];rfl
noncomputable def nsQ (q:jp):List ci:=(PySem.W.Fast.tw3399658132070893891 q).map (·.name)
theorem Jv (q:jp):(recsOf q).map (·.name)=nsQ q :=by unfold nsQ;rw[<- PySem.W.Fast.te3399658132070893891]
noncomputable def c1Q (s:ba):=PySem.W.Fast.tw5160383126252970620 (nsQ kq) (PySem.W.Fast.tw5991557255702980513 kq) [] {s with gens:=#[]}
theorem Rh (s:ba):seen ((recsOf kq).map (·.name)) (ownsOf kq) [] {s with gens:=#[]}=c1Q s :=by unfold c1Q;rw[Jv,<- PySem.W.Fast.te5160383126252970620,<- PySem.W.Fast.te5991557255702980513]
noncomputable def c2 (s:ba):=(s.heap.bltView,s.heap.keysOk (Z7 kq kL) ((recsOf kq).map (·.name)) ((litsOf kq).map (·.1)) ((clssOf kq (Z7 kq kL)).map (·.name)) && s.heap.accountedOkI (importedModules PySem.Challenge.pw_roadcall_k48_whole_top_pairs_are_stable.main.body) && s.heap.isNs li && s.heap.isNs ET && tablesOk kq s.heap && (aaG kq [] s && aal [] s) && (s.gens.size==0))
noncomputable def c2Q (s:ba):=(s.heap.bltView,PySem.W.Fast.tw10880121769531294198 s.heap (TW kq kL) (nsQ kq) ((PySem.W.Fast.tw7409074990110511671 kq).map (·.1)) ((PySem.W.Fast.tw13664370479719496447 kq (TW kq kL)).map (·.name)) && PySem.W.Fast.tw14722251495701143533 s.heap (importedModules PySem.Challenge.pw_roadcall_k48_whole_top_pairs_are_stable.main.body) && s.heap.isNs li && s.heap.isNs ET && PySem.W.Fast.tw10994771534591457954 kq s.heap && (aaG kq [] s && aal [] s) && (s.gens.size==0))
theorem Ri (s:ba):c2 s=c2Q s :=by unfold c2 c2Q;rw[Jv,<- PySem.W.Fast.te10880121769531294198,<- PySem.W.Fast.te821141287760084731,<- PySem.W.Fast.te7409074990110511671,<- PySem.W.Fast.te13664370479719496447,<- PySem.W.Fast.te14722251495701143533,<- PySem.W.Fast.te10994771534591457954]
noncomputable def c3 (s:ba):=tabsOk kq s
noncomputable def c5 (s:ba):=plainSeenE kq (Z7 kq kL) s
noncomputable def c4 (s:ba):=(PySem.pinSeenD kq (drecsOf kq) s,plainSeenD kq kL s,PySem.W.wideSeen kq s,PySem.W.clsSeenW kq kL s)
noncomputable def c3Q (s:ba):=PySem.W.Fast.tw479339242167458305 kq s
noncomputable def c5Q (s:ba):=PySem.W.Fast.tw2386780881361962483 kq (TW kq kL) s
noncomputable def c4Q (s:ba):=(PySem.W.Fast.tw16090120013241838585 kq (PySem.W.Fast.tw3247288618530077131 kq) s,PySem.W.Fast.tw11698064438423848299 kq kL s,PySem.W.Fast.tw7317090234206586261 kq s,PySem.W.Fast.tw7369524293546568484 kq kL s)
theorem Rj (s:ba):c3 s=c3Q s :=by unfold c3 c3Q;rw[<- PySem.W.Fast.te479339242167458305]
theorem Rk (s:ba):c5 s=c5Q s :=by unfold c5 c5Q;rw[<- PySem.W.Fast.te2386780881361962483,<- PySem.W.Fast.te821141287760084731]
theorem Rm (s:ba):c4 s=c4Q s :=by unfold c4 c4Q;rw[<- PySem.W.Fast.te16090120013241838585,<- PySem.W.Fast.te3247288618530077131,<- PySem.W.Fast.te11698064438423848299,<- PySem.W.Fast.te7317090234206586261,<- PySem.W.Fast.te7369524293546568484]
set_option maxHeartbeats 0 in
theorem left0 (w:lf):(oeQ PySem.Challenge.pw_roadcall_k48_whole_top_pairs_are_stable w 3016).map (fun s=>kH.obs s)=some (kH.val w) :=by kernel_rfl
set_option maxHeartbeats 0 in
theorem left1 (w:lf):(oeQ PySem.Challenge.pw_roadcall_k48_whole_top_pairs_are_stable w 3016).map c1Q=some (expectedOf kq) :=by kernel_rfl
set_option maxHeartbeats 0 in
theorem left2 (w:lf):(oeQ PySem.Challenge.pw_roadcall_k48_whole_top_pairs_are_stable w 3016).map c2Q=some (bltViewBooted,true) :=by kernel_rfl
set_option maxHeartbeats 0 in
theorem left3 (w:lf):(oeQ PySem.Challenge.pw_roadcall_k48_whole_top_pairs_are_stable w 3016).map c3Q=some true :=by kernel_rfl
set_option maxHeartbeats 0 in
theorem left5 (w:lf):(oeQ PySem.Challenge.pw_roadcall_k48_whole_top_pairs_are_stable w 3016).map c5Q=some (plainGoodE kq (Z7 kq kL)) :=by kernel_rfl
set_option maxHeartbeats 0 in
theorem left4 (w:lf):(oeQ PySem.Challenge.pw_roadcall_k48_whole_top_pairs_are_stable w 3016).map c4Q=some (PySem.pinGoodD (drecsOf kq),plainGoodD kq kL,PySem.W.wideGood kq,PySem.W.clsGoodW kq kL) :=by kernel_rfl
theorem left (w:lf):(PySem.W.openEnds treeTable PySem.Challenge.pw_roadcall_k48_whole_top_pairs_are_stable w 3016).map (fun s=>(PySem.W.openSeen kq kL (importedModules PySem.Challenge.pw_roadcall_k48_whole_top_pairs_are_stable.main.body) (fun s=>aaG kq [] s && aal [] s) true s,kH.obs s))=some (PySem.W.openGood kq kL,kH.val w) :=by
 rw[Rg];have a0:=left0 w;have a1:=left1 w;have a2:=left2 w;have a3:=left3 w;have a4:=left4 w;have a5:=left5 w;revert a0 a1 a2 a3 a4 a5
 generalize oeQ PySem.Challenge.pw_roadcall_k48_whole_top_pairs_are_stable w 3016=o
 cases o with
 |none=>intro a0;cases a0
 |some s=>
  intro a0 a1 a2 a3 a4 a5;have a0:kH.obs s=kH.val w:=lm a0;have a1:=lm a1;have a2:=lm a2;have a3:=lm a3;have a4:=lm a4;have a5:=lm a5;rw[<- Rh]at a1;rw[<- Ri]at a2;rw[<- Rj]at a3;rw[<- Rm]at a4;rw[<- Rk]at a5;show some ((seen ((recsOf kq).map (·.name)) (ownsOf kq) [] {s with gens:=#[]},(c2 s).1,(c2 s).2,c3 s,(c4 s).1,c5 s,(c4 s).2),kH.obs s)=_
  rw[a0,a1,a2,a3,a4,a5];rfl
end My
namespace L2
open PySem PySem.Spec PyProof.Rows
abbrev Key:=Sum Int ci
def qa:Key->al->Bool
 | .inl k,v=>al.isInt k v
 | .inr x,v=>al.isStrOf x v
def Uu (w:lf):Key->Int
 | .inl k=>hashInt k
 | .inr x=>hashStr w x
theorem cP:∀{k:Key}{v:al},qa k v=true->(∃i t,k=Y5 i/\v=aa5 i t)\/(∃x t,k=Z8 x/\v=aaP x t)
 | .inl i,v,h=>by
          obtain⟨t,e⟩:=Za (k:=i) (v:=v) h;exact .inl ⟨i,t,rfl,e⟩
 | .inr x,v,h=>by
          obtain⟨t,e⟩:=al.isStrOf_shape (x:=x) (v:=v) h;exact .inr ⟨x,t,rfl,e⟩
theorem D7 (i:Int) (t:Zj):qa (.inl i) (.int i t)=true :=by simp[qa,al.isInt]
theorem D8 (x:ci) (t:Zj):qa (.inr x) (.str x t)=true :=by simp[qa,al.isStrOf]
theorem Mw (a b:Int):decide ((Y5 a:Key)=Y5 b)=(a==b) :=by
 by_cases e:a=b
 ·subst e;simp
 ·have h:¬ (Y5 a:Key)=Y5 b:=fun q=>e (Y5.inj q)
  rw[decide_eq_false h];exact(beq_eq_false_iff_ne.mpr e).symm
theorem Mx (a b:ci):decide ((Z8 a:Key)=Z8 b)=decide (a=b) :=by
 by_cases e:a=b
 ·subst e;simp
 ·have h:¬ (Z8 a:Key)=Z8 b:=fun q=>e (Z8.inj q)
  rw[decide_eq_false h,decide_eq_false e]
theorem MA (a:Int) (b:ci):decide ((Y5 a:Key)=Z8 b)=false:=decide_eq_false (fun q=>nomatch q)
theorem MB (a:ci) (b:Int):decide ((Z8 a:Key)=Y5 b)=false:=decide_eq_false (fun q=>nomatch q)
def bJ (prog:jp) (w:lf):PySem.KeyKind prog w Key where
 is:=qa
 hash:=Uu w
 inj:=fun v a b ha hb=>by
  rcases cP ha with ⟨i,t,rfl,rfl⟩|⟨x,t,rfl,rfl⟩
  ·rcases cP hb with ⟨j,u,rfl,e⟩|⟨y,u,rfl,e⟩
   ·injection e with e1 _;rw[e1]
   ·exact nomatch e
  ·rcases cP hb with ⟨j,u,rfl,e⟩|⟨y,u,rfl,e⟩
   ·exact nomatch e
   ·injection e with e1 _;rw[e1]
 byValue:=fun k v h=>by
  rcases cP h with ⟨i,t,rfl,rfl⟩|⟨x,t,rfl,rfl⟩<;>rfl
 pyHash:=fun hv h=>by
  rcases cP hv with ⟨i,t,rfl,rfl⟩|⟨x,t,rfl,rfl⟩
  ·exact wpAny_pyHash_int h
  ·exact wpAny_pyHash_str h
 eqBool:=fun hu hv h=>by
  rcases cP hu with ⟨i,t,rfl,rfl⟩|⟨x,t,rfl,rfl⟩
  ·rcases cP hv with ⟨j,u,rfl,rfl⟩|⟨y,u,rfl,rfl⟩
   ·rw[Mw]at h;exact wpAny_eqBool_int h
   ·rw[MA]at h;exact aad i t y u _ _ _ _ h
  ·rcases cP hv with ⟨j,u,rfl,rfl⟩|⟨y,u,rfl,rfl⟩
   ·rw[MB]at h;exact aae x t j u _ _ _ _ h
   ·rw[Mx]at h;exact wpAny_eqBool_str h
 «strs»:=fun k x t v h=>by
  rcases cP h with ⟨i,u,rfl,e⟩|⟨y,u,rfl,e⟩
  ·exact nomatch e
  ·injection e with e1 _
   subst e1;cases v<;>rfl
theorem zH (prog:jp) (w:lf) (i:Int) (t:Zj):(bJ prog w).is (.inl i) (.int i t)=true:=D7 i t
theorem zI (prog:jp) (w:lf) (x:ci) (t:Zj):(bJ prog w).is (.inr x) (.str x t)=true:=D8 x t
inductive V where
 |ay|bl (b:Bool)|int (i:Int)|str (x:ci)|kN (b:Array UInt8)|AD (b:UInt64)|ref (a:ag)|ty (n:String)
 deriving DecidableEq
def RelV:V->al->Prop
 | .ay,u=>u=AS
 | .bl b,u=>u=ZJ b
 | .int i,u=>∃t,u=aa5 i t
 | .str x,u=>∃t,u=aaP x t
 | .kN b,u=>∃t,u=al.bytes b t
 | .AD b,u=>∃t,u=al.float b t
 | .ref a,u=>u=ss a
 | .ty n,u=>u=LG n
abbrev Vals:List V->List al->Prop:=BY RelV
theorem Vals.length {xs:List V}{us:List al}(r:Vals xs us):xs.length=us.length:=SS r
theorem Vals.get:∀{xs:List V}{us:List al}{i:Nat}{x:V},Vals xs us->xs[i]?=some x->∃u,us[i]?=some u/\RelV x u
 |_,_,_,_,.nil,e=>by simp at e
 |_,_,0,_,.cons r _,e=>by simp at e;subst e;exact⟨_,rfl,r⟩
 |_,_,i+1,x,.cons _ t,e=>by
          obtain⟨u,h1,h2⟩:=Vals.get (i:=i) (x:=x) t (by simpa using e)
          exact⟨u,by simpa using h1,h2⟩
theorem Vals.set {x:V}{u:al}(r:RelV x u):∀{xs:List V}{us:List al}(i:Nat),Vals xs us->Vals (xs.set i x) (us.set i u)
 |_,_,_,.nil=>.nil
 |_,_,0,.cons _ t=>.cons r t
 |_,_,i+1,.cons q t=>.cons q (Vals.set r i t)
theorem Vals.append:∀{xs ys:List V}{us ws:List al},Vals xs us->Vals ys ws->Vals (xs++ys) (us++ws)
 |_,_,_,_,.nil,s=>s
 |_,_,_,_,.cons r t,s=>.cons r (Vals.append t s)
theorem Vals.take:∀{xs:List V}{us:List al}(n:Nat),Vals xs us->Vals (xs.take n) (us.take n)
 |_,_,0,_=>.nil
 |_,_,_+1,.nil=>.nil
 |_,_,n+1,.cons r t=>.cons r (Vals.take n t)
theorem Vals.drop:∀{xs:List V}{us:List al}(n:Nat),Vals xs us->Vals (xs.drop n) (us.drop n)
 |_,_,0,r=>r
 |_,_,_+1,.nil=>.nil
 |_,_,n+1,.cons _ t=>Vals.drop n t
def jg:Option V->Option al->Prop
 |some v,some u=>RelV v u
 |none,none=>True
 |_,_=>False
def KV {κ:Type}:List (κ×V)->List (κ×al)->Prop:=BY fun (p:κ×V) (q:κ×al)=>p.1=q.1/\RelV p.2 q.2
def kV:Key->V
 | .inl i=>.int i
 | .inr x=>.str x
inductive HO where
 |lst (xs:List V)
 |tup (xs:List V)
 |dK (aj:List (Key×V))|dT (aj:List (List Key×V))
 |set (S:Int->Bool) (n:Nat)
 |ins (C dx:ag) (fs:List (ci×V))
 |own (x:ag)
 |xd (fs:List (ci×V))
 |met (f x:ag)
 |AF (lo hi:Int)
 |gN (o:l9) (u:HO)
 |cV (ps:Array al)
 |lam (ps:Array al)
 |ext (φ:i8->Prop)
abbrev Hp:=ag->Option HO
def upd (H:Hp) (a:ag) (o:HO):Hp:=fun b=>if b=a then some o else H b
theorem aH {H:Hp}{a:ag}{o:HO}:upd H a o a=some o :=by unfold upd;rw[if_pos rfl]
theorem ao {H:Hp}{a b:ag}{o:HO}(h:b≠a):upd H a o b=H b :=by unfold upd;rw[if_neg h]
theorem wq {H:Hp}{a b:ag}{o u:HO}(h:H a=some o) (h':H b=some u) (d:o≠u):a≠b :=by
 intro e;subst e;rw[h]at h';exact d (lm h')
theorem bt {H:Hp}{a b:ag}{o:HO}(h:H a=some o) (h':H b=none):a≠b :=by
 intro e;subst e;rw[h]at h';cases h'
section
variable (P:jp) (w:lf)
def ni (h:i8) (a:ag) (items:Array al):Prop:=∃o,h.get? a=some o/\o.cls=.type "tuple" /\ ∃n,o.data=.seq items n/\o.dict=none
theorem ni.tup {h:i8}{a:ag}{items:Array al}(x:ni h a items):IsTup h a items:=let ⟨o,e,c,n,d,_⟩:=x;⟨o,e,c,n,d⟩
theorem ni.lt {h:i8}{a:ag}{items:Array al}(x:ni h a items):a<h.objs.size:=x.tup.lt
theorem ni.new (h:i8) (items:Array al):ni (h.push {cls:=.type "tuple",data:=.seq items}) h.objs.size items:=⟨_,ij _ rfl,rfl,_,rfl,rfl⟩
def ObjOk (H:Hp) (h:i8) (a:ag):HO->Prop
 | .lst xs=>xs.length<=sizeLine/\∃(its:List al) (n:Nat),Vals xs its/\h.get? a=some {cls:=.type "list",data:=.seq its.toArray n}
 | .tup xs=>xs.length<=sizeLine/\∃its:List al,Vals xs its/\ni h a its.toArray
 | .dK aj=>aj.length<=sizeLine/\(a==sysModules)=false/\∃vs,KV aj vs/\h.DictOf (bJ P w) a vs
 | .dT aj=>aj.length<=sizeLine/\(a==sysModules)=false/\∃xs:List (List Key×ag×al),
   BY (fun (p:List Key×V) (q:List Key×ag×al)=>p.1=q.1/\H q.2.1=some (.tup (p.1.map kV))/\RelV p.2 q.2.2) aj xs /\
   ∃o es ep,h.get? a=some o/\o.ExactDict/\o.data=.dict es ep/\es.toList=xs.map (entryOfKey (tupleKind (bJ P w)))/\(xs.map (·.1)).Nodup
 | .set S n=>h.SetOf (Fa P w) a S n
 | .ins C dx fs=>H dx=some (.own a)/\fs.length<=1000/\dx≠a/\h.get? a=some (aaQ C dx) /\
   ∃mA,h.Ns1 dx mA/\(∀f,jg (fs.lookup f) (mA f))/\PySem.Within mA (fs.map (·.1))
 | .own _=>∃o,h.get? a=some o
 | .xd fs=>∃mA,h.Ns1 a mA/\∀f,jg (fs.lookup f) (mA f)
 | .AF lo hi=>∃t u v,h.get? a=some {cls:=.type "range",data:=.fields #[.int lo t,.int hi u,.int 1 v]}
 | .gN o u=>h.get? a=some o/\ObjOk H h a u
 | .cV ps=>h.get? a=some {cls:=.none,data:=.fields ps}
 | .lam ps=>h.get? a=some {cls:=.none,data:=.fields ps}
 | .met f x=>h.get? a=some (aau (.ref f) (.ref x))
 | .ext φ=>φ h/\(∃o,h.get? a=some o)/\∀h1 h2:i8,φ h1->(∀o,h1.get? a=some o->h2.get? a=some o)->φ h2
def cG (H:Hp) (h:i8):Prop:=∀a o,H a=some o->ObjOk P w H h a o
end
section
variable {P:jp}{w:lf}{H H':Hp}{h h':i8}{a:ag}{o:HO}
theorem ObjOk.lt (x:ObjOk P w H h a o):a<h.objs.size :=by
 cases o with
 |lst xs=>obtain⟨_,_,_,_,e⟩:=x;exact kt e
 |tup xs=>obtain⟨_,_,_,p⟩:=x;exact p.lt
 |dK aj=>obtain⟨_,_,_,_,o,_,_,e,_⟩:=x;exact kt e
 |dT aj=>obtain⟨_,_,_,_,o,_,_,e,_⟩:=x;exact kt e
 |set S n=>obtain⟨o,_,_,_,e,_⟩:=x;exact kt e
 |ins C dx fs=>obtain⟨_,_,_,e,_⟩:=x;exact kt e
 |own y=>obtain⟨_,e⟩:=x;exact kt e
 |xd fs=>obtain⟨_,⟨_,_,_,e,_⟩,_⟩:=x;exact kt e
 |AF lo hi=>obtain⟨_,_,_,e⟩:=x;exact kt e
 |gN ob u=>obtain⟨e,_⟩:=x;exact kt e
 |cV ps=>exact kt (show h.get? a=some _ from x)
 |lam ps=>exact kt (show h.get? a=some _ from x)
 |met f y=>exact kt (show h.get? a=some _ from x)
 |ext φ=>obtain⟨_,⟨_,e⟩,_⟩:=x;exact kt e
theorem BY.Ct {α β:Type}{F G:α->β->Prop}:∀{l₁:List α}{l₂:List β},BY F l₁ l₂->(∀a b,F a b->G a b)->BY G l₁ l₂
 |_,_,.nil,_=>.nil
 |_,_,.cons r t,f=>.cons (f _ _ r) (BY.Ct t f)
theorem BY.imp' {α β:Type}{F G:α->β->Prop}(f:∀a b,F a b->G a b) {l₁:List α}{l₂:List β}(r:BY F l₁ l₂):BY G l₁ l₂:=BY.Ct r f
theorem ObjOk.bQ (x:ObjOk P w H h a o) (k:∀b u,(b=a\/H b=some (.own a))->h.get? b=some u->h'.get? b=some u)
  (ho:∀b,H b=some (.own a)->H' b=some (.own a)) (ht:∀b xs,H b=some (.tup xs)->H' b=some (.tup xs)):ObjOk P w H' h' a o :=by
 induction o with
 |lst xs=>obtain⟨z,its,n,r,e⟩:=x;exact⟨z,its,n,r,k _ _ (.inl rfl) e⟩
 |tup xs=>obtain⟨z,its,r,ob,e,c⟩:=x;exact⟨z,its,r,ob,k _ _ (.inl rfl) e,c⟩
 |dK aj=>obtain⟨z,y,vs,r,ob,es,ep,e,c⟩:=x;exact⟨z,y,vs,r,ob,es,ep,k _ _ (.inl rfl) e,c⟩
 |dT aj=>
  obtain⟨z,y,xs,r,ob,es,ep,e,c⟩:=x;exact⟨z,y,xs,BY.Ct r fun p q z=>⟨z.1,ht _ _ z.2.1,z.2.2⟩,ob,es,ep,k _ _ (.inl rfl) e,c⟩
 |set S n=>obtain⟨ob,es,ep,t,e,c⟩:=x;exact⟨ob,es,ep,t,k _ _ (.inl rfl) e,c⟩
 |ins C dx fs=>
  obtain⟨d,z,ne,e,mA,⟨od,es,ep,e2,c⟩,r⟩:=x;exact⟨ho _ d,z,ne,k _ _ (.inl rfl) e,mA,⟨od,es,ep,k _ _ (.inr d) e2,c⟩,r⟩
 |own y=>obtain⟨ob,e⟩:=x;exact⟨ob,k _ _ (.inl rfl) e⟩
 |xd fs=>obtain⟨mA,⟨od,es,ep,e,c⟩,r⟩:=x;exact⟨mA,⟨od,es,ep,k _ _ (.inl rfl) e,c⟩,r⟩
 |AF lo hi=>obtain⟨t,u,v,e⟩:=x;exact⟨t,u,v,k _ _ (.inl rfl) e⟩
 |gN ob u ih=>obtain⟨e,q⟩:=x;exact⟨k _ _ (.inl rfl) e,ih q⟩
 |cV ps=>
  have e:h.get? a=some {cls:=.none,data:=.fields ps}:=x;show h'.get? a=some {cls:=.none,data:=.fields ps};exact k a _ (.inl rfl) e
 |lam ps=>
  have e:h.get? a=some {cls:=.none,data:=.fields ps}:=x;show h'.get? a=some {cls:=.none,data:=.fields ps};exact k a _ (.inl rfl) e
 |met f y=>
  have e:h.get? a=some (aau (.ref f) (.ref y)):=x;show h'.get? a=some (aau (.ref f) (.ref y));exact k a _ (.inl rfl) e
 |ext φ=>obtain⟨p,⟨o,e⟩,st⟩:=x;exact⟨st _ _ p fun o q=>k _ _ (.inl rfl) q,⟨o,k _ _ (.inl rfl) e⟩,st⟩
theorem cG.lt (x:cG P w H h) (e:H a=some o):a<h.objs.size:=(x a o e).lt
theorem cG.fresh (x:cG P w H h) (e:h.objs.size<=a):H a=none :=by
 cases q:H a with
 |none=>rfl
 |some u=>exact absurd (sK (x.lt q) e) (DD _)
theorem cG.kept (x:cG P w H h) (k:∀b u,h.get? b=some u->h'.get? b=some u):cG P w H h':=fun a o e=>
 (x a o e).bQ (fun b u _ q=>k b u q) (fun _ q=>q) fun _ _ q=>q
theorem cG.laid (x:cG P w H h) (k:∀b u,h.get? b=some u->h'.get? b=some u) (hp:h.objs.size<=a) (new:ObjOk P w (upd H a o) h' a o):cG P w (upd H a o) h':=fun b u e=>by
 have hn:=x.fresh hp;by_cases hb:b=a
 ·subst hb;rw[aH]at e;cases e;exact new
 ·rw[ao hb]at e;exact(x b u e).bQ (fun c v _ q=>k c v q) (fun c q=>by rw[ao (bt q hn)];exact q) fun c xs q=>by rw[ao (bt q hn)];exact q
end
def Rd (H:Hp) (a:ag) (u:HO):Prop:=H a=some u\/∃o,H a=some (.gN o u)
theorem Rd.ok {P:jp}{w:lf}{H:Hp}{h:i8}{a:ag}{u:HO}(r:Rd H a u) (x:cG P w H h):ObjOk P w H h a u :=by
 rcases r with r|⟨o,r⟩
 ·exact x a u r
 ·obtain⟨_,q⟩:=x a _ r;exact q
def D9:Option HO->Prop
 |some (.lst _)=>True
 |some (.dK _)=>True
 |some (.dT _)=>True
 |some (.set _ _)=>True
 |some (.ins _ _ _)=>True
 |some (.ext _)=>True
 |some (.lam _)=>True
 |_=>False
section
variable {P:jp}{w:lf}{H:Hp}{h h':i8}{x e:ag}{o':HO}
theorem cG.write (ok:cG P w H h) (mu:D9 (H x)) (he:e=x\/H e=some (.own x)) (k:∀b u,b≠e->h.get? b=some u->h'.get? b=some u) (AG:∃u,h'.get? e=some u)
  (new:ObjOk P w (upd H x o') h' x o'):cG P w (upd H x o') h':=fun b u q=>by
 have MC:∀c y,H c=some (.own y)->c≠x:=fun c y r z=>by subst z;rw[r]at mu;exact mu
 have Uv:∀c xs,H c=some (.tup xs)->c≠x:=fun c xs r z=>by subst z;rw[r]at mu;exact mu
 by_cases hb:b=x
 ·subst hb;rw[aH]at q;cases q;exact new
 ·rw[ao hb]at q;by_cases wH:b=e
  ·have q':H b=some (.own x) :=by
    rcases he with z|z
    ·exact absurd (wH.trans z) hb
    ·rw[wH];exact z
   rw[q]at q';cases q';obtain⟨v,hv⟩:=AG;exact⟨v,by rw[wH];exact hv⟩
  ·refine(ok b u q).bQ (fun c v hc r=>k c v ?_ r) (fun c r=>by rw[ao (MC c b r)];exact r) fun c xs r=>by rw[ao (Uv c xs r)];exact r
   rcases hc with rfl|hc
   ·exact wH
   ·rintro rfl;rcases he with z|z
    ·exact MC c b hc z
    ·rw[hc]at z;cases z;exact hb rfl
end
structure Un (fs ex:List ag) (H H':Hp) (h h':i8):Prop where
 keep:∀b o,h.get? b=some o->H b=none->b ∉ fs->b ∉ ex->h'.get? b=some o
 slot:∀b o,h.get? b=some o->H b=none->b∈fs->b ∉ ex->∃sl,h'.get? b=some {o with slots:=sl}
 free:∀b o,h.get? b=some o->H b=none->b ∉ ex->H' b=none
 there:∀b o,h.get? b=some o->b ∉ ex->∃o',h'.get? b=some o'
 tups:∀b xs,H b=some (.tup xs)->H' b=some (.tup xs)
 frzs:∀b o u,H b=some (.gN o u)->H' b=some (.gN o u)
 tbls:∀b ps,H b=some (.cV ps)->∃more,H' b=some (.cV (ps++more))
section
variable {fs Vv ex XZ:List ag}{H H1 H2:Hp}{h h1 h2 h':i8}{a x e:ag}{o:HO}
theorem Un.any (u:Un fs ex H H1 h h1) {b:ag}{ob:l9}(q:h.get? b=some ob) (n:H b=none) (hx:b ∉ ex):∃sl,h1.get? b=some {ob with slots:=sl}:=by
 by_cases hb:b∈fs
 ·exact u.slot b ob q n hb hx
 ·exact⟨ob.slots,u.keep b ob q n hb hx⟩
theorem Un.kept (k:∀b u,h.get? b=some u->h'.get? b=some u):Un fs ex H H h h':=
 ⟨fun b ob q _ _ _=>k b ob q,fun b ob q _ _ _=>⟨ob.slots,k b ob q⟩,fun _ _ _ n _=>n,fun b ob q _=>⟨ob,k b ob q⟩,fun _ _ q=>q,fun _ _ _ q=>q,fun _ ps q=>⟨#[],by rw[q];simp⟩⟩
theorem Un.refl:Un fs ex H H h h:=Un.kept fun _ _ q=>q
theorem Un.laid (k:∀b u,h.get? b=some u->h'.get? b=some u) (hp:h.objs.size<=a) (hn:H a=none):Un fs ex H (upd H a o) h h' where
 keep:=fun b u q _ _ _=>k b u q
 slot:=fun b u q _ _ _=>⟨u.slots,k b u q⟩
 free:=fun b u q n _=>by rw[ao (l5 (sK (kt q) hp))];exact n
 there:=fun b u q _=>⟨u,k b u q⟩
 tups:=fun b xs q=>by rw[ao (bt q hn)];exact q
 frzs:=fun b u xs q=>by rw[ao (bt q hn)];exact q
 tbls:=fun b ps q=>⟨#[],by rw[ao (bt q hn),q];simp⟩
theorem Un.write (mu:D9 (H x)) (he:e=x\/H e=some (.own x)) (k:∀b u,b≠e->h.get? b=some u->h'.get? b=some u) (AG:∃u,h'.get? e=some u):Un fs ex H (upd H x o) h h':=by
 have hx:∀b,H b=none->b≠x:=fun b n z=>by subst z;rw[n]at mu;exact mu
 have hb:∀b,H b=none->b≠e:=fun b n z=>by
  subst z;rcases he with r|r
  ·exact hx b n r
  ·rw[n]at r;cases r
 have hm:∀b u,H b=some u->¬ D9 (some u)->b≠x:=fun b u q nm z=>by subst z;rw[q]at mu;exact nm mu
 refine⟨fun b u q n _ _=>k b u (hb b n) q,fun b u q n _ _=>⟨u.slots,k b u (hb b n) q⟩,fun b u q n _=>by rw[ao (hx b n)];exact n,fun b u q _=>?_,
  fun b xs q=>by rw[ao (hm b _ q fun z=>z)];exact q,fun b u xs q=>by rw[ao (hm b _ q fun z=>z)];exact q,fun b ps q=>⟨#[],by rw[ao (hm b _ q fun z=>z),q];simp⟩⟩
 by_cases wH:b=e
 ·subst wH;exact AG
 ·exact⟨u,k b u wH q⟩
end
def Jw (h:i8) (H:Hp):List ag:=(hX h.objs.size).filter fun a=>(H a).isSome
def kO (h:i8) (H:Hp):i8:=ZL h (Jw h H)
theorem Ea (h:i8) (H:Hp):(kO h H).objs.size=h.objs.size:=PySem.W.hideAll_size _ _
theorem Hd {h:i8}{H:Hp}{b:ag}{o:l9}(e:h.get? b=some o) (n:H b=none):(kO h H).get? b=some o:=
 PySem.W.hideAll_get _ e fun hm=>by
  have q:(H b).isSome=true:=(LS.mp hm).2;rw[n]at q;simp at q
theorem KG {h:i8}{H:Hp}{b:ag}{o:l9}(e:(kO h H).get? b=some o):h.get? b=some o/\H b=none :=by
 have e':h.get? b=some o:=PySem.W.of_hideAll (Jw h H) e;refine⟨e',?_⟩;cases q:H b with
 |none=>rfl
 |some x=>
  have hm:b∈Jw h H:=LS.mpr ⟨l6.mpr (kt e'),by simp[q]⟩
  have z:(kO h H).get? b=none:=PySem.W.hideAll_none (Jw h H) hm;rw[z]at e;cases e
def KH (g h:i8) (L:ag):List (ag×l9):=(hX h.objs.size).filterMap fun a=>if a=L\/(g.get? a).isSome=true then none else (h.get? a).map fun o=>(a,o)
def rest (g h:i8) (L d:ag):List (ag×l9):=(KH g h L).filter fun p=>decide (p.1≠d)
structure Mod (K:bv) (mg:ci->Option al) (base:i8):Prop where
 kin:K.In base
 glob:base.Ns li mg
 blt:∃mb,base.Ns ET mb/\∀x:ci,x ≠ "__name__" -> mb x=zd x
 nolimit:base.NoLimit
structure Cx where
 prog:jp
 w:lf
 K:bv
 mg:ci->Option al
 base:i8
 A:sB
 N:List ci
 s₀:ba
 H₀:Hp
 env:ON
 outer:List ON
 stack:List ON
 ex:List ag
 fn:ci->Bool
 calm:Bool
 pn:List (ag×l9)
 xe:al->ba->Prop
def gO (l:List ON):List ag:=l.filterMap (·.frame)
abbrev Cx.fs (X:Cx):List ag:=gO X.outer
def uV (sc:wT) (x:ci):Prop:=sc.names.lookup x=some .local\/sc.names.lookup x=some .cell\/sc.names.lookup x=some .free
def Loc (sc:wT) (x:ci):Prop:=sc.names.lookup x=some .local\/sc.names.lookup x=some .cell
def Look (env:ON) (h:i8) (m:ci->Option al) (x:ci) (u:al):Prop:=
 (env.kindOf x=some .local/\m x=some u)\/((env.kindOf x=some .cell\/env.kindOf x=some .free)/\∃c,env.cells.lookup x=some c/\h.IsCell c (some u))
structure Cx.Ok (X:Cx):Prop where
 mod:Mod X.K X.mg X.base
 kind:X.env.scope.kind=.function
 glob:X.env.globals=li
 blt:X.env.builtins=ET
 above:X.s₀.heap.objs.size<=X.env.locals
 inj:∀x y c,X.env.cells.lookup x=some c->X.env.cells.lookup y=some c->x=y
 has:∀x,(X.env.kindOf x=some .cell\/X.env.kindOf x=some .free)->∃c,X.env.cells.lookup x=some c
 cab:∀x c,X.fn x=true->X.env.cells.lookup x=some c->X.s₀.heap.objs.size<=c
 hd:X.calm=true->X.A.handled=none
 frames:X.A.frames=some X.stack
 stk:X.stack=X.outer\/(X.stack=X.env::X.outer/\X.env.frame=some X.env.locals)
 exf:∀b∈X.ex,b≠X.env.locals/\∀x c,X.env.cells.lookup x=some c->c≠b
 bs:∀b o,X.base.get? b=some o->X.s₀.heap.get? b=some o/\X.H₀ b=none
 bsz:X.base.objs.size<=X.s₀.heap.objs.size
 noex:∀b o,X.base.get? b=some o->b ∉ X.ex
 exfs:∀b∈X.ex,b ∉ X.fs
 funs:X.s₀.heap.FunFrames X.base X.outer
 frf:∀b∈X.fs,X.H₀ b=none
def Gn (n:Nat) (g:Array YX):Prop:=aaZ g/\n<=g.size
theorem Gn.self {n:Nat}{g:Array YX}(x:Gn n g):Gn g.size g:=⟨x.1,cb _⟩
theorem Gn.trans {n:Nat}{g g':Array YX}(x:Gn n g) (y:Gn g.size g'):Gn n g':=⟨y.1,wb x.2 y.2⟩
structure Inv (X:Cx) (pins:List (ag×l9)) (σ:List (Option V)) (H:Hp) (s:ba):Prop where
 ok:X.Ok
 os:s.os=X.s₀.os
 bare:Gn X.s₀.gens.size s.gens
 base:Un X.fs X.ex X.H₀ H X.s₀.heap s.heap
 loc:∃m,s.heap.Ns X.env.locals m/\∀(i:Nat) (x:ci) (v:V),X.N[i]?=some x->σ[i]?=some (some v)->uV X.env.scope x->∃u,RelV v u/\Look X.env s.heap m x u
 cell:∀x c,X.env.cells.lookup x=some c->∃v,s.heap.IsCell c v
 free:H X.env.locals=none
 freeC:∀x c,X.env.cells.lookup x=some c->H c=none
 pin:∀p∈X.pn++pins,s.heap.get? p.1=some p.2/\H p.1=none/\p.1≠X.env.locals/\p.1 ∉ X.fs/\∀v,p.2.data≠.cell v
 hok:cG X.prog X.w H s.heap
 len:σ.length=X.N.length
section
variable {X:Cx}{pins:List (ag×l9)}{σ:List (Option V)}{H H':Hp}{s:ba}{h':i8}
theorem Cx.Ok.Uw (ok:X.Ok) {b:ag}{o:l9}(e:X.base.get? b=some o):b ∉ X.fs:=fun hb=>by
 have:=(ok.funs.mem hb).1;rw[e]at this;cases this
theorem Inv.bs (I:Inv X pins σ H s):∀b o,X.base.get? b=some o->s.heap.get? b=some o/\H b=none:=fun b o e=>
 ⟨I.base.keep b o (I.ok.bs b o e).1 (I.ok.bs b o e).2 (I.ok.Uw e) (I.ok.noex b o e),I.base.free b o (I.ok.bs b o e).1 (I.ok.bs b o e).2 (I.ok.noex b o e)⟩
theorem Inv.bk (I:Inv X pins σ H s):∀b o,X.base.get? b=some o->s.heap.get? b=some o:=fun b o e=>(I.bs b o e).1
theorem Inv.mod (I:Inv X pins σ H s):Mod X.K X.mg X.base:=I.ok.mod
theorem Inv.jH (I:Inv X pins σ H s):X.K.In s.heap:=I.ok.mod.kin.keeps I.bk
theorem Inv.nolimit (I:Inv X pins σ H s):s.heap.NoLimit:=I.ok.mod.nolimit.keeps I.bk
theorem Inv.lt (I:Inv X pins σ H s):X.env.locals<s.heap.objs.size:=let ⟨_,hn,_⟩:=I.loc;hn.lt
theorem Inv.sz (I:Inv X pins σ H s):X.s₀.heap.objs.size<=s.heap.objs.size:=wb I.ok.above (Pv I.lt)
theorem Inv.MD (I:Inv X pins σ H s) {a:ag}(h:s.heap.objs.size<=a):a ∉ X.fs:=fun hb=>by
 obtain⟨_,o,ho,_⟩:=I.ok.funs.mem hb;exact absurd (sK (kt ho) (wb I.sz h)) (DD _)
theorem Inv.wI (I:Inv X pins σ H s):∀x c,X.env.cells.lookup x=some c->c≠X.env.locals:=fun x c e z=>by
 obtain⟨v,o,ho,hd⟩:=I.cell x c e;obtain⟨m,⟨o',es,ep,fN,jI,_⟩,_⟩:=I.loc;rw[z,fN]at ho;cases ho;rw[jI]at hd;cases hd
theorem Inv.funs (I:Inv X pins σ H s):s.heap.FunFrames X.base X.outer :=by
 have all:∀(l:List ON),(∀b∈gO l,b∈X.fs)->X.s₀.heap.FunFrames X.base l->s.heap.FunFrames X.base l :=by
  intro l;induction l with
  |nil=>intro _ _;trivial
  |cons env r ih=>
   intro hs hl;obtain⟨hk,⟨L,o,hf,hn,ho,hd⟩,hr⟩:=hl;have hL:L∈X.fs:=hs L (by unfold gO;rw[OP,hf];exact ii)
   obtain⟨sl,e⟩:=I.base.slot L o ho (I.ok.frf L hL) hL fun z=>I.ok.exfs L z hL
   exact⟨hk,⟨L,_,hf,hn,e,hd⟩,ih (fun b hb=>hs b (by unfold gO;rw[OP,hf];exact db _ hb)) hr⟩
 exact all X.outer (fun _ hb=>hb) I.ok.funs
theorem Inv.stack (I:Inv X pins σ H s):s.heap.FunFrames X.base X.stack :=by
 rcases I.ok.stk with e|⟨e,hf⟩
 ·rw[e];exact I.funs
 ·rw[e];obtain⟨m,hn,_⟩:=I.loc;refine .cons (by rw[I.ok.kind];decide) hf hn ?_ I.funs
  exact i8.get?_none_of_le (wb I.ok.bsz I.ok.above)
theorem Inv.fX (I:Inv X pins σ H s):∀b∈gO X.stack,b∈X.env.locals::X.fs:=fun b hb=>by
 rcases I.ok.stk with e|⟨e,hf⟩
 ·rw[e]at hb;exact db _ hb
 ·rw[e]at hb;unfold gO at hb;rw[OP,hf]at hb;exact hb
theorem Inv.qb (I:Inv X pins σ H s):∀b∈gO X.stack,H b=none:=fun b hb=>by
 rcases lp.mp (I.fX b hb) with e|hb
 ·rw[e];exact I.free
 ·obtain⟨_,o,ho,_⟩:=I.ok.funs.mem hb;exact I.base.free b o ho (I.ok.frf b hb) fun z=>I.ok.exfs b z hb
theorem Inv.step {g':Array YX}{t':Nat}{d':Drawn}{ch:List ag}(I:Inv X pins σ H s)
  (qH:∀b∈ch,(b∈X.ex\/X.s₀.heap.objs.size<=b)/\b≠X.env.locals/\(∀x c,X.env.cells.lookup x=some c->c≠b)/\∀p∈X.pn++pins,p.1≠b)
  (keep:∀b o,b≠X.env.locals->b ∉ X.fs->b ∉ ch->s.heap.get? b=some o->H b=none->h'.get? b=some o)
  (slot:∀b o,b≠X.env.locals->b∈X.fs->b ∉ ch->s.heap.get? b=some o->H b=none->∃sl,h'.get? b=some {o with slots:=sl}) (free:∀b o,b ∉ ch->s.heap.get? b=some o->H b=none->H' b=none)
  (there:∀b o,b ∉ ch->s.heap.get? b=some o->∃o',h'.get? b=some o')
  (tups:∀b xs,H b=some (.tup xs)->H' b=some (.tup xs)) (frzs:∀b o u,H b=some (.gN o u)->H' b=some (.gN o u)) (tbls:∀b ps,H b=some (.cV ps)->∃more,H' b=some (.cV (ps++more)))
  (ns:∀m,s.heap.Ns X.env.locals m->h'.Ns X.env.locals m) (hok:cG X.prog X.w H' h') (hg:Gn s.gens.size g') :
  Inv X pins σ H' {s with heap:=h',gens:=g',drawn:=d',toks:=t'}:=by
 have SN:∀b o,X.s₀.heap.get? b=some o->b≠X.env.locals:=fun b o e=>l5 (sK (kt e) I.ok.above)
 have Jx:∀b o,X.s₀.heap.get? b=some o->b ∉ X.ex->b ∉ ch:=fun b o e hx hb=>by
  rcases (qH b hb).1 with z|z
  ·exact hx z
  ·exact absurd (sK (kt e) z) (DD _)
 have cellK:∀x c,X.env.cells.lookup x=some c->∀v,s.heap.IsCell c v->h'.IsCell c v:=fun x c e v ⟨o,ho,hd⟩=>by
  have Eb:c ∉ ch:=fun z=>(qH c z).2.2.1 x c e rfl
  by_cases hc:c∈X.fs
  ·obtain⟨sl,q⟩:=slot c o (I.wI x c e) hc Eb ho (I.freeC x c e);exact⟨_,q,hd⟩
  ·exact⟨o,keep c o (I.wI x c e) hc Eb ho (I.freeC x c e),hd⟩
 refine⟨I.ok,I.os,I.bare.trans hg,⟨fun b o e n hb hx=>?_,fun b o e n hb hx=>?_,fun b o e n hx=>?_,fun b o e hx=>?_,fun b xs e=>tups b xs (I.base.tups b xs e),fun b o xs e=>frzs b o xs (I.base.frzs b o xs e),fun b ps e=>?_⟩,?_,fun x c e=>?_,?_,fun x c e=>?_,fun p hp=>?_,hok,I.len⟩
 ·exact keep b o (SN b o e) hb (Jx b o e hx) (I.base.keep b o e n hb hx) (I.base.free b o e n hx)
 ·obtain⟨sl,e1⟩:=I.base.slot b o e n hb hx;obtain⟨SQ,e2⟩:=slot b _ (SN b o e) hb (Jx b o e hx) e1 (I.base.free b o e n hx);exact⟨SQ,e2⟩
 ·obtain⟨o',e1⟩:=I.base.there b o e hx;exact free b o' (Jx b o e hx) e1 (I.base.free b o e n hx)
 ·obtain⟨o',e1⟩:=I.base.there b o e hx;exact there b o' (Jx b o e hx) e1
 ·obtain⟨m1,e1⟩:=I.base.tbls b ps e;obtain⟨m2,e2⟩:=tbls b _ e1;exact⟨m1++m2,by rw[e2,Array.append_assoc]⟩
 ·obtain⟨m,hn,hl⟩:=I.loc;refine⟨m,ns m hn,fun i x v e1 e2 e3=>?_⟩
  obtain⟨u,r,l⟩:=hl i x v e1 e2 e3;refine⟨u,r,?_⟩;rcases l with l|⟨k,c,e,z⟩
  ·exact .inl l
  ·exact .inr ⟨k,c,e,cellK x c e _ z⟩
 ·obtain⟨v,z⟩:=I.cell x c e;exact⟨v,cellK x c e v z⟩
 ·obtain⟨m,⟨o,_,_,ho,_⟩,_⟩:=I.loc;exact free _ o (fun z=>(qH _ z).2.1 rfl) ho I.free
 ·obtain⟨v,o,ho,hd⟩:=I.cell x c e;exact free c o (fun z=>(qH c z).2.2.1 x c e rfl) ho (I.freeC x c e)
 ·obtain⟨e,n,ne,nf,d⟩:=I.pin p hp;have Eb:p.1 ∉ ch:=fun z=>(qH p.1 z).2.2.2 p hp rfl
  exact⟨keep p.1 p.2 ne nf Eb e n,free p.1 p.2 Eb e n,ne,nf,d⟩
theorem Inv.un {t':Nat}(I:Inv X pins σ H s) (u:Un X.fs [] H H' s.heap h') (hok:cG X.prog X.w H' h'):Inv X pins σ H' {s with heap:=h',toks:=t'}:=by
 obtain⟨m,⟨o,es,ep,ho,r⟩,_⟩:=id I.loc;obtain⟨sl,hL⟩:=u.any ho I.free (by simp)
 exact I.step (g':=s.gens) (d':=s.drawn) (ch:=[]) (fun _ z=>nomatch z) (fun b o _ hb _ e n=>u.keep b o e n hb (by simp)) (fun b o _ hb _ e n=>u.slot b o e n hb (by simp)) (fun b o _ e n=>u.free b o e n (by simp)) (fun b o _ e=>u.there b o e (by simp)) u.tups u.frzs u.tbls (fun m' hm=>by
  obtain⟨o',cD,ME,fN,r'⟩:=hm;rw[ho]at fN;cases fN;exact⟨_,cD,ME,hL,r'⟩) hok I.bare.self
theorem Inv.call {g':Array YX}{t':Nat}{d':Drawn}{ch:List ag}(I:Inv X pins σ H s) (u:Un (gO X.stack) ch H H' s.heap h') (hok:cG X.prog X.w H' h') (hg:Gn s.gens.size g')
  (qH:∀b∈ch,(b∈X.ex\/X.s₀.heap.objs.size<=b)/\b≠X.env.locals/\(∀x c,X.env.cells.lookup x=some c->c≠b)/\∀p∈X.pn++pins,p.1≠b) :
  Inv X pins σ H' {s with heap:=h',gens:=g',drawn:=d',toks:=t'}:=by
 obtain⟨m,⟨o,es,ep,ho,r⟩,_⟩:=id I.loc;obtain⟨sl,hL⟩:=u.any ho I.free fun z=>(qH _ z).2.1 rfl
 exact I.step (ch:=ch) qH (fun b o hL hb hc e n=>u.keep b o e n (fun z=>(lp.mp (I.fX b z)).elim hL hb) hc) (fun b o _ _ hc e n=>u.any e n hc) (fun b o hc e n=>u.free b o e n hc) (fun b o hc e=>u.there b o e hc) u.tups u.frzs u.tbls (fun m' hm=>by
  obtain⟨o',cD,ME,fN,r'⟩:=hm;rw[ho]at fN;cases fN;exact⟨_,cD,ME,hL,r'⟩) hok hg
theorem Inv.turned {t':Nat}{it:ag}(I:Inv X pins σ H s) (k:∀b o,b≠it->s.heap.get? b=some o->h'.get? b=some o) (hn:H it=none) (hL:it≠X.env.locals)
  (h1:it∈X.ex\/X.s₀.heap.objs.size<=it) (h2:∀x c,X.env.cells.lookup x=some c->c≠it) (h3:∀p∈X.pn++pins,p.1≠it):Inv X pins σ H {s with heap:=h',toks:=t'}:=by
 have Ec:∀b u,H b=some u->b≠it:=fun b u e z=>by rw[z,hn]at e;cases e
 refine I.step (g':=s.gens) (d':=s.drawn) (ch:=[it]) (fun b hb=>?_) (fun b o _ _ hc e _=>k b o (fun z=>hc (by simp[z])) e) (fun b o _ _ hc e _=>⟨o.slots,k b o (fun z=>hc (by simp[z])) e⟩) (fun _ _ _ _ n=>n)
  (fun b o hc e=>⟨o,k b o (fun z=>hc (by simp[z])) e⟩) (fun _ _ e=>e) (fun _ _ _ e=>e) (fun b ps e=>⟨#[],by rw[e];simp⟩) (fun m hm=>?_) (fun b u e=>?_) I.bare.self
 ·have e:b=it :=by simpa using hb
  subst e;exact⟨h1,hL,h2,h3⟩
 ·obtain⟨o,es,ep,ho,r⟩:=hm;exact⟨o,es,ep,k _ o (Ch hL) ho,r⟩
 ·refine(I.hok b u e).bQ (fun c v hc q=>k c v ?_ q) (fun _ q=>q) fun _ _ q=>q
  rcases hc with z|z
  ·rw[z];exact Ec b u e
  ·exact Ec c _ z
theorem Inv.tok (I:Inv X pins σ H s) (t:Nat):Inv X pins σ H {s with toks:=t}:=I.un (h':=s.heap) (t':=t) Un.refl I.hok
theorem Inv.kept {t':Nat}(I:Inv X pins σ H s) (k:∀b u,s.heap.get? b=some u->h'.get? b=some u):Inv X pins σ H {s with heap:=h',toks:=t'}:=I.un (Un.kept k) (I.hok.kept k)
theorem Inv.laid {a:ag}{o:HO}{t':Nat}(I:Inv X pins σ H s) (k:∀b u,s.heap.get? b=some u->h'.get? b=some u) (hp:s.heap.objs.size<=a) (new:ObjOk X.prog X.w (upd H a o) h' a o) :
  Inv X pins σ (upd H a o) {s with heap:=h',toks:=t'}:=I.un (Un.laid k hp (I.hok.fresh hp)) (I.hok.laid k hp new)
theorem Inv.write {x e:ag}{o:HO}{t':Nat}(I:Inv X pins σ H s) (mu:D9 (H x)) (he:e=x\/H e=some (.own x)) (k:∀b u,b≠e->s.heap.get? b=some u->h'.get? b=some u) (AG:∃u,h'.get? e=some u)
  (new:ObjOk X.prog X.w (upd H x o) h' x o):Inv X pins σ (upd H x o) {s with heap:=h',toks:=t'}:=I.un (Un.write mu he k AG) (I.hok.write mu he k AG new)
theorem Inv.kD {pins':List (ag×l9)}(I:Inv X pins σ H s) (h:∀p∈pins',s.heap.get? p.1=some p.2/\H p.1=none/\p.1≠X.env.locals/\p.1 ∉ X.fs/\∀v,p.2.data≠.cell v):Inv X pins' σ H s:=
 ⟨I.ok,I.os,I.bare,I.base,I.loc,I.cell,I.free,I.freeC,fun p hp=>(qr.mp hp).elim (fun z=>I.pin p (uu _ z)) (h p),I.hok,I.len⟩
theorem wJ {N:List ci}(hN:N.Nodup) {i j:Nat}{x:ci}(a:N[i]?=some x) (b:N[j]?=some x):i=j :=by
 obtain⟨h1,e1⟩:=ca.mp a;obtain⟨h2,e2⟩:=ca.mp b;exact(List.getElem_inj hN).mp (e1.trans e2.symm)
theorem store_ok2 {M:Model}{A:sB}{E:al->ba->Prop}{i:Nat}{x:ci}{v:V}{u:al}{Q:Unit->ba->Prop}(I:Inv X pins σ H s) (hN:X.N.Nodup) (hi:X.N[i]?=some x) (hx:Loc X.env.scope x) (r:RelV v u)
  (h:∀s',Inv X pins (σ.set i (some v)) H s'->(∃a,Cn a s.heap s'.heap/\(a=X.env.locals\/X.env.cells.lookup x=some a))->Q () s') (hf:X.fn x=true\/X.env.scope.names.lookup x=some .local :=by first|exact .inl rfl|exact .inr rfl|assumption):c8 M A (storeName X.env x u) Q E s :=by
 obtain⟨m,hn,hl⟩:=id I.loc;have Ux:(X.env.scope.kind==.class || (X.env.scope.kind==.module && X.env.locals != X.env.globals))=false :=by rw[I.ok.kind];rfl
 have MF:i<σ.length :=by rw[I.len];exact(ca.mp hi).1
 have wI:=I.wI;have tracked:∀{a:ag} {h':i8},(∃o,s.heap.get? a=some o/\H a=none)->Cn a s.heap h'->cG X.prog X.w H h':=fun {a h'} ha hs b ob e=>by
  obtain⟨_,_,sk⟩:=ha;refine(I.hok b ob e).bQ (fun c w' hc q=>(hs.2 c ?_).trans q) (fun _ q=>q) fun _ _ q=>q
  rintro rfl;rcases hc with rfl|hc
  ·rw[sk]at e;cases e
  ·rw[sk]at hc;cases hc
 rcases hx with hk|hk
 ·refine wpAny_storeName_local hk hn (fun h' wK hs=>?_) Ux
  obtain⟨oL,_,_,sm,_⟩:=id hn;refine h _ ⟨I.ok,I.os,I.bare,⟨fun b o e n hb hx=>?_,fun b o e n hb hx=>?_,I.base.free,fun b o e hx=>?_,I.base.tups,I.base.frzs,I.base.tbls⟩,⟨_,wK,fun j y v' e1 e2 e3=>?_⟩,fun y c e=>?_,I.free,I.freeC,fun p hp=>?_,tracked ⟨oL,sm,I.free⟩ hs,by simpa using I.len⟩ ⟨_,hs,.inl rfl⟩
  ·exact(hs.2 b (l5 (sK (kt e) I.ok.above))).trans (I.base.keep b o e n hb hx)
  ·obtain⟨sl,e1⟩:=I.base.slot b o e n hb hx;exact⟨sl,(hs.2 b (l5 (sK (kt e) I.ok.above))).trans e1⟩
  ·obtain⟨o',e1⟩:=I.base.there b o e hx;exact⟨o',(hs.2 b (l5 (sK (kt e) I.ok.above))).trans e1⟩
  ·by_cases hj:j=i
   ·subst hj;rw[hi]at e1;cases e1;rw[Zk MF]at e2;cases e2;exact⟨u,r,.inl ⟨hk,by simp⟩⟩
   ·rw[List.getElem?_set_ne (Ch hj)]at e2;obtain⟨u',r',q⟩:=hl j y v' e1 e2 e3;refine⟨u',r',?_⟩;rcases q with ⟨k,e⟩|⟨k,c,e,z⟩
    ·refine .inl ⟨k,?_⟩;have:y≠x:=fun e=>hj (wJ hN e1 (e▸hi))
     simp[this,e]
    ·exact .inr ⟨k,c,e,z.sameBut hs (wI y c e)⟩
  ·obtain⟨w',z⟩:=I.cell y c e;exact⟨w',z.sameBut hs (wI y c e)⟩
  ·obtain⟨e,n,ne,nf,d⟩:=I.pin p hp;exact⟨(hs.2 p.1 ne).trans e,n,ne,nf,d⟩
 ·have MG:X.fn x=true :=by
   rcases hf with z|z
   ·exact z
   ·rw[z]at hk;cases hk
  obtain⟨c,hc⟩:=I.ok.has x (.inl hk);obtain⟨w',z⟩:=I.cell x c hc;refine wpAny_storeName_cell I.ok.kind hk hc z (fun h' Jy hs=>?_)
  obtain⟨oc,SR,Uy⟩:=id z;refine h {s with heap:=h'} ⟨I.ok,I.os,I.bare,⟨fun b o e n hb hx=>?_,fun b o e n hb hx=>?_,I.base.free,fun b o e hx=>?_,I.base.tups,I.base.frzs,I.base.tbls⟩,⟨m,hn.sameBut hs (Ch (wI x c hc)),fun j y v' e1 e2 e3=>?_⟩,fun y c' e=>?_,I.free,I.freeC,fun p hp=>?_,tracked ⟨oc,SR,I.freeC x c hc⟩ hs,by simpa using I.len⟩ ⟨c,hs,.inr hc⟩
  ·exact(hs.2 b (l5 (sK (kt e) (I.ok.cab x c MG hc)))).trans (I.base.keep b o e n hb hx)
  ·obtain⟨sl,e1⟩:=I.base.slot b o e n hb hx;exact⟨sl,(hs.2 b (l5 (sK (kt e) (I.ok.cab x c MG hc)))).trans e1⟩
  ·obtain⟨o',e1⟩:=I.base.there b o e hx;exact⟨o',(hs.2 b (l5 (sK (kt e) (I.ok.cab x c MG hc)))).trans e1⟩
  ·by_cases hj:j=i
   ·subst hj;rw[hi]at e1;cases e1;rw[Zk MF]at e2;cases e2;exact⟨u,r,.inr ⟨.inl hk,c,hc,Jy⟩⟩
   ·rw[List.getElem?_set_ne (Ch hj)]at e2;obtain⟨u',r',q⟩:=hl j y v' e1 e2 e3;refine⟨u',r',?_⟩;rcases q with q|⟨k,c',e,z'⟩
    ·exact .inl q
    ·refine .inr ⟨k,c',e,z'.sameBut hs ?_⟩;rintro rfl;exact hj (wJ hN e1 (I.ok.inj _ _ _ e hc▸hi))
  ·by_cases SU:c'=c
   ·subst SU;exact⟨_,Jy⟩
   ·obtain⟨w2,z2⟩:=I.cell y c' e;exact⟨w2,z2.sameBut hs SU⟩
  ·obtain⟨e,n,ne,nf,d⟩:=I.pin p hp;refine⟨(hs.2 p.1 ?_).trans e,n,ne,nf,d⟩;intro q;rw[q,SR]at e;have q':oc=p.2:=lm e;exact d w' (by rw[<- q'];exact Uy)
theorem wL {M:Model}{A:sB}{E:al->ba->Prop}{i:Nat}{x:ci}{v:V}{u:al}{Q:Unit->ba->Prop}(I:Inv X pins σ H s) (hN:X.N.Nodup) (hi:X.N[i]?=some x) (hx:Loc X.env.scope x) (r:RelV v u)
  (h:∀s',Inv X pins (σ.set i (some v)) H s'->Q () s') (hf:X.fn x=true\/X.env.scope.names.lookup x=some .local :=by first|exact .inl rfl|exact .inr rfl|assumption):c8 M A (storeName X.env x u) Q E s:=
 store_ok2 I hN hi hx r (fun s' I' _=>h s' I') hf
theorem Inv.qd {s':ba}{ch:List ag}(I:Inv X pins σ H s) (ho:s'.os=s.os) (u:Un (gO X.stack) ch H H' s.heap s'.heap) (hok:cG X.prog X.w H' s'.heap) (hg:Gn s.gens.size s'.gens)
  (qH:∀b∈ch,(b∈X.ex\/X.s₀.heap.objs.size<=b)/\b≠X.env.locals/\(∀x c,X.env.cells.lookup x=some c->c≠b)/\∀p∈X.pn++pins,p.1≠b):Inv X pins σ H' s':=by
 obtain⟨h',g',d',t',o'⟩:=s';have e:o'=s.os:=ho;subst e;exact I.call (g':=g') (t':=t') (d':=d') u hok hg qH
end
abbrev XK:=al->Option ag->Hp->Prop
abbrev St:=List (Option V)
abbrev VK:=V->Hp->Prop
abbrev TE:=St->Hp->VK->Prop
abbrev TT:=St->Hp->(Bool->Hp->Prop)->Prop
abbrev TA:=St->Hp->(List V->Hp->Prop)->Prop
structure Ends where
 nx:St->Hp->Prop
 rt:VK
 bk:St->Hp->Prop:=fun _ _=>False
 ct:St->Hp->Prop:=fun _ _=>False
abbrev TS:=Ends->St->Hp->Prop
def EP (X:Cx) (pins:List (ag×l9)) (σ:St) (Q:VK) (u:al) (s':ba):Prop:=∃v H',Inv X pins σ H' s'/\RelV v u/\Q v H'
def TP (X:Cx) (pins:List (ag×l9)) (σ:St) (Q:Bool->Hp->Prop) (b:Bool) (s':ba):Prop:=∃H',Inv X pins σ H' s'/\Q b H'
def AP (X:Cx) (pins:List (ag×l9)) (σ:St) (Q:List V->Hp->Prop) (us:List al) (s':ba):Prop:=∃vs H',Inv X pins σ H' s'/\Vals vs us/\Q vs H'
def SP (X:Cx) (pins:List (ag×l9)) (D:Ends) (f:Flow) (s':ba):Prop:=
 match f with
 | .next=>∃aO H',Inv X pins aO H' s'/\D.nx aO H'
 | .brk=>∃aO H',Inv X pins aO H' s'/\D.bk aO H'
 | .cont=>∃aO H',Inv X pins aO H' s'/\D.ct aO H'
 | .ret u=>∃v aO H',Inv X pins aO H' s'/\RelV v u/\D.rt v H'
structure PE (X:Cx) (e:io) (t:TE):Prop where
 run:∀(pins:List (ag×l9)) (s:ba) (σ:St) (H:Hp) (Q:VK),Inv X pins σ H s->t σ H Q->c8 (model X.prog X.w) X.A (eval e X.env) (EP X pins σ Q) X.xe s
instance {X:Cx} {e:io} {t:TE}:CoeFun (PE X e t) (fun _=>∀(pins:List (ag×l9)) (s:ba) (σ:St) (H:Hp) (Q:VK),Inv X pins σ H s->t σ H Q->c8 (model X.prog X.w) X.A (eval e X.env) (EP X pins σ Q) X.xe s):=⟨PE.run⟩
structure PT (X:Cx) (e:io) (t:TT):Prop where
 run:∀(pins:List (ag×l9)) (s:ba) (σ:St) (H:Hp) (Q:Bool->Hp->Prop),Inv X pins σ H s->t σ H Q->c8 (model X.prog X.w) X.A (isTrue e X.env (eval e X.env)) (TP X pins σ Q) X.xe s
instance {X:Cx} {e:io} {t:TT}:CoeFun (PT X e t) (fun _=>∀(pins:List (ag×l9)) (s:ba) (σ:St) (H:Hp) (Q:Bool->Hp->Prop),Inv X pins σ H s->t σ H Q->c8 (model X.prog X.w) X.A (isTrue e X.env (eval e X.env)) (TP X pins σ Q) X.xe s):=⟨PT.run⟩
def PW (X:Cx) (e:io) (t:TT):Prop:=
 ∀(whole:YS al) (pins:List (ag×l9)) (s:ba) (σ:St) (H:Hp) (Q:Bool->Hp->Prop),Inv X pins σ H s->t σ H Q->c8 (model X.prog X.w) X.A (isTrue e X.env whole) (TP X pins σ Q) X.xe s
theorem PW.pt {X:Cx}{e:io}{t:TT}(h:PW X e t):PT X e t:=⟨h _⟩
structure PA (X:Cx) (es:List io) (t:TA):Prop where
 run:∀(pos:wv) (pins:List (ag×l9)) (s:ba) (σ:St) (H:Hp) (Q:List V->Hp->Prop),Inv X pins σ H s->t σ H Q->c8 (model X.prog X.w) X.A (spliced (backTo pos (lw es X.env))) (AP X pins σ Q) X.xe s
instance {X:Cx} {es:List io} {t:TA}:CoeFun (PA X es t) (fun _=>∀(pos:wv) (pins:List (ag×l9)) (s:ba) (σ:St) (H:Hp) (Q:List V->Hp->Prop),Inv X pins σ H s->t σ H Q->c8 (model X.prog X.w) X.A (spliced (backTo pos (lw es X.env))) (AP X pins σ Q) X.xe s):=⟨PA.run⟩
structure PS (X:Cx) (st:wE) (t:TS):Prop where
 run:∀(pins:List (ag×l9)) (s:ba) (σ:St) (H:Hp) (D:Ends),Inv X pins σ H s->t D σ H->c8 (model X.prog X.w) X.A (exec st X.env) (SP X pins D) X.xe s
instance {X:Cx} {st:wE} {t:TS}:CoeFun (PS X st t) (fun _=>∀(pins:List (ag×l9)) (s:ba) (σ:St) (H:Hp) (D:Ends),Inv X pins σ H s->t D σ H->c8 (model X.prog X.w) X.A (exec st X.env) (SP X pins D) X.xe s):=⟨PS.run⟩
structure iG (X:Cx) (st:List wE) (t:TS):Prop where
 run:∀(pins:List (ag×l9)) (s:ba) (σ:St) (H:Hp) (D:Ends),Inv X pins σ H s->t D σ H->c8 (model X.prog X.w) X.A (execs st X.env) (SP X pins D) X.xe s
instance {X:Cx} {st:List wE} {t:TS}:CoeFun (iG X st t) (fun _=>∀(pins:List (ag×l9)) (s:ba) (σ:St) (H:Hp) (D:Ends),Inv X pins σ H s->t D σ H->c8 (model X.prog X.w) X.A (execs st X.env) (SP X pins D) X.xe s):=⟨iG.run⟩
theorem thn {α:Type}{t:YS α}{Q Q':α->ba->Prop}{M:Model}{A:sB}{E:al->ba->Prop}{s:ba}(h:c8 M A t Q E s) (hQ:∀a s,Q a s->Q' a s):c8 M A t Q' E s:=on h hQ fun _ _ x=>x
section
variable {X:Cx}
theorem bin {a b:io}{ta tb:TE}(ha:PE X a ta) (hb:PE X b tb) {pins:List (ag×l9)}{s:ba}{σ:St}{H:Hp}{R:V->V->Hp->Prop}(I:Inv X pins σ H s) (h:ta σ H fun x H1=>tb σ H1 fun y H2=>R x y H2)
  {α:Type} {Q:α->ba->Prop} {f:al->al->YS α}
  (hf:∀v u s2 x y H2,Inv X pins σ H2 s2->RelV x v->RelV y u->R x y H2->c8 (model X.prog X.w) X.A (f v u) Q X.xe s2) :
  c8 (model X.prog X.w) X.A (eval a X.env) (fun v az=>c8 (model X.prog X.w) X.A (eval b X.env) (fun u fK=>c8 (model X.prog X.w) X.A (f v u) Q X.xe fK) X.xe az) X.xe s :=by
 refine thn (ha pins s σ H _ I h) fun v s1 ⟨x,H1,I1,r1,q1⟩=>?_
 refine thn (hb pins s1 σ H1 _ I1 q1) fun u s2 ⟨y,H2,I2,r2,q2⟩=>?_
 exact hf v u s2 x y H2 I2 r1 r2 q2
def MH (i:Nat):TE:=fun σ H Q=>∃v,σ[i]?=some (some v)/\Q v H
def tC (v:V):TE:=fun _ H Q=>Q v H
theorem Ed {i:Nat}{x:ci}{pos:wv}(hN:X.N[i]?=some x) (hv:uV X.env.scope x) (hd:(x==("__debug__" : ci))=false :=by decide) (iN:(x==("__classdict__" : ci))=false :=by decide):PE X (.Name x pos) (MH i) :=by
 refine⟨?_⟩;intro pins s σ H Q I h;obtain⟨v,e,h⟩:=h;obtain⟨m,hn,hl⟩:=I.loc;obtain⟨u,r,l⟩:=hl i x v hN e hv;have fin:EP X pins σ Q u s:=⟨v,H,I,r,h⟩;rcases l with ⟨hk,hm⟩|⟨hk,c,hc,wt⟩
 ·exact wpAny_Name (wpAny_loadName_local I.ok.kind hk hn hm fin) hd
 ·rcases hk with hk|hk
  ·exact wpAny_Name (wpAny_loadName_cell I.ok.kind hk hc wt fin) hd
  ·exact wpAny_Name (wpAny_loadName_free I.ok.kind hk hc wt fin iN) hd
theorem MI {i j pos}:PE X (.Constant (.int i) j pos) (tC (.int i)):=⟨fun _ _ _ H _ I h=>wpAny_Constant_int ⟨.int i,H,I.tok _,⟨_,rfl⟩,h⟩⟩
theorem Rn {b j pos}:PE X (.Constant (.bool b) j pos) (tC (.bl b)):=⟨fun _ _ _ H _ I h=>Constant_bool ⟨.bl b,H,I,rfl,h⟩⟩
theorem MJ {x j pos}:PE X (.Constant (.str x) j pos) (tC (.str x)):=⟨fun _ _ _ H _ I h=>Calls.Constant_str ⟨.str x,H,I.tok _,⟨_,rfl⟩,h⟩⟩
def Gl (X:Cx) (x:ci):Prop:=X.env.kindOf x=some .globalImplicit
theorem ub {E:al->ba->Prop}{pins:List (ag×l9)}{s:ba}{σ:St}{H:Hp}{x:ci}{u:al}{pos:wv}{Q:al->ba->Prop}(I:Inv X pins σ H s) (hg:Gl X x) (hm:X.mg x=some u) (h:Q u s)
  (hd:(x==("__debug__" : ci))=false :=by decide):c8 (model X.prog X.w) X.A (eval (.Name x pos) X.env) Q E s:=
 Calls.Name_function_global I.ok.kind hg (Calls.loadGlobal_global (by rw[I.ok.glob];exact I.mod.glob.keeps I.bk) hm h) hd
theorem fY {E:al->ba->Prop}{pins:List (ag×l9)}{s:ba}{σ:St}{H:Hp}{x:ci}{u:al}{pos:wv}{Q:al->ba->Prop}(I:Inv X pins σ H s) (hg:Gl X x) (hm:X.mg x=none) (hv:zd x=some u) (h:Q u s)
  (hn:x ≠ "__name__" := by decide) (hd:(x==("__debug__" : ci))=false :=by decide):c8 (model X.prog X.w) X.A (eval (.Name x pos) X.env) Q E s :=by
 obtain⟨mb,h1,h2⟩:=I.mod.blt;exact Calls.Name_function_global I.ok.kind hg (Calls.loadGlobal_builtin (by rw[I.ok.glob];exact I.mod.glob.keeps I.bk) hm (by rw[I.ok.blt];exact h1.keeps I.bk) ((h2 x hn).trans hv) h) hd
theorem AH {x:ci}{v:V}{u:al}{pos:wv}(hg:Gl X x) (hm:X.mg x=some u) (r:RelV v u) (hd:(x==("__debug__" : ci))=false :=by decide):PE X (.Name x pos) (tC v):=⟨fun _ _ _ H _ I h=>ub I hg hm ⟨v,H,I,r,h⟩ hd⟩
theorem KI {x:ci}{v:V}{u:al}{pos:wv}(hg:Gl X x) (hm:X.mg x=none) (hv:zd x=some u) (r:RelV v u) (hn:x ≠ "__name__" := by decide) (hd:(x==("__debug__" : ci))=false :=by decide):PE X (.Name x pos) (tC v):=⟨fun _ _ _ H _ I h=>fY I hg hm hv ⟨v,H,I,r,h⟩ hn hd⟩
variable {a b:io}{ta tb:TE}{pos:wv}
def PC (X:Cx) (op:YD) (a b:io) (t:TE):Prop:=
 ∀(pins:List (ag×l9)) (s:ba) (σ:St) (H:Hp) (Q:VK),Inv X pins σ H s->t σ H Q->
  c8 (model X.prog X.w) X.A (eval a X.env) (fun v az=>c8 (model X.prog X.w) X.A (eval b X.env) (fun u fK=>c8 (model X.prog X.w) X.A (compareOp op v u) (EP X pins σ Q) X.xe fK) X.xe az) X.xe s
theorem He (b:io) {op:YD}(h:op≠.In) (h2:op≠.NotIn):behindInMarks op b=false :=by
 have e1:(op==YD.In)=false :=by cases op<;>first|rfl|exact absurd rfl h
 have e2:(op==YD.NotIn)=false :=by cases op<;>first|rfl|exact absurd rfl h2
 cases b<;>simp[behindInMarks,e1,e2]
def tB (t:TE):TT:=fun σ H Q=>t σ H fun x H1=>∃c,x=.bl c/\Q c H1
theorem Vw {op:YD}{t:TE}(h:PC X op a b t) (h1:behindInMarks op b=false :=by first|exact He _ (by decide) (by decide)|rfl):PT X (.Compare a [op] [b] pos) (tB t) :=by
 refine⟨?_⟩;intro pins s σ H Q I hw;refine wpAny_isTrue_Compare1 (thn (h pins s σ H _ I hw) fun v s1 h1=>thn h1 fun u s2 h2=>thn h2 fun c s3 ⟨x,H1,I1,r1,q1⟩=>?_) h1
 obtain⟨d,rfl,q⟩:=q1;cases r1;exact BB ⟨H1,I1,q⟩
theorem MK {e:io}{t:TE}(h:PE X e t) (he:∀whole,isTrue e X.env whole=(do let v <- whole;standAt e.pos;holding [v] (truthy v)) :=by intro _;rfl):PT X e (tB t) :=by
 refine⟨?_⟩;intro pins s σ H Q I hw;refine isTrue_plain (thn (h pins s σ H _ I hw) fun v s1 ⟨x,H1,I1,r1,q1⟩=>?_) (he _)
 obtain⟨d,rfl,q⟩:=q1;cases r1;exact BB ⟨H1,I1,q⟩
variable {tA Ee:TT}{rest:List io}
def Vx (t u:TT):TT:=fun σ H Q=>t σ H fun c H1=>if c=true then Q true H1 else u σ H1 Q
def Uz (t:TT):TT:=fun σ H Q=>t σ H fun c H1=>Q (!c) H1
theorem ML (ha:PT X a tA):PW X (.BoolOp .Or [a] pos) tA :=by
 intro wh pins s σ H Q I h;refine isTrue_or (thn (ha pins s σ H Q I h) fun c s1 e=>?_)
 cases c with
 |false=>exact isTrue_or_nil e
 |true=>exact e
theorem Ro (ha:PT X a tA) (hb:PW X (.BoolOp .Or (b::rest) pos) Ee):PW X (.BoolOp .Or (a::b::rest) pos) (Vx tA Ee) :=by
 intro wh pins s σ H Q I h;refine isTrue_or (thn (ha pins s σ H _ I h) fun c s1 ⟨H1,I1,q1⟩=>?_)
 cases c with
 |true=>exact⟨H1,I1,q1⟩
 |false=>exact hb wh pins s1 σ H1 Q I1 q1
theorem MM (ha:PT X a tA):PT X (.UnaryOp .Not a pos) (Uz tA) :=by
 refine⟨?_⟩;intro pins s σ H Q I h;exact isTrue_not (ha pins s σ H (fun c H1=>Q (!c) H1) I h)
def Rp (ta tb:TE):TE:=fun σ H Q=>ta σ H fun x H1=>∃c,x=.bl c/\if c=true then tb σ H1 Q else Q (.bl false) H1
def UA (ta tb:TE):TE:=fun σ H Q=>ta σ H fun x H1=>∃c,x=.bl c/\if c=true then Q (.bl true) H1 else tb σ H1 Q
def Rq (ta:TE):TE:=fun σ H Q=>ta σ H fun x H1=>∃c,x=.bl c/\Q (.bl (!c)) H1
theorem MN {op}{t:TE}(h:PE X a t):PE X (.BoolOp op [a] pos) t:=⟨fun pins s σ H Q I hw=>BoolOp_one (h pins s σ H Q I hw)⟩
theorem MO (ha:PE X a ta) (hb:PE X (.BoolOp .And (b::rest) pos) tb):PE X (.BoolOp .And (a::b::rest) pos) (Rp ta tb) :=by
 refine⟨?_⟩;intro pins s σ H Q I h;refine BoolOp_and (thn (ha pins s σ H _ I h) fun v s1 ⟨x,H1,I1,r1,q1⟩=>?_)
 obtain⟨c,rfl,q1⟩:=q1;cases r1;refine BB ?_;cases c with
 |true=>exact hb pins s1 σ H1 Q I1 q1
 |false=>exact⟨.bl false,H1,I1,rfl,q1⟩
theorem Rr (ha:PE X a ta) (hb:PE X (.BoolOp .Or (b::rest) pos) tb):PE X (.BoolOp .Or (a::b::rest) pos) (UA ta tb) :=by
 refine⟨?_⟩;intro pins s σ H Q I h;refine BoolOp_or (thn (ha pins s σ H _ I h) fun v s1 ⟨x,H1,I1,r1,q1⟩=>?_)
 obtain⟨c,rfl,q1⟩:=q1;cases r1;refine BB ?_;cases c with
 |false=>exact hb pins s1 σ H1 Q I1 q1
 |true=>exact⟨.bl true,H1,I1,rfl,q1⟩
theorem MP (ha:PE X a ta):PE X (.UnaryOp .Not a pos) (Rq ta) :=by
 refine⟨?_⟩;intro pins s σ H Q I h;refine UnaryOp_ (thn (ha pins s σ H _ I h) fun v s1 ⟨x,H1,I1,r1,q1⟩=>?_)
 obtain⟨c,rfl,q1⟩:=q1;cases r1;exact not_of (BB ⟨.bl (!c),H1,I1,rfl,q1⟩)
def Vy (t:TT) (ta tb:TE):TE:=fun σ H Q=>t σ H fun c H1=>if c=true then ta σ H1 Q else tb σ H1 Q
theorem Hf {c:io}(hc:PT X c tA) (ha:PE X a ta) (hb:PE X b tb):PE X (.IfExp c a b pos) (Vy tA ta tb) :=by
 refine⟨?_⟩;intro pins s σ H Q I h;refine wpAny_IfExp (thn (hc pins s σ H _ I h) fun d s1 ⟨H1,I1,q1⟩=>?_)
 cases d with
 |true=>exact ha pins s1 σ H1 Q I1 q1
 |false=>exact hb pins s1 σ H1 Q I1 q1
end
def bF (K:bv) (H:Hp) (a:ag) (xs:List V):Prop:=
 Rd H a (.lst xs) \/
  ∃(o:l9) (its:Array al) (n:Nat),K.lookup a=some o/\o.cls=.type "list" /\ o.dict=none/\o.data=.seq its n/\its.size<=sizeLine/\Vals xs its.toList
def c9 (K:bv) (H:Hp) (a:ag) (xs:List V):Prop:=
 Rd H a (.tup xs) \/
  ∃(o:l9) (its:Array al) (n:Nat),K.lookup a=some o/\o.cls=.type "tuple" /\ o.data=.seq its n/\its.size<=sizeLine/\Vals xs its.toList
def UB:al->Option V
 | .none=>some .ay
 | .bool b=>some (.bl b)
 | .int i _=>some (.int i)
 | .str x _=>some (.str x)
 | .bytes b _=>some (.kN b)
 | .float b _=>some (.AD b)
 | .ref a=>some (.ref a)
 | .type n=>some (.ty n)
 |_=>none
theorem RelV.abs {x:V}{u:al}(r:RelV x u):UB u=some x :=by
 cases x with
 |ay=>cases r;rfl
 |bl _=>cases r;rfl
 |int _=>obtain⟨t,rfl⟩:=r;rfl
 |str _=>obtain⟨t,rfl⟩:=r;rfl
 |kN _=>obtain⟨t,rfl⟩:=r;rfl
 |AD _=>obtain⟨t,rfl⟩:=r;rfl
 |ref _=>cases r;rfl
 |ty _=>cases r;rfl
theorem RelV.inj {x y:V}{u:al}(r:RelV x u) (q:RelV y u):x=y:=lm (r.abs.symm.trans q.abs)
theorem Vals.inj:∀{xs ys:List V}{us:List al},Vals xs us->Vals ys us->xs=ys
 |_,_,_,.nil,.nil=>rfl
 |_,_,_,.cons r t,.cons r' t'=>by rw[r.inj r',Vals.inj t t']
section
variable {X:Cx}{pins:List (ag×l9)}{σ:St}{H:Hp}{s:ba}{a:ag}{xs ys:List V}
theorem bF.of {K:bv}(h:H a=some (.lst xs)):bF K H a xs:=.inl (.inl h)
theorem c9.of {K:bv}(h:H a=some (.tup xs)):c9 K H a xs:=.inl (.inl h)
theorem Inv.list (I:Inv X pins σ H s) (h:bF X.K H a xs):∃its:List al,Vals xs its/\PlainL s.heap a its.toArray/\xs.length<=sizeLine :=by
 rcases h with h|⟨o,its,n,hk,hc,hd,hs,hz,r⟩
 ·obtain⟨z,its,n,r,e⟩:=h.ok I.hok;exact⟨its,r,⟨_,n,e,rfl,rfl,rfl⟩,z⟩
 ·refine⟨its.toList,r,⟨o,n,I.jH a o hk,hc,hd,by simpa using hs⟩,?_⟩
  have e:=r.length;simp only[kw]at e;omega
theorem Inv.tuple (I:Inv X pins σ H s) (h:c9 X.K H a xs):∃its:List al,Vals xs its/\IsTup s.heap a its.toArray/\xs.length<=sizeLine :=by
 rcases h with h|⟨o,its,n,hk,hc,hs,hz,r⟩
 ·obtain⟨z,its,r,p⟩:=h.ok I.hok;exact⟨its,r,ni.tup p,z⟩
 ·refine⟨its.toList,r,⟨o,I.jH a o hk,hc,n,by simpa using hs⟩,?_⟩
  have e:=r.length;simp only[kw]at e;omega
theorem Inv.wM (I:Inv X pins σ H s) (h:bF X.K H a xs) (h':bF X.K H a ys):xs=ys :=by
 obtain⟨its,r,⟨o,n,e,_,_,d⟩,_⟩:=I.list h;obtain⟨its',r',⟨o',n',e',_,_,d'⟩,_⟩:=I.list h';rw[e]at e';cases e';rw[d]at d';injection d' with d1 _
 have:its=its':=by simpa using congrArg Array.toList d1
 subst this;exact r.inj r'
theorem Inv.uW (I:Inv X pins σ H s) (h:c9 X.K H a xs) (h':c9 X.K H a ys):xs=ys :=by
 obtain⟨its,r,⟨o,e,_,n,d⟩,_⟩:=I.tuple h;obtain⟨its',r',⟨o',e',_,n',d'⟩,_⟩:=I.tuple h';rw[e]at e';cases e';rw[d]at d';injection d' with d1 _
 have:its=its':=by simpa using congrArg Array.toList d1
 subst this;exact r.inj r'
end
abbrev Cx.mF (X:Cx) (E:al->ba->Prop):Cx:={X with xe:=E}
abbrev Cx.Ef (X:Cx):Cx:=X.mF fun _ _=>False
theorem Cx.Ok.mF {X:Cx}(ok:X.Ok) (E:al->ba->Prop):(X.mF E).Ok:=
 ⟨ok.mod,ok.kind,ok.glob,ok.blt,ok.above,ok.inj,ok.has,ok.cab,ok.hd,ok.frames,ok.stk,ok.exf,ok.bs,ok.bsz,ok.noex,ok.exfs,ok.funs,ok.frf⟩
theorem Cx.Ok.jJ {X:Cx}{E:al->ba->Prop}(ok:(X.mF E).Ok):X.Ok:=
 ⟨ok.mod,ok.kind,ok.glob,ok.blt,ok.above,ok.inj,ok.has,ok.cab,ok.hd,ok.frames,ok.stk,ok.exf,ok.bs,ok.bsz,ok.noex,ok.exfs,ok.funs,ok.frf⟩
section
variable {X:Cx}{pins:List (ag×l9)}{σ:St}{H:Hp}{s:ba}{E:al->ba->Prop}
theorem Inv.mF (I:Inv X pins σ H s) (E:al->ba->Prop):Inv (X.mF E) pins σ H s:=⟨I.ok.mF E,I.os,I.bare,I.base,I.loc,I.cell,I.free,I.freeC,I.pin,I.hok,I.len⟩
theorem Inv.jJ (I:Inv (X.mF E) pins σ H s):Inv X pins σ H s:=⟨I.ok.jJ,I.os,I.bare,I.base,I.loc,I.cell,I.free,I.freeC,I.pin,I.hok,I.len⟩
theorem SP.jJ {D:Ends}{f:Flow}{s':ba}(h:SP (X.mF E) pins D f s'):SP X pins D f s':=by
 cases f with
 |next=>obtain⟨aO,H',I,q⟩:=h;exact⟨aO,H',I.jJ,q⟩
 |brk=>obtain⟨aO,H',I,q⟩:=h;exact⟨aO,H',I.jJ,q⟩
 |cont=>obtain⟨aO,H',I,q⟩:=h;exact⟨aO,H',I.jJ,q⟩
 |ret u=>obtain⟨v,aO,H',I,r,q⟩:=h;exact⟨v,aO,H',I.jJ,r,q⟩
theorem iG.Ef {st:List wE}{t:TS}(h:iG X.Ef st t):iG X st t:=⟨fun pins s σ H D I hw=>
 on (h pins s σ H D (I.mF _) hw) (fun _ _ q=>q.jJ) fun _ _ z=>Pe z⟩
end
section
variable {X:Cx}{st:wE}{rest:List wE}{t u:TS}{e:io}{te:TE}{pos:wv}
def Rt:TS:=fun D σ H=>D.nx σ H
def UC (t u:TS):TS:=fun D σ H=>t {D with nx:=u D} σ H
theorem KJ:iG X [] Rt:=⟨fun _ _ σ H _ I h=>ZM ⟨σ,H,I,h⟩⟩
theorem Hg (h1:PS X st t) (h2:iG X rest u):iG X (st::rest) (UC t u) :=by
 refine⟨?_⟩;intro pins s σ H D I h;refine wpAny_execs_cons (thn (h1 pins s σ H {D with nx:=u D} I h) fun f s1 q=>?_)
 cases f with
 |next=>
  obtain⟨aO,H',I',q⟩:=q;exact h2 pins s1 aO H' D I' q
 |ret v=>exact q
 |brk=>exact q
 |cont=>exact q
theorem KL (h1:PS X st t):iG X [st] t :=by
 refine⟨?_⟩;intro pins s σ H D I h;refine wpAny_execs_cons (thn (h1 pins s σ H D I h) fun f s1 q=>?_)
 cases f with
 |next=>exact ZM q
 |ret v=>exact q
 |brk=>exact q
 |cont=>exact q
theorem Inv.quiet {pins:List (ag×l9)}{σ:St}{H:Hp}{s:ba}(I:Inv X pins σ H s):interactive X.env=false :=by simp[interactive,I.ok.kind]
def Ru (te:TE):TS:=fun D σ H=>te σ H fun _ H1=>D.nx σ H1
theorem KN (he:PE X e te) (hs:swapsWith e none pos.line X.env=pure false :=by rfl):PS X (.Expr e pos) (Ru te) :=by
 refine⟨?_⟩;intro pins s σ H D I h;exact wpAny_Expr_any (thn (he pins s σ H _ I h) fun v s1 ⟨x,H1,I1,r1,q1⟩=>⟨σ,H1,I1,q1⟩) I.quiet hs
def UD (te:TE):TS:=fun D σ H=>te σ H D.rt
theorem MQ (he:PE X e te):PS X (.Return (some e) pos) (UD te) :=by
 refine⟨?_⟩;intro pins s σ H D I h;exact wpAny_Return_some (thn (he pins s σ H _ I h) fun v s1 ⟨x,H1,I1,r1,q1⟩=>⟨x,σ,H1,I1,r1,q1⟩)
def UE (c:TT) (t u:TS):TS:=fun D σ H=>c σ H fun b H1=>if b=true then t D σ H1 else u D σ H1
theorem Rv {c:io}{a b:List wE}{tc:TT}(hc:PT X c tc) (ha:iG X a t) (hb:iG X b u):PS X (.If c a b pos) (UE tc t u) :=by
 refine⟨?_⟩;intro pins s σ H D I h;refine wpAny_If (thn (hc pins s σ H _ I h) fun d s1 ⟨H1,I1,q1⟩=>?_)
 cases d with
 |true=>exact ha pins s1 σ H1 D I1 q1
 |false=>exact hb pins s1 σ H1 D I1 q1
end
abbrev TG:=V->St->Hp->(St->Hp->Prop)->Prop
def PG (X:Cx) (target:io) (t:TG):Prop:=
 ∀(pins:List (ag×l9)) (s:ba) (σ:St) (H:Hp) (v:V) (u:al) (Q:St->Hp->Prop),Inv X pins σ H s->RelV v u->t v σ H Q->
  c8 (model X.prog X.w) X.A (assign target X.env u) (fun _ s'=>∃aO H',Inv X pins aO H' s'/\Q aO H') X.xe s
abbrev Hh:=V->V->V->Hp->(Hp->Prop)->Prop
def MR (X:Cx) (t:Hh):Prop:=
 ∀(pins:List (ag×l9)) (s:ba) (σ:St) (H:Hp) (o i v:V) (ov iv u:al) (Q:Hp->Prop),Inv X pins σ H s->RelV o ov->RelV i iv->RelV v u->t o i v H Q->
  c8 (model X.prog X.w) X.A (setItem ov iv u) (fun _ s'=>∃H',Inv X pins σ H' s'/\Q H') X.xe s
section
variable {X:Cx}{pos:wv}
def so (i:Nat):TG:=fun v σ H Q=>Q (σ.set i (some v)) H
theorem KO {i:Nat}{x:ci}(hN:X.N.Nodup) (hi:X.N[i]?=some x) (hx:Loc X.env.scope x) (hf:X.fn x=true\/X.env.scope.names.lookup x=some .local :=by first|exact .inl rfl|exact .inr rfl|assumption):PG X (.Name x pos) (so i) :=by
 intro pins s σ H v u Q I r h;exact aav (wL I hN hi hx r (fun s' I'=>⟨_,H,I',h⟩) hf)
def UG (to ti:TE) (t:Hh):TG:=fun v σ H Q=>to σ H fun o H1=>ti σ H1 fun i H2=>t o i v H2 fun H3=>Q σ H3
theorem MS {o i:io}{to ti:TE}{t:Hh}(ho:PE X o to) (hi:PE X i ti) (hs:MR X t)
  (ha:∀v,assign (.Subscript o i pos) X.env v=(do
   let ov <- holding [v] (eval o X.env)
   let iv <- holding [v,ov] (eval i X.env)
   standAt pos
   holding [v,ov,iv] (setItem ov iv v)
   release [v,ov,iv] []) :=by intro _;rfl):PG X (.Subscript o i pos) (UG to ti t) :=by
 intro pins s σ H v u Q I r h;rw[ha];refine ac (wS (thn (ho pins s σ H _ I h) fun ov s1 ⟨x,H1,I1,r1,q1⟩=>?_))
 refine ac (wS (thn (hi pins s1 σ H1 _ I1 q1) fun iv s2 ⟨y,H2,I2,r2,q2⟩=>?_))
 refine ac (DO (ac (wS (thn (hs pins s2 σ H2 x y v ov iv u _ I2 r1 r2 r q2) fun _ s3 ⟨H3,I3,q3⟩=>?_))))
 exact wpAny_release ⟨σ,H3,I3,q3⟩
def ud (te:TE) (g:TG):TS:=fun D σ H=>te σ H fun x H1=>g x σ H1 D.nx
theorem MT {tg e:io}{te:TE}{g:TG}(he:PE X e te) (hg:PG X tg g) (hs:swapsWithSole [tg] e pos.line X.env=pure false :=by rfl) (hw:swappedStores [tg] e X.env=pure none :=by rfl)
  (h1:(assignEach [tg] X.env).map (·.2)=[assign tg X.env] :=by rfl):PS X (.Assign [tg] e pos) (ud te g) :=by
 refine⟨?_⟩;intro pins s σ H D I h;refine wpAny_Assign_stores (thn (he pins s σ H _ I h) fun v s1 ⟨x,H1,I1,r1,q1⟩=>?_) hs hw
 rw[h1];exact thn (hg pins s1 σ H1 x v _ I1 r1 q1) fun _ s2 q=>q
theorem MU {i:Nat}{x:ci}{e:io}{te:TE}{pos':wv}(hN:X.N.Nodup) (hi:X.N[i]?=some x) (hx:Loc X.env.scope x) (he:PE X e te) (hs:swapsWith e (some (.Name x pos')) pos.line X.env=pure false :=by rfl) (hf:X.fn x=true\/X.env.scope.names.lookup x=some .local :=by first|exact .inl rfl|exact .inr rfl|assumption) :
  PS X (.Assign [.Name x pos'] e pos) (ud te (so i)) :=by
 refine⟨?_⟩;intro pins s σ H D I h;refine wpAny_Assign_Name (thn (he pins s σ H _ I h) fun v s1 ⟨y,H1,I1,r1,q1⟩=>?_) hs
 exact wL I1 hN hi hx r1 (fun s2 I2=>⟨_,H1,I2,q1⟩) hf
def Eg (c:TT) (tb:TS):TS:=fun D σ H=>∃W:Nat->St->Hp->Prop,(∃m,W m σ H)/\∀m σ H,W m σ H->
 c σ H fun b H1=>if b=true then ∃N:St->Hp->Prop,(∀aO H',N aO H'->∃m',m'<m/\W m' aO H')/\tb {D with nx:=N,ct:=N,bk:=D.nx} σ H1 else D.nx σ H1
theorem Hi {c:io}{body:List wE}{tc:TT}{tb:TS}(hp:aaR (model X.prog X.w) X.A X.env X.xe) (hc:PT X c tc) (hb:iG X body tb):PS X (.While c body [] pos) (Eg tc tb) :=by
 refine⟨?_⟩;intro pins s σ H D I h;obtain⟨W,⟨m0,w0⟩,turn⟩:=h;refine wpAny_While (codeAny_whileLoop (fun n s'=>∃aO H',Inv X pins aO H' s'/\W n aO H') ?_ m0 ⟨σ,H,I,w0⟩)
 rintro n s1 ⟨wN,H1,I1,w1⟩;refine Sk hp (thn (hc pins s1 wN H1 _ I1 (turn n wN H1 w1)) fun b s2 ⟨H2,I2,q2⟩=>?_)
 cases b with
 |true=>
  obtain⟨N,hN,q2⟩:=q2;rw[if_pos rfl];refine Sk hp (thn (hb pins s2 wN H2 _ I2 q2) fun f s3 q3=>?_)
  cases f with
  |next=>
   obtain⟨oi,H3,I3,n3⟩:=q3;obtain⟨m',hm,w3⟩:=hN oi H3 n3;exact⟨m',hm,oi,H3,I3,w3⟩
  |cont=>
   obtain⟨oi,H3,I3,n3⟩:=q3;obtain⟨m',hm,w3⟩:=hN oi H3 n3;exact⟨m',hm,oi,H3,I3,w3⟩
  |brk=>exact q3
  |ret v=>exact q3
 |false=>
  rw[if_neg gc];exact ZM ⟨wN,H2,I2,q2⟩
end
structure It where
 go:Nat->Hp->Prop
 yld:Nat->Hp->V->Hp->Prop
 stop:Nat->Hp->Prop
def bR (X:Cx) (pins:List (ag×l9)) (H:Hp) (b:ag):Prop:=
 H b=none/\b≠X.env.locals/\b ∉ X.fs/\(b∈X.ex\/X.s₀.heap.objs.size<=b)/\(∀x c,X.env.cells.lookup x=some c->c≠b)/\∀p∈X.pn++pins,p.1≠b
theorem Inv.jZ {X:Cx}{pins:List (ag×l9)}{σ:St}{H H':Hp}{s:ba}{b:ag}(I:Inv X pins σ H s) (hb:s.heap.objs.size<=b) (hn:H' b=none):bR X pins H' b :=by
 refine⟨hn,Yy (sK I.lt hb),I.MD hb,.inr (wb I.sz hb),fun x c e z=>?_,fun p hp z=>?_⟩
 ·obtain⟨v,q⟩:=I.cell x c e;exact absurd (sK q.lt (by rw[z];exact hb)) (DD _)
 ·exact absurd (sK (kt (I.pin p hp).1) (by rw[z];exact hb)) (DD _)
structure Turn (P:jp) (w:lf) (K:bv) (tg:io) (J:It) (fp:List ag) (it:ag) (tn:Nat->i8->Prop):Prop where
 mem:it∈fp
 obj:∀i h,tn i h->∀b∈fp,∃o,h.get? b=some o/\∀v,o.data≠.cell v
 keep:∀i h h',tn i h->(∀b∈fp,∀o,h.get? b=some o->h'.get? b=some o)->tn i h'
 item:∀(X:Cx),X.prog=P->X.w=w->X.K=K->X.calm=true->∀(i:Nat) (pins:List (ag×l9)) (s:ba) (σ:St) (H:Hp) (E:al->ba->Prop),Inv X pins σ H s->(∀b∈fp,bR X pins H b)->tn i s.heap->J.go i H->
  c8 (model P w) X.A (pyNext (.ref it)) (fun r s1=>∃u,r=some u /\
   c8 (model P w) X.A (letOwnedTupleGo tg (.ref it) u) (fun _ s2=>∃x H',Inv X pins σ H' s2/\RelV x u/\J.yld i H x H'/\tn (i+1) s2.heap/\∀b∈fp,H' b=none) E s1) E s
 done:∀(X:Cx),X.prog=P->X.w=w->X.K=K->X.calm=true->∀(i:Nat) (pins:List (ag×l9)) (s:ba) (σ:St) (H:Hp) (E:al->ba->Prop),Inv X pins σ H s->(∀b∈fp,bR X pins H b)->tn i s.heap->J.stop i H->
  c8 (model P w) X.A (pyNext (.ref it)) (fun r s1=>r=none/\Inv X pins σ H s1) E s
 self:∀(A:sB) (i:Nat) (s:ba) (Q:al->ba->Prop) (E:al->ba->Prop),tn i s.heap->Q (.ref it) s->c8 (model P w) A (pyIter (.ref it)) Q E s
abbrev TI:=St->Hp->(It->Hp->Prop)->Prop
def MV (X:Cx) (pins:List (ag×l9)) (σ:St) (tg:io) (R:It->Hp->Prop) (uX:al) (s2:ba):Prop:=
 ∃(it:ag) (fp:List ag) (tn:Nat->i8->Prop) (J:It) (H':Hp),uX=.ref it/\Inv X pins σ H' s2/\Turn X.prog X.w X.K tg J fp it tn/\tn 0 s2.heap/\(∀b∈fp,bR X pins H' b)/\R J H'
def PI (X:Cx) (tg iter:io) (wi:TI):Prop:=
 ∀(pins:List (ag×l9)) (s:ba) (σ:St) (H:Hp) (R:It->Hp->Prop),Inv X pins σ H s->wi σ H R->
  c8 (model X.prog X.w) X.A (eval iter X.env) (fun v s1=>c8 (model X.prog X.w) X.A (pyIter v) (MV X pins σ tg R) X.xe s1) X.xe s
theorem wu {M:Model}{A:sB}{E:al->ba->Prop}{s:ba}{tg:io}{it:ag}{u:al}{o:l9}{n:String}{vs:Array al}{Q:Unit->ba->Prop}(ho:s.heap.get? it=some o) (hc:o.cls=.type n) (hd:o.data=.fields vs)
  (hn:["enumerate","zip","dict_itemiterator","dict_reverseitemiterator","odict_iterator","itertools.zip_longest","itertools.pairwise"].contains n=false) (hQ:Q () s):c8 M A (letOwnedTupleGo tg (.ref it) u) Q E s :=by
 unfold letOwnedTupleGo;cases tg<;>first
  |exact bi hQ
  |(cases u<;>first
    |exact bi hQ
    |(refine ac (aa1 ho ?_)
      rw[hc,hd];show c8 M A (if (["enumerate","zip","dict_itemiterator","dict_reverseitemiterator","odict_iterator","itertools.zip_longest","itertools.pairwise"].contains n && vs[0]?==some (rawInt _))=true then _ else _) Q E s
      rw[if_neg (by intro h;rw[hn,Pc]at h;cases h)]
      exact bi hQ))
def MX (K:bv) (a:ag):It:=
 ⟨fun i H=>∃xs x,bF K H a xs/\xs[i]?=some x,fun i H x H'=>H'=H/\∀xs,bF K H a xs->xs[i]?=some x,fun i H=>∃xs,bF K H a xs/\xs.length<=i⟩
def MY (K:bv) (a:ag):It:=
 ⟨fun i H=>∃xs x,c9 K H a xs/\xs[i]?=some x,fun i H x H'=>H'=H/\∀xs,c9 K H a xs->xs[i]?=some x,fun i H=>∃xs,c9 K H a xs/\xs.length<=i⟩
def Eh (lo:Int) (n:Nat):It:=⟨fun i _=>i<n,fun i H x H'=>H'=H/\x=.int (lo+i),fun i _=>n<=i⟩
theorem Ei {P:jp}{w:lf}{K:bv}{tg:io}(a it:ag):Turn P w K tg (MX K a) [it] it (fun i h=>h.IsListIter it a i) where
 mem :=by simp
 obj:=fun i h st b hb=>by
  have e:b=it :=by simpa using hb
  subst e;obtain⟨o,e,c,d⟩:=st;exact⟨o,e,fun v z=>by rw[d]at z;cases z⟩
 keep:=fun i h h' st k=>st.at fun o e=>k it (by simp) o e
 item :=by
  intro X hP hw hK hc i pins s σ H E I hf st hg;subst hP hw hK;obtain⟨xs,x,hq,hx⟩:=hg;obtain⟨its,rv,p,hz⟩:=I.list hq;obtain⟨u,hu,ru⟩:=rv.get hx;obtain⟨f0,f1,f2,f3,f4,f5⟩:=hf it (by simp)
  refine wpAny_pyNext_list_item st p.isList (x:=u) (by simpa using hu) fun h' j7 sb=>?_
  have I1:Inv X pins σ H {s with heap:=h'}:=I.turned (t':=s.toks) (fun b o hb e=>(sb.2 b hb).trans e) f0 f1 f3 f4 f5
  obtain⟨o,e,c,d⟩:=id j7;exact⟨u,rfl,wu (s:={s with heap:=h'}) e c d (by decide) ⟨x,H,I1,ru,⟨rfl,fun ys hy=>by rw[I.wM hy hq];exact hx⟩,j7,fun b hb=>(hf b hb).1⟩⟩
 done :=by
  intro X hP hw hK hc i pins s σ H E I hf st hg;subst hP hw hK;obtain⟨xs,hq,hx⟩:=hg;obtain⟨its,rv,p,hz⟩:=I.list hq;obtain⟨f0,f1,f2,f3,f4,f5⟩:=hf it (by simp)
  have hl:=rv.length;exact wpAny_pyNext_list_end (I.ok.hd hc) st p.isList (by simp;omega) fun h' eb=>⟨rfl,I.turned (t':=s.toks) (fun b o hb e=>eb b o hb e) f0 f1 f3 f4 f5⟩
 self:=fun _ _ _ _ _ st h=>wpAny_pyIter_listiter st h
theorem Cu {P:jp}{w:lf}{K:bv}{tg:io}(a it:ag):Turn P w K tg (MY K a) [it] it (fun i h=>h.IsTupleIter it a i) where
 mem :=by simp
 obj:=fun i h st b hb=>by
  have e:b=it :=by simpa using hb
  subst e;obtain⟨o,e,c,d⟩:=st;exact⟨o,e,fun v z=>by rw[d]at z;cases z⟩
 keep:=fun i h h' st k=>st.at fun o e=>k it (by simp) o e
 item :=by
  intro X hP hw hK hc i pins s σ H E I hf st hg;subst hP hw hK;obtain⟨xs,x,hq,hx⟩:=hg;obtain⟨its,rv,p,hz⟩:=I.tuple hq;obtain⟨u,hu,ru⟩:=rv.get hx;obtain⟨f0,f1,f2,f3,f4,f5⟩:=hf it (by simp)
  refine wpAny_pyNext_tuple_item st (show s.heap.IsTuple a its.toArray from p) (x:=u) (by simpa using hu) fun h' j7 sb=>?_
  have I1:Inv X pins σ H {s with heap:=h'}:=I.turned (t':=s.toks) (fun b o hb e=>(sb.2 b hb).trans e) f0 f1 f3 f4 f5
  obtain⟨o,e,c,d⟩:=id j7;exact⟨u,rfl,wu (s:={s with heap:=h'}) e c d (by decide) ⟨x,H,I1,ru,⟨rfl,fun ys hy=>by rw[I.uW hy hq];exact hx⟩,j7,fun b hb=>(hf b hb).1⟩⟩
 done :=by
  intro X hP hw hK hc i pins s σ H E I hf st hg;subst hP hw hK;obtain⟨xs,hq,hx⟩:=hg;obtain⟨its,rv,p,hz⟩:=I.tuple hq;obtain⟨f0,f1,f2,f3,f4,f5⟩:=hf it (by simp)
  have hl:=rv.length;exact wpAny_pyNext_tuple_end (I.ok.hd hc) st (show s.heap.IsTuple a its.toArray from p) (by simp;omega) fun h' eb=>⟨rfl,I.turned (t':=s.toks) (fun b o hb e=>eb b o hb e) f0 f1 f3 f4 f5⟩
 self:=fun _ _ _ _ _ st h=>wpAny_pyIter_tupleiter st h
theorem Cv {P:jp}{w:lf}{K:bv}{tg:io}(it:ag) (lo:Int) (n:Nat):Turn P w K tg (Eh lo n) [it] it (fun i h=>IsRangeIter h it (lo+(i:Nat) * 1) ((n:Int) - (i:Nat)) 1) where
 mem :=by simp
 obj:=fun i h st b hb=>by
  have e:b=it :=by simpa using hb
  subst e;exact⟨_,st,fun v z=>by
   have z':Data.fields _=Data.cell v:=z;cases z'⟩
 keep:=fun i h h' st k=>k it (by simp) _ st
 item :=by
  intro X hP hw hK hc i pins s σ H E I hf st hg;subst hP hw hK;obtain⟨f0,f1,f2,f3,f4,f5⟩:=hf it (by simp)
  have W:=aa9.range (prog:=X.prog) (w:=X.w) (I.ok.hd hc) it lo 1 n;refine W.item i s _ _ hg st fun v h' tk hv j7 kk=>?_
  obtain⟨t,rfl⟩:=hv;have I1:Inv X pins σ H {s with heap:=h',toks:=tk}:=I.turned (fun b o hb e=>kk b o (by simpa using hb) e) f0 f1 f3 f4 f5
  refine⟨_,rfl,wu (s:={s with heap:=h',toks:=tk}) (n := "range_iterator") j7 rfl rfl (by decide) ⟨.int (lo+i),H,I1,⟨t,?_⟩,⟨rfl,rfl⟩,j7,fun b hb=>(hf b hb).1⟩⟩
  rw[Int.mul_one]
 done :=by
  intro X hP hw hK hc i pins s σ H E I hf st hg;subst hP hw hK;obtain⟨f0,f1,f2,f3,f4,f5⟩:=hf it (by simp)
  exact wpAny_pyNext_range_end (I.ok.hd hc) st (by have:n<=i:=hg;omega) fun h' eb=>⟨rfl,I.turned (t':=s.toks) (fun b o hb e=>eb b o hb e) f0 f1 f3 f4 f5⟩
 self:=fun _ _ _ _ _ st h=>wpAny_pyIter_rangeiter st h
section
variable {X:Cx}{tg:io}
def Jz (K:bv) (tl:TE):TI:=fun σ H R=>tl σ H fun x H1=>∃a,x=.ref a/\(∃xs,bF K H1 a xs)/\R (MX K a) H1
def MZ (K:bv) (tl:TE):TI:=fun σ H R=>tl σ H fun x H1=>∃a,x=.ref a/\(∃xs,c9 K H1 a xs)/\R (MY K a) H1
theorem KP {l:io}{tl:TE}(hl:PE X l tl):PI X tg l (Jz X.K tl) :=by
 intro pins s σ H R I h;refine thn (hl pins s σ H _ I h) fun v s1 ⟨x,H1,I1,r1,q1⟩=>?_
 obtain⟨a,e,⟨xs,hq⟩,q⟩:=q1;subst e;cases r1;obtain⟨its,rv,p,hz⟩:=I1.list hq;refine aaw p.isList ?_;refine⟨s1.heap.objs.size,[s1.heap.objs.size],_,_,H1,rfl,I1.kept (t':=s1.toks) fun b o e=>br _ e,Ei a _,⟨_,ij _ rfl,rfl,rfl⟩,fun b hb=>?_,q⟩
 have e:b=s1.heap.objs.size :=by simpa using hb
 subst e;exact I1.jZ (cb _) (I1.hok.fresh (cb _))
theorem M6 {l:io}{tl:TE}(hl:PE X l tl):PI X tg l (MZ X.K tl) :=by
 intro pins s σ H R I h;refine thn (hl pins s σ H _ I h) fun v s1 ⟨x,H1,I1,r1,q1⟩=>?_
 obtain⟨a,e,⟨xs,hq⟩,q⟩:=q1;subst e;cases r1;obtain⟨its,rv,p,hz⟩:=I1.tuple hq;refine aaf (show s1.heap.IsTuple a its.toArray from p) ?_;refine⟨s1.heap.objs.size,[s1.heap.objs.size],_,_,H1,rfl,I1.kept (t':=s1.toks) fun b o e=>br _ e,Cu a _,⟨_,ij _ rfl,rfl,rfl⟩,fun b hb=>?_,q⟩
 have e:b=s1.heap.objs.size :=by simpa using hb
 subst e;exact I1.jZ (cb _) (I1.hok.fresh (cb _))
theorem wO {pins:List (ag×l9)}{σ:St}{H:Hp}{s:ba}{R:It->Hp->Prop}{E:al->ba->Prop}{lo hi:Int}{t u v:Zj}{tk:Nat}(I:Inv X pins σ H s) (h1 : -(2 ^ 62)<=lo) (h2:lo<2 ^ 62) (h3 : -(2 ^ 62)<=hi) (h4:hi<2 ^ 62)
  (q:R (Eh lo (hi - lo).toNat) H):c8 (model X.prog X.w) X.A (pyIter (.ref s.heap.objs.size)) (MV X pins σ tg R) E {s with heap:=s.heap.push {cls:=.type "range",data:=.fields #[.int lo t,.int hi u,.int 1 v]},toks:=tk}:=by
 refine wpAny_pyIter_range (IsRange.new ..) (small_one h1 h2 h3 h4) ?_;have I1:Inv X pins σ H {s with heap:=s.heap.push {cls:=.type "range",data:=.fields #[.int lo t,.int hi u,.int 1 v]},toks:=tk}:=I.kept fun b o e=>br _ e
 refine⟨(s.heap.push {cls:=.type "range",data:=.fields #[.int lo t,.int hi u,.int 1 v]}).objs.size,[(s.heap.push {cls:=.type "range",data:=.fields #[.int lo t,.int hi u,.int 1 v]}).objs.size],_,_,H,rfl,
  I1.kept (t':=tk) fun b o e=>br _ e,Cv _ lo (hi - lo).toNat,?_,fun b hb=>?_,q⟩
 ·have e1:lo+((0:Nat):Int) * 1=lo :=by simp
  have e2:(((hi - lo).toNat:Nat):Int) - ((0:Nat):Int)=wl.Range.rangeSize lo hi 1 :=by rw[rangeSize_one];split<;>omega
  show IsRangeIter _ _ (lo+((0:Nat):Int) * 1) ((((hi - lo).toNat:Nat):Int) - ((0:Nat):Int)) 1;rw[e1,e2];exact ij _ rfl
 ·have e:b=(s.heap.push {cls:=.type "range",data:=.fields #[.int lo t,.int hi u,.int 1 v]}).objs.size :=by simpa using hb
  subst e;exact I1.jZ (cb _) (I1.hok.fresh (cb _))
def JA (ta:TA):TI:=fun σ H R=>ta σ H fun vs H1=>∃j:Int,vs=[.int j] /\ -(2 ^ 62)<=j/\j<2 ^ 62/\R (Eh 0 j.toNat) H1
def JB (ta:TA):TI:=fun σ H R=>ta σ H fun vs H1=>∃i j:Int,vs=[.int i,.int j]/\(-(2 ^ 62)<=i/\i<2 ^ 62 /\ -(2 ^ 62)<=j/\j<2 ^ 62)/\R (Eh i (j - i).toNat) H1
theorem Ej {a:io}{ta:TA}{p pos:wv}(hg:Gl X "range") (hm:X.mg "range" = none) (ha:PA X [a] ta) (hs:lw [a] X.env=[(false,eval a X.env)] :=by rfl):PI X tg (.Call (.Name "range" p) [a] [] pos) (JA ta) :=by
 intro pins s σ H R I h;refine Call_ (fY I hg hm boot_range (IF (thn (ha pos pins s σ H _ I h) fun us s1 ⟨vs,H1,I1,r1,q1⟩=>?_) hs rfl))
 obtain⟨j,e,q1,q2,q⟩:=q1;subst e;cases r1 with
 |cons r rr=>
  cases rr;obtain⟨t,rfl⟩:=r;exact call_range_1 (wO I1 (by omega) (by omega) q1 q2 (by simpa using q))
theorem Ek {a b:io}{ta:TA}{p pos:wv}(hg:Gl X "range") (hm:X.mg "range" = none) (ha:PA X [a,b] ta) (hs:lw [a,b] X.env=[(false,eval a X.env),(false,eval b X.env)] :=by rfl) (oj:lw [b] X.env=[(false,eval b X.env)] :=by rfl) :
  PI X tg (.Call (.Name "range" p) [a,b] [] pos) (JB ta) :=by
 intro pins s σ H R I h;refine Call_ (fY I hg hm boot_range (IF (thn (ha pos pins s σ H _ I h) fun us s1 ⟨vs,H1,I1,r1,q1⟩=>?_) (by rw[hs,oj]) (by rw[oj];rfl)))
 obtain⟨i,j,e,⟨q1,q2,q3,q4⟩,q⟩:=q1;subst e;cases r1 with
 |cons r rr=>
  cases rr with
  |cons r' rr=>
   cases rr;obtain⟨t,rfl⟩:=r;obtain⟨t',rfl⟩:=r';exact call_range_2 (wO I1 q1 q2 q3 q4 q)
def M7 (wi:TI) (g:TG) (tb:TS):TS:=fun D σ H=>wi σ H fun J H1=>∃W:Nat->Nat->St->Hp->Prop,(∃m,W 0 m σ H1)/\∀i m σ H,W i m σ H->
 (J.stop i H/\D.nx σ H)\/(J.go i H/\∃N:St->Hp->Prop,(∀aO H',N aO H'->∃m',m'<m/\W (i+1) m' aO H')/\∀x H',J.yld i H x H'->g x σ H' fun sr H2=>tb {D with nx:=N,ct:=N,bk:=D.nx} sr H2)
def fZ (fp:List ag) (h:i8):List (ag×l9):=fp.filterMap fun b=>(h.get? b).map fun o=>(b,o)
theorem cQ {fp:List ag}{h:i8}{b:ag}{o:l9}(hb:b∈fp) (e:h.get? b=some o):(b,o)∈fZ fp h:=YY.mpr ⟨b,hb,by rw[e];rfl⟩
theorem uY {fp:List ag}{h:i8}{p:ag×l9}(hp:p∈fZ fp h):p.1∈fp/\h.get? p.1=some p.2 :=by
 obtain⟨b,hb,e⟩:=YY.mp hp;cases q:h.get? b with
 |none=>rw[q]at e;cases e
 |some o=>
  rw[q]at e;have e':(b,o)=p:=lm e;subst e';exact⟨hb,q⟩
theorem Inv.pinned {pins:List (ag×l9)}{σ:St}{H:Hp}{s:ba}{fp:List ag}(I:Inv X pins σ H s) (hf:∀b∈fp,bR X pins H b) (ho:∀b∈fp,∃o,s.heap.get? b=some o/\∀v,o.data≠.cell v):Inv X (pins++fZ fp s.heap) σ H s:=
 I.kD fun p hp=>(qr.mp hp).elim (fun z=>I.pin p (f8 _ z)) fun z=>by
  obtain⟨hb,e⟩:=uY z;obtain⟨f0,f1,f2,_⟩:=hf p.1 hb;obtain⟨o,e',d⟩:=ho p.1 hb;rw[e]at e';cases e';exact⟨e,f0,f1,f2,d⟩
theorem Inv.dG {pins pl:List (ag×l9)}{σ:St}{H:Hp}{s:ba}(I:Inv X (pins++pl) σ H s):Inv X pins σ H s:=I.kD fun p hp=>I.pin p (f8 _ (uu _ hp))
theorem M8 {iter:io}{body:List wE}{wi:TI}{g:TG}{tb:TS}{pos:wv}(hp:aaR (model X.prog X.w) X.A X.env X.xe) (hc:X.calm=true) (hi:PI X tg iter wi) (hg:PG X tg g) (hb:iG X body tb)
  (hs:∀x,zw iter X.env x=pure x :=by intro _;rfl):PS X (.For tg iter body [] pos) (M7 wi g tb) :=by
 refine⟨?_⟩;intro pins s σ H D I h;refine wpAny_For (thn (hi pins s σ H _ I h) fun v s1 h1=>thn h1 fun uX s2 h2=>?_) hs
 obtain⟨it,fp,tn,J,H2,e,I2,T,mM,f2,W,⟨m0,w0⟩,turn⟩:=h2;subst e;have stat:∀{H':Hp},(∀b∈fp,H' b=none)->∀b∈fp,bR X pins H' b:=fun hn b hb=>⟨hn b hb,(f2 b hb).2⟩
 refine codeAny_forLoop_any (fun n s'=>∃i aO H',Inv X pins aO H' s'/\tn i s'.heap/\(∀b∈fp,H' b=none)/\W i n aO H') ?_ m0 ⟨0,σ,H2,I2,mM,fun b hb=>(f2 b hb).1,w0⟩
 rintro n s3 ⟨i,oi,H3,I3,uZ,El,w3⟩;rcases turn i n oi H3 w3 with ⟨stop,qn⟩|⟨go,N,hN,step⟩
 ·refine Sk hp (thn (T.done X rfl rfl rfl hc i pins s3 oi H3 X.xe I3 (stat El) uZ stop) fun r s4 ⟨hr,I4⟩=>?_)
  subst hr;exact ZM ⟨oi,H3,I4,qn⟩
 ·refine Sk hp (thn (T.item X rfl rfl rfl hc i pins s3 oi H3 X.xe I3 (stat El) uZ go) fun r s4 ⟨u,hr,h4⟩=>?_)
  subst hr;refine Sk hp (thn h4 fun _ s5 ⟨x,H5,I5,r5,y5,kQ,wQ⟩=>?_)
  have wR:=I5.pinned (stat wQ) (T.obj _ _ kQ);refine Sk hp (thn (hg _ s5 oi H5 x u _ wR r5 (step x H5 y5)) fun _ s6 ⟨Vz,H6,I6,q6⟩=>?_)
  refine Sk hp (thn (hb _ s6 Vz H6 _ I6 q6) fun f s7 q7=>?_)
  have again:∀{oA:St} {H7:Hp},Inv X (pins++fZ fp s5.heap) oA H7 s7->N oA H7->∃m,m<n/\∃i aO H',Inv X pins aO H' s7/\tn i s7.heap/\(∀b∈fp,H' b=none)/\W i m aO H':=fun {oA H7} I7 n7=>by
   obtain⟨m',hm,w7⟩:=hN oA H7 n7;refine⟨m',hm,i+1,oA,H7,I7.dG,T.keep _ _ _ kQ fun b hb o e=>(I7.pin (b,o) (f8 _ (f8 _ (cQ hb e)))).1,fun b hb=>?_,w7⟩
   obtain⟨o,e,d⟩:=T.obj _ _ kQ b hb;exact(I7.pin (b,o) (f8 _ (f8 _ (cQ hb e)))).2.1
  cases f with
  |next=>obtain⟨oA,H7,I7,n7⟩:=q7;exact again I7 n7
  |cont=>obtain⟨oA,H7,I7,n7⟩:=q7;exact again I7 n7
  |brk=>obtain⟨oA,H7,I7,q7⟩:=q7;exact⟨oA,H7,I7.dG,q7⟩
  |ret v=>obtain⟨x7,oA,H7,I7,r7,q7⟩:=q7;exact⟨x7,oA,H7,I7.dG,r7,q7⟩
end
abbrev R2:=V->V->Hp->VK->Prop
def OpR (X:Cx) (f:al->al->YS al) (r:R2):Prop:=
 ∀(pins:List (ag×l9)) (s:ba) (σ:St) (H:Hp) (x y:V) (v u:al) (Q:VK),Inv X pins σ H s->RelV x v->RelV y u->r x y H Q->
  c8 (model X.prog X.w) X.A (f v u) (EP X pins σ Q) X.xe s
def UnR (X:Cx) (f:al->YS al) (r:V->Hp->VK->Prop):Prop:=
 ∀(pins:List (ag×l9)) (s:ba) (σ:St) (H:Hp) (x:V) (v:al) (Q:VK),Inv X pins σ H s->RelV x v->r x H Q->
  c8 (model X.prog X.w) X.A (f v) (EP X pins σ Q) X.xe s
def cR (X:Cx) (f:al) (r:List V->Hp->VK->Prop):Prop:=
 ∀(pins:List (ag×l9)) (s:ba) (σ:St) (H:Hp) (xs:List V) (us:List al) (Q:VK),Inv X pins σ H s->Vals xs us->r xs H Q->
  c8 (model X.prog X.w) X.A (call f us) (EP X pins σ Q) X.xe s
def UH (X:Cx) (r:V->Hp->(Bool->Hp->Prop)->Prop):Prop:=
 ∀(pins:List (ag×l9)) (s:ba) (σ:St) (H:Hp) (x:V) (v:al) (Q:Bool->Hp->Prop),Inv X pins σ H s->RelV x v->r x H Q->
  c8 (model X.prog X.w) X.A (truthy v) (TP X pins σ Q) X.xe s
def Em (r:R2) (ta tb:TE):TE:=fun σ H Q=>ta σ H fun x H1=>tb σ H1 fun y H2=>r x y H2 Q
def VA (r:V->Hp->VK->Prop) (ta:TE):TE:=fun σ H Q=>ta σ H fun x H1=>r x H1 Q
def rI (C:Int->Int->Prop) (g:Int->Int->V):R2:=fun x y H Q=>∃i j,x=.int i/\y=.int j/\C i j/\Q (g i j) H
def u0 (g:Int->Int->V):R2:=fun x y H Q=>∃i j,x=.int i/\y=.int j/\Q (g i j) H
def rU (g:Int->V):V->Hp->VK->Prop:=fun x H Q=>∃i,x=.int i/\Q (g i) H
section
variable {X:Cx}{a b c:io}{ta tb tc:TE}{pos:wv}
theorem Hj (ha:PE X a ta) (hb:PE X b tb) {pins:List (ag×l9)}{s:ba}{σ:St}{H:Hp}{R:V->V->Hp->Prop}(I:Inv X pins σ H s)
  (h:ta σ H fun x H1=>tb σ H1 fun y H2=>R x y H2) {Q:al->ba->Prop} {f:al->al->YS al}
  (hf:∀v u s2 x y H2,Inv X pins σ H2 s2->RelV x v->RelV y u->R x y H2->c8 (model X.prog X.w) X.A (f v u) Q X.xe s2) :
  c8 (model X.prog X.w) X.A (eval a X.env) (fun v az=>c8 (model X.prog X.w) X.A (eval b X.env) (fun u fK=>c8 (model X.prog X.w) X.A (f v u) Q X.xe fK) X.xe az) X.xe s :=by
 refine thn (ha pins s σ H _ I h) fun v s1 ⟨x,H1,I1,r1,q1⟩=>?_
 refine thn (hb pins s1 σ H1 _ I1 q1) fun u s2 ⟨y,H2,I2,r2,q2⟩=>?_
 exact hf v u s2 x y H2 I2 r1 r2 q2
theorem Rw {op:Operator}{r:R2}(ho:OpR X (binaryOp op) r) (ha:PE X a ta) (hb:PE X b tb):PE X (.BinOp a op b pos) (Em r ta tb) :=by
 refine⟨?_⟩;intro pins s σ H Q I h;exact wpAny_BinOp (Hj ha hb I h fun v u s2 x y H2 I2 rx ry q=>ho pins s2 σ H2 x y v u Q I2 rx ry q)
theorem Rx {op:UnaryOp}{r:V->Hp->VK->Prop}(ho:UnR X (unaryOp op) r) (ha:PE X a ta):PE X (.UnaryOp op a pos) (VA r ta) :=by
 refine⟨?_⟩;intro pins s σ H Q I h;exact UnaryOp_ (thn (ha pins s σ H _ I h) fun v s1 ⟨x,H1,I1,r1,q1⟩=>ho pins s1 σ H1 x v Q I1 r1 q1)
theorem JC {f:al->al->YS al}{C:Int->Int->Prop}{g:Int->Int->Int}
  (rule:∀(i j:Int) (t u:Zj) (s:ba) (Q:al->ba->Prop) (E:al->ba->Prop),C i j->Q (.int (g i j) s.toks) {s with toks:=s.toks+1}->c8 (model X.prog X.w) X.A (f (.int i t) (.int j u)) Q E s) :
  OpR X f (rI C fun i j=>.int (g i j)) :=by
 intro pins s σ H x y v u Q I rx ry h;obtain⟨i,j,rfl,rfl,hc,q⟩:=h;obtain⟨t,rfl⟩:=rx;obtain⟨t',rfl⟩:=ry;exact rule i j t t' s _ _ hc ⟨.int (g i j),H,I.tok _,⟨_,rfl⟩,q⟩
theorem M9 {f:al->al->YS al}{g:Int->Int->Int}
  (rule:∀(i j:Int) (t u:Zj) (s:ba) (Q:al->ba->Prop) (E:al->ba->Prop),Q (.int (g i j) s.toks) {s with toks:=s.toks+1}->c8 (model X.prog X.w) X.A (f (.int i t) (.int j u)) Q E s) :
  OpR X f (u0 fun i j=>.int (g i j)) :=by
 intro pins s σ H x y v u Q I rx ry h;obtain⟨i,j,rfl,rfl,q⟩:=h;obtain⟨t,rfl⟩:=rx;obtain⟨t',rfl⟩:=ry;exact rule i j t t' s _ _ ⟨.int (g i j),H,I.tok _,⟨_,rfl⟩,q⟩
theorem Hk {f:al->al->YS al}{g:Int->Int->Bool}
  (rule:∀(i j:Int) (t u:Zj) (s:ba) (Q:al->ba->Prop) (E:al->ba->Prop),Q (.bool (g i j)) s->c8 (model X.prog X.w) X.A (f (.int i t) (.int j u)) Q E s) :
  OpR X f (u0 fun i j=>.bl (g i j)) :=by
 intro pins s σ H x y v u Q I rx ry h;obtain⟨i,j,rfl,rfl,q⟩:=h;obtain⟨t,rfl⟩:=rx;obtain⟨t',rfl⟩:=ry;exact rule i j t t' s _ _ ⟨.bl (g i j),H,I,rfl,q⟩
def Nb (i j:Int):Prop:=0<j/\j<1073741824
def Nc (i j:Int):Prop:=0<=j/\j<=1000000/\i.natAbs<2 ^ 64
def Cw (i j:Int):Prop:=(-(2 ^ 64)<i/\i<2 ^ 64)\/(-(2 ^ 64)<j/\j<2 ^ 64)
theorem Cw.ok {i j:Int}(h:Cw i j):IntMulOk i j :=by
 rcases h with ⟨h1,h2⟩|⟨h1,h2⟩
 ·exact .of_left (intBits_le_64 h1 h2)
 ·exact .of_right (intBits_le_64 h1 h2)
theorem Nf:OpR X (binaryOp .Add) (u0 fun i j=>.int (i+j)):=M9 fun _ _ _ _ _ _ _ q=>add_int q
theorem Ng:OpR X (binaryOp .Sub) (u0 fun i j=>.int (i - j)):=M9 fun _ _ _ _ _ _ _ q=>sub_int q
theorem Nh:OpR X (binaryOp .Mult) (rI Cw fun i j=>.int (i * j)):=JC fun _ _ _ _ _ _ _ hc q=>mul_int q hc.ok
theorem KQ:OpR X (binaryOp .FloorDiv) (rI Nb fun i j=>.int (i / j)):=JC fun i j _ _ _ _ _ hc q=>by
 have h1:(0:Int)<j:=hc.1;have h2:j<1073741824:=hc.2;exact floordiv_int (by omega) (by rw[Int.fdiv_eq_ediv_of_nonneg i (by omega)];exact q) (.inl (PyProof.noPylong_small (by omega)))
theorem Ni:OpR X (binaryOp .Mod) (rI (fun _ j=>0<j) fun i j=>.int (i % j)):=JC fun i j _ _ _ _ _ hc q=>by
 have h1:(0:Int)<j:=hc;exact mod_int' (by omega) (by rw[Int.fmod_eq_emod_of_nonneg i (by omega)];exact q)
theorem Nj:OpR X (binaryOp .Pow) (rI Nc fun i j=>.int (i ^ j.toNat)):=JC fun _ _ _ _ _ _ _ hc q=>pow_int_small hc.1 hc.2.1 hc.2.2 q
theorem VB {f:al->YS al}{g:Int->Int}
  (rule:∀(i:Int) (t:Zj) (s:ba) (Q:al->ba->Prop) (E:al->ba->Prop),Q (.int (g i) s.toks) {s with toks:=s.toks+1}->c8 (model X.prog X.w) X.A (f (.int i t)) Q E s) :
  UnR X f (rU fun i=>.int (g i)) :=by
 intro pins s σ H x v Q I rx h;obtain⟨i,rfl,q⟩:=h;obtain⟨t,rfl⟩:=rx;exact rule i t s _ _ ⟨.int (g i),H,I.tok _,⟨_,rfl⟩,q⟩
theorem Nk:UnR X (unaryOp .USub) (rU fun i=>.int (-i)):=VB fun _ _ _ _ _ q=>neg_int q
end
def Hl:V->V->Bool
 | .ay,.ay=>true | .ay,.int _=>true | .int _,.ay=>true | .ay,.bl _=>true | .bl _,.ay=>true | .ay,.str _=>true | .str _,.ay=>true
 | .int _,.int _=>true | .bl _,.bl _=>true | .str _,.str _=>true | .kN _,.kN _=>true
 | .int _,.str _=>true | .str _,.int _=>true | .bl _,.str _=>true | .str _,.bl _=>true
 |_,_=>false
def VC:R2:=fun x y H Q=>Hl x y=true/\Q (.bl (decide (x=y))) H
def VD:R2:=fun x y H Q=>Hl x y=true/\Q (.bl (!decide (x=y))) H
theorem AI {i j:Int}:decide (V.int i=V.int j)=(i==j) :=by
 rw[Ym];simp
theorem En {i j:Bool}:decide (V.bl i=V.bl j)=(i==j) :=by
 rw[Ym];simp
theorem AJ {i j:ci}:decide (V.str i=V.str j)=(i==j) :=by
 rw[Ym];simp
theorem AK {i j:Array UInt8}:decide (V.kN i=V.kN j)=(i.toList==j.toList) :=by
 rw[Ym];cases i;cases j;simp
section
variable {X:Cx}{a b c:io}{ta tb tc:TE}{pos:wv}
theorem a9 {pins:List (ag×l9)}{σ:St}{H:Hp}{s:ba}{Q:VK}{k k':Bool}(I:Inv X pins σ H s) (q:Q (.bl k) H) (e:k=k'):EP X pins σ Q (.bool k') s :=by
 subst e;exact⟨.bl k,H,I,rfl,q⟩
theorem Ry:OpR X (compareOp .Eq) VC :=by
 intro pins s σ H x y v u Q I rx ry h;obtain⟨hs,q⟩:=h;cases x with
 |ay=>
  cases rx;cases y with
  |ay=>cases ry;exact PySem.EqNone.eq_none_none (a9 I q (by simp))
  |bl j=>cases ry;exact PySem.EqNone.eq_none_bool (a9 I q (by simp))
  |int j=>obtain⟨t',rfl⟩:=ry;exact PySem.EqNone.eq_none_int (a9 I q (by simp))
  |str j=>obtain⟨t',rfl⟩:=ry;exact PySem.EqNone.eq_none_str (a9 I q (by simp))
  |_=>exact absurd (show false=true from hs) gc
 |bl i=>
  cases rx;cases y with
  |ay=>cases ry;exact PySem.EqNone.eq_bool_none (a9 I q (by simp))
  |bl j=>cases ry;exact eq_bool (a9 I q En)
  |str j=>obtain⟨t',rfl⟩:=ry;exact PySem.EqMixed.eq_bool_str (a9 I q (by simp))
  |_=>exact absurd (show false=true from hs) gc
 |int i=>
  obtain⟨t,rfl⟩:=rx;cases y with
  |ay=>cases ry;exact PySem.EqNone.eq_int_none (a9 I q (by simp))
  |int j=>obtain⟨t',rfl⟩:=ry;exact eq_int (a9 I q AI)
  |str j=>obtain⟨t',rfl⟩:=ry;exact PySem.EqMixed.eq_int_str (a9 I q (by simp))
  |_=>exact absurd (show false=true from hs) gc
 |str i=>
  obtain⟨t,rfl⟩:=rx;cases y with
  |ay=>cases ry;exact PySem.EqNone.eq_str_none (a9 I q (by simp))
  |bl j=>cases ry;exact PySem.EqMixed.eq_str_bool (a9 I q (by simp))
  |int j=>obtain⟨t',rfl⟩:=ry;exact PySem.EqMixed.eq_str_int (a9 I q (by simp))
  |str j=>obtain⟨t',rfl⟩:=ry;exact eq_str (a9 I q AJ)
  |_=>exact absurd (show false=true from hs) gc
 |kN i=>
  obtain⟨t,rfl⟩:=rx;cases y with
  |kN j=>obtain⟨t',rfl⟩:=ry;exact PySem.W.eq_bytes (a9 I q AK)
  |_=>exact absurd (show false=true from hs) gc
 |_=>cases y<;>exact absurd (show false=true from hs) gc
theorem RA:OpR X (compareOp .NotEq) VD :=by
 intro pins s σ H x y v u Q I rx ry h;obtain⟨hs,q⟩:=h;cases x with
 |ay=>
  cases rx;cases y with
  |ay=>cases ry;exact PySem.EqNone.ne_none_none (a9 I q (by simp))
  |bl j=>cases ry;exact PySem.EqNone.ne_none_bool (a9 I q (by simp))
  |int j=>obtain⟨t',rfl⟩:=ry;exact PySem.EqNone.ne_none_int (a9 I q (by simp))
  |str j=>obtain⟨t',rfl⟩:=ry;exact PySem.EqNone.ne_none_str (a9 I q (by simp))
  |_=>exact absurd (show false=true from hs) gc
 |bl i=>
  cases rx;cases y with
  |ay=>cases ry;exact PySem.EqNone.ne_bool_none (a9 I q (by simp))
  |bl j=>cases ry;exact ne_bool (a9 I q (congrArg not En))
  |str j=>obtain⟨t',rfl⟩:=ry;exact PySem.EqMixed.ne_bool_str (a9 I q (by simp))
  |_=>exact absurd (show false=true from hs) gc
 |int i=>
  obtain⟨t,rfl⟩:=rx;cases y with
  |ay=>cases ry;exact PySem.EqNone.ne_int_none (a9 I q (by simp))
  |int j=>obtain⟨t',rfl⟩:=ry;exact ne_int (a9 I q (congrArg not AI))
  |str j=>obtain⟨t',rfl⟩:=ry;exact PySem.EqMixed.ne_int_str (a9 I q (by simp))
  |_=>exact absurd (show false=true from hs) gc
 |str i=>
  obtain⟨t,rfl⟩:=rx;cases y with
  |ay=>cases ry;exact PySem.EqNone.ne_str_none (a9 I q (by simp))
  |bl j=>cases ry;exact PySem.EqMixed.ne_str_bool (a9 I q (by simp))
  |int j=>obtain⟨t',rfl⟩:=ry;exact PySem.EqMixed.ne_str_int (a9 I q (by simp))
  |str j=>obtain⟨t',rfl⟩:=ry;exact ne_str (a9 I q (congrArg not AJ))
  |_=>exact absurd (show false=true from hs) gc
 |kN i=>
  obtain⟨t,rfl⟩:=rx;cases y with
  |kN j=>obtain⟨t',rfl⟩:=ry;exact PySem.W.ne_bytes (a9 I q (congrArg not AK))
  |_=>exact absurd (show false=true from hs) gc
 |_=>cases y<;>exact absurd (show false=true from hs) gc
theorem RB:OpR X (compareOp .Lt) (u0 fun i j=>.bl (decide (i<j))):=Hk fun _ _ _ _ _ _ _ q=>lt_int q
theorem RC:OpR X (compareOp .LtE) (u0 fun i j=>.bl (decide (i<=j))):=Hk fun _ _ _ _ _ _ _ q=>le_int q
theorem RD:OpR X (compareOp .Gt) (u0 fun i j=>.bl (decide (j<i))):=Hk fun _ _ _ _ _ _ _ q=>gt_int q
theorem Eo:OpR X (compareOp .In) (fun x y H Q=>∃i j,x=.str i/\y=.str j/\Q (.bl (!(OK j i 0 j.length 1).isEmpty)) H) :=by
 intro pins s σ H x y v u Q I rx ry h;obtain⟨i,j,rfl,rfl,q⟩:=h;obtain⟨t,rfl⟩:=rx;obtain⟨t',rfl⟩:=ry;exact in_str (a9 I q rfl)
theorem cW (b:io) {op:YD}(h:op≠.In :=by decide) (h2:op≠.NotIn :=by decide):behindInMarks op b=false :=by
 have e1:(op==YD.In)=false :=by cases op<;>first|rfl|exact absurd rfl h
 have e2:(op==YD.NotIn)=false :=by cases op<;>first|rfl|exact absurd rfl h2
 cases b<;>simp[behindInMarks,e1,e2]
theorem KR {op:YD}{r:R2}(ho:OpR X (compareOp op) r) (ha:PE X a ta) (hb:PE X b tb) (hm:behindInMarks op b=false):PE X (.Compare a [op] [b] pos) (Em r ta tb) :=by
 refine⟨?_⟩;intro pins s σ H Q I h;exact wpAny_Compare1 (Hj ha hb I h fun v u s2 x y H2 I2 rx ry q=>ho pins s2 σ H2 x y v u Q I2 rx ry q) hm
def Cy (t:TE):TT:=fun σ H Q=>t σ H fun x H'=>∃k,x=.bl k/\Q k H'
theorem KS {op:YD}{r:R2}(ho:OpR X (compareOp op) r) (ha:PE X a ta) (hb:PE X b tb) (hm:behindInMarks op b=false):PT X (.Compare a [op] [b] pos) (Cy (Em r ta tb)) :=by
 refine⟨?_⟩;intro pins s σ H Q I h;refine wpAny_isTrue_Compare1 (thn (ha pins s σ H _ I h) fun v s1 ⟨x,H1,I1,r1,q1⟩=>thn (hb pins s1 σ H1 _ I1 q1) fun u s2 ⟨y,H2,I2,r2,q2⟩=>
  thn (ho pins s2 σ H2 x y v u _ I2 r1 r2 q2) fun c s3 ⟨z,H3,I3,r3,k,e,q3⟩=>?_) hm
 subst e;cases r3;exact BB ⟨H3,I3,q3⟩
def wU (r r':R2) (ta tb tc:TE):TE:=fun σ H Q=>ta σ H fun x H1=>tb σ H1 fun y H2=>r x y H2 fun z H3=>∃k,z=.bl k /\
 (if k=true then tc σ H3 fun w' H4=>r' y w' H4 Q else Q (.bl false) H3)
theorem Hm {op kR:YD}{r r':R2}(ho:OpR X (compareOp op) r) (fN:OpR X (compareOp kR) r') (ha:PE X a ta) (hb:PE X b tb) (hc:PE X c tc)
  (hm:lastMarks [op,kR] [b,c]=false :=by with_unfolding_all rfl):PE X (.Compare a [op,kR] [b,c] pos) (wU r r' ta tb tc) :=by
 refine⟨?_⟩;intro pins s σ H Q I h;refine Compare_chain (thn (ha pins s σ H _ I h) fun v s1 ⟨x,H1,I1,r1,q1⟩=>chain_link (thn (hb pins s1 σ H1 _ I1 q1) fun u s2 ⟨y,H2,I2,r2,q2⟩=>
  thn (ho pins s2 σ H2 x y v u _ I2 r1 r2 q2) fun d s3 ⟨z,H3,I3,r3,k,e,q3⟩=>?_)) hm
 subst e;cases r3;refine BB ?_;cases k with
 |false=>exact ite_ff ⟨.bl false,H3,I3,rfl,q3⟩
 |true=>exact ite_tt (chain_last (thn (hc pins s3 σ H3 _ I3 q3) fun w' s4 ⟨z',H4,I4,r4,q4⟩=>fN pins s4 σ H4 y z' u w' Q I4 r2 r4 q4))
theorem Hn {op kR:YD}{r r':R2}(ho:OpR X (compareOp op) r) (fN:OpR X (compareOp kR) r') (ha:PE X a ta) (hb:PE X b tb) (hc:PE X c tc)
  (hm:lastMarks [op,kR] [b,c]=false :=by with_unfolding_all rfl):PT X (.Compare a [op,kR] [b,c] pos) (Cy (wU r r' ta tb tc)) :=by
 refine⟨?_⟩;intro pins s σ H Q I h;refine isTrue_chain (thn (ha pins s σ H _ I h) fun v s1 ⟨x,H1,I1,r1,q1⟩=>test_link (thn (hb pins s1 σ H1 _ I1 q1) fun u s2 ⟨y,H2,I2,r2,q2⟩=>
  thn (ho pins s2 σ H2 x y v u _ I2 r1 r2 q2) fun d s3 ⟨z,H3,I3,r3,k,e,q3⟩=>?_)) hm
 subst e;cases r3;refine BB ?_;cases k with
 |false=>
  obtain⟨k',e',q'⟩:=q3;cases e';exact ite_ff ⟨H3,I3,q'⟩
 |true=>
  refine ite_tt (test_last (thn (hc pins s3 σ H3 _ I3 q3) fun w' s4 ⟨z',H4,I4,r4,q4⟩=>thn (fN pins s4 σ H4 y z' u w' _ I4 r2 r4 q4) fun d' s5 ⟨z2,H5,I5,r5,k2,e2,q5⟩=>?_))
  subst e2;cases r5;exact BB ⟨H5,I5,q5⟩
def UI (K:bv) (x:V) (H:Hp) (k:Bool):Prop:=
 match x with
 | .ay=>k=false
 | .bl b=>k=b
 | .int i=>k=(i != 0)
 | .str y=>y.length<=sizeLine/\k=((y.length:Int) != 0)
 | .kN y=>y.size<=sizeLine/\k=((y.size:Int) != 0)
 | .ref p=>(∃xs,bF K H p xs/\k = !xs.isEmpty)\/(∃xs,c9 K H p xs/\k = !xs.isEmpty)\/∃aj,H p=some (.dK aj)/\k = !aj.isEmpty
 |_=>False
theorem Cz {κ:Type}{aj:List (κ×V)}{vs:List (κ×al)}(r:KV aj vs):(!vs.isEmpty) = !aj.isEmpty :=by
 cases r<;>rfl
theorem su {xs:List V}{its:List al}(r:Vals xs its):(!its.toArray.isEmpty) = !xs.isEmpty :=by
 cases r<;>simp
theorem mO:(sizeLine:Nat)<2 ^ 63 :=by rw[Pf];decide
theorem VE:UH X (fun x H Q=>∃k,UI X.K x H k/\Q k H) :=by
 intro pins s σ H x v Q I rx h;obtain⟨k,e,q⟩:=h;have hl:=mO;have hs:sizeLine=16777216:=Pf;cases x with
 |ay=>
  cases rx;have e':k=false:=e;subst e';exact truthy_none ⟨H,I,q⟩
 |bl b=>
  cases rx;have e':k=b:=e;subst e';exact BB ⟨H,I,q⟩
 |int i=>
  obtain⟨t,rfl⟩:=rx;have e':k=(i != 0):=e;subst e';exact PySem.P.truthy_int ⟨H,I,q⟩
 |str y=>
  obtain⟨t,rfl⟩:=rx;obtain⟨hy,e'⟩:y.length<=sizeLine/\k=((y.length:Int) != 0):=e;subst e';exact PySem.P.truthy_str (by omega) ⟨H,I.tok _,q⟩
 |kN y=>
  obtain⟨t,rfl⟩:=rx;obtain⟨hy,e'⟩:y.size<=sizeLine/\k=((y.size:Int) != 0):=e;subst e';exact PySem.W.truthy_bytes (by omega) ⟨H,I.tok _,q⟩
 |ref p=>
  cases rx;have e':(∃xs,bF X.K H p xs/\k = !xs.isEmpty)\/(∃xs,c9 X.K H p xs/\k = !xs.isEmpty)\/∃aj,H p=some (.dK aj)/\k = !aj.isEmpty:=e;rcases e' with ⟨xs,hx,e'⟩|⟨xs,hx,e'⟩|⟨aj,hx,e'⟩
  ·subst e';obtain⟨its,r,pl,hz⟩:=I.list hx;have hlen:=r.length;exact wpAny_truthy_list pl.isList (by simp only[lv];omega) ⟨H,I.tok _,by rw[su r];exact q⟩
  ·subst e';obtain⟨its,r,pl,hz⟩:=I.tuple hx;have hlen:=r.length;exact truthy_tuple pl (by simp only[lv];omega) ⟨H,I.tok _,by rw[su r];exact q⟩
  ·subst e';obtain⟨hz,hS,vs,r,m⟩:aj.length<=sizeLine/\(p==sysModules)=false/\∃vs,KV aj vs/\s.heap.DictOf (bJ X.prog X.w) p vs:=I.hok p _ hx;have hlen:aj.length=vs.length:=SS r;exact wpAny_truthy_dict hS m (by omega) ⟨H,I.tok _,by rw[Cz r];exact q⟩
 |_=>exact(show False from e).elim
theorem vals1 {x:V}{us:List al}(r:Vals [x] us):∃u,us=[u]/\RelV x u :=by
 cases r with
 |cons r1 r2=>cases r2;exact⟨_,rfl,r1⟩
theorem vals2 {x y:V}{us:List al}(r:Vals [x,y] us):∃u w',us=[u,w']/\RelV x u/\RelV y w':=by
 cases r with
 |cons r1 r2=>
  cases r2 with
  |cons r3 r4=>cases r4;exact⟨_,_,rfl,r1,r3⟩
theorem Ho:cR X (.builtin "abs") (fun xs H Q=>∃i,xs=[.int i]/\Q (.int (if i<0 then -i else i)) H) :=by
 intro pins s σ H xs us Q I r h;obtain⟨i,rfl,q⟩:=h;obtain⟨u,rfl,t,rfl⟩:=vals1 r;exact call_abs_int fun u tk=>⟨.int (if i<0 then -i else i),H,I.tok _,⟨_,rfl⟩,q⟩
theorem Ep (hc:X.calm=true):cR X (.builtin "min") (fun xs H Q=>∃i j,xs=[.int i,.int j]/\Q (.int (if j<i then j else i)) H) :=by
 intro pins s σ H xs us Q I r h;obtain⟨i,j,rfl,q⟩:=h;obtain⟨u,w',rfl,⟨t,rfl⟩,⟨t',rfl⟩⟩:=vals2 r;refine min_two_ints (I.ok.hd hc) fun h' tk k=>⟨_,H,I.kept k,?_,q⟩
 by_cases hj:j<i
 ·rw[if_pos hj,if_pos hj];exact⟨_,rfl⟩
 ·rw[if_neg hj,if_neg hj];exact⟨_,rfl⟩
def Nm (K:bv) (x:V) (H:Hp) (n:Nat):Prop:=
 match x with
 | .str y=>y.length<=sizeLine/\n=y.length
 | .kN y=>y.size<=sizeLine/\n=y.size
 | .ref p=>(∃xs,bF K H p xs/\n=xs.length)\/∃xs,c9 K H p xs/\n=xs.length
 |_=>False
theorem Hq:cR X (.builtin "len") (fun xs H Q=>∃x n,xs=[x]/\Nm X.K x H n/\Q (.int n) H) :=by
 intro pins s σ H xs us Q I r h;obtain⟨x,n,rfl,e,q⟩:=h;obtain⟨u,rfl,rx⟩:=vals1 r;have hl:=mO;have hs:sizeLine=16777216:=Pf;cases x with
 |str y=>
  obtain⟨t,rfl⟩:=rx;obtain⟨hy,e'⟩:y.length<=sizeLine/\n=y.length:=e;subst e';exact len_str (by omega) ⟨.int _,H,I.tok _,⟨_,rfl⟩,q⟩
 |kN y=>
  obtain⟨t,rfl⟩:=rx;obtain⟨hy,e'⟩:y.size<=sizeLine/\n=y.size:=e;subst e';exact PySem.W.len_bytes (by omega) ⟨.int _,H,I.tok _,⟨_,rfl⟩,q⟩
 |ref p=>
  cases rx;have e':(∃xs,bF X.K H p xs/\n=xs.length)\/∃xs,c9 X.K H p xs/\n=xs.length:=e;rcases e' with ⟨xs,hx,e'⟩|⟨xs,hx,e'⟩
  ·subst e';obtain⟨its,r',pl,hz⟩:=I.list hx;have hlen:=r'.length;exact Calls.call_len_list pl.isList (by simp only[lv];omega) ⟨.int xs.length,H,I.tok _,⟨_,by simp only[lv];rw[hlen]⟩,q⟩
  ·subst e';obtain⟨its,r',pl,hz⟩:=I.tuple hx;have hlen:=r'.length;exact len_tuple pl (by simp only[lv];omega) ⟨.int xs.length,H,I.tok _,⟨_,by simp only[lv];rw[hlen]⟩,q⟩
 |_=>exact(show False from e).elim
end
structure Hr (h:i8) (x dx C:ag) (mA:ci->Option al):Prop where
 obj:h.get? x=some (aaQ C dx)
 ns:h.Ns1 dx mA
 ne:dx≠x
theorem Er {h:i8}{dx:ag}{mA:ci->Option al}(n:h.Ns1 dx mA):∃od,h.get? dx=some od/\∀name,PySem.W.lookIn name od=some (mA name) :=by
 obtain⟨o,es,ep,ho,hd,hk,_,hm⟩:=n;refine⟨o,ho,fun name=>?_⟩
 have e:=hm name;unfold nsFind findBy at e;rw[<- Array.find?_toList]at e;unfold PySem.W.lookIn;rw[hd];dsimp only;split
 ·rename_i y q;rw[q]at e;exact congrArg some e
 ·rename_i q;rw[q]at e;have a:es.toList.any (·.refKey)=false :=by
   rw[List.any_eq_false];intro y hy;obtain⟨z,t,mG⟩:=hk y (ZN.mp hy);simp[DictEntry.refKey,mG]
  have a':¬ es.toList.any (·.refKey)=true :=by rw[a];exact gc
  rw[if_neg a'];exact congrArg some e
theorem Hr.look {h:i8}{x dx C:ag}{mA:ci->Option al}(I:Hr h x dx C mA):∃od,PySem.W.InstAt h x (aaQ C dx) C (some od)/\∀name,PySem.W.lookIn name od=some (mA name):=
 let ⟨od,ho,hl⟩:=Er I.ns
 ⟨od,⟨I.obj,rfl,rfl,ho⟩,hl⟩
theorem jg.some_of {v:V}{o:Option al}(r:jg (some v) o):∃u,o=some u/\RelV v u :=by
 cases o with
 |none=>exact(show False from r).elim
 |some u=>exact⟨u,rfl,r⟩
section
variable {P:jp}{w:lf}{H H':Hp}{h h':i8}{a C dx:ag}{fs Vv:List (ci×V)}
theorem KU (hok:cG P w H h) (e:H a=some (.ins C dx fs)):∃mA,Hr h a dx C mA/\(∀f,jg (fs.lookup f) (mA f))/\PySem.Within mA (fs.map (·.1))/\fs.length<=1000/\H dx=some (.own a) :=by
 obtain⟨d,z,ne,ob,mA,n,r,q⟩:=(show ObjOk P w H h a (.ins C dx fs) from hok a _ e);exact⟨mA,⟨ob,n,ne⟩,r,q,z,d⟩
end
structure Np (K:bv) (C:ag):Prop where
 pg:PySem.W.plainGet K C ci.empty=true
 hd:PySem.W.hasDictIn K C=true
 po:PySem.W.plainOver K C=true
 sa:PySem.W.findIn K (.ref C) "__setattr__" = some (some (.builtin "object.__setattr__"))
theorem Np.get {K:bv}{C:ag}(c:Np K C) (f:ci):PySem.W.plainGet K C f=true:=c.pg
section
variable {X:Cx}{pins:List (ag×l9)}{σ:St}{H:Hp}{s:ba}{A:sB}{E:al->ba->Prop}{Q:al->ba->Prop}{c:al}{b:Bool}
inductive iq (K:bv) (H:Hp):V->al->Prop where
 |ay:iq K H .ay (.type "NoneType")
 |bl (x:Bool):iq K H (.bl x) (.type "bool")
 |int (i:Int):iq K H (.int i) (.type "int")
 |str (x:ci):iq K H (.str x) (.type "str")
 |AD (x:UInt64):iq K H (.AD x) (.type "float")
 |lst {a:ag} {xs:List V} (e:H a=some (.lst xs)):iq K H (.ref a) (.type "list")
 |gN {a:ag} {o:l9} {xs:List V} (e:H a=some (.gN o (.lst xs))):iq K H (.ref a) (.type "list")
 |tup {a:ag} {xs:List V} (e:H a=some (.tup xs)):iq K H (.ref a) (.type "tuple")
 |dK {a:ag} {aj:List (Key×V)} (e:H a=some (.dK aj)):iq K H (.ref a) (.type "dict")
 |dT {a:ag} {aj:List (List Key×V)} (e:H a=some (.dT aj)):iq K H (.ref a) (.type "dict")
 |ins {a C dx:ag} {fs:List (ci×V)} (e:H a=some (.ins C dx fs)) (cl:Np K C) (ha:PySem.W.findIn K (.ref C) "__class__" = some (some (.builtin "object.__class__")))
   (hn:PySem.W.specialIn K (.builtin "object.__class__") "__get__" = some (some (.builtin "getset_descriptor.__get__"))) (SV:PySem.W.takesIn K (.builtin "object.__class__")=some true)
   (hm:PySem.W.mroIn K C (.type "object")=some true):iq K H (.ref a) (.ref C)
theorem Es {x:V}{u t:al}(I:Inv X pins σ H s) (rx:RelV x u) (ty:iq X.K H x t) (e:Z9 X.K t c=some b) (h:∀tk,Q (.bool b) {s with toks:=tk}) :
  c8 (model X.prog X.w) A (call (.builtin "isinstance") [u,c]) Q E s :=by
 cases ty with
 |ay=>cases (show u=AS from rx);exact Is PySem.W.kitx_none I.jH Pi e (fun z=>nomatch z) h
 |bl y=>cases (show u=ZJ y from rx);exact Is PySem.W.kitx_bool I.jH Pi e (fun z=>nomatch z) h
 |int i=>obtain⟨t,q⟩:=(show ∃t,u=aa5 i t from rx);cases q;exact Is PySem.W.kitx_int I.jH Pi e (fun z=>nomatch z) h
 |str y=>obtain⟨t,q⟩:=(show ∃t,u=aaP y t from rx);cases q;exact Is PySem.W.kitx_str I.jH Pi e (fun z=>nomatch z) h
 |AD y=>obtain⟨t,q⟩:=(show ∃t,u=al.float y t from rx);cases q;exact Is PySem.W.kitx_float I.jH Pi e (fun z=>nomatch z) h
 | @lst a xs ea=>
  cases (show u=ss a from rx);obtain⟨_,_,n,_,h1⟩:=(show ObjOk X.prog X.w H s.heap a (.lst xs) from I.hok a _ ea);exact Is PySem.W.kitx_list I.jH ⟨_,h1,rfl⟩ e (fun z=>nomatch z) h
 | @gN a ob xs ea=>
  cases (show u=ss a from rx);obtain⟨_,_,_,n,_,h1⟩:=(show ObjOk X.prog X.w H s.heap a (.gN ob (.lst xs)) from I.hok a _ ea);exact Is PySem.W.kitx_list I.jH ⟨_,h1,rfl⟩ e (fun z=>nomatch z) h
 | @tup a xs ea=>
  cases (show u=ss a from rx);obtain⟨_,_,_,p⟩:=(show ObjOk X.prog X.w H s.heap a (.tup xs) from I.hok a _ ea);obtain⟨o,h1,h2,_⟩:=p;exact Is PySem.W.kitx_tuple I.jH ⟨o,h1,h2⟩ e (fun z=>nomatch z) h
 | @dK a aj ea=>
  cases (show u=ss a from rx);obtain⟨_,_,vs,_,p⟩:=(show ObjOk X.prog X.w H s.heap a (.dK aj) from I.hok a _ ea);obtain⟨o,es,ep,h1,h2,_⟩:=p;exact Is PySem.W.kitx_dict I.jH ⟨o,h1,h2.1⟩ e (fun z=>nomatch z) h
 | @dT a aj ea=>
  cases (show u=ss a from rx);obtain⟨_,_,xs,_,o,es,ep,h1,h2,_⟩:=(show ObjOk X.prog X.w H s.heap a (.dT aj) from I.hok a _ ea);exact Is PySem.W.kitx_dict I.jH ⟨o,h1,h2.1⟩ e (fun z=>nomatch z) h
 | @ins a C dx fs ea cl ha hn SV hm=>
  cases (show u=ss a from rx);obtain⟨mA,O,_⟩:=KU I.hok ea;obtain⟨od,J,_⟩:=O.look;exact Is (PySem.W.kitx_own (cl.get _) cl.hd ha hn SV hm) I.jH J e (fun z=>nomatch z) h
end
structure bZ (k:Nat) (A:sB):Prop where
 hd:A.handled=none
 dp:A.depth+3 * k+5<recursionLimit
 un:A.units+16 * k+200<CS
theorem bZ.mono {j k:Nat}{A:sB}(r:bZ k A) (h:j<=k):bZ j A:=⟨r.hd,by have:=r.dp;omega,by have:=r.un;omega⟩
theorem bZ.deeper {k:Nat}{A:sB}(r:bZ (k+1) A) (env:ON):bZ k (A.deeper env):=
 ⟨r.hd,by have:=r.dp;show A.depth+1+3 * k+5<_;omega,by have:=r.un;show A.units+3+16 * k+200<_;omega⟩
theorem bZ.depth {k:Nat}{A:sB}(r:bZ k A):A.depth<recursionLimit :=by have:=r.dp;omega
theorem bZ.units {k:Nat}{A:sB}(r:bZ k A):A.units+64<CS :=by have:=r.un;omega
def UJ:TA:=fun _ H Q=>Q [] H
def RE (ta:TE) (tr:TA):TA:=fun σ H Q=>ta σ H fun x H1=>tr σ H1 fun xs H2=>Q (x::xs) H2
section
variable {X:Cx}{e:io}{es:List io}{te:TE}{t:TA}{pos:wv}
theorem Nq:PA X [] UJ:=⟨fun _ _ _ _ H Q I h=>Os ⟨[],H,I,.nil,h⟩⟩
theorem KW (ha:PE X e te) (hr:PA X es t) (hs:lw (e::es) X.env=(false,eval e X.env)::lw es X.env :=by rfl):PA X (e::es) (RE te t) :=by
 refine⟨?_⟩;intro pos pins s σ H Q I h;rw[hs];show c8 _ _ (spliced ((false,eval e X.env)::backTo pos (lw es X.env))) _ _ s;refine KM (thn (ha pins s σ H _ I h) fun u s1 ⟨x,H1,I1,r1,q1⟩=>?_)
 exact thn (hr pos pins s1 σ H1 _ I1 q1) fun us s2 ⟨xs,H2,I2,r2,q2⟩=>⟨x::xs,H2,I2,.cons r1 r2,q2⟩
def UK (t:TA):TE:=fun σ H Q=>t σ H fun xs H1=>xs.length<=sizeLine/\∀p,H1 p=none->Q (.ref p) (upd H1 p (.tup xs))
def UL (t:TA):TE:=fun σ H Q=>t σ H fun xs H1=>xs.length<=sizeLine/\∀p,H1 p=none->Q (.ref p) (upd H1 p (.lst xs))
theorem Nr {x1}(h:PA X es t):PE X (.Tuple es x1 pos) (UK t) :=by
 refine⟨?_⟩;intro pins s σ H Q I hq;refine wpAny_Tuple_spliced (thn (h pos pins s σ H _ I hq) fun us s1 ⟨xs,H1,I1,r,z,q⟩=>⟨by rw[<- r.length];exact z,?_⟩)
 have hf:H1 s1.heap.objs.size=none:=I1.hok.fresh (cb _);refine⟨.ref s1.heap.objs.size,upd H1 s1.heap.objs.size (.tup xs),I1.laid (t':=s1.toks) (fun b u e=>br _ e) (cb _) ?_,rfl,q _ hf⟩
 exact⟨z,us,r,⟨_,ij _ rfl,rfl,_,rfl,rfl⟩⟩
theorem Et (h:PA X es t):PE X (.List es pos) (UL t) :=by
 refine⟨?_⟩;intro pins s σ H Q I hq;refine wpAny_List_spliced (thn (h pos pins s σ H _ I hq) fun us s1 ⟨xs,H1,I1,r,z,q⟩=>⟨by rw[<- r.length];exact z,?_⟩)
 have hf:H1 s1.heap.objs.size=none:=I1.hok.fresh (cb _);refine⟨.ref s1.heap.objs.size,upd H1 s1.heap.objs.size (.lst xs),I1.laid (t':=s1.toks) (fun b u e=>br _ e) (cb _) ?_,rfl,q _ hf⟩
 exact⟨z,us,0,r,ij _ rfl⟩
end
abbrev Sp:=List V->Hp->VK->XK->Prop
abbrev mP:=List ON->Hp->ba->XK->al->ba->Prop
structure CA (P:jp) (w:lf) (K:bv) (mg:ci->Option al) (base:i8) (A:sB) (outer:List ON) (s:ba) (H:Hp):Prop where
 frames:A.frames=some outer
 mod:Mod K mg base
 bs:∀b o,base.get? b=some o->s.heap.get? b=some o/\H b=none
 bsz:base.objs.size<=s.heap.objs.size
 funs:s.heap.FunFrames base outer
 frf:∀b∈gO outer,H b=none
 hok:cG P w H s.heap
 bare:aaZ s.gens
def CE (outer:List ON) (P:jp) (w:lf) (H:Hp) (s:ba) (Q:VK) (u:al) (s':ba):Prop:=
 ∃v H',s'.os=s.os/\Gn s.gens.size s'.gens/\Un (gO outer) [] H H' s.heap s'.heap/\cG P w H' s'.heap/\RelV v u/\Q v H'
def CR (CX:mP) (outer:List ON) (P:jp) (w:lf) (H:Hp) (s:ba) (Q:VK) (E:XK) (r:Zl) (s':ba):Prop:=
 match r with
 | .ok (.ret u)=>CE outer P w H s Q u s'
 | .ok _=>False
 | .error e=>CX outer H s E e s'
structure FnOk (P:jp) (w:lf) (K:bv) (mg:ci->Option al) (base:i8) (CX:mP) (k:Nat) (f:ag) (fd:tz) (ps:List ci) (sp:Sp):Prop where
 len:∀vs H Q E,sp vs H Q E->vs.length=ps.length
 run:∀(A:sB) (outer:List ON) (s:ba) (H:Hp) (args:Args) (us:List al) (vs:List V) (Q:VK) (E:XK),bZ k A->CA P w K mg base A outer s H->aaF s fd args (ps.zip us)->Vals vs us->sp vs H Q E->
  OE (model P w) A (.call (.ref f) args) (CR CX outer P w H s Q E) s
theorem FnOk.imp {P:jp}{w:lf}{K:bv}{mg:ci->Option al}{base:i8}{CX:mP}{k:Nat}{f:ag}{fd:tz}{ps:List ci}{sp SW:Sp}(F:FnOk P w K mg base CX k f fd ps sp)
  (h:∀vs H Q E,SW vs H Q E->sp vs H Q E):FnOk P w K mg base CX k f fd ps SW:=
 ⟨fun vs H Q E q=>F.len vs H Q E (h _ _ _ _ q),fun A outer s H args us vs Q E hr he hb hv hs=>F.run A outer s H args us vs Q E hr he hb hv (h _ _ _ _ hs)⟩
section
variable {X:Cx}{pins:List (ag×l9)}{σ:St}{H:Hp}{s s':ba}
theorem Inv.UM (I:Inv X pins σ H s):CA X.prog X.w X.K X.mg X.base X.A X.stack s H:=
 ⟨I.ok.frames,I.ok.mod,I.bs,wb I.ok.bsz I.sz,I.stack,I.qb,I.hok,I.bare.1⟩
theorem Inv.after {Q:VK}{u:al}(I:Inv X pins σ H s) (h:CE X.stack X.prog X.w H s Q u s'):EP X pins σ Q u s':=by
 obtain⟨v,H',os,bare,un,hok,r,q⟩:=h;obtain⟨hh,g,d,t,SX⟩:=s';obtain rfl:SX=s.os:=os;exact⟨v,H',I.call (h':=hh) (g':=g) (d':=d) (t':=t) (ch:=[]) un hok bare (fun b z=>absurd z (by simp)),r,q⟩
end
def JD (sp:Sp) (u3:List V) (E:XK) (t:TA):TE:=fun σ H Q=>t σ H fun vs H1=>sp (vs++u3) H1 Q E
def Binds (K:bv) (fd:tz) (ps:List ci) (ds:List al):Prop:=
 ∀(s:ba) (us:List al),K.In s.heap->(us++ds).length=ps.length->aaF s fd ⟨us,[]⟩ (ps.zip (us++ds))
theorem Binds.all {K:bv}{fd:tz}{ps:List ci}(h:∀us:List al,us.length=ps.length->bindArgs fd ⟨us,[]⟩=pure (ps.zip us)):Binds K fd ps []:=fun s us _ hl=>by
 rw[Ix]at hl ⊢;exact .of_eq (h us hl)
def Passes (CX:mP) (X:Cx) (E:XK):Prop:=∀(pins:List (ag×l9)) (σ:St) (H:Hp) (s:ba) (e:al) (s':ba),Inv X pins σ H s->CX X.stack H s E e s'->X.xe e s'
section
variable {X:Cx}{CX:mP}{k:Nat}{f C:ag}{fd:tz}{ps:List ci}{sp:Sp}{u3:List V}{ds:List al}{E:XK}{x m:ci}{p pos apos:wv}{e o:io}{es:List io}{ta:TE}{t:TA}
theorem Nt {pins:List (ag×l9)}{σ:St}{H:Hp}{s:ba}{Q:VK}{us:List al}{vs:List V}(F:FnOk X.prog X.w X.K X.mg X.base CX k f fd ps sp) (hr:bZ k X.A) (hb:Binds X.K fd ps ds) (hd:Vals u3 ds) (hx:Passes CX X E)
  (I:Inv X pins σ H s) (r:Vals vs us) (h:sp (vs++u3) H Q E):c8 (model X.prog X.w) X.A (call (.ref f) us) (EP X pins σ Q) X.xe s :=by
 have r2:Vals (vs++u3) (us++ds):=r.append hd;have hl:(us++ds).length=ps.length :=by rw[<- r2.length];exact F.len _ _ _ _ h
 refine wpAny_call (codeAny_mono (F.run X.A X.stack s H ⟨us,[]⟩ (us++ds) (vs++u3) Q E hr I.UM (hb s us I.jH hl) r2 h) fun r s' hq=>?_)
 cases r with
 |error e=>exact hx pins σ H s e s' I hq
 |ok fl=>
  cases fl with
  |ret u=>exact I.after hq
  |next=>exact Pe hq
  |brk=>exact Pe hq
  |cont=>exact Pe hq
theorem KY (F:FnOk X.prog X.w X.K X.mg X.base CX k f fd ps sp) (hr:bZ k X.A) (hg:Gl X x) (hm:X.mg x=some (.ref f)) (hk:Uf X.K (.ref f)=true) (hb:Binds X.K fd ps ds) (hd:Vals u3 ds) (hx:Passes CX X E)
  (ha:PA X (e::es) t) (kT:(x==("__debug__" : ci))=false :=by decide) (he:lw (e::es) X.env=(false,eval e X.env)::lw es X.env :=by rfl) (dA:(backTo pos (lw es X.env)).any (·.1)=false :=by rfl) :
  PE X (.Call (.Name x p) (e::es) [] pos) (JD sp u3 E t) :=by
 refine⟨?_⟩;intro pins s σ H Q I h;refine Ll (ub I hg hm ?_ kT);refine PySem.W.callWith_K (h₀:=X.base) I.ok.mod.kin hk (thn (ha pos pins s σ H _ I h) fun us s1 ⟨vs,H1,I1,r,q⟩=>⟨I1.jH,?_⟩) he dA
 exact Nt F hr hb hd hx I1 r q
end
structure aP (N P:List ci) (sc:wT):Prop where
 kind:sc.kind=.function
 co:sc.isCoroutine=false
 gen:sc.isGenerator=false
 nd:N.Nodup
 pre:N.take P.length=P
 par:∀x∈P,sc.names.lookup x=some .local\/sc.names.lookup x=some .cell
 nofree:∀y∈sc.names,y.2≠.free
theorem u5 {kindOf:ci->Option UV}{x:ci}:∀{binds:List (ci×al)}{m:ci->Option al},(∀v,(x,v) ∉ binds)->bindL kindOf binds m x=m x
 | [],_,_=>rfl
 |(n,v)::r,m,h=>by
          unfold bindL;rw[u5 fun w hw=>h w (db _ hw)]
          split
          ·have:x≠n :=by rintro rfl;exact h v ii
           simp[this]
          ·rfl
theorem u6 {kindOf:ci->Option UV}{x:ci}:∀{binds:List (ci×al)}{m:ci->Option al},(∀v,(x,v) ∉ binds)->bindC kindOf binds m x=m x
 | [],_,_=>rfl
 |(n,v)::r,m,h=>by
          unfold bindC;rw[u6 fun w hw=>h w (db _ hw)]
          split
          ·rfl
          ·have:x≠n :=by rintro rfl;exact h v ii
           simp[this]
theorem u9 {kindOf:ci->Option UV}{x:ci}{v:al}:∀{P:List ci}{vs:List al}{i:Nat}{m:ci->Option al},P.Nodup->P[i]?=some x->vs[i]?=some v->kindOf x=some .local->
  bindL kindOf (P.zip vs) m x=some v
 | [],_,_,_,_,h,_,_=>by simp at h
 |_::_,[],_,_,_,_,h,_=>by simp at h
 |p::P,w::vs,0,m,nd,h1,h2,hk=>by
          simp at h1 h2;subst h1;subst h2;show bindL kindOf ((p,w)::P.zip vs) m p=_;unfold bindL;rw[u5 fun v hv=>(NG.mp nd).1 (ZO hv).1,if_pos hk]
          simp
 |p::P,w::vs,i+1,m,nd,h1,h2,hk=>by
          show bindL kindOf ((p,w)::P.zip vs) m x=_;unfold bindL;exact u9 (i:=i) (NG.mp nd).2 (by simpa using h1) (by simpa using h2) hk
theorem va {kindOf:ci->Option UV}{x:ci}{v:al}:∀{P:List ci}{vs:List al}{i:Nat}{m:ci->Option al},P.Nodup->P[i]?=some x->vs[i]?=some v->kindOf x≠some .local->
  bindC kindOf (P.zip vs) m x=some v
 | [],_,_,_,_,h,_,_=>by simp at h
 |_::_,[],_,_,_,_,h,_=>by simp at h
 |p::P,w::vs,0,m,nd,h1,h2,hk=>by
          simp at h1 h2;subst h1;subst h2;show bindC kindOf ((p,w)::P.zip vs) m p=_;unfold bindC;rw[u6 fun v hv=>(NG.mp nd).1 (ZO hv).1,if_neg hk]
          simp
 |p::P,w::vs,i+1,m,nd,h1,h2,hk=>by
          show bindC kindOf ((p,w)::P.zip vs) m x=_;unfold bindC;exact va (i:=i) (NG.mp nd).2 (by simpa using h1) (by simpa using h2) hk
def start (N:List ci) (vs:List V):St:=vs.map some++mT (N.length - vs.length) none
def ir (CX:mP) (P:jp) (w:lf) (K:bv) (mg:ci->Option al) (base:i8) (N:List ci) (qual:ci) (scope:wT) (f:ag) (cd:al) (A:sB) (outer:List ON) (s:ba) (H:Hp) (E:XK):Cx where
 prog:=P
 w:=w
 K:=K
 mg:=mg
 base:=base
 A:=A.deeper (envOfC qual scope s.heap.objs.size f cd)
 N:=N
 s₀:=s
 H₀:=H
 env:=envOfC qual scope s.heap.objs.size f cd
 outer:=outer
 stack:=envOfC qual scope s.heap.objs.size f cd::outer
 ex:=[]
 calm:=true
 fn:=fun _=>true
 pn:=[]
 xe:=fun e s'=>c8 (model P w) (A.deeper (envOfC qual scope s.heap.objs.size f cd)) (leaving (envOfC qual scope s.heap.objs.size f cd) e) (fun _ aX=>CX outer H s E e aX) (fun e' aX=>CX outer H s E e' aX) s'
theorem wV {sc:wT}{n:Nat}{x:ci}(h:sc.names.lookup x=some .cell):∃c,(cellsFrom n sc.names []).lookup x=some c :=by
 have q:=PySem.W.cellsFrom_some sc.names n [] (.inl h);exact Option.isSome_iff_exists.mp q
theorem Eu {CX:mP}{P:jp}{w:lf}{K:bv}{mg:ci->Option al}{base:i8}{N ps:List ci}{qual:ci}{scope:wT}{f:ag}{cd:al}{A:sB}{outer:List ON}{s s1:ba}{H:Hp}{E:XK}{us:List al}{vs:List V}
  (S:aP N ps scope) (hd:A.handled=none) (e0:CA P w K mg base A outer s H) (hl:vs.length=ps.length) (r:Vals vs us)
  (x:InCallC s s.heap.objs.size (bindL (envOfC qual scope s.heap.objs.size f cd).kindOf (ps.zip us) fun _=>none) (cellsFrom (s.heap.objs.size+1) scope.names []) (bindC (envOfC qual scope s.heap.objs.size f cd).kindOf (ps.zip us) fun _=>none) s1) :
  Inv (ir CX P w K mg base N qual scope f cd A outer s H E) [] (start N vs) H s1 :=by
 have dA:ps.length<=N.length :=by have:=congrArg aaX S.pre;rw[aaH]at this;omega
 obtain⟨h1,tk,rfl,hk⟩:=x.done;have Nu:∀b:ag,b ∉ (ir CX P w K mg base N qual scope f cd A outer s H E).ex:=fun b z=>absurd (show b∈([]:List ag) from z) (by simp)
 refine⟨⟨e0.mod,S.kind,rfl,rfl,cb _,fun y z c h1 h2=>?_,fun y hy=>?_,fun y c _ h=>?_,fun _=>hd,sB.frames_deeper e0.frames,.inr ⟨rfl,rfl⟩,fun b z=>absurd z (Nu b),e0.bs,e0.bsz,fun b _ _=>Nu b,fun b z=>absurd z (Nu b),e0.funs,e0.frf⟩,
  rfl,⟨e0.bare,cb _⟩,Un.kept hk,⟨_,x.toInCall.ns,fun i y v h1 h2 h3=>?_⟩,fun y c h=>⟨_,x.cell y c h⟩,e0.hok.fresh (cb _),fun y c h=>?_,fun p hp=>absurd (show p∈([]:List (ag×l9)) from hp) (by simp),e0.hok.kept hk,?_⟩
 ·exact name_of_addr x.apart (u4 h1) (u4 h2)
 ·have hy:scope.names.lookup y=some .cell\/scope.names.lookup y=some .free:=hy;rcases hy with hy|hy
  ·exact wV hy
  ·exact absurd rfl (S.nofree _ (u4 hy))
 ·exact Pv (x.above y c (u4 h))
 ·have hi:i<vs.length :=by
   unfold start at h2;by_cases hi:i<vs.length
   ·exact hi
   ·rw[Cs (by simpa using hi)]at h2
    rw[OL]at h2;split at h2<;>cases h2
  have ha:vs[i]?=some v :=by
   unfold start at h2;rw[wp (by simpa using hi),dL]at h2
   cases e:vs[i]? with
   |none=>rw[e]at h2;cases h2
   |some a=>rw[e]at h2;cases h2;rfl
  obtain⟨u,hu,rv⟩:=r.get ha;have hp:ps[i]?=some y :=by
   rw[<- S.pre,List.getElem?_take_of_lt (by omega)];exact h1
  have SY:ps.Nodup :=by rw[<- S.pre];exact S.nd.sublist (List.take_sublist _ _)
  refine⟨u,rv,?_⟩;rcases S.par y (ff hp) with k|k
  ·exact .inl ⟨k,u9 SY hp hu k⟩
  ·obtain⟨c,e⟩:=wV (n:=s.heap.objs.size+1) k;refine .inr ⟨.inl k,c,e,?_⟩;have q:=x.cell y c e;rw[va SY hp hu (by show scope.names.lookup y≠_;rw[k];decide)]at q
   exact q
 ·exact e0.hok.fresh (Pv (x.above y c (u4 h)))
 ·unfold start;show _=N.length;rw[r6,bn,Sm];omega
theorem JE {CX:mP}{P:jp}{w:lf}{K:bv}{mg:ci->Option al}{base:i8}{k:Nat}{f:ag}{name qual:ci}{params:Arguments}{body:List wE}{scope:wT}{dV kV doc pm eG ct oc:al}{an od:Option ag}
  {oB:Array (Option al)} {N ps:List ci} {sp:Sp} (lk:K.lookup f=some ⟨oc,od,.func (KF name qual params body scope dV kV doc pm an eG ct),oB⟩) (iN:Yz K eG qual=true) (S:aP N ps scope)
  (len:∀vs H Q E,sp vs H Q E->vs.length=ps.length)
  (sv:∀(A:sB) (outer:List ON) (s:ba) (H:Hp) (vs:List V) (Q:VK) (E:XK),bZ k (A.deeper (envOfC qual scope s.heap.objs.size f eG))->sp vs H Q E->
   ∃t,iG (ir CX P w K mg base N qual scope f eG A outer s H E) body t/\t {nx:=fun _ H'=>Q .ay H',rt:=Q} (start N vs) H) :
  FnOk P w K mg base CX (k+1) f (KF name qual params body scope dV kV doc pm an eG ct) ps sp :=by
 refine⟨len,fun A outer s H args us vs Q E hr e0 hb r mQ=>?_⟩
 have hl:=len _ _ _ _ mQ;have KX:K.In s.heap:=e0.mod.kin.keeps fun b o e=>(e0.bs b o e).1
 have lim:s.heap.NoLimit:=e0.mod.nolimit.keeps fun b o e=>(e0.bs b o e).1
 have qf:∀y∈ps.zip us,scope.names.lookup y.1=some .local\/(scope.names.lookup y.1=some .cell/\((cellsFrom (s.heap.objs.size+1) scope.names []).lookup y.1).isSome=true):=fun⟨n,v⟩ hy=>by
  rcases S.par n (ZO hy).1 with q|q
  ·exact .inl q
  ·exact .inr ⟨q,PySem.W.cellsFrom_some _ _ _ (.inl q)⟩
 refine codeAny_call_function hr.depth (KX _ _ lk) rfl S.co S.gen rfl (PySem.W.codeRec_of KX iN) (hb _ _ _ _ ?_);refine wpAny_newFunctionEnv_cells S.kind qf fun env he s1 x=>?_
 subst he;refine⟨lim.keeps x.toInCall.keep,codeAny_func ?_⟩;obtain⟨t,ht,hq⟩:=sv A outer s H vs Q E (hr.deeper _) mQ;have I:Inv (ir CX P w K mg base N qual scope f eG A outer s H E) [] (start N vs) H s1:=Eu S hr.hd e0 hl r x;refine on (ht [] s1 (start N vs) H _ I hq) (fun fl s' hs=>?_) fun e s' hs=>hs
 have fin:∀{aO:St} {H':Hp} {v:V} {u:al},Inv (ir CX P w K mg base N qual scope f eG A outer s H E) [] aO H' s'->RelV v u->Q v H'->CE outer P w H s Q u s':=
  fun {aO H' v u} J rv q=>⟨v,H',J.os,J.bare,J.base,J.hok,rv,q⟩
 cases fl with
 |ret u=>
  obtain⟨v,aO,H',J,rv,q⟩:=hs;exact fin J rv q
 |next=>
  obtain⟨aO,H',J,q⟩:=hs;exact fin (v:=V.ay) (u:=AS) J rfl q
 |brk=>
  obtain⟨_,_,_,q⟩:=hs;exact Pe q
 |cont=>
  obtain⟨_,_,_,q⟩:=hs;exact Pe q
section
variable {X:Cx}{x:ci}{p pos:wv}{e:io}{es:List io}{t:TA}{id T:String}{r:List V->Hp->VK->Prop}
def Nv (r:List V->Hp->VK->Prop) (t:TA):TE:=fun σ H Q=>t σ H fun vs H1=>r vs H1 Q
theorem Hs (hc:cR X (.builtin id) r) (hg:Gl X x) (hm:X.mg x=none) (hv:zd x=some (.builtin id)) (ha:PA X (e::es) t) (hn:x ≠ "__name__" := by decide) (kT:(x==("__debug__" : ci))=false :=by decide)
  (he:lw (e::es) X.env=(false,eval e X.env)::lw es X.env :=by rfl) (dA:(backTo pos (lw es X.env)).any (·.1)=false :=by rfl):PE X (.Call (.Name x p) (e::es) [] pos) (Nv r t) :=by
 refine⟨?_⟩;intro pins s σ H Q I h;refine Ll (fY I hg hm hv ?_ hn kT);exact NH (thn (ha pos pins s σ H _ I h) fun us s1 ⟨vs,H1,I1,r1,q1⟩=>hc pins s1 σ H1 vs us Q I1 r1 q1) he dA
theorem Ew (hc:cR X (.type T) r) (hg:Gl X x) (hm:X.mg x=none) (hv:zd x=some (.type T)) (ha:PA X (e::es) t) (hn:x ≠ "__name__" := by decide) (kT:(x==("__debug__" : ci))=false :=by decide)
  (he:lw (e::es) X.env=(false,eval e X.env)::lw es X.env :=by rfl) (dA:(backTo pos (lw es X.env)).any (·.1)=false :=by rfl):PE X (.Call (.Name x p) (e::es) [] pos) (Nv r t) :=by
 refine⟨?_⟩;intro pins s σ H Q I h;refine Ll (fY I hg hm hv ?_ hn kT);exact IF (thn (ha pos pins s σ H _ I h) fun us s1 ⟨vs,H1,I1,r1,q1⟩=>hc pins s1 σ H1 vs us Q I1 r1 q1) he dA
end
end L2
namespace HT
open PySem PyProof.Rows
def lexLt:List Int->List Int->Bool
 | [],[]=>false
 | [],_::_=>true
 |_::_,[]=>false
 |x::xs,y::ys=>if x=y then lexLt xs ys else decide (x<y)
theorem kc (x y:Int) (xs ys:List Int):lexLt (x::xs) (y::ys)=if x=y then lexLt xs ys else decide (x<y):=rfl
section
variable {prog:jp}{w:lf}{A:sB}{E:al->ba->Prop}{s:ba}
def kU (n d:Nat):Option Int->Nat
 |none=>d
 |some v=>if v<0 then (v+(n:Int)).toNat else min v.toNat n
end
end HT
namespace L2
open PySem PySem.Spec PyProof.Rows
abbrev TO:=St->Hp->(Option Int->Hp->Prop)->Prop
def PO (X:Cx) (e:Option io) (t:TO):Prop:=
 ∀(pins:List (ag×l9)) (s:ba) (σ:St) (H:Hp) (Q:Option Int->Hp->Prop),Inv X pins σ H s->t σ H Q->
  c8 (model X.prog X.w) X.A (evalPart e X.env) (fun u s'=>∃o H',Inv X pins σ H' s'/\IsPart u o/\Q o H') X.xe s
def KZ:TO:=fun _ H Q=>Q none H
def JF (t:TE):TO:=fun σ H Q=>t σ H fun x H1=>∃i,x=.int i/\Q (some i) H1
section
variable {X:Cx}{e:io}{te:TE}{lo hi:Option io}{tl th:TO}{pos p2:wv}
theorem ue:PO X none KZ :=by
 intro pins s σ H Q I h;rw[evalPart_none];exact bi ⟨none,H,I,.none,h⟩
theorem AO (h:PE X e te):PO X (some e) (JF te) :=by
 intro pins s σ H Q I hw;rw[evalPart_some];refine thn (h pins s σ H _ I hw) fun u s1 ⟨x,H1,I1,r1,q1⟩=>?_
 obtain⟨i,rfl,q⟩:=q1;obtain⟨t,rfl⟩:=r1;exact⟨some i,H1,I1,.int i t,q⟩
def JG (X:Cx) (r:V->Option Int->Option Int->Hp->VK->Prop):Prop:=
 ∀(pins:List (ag×l9)) (s:ba) (σ:St) (H:Hp) (x:V) (v vl vu:al) (lo hi:Option Int) (sl:ag) (Q:VK),Inv X pins σ H s->RelV x v->s.heap.IsSliceOf sl vl vu .none->IsPart vl lo->IsPart vu hi->r x lo hi H Q->
  ∃T id,typeLookup (.type T) "__getitem__" = pure (some (.builtin id))/\s.TypeIs v T/\c8 (model X.prog X.w) X.A (getItem v (.ref sl)) (EP X pins σ Q) X.xe s
def VF (r:V->Option Int->Option Int->Hp->VK->Prop) (te:TE) (tl th:TO):TE:=fun σ H Q=>te σ H fun x H1=>tl σ H1 fun l H2=>th σ H2 fun u H3=>r x l u H3 Q
theorem Ht {r:V->Option Int->Option Int->Hp->VK->Prop}(hr:JG X r) (he:PE X e te) (hl:PO X lo tl) (hu:PO X hi th):PE X (.Subscript e (.Slice lo hi none p2) pos) (VF r te tl th) :=by
 refine⟨?_⟩;intro pins s σ H Q I h;refine aa2 (thn (he pins s σ H _ I h) fun v s1 ⟨x,H1,I1,r1,q1⟩=>?_)
 refine wpAny_Slice (thn (hl pins s1 σ H1 _ I1 q1) fun vl s2 ⟨l,H2,I2,pl,q2⟩=>thn (hu pins s2 σ H2 _ I2 q2) fun vu s3 ⟨u,H3,I3,pu,q3⟩=>?_)
 rw[evalPart_none];refine bi ?_;have I4:Inv X pins σ H3 {s3 with heap:=s3.heap.push {cls:=.type "slice",data:=.fields #[vl,vu,.none]}}:=I3.kept (t':=s3.toks) fun b ob q=>br _ q
 obtain⟨T,id,hT,ht,hg⟩:=hr pins {s3 with heap:=s3.heap.push {cls:=.type "slice",data:=.fields #[vl,vu,.none]}} σ H3 x v vl vu l u s3.heap.objs.size Q I4 r1 (i8.IsSliceOf.new ..) pl pu q3
 show c8 (model X.prog X.w) X.A (subscriptTail e (.Slice lo hi none p2) v (.ref s3.heap.objs.size)) (EP X pins σ Q) X.xe {s3 with heap:=s3.heap.push {cls:=.type "slice",data:=.fields #[vl,vu,.none]}}
 exact tail_any (ops:=[.ref s3.heap.objs.size,v]) ht hT hg (by with_unfolding_all rfl)
def CB (xs:List V) (lo hi:Option Int):List V:=(xs.drop (HT.kU xs.length 0 lo)).take (HT.kU xs.length xs.length hi - HT.kU xs.length 0 lo)
theorem zJ (xs:List V) (lo hi:Option Int):(CB xs lo hi).length<=xs.length :=by
 unfold CB;rw[aaH,List.length_drop];omega
end
def dH (n:Nat) (i:Int):Option Nat:=if 0<=i then (if i<n then some i.toNat else none) else if -(n:Int)<=i then some (i+n).toNat else none
def bj {α:Type}(xs:List α) (i:Int):Option α:=(dH xs.length i).bind fun j=>xs[j]?
theorem uf {n:Nat}{i:Int}{j:Nat}(h:dH n i=some j):seqIndex? i n=some j/\j<n /\ -(n:Int)<=i/\i<n :=by
 unfold dH at h;by_cases h0:0<=i
 ·rw[if_pos h0]at h;by_cases h1:i<n
  ·rw[if_pos h1]at h;have e:i.toNat=j:=lm h;exact⟨by rw[seqIndex_of h0 h1,e],by omega,by omega,h1⟩
  ·rw[if_neg h1]at h;cases h
 ·rw[if_neg h0]at h;by_cases h1 : -(n:Int)<=i
  ·rw[if_pos h1]at h;have e:(i+n).toNat=j:=lm h;exact⟨by rw[seqIndex_neg (by omega) h1,e],by omega,h1,by omega⟩
  ·rw[if_neg h1]at h;cases h
theorem ug {α:Type}{xs:List α}{i:Int}{v:α}(h:bj xs i=some v):∃j,seqIndex? i xs.length=some j/\xs[j]?=some v/\j<xs.length /\ -(xs.length:Int)<=i/\i<xs.length :=by
 unfold bj at h;cases e:dH xs.length i with
 |none=>rw[e]at h;cases h
 |some j=>
  rw[e]at h;obtain⟨h1,h2,h3,h4⟩:=uf e;exact⟨j,h1,h,h2,h3,h4⟩
theorem bS {α:Type}{xs:List α}{j:Nat}{v:α}(h:xs[j]?=some v):bj xs (j:Int)=some v :=by
 have hj:j<xs.length:=(ca.mp h).1;have e:dH xs.length (j:Int)=some j :=by
  unfold dH;rw[if_pos (by omega),if_pos (by omega)];simp
 unfold bj;rw[e];exact h
theorem wW {α:Type}(xs:List α) (v:α):bj (xs++[v]) (-1)=some v :=by
 have hl:(xs++[v]).length=xs.length+1 :=by simp
 have e:dH (xs++[v]).length (-1)=some xs.length :=by
  unfold dH;rw[hl,if_neg (by decide),if_pos (by omega)]
  congr 1
  omega
 unfold bj;rw[e];show (xs++[v])[xs.length]?=some v;simp
def AQ (b:io):Prop:=∀o i,subscripted b false o i=operate [o,i] (getItem o i)
def oC (X:Cx) (r:R2):Prop:=
 ∀(value slice:io) (pins:List (ag×l9)) (s:ba) (σ:St) (H:Hp) (x y:V) (v u:al) (Q:VK),Inv X pins σ H s->RelV x v->RelV y u->r x y H Q->
  subscripted slice false v u=operate [v,u] (getItem v u)->c8 (model X.prog X.w) X.A (subscriptTail value slice v u) (EP X pins σ Q) X.xe s
def AR (X:Cx) (id:String) (r:V->List V->Hp->VK->Prop):Prop:=
 ∀(pins:List (ag×l9)) (s:ba) (σ:St) (H:Hp) (x:V) (xs:List V) (v:al) (us:List al) (Q:VK),Inv X pins σ H s->RelV x v->Vals xs us->r x xs H Q->
  c8 (model X.prog X.w) X.A (call (.builtin id) (v::us)) (EP X pins σ Q) X.xe s
section
variable {X:Cx}{a b:io}{ta tb:TE}{pos:wv}
theorem oC.or {r r':R2}(h:oC X r) (h':oC X r'):oC X (fun x y H Q=>r x y H Q\/r' x y H Q) :=by
 intro value slice pins s σ H x y v u Q I rx ry q hs;rcases q with q|q
 ·exact h value slice pins s σ H x y v u Q I rx ry q hs
 ·exact h' value slice pins s σ H x y v u Q I rx ry q hs
theorem RG {r:R2}(hr:oC X r) (ha:PE X a ta) (hb:PE X b tb) (hs:AQ b):PE X (.Subscript a b pos) (Em r ta tb) :=by
 refine⟨?_⟩;intro pins s σ H Q I h;exact aa2 (Hj ha hb I h fun v u s2 x y H2 I2 rx ry q=>hr a b pins s2 σ H2 x y v u Q I2 rx ry q (hs _ _))
def Nw (K:bv):R2:=fun x y H Q=>∃p xs i v,x=.ref p/\y=.int i/\bF K H p xs/\bj xs i=some v/\Q v H
def Nx (K:bv):R2:=fun x y H Q=>∃p xs i v,x=.ref p/\y=.int i/\c9 K H p xs/\bj xs i=some v/\Q v H
def Ny:R2:=fun x y H Q=>∃z i c,x=.str z/\y=.int i/\z.length<=sizeLine/\bj z.cps.toList i=some c/\Q (.str ⟨#[c]⟩) H
theorem K0:oC X (Nw X.K) :=by
 intro value slice pins s σ H x y v u Q I rx ry h hs;obtain⟨p,xs,i,z,rfl,rfl,hq,he,q⟩:=h;cases rx;obtain⟨t,rfl⟩:=ry;obtain⟨its,r,pl,hz⟩:=I.list hq;obtain⟨j,h1,h2,h3,h4,h5⟩:=ug he;obtain⟨w,ew,f7⟩:=r.get h2;have hl:=r.length;have hn:=mO;have fin:EP X pins σ Q w s:=⟨z,H,I,f7,q⟩;by_cases h0:0<=i
 ·have hj:i.toNat=j :=by
   rw[seqIndex_of h0 h5]at h1;exact lm h1
  exact item_listR pl.isList h0 (by omega) (by rw[hj];simpa using ew) fin hs
 ·have hj:(i+(its.toArray.size:Int)).toNat=j :=by
   rw[seqIndex_neg (by omega) h4]at h1
   rw[lv,<- hl];exact lm h1
  exact subscriptTail_builtinR (x:=w) pl.isList.typeIs aax.lookup
   (wpAny_getItem_list_neg (Q:=fun r s'=>r=w/\EP X pins σ Q r s') pl.isList (by omega) (by rw[lv]<;>omega) (by omega) (by rw[hj];simpa using ew) ⟨rfl,fin⟩) hs
theorem Nz:oC X (Nx X.K) :=by
 intro value slice pins s σ H x y v u Q I rx ry h hs;obtain⟨p,xs,i,z,rfl,rfl,hq,he,q⟩:=h;cases rx;obtain⟨t,rfl⟩:=ry;obtain⟨its,r,pl,hz⟩:=I.tuple hq;obtain⟨j,h1,h2,h3,h4,h5⟩:=ug he;obtain⟨w,ew,f7⟩:=r.get h2;have hl:=r.length;have hn:=mO;have fin:EP X pins σ Q w s:=⟨z,H,I,f7,q⟩;exact subscriptTail_builtinR (x:=w) pl.typeIs slot_tuple_getitem.lookup
  (getItem_tuple (j:=j) (Q:=fun r s'=>r=w/\EP X pins σ Q r s') pl (by omega) (by omega) (by rw[lv,<- hl];exact h1) (by simpa using ew) ⟨rfl,fin⟩) hs
theorem NA:oC X Ny :=by
 intro value slice pins s σ H x y v u Q I rx ry h hs;obtain⟨z,i,c,rfl,rfl,hz,he,q⟩:=h;obtain⟨t,rfl⟩:=rx;obtain⟨t',rfl⟩:=ry;obtain⟨j,h1,h2,h3,h4,h5⟩:=ug he;have hl:z.cps.toList.length=z.length :=by simp[ci.length]
 rw[hl]at h1 h4 h5;have hn:=mO;exact tail_any (typeIs_str s z t) slot_str_getitem.lookup (getItem_str (c:=c) (by
  have e1:decide (i < -(2 ^ 63:Int))=false:=decide_eq_false (by omega)
  have e2:decide (i ≥ 2 ^ 63)=false:=decide_eq_false (by omega)
  rw[e1,e2,Bool.or_false]) (by rw[h1];simpa using h2) ⟨.str ⟨#[c]⟩,H,I.tok _,⟨_,rfl⟩,q⟩) hs
def S0 (K:bv):R2:=fun x y H Q=>Nw K x y H Q\/Nx K x y H Q\/Ny x y H Q
theorem NB:oC X (S0 X.K):=K0.or (Nz.or NA)
theorem CC (its:List al) (n j:Nat) (u:al):Da (·.setIfInBounds j u) {cls:=.type "list",data:=.seq its.toArray n}={cls:=.type "list",data:=.seq (its.set j u).toArray n}:=by
 simp[Da]
theorem Inv.lst {pins:List (ag×l9)}{σ:St}{H:Hp}{s:ba}{p:ag}{xs:List V}(I:Inv X pins σ H s) (h:H p=some (.lst xs)) :
  ∃(its:List al) (n:Nat),Vals xs its/\s.heap.get? p=some {cls:=.type "list",data:=.seq its.toArray n}/\xs.length<=sizeLine :=by
 obtain⟨z,its,n,r,e⟩:=I.hok p _ h;exact⟨its,n,r,e,z⟩
theorem Inv.NC {pins:List (ag×l9)}{σ:St}{H:Hp}{s:ba}{p:ag}{xs ys:List V}{its its':List al}{n n':Nat}{f:l9->l9}(I:Inv X pins σ H s) (h:H p=some (.lst xs))
  (ho:s.heap.get? p=some {cls:=.type "list",data:=.seq its.toArray n}) (hf:f {cls:=.type "list",data:=.seq its.toArray n}={cls:=.type "list",data:=.seq its'.toArray n'}) (r:Vals ys its') (hz:ys.length<=sizeLine) (t:Nat) :
  Inv X pins σ (upd H p (.lst ys)) {s with heap:=s.heap.update p f,toks:=t}:=by
 have e:(s.heap.update p f).get? p=some {cls:=.type "list",data:=.seq its'.toArray n'}:=by
  rw[ww f ho (by rw[hf]<;>rfl),hf]
 refine I.write (x:=p) (e:=p) (by rw[h];trivial) (.inl rfl) (fun b u hb q=>(AM _ _ (Ch hb)).trans q) ⟨_,e⟩ ?_
 exact⟨hz,its',n',r,e⟩
def RH:V->V->V->Hp->(Hp->Prop)->Prop:=fun o i v H Q=>∃p xs k j,o=.ref p/\i=.int k/\H p=some (.lst xs)/\dH xs.length k=some j/\Q (upd H p (.lst (xs.set j v)))
theorem set_list:MR X RH :=by
 intro pins s σ H o i v ov iv u Q I ro ri rv h;obtain⟨p,xs,k,j,rfl,rfl,hp,hj,q⟩:=h;cases ro;obtain⟨t,rfl⟩:=ri;obtain⟨its,n,r,ho,hz⟩:=I.lst hp;obtain⟨h1,h2,h3,h4⟩:=uf hj;have hl:=r.length;have hn:=mO;have I':Inv X pins σ (upd H p (.lst (xs.set j v))) {s with heap:=s.heap.update p (Da (·.setIfInBounds j u))}:=
  I.NC hp ho (CC its n j u) (r.set rv j) (by rw[IT];exact hz) s.toks
 by_cases h0:0<=k
 ·have hk:k.toNat=j :=by
   rw[seqIndex_of h0 h4]at h1;exact lm h1
  exact PySem.W.ki_setAt ho h0 (by omega) (by rw[lv,<- hl];exact h4) (by rw[hk];exact⟨_,I',q⟩)
 ·have hk:(k+(its.toArray.size:Int)).toNat=j :=by
   rw[seqIndex_neg (by omega) h3]at h1
   rw[lv,<- hl];exact lm h1
  exact PySem.W.ki_setBack ho (by omega) (by rw[lv,<- hl];exact h3) (by omega) (by rw[hk];exact⟨_,I',q⟩)
theorem wX (lo hi:Option Int) (n:Nat):(sliceBounds lo hi none n).1=((HT.kU n 0 lo:Nat):Int)/\(sliceBounds lo hi none n).2.1=((HT.kU n n hi:Nat):Int)/\(sliceBounds lo hi none n).2.2=1 :=by
 refine⟨?_,?_,rfl⟩
 ·cases lo with
  |none=>simp[sliceBounds,HT.kU]
  |some i=>
   simp only[sliceBounds,HT.kU,Option.getD_none,show (1:Int) > 0 by decide,if_true]
   by_cases h:i<0
   ·simp only[h,if_true]<;>omega
   ·simp only[h,if_false]<;>omega
 ·cases hi with
  |none=>simp[sliceBounds,HT.kU]
  |some i=>
   simp only[sliceBounds,HT.kU,Option.getD_none,show (1:Int) > 0 by decide,if_true]
   by_cases h:i<0
   ·simp only[h,if_true]<;>omega
   ·simp only[h,if_false]<;>omega
theorem vY (its:List al) (lo hi:Option Int):slicePick its.toArray lo hi none=((its.drop (HT.kU its.length 0 lo)).take (HT.kU its.length its.length hi - HT.kU its.length 0 lo)).toArray :=by
 obtain⟨h1,h2,h3⟩:=wX lo hi its.toArray.size;unfold slicePick;rw[h1,h2,h3];simp only[sliceRange_one,pick_run,lv]<;>rfl
def UN (K:bv):V->Option Int->Option Int->Hp->VK->Prop:=fun x lo hi H Q=>∃a xs,x=.ref a/\bF K H a xs/\∀p,H p=none->Q (.ref p) (upd H p (.lst (CB xs lo hi)))
theorem Vq:JG X (UN X.K) :=by
 intro pins s σ H x v vl vu lo hi sl Q I rx hs pl pu h;obtain⟨a,xs,rfl,hx,q⟩:=h;cases rx;obtain⟨its,r,ht,hz⟩:=I.list hx;have hlen:=r.length;refine⟨"list",_,aax.lookup,ht.isList.typeIs,?_⟩
 refine wpAny_getItem_list_slice ht.isList hs pl pu .none (by simp) ?_ (by rw[lv]<;>omega)
 rw[vY,<- hlen];refine⟨.ref s.heap.objs.size,_,I.laid (t':=s.toks) (o:=.lst (CB xs lo hi)) (fun b ob q=>br _ q) (cb _) ?_,rfl,q _ (I.hok.fresh (cb _))⟩
 exact⟨wb (zJ xs lo hi) hz,_,0,(r.drop (HT.kU xs.length 0 lo)).take (HT.kU xs.length xs.length hi - HT.kU xs.length 0 lo),ij _ rfl⟩
def lR:V->Bool
 | .ay=>true
 | .bl _=>true
 | .int _=>true
 | .str _=>true
 |_=>false
def sx:V->V->Bool
 | .ay,.ay=>true
 | .bl a,.bl b=>a==b
 | .bl a,.int b=>(if a then 1 else 0)==b
 | .int a,.bl b=>a==(if b then 1 else 0)
 | .int a,.int b=>a==b
 | .str a,.str b=>a==b
 |_,_=>false
theorem ND {A:sB}{s:ba}{y x:V}{u v:al}(ry:RelV y u) (rx:RelV x v) (fy:lR y=true) (fx:lR x=true):l8 A s u v (sx y x) :=by
 cases y with
 |ay=>
  cases ry;cases x with
  |ay=>cases rx;exact ZP _
  |bl b=>cases rx;exact l8.none_bool b
  |int b=>obtain⟨t,rfl⟩:=rx;exact l8.none_int b t
  |str b=>obtain⟨t,rfl⟩:=rx;exact l8.none_str b t
  |_=>exact absurd (show false=true from fx) gc
 |bl a=>
  cases ry;cases x with
  |ay=>cases rx;exact l8.bool_none a
  |bl b=>cases rx;exact l8.bool_bool a b
  |int b=>obtain⟨t,rfl⟩:=rx;exact l8.bool_int a b t
  |str b=>obtain⟨t,rfl⟩:=rx;exact l8.bool_str a b t
  |_=>exact absurd (show false=true from fx) gc
 |int a=>
  obtain⟨t',rfl⟩:=ry;cases x with
  |ay=>cases rx;exact l8.int_none a t'
  |bl b=>cases rx;exact l8.int_bool a t' b
  |int b=>obtain⟨t,rfl⟩:=rx;exact l8.int_int a t' b t
  |str b=>obtain⟨t,rfl⟩:=rx;exact aad a t' b t
  |_=>exact absurd (show false=true from fx) gc
 |str a=>
  obtain⟨t',rfl⟩:=ry;cases x with
  |ay=>cases rx;exact l8.str_none a t'
  |bl b=>cases rx;exact l8.str_bool a t' b
  |int b=>obtain⟨t,rfl⟩:=rx;exact aae a t' b t
  |str b=>obtain⟨t,rfl⟩:=rx;exact l8.str_str a t' b t
  |_=>exact absurd (show false=true from fx) gc
 |_=>exact absurd (show false=true from fy) gc
def kW (x:V) (u:al):Bool:=match u with
 | .none=>sx .ay x
 | .bool b=>sx (.bl b) x
 | .int i _=>sx (.int i) x
 | .str z _=>sx (.str z) x
 |_=>false
theorem Ez {x y:V}{u:al}(r:RelV y u) (f:lR y=true):kW x u=sx y x :=by
 cases y with
 |ay=>cases r;rfl
 |bl b=>cases r;rfl
 |int i=>obtain⟨t,rfl⟩:=r;rfl
 |str z=>obtain⟨t,rfl⟩:=r;rfl
 |_=>exact absurd (show false=true from f) gc
theorem mR {x:V}:∀{xs:List V}{us:List al},Vals xs us->xs.all lR=true->us.any (kW x)=xs.any fun y=>sx y x
 |_,_,.nil,_=>rfl
 |y::xs,u::us,.cons r t,f=>by
          rw[Zm,EN]at f;rw[LB,LB,Ez r f.1,mR t f.2]
theorem kX {A:sB}{s:ba}{x:V}{v:al}(rx:RelV x v) (fx:lR x=true):∀{xs:List V}{us:List al},Vals xs us->xs.all lR=true->∀u∈us,l8 A s u v (kW x u)
 |_,_,.nil,_=>fun u hu=>by cases hu
 |y::xs,u::us,.cons r t,f=>fun u' hu=>by
          rw[Zm,EN]at f;rcases lp.mp hu with rfl|hu
          ·rw[Ez r f.1];exact ND r rx f.1 fx
          ·exact kX rx fx t f.2 u' hu
def EA (x:V) (xs:List V):Bool:=xs.any fun y=>sx y x
def EB (K:bv) (neg:Bool):R2:=fun x y H Q=>∃p xs,y=.ref p/\(bF K H p xs\/c9 K H p xs)/\lR x=true/\xs.all lR=true/\Q (.bl (if neg then !EA x xs else EA x xs)) H
theorem EC:OpR X (compareOp .In) (EB X.K false) :=by
 intro pins s σ H x y v u Q I rx ry h;obtain⟨p,xs,rfl,hq,fx,fs,q⟩:=h;cases ry;rcases hq with hq|hq
 ·obtain⟨its,r,pl,hz⟩:=I.list hq;refine SeqAt.in_listAt (kW x) pl.isList (fun w hw=>kX rx fx r fs w (by simpa using hw)) ⟨.bl _,H,I,rfl,?_⟩
  rw[show its.toArray.any (kW x)=its.any (kW x) by simp,mR r fs]
  exact q
 ·obtain⟨its,r,pl,hz⟩:=I.tuple hq;refine SeqAt.in_tupleAt (kW x) pl (fun w hw=>kX rx fx r fs w (by simpa using hw)) ⟨.bl _,H,I,rfl,?_⟩
  rw[show its.toArray.any (kW x)=its.any (kW x) by simp,mR r fs]
  exact q
theorem wY:OpR X (compareOp .NotIn) (EB X.K true) :=by
 intro pins s σ H x y v u Q I rx ry h;obtain⟨p,xs,rfl,hq,fx,fs,q⟩:=h;cases ry;rcases hq with hq|hq
 ·obtain⟨its,r,pl,hz⟩:=I.list hq;refine SeqAt.notIn_listAt (kW x) pl.isList (fun w hw=>kX rx fx r fs w (by simpa using hw)) ⟨.bl _,H,I,rfl,?_⟩
  rw[show its.toArray.any (kW x)=its.any (kW x) by simp,mR r fs]
  exact q
 ·obtain⟨its,r,pl,hz⟩:=I.tuple hq;refine SeqAt.notIn_tupleAt (kW x) pl (fun w hw=>kX rx fx r fs w (by simpa using hw)) ⟨.bl _,H,I,rfl,?_⟩
  rw[show its.toArray.any (kW x)=its.any (kW x) by simp,mR r fs]
  exact q
theorem wZ:cR X (.type "list") (fun xs H Q=>∃p ys,xs=[.ref p]/\(bF X.K H p ys\/c9 X.K H p ys)/\∀l,H l=none->Q (.ref l) (upd H l (.lst ys))) :=by
 intro pins s σ H xs us Q I r h;obtain⟨p,ys,rfl,hq,q⟩:=h;obtain⟨u,rfl,rx⟩:=vals1 r;cases rx;have fin:∀(its:List al),Vals ys its->ys.length<=sizeLine->∀(h':i8) (c':Nat),(∀b o',s.heap.get? b=some o'->h'.get? b=some o')->
   h'.get? s.heap.objs.size=some {cls:=.type "list",dict:=none,data:=.seq its.toArray c',slots:=#[]}->EP X pins σ Q (.ref s.heap.objs.size) {s with heap:=h'}:=fun its r' hz h' c' kp e=>
  ⟨.ref s.heap.objs.size,_,I.laid (t':=s.toks) kp (cb _) (show ObjOk X.prog X.w _ h' _ (.lst ys) from ⟨hz,its,c',r',e⟩),rfl,q _ (I.hok.fresh (cb _))⟩
 rcases hq with hq|hq
 ·obtain⟨its,r',pl,hz⟩:=I.list hq;have hlen:=r'.length;obtain⟨o,ho,hc,n,hd⟩:=pl.isList;exact call_list_seq p (.inl rfl) ho hc hd (fun h' c' kp e=>fin its r' hz h' c' kp e) (by simp only[lv]<;>omega)
 ·obtain⟨its,r',pl,hz⟩:=I.tuple hq;have hlen:=r'.length;obtain⟨o,ho,hc,n,hd⟩:=pl;exact call_list_seq p (.inr rfl) ho hc hd (fun h' c' kp e=>fin its r' hz h' c' kp e) (by simp only[lv]<;>omega)
theorem vZ:cR X (.type "tuple") (fun xs H Q=>∃p ys,xs=[.ref p]/\((bF X.K H p ys/\∀l,H l=none->Q (.ref l) (upd H l (.tup ys)))\/(c9 X.K H p ys/\Q (.ref p) H))) :=by
 intro pins s σ H xs us Q I r h;obtain⟨p,ys,rfl,h⟩:=h;obtain⟨u,rfl,rx⟩:=vals1 r;cases rx;rcases h with ⟨hq,q⟩|⟨hq,q⟩
 ·obtain⟨its,r',pl,hz⟩:=I.list hq;have hlen:=r'.length;refine call_tuple_list pl.isList (fun h' kp=>?_) (by simp only[lv]<;>omega)
  have I1:Inv X pins σ H {s with heap:=h'}:=I.kept (t':=s.toks) kp
  have I2:Inv X pins σ (upd H h'.objs.size (.tup ys)) {s with heap:=h'.push {cls:=.type "tuple",data:=.seq its.toArray}}:=
   I1.laid (t':=s.toks) (fun b o e=>br _ e) (cb _) (show ObjOk X.prog X.w _ _ _ (.tup ys) from ⟨hz,its,r',ni.new _ _⟩)
  exact⟨.ref h'.objs.size,_,I2,rfl,q _ (I1.hok.fresh (cb _))⟩
 ·obtain⟨its,r',pl,hz⟩:=I.tuple hq;exact call_tuple_same pl ⟨.ref p,H,I,rfl,q⟩
def NF (K:bv) (T:String) (x:V) (H:Hp):Prop:=match x with
 | .str _=>T = "str"
 | .int _=>T = "int"
 | .ref p=>(T = "list" /\ ∃xs,bF K H p xs)\/(T = "tuple" /\ ((∃o,K.lookup p=some o/\o.cls=.type "tuple" /\ o.dict=none)\/∃xs,H p=some (.tup xs))) \/
   (T = "dict" /\ ((∃aj,H p=some (.dK aj))\/∃aj,H p=some (.dT aj)))\/(T = "set" /\ ∃S n,H p=some (.set S n))
 |_=>False
theorem NI {pins:List (ag×l9)}{σ:St}{H:Hp}{s:ba}{T:String}{x:V}{v:al}(I:Inv X pins σ H s) (r:RelV x v) (ty:NF X.K T x H) :
  s.TypeIs v T/\∀a,v=.ref a->∃ob,s.heap.get? a=some ob/\ob.dict=none :=by
 cases x with
 |str z=>
  obtain⟨t,rfl⟩:=r;cases (show T = "str" from ty)
  exact⟨typeIs_str s z t,fun _ e=>nomatch e⟩
 |int i=>
  obtain⟨t,rfl⟩:=r;cases (show T = "int" from ty)
  exact⟨aaC s i t,fun _ e=>nomatch e⟩
 |ref p=>
  cases r;rcases ty with ⟨rfl,xs,hq⟩|⟨rfl,⟨o,hk,hc,hd⟩|⟨xs,hk⟩⟩|⟨rfl,hk⟩|⟨rfl,S,n,hk⟩
  ·obtain⟨its,_,pl,_⟩:=I.list hq;refine⟨pl.isList.typeIs,fun a e=>?_⟩
   cases e;obtain⟨o,n,e,c,hd,_⟩:=pl;exact⟨o,e,hd⟩
  ·refine⟨⟨o,I.jH p o hk,hc⟩,fun a e=>?_⟩
   cases e;exact⟨o,I.jH _ o hk,hd⟩
  ·obtain⟨_,its,_,o,e,c,n,d,hd⟩:=I.hok p _ hk;refine⟨⟨o,e,c⟩,fun a e2=>?_⟩
   cases e2;exact⟨o,e,hd⟩
  ·have z:∃o,s.heap.get? p=some o/\o.ExactDict :=by
    rcases hk with ⟨aj,hk⟩|⟨aj,hk⟩
    ·obtain⟨_,_,_,_,o,_,_,e,ex,_⟩:=I.hok p _ hk;exact⟨o,e,ex⟩
    ·obtain⟨_,_,_,_,o,_,_,e,ex,_⟩:=I.hok p _ hk;exact⟨o,e,ex⟩
   obtain⟨o,e,ex⟩:=z;refine⟨⟨o,e,ex.1⟩,fun a e2=>?_⟩
   cases e2;exact⟨o,e,ex.2.1⟩
  ·obtain⟨o,_,_,_,e,ex,_⟩:=I.hok p _ hk;refine⟨⟨o,e,ex.1⟩,fun a e2=>?_⟩
   cases e2;exact⟨o,e,ex.2.1⟩
 |_=>exact Pe ty
def S1 (K:bv) (T:String) (r:V->List V->Hp->VK->Prop) (to:TE) (t:TA):TE:=fun σ H Q=>to σ H fun x H1=>NF K T x H1/\t σ H1 fun xs H2=>r x xs H2 Q
variable {o e:io}{es:List io}{to:TE}{t:TA}{name:ci}{apos aU:wv}{T id:String}{r:V->List V->Hp->VK->Prop}
theorem RJ (pa:aaD T) (slot:Slot T name id) (oE:typeOf (.builtin id)=pure (.type "method_descriptor")) (hm:AR X id r) (ho:PE X o to) (ha:PA X (e::es) t)
  (ke:attributeBase o name X.env (eval o X.env)=eval o X.env :=by rfl)
  (nj:((backTo aU (lw (e::es) X.env)).all (fun x => !x.1) && (backToKw aU (keywordEach [] X.env)).all (fun x=>x.1.isSome)
   && decide ((e::es).length+([]:List UF).length+(if ([]:List UF).isEmpty then 0 else 1)<30))=true :=by rfl)
  (hline:(apos.endLine==aU.line)=true :=by rfl) (hs:lw (e::es) X.env=(false,eval e X.env)::lw es X.env :=by rfl) (iO:(backTo aU (lw es X.env)).any (·.1)=false :=by rfl) :
  PE X (.Call (.Attribute o name apos) (e::es) [] aU) (S1 X.K T r to t) :=by
 refine⟨?_⟩;intro pins s σ H Q I h;refine wpAny_Call_method_late ke nj hline rfl (thn (ho pins s σ H _ I h) fun v s1 ⟨x,H1,I1,r1,ty,q1⟩=>?_)
 obtain⟨h1,h2⟩:=NI I1 r1 ty;refine⟨T,id,pa,slot,oE,h1,h2,?_⟩;have hA:=ha aU pins s1 σ H1 _ I1 q1;rw[hs]at hA ⊢;refine Calls.callWith_builtin (by show (false || (backTo aU (lw es X.env)).any (·.1))=false;rw[iO]<;>rfl) (ZQ ?_)
 exact thn hA fun us s2 ⟨vs,H2,I2,r2,q2⟩=>hm pins s2 σ H2 x vs v us Q I2 r1 r2 q2
end
def NK (X:Cx) (id:String) (r:V->List V->Hp->VK->Prop):Prop:=
 ∀(pins:List (ag×l9)) (s:ba) (σ:St) (H:Hp) (x:V) (xs:List V) (v:al) (us:List al) (Q:VK),Inv X pins σ H s->RelV x v->Vals xs us->r x xs H Q->
  c8 (model X.prog X.w) X.A (call (.builtin id) (v::us)) (EP X pins σ Q) X.xe s
theorem Vals.one:∀{x:V}{us:List al},Vals [x] us->∃u,us=[u]/\RelV x u
 |_,_,.cons r .nil=>⟨_,rfl,r⟩
theorem Vals.eraseIdx:∀{xs:List V}{us:List al}(i:Nat),Vals xs us->Vals (xs.eraseIdx i) (us.eraseIdx i)
 |_,_,_,.nil=>.nil
 |_,_,0,.cons _ t=>t
 |_,_,i+1,.cons r t=>.cons r (Vals.eraseIdx i t)
theorem Vals.reverse {xs:List V}{us:List al}(h:Vals xs us):Vals xs.reverse us.reverse :=by
 induction h with
 |nil=>exact .nil
 |cons r t ih=>rw[aay,aay];exact Vals.append ih (.cons r .nil)
theorem Vals.rep {xs:List V}{us:List al}(h:Vals xs us):∀k:Nat,Vals (mT k xs).flatten (mT k us).flatten
 |0=>.nil
 |k+1=>by
          rw[xb,xb,OF,OF];exact Vals.append h (Vals.rep h k)
theorem vb {α:Type}:∀(l:List α) (i:Nat),(l.eraseIdx i).length<=l.length
 | [],_=>cb _
 |_::_,0=>IR _
 |_::r,i+1=>Nat.succ_le_succ (vb r i)
theorem foldl_rep (its:List al):∀(k:Nat) (acc:List al),
  List.foldl (fun x1 x2=>x1++x2) acc.toArray (mT k its.toArray)=(acc++(mT k its).flatten).toArray
 |0,acc=>by simp
 |k+1,acc=>by
          have e:acc.toArray++its.toArray=(acc++its).toArray :=by simp
          have e2:(acc++its)++(mT k its).flatten=acc++(mT (k+1) its).flatten :=by
           rw[xb,OF,GM]
          rw[<- e2,<- foldl_rep its k (acc++its),<- e,xb,ZR]
section
variable {X:Cx}{pins:List (ag×l9)}{σ:St}{H:Hp}{s:ba}{l b:ag}{xs ys zs:List V}
theorem Inv.Hu {its its':List al}{n:Nat}{f:Array al->Array al}{t':Nat}(I:Inv X pins σ H s) (hH:H l=some (.lst xs))
  (e:s.heap.get? l=some {cls:=.type "list",data:=.seq its.toArray n}) (hf:f its.toArray=its'.toArray) (hv:Vals ys its') (hz:ys.length<=sizeLine) :
  Inv X pins σ (upd H l (.lst ys)) {s with heap:=s.heap.update l (Da f),toks:=t'}:=by
 have q:=PySem.IsL.update e f;rw[hf]at q;refine I.write (x:=l) (e:=l) (by rw[hH];exact trivial) (.inl rfl) (fun b' u hb hu=>(AM s.heap (Da f) (Ch hb)).trans hu) ⟨_,q⟩ ?_
 exact⟨hz,its',_,hv,q⟩
theorem Inv.UO {its:List al}{t':Nat}(I:Inv X pins σ H s) (hv:Vals ys its) (hz:ys.length<=sizeLine) :
  Inv X pins σ (upd H s.heap.objs.size (.lst ys)) {s with heap:=s.heap.push {cls:=.type "list",data:=.seq its.toArray},toks:=t'}:=
 I.laid (fun _ _ q=>br _ q) (cb _) ⟨hz,its,0,hv,ij _ rfl⟩
theorem Inv.fresh (I:Inv X pins σ H s):H s.heap.objs.size=none:=I.hok.fresh (cb _)
theorem Inv.w5 (I:Inv X pins σ H s) (hH:H l=some (.lst xs)):xs.length<=sizeLine/\∃(its:List al) (n:Nat),Vals xs its/\xs.length=its.length/\s.heap.get? l=some {cls:=.type "list",data:=.seq its.toArray n}:=by
 obtain⟨z,its,n,r,e⟩:=I.hok l _ hH;exact⟨z,its,n,r,r.length,e⟩
theorem w6 {n:Nat}(h:n<=sizeLine):VT n=false :=by
 unfold VT;exact decide_eq_false (by omega)
end
section
variable {X:Cx}
def K1:V->List V->Hp->VK->Prop:=fun x vs H Q=>∃l xs y,x=.ref l/\vs=[y]/\H l=some (.lst xs)/\xs.length<sizeLine/\Q .ay (upd H l (.lst (xs++[y])))
theorem vc:NK X "list.append" K1 :=by
 intro pins s σ H x vs v us Q I rx rv h;obtain⟨l,xs,y,rfl,rfl,hH,hz,q⟩:=h;cases rx;obtain⟨u,rfl,ru⟩:=rv.one;obtain⟨z,its,n,r,hl,e⟩:=I.w5 hH;refine aaE F.slot_list_append ⟨_,e,rfl⟩ F.entry_list_append (F.args_list_append_2 _ _) (PySem.list_append l its.toArray n u (by rw[lv];omega)) ⟨e,?_⟩
 refine⟨.ay,_,I.Hu (its':=its++[u]) hH e (by simp) (r.append (.cons ru .nil)) ?_,rfl,q⟩
 rw[r6,GT];omega
def K2:V->List V->Hp->VK->Prop:=fun x vs H Q=>∃l b xs zs,x=.ref l/\vs=[.ref b]/\H l=some (.lst xs)/\H b=some (.lst zs)/\xs.length+zs.length<=sizeLine/\Q .ay (upd H l (.lst (xs++zs)))
theorem ED:NK X "list.extend" K2 :=by
 intro pins s σ H x vs v us Q I rx rv h;obtain⟨l,b,xs,zs,rfl,rfl,hH,hB,hz,q⟩:=h;cases rx;obtain⟨u,rfl,ru⟩:=rv.one;cases ru;obtain⟨z,its,n,r,hl,e⟩:=I.w5 hH;obtain⟨z2,iP,n2,r2,qI,e2⟩:=I.w5 hB;have hsz:its.toArray.size+iP.toArray.size<=sizeLine :=by rw[lv,lv];omega
 have CD:¬ (!its.toArray.isEmpty && VT (its.toArray.size+iP.toArray.size))=true :=by
  rw[w6 hsz,Bool.and_false];exact gc
 refine aaE F.slot_list_extend ⟨_,e,rfl⟩ F.entry_list_extend (F.args_list_extend_2 _ _)
  (AutoSeq1.list_extend_list_list_0 l its.toArray n b iP.toArray n2 CD (by rw[lv];omega) (by omega)) ⟨e,e2,?_⟩
 refine⟨.ay,_,I.Hu (its':=its++iP) hH e (by simp) (r.append r2) ?_,rfl,q⟩
 rw[r6];omega
def NM:V->List V->Hp->VK->Prop:=fun x vs H Q=>∃l xs i k y,x=.ref l/\vs=[.int i]/\H l=some (.lst xs) /\ -(2 ^ 63)<=i/\i<2 ^ 63/\seqIndex? i xs.length=some k/\xs[k]?=some y/\Q y (upd H l (.lst (xs.eraseIdx k)))
theorem Hv:NK X "list.pop" NM :=by
 intro pins s σ H x vs v us Q I rx rv h;obtain⟨l,xs,i,k,y,rfl,rfl,hH,h1,h2,hk,hy,q⟩:=h;cases rx;obtain⟨u,rfl,ru⟩:=rv.one;obtain⟨t,rfl⟩:=ru;obtain⟨z,its,n,r,hl,e⟩:=I.w5 hH;obtain⟨w,hw,f7⟩:=r.get hy;refine aaE F.slot_list_pop ⟨_,e,rfl⟩ F.entry_list_pop (F.args_list_pop_2 _ _)
  (MeetsSeq.list_pop_at l its.toArray n i t k w (fitsIndex_both h1 h2) (by rw[lv,<- hl];exact hk) (by rw[<- No];exact hw) (by rw[lv];omega)) ⟨e,?_⟩
 refine⟨y,_,I.Hu (its':=its.eraseIdx k) hH e ?_ (r.eraseIdx k) ?_,f7,q⟩
 ·show its.toArray.eraseIdxIfInBounds k=(its.eraseIdx k).toArray;rw[List.eraseIdxIfInBounds_toArray]
 ·have:=vb xs k;omega
def UP:R2:=fun x y H Q=>∃l k xs,x=.ref l/\y=.int k/\H l=some (.lst xs) /\ -(2 ^ 63)<=k/\k<2 ^ 63/\xs.length * k.toNat<=sizeLine /\
 ∀p,H p=none->Q (.ref p) (upd H p (.lst (mT k.toNat xs).flatten))
theorem len_rep {α:Type}(xs:List α) (k:Nat):(mT k xs).flatten.length=k * xs.length :=by
 induction k with
 |zero=>simp
 |succ k ih=>rw[xb,OF,r6,ih,Nat.succ_mul,Nat.add_comm]
theorem NN:OpR X (binaryOp .Mult) UP :=by
 intro pins s σ H x y v u Q I rx ry h;obtain⟨l,k,xs,rfl,rfl,hH,h1,h2,hz,q⟩:=h;cases rx;obtain⟨t,rfl⟩:=ry;obtain⟨z,its,n,r,hl,e⟩:=I.w5 hH;have hlen:its.toArray.size * k.toNat<=sizeLine :=by rw[lv,<- hl];exact hz
 have UQ:¬ its.toArray.size * k.toNat > (2 ^ 63 - 1) / 8 :=by
  have:(sizeLine:Nat)<=(2 ^ 63 - 1) / 8 :=by decide
  omega
 have UR:¬ (!Builtin.List.listFitsIndex k)=true :=by
  rw[fitsIndex_both h1 h2];exact gc
 have CD:¬ VT (its.toArray.size * k.toNat)=true :=by
  rw[w6 hlen];exact gc
 have Hw:List.foldl (fun x1 x2=>x1++x2) #[] (mT (if its.toArray.isEmpty=true then 0 else k.toNat) its.toArray)=(mT k.toNat its).flatten.toArray :=by
  have f0:∀m:Nat,List.foldl (fun x1 x2=>x1++x2) #[] (mT m its.toArray)=(mT m its).flatten.toArray:=fun m=>by
   have:=foldl_rep its m [];rw[ID]at this;exact this
  rw[f0];cases its with
  |nil=>simp
  |cons a r'=>rw[if_neg (by simp)]
 refine wpAny_binaryOp_repeat_ref (T := "list") (U := "int") (by decide) ⟨_,e,rfl⟩ (fun s'=>aaC s' k t) noFill_list_mul F.fills_int_mul F.slot_int_rmul repeat_list F.slot_int_index.lookup
  (aaE F.slot_int_rmul (aaC s k t) F.entry_int_rmul (F.args_int_rmul_2 _ _) (int___rmul___int_list k t l its.toArray n)
   ⟨e,rfl,⟨_,e,rfl⟩,aaE F.slot_list_mul ⟨_,e,rfl⟩ F.entry_list_mul (F.args_list_mul_2 _ _) (AutoListH.list___mul___list_int_3 l its.toArray n k t UR UQ CD) ⟨e,?_⟩⟩)
 rw[Hw];exact⟨.ref _,_,I.UO (t':=s.toks) (r.rep k.toNat) (by rw[len_rep,aaI];exact hz),rfl,q _ I.fresh⟩
end
end L2
namespace S2
open PySem PySem.W PySem.Calls PyProof.Rows
theorem sy {P:aa4}{h:i8}:∀(ns:List Int) (vs:List al),WellAll P h vs (ns.map WData.int)->So vs ns :=by
 intro ns;induction ns with
 |nil=>
  intro vs w;rw[Wp]at w;cases w;exact .nil
 |cons n ns ih=>
  intro vs w;rw[mo]at w;cases w with
  |cons a b=>
   cases a;exact .cons _ _ (ih _ b)
theorem EE {l:OpenLaw}{n:Nat}(hn:l.most=some n) {P:aa4}{h:i8}{args:List WData}{vals:List al}
  (CF:l.row.toRowW.claim.pre args=true) (NP:WellAll P h vals args) :
  ∃a vs ns,vals=[ss a]/\args=[WData.list (ns.map WData.int)]/\h.get? a=some {cls:=.type "list",data:=.seq vs.toArray}/\So vs ns/\ns.length<=n :=by
 have VG:WShape.hasAll [] args [.list .int]=true:=(pre_splitW CF).1;have hc:l.pre.holds [] {args:=args}=true:=(pre_splitW CF).2;obtain⟨d,r,rfl,h1,h2⟩:=hasAllW_cons VG;obtain rfl:=hasAllW_nil h2;obtain⟨xs,rfl,h3⟩:=hasW_list h1;obtain⟨ns,rfl⟩:=items_int h3;have hlen:ns.length<=n :=by
  unfold OpenLaw.pre at hc;have h4:(WTm.not (.lt (.lit (.int (n:Int))) (.len (.arg 0)))).holds [] {args:=[.list (ns.map .int)]}=true :=by
   have h4:=(holds_andW hc).1;rw[hn]at h4;exact h4
  have h5:=condW_of h4 (w_not (w_lt w_lit (w_len_list (w_arg rfl))));rw[bn]at h5;refine Zq fun q=>?_
  have q':(n:Int)<((ns.length:Nat):Int) :=by omega
  first
   |(rw[decide_eq_true q']at h5;exact absurd h5 (by decide))
   |(simp at h5;omega)
 cases NP with
 |cons w1 w2=>
  cases w2;cases w1 with
  |list ho iu=>exact⟨_,_,ns,rfl,rfl,ho,sy ns _ iu,hlen⟩
theorem EF (l:OpenLaw) (args:List WData):l.row.toRowW.claim.post args (.bool true) args=true:=
 postW_of (r:=l.row.toRowW) (X:=(true==true))
  (show WShape.has [] (.bool true) .bool=true by first|rfl|decide|simp[WShape.has,WShape.arms,WShape.armsAll])
  (show (WTm.eq .res (.lit (.bool true))).value [] {args:=args,res:=some (.bool true),after:=args}=some (.bool (true==true)) from w_eq_bool (w_res rfl) w_lit) rfl
theorem zK {l:OpenLaw}{n:Nat}{q:jp}{loose:List ci}{XP:(ci->Option al)->i8->Prop}{YP:lf->i8->Prop}{d:DefRec}
  (hn:l.most=some n) (EG:d.params.defaults=[])
  (call:∀(w:lf) (s₀ az:ba) (mg mb:ci->Option al) (fa:ag) (o:l9) (pm cd doc:al) (a:ag) (vs:List al) (ns:List Int),
   Ground q loose [] XP w s₀ mg mb az.heap->YP w az.heap->
   az.heap.get? fa=some o->o.data=.func (docDef d.name d.params d.body d.scope pm cd doc)->az.heap.CodeRec cd d.name->mg d.name=some (.ref fa)->
   az.heap.get? a=some {cls:=.type "list",data:=.seq vs.toArray}->So vs ns->ns.length<=n->az.gens=#[]->
   OE (model l.prog w) callerA (.call (.ref fa) ⟨[.ref a],[]⟩) (fun r s'=>r=.ok (.ret (.bool true))/\OldK az.heap s'.heap/\s'.os=az.os/\aaZ s'.gens) az) :
  WalkO q loose XP YP l.row.toRowW d [] (fun f vs=>aa0 f vs) :=by
 intro w s₀ az mg mb G Y fa o pm cd doc dV kV ho hd iN hD EH hg args vals as CF XS X0 NP X1;obtain rfl:dV=.none:=Dflts.none hD EG;obtain rfl:kV=.none:=Dflts.noKw hD;obtain⟨a,vs,ns,rfl,rfl,Hx,hints,hlen⟩:=EE hn CF NP;refine enter_call (codeAny_mono (call w s₀ az mg mb fa o pm cd doc a vs ns G Y ho (fd_plain hd) iN EH Hx hints hlen hg) fun r s' hq=>?_)
 obtain⟨rfl,h2,h3,h4⟩:=hq;exact⟨.inl ⟨.bool true,.bool true,[],rfl,fun _=>rfl,.bool true,EF l _,fun _=>⟨Zn.nil,fun _ hm=>(nomatch hm)⟩⟩,h2,h3,h4⟩
end S2
namespace L2
open PySem PySem.Spec PyProof.Rows
theorem vd:∀{vs:List al}{ns:List Int},So vs ns->Vals (ns.map V.int) vs
 |_,_,.nil=>.nil
 |_,_,.cons n t h=>.cons ⟨t,rfl⟩ (vd h)
def gw (s:wE):Arguments:=match s with
 | .FunctionDef _ a _ _ _ _ _ _ _ _=>a
 |_=>{posonlyargs:=[],args:=[],vararg:=none,kwonlyargs:=[],kw_defaults:=[],kwarg:=none,defaults:=[]}
def dE (s:wE):List wE:=match s with
 | .FunctionDef _ _ b _ _ _ _ _ _ _=>b
 |_=>[]
def aq (s:wE):wT:=match s with
 | .FunctionDef _ _ _ _ _ _ sc _ _ _=>sc
 |_=>{kind:=.function,names:=[],isGenerator:=false,isCoroutine:=false}
abbrev bA:mP:=fun _ _ _ _ _ _=>False
abbrev E0:XK:=fun _ _ _=>False
theorem bH {X:Cx}:Passes bA X E0:=fun _ _ _ _ _ _ _ h=>h.elim
structure ve (K:bv) (x qual:ci) (st:wE) (f:ag) (fd:tz):Prop where
 ex:∃(oc:al) (od:Option ag) (kV doc pm:al) (an:Option ag) (eG ct:al) (oB:Array (Option al)),
  fd=KF x qual (gw st) (dE st) (aq st) .none kV doc pm an eG ct/\K.lookup f=some ⟨oc,od,.func fd,oB⟩/\Yz K eG qual=true
 kp:Uf K (.ref f)=true
section
variable {P:jp}{w:lf}{K:bv}{mg:ci->Option al}{base:i8}
theorem ve.binds {x qual:ci}{st:wE}{f:ag}{fd:tz}{ps:List ci}(F:ve K x qual st f fd)
  (h:∀(kV doc pm:al) (an:Option ag) (eG ct:al) (us:List al),us.length=ps.length->bindArgs (KF x qual (gw st) (dE st) (aq st) .none kV doc pm an eG ct) ⟨us,[]⟩=pure (ps.zip us)):Binds K fd ps [] :=by
 obtain⟨oc,od,kV,doc,pm,an,eG,ct,oB,rfl,lk,iN⟩:=F.ex;exact .all (h kV doc pm an eG ct)
theorem NQ {x qual:ci}{st:wE}{f:ag}{oc:al}{od an:Option ag}{oB:Array (Option al)}{kV doc pm eG ct:al}(l:K.lookup f=some ⟨oc,od,.func (KF x qual (gw st) (dE st) (aq st) .none kV doc pm an eG ct),oB⟩)
  (c:Yz K eG qual=true) (k:Uf K (.ref f)=true):ve K x qual st f (KF x qual (gw st) (dE st) (aq st) .none kV doc pm an eG ct):=⟨⟨oc,od,kV,doc,pm,an,eG,ct,oB,rfl,l,c⟩,k⟩
end
section
variable {X:Cx}
theorem pv (i:Nat) {x:ci}{pos:wv}(hN:X.N[i]?=some x :=by rfl) (hv:uV X.env.scope x :=by first|exact mv rfl|exact LH (mv rfl)|exact LH (LH rfl)) (hd:(x==("__debug__" : ci))=false :=by decide)
  (iN:(x==("__classdict__" : ci))=false :=by decide):PE X (.Name x pos) (MH i):=Ed hN hv hd iN
end
end L2
set_option maxHeartbeats 4000000
namespace L2
open PySem PySem.Spec PyProof.Rows
theorem nq {env:ON}:∀(names:List (ci×UV)) (acc:List (ci×ag)),(∀n,(n,AE)∈names->∃c,env.cells.lookup n=some c)->
  (∀n c,acc.lookup n=some c->env.cells.lookup n=some c)->
  ∃cl,(forIn names acc fun x r=>if (x.2==AE)=true then (do let a <- cellOf env x.1;pure (ZS ((x.1,a)::r))) else pure (ZS r):YS (List (ci×ag)))=pure cl /\
   (∀n c,cl.lookup n=some c->env.cells.lookup n=some c)/\(∀n,(n,AE)∈names->∃c,cl.lookup n=some c)/\(∀n c,acc.lookup n=some c->∃c',cl.lookup n=some c')
 | [],acc,_,h2=>⟨acc,rfl,h2,fun n h=>by simp at h,fun n c h=>⟨c,h⟩⟩
 |(n,k)::r,acc,h1,h2=>by
          rw[Yn];cases hk:(k==AE) with
          |true=>
           have ek:k=AE :=by simpa using hk
           subst ek;obtain⟨c,hc⟩:=h1 n ii;have e1:cellOf env n=pure c :=by unfold cellOf;rw[hc]
           obtain⟨cl,e,a1,a2,a3⟩:=nq r ((n,c)::acc) (fun m hm=>h1 m (db _ hm)) (fun m c' hm=>by
            rw[GE]at hm;cases hb:m==n with
            |true=>
             rw[hb]at hm;have e2:m=n :=by simpa using hb
             rw[e2,hc];exact hm
            |false=>rw[hb]at hm;exact h2 m c' hm)
           refine⟨cl,?_,a1,fun m hm=>?_,fun m c' hm=>?_⟩
           ·simp only[if_true,e1];exact e
           ·rcases lp.mp hm with z|z
            ·cases z;exact a3 n c (by rw[GE];simp)
            ·exact a2 m z
           ·by_cases hb:m=n
            ·subst hb;exact a3 m c (by rw[GE];simp)
            ·exact a3 m c' (by
              rw[GE];have:(m==n)=false :=by simpa using hb
              rw[this];exact hm)
          |false=>
           obtain⟨cl,e,a1,a2,a3⟩:=nq r acc (fun m hm=>h1 m (db _ hm)) h2
           refine⟨cl,?_,a1,fun m hm=>?_,a3⟩
           ·simp only[i4,if_false];exact e
           ·rcases lp.mp hm with z|z
            ·cases z;simp at hk
            ·exact a2 m z
theorem gz {scope:wT}{env:ON}(h:∀n,(n,AE)∈scope.names->∃c,env.cells.lookup n=some c) :
  ∃cl,closureFor scope env=pure cl/\(∀n c,cl.lookup n=some c->env.cells.lookup n=some c)/\(∀n,(n,AE)∈scope.names->∃c,cl.lookup n=some c) :=by
 obtain⟨cl,e,a1,a2,_⟩:=nq (env:=env) scope.names [] h (fun n c hn=>by simp at hn)
 refine⟨cl,?_,a1,a2⟩;simp only[closureFor];rw[e];rfl
def cxBlock (X:Cx) (N':List ci) (env':ON) (A':sB) (stack':List ON) (s:ba) (H:Hp) (ex:List ag):Cx:=
 {X with N:=N',s₀:=s,H₀:=H,env:=env',A:=A',outer:=X.stack,stack:=stack',ex:=ex,fn:=fun _=>false,pn:=[],xe:=fun _ _=>False}
theorem lU {X:Cx}{pins:List (ag×l9)}{σ aO:St}{H H':Hp}{s:ba}{N':List ci}{env':ON}{A':sB}{stack':List ON}{ex:List ag}{h1:i8}{m0:ci->Option al}{g':Array YX}{tk:Nat}
  (I:Inv X pins σ H s) (qf:env'.scope.kind=.function) (RK:env'.globals=X.env.globals) (UT:env'.builtins=X.env.builtins)
  (f9:∀n c,env'.cells.lookup n=some c->X.env.cells.lookup n=some c)
  (w9:∀x,(env'.kindOf x=some .cell\/env'.kindOf x=some .free)->∃c,env'.cells.lookup x=some c)
  (hh:X.calm=true->A'.handled=none) (oF:A'.frames=some stack') (UU:stack'=X.stack\/(stack'=env'::X.stack/\env'.frame=some env'.locals))
  (hC:s.heap.objs.size<=env'.locals) (hf:∀b∈ex,bR X pins H b) (CG:∀b∈ex,b<s.heap.objs.size)
  (EI:Un (gO X.stack) ex H H' s.heap h1) (hok:cG X.prog X.w H' h1) (oG:H' env'.locals=none) (sA:∀b o,s.heap.get? b=some o->h1.get? b=some o) (j8:h1.Ns env'.locals m0)
  (xa:∀(i:Nat) (x:ci) (v:V),N'[i]?=some x->aO[i]?=some (some v)->uV env'.scope x->(env'.kindOf x=some .cell\/env'.kindOf x=some .free)/\uV X.env.scope x/\(X.env.kindOf x=some .cell\/X.env.kindOf x=some .free)/\∃j:Nat,X.N[j]?=some x/\σ[j]?=some (some v))
  (hlen:aO.length=N'.length) (hg:Gn s.gens.size g'):Inv (cxBlock X N' env' A' stack' s H ex) [] aO H' {s with heap:=h1,gens:=g',toks:=tk}:=by
 have EJ:∀b∈ex,∀x c,X.env.cells.lookup x=some c->c≠b:=fun b hb=>(hf b hb).2.2.2.2.1
 refine⟨⟨I.ok.mod,qf,RK.trans I.ok.glob,UT.trans I.ok.blt,hC,fun x y c a b=>I.ok.inj x y c (f9 x c a) (f9 y c b),w9,fun _ _ z=>(nomatch z),hh,oF,UU,fun b hb=>⟨l5 (sK (CG b hb) hC),fun x c e=>EJ b hb x c (f9 x c e)⟩,
   I.bs,wb I.ok.bsz I.sz,fun b o e hb=>?_,fun b hb z=>?_,I.stack,I.qb⟩,rfl,hg,EI,⟨m0,j8,fun i x v e1 e2 e3=>?_⟩,fun x c e=>?_,oG,fun x c e=>?_,fun p hp=>absurd (show p∈([]:List (ag×l9)) from hp) (by simp),hok,hlen⟩
 ·rcases (hf b hb).2.2.2.1 with z|z
  ·exact I.ok.noex b o e z
  ·exact absurd (sK (kt e) (wb I.ok.bsz z)) (DD _)
 ·rcases lp.mp (I.fX b z) with q|q
  ·exact(hf b hb).2.1 q
  ·exact(hf b hb).2.2.1 q
 ·obtain⟨k1,vx,k2,j,n1,n2⟩:=xa i x v e1 e2 e3;obtain⟨m,hn,hl⟩:=I.loc;obtain⟨u,r,l⟩:=hl j x v n1 n2 vx;refine⟨u,r,.inr ⟨k1,?_⟩⟩;obtain⟨c',EK⟩:=w9 x k1;rcases l with ⟨kl,_⟩|⟨_,c,ec,z⟩
  ·rcases k2 with q|q<;>(rw[kl]at q;cases q)
  ·have:c'=c:=lm ((f9 x c' EK).symm.trans ec);subst this;exact⟨c',EK,z.keeps sA⟩
 ·obtain⟨v,z⟩:=I.cell x c (f9 x c e);exact⟨v,z.keeps sA⟩
 ·obtain⟨v,o,ho,hd⟩:=I.cell x c (f9 x c e);exact EI.free c o ho (I.freeC x c (f9 x c e)) fun z=>EJ c z x c (f9 x c e) rfl
theorem lookup_map2 {c:ci->UV->UV}:∀{names:List (ci×UV)}{x:ci},(names.map fun (p:ci×UV)=>(p.1,c p.1 p.2)).lookup x=(names.lookup x).map (c x)
 | [],x=>rfl
 |(n,k')::r,x=>by
          have ih:=@lookup_map2 c r x;rw[mo,GE,GE];cases hx:x==n with
          |true=>
           have e:x=n :=by simpa using hx
           subst e;rfl
          |false=>exact ih
theorem cz {scope:wT}{env:ON}(x:ci):(relabel scope env).names.lookup x=(scope.names.lookup x).map fun k=>if (k==.free && env.scope.kind==.function && env.kindOf x==some .cell)=true then .cell else k :=by
 have e:(relabel scope env).names=scope.names.map fun p=>(p.1,(fun n k=>if (k==AE && env.scope.kind==.function && env.kindOf n==some .cell)=true then WP else k) p.1 p.2) :=by
  unfold relabel;dsimp only;congr 1
  funext p
  obtain⟨n,k⟩:=p;dsimp only;split<;>rfl
 rw[e];exact lookup_map2 (c:=fun n k=>if (k==AE && env.scope.kind==.function && env.kindOf n==some .cell)=true then WP else k)
def aD (N:List ci) (sc scope:wT) (N':List ci) (tn:Nat) (idx:List Nat):Prop:=
 scope.kind=.function/\(∀y∈scope.names,y.2≠.cell/\(y.2=.local->scope.names.lookup y.1=some .local)/\(y.2=.free->sc.names.lookup y.1=some .cell\/sc.names.lookup y.1=some .free)) /\
  N'.length=tn+idx.length/\∀p∈idx.zip (N'.drop tn),N[p.1]?=some p.2/\scope.names.lookup p.2=some .free
instance (N:List ci) (sc scope:wT) (N':List ci) (tn:Nat) (idx:List Nat):Decidable (aD N sc scope N' tn idx) :=by unfold aD;infer_instance
def aQ (tn:Nat) (idx:List Nat) (σ:St):St:=mT tn none++idx.map fun i=>(σ[i]?).join
theorem aD.at {N:List ci}{sc scope:wT}{N':List ci}{tn:Nat}{idx:List Nat}(B:aD N sc scope N' tn idx) {σ:St}{i:Nat}{x:ci}{v:V}(h1:N'[i]?=some x) (h2:(aQ tn idx σ)[i]?=some (some v)) :
  scope.names.lookup x=some .free/\∃j:Nat,N[j]?=some x/\σ[j]?=some (some v) :=by
 obtain⟨_,_,b3,b4⟩:=B;unfold aQ at h2;by_cases hi:i<tn
 ·rw[wp (by simpa using hi),OL,if_pos hi]at h2
  cases h2
 ·rw[Cs (by simpa using hi),Sm,dL]at h2
  cases e:idx[i - tn]? with
  |none=>rw[e]at h2;cases h2
  |some k=>
   rw[e]at h2;have h3:(σ[k]?).join=some v:=lm h2;have e2:(N'.drop tn)[i - tn]?=some x :=by
    rw[aag];have:tn+(i - tn)=i :=by omega
    rw[this];exact h1
   have m:(k,x)∈idx.zip (N'.drop tn) :=by
    refine ff (i:=i - tn) ?_;rw[AC];exact⟨e,e2⟩
   obtain⟨a,b⟩:=b4 _ m;refine⟨b,k,a,?_⟩;cases q:σ[k]? with
   |none=>rw[q]at h3;cases h3
   |some w=>rw[q]at h3;exact congrArg some h3
theorem aD.len {N:List ci}{sc scope:wT}{N':List ci}{tn:Nat}{idx:List Nat}(B:aD N sc scope N' tn idx) (σ:St):(aQ tn idx σ).length=N'.length :=by
 rw[B.2.2.1];unfold aQ;simp
section
variable {X:Cx}
def fO (X:Cx) (ifs:List io) (tt:TT):Prop:=
 ∀(pins:List (ag×l9)) (s:ba) (σ:St) (H:Hp) (Q:Bool->Hp->Prop),Inv X pins σ H s->tt σ H Q->
  c8 (model X.prog X.w) X.A (forIn ifs true fun c r=>if r=true then do let ok <- isTrue c X.env (eval c X.env);pure (ZS ok) else pure (ZS r)) (TP X pins σ Q) X.xe s
def RN:TT:=fun _ H Q=>Q true H
theorem K3:fO X [] RN:=fun _ _ _ H _ I h=>wpAny_tests_nil ⟨H,I,h⟩
theorem K4 {c:io}{tc:TT}(h:PT X c tc):fO X [c] tc:=fun pins s σ H Q I q=>wpAny_tests_one (h pins s σ H Q I q)
abbrev mS (X:Cx) (N':List ci) (scope:wT) (cl:List (ci×ag)) (C:ag) (s:ba) (H:Hp) (fp:List ag):Cx:=cxBlock X N' (compEnvC scope cl C X.env) X.A X.stack s H fp
abbrev Blk (X:Cx) (N':List ci) (scope:wT) (P:Cx->Prop):Prop:=∀(cl:List (ci×ag)) (C:ag) (s:ba) (H:Hp) (fp:List ag),P (mS X N' scope cl C s H fp)
end
abbrev TB:=St->Hp->(St->Hp->Prop)->Prop
def PB (X:Cx) (b:YS Unit) (t:TB):Prop:=∀(pins:List (ag×l9)) (s:ba) (σ:St) (H:Hp) (Q:St->Hp->Prop),Inv X pins σ H s->t σ H Q->c8 (model X.prog X.w) X.A b (fun _ s'=>∃aO H',Inv X pins aO H' s'/\Q aO H') X.xe s
def lV (J:It) (g:TG) (tt:TT) (tb:TB) (QE:St->Hp->Prop) (W:Nat->Nat->St->Hp->Prop):Prop:=∀i m τ H,W i m τ H->
 (J.stop i H/\QE τ H)\/(J.go i H/\∀x H',J.yld i H x H'->g x τ H' fun au H2=>tt au H2 fun b H3=>if b=true then tb au H3 fun VH H4=>∃m',m'<m/\W (i+1) m' VH H4 else ∃m',m'<m/\W (i+1) m' au H3)
def wx (e tg iter:io) (ifs:List io) (d:Nat) (it acc:al) (env:ON) (body:YS Unit):YS Fin:=do
 standAt iter.pos
 match <- pyNext it with
 |none=>pure (.done .next)
 |some v=>
  letOwnedTupleGo tg it v
  assign tg env v
  let mut ok:=true
  for c in ifs do
   if ok then ok <- isTrue c env (eval c env)
  if ok then body
  again (.compLoop e d it acc env)
section
variable {Y:Cx}{e tg iter:io}{ifs:List io}{dp:Nat}{it:ag}{acc:al}{body:YS Unit}{fp:List ag}{a7:Nat->i8->Prop}{J:It}{g:TG}{tt:TT}{tb:TB}{QE:St->Hp->Prop}{W:Nat->Nat->St->Hp->Prop}{R:Zl->ba->Prop}{pins:List (ag×l9)}{τ:St}{H:Hp}{s:ba}{m0:Nat}
structure uh (Y:Cx) (e tg iter:io) (ifs:List io) (dp:Nat) (acc:al) (body:YS Unit):Prop where
 q:∀it,(Code.compLoop e dp it acc Y.env).quiet=true
 den:∀it Q E s,c8 (model Y.prog Y.w) Y.A ((compTurn e dp it acc Y.env).onRaise (fun x=>do noteFrame x Y.env;theTreesLotGoes x)) Q E s->c8 (model Y.prog Y.w) (Y.A.under (.compLoop e dp it acc Y.env)) ((model Y.prog Y.w).den (.compLoop e dp it acc Y.env)) Q E s
 turn:∀it,compTurn e dp it acc Y.env=wx e tg iter ifs dp it acc Y.env body
 denS:∀it Q E s,c8 (model Y.prog Y.w) Y.A ((aa6 e dp it acc Y.env).onRaise (fun x=>do noteFrame x Y.env;standAt theWindowsPlace)) Q E s->c8 (model Y.prog Y.w) (Y.A.under (.compStart e dp it acc Y.env)) ((model Y.prog Y.w).den (.compStart e dp it acc Y.env)) Q E s
 cl:(clausesOf e)[dp]?=some ⟨tg,iter,ifs,0⟩
theorem lW (hc:Y.calm=true) (oH:∀x s,Y.xe x s->False) (C:uh Y e tg iter ifs dp acc body) (hg:PG Y tg g) (ht:fO Y ifs tt) (hb:PB Y body tb) (T:Turn Y.prog Y.w Y.K tg J fp it a7) (turn:lV J g tt tb QE W)
  (I:Inv Y pins τ H s) (st:a7 0 s.heap) (f:∀b∈fp,bR Y pins H b) (w0:W 0 m0 τ H) (hR:∀aT H' s',Inv Y pins aT H' s'->QE aT H'->R (.ok .next) s') :
  OE (model Y.prog Y.w) Y.A (.compLoop e dp (.ref it) acc Y.env) R s :=by
 have stat:∀{H':Hp},(∀b∈fp,H' b=none)->∀b∈fp,bR Y pins H' b:=fun hn b hb=>⟨hn b hb,(f b hb).2⟩
 refine codeAny_loop (C.q _) (fun n s'=>∃i τ H',Inv Y pins τ H' s'/\a7 i s'.heap/\(∀b∈fp,H' b=none)/\W i n τ H') (fun n s hI=>?_) m0 ⟨0,τ,H,I,st,fun b hb=>(f b hb).1,w0⟩
 refine C.den _ _ _ _ (wpAny_noted ?_);rw[C.turn];unfold wx;obtain⟨i,τ,H3,I3,uZ,El,w3⟩:=hI;rcases turn i n τ H3 w3 with ⟨stop,qn⟩|⟨go,step⟩
 ·refine ac (DO (ac (on (T.done Y rfl rfl rfl hc i pins s τ H3 (fun _ _=>False) I3 (stat El) uZ stop) (fun r s4 ⟨hr,I4⟩=>?_) fun _ _ z=>z.elim)))
  subst hr;exact bi (hR _ _ _ I4 qn)
 ·refine ac (DO (ac (on (T.item Y rfl rfl rfl hc i pins s τ H3 (fun _ _=>False) I3 (stat El) uZ go) (fun r s4 ⟨u,hr,h4⟩=>?_) fun _ _ z=>z.elim)))
  subst hr;refine ac (on h4 (fun _ s5 ⟨x,H5,I5,r5,y5,kQ,wQ⟩=>?_) fun _ _ z=>z.elim)
  have wR:=I5.pinned (stat wQ) (T.obj _ _ kQ);have again:∀{qJ:St} {H7:Hp} {s7:ba},Inv Y (pins++fZ fp s5.heap) qJ H7 s7->(∃m',m'<n/\W (i+1) m' qJ H7)->
    ∃m,m<n/\∃i τ H',Inv Y pins τ H' s7/\a7 i s7.heap/\(∀b∈fp,H' b=none)/\W i m τ H':=fun {qJ H7 s7} I7 n7=>by
   obtain⟨m',hm,w7⟩:=n7;refine⟨m',hm,i+1,qJ,H7,I7.dG,T.keep _ _ _ kQ fun b hb o e=>(I7.pin (b,o) (f8 _ (f8 _ (cQ hb e)))).1,fun b hb=>?_,w7⟩
   obtain⟨o,e,d⟩:=T.obj _ _ kQ b hb;exact(I7.pin (b,o) (f8 _ (f8 _ (cQ hb e)))).2.1
  refine ac (on (hg _ s5 τ H5 x u _ wR r5 (step x H5 y5)) (fun _ s6 ⟨j9,H6,I6,q6⟩=>?_) fun _ _ z=>(oH _ _ z).elim)
  refine ac (on (ht _ s6 j9 H6 _ I6 q6) (fun ok s7 ⟨H7,I7,q7⟩=>?_) fun _ _ z=>(oH _ _ z).elim)
  cases ok with
  |false=>exact bi ⟨rfl,again I7 q7⟩
  |true=>
   refine ac (on (hb _ s7 j9 H7 _ I7 q7) (fun _ s8 ⟨X2,H8,I8,q8⟩=>?_) fun _ _ z=>(oH _ _ z).elim)
   exact bi ⟨rfl,again I8 q8⟩
theorem kg (C:uh Y e tg iter ifs dp acc body) (T:Turn Y.prog Y.w Y.K tg J fp it a7) (st:a7 0 s.heap)
  (h:OE (model Y.prog Y.w) Y.A (.compLoop e dp (.ref it) acc Y.env) R s):OE (model Y.prog Y.w) Y.A (.compStart e dp (.ref it) acc Y.env) R s :=by
 refine codeAny_of_tree (C.denS _ _ _ _ (wpAny_notedAt ?_));unfold aa6;rw[C.cl];show c8 _ _ (ask>>=_) _ _ s;refine ac (YE (wpAny_ite ?_));split
 ·first
   |exact ac (bi (bi (aa7 rfl h)))
   |exact bi (aa7 rfl h)
 ·have h2:c8 (model Y.prog Y.w) Y.A (pyIter (.ref it)) (fun EL s'=>OE (model Y.prog Y.w) Y.A (.compLoop e dp EL acc Y.env) R s') (notedBy (model Y.prog Y.w) Y.A Y.env fun x s'=>R (.error x) s') s:=T.self _ 0 _ _ _ st h
  first
   |exact ac (GS (ac (DO (ac (on h2 (fun EL s' h'=>bi (aa7 (C.q EL) h')) fun _ _ x=>x)))))
   |(refine ac (GS ?_);show c8 _ _ (standAt iter.pos>>=_) _ _ s;exact ac (DO (ac (on h2 (fun EL s' h'=>bi (aa7 (C.q EL) h')) fun _ _ x=>x))))
end
section
variable {Y:Cx}
def sC (D:ag) (te:TE):TB:=fun τ H Q=>te τ H fun y H4=>∃ys,H4 D=some (.lst ys)/\ys.length<sizeLine/\Q τ (upd H4 D (.lst (ys++[y])))
theorem AU {elt:io}{te:TE}{D:ag}(h:PE Y elt te):PB Y (do let _ <- call (.builtin "list.append") [.ref D,<- eval elt Y.env]) (sC D te) :=by
 intro pins s τ H Q I q;refine ac (on (h pins s τ H _ I q) (fun yv s8 ⟨y,H8,I8,r8,q8⟩=>?_) fun _ _ z=>z)
 obtain⟨ys,hD,hsz,w8⟩:=q8;refine ac (on (vc (X:=Y) _ s8 τ H8 (.ref D) [y] (.ref D) [yv] (fun v H9=>v=.ay/\H9=upd H8 D (.lst (ys++[y]))) I8 rfl (.cons r8 .nil) ⟨_,ys,y,rfl,rfl,hD,hsz,rfl,rfl⟩) (fun rv s9 ⟨v9,H9,I9,_,_,e9⟩=>?_) fun _ _ z=>z)
 subst e9;exact bi ⟨τ,_,I9,w8⟩
end
section
variable {X:Cx}
theorem compG_core {pins:List (ag×l9)}{σ:St}{H2:Hp}{s2:ba}{e tg iter:io}{ifs:List io}{scope:wT}{N':List ci}{tn:Nat}{idx:List Nat}{g:TG}{tt:TT}{tb:ag->TB}{body:al->ON->YS Unit}{it:ag}{fp:List ag}{a7:Nat->i8->Prop}{J:It}
  {cl:List (ci×ag)} {E:al->ba->Prop} {RR:al->ag->Zl->ba->Prop} {Q:VK} {mk:YS al} {O0:HO} {o0:l9}
  (ER:∀(Q:al->ba->Prop),Q (.ref s2.heap.objs.size) {s2 with heap:=s2.heap.push o0}->c8 (model X.prog X.w) X.A mk Q E s2) (oF:o0.isFreed=false)
  (xc:∀(H:Hp) (h1:i8),h1.get? s2.heap.objs.size=some o0->ObjOk X.prog X.w H h1 s2.heap.objs.size O0)
  (hc:X.calm=true) (B:aD X.N X.env.scope scope N' tn idx)
  (hC:∀(D:ag),Blk X N' scope fun Y=>uh Y e tg iter ifs 0 (.ref D) (body (.ref D) Y.env))
  (hg:Blk X N' scope fun Y=>PG Y tg g) (ht:Blk X N' scope fun Y=>fO Y ifs tt) (hb:∀D,Blk X N' scope fun Y=>PB Y (body (.ref D) Y.env) (tb D))
  (I:Inv X pins σ H2 s2) (T:Turn X.prog X.w X.K tg J fp it a7) (st:a7 0 s2.heap) (f2:∀b∈fp,bR X pins H2 b)
  (cc:∀n c,cl.lookup n=some c->X.env.cells.lookup n=some c) (dI:∀n,(n,AE)∈scope.names->∃c,cl.lookup n=some c)
  (hq:∀D,H2 D=none->∃W:Nat->Nat->St->Hp->Prop,(∃m,W 0 m (aQ tn idx σ) (upd H2 D O0))/\lV J g tt (tb D) (fun _ H'=>Q (.ref D) H') W)
  (oI:∀D C m s' H',Inv X pins σ H' s'->bR X pins H' C->s'.heap.Ns C m->Q (.ref D) H'->RR (.ref D) C (.ok .next) s') :
  c8 (model X.prog X.w) X.A mk (fun acc iQ=>c8 (model X.prog X.w) X.A (newFunctionEnv scope X.env.globals cl [] X.env.qual none .none (some X.env)) (fun gb kY=>
   OE (model X.prog X.w) X.A (.compStart e 0 (.ref it) acc {gb with scope:=relabel scope X.env}) (RR acc gb.locals) kY) E iQ) E s2 :=by
 obtain⟨b1,b2,b3,b4⟩:=id B;refine ER _ (ZT (fun y hy=>(b2 y hy).1) (by intro y hy;simp at hy) (fun cE eJ d7=>?_) b1)
 dsimp only at eJ d7 ⊢;generalize hG:s2.heap.push o0=G at eJ d7 ⊢
 have xf:G.objs.size=s2.heap.objs.size+1 :=by rw[<- hG,xp]
 have qK:s2.heap.objs.size≠G.objs.size :=by rw[xf];exact l5 (AT _)
 have gf:s2.heap.objs.size<=G.objs.size :=by rw[xf];exact IR _
 have below:∀b,b<s2.heap.objs.size->b≠G.objs.size:=fun b hb=>by rw[xf];exact l5 (xz hb)
 have old:∀b o,s2.heap.get? b=some o->cE.get? b=some o:=fun b o e=>d7.extBut b o (below b (kt e)) (br _ (hG▸br _ e))
 have xg:cE.get? s2.heap.objs.size=some o0:=d7.extBut _ _ qK (br _ (hG▸ij _ oF));have oJ:H2 s2.heap.objs.size=none:=I.hok.fresh (cb _);have oG:upd H2 s2.heap.objs.size O0 G.objs.size=none :=by rw[ao (Ch qK)];exact I.hok.fresh gf
 have rE:cG X.prog X.w (upd H2 s2.heap.objs.size O0) cE:=I.hok.laid old (cb _) (xc _ _ xg);have iH:∀b∈fp,b<s2.heap.objs.size:=fun b hb=>let ⟨o,e,_⟩:=T.obj _ _ st b hb;kt e
 obtain⟨W,⟨m0,w0⟩,turn⟩:=hq s2.heap.objs.size oJ;have I1:Inv (mS X N' scope cl G.objs.size s2 H2 fp) [] (aQ tn idx σ) (upd H2 s2.heap.objs.size O0) {s2 with heap:=cE,toks:=s2.toks+([]:List (ci×al)).length}:=by
  refine lU (g':=s2.gens) (m0:=fun x=>([]:List (ci×al)).reverse.lookup x) I b1 rfl rfl cc (fun x hx=>?_) (fun z=>I.ok.hd z) I.ok.frames (.inl rfl) gf f2 iH (Un.laid old (cb _) oJ) rE oG old eJ (fun i x v e1 e2 e3=>?_) (B.len σ) I.bare.self
  ·have fh:(relabel scope X.env).names.lookup x=some .cell\/(relabel scope X.env).names.lookup x=some .free:=hx;rw[cz]at fh;cases q:scope.names.lookup x with
   |none=>rw[q]at fh;rcases fh with z|z<;>cases z
   |some k0=>
    have hm:=u4 q;rw[q]at fh;by_cases hk:k0=.free
    ·subst hk;exact dI x hm
    ·have nk:(k0==AE)=false :=by simpa using hk
     have nc:=(b2 _ hm).1;simp only[Co,nk,Pc,i4,if_false]at fh;rcases fh with z|z
     ·exact absurd (lm z) nc
     ·exact absurd (lm z) hk
  ·obtain⟨fr,j,e4,e5⟩:=B.at e1 e2;have kx:=(b2 _ (u4 fr)).2.2 rfl;refine⟨?_,.inr kx,kx,j,e4,e5⟩;show (relabel scope X.env).names.lookup x=some .cell\/(relabel scope X.env).names.lookup x=some .free;rw[cz,fr];simp only[Co];split
   ·exact .inl rfl
   ·exact .inr rfl
 have stat:∀b∈fp,bR (mS X N' scope cl G.objs.size s2 H2 fp) [] (upd H2 s2.heap.objs.size O0) b:=fun b hb=>by
  refine⟨by rw[ao (l5 (iH b hb))];exact(f2 b hb).1,below b (iH b hb),fun z=>?_,.inl hb,fun x c e=>(f2 b hb).2.2.2.2.1 x c (cc x c e),fun p hp=>absurd (show p∈([]:List (ag×l9)) from hp) (by simp)⟩
  rcases lp.mp (I.fX b z) with q|q
  ·exact(f2 b hb).2.1 q
  ·exact(f2 b hb).2.2.1 q
 have oK:a7 0 cE:=T.keep _ _ _ st fun b _ o e=>old b o e
 refine kg (Y:=mS X N' scope cl G.objs.size s2 H2 fp) (hC _ cl G.objs.size s2 H2 fp) T oK (lW (Y:=mS X N' scope cl G.objs.size s2 H2 fp) hc (fun _ _ z=>z) (hC _ cl G.objs.size s2 H2 fp) (hg cl G.objs.size s2 H2 fp) (ht cl G.objs.size s2 H2 fp) (hb _ cl G.objs.size s2 H2 fp) T turn I1 oK stat w0 fun aT H' s' I4 qn=>?_)
 have J2:Inv X pins σ H' s':=I.qd I4.os I4.base I4.hok I4.bare fun b hb=>⟨(f2 b hb).2.2.2.1,(f2 b hb).2.1,(f2 b hb).2.2.2.2.1,(f2 b hb).2.2.2.2.2⟩
 obtain⟨mm,hm,_⟩:=I4.loc;exact oI _ _ mm s' H' J2 (I.jZ gf I4.free) hm qn
def sD (J:It) (g:TG) (tt:TT) (te:TE) (D:ag) (Q:VK) (W:Nat->Nat->St->Hp->Prop):Prop:=∀i m τ H,W i m τ H->
 (J.stop i H/\Q (.ref D) H)\/(J.go i H/\∀x H',J.yld i H x H'->g x τ H' fun au H2=>tt au H2 fun b H3=>if b=true then te au H3 fun y H4=>∃ys m',H4 D=some (.lst ys)/\ys.length<sizeLine/\m'<m/\W (i+1) m' au (upd H4 D (.lst (ys++[y]))) else ∃m',m'<m/\W (i+1) m' au H3)
def sE (tn:Nat) (idx:List Nat) (wi:TI) (g:TG) (tt:TT) (te:TE):TE:=fun σ H Q=>wi σ H fun J H1=>∀D,H1 D=none->∃W:Nat->Nat->St->Hp->Prop,(∃m,W 0 m (aQ tn idx σ) (upd H1 D (.lst [])))/\sD J g tt te D Q W
theorem sF {J:It}{g:TG}{tt:TT}{te:TE}{D:ag}{Q:VK}{W:Nat->Nat->St->Hp->Prop}(h:sD J g tt te D Q W):lV J g tt (sC D te) (fun _ H=>Q (.ref D) H) W :=by
 simp only[sD,exists_and_left]at h;exact h
theorem xh (elt tg iter:io) (ifs:List io) (scope:wT) (pos:wv) (it acc:al) (env:ON) :
  compTurn (.ListComp elt [⟨tg,iter,ifs,0⟩] scope pos) 0 it acc env=wx (.ListComp elt [⟨tg,iter,ifs,0⟩] scope pos) tg iter ifs 0 it acc env (do let _ <- call (.builtin "list.append") [acc,<- eval elt env]) :=by
 rfl
theorem vf {pins:List (ag×l9)}{σ:St}{H2:Hp}{s2:ba}{tg elt iter:io}{ifs:List io}{scope:wT}{pos:wv}{N':List ci}{tn:Nat}{idx:List Nat}{g:TG}{tt:TT}{te:TE}{it:ag}{fp:List ag}{a7:Nat->i8->Prop}{J:It}
  {cl:List (ci×ag)} {E:al->ba->Prop} {RR:al->ag->Zl->ba->Prop} {Q:VK}
  (hc:X.calm=true) (B:aD X.N X.env.scope scope N' tn idx)
  (hg:Blk X N' scope fun Y=>PG Y tg g) (ht:Blk X N' scope fun Y=>fO Y ifs tt) (he:Blk X N' scope fun Y=>PE Y elt te)
  (I:Inv X pins σ H2 s2) (T:Turn X.prog X.w X.K tg J fp it a7) (st:a7 0 s2.heap) (f2:∀b∈fp,bR X pins H2 b)
  (cc:∀n c,cl.lookup n=some c->X.env.cells.lookup n=some c) (dI:∀n,(n,AE)∈scope.names->∃c,cl.lookup n=some c)
  (hq:∀D,H2 D=none->∃W:Nat->Nat->St->Hp->Prop,(∃m,W 0 m (aQ tn idx σ) (upd H2 D (.lst [])))/\sD J g tt te D Q W)
  (oI:∀D C m s' H',Inv X pins σ H' s'->bR X pins H' C->s'.heap.Ns C m->Q (.ref D) H'->RR (.ref D) C (.ok .next) s') :
  c8 (model X.prog X.w) X.A (newList []) (fun acc iQ=>c8 (model X.prog X.w) X.A (newFunctionEnv scope X.env.globals cl [] X.env.qual none .none (some X.env)) (fun gb kY=>
   OE (model X.prog X.w) X.A (.compStart (.ListComp elt [⟨tg,iter,ifs,0⟩] scope pos) 0 (.ref it) acc {gb with scope:=relabel scope X.env}) (RR acc gb.locals) kY) E iQ) E s2:=
 compG_core (body:=fun acc env=>do let _ <- call (.builtin "list.append") [acc,<- eval elt env]) (tb:=fun D=>sC D te) (O0:=.lst []) (o0:={cls:=.type "list",dict:=none,data:=.seq ([]:List al).toArray})
  (fun Q q=>B0 q) rfl (fun H h1 hd=>⟨ut _,[],0,.nil,hd⟩) hc B (fun D cl C s H fp=>⟨fun _=>rfl,fun _ _ _ _ h=>h,fun _=>xh ..,fun _ _ _ _ h=>h,rfl⟩) hg ht (fun D cl C s H fp=>AU (he cl C s H fp))
  I T st f2 cc dI (fun D hD=>let ⟨W,w0,t⟩:=hq D hD;⟨W,w0,sF t⟩) oI
variable {tg elt iter:io}{ifs:List io}{scope:wT}{pos:wv}{N':List ci}{tn:Nat}{idx:List Nat}{wi:TI}{g:TG}{tt:TT}{te:TE}
theorem bR.turn {pins:List (ag×l9)}{σ:St}{H:Hp}{s:ba}{C:ag}{h':i8}(f:bR X pins H C) (I:Inv X pins σ H s) (hs:Cn C s.heap h'):Inv X pins σ H {s with heap:=h'}:=
 I.turned (t':=s.toks) (fun b o hb e=>(hs.2 b hb).trans e) f.1 f.2.1 f.2.2.2.1 f.2.2.2.2.1 f.2.2.2.2.2
theorem qM (hc:X.calm=true) (B:aD X.N X.env.scope scope N' tn idx) (hi:PI X tg iter wi)
  (hg:Blk X N' scope fun Y=>PG Y tg g) (ht:Blk X N' scope fun Y=>fO Y ifs tt) (he:Blk X N' scope fun Y=>PE Y elt te)
  (hs:∀x,zw iter X.env x=pure x :=by intro _;rfl):PE X (.ListComp elt [⟨tg,iter,ifs,0⟩] scope pos) (sE tn idx wi g tt te) :=by
 refine⟨?_⟩;intro pins s σ H Q I h;obtain⟨cl,iR,cc,dI⟩:=gz (scope:=scope) (env:=X.env) fun n hn=>I.ok.has n ((B.2.1 _ hn).2.2 rfl)
 rw[eval_ListComp];refine NJ (use:=none) rfl hs iR B.1 (fun y hy=>(B.2.1 y hy).2.1) (on (hi pins s σ H _ I h) (fun xv s1 h1=>on h1 (fun uX s2 h2=>?_) fun _ _ z=>z) fun _ _ z=>z)
 obtain⟨it,fp,a7,J,H2,e,I2,T,mM,f2,q2⟩:=h2;subst e;refine vf (RR:=fun acc C=>compPost (model X.prog X.w) X.A X.xe none (EP X pins σ Q) acc C) hc B hg ht he I2 T mM f2 cc dI q2 fun D C m s' H' J2 fC hm q=>?_
 exact⟨m,hm,fun h' gX=>⟨.ref D,H',fC.turn J2 gX,rfl,q⟩⟩
theorem sG {i:Nat}{y:ci}{py iS:wv}(hN:X.N.Nodup) (cN:X.N[i]?=some y) (hy:X.env.scope.names.lookup y=some .local) (hc:X.calm=true) (B:aD X.N X.env.scope scope N' tn idx) (hi:PI X tg iter wi)
  (hg:Blk X N' scope fun Y=>PG Y tg g) (ht:Blk X N' scope fun Y=>fO Y ifs tt) (he:Blk X N' scope fun Y=>PE Y elt te)
  (sH:swapsWith (.ListComp elt [⟨tg,iter,ifs,0⟩] scope pos) (some (.Name y py)) iS.line X.env=pure true :=by rfl)
  (hs:∀x,zw iter X.env x=pure x :=by intro _;rfl):PS X (.Assign [.Name y py] (.ListComp elt [⟨tg,iter,ifs,0⟩] scope pos) iS) (ud (sE tn idx wi g tt te) (so i)) :=by
 refine⟨?_⟩;intro pins s σ H D I h;obtain⟨cl,iR,cc,dI⟩:=gz (scope:=scope) (env:=X.env) fun n hn=>I.ok.has n ((B.2.1 _ hn).2.2 rfl)
 rw[exec_Assign_Name_used _ _ _ _ sH];refine ac (DO (ac ?_));show c8 _ X.A (do let _ <- comprehension (.ListComp elt [⟨tg,iter,ifs,0⟩] scope pos) scope X.env _ (newList []) false (eval iter X.env) (some (assign (.Name y py) X.env))) _ _ s;refine ac (on (NJ (use:=some (assign (.Name y py) X.env)) (Q:=fun _ s'=>SP X pins D .next s') rfl hs iR B.1 (fun y hy=>(B.2.1 y hy).2.1)
  (on (hi pins s σ H _ I h) (fun xv s1 h1=>on h1 (fun uX s2 h2=>?_) fun _ _ z=>z) fun _ _ z=>z)) (fun _ s' hq=>bi (bi hq)) fun _ _ z=>z)
 obtain⟨it,fp,a7,J,H2,e,I2,T,mM,f2,q2⟩:=h2;subst e;refine vf (RR:=fun acc C=>compPost (model X.prog X.w) X.A X.xe (some (assign (.Name y py) X.env)) (fun _ s'=>SP X pins D .next s') acc C) hc B hg ht he I2 T mM f2 cc dI q2 fun E C m s' H' J2 fC hm q=>?_
 show c8 _ X.A (assign (.Name y py) X.env (.ref E)) _ _ s';refine aav (store_ok2 J2 hN cN (.inl hy) (v:=.ref E) rfl (fun s3 J3 ⟨a,jc,ha⟩=>?_) (.inr hy))
 have d8:C≠a :=by
  rcases ha with z|z
  ·rw[z];exact fC.2.1
  ·exact fun w=>fC.2.2.2.2.1 _ _ z w.symm
 exact⟨m,hm.sameBut jc d8,fun h' gX=>⟨_,H',fC.turn J3 gX,q⟩⟩
end
def Tb (P:ag) (H:Hp):Prop:=∃ps,H P=some (.cV ps)/\YZ ps.toList
section
variable {X:Cx}{pins:List (ag×l9)}{σ:St}{H:Hp}{s:ba}{P:ag}{ps more:Array al}{h':i8}
theorem Inv.grown (I:Inv X pins σ H s) (hP:H P=some (.cV ps)) (k:∀b o,b≠P->s.heap.get? b=some o->h'.get? b=some o) (n:h'.get? P=some {cls:=.none,data:=.fields (ps++more)}) (t':Nat) :
  Inv X pins σ (upd H P (.cV (ps++more))) {s with heap:=h',toks:=t'}:=by
 have ne:∀b u,H b=some u->u≠.cV ps->b≠P:=fun b u e d=>wq e hP d
 have nn:∀b,H b=none->b≠P:=fun b e z=>by rw[z,hP]at e;cases e
 refine I.un ⟨fun b o e q _ _=>k b o (nn b q) e,fun b o e q _ _=>⟨o.slots,k b o (nn b q) e⟩,fun b o e q _=>by rw[ao (nn b q)];exact q,fun b o e _=>?_,fun b xs e=>by rw[ao (ne b _ e (by intro z;cases z))];exact e,
  fun b o u e=>by rw[ao (ne b _ e (by intro z;cases z))];exact e,fun b qs e=>?_⟩ fun b u e=>?_
 ·by_cases hb:b=P
  ·subst hb;exact⟨_,n⟩
  ·exact⟨o,k b o hb e⟩
 ·by_cases hb:b=P
  ·subst hb;rw[hP]at e;cases e;exact⟨more,aH⟩
  ·exact⟨#[],by rw[ao hb,e];simp⟩
 ·by_cases hb:b=P
  ·subst hb;rw[aH]at e;cases e;exact n
  ·rw[ao hb]at e;refine(I.hok b u e).bQ (fun c v hc q=>k c v ?_ q) (fun c q=>?_) fun c xs q=>?_
   ·rcases hc with z|z
    ·rw[z];exact hb
    ·exact ne c _ z (by intro w;cases w)
   ·rw[ao (ne c _ q (by intro w;cases w))];exact q
   ·rw[ao (ne c _ q (by intro w;cases w))];exact q
theorem uk {c:ag}{pos:wv}{qn:ci}{scope:wT}{Q:al->ba->Prop}{A:sB}{E:al->ba->Prop}(I:Inv X pins σ H s) (hc:X.env.code=.ref c) (hd:u7 X.base c P) (hP:H P=some (.cV ps)) (ht:YZ ps.toList)
  (h:∀code mU s',YZ mU.toList->Inv X pins σ (upd H P (.cV mU)) s'->(∀b o,b≠P->s.heap.get? b=some o->s'.heap.get? b=some o)->s'.gens=s.gens->Q code s'):c8 (model X.prog X.w) A (genexprCode X.env pos qn scope) Q E s :=by
 have S3:s.heap.get? P=some (YA ps):=I.hok P _ hP;have jI:=hd.keeps I.bk;have ic:=jI.code S3 ht;cases q:codeAmong pos ps.toList with
 |some c'=>
  refine wpAny_genexprCode_hit hc ic q (h c' ps s ht ?_ (fun _ _ _ e=>e) rfl)
  have e:upd H P (.cV ps)=H :=by
   funext b
   by_cases hb:b=P
   ·subst hb;rw[aH,hP]
   ·rw[ao hb]
  rw[e];exact I
 |none=>
  refine wpAny_genexprCodeX hc ic (jI.tab S3) q fun c' h' tk ex h1 h2 X3 _ ta _=>?_
  obtain⟨_,JH⟩:=ta;have tr:YZ (ps++#[rawInt pos.line,rawInt pos.col,ss c']).toList :=by
   rw[Array.toList_append];exact TriplesOk_snoc _ _ _ _ ht
  exact h _ _ _ tr (I.grown hP (fun b o hb e=>ex b o hb e) JH tk) (fun b o hb e=>ex b o hb e) rfl
end
def iT (s aX:ba):Prop:=aX.heap=s.heap/\aX.os=s.os/\Gn s.gens.size aX.gens
theorem Inv.iw {X:Cx}{pins:List (ag×l9)}{σ:St}{H:Hp}{s aX:ba}(I:Inv X pins σ H s) (o:iT s aX):Inv X pins σ H aX :=by
 obtain⟨h,g,d,t,os⟩:=s;obtain⟨h',g',d',t',SX⟩:=aX;obtain⟨e1,e2,e3⟩:=o;cases e1;cases e2;exact⟨I.ok,I.os,I.bare.trans e3,I.base,I.loc,I.cell,I.free,I.freeC,I.pin,I.hok,I.len⟩
section
variable {Y:Cx}{A2:sB}{tg elt iter:io}{ifs:List io}{scope:wT}{pos:wv}{it:ag}{fp:List ag}{a7:Nat->i8->Prop}{J:It}{g:TG}{tt:TT}{te:TE}{pp:List (ag×l9)}{R:GenEnd}{Yp:Protocol}
def Hy (J:It) (g:TG) (tt:TT) (te:TE) (stopAt:Bool) (Z:Bool->Hp->Prop) (W:Nat->Nat->St->Hp->Prop):Prop:=∀i m τ H,W i m τ H->
 (J.stop i H/\Z (!stopAt) H)\/(J.go i H/\∀x H',J.yld i H x H'->g x τ H' fun au H2=>tt au H2 fun b H3=>if b=true then te au H3 fun y H4=>∃c,y=.bl c/\(if c=stopAt then Z stopAt H4 else ∃m',m'<m/\W (i+1) m' au H4) else ∃m',m'<m/\W (i+1) m' au H3)
theorem xi (hA:Y.A=A2.over (.compLoop (.GeneratorExp elt [⟨tg,iter,ifs,0⟩] scope pos) 0 (.ref it) .none Y.env) []) (oH:Y.xe=fun _ _=>False) (hc:Y.calm=true) (jd:Y.env.scope.isCoroutine=false)
  (T:Turn Y.prog Y.w Y.K tg J fp it a7) (hg:PG Y tg g) (ht:fO Y ifs tt) (he:PE Y elt te) (stat:∀{H':Hp},(∀b∈fp,H' b=none)->∀b∈fp,bR Y pp H' b)
  {W:Nat->Nat->St->Hp->Prop} {Z:Bool->Hp->Prop} {stopAt:Bool} (turn:Hy J g tt te stopAt Z W)
  (hR:∀n s₀ az τ H,Inv Y pp τ H az->Z (!stopAt) H->R n s₀ (.ok .next) az)
  (hY:∀n s₀ s lX c τ H,Inv Y pp τ H s->(c=stopAt->Z stopAt H)->(c≠stopAt->∀aX,iT s aX->lX (.send .none) aX)->Yp n s₀ (.bool c) s lX) :
  ∀(m n i:Nat) (τ:St) (H:Hp) (s s₀:ba),m<n->W i m τ H->Inv Y pp τ H s->a7 i s.heap->(∀b∈fp,H b=none)->
   Seg (model Y.prog Y.w) A2 R Yp n s₀ (.compLoop (.GeneratorExp elt [⟨tg,iter,ifs,0⟩] scope pos) 0 (.ref it) .none Y.env)
    ((model Y.prog Y.w).den (.compLoop (.GeneratorExp elt [⟨tg,iter,ifs,0⟩] scope pos) 0 (.ref it) .none Y.env)) [] s :=by
 intro m;induction m using Yo with
 |ind m ih=>
  intro n i τ H s s₀ S4 w I st fr;show Seg _ A2 _ _ _ s₀ _ ((compTurn (.GeneratorExp elt [⟨tg,iter,ifs,0⟩] scope pos) 0 (.ref it) .none Y.env).onRaise (leaving Y.env)) [] s;rw[compTurn_gen,Z6];rcases turn i m τ H w with ⟨stop,qn⟩|⟨go,step⟩
  ·refine xy (DO ?_);have d:=T.done Y rfl rfl rfl hc i pp s τ H (fun _ _=>False) I (stat fr) st stop
   rw[hA]at d;refine xy (on d (fun r s1 ⟨hr,I1⟩=>?_) fun _ _ z=>z.elim)
   subst hr;exact seg_end (.ok .next) (hR _ _ _ _ _ I1 qn)
  ·refine xy (DO ?_);have d:=T.item Y rfl rfl rfl hc i pp s τ H (fun _ _=>False) I (stat fr) st go
   rw[hA]at d;refine xy (on d (fun r s4 ⟨u,hr,h4⟩=>?_) fun _ _ z=>z.elim)
   subst hr;refine xy (on h4 (fun _ s5 ⟨x,H5,I5,r5,y5,kQ,wQ⟩=>?_) fun _ _ z=>z.elim)
   have wR:=I5.pinned (stat wQ) (T.obj _ _ kQ);have back:∀{qJ:St} {H7:Hp} {s7:ba},Inv Y (pp++fZ fp s5.heap) qJ H7 s7->a7 (i+1) s7.heap/\∀b∈fp,H7 b=none:=fun {qJ H7 s7} I7=>by
    refine⟨T.keep _ _ _ kQ fun b hb o e=>(I7.pin (b,o) (f8 _ (f8 _ (cQ hb e)))).1,fun b hb=>?_⟩
    obtain⟨o,e,d⟩:=T.obj _ _ kQ b hb;exact(I7.pin (b,o) (f8 _ (f8 _ (cQ hb e)))).2.1
   have d2:=hg _ s5 τ H5 x u _ wR r5 (step x H5 y5);rw[hA,oH]at d2;refine xy (on d2 (fun _ s6 ⟨j9,H6,I6,q6⟩=>?_) fun _ _ z=>z.elim)
   have d3:=ht _ s6 j9 H6 _ I6 q6;rw[hA,oH]at d3;refine xy (on d3 (fun ok s7 ⟨H7,I7,q7⟩=>?_) fun _ _ z=>z.elim)
   have hy:∀v,yieldOut Y.env v=yieldValue v:=fun v=>by simp only[yieldOut,jd,i4,if_false]
   cases ok with
   |false=>
    simp only[i4,if_false]at q7 ⊢;obtain⟨m',oM,w7⟩:=q7;exact ZC rfl (ih m' oM n (i+1) j9 H7 s7 s₀ (by omega) w7 I7.dG (back I7).1 (back I7).2)
   |true=>
    simp only[if_true]at q7 ⊢;simp only[hy];rw[Zb,Zb,aam,aam];have d4:=he _ s7 j9 H7 _ I7 q7;rw[hA,oH]at d4;refine seg_wrap (on d4 (fun yv s8 ⟨y,H8,I8,r8,q8⟩=>?_) fun _ _ z=>z.elim)
    obtain⟨c,ey,q8⟩:=q8;subst ey;cases (show yv=ZJ c from r8);obtain⟨n,rfl⟩:∃n',n=n'+1:=⟨n - 1,by omega⟩
    refine seg_at (seg_yield rfl rfl rfl (hY _ _ _ _ c j9 H8 I8.dG (fun e=>by rw[if_pos e]at q8;exact q8) fun e aX ok=>?_))
    rw[if_neg e]at q8;obtain⟨m',oM,w8⟩:=q8;have I9:=I8.iw ok;exact ZC rfl (ih m' oM n (i+1) j9 H8 aX aX (by omega) w8 I9.dG (back I9).1 (back I9).2)
end
abbrev dh (elt tg iter:io) (ifs:List io) (scope:wT) (pos:wv):io:=.GeneratorExp elt [⟨tg,iter,ifs,0⟩] scope pos
abbrev NR (X:Cx) (N':List ci) (scope:wT) (cl:List (ci×ag)) (C:ag) (code:al) (A':sB) (s:ba) (H:Hp) (fp:List ag):Cx:=
 cxBlock X N' (genEnv scope cl C code ET X.env) A' (genEnv scope cl C code ET X.env::X.stack) s H fp
abbrev dW (X:Cx) (N':List ci) (scope:wT) (k:Nat) (P:Cx->Prop):Prop:=∀(cl:List (ci×ag)) (C:ag) (code:al) (A':sB) (s:ba) (H:Hp) (fp:List ag),bZ k A'->P (NR X N' scope cl C code A' s H fp)
structure CH (X:Cx) (pins:List (ag×l9)) (σ:St) (N':List ci) (scope:wT) (tn:Nat) (idx:List Nat) (k:Nat) (elt tg iter:io) (ifs:List io) (pos:wv) (J:It) (H3:Hp) (a:ag) (s5:ba)
  (Y:Cx) (it:ag) (fp:List ag) (a7:Nat->i8->Prop) (g:Nat) (pp:List (ag×l9)):Prop where
 inv:Inv Y pp (aQ tn idx σ) H3 s5
 isg:∀{τ:St} {H':Hp} {s':ba},Inv Y pp τ H' s'->s'.heap.IsGen a g
 st:s5.gens[g]?=some (.fresh (.compStart (dh elt tg iter ifs scope pos) 0 (.ref it) .none Y.env))
 T:Turn Y.prog Y.w Y.K tg J fp it a7
 tn0:a7 0 s5.heap
 fr:∀b∈fp,H3 b=none
 stat:∀{H':Hp},(∀b∈fp,H' b=none)->∀b∈fp,bR Y pp H' b
 out:∀{τ:St} {H':Hp} {s':ba},Inv Y pp τ H' s'->Inv X pins σ H' s'
 A:Y.A=X.A.in4.in1.over (.compLoop (dh elt tg iter ifs scope pos) 0 (.ref it) .none Y.env) []
 xe:Y.xe=fun _ _=>False
 calm:Y.calm=true
 co:Y.env.scope.isCoroutine=false
 gsz:∀{τ:St} {H':Hp} {s':ba},Inv Y pp τ H' s'->g<s'.gens.size
 blk:∀P:Cx->Prop,dW X N' scope k P->P Y
 prog:Y.prog=X.prog
 w:Y.w=X.w
section
variable {X:Cx}{tg elt iter:io}{ifs:List io}{scope:wT}{pos:wv}{N':List ci}{tn:Nat}{idx:List Nat}{wi:TI}{g:TG}{tt:TT}{te:TE}{c P:ag}{k:Nat}
def EV (P:ag) (wi:TI) (R:It->Hp->Prop):St->Hp->Prop:=fun σ H=>wi σ H fun J H1=>Tb P H1/\∀ps,YZ ps.toList->R J (upd H1 P (.cV ps))
theorem rF {pins:List (ag×l9)}{s:ba}{σ:St}{H:Hp}{QQ:al->ba->Prop}{R:It->Hp->Prop}(hr:bZ (k+1) X.A) (hc:X.calm=true) (B:aD X.N X.env.scope scope N' tn idx)
  (h0:scope.names.lookup (".0" : ci)=some .local) (jd:scope.isCoroutine=false) (gA:X.env.code=.ref c) (hd:u7 X.base c P) (eW:∃bm ob,Zs X.base li X.mg bm ob)
  (hi:PI X tg iter wi) (hs:∀x,genFold iter X.env x=pure x) (I:Inv X pins σ H s) (h:EV P wi R σ H)
  (q:∀J H3 a s5 Y it fp a7 gn pp,CH X pins σ N' scope tn idx k elt tg iter ifs pos J H3 a s5 Y it fp a7 gn pp->R J H3->QQ (.ref a) s5) :
  c8 (model X.prog X.w) X.A (eval (dh elt tg iter ifs scope pos) X.env) QQ X.xe s :=by
 obtain⟨cl,iR,cc,dI⟩:=gz (scope:=scope) (env:=X.env) fun n hn=>I.ok.has n ((B.2.1 _ hn).2.2 rfl)
 refine wpAny_GeneratorExp_make jd iR (fun y hy=>(B.2.1 y hy).1) h0 B.1 hr.depth (thn (hi pins s σ H _ I h) fun xv s1 h1=>thn h1 fun uX s2 h2=>?_) hs
 obtain⟨it,fp,a7,J,H2,e,I2,T,mM,f2,⟨ps,hP,EW⟩,q2⟩:=h2;subst e;refine⟨I2.nolimit,uk I2 gA hd hP EW fun code mU s3 NS I3 kp X4=>?_⟩
 obtain⟨bm,ob,bmod⟩:=eW;have xj:=bmod.keeps I3.bk;refine wpAny_builtinsFor (by rw[I3.ok.glob];exact xj.ns) xj.name xj.ne xj.obj xj.cls xj.dict xj.data ?_
 intro h' wK gX;have S5:∀b∈fp,b≠P:=fun b hb z=>by have:=(f2 b hb).1;rw[z,hP]at this;cases this
 have uZ:a7 0 s3.heap:=T.keep _ _ _ mM fun b hb o e=>kp b o (S5 b hb) e
 have iH:∀b∈fp,b<s3.heap.objs.size:=fun b hb=>let ⟨o,e,_⟩:=T.obj _ _ uZ b hb;kt e
 have f3:∀b∈fp,bR X pins (upd H2 P (.cV mU)) b:=fun b hb=>⟨by rw[ao (S5 b hb)];exact(f2 b hb).1,(f2 b hb).2⟩
 have hsz:h'.objs.size=s3.heap.objs.size+1 :=by rw[gX.1,xp]
 have RO:∀b o,s3.heap.get? b=some o->h'.get? b=some o:=fun b o e=>gX.extBut b o (l5 (kt e)) (br _ e)
 have S6:Gn s3.gens.size (s3.gens.push (.fresh (.compStart (dh elt tg iter ifs scope pos) 0 (.ref it) .none (genEnv scope cl s3.heap.objs.size code ET X.env)))):=⟨aaZ.push I3.bare.1 rfl,by rw[Array.size_push];exact IR _⟩
 have S7:Inv X pins σ (upd H2 P (.cV mU)) {s3 with gens:=s3.gens.push (.fresh (.compStart (dh elt tg iter ifs scope pos) 0 (.ref it) .none (genEnv scope cl s3.heap.objs.size code ET X.env)))}:=I3.iw ⟨rfl,rfl,S6⟩
 have hA:(X.A.in4.in1.over (.compLoop (dh elt tg iter ifs scope pos) 0 (.ref it) .none (genEnv scope cl s3.heap.objs.size code ET X.env)) []).frames=some (genEnv scope cl s3.heap.objs.size code ET X.env::X.stack) :=by
  show pushEnvs [_] (pushEnvs [] X.A.frames)=_;rw[I.ok.frames];rfl
 have qg:bZ k (X.A.in4.in1.over (.compLoop (dh elt tg iter ifs scope pos) 0 (.ref it) .none (genEnv scope cl s3.heap.objs.size code ET X.env)) []) :=by
  refine⟨hr.hd,?_,?_⟩
  ·show X.A.depth+0+1+3 * k+5<recursionLimit;have:=hr.dp;omega
  ·show X.A.units+1+1+1+1+1+0+3+16 * k+200<CS;have:=hr.un;omega
 generalize oN:({cls:=.type "generator",data:=.fields #[.int s3.gens.size 0,.str "<genexpr>" (s3.toks+1),.str (X.env.qual ++ "<genexpr>") (s3.toks+1+1)]}:l9)=qN
 have wy:∀b o,s3.heap.get? b=some o->(h'.push qN).get? b=some o:=fun b o e=>br _ (RO b o e)
 have UW:qN.isFreed=false :=by rw[<- oN];rfl
 have VI:(h'.push qN).get? h'.objs.size=some qN:=ij _ UW;have VJ:h'.objs.size≠s3.heap.objs.size :=by rw[hsz];exact Nat.succ_ne_self _
 have VL:upd H2 P (.cV mU) h'.objs.size=none:=I3.hok.fresh (by rw[hsz];exact IR _)
 have I5:=lU (X:=X) (N':=N') (A':=X.A.in4.in1.over (.compLoop (dh elt tg iter ifs scope pos) 0 (.ref it) .none (genEnv scope cl s3.heap.objs.size code ET X.env)) []) (env':=genEnv scope cl s3.heap.objs.size code ET X.env) (stack':=genEnv scope cl s3.heap.objs.size code ET X.env::X.stack) (ex:=fp) (h1:=h'.push qN) (m0:=fun y=>if y = ".0" then some (.ref it) else none)
  (g':=s3.gens.push (.fresh (.compStart (dh elt tg iter ifs scope pos) 0 (.ref it) .none (genEnv scope cl s3.heap.objs.size code ET X.env)))) (tk:=s3.toks+1+1+1) (aO:=aQ tn idx σ) S7 B.1 rfl I3.ok.blt.symm cc (fun x hx=>by
   have fh:scope.names.lookup x=some .cell\/scope.names.lookup x=some .free:=hx;rcases fh with z|z
   ·exact absurd rfl ((B.2.1 _ (u4 z)).1)
   ·exact dI x (u4 z)) (fun z=>I.ok.hd z) hA (.inr ⟨rfl,rfl⟩) (cb _) f3 iH (Un.kept wy) (I3.hok.kept wy) (I3.hok.fresh (cb _)) wy (wK.push _) (fun i x v e1 e2 e3=>by
   obtain⟨fr,j,e4,e5⟩:=B.at e1 e2;have kx:=(B.2.1 _ (u4 fr)).2.2 rfl;exact⟨.inr fr,.inr kx,kx,j,e4,e5⟩) (B.len σ) (Gn.self S6)
 have VM:h'.objs.size ∉ gO X.stack:=fun z=>by
  rcases lp.mp (I3.fX _ z) with q|q
  ·exact Yy (sK I3.lt (by rw[hsz];exact IR _)) q
  ·exact I3.MD (by rw[hsz];exact IR _) q
 have wt:∀v,qN.data≠.cell v :=by rw[<- oN];intro v z;cases z
 have I6:=I5.kD (pins':=[(h'.objs.size,qN)]) (fun p hp=>by
  rcases lc.mp hp with rfl
  exact⟨VI,VL,VJ,VM,wt⟩)
 refine q J _ _ _ (NR X N' scope cl s3.heap.objs.size code _ _ _ fp) it fp a7 s3.gens.size [(h'.objs.size,qN)] ⟨I6,fun {τ H' s'} J'=>?_,?_,T,T.keep _ _ _ uZ fun b _ o e=>wy b o e,fun b hb=>(f3 b hb).1,fun {H'} hn b hb=>?_,fun {τ H' s'} J'=>?_,rfl,rfl,hc,jd,fun {τ H' s'} J'=>?_,fun Pp hb=>hb cl _ code _ _ _ fp qg,rfl,rfl⟩ (q2 mU NS)
 ·have:=(J'.pin (h'.objs.size,qN) (f8 _ (lc.mpr rfl))).1;exact⟨qN,_,_,this,by rw[<- oN],by rw[<- oN],by rw[<- oN]⟩
 ·exact Array.getElem?_push_size ..
 ·refine⟨hn b hb,l5 (iH b hb),fun z=>?_,.inl hb,fun x c e=>(f2 b hb).2.2.2.2.1 x c (cc x c e),fun p hp z=>?_⟩
  ·rcases lp.mp (I2.fX b z) with q|q
   ·exact(f2 b hb).2.1 q
   ·exact(f2 b hb).2.2.1 q
  ·rcases lc.mp hp with rfl
   have z':h'.objs.size=b:=z;have:=iH b hb;rw[<- z',hsz]at this;exact absurd this (Nat.not_lt.mpr (IR _))
 ·exact S7.qd J'.os J'.base J'.hok J'.bare fun b hb=>⟨(f3 b hb).2.2.2.1,(f3 b hb).2.1,(f3 b hb).2.2.2.2.1,(f3 b hb).2.2.2.2.2⟩
 ·have:=J'.bare.2;have e:(NR X N' scope cl s3.heap.objs.size code (X.A.in4.in1.over (.compLoop (dh elt tg iter ifs scope pos) 0 (.ref it) .none (genEnv scope cl s3.heap.objs.size code ET X.env)) []) {s3 with gens:=s3.gens.push (.fresh (.compStart (dh elt tg iter ifs scope pos) 0 (.ref it) .none (genEnv scope cl s3.heap.objs.size code ET X.env)))} (upd H2 P (.cV mU)) fp).s₀.gens.size=s3.gens.size+1 :=by
   show (s3.gens.push _).size=_;rw[Array.size_push]
  rw[e]at this;omega
theorem Hz {prog:jp}{w:lf}{A:sB}{a:ag}{R':Zl->ba->Prop}(In:Nat->ba->Prop)
  (turn:∀n s,In n s->c8 (model prog w) A.in1 (pyNext (.ref a)) (fun r s1=>match r with
   |none=>R' (.ok (.ret (.bool true))) s1
   |some v=>∃c,v=.bool c/\if c=true then ∃m,m<n/\In m s1 else R' (.ok (.ret (.bool false))) s1) (fun e s'=>R' (.error e) s') s) :
  ∀(n:Nat) (s:ba),In n s->OE (model prog w) A (.builtin "all.loop" ⟨[.ref a],[]⟩) R' s :=by
 intro n;induction n using Yo with
 |ind n ih=>
  intro s h;refine Mc F.entry_all_loop ?_;rw[Go Zt _];show c8 _ A.in1 (pyNext (.ref a)>>=_) _ _ s;refine ac (on (turn n s h) (fun r s1 q=>?_) fun _ _ z=>z)
  cases r with
  |none=>exact ac (GS (bi q))
  |some v=>
   obtain⟨c,e,q⟩:=q;subst e;refine ac (wS (BB ?_));refine ac (T0 ?_);cases c with
   |true=>
    simp only[if_true]at q ⊢;obtain⟨m,hm,hI⟩:=q;exact bi ⟨FS Zt _,ih m hm s1 hI⟩
   |false=>
    simp only[i4,if_false]at q ⊢;exact ac (GS (bi q))
theorem d9 {s:ba}{g:Nat}{x:YX}{n:Nat}(h:Gn n s.gens) (hx:x.bare=true):Gn s.gens.size (s.setGen g x).gens :=by
 refine⟨fun y hy=>?_,?_⟩
 ·have VN:y∈s.gens.setIfInBounds g x:=hy;rcases Array.mem_or_eq_of_mem_setIfInBounds VN with z|z
  ·exact h.1 y z
  ·rw[z];exact hx
 ·show s.gens.size<=(s.gens.setIfInBounds g x).size;rw[Array.size_setIfInBounds];exact cb _
theorem oO {s:ba}{g:Nat}{x:YX}(h:g<s.gens.size):(s.setGen g x).gens[g]?=some x :=by
 show (s.gens.setIfInBounds g x)[g]?=_;rw[Array.getElem?_setIfInBounds_self];simp[h]
theorem oP {Y:Cx}{A2:sB}{R:GenEnd}{Yp:Protocol}{n:Nat}{s₀ s:ba}{it:ag}{J:It}{fp:List ag}{a7:Nat->i8->Prop}(T:Turn Y.prog Y.w Y.K tg J fp it a7) {i:Nat}(st:a7 i s.heap)
  (loop:Seg (model Y.prog Y.w) A2 R Yp n s₀ (.compLoop (dh elt tg iter ifs scope pos) 0 (.ref it) .none Y.env) ((model Y.prog Y.w).den (.compLoop (dh elt tg iter ifs scope pos) 0 (.ref it) .none Y.env)) [] s) :
  Seg (model Y.prog Y.w) A2 R Yp n s₀ (.compStart (dh elt tg iter ifs scope pos) 0 (.ref it) .none Y.env) ((model Y.prog Y.w).den (.compStart (dh elt tg iter ifs scope pos) 0 (.ref it) .none Y.env)) [] s :=by
 show Seg _ A2 _ _ _ s₀ _ ((aa6 (dh elt tg iter ifs scope pos) 0 (.ref it) .none Y.env).onRaise (leaving Y.env)) [] s;unfold aa6;rw[Z6];show Seg _ A2 _ _ _ s₀ _ ((ask>>=_).wrap _ _ _ _) [] s;refine xy (YE ?_);split
 ·exact ZC rfl loop
 ·first
   |exact xy (GS (xy (DO (xy (T.self _ i s _ _ st (ZC rfl loop))))))
   |(refine xy (GS ?_);show Seg _ A2 _ _ _ s₀ _ ((standAt iter.pos>>=_).wrap _ _ _ _) [] s;exact xy (DO (xy (T.self _ i s _ _ st (ZC rfl loop)))))
def NT (P:ag) (tn:Nat) (idx:List Nat) (wi:TI) (g:TG) (tt:TT) (te:TE):TE:=fun σ H Q=>EV P wi (fun J H1=>∃W:Nat->Nat->St->Hp->Prop,(∃m,W 0 m (aQ tn idx σ) H1)/\Hy J g tt te false (fun b H2=>Q (.bl b) H2) W) σ H
theorem NU {p gR:wv}(hr:bZ (k+1) X.A) (hc:X.calm=true) (B:aD X.N X.env.scope scope N' tn idx)
  (h0:scope.names.lookup (".0" : ci)=some .local) (jd:scope.isCoroutine=false) (gA:X.env.code=.ref c) (hd:u7 X.base c P) (eW:∃bm ob,Zs X.base li X.mg bm ob)
  (iU:Gl X "all") (hm:X.mg "all" = none) (hi:PI X tg iter wi) (hg:dW X N' scope k fun Y=>PG Y tg g) (ht:dW X N' scope k fun Y=>fO Y ifs tt) (he:dW X N' scope k fun Y=>PE Y elt te)
  (hs:∀x,genFold iter X.env x=pure x :=by intro _;rfl):PE X (.Call (.Name "all" p) [dh elt tg iter ifs scope gR] [] pos) (NT P tn idx wi g tt te) :=by
 refine⟨?_⟩;intro pins s σ H Q I h;refine Ll (fY I iU hm PyProof.Rows.boot_all ?_);refine NH ?_ rfl rfl;show c8 _ _ (spliced ((false,eval (dh elt tg iter ifs scope gR) X.env)::[])) _ _ s;refine KM (rF hr hc B h0 jd gA hd eW hi hs I h ?_);intro J H3 a s5 Y it fp a7 gn pp G ⟨W,⟨m0,w0⟩,turn⟩;refine Os ?_;refine Y0 F.kind_all F.plain_all F.entry_all (F.args_all1 _) ?_;unfold wl.«all»;refine ac (m:=oneArg "all" _) (bi ?_)
 refine ac (aaJ (G.isg G.inv) ?_);refine bi ⟨FS Zt _,?_⟩;have rG:=xi (A2:=X.A.in4.in1) (pp:=pp) (R:=fun n s₀ r az=>r=.ok .next/\∃τ H,Inv Y pp τ H az/\Q (.bl true) H)
  (Yp:=fun n s₀ v s lX=>∃c τ H,v=.bool c/\Inv Y pp τ H s/\(c=false->Q (.bl false) H)/\(c≠false->∀aX,iT s aX->lX (.send .none) aX)) G.A G.xe G.calm G.co G.T (G.blk _ hg) (G.blk _ ht) (G.blk _ he) G.stat turn
  (fun n s₀ az τ H J z=>⟨rfl,τ,H,J,z⟩) (fun n s₀ s lX c τ H J z1 z2=>⟨c,τ,H,rfl,J,z1,z2⟩)
 have hP:=G.prog;have hW:=G.w;rw[hP,hW]at rG;refine Hz (A:=X.A) (fun n s=>(∃τ H,Inv Y pp τ H s)/\∃gs,s.gens[gn]?=some gs/\∀aX,iT s aX->gs.Goes (model X.prog X.w) X.A.in4.in1 (fun n s₀ r az=>r=.ok .next/\∃τ H,Inv Y pp τ H az/\Q (.bl true) H)
  (fun n s₀ v s lX=>∃c τ H,v=.bool c/\Inv Y pp τ H s/\(c=false->Q (.bl false) H)/\(c≠false->∀aX,iT s aX->lX (.send .none) aX)) n (.send .none) aX) ?_ (m0+1) s5 ?_
 ·rintro n s6 ⟨⟨τ,H6,I6⟩,gs,EX,oN⟩;have UX:=G.gsz I6;refine PM (PM (PM ?_));show c8 (model X.prog X.w) X.A.in4 (pyNext (.ref a)) _ _ s6;refine ZU (A:=X.A.in4) (P:=fun n s₀ az=>∃τ H,Inv Y pp τ H az/\Q (.bl true) H) hr.hd I6.nolimit hr.depth (G.isg I6) EX (oN _ ⟨rfl,rfl,d9 I6.bare rfl⟩) (fun v s1 sI hb hv=>?_) (fun s1 hp h' hk=>?_)
  ·obtain⟨c,sJ,H1,e,I1,z1,z2⟩:=hv;subst e;refine⟨c,rfl,?_⟩;have oQ:iT s1 (s1.setGen gn sI):=⟨rfl,rfl,d9 I1.bare hb⟩;cases c with
   |false=>
    rw[if_neg gc];exact⟨.bl false,H1,G.out (I1.iw oQ),rfl,z1 rfl⟩
   |true=>
    rw[if_pos rfl];have z3:=z2 (by decide)
    cases n with
    |zero=>exact(z3 s1 ⟨rfl,rfl,I1.bare.self⟩).elim
    |succ m=>
     refine⟨m,AT _,⟨sJ,H1,I1.iw oQ⟩,sI,oO (G.gsz I1),fun aX o=>z3 aX ⟨o.1,o.2.1,?_⟩⟩
     exact oQ.2.2.trans o.2.2
  ·obtain⟨sJ,H1,I1,z1⟩:=hp;have I2:=I1.kept (t':=s1.toks) hk;have EY:iT {s1 with heap:=h'} {s1.setGen gn .finished with heap:=h'}:=⟨rfl,rfl,d9 (s:=s1) I1.bare rfl⟩
   exact⟨.bl true,H1,G.out (I2.iw EY),rfl,z1⟩
 ·refine⟨⟨_,_,G.inv⟩,_,G.st,fun aX o=>⟨rfl,?_⟩⟩
  have I7:=G.inv.iw o;have vg:a7 0 aX.heap :=by rw[o.1];exact G.tn0
  have q:=oP (iter:=iter) (ifs:=ifs) (scope:=scope) (pos:=gR) (elt:=elt) G.T vg (by rw[hP,hW];exact rG m0 (m0+1) 0 _ _ aX aX (AT _) w0 I7 vg G.fr)
  rw[hP,hW]at q;exact q
end
def EZ (x:ci):It:=⟨fun i _=>i<x.length,fun i H v H'=>H'=H/\∃c,x.cps[i]?=some c/\v=.str ⟨#[c]⟩,fun i _=>x.length<=i⟩
theorem xk {P:jp}{w:lf}{K:bv}{tg:io}(it:ag) (x:ci) (t:Zj) (ty:String) (oE:["enumerate","zip","dict_itemiterator","dict_reverseitemiterator","odict_iterator","itertools.zip_longest","itertools.pairwise"].contains ty=false)
  (W:∀A:sB,A.handled=none->aa9 P w A it [it] [it] x.cps.size (SignAt x) (fun i h=>h.IsStrIter it ty x t i))
  (self:∀(A:sB) (i:Nat) (s:ba) (Q:al->ba->Prop) (E:al->ba->Prop),s.heap.IsStrIter it ty x t i->Q (.ref it) s->c8 (model P w) A (pyIter (.ref it)) Q E s) :
  Turn P w K tg (EZ x) [it] it (fun i h=>h.IsStrIter it ty x t i/\i<=x.length) where
 mem :=by simp
 obj:=fun i h st b hb=>by
  have e:b=it :=by simpa using hb
  subst e;obtain⟨⟨o,ho,_,hd⟩,_⟩:=st;exact⟨o,ho,fun v z=>by rw[hd]at z;cases z⟩
 keep:=fun i h h' st k=>⟨let ⟨o,ho,r⟩:=st.1;⟨o,k it (by simp) o ho,r⟩,st.2⟩
 item :=by
  intro X hP hw hK hc i pins s σ H E I hf st hg;subst hP hw hK;obtain⟨f0,f1,f2,f3,f4,f5⟩:=hf it (by simp)
  have S8:i<x.cps.size:=hg;refine(W X.A (I.ok.hd hc)).item i s _ _ S8 st.1 fun v h' tk hv j7 kk=>?_
  obtain⟨c,u,VO,rfl⟩:=hv;have I1:Inv X pins σ H {s with heap:=h',toks:=tk}:=I.turned (fun b o hb e=>kk b o (by simpa using hb) e) f0 f1 f3 f4 f5
  obtain⟨o,ho,f9,hd⟩:=id j7;exact⟨_,rfl,wu (s:={s with heap:=h',toks:=tk}) (n:=ty) ho f9 hd oE ⟨.str ⟨#[c]⟩,H,I1,⟨u,rfl⟩,⟨rfl,c,VO,rfl⟩,⟨j7,S8⟩,fun b hb=>(hf b hb).1⟩⟩
 done :=by
  intro X hP hw hK hc i pins s σ H E I hf st hg;subst hP hw hK;obtain⟨f0,f1,f2,f3,f4,f5⟩:=hf it (by simp)
  have e:i=x.cps.size:=Nat.le_antisymm st.2 hg;subst e;exact(W X.A (I.ok.hd hc)).done s _ _ st.1 fun h' tk kk=>⟨rfl,I.turned (fun b o hb e=>kk b o (by simpa using hb) e) f0 f1 f3 f4 f5⟩
 self:=fun A i s Q E st h=>self A i s Q E st.1 h
section
variable {X:Cx}{tg l:io}{tl:TE}
def UY (tl:TE):TI:=fun σ H R=>tl σ H fun x H1=>∃z,x=.str z/\R (EZ z) H1
theorem NV (hl:PE X l tl):PI X tg l (UY tl) :=by
 intro pins s σ H R I h;refine thn (hl pins s σ H _ I h) fun v s1 ⟨y,H1,I1,r1,q1⟩=>?_
 obtain⟨z,rfl,q⟩:=q1;obtain⟨t,rfl⟩:=r1;have fin:∀(o:l9) (ty:String),(∀v,o.data≠.cell v)->(s1.heap.push o).IsStrIter s1.heap.objs.size ty z t 0->Turn X.prog X.w X.K tg (EZ z) [s1.heap.objs.size] s1.heap.objs.size (fun i h=>h.IsStrIter s1.heap.objs.size ty z t i/\i<=z.length)->MV X pins σ tg R (.ref s1.heap.objs.size) {s1 with heap:=s1.heap.push o}:=fun o ty hd hit T=>
  ⟨_,[s1.heap.objs.size],_,EZ z,H1,rfl,I1.kept (t':=s1.toks) (fun b u e=>br _ e),T,⟨hit,ut _⟩,fun b hb=>by
   have e:b=s1.heap.objs.size :=by simpa using hb
   subst e;exact I1.jZ (cb _) (I1.hok.fresh (cb _)),q⟩
 cases ha:z.cps.all (· < 128)
 ·exact wpAny_pyIter_wide ha (fin _ "str_iterator" (fun v e=>by cases e) ⟨_,ij _ rfl,rfl,rfl⟩ (xk _ z t _ (by decide) (fun A' hA=>aa9.strWide hA _ z t) fun A i s Q E st h=>wpAny_pyIter_striter_wide st h))
 ·exact wpAny_pyIter_ascii ha (fin _ "str_ascii_iterator" (fun v e=>by cases e) ⟨_,ij _ rfl,rfl,rfl⟩ (xk _ z t _ (by decide) (fun A' hA=>aa9.strAscii hA _ z t) fun A i s Q E st h=>wpAny_pyIter_striter_ascii st h))
def UZ:V->Option Int->Option Int->Hp->VK->Prop:=fun x lo hi H Q=>∃z,x=.str z/\z.length<=sizeLine/\Q (.str (ZD z lo hi)) H
theorem NW:JG X UZ :=by
 intro pins s σ H x v vl vu lo hi sl Q I rx hs pl pu h;obtain⟨z,rfl,hz,q⟩:=h;obtain⟨t,rfl⟩:=rx;refine⟨"str",_,F.slot_str_getitem.lookup,typeIs_str _ _ _,?_⟩
 have fin:∀(l u:Option (Int×Zj)),s.heap.IsSlice sl l u none->l.map (·.1)=lo->u.map (·.1)=hi->c8 (model X.prog X.w) X.A (getItem (.str z t) (.ref sl)) (EP X pins σ Q) X.xe s:=fun l u e e1 e2=>by
  refine wpAny_getItem_str_slice (l:=l) (u:=u) (st:=none) e rfl ?_;refine post_val_or_str ⟨?_,fun t' k=>?_⟩
  ·exact(show (ZD z (l.map (·.1)) (u.map (·.1))).length<=sizeLine from wb (Txt.slice_le z _ _) hz)
  ·refine⟨.str (ZD z lo hi),H,I.tok k,⟨t',?_⟩,q⟩;rw[<- e1,<- e2];rfl
 obtain⟨o,ho,hc,hd⟩:=hs;cases pl with
 |none=>
  cases pu with
  |none=>exact fin none none ⟨o,ho,hc,hd⟩ rfl rfl
  |int j uj=>exact fin none (some (j,uj)) ⟨o,ho,hc,hd⟩ rfl rfl
 |int i ui=>
  cases pu with
  |none=>exact fin (some (i,ui)) none ⟨o,ho,hc,hd⟩ rfl rfl
  |int j uj=>exact fin (some (i,ui)) (some (j,uj)) ⟨o,ho,hc,hd⟩ rfl rfl
theorem lY {xs:List V}{us:List al}(r:Vals xs us) {j:Nat}(h:j<us.toArray.size):RelV (xs.getD j .ay) us.toArray[j] :=by
 have hl:=r.length;have hj:j<xs.length :=by simpa[hl] using h
 obtain⟨u,e,q⟩:=r.get (i:=j) (x:=xs[j]) (ap hj);have e2:us.toArray[j]=u :=by
  rw[ca]at e;obtain⟨h',e⟩:=e;simpa using e
 rw[e2,cr,ap hj];exact q
theorem zL:cR X (.builtin "isinstance") (fun xs H Q=>∃x T t b,xs=[x,.ty T]/\iq X.K H x t/\Z9 X.K t (.type T)=some b/\Q (.bl b) H) :=by
 intro pins s σ H xs us Q I r h;obtain⟨x,T,t,b,rfl,ty,e,q⟩:=h;obtain⟨u,w',rfl,r1,r2⟩:=vals2 r;cases (show w'=LG T from r2);exact Es I r1 ty e fun tk=>⟨.bl b,H,I.tok tk,rfl,q⟩
theorem qO:∀{xs:List V}{us:List al},xs.length=us.length->(∀(i:Nat) (v:V),xs[i]?=some v->∃u,us[i]?=some u/\RelV v u)->Vals xs us
 | [],[],_,_=>.nil
 | [],_::_,h,_=>by simp at h
 |_::_,[],h,_=>by simp at h
 |x::xs,u::us,h,g=>by
          obtain⟨u',e,r⟩:=g 0 x rfl;have e':u=u':=by simpa using e
          subst e';exact .cons r (qO (by simpa using h) fun i v hv=>by
           obtain⟨w,e2,r2⟩:=g (i+1) v (by simpa using hv)
           exact⟨w,by simpa using e2,r2⟩)
theorem oR {e:io}{te:TE}{p p1 p2 pos:wv}(hc:X.calm=true) (hg:Gl X "list") (hm:X.mg "list" = none) (xl:Gl X "range") (E2:X.mg "range" = none) (he:PE X e te) (hs:lw [e] X.env=[(false,eval e X.env)] :=by rfl) :
  PE X (.Call (.Name "list" p) [.Call (.Name "range" p1) [e] [] p2] [] pos) (fun σ H Q=>te σ H fun x H1=>∃j:Int,x=.int j /\ -(2 ^ 24)<=j/\j<=2 ^ 24/\∀l,H1 l=none->Q (.ref l) (upd H1 l (.lst ((hX j.toNat).map fun i=>V.int (i:Nat))))) :=by
 refine⟨?_⟩;intro pins s σ H Q I h;refine Ll (fY I hg hm (by decide +kernel:zd "list" = some (.type "list")) ?_)
 refine IF ?_ rfl rfl;show c8 _ _ (spliced ((false,eval (.Call (.Name "range" p1) [e] [] p2) X.env)::[])) _ _ s
 refine KM ?_;refine Call_ (fY I xl E2 boot_range (IF ?_ hs rfl));rw[hs];refine KM (thn (he pins s σ H _ I h) fun v s1 ⟨x,H1,I1,r1,q1⟩=>Os ?_)
 obtain⟨j,rfl,b1,b2,q⟩:=q1;obtain⟨t,rfl⟩:=r1;refine call_range_1 ?_;refine Os ?_;refine call_list_range (n:=j.toNat) (I1.ok.hd hc) (IsRange.new ..) (small_one (by omega) (by omega) (by omega) (by omega)) (by rw[PyProof.Rows.rangeSize_nat];simp) (by omega) fun h' tk e7 c' hk hS hit=>?_
 have I2:Inv X pins σ H1 {s1 with heap:=s1.heap.push {cls:=.type "range",data:=.fields #[.int 0 s1.toks,.int j t,.int 1 (s1.toks+1)]},toks:=s1.toks+1+1}:=I1.kept fun b o e=>br _ e
 obtain⟨hsz,kZ⟩:=hit;have rv:Vals ((hX j.toNat).map fun i=>V.int (i:Nat)) e7.toList :=by
  refine qO (by simpa using hsz.symm) fun i v e=>?_
  rw[dL]at e;cases q2:(hX j.toNat)[i]? with
  |none=>rw[q2]at e;cases e
  |some k=>
   rw[q2]at e;have ek:k=i :=by
    obtain⟨_,e3⟩:=ca.mp q2;simpa using e3.symm
   have hi:i<e7.size :=by
    have:=(ca.mp q2).1;rw[At]at this;omega
   obtain⟨t2,e4⟩:=kZ i e7[i] (by simp[hi])
   refine⟨e7[i],by simp[hi],?_⟩
   rw[e4];have e5:v=V.int (k:Nat):=(lm e).symm;rw[e5,ek];exact⟨t2,by simp⟩
 have ob:ObjOk X.prog X.w (upd H1 (s1.heap.push {cls:=.type "range",data:=.fields #[.int 0 s1.toks,.int j t,.int 1 (s1.toks+1)]}).objs.size (.lst ((hX j.toNat).map fun i=>V.int (i:Nat)))) h' (s1.heap.push {cls:=.type "range",data:=.fields #[.int 0 s1.toks,.int j t,.int 1 (s1.toks+1)]}).objs.size (.lst ((hX j.toNat).map fun i=>V.int (i:Nat))) :=by
  refine⟨?_,e7.toList,c',rv,by simpa using hS⟩
  rw[bn,At];exact wb (show j.toNat<=2 ^ 24 by omega) (by decide)
 exact⟨.ref _,_,I2.laid (t':=tk) hk (cb _) ob,rfl,q _ (I2.hok.fresh (cb _))⟩
end
theorem NX:zd "int" = some (.type "int") :=by decide +kernel
theorem NY:zd "str" = some (.type "str") :=by decide +kernel
theorem K5:zd "bool" = some (.type "bool") :=by decide +kernel
theorem jh:zd "tuple" = some (.type "tuple") :=by decide +kernel
theorem K6:zd "list" = some (.type "list") :=by decide +kernel
theorem sL:zd "min" = some (.builtin "min") :=by decide +kernel
theorem E3:zd "max" = some (.builtin "max") :=by decide +kernel
theorem NZ:zd "abs" = some (.builtin "abs") :=by decide +kernel
theorem fi:zd "isinstance" = some (.builtin "isinstance") :=by decide +kernel
structure Bl (mg:ci->Option al):Prop where
 len_:mg "len" = none
 range_:mg "range" = none
 min_:mg "min" = none
 max_:mg "max" = none
 abs_:mg "abs" = none
 list_:mg "list" = none
 tuple_:mg "tuple" = none
 int_:mg "int" = none
 str_:mg "str" = none
 bool_:mg "bool" = none
 isinstance_:mg "isinstance" = none
 all_:mg "all" = none
 set_:mg "set" = none
 sorted_:mg "sorted" = none
 zip_:mg "zip" = none
 enumerate_:mg "enumerate" = none
 sum_:mg "sum" = none
 reversed_:mg "reversed" = none
 divmod_:mg "divmod" = none
 any_:mg "any" = none
 ValueError_:mg "ValueError" = none
structure Df (K:bv) (mg:ci->Option al) (x:ci) (st:wE) (ps:List ci) (f:ag) (fd:tz):Prop where
 fn:ve K x x st f fd
 bd:Binds K fd ps []
 mg:mg x=some (.ref f)
structure E4 (base:i8) (fd:tz) (c P:ag):Prop where
 code:fd.code=.ref c
 hd:u7 base c P
section
variable {P:jp}{w:lf}{K:bv}{mg:ci->Option al}{base:i8}
theorem ve.VP {x qual:ci}{st:wE}{f:ag}{fd:tz}{N ps:List ci}{k:Nat}{sp:Sp}(F:ve K x qual st f fd) (S:aP N ps (aq st)) (len:∀vs H Q E,sp vs H Q E->vs.length=ps.length)
  (sv:∀(A:sB) (outer:List ON) (s:ba) (H:Hp) (vs:List V) (Q:VK) (E:XK),bZ k (A.deeper (envOfC qual (aq st) s.heap.objs.size f fd.code))->sp vs H Q E->
   ∃t,iG (ir bA P w K mg base N qual (aq st) f fd.code A outer s H E).Ef (dE st) t/\t {nx:=fun _ H'=>Q .ay H',rt:=Q} (start N vs) H):FnOk P w K mg base bA (k+1) f fd ps sp :=by
 obtain⟨oc,od,kV,doc,pm,an,eG,ct,oB,rfl,lk,iN⟩:=F.ex;refine JE lk iN S len fun A outer s H vs Q E hr mQ=>?_
 obtain⟨t,h,q⟩:=sv A outer s H vs Q E hr mQ;exact⟨t,h.Ef,q⟩
end
def X5:V->Bool | .int _=>true|_=>false
def below (m:Int):V->Bool | .int i=>decide (0<=i) && decide (i<m)|_=>false
structure bu (aa:List (List Int)) (w:Nat):Prop where
 one:1<=aa.length
 nine:aa.length<=9
 wid:w=2\/w=3
 row:∀r∈aa,r.length=w/\∀g∈r,0<=g/\g<(aa.length:Int)
theorem kh {α β:Type}{F:α->β->Prop}:∀{xs:List α}{ys:List β}{i:Nat}{y:β},BY F xs ys->ys[i]?=some y->∃x,xs[i]?=some x/\F x y
 |_,_,_,_,.nil,e=>by simp at e
 |_,_,0,_,.cons f _,e=>by simp at e;subst e;exact⟨_,rfl,f⟩
 |_,_,i+1,y,.cons _ t,e=>by
          obtain⟨x,h1,h2⟩:=kh (i:=i) (y:=y) t (by simpa using e)
          exact⟨x,by simpa using h1,h2⟩
def JI (tb:List ag) (H:Hp):Prop:=∀p∈tb,Tb p H
def RP (H:Hp) (b:ag):Prop:=∃c m:Int,H b=some (.lst [.int c,.int m])/\0<=c/\0<=m
def Runs (J:It) (ys:List V) (H:Hp):Prop:=∀i,(i<ys.length->J.go i H/\∀x H',J.yld i H x H'->H'=H/\ys[i]?=some x)/\(ys.length<=i->J.stop i H)
def k4 (z:ci):List V:=z.cps.toList.map fun c=>.str ⟨#[c]⟩
theorem HA {K:bv}{a:ag}{ys:List V}{H:Hp}(h:c9 K H a ys):Runs (MY K a) ys H:=fun i=>
 ⟨fun hi=>⟨⟨ys,ys[i],h,ap hi⟩,fun x H' y=>⟨y.1,y.2 ys h⟩⟩,fun hi=>⟨ys,h,hi⟩⟩
theorem E5 {K:bv}{a:ag}{ys:List V}{H:Hp}(h:bF K H a ys):Runs (MX K a) ys H:=fun i=>
 ⟨fun hi=>⟨⟨ys,ys[i],h,ap hi⟩,fun x H' y=>⟨y.1,y.2 ys h⟩⟩,fun hi=>⟨ys,h,hi⟩⟩
theorem sM {lo:Int}{n:Nat}{H:Hp}:Runs (Eh lo n) ((hX n).map fun i=>V.int (lo+(i:Nat))) H:=fun i=>by
 have el:((hX n).map fun i=>V.int (lo+(i:Nat))).length=n :=by simp
 rw[el];refine⟨fun hi=>⟨hi,fun x H' y=>?_⟩,fun hi=>hi⟩
 obtain⟨e1,e2⟩:=y;refine⟨e1,?_⟩;rw[e2,dL,EU hi];rfl
theorem sN (z:ci):(k4 z).length=z.length :=by
 unfold k4;rw[bn];rfl
theorem HB {z:ci}{H:Hp}:Runs (EZ z) (k4 z) H:=fun i=>
 ⟨fun hi=>⟨by rw[sN]at hi;exact hi,fun x H' y=>by
  obtain⟨e,c,hc,rfl⟩:=y;refine⟨e,?_⟩;unfold k4;rw[dL,No,hc];rfl⟩,fun hi=>by rw[sN]at hi;exact hi⟩
section
variable {X:Cx}{K:bv}
theorem AV (h:X.K=K):oC X (S0 K):=h▸NB
theorem CI (h:X.K=K):OpR X (compareOp .In) (EB K false):=h▸EC
theorem v3 (h:X.K=K):OpR X (compareOp .NotIn) (EB K true):=h▸wY
theorem E6 (h:X.K=K):cR X (.builtin "len") (fun xs H Q=>∃x n,xs=[x]/\Nm K x H n/\Q (.int n) H):=h▸Hq
theorem v7 (h:X.K=K):cR X (.type "list") (fun xs H Q=>∃p ys,xs=[.ref p]/\(bF K H p ys\/c9 K H p ys)/\∀l,H l=none->Q (.ref l) (upd H l (.lst ys))):=h▸wZ
theorem um (h:X.K=K):cR X (.type "tuple") (fun xs H Q=>∃p ys,xs=[.ref p]/\((bF K H p ys/\∀l,H l=none->Q (.ref l) (upd H l (.tup ys)))\/(c9 K H p ys/\Q (.ref p) H))):=h▸vZ
theorem xm (h:X.K=K):cR X (.builtin "isinstance") (fun xs H Q=>∃x T t b,xs=[x,.ty T]/\iq K H x t/\Z9 K t (.type T)=some b/\Q (.bl b) H):=h▸zL
theorem HC {tg l:io}{tl:TE}(h:X.K=K) (hl:PE X l tl):PI X tg l (Jz K tl):=h▸KP hl
theorem K7 {tg l:io}{tl:TE}(h:X.K=K) (hl:PE X l tl):PI X tg l (MZ K tl):=h▸M6 hl
variable {o e:io}{es:List io}{to:TE}{t:TA}{name:ci}{apos aU:wv}{T id:String}{r:V->List V->Hp->VK->Prop}
theorem N0 (h:X.K=K) (pa:aaD T) (slot:Slot T name id) (oE:typeOf (.builtin id)=pure (.type "method_descriptor")) (hm:AR X id r) (ho:PE X o to) (ha:PA X (e::es) t) (ke:attributeBase o name X.env (eval o X.env)=eval o X.env :=by rfl)
  (nj:((backTo aU (lw (e::es) X.env)).all (fun x => !x.1) && (backToKw aU (keywordEach [] X.env)).all (fun x=>x.1.isSome)
   && decide ((e::es).length+([]:List UF).length+(if ([]:List UF).isEmpty then 0 else 1)<30))=true :=by rfl)
  (hline:(apos.endLine==aU.line)=true :=by rfl) (hs:lw (e::es) X.env=(false,eval e X.env)::lw es X.env :=by rfl) (iO:(backTo aU (lw es X.env)).any (·.1)=false :=by rfl) :
  PE X (.Call (.Attribute o name apos) (e::es) [] aU) (S1 K T r to t):=h▸RJ pa slot oE hm ho ha ke nj hline hs iO
end
abbrev bE (K:bv) (x:ci) (st:wE):Prop:=
 ∃(f:ag) (oc:al) (od:Option ag) (sl:Array (Option al)) (kV dc pm:al) (an:Option ag) (cd ct:al),
  ul K li x=some (some (.ref f))/\K.lookup f=some ⟨oc,od,.func (KF x x (gw st) (dE st) (aq st) .none kV dc pm an cd ct),sl⟩/\Yz K cd x=true/\Uf K (.ref f)=true
theorem HD {K:bv}{x:ci}{st:wE}{f:ag}{oc:al}{od:Option ag}{sl:Array (Option al)}{kV dc pm:al}{an:Option ag}{cd ct:al}(a:ul K li x=some (some (.ref f)))
  (l:K.lookup f=some ⟨oc,od,.func (KF x x (gw st) (dE st) (aq st) .none kV dc pm an cd ct),sl⟩) (c:Yz K cd x=true) (k:Uf K (.ref f)=true):bE K x st:=⟨f,oc,od,sl,kV,dc,pm,an,cd,ct,a,l,c,k⟩
section
variable {K:bv}{mg:ci->Option al}{h base:i8}
theorem bE.df {x:ci}{st:wE}(d:bE K x st) (X:K.In h) (G:h.Ns li mg) (ps:List ci)
  (hb:∀(kV doc pm:al) (an:Option ag) (eG ct:al) (us:List al),us.length=ps.length->bindArgs (KF x x (gw st) (dE st) (aq st) .none kV doc pm an eG ct) ⟨us,[]⟩=pure (ps.zip us)) :
  ∃f fd,Df K mg x st ps f fd :=by
 obtain⟨f,oc,od,sl,kV,dc,pm,an,cd,ct,a,l,c,k⟩:=d;have F:=NQ (st:=st) l c k;exact⟨f,_,F,F.binds hb,WS X G a⟩
theorem xn {x:ci}{st:wE}{ps:List ci}{f p:ag}{fd:tz}(D:Df K mg x st ps f fd) (X:K.In h)
  (t:∃f o fd c,mg x=some (.ref f)/\h.get? f=some o/\o.data=.func fd/\fd.code=.ref c/\u7 h c p) (tr:∀c p,u7 h c p->u7 base c p):∃c,E4 base fd c p :=by
 obtain⟨f',o,VQ,c,e1,e2,e3,e4,e5⟩:=t;obtain⟨oc,od,kV,doc,pm,an,eG,ct,oB,rfl,lk,iN⟩:=D.fn.ex;have e:=D.mg.symm.trans e1;cases e;have q:=(X _ _ lk).symm.trans e2;cases q;cases e3;exact⟨c,e4,tr _ _ e5⟩
theorem Df.bind1 {x y:ci}{st:wE}{f:ag}{fd:tz}(D:Df K mg x st [y] f fd) (s:ba) (v:al)
  (hb:∀(kV doc pm:al) (an:Option ag) (eG ct:al) (u:al),bindArgs (KF x x (gw st) (dE st) (aq st) .none kV doc pm an eG ct) ⟨[u],[]⟩=pure [(y,u)]):aaF s fd ⟨[v],[]⟩ [(y,v)] :=by
 obtain⟨oc,od,kV,doc,pm,an,eG,ct,oB,rfl,lk,iN⟩:=D.fn.ex;exact .of_eq (hb kV doc pm an eG ct v)
theorem jz {α β:Type}{F:α->β->Prop}{a:α}{r:List α}{t:List β}(h:BY F (a::r) t):∃b t',t=b::t'/\F a b/\BY F r t':=by
 cases h with
 |cons x y=>exact⟨_,_,rfl,x,y⟩
theorem recs_of {q:jp}{om:List ci}(h:(om.all fun y=>(recsOf q).any fun r=>decide (r.name=y))=true):∀y∈om,∃r∈recsOf q,r.name=y:=fun y hy=>by
 have:=u8.mp h y hy;obtain⟨r,hr,e⟩:=YF.mp this;exact⟨r,hr,of_decide_eq_true e⟩
end
def lZ (xs:Array Nat):Prop:=xs.toList.Pairwise (· < ·)
theorem k6 {xs:Array Nat}(h:lZ xs) {i j:Nat}(qP:i<j) (hj:j<xs.size):xs[i]<xs[j] :=by
 have:=JJ.mp h i j (by simpa using YB qP hj) (by simpa using hj) qP
 simpa using this
theorem below_go {xs:Array Nat}{v:Nat}(h:lZ xs):∀(fuel lo hi:Nat),hi - lo<=fuel->lo<=hi->hi<=xs.size->(∀i (cN:i<xs.size),i<lo->xs[i]<v)->(∀i (cN:i<xs.size),hi<=i->v<=xs[i])->
  Zc xs v fuel lo hi<=xs.size/\(∀i (cN:i<xs.size),i<Zc xs v fuel lo hi->xs[i]<v)/\∀i (cN:i<xs.size),Zc xs v fuel lo hi<=i->v<=xs[i]
 |0,lo,hi,hf,h1,h2,ha,hb=>by
          have e:lo=hi :=by omega
          subst e;exact⟨h2,ha,hb⟩
 |fuel+1,lo,hi,hf,h1,h2,ha,hb=>by
          unfold Zc;by_cases aM:lo<hi
          ·rw[if_pos aM];dsimp only;have hm:(lo+hi) / 2<xs.size :=by omega
           have e:xs.getD ((lo+hi) / 2) v=xs[(lo+hi) / 2] :=by simp[NL,hm]
           rw[e];by_cases hc:xs[(lo+hi) / 2]<v
           ·rw[if_pos hc];refine below_go h fuel _ _ (by omega) (by omega) h2 (fun i cN hl=>?_) hb
            by_cases ei:i=(lo+hi) / 2
            ·subst ei;exact hc
            ·exact YB (k6 h (show i<(lo+hi) / 2 by omega) hm) hc
           ·rw[if_neg hc];refine below_go h fuel _ _ (by omega) (by omega) (by omega) ha (fun i cN hl=>?_)
            by_cases ei:i=(lo+hi) / 2
            ·subst ei;exact Zq hc
            ·exact wb (Zq hc) (Pv (k6 h (show (lo+hi) / 2<i by omega) cN))
          ·rw[if_neg aM];have e:lo=hi :=by omega
           subst e;exact⟨h2,ha,hb⟩
theorem k7 {xs:Array Nat}(v:Nat) (h:lZ xs):rf xs v<=xs.size/\(∀i (cN:i<xs.size),i<rf xs v->xs[i]<v)/\∀i (cN:i<xs.size),rf xs v<=i->v<=xs[i]:=
 below_go h _ _ _ (by omega) (ut _) (cb _) (fun i _ z=>absurd z (YT _)) (fun i z z'=>absurd z (Nat.not_lt.mpr z'))
theorem CJ {xs:Array Nat}{v:Nat}(h:lZ xs) (hn:xs[rf xs v]?≠some v):lZ (BN xs (rf xs v) v) :=by
 obtain⟨b0,b1,b2⟩:=k7 v h;generalize rf xs v=p at *
 unfold lZ BN;have e:((xs.extract 0 p).push v++xs.extract p xs.size).toList=xs.toList.take p++[v]++xs.toList.drop p :=by
  simp;exact Yr (by simp)
 rw[e];have hl:∀y∈xs.toList.take p,y<v:=fun y hy=>by
  obtain⟨i,hi,rfl⟩:=List.mem_take_iff_getElem.mp hy;have gY:i<p/\i<xs.size :=by simpa[Nat.lt_min] using hi
  simpa using b1 i gY.2 gY.1
 have hr:∀y∈xs.toList.drop p,v<y:=fun y hy=>by
  obtain⟨i,hi,rfl⟩:=List.mem_drop_iff_getElem.mp hy;have gY:p+i<xs.size :=by rw[Nat.add_comm];simpa using hi
  have h1:v<=xs[p+i]:=b2 (p+i) gY (YG _ _);have h2:v≠xs[p+i]:=fun z=>by
   by_cases VR:i=0
   ·subst VR;exact hn (by rw[Nat.add_zero]at gY;rw[wr gY];simpa using z.symm)
   ·have q:=k6 h (show p<p+i by omega) gY
    have q2:=b2 p (by omega) (cb _)
    omega
  have:xs.toList[p+i]'(by simpa using gY)=xs[p+i] :=by simp
  rw[this];omega
 have hp:=List.take_append_drop p xs.toList;have VS:(xs.toList.take p++xs.toList.drop p).Pairwise (· < ·) :=by rw[hp];exact h
 obtain⟨q1,q2,q3⟩:=ZV.mp VS;refine ZV.mpr ⟨ZV.mpr ⟨q1,Y9 _ _,fun a ha b hb=>?_⟩,q2,fun a ha b hb=>?_⟩
 ·rw[lc]at hb;subst hb;exact hl a ha
 ·rcases qr.mp ha with ha|ha
  ·exact q3 a ha b hb
  ·rw[lc]at ha;subst ha;exact hr b hb
structure bw (w:lf) (t:l7):Prop where
 dum:t.dummies=#[]
 ris:lZ t.place
 led:t.led = !w.params.followText "set-order"
theorem E7 (n:Nat):lZ (Array.range n) :=by
 unfold lZ;rw[Array.toList_range];exact Ys
theorem bw.standIn {w:lf}{t:l7}(h:bw w t) (n:Nat):bw w (t.standIn n):=⟨rfl,E7 n,h.led⟩
theorem bw.orStandIn {w:lf}{t:l7}(h:bw w t) (n:Nat):bw w (t.orStandIn n) :=by
 unfold l7.orStandIn;split
 ·exact h
 ·exact h.standIn n
theorem uo (j:Nat):l7.has #[] j=false :=by
 unfold l7.has;have:(#[]:Array Nat)[rf #[] j]?=none :=by simp
 rw[this];rfl
theorem xo {w:lf}{t:l7}(h:bw w t) {hashAt:Nat->Int}{hh:Int}{j:Nat}{d:Option Nat}:∀(fuel:Nat) (p:US),p.dummy=none->Tk t hashAt hh fuel p=some (.empty j d)->t.slot j=.empty/\d=none
 |0,p,_,e=>by simp[Tk]at e
 |fuel+1,p,hp,e=>by
          unfold Tk at e;have U0:∀p:US,(t.advance p).dummy=p.dummy:=fun p=>by
           unfold l7.advance;split<;>rfl
          cases hs:t.slot p.j with
          |empty=>
           rw[hs]at e;have e':=lm e;injection e' with e1 e2
           exact⟨by rw[<- e1];exact hs,by rw[<- e2];exact hp⟩
          |dummy=>
           exfalso
           unfold l7.slot at hs;dsimp only at hs;rw[h.dum,uo]at hs;split at hs<;>simp at hs
          |live i=>
           rw[hs]at e;dsimp only at e;split at e
           ·simp at e
           ·exact xo h fuel _ (by rw[U0];exact hp) e
theorem CK {w:lf}{t:l7}(h:bw w t) {j:Nat}(e:t.slot j=.empty):t.place[rf t.place j]?≠some j:=fun z=>by
 unfold l7.slot at e;dsimp only at e;rw[z]at e;simp at e
theorem bw.put {w:lf}{t:l7}(h:bw w t) {j:Nat}(e:t.slot j=.empty):bw w (t.put j).1 :=by
 unfold l7.put;refine⟨?_,CJ h.ris (CK h e),h.led⟩;show (if l7.has t.dummies j then _ else t.dummies)=#[]
 rw[h.dum,uo];rfl
theorem bw.layNew {w:lf}{t:l7}(h:bw w t) (es:Array (Int×al)) (hh:Int) (x:al):bw w (layNew t es hh x).2.1 :=by
 unfold PySem.layNew;split
 ·rename_i slot rH hf;unfold l7.freeSlot at hf;refine(bw.put h ?_).orStandIn _;split at hf
  ·rename_i j dummy hp;obtain⟨e1,e2⟩:=xo h _ _ rfl hp;subst e2;have:=lm hf;injection this with z1 _
   rw[<- z1];exact e1
  ·cases hf
 ·exact h.standIn _
theorem xq {α:Type}(f:Nat->Option α) (n:Nat):lZ (((hX n).filterMap fun j=>(f j).map (j,·)).map (·.1)).toArray :=by
 unfold lZ;have e:(((hX n).filterMap fun j=>(f j).map (j,·)).map (·.1)).toArray.toList=(hX n).filter fun j=>(f j).isSome :=by
  rw[YN];induction hX n with
  |nil=>rfl
  |cons a l ih=>
   cases hf:f a with
   |none=>simp[OP,hf,ih]
   |some b=>simp[OP,hf,ih]
 rw[e];exact Zn.filter _ Ys
theorem bw.RQ {w:lf}{t:l7}(h:bw w t) (es:Array (Int×al)) (wanted:Nat):bw w (relayAll t es wanted).2.1 :=by
 unfold relayAll;split
 ·rename_i t' order hr;dsimp only;split
  ·unfold l7.relaid l7.laid at hr;simp only[Option.bind_eq_bind,Option.bind_eq_some_iff,Option.pure_def]at hr;obtain⟨owner,_,hr⟩:=hr;have:=lm hr;injection this with z1 _
   subst z1;exact⟨rfl,xq (fun j=>owner.getD j none) _,h.led⟩
  ·exact h.standIn _
 ·exact h.standIn _
theorem bw.rJ {w:lf}{t:l7}(h:bw w t) (b:Bool):bw w (if b=true then t else {t with plain:=false}) :=by
 split
 ·exact h
 ·exact⟨h.dum,h.ris,h.led⟩
def eB (e:Int×al):Int:=match e.2 with | .int i _=>i|_=>0
def di (P:jp) (w:lf) (h:i8) (a:ag) (ns:List Int):Prop:=
 ∃o es ep t,h.get? a=some o/\o.ExactSet/\o.data=.set es ep t/\aaa (Fa P w) es.toList/\(es.toList.map eB).Perm ns/\ns.Nodup/\es.size<scanBound/\t.fits es.size=true/\bw w t
theorem di.bQ {P:jp}{w:lf}{h h':i8}{a:ag}{ns:List Int}(x:di P w h a ns) (k:∀o,h.get? a=some o->h'.get? a=some o):di P w h' a ns:=
 let ⟨o,es,ep,t,e,r⟩:=x;⟨o,es,ep,t,k o e,r⟩
def ix (P:jp) (w:lf) (a:ag) (ns:List Int):HO:=.ext fun h=>di P w h a ns
def dw (ns:List Int) (m:Int):List Int:=if m∈ns then ns else ns++[m]
theorem zM {P:jp}{w:lf}{es:List (Int×al)}(h:aaa (Fa P w) es) {k:Int}:(∃e∈es,(Fa P w).is k e.2=true) ↔ k∈es.map eB :=by
 constructor
 ·rintro⟨e,he,hk⟩;obtain⟨t,e2⟩:=Za (k:=k) (v:=e.2) hk;exact im.mpr ⟨e,he,by unfold eB;rw[e2]⟩
 ·intro hm;obtain⟨e,he,q⟩:=im.mp hm;obtain⟨⟨k',mV,_⟩,_⟩:=h e he;obtain⟨t,e2⟩:=Za (k:=k') (v:=e.2) mV;have:k'=k :=by rw[<- q];unfold eB;rw[e2]
  exact⟨e,he,this▸mV⟩
section
variable {P:jp}{w:lf}{A:sB}{E:al->ba->Prop}{s:ba}
theorem sO {h:i8}{a:ag}{o:l9}{es:Array (Int×al)}{ep:Nat}{t:l7}(ho:h.get? a=some o) (hex:o.ExactSet) (hd:o.data=.set es ep t)
  {cD:Array (Int×al)} {t':l7} {ns:List Int} (md:aaa (Fa P w) cD.toList) (hp:(cD.toList.map eB).Perm ns) (hn:ns.Nodup) (hb:cD.size<scanBound) (hf:t'.fits cD.size=true) (ht:bw w t') :
  (h.update a (Po cD t')).get? a=some {o with data:=.set cD (ep+1) t'}/\di P w (h.update a (Po cD t')) a ns :=by
 have hg:(h.update a (Po cD t')).get? a=some {o with data:=.set cD (ep+1) t'}:=by
  have:=ww (Po cD t') ho (by rw[aah cD t' hd];rfl)
  rw[aah cD t' hd]at this;exact this
 exact⟨hg,_,cD,ep+1,t',hg,hex,rfl,md,hp,hn,hb,hf,ht⟩
theorem xr {g:Bool->YS Unit}(hg:∀(b:Bool) (az:ba) (Q':Unit->ba->Prop),Q' () az->c8 (model P w) A (g b) Q' E az)
  {a:ag} {o:l9} {es:Array (Int×al)} {ep:Nat} {t:l7} (ho:s.heap.get? a=some o) (hex:o.ExactSet) (hd:o.data=.set es ep t)
  {cH:Array (Int×al)} {t2:l7} {ns:List Int} (xt:aaa (Fa P w) cH.toList) (E8:(cH.toList.map eB).Perm ns) (hn:ns.Nodup)
  (AW:cH.size<scanBound) (VU:t2.fits cH.size=true) (S9:bw w t2) {rH:Bool} {R:Option Bool->ba->Prop}
  (h:∀h',Cn a s.heap h'->di P w h' a ns->R (some true) {s with heap:=h'}) :
  c8 (model P w) A (do
    storeSet a cH t2
    if (!rH && t2.tooFull)=true then do
      g (relayAll t2 cH (NE cH.size)).2.2
      storeSet a (relayAll t2 cH (NE cH.size)).1 (relayAll t2 cH (NE cH.size)).2.1
      pure (some true)
     else pure (some true)) R E s :=by
 refine ac (Zd ho hd ?_ (Ze AW));obtain⟨sP,oo⟩:=sO (P:=P) (w:=w) ho hex hd xt E8 hn AW VU S9;have N4:=AL s.heap a (Po cH t2);split
 ·have hp:=relayAll_perm t2 cH (NE cH.size);have oF:=relayAll_fits t2 cH (NE cH.size);have EW:=S9.RQ cH (NE cH.size);generalize relayAll t2 cH (NE cH.size)=Rl at hp oF EW ⊢
  obtain⟨Tc,t3,XM⟩:=Rl;dsimp only at hp oF EW ⊢;have hsz:Tc.size=cH.size :=by rw[<- kw,hp.length_eq,kw]
  have k8:Tc.size<scanBound :=by rw[hsz];exact AW
  refine ac (hg _ _ _ (ac (Zd sP rfl ?_ (Ze k8))));obtain⟨_,JK⟩:=sO (P:=P) (w:=w) sP hex rfl (xt.perm hp) ((hp.map eB).trans E8) hn k8 oF EW;exact bi (h _ (N4.trans (AL _ a _)) JK)
 ·exact bi (h _ N4 oo)
theorem E9 {a:ag}{ns:List Int}{m:Int}{tk:Zj}{Q:Bool->ba->Prop}(hS:di P w s.heap a ns) (qg:ns.length+1<scanBound)
  (h:∀h',Cn a s.heap h'->di P w h' a (dw ns m)->Q (decide (m ∉ ns)) {s with heap:=h',toks:=s.toks+1}):c8 (model P w) A (setAdd a (.int m tk)) Q E s :=by
 unfold setAdd;refine wS (ac ((Fa P w).pyHash (k:=m) (intKind_is _ _ _ _) ?_));have mG:(Fa P w).is m (.int m tk)=true:=intKind_is _ _ _ _;obtain⟨o,es,ep,t,ho,hex,hd,md,hp,hn,hb,hf,ht⟩:=hS;have oS:∀k,(∃e∈es.toList,(Fa P w).is k e.2=true) ↔ k∈ns:=fun k=>(zM md).trans hp.mem_iff
 have hlen:es.size=ns.length :=by rw[<- kw,<- hp.length_eq,bn]
 unfold setAddHashed setAddHashedIn;refine wS (ac (Fk (s:={s with toks:=s.toks+1}) ho hd hf ?_))
 dsimp only;rw[byScan_of (x:=.int m tk) rfl hb md];simp only[↓reduceIte];unfold setAddByScan;refine ac (ac (GS (ac (wpAny_setScan_of mG ho hd hf md ?_))));cases hr:List.findIdx? (fun e=>(Fa P w).is m e.2) es.toList with
 |some j=>
  dsimp only;obtain⟨hj,VV,_⟩:=List.findIdx?_eq_some_iff_getElem.mp hr;have hm:m∈ns:=(oS m).mp ⟨es.toList[j],v6 hj,VV⟩;have:=h s.heap (Cn.refl a s.heap) (by unfold dw;rw[if_pos hm];exact⟨o,es,ep,t,ho,hex,hd,md,hp,hn,hb,hf,ht⟩)
  rw[decide_eq_false (fun z=>z hm)]at this
  exact bi (bi this)
 |none=>
  dsimp only;have hm:m ∉ ns:=fun z=>by
   obtain⟨e,he,q⟩:=(oS m).mpr z;have:=List.findIdx?_eq_none_iff.mp hr e he;rw[q]at this;cases this
  have qh:=layNew_perm t es ((Fa P w).hash m) (.int m tk);have sQ:=layNew_fits t es ((Fa P w).hash m) (.int m tk);have k9:=ht.layNew es ((Fa P w).hash m) (.int m tk);generalize layNew t es ((Fa P w).hash m) (.int m tk)=L at qh sQ k9 ⊢
  obtain⟨cH,t1,rH,XT⟩:=L;dsimp only at qh sQ k9 ⊢;rw[Array.toList_push]at qh;have xt:aaa (Fa P w) cH.toList:=(md.push mG rfl).perm qh;have CL:dw ns m=ns++[m] :=by unfold dw;rw[if_neg hm]
  have E8:(cH.toList.map eB).Perm (dw ns m) :=by
   rw[CL];refine(qh.map eB).trans ?_;rw[mf];exact PP.append hp (.refl _)
  have Td:(dw ns m).Nodup :=by
   rw[CL];exact IS.mpr ⟨hn,by simp,fun a ha b hb=>by rw[lc]at hb;rw[hb];exact fun z=>hm (z▸ha)⟩
  have AW:cH.size<scanBound :=by rw[<- kw,qh.length_eq,r6,kw,hlen];simpa using qg
  have N5:∀(b:Bool) (az:ba) (Q':Unit->ba->Prop),Q' () az->c8 (model P w) A (match b with|true=>rule "set.scan.the-table-gave-way" |false=>pure ()) Q' E az:=
   fun b az Q' hq=>by cases b<;>first|exact bi hq|exact GS hq
  have rK:∀h',Cn a s.heap h'->di P w h' a (dw ns m)->Q true {s with heap:=h',toks:=s.toks+1}:=by
   intro h' jc iI;have:=h h' jc iI;rw[decide_eq_true hm]at this;exact this
  refine ac (N5 _ _ _ ?_);split
  ·refine ac ?_;rw[hashByValue_scannable 8 (x:=.int m tk) rfl];refine bi (xr (P:=P) (w:=w) (s:={s with toks:=s.toks+1}) N5 ho hex hd xt E8 Td AW ?_ (k9.rJ _) fun h' jc iI=>bi (rK h' jc iI))
   split
   ·exact sQ
   ·exact l7.fits_plain_off sQ
  ·refine ac (bi ?_);simp only[↓reduceIte];exact xr (P:=P) (w:=w) (s:={s with toks:=s.toks+1}) N5 ho hex hd xt E8 Td AW sQ k9 fun h' jc iI=>bi (rK h' jc iI)
theorem HE {ns:List Int}{m k:Int}:k∈dw ns m ↔ k∈ns\/k=m :=by
 unfold dw;split
 ·rename_i hm;exact⟨.inl,fun h=>h.elim id fun e=>e▸hm⟩
 ·simp
theorem xu {ns:List Int}{m:Int}:(dw ns m).length<=ns.length+1 :=by
 unfold dw;split
 ·omega
 ·simp
end
def uq (ns:List Int):List Int:=ns.foldl dw []
theorem HF {ns:List Int}{k:Int}:k∈uq ns ↔ k∈ns :=by
 unfold uq;have:∀(l acc:List Int),k∈l.foldl dw acc ↔ k∈acc\/k∈l:=fun l=>by
  induction l with
  |nil=>intro acc;simp
  |cons a l ih=>
   intro acc;rw[ZR,ih,HE,lp];constructor
   ·rintro ((h|h)|h)
    ·exact .inl h
    ·exact .inr (.inl h)
    ·exact .inr (.inr h)
   ·rintro (h|h|h)
    ·exact .inl (.inl h)
    ·exact .inl (.inr h)
    ·exact .inr h
 rw[this];simp
theorem xx (ns:List Int):(uq ns).length<=ns.length :=by
 unfold uq;have:∀(l acc:List Int),(l.foldl dw acc).length<=acc.length+l.length:=fun l=>by
  induction l with
  |nil=>intro acc;simp
  |cons a l ih=>
   intro acc;rw[ZR,wn];have h1:=ih (dw acc a);have h2:=@xu acc a;omega
 simpa using this ns []
section
variable {P:jp}{w:lf}{A:sB}{E:al->ba->Prop}{s:ba}
abbrev xA (w:lf):l9:={cls:=.type "set",dict:=none,data:=.set #[] 0 (.fresh 0 0 (!w.params.followText "set-order"))}
theorem K8 {h:i8}:di P w (h.push (xA w)) h.objs.size []:=⟨_,#[],0,_,ij _ rfl,⟨rfl,rfl,rfl⟩,rfl,fun e he=>by simp at he,by simp,by simp,by decide,by rfl,rfl,Zn.nil,rfl⟩
theorem di.typeIs {h:i8}{a:ag}{ns:List Int}{s:ba}(x:di P w s.heap a ns):s.TypeIs (.ref a) "set" := let ⟨o,_,_,_,ho,hex,_⟩:=x;⟨o,ho,hex.1⟩
end
theorem Fb:Manifest.owners.lookup (String.ofList ['r','o','t','a','r','e','t','i','_','t','e','s'].reverse)=some Manifest.sig_set_iterator :=by kernel_rfl
theorem bT:Slot "set_iterator" "__next__" "set_iterator.__next__" :=
 .of (owner := "set_iterator") (n := "__next__") (by rw[typeLookup_type,builtinLookup_eq_fast];kernel_rfl) (by decide +kernel) (by decide +kernel) (by decide +kernel)
  (by first|exact .inl (by decide +kernel)|exact .inr (by decide +kernel)) (by rw[isSubtype_type];kernel_rfl)
theorem ki:entryFor table "set_iterator.__next__" = some wl.«set_iterator.__next__»:=entryFor_of_tree (by kernel_rfl)
theorem kj (a:al):argsOk "set_iterator.__next__" ⟨[a],[]⟩ :=by
 unfold argsOk;rw[signature?_of (id := "set_iterator.__next__") (n:=['_','_','t','x','e','n','_','_']) (o:=['r','o','t','a','r','e','t','i','_','t','e','s']) (by kernel_rfl) Fb];kernel_rfl
theorem sR:Slot "set_iterator" "__iter__" "set_iterator.__iter__" :=
 .of (owner := "set_iterator") (n := "__iter__") (by rw[typeLookup_type,builtinLookup_eq_fast];kernel_rfl) (by decide +kernel) (by decide +kernel) (by decide +kernel)
  (by first|exact .inl (by decide +kernel)|exact .inr (by decide +kernel)) (by rw[isSubtype_type];kernel_rfl)
theorem CM:entryFor table "set_iterator.__iter__" = some wl.«dict_keyiterator.__iter__»:=
 entryFor_alias (id' := "dict_keyiterator.__iter__") (by kernel_rfl) (by first|rfl|decide +kernel|(unfold String.splitOn;simp +decide [String.splitOnAux])) (by decide +kernel) (by kernel_rfl)
theorem CN (a:al):argsOk "set_iterator.__iter__" ⟨[a],[]⟩ :=by
 unfold argsOk;rw[signature?_of (id := "set_iterator.__iter__") (n:=['_','_','r','e','t','i','_','_']) (o:=['r','o','t','a','r','e','t','i','_','t','e','s']) (by kernel_rfl) Fb];kernel_rfl
theorem qQ:entryFor table "set.__iter__" = some wl.«frozenset.__iter__»:=
 entryFor_alias (id' := "frozenset.__iter__") (by kernel_rfl) (by first|rfl|decide +kernel|(unfold String.splitOn;simp +decide [String.splitOnAux])) (by decide +kernel) (by kernel_rfl)
def dJ (h:i8) (I a:ag) (first:al) (i n ep:Nat):Prop:=∃o,h.get? I=some o/\o.cls=.type "set_iterator" /\ o.data=.fields #[first,.int i 0,.ref a,.int n 0,.int ep 0]
theorem dJ.typeIs {s:ba}{I a:ag}{first:al}{i n ep:Nat}(x:dJ s.heap I a first i n ep):s.TypeIs (.ref I) "set_iterator" := let ⟨o,ho,hc,_⟩:=x;⟨o,ho,hc⟩
theorem gB {α:Type}:∀{l:List α}{i:Nat}(h:i<l.length),(l[i]::l.eraseIdx i).Perm l
 | [],i,h=>by simp at h
 |x::l,0,h=>.refl _
 |x::l,i+1,h=>by
          rw[List.eraseIdx_cons_succ,List.getElem_cons_succ];exact(PP.swap _ _ _).trans (.cons _ (gB (by simpa using h)))
section
variable {P:jp}{w:lf}{A:sB}{E:al->ba->Prop}{s:ba}
theorem wp_choose {src:Source}{n:Nat}{Q:Nat->ba->Prop}(hn:n≠0) (h:∀i d,i<n->Q i {s with drawn:=d}):c8 (model P w) A (choose src n) Q E s:=fun Γ p _=>by
 refine⟨hn,?_⟩;exact h _ _ (ZW _ (Nat.pos_of_ne_zero hn))
theorem lg {α:Type}:∀(n:Nat) (xs:List α) {s:ba}{Q:List α->ba->Prop},n=xs.length->(∀ys d,ys.Perm xs->Q ys {s with drawn:=d})->c8 (model P w) A (drawOrder n xs) Q E s
 |0,xs,s,Q,hn,h=>by
          have:xs=[]:=Yw hn.symm;subst this;exact bi (h [] s.drawn .nil)
 |n+1,[],s,Q,hn,h=>by simp at hn
 |n+1,x::xs,s,Q,hn,h=>by
          show c8 _ _ (choose .order (x::xs).length>>=_) _ _ s;refine ac (wp_choose (by simp) fun i d hi=>?_)
          have e:(x::xs)[i]?=some (x::xs)[i]:=ap hi;rw[e];dsimp only;refine ac (lg n _ (by rw[List.length_eraseIdx_of_lt hi];simp at hn ⊢;omega) fun ys d' hp=>bi (h _ _ ?_))
          exact(PP.cons _ hp).trans (gB hi)
structure iV (P:jp) (w:lf) (h:i8) (a:ag) (es:Array (Int×al)) (ep:Nat) (t:l7):Prop where
 at_:∃o,h.get? a=some o/\o.ExactSet/\o.data=.set es ep t
 fits:t.fits es.size=true
 tab:bw w t
theorem AX {α:Type}(next:Nat->Nat):∀(fuel k:Nat) (left:List α) (out:Array α),fuel=left.length->(pickOrder.go next fuel k left out).toList.Perm (out.toList++left)
 |0,k,left,out,h=>by
          have:left=[]:=Yw h.symm;subst this;simp[pickOrder.go]
 |fuel+1,k,left,out,h=>by
          unfold pickOrder.go;have hl:next k % left.length<left.length:=ZW _ (by omega)
          rw[ap hl];dsimp only;refine(AX next fuel (k+1) _ _ (by rw[List.length_eraseIdx_of_lt hl];omega)).trans ?_
          rw[Array.toList_push,GM];exact PP.append_left _ (gB hl)
theorem oT {α:Type}(next:Nat->Nat) (xs:Array α):(pickOrder next xs).toList.Perm xs.toList :=by
 unfold pickOrder;exact(AX next xs.size 0 xs.toList #[] (by simp)).trans (by simp)
theorem me {Q:Bool->ba->Prop}(h:Q (w.params.followText "set-order") s):c8 (model P w) A setsByText Q E s :=by
 unfold setsByText;exact ac (YE (bi h))
theorem sS {a:ag}{es:Array (Int×al)}{ep:Nat}{t:l7}{slot given:Nat}{Q:Option (al×Nat)->ba->Prop}(hE:iV P w s.heap a es ep t)
  (hd:w.params.followText "set-order" = false->(!t.plain && decide (es.size > 1))=false)
  (h1:w.params.followText "set-order" = true->Q ((pickOrder (w.params.setOrder a ep) es)[given]?.map fun e=>(e.2,slot)) s)
  (h2:w.params.followText "set-order" = false->Q (match es[rf t.place slot]?,t.place[rf t.place slot]? with|some (_,x),some j=>some (x,j+1)|_,_=>none) s) :
  c8 (model P w) A (setNext a slot given ep) Q E s :=by
 obtain⟨⟨o,ho,hex,qR⟩,hf,ht⟩:=hE;unfold setNext;refine ac (Fk ho qR hf ?_);dsimp only;refine ac (me ?_);cases hb:w.params.followText "set-order" with
 |true=>
  simp only[if_true,bne_self_eq_false,i4,if_false];unfold setWalk;refine ac (ac (Fk ho qR hf ?_));dsimp only;refine ac (me ?_);rw[hb];simp only[if_true];refine ac (YE (bi (bi ?_)));exact h1 hb
 |false=>
  simp only[i4,if_false];have jI:=hd hb;have U1:t.led=true :=by rw[ht.led,hb];rfl
  show c8 _ _ (if (!t.plain && decide (es.size > 1))=true then _ else _) _ _ s
  rw[jI];simp only[i4,if_false];refine ac ?_;show c8 _ _ (if (!t.led && !es.isEmpty)=true then _ else _) _ _ s
  rw[U1];simp only[Na,Pc,i4,if_false];exact bi (bi (h2 hb))
theorem dJ.N6 {h:i8}{I a:ag}{first x:al}{i n ep:Nat}(hit:dJ h I a first i n ep):dJ (h.update I (l9.mapFields (·.setIfInBounds 0 x))) I a x i n ep :=by
 obtain⟨o,ho,hc,hd⟩:=hit;exact⟨_,ww _ ho (ZE (P3 hd _)),(aaz ..).trans hc,by rw[P3 hd];simp⟩
theorem dJ.ur {h:i8}{I a:ag}{first:al}{i n ep:Nat}(hit:dJ h I a first i n ep):dJ (h.update I (l9.mapFields (·.setIfInBounds 1 (rawInt ((i:Int)+1))))) I a first (i+1) n ep :=by
 obtain⟨o,ho,hc,hd⟩:=hit;exact⟨_,ww _ ho (ZE (P3 hd _)),(aaz ..).trans hc,by rw[P3 hd];simp[rawInt]⟩
theorem mW {I a:ag}{first x:al}{i n ep k:Nat}{Q:Unit->ba->Prop}(hk:k<5) (hit:dJ s.heap I a first i n ep) (h:Q () {s with heap:=s.heap.update I (l9.mapFields (·.setIfInBounds k x))}):c8 (model P w) A (setField (.ref I) k x) Q E s :=by
 obtain⟨o,ho,hc,hd⟩:=hit;exact wpAny_setField ho hd (by simpa using hk) h
theorem AY {Q:Fin->ba->Prop}(hh:A.handled=none) (h:∀e h',s.TypeIs e "StopIteration" \/ True->(∀b o,s.heap.get? b=some o->h'.get? b=some o)->Zo {s with heap:=h'} e "StopIteration" -> E e {s with heap:=h'}) :
  c8 (model P w) A (newExc (.type "StopIteration") []>>=fun e=>raiseNew e) Q E s :=by
 refine ac ?_;simp only[newExc,newTuple];refine ac (B0 ?_ (by size_fits))
 refine ac (m:=firstArgMember _ _) (wpAny_of_eq (a:=AS) (by first|rfl|(simp only[firstArgMember];rfl)) ?_)
 refine B0 ?_ (by size_fits)
 simp only[raiseNew];refine ac (wpAny_handled ?_);rw[hh];refine ac (bi (wpAny_throw ?_));exact h _ _ (.inr trivial) (fun b o e=>br _ (br _ e)) ⟨_,ij _ rfl,rfl⟩
theorem xB {Q:Option al->ba->Prop}{e:al}(hT:s.TypeIs e "StopIteration") (h:Q none s):c8 (model P w) A (do let b <- isInstance e (.type "StopIteration");if b=true then pure none else throw e) Q E s:=
 ac (aaK (T := "StopIteration") (b:=true) hT isSubtype_stop (bi h))
theorem AZ {I a:ag}{slot i ep next:Nat}{es:Array (Int×al)}{t:l7}{x:al}{Q:Option al->ba->Prop}(hit:dJ s.heap I a (.int slot 0) i es.size ep) (hE:iV P w s.heap a es ep t)
  (hd:w.params.followText "set-order" = false->(!t.plain && decide (es.size > 1))=false)
  (h1:w.params.followText "set-order" = true->(pickOrder (w.params.setOrder a ep) es)[i]?.map (fun e=>(e.2,slot))=some (x,next))
  (h2:w.params.followText "set-order" = false->(match es[rf t.place slot]?,t.place[rf t.place slot]? with|some (_,x),some j=>some (x,j+1)|_,_=>none)=some (x,next))
  (hQ:∀h',dJ h' I a (.int next 0) (i+1) es.size ep->Cn I s.heap h'->Q (some x) {s with heap:=h'}):c8 (model P w) A (pyNext (.ref I)) Q E s :=by
 obtain⟨o,ho,hc,jI⟩:=id hit;obtain⟨oa,vh,HG,vi⟩:=hE.at_;unfold pyNext;refine ac (YL (FF (name:=AN "__next__") hit.typeIs bT (zn bT hit.typeIs ki ?_ (kj _))))
 unfold wl.«set_iterator.__next__»;refine ac (m:=slotArgs "__next__" 0 _) (bi ?_)
 dsimp only;refine ac (aab ho jI ?_);dsimp only;refine ac (OR vh vi hE.fits ?_);simp only[bne_self_eq_false,i4,if_false,xL];have fin:∀r,r=some (x,next)->c8 (model P w) A.in1 (match r with
    |some (x,next)=>do
     setField (ss I) 0 (rawInt next)
     setField (ss I) 1 (rawInt (↑i+1))
     ret x
    |none=>do
     setField (ss I) 2 AS
     let __do_lift <- newExc (LG "StopIteration") []
     raiseNew __do_lift) (fun fin s'=>∃v,fin=Fin.done (Flow.ret v)/\c8 (model P w) A (pure (some v)) Q E s') (fun e s'=>c8 (model P w) A (do
     let __do_lift <- isInstance e (LG "StopIteration")
     if __do_lift=true then pure none else throw e) Q E s') s:=fun r hr=>by
  subst hr;dsimp only;refine ac (mW (by decide) hit ?_)
  have N7:=hit.N6 (x:=rawInt next);refine ac (mW (by decide) N7 ?_)
  exact bi ⟨x,rfl,bi (hQ _ N7.ur ((AL ..).trans (AL ..)))⟩
 exact ac (sS hE hd (fun hb=>fin _ (h1 hb)) (fun hb=>fin _ (h2 hb)))
theorem A0 {I a:ag}{slot i ep:Nat}{es:Array (Int×al)}{t:l7}{Q:Option al->ba->Prop}(hh:A.handled=none) (hit:dJ s.heap I a (.int slot 0) i es.size ep) (hE:iV P w s.heap a es ep t)
  (hd:w.params.followText "set-order" = false->(!t.plain && decide (es.size > 1))=false)
  (h1:w.params.followText "set-order" = true->(pickOrder (w.params.setOrder a ep) es)[i]?.map (fun e=>(e.2,slot))=none)
  (h2:w.params.followText "set-order" = false->(match es[rf t.place slot]?,t.place[rf t.place slot]? with|some (_,x),some j=>some (x,j+1)|_,_=>none)=none)
  (hQ:∀h',(∀b o,b≠I->s.heap.get? b=some o->h'.get? b=some o)->Q none {s with heap:=h'}):c8 (model P w) A (pyNext (.ref I)) Q E s :=by
 obtain⟨o,ho,hc,jI⟩:=id hit;obtain⟨oa,vh,HG,vi⟩:=hE.at_;unfold pyNext;refine ac (YL (FF (name:=AN "__next__") hit.typeIs bT (zn bT hit.typeIs ki ?_ (kj _))))
 unfold wl.«set_iterator.__next__»;refine ac (m:=slotArgs "__next__" 0 _) (bi ?_)
 dsimp only;refine ac (aab ho jI ?_);dsimp only;refine ac (OR vh vi hE.fits ?_);simp only[bne_self_eq_false,i4,if_false,xL];have fin:∀r:Option (al×Nat),r=none->c8 (model P w) A.in1 (match r with
    |some (x,next)=>do
     setField (ss I) 0 (rawInt next)
     setField (ss I) 1 (rawInt (↑i+1))
     ret x
    |none=>do
     setField (ss I) 2 AS
     let __do_lift <- newExc (LG "StopIteration") []
     raiseNew __do_lift) (fun fin s'=>∃v,fin=Fin.done (Flow.ret v)/\c8 (model P w) A (pure (some v)) Q E s') (fun e s'=>c8 (model P w) A (do
     let __do_lift <- isInstance e (LG "StopIteration")
     if __do_lift=true then pure none else throw e) Q E s') s:=fun r hr=>by
  subst hr;dsimp only;refine ac (mW (by decide) hit ?_)
  exact AY hh fun e h' _ k hT=>xB hT (hQ h' fun b o hb q=>k b o ((AM _ _ (Ch hb)).trans q))
 exact ac (sS hE hd (fun hb=>fin _ (h1 hb)) (fun hb=>fin _ (h2 hb)))
theorem A1 {I a T:ag}{i ep j:Nat}{es:Array (Int×al)}{t:l7}{ps:List Nat}{x:Int×al}{Q:Option al->ba->Prop}(hit:dJ s.heap I a (.ref T) i es.size ep) (hE:iV P w s.heap a es ep t)
  (hT:s.heap.IsTuple T (ps.map fun (i:Nat)=>rawInt i).toArray) (hj:ps[i]?=some j) (hx:es[j]?=some x)
  (hQ:∀h',dJ h' I a (.ref T) (i+1) es.size ep->Cn I s.heap h'->Q (some x.2) {s with heap:=h'}):c8 (model P w) A (pyNext (.ref I)) Q E s :=by
 obtain⟨o,ho,hc,jI⟩:=id hit;obtain⟨oa,vh,HG,vi⟩:=hE.at_;unfold pyNext;refine ac (YL (FF (name:=AN "__next__") hit.typeIs bT (zn bT hit.typeIs ki ?_ (kj _))))
 unfold wl.«set_iterator.__next__»;refine ac (m:=slotArgs "__next__" 0 _) (bi ?_)
 dsimp only;refine ac (aab ho jI ?_);dsimp only;refine ac (OR vh vi hE.fits ?_);simp only[bne_self_eq_false,i4,if_false,xL];obtain⟨ot,N8,_,nt,qR⟩:=hT;refine ac (Gc N8 qR ?_);have e:(ps.map fun (i:Nat)=>rawInt i).toArray[i]?=some (rawInt j) :=by simp[hj]
 dsimp only;rw[e];show c8 _ _ (setNextDrawn a (Int.toNat (j:Int)) ep>>=_) _ _ s;rw[xL];refine ac ?_;unfold setNextDrawn;refine ac (Fk vh vi hE.fits ?_);simp only[bne_self_eq_false,i4,if_false,hx];refine bi ?_;refine ac (mW (by decide) hit ?_)
 exact bi ⟨x.2,rfl,bi (hQ _ hit.ur (AL ..))⟩
theorem A7 {I a T:ag}{i ep:Nat}{es:Array (Int×al)}{t:l7}{ps:List Nat}{Q:Option al->ba->Prop}(hh:A.handled=none) (hit:dJ s.heap I a (.ref T) i es.size ep) (hE:iV P w s.heap a es ep t)
  (hT:s.heap.IsTuple T (ps.map fun (i:Nat)=>rawInt i).toArray) (hj:ps.length<=i)
  (hQ:∀h',(∀b o,b≠I->s.heap.get? b=some o->h'.get? b=some o)->Q none {s with heap:=h'}):c8 (model P w) A (pyNext (.ref I)) Q E s :=by
 obtain⟨o,ho,hc,jI⟩:=id hit;obtain⟨oa,vh,HG,vi⟩:=hE.at_;unfold pyNext;refine ac (YL (FF (name:=AN "__next__") hit.typeIs bT (zn bT hit.typeIs ki ?_ (kj _))))
 unfold wl.«set_iterator.__next__»;refine ac (m:=slotArgs "__next__" 0 _) (bi ?_)
 dsimp only;refine ac (aab ho jI ?_);dsimp only;refine ac (OR vh vi hE.fits ?_);simp only[bne_self_eq_false,i4,if_false,xL];obtain⟨ot,N8,_,nt,qR⟩:=hT;refine ac (Gc N8 qR ?_);have e:(ps.map fun (i:Nat)=>rawInt i).toArray[i]?=none :=by simp[hj]
 dsimp only;rw[e];dsimp only;refine ac (mW (by decide) hit ?_)
 refine ac (mW (by decide) (hit.N6 (x:=rawInt 0)) ?_)
 exact AY hh fun e h' _ k hT=>xB hT (hQ h' fun b o hb q=>k b o ((AM _ _ (Ch hb)).trans ((AM _ _ (Ch hb)).trans q)))
end
theorem dJ.bQ {h h':i8}{I a:ag}{first:al}{i n ep:Nat}(x:dJ h I a first i n ep) (k:∀o,h.get? I=some o->h'.get? I=some o):dJ h' I a first i n ep:=let ⟨o,ho,r⟩:=x;⟨o,k o ho,r⟩
theorem iV.bQ {P:jp}{w:lf}{h h':i8}{a:ag}{es:Array (Int×al)}{ep:Nat}{t:l7}(x:iV P w h a es ep t) (k:∀o,h.get? a=some o->h'.get? a=some o):iV P w h' a es ep t:=
 ⟨let ⟨o,ho,r⟩:=x.at_;⟨o,k o ho,r⟩,x.fits,x.tab⟩
theorem sT {xs:Array Nat}(h:lZ xs) {i:Nat}(hi:i<xs.size):rf xs (xs[i]+1)=i+1 :=by
 obtain⟨b0,b1,b2⟩:=k7 (xs[i]+1) h;generalize rf xs (xs[i]+1)=p at *
 have h1:i<p :=by
  refine Nat.lt_of_not_le fun hp=>?_
  have:=b2 i hi hp;omega
 refine Nat.le_antisymm (Zq fun hp=>?_) h1
 have Te:i+1<xs.size :=by omega
 have q:=b1 (i+1) Te hp;have q2:=k6 h (show i<i+1 by omega) Te
 omega
theorem sU {xs:Array Nat}(h:lZ xs):rf xs 0=0 :=by
 obtain⟨b0,b1,b2⟩:=k7 0 h;generalize rf xs 0=p at *
 by_cases hp:p=0
 ·exact hp
 ·have:=b1 0 (by omega) (by omega)
  omega
section
variable {P:jp}{w:lf}{A:sB}{E:al->ba->Prop}{s:ba}
theorem si_self {I a:ag}{first:al}{i n ep:Nat}{Q:al->ba->Prop}(hit:dJ s.heap I a first i n ep) (h:Q (.ref I) s):c8 (model P w) A (pyIter (.ref I)) Q E s :=by
 refine Zf hit.typeIs sR (zn sR hit.typeIs CM ?_ (CN _));show c8 _ _ (ret (.ref I)) _ _ s;exact bi ⟨_,rfl,"set_iterator",_,hit.typeIs,bT.lookup,h⟩
theorem xC {es:List (Int×al)}(h:aaa (Fa P w) es) {e:Int×al}(he:e∈es):∃t,e.2=.int (eB e) t :=by
 obtain⟨⟨k',mV,_⟩,_⟩:=h e he;obtain⟨t,e2⟩:=Za (k:=k') (v:=e.2) mV;exact⟨t,by unfold eB;rw[e2]⟩
abbrev Fc (xs:List Int):Nat->al->Prop:=fun i v=>∃m t,xs[i]?=some m/\v=.int m t
def cw (w:lf) (a:ag) (ep:Nat) (es:Array (Int×al)):List (Int×al):=if w.params.followText "set-order" = true then (pickOrder (w.params.setOrder a ep) es).toList else es.toList
theorem e8 (w:lf) (a:ag) (ep:Nat) (es:Array (Int×al)):(cw w a ep es).Perm es.toList :=by
 unfold cw;split
 ·exact oT _ _
 ·exact .refl _
theorem HH {I a:ag}{es:Array (Int×al)}{ep:Nat}{t:l7}(hh:A.handled=none) (d8:a≠I) (md:aaa (Fa P w) es.toList) (hd:w.params.followText "set-order" = false->(!t.plain && decide (es.size > 1))=false) :
  aa8 P w A I [I,a] [I] (fun a b=>b=a) ((cw w a ep es).map eB).length (Fc ((cw w a ep es).map eB))
   (fun i s=>iV P w s.heap a es ep t/\∃slot:Nat,dJ s.heap I a (.int slot 0) i es.size ep/\(w.params.followText "set-order" = false->rf t.place slot=i)) where
 sub:=fun b hb=>by simp at hb;simp[hb]
 grefl:=fun _=>rfl
 gtrans:=fun _ _ _ h1 h2=>h2.trans h1
 frame:=fun i s h' _ st _ hk=>⟨st.1.bQ fun o e=>hk a (by simp) o e,let ⟨slot,h1,h2⟩:=st.2;⟨slot,h1.bQ fun o e=>hk I (by simp) o e,h2⟩⟩
 item:=fun i s Q E hi st hQ=>by
  obtain⟨hE,slot,hit,hb⟩:=st;have hl:i<(cw w a ep es).length :=by simpa using hi
  have qS:i<es.size :=by rw[<- kw,<- (e8 w a ep es).length_eq];exact hl
  obtain⟨tk,he⟩:=xC (P:=P) (w:=w) md ((e8 w a ep es).mem_iff.mp (v6 hl));have dA:i<t.place.size :=by
   have:=hE.fits;simp only[l7.fits,EN,beq_iff_eq]at this;rw[this.1];exact qS
  refine AZ (next:=if w.params.followText "set-order" = true then slot else t.place[i]+1) (x:=((cw w a ep es)[i]).2) hit hE hd (fun bC=>?_) (fun bC=>?_) (fun h' rL hs=>hQ _ _ ⟨_,tk,by rw[dL,ap hl];rfl,he⟩ ⟨hE.bQ fun o e=>by rw[hs.2 a d8];exact e,_,rL,fun bC=>?_⟩ ⟨fun b o hb e=>by rw[hs.2 b (fun z=>hb (by simp[z]))];exact e,rfl,rfl,rfl,cb _⟩)
  ·rw[if_pos bC];have e1:cw w a ep es=(pickOrder (w.params.setOrder a ep) es).toList :=by unfold cw;rw[if_pos bC]
   have e2:(pickOrder (w.params.setOrder a ep) es)[i]?=some (cw w a ep es)[i] :=by
    rw[<- No,<- e1];exact ap hl
   rw[e2];rfl
  ·rw[if_neg (by rw[bC];decide),hb bC,wr qS,wr dA]
   have e1:cw w a ep es=es.toList :=by unfold cw;rw[if_neg (by rw[bC];decide)]
   have e2:(cw w a ep es)[i]=es[i] :=by simp[e1]
   rw[e2]
  ·rw[if_neg (by rw[bC];decide)]
   exact sT hE.tab.ris dA
 done:=fun s Q E st hQ=>by
  obtain⟨hE,slot,hit,hb⟩:=st;have hl:((cw w a ep es).map eB).length=es.size :=by rw[bn,(e8 w a ep es).length_eq,kw]
  rw[hl]at hit hb;refine A0 hh hit hE hd (fun bC=>?_) (fun bC=>?_) (fun h' k=>hQ _ ⟨fun b o hb e=>k b o (fun z=>hb (by simp[z])) e,rfl,rfl,rfl,cb _⟩)
  ·have e1:(pickOrder (w.params.setOrder a ep) es)[es.size]?=none :=by
    refine Me ?_;rw[<- kw,(oT _ es).length_eq,kw];exact cb _
   rw[e1];rfl
  ·rw[hb bC,Me (cb _)]
 self:=fun i s Q E st hQ=>let ⟨_,slot,hit,_⟩:=st;si_self hit hQ
theorem CO {I a T:ag}{es:Array (Int×al)}{ep:Nat}{t:l7}{ps:List Nat}(hh:A.handled=none) (d8:a≠I) (HI:T≠I) (md:aaa (Fa P w) es.toList) (oU:∀j∈ps,j<es.size) (dA:ps.length=es.size) :
  aa8 P w A I [I,a,T] [I] (fun a b=>b=a) (ps.map fun j=>eB (es.getD j (0,.none))).length (Fc (ps.map fun j=>eB (es.getD j (0,.none))))
   (fun i s=>iV P w s.heap a es ep t/\s.heap.IsTuple T (ps.map fun (i:Nat)=>rawInt i).toArray/\dJ s.heap I a (.ref T) i es.size ep) where
 sub:=fun b hb=>by simp at hb;simp[hb]
 grefl:=fun _=>rfl
 gtrans:=fun _ _ _ h1 h2=>h2.trans h1
 frame:=fun i s h' _ st _ hk=>⟨st.1.bQ fun o e=>hk a (by simp) o e,st.2.1.at fun o e=>hk T (by simp) o e,st.2.2.bQ fun o e=>hk I (by simp) o e⟩
 item:=fun i s Q E hi st hQ=>by
  obtain⟨hE,hT,hit⟩:=st;have hl:i<ps.length :=by simpa using hi
  have hj:=oU _ (v6 hl);have hx:es[ps[i]]?=some es[ps[i]]:=wr hj;have hg:es.getD ps[i] (0,.none)=es[ps[i]] :=by simp[NL,hj]
  obtain⟨tk,he⟩:=xC (P:=P) (w:=w) md (show es[ps[i]]∈es.toList by simp)
  refine A1 hit hE hT (ap hl) hx fun h' rL hs=>hQ _ _ ⟨_,tk,by rw[dL,ap hl];rfl,by dsimp only;rw[hg];exact he⟩ ⟨hE.bQ fun o e=>by rw[hs.2 a d8];exact e,hT.at fun o e=>by rw[hs.2 T HI];exact e,rL⟩ ⟨fun b o hb e=>by rw[hs.2 b (fun z=>hb (by simp[z]))];exact e,rfl,rfl,rfl,cb _⟩
 done:=fun s Q E st hQ=>by
  obtain⟨hE,hT,hit⟩:=st;have hl:(ps.map fun j=>eB (es.getD j (0,.none))).length=ps.length:=bn _
  rw[hl]at hit;exact A7 hh hit hE hT (cb _) fun h' k=>hQ _ ⟨fun b o hb e=>k b o (fun z=>hb (by simp[z])) e,rfl,rfl,rfl,cb _⟩
 self:=fun i s Q E st hQ=>si_self st.2.2 hQ
theorem CP {a:ag}{ns:List Int}{Q:al->ba->Prop}(hS:di P w s.heap a ns)
  (hQ:∀(I:ag) (h':i8) (d':Drawn) (xs:List Int) (fp:List ag) (St:Nat->ba->Prop),xs.Perm ns->(∀b o,s.heap.get? b=some o->h'.get? b=some o)->s.heap.objs.size<=I->(∀b∈fp,b=a\/s.heap.objs.size<=b)->
   (∀A':sB,A'.handled=none->aa8 P w A' I fp [I] (fun a b=>b=a) xs.length (Fc xs) St)->St 0 {s with heap:=h',drawn:=d'}->Q (.ref I) {s with heap:=h',drawn:=d'}):c8 (model P w) A (pyIter (.ref a)) Q E s :=by
 have Fd:=hS.typeIs (h:=s.heap);obtain⟨o,es,ep,t,ho,hex,hd,md,hp,hn,hb,hf,ht⟩:=hS;have hE:iV P w s.heap a es ep t:=⟨⟨o,ho,hex,hd⟩,hf,ht⟩;have aM:=kt ho;refine Zf Fd ZY (zn ZY Fd qQ ?_ (F.args_set_iter_1 _));unfold wl.«frozenset.__iter__»;refine ac (m:=wl.Frozenset.slot0 "__iter__" _) (bi ?_)
 unfold wl.Frozenset.sizeOf;refine ac (ac (OR ho hd hf (bi ?_)));refine ac ?_;unfold setDrawn;refine ac (Fk ho hd hf ?_);dsimp only;refine ac (me ?_);refine bi ?_;by_cases mX:(!w.params.followText "set-order" && (!t.plain && decide (es.size > 1)))=true
 ·show c8 _ _ (if (!w.params.followText "set-order" && (!t.plain && decide (es.size > 1)))=true then _ else _) _ _ s
  rw[if_pos mX];refine ac (lg _ _ (by simp) fun ps d oU=>?_)
  have dA:ps.length=es.size :=by rw[oU.length_eq,At]
  refine ac (Y6 ?_ (by rw[bn,dA];exact Ze hb))
  refine ac (Zg (o:=o) (br _ ho) hd hf ?_);unfold newFields;refine ac (B0 ?_ (by size_fits))
  have hsz:∀u:l9,(s.heap.push u).objs.size=s.heap.objs.size+1:=fun u=>xp _ _
  have hit:dJ ((s.heap.push {cls:=.type "tuple",data:=.seq (ps.map fun (i:Nat)=>rawInt i).toArray}).push {cls:=.type "set_iterator",data:=.fields #[.ref s.heap.objs.size,.int (0:Nat) 0,.ref a,.int es.size 0,.int ep 0]}) (s.heap.push {cls:=.type "tuple",data:=.seq (ps.map fun (i:Nat)=>rawInt i).toArray}).objs.size a (.ref s.heap.objs.size) 0 es.size ep:=⟨_,ij _ rfl,rfl,rfl⟩
  have N9:(ps.map fun j=>eB (es.getD j (0,.none))).Perm ns :=by
   refine((oU.map _).trans ?_).trans hp;have:(hX es.size).map (fun j=>eB (es.getD j (0,.none)))=es.toList.map eB :=by
    refine aaL (by simp) fun n h1 h2=>?_
    have wK:n<es.size :=by simpa using h1
    simp[NL,wK]
   rw[this]
  refine bi ⟨_,rfl,"set_iterator",_,dJ.typeIs (s:={s with heap:=_,drawn:=d}) hit,bT.lookup,?_⟩
  refine hQ _ _ d _ [(s.heap.push {cls:=.type "tuple",data:=.seq (ps.map fun (i:Nat)=>rawInt i).toArray}).objs.size,a,s.heap.objs.size] _ N9 (fun b o e=>br _ (br _ e)) (by rw[hsz];exact IR _) (fun b hb=>?_) (fun A' hA=>CO (t:=t) (ep:=ep) hA ?_ ?_ md (fun j hj=>by simpa using oU.mem_iff.mp hj) dA) ⟨hE.bQ fun o e=>br _ (br _ e),⟨_,br _ (ij _ rfl),rfl,_,rfl⟩,hit⟩
  ·simp only[lp,EO,or_false]at hb;rcases hb with rfl|rfl|rfl
   ·exact .inr (by rw[hsz];exact IR _)
   ·exact .inl rfl
   ·exact .inr (cb _)
  ·rw[hsz];exact l5 (xz aM)
  ·rw[hsz];exact l5 (AT _)
 ·show c8 _ _ (if (!w.params.followText "set-order" && (!t.plain && decide (es.size > 1)))=true then _ else _) _ _ s
  rw[if_neg mX];refine ac (bi (ac (Zg ho hd hf ?_)));unfold newFields;refine ac (B0 ?_ (by size_fits))
  have hit:dJ (s.heap.push {cls:=.type "set_iterator",data:=.fields #[.int (0:Nat) 0,.int (0:Nat) 0,.ref a,.int es.size 0,.int ep 0]}) s.heap.objs.size a (.int (0:Nat) 0) 0 es.size ep:=⟨_,ij _ rfl,rfl,rfl⟩
  refine bi ⟨_,rfl,"set_iterator",_,dJ.typeIs (s:={s with heap:=_}) hit,bT.lookup,?_⟩
  refine hQ _ _ s.drawn _ [s.heap.objs.size,a] _ (((e8 w a ep es).map eB).trans hp) (fun b o e=>br _ e) (cb _) (fun b hb=>?_) (fun A' hA=>HH (t:=t) (ep:=ep) hA (l5 aM) md fun hb=>?_) ⟨hE.bQ fun o e=>br _ e,0,hit,fun _=>sU ht.ris⟩
  ·simp only[lp,EO,or_false]at hb;rcases hb with rfl|rfl
   ·exact .inr (cb _)
   ·exact .inl rfl
  ·rw[hb]at mX;simpa using mX
theorem qT {a:ag}{Q:Bool->ba->Prop}(hT:s.TypeIs (.ref a) "set") (h:Q false s):c8 (model P w) A (wl.List.listLengthHint (.ref a)) Q E s :=by
 unfold wl.List.listLengthHint;refine ac (aaS hT F.slot_set_len.lookup ?_);have e:splitId "set.__len__" = some ("set","__len__") :=by kernel_rfl
 dsimp only;rw[e];dsimp only;refine ac (aaK hT sub_set_self ?_);simp only[Na,i4,if_false];show c8 _ _ (if _=true then _ else _) _ _ s
 rw[if_pos (by kernel_rfl)]
 exact ac (ZZ hT (bi h))
theorem ints_of {xs:List Int}{acc:Array al}(h:ItemsOf (Fc xs) acc xs.length):So acc.toList xs :=by
 obtain⟨hs,hi⟩:=h;have:∀(vs:List al) (xs:List Int),vs.length=xs.length->(∀(j:Nat) (v:al),vs[j]?=some v->Fc xs j v)->So vs xs :=by
  intro vs;induction vs with
  |nil=>intro xs hl _;cases xs with|nil=>exact .nil|cons x xs=>simp at hl
  |cons v vs ih=>
   intro xs hl hg;cases xs with
   |nil=>simp at hl
   |cons x xs=>
    obtain⟨m,t,e1,rfl⟩:=hg 0 v rfl;have e2:x=m :=by simpa using e1
    subst e2;refine .cons _ _ (ih xs (by simpa using hl) fun j u hu=>?_)
    obtain⟨m',t',e3,e4⟩:=hg (j+1) u (by simpa using hu)
    exact⟨m',t',by simpa using e3,e4⟩
 exact this acc.toList xs (by simpa using hs) fun j v hv=>hi j v (by rw[<- No];exact hv)
theorem zN {a:ag}{ns:List Int}{QL:List al->ba->Prop}(hh:A.handled=none) (hS:di P w s.heap a ns) (hz:ns.length<=sizeLine)
  (hQ:∀us xs h' d' tk,So us xs->xs.Perm ns->(∀b o,s.heap.get? b=some o->h'.get? b=some o)->QL us {s with heap:=h',drawn:=d',toks:=tk}):c8 (model P w) A (collect (.ref a)) QL E s :=by
 have aM:a<s.heap.objs.size:=let ⟨_,_,_,_,ho,_⟩:=hS;kt ho;have Fe:s.heap.objs.size≠a:=Yy aM;unfold collect;refine ac (wpAny_runValue (Mc ZF ?_));rw[Go ZG _];show c8 _ A.in1 (newList []>>=fun l=>again (.builtin "list.__iadd__" ⟨[l,.ref a],[]⟩)) _ _ s
 refine ac (B0 ?_);refine bi ⟨FS Tl _,Mc aaA ?_⟩;rw[Go Tl _];have oo:di P w (s.heap.push {cls:=.type "list",data:=.seq ([]:List al).toArray}) a ns:=hS.bQ fun o e=>br _ e
 have T1:Zo {s with heap:=s.heap.push {cls:=.type "list",data:=.seq ([]:List al).toArray}} (.ref a) "set" := di.typeIs (P:=P) (w:=w) (h:=s.heap) (s:={s with heap:=_}) oo
 show c8 _ A.in1 (IN (.ref s.heap.objs.size) (.ref a) (.ref s.heap.objs.size)) _ _ _;unfold IN;refine ac (ZZ T1 ?_);have h1:WA (.ref s.heap.objs.size) (.ref a)=false :=by simp[WA,Fe]
 have h2:(LG "set" == LG "list")=false :=by decide
 have h3:(LG "set" == LG "tuple")=false :=by decide
 simp only[h1,h2,h3,Bool.or_false,i4,if_false];refine ac (CP (s:={s with heap:=s.heap.push {cls:=.type "list",data:=.seq ([]:List al).toArray}}) oo ?_)
 intro I h' d' xs fp St hp hk hI xD hW mh;have T2:Zo {s with heap:=h',drawn:=d'} (.ref a) "set" := di.typeIs (P:=P) (w:=w) (h:=s.heap) (s:={s with heap:=_,drawn:=d'}) (oo.bQ fun o e=>hk a o e)
 refine ac (wS (qT T2 ?_));show c8 _ A.in1 (if _=true then _ else _) _ _ _
 rw[if_pos (by kernel_rfl)]
 show c8 _ A.in1 (rule "list.extend.makes-room" >>= fun _=>wl.List.listTouch (.ref s.heap.objs.size)>>=fun _=>
  again (.builtin "list.extend.loop" ⟨[.ref s.heap.objs.size,.ref I,.ref s.heap.objs.size],[]⟩)) _ _ _
 refine ac (GS ?_);have sV:h'.get? s.heap.objs.size=some {cls:=.type "list",data:=.seq ([]:List al).toArray}:=hk _ _ (ij _ rfl)
 refine ac ?_;show c8 _ A.in1 (updateSeq s.heap.objs.size (·.push .none)>>=fun _=>updateSeq s.heap.objs.size (·.pop)) _ _ _
 refine ac (SB sV rfl ?_);have sW:=ww (Da (·.push AS)) sV rfl;refine SB sW rfl ?_;have CQ:=ww (Da (·.pop)) sW rfl;have sX:∀b o,b≠s.heap.objs.size->h'.get? b=some o->((h'.update s.heap.objs.size (Da (·.push AS))).update s.heap.objs.size (Da (·.pop))).get? b=some o:=
  fun b o hb e=>(AM _ _ (Ch hb)).trans ((AM _ _ (Ch hb)).trans e)
 have xE:(s.heap.push {cls:=.type "list",data:=.seq ([]:List al).toArray}).objs.size=s.heap.objs.size+1:=xp _ _
 have xF:s.heap.objs.size ∉ fp:=fun hm=>by
  rcases xD _ hm with z|z
  ·exact Fe z
  ·have z':s.heap.objs.size+1<=s.heap.objs.size :=by rw[<- xE];exact z
   exact absurd z' (Nat.not_succ_le_self _)
 have W:=hW A.in1.in1 (by simp[hh])
 have hl:xs.length<=sizeLine :=by rw[hp.length_eq];exact hz
 refine bi ⟨FS F.plain_extend_loop _,codeAny_extend_loopS (W.of_in1) hl _ xF _ xs.length 0 _ _ _ rfl (ut _) (W.frame 0 ({s with heap:=h',drawn:=d'}:ba) _ s.toks mh (cb _) fun b hb o e=>sX b o (fun h=>xF (h▸hb)) e) CQ (ItemsOf.nil _) fun s' e7 c' hm iI CT=>?_⟩
 show c8 _ A (load s.heap.objs.size>>=_) _ _ s';refine ac (aa1 iI ?_);refine bi ?_;obtain⟨h2,g2,d2,Oa,os2⟩:=s';have eg:g2=s.gens:=hm.gens;have ed:d2=d':=hm.drawn;have eo:os2=s.os:=hm.os;subst eg;subst ed;subst eo;refine hQ _ xs h2 _ Oa (ints_of CT) hp fun b o e=>hm.heap b o ?_ (sX b o (l5 (kt e)) (hk b o (br _ e)))
 have hb:b<s.heap.objs.size:=kt e;simp only[lp,EO,or_false,not_or];refine⟨l5 hb,fun z=>?_⟩
 have z':s.heap.objs.size+1<=b :=by rw[<- xE,z];exact hI
 exact absurd (sK (xz hb) z') (DD _)
end
def sortI (ns:List Int):List Int:=ns.mergeSort fun a b=>decide (a<=b)
theorem sortI_perm (ns:List Int):(sortI ns).Perm ns:=List.mergeSort_perm _ _
theorem HJ (ns:List Int):(sortI ns).Pairwise (·<=·) :=by
 have:=List.pairwise_mergeSort (le:=fun a b:Int=>decide (a<=b)) (fun a b c h1 h2=>by simp only[decide_eq_true_eq]at *;omega) (fun a b=>by simp only[YU,decide_eq_true_eq];omega) ns
 exact this.imp fun h=>by simpa using h
theorem zO {a b:List Int}(p:a.Perm b) (ha:a.Pairwise (·<=·)) (hb:b.Pairwise (·<=·)):a=b:=PP.eq_of_pairwise (le:=(·<=·)) (fun x y _ _ h1 h2=>Int.le_antisymm h1 h2) ha hb p
theorem HK {ms ns:List Int}(p:ms.Perm ns) (h:ms.Pairwise (·<=·)):ms=sortI ns:=zO (p.trans (sortI_perm ns).symm) h (HJ ns)
theorem qi:∀{ns:List Int}{us:List al},Vals (ns.map V.int) us->So us ns
 | [],_,.nil=>.nil
 |n::ns,_,.cons r t=>by
          obtain⟨k,rfl⟩:=r;exact .cons _ _ (qi t)
theorem oV:∀{ns:List Int}{us:List al},So us ns->Vals (ns.map V.int) us
 |_,_,.nil=>.nil
 |_,_,.cons n t r=>.cons ⟨t,rfl⟩ (oV r)
section
variable {P:jp}{w:lf}{A:sB}{E:al->ba->Prop}{s:ba}
theorem qU {T:String}{l:ag}{vs:List al}{Q:List al->ba->Prop}{o:l9}{n:Nat}(ho:s.heap.get? l=some o) (hc:o.cls=.type T) (hd:o.data=.seq vs.toArray n) (hT:T = "list" \/ T = "tuple")
  (h:∀h',(∀b o,s.heap.get? b=some o->h'.get? b=some o)->Q vs {s with heap:=h'}) (hsz:vs.length<=sizeLine):c8 (model P w) A (collect (.ref l)) Q E s :=by
 unfold collect;refine ac (wpAny_runValue (Mc ZF ?_));rw[Go ZG _];show c8 _ A.in1 (newList []>>=fun l'=>again (.builtin "list.__iadd__" ⟨[l',.ref l],[]⟩)) _ _ s
 refine ac (aan (bi ⟨FS Tl _,Mc aaA ?_⟩));rw[Go Tl _];show c8 _ A.in1 (IN (.ref s.heap.objs.size) (.ref l) (.ref s.heap.objs.size)) _ _ {s with heap:=s.heap.push (seqObj "list" #[] 0)}
 unfold IN;have fN:(s.heap.push (seqObj "list" #[] 0)).get? l=some o:=br _ ho
 refine ac (ZZ (T:=T) ⟨o,fN,hc⟩ ?_);rw[if_pos (by rcases hT with rfl|rfl<;>simp)]
 refine ac (listItems_at fN hd ?_);refine ac (listItems_at (xs:=#[]) (n:=0) (ij _ rfl) rfl ?_);rw[if_neg (by simp)]
 refine ac (aao (xs:=#[]) (n:=0) (ij _ rfl) rfl ?_ (ut _) (by show (#[]++vs.toArray).size<=sizeLine+1;simp only[Array.size_append,lv,NO];omega))
 refine bi ?_;show c8 (model P w) A (load s.heap.objs.size>>=_) Q E _;refine ac (aa1 (get?_update_seq (ij _ rfl) _) ?_);show c8 _ _ (pure ((#[]:Array al)++vs.toArray).toList) Q E _;rw[show ((#[]:Array al)++vs.toArray).toList=vs by simp]
 exact bi (h _ fun b o e=>(AM _ _ (Yy (kt e))).trans (br _ e))
theorem CU {a:al}{ns:List Int}{Q:al->ba->Prop}(HL:∀QL:List al->ba->Prop,(∀us xs h' d' tk,So us xs->xs.Perm ns->(∀b o,s.heap.get? b=some o->h'.get? b=some o)->QL us {s with heap:=h',drawn:=d',toks:=tk})->c8 (model P w) A.in1 (collect a) QL E s) (oW:ns.length<64)
  (h:∀(h1 h':i8) d' tk (us:List al) e,So us (sortI ns)->(∀b o,s.heap.get? b=some o->h1.get? b=some o)->(∀b o,h1.get? b=some o->h'.get? b=some o)->h'.get? h1.objs.size=some {cls:=.type "list",data:=.seq us.toArray e}->Q (.ref h1.objs.size) {s with heap:=h',drawn:=d',toks:=tk}) :
  c8 (model P w) A (call (.builtin "sorted") [a]) Q E s :=by
 refine Calls.call_function_entry kind_sorted plain_sorted entry_sorted (args_sorted1 _) ?_;unfold wl.«sorted»;refine ac (m:=checkCount "sorted" 1 1 _) (bi ?_)
 refine ac (HL _ fun us xs h' d' tk hI hp hk=>?_)
 have Ob:us.length<64 :=by
  have:us.length=xs.length:=(oV hI).length.symm.trans (bn _);rw[this,hp.length_eq];exact oW
 refine ac (aan ?_ (hsz:=wb (Pv Ob) (by decide)))
 have sm:(h'.push (seqObj "list" us.toArray 0)).get? h'.objs.size=some (seqObj "list" us.toArray 0):=ij _ rfl
 refine ac (wS (zn slot_list_sort ⟨_,sm,rfl⟩ entry_list_sort (list_sort_tree sm hI Ob fun out X6 a1 a2 a3=>⟨_,rfl,?_⟩) (args_list_sort _)))
 refine bi ⟨_,rfl,?_⟩;obtain⟨e,he⟩:=sortedHeap_at (out:=out) sm;refine h h' _ d' tk out.toList e (by rw[<- HK (a2.trans hp) a3];exact a1) hk (fun b o hb=>?_) (by simpa using he)
 have aM:=kt hb;rw[sortedHeap_old (l5 aM) (by rw[xp];exact xz aM)]
 exact br _ hb
end
theorem sY {P:jp}{w:lf}{h:i8}{a:ag}{ns:List Int}(x:di P w h a ns):∃o,h.get? a=some o:=let ⟨o,_,_,_,e,_⟩:=x;⟨o,e⟩
theorem A8 {P:jp}{w:lf}{H:Hp}{h:i8}{a:ag}{ns:List Int}(x:di P w h a ns):ObjOk P w H h a (ix P w a ns):=⟨x,sY x,fun h1 h2 y k=>y.bQ k⟩
theorem A9 {X:Cx}{pins:List (ag×l9)}{σ:St}{H:Hp}{s:ba}{a:ag}{ns:List Int}(I:Inv X pins σ H s) (h:H a=some (ix X.prog X.w a ns)):di X.prog X.w s.heap a ns:=(I.hok a _ h).1
section
variable {P:jp}{w:lf}{A:sB}{E:al->ba->Prop}{s:ba}
theorem Ba {Q:al->ba->Prop}(h:Q (.ref s.heap.objs.size) {s with heap:=s.heap.push (xA w)}):c8 (model P w) A (newSet (.type "set")) Q E s :=by
 unfold newSet setsByText;refine ac (ac (YE (bi ?_)));dsimp only;simp only[newObj];exact ac (wpAny_alloc (bi h))
theorem Ff {a:ag}{ns:List Int}{m:Int}{tk:Zj}{Q:al->ba->Prop}(hS:di P w s.heap a ns) (qg:ns.length+1<scanBound)
  (h:∀h' Oc,Cn a s.heap h'->di P w h' a (dw ns m)->Q .none {s with heap:=h',toks:=Oc}):c8 (model P w) A (call (.builtin "set.add") [.ref a,.int m tk]) Q E s :=by
 refine zn F.slot_set_add (di.typeIs (h:=s.heap) hS) F.entry_set_add ?_ (F.args_set_add_2 _ _);unfold wl.«set.add» wl.Frozenset.oneOther;simp only[List.isEmpty_nil,bind_assoc];unfold wl.Frozenset.addrOf;refine ac (bi ?_);try dsimp only
 refine ac (bi ?_);try dsimp only
 refine ac (E9 hS qg fun h' jc iI=>?_)
 show c8 _ _ (ret AS) _ _ _;exact bi ⟨_,rfl,h h' _ jc iI⟩
theorem xG (elt tg iter:io) (ifs:List io) (scope:wT) (pos:wv) (it acc:al) (env:ON) :
  compTurn (.SetComp elt [⟨tg,iter,ifs,0⟩] scope pos) 0 it acc env=wx (.SetComp elt [⟨tg,iter,ifs,0⟩] scope pos) tg iter ifs 0 it acc env (eval elt env>>=fun v=>standAt elt.pos>>=fun _=>call (.builtin "set.add") [acc,v]>>=fun _=>pure ()) :=by
 rfl
end
section
variable {X:Cx}
def sZ (X:Cx) (J:It) (g:TG) (tt:TT) (te:TE) (D:ag) (Q:VK) (W:Nat->Nat->St->Hp->Prop):Prop:=∀i m τ H,W i m τ H->
 (J.stop i H/\Q (.ref D) H)\/(J.go i H/\∀x H',J.yld i H x H'->g x τ H' fun au H2=>tt au H2 fun b H3=>if b=true then te au H3 fun y H4=>∃k ns m',y=.int k/\H4 D=some (ix X.prog X.w D ns)/\ns.length+1<scanBound/\m'<m/\W (i+1) m' au (upd H4 D (ix X.prog X.w D (dw ns k))) else ∃m',m'<m/\W (i+1) m' au H3)
def Fg (X:Cx) (tn:Nat) (idx:List Nat) (wi:TI) (g:TG) (tt:TT) (te:TE):TE:=fun σ H Q=>wi σ H fun J H1=>∀D,H1 D=none->∃W:Nat->Nat->St->Hp->Prop,(∃m,W 0 m (aQ tn idx σ) (upd H1 D (ix X.prog X.w D [])))/\sZ X J g tt te D Q W
def xH (X:Cx) (D:ag) (te:TE):TB:=fun τ H Q=>te τ H fun y H4=>∃k ns,y=.int k/\H4 D=some (ix X.prog X.w D ns)/\ns.length+1<scanBound/\Q τ (upd H4 D (ix X.prog X.w D (dw ns k)))
theorem zP {J:It}{g:TG}{tt:TT}{te:TE}{D:ag}{Q:VK}{W:Nat->Nat->St->Hp->Prop}(h:sZ X J g tt te D Q W):lV J g tt (xH X D te) (fun _ H=>Q (.ref D) H) W :=by
 simp only[sZ,exists_and_left]at h;simp only[lV,xH,exists_and_left];exact h
theorem K9 {Y:Cx}{elt:io}{te:TE}{D:ag}(hp:Y.prog=X.prog) (hw:Y.w=X.w) (h:PE Y elt te):PB Y (eval elt Y.env>>=fun v=>standAt elt.pos>>=fun _=>call (.builtin "set.add") [.ref D,v]>>=fun _=>pure ()) (xH X D te) :=by
 intro pins s τ H Q I q;refine ac (on (h pins s τ H _ I q) (fun yv s8 ⟨y,H8,I8,r8,q8⟩=>?_) fun _ _ z=>z)
 obtain⟨m,ns,ey,hD,hsz,w8⟩:=q8;subst ey;obtain⟨tk,rfl⟩:=r8;rw[<- hp,<- hw]at hD w8;refine ac (DO (ac (Ff (A9 (X:=Y) I8 hD) hsz fun h' Oc jc hM=>?_)))
 have I9:=I8.write (x:=D) (e:=D) (t':=Oc) (by rw[hD];exact trivial) (.inl rfl) (fun b u hb hu=>(jc.2 b hb).trans hu) (sY hM) (A8 hM)
 exact bi ⟨τ,_,I9,w8⟩
theorem CV {pins:List (ag×l9)}{σ:St}{H2:Hp}{s2:ba}{tg elt iter:io}{ifs:List io}{scope:wT}{pos:wv}{N':List ci}{tn:Nat}{idx:List Nat}{g:TG}{tt:TT}{te:TE}{it:ag}{fp:List ag}{a7:Nat->i8->Prop}{J:It}
  {cl:List (ci×ag)} {E:al->ba->Prop} {RR:al->ag->Zl->ba->Prop} {Q:VK}
  (hc:X.calm=true) (B:aD X.N X.env.scope scope N' tn idx)
  (hg:Blk X N' scope fun Y=>PG Y tg g) (ht:Blk X N' scope fun Y=>fO Y ifs tt) (he:Blk X N' scope fun Y=>PE Y elt te)
  (I:Inv X pins σ H2 s2) (T:Turn X.prog X.w X.K tg J fp it a7) (st:a7 0 s2.heap) (f2:∀b∈fp,bR X pins H2 b)
  (cc:∀n c,cl.lookup n=some c->X.env.cells.lookup n=some c) (dI:∀n,(n,AE)∈scope.names->∃c,cl.lookup n=some c)
  (hq:∀D,H2 D=none->∃W:Nat->Nat->St->Hp->Prop,(∃m,W 0 m (aQ tn idx σ) (upd H2 D (ix X.prog X.w D [])))/\sZ X J g tt te D Q W)
  (oI:∀D C m s' H',Inv X pins σ H' s'->bR X pins H' C->s'.heap.Ns C m->Q (.ref D) H'->RR (.ref D) C (.ok .next) s') :
  c8 (model X.prog X.w) X.A (newSet (.type "set")) (fun acc iQ=>c8 (model X.prog X.w) X.A (newFunctionEnv scope X.env.globals cl [] X.env.qual none .none (some X.env)) (fun gb kY=>
   OE (model X.prog X.w) X.A (.compStart (.SetComp elt [⟨tg,iter,ifs,0⟩] scope pos) 0 (.ref it) acc {gb with scope:=relabel scope X.env}) (RR acc gb.locals) kY) E iQ) E s2 :=by
 obtain⟨b1,b2,b3,b4⟩:=id B;refine Ba (ZT (fun y hy=>(b2 y hy).1) (by intro y hy;simp at hy) (fun cE eJ d7=>?_) b1)
 dsimp only at eJ d7 ⊢;generalize hG:s2.heap.push (xA X.w)=G at eJ d7 ⊢
 have hC:G.objs.size=s2.heap.objs.size+1 :=by rw[<- hG,xp]
 have qK:s2.heap.objs.size≠G.objs.size :=by rw[hC];exact l5 (AT _)
 have gf:s2.heap.objs.size<=G.objs.size :=by rw[hC];exact IR _
 have below:∀b,b<s2.heap.objs.size->b≠G.objs.size:=fun b hb=>by rw[hC];exact l5 (xz hb)
 have old:∀b o,s2.heap.get? b=some o->cE.get? b=some o:=fun b o e=>d7.extBut b o (below b (kt e)) (br _ (hG▸br _ e))
 have xg:di X.prog X.w cE s2.heap.objs.size [] :=by
  have q:di X.prog X.w G s2.heap.objs.size []:=hG▸K8;exact q.bQ fun o e=>d7.extBut _ _ qK (br _ e)
 have oJ:H2 s2.heap.objs.size=none:=I.hok.fresh (cb _);have oG:upd H2 s2.heap.objs.size (ix X.prog X.w s2.heap.objs.size []) G.objs.size=none :=by rw[ao (Ch qK)];exact I.hok.fresh gf
 have rE:cG X.prog X.w (upd H2 s2.heap.objs.size (ix X.prog X.w s2.heap.objs.size [])) cE:=I.hok.laid old (cb _) (A8 xg);have iH:∀b∈fp,b<s2.heap.objs.size:=fun b hb=>let ⟨o,e,_⟩:=T.obj _ _ st b hb;kt e
 obtain⟨W,⟨m0,w0⟩,turn⟩:=hq s2.heap.objs.size oJ;have I1:Inv (mS X N' scope cl G.objs.size s2 H2 fp) [] (aQ tn idx σ) (upd H2 s2.heap.objs.size (ix X.prog X.w s2.heap.objs.size [])) {s2 with heap:=cE,toks:=s2.toks+([]:List (ci×al)).length}:=by
  refine lU (g':=s2.gens) (m0:=fun x=>([]:List (ci×al)).reverse.lookup x) I b1 rfl rfl cc (fun x hx=>?_) (fun z=>I.ok.hd z) I.ok.frames (.inl rfl) gf f2 iH (Un.laid old (cb _) oJ) rE oG old eJ (fun i x v e1 e2 e3=>?_) (B.len σ) I.bare.self
  ·have fh:(relabel scope X.env).names.lookup x=some .cell\/(relabel scope X.env).names.lookup x=some .free:=hx;rw[cz]at fh;cases q:scope.names.lookup x with
   |none=>rw[q]at fh;rcases fh with z|z<;>cases z
   |some k0=>
    have hm:=u4 q;rw[q]at fh;by_cases hk:k0=.free
    ·subst hk;exact dI x hm
    ·have nk:(k0==AE)=false :=by simpa using hk
     have nc:=(b2 _ hm).1;simp only[Co,nk,Pc,i4,if_false]at fh;rcases fh with z|z
     ·exact absurd (lm z) nc
     ·exact absurd (lm z) hk
  ·obtain⟨fr,j,e4,e5⟩:=B.at e1 e2;have kx:=(b2 _ (u4 fr)).2.2 rfl;refine⟨?_,.inr kx,kx,j,e4,e5⟩;show (relabel scope X.env).names.lookup x=some .cell\/(relabel scope X.env).names.lookup x=some .free;rw[cz,fr];simp only[Co];split
   ·exact .inl rfl
   ·exact .inr rfl
 have stat:∀{H':Hp},(∀b∈fp,H' b=none)->∀b∈fp,bR (mS X N' scope cl G.objs.size s2 H2 fp) [] H' b:=fun hn b hb=>by
  refine⟨hn b hb,below b (iH b hb),fun z=>?_,.inl hb,fun x c e=>(f2 b hb).2.2.2.2.1 x c (cc x c e),fun p hp=>absurd (show p∈([]:List (ag×l9)) from hp) (by simp)⟩
  rcases lp.mp (I.fX b z) with q|q
  ·exact(f2 b hb).2.1 q
  ·exact(f2 b hb).2.2.1 q
 have C1:uh (mS X N' scope cl G.objs.size s2 H2 fp) (.SetComp elt [⟨tg,iter,ifs,0⟩] scope pos) tg iter ifs 0 (.ref s2.heap.objs.size) _:=⟨fun _=>rfl,fun _ _ _ _ h=>h,fun _=>xG ..,fun _ _ _ _ h=>h,rfl⟩
 have oK:a7 0 cE:=T.keep _ _ _ st fun b _ o e=>old b o e
 refine kg C1 T oK (lW hc (fun _ _ z=>z) C1 (hg cl G.objs.size s2 H2 fp) (ht cl G.objs.size s2 H2 fp) (K9 (X:=X) rfl rfl (he cl G.objs.size s2 H2 fp)) T (zP turn) I1 oK (stat fun b hb=>by rw[ao (l5 (iH b hb))];exact(f2 b hb).1) w0 fun aT H' s' I4 qn=>?_)
 have J2:Inv X pins σ H' s':=I.qd I4.os I4.base I4.hok I4.bare fun b hb=>⟨(f2 b hb).2.2.2.1,(f2 b hb).2.1,(f2 b hb).2.2.2.2.1,(f2 b hb).2.2.2.2.2⟩
 obtain⟨mm,hm,_⟩:=I4.loc;exact oI _ _ mm s' H' J2 (I.jZ gf I4.free) hm qn
variable {tg elt iter:io}{ifs:List io}{scope:wT}{pos:wv}{N':List ci}{tn:Nat}{idx:List Nat}{wi:TI}{g:TG}{tt:TT}{te:TE}
theorem CW (hc:X.calm=true) (B:aD X.N X.env.scope scope N' tn idx) (hi:PI X tg iter wi)
  (hg:Blk X N' scope fun Y=>PG Y tg g) (ht:Blk X N' scope fun Y=>fO Y ifs tt) (he:Blk X N' scope fun Y=>PE Y elt te)
  (hs:∀x,zw iter X.env x=pure x :=by intro _;rfl):PE X (.SetComp elt [⟨tg,iter,ifs,0⟩] scope pos) (Fg X tn idx wi g tt te) :=by
 refine⟨?_⟩;intro pins s σ H Q I h;obtain⟨cl,iR,cc,dI⟩:=gz (scope:=scope) (env:=X.env) fun n hn=>I.ok.has n ((B.2.1 _ hn).2.2 rfl)
 rw[arm_eval_SetComp];refine NJ (use:=none) rfl hs iR B.1 (fun y hy=>(B.2.1 y hy).2.1) (on (hi pins s σ H _ I h) (fun xv s1 h1=>on h1 (fun uX s2 h2=>?_) fun _ _ z=>z) fun _ _ z=>z)
 obtain⟨it,fp,a7,J,H2,e,I2,T,mM,f2,q2⟩:=h2;subst e;refine CV (RR:=fun acc C=>compPost (model X.prog X.w) X.A X.xe none (EP X pins σ Q) acc C) hc B hg ht he I2 T mM f2 cc dI q2 fun D C m s' H' J2 fC hm q=>?_
 exact⟨m,hm,fun h' gX=>⟨.ref D,H',fC.turn J2 gX,rfl,q⟩⟩
end
inductive Dt where
 |ay|bl (b:Bool)|int (i:Int)|str (x:ci)|lst (xs:List Dt)|tup (xs:List Dt)
inductive fj (H:Hp):V->Dt->Prop where
 |ay:fj H .ay .ay
 |bl (b:Bool):fj H (.bl b) (.bl b)
 |int (i:Int):fj H (.int i) (.int i)
 |str (x:ci):fj H (.str x) (.str x)
 |lst {a:ag} {xs:List V} {ds:List Dt} (e:H a=some (.lst xs)) (hl:xs.length=ds.length) (h:∀(i:Nat) (x:V) (d:Dt),xs[i]?=some x->ds[i]?=some d->fj H x d):fj H (.ref a) (.lst ds)
 |tup {a:ag} {xs:List V} {ds:List Dt} (e:H a=some (.tup xs)) (hl:xs.length=ds.length) (h:∀(i:Nat) (x:V) (d:Dt),xs[i]?=some x->ds[i]?=some d->fj H x d):fj H (.ref a) (.tup ds)
mutual
def eX:Dt->Dt->Bool
 | .ay,.ay=>true
 | .bl a,.bl b=>a==b
 | .bl a,.int b=>(if a then 1 else 0)==b
 | .int a,.bl b=>a==(if b then 1 else 0)
 | .int a,.int b=>a==b
 | .str a,.str b=>a==b
 | .lst xs,.lst ys=>gS xs ys
 | .tup xs,.tup ys=>gS xs ys
 |_,_=>false
def gS:List Dt->List Dt->Bool
 | [],[]=>true
 |x::xs,y::ys=>eX x y && gS xs ys
 |_,_=>false
end
mutual
theorem rM:∀d:Dt,eX d d=true
 | .ay=>by simp[eX]
 | .bl b=>by simp[eX]
 | .int i=>by simp[eX]
 | .str x=>by simp[eX]
 | .lst xs=>by simp only[eX];exact oX xs
 | .tup xs=>by simp only[eX];exact oX xs
theorem oX:∀ds:List Dt,gS ds ds=true
 | []=>by simp[gS]
 |d::ds=>by simp only[gS];rw[rM d,oX ds];rfl
end
theorem nu:∀(xs ys:List Dt),gS xs ys=((hX (min xs.length ys.length)).all (fun j=>eX (xs.getD j .ay) (ys.getD j .ay)) && xs.length==ys.length)
 | [],[]=>by simp[gS]
 | [],_::_=>by simp[gS]
 |_::_,[]=>by simp[gS]
 |x::xs,y::ys=>by
          rw[gS,nu xs ys];have e:min (x::xs).length (y::ys).length=min xs.length ys.length+1 :=by simp[Nat.succ_min_succ]
          rw[e,List.range_succ_eq_map,Zm,List.all_map];have e2:((x::xs).length==(y::ys).length)=(xs.length==ys.length) :=by simp
          rw[e2,Bool.and_assoc];rfl
theorem fj.inj {H:Hp}{v:V}{d:Dt}(h:fj H v d):∀{d':Dt},fj H v d'->d=d':=by
 induction h with
 |ay=>intro d' h';cases h';rfl
 |bl b=>intro d' h';cases h';rfl
 |int i=>intro d' h';cases h';rfl
 |str x=>intro d' h';cases h';rfl
 |lst e hl h ih=>
  intro d' h';cases h' with
  |lst e' Od h'=>
   rw[e]at e';cases e';congr 1
   refine Zh fun i=>?_
   rename_i xs ds ds';by_cases hi:i<xs.length
   ·rw[ap (by omega),ap (by omega)]
    exact congrArg some (ih i _ _ (ap hi) (ap (by omega)) (h' i _ _ (ap hi) (ap (by omega))))
   ·rw[KB (by omega),KB (by omega)]
  |tup e' Od h'=>rw[e]at e';cases e'
 |tup e hl h ih=>
  intro d' h';cases h' with
  |lst e' Od h'=>rw[e]at e';cases e'
  |tup e' Od h'=>
   rw[e]at e';cases e';congr 1
   refine Zh fun i=>?_
   rename_i xs ds ds';by_cases hi:i<xs.length
   ·rw[ap (by omega),ap (by omega)]
    exact congrArg some (ih i _ _ (ap hi) (ap (by omega)) (h' i _ _ (ap hi) (ap (by omega))))
   ·rw[KB (by omega),KB (by omega)]
mutual
def qV:Dt->Nat
 | .lst xs=>j4 xs+1
 | .tup xs=>j4 xs+1
 |_=>0
def j4:List Dt->Nat
 | []=>0
 |x::xs=>max (qV x) (j4 xs)
end
theorem xI:∀{ds:List Dt}{i:Nat}{d:Dt},ds[i]?=some d->qV d<=j4 ds
 | [],_,_,h=>by simp at h
 |x::xs,0,d,h=>by
          simp at h;subst h;rw[j4];exact Nat.le_max_left _ _
 |x::xs,i+1,d,h=>by
          rw[j4];exact wb (xI (i:=i) (by simpa using h)) (Nat.le_max_right _ _)
section
variable {X:Cx}{pins:List (ag×l9)}{σ:St}{H:Hp}{s:ba}
theorem Inv.lists (I:Inv X pins σ H s) {a:ag}{xs:List V}(h:H a=some (.lst xs)):∃its:List al,Vals xs its/\s.heap.IsList a its.toArray :=by
 obtain⟨its,rv,p,_⟩:=I.list (bF.of h);exact⟨its,rv,p.isList⟩
theorem Inv.tups (I:Inv X pins σ H s) {a:ag}{xs:List V}(h:H a=some (.tup xs)):∃its:List al,Vals xs its/\s.heap.IsTuple a its.toArray :=by
 obtain⟨its,rv,p,_⟩:=I.tuple (c9.of h);exact⟨its,rv,p⟩
theorem Oe (I:Inv X pins σ H s) {x y:V}{d:Dt}(hx:fj H x d):∀{e:Dt}{u v:al}{A:sB},fj H y e->RelV x u->RelV y v->A.units+qV d<CS->l8 A s u v (eX d e) :=by
 have lists:=fun {a:ag} {xs:List V} (h:H a=some (.lst xs))=>I.lists h
 have tups:=fun {a:ag} {xs:List V} (h:H a=some (.tup xs))=>I.tups h
 induction hx generalizing y with
 |ay=>
  intro e u v A hy rx ry hu;have dB:A.units<CS :=by omega
  cases rx;cases hy with
  |ay=>cases ry;exact ZP _
  |bl b=>cases ry;exact l8.none_bool _
  |int i=>obtain⟨t,rfl⟩:=ry;exact l8.none_int _ _
  |str z=>obtain⟨t,rfl⟩:=ry;exact l8.none_str _ _
  |lst e2 _ _=>cases ry;obtain⟨_,_,p⟩:=lists e2;exact l8.none_list p dB
  |tup e2 _ _=>cases ry;obtain⟨_,_,p⟩:=tups e2;exact l8.none_tuple p dB
 |bl a=>
  intro e u v A hy rx ry hu;have dB:A.units<CS :=by omega
  cases rx;cases hy with
  |ay=>cases ry;exact l8.bool_none _
  |bl b=>cases ry;exact l8.bool_bool _ _
  |int i=>obtain⟨t,rfl⟩:=ry;exact l8.bool_int _ _ _
  |str z=>obtain⟨t,rfl⟩:=ry;exact l8.bool_str _ _ _
  |lst e2 _ _=>cases ry;obtain⟨_,_,p⟩:=lists e2;exact l8.bool_list _ p dB
  |tup e2 _ _=>cases ry;obtain⟨_,_,p⟩:=tups e2;exact l8.bool_tuple _ p dB
 |int a=>
  intro e u v A hy rx ry hu;have dB:A.units<CS :=by omega
  obtain⟨ta,rfl⟩:=rx;cases hy with
  |ay=>cases ry;exact l8.int_none _ _
  |bl b=>cases ry;exact l8.int_bool _ _ _
  |int i=>obtain⟨t,rfl⟩:=ry;exact l8.int_int _ _ _ _
  |str z=>obtain⟨t,rfl⟩:=ry;exact aad _ _ _ _
  |lst e2 _ _=>cases ry;obtain⟨_,_,p⟩:=lists e2;exact l8.int_list _ _ p dB
  |tup e2 _ _=>cases ry;obtain⟨_,_,p⟩:=tups e2;exact l8.int_tuple _ _ p dB
 |str a=>
  intro e u v A hy rx ry hu;have dB:A.units<CS :=by omega
  obtain⟨ta,rfl⟩:=rx;cases hy with
  |ay=>cases ry;exact l8.str_none _ _
  |bl b=>cases ry;exact l8.str_bool _ _ _
  |int i=>obtain⟨t,rfl⟩:=ry;exact aae _ _ _ _
  |str z=>obtain⟨t,rfl⟩:=ry;exact l8.str_str _ _ _ _
  |lst e2 _ _=>cases ry;obtain⟨_,_,p⟩:=lists e2;exact l8.str_list _ _ p dB
  |tup e2 _ _=>cases ry;obtain⟨_,_,p⟩:=tups e2;exact l8.str_tuple _ _ p dB
 |lst e1 Bb h1 ih=>
  rename_i a xs ds;intro e u v A hy rx ry hu;have dB:A.units<CS :=by omega
  have Of:A.units+j4 ds+1<CS :=by rw[qV]at hu;omega
  cases rx;obtain⟨its,rv,p⟩:=lists e1;cases hy with
  |ay=>cases ry;exact l8.list_none p dB
  |bl b=>cases ry;exact l8.list_bool _ p dB
  |int i=>obtain⟨t,rfl⟩:=ry;exact l8.list_int _ _ p dB
  |str z=>obtain⟨t,rfl⟩:=ry;exact l8.list_str _ _ p dB
  |lst e2 qI h2=>
   rename_i b ys es;cases ry;by_cases fk:a=b
   ·subst fk;have:=(fj.lst e1 Bb h1).inj (fj.lst e2 qI h2);cases this;rw[rM];exact ZP _
   ·obtain⟨iP,qW,p2⟩:=lists e2;have l1:=rv.length;have l2:=qW.length;have at_:∀j (g1:j<its.toArray.size) (g2:j<iP.toArray.size),l8 A.in1 s its.toArray[j] iP.toArray[j] (eX (ds.getD j .ay) (es.getD j .ay)):=fun j g1 g2=>by
     have Fh:j<xs.length :=by rw[l1];simpa using g1
     have Fi:j<ys.length :=by rw[l2];simpa using g2
     have r1:=lY rv g1;have r2:=lY qW g2;rw[cr,ap Fh]at r1;rw[cr,ap Fi]at r2;have d1:ds[j]?=some ds[j]:=ap (by omega)
     have d2:es[j]?=some es[j]:=ap (by omega)
     rw[cr,cr,d1,d2];have:=xI d1;exact ih j _ _ (ap Fh) d1 (h2 j _ _ (ap Fi) d2) r1 r2 (by show A.units+1+_<CS;omega)
    refine l8.of_refs fk ?_;rw[eX,nu];by_cases hsz:ds.length=es.length
    ·have q:=SeqAt.RcAt.lists p p2 (by simp only[lv];omega) dB at_
     have z:(ds.length==es.length)=true :=by simpa using hsz
     rw[z,Bool.and_true,<- hsz,Re];rw[lv,<- l1,Bb]at q;exact q
    ·have z:(ds.length==es.length)=false :=by simpa using hsz
     rw[z,Bool.and_false];exact SeqAt.RcAt.lists_lengths p p2 (by simp only[lv];simpa[bne_iff_ne] using (show its.length≠iP.length by omega)) dB
  |tup e2 qI h2=>cases ry;obtain⟨_,_,p2⟩:=tups e2;exact l8.list_tuple p p2 dB
 |tup e1 Bb h1 ih=>
  rename_i a xs ds;intro e u v A hy rx ry hu;have dB:A.units<CS :=by omega
  have Of:A.units+j4 ds+1<CS :=by rw[qV]at hu;omega
  cases rx;obtain⟨its,rv,p⟩:=tups e1;cases hy with
  |ay=>cases ry;exact l8.tuple_none p dB
  |bl b=>cases ry;exact l8.tuple_bool _ p dB
  |int i=>obtain⟨t,rfl⟩:=ry;exact l8.tuple_int _ _ p dB
  |str z=>obtain⟨t,rfl⟩:=ry;exact l8.tuple_str _ _ p dB
  |lst e2 qI h2=>cases ry;obtain⟨_,_,p2⟩:=lists e2;exact l8.tuple_list p p2 dB
  |tup e2 qI h2=>
   rename_i b ys es;cases ry;by_cases fk:a=b
   ·subst fk;have:=(fj.tup e1 Bb h1).inj (fj.tup e2 qI h2);cases this;rw[rM];exact ZP _
   ·obtain⟨iP,qW,p2⟩:=tups e2;have l1:=rv.length;have l2:=qW.length;have at_:∀j (g1:j<its.toArray.size) (g2:j<iP.toArray.size),l8 A.in1 s its.toArray[j] iP.toArray[j] (eX (ds.getD j .ay) (es.getD j .ay)):=fun j g1 g2=>by
     have Fh:j<xs.length :=by rw[l1];simpa using g1
     have Fi:j<ys.length :=by rw[l2];simpa using g2
     have r1:=lY rv g1;have r2:=lY qW g2;rw[cr,ap Fh]at r1;rw[cr,ap Fi]at r2;have d1:ds[j]?=some ds[j]:=ap (by omega)
     have d2:es[j]?=some es[j]:=ap (by omega)
     rw[cr,cr,d1,d2];have:=xI d1;exact ih j _ _ (ap Fh) d1 (h2 j _ _ (ap Fi) d2) r1 r2 (by show A.units+1+_<CS;omega)
    refine l8.of_refs fk ?_;rw[eX,nu];have q:=SeqAt.RcAt.tuples p p2 dB at_;rw[lv,lv,<- l1,<- l2,Bb,qI]at q;exact q
end
theorem vj:zd "sorted" = some (.builtin "sorted") :=by decide +kernel
section
variable {X:Cx}
def Og (K:bv) (H:Hp) (p:ag) (ns:List Int):Prop:=bF K H p (ns.map V.int)\/c9 K H p (ns.map V.int)
def Bc (P:jp) (w:lf) (K:bv):List V->Hp->VK->Prop:=fun xs H Q=>∃p ns,xs=[.ref p]/\(H p=some (ix P w p ns)\/Og K H p ns)/\ns.length<64/\∀l,H l=none->Q (.ref l) (upd H l (.lst ((sortI ns).map V.int)))
theorem xJ (hc:X.calm=true):cR X (.builtin "sorted") (Bc X.prog X.w X.K) :=by
 intro pins s σ H xs us Q I r h;obtain⟨p,ns,rfl,hq,oW,q⟩:=h;obtain⟨u,rfl,rx⟩:=vals1 r;cases rx;have hh:=I.ok.hd hc;refine CU (ns:=ns) (fun QL Fj=>?_) oW (fun h1 h' d' tk us e hI k1 k2 he=>?_)
 ·rcases hq with hq|hq|hq
  ·exact zN (by simp[hh]) (A9 I hq) (by have:sizeLine=16777216:=Pf;omega) Fj
  ·obtain⟨its,rv,pl,hz⟩:=I.list hq;have hl:=rv.length;obtain⟨o,ho,f9,n,hd⟩:=pl.isList;exact qU ho f9 hd (.inl rfl) (fun h' k=>Fj its ns h' s.drawn s.toks (qi rv) (.refl _) k) (by omega)
  ·obtain⟨its,rv,pl,hz⟩:=I.tuple hq;have hl:=rv.length;obtain⟨o,ho,f9,n,hd⟩:=pl;exact qU ho f9 hd (.inr rfl) (fun h' k=>Fj its ns h' s.drawn s.toks (qi rv) (.refl _) k) (by omega)
 ·have I1:Inv X pins σ H {s with heap:=h1,drawn:=d'}:=(I.kept (t':=s.toks) k1).iw ⟨rfl,rfl,I.bare.self⟩
  have hsz:sizeLine=16777216:=Pf;have ob:ObjOk X.prog X.w (upd H h1.objs.size (.lst ((sortI ns).map V.int))) h' h1.objs.size (.lst ((sortI ns).map V.int)):=⟨by rw[bn,(sortI_perm ns).length_eq];omega,us,e,oV hI,he⟩
  exact⟨.ref h1.objs.size,_,I1.laid (t':=tk) k2 (cb _) ob,rfl,q _ (I1.hok.fresh (cb _))⟩
def Oh:V->List V->Hp->VK->Prop:=fun x vs H Q=>∃a b i rest,x=.str a/\vs=[.str b]/\OK a b 0 a.length 1=i::rest/\Q (.int (i:Nat)) H
theorem HM:AR X "str.index" Oh :=by
 intro pins s σ H x vs v us Q I rx rv h;obtain⟨a,b,i,rest,rfl,rfl,ho,q⟩:=h;obtain⟨t,rfl⟩:=rx;obtain⟨u,rfl,ru⟩:=rv.one;obtain⟨t',rfl⟩:=ru;exact SC.index ho ⟨.int i,H,I.tok _,⟨_,rfl⟩,q⟩
end
def eL (n:Nat):List Int:=(hX n).map fun i=>((i:Nat):Int)
theorem xK:zd "all" = some (.builtin "all"):=PyProof.Rows.boot_all
section
variable {X:Cx}
def JL (K:bv):List V->Hp->VK->Prop:=fun xs H Q=>∃(p:ag) (bs:List Bool),xs=[.ref p]/\bF K H p (bs.map V.bl)/\Q (.bl (bs.all id)) H
theorem Fl (hc:X.calm=true):cR X (.builtin "all") (JL X.K) :=by
 intro pins s σ H xs us Q I r h;obtain⟨p,bs,rfl,hq,q⟩:=h;obtain⟨u,rfl,rx⟩:=vals1 r;cases rx;have hh:=I.ok.hd hc;obtain⟨its,rv,pl,hz⟩:=I.list hq;have hl:its.toArray.size=bs.length :=by rw[lv,<- rv.length,bn]
 have qS:s.heap.IsList p its.toArray:=pl.isList;have aM:p<s.heap.objs.size:=let ⟨o,ho,_⟩:=qS;kt ho;have at_:∀(i:Nat) (v:al),its.toArray[i]?=some v->v=.bool (bs.getD i false):=fun i v hv=>by
  have h':its[i]?=some v :=by simpa using hv
  have hi:i<its.length:=(ca.mp h').1;have cN:i<bs.length :=by rw[lv]at hl;omega
  obtain⟨u,e,q2⟩:=rv.get (i:=i) (x:=V.bl bs[i]) (by rw[dL,ap cN];rfl)
  rw[h']at e;cases e;rw[cr,ap cN];exact q2
 refine Y0 F.kind_all F.plain_all F.entry_all (F.args_all1 _) ?_;unfold wl.«all»;refine ac (m:=oneArg "all" _) (bi ?_)
 refine ac (aaw qS ?_);have W:=aa9.list (prog:=X.prog) (w:=X.w) (A:=X.A.in1) (by simp[hh]) s.heap.objs.size p (l5 aM) its.toArray
 refine bi ⟨FS Zt _,codeAny_all_loop W (fun i=>bs.getD i false) ?_ its.toArray.size 0 _ rfl (ut _) ⟨⟨_,ij _ rfl,rfl,rfl⟩,qS.push _⟩ fun h' tk hk=>?_⟩
 ·intro i v s' Q' E' hv VW;have:=at_ i v hv;subst this;exact BB VW
 ·have e:((hX its.toArray.size).drop 0).all (fun i=>bs.getD i false)=bs.all id :=by
   rw[List.drop_zero,hl];refine Ym.mpr ?_;rw[u8,u8];constructor
   ·intro hx b hb;obtain⟨i,hi⟩:=List.getElem?_of_mem hb;have gY:=(ca.mp hi).1;have:=hx i (by rw[l6];exact gY)
    rw[cr,hi]at this;exact this
   ·intro hx i hi;rw[l6]at hi;rw[cr,ap hi];exact hx _ (v6 hi)
  have I2:Inv X pins σ H {s with heap:=h',toks:=tk}:=I.kept fun b o eb=>hk b o (by simp only[lc];exact l5 (kt eb)) (br _ eb)
  refine⟨.bl (bs.all id),H,I2,?_,q⟩;show ZJ _=ZJ _;rw[e]
theorem CY {K:bv}(h:X.K=K) (hc:X.calm=true):cR X (.builtin "all") (JL K):=h▸Fl hc
end
theorem ObjOk.there {P:jp}{w:lf}{H:Hp}{h:i8}{a:ag}{o:HO}(x:ObjOk P w H h a o):∃u,h.get? a=some u :=by
 cases o with
 |lst xs=>obtain⟨_,_,_,_,e⟩:=x;exact⟨_,e⟩
 |tup xs=>obtain⟨_,_,_,ob,e,_⟩:=x;exact⟨_,e⟩
 |dK aj=>obtain⟨_,_,_,_,o,_,_,e,_⟩:=x;exact⟨_,e⟩
 |dT aj=>obtain⟨_,_,_,_,o,_,_,e,_⟩:=x;exact⟨_,e⟩
 |set S n=>obtain⟨o,_,_,_,e,_⟩:=x;exact⟨_,e⟩
 |ins C dx fs=>obtain⟨_,_,_,e,_⟩:=x;exact⟨_,e⟩
 |own y=>obtain⟨_,e⟩:=x;exact⟨_,e⟩
 |xd fs=>obtain⟨_,⟨_,_,_,e,_⟩,_⟩:=x;exact⟨_,e⟩
 |AF lo hi=>obtain⟨_,_,_,e⟩:=x;exact⟨_,e⟩
 |gN ob u=>obtain⟨e,_⟩:=x;exact⟨_,e⟩
 |cV ps=>exact⟨_,x⟩
 |lam ps=>exact⟨_,x⟩
 |met f y=>exact⟨_,x⟩
 |ext φ=>obtain⟨_,⟨_,e⟩,_⟩:=x;exact⟨_,e⟩
def fm (P:jp) (w:lf):mP:=fun outer H s E e s'=>∃(a C t:ag) (B:i8) (H':Hp),e=.ref a/\s'.os=s.os/\Gn s.gens.size s'.gens/\i8.FlyingW B outer a (.ref C) (.ref t) s'.heap /\
 (∀b o,s.heap.get? b=some o->b ∉ gO outer->∃o',B.get? b=some o')/\(∀b u,H' b=some u->∃o',B.get? b=some o')/\Un (gO outer) [] H H' s.heap s'.heap/\cG P w H' s'.heap/\E (.ref C) none H'
section
variable {X:Cx}{pins:List (ag×l9)}{σ:St}{H H1:Hp}{s s1:ba}{B h':i8}
theorem Inv.oY (I:Inv X pins σ H s) {b:ag}(h1:b≠X.env.locals) (h2:b ∉ X.fs):b ∉ gO X.stack:=fun z=>by
 rcases lp.mp (I.fX b z) with q|q
 ·exact h1 q
 ·exact h2 q
theorem Inv.wz (I:Inv X pins σ H s) {b:ag}{o:l9}(e:X.s₀.heap.get? b=some o):b≠X.env.locals:=fun z=>by
 have l:=kt e;have:=I.ok.above;rw[<- z]at this;exact absurd l (Nat.not_lt.mpr this)
theorem Inv.Tf (I1:Inv X pins σ H1 s1) (I:Inv X pins σ H s) (c1:∀b o,s1.heap.get? b=some o->b ∉ gO X.stack->∃o',B.get? b=some o') (c2:∀b u,H b=some u->∃o',B.get? b=some o')
  (k:B.StaysIn s.heap) (k':B.StaysIn h') (up:s.heap.UpToSlots h'):Inv X pins σ H {s with heap:=h'}:=by
 have same:∀b o',(∃o2,B.get? b=some o2)->s.heap.get? b=some o'->h'.get? b=some o':=fun b o' ⟨o2,e⟩ q=>by
  have z:=k b o2 e;rw[q]at z;cases z;exact k' b _ e
 refine⟨I.ok,I.os,I.bare,⟨fun b o q n hb hx=>?_,fun b o q n hb hx=>?_,I.base.free,fun b o q hx=>?_,I.base.tups,I.base.frzs,I.base.tbls⟩,?_,fun x c e=>?_,I.free,I.freeC,fun p hp=>?_,fun a o e=>?_,I.len⟩
 ·exact same b o (c1 b o (I1.base.keep b o q n hb hx) (I.oY (I.wz q) hb)) (I.base.keep b o q n hb hx)
 ·obtain⟨sl,e⟩:=I.base.slot b o q n hb hx;obtain⟨_,o2,e2,nf⟩:=I.funs.mem hb;rw[e]at e2;cases e2;obtain⟨VX,e4⟩:=up b {o with slots:=sl} e nf
  exact⟨VX,e4⟩
 ·obtain⟨o',e⟩:=I.base.there b o q hx;by_cases hb:b∈X.fs
  ·obtain⟨_,o2,e2,nf⟩:=I.funs.mem hb;obtain⟨sl,e3⟩:=up b _ e2 nf;exact⟨_,e3⟩
  ·obtain⟨o1,q1⟩:=I1.base.there b o q hx;exact⟨o',same b o' (c1 b o1 q1 (I.oY (I.wz q) hb)) e⟩
 ·obtain⟨m,hn,hl⟩:=I.loc;refine⟨m,up.ns hn,fun i x v a b c=>?_⟩
  obtain⟨u,r,l⟩:=hl i x v a b c;refine⟨u,r,?_⟩;rcases l with l|⟨kd,c,ec,o,ho,hd⟩
  ·exact .inl l
  ·obtain⟨sl,e⟩:=up c o ho fun vs z=>by rw[hd]at z;cases z
   exact .inr ⟨kd,c,ec,_,e,hd⟩
 ·obtain⟨v,o,ho,hd⟩:=I.cell x c e;obtain⟨sl,e⟩:=up c o ho fun vs z=>by rw[hd]at z;cases z
  exact⟨v,_,e,hd⟩
 ·obtain⟨p1,p2,p3,p4,p5⟩:=I.pin p hp;exact⟨same p.1 p.2 (c1 p.1 p.2 (I1.pin p hp).1 (I.oY p3 p4)) p1,p2,p3,p4,p5⟩
 ·refine(I.hok a o e).bQ (fun b u hb q=>?_) (fun _ q=>q) fun _ _ q=>q
  rcases hb with z|z
  ·exact same b u (c2 b o (by rw[z];exact e)) q
  ·exact same b u (c2 b _ z) q
end
section
variable {P:jp}{w:lf}{K:bv}{mg:ci->Option al}{base:i8}{N:List ci}{qual:ci}{scope:wT}{f:ag}{cd:al}{A:sB}{outer:List ON}{s0:ba}{H0:Hp}{E:XK}
theorem qj:Passes (fm P w) (ir (fm P w) P w K mg base N qual scope f cd A outer s0 H0 E) E :=by
 intro pins σ H s e s' I h;obtain⟨a,C,t,B,H',rfl,os,gn,fl,c1,c2,un,hok,q⟩:=h;have I':=I.qd (ch:=[]) os un hok gn (fun b z=>absurd z (by simp))
 refine wpAny_leaves_onW (cls:=.ref C) (a0:=.ref t) I.ok.frames rfl fl fun h' Th up=>?_
 have I2:=I.Tf I' c1 c2 fl.1 Th.1 up;refine⟨a,C,t,B,H',rfl,I2.os,I2.bare,Th,fun b o e n=>?_,c2,I2.base,I2.hok,q⟩
 obtain⟨o1,e1⟩:=I.base.there b o e (fun z=>absurd (show b∈([]:List ag) from z) (by simp))
 exact c1 b o1 e1 (I.oY (I.wz e) n)
def Raises (X:Cx) (E:XK):Prop:=∀(pins:List (ag×l9)) (σ:St) (H:Hp) (s:ba) (C:ag) (h':i8) (a:ag) (vs:List al),Inv X pins σ H s->i8.MadeExcOf s.heap h' a (.ref C) vs->E (.ref C) none H->X.xe (.ref a) {s with heap:=h'}
theorem Fm:Raises (ir (fm P w) P w K mg base N qual scope f cd A outer s0 H0 E) E :=by
 intro pins σ H s C h' a vs I hx q;have c1:∀b o,s.heap.get? b=some o->b ∉ gO (ir (fm P w) P w K mg base N qual scope f cd A outer s0 H0 E).stack->∃o',(ZL s.heap (gO (ir (fm P w) P w K mg base N qual scope f cd A outer s0 H0 E).stack)).get? b=some o':=
  fun b o e n=>⟨o,PySem.W.hideAll_get _ e n⟩
 have c2:∀b u,H b=some u->∃o',(ZL s.heap (gO (ir (fm P w) P w K mg base N qual scope f cd A outer s0 H0 E).stack)).get? b=some o':=fun b u hu=>by
  obtain⟨o,e⟩:=(I.hok b u hu).there;exact c1 b o e fun z=>by rw[I.qb b z]at hu;cases hu
 have st:(ZL s.heap (gO (ir (fm P w) P w K mg base N qual scope f cd A outer s0 H0 E).stack)).StaysIn s.heap:=fun b o e=>PySem.W.of_hideAll _ e
 refine wpAny_leaves_madeW (cls:=.ref C) I.ok.frames rfl st (PySem.W.funFrames_hide I.stack fun env he b hb=>YY.mpr ⟨env,he,hb⟩) hx fun X7 t fl _ _ up=>?_
 have I2:=I.Tf I c1 c2 st fl.1 ((i8.UpToSlots.of_keeps hx.keeps).trans up);refine⟨a,C,t,_,H,rfl,I2.os,I2.bare,fl,fun b o e n=>?_,c2,I2.base,I2.hok,q⟩
 obtain⟨o1,e1⟩:=I.base.there b o e (fun z=>absurd (show b∈([]:List ag) from z) (by simp))
 exact c1 b o1 e1 (I.oY (I.wz e) n)
end
theorem La {K:bv}{h:i8}{C:ag}{vk:List al}{newId:String}(X:K.In h) (q:aap K C vk newId=true) :
  ∃bm Nn nm qn bs hd sn sub ab col dd k0 k1 k2 k3 k5 mN,h.get? C=some (excClassObj nm qn C Nn bs bm hd sn sub ab col dd k0 k1 k2 k3 k5 newId)/\h.Ns Nn mN/\mN "__init__" = none/\OwnTail h vk bm :=by
 unfold aap at q;split at q;case h_2=>cases q
 case h_1 dd cd sl ho=>
  split at q;case h_2=>cases q
  case h_1 C' bm k0 k1 k2 k3 n k5 hm hs=>
   rw[EN,EN,EN,EN,EN]at q;obtain⟨⟨⟨⟨⟨q1,q2⟩,q3⟩,q4⟩,q5⟩,q6⟩:=q;have e1:C'=C:=beq_iff_eq.mp q1;have e2:n=newId:=beq_iff_eq.mp q2;have e3:cd.hasDel=false :=by simpa using q3
   subst e1 e2;obtain⟨nm,bs,mro,ns,qn,hd,sn,sub,ab,col,del⟩:=cd;dsimp only at hm e3 q5 q6;subst hm e3;have es:sl=#[k0,k1,k2,k3,some (.builtin n),k5] :=by
    cases sl with
    |mk l=>exact congrArg Array.mk hs
   subst es;exact⟨bm,ns,nm,qn,bs,hd,sn,sub,ab,col,dd,k0,k1,k2,k3,k5,_,X _ _ ho,i8.Ns.of_isNs (PySem.W.isNs_of_in X q5),PySem.W.nsMap_none_of_in X q5 (beq_iff_eq.mp q6),PySem.W.tail_of_in X q4⟩
section
variable {X:Cx}{x:ci}{C:ag}{mH:io}{rest:List io}{t:TA}{vk:List al}{B newId xM:String}{E:XK}{np aU pos:wv}
def Oi (C:ag) (E:XK) (t:TA):TS:=fun _ σ H=>t σ H fun vs H1=>vs.length<=sizeLine/\E (.ref C) none H1
theorem HN (O:aap X.K C vk newId=true) (FB:ExcBaseFacts B newId xM vk) (hc:X.calm=true) (hR:Raises X E) (hg:Gl X x) (hm:X.mg x=some (.ref C)) (ha:PA X (mH::rest) t)
  (kT:(x==("__debug__" : ci))=false :=by decide) (he:lw (mH::rest) X.env=(false,eval mH X.env)::lw rest X.env :=by rfl) (dA:(backTo aU (lw rest X.env)).any (·.1)=false :=by rfl) :
  PS X (.Raise (some (.Call (.Name x np) (mH::rest) [] aU)) none pos) (Oi C E t) :=by
 refine⟨fun pins s σ H D I h=>?_⟩
 obtain⟨bm,Nn,nm,qn,bs,hd,sn,sub,ab,col,dd,k0,k1,k2,k3,k5,mN,hC,hN,VY,T⟩:=La I.ok.mod.kin O;have hp:(backTo aU (lw (mH::rest) X.env)).any (·.1)=false :=by
  rw[he];exact dA
 have Bd:=ha aU pins s σ H _ I h;rw[he]at Bd;refine wpAny_Raise_call_subT (C:=C) (nm:=nm) (q:=qn) (N:=Nn) (bs:=bs) (bm:=bm) (hdct:=hd) (sn:=sn) (sub:=sub) (ab:=ab) (col:=col) (dd:=dd) (k0:=k0) (k1:=k1) (k2:=k2) (k3:=k3) (k5:=k5) FB (mN:=mN)
  (T.hasType FB.hasBase) (I.ok.hd hc) hp VY (ub I hg hm ⟨rfl,?_⟩ kT)
 rw[he];refine ZQ (thn Bd fun us s2 ⟨vs,H2,I2,r,l,q⟩=>?_)
 exact⟨rfl,by rw[<- r.length];exact l,I2.bk _ _ hC,hN.keeps I2.bk,T.keeps I2.bk,fun h' a hx=>hR pins σ H2 s2 C h' a us I2 hx q⟩
end
end L2
namespace L2
open PySem PySem.Spec PyProof.Rows PySem.W Builtin Builtin.ObjectAttr Builtin.Getset_descriptor
def ExcAt (C a:ag) (h:i8):Prop:=∃o vs,h.get? a=some o/\o.cls=.ref C/\o.data=.fields vs
def U2 (C a:ag):HO:=.ext (ExcAt C a)
structure Oj (K:Frag) (C:ag):Prop where
 cls:(clsIn K C).isSome=true
 ga:findIn K (.ref C) "__getattribute__" = some (some (.builtin "BaseException.__getattribute__"))
 gt:findIn K (.ref C) "__getattr__" = some none
 cl:findIn K (.ref C) "__class__" = some (some (.builtin "object.__class__"))
 gg:specialIn K (.builtin "object.__class__") "__get__" = some (some (.builtin "getset_descriptor.__get__"))
 tk:takesIn K (.builtin "object.__class__")=some true
 ob:mroIn K C (.type "object")=some true
 be:mroIn K C (.type "BaseException")=some true
end L2
namespace L2
open PySem PySem.Spec PyProof.Rows PySem.W
section
variable {X:Cx}{pins pins':List (ag×l9)}{σ:St}{H:Hp}{s:ba}{T:al->ba->Prop}
theorem Inv.RT {a:ag}{o:HO}(I:Inv X pins σ H s) (n0:H a=none) (n1:X.s₀.heap.get? a=none) (n2:a≠X.env.locals) (n3:∀x c,X.env.cells.lookup x=some c->c≠a) (n4:∀p∈X.pn++pins,p.1≠a)
  (ob:ObjOk X.prog X.w (upd H a o) s.heap a o):Inv X pins σ (upd H a o) s :=by
 have un:∀b u,H b=some u->upd H a o b=some u:=fun b u e=>by rw[ao (bt e n0)];exact e
 refine⟨I.ok,I.os,I.bare,⟨I.base.keep,I.base.slot,fun b u q n hx=>?_,I.base.there,fun b xs e=>un _ _ (I.base.tups b xs e),fun b u v e=>un _ _ (I.base.frzs b u v e),fun b ps e=>?_⟩,I.loc,I.cell,?_,fun x c e=>?_,fun p hp=>?_,fun b u e=>?_,I.len⟩
 ·rw[ao (fun z=>by rw[z,n1]at q;cases q)]
  exact I.base.free b u q n hx
 ·obtain⟨more,z⟩:=I.base.tbls b ps e;exact⟨more,un _ _ z⟩
 ·rw[ao (Ch n2)];exact I.free
 ·rw[ao (n3 x c e)];exact I.freeC x c e
 ·obtain⟨p1,p2,p3⟩:=I.pin p hp;exact⟨p1,by rw[ao (n4 p hp)];exact p2,p3⟩
 ·by_cases hb:b=a
  ·subst hb;rw[aH]at e;cases e;exact ob
  ·rw[ao hb]at e;exact(I.hok b u e).bQ (fun _ _ _ q=>q) (fun c q=>un _ _ q) fun c xs q=>un _ _ q
end
structure Fn (K:Frag) (C0:ag):Prop where
 ty:typeIn K (.ref C0)=some (.type "type")
 be:subIn K (.ref C0) (.type "BaseException")=some true
 it:(clsIn K C0).isSome=true
theorem RU {P:jp}{w:lf}{X:Cx}:Passes (fm P w) X (fun _ _ _=>False):=fun _ _ _ _ _ _ _ h=>by
 obtain⟨_,_,_,_,_,_,_,_,_,_,_,_,_,q⟩:=h;exact q.elim
theorem ve.oQ {P:jp}{w:lf}{K:bv}{mg:ci->Option al}{base:i8}{x qual:ci}{st:wE}{f:ag}{fd:tz}{N ps:List ci}{k:Nat}{sp:Sp}(F:ve K x qual st f fd) (S:aP N ps (aq st)) (len:∀vs H Q E,sp vs H Q E->vs.length=ps.length)
  (sv:∀(A:sB) (outer:List ON) (s:ba) (H:Hp) (vs:List V) (Q:VK) (E:XK),bZ k (A.deeper (envOfC qual (aq st) s.heap.objs.size f fd.code))->sp vs H Q E->
   ∃t,iG (ir (fm P w) P w K mg base N qual (aq st) f fd.code A outer s H E) (dE st) t/\t {nx:=fun _ H'=>Q .ay H',rt:=Q} (start N vs) H):FnOk P w K mg base (fm P w) (k+1) f fd ps sp :=by
 obtain⟨oc,od,kV,doc,pm,an,eG,ct,oB,rfl,lk,iN⟩:=F.ex;exact JE lk iN S len fun A outer s H vs Q E hr mQ=>sv A outer s H vs Q E hr mQ
def Ti:List al:=[.type "ValueError",.type "Exception",.type "BaseException",.type "object"]
def HP (K:Frag) (C0 C:ag):Bool:=excIn K C Ti "ValueError.__new__" && (clsIn K C).isSome && findIn K (.ref C) "__getattribute__" == some (some (.builtin "BaseException.__getattribute__")) && findIn K (.ref C) "__getattr__" == some none &&
 findIn K (.ref C) "__class__" == some (some (.builtin "object.__class__")) && mroIn K C (.type "object")==some true && mroIn K C (.type "BaseException")==some true && subIn K (.ref C) (.ref C0)==some true && kitOne K (.ref C) (.type "ValueError")==some true
def CZ (K:Frag) (C0:ag) (cs:List ag):Bool:=cs.all (HP K C0) && (cs.all fun C=>cs.all fun D=>kitOne K (.ref C) (.ref D)==some (decide (C=D))) && specialIn K (.builtin "object.__class__") "__get__" == some (some (.builtin "getset_descriptor.__get__")) && takesIn K (.builtin "object.__class__")==some true &&
 typeIn K (.ref C0)==some (.type "type") && subIn K (.ref C0) (.type "BaseException")==some true && (clsIn K C0).isSome
structure HQ (K:Frag) (C0:ag) (cs:List ag):Prop where
 ex:∀C∈cs,excIn K C Ti "ValueError.__new__" = true
 cl:∀C∈cs,Oj K C
 sub:∀C∈cs,subIn K (.ref C) (.ref C0)=some true
 one:∀C∈cs,∀D∈cs,kitOne K (.ref C) (.ref D)=some (decide (C=D))
 val:∀C∈cs,kitOne K (.ref C) (.type "ValueError")=some true
 top:Fn K C0
theorem Lb {K:Frag}{C0:ag}{cs:List ag}(h:CZ K C0 cs=true):HQ K C0 cs :=by
 unfold CZ at h;simp only[EN]at h;obtain⟨⟨⟨⟨⟨⟨h1,h2⟩,h3⟩,h4⟩,h5⟩,h6⟩,h7⟩:=h;have all:∀C∈cs,HP K C0 C=true:=u8.mp h1;have part:∀C∈cs,_:=fun C hC=>by
  have z:=all C hC;unfold HP at z;simp only[EN]at z;exact z
 refine⟨fun C hC=>(part C hC).1.1.1.1.1.1.1.1,fun C hC=>?_,fun C hC=>beq_iff_eq.mp (part C hC).1.2,fun C hC D hD=>beq_iff_eq.mp (u8.mp (u8.mp h2 C hC) D hD),fun C hC=>beq_iff_eq.mp (part C hC).2,⟨beq_iff_eq.mp h5,beq_iff_eq.mp h6,h7⟩⟩
 obtain⟨⟨⟨⟨⟨⟨⟨⟨_,p1⟩,p2⟩,p3⟩,p4⟩,p5⟩,p6⟩,_⟩,_⟩:=part C hC;exact⟨p1,beq_iff_eq.mp p2,beq_iff_eq.mp p3,beq_iff_eq.mp p4,beq_iff_eq.mp h3,beq_iff_eq.mp h4,beq_iff_eq.mp p5,beq_iff_eq.mp p6⟩
end L2
namespace L2
open PySem PySem.Spec PyProof.Rows Builtin.SmallTypes
def SqIt (k:Bool) (h:i8) (it a:ag) (i:Nat):Prop:=if k=true then h.IsListIter it a i else h.IsTupleIter it a i
def dy (k:Bool) (h:i8) (a:ag) (items:Array al):Prop:=if k=true then h.IsList a items else h.IsTuple a items
theorem SqIt.at {k:Bool}{h h':i8}{it a:ag}{i:Nat}(x:SqIt k h it a i) (q:∀o,h.get? it=some o->h'.get? it=some o):SqIt k h' it a i :=by
 cases k with
 |true=>exact i8.IsListIter.at (h:=h) x q
 |false=>exact i8.IsTupleIter.at (h:=h) x q
theorem SqIt.obj {k:Bool}{h:i8}{it a:ag}{i:Nat}(x:SqIt k h it a i):∃o,h.get? it=some o/\∃vs,o.data=.fields vs :=by
 cases k with
 |true=>obtain⟨o,e,_,d⟩:=(show h.IsListIter it a i from x);exact⟨o,e,_,d⟩
 |false=>obtain⟨o,e,_,d⟩:=(show h.IsTupleIter it a i from x);exact⟨o,e,_,d⟩
theorem dy.obj {k:Bool}{h:i8}{a:ag}{items:Array al}(x:dy k h a items):∃o n,h.get? a=some o/\o.data=.seq items n :=by
 cases k with
 |true=>obtain⟨o,e,_,n,d⟩:=(show h.IsList a items from x);exact⟨o,n,e,d⟩
 |false=>obtain⟨o,e,_,n,d⟩:=(show h.IsTuple a items from x);exact⟨o,n,e,d⟩
theorem dy.at {k:Bool}{h h':i8}{a:ag}{items:Array al}(x:dy k h a items) (q:∀o,h.get? a=some o->h'.get? a=some o):dy k h' a items :=by
 cases k with
 |true=>exact i8.IsList.at (h:=h) x q
 |false=>exact i8.IsTuple.at (h:=h) x q
section
variable {prog:jp}{w:lf}{A:sB}{E:al->ba->Prop}{s:ba}{it a:ag}{i:Nat}{items:Array al}{x:al}{k:Bool}
theorem HR {Q:Option al->ba->Prop}(hit:s.heap.IsTupleIter it a i) (ha:s.heap.IsTuple a items) (hx:items[i]?=some x)
  (hQ:∀h',h'.IsTupleIter it a (i+1)->Cn it s.heap h'->Q (some x) {s with heap:=h'}):c8 (model prog w) A (callSpecial? (.ref it) "__next__") Q E s :=by
 obtain⟨o,ho,hc,hd⟩:=id hit;obtain⟨ol,Be,_,nl,JM⟩:=ha;have sl:=F.slot_tuple_iterator_next;refine FF (name:=AN "__next__") hit.typeIs sl (zn sl hit.typeIs F.entry_tuple_iterator_next ?_ (F.args_tuple_iterator_next_1 _))
 have nn:¬ ((ss a==AS)=true):=gc;refine ac (m:=field (.ref it) 0) (Mn ho hd (x:=.ref a) rfl ?_);rw[if_neg nn];refine ac (m:=field (.ref it) 1) (Mn ho hd (x:=.int i 0) rfl (ac (m:=seqItems? (.ref a)) (Gc Be JM ?_)));simp only[xL,hx];refine ac (m:=setField _ _ _) (wpAny_setField ho hd (by simp) (bi ⟨x,rfl,hQ _ ?_ (AL ..)⟩))
 refine⟨_,ww _ ho (ZE (P3 hd _)),(aaz ..).trans hc,?_⟩;rw[P3 hd];simp[rawInt]
theorem HS {Q:Option al->ba->Prop}(hh:A.handled=none) (hit:s.heap.IsTupleIter it a i) (ha:s.heap.IsTuple a items) (hx:items[i]?=none)
  (hE:∀h' e,i8.ExtBut it s.heap h'->(∃o,h'.get? e=some o/\o.cls=.type "StopIteration")->E (.ref e) {s with heap:=h'}):c8 (model prog w) A (callSpecial? (.ref it) "__next__") Q E s :=by
 obtain⟨o,ho,hc,hd⟩:=id hit;obtain⟨ol,Be,_,nl,JM⟩:=ha;have sl:=F.slot_tuple_iterator_next;refine FF (name:=AN "__next__") hit.typeIs sl (zn sl hit.typeIs F.entry_tuple_iterator_next ?_ (F.args_tuple_iterator_next_1 _))
 have nn:¬ ((ss a==AS)=true):=gc;refine ac (m:=field (.ref it) 0) (Mn ho hd (x:=.ref a) rfl ?_);rw[if_neg nn];refine ac (m:=field (.ref it) 1) (Mn ho hd (x:=.int i 0) rfl (ac (m:=seqItems? (.ref a)) (Gc Be JM ?_)));simp only[xL,hx];refine ac (GS (ac (m:=setField _ _ _) (wpAny_setField ho hd (by simp) ?_)))
 refine ac (m:=newExc (.type "StopIteration") []) ?_
 unfold newExc newTuple;refine ac (B0 ?_ (by size_fits))
 refine ac (m:=firstArgMember _ _) (wpAny_of_eq (a:=AS) (by first|rfl|(simp only[firstArgMember];rfl)) (B0 ?_ (by size_fits)))
 refine wpAny_raiseNew_none hh ?_;exact hE _ _ (((AL ..).extBut.push _).push _) ⟨_,ij _ rfl,rfl⟩
theorem kG {Q:al->ba->Prop}(hit:SqIt k s.heap it a i) (ha:dy k s.heap a items) (hx:items[i]?=some x)
  (hQ:∀h',SqIt k h' it a (i+1)->Cn it s.heap h'->Q x {s with heap:=h'}):c8 (model prog w) A (nextOf (.ref it)) Q E s :=by
 cases k with
 |true=>exact wpAny_nextOf_list_item hit ha hx hQ
 |false=>
  unfold nextOf;exact ac (HR hit ha hx fun h' a b=>bi (hQ h' a b))
theorem qk {Q:al->ba->Prop}(hh:A.handled=none) (hit:SqIt k s.heap it a i) (ha:dy k s.heap a items) (hx:items[i]?=none)
  (hE:∀h' e,i8.ExtBut it s.heap h'->(∃o,h'.get? e=some o/\o.cls=.type "StopIteration")->E (.ref e) {s with heap:=h'}):c8 (model prog w) A (nextOf (.ref it)) Q E s :=by
 cases k with
 |true=>exact wpAny_nextOf_list_end hh hit ha hx hE
 |false=>
  unfold nextOf;exact ac (HS hh hit ha hx hE)
end
end L2
namespace L2
open PySem PySem.Spec PyProof.Rows Builtin.SmallTypes AutoSeq1
theorem Ol:zd "zip" = some (.type "zip") :=by decide +kernel
section
variable {X:Cx}{pins:List (ag×l9)}{σ:St}{H:Hp}{s:ba}{h':i8}
theorem Inv.Bf {t':Nat}{ch:List ag}(I:Inv X pins σ H s) (k:∀b o,b ∉ ch->s.heap.get? b=some o->h'.get? b=some o) (hf:∀b∈ch,bR X pins H b):Inv X pins σ H {s with heap:=h',toks:=t'}:=by
 have Ec:∀b u,H b=some u->b ∉ ch:=fun b u e z=>by rw[(hf b z).1]at e;cases e
 refine I.step (g':=s.gens) (d':=s.drawn) (ch:=ch) (fun b hb=>?_) (fun b o _ _ hc e _=>k b o hc e) (fun b o _ _ hc e _=>⟨o.slots,k b o hc e⟩) (fun _ _ _ _ n=>n)
  (fun b o hc e=>⟨o,k b o hc e⟩) (fun _ _ e=>e) (fun _ _ _ e=>e) (fun b ps e=>⟨#[],by rw[e];simp⟩) (fun m hm=>?_) (fun b u e=>?_) I.bare.self
 ·obtain⟨_,f1,f2,f3,f4,f5⟩:=hf b hb;exact⟨f3,f1,f4,f5⟩
 ·obtain⟨o,es,ep,ho,r⟩:=hm;exact⟨o,es,ep,k _ o (fun z=>(hf _ z).2.1 rfl) ho,r⟩
 ·refine(I.hok b u e).bQ (fun c v hc q=>k c v ?_ q) (fun _ q=>q) fun _ _ q=>q
  rcases hc with z|z
  ·rw[z];exact Ec b u e
  ·exact Ec c _ z
theorem Inv.pair {t:ag}{a b:V}{u v:al}{h1:i8}{tk tk0:Nat}(I0:Inv X pins σ H {s with toks:=tk0}) (ht:s.heap.objs.size<=t) (I:Inv X pins σ H {s with heap:=h1,toks:=tk}) (e:h1.get? t=some {cls:=.type "tuple",data:=.seq #[u,v]}) (ru:RelV a u) (rv:RelV b v) :
  Inv X pins σ (upd H t (.tup [a,b])) {s with heap:=h1,toks:=tk}:=by
 have f:=Inv.jZ (H':=H) I0 (b:=t) ht (I0.hok.fresh ht);refine I.RT f.1 ?_ f.2.1 f.2.2.2.2.1 f.2.2.2.2.2 ⟨by show 2<=sizeLine;decide,[u,v],.cons ru (.cons rv .nil),⟨_,e,rfl,_,rfl,rfl⟩⟩
 exact i8.get?_none_of_le (wb I0.sz ht)
end
def Sq (k:Bool) (K:bv) (H:Hp) (a:ag) (xs:List V):Prop:=if k=true then bF K H a xs else c9 K H a xs
theorem Inv.sq {X:Cx}{pins:List (ag×l9)}{σ:St}{H:Hp}{s:ba}{k:Bool}{a:ag}{xs:List V}(I:Inv X pins σ H s) (h:Sq k X.K H a xs):∃its:List al,Vals xs its/\dy k s.heap a its.toArray :=by
 cases k with
 |true=>obtain⟨its,rv,p,_⟩:=I.list (show bF X.K H a xs from h);exact⟨its,rv,p.isList⟩
 |false=>obtain⟨its,rv,p,_⟩:=I.tuple (show c9 X.K H a xs from h);exact⟨its,rv,p⟩
theorem Inv.Fo {X:Cx}{pins:List (ag×l9)}{σ:St}{H:Hp}{s:ba}{k:Bool}{a:ag}{xs ys:List V}(I:Inv X pins σ H s) (h:Sq k X.K H a xs) (h':Sq k X.K H a ys):xs=ys :=by
 cases k with
 |true=>exact I.wM (show bF X.K H a xs from h) h'
 |false=>exact I.uW (show c9 X.K H a xs from h) h'
def JN (J:It) (ys:List (V×V)) (H:Hp):Prop:=∀i,(i<ys.length->J.go i H/\∀x H',J.yld i H x H'->∃t p,H t=none/\x=.ref t/\ys[i]?=some p/\H'=upd H t (.tup [p.1,p.2]))/\(ys.length<=i->J.stop i H)
def JO (k1 k2:Bool) (K:bv) (a1 a2:ag):It:=
 ⟨fun i H=>∃xs ys x y,Sq k1 K H a1 xs/\Sq k2 K H a2 ys/\xs[i]?=some x/\ys[i]?=some y,fun i H v H'=>∃t x y,H t=none/\v=.ref t/\H'=upd H t (.tup [x,y])/\(∀xs,Sq k1 K H a1 xs->xs[i]?=some x)/\∀ys,Sq k2 K H a2 ys->ys[i]?=some y,
  fun i H=>∃xs ys,Sq k1 K H a1 xs/\Sq k2 K H a2 ys/\(xs.length<=i\/ys.length<=i)⟩
abbrev vm (k:Bool) (a:ag):l9:={cls:=.type (if k=true then "list_iterator" else "tuple_iterator"),data:=.fields #[.ref a,.int 0 0]}
theorem vn {prog:jp}{w:lf}{A:sB}{E:al->ba->Prop}{s:ba}{k:Bool}{a:ag}{items:Array al}{Q:al->ba->Prop}(h:dy k s.heap a items) (hQ:Q (.ref s.heap.objs.size) {s with heap:=s.heap.push (vm k a)}) :
  c8 (model prog w) A (pyIter (.ref a)) Q E s :=by
 cases k with
 |true=>exact aaw h hQ
 |false=>exact aaf h hQ
theorem Fp {k:Bool}{a it:ag}{h:i8}(e:h.get? it=some (vm k a)):SqIt k h it a 0 :=by
 cases k with
 |true=>exact⟨_,e,rfl,rfl⟩
 |false=>exact⟨_,e,rfl,rfl⟩
abbrev JP (k1 k2:Bool) (h:i8) (a1 a2:ag):i8:=(h.push (vm k1 a1)).push (vm k2 a2)
abbrev JQ (k1 k2:Bool) (h:i8) (a1 a2:ag):i8:=(JP k1 k2 h a1 a2).push {cls:=.type "tuple",data:=.seq #[.ref h.objs.size,.ref (h.push (vm k1 a1)).objs.size]}
abbrev JR (k1 k2:Bool) (h:i8) (a1 a2:ag):i8:=(JQ k1 k2 h a1 a2).push {cls:=.type "tuple",data:=.seq #[.none,.none]}
abbrev Bg (k1 k2:Bool) (h:i8) (a1 a2:ag):i8:=(JR k1 k2 h a1 a2).push {cls:=.type "zip",data:=.fields #[.none,.bool false,.bool false,.ref (JP k1 k2 h a1 a2).objs.size,.ref (JQ k1 k2 h a1 a2).objs.size]}
theorem Om (k1 k2:Bool) (a1 a2:ag) (xs ys:Array al) :
  Meets (wl.«zip.__new__» ⟨[.type "zip",.ref a1,.ref a2],[]⟩) (fun _ R s=>dy k1 s.heap a1 xs/\dy k2 s.heap a2 ys/\R (.ok (.ret (.ref (JR k1 k2 s.heap a1 a2).objs.size))) {s with heap:=Bg k1 k2 s.heap a1 a2}):=
 .of_wp fun prog w A R s h=>by
  obtain⟨hp,g,d,tk,os⟩:=s;obtain⟨q1,q2,h⟩:=h;have HU:=sub_zip;have Q1:dy k1 (ba.heap ⟨hp,g,d,tk,os⟩) a1 xs:=q1;have Q2:dy k2 (ba.heap ⟨hp.push (vm k1 a1),g,d,tk,os⟩) a2 ys:=dy.at (h:=hp) q2 fun o e=>br _ e
  wp_walk using vn Q1,vn Q2
  exact⟨_,rfl,h⟩
section
variable {prog:jp}{w:lf}{A:sB}{E:al->ba->Prop}{s:ba}{k1 k2:Bool}{a1 a2:ag}{xs ys:Array al}
theorem Lc {Q:al->ba->Prop}(q1:dy k1 s.heap a1 xs) (q2:dy k2 s.heap a2 ys)
  (h:∀h',IsZip h' (s.heap.objs.size+4) (s.heap.objs.size+2) (s.heap.objs.size+3) .none->Lo h' (s.heap.objs.size+2) (.ref s.heap.objs.size) (.ref (s.heap.objs.size+1))->Lo h' (s.heap.objs.size+3) .none .none->
   SqIt k1 h' s.heap.objs.size a1 0->SqIt k2 h' (s.heap.objs.size+1) a2 0->(∀c o,s.heap.get? c=some o->h'.get? c=some o)->Q (.ref (s.heap.objs.size+4)) {s with heap:=h'}) :
  c8 (model prog w) A (call (.type "zip") [.ref a1,.ref a2]) Q E s :=by
 refine callType_new F.called_zip (by decide) (F.typeCall_zip_2 _ _) (F.newCall_zip_2 _ _) (fun obj=>F.args_object_init_3 obj _ _) F.entry_zip_new (Om k1 k2 a1 a2 xs ys) ⟨q1,q2,?_⟩
 have p:∀{g:i8} {o o':l9} {b:ag},g.get? b=some o->(g.push o').get? b=some o:=fun e=>br _ e
 have e1:(s.heap.push (vm k1 a1)).objs.size=s.heap.objs.size+1:=xp ..;have e2:(JP k1 k2 s.heap a1 a2).objs.size=s.heap.objs.size+2 :=by rw[xp,e1]
 have e3:(JQ k1 k2 s.heap a1 a2).objs.size=s.heap.objs.size+3 :=by rw[xp,e2]
 have e4:(JR k1 k2 s.heap a1 a2).objs.size=s.heap.objs.size+4 :=by rw[xp,e3]
 have g5:(Bg k1 k2 s.heap a1 a2).get? (JR k1 k2 s.heap a1 a2).objs.size=some _:=ij _ rfl;have g4:(Bg k1 k2 s.heap a1 a2).get? (JQ k1 k2 s.heap a1 a2).objs.size=some _:=p (ij _ rfl);have g3:(Bg k1 k2 s.heap a1 a2).get? (JP k1 k2 s.heap a1 a2).objs.size=some _:=p (p (ij _ rfl));have g2:(Bg k1 k2 s.heap a1 a2).get? (s.heap.push (vm k1 a1)).objs.size=some _:=p (p (p (ij _ rfl)));have g1:(Bg k1 k2 s.heap a1 a2).get? s.heap.objs.size=some _:=p (p (p (p (ij _ rfl))));show _/\_;rw[e2,e3,e4]at g5;rw[e1,e2]at g3;rw[e3]at g4;rw[e1]at g2;rw[e4];exact⟨⟨_,g5,rfl⟩,h _ g5 g3 g4 (Fp g1) (Fp g2) fun c o q=>p (p (p (p (p q))))⟩
end
section
variable {X:Cx}{l1 l2:io}{t1 t2:TE}{elts:List io}{x1:Nat}{tp p pos:wv}
def U3 (k1 k2:Bool) (K:bv) (t1 t2:TE):TI:=fun σ H R=>t1 σ H fun x H1=>t2 σ H1 fun y H2=>∃a1 a2,x=.ref a1/\y=.ref a2/\(∃xs,Sq k1 K H2 a1 xs)/\(∃ys,Sq k2 K H2 a2 ys)/\R (JO k1 k2 K a1 a2) H2
end
theorem HV {k1 k2:Bool}{K:bv}{a1 a2:ag}{xs ys:List V}{H:Hp}(h1:Sq k1 K H a1 xs) (h2:Sq k2 K H a2 ys):JN (JO k1 k2 K a1 a2) (xs.zip ys) H:=fun i=>by
 refine⟨fun hi=>?_,fun hi=>?_⟩
 ·have cN:=hi;rw[SI]at cN;have i1:i<xs.length :=by omega
  have i2:i<ys.length :=by omega
  refine⟨⟨xs,ys,xs[i],ys[i],h1,h2,ap i1,ap i2⟩,fun v H' ⟨t,x,y,n,e1,e2,e3,e4⟩=>⟨t,(x,y),n,e1,?_,e2⟩⟩
  rw[AC];exact⟨e3 xs h1,e4 ys h2⟩
 ·rw[SI]at hi;exact⟨xs,ys,h1,h2,by omega⟩
end L2
namespace L2
open PySem PySem.Spec PyProof.Rows
section
variable {X:Cx}{st:wE}{ι:Type}{Pre:ι->St->Hp->Prop}{D:ι->Ends}
theorem v8 {P:jp}{w:lf}{K:bv}(hP:X.prog=P) (hw:X.w=w) (h:X.K=K) (hc:X.calm=true):cR X (.builtin "sorted") (Bc P w K) :=by
 subst hP hw h;exact xJ hc
end
section
variable {κ:Type} [DecidableEq κ]
def fL (aj:List (κ×V)) (k:κ):Option V:=(aj.find? fun kv=>decide (kv.1=k)).map (·.2)
def putK (aj:List (κ×V)) (k:κ) (v:V):List (κ×V):=
 if (aj.any fun kv=>decide (kv.1=k))=true then aj.map (fun kv=>if kv.1=k then (kv.1,v) else kv) else aj++[(k,v)]
theorem ny {p:κ×V}{r:List (κ×V)}{k:κ}(e:p.1=k):fL (p::r) k=some p.2 :=by simp[fL,Yq,e]
theorem nz {p:κ×V}{r:List (κ×V)}{k:κ}(e:¬ p.1=k):fL (p::r) k=fL r k :=by simp[fL,Yq,e]
theorem rN (k:κ):∀aj:List (κ×V),(aj.any fun kv=>decide (kv.1=k))=(fL aj k).isSome
 | []=>rfl
 |p::r=>by
          rw[LB];by_cases e:p.1=k
          ·simp only[ny e,decide_eq_true e,Bool.true_or,Option.isSome_some]
          ·rw[nz e,decide_eq_false e,Bool.false_or];exact rN k r
theorem mI (aj:List (κ×V)) (k:κ) (v:V):(putK aj k v).length<=aj.length+1 :=by
 unfold putK;split
 ·rw[bn];omega
 ·rw[r6,wn,NO];omega
theorem jg.oZ {o:Option V}{u:Option al}(r:jg o u):o.isSome=u.isSome :=by
 cases o with
 |none=>cases u with
  |none=>rfl
  |some _=>exact(show False from r).elim
 |some _=>cases u with
  |none=>exact(show False from r).elim
  |some _=>rfl
theorem jg.getD {o:Option V}{u:Option al}{d:V}{d':al}(r:jg o u) (rd:RelV d d'):RelV (o.getD d) (u.getD d') :=by
 cases o with
 |none=>cases u with
  |none=>exact rd
  |some _=>exact(show False from r).elim
 |some _=>cases u with
  |none=>exact(show False from r).elim
  |some _=>exact r
theorem KV.val {aj:List (κ×V)}{vs:List (κ×al)}(r:KV aj vs) (k:κ):jg (fL aj k) (valueAt vs k) :=by
 unfold KV at r;induction r with
 |nil=>exact Pi
 | @cons p q ps qs h t ih=>
  obtain⟨h1,h2⟩:=h;by_cases e:p.1=k
  ·have e':q.1=k:=h1.symm.trans e;have b:valueAt (q::qs) k=some q.2 :=by simp[valueAt,Yq,e']
   rw[ny e,b];exact h2
  ·have e':¬ q.1=k:=fun z=>e (h1.trans z)
   have b:valueAt (q::qs) k=valueAt qs k :=by simp[valueAt,Yq,e']
   rw[nz e,b];exact ih
theorem KV.any {aj:List (κ×V)}{vs:List (κ×al)}(r:KV aj vs) (k:κ):(aj.any fun kv=>decide (kv.1=k))=vs.any fun kv=>decide (kv.1=k) :=by
 unfold KV at r;induction r with
 |nil=>rfl
 |cons h t ih=>rw[LB,LB,ih,h.1]
theorem KV.repl {aj:List (κ×V)}{vs:List (κ×al)}(r:KV aj vs) (k:κ) {y:V}{u:al}(ry:RelV y u) :
  KV (aj.map fun kv=>if kv.1=k then (kv.1,y) else kv) (vs.map fun kv=>if kv.1=k then (kv.1,u) else kv) :=by
 unfold KV at r ⊢;induction r with
 |nil=>exact .nil
 | @cons p q ps qs h t ih=>
  rw[mo,mo];refine .cons ?_ ih;obtain⟨h1,h2⟩:=h;by_cases e:p.1=k
  ·rw[if_pos e,if_pos (h1.symm.trans e)];exact⟨h1,ry⟩
  ·rw[if_neg e,if_neg (fun z=>e (h1.trans z))];exact⟨h1,h2⟩
theorem KV.put {aj:List (κ×V)}{vs:List (κ×al)}(r:KV aj vs) (k:κ) {y:V}{u:al}(ry:RelV y u):KV (putK aj k y) (stored vs k u) :=by
 unfold putK stored;rw[r.any k];by_cases e:(vs.any fun kv=>decide (kv.1=k))=true
 ·rw[if_pos e,if_pos e];exact r.repl k ry
 ·rw[if_neg e,if_neg e];exact BY.snoc r ⟨rfl,ry⟩
theorem KV.length {aj:List (κ×V)}{vs:List (κ×al)}(r:KV aj vs):aj.length=vs.length:=SS r
end
theorem ql {P:jp}{w:lf}{k:Key}{u:al}(r:RelV (kV k) u):(bJ P w).is k u=true :=by
 cases k with
 |inl i=>obtain⟨t,e⟩:=(show ∃t,u=aa5 i t from r);subst e;exact zH P w i t
 |inr x=>obtain⟨t,e⟩:=(show ∃t,u=aaP x t from r);subst e;exact zI P w x t
theorem vo {P:jp}{w:lf}:∀{ks:List Key}{us:List al},Vals (ks.map kV) us->ItemsAre (bJ P w) ks us
 | [],_,r=>by rw[Wp]at r;cases r;exact .nil
 |k::ks,_,r=>by
          rw[mo]at r;cases r with
          |cons h t=>exact .cons (ql h) (vo t)
abbrev KT (H:Hp):List (List Key×V)->List (List Key×ag×al)->Prop:=BY fun p q=>p.1=q.1/\H q.2.1=some (.tup (p.1.map kV))/\RelV p.2 q.2.2
theorem KT.val {H:Hp}{aj:List (List Key×V)}{xs:List (List Key×ag×al)}(r:KT H aj xs) (k:List Key):jg (fL aj k) ((atKey xs k).map (·.2)) :=by
 induction r with
 |nil=>exact Pi
 | @cons p q ps qs h t ih=>
  obtain⟨h1,_,h2⟩:=h;by_cases e:p.1=k
  ·have e':q.1=k:=h1.symm.trans e;have b:atKey (q::qs) k=some q.2 :=by simp[atKey,Yq,e']
   rw[ny e,b];exact h2
  ·have e':¬ q.1=k:=fun z=>e (h1.trans z)
   have b:atKey (q::qs) k=atKey qs k :=by simp[atKey,Yq,e']
   rw[nz e,b];exact ih
theorem KT.repl {H:Hp}{aj:List (List Key×V)}{xs:List (List Key×ag×al)}(r:KT H aj xs) (k:List Key) {y:V}{u:al}(ry:RelV y u) :
  KT H (aj.map fun kv=>if kv.1=k then (kv.1,y) else kv) (xs.map (putAt k u)) :=by
 induction r with
 |nil=>exact .nil
 | @cons p q ps qs h t ih=>
  rw[mo,mo];refine .cons ?_ ih;obtain⟨h1,h2,h3⟩:=h;unfold putAt;by_cases e:p.1=k
  ·rw[if_pos e,if_pos (h1.symm.trans e)];exact⟨h1,h2,ry⟩
  ·rw[if_neg e,if_neg (fun z=>e (h1.trans z))];exact⟨h1,h2,h3⟩
theorem KT.put {H:Hp}{aj:List (List Key×V)}{xs:List (List Key×ag×al)}(r:KT H aj xs) (k:List Key) {b:ag}{y:V}{u:al}(hb:H b=some (.tup (k.map kV))) (ry:RelV y u) :
  KT H (putK aj k y) (storedH xs k b u) :=by
 have e:(aj.any fun kv=>decide (kv.1=k))=(atKey xs k).isSome :=by
  rw[rN,(r.val k).oZ,Option.isSome_map]
 unfold putK storedH;rw[e];by_cases q:(atKey xs k).isSome=true
 ·rw[if_pos q,if_pos q];exact r.repl k ry
 ·rw[if_neg q,if_neg q];exact BY.snoc r ⟨rfl,hb,ry⟩
theorem KT.keeps {H H':Hp}{aj:List (List Key×V)}{xs:List (List Key×ag×al)}(r:KT H aj xs) (ht:∀b ys,H b=some (.tup ys)->H' b=some (.tup ys)):KT H' aj xs:=
 BY.Ct r fun _ _ z=>⟨z.1,ht _ _ z.2.1,z.2.2⟩
section
variable {P:jp}{w:lf}{H:Hp}{h:i8}{a:ag}
theorem JS {u:HO}(ok:cG P w H h) (e:Rd H a u):ObjOk P w H h a u:=e.ok ok
theorem nA {aj:List (Key×V)}(ok:cG P w H h) (e:Rd H a (.dK aj)):aj.length<=sizeLine/\(a==sysModules)=false/\∃vs,KV aj vs/\h.DictOf (bJ P w) a vs:=
 show ObjOk P w H h a (.dK aj) from JS ok e
theorem RV {aj:List (Key×V)}(ok:cG P w H h) (e:H a=some (.dK aj)):aj.length<=sizeLine/\(a==sysModules)=false/\∃vs,KV aj vs/\h.DictOf (bJ P w) a vs:=nA ok (.inl e)
theorem jK {ks:List Key}(ok:cG P w H h) (e:H a=some (.tup (ks.map kV))):(tupleKind (bJ P w)).is h ks a :=by
 obtain⟨_,its,r,o,h1,h2,n,h3,_⟩:=(show ObjOk P w H h a (.tup (ks.map kV)) from ok a _ e);exact⟨o,its.toArray,n,h1,h2,h3,by simpa using vo r⟩
theorem nB {aj:List (List Key×V)}(ok:cG P w H h) (e:Rd H a (.dT aj)):aj.length<=sizeLine/\(a==sysModules)=false /\
  ∃xs,KT H aj xs/\h.DictOfH (tupleKind (bJ P w)) a xs :=by
 obtain⟨z,y,xs,r,o,es,ep,h1,h2,h3,h4,h5⟩:=(show ObjOk P w H h a (.dT aj) from JS ok e);refine⟨z,y,xs,r,o,es,ep,h1,h2,h3,h4,fun x hx=>?_,h5⟩
 have all:∀{l:List (List Key×V)} {m:List (List Key×ag×al)},KT H l m->∀x∈m,(tupleKind (bJ P w)).is h x.1 x.2.1 :=by
  intro l m q;induction q with
  |nil=>intro x hx;exact nomatch hx
  | @cons p q ps qs hq t ih=>
   intro x hx;rcases lp.mp hx with e|hx
   ·subst e;exact jK ok (by rw[<- hq.1];exact hq.2.1)
   ·exact ih x hx
 exact all r x hx
theorem C2 {aj:List (List Key×V)}(ok:cG P w H h) (e:H a=some (.dT aj)):aj.length<=sizeLine/\(a==sysModules)=false /\
  ∃xs,KT H aj xs/\h.DictOfH (tupleKind (bJ P w)) a xs:=nB ok (.inl e)
end
def mJ (H:Hp) (a:ag) (y:V) (r:Option V):Prop:=
 (∃aj k,Rd H a (.dK aj)/\y=kV k/\r=fL aj k)\/∃aj k b,Rd H a (.dT aj)/\y=.ref b/\H b=some (.tup (k.map kV))/\r=fL aj k
def Oo (H:Hp) (a:ag) (y v:V) (H':Hp):Prop:=
 (∃aj k,H a=some (.dK aj)/\y=kV k/\aj.length<sizeLine/\H'=upd H a (.dK (putK aj k v))) \/
 ∃aj k b,H a=some (.dT aj)/\y=.ref b/\H b=some (.tup (k.map kV))/\aj.length<sizeLine/\H'=upd H a (.dT (putK aj k v))
section
variable {X:Cx}{pins:List (ag×l9)}{σ:St}{H:Hp}{s:ba}{a:ag}{y v:V}{u r:al}{o:Option V}{A:sB}{E:al->ba->Prop}
theorem Inv.big (I:Inv X pins σ H s):sysModules<s.heap.objs.size :=by
 have h:li<s.heap.objs.size:=(I.mod.glob.keeps I.bk).lt;exact YB (by decide) h
theorem Fq {Q:al->ba->Prop}(hu:A.units+1<CS) (I:Inv X pins σ H s) (g:mJ H a y (some v)) (ry:RelV y u) (h:∀w' s',Inv X pins σ H s'->RelV v w'->Q w' s') :
  c8 (model X.prog X.w) A (getItem (.ref a) u) Q E s :=by
 rcases g with ⟨aj,k,e,ey,l⟩|⟨aj,k,b,e,ey,eb,l⟩
 ·subst ey;obtain⟨z,hd,vs,rel,dd⟩:=nA I.hok e;obtain⟨w',hw,f7⟩:=jg.some_of (v:=v) (o:=valueAt vs k) (by rw[l];exact rel.val k)
  exact wpAny_getItem_of (ql ry) dd.mapOf hw (h w' _ (I.tok _) f7)
 ·subst ey;cases (show u=ss b from ry);obtain⟨z,hd,xs,rel,dd⟩:=nB I.hok e;obtain⟨w',hw,f7⟩:=jg.some_of (v:=v) (o:=(atKey xs k).map (·.2)) (by rw[l];exact rel.val k)
  obtain⟨p,hp,JT⟩:=rc.mp hw;refine wpAny_getItem_heap (Rs hu) (jK I.hok eb) dd hp ?_;rw[JT];exact h w' _ (I.tok _) f7
theorem Ld {Q:al->ba->Prop}(hu:A.units+1<CS) (I:Inv X pins σ H s) (g:mJ H a y o) (ry:RelV y u) (h:∀s',Inv X pins σ H s'->Q (.bool (!o.isSome)) s') :
  c8 (model X.prog X.w) A (compareOp .NotIn u (.ref a)) Q E s :=by
 rcases g with ⟨aj,k,e,ey,l⟩|⟨aj,k,b,e,ey,eb,l⟩
 ·subst ey;obtain⟨z,hd,vs,rel,dd⟩:=nA I.hok e;refine wpAny_notIn_of (ql ry) hd dd.mapOf ?_;rw[<- (rel.val k).oZ,<- l];exact h _ (I.tok _)
 ·subst ey;cases (show u=ss b from ry);obtain⟨z,hd,xs,rel,dd⟩:=nB I.hok e;refine wpAny_notIn_heap (Rs hu) (jK I.hok eb) hd dd ?_;have q:=(rel.val k).oZ;rw[Option.isSome_map]at q;rw[<- q,<- l];exact h _ (I.tok _)
theorem qm {h':i8}{t':Nat}{ob:HO}(I:Inv X pins σ H s) (mu:D9 (H a)) (hs:Cn a s.heap h') (he:∃q,h'.get? a=some q) (new:ObjOk X.prog X.w (upd H a ob) h' a ob) :
  Inv X pins σ (upd H a ob) {s with heap:=h',toks:=t'}:=
 I.write (x:=a) (e:=a) mu (.inl rfl) (fun b q hb z=>(hs.2 b hb).trans z) he new
theorem Oq {P:jp}{w:lf}{H':Hp}{h':i8}{aj:List (Key×V)}{vs:List (Key×al)}(z:aj.length<=sizeLine) (hd:(a==sysModules)=false) (rel:KV aj vs) (dd:h'.DictOf (bJ P w) a vs) :
  ObjOk P w H' h' a (.dK aj):=⟨z,hd,vs,rel,dd⟩
theorem Fs {H':Hp}{Q:Unit->ba->Prop}(hu:A.units+1<CS) (I:Inv X pins σ H s) (g:Oo H a y v H') (ry:RelV y u) (rv:RelV v r) (h:∀s',Inv X pins σ H' s'->Q () s') :
  c8 (model X.prog X.w) A (setItem (.ref a) u r) Q E s :=by
 rcases g with ⟨aj,k,e,ey,l,eH⟩|⟨aj,k,b,e,ey,eb,l,eH⟩
 ·subst ey eH;obtain⟨z,hd,vs,rel,dd⟩:=RV I.hok e;have hz:vs.length<=sizeLine :=by rw[<- rel.length];exact z
  have hl:(putK aj k v).length<=sizeLine :=by have:=mI aj k v;omega
  refine wpAny_setItem_pairs (hsz:=hz) (ql ry) dd fun h' vp hs=>h _ ?_
  have he:∃q,h'.get? a=some q:=let ⟨q,_,_,hq,_⟩:=vp;⟨q,hq⟩;exact qm I (by rw[e];exact Pi) hs he (Oq hl hd (rel.put k rv) vp)
 ·subst ey eH;cases (show u=ss b from ry);obtain⟨z,hd,xs,rel,dd⟩:=C2 I.hok e;have hz:xs.length<=sizeLine :=by rw[<- SS rel];exact z
  have hl:(putK aj k v).length<=sizeLine :=by have:=mI aj k v;omega
  refine wpAny_setItem_heap (hsz:=hz) (Rs hu) (jK I.hok eb) dd fun h' vp hs=>h _ ?_
  obtain⟨q,es,ep,hq,h2,h3,h4,_,h5⟩:=vp;refine qm I (by rw[e];exact Pi) hs ⟨q,hq⟩ ⟨hl,hd,_,(rel.put k eb rv).keeps fun c ys ec=>?_,q,es,ep,hq,h2,h3,h4,h5⟩
  rw[ao (wq ec e (fun z=>nomatch z))]
  exact ec
end
def HW (i:io):Prop:=∀ov iv,subscripted i false ov iv=operate [ov,iv] (getItem ov iv)
theorem Le {prog:jp}{w:lf}{A:sB}{E:al->ba->Prop}{s:ba}{env:ON}{value slice:io}{pos:wv}{T id:String}{Q:al->ba->Prop}
  (hl:typeLookup (.type T) "__getitem__" = pure (some (.builtin id))) (hs:HW slice)
  (h:c8 (model prog w) A (eval value env) (fun o az=>c8 (model prog w) A (eval slice env) (fun i fK=>fK.TypeIs o T/\c8 (model prog w) A (getItem o i) Q E fK) E az) E s) :
  c8 (model prog w) A (eval (.Subscript value slice pos) env) Q E s :=by
 refine aa2 (on h (fun o az cE=>on cE (fun i fK HX=>?_) fun _ _ x=>x) fun _ _ x=>x)
 obtain⟨hT,HX⟩:=HX;unfold subscriptTail;refine ac ?_;rw[getitemInPython_of_ne hT.not_modules];refine ac (aaS hT hl ?_);have fin:c8 (model prog w) A (subscripted slice false o i) (fun r iQ=>c8 (model prog w) A (letTemporaryGo value o r>>=fun _=>pure r) Q E iQ) E fK :=by
  rw[hs o i];exact wpAny_operating (on HX (fun r iQ U4=>ac (wpAny_letTemporaryGo (bi U4))) fun _ _ x=>x)
 first
  |exact bi (ac fin)
  |exact ac (bi (ac fin))
  |exact ac fin
theorem zQ {X:Cx}{pins:List (ag×l9)}{σ:St}{H:Hp}{s:ba}{a:ag}{y:V}{o:Option V}(I:Inv X pins σ H s) (g:mJ H a y o):s.TypeIs (.ref a) "dict" := by
 rcases g with ⟨aj,k,e,_,_⟩|⟨aj,k,b,e,_,_,_⟩
 ·obtain⟨_,_,vs,_,dd⟩:=nA I.hok e;exact dd.typeIs
 ·obtain⟨_,_,xs,_,dd⟩:=nB I.hok e;exact dd.typeIs
def RW (td ty:TE):TE:=fun σ H Q=>td σ H fun x H1=>ty σ H1 fun y H2=>∃a v,x=.ref a/\mJ H2 a y (some v)/\Q v H2
def RX (td ty tv:TE):TS:=fun D σ H=>tv σ H fun v H1=>td σ H1 fun x H2=>ty σ H2 fun y H3=>∃a H4,x=.ref a/\Oo H3 a y v H4/\D.nx σ H4
section
variable {X:Cx}{o i e value:io}{pos pos' XU:wv}{td ty tv:TE}
theorem Lf (hu:X.A.units+1<CS) (ho:PE X o td) (hi:PE X i ty) (hs:HW i):PE X (.Subscript o i pos) (RW td ty) :=by
 refine⟨?_⟩;intro pins s σ H Q I h;refine Le PySem.F.slot_dict_getitem.lookup hs (thn (ho pins s σ H _ I h) fun u s1 ⟨x,H1,I1,rx,q1⟩=>thn (hi pins s1 σ H1 _ I1 q1) fun iv s2 ⟨y,H2,I2,ry,a,v,ex,g,q2⟩=>?_)
 subst ex;obtain rfl:u=ss a:=rx;exact⟨zQ I2 g,Fq hu I2 g ry fun w' s3 I3 f7=>⟨v,H2,I3,f7,q2⟩⟩
theorem Lg (hu:X.A.units+1<CS) (ho:PE X o td) (hi:PE X i ty) (hv:PE X value tv) (hs:swapsWith value (some (.Subscript o i pos')) pos.line X.env=pure false) :
  PS X (.Assign [.Subscript o i pos'] value pos) (RX td ty tv) :=by
 refine⟨?_⟩;intro pins s σ H D I h;refine wpAny_Assign_Subscript (thn (hv pins s σ H _ I h) fun r s1 ⟨v,H1,I1,rv,q1⟩=>thn (ho pins s1 σ H1 _ I1 q1) fun u s2 ⟨x,H2,I2,rx,q2⟩=>thn (hi pins s2 σ H2 _ I2 q2) fun iv s3 ⟨y,H3,I3,ry,a,H4,ex,g,q3⟩=>?_) hs
 subst ex;obtain rfl:u=ss a:=rx;exact Fs hu I3 g ry rv fun s4 I4=>⟨σ,H4,I4,q3⟩
end
theorem xN {P:jp}{w:lf}{H:Hp}(h:i8) (hb:sysModules<h.objs.size):ObjOk P w H (h.push {cls:=.type "dict",data:=.dict #[]}) h.objs.size (.dT []):=
 ⟨ut _,beq_eq_false_iff_ne.mpr (Ch (l5 hb)),[],.nil,_,#[],0,ij _ rfl,⟨rfl,rfl,rfl⟩,rfl,rfl,List.nodup_nil⟩
def Ot:TE:=fun _ H Q=>∀p,H p=none->Q (.ref p) (upd H p (.dT []))
section
variable {X:Cx}{pos:wv}
theorem HY:PE X (.Dict [] [] pos) Ot:=⟨fun pins s σ H Q I h=>
 wpAny_Dict_empty ⟨.ref s.heap.objs.size,_,I.laid (a:=s.heap.objs.size) (o:=.dT []) (t':=s.toks) (fun _ _ q=>br _ q) (cb _) (xN s.heap I.big),rfl,h _ (I.hok.fresh (cb _))⟩⟩
end
structure M1 (X:Cx) (o:io) (m:ci) (apos:wv) (e:io) (aU:wv):Prop where
 base:attributeBase o m X.env (eval o X.env)=eval o X.env
 few:((backTo aU (lw [e] X.env)).all (fun x => !x.1) && (backToKw aU (keywordEach [] X.env)).all (fun x=>x.1.isSome)
  && decide (([e]:List io).length+([]:List UF).length+(if ([]:List UF).isEmpty then 0 else 1)<30))=true
 line:(apos.endLine==aU.line)=true
 trees:backTo aU (lw [e] X.env)=[(false,eval e X.env)]
structure M2 (X:Cx) (o:io) (m:ci) (apos:wv) (e f:io) (aU:wv):Prop where
 base:attributeBase o m X.env (eval o X.env)=eval o X.env
 few:((backTo aU (lw [e,f] X.env)).all (fun x => !x.1) && (backToKw aU (keywordEach [] X.env)).all (fun x=>x.1.isSome)
  && decide (([e,f]:List io).length+([]:List UF).length+(if ([]:List UF).isEmpty then 0 else 1)<30))=true
 line:(apos.endLine==aU.line)=true
 trees:backTo aU (lw [e,f] X.env)=[(false,eval e X.env),(false,eval f X.env)]
section
variable {X:Cx}{pins:List (ag×l9)}{σ:St}{H:Hp}{s:ba}{a:ag}{y d:V}{u r:al}{o:Option V}{A:sB}{E:al->ba->Prop}
theorem Ou {Q:al->ba->Prop}(hu:A.units+1<CS) (I:Inv X pins σ H s) (g:mJ H a y o) (ry:RelV y u) (h:∀w' s',Inv X pins σ H s'->RelV (o.getD .ay) w'->Q w' s') :
  c8 (model X.prog X.w) A (call (.builtin "dict.get") [.ref a,u]) Q E s :=by
 rcases g with ⟨aj,k,e,ey,l⟩|⟨aj,k,b,e,ey,eb,l⟩
 ·subst ey;obtain⟨z,hd,vs,rel,dd⟩:=nA I.hok e;refine Z0 SL dd.typeIs Yt (PySem.F.args_dict_get_2 _ _) (meets_dict_get (bJ X.prog X.w) a (ql ry) hd) ⟨_,dd.mapOf,h _ _ (I.tok _) ?_⟩;rw[l];exact(rel.val k).getD rfl
 ·subst ey;cases (show u=ss b from ry);obtain⟨z,hd,xs,rel,dd⟩:=nB I.hok e;refine Z0 SL dd.typeIs Yt (PySem.F.args_dict_get_2 _ _) (meetsH_dict_get (tupleKind (bJ X.prog X.w)) a b hd) ⟨Rs hu,k,xs,jK I.hok eb,dd,h _ _ (I.tok _) ?_⟩;rw[l];exact(rel.val k).getD rfl
theorem Ov {Q:al->ba->Prop}(hu:A.units+1<CS) (I:Inv X pins σ H s) (g:mJ H a y o) (ry:RelV y u) (rd:RelV d r) (h:∀w' s',Inv X pins σ H s'->RelV (o.getD d) w'->Q w' s') :
  c8 (model X.prog X.w) A (call (.builtin "dict.get") [.ref a,u,r]) Q E s :=by
 rcases g with ⟨aj,k,e,ey,l⟩|⟨aj,k,b,e,ey,eb,l⟩
 ·subst ey;obtain⟨z,hd,vs,rel,dd⟩:=nA I.hok e;refine Z0 SL dd.typeIs Yt (PySem.F.args_dict_get_3 _ _ _) (meets_dict_get_default (bJ X.prog X.w) a (ql ry) hd r) ⟨_,dd.mapOf,h _ _ (I.tok _) ?_⟩;rw[l];exact(rel.val k).getD rd
 ·subst ey;cases (show u=ss b from ry);obtain⟨z,hd,xs,rel,dd⟩:=nB I.hok e;refine Z0 SL dd.typeIs Yt (PySem.F.args_dict_get_3 _ _ _) (meetsH_dict_get_default (tupleKind (bJ X.prog X.w)) a b hd r) ⟨Rs hu,k,xs,jK I.hok eb,dd,h _ _ (I.tok _) ?_⟩;rw[l];exact(rel.val k).getD rd
end
theorem rO {κ:Type} [BEq κ] [LawfulBEq κ]:∀(ks U:List κ),ks.Nodup->(∀k∈ks,k∈U)->ks.length<=U.length
 | [],_,_,_=>ut _
 |k::ks,U,nd,h=>by
          have hn:=NG.mp nd;have hk:=h k ii;have ih:=rO ks (U.erase k) hn.2 fun x hx=>(YH (fun e=>hn.1 (by rw[<- e];exact hx))).mpr (h x (db _ hx))
          rw[WE hk]at ih;have:=Ps hk;rw[wn];omega
def VZ (mask:Nat) (h:Int):US:={j:=EM h % (mask+1),more:=On mask (EM h % (mask+1)) - EM h % (mask+1),i:=EM h % (mask+1),perturb:=EM h,dummy:=none}
def xO (mask:Nat) (p:US):US:=
 if p.more > 0 then {p with j:=p.j+1,more:=p.more - 1} else
 let (i,perturb):=aaq mask p.i p.perturb
 {p with j:=i,more:=On mask i - i,i,perturb}
def bK (mask:Nat) (h:Int):Nat->US
 |0=>VZ mask h
 |k+1=>xO mask (bK mask h k)
def aW (mask:Nat) (h:Int):Nat->Nat×Nat
 |0=>(EM h % (mask+1),EM h)
 |T+1=>aaq mask (aW mask h T).1 (aW mask h T).2
def dz (mask i:Nat):Nat:=On mask i - i
def gZ (mask:Nat) (h:Int):Nat->Nat
 |0=>0
 |T+1=>gZ mask h T+dz mask (aW mask h T).1+1
theorem Lh (mask i:Nat):dz mask i<=9 :=by unfold dz On;split<;>omega
theorem Bh {mask i:Nat}(h:i<=mask):i+dz mask i<=mask :=by unfold dz On;split<;>omega
theorem Ft (mask:Nat) (h:Int):∀T,gZ mask h T<=10 * T
 |0=>cb _
 |T+1=>by
          have:=Ft mask h T;have:=Lh mask (aW mask h T).1;show gZ mask h T+_+1<=_;omega
theorem uv {mask:Nat}{h:Int}{T:Nat}(e:bK mask h (gZ mask h T)={j:=(aW mask h T).1,more:=dz mask (aW mask h T).1,i:=(aW mask h T).1,perturb:=(aW mask h T).2,dummy:=none}) :
  ∀m,m<=dz mask (aW mask h T).1->bK mask h (gZ mask h T+m)={j:=(aW mask h T).1+m,more:=dz mask (aW mask h T).1 - m,i:=(aW mask h T).1,perturb:=(aW mask h T).2,dummy:=none}
 |0,_=>e
 |m+1,hm=>by
          have ih:=uv e m (by omega)
          show xO mask (bK mask h (gZ mask h T+m))=_;rw[ih];unfold xO;rw[if_pos (show dz mask (aW mask h T).1 - m > 0 by omega)]
          have e1:dz mask (aW mask h T).1 - m - 1=dz mask (aW mask h T).1 - (m+1) :=by omega
          simp only[e1,Nat.add_assoc]
theorem uw {mask:Nat}{h:Int}:∀T,bK mask h (gZ mask h T)={j:=(aW mask h T).1,more:=dz mask (aW mask h T).1,i:=(aW mask h T).1,perturb:=(aW mask h T).2,dummy:=none}
 |0=>rfl
 |T+1=>by
          have ih:=uv (uw (mask:=mask) (h:=h) T) _ (cb _);show xO mask (bK mask h (gZ mask h T+dz mask (aW mask h T).1))=_;rw[ih];unfold xO;rw[if_neg (by show ¬ (dz mask (aW mask h T).1 - dz mask (aW mask h T).1 > 0);omega)]
          rfl
theorem tj {mask:Nat}{h:Int}{T m:Nat}(hm:m<=dz mask (aW mask h T).1):(bK mask h (gZ mask h T+m)).j=(aW mask h T).1+m :=by rw[uv (uw T) m hm]
theorem xP (mask:Nat) (h:Int):∀k,∃T m,k=gZ mask h T+m/\m<=dz mask (aW mask h T).1
 |0=>⟨0,0,rfl,ut _⟩
 |k+1=>by
          obtain⟨T,m,e,hm⟩:=xP mask h k;by_cases z:m<dz mask (aW mask h T).1
          ·exact⟨T,m+1,by omega,z⟩
          ·refine⟨T+1,0,?_,ut _⟩;show k+1=gZ mask h T+dz mask (aW mask h T).1+1+0;omega
theorem Bi (mask:Nat) (h:Int):∀k,(bK mask h k).dummy=none
 |0=>rfl
 |k+1=>by
          have ih:=Bi mask h k;show (xO mask (bK mask h k)).dummy=none;unfold xO;split<;>exact ih
def xQ (mask:Nat):Nat->Nat->Nat
 |0,i=>i
 |m+1,i=>(xQ mask m i * 5+1) % (mask+1)
theorem ux {mask:Nat}{h:Int}:∀T,(aW mask h T).1<=mask
 |0=>Nat.lt_succ_iff.mp (ZW _ (Nat.succ_pos _))
 |T+1=>Nat.lt_succ_iff.mp (ZW _ (Nat.succ_pos _))
theorem Ow (mask:Nat) (h:Int) (k:Nat):(bK mask h k).j<=mask :=by
 obtain⟨T,m,rfl,hm⟩:=xP mask h k;rw[tj hm];have:=Bh (ux (mask:=mask) (h:=h) T);omega
theorem xR {mask:Nat}{h:Int}:∀T,(aW mask h T).2=EM h / 32 ^ T
 |0=>by show EM h=_;simp
 |T+1=>by
          show (aW mask h T).2 / 32=_;rw[xR T,Nat.div_div_eq_div_mul,Nat.pow_succ]
theorem HZ (h:Int):EM h<2 ^ 64 :=by
 unfold EM;have h1:=YV h (show (2 ^ 64:Int)≠0 by decide)
 have h2:=Int.emod_lt_of_pos h (show (0:Int)<2 ^ 64 by decide)
 omega
theorem xS {mask:Nat}{h:Int}:∀m,aW mask h (13+m)=(xQ mask m (aW mask h 13).1,0)
 |0=>by
          have e:(aW mask h 13).2=0 :=by
           rw[xR];have:=HZ h;exact Nat.div_eq_of_lt (YB this (by decide))
          exact Prod.ext rfl e
 |m+1=>by
          show aaq mask (aW mask h (13+m)).1 (aW mask h (13+m)).2=_;rw[xS m];unfold aaq;simp[xQ]
def Full (mask:Nat):Prop:=∀i,i<=mask->∀j,j<=mask->∃m,m<=mask/\xQ mask m i=j
theorem Bj {mask:Nat}(h:((hX (mask+1)).all fun i=>(hX (mask+1)).all fun j=>(hX (mask+1)).any fun m=>xQ mask m i==j)=true):Full mask:=fun i hi j hj=>by
 have h1:=u8.mp h i (l6.mpr (by omega))
 have h2:=u8.mp h1 j (l6.mpr (by omega))
 obtain⟨m,hm,e⟩:=YF.mp h2;exact⟨m,by have:=l6.mp hm;omega,by simpa using e⟩
theorem RY:Full 7:=Bj (by decide +kernel)
theorem Ox:Full 31:=Bj (by decide +kernel)
theorem tq {mask:Nat}(F:Full mask) (h:Int) {j:Nat}(hj:j<=mask):∃T,T<=13+mask/\(aW mask h T).1=j :=by
 obtain⟨m,hm,e⟩:=F _ (ux 13) j hj;exact⟨13+m,by omega,by rw[xS];exact e⟩
theorem Oy {p:Nat->Prop}:∀{n:Nat},p n->∃k,k<=n/\p k/\∀k',k'<k->¬ p k'
 |n,h=>by
          induction n using Yo with
          |ind n ih=>
           by_cases z:∃k',k'<n/\p k'
           ·obtain⟨k',hk,hp⟩:=z;obtain⟨k,h1,h2,h3⟩:=ih k' hk hp;exact⟨k,by omega,h2,h3⟩
           ·exact⟨n,cb _,h,fun k' hk hp=>z ⟨k',hk,hp⟩⟩
theorem Oz {mask:Nat}(F:Full mask) (h:Int) {ka:Nat->Prop}{j:Nat}(hj:j<=mask) (e:¬ ka j):∃K,K<=10 * (13+mask)/\¬ ka (bK mask h K).j/\∀k,k<K->ka (bK mask h k).j :=by
 obtain⟨T,hT,eT⟩:=tq F h hj;have e0:¬ ka (bK mask h (gZ mask h T)).j :=by rw[uw,eT];exact e
 obtain⟨K,h1,h2,h3⟩:=Oy (p:=fun k=>¬ ka (bK mask h k).j) e0
 have:=Ft mask h T;exact⟨K,by omega,h2,fun k hk=>TD.mp (h3 k hk)⟩
def Bk (mask:Nat) (ka:Nat->Prop) (h:Int) (j:Nat):Prop:=∃k,(bK mask h k).j=j/\∀k',k'<k->ka (bK mask h k').j
theorem Bk.mono {mask:Nat}{ka OA:Nat->Prop}{h:Int}{j:Nat}(x:Bk mask ka h j) (m:∀j,ka j->OA j):Bk mask OA h j:=let ⟨k,e,f⟩:=x;⟨k,e,fun k' hk=>m _ (f k' hk)⟩
def gT (t:l7) (j:Nat):Prop:=j∈t.place.toList
structure GoodT (w:lf) (t:l7) (es:Array (Int×al)):Prop where
 ok:bw w t
 full:Full t.mask
 odd:t.mask % 2=1
 le:∀j∈t.place.toList,j<=t.mask
 sz:t.place.size=es.size
 room:es.size<t.mask
 wk:∀q∈t.place.toList.zip es.toList,Bk t.mask (gT t) q.2.1 q.1
theorem o6 {w:lf}{t:l7}(h:bw w t) {j:Nat}:(∃i,t.slot j=.live i/\t.place[i]?=some j)\/(t.slot j=.empty/\¬ gT t j) :=by
 unfold l7.slot;dsimp only;by_cases z:t.place[rf t.place j]?=some j
 ·left;refine⟨rf t.place j,?_,z⟩;rw[if_pos (by rw[z];simp)]
 ·right;rw[if_neg (by simpa using z),h.dum,uo]
  refine⟨by simp,fun m=>?_⟩
  obtain⟨i,hi,e⟩:=Z1.mp m;have cN:i<t.place.size :=by simpa using hi
  have e':t.place[i]=j :=by simpa using e
  obtain⟨b0,b1,b2⟩:=k7 j h.ris;generalize rf t.place j=p at *
  by_cases h1:i<p
  ·have:=b1 i cN h1;omega
  ·by_cases h2:i=p
   ·subst h2;exact z (by rw[wr cN,e'])
   ·have q:=k6 h.ris (show p<i by omega) cN
    have:=b2 p (by omega) (cb _)
    omega
theorem Ia {w:lf}{t:l7}(h:bw w t) {j i:Nat}(e:t.slot j=.live i):t.place[i]?=some j :=by
 rcases o6 h (j:=j) with ⟨i',e1,e2⟩|⟨e1,_⟩
 ·rw[e]at e1;cases e1;exact e2
 ·rw[e]at e1;cases e1
theorem xT {w:lf}{t:l7}(h:bw w t) {j:Nat}(o:gT t j):∃i,t.slot j=.live i/\t.place[i]?=some j :=by
 rcases o6 h (j:=j) with x|⟨_,n⟩
 ·exact x
 ·exact absurd o n
theorem tu {w:lf}{t:l7}(h:bw w t) {j:Nat}(o:¬ gT t j):t.slot j=.empty :=by
 rcases o6 h (j:=j) with ⟨i,_,e⟩|⟨e,_⟩
 ·exfalso
  exact o (by have:=ZN.mpr (ZH e);exact this)
 ·exact e
theorem vq {w:lf}{t:l7}(h:bw w t) {hashAt:Nat->Int}{hh:Int}{K:Nat}(hK:¬ gT t (bK t.mask hh K).j) (hb:∀k,k<K->gT t (bK t.mask hh k).j):∀(fuel k0:Nat),k0<=K->K - k0<fuel->
  (∃k i,k0<=k/\k<K/\t.slot (bK t.mask hh k).j=.live i/\hashAt i=hh/\(∀k' i',k0<=k'->k'<k->t.slot (bK t.mask hh k').j=.live i'->hashAt i'≠hh)/\Tk t hashAt hh fuel (bK t.mask hh k0)=some (.candidate (bK t.mask hh k).j i (bK t.mask hh (k+1)))) \/
  ((∀k' i',k0<=k'->k'<K->t.slot (bK t.mask hh k').j=.live i'->hashAt i'≠hh)/\Tk t hashAt hh fuel (bK t.mask hh k0)=some (.empty (bK t.mask hh K).j none))
 |0,k0,_,hf=>by omega
 |fuel+1,k0,hk,hf=>by
          unfold Tk;by_cases e:k0=K
          ·subst e;right;refine⟨fun k' i' a b=>by omega,?_⟩
           rw[tu h hK];dsimp only;rw[Bi]
          ·obtain⟨i,e1,e2⟩:=xT h (hb k0 (by omega))
           rw[e1];dsimp only;by_cases eh:hashAt i=hh
           ·left;refine⟨k0,i,cb _,by omega,e1,eh,fun k' i' a b=>by omega,?_⟩
            rw[if_pos (by simpa using eh)]
            rfl
           ·rw[if_neg (by simpa using eh)]
            have here:∀i',t.slot (bK t.mask hh k0).j=.live i'->hashAt i'≠hh:=fun i' z=>by rw[e1]at z;cases z;exact eh
            rcases vq h hK hb fuel (k0+1) (by omega) (by omega) with ⟨k,i',a,b,c,d,f,g⟩|⟨f,g⟩
            ·left;refine⟨k,i',by omega,b,c,d,fun k' i2 a2 b2=>?_,g⟩
             by_cases z:k'=k0
             ·subst z;exact here i2
             ·exact f k' i2 (by omega) b2
            ·right;refine⟨fun k' i2 a2 b2=>?_,g⟩
             by_cases z:k'=k0
             ·subst z;exact here i2
             ·exact f k' i2 (by omega) b2
theorem o7 {α:Type}(xs:Array α) (p:Nat) (v:α):(BN xs p v).toList=xs.toList.take p++[v]++xs.toList.drop p :=by
 unfold BN;simp;exact Yr (by simp)
theorem o8 {α:Type}(xs:Array α) (p:Nat) (v:α):(BN xs p v).toList.Perm (v::xs.toList) :=by
 rw[o7,GM];have:(v::xs.toList)=v::(xs.toList.take p++xs.toList.drop p) :=by rw[List.take_append_drop]
 rw[this];exact List.perm_middle
theorem Fu {α β:Type}(xs:List α) (ys:List β) (p:Nat):(xs.take p).zip (ys.take p)=(xs.zip ys).take p :=by rw[YO,YO,List.take_zipWith]
theorem Fv {α β:Type}(xs:List α) (ys:List β) (p:Nat):(xs.drop p).zip (ys.drop p)=(xs.zip ys).drop p :=by rw[YO,YO,List.drop_zipWith]
theorem GoodT.put {w:lf}{t:l7}{es:Array (Int×al)}(g:GoodT w t es) {hh:Int}{x:al}{K:Nat}(hK:¬ gT t (bK t.mask hh K).j) (hb:∀k,k<K->gT t (bK t.mask hh k).j) (hle:(bK t.mask hh K).j<=t.mask) (hr:es.size+1<t.mask) :
  GoodT w (t.put (bK t.mask hh K).j).1 (BN es (t.put (bK t.mask hh K).j).2 (hh,x)) :=by
 have em:=tu g.ok hK;have ok:=g.ok.put em;generalize ej:(bK t.mask hh K).j=j at *
 have mem:∀j',j'∈(t.put j).1.place.toList ↔ j'=j\/j'∈t.place.toList:=fun j'=>by
  have:=(o8 t.place (rf t.place j) j).mem_iff (a:=j');rw[lp]at this;exact this
 have V0:rf t.place j<=t.place.toList.length :=by have:=(k7 j g.ok.ris).1;simpa using this
 have X8:rf t.place j<=es.toList.length :=by rw[kw,<- g.sz,<- kw];exact V0
 have s1:∀{α:Type} (xs:Array α) (p:Nat) (v:α),(BN xs p v).size=xs.size+1:=fun xs p v=>by
  have:=(o8 xs p v).length_eq;rw[kw,wn,kw]at this;exact this
 refine⟨ok,g.full,g.odd,fun j' V1=>?_,?_,?_,fun q hq=>?_⟩
 ·rcases (mem j').mp V1 with rfl|z
  ·exact hle
  ·exact g.le j' z
 ·show (BN t.place (rf t.place j) j).size=_;rw[s1,s1,g.sz]
 ·rw[s1];exact hr
 ·have zz:(t.put j).1.place.toList.zip (BN es (t.put j).2 (hh,x)).toList=(t.place.toList.zip es.toList).take (rf t.place j)++[(j,(hh,x))]++(t.place.toList.zip es.toList).drop (rf t.place j) :=by
   show (BN t.place (rf t.place j) j).toList.zip (BN es (rf t.place j) (hh,x)).toList=_;rw[o7,o7,Z2 (by simp[g.sz]),Z2 (by simp[g.sz]),Fu,Fv]
   rfl
  rw[zz]at hq;have rP:∀j',gT t j'->gT (t.put j).1 j':=fun j' z=>(mem j').mpr (.inr z)
  have old:q∈t.place.toList.zip es.toList->Bk t.mask (gT (t.put j).1) q.2.1 q.1:=fun z=>(g.wk q z).mono rP
  rcases qr.mp hq with z|z
  ·rcases qr.mp z with z|z
   ·exact old (List.mem_of_mem_take z)
   ·rw[lc.mp z];exact⟨K,ej,fun k' mV=>rP _ (hb k' mV)⟩
  ·exact old (List.mem_of_mem_drop z)
def gU (o:Array (Option Nat)) (j:Nat):Prop:=o.getD j none≠none
structure o9 (mask:Nat) (o:Array (Option Nat)) (hs:List Int):Prop where
 size:o.size=mask+1
 wk:∀j n,o.getD j none=some n->∃hh,hs[n]?=some hh/\Bk mask (gU o) hh j
 inj:∀j j' n,o.getD j none=some n->o.getD j' none=some n->j=j'
 sur:∀n,n<hs.length->∃j,j<=mask/\o.getD j none=some n
theorem nC {o:Array (Option Nat)}{mask j:Nat}(hs:o.size=mask+1) (hj:j<=mask):(o.getD j (some 0)).isNone=true ↔ ¬ gU o j :=by
 unfold gU;have hl:j<o.size :=by omega
 simp[NL,hl]
theorem vr {mask:Nat}{o:Array (Option Nat)}{hh:Int}(hs:o.size=mask+1):∀(fuel T:Nat),(∀k,k<gZ mask hh T->gU o (bK mask hh k).j)->(∃T',T<=T'/\T'<T+fuel/\¬ gU o (aW mask hh T').1)->
  ∃j k,Yu mask o fuel (aW mask hh T).1 (aW mask hh T).2=some j/\(bK mask hh k).j=j/\j<=mask/\¬ gU o j/\∀k',k'<k->gU o (bK mask hh k').j
 |0,T,_,⟨T',a,b,_⟩=>by omega
 |fuel+1,T,hb,⟨T',a,b,c⟩=>by
          have hi:=ux (mask:=mask) (h:=hh) T;have XW:=Bh hi;have er:On mask (aW mask hh T).1+1 - (aW mask hh T).1=dz mask (aW mask hh T).1+1 :=by
           have:(aW mask hh T).1<=On mask (aW mask hh T).1 :=by unfold On;split<;>omega
           unfold dz;omega
          unfold Yu;rw[er];cases e:(hX (dz mask (aW mask hh T).1+1)).find? (fun k=>(o.getD ((aW mask hh T).1+k) (some 0)).isNone) with
          |some m=>
           rw[List.find?_range_eq_some]at e;obtain⟨e1,e2,e3⟩:=e;have hm:=l6.mp e2;refine⟨_,gZ mask hh T+m,rfl,tj (by omega),by omega,(nC hs (by omega)).mp e1,fun k' mV=>?_⟩
           by_cases z:k'<gZ mask hh T
           ·exact hb k' z
           ·obtain⟨m',rfl⟩:∃m',k'=gZ mask hh T+m':=⟨k' - gZ mask hh T,by omega⟩
            rw[tj (by omega)]
            have:=e3 m' (by omega)
            refine TD.mp fun n=>?_
            rw[(nC hs (by omega)).mpr n]at this
            cases this
          |none=>
           dsimp only;rw[aai]at e;have rP:∀m,m<=dz mask (aW mask hh T).1->gU o ((aW mask hh T).1+m):=fun m hm=>TD.mp fun n=>e m (l6.mpr (by omega)) ((nC hs (by omega)).mpr n)
           have ne:T'≠T:=fun z=>by
            subst z;exact c (by have:=rP 0 (by omega);rwa [Nat.add_zero]at this)
           refine vr hs fuel (T+1) (fun k hk=>?_) ⟨T',by omega,by omega,c⟩
           have hk:k<gZ mask hh T+dz mask (aW mask hh T).1+1:=hk;by_cases z:k<gZ mask hh T
           ·exact hb k z
           ·obtain⟨m',rfl⟩:∃m',k=gZ mask hh T+m':=⟨k - gZ mask hh T,by omega⟩
            rw[tj (by omega)]
            exact rP m' (by omega)
theorem o9.room {mask:Nat}{o:Array (Option Nat)}{hs:List Int}(L:o9 mask o hs) (h:hs.length<=mask):∃j,j<=mask/\¬ gU o j :=by
 refine Db fun n=>?_
 have all:∀j,j<=mask->gU o j:=fun j hj=>TD.mp fun z=>n ⟨j,hj,z⟩
 have nd:((hX (mask+1)).map fun j=>(o.getD j none).getD 0).Nodup :=by
  rw[List.nodup_iff_pairwise_ne,Yx];refine Zn.imp_of_mem (fun {a b} ha hb fk=>?_) (Ys (n:=mask+1))
  have ha:=l6.mp ha;have hb:=l6.mp hb;obtain⟨x,ex⟩:=SZ.mp (all a (by omega))
  obtain⟨y,ey⟩:=SZ.mp (all b (by omega))
  rw[ex,ey];intro z;have z:x=y:=z;subst z;have:=L.inj a b x ex ey;omega
 have:=rO _ (hX hs.length) nd fun x hx=>by
  obtain⟨j,hj,rfl⟩:=im.mp hx;have hj:=l6.mp hj;obtain⟨y,ey⟩:=SZ.mp (all j (by omega))
  obtain⟨hh,e,_⟩:=L.wk j y ey;rw[ey];exact l6.mpr (ca.mp e).1
 rw[bn,At,At]at this;omega
theorem mY {o:Array (Option Nat)}{j j':Nat}{v:Option Nat}(hj:j<o.size):(o.setIfInBounds j v).getD j' none=if j=j' then v else o.getD j' none :=by
 simp only[Array.getD_eq_getD_getElem?,Array.getElem?_setIfInBounds,hj,if_true];split<;>rfl
theorem o9.snoc {mask:Nat}{o:Array (Option Nat)}{hs:List Int}{hh:Int}{j k:Nat}(L:o9 mask o hs) (e:(bK mask hh k).j=j) (hj:j<=mask) (hf:¬ gU o j) (hb:∀k',k'<k->gU o (bK mask hh k').j):o9 mask (o.setIfInBounds j (some hs.length)) (hs++[hh]) :=by
 have hl:j<o.size :=by rw[L.size];omega
 have fr:o.getD j none=none:=TD.mp hf;have ka:∀j',gU o j'->gU (o.setIfInBounds j (some hs.length)) j':=fun j' z=>by
  unfold gU;rw[mY hl];split
  ·simp
  ·exact z
 have lt:∀j' n,o.getD j' none=some n->n<hs.length:=fun j' n z=>by
  obtain⟨h2,e2,_⟩:=L.wk j' n z;exact(ca.mp e2).1
 refine⟨by rw[Array.size_setIfInBounds,L.size],fun j' n h=>?_,fun a b n ha bC=>?_,fun n hn=>?_⟩
 ·rw[mY hl]at h;split at h
  ·rename_i z;cases h;subst z;exact⟨hh,by simp,k,e,fun k' mV=>ka _ (hb k' mV)⟩
  ·obtain⟨h2,e2,w2⟩:=L.wk j' n h;exact⟨h2,by rw[wp (lt j' n h)];exact e2,w2.mono ka⟩
 ·rw[mY hl]at ha bC;split at ha
  ·rename_i z;cases ha;split at bC
   ·rename_i z2;omega
   ·have:=lt b _ bC;omega
  ·split at bC
   ·cases bC;have:=lt a _ ha;omega
   ·exact L.inj a b n ha bC
 ·rw[r6,GT]at hn;by_cases z:n=hs.length
  ·subst z;exact⟨j,hj,by rw[mY hl,if_pos rfl]⟩
  ·obtain⟨j',a,b⟩:=L.sur n (by omega)
   refine⟨j',a,?_⟩;rw[mY hl,if_neg fun z2=>by subst z2;rw[fr]at b;cases b]
   exact b
theorem OB {mask:Nat}(F:Full mask) (hashes:Array Int) (h:hashes.size<=mask):∃o,aba mask hashes=some o/\o9 mask o hashes.toList :=by
 unfold aba;rw[<- Array.foldl_toList];have hl:hashes.toList.length<=mask :=by rw[kw];exact h
 generalize hashes.toList=L at hl
 have key:∀(rest done:List Int) (o:Array (Option Nat)),done++rest=L->o9 mask o done->∃o',rest.foldl (init:=some (o,done.length)) (fun acc h=>do
   let (owner,k) <- acc
   let j <- Yu mask owner (Pd mask) (EM h % (mask+1)) (EM h)
   pure (owner.setIfInBounds j (some k),k+1))=some (o',L.length)/\o9 mask o' L:=fun rest=>by
  induction rest with
  |nil=>
   intro done o e I;rw[Ix]at e;subst e;exact⟨o,rfl,I⟩
  |cons hh rest ih=>
   intro done o e I;have hd:done.length+(rest.length+1)=L.length :=by rw[<- e,r6,wn]
   obtain⟨j0,OC,f0⟩:=I.room (by omega)
   obtain⟨T',pf,V2⟩:=tq F hh OC;obtain⟨j,k,e1,e2,e3,e4,e5⟩:=vr (hh:=hh) I.size (Pd mask) 0 (fun k hk=>absurd hk (YT _)) ⟨T',ut _,by unfold Pd;omega,by rw[V2];exact f0⟩
   have e1:Yu mask o (Pd mask) (EM hh % (mask+1)) (EM hh)=some j:=e1;have:=ih (done++[hh]) (o.setIfInBounds j (some done.length)) (by rw[GM];exact e) (I.snoc e2 e3 e4 e5)
   rw[r6,GT]at this;rw[ZR];simp only[Option.bind_eq_bind,Zu,e1,Option.pure_def];exact this
 obtain⟨o',e,I⟩:=key L [] (aaT (mask+1) none) rfl ⟨by simp,fun j n z=>by simp[NL]at z,fun a b n z=>by simp[NL]at z,fun n hn=>by simp at hn⟩
 exact⟨o',by rw[show (some (aaT (mask+1) none,0):Option (Array (Option Nat)×Nat))=some (aaT (mask+1) none,([]:List Int).length) from rfl,e];rfl,I⟩
theorem Bm {α β:Type}{f:α->Option β}{g:α->β}:∀{l:List α},(∀x∈l,f x=some (g x))->l.filterMap f=l.map g
 | [],_=>rfl
 |x::l,h=>by rw[OP,h x ii,mo,Bm fun y hy=>h y (db _ hy)]
theorem Li {w:lf}{mask:Nat}(F:Full mask) (od:mask % 2=1) {es:Array (Int×al)}(h:es.size<mask) (finger moves:Nat) {led:Bool}(hl:led = !w.params.followText "set-order") (plain:Bool) :
  ∃t order,l7.laid mask finger moves led plain (es.map (·.1))=some (t,order)/\(order.filterMap (es[·]?)).toList.Perm es.toList/\GoodT w t (order.filterMap (es[·]?))/\t.mask=mask :=by
 obtain⟨o,e,L⟩:=OB F (es.map (·.1)) (by rw[Array.size_map];omega)
 unfold l7.laid;rw[e];obtain⟨g,hg⟩:∃g:Nat->Int×al,g=fun n=>(es[n]?).getD (0,.none):=⟨_,rfl⟩
 have ge:∀n,n<es.size->es[n]?=some (g n):=fun n hn=>by rw[hg];simp[hn]
 have lt:∀j n,o.getD j none=some n->n<es.size:=fun j n z=>by
  obtain⟨hh,e2,_⟩:=L.wk j n z;have:=(ca.mp e2).1;simpa using this
 obtain⟨live,tD⟩:∃live,live=(hX (mask+1)).filterMap fun j=>(o.getD j none).map (j,·):=⟨_,rfl⟩
 have ml:∀j n,(j,n)∈live ↔ j<=mask/\o.getD j none=some n:=fun j n=>by
  rw[tD,YY];constructor
  ·rintro⟨a,ha,e⟩;obtain⟨b,hb,e2⟩:=rc.mp e;cases e2;exact⟨by have:=l6.mp ha;omega,hb⟩
  ·rintro⟨a,b⟩;exact⟨j,l6.mpr (by omega),by rw[b];rfl⟩
 have eo:(((live.map (·.2)).toArray.filterMap (es[·]?))).toList=live.map fun q=>g q.2 :=by
  rw[Array.toList_filterMap,List.filterMap_map];exact Bm fun q hq=>ge _ (lt q.1 q.2 ((ml q.1 q.2).mp hq).2)
 have nd:(live.map (·.2)).Nodup :=by
  have e3:live.map (·.2)=(hX (mask+1)).filterMap fun j=>o.getD j none :=by
   rw[tD,List.map_filterMap];congr 1
   funext j
   cases o.getD j none<;>rfl
  rw[e3,List.nodup_iff_pairwise_ne];refine Zn.filterMap _ (fun a a' X9 b hb b' bC z=>?_) (Ys (n:=mask+1))
  subst z;have:=L.inj a a' b hb bC;omega
 have pr:(live.map (·.2)).Perm (hX es.size):=(List.perm_ext_iff_of_nodup nd Zv).mpr fun n=>by
  rw[im,l6];constructor
  ·rintro⟨q,hq,rfl⟩;exact lt q.1 q.2 ((ml q.1 q.2).mp hq).2
  ·intro hn;obtain⟨j,a,b⟩:=L.sur n (by simpa using hn)
   exact⟨(j,n),(ml j n).mpr ⟨a,b⟩,rfl⟩
 have AF:(hX es.size).map g=es.toList :=by
  refine Zh fun i=>?_
  have e2:es.toList[i]?=es[i]?:=by simp
  rw[dL,e2];by_cases hi:i<es.size
  ·rw[EU hi,ge i hi];rfl
  ·rw[KB (by rw[At];omega),Me (by omega)];rfl
 have pe:(live.map fun q=>g q.2).Perm es.toList :=by
  rw[<- AF];have:=pr.map g;rw[wP]at this;exact this
 have sz:live.length=es.size :=by
  have:=pe.length_eq;rw[bn,kw]at this;exact this
 refine⟨{mask,place:=(live.map (·.1)).toArray,dummies:=#[],finger,led,moves,plain},(live.map (·.2)).toArray,by rw[tD];rfl,by rw[eo];exact pe,?_,rfl⟩
 have OD:((live.map (·.2)).toArray.filterMap (es[·]?)).size=es.size :=by rw[<- kw,eo,bn,sz]
 have ka:∀j,gU o j->j∈live.map (·.1):=fun j z=>by
  obtain⟨n,en⟩:=SZ.mp z;have hj:j<o.size :=by
   refine Db fun c=>?_
   simp[NL,c]at en
  rw[L.size]at hj;exact im.mpr ⟨(j,n),(ml j n).mpr ⟨by omega,en⟩,rfl⟩
 refine⟨⟨rfl,by rw[tD];exact xq (fun j=>o.getD j none) _,hl⟩,F,od,fun j hj=>?_,?_,?_,fun q hq=>?_⟩
 ·rw[YN]at hj;obtain⟨q,hq,rfl⟩:=im.mp hj;exact((ml q.1 q.2).mp hq).1
 ·show (live.map (·.1)).toArray.size=_;rw[OD];simp[sz]
 ·rw[OD];exact h
 ·rw[YN,eo]at hq;have hz:(live.map (·.1)).zip (live.map fun q=>g q.2)=live.map fun q=>(q.1,g q.2) :=by
   clear tD ml eo nd pr pe sz OD ka hq
   induction live with
   |nil=>rfl
   |cons a l ih=>rw[mo,mo,mo,Y1,ih]
  rw[hz]at hq;obtain⟨p,hp,rfl⟩:=im.mp hq;have JT:=((ml p.1 p.2).mp hp).2;obtain⟨hh,e2,w2⟩:=L.wk p.1 p.2 JT;have aM:=lt _ _ JT;have:hh=(g p.2).1 :=by
   rw[No,Array.getElem?_map,ge _ aM]at e2;exact(lm e2).symm
  subst this;exact w2.mono fun j z=>by show j∈(live.map (·.1)).toArray.toList;rw[YN];exact ka j z
theorem GoodT.rJ {w:lf}{t:l7}{es:Array (Int×al)}(g:GoodT w t es) (b:Bool):GoodT w (if b=true then t else {t with plain:=false}) es :=by
 split
 ·exact g
 ·exact⟨⟨g.ok.dum,g.ok.ris,g.ok.led⟩,g.full,g.odd,g.le,g.sz,g.room,g.wk⟩
theorem C3 {w:lf}(finger moves:Nat):GoodT w (.fresh finger moves (!w.params.followText "set-order")) #[]:=
 ⟨⟨rfl,by simp[lZ,aac],rfl⟩,RY,(by decide:7 % 2=1),fun j hj=>by simp[aac]at hj,rfl,by simp[aac],fun q hq=>by simp[aac]at hq⟩
theorem GoodT.fits {w:lf}{t:l7}{es:Array (Int×al)}(g:GoodT w t es):t.fits es.size=true :=by
 unfold l7.fits l7.fill;rw[g.ok.dum];have:=g.room;have:=g.sz;simp;omega
section
variable {P:jp}{w:lf}{A:sB}{E:al->ba->Prop}{s:ba}{κ:Type} [DecidableEq κ] {knd:KeyKind P w κ}
theorem tE {ks:List κ}{a:ag}{Q:Bool->ba->Prop}(hk:Nd knd s.heap ks a) (h:Q false s):c8 (model P w) A (ofAClassStatement 8 (.ref a)) Q E s :=by
 have hT:=hk.typeIs;obtain⟨o,items,n,ho,_,hd,hi⟩:=hk;unfold ofAClassStatement;refine ac (ZZ hT ?_);dsimp only;rw[if_pos (by decide)]
 refine ac (bi ?_);simp only[Na,i4,if_false];refine ac (Gc ho hd ?_);dsimp only;refine ac ?_;rw[<- Array.forIn_toList];refine aaM _ (fun rest r s'=>r.1=none/\s'=s/\∀v∈rest,carriedByValue v=true) _ ?_ ?_ _ _ ⟨rfl,rfl,hi.byValue⟩
 ·rintro v rest r s' ⟨hr,rfl,iu⟩;have hv:=iu v ii;have e:ofAClassStatement 7 v=pure false :=by
   cases v<;>first|(simp[carriedByValue]at hv;done)|(unfold ofAClassStatement;rfl)
  rw[e];refine ac (bi ?_);simp only[i4,if_false];exact bi ⟨rfl,rfl,fun u dB=>iu u (db _ dB)⟩
 ·rintro⟨r1,r2⟩ s' ⟨hr,rfl,_⟩;simp only at hr;subst hr;exact bi h
theorem Fw {ks:List κ}{a:ag}(hk:Nd knd s.heap ks a):∀(l:List al) {Q:Bool->ba->Prop},(∀v∈l,∃ks b,v=.ref b/\Nd knd s.heap ks b)->Q false s->c8 (model P w) A (searchCouldBeSeen (.ref a) l) Q E s :=by
 intro l Q hl h;unfold searchCouldBeSeen;refine ac ?_;refine aaM _ (fun rest r s'=>r.1=none/\s'=s/\∀v∈rest,∃ks b,v=.ref b/\Nd knd s.heap ks b) _ ?_ ?_ _ _ ⟨rfl,rfl,hl⟩
 ·rintro v rest r s' ⟨hr,rfl,iu⟩;obtain⟨V3,b,rfl,hb⟩:=iu v ii;have tl:=fun u dB=>iu u (db _ dB)
  dsimp only;split
  ·exact bi ⟨rfl,rfl,tl⟩
  ·refine ac (wpAny_eqIsQuiet_tuple hk ?_);simp only[Na,i4,if_false];refine ac (wpAny_eqIsQuiet_tuple hb ?_);simp only[Na,i4,if_false];refine ac (tE hk ?_);simp only[i4,if_false];refine ac (tE hb ?_);simp only[i4,if_false];exact bi ⟨rfl,rfl,tl⟩
 ·rintro⟨r1,r2⟩ s' ⟨hr,rfl,_⟩;simp only at hr;subst hr;exact bi h
def Fx (knd:KeyKind P w κ) (h:i8) (es:Array (Int×al)):Prop:=∀e∈es.toList,∃ks b,e=(ze knd ks,.ref b)/\Nd knd h ks b
def C4 (knd:KeyKind P w κ) (h:i8) (es:Array (Int×al)) (ks:List κ):Prop:=∃e∈es.toList,∃b,e.2=.ref b/\Nd knd h ks b
theorem vt {a:ag}{o:l9}{es:Array (Int×al)}{ep:Nat}{t:l7}{ks:List κ}{p:ag}{K:Nat}{Q:SetFound->ba->Prop}(hu:A.units<CS)
  (ho:s.heap.get? a=some o) (hd:o.data=.set es ep t) (g:GoodT w t es) (hk:Nd knd s.heap ks p) (ha:Fx knd s.heap es)
  (hK:¬ gT t (bK t.mask (ze knd ks) K).j) (hb:∀k,k<K->gT t (bK t.mask (ze knd ks) k).j) (C5:K<10 * Pd t.mask)
  (Fy:C4 knd s.heap es ks->Q (.there none) s) (sk:¬ C4 knd s.heap es ks->Q (.free (bK t.mask (ze knd ks) K).j false) s) :
  ∀(fuel k0:Nat) (wA:Option US),wA.getD (t.probeStart (ze knd ks))=bK t.mask (ze knd ks) k0->k0<=K->K - k0<fuel->
   (∀k i e,k<k0->t.slot (bK t.mask (ze knd ks) k).j=.live i->es[i]?=some e->∀b,e.2=.ref b->¬ Nd knd s.heap ks b)->
   c8 (model P w) A (setSearchFrom a (.ref p) (ze knd ks) true fuel wA) Q E s
 |0,k0,wA,_,_,hf,_=>by omega
 |fuel+1,k0,wA,mh,V4,hf,ph=>by
          unfold setSearchFrom;refine ac (Fk ho hd g.fits ?_);dsimp only;have hg:t.gaveWay=false :=by
           unfold l7.gaveWay;rw[g.odd];rfl
          rw[hg];simp only[i4,if_false];rw[mh];have Lj:(∀k i e,k<K->t.slot (bK t.mask (ze knd ks) k).j=.live i->es[i]?=some e->∀b,e.2=.ref b->¬ Nd knd s.heap ks b)->¬ C4 knd s.heap es ks:=fun hn ⟨e,he,b,eb,bC⟩=>by
           obtain⟨i,hi,ei⟩:=Z1.mp he;have cN:i<es.size :=by simpa using hi
           have Tj:es[i]?=some e :=by rw[wr cN];simpa using ei
           have Tn:i<t.place.size :=by rw[g.sz];exact cN
           have hz:(t.place.toList.zip es.toList)[i]?=some (t.place[i],e):=AC.mpr ⟨by simp[Tn],by simpa using Tj⟩
           obtain⟨k,e1,e2⟩:=g.wk _ (ff hz);obtain⟨dq,b2,rfl,k8⟩:=ha e he;cases eb;have:=bC.inj k8;subst this;dsimp only at e1 e2;have V5:k<K :=by
            refine Db fun z=>?_
            by_cases z2:K<k
            ·exact hK (e2 K z2)
            ·have:k=K :=by omega
             subst this;exact hK (by rw[e1];show _∈t.place.toList;simp)
           have rP:gT t t.place[i] :=by show _∈t.place.toList;simp
           obtain⟨i',s1,s2⟩:=xT g.ok rP;have gY:i'=i :=by
            have hl:=(Array.getElem?_eq_some_iff.mp s2);obtain⟨hl,hv⟩:=hl;rcases Nat.lt_trichotomy i' i with z|z|z
            ·have:=k6 g.ok.ris z Tn;omega
            ·exact z
            ·have:=k6 g.ok.ris z hl;omega
           subst gY;exact hn k i' _ V5 (by rw[e1];exact s1) Tj _ rfl k8
          rcases vq g.ok hK hb (10 * Pd t.mask) k0 V4 (by omega) with ⟨k,i,c1,c2,c3,c4,c5,c6⟩|⟨c5,c6⟩
          ·unfold abb;rw[c6];dsimp only;obtain⟨j,hj⟩:∃j,j=(bK t.mask (ze knd ks) k).j:=⟨_,rfl⟩;have pl:=Ia g.ok c3;have eO:i<es.size :=by rw[<- g.sz];exact(Array.getElem?_eq_some_iff.mp pl).1
           obtain⟨dq,b2,ee,k8⟩:=ha es[i] (by simp)
           have ei:es[i]?=some (ze knd dq,.ref b2) :=by rw[wr eO,ee]
           have after:c8 (model P w) A (do
             let some (_,y):=es[i]?|unsupported "internal:set-entry"
             let equal <- holding [y] (eqBool y (.ref p))
             let (cD,_,t') <- setState a
             if true && equal then return .there none
             let some same:=t'.sameMemory t.moves t.mask|unsupported "set.changed-during-lookup:is-the-new-block-at-the-old-address"
             let RZ <- match (if same then t'.slot (bK t.mask (ze knd ks) k).j else .empty) with
              | .live i'=>match cD[i']? with
               |some (_,y')=>do pure (if <- isSame y' y then some i' else none)
               |none=>pure none
              |_=>pure none
             match RZ with
             |none=>rule "set.search.anew";setSearchFrom a (.ref p) (ze knd ks) true fuel none
             |some i'=>if equal then return .there (some i') else setSearchFrom a (.ref p) (ze knd ks) true fuel (some (bK t.mask (ze knd ks) (k+1)))) Q E s :=by
            rw[ei];dsimp only;refine ac (wS (wpAny_eqBool_tuple hu k8 hk ?_));refine ac (Fk ho hd g.fits ?_);dsimp only;by_cases eq:dq=ks
            ·subst eq;rw[decide_eq_true rfl,if_pos (by decide)]
             exact bi (Fy ⟨es[i],by simp,b2,by rw[ee],k8⟩)
            ·rw[decide_eq_false eq,if_neg (by decide)]
             have V6:t.sameMemory t.moves t.mask=some true :=by unfold l7.sameMemory;rw[if_pos (by simp)]
             rw[V6];simp only[if_true,c3,ei];refine ac (wpAny_isSame_ref_self (ac (bi ?_)));simp only[if_true,i4,if_false];refine vt hu ho hd g hk ha hK hb C5 Fy sk fuel (k+1) _ rfl (by omega) (by omega) fun k' i' e' h1 h2 h3 b' h4 h5=>?_
             by_cases z:k'<k0
             ·exact ph k' i' e' z h2 h3 b' h4 h5
             ·by_cases z2:k'=k
              ·subst z2;rw[c3]at h2;cases h2;rw[ei]at h3;cases h3;cases h4;exact eq (k8.inj h5)
              ·have hh:=c5 k' i' (by omega) (by omega) h2
               obtain⟨OG,b3,e3,FA⟩:=ha e' (by have:=ZH h3;simpa using this)
               subst e3;cases h4;have:=h5.inj FA;subst this;refine hh ?_;show ((es[i']?).map (·.1)).getD 0=_;rw[h3];rfl
           split
           ·refine ac (Fw hk _ (fun v hv=>?_) ?_)
            ·obtain⟨e,he,rfl⟩:=im.mp hv;have V7:e∈es.toList :=by
              have:=ZN.mp he;have:=(Array.mem_filter.mp this).1;simpa using this
             obtain⟨OG,b3,e3,FA⟩:=ha e V7;subst e3;exact⟨OG,b3,rfl,FA⟩
            ·simp only[i4,if_false];exact after
           ·exact after
          ·unfold abb;rw[c6];dsimp only;refine bi (sk (Lj fun k i e h1 h2 h3 b h4 h5=>?_))
           by_cases z:k<k0
           ·exact ph k i e z h2 h3 b h4 h5
           ·have hh:=c5 k i (by omega) h1 h2
            obtain⟨OG,b3,e3,FA⟩:=ha e (by have:=ZH h3;simpa using this)
            subst e3;cases h4;have:=h5.inj FA;subst this;refine hh ?_;show ((es[i]?).map (·.1)).getD 0=_;rw[h3];rfl
def xU (knd:KeyKind P w κ) (x:List κ×ag):Int×al:=(ze knd x.1,.ref x.2)
def ji (knd:KeyKind P w κ) (h:i8) (a:ag) (xs:List (List κ×ag)):Prop:=
 ∃o es ep t,h.get? a=some o/\o.ExactSet/\o.data=.set es ep t/\es.toList.Perm (xs.map (xU knd))/\(xs.map (·.1)).Nodup/\GoodT w t es/\(t.mask=7\/t.mask=31)/\es.size * 5<t.mask * 3
theorem ji.bQ {h h':i8}{a:ag}{xs:List (List κ×ag)}(x:ji knd h a xs) (k:∀o,h.get? a=some o->h'.get? a=some o):ji knd h' a xs:=
 let ⟨o,es,ep,t,e,r⟩:=x;⟨o,es,ep,t,k o e,r⟩
def xV (xs:List (List κ×ag)) (k:List κ) (p:ag):List (List κ×ag):=if k∈xs.map (·.1) then xs else xs++[(k,p)]
theorem uy {ks:List κ}{a:ag}{Q:Bool->ba->Prop}(hk:Nd knd s.heap ks a) (h:∀b,Q b s):c8 (model P w) A (hashByValue 8 (.ref a)) Q E s :=by
 have hT:=hk.typeIs;obtain⟨o,items,n,ho,_,hd,hi⟩:=hk;unfold hashByValue;refine ac (aaS hT F.slot_tuple_hash.lookup ?_);dsimp only;refine ac (Gc ho hd ?_);refine ac ?_;show c8 _ _ (forIn items _ _) _ _ s;rw[<- Array.forIn_toList];refine aaM _ (fun rest r s'=>s'=s/\∀v∈rest,carriedByValue v=true) _ ?_ ?_ _ _ ⟨rfl,hi.byValue⟩
 ·rintro v rest r s' ⟨rfl,iu⟩;have hv:=iu v ii;have e:∃b,hashByValue 7 v=pure b :=by
   cases v<;>first|(simp[carriedByValue]at hv;done)|exact⟨_,rfl⟩
  obtain⟨b,e⟩:=e;rw[e];refine ac (bi ?_);cases b
  ·simp only[YC,if_true];exact bi (bi (h _))
  ·simp only[Na,i4,if_false];exact bi ⟨rfl,fun u dB=>iu u (db _ dB)⟩
 ·rintro⟨r1,r2⟩ s' ⟨rfl,_⟩;cases r1 with
  |none=>exact bi (h _)
  |some v=>exact bi (h _)
theorem FC {h:i8}{a:ag}{o:l9}{es:Array (Int×al)}{ep:Nat}{t:l7}(ho:h.get? a=some o) (hd:o.data=.set es ep t) (cD:Array (Int×al)) (t':l7) :
  (h.update a (Po cD t')).get? a=some {o with data:=.set cD (ep+1) t'}:=by
 have:=ww (Po cD t') ho (by rw[aah cD t' hd];rfl)
 rw[aah cD t' hd]at this;exact this
theorem tF {h:i8}{a:ag}{o:l9}{es:Array (Int×al)}{ep:Nat}{t:l7}(ho:h.get? a=some o) (hex:o.ExactSet) (hd:o.data=.set es ep t)
  {cD:Array (Int×al)} {t':l7} {xs:List (List κ×ag)} (hp:cD.toList.Perm (xs.map (xU knd))) (hn:(xs.map (·.1)).Nodup) (g:GoodT w t' cD) (hm:t'.mask=7\/t'.mask=31) (hl:cD.size * 5<t'.mask * 3) :
  (h.update a (Po cD t')).get? a=some {o with data:=.set cD (ep+1) t'}/\ji knd (h.update a (Po cD t')) a xs :=by
 have hg:(h.update a (Po cD t')).get? a=some {o with data:=.set cD (ep+1) t'}:=by
  have:=ww (Po cD t') ho (by rw[aah cD t' hd];rfl)
  rw[aah cD t' hd]at this;exact this
 exact⟨hg,_,cD,ep+1,t',hg,hex,rfl,hp,hn,g,hm,hl⟩
theorem C6 {a:ag}{xs:List (List κ×ag)}{ks:List κ}{p:ag}{Q:Bool->ba->Prop}(hu:A.units<CS) (hS:ji knd s.heap a xs) (hk:Nd knd s.heap ks p) (hx:∀x∈xs,Nd knd s.heap x.1 x.2) (qg:xs.length<9)
  (h:∀h',Cn a s.heap h'->ji knd h' a (xV xs ks p)->Q (decide (ks ∉ xs.map (·.1))) {s with heap:=h',toks:=s.toks+(ks.length+1)}):c8 (model P w) A (setAdd a (.ref p)) Q E s :=by
 unfold setAdd;refine wS (ac (wpAny_pyHash_tuple hu hk ?_));obtain⟨o,es,ep,t,ho,hex,hd,hp,hn,g,hm,hl⟩:=hS;unfold setAddHashed setAddHashedIn;refine wS (ac (Fk (s:={s with toks:=s.toks+(ks.length+1)}) ho hd g.fits ?_))
 dsimp only;have hb:byScan (.ref p) es=false:=rfl;rw[hb];simp only[i4,if_false];have hlen:es.size=xs.length :=by rw[<- kw,hp.length_eq,bn]
 have ha:Fx knd s.heap es:=fun e he=>by
  obtain⟨x,xW,rfl⟩:=im.mp (hp.mem_iff.mp he);exact⟨x.1,x.2,rfl,hx x xW⟩
 have has:C4 knd s.heap es ks ↔ ks∈xs.map (·.1) :=by
  constructor
  ·rintro⟨e,he,b,eb,bC⟩;obtain⟨x,xW,rfl⟩:=im.mp (hp.mem_iff.mp he);cases eb;exact im.mpr ⟨x,xW,(hx x xW).inj bC⟩
  ·intro m;obtain⟨x,xW,rfl⟩:=im.mp m;exact⟨_,hp.mem_iff.mpr (im.mpr ⟨x,xW,rfl⟩),x.2,rfl,hx x xW⟩
 have tG:∃j,j<=t.mask/\¬ gT t j :=by
  refine Db fun n=>?_
  have all:∀j,j<=t.mask->gT t j:=fun j hj=>TD.mp fun z=>n ⟨j,hj,z⟩
  have:=rO (hX (t.mask+1)) t.place.toList Zv fun j hj=>all j (by have:=l6.mp hj;omega)
  rw[At,kw,g.sz]at this;have:=g.room;omega
 obtain⟨j0,OC,f0⟩:=tG;obtain⟨K,k1,k2,k3⟩:=Oz g.full (ze knd ks) OC f0;have U5:K<10 * Pd t.mask :=by unfold Pd;omega
 unfold setSearch;refine ac (vt (s:={s with toks:=s.toks+(ks.length+1)}) hu ho hd g hk ha k2 k3 U5 (fun hh=>?_) (fun hh=>?_) 100000 0 none rfl (ut _) (by rcases hm with z|z<;>rw[z]at k1<;>omega) fun k i e z=>absurd z (YT _))
 ·have Bn:=has.mp hh;have:=h s.heap (Cn.refl a s.heap) (by unfold xV;rw[if_pos Bn];exact⟨o,es,ep,t,ho,hex,hd,hp,hn,g,hm,hl⟩)
  rw[decide_eq_false (fun z=>z Bn)]at this
  exact bi this
 ·have Bn:ks ∉ xs.map (·.1):=fun z=>hh (has.mpr z)
  have CL:xV xs ks p=xs++[(ks,p)] :=by unfold xV;rw[if_neg Bn]
  have key:∀h',Cn a s.heap h'->ji knd h' a (xs++[(ks,p)])->Q true {s with heap:=h',toks:=s.toks+(ks.length+1)}:=fun h' jc iI=>by
   have:=h h' jc (by rw[CL];exact iI)
   rw[decide_eq_true Bn]at this;exact this
  have le:=Ow t.mask (ze knd ks) K;have V8:(es.size+1) * 5<=t.mask * 3+4 :=by omega
  have g1:=g.put (x:=.ref p) k2 k3 le (by rcases hm with z|z<;>rw[z]at V8 ⊢<;>omega)
  generalize (bK t.mask (ze knd ks) K).j=j at g1 k2 le
  dsimp only;refine ac (Fk (s:={s with toks:=s.toks+(ks.length+1)}) ho hd g.fits ?_)
  dsimp only;have C7:(BN es (t.put j).2 (ze knd ks,ss p)).toList.Perm ((xs++[(ks,p)]).map (xU knd)) :=by
   refine(o8 es _ _).trans ?_;rw[mf];refine PP.trans (PP.cons _ hp) ?_;exact(List.perm_append_comm (l₁:=[xU knd (ks,p)]) (l₂:=xs.map (xU knd)))
  have To:((xs++[(ks,p)]).map (·.1)).Nodup :=by
   rw[mf];exact IS.mpr ⟨hn,by simp,fun a ha b hb=>by rw[mo,Wp,lc]at hb;rw[hb];exact fun z=>Bn (by rw[<- show a=ks from z];exact ha)⟩
  have Bo:(BN es (t.put j).2 (ze knd ks,ss p)).size=es.size+1 :=by
   rw[<- kw,C7.length_eq,bn,r6,GT,hlen]
  have tm:(t.put j).1.mask=t.mask:=rfl;generalize (t.put j).1=t1 at g1 tm ⊢
  generalize BN es (t.put j).2 (ze knd ks,ss p)=cH at g1 C7 Bo ⊢
  have fin:∀b:Bool,c8 (model P w) A (do
    storeSet a cH (if b=true then t1 else {t1 with plain:=false})
    if (!false && (if b=true then t1 else {t1 with plain:=false}).tooFull)=true then setRelay a (NE (es.size+1))
    pure true) Q E {s with toks:=s.toks+(ks.length+1)}:=fun b=>by
   have g2:=g1.rJ b;have JU:(if b=true then t1 else {t1 with plain:=false}).mask=t.mask :=by split<;>exact tm
   generalize (if b=true then t1 else {t1 with plain:=false})=t2 at g2 JU ⊢
   have fl:t2.fill=es.size+1 :=by unfold l7.fill;rw[g2.ok.dum,g2.sz,Bo];rfl
   have big:(1000:Nat)<sizeLine :=by decide
   have Tp:cH.size<=sizeLine :=by rw[Bo];omega
   refine ac (Zd ho hd ?_ Tp);have tf:t2.tooFull=decide ((es.size+1) * 5 ≥ t.mask * 3) :=by unfold l7.tooFull;rw[fl,JU]
   rw[tf];by_cases tG:(es.size+1) * 5 ≥ t.mask * 3
   ·rw[decide_eq_true tG];have e4:es.size=4/\t.mask=7 :=by rcases hm with z|z<;>rw[z]at tG hl ⊢<;>omega
    rw[e4.1];simp only[YC,W1,if_true];have vw:=FC ho hd cH t2;unfold setRelay;refine ac (ac (Fk vw rfl g2.fits ?_));dsimp only;have xl:NE (4+1)=20:=rfl;have Tq:l7.sizeAbove 20=32:=rfl;obtain⟨t3,order,l1,l2,l3,l4⟩:=Li Ox rfl (es:=cH) (by rw[Bo];omega) t2.finger (t2.movedTo 31) g2.ok.led t2.plain
    have V9:t2.relaid (cH.map (·.1)) 20=some (t3,order) :=by
     unfold l7.relaid;rw[Tq];exact l1
    have OH:(order.filterMap (cH[·]?)).size=cH.size :=by rw[<- kw,l2.length_eq,kw]
    rw[xl,Tq,if_neg (by omega),V9]
    refine ac ?_;show c8 _ _ (if (order.filterMap (cH[·]?)).size != cH.size then unsupported "internal:set-table-lost-an-element" >>= fun _=>pure (order.filterMap (cH[·]?),t3) else pure (order.filterMap (cH[·]?),t3)) _ _ _
    rw[if_neg (by rw[OH];simp)]
    refine bi ?_;dsimp only;refine Zd vw rfl ?_ (by rw[OH];exact Tp)
    obtain⟨_,Wa⟩:=tF (knd:=knd) (xs:=xs++[(ks,p)]) vw hex rfl (l2.trans C7) To l3 (.inr l4) (by rw[OH,Bo,l4];omega)
    exact bi (key _ ((AL s.heap a _).trans (AL _ a _)) Wa)
   ·rw[decide_eq_false tG];simp only[Bool.and_false,i4,if_false];obtain⟨vw,oo⟩:=tF (knd:=knd) (xs:=xs++[(ks,p)]) ho hex hd C7 To g2 (by rw[JU];exact hm) (by rw[Bo,JU];omega)
    exact ac (bi (bi (key _ (AL s.heap a _) oo)))
  split
  ·exact ac (uy hk fun b=>fin b)
  ·exact ac (bi (fin true))
end
section
variable {P:jp}{w:lf}{A:sB}{E:al->ba->Prop}{s:ba}
abbrev JV (xs:List al):Nat->al->Prop:=fun i v=>xs[i]?=some v
theorem Lk {xs:List al}{acc:Array al}(h:ItemsOf (JV xs) acc xs.length):acc.toList=xs :=by
 obtain⟨hs,hi⟩:=h;refine Zh fun i=>?_
 have e2:acc.toList[i]?=acc[i]?:=by simp
 rw[e2];by_cases hl:i<xs.length
 ·have:=hi i acc[i] (wr (by omega))
  rw[wr (by omega)]
  exact this.symm
 ·rw[Me (by omega),KB (by omega)]
theorem R1 {I a:ag}{es:Array (Int×al)}{ep:Nat}{t:l7}(hh:A.handled=none) (d8:a≠I) (hd:w.params.followText "set-order" = false->(!t.plain && decide (es.size > 1))=false) :
  aa8 P w A I [I,a] [I] (fun a b=>b=a) ((cw w a ep es).map (·.2)).length (JV ((cw w a ep es).map (·.2)))
   (fun i s=>iV P w s.heap a es ep t/\∃slot:Nat,dJ s.heap I a (.int slot 0) i es.size ep/\(w.params.followText "set-order" = false->rf t.place slot=i)) where
 sub:=fun b hb=>by simp at hb;simp[hb]
 grefl:=fun _=>rfl
 gtrans:=fun _ _ _ h1 h2=>h2.trans h1
 frame:=fun i s h' _ st _ hk=>⟨st.1.bQ fun o e=>hk a (by simp) o e,let ⟨slot,h1,h2⟩:=st.2;⟨slot,h1.bQ fun o e=>hk I (by simp) o e,h2⟩⟩
 item:=fun i s Q E hi st hQ=>by
  obtain⟨hE,slot,hit,hb⟩:=st;have hl:i<(cw w a ep es).length :=by simpa using hi
  have qS:i<es.size :=by rw[<- kw,<- (e8 w a ep es).length_eq];exact hl
  have dA:i<t.place.size :=by
   have:=hE.fits;simp only[l7.fits,EN,beq_iff_eq]at this;rw[this.1];exact qS
  refine AZ (next:=if w.params.followText "set-order" = true then slot else t.place[i]+1) (x:=((cw w a ep es)[i]).2) hit hE hd (fun bC=>?_) (fun bC=>?_) (fun h' rL hs=>hQ _ _ (by show (Y2 _ _)[i]?=_;rw[dL,ap hl];rfl) ⟨hE.bQ fun o e=>by rw[hs.2 a d8];exact e,_,rL,fun bC=>?_⟩ ⟨fun b o hb e=>by rw[hs.2 b (fun z=>hb (by simp[z]))];exact e,rfl,rfl,rfl,cb _⟩)
  ·rw[if_pos bC];have e1:cw w a ep es=(pickOrder (w.params.setOrder a ep) es).toList :=by unfold cw;rw[if_pos bC]
   have e2:(pickOrder (w.params.setOrder a ep) es)[i]?=some (cw w a ep es)[i] :=by
    rw[<- No,<- e1];exact ap hl
   rw[e2];rfl
  ·rw[if_neg (by rw[bC];decide),hb bC,wr qS,wr dA]
   have e1:cw w a ep es=es.toList :=by unfold cw;rw[if_neg (by rw[bC];decide)]
   have e2:(cw w a ep es)[i]=es[i] :=by simp[e1]
   rw[e2]
  ·rw[if_neg (by rw[bC];decide)]
   exact sT hE.tab.ris dA
 done:=fun s Q E st hQ=>by
  obtain⟨hE,slot,hit,hb⟩:=st;have hl:((cw w a ep es).map (·.2)).length=es.size :=by rw[bn,(e8 w a ep es).length_eq,kw]
  rw[hl]at hit hb;refine A0 hh hit hE hd (fun bC=>?_) (fun bC=>?_) (fun h' k=>hQ _ ⟨fun b o hb e=>k b o (fun z=>hb (by simp[z])) e,rfl,rfl,rfl,cb _⟩)
  ·have e1:(pickOrder (w.params.setOrder a ep) es)[es.size]?=none :=by
    refine Me ?_;rw[<- kw,(oT _ es).length_eq,kw];exact cb _
   rw[e1];rfl
  ·rw[hb bC,Me (cb _)]
 self:=fun i s Q E st hQ=>let ⟨_,slot,hit,_⟩:=st;si_self hit hQ
theorem OI {I a T:ag}{es:Array (Int×al)}{ep:Nat}{t:l7}{ps:List Nat}(hh:A.handled=none) (d8:a≠I) (HI:T≠I) (oU:∀j∈ps,j<es.size) (dA:ps.length=es.size) :
  aa8 P w A I [I,a,T] [I] (fun a b=>b=a) (ps.map fun j=>(es.getD j (0,.none)).2).length (JV (ps.map fun j=>(es.getD j (0,.none)).2))
   (fun i s=>iV P w s.heap a es ep t/\s.heap.IsTuple T (ps.map fun (i:Nat)=>rawInt i).toArray/\dJ s.heap I a (.ref T) i es.size ep) where
 sub:=fun b hb=>by simp at hb;simp[hb]
 grefl:=fun _=>rfl
 gtrans:=fun _ _ _ h1 h2=>h2.trans h1
 frame:=fun i s h' _ st _ hk=>⟨st.1.bQ fun o e=>hk a (by simp) o e,st.2.1.at fun o e=>hk T (by simp) o e,st.2.2.bQ fun o e=>hk I (by simp) o e⟩
 item:=fun i s Q E hi st hQ=>by
  obtain⟨hE,hT,hit⟩:=st;have hl:i<ps.length :=by simpa using hi
  have hj:=oU _ (v6 hl);have hx:es[ps[i]]?=some es[ps[i]]:=wr hj;have hg:es.getD ps[i] (0,.none)=es[ps[i]] :=by simp[NL,hj]
  refine A1 hit hE hT (ap hl) hx fun h' rL hs=>hQ _ _ (by show (Y2 _ _)[i]?=_;rw[dL,ap hl,Co,hg]) ⟨hE.bQ fun o e=>by rw[hs.2 a d8];exact e,hT.at fun o e=>by rw[hs.2 T HI];exact e,rL⟩ ⟨fun b o hb e=>by rw[hs.2 b (fun z=>hb (by simp[z]))];exact e,rfl,rfl,rfl,cb _⟩
 done:=fun s Q E st hQ=>by
  obtain⟨hE,hT,hit⟩:=st;have hl:(ps.map fun j=>(es.getD j (0,.none)).2).length=ps.length:=bn _
  rw[hl]at hit;exact A7 hh hit hE hT (cb _) fun h' k=>hQ _ ⟨fun b o hb e=>k b o (fun z=>hb (by simp[z])) e,rfl,rfl,rfl,cb _⟩
 self:=fun i s Q E st hQ=>si_self st.2.2 hQ
theorem zR {a:ag}{o:l9}{es:Array (Int×al)}{ep:Nat}{t:l7}{Q:al->ba->Prop}(ho:s.heap.get? a=some o) (hex:o.ExactSet) (hd:o.data=.set es ep t) (hb:es.size<scanBound) (hf:t.fits es.size=true) (ht:bw w t)
  (hQ:∀(I:ag) (h':i8) (d':Drawn) (xs:List al) (fp:List ag) (St:Nat->ba->Prop),xs.Perm (es.toList.map (·.2))->(∀b o,s.heap.get? b=some o->h'.get? b=some o)->s.heap.objs.size<=I->(∀b∈fp,b=a\/s.heap.objs.size<=b)->
   (∀A':sB,A'.handled=none->aa8 P w A' I fp [I] (fun a b=>b=a) xs.length (JV xs) St)->St 0 {s with heap:=h',drawn:=d'}->Q (.ref I) {s with heap:=h',drawn:=d'}):c8 (model P w) A (pyIter (.ref a)) Q E s :=by
 have Fd:s.TypeIs (.ref a) "set" := ⟨o,ho,hex.1⟩
 have hE:iV P w s.heap a es ep t:=⟨⟨o,ho,hex,hd⟩,hf,ht⟩;have aM:=kt ho;refine Zf Fd ZY (zn ZY Fd qQ ?_ (F.args_set_iter_1 _));unfold wl.«frozenset.__iter__»;refine ac (m:=wl.Frozenset.slot0 "__iter__" _) (bi ?_)
 unfold wl.Frozenset.sizeOf;refine ac (ac (OR ho hd hf (bi ?_)));refine ac ?_;unfold setDrawn;refine ac (Fk ho hd hf ?_);dsimp only;refine ac (me ?_);refine bi ?_;by_cases mX:(!w.params.followText "set-order" && (!t.plain && decide (es.size > 1)))=true
 ·show c8 _ _ (if (!w.params.followText "set-order" && (!t.plain && decide (es.size > 1)))=true then _ else _) _ _ s
  rw[if_pos mX];refine ac (lg _ _ (by simp) fun ps d oU=>?_)
  have dA:ps.length=es.size :=by rw[oU.length_eq,At]
  refine ac (Y6 ?_ (by rw[bn,dA];exact Ze hb))
  refine ac (Zg (o:=o) (br _ ho) hd hf ?_);unfold newFields;refine ac (B0 ?_ (by size_fits))
  have hsz:∀u:l9,(s.heap.push u).objs.size=s.heap.objs.size+1:=fun u=>xp _ _
  have hit:dJ ((s.heap.push {cls:=.type "tuple",data:=.seq (ps.map fun (i:Nat)=>rawInt i).toArray}).push {cls:=.type "set_iterator",data:=.fields #[.ref s.heap.objs.size,.int (0:Nat) 0,.ref a,.int es.size 0,.int ep 0]}) (s.heap.push {cls:=.type "tuple",data:=.seq (ps.map fun (i:Nat)=>rawInt i).toArray}).objs.size a (.ref s.heap.objs.size) 0 es.size ep:=⟨_,ij _ rfl,rfl,rfl⟩
  have N9:(ps.map fun j=>(es.getD j (0,.none)).2).Perm (es.toList.map (·.2)) :=by
   refine(oU.map _).trans ?_;have:(hX es.size).map (fun j=>(es.getD j (0,.none)).2)=es.toList.map (·.2) :=by
    refine aaL (by simp) fun n h1 h2=>?_
    have wK:n<es.size :=by simpa using h1
    simp[NL,wK]
   rw[this]
  refine bi ⟨_,rfl,"set_iterator",_,dJ.typeIs (s:={s with heap:=_,drawn:=d}) hit,bT.lookup,?_⟩
  refine hQ _ _ d _ [(s.heap.push {cls:=.type "tuple",data:=.seq (ps.map fun (i:Nat)=>rawInt i).toArray}).objs.size,a,s.heap.objs.size] _ N9 (fun b o e=>br _ (br _ e)) (by rw[hsz];exact IR _) (fun b hb=>?_) (fun A' hA=>OI (t:=t) (ep:=ep) hA ?_ ?_  (fun j hj=>by simpa using oU.mem_iff.mp hj) dA) ⟨hE.bQ fun o e=>br _ (br _ e),⟨_,br _ (ij _ rfl),rfl,_,rfl⟩,hit⟩
  ·simp only[lp,EO,or_false]at hb;rcases hb with rfl|rfl|rfl
   ·exact .inr (by rw[hsz];exact IR _)
   ·exact .inl rfl
   ·exact .inr (cb _)
  ·rw[hsz];exact l5 (xz aM)
  ·rw[hsz];exact l5 (AT _)
 ·show c8 _ _ (if (!w.params.followText "set-order" && (!t.plain && decide (es.size > 1)))=true then _ else _) _ _ s
  rw[if_neg mX];refine ac (bi (ac (Zg ho hd hf ?_)));unfold newFields;refine ac (B0 ?_ (by size_fits))
  have hit:dJ (s.heap.push {cls:=.type "set_iterator",data:=.fields #[.int (0:Nat) 0,.int (0:Nat) 0,.ref a,.int es.size 0,.int ep 0]}) s.heap.objs.size a (.int (0:Nat) 0) 0 es.size ep:=⟨_,ij _ rfl,rfl,rfl⟩
  refine bi ⟨_,rfl,"set_iterator",_,dJ.typeIs (s:={s with heap:=_}) hit,bT.lookup,?_⟩
  refine hQ _ _ s.drawn _ [s.heap.objs.size,a] _ ((e8 w a ep es).map (·.2)) (fun b o e=>br _ e) (cb _) (fun b hb=>?_) (fun A' hA=>R1 (t:=t) (ep:=ep) hA (l5 aM)  fun hb=>?_) ⟨hE.bQ fun o e=>br _ e,0,hit,fun _=>sU ht.ris⟩
  ·simp only[lp,EO,or_false]at hb;rcases hb with rfl|rfl
   ·exact .inr (cb _)
   ·exact .inl rfl
  ·rw[hb]at mX;simpa using mX
theorem xX {a:ag}{o:l9}{es:Array (Int×al)}{ep:Nat}{t:l7}{QL:List al->ba->Prop}(hh:A.handled=none) (ho:s.heap.get? a=some o) (hex:o.ExactSet) (hd:o.data=.set es ep t) (hb:es.size<scanBound) (hf:t.fits es.size=true) (ht:bw w t) (hz:es.size<=sizeLine)
  (hQ:∀us h' d' tk,us.Perm (es.toList.map (·.2))->(∀b o,s.heap.get? b=some o->h'.get? b=some o)->QL us {s with heap:=h',drawn:=d',toks:=tk}):c8 (model P w) A (collect (.ref a)) QL E s :=by
 have aM:a<s.heap.objs.size:=kt ho;have Fe:s.heap.objs.size≠a:=Yy aM;unfold collect;refine ac (wpAny_runValue (Mc ZF ?_));rw[Go ZG _];show c8 _ A.in1 (newList []>>=fun l=>again (.builtin "list.__iadd__" ⟨[l,.ref a],[]⟩)) _ _ s
 refine ac (B0 ?_);refine bi ⟨FS Tl _,Mc aaA ?_⟩;rw[Go Tl _];have sP:(s.heap.push {cls:=.type "list",data:=.seq ([]:List al).toArray}).get? a=some o:=br _ ho
 have T1:Zo {s with heap:=s.heap.push {cls:=.type "list",data:=.seq ([]:List al).toArray}} (.ref a) "set" := ⟨o,sP,hex.1⟩
 show c8 _ A.in1 (IN (.ref s.heap.objs.size) (.ref a) (.ref s.heap.objs.size)) _ _ _;unfold IN;refine ac (ZZ T1 ?_);have h1:WA (.ref s.heap.objs.size) (.ref a)=false :=by simp[WA,Fe]
 have h2:(LG "set" == LG "list")=false :=by decide
 have h3:(LG "set" == LG "tuple")=false :=by decide
 simp only[h1,h2,h3,Bool.or_false,i4,if_false];refine ac (zR (s:={s with heap:=s.heap.push {cls:=.type "list",data:=.seq ([]:List al).toArray}}) sP hex hd hb hf ht ?_)
 intro I h' d' xs fp St hp hk hI xD hW mh;have T2:Zo {s with heap:=h',drawn:=d'} (.ref a) "set" := ⟨o,hk a o sP,hex.1⟩
 refine ac (wS (qT T2 ?_));show c8 _ A.in1 (if _=true then _ else _) _ _ _
 rw[if_pos (by kernel_rfl)]
 show c8 _ A.in1 (rule "list.extend.makes-room" >>= fun _=>wl.List.listTouch (.ref s.heap.objs.size)>>=fun _=>
  again (.builtin "list.extend.loop" ⟨[.ref s.heap.objs.size,.ref I,.ref s.heap.objs.size],[]⟩)) _ _ _
 refine ac (GS ?_);have sV:h'.get? s.heap.objs.size=some {cls:=.type "list",data:=.seq ([]:List al).toArray}:=hk _ _ (ij _ rfl)
 refine ac ?_;show c8 _ A.in1 (updateSeq s.heap.objs.size (·.push .none)>>=fun _=>updateSeq s.heap.objs.size (·.pop)) _ _ _
 refine ac (SB sV rfl ?_);have sW:=ww (Da (·.push AS)) sV rfl;refine SB sW rfl ?_;have CQ:=ww (Da (·.pop)) sW rfl;have sX:∀b o,b≠s.heap.objs.size->h'.get? b=some o->((h'.update s.heap.objs.size (Da (·.push AS))).update s.heap.objs.size (Da (·.pop))).get? b=some o:=
  fun b o hb e=>(AM _ _ (Ch hb)).trans ((AM _ _ (Ch hb)).trans e)
 have xE:(s.heap.push {cls:=.type "list",data:=.seq ([]:List al).toArray}).objs.size=s.heap.objs.size+1:=xp _ _
 have xF:s.heap.objs.size ∉ fp:=fun hm=>by
  rcases xD _ hm with z|z
  ·exact Fe z
  ·have z':s.heap.objs.size+1<=s.heap.objs.size :=by rw[<- xE];exact z
   exact absurd z' (Nat.not_succ_le_self _)
 have W:=hW A.in1.in1 (by simp[hh])
 have hl:xs.length<=sizeLine :=by rw[hp.length_eq,bn,kw];exact hz
 refine bi ⟨FS F.plain_extend_loop _,codeAny_extend_loopS (W.of_in1) hl _ xF _ xs.length 0 _ _ _ rfl (ut _) (W.frame 0 ({s with heap:=h',drawn:=d'}:ba) _ s.toks mh (cb _) fun b hb o e=>sX b o (fun h=>xF (h▸hb)) e) CQ (ItemsOf.nil _) fun s' e7 c' hm iI CT=>?_⟩
 show c8 _ A (load s.heap.objs.size>>=_) _ _ s';refine ac (aa1 iI ?_);refine bi ?_;obtain⟨h2,g2,d2,Oa,os2⟩:=s';have eg:g2=s.gens:=hm.gens;have ed:d2=d':=hm.drawn;have eo:os2=s.os:=hm.os;subst eg;subst ed;subst eo;refine hQ _ h2 _ Oa (by rw[Lk CT];exact hp) fun b o e=>hm.heap b o ?_ (sX b o (l5 (kt e)) (hk b o (br _ e)))
 have hb:b<s.heap.objs.size:=kt e;simp only[lp,EO,or_false,not_or];refine⟨l5 hb,fun z=>?_⟩
 have z':s.heap.objs.size+1<=b :=by rw[<- xE,z];exact hI
 exact absurd (sK (xz hb) z') (DD _)
end
inductive Dv where
 |int (i:Int)|bl (b:Bool)|ay|str (z:ci)|tup (xs:List Dv)|lst (xs:List Dv)|set (ns:List Int)|ptr (a:ag)|exc (C:ag)|bB (ns:List Int)|raw (v:V)|dk (ks:List Key) (ds:List Dv)|dt (ks:List (List Key)) (ds:List Dv)|dr (f:ag) (o:l9) (c:ag) (oc:l9) (vs:List V) (ds:List Dv)
inductive Mo where
 |lst (xs:List Dv)|dS|dk (ks:List Key) (ds:List Dv)|dt (ks:List (List Key)) (ds:List Dv)|ts (ks:List (List Int)) (ds:List Dv)
abbrev Mh:=ag->Option Mo
structure cX where
 g:List ag
 l:List (ag×ci)
instance:Membership ag cX:=⟨fun t a=>a∈t.g⟩
def JW:HO->Bool
 | .cV _=>true
 | .lam _=>true
 | .dK _=>true
 | .dT _=>true
 |_=>false
def FD:HO->Bool
 | .cV _=>false
 |_=>true
def C8:HO->Bool
 | .dK _=>true
 | .dT _=>true
 |_=>false
theorem Rd.map {H H':Hp}{a:ag}{u:HO}(e:Rd H a u) (k:∀x,H a=some x->H' a=some x):Rd H' a u:=e.imp (k _) fun⟨o,h⟩=>⟨o,k _ h⟩
theorem Rd.OJ {H H':Hp}{a:ag}{u:HO}(e:Rd H a u) (hu:C8 u=true) (k:∀x,FD x=true->H a=some x->H' a=some x):Rd H' a u:=e.imp (k _ (by cases u<;>first|rfl|cases hu)) fun⟨o,h⟩=>⟨o,k _ rfl h⟩
theorem Rd.there {H:Hp}{a:ag}{u:HO}(e:Rd H a u):∃x,H a=some x:=e.elim (fun h=>⟨_,h⟩) fun⟨o,h⟩=>⟨_,h⟩
def Tg (o o':HO):Prop:=(∃ps mU:Array al,o=.cV ps/\o'=.cV mU/\YZ mU.toList)\/(∃ps mU:Array al,o=.lam ps/\o'=.lam mU)\/(C8 o=true/\∃ob,o'=.gN ob o)
theorem Tg.trans {a b c:HO}(x:Tg a b) (y:Tg b c):Tg a c :=by
 rcases x with ⟨p,q,rfl,rfl,t⟩|⟨p,q,rfl,rfl⟩|⟨hd,ob,rfl⟩
 ·rcases y with ⟨p2,q2,e,rfl,t2⟩|⟨p2,q2,e,_⟩|⟨e,_⟩
  ·exact .inl ⟨p,q2,rfl,rfl,t2⟩
  ·cases e
  ·cases e
 ·rcases y with ⟨p2,q2,e,_⟩|⟨p2,q2,e,rfl⟩|⟨e,_⟩
  ·cases e
  ·exact .inr (.inl ⟨p,q2,rfl,rfl⟩)
  ·cases e
 ·rcases y with ⟨p2,q2,e,_⟩|⟨p2,q2,e,_⟩|⟨e,_⟩<;>cases e
theorem Tg.tab {a b:HO}(x:Tg a b):JW a=true :=by
 rcases x with ⟨p,q,rfl,rfl,_⟩|⟨p,q,rfl,rfl⟩|⟨hd,ob,rfl⟩
 ·rfl
 ·rfl
 ·cases a<;>first|rfl|cases hd
def U6 (H:Hp) (q:ci) (cv:al):Prop:=∃(c:ag) (oc:l9) (u:HO) (vs:Array al) (t:Zj),cv=ss c/\H c=some (.gN oc u)/\oc.data=.fields vs/\vs[1]?=some (aaP q t)
def Lm (H:Hp) (p:ag×ci):Prop:=∃ps:Array al,H p.1=some (.lam ps)/\YZ ps.toList/\∀pos cv,codeAmong pos ps.toList=some cv->U6 H p.2 cv
theorem Lm.keep {H H':Hp}{p:ag×ci}(h:Lm H p) (k1:∀ps,H p.1=some (.lam ps)->H' p.1=some (.lam ps)) (k2:∀c oc u,H c=some (.gN oc u)->H' c=some (.gN oc u)):Lm H' p :=by
 obtain⟨ps,e,t,c⟩:=h;refine⟨ps,k1 _ e,t,fun pos cv q=>?_⟩
 obtain⟨a,oc,u,vs,tk,e1,e2,r⟩:=c pos cv q;exact⟨a,oc,u,vs,tk,e1,k2 _ _ _ e2,r⟩
structure Bz where
 P:jp
 w:lf
 K:bv
 tb:cX
 hid:List ag
def Fz (β:Bz) (M:Mh) (a:ag):Prop:=M a=none/\a ∉ β.hid
def Kl (K:bv) (a:ag) (ns:List Int):Prop:=∃(o:l9) (its:Array al) (n:Nat),K.lookup a=some o/\o.cls=.type "list" /\ o.dict=none/\o.data=.seq its n/\its.size<=sizeLine/\Vals (ns.map V.int) its.toList
inductive Rz (β:Bz) (M:Mh) (H:Hp):V->Dv->Prop where
 |int (i:Int):Rz β M H (.int i) (.int i)
 |bl (b:Bool):Rz β M H (.bl b) (.bl b)
 |ay:Rz β M H .ay .ay
 |str (z:ci):Rz β M H (.str z) (.str z)
 |tup {a:ag} {vs:List V} {ds:List Dv} (m:Fz β M a) (e:H a=some (.tup vs)) (hl:vs.length=ds.length) (h:∀(i:Nat) (v:V) (d:Dv),vs[i]?=some v->ds[i]?=some d->Rz β M H v d):Rz β M H (.ref a) (.tup ds)
 |lst {a:ag} {vs:List V} {ds:List Dv} (m:Fz β M a) (e:H a=some (.lst vs)) (hl:vs.length=ds.length) (h:∀(i:Nat) (v:V) (d:Dv),vs[i]?=some v->ds[i]?=some d->Rz β M H v d):Rz β M H (.ref a) (.lst ds)
 |set {a:ag} {ns:List Int} (m:Fz β M a) (e:H a=some (ix β.P β.w a ns)):Rz β M H (.ref a) (.set ns)
 |ptr {a:ag} (m:(M a).isSome=true):Rz β M H (.ref a) (.ptr a)
 |exc {a C:ag} (m:Fz β M a) (e:H a=some (U2 C a)):Rz β M H (.ref a) (.exc C)
 |bB {a:ag} {o:l9} {ns:List Int} (m:Fz β M a) (e:H a=some (.gN o (.lst (ns.map V.int)))):Rz β M H (.ref a) (.bB ns)
 |cJ {a:ag} {ns:List Int} (m:Fz β M a) (e:H a=some (.lst (ns.map V.int))):Rz β M H (.ref a) (.bB ns)
 |cK {a:ag} {ns:List Int} (e:Kl β.K a ns):Rz β M H (.ref a) (.bB ns)
 |raw (v:V):Rz β M H v (.raw v)
 |dk {a:ag} {ks:List Key} {vs:List V} {ds:List Dv} (m:Fz β M a) (e:Rd H a (.dK (ks.zip vs))) (hk:ks.length=vs.length) (hl:vs.length=ds.length) (h:∀(i:Nat) (v:V) (d:Dv),vs[i]?=some v->ds[i]?=some d->Rz β M H v d):Rz β M H (.ref a) (.dk ks ds)
 |dt {a:ag} {ks:List (List Key)} {vs:List V} {ds:List Dv} (m:Fz β M a) (e:Rd H a (.dT (ks.zip vs))) (hk:ks.length=vs.length) (hl:vs.length=ds.length) (h:∀(i:Nat) (v:V) (d:Dv),vs[i]?=some v->ds[i]?=some d->Rz β M H v d):Rz β M H (.ref a) (.dt ks ds)
 |dr {f c:ag} {o oc:l9} {u uc:HO} {vs:List V} {ds:List Dv} (m:Fz β M f) (e:H f=some (.gN o u)) (m2:Fz β M c) (e2:H c=some (.gN oc uc)) (hl:vs.length=ds.length) (h:∀(i:Nat) (v:V) (d:Dv),vs[i]?=some v->ds[i]?=some d->Rz β M H v d):Rz β M H (.ref f) (.dr f o c oc vs ds)
structure aJ (β:Bz) (M:Mh) (H:Hp) (vs:List V) (ds:List Dv):Prop where
 len:vs.length=ds.length
 at':∀(i:Nat) (v:V) (d:Dv),vs[i]?=some v->ds[i]?=some d->Rz β M H v d
def lh:V->ag
 | .ref a=>a
 |_=>0
def jL (P:jp) (w:lf) (a:ag) (aj:List (List Int×V)):HO:=.ext fun h=>ji (Fa P w) h a (aj.map fun x=>(x.1,lh x.2))
def jM (β:Bz) (M:Mh) (H:Hp) (a:ag):Mo->Prop
 | .lst ds=>∃vs,H a=some (.lst vs)/\aJ β M H vs ds
 | .dS=>RP H a
 | .dk ks ds=>∃vs,H a=some (.dK (ks.zip vs))/\ks.length=vs.length/\aJ β M H vs ds
 | .dt ks ds=>∃vs,H a=some (.dT (ks.zip vs))/\ks.length=vs.length/\aJ β M H vs ds
 | .ts ks ds=>∃vs,H a=some (jL β.P β.w a (ks.zip vs))/\ks.length=vs.length/\aJ β M H vs ds
def pj:HO->Bool
 | .lst _=>true
 | .set _ _=>true
 | .dK _=>true
 | .dT _=>true
 | .ext _=>true
 | .cV _=>true
 |_=>false
def C9 (H:Hp) (a:ag):Prop:=∃o,H a=some o/\pj o=true
theorem C9.upd {H:Hp}{a p:ag}{o:HO}(h:C9 H a) (d:H p=none\/pj o=true):C9 (upd H p o) a :=by
 obtain⟨u,e,n⟩:=h;by_cases z:a=p
 ·subst z;rcases d with d|d
  ·rw[e]at d;cases d
  ·exact⟨o,aH,d⟩
 ·exact⟨u,by rw[ao z];exact e,n⟩
structure Mz (β:Bz) (M:Mh) (H:Hp):Prop where
 obj:∀a o,M a=some o->jM β M H a o
 tabs:JI β.tb.g H
 hids:∀a∈β.hid,C9 H a
 apart:∀a o,M a=some o->a ∉ β.hid
 lams:∀p∈β.tb.l,Lm H p
structure Ey (M:Mh) (H:Hp) (M':Mh) (H':Hp):Prop where
 keep:∀b o,M b=none->H b=some o->H' b=some o\/∃o',Tg o o'/\H' b=some o'
 dom:∀a,(M a).isSome=true->(M' a).isSome=true
 new:∀a o,M a=none->H a=some o->M' a=none
structure Ex (β:Bz) (M:Mh) (H:Hp) (M':Mh) (H':Hp):Prop extends Ey M H M' H' where
 mz:Mz β M' H'
section
variable {β:Bz}{M M1 M2:Mh}{H H1 H2:Hp}
theorem Ey.refl:Ey M H M H:=⟨fun _ _ _ h=>.inl h,fun _ h=>h,fun _ _ h _=>h⟩
theorem Ex.refl (m:Mz β M H):Ex β M H M H:=⟨.refl,m⟩
theorem Ey.trans (x:Ey M H M1 H1) (y:Ey M1 H1 M2 H2):Ey M H M2 H2 :=by
 refine⟨fun b o hm h=>?_,fun a h=>y.dom a (x.dom a h),fun a o hm h=>?_⟩
 ·have mi:=x.new b o hm h;rcases x.keep b o hm h with q|⟨o1,t,q⟩
  ·exact y.keep b o mi q
  ·rcases y.keep b _ mi q with q2|⟨o2,t2,q2⟩
   ·exact .inr ⟨o1,t,q2⟩
   ·exact .inr ⟨o2,t.trans t2,q2⟩
 ·have mi:=x.new a o hm h;rcases x.keep a o hm h with q|⟨o1,t,q⟩
  ·exact y.new a _ mi q
  ·exact y.new a _ mi q
theorem Ex.trans (x:Ex β M H M1 H1) (y:Ex β M1 H1 M2 H2):Ex β M H M2 H2:=⟨x.toEy.trans y.toEy,y.mz⟩
theorem Ey.get (x:Ey M H M1 H1) {b:ag}{o:HO}(m:M b=none) (h:H b=some o) (n:JW o=false):H1 b=some o :=by
 rcases x.keep b o m h with q|⟨o',e,_⟩
 ·exact q
 ·rw[e.tab]at n;cases n
theorem Ey.rd (x:Ey M H M1 H1) {b:ag}{u:HO}(m:M b=none) (h:Rd H b u) (hu:C8 u=true):Rd H1 b u :=by
 rcases h with h|⟨o,h⟩
 ·rcases x.keep b u m h with q|⟨o',t,q⟩
  ·exact .inl q
  ·rcases t with ⟨_,_,rfl,_⟩|⟨_,_,rfl,_⟩|⟨_,ob,rfl⟩
   ·cases hu
   ·cases hu
   ·exact .inr ⟨ob,q⟩
 ·exact .inr ⟨o,x.get m h rfl⟩
theorem Ey.gone (x:Ey M H M1 H1) {b:ag}(h:H1 b=none):M b=none->H b=none:=fun m=>by
 cases e:H b with
 |none=>rfl
 |some o=>
  rcases x.keep b o m e with q|⟨_,_,q⟩<;>(rw[h]at q;cases q)
theorem Rz.ey (x:Ey M H M1 H1) {v:V}{d:Dv}(h:Rz β M H v d):Rz β M1 H1 v d :=by
 induction h with
 |int i=>exact .int i
 |bl b=>exact .bl b
 |ay=>exact .ay
 |str z=>exact .str z
 |tup m e hl h ih=>exact .tup ⟨x.new _ _ m.1 e,m.2⟩ (x.get m.1 e rfl) hl ih
 |lst m e hl h ih=>exact .lst ⟨x.new _ _ m.1 e,m.2⟩ (x.get m.1 e rfl) hl ih
 |dk m e hk hl h ih=>exact .dk ⟨x.new _ _ m.1 e.there.choose_spec,m.2⟩ (x.rd m.1 e rfl) hk hl ih
 |dt m e hk hl h ih=>exact .dt ⟨x.new _ _ m.1 e.there.choose_spec,m.2⟩ (x.rd m.1 e rfl) hk hl ih
 |dr m e m2 e2 hl h ih=>exact .dr ⟨x.new _ _ m.1 e,m.2⟩ (x.get m.1 e rfl) ⟨x.new _ _ m2.1 e2,m2.2⟩ (x.get m2.1 e2 rfl) hl ih
 |set m e=>exact .set ⟨x.new _ _ m.1 e,m.2⟩ (x.get m.1 e rfl)
 |ptr m=>exact .ptr (x.dom _ m)
 |exc m e=>exact .exc ⟨x.new _ _ m.1 e,m.2⟩ (x.get m.1 e rfl)
 |bB m e=>exact .bB ⟨x.new _ _ m.1 e,m.2⟩ (x.get m.1 e rfl)
 |cJ m e=>exact .cJ ⟨x.new _ _ m.1 e,m.2⟩ (x.get m.1 e rfl)
 |cK e=>exact .cK e
 |raw v=>exact .raw v
theorem Rz.ex (x:Ex β M H M1 H1) {v:V}{d:Dv}(h:Rz β M H v d):Rz β M1 H1 v d:=h.ey x.toEy
theorem aJ.ex (x:Ex β M H M1 H1) {vs:List V}{ds:List Dv}(h:aJ β M H vs ds):aJ β M1 H1 vs ds:=⟨h.len,fun i v d a b=>(h.at' i v d a b).ex x⟩
theorem aJ.nil:aJ β M H [] []:=⟨rfl,fun i v d h=>by simp at h⟩
theorem aJ.cons {v:V}{d:Dv}{vs:List V}{ds:List Dv}(h:Rz β M H v d) (t:aJ β M H vs ds):aJ β M H (v::vs) (d::ds):=⟨by simp[t.len],fun i x y a b=>by
 cases i with
 |zero=>simp at a b;subst a b;exact h
 |succ i=>rw[FM]at a b;exact t.at' i x y a b⟩
theorem aJ.head {v:V}{d:Dv}{vs:List V}{ds:List Dv}(h:aJ β M H (v::vs) (d::ds)):Rz β M H v d:=h.at' 0 v d rfl rfl
theorem aJ.tail {v:V}{d:Dv}{vs:List V}{ds:List Dv}(h:aJ β M H (v::vs) (d::ds)):aJ β M H vs ds:=⟨by simpa using h.len,fun i x y a b=>h.at' (i+1) x y (by rw[FM];exact a) (by rw[FM];exact b)⟩
theorem aJ.append {vs FE:List V}{ds ds':List Dv}(h:aJ β M H vs ds) (t:aJ β M H FE ds'):aJ β M H (vs++FE) (ds++ds'):=⟨by simp[h.len,t.len],fun i x y a b=>by
 rw[Z3]at a b;rw[h.len]at a;split at b
 ·rename_i z;rw[if_pos z]at a;exact h.at' i x y a b
 ·rename_i z;rw[if_neg z]at a;exact t.at' _ x y a b⟩
theorem aJ.snoc {v:V}{d:Dv}{vs:List V}{ds:List Dv}(t:aJ β M H vs ds) (h:Rz β M H v d):aJ β M H (vs++[v]) (ds++[d]):=t.append (.cons h .nil)
theorem aJ.get {vs:List V}{ds:List Dv}(h:aJ β M H vs ds) {i:Nat}{d:Dv}(e:ds[i]?=some d):∃v,vs[i]?=some v/\Rz β M H v d :=by
 have hi:=(ca.mp e).1;have cN:i<vs.length :=by rw[h.len];exact hi
 exact⟨vs[i],ap cN,h.at' i _ _ (ap cN) e⟩
theorem aJ.get' {vs:List V}{ds:List Dv}(h:aJ β M H vs ds) {i:Nat}{v:V}(e:vs[i]?=some v):∃d,ds[i]?=some d/\Rz β M H v d :=by
 have hi:=(ca.mp e).1;have cN:i<ds.length :=by rw[<- h.len];exact hi
 exact⟨ds[i],ap cN,h.at' i _ _ e (ap cN)⟩
theorem aJ.take {vs:List V}{ds:List Dv}(h:aJ β M H vs ds) (n:Nat):aJ β M H (vs.take n) (ds.take n):=⟨by simp[h.len],fun i x y a b=>by
 rw[List.getElem?_take]at a b;split at a
 ·rename_i z;rw[if_pos z]at b;exact h.at' i x y a b
 ·cases a⟩
theorem aJ.drop {vs:List V}{ds:List Dv}(h:aJ β M H vs ds) (n:Nat):aJ β M H (vs.drop n) (ds.drop n):=⟨by simp[h.len],fun i x y a b=>by
 rw[aag]at a b;exact h.at' _ x y a b⟩
theorem aJ.set {vs:List V}{ds:List Dv}(h:aJ β M H vs ds) (n:Nat) {v:V}{d:Dv}(r:Rz β M H v d):aJ β M H (vs.set n v) (ds.set n d):=⟨by simp[h.len],fun i x y a b=>by
 rw[LM]at a b;rw[h.len]at a;split at a
 ·rename_i z;rw[if_pos z]at b;split at a
  ·rename_i z2;rw[if_pos z2]at b;cases a;cases b;exact r
  ·cases a
 ·rename_i z;rw[if_neg z]at b;exact h.at' i x y a b⟩
theorem tH {a:ag}{vs:List V}{ds:List Dv}(m:Fz β M a) (e:H a=some (.tup vs)) (h:aJ β M H vs ds):Rz β M H (.ref a) (.tup ds):=.tup m e h.len h.at'
theorem mZ {a:ag}{vs:List V}{ds:List Dv}(m:Fz β M a) (e:H a=some (.lst vs)) (h:aJ β M H vs ds):Rz β M H (.ref a) (.lst ds):=.lst m e h.len h.at'
theorem cj {v:V}{ds:List Dv}(h:Rz β M H v (.tup ds)):∃a vs,v=.ref a/\Fz β M a/\H a=some (.tup vs)/\aJ β M H vs ds :=by
 cases h with
 |tup m e hl h=>exact⟨_,_,rfl,m,e,hl,h⟩
theorem eY {v:V}{ds:List Dv}(h:Rz β M H v (.lst ds)):∃a vs,v=.ref a/\Fz β M a/\H a=some (.lst vs)/\aJ β M H vs ds :=by
 cases h with
 |lst m e hl h=>exact⟨_,_,rfl,m,e,hl,h⟩
theorem aI {v:V}{i:Int}(h:Rz β M H v (.int i)):v=.int i :=by cases h;rfl
theorem cL {v:V}{b:Bool}(h:Rz β M H v (.bl b)):v=.bl b :=by cases h;rfl
theorem bX {v:V}{z:ci}(h:Rz β M H v (.str z)):v=.str z :=by cases h;rfl
theorem jN {v:V}(h:Rz β M H v .ay):v=.ay :=by cases h;rfl
theorem FG {v u:V}(h:Rz β M H v (.raw u)):v=u :=by cases h;rfl
theorem bL {v:V}{a:ag}(h:Rz β M H v (.ptr a)):v=.ref a/\(M a).isSome=true :=by cases h with|ptr m=>exact⟨rfl,m⟩
theorem FH {v:V}{ns:List Int}(h:Rz β M H v (.set ns)):∃a,v=.ref a/\Fz β M a/\H a=some (ix β.P β.w a ns) :=by cases h with|set m e=>exact⟨_,rfl,m,e⟩
theorem vy {v:V}{ns:List Int}(h:Rz β M H v (.bB ns)):∃a,v=.ref a/\bF β.K H a (ns.map V.int) :=by
 cases h with
 |bB m e=>exact⟨_,rfl,.inl (.inr ⟨_,e⟩)⟩
 |cJ m e=>exact⟨_,rfl,.inl (.inl e)⟩
 |cK e=>exact⟨_,rfl,.inr e⟩
def uz:HO->Bool
 | .lst _=>true
 | .dK _=>true
 | .dT _=>true
 | .ext _=>true
 |_=>false
theorem Mz.own (m:Mz β M H) {a:ag}{o:Mo}(e:M a=some o):∃u,H a=some u/\uz u=true :=by
 have q:=m.obj a o e;cases o with
 |lst ds=>obtain⟨vs,q,_⟩:=q;exact⟨_,q,rfl⟩
 |dk ks ds=>obtain⟨vs,q,_⟩:=q;exact⟨_,q,rfl⟩
 |dt ks ds=>obtain⟨vs,q,_⟩:=q;exact⟨_,q,rfl⟩
 |ts ks ds=>obtain⟨vs,q,_⟩:=q;exact⟨_,q,rfl⟩
 |dS=>obtain⟨_,_,q,_⟩:=q;exact⟨_,q,rfl⟩
theorem Mz.pq (m:Mz β M H) {a:ag}{u:HO}(h:H a=some u) (n:uz u=false):M a=none :=by
 cases e:M a with
 |none=>rfl
 |some o=>obtain⟨u',q,w⟩:=m.own e;rw[h]at q;cases q;rw[n]at w;cases w
theorem Mz.R3 (m:Mz β M H) {p:ag}(hp:p∈β.tb):M p=none:=let ⟨_,h,_⟩:=m.tabs p hp;m.pq h rfl
theorem Mz.OM (m:Mz β M H) {p:ag×ci}(hp:p∈β.tb.l):M p.1=none:=let ⟨_,h,_⟩:=m.lams p hp;m.pq h rfl
theorem Mz.free (m:Mz β M H) {a:ag}(h:H a=none):M a=none :=by
 cases e:M a with
 |none=>rfl
 |some o=>obtain⟨xs,q,_⟩:=m.own e;rw[h]at q;cases q
theorem Mz.fz (m:Mz β M H) {a:ag}(h:H a=none):Fz β M a:=⟨m.free h,fun z=>by
 obtain⟨o,e,_⟩:=m.hids a z;rw[h]at e;cases e⟩
theorem Ib {p a:ag}{o:HO}(h:∃u,H a=Yv u):∃u,upd H p o a=Yv u :=by
 unfold upd;split
 ·exact⟨_,rfl⟩
 ·exact h
theorem Ex.lay (m:Mz β M H) {p:ag}(h:H p=none) (o:HO):Ex β M H M (upd H p o) :=by
 have pre:∀b u,H b=some u->upd H p o b=some u:=fun b u q=>by rw[ao (bt q h)];exact q
 have rz:∀{v:V} {d:Dv},Rz β M H v d->Rz β M (upd H p o) v d:=fun r=>by
  induction r with
  |int i=>exact .int i
  |bl b=>exact .bl b
  |ay=>exact .ay
  |str z=>exact .str z
  |tup m e hl h ih=>exact .tup m (pre _ _ e) hl ih
  |lst m e hl h ih=>exact .lst m (pre _ _ e) hl ih
  |dk m e hk hl h ih=>exact .dk m (e.map fun _ h=>pre _ _ h) hk hl ih
  |dt m e hk hl h ih=>exact .dt m (e.map fun _ h=>pre _ _ h) hk hl ih
  |dr m e m2 e2 hl h ih=>exact .dr m (pre _ _ e) m2 (pre _ _ e2) hl ih
  |set m e=>exact .set m (pre _ _ e)
  |ptr m=>exact .ptr m
  |exc m e=>exact .exc m (pre _ _ e)
  |bB m e=>exact .bB m (pre _ _ e)
  |cJ m e=>exact .cJ m (pre _ _ e)
  |cK e=>exact .cK e
  |raw v=>exact .raw v
 refine⟨⟨fun b u _ q=>.inl (pre b u q),fun _ h=>h,fun _ _ h _=>h⟩,fun a u e=>?_,fun q hq=>?_,fun a ha=>(m.hids a ha).upd (.inl h),m.apart,fun q hq=>(m.lams q hq).keep (fun _ e=>pre _ _ e) fun _ _ _ e=>pre _ _ e⟩
 ·have z:=m.obj a u e;cases u with
  |lst ds=>obtain⟨vs,z,l,r⟩:=z;exact⟨vs,pre _ _ z,l,fun i v d a b=>rz (r i v d a b)⟩
  |dk ks ds=>obtain⟨vs,z,hk,l,r⟩:=z;exact⟨vs,pre _ _ z,hk,l,fun i v d a b=>rz (r i v d a b)⟩
  |dt ks ds=>obtain⟨vs,z,hk,l,r⟩:=z;exact⟨vs,pre _ _ z,hk,l,fun i v d a b=>rz (r i v d a b)⟩
  |ts ks ds=>obtain⟨vs,z,hk,l,r⟩:=z;exact⟨vs,pre _ _ z,hk,l,fun i v d a b=>rz (r i v d a b)⟩
  |dS=>obtain⟨c,n,z,r⟩:=z;exact⟨c,n,pre _ _ z,r⟩
 ·obtain⟨ps,e,t⟩:=m.tabs q hq;exact⟨ps,pre _ _ e,t⟩
theorem Ex.grow (m:Mz β M H) {p:ag}(hp:p∈β.tb) {ps:Array al}(t:YZ ps.toList):Ex β M H M (upd H p (.cV ps)) :=by
 obtain⟨Wb,JX,t0⟩:=m.tabs p hp;have pre:∀b u,H b=some u->FD u=true->upd H p (.cV ps) b=some u:=fun b u q n=>by
  have:b≠p:=fun z=>by subst z;rw[JX]at q;cases q;cases n
  rw[ao this];exact q
 have rz:∀{v:V} {d:Dv},Rz β M H v d->Rz β M (upd H p (.cV ps)) v d:=fun r=>by
  induction r with
  |int i=>exact .int i
  |bl b=>exact .bl b
  |ay=>exact .ay
  |str z=>exact .str z
  |tup m e hl h ih=>exact .tup m (pre _ _ e rfl) hl ih
  |lst m e hl h ih=>exact .lst m (pre _ _ e rfl) hl ih
  |dk m e hk hl h ih=>exact .dk m (e.OJ rfl fun x hx h=>pre _ _ h hx) hk hl ih
  |dt m e hk hl h ih=>exact .dt m (e.OJ rfl fun x hx h=>pre _ _ h hx) hk hl ih
  |dr m e m2 e2 hl h ih=>exact .dr m (pre _ _ e rfl) m2 (pre _ _ e2 rfl) hl ih
  |set m e=>exact .set m (pre _ _ e rfl)
  |ptr m=>exact .ptr m
  |exc m e=>exact .exc m (pre _ _ e rfl)
  |bB m e=>exact .bB m (pre _ _ e rfl)
  |cJ m e=>exact .cJ m (pre _ _ e rfl)
  |cK e=>exact .cK e
  |raw v=>exact .raw v
 refine⟨⟨fun b u _ q=>?_,fun _ h=>h,fun _ _ h _=>h⟩,fun a u e=>?_,fun q hq=>?_,fun a ha=>(m.hids a ha).upd (.inr rfl),m.apart,fun q hq=>(m.lams q hq).keep (fun _ e=>pre _ _ e rfl) fun _ _ _ e=>pre _ _ e rfl⟩
 ·by_cases e:b=p
  ·subst e;rw[JX]at q;cases q;exact .inr ⟨_,.inl ⟨Wb,ps,rfl,rfl,t⟩,aH⟩
  ·exact .inl (by rw[ao e];exact q)
 ·have z:=m.obj a u e;cases u with
  |lst ds=>obtain⟨vs,z,l,r⟩:=z;exact⟨vs,pre _ _ z rfl,l,fun i v d a b=>rz (r i v d a b)⟩
  |dk ks ds=>obtain⟨vs,z,hk,l,r⟩:=z;exact⟨vs,pre _ _ z rfl,hk,l,fun i v d a b=>rz (r i v d a b)⟩
  |dt ks ds=>obtain⟨vs,z,hk,l,r⟩:=z;exact⟨vs,pre _ _ z rfl,hk,l,fun i v d a b=>rz (r i v d a b)⟩
  |ts ks ds=>obtain⟨vs,z,hk,l,r⟩:=z;exact⟨vs,pre _ _ z rfl,hk,l,fun i v d a b=>rz (r i v d a b)⟩
  |dS=>obtain⟨c,n,z,r⟩:=z;exact⟨c,n,pre _ _ z rfl,r⟩
 ·by_cases e:q=p
  ·subst e;exact⟨ps,aH,t⟩
  ·obtain⟨p2,e2,t2⟩:=m.tabs q hq;exact⟨p2,by rw[ao e];exact e2,t2⟩
def aw (M:Mh) (a:ag) (o:Mo):Mh:=fun b=>if b=a then Yv o else M b
theorem updM_same {a:ag}{o:Mo}:aw M a o a=Yv o :=by unfold aw;rw[if_pos rfl]
theorem ai {a b:ag}{o:Mo}(h:b≠a):aw M a o b=M b :=by unfold aw;rw[if_neg h]
theorem updM_updM {a:ag}{o u:Mo}:aw (aw M a o) a u=aw M a u :=by funext b;unfold aw;split<;>rfl
theorem lj {p:ag}{o:Mo}{u:HO}(hp:(M p).isSome=true\/H p=none) {v:V}{d:Dv}(h:Rz β M H v d):Rz β (aw M p o) (upd H p u) v d :=by
 have ne:∀a x,M a=none->H a=Yv x->a≠p:=fun a x m e z=>by
  subst z;rcases hp with q|q
  ·rw[m]at q;cases q
  ·rw[q]at e;cases e
 induction h with
 |int i=>exact .int i
 |bl b=>exact .bl b
 |ay=>exact .ay
 |str z=>exact .str z
 |tup m e hl h ih=>have n:=ne _ _ m.1 e;exact .tup ⟨by rw[ai n];exact m.1,m.2⟩ (by rw[ao n];exact e) hl ih
 |lst m e hl h ih=>have n:=ne _ _ m.1 e;exact .lst ⟨by rw[ai n];exact m.1,m.2⟩ (by rw[ao n];exact e) hl ih
 |dk m e hk hl h ih=>have n:=ne _ _ m.1 e.there.choose_spec;exact .dk ⟨by rw[ai n];exact m.1,m.2⟩ (e.map fun _ h=>by rw[ao n];exact h) hk hl ih
 |dt m e hk hl h ih=>have n:=ne _ _ m.1 e.there.choose_spec;exact .dt ⟨by rw[ai n];exact m.1,m.2⟩ (e.map fun _ h=>by rw[ao n];exact h) hk hl ih
 |dr m e m2 e2 hl h ih=>have n:=ne _ _ m.1 e;have n2:=ne _ _ m2.1 e2;exact .dr ⟨by rw[ai n];exact m.1,m.2⟩ (by rw[ao n];exact e) ⟨by rw[ai n2];exact m2.1,m2.2⟩ (by rw[ao n2];exact e2) hl ih
 |set m e=>have n:=ne _ _ m.1 e;exact .set ⟨by rw[ai n];exact m.1,m.2⟩ (by rw[ao n];exact e)
 |ptr m=>
  refine .ptr ?_;unfold aw;split
  ·rfl
  ·exact m
 |exc m e=>have n:=ne _ _ m.1 e;exact .exc ⟨by rw[ai n];exact m.1,m.2⟩ (by rw[ao n];exact e)
 |bB m e=>have n:=ne _ _ m.1 e;exact .bB ⟨by rw[ai n];exact m.1,m.2⟩ (by rw[ao n];exact e)
 |cJ m e=>have n:=ne _ _ m.1 e;exact .cJ ⟨by rw[ai n];exact m.1,m.2⟩ (by rw[ao n];exact e)
 |cK e=>exact .cK e
 |raw v=>exact .raw v
theorem jM.upd {p:ag}{o':Mo}{u:HO}(hp:(M p).isSome=true\/H p=none) {a:ag}{o:Mo}(ha:a≠p) (z:jM β M H a o):jM β (aw M p o') (L2.upd H p u) a o :=by
 cases o with
 |lst ds=>obtain⟨vs,z,l,r⟩:=z;exact⟨vs,by rw[ao ha];exact z,l,fun i v d a b=>lj hp (r i v d a b)⟩
 |dk ks ds=>obtain⟨vs,z,hk,l,r⟩:=z;exact⟨vs,by rw[ao ha];exact z,hk,l,fun i v d a b=>lj hp (r i v d a b)⟩
 |dt ks ds=>obtain⟨vs,z,hk,l,r⟩:=z;exact⟨vs,by rw[ao ha];exact z,hk,l,fun i v d a b=>lj hp (r i v d a b)⟩
 |ts ks ds=>obtain⟨vs,z,hk,l,r⟩:=z;exact⟨vs,by rw[ao ha];exact z,hk,l,fun i v d a b=>lj hp (r i v d a b)⟩
 |dS=>obtain⟨c,n,z,r⟩:=z;exact⟨c,n,by rw[ao ha];exact z,r⟩
theorem Ex.uz (m:Mz β M H) {p:ag}{u:HO}{o':Mo}(hp:(M p).isSome=true\/H p=none) (hu:pj u=true) (r:jM β (aw M p o') (upd H p u) p o'):Ex β M H (aw M p o') (upd H p u) :=by
 have ne:∀a x,M a=none->H a=Yv x->a≠p:=fun a x m e z=>by
  subst z;rcases hp with q|q
  ·rw[m]at q;cases q
  ·rw[q]at e;cases e
 refine⟨⟨fun b u hm q=>.inl ?_,fun a h=>?_,fun a o hm h=>?_⟩,fun a o e=>?_,fun q hq=>?_,fun a ha=>(m.hids a ha).upd (.inr hu),fun a o e z=>?_,fun q hq=>?_⟩
 ·rw[ao (ne b _ hm q)];exact q
 ·unfold aw;split
  ·rfl
  ·exact h
 ·rw[ai (ne a _ hm h)];exact hm
 ·by_cases ha:a=p
  ·subst ha;rw[updM_same]at e;cases e;exact r
  ·rw[ai ha]at e;exact(m.obj a o e).upd hp ha
 ·obtain⟨ps,e,t⟩:=m.tabs q hq;exact⟨ps,by rw[ao (ne q _ (m.R3 hq) e)];exact e,t⟩
 ·by_cases ha:a=p
  ·subst ha;rcases hp with h|h
   ·cases q:M a with
    |none=>rw[q]at h;cases h
    |some u=>exact m.apart a u q z
   ·obtain⟨u,hu,_⟩:=m.hids a z;rw[h]at hu;cases hu
  ·rw[ai ha]at e;exact m.apart a o e z
 ·exact(m.lams q hq).keep (fun _ e=>by rw[ao (ne q.1 _ (m.OM hq) e)];exact e) fun c _ _ e=>by rw[ao (ne c _ (m.pq e rfl) e)];exact e
theorem Ex.own (m:Mz β M H) {p:ag}{vs:List V}{ds:List Dv}(hp:(M p).isSome=true\/H p=none) (r:aJ β M H vs ds):Ex β M H (aw M p (.lst ds)) (upd H p (.lst vs)):=
 Ex.uz m hp rfl ⟨vs,aH,r.len,fun i v d a b=>lj hp (r.at' i v d a b)⟩
theorem Ex.U7 (m:Mz β M H) {p:ag}{ks:List Key}{vs:List V}{ds:List Dv}(hp:(M p).isSome=true\/H p=none) (hk:ks.length=vs.length) (r:aJ β M H vs ds):Ex β M H (aw M p (.dk ks ds)) (upd H p (.dK (ks.zip vs))):=
 Ex.uz m hp rfl ⟨vs,aH,hk,r.len,fun i v d a b=>lj hp (r.at' i v d a b)⟩
theorem Ex.Ic (m:Mz β M H) {p:ag}{ks:List (List Key)}{vs:List V}{ds:List Dv}(hp:(M p).isSome=true\/H p=none) (hk:ks.length=vs.length) (r:aJ β M H vs ds):Ex β M H (aw M p (.dt ks ds)) (upd H p (.dT (ks.zip vs))):=
 Ex.uz m hp rfl ⟨vs,aH,hk,r.len,fun i v d a b=>lj hp (r.at' i v d a b)⟩
abbrev Bz.add (β:Bz) (D:ag):Bz:={β with hid:=D::β.hid}
theorem Rz.enter {D:ag}{o:HO}(hD:H D=none) {v:V}{d:Dv}(h:Rz β M H v d):Rz (β.add D) M (upd H D o) v d :=by
 have ne:∀a x,Fz β M a->H a=some x->Fz (β.add D) M a:=fun a x m e=>⟨m.1,by
  intro z;rcases lp.mp z with z|z
  ·subst z;rw[hD]at e;cases e
  ·exact m.2 z⟩
 have pre:∀a x,H a=some x->upd H D o a=some x:=fun a x e=>by rw[ao (bt e hD)];exact e
 induction h with
 |int i=>exact .int i
 |bl b=>exact .bl b
 |ay=>exact .ay
 |str z=>exact .str z
 |tup m e hl h ih=>exact .tup (ne _ _ m e) (pre _ _ e) hl ih
 |lst m e hl h ih=>exact .lst (ne _ _ m e) (pre _ _ e) hl ih
 |dk m e hk hl h ih=>exact .dk (ne _ _ m e.there.choose_spec) (e.map fun _ h=>pre _ _ h) hk hl ih
 |dt m e hk hl h ih=>exact .dt (ne _ _ m e.there.choose_spec) (e.map fun _ h=>pre _ _ h) hk hl ih
 |dr m e m2 e2 hl h ih=>exact .dr (ne _ _ m e) (pre _ _ e) (ne _ _ m2 e2) (pre _ _ e2) hl ih
 |set m e=>exact .set (ne _ _ m e) (pre _ _ e)
 |ptr m=>exact .ptr m
 |exc m e=>exact .exc (ne _ _ m e) (pre _ _ e)
 |bB m e=>exact .bB (ne _ _ m e) (pre _ _ e)
 |cJ m e=>exact .cJ (ne _ _ m e) (pre _ _ e)
 |cK e=>exact .cK e
 |raw v=>exact .raw v
theorem Rz.sub {cO:Bz}(hP:cO.P=β.P) (hw:cO.w=β.w) (hK:cO.K=β.K) (hs:∀a,a∈cO.hid->a∈β.hid) {v:V}{d:Dv}(h:Rz β M H v d):Rz cO M H v d :=by
 have ne:∀a,Fz β M a->Fz cO M a:=fun a m=>⟨m.1,fun z=>m.2 (hs a z)⟩
 induction h with
 |int i=>exact .int i
 |bl b=>exact .bl b
 |ay=>exact .ay
 |str z=>exact .str z
 |tup m e hl h ih=>exact .tup (ne _ m) e hl ih
 |lst m e hl h ih=>exact .lst (ne _ m) e hl ih
 |dk m e hk hl h ih=>exact .dk (ne _ m) e hk hl ih
 |dt m e hk hl h ih=>exact .dt (ne _ m) e hk hl ih
 |dr m e m2 e2 hl h ih=>exact .dr (ne _ m) e (ne _ m2) e2 hl ih
 |set m e=>exact .set (ne _ m) (by rw[hP,hw];exact e)
 |ptr m=>exact .ptr m
 |exc m e=>exact .exc (ne _ m) e
 |bB m e=>exact .bB (ne _ m) e
 |cJ m e=>exact .cJ (ne _ m) e
 |cK e=>exact .cK (by rw[hK];exact e)
 |raw v=>exact .raw v
theorem Mz.sub {cO:Bz}(hP:cO.P=β.P) (hw:cO.w=β.w) (hK:cO.K=β.K) (ht:cO.tb=β.tb) (hs:∀a,a∈cO.hid->a∈β.hid) (m:Mz β M H):Mz cO M H:=⟨fun a o e=>by
 have z:=m.obj a o e;cases o with
 |lst ds=>obtain⟨vs,z,l,r⟩:=z;exact⟨vs,z,l,fun i v d a b=>(r i v d a b).sub hP hw hK hs⟩
 |dk ks ds=>obtain⟨vs,z,hk,l,r⟩:=z;exact⟨vs,z,hk,l,fun i v d a b=>(r i v d a b).sub hP hw hK hs⟩
 |dt ks ds=>obtain⟨vs,z,hk,l,r⟩:=z;exact⟨vs,z,hk,l,fun i v d a b=>(r i v d a b).sub hP hw hK hs⟩
 |ts ks ds=>obtain⟨vs,z,hk,l,r⟩:=z;exact⟨vs,by rw[hP,hw];exact z,hk,l,fun i v d a b=>(r i v d a b).sub hP hw hK hs⟩
 |dS=>exact z,by rw[ht];exact m.tabs,fun a ha=>m.hids a (hs a ha),fun a o e z=>m.apart a o e (hs a z),by rw[ht];exact m.lams⟩
theorem Mz.enter {D:ag}{o:HO}(hD:H D=none) (ho:pj o=true) (m:Mz β M H):Mz (β.add D) M (upd H D o):=⟨fun a u e=>by
 have pre:∀a x,H a=Yv x->upd H D o a=Yv x:=fun a x e=>by rw[ao (bt e hD)];exact e
 have z:=m.obj a u e;cases u with
 |lst ds=>obtain⟨vs,z,l,r⟩:=z;exact⟨vs,pre _ _ z,l,fun i v d a b=>(r i v d a b).enter hD⟩
 |dk ks ds=>obtain⟨vs,z,hk,l,r⟩:=z;exact⟨vs,pre _ _ z,hk,l,fun i v d a b=>(r i v d a b).enter hD⟩
 |dt ks ds=>obtain⟨vs,z,hk,l,r⟩:=z;exact⟨vs,pre _ _ z,hk,l,fun i v d a b=>(r i v d a b).enter hD⟩
 |ts ks ds=>obtain⟨vs,z,hk,l,r⟩:=z;exact⟨vs,pre _ _ z,hk,l,fun i v d a b=>(r i v d a b).enter hD⟩
 |dS=>obtain⟨c,n,z,r⟩:=z;exact⟨c,n,pre _ _ z,r⟩,fun p hp=>by
 obtain⟨ps,e,t⟩:=m.tabs p hp;exact⟨ps,by rw[ao (bt e hD)];exact e,t⟩,fun a ha=>by
 rcases lp.mp ha with z|z
 ·subst z;exact⟨_,aH,ho⟩
 ·exact(m.hids a z).upd (.inl hD),fun a o e ha=>by
 rcases lp.mp ha with z|z
 ·subst z;rw[m.free hD]at e;cases e
 ·exact m.apart a o e z,fun q hq=>(m.lams q hq).keep (fun _ e=>by rw[ao (bt e hD)];exact e) fun _ _ _ e=>by rw[ao (bt e hD)];exact e⟩
theorem Rz.over {D:ag}{o:HO}(hD:D∈β.hid) {v:V}{d:Dv}(h:Rz β M H v d):Rz β M (upd H D o) v d :=by
 have pre:∀a x,Fz β M a->H a=some x->upd H D o a=some x:=fun a x m e=>by
  have n:a≠D:=fun z=>by subst z;exact m.2 hD
  rw[ao n];exact e
 induction h with
 |int i=>exact .int i
 |bl b=>exact .bl b
 |ay=>exact .ay
 |str z=>exact .str z
 |tup m e hl h ih=>exact .tup m (pre _ _ m e) hl ih
 |lst m e hl h ih=>exact .lst m (pre _ _ m e) hl ih
 |dk m e hk hl h ih=>exact .dk m (e.map fun _ h=>pre _ _ m h) hk hl ih
 |dt m e hk hl h ih=>exact .dt m (e.map fun _ h=>pre _ _ m h) hk hl ih
 |dr m e m2 e2 hl h ih=>exact .dr m (pre _ _ m e) m2 (pre _ _ m2 e2) hl ih
 |set m e=>exact .set m (pre _ _ m e)
 |ptr m=>exact .ptr m
 |exc m e=>exact .exc m (pre _ _ m e)
 |bB m e=>exact .bB m (pre _ _ m e)
 |cJ m e=>exact .cJ m (pre _ _ m e)
 |cK e=>exact .cK e
 |raw v=>exact .raw v
theorem Mz.over {D:ag}{o:HO}(hD:D∈β.hid) (ho:pj o=true) (hM:M D=none) (ht:D ∉ β.tb) (m:Mz β M H):Mz β M (upd H D o):=⟨fun a u e=>by
 have na:a≠D:=fun z=>by subst z;rw[hM]at e;cases e
 have z:=m.obj a u e;cases u with
 |lst ds=>obtain⟨vs,z,l,r⟩:=z;exact⟨vs,by rw[ao na];exact z,l,fun i v d a b=>(r i v d a b).over hD⟩
 |dk ks ds=>obtain⟨vs,z,hk,l,r⟩:=z;exact⟨vs,by rw[ao na];exact z,hk,l,fun i v d a b=>(r i v d a b).over hD⟩
 |dt ks ds=>obtain⟨vs,z,hk,l,r⟩:=z;exact⟨vs,by rw[ao na];exact z,hk,l,fun i v d a b=>(r i v d a b).over hD⟩
 |ts ks ds=>obtain⟨vs,z,hk,l,r⟩:=z;exact⟨vs,by rw[ao na];exact z,hk,l,fun i v d a b=>(r i v d a b).over hD⟩
 |dS=>obtain⟨c,n,z,r⟩:=z;exact⟨c,n,by rw[ao na];exact z,r⟩,fun p hp=>by
 obtain⟨ps,e,t⟩:=m.tabs p hp;have n:p≠D:=fun z=>by subst z;exact ht hp
 exact⟨ps,by rw[ao n];exact e,t⟩,fun a ha=>(m.hids a ha).upd (.inr ho),m.apart,fun q hq=>by
 obtain⟨o',e',n⟩:=m.hids D hD;exact(m.lams q hq).keep (fun _ e=>by rw[ao (fun z=>by subst z;rw[e']at e;cases e;cases n)];exact e) fun c _ _ e=>by rw[ao (fun z=>by subst z;rw[e']at e;cases e;cases n)];exact e⟩
theorem Ey.over {D:ag}{o:HO}(x:Ey M H M1 H1) (hD:H D=none):Ey M H M1 (upd H1 D o):=⟨fun b u m h=>by
 have nb:b≠D:=bt h hD;rw[ao nb];exact x.keep b u m h,x.dom,x.new⟩
theorem Mz.Dc {D:ag}(m:Mz β M H) (hD:H D=none):D ∉ β.tb:=fun z=>by
 obtain⟨_,e,_⟩:=m.tabs D z;rw[hD]at e;cases e
structure Bx (β cO:Bz) (H:Hp):Prop where
 P:cO.P=β.P
 w:cO.w=β.w
 K:cO.K=β.K
 tb:cO.tb=β.tb
 old:∀a,a∈β.hid->a∈cO.hid
 new:∀a,a∈cO.hid->a∈β.hid\/H a=none
theorem Bx.refl:Bx β β H:=⟨rfl,rfl,rfl,rfl,fun _ h=>h,fun _ h=>.inl h⟩
theorem Bx.add {D:ag}(hD:H D=none):Bx β (β.add D) H:=⟨rfl,rfl,rfl,rfl,fun _ h=>db _ h,fun a h=>by
 rcases lp.mp h with z|z
 ·exact .inr (z▸hD)
 ·exact .inl z⟩
theorem Rz.bx {cO:Bz}(b:Bx β cO H) {v:V}{d:Dv}(h:Rz β M H v d):Rz cO M H v d :=by
 have ne:∀a x,Fz β M a->H a=some x->Fz cO M a:=fun a x m e=>⟨m.1,fun z=>by
  rcases b.new a z with q|q
  ·exact m.2 q
  ·rw[q]at e;cases e⟩
 induction h with
 |int i=>exact .int i
 |bl b=>exact .bl b
 |ay=>exact .ay
 |str z=>exact .str z
 |tup m e hl h ih=>exact .tup (ne _ _ m e) e hl ih
 |lst m e hl h ih=>exact .lst (ne _ _ m e) e hl ih
 |dk m e hk hl h ih=>exact .dk (ne _ _ m e.there.choose_spec) e hk hl ih
 |dt m e hk hl h ih=>exact .dt (ne _ _ m e.there.choose_spec) e hk hl ih
 |dr m e m2 e2 hl h ih=>exact .dr (ne _ _ m e) e (ne _ _ m2 e2) e2 hl ih
 |set m e=>exact .set (ne _ _ m e) (by rw[b.P,b.w];exact e)
 |ptr m=>exact .ptr m
 |exc m e=>exact .exc (ne _ _ m e) e
 |bB m e=>exact .bB (ne _ _ m e) e
 |cJ m e=>exact .cJ (ne _ _ m e) e
 |cK e=>exact .cK (by rw[b.K];exact e)
 |raw v=>exact .raw v
end
inductive Pin (M:Mh):Dv->Prop where
 |int (i:Int):Pin M (.int i)
 |bl (b:Bool):Pin M (.bl b)
 |ay:Pin M .ay
 |str (z:ci):Pin M (.str z)
 |tup {ds:List Dv} (h:∀d∈ds,Pin M d):Pin M (.tup ds)
 |lst {ds:List Dv} (h:∀d∈ds,Pin M d):Pin M (.lst ds)
 |set (ns:List Int):Pin M (.set ns)
 |ptr {a:ag} (h:(M a).isSome=true):Pin M (.ptr a)
 |exc (C:ag):Pin M (.exc C)
 |bB (ns:List Int):Pin M (.bB ns)
 |raw (v:V):Pin M (.raw v)
 |dk {ks:List Key} {ds:List Dv} (h:∀d∈ds,Pin M d):Pin M (.dk ks ds)
 |dt {ks:List (List Key)} {ds:List Dv} (h:∀d∈ds,Pin M d):Pin M (.dt ks ds)
 |dr {f c:ag} {o oc:l9} {vs:List V} {ds:List Dv} (h:∀d∈ds,Pin M d):Pin M (.dr f o c oc vs ds)
theorem Rz.pin {β:Bz}{M:Mh}{H:Hp}{v:V}{d:Dv}(h:Rz β M H v d):Pin M d :=by
 induction h with
 |int i=>exact .int i
 |bl b=>exact .bl b
 |ay=>exact .ay
 |str z=>exact .str z
 |tup m e hl h ih=>
  refine .tup fun d hd=>?_
  obtain⟨i,hi⟩:=nw.mp hd;have h1:=(ca.mp hi).1;exact ih i _ d (ap (by omega)) hi
 |lst m e hl h ih=>
  refine .lst fun d hd=>?_
  obtain⟨i,hi⟩:=nw.mp hd;have h1:=(ca.mp hi).1;exact ih i _ d (ap (by omega)) hi
 |dk m e hk hl h ih=>
  refine .dk fun d hd=>?_
  obtain⟨i,hi⟩:=nw.mp hd;have h1:=(ca.mp hi).1;exact ih i _ d (ap (by omega)) hi
 |dt m e hk hl h ih=>
  refine .dt fun d hd=>?_
  obtain⟨i,hi⟩:=nw.mp hd;have h1:=(ca.mp hi).1;exact ih i _ d (ap (by omega)) hi
 |dr m e m2 e2 hl h ih=>
  refine .dr fun d hd=>?_
  obtain⟨i,hi⟩:=nw.mp hd;have h1:=(ca.mp hi).1;exact ih i _ d (ap (by omega)) hi
 |set m e=>exact .set _
 |ptr m=>exact .ptr m
 |exc m e=>exact .exc _
 |bB m e=>exact .bB _
 |cJ m e=>exact .bB _
 |cK e=>exact .bB _
 |raw v=>exact .raw v
def Mo.items:Mo->List Dv
 | .lst ds=>ds
 | .dk _ ds=>ds
 | .dt _ ds=>ds
 | .ts _ ds=>ds
 | .dS=>[]
def Wf (M:Mh):Prop:=∀b o,M b=some o->∀d∈o.items,Pin M d
theorem jM.Wc {β:Bz}{M:Mh}{H:Hp}{a:ag}{o:Mo}(h:jM β M H a o):∃vs,aJ β M H vs o.items :=by
 cases o with
 |lst ds=>obtain⟨vs,_,rs⟩:=h;exact⟨vs,rs⟩
 |dk ks ds=>obtain⟨vs,_,_,rs⟩:=h;exact⟨vs,rs⟩
 |dt ks ds=>obtain⟨vs,_,_,rs⟩:=h;exact⟨vs,rs⟩
 |ts ks ds=>obtain⟨vs,_,_,rs⟩:=h;exact⟨vs,rs⟩
 |dS=>exact⟨[],.nil⟩
theorem Mz.wf {β:Bz}{M:Mh}{H:Hp}(m:Mz β M H):Wf M:=fun b o e d hd=>by
 obtain⟨vs,rs⟩:=(m.obj b _ e).Wc;obtain⟨i,hi⟩:=nw.mp hd;obtain⟨v,_,r⟩:=rs.get hi;exact r.pin
abbrev aA:=List (Option Dv)
abbrev ZK:=Dv->Mh->Prop
abbrev aE:=aA->Mh->ZK->Prop
abbrev ck:=aA->Mh->(Bool->Mh->Prop)->Prop
abbrev gh:=aA->Mh->(List Dv->Mh->Prop)->Prop
structure ib where
 nx:aA->Mh->Prop
 rt:ZK
 bk:aA->Mh->Prop:=fun _ _=>False
 ct:aA->Mh->Prop:=fun _ _=>False
abbrev cI:=ib->aA->Mh->Prop
abbrev bP:=Dv->aA->Mh->(aA->Mh->Prop)->Prop
abbrev ef:=aA->Mh->(List Dv->Mh->Prop)->Prop
structure Gz extends Bz where
 M0:Mh
 H0:Hp
structure Zr (Γ:Gz) (β:Bz) (M:Mh) (ρ:aA) (σ:St) (H:Hp):Prop where
 eP:β.P=Γ.P
 ew:β.w=Γ.w
 eK:β.K=Γ.K
 et:β.tb=Γ.tb
 sub:∀a,a∈Γ.hid->a∈β.hid
 wf:Wf Γ.M0
 ent:Ey Γ.M0 Γ.H0 M H
 mz:Mz β M H
 len:ρ.length=σ.length
 at':∀(i:Nat) (d:Dv),ρ[i]?=some (some d)->∃v,σ[i]?=some (some v)/\Rz β M H v d
section
variable {Γ:Gz}{β:Bz}{M M':Mh}{ρ:aA}{σ:St}{H H':Hp}
theorem Zr.step (z:Zr Γ β M ρ σ H) (x:Ex β M H M' H'):Zr Γ β M' ρ σ H':=⟨z.eP,z.ew,z.eK,z.et,z.sub,z.wf,z.ent.trans x.toEy,x.mz,z.len,fun i d e=>let ⟨v,h,r⟩:=z.at' i d e;⟨v,h,r.ex x⟩⟩
theorem Zr.set (z:Zr Γ β M ρ σ H) (i:Nat) {v:V}{d:Dv}(r:Rz β M H v d):Zr Γ β M (ρ.set i (some d)) (σ.set i (some v)) H:=⟨z.eP,z.ew,z.eK,z.et,z.sub,z.wf,z.ent,z.mz,by simp[z.len],fun j e h=>by
 rw[LM]at h ⊢;rw[z.len]at h;split at h
 ·rename_i q;rw[if_pos q];split at h
  ·rename_i q2;rw[if_pos q2];cases h;exact⟨v,rfl,r⟩
  ·cases h
 ·rename_i q;rw[if_neg q];exact z.at' j e h⟩
end
def lE (Γ:Gz) (p:aE):TE:=fun σ H Q=>∃(β:Bz) (ρ:aA) (M:Mh) (Q':ZK),Zr Γ β M ρ σ H/\p ρ M Q'/\∀d M' v H',Ex β M H M' H'->Rz β M' H' v d->Q' d M'->Q v H'
def lT (Γ:Gz) (p:ck):TT:=fun σ H Q=>∃(β:Bz) (ρ:aA) (M:Mh) (Q':Bool->Mh->Prop),Zr Γ β M ρ σ H/\p ρ M Q'/\∀b M' H',Ex β M H M' H'->Q' b M'->Q b H'
def lA (Γ:Gz) (p:gh):TA:=fun σ H Q=>∃(β:Bz) (ρ:aA) (M:Mh) (Q':List Dv->Mh->Prop),Zr Γ β M ρ σ H/\p ρ M Q'/\∀ds M' vs H',Ex β M H M' H'->aJ β M' H' vs ds->Q' ds M'->Q vs H'
structure Ev (β:Bz) (M:Mh) (H:Hp) (M':Mh) (H':Hp):Prop where
 keep:∀b o,M b=none->H b=some o->H' b=some o\/∃o',Tg o o'/\H' b=some o'
 new:∀a o,M a=none->H a=some o->M' a=none
 mz:Mz β M' H'
theorem Ex.ev {β:Bz}{M M':Mh}{H H':Hp}(x:Ex β M H M' H'):Ev β M H M' H':=⟨x.keep,x.new,x.mz⟩
theorem Ev.refl {β:Bz}{M:Mh}{H:Hp}(m:Mz β M H):Ev β M H M H:=(Ex.refl m).ev
theorem Ev.trans {β:Bz}{M M1 M2:Mh}{H H1 H2:Hp}(x:Ev β M H M1 H1) (y:Ev β M1 H1 M2 H2):Ev β M H M2 H2 :=by
 refine⟨fun b o hm h=>?_,fun a o hm h=>?_,y.mz⟩
 ·have mi:=x.new b o hm h;rcases x.keep b o hm h with q|⟨o1,t,q⟩
  ·exact y.keep b o mi q
  ·rcases y.keep b _ mi q with q2|⟨o2,t2,q2⟩
   ·exact .inr ⟨o1,t,q2⟩
   ·exact .inr ⟨o2,t.trans t2,q2⟩
 ·have mi:=x.new a o hm h;rcases x.keep a o hm h with q|⟨o1,t,q⟩
  ·exact y.new a _ mi q
  ·exact y.new a _ mi q
structure Dd (Γ:Gz) (β:Bz) (M:Mh) (H:Hp) (D':ib) (D:Ends):Prop where
 nx:∀cY M' aO H',Ev β M H M' H'->Zr Γ β M' cY aO H'->D'.nx cY M'->D.nx aO H'
 rt:∀d M' v H',Ev β M H M' H'->Ey Γ.M0 Γ.H0 M' H'->Rz β M' H' v d->D'.rt d M'->D.rt v H'
 bk:∀cY M' aO H',Ev β M H M' H'->Zr Γ β M' cY aO H'->D'.bk cY M'->D.bk aO H'
 ct:∀cY M' aO H',Ev β M H M' H'->Zr Γ β M' cY aO H'->D'.ct cY M'->D.ct aO H'
theorem Dd.step {Γ:Gz}{β:Bz}{M M1:Mh}{H H1:Hp}{D':ib}{D:Ends}(r:Dd Γ β M H D' D) (x:Ev β M H M1 H1):Dd Γ β M1 H1 D' D:=
 ⟨fun a b c d y=>r.nx a b c d (x.trans y),fun a b c d y=>r.rt a b c d (x.trans y),fun a b c d y=>r.bk a b c d (x.trans y),fun a b c d y=>r.ct a b c d (x.trans y)⟩
def lS (Γ:Gz) (p:cI):TS:=fun D σ H=>∃(β:Bz) (ρ:aA) (M:Mh) (D':ib),Zr Γ β M ρ σ H/\p D' ρ M/\Dd Γ β M H D' D
def lG (Γ:Gz) (p:bP):TG:=fun x σ H N=>∃(β:Bz) (d:Dv) (ρ:aA) (M:Mh) (N':aA->Mh->Prop),Zr Γ β M ρ σ H/\Rz β M H x d/\p d ρ M N'/\∀cY M' aO H',Ex β M H M' H'->Zr Γ β M' cY aO H'->N' cY M'->N aO H'
def FI (β:Bz) (J:It) (ds:List Dv) (M:Mh) (H:Hp):Prop:=∀cO M' H',Bx β cO H->Ey M H M' H'->Mz cO M' H'->∀i,(i<ds.length->J.go i H'/\∀x jO,J.yld i H' x jO->Ex cO M' H' M' jO/\∃d,ds[i]?=some d/\Rz cO M' jO x d)/\(ds.length<=i->J.stop i H')
def lI (Γ:Gz) (p:ef):TI:=fun σ H R=>∃(β:Bz) (ρ:aA) (M:Mh) (R':List Dv->Mh->Prop),Zr Γ β M ρ σ H/\p ρ M R'/\∀ds M' H' J,Ex β M H M' H'->FI β J ds M' H'->R' ds M'->R J H'
abbrev QE (Γ:Gz) (X:Cx) (e:io) (p:aE):Prop:=PE X e (lE Γ p)
abbrev QT (Γ:Gz) (X:Cx) (e:io) (p:ck):Prop:=PT X e (lT Γ p)
abbrev QW (Γ:Gz) (X:Cx) (e:io) (p:ck):Prop:=PW X e (lT Γ p)
abbrev QA (Γ:Gz) (X:Cx) (es:List io) (p:gh):Prop:=PA X es (lA Γ p)
abbrev QS (Γ:Gz) (X:Cx) (s:wE) (p:cI):Prop:=PS X s (lS Γ p)
abbrev px (Γ:Gz) (X:Cx) (s:List wE) (p:cI):Prop:=iG X s (lS Γ p)
abbrev QG (Γ:Gz) (X:Cx) (e:io) (p:bP):Prop:=PG X e (lG Γ p)
abbrev QI (Γ:Gz) (X:Cx) (tg e:io) (p:ef):Prop:=PI X tg e (lI Γ p)
section
variable {X:Cx}
theorem PE.imp {e:io}{t t':TE}(h:PE X e t) (i:∀σ H Q,t' σ H Q->t σ H Q):PE X e t':=⟨fun pins s σ H Q I q=>h pins s σ H Q I (i _ _ _ q)⟩
theorem PT.imp {e:io}{t t':TT}(h:PT X e t) (i:∀σ H Q,t' σ H Q->t σ H Q):PT X e t':=⟨fun pins s σ H Q I q=>h pins s σ H Q I (i _ _ _ q)⟩
theorem PW.imp {e:io}{t t':TT}(h:PW X e t) (i:∀σ H Q,t' σ H Q->t σ H Q):PW X e t':=fun wh pins s σ H Q I q=>h wh pins s σ H Q I (i _ _ _ q)
theorem PA.imp {e:List io}{t t':TA}(h:PA X e t) (i:∀σ H Q,t' σ H Q->t σ H Q):PA X e t':=⟨fun pos pins s σ H Q I q=>h pos pins s σ H Q I (i _ _ _ q)⟩
theorem PS.imp {e:wE}{t t':TS}(h:PS X e t) (i:∀D σ H,t' D σ H->t D σ H):PS X e t':=⟨fun pins s σ H D I q=>h pins s σ H D I (i _ _ _ q)⟩
theorem iG.imp {e:List wE}{t t':TS}(h:iG X e t) (i:∀D σ H,t' D σ H->t D σ H):iG X e t':=⟨fun pins s σ H D I q=>h pins s σ H D I (i _ _ _ q)⟩
theorem PG.imp {e:io}{t t':TG}(h:PG X e t) (i:∀v σ H Q,t' v σ H Q->t v σ H Q):PG X e t':=fun pins s σ H v u Q I r q=>h pins s σ H v u Q I r (i _ _ _ _ q)
theorem PI.imp {tg e:io}{t t':TI}(h:PI X tg e t) (i:∀σ H Q,t' σ H Q->t σ H Q):PI X tg e t':=fun pins s σ H Q I q=>h pins s σ H Q I (i _ _ _ q)
theorem fO.imp {e:List io}{t t':TT}(h:fO X e t) (i:∀σ H Q,t' σ H Q->t σ H Q):fO X e t':=fun pins s σ H Q I q=>h pins s σ H Q I (i _ _ _ q)
variable {Γ:Gz}{a b c:io}{pa pb pc:aE}{pos:wv}
def zVar (i:Nat):aE:=fun ρ M Q=>match ρ[i]? with|some (some d)=>Q d M|_=>False
def zC (d:Dv):aE:=fun _ M Q=>Q d M
theorem OO {i:Nat}{x:ci}(hN:X.N[i]?=some x) (hv:uV X.env.scope x) (hd:(x==("__debug__" : ci))=false :=by decide) (iN:(x==("__classdict__" : ci))=false :=by decide):QE Γ X (.Name x pos) (zVar i):=
 (Ed hN hv hd iN).imp fun σ H Q ⟨β,ρ,M,Q',z,h,q⟩=>by
  unfold zVar at h;split at h
  ·rename_i d e;obtain⟨v,e2,r⟩:=z.at' i d e;exact⟨v,e2,q d M v H (.refl z.mz) r h⟩
  ·exact h.elim
theorem qc {e:io}{v:V}{d:Dv}(h:PE X e (tC v)) (r:∀β M H,Rz β M H v d):QE Γ X e (zC d):=h.imp fun σ H Q ⟨β,ρ,M,Q',z,h,q⟩=>q d M v H (.refl z.mz) (r β M H) h
theorem ax {i j pos}:QE Γ X (.Constant (.int i) j pos) (zC (.int i)):=qc MI fun _ _ _=>.int _
theorem mj {b j pos}:QE Γ X (.Constant (.bool b) j pos) (zC (.bl b)):=qc Rn fun _ _ _=>.bl _
theorem xY {x j pos}:QE Γ X (.Constant (.str x) j pos) (zC (.str x)):=qc MJ fun _ _ _=>.str _
theorem Ie {x:ci}{i:Int}{u:al}(hg:Gl X x) (hm:X.mg x=some u) (r:RelV (.int i) u) (hd:(x==("__debug__" : ci))=false :=by decide):QE Γ X (.Name x pos) (zC (.int i)):=qc (AH hg hm r hd) fun _ _ _=>.int _
theorem xZ {x z:ci}{u:al}(hg:Gl X x) (hm:X.mg x=some u) (r:RelV (.str z) u) (hd:(x==("__debug__" : ci))=false :=by decide):QE Γ X (.Name x pos) (zC (.str z)):=qc (AH hg hm r hd) fun _ _ _=>.str _
theorem m4 {x:ci}{v:V}{u:al}(hg:Gl X x) (hm:X.mg x=none) (hv:zd x=some u) (r:RelV v u) (hn:x ≠ "__name__" := by decide) (hd:(x==("__debug__" : ci))=false :=by decide):QE Γ X (.Name x pos) (zC (.raw v)):=qc (KI hg hm hv r hn hd) fun _ _ _=>.raw _
abbrev eZ:=Dv->Dv->Mh->ZK->Prop
def qX (Γ:Gz) (r:R2) (z:eZ):Prop:=∀(β:Bz) x y d e M H Q Q',β.P=Γ.P->β.w=Γ.w->β.K=Γ.K->Mz β M H->Rz β M H x d->Rz β M H y e->z d e M Q'->(∀d' M' v H',Ex β M H M' H'->Rz β M' H' v d'->Q' d' M'->Q v H')->r x y H Q
def fP (Γ:Gz) (X:Cx) (f:al->al->YS al) (z:eZ):Prop:=∃r,OpR X f r/\qX Γ r z
def zOp (z:eZ) (pa pb:aE):aE:=fun ρ M Q=>pa ρ M fun d M1=>pb ρ M1 fun e M2=>z d e M2 Q
theorem De {r:R2}{z:eZ}(hz:qX Γ r z) {σ:St}{H:Hp}{Q:VK}(h:lE Γ (zOp z pa pb) σ H Q):Em r (lE Γ pa) (lE Γ pb) σ H Q :=by
 obtain⟨β,ρ,M,Q',zr,h,q⟩:=h;exact⟨β,ρ,M,_,zr,h,fun d M1 v H1 x1 r1 h1=>⟨β,ρ,M1,_,zr.step x1,h1,fun e M2 u H2 x2 r2 h2=>hz β v u d e M2 H2 Q Q' zr.eP zr.ew zr.eK x2.mz (r1.ex x2) r2 h2 fun d' M' v' H' x3 r3 q3=>q _ _ _ _ (x1.trans (x2.trans x3)) r3 q3⟩⟩
theorem a8 {op:Operator}{z:eZ}(ho:fP Γ X (binaryOp op) z) (ha:QE Γ X a pa) (hb:QE Γ X b pb):QE Γ X (.BinOp a op b pos) (zOp z pa pb) :=by
 obtain⟨r,h1,h2⟩:=ho;exact(Rw h1 ha hb).imp fun σ H Q h=>De h2 h
theorem kI {op:YD}{z:eZ}(ho:fP Γ X (compareOp op) z) (ha:QE Γ X a pa) (hb:QE Γ X b pb) (hm:behindInMarks op b=false):QE Γ X (.Compare a [op] [b] pos) (zOp z pa pb) :=by
 obtain⟨r,h1,h2⟩:=ho;exact(KR h1 ha hb hm).imp fun σ H Q h=>De h2 h
def zBool (Q:Bool->Mh->Prop):ZK:=fun d M=>match d with | .bl k=>Q k M|_=>False
theorem iy {Q:Bool->Mh->Prop}{d:Dv}{M:Mh}(h:zBool Q d M):∃k,d=.bl k/\Q k M :=by
 unfold zBool at h;split at h
 ·exact⟨_,rfl,h⟩
 ·exact h.elim
def zTest (p:aE):ck:=fun ρ M Q=>p ρ M (zBool Q)
theorem ya {p:aE}{t:TE}(i:∀σ H Q,lE Γ p σ H Q->t σ H Q) {σ:St}{H:Hp}{Q:Bool->Hp->Prop}(h:lT Γ (zTest p) σ H Q):Cy t σ H Q :=by
 obtain⟨β,ρ,M,Q',zr,h,q⟩:=h;refine i _ _ _ ⟨β,ρ,M,_,zr,h,fun d M1 v H1 x1 r1 h1=>?_⟩
 obtain⟨k,rfl,h2⟩:=iy h1;exact⟨k,cL r1,q k M1 H1 x1 h2⟩
theorem bY {op:YD}{z:eZ}(ho:fP Γ X (compareOp op) z) (ha:QE Γ X a pa) (hb:QE Γ X b pb) (hm:behindInMarks op b=false):QT Γ X (.Compare a [op] [b] pos) (zTest (zOp z pa pb)) :=by
 obtain⟨r,h1,h2⟩:=ho;exact(KS h1 ha hb hm).imp fun σ H Q h=>ya (fun _ _ _=>De h2) h
theorem jP {e:io}{p:aE}(h:QE Γ X e p) (he:∀whole,isTrue e X.env whole=(do let v <- whole;standAt e.pos;holding [v] (truthy v)) :=by intro _;rfl):QT Γ X e (zTest p):=
 (MK h he).imp fun σ H Q h=>ya (fun _ _ _ h=>h) h
def zChain (z z':eZ) (pa pb pc:aE):aE:=fun ρ M Q=>pa ρ M fun x M1=>pb ρ M1 fun y M2=>z x y M2 (zBool fun k M3=>if k=true then pc ρ M3 fun u M4=>z' y u M4 Q else Q (.bl false) M3)
theorem Bp {r r':R2}{z z':eZ}(hz:qX Γ r z) (Wd:qX Γ r' z') {σ:St}{H:Hp}{Q:VK}(h:lE Γ (zChain z z' pa pb pc) σ H Q):wU r r' (lE Γ pa) (lE Γ pb) (lE Γ pc) σ H Q :=by
 obtain⟨β,ρ,M,Q',zr,h,q⟩:=h;refine⟨β,ρ,M,_,zr,h,fun d M1 v H1 x1 r1 h1=>⟨β,ρ,M1,_,zr.step x1,h1,fun e M2 u H2 x2 r2 h2=>hz β v u d e M2 H2 _ _ zr.eP zr.ew zr.eK x2.mz (r1.ex x2) r2 h2 fun d' M3 v' H3 x3 r3 h3=>?_⟩⟩
 obtain⟨k,rfl,h4⟩:=iy h3;have Bq:=x1.trans (x2.trans x3);refine⟨k,cL r3,?_⟩;cases k with
 |true=>
  rw[if_pos rfl]at h4 ⊢;exact⟨β,ρ,M3,_,zr.step Bq,h4,fun f M4 g H4 x4 r4 h5=>Wd β u g e f M4 H4 _ _ zr.eP zr.ew zr.eK x4.mz ((r2.ex x3).ex x4) r4 h5 fun d5 M5 v5 H5 x5 r5 q5=>q _ _ _ _ (Bq.trans (x4.trans x5)) r5 q5⟩
 |false=>
  rw[if_neg gc]at h4 ⊢;exact q _ _ _ _ Bq (.bl _) h4
theorem Ig {op kR:YD}{z z':eZ}(ho:fP Γ X (compareOp op) z) (fN:fP Γ X (compareOp kR) z') (ha:QE Γ X a pa) (hb:QE Γ X b pb) (hc:QE Γ X c pc) (hm:lastMarks [op,kR] [b,c]=false :=by with_unfolding_all rfl) :
  QE Γ X (.Compare a [op,kR] [b,c] pos) (zChain z z' pa pb pc) :=by
 obtain⟨r,h1,h2⟩:=ho;obtain⟨r',FJ,FK⟩:=fN;exact(Hm h1 FJ ha hb hc hm).imp fun σ H Q h=>Bp h2 FK h
theorem Ih {op kR:YD}{z z':eZ}(ho:fP Γ X (compareOp op) z) (fN:fP Γ X (compareOp kR) z') (ha:QE Γ X a pa) (hb:QE Γ X b pb) (hc:QE Γ X c pc) (hm:lastMarks [op,kR] [b,c]=false :=by with_unfolding_all rfl) :
  QT Γ X (.Compare a [op,kR] [b,c] pos) (zTest (zChain z z' pa pb pc)) :=by
 obtain⟨r,h1,h2⟩:=ho;obtain⟨r',FJ,FK⟩:=fN;exact(Hn h1 FJ ha hb hc hm).imp fun σ H Q h=>ya (fun _ _ _=>Bp h2 FK) h
variable {tA Ee:ck}{rest:List io}
def zOr (t u:ck):ck:=fun ρ M Q=>t ρ M fun c M1=>if c=true then Q true M1 else u ρ M1 Q
def zNot (t:ck):ck:=fun ρ M Q=>t ρ M fun c M1=>Q (!c) M1
theorem yb (ha:QT Γ X a tA):QW Γ X (.BoolOp .Or [a] pos) tA:=ML ha
theorem Dg (ha:QT Γ X a tA) (hb:QW Γ X (.BoolOp .Or (b::rest) pos) Ee):QW Γ X (.BoolOp .Or (a::b::rest) pos) (zOr tA Ee):=
 (Ro ha hb).imp fun σ H Q ⟨β,ρ,M,Q',zr,h,q⟩=>⟨β,ρ,M,_,zr,h,fun k M1 H1 x1 h1=>by
  cases k with
  |false=>rw[if_neg gc]at h1 ⊢;exact⟨β,ρ,M1,_,zr.step x1,h1,fun k2 M2 H2 x2 h2=>q _ _ _ (x1.trans x2) h2⟩
  |true=>rw[if_pos rfl]at h1 ⊢;exact q _ _ _ x1 h1⟩
theorem ll (ha:QT Γ X a tA):QT Γ X (.UnaryOp .Not a pos) (zNot tA):=(MM ha).imp fun σ H Q ⟨β,ρ,M,Q',zr,h,q⟩=>⟨β,ρ,M,_,zr,h,fun k M1 H1 x1 h1=>q _ _ _ x1 h1⟩
theorem QW.pt {e:io}{t:ck}(h:QW Γ X e t):QT Γ X e t:=PW.pt h
def zAndV (pa pb:aE):aE:=fun ρ M Q=>pa ρ M (zBool fun c M1=>if c=true then pb ρ M1 Q else Q (.bl false) M1)
def zOrV (pa pb:aE):aE:=fun ρ M Q=>pa ρ M (zBool fun c M1=>if c=true then Q (.bl true) M1 else pb ρ M1 Q)
def zNotV (pa:aE):aE:=fun ρ M Q=>pa ρ M (zBool fun c M1=>Q (.bl (!c)) M1)
theorem m5 {op}(h:QE Γ X a pa):QE Γ X (.BoolOp op [a] pos) pa:=MN h
theorem pz (ha:QE Γ X a pa) (hb:QE Γ X (.BoolOp .And (b::rest) pos) pb):QE Γ X (.BoolOp .And (a::b::rest) pos) (zAndV pa pb):=
 (MO ha hb).imp fun σ H Q ⟨β,ρ,M,Q',zr,h,q⟩=>⟨β,ρ,M,_,zr,h,fun d M1 v H1 x1 r1 h1=>by
  obtain⟨k,rfl,h2⟩:=iy h1;refine⟨k,cL r1,?_⟩;cases k with
  |true=>rw[if_pos rfl]at h2 ⊢;exact⟨β,ρ,M1,_,zr.step x1,h2,fun d2 M2 v2 H2 x2 r2 h2=>q _ _ _ _ (x1.trans x2) r2 h2⟩
  |false=>rw[if_neg gc]at h2 ⊢;exact q _ _ _ _ x1 (.bl _) h2⟩
theorem JY (ha:QE Γ X a pa) (hb:QE Γ X (.BoolOp .Or (b::rest) pos) pb):QE Γ X (.BoolOp .Or (a::b::rest) pos) (zOrV pa pb):=
 (Rr ha hb).imp fun σ H Q ⟨β,ρ,M,Q',zr,h,q⟩=>⟨β,ρ,M,_,zr,h,fun d M1 v H1 x1 r1 h1=>by
  obtain⟨k,rfl,h2⟩:=iy h1;refine⟨k,cL r1,?_⟩;cases k with
  |false=>rw[if_neg gc]at h2 ⊢;exact⟨β,ρ,M1,_,zr.step x1,h2,fun d2 M2 v2 H2 x2 r2 h2=>q _ _ _ _ (x1.trans x2) r2 h2⟩
  |true=>rw[if_pos rfl]at h2 ⊢;exact q _ _ _ _ x1 (.bl _) h2⟩
theorem OQ (ha:QE Γ X a pa):QE Γ X (.UnaryOp .Not a pos) (zNotV pa):=(MP ha).imp fun σ H Q ⟨β,ρ,M,Q',zr,h,q⟩=>⟨β,ρ,M,_,zr,h,fun d M1 v H1 x1 r1 h1=>by
  obtain⟨k,rfl,h2⟩:=iy h1;exact⟨k,cL r1,q _ _ _ _ x1 (.bl _) h2⟩⟩
def zIfE (t:ck) (pa pb:aE):aE:=fun ρ M Q=>t ρ M fun c M1=>if c=true then pa ρ M1 Q else pb ρ M1 Q
theorem Ii (hc:QT Γ X c tA) (ha:QE Γ X a pa) (hb:QE Γ X b pb):QE Γ X (.IfExp c a b pos) (zIfE tA pa pb):=
 (Hf hc ha hb).imp fun σ H Q ⟨β,ρ,M,Q',zr,h,q⟩=>⟨β,ρ,M,_,zr,h,fun k M1 H1 x1 h1=>by
  cases k with
  |true=>rw[if_pos rfl]at h1 ⊢;exact⟨β,ρ,M1,_,zr.step x1,h1,fun d2 M2 v2 H2 x2 r2 h2=>q _ _ _ _ (x1.trans x2) r2 h2⟩
  |false=>rw[if_neg gc]at h1 ⊢;exact⟨β,ρ,M1,_,zr.step x1,h1,fun d2 M2 v2 H2 x2 r2 h2=>q _ _ _ _ (x1.trans x2) r2 h2⟩⟩
def zNil:gh:=fun _ M Q=>Q [] M
def zCons (p:aE) (r:gh):gh:=fun ρ M Q=>p ρ M fun d M1=>r ρ M1 fun ds M2=>Q (d::ds) M2
variable {es:List io}{za:gh}
theorem af:QA Γ X [] zNil:=Nq.imp fun σ H Q ⟨β,ρ,M,Q',zr,h,q⟩=>q [] M [] H (.refl zr.mz) .nil h
theorem ae {e:io}(ha:QE Γ X e pa) (hr:QA Γ X es za) (hs:lw (e::es) X.env=(false,eval e X.env)::lw es X.env :=by rfl):QA Γ X (e::es) (zCons pa za):=
 (KW ha hr hs).imp fun σ H Q ⟨β,ρ,M,Q',zr,h,q⟩=>⟨β,ρ,M,_,zr,h,fun d M1 v H1 x1 r1 h1=>⟨β,ρ,M1,_,zr.step x1,h1,fun ds M2 vs H2 x2 r2 h2=>q _ _ _ _ (x1.trans x2) (.cons (r1.ex x2) r2) h2⟩⟩
def zTup (p:gh):aE:=fun ρ M Q=>p ρ M fun ds M1=>ds.length<=sizeLine/\Q (.tup ds) M1
def zLst (p:gh):aE:=fun ρ M Q=>p ρ M fun ds M1=>ds.length<=sizeLine/\Q (.lst ds) M1
def zLstP (p:gh):aE:=fun ρ M Q=>p ρ M fun ds M1=>ds.length<=sizeLine/\∀a,M1 a=none->Q (.ptr a) (aw M1 a (.lst ds))
theorem jQ {x1}(h:QA Γ X es za):QE Γ X (.Tuple es x1 pos) (zTup za):=(Nr h).imp fun σ H Q ⟨β,ρ,M,Q',zr,h,q⟩=>⟨β,ρ,M,_,zr,h,fun ds M1 vs H1 x1 r1 h1=>⟨by rw[r1.len];exact h1.1,fun p hp=>by
  have x2:=Ex.lay x1.mz hp (.tup vs);exact q _ _ _ _ (x1.trans x2) (tH (x1.mz.fz hp) aH (r1.ex x2)) h1.2⟩⟩
theorem tI (h:QA Γ X es za):QE Γ X (.List es pos) (zLst za):=(Et h).imp fun σ H Q ⟨β,ρ,M,Q',zr,h,q⟩=>⟨β,ρ,M,_,zr,h,fun ds M1 vs H1 x1 r1 h1=>⟨by rw[r1.len];exact h1.1,fun p hp=>by
  have x2:=Ex.lay x1.mz hp (.lst vs);exact q _ _ _ _ (x1.trans x2) (mZ (x1.mz.fz hp) aH (r1.ex x2)) h1.2⟩⟩
theorem gC (h:QA Γ X es za):QE Γ X (.List es pos) (zLstP za):=(Et h).imp fun σ H Q ⟨β,ρ,M,Q',zr,h,q⟩=>⟨β,ρ,M,_,zr,h,fun ds M1 vs H1 x1 r1 h1=>⟨by rw[r1.len];exact h1.1,fun p hp=>by
  have x2:=Ex.own x1.mz (.inr hp) r1;exact q _ _ _ _ (x1.trans x2) (.ptr (by rw[updM_same];rfl)) (h1.2 p (x1.mz.free hp))⟩⟩
abbrev vz:=List Dv->Mh->ZK->Prop
def JZ (Γ:Gz) (r:List V->Hp->VK->Prop) (z:vz):Prop:=∀(β:Bz) xs ds M H Q Q',β.P=Γ.P->β.w=Γ.w->β.K=Γ.K->Mz β M H->aJ β M H xs ds->z ds M Q'->(∀d' M' v H',Ex β M H M' H'->Rz β M' H' v d'->Q' d' M'->Q v H')->r xs H Q
def fQ (Γ:Gz) (X:Cx) (f:al) (z:vz):Prop:=∃r,cR X f r/\JZ Γ r z
def zCB (z:vz) (p:gh):aE:=fun ρ M Q=>p ρ M fun ds M1=>z ds M1 Q
theorem OS {r:List V->Hp->VK->Prop}{z:vz}(hz:JZ Γ r z) {σ:St}{H:Hp}{Q:VK}(h:lE Γ (zCB z za) σ H Q):Nv r (lA Γ za) σ H Q :=by
 obtain⟨β,ρ,M,Q',zr,h,q⟩:=h;exact⟨β,ρ,M,_,zr,h,fun ds M1 vs H1 x1 r1 h1=>hz β vs ds M1 H1 _ _ zr.eP zr.ew zr.eK x1.mz r1 h1 fun d' M' v' H' x2 r2 q2=>q _ _ _ _ (x1.trans x2) r2 q2⟩
variable {st:wE}{Tr:List wE}{p p2:cI}{e:io}{pe:aE}
def zNext:cI:=fun D ρ M=>D.nx ρ M
def zSeq (p q:cI):cI:=fun D ρ M=>p {D with nx:=q D} ρ M
theorem qss_nil:px Γ X [] zNext:=KJ.imp fun D σ H ⟨β,ρ,M,D',zr,h,r⟩=>r.nx ρ M σ H (.refl zr.mz) zr h
theorem ah (h1:QS Γ X st p) (h2:px Γ X Tr p2):px Γ X (st::Tr) (zSeq p p2):=(Hg h1 h2).imp fun D σ H ⟨β,ρ,M,D',zr,h,r⟩=>
 ⟨β,ρ,M,_,zr,h,fun cY M' aO H' x fq h'=>⟨β,cY,M',D',fq,h',r.step x⟩,r.rt,r.bk,r.ct⟩
theorem av (h1:QS Γ X st p):px Γ X [st] p:=KL h1
def zDrop (p:aE):cI:=fun D ρ M=>p ρ M fun _ M1=>D.nx ρ M1
theorem dX (he:QE Γ X e pe) (hs:swapsWith e none pos.line X.env=pure false :=by rfl):QS Γ X (.Expr e pos) (zDrop pe):=(KN he hs).imp fun D σ H ⟨β,ρ,M,D',zr,h,r⟩=>
 ⟨β,ρ,M,_,zr,h,fun d M1 v H1 x1 r1 h1=>r.nx ρ M1 σ H1 x1.ev (zr.step x1) h1⟩
def zRet (p:aE):cI:=fun D ρ M=>p ρ M D.rt
theorem bg (he:QE Γ X e pe):QS Γ X (.Return (some e) pos) (zRet pe):=(MQ he).imp fun D σ H ⟨β,ρ,M,D',zr,h,r⟩=>⟨β,ρ,M,_,zr,h,fun d M' v H' x r1 h1=>r.rt _ _ _ _ x.ev (zr.ent.trans x.toEy) r1 h1⟩
def zIfS (c:ck) (p q:cI):cI:=fun D ρ M=>c ρ M fun b M1=>if b=true then p D ρ M1 else q D ρ M1
theorem fb {as bs:List wE}{pa pb:cI}(hc:QT Γ X c tA) (ha:px Γ X as pa) (hb:px Γ X bs pb):QS Γ X (.If c as bs pos) (zIfS tA pa pb):=(Rv hc ha hb).imp fun D σ H ⟨β,ρ,M,D',zr,h,r⟩=>
 ⟨β,ρ,M,_,zr,h,fun k M1 H1 x1 h1=>by
  cases k with
  |true=>rw[if_pos rfl]at h1 ⊢;exact⟨β,ρ,M1,D',zr.step x1,h1,r.step x1.ev⟩
  |false=>rw[if_neg gc]at h1 ⊢;exact⟨β,ρ,M1,D',zr.step x1,h1,r.step x1.ev⟩⟩
def zgName (i:Nat):bP:=fun d ρ M N=>N (ρ.set i (some d)) M
theorem aF {i:Nat}{x:ci}(hN:X.N.Nodup) (hi:X.N[i]?=some x) (hx:Loc X.env.scope x) (hf:X.fn x=true\/X.env.scope.names.lookup x=some .local :=by first|exact .inl rfl|exact .inr rfl|assumption):QG Γ X (.Name x pos) (zgName i):=
 (KO hN hi hx hf).imp fun v σ H N ⟨β,d,ρ,M,N',zr,r,h,q⟩=>q _ _ _ _ (.refl zr.mz) (zr.set i r) h
def zAsg (p:aE) (g:bP):cI:=fun D ρ M=>p ρ M fun d M1=>g d ρ M1 D.nx
theorem R4 {g:bP}{D:Ends}{σ:St}{H:Hp}(h:lS Γ (zAsg pe g) D σ H):ud (lE Γ pe) (lG Γ g) D σ H :=by
 obtain⟨β,ρ,M,D',zr,h,r⟩:=h;exact⟨β,ρ,M,_,zr,h,fun d M1 v H1 x1 r1 h1=>⟨β,d,ρ,M1,D'.nx,zr.step x1,r1,h1,fun cY M' aO H' x fq h'=>r.nx _ _ _ _ (x1.trans x).ev fq h'⟩⟩
theorem jR {tg:io}{g:bP}(he:QE Γ X e pe) (hg:QG Γ X tg g) (hs:swapsWithSole [tg] e pos.line X.env=pure false :=by rfl) (hw:swappedStores [tg] e X.env=pure none :=by rfl)
  (h1:(assignEach [tg] X.env).map (·.2)=[assign tg X.env] :=by rfl):QS Γ X (.Assign [tg] e pos) (zAsg pe g):=(MT he hg hs hw h1).imp fun D σ H h=>R4 h
theorem wB {t:TE}(i:∀σ H Q,lE Γ pe σ H Q->t σ H Q) {n:Nat}{D:Ends}{σ:St}{H:Hp}(h:lS Γ (zAsg pe (zgName n)) D σ H):ud t (so n) D σ H :=by
 obtain⟨β,ρ,M,D',zr,h,r⟩:=h;exact i _ _ _ ⟨β,ρ,M,_,zr,h,fun d M1 v H1 x1 r1 h1=>r.nx _ _ _ _ x1.ev ((zr.step x1).set n r1) h1⟩
theorem aG {i:Nat}{x:ci}{pos':wv}(hN:X.N.Nodup) (hi:X.N[i]?=some x) (hx:Loc X.env.scope x) (he:QE Γ X e pe) (hs:swapsWith e (some (.Name x pos')) pos.line X.env=pure false :=by rfl) (hf:X.fn x=true\/X.env.scope.names.lookup x=some .local :=by first|exact .inl rfl|exact .inr rfl|assumption) :
  QS Γ X (.Assign [.Name x pos'] e pos) (zAsg pe (zgName i)):=(MU hN hi hx he hs hf).imp fun D σ H h=>wB (fun _ _ _ h=>h) h
end
section
variable {X:Cx}{Γ:Gz}{β:Bz}
def ziTup (p:aE):ef:=fun ρ M R=>p ρ M fun d M1=>match d with | .tup ds=>R ds M1|_=>False
def ziLst (p:aE):ef:=fun ρ M R=>p ρ M fun d M1=>match d with | .lst ds=>R ds M1|_=>False
def m6 (z:ci):List Dv:=z.cps.toList.map fun c=>.str ⟨#[c]⟩
def ziStr (p:aE):ef:=fun ρ M R=>p ρ M fun d M1=>match d with | .str z=>R (m6 z) M1|_=>False
def cp (lo:Int) (n:Nat):List Dv:=(hX n).map fun i=>.int (lo+(i:Nat))
def ziRng1 (p:gh):ef:=fun ρ M R=>p ρ M fun ds M1=>match ds with | [.int j] => -(2 ^ 62)<=j/\j<2 ^ 62/\R (cp 0 j.toNat) M1|_=>False
def ziRng2 (p:gh):ef:=fun ρ M R=>p ρ M fun ds M1=>match ds with | [.int i,.int j]=>(-(2 ^ 62)<=i/\i<2 ^ 62 /\ -(2 ^ 62)<=j/\j<2 ^ 62)/\R (cp i (j - i).toNat) M1|_=>False
theorem lq {J:It}{vs:List V}{ds:List Dv}{M:Mh}{H:Hp}(r:aJ β M H vs ds) (h:∀M' H',Ey M H M' H'->Runs J vs H'):FI β J ds M H:=fun cO M' H' bx x m i=>by
 have q:=h M' H' x i;rw[<- r.len];refine⟨fun hi=>⟨(q.1 hi).1,fun v jO y=>?_⟩,q.2⟩
 obtain⟨e,hv⟩:=(q.1 hi).2 v jO y;subst e;obtain⟨d,hd,rd⟩:=r.get' hv;exact⟨.refl m,d,hd,(rd.bx bx).ey x⟩
variable {tg l:io}{p:aE}{pa:gh}{K:bv}
theorem pA (hK:X.K=K) (hl:QE Γ X l p):QI Γ X tg l (ziTup p):=(K7 hK hl).imp fun σ H R ⟨β,ρ,M,R',zr,h,q⟩=>⟨β,ρ,M,_,zr,h,fun d M1 v H1 x1 r1 h1=>by
 revert h1
 split
 ·intro h1;obtain⟨a,vs,rfl,m,e,rs⟩:=cj r1;exact⟨a,rfl,⟨_,c9.of e⟩,q _ _ _ _ x1 (lq rs fun M' H' x=>HA (c9.of (x.get m.1 e rfl))) h1⟩
 ·exact fun h=>h.elim⟩
theorem da (hK:X.K=K) (hl:QE Γ X l p):QI Γ X tg l (ziLst p):=(HC hK hl).imp fun σ H R ⟨β,ρ,M,R',zr,h,q⟩=>⟨β,ρ,M,_,zr,h,fun d M1 v H1 x1 r1 h1=>by
 revert h1
 split
 ·intro h1;obtain⟨a,vs,rfl,m,e,rs⟩:=eY r1;exact⟨a,rfl,⟨_,bF.of e⟩,q _ _ _ _ x1 (lq rs fun M' H' x=>E5 (bF.of (x.get m.1 e rfl))) h1⟩
 ·exact fun h=>h.elim⟩
theorem FL {z:ci}{M:Mh}{H:Hp}:aJ β M H (k4 z) (m6 z):=⟨by simp[k4,m6],fun i v d a b=>by
 unfold k4 at a;unfold m6 at b;rw[dL]at a b;cases e:z.cps.toList[i]? with
 |none=>rw[e]at a;cases a
 |some c=>rw[e]at a b;cases a;cases b;exact .str _⟩
theorem OT (hl:QE Γ X l p):QI Γ X tg l (ziStr p):=(NV hl).imp fun σ H R ⟨β,ρ,M,R',zr,h,q⟩=>⟨β,ρ,M,_,zr,h,fun d M1 v H1 x1 r1 h1=>by
 revert h1
 split
 ·intro h1;exact⟨_,bX r1,q _ _ _ _ x1 (lq FL fun M' H' x=>HB) h1⟩
 ·exact fun h=>h.elim⟩
theorem vA {lo:Int}{n:Nat}{M:Mh}{H:Hp}:aJ β M H ((hX n).map fun i=>V.int (lo+(i:Nat))) (cp lo n):=⟨by simp[cp],fun i v d a b=>by
 unfold cp at b;rw[dL]at a b;cases e:(hX n)[i]? with
 |none=>rw[e]at a;cases a
 |some c=>rw[e]at a b;cases a;cases b;exact .int _⟩
theorem de {xs:List V}{d:Dv}{M:Mh}{H:Hp}(r:aJ β M H xs [d]):∃v,xs=[v]/\Rz β M H v d :=by
 match xs,r with
 | [v],r=>exact⟨v,rfl,r.head⟩
 | [],r=>exact absurd r.len (by simp)
 |_::_::_,r=>exact absurd r.len (by simp)
theorem m7 {xs:List V}{d e:Dv}{M:Mh}{H:Hp}(r:aJ β M H xs [d,e]):∃v u,xs=[v,u]/\Rz β M H v d/\Rz β M H u e :=by
 match xs,r with
 | [v,u],r=>exact⟨v,u,rfl,r.head,r.tail.head⟩
 | [],r=>exact absurd r.len (by simp)
 | [_],r=>exact absurd r.len (by simp)
 |_::_::_::_,r=>exact absurd r.len (by simp)
section
variable {e e1 e2:io}{pr pos:wv}
theorem OU {σ:St}{H:Hp}{R:It->Hp->Prop}(h:lI Γ (ziRng1 pa) σ H R):JA (lA Γ pa) σ H R :=by
 obtain⟨β,ρ,M,R',zr,h,q⟩:=h;refine⟨β,ρ,M,_,zr,h,fun ds M1 vs H1 x1 r1 h1=>?_⟩
 revert h1
 split
 ·rintro⟨b1,b2,h1⟩;obtain⟨v,rfl,r⟩:=de r1;rw[aI r];exact⟨_,rfl,b1,b2,q _ _ _ _ x1 (lq vA fun M' H' x=>sM) h1⟩
 ·exact fun h=>h.elim
theorem OV {σ:St}{H:Hp}{R:It->Hp->Prop}(h:lI Γ (ziRng2 pa) σ H R):JB (lA Γ pa) σ H R :=by
 obtain⟨β,ρ,M,R',zr,h,q⟩:=h;refine⟨β,ρ,M,_,zr,h,fun ds M1 vs H1 x1 r1 h1=>?_⟩
 revert h1
 split
 ·rintro⟨b1,h1⟩;obtain⟨v,u,rfl,r,r'⟩:=m7 r1;rw[aI r,aI r'];exact⟨_,_,rfl,b1,q _ _ _ _ x1 (lq vA fun M' H' x=>sM) h1⟩
 ·exact fun h=>h.elim
end
def zLoop (g:bP) (tb:cI) (D:ib):List Dv->aA->Mh->Prop
 | [],ρ,M=>D.nx ρ M
 |d::ds,ρ,M=>g d ρ M fun m8 M2=>tb {D with nx:=zLoop g tb D ds,ct:=zLoop g tb D ds,bk:=D.nx} m8 M2
def zFor (zi:ef) (g:bP) (tb:cI):cI:=fun D ρ M=>zi ρ M fun ds M1=>zLoop g tb D ds ρ M1
def zForM (zi:ef) (g:bP) (tb:Mh->cI):cI:=fun D ρ M=>zi ρ M fun ds M1=>zLoop g (tb M1) D ds ρ M1
theorem Zr.root {M:Mh}{ρ:aA}{σ:St}{H:Hp}(z:Zr Γ β M ρ σ H):Zr ⟨β,M,H⟩ β M ρ σ H:=⟨rfl,rfl,rfl,rfl,fun _ h=>h,z.mz.wf,.refl,z.mz,z.len,z.at'⟩
theorem Zr.FN {M M1:Mh}{ρ Ts:aA}{σ wN:St}{H H1:Hp}(z:Zr Γ β M ρ σ H) (y:Zr ⟨β,M,H⟩ β M1 Ts wN H1):Zr Γ β M1 Ts wN H1:=⟨z.eP,z.ew,z.eK,z.et,z.sub,z.wf,z.ent.trans y.ent,y.mz,y.len,y.at'⟩
theorem R5 {zi:ef}{g:bP}{tb:Mh->cI}{t:TS}(hb:∀bG:Gz,bG.P=Γ.P->bG.w=Γ.w->bG.K=Γ.K->bG.tb=Γ.tb->∀D σ H,lS bG (tb bG.M0) D σ H->t D σ H) {tg:TG}(hg:∀bG:Gz,bG.P=Γ.P->bG.w=Γ.w->bG.K=Γ.K->bG.tb=Γ.tb->∀x σ H N,lG bG g x σ H N->tg x σ H N) {D:Ends}{σ:St}{H:Hp}(h:lS Γ (zForM zi g tb) D σ H):M7 (lI Γ zi) tg t D σ H :=by
 obtain⟨β,ρ,M,D',zr,h,r⟩:=h;refine⟨β,ρ,M,_,zr,h,fun ds M1 H1 J x1 it h1=>?_⟩
 have gi:=zr.step x1;refine⟨fun i m aO H'=>m=ds.length - i/\i<=ds.length/\∃cY M',Zr ⟨β,M1,H1⟩ β M' cY aO H'/\zLoop g (tb M1) D' (ds.drop i) cY M',⟨ds.length,rfl,ut _,ρ,M1,gi.root,h1⟩,?_⟩
 rintro i m aO H' ⟨rfl,hi,cY,M',fq,h'⟩;have ev:∀{M2:Mh} {m8:aA} {sr:St} {H2:Hp},Zr ⟨β,M1,H1⟩ β M2 m8 sr H2->Ev β M H M2 H2:=fun z=>x1.ev.trans ⟨z.ent.keep,z.ent.new,z.mz⟩
 by_cases aM:i<ds.length
 ·have q:=(it β M' H' .refl fq.ent fq.mz i).1 aM;refine .inr ⟨q.1,fun sr H2=>∃m8 M2,Zr ⟨β,M1,H1⟩ β M2 m8 sr H2/\zLoop g (tb M1) D' (ds.drop (i+1)) m8 M2,fun sr H2 ⟨m8,M2,We,h2⟩=>⟨ds.length - (i+1),by omega,rfl,aM,m8,M2,We,h2⟩,fun v jO y=>?_⟩
  obtain⟨x2,d,hd,rd⟩:=q.2 v jO y;have e:ds.drop i=d::ds.drop (i+1) :=by
   rw[Do aM];rw[ap aM]at hd;cases hd;rfl
  rw[e]at h';refine hg ⟨β,M1,H1⟩ zr.eP zr.ew zr.eK zr.et _ _ _ _ ⟨β,d,cY,M',_,fq.step x2,rd,h',fun Wg M3 oi H3 x3 Wh h3=>hb ⟨β,M1,H1⟩ zr.eP zr.ew zr.eK zr.et _ _ _ ⟨β,Wg,M3,_,Wh,h3,?_⟩⟩
  exact⟨fun tJ M4 FO H4 x4 oq h4=>⟨tJ,M4,oq,h4⟩,fun d4 M4 v4 H4 x4 e4 r4 h4=>r.rt _ _ _ _ (x1.ev.trans ⟨e4.keep,e4.new,x4.mz⟩) (gi.ent.trans e4) r4 h4,fun tJ M4 FO H4 x4 oq h4=>r.nx _ _ _ _ (ev oq) (gi.FN oq) h4,fun tJ M4 FO H4 x4 oq h4=>⟨tJ,M4,oq,h4⟩⟩
 ·have e:i=ds.length :=by omega
  subst e;rw[Nl]at h';exact .inl ⟨(it β M' H' .refl fq.ent fq.mz _).2 (cb _),r.nx _ _ _ _ (ev fq) (gi.FN fq) h'⟩
def Wi (Γ:Gz) (p:Mh->cI):TS:=fun D σ H=>∃bG:Gz,bG.P=Γ.P/\bG.w=Γ.w/\bG.K=Γ.K/\bG.tb=Γ.tb/\lS bG (p bG.M0) D σ H
def Wj (Γ:Gz) (p:bP):TG:=fun x σ H N=>∃bG:Gz,bG.P=Γ.P/\bG.w=Γ.w/\bG.K=Γ.K/\bG.tb=Γ.tb/\lG bG p x σ H N
theorem Br {body:List wE}{iter:io}{zi:ef}{g:bP}{tb:Mh->cI}{pos:wv}(hp:aaR (model X.prog X.w) X.A X.env X.xe) (hc:X.calm=true) (hi:QI Γ X tg iter zi)
  (J0:∀(bG:Gz) (M1:Mh),bG.M0=M1->bG.P=Γ.P->bG.w=Γ.w->bG.K=Γ.K->bG.tb=Γ.tb->QG bG X tg g/\px bG X body (tb M1))
  (hs:∀x,zw iter X.env x=pure x :=by intro _;rfl):QS Γ X (.For tg iter body [] pos) (zForM zi g tb):=
 (M8 (g:=Wj Γ g) (tb:=Wi Γ tb) hp hc hi (fun pins s σ H v u Q I r h=>by obtain⟨bG,e1,e2,e3,e4,h⟩:=h;exact(J0 bG _ rfl e1 e2 e3 e4).1 pins s σ H v u Q I r h) ⟨fun pins s σ H D I h=>by obtain⟨bG,e1,e2,e3,e4,h⟩:=h;exact(J0 bG _ rfl e1 e2 e3 e4).2 pins s σ H D I h⟩ hs).imp
  fun D σ H h=>R5 (fun bG e1 e2 e3 e4 D σ H h=>⟨bG,e1,e2,e3,e4,h⟩) (fun bG e1 e2 e3 e4 x σ H N h=>⟨bG,e1,e2,e3,e4,h⟩) h
theorem bV {body:List wE}{iter:io}{zi:ef}{g:bP}{tb:cI}{pos:wv}(hp:aaR (model X.prog X.w) X.A X.env X.xe) (hc:X.calm=true) (hi:QI Γ X tg iter zi)
  (J0:∀bG:Gz,bG.P=Γ.P->bG.w=Γ.w->bG.K=Γ.K->bG.tb=Γ.tb->QG bG X tg g/\px bG X body tb)
  (hs:∀x,zw iter X.env x=pure x :=by intro _;rfl):QS Γ X (.For tg iter body [] pos) (zFor zi g tb):=Br (tb:=fun _=>tb) hp hc hi (fun bG M1 _ e1 e2 e3 e4=>J0 bG e1 e2 e3 e4) hs
theorem bc {a:io}{p pos:wv}(hg:Gl X "range") (hm:X.mg "range" = none) (ha:QA Γ X [a] pa) (hs:lw [a] X.env=[(false,eval a X.env)] :=by rfl):QI Γ X tg (.Call (.Name "range" p) [a] [] pos) (ziRng1 pa):=(Ej hg hm ha hs).imp fun σ H R h=>OU h
theorem pB {a b:io}{p pos:wv}(hg:Gl X "range") (hm:X.mg "range" = none) (ha:QA Γ X [a,b] pa) (hs:lw [a,b] X.env=[(false,eval a X.env),(false,eval b X.env)] :=by rfl) (oj:lw [b] X.env=[(false,eval b X.env)] :=by rfl) :
  QI Γ X tg (.Call (.Name "range" p) [a,b] [] pos) (ziRng2 pa):=(Ek hg hm ha hs oj).imp fun σ H R h=>OV h
def FP (c:ck) (tb:cI):cI:=fun D ρ M=>∃W:Nat->aA->Mh->Prop,(∃m,W m ρ M)/\∀m ρ M,W m ρ M->
 c ρ M fun b M1=>if b=true then tb {D with nx:=fun cY M'=>∃m',m'<m/\W m' cY M',ct:=fun cY M'=>∃m',m'<m/\W m' cY M',bk:=D.nx} ρ M1 else D.nx ρ M1
theorem Ln {c:ck}{tb:cI}{D:Ends}{σ:St}{H:Hp}(h:lS Γ (FP c tb) D σ H):Eg (lT Γ c) (lS Γ tb) D σ H :=by
 obtain⟨β,ρ,M,D',zr,⟨W,⟨m0,w0⟩,turn⟩,r⟩:=h;refine⟨fun m aO H'=>∃cY M',Ev β M H M' H'/\Zr Γ β M' cY aO H'/\W m cY M',⟨m0,ρ,M,.refl zr.mz,zr,w0⟩,?_⟩
 rintro m aO H' ⟨cY,M',x',fq,w'⟩;refine⟨β,cY,M',_,fq,turn m cY M' w',fun k M1 H1 x1 h1=>?_⟩
 have FQ:=x'.trans x1.ev;cases k with
 |true=>
  dsimp only at h1 ⊢;rw[if_pos rfl]at h1 ⊢;refine⟨fun sr H2=>∃m',m'<m/\∃m8 M2,Ev β M H M2 H2/\Zr Γ β M2 m8 sr H2/\W m' m8 M2,fun sr H2 h2=>h2,β,cY,M1,_,fq.step x1,h1,?_⟩
  exact⟨fun tJ M4 FO H4 x4 oq ⟨m',hm,w4⟩=>⟨m',hm,tJ,M4,FQ.trans x4,oq,w4⟩,fun d4 M4 v4 H4 x4 e4 r4 h4=>r.rt _ _ _ _ (FQ.trans x4) e4 r4 h4,fun tJ M4 FO H4 x4 oq h4=>r.nx _ _ _ _ (FQ.trans x4) oq h4,fun tJ M4 FO H4 x4 oq ⟨m',hm,w4⟩=>⟨m',hm,tJ,M4,FQ.trans x4,oq,w4⟩⟩
 |false=>
  dsimp only at h1 ⊢;rw[if_neg gc]at h1 ⊢;exact r.nx _ _ _ _ FQ (fq.step x1) h1
theorem nE {body:List wE}{c:io}{zc:ck}{tb:cI}{pos:wv}(hp:aaR (model X.prog X.w) X.A X.env X.xe) (hc:QT Γ X c zc) (hb:px Γ X body tb):QS Γ X (.While c body [] pos) (FP zc tb):=(Hi hp hc hb).imp fun D σ H h=>Ln h
theorem aV {g:bP}{tb:cI}{D:ib}(J:Nat->aA->Mh->Prop) {ds:List Dv}{ρ:aA}{M:Mh}(h0:J 0 ρ M)
  (hs:∀i d ρ M (N:aA->Mh->Prop),ds[i]?=some d->J i ρ M->(∀cY M',J (i+1) cY M'->N cY M')->g d ρ M fun m8 M2=>tb {D with nx:=N,ct:=N,bk:=D.nx} m8 M2)
  (hd:∀ρ M,J ds.length ρ M->D.nx ρ M):zLoop g tb D ds ρ M :=by
 have key:∀(n i:Nat) ρ M,n=ds.length - i->i<=ds.length->J i ρ M->zLoop g tb D (ds.drop i) ρ M :=by
  intro n;induction n with
  |zero=>
   intro i ρ M e hi h;have:i=ds.length :=by omega
   subst this;rw[Nl];exact hd _ _ h
  |succ n ih=>
   intro i ρ M e hi h;have aM:i<ds.length :=by omega
   rw[Do aM];exact hs i _ ρ M _ (ap aM) h fun ρ M h=>ih (i+1) ρ M (by omega) aM h
 exact key _ 0 ρ M rfl (ut _) h0
end
section
variable {X:Cx}{Γ:Gz}{β:Bz}
def zBlock (tn:Nat) (idx:List Nat) (ρ:aA):aA:=mT tn none++idx.map fun i=>(ρ[i]?).join
theorem Zr.block {M:Mh}{ρ:aA}{σ:St}{H:Hp}(z:Zr Γ β M ρ σ H) (tn:Nat) (idx:List Nat):Zr Γ β M (zBlock tn idx ρ) (aQ tn idx σ) H:=⟨z.eP,z.ew,z.eK,z.et,z.sub,z.wf,z.ent,z.mz,by simp[zBlock,aQ],fun i d e=>by
 unfold zBlock at e;unfold aQ;rw[Z3]at e ⊢;rw[Sm]at e ⊢;split at e
 ·rw[OL]at e;split at e<;>cases e
 ·rename_i hi;rw[if_neg hi];rw[dL]at e ⊢;cases q:idx[i - tn]? with
  |none=>rw[q]at e;cases e
  |some j=>
   rw[q]at e;have e2:ρ[j]?=some (some d) :=by
    simp only[Co,LP]at e;cases q2:ρ[j]? with
    |none=>rw[q2]at e;cases e
    |some o=>rw[q2]at e;simp only[YI]at e;rw[e]
   obtain⟨v,hv,r⟩:=z.at' j d e2;exact⟨v,by simp[hv],r⟩⟩
theorem Zr.enter {M:Mh}{ρ:aA}{σ:St}{H:Hp}{D:ag}{o:HO}(z:Zr Γ β M ρ σ H) (hD:H D=none) (ho:pj o=true):Zr Γ (β.add D) M ρ σ (upd H D o):=
 ⟨z.eP,z.ew,z.eK,z.et,fun a h=>db _ (z.sub a h),z.wf,z.ent.over (z.ent.gone hD (by
  cases e:Γ.M0 D with
  |none=>rfl
  |some u=>have:=z.ent.dom D (by rw[e];rfl);rw[z.mz.free hD]at this;cases this)),z.mz.enter hD ho,z.len,fun i d e=>let ⟨v,h,r⟩:=z.at' i d e;⟨v,h,r.enter hD⟩⟩
theorem Zr.over {M:Mh}{ρ:aA}{σ:St}{H:Hp}{D:ag}{o:HO}(z:Zr Γ β M ρ σ H) (hD:D∈β.hid) (ho:pj o=true) (hM:M D=none) (ht:D ∉ β.tb) (h0:Γ.H0 D=none):Zr Γ β M ρ σ (upd H D o):=
 ⟨z.eP,z.ew,z.eK,z.et,z.sub,z.wf,z.ent.over h0,z.mz.over hD ho hM ht,z.len,fun i d e=>let ⟨v,h,r⟩:=z.at' i d e;⟨v,h,r.over hD⟩⟩
abbrev ou (Γ:Gz) (X:Cx) (ifs:List io) (t:ck):Prop:=fO X ifs (lT Γ t)
def zNoIf:ck:=fun _ M Q=>Q true M
theorem cq:ou Γ X [] zNoIf:=K3.imp fun σ H Q ⟨β,ρ,M,Q',zr,h,q⟩=>q true M H (.refl zr.mz) h
theorem qo {c:io}{tc:ck}(h:QT Γ X c tc):ou Γ X [c] tc:=K4 h
def gV (g:bP) (tt:ck) (te:aE):List Dv->aA->Mh->(List Dv->Mh->Prop)->Prop
 | [],_,M,Q=>Q [] M
 |d::ds,τ,M,Q=>g d τ M fun au M2=>tt au M2 fun b M3=>if b=true then te au M3 fun y M4=>gV g tt te ds au M4 fun ys M5=>Q (y::ys) M5 else gV g tt te ds au M3 Q
structure Acc (Γ:Gz) (β:Bz) (D:ag) (M1:Mh) (H1:Hp) (aT:aA) (M:Mh) (τ:St) (H:Hp) (acc:List V) (cf:List Dv):Prop where
 ey:Ey M1 H1 M H
 m:M D=none
 zr:Zr Γ (β.add D) M aT τ H
 at':H D=some (.lst acc)
 rs:aJ (β.add D) M H acc cf
 h1:H1 D=none
 h0:Γ.H0 D=none
 nt:D ∉ β.tb
theorem Acc.start {D:ag}{M1:Mh}{H1:Hp}{aT:aA}{τ:St}(zr:Zr Γ β M1 aT τ H1) (hD:H1 D=none):Acc Γ β D M1 H1 aT M1 τ (upd H1 D (.lst [])) [] []:=
 ⟨Ey.refl.over hD,zr.mz.free hD,zr.enter hD rfl,aH,.nil,hD,zr.ent.gone hD (by
  cases e:Γ.M0 D with
  |none=>rfl
  |some u=>have:=zr.ent.dom D (by rw[e];rfl);rw[zr.mz.free hD]at this;cases this),zr.mz.Dc hD⟩
section
variable {D:ag}{M1 M M2:Mh}{H1 H H2:Hp}{aT uA:aA}{τ au:St}{acc:List V}{cf:List Dv}
theorem Acc.step (A:Acc Γ β D M1 H1 aT M τ H acc cf) (x:Ex (β.add D) M H M2 H2) (z:Zr Γ (β.add D) M2 uA au H2):Acc Γ β D M1 H1 uA M2 au H2 acc cf:=
 ⟨A.ey.trans x.toEy,x.new D _ A.m A.at',z,x.get A.m A.at' rfl,A.rs.ex x,A.h1,A.h0,A.nt⟩
theorem Acc.snoc (A:Acc Γ β D M1 H1 aT M τ H acc cf) {y:V}{d:Dv}(r:Rz (β.add D) M H y d):Acc Γ β D M1 H1 aT M τ (upd H D (.lst (acc++[y]))) (acc++[y]) (cf++[d]) :=by
 have hD:D∈(β.add D).hid:=ii;exact⟨A.ey.over A.h1,A.m,A.zr.over hD rfl A.m A.nt A.h0,aH,⟨by simp[A.rs.len],fun i v d a b=>((A.rs.snoc r).at' i v d a b).over hD⟩,A.h1,A.h0,A.nt⟩
theorem Acc.fz (A:Acc Γ β D M1 H1 aT M τ H acc cf) (m1:Mz β M1 H1):Fz β M D:=⟨A.m,(m1.fz A.h1).2⟩
theorem Acc.mz (A:Acc Γ β D M1 H1 aT M τ H acc cf):Mz β M H:=Mz.sub (β:=β.add D) (cO:=β) rfl rfl rfl rfl (fun a h=>db _ h) A.zr.mz
theorem Acc.items (A:Acc Γ β D M1 H1 aT M τ H acc cf):aJ β M H acc cf:=⟨A.rs.len,fun i v d a b=>Rz.sub (β:=β.add D) (cO:=β) rfl rfl rfl (fun a h=>db _ h) (A.rs.at' i v d a b)⟩
theorem Acc.ex (A:Acc Γ β D M1 H1 aT M τ H acc cf):Ex β M1 H1 M H:=⟨A.ey,A.mz⟩
end
def zComp (tn:Nat) (idx:List Nat) (zi:ef) (g:bP) (tt:ck) (te:aE):aE:=fun ρ M Q=>zi ρ M fun ds M1=>ds.length<sizeLine/\gV g tt te ds (zBlock tn idx ρ) M1 fun ys M2=>Q (.lst ys) M2
def zCompP (tn:Nat) (idx:List Nat) (zi:ef) (g:bP) (tt:ck) (te:aE):aE:=fun ρ M Q=>zi ρ M fun ds M1=>ds.length<sizeLine/\gV g tt te ds (zBlock tn idx ρ) M1 fun ys M2=>∀a,M2 a=none->Q (.ptr a) (aw M2 a (.lst ys))
variable {zi:ef}{g:bP}{tt:ck}{te:aE}{tn:Nat}{idx:List Nat}
def pC (Γ:Gz) (β:Bz) (D:ag) (M1:Mh) (H1:Hp) (g:bP) (tt:ck) (te:aE) (ds:List Dv) (Q':List Dv->Mh->Prop) (i m:Nat) (τ:St) (H:Hp):Prop:=
 m=ds.length - i/\i<=ds.length/\∃aT M acc cf,Acc Γ β D M1 H1 aT M τ H acc cf/\acc.length<=i/\gV g tt te (ds.drop i) aT M fun ys M2=>Q' (cf++ys) M2
theorem vB {D:ag}{M1:Mh}{H1:Hp}{ds:List Dv}{Q':List Dv->Mh->Prop}{J:It}(it:FI β J ds M1 H1) (hlen:ds.length<sizeLine) {i m:Nat}{τ:St}{H:Hp}(w:pC Γ β D M1 H1 g tt te ds Q' i m τ H)
  {C:V->St->Hp->Prop} (hC:∀y au H4 acc,H4 D=some (.lst acc)->acc.length<sizeLine->(∃m',m'<m/\pC Γ β D M1 H1 g tt te ds Q' (i+1) m' au (upd H4 D (.lst (acc++[y]))))->C y au H4) :
  (J.stop i H/\∃aT M acc cf,Acc Γ β D M1 H1 aT M τ H acc cf/\acc.length<sizeLine/\Q' cf M) \/
  (J.go i H/\∀x H',J.yld i H x H'->lG Γ g x τ H' fun au H2=>lT Γ tt au H2 fun b H3=>if b=true then lE Γ te au H3 fun y H4=>C y au H4 else ∃m',m'<m/\pC Γ β D M1 H1 g tt te ds Q' (i+1) m' au H3) :=by
 obtain⟨rfl,hi,aT,M,acc,cf,A,CT,h⟩:=w;have q:=it (β.add D) M H (.add A.h1) A.ey A.zr.mz i;by_cases aM:i<ds.length
 ·refine .inr ⟨(q.1 aM).1,fun x H' y=>?_⟩
  obtain⟨x2,d,hd,rd⟩:=(q.1 aM).2 x H' y;have e:ds.drop i=d::ds.drop (i+1) :=by
   rw[Do aM];rw[ap aM]at hd;cases hd;rfl
  rw[e]at h;have A2:=A.step x2 (A.zr.step x2);refine⟨β.add D,d,aT,M,_,A2.zr,rd,h,fun cy M3 je H3 x3 z3 h3=>?_⟩
  have A3:=A2.step x3 z3;refine⟨β.add D,cy,M3,_,z3,h3,fun b M4 H4 x4 h4=>?_⟩
  have A4:=A3.step x4 (z3.step x4);cases b with
  |false=>
   dsimp only at h4 ⊢;rw[if_neg gc]at h4 ⊢;exact⟨ds.length - (i+1),by omega,rfl,aM,cy,M4,acc,cf,A4,by omega,h4⟩
  |true=>
   dsimp only at h4 ⊢;rw[if_pos rfl]at h4 ⊢;refine⟨β.add D,cy,M4,_,A4.zr,h4,fun yd M5 yv H5 x5 r5 h5=>?_⟩
   have A5:=A4.step x5 (A4.zr.step x5);refine hC yv je H5 acc A5.at' (by omega) ⟨ds.length - (i+1),by omega,rfl,aM,cy,M5,acc++[yv],cf++[yd],A5.snoc r5,by simp;omega,?_⟩
   have e2:(fun ys M2=>Q' (cf++[yd]++ys) M2)=fun ys M2=>Q' (cf++yd::ys) M2 :=by
    funext ys M2
    rw[GM];rfl
   rw[e2];exact h5
 ·have e:i=ds.length :=by omega
  subst e;rw[Nl]at h;refine .inl ⟨q.2 (cb _),aT,M,acc,cf,A,by omega,?_⟩
  have h':Q' (cf++[]) M:=h;rwa [Ix]at h'
theorem tK {D:ag}{M1:Mh}{H1:Hp}{ds:List Dv}{Q':List Dv->Mh->Prop}{aT:aA}{τ:St}(zr:Zr Γ β M1 aT τ H1) (hD:H1 D=none) (h:gV g tt te ds aT M1 Q'):pC Γ β D M1 H1 g tt te ds Q' 0 ds.length τ (upd H1 D (.lst [])):=
 ⟨rfl,ut _,aT,M1,[],[],.start zr hD,cb _,h⟩
theorem FR {σ:St}{H:Hp}{Q:VK}(h:lE Γ (zComp tn idx zi g tt te) σ H Q):sE tn idx (lI Γ zi) (lG Γ g) (lT Γ tt) (lE Γ te) σ H Q :=by
 obtain⟨β,ρ,M,Q',zr,h,q⟩:=h;refine⟨β,ρ,M,_,zr,h,fun ds M1 H1 J x1 it ⟨hlen,h1⟩ D hD=>?_⟩
 have gi:=zr.step x1;refine⟨pC Γ β D M1 H1 g tt te ds fun ys M2=>Q' (.lst ys) M2,⟨_,tK (gi.block tn idx) hD h1⟩,fun i m τ H' w=>?_⟩
 rcases vB it hlen w (C:=fun y au H4=>∃ys m',H4 D=some (.lst ys)/\ys.length<sizeLine/\m'<m/\pC Γ β D M1 H1 g tt te ds (fun ys M2=>Q' (.lst ys) M2) (i+1) m' au (upd H4 D (.lst (ys++[y])))) (fun y au H4 acc e hl ⟨m',hm,w'⟩=>⟨acc,m',e,hl,hm,w'⟩) with ⟨hs,aT,M',acc,cf,A,_,hq⟩|z
 ·exact .inl ⟨hs,q _ _ _ _ (x1.trans A.ex) (mZ (A.fz gi.mz) A.at' A.items) hq⟩
 ·exact .inr z
theorem uB {σ:St}{H:Hp}{Q:VK}(h:lE Γ (zCompP tn idx zi g tt te) σ H Q):sE tn idx (lI Γ zi) (lG Γ g) (lT Γ tt) (lE Γ te) σ H Q :=by
 obtain⟨β,ρ,M,Q',zr,h,q⟩:=h;refine⟨β,ρ,M,_,zr,h,fun ds M1 H1 J x1 it ⟨hlen,h1⟩ D hD=>?_⟩
 have gi:=zr.step x1;refine⟨pC Γ β D M1 H1 g tt te ds fun ys M2=>∀a,M2 a=none->Q' (.ptr a) (aw M2 a (.lst ys)),⟨_,tK (gi.block tn idx) hD h1⟩,fun i m τ H' w=>?_⟩
 rcases vB it hlen w (C:=fun y au H4=>∃ys m',H4 D=some (.lst ys)/\ys.length<sizeLine/\m'<m/\pC Γ β D M1 H1 g tt te ds (fun ys M2=>∀a,M2 a=none->Q' (.ptr a) (aw M2 a (.lst ys))) (i+1) m' au (upd H4 D (.lst (ys++[y])))) (fun y au H4 acc e hl ⟨m',hm,w'⟩=>⟨acc,m',e,hl,hm,w'⟩) with ⟨hs,aT,M',acc,cf,A,_,hq⟩|z
 ·refine .inl ⟨hs,?_⟩;have Wk:D ∉ β.hid:=(A.fz gi.mz).2;have hM:M' D=none:=A.m;have mz:Mz β (aw M' D (.lst cf)) H':=by
   have rz:∀{v:V} {d:Dv},Rz (β.add D) M' H' v d->Rz β (aw M' D (.lst cf)) H' v d:=fun r=>by
    have ne:∀a,Fz (β.add D) M' a->Fz β (aw M' D (.lst cf)) a:=fun a f=>⟨by rw[ai (fun z=>f.2 (by rw[z];exact ii))];exact f.1,fun z=>f.2 (db _ z)⟩
    induction r with
    |int i=>exact .int i
    |bl b=>exact .bl b
    |ay=>exact .ay
    |str z=>exact .str z
    |tup m e hl h ih=>exact .tup (ne _ m) e hl ih
    |lst m e hl h ih=>exact .lst (ne _ m) e hl ih
    |dk m e hk hl h ih=>exact .dk (ne _ m) e hk hl ih
    |dt m e hk hl h ih=>exact .dt (ne _ m) e hk hl ih
    |dr m e m2 e2 hl h ih=>exact .dr (ne _ m) e (ne _ m2) e2 hl ih
    |set m e=>exact .set (ne _ m) e
    |ptr m=>exact .ptr (by unfold aw;split;rfl;exact m)
    |exc m e=>exact .exc (ne _ m) e
    |bB m e=>exact .bB (ne _ m) e
    |cJ m e=>exact .cJ (ne _ m) e
    |cK e=>exact .cK e
    |raw v=>exact .raw v
   refine⟨fun a o e=>?_,A.zr.mz.tabs,fun a ha=>A.zr.mz.hids a (db _ ha),fun a o e z=>?_,A.zr.mz.lams⟩
   by_cases ha:a=D
   ·subst ha;rw[updM_same]at e;cases e;exact⟨acc,A.at',A.rs.len,fun i v d a b=>rz (A.rs.at' i v d a b)⟩
   ·rw[ai ha]at e;have z:=A.zr.mz.obj a o e;cases o with
    |lst ds=>obtain⟨vs,z,l,r⟩:=z;exact⟨vs,z,l,fun i v d a b=>rz (r i v d a b)⟩
    |dk ks ds=>obtain⟨vs,z,hk,l,r⟩:=z;exact⟨vs,z,hk,l,fun i v d a b=>rz (r i v d a b)⟩
    |dt ks ds=>obtain⟨vs,z,hk,l,r⟩:=z;exact⟨vs,z,hk,l,fun i v d a b=>rz (r i v d a b)⟩
    |ts ks ds=>obtain⟨vs,z,hk,l,r⟩:=z;exact⟨vs,z,hk,l,fun i v d a b=>rz (r i v d a b)⟩
    |dS=>exact z
   ·by_cases ha:a=D
    ·subst ha;exact Wk z
    ·rw[ai ha]at e;exact A.zr.mz.apart a o e (db _ z)
  have ey:Ey M1 H1 (aw M' D (.lst cf)) H':=⟨A.ey.keep,fun a h=>by unfold aw;split;rfl;exact A.ey.dom a h,fun a o m e=>by rw[ai (bt e A.h1)];exact A.ey.new a o m e⟩
  exact q _ _ _ _ (x1.trans ⟨ey,mz⟩) (.ptr (by rw[updM_same];rfl)) (hq D hM)
 ·exact .inr z
theorem Ij {P:ag}{zi:ef}{R:It->Hp->Prop}{σ:St}{H:Hp}{ρ:aA}{M:Mh}{R':List Dv->Mh->Prop}(hP:P∈Γ.tb) (zr:Zr Γ β M ρ σ H) (h:zi ρ M R') (q:∀ds M' H' J,Ex β M H M' H'->FI β J ds M' H'->R' ds M'->R J H'):EV P (lI Γ zi) R σ H :=by
 refine⟨β,ρ,M,_,zr,h,fun ds M1 H1 J x1 it h1=>?_⟩
 have JH:P∈β.tb :=by rw[zr.et];exact hP
 refine⟨x1.mz.tabs P JH,fun ps t=>?_⟩
 have x2:=Ex.grow x1.mz JH t;refine q ds M1 _ J (x1.trans x2) (fun cO M' H' bx ey mz=>it cO M' H' ⟨bx.P,bx.w,bx.K,bx.tb,bx.old,fun a ha=>?_⟩ (x2.toEy.trans ey) mz) h1
 rcases bx.new a ha with z|z
 ·exact .inl z
 ·right;cases e:H1 a with
  |none=>rfl
  |some o=>obtain⟨u,hu⟩:=Ib (p:=P) (o:=.cV ps) ⟨o,e⟩;rw[z]at hu;cases hu
def mn (g:bP) (tt:ck) (te:aE):List Dv->aA->Mh->(Bool->Mh->Prop)->Prop
 | [],_,M,Q=>Q true M
 |d::ds,τ,M,Q=>g d τ M fun au M2=>tt au M2 fun b M3=>if b=true then te au M3 (zBool fun c M4=>if c=false then Q false M4 else mn g tt te ds au M4 Q) else mn g tt te ds au M3 Q
def zAll (tn:Nat) (idx:List Nat) (zi:ef) (g:bP) (tt:ck) (te:aE):aE:=fun ρ M Q=>zi ρ M fun ds M1=>mn g tt te ds (zBlock tn idx ρ) M1 fun b M2=>Q (.bl b) M2
theorem R6 {P:ag}(hP:P∈Γ.tb) {σ:St}{H:Hp}{Q:VK}(h:lE Γ (zAll tn idx zi g tt te) σ H Q):NT P tn idx (lI Γ zi) (lG Γ g) (lT Γ tt) (lE Γ te) σ H Q :=by
 obtain⟨β,ρ,M,Q',zr,h,q⟩:=h;refine Ij hP zr h fun ds M1 H1 J x1 it h1=>?_
 have gi:=zr.step x1;refine⟨fun i m τ H'=>m=ds.length - i/\i<=ds.length/\∃aT M',Ex β M1 H1 M' H'/\Zr Γ β M' aT τ H'/\mn g tt te (ds.drop i) aT M' fun b M2=>Q' (.bl b) M2,⟨_,rfl,ut _,_,M1,.refl x1.mz,gi.block tn idx,h1⟩,?_⟩
 rintro i m τ H' ⟨rfl,hi,aT,M',x',fq,h'⟩;have qq:=it β M' H' .refl x'.toEy x'.mz i;by_cases aM:i<ds.length
 ·refine .inr ⟨(qq.1 aM).1,fun x jO y=>?_⟩
  obtain⟨x2,d,hd,rd⟩:=(qq.1 aM).2 x jO y;have e:ds.drop i=d::ds.drop (i+1) :=by
   rw[Do aM];rw[ap aM]at hd;cases hd;rfl
  rw[e]at h';refine⟨β,d,aT,M',_,fq.step x2,rd,h',fun cy M3 je H3 x3 z3 h3=>⟨β,cy,M3,_,z3,h3,fun b M4 H4 x4 h4=>?_⟩⟩
  have lr:=x'.trans (x2.trans (x3.trans x4));cases b with
  |false=>
   dsimp only at h4 ⊢;rw[if_neg gc]at h4 ⊢;exact⟨ds.length - (i+1),by omega,rfl,aM,cy,M4,lr,z3.step x4,h4⟩
  |true=>
   dsimp only at h4 ⊢;rw[if_pos rfl]at h4 ⊢;refine⟨β,cy,M4,_,z3.step x4,h4,fun yd M5 yv H5 x5 r5 h5=>?_⟩
   obtain⟨k,rfl,h6⟩:=iy h5;refine⟨k,cL r5,?_⟩;cases k with
   |false=>
    rw[if_pos rfl]at h6 ⊢;exact q _ _ _ _ (x1.trans (lr.trans x5)) (.bl _) h6
   |true=>
    rw[if_neg (by decide)]at h6 ⊢
    exact⟨ds.length - (i+1),by omega,rfl,aM,cy,M5,lr.trans x5,(z3.step x4).step x5,h6⟩
 ·have e:i=ds.length :=by omega
  subst e;rw[Nl]at h';exact .inl ⟨qq.2 (cb _),q _ _ _ _ (x1.trans x') (.bl _) h'⟩
end
section
variable {X:Cx}{Γ:Gz}{β:Bz}{K:bv}
def zII (f:Int->Int->Dv):eZ:=fun d e M Q=>match d,e with | .int i,.int j=>Q (f i j) M|_,_=>False
def zIC (C:Int->Int->Prop) (f:Int->Int->Dv):eZ:=fun d e M Q=>match d,e with | .int i,.int j=>C i j/\Q (f i j) M|_,_=>False
theorem pD {g:Int->Int->V}{f:Int->Int->Dv}(h:∀β M H i j,Rz β M H (g i j) (f i j)):qX Γ (u0 g) (zII f):=fun β x y d e M H Q Q' _ _ _ m rx ry z q=>by
 unfold zII at z;split at z
 ·exact⟨_,_,aI rx,aI ry,q _ _ _ _ (.refl m) (h ..) z⟩
 ·exact z.elim
theorem tL {C:Int->Int->Prop}{g:Int->Int->V}{f:Int->Int->Dv}(h:∀β M H i j,Rz β M H (g i j) (f i j)):qX Γ (rI C g) (zIC C f):=fun β x y d e M H Q Q' _ _ _ m rx ry z q=>by
 unfold zIC at z;split at z
 ·exact⟨_,_,aI rx,aI ry,z.1,q _ _ _ _ (.refl m) (h ..) z.2⟩
 ·exact z.elim
theorem fR:fP Γ X (binaryOp .Add) (zII fun i j=>.int (i+j)):=⟨_,Nf,pD fun _ _ _ _ _=>.int _⟩
theorem wC:fP Γ X (binaryOp .Sub) (zII fun i j=>.int (i - j)):=⟨_,Ng,pD fun _ _ _ _ _=>.int _⟩
theorem nF:fP Γ X (binaryOp .Mult) (zIC Cw fun i j=>.int (i * j)):=⟨_,Nh,tL fun _ _ _ _ _=>.int _⟩
theorem yc:fP Γ X (binaryOp .FloorDiv) (zIC Nb fun i j=>.int (i / j)):=⟨_,KQ,tL fun _ _ _ _ _=>.int _⟩
theorem mq:fP Γ X (binaryOp .Mod) (zIC (fun _ j=>0<j) fun i j=>.int (i % j)):=⟨_,Ni,tL fun _ _ _ _ _=>.int _⟩
theorem R7:fP Γ X (binaryOp .Pow) (zIC Nc fun i j=>.int (i ^ j.toNat)):=⟨_,Nj,tL fun _ _ _ _ _=>.int _⟩
theorem uC:fP Γ X (compareOp .Lt) (zII fun i j=>.bl (decide (i<j))):=⟨_,RB,pD fun _ _ _ _ _=>.bl _⟩
theorem Ik:fP Γ X (compareOp .LtE) (zII fun i j=>.bl (decide (i<=j))):=⟨_,RC,pD fun _ _ _ _ _=>.bl _⟩
theorem OW:fP Γ X (compareOp .Gt) (zII fun i j=>.bl (decide (j<i))):=⟨_,RD,pD fun _ _ _ _ _=>.bl _⟩
def scalZ (d e:Dv):Option Bool:=match d with
 | .int i=>(match e with | .int j=>some (decide (i=j)) | .ay=>some false | .str _=>some false|_=>none)
 | .bl i=>(match e with | .bl j=>some (decide (i=j)) | .ay=>some false | .str _=>some false|_=>none)
 | .str i=>(match e with | .str j=>some (decide (i=j)) | .ay=>some false | .int _=>some false | .bl _=>some false|_=>none)
 | .ay=>(match e with | .ay=>some true | .int _=>some false | .bl _=>some false | .str _=>some false|_=>none)
 |_=>none
def zEq:eZ:=fun d e M Q=>match scalZ d e with|some b=>Q (.bl b) M|none=>False
def zNe:eZ:=fun d e M Q=>match scalZ d e with|some b=>Q (.bl (!b)) M|none=>False
theorem ye {M:Mh}{H:Hp}{x y:V}{d e:Dv}{b:Bool}(rx:Rz β M H x d) (ry:Rz β M H y e) (h:scalZ d e=some b):Hl x y=true/\decide (x=y)=b :=by
 unfold scalZ at h;split at h
 ·rw[aI rx];split at h<;>cases h
  ·rw[aI ry];exact⟨rfl,by simp⟩
  ·rw[jN ry];exact⟨rfl,by simp⟩
  ·rw[bX ry];exact⟨rfl,by simp⟩
 ·rw[cL rx];split at h<;>cases h
  ·rw[cL ry];exact⟨rfl,by simp⟩
  ·rw[jN ry];exact⟨rfl,by simp⟩
  ·rw[bX ry];exact⟨rfl,by simp⟩
 ·rw[bX rx];split at h<;>cases h
  ·rw[bX ry];exact⟨rfl,by simp⟩
  ·rw[jN ry];exact⟨rfl,by simp⟩
  ·rw[aI ry];exact⟨rfl,by simp⟩
  ·rw[cL ry];exact⟨rfl,by simp⟩
 ·rw[jN rx];split at h<;>cases h
  ·rw[jN ry];exact⟨rfl,by simp⟩
  ·rw[aI ry];exact⟨rfl,by simp⟩
  ·rw[cL ry];exact⟨rfl,by simp⟩
  ·rw[bX ry];exact⟨rfl,by simp⟩
 ·cases h
theorem rQ:fP Γ X (compareOp .Eq) zEq:=⟨_,Ry,fun β x y d e M H Q Q' _ _ _ m rx ry z q=>by
 unfold zEq at z;split at z
 ·rename_i b hb;obtain⟨h1,h2⟩:=ye rx ry hb;exact⟨h1,by rw[h2];exact q _ _ _ _ (.refl m) (.bl _) z⟩
 ·exact z.elim⟩
theorem Il:fP Γ X (compareOp .NotEq) zNe:=⟨_,RA,fun β x y d e M H Q Q' _ _ _ m rx ry z q=>by
 unfold zNe at z;split at z
 ·rename_i b hb;obtain⟨h1,h2⟩:=ye rx ry hb;exact⟨h1,by rw[h2];exact q _ _ _ _ (.refl m) (.bl _) z⟩
 ·exact z.elim⟩
def isNonD:Dv->Option Bool
 | .ay=>some true
 | .raw _=>none
 |_=>some false
def zIsN (neg:Bool):eZ:=fun d e M Q=>match e,isNonD d with | .ay,some b=>Q (.bl (if neg then !b else b)) M|_,_=>False
def zSS (C:ci->ci->Prop) (f:ci->ci->Dv):eZ:=fun d e M Q=>match d,e with | .str i,.str j=>C i j/\Q (f i j) M|_,_=>False
def J1 (i j:ci):Bool := !(OK j i 0 j.length 1).isEmpty
theorem Im:fP Γ X (compareOp .In) (zSS (fun _ _=>True) fun i j=>.bl (J1 i j)):=⟨_,Eo,fun β x y d e M H Q Q' _ _ _ m rx ry z q=>by
 unfold zSS at z;split at z
 ·exact⟨_,_,bX rx,bX ry,q _ _ _ _ (.refl m) (.bl _) z.2⟩
 ·exact z.elim⟩
mutual
def cg:Dv->Option Dt
 | .int i=>some (.int i)
 | .bl b=>some (.bl b)
 | .ay=>some .ay
 | .str z=>some (.str z)
 | .tup ds=>(ie ds).map .tup
 | .lst ds=>(ie ds).map .lst
 |_=>none
def ie:List Dv->Option (List Dt)
 | []=>some []
 |d::ds=>match cg d,ie ds with|some a,some as=>some (a::as)|_,_=>none
end
theorem nG:∀{ds:List Dv}{ts:List Dt},ie ds=some ts->ds.length=ts.length/\∀(i:Nat) (d:Dv) (t:Dt),ds[i]?=some d->ts[i]?=some t->cg d=some t
 | [],ts,h=>by simp only[ie,LP]at h;subst h;exact⟨rfl,fun i d t a=>by simp at a⟩
 |d::ds,ts,h=>by
          simp only[ie]at h;split at h
          ·rename_i a as h1 h2;cases h;obtain⟨hl,q⟩:=nG h2;refine⟨by simp[hl],fun i e t x y=>?_⟩
           cases i with
           |zero=>simp at x y;subst x y;exact h1
           |succ i=>rw[FM]at x y;exact q i e t x y
          ·cases h
theorem FT {M:Mh}{H:Hp}{v:V}{d:Dv}(h:Rz β M H v d):∀{t:Dt},cg d=some t->fj H v t :=by
 induction h with
 |int i=>intro t e;simp only[cg,LP]at e;subst e;exact .int i
 |bl b=>intro t e;simp only[cg,LP]at e;subst e;exact .bl b
 |ay=>intro t e;simp only[cg,LP]at e;subst e;exact .ay
 |str z=>intro t e;simp only[cg,LP]at e;subst e;exact .str z
 |tup m e hl h ih=>
  intro t q;simp only[cg,rc]at q;obtain⟨ts,q,rfl⟩:=q;obtain⟨l2,at2⟩:=nG q;refine .tup e (hl.trans l2) fun i x d hx hd=>?_
  have hi:=(ca.mp hd).1;have:=ap (l:=_) (i:=i) (show i<_ from l2▸hi);exact ih i x _ hx this (at2 i _ _ this hd)
 |lst m e hl h ih=>
  intro t q;simp only[cg,rc]at q;obtain⟨ts,q,rfl⟩:=q;obtain⟨l2,at2⟩:=nG q;refine .lst e (hl.trans l2) fun i x d hx hd=>?_
  have hi:=(ca.mp hd).1;have:=ap (l:=_) (i:=i) (show i<_ from l2▸hi);exact ih i x _ hx this (at2 i _ _ this hd)
 |set m e=>intro t q;simp[cg]at q
 |ptr m=>intro t q;simp[cg]at q
 |exc m e=>intro t q;simp[cg]at q
 |bB m e=>intro t q;simp[cg]at q
 |cJ m e=>intro t q;simp[cg]at q
 |cK e=>intro t q;simp[cg]at q
 |dk m e hk hl h ih=>intro t q;simp[cg]at q
 |dt m e hk hl h ih=>intro t q;simp[cg]at q
 |dr m e m2 e2 hl h ih=>intro t q;simp[cg]at q
 |raw v=>intro t q;simp[cg]at q
def now (M:Mh):Dv->Dv
 | .ptr a=>match M a with|some (.lst ds)=>.lst ds|_=>.ptr a
 |d=>d
theorem Bs {M:Mh}{H:Hp}{v:V}{d:Dv}(m:Mz β M H) (h:Rz β M H v d) {t:Dt}(e:cg (now M d)=some t):fj H v t :=by
 cases d with
 |ptr a=>
  simp only[now]at e;obtain⟨rfl,hs⟩:=bL h;cases q:M a with
  |none=>rw[q]at hs;cases hs
  |some o=>
   rw[q]at e;cases o with
   |dS=>simp[cg]at e
   |dk ks es=>simp[cg]at e
   |dt ks es=>simp[cg]at e
   |ts ks es=>simp[cg]at e
   |lst ds=>
    obtain⟨vs,hv,rs⟩:=m.obj a _ q;simp only[cg,rc]at e;obtain⟨ts,q,rfl⟩:=e;obtain⟨l2,at2⟩:=nG q;refine .lst hv (rs.len.trans l2) fun i x d hx hd=>?_
    have hi:=(ca.mp hd).1;have:=ap (l:=_) (i:=i) (show i<_ from l2▸hi);exact FT (rs.at' i x _ hx this) (at2 i _ _ this hd)
 |_=>exact FT h e
def itemsM (M:Mh):Dv->Option (List Dv)
 | .tup ds=>some ds
 | .lst ds=>some ds
 | .ptr a=>match M a with|some (.lst ds)=>some ds|_=>none
 |_=>none
theorem jj {M:Mh}{H:Hp}{x:V}{d:Dv}{ds:List Dv}(m:Mz β M H) (r:Rz β M H x d) (h:itemsM M d=some ds):∃a vs,x=.ref a/\(H a=some (.lst vs)\/H a=some (.tup vs))/\aJ β M H vs ds :=by
 cases d with
 |tup es=>cases h;obtain⟨a,vs,e,_,h,rs⟩:=cj r;exact⟨a,vs,e,.inr h,rs⟩
 |lst es=>cases h;obtain⟨a,vs,e,_,h,rs⟩:=eY r;exact⟨a,vs,e,.inl h,rs⟩
 |ptr a=>
  obtain⟨rfl,hs⟩:=bL r;simp only[itemsM]at h;split at h
  ·rename_i es q;cases h;obtain⟨vs,hv,rs⟩:=m.obj a _ q;exact⟨a,vs,rfl,.inl hv,rs⟩
  ·cases h
 |_=>cases h
theorem Lp {M:Mh}{H:Hp}{vs:List V}{ds:List Dv}(rs:aJ β M H vs ds) {i:Int}{d:Dv}(h:bj ds i=some d):∃v,bj vs i=some v/\Rz β M H v d :=by
 unfold bj at h ⊢;rw[rs.len];cases e:dH ds.length i with
 |none=>rw[e]at h;cases h
 |some j=>
  rw[e]at h;obtain⟨v,hv,r⟩:=rs.get (i:=j) (d:=d) h;exact⟨v,hv,r⟩
def OX (Γ:Gz) (X:Cx) (z:eZ):Prop:=∃r,oC X r/\qX Γ r z
def zIx:eZ:=fun d e M Q=>match e with
 | .int i=>(match d with
  | .str z=>z.length<=sizeLine/\(match bj z.cps.toList i with|some c=>Q (.str ⟨#[c]⟩) M|none=>False)
  |_=>match itemsM M d with|some ds=>(match bj ds i with|some r=>Q r M|none=>False)|none=>False)
 |_=>False
theorem aY (hK:X.K=K):OX Γ X zIx:=⟨_,AV hK,fun β x y d e M H Q Q' _ _ _ m rx ry z q=>by
 unfold zIx at z;split at z
 ·rename_i i;have hy:=aI ry;split at z
  ·rename_i s;obtain⟨hz,z⟩:=z;split at z
   ·rename_i c hc;exact .inr (.inr ⟨s,i,c,bX rx,hy,hz,hc,q _ _ _ _ (.refl m) (.str _) z⟩)
   ·exact z.elim
  ·split at z
   ·rename_i ds vC;obtain⟨a,vs,rfl,ha,rs⟩:=jj m rx vC;split at z
    ·rename_i r hr;obtain⟨v,hv,rv⟩:=Lp rs hr;have z':=q _ _ _ _ (.refl m) rv z;rcases ha with ha|ha
     ·exact .inl ⟨a,vs,i,v,rfl,hy,bF.of ha,hv,z'⟩
     ·exact .inr (.inl ⟨a,vs,i,v,rfl,hy,c9.of ha,hv,z'⟩)
    ·exact z.elim
   ·exact z.elim
 ·exact z.elim⟩
theorem aK {a b:io}{pa pb:aE}{z:eZ}{pos:wv}(hr:OX Γ X z) (ha:QE Γ X a pa) (hb:QE Γ X b pb) (hs:AQ b):QE Γ X (.Subscript a b pos) (zOp z pa pb) :=by
 obtain⟨r,h1,h2⟩:=hr;exact(RG h1 ha hb hs).imp fun σ H Q h=>De h2 h
abbrev FU:=aA->Mh->(Option Int->Mh->Prop)->Prop
def lO (Γ:Gz) (p:FU):TO:=fun σ H Q=>∃(β:Bz) (ρ:aA) (M:Mh) (Q':Option Int->Mh->Prop),Zr Γ β M ρ σ H/\p ρ M Q'/\∀o M' H',Ex β M H M' H'->Q' o M'->Q o H'
def zoNone:FU:=fun _ M Q=>Q none M
def zoSome (p:aE):FU:=fun ρ M Q=>p ρ M fun d M1=>match d with | .int i=>Q (some i) M1|_=>False
theorem PO.imp {e:Option io}{t t':TO}(h:PO X e t) (i:∀σ H Q,t' σ H Q->t σ H Q):PO X e t':=fun pins s σ H Q I q=>h pins s σ H Q I (i _ _ _ q)
theorem Bt:PO X none (lO Γ zoNone):=PO.imp ue fun σ H Q ⟨β,ρ,M,Q',zr,h,q⟩=>q _ _ _ (.refl zr.mz) h
theorem Bu {e:io}{p:aE}(h:QE Γ X e p):PO X (some e) (lO Γ (zoSome p)):=PO.imp (AO h) fun σ H Q ⟨β,ρ,M,Q',zr,h,q⟩=>⟨β,ρ,M,_,zr,h,fun d M1 v H1 x1 r1 h1=>by
 revert h1
 split
 ·intro h1;exact⟨_,aI r1,q _ _ _ x1 h1⟩
 ·exact fun z=>z.elim⟩
abbrev J4:=Dv->Option Int->Option Int->Mh->ZK->Prop
def Tt (Γ:Gz) (X:Cx) (z:J4):Prop:=∃r,JG X r/\∀(β:Bz) x d lo hi M H Q Q',β.P=Γ.P->β.w=Γ.w->β.K=Γ.K->Mz β M H->Rz β M H x d->z d lo hi M Q'->(∀d' M' v H',Ex β M H M' H'->Rz β M' H' v d'->Q' d' M'->Q v H')->r x lo hi H Q
def zSl (z:J4) (p:aE) (l h:FU):aE:=fun ρ M Q=>p ρ M fun d M1=>l ρ M1 fun lo M2=>h ρ M2 fun hi M3=>z d lo hi M3 Q
theorem yf {z:J4}{e:io}{p:aE}{lo hi:Option io}{l h:FU}{p2 pos:wv}(hr:Tt Γ X z) (he:QE Γ X e p) (hl:PO X lo (lO Γ l)) (hu:PO X hi (lO Γ h)):QE Γ X (.Subscript e (.Slice lo hi none p2) pos) (zSl z p l h) :=by
 obtain⟨r,h1,h2⟩:=hr;exact(Ht h1 he hl hu).imp fun σ H Q ⟨β,ρ,M,Q',zr,h,q⟩=>⟨β,ρ,M,_,zr,h,fun d M1 v H1 x1 r1 h1=>⟨β,ρ,M1,_,zr.step x1,h1,fun o M2 H2 x2 h3=>⟨β,ρ,M2,_,(zr.step x1).step x2,h3,fun o2 M3 H3 x3 h4=>
  h2 β v d o o2 M3 H3 _ _ zr.eP zr.ew zr.eK x3.mz ((r1.ex x2).ex x3) h4 fun d' M' v' H' x4 r4 q4=>q _ _ _ _ (x1.trans (x2.trans (x3.trans x4))) r4 q4⟩⟩⟩
def zSlS:J4:=fun d lo hi M Q=>match d with | .str s=>s.length<=sizeLine/\Q (.str (ZD s lo hi)) M|_=>False
theorem J5:Tt Γ X zSlS:=⟨_,NW,fun β x d lo hi M H Q Q' _ _ _ m rx z q=>by
 unfold zSlS at z;split at z
 ·exact⟨_,bX rx,z.1,q _ _ _ _ (.refl m) (.str _) z.2⟩
 ·exact z.elim⟩
section
variable {x:ci}{p pos:wv}{e:io}{es:List io}{za:gh}{id T:String}{z:vz}
theorem aC (hc:fQ Γ X (.builtin id) z) (hg:Gl X x) (hm:X.mg x=none) (hv:zd x=some (.builtin id)) (ha:QA Γ X (e::es) za) (hn:x ≠ "__name__" := by decide) (kT:(x==("__debug__" : ci))=false :=by decide)
  (he:lw (e::es) X.env=(false,eval e X.env)::lw es X.env :=by rfl) (dA:(backTo pos (lw es X.env)).any (·.1)=false :=by rfl):QE Γ X (.Call (.Name x p) (e::es) [] pos) (zCB z za) :=by
 obtain⟨r,h1,h2⟩:=hc;exact(Hs h1 hg hm hv ha hn kT he dA).imp fun σ H Q h=>OS h2 h
theorem jS (hc:fQ Γ X (.type T) z) (hg:Gl X x) (hm:X.mg x=none) (hv:zd x=some (.type T)) (ha:QA Γ X (e::es) za) (hn:x ≠ "__name__" := by decide) (kT:(x==("__debug__" : ci))=false :=by decide)
  (he:lw (e::es) X.env=(false,eval e X.env)::lw es X.env :=by rfl) (dA:(backTo pos (lw es X.env)).any (·.1)=false :=by rfl):QE Γ X (.Call (.Name x p) (e::es) [] pos) (zCB z za) :=by
 obtain⟨r,h1,h2⟩:=hc;exact(Ew h1 hg hm hv ha hn kT he dA).imp fun σ H Q h=>OS h2 h
end
def z1 (f:Dv->Mh->ZK->Prop):vz:=fun ds M Q=>match ds with | [d]=>f d M Q|_=>False
def zLenD (d:Dv) (M:Mh) (Q:ZK):Prop:=match d with
 | .str s=>s.length<=sizeLine/\Q (.int s.length) M
 | .bB ns=>Q (.int ns.length) M
 |_=>match itemsM M d with|some ds=>Q (.int ds.length) M|none=>False
theorem bI (hK:X.K=K) (hG:K=Γ.K):fQ Γ X (.builtin "len") (z1 zLenD):=⟨_,E6 hK,fun β xs ds M H Q Q' _ _ eK m rs z q=>by
 rw[<- hG]at eK;unfold z1 at z;split at z
 ·rename_i d;obtain⟨x,rfl,r⟩:=de rs;unfold zLenD at z;split at z
  ·rename_i s;have e:=bX r;subst e;exact⟨_,_,rfl,⟨z.1,rfl⟩,q _ _ _ _ (.refl m) (.int _) z.2⟩
  ·rename_i ns;obtain⟨a,rfl,h⟩:=vy r;rw[eK]at h;exact⟨_,ns.length,rfl,.inl ⟨_,h,by simp⟩,q _ _ _ _ (.refl m) (.int _) z⟩
  ·split at z
   ·rename_i ds vC;obtain⟨a,vs,rfl,ha,ez⟩:=jj m r vC;have q':=q _ _ (.int ds.length) _ (.refl m) (.int _) z;rcases ha with ha|ha
    ·exact⟨_,ds.length,rfl,.inl ⟨vs,bF.of ha,ez.len.symm⟩,q'⟩
    ·exact⟨_,ds.length,rfl,.inr ⟨vs,c9.of ha,ez.len.symm⟩,q'⟩
   ·exact z.elim
 ·exact z.elim⟩
def z2I (f:Int->Int->Int):vz:=fun ds M Q=>match ds with | [.int i,.int j]=>Q (.int (f i j)) M|_=>False
theorem yg (hc:X.calm=true):fQ Γ X (.builtin "min") (z2I fun i j=>if j<i then j else i):=⟨_,Ep hc,fun β xs ds M H Q Q' _ _ _ m rs z q=>by
 unfold z2I at z;split at z
 ·obtain⟨x,y,rfl,r,r'⟩:=m7 rs;rw[aI r,aI r'];exact⟨_,_,rfl,q _ _ _ _ (.refl m) (.int _) z⟩
 ·exact z.elim⟩
def zAbs (d:Dv) (M:Mh) (Q:ZK):Prop:=match d with | .int i=>Q (.int (if i<0 then -i else i)) M|_=>False
theorem R8:fQ Γ X (.builtin "abs") (z1 zAbs):=⟨_,Ho,fun β xs ds M H Q Q' _ _ _ m rs z q=>by
 unfold z1 at z;split at z
 ·obtain⟨x,rfl,r⟩:=de rs;unfold zAbs at z;split at z
  ·rw[aI r];exact⟨_,rfl,q _ _ _ _ (.refl m) (.int _) z⟩
  ·exact z.elim
 ·exact z.elim⟩
def zListP (d:Dv) (M:Mh) (Q:ZK):Prop:=match itemsM M d with|some ds=>∀a,M a=none->Q (.ptr a) (aw M a (.lst ds))|none=>False
theorem Lq (hK:X.K=K):fQ Γ X (.type "list") (z1 zListP):=⟨_,v7 hK,fun β xs ds M H Q Q' _ _ _ m rs z q=>by
 unfold z1 at z;split at z
 ·obtain⟨x,rfl,r⟩:=de rs;unfold zListP at z;split at z
  ·rename_i ds vC;obtain⟨a,vs,rfl,ha,ez⟩:=jj m r vC;refine⟨a,vs,rfl,ha.imp bF.of c9.of,fun l hl=>?_⟩
   have x2:=Ex.own m (.inr hl) ez;exact q _ _ _ _ x2 (.ptr (by rw[updM_same];rfl)) (z l (m.free hl))
  ·exact z.elim
 ·exact z.elim⟩
def zTuple (d:Dv) (M:Mh) (Q:ZK):Prop:=match itemsM M d with|some ds=>Q (.tup ds) M|none=>False
theorem qp (hK:X.K=K):fQ Γ X (.type "tuple") (z1 zTuple):=⟨_,um hK,fun β xs ds M H Q Q' _ _ _ m rs z q=>by
 unfold z1 at z;split at z
 ·rename_i d;obtain⟨x,rfl,r⟩:=de rs;unfold zTuple at z;split at z
  ·rename_i ds vC;obtain⟨a,vs,rfl,ha,ez⟩:=jj m r vC;refine⟨a,vs,rfl,?_⟩;rcases ha with ha|ha
   ·refine .inl ⟨bF.of ha,fun l hl=>?_⟩
    have x2:=Ex.lay m hl (.tup vs);exact q _ _ _ _ x2 (tH (m.fz hl) aH (ez.ex x2)) z
   ·refine .inr ⟨c9.of ha,?_⟩;have f:Fz β M a :=by
     cases d with
     |tup es=>obtain⟨b,us,e,f,_⟩:=cj r;cases e;exact f
     |lst es=>obtain⟨b,us,e,f,_⟩:=eY r;cases e;exact f
     |ptr b=>
      obtain⟨e,hs⟩:=bL r;cases e;cases q2:M a with
      |none=>rw[q2]at hs;cases hs
      |some o=>have:=m.pq ha rfl;rw[q2]at this;cases this
     |_=>cases vC
    exact q _ _ _ _ (.refl m) (tH f ha ez) z
  ·exact z.elim
 ·exact z.elim⟩
def jA:List Dv->Option (List Int)
 | []=>some []
 | .int i::ds=>(jA ds).map (i::·)
 |_::_=>none
theorem yh:∀{ds:List Dv}{ns:List Int},jA ds=some ns->ds=ns.map Dv.int
 | [],ns,h=>by simp only[jA,LP]at h;subst h;rfl
 |d::ds,ns,h=>by
          cases d with
          |int i=>
           simp only[jA,rc]at h;obtain⟨ms,h,rfl⟩:=h;rw[yh h];rfl
          |_=>simp[jA]at h
theorem pE:∀ns:List Int,jA (ns.map Dv.int)=some ns
 | []=>rfl
 |n::ns=>by simp[jA,pE ns]
theorem iz {M:Mh}{H:Hp}:∀{vs:List V}{ns:List Int},aJ β M H vs (ns.map Dv.int)->vs=ns.map V.int
 | [],[],_=>rfl
 | [],_::_,r=>absurd r.len (by simp)
 |_::_,[],r=>absurd r.len (by simp)
 |v::vs,n::ns,r=>by
          rw[mo]at r;rw[mo,aI r.head,iz r.tail]
theorem rR {M:Mh}{H:Hp}:∀{ns:List Int},aJ β M H (ns.map V.int) (ns.map Dv.int)
 | []=>.nil
 |n::ns=>.cons (.int _) rR
def intsM (M:Mh) (d:Dv):Option (List Int):=match d with | .set ns=>some ns|_=>(itemsM M d).bind jA
def zSorted (d:Dv) (M:Mh) (Q:ZK):Prop:=match intsM M d with|some ns=>ns.length<64/\Q (.lst ((sortI ns).map .int)) M|none=>False
theorem vD {M:Mh}{H:Hp}{x:V}{d:Dv}{ns:List Int}(m:Mz β M H) (r:Rz β M H x d) (h:(itemsM M d).bind jA=some ns):∃a,x=.ref a/\(H a=some (.lst (ns.map V.int))\/H a=some (.tup (ns.map V.int))) :=by
 cases e:itemsM M d with
 |none=>rw[e]at h;cases h
 |some ds=>
  rw[e]at h;obtain⟨a,vs,rfl,ha,rs⟩:=jj m r e;have e2:=yh (ns:=ns) h;subst e2;have:=iz rs;subst this;exact⟨a,rfl,ha⟩
theorem Io (hP:X.prog=Γ.P) (hw:X.w=Γ.w) (hK:X.K=K) (hc:X.calm=true):fQ Γ X (.builtin "sorted") (z1 zSorted):=⟨_,v8 hP hw hK hc,fun β xs ds M H Q Q' eP ew _ m rs z q=>by
 unfold z1 at z;split at z
 ·rename_i d;obtain⟨x,rfl,r⟩:=de rs;unfold zSorted at z;split at z
  ·rename_i ns j8;have fin:∀l,H l=none->Q (.ref l) (upd H l (.lst ((sortI ns).map V.int))):=fun l hl=>by
    have x2:=Ex.lay m hl (.lst ((sortI ns).map V.int));exact q _ _ _ _ x2 (mZ (m.fz hl) aH rR) z.2
   unfold intsM at j8;split at j8
   ·cases j8;obtain⟨a,rfl,f,h⟩:=FH r;rw[eP,ew]at h;exact⟨a,_,rfl,.inl h,z.1,fin⟩
   ·obtain⟨a,rfl,ha⟩:=vD m r j8;exact⟨a,_,rfl,.inr (ha.imp bF.of c9.of),z.1,fin⟩
  ·exact z.elim
 ·exact z.elim⟩
def isD (T:String) (M:Mh) (d:Dv):Option Bool:=match d with
 | .int _=>some (T == "int") | .bl _=>some (T == "int" || T == "bool") | .ay=>some false | .str _=>some (T == "str") | .tup _=>some (T == "tuple") | .lst _=>some (T == "list") | .ptr a=>(match M a with|some (.lst _)=>some (T == "list")|some .dS=>some (T == "list")|some (.ts _ _)=>none|some _=>some false|none=>none)|_=>none
def uD:List String:=["int","bool","str","tuple","list"]
def zIsInst:vz:=fun ds M Q=>match ds with | [d,.raw (.ty T)]=>T∈uD/\(match isD T M d with|some b=>Q (.bl b) M|none=>False)|_=>False
theorem OY {K:bv}{M:Mh}{H:Hp}{x:V}{d:Dv}{T:String}{b:Bool}(m:Mz β M H) (hT:T∈uD) (r:Rz β M H x d) (h:isD T M d=some b):∃t,iq K H x t/\Z9 K t (.type T)=some b :=by
 have pf:T = "int" \/ T = "bool" \/ T = "str" \/ T = "tuple" \/ T = "list" := by simpa[uD] using hT
 cases r with
 |int i=>cases h;exact⟨_,.int i,by rcases pf with rfl|rfl|rfl|rfl|rfl<;>rfl⟩
 |bl i=>cases h;exact⟨_,.bl i,by rcases pf with rfl|rfl|rfl|rfl|rfl<;>rfl⟩
 |ay=>cases h;exact⟨_,.ay,by rcases pf with rfl|rfl|rfl|rfl|rfl<;>rfl⟩
 |str i=>cases h;exact⟨_,.str i,by rcases pf with rfl|rfl|rfl|rfl|rfl<;>rfl⟩
 |tup f e hl q=>cases h;exact⟨_,.tup e,by rcases pf with rfl|rfl|rfl|rfl|rfl<;>rfl⟩
 |lst f e hl q=>cases h;exact⟨_,.lst e,by rcases pf with rfl|rfl|rfl|rfl|rfl<;>rfl⟩
 |ptr hs=>
  rename_i a;cases q2:M a with
  |none=>rw[q2]at hs;cases hs
  |some o=>
   simp only[isD,q2]at h;have q:=m.obj a o q2;cases o with
   |lst ds=>obtain⟨vs,e,_⟩:=q;cases h;exact⟨_,.lst e,by rcases pf with rfl|rfl|rfl|rfl|rfl<;>rfl⟩
   |dS=>obtain⟨_,_,e,_⟩:=q;cases h;exact⟨_,.lst e,by rcases pf with rfl|rfl|rfl|rfl|rfl<;>rfl⟩
   |dk ks ds=>obtain⟨vs,e,_⟩:=q;cases h;exact⟨_,.dK e,by rcases pf with rfl|rfl|rfl|rfl|rfl<;>rfl⟩
   |dt ks ds=>obtain⟨vs,e,_⟩:=q;cases h;exact⟨_,.dT e,by rcases pf with rfl|rfl|rfl|rfl|rfl<;>rfl⟩
   |ts ks ds=>cases h
 |set f e=>cases h
 |exc f e=>cases h
 |bB f e=>cases h
 |cJ f e=>cases h
 |cK e=>cases h
 |raw v=>cases h
 |dk f e _ _ _=>cases h
 |dt f e _ _ _=>cases h
 |dr _ _ _ _ _ _=>cases h
theorem lu (hK:X.K=K):fQ Γ X (.builtin "isinstance") zIsInst:=⟨_,xm hK,fun β xs ds M H Q Q' _ _ _ m rs z q=>by
 unfold zIsInst at z;split at z
 ·obtain⟨x,y,rfl,r,r'⟩:=m7 rs;rw[FG r'];obtain⟨hT,z⟩:=z;split at z
  ·rename_i b hb;obtain⟨t,ht,hk⟩:=OY (K:=K) m hT r hb;exact⟨_,_,t,b,rfl,ht,hk,q _ _ _ _ (.refl m) (.bl _) z⟩
  ·exact z.elim
 ·exact z.elim⟩
abbrev ow:=Dv->List Dv->Mh->ZK->Prop
def vE (Γ:Gz) (X:Cx) (T id:String) (K:bv) (z:ow):Prop:=∃r,AR X id r/\∀(β:Bz) x xs d ds M H Q Q',β.P=Γ.P->β.w=Γ.w->β.K=Γ.K->Mz β M H->Rz β M H x d->aJ β M H xs ds->z d ds M Q'->(∀d' M' v H',Ex β M H M' H'->Rz β M' H' v d'->Q' d' M'->Q v H')->r x xs H Q
def tyZ (T:String) (M:Mh):Dv->Prop
 | .ptr a=>match M a with|some (.lst _)=>T = "list" |some .dS=>T = "list" |some (.dk _ _)=>T = "dict" |some (.dt _ _)=>T = "dict" |some (.ts _ _)=>False|none=>False
 | .lst _=>T = "list"
 | .tup _=>T = "tuple"
 | .str _=>T = "str"
 |_=>False
theorem OZ {M:Mh}{H:Hp}{x:V}{d:Dv}{T:String}(m:Mz β M H) (r:Rz β M H x d) (h:tyZ T M d):NF K T x H :=by
 cases r with
 |str=>exact h
 |lst f e _ _=>exact .inl ⟨h,_,bF.of e⟩
 |tup f e _ _=>exact .inr (.inl ⟨h,.inr ⟨_,e⟩⟩)
 |ptr hs=>
  rename_i a;cases q2:M a with
  |none=>rw[q2]at hs;cases hs
  |some o=>
   simp only[tyZ,q2]at h;have q:=m.obj a o q2;cases o with
   |lst ds=>obtain⟨vs,e,_⟩:=q;exact .inl ⟨h,_,bF.of e⟩
   |dS=>obtain⟨_,_,e,_⟩:=q;exact .inl ⟨h,_,bF.of e⟩
   |dk ks ds=>obtain⟨vs,e,_⟩:=q;exact .inr (.inr (.inl ⟨h,.inl ⟨_,e⟩⟩))
   |dt ks ds=>obtain⟨vs,e,_⟩:=q;exact .inr (.inr (.inl ⟨h,.inr ⟨_,e⟩⟩))
   |ts ks ds=>exact h.elim
 |_=>exact h.elim
def zBM (T:String) (z:ow) (po:aE) (pa:gh):aE:=fun ρ M Q=>po ρ M fun d M1=>tyZ T M1 d/\pa ρ M1 fun ds M2=>z d ds M2 Q
section
variable {o e:io}{es:List io}{po:aE}{pa:gh}{name:ci}{apos aU:wv}{T id:String}{z:ow}
theorem ig (h:X.K=K) (pat:aaD T) (slot:Slot T name id) (oE:typeOf (.builtin id)=pure (.type "method_descriptor")) (hm:vE Γ X T id K z) (ho:QE Γ X o po) (ha:QA Γ X (e::es) pa) (ke:attributeBase o name X.env (eval o X.env)=eval o X.env :=by rfl)
  (nj:((backTo aU (lw (e::es) X.env)).all (fun x => !x.1) && (backToKw aU (keywordEach [] X.env)).all (fun x=>x.1.isSome)
   && decide ((e::es).length+([]:List UF).length+(if ([]:List UF).isEmpty then 0 else 1)<30))=true :=by rfl)
  (hline:(apos.endLine==aU.line)=true :=by rfl) (hs:lw (e::es) X.env=(false,eval e X.env)::lw es X.env :=by rfl) (iO:(backTo aU (lw es X.env)).any (·.1)=false :=by rfl) :
  QE Γ X (.Call (.Attribute o name apos) (e::es) [] aU) (zBM T z po pa) :=by
 obtain⟨r,h1,h2⟩:=hm;exact(N0 h pat slot oE h1 ho ha ke nj hline hs iO).imp fun σ H Q ⟨β,ρ,M,Q',zr,h,q⟩=>⟨β,ρ,M,_,zr,h,fun d M1 v H1 x1 r1 ⟨ht,h1⟩=>⟨OZ x1.mz r1 ht,β,ρ,M1,_,zr.step x1,h1,fun ds M2 vs H2 x2 r2 h3=>
  h2 β v vs d ds M2 H2 _ _ zr.eP zr.ew zr.eK x2.mz (r1.ex x2) r2 h3 fun d' M' v' H' x3 r3 q3=>q _ _ _ _ (x1.trans (x2.trans x3)) r3 q3⟩⟩
end
def zAppend:ow:=fun d ds M Q=>match d,ds with | .ptr a,[y]=>(match M a with|some (.lst xs)=>xs.length<sizeLine/\Q .ay (aw M a (.lst (xs++[y])))|_=>False)|_,_=>False
theorem gj:vE Γ X "list" "list.append" K zAppend:=⟨_,vc,fun β x xs d ds M H Q Q' _ _ _ m r rs z q=>by
 unfold zAppend at z;split at z
 ·rename_i a y;split at z
  ·rename_i es he;obtain⟨e,hs⟩:=bL r;obtain⟨v,e2,rv⟩:=de rs;subst e e2;obtain⟨vs,hv,ez⟩:=m.obj a _ he;refine⟨a,vs,v,rfl,rfl,hv,by rw[ez.len];exact z.1,?_⟩
   exact q _ _ _ _ (Ex.own m (.inl hs) (ez.snoc rv)) .ay z.2
  ·exact z.elim
 ·exact z.elim⟩
def zExtend:ow:=fun d ds M Q=>match d,ds with | .ptr a,[y]=>(match M a,itemsM M y with|some (.lst xs),some ys=>(∀t,y≠.tup t)/\xs.length+ys.length<=sizeLine/\Q .ay (aw M a (.lst (xs++ys)))|_,_=>False)|_,_=>False
theorem Ip:vE Γ X "list" "list.extend" K zExtend:=⟨_,ED,fun β x xs d ds M H Q Q' _ _ _ m r rs z q=>by
 unfold zExtend at z;split at z
 ·rename_i a y;split at z
  ·rename_i es ys he hy;obtain⟨e,hs⟩:=bL r;obtain⟨v,e2,rv⟩:=de rs;subst e e2;obtain⟨vs,hv,ez⟩:=m.obj a _ he;obtain⟨b,us,rfl,hb,Tu⟩:=jj m rv hy;have bC:H b=some (.lst us) :=by
    rcases hb with hb|hb
    ·exact hb
    ·exfalso
     cases y with
     |tup t=>exact z.1 t rfl
     |lst t=>obtain⟨c,_,e,_,h,_⟩:=eY rv;cases e;rw[hb]at h;cases h
     |ptr c=>
      obtain⟨e,hs⟩:=bL rv;cases e;cases q2:M b with
      |none=>rw[q2]at hs;cases hs
      |some o=>have:=m.pq hb rfl;rw[q2]at this;cases this
     |_=>cases hy
   refine⟨a,b,vs,us,rfl,rfl,hv,bC,by rw[ez.len,Tu.len];exact z.2.1,?_⟩
   exact q _ _ _ _ (Ex.own m (.inl hs) (ez.append Tu)) .ay z.2.2
  ·exact z.elim
 ·exact z.elim⟩
def zPop:ow:=fun d ds M Q=>match d,ds with | .ptr a,[]=>(match M a with|some (.lst xs)=>(match xs[xs.length - 1]? with|some y=>Q y (aw M a (.lst xs.dropLast))|none=>False)|_=>False)|_,_=>False
def zPopAt:ow:=fun d ds M Q=>match d,ds with | .ptr a,[.int i]=>(match M a with|some (.lst xs) => -(2 ^ 63)<=i/\i<2 ^ 63/\(match seqIndex? i xs.length with|some k=>(match xs[k]? with|some y=>Q y (aw M a (.lst (xs.eraseIdx k)))|none=>False)|none=>False)|_=>False)|_,_=>False
theorem aJ.eraseIdx {M:Mh}{H:Hp}{vs:List V}{ds:List Dv}(h:aJ β M H vs ds) (k:Nat):aJ β M H (vs.eraseIdx k) (ds.eraseIdx k) :=by
 rw[List.eraseIdx_eq_take_drop_succ,List.eraseIdx_eq_take_drop_succ];exact(h.take _).append (h.drop _)
theorem Lr:vE Γ X "list" "list.pop" K zPopAt:=⟨_,Hv,fun β x xs d ds M H Q Q' _ _ _ m r rs z q=>by
 unfold zPopAt at z;split at z
 ·rename_i a i;split at z
  ·rename_i es he;obtain⟨b1,b2,z⟩:=z;split at z
   ·rename_i k hk;split at z
    ·rename_i y hy;obtain⟨e,hs⟩:=bL r;obtain⟨v0,e2,Wl⟩:=de rs;subst e e2;rw[aI Wl];obtain⟨vs,hv,ez⟩:=m.obj a _ he;obtain⟨v,Wm,rv⟩:=ez.get hy;refine⟨a,vs,i,k,v,rfl,rfl,hv,b1,b2,by rw[ez.len];exact hk,Wm,?_⟩
     have x2:=Ex.own m (.inl hs) (ez.eraseIdx k);exact q _ _ _ _ x2 (rv.ex x2) z
    ·exact z.elim
   ·exact z.elim
  ·exact z.elim
 ·exact z.elim⟩
def zIndexS:ow:=fun d ds M Q=>match d,ds with | .str a,[.str b]=>(match OK a b 0 a.length 1 with|i::_=>Q (.int (i:Nat)) M | []=>False)|_,_=>False
theorem Iq:vE Γ X "str" "str.index" K zIndexS:=⟨_,HM,fun β x xs d ds M H Q Q' _ _ _ m r rs z q=>by
 unfold zIndexS at z;split at z
 ·split at z
  ·rename_i i rest hi;obtain⟨v,e2,rv⟩:=de rs;subst e2;exact⟨_,_,i,rest,bX r,by rw[bX rv],hi,q _ _ _ _ (.refl m) (.int _) z⟩
  ·exact z.elim
 ·exact z.elim⟩
def zSetI:Dv->Dv->Dv->Mh->(Mh->Prop)->Prop:=fun o i v M N=>match o,i with | .ptr a,.int k=>(match M a with|some (.lst xs)=>(match dH xs.length k with|some j=>N (aw M a (.lst (xs.set j v)))|none=>False)|_=>False)|_,_=>False
def zgSub (po pi:aE):bP:=fun d ρ M N=>po ρ M fun o M1=>pi ρ M1 fun i M2=>zSetI o i d M2 fun M3=>N ρ M3
theorem jT {o i:io}{po pi:aE}{pos:wv}(ho:QE Γ X o po) (hi:QE Γ X i pi)
  (ha:∀v,assign (.Subscript o i pos) X.env v=(do
   let ov <- holding [v] (eval o X.env)
   let iv <- holding [v,ov] (eval i X.env)
   standAt pos
   holding [v,ov,iv] (setItem ov iv v)
   release [v,ov,iv] []) :=by intro _;rfl):QG Γ X (.Subscript o i pos) (zgSub po pi):=
 (MS ho hi set_list ha).imp fun v σ H N ⟨β,d,ρ,M,N',zr,r,h,q⟩=>⟨β,ρ,M,_,zr,h,fun od M1 ov H1 x1 r1 h1=>⟨β,ρ,M1,_,zr.step x1,h1,fun Ya M2 iv H2 x2 r2 h2=>by
  unfold zSetI at h2;split at h2
  ·rename_i a k;split at h2
   ·rename_i es he;split at h2
    ·rename_i j hj;obtain⟨e,hs⟩:=bL (r1.ex x2);subst e;rw[aI r2];obtain⟨vs,hv,ez⟩:=x2.mz.obj a _ he;have x3:=Ex.own x2.mz (.inl hs) (ez.set j ((r.ex x1).ex x2));exact⟨a,vs,k,j,rfl,rfl,hv,by rw[ez.len];exact hj,q _ _ _ _ (x1.trans (x2.trans x3)) (((zr.step x1).step x2).step x3) h2⟩
    ·exact h2.elim
   ·exact h2.elim
  ·exact h2.elim⟩⟩
end
end L2
namespace L2
open PySem PySem.Spec PySem.W PyProof.Rows
abbrev ZX:=ag->Mh->Prop
abbrev du:=List Dv->Mh->ZK->ZX->Prop
def bf (P:jp) (w:lf) (K:bv) (tb:cX) (S:du):Sp:=fun vs H Q E=>∃(β:Bz) (ds:List Dv) (M:Mh) (Q':ZK) (E':ZX),β.P=P/\β.w=w/\β.K=K/\β.tb=tb/\Mz β M H/\aJ β M H vs ds/\S ds M Q' E' /\
 (∀d M' v H',Ex β M H M' H'->Rz β M' H' v d->Q' d M'->Q v H')/\∀C M' H',Ex β M H M' H'->E' C M'->E (.ref C) none H'
theorem Rz.nH {β:Bz}{M0 M:Mh}{H:Hp}(dom:∀a,(M0 a).isSome=true->(M a).isSome=true) {v:V}{d:Dv}(h:Rz β M H v d):Pin M0 d->Rz β M0 H v d :=by
 have ne:∀a,Fz β M a->Fz β M0 a:=fun a m=>⟨(by
  cases e:M0 a with
  |none=>rfl
  |some o=>have:=dom a (by rw[e];rfl);rw[m.1]at this;cases this),m.2⟩
 induction h with
 |int i=>exact fun _=>.int i
 |bl b=>exact fun _=>.bl b
 |ay=>exact fun _=>.ay
 |str z=>exact fun _=>.str z
 |tup m e hl h ih=>
  intro p;cases p with
  |tup p=>exact .tup (ne _ m) e hl fun i v d a b=>ih i v d a b (p d (ff b))
 |lst m e hl h ih=>
  intro p;cases p with
  |lst p=>exact .lst (ne _ m) e hl fun i v d a b=>ih i v d a b (p d (ff b))
 |set m e=>exact fun _=>.set (ne _ m) e
 |ptr m=>intro p;cases p with|ptr p=>exact .ptr p
 |exc m e=>exact fun _=>.exc (ne _ m) e
 |bB m e=>exact fun _=>.bB (ne _ m) e
 |cJ m e=>exact fun _=>.cJ (ne _ m) e
 |cK e=>exact fun _=>.cK e
 |dk m e hk hl h ih=>
  intro p;cases p with
  |dk p=>exact .dk (ne _ m) e hk hl fun i v d a b=>ih i v d a b (p d (ff b))
 |dt m e hk hl h ih=>
  intro p;cases p with
  |dt p=>exact .dt (ne _ m) e hk hl fun i v d a b=>ih i v d a b (p d (ff b))
 |dr m e m2 e2 hl h ih=>
  intro p;cases p with
  |dr p=>exact .dr (ne _ m) e (ne _ m2) e2 hl fun i v d a b=>ih i v d a b (p d (ff b))
 |raw v=>exact fun _=>.raw v
inductive ox (M0 M:Mh):Dv->Dv->Prop where
 |pin {d:Dv} (h:Pin M0 d):ox M0 M d d
 |ptr {a:ag} {ds ds':List Dv} (h0:M0 a=none) (h:M a=some (.lst ds)) (hl:ds.length=ds'.length) (r:∀(i:Nat) (d d':Dv),ds[i]?=some d->ds'[i]?=some d'->ox M0 M d d'):ox M0 M (.ptr a) (.lst ds')
 |tup {ds ds':List Dv} (hl:ds.length=ds'.length) (r:∀(i:Nat) (d d':Dv),ds[i]?=some d->ds'[i]?=some d'->ox M0 M d d'):ox M0 M (.tup ds) (.tup ds')
 |dk {a:ag} {ks:List Key} {ds ds':List Dv} (h0:M0 a=none) (h:M a=some (.dk ks ds)) (hl:ds.length=ds'.length) (r:∀(i:Nat) (d d':Dv),ds[i]?=some d->ds'[i]?=some d'->ox M0 M d d'):ox M0 M (.ptr a) (.dk ks ds')
 |dt {a:ag} {ks:List (List Key)} {ds ds':List Dv} (h0:M0 a=none) (h:M a=some (.dt ks ds)) (hl:ds.length=ds'.length) (r:∀(i:Nat) (d d':Dv),ds[i]?=some d->ds'[i]?=some d'->ox M0 M d d'):ox M0 M (.ptr a) (.dt ks ds')
theorem ox.rz {β:Bz}{M0 M:Mh}{H:Hp}(mz:Mz β M H) (dom:∀a,(M0 a).isSome=true->(M a).isSome=true) {d d':Dv}(h:ox M0 M d d'):∀{v:V},Rz β M H v d->Rz β M0 H v d':=by
 induction h with
 |pin h=>exact fun r=>r.nH dom h
 |ptr h0 h hl r ih=>
  intro v r;obtain⟨rfl,_⟩:=bL r;obtain⟨vs,hv,rs⟩:=mz.obj _ _ h;refine .lst ⟨h0,mz.apart _ _ h⟩ hv (rs.len.trans hl) fun i v d a b=>?_
  obtain⟨d0,q,rd⟩:=rs.get' a;exact ih i d0 d q b rd
 |dk h0 h hl r ih=>
  intro v r;obtain⟨rfl,_⟩:=bL r;obtain⟨vs,hv,hk,rs⟩:=mz.obj _ _ h;refine .dk ⟨h0,mz.apart _ _ h⟩ (.inl hv) hk (rs.len.trans hl) fun i v d a b=>?_
  obtain⟨d0,q,rd⟩:=rs.get' a;exact ih i d0 d q b rd
 |dt h0 h hl r ih=>
  intro v r;obtain⟨rfl,_⟩:=bL r;obtain⟨vs,hv,hk,rs⟩:=mz.obj _ _ h;refine .dt ⟨h0,mz.apart _ _ h⟩ (.inl hv) hk (rs.len.trans hl) fun i v d a b=>?_
  obtain⟨d0,q,rd⟩:=rs.get' a;exact ih i d0 d q b rd
 |tup hl r ih=>
  intro v r;obtain⟨a,vs,rfl,f,hv,rs⟩:=cj r;refine .tup ⟨?_,f.2⟩ hv (rs.len.trans hl) fun i v d a b=>?_
  ·cases e:M0 a with
   |none=>rfl
   |some o=>have:=dom a (by rw[e];rfl);rw[f.1]at this;cases this
  ·obtain⟨d0,q,rd⟩:=rs.get' a;exact ih i d0 d q b rd
def nI (M0:Mh) (Q:ZK):ZK:=fun d M=>Q d M\/((∀a o,M0 a=some o->M a=some o)/\∃d',ox M0 M d d'/\Q d' M0)
theorem Bv {β:Bz}{M0 M:Mh}{H0 H:Hp}{Q':ZK}{Q:VK}(m0:Mz β M0 H0) (q:∀d M' v H',Ex β M0 H0 M' H'->Rz β M' H' v d->Q' d M'->Q v H') {d:Dv}{v:V}(x:Ex β M0 H0 M H) (r:Rz β M H v d) (h:nI M0 Q' d M):Q v H :=by
 rcases h with h|⟨same,d',rv,h⟩
 ·exact q _ _ _ _ x r h
 ·refine q d' M0 v H ⟨⟨x.keep,fun _ h=>h,fun _ _ h _=>h⟩,fun a o e=>?_,x.mz.tabs,x.mz.hids,m0.apart,x.mz.lams⟩ (rv.rz x.mz x.dom r) h
  have z:=x.mz.obj a o (same a o e);have z0:=m0.obj a o e;cases o with
  |lst ds=>
   obtain⟨vs,z,rs⟩:=z;obtain⟨O1,_,yi⟩:=z0;refine⟨vs,z,rs.len,fun i v d a b=>(rs.at' i v d a b).nH x.dom ?_⟩
   obtain⟨v0,_,r0⟩:=yi.get b;exact r0.pin
  |dk ks ds=>
   obtain⟨vs,z,hk,rs⟩:=z;obtain⟨O1,_,_,yi⟩:=z0;refine⟨vs,z,hk,rs.len,fun i v d a b=>(rs.at' i v d a b).nH x.dom ?_⟩
   obtain⟨v0,_,r0⟩:=yi.get b;exact r0.pin
  |dt ks ds=>
   obtain⟨vs,z,hk,rs⟩:=z;obtain⟨O1,_,_,yi⟩:=z0;refine⟨vs,z,hk,rs.len,fun i v d a b=>(rs.at' i v d a b).nH x.dom ?_⟩
   obtain⟨v0,_,r0⟩:=yi.get b;exact r0.pin
  |ts ks ds=>
   obtain⟨vs,z,hk,rs⟩:=z;obtain⟨O1,_,_,yi⟩:=z0;refine⟨vs,z,hk,rs.len,fun i v d a b=>(rs.at' i v d a b).nH x.dom ?_⟩
   obtain⟨v0,_,r0⟩:=yi.get b;exact r0.pin
  |dS=>exact z
def zstart (N:List ci) (ds:List Dv):aA:=ds.map some++mT (N.length - ds.length) none
theorem yj {Γ:Gz}{N:List ci}{vs:List V}{ds:List Dv}(m:Mz Γ.toBz Γ.M0 Γ.H0) (rs:aJ Γ.toBz Γ.M0 Γ.H0 vs ds):Zr Γ Γ.toBz Γ.M0 (zstart N ds) (start N vs) Γ.H0:=⟨rfl,rfl,rfl,rfl,fun _ h=>h,m.wf,.refl,m,by simp[zstart,start,rs.len],fun i d e=>by
 unfold zstart at e;unfold start;rw[Z3]at e ⊢;rw[bn]at e ⊢;rw[rs.len];split at e
 ·rename_i hi;rw[if_pos hi];rw[dL,rc]at e;obtain⟨d2,e,e2⟩:=e;cases e2;obtain⟨v,hv,r⟩:=rs.get e;exact⟨v,by rw[dL,hv];rfl,r⟩
 ·rw[OL]at e;split at e<;>cases e⟩
def zEndsOf (M0:Mh) (Q:ZK):ib:={nx:=fun _ M=>nI M0 Q .ay M,rt:=nI M0 Q}
def XR (Γ:Gz) (E':ZX) (E:XK):Prop:=∀C M' H',Ex Γ.toBz Γ.M0 Γ.H0 M' H'->E' C M'->E (.ref C) none H'
section
variable {P:jp}{w:lf}{K:bv}{mg:ci->Option al}{base:i8}{tb:cX}{x:ci}{st:wE}{f:ag}{fd:tz}{N ps:List ci}{k:Nat}{S:du}
theorem Bw (len:∀ds M Q E,S ds M Q E->ds.length=ps.length):∀vs H Q E,bf P w K tb S vs H Q E->vs.length=ps.length:=fun vs H Q E hS=>by
 obtain⟨β,ds,M,Q',E',_,_,_,_,m,rs,s,_⟩:=hS;exact rs.len.trans (len _ _ _ _ s)
theorem eQ (D:Df K mg x st ps f fd) (sc:aP N ps (aq st)) (len:∀ds M Q E,S ds M Q E->ds.length=ps.length)
  (body:∀(A:sB) (outer:List ON) (s:ba) (E:XK) (Γ:Gz) (ds:List Dv) (Q':ZK) (E':ZX),P=Γ.P->w=Γ.w->K=Γ.K->tb=Γ.tb->bZ k (A.deeper (envOfC x (aq st) s.heap.objs.size f fd.code))->S ds Γ.M0 Q' E'->
   ∃p,px Γ (ir bA P w K mg base N x (aq st) f fd.code A outer s Γ.H0 E).Ef (dE st) p/\p (zEndsOf Γ.M0 Q') (zstart N ds) Γ.M0):FnOk P w K mg base bA (k+1) f fd ps (bf P w K tb S) :=by
 refine D.fn.VP sc (Bw len) fun A outer s H vs Q E hr h=>?_
 obtain⟨β,ds,M,Q',E',eP,ew,eK,et,m,rs,hS,q,_⟩:=h;obtain⟨p,hp,hq⟩:=body A outer s E ⟨β,M,H⟩ ds Q' E' eP.symm ew.symm eK.symm et.symm hr hS;refine⟨_,hp,β,zstart N ds,M,zEndsOf M Q',yj (Γ:=⟨β,M,H⟩) m rs,hq,?_⟩;have fin:∀d M' v H',Ex β M H M' H'->Rz β M' H' v d->nI M Q' d M'->Q v H':=fun d M' v H' x r h=>Bv m q x r h
 exact⟨fun cY M' aO H' x zr h=>fin _ _ _ _ ⟨zr.ent,x.mz⟩ .ay h,fun d M' v H' x e r h=>fin _ _ _ _ ⟨e,x.mz⟩ r h,fun _ _ _ _ _ _ h=>h,fun _ _ _ _ _ _ h=>h⟩
theorem qt (D:Df K mg x st ps f fd) (sc:aP N ps (aq st)) (len:∀ds M Q E,S ds M Q E->ds.length=ps.length)
  (body:∀(A:sB) (outer:List ON) (s:ba) (E:XK) (Γ:Gz) (ds:List Dv) (Q':ZK) (E':ZX),P=Γ.P->w=Γ.w->K=Γ.K->tb=Γ.tb->XR Γ E' E->bZ k (A.deeper (envOfC x (aq st) s.heap.objs.size f fd.code))->S ds Γ.M0 Q' E'->
   ∃p,px Γ (ir (fm P w) P w K mg base N x (aq st) f fd.code A outer s Γ.H0 E) (dE st) p/\p (zEndsOf Γ.M0 Q') (zstart N ds) Γ.M0):FnOk P w K mg base (fm P w) (k+1) f fd ps (bf P w K tb S) :=by
 refine D.fn.oQ sc (Bw len) fun A outer s H vs Q E hr h=>?_
 obtain⟨β,ds,M,Q',E',eP,ew,eK,et,m,rs,hS,q,qx⟩:=h;obtain⟨p,hp,hq⟩:=body A outer s E ⟨β,M,H⟩ ds Q' E' eP.symm ew.symm eK.symm et.symm qx hr hS;refine⟨_,hp,β,zstart N ds,M,zEndsOf M Q',yj (Γ:=⟨β,M,H⟩) m rs,hq,?_⟩;have fin:∀d M' v H',Ex β M H M' H'->Rz β M' H' v d->nI M Q' d M'->Q v H':=fun d M' v H' x r h=>Bv m q x r h
 exact⟨fun cY M' aO H' x zr h=>fin _ _ _ _ ⟨zr.ent,x.mz⟩ .ay h,fun d M' v H' x e r h=>fin _ _ _ _ ⟨e,x.mz⟩ r h,fun _ _ _ _ _ _ h=>h,fun _ _ _ _ _ _ h=>h⟩
end
section
variable {X:Cx}{Γ:Gz}{β:Bz}{K:bv}
def zCall (S:du) (E':ZX) (za:gh):aE:=fun ρ M Q=>za ρ M fun ds M1=>S ds M1 Q E'
theorem XR.none:XR Γ (fun _ _=>False) (fun _ _ _=>False):=fun _ _ _ _ h=>h
theorem FV {M M1 M2:Mh}{H H1 H2:Hp}(ent:Ey M H M1 H1) (sub:∀a,a∈Γ.hid->a∈β.hid) (eP:β.P=Γ.P) (ew:β.w=Γ.w) (eK:β.K=Γ.K) (et:β.tb=Γ.tb) (x:Ex β M1 H1 M2 H2):Ex Γ.toBz M H M2 H2:=⟨ent.trans x.toEy,x.mz.sub eP.symm ew.symm eK.symm et.symm sub⟩
section
variable {CX:mP}{k:Nat}{f:ag}{fd:tz}{ps:List ci}{S:du}{E:XK}{E':ZX}{x:ci}{p pos:wv}{e:io}{es:List io}{za:gh}{P:jp}{w:lf}{tb:cX}
theorem O2 (hP:P=Γ.P) (hw:w=Γ.w) (hK:K=Γ.K) (ht:tb=Γ.tb) (hE:XR Γ E' E) {σ:St}{H:Hp}{Q:VK}(h:lE Γ (zCall S E' za) σ H Q):JD (bf P w K tb S) [] E (lA Γ za) σ H Q :=by
 subst hP hw hK ht;obtain⟨β,ρ,M,Q',zr,h,q⟩:=h;refine⟨β,ρ,M,_,zr,h,fun ds M1 vs H1 x1 r1 h1=>?_⟩
 show bf Γ.P Γ.w Γ.K Γ.tb S (vs++[]) H1 Q E;rw[Ix];exact⟨β,ds,M1,Q',E',zr.eP,zr.ew,zr.eK,zr.et,x1.mz,r1,h1,fun d M2 v H2 x2 r2 h2=>q _ _ _ _ (x1.trans x2) r2 h2,fun C M2 H2 x2 h2=>hE C M2 H2 (FV zr.ent zr.sub zr.eP zr.ew zr.eK zr.et (x1.trans x2)) h2⟩
theorem aL (F:FnOk X.prog X.w X.K X.mg X.base CX k f fd ps (bf P w K tb S)) (hr:bZ k X.A) (hg:Gl X x) (hm:X.mg x=some (.ref f)) (hk:Uf X.K (.ref f)=true) (hb:Binds X.K fd ps []) (hx:Passes CX X E) (hP:P=Γ.P) (hw:w=Γ.w) (hK:K=Γ.K) (ht:tb=Γ.tb) (hE:XR Γ E' E)
  (ha:QA Γ X (e::es) za) (kT:(x==("__debug__" : ci))=false :=by decide) (he:lw (e::es) X.env=(false,eval e X.env)::lw es X.env :=by rfl) (dA:(backTo pos (lw es X.env)).any (·.1)=false :=by rfl) :
  QE Γ X (.Call (.Name x p) (e::es) [] pos) (zCall S E' za):=(KY F hr hg hm hk hb .nil hx ha kT he dA).imp fun σ H Q h=>O2 hP hw hK ht hE h
end
def zRaise (C:ag) (E':ZX) (za:gh):cI:=fun _ ρ M=>za ρ M fun ds M1=>ds.length<=sizeLine/\E' C M1
theorem yk {x:ci}{C:ag}{mH:io}{rest:List io}{za:gh}{vk:List al}{B newId xM:String}{E:XK}{E':ZX}{np aU pos:wv}(O:aap X.K C vk newId=true) (FB:ExcBaseFacts B newId xM vk) (hc:X.calm=true) (hR:Raises X E) (hE:XR Γ E' E) (hg:Gl X x) (hm:X.mg x=some (.ref C)) (ha:QA Γ X (mH::rest) za)
  (kT:(x==("__debug__" : ci))=false :=by decide) (he:lw (mH::rest) X.env=(false,eval mH X.env)::lw rest X.env :=by rfl) (dA:(backTo aU (lw rest X.env)).any (·.1)=false :=by rfl) :
  QS Γ X (.Raise (some (.Call (.Name x np) (mH::rest) [] aU)) none pos) (zRaise C E' za):=(HN O FB hc hR hg hm ha kT he dA).imp fun D σ H ⟨β,ρ,M,D',zr,h,r⟩=>⟨β,ρ,M,_,zr,h,fun ds M1 vs H1 x1 r1 h1=>
 ⟨by rw[r1.len];exact h1.1,hE C M1 H1 (FV zr.ent zr.sub zr.eP zr.ew zr.eK zr.et x1) h1.2⟩⟩
section
variable {tg elt iter:io}{ifs:List io}{scope:wT}{pos:wv}{N':List ci}{tn:Nat}{idx:List Nat}{zi:ef}{g:bP}{tt:ck}{te:aE}{c P:ag}{k:Nat}
theorem dC (hc:X.calm=true) (B:aD X.N X.env.scope scope N' tn idx) (hi:QI Γ X tg iter zi)
  (hg:Blk X N' scope fun Y=>QG Γ Y tg g) (ht:Blk X N' scope fun Y=>ou Γ Y ifs tt) (he:Blk X N' scope fun Y=>QE Γ Y elt te)
  (hs:∀x,zw iter X.env x=pure x :=by intro _;rfl):QE Γ X (.ListComp elt [⟨tg,iter,ifs,0⟩] scope pos) (zComp tn idx zi g tt te):=(qM hc B hi hg ht he hs).imp fun σ H Q h=>FR h
theorem yl (hc:X.calm=true) (B:aD X.N X.env.scope scope N' tn idx) (hi:QI Γ X tg iter zi)
  (hg:Blk X N' scope fun Y=>QG Γ Y tg g) (ht:Blk X N' scope fun Y=>ou Γ Y ifs tt) (he:Blk X N' scope fun Y=>QE Γ Y elt te)
  (hs:∀x,zw iter X.env x=pure x :=by intro _;rfl):QE Γ X (.ListComp elt [⟨tg,iter,ifs,0⟩] scope pos) (zCompP tn idx zi g tt te):=(qM hc B hi hg ht he hs).imp fun σ H Q h=>uB h
theorem nJ {i:Nat}{y:ci}{py iS:wv}(hN:X.N.Nodup) (cN:X.N[i]?=some y) (hy:X.env.scope.names.lookup y=some .local) (hc:X.calm=true) (B:aD X.N X.env.scope scope N' tn idx) (hi:QI Γ X tg iter zi)
  (hg:Blk X N' scope fun Y=>QG Γ Y tg g) (ht:Blk X N' scope fun Y=>ou Γ Y ifs tt) (he:Blk X N' scope fun Y=>QE Γ Y elt te)
  (sH:swapsWith (.ListComp elt [⟨tg,iter,ifs,0⟩] scope pos) (some (.Name y py)) iS.line X.env=pure true :=by rfl)
  (hs:∀x,zw iter X.env x=pure x :=by intro _;rfl):QS Γ X (.Assign [.Name y py] (.ListComp elt [⟨tg,iter,ifs,0⟩] scope pos) iS) (zAsg (zComp tn idx zi g tt te) (zgName i)):=(sG hN cN hy hc B hi hg ht he sH hs).imp fun D σ H h=>wB (fun _ _ _ h=>FR h) h
theorem qY {i:Nat}{y:ci}{py iS:wv}(hN:X.N.Nodup) (cN:X.N[i]?=some y) (hy:X.env.scope.names.lookup y=some .local) (hc:X.calm=true) (B:aD X.N X.env.scope scope N' tn idx) (hi:QI Γ X tg iter zi)
  (hg:Blk X N' scope fun Y=>QG Γ Y tg g) (ht:Blk X N' scope fun Y=>ou Γ Y ifs tt) (he:Blk X N' scope fun Y=>QE Γ Y elt te)
  (sH:swapsWith (.ListComp elt [⟨tg,iter,ifs,0⟩] scope pos) (some (.Name y py)) iS.line X.env=pure true :=by rfl)
  (hs:∀x,zw iter X.env x=pure x :=by intro _;rfl):QS Γ X (.Assign [.Name y py] (.ListComp elt [⟨tg,iter,ifs,0⟩] scope pos) iS) (zAsg (zCompP tn idx zi g tt te) (zgName i)):=(sG hN cN hy hc B hi hg ht he sH hs).imp fun D σ H h=>wB (fun _ _ _ h=>uB h) h
theorem FW {p gR:wv}(hP:P∈Γ.tb) (hr:bZ (k+1) X.A) (hc:X.calm=true) (B:aD X.N X.env.scope scope N' tn idx)
  (h0:scope.names.lookup (".0" : ci)=some .local) (jd:scope.isCoroutine=false) (gA:X.env.code=.ref c) (hd:u7 X.base c P) (eW:∃bm ob,Zs X.base li X.mg bm ob)
  (iU:Gl X "all") (hm:X.mg "all" = none) (hi:QI Γ X tg iter zi) (hg:dW X N' scope k fun Y=>QG Γ Y tg g) (ht:dW X N' scope k fun Y=>ou Γ Y ifs tt) (he:dW X N' scope k fun Y=>QE Γ Y elt te)
  (hs:∀x,genFold iter X.env x=pure x :=by intro _;rfl):QE Γ X (.Call (.Name "all" p) [dh elt tg iter ifs scope gR] [] pos) (zAll tn idx zi g tt te):=(NU hr hc B h0 jd gA hd eW iU hm hi hg ht he hs).imp fun σ H Q h=>R6 hP h
end
end
section
variable {X:Cx}{Γ:Gz}{β:Bz}{K:bv}
section
variable {tg elt iter:io}{ifs:List io}{scope:wT}{pos:wv}{N':List ci}{tn:Nat}{idx:List Nat}{zi:ef}{g:bP}{tt:ck}{te:aE}{c P:ag}{k:Nat}
def nK (g:bP) (tt:ck) (te:aE):List Dv->aA->Mh->(List Int->Mh->Prop)->List Int->Prop
 | [],_,M,Q,acc=>Q acc M
 |d::ds,τ,M,Q,acc=>g d τ M fun au M2=>tt au M2 fun b M3=>if b=true then te au M3 fun y M4=>(match y with | .int k=>acc.length+1<scanBound/\nK g tt te ds au M4 Q (dw acc k)|_=>False) else nK g tt te ds au M3 Q acc
def zSetC (tn:Nat) (idx:List Nat) (zi:ef) (g:bP) (tt:ck) (te:aE):aE:=fun ρ M Q=>zi ρ M fun ds M1=>nK g tt te ds (zBlock tn idx ρ) M1 (fun ns M2=>Q (.set ns) M2) []
theorem O3 (hP:X.prog=Γ.P) (hw:X.w=Γ.w) {σ:St}{H:Hp}{Q:VK}(h:lE Γ (zSetC tn idx zi g tt te) σ H Q):Fg X tn idx (lI Γ zi) (lG Γ g) (lT Γ tt) (lE Γ te) σ H Q :=by
 obtain⟨β,ρ,M,Q',zr,h,q⟩:=h;refine⟨β,ρ,M,_,zr,h,fun ds M1 H1 J x1 it h1 D hD=>?_⟩
 have gi:=zr.step x1;have Wn:=gi.block tn idx;have Wo:Γ.H0 D=none:=gi.ent.gone hD (by
  cases e:Γ.M0 D with
  |none=>rfl
  |some u=>have:=gi.ent.dom D (by rw[e];rfl);rw[x1.mz.free hD]at this;cases this)
 have ym:=x1.mz.Dc hD;have oS:D∈(β.add D).hid:=ii;refine⟨fun i m τ H'=>m=ds.length - i/\i<=ds.length/\∃aT M' acc,Ey M1 H1 M' H'/\M' D=none/\Zr Γ (β.add D) M' aT τ H'/\H' D=some (ix X.prog X.w D acc)/\nK g tt te (ds.drop i) aT M' (fun ns M2=>Q' (.set ns) M2) acc,
  ⟨_,rfl,ut _,_,M1,[],Ey.refl.over hD,x1.mz.free hD,Wn.enter hD rfl,aH,h1⟩,?_⟩
 rintro i m τ H' ⟨rfl,hi,aT,M',acc,ey,hm,fq,at',h'⟩;have qq:=it (β.add D) M' H' (.add hD) ey fq.mz i;by_cases aM:i<ds.length
 ·refine .inr ⟨(qq.1 aM).1,fun x jO y=>?_⟩
  obtain⟨x2,d,hd,rd⟩:=(qq.1 aM).2 x jO y;have e:ds.drop i=d::ds.drop (i+1) :=by
   rw[Do aM];rw[ap aM]at hd;cases hd;rfl
  rw[e]at h';refine⟨β.add D,d,aT,M',_,fq.step x2,rd,h',fun cy M3 je H3 x3 z3 h3=>⟨β.add D,cy,M3,_,z3,h3,fun b M4 H4 x4 h4=>?_⟩⟩
  have lr:=x2.trans (x3.trans x4);cases b with
  |false=>
   dsimp only at h4 ⊢;rw[if_neg gc]at h4 ⊢;exact⟨ds.length - (i+1),by omega,rfl,aM,cy,M4,acc,ey.trans lr.toEy,lr.new D _ hm at',z3.step x4,lr.get hm at' rfl,h4⟩
  |true=>
   dsimp only at h4 ⊢;rw[if_pos rfl]at h4 ⊢;refine⟨β.add D,cy,M4,_,z3.step x4,h4,fun yd M5 yv H5 x5 r5 h5=>?_⟩
   have O4:=lr.trans x5;cases yd with
   |int k=>
    have h6:acc.length+1<scanBound/\nK g tt te (ds.drop (i+1)) cy M5 (fun ns M2=>Q' (.set ns) M2) (dw acc k):=h5
    have Tv:=O4.new D _ hm at';exact⟨k,acc,ds.length - (i+1),aI r5,O4.get hm at' rfl,h6.1,by omega,rfl,aM,cy,M5,dw acc k,(ey.trans O4.toEy).over hD,Tv,((z3.step x4).step x5).over oS rfl Tv ym Wo,aH,h6.2⟩
   |_=>exact Pe h5
 ·have e:i=ds.length :=by omega
  subst e;rw[Nl]at h';have mz:Mz β M' H':=Mz.sub (β:=β.add D) (cO:=β) rfl rfl rfl rfl (fun a h=>db _ h) fq.mz
  refine .inl ⟨qq.2 (cb _),q _ _ _ _ (x1.trans ⟨ey,mz⟩) (.set ⟨hm,(x1.mz.fz hD).2⟩ ?_) h'⟩;rw[zr.eP,zr.ew,<- hP,<- hw];exact at'
theorem Dh (hP:X.prog=Γ.P) (hw:X.w=Γ.w) (hc:X.calm=true) (B:aD X.N X.env.scope scope N' tn idx) (hi:QI Γ X tg iter zi)
  (hg:Blk X N' scope fun Y=>QG Γ Y tg g) (ht:Blk X N' scope fun Y=>ou Γ Y ifs tt) (he:Blk X N' scope fun Y=>QE Γ Y elt te)
  (hs:∀x,zw iter X.env x=pure x :=by intro _;rfl):QE Γ X (.SetComp elt [⟨tg,iter,ifs,0⟩] scope pos) (zSetC tn idx zi g tt te):=(CW hc B hi hg ht he hs).imp fun σ H Q h=>O3 hP hw h
end
def ft (xs ys:List Dv):List Dv:=(xs.zip ys).map fun p=>.tup [p.1,p.2]
def j5 (n:Nat):List Dv:=(hX n).map fun i=>.int (i:Nat)
theorem FX {J:It}{vs us:List V}{ds es:List Dv}{M:Mh}{H:Hp}(r:aJ β M H vs ds) (r2:aJ β M H us es) (h:∀M' H',Ey M H M' H'->JN J (vs.zip us) H'):FI β J (ft ds es) M H:=fun cO M' H' bx x m i=>by
 have q:=h M' H' x i;have hl:(ft ds es).length=(vs.zip us).length :=by simp[ft,r.len,r2.len]
 rw[hl];refine⟨fun hi=>⟨(q.1 hi).1,fun v jO y=>?_⟩,q.2⟩
 obtain⟨t,p,ht,rfl,hp,rfl⟩:=(q.1 hi).2 v jO y;rw[AC]at hp;obtain⟨d,hd,rd⟩:=r.get' hp.1;obtain⟨e,he,re⟩:=r2.get' hp.2;have x2:=Ex.lay m ht (.tup [p.1,p.2]);refine⟨x2,.tup [d,e],?_,tH (m.fz ht) aH (.cons (((rd.bx bx).ey x).ex x2) (.cons (((re.bx bx).ey x).ex x2) .nil))⟩;unfold ft;rw[dL,rc];exact⟨(d,e),by rw[AC];exact⟨hd,he⟩,rfl⟩
theorem By {n:Nat}{M:Mh}{H:Hp}:aJ β M H ((hX n).map fun i=>V.int (i:Nat)) (j5 n):=⟨by simp[j5],fun i v d a b=>by
 unfold j5 at b;rw[dL]at a b;cases e:(hX n)[i]? with
 |none=>rw[e]at a;cases a
 |some c=>rw[e]at a b;cases a;cases b;exact .int _⟩
theorem Sq.Wq {H:Hp}{a:ag}{xs:List V}(h:H a=some (.lst xs)):Sq true K H a xs :=by
 unfold Sq;exact bF.of h
theorem Sq.ofT {H:Hp}{a:ag}{xs:List V}(h:H a=some (.tup xs)):Sq false K H a xs :=by
 unfold Sq;exact c9.of h
section
variable {elts:List io}{x1:Nat}{tp p pos:wv}{l l1 l2:io}{pl p1 p2:aE}
def ziEnumK (k:Bool) (p:aE):ef:=fun ρ M R=>p ρ M fun d M1=>match k,d with|false,.tup ds=>R (ft (j5 ds.length) ds) M1|true,.lst ds=>R (ft (j5 ds.length) ds) M1|_,_=>False
def seqK (k:Bool) (d:Dv) (R:List Dv->Prop):Prop:=match k,d with|false,.tup ds=>R ds|true,.lst ds=>R ds|_,_=>False
theorem BA {k:Bool}{M:Mh}{H:Hp}{v:V}{d:Dv}{R:List Dv->Prop}(r:Rz β M H v d) (h:seqK k d R):∃a vs ds,v=.ref a/\R ds/\aJ β M H vs ds/\∀M' H',Ey M H M' H'->Sq k K H' a vs :=by
 unfold seqK at h;split at h
 ·obtain⟨a,vs,rfl,f,e,rs⟩:=cj r;exact⟨a,vs,_,rfl,h,rs,fun M' H' x=>Sq.ofT (x.get f.1 e rfl)⟩
 ·obtain⟨a,vs,rfl,f,e,rs⟩:=eY r;exact⟨a,vs,_,rfl,h,rs,fun M' H' x=>Sq.Wq (x.get f.1 e rfl)⟩
 ·exact h.elim
def ziZip (k1 k2:Bool) (p1 p2:aE):ef:=fun ρ M R=>p1 ρ M fun d M1=>p2 ρ M1 fun e M2=>seqK k1 d fun xs=>seqK k2 e fun ys=>R (ft xs ys) M2
end
def zRangeL (p:aE):aE:=fun ρ M Q=>p ρ M fun d M1=>match d with | .int j => -(2 ^ 24)<=j/\j<=2 ^ 24/\Q (.lst (j5 j.toNat)) M1|_=>False
def zRangeP (p:aE):aE:=fun ρ M Q=>p ρ M fun d M1=>match d with | .int j => -(2 ^ 24)<=j/\j<=2 ^ 24/\∀a,M1 a=none->Q (.ptr a) (aw M1 a (.lst (j5 j.toNat)))|_=>False
section
variable {e:io}{pe:aE}{p p1 p2 pos:wv}
theorem yn (hc:X.calm=true) (hg:Gl X "list") (hm:X.mg "list" = none) (xl:Gl X "range") (E2:X.mg "range" = none) (he:QE Γ X e pe) (hs:lw [e] X.env=[(false,eval e X.env)] :=by rfl) :
  QE Γ X (.Call (.Name "list" p) [.Call (.Name "range" p1) [e] [] p2] [] pos) (zRangeL pe):=(oR hc hg hm xl E2 he hs).imp fun σ H Q ⟨β,ρ,M,Q',zr,h,q⟩=>⟨β,ρ,M,_,zr,h,fun d M1 v H1 x1 r1 h1=>by
 revert h1
 split
 ·rintro⟨b1,b2,h1⟩;refine⟨_,aI r1,b1,b2,fun l hl=>?_⟩
  exact q _ _ _ _ (x1.trans (Ex.lay x1.mz hl _)) (mZ (x1.mz.fz hl) aH By) h1
 ·exact fun h=>h.elim⟩
theorem wa (hc:X.calm=true) (hg:Gl X "list") (hm:X.mg "list" = none) (xl:Gl X "range") (E2:X.mg "range" = none) (he:QE Γ X e pe) (hs:lw [e] X.env=[(false,eval e X.env)] :=by rfl) :
  QE Γ X (.Call (.Name "list" p) [.Call (.Name "range" p1) [e] [] p2] [] pos) (zRangeP pe):=(oR hc hg hm xl E2 he hs).imp fun σ H Q ⟨β,ρ,M,Q',zr,h,q⟩=>⟨β,ρ,M,_,zr,h,fun d M1 v H1 x1 r1 h1=>by
 revert h1
 split
 ·rename_i j;rintro⟨b1,b2,h1⟩;refine⟨_,aI r1,b1,b2,fun l hl=>?_⟩
  have x2:=Ex.own x1.mz (.inr hl) (By (n:=j.toNat) (β:=β) (M:=M1) (H:=H1));exact q _ _ _ _ (x1.trans x2) (.ptr (by rw[updM_same];rfl)) (h1 l (x1.mz.free hl))
 ·exact fun h=>h.elim⟩
def zNeg (p:aE):aE:=fun ρ M Q=>p ρ M fun d M1=>match d with | .int i=>Q (.int (-i)) M1|_=>False
theorem g6 (ha:QE Γ X e pe):QE Γ X (.UnaryOp .USub e pos) (zNeg pe):=(Rx Nk ha).imp fun σ H Q ⟨β,ρ,M,Q',zr,h,q⟩=>⟨β,ρ,M,_,zr,h,fun d M1 v H1 x1 r1 h1=>by
 revert h1
 split
 ·intro h1;exact⟨_,aI r1,q _ _ _ _ x1 (.int _) h1⟩
 ·exact fun h=>h.elim⟩
end
theorem qv (i:Nat) {x:ci}{pos:wv}(hN:X.N[i]?=some x :=by rfl) (hv:uV X.env.scope x :=by first|exact mv rfl|exact LH (mv rfl)|exact LH (LH rfl)) (hd:(x==("__debug__" : ci))=false :=by decide)
  (iN:(x==("__classdict__" : ci))=false :=by decide):QE Γ X (.Name x pos) (zVar i):=OO hN hv hd iN
end
theorem Tw {c:Bool}{A B:Prop}(h:c=true) (a:A):if c=true then A else B :=by rw[if_pos h];exact a
theorem Tx {c:Bool}{A B:Prop}(h:c=false) (b:B):if c=true then A else B :=by rw[h,if_neg gc];exact b
theorem fS {c:Bool}{A B:Prop}(h1:c=true->A) (h2:c=false->B):if c=true then A else B :=by
 cases c
 ·exact Tx rfl (h2 rfl)
 ·exact Tw rfl (h1 rfl)
theorem uE {g:bP}{te:aE}{M:Mh}(p:Dv->Bool) (I:aA->Prop):∀{ds:List Dv}{τ:aA}{Q:Bool->Mh->Prop},I τ->(∀d∈ds,∀τ,I τ->∀R:aA->ZK,(∀au,I au->R au (.bl (p d)) M)->g d τ M fun au M2=>te au M2 (R au))->Q (ds.all p) M->mn g zNoIf te ds τ M Q
 | [],τ,Q,_,_,q=>q
 |d::ds,τ,Q,i,h,q=>by
          refine h d ii τ i (fun au=>zBool fun c M4=>if c=false then Q false M4 else mn g zNoIf te ds au M4 Q) fun au i2=>?_
          show if p d=false then Q false M else mn g zNoIf te ds au M Q
          cases e:p d with
          |false=>
           rw[if_pos rfl];rw[Zm,e]at q;exact q
          |true=>
           rw[if_neg (by decide)]
           rw[Zm,e,W1]at q;exact uE p I i2 (fun d' hd=>h d' (db _ hd)) q
theorem jl {g:bP}{te:aE}(f:Dv->Dv) (I:aA->Mh->Prop):∀{ds:List Dv}{τ:aA}{M:Mh}{Q:List Dv->Mh->Prop},I τ M->(∀d∈ds,∀τ M,I τ M->∀R:aA->ZK,(∀au M2,I au M2->R au (f d) M2)->g d τ M fun au M2=>te au M2 (R au))->(∀τ M,I τ M->Q (ds.map f) M)->gV g zNoIf te ds τ M Q
 | [],τ,M,Q,i,_,q=>q τ M i
 |d::ds,τ,M,Q,i,h,q=>by
          refine h d ii τ M i (fun au y M4=>gV g zNoIf te ds au M4 fun ys M5=>Q (y::ys) M5) fun au M2 i2=>?_
          exact jl f I i2 (fun d' hd=>h d' (db _ hd)) fun je M3 i3=>q je M3 i3
theorem uF {g:bP}{tt:ck}{te:aE}(t:Dv->Bool) (f:Dv->Dv) (I:aA->Mh->Prop):∀{ds:List Dv}{τ:aA}{M:Mh}{Q:List Dv->Mh->Prop},I τ M->
  (∀d∈ds,∀τ M,I τ M->∀(R0:aA->Mh->Prop) (R:aA->ZK),(t d=true->∀au M2,I au M2->R au (f d) M2)->(t d=false->∀au M2,I au M2->R0 au M2)->g d τ M fun au M2=>tt au M2 fun b M3=>if b=true then te au M3 (R au) else R0 au M3)->
  (∀τ M,I τ M->Q ((ds.filter t).map f) M)->gV g tt te ds τ M Q
 | [],τ,M,Q,i,_,q=>q τ M i
 |d::ds,τ,M,Q,i,h,q=>by
          refine h d ii τ M i (fun au M3=>gV g tt te ds au M3 Q) (fun au y M4=>gV g tt te ds au M4 fun ys M5=>Q (y::ys) M5) (fun e au M2 i2=>?_) fun e au M2 i2=>?_
          ·refine uF t f I i2 (fun d' hd=>h d' (db _ hd)) fun je M3 i3=>?_
           have:=q je M3 i3;rw[Zw,if_pos e]at this;exact this
          ·refine uF t f I i2 (fun d' hd=>h d' (db _ hd)) fun je M3 i3=>?_
           have:=q je M3 i3;rw[Zw,if_neg (by rw[e];decide)]at this
           exact this
theorem BC {g:bP}{te:aE}(f:Dv->Int) (I:aA->Mh->Prop):∀{ds:List Dv}{τ:aA}{M:Mh}{Q:List Int->Mh->Prop}{acc:List Int},I τ M->acc.length+ds.length+1<scanBound->(∀d∈ds,∀τ M,I τ M->∀R:aA->ZK,(∀au M2,I au M2->R au (.int (f d)) M2)->g d τ M fun au M2=>te au M2 (R au))->(∀τ M,I τ M->Q ((ds.map f).foldl dw acc) M)->nK g zNoIf te ds τ M Q acc
 | [],τ,M,Q,acc,i,_,_,q=>q τ M i
 |d::ds,τ,M,Q,acc,i,hl,h,q=>by
          refine h d ii τ M i (fun au y M4=>match y with | .int k=>acc.length+1<scanBound/\nK g zNoIf te ds au M4 Q (dw acc k)|_=>False) fun au M2 i2=>?_
          rw[wn]at hl;refine⟨by omega,BC f I i2 ?_ (fun d' hd=>h d' (db _ hd)) fun je M3 i3=>q je M3 i3⟩
          have:=xu (ns:=acc) (m:=f d);omega
abbrev eI (ns:List Int):Dv:=.tup (ns.map .int)
abbrev eN (aa:List (List Int)):Dv:=.tup (aa.map eI)
abbrev bo (ns:List Int):Dv:=.lst (ns.map .int)
theorem yo:∀ns:List Int,ie (ns.map Dv.int)=some (ns.map Dt.int)
 | []=>rfl
 |n::ns=>by simp only[mo,ie,cg,yo ns]
theorem J6 (ns:List Int):cg (eI ns)=some (.tup (ns.map Dt.int)) :=by simp only[eI,cg,yo,Co]
theorem BD {α:Type}{f:α->Dv}{g:α->Dt}(h:∀x,cg (f x)=some (g x)):∀xs:List α,ie (xs.map f)=some (xs.map g)
 | []=>rfl
 |x::xs=>by simp only[mo,ie,h x,BD h xs]
theorem tM:∀xs ys:List Int,gS (xs.map Dt.int) (ys.map Dt.int)=decide (xs=ys)
 | [],[]=>by simp[gS]
 | [],_::_=>by simp[gS]
 |_::_,[]=>by simp[gS]
 |x::xs,y::ys=>by
          rw[mo,mo,gS,tM xs ys,eX];by_cases h1:x=y<;>by_cases h2:xs=ys<;>simp[h1,h2]
theorem yp {n:Nat}:∀{ds:List Dt},(∀d∈ds,qV d<=n)->j4 ds<=n
 | [],_=>by rw[j4];exact ut _
 |d::ds,h=>by
          rw[j4];exact Nat.max_le.mpr ⟨h d ii,yp fun d' hd=>h d' (db _ hd)⟩
theorem Ls (ns:List Int):j4 (ns.map Dt.int)<=0:=yp fun d hd=>by
 obtain⟨i,_,rfl⟩:=im.mp hd;exact cb _
theorem dj {M:Mh}(ns:List Int):∀d∈ns.map Dv.int,Pin M d:=fun d hd=>by
 obtain⟨i,_,rfl⟩:=im.mp hd;exact .int i
theorem FY {M:Mh}(ns:List Int):Pin M (eI ns):=.tup (dj ns)
theorem yq {M:Mh}(aa:List (List Int)):Pin M (eN aa):=.tup fun d hd=>by
 obtain⟨r,_,rfl⟩:=im.mp hd;exact FY r
theorem Lv {α β:Type}{f:α->β}{xs:List α}{i:Int}{x:α}(h:bj xs i=some x):bj (xs.map f) i=some (f x) :=by
 unfold bj at h ⊢;rw[bn];cases e:dH xs.length i with
 |none=>rw[e]at h;cases h
 |some j=>rw[e]at h;simp only[Zu]at h ⊢;rw[dL,h];rfl
theorem FZ {α:Type}{xs:List α}{k:Nat}(h:k<xs.length):bj xs ((k:Nat):Int)=some xs[k]:=bS (ap h)
def spLaw (K:bv) (tb:cX):Sp:=fun vs H Q _=>∃(a:ag) (ns:List Int),vs=[.ref a]/\bF K H a (ns.map V.int)/\ns.length<=63/\JI tb.g H/\(∀p∈tb.l,Lm H p)/\∀H',(∀p∈tb.l,∃ps,H' p.1=some (.lam ps))->Q (.bl true) H'
def O5:du:=fun ds M Q _=>∃ns:List Int,ds=[.bB ns]/\ns.length<=63/\(∀a,M a=none)/\∀M',Q (.bl true) M'
theorem O6 {P:jp}{w:lf}{K:bv}{mg:ci->Option al}{base:i8}{k:Nat}{f:ag}{fd:tz}{x:ci}{tb:cX}(G:FnOk P w K mg base bA k f fd [x] (bf P w K tb O5)):FnOk P w K mg base bA k f fd [x] (spLaw K tb):=
 G.imp fun vs H Q E ⟨a,ns,e,hS,hl,hT,hL,q⟩=>by
  subst e;have m:Mz ⟨P,w,K,tb,[]⟩ (fun _=>none) H:=⟨(fun a o e=>nomatch e),hT,(fun a ha=>absurd ha (by simp)),(fun a o e=>nomatch e),hL⟩
  refine⟨⟨P,w,K,tb,[]⟩,[.bB ns],fun _=>none,fun d _=>d=.bl true,fun _ _=>False,rfl,rfl,rfl,rfl,m,.cons ?_ .nil,⟨ns,rfl,hl,fun _=>rfl,fun _=>rfl⟩,fun d M' v H' x r h=>?_,fun _ _ _ _ h=>h.elim⟩
  ·have fz:Fz ⟨P,w,K,tb,[]⟩ (fun _=>none) a:=⟨rfl,by simp⟩
   rcases hS with (h|⟨o,h⟩)|h
   ·exact .cJ fz h
   ·exact .bB fz h
   ·exact .cK h
  ·subst h;rw[cL r];exact q H' fun p hp=>let ⟨ps,e,_⟩:=x.mz.lams p hp;⟨ps,e⟩
def Keeps (M0 M:Mh):Prop:=∀a o,M0 a=some o->M a=some o
theorem Keeps.refl {M0:Mh}:Keeps M0 M0:=fun _ _ h=>h
theorem Keeps.upd {M0 M:Mh}{a:ag}{o:Mo}(ha:M0 a=none) (h:Keeps M0 M):Keeps M0 (aw M a o):=fun b u e=>by
 rw[ai (fun z=>by rw[z,ha]at e;cases e)]
 exact h b u e
theorem pF {M0 M:Mh}{Q:ZK}{d:Dv}(h:Keeps M0 M) (p:Pin M0 d) (q:Q d M0):nI M0 Q d M:=.inr ⟨h,d,.pin p,q⟩
theorem mr {M0 M:Mh}{Q:ZK}{a:ag}{ds:List Dv}(h:Keeps M0 M) (h0:M0 a=none) (ha:M a=some (.lst ds)) (p:∀d∈ds,Pin M0 d) (q:Q (.lst ds) M0):nI M0 Q (.ptr a) M:=.inr ⟨h,.lst ds,.ptr h0 ha rfl fun i d d' e e'=>by
 rw[e]at e';cases e';exact .pin (p d (ff e)),q⟩
theorem bh {lo:Int}{n i:Nat}{d:Dv}(h:(cp lo n)[i]?=some d):d=.int (lo+(i:Nat))/\i<n :=by
 unfold cp at h;rw[dL]at h;cases e:(hX n)[i]? with
 |none=>rw[e]at h;cases h
 |some k=>
  rw[e]at h;obtain⟨h1,h2⟩:=ca.mp e;rw[RI]at h2;subst h2;exact⟨(lm h).symm,by simpa using h1⟩
theorem km {lo:Int}{n:Nat}{d:Dv}(h:d∈cp lo n):∃i:Nat,i<n/\d=.int (lo+(i:Nat)) :=by
 obtain⟨i,hi⟩:=nw.mp h;obtain⟨e,l⟩:=bh hi;exact⟨i,l,e⟩
theorem rangeD_len (lo:Int) (n:Nat):(cp lo n).length=n :=by simp[cp]
theorem lx {tt:ck}(t:Dv->Bool) {τ:aA}:∀{ds:List Dv}{x:Option Dv}{M:Mh}{Q:List Dv->Mh->Prop},(∀d∈ds,∀R:Bool->Mh->Prop,R (t d) M->tt (some d::τ) M R)->Q (ds.filter t) M->gV (zgName 0) tt (zVar 0) ds (x::τ) M Q
 | [],x,M,Q,_,q=>q
 |d::ds,x,M,Q,h,q=>by
          refine h d ii _ ?_;cases e:t d with
          |true=>
           rw[Zw,if_pos e]at q;exact lx t (Q:=fun ys M5=>Q (d::ys) M5) (fun d' hd=>h d' (db _ hd)) q
          |false=>
           rw[Zw,if_neg (by rw[e];decide)]at q
           exact lx t (fun d' hd=>h d' (db _ hd)) q
theorem F0 {xs ys:List Dv}{k:Nat}{d:Dv}(h:(ft xs ys)[k]?=some d):∃x y,d=.tup [x,y]/\xs[k]?=some x/\ys[k]?=some y :=by
 unfold ft at h;rw[dL,rc]at h;obtain⟨p,h,rfl⟩:=h;rw[AC]at h;exact⟨p.1,p.2,rfl,h.1,h.2⟩
theorem atI_zero {α:Type}{x:α}{xs:List α}:bj (x::xs) 0=some x:=bS (j:=0) rfl
theorem ly {α:Type}{f:α->Dv}{xs:List α}{k:Nat}{d:Dv}(h:(xs.map f)[k]?=some d):∃x,xs[k]?=some x/\d=f x :=by
 rw[dL,rc]at h;obtain⟨x,h,e⟩:=h;exact⟨x,h,e.symm⟩
theorem pairsD_len (xs ys:List Dv):(ft xs ys).length=min xs.length ys.length :=by simp[ft]
theorem numD_len (n:Nat):(j5 n).length=n :=by simp[j5]
end L2
namespace L2
open PySem PySem.Spec PyProof.Rows
theorem F1 {M:Model}{A:sB}{E:al->ba->Prop}{s:ba}{scope:wT}{globals:ag}{cl:List (ci×ag)}{qual:ci}{env:ON}{Q:ON->ba->Prop}
  (h:Q (newEnv scope s.heap.objs.size globals (cellsFrom (s.heap.objs.size+1) scope.names cl) qual none .none (some env) ET) {s with heap:=pushCells (s.heap.push {cls:=.type "dict",data:=.dict #[]}) scope.names}) :
  c8 M A (newFunctionEnv scope globals cl [] qual none .none (some env)) Q E s :=by
 simp only[newFunctionEnv,Option.isSome_some,if_true];refine ac (wpAny_alloc ?_);refine ac (wpAny_layCells _ (fun name kind cells=>by cases Wr:kind==WP<;>simp[Wr]) _ _ _ _ ?_)
 rw[show ({s with heap:=s.heap.push {cls:=.type "dict",data:=.dict #[]}}:ba).heap.objs.size=s.heap.objs.size+1 from xp ..]
 exact bi h
theorem lz:∀(names:List (ci×UV)) (h:i8) (cl:List (ci×ag)) (x:ci) (c:ag),(cellsFrom h.objs.size names cl).lookup x=some c->
  ((x,WP)∈names/\h.objs.size<=c/\(pushCells h names).IsCell c none)\/((∀k,(x,k)∈names->k≠.cell)/\cl.lookup x=some c)
 | [],h,cl,x,c,e=>.inr ⟨fun k z=>by simp at z,e⟩
 |(n,k)::r,h,cl,x,c,e=>by
          unfold cellsFrom at e;unfold pushCells;split at e
          ·rename_i hk;have mV:k=.cell :=by simpa using hk
           subst mV;rw[if_pos hk];have sz:(h.push {cls:=.type "cell",data:=.cell none}).objs.size=h.objs.size+1:=xp ..
           rw[<- sz]at e;rcases lz r _ _ x c e with ⟨a,b,d⟩|⟨a,b⟩
           ·exact .inl ⟨db _ a,by omega,d⟩
           ·rw[GE]at b;cases hx:x==n with
            |true=>
             rw[hx]at b;cases b;have e2:x=n :=by simpa using hx
             subst e2;exact .inl ⟨ii,cb _,⟨_,aaU r _ _ _ (ij _ rfl),rfl⟩⟩
            |false=>
             rw[hx]at b;refine .inr ⟨fun k2 z=>?_,b⟩
             rcases lp.mp z with q|q
             ·cases q;simp at hx
             ·exact a k2 q
          ·rename_i hk;rw[if_neg hk];rcases lz r h cl x c e with ⟨a,b,d⟩|⟨a,b⟩
           ·exact .inl ⟨db _ a,b,d⟩
           ·refine .inr ⟨fun k2 z=>?_,b⟩
            rcases lp.mp z with q|q
            ·cases q;intro z;subst z;exact hk rfl
            ·exact a k2 q
theorem cells_apart:∀(names:List (ci×UV)) (h:i8) (cl:List (ci×ag)) (x y:ci) (c:ag),(∀n c,cl.lookup n=some c->c<h.objs.size)->(∀x y c,cl.lookup x=some c->cl.lookup y=some c->x=y)->(cellsFrom h.objs.size names cl).lookup x=some c->(cellsFrom h.objs.size names cl).lookup y=some c->x=y
 | [],h,cl,x,y,c,_,inj,e,e'=>inj x y c e e'
 |(n,k)::r,h,cl,x,y,c,lt,inj,e,e'=>by
          unfold cellsFrom at e e';split at e
          ·rename_i hk;rw[if_pos hk]at e';have sz:(h.push {cls:=.type "cell",data:=.cell none}).objs.size=h.objs.size+1:=xp ..
           rw[<- sz]at e e';refine cells_apart r _ _ x y c (fun m d z=>?_) (fun x y d a b=>?_) e e'
           ·rw[sz];rw[GE]at z;cases hm:m==n with
            |true=>rw[hm]at z;cases z;exact AT _
            |false=>rw[hm]at z;exact xz (lt m d z)
           ·rw[GE]at a b;have old:∀z,cl.lookup z=some h.objs.size->False:=fun z q=>absurd (lt _ _ q) (DD _)
            cases hx:x==n with
            |true=>
             rw[hx]at a;cases a;cases hy:y==n with
             |true=>rw[show x=n by simpa using hx,show y=n by simpa using hy]
             |false=>rw[hy]at b;exact(old y b).elim
            |false=>
             rw[hx]at a;cases hy:y==n with
             |true=>rw[hy]at b;cases b;exact(old x a).elim
             |false=>rw[hy]at b;exact inj x y d a b
          ·rename_i hk;rw[if_neg hk]at e';exact cells_apart r h cl x y c lt inj e e'
theorem mw:∀(names:List (ci×UV)) (n:Nat) (cl:List (ci×ag)) (x:ci),((x,WP)∈names\/∃c,cl.lookup x=some c)->∃c,(cellsFrom n names cl).lookup x=some c
 | [],n,cl,x,h=>by
          rcases h with h|h
          ·simp at h
          ·exact h
 |(y,k)::r,n,cl,x,h=>by
          unfold cellsFrom;split
          ·rename_i hk;refine mw r _ _ x ?_;by_cases e:x=y
           ·subst e;exact .inr ⟨n,by rw[GE];simp⟩
           ·rcases h with h|⟨c,h⟩
            ·rcases lp.mp h with q|q
             ·cases q;exact absurd rfl e
             ·exact .inl q
            ·exact .inr ⟨c,by rw[GE,show (x==y)=false by simpa using e];exact h⟩
          ·rename_i hk;refine mw r _ _ x ?_;rcases h with h|h
           ·rcases lp.mp h with q|q
            ·cases q;exact absurd rfl hk
            ·exact .inl q
           ·exact .inr h
theorem Di {X:Cx}{pins:List (ag×l9)}{σ:St}{H:Hp}{s:ba}(I:Inv X pins σ H s) {x:ci}{c:ag}(h:X.env.cells.lookup x=some c):c<s.heap.objs.size :=by
 obtain⟨v,o,ho,_⟩:=I.cell x c h;exact kt ho
abbrev J7 (X:Cx) (N':List ci) (scope:wT) (cl:List (ci×ag)) (C:ag) (s:ba) (H:Hp) (fp:List ag) (own:ci->Bool):Cx:={mS X N' scope cl C s H fp with fn:=own}
def dM (N:List ci) (sc scope:wT) (N':List ci) (tn:Nat) (idx:List Nat):Prop:=
 scope.kind=.function/\(∀y∈scope.names,(y.2=.cell->scope.names.lookup y.1=some .cell)/\(y.2=.local->scope.names.lookup y.1=some .local)/\(y.2=.free->sc.names.lookup y.1=some .cell\/sc.names.lookup y.1=some .free)) /\
  N'.length=tn+idx.length/\∀p∈idx.zip (N'.drop tn),N[p.1]?=some p.2/\scope.names.lookup p.2=some .free
instance (N:List ci) (sc scope:wT) (N':List ci) (tn:Nat) (idx:List Nat):Decidable (dM N sc scope N' tn idx) :=by unfold dM;infer_instance
theorem dM.at {N:List ci}{sc scope:wT}{N':List ci}{tn:Nat}{idx:List Nat}(B:dM N sc scope N' tn idx) {σ:St}{i:Nat}{x:ci}{v:V}(h1:N'[i]?=some x) (h2:(aQ tn idx σ)[i]?=some (some v)) :
  scope.names.lookup x=some .free/\∃j:Nat,N[j]?=some x/\σ[j]?=some (some v) :=by
 obtain⟨_,_,b3,b4⟩:=B;unfold aQ at h2;by_cases hi:i<tn
 ·rw[wp (by simpa using hi),OL,if_pos hi]at h2
  cases h2
 ·rw[Cs (by simpa using hi),Sm,dL]at h2
  cases e:idx[i - tn]? with
  |none=>rw[e]at h2;cases h2
  |some k=>
   rw[e]at h2;have h3:(σ[k]?).join=some v:=lm h2;have e2:(N'.drop tn)[i - tn]?=some x :=by
    rw[aag];have:tn+(i - tn)=i :=by omega
    rw[this];exact h1
   have m:(k,x)∈idx.zip (N'.drop tn) :=by
    refine ff (i:=i - tn) ?_;rw[AC];exact⟨e,e2⟩
   obtain⟨a,b⟩:=b4 _ m;refine⟨b,k,a,?_⟩;cases q:σ[k]? with
   |none=>rw[q]at h3;cases h3
   |some w=>rw[q]at h3;exact congrArg some h3
theorem dM.len {N:List ci}{sc scope:wT}{N':List ci}{tn:Nat}{idx:List Nat}(B:dM N sc scope N' tn idx) (σ:St):(aQ tn idx σ).length=N'.length :=by
 rw[B.2.2.1];unfold aQ;simp
def iA (scope:wT) (x:ci):Bool:=scope.names.lookup x==some .cell
abbrev jm (X:Cx) (N':List ci) (scope:wT) (P:Cx->Prop):Prop:=∀(cl:List (ci×ag)) (C:ag) (s:ba) (H:Hp) (fp:List ag),P (J7 X N' scope cl C s H fp (iA scope))
theorem Dj {X:Cx}{pins:List (ag×l9)}{σ aO:St}{H H':Hp}{s:ba}{N':List ci}{scope:wT}{cs:List (ci×ag)}{C:ag}{ex:List ag}{h1:i8}{m0:ci->Option al}{g':Array YX}{tk:Nat}
  (I:Inv X pins σ H s) (qf:scope.kind=.function)
  (f9:∀n c,cs.lookup n=some c->(iA scope n=true/\C<c/\h1.IsCell c none/\H' c=none)\/(iA scope n=false/\X.env.cells.lookup n=some c))
  (U8:∀x y c,cs.lookup x=some c->cs.lookup y=some c->x=y)
  (w9:∀x,((relabel scope X.env).names.lookup x=some .cell\/(relabel scope X.env).names.lookup x=some .free)->∃c,cs.lookup x=some c)
  (hC:s.heap.objs.size<=C) (hf:∀b∈ex,bR X pins H b) (CG:∀b∈ex,b<s.heap.objs.size)
  (EI:Un (gO X.stack) ex H H' s.heap h1) (hok:cG X.prog X.w H' h1) (oG:H' C=none) (sA:∀b o,s.heap.get? b=some o->h1.get? b=some o) (j8:h1.Ns C m0)
  (xa:∀(i:Nat) (x:ci) (v:V),N'[i]?=some x->aO[i]?=some (some v)->iA scope x=false/\((relabel scope X.env).names.lookup x=some .cell\/(relabel scope X.env).names.lookup x=some .free)/\uV X.env.scope x/\(X.env.kindOf x=some .cell\/X.env.kindOf x=some .free)/\∃j:Nat,X.N[j]?=some x/\σ[j]?=some (some v))
  (hlen:aO.length=N'.length) (hg:Gn s.gens.size g'):Inv (J7 X N' scope cs C s H ex (iA scope)) [] aO H' {s with heap:=h1,gens:=g',toks:=tk}:=by
 have EJ:∀b∈ex,∀x c,X.env.cells.lookup x=some c->c≠b:=fun b hb=>(hf b hb).2.2.2.2.1
 have Ws:∀b∈ex,∀x c,cs.lookup x=some c->c≠b:=fun b hb x c e z=>by
  rcases f9 x c e with ⟨_,q,_⟩|⟨_,q⟩
  ·subst z;exact absurd (YB (Lu hC q) (CG _ hb)) (DD _)
  ·exact EJ b hb x c q z
 refine⟨⟨I.ok.mod,qf,I.ok.glob,I.ok.blt,hC,U8,w9,fun x c hx e=>?_,fun z=>I.ok.hd z,I.ok.frames,.inl rfl,fun b hb=>⟨l5 (sK (CG b hb) hC),fun x c e=>Ws b hb x c e⟩,
   I.bs,wb I.ok.bsz I.sz,fun b o e hb=>?_,fun b hb z=>?_,I.stack,I.qb⟩,rfl,hg,EI,⟨m0,j8,fun i x v e1 e2 e3=>?_⟩,fun x c e=>?_,oG,fun x c e=>?_,fun p hp=>absurd (show p∈([]:List (ag×l9)) from hp) (by simp),hok,hlen⟩
 ·rcases f9 x c e with ⟨_,q,_⟩|⟨q,_⟩
  ·exact Pv (Lu hC q)
  ·have fh:iA scope x=true:=hx;rw[q]at fh;cases fh
 ·rcases (hf b hb).2.2.2.1 with z|z
  ·exact I.ok.noex b o e z
  ·exact absurd (sK (kt e) (wb I.ok.bsz z)) (DD _)
 ·rcases lp.mp (I.fX b z) with q|q
  ·exact(hf b hb).2.1 q
  ·exact(hf b hb).2.2.1 q
 ·obtain⟨k0,k1,vx,k2,j,n1,n2⟩:=xa i x v e1 e2;obtain⟨m,hn,hl⟩:=I.loc;obtain⟨u,r,l⟩:=hl j x v n1 n2 vx;refine⟨u,r,.inr ⟨k1,?_⟩⟩;obtain⟨c',EK⟩:=w9 x k1;rcases l with ⟨kl,_⟩|⟨_,c,ec,z⟩
  ·rcases k2 with q|q<;>(rw[kl]at q;cases q)
  ·rcases f9 x c' EK with ⟨q,_⟩|⟨_,q⟩
   ·rw[k0]at q;cases q
   ·have:c'=c:=lm (q.symm.trans ec);subst this;exact⟨c',EK,z.keeps sA⟩
 ·rcases f9 x c e with ⟨_,_,q,_⟩|⟨_,q⟩
  ·exact⟨_,q⟩
  ·obtain⟨v,z⟩:=I.cell x c q;exact⟨v,z.keeps sA⟩
 ·rcases f9 x c e with ⟨_,_,_,q⟩|⟨_,q⟩
  ·exact q
  ·obtain⟨v,o,ho,hd⟩:=I.cell x c q;exact EI.free c o ho (I.freeC x c q) fun z=>EJ c z x c q rfl
section
variable {X:Cx}
theorem compG_coreC {pins:List (ag×l9)}{σ:St}{H2:Hp}{s2:ba}{e tg iter:io}{ifs:List io}{scope:wT}{N':List ci}{tn:Nat}{idx:List Nat}{g:TG}{tt:TT}{tb:ag->TB}{body:al->ON->YS Unit}{it:ag}{fp:List ag}{a7:Nat->i8->Prop}{J:It}
  {cl:List (ci×ag)} {E:al->ba->Prop} {RR:al->ag->Zl->ba->Prop} {Q:VK} {mk:YS al} {O0:HO} {o0:l9}
  (ER:∀(Q:al->ba->Prop),Q (.ref s2.heap.objs.size) {s2 with heap:=s2.heap.push o0}->c8 (model X.prog X.w) X.A mk Q E s2) (oF:o0.isFreed=false)
  (xc:∀(H:Hp) (h1:i8),h1.get? s2.heap.objs.size=some o0->ObjOk X.prog X.w H h1 s2.heap.objs.size O0)
  (hc:X.calm=true) (B:dM X.N X.env.scope scope N' tn idx)
  (Tz:∀(D:ag),jm X N' scope fun Y=>uh Y e tg iter ifs 0 (.ref D) (body (.ref D) Y.env))
  (hg:jm X N' scope fun Y=>PG Y tg g) (ht:jm X N' scope fun Y=>fO Y ifs tt) (hb:∀D,jm X N' scope fun Y=>PB Y (body (.ref D) Y.env) (tb D))
  (I:Inv X pins σ H2 s2) (T:Turn X.prog X.w X.K tg J fp it a7) (st:a7 0 s2.heap) (f2:∀b∈fp,bR X pins H2 b)
  (cc:∀n c,cl.lookup n=some c->X.env.cells.lookup n=some c) (dI:∀n,(n,AE)∈scope.names->∃c,cl.lookup n=some c)
  (hq:∀D,H2 D=none->∃W:Nat->Nat->St->Hp->Prop,(∃m,W 0 m (aQ tn idx σ) (upd H2 D O0))/\lV J g tt (tb D) (fun _ H'=>Q (.ref D) H') W)
  (oI:∀D C m s' H',Inv X pins σ H' s'->bR X pins H' C->s'.heap.Ns C m->Q (.ref D) H'->RR (.ref D) C (.ok .next) s') :
  c8 (model X.prog X.w) X.A mk (fun acc iQ=>c8 (model X.prog X.w) X.A (newFunctionEnv scope X.env.globals cl [] X.env.qual none .none (some X.env)) (fun gb kY=>
   OE (model X.prog X.w) X.A (.compStart e 0 (.ref it) acc {gb with scope:=relabel scope X.env}) (RR acc gb.locals) kY) E iQ) E s2 :=by
 obtain⟨b1,b2,b3,b4⟩:=id B;refine ER _ (F1 ?_);dsimp only;generalize hG:s2.heap.push o0=G
 have hC:G.objs.size=s2.heap.objs.size+1 :=by rw[<- hG,xp]
 generalize O7:pushCells (G.push {cls:=.type "dict",data:=.dict #[]}) scope.names=cE
 have eJ:cE.Ns G.objs.size fun _=>none :=by rw[<- O7];exact(i8.Ns.new G (.type "dict")).keeps (aaU _ _)
 have yr:∀b o,G.get? b=some o->cE.get? b=some o:=fun b o e=>by rw[<- O7];exact aaU _ _ b o (br _ e)
 have qK:s2.heap.objs.size≠G.objs.size :=by rw[hC];exact l5 (AT _)
 have gf:s2.heap.objs.size<=G.objs.size :=by rw[hC];exact IR _
 have below:∀b,b<s2.heap.objs.size->b≠G.objs.size:=fun b hb=>by rw[hC];exact l5 (xz hb)
 have old:∀b o,s2.heap.get? b=some o->cE.get? b=some o:=fun b o e=>yr b o (hG▸br _ e)
 have xg:cE.get? s2.heap.objs.size=some o0:=yr _ _ (hG▸ij _ oF);generalize O8:cellsFrom (G.objs.size+1) scope.names cl=cs
 have J8:(G.push {cls:=.type "dict",data:=.dict #[]}).objs.size=G.objs.size+1:=xp ..
 have O9:∀x,(x,WP)∈scope.names->iA scope x=true:=fun x hx=>by
  unfold iA;rw[(b2 _ hx).1 rfl];rfl
 have Lw:∀x,(∀k,(x,k)∈scope.names->k≠WP)->iA scope x=false:=fun x hx=>by
  unfold iA;cases q:scope.names.lookup x with
  |none=>rfl
  |some k=>have:=hx k (u4 q);simpa using this
 have look:∀x c,cs.lookup x=some c->(iA scope x=true/\G.objs.size<c/\cE.IsCell c none)\/(iA scope x=false/\cl.lookup x=some c):=fun x c e=>by
  rw[<- O8,<- J8]at e;rcases lz scope.names _ cl x c e with ⟨a,b,d⟩|⟨a,b⟩
  ·rw[O7]at d;rw[J8]at b;exact .inl ⟨O9 x a,b,d⟩
  ·exact .inr ⟨Lw x a,b⟩
 have inj:∀x y c,cs.lookup x=some c->cs.lookup y=some c->x=y:=fun x y c e e'=>by
  rw[<- O8,<- J8]at e e';refine cells_apart scope.names _ cl x y c (fun n d z=>?_) (fun x y d a b=>I.ok.inj x y d (cc x d a) (cc y d b)) e e'
  rw[J8,hC];exact xz (xz (Di I (cc n d z)))
 have oJ:H2 s2.heap.objs.size=none:=I.hok.fresh (cb _);have oG:upd H2 s2.heap.objs.size O0 G.objs.size=none :=by rw[ao (Ch qK)];exact I.hok.fresh gf
 have rE:cG X.prog X.w (upd H2 s2.heap.objs.size O0) cE:=I.hok.laid old (cb _) (xc _ _ xg);have iH:∀b∈fp,b<s2.heap.objs.size:=fun b hb=>let ⟨o,e,_⟩:=T.obj _ _ st b hb;kt e
 obtain⟨W,⟨m0,w0⟩,turn⟩:=hq s2.heap.objs.size oJ;have I1:Inv (J7 X N' scope cs G.objs.size s2 H2 fp (iA scope)) [] (aQ tn idx σ) (upd H2 s2.heap.objs.size O0) {s2 with heap:=cE,toks:=s2.toks}:=by
  refine Dj (g':=s2.gens) (m0:=fun _=>none) I b1 (fun n c e=>?_) inj (fun x hx=>?_) gf f2 iH (Un.laid old (cb _) oJ) rE oG old eJ (fun i x v e1 e2=>?_) (B.len σ) I.bare.self
  ·rcases look n c e with ⟨o,a,b⟩|⟨o,a⟩
   ·refine .inl ⟨o,a,b,?_⟩;have:c≠s2.heap.objs.size:=fun z=>by rw[z,hC]at a;exact absurd (YB a (AT _)) (fun h=>by omega)
    rw[ao this];exact I.hok.fresh (Pv (Lu gf a))
   ·exact .inr ⟨o,cc n c a⟩
  ·rw[cz]at hx;rw[<- O8];cases q:scope.names.lookup x with
   |none=>rw[q]at hx;rcases hx with z|z<;>cases z
   |some k0=>
    have hm:=u4 q;rw[q]at hx;by_cases hk:k0=.free
    ·subst hk;exact mw _ _ _ _ (.inr (dI x hm))
    ·have nk:(k0==AE)=false :=by simpa using hk
     simp only[Co,nk,Pc,i4,if_false]at hx;rcases hx with z|z
     ·have e0:k0=.cell:=lm z;subst e0;exact mw _ _ _ _ (.inl hm)
     ·exact absurd (lm z) hk
  ·obtain⟨fr,j,e4,e5⟩:=B.at e1 e2;have kx:=(b2 _ (u4 fr)).2.2 rfl;refine⟨by unfold iA;rw[fr];rfl,?_,.inr kx,kx,j,e4,e5⟩
   rw[cz,fr];simp only[Co];split
   ·exact .inl rfl
   ·exact .inr rfl
 have stat:∀{H':Hp},(∀b∈fp,H' b=none)->∀b∈fp,bR (J7 X N' scope cs G.objs.size s2 H2 fp (iA scope)) [] H' b:=fun hn b hb=>by
  refine⟨hn b hb,below b (iH b hb),fun z=>?_,.inl hb,(fun x c e=>by
   rcases look x c e with ⟨_,a,_⟩|⟨_,a⟩
   ·exact fun z=>absurd (YB (Lu gf (z▸a)) (iH b hb)) (DD _)
   ·exact(f2 b hb).2.2.2.2.1 x c (cc x c a)),fun p hp=>absurd (show p∈([]:List (ag×l9)) from hp) (by simp)⟩
  rcases lp.mp (I.fX b z) with q|q
  ·exact(f2 b hb).2.1 q
  ·exact(f2 b hb).2.2.1 q
 have oK:a7 0 cE:=T.keep _ _ _ st fun b _ o e=>old b o e
 refine kg (Tz _ cs G.objs.size s2 H2 fp) T oK (lW hc (fun _ _ z=>z) (Tz _ cs G.objs.size s2 H2 fp) (hg cs G.objs.size s2 H2 fp) (ht cs G.objs.size s2 H2 fp) (hb _ cs G.objs.size s2 H2 fp) T turn I1 oK (stat fun b hb=>by rw[ao (l5 (iH b hb))];exact(f2 b hb).1) w0 fun aT H' s' I4 qn=>?_)
 have J2:Inv X pins σ H' s':=I.qd I4.os I4.base I4.hok I4.bare fun b hb=>⟨(f2 b hb).2.2.2.1,(f2 b hb).2.1,(f2 b hb).2.2.2.2.1,(f2 b hb).2.2.2.2.2⟩
 obtain⟨mm,hm,_⟩:=I4.loc;exact oI _ _ mm s' H' J2 (I.jZ gf I4.free) hm qn
theorem Dk {pins:List (ag×l9)}{σ:St}{H2:Hp}{s2:ba}{tg elt iter:io}{ifs:List io}{scope:wT}{pos:wv}{N':List ci}{tn:Nat}{idx:List Nat}{g:TG}{tt:TT}{te:TE}{it:ag}{fp:List ag}{a7:Nat->i8->Prop}{J:It}
  {cl:List (ci×ag)} {E:al->ba->Prop} {RR:al->ag->Zl->ba->Prop} {Q:VK}
  (hc:X.calm=true) (B:dM X.N X.env.scope scope N' tn idx)
  (hg:jm X N' scope fun Y=>PG Y tg g) (ht:jm X N' scope fun Y=>fO Y ifs tt) (he:jm X N' scope fun Y=>PE Y elt te)
  (I:Inv X pins σ H2 s2) (T:Turn X.prog X.w X.K tg J fp it a7) (st:a7 0 s2.heap) (f2:∀b∈fp,bR X pins H2 b)
  (cc:∀n c,cl.lookup n=some c->X.env.cells.lookup n=some c) (dI:∀n,(n,AE)∈scope.names->∃c,cl.lookup n=some c)
  (hq:∀D,H2 D=none->∃W:Nat->Nat->St->Hp->Prop,(∃m,W 0 m (aQ tn idx σ) (upd H2 D (.lst [])))/\sD J g tt te D Q W)
  (oI:∀D C m s' H',Inv X pins σ H' s'->bR X pins H' C->s'.heap.Ns C m->Q (.ref D) H'->RR (.ref D) C (.ok .next) s') :
  c8 (model X.prog X.w) X.A (newList []) (fun acc iQ=>c8 (model X.prog X.w) X.A (newFunctionEnv scope X.env.globals cl [] X.env.qual none .none (some X.env)) (fun gb kY=>
   OE (model X.prog X.w) X.A (.compStart (.ListComp elt [⟨tg,iter,ifs,0⟩] scope pos) 0 (.ref it) acc {gb with scope:=relabel scope X.env}) (RR acc gb.locals) kY) E iQ) E s2:=
 compG_coreC (body:=fun acc env=>do let _ <- call (.builtin "list.append") [acc,<- eval elt env]) (tb:=fun D=>sC D te) (O0:=.lst []) (o0:={cls:=.type "list",dict:=none,data:=.seq ([]:List al).toArray}) (fun Q q=>B0 q) rfl (fun H h1 hd=>⟨ut _,[],0,.nil,hd⟩) hc B
  (fun D cl C s H fp=>⟨fun _=>rfl,fun _ _ _ _ h=>h,fun _=>xh ..,fun _ _ _ _ h=>h,rfl⟩) hg ht (fun D cl C s H fp=>AU (he cl C s H fp)) I T st f2 cc dI (fun D hD=>let ⟨W,hm,turn⟩:=hq D hD;⟨W,hm,sF turn⟩) oI
variable {tg elt iter:io}{ifs:List io}{scope:wT}{pos:wv}{N':List ci}{tn:Nat}{idx:List Nat}{wi:TI}{g:TG}{tt:TT}{te:TE}
variable {Γ:Gz}
theorem zS {i:Nat}{y:ci}{py iS:wv}(hN:X.N.Nodup) (cN:X.N[i]?=some y) (hy:X.env.scope.names.lookup y=some .local) (hc:X.calm=true) (B:dM X.N X.env.scope scope N' tn idx) (hi:PI X tg iter wi)
  (hg:jm X N' scope fun Y=>PG Y tg g) (ht:jm X N' scope fun Y=>fO Y ifs tt) (he:jm X N' scope fun Y=>PE Y elt te)
  (sH:swapsWith (.ListComp elt [⟨tg,iter,ifs,0⟩] scope pos) (some (.Name y py)) iS.line X.env=pure true :=by rfl)
  (hs:∀x,zw iter X.env x=pure x :=by intro _;rfl):PS X (.Assign [.Name y py] (.ListComp elt [⟨tg,iter,ifs,0⟩] scope pos) iS) (ud (sE tn idx wi g tt te) (so i)) :=by
 refine⟨?_⟩;intro pins s σ H D I h;obtain⟨cl,iR,cc,dI⟩:=gz (scope:=scope) (env:=X.env) fun n hn=>I.ok.has n ((B.2.1 _ hn).2.2 rfl)
 rw[exec_Assign_Name_used _ _ _ _ sH];refine ac (DO (ac ?_));show c8 _ X.A (do let _ <- comprehension (.ListComp elt [⟨tg,iter,ifs,0⟩] scope pos) scope X.env _ (newList []) false (eval iter X.env) (some (assign (.Name y py) X.env))) _ _ s;refine ac (on (NJ (use:=some (assign (.Name y py) X.env)) (Q:=fun _ s'=>SP X pins D .next s') rfl hs iR B.1 (fun y hy=>(B.2.1 y hy).2.1)
  (on (hi pins s σ H _ I h) (fun xv s1 h1=>on h1 (fun uX s2 h2=>?_) fun _ _ z=>z) fun _ _ z=>z)) (fun _ s' hq=>bi (bi hq)) fun _ _ z=>z)
 obtain⟨it,fp,a7,J,H2,e,I2,T,mM,f2,q2⟩:=h2;subst e;refine Dk (RR:=fun acc C=>compPost (model X.prog X.w) X.A X.xe (some (assign (.Name y py) X.env)) (fun _ s'=>SP X pins D .next s') acc C) hc B hg ht he I2 T mM f2 cc dI q2 fun E C m s' H' J2 fC hm q=>?_
 show c8 _ X.A (assign (.Name y py) X.env (.ref E)) _ _ s';refine aav (store_ok2 J2 hN cN (.inl hy) (v:=.ref E) rfl (fun s3 J3 ⟨a,jc,ha⟩=>?_) (.inr hy))
 have d8:C≠a :=by
  rcases ha with z|z
  ·rw[z];exact fC.2.1
  ·exact fun w=>fC.2.2.2.2.1 _ _ z w.symm
 exact⟨m,hm.sameBut jc d8,fun h' gX=>⟨_,H',fC.turn J3 gX,q⟩⟩
end
theorem Ir {scope:wT}{env:ON}{x:ci}(h:scope.names.lookup x=some .cell\/scope.names.lookup x=some .free):(relabel scope env).names.lookup x=some .cell\/(relabel scope env).names.lookup x=some .free :=by
 rw[cz];rcases h with h|h
 ·rw[h];exact .inl rfl
 ·rw[h];simp only[Co];split
  ·exact .inl rfl
  ·exact .inr rfl
theorem aD.rel {N:List ci}{sc scope:wT}{env:ON}{N':List ci}{tn:Nat}{idx:List Nat}(B:aD N sc scope N' tn idx):aD N (relabel sc env) scope N' tn idx:=
 ⟨B.1,fun y hy=>⟨(B.2.1 y hy).1,(B.2.1 y hy).2.1,fun z=>Ir ((B.2.1 y hy).2.2 z)⟩,B.2.2.1,B.2.2.2⟩
end L2
namespace L2
open PySem PySem.Spec PySem.W PyProof.Rows
section
variable {X:Cx}{Γ:Gz}{β:Bz}{K:bv}
def zInI (neg:Bool):eZ:=fun d e M Q=>match d,(itemsM M e).bind jA with | .int i,some ns=>Q (.bl (if neg then !decide (i∈ns) else decide (i∈ns))) M|_,_=>False
theorem yt (i:Int):∀ns:List Int,EA (.int i) (ns.map V.int)=decide (i∈ns)
 | []=>by simp[EA]
 |n::ns=>by
          have ih:=yt i ns;unfold EA at ih ⊢;rw[mo,LB,ih];simp only[sx];by_cases h:n=i
          ·subst h;simp
          ·have h':¬ i=n:=fun z=>h z.symm
           simp[h,h']
theorem BE {neg:Bool}:qX Γ (EB K neg) (zInI neg):=fun β x y d e M H Q Q' _ _ _ m rx ry z q=>by
 unfold zInI at z;split at z
 ·rename_i i ns j8;obtain⟨a,rfl,ha⟩:=vD m ry j8;have ex:=aI rx;subst ex;refine⟨a,ns.map V.int,rfl,ha.imp bF.of c9.of,rfl,?_,?_⟩
  ·rw[u8];intro v hv;obtain⟨n,_,rfl⟩:=im.mp hv;rfl
  ·rw[yt];exact q _ _ _ _ (.refl m) (.bl _) z
 ·exact z.elim
theorem Iu (hK:X.K=K):fP Γ X (compareOp .In) (zInI false):=⟨_,CI hK,BE⟩
theorem zT (hK:X.K=K):fP Γ X (compareOp .NotIn) (zInI true):=⟨_,v3 hK,BE⟩
def boolsD:List Dv->Option (List Bool)
 | []=>some []
 | .bl b::ds=>(boolsD ds).map (b::·)
 |_::_=>none
theorem vF:∀{ds:List Dv}{bs:List Bool},boolsD ds=some bs->ds=bs.map Dv.bl
 | [],bs,h=>by simp only[boolsD,LP]at h;subst h;rfl
 |d::ds,bs,h=>by
          cases d with
          |bl b=>
           simp only[boolsD,rc]at h;obtain⟨ms,h,rfl⟩:=h;rw[vF h];rfl
          |_=>simp[boolsD]at h
theorem iW:∀bs:List Bool,boolsD (bs.map Dv.bl)=some bs
 | []=>rfl
 |n::ns=>by simp[boolsD,iW ns]
theorem vG {M:Mh}{H:Hp}:∀{vs:List V}{bs:List Bool},aJ β M H vs (bs.map Dv.bl)->vs=bs.map V.bl
 | [],[],_=>rfl
 | [],_::_,r=>absurd r.len (by simp)
 |_::_,[],r=>absurd r.len (by simp)
 |v::vs,n::ns,r=>by
          rw[mo]at r;rw[mo,cL r.head,vG r.tail]
def zAllB (d:Dv) (M:Mh) (Q:ZK):Prop:=match d with | .lst ds=>(match boolsD ds with|some bs=>Q (.bl (bs.all id)) M|none=>False)|_=>False
theorem yu (hK:X.K=K) (hc:X.calm=true):fQ Γ X (.builtin "all") (z1 zAllB):=⟨_,CY hK hc,fun β xs ds M H Q Q' _ _ _ m rs z q=>by
 unfold z1 at z;split at z
 ·obtain⟨x,rfl,r⟩:=de rs;unfold zAllB at z;split at z
  ·split at z
   ·rename_i bs Wt;obtain⟨a,vs,rfl,f,ha,ez⟩:=eY r;have e:=vF Wt;subst e;have:=vG ez;subst this;exact⟨a,bs,rfl,bF.of ha,q _ _ _ _ (.refl m) (.bl _) z⟩
   ·exact z.elim
  ·exact z.elim
 ·exact z.elim⟩
theorem Pin.mono {M M':Mh}{d:Dv}(h:Pin M d):(∀a,(M a).isSome=true->(M' a).isSome=true)->Pin M' d :=by
 intro k;induction h with
 |int i=>exact .int i
 |bl b=>exact .bl b
 |ay=>exact .ay
 |str z=>exact .str z
 |tup h ih=>exact .tup ih
 |lst h ih=>exact .lst ih
 |dk h ih=>exact .dk ih
 |dt h ih=>exact .dt ih
 |dr h ih=>exact .dr ih
 |set ns=>exact .set ns
 |ptr h=>exact .ptr (k _ h)
 |exc C=>exact .exc C
 |bB ns=>exact .bB ns
 |raw v=>exact .raw v
def cF (M:Mh) (a:ag):Mh:=fun b=>if b=a then none else M b
theorem eA {M:Mh}{a:ag}:cF M a a=none :=by unfold cF;rw[if_pos rfl]
theorem bM {M:Mh}{a b:ag}(h:b≠a):cF M a b=M b :=by unfold cF;rw[if_neg h]
theorem Dl {M:Mh}{a:ag}{o:Mo}(h:M a=none):cF (aw M a o) a=M :=by
 funext b
 unfold cF aw;by_cases e:b=a
 ·rw[if_pos e,e,h]
 ·rw[if_neg e,if_neg e]
structure Pa (M1 M:Mh) (ρ:aA):Prop where
 env:∀(i:Nat) (d:Dv),ρ[i]?=some (some d)->Pin M d
 obj:∀b o,M b=some o->M1 b=some o\/∀d∈o.items,Pin M d
theorem Zr.freeze {M:Mh}{ρ:aA}{σ:St}{H:Hp}{i:Nat}{a:ag}{ds:List Dv}(z:Zr Γ β M ρ σ H) (hi:ρ[i]?=some (some (.ptr a))) (ha:M a=some (.lst ds)) (h0:Γ.M0 a=none) (fr:Pa Γ.M0 (cF M a) (ρ.set i (some (.lst ds)))) :
  Zr Γ β (cF M a) (ρ.set i (some (.lst ds))) σ H/\Ev β M H (cF M a) H :=by
 have rz:∀{v:V} {d:Dv},Rz β M H v d->Pin (cF M a) d->Rz β (cF M a) H v d:=fun r p=>r.nH (M0:=cF M a) (fun b hb=>by
  by_cases e:b=a
  ·rw[e,eA]at hb;cases hb
  ·rw[bM e]at hb;exact hb) p
 have m9:i<ρ.length:=(ca.mp hi).1;have Wu:∀d∈ds,Pin (cF M a) d:=fun d hd=>by
  have:=fr.env i (.lst ds) (by rw[Zk m9])
  cases this with|lst h=>exact h d hd
 have obj:∀b es,cF M a b=some es->∀d∈es.items,Pin (cF M a) d:=fun b es e d hd=>by
  rcases fr.obj b es e with q|q
  ·refine(z.wf b es q d hd).mono fun c hc=>?_
   have nc:c≠a:=fun w=>by rw[w,h0]at hc;cases hc
   rw[bM nc];exact z.ent.dom c hc
  ·exact q d hd
 have mz:Mz β (cF M a) H :=by
  refine⟨fun b o e=>?_,z.mz.tabs,z.mz.hids,fun b o e=>?_,z.mz.lams⟩
  ·have nb:b≠a:=fun q=>by rw[q,eA]at e;cases e
   have e':M b=some o :=by rw[bM nb]at e;exact e
   have q:=z.mz.obj b o e';cases o with
   |lst es=>obtain⟨vs,hv,rs⟩:=q;exact⟨vs,hv,rs.len,fun j v d x y=>rz (rs.at' j v d x y) (obj b _ e d (ff y))⟩
   |dk ks es=>obtain⟨vs,hv,hk,rs⟩:=q;exact⟨vs,hv,hk,rs.len,fun j v d x y=>rz (rs.at' j v d x y) (obj b _ e d (ff y))⟩
   |dt ks es=>obtain⟨vs,hv,hk,rs⟩:=q;exact⟨vs,hv,hk,rs.len,fun j v d x y=>rz (rs.at' j v d x y) (obj b _ e d (ff y))⟩
   |ts ks es=>obtain⟨vs,hv,hk,rs⟩:=q;exact⟨vs,hv,hk,rs.len,fun j v d x y=>rz (rs.at' j v d x y) (obj b _ e d (ff y))⟩
   |dS=>exact q
  ·have nb:b≠a:=fun q=>by rw[q,eA]at e;cases e
   rw[bM nb]at e;exact z.mz.apart b o e
 refine⟨⟨z.eP,z.ew,z.eK,z.et,z.sub,z.wf,⟨z.ent.keep,fun b hb=>?_,fun b o m h=>?_⟩,mz,by simp[z.len],fun j d e=>?_⟩,⟨fun b o _ h=>.inl h,fun b o m h=>?_,mz⟩⟩
 ·have nb:b≠a:=fun q=>by rw[q,h0]at hb;cases hb
  rw[bM nb];exact z.ent.dom b hb
 ·by_cases e:b=a
  ·rw[e,eA]
  ·rw[bM e];exact z.ent.new b o m h
 ·have p:=fr.env j d e;rw[LM]at e;split at e
  ·rename_i q;subst q;first
    |cases e
    |(rw[if_pos m9]at e;cases e)
   obtain⟨v,hv,r⟩:=z.at' i _ hi;obtain⟨rfl,_⟩:=bL r;obtain⟨vs,hl,rs⟩:=z.mz.obj a _ ha;refine⟨_,hv,.lst ⟨eA,z.mz.apart a _ ha⟩ hl rs.len fun k v d x y=>rz (rs.at' k v d x y) (Wu d (ff y))⟩
  ·obtain⟨v,hv,r⟩:=z.at' j d e;exact⟨v,hv,rz r p⟩
 ·by_cases e:b=a
  ·rw[e,eA]
  ·rw[bM e];exact m
def U9 (i:Nat) (M0:Mh) (p:cI):cI:=fun D ρ M=>p D ρ M\/∃a ds,ρ[i]?=some (some (.ptr a))/\M a=some (.lst ds)/\M0 a=none/\Pa M0 (cF M a) (ρ.set i (some (.lst ds)))/\p D (ρ.set i (some (.lst ds))) (cF M a)
theorem yw (i:Nat) {M1:Mh}{st:wE}{p:cI}(hM:Γ.M0=M1) (h:QS Γ X st p):QS Γ X st (U9 i M1 p):=h.imp fun D σ H ⟨β,ρ,M,D',zr,h,r⟩=>by
 rcases h with h|⟨a,ds,hi,ha,h0,fr,h⟩
 ·exact⟨β,ρ,M,D',zr,h,r⟩
 ·obtain⟨z2,e2⟩:=zr.freeze hi ha (by rw[hM];exact h0) (by rw[hM];exact fr)
  exact⟨β,_,_,D',z2,h,r.step e2⟩
end
section
variable {X:Cx}{Γ:Gz}{β:Bz}
def Pb (neg:Bool):R2:=fun x y H Q=>∃(p:ag) (xs:List V) (d:Dt) (ds:List Dt),y=.ref p/\H p=some (.lst xs)/\fj H x d/\xs.length=ds.length/\(∀(i:Nat) (v:V) (t:Dt),xs[i]?=some v->ds[i]?=some t->fj H v t) /\
 (∀t∈ds,qV t<=60)/\Q (.bl (if neg then !(ds.any fun t=>eX t d) else ds.any fun t=>eX t d)) H
open Classical in
theorem Pg {pins:List (ag×l9)}{σ:St}{H:Hp}{s:ba}(I:Inv X pins σ H s) {x:V}{v:al}{d:Dt}{xs:List V}{ds:List Dt}{its:List al}(rx:RelV x v) (hx:fj H x d) (rv:Vals xs its) (hl:xs.length=ds.length)
  (kZ:∀(i:Nat) (v:V) (t:Dt),xs[i]?=some v->ds[i]?=some t->fj H v t) (Ph:∀t∈ds,qV t<=60) (hu:X.A.units+64<CS) :
  ∃e:al->Bool,(∀y∈its,l8 X.A.in1 s y v (e y))/\its.any e=ds.any fun t=>eX t d :=by
 have qS:=rv.length;let e:al->Bool:=fun y=>decide (∃(i:Nat) (t:Dt),its[i]?=some y/\ds[i]?=some t/\eX t d=true)
 have key:∀(i:Nat) (y:al) (t:Dt),its[i]?=some y->ds[i]?=some t->e y=eX t d:=fun i y t hi ht=>by
  cases hE:eX t d with
  |true=>exact decide_eq_true ⟨i,t,hi,ht,hE⟩
  |false=>
   refine decide_eq_false fun⟨j,t',hj,TC,he⟩=>?_
   obtain⟨a,ha,ra⟩:=kh rv hi;obtain⟨b,hb,rb⟩:=kh rv hj;have J9:=ra.inj rb;subst J9;have:=(kZ i a t ha ht).inj (kZ j a t' hb TC);subst this;rw[he]at hE;cases hE
 refine⟨e,fun y hy=>?_,?_⟩
 ·obtain⟨i,hi⟩:=nw.mp hy;obtain⟨a,ha,ra⟩:=kh rv hi;have eO:i<ds.length :=by
   have:=(ca.mp ha).1;omega
  have ht:=ap eO;rw[key i y _ hi ht];refine Oe I (kZ i a _ ha ht) hx ra rx ?_;have:=Ph _ (v6 eO);have:X.A.in1.units=X.A.units+1:=rfl;omega
 ·rw[Ym,YF,YF];constructor
  ·rintro⟨y,hy,he⟩;obtain⟨i,t,_,ht,h⟩:=of_decide_eq_true he;exact⟨t,ff ht,h⟩
  ·rintro⟨t,ht,h⟩;obtain⟨i,hi⟩:=nw.mp ht;have eO:i<its.length :=by
    have:=(ca.mp hi).1;omega
   exact⟨_,v6 eO,by rw[key i _ t (ap eO) hi];exact h⟩
theorem Pj (hu:X.A.units+64<CS):OpR X (compareOp .In) (Pb false) :=by
 intro pins s σ H x y v u Q I rx ry h;obtain⟨p,xs,d,ds,rfl,hp,hx,hl,kZ,Ph,q⟩:=h;cases ry;obtain⟨its,rv,pl⟩:=I.lists hp;obtain⟨e,he,Va⟩:=Pg I rx hx rv hl kZ Ph hu;refine SeqAt.in_listAt e pl (fun y hy=>he y (by simpa using hy)) ⟨.bl _,H,I,rfl,?_⟩
 rw[show its.toArray.any e=its.any e by simp,Va]
 exact q
def yx (neg:Bool):eZ:=fun d e M Q=>match cg (now M d),(now M e) with
 |some a,.lst ds=>(match ie ds with|some ts=>(∀t∈ts,qV t<=60)/\Q (.bl (if neg then !(ts.any fun t=>eX t a) else ts.any fun t=>eX t a)) M|none=>False)
 |_,_=>False
theorem Lx {neg:Bool}:qX Γ (Pb neg) (yx neg):=fun β x y d e M H Q Q' _ _ _ m rx ry z q=>by
 unfold yx at z;split at z
 ·rename_i a ds h1 h2;split at z
  ·rename_i ts F2;have hy:fj H y (.lst ts):=Bs m ry (by rw[h2];simp only[cg,F2,Co])
   have hx:fj H x a:=Bs m rx h1;cases hy with
   |lst e hl kZ=>exact⟨_,_,a,ts,rfl,e,hx,hl,kZ,z.1,q _ _ _ _ (.refl m) (.bl _) z.2⟩
  ·exact z.elim
 ·exact z.elim
theorem R9 (hu:X.A.units+64<CS):fP Γ X (compareOp .In) (yx false):=⟨_,Pj hu,Lx⟩
end
end L2
namespace L2
open PySem PySem.Spec PyProof.Rows
section
variable {κ:Type} [DecidableEq κ] {α:Type}
def look:List κ->List α->κ->Option α
 |k::ks,d::ds,x=>if k=x then some d else look ks ds x
 |_,_,_=>none
def jB:List κ->List α->κ->α->List α
 |k::ks,d::ds,x,y=>(if k=x then y else d)::jB ks ds x y
 |_,_,_,_=>[]
def putL (ks:List κ) (k:κ):List κ:=if k∈ks then ks else ks++[k]
def fM (ks:List κ) (ds:List α) (k:κ) (d:α):List α:=if k∈ks then jB ks ds k d else ds++[d]
theorem jU {x:κ}:∀{ks:List κ}{ds:List α},ks.length=ds.length->(look ks ds x=none ↔ x ∉ ks)
 | [],[],_=>by simp[look]
 |k::ks,d::ds,h=>by
          have ih:=jU (x:=x) (ks:=ks) (ds:=ds) (by simpa using h)
          unfold look;by_cases e:k=x
          ·simp[e]
          ·rw[if_neg e,ih,lp];constructor
           ·rintro a (b|b)
            ·exact e b.symm
            ·exact a b
           ·exact fun a b=>a (.inr b)
 | [],_::_,h=>by simp at h
 |_::_,[],h=>by simp at h
theorem jn (x:κ):∀(ks:List κ) (vs:List V),fL (ks.zip vs) x=look ks vs x
 | [],vs=>by cases vs<;>rfl
 |_::_,[]=>rfl
 |k::ks,v::vs=>by
          rw[Y1];unfold look;by_cases e:k=x
          ·rw[if_pos e];exact ny (p:=(k,v)) e
          ·rw[if_neg e,nz (p:=(k,v)) e];exact jn x ks vs
theorem yy (x:κ):∀(ks:List κ) (ds:List α) {d:α},look ks ds x=some d->∃i:Nat,ks[i]?=some x/\ds[i]?=some d/\∀{β:Type}(es:List β),look ks es x=es[i]?
 | [],ds,d,h=>by cases ds<;>cases h
 |_::_,[],d,h=>by cases h
 |k::ks,e::ds,d,h=>by
          unfold look at h;by_cases q:k=x
          ·rw[if_pos q]at h;cases h;refine⟨0,by rw[q];rfl,rfl,fun es=>?_⟩
           cases es with
           |nil=>rfl
           |cons a es=>unfold look;rw[if_pos q];rfl
          ·rw[if_neg q]at h;obtain⟨i,a,b,c⟩:=yy x ks ds h;refine⟨i+1,a,b,fun es=>?_⟩
           cases es with
           |nil=>rfl
           |cons y es=>unfold look;rw[if_neg q,c es];rfl
theorem lB (x:κ):∀(ks:List κ) (ds:List α) {β:Type}(es:List β),ds.length=es.length->look ks ds x=none->look ks es x=none
 | [],ds,_,es,_,_=>by cases es<;>rfl
 |_::_,[],_,es,h,_=>by cases es with
  |nil=>rfl
  |cons _ _=>simp at h
 |k::ks,d::ds,_,[],h,_=>by simp at h
 |k::ks,d::ds,_,e::es,h,q=>by
          unfold look at q ⊢;by_cases z:k=x
          ·rw[if_pos z]at q;cases q
          ·rw[if_neg z]at q ⊢;exact lB x ks ds es (by simpa using h) q
theorem vH (x:κ) (y:α):∀(ks:List κ) (ds:List α),ks.length=ds.length->(jB ks ds x y).length=ds.length
 | [],[],_=>rfl
 |k::ks,d::ds,h=>by unfold jB;rw[wn,vH x y ks ds (by simpa using h)];rfl
 | [],_::_,h=>by simp at h
 |_::_,[],h=>by simp at h
theorem rS {ks:List κ}{ds:List α}(h:ks.length=ds.length) (k:κ) (d:α):(putL ks k).length=(fM ks ds k d).length :=by
 unfold putL fM;split
 ·rw[vH _ _ _ _ h,h]
 ·simp[h]
theorem vI (x:κ) (y:V):∀(ks:List κ) (vs:List V),ks.length=vs.length->(ks.zip vs).map (fun kv=>if kv.1=x then (kv.1,y) else kv)=ks.zip (jB ks vs x y)
 | [],[],_=>rfl
 |k::ks,d::ds,h=>by
          unfold jB;rw[Y1,Y1,mo,vI x y ks ds (by simpa using h)]
          congr 1
          dsimp only;split<;>rfl
 | [],_::_,h=>by simp at h
 |_::_,[],h=>by simp at h
theorem uG {ks:List κ}{vs:List V}(h:ks.length=vs.length) (k:κ) (v:V):putK (ks.zip vs) k v=(putL ks k).zip (fM ks vs k v) :=by
 have e:((ks.zip vs).any fun kv=>decide (kv.1=k))=decide (k∈ks) :=by
  rw[rN,jn];cases q:look ks vs k with
  |none=>exact(decide_eq_false ((jU h).mp q)).symm
  |some x=>
   have hm:k∈ks:=Db fun z=>by rw[(jU h).mpr z]at q;cases q
   rw[decide_eq_true hm];rfl
 unfold putK putL fM;rw[e];by_cases q:k∈ks
 ·rw[if_pos (decide_eq_true q),if_pos q,if_pos q];exact vI k v ks vs h
 ·rw[if_neg (by rw[decide_eq_false q];exact gc),if_neg q,if_neg q,Z2 h]
  rfl
end
section
variable {β:Bz}{M:Mh}{H:Hp}{κ:Type} [DecidableEq κ]
theorem vJ (x:κ) {v:V}{d:Dv}(r:Rz β M H v d):∀(ks:List κ) (vs:List V) (ds:List Dv),aJ β M H vs ds->aJ β M H (jB ks vs x v) (jB ks ds x d)
 | [],_,_,_=>by
          unfold jB;exact .nil
 |_::_,[],[],_=>.nil
 |_::_,[],_::_,h=>absurd h.len (by simp)
 |_::_,_::_,[],h=>absurd h.len (by simp)
 |k::ks,u::vs,e::ds,h=>by
          unfold jB;refine .cons ?_ (vJ x r ks vs ds h.tail);split
          ·exact r
          ·exact h.head
theorem rT (x:κ) {v:V}{d:Dv}(r:Rz β M H v d) {ks:List κ}{vs:List V}{ds:List Dv}(h:aJ β M H vs ds):aJ β M H (fM ks vs x v) (fM ks ds x d) :=by
 unfold fM;split
 ·exact vJ x r ks vs ds h
 ·exact h.snoc r
theorem rV {ks:List κ}{vs:List V}{ds:List Dv}(rs:aJ β M H vs ds) {x:κ}{o:Option Dv}(h:look ks ds x=o):∃ov,fL (ks.zip vs) x=ov/\ov.isSome=o.isSome/\∀r,o=some r->∃v,ov=some v/\Rz β M H v r :=by
 rw[jn];cases o with
 |none=>exact⟨none,lB x ks ds vs rs.len.symm h,rfl,fun r e=>nomatch e⟩
 |some r=>
  obtain⟨i,a,b,c⟩:=yy x ks ds h;obtain⟨v,hv,rv⟩:=rs.get b;exact⟨some v,(c vs).trans hv,rfl,fun r' e=>by cases e;exact⟨v,rfl,rv⟩⟩
end
def keyD:Dv->Option Key
 | .int i=>some (.inl i)
 | .str z=>some (.inr z)
 |_=>none
def fT:List Dv->Option (List Key)
 | []=>some []
 |d::ds=>match keyD d,fT ds with|some k,some ks=>some (k::ks)|_,_=>none
theorem tN:∀(ns:List Int),fT (ns.map Dv.int)=some (ns.map Y5)
 | []=>rfl
 |n::ns=>by rw[mo,fT,tN ns];rfl
def nowK (M:Mh):Dv->Dv
 | .ptr a=>match M a with|some (.dk ks ds)=>.dk ks ds|some (.dt ks ds)=>.dt ks ds|_=>.ptr a
 |d=>d
def lookD (M:Mh) (d e:Dv):Option (Option Dv):=match nowK M d with
 | .dk ks ds=>(match keyD e with|some k=>some (look ks ds k)|none=>none)
 | .dt ks ds=>(match e with | .tup es=>(match fT es with|some k=>some (look ks ds k)|none=>none)|_=>none)
 |_=>none
section
variable {X:Cx}{Γ:Gz}{β:Bz}{K:bv}{M:Mh}{H:Hp}
theorem uH {y:V}{e:Dv}{k:Key}(r:Rz β M H y e) (h:keyD e=some k):y=kV k :=by
 cases e with
 |int i=>cases h;exact aI r
 |str z=>cases h;exact bX r
 |_=>cases h
theorem lC:∀{es:List Dv}{ks:List Key}{vs:List V},aJ β M H vs es->fT es=some ks->vs=ks.map kV
 | [],ks,vs,rs,h=>by
          cases h;cases vs with
          |nil=>rfl
          |cons _ _=>exact absurd rs.len (by simp)
 |e::es,ks,[],rs,h=>absurd rs.len (by simp)
 |e::es,ks,v::vs,rs,h=>by
          unfold fT at h;split at h
          ·rename_i k V3 h1 h2;cases h;rw[mo,uH rs.head h1,lC rs.tail h2]
          ·cases h
theorem uI (m:Mz β M H) {x:V}{d:Dv}(r:Rz β M H x d):(∀ks ds,nowK M d=.dk ks ds->∃a vs,x=.ref a/\Rd H a (.dK (ks.zip vs))/\ks.length=vs.length/\aJ β M H vs ds) /\
  (∀ks ds,nowK M d=.dt ks ds->∃a vs,x=.ref a/\Rd H a (.dT (ks.zip vs))/\ks.length=vs.length/\aJ β M H vs ds) :=by
 cases r with
 |dk f e hk hl h=>exact⟨fun ks ds q=>(by cases q;exact⟨_,_,rfl,e,hk,hl,h⟩),fun ks ds q=>by cases q⟩
 |dt f e hk hl h=>exact⟨fun ks ds q=>(by cases q),fun ks ds q=>by cases q;exact⟨_,_,rfl,e,hk,hl,h⟩⟩
 | @ptr a hs=>
  simp only[nowK];cases q2:M a with
  |none=>rw[q2]at hs;cases hs
  |some o=>
   have q:=m.obj a o q2;cases o with
   |dk ks ds=>obtain⟨vs,e,hk,rs⟩:=q;exact⟨fun ks ds q=>(by cases q;exact⟨_,_,rfl,.inl e,hk,rs⟩),fun ks ds q=>by cases q⟩
   |dt ks ds=>obtain⟨vs,e,hk,rs⟩:=q;exact⟨fun ks ds q=>(by cases q),fun ks ds q=>by cases q;exact⟨_,_,rfl,.inl e,hk,rs⟩⟩
   |_=>exact⟨fun ks ds q=>(by cases q),fun ks ds q=>by cases q⟩
 |_=>exact⟨fun ks ds q=>(by cases q),fun ks ds q=>(by cases q)⟩
theorem nL (m:Mz β M H) {x y:V}{d e:Dv}{o:Option Dv}(r:Rz β M H x d) (re:Rz β M H y e) (h:lookD M d e=some o):∃a ov,x=.ref a/\mJ H a y ov/\ov.isSome=o.isSome/\∀r,o=some r->∃v,ov=some v/\Rz β M H v r :=by
 unfold lookD at h;obtain⟨h1,h2⟩:=uI m r;split at h
 ·rename_i ks ds q;obtain⟨a,vs,rfl,ha,hk,rs⟩:=h1 ks ds q;split at h
  ·rename_i k yz;rw[uH re yz];obtain⟨ov,e1,e2,e3⟩:=rV rs (lm h);subst e1;exact⟨a,_,rfl,.inl ⟨_,k,ha,rfl,rfl⟩,e2,e3⟩
  ·cases h
 ·rename_i ks ds q;obtain⟨a,vs,rfl,ha,hk,rs⟩:=h2 ks ds q;split at h
  ·split at h
   ·rename_i k yz;obtain⟨b,us,rfl,_,hb,ru⟩:=cj re;rw[lC ru yz]at hb;obtain⟨ov,e1,e2,e3⟩:=rV rs (lm h);subst e1;exact⟨a,_,rfl,.inr ⟨_,k,b,ha,rfl,hb,rfl⟩,e2,e3⟩
   ·cases h
  ·cases h
 ·cases h
def zGetR:eZ:=fun d e M Q=>match lookD M d e with|some (some r)=>Q r M|_=>False
theorem Vr {a b:io}{pa pb:aE}{pos:wv}(hu:X.A.units+64<CS) (ha:QE Γ X a pa) (hb:QE Γ X b pb) (hs:HW b):QE Γ X (.Subscript a b pos) (zOp zGetR pa pb):=
 (Lf (by omega) ha hb hs).imp fun σ H Q ⟨β,ρ,M,Q',zr,h,q⟩=>⟨β,ρ,M,_,zr,h,fun d M1 v H1 x1 r1 h1=>⟨β,ρ,M1,_,zr.step x1,h1,fun e M2 u H2 x2 r2 h2=>by
  unfold zGetR at h2;split at h2
  ·rename_i r hl;obtain⟨a,ov,rfl,g,_,e3⟩:=nL x2.mz (r1.ex x2) r2 hl;obtain⟨w,rfl,f7⟩:=e3 r rfl;exact⟨a,w,rfl,g,q _ _ _ _ (x1.trans x2) f7 h2⟩
  ·exact h2.elim⟩⟩
def zDIn (neg:Bool):eZ:=fun e d M Q=>match lookD M d e with|some o=>Q (.bl (if neg then !o.isSome else o.isSome)) M|none=>False
def Pk (neg:Bool):R2:=fun y x H Q=>∃a o,x=.ref a/\mJ H a y o/\Q (.bl (if neg then !o.isSome else o.isSome)) H
theorem Ly {neg:Bool}:qX Γ (Pk neg) (zDIn neg):=fun β x y d e M H Q Q' _ _ _ m rx ry z q=>by
 unfold zDIn at z;split at z
 ·rename_i o hl;obtain⟨a,ov,rfl,g,e2,_⟩:=nL m ry rx hl;refine⟨a,ov,rfl,g,?_⟩;rw[e2];exact q _ _ _ _ (.refl m) (.bl _) z
 ·exact z.elim
theorem rW (hu:X.A.units+64<CS):fP Γ X (compareOp .NotIn) (zDIn true):=⟨Pk true,fun pins s σ H x y v u Q I rx ry ⟨a,o,e,g,q⟩=>by
 subst e;cases (show u=ss a from ry);exact Ld (by omega) I g rx fun s3 I3=>⟨.bl (!o.isSome),H,I3,rfl,q⟩,Ly⟩
def zMGet:ow:=fun d ds M Q=>match ds with
 | [e]=>(match lookD M d e with|some o=>Q (o.getD .ay) M|none=>False)
 | [e,z]=>(match lookD M d e with|some o=>Q (o.getD z) M|none=>False)
 |_=>False
def Sa:V->List V->Hp->VK->Prop:=fun x xs H Q=>(∃a y o,x=.ref a/\xs=[y]/\mJ H a y o/\Q (o.getD .ay) H)\/∃a y z o,x=.ref a/\xs=[y,z]/\mJ H a y o/\Q (o.getD z) H
theorem Pl (hu:X.A.units+64<CS):vE Γ X "dict" "dict.get" K zMGet:=⟨Sa,fun pins s σ H x xs v us Q I rx rs h=>by
 rcases h with ⟨a,y,o,rfl,rfl,g,q⟩|⟨a,y,z,o,rfl,rfl,g,q⟩
 ·cases (show v=ss a from rx);cases rs with
  |cons r1 rs=>cases rs;exact Ou (by omega) I g r1 fun w' s3 I3 f7=>⟨_,H,I3,f7,q⟩
 ·cases (show v=ss a from rx);cases rs with
  |cons r1 rs=>cases rs with
   |cons r2 rs=>cases rs;exact Ov (by omega) I g r1 r2 fun w' s3 I3 f7=>⟨_,H,I3,f7,q⟩,fun β x xs d ds M H Q Q' _ _ _ m rx rs z q=>by
 unfold zMGet at z;split at z
 ·split at z
  ·rename_i o hl;obtain⟨y,rfl,ry⟩:=de rs;obtain⟨a,ov,rfl,g,e2,e3⟩:=nL m rx ry hl;refine .inl ⟨a,y,ov,rfl,rfl,g,?_⟩;cases o with
   |none=>cases ov with
    |none=>exact q _ _ _ _ (.refl m) .ay z
    |some _=>cases e2
   |some r=>
    obtain⟨w,rfl,f7⟩:=e3 r rfl;exact q _ _ _ _ (.refl m) f7 z
  ·exact z.elim
 ·split at z
  ·rename_i o hl;obtain⟨y,u,rfl,ry,ru⟩:=m7 rs;obtain⟨a,ov,rfl,g,e2,e3⟩:=nL m rx ry hl;refine .inr ⟨a,y,u,ov,rfl,rfl,g,?_⟩;cases o with
   |none=>cases ov with
    |none=>exact q _ _ _ _ (.refl m) ru z
    |some _=>cases e2
   |some r=>
    obtain⟨w,rfl,f7⟩:=e3 r rfl;exact q _ _ _ _ (.refl m) f7 z
  ·exact z.elim
 ·exact z.elim⟩
end
section
variable {β:Bz}{M:Mh}{H:Hp}{D:ag}{o':Mo}{u:HO}
theorem Lz {v:V}{d:Dv}(r:Rz (β.add D) M H v d):Rz β (aw M D o') (upd H D u) v d :=by
 have na:∀a,Fz (β.add D) M a->a≠D:=fun a f z=>f.2 (by rw[z];exact ii)
 have ne:∀a,Fz (β.add D) M a->Fz β (aw M D o') a:=fun a f=>⟨by rw[ai (na a f)];exact f.1,fun z=>f.2 (db _ z)⟩
 have pre:∀a x,Fz (β.add D) M a->H a=some x->upd H D u a=some x:=fun a x f e=>by rw[ao (na a f)];exact e
 induction r with
 |int i=>exact .int i
 |bl b=>exact .bl b
 |ay=>exact .ay
 |str z=>exact .str z
 |tup m e hl h ih=>exact .tup (ne _ m) (pre _ _ m e) hl ih
 |lst m e hl h ih=>exact .lst (ne _ m) (pre _ _ m e) hl ih
 |dk m e hk hl h ih=>exact .dk (ne _ m) (e.map fun _ h=>pre _ _ m h) hk hl ih
 |dt m e hk hl h ih=>exact .dt (ne _ m) (e.map fun _ h=>pre _ _ m h) hk hl ih
 |dr m e m2 e2 hl h ih=>exact .dr (ne _ m) (pre _ _ m e) (ne _ m2) (pre _ _ m2 e2) hl ih
 |set m e=>exact .set (ne _ m) (pre _ _ m e)
 |ptr m=>exact .ptr (by unfold aw;split;rfl;exact m)
 |exc m e=>exact .exc (ne _ m) (pre _ _ m e)
 |bB m e=>exact .bB (ne _ m) (pre _ _ m e)
 |cJ m e=>exact .cJ (ne _ m) (pre _ _ m e)
 |cK e=>exact .cK e
 |raw v=>exact .raw v
theorem jo {vs:List V}{ds:List Dv}(r:aJ (β.add D) M H vs ds):aJ β (aw M D o') (upd H D u) vs ds:=⟨r.len,fun i v d a b=>Lz (r.at' i v d a b)⟩
theorem Ex.Pn {M2:Mh}{H2:Hp}{o:HO}(x:Ex β M H M2 H2) (hD:D∈β.hid) (m:M D=none) (h:H D=some o) (ho:C8 o=true):H2 D=some o :=by
 rcases x.keep D o m h with q|⟨o',t,q⟩
 ·exact q
 ·rcases t with ⟨_,_,rfl,_⟩|⟨_,_,rfl,_⟩|⟨_,ob,rfl⟩
  ·cases ho
  ·cases ho
  ·obtain⟨w,e,n⟩:=x.mz.hids D hD;rw[q]at e;cases e;cases n
theorem Mz.Pq (m:Mz (β.add D) M H) (hM:M D=none) (hD:D ∉ β.hid) (nt:D ∉ β.tb) (hu:pj u=true) (r:jM β (aw M D o') (upd H D u) D o'):Mz β (aw M D o') (upd H D u) :=by
 obtain⟨oD,eD,nD⟩:=m.hids D ii;refine⟨fun a o e=>?_,fun q hq=>?_,fun a ha=>(m.hids a (db _ ha)).upd (.inr hu),fun a o e z=>?_,fun q hq=>?_⟩
 ·by_cases ha:a=D
  ·subst ha;rw[updM_same]at e;cases e;exact r
  ·rw[ai ha]at e;have z:=m.obj a o e;cases o with
   |lst ds=>obtain⟨vs,z,rs⟩:=z;exact⟨vs,by rw[ao ha];exact z,jo rs⟩
   |dk ks ds=>obtain⟨vs,z,hk,rs⟩:=z;exact⟨vs,by rw[ao ha];exact z,hk,jo rs⟩
   |dt ks ds=>obtain⟨vs,z,hk,rs⟩:=z;exact⟨vs,by rw[ao ha];exact z,hk,jo rs⟩
   |ts ks ds=>obtain⟨vs,z,hk,rs⟩:=z;exact⟨vs,by rw[ao ha];exact z,hk,jo rs⟩
   |dS=>obtain⟨c,n,z,q⟩:=z;exact⟨c,n,by rw[ao ha];exact z,q⟩
 ·obtain⟨ps,e,t⟩:=m.tabs q hq;exact⟨ps,by rw[ao (show q≠D from fun z=>nt (by rw[<- z];exact hq))];exact e,t⟩
 ·by_cases ha:a=D
  ·exact hD (ha▸z)
  ·rw[ai ha]at e;exact m.apart a o e (db _ z)
 ·exact(m.lams q hq).keep (fun _ e=>by rw[ao (fun z=>by subst z;rw[eD]at e;cases e;cases nD)];exact e) fun c _ _ e=>by rw[ao (fun z=>by subst z;rw[eD]at e;cases e;cases nD)];exact e
end
section
variable {X:Cx}{pos:wv}
def LA (tk tv:TE):TE:=fun σ H Q=>∀p,H p=none->tk σ (upd H p (.dT [])) fun x H1=>tv σ H1 fun y H2=>H2 p=some (.dT [])/\∃b k,x=.ref b/\H2 b=some (.tup (k.map kV))/\Q (.ref p) (upd H2 p (.dT [(k,y)]))
theorem F3 {k v:io}{tk tv:TE}(hu:X.A.units+1<CS) (hk:PE X k tk) (hv:PE X v tv):PE X (.Dict [some k] [v] pos) (LA tk tv) :=by
 refine⟨?_⟩;intro pins s σ H Q I q;have hn:=I.hok.fresh (cb s.heap.objs.size);have I1:=I.laid (a:=s.heap.objs.size) (o:=.dT []) (h':=s.heap.push {cls:=.type "dict",data:=.dict #[]}) (t':=s.toks) (fun _ _ q=>br _ q) (cb _) (xN s.heap I.big)
 refine wpAny_Dict_any rfl rfl (by simp) (by simp) (pairTrees_cons_walk (thn (hk pins _ σ _ _ I1 (q _ hn)) fun w1 s2 ⟨x,H1,I2,rx,q1⟩=>thn (hv pins s2 σ H1 _ I2 q1) fun w2 s3 ⟨y,H2,I3,ry,hp,b,ks,ex,hb,q2⟩=>pairTrees_nil_walk ?_))
 subst ex;cases (show w1=ss b from rx);unfold storeAll;rw[Yn];obtain⟨z,hd,xs,rel,dd⟩:=C2 I3.hok hp;cases rel;refine ac (ac (wpAny_dictSet_heap (knd:=tupleKind (bJ X.prog X.w)) (by show X.A.units<CS;omega) (jK I3.hok hb) dd (fun h' vp hs=>bi ?_) (by simp)))
 dsimp only;rw[Y7];refine bi ⟨.ref s.heap.objs.size,_,?_,rfl,q2⟩;obtain⟨o,es,ep,ho,h2,h3,h4,h5,h6⟩:=vp;have he:storedH ([]:List (List Key×ag×al)) ks b w2=[(ks,b,w2)]:=rfl;rw[he]at h4 h6;refine qm I3 (by rw[hp];exact Pi) hs ⟨o,ho⟩ ⟨by show 1<=sizeLine;decide,hd,[(ks,b,w2)],.cons ⟨rfl,?_,ry⟩ .nil,o,es,ep,ho,h2,h3,h4,h6⟩
 rw[ao (wq hb hp (by intro z;cases z))]
 exact hb
end
section
variable {X:Cx}{Γ:Gz}{β:Bz}{K:bv}
def zDNewT:aE:=fun _ M Q=>∀a,M a=none->Q (.ptr a) (aw M a (.dt [] []))
theorem yA {pos:wv}:QE Γ X (.Dict [] [] pos) zDNewT:=HY.imp fun σ H Q ⟨β,ρ,M,Q',zr,h,q⟩ p hp=>
 q _ _ _ _ (Ex.Ic (ks:=[]) (vs:=[]) (ds:=[]) zr.mz (.inr hp) rfl .nil) (.ptr (by rw[updM_same];rfl)) (h p (zr.mz.free hp))
def zDisp1K (pk pv:aE):aE:=fun ρ M Q=>pk ρ M fun e M1=>pv ρ M1 fun v M2=>match keyD e with|some k=>∀a,M2 a=none->Q (.ptr a) (aw M2 a (.dk [k] [v]))|none=>False
def zDisp1T (pk pv:aE):aE:=fun ρ M Q=>pk ρ M fun e M1=>pv ρ M1 fun v M2=>match e with | .tup es=>(match fT es with|some k=>∀a,M2 a=none->Q (.ptr a) (aw M2 a (.dt [k] [v]))|none=>False)|_=>False
theorem LC {M M2:Mh}{H H2:Hp}{D:ag}{o:HO}{o':Mo}{u:HO}(hD:H D=none) (x:Ex (β.add D) M (upd H D o) M2 H2) (mz:Mz β (aw M2 D o') (upd H2 D u)):Ex β M H (aw M2 D o') (upd H2 D u) :=by
 have ey:Ey M H M2 (upd H2 D u):=((Ey.refl (M:=M) (H:=H)).over (o:=o) hD |>.trans x.toEy).over hD
 exact⟨⟨ey.keep,fun a h=>by unfold aw;split;rfl;exact ey.dom a h,fun a w m e=>by rw[ai (bt e hD)];exact ey.new a w m e⟩,mz⟩
theorem TF {k v:io}{pk pv:aE}{pos:wv}(hu:X.A.units+64<CS) (hk:QE Γ X k pk) (hv:QE Γ X v pv):QE Γ X (.Dict [some k] [v] pos) (zDisp1T pk pv):=
 (F3 (by omega) hk hv).imp fun σ H Q ⟨β,ρ,M,Q',zr,h,q⟩ p hp=>by
  have z1:=zr.enter hp (o:=.dT []) rfl;refine⟨β.add p,ρ,M,_,z1,h,fun e M1 y H1 x1 r1 h1=>⟨β.add p,ρ,M1,_,z1.step x1,h1,fun d M2 w H2 x2 r2 h2=>?_⟩⟩
  have Ka:=x1.trans x2;have TH:M p=none:=zr.mz.free hp;have e2:H2 p=some (.dT []):=Ka.Pn ii TH aH rfl;have TJ:M2 p=none:=Ka.new p _ TH aH;refine⟨e2,?_⟩;split at h2
  ·split at h2
   ·rename_i es kk Wv;obtain⟨b,us,rfl,_,hb,ru⟩:=cj (r1.ex x2);rw[lC ru Wv]at hb;refine⟨b,kk,rfl,hb,?_⟩;refine q _ _ _ _ (LC (o':=.dt [kk] [d]) (u:=.dT ([kk].zip [w])) hp Ka (Ka.mz.Pq TJ (zr.mz.fz hp).2 (zr.mz.Dc hp) rfl ⟨[w],aH,rfl,jo (.cons r2 .nil)⟩)) (.ptr (by rw[updM_same];rfl)) (h2 p TJ)
   ·exact h2.elim
  ·exact h2.elim
def zDPut (pd pk pv:aE):cI:=fun D ρ M=>pv ρ M fun v M1=>pd ρ M1 fun d M2=>pk ρ M2 fun e M3=>match d with
 | .ptr a=>(match M3 a with
  |some (.dk ks ds)=>(match keyD e with|some k=>ks.length<sizeLine/\D.nx ρ (aw M3 a (.dk (putL ks k) (fM ks ds k v)))|none=>False)
  |some (.dt ks ds)=>(match e with | .tup es=>(match fT es with|some k=>ks.length<sizeLine/\D.nx ρ (aw M3 a (.dt (putL ks k) (fM ks ds k v)))|none=>False)|_=>False)
  |_=>False)
 |_=>False
theorem BF {o i value:io}{pd pk pv:aE}{pos pos':wv}(hu:X.A.units+64<CS) (ho:QE Γ X o pd) (hi:QE Γ X i pk) (hv:QE Γ X value pv) (hs:swapsWith value (some (.Subscript o i pos')) pos.line X.env=pure false :=by rfl) :
  QS Γ X (.Assign [.Subscript o i pos'] value pos) (zDPut pd pk pv):=(Lg (by omega) ho hi hv hs).imp fun D σ H ⟨β,ρ,M,D',zr,h,r⟩=>⟨β,ρ,M,_,zr,h,fun v M1 vv H1 x1 r1 h1=>⟨β,ρ,M1,_,zr.step x1,h1,fun d M2 dv H2 x2 r2 h2=>
   ⟨β,ρ,M2,_,(zr.step x1).step x2,h2,fun e M3 ev H3 x3 r3 h3=>by
 have z3:=((zr.step x1).step x2).step x3;have Bq:=x1.trans (x2.trans x3);have rv:=(r1.ex x2).ex x3;split at h3
 ·rename_i a;obtain⟨rfl,hs⟩:=bL r2;split at h3
  ·rename_i ks ds hM;obtain⟨vs,ha,hk,rs⟩:=x3.mz.obj a _ hM;split at h3
   ·rename_i k yz;obtain⟨hl,h3⟩:=h3;have hp:(M3 a).isSome=true :=by rw[hM];rfl
    have x4:Ex β M3 H3 (aw M3 a (.dk (putL ks k) (fM ks ds k v))) (upd H3 a (.dK ((putL ks k).zip (fM ks vs k vv)))):=Ex.U7 x3.mz (.inl hp) (rS hk k vv) (rT k rv rs);refine⟨a,_,rfl,.inl ⟨_,k,ha,uH r3 yz,by rw[SI,<- hk,Re];exact hl,rfl⟩,?_⟩
    rw[uG hk];exact r.nx _ _ _ _ (Bq.trans x4).ev (z3.step x4) h3
   ·exact h3.elim
  ·rename_i ks ds hM;obtain⟨vs,ha,hk,rs⟩:=x3.mz.obj a _ hM;split at h3
   ·split at h3
    ·rename_i k yz;obtain⟨hl,h3⟩:=h3;obtain⟨b,us,rfl,_,hb,ru⟩:=cj r3;rw[lC ru yz]at hb;have hp:(M3 a).isSome=true :=by rw[hM];rfl
     have x4:Ex β M3 H3 (aw M3 a (.dt (putL ks k) (fM ks ds k v))) (upd H3 a (.dT ((putL ks k).zip (fM ks vs k vv)))):=Ex.Ic x3.mz (.inl hp) (rS hk k vv) (rT k rv rs);refine⟨a,_,rfl,.inr ⟨_,k,b,ha,rfl,hb,by rw[SI,<- hk,Re];exact hl,rfl⟩,?_⟩
     rw[uG hk];exact r.nx _ _ _ _ (Bq.trans x4).ev (z3.step x4) h3
    ·exact h3.elim
   ·exact h3.elim
  ·exact h3.elim
 ·exact h3.elim⟩⟩⟩
end
theorem F4 {P:jp}{w:lf}{K:bv}{mg mb:ci->Option al}{CX:mP}{k:Nat}{fa a:ag}{fd:tz}{x:ci}{sp:Sp}{az:ba}{vs:List al}{ns:List Int}{tabs lts:List ag}
  (KX:K.In az.heap) (j8:az.heap.Ns li mg) (hb:az.heap.Ns ET mb) (Ww:∀x:ci,x ≠ "__name__" -> mb x=zd x) (C5:az.heap.NoLimit) (hg:az.gens=#[])
  (ha:az.heap.get? a=some {cls:=.type "list",data:=.seq vs.toArray}) (hi:So vs ns) (hl:ns.length<=sizeLine) (hr:bZ k callerA)
  (k9:∀p∈tabs++lts,az.heap.get? p=some (YA #[])/\isCodeTable az.heap p) (Vb:∀p∈tabs,p ∉ lts) (F5:aaj K=true) (eW:∃bm ob,Zs az.heap li mg bm ob)
  (F:∀base:i8,K.In base->base.Ns li mg->(∃bm ob,Zs base li mg bm ob)->(∀c p,u7 az.heap c p->u7 base c p)->FnOk P w K mg base CX k fa fd [x] sp)
  (Sb:∀(s:ba) (u:al),aaF s fd ⟨[u],[]⟩ [(x,u)])
  (mQ:∀H:Hp,(∀p∈tabs,Tb p H)->(∀p∈lts,H p=some (.lam #[]))->bF K H a (ns.map V.int)->sp [.ref a] H (fun v H'=>v=.bl true/\∀p∈lts,∃ps,H' p=some (.lam ps)) fun _ _ _=>False)
  (Pr:∀H e s',CX [] H az (fun _ _ _=>False) e s'->False) :
  OE (model P w) callerA (.call (.ref fa) ⟨[.ref a],[]⟩) (fun r s'=>r=.ok (.ret (.bool true))/\OldK az.heap s'.heap/\s'.os=az.os/\aaZ s'.gens) az :=by
 have rv:=vd hi;have Vc:=hi.length;have kZ:a ∉ tabs++lts:=fun z=>by
  have e:=(k9 a z).1;rw[ha]at e;cases e
 have core:∀H:Hp,(∀b u,H b=some u->(b=a/\∃o xs,u=.gN o (.lst xs))\/(b∈tabs++lts/\(u=.cV #[]/\b∈tabs\/u=.lam #[]/\b∈lts)))->(∀p∈tabs,H p=some (.cV #[]))->(∀p∈lts,H p=some (.lam #[]))->bF K H a (ns.map V.int)->cG P w H az.heap->(H a≠none->K.lookup a=none)->
   OE (model P w) callerA (.call (.ref fa) ⟨[.ref a],[]⟩) (fun r s'=>r=.ok (.ret (.bool true))/\OldK az.heap s'.heap/\s'.os=az.os/\aaZ s'.gens) az :=by
  intro H hO Wx Wy hS hok hK;have qu:∀{b:ag} {o:l9},az.heap.get? b=some o->H b=none->(kO az.heap H).get? b=some o:=fun e n=>Hd e n
  have no:∀{b:ag} {o:l9},az.heap.get? b=some o->(∀n,o.data≠.seq vs.toArray n)->o≠YA #[]->H b=none:=fun {b o} e d1 d2=>by
   cases q:H b with
   |none=>rfl
   |some u=>
    rcases hO b u q with ⟨e',_⟩|⟨bC,_⟩
    ·subst e';rw[ha]at e;cases e;exact absurd rfl (d1 _)
    ·rw[(k9 b bC).1]at e;exact absurd (lm e).symm d2
  have Wz:∀{b:ag} {o:l9} {es:Array DictEntry} {ep:Nat},az.heap.get? b=some o->o.data=.dict es ep->H b=none:=fun {b o es ep} e d=>no e (fun n z=>by rw[d]at z;cases z) fun z=>by rw[z]at d;cases d
  have F6:∀{b:ag} {m:ci->Option al},az.heap.Ns b m->(kO az.heap H).Ns b m:=fun {b m} hS=>by obtain⟨o,es,ep,e,d,r⟩:=hS;exact⟨o,es,ep,qu e (Wz e d),d,r⟩
  have TK:K.In (kO az.heap H):=fun b o e=>qu (KX b o e) (by
   cases q:H b with
   |none=>rfl
   |some u=>
    rcases hO b u q with ⟨e',_⟩|⟨bC,_⟩
    ·subst e';rw[hK (by rw[q];simp)]at e;cases e
    ·have e1:=KX b o e;have e2:=(k9 b bC).1;rw[e1]at e2;have e3:o=YA #[]:=lm e2;have q2:=u8.mp F5 (b,o) (PySem.W.kb_mem e);simp only[YU,decide_eq_true_eq,beq_iff_eq]at q2;rcases q2 with (q2|q2)|q2
     ·rw[e3]at q2;exact absurd rfl q2
     ·obtain⟨mc,⟨oc,es,ep,ho,hd,_⟩,_⟩:=C5;rw[<- q2,e1]at ho;cases ho;rw[e3]at hd;cases hd
     ·obtain⟨oc,es,ep,ho,hd,_⟩:=id j8;rw[<- q2,e1]at ho;cases ho;rw[e3]at hd;cases hd)
  have hM:Mod K mg (kO az.heap H):=⟨TK,F6 j8,⟨mb,F6 hb,Ww⟩,let ⟨mc,h1,h2⟩:=C5;⟨mc,F6 h1,h2⟩⟩;have hB:∃bm ob,Zs (kO az.heap H) li mg bm ob :=by
   obtain⟨bm,ob,B⟩:=eW;exact⟨bm,ob,F6 B.ns,B.name,B.ne,qu B.obj (no B.obj (fun n z=>by rw[B.data]at z;cases z) fun z=>by have:=B.data;rw[z]at this;cases this),B.cls,B.dict,B.data⟩
  have hC:∀c p,u7 az.heap c p->u7 (kO az.heap H) c p:=fun c p ⟨o,FE,file,tf,flags,tg,WB,text,tt,e1,e2,e3,r⟩=>
   ⟨o,FE,file,tf,flags,tg,WB,text,tt,qu e1 (no e1 (fun n z=>by rw[e3]at z;cases z) fun z=>by rw[z]at e2;cases e2),e2,e3,r⟩
  have e0:CA P w K mg (kO az.heap H) callerA [] az H:=⟨rfl,hM,fun b o e=>KG e,Nat.le_of_eq (Ea _ _),trivial,fun b hb=>absurd (show b∈([]:List ag) from hb) (by simp),hok,.of_eq hg⟩
  refine codeAny_mono ((F _ TK (F6 j8) hB hC).run callerA [] az H ⟨[.ref a],[]⟩ [.ref a] [.ref a] _ _ hr e0 (Sb az (.ref a)) (.cons rfl .nil) (mQ H (fun p hp=>⟨#[],Wx p hp,trivial⟩) Wy hS)) fun r s' h=>?_
  cases r with
  |error e=>exact(Pr H e s' h).elim
  |ok fl=>
   cases fl with
   |next=>exact Pe h
   |brk=>exact Pe h
   |cont=>exact Pe h
   |ret u=>
    obtain⟨v,H',os,bare,un,Iv,r',q⟩:=h;obtain⟨q',qL⟩:=q;subst q';obtain rfl:u=ZJ true:=r';have all:∀b o,az.heap.get? b=some o->asItWas az.heap s'.heap b o/\∃o',s'.heap.get? b=some o':=fun b o e=>by
     cases q:H b with
     |none=>
      have:=un.keep b o e q (by intro z;exact absurd (show b∈([]:List ag) from z) (by simp)) (by simp)
      exact⟨.inl this,_,this⟩
     |some u=>
      rcases hO b u q with ⟨_,ob,xs,z⟩|⟨bC,z⟩
      ·subst z;have z2:=un.frzs b ob _ q;obtain⟨e1,_⟩:=hok b _ q;obtain⟨e2,_⟩:=Iv b _ z2;rw[e]at e1;cases e1;exact⟨.inl e2,_,e2⟩
      ·have e2:∃more,s'.heap.get? b=some {cls:=.none,data:=.fields (#[]++more)}:=by
        rcases z with ⟨z,_⟩|⟨z,k8⟩
        ·subst z;obtain⟨more,z2⟩:=un.tbls b #[] q;exact⟨more,Iv b _ z2⟩
        ·obtain⟨ps,z2⟩:=qL b k8;refine⟨ps,?_⟩;have:=Iv b _ z2;rw[show (#[]:Array al)++ps=ps by simp]
         exact this
       obtain⟨more,e2⟩:=e2;have e1:=(k9 b bC).1;rw[e]at e1;obtain rfl:o=YA #[]:=lm e1;exact⟨.inr (.inl ⟨(k9 b bC).2,rfl,#[],more,rfl,e2⟩),_,e2⟩
    exact⟨rfl,⟨fun b o e=>(all b o e).1,fun b o e=>(all b o e).2⟩,os,bare.1⟩
 have Pt:∀p∈tabs++lts,∀H:Hp,∀u,(u=.cV #[]/\p∈tabs\/u=.lam #[]/\p∈lts)->ObjOk P w H az.heap p u:=fun p hp H u hu=>by
  rcases hu with ⟨rfl,_⟩|⟨rfl,_⟩<;>exact(k9 p hp).1
 let T:Hp:=fun b=>if b∈lts then some (.lam #[]) else if b∈tabs then some (.cV #[]) else none
 have T1:∀b u,T b=some u->b∈tabs++lts/\(u=.cV #[]/\b∈tabs\/u=.lam #[]/\b∈lts):=fun b u z=>by
  by_cases h1:b∈lts
  ·have z':=(show T b=_ from if_pos h1).symm.trans z;cases z';exact⟨f8 _ h1,.inr ⟨rfl,h1⟩⟩
  ·by_cases h2:b∈tabs
   ·have z':=(show T b=_ from (if_neg h1).trans (if_pos h2)).symm.trans z;cases z';exact⟨uu _ h2,.inl ⟨rfl,h2⟩⟩
   ·have z':=(show T b=_ from (if_neg h1).trans (if_neg h2)).symm.trans z;cases z'
 have T2:∀p∈tabs,T p=some (.cV #[]):=fun p hp=>(if_neg (Vb p hp)).trans (if_pos hp)
 have T3:∀p∈lts,T p=some (.lam #[]):=fun p hp=>if_pos hp
 have Ta:T a=none:=(if_neg fun z=>kZ (f8 _ z)).trans (if_neg fun z=>kZ (uu _ z))
 cases hk:K.lookup a with
 |some o=>
  have e:=KX a o hk;rw[ha]at e;cases e;exact core T (fun b u z=>.inr (T1 b u z)) T2 T3 (.inr ⟨_,vs.toArray,_,hk,rfl,rfl,rfl,by rw[lv,Vc];exact hl,by simpa using rv⟩) (fun b u z=>Pt b (T1 b u z).1 _ u (T1 b u z).2) fun z=>absurd Ta z
 |none=>
  have na:∀p∈tabs++lts,p≠a:=fun p hp z=>kZ (z▸hp)
  refine core (upd T a (.gN {cls:=.type "list",data:=.seq vs.toArray} (.lst (ns.map V.int)))) (fun b u z=>?_) (fun p hp=>by rw[ao (na p (uu _ hp))];exact T2 p hp) (fun p hp=>by rw[ao (na p (f8 _ hp))];exact T3 p hp) (.inl (.inr ⟨_,aH⟩)) (fun b u z=>?_) fun _=>hk
  ·by_cases hb:b=a
   ·subst hb;rw[aH]at z;cases z;exact .inl ⟨rfl,_,_,rfl⟩
   ·rw[ao hb]at z;exact .inr (T1 b u z)
  ·by_cases hb:b=a
   ·subst hb;rw[aH]at z;cases z;exact⟨ha,by rw[bn];exact hl,vs,_,rv,ha⟩
   ·rw[ao hb]at z;exact Pt b (T1 b u z).1 _ u (T1 b u z).2
def wD (K:bv) (x:ci):Option ag:=match ul K li x with
 |some (some (.ref f))=>(match K.lookup f with
  |some ⟨_,_,.func fd,_⟩=>(match fd.code with
   | .ref c=>(match K.lookup c with
    |some ⟨_,_,.fields vs,_⟩=>(match vs[11]? with|some (ss p)=>some p|_=>none)
    |_=>none)
   |_=>none)
  |_=>none)
 |_=>none
abbrev TabOf (mg:ci->Option al) (h:i8) (y:ci) (p:ag):Prop:=∃f o fd c,mg y=some (.ref f)/\h.get? f=some o/\o.data=.func fd/\fd.code=.ref c/\u7 h c p
theorem yB {K:bv}{mg:ci->Option al}{h:i8}{y:ci}{p q:ag}(X:K.In h) (G:h.Ns li mg) (t:TabOf mg h y p) (e:wD K y=some q):p=q :=by
 obtain⟨f,o,fd,c,e1,e2,e3,e4,oc,vs,_,_,_,_,_,_,_,g1,_,g3,g4,_⟩:=t;unfold wD at e;split at e
 ·rename_i f' j8;have:=(WS X G j8).symm.trans e1;cases this;split at e
  ·rename_i Yb Yc VQ SQ yC;have:=(X _ _ yC).symm.trans e2;cases this;cases e3;rw[e4]at e;dsimp only at e;split at e
   ·rename_i a1 a2 FE a3 WC;have:=(X _ _ WC).symm.trans g1;cases this;cases g3;rw[g4]at e;cases e;rfl
   ·cases e
  ·cases e
 ·cases e
def uJ (K:bv) (gs ls:List ci):Bool:=gs.all fun x=>ls.all fun y=>match wD K x,wD K y with|some p,some q=>decide (p≠q)|_,_=>false
theorem BG {α β:Type}{F:α->β->Prop}{l:List α}{m:List β}(h:BY F l m) {b:β}(hb:b∈m):∃a∈l,F a b :=by
 induction h with
 |nil=>simp at hb
 |cons x t ih=>
  rcases lp.mp hb with e|e
  ·subst e;exact⟨_,ii,x⟩
  ·obtain⟨a,ha,q⟩:=ih e;exact⟨a,db _ ha,q⟩
theorem Iw {K:bv}{mg:ci->Option al}{h:i8}{gs ls:List ci}{tabs lts:List ag}(X:K.In h) (G:h.Ns li mg) (d:uJ K gs ls=true) (t1:BY (TabOf mg h) gs tabs) (t2:BY (TabOf mg h) ls lts):∀p∈tabs,p ∉ lts:=fun p hp hq=>by
 obtain⟨x,hx,tx⟩:=BG t1 hp;obtain⟨y,hy,ty⟩:=BG t2 hq;have:=u8.mp (u8.mp d x hx) y hy;split at this
 ·rename_i p' q' e1 e2;have a:=yB X G tx e1;have b:=yB X G ty e2;exact(of_decide_eq_true this) (a.symm.trans b)
 ·cases this
theorem Iy {l:aaV}{n k:Nat}{q:jp}{loose:List ci}{XP:(ci->Option al)->i8->Prop}{YP:lf->i8->Prop}{d:DefRec}{K:aa4->bv}{CX:mP}{sp:bv->List ag->List ag->Sp}{x:ci}{om F7:List ci}
  (hn:l.most=some n) (WD:n<=sizeLine) (EG:d.params.defaults=[]) (hr:bZ k callerA) (F5:∀w:lf,aaj (K w.params)=true)
  (Kb:∀y∈om++F7,∃r∈recsOf q,r.name=y) (qR:∀w:lf,uJ (K w.params) om F7=true)
  (hY:∀(w:lf) (h:i8),YP w h->(K w.params).In h)
  (F:∀(w:lf) (mg:ci->Option al) (fa:ag) (h:i8) (tabs lts:List ag),(K w.params).In h->h.Ns li mg->mg d.name=some (.ref fa)->
   BY (TabOf mg h) om tabs->BY (TabOf mg h) F7 lts->
   ∃fd:tz,(∀(s:ba) (u:al),aaF s fd ⟨[u],[]⟩ [(x,u)]) /\
    ∀base:i8,(K w.params).In base->base.Ns li mg->(∃bm ob,Zs base li mg bm ob)->(∀c p,u7 h c p->u7 base c p)->FnOk l.prog w (K w.params) mg base CX k fa fd [x] (sp (K w.params) tabs lts))
  (mQ:∀(K:bv) (tabs lts:List ag) (H:Hp) (a:ag) (ns:List Int),lts.length=F7.length->ns.length<=n->(∀p∈tabs,Tb p H)->(∀p∈lts,H p=some (.lam #[]))->bF K H a (ns.map V.int)->sp K tabs lts [.ref a] H (fun v H'=>v=.bl true/\∀p∈lts,∃ps,H' p=some (.lam ps)) fun _ _ _=>False)
  (Pr:∀(H:Hp) (s:ba) (e:al) (s':ba),CX [] H s (fun _ _ _=>False) e s'->False) :
  PySem.W.WalkO q loose XP YP l.row.toRowW d [] (fun f vs=>aa0 f vs) :=by
 refine S2.zK hn EG fun w s₀ az mg mb fa o pm cd doc a vs ns G Y ho hd iN EH Hx hints hlen hg=>?_
 have KX:=hY w _ Y;have tb:∀om:List ci,(∀y∈om,∃r∈recsOf q,r.name=y)->∃tabs,BY (TabOf mg az.heap) om tabs/\∀p∈tabs,az.heap.get? p=some (YA #[])/\isCodeTable az.heap p :=by
  intro om;induction om with
  |nil=>intro _;exact⟨[],.nil,fun p hp=>absurd hp (by simp)⟩
  |cons y r ih=>
   intro hm;obtain⟨tabs,h1,h2⟩:=ih fun z hz=>hm z (db _ hz)
   obtain⟨rr,WG,e⟩:=hm y ii;obtain⟨f,o',fd,c,p,a1,a2,a3,a4,a5,a6⟩:=G.T.tab rr WG;rw[e]at a1;refine⟨p::tabs,.cons ⟨f,o',fd,c,a1,a2,a3,a4,.of a5 a6⟩ h1,fun z hz=>?_⟩
   rcases lp.mp hz with rfl|hz
   ·exact⟨a6.2,a6.isCodeTable⟩
   ·exact h2 z hz
 obtain⟨tabs,t1,t2⟩:=tb om fun y hy=>Kb y (uu _ hy)
 obtain⟨lts,u1,u2⟩:=tb F7 fun y hy=>Kb y (f8 _ hy)
 obtain⟨fd,hb,hF⟩:=F w mg fa _ tabs lts KX G.T.g EH t1 u1;exact F4 (lts:=lts) KX G.T.g G.T.b G.T.builtins G.T.nolimit hg Hx hints (wb hlen WD) hr (fun p hp=>(qr.mp hp).elim (t2 p) (u2 p)) (Iw KX G.T.g (qR w) t1 u1) (F5 w) (PySem.W.bmod_of_top G.T) hF hb (fun H hO hL hS=>mQ _ tabs lts H a ns (SS u1).symm hlen hO hL hS) fun H e s'=>Pr H az e s'
theorem Iz {K:bv}{tabs lts:List ag}{qs:List ci}{H:Hp}{a:ag}{ns:List Int}(hl:lts.length=qs.length) (hn:ns.length<=63) (hT:∀p∈tabs,Tb p H) (hL:∀p∈lts,H p=some (.lam #[])) (hS:bF K H a (ns.map V.int)) :
  spLaw K ⟨tabs,lts.zip qs⟩ [.ref a] H (fun v H'=>v=.bl true/\∀p∈lts,∃ps,H' p=some (.lam ps)) fun _ _ _=>False:=
 ⟨a,ns,rfl,hS,hn,hT,fun p hp=>⟨#[],hL p.1 (ZO hp).1,trivial,fun pos cv e=>nomatch e⟩,fun H' h=>⟨rfl,fun p hp=>by
  obtain⟨i,hi⟩:=nw.mp hp;have h1:=(ca.mp hi).1;exact h (p,qs[i]) (ff (i:=i) (AC.mpr ⟨hi,ap (by omega)⟩))⟩⟩
theorem vK {α β:Type}{F:α->β->Prop}:∀{l:List α}{m:List β}{i:Nat}{a:α},BY F l m->l[i]?=some a->∃b,m[i]?=some b/\F a b
 |_,_,_,_,.nil,h=>by simp at h
 |_,_,0,_,.cons x _,h=>by simp at h;subst h;exact⟨_,rfl,x⟩
 |_,_,i+1,_,.cons _ t,h=>by obtain⟨b,e,q⟩:=vK (i:=i) t (by simpa using h);exact⟨b,by simpa using e,q⟩
end L2
namespace L2
open PySem PySem.Spec PySem.W PyProof.Rows
section
variable {X:Cx}{Γ:Gz}{K:bv}
theorem aJ.rep {β:Bz}{M:Mh}{H:Hp}{vs:List V}{ds:List Dv}(r:aJ β M H vs ds):∀k:Nat,aJ β M H (mT k vs).flatten (mT k ds).flatten
 |0=>⟨rfl,fun i v d h=>by simp at h⟩
 |k+1=>by rw[xb,xb,OF,OF];exact r.append (aJ.rep r k)
open Classical in
end
end L2
namespace L2
open PySem PySem.Spec PyProof.Rows
theorem iB {g:bP}{te:aE}(J:List Dv->aA->Mh->Prop):∀{ds acc:List Dv}{τ:aA}{M:Mh}{Q:List Dv->Mh->Prop},J acc τ M->
  (∀i d e7 τ M,ds[i]?=some d->e7.length=acc.length+i->J e7 τ M->∀R:aA->ZK,(∀y au M2,J (e7++[y]) au M2->R au y M2)->g d τ M fun au M2=>te au M2 (R au))->
  (∀ys τ M,ys.length=ds.length->J (acc++ys) τ M->Q ys M)->gV g zNoIf te ds τ M Q
 | [],acc,τ,M,Q,j,_,q=>q [] τ M rfl (by rw[Ix];exact j)
 |d::ds,acc,τ,M,Q,j,h,q=>by
          refine h 0 d acc τ M rfl rfl j (fun au y M4=>gV g zNoIf te ds au M4 fun ys M5=>Q (y::ys) M5) fun y au M2 j2=>?_
          refine iB J (acc:=acc++[y]) j2 (fun i d' e7 aT M' e1 e2 j' R hR=>?_) fun ys je M3 e3 j3=>?_
          ·exact h (i+1) d' e7 aT M' e1 (by rw[e2,r6];simp;omega) j' R hR
          ·exact q (y::ys) je M3 (by simp[e3]) (by rw[GM]at j3;exact j3)
section
variable {X:Cx}{Γ:Gz}{tg elt iter:io}{ifs:List io}{scope:wT}{pos:wv}{N':List ci}{tn:Nat}{idx:List Nat}
theorem yD {zi:ef}{g:bP}{tt:ck}{te:aE}{i:Nat}{y:ci}{py iS:wv}(hN:X.N.Nodup) (cN:X.N[i]?=some y) (hy:X.env.scope.names.lookup y=some .local) (hc:X.calm=true) (B:dM X.N X.env.scope scope N' tn idx) (hi:QI Γ X tg iter zi)
  (hg:jm X N' scope fun Y=>QG Γ Y tg g) (ht:jm X N' scope fun Y=>ou Γ Y ifs tt) (he:jm X N' scope fun Y=>QE Γ Y elt te)
  (sH:swapsWith (.ListComp elt [⟨tg,iter,ifs,0⟩] scope pos) (some (.Name y py)) iS.line X.env=pure true :=by rfl)
  (hs:∀x,zw iter X.env x=pure x :=by intro _;rfl):QS Γ X (.Assign [.Name y py] (.ListComp elt [⟨tg,iter,ifs,0⟩] scope pos) iS) (zAsg (zCompP tn idx zi g tt te) (zgName i)):=(zS hN cN hy hc B hi hg ht he sH hs).imp fun D σ H h=>wB (fun _ _ _ h=>uB h) h
end
theorem Dm {a1 r:cI}{D:ib}{ρ:aA}{M:Mh}(I:aA->Mh->Prop) (h1:∀N:aA->Mh->Prop,(∀ρ M,I ρ M->N ρ M)->a1 {D with nx:=N} ρ M) (h2:∀ρ M,I ρ M->r D ρ M):(zSeq a1 r) D ρ M:=h1 _ h2
theorem Kc {a1 a2 r:cI}{D:ib}{ρ:aA}{M:Mh}(I:aA->Mh->Prop) (h1:∀N:aA->Mh->Prop,(∀ρ M,I ρ M->N ρ M)->(zSeq a1 a2) {D with nx:=N} ρ M) (h2:∀ρ M,I ρ M->r D ρ M):(zSeq a1 (zSeq a2 r)) D ρ M:=h1 _ h2
theorem Kd {a1 a2 a3 r:cI}{D:ib}{ρ:aA}{M:Mh}(I:aA->Mh->Prop) (h1:∀N:aA->Mh->Prop,(∀ρ M,I ρ M->N ρ M)->(zSeq a1 (zSeq a2 a3)) {D with nx:=N} ρ M) (h2:∀ρ M,I ρ M->r D ρ M):(zSeq a1 (zSeq a2 (zSeq a3 r))) D ρ M:=h1 _ h2
theorem Ke {a1 a2 a3 a4 r:cI}{D:ib}{ρ:aA}{M:Mh}(I:aA->Mh->Prop) (h1:∀N:aA->Mh->Prop,(∀ρ M,I ρ M->N ρ M)->(zSeq a1 (zSeq a2 (zSeq a3 a4))) {D with nx:=N} ρ M) (h2:∀ρ M,I ρ M->r D ρ M):(zSeq a1 (zSeq a2 (zSeq a3 (zSeq a4 r)))) D ρ M:=h1 _ h2
theorem Kf {a1 a2 a3 a4 a5 r:cI}{D:ib}{ρ:aA}{M:Mh}(I:aA->Mh->Prop) (h1:∀N:aA->Mh->Prop,(∀ρ M,I ρ M->N ρ M)->(zSeq a1 (zSeq a2 (zSeq a3 (zSeq a4 a5)))) {D with nx:=N} ρ M) (h2:∀ρ M,I ρ M->r D ρ M):(zSeq a1 (zSeq a2 (zSeq a3 (zSeq a4 (zSeq a5 r))))) D ρ M:=h1 _ h2
section
variable {β:Bz}{M M':Mh}{H H':Hp}{a:ag}{o o' o2 qZ:Mo}
theorem Rz.dom (hd:∀a,(M a).isSome=(M' a).isSome) {v:V}{d:Dv}(r:Rz β M H v d):Rz β M' H v d:=
 r.nH (M0:=M') (fun a h=>by rw[hd a];exact h) (r.pin.mono fun a h=>by rw[<- hd a];exact h)
theorem jM.dom (hd:∀a,(M a).isSome=(M' a).isSome) (h:jM β M H a o):jM β M' H a o :=by
 cases o with
 |lst ds=>obtain⟨vs,h1,rs⟩:=h;exact⟨vs,h1,rs.len,fun i v d x y=>(rs.at' i v d x y).dom hd⟩
 |dS=>exact h
 |dk ks ds=>obtain⟨vs,h1,h2,rs⟩:=h;exact⟨vs,h1,h2,rs.len,fun i v d x y=>(rs.at' i v d x y).dom hd⟩
 |dt ks ds=>obtain⟨vs,h1,h2,rs⟩:=h;exact⟨vs,h1,h2,rs.len,fun i v d x y=>(rs.at' i v d x y).dom hd⟩
 |ts ks ds=>obtain⟨vs,h1,h2,rs⟩:=h;exact⟨vs,h1,h2,rs.len,fun i v d x y=>(rs.at' i v d x y).dom hd⟩
theorem kJ (M:Mh) (a:ag) (o o2:Mo) (b:ag):(aw M a o b).isSome=(aw M a o2 b).isSome :=by
 by_cases e:b=a
 ·subst e;rw[updM_same,updM_same];rfl
 ·rw[ai e,ai e]
theorem mx {b:ag}(o2:Mo) (h:aw M a o b=none):aw M a o2 b=none :=by
 by_cases e:b=a
 ·subst e;rw[updM_same]at h;cases h
 ·rw[ai e]at h ⊢;exact h
theorem Mz.chg (m:Mz β (aw M a o) H) (h2:jM β (aw M a o2) H a o2):Mz β (aw M a o2) H :=by
 refine⟨fun b u e=>?_,m.tabs,m.hids,fun b u e=>?_,m.lams⟩
 ·by_cases z:b=a
  ·subst z;rw[updM_same]at e;cases e;exact h2
  ·rw[ai z]at e;exact jM.dom (kJ M a o o2) (m.obj b u (by rw[ai z];exact e))
 ·by_cases z:b=a
  ·subst z;exact m.apart b o updM_same
  ·rw[ai z]at e;exact m.apart b u (by rw[ai z];exact e)
theorem BH (h:M a=some o):aw M a o=M :=by
 funext b
 by_cases e:b=a
 ·subst e;rw[updM_same,h]
 ·rw[ai e]
theorem Ex.chg (x:Ex β (aw M a o) H (aw M a o') H') (h2:jM β (aw M a qZ) H' a qZ):Ex β (aw M a o2) H (aw M a qZ) H':=
 ⟨⟨fun b u h e=>x.keep b u (mx o h) e,fun b h=>by rw[kJ M a qZ o'];exact x.dom b (by rw[kJ M a o o2];exact h),fun b u h e=>mx qZ (x.new b u (mx o h) e)⟩,x.mz.chg h2⟩
theorem Ex.sealed (hn:M a=none) (x:Ex β M H (aw M a o') H') (h2:jM β (aw M a qZ) H' a qZ):Ex β M H (aw M a qZ) H':=
 ⟨⟨x.keep,fun b h=>by rw[kJ M a qZ o'];exact x.dom b h,fun b u h e=>mx qZ (x.new b u h e)⟩,x.mz.chg h2⟩
theorem F8 {c m:Int}(z:Mz β (aw M a (.lst [.int c,.int m])) H) (hc:0<=c) (hm:0<=m):jM β (aw M a .dS) H a .dS :=by
 obtain⟨vs,h,rs⟩:=z.obj a _ updM_same;refine⟨c,m,?_,hc,hm⟩;have:=iz (ns:=[c,m]) rs;rw[h,this];rfl
theorem Pu (z:Mz β (aw M a .dS) H):∃c m:Int,0<=c/\0<=m/\jM β (aw M a (.lst [.int c,.int m])) H a (.lst [.int c,.int m]) :=by
 obtain⟨c,m,h,hc,hm⟩:=z.obj a _ updM_same;exact⟨c,m,hc,hm,_,h,rR (ns:=[c,m])⟩
end
section
variable {X:Cx}{Γ:Gz}{K:bv}
def zIxS:eZ:=fun d e M Q=>match d,e with | .bB ns,.int i=>(match bj ns i with|some x=>Q (.int x) M|none=>False)|_,_=>False
theorem Kg (hK:X.K=K) (hG:K=Γ.K):OX Γ X zIxS:=⟨_,AV hK,fun β x y d e M H Q Q' _ _ eK m rx ry z q=>by
 unfold zIxS at z;split at z
 ·rename_i ns i;split at z
  ·rename_i v hv;obtain⟨a,rfl,hS⟩:=vy rx;rw[eK,<- hG]at hS;exact .inl ⟨a,_,i,.int v,rfl,aI ry,hS,Lv hv,q _ _ _ _ (.refl m) (.int _) z⟩
  ·exact z.elim
 ·exact z.elim⟩
end
def WH (k:Nat):ci:=⟨#[97+k]⟩
section
variable {κ:Type} [DecidableEq κ]
theorem ik:∀(ks U:List κ),ks.Nodup->(∀k∈ks,k∈U)->ks.length<=U.length
 | [],_,_,_=>ut _
 |k::ks,U,nd,h=>by
          have hn:=NG.mp nd;have hk:=h k ii;have ih:=ik ks (U.erase k) hn.2 fun x hx=>(YH (fun e=>hn.1 (by rw[<- e];exact hx))).mpr (h x (db _ hx))
          rw[WE hk]at ih;have:=Ps hk;rw[wn];omega
def Vd (step:κ->Nat->κ) (met:κ) (w:ci) (st:List κ×List ci) (a:Nat):List κ×List ci:=if step met a∈st.1 then st else (st.1++[step met a],st.2++[w++WH a])
def visit (step:κ->Nat->κ) (met:κ) (w:ci) (n:Nat) (st:List κ×List ci):List κ×List ci:=(hX n).foldl (Vd step met w) st
def TL (step:κ->Nat->κ) (n most:Nat):Nat->Nat->List κ×List ci->List κ×List ci
 |0,_,st=>st
 |fuel+1,i,st=>match st.1[i]?,st.2[i]? with
  |some met,some w=>if st.1.length<=most then TL step n most fuel (i+1) (visit step met w n st) else st
  |_,_=>st
def met (step:κ->Nat->κ) (n most N:Nat) (s:κ):List κ×List ci:=TL step n most (N+1) 0 ([s],[""])
theorem BI {α:Type}{ks:List κ}{ds:List α}{k:κ}{d:α}(h:k ∉ ks):putL ks k=ks++[k]/\fM ks ds k d=ds++[d] :=by
 unfold putL fM;rw[if_neg h,if_neg h];exact⟨rfl,rfl⟩
theorem q9 {WK:Type}{f:κ->WK}(hf:∀a b,f a=f b->a=b) {x:κ}{ks:List κ}:f x∈ks.map f ↔ x∈ks :=by
 constructor
 ·intro h;obtain⟨y,hy,e⟩:=im.mp h;rw[<- hf _ _ e];exact hy
 ·exact fun h=>List.mem_map_of_mem h
end
section
variable {X:Cx}{Γ:Gz}
def zRepP:eZ:=fun d e M Q=>match d,e with | .lst ds,.int k=>(-(2 ^ 63)<=k/\k<2 ^ 63/\ds.length * k.toNat<=sizeLine)/\∀a,M a=none->Q (.ptr a) (aw M a (.lst (mT k.toNat ds).flatten))|_,_=>False
theorem Pw:fP Γ X (binaryOp .Mult) zRepP:=⟨_,NN,fun β x y d e M H Q Q' _ _ _ m rx ry z q=>by
 unfold zRepP at z;split at z
 ·rename_i ds k;obtain⟨a,vs,rfl,f,ha,rs⟩:=eY rx;obtain⟨⟨z1,z2,z3⟩,z4⟩:=z;refine⟨a,_,vs,rfl,aI ry,ha,z1,z2,by rw[rs.len];exact z3,fun p hp=>?_⟩
  have x2:=Ex.own m (.inr hp) (rs.rep k.toNat);exact q _ _ _ _ x2 (.ptr (by rw[updM_same];rfl)) (z4 p (m.free hp))
 ·exact z.elim⟩
end
end L2
namespace L2
open PySem PySem.Spec PySem.W PyProof.Rows
section
variable {prog:jp}{w:lf}{K:Type} [DecidableEq K] {knd:HeapKind prog w K}{A:sB}{E:al->ba->Prop}{s:ba}
theorem LD {d a:ag}{xs:List (K×ag×al)}{k:K}{v:al}{Q:al->ba->Prop}(hu:knd.room A) (mG:knd.is s.heap k a) (hm:s.heap.DictOfH knd d xs)
  (h1:∀y,(atKey xs k).map (·.2)=some y->Q y {s with toks:=s.toks+knd.draws k})
  (h2:(atKey xs k).map (·.2)=none->∀h',h'.DictOfH knd d (storedH xs k a v)->Cn d s.heap h'->Q v {s with heap:=h',toks:=s.toks+knd.draws k})
  (hsz:xs.length<=sizeLine):c8 (model prog w) A (dictSetDefault d (.ref a) v) Q E s :=by
 obtain⟨o,es,ep,ho,hc,hd,he,TN,hn⟩:=hm;unfold dictSetDefault;try with_reducible refine wS ?_
 refine ac (knd.pyHash hu mG ?_);refine ac (wpAny_dictFind_heap (s:={s with toks:=s.toks+knd.draws k}) hu mG ho hd he TN hn ?_ ?_)
 ·intro ph;have IA:k ∉ xs.map (·.1):=not_mem_keys_of_get ph;have tO:=atKey_none_of_get ph;refine ac (GS (ac (wpAny_updateDictKeys (hz :=by have e:=size_of_entries he;omega) (s:={s with toks:=s.toks+knd.draws k}) ho hd (bi (h2 (by rw[tO];rfl) _ ⟨_,_,ep+1,ww _ ho (l9.isFreed_of_dict (l9.data_mapDictKeys hd _)),
   hc.mapDictKeys _,l9.data_mapDictKeys hd _,?_,?_,?_⟩ (AL ..))))))
  ·rw[storedH_new tO];simp[he,entryOfKey]
  ·rw[storedH_new tO];intro x hx;rcases qr.mp hx with hx|hx
   ·exact knd.keeps (TN x hx) ho hd (AL ..)
   ·simp only[lc]at hx;subst hx;exact knd.keeps mG ho hd (AL ..)
  ·rw[storedH_new tO];rw[mf,IS];refine⟨hn,by simp,?_⟩
   intro x hx y hy;simp only[mo,Wp,lc]at hy;subst hy;exact fun e=>IA (e▸hx)
 ·intro j p hj;have tO:=atKey_of_get hn hj;refine ac (wpAny_dictEntries (s:={s with toks:=s.toks+knd.draws k}) ho hd ?_)
  rw[entry_at he j,hj];exact ac (GS (bi (h1 _ (by rw[tO];rfl))))
theorem wc (knd:HeapKind prog w K) (d a:ag) (hd:(d==sysModules)=false) (dflt:al) :
  MeetsIn prog w (wl.«dict.setdefault» ⟨[.ref d,.ref a,dflt],[]⟩) (fun A R s=>knd.room A.in1/\∃k xs,knd.is s.heap k a/\s.heap.DictOfH knd d xs/\xs.length<=sizeLine /\
   (∀v,(atKey xs k).map (·.2)=some v->R (.ok (.ret v)) {s with toks:=s.toks+knd.draws k}) /\
   ((atKey xs k).map (·.2)=none->∀h',h'.DictOfH knd d (storedH xs k a dflt)->Cn d s.heap h'->R (.ok (.ret dflt)) {s with heap:=h',toks:=s.toks+knd.draws k})):=
 .of_wp fun A R s hh=>by
  obtain⟨hu,k,xs,mG,hm,hz,h1,h2⟩:=hh;unfold wl.«dict.setdefault»;refine ac ?_;unfold wl.Dict.keyAndDefault;refine ac (wpAny_notOrdered_dict hm.typeIs ?_);show c8 _ _ (pure (d,ss a,some dflt)) _ _ s;refine bi ?_;show c8 _ _ (if (d==sysModules)=true then _ else (dictSetDefault d (ss a) dflt>>=_)) _ _ s
  rw[if_neg (by rw[hd];exact gc)]
  exact ac (LD hu mG hm (fun v hv=>bi ⟨v,rfl,h1 v hv⟩) (fun hn h' oM gX=>bi ⟨dflt,rfl,h2 hn h' oM gX⟩) hz)
end
section
variable {X:Cx}{pins:List (ag×l9)}{σ:St}{H:Hp}{s:ba}{a b:ag}{A:sB}{E:al->ba->Prop}
theorem yE {aj:List (List Key×V)}{k:List Key}{d:V}{r:al}{Q:al->ba->Prop}(hu:A.units+1<CS) (I:Inv X pins σ H s) (e:H a=some (.dT aj)) (eb:H b=some (.tup (k.map kV))) (l:aj.length<sizeLine) (rd:RelV d r)
  (h1:∀v,fL aj k=some v->∀w' s',Inv X pins σ H s'->RelV v w'->Q w' s') (h2:fL aj k=none->∀s',Inv X pins σ (upd H a (.dT (putK aj k d))) s'->Q r s') :
  c8 (model X.prog X.w) A (call (.builtin "dict.setdefault") [.ref a,.ref b,r]) Q E s :=by
 obtain⟨z,hd,xs,rel,dd⟩:=C2 I.hok e;have hz:xs.length<=sizeLine :=by rw[<- SS rel];exact z
 have hl:(putK aj k d).length<=sizeLine :=by have:=mI aj k d;omega
 have rv:=rel.val k;refine Z0 PySem.F.slot_dict_setdefault dd.typeIs PySem.F.entry_dict_setdefault (PySem.F.args_dict_setdefault_3 _ _ _) (wc (tupleKind (bJ X.prog X.w)) a b hd r) ⟨Rs hu,k,xs,jK I.hok eb,dd,hz,fun y hy=>?_,fun hn h' vp hs=>?_⟩
 ·rw[hy]at rv;cases hv:fL aj k with
  |none=>rw[hv]at rv;exact rv.elim
  |some v=>rw[hv]at rv;exact h1 v hv _ _ (I.tok _) rv
 ·rw[hn]at rv;cases hv:fL aj k with
  |some v=>rw[hv]at rv;exact rv.elim
  |none=>
   obtain⟨q,es,ep,hq,g2,g3,g4,_,g5⟩:=vp;refine h2 hv _ (qm I (by rw[e];exact Pi) hs ⟨q,hq⟩ ⟨hl,hd,_,(rel.put k eb rd).keeps fun c ys ec=>?_,q,es,ep,hq,g2,g3,g4,g5⟩)
   rw[ao (wq ec e (fun z=>nomatch z))]
   exact ec
end
def LI:V->List V->Hp->VK->Prop:=fun x xs H Q=>∃a b k aj d,x=.ref a/\xs=[.ref b,d]/\H a=some (.dT aj)/\H b=some (.tup (k.map kV))/\aj.length<sizeLine/\(∀v,fL aj k=some v->Q v H)/\(fL aj k=none->Q d (upd H a (.dT (putK aj k d))))
theorem F9 {X:Cx}(hu:X.A.units+64<CS):AR X "dict.setdefault" LI :=by
 intro pins s σ H x xs v us Q I rx rs h;obtain⟨a,b,k,aj,d,rfl,rfl,e,eb,l,h1,h2⟩:=h;cases (show v=ss a from rx);cases rs with
 |cons r1 rs=>cases rs with
  |cons r2 rs=>
   cases rs;rename_i u1 u2;cases (show u1=ss b from r1);exact yE (by omega) I e eb l r2 (fun v hv w' s' I' f7=>⟨v,H,I',f7,h1 v hv⟩) fun hn s' I'=>⟨d,_,I',r2,h2 hn⟩
def zSetDef:ow:=fun d ds M Q=>match d,ds with
 | .ptr a,[.tup es,x]=>(match M a,fT es with|some (.dt ks vs),some k=>ks.length<sizeLine/\(match look ks vs k with|some r=>Q r M|none=>Q x (aw M a (.dt (ks++[k]) (vs++[x]))))|_,_=>False)
 |_,_=>False
theorem IB {Γ:Gz}{X:Cx}{K:bv}(hu:X.A.units+64<CS):vE Γ X "dict" "dict.setdefault" K zSetDef:=⟨_,F9 hu,fun β x xs d ds M H Q Q' eP ew eK m r rs z q=>by
 unfold zSetDef at z;split at z
 ·rename_i a es y;obtain⟨rfl,hs⟩:=bL r;obtain⟨x1,x2,rfl,r1,r2⟩:=m7 rs;split at z
  ·rename_i ks vs k hM hk;obtain⟨us,ha,hl,Kh⟩:=m.obj a _ hM;obtain⟨b,ws,rfl,_,hb,rb⟩:=cj r1;rw[lC rb hk]at hb;obtain⟨z1,z2⟩:=z;refine⟨a,b,k,_,x2,rfl,rfl,ha,hb,by rw[SI,<- hl,Re];exact z1,fun v hv=>?_,fun hn=>?_⟩
   ·rw[jn]at hv;cases yC:look ks vs k with
    |none=>rw[lB k ks vs us Kh.len.symm yC]at hv;cases hv
    |some r0=>
     obtain⟨ov,e1,e2,e3⟩:=rV Kh yC;rw[jn,hv]at e1;subst e1;obtain⟨v',ev,WL⟩:=e3 r0 rfl;cases ev;simp only[yC]at z2;exact q _ _ _ _ (.refl m) WL z2
   ·rw[jn]at hn;have Ki:k ∉ ks:=(jU hl).mp hn;have yC:look ks vs k=none:=(jU (hl.trans Kh.len)).mpr Ki;simp only[yC]at z2;have hp:(M a).isSome=true :=by rw[hM];rfl
    have x4:Ex β M H (aw M a (.dt (putL ks k) (fM ks vs k y))) (upd H a (.dT ((putL ks k).zip (fM ks us k x2)))):=Ex.Ic m (.inl hp) (rS hl k x2) (rT k r2 Kh);rw[uG hl];rw[show putL ks k=ks++[k] from if_neg Ki,show fM ks vs k y=vs++[y] from if_neg Ki]at x4;rw[show putL ks k=ks++[k] from if_neg Ki];exact q _ _ _ _ x4 (r2.ex x4) z2
  ·exact z.elim
 ·exact z.elim⟩
def eR {α:Type}(R:Nat->Int) (n:Nat):KasT α->(α->Prop)->Prop
 | .ret a,Q=>Q a
 | .ask i j k,Q=>i<n/\j<n/\eR R n (k (decide (R i<R j))) Q
theorem iJ {α β:Type}{R:Nat->Int}{n:Nat}{f:α->KasT β}{Q:β->Prop}:∀{t:KasT α},eR R n t (fun a=>eR R n (f a) Q)->eR R n (t.bind f) Q
 | .ret _,h=>h
 | .ask _ _ k,h=>⟨h.1,h.2.1,iJ (t:=k _) h.2.2⟩
structure Pm (n:Nat) (p:Array Nat):Prop where
 sz:p.size=n
 pm:p.toList.Perm (hX n)
theorem Pm.lt {n:Nat}{p:Array Nat}(h:Pm n p) {k:Nat}(hk:k<n):p.getD k 0<n :=by
 have mV:k<p.size :=by rw[h.sz];exact hk
 have e:p.getD k 0=p[k] :=by simp[NL,mV]
 rw[e];have:p[k]∈p.toList :=by simp
 exact l6.mp (h.pm.mem_iff.mp this)
theorem Pm.of {n:Nat}{p p':Array Nat}(h:Pm n p) (hs:p'.size=p.size) (hp:p'.Perm p):Pm n p':=⟨hs.trans h.sz,(Array.perm_iff_toList_perm.mp hp).trans h.pm⟩
def rk (R:Nat->Int) (p:Array Nat) (k:Nat):Int:=R (p.getD k 0)
theorem jq (p:Array Nat) (k:Nat):p.getD k 0=(p[k]?).getD 0 :=by simp[Array.getD_eq_getD_getElem?]
theorem tP (R:Nat->Int) {p:Array Nat}{i j:Nat}(hj:j<=p.size) (k:Nat):rk R (kas_rev p i j) k=if i<=k/\k<j then rk R p (i+j - 1 - k) else rk R p k :=by
 unfold rk kas_rev;rw[jq,getElem?_mirror_all hj k];split<;>rw[jq]
theorem Ga (R:Nat->Int) {p:Array Nat}{src d:Nat}(hs:src<p.size) (hd:d<=src) (k:Nat):rk R (bubble p src d) k=if k=src - d then rk R p src else if src - d<k/\k<=src then rk R p (k - 1) else rk R p k :=by
 unfold rk;rw[jq,jq p src,jq p (k - 1),jq p k,getElem?_bubble hs d hd k];by_cases h1:k=src - d
 ·rw[if_pos h1,if_pos h1]
 ·rw[if_neg h1,if_neg h1];by_cases h2:src - d<k/\k<=src
  ·rw[if_pos h2,if_pos h2]
  ·rw[if_neg h2,if_neg h2]
def pG (R:Nat->Int) (p:Array Nat) (m:Nat):Prop:=∀a b,a<=b->b<m->rk R p a<=rk R p b
def rg (R:Nat->Int) (p:Array Nat) (m:Nat):Prop:=∀a b,a<=b->b<m->rk R p b<=rk R p a
section
variable {R:Nat->Int}{n:Nat}
theorem yF {p:Array Nat}(hp:Pm n p) {Q:Nat->Prop}:∀(f m:Nat),pG R p m->1<=m->m+f<=n->(∀m',m<=m'->m'<=m+f->pG R p m'->(m'<m+f->rk R p m'<rk R p (m' - 1))->Q m')->eR R n (kas_asc p f m) Q
 |0,m,ha,h1,hn,q=>q m (cb _) (cb _) ha (fun h=>absurd h (DD _))
 |f+1,m,ha,h1,hn,q=>by
          refine⟨hp.lt (by omega),hp.lt (by omega),?_⟩
          show eR R n (if decide (rk R p m<rk R p (m - 1))=true then _ else _) Q
          by_cases h:rk R p m<rk R p (m - 1)
          ·rw[decide_eq_true h,if_pos rfl];exact q m (cb _) (by omega) ha (fun _=>h)
          ·rw[decide_eq_false h,if_neg gc];refine yF hp f (m+1) (fun a b fk hb=>?_) (by omega) (by omega) fun m' h2 h3 h4 h5=>q m' (by omega) (by omega) h4 (fun z=>h5 (by omega))
           rcases MW b m with z|z
           ·exact ha a b fk z
           ·have eb:b=m :=by omega
            subst eb;rcases MW a b with y|y
            ·have:=ha a (b - 1) (by omega) (by omega)
             omega
            ·have:a=b :=by omega
             subst this;exact LF _
theorem rg.rev {p:Array Nat}{m i:Nat}(hm:m<=p.size) (h:rg R p m) (he:∀k,i<=k->k<m->rk R p k=rk R p (m - 1)):rg R (kas_rev p i m) m/\∀k,rk R (kas_rev p i m) k=rk R p k :=by
 have e:∀k,rk R (kas_rev p i m) k=rk R p k:=fun k=>by
  rw[tP R hm];split
  ·rename_i z;rw[he (i+m - 1 - k) (by omega) (by omega),he k z.1 z.2]
  ·rfl
 exact⟨fun a b fk hb=>by rw[e a,e b];exact h a b fk hb,e⟩
theorem Pm.rev {p:Array Nat}(h:Pm n p) (i j:Nat):Pm n (kas_rev p i j):=h.of (mirror_size _ _ _ _) (mirror_perm _ _ _ _)
theorem qw {Q:Array Nat×Nat×Nat->Prop}:∀(f:Nat) (p:Array Nat) (m q:Nat),Pm n p->rg R p m->(∀k,m - (q+1)<=k->k<m->rk R p k=rk R p (m - 1))->q+1<=m->m+f<=n->
  (∀p' m' q',Pm n p'->rg R p' m'->(∀k,m' - (q'+1)<=k->k<m'->rk R p' k=rk R p' (m' - 1))->q'+1<=m'->m'<=n->Q (p',m',q'))->eR R n (kas_desc f p m q) Q
 |0,p,m,q,hp,hd,he,hq,hn,k=>k p m q hp hd he hq (by omega)
 |f+1,p,m,q,hp,hd,he,hq,hn,k=>by
          have hsz:=hp.sz;refine⟨hp.lt (by omega),hp.lt (by omega),?_⟩
          show eR R n (if decide (rk R p m<rk R p (m - 1))=true then _ else _) Q
          by_cases h:rk R p m<rk R p (m - 1)
          ·rw[decide_eq_true h,if_pos rfl];have more:∀p',Pm n p'->(∀k,rk R p' k=rk R p k)->rg R p' (m+1):=fun p' _ e a b fk hb=>by
            rw[e a,e b];rcases MW b m with z|z
            ·exact hd a b fk z
            ·have eb:b=m :=by omega
             subst eb;rcases MW a b with y|y
             ·have:=hd a (b - 1) (by omega) (by omega)
              omega
             ·have:a=b :=by omega
              subst this;exact LF _
           have one:∀p':Array Nat,∀k,m+1 - (0+1)<=k->k<m+1->rk R p' k=rk R p' (m+1 - 1):=fun p' k h1 h2=>by rw[show k=m by omega];rfl
           by_cases TQ:q > 0
           ·rw[if_pos TQ];obtain⟨_,e⟩:=rg.rev (i:=m - (q+1)) (show m<=p.size by omega) hd he
            exact qw f _ (m+1) 0 (hp.rev _ _) (more _ (hp.rev _ _) e) (one _) (by omega) (by omega) k
           ·rw[if_neg TQ];exact qw f p (m+1) 0 hp (more p hp fun _=>rfl) (one p) (by omega) (by omega) k
          ·rw[decide_eq_false h,if_neg gc];refine⟨hp.lt (by omega),hp.lt (by omega),?_⟩
           show eR R n (if decide (rk R p (m - 1)<rk R p m)=true then _ else _) Q
           by_cases h2:rk R p (m - 1)<rk R p m
           ·rw[decide_eq_true h2,if_pos rfl];exact k p m q hp hd he hq (by omega)
           ·rw[decide_eq_false h2,if_neg gc];have e:rk R p m=rk R p (m - 1) :=by omega
            refine qw f p (m+1) (q+1) hp (fun a b fk hb=>?_) (fun x h3 h4=>?_) (by omega) (by omega) k
            ·rcases MW b m with z|z
             ·exact hd a b fk z
             ·have eb:b=m :=by omega
              subst eb;rcases MW a b with y|y
              ·rw[e];exact hd a (b - 1) (by omega) (by omega)
              ·have:a=b :=by omega
               subst this;exact LF _
            ·show rk R p x=rk R p m;rcases MW x m with z|z
             ·rw[e];exact he x (by omega) z
             ·rw[show x=m by omega]
theorem yG {m:Nat}{p:Array Nat}(hp:Pm n p) (hd:rg R p m) (h1:1<=m) (hm:m<=n) {Q:Nat×Array Nat->Prop}(q:∀m' p',Pm n p'->pG R p' m'->1<=m'->m'<=n->Q (m',p')):eR R n (kas_tail3 m n p) Q :=by
 have hsz:=hp.sz;refine iJ (yF (hp.rev 0 m) (n - m) m (fun a b fk hb=>?_) h1 (by omega) fun m' h2 h3 h4 _=>q m' _ (hp.rev 0 m) h4 (by omega) (by omega))
 rw[tP R (by omega),tP R (by omega),if_pos ⟨by omega,by omega⟩,if_pos ⟨by omega,by omega⟩]
 exact hd _ _ (by omega) (by omega)
theorem rh {m:Nat}{p:Array Nat}(hp:Pm n p) (hd:rg R p (m+1)) (hm:m+1<=n) {Q:Nat×Array Nat->Prop}(q:∀m' p',Pm n p'->pG R p' m'->1<=m'->m'<=n->Q (m',p')):eR R n (kas_descPart m n p) Q :=by
 refine iJ (qw (n - (m+1)) p (m+1) 0 hp hd (fun k h1 h2=>by rw[show k=m by omega];rfl) (by omega) (by omega) fun p' m' q' Px jI he hq hn=>?_)
 have hsz:=Px.sz;show eR R n (if q' > 0 then kas_tail3 m' n (kas_rev p' (m' - (q'+1)) m') else kas_tail3 m' n p') Q
 by_cases h:q' > 0
 ·rw[if_pos h];exact yG (Px.rev _ _) (rg.rev (by omega) jI he).1 (by omega) hn q
 ·rw[if_neg h];exact yG Px jI (by omega) hn q
theorem IC {p:Array Nat}(hp:Pm n p) (h1:1<=n) {Q:Nat×Array Nat->Prop}(q:∀m' p',Pm n p'->pG R p' m'->1<=m'->m'<=n->Q (m',p')):eR R n (kas_count n p) Q :=by
 have hsz:=hp.sz;refine iJ (yF hp (n - 1) 1 (fun a b fk hb=>by rw[show a=b by omega];exact LF _) (cb _) (by omega) fun m h2 h3 h4 h5=>?_)
 by_cases e:m=n
 ·rw[if_pos (by simpa using e)]
  exact q m p hp h4 h2 (by omega)
 ·rw[if_neg (by simpa using e)]
  have aM:=h5 (by omega)
  by_cases hm:m > 1
  ·rw[if_pos hm];refine⟨hp.lt (by omega),hp.lt (by omega),?_⟩
   show eR R n (if decide (rk R p 0<rk R p (m - 1))=true then _ else _) Q
   by_cases h:rk R p 0<rk R p (m - 1)
   ·rw[decide_eq_true h,if_pos rfl];exact q m p hp h4 (by omega) (by omega)
   ·rw[decide_eq_false h,if_neg gc];have eq:∀k,k<m->rk R p k=rk R p (m - 1):=fun k hk=>by
     have a1:=h4 k (m - 1) (by omega) (by omega)
     have a2:=h4 0 k (by omega) hk
     omega
    have er:∀k,rk R (kas_rev p 0 m) k=rk R p k:=fun k=>by
     rw[tP R (by omega)]
     split
     ·rename_i z;rw[eq (0+m - 1 - k) (by omega),eq k z.2]
     ·rfl
    refine rh (hp.rev 0 m) (fun a b fk hb=>?_) (by omega) q
    rw[er,er];rcases MW b m with z|z
    ·rw[eq a (by omega),eq b z];exact LF _
    ·have eb:b=m :=by omega
     subst eb;rcases MW a b with y|y
     ·rw[eq a y];omega
     ·rw[show a=b by omega];exact LF _
  ·rw[if_neg hm];have em:m=1 :=by omega
   subst em;refine rh hp (fun a b fk hb=>?_) (by omega) q
   have aM:rk R p 1<rk R p 0:=aM;match a,b,fk,hb with
   |0,0,_,_=>exact LF _
   |0,1,_,_=>omega
   |1,1,_,_=>exact LF _
   |a,b+2,_,hb=>omega
   |a+2,b,h,hb=>omega
   |1,0,h,_=>omega
theorem rX {p:Array Nat}(hp:Pm n p) {k:Nat}(hk:k<n) (ha:pG R p k) {Q:Nat->Prop}:∀(f l r:Nat),r - l<=f->l<=r->r<=k->(∀a,a<l->rk R p a<=rk R p k)->(∀a,r<=a->a<k->rk R p k<rk R p a)->
  (∀l,l<=k->(∀a,a<l->rk R p a<=rk R p k)->(∀a,l<=a->a<k->rk R p k<rk R p a)->Q l)->eR R n (kas_place p k f l r) Q
 |0,l,r,hf,hl,hr,h1,h2,q=>q l (by omega) h1 (fun a x y=>h2 a (by omega) y)
 |f+1,l,r,hf,hl,hr,h1,h2,q=>by
          unfold kas_place;by_cases e:l ≥ r
          ·rw[if_pos e];exact q l (by omega) h1 (fun a x y=>h2 a (by omega) y)
          ·rw[if_neg e];refine⟨hp.lt hk,hp.lt (by omega),?_⟩
           show eR R n (if decide (rk R p k<rk R p ((l+r) / 2))=true then _ else _) Q
           by_cases h:rk R p k<rk R p ((l+r) / 2)
           ·rw[decide_eq_true h,if_pos rfl];refine rX hp hk ha f l ((l+r) / 2) (by omega) (by omega) (by omega) h1 (fun a x y=>?_) q
            have:=ha ((l+r) / 2) a x y;omega
           ·rw[decide_eq_false h,if_neg gc];refine rX hp hk ha f ((l+r) / 2+1) r (by omega) (by omega) hr (fun a x=>?_) h2 q
            have:=ha a ((l+r) / 2) (by omega) (by omega)
            omega
theorem Gb {Q:Array Nat->Prop}:∀(f:Nat) (p:Array Nat) (k:Nat),Pm n p->pG R p k->k+f=n->(∀p',Pm n p'->pG R p' n->Q p')->eR R n (kas_bin f p k) Q
 |0,p,k,hp,ha,hn,q=>q p hp (by rw[<- hn];exact ha)
 |f+1,p,k,hp,ha,hn,q=>by
          have hsz:=hp.sz;refine iJ (rX hp (by omega) ha k 0 k (by omega) (by omega) (cb _) (fun a h=>by omega) (fun a h1 h2=>by omega) fun l hl h1 h2=>?_)
          refine Gb f _ (k+1) (hp.of (bubble_size _ _ _) (bubble_perm _ _ _)) (fun a b fk hb=>?_) (by omega) q
          have hd:k - (k - l)=l :=by omega
          rw[Ga R (by omega) (by omega),Ga R (by omega) (by omega),hd]
          by_cases a1:a=l
          ·rw[if_pos a1];by_cases b1:b=l
           ·rw[if_pos b1];exact LF _
           ·rw[if_neg b1,if_pos ⟨by omega,by omega⟩]
            exact Int.le_of_lt (h2 (b - 1) (by omega) (by omega))
          ·rw[if_neg a1];by_cases b1:b=l
           ·rw[if_pos b1,if_neg (by omega)]
            exact h1 a (by omega)
           ·rw[if_neg b1];by_cases a2:l<a/\a<=k
            ·rw[if_pos a2,if_pos ⟨by omega,by omega⟩]
             exact ha _ _ (by omega) (by omega)
            ·rw[if_neg a2];by_cases b2:l<b/\b<=k
             ·rw[if_pos b2];exact ha _ _ (by omega) (by omega)
             ·rw[if_neg b2];exact ha _ _ fk (by omega)
theorem LJ (h1:1<=n) {Q:Array Nat->Prop}(q:∀p,Pm n p->pG R p n->Q p):eR R n (kas_sort n) Q :=by
 have h0:Pm n (WF (hX n)):=⟨by simp,by simp⟩
 refine iJ (IC h0 h1 fun m p hp ha mi S4=>?_)
 show eR R n (if m<n then kas_bin (n - max m 1) p (max m 1) else .ret p) Q
 have em:max m 1=m :=by omega
 rw[em];by_cases h:m<n
 ·rw[if_pos h];exact Gb _ p m hp ha (by omega) q
 ·rw[if_neg h];exact q p hp (by rw[show n=m by omega];exact ha)
end
theorem yH {α:Type}{cmp:Nat->Nat->(Bool->ba->Prop)->ba->Prop}{I:ba->Prop}{R:Nat->Int}{n:Nat}(hc:∀i j C s,i<n->j<n->I s->(∀s',I s'->C (decide (R i<R j)) s')->cmp i j C s):∀(t:KasT α) (Q:α->ba->Prop) (s:ba),I s->eR R n t (fun a=>∀s',I s'->Q a s')->t.kasWp cmp Q s
 | .ret _,Q,s,hI,h=>h s hI
 | .ask i j k,Q,s,hI,h=>hc i j _ s h.1 h.2.1 hI fun s' WM=>yH hc (k _) Q s' WM h.2.2
theorem tQ:∀a:List Int,HT.lexLt a a=false
 | []=>rfl
 |x::a=>by rw[HT.kc,if_pos rfl];exact tQ a
theorem lD:∀{a b c:List Int},HT.lexLt a b=true->HT.lexLt b c=true->HT.lexLt a c=true
 | [],[],_,h,_=>by cases h
 | [],_::_,[],_,h=>by cases h
 | [],_::_,_::_,_,_=>rfl
 |_::_,[],_,h,_=>by cases h
 |_::_,_::_,[],_,h=>by cases h
 |x::a,y::b,z::c,h1,h2=>by
          rw[HT.kc]at h1 h2 ⊢;by_cases e1:x=y
          ·subst e1;rw[if_pos rfl]at h1;by_cases e2:x=z
           ·subst e2;rw[if_pos rfl]at h2 ⊢;exact lD h1 h2
           ·rw[if_neg e2]at h2 ⊢;exact h2
          ·rw[if_neg e1]at h1;have h1:=of_decide_eq_true h1;by_cases e2:y=z
           ·subst e2;rw[if_neg e1];exact decide_eq_true h1
           ·rw[if_neg e2]at h2;have h2:=of_decide_eq_true h2;rw[if_neg (by omega)]
            exact decide_eq_true (by omega)
theorem tR:∀{a b:List Int},HT.lexLt a b=false->HT.lexLt b a=false->a=b
 | [],[],_,_=>rfl
 | [],_::_,h,_=>by cases h
 |_::_,[],_,h=>by cases h
 |x::a,y::b,h1,h2=>by
          rw[HT.kc]at h1 h2;by_cases e:x=y
          ·subst e;rw[if_pos rfl]at h1 h2;rw[tR h1 h2]
          ·rw[if_neg e]at h1;rw[if_neg (Ch e)]at h2;have h1:=of_decide_eq_false h1;have h2:=of_decide_eq_false h2;exact absurd (show x=y by omega) e
def vL (rows:List (List Int)) (r:List Int):Int:=(rows.countP fun x=>HT.lexLt x r:Nat)
theorem vM {α:Type}{p q:α->Bool}(Py:∀x,p x=true->q x=true):∀{l:List α}{a:α},a∈l->q a=true->p a=false->l.countP p<l.countP q
 |x::l,a,h,hq,hp=>by
          have le:l.countP p<=l.countP q:=List.countP_mono_left fun x _=>Py x
          rcases lp.mp h with rfl|h
          ·rw[List.countP_cons_of_neg (by simp[hp]),List.countP_cons_of_pos hq]
           omega
          ·have ih:=vM Py h hq hp;rw[List.countP_cons,List.countP_cons];by_cases e:p x=true
           ·rw[if_pos e,if_pos (Py x e)];omega
           ·rw[if_neg e];split<;>omega
theorem Gd {rows:List (List Int)}{a b:List Int}(ha:a∈rows):decide (vL rows a<vL rows b)=HT.lexLt a b :=by
 unfold vL;cases h:HT.lexLt a b with
 |true=>
  refine decide_eq_true ?_;have:=vM (p:=fun x=>HT.lexLt x a) (q:=fun x=>HT.lexLt x b) (fun x hx=>lD hx h) ha h (tQ a)
  omega
 |false=>
  refine decide_eq_false ?_;have:rows.countP (fun x=>HT.lexLt x b)<=rows.countP (fun x=>HT.lexLt x a):=List.countP_mono_left fun x _ hx=>by
   cases h2:HT.lexLt b a with
   |true=>exact lD hx h2
   |false=>rw[tR h h2];exact hx
  omega
def g9 (h:i8) (v:al) (row:List Int):Prop:=∃b o xs n,v=.ref b/\h.get? b=some o/\o.cls=.type "tuple" /\ o.data=.seq xs n/\So xs.toList row/\row≠[]
section
variable {prog:jp}{w:lf}{A:sB}{E:al->ba->Prop}{s:ba}
theorem rn {fin:Bool}{Q:Bool->ba->Prop}:∀{us ws:List al}{ns ms:List Int}(i:Nat),So us ns->So ws ms->fin=decide (us.length<ws.length)->Q (HT.lexLt ns ms) s->KatLex prog w A true fin Q (us.zip ws) i s
 | [],[],[],[],i,_,_,hf,q=>by
          refine kat_nil ?_;rw[hf];exact q
 | [],y::ws,[],m::ms,i,_,_,hf,q=>by
          refine kat_nil ?_;rw[hf];exact q
 |x::us,[],n::ns,[],i,_,_,hf,q=>by
          refine kat_nil ?_;rw[hf];exact q
 |x::us,y::ws,n::ns,m::ms,i,hu,hw,hf,q=>by
          cases hu with
          |cons _ t hu=>
          cases hw with
          |cons _ t2 hw=>
          rw[HT.kc]at q;refine kat_cons (PySem.SeqAt.EqAt.int_int n t m t2 prog w _ _ (kat_go (fun e=>kat_yes ?_) (fun e=>kat_no ?_)))
          ·have e:n=m :=by simpa using e
           rw[if_pos e]at q;exact rn (i+1) hu hw (by rw[hf];simp) q
          ·have e:n≠m :=by simpa using e
           rw[if_neg e]at q;cases hi:(i==0) with
           |true=>exact oneLt_int q
           |false=>exact kat_one _ _ (PyProof.Rows.lt_int q)
theorem Dn {v1 v2:al}{r1 r2:List Int}{Q:Bool->ba->Prop}(h1:g9 s.heap v1 r1) (h2:g9 s.heap v2 r2) (q:Q (HT.lexLt r1 r2) s):c8 (model prog w) A (keyLt' (tuples' true) v1 v2) Q E s :=by
 obtain⟨b,o,xs,n,rfl,ho,hc,hd,hi,_⟩:=h1;obtain⟨b2,o2,Yd,n2,rfl,WN,Ye,hd2,gY,_⟩:=h2;exact kat_lt ho hd WN hd2 (rn 0 hi gY (by simp) q)
theorem tS:∀{vs:List al}{rows:List (List Int)},BY (fun v r=>g9 s.heap v r) vs rows->∃fs,KatTups s.heap vs fs/\fs.length=vs.length/\∀f∈fs,∃n t,f=.int n t
 | [],[],_=>⟨[],.nil,rfl,fun _ h=>nomatch h⟩
 |v::vs,r::rows,h=>by
          obtain⟨r',XN,e,hv,ht⟩:=jz h;cases e;obtain⟨fs,k1,k2,k3⟩:=tS ht;obtain⟨b,o,xs,n,rfl,ho,hc,hd,hi,d8⟩:=hv;obtain⟨ls⟩:=xs;cases hi with
          |nil=>exact absurd rfl d8
          |cons m t hi=>exact⟨_,.cons ho hc hd (f:=.int m t) (by simp) k1,by simp[k2],fun f hf=>by
            rcases lp.mp hf with rfl|hf
            ·exact⟨_,_,rfl⟩
            ·exact k3 f hf⟩
theorem uK {a:ag}{vs:List al}{rows:List (List Int)}{n:Nat}{P:PySem.Fin->ba->Prop}(ho:s.heap.get? a=some (seqObj "list" vs.toArray n))
  (hr:BY (fun v r=>g9 s.heap v r) vs rows) (oW:vs.length<64)
  (h:∀(p:Array Nat),Pm vs.length p->(∀i j,i<=j->j<vs.length->HT.lexLt (rows.getD (p.getD j 0) []) (rows.getD (p.getD i 0) [])=false)->P (.done (.ret .none)) {s with heap:=sortedHeap s.heap a vs (WF (p.toList.map fun i=>vs.getD i AS))}) :
  c8 (model prog w) A (wl.«list.sort» ⟨[.ref a],[]⟩) P E s :=by
 rw[list_sort_plain];have ha:a<s.heap.objs.size:=kt ho;have BJ:vs.length=rows.length:=SS hr;refine ac (listItems_at ho rfl ?_);refine ac (aao ho rfl ?_ (by rw[lv,Pf];omega) (ut _))
 obtain⟨e1,sP⟩:∃e1,(s.heap.update a (Da fun _=>(#[]:Array al))).get? a=some (seqObj "list" #[] e1):=⟨_,get?_update_seq ho fun _=>#[]⟩
 refine ac (seqEpoch_at sP rfl ?_);refine ac (Y6 ?_ (by show vs.length<=_;rw[Pf];omega))
 refine ac (aan ?_ (ut _));refine wS ?_;have Ge:(((s.heap.update a (Da fun _=>#[])).push (seqObj "tuple" vs.toArray 0)).push (seqObj "list" #[] 0)).get? a=some (seqObj "list" #[] e1) :=by
  rw[Zi _ _ _ (by rw[size_push',Zx];exact l5 (xz ha)),Zi _ _ _ (by rw[Zx];exact l5 ha)]
  exact sP
 show c8 (model prog w) A _ P E {s with heap:=((s.heap.update a (Da fun _=>(#[]:Array al))).push (seqObj "tuple" vs.toArray 0)).push (seqObj "list" #[] 0)}
 obtain⟨hh,Pz⟩:∃hh,hh=((s.heap.update a (Da fun _=>(#[]:Array al))).push (seqObj "tuple" vs.toArray 0)).push (seqObj "list" #[] 0):=⟨_,rfl⟩
 rw[<- Pz]at Ge ⊢;have keep:∀b o,b≠a->s.heap.get? b=some o->hh.get? b=some o:=fun b o hb e=>by
  have aM:=kt e;rw[Pz,Zi _ _ _ (by rw[size_push',Zx];exact l5 (xz aM)),Zi _ _ _ (by rw[Zx];exact l5 aM),i8.get?_update_ne _ _ _ _ hb]
  exact e
 have tr:∀{v r},g9 s.heap v r->g9 hh v r:=fun h=>by
  obtain⟨b,o,xs,n,rfl,fN,hc,hd,hi⟩:=h;exact⟨b,o,xs,n,rfl,keep b o (fun z=>by subst z;rw[ho]at fN;injection fN with fN;subst fN;injection hc with hc;exact absurd hc (by decide)) fN,hc,hd,hi⟩
 have rp:BY (fun v r=>g9 hh v r) vs rows:=BY.imp' (fun _ _ h=>tr h) hr
 dsimp only;have hsz:vs.toArray.size=vs.length :=by simp
 have fin:∀p:Array Nat,Pm vs.length p->(∀i j,i<=j->j<vs.length->HT.lexLt (rows.getD (p.getD j 0) []) (rows.getD (p.getD i 0) [])=false)->P (.done (.ret .none)) {s with heap:=hh.update a (Da fun _=>WF (p.toList.map fun i=>vs.getD i AS))}:=fun p h1 h2=>by
  have:=h p h1 h2;unfold sortedHeap at this;rw[<- Pz]at this;exact this
 by_cases h2:vs.toArray.size<2
 ·rw[if_pos h2,if_pos h2];refine ac (bi ?_);rw[StateT.run_pure];refine ac (bi ?_);dsimp only;refine ac (seqEpoch_at Ge rfl ?_);have eo:((arrOf (SortSt.mk' general' (vs.toArray.zip vs.toArray) #[] 7 none)).map (·.2))=WF ((WF (hX vs.length)).toList.map fun i=>vs.getD i AS) :=by
   refine kat_snds (ks:=vs) (vs:=vs) rfl (p:=WF (hX vs.length)) ?_;have e:vs.length=(vs.toArray.zip vs.toArray).size :=by simp
   rw[e];exact(kas_range _).symm
  rw[eo];refine ac (aao Ge rfl ?_ (ut _) (by simp only[lv,bn,At,Pf];omega))
  simp only[bne_self_eq_false,i4,if_false];refine bi (fin (WF (hX vs.length)) ⟨by simp,by simp⟩ fun i j qP hj=>?_)
  have:i=j :=by omega
  subst this;exact tQ _
 ·rw[if_neg h2,if_neg h2];obtain⟨fs,k1,k2,k3⟩:=tS (s:={s with heap:=hh}) rp
  refine ac (kat_kind (T:=.type "int") k1 (by omega) (fun v hv=>by obtain⟨m,t,rfl⟩:=k3 v hv;exact Looks.of_pure rfl) (by decide) ?_)
  have IE:∀i,i<vs.length->∃r,g9 hh (vs.getD i AS) (rows.getD i [])/\rows.getD i []∈rows/\r=rows.getD i []:=fun i hi=>by
   have hv:vs[i]?=some (vs.getD i AS) :=by simp[hi]
   obtain⟨r,er,NS⟩:=vK rp hv;have e:rows.getD i []=r :=by simp[er]
   exact⟨_,by rw[e];exact NS,by rw[e];exact ff er,rfl⟩
  refine ac (on (kat_run (κ:=tuples' true) (ks:=vs) (vs:=vs) (Q:=fun j7 s'=>∃p:Array Nat,Pm vs.length p/\pG (fun i=>vL rows (rows.getD i [])) p vs.length/\arrOf j7=p.map (kas_item (vs.toArray.zip vs.toArray))/\failedOf j7=none/\s'={s with heap:=hh})
   rfl (by omega) oW (G:=fun p s'=>Pm vs.length p/\pG (fun i=>vL rows (rows.getD i [])) p vs.length/\s'={s with heap:=hh}) (fun p' j7 s' a1 a2 a3 a4=>⟨p',a4.1,a4.2.1,a2,a3,a4.2.2⟩) ?_) ?_ fun _ _ e=>e)
  ·refine yH (I:=fun s'=>s'={s with heap:=hh}) (R:=fun i=>vL rows (rows.getD i [])) (n:=vs.length) (fun i j C s' hi hj hI hC=>?_) _ _ _ rfl (LJ (by omega) fun p h1 h2 s' gX=>⟨h1,h2,gX⟩)
   subst hI;obtain⟨_,t1,m1,_⟩:=IE i hi;obtain⟨_,t2,_,_⟩:=IE j hj;refine Dn (s:={s with heap:=hh}) t1 t2 ?_
   rw[<- Gd m1];exact hC _ rfl
  ·intro r s' hs;obtain⟨_,j7⟩:=r;obtain⟨p,hp,hA,TR,hf,rfl⟩:=hs;dsimp only at TR hf ⊢;have Ve:=kat_snds (ks:=vs) (vs:=vs) rfl TR;refine ac (seqEpoch_at Ge rfl ?_);rw[Ve];refine ac (aao Ge rfl ?_ (ut _) (by rw[lv,bn,kw,hp.sz,Pf];omega))
   rw[hf];simp only[bne_self_eq_false,i4,if_false];refine bi (fin p hp fun i j qP hj=>?_)
   have yI:=hp.lt hj;obtain⟨_,_,m1,_⟩:=IE _ yI;rw[<- Gd m1];have:=hA i j qP hj;refine decide_eq_false ?_;have this:vL rows (rows.getD (p.getD i 0) [])<=vL rows (rows.getD (p.getD j 0) []):=this;omega
end
def kn (rs:List (List Int)):List (List Int):=rs.mergeSort fun a b => !HT.lexLt b a
theorem iX (rs:List (List Int)):(kn rs).Perm rs:=List.mergeSort_perm _ _
theorem zU {a b c:List Int}(h1:HT.lexLt b a=false) (h2:HT.lexLt c b=false):HT.lexLt c a=false :=by
 cases h:HT.lexLt c a with
 |false=>rfl
 |true=>
  cases h3:HT.lexLt a b with
  |true=>rw[lD h h3]at h2;cases h2
  |false=>
   have:=tR h3 h1;subst this;rw[h]at h2;cases h2
theorem yJ (rs:List (List Int)):(kn rs).Pairwise fun a b=>HT.lexLt b a=false :=by
 have:=List.pairwise_mergeSort (le:=fun a b => !HT.lexLt b a) (fun a b c h1 h2=>by
  simp only[Bool.not_eq_true']at *;exact zU h1 h2) (fun a b=>by
  cases h:HT.lexLt b a with
  |false=>rfl
  |true=>
   cases h2:HT.lexLt a b with
   |false=>rfl
   |true=>have:=lD h h2;rw[tQ]at this;cases this) rs
 exact this.imp fun h=>by simpa using h
theorem yK {ms rs:List (List Int)}(p:ms.Perm rs) (h:ms.Pairwise fun a b=>HT.lexLt b a=false):ms=kn rs:=
 PP.eq_of_pairwise (le:=fun a b=>HT.lexLt b a=false) (fun x y _ _ h1 h2=>tR h2 h1) h (yJ rs) (p.trans (iX rs).symm)
end L2
namespace L2
open PySem PySem.Spec PyProof.Rows
theorem IG {prog:jp}{w:lf}{A:sB}{a:ag}{R':Zl->ba->Prop}(In:Nat->ba->Prop)
  (turn:∀n s,In n s->c8 (model prog w) A.in1 (pyNext (.ref a)) (fun r s1=>match r with
   |none=>R' (.ok (.ret (.bool false))) s1
   |some v=>∃c,v=.bool c/\if c=false then ∃m,m<n/\In m s1 else R' (.ok (.ret (.bool true))) s1) (fun e s'=>R' (.error e) s') s) :
  ∀(n:Nat) (s:ba),In n s->OE (model prog w) A (.builtin "any.loop" ⟨[.ref a],[]⟩) R' s :=by
 intro n;induction n using Yo with
 |ind n ih=>
  intro s h;refine Mc F.entry_any_loop ?_;rw[Go aaN _];show c8 _ A.in1 (pyNext (.ref a)>>=_) _ _ s;refine ac (on (turn n s h) (fun r s1 q=>?_) fun _ _ z=>z)
  cases r with
  |none=>exact ac (GS (bi q))
  |some v=>
   obtain⟨c,e,q⟩:=q;subst e;refine ac (wS (BB ?_));refine ac (T0 ?_);cases c with
   |true=>
    rw[if_neg (by decide)]at q
    exact ac (GS (bi q))
   |false=>
    rw[if_pos rfl]at q;obtain⟨m,hm,hI⟩:=q;exact bi ⟨FS aaN _,ih m hm s1 hI⟩
section
variable {X:Cx}{tg elt iter:io}{ifs:List io}{scope:wT}{pos:wv}{N':List ci}{tn:Nat}{idx:List Nat}{wi:TI}{g:TG}{tt:TT}{te:TE}{c P:ag}{k:Nat}
def PD (P:ag) (tn:Nat) (idx:List Nat) (wi:TI) (g:TG) (tt:TT) (te:TE):TE:=fun σ H Q=>EV P wi (fun J H1=>∃W:Nat->Nat->St->Hp->Prop,(∃m,W 0 m (aQ tn idx σ) H1)/\Hy J g tt te true (fun b H2=>Q (.bl b) H2) W) σ H
theorem PF {p gR:wv}(hr:bZ (k+1) X.A) (hc:X.calm=true) (B:aD X.N X.env.scope scope N' tn idx)
  (h0:scope.names.lookup (".0" : ci)=some .local) (jd:scope.isCoroutine=false) (gA:X.env.code=.ref c) (hd:u7 X.base c P) (eW:∃bm ob,Zs X.base li X.mg bm ob)
  (iU:Gl X "any") (hm:X.mg "any" = none) (hi:PI X tg iter wi) (hg:dW X N' scope k fun Y=>PG Y tg g) (ht:dW X N' scope k fun Y=>fO Y ifs tt) (he:dW X N' scope k fun Y=>PE Y elt te)
  (hs:∀x,genFold iter X.env x=pure x :=by intro _;rfl):PE X (.Call (.Name "any" p) [dh elt tg iter ifs scope gR] [] pos) (PD P tn idx wi g tt te) :=by
 refine⟨?_⟩;intro pins s σ H Q I h;refine Ll (fY I iU hm PyProof.Rows.boot_any ?_);refine NH ?_ rfl rfl;show c8 _ _ (spliced ((false,eval (dh elt tg iter ifs scope gR) X.env)::[])) _ _ s;refine KM (rF hr hc B h0 jd gA hd eW hi hs I h ?_);intro J H3 a s5 Y it fp a7 gn pp G ⟨W,⟨m0,w0⟩,turn⟩;refine Os ?_;refine Y0 F.kind_any F.plain_any F.entry_any (F.args_any1 _) ?_;unfold wl.«any»;refine ac (m:=oneArg "any" _) (bi ?_)
 refine ac (aaJ (G.isg G.inv) ?_);refine bi ⟨FS aaN _,?_⟩;have rG:=xi (A2:=X.A.in4.in1) (pp:=pp) (R:=fun n s₀ r az=>r=.ok .next/\∃τ H,Inv Y pp τ H az/\Q (.bl false) H)
  (Yp:=fun n s₀ v s lX=>∃c τ H,v=.bool c/\Inv Y pp τ H s/\(c=true->Q (.bl true) H)/\(c≠true->∀aX,iT s aX->lX (.send .none) aX)) G.A G.xe G.calm G.co G.T (G.blk _ hg) (G.blk _ ht) (G.blk _ he) G.stat turn
  (fun n s₀ az τ H J z=>⟨rfl,τ,H,J,z⟩) (fun n s₀ s lX c τ H J z1 z2=>⟨c,τ,H,rfl,J,z1,z2⟩)
 have hP:=G.prog;have hW:=G.w;rw[hP,hW]at rG;refine IG (A:=X.A) (fun n s=>(∃τ H,Inv Y pp τ H s)/\∃gs,s.gens[gn]?=some gs/\∀aX,iT s aX->gs.Goes (model X.prog X.w) X.A.in4.in1 (fun n s₀ r az=>r=.ok .next/\∃τ H,Inv Y pp τ H az/\Q (.bl false) H)
  (fun n s₀ v s lX=>∃c τ H,v=.bool c/\Inv Y pp τ H s/\(c=true->Q (.bl true) H)/\(c≠true->∀aX,iT s aX->lX (.send .none) aX)) n (.send .none) aX) ?_ (m0+1) s5 ?_
 ·rintro n s6 ⟨⟨τ,H6,I6⟩,gs,EX,oN⟩;have UX:=G.gsz I6;refine PM (PM (PM ?_));show c8 (model X.prog X.w) X.A.in4 (pyNext (.ref a)) _ _ s6;refine ZU (A:=X.A.in4) (P:=fun n s₀ az=>∃τ H,Inv Y pp τ H az/\Q (.bl false) H) hr.hd I6.nolimit hr.depth (G.isg I6) EX (oN _ ⟨rfl,rfl,d9 I6.bare rfl⟩) (fun v s1 sI hb hv=>?_) (fun s1 hp h' hk=>?_)
  ·obtain⟨c,sJ,H1,e,I1,z1,z2⟩:=hv;subst e;refine⟨c,rfl,?_⟩;have oQ:iT s1 (s1.setGen gn sI):=⟨rfl,rfl,d9 I1.bare hb⟩;cases c with
   |true=>
    rw[if_neg (by decide)]
    exact⟨.bl true,H1,G.out (I1.iw oQ),rfl,z1 rfl⟩
   |false=>
    rw[if_pos rfl];have z3:=z2 (by decide)
    cases n with
    |zero=>exact(z3 s1 ⟨rfl,rfl,I1.bare.self⟩).elim
    |succ m=>
     refine⟨m,AT _,⟨sJ,H1,I1.iw oQ⟩,sI,oO (G.gsz I1),fun aX o=>z3 aX ⟨o.1,o.2.1,?_⟩⟩
     exact oQ.2.2.trans o.2.2
  ·obtain⟨sJ,H1,I1,z1⟩:=hp;have I2:=I1.kept (t':=s1.toks) hk;have EY:iT {s1 with heap:=h'} {s1.setGen gn .finished with heap:=h'}:=⟨rfl,rfl,d9 (s:=s1) I1.bare rfl⟩
   exact⟨.bl false,H1,G.out (I2.iw EY),rfl,z1⟩
 ·refine⟨⟨_,_,G.inv⟩,_,G.st,fun aX o=>⟨rfl,?_⟩⟩
  have I7:=G.inv.iw o;have vg:a7 0 aX.heap :=by rw[o.1];exact G.tn0
  have q:=oP (iter:=iter) (ifs:=ifs) (scope:=scope) (pos:=gR) (elt:=elt) G.T vg (by rw[hP,hW];exact rG m0 (m0+1) 0 _ _ aX aX (AT _) w0 I7 vg G.fr)
  rw[hP,hW]at q;exact q
end
section
variable {X:Cx}{Γ:Gz}{β:Bz}{zi:ef}{g:bP}{tt:ck}{te:aE}{tn:Nat}{idx:List Nat}
def nM (g:bP) (tt:ck) (te:aE):List Dv->aA->Mh->(Bool->Mh->Prop)->Prop
 | [],_,M,Q=>Q false M
 |d::ds,τ,M,Q=>g d τ M fun au M2=>tt au M2 fun b M3=>if b=true then te au M3 (zBool fun c M4=>if c=true then Q true M4 else nM g tt te ds au M4 Q) else nM g tt te ds au M3 Q
def zAny (tn:Nat) (idx:List Nat) (zi:ef) (g:bP) (tt:ck) (te:aE):aE:=fun ρ M Q=>zi ρ M fun ds M1=>nM g tt te ds (zBlock tn idx ρ) M1 fun b M2=>Q (.bl b) M2
theorem Sd {P:ag}(hP:P∈Γ.tb) {σ:St}{H:Hp}{Q:VK}(h:lE Γ (zAny tn idx zi g tt te) σ H Q):PD P tn idx (lI Γ zi) (lG Γ g) (lT Γ tt) (lE Γ te) σ H Q :=by
 obtain⟨β,ρ,M,Q',zr,h,q⟩:=h;refine Ij hP zr h fun ds M1 H1 J x1 it h1=>?_
 have gi:=zr.step x1;refine⟨fun i m τ H'=>m=ds.length - i/\i<=ds.length/\∃aT M',Ex β M1 H1 M' H'/\Zr Γ β M' aT τ H'/\nM g tt te (ds.drop i) aT M' fun b M2=>Q' (.bl b) M2,⟨_,rfl,ut _,_,M1,.refl x1.mz,gi.block tn idx,h1⟩,?_⟩
 rintro i m τ H' ⟨rfl,hi,aT,M',x',fq,h'⟩;have qq:=it β M' H' .refl x'.toEy x'.mz i;by_cases aM:i<ds.length
 ·refine .inr ⟨(qq.1 aM).1,fun x jO y=>?_⟩
  obtain⟨x2,d,hd,rd⟩:=(qq.1 aM).2 x jO y;have e:ds.drop i=d::ds.drop (i+1) :=by
   rw[Do aM];rw[ap aM]at hd;cases hd;rfl
  rw[e]at h';refine⟨β,d,aT,M',_,fq.step x2,rd,h',fun cy M3 je H3 x3 z3 h3=>⟨β,cy,M3,_,z3,h3,fun b M4 H4 x4 h4=>?_⟩⟩
  have lr:=x'.trans (x2.trans (x3.trans x4));cases b with
  |false=>
   dsimp only at h4 ⊢;rw[if_neg gc]at h4 ⊢;exact⟨ds.length - (i+1),by omega,rfl,aM,cy,M4,lr,z3.step x4,h4⟩
  |true=>
   dsimp only at h4 ⊢;rw[if_pos rfl]at h4 ⊢;refine⟨β,cy,M4,_,z3.step x4,h4,fun yd M5 yv H5 x5 r5 h5=>?_⟩
   obtain⟨k,rfl,h6⟩:=iy h5;refine⟨k,cL r5,?_⟩;cases k with
   |true=>
    rw[if_pos rfl]at h6 ⊢;exact q _ _ _ _ (x1.trans (lr.trans x5)) (.bl _) h6
   |false=>
    rw[if_neg (by decide)]at h6 ⊢
    exact⟨ds.length - (i+1),by omega,rfl,aM,cy,M5,lr.trans x5,(z3.step x4).step x5,h6⟩
 ·have e:i=ds.length :=by omega
  subst e;rw[Nl]at h';exact .inl ⟨qq.2 (cb _),q _ _ _ _ (x1.trans x') (.bl _) h'⟩
variable {tg elt iter:io}{ifs:List io}{scope:wT}{pos:wv}{N':List ci}{c P:ag}{k:Nat}
theorem PH {p gR:wv}(hP:P∈Γ.tb) (hr:bZ (k+1) X.A) (hc:X.calm=true) (B:aD X.N X.env.scope scope N' tn idx)
  (h0:scope.names.lookup (".0" : ci)=some .local) (jd:scope.isCoroutine=false) (gA:X.env.code=.ref c) (hd:u7 X.base c P) (eW:∃bm ob,Zs X.base li X.mg bm ob)
  (iU:Gl X "any") (hm:X.mg "any" = none) (hi:QI Γ X tg iter zi) (hg:dW X N' scope k fun Y=>QG Γ Y tg g) (ht:dW X N' scope k fun Y=>ou Γ Y ifs tt) (he:dW X N' scope k fun Y=>QE Γ Y elt te)
  (hs:∀x,genFold iter X.env x=pure x :=by intro _;rfl):QE Γ X (.Call (.Name "any" p) [dh elt tg iter ifs scope gR] [] pos) (zAny tn idx zi g tt te):=(PF hr hc B h0 jd gA hd eW iU hm hi hg ht he hs).imp fun σ H Q h=>Sd hP h
end
theorem BK {g:bP}{te:aE}{M:Mh}(p:Dv->Bool) (I:aA->Prop):∀{ds:List Dv}{τ:aA}{Q:Bool->Mh->Prop},I τ->(∀d∈ds,∀τ,I τ->∀R:aA->ZK,(∀au,I au->R au (.bl (p d)) M)->g d τ M fun au M2=>te au M2 (R au))->Q (ds.any p) M->nM g zNoIf te ds τ M Q
 | [],τ,Q,_,_,q=>q
 |d::ds,τ,Q,i,h,q=>by
          refine h d ii τ i (fun au=>zBool fun c M4=>if c=true then Q true M4 else nM g zNoIf te ds au M4 Q) fun au i2=>?_
          show if p d=true then Q true M else nM g zNoIf te ds au M Q
          cases e:p d with
          |true=>
           rw[if_pos rfl];rw[LB,e,Bool.true_or]at q;exact q
          |false=>
           rw[if_neg (by decide)]
           rw[LB,e,Bool.false_or]at q;exact BK p I i2 (fun d' hd=>h d' (db _ hd)) q
section
variable {Γ:Gz}{β:Bz}{D:ag}{M1 M M2:Mh}{H1 H H2:Hp}{aT uA:aA}{τ au:St}{ks:List (List Key)}{acc:List V}{cf:List Dv}
theorem Gf {H:Hp}{a:ag}{o:HO}(h:H a=some o):upd H a o=H :=by
 funext b
 by_cases e:b=a
 ·rw[e,aH,h]
 ·rw[ao e]
end
section
variable {X:Cx}{Γ:Gz}{K:bv}
def IH (x:V) (H:Hp):Prop:=∃p,x=.ref p/\((∃aj,Rd H p (.dK aj))\/∃aj,Rd H p (.dT aj))
def Vf (r:V->List V->Hp->VK->Prop) (to:TE) (t:TA):TE:=fun σ H Q=>to σ H fun x H1=>IH x H1/\t σ H1 fun xs H2=>r x xs H2 Q
theorem LK {pins:List (ag×l9)}{σ:St}{H:Hp}{s:ba}{x:V}{v:al}(I:Inv X pins σ H s) (r:RelV x v) (ty:IH x H):s.TypeIs v "dict" /\ ∀a,v=.ref a->∃ob,s.heap.get? a=some ob/\ob.dict=none :=by
 obtain⟨p,rfl,hk⟩:=ty;cases (show v=ss p from r);rcases hk with ⟨aj,hk⟩|⟨aj,hk⟩
 ·obtain⟨_,_,_,_,o,_,_,e,ex,_⟩:=nA I.hok hk;exact⟨⟨o,e,ex.1⟩,fun a e2=>by cases e2;exact⟨o,e,ex.2.1⟩⟩
 ·obtain⟨_,_,_,_,o,_,_,e,ex,_⟩:=nB I.hok hk;exact⟨⟨o,e,ex.1⟩,fun a e2=>by cases e2;exact⟨o,e,ex.2.1⟩⟩
variable {o e:io}{es:List io}{to:TE}{t:TA}{name:ci}{apos aU:wv}{id:String}{r:V->List V->Hp->VK->Prop}
theorem PJ (pa:aaD "dict") (slot:Slot "dict" name id) (oE:typeOf (.builtin id)=pure (.type "method_descriptor")) (hm:AR X id r) (ho:PE X o to) (ha:PA X (e::es) t)
  (ke:attributeBase o name X.env (eval o X.env)=eval o X.env :=by rfl)
  (nj:((backTo aU (lw (e::es) X.env)).all (fun x => !x.1) && (backToKw aU (keywordEach [] X.env)).all (fun x=>x.1.isSome) && decide ((e::es).length+([]:List UF).length+(if ([]:List UF).isEmpty then 0 else 1)<30))=true :=by rfl)
  (hline:(apos.endLine==aU.line)=true :=by rfl) (hs:lw (e::es) X.env=(false,eval e X.env)::lw es X.env :=by rfl) (iO:(backTo aU (lw es X.env)).any (·.1)=false :=by rfl) :
  PE X (.Call (.Attribute o name apos) (e::es) [] aU) (Vf r to t) :=by
 refine⟨?_⟩;intro pins s σ H Q I h;refine wpAny_Call_method_late ke nj hline rfl (thn (ho pins s σ H _ I h) fun v s1 ⟨x,H1,I1,r1,ty,q1⟩=>?_)
 obtain⟨h1,h2⟩:=LK I1 r1 ty;refine⟨"dict",id,pa,slot,oE,h1,h2,?_⟩
 have hA:=ha aU pins s1 σ H1 _ I1 q1;rw[hs]at hA ⊢;refine Calls.callWith_builtin (by show (false || (backTo aU (lw es X.env)).any (·.1))=false;rw[iO]<;>rfl) (ZQ ?_)
 exact thn hA fun us s2 ⟨vs,H2,I2,r2,q2⟩=>hm pins s2 σ H2 x vs v us Q I2 r1 r2 q2
def tyD (M:Mh) (d:Dv):Prop:=match nowK M d with | .dk _ _=>True | .dt _ _=>True|_=>False
def zBMD (z:ow) (po:aE) (pa:gh):aE:=fun ρ M Q=>po ρ M fun d M1=>tyD M1 d/\pa ρ M1 fun ds M2=>z d ds M2 Q
theorem PK {β:Bz}{M:Mh}{H:Hp}{x:V}{d:Dv}(m:Mz β M H) (r:Rz β M H x d) (h:tyD M d):IH x H :=by
 unfold tyD at h;split at h
 ·rename_i ks ds hk;obtain⟨a,vs,rfl,ha,_⟩:=(uI m r).1 _ _ hk;exact⟨a,rfl,.inl ⟨_,ha⟩⟩
 ·rename_i ks ds hk;obtain⟨a,vs,rfl,ha,_⟩:=(uI m r).2 _ _ hk;exact⟨a,rfl,.inr ⟨_,ha⟩⟩
 ·exact h.elim
variable {po:aE}{pa:gh}{z:ow}
theorem PL (pat:aaD "dict") (slot:Slot "dict" name id) (oE:typeOf (.builtin id)=pure (.type "method_descriptor")) (hm:vE Γ X "dict" id K z) (ho:QE Γ X o po) (ha:QA Γ X (e::es) pa) (ke:attributeBase o name X.env (eval o X.env)=eval o X.env :=by rfl)
  (nj:((backTo aU (lw (e::es) X.env)).all (fun x => !x.1) && (backToKw aU (keywordEach [] X.env)).all (fun x=>x.1.isSome) && decide ((e::es).length+([]:List UF).length+(if ([]:List UF).isEmpty then 0 else 1)<30))=true :=by rfl)
  (hline:(apos.endLine==aU.line)=true :=by rfl) (hs:lw (e::es) X.env=(false,eval e X.env)::lw es X.env :=by rfl) (iO:(backTo aU (lw es X.env)).any (·.1)=false :=by rfl) :
  QE Γ X (.Call (.Attribute o name apos) (e::es) [] aU) (zBMD z po pa) :=by
 obtain⟨r,h1,h2⟩:=hm;exact(PJ pat slot oE h1 ho ha ke nj hline hs iO).imp fun σ H Q ⟨β,ρ,M,Q',zr,h,q⟩=>⟨β,ρ,M,_,zr,h,fun d M1 v H1 x1 r1 ⟨ht,h1⟩=>⟨PK x1.mz r1 ht,β,ρ,M1,_,zr.step x1,h1,fun ds M2 vs H2 x2 r2 h3=>
  h2 β v vs d ds M2 H2 _ _ zr.eP zr.ew zr.eK x2.mz (r1.ex x2) r2 h3 fun d' M' v' H' x3 r3 q3=>q _ _ _ _ (x1.trans (x2.trans x3)) r3 q3⟩⟩
end
end L2
namespace L2
open PySem PySem.Spec PySem.W PyProof.Rows
section
variable {X:Cx}{e st:io}{te ts:TE}{p2 pos:wv}
def PN (K:bv) (te ts:TE):TE:=fun σ H Q=>te σ H fun x H1=>JF ts σ H1 fun o H2=>o=some (-1)/\∃a xs,x=.ref a/\bF K H2 a xs/\∀p,H2 p=none->Q (.ref p) (upd H2 p (.lst xs.reverse))
theorem PQ (he:PE X e te) (mh:PE X st ts):PE X (.Subscript e (.Slice none none (some st) p2) pos) (PN X.K te ts) :=by
 refine⟨?_⟩;intro pins s σ H Q I h;refine aa2 (thn (he pins s σ H _ I h) fun v s1 ⟨x,H1,I1,r1,q1⟩=>?_)
 refine wpAny_Slice (thn (ue pins s1 σ H1 (fun o H=>o=none/\H=H1) I1 ⟨rfl,rfl⟩) fun vl s2 ⟨l,H2,I2,pl,el,eH⟩=>?_)
 subst el eH;refine thn (ue pins s2 σ H2 (fun o H=>o=none/\H=H2) I2 ⟨rfl,rfl⟩) fun vu s3 ⟨u,H3,I3,pu,eu,eH⟩=>?_
 subst eu eH;refine thn (AO mh pins s3 σ H3 (fun o H=>o=some (-1)/\∃a xs,x=.ref a/\bF X.K H a xs/\∀p,H p=none->Q (.ref p) (upd H p (.lst xs.reverse))) I3 q1) fun vs s4 ⟨o,H4,I4,ps,eo,a,xs,ex,hx,q⟩=>?_
 subst eo ex;cases r1;have I5:Inv X pins σ H4 {s4 with heap:=s4.heap.push {cls:=.type "slice",data:=.fields #[vl,vu,vs]}}:=I4.kept (t':=s4.toks) fun b ob q=>br _ q
 obtain⟨its,r,ht,hz⟩:=I5.list hx;have hlen:=r.length;show c8 (model X.prog X.w) X.A (subscriptTail e (.Slice none none (some st) p2) (.ref a) (.ref s4.heap.objs.size)) (EP X pins σ Q) X.xe {s4 with heap:=s4.heap.push {cls:=.type "slice",data:=.fields #[vl,vu,vs]}}
 refine tail_any (ops:=[.ref a,.ref s4.heap.objs.size]) ht.isList.typeIs aax.lookup ?_ (by with_unfolding_all rfl)
 refine wpAny_getItem_list_slice ht.isList (i8.IsSliceOf.new ..) pl pu ps (by decide) ?_ (by rw[lv]<;>omega)
 rw[krv_pick];refine⟨.ref _,_,I5.laid (t':=s4.toks) (o:=.lst xs.reverse) (fun b ob q=>br _ q) (cb _) ?_,rfl,q _ (I5.hok.fresh (cb _))⟩
 exact⟨by rw[List.length_reverse];exact hz,_,0,r.reverse,ij _ rfl⟩
theorem LL {K:bv}(h:X.K=K) (he:PE X e te) (mh:PE X st ts):PE X (.Subscript e (.Slice none none (some st) p2) pos) (PN K te ts):=h▸PQ he mh
end
section
variable {X:Cx}{Γ:Gz}{K:bv}{e st:io}{p ps:aE}{p2 pos:wv}
def zRev (p ps:aE):aE:=fun ρ M Q=>p ρ M fun d M1=>ps ρ M1 fun o M2=>o=.int (-1)/\(match d with | .lst ds=>Q (.lst ds.reverse) M2|_=>False)
theorem PR (hK:X.K=K) (he:QE Γ X e p) (mh:QE Γ X st ps):QE Γ X (.Subscript e (.Slice none none (some st) p2) pos) (zRev p ps):=
 (LL hK he mh).imp fun σ H Q ⟨β,ρ,M,Q',zr,h,q⟩=>⟨β,ρ,M,_,zr,h,fun d M1 v H1 x1 r1 h1=>⟨β,ρ,M1,_,zr.step x1,h1,fun o M2 u H2 x2 r2 ⟨e,h2⟩=>by
  subst e;refine⟨-1,aI r2,rfl,?_⟩;cases d with
  |lst ds=>
   obtain⟨a,vs,rfl,f,ha,rs⟩:=eY (r1.ex x2);refine⟨a,vs,rfl,bF.of ha,fun p hp=>?_⟩
   have x3:=Ex.lay x2.mz hp (.lst vs.reverse);have WO:aJ β M2 H2 vs.reverse ds.reverse:=⟨by simp[rs.len],fun i v d a b=>by
    have hi:=(ca.mp a).1;have gY:=(ca.mp b).1;rw[List.length_reverse]at hi gY;rw[List.getElem?_reverse hi]at a;rw[List.getElem?_reverse gY,<- rs.len]at b;exact rs.at' _ v d a b⟩
   exact q _ _ _ _ (x1.trans (x2.trans x3)) (mZ (x2.mz.fz hp) aH (WO.ex x3)) h2
  |_=>exact h2.elim⟩⟩
end
section
variable {P:jp}{w:lf}{A:sB}{E:al->ba->Prop}{s:ba}
theorem tT {h:i8}{a:ag}{xs:List (List Int×ag)}(x:ji (Fa P w) h a xs):∃o,h.get? a=some o:=let ⟨o,_,_,_,e,_⟩:=x;⟨o,e⟩
theorem Gg {H:Hp}{h:i8}{a:ag}{aj:List (List Int×V)}(x:ji (Fa P w) h a (aj.map fun x=>(x.1,lh x.2))):ObjOk P w H h a (jL P w a aj):=⟨x,tT x,fun h1 h2 y k=>y.bQ k⟩
end
theorem Gh {X:Cx}{pins:List (ag×l9)}{σ:St}{H:Hp}{s:ba}{a:ag}{aj:List (List Int×V)}(I:Inv X pins σ H s) (h:H a=some (jL X.prog X.w a aj)):ji (Fa X.prog X.w) s.heap a (aj.map fun x=>(x.1,lh x.2)):=(I.hok a _ h).1
def Gi (ks:List (List Int)):Mo:=.ts ks (ks.map eI)
def nN (aj:List (List Int×V)) (k:List Int) (v:V):List (List Int×V):=if k∈aj.map (·.1) then aj else aj++[(k,v)]
def TupAt (H:Hp) (q:List Int×V):Prop:=∃b,q.2=.ref b/\H b=some (.tup (q.1.map V.int))
theorem tU {P:jp}{w:lf}:∀{ns:List Int}{its:List al},Vals (ns.map V.int) its->ItemsAre (Fa P w) ns its
 | [],_,h=>by cases h;exact .nil
 |n::ns,_,h=>by
          cases h with
          |cons r h=>
           obtain⟨t,rfl⟩:=r;exact .cons (intKind_is _ _ _ _) (tU h)
section
variable {X:Cx}{Γ:Gz}
theorem BL {pins:List (ag×l9)}{σ:St}{H:Hp}{s:ba}{b:ag}{ns:List Int}(I:Inv X pins σ H s) (h:H b=some (.tup (ns.map V.int))):Nd (Fa X.prog X.w) s.heap ns b :=by
 obtain⟨z,its,r,o,e,c,n,d,_⟩:=I.hok b _ h;exact⟨o,its.toArray,n,e,c,d,by simpa using tU r⟩
theorem Gj {pins:List (ag×l9)}{σ:St}{H:Hp}{s:ba}{a b:ag}{aj:List (List Int×V)}{k:List Int}{Q:VK}(I:Inv X pins σ H s) (hu:X.A.units+64<CS) (ha:H a=some (jL X.prog X.w a aj)) (hb:H b=some (.tup (k.map V.int))) (hk:∀q∈aj,TupAt H q) (hl:aj.length<9)
  (q:Q .ay (upd H a (jL X.prog X.w a (nN aj k (.ref b))))):c8 (model X.prog X.w) X.A (call (.builtin "set.add") [.ref a,.ref b]) (EP X pins σ Q) X.xe s :=by
 have hS:=Gh I ha;obtain⟨o,es,ep,t,ho,hex,_⟩:=id hS;have hT:s.TypeIs (.ref a) "set" := ⟨o,ho,hex.1⟩
 refine zn F.slot_set_add hT F.entry_set_add ?_ (F.args_set_add_2 _ _);unfold wl.«set.add» wl.Frozenset.oneOther;simp only[List.isEmpty_nil,bind_assoc];unfold wl.Frozenset.addrOf;refine ac (bi ?_);try dsimp only
 refine ac (bi ?_);try dsimp only
 refine ac (C6 (knd:=Fa X.prog X.w) (by show X.A.units+_<_;omega) hS (BL I hb) (fun x hx=>?_) (by rw[bn];exact hl) fun h' jc iI=>?_)
 ·obtain⟨y,hy,rfl⟩:=im.mp hx;obtain⟨c,e,hc⟩:=hk y hy;rw[e];exact BL I hc
 ·show c8 _ _ (ret AS) _ _ _;have JK:ji (Fa X.prog X.w) h' a ((nN aj k (.ref b)).map fun x=>(x.1,lh x.2)) :=by
   have e1:(aj.map fun x=>(x.1,lh x.2)).map (·.1)=aj.map (·.1) :=by rw[wP];rfl
   unfold xV at iI;unfold nN;rw[e1]at iI;by_cases z:k∈aj.map (·.1)
   ·rw[if_pos z]at iI ⊢;exact iI
   ·rw[if_neg z]at iI ⊢;rw[mf];exact iI
  have I9:=I.write (x:=a) (e:=a) (t':=s.toks+(k.length+1)) (by rw[ha];exact trivial) (.inl rfl) (fun b u hb hu=>(jc.2 b hb).trans hu) (tT JK) (Gg JK)
  exact bi ⟨_,rfl,.ay,_,I9,rfl,q⟩
variable {o e:io}{to:TE}{te:TA}{apos aU:wv}{po:aE}{pa:gh}
def lF (ks:List (List Int)) (k:List Int):List (List Int):=if k∈ks then ks else ks++[k]
end
section
variable {P:jp}{w:lf}{A:sB}{E:al->ba->Prop}{s:ba}
theorem yL {a:al}{C:List al->List (List Int)->Prop}{Q:al->ba->Prop}
  (HL:∀QL:List al->ba->Prop,(∀us rows h' d' tk,C us rows->(∀b o,s.heap.get? b=some o->h'.get? b=some o)->QL us {s with heap:=h',drawn:=d',toks:=tk})->c8 (model P w) A.in1 (collect a) QL E s)
  (hr:∀us rows,C us rows->BY (fun v r=>g9 s.heap v r) us rows/\us.length<64)
  (h:∀(us:List al) (rows:List (List Int)) (h1 h':i8) d' tk (is:List Nat) e,C us rows->(∀i∈is,i<us.length)->(is.map fun i=>rows.getD i [])=kn rows->(∀b o,s.heap.get? b=some o->h1.get? b=some o)->(∀b o,h1.get? b=some o->h'.get? b=some o)->h'.get? h1.objs.size=some {cls:=.type "list",data:=.seq (is.map fun i=>us.getD i AS).toArray e}->Q (.ref h1.objs.size) {s with heap:=h',drawn:=d',toks:=tk}) :
  c8 (model P w) A (call (.builtin "sorted") [a]) Q E s :=by
 refine Calls.call_function_entry kind_sorted plain_sorted entry_sorted (args_sorted1 _) ?_;unfold wl.«sorted»;refine ac (m:=checkCount "sorted" 1 1 _) (bi ?_)
 refine ac (HL _ fun us rows h' d' tk hC hk=>?_)
 obtain⟨Kj,oW⟩:=hr us rows hC;refine ac (aan ?_ (hsz:=wb (Pv oW) (by decide)))
 have sm:(h'.push (seqObj "list" us.toArray 0)).get? h'.objs.size=some (seqObj "list" us.toArray 0):=ij _ rfl
 have rp:BY (fun v r=>g9 (h'.push (seqObj "list" us.toArray 0)) v r) us rows:=BY.imp' (fun v r t=>by
  obtain⟨b,o,xs,n,rfl,ho,z⟩:=t;exact⟨b,o,xs,n,rfl,br _ (hk _ _ ho),z⟩) Kj
 have hl:=SS Kj;refine ac (wS (zn slot_list_sort ⟨_,sm,rfl⟩ entry_list_sort (uK sm rp oW fun p hp ha=>⟨_,rfl,?_⟩) (args_list_sort _)))
 refine bi ⟨_,rfl,?_⟩;obtain⟨e,he⟩:=sortedHeap_at (out:=WF (p.toList.map fun i=>us.getD i AS)) sm
 refine h us rows h' _ d' _ p.toList e hC (fun i hi=>?_) (yK ?_ ?_) hk (fun b o hb=>?_) he
 ·have:=hp.pm.mem_iff.mp hi;exact l6.mp this
 ·have q:=hp.pm.map fun i=>rows.getD i []
  refine q.trans (PP.of_eq ?_);rw[hl];refine aaL (by simp) fun i h1 h2=>?_
  simp only[List.getElem_map,RI];rw[cr,ap h2];rfl
 ·rw[JJ];intro i j hi hj qP;simp only[bn,kw]at hi hj;have hsz:=hp.sz;have:=ha i j (Pv qP) (by omega)
  simp only[List.getElem_map,Array.getElem_toList];have e1:p.getD i 0=p[i] :=by simp[NL,hi]
  have e2:p.getD j 0=p[j] :=by simp[NL,hj]
  rw[e1,e2]at this;exact this
 ·have aM:=kt hb;rw[sortedHeap_old (l5 aM) (by rw[xp];exact xz aM)]
  exact br _ hb
end
theorem tV {α β γ:Type}{R:β->γ->Prop}(f:α->β) (g:α->γ):∀{l:List α},(∀x∈l,R (f x) (g x))->BY R (l.map f) (l.map g)
 | [],_=>.nil
 |x::l,h=>.cons (h x ii) (tV f g fun y hy=>h y (db _ hy))
theorem Gk {α β:Type}(f:α->β):∀{us:List β}{l:List α},us.Perm (l.map f)->∃l':List α,l'.Perm l/\us=l'.map f:=fun {us l} h=>by
 have key:∀(us vs:List β),us.Perm vs->∀l:List α,vs=l.map f->∃l':List α,l'.Perm l/\us=l'.map f:=fun us vs p=>by
  induction p with
  |nil=>intro l e;exact⟨l,.refl _,e⟩
  |cons x p ih=>
   intro l e;cases l with
   |nil=>cases e
   |cons a l=>
    cases e;obtain⟨l',p',e'⟩:=ih l rfl;exact⟨a::l',p'.cons a,by rw[e'];rfl⟩
  |swap x y l0=>
   intro l e;match l,e with
   |a::b::l,e=>
    cases e;exact⟨b::a::l,.swap ..,rfl⟩
  |trans p1 p2 WQ WR=>
   intro l e;obtain⟨l2,q2,e2⟩:=WR l e;obtain⟨l1,q1,e1⟩:=WQ l2 e2;exact⟨l1,q1.trans q2,e1⟩
 exact key us _ h l rfl
def LN (X:Cx):List V->Hp->VK->Prop:=fun xs H Q=>∃p aj,xs=[.ref p]/\H p=some (jL X.prog X.w p aj)/\(∀q∈aj,TupAt H q/\q.1≠[])/\aj.length<64 /\
 ∀l (pH:List (List Int×V)),H l=none->(∀q∈pH,q∈aj)->pH.map (·.1)=kn (aj.map (·.1))->Q (.ref l) (upd H l (.lst (pH.map (·.2))))
section
variable {X:Cx}{Γ:Gz}
theorem zV (hc:X.calm=true):cR X (.builtin "sorted") (LN X) :=by
 intro pins s σ H xs us Q I r h;obtain⟨p,aj,rfl,hp,iu,oW,q⟩:=h;obtain⟨u,rfl,rx⟩:=vals1 r;cases rx;have hh:=I.ok.hd hc;have hsz:sizeLine=16777216:=Pf;obtain⟨o,es,ep,t,ho,hex,hd,TU,hn,g,hm,hl⟩:=Gh I hp;have hlen:es.size=aj.length :=by rw[<- kw,TU.length_eq,bn,bn]
 have jc:scanBound=4096:=rfl;have ev:es.toList.map (·.2) |>.Perm (aj.map fun x=>ss (lh x.2)) :=by
  have:=TU.map (·.2);rw[wP,wP]at this;exact this
 refine yL (C:=fun us rows=>∃iK:List (List Int×V),iK.Perm aj/\us=iK.map (fun x=>ss (lh x.2))/\rows=iK.map (·.1)) (fun QL Fj=>?_) (fun us rows hC=>?_) fun us rows h1 h' d' tk is e hC hi hs k1 k2 he=>?_
 ·refine xX (by simp[hh]) ho hex hd (by omega) g.fits g.ok (by omega) fun us h' d' tk WT hk=>?_
  obtain⟨iK,q2,e2⟩:=Gk (fun x:List Int×V=>ss (lh x.2)) (WT.trans ev)
  exact Fj us _ h' d' tk ⟨iK,q2,e2,rfl⟩ hk
 ·obtain⟨iK,q2,rfl,rfl⟩:=hC;refine⟨tV _ _ fun x hx=>?_,by rw[bn,q2.length_eq];exact oW⟩
  obtain⟨⟨b,e,hb⟩,d8⟩:=iu x (q2.mem_iff.mp hx);obtain⟨ts,rt,⟨ob,xc,f9,n,WU⟩,_⟩:=I.tuple (.inl (.inl hb));rw[e];exact⟨b,ob,_,n,rfl,xc,f9,WU,qi rt,d8⟩
 ·obtain⟨iK,q2,rfl,rfl⟩:=hC;rw[bn]at hi;have I1:Inv X pins σ H {s with heap:=h1,drawn:=d'}:=(I.kept (t':=s.toks) k1).iw ⟨rfl,rfl,I.bare.self⟩
  have PU:=congrArg aaX hs;rw[bn,(iX _).length_eq,bn,q2.length_eq]at PU;have gd:∀i∈is,iK[i]?=some (iK.getD i ([],.ay)):=fun i hx=>by
   have:=hi i hx;rw[cr,ap this];rfl
  have mem:∀i∈is,iK.getD i ([],.ay)∈aj:=fun i hx=>q2.mem_iff.mp (ff (gd i hx))
  have ob:ObjOk X.prog X.w (upd H h1.objs.size (.lst ((is.map fun i=>iK.getD i ([],.ay)).map (·.2)))) h' h1.objs.size (.lst ((is.map fun i=>iK.getD i ([],.ay)).map (·.2))) :=by
   refine⟨by rw[bn,bn];omega,_,e,?_,he⟩
   clear he hs PU
   induction is with
   |nil=>exact .nil
   |cons i is ih=>
    refine .cons ?_ (ih (fun j hj=>hi j (db _ hj)) (fun j hj=>gd j (db _ hj)) fun j hj=>mem j (db _ hj))
    have g1:=gd i ii;obtain⟨⟨b,e1,_⟩,_⟩:=iu _ (mem i ii);have e2:(iK.map fun x=>ss (lh x.2)).getD i AS=.ref (lh (iK.getD i ([],.ay)).2) :=by
     rw[cr,dL,g1];rfl
    show RelV (iK.getD i ([],.ay)).2 ((iK.map fun x=>ss (lh x.2)).getD i AS)
    rw[e2,e1];rfl
  have eq1:(is.map fun i=>iK.getD i ([],.ay)).map (·.1)=kn (aj.map (·.1)) :=by
   have e3:(is.map fun i=>iK.getD i ([],.ay)).map (·.1)=is.map fun i=>(iK.map (·.1)).getD i [] :=by
    rw[wP];refine GG fun i hx=>?_
    show (iK.getD i ([],.ay)).1=_;rw[cr (l:=Y2 _ _),dL,gd i hx];rfl
   rw[e3,hs];exact yK ((iX _).trans (q2.map _)) (yJ _)
  exact⟨.ref h1.objs.size,_,I1.laid (t':=tk) k2 (cb _) ob,rfl,q _ _ (I1.hok.fresh (cb _)) (fun z hz=>by obtain⟨i,hx,rfl⟩:=im.mp hz;exact mem i hx) eq1⟩
def zSortTS (d:Dv) (M:Mh) (Q:ZK):Prop:=∃a ks,d=.ptr a/\M a=some (Gi ks)/\ks.length<64/\(∀r∈ks,r≠[])/\Q (.lst ((kn ks).map eI)) M
theorem II (hP:X.prog=Γ.P) (hw:X.w=Γ.w) (hc:X.calm=true):fQ Γ X (.builtin "sorted") (z1 zSortTS):=⟨_,zV hc,fun β xs ds M H Q Q' eP ew _ m rs z q=>by
 unfold z1 at z;split at z
 ·rename_i d;obtain⟨x,rfl,r⟩:=de rs;obtain⟨a,ks,rfl,hM,oW,d8,hq⟩:=z;obtain⟨rfl,hs⟩:=bL r;obtain⟨vs,hv,PV,ez⟩:=m.obj a _ hM;have kf:(ks.zip vs).map (·.1)=ks:=List.map_fst_zip (by omega)
  have each:∀q∈ks.zip vs,Rz β M H q.2 (eI q.1):=fun q hq=>by
   obtain⟨i,hi⟩:=nw.mp hq;obtain⟨e1,e2⟩:=AC.mp hi;exact ez.at' i q.2 (eI q.1) e2 (by rw[dL,e1];rfl)
  refine⟨a,ks.zip vs,rfl,by rw[hP,hw,<- eP,<- ew];exact hv,fun q hq=>⟨?_,?_⟩,by rw[SI];omega,fun l pH hl HU gX=>?_⟩
  ·obtain⟨c,us,ec,_,hc,yM⟩:=cj (each q hq);have:=iz yM;subst this;exact⟨c,ec,hc⟩
  ·exact d8 _ (by rw[<- kf];exact im.mpr ⟨q,hq,rfl⟩)
  ·rw[kf]at gX;have x2:=Ex.lay m hl (.lst (pH.map (·.2)));have rk:aJ β M H (pH.map (·.2)) ((pH.map (·.1)).map eI) :=by
    clear gX x2
    induction pH with
    |nil=>exact .nil
    |cons z l ih=>exact .cons (each z (HU z ii)) (ih fun y hy=>HU y (db _ hy))
   rw[gX]at rk;exact q _ _ _ _ x2 (mZ (m.fz hl) aH (rk.ex x2)) hq
 ·exact z.elim⟩
end
end L2
namespace L2
open PySem PySem.Spec PyProof.Rows
def jf (acc:Option Int) (v:Int):Option Int:=match acc with|none=>some v|some m=>if v > m then some v else some m
def TV (acc:Option Int) (t:Zj):Array al:=match acc with|none=>#[]|some m=>#[.int m t,.int m t]
def rq (acc:Option Int) (t:Zj) (c:Nat):l9:={cls:=.type "list",dict:=none,data:=.seq (TV acc t) c,slots:=#[]}
def MxAt (S:ag) (acc:Option Int) (s:ba):Prop:=∃t c,s.heap.get? S=some (rq acc t c)
section
variable {Y:Cx}{A2:sB}{tg elt iter:io}{ifs:List io}{scope:wT}{pos:wv}{it:ag}{fp:List ag}{a7:Nat->i8->Prop}{J:It}{g:TG}{tt:TT}{te:TE}{pp:List (ag×l9)}
def Dp (J:It) (g:TG) (tt:TT) (te:TE) (Z:Option Int->Hp->Prop) (W:Nat->Nat->Option Int->St->Hp->Prop):Prop:=∀i m acc τ H,W i m acc τ H->
 (J.stop i H/\Z acc H)\/(J.go i H/\∀x H',J.yld i H x H'->g x τ H' fun au H2=>tt au H2 fun b H3=>if b=true then te au H3 fun y H4=>∃v,y=.int v/\∃m',m'<m/\W (i+1) m' (jf acc v) au H4 else ∃m',m'<m/\W (i+1) m' acc au H3)
def RM (Y:Cx) (pp:List (ag×l9)) (S:ag) (Z:Option Int->Hp->Prop):GenEnd:=fun _ s₀ r az=>r=.ok .next/\∃acc τ H,MxAt S acc s₀/\Inv Y pp τ H az/\H S=none/\MxAt S acc az/\Z acc H
def YM (Y:Cx) (pp:List (ag×l9)) (S:ag):Protocol:=fun _ s₀ v s lX=>∃acc b t τ H pl,v=.int b t/\MxAt S acc s₀/\MxAt S acc s/\Inv Y (pp++pl) τ H s/\(H S=none/\S≠Y.env.locals/\S ∉ Y.fs)/\(∀p∈pl,p.1≠S) /\
 ∀aX,Inv Y (pp++pl) τ H aX->MxAt S (jf acc b) aX->lX (.send .none) aX
theorem Gm {S:ag}(hA:Y.A=A2.over (.compLoop (.GeneratorExp elt [⟨tg,iter,ifs,0⟩] scope pos) 0 (.ref it) .none Y.env) []) (oH:Y.xe=fun _ _=>False) (hc:Y.calm=true) (jd:Y.env.scope.isCoroutine=false)
  (T:Turn Y.prog Y.w Y.K tg J fp it a7) (hg:PG Y tg g) (ht:fO Y ifs tt) (he:PE Y elt te) (stat:∀{H':Hp},(∀b∈fp,H' b=none)->∀b∈fp,bR Y pp H' b) (hS:S ∉ fp)
  {W:Nat->Nat->Option Int->St->Hp->Prop} {Z:Option Int->Hp->Prop} (turn:Dp J g tt te Z W) :
  ∀(m n i:Nat) (acc:Option Int) (τ:St) (H:Hp) (s s₀:ba) (t:Zj) (c:Nat),m<n->W i m acc τ H->Inv Y (pp++[(S,rq acc t c)]) τ H s->s₀.heap.get? S=some (rq acc t c)->a7 i s.heap->(∀b∈fp,H b=none)->
   Seg (model Y.prog Y.w) A2 (RM Y pp S Z) (YM Y pp S) n s₀ (.compLoop (.GeneratorExp elt [⟨tg,iter,ifs,0⟩] scope pos) 0 (.ref it) .none Y.env)
    ((model Y.prog Y.w).den (.compLoop (.GeneratorExp elt [⟨tg,iter,ifs,0⟩] scope pos) 0 (.ref it) .none Y.env)) [] s :=by
 intro m;induction m using Yo with
 |ind m ih=>
  intro n i acc τ H s s₀ t c S4 w I h0 st fr;have Dq:∀{H':Hp},(∀b∈fp,H' b=none)->∀b∈fp,bR Y (pp++[(S,rq acc t c)]) H' b:=fun hn b hb=>by
   obtain⟨f0,f1,f2,f3,f4,f5⟩:=stat hn b hb;refine⟨f0,f1,f2,f3,f4,fun p hp=>?_⟩
   rcases qr.mp hp with z|z
   ·exact f5 p (uu _ z)
   ·rcases qr.mp z with z|z
    ·exact f5 p (f8 _ z)
    ·rw[lc.mp z];exact fun e=>hS (by rw[show S=b from e];exact hb)
  show Seg _ A2 _ _ _ s₀ _ ((compTurn (.GeneratorExp elt [⟨tg,iter,ifs,0⟩] scope pos) 0 (.ref it) .none Y.env).onRaise (leaving Y.env)) [] s;rw[compTurn_gen,Z6];rcases turn i m acc τ H w with ⟨stop,qn⟩|⟨go,step⟩
  ·refine xy (DO ?_);have d:=T.done Y rfl rfl rfl hc i _ s τ H (fun _ _=>False) I (Dq fr) st stop
   rw[hA]at d;refine xy (on d (fun r s1 ⟨hr,I1⟩=>?_) fun _ _ z=>z.elim)
   subst hr;exact seg_end (.ok .next) ⟨rfl,acc,τ,H,⟨t,c,h0⟩,I1.dG,(I1.pin (S,rq acc t c) (f8 _ (f8 _ (lc.mpr rfl)))).2.1,⟨t,c,(I1.pin (S,rq acc t c) (f8 _ (f8 _ (lc.mpr rfl)))).1⟩,qn⟩
  ·refine xy (DO ?_);have d:=T.item Y rfl rfl rfl hc i _ s τ H (fun _ _=>False) I (Dq fr) st go
   rw[hA]at d;refine xy (on d (fun r s4 ⟨u,hr,h4⟩=>?_) fun _ _ z=>z.elim)
   subst hr;refine xy (on h4 (fun _ s5 ⟨x,H5,I5,r5,y5,kQ,wQ⟩=>?_) fun _ _ z=>z.elim)
   have wR:=I5.pinned (Dq wQ) (T.obj _ _ kQ);have back:∀{qq:List (ag×l9)} {qJ:St} {H7:Hp} {s7:ba},Inv Y (qq++fZ fp s5.heap) qJ H7 s7->a7 (i+1) s7.heap/\∀b∈fp,H7 b=none:=fun {qq qJ H7 s7} I7=>by
    refine⟨T.keep _ _ _ kQ fun b hb o e=>(I7.pin (b,o) (f8 _ (f8 _ (cQ hb e)))).1,fun b hb=>?_⟩
    obtain⟨o,e,d⟩:=T.obj _ _ kQ b hb;exact(I7.pin (b,o) (f8 _ (f8 _ (cQ hb e)))).2.1
   have d2:=hg _ s5 τ H5 x u _ wR r5 (step x H5 y5);rw[hA,oH]at d2;refine xy (on d2 (fun _ s6 ⟨j9,H6,I6,q6⟩=>?_) fun _ _ z=>z.elim)
   have d3:=ht _ s6 j9 H6 _ I6 q6;rw[hA,oH]at d3;refine xy (on d3 (fun ok s7 ⟨H7,I7,q7⟩=>?_) fun _ _ z=>z.elim)
   have hy:∀v,yieldOut Y.env v=yieldValue v:=fun v=>by simp only[yieldOut,jd,i4,if_false]
   cases ok with
   |false=>
    simp only[i4,if_false]at q7 ⊢;obtain⟨m',oM,w7⟩:=q7;exact ZC rfl (ih m' oM n (i+1) acc j9 H7 s7 s₀ t c (by omega) w7 I7.dG h0 (back I7).1 (back I7).2)
   |true=>
    simp only[if_true]at q7 ⊢;simp only[hy];rw[Zb,Zb,aam,aam];have d4:=he _ s7 j9 H7 _ I7 q7;rw[hA,oH]at d4;refine seg_wrap (on d4 (fun yv s8 ⟨y,H8,I8,r8,q8⟩=>?_) fun _ _ z=>z.elim)
    obtain⟨b,rfl,m',oM,w8⟩:=q8;obtain⟨tv,rfl⟩:=r8;obtain⟨n,rfl⟩:∃n',n=n'+1:=⟨n - 1,by omega⟩
    have pS:=I8.pin (S,rq acc t c) (f8 _ (uu _ (f8 _ (lc.mpr rfl))));have pl:∀p∈fZ fp s5.heap,p.1≠S:=fun p hp e=>hS (by rw[<- e];exact(uY hp).1)
    have WV:Inv Y (pp++fZ fp s5.heap) j9 H8 s8:=I8.kD fun p hp=>I8.pin p (f8 _ ((qr.mp hp).elim (fun z=>uu _ (uu _ z)) (f8 _)))
    refine seg_at (seg_yield rfl rfl rfl ⟨acc,b,tv,j9,H8,fZ fp s5.heap,rfl,⟨t,c,h0⟩,⟨t,c,pS.1⟩,WV,⟨pS.2.1,pS.2.2.1,pS.2.2.2.1⟩,pl,fun aX I9 ⟨t2,c2,h9⟩=>?_⟩)
    have WW:Inv Y (pp++[(S,rq (jf acc b) t2 c2)]) j9 H8 aX:=I9.kD fun p hp=>by
     rcases qr.mp hp with z|z
     ·exact I9.pin p (f8 _ (uu _ z))
     ·rw[lc.mp z];exact⟨h9,pS.2.1,pS.2.2.1,pS.2.2.2.1,fun v z=>by cases z⟩
    exact ZC rfl (ih m' oM n (i+1) (jf acc b) j9 H8 aX aX t2 c2 (by omega) w8 WW h9 (back I9).1 (back I9).2)
end
section
variable {X:Cx}{tg elt iter:io}{ifs:List io}{scope:wT}{pos:wv}{N':List ci}{tn:Nat}{idx:List Nat}{wi:TI}{g:TG}{tt:TT}{te:TE}{c P:ag}{k:Nat}
def Dr (X Y:Cx) (pp:List (ag×l9)) (gn:Nat) (S:ag) (Z:Option Int->Hp->Prop) (n:Nat) (acc:Option Int) (s:ba):Prop:=
 MxAt S acc s/\∃τ H pl gs,Inv Y (pp++pl) τ H s/\s.gens[gn]?=some gs/\∀aX,Inv Y (pp++pl) τ H aX->MxAt S acc aX->gs.Goes (model X.prog X.w) X.A.in4.in1 (RM Y pp S Z) (YM Y pp S) n (.send .none) aX
theorem MxAt.inj {S:ag}{a b:Option Int}{s:ba}(h:MxAt S a s) (h2:MxAt S b s):a=b :=by
 obtain⟨t,c,e⟩:=h;obtain⟨t2,c2,e2⟩:=h2;rw[e]at e2;have:=lm e2;unfold rq at this;injection this with _ _ h3 _
 injection h3 with h4 _
 have h5:=congrArg (fun x:Array al=>x[0]?) h4
 cases a<;>cases b<;>simp[TV]at h5 ⊢
 exact h5.1
theorem PX {pins:List (ag×l9)}{σ:St}{J:It}{H3:Hp}{a:ag}{s5:ba}{Y:Cx}{it:ag}{fp:List ag}{a7:Nat->i8->Prop}{gn:Nat}{pp:List (ag×l9)}{S:ag}{Z:Option Int->Hp->Prop}{n:Nat}{acc:Option Int}{s:ba}{E:al->ba->Prop}
  (hr:bZ (k+1) X.A) (G:CH X pins σ N' scope tn idx k elt tg iter ifs pos J H3 a s5 Y it fp a7 gn pp)
  (hS:(S∈Y.ex\/Y.s₀.heap.objs.size<=S)/\(∀x c,Y.env.cells.lookup x=some c->c≠S)/\∀p∈Y.pn++pp,p.1≠S) (h:Dr X Y pp gn S Z n acc s) :
  c8 (model X.prog X.w) X.A.in4 (pyNext (.ref a)) (fun r s1=>match r with
   |none=>∃H1,Inv X pins σ H1 s1/\H1 S=none/\MxAt S acc s1/\Z acc H1
   |some v=>∃b t,v=.int b t/\MxAt S acc s1/\∀h' t',(∀d o,d≠S->s1.heap.get? d=some o->h'.get? d=some o)->MxAt S (jf acc b) {s1 with heap:=h',toks:=t'}->∃m,m<n/\Dr X Y pp gn S Z m (jf acc b) {s1 with heap:=h',toks:=t'}) E s :=by
 obtain⟨sa,τ,H,pl,gs,I6,EX,oN⟩:=h;refine ZU (A:=X.A.in4) (P:=fun _ s₀ az=>∃acc τ H,MxAt S acc s₀/\Inv Y pp τ H az/\H S=none/\MxAt S acc az/\Z acc H) hr.hd I6.nolimit hr.depth (G.isg I6.dG) EX (oN _ (I6.iw ⟨rfl,rfl,d9 I6.bare rfl⟩) sa) (fun v s1 sI hb hv=>?_) (fun s1 hp h' hk=>?_)
 ·obtain⟨IJ,b,t,sJ,H1,TX,rfl,sb,sc,I1,nS,WX,z2⟩:=hv;have ea:acc=IJ:=MxAt.inj sa sb;subst ea;have oQ:iT s1 (s1.setGen gn sI):=⟨rfl,rfl,d9 I1.bare hb⟩;refine⟨b,t,rfl,sc,fun h' t' keep oj=>?_⟩
  have I2:Inv Y (pp++TX) sJ H1 {s1.setGen gn sI with heap:=h',toks:=t'}:=(I1.iw oQ).turned keep nS.1 nS.2.1 hS.1 hS.2.1 fun p hp=>by
   rcases qr.mp hp with z|z
   ·exact hS.2.2 p (uu _ z)
   ·rcases qr.mp z with z|z
    ·exact hS.2.2 p (f8 _ z)
    ·exact WX p z
  have z3:=z2 _ I2 oj;cases n with
  |zero=>exact z3.elim
  |succ m=>exact⟨m,AT _,oj,sJ,H1,TX,sI,I2,oO (G.gsz I1.dG),fun aX I3 s3=>z2 aX I3 s3⟩
 ·obtain⟨IJ,sJ,H1,sb,I1,WY,⟨te,ce,WZ⟩,z1⟩:=hp;have ea:acc=IJ:=MxAt.inj sa sb;subst ea;have I2:=I1.kept (t':=s1.toks) hk;have EY:iT {s1 with heap:=h'} {s1.setGen gn .finished with heap:=h'}:=⟨rfl,rfl,d9 (s:=s1) I1.bare rfl⟩
  exact⟨H1,G.out (I2.iw EY),WY,⟨te,ce,hk _ _ WZ⟩,z1⟩
theorem Ds {pins:List (ag×l9)}{σ:St}{J:It}{H3:Hp}{a:ag}{s5:ba}{Y:Cx}{it:ag}{fp:List ag}{a7:Nat->i8->Prop}{gn:Nat}{pp:List (ag×l9)}{S:ag}{Z:Option Int->Hp->Prop}{W:Nat->Nat->Option Int->St->Hp->Prop}{m0:Nat}{H4:Hp}{s6:ba}{acc:Option Int}
  (G:CH X pins σ N' scope tn idx k elt tg iter ifs pos J H3 a s5 Y it fp a7 gn pp) (hg:dW X N' scope k fun Y=>PG Y tg g) (ht:dW X N' scope k fun Y=>fO Y ifs tt) (he:dW X N' scope k fun Y=>PE Y elt te) (hS:S ∉ fp)
  (PY:H4 S=none/\S≠Y.env.locals/\S ∉ Y.fs) (I6:Inv Y (pp++fZ fp s5.heap) (aQ tn idx σ) H4 s6) (W0:s6.gens=s5.gens) (sa:MxAt S acc s6) (turn:Dp J g tt te Z W) (w0:W 0 m0 acc (aQ tn idx σ) H4):Dr X Y pp gn S Z (m0+1) acc s6 :=by
 have rG:=Gm (A2:=X.A.in4.in1) (pp:=pp) (S:=S) (Z:=Z) G.A G.xe G.calm G.co G.T (G.blk _ hg) (G.blk _ ht) (G.blk _ he) G.stat hS turn;have hP:=G.prog;have hW:=G.w;have mh:=G.st;rw[<- W0]at mh;refine⟨sa,_,_,_,_,I6,mh,fun aX I7 ⟨t,c,h7⟩=>⟨rfl,?_⟩⟩
 have vg:a7 0 aX.heap:=G.T.keep _ _ _ G.tn0 fun b hb o e=>(I7.pin (b,o) (f8 _ (f8 _ (cQ hb e)))).1
 have W2:∀b∈fp,H4 b=none:=fun b hb=>by
  obtain⟨o,e,d⟩:=G.T.obj _ _ G.tn0 b hb;exact(I7.pin (b,o) (f8 _ (f8 _ (cQ hb e)))).2.1
 have W3:Inv Y (pp++[(S,rq acc t c)]) (aQ tn idx σ) H4 aX:=I7.kD fun p hp=>by
  rcases qr.mp hp with z|z
  ·exact I7.pin p (f8 _ (uu _ z))
  ·rw[lc.mp z];exact⟨h7,PY.1,PY.2.1,PY.2.2,fun v z=>by cases z⟩
 have q:=oP (iter:=iter) (ifs:=ifs) (scope:=scope) (pos:=pos) (elt:=elt) G.T vg (rG m0 (m0+1) 0 acc _ _ aX aX t c (AT _) w0 W3 h7 vg W2);rw[hP,hW]at q;exact q
theorem IK {pins:List (ag×l9)}{σ:St}{J:It}{H3:Hp}{a:ag}{s5:ba}{Y:Cx}{it:ag}{fp:List ag}{a7:Nat->i8->Prop}{gn:Nat}{pp:List (ag×l9)}{S:ag}{Z:Option Int->Hp->Prop}{R':Zl->ba->Prop}
  (hr:bZ (k+1) X.A) (G:CH X pins σ N' scope tn idx k elt tg iter ifs pos J H3 a s5 Y it fp a7 gn pp)
  (hS:(S∈Y.ex\/Y.s₀.heap.objs.size<=S)/\(∀x c,Y.env.cells.lookup x=some c->c≠S)/\∀p∈Y.pn++pp,p.1≠S) (hZ:∀H,¬ Z none H)
  (hR:∀s H acc t h' tk,Inv X pins σ H s->H S=none->(∀d o,d≠S->s.heap.get? d=some o->h'.get? d=some o)->Z (some acc) H->R' (.ok (.ret (.int acc t))) {s with heap:=h',toks:=tk}) :
  ∀(n:Nat) (acc:Option Int) (s:ba),Dr X Y pp gn S Z n acc s->OE (model X.prog X.w) X.A (.builtin "max.loop" ⟨[.ref a,.none,.ref S],[]⟩) R' s :=by
 intro n;induction n using Yo with
 |ind n ih=>
  intro acc s h;obtain⟨t0,c0,h0⟩:=h.1;refine Mc F.entry_max_loop ?_;rw[Go YJ _];show c8 _ X.A.in1 (seqItems? (.ref S)>>=_) _ _ s;refine ac (Gc h0 rfl ?_);show c8 _ X.A.in1 (tryCatch (pyNext (.ref a)) _>>=_) _ _ s;refine ac (wpAny_tryCatch (PM (PM (PM (on (PX (E:=fun _ _=>False) hr G hS h) (fun r s1 q=>?_) fun _ _ z=>z.elim)))))
  have tW:(toString "max" ++ toString ".loop" : String) = "max.loop" := by decide
  have sX:∀(h':i8) (f:l9->l9) (d:ag) (o:l9),d≠S->h'.get? d=some o->(h'.update S f).get? d=some o:=fun h' f d o hd e=>(AM _ _ (fun h:S=d=>hd h.symm)).trans e
  cases r with
  |none=>
   obtain⟨H1,I1,oo,⟨t1,c1,h1⟩,z1⟩:=q;cases acc with
   |none=>exact(hZ _ z1).elim
   |some m=>
    have h1:s1.heap.get? S=some {cls:=.type "list",dict:=none,data:=.seq #[.int m t1,.int m t1] c1,slots:=#[]}:=h1
    show c8 _ X.A.in1 (updateSeq S (fun _=>#[])>>=_) _ _ _
    refine ac (SB h1 rfl (ac (T0 (bi ?_))));exact hR s1 H1 m t0 _ s1.toks I1 oo (sX _ _) z1
  |some v=>
   obtain⟨b,t,rfl,⟨t1,c1,h1⟩,nx⟩:=q;cases acc with
   |none=>
    have h1:s1.heap.get? S=some {cls:=.type "list",dict:=none,data:=.seq #[] c1,slots:=#[]}:=h1
    have e:jf none b=some b:=rfl;rw[e]at nx;show c8 _ X.A.in1 (updateSeq S (fun _=>#[.int b t,.int b t])>>=_) _ _ _
    refine ac (SB h1 rfl ?_);rw[tW];obtain⟨m,hm,hG⟩:=nx (s1.heap.update S (Da fun _=>#[.int b t,.int b t])) s1.toks (sX _ _) ⟨t,_,ww _ h1 rfl⟩
    exact bi ⟨FS YJ _,ih m hm _ _ hG⟩
   |some old=>
    have h2:s1.heap.get? S=some {cls:=.type "list",dict:=none,data:=.seq #[.int old t1,.int old t1] c1,slots:=#[]}:=h1
    show c8 _ X.A.in1 (tryCatch (holding [.int b t,.int b t] (richCompare .Gt (.int b t) (.int old t0)>>=_)) _>>=_) _ _ _;refine ac (wpAny_tryCatch (wS (ac (richCompare_gives (op:=.Gt) (aaC s1 _ t) (aaC s1 _ t0) F.slot_int_gt F.entry_int_gt (F.args_int_gt_2 _ _) (gives_int_gt _ _ t t0) (fun x=>nomatch x) ?_))))
    refine ac (wS (BB ?_));refine ac (T0 (bi ?_));by_cases hb:b > old
    ·have e:jf (some old) b=some b :=by unfold jf;exact if_pos hb
     rw[e]at nx;rw[decide_eq_true hb];simp only[if_true];refine ac (SB h2 rfl (ac (T0 ?_)));rw[tW];obtain⟨m,hm,hG⟩:=nx (s1.heap.update S (Da fun _=>#[.int b t,.int b t])) s1.toks (sX _ _) ⟨t,_,ww _ h2 rfl⟩
     exact bi ⟨FS YJ _,ih m hm _ _ hG⟩
    ·have e:jf (some old) b=some old :=by unfold jf;exact if_neg hb
     rw[e]at nx;rw[decide_eq_false hb];simp only[i4,if_false];refine ac (T0 ?_);rw[tW];obtain⟨m,hm,hG⟩:=nx s1.heap s1.toks (fun d o _ e=>e) ⟨t1,c1,h1⟩
     exact bi ⟨FS YJ _,ih m hm _ _ hG⟩
def Kk (P:ag) (tn:Nat) (idx:List Nat) (wi:TI) (g:TG) (tt:TT) (te:TE):TE:=fun σ H Q=>EV P wi (fun J H1=>∃W:Nat->Nat->Option Int->St->Hp->Prop,(∃m,W 0 m none (aQ tn idx σ) H1)/\Dp J g tt te (fun acc H2=>∃v,acc=some v/\Q (.int v) H2) W) σ H
theorem Gp {p gR:wv}(hr:bZ (k+1) X.A) (hc:X.calm=true) (B:aD X.N X.env.scope scope N' tn idx)
  (h0:scope.names.lookup (".0" : ci)=some .local) (jd:scope.isCoroutine=false) (gA:X.env.code=.ref c) (hd:u7 X.base c P) (eW:∃bm ob,Zs X.base li X.mg bm ob)
  (iU:Gl X "max") (hm:X.mg "max" = none) (hi:PI X tg iter wi) (hg:dW X N' scope k fun Y=>PG Y tg g) (ht:dW X N' scope k fun Y=>fO Y ifs tt) (he:dW X N' scope k fun Y=>PE Y elt te)
  (hs:∀x,genFold iter X.env x=pure x :=by intro _;rfl):PE X (.Call (.Name "max" p) [dh elt tg iter ifs scope gR] [] pos) (Kk P tn idx wi g tt te) :=by
 refine⟨?_⟩;intro pins s σ H Q I h;refine Ll (fY I iU hm E3 ?_);refine NH ?_ rfl rfl;show c8 _ _ (spliced ((false,eval (dh elt tg iter ifs scope gR) X.env)::[])) _ _ s;refine KM (rF hr hc B h0 jd gA hd eW hi hs I h ?_);intro J H3 a s5 Y it fp a7 gn pp G ⟨W,⟨m0,w0⟩,turn⟩;refine Os ?_;refine Y0 F.kind_max F.plain_max F.entry_max (F.args_max1 _) ?_;have tW:(toString "max" ++ toString ".loop" : String) = "max.loop" := by decide
 show c8 _ X.A.in1 (wl.Builtins.bindParams "max" ["key","default"] 0 ⟨[],[]⟩>>=_) _ _ s5
 refine ac (wpAny_of_eq (show wl.Builtins.bindParams "max" ["key","default"] 0 ⟨[],[]⟩=pure [none,none] from rfl) ?_)
 refine ac (bi ?_);refine ac (aaJ (G.isg G.inv) ?_);refine ac (B0 ?_);have fo:=G.inv.jZ (cb s5.heap.objs.size) (G.inv.hok.fresh (cb _));have xF:s5.heap.objs.size ∉ fp:=fun z=>by
  obtain⟨o,e,_⟩:=G.T.obj _ _ G.tn0 _ z;exact DD _ (kt e)
 have I6:=G.inv.pinned (G.stat G.fr) (G.T.obj _ _ G.tn0);have IX:=G.out G.inv;rw[tW];refine bi ⟨FS YJ _,IK (Z:=fun acc H2=>∃v,acc=some v/\Q (.int v) H2) hr G ⟨fo.2.2.2.1,fo.2.2.2.2.1,fo.2.2.2.2.2⟩ (fun H ⟨v,e,_⟩=>nomatch e) (fun s1 H1 acc t h' tk I1 oo keep z1=>?_) (m0+1) none _
  (Ds G hg ht he xF ⟨fo.1,fo.2.1,fo.2.2.1⟩ (I6.kept (t':=s5.toks) fun b o e=>br _ e) rfl ⟨0,_,ij _ rfl⟩ turn w0)⟩
 obtain⟨v,e,z2⟩:=z1;cases e;have fx:=IX.jZ (cb s5.heap.objs.size) oo;exact⟨.int acc,H1,I1.turned (t':=tk) keep oo fx.2.1 fx.2.2.2.1 fx.2.2.2.2.1 fx.2.2.2.2.2,⟨t,rfl⟩,z2⟩
end
section
variable {X:Cx}{Γ:Gz}{tg elt iter:io}{ifs:List io}{scope:wT}{pos:wv}{N':List ci}{tn:Nat}{idx:List Nat}{zi:ef}{g:bP}{tt:ck}{te:aE}{c P:ag}{k:Nat}
def zMaxGL (g:bP) (tt:ck) (te:aE):List Dv->aA->Mh->Option Int->(Option Int->Mh->Prop)->Prop
 | [],_,M,acc,Q=>Q acc M
 |d::ds,τ,M,acc,Q=>g d τ M fun au M2=>tt au M2 fun b M3=>if b=true then te au M3 (fun y M4=>match y with | .int v=>zMaxGL g tt te ds au M4 (jf acc v) Q|_=>False) else zMaxGL g tt te ds au M3 acc Q
def zMaxG (tn:Nat) (idx:List Nat) (zi:ef) (g:bP) (tt:ck) (te:aE):aE:=fun ρ M Q=>zi ρ M fun ds M1=>zMaxGL g tt te ds (zBlock tn idx ρ) M1 none fun acc M2=>∃v,acc=some v/\Q (.int v) M2
theorem PZ {P:ag}(hP:P∈Γ.tb) {σ:St}{H:Hp}{Q:VK}(h:lE Γ (zMaxG tn idx zi g tt te) σ H Q):Kk P tn idx (lI Γ zi) (lG Γ g) (lT Γ tt) (lE Γ te) σ H Q :=by
 obtain⟨β,ρ,M,Q',zr,h,q⟩:=h;refine Ij hP zr h fun ds M1 H1 J x1 it h1=>?_
 have gi:=zr.step x1;refine⟨fun i m acc τ H'=>m=ds.length - i/\i<=ds.length/\∃aT M',Ex β M1 H1 M' H'/\Zr Γ β M' aT τ H'/\zMaxGL g tt te (ds.drop i) aT M' acc fun a M2=>∃v,a=some v/\Q' (.int v) M2,⟨_,rfl,ut _,_,M1,.refl x1.mz,gi.block tn idx,h1⟩,?_⟩
 rintro i m acc τ H' ⟨rfl,hi,aT,M',x',fq,h'⟩;have qq:=it β M' H' .refl x'.toEy x'.mz i;by_cases aM:i<ds.length
 ·refine .inr ⟨(qq.1 aM).1,fun x jO y=>?_⟩
  obtain⟨x2,d,hd,rd⟩:=(qq.1 aM).2 x jO y;have e:ds.drop i=d::ds.drop (i+1) :=by
   rw[Do aM];rw[ap aM]at hd;cases hd;rfl
  rw[e]at h';refine⟨β,d,aT,M',_,fq.step x2,rd,h',fun cy M3 je H3 x3 z3 h3=>⟨β,cy,M3,_,z3,h3,fun b M4 H4 x4 h4=>?_⟩⟩
  have lr:=x'.trans (x2.trans (x3.trans x4));cases b with
  |false=>
   dsimp only at h4 ⊢;rw[if_neg gc]at h4 ⊢;exact⟨ds.length - (i+1),by omega,rfl,aM,cy,M4,lr,z3.step x4,h4⟩
  |true=>
   dsimp only at h4 ⊢;rw[if_pos rfl]at h4 ⊢;refine⟨β,cy,M4,_,z3.step x4,h4,fun yd M5 yv H5 x5 r5 h5=>?_⟩
   revert h5
   split
   ·rename_i v;intro h5;exact⟨v,aI r5,ds.length - (i+1),by omega,rfl,aM,cy,M5,lr.trans x5,(z3.step x4).step x5,h5⟩
   ·exact fun h=>h.elim
 ·have e:i=ds.length :=by omega
  subst e;rw[Nl]at h';obtain⟨v,ev,h'⟩:=h';exact .inl ⟨qq.2 (cb _),v,ev,q _ _ _ _ (x1.trans x') (.int _) h'⟩
theorem Gq {p gR:wv}(hP:P∈Γ.tb) (hr:bZ (k+1) X.A) (hc:X.calm=true) (B:aD X.N X.env.scope scope N' tn idx)
  (h0:scope.names.lookup (".0" : ci)=some .local) (jd:scope.isCoroutine=false) (gA:X.env.code=.ref c) (hd:u7 X.base c P) (eW:∃bm ob,Zs X.base li X.mg bm ob)
  (iU:Gl X "max") (hm:X.mg "max" = none) (hi:QI Γ X tg iter zi) (hg:dW X N' scope k fun Y=>QG Γ Y tg g) (ht:dW X N' scope k fun Y=>ou Γ Y ifs tt) (he:dW X N' scope k fun Y=>QE Γ Y elt te)
  (hs:∀x,genFold iter X.env x=pure x :=by intro _;rfl):QE Γ X (.Call (.Name "max" p) [dh elt tg iter ifs scope gR] [] pos) (zMaxG tn idx zi g tt te):=(Gp hr hc B h0 jd gA hd eW iU hm hi hg ht he hs).imp fun σ H Q h=>PZ hP h
theorem yN:∀(ns:List Int) (acc:Option Int),(∃m,acc=some m)\/ns≠[]->∃m,ns.foldl jf acc=some m/\(acc=some m\/m∈ns)/\(∀a,acc=some a->a<=m)/\∀x∈ns,x<=m
 | [],acc,h=>by
          rcases h with ⟨m,rfl⟩|h
          ·exact⟨m,rfl,.inl rfl,(fun a e=>by cases e;exact LF _),fun _ h=>nomatch h⟩
          ·exact absurd rfl h
 |x::ns,acc,_=>by
          have e:∃m0,jf acc x=some m0/\(acc=some m0\/m0=x)/\(∀a,acc=some a->a<=m0)/\x<=m0 :=by
           cases acc with
           |none=>exact⟨x,rfl,.inr rfl,(fun a e=>nomatch e),LF _⟩
           |some a=>
            unfold jf;by_cases h:x > a
            ·exact⟨x,if_pos h,.inr rfl,(fun b e=>by cases e;omega),LF _⟩
            ·exact⟨a,if_neg h,.inl rfl,(fun b e=>by cases e;exact LF _),by omega⟩
          obtain⟨m0,e0,e1,e2,e3⟩:=e;obtain⟨m,h1,h2,h3,h4⟩:=yN ns (jf acc x) (.inl ⟨m0,e0⟩);refine⟨m,h1,?_,fun a ea=>Int.le_trans (e2 a ea) (h3 m0 e0),fun y hy=>?_⟩
          ·rcases h2 with h2|h2
           ·rw[e0]at h2;cases h2;rcases e1 with e1|rfl
            ·exact .inl e1
            ·exact .inr ii
           ·exact .inr (db _ h2)
          ·rcases lp.mp hy with rfl|hy
           ·exact Int.le_trans e3 (h3 m0 e0)
           ·exact h4 y hy
theorem zmaxl_of {g:bP}{te:aE}(f:Dv->Int) (I:aA->Mh->Prop):∀{ds:List Dv}{τ:aA}{M:Mh}{acc:Option Int}{Q:Option Int->Mh->Prop},I τ M->
  (∀d∈ds,∀τ M,I τ M->∀R:aA->ZK,(∀au M2,I au M2->R au (.int (f d)) M2)->g d τ M fun au M2=>te au M2 (R au))->(∀τ M,I τ M->Q ((ds.map f).foldl jf acc) M)->zMaxGL g zNoIf te ds τ M acc Q
 | [],τ,M,acc,Q,i,_,q=>q τ M i
 |d::ds,τ,M,acc,Q,i,h,q=>by
          refine h d ii τ M i (fun au y M4=>match y with | .int v=>zMaxGL g zNoIf te ds au M4 (jf acc v) Q|_=>False) fun au M2 i2=>?_
          exact zmaxl_of f I i2 (fun d' hd=>h d' (db _ hd)) fun je M3 i3=>q je M3 i3
end
end L2
namespace L2
open PySem PySem.Spec PySem.W PyProof.Rows
theorem LO {P:jp}{w:lf}{h:i8}{a:ag}(e:h.get? a=some (xA w)):ji (Fa P w) h a []:=
 ⟨_,#[],0,_,e,⟨rfl,rfl,rfl⟩,rfl,by simp,by simp,C3 0 0,.inl rfl,by show 0 * 5<7 * 3;decide⟩
section
variable {X:Cx}
theorem Du {pins:List (ag×l9)}{σ:St}{H2:Hp}{s2:ba}{e tg iter:io}{ifs:List io}{scope:wT}{N':List ci}{tn:Nat}{idx:List Nat}{g:TG}{tt:TT}{tb:ag->TB}{body:al->ON->YS Unit}{it:ag}{fp:List ag}{a7:Nat->i8->Prop}{J:It}
  {cl:List (ci×ag)} {E:al->ba->Prop} {RR:al->ag->Zl->ba->Prop} {Q:VK} {mk:YS al} {O0:ag->HO} {o0:l9}
  (ER:∀(Q:al->ba->Prop),Q (.ref s2.heap.objs.size) {s2 with heap:=s2.heap.push o0}->c8 (model X.prog X.w) X.A mk Q E s2) (oF:o0.isFreed=false)
  (xc:∀(H:Hp) (h1:i8),h1.get? s2.heap.objs.size=some o0->ObjOk X.prog X.w H h1 s2.heap.objs.size (O0 s2.heap.objs.size))
  (hc:X.calm=true) (B:aD X.N X.env.scope scope N' tn idx)
  (hC:∀(D:ag),Blk X N' scope fun Y=>uh Y e tg iter ifs 0 (.ref D) (body (.ref D) Y.env))
  (hg:Blk X N' scope fun Y=>PG Y tg g) (ht:Blk X N' scope fun Y=>fO Y ifs tt) (hb:∀D,Blk X N' scope fun Y=>PB Y (body (.ref D) Y.env) (tb D))
  (I:Inv X pins σ H2 s2) (T:Turn X.prog X.w X.K tg J fp it a7) (st:a7 0 s2.heap) (f2:∀b∈fp,bR X pins H2 b)
  (cc:∀n c,cl.lookup n=some c->X.env.cells.lookup n=some c) (dI:∀n,(n,AE)∈scope.names->∃c,cl.lookup n=some c)
  (hq:∀D,H2 D=none->∃W:Nat->Nat->St->Hp->Prop,(∃m,W 0 m (aQ tn idx σ) (upd H2 D (O0 D)))/\lV J g tt (tb D) (fun _ H'=>Q (.ref D) H') W)
  (oI:∀D C m s' H',Inv X pins σ H' s'->bR X pins H' C->s'.heap.Ns C m->Q (.ref D) H'->RR (.ref D) C (.ok .next) s') :
  c8 (model X.prog X.w) X.A mk (fun acc iQ=>c8 (model X.prog X.w) X.A (newFunctionEnv scope X.env.globals cl [] X.env.qual none .none (some X.env)) (fun gb kY=>
   OE (model X.prog X.w) X.A (.compStart e 0 (.ref it) acc {gb with scope:=relabel scope X.env}) (RR acc gb.locals) kY) E iQ) E s2 :=by
 obtain⟨b1,b2,b3,b4⟩:=id B;refine ER _ (ZT (fun y hy=>(b2 y hy).1) (by intro y hy;simp at hy) (fun cE eJ d7=>?_) b1)
 dsimp only at eJ d7 ⊢;generalize hG:s2.heap.push o0=G at eJ d7 ⊢
 have xf:G.objs.size=s2.heap.objs.size+1 :=by rw[<- hG,xp]
 have qK:s2.heap.objs.size≠G.objs.size :=by rw[xf];exact l5 (AT _)
 have gf:s2.heap.objs.size<=G.objs.size :=by rw[xf];exact IR _
 have below:∀b,b<s2.heap.objs.size->b≠G.objs.size:=fun b hb=>by rw[xf];exact l5 (xz hb)
 have old:∀b o,s2.heap.get? b=some o->cE.get? b=some o:=fun b o e=>d7.extBut b o (below b (kt e)) (br _ (hG▸br _ e))
 have xg:cE.get? s2.heap.objs.size=some o0:=d7.extBut _ _ qK (br _ (hG▸ij _ oF));have oJ:H2 s2.heap.objs.size=none:=I.hok.fresh (cb _);have oG:upd H2 s2.heap.objs.size (O0 s2.heap.objs.size) G.objs.size=none :=by rw[ao (Ch qK)];exact I.hok.fresh gf
 have rE:cG X.prog X.w (upd H2 s2.heap.objs.size (O0 s2.heap.objs.size)) cE:=I.hok.laid old (cb _) (xc _ _ xg);have iH:∀b∈fp,b<s2.heap.objs.size:=fun b hb=>let ⟨o,e,_⟩:=T.obj _ _ st b hb;kt e
 obtain⟨W,⟨m0,w0⟩,turn⟩:=hq s2.heap.objs.size oJ;have I1:Inv (mS X N' scope cl G.objs.size s2 H2 fp) [] (aQ tn idx σ) (upd H2 s2.heap.objs.size (O0 s2.heap.objs.size)) {s2 with heap:=cE,toks:=s2.toks+([]:List (ci×al)).length}:=by
  refine lU (g':=s2.gens) (m0:=fun x=>([]:List (ci×al)).reverse.lookup x) I b1 rfl rfl cc (fun x hx=>?_) (fun z=>I.ok.hd z) I.ok.frames (.inl rfl) gf f2 iH (Un.laid old (cb _) oJ) rE oG old eJ (fun i x v e1 e2 e3=>?_) (B.len σ) I.bare.self
  ·have fh:(relabel scope X.env).names.lookup x=some .cell\/(relabel scope X.env).names.lookup x=some .free:=hx;rw[cz]at fh;cases q:scope.names.lookup x with
   |none=>rw[q]at fh;rcases fh with z|z<;>cases z
   |some k0=>
    have hm:=u4 q;rw[q]at fh;by_cases hk:k0=.free
    ·subst hk;exact dI x hm
    ·have nk:(k0==AE)=false :=by simpa using hk
     have nc:=(b2 _ hm).1;simp only[Co,nk,Pc,i4,if_false]at fh;rcases fh with z|z
     ·exact absurd (lm z) nc
     ·exact absurd (lm z) hk
  ·obtain⟨fr,j,e4,e5⟩:=B.at e1 e2;have kx:=(b2 _ (u4 fr)).2.2 rfl;refine⟨?_,.inr kx,kx,j,e4,e5⟩;show (relabel scope X.env).names.lookup x=some .cell\/(relabel scope X.env).names.lookup x=some .free;rw[cz,fr];simp only[Co];split
   ·exact .inl rfl
   ·exact .inr rfl
 have stat:∀b∈fp,bR (mS X N' scope cl G.objs.size s2 H2 fp) [] (upd H2 s2.heap.objs.size (O0 s2.heap.objs.size)) b:=fun b hb=>by
  refine⟨by rw[ao (l5 (iH b hb))];exact(f2 b hb).1,below b (iH b hb),fun z=>?_,.inl hb,fun x c e=>(f2 b hb).2.2.2.2.1 x c (cc x c e),fun p hp=>absurd (show p∈([]:List (ag×l9)) from hp) (by simp)⟩
  rcases lp.mp (I.fX b z) with q|q
  ·exact(f2 b hb).2.1 q
  ·exact(f2 b hb).2.2.1 q
 have oK:a7 0 cE:=T.keep _ _ _ st fun b _ o e=>old b o e
 refine kg (Y:=mS X N' scope cl G.objs.size s2 H2 fp) (hC _ cl G.objs.size s2 H2 fp) T oK (lW (Y:=mS X N' scope cl G.objs.size s2 H2 fp) hc (fun _ _ z=>z) (hC _ cl G.objs.size s2 H2 fp) (hg cl G.objs.size s2 H2 fp) (ht cl G.objs.size s2 H2 fp) (hb _ cl G.objs.size s2 H2 fp) T turn I1 oK stat w0 fun aT H' s' I4 qn=>?_)
 have J2:Inv X pins σ H' s':=I.qd I4.os I4.base I4.hok I4.bare fun b hb=>⟨(f2 b hb).2.2.2.1,(f2 b hb).2.1,(f2 b hb).2.2.2.2.1,(f2 b hb).2.2.2.2.2⟩
 obtain⟨mm,hm,_⟩:=I4.loc;exact oI _ _ mm s' H' J2 (I.jZ gf I4.free) hm qn
def yO (P:jp) (w:lf) (D:ag) (te:TE):TB:=fun τ H Q=>te τ H fun y H4=>∃b aj k,y=.ref b/\H4 D=some (jL P w D aj)/\H4 b=some (.tup (k.map V.int))/\(∀q∈aj,TupAt H4 q)/\aj.length<9/\Q τ (upd H4 D (jL P w D (nN aj k (.ref b))))
theorem IL {Y:Cx}{elt:io}{te:TE}{D:ag}(hp:Y.prog=X.prog) (hw:Y.w=X.w) (hu:Y.A.units+64<CS) (h:PE Y elt te):PB Y (eval elt Y.env>>=fun v=>standAt elt.pos>>=fun _=>call (.builtin "set.add") [.ref D,v]>>=fun _=>pure ()) (yO X.prog X.w D te) :=by
 intro pins s τ H Q I q;refine ac (on (h pins s τ H _ I q) (fun yv s8 ⟨y,H8,I8,r8,q8⟩=>?_) fun _ _ z=>z)
 obtain⟨b,aj,k,rfl,hD,hb,hk,hl,w8⟩:=q8;cases r8;rw[<- hp,<- hw]at hD w8;refine ac (DO (ac (on (Gj (Q:=fun v H9=>H9=upd H8 D (jL Y.prog Y.w D (nN aj k (.ref b)))) I8 hu hD hb hk hl rfl) (fun rv s9 ⟨v9,H9,I9,_,e9⟩=>?_) fun _ _ z=>z)))
 subst e9;exact bi ⟨τ,_,I9,w8⟩
variable {tg elt iter:io}{ifs:List io}{scope:wT}{pos:wv}{N':List ci}{tn:Nat}{idx:List Nat}{wi:TI}{g:TG}{tt:TT}{te:TE}
def BM (X:Cx) (tn:Nat) (idx:List Nat) (wi:TI) (g:TG) (tt:TT) (te:TE):TE:=fun σ H Q=>wi σ H fun J H1=>∀D,H1 D=none->∃W:Nat->Nat->St->Hp->Prop,(∃m,W 0 m (aQ tn idx σ) (upd H1 D (jL X.prog X.w D [])))/\lV J g tt (yO X.prog X.w D te) (fun _ H'=>Q (.ref D) H') W
theorem zW (hu:X.A.units+64<CS) (hc:X.calm=true) (B:aD X.N X.env.scope scope N' tn idx) (hi:PI X tg iter wi)
  (hg:Blk X N' scope fun Y=>PG Y tg g) (ht:Blk X N' scope fun Y=>fO Y ifs tt) (he:Blk X N' scope fun Y=>PE Y elt te)
  (hs:∀x,zw iter X.env x=pure x :=by intro _;rfl):PE X (.SetComp elt [⟨tg,iter,ifs,0⟩] scope pos) (BM X tn idx wi g tt te) :=by
 refine⟨?_⟩;intro pins s σ H Q I h;obtain⟨cl,iR,cc,dI⟩:=gz (scope:=scope) (env:=X.env) fun n hn=>I.ok.has n ((B.2.1 _ hn).2.2 rfl)
 rw[arm_eval_SetComp];refine NJ (use:=none) rfl hs iR B.1 (fun y hy=>(B.2.1 y hy).2.1) (on (hi pins s σ H _ I h) (fun xv s1 h1=>on h1 (fun uX s2 h2=>?_) fun _ _ z=>z) fun _ _ z=>z)
 obtain⟨it,fp,a7,J,H2,e,I2,T,mM,f2,q2⟩:=h2;subst e;refine Du (RR:=fun acc C=>compPost (model X.prog X.w) X.A X.xe none (EP X pins σ Q) acc C) (body:=fun acc env=>eval elt env>>=fun v=>standAt elt.pos>>=fun _=>call (.builtin "set.add") [acc,v]>>=fun _=>pure ()) (tb:=fun D=>yO X.prog X.w D te) (O0:=fun D=>jL X.prog X.w D []) (o0:=xA X.w)
  (fun Q q=>Ba q) rfl (fun H h1 hd=>Gg (LO hd)) hc B (fun D cl C s H fp=>⟨fun _=>rfl,fun _ _ _ _ h=>h,fun _=>xG ..,fun _ _ _ _ h=>h,rfl⟩) hg ht (fun D cl C s H fp=>IL (X:=X) rfl rfl hu (he cl C s H fp))
  I2 T mM f2 cc dI q2 fun D C m s' H' J2 fC hm q=>?_
 exact⟨m,hm,fun h' gX=>⟨.ref D,H',fC.turn J2 gX,rfl,q⟩⟩
end
def qy (g:bP) (tt:ck) (te:aE):List Dv->List (List Int)->aA->Mh->(List (List Int)->Mh->Prop)->Prop
 | [],ks,_,M,Q=>Q ks M
 |d::ds,ks,τ,M,Q=>g d τ M fun au M2=>tt au M2 fun b M3=>if b=true then te au M3 fun y M4=>∃k,y=eI k/\ks.length<9/\qy g tt te ds (lF ks k) au M4 Q else qy g tt te ds ks au M3 Q
def zSetTC (tn:Nat) (idx:List Nat) (zi:ef) (g:bP) (tt:ck) (te:aE):aE:=fun ρ M Q=>zi ρ M fun ds M1=>qy g tt te ds [] (zBlock tn idx ρ) M1 fun ks M2=>∀a,M2 a=none->Q (.ptr a) (aw M2 a (Gi ks))
theorem Gr {g:bP}{te:aE}(I:Nat->List (List Int)->aA->Mh->Prop):∀{ds:List Dv}{i:Nat}{ks:List (List Int)}{τ:aA}{M:Mh}{Q:List (List Int)->Mh->Prop},I i ks τ M->
  (∀j d ks τ M,ds[j]?=some d->I (i+j) ks τ M->∀R:List (List Int)->aA->Mh->Prop,(∀dq au M2,I (i+j+1) dq au M2->R dq au M2)->g d τ M fun au M2=>te au M2 fun y M4=>∃k,y=eI k/\ks.length<9/\R (lF ks k) au M4)->
  (∀ks τ M,I (i+ds.length) ks τ M->Q ks M)->qy g zNoIf te ds ks τ M Q
 | [],i,ks,τ,M,Q,h,_,q=>q ks τ M h
 |d::ds,i,ks,τ,M,Q,h,hs,q=>by
          refine hs 0 d ks τ M rfl h (fun dq au M2=>qy g zNoIf te ds dq au M2 Q) fun dq au M2 h2=>?_
          refine Gr I (i:=i+1) h2 (fun j d ks τ M hd hI R hR=>hs (j+1) d ks τ M hd (by rw[show i+(j+1)=i+1+j by omega];exact hI) R fun dq au M2 h3=>hR dq au M2 (by rw[show i+1+j+1=i+(j+1)+1 by omega];exact h3)) fun ks τ M h3=>q ks τ M (by rw[wn,show i+(ds.length+1)=i+1+ds.length by omega];exact h3)
structure lH (Γ:Gz) (β:Bz) (D:ag) (M1:Mh) (H1:Hp) (aT:aA) (M:Mh) (τ:St) (H:Hp) (ks:List (List Int)) (acc:List V):Prop where
 ey:Ey M1 H1 M H
 m:M D=none
 zr:Zr Γ (β.add D) M aT τ H
 at':H D=some (jL β.P β.w D (ks.zip acc))
 hk:ks.length=acc.length
 rs:aJ (β.add D) M H acc (ks.map eI)
 h1:H1 D=none
 h0:Γ.H0 D=none
 nt:D ∉ β.tb
section
variable {Γ:Gz}{β:Bz}{D:ag}{M1 M M2:Mh}{H1 H H2:Hp}{aT uA:aA}{τ au:St}{ks:List (List Int)}{acc:List V}
theorem lH.start (zr:Zr Γ β M1 aT τ H1) (hD:H1 D=none):lH Γ β D M1 H1 aT M1 τ (upd H1 D (jL β.P β.w D [])) [] []:=
 ⟨Ey.refl.over hD,zr.mz.free hD,zr.enter hD rfl,aH,rfl,.nil,hD,zr.ent.gone hD (by
  cases e:Γ.M0 D with
  |none=>rfl
  |some u=>have:=zr.ent.dom D (by rw[e];rfl);rw[zr.mz.free hD]at this;cases this),zr.mz.Dc hD⟩
theorem lH.step (A:lH Γ β D M1 H1 aT M τ H ks acc) (x:Ex (β.add D) M H M2 H2) (z:Zr Γ (β.add D) M2 uA au H2):lH Γ β D M1 H1 uA M2 au H2 ks acc:=
 ⟨A.ey.trans x.toEy,x.new D _ A.m A.at',z,x.get A.m A.at' rfl,A.hk,A.rs.ex x,A.h1,A.h0,A.nt⟩
theorem lH.put (A:lH Γ β D M1 H1 aT M τ H ks acc) {k:List Int}{y:V}(r:Rz (β.add D) M H y (eI k)):∃e7,nN (ks.zip acc) k y=(lF ks k).zip e7/\lH Γ β D M1 H1 aT M τ (upd H D (jL β.P β.w D ((lF ks k).zip e7))) (lF ks k) e7 :=by
 have hD:D∈(β.add D).hid:=ii;have kf:(ks.zip acc).map (·.1)=ks:=List.map_fst_zip (by have:=A.hk;omega)
 unfold nN lF;rw[kf];by_cases z:k∈ks
 ·rw[if_pos z,if_pos z];exact⟨acc,rfl,A.ey.over A.h1,A.m,A.zr.over hD rfl A.m A.nt A.h0,aH,A.hk,⟨A.rs.len,fun i v d a b=>(A.rs.at' i v d a b).over hD⟩,A.h1,A.h0,A.nt⟩
 ·rw[if_neg z,if_neg z];have ez:aJ (β.add D) M H (acc++[y]) ((ks++[k]).map eI) :=by
   rw[mf];exact A.rs.snoc r
  refine⟨acc++[y],by rw[Z2 A.hk];rfl,A.ey.over A.h1,A.m,A.zr.over hD rfl A.m A.nt A.h0,aH,by simp[A.hk],⟨ez.len,fun i v d a b=>(ez.at' i v d a b).over hD⟩,A.h1,A.h0,A.nt⟩
theorem lH.own (A:lH Γ β D M1 H1 aT M τ H ks acc) (m1:Mz β M1 H1):Ex β M1 H1 (aw M D (Gi ks)) H :=by
 have mz:Mz β (aw M D (Gi ks)) (upd H D (jL β.P β.w D (ks.zip acc))):=A.zr.mz.Pq A.m (m1.fz A.h1).2 A.nt rfl ⟨acc,aH,A.hk,jo A.rs⟩;rw[Gf A.at']at mz;exact⟨⟨A.ey.keep,fun a h=>by unfold aw;split;rfl;exact A.ey.dom a h,fun a w m e=>by rw[ai (bt e A.h1)];exact A.ey.new a w m e⟩,mz⟩
end
section
variable {Γ:Gz}{X:Cx}{β:Bz}{g:bP}{tt:ck}{te:aE}{zi:ef}{tn:Nat}{idx:List Nat}
theorem LQ (hP:X.prog=Γ.P) (hw:X.w=Γ.w) {σ:St}{H:Hp}{Q:VK}(h:lE Γ (zSetTC tn idx zi g tt te) σ H Q):BM X tn idx (lI Γ zi) (lG Γ g) (lT Γ tt) (lE Γ te) σ H Q :=by
 obtain⟨β,ρ,M,Q',zr,h,q⟩:=h;refine⟨β,ρ,M,_,zr,h,fun ds M1 H1 J x1 it h1 D hD=>?_⟩
 have gi:=zr.step x1;have eo:∀aj,jL X.prog X.w D aj=jL β.P β.w D aj:=fun aj=>by rw[hP,hw,zr.eP,zr.ew]
 refine⟨fun i m τ H=>m=ds.length - i/\i<=ds.length/\∃aT M ks acc,lH Γ β D M1 H1 aT M τ H ks acc/\qy g tt te (ds.drop i) ks aT M fun ks M2=>∀a,M2 a=none->Q' (.ptr a) (aw M2 a (Gi ks)),⟨_,rfl,ut _,_,_,_,_,by rw[eo];exact .start (gi.block tn idx) hD,h1⟩,?_⟩
 rintro i m τ H ⟨rfl,hi,aT,M,ks,acc,A,h⟩;have q2:=it (β.add D) M H (.add A.h1) A.ey A.zr.mz i;by_cases aM:i<ds.length
 ·refine .inr ⟨(q2.1 aM).1,fun x H' y=>?_⟩
  obtain⟨x2,d,hd,rd⟩:=(q2.1 aM).2 x H' y;have e:ds.drop i=d::ds.drop (i+1) :=by
   rw[Do aM];rw[ap aM]at hd;cases hd;rfl
  rw[e]at h;have A2:=A.step x2 (A.zr.step x2);refine⟨β.add D,d,aT,M,_,A2.zr,rd,h,fun cy M3 je H3 x3 z3 h3=>?_⟩
  have A3:=A2.step x3 z3;refine⟨β.add D,cy,M3,_,z3,h3,fun b M4 H4 x4 h4=>?_⟩
  have A4:=A3.step x4 (z3.step x4);cases b with
  |false=>
   dsimp only at h4 ⊢;rw[if_neg gc]at h4 ⊢;exact⟨ds.length - (i+1),by omega,rfl,aM,cy,M4,ks,acc,A4,h4⟩
  |true=>
   dsimp only at h4 ⊢;rw[if_pos rfl]at h4 ⊢;refine⟨β.add D,cy,M4,_,A4.zr,h4,fun kd M5 kv H5 x5 r5 h5=>?_⟩
   have A5:=A4.step x5 (A4.zr.step x5);obtain⟨k,rfl,hl,h6⟩:=h5;obtain⟨b,us,rfl,_,hb,yM⟩:=cj r5;have:=iz yM;subst this;have each:∀q∈ks.zip acc,TupAt H5 q:=fun q hq=>by
    obtain⟨i,hi⟩:=nw.mp hq;obtain⟨e1,e2⟩:=AC.mp hi;have:=A5.rs.at' i q.2 (eI q.1) e2 (by rw[dL,e1];rfl)
    obtain⟨c,us,ec,_,hc,yM⟩:=cj this;have:=iz yM;subst this;exact⟨c,ec,hc⟩
   obtain⟨e7,e4,A6⟩:=A5.put r5;refine⟨b,ks.zip acc,k,rfl,by rw[eo];exact A5.at',hb,each,by rw[SI];omega,ds.length - (i+1),by omega,rfl,aM,cy,M5,_,e7,?_,h6⟩
   rw[eo,e4];exact A6
 ·have e:i=ds.length :=by omega
  subst e;rw[Nl]at h;exact .inl ⟨q2.2 (cb _),q _ _ _ _ (x1.trans (A.own gi.mz)) (.ptr (by rw[updM_same];rfl)) (h D A.m)⟩
variable {tg elt iter:io}{ifs:List io}{scope:wT}{pos:wv}{N':List ci}
theorem zX (hP:X.prog=Γ.P) (hw:X.w=Γ.w) (hu:X.A.units+64<CS) (hc:X.calm=true) (B:aD X.N X.env.scope scope N' tn idx) (hi:QI Γ X tg iter zi)
  (hg:Blk X N' scope fun Y=>QG Γ Y tg g) (ht:Blk X N' scope fun Y=>ou Γ Y ifs tt) (he:Blk X N' scope fun Y=>QE Γ Y elt te)
  (hs:∀x,zw iter X.env x=pure x :=by intro _;rfl):QE Γ X (.SetComp elt [⟨tg,iter,ifs,0⟩] scope pos) (zSetTC tn idx zi g tt te):=
 (zW hu hc B hi hg ht he hs).imp fun σ H Q h=>LQ hP hw h
end
end L2
namespace L2
open PySem PySem.Spec PyProof.Rows
section
variable {P:jp}{w:lf}{A:sB}{E:al->ba->Prop}{s:ba}{l:ag}{xs:Array (Int×Zj)}
theorem vN {h':i8}(hk:∀b o,b ∉ [s.heap.objs.size]->(s.heap.push {cls:=.type "tuple_iterator",data:=.fields #[.ref l,.int 0 0]}).get? b=some o->h'.get? b=some o) :
  ∀b o,s.heap.get? b=some o->h'.get? b=some o:=fun b o e=>by
 refine hk b o (fun hm=>?_) (br _ e)
 rcases lp.mp hm with e1|hm
 ·exact absurd (e1▸kt e) (DD _)
 ·cases hm
theorem rA {Q:al->ba->Prop}(hl:s.heap.IsTuple l (intItems xs))
  (h:∀fK:ba,fK={s with heap:=s.heap.push {cls:=.type "tuple_iterator",data:=.fields #[.ref l,.int 0 0]}}->
   (fK.heap.IsTupleIter s.heap.objs.size l 0/\fK.heap.IsTuple l (intItems xs))->(∀b∈[s.heap.objs.size,l],b<fK.heap.objs.size)->l≠s.heap.objs.size->Q (.ref s.heap.objs.size) fK) :
  c8 (model P w) A (pyIter (.ref l)) Q E s :=by
 have aM:l<s.heap.objs.size :=by obtain⟨_,e,_⟩:=hl;exact kt e
 refine aaf hl (h _ rfl ⟨⟨_,ij _ rfl,rfl,rfl⟩,hl.push _⟩ (fun b hb=>?_) (l5 aM))
 show b<(s.heap.push _).objs.size;rw[xp];rcases lp.mp hb with rfl|hb
 ·exact AT _
 ·rcases lp.mp hb with rfl|hb
  ·exact xz aM
  ·cases hb
theorem Dw {Q:al->ba->Prop}(hh:A.handled=none) (hl:s.heap.IsTuple l (intItems xs)) (d8:0<xs.size)
  (h:∀v h' tk,(intItems xs)[argBest (fun i j=>decide (numAt xs i > numAt xs j)) (xs.size - 1)]?=some v->(∀b o,s.heap.get? b=some o->h'.get? b=some o)->Q v {s with heap:=h',toks:=tk}) :
  c8 (model P w) A (call (.builtin "max") [.ref l]) Q E s :=by
 refine call_max_walk (rA hl fun fK e st xD P1=>?_)
 subst e;refine⟨_,_,_,_,_,_,_,rfl,aa9.tuple (A:=A.in1) hh _ l P1 (intItems xs),st,xD,by simpa[intItems] using d8,CmpOf.ints_gt (numAt xs) (fun _ _=>aaY),fun v h' tk hP hk=>?_⟩
 exact h v h' tk (by simpa[intItems] using hP) (vN hk)
theorem Dx {Q:al->ba->Prop}(hh:A.handled=none) (hl:s.heap.IsTuple l (intItems xs)) (d8:0<xs.size)
  (h:∀v h' tk,(intItems xs)[argBest (fun i j=>decide (numAt xs i<numAt xs j)) (xs.size - 1)]?=some v->(∀b o,s.heap.get? b=some o->h'.get? b=some o)->Q v {s with heap:=h',toks:=tk}) :
  c8 (model P w) A (call (.builtin "min") [.ref l]) Q E s :=by
 refine call_min_walk (rA hl fun fK e st xD P1=>?_)
 subst e;refine⟨_,_,_,_,_,_,_,rfl,aa9.tuple (A:=A.in1) hh _ l P1 (intItems xs),st,xD,by simpa[intItems] using d8,CmpOf.ints_lt (numAt xs) (fun _ _=>aaY),fun v h' tk hP hk=>?_⟩
 exact h v h' tk (by simpa[intItems] using hP) (vN hk)
end
section
variable {X:Cx}{Γ:Gz}
def P2 (lt:Int->Int->Prop):List V->Hp->VK->Prop:=fun xs H Q=>∃(p:ag) (ns:List Int),xs=[.ref p]/\H p=some (.tup (ns.map V.int))/\0<ns.length/\∀m:Int,m∈ns->(∀a∈ns,lt m a)->Q (.int m) H
theorem vO {pins:List (ag×l9)}{σ:St}{H:Hp}{s:ba}{p:ag}{ns:List Int}(I:Inv X pins σ H s) (hp:H p=some (.tup (ns.map V.int))):∃ys:Array (Int×Zj),s.heap.IsTuple p (intItems ys)/\ys.toList.map (·.1)=ns :=by
 obtain⟨ts,rt,ht,_⟩:=I.tuple (.inl (.inl hp));obtain⟨ys,hy⟩:=(qi rt).allInts.items;refine⟨ys,?_,?_⟩
 ·rw[<- hy];exact ht
 ·rw[<- nums_intItems,<- hy];exact(qi rt).numsOf
theorem Dy (hc:X.calm=true):cR X (.builtin "min") (P2 (·<=·)) :=by
 intro pins s σ H xs us Q I r h;obtain⟨p,ns,rfl,hq,h0,q⟩:=h;obtain⟨u,rfl,rx⟩:=vals1 r;cases rx;obtain⟨ys,hl,en⟩:=vO I hq;have hsz:0<ys.size :=by rw[<- en,bn,kw]at h0;exact h0
 refine Dx (I.ok.hd hc) hl hsz fun v h' tk hv hk=>?_
 obtain⟨t,rfl⟩:=aaY hv;obtain⟨h1,h2⟩:=argBest_lt (numAt ys) (ys.size - 1);refine⟨.int _,H,I.kept (t':=tk) hk,⟨t,rfl⟩,q _ ?_ fun a ha=>?_⟩
 ·rw[<- en,numAt_eq];exact getD_mem (by rw[bn,kw];omega)
 ·rw[<- en]at ha;obtain⟨j,hj,rfl⟩:=mem_getD ha;rw[bn,kw]at hj;rw[<- numAt_eq];exact h2 j (by omega)
theorem Dz (hc:X.calm=true):cR X (.builtin "max") (P2 (· ≥ ·)) :=by
 intro pins s σ H xs us Q I r h;obtain⟨p,ns,rfl,hq,h0,q⟩:=h;obtain⟨u,rfl,rx⟩:=vals1 r;cases rx;obtain⟨ys,hl,en⟩:=vO I hq;have hsz:0<ys.size :=by rw[<- en,bn,kw]at h0;exact h0
 refine Dw (I.ok.hd hc) hl hsz fun v h' tk hv hk=>?_
 obtain⟨t,rfl⟩:=aaY hv;obtain⟨h1,h2⟩:=argBest_gt (numAt ys) (ys.size - 1);refine⟨.int _,H,I.kept (t':=tk) hk,⟨t,rfl⟩,q _ ?_ fun a ha=>?_⟩
 ·rw[<- en,numAt_eq];exact getD_mem (by rw[bn,kw];omega)
 ·rw[<- en]at ha;obtain⟨j,hj,rfl⟩:=mem_getD ha;rw[bn,kw]at hj;rw[<- numAt_eq];exact h2 j (by omega)
def zMM (lt:Int->Int->Prop) (d:Dv) (M:Mh) (Q:ZK):Prop:=∃ns:List Int,d=.tup (ns.map .int)/\0<ns.length/\∀m:Int,m∈ns->(∀a∈ns,lt m a)->Q (.int m) M
theorem P4 {lt:Int->Int->Prop}{nm:String}(h:cR X (.builtin nm) (P2 lt)):fQ Γ X (.builtin nm) (z1 (zMM lt)):=⟨_,h,fun β xs ds M H Q Q' _ _ _ m rs z q=>by
 unfold z1 at z;split at z
 ·rename_i d;obtain⟨x,rfl,r⟩:=de rs;obtain⟨ns,rfl,h0,z3⟩:=z;obtain⟨c,us,rfl,_,hc,yM⟩:=cj r;have:=iz yM;subst this;exact⟨c,ns,rfl,hc,h0,fun k h1 h2=>q _ _ _ _ (.refl m) (.int _) (z3 k h1 h2)⟩
 ·exact z.elim⟩
theorem LR (hc:X.calm=true):fQ Γ X (.builtin "min") (z1 (zMM (·<=·))):=P4 (Dy hc)
theorem LU (hc:X.calm=true):fQ Γ X (.builtin "max") (z1 (zMM (· ≥ ·))):=P4 (Dz hc)
end
end L2
namespace L2
open PySem PySem.Spec PyProof.Rows Builtin.SmallTypes AutoSeq1
section
variable {prog:jp}{w:lf}{A:sB}{E:al->ba->Prop}{s:ba}{z TI TO i1 i2 l1 l2:ag}{n1 n2:Nat}{xs ys:Array al}{x y a b:al}{k1 k2:Bool}{f0:al}{bb:Bool}
abbrev gk (h:i8) (z TI TO:ag) (f0:al) (b:Bool):Prop:=h.get? z=some {cls:=.type "zip",dict:=none,data:=.fields #[f0,.bool b,.bool false,.ref TI,.ref TO],slots:=#[]}
def pI (f0:al):Prop:=f0=.none\/∃T:Int,f0=rawInt T
theorem IM {c:ag}{Q:Option l9->ba->Prop}(h:Q (s.heap.get? c) s):c8 (model prog w) A (loadIfAlive c) Q E s:=fun Γ p W4=>by
 unfold loadIfAlive;rw[YS.wp_loadIfAlive];exact(bi (E:=E) h) Γ p W4
theorem BO {Q:Bool->ba->Prop}(hz:gk s.heap z TI TO f0 bb) (hf:pI f0) (h1:Q true s) (h2:∀h',gk h' z TI TO f0 true->(∀c o,c≠z->s.heap.get? c=some o->h'.get? c=some o)->h'.objs.size=s.heap.objs.size->Q false {s with heap:=h'}) :
  c8 (model prog w) A (ownedTupleIsFree (.ref z)) Q E s :=by
 unfold ownedTupleIsFree;refine ac (m:=field (.ref z) 0) (Mn hz rfl (x:=f0) rfl ?_);rcases hf with rfl|⟨T,rfl⟩
 ·exact bi h1
 ·show c8 _ _ (loadIfAlive T.toNat>>=_) _ _ _;refine ac (IM ?_);cases s.heap.get? T.toNat with
  |none=>exact bi h1
  |some o=>
   show c8 _ _ (field (.ref z) 1>>=_) _ _ _;refine ac (m:=field (.ref z) 1) (Mn hz rfl (x:=.bool bb) rfl ?_);cases bb with
   |true=>exact bi (h2 s.heap hz (fun _ _ _ e=>e) rfl)
   |false=>
    show c8 _ _ (setField (.ref z) 1 (.bool true)>>=_) _ _ _;exact ac (RS hz (by simp) fun h' z1 sb=>bi (h2 h' z1 (fun c o n e=>sb.extBut _ _ n e) sb.1))
theorem LV {Q:al->ba->Prop}(D:aa3 z TI TO i1 i2 l1 l2) (hz:gk s.heap z TI TO f0 bb) (hf:pI f0) (iY:Lo s.heap TI (.ref i1) (.ref i2)) (iZ:Lo s.heap TO a b)
  (h1:SqIt k1 s.heap i1 l1 n1) (h2:SqIt k2 s.heap i2 l2 n2) (q1:dy k1 s.heap l1 xs) (q2:dy k2 s.heap l2 ys) (hx:xs[n1]?=some x) (hy:ys[n2]?=some y)
  (hQ:∀h' f0 bb a b,pI f0->gk h' z TI TO f0 bb->Lo h' TO a b->SqIt k1 h' i1 l1 (n1+1)->SqIt k2 h' i2 l2 (n2+1)->Lo h' s.heap.objs.size x y->
   (∀c o,c≠z->c≠TO->c≠i1->c≠i2->s.heap.get? c=some o->h'.get? c=some o)->Q (.ref s.heap.objs.size) {s with heap:=h'}) :
  c8 (model prog w) A (wl.«zip.__next__» ⟨[.ref z],[]⟩) (fun fin s'=>∃v,fin=.done (.ret v)/\Q v s') E s :=by
 refine ac (m:=field (.ref z) 2) (Mn hz rfl (x:=.bool false) rfl (ac (m:=field (.ref z) 3) (Mn hz rfl (x:=.ref TI) rfl (ac (m:=seqItems? (.ref TI)) (Gc iY rfl ?_)))));refine ac (m:=ownedTupleIsFree (.ref z)) (BO hz hf ?_ fun g0 z0 k0 TY=>?_)
 ·rw[if_pos rfl];refine ac (GS (ac (m:=field (.ref z) 4) (Mn hz rfl (x:=.ref TO) rfl (ac (m:=setField (.ref z) 0 .ellipsis) (RS hz (by simp) fun g1 (z1:gk g1 z TI TO .ellipsis bb) jV=>?_)))))
  refine ac ?_;simp only[List.zipIdx_cons,List.zipIdx_nil,Yn,Y7];refine ac (ac (aar ?_));refine ac (m:=nextOf (.ref i1)) (kG (h1.at fun o e=>jV.extBut _ o D.i1z e) (q1.at fun o e=>jV.extBut _ o D.l1z e) hx fun g2 yP gm=>bi ?_)
  have o2:Lo g2 TO a b:=gm.extBut _ _ D.TOi1 (jV.extBut _ _ D.TOz iZ);refine ac (Gc o2 rfl (ac (Z4 o2 fun g3 (o3:Lo g3 TO x b) pJ=>ac (T0 (bi ?_)))))
  refine ac (ac (aar ?_));refine ac (m:=nextOf (.ref i2)) (kG (h2.at fun o e=>pJ.extBut _ o D.TOi2.symm (gm.extBut _ o D.i12.symm (jV.extBut _ o D.i2z e))) (q2.at fun o e=>pJ.extBut _ o D.l2TO (gm.extBut _ o D.l2i1 (jV.extBut _ o D.l2z e))) hy fun g4 P5 pK=>bi ?_)
  have o4:Lo g4 TO x b:=pK.extBut _ _ D.TOi2 o3;refine ac (Gc o4 rfl (ac (Z4 o4 fun g5 (o5:Lo g5 TO x y) Gs=>ac (T0 (bi (bi ?_))))))
  refine ac (Gc o5 rfl (ac (Y6 ?_)));have sz:g5.objs.size=s.heap.objs.size :=by rw[Gs.1,pK.1,pJ.1,gm.1,jV.1]
  have z5:gk g5 z TI TO .ellipsis bb:=Gs.extBut _ _ D.TOz.symm (pK.extBut _ _ D.i2z.symm (pJ.extBut _ _ D.TOz.symm (gm.extBut _ _ D.i1z.symm z1)));have k5:∀c o,c≠z->c≠TO->c≠i1->c≠i2->s.heap.get? c=some o->g5.get? c=some o:=fun c o c1 c2 c3 c4 e=>Gs.extBut _ _ c2 (pK.extBut _ _ c4 (pJ.extBut _ _ c2 (gm.extBut _ _ c3 (jV.extBut _ _ c1 e))))
  have zl:z<g5.objs.size:=kt z5;refine ac (m:=ownedTupleHandOut (.ref z) _) ?_;unfold ownedTupleHandOut;have z6:gk (g5.push {cls:=.type "tuple",data:=.seq #[x,y]}) z TI TO .ellipsis bb:=br _ z5
  refine ac (RS z6 (by simp) fun g7 (z7:gk g7 z TI TO (rawInt g5.objs.size) bb) TZ=>?_)
  refine RS z7 (by simp) fun g8 (z8:gk g8 z TI TO (rawInt g5.objs.size) false) T4=>?_
  have up:∀c o,c≠z->g5.get? c=some o->g8.get? c=some o:=fun c o c1 e=>T4.extBut _ _ c1 (TZ.extBut _ _ c1 (br _ e))
  have t8:Lo g8 g5.objs.size x y:=T4.extBut _ _ (Yy zl) (TZ.extBut _ _ (Yy zl) (ij _ rfl));rw[sz]at z8 t8;refine bi ⟨_,rfl,?_⟩;show Q (.ref g5.objs.size) _;rw[sz];exact hQ g8 _ _ _ _ (.inr ⟨_,rfl⟩) z8 (up _ _ D.TOz o5) (yP.at fun o e=>up _ o D.i1z (Gs.extBut _ o D.TOi1.symm (pK.extBut _ o D.i12 (pJ.extBut _ o D.TOi1.symm e)))) (P5.at fun o e=>up _ o D.i2z (Gs.extBut _ o D.TOi2.symm e)) t8
   fun c o c1 c2 c3 c4 e=>up c o c1 (k5 c o c1 c2 c3 c4 e)
 ·rw[if_neg (by decide)]
  refine ac ?_;simp only[List.forIn_toArray,Yn,Y7];refine ac (ac (wS ?_));refine ac (m:=nextOf (.ref i1)) (kG (h1.at fun o e=>k0 _ o D.i1z e) (q1.at fun o e=>k0 _ o D.l1z e) hx fun g2 yP gm=>bi ?_)
  refine bi ?_;refine ac (ac (wS ?_));refine ac (m:=nextOf (.ref i2)) (kG (h2.at fun o e=>gm.extBut _ o D.i12.symm (k0 _ o D.i2z e)) (q2.at fun o e=>gm.extBut _ o D.l2i1 (k0 _ o D.l2z e)) hy fun g4 P5 pK=>bi ?_)
  refine bi (bi ?_);refine ac (Y6 (hsz:=(by decide:2<=sizeLine)) ?_)
  have sz:g4.objs.size=s.heap.objs.size :=by rw[pK.1,gm.1,TY]
  have zl:s.heap.objs.size<=g4.objs.size :=by omega
  have p1:∀{c o},g4.get? c=some o->(g4.push {cls:=.type "tuple",data:=.seq #[x,y]}).get? c=some o:=fun e=>br _ e
  have t8:Lo (g4.push {cls:=.type "tuple",data:=.seq #[x,y]}) g4.objs.size x y:=ij _ rfl
  refine bi ⟨_,rfl,?_⟩;show Q (.ref g4.objs.size) _;rw[sz]at t8 ⊢;exact hQ _ _ _ _ _ hf (p1 (pK.extBut _ _ D.i2z.symm (gm.extBut _ _ D.i1z.symm z0))) (p1 (pK.extBut _ _ D.TOi2 (gm.extBut _ _ D.TOi1 (k0 _ _ D.TOz iZ)))) (yP.at fun o e=>p1 (pK.extBut _ o D.i12 e)) (P5.at fun o e=>p1 e) t8
   fun c o c1 c2 c3 c4 e=>p1 (pK.extBut _ _ c4 (gm.extBut _ _ c3 (k0 c o c1 e)))
theorem P6 {Q:PySem.Fin->ba->Prop}(hh:A.handled=none) (D:aa3 z TI TO i1 i2 l1 l2) (hz:gk s.heap z TI TO f0 bb) (hf:pI f0) (iY:Lo s.heap TI (.ref i1) (.ref i2)) (iZ:Lo s.heap TO a b)
  (h1:SqIt k1 s.heap i1 l1 n1) (h2:SqIt k2 s.heap i2 l2 n2) (q1:dy k1 s.heap l1 xs) (q2:dy k2 s.heap l2 ys) (rK:xs[n1]?=none\/ys[n2]?=none)
  (hE:∀h' e,(∀c o,c≠z->c≠TO->c≠i1->c≠i2->s.heap.get? c=some o->h'.get? c=some o)->(∃o,h'.get? e=some o/\o.cls=.type "StopIteration")->E (.ref e) {s with heap:=h'}) :
  c8 (model prog w) A (wl.«zip.__next__» ⟨[.ref z],[]⟩) Q E s :=by
 refine ac (m:=field (.ref z) 2) (Mn hz rfl (x:=.bool false) rfl (ac (m:=field (.ref z) 3) (Mn hz rfl (x:=.ref TI) rfl (ac (m:=seqItems? (.ref TI)) (Gc iY rfl ?_)))));refine ac (m:=ownedTupleIsFree (.ref z)) (BO hz hf ?_ fun g0 z0 k0 TY=>?_)
 ·rw[if_pos rfl];refine ac (GS (ac (m:=field (.ref z) 4) (Mn hz rfl (x:=.ref TO) rfl (ac (m:=setField (.ref z) 0 .ellipsis) (RS hz (by simp) fun g1 (z1:gk g1 z TI TO .ellipsis bb) jV=>?_)))))
  refine ac ?_;simp only[List.zipIdx_cons,List.zipIdx_nil,Yn,Y7];refine ac (ac (aar ?_));have stop:∀(g:i8) (e:ag),gk g z TI TO .ellipsis bb->(∃o,g.get? e=some o/\o.cls=.type "StopIteration")->(∀c o,c≠z->c≠TO->c≠i1->c≠i2->s.heap.get? c=some o->g.get? c=some o)->
    c8 (model prog w) A (setField (.ref z) 0 .none) (fun _ s'=>E (.ref e) s') E {s with heap:=g}:=fun g e zg ⟨o,ho,hc⟩ kk=>by
   have ne:e≠z:=fun q=>by subst q;rw[zg]at ho;cases ho;simp at hc
   exact RS zg (by simp) fun g' _ T5=>hE g' e (fun c o c1 c2 c3 c4 q=>T5.extBut _ _ c1 (kk c o c1 c2 c3 c4 q)) ⟨o,T5.extBut _ _ ne ho,hc⟩
  cases hx:xs[n1]? with
  |none=>
   refine ac (m:=nextOf (.ref i1)) (qk hh (h1.at fun o e=>jV.extBut _ o D.i1z e) (q1.at fun o e=>jV.extBut _ o D.l1z e) hx fun g2 e eb he=>?_)
   exact stop g2 e (eb _ _ D.i1z.symm z1) he fun c o c1 c2 c3 c4 q=>eb _ _ c3 (jV.extBut _ _ c1 q)
  |some x=>
   have hy:ys[n2]?=none:=rK.elim (fun q=>by rw[hx]at q;cases q) id
   refine ac (m:=nextOf (.ref i1)) (kG (h1.at fun o e=>jV.extBut _ o D.i1z e) (q1.at fun o e=>jV.extBut _ o D.l1z e) hx fun g2 yP gm=>bi ?_)
   have o2:Lo g2 TO a b:=gm.extBut _ _ D.TOi1 (jV.extBut _ _ D.TOz iZ);refine ac (Gc o2 rfl (ac (Z4 o2 fun g3 (o3:Lo g3 TO x b) pJ=>ac (T0 (bi ?_)))))
   refine ac (ac (aar ?_));refine ac (m:=nextOf (.ref i2)) (qk hh (h2.at fun o e=>pJ.extBut _ o D.TOi2.symm (gm.extBut _ o D.i12.symm (jV.extBut _ o D.i2z e))) (q2.at fun o e=>pJ.extBut _ o D.l2TO (gm.extBut _ o D.l2i1 (jV.extBut _ o D.l2z e))) hy fun g4 e eb he=>?_)
   exact stop g4 e (eb _ _ D.i2z.symm (pJ.extBut _ _ D.TOz.symm (gm.extBut _ _ D.i1z.symm z1))) he fun c o c1 c2 c3 c4 q=>eb _ _ c4 (pJ.extBut _ _ c2 (gm.extBut _ _ c3 (jV.extBut _ _ c1 q)))
 ·rw[if_neg (by decide)]
  refine ac ?_;simp only[List.forIn_toArray,Yn,Y7];refine ac (ac (wS ?_));cases hx:xs[n1]? with
  |none=>
   refine ac (m:=nextOf (.ref i1)) (qk hh (h1.at fun o e=>k0 _ o D.i1z e) (q1.at fun o e=>k0 _ o D.l1z e) hx fun g2 e eb he=>?_)
   exact hE g2 e (fun c o c1 c2 c3 c4 q=>eb _ _ c3 (k0 c o c1 q)) he
  |some x=>
   have hy:ys[n2]?=none:=rK.elim (fun q=>by rw[hx]at q;cases q) id
   refine ac (m:=nextOf (.ref i1)) (kG (h1.at fun o e=>k0 _ o D.i1z e) (q1.at fun o e=>k0 _ o D.l1z e) hx fun g2 yP gm=>bi ?_)
   refine bi ?_;refine ac (ac (wS ?_));refine ac (m:=nextOf (.ref i2)) (qk hh (h2.at fun o e=>gm.extBut _ o D.i12.symm (k0 _ o D.i2z e)) (q2.at fun o e=>gm.extBut _ o D.l2i1 (k0 _ o D.l2z e)) hy fun g4 e eb he=>?_)
   exact hE g4 e (fun c o c1 c2 c3 c4 q=>eb _ _ c4 (gm.extBut _ _ c3 (k0 c o c1 q))) he
theorem LW {Q:Option al->ba->Prop}(D:aa3 z TI TO i1 i2 l1 l2) (hz:gk s.heap z TI TO f0 bb) (hf:pI f0) (iY:Lo s.heap TI (.ref i1) (.ref i2)) (iZ:Lo s.heap TO a b)
  (h1:SqIt k1 s.heap i1 l1 n1) (h2:SqIt k2 s.heap i2 l2 n2) (q1:dy k1 s.heap l1 xs) (q2:dy k2 s.heap l2 ys) (hx:xs[n1]?=some x) (hy:ys[n2]?=some y)
  (hQ:∀h' f0 bb a b,pI f0->gk h' z TI TO f0 bb->Lo h' TO a b->SqIt k1 h' i1 l1 (n1+1)->SqIt k2 h' i2 l2 (n2+1)->Lo h' s.heap.objs.size x y->
   (∀c o,c≠z->c≠TO->c≠i1->c≠i2->s.heap.get? c=some o->h'.get? c=some o)->Q (some (.ref s.heap.objs.size)) {s with heap:=h'}):c8 (model prog w) A (pyNext (.ref z)) Q E s :=by
 have hT:s.TypeIs (.ref z) "zip" := ⟨_,hz,rfl⟩
 have sl:=aaW;unfold pyNext;exact ac (YL (FF (name:=AN "__next__") hT sl (zn sl hT F.entry_zip_next (LV D hz hf iY iZ h1 h2 q1 q2 hx hy fun h' f1 b1 a1 c1 b0 b2 b3 b4 b5 b6 b7=>bi (hQ h' f1 b1 a1 c1 b0 b2 b3 b4 b5 b6 b7)) (F.args_zip_next_1 _))))
theorem LX {Q:Option al->ba->Prop}(hh:A.handled=none) (D:aa3 z TI TO i1 i2 l1 l2) (hz:gk s.heap z TI TO f0 bb) (hf:pI f0) (iY:Lo s.heap TI (.ref i1) (.ref i2)) (iZ:Lo s.heap TO a b)
  (h1:SqIt k1 s.heap i1 l1 n1) (h2:SqIt k2 s.heap i2 l2 n2) (q1:dy k1 s.heap l1 xs) (q2:dy k2 s.heap l2 ys) (rK:xs[n1]?=none\/ys[n2]?=none)
  (hQ:∀h',(∀c o,c≠z->c≠TO->c≠i1->c≠i2->s.heap.get? c=some o->h'.get? c=some o)->Q none {s with heap:=h'}):c8 (model prog w) A (pyNext (.ref z)) Q E s :=by
 have hT:s.TypeIs (.ref z) "zip" := ⟨_,hz,rfl⟩
 have sl:=aaW;unfold pyNext;refine ac (YL (FF (name:=AN "__next__") hT sl (zn sl hT F.entry_zip_next (P6 hh D hz hf iY iZ h1 h2 q1 q2 rK fun h' e kk ⟨o,ho,hc⟩=>?_) (F.args_zip_next_1 _))))
 exact ac (aaK (T := "StopIteration") (b:=true) ⟨o,ho,hc⟩ isSubtype_stop (bi (hQ _ kk)))
theorem tX {Q:al->ba->Prop}(hz:gk s.heap z TI TO f0 bb) (h:Q (.ref z) s):c8 (model prog w) A (pyIter (.ref z)) Q E s :=by
 have hT:s.TypeIs (.ref z) "zip" := ⟨_,hz,rfl⟩
 refine Zf hT F.slot_zip_iter (zn F.slot_zip_iter hT F.entry_zip_iter ?_ (F.args_zip_iter_1 _));show c8 _ _ (ret (.ref z)) _ _ s;exact bi ⟨_,rfl,"zip",_,hT,aaW.lookup,h⟩
end
theorem Gu {P:jp}{w:lf}{K:bv}{nm:ci}{pos:wv}(k1 k2:Bool) (z TI TO i1 i2 l1 l2:ag) (D:aa3 z TI TO i1 i2 l1 l2) :
  Turn P w K (.Name nm pos) (JO k1 k2 K l1 l2) [z,TI,TO,i1,i2] z (fun i h=>(∃f0 bb,pI f0/\gk h z TI TO f0 bb)/\Lo h TI (.ref i1) (.ref i2)/\(∃a b,Lo h TO a b)/\SqIt k1 h i1 l1 i/\SqIt k2 h i2 l2 i) where
 mem :=by simp
 obj:=fun i h st b hb=>by
  obtain⟨⟨f0,bb,BP,hz⟩,iY,⟨a,c,iZ⟩,h1,h2⟩:=st;simp only[lp,EO,or_false]at hb;rcases hb with rfl|rfl|rfl|rfl|rfl
  ·exact⟨_,hz,fun v q=>nomatch q⟩
  ·exact⟨_,iY,fun v q=>nomatch q⟩
  ·exact⟨_,iZ,fun v q=>nomatch q⟩
  ·obtain⟨o,ho,vs,hd⟩:=h1.obj;exact⟨o,ho,fun v q=>by rw[hd]at q;cases q⟩
  ·obtain⟨o,ho,vs,hd⟩:=h2.obj;exact⟨o,ho,fun v q=>by rw[hd]at q;cases q⟩
 keep:=fun i h h' st q=>by
  obtain⟨⟨f0,bb,BP,hz⟩,iY,⟨a,c,iZ⟩,h1,h2⟩:=st;exact⟨⟨f0,bb,BP,q z (by simp) _ hz⟩,q TI (by simp) _ iY,⟨a,c,q TO (by simp) _ iZ⟩,h1.at fun o ho=>q i1 (by simp) o ho,h2.at fun o ho=>q i2 (by simp) o ho⟩
 item :=by
  intro X hP hw hK hc i pins s σ H E I hf st hg;subst hP hw hK;obtain⟨⟨f0,bb,BP,hz⟩,iY,⟨a,c,iZ⟩,h1,h2⟩:=st;obtain⟨xs,ys,x,y,BQ,BR,hx,hy⟩:=hg;obtain⟨P7,Km,p1⟩:=I.sq BQ;obtain⟨u1,Of,W5⟩:=Km.get hx;obtain⟨iP,qW,p2⟩:=I.sq BR;obtain⟨u2,W6,W7⟩:=qW.get hy;refine LW D hz BP iY iZ h1 h2 p1 p2 (x:=u1) (y:=u2) (by simpa using Of) (by simpa using W6) fun g1 f1 b1 a1 c1 W8 zo W9 Xa yP t1 kk=>?_
  refine⟨_,rfl,bi ?_⟩;have I2:Inv X pins σ H {s with heap:=g1}:=I.Bf (t':=s.toks) (ch:=[z,TO,i1,i2]) (fun b o hb q=>by
   simp only[lp,EO,or_false,not_or]at hb;exact kk b o hb.1 hb.2.1 hb.2.2.1 hb.2.2.2 q) fun b hb=>hf b (by simp at hb ⊢;rcases hb with h|h|h|h<;>simp[h])
  have hn:H s.heap.objs.size=none:=I.hok.fresh (cb _);refine⟨.ref s.heap.objs.size,_,Inv.pair (s:=s) (tk0:=s.toks) (tk:=s.toks) I (cb _) I2 t1 W5 W7,rfl,⟨_,x,y,hn,rfl,rfl,fun zs hs=>by rw[I.Fo hs BQ];exact hx,fun zs hs=>by rw[I.Fo hs BR];exact hy⟩,
   ⟨⟨f1,b1,W8,zo⟩,kk _ _ D.TIz D.TITO D.TIi1 D.TIi2 iY,⟨a1,c1,W9⟩,Xa,yP⟩,fun b hb=>?_⟩
  have l:b≠s.heap.objs.size :=by
   have ex:∃o,s.heap.get? b=some o :=by
    simp only[lp,EO,or_false]at hb;rcases hb with rfl|rfl|rfl|rfl|rfl
    ·exact⟨_,hz⟩
    ·exact⟨_,iY⟩
    ·exact⟨_,iZ⟩
    ·obtain⟨o,ho,_⟩:=h1.obj;exact⟨o,ho⟩
    ·obtain⟨o,ho,_⟩:=h2.obj;exact⟨o,ho⟩
   obtain⟨o,ho⟩:=ex;exact l5 (kt ho)
  rw[ao l];exact(hf b hb).1
 done :=by
  intro X hP hw hK hc i pins s σ H E I hf st hg;subst hP hw hK;obtain⟨⟨f0,bb,BP,hz⟩,iY,⟨a,c,iZ⟩,h1,h2⟩:=st;obtain⟨xs,ys,BQ,BR,hx⟩:=hg;obtain⟨P7,Km,p1⟩:=I.sq BQ;obtain⟨iP,qW,p2⟩:=I.sq BR;have Bb:=Km.length;have qI:=qW.length;exact LX (I.ok.hd hc) D hz BP iY iZ h1 h2 p1 p2 (by rcases hx with h|h;exact .inl (by simp;omega);exact .inr (by simp;omega)) fun g1 kk=>⟨rfl,I.Bf (t':=s.toks) (ch:=[z,TO,i1,i2]) (fun b o hb q=>by
   simp only[lp,EO,or_false,not_or]at hb;exact kk b o hb.1 hb.2.1 hb.2.2.1 hb.2.2.2 q) fun b hb=>hf b (by simp at hb ⊢;rcases hb with h|h|h|h<;>simp[h])⟩
 self:=fun _ _ _ _ _ st h=>by obtain⟨⟨f0,bb,_,hz⟩,_⟩:=st;exact tX hz h
section
variable {X:Cx}{l1 l2:io}{t1 t2:TE}{nm:ci}{tp p pos:wv}
theorem LY (k1 k2:Bool) {K:bv}(hK:X.K=K) (hg:Gl X "zip") (hm:X.mg "zip" = none) (h1:PE X l1 t1) (h2:PE X l2 t2) (hs:lw [l1,l2] X.env=(false,eval l1 X.env)::lw [l2] X.env :=by rfl) (oj:lw [l2] X.env=[(false,eval l2 X.env)] :=by rfl) :
  PI X (.Name nm tp) (.Call (.Name "zip" p) [l1,l2] [] pos) (U3 k1 k2 K t1 t2) :=by
 subst hK;intro pins s σ H R I h;refine Ll (fY I hg hm Ol ?_);refine IF ?_ hs (by rw[oj];rfl)
 rw[hs,oj];refine KM (thn (h1 pins s σ H _ I h) fun v s1 ⟨x,H1,I1,r1,q1⟩=>KM (thn (h2 pins s1 σ H1 _ I1 q1) fun u s2 ⟨y,H2,I2,r2,q2⟩=>Os ?_))
 obtain⟨a1,a2,rfl,rfl,⟨xs,BQ⟩,⟨ys,BR⟩,q⟩:=q2;cases (show v=ss a1 from r1);cases (show u=ss a2 from r2);obtain⟨P7,Km,T6⟩:=I2.sq BQ;obtain⟨iP,qW,T7⟩:=I2.sq BR;refine Lc T6 T7 fun h' hz iY iZ i1 i2 kk=>?_
 refine wpAny_pyIter_zip hz ?_;have I3:Inv X pins σ H2 {s2 with heap:=h'}:=I2.kept (t':=s2.toks) kk
 have Xb:a1<s2.heap.objs.size:=let ⟨o,n,ho,_⟩:=T6.obj;kt ho;have Xc:a2<s2.heap.objs.size:=let ⟨o,n,ho,_⟩:=T7.obj;kt ho;refine⟨_,[s2.heap.objs.size+4,s2.heap.objs.size+2,s2.heap.objs.size+3,s2.heap.objs.size,s2.heap.objs.size+1],_,JO k1 k2 X.K a1 a2,H2,rfl,I3,Gu k1 k2 _ _ _ _ _ a1 a2 (zipApart_new Xb Xc),⟨⟨_,_,.inl rfl,hz⟩,iY,⟨_,_,iZ⟩,i1,i2⟩,fun b hb=>?_,q⟩
 have ge:s2.heap.objs.size<=b :=by
  simp only[lp,EO,or_false]at hb;rcases hb with rfl|rfl|rfl|rfl|rfl
  ·exact YG _ _
  ·exact YG _ _
  ·exact YG _ _
  ·exact cb _
  ·exact YG _ _
 exact I2.jZ ge (I2.hok.fresh ge)
end
section
variable {Γ:Gz}{X:Cx}{K:bv}{l1 l2:io}{p1 p2:aE}{nm:ci}{tp p pos:wv}
theorem LZ (k1 k2:Bool) (hK:X.K=K) (hg:Gl X "zip") (hm:X.mg "zip" = none) (h1:QE Γ X l1 p1) (h2:QE Γ X l2 p2) (hs:lw [l1,l2] X.env=(false,eval l1 X.env)::lw [l2] X.env :=by rfl) (oj:lw [l2] X.env=[(false,eval l2 X.env)] :=by rfl) :
  QI Γ X (.Name nm tp) (.Call (.Name "zip" p) [l1,l2] [] pos) (ziZip k1 k2 p1 p2):=(LY k1 k2 hK hg hm h1 h2 hs oj).imp fun σ H R ⟨β,ρ,M,R',zr,h,q⟩=>⟨β,ρ,M,_,zr,h,fun d M1 v H1 x1 r1 h1=>⟨β,ρ,M1,_,zr.step x1,h1,fun e M2 u H2 x2 r2 h2=>by
 obtain⟨a,vs,ds,rfl,h3,rs,s1⟩:=BA (K:=K) (r1.ex x2) h2;obtain⟨b,us,es,rfl,h4,ez,s2⟩:=BA (K:=K) r2 h3;exact⟨a,b,rfl,rfl,⟨vs,s1 _ _ .refl⟩,⟨us,s2 _ _ .refl⟩,q _ _ _ _ (x1.trans x2) (FX rs ez fun M' H' x=>HV (s1 _ _ x) (s2 _ _ x)) h4⟩⟩⟩
end
end L2
open PySem L2 PyProof.Rows
local macro_rules | `(tactic| simp! only[$xs,*] $[$l]?)=>`(tactic| simp only[zVar,zC,zOp,zII,zIC,zEq,zNe,scalZ,zIsN,isNonD,zSS,zTest,zBool,zChain,zOr,zNot,zAndV,zOrV,zNotV,zIfE,zNil,zCons,zTup,zLst,zLstP,zCB,z1,zLenD,z2I,zAbs,zListP,zTuple,zSorted,intsM,itemsM,zIsInst,isD,zBM,tyZ,zAppend,zExtend,zPop,zPopAt,zIndexS,zSetI,zgSub,zNext,zSeq,zDrop,zRet,zIfS,zgName,zAsg,zFor,zForM,zComp,zCompP,zAll,zSetC,zBlock,zCall,zRaise,zstart,zEndsOf,ziTup,ziLst,ziStr,ziRng1,ziRng2,ziEnumK,ziZip,seqK,zoNone,zoSome,zSl,zSlS,zIx,zRangeL,zRangeP,zNeg,zNoIf,zInI,zAllB,zGetR,zDIn,zMGet,lookD,nowK,keyD,zDNewT,zDisp1K,zDisp1T,zDPut,zIxS,boolsD,zRepP,zSetDef,zAny,zBMD,tyD,zRev,zSortTS,zMaxG,zSetTC,zMM,WJ,FM,mo,Wp,ID,Zy,wn,NO,xb,YQ,Y3,Y4,YI,aas,aat,Sc,WI,if_true,if_false,i4,Na,YC,true_and,and_true,beq_self_eq_true,Zz,zLoop,bn,IT,updM_same,updM_updM,Ix,Op,xL,rangeD_len,pairsD_len,numD_len,Re,atI_zero,decide_true,decide_false,ZA,bne_self_eq_false,$xs,*] $[$l]?)
local macro_rules | `(tactic| dsimp! only[$xs,*] $[$l]?)=>`(tactic| simp only[zVar,zC,zOp,zII,zIC,zEq,zNe,scalZ,zIsN,isNonD,zSS,zTest,zBool,zChain,zOr,zNot,zAndV,zOrV,zNotV,zIfE,zNil,zCons,zTup,zLst,zLstP,zCB,z1,zLenD,z2I,zAbs,zListP,zTuple,zSorted,intsM,itemsM,zIsInst,isD,zBM,tyZ,zAppend,zExtend,zPop,zPopAt,zIndexS,zSetI,zgSub,zNext,zSeq,zDrop,zRet,zIfS,zgName,zAsg,zFor,zForM,zComp,zCompP,zAll,zSetC,zBlock,zCall,zRaise,zstart,zEndsOf,ziTup,ziLst,ziStr,ziRng1,ziRng2,ziEnumK,ziZip,seqK,zoNone,zoSome,zSl,zSlS,zIx,zRangeL,zRangeP,zNeg,zNoIf,zInI,zAllB,zGetR,zDIn,zMGet,lookD,nowK,keyD,zDNewT,zDisp1K,zDisp1T,zDPut,zIxS,boolsD,zRepP,zSetDef,zAny,zBMD,tyD,zRev,zSortTS,zMaxG,zSetTC,zMM,WJ,FM,mo,Wp,ID,Zy,wn,NO,xb,YQ,Y3,Y4,YI,aas,aat,Sc,WI,if_true,if_false,i4,Na,YC,true_and,and_true,beq_self_eq_true,Zz,bn,IT,updM_same,updM_updM,Ix,Op,xL,rangeD_len,pairsD_len,numD_len,Re,atI_zero,decide_true,decide_false,ZA,bne_self_eq_false,$xs,*] $[$l]?)
namespace My
open PySem L2 PyProof.Rows
def top (i:Nat):wE:=PySem.Challenge.pw_roadcall_k48_whole_top_pairs_are_stable.main.body.getD i (.Pass ⟨0,0,0,0⟩)
abbrev gD:wE:=top 5
abbrev dN:wE:=top 6
abbrev lJ:wE:=top 10
abbrev lK:wE:=top 11
abbrev i5:wE:=top 12
abbrev ko:wE:=top 13
abbrev my:wE:=top 14
abbrev jC:wE:=top 15
abbrev kr:wE:=top 17
abbrev i6:wE:=top 19
abbrev fu:wE:=top 20
abbrev jD:wE:=top 21
abbrev qz:wE:=top 22
abbrev dD:wE:=top 23
abbrev ky:wE:=top 25
abbrev fB:wE:=top 26
abbrev gp:wE:=top 27
abbrev fc:wE:=top 28
abbrev gq:wE:=top 29
abbrev gr:wE:=top 30
abbrev jE:wE:=top 31
abbrev jF:wE:=top 32
abbrev hU:wE:=top 33
abbrev dn:wE:=top 34
abbrev fD:wE:=top 35
abbrev wF:wE:=top 36
end My
local macro_rules | `(tactic| simp! only[$xs,*] $[$l]?)=>`(tactic| simp only[zVar,zC,zOp,zII,zIC,zEq,zNe,scalZ,zSS,zTest,zBool,zChain,zOr,zNot,zAndV,zOrV,zNotV,zIfE,zNil,zCons,zTup,zLst,zLstP,zCB,z1,zLenD,z2I,zAbs,zListP,zTuple,zSorted,intsM,itemsM,zIsInst,isD,zBM,tyZ,zAppend,zExtend,zPopAt,zIndexS,zSetI,zgSub,zNext,zSeq,zDrop,zRet,zIfS,zgName,zAsg,zFor,zForM,zComp,zCompP,zAll,zSetC,zBlock,zCall,zRaise,zstart,zEndsOf,ziTup,ziLst,ziStr,ziRng1,ziRng2,ziZip,seqK,zoNone,zoSome,zSl,zSlS,zIx,zRangeL,zRangeP,zNeg,zNoIf,zInI,zAllB,zDIn,zMGet,lookD,nowK,keyD,zDNewT,zDPut,zIxS,boolsD,zRepP,zSetDef,zAny,zBMD,tyD,zRev,zSortTS,zMaxG,zSetTC,zMM,WJ,FM,mo,Wp,ID,Zy,wn,NO,xb,YQ,Y3,Y4,YI,aas,aat,Sc,WI,if_true,if_false,i4,Na,YC,true_and,and_true,beq_self_eq_true,Zz,zLoop,bn,IT,updM_same,updM_updM,Ix,Op,xL,rangeD_len,pairsD_len,numD_len,Re,atI_zero,decide_true,decide_false,ZA,bne_self_eq_false,$xs,*] $[$l]?)
local macro_rules | `(tactic| dsimp! only[$xs,*] $[$l]?)=>`(tactic| simp only[zVar,zC,zOp,zII,zIC,zEq,zNe,scalZ,zSS,zTest,zBool,zChain,zOr,zNot,zAndV,zOrV,zNotV,zIfE,zNil,zCons,zTup,zLst,zLstP,zCB,z1,zLenD,z2I,zAbs,zListP,zTuple,zSorted,intsM,itemsM,zIsInst,isD,zBM,tyZ,zAppend,zExtend,zPopAt,zIndexS,zSetI,zgSub,zNext,zSeq,zDrop,zRet,zIfS,zgName,zAsg,zFor,zForM,zComp,zCompP,zAll,zSetC,zBlock,zCall,zRaise,zstart,zEndsOf,ziTup,ziLst,ziStr,ziRng1,ziRng2,ziZip,seqK,zoNone,zoSome,zSl,zSlS,zIx,zRangeL,zRangeP,zNeg,zNoIf,zInI,zAllB,zDIn,zMGet,lookD,nowK,keyD,zDNewT,zDPut,zIxS,boolsD,zRepP,zSetDef,zAny,zBMD,tyD,zRev,zSortTS,zMaxG,zSetTC,zMM,WJ,FM,mo,Wp,ID,Zy,wn,NO,xb,YQ,Y3,Y4,YI,aas,aat,Sc,WI,if_true,if_false,i4,Na,YC,true_and,and_true,beq_self_eq_true,Zz,bn,IT,updM_same,updM_updM,Ix,Op,xL,rangeD_len,pairsD_len,numD_len,Re,atI_zero,decide_true,decide_false,ZA,bne_self_eq_false,$xs,*] $[$l]?)
namespace My
open PySem L2 PyProof.Rows
section
variable {P:jp}{w:lf}{K:bv}{mg:ci->Option al}{base:i8}{tb:cX}{k:Nat}{f:ag}{fd:tz}{ps:List ci}
theorem eC:aP ["_law_script","_law_at","_law_cell","_law_mix","_law_k"] ["_law_script","_law_at"] (aq ky):=⟨rfl,rfl,rfl,by decide +kernel,rfl,by decide +kernel,by decide +kernel⟩
theorem eS:aP ["_law_bag_here","_law_many","_law_digit","_law_number","_law_room"] ["_law_bag_here","_law_many"] (aq fB):=⟨rfl,rfl,rfl,by decide +kernel,rfl,by decide +kernel,by decide +kernel⟩
theorem il:aP ["_law_bag_here","_law_many","_law_rest","_law_found","_law_k"] ["_law_bag_here","_law_many"] (aq gp):=⟨rfl,rfl,rfl,by decide +kernel,rfl,by decide +kernel,by decide +kernel⟩
theorem bz:aP ["_law_bag_here","_law_most","_law_many","_law_fans","_law_kind","_law_lap","_law_order_here","_law_rows","_law_k","_law_goals","_law_fan"] ["_law_bag_here","_law_most"] (aq fc):=⟨rfl,rfl,rfl,by decide +kernel,rfl,by decide +kernel,by decide +kernel⟩
def P8:du:=fun ds M Q _=>∃(ns:List Int) (t:Int),ds=[.bB ns,.int t]/\ns.length<=63/\0<=t/\t<=63/\∀b,M b=none->Q (.ptr b) (aw M b .dS)
def Kn:du:=fun ds M Q _=>∃(ns:List Int) (t:Int),ds=[.bB ns,.int t]/\ns.length<=63/\0<=t/\t<=63/\∀b c m,M b=none->0<=c->0<=m->Q (.ptr b) (aw M b (.lst [.int c,.int m]))
theorem DA (D:Df K mg "_law_bag" ky ["_law_script","_law_at"] f fd) (bl:Bl mg):FnOk P w K mg base bA 1 f fd ["_law_script","_law_at"] (bf P w K tb Kn) :=by
 refine eQ D eC (fun ds M Q E hS=>by obtain⟨ns,t,e,_⟩:=hS;rw[e];rfl) fun A outer s E Γ ds Q' E' hP hw hK ht hr hS=>?_
 obtain⟨ns,t,e,hl,t0,t1,q⟩:=hS;refine⟨_,(ah (aG (i:=2) eC.nd rfl (mv rfl) ax)
  (ah (fb (bY uC (qv 1) (aC (bI (K:=K) rfl hK) rfl bl.len_ r9 (ae (qv 0) af)) (cW _))
   (av (aG (i:=2) eC.nd rfl (mv rfl) (aC R8 rfl bl.abs_ NZ (ae (aK (Kg (K:=K) rfl hK) (qv 0) (qv 1) (fun _ _=>rfl)) af))))
   qss_nil)
  (ah (aG (i:=3) eC.nd rfl (mv rfl) (a8 fR (a8 nF ax (qv 1)) ax))
  (ah (bV sw rfl (bc rfl bl.range_ (ae (aC (yg rfl) rfl bl.min_ sL (ae (aC (bI (K:=K) rfl hK) rfl bl.len_ r9 (ae (qv 0) af)) (ae ax af))) af)) (fun gP eP ew eK et=>by have hP:=hP.trans eP.symm;have hw:=hw.trans ew.symm;have hK:=hK.trans eK.symm;have ht:=ht.trans et.symm;exact⟨(aF (i:=4) eC.nd rfl (mv rfl)),(av (aG (i:=3) eC.nd rfl (mv rfl) (a8 mq (a8 fR (a8 fR (a8 nF (qv 3) ax) (a8 mq (aK (Kg (K:=K) rfl hK) (qv 0) (qv 4) (fun _ _=>rfl)) ax)) (qv 4)) ax)))⟩))
  (ah (fb (bY uC (qv 2) (a8 R7 ax ax) (cW _))
   (av (aG (i:=2) eC.nd rfl (mv rfl) ax))
   qss_nil)
  (av (bg (gC (ae (qv 2) (ae (qv 3) af)))))))))),?_⟩
 subst e;refine Ke (fun ρ M=>M=Γ.M0/\∃c m x:Int,∃x4,0<=c/\0<=m/\ρ=[some (.bB ns),some (.int t),some (.int c),some (.int m),x4]) (fun N hN=>?_) ?_
 ·refine Kc (fun ρ M=>M=Γ.M0/\∃c:Int,0<=c/\ρ=[some (.bB ns),some (.int t),some (.int c),none,none]) (fun N hN=>?_) ?_
  ·simp! only[];refine fS (fun h=>?_) (fun _=>hN _ _ ⟨rfl,0,by omega,rfl⟩)
   have ht:t<(ns.length:Int):=of_decide_eq_true h;obtain⟨k,rfl⟩:=xw t0;rw[FZ (show k<ns.length by omega)]
   exact hN _ _ ⟨rfl,_,by split<;>omega,rfl⟩
  rintro ρ M ⟨rfl,c,hc,rfl⟩;simp! only[];refine⟨.inl ⟨by decide,by decide⟩,by split<;>omega,by split<;>omega,?_⟩
  refine aV (fun i ρ M=>M=Γ.M0/\∃m:Int,∃x4,0<=m/\ρ=[some (.bB ns),some (.int t),some (.int c),some (.int m),x4]) ⟨rfl,_,_,by omega,rfl⟩ (fun i d ρ M N2 hd hJ dU=>?_) (fun ρ M hJ=>?_)
  ·obtain⟨rfl,m,x4,hm,rfl⟩:=hJ;obtain⟨rfl,hi⟩:=bh hd;have hi:i<ns.length :=by split at hi<;>omega
   simp! only[FZ hi];exact⟨.inr ⟨by decide,by decide⟩,by decide,by decide,dU _ _ ⟨rfl,_,_,YV _ (by decide),rfl⟩⟩
  ·obtain⟨rfl,m,x4,hm,rfl⟩:=hJ;exact hN _ _ ⟨rfl,c,m,0,x4,hc,hm,rfl⟩
 ·rintro ρ M ⟨rfl,c,m,x,x4,hc,hm,rfl⟩;simp! only[];exact⟨⟨by decide,by decide,by decide⟩,fS (fun _=>⟨by decide,fun a ha=>.inl (q a 0 m ha (by omega) hm)⟩) (fun _=>⟨by decide,fun a ha=>.inl (q a c m ha hc hm)⟩)⟩
theorem Se (G:FnOk P w K mg base bA k f fd ps (bf P w K tb Kn)):FnOk P w K mg base bA k f fd ps (bf P w K tb P8):=G.imp fun vs H Q E hS=>by
 obtain⟨β,ds,M,Q',E',eP,ew,eK,et,m,rs,⟨ns,t,e,h1,h2,h3,h⟩,q,qe⟩:=hS;refine⟨β,ds,M,fun d M'=>∃b c m,d=.ptr b/\M b=none/\0<=c/\0<=m/\M'=aw M b (.lst [.int c,.int m]),fun _ _=>False,eP,ew,eK,et,m,rs,⟨ns,t,e,h1,h2,h3,fun b c m h4 h5 h6=>⟨b,c,m,rfl,h4,h5,h6,rfl⟩⟩,fun d M' v H' x r hQ=>?_,fun _ _ _ _ h=>h.elim⟩
 obtain⟨b,c,m',rfl,hb,hc,hm,rfl⟩:=hQ;have hB:=F8 x.mz hc hm;exact q _ _ _ _ (Ex.sealed hb x hB) (r.dom (kJ M b _ _)) (h b hb)
def wG:du:=fun ds M Q _=>∃(b:ag) (n:Int),ds=[.ptr b,.int n]/\M b=some .dS/\1<=n/\n<1073741824/\∀d:Nat,(d:Int)<n->Q (.int (d:Nat)) M
def Gv:du:=fun ds M Q _=>∃(b:ag) (n c m:Int),ds=[.ptr b,.int n]/\M b=some (.lst [.int c,.int m])/\0<=c/\0<=m/\1<=n/\n<1073741824/\∀(d:Nat) (c m:Int),(d:Int)<n->0<=c->0<=m->Q (.int (d:Nat)) (aw M b (.lst [.int c,.int m]))
theorem zY (D:Df K mg "_law_take" fB ["_law_bag_here","_law_many"] f fd):FnOk P w K mg base bA 1 f fd ["_law_bag_here","_law_many"] (bf P w K tb Gv) :=by
 refine eQ D eS (fun ds M Q E hS=>by obtain⟨b,n,c,m,e,_⟩:=hS;rw[e];rfl) fun A outer s E Γ ds Q' E' hP hw hK ht hr hS=>?_
 obtain⟨b,n,c,m,e,hb,hc,hm,n1,n2,q⟩:=hS;refine⟨_,(ah (fb (bY OW (aK (aY (K:=K) rfl) (qv 0) ax (fun _ _=>rfl)) ax (cW _))
   (ah (aG (i:=2) eS.nd rfl (mv rfl) (a8 mq (aK (aY (K:=K) rfl) (qv 0) ax (fun _ _=>rfl)) (qv 1)))
  (ah (jR (a8 yc (aK (aY (K:=K) rfl) (qv 0) ax (fun _ _=>rfl)) (qv 1)) (jT (qv 0) ax))
  (av (bg (qv 2)))))
   qss_nil)
  (ah (aG (i:=3) eS.nd rfl (mv rfl) ax)
  (ah (aG (i:=4) eS.nd rfl (mv rfl) ax)
  (ah (nE sw (bY uC (qv 4) (qv 1) (cW _))
   (ah (jR (a8 mq (a8 fR (a8 nF (aK (aY (K:=K) rfl) (qv 0) ax (fun _ _=>rfl)) ax) ax) ax) (jT (qv 0) ax))
  (ah (aG (i:=3) eS.nd rfl (mv rfl) (a8 fR (a8 nF (qv 3) ax) (a8 mq (a8 nF (a8 yc (aK (aY (K:=K) rfl) (qv 0) ax (fun _ _=>rfl)) ax) ax) ax)))
  (av (aG (i:=4) eS.nd rfl (mv rfl) (a8 nF (qv 4) ax))))))
  (av (bg (a8 mq (qv 3) (qv 1)))))))),?_⟩
 subst e;have Xd:∀x y:Int,bj [Dv.int x,Dv.int y] 1=some (.int y):=fun x y=>bS (j:=1) rfl
 have Xe:dH 2 0=some 0:=rfl;have P9:dH 2 1=some 1:=rfl;have fin:∀{i c m:Int} {M:Mh},0<=c->0<=m->M=aw Γ.M0 b (.lst [.int c,.int m])->nI Γ.M0 Q' (.int (i % n)) M:=fun {i c m M} hc hm e=>by
  obtain⟨d,hd⟩:=xw (YV i (show n≠0 by omega))
  have:=Int.emod_lt_of_pos i (show 0<n by omega)
  rw[hd,e];exact .inl (q d c m (by omega) hc hm)
 simp! only[hb,Xe];refine fS (fun h=>?_) (fun h=>?_)
 ·refine⟨by omega,⟨by omega,n2⟩,fin (Int.ediv_nonneg hc (by omega)) hm rfl⟩
 ·refine⟨fun k ρ M=>∃num room c m x2,0<=num/\1<=room/\0<=c/\0<=m/\k=(n - room).toNat/\ρ=[some (.ptr b),some (.int n),x2,some (.int num),some (.int room)]/\M=aw Γ.M0 b (.lst [.int c,.int m]),⟨_,0,1,c,m,_,by omega,by omega,hc,hm,rfl,rfl,(BH hb).symm⟩,?_⟩
  rintro k ρ M ⟨num,room,c,m,x2,h1,h2,hc,hm,rfl,rfl,rfl⟩;simp! only[Xd,P9,updM_same];refine fS (fun h=>?_) (fun h=>⟨by omega,fin hc hm rfl⟩)
  have h:=of_decide_eq_true h;have m3:0<=(m * 48271+7919) % 2147483647:=YV _ (by decide)
  have n3:0<=(m * 48271+7919) % 2147483647 / 8 * 69621 % 1073741789:=YV _ (by decide)
  refine⟨.inr ⟨by decide,by decide⟩,by decide,.inr ⟨by decide,by decide⟩,⟨by decide,by decide⟩,.inr ⟨by decide,by decide⟩,by decide,.inr ⟨by decide,by decide⟩,_,?_,_,_,c,_,_,?_,?_,hc,m3,rfl,rfl,rfl⟩<;>omega
theorem Qa (G:FnOk P w K mg base bA k f fd ps (bf P w K tb Gv)):FnOk P w K mg base bA k f fd ps (bf P w K tb wG):=G.imp fun vs H Q E hS=>by
 obtain⟨β,ds,M,Q',E',eP,ew,eK,et,m,rs,⟨b,n,e,hb,h1,h2,h⟩,q,qe⟩:=hS;have eM:=BH hb;have d1:∀o a,(M a).isSome=(aw M b o a).isSome:=fun o a=>by have:=kJ M b .dS o a;rwa [eM]at this
 rw[<- eM]at m;obtain⟨c,m0,hc,hm,hO⟩:=Pu m;refine⟨β,ds,aw M b (.lst [.int c,.int m0]),fun d M'=>∃(k:Nat) (c' m':Int),d=.int (k:Nat)/\(k:Int)<n/\0<=c'/\0<=m'/\M'=aw M b (.lst [.int c',.int m']),fun _ _=>False,eP,ew,eK,et,m.chg hO,⟨rs.len,fun i v d x y=>(rs.at' i v d x y).dom (d1 _)⟩,⟨b,n,c,m0,e,updM_same,hc,hm,h1,h2,fun d c' m' h3 h4 h5=>⟨d,c',m',rfl,h3,h4,h5,updM_updM⟩⟩,fun d M' v H' x r hQ=>?_,fun _ _ _ _ h=>h.elim⟩
 obtain⟨k,c',m',rfl,hk,Jy,oM,rfl⟩:=hQ;have hB:=F8 x.mz Jy oM;have x2:=Ex.chg (o2:=.dS) x hB;rw[eM]at x2;exact q _ _ _ _ x2 (r.dom fun a=>(d1 _ a).symm) (h k hk)
theorem vP {α β:Type}(f:α->β):∀(l:List α) (i:Nat),(l.map f).eraseIdx i=(l.eraseIdx i).map f
 | [],_=>rfl
 |_::_,0=>rfl
 |a::l,i+1=>by
          show f a::(l.map f).eraseIdx i=f a::(l.eraseIdx i).map f;rw[vP f l i]
theorem gB {α:Type}:∀(l:List α) (i:Nat) (h:i<l.length),(l[i]::l.eraseIdx i).Perm l
 |a::l,0,_=>.refl _
 |a::l,i+1,h=>by
          have h':i<l.length :=by simpa using h
          show (l[i]::a::l.eraseIdx i).Perm (a::l);exact(PP.swap a l[i] _).trans ((gB l i h').cons a)
structure cu (n:Nat) (os:List Int):Prop where
 perm:os.Perm ((hX n).map fun i:Nat=>(i:Int))
theorem cu.len {n:Nat}{os:List Int}(h:cu n os):os.length=n :=by
 have:=h.perm.length_eq;simpa using this
theorem cu.mem {n:Nat}{os:List Int}(h:cu n os) {x:Int}(hx:x∈os):0<=x/\x<n :=by
 have:=h.perm.mem_iff.mp hx;obtain⟨i,hi,rfl⟩:=im.mp this;have:=l6.mp hi;omega
theorem cu.at {n:Nat}{os:List Int}(h:cu n os) {i:Nat}(hi:i<n):∃x:Int,bj (os.map Dv.int) (i:Int)=some (.int x)/\0<=x/\x<n :=by
 have hl:i<os.length :=by rw[h.len];exact hi
 exact⟨os[i],bS (by rw[dL,ap hl];rfl),h.mem (v6 hl)⟩
def yQ:du:=fun ds M Q _=>∃(b:ag) (n:Nat),ds=[.ptr b,.int (n:Nat)]/\M b=some .dS/\n<=100/\∀os,cu n os->Q (bo os) M
def Ko:du:=fun ds M Q _=>∃(b:ag) (most:Nat),ds=[.ptr b,.int (most:Nat)]/\M b=some .dS/\1<=most/\most<=9/\∀aa n,bu aa n->aa.length<=most->Q (eN aa) M
theorem L0 {n d:Nat}(h:d<n):seqIndex? (d:Int) n=some d:=(uf (n:=n) (i:=(d:Int)) (j:=d) (by unfold dH;rw[if_pos (by omega),if_pos (by omega)];rfl)).1
theorem yR {f1:ag}{b8:tz}(D:Df K mg "_law_order" gp ["_law_bag_here","_law_many"] f fd)
  (aB:Df K mg "_law_take" fB ["_law_bag_here","_law_many"] f1 b8) (b9:FnOk P w K mg base bA 1 f1 b8 ["_law_bag_here","_law_many"] (bf P w K tb wG)) (bl:Bl mg):FnOk P w K mg base bA 2 f fd ["_law_bag_here","_law_many"] (bf P w K tb yQ) :=by
 refine eQ D il (fun ds M Q E hS=>by obtain⟨b,n,e,_⟩:=hS;rw[e];rfl) fun A outer s E Γ ds Q' E' hP hw hK ht hr hS=>?_
 obtain⟨b,n,e,hb,hn,q⟩:=hS;refine⟨_,(ah (aG (i:=2) il.nd rfl (mv rfl) (wa rfl rfl bl.list_ rfl bl.range_ (qv 1)))
  (ah (aG (i:=3) il.nd rfl (mv rfl) (gC af))
  (ah (bV sw rfl (bc rfl bl.range_ (ae (qv 1) af)) (fun gP eP ew eK et=>by have hP:=hP.trans eP.symm;have hw:=hw.trans ew.symm;have hK:=hK.trans eK.symm;have ht:=ht.trans et.symm;exact⟨(aF (i:=4) il.nd rfl (mv rfl)),(av (dX (ig (K:=K) rfl BS EQ ES gj (qv 3) (ae (ig (K:=K) rfl BS PySem.F.slot_list_pop PySem.F.type_list_pop Lr (qv 2) (ae (aL b9 (hr.mono (by decide)) rfl aB.mg aB.fn.kp aB.bd bH hP hw hK ht XR.none (ae (qv 0) (ae (aC (bI (K:=K) rfl hK) rfl bl.len_ r9 (ae (qv 2) af)) af))) af)) af))))⟩))
  (av (bg (qv 3)))))),?_⟩
 subst e;have big:(1000:Nat)<sizeLine :=by decide
 simp! only[];refine⟨by omega,by omega,fun a ha=>⟨by omega,fun c hc=>⟨by omega,by omega,?_⟩⟩⟩
 have Kp:c≠a:=fun z=>by rw[z,updM_same]at hc;cases hc
 have BU:Γ.M0 c=none :=by rw[ai Kp]at hc;exact hc
 have yS:b≠a:=fun z=>by rw[z,ha]at hb;cases hb
 have Xf:b≠c:=fun z=>by rw[z,BU]at hb;cases hb
 refine aV (fun i ρ M=>∃rest got:List Int,(∃x,ρ=[some (.ptr b),some (.int (n:Nat)),some (.ptr a),some (.ptr c),x])/\M a=some (.lst (rest.map .int))/\M c=some (.lst (got.map .int))/\(∀d,d≠a->d≠c->M d=Γ.M0 d)/\got.length=i/\(got++rest).Perm ((hX n).map fun i:Nat=>(i:Int)))
  ⟨(hX n).map fun i:Nat=>(i:Int),[],⟨_,rfl⟩,by rw[ai (Ch Kp),updM_same,j5,wP];rfl,updM_same,fun d h1 h2=>by rw[ai h2,ai h1],rfl,.refl _⟩ (fun i d ρ M N hd hJ hN=>?_) (fun ρ M hJ=>?_)
 ·obtain⟨rest,got,⟨x,rfl⟩,Qb,Kq,yr,hg,pm⟩:=hJ;obtain⟨rfl,hi⟩:=bh hd;have hlen:got.length+rest.length=n :=by have:=pm.length_eq;simpa using this
  simp! only[Qb,Kq];refine⟨b,_,rfl,(by rw[yr b yS Xf];exact hb),by omega,by omega,fun d hd=>?_⟩
  have mX:d<rest.length :=by omega
  simp only[Qb,bn,L0 mX,dL,ap mX,Co,ai Kp,Kq];refine⟨by omega,by omega,by omega,hN _ _ ⟨rest.eraseIdx d,got++[rest[d]],⟨_,rfl⟩,by rw[ai (Ch Kp),updM_same,vP],by rw[updM_same,mf];rfl,fun e h1 h2=>by rw[ai h2,ai h1];exact yr e h1 h2,by simp[hg],?_⟩⟩
  refine PP.trans ?_ pm;rw[GM];exact PP.append_left got (gB rest d mX)
 ·obtain⟨rest,got,⟨x,rfl⟩,Qb,Kq,yr,hg,pm⟩:=hJ;rw[rangeD_len]at hg;have hlen:got.length+rest.length=n :=by have:=pm.length_eq;simpa using this
  have Kj:rest=[]:=Yw (by omega)
  rw[Kj,Ix]at pm;exact mr (fun d o e=>by rw[yr d (fun z=>by rw[z,ha]at e;cases e) (fun z=>by rw[z,BU]at e;cases e)];exact e) BU Kq (dj _) (q got ⟨pm⟩)
end
section
variable {P:jp}{w:lf}{K:bv}{mg:ci->Option al}{base:i8}{tb:cX}
def fU (n ways:Nat) (row:List Int):Prop:=row.length=ways/\∀x∈row,0<=x/\x<(n:Int)
structure RowsM (M0 M:Mh) (r:ag) (as:List ag) (n ways:Nat):Prop where
 kp:Keeps M0 M
 r0:M0 r=none
 rm:M r=some (.lst (as.map .ptr))
 fr:∀a∈as,M0 a=none/\a≠r
 len:as.length=n
 row:∀a∈as,∃row:List Int,M a=some (.lst (row.map .int))/\fU n ways row
 pin:∀b o,M b=some o->M0 b=some o\/b=r\/(∃row:List Int,o=.lst (row.map .int))\/∃bs:List ag,o=.lst (bs.map .ptr)/\∀c∈bs,c≠r/\∃o,M c=some o
theorem RowsM.ur {M0 M:Mh}{r:ag}{as:List ag}{n ways:Nat}(h:RowsM M0 M r as n ways) {a:ag}(ha:a∈as) {row:List Int}(o:fU n ways row):RowsM M0 (aw M a (.lst (row.map .int))) r as n ways :=by
 obtain⟨f0,f1⟩:=h.fr a ha;refine⟨.upd f0 h.kp,h.r0,by rw[ai (Ch f1)];exact h.rm,h.fr,h.len,fun c hc=>?_,fun b u e=>?_⟩
 ·by_cases z:c=a
  ·subst z;exact⟨row,updM_same,o⟩
  ·rw[ai z];exact h.row c hc
 ·by_cases z:b=a
  ·subst z;rw[updM_same]at e;cases e;exact .inr (.inr (.inl ⟨row,rfl⟩))
  ·rw[ai z]at e;rcases h.pin b u e with q|q|q|⟨bs,q1,q2⟩
   ·exact .inl q
   ·exact .inr (.inl q)
   ·exact .inr (.inr (.inl q))
   ·refine .inr (.inr (.inr ⟨bs,q1,fun c hc=>⟨(q2 c hc).1,?_⟩⟩))
    by_cases z:c=a
    ·subst z;exact⟨_,updM_same⟩
    ·rw[ai z];exact(q2 c hc).2
theorem RowsM.put {M0 M:Mh}{r:ag}{as:List ag}{n ways:Nat}(h:RowsM M0 M r as n ways) {a:ag}(ha:M a=none) {row:List Int}(o:fU n ways row) {i:Nat}(hi:i<n):RowsM M0 (aw (aw M a (.lst (row.map .int))) r (.lst ((as.map .ptr).set i (.ptr a)))) r (as.set i a) n ways :=by
 have nr:a≠r:=fun z=>by rw[z,h.rm]at ha;cases ha
 have a0:M0 a=none :=by
  cases e:M0 a with
  |none=>rfl
  |some u=>rw[h.kp a u e]at ha;cases ha
 have Xg:a ∉ as:=fun z=>by obtain⟨row,e,_⟩:=h.row a z;rw[ha]at e;cases e
 refine⟨.upd h.r0 (.upd a0 h.kp),h.r0,by rw[updM_same,List.map_set],fun c hc=>?_,by rw[IT];exact h.len,fun c hc=>?_,fun b u e=>?_⟩
 ·rcases YW hc with z|z
  ·exact h.fr c z
  ·rw[z];exact⟨a0,nr⟩
 ·rcases YW hc with z|z
  ·have n1:=(h.fr c z).2;have n2:c≠a:=fun e=>Xg (e▸z)
   rw[ai n1,ai n2];exact h.row c z
  ·rw[z,ai nr,updM_same];exact⟨row,rfl,o⟩
 ·by_cases z:b=r
  ·exact .inr (.inl z)
  ·rw[ai z]at e;by_cases z2:b=a
   ·subst z2;rw[updM_same]at e;cases e;exact .inr (.inr (.inl ⟨row,rfl⟩))
   ·rw[ai z2]at e;rcases h.pin b u e with q|q|q|⟨bs,q1,q2⟩
    ·exact .inl q
    ·exact .inr (.inl q)
    ·exact .inr (.inr (.inl q))
    ·refine .inr (.inr (.inr ⟨bs,q1,fun c hc=>⟨(q2 c hc).1,?_⟩⟩))
     rw[ai (q2 c hc).1];by_cases z:c=a
     ·subst z;exact⟨_,updM_same⟩
     ·rw[ai z];exact(q2 c hc).2
structure nO (M0 M:Mh):Prop where
 kp:Keeps M0 M
 pin:∀b o,M b=some o->M0 b=some o\/(∃row:List Int,o=.lst (row.map .int))\/∃bs:List ag,o=.lst (bs.map .ptr)/\∀c∈bs,∃o,M c=some o
theorem nO.refl {M0:Mh}:nO M0 M0:=⟨.refl,fun b o e=>.inl e⟩
theorem fe {M0 M:Mh}(h:Keeps M0 M) {a:ag}(ha:M a=none):M0 a=none :=by
 cases e:M0 a with
 |none=>rfl
 |some u=>rw[h a u e]at ha;cases ha
theorem nO.row {M0 M:Mh}(h:nO M0 M) {a:ag}(ha:M a=none) (row:List Int):nO M0 (aw M a (.lst (row.map .int))) :=by
 refine⟨.upd (fe h.kp ha) h.kp,fun b o e=>?_⟩
 by_cases z:b=a
 ·subst z;rw[updM_same]at e;cases e;exact .inr (.inl ⟨row,rfl⟩)
 ·rw[ai z]at e;rcases h.pin b o e with q|q|⟨bs,q1,q2⟩
  ·exact .inl q
  ·exact .inr (.inl q)
  ·refine .inr (.inr ⟨bs,q1,fun c hc=>?_⟩)
   by_cases z:c=a
   ·subst z;exact⟨_,updM_same⟩
   ·rw[ai z];exact q2 c hc
theorem RowsM.mk' {M0 M:Mh}{r:ag}{as:List ag}{n ways:Nat}(h:nO M0 M) (hr:M r=none) (hl:as.length=n) (ha:∀a∈as,M0 a=none/\∃row:List Int,M a=some (.lst (row.map .int))/\fU n ways row):RowsM M0 (aw M r (.lst (as.map .ptr))) r as n ways :=by
 have ne:∀{c o},M c=some o->c≠r:=fun e z=>by rw[z,hr]at e;cases e
 refine⟨.upd (fe h.kp hr) h.kp,fe h.kp hr,updM_same,fun a h=>?_,hl,fun a h=>?_,fun b o e=>?_⟩
 ·obtain⟨h0,row,e,_⟩:=ha a h;exact⟨h0,ne e⟩
 ·obtain⟨h0,row,e,o⟩:=ha a h;exact⟨row,by rw[ai (ne e)];exact e,o⟩
 ·by_cases z:b=r
  ·exact .inr (.inl z)
  ·rw[ai z]at e;rcases h.pin b o e with q|q|⟨bs,q1,q2⟩
   ·exact .inl q
   ·exact .inr (.inr (.inl q))
   ·refine .inr (.inr (.inr ⟨bs,q1,fun c hc=>?_⟩))
    obtain⟨u,e⟩:=q2 c hc;exact⟨ne e,u,by rw[ai (ne e)];exact e⟩
theorem XO {g:bP}{te:aE}{n:Nat}{M1:Mh}(T:aA->Prop) {ds:List Dv}{τ:aA}{Q:List Dv->Mh->Prop}(h0:T τ) (h:∀d∈ds,∀τ,T τ->∀R:aA->ZK,(∀(x:Int) au,0<=x->x<(n:Int)->T au->R au (.int x) M1)->g d τ M1 fun au M2=>te au M2 (R au)) (q:∀row:List Int,row.length=ds.length->(∀x∈row,0<=x/\x<(n:Int))->Q (row.map .int) M1):gV g zNoIf te ds τ M1 Q :=by
 refine iB (acc:=[]) (fun acc τ M=>∃row:List Int,acc=row.map Dv.int/\(∀x∈row,0<=x/\x<(n:Int))/\T τ/\M=M1) ⟨[],rfl,(fun _ h=>nomatch h),h0,rfl⟩ (fun i d acc τ M hd _ ⟨row,e1,hr,ht,e2⟩ R hR=>?_) (fun ys τ M hl ⟨row,e1,hr,ht,e2⟩=>?_)
 ·subst e1 e2;refine h d (ff hd) τ ht R fun x au x0 x1 t2=>hR _ _ _ ⟨row++[x],by rw[mf];rfl,fun y hy=>?_,t2,rfl⟩
  rcases qr.mp hy with z|z
  ·exact hr y z
  ·rw[lc]at z;rw[z];exact⟨x0,x1⟩
 ·rw[ID]at e1;subst e1 e2;exact q row (by simpa using hl) hr
def eE (x:Option Dv):Prop:=∀M d,x=some d->Pin M d
theorem eE.none:eE none:=fun _ _ h=>nomatch h
theorem eE.int (i:Int):eE (some (.int i)):=fun _ _ h=>by cases h;exact .int i
theorem eE.lI (ns:List Int):eE (some (bo ns)):=fun _ _ h=>by cases h;exact .lst (dj ns)
theorem qA {n d:Nat}(h:d<n):dH n (d:Int)=some d :=by unfold dH;rw[if_pos (by omega),if_pos (by omega)];rfl
theorem nP (row:List Int) (t:Nat) (x:Int):(row.map Dv.int).set t (.int x)=(row.set t x).map Dv.int :=by rw[List.map_set]
theorem fU.set {n ways:Nat}{row:List Int}(h:fU n ways row) {t:Nat}{x:Int}(x0:0<=x) (x1:x<(n:Int)):fU n ways (row.set t x):=⟨by rw[IT];exact h.1,fun y hy=>by
 rcases YW hy with z|z
 ·exact h.2 y z
 ·rw[z];exact⟨x0,x1⟩⟩
def tY (os:List Int):Dv->Int | .int j=>os.getD j.toNat 0|_=>0
theorem yT {os:List Int}{j:Nat}{x:Int}(h:bj (os.map Dv.int) (j:Int)=some (.int x)):tY os (.int (j:Nat))=x :=by
 by_cases hj:j<os.length
 ·rw[bS (j:=j) (v:=Dv.int os[j]) (by rw[dL,ap hj];rfl)]at h
  cases h;show os.getD (Int.toNat (j:Int)) 0=_;rw[xL,cr,ap hj];rfl
 ·unfold bj dH at h;rw[if_pos (by omega),if_neg (by simp;omega)]at h
  cases h
def IP (per i:Nat):Dv->Bool | .int j=>decide (j % (per:Int)=((i:Int)+1) % (per:Int))|_=>false
theorem IQ {n per i:Nat}{os:List Int}(fv:cu n os) (p1:1<=per) (pn:per<=n):∃gs:List Int,((cp 0 n).filter (IP per i)).map (fun d=>Dv.int (tY os d))=gs.map Dv.int/\1<=gs.length/\gs.length<=n/\∀x∈gs,0<=x/\x<(n:Int) :=by
 refine⟨((cp 0 n).filter (IP per i)).map (tY os),by rw[wP];rfl,?_,?_,fun x hx=>?_⟩
 ·rw[bn];refine Ps (a:=Dv.int (((i+1) % per:Nat):Int)) (LS.mpr ⟨?_,?_⟩)
  ·have:(i+1) % per<per:=ZW _ (by omega)
   exact ff (i:=(i+1) % per) (by rw[cp,dL,EU (by omega)];simp)
  ·show decide _=true;rw[decide_eq_true_eq];push_cast
   exact Int.emod_emod_of_dvd _ (Int.dvd_refl _)
 ·rw[bn];exact wb (ZI _ _) (by rw[rangeD_len];exact cb _)
 ·obtain⟨d,hd,rfl⟩:=im.mp hx;obtain⟨j,hj,rfl⟩:=km (LS.mp hd).1;rw[Op];obtain⟨gx,yU,g0,g1⟩:=fv.at hj;rw[yT yU];exact⟨g0,g1⟩
structure i7 (M0 M:Mh) (r:ag) (as:List ag) (n:Nat) (L:Nat->Nat):Prop where
 own:nO M0 M
 r0:M0 r=none
 rm:M r=some (.lst (as.map .ptr))
 fr:∀a∈as,M0 a=none/\a≠r
 nd:as.Nodup
 len:as.length=n
 rows:∀i a,as[i]?=some a->∃row:List Int,M a=some (.lst (row.map .int))/\fU n (L i) row
 ptr:∀b bs,M b=some (.lst (bs.map .ptr))->b=r\/M0 b=some (.lst (bs.map .ptr))\/bs=[]
theorem i7.set {M0 M:Mh}{r:ag}{as:List ag}{n:Nat}{L:Nat->Nat}(h:i7 M0 M r as n L) {i:Nat}{a:ag}(ha:as[i]?=some a) {row:List Int}{m:Nat}(o:fU n m row):i7 M0 (aw M a (.lst (row.map .int))) r as n fun j=>if j=i then m else L j :=by
 have hm:=ff ha;obtain⟨f0,f1⟩:=h.fr a hm;refine⟨⟨.upd f0 h.own.kp,fun b o e=>?_⟩,h.r0,by rw[ai (Ch f1)];exact h.rm,h.fr,h.nd,h.len,fun j c hc=>?_,fun b bs e=>?_⟩
 ·by_cases z:b=a
  ·subst z;rw[updM_same]at e;cases e;exact .inr (.inl ⟨row,rfl⟩)
  ·rw[ai z]at e;rcases h.own.pin b o e with q|q|⟨bs,q1,q2⟩
   ·exact .inl q
   ·exact .inr (.inl q)
   ·refine .inr (.inr ⟨bs,q1,fun c hc=>?_⟩)
    by_cases z:c=a
    ·subst z;exact⟨_,updM_same⟩
    ·rw[ai z];exact q2 c hc
 ·by_cases z:j=i
  ·subst z;rw[ha]at hc;cases hc;exact⟨row,updM_same,by rw[if_pos rfl];exact o⟩
  ·have tZ:c≠a:=fun e=>z (by
    subst e;obtain⟨h1,e1⟩:=ca.mp ha;obtain⟨h2,e2⟩:=ca.mp hc;rcases Nat.lt_trichotomy j i with q|q|q
    ·exact absurd (e2.trans e1.symm) (JJ.mp h.nd j i h2 h1 q)
    ·exact q
    ·exact absurd (e1.trans e2.symm) (JJ.mp h.nd i j h1 h2 q))
   rw[ai tZ,if_neg z];exact h.rows j c hc
 ·by_cases z:b=a
  ·subst z;rw[updM_same]at e;cases row with
   |nil=>cases bs with
    |nil=>exact .inr (.inr rfl)
    |cons c bs=>simp at e
   |cons x row=>cases bs with
    |nil=>exact .inr (.inr rfl)
    |cons c bs=>simp at e
  ·rw[ai z]at e;exact h.ptr b bs e
theorem i7.full {M0 M:Mh}{r:ag}{as:List ag}{n ways:Nat}{L:Nat->Nat}(h:i7 M0 M r as n L) (hL:∀i,i<n->L i=ways):RowsM M0 M r as n ways :=by
 refine⟨h.own.kp,h.r0,h.rm,h.fr,h.len,fun a ha=>?_,fun b o e=>?_⟩
 ·obtain⟨i,hi⟩:=nw.mp ha;obtain⟨row,e,o⟩:=h.rows i a hi;rw[hL i (by rw[<- h.len];exact(ca.mp hi).1)]at o
  exact⟨row,e,o⟩
 ·rcases h.own.pin b o e with q|q|⟨bs,rfl,q2⟩
  ·exact .inl q
  ·exact .inr (.inr (.inl q))
  ·rcases h.ptr b bs e with z|z|z
   ·exact .inr (.inl z)
   ·exact .inl z
   ·subst z;exact .inr (.inr (.inl ⟨[],rfl⟩))
theorem i7.DB {M0 M:Mh}{r:ag}{as:List ag}{n:Nat}{L L':Nat->Nat}(h:i7 M0 M r as n L) (e:∀i,i<n->L i=L' i):i7 M0 M r as n L':=
 ⟨h.own,h.r0,h.rm,h.fr,h.nd,h.len,fun i a ha=>by
  have:=h.rows i a ha;rwa [e i (by rw[<- h.len];exact(ca.mp ha).1)]at this,h.ptr⟩
theorem cu.nodup {n:Nat}{os:List Int}(h:cu n os):os.Nodup :=by
 refine h.perm.nodup_iff.mpr ?_;exact Yx.mpr (Zv.imp fun h e=>h (by omega))
theorem cu.prev {n:Nat}{os:List Int}(h:cu n os) {k:Nat}(hk:k<n):∃p:Nat,bj (os.map Dv.int) ((k:Int) - 1)=some (.int (p:Nat))/\p<n :=by
 have hl:=h.len;obtain⟨j,hj,e⟩:∃j:Nat,j<n/\dH n ((k:Int) - 1)=some j :=by
  unfold dH;by_cases z:k=0
  ·exact⟨n - 1,by omega,by rw[if_neg (by omega),if_pos (by omega)];congr 1;omega⟩
  ·exact⟨k - 1,by omega,by rw[if_pos (by omega),if_pos (by omega)];congr 1;omega⟩
 have yI:j<os.length :=by omega
 obtain⟨g0,g1⟩:=h.mem (v6 yI);refine⟨os[j].toNat,?_,by omega⟩
 unfold bj;rw[bn,hl,e];show (os.map Dv.int)[j]?=_;rw[dL,ap yI];show some (Dv.int os[j])=_;congr 2
 omega
theorem L1 (x:Int) (k:Nat):(mT k [Dv.int x]).flatten=(mT k x).map Dv.int :=by
 induction k with
 |zero=>rfl
 |succ k ih=>rw[xb,OF,ih,xb];rfl
theorem DC {f f1 f2:ag}{fd b8 fd2:tz}(D:Df K mg "_law_net" fc ["_law_bag_here","_law_most"] f fd)
  (aB:Df K mg "_law_take" fB ["_law_bag_here","_law_many"] f1 b8) (b9:FnOk P w K mg base bA 1 f1 b8 ["_law_bag_here","_law_many"] (bf P w K tb wG))
  (bN:Df K mg "_law_order" gp ["_law_bag_here","_law_many"] f2 fd2) (lL:FnOk P w K mg base bA 2 f2 fd2 ["_law_bag_here","_law_many"] (bf P w K tb yQ)) (bl:Bl mg):FnOk P w K mg base bA 3 f fd ["_law_bag_here","_law_most"] (bf P w K tb Ko) :=by
 refine eQ D bz (fun ds M Q E hS=>by obtain⟨b,n,e,_⟩:=hS;rw[e];rfl) fun A outer s E Γ ds Q' E' hP hw hK ht hr hS=>?_
 obtain⟨b,most,e,hb,h1,h9,q⟩:=hS;refine⟨_,(ah (aG (i:=2) bz.nd rfl (mv rfl) (a8 fR ax (aL b9 (hr.mono (by decide)) rfl aB.mg aB.fn.kp aB.bd bH hP hw hK ht XR.none (ae (qv 0) (ae (qv 1) af)))))
  (ah (aG (i:=3) bz.nd rfl (mv rfl) (a8 fR ax (aL b9 (hr.mono (by decide)) rfl aB.mg aB.fn.kp aB.bd bH hP hw hK ht XR.none (ae (qv 0) (ae ax af)))))
  (ah (aG (i:=4) bz.nd rfl (mv rfl) (aL b9 (hr.mono (by decide)) rfl aB.mg aB.fn.kp aB.bd bH hP hw hK ht XR.none (ae (qv 0) (ae ax af))))
  (ah (aG (i:=5) bz.nd rfl (LH rfl) ax)
  (ah (fb (bY rQ (qv 4) ax (cW _))
   (ah (aG (i:=5) bz.nd rfl (LH rfl) (aC (yg rfl) rfl bl.min_ sL (ae (a8 fR ax (aL b9 (hr.mono (by decide)) rfl aB.mg aB.fn.kp aB.bd bH hP hw hK ht XR.none (ae (qv 0) (ae ax af)))) (ae (qv 2) af))))
  (av (aG (i:=2) bz.nd rfl (mv rfl) (a8 nF (a8 yc (qv 2) (qv 5)) (qv 5)))))
   qss_nil)
  (ah (aG (i:=6) bz.nd rfl (LH rfl) (aL lL (hr.mono (by decide)) rfl bN.mg bN.fn.kp bN.bd bH hP hw hK ht XR.none (ae (qv 0) (ae (qv 2) af))))
  (ah (qY (i:=7) bz.nd rfl rfl (N':=["_law_place"]) (tn:=1) (idx:=[]) rfl (show aD ["_law_bag_here","_law_most","_law_many","_law_fans","_law_kind","_law_lap","_law_order_here","_law_rows","_law_k","_law_goals","_law_fan"] (aq fc) _ ["_law_place"] 1 [] from by decide +kernel) (bc rfl bl.range_ (ae (qv 2) af)) (fun _ _ _ _ _=>(aF (i:=0) (show Cf [("_law_place" : ci)] from by decide +kernel) rfl (mv rfl))) (fun _ _ _ _ _=>cq) (fun _ _ _ _ _=>(gC af)))
  (ah (bV sw rfl (bc rfl bl.range_ (ae (qv 2) af)) (fun gP eP ew eK et=>by have hP:=hP.trans eP.symm;have hw:=hw.trans ew.symm;have hK:=hK.trans eK.symm;have ht:=ht.trans et.symm;exact⟨(aF (i:=8) bz.nd rfl (LH rfl)),(ah (nJ (i:=9) bz.nd rfl rfl (N':=["_law_j","_law_order_here","_law_lap","_law_k"]) (tn:=1) (idx:=[6,5,8]) rfl (show aD ["_law_bag_here","_law_most","_law_many","_law_fans","_law_kind","_law_lap","_law_order_here","_law_rows","_law_k","_law_goals","_law_fan"] (aq fc) _ ["_law_j","_law_order_here","_law_lap","_law_k"] 1 [6,5,8] from by decide +kernel) (bc rfl bl.range_ (ae (qv 2) af)) (fun _ _ _ _ _=>(aF (i:=0) (show Cf [("_law_j" : ci),("_law_order_here" : ci),("_law_lap" : ci),("_law_k" : ci)] from by decide +kernel) rfl (mv rfl))) (fun _ _ _ _ _=>(qo (bY rQ (a8 mq (qv 0) (qv 2)) (a8 mq (a8 fR (qv 3) ax) (qv 2)) (cW _)))) (fun _ _ _ _ _=>(aK (aY (K:=K) rfl) (qv 1) (qv 0) (fun _ _=>rfl))))
  (av (bV sw rfl (bc rfl bl.range_ (ae (qv 3) af)) (fun gP eP ew eK et=>by have hP:=hP.trans eP.symm;have hw:=hw.trans ew.symm;have hK:=hK.trans eK.symm;have ht:=ht.trans et.symm;exact⟨(aF (i:=10) bz.nd rfl (mv rfl)),(av (dX (ig (K:=K) rfl BS EQ ES gj (aK (aY (K:=K) rfl) (qv 7) (aK (aY (K:=K) rfl) (qv 6) (qv 8) (fun _ _=>rfl)) (fun _ _=>rfl)) (ae (aK (aY (K:=K) rfl) (qv 9) (aL b9 (hr.mono (by decide)) rfl aB.mg aB.fn.kp aB.bd bH hP hw hK ht XR.none (ae (qv 0) (ae (aC (bI (K:=K) rfl hK) rfl bl.len_ r9 (ae (qv 9) af)) af))) (fun _ _=>rfl)) af))))⟩))))⟩))
  (ah (fb (bY OW (qv 4) ax (cW _))
   (av (bV sw rfl (bc rfl bl.range_ (ae (qv 2) af)) (fun gP eP ew eK et=>by have hP:=hP.trans eP.symm;have hw:=hw.trans ew.symm;have hK:=hK.trans eK.symm;have ht:=ht.trans et.symm;exact⟨(aF (i:=8) bz.nd rfl (LH rfl)),(av (jR (aK (aY (K:=K) rfl) (qv 6) (qv 8) (fun _ _=>rfl)) (jT (aK (aY (K:=K) rfl) (qv 7) (aK (aY (K:=K) rfl) (qv 6) (a8 wC (qv 8) ax) (fun _ _=>rfl)) (fun _ _=>rfl)) (aL b9 (hr.mono (by decide)) rfl aB.mg aB.fn.kp aB.bd bH hP hw hK ht XR.none (ae (qv 0) (ae (qv 3) af))))))⟩)))
   qss_nil)
  (ah (fb (bY rQ (qv 4) ax (cW _))
   (ah (bV sw rfl (bc rfl bl.range_ (ae (qv 2) af)) (fun gP eP ew eK et=>by have hP:=hP.trans eP.symm;have hw:=hw.trans ew.symm;have hK:=hK.trans eK.symm;have ht:=ht.trans et.symm;exact⟨(aF (i:=8) bz.nd rfl (LH rfl)),(av (jR (a8 Pw (tI (ae (aK (aY (K:=K) rfl) (qv 6) (qv 8) (fun _ _=>rfl)) af)) (qv 3)) (jT (qv 7) (aK (aY (K:=K) rfl) (qv 6) (a8 wC (qv 8) ax) (fun _ _=>rfl)))))⟩))
  (av (jR (aL b9 (hr.mono (by decide)) rfl aB.mg aB.fn.kp aB.bd bH hP hw hK ht XR.none (ae (qv 0) (ae (qv 2) af))) (jT (aK (aY (K:=K) rfl) (qv 7) ax (fun _ _=>rfl)) ax))))
   qss_nil)
  (av (yw 7 rfl (bg (jS (qp (K:=K) rfl) rfl bl.tuple_ jh (ae (dC (N':=["_law_row"]) (tn:=1) (idx:=[]) rfl (show aD ["_law_bag_here","_law_most","_law_many","_law_fans","_law_kind","_law_lap","_law_order_here","_law_rows","_law_k","_law_goals","_law_fan"] (aq fc) _ ["_law_row"] 1 [] from by decide +kernel) (da (K:=K) rfl (qv 7)) (fun _ _ _ _ _=>(aF (i:=0) (show Cf [("_law_row" : ci)] from by decide +kernel) rfl (mv rfl))) (fun _ _ _ _ _=>cq) (fun _ _ _ _ _=>(jS (qp (K:=K) rfl) rfl bl.tuple_ jh (ae (qv 0) af)))) af))))))))))))))),?_⟩
 subst e;have big:(100:Nat)<sizeLine :=by decide
 refine Kf (fun ρ M=>M=Γ.M0/\∃(n ways kind dg:Nat),ρ=[some (.ptr b),some (.int (most:Nat)),some (.int (n:Nat)),some (.int (ways:Nat)),some (.int (kind:Nat)),some (.int (dg:Nat)),none,none,none,none,none]/\1<=n/\n<=most/\(ways=2\/ways=3)/\1<=dg/\dg<=n) (fun N hN=>?_) ?_
 ·simp! only[];refine⟨b,_,rfl,hb,by omega,by omega,fun m hm=>?_⟩
  obtain⟨n,hn⟩:∃n:Nat,(1+(m:Int))=(n:Nat):=⟨1+m,by omega⟩
  have n1:1<=n :=by omega
  have n9:n<=most :=by omega
  simp! only[hn];refine⟨b,_,rfl,hb,by omega,by omega,fun v hv=>?_⟩
  obtain⟨ways,Sf⟩:∃ways:Nat,(2+(v:Int))=(ways:Nat):=⟨2+v,by omega⟩
  have w2:ways=2\/ways=3 :=by omega
  simp! only[Sf];refine⟨b,_,rfl,hb,by omega,by omega,fun kind qf=>?_⟩
  simp! only[];refine fS (fun h=>?_) (fun h=>hN _ _ ⟨rfl,n,ways,kind,1,rfl,n1,n9,w2,by omega,n1⟩)
  refine⟨b,_,rfl,hb,by omega,by omega,fun t ht=>?_⟩
  obtain⟨dg,Vg,l1,ln⟩:∃dg:Nat,(if (n:Int)<2+(t:Int) then (n:Int) else 2+(t:Int))=(dg:Nat)/\1<=dg/\dg<=n :=by
   by_cases z:(n:Int)<2+(t:Int)
   ·exact⟨n,by rw[if_pos z],n1,cb _⟩
   ·exact⟨2+t,by rw[if_neg z];omega,by omega,by omega⟩
  simp only[Vg];have en:(n:Int) / (dg:Int) * (dg:Int)=((n / dg * dg:Nat):Int) :=by push_cast;rfl
  have d1:n / dg * dg<=n:=Nat.div_mul_le_self n dg;have d2:dg<=n / dg * dg :=by
   have:1<=n / dg:=Nat.div_pos ln (by omega)
   exact Nat.le_mul_of_pos_left dg this
  rw[en];exact⟨⟨by omega,by omega⟩,.inr ⟨by omega,by omega⟩,hN _ _ ⟨rfl,n / dg * dg,ways,kind,dg,rfl,by omega,by omega,w2,l1,d2⟩⟩
 rintro ρ M ⟨rfl,n,ways,kind,dg,rfl,n1,n9,w2,l1,ln⟩;refine Kd (fun ρ M=>∃(r:ag) (as:List ag) (os:List Int) (x8 x9 jW:Option Dv),(eE x8/\eE x9/\eE jW)/\ρ=[some (.ptr b),some (.int (most:Nat)),some (.int (n:Nat)),some (.int (ways:Nat)),some (.int (kind:Nat)),some (.int (dg:Nat)),some (bo os),some (.ptr r),x8,x9,jW]/\RowsM Γ.M0 M r as n ways/\cu n os) (fun N hN=>?_) ?_
 ·simp! only[];refine⟨b,n,rfl,hb,by omega,fun os fv=>?_⟩
  have Be:=fv.len;simp! only[];refine⟨by omega,by omega,by omega,iB (acc:=[]) (fun acc τ M=>∃as:List ag,acc=as.map Dv.ptr/\(∃x,τ=[x])/\nO Γ.M0 M/\as.Nodup/\(∀a∈as,Γ.M0 a=none/\M a=some (.lst []))/\∀c (bs:List ag),M c=some (.lst (bs.map .ptr))->Γ.M0 c=some (.lst (bs.map .ptr))\/bs=[]) ⟨[],rfl,⟨_,rfl⟩,.refl,.nil,(fun _ h=>nomatch h),fun c bs e=>.inl e⟩ (fun i d acc τ M hd _ hJ R hR=>?_) (fun ys τ M hl hJ=>?_)⟩
  ·obtain⟨as,rfl,⟨x,rfl⟩,hO,ng,ha,hp⟩:=hJ;simp! only[];refine⟨by omega,fun a hn=>hR _ _ _ ⟨as++[a],by rw[mf];rfl,⟨_,rfl⟩,hO.row hn [],?_,fun c hc=>?_,fun c bs e=>?_⟩⟩
   ·rw[IS];refine⟨ng,by simp,fun x hx y hy e=>?_⟩
    rw[lc]at hy;subst e hy;rw[(ha _ hx).2]at hn;cases hn
   ·rcases qr.mp hc with z|z
    ·obtain⟨q1,q2⟩:=ha c z;have ne:c≠a:=fun q=>by rw[q,hn]at q2;cases q2
     exact⟨q1,by rw[ai ne];exact q2⟩
    ·rw[lc]at z;subst z;exact⟨fe hO.kp hn,updM_same⟩
   ·by_cases z:c=a
    ·subst z;rw[updM_same]at e;cases bs with
     |nil=>exact .inr rfl
     |cons y bs=>simp at e
    ·rw[ai z]at e;exact hp c bs e
  ·obtain⟨as,e1,⟨x,rfl⟩,hO,ng,ha,hp⟩:=hJ;rw[ID]at e1;subst e1;intro r rp;have Vh:as.length=n :=by simpa[rangeD_len] using hl
   have ne:∀{c o},M c=some o->c≠r:=fun e z=>by rw[z,rp]at e;cases e
   have RF:i7 Γ.M0 (aw M r (.lst (as.map .ptr))) r as n fun _=>0 :=by
    refine⟨⟨.upd (fe hO.kp rp) hO.kp,fun c o e=>?_⟩,fe hO.kp rp,updM_same,fun a h=>⟨(ha a h).1,ne (ha a h).2⟩,ng,Vh,fun i a h=>?_,fun c bs e=>?_⟩
    ·by_cases z:c=r
     ·subst z;rw[updM_same]at e;cases e;exact .inr (.inr ⟨as,rfl,fun a h=>⟨_,by rw[ai (ne (ha a h).2)];exact(ha a h).2⟩⟩)
     ·rw[ai z]at e;rcases hO.pin c o e with q|q|⟨bs,q1,q2⟩
      ·exact .inl q
      ·exact .inr (.inl q)
      ·refine .inr (.inr ⟨bs,q1,fun y hy=>?_⟩)
       obtain⟨u,hu⟩:=q2 y hy;exact⟨u,by rw[ai (ne hu)];exact hu⟩
    ·have hm:=ha a (ff h);exact⟨[],by rw[ai (ne hm.2)];exact hm.2,rfl,fun _ h=>nomatch h⟩
    ·by_cases z:c=r
     ·exact .inl z
     ·rw[ai z]at e;exact .inr (hp c bs e)
   refine⟨by omega,by omega,?_⟩
   refine aV (fun i ρ M=>∃x8 x9 jW,(eE x8/\eE x9/\eE jW)/\ρ=[some (.ptr b),some (.int (most:Nat)),some (.int (n:Nat)),some (.int (ways:Nat)),some (.int (kind:Nat)),some (.int (dg:Nat)),some (bo os),some (.ptr r),x8,x9,jW]/\i7 Γ.M0 M r as n (fun j=>if ((j:Nat):Int)∈os.take i then ways else 0))
    ⟨_,_,_,⟨.none,.none,.none⟩,rfl,RF.DB fun i _=>by simp⟩ (fun i d ρ M N2 hd hJ dU=>?_) (fun ρ M hJ=>?_)
   ·obtain⟨x8,x9,jW,⟨p8,p9,vQ⟩,rfl,RF⟩:=hJ;obtain⟨rfl,hi⟩:=bh hd;have eO:i<os.length :=by omega
    obtain⟨g0,g1⟩:=fv.mem (v6 eO);obtain⟨pk,Qc⟩:=xw g0;have Kr:pk<n :=by omega
    have kZ:bj (os.map Dv.int) ((i:Nat):Int)=some (.int (pk:Nat)):=bS (by rw[dL,ap eO,Qc];rfl)
    have Qd:pk<as.length :=by omega
    have Xh:bj (as.map Dv.ptr) ((pk:Nat):Int)=some (.ptr as[pk]):=bS (by rw[dL,ap Qd];rfl)
    have T8:as[pk]?=some as[pk]:=ap Qd;have IA:((pk:Nat):Int) ∉ os.take i:=fun z=>by
     obtain⟨j,hj,e⟩:=Z1.mp z;rw[List.getElem_take,<- Qc]at e;rw[aaH]at hj;exact JJ.mp fv.nodup j i (by omega) eO (by omega) e
    simp! only[];refine⟨by omega,by omega,by omega,uF (IP dg i) (fun d=>.int (tY os d)) (fun τ M'=>(∃x,τ=[x,some (bo os),some (.int (dg:Nat)),some (.int (i:Nat))])/\M'=M) ⟨⟨_,rfl⟩,rfl⟩ (fun d hd τ M' hI R0 R h1 h2=>?_) (fun τ M' hI=>?_)⟩
    ·obtain⟨⟨x,rfl⟩,rfl⟩:=hI;obtain⟨j,hj,rfl⟩:=km hd;simp only[Op]at h1 h2 ⊢;obtain⟨gx,yU,g0,g1⟩:=fv.at hj;have hg:tY os (.int (j:Nat))=gx:=yT yU;simp! only[yU];refine⟨by omega,by omega,fS (fun h=>?_) (fun h=>?_)⟩
     ·rw[hg]at h1;exact h1 h _ _ ⟨⟨_,rfl⟩,rfl⟩
     ·exact h2 h _ _ ⟨⟨_,rfl⟩,rfl⟩
    ·obtain⟨⟨x,rfl⟩,rfl⟩:=hI;obtain⟨gs,Xi,Yf,Yg,Xj⟩:=IQ (i:=i) fv (per:=dg) (by omega) (by omega)
     rw[Xi];refine⟨by omega,by omega,?_⟩
     refine aV (fun f ρ M=>(∃jW,eE jW/\ρ=[some (.ptr b),some (.int (most:Nat)),some (.int (n:Nat)),some (.int (ways:Nat)),some (.int (kind:Nat)),some (.int (dg:Nat)),some (bo os),some (.ptr r),some (.int (i:Nat)),some (bo gs),jW])/\i7 Γ.M0 M r as n (fun j=>if j=pk then f else if ((j:Nat):Int)∈os.take i then ways else 0))
      ⟨⟨_,vQ,rfl⟩,RF.DB fun j _=>by
       by_cases z:j=pk
       ·subst z;rw[if_neg IA,if_pos rfl]
       ·rw[if_neg z]⟩ (fun f d ρ M N3 hd hJ Gw=>?_) (fun ρ M hJ=>?_)
     ·obtain⟨⟨jW,vQ,rfl⟩,RF⟩:=hJ;obtain⟨rfl,hf⟩:=bh hd;obtain⟨row,em,ro⟩:=RF.rows pk _ T8;rw[if_pos rfl]at ro;simp! only[kZ,RF.rm,Xh,em];refine⟨b,_,rfl,RF.own.kp _ _ hb,by omega,by omega,fun t ht=>?_⟩
      have Ks:t<gs.length :=by omega
      simp only[show bj (gs.map Dv.int) (t:Int)=some (.int gs[t]) from bS (by rw[dL,ap Ks];rfl),em,bn,ro.1]
      have Xk:=Xj _ (v6 Ks);have er:row.map Dv.int++[Dv.int gs[t]]=(row++[gs[t]]).map Dv.int :=by rw[mf];rfl
      rw[er];refine⟨by omega,Gw _ _ ⟨⟨_,.int _,rfl⟩,(RF.set T8 (row:=row++[gs[t]]) (m:=f+1) ⟨by rw[r6,ro.1];rfl,fun y hy=>?_⟩).DB fun j _=>?_⟩⟩
      ·rcases qr.mp hy with z|z
       ·exact ro.2 y z
       ·rw[lc.mp z];exact Xk
      ·by_cases z:j=pk
       ·rw[if_pos z,if_pos z]
       ·rw[if_neg z,if_neg z,if_neg z]
     ·obtain⟨⟨jW,vQ,rfl⟩,RF⟩:=hJ;rw[rangeD_len]at RF;refine dU _ _ ⟨_,_,_,⟨.int _,.lI gs,vQ⟩,rfl,RF.DB fun j _=>?_⟩
      have oS:((j:Nat):Int)∈os.take (i+1) ↔ ((j:Nat):Int)∈os.take i\/j=pk :=by
       rw[aaB,qr,ap eO,Qc];constructor
       ·rintro (z|z)
        ·exact .inl z
        ·have:((j:Nat):Int)=(pk:Nat) :=by simpa using z
         exact .inr (by omega)
       ·rintro (z|z)
        ·exact .inl z
        ·exact .inr (by simp[z])
      by_cases z:j=pk
      ·rw[if_pos z,if_pos (oS.mpr (.inr z))]
      ·rw[if_neg z];by_cases y:((j:Nat):Int)∈os.take i
       ·rw[if_pos y,if_pos (oS.mpr (.inl y))]
       ·rw[if_neg y,if_neg (fun q=>(oS.mp q).elim y z)]
   ·obtain⟨x8,x9,jW,⟨p8,p9,vQ⟩,rfl,RF⟩:=hJ;rw[rangeD_len]at RF;refine hN _ _ ⟨r,as,os,_,_,_,⟨p8,p9,vQ⟩,rfl,RF.full fun j hj=>?_,fv⟩
    rw[Yr (by omega),if_pos (fv.perm.mem_iff.mpr (im.mpr ⟨j,l6.mpr hj,rfl⟩))]
 rintro ρ M ⟨r,as,os,x8,x9,jW,⟨p8,p9,vQ⟩,rfl,RM,fv⟩;have Be:=fv.len;have yV:∀{as:List ag} {M:Mh} {p:Nat},RowsM Γ.M0 M r as n ways->p<n->∃a,bj (as.map Dv.ptr) ((p:Nat):Int)=some (.ptr a)/\a∈as:=fun {as M p} RM hp=>by
  have hl:p<as.length :=by rw[RM.len];exact hp
  exact⟨as[p],bS (by rw[dL,ap hl];rfl),v6 hl⟩
 refine Dm (fun ρ M=>∃(as:List ag) (x8:Option Dv),eE x8/\ρ=[some (.ptr b),some (.int (most:Nat)),some (.int (n:Nat)),some (.int (ways:Nat)),some (.int (kind:Nat)),some (.int (dg:Nat)),some (bo os),some (.ptr r),x8,x9,jW]/\RowsM Γ.M0 M r as n ways) (fun N hN=>?_) ?_
 ·simp! only[];refine fS (fun h=>⟨by omega,by omega,?_⟩) (fun _=>hN _ _ ⟨as,_,p8,rfl,RM⟩)
  refine aV (fun i ρ M=>∃(as:List ag) (x8:Option Dv),eE x8/\ρ=[some (.ptr b),some (.int (most:Nat)),some (.int (n:Nat)),some (.int (ways:Nat)),some (.int (kind:Nat)),some (.int (dg:Nat)),some (bo os),some (.ptr r),x8,x9,jW]/\RowsM Γ.M0 M r as n ways) ⟨as,_,p8,rfl,RM⟩ (fun i d ρ M N2 hd hJ dU=>?_) (fun ρ M hJ=>hN _ _ hJ)
  obtain⟨as,x8,p8,rfl,RM⟩:=hJ;obtain⟨rfl,hi⟩:=bh hd;obtain⟨p,hp,pn⟩:=fv.prev hi;obtain⟨g,hg,g0,g1⟩:=fv.at hi;obtain⟨a,ea,ha⟩:=yV RM pn;obtain⟨row,em,ro⟩:=RM.row a ha;simp! only[hg,hp,RM.rm,ea];refine⟨b,_,rfl,RM.kp _ _ hb,by omega,by omega,fun t ht=>?_⟩
  simp only[em,bn,ro.1,qA (show t<ways by omega)]
  rw[nP];exact dU _ _ ⟨as,_,.int _,rfl,RM.ur ha (ro.set g0 g1)⟩
 rintro ρ M ⟨as,x8,p8,rfl,RM⟩;refine Dm (fun ρ M=>∃(as:List ag) (x8:Option Dv),eE x8/\ρ=[some (.ptr b),some (.int (most:Nat)),some (.int (n:Nat)),some (.int (ways:Nat)),some (.int (kind:Nat)),some (.int (dg:Nat)),some (bo os),some (.ptr r),x8,x9,jW]/\RowsM Γ.M0 M r as n ways) (fun N hN=>?_) ?_
 ·simp! only[];refine fS (fun h=>⟨by omega,by omega,?_⟩) (fun _=>hN _ _ ⟨as,_,p8,rfl,RM⟩)
  refine aV (fun i ρ M=>∃(as:List ag) (x8:Option Dv),eE x8/\ρ=[some (.ptr b),some (.int (most:Nat)),some (.int (n:Nat)),some (.int (ways:Nat)),some (.int (kind:Nat)),some (.int (dg:Nat)),some (bo os),some (.ptr r),x8,x9,jW]/\RowsM Γ.M0 M r as n ways) ⟨as,_,p8,rfl,RM⟩ (fun i d ρ M N2 hd hJ dU=>?_) (fun ρ M hJ=>?_)
  ·obtain⟨as,x8,p8,rfl,RM⟩:=hJ;obtain⟨rfl,hi⟩:=bh hd;obtain⟨p,hp,pn⟩:=fv.prev hi;obtain⟨g,hg,g0,g1⟩:=fv.at hi;simp! only[hg,hp];refine⟨by omega,⟨by omega,by omega,by omega⟩,fun a Bd=>?_⟩
   have nr:r≠a:=fun z=>by rw[<- z,RM.rm]at Bd;cases Bd
   rw[L1];simp only[ai nr,RM.rm,bn,RM.len,qA pn];exact dU _ _ ⟨_,_,.int _,rfl,RM.put Bd ⟨by rw[Sm],fun x hx=>by rw[List.eq_of_mem_replicate hx];exact⟨g0,g1⟩⟩ pn⟩
  ·obtain⟨as,x8,p8,rfl,RM⟩:=hJ;obtain⟨a,ea,ha⟩:=yV RM (p:=0) (by omega)
   have ea:bj (as.map Dv.ptr) 0=some (.ptr a):=ea;obtain⟨row,em,ro⟩:=RM.row a ha;simp! only[];refine⟨b,_,rfl,RM.kp _ _ hb,by omega,by omega,fun t ht=>?_⟩
   simp! only[RM.rm,ea,em,ro.1,show dH ways 0=some 0 from qA (d:=0) (by omega)]
   rw[nP];exact hN _ _ ⟨as,_,p8,rfl,RM.ur ha (ro.set (by omega) (by omega))⟩
 rintro ρ M ⟨as,x8,p8,rfl,RM⟩;have nb:∀{c o},Γ.M0 c=some o->c≠r:=fun e z=>by rw[z,RM.r0]at e;cases e
 have dk:Keeps Γ.M0 (cF M r):=fun c o e=>by rw[bM (nb e)];exact RM.kp c o e
 refine .inr ⟨r,_,rfl,RM.rm,RM.r0,⟨fun j d e=>?_,fun c o e=>?_⟩,?_⟩
 ·match j,e with
  |0,e=>cases e;exact .ptr (by rw[dk _ _ hb];rfl)
  |1,e=>cases e;exact .int _
  |2,e=>cases e;exact .int _
  |3,e=>cases e;exact .int _
  |4,e=>cases e;exact .int _
  |5,e=>cases e;exact .int _
  |6,e=>cases e;exact .lst (dj _)
  |7,e=>cases e;exact .lst fun d hd=>by
                obtain⟨a,ha,rfl⟩:=im.mp hd;obtain⟨row,em,_⟩:=RM.row a ha;exact .ptr (by rw[bM (RM.fr a ha).2,em];rfl)
  |8,e=>exact p8 _ _ (lm e)
  |9,e=>exact p9 _ _ (lm e)
  |10,e=>exact vQ _ _ (lm e)
  |j+11,e=>exact nomatch e
 ·have nc:c≠r:=fun z=>by rw[z,eA]at e;cases e
  rw[bM nc]at e;rcases RM.pin c o e with q|q|⟨row,rfl⟩|⟨bs,rfl,q2⟩
  ·exact .inl q
  ·exact absurd q nc
  ·exact .inr (dj row)
  ·refine .inr fun d hd=>?_
   obtain⟨a,ha,rfl⟩:=im.mp hd;obtain⟨h1,u,h2⟩:=q2 a ha;exact .ptr (by rw[bM h1,h2];rfl)
 ·simp! only[];refine⟨by rw[RM.len];omega,iB (acc:=[]) (fun acc τ M'=>∃rs:List (List Int),acc=rs.map eI/\(∃x,τ=[x])/\(∀row∈rs,fU n ways row)/\M'=cF M r) ⟨[],rfl,⟨_,rfl⟩,(fun _ h=>nomatch h),rfl⟩ (fun i d acc τ M' hd _ ⟨rs,e1,⟨x,e2⟩,t4,eM⟩ R hR=>?_) (fun ys τ M' hl ⟨rs,e1,⟨x,e2⟩,t4,eM⟩=>?_)⟩
  ·subst e1 e2 eM;obtain⟨a,ha,rfl⟩:=ly hd;have ha:=ff ha;obtain⟨row,em,ro⟩:=RM.row a ha;simp! only[bM (RM.fr a ha).2,em];refine hR _ _ _ ⟨rs++[row],by rw[mf];rfl,⟨_,rfl⟩,fun c hc=>?_,rfl⟩
   rcases qr.mp hc with z|z
   ·exact t4 c z
   ·rw[lc]at z;rw[z];exact ro
  ·rw[ID]at e1;subst e1 e2 eM;have BJ:rs.length=n :=by rw[bn,bn,RM.len]at hl;exact hl
   exact pF dk (yq rs) (q rs ways ⟨by omega,by omega,w2,fun row hr=>⟨(t4 row hr).1,fun g hg=>by rw[BJ];exact(t4 row hr).2 g hg⟩⟩ (by omega))
theorem zZ:aP ["thing"] ["thing"] (aq gD):=⟨rfl,rfl,rfl,by decide +kernel,rfl,by decide +kernel,by decide +kernel⟩
theorem qF:aP ["thing","many"] ["thing","many"] (aq dN):=⟨rfl,rfl,rfl,by decide +kernel,rfl,by decide +kernel,by decide +kernel⟩
theorem Gx:aP ["thing","many","width"] ["thing","many","width"] (aq lJ):=⟨rfl,rfl,rfl,by decide +kernel,rfl,by decide +kernel,by decide +kernel⟩
theorem pL:aP ["thing","many","width"] ["thing"] (aq lK):=⟨rfl,rfl,rfl,by decide +kernel,rfl,by decide +kernel,by decide +kernel⟩
def uL (d:Dv):Bool:=(isD "int" (fun _=>none) d).isSome
def Gy:Dv->Bool | .int _=>true|_=>false
def hV (m:Int):Dv->Bool | .int i=>decide (0<=i) && decide (i<m)|_=>false
def Qe:du:=fun ds M Q _=>∃d,ds=[d]/\uL d=true/\Q (.bl (Gy d)) M
theorem z9 {f:ag}{fd:tz}(D:Df K mg "is_whole" gD ["thing"] f fd) (bl:Bl mg):FnOk P w K mg base bA 1 f fd ["thing"] (bf P w K tb Qe) :=by
 refine eQ D zZ (fun ds M Q E hS=>by obtain⟨d,e,_⟩:=hS;rw[e];rfl) fun A outer s E Γ ds Q' E' hP hw hK ht hr hS=>?_
 obtain⟨d,e,hk,q⟩:=hS;refine⟨_,(av (bg (pz (aC (lu (K:=K) rfl) rfl bl.isinstance_ fi (ae (qv 0) (ae (m4 (v:=.ty "int") rfl bl.int_ NX rfl) af))) (m5 (OQ (aC (lu (K:=K) rfl) rfl bl.isinstance_ fi (ae (qv 0) (ae (m4 (v:=.ty "bool") rfl bl.bool_ K5 rfl) af)))))))),?_⟩
 subst e;cases d<;>first|exact⟨by decide,⟨by decide,.inl q⟩⟩|exact⟨by decide,.inl q⟩|exact nomatch hk
def Qf:du:=fun ds M Q _=>∃d m,ds=[d,.int m]/\uL d=true/\Q (.bl (hV m d)) M
theorem qG {f f1:ag}{fd b8:tz}(D:Df K mg "is_whole_below" dN ["thing","many"] f fd) (cS:Df K mg "is_whole" gD ["thing"] f1 b8) (bl:Bl mg):FnOk P w K mg base bA 2 f fd ["thing","many"] (bf P w K tb Qf) :=by
 have DE:=z9 (P:=P) (w:=w) (base:=base) (tb:=tb) cS bl;refine eQ D qF (fun ds M Q E hS=>by obtain⟨d,m,e,_⟩:=hS;rw[e];rfl) fun A outer s E Γ ds Q' E' hP hw hK ht hr hS=>?_
 obtain⟨d,m,e,hk,q⟩:=hS;refine⟨_,(av (bg (pz (aL DE (hr.mono (by decide)) rfl cS.mg cS.fn.kp cS.bd bH hP hw hK ht XR.none (ae (qv 0) af)) (m5 (Ig Ik uC ax (qv 0) (qv 1)))))),?_⟩
 subst e;refine⟨d,rfl,hk,?_⟩;cases d with
 |int i=>
  simp! only[Gy];refine fS (fun h=>?_) (fun h=>?_)
  ·rw[show hV m (.int i)=decide (i<m) by simp only[hV,h,W1]]at q
   exact .inl q
  ·rw[show hV m (.int i)=false by simp only[hV,h,Pc]]at q
   exact .inl q
 |_=>exact .inl q
def jr (m:Int) (w:Nat):Dv->Bool | .tup ds=>decide (ds.length=w) && ds.all (hV m)|_=>false
def IU:Dv->Bool | .tup ds=>ds.all uL|d=>uL d
def Qg:du:=fun ds M Q _=>∃d m w,ds=[d,.int m,.int (w:Nat)]/\IU d=true/\Q (.bl (jr m w d)) M
theorem GA {f f1 f2:ag}{fd b8 fd2:tz}{nQ aZ:ag}(D:Df K mg "is_row" lJ ["thing","many","width"] f fd) (js:E4 base fd nQ aZ) (hp:aZ∈tb) (eW:∃bm ob,Zs base li mg bm ob)
  (bO:Df K mg "is_whole_below" dN ["thing","many"] f1 b8) (cS:Df K mg "is_whole" gD ["thing"] f2 fd2) (bl:Bl mg):FnOk P w K mg base bA 4 f fd ["thing","many","width"] (bf P w K tb Qg) :=by
 have rY:=qG (P:=P) (w:=w) (base:=base) (tb:=tb) bO cS bl;refine eQ D Gx (fun ds M Q E hS=>by obtain⟨d,m,n,e,_⟩:=hS;rw[e];rfl) fun A outer s E Γ ds Q' E' hP hw hK ht hr hS=>?_
 obtain⟨d,m,n,e,hk,q⟩:=hS;have DF:aZ∈Γ.tb:=ht▸hp;refine⟨_,(ah (fb (QW.pt (Dg (ll (jP (aC (lu (K:=K) rfl) rfl bl.isinstance_ fi (ae (qv 0) (ae (m4 (v:=.ty "tuple") rfl bl.tuple_ jh rfl) af))))) (yb (bY Il (aC (bI (K:=K) rfl hK) rfl bl.len_ r9 (ae (qv 0) af)) (qv 2) (cW _)))))
   (av (bg mj))
   qss_nil)
  (av (bg (FW (k:=2) (N':=["goal","many"]) (tn:=1) (idx:=[1]) DF (hr.mono (by decide)) rfl (show aD ["thing","many","width"] (aq lJ) _ ["goal","many"] 1 [1] from by decide +kernel) rfl rfl js.code js.hd eW rfl bl.all_ (pA (K:=K) rfl (qv 0)) (fun _ _ _ _ _ _ _ hr=>(aF (i:=0) (show Cf [("goal" : ci),("many" : ci)] from by decide +kernel) rfl (mv rfl))) (fun _ _ _ _ _ _ _ hr=>cq) (fun _ _ _ _ _ _ _ hr=>(aL rY (hr.mono (by decide)) rfl bO.mg bO.fn.kp bO.bd bH hP hw hK ht XR.none (ae (qv 0) (ae (qv 1) af)))))))),?_⟩
 subst e;cases d with
 |tup es=>
  refine⟨by decide,fS (c := !decide ((es.length:Int)=(n:Nat))) (fun h=>?_) (fun h=>?_)⟩
  ·rw[show jr m n (.tup es)=false by simp at h;simp[jr];intro z;omega]at q
   exact .inl q
  ·rw[show jr m n (.tup es)=es.all (hV m) by simp at h;simp[jr,show es.length=n by omega]]at q
   refine uE (hV m) (fun τ=>∃x,τ=[x,some (.int m)]) ⟨none,rfl⟩ (fun d hd τ ⟨x,e⟩ R hR=>?_) (.inl q)
   subst e;exact⟨d,m,rfl,u8.mp hk d hd,hR _ ⟨_,rfl⟩⟩
 |_=>first|exact⟨by decide,.inl q⟩|exact nomatch hk
def lM:Dv->Bool | .tup rs=>decide (1<=rs.length/\rs.length<=9) && (rs.all (jr rs.length 2) || rs.all (jr rs.length 3))|_=>false
def DG:Dv->Bool | .tup rs=>rs.all IU|d=>uL d
def Qh:du:=fun ds M Q _=>∃d,ds=[d]/\DG d=true/\Q (.bl (lM d)) M
theorem GB {f f1 f2 f3:ag}{fd b8 fd2 pM:tz}{nQ aZ yW bp:ag}(D:Df K mg "is_net" lK ["thing"] f fd) (nR:E4 base fd yW bp) (Kr:bp∈tb) (iC:Df K mg "is_row" lJ ["thing","many","width"] f3 pM) (js:E4 base pM nQ aZ) (hp:aZ∈tb) (eW:∃bm ob,Zs base li mg bm ob)
  (bO:Df K mg "is_whole_below" dN ["thing","many"] f1 b8) (cS:Df K mg "is_whole" gD ["thing"] f2 fd2) (bl:Bl mg) {tk:Zj} (jt:mg "MOST_PLACES" = some (.int 9 tk)):FnOk P w K mg base bA 6 f fd ["thing"] (bf P w K tb Qh) :=by
 have IV:=GA (P:=P) (w:=w) (tb:=tb) iC js hp eW bO cS bl;refine eQ D pL (fun ds M Q E hS=>by obtain⟨d,e,_⟩:=hS;rw[e];rfl) fun A outer s E Γ ds Q' E' hP hw hK ht hr hS=>?_
 obtain⟨d,e,hk,q⟩:=hS;have nT:bp∈Γ.tb:=ht▸Kr;refine⟨_,(ah (fb (QW.pt (Dg (ll (jP (aC (lu (K:=K) rfl) rfl bl.isinstance_ fi (ae (qv 0) (ae (m4 (v:=.ty "tuple") rfl bl.tuple_ jh rfl) af))))) (yb (ll (Ih Ik Ik ax (aC (bI (K:=K) rfl hK) rfl bl.len_ r9 (ae (qv 0) af)) (Ie (i:=9) rfl jt ⟨_,rfl⟩))))))
   (av (bg mj))
   qss_nil)
  (ah (aG (i:=1) pL.nd rfl (LH rfl) (aC (bI (K:=K) rfl hK) rfl bl.len_ r9 (ae (qv 0) af)))
  (ah (bV sw rfl (pA (K:=K) rfl (jQ (ae ax (ae ax af)))) (fun gP eP ew eK et=>by have hP:=hP.trans eP.symm;have hw:=hw.trans ew.symm;have hK:=hK.trans eK.symm;have ht:=ht.trans et.symm;have nT:=et.symm▸nT;exact⟨(aF (i:=2) pL.nd rfl (LH rfl)),(av (fb (jP (FW (k:=4) (N':=["row","many","width"]) (tn:=1) (idx:=[1,2]) nT (hr.mono (by decide)) rfl (show aD ["thing","many","width"] (aq lK) _ ["row","many","width"] 1 [1,2] from by decide +kernel) rfl rfl nR.code nR.hd eW rfl bl.all_ (pA (K:=K) rfl (qv 0)) (fun _ _ _ _ _ _ _ hr=>(aF (i:=0) (show Cf [("row" : ci),("many" : ci),("width" : ci)] from by decide +kernel) rfl (mv rfl))) (fun _ _ _ _ _ _ _ hr=>cq) (fun _ _ _ _ _ _ _ hr=>(aL IV (hr.mono (by decide)) rfl iC.mg iC.fn.kp iC.bd bH hP hw hK ht XR.none (ae (qv 0) (ae (qv 1) (ae (qv 2) af)))))))
   (av (bg mj))
   qss_nil))⟩))
  (av (bg mj))))),?_⟩
 subst e;cases d with
 |tup rs=>
  refine⟨by decide,?_⟩
  have row:∀(n:Nat) (D:Bool->Mh->Prop),(D (rs.all (jr rs.length n)) Γ.M0)->mn (zgName 0) zNoIf (zCall Qg (fun _ _=>False) (zCons (zVar 0) (zCons (zVar 1) (zCons (zVar 2) zNil)))) rs [none,some (.int rs.length),some (.int (n:Nat))] Γ.M0 D:=fun n D hD=>by
   refine uE (jr rs.length n) (fun τ=>∃x,τ=[x,some (.int rs.length),some (.int (n:Nat))]) ⟨none,rfl⟩ (fun d hd τ ⟨x,e⟩ R hR=>?_) hD
   subst e;exact⟨d,rs.length,n,rfl,u8.mp hk d hd,hR _ ⟨_,rfl⟩⟩
  simp! only[];refine fS (fun h1=>fS (fun h2=>?_) (fun h2=>⟨by decide,?_⟩)) (fun h1=>?_)
  ·rw[show lM (.tup rs)=false by simp at h1 h2;simp[lM];intro z;omega]at q
   exact .inl q
  ·have e:lM (.tup rs)=(rs.all (jr rs.length 2) || rs.all (jr rs.length 3)) :=by
    simp at h1 h2;simp only[lM];rw[decide_eq_true (by omega),W1]
   rw[e]at q;refine row 2 _ (fS (fun z=>?_) (fun z=>row 3 _ (fS (fun z2=>?_) (fun z2=>?_))))
   ·rw[z]at q;exact .inl q
   ·rw[z,z2]at q;exact .inl q
   ·rw[z,z2]at q;exact .inl q
  ·rw[show lM (.tup rs)=false by simp at h1;simp[lM];intro z;omega]at q
   exact .inl q
 |_=>first|exact⟨by decide,.inl q⟩|exact nomatch hk
theorem Aa:aP ["thing"] ["thing"] (aq i5):=⟨rfl,rfl,rfl,by decide +kernel,rfl,by decide +kernel,by decide +kernel⟩
theorem GC {m:Int}{g:Int}(h:0<=g/\g<m):hV m (.int g)=true :=by simp[hV,h.1,h.2]
theorem BV {aa:List (List Int)}{n:Nat}(o:bu aa n):lM (eN aa)=true :=by
 have hr:∀d∈aa.map eI,jr (aa.map eI).length n d=true:=fun d hd=>by
  obtain⟨r,hr,rfl⟩:=im.mp hd;obtain⟨h1,h2⟩:=o.row r hr;simp only[jr,bn];rw[decide_eq_true h1,W1,u8];intro d hd;obtain⟨g,hg,rfl⟩:=im.mp hd;exact GC (h2 g hg)
 have ho:=o.one;have hn:=o.nine;simp only[lM,eN];rw[decide_eq_true (by rw[bn];omega),W1]
 have ha:=u8.mpr hr;rcases o.wid with rfl|rfl
 ·rw[ha];rfl
 ·rw[ha,Bool.or_true]
theorem BW (aa:List (List Int)):DG (eN aa)=true :=by
 simp only[DG,eN];rw[u8];intro d hd;obtain⟨r,_,rfl⟩:=im.mp hd;simp only[IU,eI];rw[u8];intro d hd;obtain⟨g,hg,rfl⟩:=im.mp hd;rfl
def DH (C:ag):du:=fun ds M Q E=>∃d,ds=[d]/\DG d=true/\(lM d=true->Q .ay M)/\(lM d=false->E C M)
theorem Ab {f f1:ag}{fd b8:tz}{C0 C_NoNet:ag}{cs:List ag}(D:Df K mg "need_net" i5 ["thing"] f fd) (iD:Df K mg "is_net" lK ["thing"] f1 b8) (rZ:FnOk P w K mg base bA 6 f1 b8 ["thing"] (bf P w K tb Qh))
  (X_:HQ K C0 cs) (uM:C_NoNet∈cs) (uN:mg "NoNet" = some (.ref C_NoNet)):FnOk P w K mg base (fm P w) 7 f fd ["thing"] (bf P w K tb (DH C_NoNet)) :=by
 refine qt D Aa (fun ds M Q E hS=>by obtain⟨d,e,_⟩:=hS;rw[e];rfl) fun A outer s E Γ ds Q' E' hP hw hK ht hE hr hS=>?_
 obtain⟨d,e,hk,q1,q2⟩:=hS;refine⟨_,(av (fb (ll (jP (aL rZ (hr.mono (by decide)) rfl iD.mg iD.fn.kp iD.bd bH hP hw hK ht XR.none (ae (qv 0) af))))
   (av (yk (X_.ex _ uM) PySem.F.excBase_ValueError rfl Fm hE rfl uN (ae xY af)))
   qss_nil)),?_⟩
 subst e;simp! only[];refine⟨d,rfl,hk,fS (fun h=>?_) (fun h=>?_)⟩
 ·exact⟨by decide,q2 (by simpa using h)⟩
 ·exact .inl (q1 (by simpa using h))
end
section
variable {P:jp}{w:lf}{K:bv}{mg:ci->Option al}{base:i8}{tb:cX}{C_NoNet C_NoSign C0:ag}{cs:List ag}
theorem Ac:aP ["net"] ["net"] (aq ko):=⟨rfl,rfl,rfl,by decide +kernel,rfl,by decide +kernel,by decide +kernel⟩
theorem DI:aP ["net","thing"] ["net","thing"] (aq my):=⟨rfl,rfl,rfl,by decide +kernel,rfl,by decide +kernel,by decide +kernel⟩
theorem yX:aP ["net","thing"] ["net","thing"] (aq jC):=⟨rfl,rfl,rfl,by decide +kernel,rfl,by decide +kernel,by decide +kernel⟩
def sgn (w:Nat):ci:=ZD "abc" none (some (w:Int))
def sg (k:Nat):ci:=⟨#[97+k]⟩
theorem Qi {aa:List (List Int)}{n k:Nat}(h:k<aa.length):bj (aa.map eI) ((k:Nat):Int)=some (eI aa[k]):=bS (by rw[dL,ap h];rfl)
theorem BX {aa:List (List Int)}{n:Nat}(o:bu aa n):∃r,bj (aa.map eI) 0=some (eI r)/\r.length=n :=by
 have:=o.one;exact⟨aa[0],Qi (n:=n) (k:=0) (by omega),(o.row _ (v6 _)).1⟩
def GD:du:=fun ds M Q _=>∃aa n,ds=[eN aa]/\bu aa n/\Q (.str (sgn n)) M
theorem Ad {f f1:ag}{fd b8:tz}(D:Df K mg "signs_of" ko ["net"] f fd)
  (cA:Df K mg "need_net" i5 ["thing"] f1 b8) (gE:FnOk P w K mg base (fm P w) 7 f1 b8 ["thing"] (bf P w K tb (DH C_NoNet))) (bl:Bl mg) {tk:Zj} (ju:mg "SIGNS" = some (.str "abc" tk)) :
  FnOk P w K mg base (fm P w) 8 f fd ["net"] (bf P w K tb GD) :=by
 refine qt D Ac (fun ds M Q E hS=>by obtain⟨aa,n,e,_⟩:=hS;rw[e];rfl) fun A outer s E Γ ds Q' E' hP hw hK ht hE hr hS=>?_
 obtain⟨aa,n,e,o,q⟩:=hS;refine⟨_,(ah (dX (aL gE (hr.mono (by decide)) rfl cA.mg cA.fn.kp cA.bd qj hP hw hK ht hE (ae (qv 0) af)))
  (av (bg (yf J5 (xZ (z := "abc") rfl ju ⟨_,rfl⟩) Bt (Bu (aC (bI (K:=K) rfl hK) rfl bl.len_ r9 (ae (aK (aY (K:=K) rfl) (qv 0) ax (fun _ _=>rfl)) af))))))),?_⟩
 subst e;obtain⟨r,h0,hl⟩:=BX o;refine⟨_,rfl,BW aa,fun _=>?_,fun h=>by rw[BV o]at h;cases h⟩
 simp! only[h0,hl];exact⟨by decide,.inl q⟩
def qB (n:Nat):Dv->Bool | .str z=>decide (z.length=1) && J1 z (sgn n)|_=>false
theorem IW {n k:Nat}(hn:n=2\/n=3) (hk:k<n):qB n (.str (sg k))=true :=by
 rcases hn with rfl|rfl
 ·have:k=0\/k=1 :=by omega
  rcases this with rfl|rfl<;>decide +kernel
 ·have:k=0\/k=1\/k=2 :=by omega
  rcases this with rfl|rfl|rfl<;>decide +kernel
def T9 (d:Dv):Prop:=uL d=true/\∀z,d=.str z->z.length<=10000
def Kt:du:=fun ds M Q _=>∃aa n d,ds=[eN aa,d]/\bu aa n/\T9 d/\Q (.bl (qB n d)) M
theorem DJ {f f1:ag}{fd b8:tz}(D:Df K mg "is_sign" my ["net","thing"] f fd)
  (gF:Df K mg "signs_of" ko ["net"] f1 b8) (nU:FnOk P w K mg base (fm P w) 8 f1 b8 ["net"] (bf P w K tb GD)) (bl:Bl mg) :
  FnOk P w K mg base (fm P w) 9 f fd ["net","thing"] (bf P w K tb Kt) :=by
 refine qt D DI (fun ds M Q E hS=>by obtain⟨aa,n,d,e,_⟩:=hS;rw[e];rfl) fun A outer s E Γ ds Q' E' hP hw hK ht hE hr hS=>?_
 obtain⟨aa,n,d,e,o,⟨hk,hz⟩,q⟩:=hS;refine⟨_,(av (bg (pz (aC (lu (K:=K) rfl) rfl bl.isinstance_ fi (ae (qv 1) (ae (m4 (v:=.ty "str") rfl bl.str_ NY rfl) af))) (pz (kI rQ (aC (bI (K:=K) rfl hK) rfl bl.len_ r9 (ae (qv 1) af)) ax (cW _)) (m5 (kI Im (qv 1) (aL nU (hr.mono (by decide)) rfl gF.mg gF.fn.kp gF.bd qj hP hw hK ht hE (ae (qv 0) af)) (by rfl))))))),?_⟩
 subst e;cases d with
 |str z=>
  refine⟨by decide,?_⟩
  simp! only[];refine⟨wb (hz z rfl) (by decide),fS (fun h=>?_) fun h=>?_⟩
  ·refine⟨aa,n,rfl,o,?_⟩;simp! only[];simp only[qB,show z.length=1 by simp at h;omega,decide_true,W1]at q
   exact .inl q
  ·simp only[qB,show decide (z.length=1)=false by simp at h ⊢;omega,Pc]at q
   exact .inl q
 |_=>first|exact⟨by decide,.inl q⟩|exact nomatch hk
def vR (C:ag):du:=fun ds M Q E=>∃aa n d,ds=[eN aa,d]/\bu aa n/\T9 d/\(qB n d=true->Q .ay M)/\(qB n d=false->E C M)
theorem yY {f f1:ag}{fd b8:tz}(D:Df K mg "need_sign" jC ["net","thing"] f fd) (iL:Df K mg "is_sign" my ["net","thing"] f1 b8) (pN:FnOk P w K mg base (fm P w) 9 f1 b8 ["net","thing"] (bf P w K tb Kt))
  (X_:HQ K C0 cs) (sd:C_NoSign∈cs) (se:mg "NoSign" = some (.ref C_NoSign)):FnOk P w K mg base (fm P w) 10 f fd ["net","thing"] (bf P w K tb (vR C_NoSign)) :=by
 refine qt D yX (fun ds M Q E hS=>by obtain⟨aa,n,d,e,_⟩:=hS;rw[e];rfl) fun A outer s E Γ ds Q' E' hP hw hK ht hE hr hS=>?_
 obtain⟨aa,n,d,e,o,hk,q1,q2⟩:=hS;refine⟨_,(av (fb (ll (jP (aL pN (hr.mono (by decide)) rfl iL.mg iL.fn.kp iL.bd qj hP hw hK ht hE (ae (qv 0) (ae (qv 1) af)))))
   (av (yk (X_.ex _ sd) PySem.F.excBase_ValueError rfl Fm hE rfl se (ae xY af)))
   qss_nil)),?_⟩
 subst e;simp! only[];refine⟨aa,n,d,rfl,o,hk,fS (fun h=>?_) (fun h=>?_)⟩
 ·exact⟨by decide,q2 (by simpa using h)⟩
 ·exact .inl (q1 (by simpa using h))
end
section
def stepI (g:List Int) (x:Int):Int:=g.getD x.toNat 0
def cZ (g:List Int):Prop:=∀x∈g,0<=x/\x<(g.length:Int)
def aR (g:List Int):Nat->Int->Int
 |0,p=>p
 |k+1,p=>stepI g (aR g k p)
theorem IY {g:List Int}(h:cZ g) {x:Int}(h0:0<=x) (h1:x<(g.length:Int)):0<=stepI g x/\stepI g x<(g.length:Int) :=by
 unfold stepI;have hx:x.toNat<g.length :=by omega
 rw[cr,ap hx];exact h _ (v6 hx)
theorem i9 {g:List Int}(h:cZ g) {p:Int}(h0:0<=p) (h1:p<(g.length:Int)):∀k,0<=aR g k p/\aR g k p<(g.length:Int)
 |0=>⟨h0,h1⟩
 |k+1=>IY h (i9 h h0 h1 k).1 (i9 h h0 h1 k).2
def fV (g:List Int):Nat->List Int
 |0=>eL g.length
 |k+1=>sortI (uq ((fV g k).map (stepI g)))
theorem nV {n:Nat}{x:Int}:x∈eL n ↔ 0<=x/\x<(n:Int) :=by
 unfold eL;rw[im];constructor
 ·rintro⟨i,hi,rfl⟩;have:=l6.mp hi;omega
 ·rintro⟨h0,h1⟩;exact⟨x.toNat,l6.mpr (by omega),by omega⟩
theorem iE {g:List Int}:∀{k:Nat}{x:Int},x∈fV g k ↔ ∃p:Int,0<=p/\p<(g.length:Int)/\x=aR g k p
 |0,x=>by
          rw[fV,nV];exact⟨fun h=>⟨x,h.1,h.2,rfl⟩,fun⟨p,h0,h1,e⟩=>by rw[e];exact⟨h0,h1⟩⟩
 |k+1,x=>by
          rw[fV,(sortI_perm _).mem_iff,HF,im];constructor
          ·rintro⟨y,hy,rfl⟩;obtain⟨p,h0,h1,rfl⟩:=iE.mp hy;exact⟨p,h0,h1,rfl⟩
          ·rintro⟨p,h0,h1,rfl⟩;exact⟨aR g k p,iE.mpr ⟨p,h0,h1,rfl⟩,rfl⟩
theorem uO {g:List Int}(h:cZ g) (k:Nat):∀x∈fV g k,0<=x/\x<(g.length:Int):=fun x hx=>by
 obtain⟨p,h0,h1,rfl⟩:=iE.mp hx;exact i9 h h0 h1 k
theorem yZ (g:List Int):∀k,(fV g k).length<=g.length
 |0=>by rw[fV];unfold eL;simp
 |k+1=>by
          rw[fV,(sortI_perm _).length_eq];have:=xx ((fV g k).map (stepI g));have:=yZ g k;rw[bn]at *;omega
def bq (g:List Int):List Int:=fV g g.length
def cB (g:List Int) (p:Int):Nat:=((hX (g.length+1)).find? fun j=>decide (aR g j p∈bq g)).getD 0
theorem nW {g:List Int}{p:Int}(h0:0<=p) (h1:p<(g.length:Int)):cB g p<=g.length/\aR g (cB g p) p∈bq g/\∀j<cB g p,aR g j p ∉ bq g :=by
 have hn:aR g g.length p∈bq g:=iE.mpr ⟨p,h0,h1,rfl⟩;unfold cB;cases e:(hX (g.length+1)).find? fun j=>decide (aR g j p∈bq g) with
 |none=>
  have:=aai.mp e g.length (l6.mpr (by omega))
  simp[hn]at this
 |some j=>
  obtain⟨hj,as,bs,e2,hb⟩:=List.find?_eq_some_iff_append.mp e;have hm:j∈hX (g.length+1) :=by rw[e2];simp
  have hl:=l6.mp hm;refine⟨by simp only[ZB];omega,by simpa using hj,fun i hi=>?_⟩
  simp only[ZB]at hi;have hlen:as.length=j :=by
   have h3:(hX (g.length+1))[as.length]?=some j :=by rw[e2];simp
   rw[ca]at h3;obtain⟨h4,h5⟩:=h3;rw[RI]at h5;exact h5
  have gY:i∈as :=by
   have h3:(hX (g.length+1))[i]?=some i :=by rw[EU (by omega)]
   rw[e2,wp (by omega)]at h3
   exact ff h3
  simpa using hb i gY
def cT (g:List Int) (p:Int) (k:Nat):List Int:=(hX (k+1)).map fun j=>aR g j p
theorem vT (g:List Int) (p:Int) (k:Nat):cT g p (k+1)=cT g p k++[aR g (k+1) p] :=by
 unfold cT;rw[SO,mf];rfl
theorem nX (g:List Int) (p:Int) (k:Nat):(cT g p k).length=k+1 :=by simp[cT]
theorem wW {α:Type}{xs:List α}{x:α}:bj (xs++[x]) (-1)=some x :=by
 unfold bj dH;rw[r6,if_neg (by decide),if_pos (by simp;omega)]
 have:((-1:Int)+((xs.length + [x].length:Nat):Int)).toNat=xs.length :=by simp;omega
 rw[this];simp
theorem iM (g:List Int) (p:Int) (k:Nat):bj ((cT g p k).map Dv.int) (-1)=some (.int (aR g k p)) :=by
 unfold cT;rw[SO,mf,mf];exact wW
theorem step_at {g:List Int}{x:Int}(h0:0<=x) (h1:x<(g.length:Int)):bj (g.map Dv.int) x=some (.int (stepI g x)) :=by
 obtain⟨k,rfl⟩:=xw h0;unfold stepI;rw[xL];have hk:k<g.length :=by omega
 exact bS (by rw[dL,ap hk,cr,ap hk];rfl)
theorem GF (ns:List Int):ns.foldl dw []=uq ns:=rfl
end
theorem dY (g:List Int) (b:Nat) (p:Int):∀a,aR g (a+b) p=aR g a (aR g b p)
 |0=>by rw[WI];rfl
 |a+1=>by rw[show a+1+b=(a+b)+1 by omega];show stepI g (aR g (a+b) p)=stepI g (aR g a (aR g b p));rw[dY g b p a]
theorem jv:∀(ks U:List Int),ks.Nodup->(∀k∈ks,k∈U)->ks.length<=U.length
 | [],_,_,_=>ut _
 |k::ks,U,nd,h=>by
          have hn:=NG.mp nd;have hk:=h k ii;have ih:=jv ks (U.erase k) hn.2 fun x hx=>(YH (fun e=>hn.1 (by rw[<- e];exact hx))).mpr (h x (db _ hx))
          rw[WE hk]at ih;have:=Ps hk;rw[wn];omega
theorem pO {g:List Int}(h:cZ g) {p:Int}(hp:p∈bq g):∃m,1<=m/\m<=g.length/\aR g m p=p :=by
 obtain⟨q,q0,q1,rfl⟩:=iE.mp hp;have hex:∃i j,i<j/\j<=g.length/\aR g i q=aR g j q :=by
  refine Db fun ph=>?_
  have nd:((hX (g.length+1)).map fun j=>aR g j q).Nodup :=by
   rw[Cf,Yx];refine JJ.mpr fun i j hi hj qP e=>ph ⟨i,j,qP,?_,?_⟩
   ·rw[At]at hj;omega
   ·rw[RI,RI]at e;exact e
  have:=jv _ (eL g.length) nd fun k hk=>by
   obtain⟨j,_,rfl⟩:=im.mp hk;exact nV.mpr (i9 h q0 q1 j)
  rw[bn,At]at this;have e:(eL g.length).length=g.length :=by simp[eL]
  omega
 obtain⟨i,j,qP,hj,e⟩:=hex;refine⟨j - i,by omega,by omega,?_⟩
 rw[<- dY,show j - i+g.length=(g.length - i)+j by omega,dY,<- e,<- dY,show g.length - i+i=g.length by omega]
def bW (g:List Int) (p:Int):Nat:=((hX (g.length+1)).find? fun m=>decide (1<=m/\aR g m p=p)).getD 0
theorem jw {g:List Int}(h:cZ g) {p:Int}(hp:p∈bq g):1<=bW g p/\bW g p<=g.length/\aR g (bW g p) p=p/\∀j,1<=j->j<bW g p->aR g j p≠p :=by
 obtain⟨m,m1,m2,m3⟩:=pO h hp;unfold bW;cases e:(hX (g.length+1)).find? fun m=>decide (1<=m/\aR g m p=p) with
 |none=>
  have:=aai.mp e m (l6.mpr (by omega))
  simp[m1,m3]at this
 |some k=>
  have hk:=List.find?_some e;have Xl:=List.mem_of_find?_eq_some e;simp only[decide_eq_true_eq]at hk;have:=l6.mp Xl;refine⟨hk.1,by show k<=_;omega,hk.2,fun j j1 jk ej=>?_⟩
  rw[List.find?_eq_some_iff_append]at e;obtain⟨_,as,bs,J9,ph⟩:=e;have Xm:j∈as :=by
   have hl:as.length=k :=by
    have h1:(hX (g.length+1))[as.length]?=some k :=by rw[J9];simp
    obtain⟨h2,h3⟩:=ca.mp h1;rw[RI]at h3;exact h3
   have h1:(hX (g.length+1))[j]?=some j :=by rw[EU (by have:j<k:=jk;omega)]
   rw[J9,wp (by have:j<k:=jk;omega)]at h1
   exact ff h1
  have:=ph j Xm;simp[j1,ej]at this
def nY (g:List Int) (p:Int):List Int:=(hX (bW g p)).map fun j=>aR g j p
theorem pP {g:List Int}{p:Int}{m:Nat}(e:aR g m p=p):∀k,aR g (k * m) p=p
 |0=>by rw[Nat.zero_mul];rfl
 |k+1=>by rw[Nat.succ_mul,dY,e];exact pP e k
theorem sf {g:List Int}(h:cZ g) {p:Int}(hp:p∈bq g) {x:Int}:x∈nY g p ↔ ∃j,x=aR g j p :=by
 obtain⟨p1,p2,p3,_⟩:=jw h hp;unfold nY;rw[im];constructor
 ·rintro⟨j,_,rfl⟩;exact⟨j,rfl⟩
 ·rintro⟨j,rfl⟩;refine⟨j % bW g p,l6.mpr (ZW _ (by omega)),?_⟩
  have e:j=j % bW g p+(j / bW g p) * bW g p :=by rw[aaI];exact(Nat.mod_add_div _ _).symm
  rw[show aR g j p=aR g (j % bW g p+(j / bW g p) * bW g p) p by rw[<- e],dY,pP p3]
theorem vU {g:List Int}(h:cZ g) {p:Int}(hp:p∈bq g) {x:Int}(hx:x∈nY g p):x∈bq g :=by
 obtain⟨j,rfl⟩:=(sf h hp).mp hx;obtain⟨q,q0,q1,rfl⟩:=iE.mp hp;refine iE.mpr ⟨aR g j q,(i9 h q0 q1 j).1,(i9 h q0 q1 j).2,?_⟩;rw[<- dY,<- dY,Nat.add_comm]
section
variable {P:jp}{w:lf}{K:bv}{mg:ci->Option al}{base:i8}{tb:cX}{C_NoNet C_NoSign C0:ag}{cs:List ag}
theorem rB:aP ["net","sign","at"] ["net","sign"] (aq i6):=⟨rfl,rfl,rfl,by decide +kernel,rfl,by decide +kernel,by decide +kernel⟩
theorem gG:aP ["goals","places","turn"] ["goals"] (aq fu):=⟨rfl,rfl,rfl,by decide +kernel,rfl,by decide +kernel,by decide +kernel⟩
theorem Xn {k:Nat}(h:k<3):bj ("abc" : ci).cps.toList ((k:Nat):Int)=some (97+k) :=by
 have:k=0\/k=1\/k=2 :=by omega
 rcases this with rfl|rfl|rfl<;>decide +kernel
theorem GH {k:Nat}(h:k<3):∃rest,OK "abc" (sg k) 0 ("abc" : ci).length 1=k::rest :=by
 have:k=0\/k=1\/k=2 :=by omega
 rcases this with rfl|rfl|rfl<;>exact⟨[],by decide +kernel⟩
theorem BZ {row:List Int}{k:Nat}(h:k<row.length):bj (row.map Dv.int) ((k:Nat):Int)=some (.int (row.getD k 0)):=bS (by rw[dL,ap h,cr,ap h];rfl)
def aS (aa:List (List Int)) (k:Nat):List Int:=aa.map fun r=>r.getD k 0
theorem pQ {aa:List (List Int)}{n k:Nat}(o:bu aa n) (hk:k<n):cZ (aS aa k):=fun x hx=>by
 obtain⟨r,hr,rfl⟩:=im.mp hx;obtain⟨a,b⟩:=o.row r hr;unfold aS;rw[bn,cr,ap (by omega)]
 exact b _ (v6 _)
theorem GI {aa:List (List Int)}{n:Nat}(o:bu aa n):aa.length<sizeLine:=Lu o.nine (by decide)
theorem DK {aa:List (List Int)}{n k:Nat}(o:bu aa n) (hk:k<n) {M:Mh}{x:Option Dv}{Q:List Dv->Mh->Prop}(q:Q ((aS aa k).map .int) M):gV (zgName 0) zNoIf (zOp zIx (zVar 0) (zVar 1)) (aa.map eI) [x,some (.int (k:Nat))] M Q :=by
 refine jl (fun d=>match d with | .tup ds=>(bj ds (k:Nat)).getD .ay|d=>d) (fun τ M'=>(∃x,τ=[x,some (.int (k:Nat))])/\M'=M) ⟨⟨x,rfl⟩,rfl⟩ (fun d hd τ M' ⟨⟨x,e⟩,e2⟩ R hR=>?_) (fun τ M' ⟨_,e⟩=>?_)
 ·subst e e2;obtain⟨r,hr,rfl⟩:=im.mp hd;have hl:=(o.row r hr).1;have h:=hR [some (eI r),some (.int (k:Nat))] M' ⟨⟨_,rfl⟩,rfl⟩;simp! only[BZ (show k<r.length by omega),ZB]at h ⊢
  exact h
 ·subst e;rw[wP];have e:aa.map ((fun d=>match d with | .tup ds=>(bj ds (k:Nat)).getD .ay|d=>d) ∘ eI)=(aS aa k).map Dv.int :=by
   unfold aS;rw[wP];refine GG fun r hr=>?_
   have hl:=(o.row r hr).1;simp only[Zp,eI,BZ (show k<r.length by omega),ZB]
  rw[e];exact q
def GJ:du:=fun ds M Q _=>∃aa n k,ds=[eN aa,.str (sg k)]/\bu aa n/\k<n/\Q (bo (aS aa k)) M
theorem Ae {f f1 f2:ag}{fd b8 fd2:tz}(D:Df K mg "goals_of" i6 ["net","sign"] f fd)
  (cA:Df K mg "need_net" i5 ["thing"] f1 b8) (gE:FnOk P w K mg base (fm P w) 7 f1 b8 ["thing"] (bf P w K tb (DH C_NoNet)))
  (fE:Df K mg "need_sign" jC ["net","thing"] f2 fd2) (mK:FnOk P w K mg base (fm P w) 10 f2 fd2 ["net","thing"] (bf P w K tb (vR C_NoSign))) (bl:Bl mg) {tk:Zj} (ju:mg "SIGNS" = some (.str "abc" tk)) :
  FnOk P w K mg base (fm P w) 11 f fd ["net","sign"] (bf P w K tb GJ) :=by
 refine qt D rB (fun ds M Q E hS=>by obtain⟨aa,n,k,e,_⟩:=hS;rw[e];rfl) fun A outer s E Γ ds Q' E' hP hw hK ht hE hr hS=>?_
 obtain⟨aa,n,k,e,o,hk,q⟩:=hS;refine⟨_,(ah (dX (aL gE (hr.mono (by decide)) rfl cA.mg cA.fn.kp cA.bd qj hP hw hK ht hE (ae (qv 0) af)))
  (ah (dX (aL mK (hr.mono (by decide)) rfl fE.mg fE.fn.kp fE.bd qj hP hw hK ht hE (ae (qv 0) (ae (qv 1) af))))
  (ah (aG (i:=2) rB.nd rfl (LH rfl) (ig (K:=K) rfl PySem.F.plainAttrs_str PySem.F.slot_str_index PySem.F.type_str_index Iq (xZ (z := "abc") rfl ju ⟨_,rfl⟩) (ae (qv 1) af)))
  (av (bg (dC (N':=["row","at"]) (tn:=1) (idx:=[2]) rfl (show aD ["net","sign","at"] (aq i6) _ ["row","at"] 1 [2] from by decide +kernel) (pA (K:=K) rfl (qv 0)) (fun _ _ _ _ _=>(aF (i:=0) (show Cf [("row" : ci),("at" : ci)] from by decide +kernel) rfl (mv rfl))) (fun _ _ _ _ _=>cq) (fun _ _ _ _ _=>(aK (aY (K:=K) rfl) (qv 0) (qv 1) (fun _ _=>rfl))))))))),?_⟩
 subst e;have GK:=o.wid;obtain⟨rest,hi⟩:=GH (show k<3 by omega)
 refine⟨_,rfl,BW aa,fun _=>?_,fun h=>by rw[BV o]at h;cases h⟩
 refine⟨aa,n,.str (sg k),rfl,o,⟨rfl,fun z e=>by cases e;show 1<=10000;decide⟩,fun _=>?_,fun h=>by rw[IW o.wid hk]at h;cases h⟩
 simp! only[hi];exact⟨GI o,DK o hk (.inl q)⟩
def Qj:du:=fun ds M Q _=>∃g,ds=[bo g]/\cZ g/\g.length<=9/\Q (bo (bq g)) M
theorem L3 (n:Nat):j5 n=(eL n).map Dv.int :=by unfold j5 eL;rw[wP];rfl
theorem uP {f:ag}{fd:tz}(D:Df K mg "ring_places" fu ["goals"] f fd) (bl:Bl mg):FnOk P w K mg base bA 1 f fd ["goals"] (bf P w K tb Qj) :=by
 refine eQ D gG (fun ds M Q E hS=>by obtain⟨g,e,_⟩:=hS;rw[e];rfl) fun A outer s E Γ ds Q' E' hP hw hK ht hr hS=>?_
 obtain⟨g,e,Ku,h9,q⟩:=hS;refine⟨_,(ah (aG (i:=1) gG.nd rfl (mv rfl) (yn rfl rfl bl.list_ rfl bl.range_ (aC (bI (K:=K) rfl hK) rfl bl.len_ r9 (ae (qv 0) af))))
  (ah (bV sw rfl (bc rfl bl.range_ (ae (aC (bI (K:=K) rfl hK) rfl bl.len_ r9 (ae (qv 0) af)) af)) (fun gP eP ew eK et=>by have hP:=hP.trans eP.symm;have hw:=hw.trans ew.symm;have hK:=hK.trans eK.symm;have ht:=ht.trans et.symm;exact⟨(aF (i:=2) gG.nd rfl (mv rfl)),(av (aG (i:=1) gG.nd rfl (mv rfl) (aC (Io hP hw (K:=K) rfl rfl) rfl bl.sorted_ vj (ae (Dh hP hw (N':=["place","goals"]) (tn:=1) (idx:=[0]) rfl (show aD ["goals","places","turn"] (aq fu) _ ["place","goals"] 1 [0] from by decide +kernel) (da (K:=K) rfl (qv 1)) (fun _ _ _ _ _=>(aF (i:=0) (show Cf [("place" : ci),("goals" : ci)] from by decide +kernel) rfl (mv rfl))) (fun _ _ _ _ _=>cq) (fun _ _ _ _ _=>(aK (aY (K:=K) rfl) (qv 1) (qv 0) (fun _ _=>rfl)))) af))))⟩))
  (av (bg (qv 1))))),?_⟩
 subst e;simp! only[];refine⟨by omega,by omega,by omega,by omega,?_⟩
 refine aV (fun k ρ M=>(∃x2,ρ=[some (bo g),some (bo (fV g k)),x2])/\M=Γ.M0) ⟨⟨_,by rw[L3];rfl⟩,rfl⟩ (fun k d ρ M N hd ⟨⟨x2,e1⟩,e2⟩ hN=>?_) (fun ρ M ⟨⟨x2,e1⟩,e2⟩=>?_)
 ·subst e1 e2;simp! only[];have PU:=yZ g k;refine BC (fun d=>match d with | .int x=>stepI g x|_=>0) (fun τ M2=>(∃x,τ=[x,some (bo g)])/\M2=Γ.M0) ⟨⟨none,rfl⟩,rfl⟩ (by simp;exact Lu (show _<=100 by omega) (by decide)) (fun d hd τ M2 ⟨⟨x,e⟩,e2⟩ R hR=>?_) (fun τ M2 ⟨_,e⟩=>?_)
  ·subst e e2;obtain⟨x,hx,rfl⟩:=im.mp hd;obtain⟨h0,h1⟩:=uO Ku k x hx;have h:=hR [some (.int x),some (bo g)] Γ.M0 ⟨⟨_,rfl⟩,rfl⟩;simp! only[step_at h0 h1]at h ⊢;exact h
  ·subst e;have e:((fV g k).map Dv.int).map (fun d=>match d with | .int x=>stepI g x|_=>0)=(fV g k).map (stepI g) :=by rw[wP];rfl
   rw[e,GF];have:=xx ((fV g k).map (stepI g));rw[bn]at this;exact⟨by omega,hN _ _ ⟨⟨_,rfl⟩,rfl⟩⟩
 ·subst e1 e2;simp! only[];exact .inl q
theorem lN:aP ["goals","ends","told","place","tail"] ["goals"] (aq qz):=⟨rfl,rfl,rfl,by decide +kernel,rfl,by decide +kernel,by decide +kernel⟩
def dO (g:List Int) (k:Nat):List (List Int):=(hX k).map fun p=>cT g (p:Nat) (cB g (p:Nat))
def GL:du:=fun ds M Q _=>∃g,ds=[bo g]/\cZ g/\g.length<=9/\Q (.lst ((dO g g.length).map bo)) M
theorem pR {M:Mh}(ns:List Int):Pin M (bo ns):=.lst (dj ns)
theorem vV (g:List Int) (k:Nat):(dO g k).length=k :=by simp[dO]
theorem DL (g:List Int) (k:Nat):dO g (k+1)=dO g k++[cT g (k:Nat) (cB g (k:Nat))] :=by
 unfold dO;rw[SO,mf];rfl
theorem IZ {f f1:ag}{fd b8:tz}(D:Df K mg "tails" qz ["goals"] f fd) (dZ:Df K mg "ring_places" fu ["goals"] f1 b8) (bl:Bl mg):FnOk P w K mg base bA 2 f fd ["goals"] (bf P w K tb GL) :=by
 have wd:=uP (P:=P) (w:=w) (base:=base) (tb:=tb) dZ bl;refine eQ D lN (fun ds M Q E hS=>by obtain⟨g,e,_⟩:=hS;rw[e];rfl) fun A outer s E Γ ds Q' E' hP hw hK ht hr hS=>?_
 obtain⟨g,e,Ku,h9,q⟩:=hS;refine⟨_,(ah (aG (i:=1) lN.nd rfl (mv rfl) (aL wd (hr.mono (by decide)) rfl dZ.mg dZ.fn.kp dZ.bd bH hP hw hK ht XR.none (ae (qv 0) af)))
  (ah (aG (i:=2) lN.nd rfl (mv rfl) (gC af))
  (ah (Br sw rfl (bc rfl bl.range_ (ae (aC (bI (K:=K) rfl hK) rfl bl.len_ r9 (ae (qv 0) af)) af)) (fun gP M1 hM eP ew eK et=>by have hP:=hP.trans eP.symm;have hw:=hw.trans ew.symm;have hK:=hK.trans eK.symm;have ht:=ht.trans et.symm;exact⟨(aF (i:=3) lN.nd rfl (mv rfl)),(ah (aG (i:=4) lN.nd rfl (mv rfl) (gC (ae (qv 3) af)))
  (ah (nE sw (bY (zT (K:=K) rfl) (aK (aY (K:=K) rfl) (qv 4) (g6 ax) (fun _ _=>rfl)) (qv 1) (by rfl))
   (av (dX (ig (K:=K) rfl BS EQ ES gj (qv 4) (ae (aK (aY (K:=K) rfl) (qv 0) (aK (aY (K:=K) rfl) (qv 4) (g6 ax) (fun _ _=>rfl)) (fun _ _=>rfl)) af)))))
  (av (yw 4 hM (dX (ig (K:=K) rfl BS EQ ES gj (qv 2) (ae (qv 4) af)))))))⟩))
  (av (bg (qv 2)))))),?_⟩
 subst e;refine⟨g,rfl,Ku,h9,?_⟩;simp! only[];refine⟨by decide,fun a ha=>⟨by omega,by omega,?_⟩⟩
 refine aV (fun k ρ M=>(∃x3 x4,ρ=[some (bo g),some (bo (bq g)),some (.ptr a),x3,x4])/\M=aw Γ.M0 a (.lst ((dO g k).map bo))) ⟨⟨_,_,rfl⟩,rfl⟩ (fun k d ρ M N hd ⟨⟨x3,x4,e1⟩,e2⟩ hN=>?_) (fun ρ M ⟨⟨x3,x4,e1⟩,e2⟩=>?_)
 ·subst e1 e2;obtain⟨rfl,hk⟩:=bh hd;have mQ:=nW (g:=g) (p:=(k:Nat)) (by omega) (by omega)
  simp! only[];refine⟨by decide,fun c hc=>?_⟩
  have tZ:c≠a:=fun z=>by rw[z,updM_same]at hc;cases hc
  have BU:Γ.M0 c=none :=by rw[ai tZ]at hc;exact hc
  refine⟨fun m ρ M=>∃j,m+j=cB g (k:Nat)/\ρ=[some (bo g),some (bo (bq g)),some (.ptr a),some (.int (k:Nat)),some (.ptr c)]/\M=aw (aw Γ.M0 a (.lst ((dO g k).map bo))) c (.lst ((cT g (k:Nat) j).map .int)),⟨cB g (k:Nat),0,rfl,rfl,rfl⟩,fun m ρ M ⟨j,hj,e1,e2⟩=>?_⟩
  subst e1 e2;have hit:=i9 Ku (p:=(k:Nat)) (by omega) (by omega) j
  simp! only[iM,pE,Zu];by_cases m9:aR g j (k:Nat)∈bq g
  ·have ej:j=cB g (k:Nat) :=by
    by_cases h:j<cB g (k:Nat)
    ·exact absurd m9 (mQ.2.2 j h)
    ·omega
   subst ej;refine Tx (by simp[m9]) (.inr ⟨c,_,rfl,updM_same,by rw[ai tZ];exact BU,?_⟩)
   rw[Dl (by rw[ai tZ];exact BU)]
   refine⟨⟨fun i d hi=>?_,fun b ds hb=>?_⟩,?_⟩
   ·match i,hi with
    |0,hi=>cases hi;exact pR _
    |1,hi=>cases hi;exact pR _
    |2,hi=>cases hi;exact .ptr (by rw[updM_same];rfl)
    |3,hi=>cases hi;exact .int _
    |4,hi=>cases hi;exact pR _
   ·by_cases Qk:b=a
    ·subst Qk;rw[updM_same]at hb;cases hb;refine .inr fun d hd=>?_
     obtain⟨r,_,rfl⟩:=im.mp hd;exact pR r
    ·rw[ai Qk]at hb;exact .inl (by rw[ai Qk];exact hb)
   ·simp! only[];refine⟨Lu (show _<=9 by rw[vV];omega) (by decide),hN _ _ ⟨⟨_,_,rfl⟩,?_⟩⟩
    rw[DL,mf];rfl
  ·have yI:j<cB g (k:Nat) :=by
    by_cases h:j<cB g (k:Nat)
    ·exact h
    ·exact absurd (show aR g j (k:Nat)∈bq g from (show j=cB g (k:Nat) by omega)▸mQ.2.1) m9
   refine Tw (by simp[m9]) ?_
   simp! only[step_at hit.1 hit.2];refine⟨Lu (show _<=10 by rw[nX];omega) (by decide),m - 1,by omega,j+1,by omega,?_⟩
   rw[vT,mf];rfl
 ·subst e1 e2;simp! only[];refine mr (.upd ha .refl) ha updM_same (fun d hd=>?_) q
  obtain⟨r,_,rfl⟩:=im.mp hd;exact pR r
end
section
variable {P:jp}{w:lf}{K:bv}{mg:ci->Option al}{base:i8}{tb:cX}
theorem pT:aP ["goals","place","ring"] ["goals","place"] (aq jD):=⟨rfl,rfl,rfl,by decide +kernel,rfl,by decide +kernel,by decide +kernel⟩
theorem vW {g:List Int}(h:cZ g) {p:Int}(hp:p∈bq g):nY g p=cT g p (bW g p - 1) :=by
 have:=(jw h hp).1;unfold nY cT;rw[show bW g p - 1+1=bW g p by omega]
def B1:du:=fun ds M Q _=>∃g p,ds=[bo g,.int p]/\cZ g/\g.length<=9/\p∈bq g/\Q (bo (nY g p)) M
theorem y0 {f:ag}{fd:tz}(D:Df K mg "ring_from" jD ["goals","place"] f fd) (bl:Bl mg):FnOk P w K mg base bA 1 f fd ["goals","place"] (bf P w K tb B1) :=by
 refine eQ D pT (fun ds M Q E hS=>by obtain⟨g,p,e,_⟩:=hS;rw[e];rfl) fun A outer s E Γ ds Q' E' hP hw hK ht hr hS=>?_
 obtain⟨g,p,e,hg,h9,hp,q⟩:=hS;refine⟨_,(ah (aG (i:=2) pT.nd rfl (mv rfl) (gC (ae (qv 1) af)))
  (ah (nE sw (bY Il (aK (aY (K:=K) rfl) (qv 0) (aK (aY (K:=K) rfl) (qv 2) (g6 ax) (fun _ _=>rfl)) (fun _ _=>rfl)) (qv 1) (cW _))
   (av (dX (ig (K:=K) rfl BS EQ ES gj (qv 2) (ae (aK (aY (K:=K) rfl) (qv 0) (aK (aY (K:=K) rfl) (qv 2) (g6 ax) (fun _ _=>rfl)) (fun _ _=>rfl)) af)))))
  (av (bg (qv 2))))),?_⟩
 subst e;have big:(100:Nat)<sizeLine :=by decide
 obtain⟨p1,p2,p3,p4⟩:=jw hg hp;obtain⟨JX,Kr⟩:=uO hg _ p hp;simp! only[];refine⟨by omega,fun a ha=>?_⟩
 refine⟨fun m ρ M=>∃j,j<bW g p/\m=bW g p - j/\ρ=[some (bo g),some (.int p),some (.ptr a)]/\M=aw Γ.M0 a (.lst ((cT g p j).map .int)),⟨_,0,by omega,rfl,rfl,rfl⟩,?_⟩
 rintro m ρ M ⟨j,hj,rfl,rfl,rfl⟩;obtain⟨i0,i1⟩:=i9 hg JX Kr j;simp! only[iM,step_at i0 i1,updM_same];refine fS (fun h=>?_) (fun h=>?_)
 ·have d8:aR g (j+1) p≠p :=by show stepI g (aR g j p)≠p;simpa using h
  have Ql:j+1<bW g p :=by
   rcases MW (j+1) (bW g p) with z|z
   ·exact z
   ·exact absurd (by rw[show j+1=bW g p by omega];exact p3) d8
  refine⟨by rw[nX];omega,_,?_,j+1,Ql,rfl,by rw[vT,mf];rfl⟩
  omega
 ·have he:aR g (j+1) p=p :=by show stepI g (aR g j p)=p;simpa using h
  have Ql:j+1=bW g p :=by
   rcases MW (j+1) (bW g p) with z|z
   ·exact absurd he (p4 (j+1) (by omega) z)
   ·omega
  rw[vW hg hp,show bW g p - 1=j by omega]at q
  exact mr (.upd ha .refl) ha updM_same (dj _) q
end
section
theorem GN {g:List Int}(h:cZ g) {x y:Int}(hx:x∈bq g) (hy:y∈bq g) (e:stepI g x=stepI g y):x=y :=by
 obtain⟨m,m1,_,hm⟩:=pO h hx;obtain⟨k,k1,_,hk⟩:=pO h hy;have ex:=pP hm k;have ey:=pP hk m;rw[aaI]at ey;have XX:1<=k * m:=Nat.mul_pos k1 m1;obtain⟨n,hn⟩:∃n,k * m=n+1:=⟨k * m - 1,by omega⟩
 rw[hn,dY]at ex ey;have e1:aR g 1 x=aR g 1 y:=e;rw[<- ex,<- ey,e1]
def gu (g:List Int) (r:Int):Int:=aR g (bW g r - 1) r
theorem t5 {g:List Int}(h:cZ g) {r:Int}(hr:r∈bq g):gu g r∈bq g:=vU h hr ((sf h hr).mpr ⟨_,rfl⟩)
theorem DM {g:List Int}(h:cZ g) {r:Int}(hr:r∈bq g):stepI g (gu g r)=r :=by
 obtain⟨p1,_,p3,_⟩:=jw h hr;show aR g (bW g r - 1+1) r=r;rw[show bW g r - 1+1=bW g r by omega,p3]
theorem GO {g:List Int}(h:cZ g) {r:Int}(hr:r∈bq g):bj ((nY g r).map Dv.int) (-1)=some (.int (gu g r)) :=by rw[vW h hr];exact iM _ _ _
def pU:List Nat->Nat | []=>0|x::xs=>if x<pU xs then pU xs else x
theorem B2:∀{xs:List Nat}{x:Nat},x∈xs->x<=pU xs
 |y::ys,x,h=>by
          unfold pU;rcases lp.mp h with z|z
          ·subst z;split<;>omega
          ·have:=B2 z;split<;>omega
theorem y1:∀{xs:List Nat},xs≠[]->pU xs∈xs
 | [x],_=>by simp[pU]
 |x::y::ys,_=>by
          unfold pU;split
          ·exact db _ (y1 (by simp))
          ·exact ii
def cC (g:List Int):Nat:=pU ((hX g.length).map fun p:Nat=>cB g (p:Nat))
theorem B3 {g:List Int}{p:Nat}(h:p<g.length):cB g (p:Nat)<=cC g:=B2 (im.mpr ⟨p,l6.mpr h,rfl⟩)
theorem B4 {g:List Int}(h:1<=g.length):∃p:Nat,p<g.length/\cB g (p:Nat)=cC g :=by
 have hm:=y1 (xs:=(hX g.length).map fun p:Nat=>cB g (p:Nat)) (fun e=>by
  have:=congrArg aaX e;rw[bn,At,NO]at this;omega)
 obtain⟨p,hp,e⟩:=im.mp hm;exact⟨p,l6.mp hp,e⟩
def cx (g:List Int):List Nat:=(hX g.length).filter fun p=>decide (cB g (p:Nat)=cC g)
theorem jx {g:List Int}{p:Nat}:p∈cx g ↔ p<g.length/\cB g (p:Nat)=cC g :=by
 unfold cx;rw[LS,l6,decide_eq_true_eq]
theorem B5 {g:List Int}(h:1<=g.length):∃p ps,cx g=p::ps :=by
 obtain⟨p,h1,h2⟩:=B4 h;have hm:=jx.mpr ⟨h1,h2⟩;cases e:cx g with
 |nil=>rw[e]at hm;cases hm
 |cons q qs=>exact⟨q,qs,rfl⟩
theorem y2 (g:List Int):(cx g).length<=g.length :=by
 have:=ZI (fun p=>decide (cB g (p:Nat)=cC g)) (hX g.length)
 rw[At]at this;exact this
def ip (g:List Int) (p:Nat):Int:=aR g (cB g (p:Nat)) (p:Nat)
theorem GP {g:List Int}{p:Nat}(h:p<g.length):ip g p∈bq g:=(nW (by omega) (by omega)).2.1
def bD (g:List Int):Int:=ip g ((cx g).headD 0)
theorem nZ {g:List Int}(h:1<=g.length):bD g∈bq g :=by
 obtain⟨p,ps,e⟩:=B5 h;unfold bD;rw[e];exact GP (jx.mp (by rw[e];exact ii)).1
def B6 (a b:Int):List Int:=if a<b then [a,b] else [b,a]
def pV (g:List Int) (ks:List (List Int)) (p:Nat):List (List Int):=lF ks (B6 (gu g (bD g)) (aR g (cC g - 1) (p:Nat)))
def gW (g:List Int) (j:Nat):List (List Int):=((cx g).take j).foldl (pV g) []
theorem y3 {g:List Int}{j p:Nat}(h:(cx g)[j]?=some p):gW g (j+1)=pV g (gW g j) p :=by
 unfold gW;rw[aaB,h,List.foldl_append];rfl
theorem Ja (ks:List (List Int)) (k:List Int):(lF ks k).length<=ks.length+1 :=by
 unfold lF;split
 ·omega
 ·simp
theorem qC (g:List Int):∀j,(gW g j).length<=j
 |0=>by simp[gW]
 |j+1=>by
          have ih:=qC g j;cases h:(cx g)[j]? with
          |none=>
           have:gW g (j+1)=gW g j :=by
            unfold gW;rw[aaB,h];simp
           rw[this];omega
          |some p=>
           rw[y3 h];have:=Ja (gW g j) (B6 (gu g (bD g)) (aR g (cC g - 1) (p:Nat)));unfold pV;omega
theorem B7 (g:List Int):∀(ps:List Nat) (ks:List (List Int)),(∀r∈ks,r.length=2)->∀r∈ps.foldl (pV g) ks,r.length=2
 | [],_,h=>h
 |p::ps,ks,h=>B7 g ps _ fun r hr=>by
          unfold pV lF at hr;split at hr
          ·exact h r hr
          ·rcases qr.mp hr with z|z
           ·exact h r z
           ·rw[lc.mp z];unfold B6;split<;>rfl
theorem L4 (g:List Int) (j:Nat):∀r∈gW g j,r.length=2:=B7 g _ [] fun _ h=>nomatch h
def n5 (g:List Int):Bool:=decide (cC g=0) || (cx g).any fun p=>decide (ip g p≠bD g)
def mB (g:List Int):List (List Int):=if n5 g=true then [] else kn (gW g (cx g).length)
theorem Jb (g:List Int):(mB g).length<=g.length :=by
 unfold mB;split
 ·simp
 ·rw[(iX _).length_eq];exact wb (qC g _) (y2 g)
end
section
def kb (aa:List (List Int)) (p:Int) (k:Nat):Int:=(aa.getD p.toNat []).getD k 0
def c7 (aa:List (List Int)):List Nat->Int->Int
 | [],p=>p
 |k::w,p=>c7 aa w (kb aa p k)
def e6 (aa:List (List Int)) (p:Int):Prop:=0<=p/\p<(aa.length:Int)
def jX (n:Nat) (w:List Nat):Prop:=∀k∈w,k<n
theorem jX.nil {n:Nat}:jX n []:=fun _ h=>nomatch h
theorem jX.cons {n k:Nat}{w:List Nat}(hk:k<n) (h:jX n w):jX n (k::w):=fun x hx=>by
 rcases lp.mp hx with rfl|z
 ·exact hk
 ·exact h x z
theorem jX.app {n:Nat}{u v:List Nat}(hu:jX n u) (hv:jX n v):jX n (u++v):=fun x hx=>(qr.mp hx).elim (hu x) (hv x)
theorem nh {aa:List (List Int)}:∀(u v:List Nat) (p:Int),c7 aa (u++v) p=c7 aa v (c7 aa u p)
 | [],_,_=>rfl
 |_::u,v,p=>nh u v _
theorem qD {aa:List (List Int)}{n:Nat}(O:bu aa n) {p:Int}(hp:e6 aa p) {k:Nat}(hk:k<n):e6 aa (kb aa p k) :=by
 obtain⟨h1,h2⟩:=hp;have aM:p.toNat<aa.length :=by omega
 have e:aa.getD p.toNat []=aa[p.toNat] :=by rw[cr,ap aM];rfl
 obtain⟨r1,r2⟩:=O.row _ (v6 aM);unfold kb;rw[e,cr,ap (by omega)]
 exact r2 _ (v6 _)
theorem GQ {aa:List (List Int)}{n:Nat}(O:bu aa n):∀{w:List Nat}{p:Int},jX n w->e6 aa p->e6 aa (c7 aa w p)
 | [],_,_,h=>h
 |k::w,_,hw,h=>GQ O (w:=w) (fun x hx=>hw x (db _ hx)) (qD O h (hw k ii))
theorem Jc {aa:List (List Int)}{x:Int}:e6 aa x ↔ x∈eL aa.length:=nV.symm
def Qm (aa:List (List Int)) (n:Nat) (a b:Int):Prop:=∃w,jX n w/\c7 aa w a=c7 aa w b
def StaI (aa:List (List Int)) (n:Nat) (a b:Int):Prop:=∀w,jX n w->Qm aa n (c7 aa w a) (c7 aa w b)
def jY (aa:List (List Int)) (n:Nat):Prop:=∀a b,e6 aa a->e6 aa b->∃w,jX n w/\c7 aa w a=b
structure n6 (aa:List (List Int)) (n:Nat) (l:List Int):Prop where
 pl:∀x∈l,e6 aa x
 pw:l.Pairwise fun a b=>¬ Qm aa n a b
theorem n6.map {aa:List (List Int)}{n:Nat}(O:bu aa n) {l:List Int}(h:n6 aa n l) {w:List Nat}(hw:jX n w):n6 aa n (l.map (c7 aa w)) :=by
 refine⟨fun x hx=>?_,Yx.mpr (h.pw.imp fun hd ⟨u,hu,e⟩=>hd ⟨w++u,hw.app hu,by rw[nh,nh];exact e⟩)⟩
 obtain⟨y,hy,rfl⟩:=im.mp hx;exact GQ O hw (h.pl y hy)
theorem n6.len {aa:List (List Int)}{n:Nat}{l:List Int}(h:n6 aa n l):l.length<=aa.length :=by
 have:=jv l (eL aa.length) (h.pw.imp fun hd e=>hd ⟨[],.nil,e⟩) fun x hx=>Jc.mp (h.pl x hx)
 have e:(eL aa.length).length=aa.length :=by simp[eL]
 omega
theorem GR {p:Nat->Prop}:∀{b:Nat},(∃k,p k)->(∀k,p k->k<=b)->∃k,p k/\∀j,p j->j<=k
 |0,⟨k,hk⟩,hb=>⟨k,hk,fun j hj=>by have:=hb j hj;omega⟩
 |b+1,h0,hb=>by
          by_cases h:p (b+1)
          ·exact⟨b+1,h,hb⟩
          ·refine GR (b:=b) h0 fun k hk=>?_
           have:=hb k hk;by_cases e:k=b+1
           ·subst e;exact absurd hk h
           ·omega
theorem pW {n k:Nat}(hk:k<n) (j:Nat):jX n (mT j k):=fun x hx=>by rw[List.eq_of_mem_replicate hx];exact hk
theorem L5 {aa:List (List Int)}{p:Int}(h:e6 aa p) (k:Nat):kb aa p k=stepI (aS aa k) p :=by
 obtain⟨h0,h1⟩:=h;have hl:p.toNat<aa.length :=by omega
 unfold kb stepI aS;have e1:aa.getD p.toNat []=aa[p.toNat] :=by rw[cr,ap hl];rfl
 have e2:(aa.map fun r=>r.getD k 0).getD p.toNat 0=aa[p.toNat].getD k 0 :=by rw[cr (l:=Y2 _ _),dL,ap hl];rfl
 rw[e1,e2]
theorem B8 {aa:List (List Int)}{n k:Nat}(O:bu aa n) (hk:k<n):∀(j:Nat) {p:Int},e6 aa p->c7 aa (mT j k) p=aR (aS aa k) j p
 |0,_,_=>rfl
 |j+1,p,h=>by
          rw[dY,xb];show c7 aa (mT j k) (kb aa p k)=aR (aS aa k) j (stepI (aS aa k) p);rw[B8 O hk j (qD O h hk),L5 h]
def mC (g:List Int):List Int->Nat | []=>1|x::xs=>bW g x * mC g xs
theorem y7 {g:List Int}:∀{xs:List Int},(∀x∈xs,1<=bW g x)->1<=mC g xs
 | [],_=>cb _
 |x::xs,h=>Nat.mul_pos (h x ii) (y7 fun y hy=>h y (db _ hy))
theorem B9 {g:List Int}:∀{xs:List Int}{x:Int},x∈xs->∃k,mC g xs=k * bW g x
 |y::ys,x,h=>by
          rcases lp.mp h with rfl|h
          ·exact⟨mC g ys,aaI _ _⟩
          ·obtain⟨k,e⟩:=B9 h;exact⟨bW g y * k,by show bW g y * mC g ys=_;rw[e,Nat.mul_assoc]⟩
theorem Ca {g:List Int}(h:cZ g) {p:Int}(hp:p∈bq g) (j:Nat):aR g j p∈bq g:=vU h hp ((sf h hp).mpr ⟨j,rfl⟩)
theorem pX (aa:List (List Int)) (k:Nat):(aS aa k).length=aa.length :=by simp[aS]
theorem DN {aa:List (List Int)}{n k m p:Nat}(O:bu aa n) (W:jY aa n) (hk:k<n) (hm:cC (aS aa k)=m+1) (hr:∀q∈cx (aS aa k),ip (aS aa k) q=bD (aS aa k)) (hp:p∈cx (aS aa k)) :
  StaI aa n (gu (aS aa k) (bD (aS aa k))) (aR (aS aa k) m (p:Nat)) :=by
 have hg:=pQ O hk;have iU:=pX aa k;have Cb:=hr p hp;obtain⟨g,eg⟩:∃g,g=aS aa k:=⟨_,rfl⟩;rw[<- eg]at hg iU hm hr hp Cb ⊢;obtain⟨dA,Qn⟩:=jx.mp hp;have t6:bD g∈bq g:=nZ (by omega)
 have act:∀(j:Nat) {x:Int},e6 aa x->c7 aa (mT j k) x=aR g j x:=fun j {x} h=>by rw[eg];exact B8 O hk j h
 have GU:∀(j:Nat) {l:List Int},(∀x∈l,e6 aa x)->l.map (c7 aa (mT j k))=l.map (aR g j):=fun j {l} h=>GG fun x hx=>act j (h x hx)
 intro u hu;refine Db fun ph=>?_
 have P0:e6 aa 0:=⟨by omega,by omega⟩
 obtain⟨N,⟨l,hl,rfl⟩,Kv⟩:=GR (p:=fun N=>∃l,n6 aa n l/\l.length=N) (b:=aa.length) ⟨1,[0],⟨fun x hx=>by rw[lc.mp hx];exact P0,Y9 _ _⟩,rfl⟩ fun N ⟨l,h,e⟩=>by rw[<- e];exact h.len
 cases l with
 |nil=>have:=Kv 1 ⟨[0],⟨fun x hx=>by rw[lc.mp hx];exact P0,Y9 _ _⟩,rfl⟩;simp at this
 |cons x C=>
  have Pp:e6 aa (p:Int):=⟨by omega,by omega⟩
  obtain⟨v,hv,ev⟩:=W x p (hl.pl x ii) Pp;have h1:=hl.map O hv;rw[mo,ev]at h1;have mi:∀y∈C.map (c7 aa v),aR g m y∈bq g:=fun y hy=>by
   have py:=h1.pl y (db _ hy);obtain⟨q,rfl⟩:=xw py.1;have hq:q<g.length :=by have:=py.2;omega
   have hle:=B3 hq;obtain⟨_,he,_⟩:=nW (g:=g) (p:=(q:Int)) (by omega) (by omega)
   by_cases e:cB g (q:Int)=cC g
   ·exfalso
    have Xo:=jx.mpr ⟨hq,e⟩;refine(aak.mp h1.pw).1 _ hy ⟨mT (m+1) k,pW hk _,?_⟩;rw[act _ Pp,act _ py];have r1:=hr q Xo;unfold ip at r1 Cb;rw[e,hm]at r1;rw[Qn,hm]at Cb;rw[Cb,r1]
   ·have e2:aR g m (q:Int)=aR g (m - cB g (q:Int)) (aR g (cB g (q:Int)) (q:Int)) :=by rw[<- dY,show m - cB g (q:Int)+cB g (q:Int)=m by omega]
    rw[e2];exact Ca hg he _
  have h2:=h1.map O (pW hk m);rw[GU m h1.pl,mo]at h2;obtain⟨D,eD⟩:∃D,D=(C.map (c7 aa v)).map (aR g m):=⟨_,rfl⟩;rw[<- eD]at h2;have hD:∀y∈D,y∈bq g:=fun y hy=>by
   rw[eD]at hy;obtain⟨z,hz,rfl⟩:=im.mp hy;exact mi z hz
  have pp:1<=mC g (bq g):=y7 fun x hx=>(jw hg hx).1
  obtain⟨c,hc⟩:∃c,mC g (bq g)=c+1:=⟨mC g (bq g) - 1,by omega⟩
  have fix:∀y∈bq g,aR g (c+1) y=y:=fun y hy=>by
   obtain⟨k,e⟩:=B9 hy;rw[<- hc,e];exact pP (jw hg hy).2.2.1 k
  have h3:=h2.map O (pW hk (c+1));rw[GU (c+1) h2.pl,mo,show D.map (aR g (c+1))=D from (GG fun y hy=>fix y (hD y hy)).trans (List.map_id' D)]at h3
  have et:aR g (c+1) (aR g m (p:Nat))=gu g (bD g) :=by
   have e1:aR g (c+1) (aR g m (p:Nat))=aR g c (bD g) :=by
    rw[dY g 1 _ c];show aR g c (aR g (m+1) (p:Nat))=_;rw[<- hm,<- Qn];unfold ip at Cb;rw[Cb]
   rw[e1];refine GN hg (Ca hg t6 c) (t5 hg t6) ?_;rw[DM hg t6];exact fix _ t6
  rw[et]at h3;have Qo:=h2.map O hu;have Qp:=h3.map O hu;rw[mo]at Qo Qp;have big:n6 aa n (c7 aa u (gu g (bD g))::c7 aa u (aR g m (p:Nat))::D.map (c7 aa u)) :=by
   refine⟨fun y hy=>?_,aak.mpr ⟨fun y hy=>?_,Qo.pw⟩⟩
   ·rcases lp.mp hy with rfl|hy
    ·exact Qp.pl _ ii
    ·exact Qo.pl _ hy
   ·rcases lp.mp hy with rfl|hy
    ·exact ph
    ·exact(aak.mp Qp.pw).1 y hy
  have:=Kv _ ⟨_,big,rfl⟩;rw[wn,wn,bn,eD,bn,bn,wn]at this;omega
end
section
variable {P:jp}{w:lf}{K:bv}{mg:ci->Option al}{base:i8}{tb:cX}
theorem fw:aP ["_law_net_here","_law_reach_here","_law_middle","_law_one","_law_other"] ["_law_net_here"] (aq gq):=⟨rfl,rfl,rfl,by decide +kernel,rfl,by decide +kernel,by decide +kernel⟩
theorem we:aP ["_law_net_here"] ["_law_net_here"] (aq gr):=⟨rfl,rfl,rfl,by decide +kernel,rfl,by decide +kernel,by decide +kernel⟩
theorem jG {M0 M:Mh}(h:Keeps M0 M) {a:ag}(ha:M a=none):M0 a=none :=by
 cases e:M0 a with
 |none=>rfl
 |some u=>rw[h a u e]at ha;cases ha
theorem getD_at {α:Type}{l:List α}{i:Nat}{d:α}(h:i<l.length):l.getD i d=l[i] :=by rw[cr,ap h];rfl
def iF (rs:List (List Bool)) (i j:Nat):Bool:=(rs.getD i []).getD j false
def setB (rs:List (List Bool)) (i j:Nat) (b:Bool):List (List Bool):=rs.set i ((rs.getD i []).set j b)
structure pY (m:Nat) (rs:List (List Bool)):Prop where
 len:rs.length=m
 row:∀(i:Nat) (r:List Bool),rs[i]?=some r->r.length=m
theorem pY.get {m:Nat}{rs:List (List Bool)}(o:pY m rs) {i:Nat}(hi:i<m):∃r,rs[i]?=some r/\r.length=m/\rs.getD i []=r :=by
 have h:=ap (show i<rs.length by rw[o.len];exact hi)
 exact⟨_,h,o.row _ _ h,by rw[cr,h];rfl⟩
theorem pY.set {m:Nat}{rs:List (List Bool)}(o:pY m rs) {i j:Nat}{b:Bool}(hi:i<m):pY m (setB rs i j b) :=by
 obtain⟨r,h1,h2,h3⟩:=o.get hi;refine⟨by unfold setB;rw[IT];exact o.len,fun k s hs=>?_⟩
 unfold setB at hs;rw[h3,LM]at hs;split at hs
 ·split at hs
  ·cases hs;rw[IT];exact h2
  ·cases hs
 ·exact o.row _ _ hs
theorem Jd {m:Nat}{rs:List (List Bool)}(o:pY m rs) {i j k l:Nat}{b:Bool}(hi:i<m) (hj:j<m):iF (setB rs i j b) k l=if k=i/\l=j then b else iF rs k l :=by
 obtain⟨r,h1,h2,h3⟩:=o.get hi;have e:(rs.set i (r.set j b)).getD k []=if i=k then r.set j b else rs.getD k [] :=by
  rw[cr,LM];by_cases hk:i=k
  ·rw[if_pos hk,if_pos hk,if_pos (by rw[o.len];exact hi)];rfl
  ·rw[if_neg hk,if_neg hk,cr]
 have e2:(r.set j b).getD l false=if j=l then b else r.getD l false :=by
  rw[cr,LM];by_cases hl:j=l
  ·rw[if_pos hl,if_pos hl,if_pos (by omega)];rfl
  ·rw[if_neg hl,if_neg hl,cr]
 unfold iF setB;rw[h3,e];by_cases hk:i=k
 ·subst hk;rw[if_pos rfl,e2,h3];by_cases hl:j=l
  ·rw[if_pos hl,if_pos ⟨rfl,hl.symm⟩]
  ·rw[if_neg hl,if_neg fun z=>hl z.2.symm]
 ·rw[if_neg hk,if_neg fun z=>hk z.1.symm]
def startB (aa:List (List Int)):List (List Bool):=(hX aa.length).map fun i:Nat=>(hX aa.length).map fun j:Nat=>decide (i=j) || decide ((j:Int)∈aa.getD i [])
theorem y8 (aa:List (List Int)):pY aa.length (startB aa) :=by
 refine⟨by simp[startB],fun i r h=>?_⟩
 unfold startB at h;rw[dL]at h;obtain⟨k,_,rfl⟩:=rc.mp h;simp
theorem GV {aa:List (List Int)}{i j:Nat}(hi:i<aa.length) (hj:j<aa.length):iF (startB aa) i j=(decide (i=j) || decide ((j:Int)∈aa.getD i [])) :=by
 unfold iF startB;rw[cr (l:=Y2 _ _),dL,EU hi];show List.getD (Y2 _ _) j false=_;rw[cr,dL,EU hj];rfl
def GW (r:List Bool):Dv:=.lst (r.map .bl)
structure RowsB (M0 M:Mh) (bs:List ag) (rs:List (List Bool)):Prop where
 len:bs.length=rs.length
 bm:∀(j:Nat) (b:ag) (r:List Bool),bs[j]?=some b->rs[j]?=some r->M b=some (.lst (r.map .bl))
 b0:∀b∈bs,M0 b=none
 nd:bs.Nodup
 kp:Keeps M0 M
structure n8 (M0 M:Mh) (a:ag) (bs:List ag) (rs:List (List Bool)):Prop extends RowsB M0 M bs rs where
 a0:M0 a=none
 am:M a=some (.lst (bs.map .ptr))
 ab:a ∉ bs
theorem RowsB.has {M0 M:Mh}{bs:List ag}{rs:List (List Bool)}(h:RowsB M0 M bs rs) {b:ag}(hb:b∈bs):M b≠none:=fun e=>by
 obtain⟨j,hj⟩:=nw.mp hb;have hl:=(ca.mp hj).1;have:=h.bm j b _ hj (ap (show j<rs.length by rw[<- h.len];exact hl))
 rw[e]at this;cases this
theorem RowsB.snoc {M0 M:Mh}{c:ag}{bs:List ag}{rs:List (List Bool)}{r:List Bool}(h:RowsB M0 M bs rs) (hc:M c=none):RowsB M0 (aw M c (.lst (r.map .bl))) (bs++[c]) (rs++[r]) :=by
 have c0:=jG h.kp hc;have cn:c ∉ bs:=fun z=>h.has z hc
 refine⟨by simp[h.len],fun j b s hb hs=>?_,fun b hb=>?_,?_,.upd c0 h.kp⟩
 ·by_cases hi:j<bs.length
  ·rw[wp hi]at hb;rw[wp (by rw[<- h.len];exact hi)]at hs
   rw[ai fun e=>cn (by rw[<- e];exact ff hb)]
   exact h.bm j b s hb hs
  ·have eO:=(ca.mp hb).1;rw[r6,GT]at eO;have e:j=bs.length :=by omega
   subst e;rw[Cs (cb _),Sc]at hb;rw[h.len,Cs (cb _),Sc]at hs;cases hb;cases hs;rw[updM_same]
 ·rcases qr.mp hb with z|z
  ·exact h.b0 b z
  ·rw[lc.mp z];exact c0
 ·rw[IS];exact⟨h.nd,by simp,fun x hx y hy e=>by
   have e2:=lc.mp hy;subst e2;subst e;exact cn hx⟩
theorem RowsB.top {M0 M:Mh}{a:ag}{bs:List ag}{rs:List (List Bool)}(h:RowsB M0 M bs rs) (ha:M a=none):n8 M0 (aw M a (.lst (bs.map .ptr))) a bs rs :=by
 have an:a ∉ bs:=fun z=>h.has z ha
 have a0:=jG h.kp ha;exact⟨⟨h.len,fun j b r hb hr=>by rw[ai fun e=>an (by rw[<- e];exact ff hb)];exact h.bm j b r hb hr,h.b0,h.nd,.upd a0 h.kp⟩,a0,updM_same,an⟩
theorem n8.cell {M0 M:Mh}{a:ag}{bs:List ag}{rs:List (List Bool)}{m:Nat}(h:n8 M0 M a bs rs) (o:pY m rs) {i:Nat}(hi:i<m):∃b r,bs[i]?=some b/\rs[i]?=some r/\r.length=m/\M b=some (.lst (r.map .bl))/\bj (bs.map Dv.ptr) (i:Nat)=some (.ptr b)/\∀j,j<m->bj (r.map Dv.bl) (j:Nat)=some (.bl (iF rs i j)) :=by
 obtain⟨r,h1,h2,h3⟩:=o.get hi;have hb:=ap (show i<bs.length by rw[h.len,o.len];exact hi)
 refine⟨_,r,hb,h1,h2,h.bm i _ r hb h1,bS (by rw[dL,hb];rfl),fun j hj=>bS ?_⟩
 unfold iF;rw[h3,dL,ap (show j<r.length by omega),getD_at (by omega)]
 rfl
theorem n8.put {M0 M:Mh}{a b:ag}{bs:List ag}{rs:List (List Bool)}{i j:Nat}{r:List Bool}{v:Bool}(h:n8 M0 M a bs rs) (hb:bs[i]?=some b) (hr:rs[i]?=some r):n8 M0 (aw M b (.lst ((r.set j v).map .bl))) a bs (setB rs i j v) :=by
 have hm:=ff hb;have fk:a≠b:=fun e=>h.ab (e▸hm)
 have er:rs.getD i []=r :=by rw[cr,hr];rfl
 refine⟨⟨by unfold setB;rw[IT];exact h.len,fun k c s hc hs=>?_,h.b0,h.nd,.upd (h.b0 b hm) h.kp⟩,h.a0,by rw[ai fk];exact h.am,h.ab⟩
 unfold setB at hs;rw[er,LM]at hs;by_cases hk:i=k
 ·subst hk;rw[hb]at hc;cases hc;rw[if_pos rfl]at hs;split at hs
  ·cases hs;rw[updM_same]
  ·cases hs
 ·rw[if_neg hk]at hs;have ne:c≠b:=fun e=>by
   subst e;exact hk ((TM (ca.mp hb).1 h.nd).mp (hb.trans hc.symm))
  rw[ai ne];exact h.bm k c s hc hs
def DP (aa:List (List Int)) (i:Nat):Dv->Dv
 | .int j=>.bl (decide ((i:Int)=j) || decide (j∈aa.getD i []))
 |d=>d
theorem L6 {aa:List (List Int)}{i:Nat}(hi:i<aa.length):∃r,(startB aa)[i]?=some r/\(cp 0 aa.length).map (DP aa i)=r.map Dv.bl :=by
 refine⟨(hX aa.length).map fun j:Nat=>decide (i=j) || decide ((j:Int)∈aa.getD i []),?_,?_⟩
 ·unfold startB;rw[dL,EU hi];rfl
 ·unfold cp;rw[wP,wP];refine GG fun j _=>?_
  show Dv.bl (decide ((i:Int)=0+(j:Int)) || decide (0+(j:Int)∈aa.getD i []))=_
  rw[Op,show decide ((i:Int)=(j:Int))=decide (i=j) from decide_eq_decide.mpr (by omega)]
  rfl
theorem uQ {aa:List (List Int)}{n a:Nat}(O:bu aa n) (ha:a<aa.length):bj (aa.map eI) (a:Int)=some (eI (aa.getD a []))/\(aa.getD a []).length=n :=by
 have e:aa.getD a []=aa[a] :=by rw[cr,ap ha];rfl
 rw[e];exact⟨bS (by rw[dL,ap ha];rfl),(O.row _ (v6 ha)).1⟩
def uR (aa:List (List Int)) (n:Nat) (rs:List (List Bool)):Prop:=∀i j:Nat,i<aa.length->j<aa.length->iF rs i j=true->∃w,jX n w/\c7 aa w (i:Int)=(j:Int)
theorem GX {aa:List (List Int)}{n:Nat}(O:bu aa n):uR aa n (startB aa):=fun i j hi hj h=>by
 rw[GV hi hj,YU,decide_eq_true_eq,decide_eq_true_eq]at h;rcases h with rfl|h
 ·exact⟨[],.nil,rfl⟩
 ·obtain⟨a,ha⟩:=nw.mp h;have hl:=(ca.mp ha).1;rw[getD_at hi,(O.row _ (v6 hi)).1]at hl;refine⟨[a],.cons hl .nil,?_⟩;show kb aa (i:Int) a=_;unfold kb;rw[xL,cr (l:=aa.getD i []),ha];rfl
theorem uR.put {aa:List (List Int)}{n:Nat}{rs:List (List Bool)}(o:pY aa.length rs) (h:uR aa n rs) {i j k:Nat}(hi:i<aa.length) (hj:j<aa.length) (hk:k<aa.length):uR aa n (setB rs i j (iF rs i j || (iF rs i k && iF rs k j))):=fun a b ha hb e=>by
 rw[Jd o hi hj]at e;split at e
 ·rename_i q;obtain⟨rfl,rfl⟩:=q;rw[YU,EN]at e;rcases e with e|⟨e1,e2⟩
  ·exact h _ _ ha hb e
  ·obtain⟨u,hu,eu⟩:=h _ _ ha hk e1;obtain⟨v,hv,ev⟩:=h _ _ hk hb e2;exact⟨u++v,hu.app hv,by rw[nh,eu,ev]⟩
 ·exact h _ _ ha hb e
def Cd:du:=fun ds M Q _=>∃aa n,ds=[eN aa]/\bu aa n/\∀rs,pY aa.length rs->uR aa n rs->Q (.lst (rs.map GW)) M
theorem y9 {f:ag}{fd:tz}(D:Df K mg "_law_reach" gq ["_law_net_here"] f fd) (bl:Bl mg) :
  FnOk P w K mg base bA 1 f fd ["_law_net_here"] (bf P w K tb Cd) :=by
 refine eQ D fw (fun ds M Q E hS=>by obtain⟨aa,n,e,_⟩:=hS;rw[e];rfl) fun A outer s E Γ ds Q' E' hP hw hK ht hr hS=>?_
 obtain⟨aa,n,e,O,q⟩:=hS;refine⟨_,(ah (yD (i:=1) fw.nd rfl rfl (N':=["_law_one","_law_net_here"]) (tn:=1) (idx:=[0]) rfl (show dM ["_law_net_here","_law_reach_here","_law_middle","_law_one","_law_other"] (aq gq) _ ["_law_one","_law_net_here"] 1 [0] from by decide +kernel) (bc rfl bl.range_ (ae (aC (bI (K:=K) rfl hK) rfl bl.len_ r9 (ae (qv 0) af)) af)) (fun _ _ _ _ _=>(aF (i:=0) (show Cf [("_law_one" : ci),("_law_net_here" : ci)] from by decide +kernel) rfl (LH rfl))) (fun _ _ _ _ _=>cq) (fun _ _ _ _ _=>(yl (N':=["_law_other","_law_one","_law_net_here"]) (tn:=1) (idx:=[0,1]) rfl (aD.rel (show aD ["_law_one","_law_net_here"] _ _ ["_law_other","_law_one","_law_net_here"] 1 [0,1] from by decide +kernel)) (bc rfl bl.range_ (ae (aC (bI (K:=K) rfl hK) rfl bl.len_ r9 (ae (qv 1) af)) af)) (fun _ _ _ _ _=>(aF (i:=0) (show Cf [("_law_other" : ci),("_law_one" : ci),("_law_net_here" : ci)] from by decide +kernel) rfl (mv rfl))) (fun _ _ _ _ _=>cq) (fun _ _ _ _ _=>(JY (kI rQ (qv 1) (qv 0) (cW _)) (m5 (kI (Iu (K:=K) rfl) (qv 0) (aK (aY (K:=K) rfl) (qv 2) (qv 1) (fun _ _=>rfl)) (by rfl))))))))
  (ah (bV sw rfl (bc rfl bl.range_ (ae (aC (bI (K:=K) rfl hK) rfl bl.len_ r9 (ae (qv 0) af)) af)) (fun gP eP ew eK et=>by have hP:=hP.trans eP.symm;have hw:=hw.trans ew.symm;have hK:=hK.trans eK.symm;have ht:=ht.trans et.symm;exact⟨(aF (i:=2) fw.nd rfl (mv rfl)),(av (bV sw rfl (bc rfl bl.range_ (ae (aC (bI (K:=K) rfl hK) rfl bl.len_ r9 (ae (qv 0) af)) af)) (fun gP eP ew eK et=>by have hP:=hP.trans eP.symm;have hw:=hw.trans ew.symm;have hK:=hK.trans eK.symm;have ht:=ht.trans et.symm;exact⟨(aF (i:=3) fw.nd rfl (mv rfl)),(av (bV sw rfl (bc rfl bl.range_ (ae (aC (bI (K:=K) rfl hK) rfl bl.len_ r9 (ae (qv 0) af)) af)) (fun gP eP ew eK et=>by have hP:=hP.trans eP.symm;have hw:=hw.trans ew.symm;have hK:=hK.trans eK.symm;have ht:=ht.trans et.symm;exact⟨(aF (i:=4) fw.nd rfl (mv rfl)),(av (jR (JY (aK (aY (K:=K) rfl) (aK (aY (K:=K) rfl) (qv 1) (qv 3) (fun _ _=>rfl)) (qv 4) (fun _ _=>rfl)) (m5 (pz (aK (aY (K:=K) rfl) (aK (aY (K:=K) rfl) (qv 1) (qv 3) (fun _ _=>rfl)) (qv 2) (fun _ _=>rfl)) (m5 (aK (aY (K:=K) rfl) (aK (aY (K:=K) rfl) (qv 1) (qv 2) (fun _ _=>rfl)) (qv 4) (fun _ _=>rfl)))))) (jT (aK (aY (K:=K) rfl) (qv 1) (qv 3) (fun _ _=>rfl)) (qv 4))))⟩)))⟩)))⟩))
  (av (bg (qv 1))))),?_⟩
 subst e;have h9:=O.nine;have big:(1000:Nat)<sizeLine :=by decide
 simp! only[];refine⟨by omega,by omega,by omega,iB (acc:=[]) (fun acc τ M=>∃bs,acc=bs.map Dv.ptr/\RowsB Γ.M0 M bs ((startB aa).take acc.length)/\(∃x,τ=[x,some (eN aa)])) ⟨[],rfl,⟨rfl,(fun j b r h=>nomatch h),(fun b h=>nomatch h),.nil,.refl⟩,_,rfl⟩ (fun i d acc τ M hd hl hJ R hR=>?_) (fun ys τ M hl hJ=>?_)⟩
 ·obtain⟨bs,rfl,hB,x,rfl⟩:=hJ;obtain⟨rfl,hi⟩:=bh hd;have hl:bs.length=i :=by simpa using hl
  obtain⟨r,Xp,Ua⟩:=L6 hi;simp! only[];refine⟨by omega,by omega,by omega,jl (DP aa i) (fun τ M2=>(∃x,τ=[x,some (.int (i:Nat)),some (eN aa)])/\M2=M) ⟨⟨_,rfl⟩,rfl⟩ (fun d hd τ M2 hI R2 Qq=>?_) (fun τ M2 hI=>?_)⟩
  ·obtain⟨⟨x,rfl⟩,rfl⟩:=hI;obtain⟨j,hj⟩:=nw.mp hd;obtain⟨rfl,Ql⟩:=bh hj;have hx:=(uQ O hi).1;simp! only[hx];rw[Op]at Qq;refine fS (fun h=>?_) (fun h=>?_)
   ·have:=Qq [some (.int (j:Nat)),some (.int (i:Nat)),some (eN aa)] _ ⟨⟨_,rfl⟩,rfl⟩;rw[show DP aa i (.int (j:Nat))=.bl true by show Dv.bl (decide ((i:Int)=j) || _)=_;rw[h];rfl]at this
    exact this
   ·have:=Qq [some (.int (j:Nat)),some (.int (i:Nat)),some (eN aa)] _ ⟨⟨_,rfl⟩,rfl⟩;rw[show DP aa i (.int (j:Nat))=.bl (decide ((j:Int)∈aa.getD i [])) by show Dv.bl (decide ((i:Int)=j) || _)=_;rw[h];rfl]at this
    rw[Zu,pE];exact this
  ·obtain⟨⟨x,rfl⟩,rfl⟩:=hI;rw[Ua];intro c hc;refine hR _ _ _ ⟨bs++[c],by rw[mf];rfl,?_,_,rfl⟩
   have et:(startB aa).take (bs.map Dv.ptr++[Dv.ptr c]).length=(startB aa).take (bs.map Dv.ptr).length++[r] :=by
    rw[r6,bn,GT,hl,Y8,Xp];rfl
   rw[et];exact hB.snoc hc
 ·obtain⟨bs,rfl,hB,x,rfl⟩:=hJ;have hm:bs.length=aa.length :=by rw[rangeD_len,bn]at hl;exact hl
  have et:(startB aa).take (bs.map Dv.ptr).length=startB aa :=by
   rw[bn,hm,<- (y8 aa).len,YK]
  rw[ID,et]at hB;intro a ha;have Xq:=hB.top ha;refine⟨by omega,by omega,?_⟩
  let J:List (List Bool)->Mh->Prop:=fun rs M=>n8 Γ.M0 M a bs rs/\pY aa.length rs/\uR aa n rs
  refine aV (fun k ρ M=>(∃x2 x3 x4,ρ=[some (eN aa),some (.ptr a),x2,x3,x4])/\∃rs,J rs M) ⟨⟨_,_,_,rfl⟩,_,Xq,y8 aa,GX O⟩ (fun k d ρ M N hd hJ hN=>?_) (fun ρ M hJ=>?_)
  ·obtain⟨⟨x2,x3,x4,rfl⟩,hJ⟩:=hJ;obtain⟨rfl,hk⟩:=bh hd;simp! only[];refine⟨by omega,by omega,?_⟩
   refine aV (fun i ρ M=>(∃x3 x4,ρ=[some (eN aa),some (.ptr a),some (.int (k:Nat)),x3,x4])/\∃rs,J rs M) ⟨⟨_,_,rfl⟩,hJ⟩ (fun i d ρ M N2 hd hJ dU=>?_) (fun ρ M hJ=>?_)
   ·obtain⟨⟨x3,x4,rfl⟩,hJ⟩:=hJ;obtain⟨rfl,hi⟩:=bh hd;simp! only[];refine⟨by omega,by omega,?_⟩
    refine aV (fun j ρ M=>(∃x4,ρ=[some (eN aa),some (.ptr a),some (.int (k:Nat)),some (.int (i:Nat)),x4])/\∃rs,J rs M) ⟨⟨_,rfl⟩,hJ⟩ (fun j d ρ M N3 hd hJ Gw=>?_) (fun ρ M hJ=>?_)
    ·obtain⟨⟨x4,rfl⟩,rj,hB,o,sn⟩:=hJ;obtain⟨rfl,hj⟩:=bh hd;obtain⟨b,r,hb,hr,BJ,Xr,ab,ar⟩:=hB.cell o hi;obtain⟨b2,r2,k8,Ua,XY,Vi,Xs,ar2⟩:=hB.cell o hk;simp! only[hB.am,ab,Xs,Xr,Vi,ar _ hj,ar _ hk,ar2 _ hj];have hx:dH r.length (j:Nat)=some j :=by unfold dH;rw[if_pos (by omega),if_pos (by omega)];rfl
     have fin:∀v:Bool,v=(iF rj i j || (iF rj i k && iF rj k j))->N3 [some (eN aa),some (.ptr a),some (.int (k:Nat)),some (.int (i:Nat)),some (.int (j:Nat))] (aw M b (.lst ((r.map Dv.bl).set j (.bl v)))):=fun v e=>by
      refine Gw _ _ ⟨⟨_,rfl⟩,_,?_,o.set (j:=j) (b:=v) hi,by rw[e];exact sn.put o hi hj hk⟩
      rw[<- List.map_set];exact hB.put hb hr
     simp only[hx];refine fS (fun h=>fin _ (by rw[h];rfl)) (fun h=>fS (fun h2=>fin _ (by rw[h,h2];rfl)) (fun h2=>fin _ (by rw[h,h2];rfl)))
    ·obtain⟨⟨x4,rfl⟩,hJ⟩:=hJ;exact dU _ _ ⟨⟨_,_,rfl⟩,hJ⟩
   ·obtain⟨⟨x3,x4,rfl⟩,hJ⟩:=hJ;exact hN _ _ ⟨⟨_,_,_,rfl⟩,hJ⟩
  ·obtain⟨⟨x2,x3,x4,rfl⟩,rs,hB,o,sn⟩:=hJ;simp! only[];refine .inr ⟨hB.kp,_,.ptr (ds':=rs.map GW) hB.a0 hB.am (by rw[bn,bn];exact hB.len) fun j d d' e1 e2=>?_,q rs o sn⟩
   rw[dL]at e1 e2;obtain⟨b,hb,rfl⟩:=rc.mp e1;obtain⟨r,hr,rfl⟩:=rc.mp e2;refine .ptr (hB.b0 b (ff hb)) (hB.bm j b r hb hr) rfl fun k d d' e1 e2=>?_
   rw[e1]at e2;cases e2;obtain⟨x,_,rfl⟩:=im.mp (ff e1);exact .pin (.bl x)
def Je:Dv->Dv
 | .lst ds=>(match boolsD ds with|some bs=>.bl (bs.all id)|none=>.lst ds)
 |d=>d
def Ce:du:=fun ds M Q _=>∃aa n,ds=[eN aa]/\bu aa n/\∀b,(b=true->jY aa n)->Q (.bl b) M
theorem zb {f f1:ag}{fd b8:tz}(D:Df K mg "_law_whole" gr ["_law_net_here"] f fd)
  (eU:Df K mg "_law_reach" gq ["_law_net_here"] f1 b8) (zf:FnOk P w K mg base bA 1 f1 b8 ["_law_net_here"] (bf P w K tb Cd)) (bl:Bl mg) :
  FnOk P w K mg base bA 2 f fd ["_law_net_here"] (bf P w K tb Ce) :=by
 refine eQ D we (fun ds M Q E hS=>by obtain⟨aa,n,e,_⟩:=hS;rw[e];rfl) fun A outer s E Γ ds Q' E' hP hw hK ht hr hS=>?_
 obtain⟨aa,n,e,O,q⟩:=hS;refine⟨_,(av (bg (aC (yu (K:=K) rfl rfl) rfl bl.all_ xK (ae (dC (N':=["_law_row"]) (tn:=1) (idx:=[]) rfl (show aD ["_law_net_here"] (aq gr) _ ["_law_row"] 1 [] from by decide +kernel) (da (K:=K) rfl (aL zf (hr.mono (by decide)) rfl eU.mg eU.fn.kp eU.bd bH hP hw hK ht XR.none (ae (qv 0) af))) (fun _ _ _ _ _=>(aF (i:=0) (show Cf [("_law_row" : ci)] from by decide +kernel) rfl (mv rfl))) (fun _ _ _ _ _=>cq) (fun _ _ _ _ _=>(aC (yu (K:=K) rfl rfl) rfl bl.all_ xK (ae (qv 0) af)))) af)))),?_⟩
 subst e;have h9:=O.nine;have big:(1000:Nat)<sizeLine :=by decide
 simp! only[];refine⟨aa,n,rfl,O,fun rs sq sn=>?_⟩
 simp! only[];have f1:∀r∈rs,Je (GW r)=.bl (r.all id):=fun r _=>by
  show (match boolsD (r.map Dv.bl) with|some bs=>Dv.bl (bs.all id)|none=>_)=_
  rw[iW]
 refine⟨by have:=sq.len;omega,jl Je (fun τ M=>(∃x,τ=[x])/\M=Γ.M0) ⟨⟨_,rfl⟩,rfl⟩ (fun d hd τ M hI R hR=>?_) (fun τ M hI=>?_)⟩
 ·obtain⟨⟨x,rfl⟩,rfl⟩:=hI;obtain⟨r,hr,rfl⟩:=im.mp hd;rw[f1 r hr]at hR;simp! only[GW,iW];exact hR _ _ ⟨⟨_,rfl⟩,rfl⟩
 ·obtain⟨⟨x,rfl⟩,rfl⟩:=hI;have e0:(rs.map GW).map Je=(rs.map fun r=>r.all id).map Dv.bl :=by
   rw[wP,wP];exact GG fun r hr=>f1 r hr
  rw[e0,iW];refine .inl (q _ fun h a b ha hb=>?_)
  obtain⟨i,rfl⟩:=xw ha.1;obtain⟨j,rfl⟩:=xw hb.1;have hi:=ha.2;have hj:=hb.2;obtain⟨r,h1,h2,h3⟩:=sq.get (i:=i) (by omega)
  refine sn i j (by omega) (by omega) ?_
  have hr:=u8.mp h _ (im.mpr ⟨r,ff h1,rfl⟩);unfold iF;rw[h3,getD_at (by omega)]
  exact u8.mp hr _ (v6 _)
theorem gv:aP ["_law_net_here","_law_back_here","_law_p","_law_q","_law_ends"] ["_law_net_here"] (aq jE):=⟨rfl,rfl,rfl,by decide +kernel,rfl,by decide +kernel,by decide +kernel⟩
def cM (m i:Nat):List (List Int):=(hX (m - (i+1))).map fun j:Nat=>[(i:Int),(i:Int)+1+(j:Nat)]
def fA (m:Nat):List (List Int):=(hX m).flatMap (cM m)
theorem GY {m:Nat}{p:List Int}:p∈fA m ↔ ∃a b:Nat,a<b/\b<m/\p=[(a:Int),(b:Int)] :=by
 unfold fA cM;simp only[List.mem_flatMap,l6,im];constructor
 ·rintro⟨i,hi,j,hj,rfl⟩;exact⟨i,i+1+j,by omega,by omega,by simp⟩
 ·rintro⟨a,b,h1,h2,rfl⟩;refine⟨a,by omega,b - (a+1),by omega,?_⟩
  have:(a:Int)+1+((b - (a+1):Nat):Int)=b :=by omega
  rw[this]
theorem pairs_len {m:Nat}(h:m<=9):(fA m).length<=36 :=by
 have:m=0\/m=1\/m=2\/m=3\/m=4\/m=5\/m=6\/m=7\/m=8\/m=9 :=by omega
 rcases this with rfl|rfl|rfl|rfl|rfl|rfl|rfl|rfl|rfl|rfl<;>decide
theorem Af {m:Nat}(h:m<=9):(fA m).Nodup :=by
 have:m=0\/m=1\/m=2\/m=3\/m=4\/m=5\/m=6\/m=7\/m=8\/m=9 :=by omega
 rcases this with rfl|rfl|rfl|rfl|rfl|rfl|rfl|rfl|rfl|rfl<;>decide
def fW (a b:Int):List Int:=if a<b then [a,b] else [b,a]
def kP (k:List Int):List Key:=k.map Y5
theorem t7 (a b:List Int) (h:kP a=kP b):a=b :=by
 have:=congrArg (Y2 fun k:Key=>match k with | .inl i=>i | .inr _=>0) h
 simpa[kP,wP,Function.comp_def] using this
theorem fg (k:List Int):fT (k.map Dv.int)=some (kP k):=tN k
def zh (aa:List (List Int)) (p:List Int) (k:Nat):List Int:=fW ((aa.getD (p.getD 0 0).toNat []).getD k 0) ((aa.getD (p.getD 1 0).toNat []).getD k 0)
abbrev mD:=List (List Int×List Int)
def gQ (aa:List (List Int)) (n:Nat) (p:List Int):mD:=(hX n).map fun k=>(zh aa p k,p)
def ja (aa:List (List Int)) (n:Nat):mD:=(fA aa.length).flatMap (gQ aa n)
def sh (ks:List (List Int)) (e:List Int×List Int):List (List Int):=if e.1∈ks then ks else ks++[e.1]
def bU (E:mD):List (List Int):=E.foldl sh []
def h8 (E:mD) (q:List Int):List (List Int):=(E.filter fun e=>decide (e.1=q)).map (·.2)
theorem jb (E:mD) (e:List Int×List Int):bU (E++[e])=sh (bU E) e :=by unfold bU;rw[List.foldl_append];rfl
theorem oe (E:mD) (q p r:List Int):h8 (E++[(q,p)]) r=if q=r then h8 E r++[p] else h8 E r :=by
 unfold h8;rw[List.filter_append,mf];by_cases h:q=r
 ·rw[if_pos h];simp[h]
 ·rw[if_neg h];simp[h]
theorem snoc_ind {α:Type}{p:List α->Prop}(h0:p []) (h1:∀l a,p l->p (l++[a])):∀l,p l:=fun l=>by
 rw[<- List.reverse_reverse l];induction l.reverse with
 |nil=>exact h0
 |cons a l ih=>rw[aay];exact h1 _ _ ih
theorem GZ {q:List Int}:∀E:mD,q∈bU E ↔ ∃e∈E,e.1=q:=snoc_ind (by simp[bU]) fun E a ih=>by
 rw[jb];unfold sh;by_cases h:a.1∈bU E
 ·rw[if_pos h,ih];constructor
  ·rintro⟨e,he,rfl⟩;exact⟨e,by simp[he],rfl⟩
  ·rintro⟨e,he,rfl⟩;rcases qr.mp he with z|z
   ·exact⟨e,z,rfl⟩
   ·have:=lc.mp z;subst this;exact ih.mp h
 ·rw[if_neg h,qr,ih,lc];constructor
  ·rintro (⟨e,he,rfl⟩|rfl)
   ·exact⟨e,by simp[he],rfl⟩
   ·exact⟨a,by simp,rfl⟩
  ·rintro⟨e,he,rfl⟩;rcases qr.mp he with z|z
   ·exact .inl ⟨e,z,rfl⟩
   ·rw[lc.mp z];exact .inr rfl
theorem Jf:∀E:mD,(bU E).Nodup:=snoc_ind (by simp[bU]) fun E a ih=>by
 rw[jb];unfold sh;split
 ·exact ih
 ·rename_i h;rw[IS];exact⟨ih,by simp,fun x hx y hy e=>h (by rw[lc.mp hy]at e;rw[<- e];exact hx)⟩
theorem G0 (E:mD):(bU E).length<=E.length:=snoc_ind (p:=fun E=>(bU E).length<=E.length) (by simp[bU]) (fun E a ih=>by
 rw[jb];unfold sh;split<;>simp<;>omega) E
theorem L7 (E:mD) (q:List Int):(h8 E q).length<=E.length :=by
 unfold h8;rw[bn];exact ZI _ _
theorem zj {E:mD}{q:List Int}(h:q ∉ bU E):h8 E q=[] :=by
 unfold h8;rw[List.map_eq_nil_iff,List.filter_eq_nil_iff];intro e he z;exact h ((GZ E).mpr ⟨e,he,by simpa using z⟩)
theorem mE {α:Type}{f:List Int->α}{q:List Int}:∀{ks:List (List Int)},look (ks.map kP) (ks.map f) (kP q)=if q∈ks then some (f q) else none
 | []=>rfl
 |k::ks=>by
          rw[mo,mo];unfold look;by_cases e:k=q
          ·rw[if_pos (by rw[e]),if_pos (by simp[e]),e]
          ·rw[if_neg (fun z=>e (t7 _ _ z)),mE (ks:=ks)]
           simp[Ch e]
theorem zk {α:Type}{q:List Int}:∀{ks:List (List Int)}{as:List α},as.length=ks.length->(q ∉ ks/\look (ks.map kP) as (kP q)=none)\/∃(j:Nat) (a:α),ks[j]?=some q/\as[j]?=some a/\look (ks.map kP) as (kP q)=some a
 | [],as,_=>by cases as<;>exact .inl ⟨by simp,rfl⟩
 |k::ks,[],h=>by simp at h
 |k::ks,a::as,h=>by
          rw[mo];unfold look;by_cases e:k=q
          ·subst e;exact .inr ⟨0,a,rfl,rfl,by rw[if_pos rfl]⟩
          ·rw[if_neg (fun z=>e (t7 _ _ z))]
           rcases zk (q:=q) (ks:=ks) (as:=as) (by simpa using h) with ⟨h1,h2⟩|⟨j,b,h1,h2,h3⟩
           ·exact .inl ⟨by simp[Ch e,h1],h2⟩
           ·exact .inr ⟨j+1,b,by simpa using h1,by simpa using h2,h3⟩
structure ComM (M0 M:Mh) (c:ag) (as:List ag) (E:mD):Prop where
 c0:M0 c=none
 cm:M c=some (.dt ((bU E).map kP) (as.map .ptr))
 len:as.length=(bU E).length
 am:∀(j:Nat) (a:ag) (q:List Int),as[j]?=some a->(bU E)[j]?=some q->M a=some (.lst ((h8 E q).map eI))
 a0:∀a∈as,M0 a=none/\a≠c
 nd:as.Nodup
 kp:Keeps M0 M
theorem ComM.old {M0 M:Mh}{c a a':ag}{as:List ag}{E:mD}{j:Nat}{q p:List Int}(C:ComM M0 M c as E) (hj:(bU E)[j]?=some q) (ha:as[j]?=some a) (hn:M a'=none) :
  ComM M0 (aw (aw M a' (.lst [])) a (.lst ((h8 E q).map eI++[eI p]))) c as (E++[(q,p)]) :=by
 have ek:bU (E++[(q,p)])=bU E :=by
  rw[jb];unfold sh;rw[if_pos (ff hj)]
 have Kw:=C.am j a q ha hj;have ne:∀b∈as,b≠a':=fun b hb e=>by
  obtain⟨i,hi⟩:=nw.mp hb;have eO:=(ca.mp hi).1;have:=C.am i b _ hi (ap (by rw[<- C.len];exact eO))
  rw[e,hn]at this;cases this
 have tZ:c≠a:=Ch (C.a0 a (ff ha)).2;have si:c≠a':=fun e=>by have:=C.cm;rw[e,hn]at this;cases this
 refine⟨C.c0,by rw[ai tZ,ai si,ek];exact C.cm,by rw[ek];exact C.len,fun i b r hb hr=>?_,C.a0,C.nd,?_⟩
 ·rw[ek]at hr;have bC:=ne b (ff hb);by_cases e:b=a
  ·subst e;have e2:i=j:=(TM (ca.mp hb).1 C.nd).mp (by rw[hb,ha])
   subst e2;rw[hj]at hr;cases hr;rw[updM_same,oe,if_pos rfl,mf];rfl
  ·rw[ai e,ai bC,C.am i b r hb hr,oe,if_neg];intro z;subst z;have e2:i=j:=(TM (ca.mp hr).1 (Jf E)).mp (by rw[hr,hj])
   subst e2;rw[hb]at ha;cases ha;exact e rfl
 ·exact .upd (C.a0 a (ff ha)).1 (.upd (jG C.kp hn) C.kp)
theorem ComM.new {M0 M:Mh}{c a':ag}{as:List ag}{E:mD}{q p:List Int}(C:ComM M0 M c as E) (hq:q ∉ bU E) (hn:M a'=none) :
  ComM M0 (aw (aw (aw M a' (.lst [])) c (.dt ((bU E).map kP++[kP q]) (as.map .ptr++[.ptr a']))) a' (.lst ([]++[eI p]))) c (as++[a']) (E++[(q,p)]) :=by
 have ek:bU (E++[(q,p)])=bU E++[q] :=by
  rw[jb];unfold sh;rw[if_neg hq]
 have ne:∀b∈as,b≠a':=fun b hb e=>by
  obtain⟨i,hi⟩:=nw.mp hb;have eO:=(ca.mp hi).1;have:=C.am i b _ hi (ap (by rw[<- C.len];exact eO))
  rw[e,hn]at this;cases this
 have si:c≠a':=fun e=>by have:=C.cm;rw[e,hn]at this;cases this
 have h0:=jG C.kp hn;refine⟨C.c0,by rw[ai si,updM_same,ek,mf,mf];rfl,by rw[ek,r6,r6,C.len];rfl,fun i b r hb hr=>?_,fun b hb=>?_,?_,.upd h0 (.upd C.c0 (.upd h0 C.kp))⟩
 ·rw[ek]at hr;by_cases hi:i<as.length
  ·rw[wp hi]at hb;rw[wp (by rw[<- C.len];exact hi)]at hr
   have bC:=ff hb;rw[ai (ne b bC),ai (C.a0 b bC).2,ai (ne b bC),C.am i b r hb hr,oe,if_neg];intro z;subst z;exact hq (ff hr)
  ·have eO:=(ca.mp hb).1;rw[r6,GT]at eO;have gY:i=as.length :=by omega
   subst gY;rw[Cs (cb _),Sc]at hb;rw[C.len,Cs (cb _),Sc]at hr;cases hb;cases hr;rw[updM_same,oe,if_pos rfl,zj hq];rfl
 ·rcases qr.mp hb with z|z
  ·exact C.a0 b z
  ·rw[lc.mp z];exact⟨h0,Ch si⟩
 ·rw[IS];exact⟨C.nd,by simp,fun x hx y hy e=>ne x hx (by rw[lc.mp hy]at e;exact e)⟩
def pZ (aa:List (List Int)) (n:Nat):Dv:=.dt ((bU (ja aa n)).map kP) ((bU (ja aa n)).map fun q=>.lst ((h8 (ja aa n) q).map eI))
def Kx:du:=fun ds M Q _=>∃aa n,ds=[eN aa]/\bu aa n/\Q (pZ aa n) M
theorem lP {α β:Type}{f:α->List β}{c:Nat}:∀{l:List α},(∀x∈l,(f x).length<=c)->(l.flatMap f).length<=c * l.length
 | [],_=>by simp
 |x::l,h=>by
          have h1:=h x ii;have h2:=lP (l:=l) fun y hy=>h y (db _ hy)
          rw[List.flatMap_cons,r6,wn,Nat.mul_succ];omega
theorem Qr {x y a b:Int}(ha:a∈[x,y]) (Ub:∀z∈[x,y],a<=z) (hb:b∈[x,y]) (k8:∀z∈[x,y],b ≥ z):[a,b]=fW x y :=by
 have h1:=Ub x (by simp)
 have h2:=Ub y (by simp)
 have h3:=k8 x (by simp)
 have h4:=k8 y (by simp)
 simp only[lp,EO,or_false]at ha hb;unfold fW;split
 ·rw[show a=x by omega,show b=y by omega]
 ·rw[show a=y by omega,show b=x by omega]
theorem Ag {f:ag}{fd:tz}(D:Df K mg "_law_back" jE ["_law_net_here"] f fd) (bl:Bl mg) :
  FnOk P w K mg base bA 1 f fd ["_law_net_here"] (bf P w K tb Kx) :=by
 refine eQ D gv (fun ds M Q E hS=>by obtain⟨aa,n,e,_⟩:=hS;rw[e];rfl) fun A outer s E Γ ds Q' E' hP hw hK ht hr hS=>?_
 obtain⟨aa,n,e,O,q⟩:=hS;refine⟨_,(ah (aG (i:=1) gv.nd rfl (mv rfl) yA)
  (ah (bV sw rfl (bc rfl bl.range_ (ae (aC (bI (K:=K) rfl hK) rfl bl.len_ r9 (ae (qv 0) af)) af)) (fun gP eP ew eK et=>by have hP:=hP.trans eP.symm;have hw:=hw.trans ew.symm;have hK:=hK.trans eK.symm;have ht:=ht.trans et.symm;exact⟨(aF (i:=2) gv.nd rfl (mv rfl)),(av (bV sw rfl (pB rfl bl.range_ (ae (a8 fR (qv 2) ax) (ae (aC (bI (K:=K) rfl hK) rfl bl.len_ r9 (ae (qv 0) af)) af))) (fun gP eP ew eK et=>by have hP:=hP.trans eP.symm;have hw:=hw.trans ew.symm;have hK:=hK.trans eK.symm;have ht:=ht.trans et.symm;exact⟨(aF (i:=3) gv.nd rfl (mv rfl)),(av (bV sw rfl (LZ false false (K:=K) rfl rfl bl.zip_ (aK (aY (K:=K) rfl) (qv 0) (qv 2) (fun _ _=>rfl)) (aK (aY (K:=K) rfl) (qv 0) (qv 3) (fun _ _=>rfl))) (fun gP eP ew eK et=>by have hP:=hP.trans eP.symm;have hw:=hw.trans ew.symm;have hK:=hK.trans eK.symm;have ht:=ht.trans et.symm;exact⟨(aF (i:=4) gv.nd rfl (mv rfl)),(av (dX (ig (K:=K) rfl BS EQ ES gj (ig (K:=K) rfl PySem.F.plainAttrs_dict PySem.F.slot_dict_setdefault PySem.F.type_dict_setdefault (IB hr.units) (qv 1) (ae (jQ (ae (aC (LR rfl) rfl bl.min_ sL (ae (qv 4) af)) (ae (aC (LU rfl) rfl bl.max_ E3 (ae (qv 4) af)) af))) (ae (gC af) af))) (ae (jQ (ae (qv 2) (ae (qv 3) af))) af))))⟩)))⟩)))⟩))
  (av (bg (qv 1))))),?_⟩
 subst e;have h9:=O.nine;have GK:=O.wid;have big:(1000:Nat)<sizeLine :=by decide
 have fl:∀p,(gQ aa n p).length<=3:=fun p=>by simp[gQ];omega
 have rl:∀a,(cM aa.length a).length<=9:=fun a=>by simp[cM];omega
 simp! only[];intro c hc;refine⟨by omega,by omega,?_⟩
 refine aV (fun a ρ M=>∃as,(∃x2 x3 x4,ρ=[some (eN aa),some (.ptr c),x2,x3,x4])/\ComM Γ.M0 M c as (((hX a).flatMap (cM aa.length)).flatMap (gQ aa n))) ⟨[],⟨_,_,_,rfl⟩,⟨hc,updM_same,rfl,(fun j a q h=>nomatch h),(fun a h=>nomatch h),.nil,.upd hc .refl⟩⟩ (fun a d ρ M N hd hJ hN=>?_) (fun ρ M hJ=>?_)
 ·obtain⟨as,⟨x2,x3,x4,rfl⟩,C⟩:=hJ;obtain⟨rfl,ha⟩:=bh hd;obtain⟨ea,la⟩:=uQ O ha;have l1:(((hX a).flatMap (cM aa.length)).flatMap (gQ aa n)).length<=243 :=by
   have h1:=lP (l:=hX a) (c:=9) fun x _=>rl x
   have h2:=lP (l:=(hX a).flatMap (cM aa.length)) (c:=3) fun x _=>fl x
   rw[At]at h1;omega
  simp! only[];refine⟨⟨by omega,by omega,by omega,by omega⟩,?_⟩
  refine aV (fun j ρ M=>∃as,(∃x3 x4,ρ=[some (eN aa),some (.ptr c),some (.int (a:Nat)),x3,x4])/\ComM Γ.M0 M c as (((hX a).flatMap (cM aa.length)).flatMap (gQ aa n)++((cM aa.length a).take j).flatMap (gQ aa n))) ⟨as,⟨_,_,rfl⟩,by simpa using C⟩ (fun j d ρ M N1 hd hJ Xt=>?_) (fun ρ M hJ=>?_)
  ·obtain⟨as,⟨x3,x4,rfl⟩,C⟩:=hJ;obtain⟨rfl,hj⟩:=bh hd;obtain⟨b,hb⟩:∃b:Nat,(a:Int)+1+(j:Nat)=(b:Nat):=⟨a+1+j,by omega⟩
   have Xu:b<aa.length :=by omega
   obtain⟨eb,lb⟩:=uQ O Xu;have Jg:(cM aa.length a)[j]?=some [(a:Int),(b:Int)] :=by
    unfold cM;rw[dL,EU (by omega)]
    show some [(a:Int),(a:Int)+1+(j:Nat)]=_;rw[hb]
   obtain⟨E1,Qs⟩:∃E1,E1=((hX a).flatMap (cM aa.length)).flatMap (gQ aa n)++((cM aa.length a).take j).flatMap (gQ aa n):=⟨_,rfl⟩;have l2:E1.length<=270 :=by
    have h2:=lP (l:=(cM aa.length a).take j) (c:=3) fun x _=>fl x
    have h3:((cM aa.length a).take j).length<=9:=wb (Z5 ..) (rl a);rw[Qs,r6];omega
   have Xv:((hX a).flatMap (cM aa.length)).flatMap (gQ aa n)++((cM aa.length a).take (j+1)).flatMap (gQ aa n)=E1++gQ aa n [(a:Int),(b:Int)] :=by
    rw[Qs,Y8,Jg,YR,GM];simp
   rw[<- Qs]at C;simp! only[hb,ea,eb];refine aV (fun j ρ M=>∃as,(∃x4,ρ=[some (eN aa),some (.ptr c),some (.int (a:Nat)),some (.int (b:Nat)),x4])/\ComM Γ.M0 M c as (E1++(gQ aa n [(a:Int),(b:Int)]).take j)) ⟨as,⟨_,rfl⟩,by simpa using C⟩ (fun j d ρ M N2 hd hJ dU=>?_) (fun ρ M hJ=>?_)
   ·obtain⟨as,⟨x4,rfl⟩,C⟩:=hJ;obtain⟨x,y,rfl,hx,hy⟩:=F0 hd;rw[dL]at hx hy;obtain⟨gx,yU,rfl⟩:=rc.mp hx;obtain⟨gy,Xw,rfl⟩:=rc.mp hy;have hj:j<n :=by have:=(ca.mp yU).1;omega
    have eg:zh aa [(a:Int),(b:Int)] j=fW gx gy :=by
     unfold zh;simp only[List.getD_cons_zero,List.getD_cons_succ,xL];rw[cr (l:=aa.getD a []),yU,cr (l:=aa.getD b []),Xw];rfl
    obtain⟨E,hE⟩:∃E,E=E1++(gQ aa n [(a:Int),(b:Int)]).take j:=⟨_,rfl⟩;have eT:E1++(gQ aa n [(a:Int),(b:Int)]).take (j+1)=E++[(fW gx gy,[(a:Int),(b:Int)])] :=by
     rw[hE,GM];congr 1
     have:(gQ aa n [(a:Int),(b:Int)])[j]?=some (fW gx gy,[(a:Int),(b:Int)]) :=by
      unfold gQ;rw[dL,EU hj,<- eg];rfl
     rw[Y8,this];rfl
    have Yh:E.length<=273 :=by
     have h2:((gQ aa n [(a:Int),(b:Int)]).take j).length<=3:=wb (Z5 ..) (fl _);rw[hE,r6];omega
    rw[<- hE]at C;rw[eT]at dU;have PV:=G0 E;have Yi:=L7 E (fW gx gy);have Ky:=C.cm;simp! only[Ky];refine⟨[gx,gy],rfl,Nat.zero_lt_succ _,fun m h1 h2=>⟨[gx,gy],rfl,Nat.zero_lt_succ _,fun m' h3 h4=>⟨by omega,by omega,fun a' hn=>?_⟩⟩⟩
    rw[show [Dv.int m,Dv.int m']=(fW gx gy).map Dv.int by rw[<- Qr h1 h2 h3 h4];rfl,fg]
    have si:c≠a':=fun e=>by rw[e,hn]at Ky;cases Ky
    simp only[ai si,Ky];refine⟨by rw[bn];omega,?_⟩
    rcases zk (q:=fW gx gy) (ks:=bU E) (as:=as.map Dv.ptr) (by rw[bn];exact C.len) with ⟨h1,h2⟩|⟨k,v,h1,h2,h3⟩
    ·simp only[h2,ai (Ch si),updM_same];exact⟨trivial,by omega,(show 0<sizeLine by omega),dU _ _ ⟨as++[a'],⟨_,rfl⟩,C.new (p:=[(a:Int),(b:Int)]) h1 hn⟩⟩
    ·rw[dL]at h2;obtain⟨ak,tO,rfl⟩:=rc.mp h2;have Kw:=C.am k ak _ tO h1;have d8:ak≠a':=fun e=>by rw[e,hn]at Kw;cases Kw
     simp only[h3,ai d8,Kw];exact⟨trivial,by omega,by rw[bn];omega,dU _ _ ⟨as,⟨_,rfl⟩,C.old (p:=[(a:Int),(b:Int)]) h1 tO hn⟩⟩
   ·obtain⟨as,⟨x4,rfl⟩,C⟩:=hJ;refine Xt _ _ ⟨as,⟨_,_,rfl⟩,?_⟩;rw[Xv];have el:(ft (Y2 Dv.int (aa.getD a [])) (Y2 Dv.int (aa.getD b []))).length=n :=by rw[pairsD_len,bn,bn,la,lb,Re]
    rw[el,Yr (l:=gQ aa n [(a:Int),(b:Int)]) (by simp[gQ])]at C
    exact C
  ·obtain⟨as,⟨x3,x4,rfl⟩,C⟩:=hJ;refine hN _ _ ⟨as,⟨_,_,_,rfl⟩,?_⟩;have el:(cp ((a:Int)+1) ((aa.length:Int) - ((a:Int)+1)).toNat).length=(cM aa.length a).length :=by rw[rangeD_len];simp[cM];omega
   rw[el,YK]at C;rw[SO,YR,YR];simpa using C
 ·obtain⟨as,⟨x2,x3,x4,rfl⟩,C⟩:=hJ;rw[rangeD_len]at C;simp! only[];refine .inr ⟨C.kp,pZ aa n,.dt C.c0 C.cm (by rw[bn,bn];exact C.len) fun j d d' e1 e2=>?_,q⟩
  rw[dL]at e1 e2;obtain⟨a,ha,rfl⟩:=rc.mp e1;obtain⟨k,hk,rfl⟩:=rc.mp e2;refine .ptr (C.a0 a (ff ha)).1 (C.am j a k ha hk) rfl fun i d d' e1 e2=>?_
  rw[show h8 (ja aa n) k=h8 (((hX aa.length).flatMap (cM aa.length)).flatMap (gQ aa n)) k from rfl,e1]at e2;cases e2;obtain⟨r,_,rfl⟩:=im.mp (ff e1);exact .pin (FY r)
theorem dP:aP ["_law_back_here","_law_some","_law_found","_law_line","_law_two","_law_at","_law_older"] ["_law_back_here","_law_some"] (aq jF):=⟨rfl,rfl,rfl,by decide +kernel,rfl,by decide +kernel,by decide +kernel⟩
theorem lQ:aP ["_law_many","_law_found","_law_p"] ["_law_many"] (aq hU):=⟨rfl,rfl,rfl,by decide +kernel,rfl,by decide +kernel,by decide +kernel⟩
def gH (m:Nat):List (List Int):=(hX m).map fun i:Nat=>[(i:Int),(i:Int)]
def qE (m:Nat):List (List Int):=fA m++gH m
theorem Jh {m:Nat}(h:m<=9):(qE m).length<=45 :=by
 unfold qE gH;have:=pairs_len h;simp;omega
inductive gI (aa:List (List Int)) (n:Nat) (G:List Int->Prop):List Int->Prop where
 |base {p:List Int} (h:G p):gI aa n G p
 |step {p:List Int} {k:Nat} (hp:p∈fA aa.length) (hk:k<n) (h:gI aa n G (zh aa p k)):gI aa n G p
theorem Cg {aa:List (List Int)}{n:Nat}{p q:List Int}:p∈h8 (ja aa n) q ↔ p∈fA aa.length/\∃k,k<n/\zh aa p k=q :=by
 unfold h8 ja gQ;simp only[im,LS,List.mem_flatMap,l6,decide_eq_true_eq];constructor
 ·rintro⟨e,⟨⟨p',hp,k,hk,rfl⟩,rfl⟩,rfl⟩;exact⟨hp,k,hk,rfl⟩
 ·rintro⟨hp,k,hk,rfl⟩;exact⟨_,⟨⟨p,hp,k,hk,rfl⟩,rfl⟩,rfl⟩
theorem L8 {aa:List (List Int)}{n:Nat}{g:List Int}:(look ((bU (ja aa n)).map kP) ((bU (ja aa n)).map fun q=>Dv.lst ((h8 (ja aa n) q).map eI)) (kP g)).getD (.lst [])=.lst ((h8 (ja aa n) g).map eI) :=by
 rw[mE];split
 ·rfl
 ·rename_i h;rw[zj h];rfl
def DQ (ks:List (List Int)):Dv:=.dt (ks.map kP) (ks.map fun _=>.bl true)
theorem ik {α:Type} [DecidableEq α]:∀(ks U:List α),ks.Nodup->(∀k∈ks,k∈U)->ks.length<=U.length
 | [],_,_,_=>ut _
 |k::ks,U,nd,h=>by
          have hn:=NG.mp nd;have hk:=h k ii;have ih:=ik ks (U.erase k) hn.2 fun x hx=>(YH (fun e=>hn.1 (by rw[<- e];exact hx))).mpr (h x (db _ hx))
          rw[WE hk]at ih;have:=Ps hk;rw[wn];omega
theorem zm {aa:List (List Int)}{n:Nat}{G:List Int->Prop}(hG:∀p,G p->p∈qE aa.length) {p:List Int}(h:gI aa n G p):p∈qE aa.length :=by
 cases h with
 |base h=>exact hG _ h
 |step hp _ _=>exact uu _ hp
structure t9 (M0 M:Mh) (a b:ag) (ks:List (List Int)):Prop where
 ma:M a=some (.dt (ks.map kP) (ks.map fun _=>Dv.bl true))
 mb:M b=some (.lst (ks.map eI))
 kp:Keeps M0 M
def Kz:du:=fun ds M Q _=>∃(aa:List (List Int)) (n:Nat) (gs:List (List Int)),ds=[pZ aa n,.lst (gs.map eI)]/\bu aa n/\gs.Nodup/\(∀p∈gs,p∈qE aa.length)/\∀ks:List (List Int),(∀p,p∈ks ↔ gI aa n (·∈gs) p)->ks.length<=45->Q (DQ ks) M
theorem Ah {f:ag}{fd:tz}(D:Df K mg "_law_from" jF ["_law_back_here","_law_some"] f fd) (bl:Bl mg) :
  FnOk P w K mg base bA 1 f fd ["_law_back_here","_law_some"] (bf P w K tb Kz) :=by
 refine eQ D dP (fun ds M Q E hS=>by obtain⟨aa,n,gs,e,_⟩:=hS;rw[e];rfl) fun A outer s E Γ ds Q' E' hP hw hK ht hr hS=>?_
 obtain⟨aa,n,gs,e,O,ng,hu,q⟩:=hS;refine⟨_,(ah (aG (i:=2) dP.nd rfl (mv rfl) yA)
  (ah (aG (i:=3) dP.nd rfl (mv rfl) (gC af))
  (ah (bV sw rfl (da (K:=K) rfl (qv 1)) (fun gP eP ew eK et=>by have hP:=hP.trans eP.symm;have hw:=hw.trans ew.symm;have hK:=hK.trans eK.symm;have ht:=ht.trans et.symm;exact⟨(aF (i:=4) dP.nd rfl (mv rfl)),(ah (BF hr.units (qv 2) (qv 4) mj)
  (av (dX (ig (K:=K) rfl BS EQ ES gj (qv 3) (ae (qv 4) af)))))⟩))
  (ah (aG (i:=5) dP.nd rfl (mv rfl) ax)
  (ah (nE sw (bY uC (qv 5) (aC (bI (K:=K) rfl hK) rfl bl.len_ r9 (ae (qv 3) af)) (cW _))
   (ah (bV sw rfl (da (K:=K) rfl (PL (K:=K) PySem.F.plainAttrs_dict SL PySem.F.type_dict_get (Pl hr.units) (qv 0) (ae (aK (aY (K:=K) rfl) (qv 3) (qv 5) (fun _ _=>rfl)) (ae (tI af) af)))) (fun gP eP ew eK et=>by have hP:=hP.trans eP.symm;have hw:=hw.trans ew.symm;have hK:=hK.trans eK.symm;have ht:=ht.trans et.symm;exact⟨(aF (i:=6) dP.nd rfl (mv rfl)),(av (fb (bY (rW hr.units) (qv 6) (qv 2) (by rfl))
   (ah (BF hr.units (qv 2) (qv 6) mj)
  (av (dX (ig (K:=K) rfl BS EQ ES gj (qv 3) (ae (qv 6) af)))))
   qss_nil))⟩))
  (av (aG (i:=5) dP.nd rfl (mv rfl) (a8 fR (qv 5) ax)))))
  (av (bg (qv 2)))))))),?_⟩
 subst e;have h9:=O.nine;have big:(1000:Nat)<sizeLine :=by decide
 have ku:∀ks:List (List Int),ks.Nodup->(∀x∈ks,x∈qE aa.length)->ks.length<=45:=fun ks h1 h2=>wb (ik _ _ h1 h2) (Jh h9)
 have iU:=ku gs ng hu;simp! only[];intro a ha;refine⟨by omega,fun b hb=>?_⟩
 have yS:b≠a:=fun z=>by rw[z,updM_same]at hb;cases hb
 have Uc:Γ.M0 b=none :=by rw[ai yS]at hb;exact hb
 have push:∀{M:Mh} {ks:List (List Int)} {p:List Int},t9 Γ.M0 M a b ks->t9 Γ.M0 (aw (aw M a (.dt (ks.map kP++[kP p]) ((ks.map fun _=>Dv.bl true)++[.bl true]))) b (.lst (ks.map eI++[eI p]))) a b (ks++[p]):=fun {M ks p} L=>by
  refine⟨?_,?_,.upd Uc (.upd ha L.kp)⟩
  ·rw[ai (Ch yS),updM_same,mf,mf];rfl
  ·rw[updM_same,mf];rfl
 refine aV (fun i ρ M=>(∃x4,ρ=[some (pZ aa n),some (.lst (gs.map eI)),some (.ptr a),some (.ptr b),x4,none,none])/\t9 Γ.M0 M a b (gs.take i)) ⟨⟨_,rfl⟩,?_,updM_same,.upd Uc (.upd ha .refl)⟩ (fun i d ρ M N hd hJ hN=>?_) (fun ρ M hJ=>?_)
 ·rw[ai (Ch yS),updM_same];rfl
 ·obtain⟨⟨x4,rfl⟩,L⟩:=hJ;obtain⟨p,hp,rfl⟩:=ly hd;have Hw:p ∉ gs.take i:=fun h=>by
   obtain⟨j,hj⟩:=nw.mp h;rw[List.getElem?_take]at hj;split at hj
   ·have hi:=(ca.mp hp).1;have:=(TM (ca.mp hj).1 ng).mp (hj.trans hp.symm);omega
   ·cases hj
  obtain⟨p1,p2⟩:=BI (k:=kP p) (d:=Dv.bl true) (ks:=(gs.take i).map kP) (ds:=(gs.take i).map fun _=>Dv.bl true) fun h=>Hw ((q9 t7).mp h)
  have et:gs.take (i+1)=gs.take i++[p] :=by rw[Y8,hp];rfl
  have hl:(gs.take i).length<=45:=wb (Z5 ..) iU;have dU:=hN [some (pZ aa n),some (.lst (gs.map eI)),some (.ptr a),some (.ptr b),some (eI p),none,none] _ ⟨⟨_,rfl⟩,by rw[et];exact push L⟩
  simp! only[L.ma,fg,p1,p2,ai yS,L.mb];exact⟨by omega,by omega,dU⟩
 ·obtain⟨⟨x4,rfl⟩,L⟩:=hJ;rw[bn,YK]at L;simp! only[];let I:List (List Int)->Nat->Prop:=fun ks i=>ks.Nodup/\(∀x∈gs,x∈ks)/\(∀x∈ks,gI aa n (·∈gs) x)/\∀(j:Nat) (g:List Int),j<i->ks[j]?=some g->∀p∈h8 (ja aa n) g,p∈ks
  refine⟨fun k ρ M=>∃(ks:List (List Int)) (i:Nat),k=45 - i/\(∃x4 x6,ρ=[some (pZ aa n),some (.lst (gs.map eI)),some (.ptr a),some (.ptr b),x4,some (.int (i:Nat)),x6])/\t9 Γ.M0 M a b ks/\i<=ks.length/\I ks i,⟨_,gs,0,rfl,⟨_,_,rfl⟩,L,ut _,ng,fun x h=>h,fun x h=>.base h,fun j g h=>absurd h (YT _)⟩,?_⟩
  rintro k ρ M ⟨ks,i,rfl,⟨x4,x6,rfl⟩,L,hi,k1,k2,k3,k5⟩;have kl:=ku ks k1 fun x hx=>zm hu (k3 x hx)
  simp! only[L.mb];refine fS (fun h=>?_) (fun h=>?_)
  ·have eO:i<ks.length :=by have:=of_decide_eq_true h;omega
   have hg:ks[i]?=some ks[i]:=ap eO;obtain⟨g,eg⟩:∃g,g=ks[i]:=⟨_,rfl⟩;rw[<- eg]at hg;have ea:bj (ks.map eI) (i:Int)=some (eI g):=bS (by rw[dL,hg];rfl)
   simp! only[L.mb,ea,eI,pZ,fg,L8];have Xx:g∈ks:=ff hg;refine⟨by omega,?_⟩
   refine aV (fun t ρ M=>(∃x4 x6,ρ=[some (pZ aa n),some (.lst (gs.map eI)),some (.ptr a),some (.ptr b),x4,some (.int (i:Nat)),x6])/\∃dq r:List (List Int),t9 Γ.M0 M a b dq/\dq=ks++r/\dq.Nodup/\(∀x∈dq,gI aa n (·∈gs) x)/\∀p∈(h8 (ja aa n) g).take t,p∈dq) ⟨⟨_,_,rfl⟩,ks,[],L,by simp,k1,k3,fun p hp=>by simp at hp⟩ (fun t d ρ M N2 hd hJ dU=>?_) (fun ρ M hJ=>?_)
   ·obtain⟨⟨y4,y6,rfl⟩,dq,r,L2,e2,g1,g4,gt⟩:=hJ;obtain⟨p,hp,rfl⟩:=ly hd;have gl:=ku dq g1 fun x hx=>zm hu (g4 x hx)
    have pl:gI aa n (·∈gs) p :=by
     obtain⟨h1,k,hk,h2⟩:=Cg.mp (ff hp);exact .step h1 hk (h2▸k3 g Xx)
    have et:(h8 (ja aa n) g).take (t+1)=(h8 (ja aa n) g).take t++[p] :=by rw[Y8,hp];rfl
    simp! only[L2.ma,fg,mE];by_cases m9:p∈dq
    ·rw[if_pos m9,if_neg (by simp)]
     refine dU _ _ ⟨⟨_,_,rfl⟩,dq,r,L2,e2,g1,g4,fun x hx=>?_⟩
     rw[et]at hx;rcases qr.mp hx with z|z
     ·exact gt x z
     ·rw[lc.mp z];exact m9
    ·rw[if_neg m9,if_pos (by simp)]
     obtain⟨p1,p2⟩:=BI (k:=kP p) (d:=Dv.bl true) (ks:=dq.map kP) (ds:=dq.map fun _=>Dv.bl true) fun h=>m9 ((q9 t7).mp h)
     have Xy:(dq++[p]).Nodup :=by
      rw[IS];exact⟨g1,by simp,fun x hx y hy e=>m9 (by rw[lc.mp hy]at e;rw[<- e];exact hx)⟩
     have l2:∀x∈dq++[p],gI aa n (·∈gs) x:=fun x hx=>by
      rcases qr.mp hx with z|z
      ·exact g4 x z
      ·rw[lc.mp z];exact pl
     simp only[p1,p2,ai yS,L2.mb];refine⟨by omega,trivial,by rw[bn];omega,dU _ _ ⟨⟨_,_,rfl⟩,dq++[p],r++[p],push L2,by rw[e2,GM],Xy,l2,fun x hx=>?_⟩⟩
     rw[et]at hx;rcases qr.mp hx with z|z
     ·exact uu _ (gt x z)
     ·exact f8 _ z
   ·obtain⟨⟨y4,y6,rfl⟩,dq,r,L2,e2,g1,g4,gt⟩:=hJ;rw[bn,YK]at gt;have sub:∀x∈ks,x∈dq:=fun x hx=>by rw[e2];exact uu _ hx
    have qI:ks.length<=dq.length :=by rw[e2,r6];omega
    simp! only[];refine⟨45 - (i+1),by omega,dq,i+1,rfl,⟨_,_,rfl⟩,L2,by omega,g1,fun x hx=>sub x (k2 x hx),g4,fun j h hj hk=>?_⟩
    rw[e2,wp (by omega)]at hk
    by_cases z:j=i
    ·subst z;rw[hg]at hk;cases hk;exact gt
    ·exact fun p hp=>sub p (k5 j h (by omega) hk p hp)
  ·have eO:i=ks.length :=by have:=of_decide_eq_false h;omega
   subst eO;refine .inr ⟨L.kp,DQ ks,.dt ha L.ma rfl fun j d d' e1 e2=>?_,q ks (fun p=>⟨k3 p,fun h=>?_⟩) kl⟩
   ·rw[e1]at e2;cases e2;obtain⟨_,_,rfl⟩:=im.mp (ff e1);exact .pin (.bl true)
   ·induction h with
    |base h=>exact k2 _ h
    |step hp hk _ ih=>
     obtain⟨j,hj⟩:=nw.mp ih;exact k5 j _ (ca.mp hj).1 hj _ (Cg.mpr ⟨hp,_,hk,rfl⟩)
def KA:du:=fun ds M Q _=>∃m:Nat,ds=[.int (m:Nat)]/\m<=9/\Q (.lst ((fA m).map eI)) M
theorem Ai {f:ag}{fd:tz}(D:Df K mg "_law_twos" hU ["_law_many"] f fd) (bl:Bl mg) :
  FnOk P w K mg base bA 1 f fd ["_law_many"] (bf P w K tb KA) :=by
 refine eQ D lQ (fun ds M Q E hS=>by obtain⟨m,e,_⟩:=hS;rw[e];rfl) fun A outer s E Γ ds Q' E' hP hw hK ht hr hS=>?_
 obtain⟨m,e,h9,q⟩:=hS;refine⟨_,(ah (aG (i:=1) lQ.nd rfl (mv rfl) (gC af))
  (ah (bV sw rfl (bc rfl bl.range_ (ae (qv 0) af)) (fun gP eP ew eK et=>by have hP:=hP.trans eP.symm;have hw:=hw.trans ew.symm;have hK:=hK.trans eK.symm;have ht:=ht.trans et.symm;exact⟨(aF (i:=2) lQ.nd rfl (LH rfl)),(av (dX (ig (K:=K) rfl BS PySem.F.slot_list_extend PySem.F.type_list_extend Ip (qv 1) (ae (dC (N':=["_law_q","_law_p"]) (tn:=1) (idx:=[2]) rfl (show aD ["_law_many","_law_found","_law_p"] (aq hU) _ ["_law_q","_law_p"] 1 [2] from by decide +kernel) (pB rfl bl.range_ (ae (a8 fR (qv 2) ax) (ae (qv 0) af))) (fun _ _ _ _ _=>(aF (i:=0) (show Cf [("_law_q" : ci),("_law_p" : ci)] from by decide +kernel) rfl (mv rfl))) (fun _ _ _ _ _=>cq) (fun _ _ _ _ _=>(jQ (ae (qv 1) (ae (qv 0) af))))) af))))⟩))
  (av (bg (qv 1))))),?_⟩
 subst e;have big:(1000:Nat)<sizeLine :=by decide
 have rl:∀a,(cM m a).length<=9:=fun a=>by simp[cM];omega
 simp! only[];refine⟨by omega,fun a ha=>⟨by omega,by omega,?_⟩⟩
 refine aV (fun i ρ M=>(∃x2,ρ=[some (.int (m:Nat)),some (.ptr a),x2])/\M=aw Γ.M0 a (.lst (((hX i).flatMap (cM m)).map eI))) ⟨⟨_,rfl⟩,rfl⟩ (fun i d ρ M N hd hJ hN=>?_) (fun ρ M hJ=>?_)
 ·obtain⟨⟨x2,rfl⟩,rfl⟩:=hJ;obtain⟨rfl,hi⟩:=bh hd;have hl:=lP (l:=hX i) (f:=cM m) (c:=9) fun x _=>rl x
  rw[At]at hl;simp! only[];refine⟨⟨by omega,by omega,by omega,by omega⟩,by omega,jl (fun d=>match d with | .int j=>eI [(i:Int),j]|d=>d) (fun τ M2=>(∃x,τ=[x,some (.int (i:Nat))])/\M2=aw Γ.M0 a (.lst (((hX i).flatMap (cM m)).map eI))) ⟨⟨_,rfl⟩,rfl⟩ (fun d hd τ M2 hE R hR=>?_) (fun τ M2 hE=>?_)⟩
  ·obtain⟨⟨x,rfl⟩,rfl⟩:=hE;obtain⟨j,hj,rfl⟩:=km hd;have h:=hR [some (.int ((i:Int)+1+(j:Nat))),some (.int (i:Nat))] _ ⟨⟨_,rfl⟩,rfl⟩;simp! only[];exact⟨by omega,h⟩
  ·obtain⟨⟨x,rfl⟩,rfl⟩:=hE;have er:(cp ((i:Int)+1) ((m:Int) - ((i:Int)+1)).toNat).map (fun d=>match d with | .int j=>eI [(i:Int),j]|d=>d)=(cM m i).map eI :=by
    unfold cp cM;rw[wP,wP,show ((m:Int) - ((i:Int)+1)).toNat=m - (i+1) by omega]
    rfl
   rw[er];have BJ:=rl i;have dU:=hN [some (.int (m:Nat)),some (.ptr a),some (.int (i:Nat))] _ ⟨⟨_,rfl⟩,rfl⟩;rw[SO,YR,List.flatMap_cons,List.flatMap_nil,Ix,mf]at dU;simp only[updM_same,updM_updM];exact⟨(fun t e=>nomatch e),by rw[bn,bn];omega,dU⟩
 ·obtain⟨⟨x2,rfl⟩,rfl⟩:=hJ;rw[rangeD_len];exact mr (.upd ha .refl) ha updM_same (fun d hd=>by obtain⟨r,_,rfl⟩:=im.mp hd;exact .tup (dj r)) q
theorem dF:aP ["_law_net_here","_law_back_here","_law_met","_law_twos_here","_law_never","_law_bad"] ["_law_net_here"] (aq dn):=⟨rfl,rfl,rfl,by decide +kernel,rfl,by decide +kernel,by decide +kernel⟩
theorem Ji (x y:Int):fW x y=fW y x :=by
 unfold fW;by_cases h:x<y
 ·rw[if_pos h,if_neg (by omega)]
 ·by_cases h2:y<x
  ·rw[if_neg h,if_pos h2]
  ·have:x=y :=by omega
   subst this;rfl
theorem Ci {aa:List (List Int)}{a b:Int}{k:Nat}:zh aa (fW a b) k=fW (kb aa a k) (kb aa b k) :=by
 unfold fW zh kb;by_cases h:a<b
 ·rw[if_pos h];rfl
 ·rw[if_neg h];exact Ji _ _
theorem vX {aa:List (List Int)}{a b:Int}(ha:e6 aa a) (hb:e6 aa b) (h:a≠b):fW a b∈fA aa.length :=by
 obtain⟨u,rfl⟩:=xw ha.1;obtain⟨v,rfl⟩:=xw hb.1;have h1:=ha.2;have h2:=hb.2;rw[GY];unfold fW;by_cases c:(u:Int)<v
 ·rw[if_pos c];exact⟨u,v,by omega,by omega,rfl⟩
 ·rw[if_neg c];exact⟨v,u,by omega,by omega,rfl⟩
theorem zp {aa:List (List Int)}{a b:Int}(ha:e6 aa a):fW a b∈gH aa.length ↔ a=b :=by
 constructor
 ·intro h;unfold gH at h;obtain⟨i,_,e⟩:=im.mp h;unfold fW at e;split at e
  ·have e1:=(XV e).1;have e2:=(XV (XV e).2).1;omega
  ·have e1:=(XV e).1;have e2:=(XV (XV e).2).1;omega
 ·rintro rfl;obtain⟨u,rfl⟩:=xw ha.1;have h1:=ha.2;unfold gH fW;rw[if_neg (by omega),im]
  exact⟨u,l6.mpr (by omega),rfl⟩
theorem Cj {aa:List (List Int)}{n:Nat}(O:bu aa n):∀{w:List Nat}{a b:Int},e6 aa a->e6 aa b->jX n w->c7 aa w a=c7 aa w b->gI aa n (·∈gH aa.length) (fW a b)
 | [],a,b,ha,hb,_,e=>.base ((zp ha).mpr e)
 |k::w,a,b,ha,hb,hw,e=>by
          by_cases h:a=b
          ·exact .base ((zp ha).mpr h)
          ·have hk:=hw k ii;refine .step (vX ha hb h) hk ?_;rw[Ci];exact Cj O (qD O ha hk) (qD O hb hk) (fun x hx=>hw x (db _ hx)) e
theorem L9 {aa:List (List Int)}{n:Nat}{G:List Int->Prop}(O:bu aa n) (hG:∀p,G p->¬ gI aa n (·∈gH aa.length) p) {p:List Int}(h:gI aa n G p):∀{a b:Int},e6 aa a->e6 aa b->p=fW a b->StaI aa n a b->False :=by
 induction h with
 |base h=>
  intro a b ha hb e hs;subst e;obtain⟨w,hw,e⟩:=hs [] .nil;exact hG _ h (Cj O ha hb hw e)
 | @step p k _ hk _ ih=>
  intro a b ha hb e hs;subst e;exact ih (qD O ha hk) (qD O hb hk) Ci fun w hw=>hs (k::w) (.cons hk hw)
theorem Ma (m:Nat):(gH m).Nodup :=by
 unfold gH;exact Yx.mpr (Zv.imp fun h e=>h (by have:=(XV e).1;omega))
theorem zq {ks:List (List Int)}(l:List (List Int)) :
  (l.map eI).filter (fun d=>match d with | .tup es=>(match fT es with|some k => !(look (ks.map kP) (ks.map fun _=>Dv.bl true) k).isSome|none=>false)|_=>false)=(l.filter fun p => !decide (p∈ks)).map eI :=by
 rw[List.filter_map];congr 1
 refine List.filter_congr fun p _=>?_
 show (match fT (p.map Dv.int) with|some k => !(look (ks.map kP) (ks.map fun _=>Dv.bl true) k).isSome|none=>false)=_
 rw[fg];dsimp only;rw[mE];by_cases z:p∈ks
 ·rw[if_pos z];simp[z]
 ·rw[if_neg z];simp[z]
def Ck:du:=fun ds M Q _=>∃aa n,ds=[eN aa]/\bu aa n/\∀never sure:List (List Int),(∀a b:Int,e6 aa a->e6 aa b->a≠b->StaI aa n a b->fW a b∈sure)->Q (.tup [.lst (never.map eI),.lst (sure.map eI)]) M
theorem wg {f f1 f2 f3:ag}{fd b8 fd2 pM:tz}(D:Df K mg "_law_judged" dn ["_law_net_here"] f fd)
  (fF:Df K mg "_law_back" jE ["_law_net_here"] f1 b8) (Aj:FnOk P w K mg base bA 1 f1 b8 ["_law_net_here"] (bf P w K tb Kx))
  (cU:Df K mg "_law_from" jF ["_law_back_here","_law_some"] f2 fd2) (rC:FnOk P w K mg base bA 1 f2 fd2 ["_law_back_here","_law_some"] (bf P w K tb Kz))
  (fG:Df K mg "_law_twos" hU ["_law_many"] f3 pM) (Ak:FnOk P w K mg base bA 1 f3 pM ["_law_many"] (bf P w K tb KA)) (bl:Bl mg) :
  FnOk P w K mg base bA 2 f fd ["_law_net_here"] (bf P w K tb Ck) :=by
 refine eQ D dF (fun ds M Q E hS=>by obtain⟨aa,n,e,_⟩:=hS;rw[e];rfl) fun A outer s E Γ ds Q' E' hP hw hK ht hr hS=>?_
 obtain⟨aa,n,e,O,q⟩:=hS;refine⟨_,(ah (aG (i:=1) dF.nd rfl (mv rfl) (aL Aj (hr.mono (by decide)) rfl fF.mg fF.fn.kp fF.bd bH hP hw hK ht XR.none (ae (qv 0) af)))
  (ah (aG (i:=2) dF.nd rfl (LH rfl) (aL rC (hr.mono (by decide)) rfl cU.mg cU.fn.kp cU.bd bH hP hw hK ht XR.none (ae (qv 1) (ae (dC (N':=["_law_p"]) (tn:=1) (idx:=[]) rfl (show aD ["_law_net_here","_law_back_here","_law_met","_law_twos_here","_law_never","_law_bad"] (aq dn) _ ["_law_p"] 1 [] from by decide +kernel) (bc rfl bl.range_ (ae (aC (bI (K:=K) rfl hK) rfl bl.len_ r9 (ae (qv 0) af)) af)) (fun _ _ _ _ _=>(aF (i:=0) (show Cf [("_law_p" : ci)] from by decide +kernel) rfl (mv rfl))) (fun _ _ _ _ _=>cq) (fun _ _ _ _ _=>(jQ (ae (qv 0) (ae (qv 0) af))))) af))))
  (ah (aG (i:=3) dF.nd rfl (mv rfl) (aL Ak (hr.mono (by decide)) rfl fG.mg fG.fn.kp fG.bd bH hP hw hK ht XR.none (ae (aC (bI (K:=K) rfl hK) rfl bl.len_ r9 (ae (qv 0) af)) af)))
  (ah (nJ (i:=4) dF.nd rfl rfl (N':=["_law_two","_law_met"]) (tn:=1) (idx:=[2]) rfl (show aD ["_law_net_here","_law_back_here","_law_met","_law_twos_here","_law_never","_law_bad"] (aq dn) _ ["_law_two","_law_met"] 1 [2] from by decide +kernel) (da (K:=K) rfl (qv 3)) (fun _ _ _ _ _=>(aF (i:=0) (show Cf [("_law_two" : ci),("_law_met" : ci)] from by decide +kernel) rfl (mv rfl))) (fun _ _ _ _ _=>(qo (bY (rW hr.units) (qv 0) (qv 1) (by rfl)))) (fun _ _ _ _ _=>(qv 0)))
  (ah (aG (i:=5) dF.nd rfl (LH rfl) (aL rC (hr.mono (by decide)) rfl cU.mg cU.fn.kp cU.bd bH hP hw hK ht XR.none (ae (qv 1) (ae (qv 4) af))))
  (av (bg (jQ (ae (qv 4) (ae (dC (N':=["_law_two","_law_bad"]) (tn:=1) (idx:=[5]) rfl (show aD ["_law_net_here","_law_back_here","_law_met","_law_twos_here","_law_never","_law_bad"] (aq dn) _ ["_law_two","_law_bad"] 1 [5] from by decide +kernel) (da (K:=K) rfl (qv 3)) (fun _ _ _ _ _=>(aF (i:=0) (show Cf [("_law_two" : ci),("_law_bad" : ci)] from by decide +kernel) rfl (mv rfl))) (fun _ _ _ _ _=>(qo (bY (rW hr.units) (qv 0) (qv 1) (by rfl)))) (fun _ _ _ _ _=>(qv 0))) af)))))))))),?_⟩
 subst e;have h9:=O.nine;have big:(1000:Nat)<sizeLine :=by decide
 have pl:=pairs_len h9;refine⟨aa,n,rfl,O,?_⟩;simp! only[];refine⟨by omega,by omega,by omega,jl (fun d=>match d with | .int i=>eI [i,i]|d=>d) (fun τ M=>(∃x,τ=[x])/\M=Γ.M0) ⟨⟨_,rfl⟩,rfl⟩ (fun d hd τ M hJ R k=>?_) (fun τ M hJ=>?_)⟩
 ·obtain⟨⟨x,rfl⟩,rfl⟩:=hJ;have k:=k [some d] Γ.M0 ⟨⟨_,rfl⟩,rfl⟩;obtain⟨i,hi,rfl⟩:=km hd;rw[Op]at k ⊢;simp! only[];exact⟨by omega,k⟩
 ·obtain⟨⟨x,rfl⟩,rfl⟩:=hJ;have e:((cp 0 aa.length).map fun d=>match d with | .int i=>eI [i,i]|d=>d)=(gH aa.length).map eI :=by
   unfold cp gH;rw[wP,wP];refine GG fun i _=>?_
   show eI [0+(i:Int),0+(i:Int)]=_;rw[Op];rfl
  rw[e];refine⟨aa,n,gH aa.length,rfl,O,Ma _,fun p hp=>f8 _ hp,fun ks Xz hl=>?_⟩
  refine⟨aa.length,rfl,h9,?_⟩;simp! only[];refine⟨by omega,lx (fun d=>match d with | .tup es=>(match fT es with|some k => !(look (ks.map kP) (ks.map fun _=>Dv.bl true) k).isSome|none=>false)|_=>false) (fun d hd R hR=>?_) ?_⟩
  ·obtain⟨p,hp,rfl⟩:=im.mp hd;simp only[eI,fg]at hR;simp! only[DQ,eI,fg];exact hR
  ·rw[zq];obtain⟨nv,env⟩:∃nv,nv=(fA aa.length).filter fun p => !decide (p∈ks):=⟨_,rfl⟩
   rw[<- env];have Ud:∀p∈nv,p∈fA aa.length/\¬ gI aa n (·∈gH aa.length) p:=fun p hp=>by
    rw[env]at hp;obtain⟨h1,h2⟩:=LS.mp hp;exact⟨h1,fun z=>by rw[decide_eq_true ((Xz p).mpr z)]at h2;cases h2⟩
   have XA:nv.Nodup :=by rw[env];exact(Af h9).filter _
   refine⟨aa,n,nv,rfl,O,XA,fun p hp=>uu _ (Ud p hp).1,fun dq Vj qI=>?_⟩
   simp! only[];refine⟨by omega,lx (fun d=>match d with | .tup es=>(match fT es with|some k => !(look (dq.map kP) (dq.map fun _=>Dv.bl true) k).isSome|none=>false)|_=>false) (fun d hd R hR=>?_) ?_⟩
   ·obtain⟨p,hp,rfl⟩:=im.mp hd;simp only[eI,fg]at hR;simp! only[DQ,eI,fg];exact hR
   ·rw[zq];refine⟨by omega,.inl (q nv _ fun a b ha hb fk hs=>LS.mpr ⟨vX ha hb fk,?_⟩)⟩
    rw[decide_eq_false fun z=>L9 O (fun p hp=>(Ud p hp).2) ((Vj _).mp z) ha hb rfl hs]
    rfl
end
section
variable {P:jp}{w:lf}{K:bv}{mg:ci->Option al}{base:i8}{tb:cX}{C_NoNet C_NoSign:ag}
theorem Al:aP ["one","other"] ["one","other"] (aq kr):=⟨rfl,rfl,rfl,by decide +kernel,rfl,by decide +kernel,by decide +kernel⟩
theorem dQ:aP ["net","sign","goals","found","longest","highest","root","ahead"] ["net","sign"] (aq dD):=⟨rfl,rfl,rfl,by decide +kernel,rfl,by decide +kernel,by decide +kernel⟩
def G1:du:=fun ds M Q _=>∃a b:Int,ds=[.int a,.int b]/\Q (eI (B6 a b)) M
theorem Am {f:ag}{fd:tz}(D:Df K mg "in_order" kr ["one","other"] f fd) (bl:Bl mg):FnOk P w K mg base bA 1 f fd ["one","other"] (bf P w K tb G1) :=by
 refine eQ D Al (fun ds M Q E hS=>by obtain⟨a,b,e,_⟩:=hS;rw[e];rfl) fun A outer s E Γ ds Q' E' hP hw hK ht hr hS=>?_
 obtain⟨a,b,e,q⟩:=hS;refine⟨_,(av (bg (Ii (bY uC (qv 0) (qv 1) (cW _)) (jQ (ae (qv 0) (ae (qv 1) af))) (jQ (ae (qv 1) (ae (qv 0) af)))))),?_⟩;subst e;simp! only[];unfold B6 at q;refine fS (fun h=>?_) (fun h=>?_)
 ·rw[if_pos (by simpa using h)]at q
  exact⟨by decide,.inl q⟩
 ·rw[if_neg (by simpa using h)]at q
  exact⟨by decide,.inl q⟩
def zTop:du:=fun ds M Q _=>∃aa n k,ds=[eN aa,.str (sg k)]/\bu aa n/\k<n/\Q (.lst ((mB (aS aa k)).map eI)) M
theorem DR (g:List Int):((dO g g.length).map bo).filter (fun d=>match d with | .lst ds=>decide ((ds.length:Int)=((cC g+1:Nat):Int))|_=>false)=(cx g).map fun p:Nat=>bo (cT g (p:Nat) (cC g)) :=by
 unfold dO cx;rw[wP,List.filter_map];have:((fun d=>match d with|Dv.lst ds=>decide ((ds.length:Int)=((cC g+1:Nat):Int))|_=>false) ∘ bo ∘ fun p:Nat=>cT g (p:Nat) (cB g (p:Nat)))=fun p:Nat=>decide (cB g (p:Nat)=cC g) :=by
  funext p
  simp only[Zp,bo,bn,nX,decide_eq_decide];omega
 rw[this];refine GG fun p hp=>?_
 have:=(LS.mp hp).2;simp only[decide_eq_true_eq]at this;simp only[Zp,this]
theorem DS (g:List Int) (p:Int) (k:Nat):bj ((cT g p (k+1)).map Dv.int) (-2)=some (.int (aR g k p)) :=by
 unfold cT;rw[SO,SO,mf,mf,mf,mf];unfold bj dH;have e:(((-2:Int)+((((hX k).map fun j=>aR g j p).map Dv.int++([k].map fun j=>aR g j p).map Dv.int++([k+1].map fun j=>aR g j p).map Dv.int).length:Nat):Int)).toNat=k :=by simp;omega
 rw[if_neg (by decide),if_pos (by simp;omega),e]
 simp
theorem any_eq {α:Type}{p q:α->Bool}:∀{l:List α},(∀x∈l,p x=q x)->l.any p=l.any q
 | [],_=>rfl
 |x::l,h=>by rw[LB,LB,h x ii,any_eq fun y hy=>h y (db _ hy)]
theorem G2 {g:bP}{te:aE}(f:Dv->Int) (I:aA->Mh->Prop) {ds:List Dv}{τ:aA}{M:Mh}{Q:Int->Mh->Prop}(d8:ds≠[]) (i:I τ M)
  (h:∀d∈ds,∀τ M,I τ M->∀R:aA->ZK,(∀au M2,I au M2->R au (.int (f d)) M2)->g d τ M fun au M2=>te au M2 (R au)) (q:∀τ M,I τ M->∀m,m∈ds.map f->(∀x∈ds.map f,x<=m)->Q m M) :
  zMaxGL g zNoIf te ds τ M none fun acc M2=>∃v,acc=some v/\Q v M2:=
 zmaxl_of f I i h fun au M2 i2=>by
  obtain⟨m,h1,h2,_,h4⟩:=yN (ds.map f) none (.inr fun e=>d8 (List.map_eq_nil_iff.mp e))
  exact⟨m,h1,q au M2 i2 m (h2.elim (fun e=>nomatch e) id) h4⟩
def DT (r:Int):Dv->Bool | .lst ds=>(match bj ds (-1) with|some (.int x) => !decide (x=r)|_=>false)|_=>false
def uS:Dv->Int | .lst ds=>(ds.length:Int)|_=>0
theorem G3 {g:List Int}(h1:1<=g.length) {m:Int}(hm:m∈((dO g g.length).map bo).map uS) (hx:∀x∈((dO g g.length).map bo).map uS,x<=m):m=((cC g+1:Nat):Int) :=by
 have e:((dO g g.length).map bo).map uS=(hX g.length).map fun p:Nat=>((cB g (p:Nat)+1:Nat):Int) :=by
  unfold dO;rw[wP,wP];exact GG fun p _=>by simp only[Zp,bo,uS,bn,nX]
 rw[e]at hm hx;obtain⟨p,hp,rfl⟩:=im.mp hm;have a:=B3 (l6.mp hp);obtain⟨r,hr,er⟩:=B4 h1;have b:=hx _ (im.mpr ⟨r,l6.mpr hr,rfl⟩);rw[er]at b;omega
theorem zt {f f1 f2 f3 f4:ag}{fd b8 fd2 pM G4:tz}{rD aN:ag}(D:Df K mg "top_pairs" dD ["net","sign"] f fd) (fH:E4 base fd rD aN) (hp:aN∈tb) (eW:∃bm ob,Zs base li mg bm ob)
  (gJ:Df K mg "goals_of" i6 ["net","sign"] f1 b8) (og:FnOk P w K mg base (fm P w) 11 f1 b8 ["net","sign"] (bf P w K tb GJ))
  (kM:Df K mg "tails" qz ["goals"] f2 fd2) (uT:FnOk P w K mg base bA 2 f2 fd2 ["goals"] (bf P w K tb GL))
  (fI:Df K mg "ring_from" jD ["goals","place"] f3 pM) (mL:FnOk P w K mg base bA 1 f3 pM ["goals","place"] (bf P w K tb B1))
  (gK:Df K mg "in_order" kr ["one","other"] f4 G4) (oh:FnOk P w K mg base bA 1 f4 G4 ["one","other"] (bf P w K tb G1)) (bl:Bl mg) :
  FnOk P w K mg base (fm P w) 12 f fd ["net","sign"] (bf P w K tb zTop) :=by
 refine qt D dQ (fun ds M Q E hS=>by obtain⟨aa,n,k,e,_⟩:=hS;rw[e];rfl) fun A outer s E Γ ds Q' E' hP hw hK ht hE hr hS=>?_
 obtain⟨aa,n,k,e,O,hk,q⟩:=hS;have oy:aN∈Γ.tb:=ht▸hp;refine⟨_,(ah (aG (i:=2) dQ.nd rfl (mv rfl) (aL og (hr.mono (by decide)) rfl gJ.mg gJ.fn.kp gJ.bd qj hP hw hK ht hE (ae (qv 0) (ae (qv 1) af))))
  (ah (aG (i:=3) dQ.nd rfl (mv rfl) (aL uT (hr.mono (by decide)) rfl kM.mg kM.fn.kp kM.bd bH hP hw hK ht XR.none (ae (qv 2) af)))
  (ah (aG (i:=4) dQ.nd rfl (LH rfl) (Gq (k:=0) (N':=["tail"]) (tn:=1) (idx:=[]) oy (hr.mono (by decide)) rfl (show aD ["net","sign","goals","found","longest","highest","root","ahead"] (aq dD) _ ["tail"] 1 [] from by decide +kernel) rfl rfl fH.code fH.hd eW rfl bl.max_ (da (K:=K) rfl (qv 3)) (fun _ _ _ _ _ _ _ hr=>(aF (i:=0) (show Cf [("tail" : ci)] from by decide +kernel) rfl (mv rfl))) (fun _ _ _ _ _ _ _ hr=>cq) (fun _ _ _ _ _ _ _ hr=>(aC (bI (K:=K) rfl hK) rfl bl.len_ r9 (ae (qv 0) af)))))
  (ah (nJ (i:=5) dQ.nd rfl rfl (N':=["tail","longest"]) (tn:=1) (idx:=[4]) rfl (show aD ["net","sign","goals","found","longest","highest","root","ahead"] (aq dD) _ ["tail","longest"] 1 [4] from by decide +kernel) (da (K:=K) rfl (qv 3)) (fun _ _ _ _ _=>(aF (i:=0) (show Cf [("tail" : ci),("longest" : ci)] from by decide +kernel) rfl (mv rfl))) (fun _ _ _ _ _=>(qo (bY rQ (aC (bI (K:=K) rfl hK) rfl bl.len_ r9 (ae (qv 0) af)) (qv 1) (cW _)))) (fun _ _ _ _ _=>(qv 0)))
  (ah (aG (i:=6) dQ.nd rfl (LH rfl) (aK (aY (K:=K) rfl) (aK (aY (K:=K) rfl) (qv 5) ax (fun _ _=>rfl)) (g6 ax) (fun _ _=>rfl)))
  (ah (fb (QW.pt (Dg (bY rQ (qv 4) ax (cW _)) (yb (jP (PH (k:=0) (N':=["tail","root"]) (tn:=1) (idx:=[6]) oy (hr.mono (by decide)) rfl (show aD ["net","sign","goals","found","longest","highest","root","ahead"] (aq dD) _ ["tail","root"] 1 [6] from by decide +kernel) rfl rfl fH.code fH.hd eW rfl bl.any_ (da (K:=K) rfl (qv 5)) (fun _ _ _ _ _ _ _ hr=>(aF (i:=0) (show Cf [("tail" : ci),("root" : ci)] from by decide +kernel) rfl (mv rfl))) (fun _ _ _ _ _ _ _ hr=>cq) (fun _ _ _ _ _ _ _ hr=>(kI Il (aK (aY (K:=K) rfl) (qv 0) (g6 ax) (fun _ _=>rfl)) (qv 1) (cW _))))))))
   (av (bg (tI af)))
   qss_nil)
  (ah (aG (i:=7) dQ.nd rfl (LH rfl) (aK (aY (K:=K) rfl) (aL mL (hr.mono (by decide)) rfl fI.mg fI.fn.kp fI.bd bH hP hw hK ht XR.none (ae (qv 2) (ae (qv 6) af))) (g6 ax) (fun _ _=>rfl)))
  (av (bg (aC (II hP hw rfl) rfl bl.sorted_ vj (ae (zX hP hw hr.units (N':=["tail","ahead"]) (tn:=1) (idx:=[7]) rfl (show aD ["net","sign","goals","found","longest","highest","root","ahead"] (aq dD) _ ["tail","ahead"] 1 [7] from by decide +kernel) (da (K:=K) rfl (qv 5)) (fun _ _ _ _ _=>(aF (i:=0) (show Cf [("tail" : ci),("ahead" : ci)] from by decide +kernel) rfl (mv rfl))) (fun _ _ _ _ _=>cq) (fun _ _ _ _ _=>(aL oh (hr.mono (by decide)) rfl gK.mg gK.fn.kp gK.bd bH hP hw hK ht XR.none (ae (qv 1) (ae (aK (aY (K:=K) rfl) (qv 0) (g6 ax) (fun _ _=>rfl)) af))))) af))))))))))),?_⟩
 subst e;have big:(1000:Nat)<sizeLine :=by decide
 have hg:=pQ O hk;have h9:=O.nine;have iU:(aS aa k).length=aa.length :=by simp[aS]
 obtain⟨g,eg⟩:∃g,g=aS aa k:=⟨_,rfl⟩;have vw:1<=g.length :=by have:=O.one;rw[eg];omega
 have Ue:g.length<=9 :=by rw[eg];omega
 have Yj:=y2 g;obtain⟨p0,ps,ep⟩:=B5 vw;have DU:bD g=ip g p0 :=by unfold bD;rw[ep];rfl
 have t6:=nZ vw;have th:∀{p},p∈cx g->ip g p=aR g (cC g) (p:Nat):=fun hp=>by unfold ip;rw[(jx.mp hp).2]
 rw[<- eg]at hg iU q;refine Kf (fun ρ M=>ρ=[some (eN aa),some (.str (sg k)),some (bo g),some (.lst ((dO g g.length).map bo)),some (.int ((cC g+1:Nat):Int)),some (.lst ((cx g).map fun p:Nat=>bo (cT g (p:Nat) (cC g)))),some (.int (bD g)),none]/\M=Γ.M0) (fun N hN=>?_) (fun ρ M hI=>?_)
 ·simp! only[];refine⟨aa,n,k,rfl,O,hk,?_⟩;rw[<- eg];refine⟨g,rfl,hg,Ue,?_⟩;have Ks:=vV g g.length;simp! only[];refine G2 uS (fun τ M=>(∃x,τ=[x])/\M=Γ.M0) (fun e=>?_) ⟨⟨_,rfl⟩,rfl⟩ (fun d hd τ M hI R hR=>?_) (fun τ M hI m hm Kv=>?_)
  ·have:=congrArg aaX e;rw[bn,Ks,NO]at this;omega
  ·obtain⟨⟨x,rfl⟩,rfl⟩:=hI;obtain⟨r,hr,rfl⟩:=im.mp hd;have h:=hR [some (bo r)] Γ.M0 ⟨⟨_,rfl⟩,rfl⟩;simp only[uS,bo,bn]at h;simp! only[];exact h
  ·obtain⟨⟨x,rfl⟩,rfl⟩:=hI;have:=G3 vw hm Kv;subst this;refine⟨by omega,lx (fun d=>match d with | .lst ds=>decide ((ds.length:Int)=((cC g+1:Nat):Int))|_=>false) (fun d hd R hR=>?_) ?_⟩
   ·obtain⟨r,hr,rfl⟩:=im.mp hd;simp! only[];simp only[bo,bn]at hR;exact hR
   ·rw[DR,ep,mo];have e0:∀x:Dv,∀xs:List Dv,bj (x::xs) 0=some x:=fun x xs=>atI_zero
    simp! only[e0,bo,iM];refine hN _ _ ⟨?_,rfl⟩;rw[ep,DU,th (by rw[ep];exact ii)]
    rfl
 ·obtain⟨rfl,rfl⟩:=hI;have Ug:n5 g=true->nI Γ.M0 Q' (.lst []) Γ.M0:=fun hb=>by
   have q:=q;unfold mB at q;rw[if_pos hb]at q;exact .inl q
  simp! only[];refine fS (fun h=>?_) (fun h=>?_)
  ·refine⟨by omega,Ug ?_⟩
   have:cC g=0 :=by have:=of_decide_eq_true h;omega
   unfold n5;rw[this];rfl
  ·have hH:cC g≠0:=fun e=>by rw[e]at h;exact absurd h (by decide)
   obtain⟨m,hm⟩:∃m,cC g=m+1:=⟨cC g - 1,by omega⟩
   refine BK (DT (bD g)) (fun τ=>∃x,τ=[x,some (.int (bD g))]) ⟨_,rfl⟩ (fun d hd τ hI R hR=>?_) ?_
   ·obtain⟨x,rfl⟩:=hI;obtain⟨p,hp,rfl⟩:=im.mp hd;have h:=hR [some (bo (cT g (p:Nat) (cC g))),some (.int (bD g))] ⟨_,rfl⟩;simp! only[bo,iM,DT]at h ⊢;exact h
   ·have ea:(((cx g).map fun p:Nat=>bo (cT g (p:Nat) (cC g))).any (DT (bD g)))=(cx g).any fun p=>decide (ip g p≠bD g) :=by
     rw[List.any_map];refine any_eq fun p hp=>?_
     simp only[Zp,bo,DT,iM,th hp];rw[decide_not]
    rw[ea];cases hb:(cx g).any fun p=>decide (ip g p≠bD g) with
    |true=>
     rw[if_pos rfl];exact⟨by omega,Ug (by unfold n5;rw[hb,Bool.or_true])⟩
    |false=>
     rw[if_neg (by decide)]
     have ym:n5 g=false :=by unfold n5;rw[hb,decide_eq_false hH];rfl
     refine⟨g,bD g,rfl,hg,Ue,t6,?_⟩;simp! only[GO hg t6];refine Gr (fun j ks τ M=>(∃x,τ=[x,some (.int (gu g (bD g)))])/\M=Γ.M0/\ks=gW g j) (i:=0) ⟨⟨_,rfl⟩,rfl,rfl⟩ (fun j d ks τ M hd hI R hR=>?_) (fun ks τ M hI=>?_)
     ·obtain⟨⟨x,rfl⟩,rfl,rfl⟩:=hI;rw[WI]at hR ⊢;obtain⟨p,hp,rfl⟩:=ly hd;have hj:=(ca.mp hp).1;have hl:=qC g j;have h:=hR (gW g (j+1)) [some (bo (cT g (p:Nat) (cC g))),some (.int (gu g (bD g)))] Γ.M0 ⟨⟨_,rfl⟩,rfl,rfl⟩;rw[y3 hp]at h;simp only[pV,hm]at h;simp! only[bo,hm,DS];exact⟨_,_,rfl,_,rfl,by omega,h⟩
     ·obtain⟨⟨x,rfl⟩,rfl,rfl⟩:=hI;have hl:=qC g (cx g).length;have d8:∀r∈gW g (cx g).length,r≠[]:=fun r hr e=>by
       have:=L4 g _ r hr;rw[e]at this;cases this
      rw[bn,WI];intro a ha;have e4:mB g=kn (gW g (cx g).length) :=by unfold mB;rw[ym,if_neg (by decide)]
      rw[e4]at q;exact⟨a,_,rfl,updM_same,by omega,d8,pF (.upd ha .refl) (.lst fun d hd=>by obtain⟨r,_,rfl⟩:=im.mp hd;exact .tup (dj r)) q⟩
end
section
variable {P:jp}{w:lf}{K:bv}{mg:ci->Option al}{base:i8}{tb:cX}
theorem dR:aP ["_law_bag_here","_law_net_here","_law_order_here","_law_cut","_law_rows","_law_k","_law_line"] ["_law_bag_here","_law_net_here"] (aq fD):=⟨rfl,rfl,rfl,by decide +kernel,rfl,by decide +kernel,by decide +kernel⟩
def ua (os:List Int) (ways k:Nat) (j:Nat) (row:List Int):Prop:=(∃t,t<k/\bj (os.map Dv.int) ((t:Int) - 1)=some (.int (j:Nat)))->∃t:Nat,t<os.length/\bj (os.map Dv.int) ((t:Int) - 1)=some (.int (j:Nat))/\os[t]?=some (row.getD (ways - 1) 0)
structure kz (M0 M:Mh) (r:ag) (as:List ag) (n ways:Nat) (F:Nat->List Int->Prop):Prop extends RowsM M0 M r as n ways where
 nd:as.Nodup
 fs:∀(i:Nat) (a:ag),as[i]?=some a->∃row:List Int,M a=some (.lst (row.map .int))/\fU n ways row/\F i row
theorem kz.set {M0 M:Mh}{r:ag}{as:List ag}{n ways:Nat}{F F':Nat->List Int->Prop}(h:kz M0 M r as n ways F) {i:Nat}{a:ag}(ha:as[i]?=some a) {row:List Int}(o:fU n ways row) (h1:F' i row) (h2:∀j row,j≠i->F j row->F' j row):kz M0 (aw M a (.lst (row.map .int))) r as n ways F':=by
 refine⟨h.toRowsM.ur (ff ha) o,h.nd,fun j c hc=>?_⟩
 by_cases z:j=i
 ·subst z;rw[ha]at hc;cases hc;exact⟨row,updM_same,o,h1⟩
 ·have tZ:c≠a:=fun e=>z (by
   subst e;exact(TM (ca.mp hc).1 h.nd).mp (hc.trans ha.symm))
  obtain⟨p7,e1,o1,f1⟩:=h.fs j c hc;exact⟨p7,by rw[ai tZ];exact e1,o1,h2 j p7 z f1⟩
theorem zu {α:Type}{l:List α}{i j:Nat}{x d:α}:(l.set i x).getD j d=if i=j/\i<l.length then x else l.getD j d :=by
 rw[cr,cr,LM];by_cases h:i=j
 ·subst h;by_cases h2:i<l.length
  ·rw[if_pos rfl,if_pos h2,if_pos ⟨rfl,h2⟩];rfl
  ·rw[if_pos rfl,if_neg h2,if_neg fun z=>h2 z.2,KB (by omega)]
 ·rw[if_neg h,if_neg fun z=>h z.1]
theorem Cm {n:Nat}{os:List Int}(h:cu n os) {t:Nat}(ht:t<n):∃s,s<n/\dH n ((t:Int) - 1)=some s/\(if t=0 then s=n - 1 else s=t - 1)/\bj (os.map Dv.int) ((t:Int) - 1)=(os[s]?).map Dv.int :=by
 have hl:=h.len;refine⟨if t=0 then n - 1 else t - 1,by split<;>omega,?_,by split<;>rfl,?_⟩
 ·unfold dH;by_cases z:t=0
  ·rw[if_neg (by omega),if_pos (by omega),if_pos z];congr 1;omega
  ·rw[if_pos (by omega),if_pos (by omega),if_neg z];congr 1;omega
 ·unfold bj dH;rw[bn,hl];by_cases z:t=0
  ·rw[if_neg (by omega),if_pos (by omega),if_pos z]
   show (os.map Dv.int)[_]?=_;rw[dL,show ((t:Int) - 1+(n:Int)).toNat=n - 1 by omega]
  ·rw[if_pos (by omega),if_pos (by omega),if_neg z]
   show (os.map Dv.int)[_]?=_;rw[dL,show ((t:Int) - 1).toNat=t - 1 by omega]
theorem DV {aa:List (List Int)}{n k:Nat}{os:List Int}(O:bu aa n) (hk:k<n) (ho:cu aa.length os) (h:∀j,j<aa.length->∃t:Nat,t<os.length/\bj (os.map Dv.int) ((t:Int) - 1)=some (.int (j:Nat))/\os[t]?=some (kb aa (j:Nat) k)):jY aa n :=by
 have hl:=ho.len;have ng:=ho.nodup;have h1:=O.one;have step:∀t s,t<aa.length->s<aa.length->(if t=0 then s=aa.length - 1 else s=t - 1)->kb aa (os.getD s 0) k=os.getD t 0:=fun t s ht hs F2=>by
  have es:os[s]?=some (os.getD s 0) :=by rw[cr,ap (by omega)];rfl
  obtain⟨g0,g1⟩:=ho.mem (ff es);obtain⟨j,hj⟩:=xw g0;obtain⟨t',TC,e1,e2⟩:=h j (by omega)
  obtain⟨s',gX,_,Vk,e3⟩:=Cm ho (t:=t') (by omega)
  rw[e3]at e1;obtain⟨x,hx,ex⟩:=rc.mp e1;cases ex;rw[<- hj]at hx e2;have Yk:s=s':=(TM (by omega) ng).mp (es.trans hx.symm)
  have XB:t'=t :=by split at F2<;>split at Vk<;>omega
  rw[XB]at e2;rw[cr (l:=os) (i:=t),e2];rfl
 have walk:∀m s,s+m<aa.length->c7 aa (mT m k) (os.getD s 0)=os.getD (s+m) 0:=fun m=>by
  induction m with
  |zero=>intro s _;rfl
  |succ m ih=>
   intro s hs;rw[xb];show c7 aa (mT m k) (kb aa (os.getD s 0) k)=_;rw[step (s+1) s (by omega) (by omega) (by rw[if_neg (by omega)];omega),ih (s+1) (by omega),show s+1+m=s+(m+1) by omega]
 have idx:∀a,e6 aa a->∃i,i<aa.length/\a=os.getD i 0:=fun a ha=>by
  have hm:a∈os:=ho.perm.mem_iff.mpr (im.mpr ⟨a.toNat,l6.mpr (by have:=ha.1;have:=ha.2;omega),by have:=ha.1;omega⟩)
  obtain⟨i,hi⟩:=nw.mp hm;have:=(ca.mp hi).1;exact⟨i,by omega,by rw[cr,hi];rfl⟩
 intro a b ha hb;obtain⟨i,hi,rfl⟩:=idx a ha;obtain⟨j,hj,rfl⟩:=idx b hb;refine⟨mT (aa.length - 1 - i) k++(k::mT j k),(pW hk _).app (.cons hk (pW hk _)),?_⟩;rw[nh,walk _ _ (by omega),show i+(aa.length - 1 - i)=aa.length - 1 by omega]
 show c7 aa (mT j k) (kb aa (os.getD (aa.length - 1) 0) k)=_;rw[step 0 (aa.length - 1) (by omega) (by omega) (by rw[if_pos rfl]),walk j 0 (by omega),WI]
def G5:du:=fun ds M Q _=>∃(b:ag) (aa:List (List Int)) (n:Nat),ds=[.ptr b,eN aa]/\M b=some .dS/\bu aa n/\∀Jj,bu Jj n->jY Jj n->Q (eN Jj) M
theorem An {f f1 f2:ag}{fd b8 fd2:tz}(D:Df K mg "_law_hung" fD ["_law_bag_here","_law_net_here"] f fd)
  (aB:Df K mg "_law_take" fB ["_law_bag_here","_law_many"] f1 b8) (b9:FnOk P w K mg base bA 1 f1 b8 ["_law_bag_here","_law_many"] (bf P w K tb wG))
  (bN:Df K mg "_law_order" gp ["_law_bag_here","_law_many"] f2 fd2) (lL:FnOk P w K mg base bA 2 f2 fd2 ["_law_bag_here","_law_many"] (bf P w K tb yQ)) (bl:Bl mg):FnOk P w K mg base bA 3 f fd ["_law_bag_here","_law_net_here"] (bf P w K tb G5) :=by
 refine eQ D dR (fun ds M Q E hS=>by obtain⟨b,aa,n,e,_⟩:=hS;rw[e];rfl) fun A outer s E Γ ds Q' E' hP hw hK ht hr hS=>?_
 obtain⟨b,aa,n,e,hb,O,q⟩:=hS;refine⟨_,(ah (aG (i:=2) dR.nd rfl (mv rfl) (aL lL (hr.mono (by decide)) rfl bN.mg bN.fn.kp bN.bd bH hP hw hK ht XR.none (ae (qv 0) (ae (aC (bI (K:=K) rfl hK) rfl bl.len_ r9 (ae (qv 1) af)) af))))
  (ah (aG (i:=3) dR.nd rfl (mv rfl) (a8 fR ax (aL b9 (hr.mono (by decide)) rfl aB.mg aB.fn.kp aB.bd bH hP hw hK ht XR.none (ae (qv 0) (ae (aC (bI (K:=K) rfl hK) rfl bl.len_ r9 (ae (qv 1) af)) af)))))
  (ah (qY (i:=4) dR.nd rfl rfl (N':=["_law_row"]) (tn:=1) (idx:=[]) rfl (show aD ["_law_bag_here","_law_net_here","_law_order_here","_law_cut","_law_rows","_law_k","_law_line"] (aq fD) _ ["_law_row"] 1 [] from by decide +kernel) (pA (K:=K) rfl (qv 1)) (fun _ _ _ _ _=>(aF (i:=0) (show Cf [("_law_row" : ci)] from by decide +kernel) rfl (mv rfl))) (fun _ _ _ _ _=>cq) (fun _ _ _ _ _=>(jS (Lq (K:=K) rfl) rfl bl.list_ K6 (ae (qv 0) af))))
  (ah (bV sw rfl (bc rfl bl.range_ (ae (aC (bI (K:=K) rfl hK) rfl bl.len_ r9 (ae (qv 1) af)) af)) (fun gP eP ew eK et=>by have hP:=hP.trans eP.symm;have hw:=hw.trans ew.symm;have hK:=hK.trans eK.symm;have ht:=ht.trans et.symm;exact⟨(aF (i:=5) dR.nd rfl (mv rfl)),(av (jR (aK (aY (K:=K) rfl) (qv 2) (qv 5) (fun _ _=>rfl)) (jT (aK (aY (K:=K) rfl) (qv 4) (aK (aY (K:=K) rfl) (qv 2) (a8 wC (qv 5) ax) (fun _ _=>rfl)) (fun _ _=>rfl)) (g6 ax))))⟩))
  (ah (aG (i:=6) dR.nd rfl (mv rfl) (PR (K:=K) rfl (qv 2) (g6 ax)))
  (ah (bV sw rfl (pB rfl bl.range_ (ae ax (ae (qv 3) af))) (fun gP eP ew eK et=>by have hP:=hP.trans eP.symm;have hw:=hw.trans ew.symm;have hK:=hK.trans eK.symm;have ht:=ht.trans et.symm;exact⟨(aF (i:=5) dR.nd rfl (mv rfl)),(av (jR (aK (aY (K:=K) rfl) (qv 6) (qv 5) (fun _ _=>rfl)) (jT (aK (aY (K:=K) rfl) (qv 4) (aK (aY (K:=K) rfl) (qv 6) (a8 wC (qv 5) ax) (fun _ _=>rfl)) (fun _ _=>rfl)) ax)))⟩))
  (av (yw 4 rfl (bg (jS (qp (K:=K) rfl) rfl bl.tuple_ jh (ae (dC (N':=["_law_row"]) (tn:=1) (idx:=[]) rfl (show aD ["_law_bag_here","_law_net_here","_law_order_here","_law_cut","_law_rows","_law_k","_law_line"] (aq fD) _ ["_law_row"] 1 [] from by decide +kernel) (da (K:=K) rfl (qv 4)) (fun _ _ _ _ _=>(aF (i:=0) (show Cf [("_law_row" : ci)] from by decide +kernel) rfl (mv rfl))) (fun _ _ _ _ _=>cq) (fun _ _ _ _ _=>(jS (qp (K:=K) rfl) rfl bl.tuple_ jh (ae (qv 0) af)))) af))))))))))),?_⟩
 subst e;have big:(1000:Nat)<sizeLine :=by decide
 have h9:=O.nine;have h1:=O.one;have GK:=O.wid;refine Kd (fun ρ M=>∃(r:ag) (as:List ag) (os:List Int) (cut:Nat),ρ=[some (.ptr b),some (eN aa),some (bo os),some (.int (cut:Nat)),some (.ptr r),none,none]/\kz Γ.M0 M r as aa.length n (fun _ _=>True)/\cu aa.length os/\cut<=aa.length) (fun N hN=>?_) ?_
 ·simp! only[];refine⟨b,aa.length,rfl,hb,by omega,fun os fv=>?_⟩
  simp! only[];refine⟨b,_,rfl,hb,by omega,by omega,fun t ht=>?_⟩
  obtain⟨cut,Vl⟩:∃cut:Nat,(1+(t:Int))=(cut:Nat):=⟨1+t,by omega⟩
  simp! only[Vl];refine⟨by omega,iB (acc:=[]) (fun acc τ M=>∃as:List ag,acc=as.map Dv.ptr/\(∃x,τ=[x])/\nO Γ.M0 M/\as.Nodup/\∀a∈as,Γ.M0 a=none/\∃row:List Int,M a=some (.lst (row.map .int))/\fU aa.length n row) ⟨[],rfl,⟨_,rfl⟩,.refl,.nil,fun _ h=>nomatch h⟩ (fun i d acc τ M hd _ hJ R hR=>?_) (fun ys τ M hl hJ=>?_)⟩
  ·obtain⟨as,rfl,⟨x,rfl⟩,hO,ng,ha⟩:=hJ;obtain⟨row,Jg,rfl⟩:=ly hd;have ro:=O.row row (ff Jg);simp! only[eI];intro a hn;have Uh:a ∉ as:=fun z=>by obtain⟨_,row,e,_⟩:=ha a z;rw[hn]at e;cases e
   refine hR _ _ _ ⟨as++[a],by rw[mf];rfl,⟨_,rfl⟩,hO.row hn row,?_,fun c hc=>?_⟩
   ·rw[IS];exact⟨ng,by simp,fun x hx y hy e=>Uh (by rw[lc.mp hy]at e;rw[<- e];exact hx)⟩
   ·rcases qr.mp hc with z|z
    ·obtain⟨q1,p7,e,o⟩:=ha c z;exact⟨q1,p7,by rw[ai (show c≠a from fun q=>Uh (by rw[<- q];exact z))];exact e,o⟩
    ·rw[lc.mp z];exact⟨fe hO.kp hn,row,updM_same,ro.1,ro.2⟩
  ·obtain⟨as,e1,⟨x,rfl⟩,hO,ng,ha⟩:=hJ;rw[ID]at e1;subst e1;intro r rp;have RM:=RowsM.mk' hO rp (by simpa using hl) ha
   exact hN _ _ ⟨r,as,os,cut,rfl,⟨RM,ng,fun i a h=>let ⟨row,e,o⟩:=RM.row a (ff h);⟨row,e,o,trivial⟩⟩,fv,by omega⟩
 rintro ρ M ⟨r,as,os,cut,rfl,RL,fv,f9⟩;have Be:=fv.len;have yV:∀{M:Mh} {F:Nat->List Int->Prop} {p:Nat},kz Γ.M0 M r as aa.length n F->p<aa.length->∃a,bj (as.map Dv.ptr) ((p:Nat):Int)=some (.ptr a)/\as[p]?=some a:=fun {M F p} RL hp=>by
  have hl:p<as.length :=by rw[RL.len];exact hp
  exact⟨as[p],bS (by rw[dL,ap hl];rfl),ap hl⟩
 refine Dm (fun ρ M=>∃(x5:Option Dv),eE x5/\ρ=[some (.ptr b),some (eN aa),some (bo os),some (.int (cut:Nat)),some (.ptr r),x5,none]/\kz Γ.M0 M r as aa.length n (ua os n aa.length)) (fun N hN=>?_) ?_
 ·simp! only[];refine⟨by omega,by omega,?_⟩
  refine aV (fun i ρ M=>∃(x5:Option Dv),eE x5/\ρ=[some (.ptr b),some (eN aa),some (bo os),some (.int (cut:Nat)),some (.ptr r),x5,none]/\kz Γ.M0 M r as aa.length n (ua os n i)) ⟨_,.none,rfl,RL.toRowsM,RL.nd,fun i a h=>let ⟨row,e,o,_⟩:=RL.fs i a h;⟨row,e,o,fun⟨t,h,_⟩=>absurd h (YT _)⟩⟩ (fun i d ρ M N2 hd hJ dU=>?_) (fun ρ M hJ=>?_)
  ·obtain⟨x5,p5,rfl,RL⟩:=hJ;obtain⟨rfl,hi⟩:=bh hd;obtain⟨p,hp,pn⟩:=fv.prev hi;obtain⟨g,hg,g0,g1⟩:=fv.at hi;obtain⟨a,ea,ha⟩:=yV RL pn;obtain⟨row,em,ro,_⟩:=RL.fs p a ha;have P9:dH n (-1)=some (n - 1) :=by unfold dH;rw[if_neg (by decide),if_pos (by omega)];congr 1;omega
   simp! only[hg,hp,RL.rm,ea];simp only[em,bn,ro.1,P9];rw[nP];have XC:os[i]?=some g :=by
    have:=hg;rw[bS (j:=i) (v:=Dv.int os[i]) (by rw[dL,ap (by omega)];rfl)]at this
    rw[ap (show i<os.length by omega),Dv.int.inj (lm this)]
   refine dU _ _ ⟨_,.int _,rfl,RL.set ha (ro.set g0 g1) (fun _=>⟨i,by omega,hp,?_⟩) fun j p7 hj hF=>fun⟨t,h,e⟩=>hF ⟨t,?_,e⟩⟩
   ·rw[XC,zu,if_pos ⟨rfl,by rw[ro.1];omega⟩]
   ·by_cases z:t=i
    ·rw[z,hp]at e;cases e;exact absurd rfl hj
    ·omega
  ·obtain⟨x5,p5,rfl,RL⟩:=hJ;rw[rangeD_len]at RL;exact hN _ _ ⟨x5,p5,rfl,RL⟩
 rintro ρ M ⟨x5,p5,rfl,RL⟩;have Ui:cu aa.length os.reverse:=⟨(List.reverse_perm os).trans fv.perm⟩;refine Kc (fun ρ M=>∃(x5:Option Dv),eE x5/\ρ=[some (.ptr b),some (eN aa),some (bo os),some (.int (cut:Nat)),some (.ptr r),x5,some (bo os.reverse)]/\kz Γ.M0 M r as aa.length n (ua os n aa.length)) (fun N hN=>?_) ?_
 ·simp! only[];have er:(os.map Dv.int).reverse=os.reverse.map Dv.int :=by rw[List.map_reverse]
  rw[er];refine⟨⟨by omega,by omega,by omega,by omega⟩,?_⟩
  refine aV (fun i ρ M=>∃(x5:Option Dv),eE x5/\ρ=[some (.ptr b),some (eN aa),some (bo os),some (.int (cut:Nat)),some (.ptr r),x5,some (bo os.reverse)]/\kz Γ.M0 M r as aa.length n (ua os n aa.length)) ⟨_,p5,rfl,RL⟩ (fun i d ρ M N2 hd hJ dU=>?_) (fun ρ M hJ=>hN _ _ hJ)
  obtain⟨x5,p5,rfl,RL⟩:=hJ;obtain⟨rfl,hi⟩:=bh hd;obtain⟨k,hk⟩:∃k:Nat,(1+(i:Int))=(k:Nat):=⟨i+1,by omega⟩
  have PV:k<aa.length :=by omega
  have XD:((k:Nat):Int) - 1=(i:Nat) :=by omega
  obtain⟨g,hg,g0,g1⟩:=Ui.at PV;obtain⟨p,hp,p0,p1⟩:=Ui.at (i:=i) (by omega)
  obtain⟨p,rfl⟩:=xw p0;obtain⟨a,ea,ha⟩:=yV RL (p:=p) (by omega)
  obtain⟨row,em,ro,hF⟩:=RL.fs p a ha;simp! only[hk,hg,XD,hp,RL.rm,ea];simp only[em,bn,ro.1,show dH n 0=some 0 from qA (d:=0) (by omega)]
  rw[nP];refine dU _ _ ⟨_,.int _,rfl,RL.set ha (ro.set g0 g1) (fun h=>?_) fun j p7 _ hF=>hF⟩
  rw[zu,if_neg (by omega)]
  exact hF h
 rintro ρ M ⟨x5,p5,rfl,RL⟩;have nb:∀{c o},Γ.M0 c=some o->c≠r:=fun e z=>by rw[z,RL.r0]at e;cases e
 have dk:Keeps Γ.M0 (cF M r):=fun c o e=>by rw[bM (nb e)];exact RL.kp c o e
 refine .inr ⟨r,_,rfl,RL.rm,RL.r0,⟨fun j d e=>?_,fun c o e=>?_⟩,?_⟩
 ·match j,e with
  |0,e=>cases e;exact .ptr (by rw[dk _ _ hb];rfl)
  |1,e=>cases e;exact yq aa
  |2,e=>cases e;exact .lst (dj _)
  |3,e=>cases e;exact .int _
  |4,e=>cases e;exact .lst fun d hd=>by
                obtain⟨a,ha,rfl⟩:=im.mp hd;obtain⟨row,em,_⟩:=RL.row a ha;exact .ptr (by rw[bM (RL.fr a ha).2,em];rfl)
  |5,e=>exact p5 _ _ (lm e)
  |6,e=>cases e;exact .lst (dj _)
  |j+7,e=>exact nomatch e
 ·have nc:c≠r:=fun z=>by rw[z,eA]at e;cases e
  rw[bM nc]at e;rcases RL.pin c o e with q|q|⟨row,rfl⟩|⟨bs,rfl,q2⟩
  ·exact .inl q
  ·exact absurd q nc
  ·exact .inr (dj row)
  ·refine .inr fun d hd=>?_
   obtain⟨a,ha,rfl⟩:=im.mp hd;obtain⟨h1,u,h2⟩:=q2 a ha;exact .ptr (by rw[bM h1,h2];rfl)
 ·simp! only[];refine⟨by rw[RL.len];omega,iB (acc:=[]) (fun acc τ M'=>∃rs:List (List Int),acc=rs.map eI/\(∃x,τ=[x])/\(∀(j:Nat) (row:List Int),rs[j]?=some row->fU aa.length n row/\ua os n aa.length j row)/\M'=cF M r) ⟨[],rfl,⟨_,rfl⟩,(fun _ _ h=>nomatch h),rfl⟩ (fun i d acc τ M' hd eO hJ R hR=>?_) (fun ys τ M' hl hJ=>?_)⟩
  ·obtain⟨rs,rfl,⟨x,rfl⟩,t4,rfl⟩:=hJ;obtain⟨a,ha,rfl⟩:=ly hd;have BJ:rs.length=i :=by simpa using eO
   obtain⟨row,em,ro,hF⟩:=RL.fs i a ha;simp! only[bM (RL.fr a (ff ha)).2,em];refine hR _ _ _ ⟨rs++[row],by rw[mf];rfl,⟨_,rfl⟩,fun j p7 hj=>?_,rfl⟩
   by_cases z:j<rs.length
   ·rw[wp z]at hj;exact t4 j p7 hj
   ·have yI:=(ca.mp hj).1;rw[r6,GT]at yI;have e:j=rs.length :=by omega
    subst e;rw[Cs (cb _),Sc]at hj;cases hj;rw[BJ];exact⟨ro,hF⟩
  ·obtain⟨rs,e1,⟨x,rfl⟩,t4,rfl⟩:=hJ;rw[ID]at e1;subst e1;have Uj:rs.length=aa.length :=by
    have:=hl;rw[bn,bn,RL.len]at this;simpa using this
   have O':bu rs n:=⟨by omega,by omega,GK,fun row hr=>by
    obtain⟨j,hj⟩:=nw.mp hr;obtain⟨o,_⟩:=t4 j row hj;exact⟨o.1,fun g hg=>by rw[Uj];exact o.2 g hg⟩⟩
   refine pF dk (yq rs) (q rs O' (DV (k:=n - 1) O' (by omega) (by rw[Uj];exact fv) fun j hj=>?_))
   have XE:=ap hj;obtain⟨_,hF⟩:=t4 j _ XE;have KC:j<aa.length :=by omega
   obtain⟨t,ht,e⟩:∃t,t<aa.length/\bj (os.map Dv.int) ((t:Int) - 1)=some (.int (j:Nat)) :=by
    have hm:(j:Int)∈os:=fv.perm.mem_iff.mpr (im.mpr ⟨j,l6.mpr KC,rfl⟩);obtain⟨i,hi⟩:=nw.mp hm;have eO:=(ca.mp hi).1;obtain⟨t,ht,XF⟩:∃t,t<aa.length/\(if t=0 then i=aa.length - 1 else i=t - 1) :=by
     by_cases z:i=aa.length - 1
     ·exact⟨0,by omega,by rw[if_pos rfl];exact z⟩
     ·exact⟨i+1,by omega,by rw[if_neg (by omega)];omega⟩
    obtain⟨s,hs,_,F2,es⟩:=Cm fv ht;have:s=i :=by split at XF<;>split at F2<;>omega
    exact⟨t,ht,by rw[es,this,hi];rfl⟩
   obtain⟨t',FJ,FK,XG⟩:=hF ⟨t,ht,e⟩;refine⟨t',FJ,FK,?_⟩;rw[XG];unfold kb;rw[xL,getD_at hj]
theorem ia:aP ["_law_script","_law_k","_law_bag_here","_law_net_here","_law_hung_here","_law_one","_law_sure","_law_sign","_law_told"] ["_law_script"] (aq wF):=⟨rfl,rfl,rfl,by decide +kernel,rfl,by decide +kernel,by decide +kernel⟩
theorem Mb (ks:List (List Int)):ie (ks.map eI)=some (ks.map fun k=>Dt.tup (k.map Dt.int)):=BD J6 ks
theorem Cp (x:List Int):∀ks:List (List Int),((ks.map fun k=>Dt.tup (k.map Dt.int)).any fun t=>eX t (.tup (x.map Dt.int)))=decide (x∈ks)
 | []=>rfl
 |k::ks=>by
          rw[mo,LB,Cp x ks];have:eX (.tup (k.map Dt.int)) (.tup (x.map Dt.int))=decide (k=x) :=by rw[eX,tM]
          rw[this];by_cases e:k=x
          ·subst e;simp
          ·have e':¬ x=k:=fun z=>e z.symm
           simp[e,e']
theorem Jk {M:Mh}{ks:List (List Int)}{g:List Int}{Q:ZK}(q:Q (.bl (decide (g∈ks))) M):yx false (eI g) (.lst (ks.map eI)) M Q :=by
 unfold yx;have e1:now M (eI g)=eI g:=rfl;have e2:now M (.lst (ks.map eI))=.lst (ks.map eI):=rfl;rw[e1,e2,J6];simp only[Mb,Cp];refine⟨fun t ht=>?_,q⟩
 obtain⟨k,_,rfl⟩:=im.mp ht;rw[qV];have:=Ls k;omega
theorem G6 (n:Nat):boolsD (mT n (Dv.bl true))=some (mT n true) :=by
 have:=iW (mT n true);rwa [List.map_replicate]at this
theorem G7 {n:Nat}(h:n=2\/n=3):m6 (ZD (AN "abc") none (some (n:Int)))=(hX n).map fun k=>Dv.str (sg k) :=by
 have e:(ZD (AN "abc") none (some (n:Int))).cps.toList=(hX n).map fun k=>97+k :=by
  rcases h with rfl|rfl<;>decide +kernel
 unfold m6;rw[e,wP];rfl
theorem zv (g:List Int):∀(ps:List Nat) (ks:List (List Int)) {r:List Int},r∈ps.foldl (pV g) ks->r∈ks\/∃p∈ps,r=B6 (gu g (bD g)) (aR g (cC g - 1) (p:Nat))
 | [],_,_,h=>.inl h
 |p::ps,ks,r,h=>by
          rcases zv g ps _ h with z|⟨q,hq,e⟩
          ·unfold pV lF at z;split at z
           ·exact .inl z
           ·rcases qr.mp z with z|z
            ·exact .inl z
            ·exact .inr ⟨p,ii,lc.mp z⟩
          ·exact .inr ⟨q,db _ hq,e⟩
theorem Jl {aa:List (List Int)}{n k:Nat}(O:bu aa n) (W:jY aa n) (hk:k<n) {sure:List (List Int)}(hs:∀a b:Int,e6 aa a->e6 aa b->a≠b->StaI aa n a b->fW a b∈sure):∀r∈mB (aS aa k),r∈sure:=fun r hr=>by
 have hg:=pQ O hk;have iU:=pX aa k;have h1:=O.one;unfold mB at hr;split at hr
 ·cases hr
 ·rename_i ym;have hr:=(iX _).mem_iff.mp hr;unfold gW at hr;rw[YK]at hr;rcases zv _ _ _ hr with z|⟨p,hp,rfl⟩
  ·cases z
  ·unfold n5 at ym;rw[YU,not_or,decide_eq_true_eq,YF]at ym;obtain⟨hH,iu⟩:=ym;obtain⟨m,hm⟩:∃m,cC (aS aa k)=m+1:=⟨cC (aS aa k) - 1,by omega⟩
   have DU:∀q∈cx (aS aa k),ip (aS aa k) q=bD (aS aa k):=fun q hq=>by
    refine Db fun e=>iu ⟨q,hq,?_⟩
    simp[e]
   obtain⟨dA,Qn⟩:=jx.mp hp;have t6:=nZ (g:=aS aa k) (by omega)
   have ha:=t5 hg t6;obtain⟨a0,a1⟩:=uO hg _ _ ha;obtain⟨b0,b1⟩:=i9 hg (p:=(p:Nat)) (by omega) (by omega) m
   rw[hm,Nat.add_sub_cancel];refine hs _ _ ⟨a0,by omega⟩ ⟨b0,by omega⟩ (fun e=>?_) (DN O W hk hm DU hp)
   rw[e]at ha;exact(nW (g:=aS aa k) (p:=(p:Nat)) (by omega) (by omega)).2.2 m (by omega) ha
theorem Qt {f f1 f2 f3 f4 f5 f6:ag}{fd b8 fd2 pM G4 Uk Ul:tz}(D:Df K mg "law" wF ["_law_script"] f fd)
  (gL:Df K mg "_law_bag" ky ["_law_script","_law_at"] f1 b8) (DW:FnOk P w K mg base bA 1 f1 b8 ["_law_script","_law_at"] (bf P w K tb P8))
  (gM:Df K mg "_law_net" fc ["_law_bag_here","_law_most"] f2 fd2) (DX:FnOk P w K mg base bA 3 f2 fd2 ["_law_bag_here","_law_most"] (bf P w K tb Ko))
  (fJ:Df K mg "_law_hung" fD ["_law_bag_here","_law_net_here"] f3 pM) (Ao:FnOk P w K mg base bA 3 f3 pM ["_law_bag_here","_law_net_here"] (bf P w K tb G5))
  (eV:Df K mg "_law_whole" gr ["_law_net_here"] f4 G4) (zx:FnOk P w K mg base bA 2 f4 G4 ["_law_net_here"] (bf P w K tb Ce))
  (d6:Df K mg "_law_judged" dn ["_law_net_here"] f5 Uk) (wj:FnOk P w K mg base bA 2 f5 Uk ["_law_net_here"] (bf P w K tb Ck))
  (eF:Df K mg "top_pairs" dD ["net","sign"] f6 Ul) (Ap:FnOk P w K mg base (fm P w) 12 f6 Ul ["net","sign"] (bf P w K tb zTop)) (bl:Bl mg) :
  FnOk P w K mg base bA 13 f fd ["_law_script"] (bf P w K tb O5) :=by
 refine eQ D ia (fun ds M Q E hS=>by obtain⟨ns,e,_⟩:=hS;rw[e];rfl) fun A outer s E Γ ds Q' E' hP hw hK ht hr hS=>?_
 obtain⟨ns,e,hl,hM,q⟩:=hS;refine⟨_,(ah (bV sw rfl (bc rfl bl.range_ (ae (a8 fR (aC (yg rfl) rfl bl.min_ sL (ae ax (ae (aC (bI (K:=K) rfl hK) rfl bl.len_ r9 (ae (qv 0) af)) af))) ax) af)) (fun gP eP ew eK et=>by have hP:=hP.trans eP.symm;have hw:=hw.trans ew.symm;have hK:=hK.trans eK.symm;have ht:=ht.trans et.symm;exact⟨(aF (i:=1) ia.nd rfl (mv rfl)),(ah (aG (i:=2) ia.nd rfl (mv rfl) (aL DW (hr.mono (by decide)) rfl gL.mg gL.fn.kp gL.bd bH hP hw hK ht XR.none (ae (qv 0) (ae (qv 1) af))))
  (ah (aG (i:=3) ia.nd rfl (mv rfl) (aL DX (hr.mono (by decide)) rfl gM.mg gM.fn.kp gM.bd bH hP hw hK ht XR.none (ae (qv 2) (ae ax af))))
  (ah (aG (i:=4) ia.nd rfl (mv rfl) (aL Ao (hr.mono (by decide)) rfl fJ.mg fJ.fn.kp fJ.bd bH hP hw hK ht XR.none (ae (qv 2) (ae (qv 3) af))))
  (ah (fb (ll (jP (aL zx (hr.mono (by decide)) rfl eV.mg eV.fn.kp eV.bd bH hP hw hK ht XR.none (ae (qv 3) af))))
   (av (aG (i:=3) ia.nd rfl (mv rfl) (qv 4)))
   qss_nil)
  (av (bV sw rfl (da (K:=K) rfl (tI (ae (qv 3) (ae (qv 4) af)))) (fun gP eP ew eK et=>by have hP:=hP.trans eP.symm;have hw:=hw.trans ew.symm;have hK:=hK.trans eK.symm;have ht:=ht.trans et.symm;exact⟨(aF (i:=5) ia.nd rfl (mv rfl)),(ah (aG (i:=6) ia.nd rfl (LH rfl) (aK (aY (K:=K) rfl) (aL wj (hr.mono (by decide)) rfl d6.mg d6.fn.kp d6.bd bH hP hw hK ht XR.none (ae (qv 5) af)) ax (fun _ _=>rfl)))
  (av (bV sw rfl (OT (yf J5 xY Bt (Bu (aC (bI (K:=K) rfl hK) rfl bl.len_ r9 (ae (aK (aY (K:=K) rfl) (qv 5) ax (fun _ _=>rfl)) af))))) (fun gP eP ew eK et=>by have hP:=hP.trans eP.symm;have hw:=hw.trans ew.symm;have hK:=hK.trans eK.symm;have ht:=ht.trans et.symm;exact⟨(aF (i:=7) ia.nd rfl (mv rfl)),(ah (aG (i:=8) ia.nd rfl (mv rfl) (aL Ap (hr.mono (by decide)) rfl eF.mg eF.fn.kp eF.bd RU hP hw hK ht XR.none (ae (qv 5) (ae (qv 7) af))))
  (av (fb (ll (jP (aC (yu (K:=K) rfl rfl) rfl bl.all_ xK (ae (dC (N':=["_law_two","_law_sure"]) (tn:=1) (idx:=[6]) rfl (show aD ["_law_script","_law_k","_law_bag_here","_law_net_here","_law_hung_here","_law_one","_law_sure","_law_sign","_law_told"] (aq wF) _ ["_law_two","_law_sure"] 1 [6] from by decide +kernel) (da (K:=K) rfl (qv 8)) (fun _ _ _ _ _=>(aF (i:=0) (show Cf [("_law_two" : ci),("_law_sure" : ci)] from by decide +kernel) rfl (mv rfl))) (fun _ _ _ _ _=>cq) (fun _ _ _ _ _=>(kI (R9 hr.units) (qv 0) (qv 1) (by rfl)))) af))))
   (av (bg mj))
   qss_nil)))⟩))))⟩)))))))⟩))
  (av (bg mj))),?_⟩
 subst e;have big:(1000:Nat)<sizeLine :=by decide
 simp! only[];refine⟨by split<;>omega,by split<;>omega,?_⟩
 refine aV (fun k ρ M=>∃x1 x2 x3 x4 x5 x6 x7 x8,ρ=[some (.bB ns),x1,x2,x3,x4,x5,x6,x7,x8]) ⟨_,_,_,_,_,_,_,_,rfl⟩ (fun k d ρ M N hd hJ hN=>?_) (fun ρ M _=>.inl (q _))
 obtain⟨x1,x2,x3,x4,x5,x6,x7,x8,rfl⟩:=hJ;obtain⟨rfl,hk⟩:=bh hd;have hk:k<=8 :=by split at hk<;>omega
 refine Ke (fun ρ M=>∃(x2 x5 x6 x7 x8:Option Dv) (aa jy:List (List Int)) (n:Nat),ρ=[some (.bB ns),some (.int (k:Nat)),x2,some (eN aa),some (eN jy),x5,x6,x7,x8]/\bu aa n/\jY aa n/\bu jy n/\jY jy n) (fun N2 dU=>?_) (fun ρ M hI=>?_)
 ·simp! only[];refine⟨ns,_,rfl,hl,by omega,by omega,fun b hb=>?_⟩
  refine⟨b,9,rfl,updM_same,by omega,by omega,fun aa n O _=>?_⟩
  refine⟨b,aa,n,rfl,updM_same,O,fun jy O' W'=>?_⟩
  refine⟨aa,n,rfl,O,fun c hc=>?_⟩
  show if (!c)=true then _ else _
  cases c with
  |false=>
   rw[if_pos (by decide)]
   exact dU _ _ ⟨_,_,_,_,_,jy,jy,n,rfl,O',W',O',W'⟩
  |true=>
   rw[if_neg (by decide)]
   exact dU _ _ ⟨_,_,_,_,_,aa,jy,n,rfl,O,hc rfl,O',W'⟩
 ·obtain⟨x2,x5,x6,x7,x8,aa,jy,n,rfl,O,W,O',W'⟩:=hI;refine(show 2<=sizeLine/\zLoop _ _ _ [eN aa,eN jy] _ _ from ⟨by omega,?_⟩)
  have key:∀(i:Nat) (d:Dv),[eN aa,eN jy][i]?=some d->∃nt,d=eN nt/\bu nt n/\jY nt n:=fun i d h=>by
   match i,h with
   |0,h=>cases h;exact⟨aa,rfl,O,W⟩
   |1,h=>cases h;exact⟨jy,rfl,O',W'⟩
   |i+2,h=>exact nomatch h
  clear O W O' W'
  refine aV (fun i ρ M=>∃x5 x6 x7 x8,ρ=[some (.bB ns),some (.int (k:Nat)),x2,some (eN aa),some (eN jy),x5,x6,x7,x8]) ⟨_,_,_,_,rfl⟩ (fun i d ρ M N2 hd hJ dU=>?_) (fun ρ M hJ=>?_)
  ·obtain⟨x5,x6,x7,x8,rfl⟩:=hJ;obtain⟨nt,rfl,O,W⟩:=key i d hd;obtain⟨rw,h0,XH⟩:=BX O;have GK:=O.wid;have e1:∀x y:Dv,bj [x,y] 1=some y:=fun x y=>bS (j:=1) rfl
   simp! only[];refine⟨nt,n,rfl,O,fun never sure hs=>?_⟩
   simp! only[e1,h0,XH];rw[G7 GK];refine⟨by show 3<=sizeLine;omega,aV (fun i ρ M=>∃x7 x8,ρ=[some (.bB ns),some (.int (k:Nat)),x2,some (eN aa),some (eN jy),some (eN nt),some (.lst (sure.map eI)),x7,x8]) ⟨_,_,rfl⟩ (fun i d ρ M N3 hd hJ Gw=>?_) (fun ρ M hJ=>?_)⟩
   ·obtain⟨x7,x8,rfl⟩:=hJ;obtain⟨j,hj,rfl⟩:=ly hd;have KC:=l6.mp (ff hj);have XI:=Jl O W KC hs;have JM:=Jb (aS nt j);have iU:=pX nt j;have h9:=O.nine;simp! only[];refine⟨nt,n,j,rfl,O,KC,?_⟩;simp! only[];refine⟨by omega,jl (fun _=>.bl true) (fun τ M2=>(∃x,τ=[x,some (.lst (sure.map eI))])/\M2=M) ⟨⟨_,rfl⟩,rfl⟩ (fun d hd τ M2 hE R hR=>?_) (fun τ M2 hE=>?_)⟩
    ·obtain⟨⟨x,rfl⟩,rfl⟩:=hE;obtain⟨r,hr,rfl⟩:=im.mp hd;simp! only[];refine Jk ?_;rw[decide_eq_true (XI r hr)];exact hR _ _ ⟨⟨_,rfl⟩,rfl⟩
    ·obtain⟨⟨x,rfl⟩,rfl⟩:=hE;rw[List.map_const',G6];simp! only[];rw[if_neg (by simp)]
     exact Gw _ _ ⟨_,_,rfl⟩
   ·obtain⟨x7,x8,rfl⟩:=hJ;exact dU _ _ ⟨_,_,_,_,rfl⟩
  ·obtain⟨x5,x6,x7,x8,rfl⟩:=hJ;exact hN _ _ ⟨_,_,_,_,_,_,_,_,rfl⟩
end
theorem all_mk {l:aaV}{w:lf}{K:bv}{h:i8}{mg:ci->Option al}{fa:ag}{tabs lts:List ag}{C_RoadError C_NoNet C_NoSign:ag}(X:K.In h) (G:h.Ns li mg) (XJ:mg "law" = some (.ref fa))
  (T:BY (TabOf mg h) ["is_row","is_net","top_pairs"] tabs) (U:BY (TabOf mg h) [] lts)
  (Aq:ul K li "RoadError" = some (some (.ref C_RoadError)))
  (Md:ul K li "NoNet" = some (some (.ref C_NoNet)))
  (Jm:ul K li "NoSign" = some (some (.ref C_NoSign)))
  (eb:CZ K C_RoadError [C_NoNet,C_NoSign]=true) (Yl:[C_NoNet,C_NoSign].Nodup)
  (DY:bE K "is_whole" gD)
  (sj:bE K "is_whole_below" dN)
  (Jn:bE K "is_row" lJ)
  (Jo:bE K "is_net" lK)
  (DZ:bE K "need_net" i5)
  (D0:bE K "signs_of" ko)
  (G8:bE K "is_sign" my)
  (Ar:bE K "need_sign" jC)
  (D1:bE K "in_order" kr)
  (D2:bE K "goals_of" i6)
  (wm:bE K "ring_places" fu)
  (As:bE K "ring_from" jD)
  (Mf:bE K "tails" qz)
  (Au:bE K "top_pairs" dD)
  (D3:bE K "_law_bag" ky)
  (Av:bE K "_law_take" fB)
  (zy:bE K "_law_order" gp)
  (D4:bE K "_law_net" fc)
  (zA:bE K "_law_reach" gq)
  (zB:bE K "_law_whole" gr)
  (Aw:bE K "_law_back" jE)
  (Ax:bE K "_law_from" jF)
  (Ay:bE K "_law_twos" hU)
  (wo:bE K "_law_judged" dn)
  (Az:bE K "_law_hung" fD)
  (Sg:bE K "law" wF)
  (Sh:ul K li "len" = some none)
  (Mg:ul K li "range" = some none)
  (Si:ul K li "min" = some none)
  (Sj:ul K li "max" = some none)
  (Sl:ul K li "abs" = some none)
  (Qu:ul K li "list" = some none)
  (Mi:ul K li "tuple" = some none)
  (Sn:ul K li "int" = some none)
  (Sr:ul K li "str" = some none)
  (Qv:ul K li "bool" = some none)
  (zD:ul K li "isinstance" = some none)
  (Ss:ul K li "all" = some none)
  (Su:ul K li "set" = some none)
  (Jp:ul K li "sorted" = some none)
  (Sv:ul K li "zip" = some none)
  (AA:ul K li "enumerate" = some none)
  (Sw:ul K li "sum" = some none)
  (D5:ul K li "reversed" = some none)
  (Jq:ul K li "divmod" = some none)
  (Sx:ul K li "any" = some none)
  (zE:ul K li "ValueError" = some none)
  (uU:∃tk,ul K li "SIGNS" = some (some (.str "abc" tk)))
  (j6:∃tk,ul K li "MOST_PLACES" = some (some (.int 9 tk)))
  : ∃fd:tz,(∀(s:ba) (v:al),aaF s fd ⟨[v],[]⟩ [("_law_script",v)])/\∀base:i8,K.In base->base.Ns li mg->(∃bm ob,Zs base li mg bm ob)->(∀c p,u7 h c p->u7 base c p)->FnOk l.prog w K mg base bA 13 fa fd ["_law_script"] (spLaw K ⟨tabs,lts.zip []⟩) :=by
 obtain⟨Sy,QV,cS⟩:=DY.df X G ["thing"] fun _ _ _ _ _ _ us hl=>match us,hl with | [_],_=>rfl
 obtain⟨Jr,Hc,bO⟩:=sj.df X G ["thing","many"] fun _ _ _ _ _ _ us hl=>match us,hl with | [_,_],_=>rfl
 obtain⟨Vm,Um,iC⟩:=Jn.df X G ["thing","many","width"] fun _ _ _ _ _ _ us hl=>match us,hl with | [_,_,_],_=>rfl
 obtain⟨Vn,Uo,iD⟩:=Jo.df X G ["thing"] fun _ _ _ _ _ _ us hl=>match us,hl with | [_],_=>rfl
 obtain⟨Sz,QX,cA⟩:=DZ.df X G ["thing"] fun _ _ _ _ _ _ us hl=>match us,hl with | [_],_=>rfl
 obtain⟨SA,QY,gF⟩:=D0.df X G ["net"] fun _ _ _ _ _ _ us hl=>match us,hl with | [_],_=>rfl
 obtain⟨Up,SD,iL⟩:=G8.df X G ["net","thing"] fun _ _ _ _ _ _ us hl=>match us,hl with | [_,_],_=>rfl
 obtain⟨QZ,Qw,fE⟩:=Ar.df X G ["net","thing"] fun _ _ _ _ _ _ us hl=>match us,hl with | [_,_],_=>rfl
 obtain⟨SE,Q0,gK⟩:=D1.df X G ["one","other"] fun _ _ _ _ _ _ us hl=>match us,hl with | [_,_],_=>rfl
 obtain⟨SF,Q3,gJ⟩:=D2.df X G ["net","sign"] fun _ _ _ _ _ _ us hl=>match us,hl with | [_,_],_=>rfl
 obtain⟨Mq,Mj,dZ⟩:=wm.df X G ["goals"] fun _ _ _ _ _ _ us hl=>match us,hl with | [_],_=>rfl
 obtain⟨Q4,Qx,fI⟩:=As.df X G ["goals","place"] fun _ _ _ _ _ _ us hl=>match us,hl with | [_,_],_=>rfl
 obtain⟨Vs,Vo,kM⟩:=Mf.df X G ["goals"] fun _ _ _ _ _ _ us hl=>match us,hl with | [_],_=>rfl
 obtain⟨Q5,Qy,eF⟩:=Au.df X G ["net","sign"] fun _ _ _ _ _ _ us hl=>match us,hl with | [_,_],_=>rfl
 obtain⟨SG,Q6,gL⟩:=D3.df X G ["_law_script","_law_at"] fun _ _ _ _ _ _ us hl=>match us,hl with | [_,_],_=>rfl
 obtain⟨Q7,Qz,aB⟩:=Av.df X G ["_law_bag_here","_law_many"] fun _ _ _ _ _ _ us hl=>match us,hl with | [_,_],_=>rfl
 obtain⟨QB,Mr,bN⟩:=zy.df X G ["_law_bag_here","_law_many"] fun _ _ _ _ _ _ us hl=>match us,hl with | [_,_],_=>rfl
 obtain⟨SH,Q8,gM⟩:=D4.df X G ["_law_bag_here","_law_most"] fun _ _ _ _ _ _ us hl=>match us,hl with | [_,_],_=>rfl
 obtain⟨QC,Ms,eU⟩:=zA.df X G ["_law_net_here"] fun _ _ _ _ _ _ us hl=>match us,hl with | [_],_=>rfl
 obtain⟨QD,Mt,eV⟩:=zB.df X G ["_law_net_here"] fun _ _ _ _ _ _ us hl=>match us,hl with | [_],_=>rfl
 obtain⟨Q9,QF,fF⟩:=Aw.df X G ["_law_net_here"] fun _ _ _ _ _ _ us hl=>match us,hl with | [_],_=>rfl
 obtain⟨Ra,QH,cU⟩:=Ax.df X G ["_law_back_here","_law_some"] fun _ _ _ _ _ _ us hl=>match us,hl with | [_,_],_=>rfl
 obtain⟨Rb,QJ,fG⟩:=Ay.df X G ["_law_many"] fun _ _ _ _ _ _ us hl=>match us,hl with | [_],_=>rfl
 obtain⟨Mu,Mk,d6⟩:=wo.df X G ["_law_net_here"] fun _ _ _ _ _ _ us hl=>match us,hl with | [_],_=>rfl
 obtain⟨Rc,QK,fJ⟩:=Az.df X G ["_law_bag_here","_law_net_here"] fun _ _ _ _ _ _ us hl=>match us,hl with | [_,_],_=>rfl
 obtain⟨XQ,QM,D6⟩:=Sg.df X G ["_law_script"] fun _ _ _ _ _ _ us hl=>match us,hl with | [_],_=>rfl
 have Rf:=WS X G Aq;have uN:=WS X G Md;have se:=WS X G Jm;have X_:=Lb eb;have uM:C_NoNet∈[C_NoNet,C_NoSign] :=by simp
 have sd:C_NoSign∈[C_NoNet,C_NoSign] :=by simp
 have e:=XJ.symm.trans D6.mg;cases e;have bl:Bl mg:=⟨tw X G Sh,tw X G Mg,tw X G Si,tw X G Sj,tw X G Sl,tw X G Qu,tw X G Mi,tw X G Sn,tw X G Sr,tw X G Qv,tw X G zD,tw X G Ss,tw X G Su,tw X G Jp,tw X G Sv,tw X G AA,tw X G Sw,tw X G D5,tw X G Jq,tw X G Sx,tw X G zE⟩;obtain⟨Vp,uU⟩:=uU;have ju:=WS X G uU;obtain⟨Ml,j6⟩:=j6;have jt:=WS X G j6;obtain⟨aZ,Uq,rfl,Js,T⟩:=jz T;obtain⟨bp,Ur,rfl,Jt,T⟩:=jz T;obtain⟨aN,QN,rfl,AB,T⟩:=jz T;cases T;cases U;refine⟨QM,fun s v=>D6.bind1 s v (by intros;rfl),fun base _ _ eW tr=>?_⟩
 obtain⟨nQ,js⟩:=xn iC X Js tr;obtain⟨yW,nR⟩:=xn iD X Jt tr;obtain⟨rD,fH⟩:=xn eF X AB tr;have G9:aZ∈(⟨[aZ,bp,aN],[]⟩:cX) :=by show _∈[aZ,bp,aN];simp
 have Ha:bp∈(⟨[aZ,bp,aN],[]⟩:cX) :=by show _∈[aZ,bp,aN];simp
 have zF:aN∈(⟨[aZ,bp,aN],[]⟩:cX) :=by show _∈[aZ,bp,aN];simp
 have rZ:=GB (P:=l.prog) (w:=w) (tb:=(⟨[aZ,bp,aN],[]⟩:cX)) iD nR Ha iC js G9 eW bO cS bl jt;have gE:=Ab cA iD rZ X_ uM uN;have nU:=Ad gF cA gE bl ju;have pN:=DJ iL gF nU bl;have mK:=yY fE iL pN X_ sd se;have og:=Ae gJ cA gE fE mK bl ju;have oh:=Am (P:=l.prog) (w:=w) (base:=base) (tb:=(⟨[aZ,bp,aN],[]⟩:cX)) gK bl;have uT:=IZ (P:=l.prog) (w:=w) (base:=base) (tb:=(⟨[aZ,bp,aN],[]⟩:cX)) kM dZ bl;have mL:=y0 (P:=l.prog) (w:=w) (base:=base) (tb:=(⟨[aZ,bp,aN],[]⟩:cX)) fI bl;have SJ:=zt eF fH zF eW gJ og kM uT fI mL gK oh bl;have zG:=Qa (tb:=(⟨[aZ,bp,aN],[]⟩:cX)) (zY (P:=l.prog) (w:=w) (base:=base) aB);have SK:=Se (tb:=(⟨[aZ,bp,aN],[]⟩:cX)) (DA (P:=l.prog) (w:=w) (base:=base) gL bl);have Cq:=yR bN aB zG bl;have SM:=DC gM aB zG bN Cq bl;have QO:=An fJ aB zG bN Cq bl;have Mm:=y9 (P:=l.prog) (w:=w) (base:=base) (tb:=(⟨[aZ,bp,aN],[]⟩:cX)) eU bl;have Mp:=zb eV eU Mm bl;have QP:=Ag (P:=l.prog) (w:=w) (base:=base) (tb:=(⟨[aZ,bp,aN],[]⟩:cX)) fF bl;have QR:=Ah (P:=l.prog) (w:=w) (base:=base) (tb:=(⟨[aZ,bp,aN],[]⟩:cX)) cU bl;have QU:=Ai (P:=l.prog) (w:=w) (base:=base) (tb:=(⟨[aZ,bp,aN],[]⟩:cX)) fG bl;have Ju:=wg d6 fF QP cU QR fG QU bl;exact O6 (Qt D6 gL SK gM SM fJ QO eV Mp d6 Ju eF SJ bl)
theorem walk {l:aaV}{q:jp}{loose:List ci}{XP:(ci->Option al)->i8->Prop}{YP:lf->i8->Prop}{d:DefRec}{K:aa4->bv}(hn:l.most=some 63) (EG:d.params.defaults=[])
  (F5:∀w:lf,aaj (K w.params)=true) (Kb:∀y∈((["is_row","is_net","top_pairs"]:List ci)++([]:List ci)),∃r∈recsOf q,r.name=y) (qR:∀w:lf,uJ (K w.params) ["is_row","is_net","top_pairs"] []=true) (hY:∀(w:lf) (h:i8),YP w h->(K w.params).In h)
  (F:∀(w:lf) (mg:ci->Option al) (fa:ag) (h:i8) (tabs lts:List ag),(K w.params).In h->h.Ns li mg->mg d.name=some (.ref fa)->
   BY (TabOf mg h) ["is_row","is_net","top_pairs"] tabs->BY (TabOf mg h) [] lts->
   ∃fd:tz,(∀(s:ba) (u:al),aaF s fd ⟨[u],[]⟩ [("_law_script",u)]) /\
    ∀base:i8,(K w.params).In base->base.Ns li mg->(∃bm ob,Zs base li mg bm ob)->(∀c p,u7 h c p->u7 base c p)->FnOk l.prog w (K w.params) mg base bA 13 fa fd ["_law_script"] (spLaw (K w.params) ⟨tabs,lts.zip []⟩)) :
  PySem.W.WalkO q loose XP YP l.row.toRowW d [] (fun f vs=>aa0 f vs):=
 L2.Iy (n:=63) (k:=13) (x := "_law_script") (CX:=bA) (sp:=fun K tabs lts=>spLaw K ⟨tabs,lts.zip []⟩) hn (by decide) EG ⟨rfl,by decide,by decide⟩ F5 Kb qR hY F (fun _ _ _ _ a ns hl hn hT hL hS=>Iz hl hn hT hL hS) fun _ _ _ _ z=>z
end My
open PySem PySem.W PyProof.Rows L2
theorem L2.dm (f:ag) (pm:al) (cd:ag) {K:bv}{x:ci}{st:wE}(a:ul K li x=some (some (.ref f)) :=by kernel_rfl) (l:K.lookup f=some ⟨.type "function",none,.func (KF x x (gw st) (dE st) (aq st) .none .none .none pm none (.ref cd) .none),#[]⟩ :=by kernel_rfl) (c:Yz K (.ref cd) x=true :=by kernel_rfl) (k:Uf K (.ref f)=true :=by kernel_rfl):bE K x st:=L2.HD a l c k
abbrev L2.Us:al:=My.vS "roadcall.whole" 239
abbrev L2.Cr:al:=My.vS "roadcall.nets" 256
abbrev L2.Hb:al:=My.vS "roadcall.rings" 321
abbrev L2.oz:al:=My.vS "law_roadcall_k48_whole_top_pairs_are_stable" 361
set_option maxRecDepth 100000 in
set_option maxHeartbeats 0 in
theorem PySem.Challenge.cw_roadcall_k48_whole_top_pairs_are_stable_holds : PySem.Challenge.rw_roadcall_k48_whole_top_pairs_are_stable.Holds := by
 w_on;o_law
 refine My.KD (q:=My.kq) (loose:=My.kL) (H:=My.kH) My.left (by rfl) (by rfl) (by rfl) (by rfl) (by first|assumption|decide +kernel) (by decide +kernel) ⟨rfl,rfl,rfl,rfl,rfl,by decide +kernel⟩ ?hw ?hc
 (case hw=>w_witness2)
 refine My.walk (l:=PySem.Challenge.rw_roadcall_k48_whole_top_pairs_are_stable) rfl rfl (fun w=>by kernel_rfl) (recs_of (by decide +kernel)) (fun w=>by kernel_rfl) (fun w h Y=>Y) ?F
 intro w mg fa h tabs lts KX G EH T U;exact My.all_mk (C_RoadError:=24) (C_NoNet:=37) (C_NoSign:=49) KX G EH T U
  (by kernel_rfl)
  (by kernel_rfl)
  (by kernel_rfl)
  (by kernel_rfl)
  (by decide)
  (L2.dm 58 L2.Us 57)
  (L2.dm 65 L2.Us 64)
  (L2.dm 72 L2.Cr 71)
  (L2.dm 79 L2.Cr 78)
  (L2.dm 86 L2.Cr 85)
  (L2.dm 93 L2.Cr 92)
  (L2.dm 100 L2.Cr 99)
  (L2.dm 107 L2.Cr 106)
  (L2.dm 114 (My.vS "roadcall.pairs" 311) 113)
  (L2.dm 119 L2.Hb 118)
  (L2.dm 124 L2.Hb 123)
  (L2.dm 131 L2.Hb 130)
  (L2.dm 138 L2.Hb 137)
  (L2.dm 143 L2.Hb 142)
  (L2.dm 150 L2.oz 149)
  (L2.dm 157 L2.oz 156)
  (L2.dm 164 L2.oz 163)
  (L2.dm 169 L2.oz 168)
  (L2.dm 174 L2.oz 173)
  (L2.dm 179 L2.oz 178)
  (L2.dm 186 L2.oz 185)
  (L2.dm 193 L2.oz 192)
  (L2.dm 198 L2.oz 197)
  (L2.dm 203 L2.oz 202)
  (L2.dm 208 L2.oz 207)
  (L2.dm 213 L2.oz 212)
  (by kernel_rfl)
  (by kernel_rfl)
  (by kernel_rfl)
  (by kernel_rfl)
  (by kernel_rfl)
  (by kernel_rfl)
  (by kernel_rfl)
  (by kernel_rfl)
  (by kernel_rfl)
  (by kernel_rfl)
  (by kernel_rfl)
  (by kernel_rfl)
  (by kernel_rfl)
  (by kernel_rfl)
  (by kernel_rfl)
  (by kernel_rfl)
  (by kernel_rfl)
  (by kernel_rfl)
  (by kernel_rfl)
  (by kernel_rfl)
  (by kernel_rfl)
  ⟨258,by kernel_rfl⟩
  ⟨260,by kernel_rfl⟩
