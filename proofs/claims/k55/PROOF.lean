import PyProof.Rows.All
import Wide.All
import OpenK.AllK
import Wide.FinOn
import Lean
import PySem.Challenge.RW_roadcall_k55_counting_refused
import PyProof.EqAt
import PyProof.EqKinds
import PyProof.TupleCall
import PyProof.NeKinds
import PyProof.EnumMake
import PyProof.EnumFor
import PyProof.ZipIter
import PyProof.Rows.ZipGen
import PyProof.TupleKey
import KE.KLam
import PyProof.DictItems
import KE.KTurnsDict
import KE.KPairComp
import KE.KDictList
import KE.KRevSl
import KE.KRevIter
import PyProof.FitsBits
import PyProof.NoPylong
import PyProof.CallType
import PyProof.TupleOfGen
open PySem renaming wpAny_bind->ac,Addr->ag,Value->ap,Shared->ba,wpAny_pure->bi,Str->bv,Expr->dL,Program->ff,World->hX,Heap->ii,Obj->lc,FuncData->mf,wpAny_mono->on,Around->rb,SetTable->r9,wpAny_newObj_type->sB,Builtin->ul,Stmt->ut,wpAny_call_entry->u8,Pos->ww,wpAny_callSpecial?_slot->wP,seg_bind_wrap->wT,boot_len->xy,wpAny_holding->xL,Scope->zd,Paired->AM,mem_of_lookup->AN,codeAny_builtin->BN,wpAny_Call_Name_kw->B0,Spec->Cs,wpAny_truthy_bool->Db,wpAny_setState_of->EO,wpAny_standAt->ES,plainId_quiet->FS,wpAny_field->IR,sizeLine_eq->Lo,wpAny_rule->LM,wpAny_attempt->LS,IsTupleKey->Mc,wpAny_setField_rec->Nl,wpAny_typeOf->NG,Env->Op,wpAny_typeNameOfWhole_keyiter->OE,wpAny_setEntries_of->OK,Arguments->OP,TriplesOk->Pd,wpAny_passesOwn->Pi,wpAny_updateSeq->Ps,Keyword->SI,NameKind->W1,codeAny_mono->XB,wpAny_fieldsOf->XF,wpAny_seqItems->XG,CmpOp->XJ,wpAny_askSetting->XN,wpAny_specialOf->X3,wpAny_loadPart'->X5,DictEntry->X8,tupleKind_room_in1->Yb,wpAny_pyIter_slot->Yk,wpAny_setEpoch_of->Yl,wpAny_of_eq->Yq,IsEnum->Yr,GenState->Yt,wpAny_isInstance->Yv,seg_again->YD,wpAny_execs_nil->YH,wpAny_call->YK,IsPart->YL,codeAny_of_tree->YO,codeAny_call_builtin->YS,wpAny_runValue->Y2,wpAny_newTuple->Y3,wpAny_pyIter_tuple->Za,wpAny_newList->Zi,Sem->Zp,wpAny_dictEntries->Zu,wpAny_load->Zw,BindsTo->Zx,noFill_tuple_add->ZA,wpAny_of_in1->ZC,wpAny_forIn_list->ZH,Tok->ZO,PassesOwn->ZQ,wpAny_dictEpoch->ZV,Result->ZY,call->Z0,Params->Z3,WalksS->Z5,IsEnumOut->Z6,putSet_of->Z7
open List renaming getElem?_eq_getElem->ar,length_map->ci,getElem?_eq_some_iff->cr,getD_eq_getElem?_getD->c8,getElem?_map->db,mem_cons_of_mem->f8,size_toArray->im,mem_cons_self->i4,mem_append_right->kw,mem_of_getElem?->lp,range->lw,mem_map->l6,mem_cons->l8,mem_iff_getElem?->qr,mem_singleton->rf,map_cons->ss,mem_range->u4,getElem?_append_left->wb,getElem_mem->wr,map_map->wv,length_append->xb,all_eq_true->xp,map_append->xw,getElem?_zip_eq_some->xz,mem_append_left->ze,getElem?_append_right->AE,length_cons->AS,append_nil->Ch,not_mem_nil->Co,length_singleton->Da,getElem?_cons_succ->Do,length_range->EN,getElem?_eq_none->ET,mem_append->EU,length_eraseIdx_of_lt->Gc,take_of_length_le->GE,filterMap_cons->GS,getElem?_range->GT,replicate->IT,getElem?_replicate->JJ,nodup_cons->Ll,map_nil->Lu,drop_eq_getElem_cons->No,append_assoc->On,eq_nil_of_length_eq_zero->Os,Nodup->ON,zip_cons_cons->Pf,length_nil->Pv,length_zip->PM,ext_getElem?->RS,getElem?_eq_none_iff->So,Perm->SC,length_drop->SZ,lookup_cons->Tk,toArray->TD,toList_toArray->US,eraseIdx_eq_take_drop_succ->UV,getElem?_cons_zero->VT,mem_filter->Wp,of_mem_zip->WA,length_set->WE,find?_cons->WF,set_cons_zero->WJ,set_cons_succ->WP,getElem?_set_self->WS,pairwise_lt_range->Xw,length_pos_of_mem->Xx,length_replicate->XC,length_take->XM,cons_append->XS,Pairwise->XT,zip_eq_zipWith->XY,replicate_succ->XZ,replicate_zero->X0,nil_append->X6,mem_filterMap->X9,nodup_range->Yw,drop_length->Yx,filter_cons->Yy,getElem?_set_ne->YG,pairwise_append->YQ,zip_append->YT,getElem?_append->YV,map_congr_left->YY,length_pos_iff->YZ,getElem_range->Zd,getElem?_set->Zt,foldl_append->Zv,getElem_inj->Zz,ext_getElem->ZE,take_length->ZF,countP_cons->ZI
open PySem.W renaming Frag->bn,nsIn->ln,mg_none_of->sw,CodeHd->u7,mg_of->wn,fnOf->BS,keepIn->Cc,hideAll->Cf,kia_one->Fa,kitOne->Mn,codeIn->MW,kla_obj->PP,tabObj->SL,envX->Tl,kitAny->XH,hideAll_get->XX,looseW->Y0,of_hideAll->Y7,callWith_K->Zb,kb_classed->Ze,recOk->Zf,excIn->Zk,methodObj->Zo,xlAt->Zy,opening->ZM,instObj->ZP,OpenLaw->ZU
open PySem.Heap renaming get?_push_of_some->br,get?_push_size->ij,lt_size->io,SameBut->zn,get?_update_self->AL,get?_update_other->AT,size_push->Nd,get?_push_ne->Ym,size_update->Yz,ExtBut->Y6
open Nat renaming le_refl->ce,ne_of_lt->l5,lt_of_lt_of_le->l9,zero_le->nw,le_trans->v6,lt_succ_of_lt->GM,le_succ->IS,min_self->LB,lt_or_ge->LF,lt_irrefl->LH,lt_succ_self->Me,le_of_lt->OR,ne_of_gt->SS,sub_self->TW,mod_eq_of_lt->Uf,mod_lt->XO,strongRecOn->X2,not_lt_zero->X4,le_of_eq->Yc,le_of_not_lt->Yu,reduceAdd->Zm,reduceSub->Zn,lt_trans->ZD,zero_add->ZJ,gcd->ZZ,not_lt->Z2
open Bool renaming false_eq_true->gc,false_ne_true->i8,and_eq_true->EM,not_true->LP,not_false->SO,true_and->XV,false_and->Yd,not_eq_true->YB,eq_iff_iff->YI,or_false->Zg
open PySem.Str renaming ofString->i0
open Array renaming length_toList->jp,getElem?_eq_getElem->tz,getElem?_eq_none->GG,getElem?_toList->Na,getD->NH,mem_of_getElem?->YF,mem_toList_iff->YJ,toList_append->YW,size_push->ZR,replicate->ZT
open PySem.Value renaming ref->li,none->wE,type->BY,builtin->Ys,str->YC,int->ZN,bool->Z1
open Option.some renaming inj->l7,injEq->KM
open Option renaming map_eq_some_iff->ma,map_some->Ix,ne_none_iff_exists'->Re,some->Xz,isSome_map->XA,join_some->XQ,bind_some->ZG
open PySem.SetTable renaming below->mo,insertAt->AC,bits->Cn,runEnd->NJ,turns->OL,Probe->Ye,fresh->Y4,leap->Zl,layClean->Z9,probe->aaa
open PySem.SeqAt renaming EqAt->mT,RcAt->r6
open Or renaming inl->sK,inr->RI
open Int renaming toNat_natCast->uu,eq_ofNat_of_zero_le->FM,le_refl->LG,zero_add->T0,emod_nonneg->WI,natCast_add->X7,emod_lt_of_pos->Zc,natCast_emod->ZL
open Ne renaming symm->wp
open PySem.NameKind renaming free->wS
open PySem.Around renaming under_plainId->zw
open PySem.PassesOwn renaming never->At
open PySem.Builtin.List renaming listExtendWith->BB,listSameRef->IN,listLengthHint->XI,listTouch->Yo
open PySem.Obj renaming mapSeq->CS,data_mapFields->Pe,isFreed_of_fields->YE,putSet->YU,cls_mapFields->Zq
open PySem.F renaming plainAttrs_list->DD,slot_dict_keyiterator_next->EQ,plain_list_iadd->KB,slot_list_append->NL,type_list_append->NO,called_set->TM,plain_extend_loop->UF,entry_proto_collect->XD,plain_proto_collect->XE,excBase_ValueError->XW,args_tuple_add_2->Ya,entry_tuple_add->Yf,entry_list_iadd->Yi,slot_tuple_add->Yn,slot_set_iter->YR,plain_all_loop->ZB
open False renaming elim->DO
open PyProof.Rows renaming callWith_type1->Fk,slot_tuple_getitem->Go,IntsAre->Po,BMod->Yh,assignInOrder_cons->Y8,listUpdate_at->Zj,AllBare->ZW,IsTup->Z8
open Sum renaming inl->FF,inr->Y1
open PySem.Heap.SameBut renaming update->Is
open Classical renaming byContradiction->ID,propDecidable->OF,not_not->Sk
open PySem.Builtin.Tuple renaming tupleExact->IF
open True renaming intro->NE
open PySem.Calls renaming spliced_cons->Pc,spliced_nil->Rs,evalArgs_plain->YM
open PySem.Paired renaming length->P3
open PySem.Builtin.Slice renaming slicePlaces->Sm,sliceAdjust->X1
open PySem.W.Fast renaming tw821141287760084731->SB
open PySem.SetTable.layClean renaming free->Xy
open PySem.Shared renaming TypeIs->XU
open PySem.Sem renaming bind_eq_wrap'->Yg,onRaise_eq_wrap->YX,wrap_wrap->Zh
open PySem.SetTable.below renaming go->Yj
open String renaming reduceBEq->YA
open ForInStep renaming yield->YN
open PySem.SetTable.probe renaming go->Zs
open PySem.SeqAt.EqAt renaming same->ZS
open And renaming intro->Z4
set_option linter.all false
set_option Elab.async false
set_option maxRecDepth 100000
namespace My
open PySem PyProof.Rows
def kA (s:ut):OP:=match s with
 | .FunctionDef _ a _ _ _ _ _ _ _ _=>a
 |_=>{posonlyargs:=[],args:=[],vararg:=none,kwonlyargs:=[],kw_defaults:=[],kwarg:=none,defaults:=[]}
def kB (s:ut):List ut:=match s with
 | .FunctionDef _ _ b _ _ _ _ _ _ _=>b
 |_=>[]
def kS (s:ut):zd:=match s with
 | .FunctionDef _ _ _ _ _ _ sc _ _ _=>sc
 |_=>{kind:=.function,names:=[],isGenerator:=false,isCoroutine:=false}
def vS (x:String) (t:Nat):ap:=.str (i0 x) t
def kE (P:Z3) (x:String) (t:Nat) (v:ap):X8:=⟨PyData.keyHash P (i0 x),vS x t,v⟩
def kF (i:Nat) (x:String) (d m:ap) (c:Nat):lc:=let st:=PySem.Challenge.pw_roadcall_k55_counting_refused.main.body.getD i (.Pass ⟨0,0,0,0⟩);⟨.type "function",none,.func (BS (i0 x) (i0 x) (kA st) (kB st) (kS st) d .none .none m none (.ref c) .none),#[]⟩
def kC (x:String) (t:Nat) (l n f:Int) (a:Nat) (b:Bool) (m:Int) (p:Nat) (u z:ap) (q:Nat) (e:Int) (t2:Nat):lc:=⟨.type "code",none,.fields #[vS x t,vS x (t+1),vS "/claim/cut.py" (t+2),.int l 0,.int n 0,.int 0 0,.int 0 0,.int f 0,.ref a,.bool b,.int m 0,.ref p,.none,u,z,.ref q,.int e 0,.int l 0,vS "/claim/cut.py" t2],#[]⟩
def kK (P:Z3):bn:=[(2,⟨.none,none,.dict [].toArray 0,#[]⟩),
 (3,⟨.type "dict",none,.dict [kE P "__name__" 165 (vS "law_roadcall_k55_counting_refused" 681),kE P "__doc__" 166 .none,kE P "__package__" 167 .none,kE P "__loader__" 168 (.builtin "__main__.__loader__#opaque"),kE P "__spec__" 169 .none,kE P "__annotations__" 170 (.ref 6),kE P "__builtins__" 171 (.ref 4),kE P "__file__" 173 (vS "/claim/cut.py" 172),kE P "__cached__" 174 .none,kE P "RoadError" 206 (.ref 24),kE P "NoNet" 222 (.ref 37),kE P "NoPlace" 238 (.ref 49),kE P "NoSign" 254 (.ref 61),kE P "NoWord" 270 (.ref 73),kE P "NoWhole" 286 (.ref 85),kE P "NoNumber" 302 (.ref 97),kE P "NoKin" 318 (.ref 109),kE P "NoSet" 334 (.ref 121),kE P "NoPair" 350 (.ref 133),kE P "NoStep" 366 (.ref 145),kE P "NoCall" 382 (.ref 157),kE P "TooMany" 398 (.ref 169),kE P "NoPaper" 426 (.ref 191),kE P "NoText" 442 (.ref 203),kE P "NoRow" 458 (.ref 215),kE P "NoDeed" 474 (.ref 227),kE P "is_whole" 483 (.ref 236),kE P "is_whole_below" 491 (.ref 243),kE P "common_divisor" 499 (.ref 250),kE P "SIGNS" 503 (vS "abc" 502),kE P "MOST_PLACES" 505 (.int 9 504),kE P "is_row" 515 (.ref 257),kE P "is_net" 524 (.ref 264),kE P "need_net" 531 (.ref 271),kE P "MOST_SETS" 535 (.int 511 534),kE P "first_met" 550 (.ref 279),kE P "first_words" 559 (.ref 286),kE P "parts" 565 (.ref 291),kE P "hangs_together" 572 (.ref 298),kE P "need_whole" 579 (.ref 305),kE P "beat" 587 (.ref 310),kE P "all_pairs" 595 (.ref 315),kE P "in_order" 603 (.ref 322),kE P "coming_pairs" 615 (.ref 329),kE P "led_to_some" 621 (.ref 334),kE P "never_called" 627 (.ref 339),kE P "arrangements" 640 (.ref 346),kE P "signings" 649 (.ref 353),kE P "signing" 661 (.ref 360),kE P "MOST_SIGNINGS" 665 (.int 64 664),kE P "called_signings" 671 (.ref 365),kE P "is_called" 680 (.ref 372),kE P "_law_bag" 693 (.ref 379),kE P "_law_take" 704 (.ref 386),kE P "_law_order" 715 (.ref 393),kE P "_law_made" 721 (.ref 398),kE P "_law_refused" 732 (.ref 405),kE P "_law_cut" 738 (.ref 410),kE P "law" 748 (.ref 417)].toArray 59,#[]⟩),
 (23,⟨.type "dict",none,.dict [kE P "__module__" 196 (vS "roadcall.errors" 187),kE P "__firstlineno__" 200 (.int 2 199),kE P "__static_attributes__" 201 (.ref 22),kE P "__weakref__" 203 (.ref 25),kE P "__doc__" 204 .none].toArray 3,#[]⟩),
 (24,⟨.type "type",none,.cls {name:=i0 "RoadError",bases:=[.type "ValueError"],mro:=[.ref 24,.type "ValueError",.type "Exception",.type "BaseException",.type "object"],ns:=23,qualname:=i0 "RoadError",subclasses:=[.ref 37,.ref 49,.ref 61,.ref 73,.ref 85,.ref 97,.ref 109,.ref 121,.ref 133,.ref 145,.ref 157,.ref 169,.ref 191,.ref 203,.ref 215,.ref 227]},#[some (.ref 15),none,some (vS "RoadError" 189),some (vS "RoadError" 197),some (.builtin "ValueError.__new__"),some (.bool true)]⟩),
 (36,⟨.type "dict",none,.dict [kE P "__module__" 214 (vS "roadcall.errors" 187),kE P "__firstlineno__" 218 (.int 4 217),kE P "__static_attributes__" 219 (.ref 35),kE P "__doc__" 220 .none].toArray 2,#[]⟩),
 (37,⟨.type "type",none,.cls {name:=i0 "NoNet",bases:=[.ref 24],mro:=[.ref 37,.ref 24,.type "ValueError",.type "Exception",.type "BaseException",.type "object"],ns:=36,qualname:=i0 "NoNet",subclasses:=[]},#[some (.ref 28),none,some (vS "NoNet" 207),some (vS "NoNet" 215),some (.builtin "ValueError.__new__"),some (.bool true)]⟩),
 (48,⟨.type "dict",none,.dict [kE P "__module__" 230 (vS "roadcall.errors" 187),kE P "__firstlineno__" 234 (.int 6 233),kE P "__static_attributes__" 235 (.ref 47),kE P "__doc__" 236 .none].toArray 2,#[]⟩),
 (49,⟨.type "type",none,.cls {name:=i0 "NoPlace",bases:=[.ref 24],mro:=[.ref 49,.ref 24,.type "ValueError",.type "Exception",.type "BaseException",.type "object"],ns:=48,qualname:=i0 "NoPlace",subclasses:=[]},#[some (.ref 40),none,some (vS "NoPlace" 223),some (vS "NoPlace" 231),some (.builtin "ValueError.__new__"),some (.bool true)]⟩),
 (60,⟨.type "dict",none,.dict [kE P "__module__" 246 (vS "roadcall.errors" 187),kE P "__firstlineno__" 250 (.int 8 249),kE P "__static_attributes__" 251 (.ref 59),kE P "__doc__" 252 .none].toArray 2,#[]⟩),
 (61,⟨.type "type",none,.cls {name:=i0 "NoSign",bases:=[.ref 24],mro:=[.ref 61,.ref 24,.type "ValueError",.type "Exception",.type "BaseException",.type "object"],ns:=60,qualname:=i0 "NoSign",subclasses:=[]},#[some (.ref 52),none,some (vS "NoSign" 239),some (vS "NoSign" 247),some (.builtin "ValueError.__new__"),some (.bool true)]⟩),
 (72,⟨.type "dict",none,.dict [kE P "__module__" 262 (vS "roadcall.errors" 187),kE P "__firstlineno__" 266 (.int 10 265),kE P "__static_attributes__" 267 (.ref 71),kE P "__doc__" 268 .none].toArray 2,#[]⟩),
 (73,⟨.type "type",none,.cls {name:=i0 "NoWord",bases:=[.ref 24],mro:=[.ref 73,.ref 24,.type "ValueError",.type "Exception",.type "BaseException",.type "object"],ns:=72,qualname:=i0 "NoWord",subclasses:=[]},#[some (.ref 64),none,some (vS "NoWord" 255),some (vS "NoWord" 263),some (.builtin "ValueError.__new__"),some (.bool true)]⟩),
 (84,⟨.type "dict",none,.dict [kE P "__module__" 278 (vS "roadcall.errors" 187),kE P "__firstlineno__" 282 (.int 12 281),kE P "__static_attributes__" 283 (.ref 83),kE P "__doc__" 284 .none].toArray 2,#[]⟩),
 (85,⟨.type "type",none,.cls {name:=i0 "NoWhole",bases:=[.ref 24],mro:=[.ref 85,.ref 24,.type "ValueError",.type "Exception",.type "BaseException",.type "object"],ns:=84,qualname:=i0 "NoWhole",subclasses:=[]},#[some (.ref 76),none,some (vS "NoWhole" 271),some (vS "NoWhole" 279),some (.builtin "ValueError.__new__"),some (.bool true)]⟩),
 (96,⟨.type "dict",none,.dict [kE P "__module__" 294 (vS "roadcall.errors" 187),kE P "__firstlineno__" 298 (.int 14 297),kE P "__static_attributes__" 299 (.ref 95),kE P "__doc__" 300 .none].toArray 2,#[]⟩),
 (97,⟨.type "type",none,.cls {name:=i0 "NoNumber",bases:=[.ref 24],mro:=[.ref 97,.ref 24,.type "ValueError",.type "Exception",.type "BaseException",.type "object"],ns:=96,qualname:=i0 "NoNumber",subclasses:=[]},#[some (.ref 88),none,some (vS "NoNumber" 287),some (vS "NoNumber" 295),some (.builtin "ValueError.__new__"),some (.bool true)]⟩),
 (108,⟨.type "dict",none,.dict [kE P "__module__" 310 (vS "roadcall.errors" 187),kE P "__firstlineno__" 314 (.int 16 313),kE P "__static_attributes__" 315 (.ref 107),kE P "__doc__" 316 .none].toArray 2,#[]⟩),
 (109,⟨.type "type",none,.cls {name:=i0 "NoKin",bases:=[.ref 24],mro:=[.ref 109,.ref 24,.type "ValueError",.type "Exception",.type "BaseException",.type "object"],ns:=108,qualname:=i0 "NoKin",subclasses:=[]},#[some (.ref 100),none,some (vS "NoKin" 303),some (vS "NoKin" 311),some (.builtin "ValueError.__new__"),some (.bool true)]⟩),
 (120,⟨.type "dict",none,.dict [kE P "__module__" 326 (vS "roadcall.errors" 187),kE P "__firstlineno__" 330 (.int 18 329),kE P "__static_attributes__" 331 (.ref 119),kE P "__doc__" 332 .none].toArray 2,#[]⟩),
 (121,⟨.type "type",none,.cls {name:=i0 "NoSet",bases:=[.ref 24],mro:=[.ref 121,.ref 24,.type "ValueError",.type "Exception",.type "BaseException",.type "object"],ns:=120,qualname:=i0 "NoSet",subclasses:=[]},#[some (.ref 112),none,some (vS "NoSet" 319),some (vS "NoSet" 327),some (.builtin "ValueError.__new__"),some (.bool true)]⟩),
 (132,⟨.type "dict",none,.dict [kE P "__module__" 342 (vS "roadcall.errors" 187),kE P "__firstlineno__" 346 (.int 20 345),kE P "__static_attributes__" 347 (.ref 131),kE P "__doc__" 348 .none].toArray 2,#[]⟩),
 (133,⟨.type "type",none,.cls {name:=i0 "NoPair",bases:=[.ref 24],mro:=[.ref 133,.ref 24,.type "ValueError",.type "Exception",.type "BaseException",.type "object"],ns:=132,qualname:=i0 "NoPair",subclasses:=[]},#[some (.ref 124),none,some (vS "NoPair" 335),some (vS "NoPair" 343),some (.builtin "ValueError.__new__"),some (.bool true)]⟩),
 (144,⟨.type "dict",none,.dict [kE P "__module__" 358 (vS "roadcall.errors" 187),kE P "__firstlineno__" 362 (.int 22 361),kE P "__static_attributes__" 363 (.ref 143),kE P "__doc__" 364 .none].toArray 2,#[]⟩),
 (145,⟨.type "type",none,.cls {name:=i0 "NoStep",bases:=[.ref 24],mro:=[.ref 145,.ref 24,.type "ValueError",.type "Exception",.type "BaseException",.type "object"],ns:=144,qualname:=i0 "NoStep",subclasses:=[]},#[some (.ref 136),none,some (vS "NoStep" 351),some (vS "NoStep" 359),some (.builtin "ValueError.__new__"),some (.bool true)]⟩),
 (156,⟨.type "dict",none,.dict [kE P "__module__" 374 (vS "roadcall.errors" 187),kE P "__firstlineno__" 378 (.int 24 377),kE P "__static_attributes__" 379 (.ref 155),kE P "__doc__" 380 .none].toArray 2,#[]⟩),
 (157,⟨.type "type",none,.cls {name:=i0 "NoCall",bases:=[.ref 24],mro:=[.ref 157,.ref 24,.type "ValueError",.type "Exception",.type "BaseException",.type "object"],ns:=156,qualname:=i0 "NoCall",subclasses:=[]},#[some (.ref 148),none,some (vS "NoCall" 367),some (vS "NoCall" 375),some (.builtin "ValueError.__new__"),some (.bool true)]⟩),
 (168,⟨.type "dict",none,.dict [kE P "__module__" 390 (vS "roadcall.errors" 187),kE P "__firstlineno__" 394 (.int 26 393),kE P "__static_attributes__" 395 (.ref 167),kE P "__doc__" 396 .none].toArray 2,#[]⟩),
 (169,⟨.type "type",none,.cls {name:=i0 "TooMany",bases:=[.ref 24],mro:=[.ref 169,.ref 24,.type "ValueError",.type "Exception",.type "BaseException",.type "object"],ns:=168,qualname:=i0 "TooMany",subclasses:=[]},#[some (.ref 160),none,some (vS "TooMany" 383),some (vS "TooMany" 391),some (.builtin "ValueError.__new__"),some (.bool true)]⟩),
 (180,⟨.type "tuple",none,.seq #[.int 0 411] 0,#[]⟩),
 (190,⟨.type "dict",none,.dict [kE P "__module__" 406 (vS "roadcall.errors" 187),kE P "__firstlineno__" 410 (.int 28 409),kE P "__init__" 420 (.ref 188),kE P "__static_attributes__" 422 (.ref 189),kE P "__doc__" 424 .none].toArray 3,#[]⟩),
 (191,⟨.type "type",none,.cls {name:=i0 "NoPaper",bases:=[.ref 24],mro:=[.ref 191,.ref 24,.type "ValueError",.type "Exception",.type "BaseException",.type "object"],ns:=190,qualname:=i0 "NoPaper",subclasses:=[]},#[some (.ref 172),none,some (vS "NoPaper" 399),some (vS "NoPaper" 407),some (.builtin "ValueError.__new__"),some (.bool true)]⟩),
 (202,⟨.type "dict",none,.dict [kE P "__module__" 434 (vS "roadcall.errors" 187),kE P "__firstlineno__" 438 (.int 33 437),kE P "__static_attributes__" 439 (.ref 201),kE P "__doc__" 440 .none].toArray 2,#[]⟩),
 (203,⟨.type "type",none,.cls {name:=i0 "NoText",bases:=[.ref 24],mro:=[.ref 203,.ref 24,.type "ValueError",.type "Exception",.type "BaseException",.type "object"],ns:=202,qualname:=i0 "NoText",subclasses:=[]},#[some (.ref 194),none,some (vS "NoText" 427),some (vS "NoText" 435),some (.builtin "ValueError.__new__"),some (.bool true)]⟩),
 (214,⟨.type "dict",none,.dict [kE P "__module__" 450 (vS "roadcall.errors" 187),kE P "__firstlineno__" 454 (.int 35 453),kE P "__static_attributes__" 455 (.ref 213),kE P "__doc__" 456 .none].toArray 2,#[]⟩),
 (215,⟨.type "type",none,.cls {name:=i0 "NoRow",bases:=[.ref 24],mro:=[.ref 215,.ref 24,.type "ValueError",.type "Exception",.type "BaseException",.type "object"],ns:=214,qualname:=i0 "NoRow",subclasses:=[]},#[some (.ref 206),none,some (vS "NoRow" 443),some (vS "NoRow" 451),some (.builtin "ValueError.__new__"),some (.bool true)]⟩),
 (226,⟨.type "dict",none,.dict [kE P "__module__" 466 (vS "roadcall.errors" 187),kE P "__firstlineno__" 470 (.int 37 469),kE P "__static_attributes__" 471 (.ref 225),kE P "__doc__" 472 .none].toArray 2,#[]⟩),
 (227,⟨.type "type",none,.cls {name:=i0 "NoDeed",bases:=[.ref 24],mro:=[.ref 227,.ref 24,.type "ValueError",.type "Exception",.type "BaseException",.type "object"],ns:=226,qualname:=i0 "NoDeed",subclasses:=[]},#[some (.ref 218),none,some (vS "NoDeed" 459),some (vS "NoDeed" 467),some (.builtin "ValueError.__new__"),some (.bool true)]⟩),
 (235,kC "is_whole" 477 40 1 3 230 true 181 231 (.ref 232) (.ref 233) 234 481 482),
 (236,kF 19 "is_whole" .none (vS "roadcall.whole" 475) 235),
 (242,kC "is_whole_below" 484 42 2 3 237 true 181 238 (.ref 239) (.ref 240) 241 489 490),
 (243,kF 20 "is_whole_below" .none (vS "roadcall.whole" 475) 242),
 (249,kC "common_divisor" 492 44 2 3 244 true 181 245 (.ref 246) (.ref 247) 248 497 498),
 (250,kF 21 "common_divisor" .none (vS "roadcall.whole" 475) 249),
 (256,kC "is_row" 506 52 3 3 251 true 181 252 (.ref 253) (.ref 254) 255 513 514),
 (257,kF 25 "is_row" .none (vS "roadcall.nets" 500) 256),
 (263,kC "is_net" 516 56 1 3 258 true 181 259 (.ref 260) (.ref 261) 262 522 523),
 (264,kF 26 "is_net" .none (vS "roadcall.nets" 500) 263),
 (270,kC "need_net" 525 64 1 3 265 true 181 266 (.ref 267) (.ref 268) 269 529 530),
 (271,kF 27 "need_net" .none (vS "roadcall.nets" 500) 270),
 (272,⟨.type "tuple",none,.seq #[.int 511 534] 0,#[]⟩),
 (278,kC "first_met" 536 69 4 3 273 true 181 274 (.ref 275) (.ref 276) 277 548 549),
 (279,kF 30 "first_met" (.ref 272) (vS "roadcall.ways" 532) 278),
 (285,kC "first_words" 551 80 2 3 280 true 181 281 (.ref 282) (.ref 283) 284 557 558),
 (286,kF 31 "first_words" .none (vS "roadcall.ways" 532) 285),
 (290,kC "parts" 560 82 1 3 287 true 181 288 .none .none 289 563 564),
 (291,kF 32 "parts" .none (vS "roadcall.ways" 532) 290),
 (297,kC "hangs_together" 566 91 1 3 292 true 181 293 (.ref 294) (.ref 295) 296 570 571),
 (298,kF 33 "hangs_together" .none (vS "roadcall.ways" 532) 297),
 (304,kC "need_whole" 573 93 1 3 299 true 181 300 (.ref 301) (.ref 302) 303 577 578),
 (305,kF 34 "need_whole" .none (vS "roadcall.ways" 532) 304),
 (309,kC "beat" 582 97 1 3 306 true 181 307 .none .none 308 585 586),
 (310,kF 36 "beat" .none (vS "roadcall.beats" 580) 309),
 (314,kC "all_pairs" 590 107 1 3 311 true 181 312 .none .none 313 593 594),
 (315,kF 38 "all_pairs" .none (vS "roadcall.pairs" 588) 314),
 (321,kC "in_order" 596 110 2 3 316 true 181 317 (.ref 318) (.ref 319) 320 601 602),
 (322,kF 39 "in_order" .none (vS "roadcall.pairs" 588) 321),
 (328,kC "coming_pairs" 604 112 1 3 323 true 181 324 (.ref 325) (.ref 326) 327 613 614),
 (329,kF 40 "coming_pairs" .none (vS "roadcall.pairs" 588) 328),
 (333,kC "led_to_some" 616 118 2 3 330 true 181 331 .none .none 332 619 620),
 (334,kF 41 "led_to_some" .none (vS "roadcall.pairs" 588) 333),
 (338,kC "never_called" 622 128 1 3 335 true 181 336 .none .none 337 625 626),
 (339,kF 42 "never_called" .none (vS "roadcall.pairs" 588) 338),
 (345,kC "arrangements" 630 134 1 3 340 true 181 341 (.ref 342) (.ref 343) 344 638 639),
 (346,kF 44 "arrangements" .none (vS "roadcall.signings" 628) 345),
 (352,kC "signings" 641 142 1 3 347 true 181 348 (.ref 349) (.ref 350) 351 647 648),
 (353,kF 45 "signings" .none (vS "roadcall.signings" 628) 352),
 (359,kC "signing" 650 148 2 3 354 true 181 355 (.ref 356) (.ref 357) 358 659 660),
 (360,kF 46 "signing" .none (vS "roadcall.signings" 628) 359),
 (364,kC "called_signings" 666 159 1 3 361 true 181 362 .none .none 363 669 670),
 (365,kF 49 "called_signings" .none (vS "roadcall.counting" 662) 364),
 (371,kC "is_called" 672 166 2 3 366 true 181 367 (.ref 368) (.ref 369) 370 678 679),
 (372,kF 50 "is_called" .none (vS "roadcall.counting" 662) 371),
 (378,kC "_law_bag" 683 169 2 3 373 true 181 374 (.ref 375) (.ref 376) 377 691 692),
 (379,kF 52 "_law_bag" .none (vS "law_roadcall_k55_counting_refused" 681) 378),
 (385,kC "_law_take" 694 179 2 3 380 true 181 381 (.ref 382) (.ref 383) 384 702 703),
 (386,kF 53 "_law_take" .none (vS "law_roadcall_k55_counting_refused" 681) 385),
 (392,kC "_law_order" 705 191 2 3 387 true 181 388 (.ref 389) (.ref 390) 391 713 714),
 (393,kF 54 "_law_order" .none (vS "law_roadcall_k55_counting_refused" 681) 392),
 (397,kC "_law_made" 716 197 1 3 394 true 181 395 .none .none 396 719 720),
 (398,kF 55 "_law_made" .none (vS "law_roadcall_k55_counting_refused" 681) 397),
 (404,kC "_law_refused" 722 213 2 3 399 true 181 400 (.ref 401) (.ref 402) 403 730 731),
 (405,kF 56 "_law_refused" .none (vS "law_roadcall_k55_counting_refused" 681) 404),
 (409,kC "_law_cut" 733 222 2 3 406 true 181 407 .none .none 408 736 737),
 (410,kF 57 "_law_cut" .none (vS "law_roadcall_k55_counting_refused" 681) 409),
 (416,kC "law" 739 226 1 3 411 true 181 412 (.ref 413) (.ref 414) 415 746 747),
 (417,kF 58 "law" .none (vS "law_roadcall_k55_counting_refused" 681) 416)]
def UE:List ag:=[2,3,23,24,36,37,48,49,60,61,72,73,84,85,96,97,108,109,120,121,132,133,144,145,156,157,168,169,180,190,191,202,203,214,215,226,227,235,236,242,243,249,250,256,257,263,264,270,271,272,278,279,285,286,290,291,297,298,304,305,309,310,314,315,321,322,328,329,333,334,338,339,345,346,352,353,359,360,364,365,371,372,378,379,385,386,392,393,397,398,404,405,409,410,416,417]
def kq:ff:=PySem.W.view PySem.Challenge.pw_roadcall_k55_counting_refused [1,2,3,4,5,6,7,8,9,10,11,12,13,14,15,16,17,19,20,21,23,24,25,26,27,29,31,32,33,34,36,38,39,40,41,42,44,45,46,48,49,50,52,53,54,55,56,57,58]
def kL:List bv:=[i0 "NoPaper",i0 "first_met"]
def kH:PySem.W.Hook:=PySem.W.kHook kK UE fun _=>by kernel_rfl
theorem Jn {r:PySem.W.OpenRow}{q:ff}{loose:List bv}{H:PySem.W.Hook}{d:DefRec}{Lk:List (bv×dL)}{N:Nat}(left:PySem.W.LeftO r.prog q loose (fun s=>Zy q [] s && Zf r.records s) H.obs H.val N)
  (vG:PySem.W.defOf q r.name=some (d,Lk)) (hp:r.prog.theDef r.name=some (d.params,d.body,d.scope)) (hk:PySem.W.kwWritten? d.params.kwonlyargs d.params.kw_defaults=some Lk) (UG:(!r.writes || r.records.isEmpty)=true) (k1:r.wellSaid=true)
  (ok:(PySem.W.chainsOk q && PySem.W.opensWell r.prog && (PySem.W.frees r.toRowW && r.within.isEmpty))=true) (hb:r.prog.bare) (hw:r.toRowW.promised) (call:PySem.W.WalkO q loose (PySem.W.XL q []) H.says r.toRowW d Lk fun f vs=>Z0 f vs):r.Holds:=
 PySem.W.holds_open left H.of H.keeps (fun s e=>PySem.W.xl_of s (Bool.and_eq_true_iff.mp e).1) PySem.W.XL.keeps vG hp hk (fun s e=>PySem.W.recFacts_of (Bool.and_eq_true_iff.mp e).2) UG k1 ok hb hw call
noncomputable def oeQ (p:ff) (w:hX) (N:Nat):Option ba:=((PySem.W.Fast.tw10274390034422433532 PySem.W.Fast.tw14364793385576792824 (ZM p) w N (PySem.W.Fast.tw1435165496053646825 (ZM p)).1 (PySem.W.Fast.tw1435165496053646825 (ZM p)).2).bind (PySem.W.Fast.tw14289696077712309145 p)).bind fun s₀=>match s₀.heap.isNs PySem.mainGlobals && s₀.gens.size==0 with
 |true=>(PySem.W.Fast.tw14082659384304107361 PySem.W.Fast.tw14364793385576792824 p w s₀.heap.objs.size (s₀.heap.nsMap PySem.mainGlobals "__annotations__") N s₀ (PySem.W.topStub p)).bind fun aw=>match PySem.W.staticsOk (importedModules p.main.body) s₀.heap aw.heap && PySem.W.namesBound p aw.heap && PySem.W.gensDone aw && PySem.W.laidKept s₀.heap aw.heap with
   |true=>some aw
   |false=>none
 |false=>none
theorem P9 (p:ff) (w:hX) (N:Nat):PySem.W.openEnds treeTable p w N=oeQ p w N :=by
 unfold oeQ;rw[<- PySem.W.Fast.te10274390034422433532,<- PySem.W.Fast.te14364793385576792824,<- PySem.W.Fast.te1435165496053646825,<- PySem.W.Fast.te14289696077712309145,<- PySem.W.Fast.te14082659384304107361];rfl
noncomputable def nsQ (q:ff):List bv:=(PySem.W.Fast.tw3399658132070893891 q).map (·.name)
theorem HE (q:ff):(recsOf q).map (·.name)=nsQ q :=by unfold nsQ;rw[<- PySem.W.Fast.te3399658132070893891]
noncomputable def c1Q (s:ba):=PySem.W.Fast.tw5160383126252970620 (nsQ kq) (PySem.W.Fast.tw5991557255702980513 kq) [] {s with gens:=#[]}
theorem Qa (s:ba):seen ((recsOf kq).map (·.name)) (ownsOf kq) [] {s with gens:=#[]}=c1Q s :=by unfold c1Q;rw[HE,<- PySem.W.Fast.te5160383126252970620,<- PySem.W.Fast.te5991557255702980513]
def c2 (s:ba):=(s.heap.bltView,s.heap.keysOk (Y0 kq kL) ((recsOf kq).map (·.name)) ((litsOf kq).map (·.1)) ((clssOf kq (Y0 kq kL)).map (·.name)) && s.heap.accountedOkI (importedModules PySem.Challenge.pw_roadcall_k55_counting_refused.main.body) && s.heap.isNs mainGlobals && s.heap.isNs builtinsNs && tablesOk kq s.heap && (Zy kq [] s && Zf [] s) && (s.gens.size==0))
noncomputable def c2Q (s:ba):=(s.heap.bltView,PySem.W.Fast.tw10880121769531294198 s.heap (SB kq kL) (nsQ kq) ((PySem.W.Fast.tw7409074990110511671 kq).map (·.1)) ((PySem.W.Fast.tw13664370479719496447 kq (SB kq kL)).map (·.name)) && PySem.W.Fast.tw14722251495701143533 s.heap (importedModules PySem.Challenge.pw_roadcall_k55_counting_refused.main.body) && s.heap.isNs mainGlobals && s.heap.isNs builtinsNs && PySem.W.Fast.tw10994771534591457954 kq s.heap && (Zy kq [] s && Zf [] s) && (s.gens.size==0))
theorem Qb (s:ba):c2 s=c2Q s :=by unfold c2 c2Q;rw[HE,<- PySem.W.Fast.te10880121769531294198,<- PySem.W.Fast.te821141287760084731,<- PySem.W.Fast.te7409074990110511671,<- PySem.W.Fast.te13664370479719496447,<- PySem.W.Fast.te14722251495701143533,<- PySem.W.Fast.te10994771534591457954]
def c3 (s:ba):=tabsOk kq s
def c5 (s:ba):=plainSeenE kq (Y0 kq kL) s
def c4 (s:ba):=(PySem.pinSeenD kq (drecsOf kq) s,plainSeenD kq kL s,PySem.W.wideSeen kq s,PySem.W.clsSeenW kq kL s)
noncomputable def c3Q (s:ba):=PySem.W.Fast.tw479339242167458305 kq s
noncomputable def c5Q (s:ba):=PySem.W.Fast.tw2386780881361962483 kq (SB kq kL) s
noncomputable def c4Q (s:ba):=(PySem.W.Fast.tw16090120013241838585 kq (PySem.W.Fast.tw3247288618530077131 kq) s,PySem.W.Fast.tw11698064438423848299 kq kL s,PySem.W.Fast.tw7317090234206586261 kq s,PySem.W.Fast.tw7369524293546568484 kq kL s)
theorem Qc (s:ba):c3 s=c3Q s :=by unfold c3 c3Q;rw[<- PySem.W.Fast.te479339242167458305]
theorem Qd (s:ba):c5 s=c5Q s :=by unfold c5 c5Q;rw[<- PySem.W.Fast.te2386780881361962483,<- PySem.W.Fast.te821141287760084731]
theorem Qe (s:ba):c4 s=c4Q s :=by unfold c4 c4Q;rw[<- PySem.W.Fast.te16090120013241838585,<- PySem.W.Fast.te3247288618530077131,<- PySem.W.Fast.te11698064438423848299,<- PySem.W.Fast.te7317090234206586261,<- PySem.W.Fast.te7369524293546568484]
set_option maxHeartbeats 0 in
theorem left0 (w:hX):(oeQ PySem.Challenge.pw_roadcall_k55_counting_refused w 9398).map (fun s=>kH.obs s)=some (kH.val w) :=by kernel_rfl
set_option maxHeartbeats 0 in
theorem left1 (w:hX):(oeQ PySem.Challenge.pw_roadcall_k55_counting_refused w 9398).map c1Q=some (expectedOf kq) :=by kernel_rfl
set_option maxHeartbeats 0 in
theorem left2 (w:hX):(oeQ PySem.Challenge.pw_roadcall_k55_counting_refused w 9398).map c2Q=some (bltViewBooted,true) :=by kernel_rfl
set_option maxHeartbeats 0 in
theorem left3 (w:hX):(oeQ PySem.Challenge.pw_roadcall_k55_counting_refused w 9398).map c3Q=some true :=by kernel_rfl
set_option maxHeartbeats 0 in
theorem left5 (w:hX):(oeQ PySem.Challenge.pw_roadcall_k55_counting_refused w 9398).map c5Q=some (plainGoodE kq (Y0 kq kL)) :=by kernel_rfl
set_option maxHeartbeats 0 in
theorem left4 (w:hX):(oeQ PySem.Challenge.pw_roadcall_k55_counting_refused w 9398).map c4Q=some (PySem.pinGoodD (drecsOf kq),plainGoodD kq kL,PySem.W.wideGood kq,PySem.W.clsGoodW kq kL) :=by kernel_rfl
theorem left (w:hX):(PySem.W.openEnds treeTable PySem.Challenge.pw_roadcall_k55_counting_refused w 9398).map (fun s=>(PySem.W.openSeen kq kL (importedModules PySem.Challenge.pw_roadcall_k55_counting_refused.main.body) (fun s=>Zy kq [] s && Zf [] s) true s,kH.obs s))=some (PySem.W.openGood kq kL,kH.val w) :=by
 rw[P9];have a0:=left0 w;have a1:=left1 w;have a2:=left2 w;have a3:=left3 w;have a4:=left4 w;have a5:=left5 w;revert a0 a1 a2 a3 a4 a5
 generalize oeQ PySem.Challenge.pw_roadcall_k55_counting_refused w 9398=o
 cases o with
 |none=>intro a0;cases a0
 |some s=>
  intro a0 a1 a2 a3 a4 a5;have a0:kH.obs s=kH.val w:=l7 a0;have a1:=l7 a1;have a2:=l7 a2;have a3:=l7 a3;have a4:=l7 a4;have a5:=l7 a5;rw[<- Qa]at a1;rw[<- Qb]at a2;rw[<- Qc]at a3;rw[<- Qe]at a4;rw[<- Qd]at a5;show some ((seen ((recsOf kq).map (·.name)) (ownsOf kq) [] {s with gens:=#[]},(c2 s).1,(c2 s).2,c3 s,(c4 s).1,c5 s,(c4 s).2),kH.obs s)=_
  rw[a0,a1,a2,a3,a4,a5];rfl
end My
namespace L2
open PySem PySem.Spec PyProof.Rows
abbrev Key:=Sum Int bv
def oF:Key->ap->Bool
 | .inl k,v=>ap.isInt k v
 | .inr x,v=>ap.isStrOf x v
def S7 (w:hX):Key->Int
 | .inl k=>hashInt k
 | .inr x=>hashStr w x
theorem b7:∀{k:Key}{v:ap},oF k v=true->(∃i t,k=FF i/\v=ZN i t)\/(∃x t,k=Y1 x/\v=YC x t)
 | .inl i,v,h=>by
          obtain⟨t,e⟩:=ap.isInt_shape (k:=i) (v:=v) h;exact .inl ⟨i,t,rfl,e⟩
 | .inr x,v,h=>by
          obtain⟨t,e⟩:=ap.isStrOf_shape (x:=x) (v:=v) h;exact .inr ⟨x,t,rfl,e⟩
theorem B7 (i:Int) (t:ZO):oF (.inl i) (.int i t)=true :=by simp[oF,ap.isInt]
theorem B8 (x:bv) (t:ZO):oF (.inr x) (.str x t)=true :=by simp[oF,ap.isStrOf]
theorem Ln (a b:Int):decide ((FF a:Key)=FF b)=(a==b) :=by
 by_cases e:a=b
 ·subst e;simp
 ·have h:¬ (FF a:Key)=FF b:=fun q=>e (FF.inj q)
  rw[decide_eq_false h];exact(beq_eq_false_iff_ne.mpr e).symm
theorem Lp (a b:bv):decide ((Y1 a:Key)=Y1 b)=decide (a=b) :=by
 by_cases e:a=b
 ·subst e;simp
 ·have h:¬ (Y1 a:Key)=Y1 b:=fun q=>e (Y1.inj q)
  rw[decide_eq_false h,decide_eq_false e]
theorem Lq (a:Int) (b:bv):decide ((FF a:Key)=Y1 b)=false:=decide_eq_false (fun q=>nomatch q)
theorem Lr (a:bv) (b:Int):decide ((Y1 a:Key)=FF b)=false:=decide_eq_false (fun q=>nomatch q)
def bz (prog:ff) (w:hX):PySem.KeyKind prog w Key where
 is:=oF
 hash:=S7 w
 inj:=fun v a b ha hb=>by
  rcases b7 ha with ⟨i,t,rfl,rfl⟩|⟨x,t,rfl,rfl⟩
  ·rcases b7 hb with ⟨j,u,rfl,e⟩|⟨y,u,rfl,e⟩
   ·injection e with e1 _;rw[e1]
   ·exact nomatch e
  ·rcases b7 hb with ⟨j,u,rfl,e⟩|⟨y,u,rfl,e⟩
   ·exact nomatch e
   ·injection e with e1 _;rw[e1]
 byValue:=fun k v h=>by
  rcases b7 h with ⟨i,t,rfl,rfl⟩|⟨x,t,rfl,rfl⟩<;>rfl
 pyHash:=fun hv h=>by
  rcases b7 hv with ⟨i,t,rfl,rfl⟩|⟨x,t,rfl,rfl⟩
  ·exact wpAny_pyHash_int h
  ·exact wpAny_pyHash_str h
 eqBool:=fun hu hv h=>by
  rcases b7 hu with ⟨i,t,rfl,rfl⟩|⟨x,t,rfl,rfl⟩
  ·rcases b7 hv with ⟨j,u,rfl,rfl⟩|⟨y,u,rfl,rfl⟩
   ·rw[Ln]at h;exact wpAny_eqBool_int h
   ·rw[Lq]at h;exact mT.int_str i t y u _ _ _ _ h
  ·rcases b7 hv with ⟨j,u,rfl,rfl⟩|⟨y,u,rfl,rfl⟩
   ·rw[Lr]at h;exact mT.str_int x t j u _ _ _ _ h
   ·rw[Lp]at h;exact wpAny_eqBool_str h
 «strs»:=fun k x t v h=>by
  rcases b7 h with ⟨i,u,rfl,e⟩|⟨y,u,rfl,e⟩
  ·exact nomatch e
  ·injection e with e1 _
   subst e1;cases v<;>rfl
theorem yq (prog:ff) (w:hX) (i:Int) (t:ZO):(bz prog w).is (.inl i) (.int i t)=true:=B7 i t
theorem yr (prog:ff) (w:hX) (x:bv) (t:ZO):(bz prog w).is (.inr x) (.str x t)=true:=B8 x t
inductive V where
 |ao|bl (b:Bool)|int (i:Int)|str (x:bv)|ju (b:Array UInt8)|yX (b:UInt64)|ref (a:ag)|ty (n:String)
 deriving DecidableEq
def RelV:V->ap->Prop
 | .ao,u=>u=wE
 | .bl b,u=>u=Z1 b
 | .int i,u=>∃t,u=ZN i t
 | .str x,u=>∃t,u=YC x t
 | .ju b,u=>∃t,u=ap.bytes b t
 | .yX b,u=>∃t,u=ap.float b t
 | .ref a,u=>u=li a
 | .ty n,u=>u=BY n
abbrev Vals:List V->List ap->Prop:=AM RelV
theorem Vals.length {xs:List V}{us:List ap}(r:Vals xs us):xs.length=us.length:=P3 r
theorem Vals.get:∀{xs:List V}{us:List ap}{i:Nat}{x:V},Vals xs us->xs[i]?=some x->∃u,us[i]?=some u/\RelV x u
 |_,_,_,_,.nil,e=>by simp at e
 |_,_,0,_,.cons r _,e=>by simp at e;subst e;exact⟨_,rfl,r⟩
 |_,_,i+1,x,.cons _ t,e=>by
          obtain⟨u,h1,h2⟩:=Vals.get (i:=i) (x:=x) t (by simpa using e)
          exact⟨u,by simpa using h1,h2⟩
theorem Vals.set {x:V}{u:ap}(r:RelV x u):∀{xs:List V}{us:List ap}(i:Nat),Vals xs us->Vals (xs.set i x) (us.set i u)
 |_,_,_,.nil=>.nil
 |_,_,0,.cons _ t=>.cons r t
 |_,_,i+1,.cons q t=>.cons q (Vals.set r i t)
theorem Vals.append:∀{xs ys:List V}{us ws:List ap},Vals xs us->Vals ys ws->Vals (xs++ys) (us++ws)
 |_,_,_,_,.nil,s=>s
 |_,_,_,_,.cons r t,s=>.cons r (Vals.append t s)
theorem Vals.take:∀{xs:List V}{us:List ap}(n:Nat),Vals xs us->Vals (xs.take n) (us.take n)
 |_,_,0,_=>.nil
 |_,_,_+1,.nil=>.nil
 |_,_,n+1,.cons r t=>.cons r (Vals.take n t)
theorem Vals.drop:∀{xs:List V}{us:List ap}(n:Nat),Vals xs us->Vals (xs.drop n) (us.drop n)
 |_,_,0,r=>r
 |_,_,_+1,.nil=>.nil
 |_,_,n+1,.cons _ t=>Vals.drop n t
def jv:Option V->Option ap->Prop
 |some v,some u=>RelV v u
 |none,none=>True
 |_,_=>False
def KV {κ:Type}:List (κ×V)->List (κ×ap)->Prop:=AM fun (p:κ×V) (q:κ×ap)=>p.1=q.1/\RelV p.2 q.2
def kV:Key->V
 | .inl i=>.int i
 | .inr x=>.str x
inductive HO where
 |lst (xs:List V)
 |tup (xs:List V)
 |dK (ah:List (Key×V))|dT (ah:List (List Key×V))
 |set (S:Int->Bool) (n:Nat)
 |ins (C dx:ag) (fs:List (bv×V))
 |own (x:ag)
 |xd (fs:List (bv×V))
 |met (f x:ag)
 |yY (lo hi:Int)
 |bC (o:lc) (u:HO)
 |cI (ps:Array ap)
 |lam (ps:Array ap)
 |ext (φ:ii->Prop)
abbrev Hp:=ag->Option HO
def upd (H:Hp) (a:ag) (o:HO):Hp:=fun b=>if b=a then some o else H b
theorem av {H:Hp}{a:ag}{o:HO}:upd H a o a=some o :=by unfold upd;rw[if_pos rfl]
theorem ae {H:Hp}{a b:ag}{o:HO}(h:b≠a):upd H a o b=H b :=by unfold upd;rw[if_neg h]
theorem yZ {H:Hp}{a:ag}{o u:HO}:upd (upd H a o) a u=upd H a u :=by
 funext b;unfold upd;split<;>rfl
theorem An {H:Hp}{a b:ag}{o u:HO}(h:H a=some o) (h':H b=some u) (d:o≠u):a≠b :=by
 intro e;subst e;rw[h]at h';exact d (l7 h')
theorem aX {H:Hp}{a b:ag}{o:HO}(h:H a=some o) (h':H b=none):a≠b :=by
 intro e;subst e;rw[h]at h';cases h'
section
variable (P:ff) (w:hX)
def iM (h:ii) (a:ag) (items:Array ap):Prop:=∃o,h.get? a=some o/\o.cls=.type "tuple" /\ ∃n,o.data=.seq items n/\o.dict=none
theorem iM.tup {h:ii}{a:ag}{items:Array ap}(x:iM h a items):Z8 h a items:=let ⟨o,e,c,n,d,_⟩:=x;⟨o,e,c,n,d⟩
theorem iM.lt {h:ii}{a:ag}{items:Array ap}(x:iM h a items):a<h.objs.size:=x.tup.lt
theorem iM.new (h:ii) (items:Array ap):iM (h.push {cls:=.type "tuple",data:=.seq items}) h.objs.size items:=⟨_,ij _ rfl,rfl,_,rfl,rfl⟩
def ObjOk (H:Hp) (h:ii) (a:ag):HO->Prop
 | .lst xs=>xs.length<=sizeLine/\∃(its:List ap) (n:Nat),Vals xs its/\h.get? a=some {cls:=.type "list",data:=.seq its.toArray n}
 | .tup xs=>xs.length<=sizeLine/\∃its:List ap,Vals xs its/\iM h a its.toArray
 | .dK ah=>ah.length<=sizeLine/\(a==sysModules)=false/\∃vs,KV ah vs/\h.DictOf (bz P w) a vs
 | .dT ah=>ah.length<=sizeLine/\(a==sysModules)=false/\∃xs:List (List Key×ag×ap),
   AM (fun (p:List Key×V) (q:List Key×ag×ap)=>p.1=q.1/\H q.2.1=some (.tup (p.1.map kV))/\RelV p.2 q.2.2) ah xs /\
   ∃o es ep,h.get? a=some o/\o.ExactDict/\o.data=.dict es ep/\es.toList=xs.map (entryOfKey (tupleKind (bz P w)))/\(xs.map (·.1)).Nodup
 | .set S n=>h.SetOf (intKind P w) a S n
 | .ins C dx fs=>H dx=some (.own a)/\fs.length<=1000/\dx≠a/\h.get? a=some (ZP C dx) /\
   ∃mA,h.Ns1 dx mA/\(∀f,jv (fs.lookup f) (mA f))/\PySem.Within mA (fs.map (·.1))
 | .own _=>∃o,h.get? a=some o
 | .xd fs=>∃mA,h.Ns1 a mA/\∀f,jv (fs.lookup f) (mA f)
 | .yY lo hi=>∃t u v,h.get? a=some {cls:=.type "range",data:=.fields #[.int lo t,.int hi u,.int 1 v]}
 | .bC o u=>h.get? a=some o/\ObjOk H h a u
 | .cI ps=>h.get? a=some {cls:=.none,data:=.fields ps}
 | .lam ps=>h.get? a=some {cls:=.none,data:=.fields ps}
 | .met f x=>h.get? a=some (Zo (.ref f) (.ref x))
 | .ext φ=>φ h/\(∃o,h.get? a=some o)/\∀h1 h2:ii,φ h1->(∀o,h1.get? a=some o->h2.get? a=some o)->φ h2
def cN (H:Hp) (h:ii):Prop:=∀a o,H a=some o->ObjOk P w H h a o
end
section
variable {P:ff}{w:hX}{H H':Hp}{h h':ii}{a:ag}{o:HO}
theorem ObjOk.lt (x:ObjOk P w H h a o):a<h.objs.size :=by
 cases o with
 |lst xs=>obtain⟨_,_,_,_,e⟩:=x;exact io e
 |tup xs=>obtain⟨_,_,_,p⟩:=x;exact p.lt
 |dK ah=>obtain⟨_,_,_,_,o,_,_,e,_⟩:=x;exact io e
 |dT ah=>obtain⟨_,_,_,_,o,_,_,e,_⟩:=x;exact io e
 |set S n=>obtain⟨o,_,_,_,e,_⟩:=x;exact io e
 |ins C dx fs=>obtain⟨_,_,_,e,_⟩:=x;exact io e
 |own y=>obtain⟨_,e⟩:=x;exact io e
 |xd fs=>obtain⟨_,⟨_,_,_,e,_⟩,_⟩:=x;exact io e
 |yY lo hi=>obtain⟨_,_,_,e⟩:=x;exact io e
 |bC ob u=>obtain⟨e,_⟩:=x;exact io e
 |cI ps=>exact io (show h.get? a=some _ from x)
 |lam ps=>exact io (show h.get? a=some _ from x)
 |met f y=>exact io (show h.get? a=some _ from x)
 |ext φ=>obtain⟨_,⟨_,e⟩,_⟩:=x;exact io e
theorem AM.Ao {α β:Type}{F G:α->β->Prop}:∀{l₁:List α}{l₂:List β},AM F l₁ l₂->(∀a b,F a b->G a b)->AM G l₁ l₂
 |_,_,.nil,_=>.nil
 |_,_,.cons r t,f=>.cons (f _ _ r) (AM.Ao t f)
theorem AM.imp' {α β:Type}{F G:α->β->Prop}(f:∀a b,F a b->G a b) {l₁:List α}{l₂:List β}(r:AM F l₁ l₂):AM G l₁ l₂:=AM.Ao r f
theorem ObjOk.bp (x:ObjOk P w H h a o) (k:∀b u,(b=a\/H b=some (.own a))->h.get? b=some u->h'.get? b=some u)
  (ho:∀b,H b=some (.own a)->H' b=some (.own a)) (ht:∀b xs,H b=some (.tup xs)->H' b=some (.tup xs)):ObjOk P w H' h' a o :=by
 induction o with
 |lst xs=>obtain⟨z,its,n,r,e⟩:=x;exact⟨z,its,n,r,k _ _ (.inl rfl) e⟩
 |tup xs=>obtain⟨z,its,r,ob,e,c⟩:=x;exact⟨z,its,r,ob,k _ _ (.inl rfl) e,c⟩
 |dK ah=>obtain⟨z,y,vs,r,ob,es,ep,e,c⟩:=x;exact⟨z,y,vs,r,ob,es,ep,k _ _ (.inl rfl) e,c⟩
 |dT ah=>
  obtain⟨z,y,xs,r,ob,es,ep,e,c⟩:=x;exact⟨z,y,xs,AM.Ao r fun p q z=>⟨z.1,ht _ _ z.2.1,z.2.2⟩,ob,es,ep,k _ _ (.inl rfl) e,c⟩
 |set S n=>obtain⟨ob,es,ep,t,e,c⟩:=x;exact⟨ob,es,ep,t,k _ _ (.inl rfl) e,c⟩
 |ins C dx fs=>
  obtain⟨d,z,ne,e,mA,⟨od,es,ep,e2,c⟩,r⟩:=x;exact⟨ho _ d,z,ne,k _ _ (.inl rfl) e,mA,⟨od,es,ep,k _ _ (.inr d) e2,c⟩,r⟩
 |own y=>obtain⟨ob,e⟩:=x;exact⟨ob,k _ _ (.inl rfl) e⟩
 |xd fs=>obtain⟨mA,⟨od,es,ep,e,c⟩,r⟩:=x;exact⟨mA,⟨od,es,ep,k _ _ (.inl rfl) e,c⟩,r⟩
 |yY lo hi=>obtain⟨t,u,v,e⟩:=x;exact⟨t,u,v,k _ _ (.inl rfl) e⟩
 |bC ob u ih=>obtain⟨e,q⟩:=x;exact⟨k _ _ (.inl rfl) e,ih q⟩
 |cI ps=>
  have e:h.get? a=some {cls:=.none,data:=.fields ps}:=x;show h'.get? a=some {cls:=.none,data:=.fields ps};exact k a _ (.inl rfl) e
 |lam ps=>
  have e:h.get? a=some {cls:=.none,data:=.fields ps}:=x;show h'.get? a=some {cls:=.none,data:=.fields ps};exact k a _ (.inl rfl) e
 |met f y=>
  have e:h.get? a=some (Zo (.ref f) (.ref y)):=x;show h'.get? a=some (Zo (.ref f) (.ref y));exact k a _ (.inl rfl) e
 |ext φ=>obtain⟨p,⟨o,e⟩,st⟩:=x;exact⟨st _ _ p fun o q=>k _ _ (.inl rfl) q,⟨o,k _ _ (.inl rfl) e⟩,st⟩
theorem cN.lt (x:cN P w H h) (e:H a=some o):a<h.objs.size:=(x a o e).lt
theorem cN.fresh (x:cN P w H h) (e:h.objs.size<=a):H a=none :=by
 cases q:H a with
 |none=>rfl
 |some u=>exact absurd (l9 (x.lt q) e) (LH _)
theorem cN.kept (x:cN P w H h) (k:∀b u,h.get? b=some u->h'.get? b=some u):cN P w H h':=fun a o e=>
 (x a o e).bp (fun b u _ q=>k b u q) (fun _ q=>q) fun _ _ q=>q
theorem cN.laid (x:cN P w H h) (k:∀b u,h.get? b=some u->h'.get? b=some u) (hp:h.objs.size<=a) (new:ObjOk P w (upd H a o) h' a o):cN P w (upd H a o) h':=fun b u e=>by
 have hn:=x.fresh hp;by_cases hb:b=a
 ·subst hb;rw[av]at e;cases e;exact new
 ·rw[ae hb]at e;exact(x b u e).bp (fun c v _ q=>k c v q) (fun c q=>by rw[ae (aX q hn)];exact q) fun c xs q=>by rw[ae (aX q hn)];exact q
end
def Rd (H:Hp) (a:ag) (u:HO):Prop:=H a=some u\/∃o,H a=some (.bC o u)
theorem Rd.ok {P:ff}{w:hX}{H:Hp}{h:ii}{a:ag}{u:HO}(r:Rd H a u) (x:cN P w H h):ObjOk P w H h a u :=by
 rcases r with r|⟨o,r⟩
 ·exact x a u r
 ·obtain⟨_,q⟩:=x a _ r;exact q
def B9:Option HO->Prop
 |some (.lst _)=>True
 |some (.dK _)=>True
 |some (.dT _)=>True
 |some (.set _ _)=>True
 |some (.ins _ _ _)=>True
 |some (.ext _)=>True
 |some (.lam _)=>True
 |_=>False
section
variable {P:ff}{w:hX}{H:Hp}{h h':ii}{x e:ag}{o':HO}
theorem cN.write (ok:cN P w H h) (mu:B9 (H x)) (he:e=x\/H e=some (.own x)) (k:∀b u,b≠e->h.get? b=some u->h'.get? b=some u) (y0:∃u,h'.get? e=some u)
  (new:ObjOk P w (upd H x o') h' x o'):cN P w (upd H x o') h':=fun b u q=>by
 have Ls:∀c y,H c=some (.own y)->c≠x:=fun c y r z=>by subst z;rw[r]at mu;exact mu
 have S8:∀c xs,H c=some (.tup xs)->c≠x:=fun c xs r z=>by subst z;rw[r]at mu;exact mu
 by_cases hb:b=x
 ·subst hb;rw[av]at q;cases q;exact new
 ·rw[ae hb]at q;by_cases vH:b=e
  ·have q':H b=some (.own x) :=by
    rcases he with z|z
    ·exact absurd (vH.trans z) hb
    ·rw[vH];exact z
   rw[q]at q';cases q';obtain⟨v,hv⟩:=y0;exact⟨v,by rw[vH];exact hv⟩
  ·refine(ok b u q).bp (fun c v hc r=>k c v ?_ r) (fun c r=>by rw[ae (Ls c b r)];exact r) fun c xs r=>by rw[ae (S8 c xs r)];exact r
   rcases hc with rfl|hc
   ·exact vH
   ·rintro rfl;rcases he with z|z
    ·exact Ls c b hc z
    ·rw[hc]at z;cases z;exact hb rfl
end
structure Un (fs ex:List ag) (H H':Hp) (h h':ii):Prop where
 keep:∀b o,h.get? b=some o->H b=none->b ∉ fs->b ∉ ex->h'.get? b=some o
 slot:∀b o,h.get? b=some o->H b=none->b∈fs->b ∉ ex->∃sl,h'.get? b=some {o with slots:=sl}
 free:∀b o,h.get? b=some o->H b=none->b ∉ ex->H' b=none
 there:∀b o,h.get? b=some o->b ∉ ex->∃o',h'.get? b=some o'
 tups:∀b xs,H b=some (.tup xs)->H' b=some (.tup xs)
 frzs:∀b o u,H b=some (.bC o u)->H' b=some (.bC o u)
 tbls:∀b ps,H b=some (.cI ps)->∃more,H' b=some (.cI (ps++more))
section
variable {fs UH ex W6:List ag}{H H1 H2:Hp}{h h1 h2 h':ii}{a x e:ag}{o:HO}
theorem Un.any (u:Un fs ex H H1 h h1) {b:ag}{ob:lc}(q:h.get? b=some ob) (n:H b=none) (hx:b ∉ ex):∃sl,h1.get? b=some {ob with slots:=sl}:=by
 by_cases hb:b∈fs
 ·exact u.slot b ob q n hb hx
 ·exact⟨ob.slots,u.keep b ob q n hb hx⟩
theorem Un.kept (k:∀b u,h.get? b=some u->h'.get? b=some u):Un fs ex H H h h':=
 ⟨fun b ob q _ _ _=>k b ob q,fun b ob q _ _ _=>⟨ob.slots,k b ob q⟩,fun _ _ _ n _=>n,fun b ob q _=>⟨ob,k b ob q⟩,fun _ _ q=>q,fun _ _ _ q=>q,fun _ ps q=>⟨#[],by rw[q];simp⟩⟩
theorem Un.refl:Un fs ex H H h h:=Un.kept fun _ _ q=>q
theorem Un.laid (k:∀b u,h.get? b=some u->h'.get? b=some u) (hp:h.objs.size<=a) (hn:H a=none):Un fs ex H (upd H a o) h h' where
 keep:=fun b u q _ _ _=>k b u q
 slot:=fun b u q _ _ _=>⟨u.slots,k b u q⟩
 free:=fun b u q n _=>by rw[ae (l5 (l9 (io q) hp))];exact n
 there:=fun b u q _=>⟨u,k b u q⟩
 tups:=fun b xs q=>by rw[ae (aX q hn)];exact q
 frzs:=fun b u xs q=>by rw[ae (aX q hn)];exact q
 tbls:=fun b ps q=>⟨#[],by rw[ae (aX q hn),q];simp⟩
theorem Un.write (mu:B9 (H x)) (he:e=x\/H e=some (.own x)) (k:∀b u,b≠e->h.get? b=some u->h'.get? b=some u) (y0:∃u,h'.get? e=some u):Un fs ex H (upd H x o) h h':=by
 have hx:∀b,H b=none->b≠x:=fun b n z=>by subst z;rw[n]at mu;exact mu
 have hb:∀b,H b=none->b≠e:=fun b n z=>by
  subst z;rcases he with r|r
  ·exact hx b n r
  ·rw[n]at r;cases r
 have hm:∀b u,H b=some u->¬ B9 (some u)->b≠x:=fun b u q nm z=>by subst z;rw[q]at mu;exact nm mu
 refine⟨fun b u q n _ _=>k b u (hb b n) q,fun b u q n _ _=>⟨u.slots,k b u (hb b n) q⟩,fun b u q n _=>by rw[ae (hx b n)];exact n,fun b u q _=>?_,
  fun b xs q=>by rw[ae (hm b _ q fun z=>z)];exact q,fun b u xs q=>by rw[ae (hm b _ q fun z=>z)];exact q,fun b ps q=>⟨#[],by rw[ae (hm b _ q fun z=>z),q];simp⟩⟩
 by_cases vH:b=e
 ·subst vH;exact y0
 ·exact⟨u,k b u vH q⟩
end
def HF (h:ii) (H:Hp):List ag:=(lw h.objs.size).filter fun a=>(H a).isSome
def jw (h:ii) (H:Hp):ii:=Cf h (HF h H)
theorem Ca (h:ii) (H:Hp):(jw h H).objs.size=h.objs.size:=PySem.W.hideAll_size _ _
theorem Ft {h:ii}{H:Hp}{b:ag}{o:lc}(e:h.get? b=some o) (n:H b=none):(jw h H).get? b=some o:=
 XX _ e fun hm=>by
  have q:(H b).isSome=true:=(Wp.mp hm).2;rw[n]at q;simp at q
theorem Jo {h:ii}{H:Hp}{b:ag}{o:lc}(e:(jw h H).get? b=some o):h.get? b=some o/\H b=none :=by
 have e':h.get? b=some o:=Y7 (HF h H) e;refine⟨e',?_⟩;cases q:H b with
 |none=>rfl
 |some x=>
  have hm:b∈HF h H:=Wp.mpr ⟨u4.mpr (io e'),by simp[q]⟩
  have z:(jw h H).get? b=none:=PySem.W.hideAll_none (HF h H) hm;rw[z]at e;cases e
def Jp (g h:ii) (L:ag):List (ag×lc):=(lw h.objs.size).filterMap fun a=>if a=L\/(g.get? a).isSome=true then none else (h.get? a).map fun o=>(a,o)
def rest (g h:ii) (L d:ag):List (ag×lc):=(Jp g h L).filter fun p=>decide (p.1≠d)
structure Mod (K:bn) (mg:bv->Option ap) (base:ii):Prop where
 kin:K.In base
 glob:base.Ns mainGlobals mg
 blt:∃mb,base.Ns builtinsNs mb/\∀x:bv,x ≠ "__name__" -> mb x=bootBuiltins x
 nolimit:base.NoLimit
structure Cx where
 prog:ff
 w:hX
 K:bn
 mg:bv->Option ap
 base:ii
 A:rb
 N:List bv
 s₀:ba
 H₀:Hp
 env:Op
 outer:List Op
 stack:List Op
 ex:List ag
 fn:bv->Bool
 calm:Bool
 pn:List (ag×lc)
 xe:ap->ba->Prop
def dS (l:List Op):List ag:=l.filterMap (·.frame)
abbrev Cx.fs (X:Cx):List ag:=dS X.outer
def pE (sc:zd) (x:bv):Prop:=sc.names.lookup x=some .local\/sc.names.lookup x=some .cell\/sc.names.lookup x=some .free
def Loc (sc:zd) (x:bv):Prop:=sc.names.lookup x=some .local\/sc.names.lookup x=some .cell
def Look (env:Op) (h:ii) (m:bv->Option ap) (x:bv) (u:ap):Prop:=
 (env.kindOf x=some .local/\m x=some u)\/((env.kindOf x=some .cell\/env.kindOf x=some .free)/\∃c,env.cells.lookup x=some c/\h.IsCell c (some u))
structure Cx.Ok (X:Cx):Prop where
 mod:Mod X.K X.mg X.base
 kind:X.env.scope.kind=.function
 glob:X.env.globals=mainGlobals
 blt:X.env.builtins=builtinsNs
 above:X.s₀.heap.objs.size<=X.env.locals
 inj:∀x y c,X.env.cells.lookup x=some c->X.env.cells.lookup y=some c->x=y
 has:∀x,(X.env.kindOf x=some .cell\/X.env.kindOf x=some .free)->∃c,X.env.cells.lookup x=some c
 cab:∀x c,X.fn x=true->X.env.cells.lookup x=some c->X.s₀.heap.objs.size<=c
 hd:X.calm=true->X.A.handled=none
 frames:X.A.frames=some X.stack
 stk:X.stack=X.outer\/(X.stack=X.env::X.outer/\X.env.frame=some X.env.locals)
 exf:∀b∈X.ex,b≠X.env.locals/\∀x c,X.env.cells.lookup x=some c->c≠b
 bs:∀b o,X.base.get? b=some o->X.s₀.heap.get? b=some o/\X.H₀ b=none
 bsz:X.base.objs.size<=X.s₀.heap.objs.size
 noex:∀b o,X.base.get? b=some o->b ∉ X.ex
 exfs:∀b∈X.ex,b ∉ X.fs
 funs:X.s₀.heap.FunFrames X.base X.outer
 frf:∀b∈X.fs,X.H₀ b=none
def Gn (n:Nat) (g:Array Yt):Prop:=ZW g/\n<=g.size
theorem Gn.self {n:Nat}{g:Array Yt}(x:Gn n g):Gn g.size g:=⟨x.1,ce _⟩
theorem Gn.trans {n:Nat}{g g':Array Yt}(x:Gn n g) (y:Gn g.size g'):Gn n g':=⟨y.1,v6 x.2 y.2⟩
structure Inv (X:Cx) (pins:List (ag×lc)) (σ:List (Option V)) (H:Hp) (s:ba):Prop where
 ok:X.Ok
 os:s.os=X.s₀.os
 bare:Gn X.s₀.gens.size s.gens
 base:Un X.fs X.ex X.H₀ H X.s₀.heap s.heap
 loc:∃m,s.heap.Ns X.env.locals m/\∀(i:Nat) (x:bv) (v:V),X.N[i]?=some x->σ[i]?=some (some v)->pE X.env.scope x->∃u,RelV v u/\Look X.env s.heap m x u
 cell:∀x c,X.env.cells.lookup x=some c->∃v,s.heap.IsCell c v
 free:H X.env.locals=none
 freeC:∀x c,X.env.cells.lookup x=some c->H c=none
 pin:∀p∈X.pn++pins,s.heap.get? p.1=some p.2/\H p.1=none/\p.1≠X.env.locals/\p.1 ∉ X.fs/\∀v,p.2.data≠.cell v
 hok:cN X.prog X.w H s.heap
 len:σ.length=X.N.length
section
variable {X:Cx}{pins:List (ag×lc)}{σ:List (Option V)}{H H':Hp}{s:ba}{h':ii}
theorem Cx.Ok.S9 (ok:X.Ok) {b:ag}{o:lc}(e:X.base.get? b=some o):b ∉ X.fs:=fun hb=>by
 have:=(ok.funs.mem hb).1;rw[e]at this;cases this
theorem Inv.bs (I:Inv X pins σ H s):∀b o,X.base.get? b=some o->s.heap.get? b=some o/\H b=none:=fun b o e=>
 ⟨I.base.keep b o (I.ok.bs b o e).1 (I.ok.bs b o e).2 (I.ok.S9 e) (I.ok.noex b o e),I.base.free b o (I.ok.bs b o e).1 (I.ok.bs b o e).2 (I.ok.noex b o e)⟩
theorem Inv.bk (I:Inv X pins σ H s):∀b o,X.base.get? b=some o->s.heap.get? b=some o:=fun b o e=>(I.bs b o e).1
theorem Inv.mod (I:Inv X pins σ H s):Mod X.K X.mg X.base:=I.ok.mod
theorem Inv.ez (I:Inv X pins σ H s):X.K.In s.heap:=I.ok.mod.kin.keeps I.bk
theorem Inv.nolimit (I:Inv X pins σ H s):s.heap.NoLimit:=I.ok.mod.nolimit.keeps I.bk
theorem Inv.lt (I:Inv X pins σ H s):X.env.locals<s.heap.objs.size:=let ⟨_,hn,_⟩:=I.loc;hn.lt
theorem Inv.sz (I:Inv X pins σ H s):X.s₀.heap.objs.size<=s.heap.objs.size:=v6 I.ok.above (OR I.lt)
theorem Inv.Lv (I:Inv X pins σ H s) {a:ag}(h:s.heap.objs.size<=a):a ∉ X.fs:=fun hb=>by
 obtain⟨_,o,ho,_⟩:=I.ok.funs.mem hb;exact absurd (l9 (io ho) (v6 I.sz h)) (LH _)
theorem Inv.qO (I:Inv X pins σ H s):∀x c,X.env.cells.lookup x=some c->c≠X.env.locals:=fun x c e z=>by
 obtain⟨v,o,ho,hd⟩:=I.cell x c e;obtain⟨m,⟨o',es,ep,eS,iB,_⟩,_⟩:=I.loc;rw[z,eS]at ho;cases ho;rw[iB]at hd;cases hd
theorem Inv.funs (I:Inv X pins σ H s):s.heap.FunFrames X.base X.outer :=by
 have all:∀(l:List Op),(∀b∈dS l,b∈X.fs)->X.s₀.heap.FunFrames X.base l->s.heap.FunFrames X.base l :=by
  intro l;induction l with
  |nil=>intro _ _;trivial
  |cons env r ih=>
   intro hs hl;obtain⟨hk,⟨L,o,hf,hn,ho,hd⟩,hr⟩:=hl;have hL:L∈X.fs:=hs L (by unfold dS;rw[GS,hf];exact i4)
   obtain⟨sl,e⟩:=I.base.slot L o ho (I.ok.frf L hL) hL fun z=>I.ok.exfs L z hL
   exact⟨hk,⟨L,_,hf,hn,e,hd⟩,ih (fun b hb=>hs b (by unfold dS;rw[GS,hf];exact f8 _ hb)) hr⟩
 exact all X.outer (fun _ hb=>hb) I.ok.funs
theorem Inv.stack (I:Inv X pins σ H s):s.heap.FunFrames X.base X.stack :=by
 rcases I.ok.stk with e|⟨e,hf⟩
 ·rw[e];exact I.funs
 ·rw[e];obtain⟨m,hn,_⟩:=I.loc;refine .cons (by rw[I.ok.kind];decide) hf hn ?_ I.funs
  exact ii.get?_none_of_le (v6 I.ok.bsz I.ok.above)
theorem Inv.iC (I:Inv X pins σ H s):∀b∈dS X.stack,b∈X.env.locals::X.fs:=fun b hb=>by
 rcases I.ok.stk with e|⟨e,hf⟩
 ·rw[e]at hb;exact f8 _ hb
 ·rw[e]at hb;unfold dS at hb;rw[GS,hf]at hb;exact hb
theorem Inv.oG (I:Inv X pins σ H s):∀b∈dS X.stack,H b=none:=fun b hb=>by
 rcases l8.mp (I.iC b hb) with e|hb
 ·rw[e];exact I.free
 ·obtain⟨_,o,ho,_⟩:=I.ok.funs.mem hb;exact I.base.free b o ho (I.ok.frf b hb) fun z=>I.ok.exfs b z hb
theorem Inv.step {g':Array Yt}{t':Nat}{d':Drawn}{ch:List ag}(I:Inv X pins σ H s)
  (pF:∀b∈ch,(b∈X.ex\/X.s₀.heap.objs.size<=b)/\b≠X.env.locals/\(∀x c,X.env.cells.lookup x=some c->c≠b)/\∀p∈X.pn++pins,p.1≠b)
  (keep:∀b o,b≠X.env.locals->b ∉ X.fs->b ∉ ch->s.heap.get? b=some o->H b=none->h'.get? b=some o)
  (slot:∀b o,b≠X.env.locals->b∈X.fs->b ∉ ch->s.heap.get? b=some o->H b=none->∃sl,h'.get? b=some {o with slots:=sl}) (free:∀b o,b ∉ ch->s.heap.get? b=some o->H b=none->H' b=none)
  (there:∀b o,b ∉ ch->s.heap.get? b=some o->∃o',h'.get? b=some o')
  (tups:∀b xs,H b=some (.tup xs)->H' b=some (.tup xs)) (frzs:∀b o u,H b=some (.bC o u)->H' b=some (.bC o u)) (tbls:∀b ps,H b=some (.cI ps)->∃more,H' b=some (.cI (ps++more)))
  (ns:∀m,s.heap.Ns X.env.locals m->h'.Ns X.env.locals m) (hok:cN X.prog X.w H' h') (hg:Gn s.gens.size g') :
  Inv X pins σ H' {s with heap:=h',gens:=g',drawn:=d',toks:=t'}:=by
 have RL:∀b o,X.s₀.heap.get? b=some o->b≠X.env.locals:=fun b o e=>l5 (l9 (io e) I.ok.above)
 have HG:∀b o,X.s₀.heap.get? b=some o->b ∉ X.ex->b ∉ ch:=fun b o e hx hb=>by
  rcases (pF b hb).1 with z|z
  ·exact hx z
  ·exact absurd (l9 (io e) z) (LH _)
 have cellK:∀x c,X.env.cells.lookup x=some c->∀v,s.heap.IsCell c v->h'.IsCell c v:=fun x c e v ⟨o,ho,hd⟩=>by
  have Cb:c ∉ ch:=fun z=>(pF c z).2.2.1 x c e rfl
  by_cases hc:c∈X.fs
  ·obtain⟨sl,q⟩:=slot c o (I.qO x c e) hc Cb ho (I.freeC x c e);exact⟨_,q,hd⟩
  ·exact⟨o,keep c o (I.qO x c e) hc Cb ho (I.freeC x c e),hd⟩
 refine⟨I.ok,I.os,I.bare.trans hg,⟨fun b o e n hb hx=>?_,fun b o e n hb hx=>?_,fun b o e n hx=>?_,fun b o e hx=>?_,fun b xs e=>tups b xs (I.base.tups b xs e),fun b o xs e=>frzs b o xs (I.base.frzs b o xs e),fun b ps e=>?_⟩,?_,fun x c e=>?_,?_,fun x c e=>?_,fun p hp=>?_,hok,I.len⟩
 ·exact keep b o (RL b o e) hb (HG b o e hx) (I.base.keep b o e n hb hx) (I.base.free b o e n hx)
 ·obtain⟨sl,e1⟩:=I.base.slot b o e n hb hx;obtain⟨RM,e2⟩:=slot b _ (RL b o e) hb (HG b o e hx) e1 (I.base.free b o e n hx);exact⟨RM,e2⟩
 ·obtain⟨o',e1⟩:=I.base.there b o e hx;exact free b o' (HG b o e hx) e1 (I.base.free b o e n hx)
 ·obtain⟨o',e1⟩:=I.base.there b o e hx;exact there b o' (HG b o e hx) e1
 ·obtain⟨m1,e1⟩:=I.base.tbls b ps e;obtain⟨m2,e2⟩:=tbls b _ e1;exact⟨m1++m2,by rw[e2,Array.append_assoc]⟩
 ·obtain⟨m,hn,hl⟩:=I.loc;refine⟨m,ns m hn,fun i x v e1 e2 e3=>?_⟩
  obtain⟨u,r,l⟩:=hl i x v e1 e2 e3;refine⟨u,r,?_⟩;rcases l with l|⟨k,c,e,z⟩
  ·exact .inl l
  ·exact .inr ⟨k,c,e,cellK x c e _ z⟩
 ·obtain⟨v,z⟩:=I.cell x c e;exact⟨v,cellK x c e v z⟩
 ·obtain⟨m,⟨o,_,_,ho,_⟩,_⟩:=I.loc;exact free _ o (fun z=>(pF _ z).2.1 rfl) ho I.free
 ·obtain⟨v,o,ho,hd⟩:=I.cell x c e;exact free c o (fun z=>(pF c z).2.2.1 x c e rfl) ho (I.freeC x c e)
 ·obtain⟨e,n,ne,nf,d⟩:=I.pin p hp;have Cb:p.1 ∉ ch:=fun z=>(pF p.1 z).2.2.2 p hp rfl
  exact⟨keep p.1 p.2 ne nf Cb e n,free p.1 p.2 Cb e n,ne,nf,d⟩
theorem Inv.un {t':Nat}(I:Inv X pins σ H s) (u:Un X.fs [] H H' s.heap h') (hok:cN X.prog X.w H' h'):Inv X pins σ H' {s with heap:=h',toks:=t'}:=by
 obtain⟨m,⟨o,es,ep,ho,r⟩,_⟩:=id I.loc;obtain⟨sl,hL⟩:=u.any ho I.free (by simp)
 exact I.step (g':=s.gens) (d':=s.drawn) (ch:=[]) (fun _ z=>nomatch z) (fun b o _ hb _ e n=>u.keep b o e n hb (by simp)) (fun b o _ hb _ e n=>u.slot b o e n hb (by simp)) (fun b o _ e n=>u.free b o e n (by simp)) (fun b o _ e=>u.there b o e (by simp)) u.tups u.frzs u.tbls (fun m' hm=>by
  obtain⟨o',eU,Lw,eS,r'⟩:=hm;rw[ho]at eS;cases eS;exact⟨_,eU,Lw,hL,r'⟩) hok I.bare.self
theorem Inv.call {g':Array Yt}{t':Nat}{d':Drawn}{ch:List ag}(I:Inv X pins σ H s) (u:Un (dS X.stack) ch H H' s.heap h') (hok:cN X.prog X.w H' h') (hg:Gn s.gens.size g')
  (pF:∀b∈ch,(b∈X.ex\/X.s₀.heap.objs.size<=b)/\b≠X.env.locals/\(∀x c,X.env.cells.lookup x=some c->c≠b)/\∀p∈X.pn++pins,p.1≠b) :
  Inv X pins σ H' {s with heap:=h',gens:=g',drawn:=d',toks:=t'}:=by
 obtain⟨m,⟨o,es,ep,ho,r⟩,_⟩:=id I.loc;obtain⟨sl,hL⟩:=u.any ho I.free fun z=>(pF _ z).2.1 rfl
 exact I.step (ch:=ch) pF (fun b o hL hb hc e n=>u.keep b o e n (fun z=>(l8.mp (I.iC b z)).elim hL hb) hc) (fun b o _ _ hc e n=>u.any e n hc) (fun b o hc e n=>u.free b o e n hc) (fun b o hc e=>u.there b o e hc) u.tups u.frzs u.tbls (fun m' hm=>by
  obtain⟨o',eU,Lw,eS,r'⟩:=hm;rw[ho]at eS;cases eS;exact⟨_,eU,Lw,hL,r'⟩) hok hg
theorem Inv.turned {t':Nat}{it:ag}(I:Inv X pins σ H s) (k:∀b o,b≠it->s.heap.get? b=some o->h'.get? b=some o) (hn:H it=none) (hL:it≠X.env.locals)
  (h1:it∈X.ex\/X.s₀.heap.objs.size<=it) (h2:∀x c,X.env.cells.lookup x=some c->c≠it) (h3:∀p∈X.pn++pins,p.1≠it):Inv X pins σ H {s with heap:=h',toks:=t'}:=by
 have Cd:∀b u,H b=some u->b≠it:=fun b u e z=>by rw[z,hn]at e;cases e
 refine I.step (g':=s.gens) (d':=s.drawn) (ch:=[it]) (fun b hb=>?_) (fun b o _ _ hc e _=>k b o (fun z=>hc (by simp[z])) e) (fun b o _ _ hc e _=>⟨o.slots,k b o (fun z=>hc (by simp[z])) e⟩) (fun _ _ _ _ n=>n)
  (fun b o hc e=>⟨o,k b o (fun z=>hc (by simp[z])) e⟩) (fun _ _ e=>e) (fun _ _ _ e=>e) (fun b ps e=>⟨#[],by rw[e];simp⟩) (fun m hm=>?_) (fun b u e=>?_) I.bare.self
 ·have e:b=it :=by simpa using hb
  subst e;exact⟨h1,hL,h2,h3⟩
 ·obtain⟨o,es,ep,ho,r⟩:=hm;exact⟨o,es,ep,k _ o (wp hL) ho,r⟩
 ·refine(I.hok b u e).bp (fun c v hc q=>k c v ?_ q) (fun _ q=>q) fun _ _ q=>q
  rcases hc with z|z
  ·rw[z];exact Cd b u e
  ·exact Cd c _ z
theorem Inv.tok (I:Inv X pins σ H s) (t:Nat):Inv X pins σ H {s with toks:=t}:=I.un (h':=s.heap) (t':=t) Un.refl I.hok
theorem Inv.kept {t':Nat}(I:Inv X pins σ H s) (k:∀b u,s.heap.get? b=some u->h'.get? b=some u):Inv X pins σ H {s with heap:=h',toks:=t'}:=I.un (Un.kept k) (I.hok.kept k)
theorem Inv.laid {a:ag}{o:HO}{t':Nat}(I:Inv X pins σ H s) (k:∀b u,s.heap.get? b=some u->h'.get? b=some u) (hp:s.heap.objs.size<=a) (new:ObjOk X.prog X.w (upd H a o) h' a o) :
  Inv X pins σ (upd H a o) {s with heap:=h',toks:=t'}:=I.un (Un.laid k hp (I.hok.fresh hp)) (I.hok.laid k hp new)
theorem Inv.write {x e:ag}{o:HO}{t':Nat}(I:Inv X pins σ H s) (mu:B9 (H x)) (he:e=x\/H e=some (.own x)) (k:∀b u,b≠e->s.heap.get? b=some u->h'.get? b=some u) (y0:∃u,h'.get? e=some u)
  (new:ObjOk X.prog X.w (upd H x o) h' x o):Inv X pins σ (upd H x o) {s with heap:=h',toks:=t'}:=I.un (Un.write mu he k y0) (I.hok.write mu he k y0 new)
theorem Inv.sJ {pins':List (ag×lc)}(I:Inv X pins σ H s) (h:∀p∈pins',s.heap.get? p.1=some p.2/\H p.1=none/\p.1≠X.env.locals/\p.1 ∉ X.fs/\∀v,p.2.data≠.cell v):Inv X pins' σ H s:=
 ⟨I.ok,I.os,I.bare,I.base,I.loc,I.cell,I.free,I.freeC,fun p hp=>(EU.mp hp).elim (fun z=>I.pin p (ze _ z)) (h p),I.hok,I.len⟩
theorem vI {N:List bv}(hN:N.Nodup) {i j:Nat}{x:bv}(a:N[i]?=some x) (b:N[j]?=some x):i=j :=by
 obtain⟨h1,e1⟩:=cr.mp a;obtain⟨h2,e2⟩:=cr.mp b;exact(Zz hN).mp (e1.trans e2.symm)
theorem store_ok2 {M:Model}{A:rb}{E:ap->ba->Prop}{i:Nat}{x:bv}{v:V}{u:ap}{Q:Unit->ba->Prop}(I:Inv X pins σ H s) (hN:X.N.Nodup) (hi:X.N[i]?=some x) (hx:Loc X.env.scope x) (r:RelV v u)
  (h:∀s',Inv X pins (σ.set i (some v)) H s'->(∃a,zn a s.heap s'.heap/\(a=X.env.locals\/X.env.cells.lookup x=some a))->Q () s') (hf:X.fn x=true\/X.env.scope.names.lookup x=some .local :=by first|exact .inl rfl|exact .inr rfl|assumption):wpAny M A (storeName X.env x u) Q E s :=by
 obtain⟨m,hn,hl⟩:=id I.loc;have Tc:(X.env.scope.kind==.class || (X.env.scope.kind==.module && X.env.locals != X.env.globals))=false :=by rw[I.ok.kind];rfl
 have Lx:i<σ.length :=by rw[I.len];exact(cr.mp hi).1
 have qO:=I.qO;have tracked:∀{a:ag} {h':ii},(∃o,s.heap.get? a=some o/\H a=none)->zn a s.heap h'->cN X.prog X.w H h':=fun {a h'} ha hs b ob e=>by
  obtain⟨_,_,i7⟩:=ha;refine(I.hok b ob e).bp (fun c w' hc q=>(hs.2 c ?_).trans q) (fun _ q=>q) fun _ _ q=>q
  rintro rfl;rcases hc with rfl|hc
  ·rw[i7]at e;cases e
  ·rw[i7]at hc;cases hc
 rcases hx with hk|hk
 ·refine wpAny_storeName_local hk hn (fun h' qP hs=>?_) Tc
  obtain⟨oL,_,_,qQ,_⟩:=id hn;refine h _ ⟨I.ok,I.os,I.bare,⟨fun b o e n hb hx=>?_,fun b o e n hb hx=>?_,I.base.free,fun b o e hx=>?_,I.base.tups,I.base.frzs,I.base.tbls⟩,⟨_,qP,fun j y v' e1 e2 e3=>?_⟩,fun y c e=>?_,I.free,I.freeC,fun p hp=>?_,tracked ⟨oL,qQ,I.free⟩ hs,by simpa using I.len⟩ ⟨_,hs,.inl rfl⟩
  ·exact(hs.2 b (l5 (l9 (io e) I.ok.above))).trans (I.base.keep b o e n hb hx)
  ·obtain⟨sl,e1⟩:=I.base.slot b o e n hb hx;exact⟨sl,(hs.2 b (l5 (l9 (io e) I.ok.above))).trans e1⟩
  ·obtain⟨o',e1⟩:=I.base.there b o e hx;exact⟨o',(hs.2 b (l5 (l9 (io e) I.ok.above))).trans e1⟩
  ·by_cases hj:j=i
   ·subst hj;rw[hi]at e1;cases e1;rw[WS Lx]at e2;cases e2;exact⟨u,r,.inl ⟨hk,by simp⟩⟩
   ·rw[YG (wp hj)]at e2;obtain⟨u',r',q⟩:=hl j y v' e1 e2 e3;refine⟨u',r',?_⟩;rcases q with ⟨k,e⟩|⟨k,c,e,z⟩
    ·refine .inl ⟨k,?_⟩;have:y≠x:=fun e=>hj (vI hN e1 (e▸hi))
     simp[this,e]
    ·exact .inr ⟨k,c,e,z.sameBut hs (qO y c e)⟩
  ·obtain⟨w',z⟩:=I.cell y c e;exact⟨w',z.sameBut hs (qO y c e)⟩
  ·obtain⟨e,n,ne,nf,d⟩:=I.pin p hp;exact⟨(hs.2 p.1 ne).trans e,n,ne,nf,d⟩
 ·have qR:X.fn x=true :=by
   rcases hf with z|z
   ·exact z
   ·rw[z]at hk;cases hk
  obtain⟨c,hc⟩:=I.ok.has x (.inl hk);obtain⟨w',z⟩:=I.cell x c hc;refine wpAny_storeName_cell I.ok.kind hk hc z (fun h' HH hs=>?_)
  obtain⟨oc,t6,Td⟩:=id z;refine h {s with heap:=h'} ⟨I.ok,I.os,I.bare,⟨fun b o e n hb hx=>?_,fun b o e n hb hx=>?_,I.base.free,fun b o e hx=>?_,I.base.tups,I.base.frzs,I.base.tbls⟩,⟨m,hn.sameBut hs (wp (qO x c hc)),fun j y v' e1 e2 e3=>?_⟩,fun y c' e=>?_,I.free,I.freeC,fun p hp=>?_,tracked ⟨oc,t6,I.freeC x c hc⟩ hs,by simpa using I.len⟩ ⟨c,hs,.inr hc⟩
  ·exact(hs.2 b (l5 (l9 (io e) (I.ok.cab x c qR hc)))).trans (I.base.keep b o e n hb hx)
  ·obtain⟨sl,e1⟩:=I.base.slot b o e n hb hx;exact⟨sl,(hs.2 b (l5 (l9 (io e) (I.ok.cab x c qR hc)))).trans e1⟩
  ·obtain⟨o',e1⟩:=I.base.there b o e hx;exact⟨o',(hs.2 b (l5 (l9 (io e) (I.ok.cab x c qR hc)))).trans e1⟩
  ·by_cases hj:j=i
   ·subst hj;rw[hi]at e1;cases e1;rw[WS Lx]at e2;cases e2;exact⟨u,r,.inr ⟨.inl hk,c,hc,HH⟩⟩
   ·rw[YG (wp hj)]at e2;obtain⟨u',r',q⟩:=hl j y v' e1 e2 e3;refine⟨u',r',?_⟩;rcases q with q|⟨k,c',e,z'⟩
    ·exact .inl q
    ·refine .inr ⟨k,c',e,z'.sameBut hs ?_⟩;rintro rfl;exact hj (vI hN e1 (I.ok.inj _ _ _ e hc▸hi))
  ·by_cases RN:c'=c
   ·subst RN;exact⟨_,HH⟩
   ·obtain⟨w2,z2⟩:=I.cell y c' e;exact⟨w2,z2.sameBut hs RN⟩
  ·obtain⟨e,n,ne,nf,d⟩:=I.pin p hp;refine⟨(hs.2 p.1 ?_).trans e,n,ne,nf,d⟩;intro q;rw[q,t6]at e;have q':oc=p.2:=l7 e;exact d w' (by rw[<- q'];exact Td)
theorem jx {M:Model}{A:rb}{E:ap->ba->Prop}{i:Nat}{x:bv}{v:V}{u:ap}{Q:Unit->ba->Prop}(I:Inv X pins σ H s) (hN:X.N.Nodup) (hi:X.N[i]?=some x) (hx:Loc X.env.scope x) (r:RelV v u)
  (h:∀s',Inv X pins (σ.set i (some v)) H s'->Q () s') (hf:X.fn x=true\/X.env.scope.names.lookup x=some .local :=by first|exact .inl rfl|exact .inr rfl|assumption):wpAny M A (storeName X.env x u) Q E s:=
 store_ok2 I hN hi hx r (fun s' I' _=>h s' I') hf
theorem Inv.vp {s':ba}{ch:List ag}(I:Inv X pins σ H s) (ho:s'.os=s.os) (u:Un (dS X.stack) ch H H' s.heap s'.heap) (hok:cN X.prog X.w H' s'.heap) (hg:Gn s.gens.size s'.gens)
  (pF:∀b∈ch,(b∈X.ex\/X.s₀.heap.objs.size<=b)/\b≠X.env.locals/\(∀x c,X.env.cells.lookup x=some c->c≠b)/\∀p∈X.pn++pins,p.1≠b):Inv X pins σ H' s':=by
 obtain⟨h',g',d',t',o'⟩:=s';have e:o'=s.os:=ho;subst e;exact I.call (g':=g') (t':=t') (d':=d') u hok hg pF
end
abbrev XK:=ap->Option ag->Hp->Prop
abbrev St:=List (Option V)
abbrev VK:=V->Hp->Prop
abbrev TE:=St->Hp->VK->Prop
abbrev TT:=St->Hp->(Bool->Hp->Prop)->Prop
abbrev TA:=St->Hp->(List V->Hp->Prop)->Prop
structure Ends where
 nx:St->Hp->Prop
 rt:VK
 bk:St->Hp->Prop:=fun _ _=>False
 ct:St->Hp->Prop:=fun _ _=>False
abbrev TS:=Ends->St->Hp->Prop
def EP (X:Cx) (pins:List (ag×lc)) (σ:St) (Q:VK) (u:ap) (s':ba):Prop:=∃v H',Inv X pins σ H' s'/\RelV v u/\Q v H'
def TP (X:Cx) (pins:List (ag×lc)) (σ:St) (Q:Bool->Hp->Prop) (b:Bool) (s':ba):Prop:=∃H',Inv X pins σ H' s'/\Q b H'
def AP (X:Cx) (pins:List (ag×lc)) (σ:St) (Q:List V->Hp->Prop) (us:List ap) (s':ba):Prop:=∃vs H',Inv X pins σ H' s'/\Vals vs us/\Q vs H'
def SP (X:Cx) (pins:List (ag×lc)) (D:Ends) (f:Flow) (s':ba):Prop:=
 match f with
 | .next=>∃aF H',Inv X pins aF H' s'/\D.nx aF H'
 | .brk=>∃aF H',Inv X pins aF H' s'/\D.bk aF H'
 | .cont=>∃aF H',Inv X pins aF H' s'/\D.ct aF H'
 | .ret u=>∃v aF H',Inv X pins aF H' s'/\RelV v u/\D.rt v H'
structure PE (X:Cx) (e:dL) (t:TE):Prop where
 run:∀(pins:List (ag×lc)) (s:ba) (σ:St) (H:Hp) (Q:VK),Inv X pins σ H s->t σ H Q->wpAny (model X.prog X.w) X.A (eval e X.env) (EP X pins σ Q) X.xe s
instance {X:Cx} {e:dL} {t:TE}:CoeFun (PE X e t) (fun _=>∀(pins:List (ag×lc)) (s:ba) (σ:St) (H:Hp) (Q:VK),Inv X pins σ H s->t σ H Q->wpAny (model X.prog X.w) X.A (eval e X.env) (EP X pins σ Q) X.xe s):=⟨PE.run⟩
structure PT (X:Cx) (e:dL) (t:TT):Prop where
 run:∀(pins:List (ag×lc)) (s:ba) (σ:St) (H:Hp) (Q:Bool->Hp->Prop),Inv X pins σ H s->t σ H Q->wpAny (model X.prog X.w) X.A (isTrue e X.env (eval e X.env)) (TP X pins σ Q) X.xe s
instance {X:Cx} {e:dL} {t:TT}:CoeFun (PT X e t) (fun _=>∀(pins:List (ag×lc)) (s:ba) (σ:St) (H:Hp) (Q:Bool->Hp->Prop),Inv X pins σ H s->t σ H Q->wpAny (model X.prog X.w) X.A (isTrue e X.env (eval e X.env)) (TP X pins σ Q) X.xe s):=⟨PT.run⟩
def PW (X:Cx) (e:dL) (t:TT):Prop:=
 ∀(whole:Zp ap) (pins:List (ag×lc)) (s:ba) (σ:St) (H:Hp) (Q:Bool->Hp->Prop),Inv X pins σ H s->t σ H Q->wpAny (model X.prog X.w) X.A (isTrue e X.env whole) (TP X pins σ Q) X.xe s
theorem PW.pt {X:Cx}{e:dL}{t:TT}(h:PW X e t):PT X e t:=⟨h _⟩
structure PA (X:Cx) (es:List dL) (t:TA):Prop where
 run:∀(pos:ww) (pins:List (ag×lc)) (s:ba) (σ:St) (H:Hp) (Q:List V->Hp->Prop),Inv X pins σ H s->t σ H Q->wpAny (model X.prog X.w) X.A (spliced (backTo pos (starEach es X.env))) (AP X pins σ Q) X.xe s
instance {X:Cx} {es:List dL} {t:TA}:CoeFun (PA X es t) (fun _=>∀(pos:ww) (pins:List (ag×lc)) (s:ba) (σ:St) (H:Hp) (Q:List V->Hp->Prop),Inv X pins σ H s->t σ H Q->wpAny (model X.prog X.w) X.A (spliced (backTo pos (starEach es X.env))) (AP X pins σ Q) X.xe s):=⟨PA.run⟩
structure PS (X:Cx) (st:ut) (t:TS):Prop where
 run:∀(pins:List (ag×lc)) (s:ba) (σ:St) (H:Hp) (D:Ends),Inv X pins σ H s->t D σ H->wpAny (model X.prog X.w) X.A (exec st X.env) (SP X pins D) X.xe s
instance {X:Cx} {st:ut} {t:TS}:CoeFun (PS X st t) (fun _=>∀(pins:List (ag×lc)) (s:ba) (σ:St) (H:Hp) (D:Ends),Inv X pins σ H s->t D σ H->wpAny (model X.prog X.w) X.A (exec st X.env) (SP X pins D) X.xe s):=⟨PS.run⟩
structure eZ (X:Cx) (st:List ut) (t:TS):Prop where
 run:∀(pins:List (ag×lc)) (s:ba) (σ:St) (H:Hp) (D:Ends),Inv X pins σ H s->t D σ H->wpAny (model X.prog X.w) X.A (execs st X.env) (SP X pins D) X.xe s
instance {X:Cx} {st:List ut} {t:TS}:CoeFun (eZ X st t) (fun _=>∀(pins:List (ag×lc)) (s:ba) (σ:St) (H:Hp) (D:Ends),Inv X pins σ H s->t D σ H->wpAny (model X.prog X.w) X.A (execs st X.env) (SP X pins D) X.xe s):=⟨eZ.run⟩
theorem thn {α:Type}{t:Zp α}{Q Q':α->ba->Prop}{M:Model}{A:rb}{E:ap->ba->Prop}{s:ba}(h:wpAny M A t Q E s) (hQ:∀a s,Q a s->Q' a s):wpAny M A t Q' E s:=on h hQ fun _ _ x=>x
section
variable {X:Cx}
theorem bin {a b:dL}{ta tb:TE}(ha:PE X a ta) (hb:PE X b tb) {pins:List (ag×lc)}{s:ba}{σ:St}{H:Hp}{R:V->V->Hp->Prop}(I:Inv X pins σ H s) (h:ta σ H fun x H1=>tb σ H1 fun y H2=>R x y H2)
  {α:Type} {Q:α->ba->Prop} {f:ap->ap->Zp α}
  (hf:∀v u s2 x y H2,Inv X pins σ H2 s2->RelV x v->RelV y u->R x y H2->wpAny (model X.prog X.w) X.A (f v u) Q X.xe s2) :
  wpAny (model X.prog X.w) X.A (eval a X.env) (fun v aw=>wpAny (model X.prog X.w) X.A (eval b X.env) (fun u e8=>wpAny (model X.prog X.w) X.A (f v u) Q X.xe e8) X.xe aw) X.xe s :=by
 refine thn (ha pins s σ H _ I h) fun v s1 ⟨x,H1,I1,r1,q1⟩=>?_
 refine thn (hb pins s1 σ H1 _ I1 q1) fun u s2 ⟨y,H2,I2,r2,q2⟩=>?_
 exact hf v u s2 x y H2 I2 r1 r2 q2
def Ly (i:Nat):TE:=fun σ H Q=>∃v,σ[i]?=some (some v)/\Q v H
def tC (v:V):TE:=fun _ H Q=>Q v H
theorem vJ {i:Nat}{x:bv}{pos:ww}(hN:X.N[i]?=some x) (hv:pE X.env.scope x) (hd:(x==("__debug__" : bv))=false :=by decide) (dI:(x==("__classdict__" : bv))=false :=by decide):PE X (.Name x pos) (Ly i) :=by
 refine⟨?_⟩;intro pins s σ H Q I h;obtain⟨v,e,h⟩:=h;obtain⟨m,hn,hl⟩:=I.loc;obtain⟨u,r,l⟩:=hl i x v hN e hv;have fin:EP X pins σ Q u s:=⟨v,H,I,r,h⟩;rcases l with ⟨hk,hm⟩|⟨hk,c,hc,oH⟩
 ·exact wpAny_Name (wpAny_loadName_local I.ok.kind hk hn hm fin) hd
 ·rcases hk with hk|hk
  ·exact wpAny_Name (wpAny_loadName_cell I.ok.kind hk hc oH fin) hd
  ·exact wpAny_Name (wpAny_loadName_free I.ok.kind hk hc oH fin dI) hd
theorem Lz {i j pos}:PE X (.Constant (.int i) j pos) (tC (.int i)):=⟨fun _ _ _ H _ I h=>wpAny_Constant_int ⟨.int i,H,I.tok _,⟨_,rfl⟩,h⟩⟩
theorem Qf {b j pos}:PE X (.Constant (.bool b) j pos) (tC (.bl b)):=⟨fun _ _ _ H _ I h=>Constant_bool ⟨.bl b,H,I,rfl,h⟩⟩
theorem LA {x j pos}:PE X (.Constant (.str x) j pos) (tC (.str x)):=⟨fun _ _ _ H _ I h=>Calls.Constant_str ⟨.str x,H,I.tok _,⟨_,rfl⟩,h⟩⟩
def Gl (X:Cx) (x:bv):Prop:=X.env.kindOf x=some .globalImplicit
theorem jl {E:ap->ba->Prop}{pins:List (ag×lc)}{s:ba}{σ:St}{H:Hp}{x:bv}{u:ap}{pos:ww}{Q:ap->ba->Prop}(I:Inv X pins σ H s) (hg:Gl X x) (hm:X.mg x=some u) (h:Q u s)
  (hd:(x==("__debug__" : bv))=false :=by decide):wpAny (model X.prog X.w) X.A (eval (.Name x pos) X.env) Q E s:=
 Calls.Name_function_global I.ok.kind hg (Calls.loadGlobal_global (by rw[I.ok.glob];exact I.mod.glob.keeps I.bk) hm h) hd
theorem fI {E:ap->ba->Prop}{pins:List (ag×lc)}{s:ba}{σ:St}{H:Hp}{x:bv}{u:ap}{pos:ww}{Q:ap->ba->Prop}(I:Inv X pins σ H s) (hg:Gl X x) (hm:X.mg x=none) (hv:bootBuiltins x=some u) (h:Q u s)
  (hn:x ≠ "__name__" := by decide) (hd:(x==("__debug__" : bv))=false :=by decide):wpAny (model X.prog X.w) X.A (eval (.Name x pos) X.env) Q E s :=by
 obtain⟨mb,h1,h2⟩:=I.mod.blt;exact Calls.Name_function_global I.ok.kind hg (Calls.loadGlobal_builtin (by rw[I.ok.glob];exact I.mod.glob.keeps I.bk) hm (by rw[I.ok.blt];exact h1.keeps I.bk) ((h2 x hn).trans hv) h) hd
theorem sL {x:bv}{v:V}{u:ap}{pos:ww}(hg:Gl X x) (hm:X.mg x=some u) (r:RelV v u) (hd:(x==("__debug__" : bv))=false :=by decide):PE X (.Name x pos) (tC v):=⟨fun _ _ _ H _ I h=>jl I hg hm ⟨v,H,I,r,h⟩ hd⟩
theorem Jq {x:bv}{v:V}{u:ap}{pos:ww}(hg:Gl X x) (hm:X.mg x=none) (hv:bootBuiltins x=some u) (r:RelV v u) (hn:x ≠ "__name__" := by decide) (hd:(x==("__debug__" : bv))=false :=by decide):PE X (.Name x pos) (tC v):=⟨fun _ _ _ H _ I h=>fI I hg hm hv ⟨v,H,I,r,h⟩ hn hd⟩
variable {a b:dL}{ta tb:TE}{pos:ww}
def PC (X:Cx) (op:XJ) (a b:dL) (t:TE):Prop:=
 ∀(pins:List (ag×lc)) (s:ba) (σ:St) (H:Hp) (Q:VK),Inv X pins σ H s->t σ H Q->
  wpAny (model X.prog X.w) X.A (eval a X.env) (fun v aw=>wpAny (model X.prog X.w) X.A (eval b X.env) (fun u e8=>wpAny (model X.prog X.w) X.A (compareOp op v u) (EP X pins σ Q) X.xe e8) X.xe aw) X.xe s
theorem Fu (b:dL) {op:XJ}(h:op≠.In) (h2:op≠.NotIn):behindInMarks op b=false :=by
 have e1:(op==XJ.In)=false :=by cases op<;>first|rfl|exact absurd rfl h
 have e2:(op==XJ.NotIn)=false :=by cases op<;>first|rfl|exact absurd rfl h2
 cases b<;>simp[behindInMarks,e1,e2]
def tB (t:TE):TT:=fun σ H Q=>t σ H fun x H1=>∃c,x=.bl c/\Q c H1
theorem UI {op:XJ}{t:TE}(h:PC X op a b t) (h1:behindInMarks op b=false :=by first|exact Fu _ (by decide) (by decide)|rfl):PT X (.Compare a [op] [b] pos) (tB t) :=by
 refine⟨?_⟩;intro pins s σ H Q I hw;refine wpAny_isTrue_Compare1 (thn (h pins s σ H _ I hw) fun v s1 h1=>thn h1 fun u s2 h2=>thn h2 fun c s3 ⟨x,H1,I1,r1,q1⟩=>?_) h1
 obtain⟨d,rfl,q⟩:=q1;cases r1;exact Db ⟨H1,I1,q⟩
theorem LC {e:dL}{t:TE}(h:PE X e t) (he:∀whole,isTrue e X.env whole=(do let v <- whole;standAt e.pos;holding [v] (truthy v)) :=by intro _;rfl):PT X e (tB t) :=by
 refine⟨?_⟩;intro pins s σ H Q I hw;refine isTrue_plain (thn (h pins s σ H _ I hw) fun v s1 ⟨x,H1,I1,r1,q1⟩=>?_) (he _)
 obtain⟨d,rfl,q⟩:=q1;cases r1;exact Db ⟨H1,I1,q⟩
variable {tA qS:TT}{rest:List dL}
def Te (t u:TT):TT:=fun σ H Q=>t σ H fun c H1=>if c=true then u σ H1 Q else Q false H1
def UJ (t u:TT):TT:=fun σ H Q=>t σ H fun c H1=>if c=true then Q true H1 else u σ H1 Q
def Tf (t:TT):TT:=fun σ H Q=>t σ H fun c H1=>Q (!c) H1
theorem Jr (ha:PT X a tA):PW X (.BoolOp .And [a] pos) tA :=by
 intro wh pins s σ H Q I h;refine isTrue_and (thn (ha pins s σ H Q I h) fun c s1 e=>?_)
 cases c with
 |true=>exact isTrue_and_nil e
 |false=>exact e
theorem LD (ha:PT X a tA):PW X (.BoolOp .Or [a] pos) tA :=by
 intro wh pins s σ H Q I h;refine isTrue_or (thn (ha pins s σ H Q I h) fun c s1 e=>?_)
 cases c with
 |false=>exact isTrue_or_nil e
 |true=>exact e
theorem LI (ha:PT X a tA) (hb:PW X (.BoolOp .And (b::rest) pos) qS):PW X (.BoolOp .And (a::b::rest) pos) (Te tA qS) :=by
 intro wh pins s σ H Q I h;refine isTrue_and (thn (ha pins s σ H _ I h) fun c s1 ⟨H1,I1,q1⟩=>?_)
 cases c with
 |true=>exact hb wh pins s1 σ H1 Q I1 q1
 |false=>exact⟨H1,I1,q1⟩
theorem Qg (ha:PT X a tA) (hb:PW X (.BoolOp .Or (b::rest) pos) qS):PW X (.BoolOp .Or (a::b::rest) pos) (UJ tA qS) :=by
 intro wh pins s σ H Q I h;refine isTrue_or (thn (ha pins s σ H _ I h) fun c s1 ⟨H1,I1,q1⟩=>?_)
 cases c with
 |true=>exact⟨H1,I1,q1⟩
 |false=>exact hb wh pins s1 σ H1 Q I1 q1
theorem LJ (ha:PT X a tA):PT X (.UnaryOp .Not a pos) (Tf tA) :=by
 refine⟨?_⟩;intro pins s σ H Q I h;exact isTrue_not (ha pins s σ H (fun c H1=>Q (!c) H1) I h)
def Qh (ta tb:TE):TE:=fun σ H Q=>ta σ H fun x H1=>∃c,x=.bl c/\if c=true then tb σ H1 Q else Q (.bl false) H1
def Th (ta tb:TE):TE:=fun σ H Q=>ta σ H fun x H1=>∃c,x=.bl c/\if c=true then Q (.bl true) H1 else tb σ H1 Q
def Qi (ta:TE):TE:=fun σ H Q=>ta σ H fun x H1=>∃c,x=.bl c/\Q (.bl (!c)) H1
theorem LK {op}{t:TE}(h:PE X a t):PE X (.BoolOp op [a] pos) t:=⟨fun pins s σ H Q I hw=>BoolOp_one (h pins s σ H Q I hw)⟩
theorem LL (ha:PE X a ta) (hb:PE X (.BoolOp .And (b::rest) pos) tb):PE X (.BoolOp .And (a::b::rest) pos) (Qh ta tb) :=by
 refine⟨?_⟩;intro pins s σ H Q I h;refine BoolOp_and (thn (ha pins s σ H _ I h) fun v s1 ⟨x,H1,I1,r1,q1⟩=>?_)
 obtain⟨c,rfl,q1⟩:=q1;cases r1;refine Db ?_;cases c with
 |true=>exact hb pins s1 σ H1 Q I1 q1
 |false=>exact⟨.bl false,H1,I1,rfl,q1⟩
theorem Qj (ha:PE X a ta) (hb:PE X (.BoolOp .Or (b::rest) pos) tb):PE X (.BoolOp .Or (a::b::rest) pos) (Th ta tb) :=by
 refine⟨?_⟩;intro pins s σ H Q I h;refine BoolOp_or (thn (ha pins s σ H _ I h) fun v s1 ⟨x,H1,I1,r1,q1⟩=>?_)
 obtain⟨c,rfl,q1⟩:=q1;cases r1;refine Db ?_;cases c with
 |false=>exact hb pins s1 σ H1 Q I1 q1
 |true=>exact⟨.bl true,H1,I1,rfl,q1⟩
theorem LN (ha:PE X a ta):PE X (.UnaryOp .Not a pos) (Qi ta) :=by
 refine⟨?_⟩;intro pins s σ H Q I h;refine UnaryOp_ (thn (ha pins s σ H _ I h) fun v s1 ⟨x,H1,I1,r1,q1⟩=>?_)
 obtain⟨c,rfl,q1⟩:=q1;cases r1;exact not_of (Db ⟨.bl (!c),H1,I1,rfl,q1⟩)
def UK (t:TT) (ta tb:TE):TE:=fun σ H Q=>t σ H fun c H1=>if c=true then ta σ H1 Q else tb σ H1 Q
theorem Fv {c:dL}(hc:PT X c tA) (ha:PE X a ta) (hb:PE X b tb):PE X (.IfExp c a b pos) (UK tA ta tb) :=by
 refine⟨?_⟩;intro pins s σ H Q I h;refine wpAny_IfExp (thn (hc pins s σ H _ I h) fun d s1 ⟨H1,I1,q1⟩=>?_)
 cases d with
 |true=>exact ha pins s1 σ H1 Q I1 q1
 |false=>exact hb pins s1 σ H1 Q I1 q1
end
def bL (K:bn) (H:Hp) (a:ag) (xs:List V):Prop:=
 Rd H a (.lst xs) \/
  ∃(o:lc) (its:Array ap) (n:Nat),K.lookup a=some o/\o.cls=.type "list" /\ o.dict=none/\o.data=.seq its n/\its.size<=sizeLine/\Vals xs its.toList
def bW (K:bn) (H:Hp) (a:ag) (xs:List V):Prop:=
 Rd H a (.tup xs) \/
  ∃(o:lc) (its:Array ap) (n:Nat),K.lookup a=some o/\o.cls=.type "tuple" /\ o.data=.seq its n/\its.size<=sizeLine/\Vals xs its.toList
def Ti:ap->Option V
 | .none=>some .ao
 | .bool b=>some (.bl b)
 | .int i _=>some (.int i)
 | .str x _=>some (.str x)
 | .bytes b _=>some (.ju b)
 | .float b _=>some (.yX b)
 | .ref a=>some (.ref a)
 | .type n=>some (.ty n)
 |_=>none
theorem RelV.abs {x:V}{u:ap}(r:RelV x u):Ti u=some x :=by
 cases x with
 |ao=>cases r;rfl
 |bl _=>cases r;rfl
 |int _=>obtain⟨t,rfl⟩:=r;rfl
 |str _=>obtain⟨t,rfl⟩:=r;rfl
 |ju _=>obtain⟨t,rfl⟩:=r;rfl
 |yX _=>obtain⟨t,rfl⟩:=r;rfl
 |ref _=>cases r;rfl
 |ty _=>cases r;rfl
theorem RelV.inj {x y:V}{u:ap}(r:RelV x u) (q:RelV y u):x=y:=l7 (r.abs.symm.trans q.abs)
theorem Vals.inj:∀{xs ys:List V}{us:List ap},Vals xs us->Vals ys us->xs=ys
 |_,_,_,.nil,.nil=>rfl
 |_,_,_,.cons r t,.cons r' t'=>by rw[r.inj r',Vals.inj t t']
section
variable {X:Cx}{pins:List (ag×lc)}{σ:St}{H:Hp}{s:ba}{a:ag}{xs ys:List V}
theorem bL.of {K:bn}(h:H a=some (.lst xs)):bL K H a xs:=.inl (.inl h)
theorem bW.of {K:bn}(h:H a=some (.tup xs)):bW K H a xs:=.inl (.inl h)
theorem Inv.list (I:Inv X pins σ H s) (h:bL X.K H a xs):∃its:List ap,Vals xs its/\PlainL s.heap a its.toArray/\xs.length<=sizeLine :=by
 rcases h with h|⟨o,its,n,hk,hc,hd,hs,hz,r⟩
 ·obtain⟨z,its,n,r,e⟩:=h.ok I.hok;exact⟨its,r,⟨_,n,e,rfl,rfl,rfl⟩,z⟩
 ·refine⟨its.toList,r,⟨o,n,I.ez a o hk,hc,hd,by simpa using hs⟩,?_⟩
  have e:=r.length;simp only[jp]at e;omega
theorem Inv.tuple (I:Inv X pins σ H s) (h:bW X.K H a xs):∃its:List ap,Vals xs its/\Z8 s.heap a its.toArray/\xs.length<=sizeLine :=by
 rcases h with h|⟨o,its,n,hk,hc,hs,hz,r⟩
 ·obtain⟨z,its,r,p⟩:=h.ok I.hok;exact⟨its,r,iM.tup p,z⟩
 ·refine⟨its.toList,r,⟨o,I.ez a o hk,hc,n,by simpa using hs⟩,?_⟩
  have e:=r.length;simp only[jp]at e;omega
theorem Inv.vK (I:Inv X pins σ H s) (h:bL X.K H a xs) (h':bL X.K H a ys):xs=ys :=by
 obtain⟨its,r,⟨o,n,e,_,_,d⟩,_⟩:=I.list h;obtain⟨its',r',⟨o',n',e',_,_,d'⟩,_⟩:=I.list h';rw[e]at e';cases e';rw[d]at d';injection d' with d1 _
 have:its=its':=by simpa using congrArg Array.toList d1
 subst this;exact r.inj r'
theorem Inv.t7 (I:Inv X pins σ H s) (h:bW X.K H a xs) (h':bW X.K H a ys):xs=ys :=by
 obtain⟨its,r,⟨o,e,_,n,d⟩,_⟩:=I.tuple h;obtain⟨its',r',⟨o',e',_,n',d'⟩,_⟩:=I.tuple h';rw[e]at e';cases e';rw[d]at d';injection d' with d1 _
 have:its=its':=by simpa using congrArg Array.toList d1
 subst this;exact r.inj r'
end
abbrev Cx.iN (X:Cx) (E:ap->ba->Prop):Cx:={X with xe:=E}
abbrev Cx.iD (X:Cx):Cx:=X.iN fun _ _=>False
theorem Cx.Ok.iN {X:Cx}(ok:X.Ok) (E:ap->ba->Prop):(X.iN E).Ok:=
 ⟨ok.mod,ok.kind,ok.glob,ok.blt,ok.above,ok.inj,ok.has,ok.cab,ok.hd,ok.frames,ok.stk,ok.exf,ok.bs,ok.bsz,ok.noex,ok.exfs,ok.funs,ok.frf⟩
theorem Cx.Ok.fJ {X:Cx}{E:ap->ba->Prop}(ok:(X.iN E).Ok):X.Ok:=
 ⟨ok.mod,ok.kind,ok.glob,ok.blt,ok.above,ok.inj,ok.has,ok.cab,ok.hd,ok.frames,ok.stk,ok.exf,ok.bs,ok.bsz,ok.noex,ok.exfs,ok.funs,ok.frf⟩
section
variable {X:Cx}{pins:List (ag×lc)}{σ:St}{H:Hp}{s:ba}{E:ap->ba->Prop}
theorem Inv.iN (I:Inv X pins σ H s) (E:ap->ba->Prop):Inv (X.iN E) pins σ H s:=⟨I.ok.iN E,I.os,I.bare,I.base,I.loc,I.cell,I.free,I.freeC,I.pin,I.hok,I.len⟩
theorem Inv.fJ (I:Inv (X.iN E) pins σ H s):Inv X pins σ H s:=⟨I.ok.fJ,I.os,I.bare,I.base,I.loc,I.cell,I.free,I.freeC,I.pin,I.hok,I.len⟩
theorem SP.fJ {D:Ends}{f:Flow}{s':ba}(h:SP (X.iN E) pins D f s'):SP X pins D f s':=by
 cases f with
 |next=>obtain⟨aF,H',I,q⟩:=h;exact⟨aF,H',I.fJ,q⟩
 |brk=>obtain⟨aF,H',I,q⟩:=h;exact⟨aF,H',I.fJ,q⟩
 |cont=>obtain⟨aF,H',I,q⟩:=h;exact⟨aF,H',I.fJ,q⟩
 |ret u=>obtain⟨v,aF,H',I,r,q⟩:=h;exact⟨v,aF,H',I.fJ,r,q⟩
theorem PE.iD {e:dL}{t:TE}(h:PE X.iD e t):PE X e t:=⟨fun pins s σ H Q I hw=>
 on (h pins s σ H Q (I.iN _) hw) (fun _ _ ⟨v,H',I',r,q⟩=>⟨v,H',I'.fJ,r,q⟩) fun _ _ z=>DO z⟩
theorem eZ.iD {st:List ut}{t:TS}(h:eZ X.iD st t):eZ X st t:=⟨fun pins s σ H D I hw=>
 on (h pins s σ H D (I.iN _) hw) (fun _ _ q=>q.fJ) fun _ _ z=>DO z⟩
end
section
variable {X:Cx}{st:ut}{rest:List ut}{t u:TS}{e:dL}{te:TE}{pos:ww}
def Qk:TS:=fun D σ H=>D.nx σ H
def Tj (t u:TS):TS:=fun D σ H=>t {D with nx:=u D} σ H
theorem Js:eZ X [] Qk:=⟨fun _ _ σ H _ I h=>YH ⟨σ,H,I,h⟩⟩
theorem Fw (h1:PS X st t) (h2:eZ X rest u):eZ X (st::rest) (Tj t u) :=by
 refine⟨?_⟩;intro pins s σ H D I h;refine wpAny_execs_cons (thn (h1 pins s σ H {D with nx:=u D} I h) fun f s1 q=>?_)
 cases f with
 |next=>
  obtain⟨aF,H',I',q⟩:=q;exact h2 pins s1 aF H' D I' q
 |ret v=>exact q
 |brk=>exact q
 |cont=>exact q
theorem y1 (h1:PS X st t):eZ X [st] t :=by
 refine⟨?_⟩;intro pins s σ H D I h;refine wpAny_execs_cons (thn (h1 pins s σ H D I h) fun f s1 q=>?_)
 cases f with
 |next=>exact YH q
 |ret v=>exact q
 |brk=>exact q
 |cont=>exact q
theorem Inv.quiet {pins:List (ag×lc)}{σ:St}{H:Hp}{s:ba}(I:Inv X pins σ H s):interactive X.env=false :=by simp[interactive,I.ok.kind]
def Ql (te:TE):TS:=fun D σ H=>te σ H fun _ H1=>D.nx σ H1
theorem y2 (he:PE X e te) (hs:swapsWith e none pos.line X.env=pure false :=by rfl):PS X (.Expr e pos) (Ql te) :=by
 refine⟨?_⟩;intro pins s σ H D I h;exact wpAny_Expr_any (thn (he pins s σ H _ I h) fun v s1 ⟨x,H1,I1,r1,q1⟩=>⟨σ,H1,I1,q1⟩) I.quiet hs
def Tn (te:TE):TS:=fun D σ H=>te σ H D.rt
theorem LO (he:PE X e te):PS X (.Return (some e) pos) (Tn te) :=by
 refine⟨?_⟩;intro pins s σ H D I h;exact wpAny_Return_some (thn (he pins s σ H _ I h) fun v s1 ⟨x,H1,I1,r1,q1⟩=>⟨x,σ,H1,I1,r1,q1⟩)
def To (c:TT) (t u:TS):TS:=fun D σ H=>c σ H fun b H1=>if b=true then t D σ H1 else u D σ H1
theorem Qm {c:dL}{a b:List ut}{tc:TT}(hc:PT X c tc) (ha:eZ X a t) (hb:eZ X b u):PS X (.If c a b pos) (To tc t u) :=by
 refine⟨?_⟩;intro pins s σ H D I h;refine wpAny_If (thn (hc pins s σ H _ I h) fun d s1 ⟨H1,I1,q1⟩=>?_)
 cases d with
 |true=>exact ha pins s1 σ H1 D I1 q1
 |false=>exact hb pins s1 σ H1 D I1 q1
def Ce:TS:=fun _ _ _=>False
theorem Fx:PS X st Ce:=⟨fun _ _ _ _ _ _ h=>h.elim⟩
theorem Cg {Ci:List ut}:eZ X Ci Ce:=⟨fun _ _ _ _ _ _ h=>h.elim⟩
end
abbrev TG:=V->St->Hp->(St->Hp->Prop)->Prop
abbrev qT:=List V->St->Hp->(St->Hp->Prop)->Prop
def PG (X:Cx) (target:dL) (t:TG):Prop:=
 ∀(pins:List (ag×lc)) (s:ba) (σ:St) (H:Hp) (v:V) (u:ap) (Q:St->Hp->Prop),Inv X pins σ H s->RelV v u->t v σ H Q->
  wpAny (model X.prog X.w) X.A (assign target X.env u) (fun _ s'=>∃aF H',Inv X pins aF H' s'/\Q aF H') X.xe s
def t8 (X:Cx) (ts:List dL) (t:qT):Prop:=
 ∀(pins:List (ag×lc)) (s:ba) (σ:St) (H:Hp) (vs:List V) (us:List ap) (Q:St->Hp->Prop),Inv X pins σ H s->Vals vs us->t vs σ H Q->
  wpAny (model X.prog X.w) X.A (assignInOrder ((assignEach ts X.env).map (·.2)) us) (fun _ s'=>∃aF H',Inv X pins aF H' s'/\Q aF H') X.xe s
abbrev Fy:=V->V->V->Hp->(Hp->Prop)->Prop
def LQ (X:Cx) (t:Fy):Prop:=
 ∀(pins:List (ag×lc)) (s:ba) (σ:St) (H:Hp) (o i v:V) (ov iv u:ap) (Q:Hp->Prop),Inv X pins σ H s->RelV o ov->RelV i iv->RelV v u->t o i v H Q->
  wpAny (model X.prog X.w) X.A (setItem ov iv u) (fun _ s'=>∃H',Inv X pins σ H' s'/\Q H') X.xe s
abbrev LR:=V->V->Hp->VK->Prop
def RO (X:Cx) (op:Operator) (t:LR):Prop:=
 ∀(pins:List (ag×lc)) (s:ba) (σ:St) (H:Hp) (x y:V) (v u:ap) (Q:VK),Inv X pins σ H s->RelV x v->RelV y u->t x y H Q->
  wpAny (model X.prog X.w) X.A (inplaceOp op v u) (EP X pins σ Q) X.xe s
section
variable {X:Cx}{pos:ww}
def vq (i:Nat):TG:=fun v σ H Q=>Q (σ.set i (some v)) H
theorem Jt {i:Nat}{x:bv}(hN:X.N.Nodup) (hi:X.N[i]?=some x) (hx:Loc X.env.scope x) (hf:X.fn x=true\/X.env.scope.names.lookup x=some .local :=by first|exact .inl rfl|exact .inr rfl|assumption):PG X (.Name x pos) (vq i) :=by
 intro pins s σ H v u Q I r h;exact wpAny_assign_Name (jx I hN hi hx r (fun s' I'=>⟨_,H,I',h⟩) hf)
def Tp:qT:=fun vs σ H Q=>vs=[]/\Q σ H
def Qn (t:TG) (u:qT):qT:=fun vs σ H Q=>∃v r,vs=v::r/\t v σ H fun aF H'=>u r aF H' Q
theorem Ju:t8 X [] Tp :=by
 intro pins s σ H vs us Q I r h;obtain⟨e,h⟩:=h;subst e;cases r;exact assignInOrder_nil ⟨σ,H,I,h⟩
theorem FA {e:dL}{es:List dL}{t:TG}{u:qT}(h1:PG X e t) (h2:t8 X es u)
  (hs:(assignEach (e::es) X.env).map (·.2)=assign e X.env::(assignEach es X.env).map (·.2) :=by rfl):t8 X (e::es) (Qn t u) :=by
 intro pins s σ H vs us Q I r h;obtain⟨v,vr,e1,h⟩:=h;subst e1;cases r with
 |cons r rr=>
  rw[hs];refine Y8 (thn (h1 pins s σ H _ _ _ I r h) fun _ s1 ⟨nq,H1,I1,q1⟩=>?_)
  exact h2 pins s1 nq H1 _ _ Q I1 rr q1
def Tq (K:bn) (n:Nat) (t:qT):TG:=fun v σ H Q=>∃a xs,v=.ref a/\bW K H a xs/\xs.length=n/\t xs σ H Q
theorem LU {es:List dL}{k:Nat}{t:qT}{n:Nat}(hc:X.calm=true) (h:t8 X es t)
  (hn:(assignEach es X.env).length=n :=by rfl) (g8:(assignEach es X.env).findIdx? (·.1)=none :=by rfl):PG X (.Tuple es k pos) (Tq X.K n t) :=by
 intro pins s σ H v u Q I r hw;obtain⟨a,xs,e1,hq,hl,hw⟩:=hw;subst e1;cases r;obtain⟨its,rv,ht,hz⟩:=I.tuple hq;refine assign_Tuple_tuple (I.ok.hd hc) ht (by simp[hn,<- hl,rv.length]) g8 fun h' hx=>?_
 have I1:Inv X pins σ H {s with heap:=h'}:=I.kept (t':=s.toks) fun b o e=>hx b o (l5 (io e)) e
 exact h pins _ σ H xs _ Q I1 (by simpa using rv) hw
def Tr (to ti:TE) (t:Fy):TG:=fun v σ H Q=>to σ H fun o H1=>ti σ H1 fun i H2=>t o i v H2 fun H3=>Q σ H3
theorem LV {o i:dL}{to ti:TE}{t:Fy}(ho:PE X o to) (hi:PE X i ti) (hs:LQ X t)
  (ha:∀v,assign (.Subscript o i pos) X.env v=(do
   let ov <- holding [v] (eval o X.env)
   let iv <- holding [v,ov] (eval i X.env)
   standAt pos
   holding [v,ov,iv] (setItem ov iv v)
   release [v,ov,iv] []) :=by intro _;rfl):PG X (.Subscript o i pos) (Tr to ti t) :=by
 intro pins s σ H v u Q I r h;rw[ha];refine ac (xL (thn (ho pins s σ H _ I h) fun ov s1 ⟨x,H1,I1,r1,q1⟩=>?_))
 refine ac (xL (thn (hi pins s1 σ H1 _ I1 q1) fun iv s2 ⟨y,H2,I2,r2,q2⟩=>?_))
 refine ac (ES (ac (xL (thn (hs pins s2 σ H2 x y v ov iv u _ I2 r1 r2 r q2) fun _ s3 ⟨H3,I3,q3⟩=>?_))))
 exact wpAny_release ⟨σ,H3,I3,q3⟩
def vL (te:TE) (g:TG):TS:=fun D σ H=>te σ H fun x H1=>g x σ H1 D.nx
theorem LW {tg e:dL}{te:TE}{g:TG}(he:PE X e te) (hg:PG X tg g) (hs:swapsWithSole [tg] e pos.line X.env=pure false :=by rfl) (hw:swappedStores [tg] e X.env=pure none :=by rfl)
  (h1:(assignEach [tg] X.env).map (·.2)=[assign tg X.env] :=by rfl):PS X (.Assign [tg] e pos) (vL te g) :=by
 refine⟨?_⟩;intro pins s σ H D I h;refine wpAny_Assign_stores (thn (he pins s σ H _ I h) fun v s1 ⟨x,H1,I1,r1,q1⟩=>?_) hs hw
 rw[h1];exact thn (hg pins s1 σ H1 x v _ I1 r1 q1) fun _ s2 q=>q
theorem LX {i:Nat}{x:bv}{e:dL}{te:TE}{pos':ww}(hN:X.N.Nodup) (hi:X.N[i]?=some x) (hx:Loc X.env.scope x) (he:PE X e te) (hs:swapsWith e (some (.Name x pos')) pos.line X.env=pure false :=by rfl) (hf:X.fn x=true\/X.env.scope.names.lookup x=some .local :=by first|exact .inl rfl|exact .inr rfl|assumption) :
  PS X (.Assign [.Name x pos'] e pos) (vL te (vq i)) :=by
 refine⟨?_⟩;intro pins s σ H D I h;refine wpAny_Assign_Name (thn (he pins s σ H _ I h) fun v s1 ⟨y,H1,I1,r1,q1⟩=>?_) hs
 exact jx I1 hN hi hx r1 (fun s2 I2=>⟨_,H1,I2,q1⟩) hf
def Ts (i j:Nat) (ta:TA):TS:=fun D σ H=>ta σ H fun vs H1=>∃v w,vs=[v,w]/\D.nx ((σ.set i (some v)).set j (some w)) H1
theorem LY {i j:Nat}{x y:bv}{a b:dL}{ta:TA}{px py pt:ww}{kt k2 vM}(hc:X.calm=true) (hN:X.N.Nodup) (hi:X.N[i]?=some x) (hj:X.N[j]?=some y) (nr:i≠j)
  (hx:X.env.scope.names.lookup x=some .local) (hy:X.env.scope.names.lookup y=some .local) (ha:PA X [a,b] ta)
  (hw:swappedStores [.Tuple [.Name x px,.Name y py] kt pt] (.Tuple [a,b] k2 vM) X.env=pure (some [x,y]))
  (hs:swapsWithSole [.Tuple [.Name x px,.Name y py] kt pt] (.Tuple [a,b] k2 vM) pos.line X.env=pure false :=by rfl) :
  PS X (.Assign [.Tuple [.Name x px,.Name y py] kt pt] (.Tuple [a,b] k2 vM) pos) (Ts i j ta) :=by
 refine⟨?_⟩;intro pins s σ H D I h;rw[exec_Assign_arm];refine ac (ES ?_);rw[hs];refine ac (bi ?_);rw[if_neg (by decide)]
 refine ac (Tuple_ (thn (ha _ pins s σ H _ I h) fun us s1 ⟨vs,H1,I1,r1,q1⟩=>?_))
 obtain⟨v,w,e1,q1⟩:=q1;subst e1;obtain⟨u1,u2,rfl,rv,jy⟩:∃u1 u2,us=[u1,u2]/\RelV v u1/\RelV w u2 :=by
  cases r1 with
  |cons p q=>
   cases q with
   |cons p' q'=>
    cases q';exact⟨_,_,rfl,p,p'⟩
 refine sB ?_ (by show 2<=sizeLine;decide)
 have I2:Inv X pins σ H1 {s1 with heap:=s1.heap.push {cls:=.type "tuple",data:=.seq [u1,u2].toArray}}:=I1.kept (t':=s1.toks) fun b o e=>br _ e
 rw[hw];refine ac (bi ?_);show wpAny (model X.prog X.w) X.A (do rule "assign.swapped-stores";let items <- unpackItems (.ref s1.heap.objs.size) 2 none;assignInOrder [fun v=>bindName X.env y v,fun v=>bindName X.env x v] items.reverse;pure Flow.next) _ _ _
 refine ac (LM (ac (unpackItems_tuple (items:=#[u1,u2]) (I.ok.hd hc) (Z8.new s1.heap _) fun h' pG=>?_)))
 have I3:=I2.kept (h':=h') (t':=s1.toks) fun b o e=>pG b o (l5 (io e)) e
 show wpAny _ _ (assignInOrder [fun v=>bindName X.env y v,fun v=>bindName X.env x v] [u2,u1]>>=fun _=>pure Flow.next) _ _ _
 refine ac (Y8 (wpAny_bindName (jx I3 hN hj (.inl hy) jy (fun s2 I4=>?_) (.inr hy))))
 refine Y8 (wpAny_bindName (jx I4 hN hi (.inl hx) rv (fun s3 I5=>assignInOrder_nil (bi ?_)) (.inr hx)))
 rw[List.set_comm _ _ (wp nr)]at I5;exact⟨_,H1,I5,q1⟩
def Tt (i:Nat) (te:TE) (ti:LR):TS:=fun D σ H=>∃x,σ[i]?=some (some x)/\te σ H fun y H1=>ti x y H1 fun z H2=>D.nx (σ.set i (some z)) H2
theorem LZ {i:Nat}{x:bv}{e:dL}{te:TE}{op:Operator}{ti:LR}{pos':ww}(hN:X.N.Nodup) (hi:X.N[i]?=some x) (hx:Loc X.env.scope x) (he:PE X e te) (ho:RO X op ti) (hf:X.fn x=true\/X.env.scope.names.lookup x=some .local :=by first|exact .inl rfl|exact .inr rfl|assumption) :
  PS X (.AugAssign (.Name x pos') op e pos) (Tt i te ti) :=by
 refine⟨?_⟩;intro pins s σ H D I h;obtain⟨v,e1,h⟩:=h;obtain⟨m,hn,hl⟩:=I.loc;have UL:pE X.env.scope x :=by rcases hx with k|k;exact .inl k;exact .inr (.inl k)
 obtain⟨u,r,l⟩:=hl i x v hi e1 UL;refine wpAny_AugAssign_Name ?_;have go:wpAny (model X.prog X.w) X.A (eval e X.env) (fun w e8=>wpAny (model X.prog X.w) X.A (inplaceOp op u w) (fun r kU=>wpAny (model X.prog X.w) X.A (storeName X.env x r) (fun _=>SP X pins D .next) X.xe kU) X.xe e8) X.xe s :=by
  refine thn (he pins s σ H _ I h) fun w s1 ⟨y,H1,I1,r1,q1⟩=>?_
  refine thn (ho pins s1 σ H1 v y u w _ I1 r r1 q1) fun z s2 ⟨zv,H2,I2,r2,q2⟩=>?_
  exact jx I2 hN hi hx r2 (fun s3 I3=>⟨_,H2,I3,q2⟩) hf
 rcases l with ⟨hk,hm⟩|⟨hk,c,hc,oH⟩
 ·exact wpAny_loadName_local I.ok.kind hk hn hm go
 ·rcases hk with hk|hk
  ·exact wpAny_loadName_cell I.ok.kind hk hc oH go
  ·rcases hx with k|k
   ·have:X.env.scope.names.lookup x=some .free:=hk;rw[k]at this;cases this
   ·have:X.env.scope.names.lookup x=some .free:=hk;rw[k]at this;cases this
def Cj (c:TT) (tb:TS):TS:=fun D σ H=>∃W:Nat->St->Hp->Prop,(∃m,W m σ H)/\∀m σ H,W m σ H->
 c σ H fun b H1=>if b=true then ∃N:St->Hp->Prop,(∀aF H',N aF H'->∃m',m'<m/\W m' aF H')/\tb {D with nx:=N,ct:=N,bk:=D.nx} σ H1 else D.nx σ H1
theorem FC {c:dL}{body:List ut}{tc:TT}{tb:TS}(hp:ZQ (model X.prog X.w) X.A X.env X.xe) (hc:PT X c tc) (hb:eZ X body tb):PS X (.While c body [] pos) (Cj tc tb) :=by
 refine⟨?_⟩;intro pins s σ H D I h;obtain⟨W,⟨m0,w0⟩,turn⟩:=h;refine wpAny_While (codeAny_whileLoop (fun n s'=>∃aF H',Inv X pins aF H' s'/\W n aF H') ?_ m0 ⟨σ,H,I,w0⟩)
 rintro n s1 ⟨nq,H1,I1,w1⟩;refine Pi hp (thn (hc pins s1 nq H1 _ I1 (turn n nq H1 w1)) fun b s2 ⟨H2,I2,q2⟩=>?_)
 cases b with
 |true=>
  obtain⟨N,hN,q2⟩:=q2;rw[if_pos rfl];refine Pi hp (thn (hb pins s2 nq H2 _ I2 q2) fun f s3 q3=>?_)
  cases f with
  |next=>
   obtain⟨mW,H3,I3,n3⟩:=q3;obtain⟨m',hm,w3⟩:=hN mW H3 n3;exact⟨m',hm,mW,H3,I3,w3⟩
  |cont=>
   obtain⟨mW,H3,I3,n3⟩:=q3;obtain⟨m',hm,w3⟩:=hN mW H3 n3;exact⟨m',hm,mW,H3,I3,w3⟩
  |brk=>exact q3
  |ret v=>exact q3
 |false=>
  rw[if_neg i8];exact YH ⟨nq,H2,I2,q2⟩
end
structure It where
 go:Nat->Hp->Prop
 yld:Nat->Hp->V->Hp->Prop
 stop:Nat->Hp->Prop
def dz (X:Cx) (pins:List (ag×lc)) (H:Hp) (b:ag):Prop:=
 H b=none/\b≠X.env.locals/\b ∉ X.fs/\(b∈X.ex\/X.s₀.heap.objs.size<=b)/\(∀x c,X.env.cells.lookup x=some c->c≠b)/\∀p∈X.pn++pins,p.1≠b
theorem Inv.nu {X:Cx}{pins:List (ag×lc)}{σ:St}{H H':Hp}{s:ba}{b:ag}(I:Inv X pins σ H s) (hb:s.heap.objs.size<=b) (hn:H' b=none):dz X pins H' b :=by
 refine⟨hn,SS (l9 I.lt hb),I.Lv hb,.inr (v6 I.sz hb),fun x c e z=>?_,fun p hp z=>?_⟩
 ·obtain⟨v,q⟩:=I.cell x c e;exact absurd (l9 q.lt (by rw[z];exact hb)) (LH _)
 ·exact absurd (l9 (io (I.pin p hp).1) (by rw[z];exact hb)) (LH _)
structure Turn (P:ff) (w:hX) (K:bn) (tg:dL) (J:It) (fp:List ag) (it:ag) (tn:Nat->ii->Prop):Prop where
 mem:it∈fp
 obj:∀i h,tn i h->∀b∈fp,∃o,h.get? b=some o/\∀v,o.data≠.cell v
 keep:∀i h h',tn i h->(∀b∈fp,∀o,h.get? b=some o->h'.get? b=some o)->tn i h'
 item:∀(X:Cx),X.prog=P->X.w=w->X.K=K->X.calm=true->∀(i:Nat) (pins:List (ag×lc)) (s:ba) (σ:St) (H:Hp) (E:ap->ba->Prop),Inv X pins σ H s->(∀b∈fp,dz X pins H b)->tn i s.heap->J.go i H->
  wpAny (model P w) X.A (pyNext (.ref it)) (fun r s1=>∃u,r=some u /\
   wpAny (model P w) X.A (letOwnedTupleGo tg (.ref it) u) (fun _ s2=>∃x H',Inv X pins σ H' s2/\RelV x u/\J.yld i H x H'/\tn (i+1) s2.heap/\∀b∈fp,H' b=none) E s1) E s
 done:∀(X:Cx),X.prog=P->X.w=w->X.K=K->X.calm=true->∀(i:Nat) (pins:List (ag×lc)) (s:ba) (σ:St) (H:Hp) (E:ap->ba->Prop),Inv X pins σ H s->(∀b∈fp,dz X pins H b)->tn i s.heap->J.stop i H->
  wpAny (model P w) X.A (pyNext (.ref it)) (fun r s1=>r=none/\Inv X pins σ H s1) E s
 self:∀(A:rb) (i:Nat) (s:ba) (Q:ap->ba->Prop) (E:ap->ba->Prop),tn i s.heap->Q (.ref it) s->wpAny (model P w) A (pyIter (.ref it)) Q E s
abbrev TI:=St->Hp->(It->Hp->Prop)->Prop
def RP (X:Cx) (pins:List (ag×lc)) (σ:St) (tg:dL) (R:It->Hp->Prop) (Ck:ap) (s2:ba):Prop:=
 ∃(it:ag) (fp:List ag) (tn:Nat->ii->Prop) (J:It) (H':Hp),Ck=.ref it/\Inv X pins σ H' s2/\Turn X.prog X.w X.K tg J fp it tn/\tn 0 s2.heap/\(∀b∈fp,dz X pins H' b)/\R J H'
def PI (X:Cx) (tg iter:dL) (wi:TI):Prop:=
 ∀(pins:List (ag×lc)) (s:ba) (σ:St) (H:Hp) (R:It->Hp->Prop),Inv X pins σ H s->wi σ H R->
  wpAny (model X.prog X.w) X.A (eval iter X.env) (fun v s1=>wpAny (model X.prog X.w) X.A (pyIter v) (RP X pins σ tg R) X.xe s1) X.xe s
theorem vt {M:Model}{A:rb}{E:ap->ba->Prop}{s:ba}{tg:dL}{it:ag}{u:ap}{o:lc}{n:String}{vs:Array ap}{Q:Unit->ba->Prop}(ho:s.heap.get? it=some o) (hc:o.cls=.type n) (hd:o.data=.fields vs)
  (hn:["enumerate","zip","dict_itemiterator","dict_reverseitemiterator","odict_iterator","itertools.zip_longest","itertools.pairwise"].contains n=false) (hQ:Q () s):wpAny M A (letOwnedTupleGo tg (.ref it) u) Q E s :=by
 unfold letOwnedTupleGo;cases tg<;>first
  |exact bi hQ
  |(cases u<;>first
    |exact bi hQ
    |(refine ac (Zw ho ?_)
      rw[hc,hd];show wpAny M A (if (["enumerate","zip","dict_itemiterator","dict_reverseitemiterator","odict_iterator","itertools.zip_longest","itertools.pairwise"].contains n && vs[0]?==some (rawInt _))=true then _ else _) Q E s
      rw[if_neg (by intro h;rw[hn,Yd]at h;cases h)]
      exact bi hQ))
def L6 (K:bn) (a:ag):It:=
 ⟨fun i H=>∃xs x,bL K H a xs/\xs[i]?=some x,fun i H x H'=>H'=H/\∀xs,bL K H a xs->xs[i]?=some x,fun i H=>∃xs,bL K H a xs/\xs.length<=i⟩
def L7 (K:bn) (a:ag):It:=
 ⟨fun i H=>∃xs x,bW K H a xs/\xs[i]?=some x,fun i H x H'=>H'=H/\∀xs,bW K H a xs->xs[i]?=some x,fun i H=>∃xs,bW K H a xs/\xs.length<=i⟩
def HI (lo:Int) (n:Nat):It:=⟨fun i _=>i<n,fun i H x H'=>H'=H/\x=.int (lo+i),fun i _=>n<=i⟩
theorem Cm {P:ff}{w:hX}{K:bn}{tg:dL}(a it:ag):Turn P w K tg (L6 K a) [it] it (fun i h=>h.IsListIter it a i) where
 mem :=by simp
 obj:=fun i h st b hb=>by
  have e:b=it :=by simpa using hb
  subst e;obtain⟨o,e,c,d⟩:=st;exact⟨o,e,fun v z=>by rw[d]at z;cases z⟩
 keep:=fun i h h' st k=>st.at fun o e=>k it (by simp) o e
 item :=by
  intro X hP hw hK hc i pins s σ H E I hf st hg;subst hP hw hK;obtain⟨xs,x,hq,hx⟩:=hg;obtain⟨its,rv,p,hz⟩:=I.list hq;obtain⟨u,hu,ru⟩:=rv.get hx;obtain⟨f0,f1,f2,f3,f4,f5⟩:=hf it (by simp)
  refine wpAny_pyNext_list_item st p.isList (x:=u) (by simpa using hu) fun h' iY sb=>?_
  have I1:Inv X pins σ H {s with heap:=h'}:=I.turned (t':=s.toks) (fun b o hb e=>(sb.2 b hb).trans e) f0 f1 f3 f4 f5
  obtain⟨o,e,c,d⟩:=id iY;exact⟨u,rfl,vt (s:={s with heap:=h'}) e c d (by decide) ⟨x,H,I1,ru,⟨rfl,fun ys hy=>by rw[I.vK hy hq];exact hx⟩,iY,fun b hb=>(hf b hb).1⟩⟩
 done :=by
  intro X hP hw hK hc i pins s σ H E I hf st hg;subst hP hw hK;obtain⟨xs,hq,hx⟩:=hg;obtain⟨its,rv,p,hz⟩:=I.list hq;obtain⟨f0,f1,f2,f3,f4,f5⟩:=hf it (by simp)
  have hl:=rv.length;exact wpAny_pyNext_list_end (I.ok.hd hc) st p.isList (by simp;omega) fun h' eb=>⟨rfl,I.turned (t':=s.toks) (fun b o hb e=>eb b o hb e) f0 f1 f3 f4 f5⟩
 self:=fun _ _ _ _ _ st h=>wpAny_pyIter_listiter st h
theorem Ap {P:ff}{w:hX}{K:bn}{tg:dL}(a it:ag):Turn P w K tg (L7 K a) [it] it (fun i h=>h.IsTupleIter it a i) where
 mem :=by simp
 obj:=fun i h st b hb=>by
  have e:b=it :=by simpa using hb
  subst e;obtain⟨o,e,c,d⟩:=st;exact⟨o,e,fun v z=>by rw[d]at z;cases z⟩
 keep:=fun i h h' st k=>st.at fun o e=>k it (by simp) o e
 item :=by
  intro X hP hw hK hc i pins s σ H E I hf st hg;subst hP hw hK;obtain⟨xs,x,hq,hx⟩:=hg;obtain⟨its,rv,p,hz⟩:=I.tuple hq;obtain⟨u,hu,ru⟩:=rv.get hx;obtain⟨f0,f1,f2,f3,f4,f5⟩:=hf it (by simp)
  refine wpAny_pyNext_tuple_item st (show s.heap.IsTuple a its.toArray from p) (x:=u) (by simpa using hu) fun h' iY sb=>?_
  have I1:Inv X pins σ H {s with heap:=h'}:=I.turned (t':=s.toks) (fun b o hb e=>(sb.2 b hb).trans e) f0 f1 f3 f4 f5
  obtain⟨o,e,c,d⟩:=id iY;exact⟨u,rfl,vt (s:={s with heap:=h'}) e c d (by decide) ⟨x,H,I1,ru,⟨rfl,fun ys hy=>by rw[I.t7 hy hq];exact hx⟩,iY,fun b hb=>(hf b hb).1⟩⟩
 done :=by
  intro X hP hw hK hc i pins s σ H E I hf st hg;subst hP hw hK;obtain⟨xs,hq,hx⟩:=hg;obtain⟨its,rv,p,hz⟩:=I.tuple hq;obtain⟨f0,f1,f2,f3,f4,f5⟩:=hf it (by simp)
  have hl:=rv.length;exact wpAny_pyNext_tuple_end (I.ok.hd hc) st (show s.heap.IsTuple a its.toArray from p) (by simp;omega) fun h' eb=>⟨rfl,I.turned (t':=s.toks) (fun b o hb e=>eb b o hb e) f0 f1 f3 f4 f5⟩
 self:=fun _ _ _ _ _ st h=>wpAny_pyIter_tupleiter st h
theorem Aq {P:ff}{w:hX}{K:bn}{tg:dL}(it:ag) (lo:Int) (n:Nat):Turn P w K tg (HI lo n) [it] it (fun i h=>IsRangeIter h it (lo+(i:Nat) * 1) ((n:Int) - (i:Nat)) 1) where
 mem :=by simp
 obj:=fun i h st b hb=>by
  have e:b=it :=by simpa using hb
  subst e;exact⟨_,st,fun v z=>by
   have z':Data.fields _=Data.cell v:=z;cases z'⟩
 keep:=fun i h h' st k=>k it (by simp) _ st
 item :=by
  intro X hP hw hK hc i pins s σ H E I hf st hg;subst hP hw hK;obtain⟨f0,f1,f2,f3,f4,f5⟩:=hf it (by simp)
  have W:=Walks.range (prog:=X.prog) (w:=X.w) (I.ok.hd hc) it lo 1 n;refine W.item i s _ _ hg st fun v h' tk hv iY kk=>?_
  obtain⟨t,rfl⟩:=hv;have I1:Inv X pins σ H {s with heap:=h',toks:=tk}:=I.turned (fun b o hb e=>kk b o (by simpa using hb) e) f0 f1 f3 f4 f5
  refine⟨_,rfl,vt (s:={s with heap:=h',toks:=tk}) (n := "range_iterator") iY rfl rfl (by decide) ⟨.int (lo+i),H,I1,⟨t,?_⟩,⟨rfl,rfl⟩,iY,fun b hb=>(hf b hb).1⟩⟩
  rw[Int.mul_one]
 done :=by
  intro X hP hw hK hc i pins s σ H E I hf st hg;subst hP hw hK;obtain⟨f0,f1,f2,f3,f4,f5⟩:=hf it (by simp)
  exact wpAny_pyNext_range_end (I.ok.hd hc) st (by have:n<=i:=hg;omega) fun h' eb=>⟨rfl,I.turned (t':=s.toks) (fun b o hb e=>eb b o hb e) f0 f1 f3 f4 f5⟩
 self:=fun _ _ _ _ _ st h=>wpAny_pyIter_rangeiter st h
section
variable {X:Cx}{tg:dL}
def HJ (K:bn) (tl:TE):TI:=fun σ H R=>tl σ H fun x H1=>∃a,x=.ref a/\(∃xs,bL K H1 a xs)/\R (L6 K a) H1
def L8 (K:bn) (tl:TE):TI:=fun σ H R=>tl σ H fun x H1=>∃a,x=.ref a/\(∃xs,bW K H1 a xs)/\R (L7 K a) H1
theorem Jv {l:dL}{tl:TE}(hl:PE X l tl):PI X tg l (HJ X.K tl) :=by
 intro pins s σ H R I h;refine thn (hl pins s σ H _ I h) fun v s1 ⟨x,H1,I1,r1,q1⟩=>?_
 obtain⟨a,e,⟨xs,hq⟩,q⟩:=q1;subst e;cases r1;obtain⟨its,rv,p,hz⟩:=I1.list hq;refine wpAny_pyIter_list p.isList ?_;refine⟨s1.heap.objs.size,[s1.heap.objs.size],_,_,H1,rfl,I1.kept (t':=s1.toks) fun b o e=>br _ e,Cm a _,⟨_,ij _ rfl,rfl,rfl⟩,fun b hb=>?_,q⟩
 have e:b=s1.heap.objs.size :=by simpa using hb
 subst e;exact I1.nu (ce _) (I1.hok.fresh (ce _))
theorem L9 {l:dL}{tl:TE}(hl:PE X l tl):PI X tg l (L8 X.K tl) :=by
 intro pins s σ H R I h;refine thn (hl pins s σ H _ I h) fun v s1 ⟨x,H1,I1,r1,q1⟩=>?_
 obtain⟨a,e,⟨xs,hq⟩,q⟩:=q1;subst e;cases r1;obtain⟨its,rv,p,hz⟩:=I1.tuple hq;refine Za (show s1.heap.IsTuple a its.toArray from p) ?_;refine⟨s1.heap.objs.size,[s1.heap.objs.size],_,_,H1,rfl,I1.kept (t':=s1.toks) fun b o e=>br _ e,Ap a _,⟨_,ij _ rfl,rfl,rfl⟩,fun b hb=>?_,q⟩
 have e:b=s1.heap.objs.size :=by simpa using hb
 subst e;exact I1.nu (ce _) (I1.hok.fresh (ce _))
theorem FD {pins:List (ag×lc)}{σ:St}{H:Hp}{s:ba}{R:It->Hp->Prop}{E:ap->ba->Prop}{lo hi:Int}{t u v:ZO}{tk:Nat}(I:Inv X pins σ H s) (h1 : -(2 ^ 62)<=lo) (h2:lo<2 ^ 62) (h3 : -(2 ^ 62)<=hi) (h4:hi<2 ^ 62)
  (q:R (HI lo (hi - lo).toNat) H):wpAny (model X.prog X.w) X.A (pyIter (.ref s.heap.objs.size)) (RP X pins σ tg R) E {s with heap:=s.heap.push {cls:=.type "range",data:=.fields #[.int lo t,.int hi u,.int 1 v]},toks:=tk}:=by
 refine wpAny_pyIter_range (IsRange.new ..) (small_one h1 h2 h3 h4) ?_;have I1:Inv X pins σ H {s with heap:=s.heap.push {cls:=.type "range",data:=.fields #[.int lo t,.int hi u,.int 1 v]},toks:=tk}:=I.kept fun b o e=>br _ e
 refine⟨(s.heap.push {cls:=.type "range",data:=.fields #[.int lo t,.int hi u,.int 1 v]}).objs.size,[(s.heap.push {cls:=.type "range",data:=.fields #[.int lo t,.int hi u,.int 1 v]}).objs.size],_,_,H,rfl,
  I1.kept (t':=tk) fun b o e=>br _ e,Aq _ lo (hi - lo).toNat,?_,fun b hb=>?_,q⟩
 ·have e1:lo+((0:Nat):Int) * 1=lo :=by simp
  have e2:(((hi - lo).toNat:Nat):Int) - ((0:Nat):Int)=ul.Range.rangeSize lo hi 1 :=by rw[rangeSize_one];split<;>omega
  show IsRangeIter _ _ (lo+((0:Nat):Int) * 1) ((((hi - lo).toNat:Nat):Int) - ((0:Nat):Int)) 1;rw[e1,e2];exact ij _ rfl
 ·have e:b=(s.heap.push {cls:=.type "range",data:=.fields #[.int lo t,.int hi u,.int 1 v]}).objs.size :=by simpa using hb
  subst e;exact I1.nu (ce _) (I1.hok.fresh (ce _))
def HK (ta:TA):TI:=fun σ H R=>ta σ H fun vs H1=>∃j:Int,vs=[.int j] /\ -(2 ^ 62)<=j/\j<2 ^ 62/\R (HI 0 j.toNat) H1
theorem Cp {a:dL}{ta:TA}{p pos:ww}(hg:Gl X "range") (hm:X.mg "range" = none) (ha:PA X [a] ta) (hs:starEach [a] X.env=[(false,eval a X.env)] :=by rfl):PI X tg (.Call (.Name "range" p) [a] [] pos) (HK ta) :=by
 intro pins s σ H R I h;refine Call_ (fI I hg hm boot_range (Fk (thn (ha pos pins s σ H _ I h) fun us s1 ⟨vs,H1,I1,r1,q1⟩=>?_) hs rfl))
 obtain⟨j,e,q1,q2,q⟩:=q1;subst e;cases r1 with
 |cons r rr=>
  cases rr;obtain⟨t,rfl⟩:=r;exact call_range_1 (FD I1 (by omega) (by omega) q1 q2 (by simpa using q))
def Ma (wi:TI) (g:TG) (tb:TS):TS:=fun D σ H=>wi σ H fun J H1=>∃W:Nat->Nat->St->Hp->Prop,(∃m,W 0 m σ H1)/\∀i m σ H,W i m σ H->
 (J.stop i H/\D.nx σ H)\/(J.go i H/\∃N:St->Hp->Prop,(∀aF H',N aF H'->∃m',m'<m/\W (i+1) m' aF H')/\∀x H',J.yld i H x H'->g x σ H' fun kg H2=>tb {D with nx:=N,ct:=N,bk:=D.nx} kg H2)
def iE (fp:List ag) (h:ii):List (ag×lc):=fp.filterMap fun b=>(h.get? b).map fun o=>(b,o)
theorem cG {fp:List ag}{h:ii}{b:ag}{o:lc}(hb:b∈fp) (e:h.get? b=some o):(b,o)∈iE fp h:=X9.mpr ⟨b,hb,by rw[e];rfl⟩
theorem Cq {fp:List ag}{h:ii}{p:ag×lc}(hp:p∈iE fp h):p.1∈fp/\h.get? p.1=some p.2 :=by
 obtain⟨b,hb,e⟩:=X9.mp hp;cases q:h.get? b with
 |none=>rw[q]at e;cases e
 |some o=>
  rw[q]at e;have e':(b,o)=p:=l7 e;subst e';exact⟨hb,q⟩
theorem Inv.pinned {pins:List (ag×lc)}{σ:St}{H:Hp}{s:ba}{fp:List ag}(I:Inv X pins σ H s) (hf:∀b∈fp,dz X pins H b) (ho:∀b∈fp,∃o,s.heap.get? b=some o/\∀v,o.data≠.cell v):Inv X (pins++iE fp s.heap) σ H s:=
 I.sJ fun p hp=>(EU.mp hp).elim (fun z=>I.pin p (kw _ z)) fun z=>by
  obtain⟨hb,e⟩:=Cq z;obtain⟨f0,f1,f2,_⟩:=hf p.1 hb;obtain⟨o,e',d⟩:=ho p.1 hb;rw[e]at e';cases e';exact⟨e,f0,f1,f2,d⟩
theorem Inv.b9 {pins pl:List (ag×lc)}{σ:St}{H:Hp}{s:ba}(I:Inv X (pins++pl) σ H s):Inv X pins σ H s:=I.sJ fun p hp=>I.pin p (kw _ (ze _ hp))
theorem Mb {iter:dL}{body:List ut}{wi:TI}{g:TG}{tb:TS}{pos:ww}(hp:ZQ (model X.prog X.w) X.A X.env X.xe) (hc:X.calm=true) (hi:PI X tg iter wi) (hg:PG X tg g) (hb:eZ X body tb)
  (hs:∀x,foldedSetIterable iter X.env x=pure x :=by intro _;rfl):PS X (.For tg iter body [] pos) (Ma wi g tb) :=by
 refine⟨?_⟩;intro pins s σ H D I h;refine wpAny_For (thn (hi pins s σ H _ I h) fun v s1 h1=>thn h1 fun Ck s2 h2=>?_) hs
 obtain⟨it,fp,tn,J,H2,e,I2,T,vN,f2,W,⟨m0,w0⟩,turn⟩:=h2;subst e;have stat:∀{H':Hp},(∀b∈fp,H' b=none)->∀b∈fp,dz X pins H' b:=fun hn b hb=>⟨hn b hb,(f2 b hb).2⟩
 refine codeAny_forLoop_any (fun n s'=>∃i aF H',Inv X pins aF H' s'/\tn i s'.heap/\(∀b∈fp,H' b=none)/\W i n aF H') ?_ m0 ⟨0,σ,H2,I2,vN,fun b hb=>(f2 b hb).1,w0⟩
 rintro n s3 ⟨i,mW,H3,I3,t9,Cr,w3⟩;rcases turn i n mW H3 w3 with ⟨stop,qn⟩|⟨go,N,hN,step⟩
 ·refine Pi hp (thn (T.done X rfl rfl rfl hc i pins s3 mW H3 X.xe I3 (stat Cr) t9 stop) fun r s4 ⟨hr,I4⟩=>?_)
  subst hr;exact YH ⟨mW,H3,I4,qn⟩
 ·refine Pi hp (thn (T.item X rfl rfl rfl hc i pins s3 mW H3 X.xe I3 (stat Cr) t9 go) fun r s4 ⟨u,hr,h4⟩=>?_)
  subst hr;refine Pi hp (thn h4 fun _ s5 ⟨x,H5,I5,r5,y5,jz,vO⟩=>?_)
  have vP:=I5.pinned (stat vO) (T.obj _ _ jz);refine Pi hp (thn (hg _ s5 mW H5 x u _ vP r5 (step x H5 y5)) fun _ s6 ⟨UM,H6,I6,q6⟩=>?_)
  refine Pi hp (thn (hb _ s6 UM H6 _ I6 q6) fun f s7 q7=>?_)
  have again:∀{ny:St} {H7:Hp},Inv X (pins++iE fp s5.heap) ny H7 s7->N ny H7->∃m,m<n/\∃i aF H',Inv X pins aF H' s7/\tn i s7.heap/\(∀b∈fp,H' b=none)/\W i m aF H':=fun {ny H7} I7 n7=>by
   obtain⟨m',hm,w7⟩:=hN ny H7 n7;refine⟨m',hm,i+1,ny,H7,I7.b9,T.keep _ _ _ jz fun b hb o e=>(I7.pin (b,o) (kw _ (kw _ (cG hb e)))).1,fun b hb=>?_,w7⟩
   obtain⟨o,e,d⟩:=T.obj _ _ jz b hb;exact(I7.pin (b,o) (kw _ (kw _ (cG hb e)))).2.1
  cases f with
  |next=>obtain⟨ny,H7,I7,n7⟩:=q7;exact again I7 n7
  |cont=>obtain⟨ny,H7,I7,n7⟩:=q7;exact again I7 n7
  |brk=>obtain⟨ny,H7,I7,q7⟩:=q7;exact⟨ny,H7,I7.b9,q7⟩
  |ret v=>obtain⟨x7,ny,H7,I7,r7,q7⟩:=q7;exact⟨x7,ny,H7,I7.b9,r7,q7⟩
end
abbrev R2:=V->V->Hp->VK->Prop
def OpR (X:Cx) (f:ap->ap->Zp ap) (r:R2):Prop:=
 ∀(pins:List (ag×lc)) (s:ba) (σ:St) (H:Hp) (x y:V) (v u:ap) (Q:VK),Inv X pins σ H s->RelV x v->RelV y u->r x y H Q->
  wpAny (model X.prog X.w) X.A (f v u) (EP X pins σ Q) X.xe s
def cU (X:Cx) (f:ap) (r:List V->Hp->VK->Prop):Prop:=
 ∀(pins:List (ag×lc)) (s:ba) (σ:St) (H:Hp) (xs:List V) (us:List ap) (Q:VK),Inv X pins σ H s->Vals xs us->r xs H Q->
  wpAny (model X.prog X.w) X.A (call f us) (EP X pins σ Q) X.xe s
def Tu (X:Cx) (r:V->Hp->(Bool->Hp->Prop)->Prop):Prop:=
 ∀(pins:List (ag×lc)) (s:ba) (σ:St) (H:Hp) (x:V) (v:ap) (Q:Bool->Hp->Prop),Inv X pins σ H s->RelV x v->r x H Q->
  wpAny (model X.prog X.w) X.A (truthy v) (TP X pins σ Q) X.xe s
def Ct (r:R2) (ta tb:TE):TE:=fun σ H Q=>ta σ H fun x H1=>tb σ H1 fun y H2=>r x y H2 Q
def rI (C:Int->Int->Prop) (g:Int->Int->V):R2:=fun x y H Q=>∃i j,x=.int i/\y=.int j/\C i j/\Q (g i j) H
def ua (g:Int->Int->V):R2:=fun x y H Q=>∃i j,x=.int i/\y=.int j/\Q (g i j) H
section
variable {X:Cx}{a b c:dL}{ta tb tc:TE}{pos:ww}
theorem FE (ha:PE X a ta) (hb:PE X b tb) {pins:List (ag×lc)}{s:ba}{σ:St}{H:Hp}{R:V->V->Hp->Prop}(I:Inv X pins σ H s)
  (h:ta σ H fun x H1=>tb σ H1 fun y H2=>R x y H2) {Q:ap->ba->Prop} {f:ap->ap->Zp ap}
  (hf:∀v u s2 x y H2,Inv X pins σ H2 s2->RelV x v->RelV y u->R x y H2->wpAny (model X.prog X.w) X.A (f v u) Q X.xe s2) :
  wpAny (model X.prog X.w) X.A (eval a X.env) (fun v aw=>wpAny (model X.prog X.w) X.A (eval b X.env) (fun u e8=>wpAny (model X.prog X.w) X.A (f v u) Q X.xe e8) X.xe aw) X.xe s :=by
 refine thn (ha pins s σ H _ I h) fun v s1 ⟨x,H1,I1,r1,q1⟩=>?_
 refine thn (hb pins s1 σ H1 _ I1 q1) fun u s2 ⟨y,H2,I2,r2,q2⟩=>?_
 exact hf v u s2 x y H2 I2 r1 r2 q2
theorem Qo {op:Operator}{r:R2}(ho:OpR X (binaryOp op) r) (ha:PE X a ta) (hb:PE X b tb):PE X (.BinOp a op b pos) (Ct r ta tb) :=by
 refine⟨?_⟩;intro pins s σ H Q I h;exact wpAny_BinOp (FE ha hb I h fun v u s2 x y H2 I2 rx ry q=>ho pins s2 σ H2 x y v u Q I2 rx ry q)
theorem HL {f:ap->ap->Zp ap}{C:Int->Int->Prop}{g:Int->Int->Int}
  (rule:∀(i j:Int) (t u:ZO) (s:ba) (Q:ap->ba->Prop) (E:ap->ba->Prop),C i j->Q (.int (g i j) s.toks) {s with toks:=s.toks+1}->wpAny (model X.prog X.w) X.A (f (.int i t) (.int j u)) Q E s) :
  OpR X f (rI C fun i j=>.int (g i j)) :=by
 intro pins s σ H x y v u Q I rx ry h;obtain⟨i,j,rfl,rfl,hc,q⟩:=h;obtain⟨t,rfl⟩:=rx;obtain⟨t',rfl⟩:=ry;exact rule i j t t' s _ _ hc ⟨.int (g i j),H,I.tok _,⟨_,rfl⟩,q⟩
theorem Md {f:ap->ap->Zp ap}{g:Int->Int->Int}
  (rule:∀(i j:Int) (t u:ZO) (s:ba) (Q:ap->ba->Prop) (E:ap->ba->Prop),Q (.int (g i j) s.toks) {s with toks:=s.toks+1}->wpAny (model X.prog X.w) X.A (f (.int i t) (.int j u)) Q E s) :
  OpR X f (ua fun i j=>.int (g i j)) :=by
 intro pins s σ H x y v u Q I rx ry h;obtain⟨i,j,rfl,rfl,q⟩:=h;obtain⟨t,rfl⟩:=rx;obtain⟨t',rfl⟩:=ry;exact rule i j t t' s _ _ ⟨.int (g i j),H,I.tok _,⟨_,rfl⟩,q⟩
theorem FG {f:ap->ap->Zp ap}{g:Int->Int->Bool}
  (rule:∀(i j:Int) (t u:ZO) (s:ba) (Q:ap->ba->Prop) (E:ap->ba->Prop),Q (.bool (g i j)) s->wpAny (model X.prog X.w) X.A (f (.int i t) (.int j u)) Q E s) :
  OpR X f (ua fun i j=>.bl (g i j)) :=by
 intro pins s σ H x y v u Q I rx ry h;obtain⟨i,j,rfl,rfl,q⟩:=h;obtain⟨t,rfl⟩:=rx;obtain⟨t',rfl⟩:=ry;exact rule i j t t' s _ _ ⟨.bl (g i j),H,I,rfl,q⟩
def Mf (i j:Int):Prop:=0<=j/\j<=1000000/\i.natAbs<2 ^ 64
def sM (i j:Int):Prop:=(-(2 ^ 64)<i/\i<2 ^ 64)\/(-(2 ^ 64)<j/\j<2 ^ 64)
theorem sM.ok {i j:Int}(h:sM i j):IntMulOk i j :=by
 rcases h with ⟨h1,h2⟩|⟨h1,h2⟩
 ·exact .of_left (intBits_le_64 h1 h2)
 ·exact .of_right (intBits_le_64 h1 h2)
theorem Mg:OpR X (binaryOp .Add) (ua fun i j=>.int (i+j)):=Md fun _ _ _ _ _ _ _ q=>add_int q
theorem Mi:OpR X (binaryOp .Sub) (ua fun i j=>.int (i - j)):=Md fun _ _ _ _ _ _ _ q=>sub_int q
theorem Mj:OpR X (binaryOp .Mult) (rI sM fun i j=>.int (i * j)):=HL fun _ _ _ _ _ _ _ hc q=>mul_int q hc.ok
theorem Mk:OpR X (binaryOp .Mod) (rI (fun _ j=>0<j) fun i j=>.int (i % j)):=HL fun i j _ _ _ _ _ hc q=>by
 have h1:(0:Int)<j:=hc;exact mod_int' (by omega) (by rw[Int.fmod_eq_emod_of_nonneg i (by omega)];exact q)
theorem Ml:OpR X (binaryOp .Pow) (rI Mf fun i j=>.int (i ^ j.toNat)):=HL fun _ _ _ _ _ _ _ hc q=>pow_int_small hc.1 hc.2.1 hc.2.2 q
end
def FH:V->V->Bool
 | .ao,.ao=>true | .ao,.int _=>true | .int _,.ao=>true | .ao,.bl _=>true | .bl _,.ao=>true | .ao,.str _=>true | .str _,.ao=>true
 | .int _,.int _=>true | .bl _,.bl _=>true | .str _,.str _=>true | .ju _,.ju _=>true
 | .int _,.str _=>true | .str _,.int _=>true | .bl _,.str _=>true | .str _,.bl _=>true
 |_,_=>false
def UN:R2:=fun x y H Q=>FH x y=true/\Q (.bl (decide (x=y))) H
def UO:R2:=fun x y H Q=>FH x y=true/\Q (.bl (!decide (x=y))) H
theorem y3 {i j:Int}:decide (V.int i=V.int j)=(i==j) :=by
 rw[YI];simp
theorem Cu {i j:Bool}:decide (V.bl i=V.bl j)=(i==j) :=by
 rw[YI];simp
theorem y4 {i j:bv}:decide (V.str i=V.str j)=(i==j) :=by
 rw[YI];simp
theorem y6 {i j:Array UInt8}:decide (V.ju i=V.ju j)=(i.toList==j.toList) :=by
 rw[YI];cases i;cases j;simp
section
variable {X:Cx}{a b c:dL}{ta tb tc:TE}{pos:ww}
theorem aY {pins:List (ag×lc)}{σ:St}{H:Hp}{s:ba}{Q:VK}{k k':Bool}(I:Inv X pins σ H s) (q:Q (.bl k) H) (e:k=k'):EP X pins σ Q (.bool k') s :=by
 subst e;exact⟨.bl k,H,I,rfl,q⟩
theorem Qp:OpR X (compareOp .Eq) UN :=by
 intro pins s σ H x y v u Q I rx ry h;obtain⟨hs,q⟩:=h;cases x with
 |ao=>
  cases rx;cases y with
  |ao=>cases ry;exact PySem.EqNone.eq_none_none (aY I q (by simp))
  |bl j=>cases ry;exact PySem.EqNone.eq_none_bool (aY I q (by simp))
  |int j=>obtain⟨t',rfl⟩:=ry;exact PySem.EqNone.eq_none_int (aY I q (by simp))
  |str j=>obtain⟨t',rfl⟩:=ry;exact PySem.EqNone.eq_none_str (aY I q (by simp))
  |_=>exact absurd (show false=true from hs) i8
 |bl i=>
  cases rx;cases y with
  |ao=>cases ry;exact PySem.EqNone.eq_bool_none (aY I q (by simp))
  |bl j=>cases ry;exact eq_bool (aY I q Cu)
  |str j=>obtain⟨t',rfl⟩:=ry;exact PySem.EqMixed.eq_bool_str (aY I q (by simp))
  |_=>exact absurd (show false=true from hs) i8
 |int i=>
  obtain⟨t,rfl⟩:=rx;cases y with
  |ao=>cases ry;exact PySem.EqNone.eq_int_none (aY I q (by simp))
  |int j=>obtain⟨t',rfl⟩:=ry;exact eq_int (aY I q y3)
  |str j=>obtain⟨t',rfl⟩:=ry;exact PySem.EqMixed.eq_int_str (aY I q (by simp))
  |_=>exact absurd (show false=true from hs) i8
 |str i=>
  obtain⟨t,rfl⟩:=rx;cases y with
  |ao=>cases ry;exact PySem.EqNone.eq_str_none (aY I q (by simp))
  |bl j=>cases ry;exact PySem.EqMixed.eq_str_bool (aY I q (by simp))
  |int j=>obtain⟨t',rfl⟩:=ry;exact PySem.EqMixed.eq_str_int (aY I q (by simp))
  |str j=>obtain⟨t',rfl⟩:=ry;exact eq_str (aY I q y4)
  |_=>exact absurd (show false=true from hs) i8
 |ju i=>
  obtain⟨t,rfl⟩:=rx;cases y with
  |ju j=>obtain⟨t',rfl⟩:=ry;exact PySem.W.eq_bytes (aY I q y6)
  |_=>exact absurd (show false=true from hs) i8
 |_=>cases y<;>exact absurd (show false=true from hs) i8
theorem Qq:OpR X (compareOp .NotEq) UO :=by
 intro pins s σ H x y v u Q I rx ry h;obtain⟨hs,q⟩:=h;cases x with
 |ao=>
  cases rx;cases y with
  |ao=>cases ry;exact PySem.EqNone.ne_none_none (aY I q (by simp))
  |bl j=>cases ry;exact PySem.EqNone.ne_none_bool (aY I q (by simp))
  |int j=>obtain⟨t',rfl⟩:=ry;exact PySem.EqNone.ne_none_int (aY I q (by simp))
  |str j=>obtain⟨t',rfl⟩:=ry;exact PySem.EqNone.ne_none_str (aY I q (by simp))
  |_=>exact absurd (show false=true from hs) i8
 |bl i=>
  cases rx;cases y with
  |ao=>cases ry;exact PySem.EqNone.ne_bool_none (aY I q (by simp))
  |bl j=>cases ry;exact ne_bool (aY I q (congrArg not Cu))
  |str j=>obtain⟨t',rfl⟩:=ry;exact PySem.EqMixed.ne_bool_str (aY I q (by simp))
  |_=>exact absurd (show false=true from hs) i8
 |int i=>
  obtain⟨t,rfl⟩:=rx;cases y with
  |ao=>cases ry;exact PySem.EqNone.ne_int_none (aY I q (by simp))
  |int j=>obtain⟨t',rfl⟩:=ry;exact ne_int (aY I q (congrArg not y3))
  |str j=>obtain⟨t',rfl⟩:=ry;exact PySem.EqMixed.ne_int_str (aY I q (by simp))
  |_=>exact absurd (show false=true from hs) i8
 |str i=>
  obtain⟨t,rfl⟩:=rx;cases y with
  |ao=>cases ry;exact PySem.EqNone.ne_str_none (aY I q (by simp))
  |bl j=>cases ry;exact PySem.EqMixed.ne_str_bool (aY I q (by simp))
  |int j=>obtain⟨t',rfl⟩:=ry;exact PySem.EqMixed.ne_str_int (aY I q (by simp))
  |str j=>obtain⟨t',rfl⟩:=ry;exact ne_str (aY I q (congrArg not y4))
  |_=>exact absurd (show false=true from hs) i8
 |ju i=>
  obtain⟨t,rfl⟩:=rx;cases y with
  |ju j=>obtain⟨t',rfl⟩:=ry;exact PySem.W.ne_bytes (aY I q (congrArg not y6))
  |_=>exact absurd (show false=true from hs) i8
 |_=>cases y<;>exact absurd (show false=true from hs) i8
theorem Qr:OpR X (compareOp .Lt) (ua fun i j=>.bl (decide (i<j))):=FG fun _ _ _ _ _ _ _ q=>lt_int q
theorem Qs:OpR X (compareOp .LtE) (ua fun i j=>.bl (decide (i<=j))):=FG fun _ _ _ _ _ _ _ q=>le_int q
theorem Qt:OpR X (compareOp .Gt) (ua fun i j=>.bl (decide (j<i))):=FG fun _ _ _ _ _ _ _ q=>gt_int q
theorem cS (b:dL) {op:XJ}(h:op≠.In :=by decide) (h2:op≠.NotIn :=by decide):behindInMarks op b=false :=by
 have e1:(op==XJ.In)=false :=by cases op<;>first|rfl|exact absurd rfl h
 have e2:(op==XJ.NotIn)=false :=by cases op<;>first|rfl|exact absurd rfl h2
 cases b<;>simp[behindInMarks,e1,e2]
theorem Jw {op:XJ}{r:R2}(ho:OpR X (compareOp op) r) (ha:PE X a ta) (hb:PE X b tb) (hm:behindInMarks op b=false):PE X (.Compare a [op] [b] pos) (Ct r ta tb) :=by
 refine⟨?_⟩;intro pins s σ H Q I h;exact wpAny_Compare1 (FE ha hb I h fun v u s2 x y H2 I2 rx ry q=>ho pins s2 σ H2 x y v u Q I2 rx ry q) hm
def Ar (t:TE):TT:=fun σ H Q=>t σ H fun x H'=>∃k,x=.bl k/\Q k H'
theorem Jx {op:XJ}{r:R2}(ho:OpR X (compareOp op) r) (ha:PE X a ta) (hb:PE X b tb) (hm:behindInMarks op b=false):PT X (.Compare a [op] [b] pos) (Ar (Ct r ta tb)) :=by
 refine⟨?_⟩;intro pins s σ H Q I h;refine wpAny_isTrue_Compare1 (thn (ha pins s σ H _ I h) fun v s1 ⟨x,H1,I1,r1,q1⟩=>thn (hb pins s1 σ H1 _ I1 q1) fun u s2 ⟨y,H2,I2,r2,q2⟩=>
  thn (ho pins s2 σ H2 x y v u _ I2 r1 r2 q2) fun c s3 ⟨z,H3,I3,r3,k,e,q3⟩=>?_) hm
 subst e;cases r3;exact Db ⟨H3,I3,q3⟩
def vQ (r r':R2) (ta tb tc:TE):TE:=fun σ H Q=>ta σ H fun x H1=>tb σ H1 fun y H2=>r x y H2 fun z H3=>∃k,z=.bl k /\
 (if k=true then tc σ H3 fun w' H4=>r' y w' H4 Q else Q (.bl false) H3)
theorem FI {op jA:XJ}{r r':R2}(ho:OpR X (compareOp op) r) (eS:OpR X (compareOp jA) r') (ha:PE X a ta) (hb:PE X b tb) (hc:PE X c tc)
  (hm:lastMarks [op,jA] [b,c]=false :=by with_unfolding_all rfl):PE X (.Compare a [op,jA] [b,c] pos) (vQ r r' ta tb tc) :=by
 refine⟨?_⟩;intro pins s σ H Q I h;refine Compare_chain (thn (ha pins s σ H _ I h) fun v s1 ⟨x,H1,I1,r1,q1⟩=>chain_link (thn (hb pins s1 σ H1 _ I1 q1) fun u s2 ⟨y,H2,I2,r2,q2⟩=>
  thn (ho pins s2 σ H2 x y v u _ I2 r1 r2 q2) fun d s3 ⟨z,H3,I3,r3,k,e,q3⟩=>?_)) hm
 subst e;cases r3;refine Db ?_;cases k with
 |false=>exact ite_ff ⟨.bl false,H3,I3,rfl,q3⟩
 |true=>exact ite_tt (chain_last (thn (hc pins s3 σ H3 _ I3 q3) fun w' s4 ⟨z',H4,I4,r4,q4⟩=>eS pins s4 σ H4 y z' u w' Q I4 r2 r4 q4))
theorem FJ {op jA:XJ}{r r':R2}(ho:OpR X (compareOp op) r) (eS:OpR X (compareOp jA) r') (ha:PE X a ta) (hb:PE X b tb) (hc:PE X c tc)
  (hm:lastMarks [op,jA] [b,c]=false :=by with_unfolding_all rfl):PT X (.Compare a [op,jA] [b,c] pos) (Ar (vQ r r' ta tb tc)) :=by
 refine⟨?_⟩;intro pins s σ H Q I h;refine isTrue_chain (thn (ha pins s σ H _ I h) fun v s1 ⟨x,H1,I1,r1,q1⟩=>test_link (thn (hb pins s1 σ H1 _ I1 q1) fun u s2 ⟨y,H2,I2,r2,q2⟩=>
  thn (ho pins s2 σ H2 x y v u _ I2 r1 r2 q2) fun d s3 ⟨z,H3,I3,r3,k,e,q3⟩=>?_)) hm
 subst e;cases r3;refine Db ?_;cases k with
 |false=>
  obtain⟨k',e',q'⟩:=q3;cases e';exact ite_ff ⟨H3,I3,q'⟩
 |true=>
  refine ite_tt (test_last (thn (hc pins s3 σ H3 _ I3 q3) fun w' s4 ⟨z',H4,I4,r4,q4⟩=>thn (eS pins s4 σ H4 y z' u w' _ I4 r2 r4 q4) fun d' s5 ⟨z2,H5,I5,r5,k2,e2,q5⟩=>?_))
  subst e2;cases r5;exact Db ⟨H5,I5,q5⟩
def FK (K:bn) (x:V) (H:Hp) (k:Bool):Prop:=
 match x with
 | .ao=>k=false
 | .bl b=>k=b
 | .int i=>k=(i != 0)
 | .str y=>y.length<=sizeLine/\k=((y.length:Int) != 0)
 | .ju y=>y.size<=sizeLine/\k=((y.size:Int) != 0)
 | .ref p=>(∃xs,bL K H p xs/\k = !xs.isEmpty)\/(∃xs,bW K H p xs/\k = !xs.isEmpty)\/∃ah,H p=some (.dK ah)/\k = !ah.isEmpty
 |_=>False
theorem As {κ:Type}{ah:List (κ×V)}{vs:List (κ×ap)}(r:KV ah vs):(!vs.isEmpty) = !ah.isEmpty :=by
 cases r<;>rfl
theorem qU {xs:List V}{its:List ap}(r:Vals xs its):(!its.toArray.isEmpty) = !xs.isEmpty :=by
 cases r<;>simp
theorem lb:(sizeLine:Nat)<2 ^ 63 :=by rw[Lo];decide
theorem Mm:Tu X (fun x H Q=>∃k,FK X.K x H k/\Q k H) :=by
 intro pins s σ H x v Q I rx h;obtain⟨k,e,q⟩:=h;have hl:=lb;have hs:sizeLine=16777216:=Lo;cases x with
 |ao=>
  cases rx;have e':k=false:=e;subst e';exact truthy_none ⟨H,I,q⟩
 |bl b=>
  cases rx;have e':k=b:=e;subst e';exact Db ⟨H,I,q⟩
 |int i=>
  obtain⟨t,rfl⟩:=rx;have e':k=(i != 0):=e;subst e';exact PySem.P.truthy_int ⟨H,I,q⟩
 |str y=>
  obtain⟨t,rfl⟩:=rx;obtain⟨hy,e'⟩:y.length<=sizeLine/\k=((y.length:Int) != 0):=e;subst e';exact PySem.P.truthy_str (by omega) ⟨H,I.tok _,q⟩
 |ju y=>
  obtain⟨t,rfl⟩:=rx;obtain⟨hy,e'⟩:y.size<=sizeLine/\k=((y.size:Int) != 0):=e;subst e';exact PySem.W.truthy_bytes (by omega) ⟨H,I.tok _,q⟩
 |ref p=>
  cases rx;have e':(∃xs,bL X.K H p xs/\k = !xs.isEmpty)\/(∃xs,bW X.K H p xs/\k = !xs.isEmpty)\/∃ah,H p=some (.dK ah)/\k = !ah.isEmpty:=e;rcases e' with ⟨xs,hx,e'⟩|⟨xs,hx,e'⟩|⟨ah,hx,e'⟩
  ·subst e';obtain⟨its,r,pl,hz⟩:=I.list hx;have hlen:=r.length;exact wpAny_truthy_list pl.isList (by simp only[im];omega) ⟨H,I.tok _,by rw[qU r];exact q⟩
  ·subst e';obtain⟨its,r,pl,hz⟩:=I.tuple hx;have hlen:=r.length;exact truthy_tuple pl (by simp only[im];omega) ⟨H,I.tok _,by rw[qU r];exact q⟩
  ·subst e';obtain⟨hz,hS,vs,r,m⟩:ah.length<=sizeLine/\(p==sysModules)=false/\∃vs,KV ah vs/\s.heap.DictOf (bz X.prog X.w) p vs:=I.hok p _ hx;have hlen:ah.length=vs.length:=P3 r;exact wpAny_truthy_dict hS m (by omega) ⟨H,I.tok _,by rw[As r];exact q⟩
 |_=>exact(show False from e).elim
theorem FL (ha:PE X a ta) (he:∀whole,isTrue a X.env whole=(do let v <- whole;standAt a.pos;holding [v] (truthy v))) :
  PT X a (fun σ H Q=>ta σ H fun x H'=>∃k,FK X.K x H' k/\Q k H') :=by
 refine⟨?_⟩;intro pins s σ H Q I h;exact isTrue_plain (thn (ha pins s σ H _ I h) fun v s1 ⟨x,H1,I1,r1,q1⟩=>Mm pins s1 σ H1 x v Q I1 r1 q1) (he _)
theorem Au:OpR X (binaryOp .Add) (fun x y H Q=>∃i j,x=.str i/\y=.str j/\i.length+j.length<=sizeLine/\Q (.str (i++j)) H) :=by
 intro pins s σ H x y v u Q I rx ry h;obtain⟨i,j,rfl,rfl,hz,q⟩:=h;obtain⟨t,rfl⟩:=rx;obtain⟨t',rfl⟩:=ry;exact add_str (fun t' tk=>⟨.str (i++j),H,I.tok _,⟨_,rfl⟩,q⟩) hz
theorem vals1 {x:V}{us:List ap}(r:Vals [x] us):∃u,us=[u]/\RelV x u :=by
 cases r with
 |cons r1 r2=>cases r2;exact⟨_,rfl,r1⟩
theorem vals2 {x y:V}{us:List ap}(r:Vals [x,y] us):∃u w',us=[u,w']/\RelV x u/\RelV y w':=by
 cases r with
 |cons r1 r2=>
  cases r2 with
  |cons r3 r4=>cases r4;exact⟨_,_,rfl,r1,r3⟩
theorem FN:cU X (.builtin "abs") (fun xs H Q=>∃i,xs=[.int i]/\Q (.int (if i<0 then -i else i)) H) :=by
 intro pins s σ H xs us Q I r h;obtain⟨i,rfl,q⟩:=h;obtain⟨u,rfl,t,rfl⟩:=vals1 r;exact call_abs_int fun u tk=>⟨.int (if i<0 then -i else i),H,I.tok _,⟨_,rfl⟩,q⟩
theorem Cv (hc:X.calm=true):cU X (.builtin "min") (fun xs H Q=>∃i j,xs=[.int i,.int j]/\Q (.int (if j<i then j else i)) H) :=by
 intro pins s σ H xs us Q I r h;obtain⟨i,j,rfl,q⟩:=h;obtain⟨u,w',rfl,⟨t,rfl⟩,⟨t',rfl⟩⟩:=vals2 r;refine min_two_ints (I.ok.hd hc) fun h' tk k=>⟨_,H,I.kept k,?_,q⟩
 by_cases hj:j<i
 ·rw[if_pos hj,if_pos hj];exact⟨_,rfl⟩
 ·rw[if_neg hj,if_neg hj];exact⟨_,rfl⟩
def Mp (K:bn) (x:V) (H:Hp) (n:Nat):Prop:=
 match x with
 | .str y=>y.length<=sizeLine/\n=y.length
 | .ju y=>y.size<=sizeLine/\n=y.size
 | .ref p=>(∃xs,bL K H p xs/\n=xs.length)\/∃xs,bW K H p xs/\n=xs.length
 |_=>False
theorem FO:cU X (.builtin "len") (fun xs H Q=>∃x n,xs=[x]/\Mp X.K x H n/\Q (.int n) H) :=by
 intro pins s σ H xs us Q I r h;obtain⟨x,n,rfl,e,q⟩:=h;obtain⟨u,rfl,rx⟩:=vals1 r;have hl:=lb;have hs:sizeLine=16777216:=Lo;cases x with
 |str y=>
  obtain⟨t,rfl⟩:=rx;obtain⟨hy,e'⟩:y.length<=sizeLine/\n=y.length:=e;subst e';exact len_str (by omega) ⟨.int _,H,I.tok _,⟨_,rfl⟩,q⟩
 |ju y=>
  obtain⟨t,rfl⟩:=rx;obtain⟨hy,e'⟩:y.size<=sizeLine/\n=y.size:=e;subst e';exact PySem.W.len_bytes (by omega) ⟨.int _,H,I.tok _,⟨_,rfl⟩,q⟩
 |ref p=>
  cases rx;have e':(∃xs,bL X.K H p xs/\n=xs.length)\/∃xs,bW X.K H p xs/\n=xs.length:=e;rcases e' with ⟨xs,hx,e'⟩|⟨xs,hx,e'⟩
  ·subst e';obtain⟨its,r',pl,hz⟩:=I.list hx;have hlen:=r'.length;exact Calls.call_len_list pl.isList (by simp only[im];omega) ⟨.int xs.length,H,I.tok _,⟨_,by simp only[im];rw[hlen]⟩,q⟩
  ·subst e';obtain⟨its,r',pl,hz⟩:=I.tuple hx;have hlen:=r'.length;exact len_tuple pl (by simp only[im];omega) ⟨.int xs.length,H,I.tok _,⟨_,by simp only[im];rw[hlen]⟩,q⟩
 |_=>exact(show False from e).elim
end
structure FP (h:ii) (x dx C:ag) (mA:bv->Option ap):Prop where
 obj:h.get? x=some (ZP C dx)
 ns:h.Ns1 dx mA
 ne:dx≠x
theorem Cw {h:ii}{dx:ag}{mA:bv->Option ap}(n:h.Ns1 dx mA):∃od,h.get? dx=some od/\∀name,PySem.W.lookIn name od=some (mA name) :=by
 obtain⟨o,es,ep,ho,hd,hk,_,hm⟩:=n;refine⟨o,ho,fun name=>?_⟩
 have e:=hm name;unfold nsFind findBy at e;rw[<- Array.find?_toList]at e;unfold PySem.W.lookIn;rw[hd];dsimp only;split
 ·rename_i y q;rw[q]at e;exact congrArg some e
 ·rename_i q;rw[q]at e;have a:es.toList.any (·.refKey)=false :=by
   rw[List.any_eq_false];intro y hy;obtain⟨z,t,Tv⟩:=hk y (YJ.mp hy);simp[X8.refKey,Tv]
  have a':¬ es.toList.any (·.refKey)=true :=by rw[a];exact i8
  rw[if_neg a'];exact congrArg some e
theorem FP.look {h:ii}{x dx C:ag}{mA:bv->Option ap}(I:FP h x dx C mA):∃od,PySem.W.InstAt h x (ZP C dx) C (some od)/\∀name,PySem.W.lookIn name od=some (mA name):=
 let ⟨od,ho,hl⟩:=Cw I.ns
 ⟨od,⟨I.obj,rfl,rfl,ho⟩,hl⟩
theorem jv.some_of {v:V}{o:Option ap}(r:jv (some v) o):∃u,o=some u/\RelV v u :=by
 cases o with
 |none=>exact(show False from r).elim
 |some u=>exact⟨u,rfl,r⟩
section
variable {P:ff}{w:hX}{H H':Hp}{h h':ii}{a C dx:ag}{fs UH:List (bv×V)}
theorem Jy (hok:cN P w H h) (e:H a=some (.ins C dx fs)):∃mA,FP h a dx C mA/\(∀f,jv (fs.lookup f) (mA f))/\PySem.Within mA (fs.map (·.1))/\fs.length<=1000/\H dx=some (.own a) :=by
 obtain⟨d,z,ne,ob,mA,n,r,q⟩:=(show ObjOk P w H h a (.ins C dx fs) from hok a _ e);exact⟨mA,⟨ob,n,ne⟩,r,q,z,d⟩
end
structure Mq (K:bn) (C:ag):Prop where
 pg:PySem.W.plainGet K C bv.empty=true
 hd:PySem.W.hasDictIn K C=true
 po:PySem.W.plainOver K C=true
 sa:PySem.W.findIn K (.ref C) "__setattr__" = some (some (.builtin "object.__setattr__"))
theorem Mq.get {K:bn}{C:ag}(c:Mq K C) (f:bv):PySem.W.plainGet K C f=true:=c.pg
section
variable {X:Cx}{pins:List (ag×lc)}{σ:St}{H:Hp}{s:ba}{A:rb}{E:ap->ba->Prop}{Q:ap->ba->Prop}{c:ap}{b:Bool}
inductive fW (K:bn) (H:Hp):V->ap->Prop where
 |ao:fW K H .ao (.type "NoneType")
 |bl (x:Bool):fW K H (.bl x) (.type "bool")
 |int (i:Int):fW K H (.int i) (.type "int")
 |str (x:bv):fW K H (.str x) (.type "str")
 |yX (x:UInt64):fW K H (.yX x) (.type "float")
 |lst {a:ag} {xs:List V} (e:H a=some (.lst xs)):fW K H (.ref a) (.type "list")
 |bC {a:ag} {o:lc} {xs:List V} (e:H a=some (.bC o (.lst xs))):fW K H (.ref a) (.type "list")
 |tup {a:ag} {xs:List V} (e:H a=some (.tup xs)):fW K H (.ref a) (.type "tuple")
 |dK {a:ag} {ah:List (Key×V)} (e:H a=some (.dK ah)):fW K H (.ref a) (.type "dict")
 |dT {a:ag} {ah:List (List Key×V)} (e:H a=some (.dT ah)):fW K H (.ref a) (.type "dict")
 |ins {a C dx:ag} {fs:List (bv×V)} (e:H a=some (.ins C dx fs)) (cl:Mq K C) (ha:PySem.W.findIn K (.ref C) "__class__" = some (some (.builtin "object.__class__")))
   (hn:PySem.W.specialIn K (.builtin "object.__class__") "__get__" = some (some (.builtin "getset_descriptor.__get__"))) (RQ:PySem.W.takesIn K (.builtin "object.__class__")=some true)
   (hm:PySem.W.mroIn K C (.type "object")=some true):fW K H (.ref a) (.ref C)
theorem Cy {x:V}{u t:ap}(I:Inv X pins σ H s) (rx:RelV x u) (ty:fW X.K H x t) (e:Mn X.K t c=some b) (h:∀tk,Q (.bool b) {s with toks:=tk}) :
  wpAny (model X.prog X.w) A (call (.builtin "isinstance") [u,c]) Q E s :=by
 cases ty with
 |ao=>cases (show u=wE from rx);exact Fa PySem.W.kitx_none I.ez NE e (fun z=>nomatch z) h
 |bl y=>cases (show u=Z1 y from rx);exact Fa PySem.W.kitx_bool I.ez NE e (fun z=>nomatch z) h
 |int i=>obtain⟨t,q⟩:=(show ∃t,u=ZN i t from rx);cases q;exact Fa PySem.W.kitx_int I.ez NE e (fun z=>nomatch z) h
 |str y=>obtain⟨t,q⟩:=(show ∃t,u=YC y t from rx);cases q;exact Fa PySem.W.kitx_str I.ez NE e (fun z=>nomatch z) h
 |yX y=>obtain⟨t,q⟩:=(show ∃t,u=ap.float y t from rx);cases q;exact Fa PySem.W.kitx_float I.ez NE e (fun z=>nomatch z) h
 | @lst a xs ea=>
  cases (show u=li a from rx);obtain⟨_,_,n,_,h1⟩:=(show ObjOk X.prog X.w H s.heap a (.lst xs) from I.hok a _ ea);exact Fa PySem.W.kitx_list I.ez ⟨_,h1,rfl⟩ e (fun z=>nomatch z) h
 | @bC a ob xs ea=>
  cases (show u=li a from rx);obtain⟨_,_,_,n,_,h1⟩:=(show ObjOk X.prog X.w H s.heap a (.bC ob (.lst xs)) from I.hok a _ ea);exact Fa PySem.W.kitx_list I.ez ⟨_,h1,rfl⟩ e (fun z=>nomatch z) h
 | @tup a xs ea=>
  cases (show u=li a from rx);obtain⟨_,_,_,p⟩:=(show ObjOk X.prog X.w H s.heap a (.tup xs) from I.hok a _ ea);obtain⟨o,h1,h2,_⟩:=p;exact Fa PySem.W.kitx_tuple I.ez ⟨o,h1,h2⟩ e (fun z=>nomatch z) h
 | @dK a ah ea=>
  cases (show u=li a from rx);obtain⟨_,_,vs,_,p⟩:=(show ObjOk X.prog X.w H s.heap a (.dK ah) from I.hok a _ ea);obtain⟨o,es,ep,h1,h2,_⟩:=p;exact Fa PySem.W.kitx_dict I.ez ⟨o,h1,h2.1⟩ e (fun z=>nomatch z) h
 | @dT a ah ea=>
  cases (show u=li a from rx);obtain⟨_,_,xs,_,o,es,ep,h1,h2,_⟩:=(show ObjOk X.prog X.w H s.heap a (.dT ah) from I.hok a _ ea);exact Fa PySem.W.kitx_dict I.ez ⟨o,h1,h2.1⟩ e (fun z=>nomatch z) h
 | @ins a C dx fs ea cl ha hn RQ hm=>
  cases (show u=li a from rx);obtain⟨mA,O,_⟩:=Jy I.hok ea;obtain⟨od,J,_⟩:=O.look;exact Fa (PySem.W.kitx_own (cl.get _) cl.hd ha hn RQ hm) I.ez J e (fun z=>nomatch z) h
end
structure bh (k:Nat) (A:rb):Prop where
 hd:A.handled=none
 dp:A.depth+3 * k+5<recursionLimit
 un:A.units+16 * k+200<cLine
theorem bh.mono {j k:Nat}{A:rb}(r:bh k A) (h:j<=k):bh j A:=⟨r.hd,by have:=r.dp;omega,by have:=r.un;omega⟩
theorem bh.deeper {k:Nat}{A:rb}(r:bh (k+1) A) (env:Op):bh k (A.deeper env):=
 ⟨r.hd,by have:=r.dp;show A.depth+1+3 * k+5<_;omega,by have:=r.un;show A.units+3+16 * k+200<_;omega⟩
theorem bh.depth {k:Nat}{A:rb}(r:bh k A):A.depth<recursionLimit :=by have:=r.dp;omega
theorem bh.units {k:Nat}{A:rb}(r:bh k A):A.units+64<cLine :=by have:=r.un;omega
def Mr:TA:=fun _ H Q=>Q [] H
def Qu (ta:TE) (tr:TA):TA:=fun σ H Q=>ta σ H fun x H1=>tr σ H1 fun xs H2=>Q (x::xs) H2
section
variable {X:Cx}{e:dL}{es:List dL}{te:TE}{t:TA}{pos:ww}
theorem Ms:PA X [] Mr:=⟨fun _ _ _ _ H Q I h=>Rs ⟨[],H,I,.nil,h⟩⟩
theorem oI (ha:PE X e te) (hr:PA X es t) (hs:starEach (e::es) X.env=(false,eval e X.env)::starEach es X.env :=by rfl):PA X (e::es) (Qu te t) :=by
 refine⟨?_⟩;intro pos pins s σ H Q I h;rw[hs];show wpAny _ _ (spliced ((false,eval e X.env)::backTo pos (starEach es X.env))) _ _ s;refine Pc (thn (ha pins s σ H _ I h) fun u s1 ⟨x,H1,I1,r1,q1⟩=>?_)
 exact thn (hr pos pins s1 σ H1 _ I1 q1) fun us s2 ⟨xs,H2,I2,r2,q2⟩=>⟨x::xs,H2,I2,.cons r1 r2,q2⟩
def Tw (t:TA):TE:=fun σ H Q=>t σ H fun xs H1=>xs.length<=sizeLine/\∀p,H1 p=none->Q (.ref p) (upd H1 p (.tup xs))
def Tx (t:TA):TE:=fun σ H Q=>t σ H fun xs H1=>xs.length<=sizeLine/\∀p,H1 p=none->Q (.ref p) (upd H1 p (.lst xs))
theorem Mt {x1}(h:PA X es t):PE X (.Tuple es x1 pos) (Tw t) :=by
 refine⟨?_⟩;intro pins s σ H Q I hq;refine wpAny_Tuple_spliced (thn (h pos pins s σ H _ I hq) fun us s1 ⟨xs,H1,I1,r,z,q⟩=>⟨by rw[<- r.length];exact z,?_⟩)
 have hf:H1 s1.heap.objs.size=none:=I1.hok.fresh (ce _);refine⟨.ref s1.heap.objs.size,upd H1 s1.heap.objs.size (.tup xs),I1.laid (t':=s1.toks) (fun b u e=>br _ e) (ce _) ?_,rfl,q _ hf⟩
 exact⟨z,us,r,⟨_,ij _ rfl,rfl,_,rfl,rfl⟩⟩
theorem Cz (h:PA X es t):PE X (.List es pos) (Tx t) :=by
 refine⟨?_⟩;intro pins s σ H Q I hq;refine wpAny_List_spliced (thn (h pos pins s σ H _ I hq) fun us s1 ⟨xs,H1,I1,r,z,q⟩=>⟨by rw[<- r.length];exact z,?_⟩)
 have hf:H1 s1.heap.objs.size=none:=I1.hok.fresh (ce _);refine⟨.ref s1.heap.objs.size,upd H1 s1.heap.objs.size (.lst xs),I1.laid (t':=s1.toks) (fun b u e=>br _ e) (ce _) ?_,rfl,q _ hf⟩
 exact⟨z,us,0,r,ij _ rfl⟩
end
abbrev Sp:=List V->Hp->VK->XK->Prop
abbrev fD:=List Op->Hp->ba->XK->ap->ba->Prop
structure sN (P:ff) (w:hX) (K:bn) (mg:bv->Option ap) (base:ii) (A:rb) (outer:List Op) (s:ba) (H:Hp):Prop where
 frames:A.frames=some outer
 mod:Mod K mg base
 bs:∀b o,base.get? b=some o->s.heap.get? b=some o/\H b=none
 bsz:base.objs.size<=s.heap.objs.size
 funs:s.heap.FunFrames base outer
 frf:∀b∈dS outer,H b=none
 hok:cN P w H s.heap
 bare:ZW s.gens
def CE (outer:List Op) (P:ff) (w:hX) (H:Hp) (s:ba) (Q:VK) (u:ap) (s':ba):Prop:=
 ∃v H',s'.os=s.os/\Gn s.gens.size s'.gens/\Un (dS outer) [] H H' s.heap s'.heap/\cN P w H' s'.heap/\RelV v u/\Q v H'
def CR (CX:fD) (outer:List Op) (P:ff) (w:hX) (H:Hp) (s:ba) (Q:VK) (E:XK) (r:ZY) (s':ba):Prop:=
 match r with
 | .ok (.ret u)=>CE outer P w H s Q u s'
 | .ok _=>False
 | .error e=>CX outer H s E e s'
structure FnOk (P:ff) (w:hX) (K:bn) (mg:bv->Option ap) (base:ii) (CX:fD) (k:Nat) (f:ag) (fd:mf) (ps:List bv) (sp:Sp):Prop where
 len:∀vs H Q E,sp vs H Q E->vs.length=ps.length
 run:∀(A:rb) (outer:List Op) (s:ba) (H:Hp) (args:Args) (us:List ap) (vs:List V) (Q:VK) (E:XK),bh k A->sN P w K mg base A outer s H->Zx s fd args (ps.zip us)->Vals vs us->sp vs H Q E->
  codeAny (model P w) A (.call (.ref f) args) (CR CX outer P w H s Q E) s
theorem FnOk.mono {P:ff}{w:hX}{K:bn}{mg:bv->Option ap}{base:ii}{CX:fD}{j k:Nat}{f:ag}{fd:mf}{ps:List bv}{sp:Sp}(F:FnOk P w K mg base CX j f fd ps sp) (h:j<=k) :
  FnOk P w K mg base CX k f fd ps sp:=⟨F.len,fun A outer s H args us vs Q E hr=>F.run A outer s H args us vs Q E (hr.mono h)⟩
theorem FnOk.imp {P:ff}{w:hX}{K:bn}{mg:bv->Option ap}{base:ii}{CX:fD}{k:Nat}{f:ag}{fd:mf}{ps:List bv}{sp RT:Sp}(F:FnOk P w K mg base CX k f fd ps sp)
  (h:∀vs H Q E,RT vs H Q E->sp vs H Q E):FnOk P w K mg base CX k f fd ps RT:=
 ⟨fun vs H Q E q=>F.len vs H Q E (h _ _ _ _ q),fun A outer s H args us vs Q E hr he hb hv hs=>F.run A outer s H args us vs Q E hr he hb hv (h _ _ _ _ hs)⟩
section
variable {X:Cx}{pins:List (ag×lc)}{σ:St}{H:Hp}{s s':ba}
theorem Inv.Mu (I:Inv X pins σ H s):sN X.prog X.w X.K X.mg X.base X.A X.stack s H:=
 ⟨I.ok.frames,I.ok.mod,I.bs,v6 I.ok.bsz I.sz,I.stack,I.oG,I.hok,I.bare.1⟩
theorem Inv.after {Q:VK}{u:ap}(I:Inv X pins σ H s) (h:CE X.stack X.prog X.w H s Q u s'):EP X pins σ Q u s':=by
 obtain⟨v,H',os,bare,un,hok,r,q⟩:=h;obtain⟨hh,g,d,t,RU⟩:=s';obtain rfl:RU=s.os:=os;exact⟨v,H',I.call (h':=hh) (g':=g) (d':=d) (t':=t) (ch:=[]) un hok bare (fun b z=>absurd z (by simp)),r,q⟩
end
def HM (sp:Sp) (fK:List V) (E:XK) (t:TA):TE:=fun σ H Q=>t σ H fun vs H1=>sp (vs++fK) H1 Q E
def Binds (K:bn) (fd:mf) (ps:List bv) (ds:List ap):Prop:=
 ∀(s:ba) (us:List ap),K.In s.heap->(us++ds).length=ps.length->Zx s fd ⟨us,[]⟩ (ps.zip (us++ds))
theorem Binds.all {K:bn}{fd:mf}{ps:List bv}(h:∀us:List ap,us.length=ps.length->bindArgs fd ⟨us,[]⟩=pure (ps.zip us)):Binds K fd ps []:=fun s us _ hl=>by
 rw[Ch]at hl ⊢;exact .of_eq (h us hl)
def Passes (CX:fD) (X:Cx) (E:XK):Prop:=∀(pins:List (ag×lc)) (σ:St) (H:Hp) (s:ba) (e:ap) (s':ba),Inv X pins σ H s->CX X.stack H s E e s'->X.xe e s'
section
variable {X:Cx}{CX:fD}{k:Nat}{f C:ag}{fd:mf}{ps:List bv}{sp:Sp}{fK:List V}{ds:List ap}{E:XK}{x m:bv}{p pos apos:ww}{e o:dL}{es:List dL}{ta:TE}{t:TA}
theorem CA {pins:List (ag×lc)}{σ:St}{H:Hp}{s:ba}{Q:VK}{us:List ap}{vs:List V}(F:FnOk X.prog X.w X.K X.mg X.base CX k f fd ps sp) (hr:bh k X.A) (hb:Binds X.K fd ps ds) (hd:Vals fK ds) (hx:Passes CX X E)
  (I:Inv X pins σ H s) (r:Vals vs us) (h:sp (vs++fK) H Q E):wpAny (model X.prog X.w) X.A (call (.ref f) us) (EP X pins σ Q) X.xe s :=by
 have r2:Vals (vs++fK) (us++ds):=r.append hd;have hl:(us++ds).length=ps.length :=by rw[<- r2.length];exact F.len _ _ _ _ h
 refine YK (XB (F.run X.A X.stack s H ⟨us,[]⟩ (us++ds) (vs++fK) Q E hr I.Mu (hb s us I.ez hl) r2 h) fun r s' hq=>?_)
 cases r with
 |error e=>exact hx pins σ H s e s' I hq
 |ok fl=>
  cases fl with
  |ret u=>exact I.after hq
  |next=>exact DO hq
  |brk=>exact DO hq
  |cont=>exact DO hq
theorem Jz (F:FnOk X.prog X.w X.K X.mg X.base CX k f fd ps sp) (hr:bh k X.A) (hg:Gl X x) (hm:X.mg x=some (.ref f)) (hk:Cc X.K (.ref f)=true) (hb:Binds X.K fd ps ds) (hd:Vals fK ds) (hx:Passes CX X E)
  (ha:PA X (e::es) t) (cZ:(x==("__debug__" : bv))=false :=by decide) (he:starEach (e::es) X.env=(false,eval e X.env)::starEach es X.env :=by rfl) (bM:(backTo pos (starEach es X.env)).any (·.1)=false :=by rfl) :
  PE X (.Call (.Name x p) (e::es) [] pos) (HM sp fK E t) :=by
 refine⟨?_⟩;intro pins s σ H Q I h;refine B0 (jl I hg hm ?_ cZ);refine Zb (h₀:=X.base) I.ok.mod.kin hk (thn (ha pos pins s σ H _ I h) fun us s1 ⟨vs,H1,I1,r,q⟩=>⟨I1.ez,?_⟩) he bM
 exact CA F hr hb hd hx I1 r q
end
structure aP (N P:List bv) (sc:zd):Prop where
 kind:sc.kind=.function
 co:sc.isCoroutine=false
 gen:sc.isGenerator=false
 nd:N.Nodup
 pre:N.take P.length=P
 par:∀x∈P,sc.names.lookup x=some .local\/sc.names.lookup x=some .cell
 nofree:∀y∈sc.names,y.2≠.free
theorem ub {kindOf:bv->Option W1}{x:bv}:∀{binds:List (bv×ap)}{m:bv->Option ap},(∀v,(x,v) ∉ binds)->bindL kindOf binds m x=m x
 | [],_,_=>rfl
 |(n,v)::r,m,h=>by
          unfold bindL;rw[ub fun w hw=>h w (f8 _ hw)]
          split
          ·have:x≠n :=by rintro rfl;exact h v i4
           simp[this]
          ·rfl
theorem ud {kindOf:bv->Option W1}{x:bv}:∀{binds:List (bv×ap)}{m:bv->Option ap},(∀v,(x,v) ∉ binds)->bindC kindOf binds m x=m x
 | [],_,_=>rfl
 |(n,v)::r,m,h=>by
          unfold bindC;rw[ud fun w hw=>h w (f8 _ hw)]
          split
          ·rfl
          ·have:x≠n :=by rintro rfl;exact h v i4
           simp[this]
theorem ue {kindOf:bv->Option W1}{x:bv}{v:ap}:∀{P:List bv}{vs:List ap}{i:Nat}{m:bv->Option ap},P.Nodup->P[i]?=some x->vs[i]?=some v->kindOf x=some .local->
  bindL kindOf (P.zip vs) m x=some v
 | [],_,_,_,_,h,_,_=>by simp at h
 |_::_,[],_,_,_,_,h,_=>by simp at h
 |p::P,w::vs,0,m,nd,h1,h2,hk=>by
          simp at h1 h2;subst h1;subst h2;show bindL kindOf ((p,w)::P.zip vs) m p=_;unfold bindL;rw[ub fun v hv=>(Ll.mp nd).1 (WA hv).1,if_pos hk]
          simp
 |p::P,w::vs,i+1,m,nd,h1,h2,hk=>by
          show bindL kindOf ((p,w)::P.zip vs) m x=_;unfold bindL;exact ue (i:=i) (Ll.mp nd).2 (by simpa using h1) (by simpa using h2) hk
theorem uf {kindOf:bv->Option W1}{x:bv}{v:ap}:∀{P:List bv}{vs:List ap}{i:Nat}{m:bv->Option ap},P.Nodup->P[i]?=some x->vs[i]?=some v->kindOf x≠some .local->
  bindC kindOf (P.zip vs) m x=some v
 | [],_,_,_,_,h,_,_=>by simp at h
 |_::_,[],_,_,_,_,h,_=>by simp at h
 |p::P,w::vs,0,m,nd,h1,h2,hk=>by
          simp at h1 h2;subst h1;subst h2;show bindC kindOf ((p,w)::P.zip vs) m p=_;unfold bindC;rw[ud fun v hv=>(Ll.mp nd).1 (WA hv).1,if_neg hk]
          simp
 |p::P,w::vs,i+1,m,nd,h1,h2,hk=>by
          show bindC kindOf ((p,w)::P.zip vs) m x=_;unfold bindC;exact uf (i:=i) (Ll.mp nd).2 (by simpa using h1) (by simpa using h2) hk
def start (N:List bv) (vs:List V):St:=vs.map some++IT (N.length - vs.length) none
def fE (CX:fD) (P:ff) (w:hX) (K:bn) (mg:bv->Option ap) (base:ii) (N:List bv) (qual:bv) (scope:zd) (f:ag) (cd:ap) (A:rb) (outer:List Op) (s:ba) (H:Hp) (E:XK):Cx where
 prog:=P
 w:=w
 K:=K
 mg:=mg
 base:=base
 A:=A.deeper (envOfC qual scope s.heap.objs.size f cd)
 N:=N
 s₀:=s
 H₀:=H
 env:=envOfC qual scope s.heap.objs.size f cd
 outer:=outer
 stack:=envOfC qual scope s.heap.objs.size f cd::outer
 ex:=[]
 calm:=true
 fn:=fun _=>true
 pn:=[]
 xe:=fun e s'=>wpAny (model P w) (A.deeper (envOfC qual scope s.heap.objs.size f cd)) (leaving (envOfC qual scope s.heap.objs.size f cd) e) (fun _ bb=>CX outer H s E e bb) (fun e' bb=>CX outer H s E e' bb) s'
theorem vR {sc:zd}{n:Nat}{x:bv}(h:sc.names.lookup x=some .cell):∃c,(cellsFrom n sc.names []).lookup x=some c :=by
 have q:=PySem.W.cellsFrom_some sc.names n [] (.inl h);exact Option.isSome_iff_exists.mp q
theorem CB {CX:fD}{P:ff}{w:hX}{K:bn}{mg:bv->Option ap}{base:ii}{N ps:List bv}{qual:bv}{scope:zd}{f:ag}{cd:ap}{A:rb}{outer:List Op}{s s1:ba}{H:Hp}{E:XK}{us:List ap}{vs:List V}
  (S:aP N ps scope) (hd:A.handled=none) (e0:sN P w K mg base A outer s H) (hl:vs.length=ps.length) (r:Vals vs us)
  (x:InCallC s s.heap.objs.size (bindL (envOfC qual scope s.heap.objs.size f cd).kindOf (ps.zip us) fun _=>none) (cellsFrom (s.heap.objs.size+1) scope.names []) (bindC (envOfC qual scope s.heap.objs.size f cd).kindOf (ps.zip us) fun _=>none) s1) :
  Inv (fE CX P w K mg base N qual scope f cd A outer s H E) [] (start N vs) H s1 :=by
 have bM:ps.length<=N.length :=by have:=congrArg List.length S.pre;rw[XM]at this;omega
 obtain⟨h1,tk,rfl,hk⟩:=x.done;have Mv:∀b:ag,b ∉ (fE CX P w K mg base N qual scope f cd A outer s H E).ex:=fun b z=>absurd (show b∈([]:List ag) from z) (by simp)
 refine⟨⟨e0.mod,S.kind,rfl,rfl,ce _,fun y z c h1 h2=>?_,fun y hy=>?_,fun y c _ h=>?_,fun _=>hd,rb.frames_deeper e0.frames,.inr ⟨rfl,rfl⟩,fun b z=>absurd z (Mv b),e0.bs,e0.bsz,fun b _ _=>Mv b,fun b z=>absurd z (Mv b),e0.funs,e0.frf⟩,
  rfl,⟨e0.bare,ce _⟩,Un.kept hk,⟨_,x.toInCall.ns,fun i y v h1 h2 h3=>?_⟩,fun y c h=>⟨_,x.cell y c h⟩,e0.hok.fresh (ce _),fun y c h=>?_,fun p hp=>absurd (show p∈([]:List (ag×lc)) from hp) (by simp),e0.hok.kept hk,?_⟩
 ·exact name_of_addr x.apart (AN h1) (AN h2)
 ·have hy:scope.names.lookup y=some .cell\/scope.names.lookup y=some .free:=hy;rcases hy with hy|hy
  ·exact vR hy
  ·exact absurd rfl (S.nofree _ (AN hy))
 ·exact OR (x.above y c (AN h))
 ·have hi:i<vs.length :=by
   unfold start at h2;by_cases hi:i<vs.length
   ·exact hi
   ·rw[AE (by simpa using hi)]at h2
    rw[JJ]at h2;split at h2<;>cases h2
  have ha:vs[i]?=some v :=by
   unfold start at h2;rw[wb (by simpa using hi),db]at h2
   cases e:vs[i]? with
   |none=>rw[e]at h2;cases h2
   |some a=>rw[e]at h2;cases h2;rfl
  obtain⟨u,hu,rv⟩:=r.get ha;have hp:ps[i]?=some y :=by
   rw[<- S.pre,List.getElem?_take_of_lt (by omega)];exact h1
  have RV:ps.Nodup :=by rw[<- S.pre];exact S.nd.sublist (List.take_sublist _ _)
  refine⟨u,rv,?_⟩;rcases S.par y (lp hp) with k|k
  ·exact .inl ⟨k,ue RV hp hu k⟩
  ·obtain⟨c,e⟩:=vR (n:=s.heap.objs.size+1) k;refine .inr ⟨.inl k,c,e,?_⟩;have q:=x.cell y c e;rw[uf RV hp hu (by show scope.names.lookup y≠_;rw[k];decide)]at q
   exact q
 ·exact e0.hok.fresh (OR (x.above y c (AN h)))
 ·unfold start;show _=N.length;rw[xb,ci,XC];omega
theorem Av {CX:fD}{P:ff}{w:hX}{K:bn}{mg:bv->Option ap}{base:ii}{k:Nat}{f:ag}{name qual:bv}{params:OP}{body:List ut}{scope:zd}{dV kV doc pm cE ct oc:ap}{an od:Option ag}
  {kh:Array (Option ap)} {N ps:List bv} {sp:Sp} (lk:K.lookup f=some ⟨oc,od,.func (BS name qual params body scope dV kV doc pm an cE ct),kh⟩) (dI:MW K cE qual=true) (S:aP N ps scope)
  (len:∀vs H Q E,sp vs H Q E->vs.length=ps.length)
  (lL:∀(A:rb) (outer:List Op) (s:ba) (H:Hp) (vs:List V) (Q:VK) (E:XK),bh k (A.deeper (envOfC qual scope s.heap.objs.size f cE))->sp vs H Q E->
   ∃t,eZ (fE CX P w K mg base N qual scope f cE A outer s H E) body t/\t {nx:=fun _ H'=>Q .ao H',rt:=Q} (start N vs) H) :
  FnOk P w K mg base CX (k+1) f (BS name qual params body scope dV kV doc pm an cE ct) ps sp :=by
 refine⟨len,fun A outer s H args us vs Q E hr e0 hb r ki=>?_⟩
 have hl:=len _ _ _ _ ki;have KX:K.In s.heap:=e0.mod.kin.keeps fun b o e=>(e0.bs b o e).1
 have lim:s.heap.NoLimit:=e0.mod.nolimit.keeps fun b o e=>(e0.bs b o e).1
 have Aw:∀y∈ps.zip us,scope.names.lookup y.1=some .local\/(scope.names.lookup y.1=some .cell/\((cellsFrom (s.heap.objs.size+1) scope.names []).lookup y.1).isSome=true):=fun⟨n,v⟩ hy=>by
  rcases S.par n (WA hy).1 with q|q
  ·exact .inl q
  ·exact .inr ⟨q,PySem.W.cellsFrom_some _ _ _ (.inl q)⟩
 refine codeAny_call_function hr.depth (KX _ _ lk) rfl S.co S.gen rfl (PySem.W.codeRec_of KX dI) (hb _ _ _ _ ?_);refine wpAny_newFunctionEnv_cells S.kind Aw fun env he s1 x=>?_
 subst he;refine⟨lim.keeps x.toInCall.keep,codeAny_func ?_⟩;obtain⟨t,ht,hq⟩:=lL A outer s H vs Q E (hr.deeper _) ki;have I:Inv (fE CX P w K mg base N qual scope f cE A outer s H E) [] (start N vs) H s1:=CB S hr.hd e0 hl r x;refine on (ht [] s1 (start N vs) H _ I hq) (fun fl s' hs=>?_) fun e s' hs=>hs
 have fin:∀{aF:St} {H':Hp} {v:V} {u:ap},Inv (fE CX P w K mg base N qual scope f cE A outer s H E) [] aF H' s'->RelV v u->Q v H'->CE outer P w H s Q u s':=
  fun {aF H' v u} J rv q=>⟨v,H',J.os,J.bare,J.base,J.hok,rv,q⟩
 cases fl with
 |ret u=>
  obtain⟨v,aF,H',J,rv,q⟩:=hs;exact fin J rv q
 |next=>
  obtain⟨aF,H',J,q⟩:=hs;exact fin (v:=V.ao) (u:=wE) J rfl q
 |brk=>
  obtain⟨_,_,_,q⟩:=hs;exact DO q
 |cont=>
  obtain⟨_,_,_,q⟩:=hs;exact DO q
section
variable {X:Cx}{x:bv}{p pos:ww}{e:dL}{es:List dL}{t:TA}{id T:String}{r:List V->Hp->VK->Prop}
def HN (r:List V->Hp->VK->Prop) (t:TA):TE:=fun σ H Q=>t σ H fun vs H1=>r vs H1 Q
theorem FQ (hc:cU X (.builtin id) r) (hg:Gl X x) (hm:X.mg x=none) (hv:bootBuiltins x=some (.builtin id)) (ha:PA X (e::es) t) (hn:x ≠ "__name__" := by decide) (cZ:(x==("__debug__" : bv))=false :=by decide)
  (he:starEach (e::es) X.env=(false,eval e X.env)::starEach es X.env :=by rfl) (bM:(backTo pos (starEach es X.env)).any (·.1)=false :=by rfl):PE X (.Call (.Name x p) (e::es) [] pos) (HN r t) :=by
 refine⟨?_⟩;intro pins s σ H Q I h;refine B0 (fI I hg hm hv ?_ hn cZ);exact PyProof.Rows.callWith_builtin1 (thn (ha pos pins s σ H _ I h) fun us s1 ⟨vs,H1,I1,r1,q1⟩=>hc pins s1 σ H1 vs us Q I1 r1 q1) he bM
theorem CC (hc:cU X (.type T) r) (hg:Gl X x) (hm:X.mg x=none) (hv:bootBuiltins x=some (.type T)) (ha:PA X (e::es) t) (hn:x ≠ "__name__" := by decide) (cZ:(x==("__debug__" : bv))=false :=by decide)
  (he:starEach (e::es) X.env=(false,eval e X.env)::starEach es X.env :=by rfl) (bM:(backTo pos (starEach es X.env)).any (·.1)=false :=by rfl):PE X (.Call (.Name x p) (e::es) [] pos) (HN r t) :=by
 refine⟨?_⟩;intro pins s σ H Q I h;refine B0 (fI I hg hm hv ?_ hn cZ);exact Fk (thn (ha pos pins s σ H _ I h) fun us s1 ⟨vs,H1,I1,r1,q1⟩=>hc pins s1 σ H1 vs us Q I1 r1 q1) he bM
theorem Ax (hc:cU X (.type T) r) (hg:Gl X x) (hm:X.mg x=none) (hv:bootBuiltins x=some (.type T)) (hn:x ≠ "__name__" := by decide) (cZ:(x==("__debug__" : bv))=false :=by decide) :
  PE X (.Call (.Name x p) [] [] pos) (HN r Mr) :=by
 refine⟨?_⟩;intro pins s σ H Q I h;refine B0 (fI I hg hm hv ?_ hn cZ);exact PyProof.Rows.callWith_type0 (hc pins s σ H [] [] Q I .nil h)
end
end L2
namespace HT
open PySem PyProof.Rows
def lexLt:List Int->List Int->Bool
 | [],[]=>false
 | [],_::_=>true
 |_::_,[]=>false
 |x::xs,y::ys=>if x=y then lexLt xs ys else decide (x<y)
theorem i9 (x y:Int) (xs ys:List Int):lexLt (x::xs) (y::ys)=if x=y then lexLt xs ys else decide (x<y):=rfl
section
variable {prog:ff}{w:hX}{A:rb}{E:ap->ba->Prop}{s:ba}
theorem JA {t b:ag}{vs ws:List ap}{Q:ap->ba->Prop}(ht:Z8 s.heap t vs.toArray) (hb:Z8 s.heap b ws.toArray) (hv:vs≠[])
  (h1:ws=[]->Q (.ref t) s) (h2:ws≠[]->Q (.ref s.heap.objs.size) {s with heap:=s.heap.push {cls:=.type "tuple",data:=.seq (vs++ws).toArray}})
  (hsz:vs.length+ws.length<=sizeLine):wpAny (model prog w) A (binaryOp .Add (.ref t) (.ref b)) Q E s :=by
 obtain⟨⟨cls,dd,data,sl⟩,ho,hc,n,hd⟩:=id ht;obtain⟨⟨Tz,y7,data2,ug⟩,jB,y8,n2,hd2⟩:=id hb;simp only at hc hd y8 hd2;subst hc hd y8 hd2;have e:vs.toArray++ws.toArray=(vs++ws).toArray :=by simp
 by_cases hw:ws=[]
 ·exact concat_meets ⟨_,ho,rfl⟩ ⟨_,jB,rfl⟩ ZA seq_tuple_add Yn Yf (Ya _ _)
   (tuple_addW1 t b vs.toArray ws.toArray n n2 dd y7 sl ug (by simpa using hv) (by simp[hw])) ⟨ho,jB,h1 hw⟩
 ·refine concat_meets ⟨_,ho,rfl⟩ ⟨_,jB,rfl⟩ ZA seq_tuple_add Yn Yf (Ya _ _)
   (tuple_addW2 t b vs.toArray ws.toArray n n2 dd y7 sl ug (by simpa using hv) (by simpa using hw) (by rw[im,im];exact hsz)) ⟨ho,jB,?_⟩
  rw[e];exact h2 hw
def aQ (n d:Nat):Option Int->Nat
 |none=>d
 |some v=>if v<0 then (v+(n:Int)).toNat else min v.toNat n
theorem Mw (n d:Nat) (hd:d<=n) (o:Option Int):aQ n d o<=n :=by
 cases o with
 |none=>exact hd
 |some v=>
  show (if v<0 then (v+(n:Int)).toNat else min v.toNat n)<=n
  by_cases hv:v<0
  ·rw[if_pos hv];omega
  ·rw[if_neg hv];exact Nat.min_le_right _ _
theorem y9 (v:Int) (n d:Nat):(if v<0 then max (v+(n:Int)) 0 else min v (n:Int))=((aQ n d (some v):Nat):Int) :=by
 show (if v<0 then max (v+(n:Int)) 0 else min v (n:Int))=(((if v<0 then (v+(n:Int)).toNat else min v.toNat n):Nat):Int)
 by_cases hv:v<0
 ·simp only[if_pos hv];omega
 ·simp only[if_neg hv];omega
theorem Ay (lo hi:Option Int) (n:Nat):X1 lo hi 1 (n:Int)=(((aQ n 0 lo:Nat):Int),((aQ n n hi:Nat):Int)) :=by
 have h1:¬ ((1:Int)<0) :=by omega
 unfold X1;simp only[h1,if_false];refine Prod.ext ?_ ?_
 ·cases lo with
  |none=>rfl
  |some v=>exact y9 v n 0
 ·cases hi with
  |none=>rfl
  |some v=>exact y9 v n n
theorem Az (i j:Nat):Sm (i:Int) (j:Int) 1=j - i :=by
 unfold Sm;have h1:(1:Int) > 0 :=by omega
 simp only[h1,if_true,Int.ediv_one];split<;>omega
theorem qV {v:ap}{o:Option Int}{Q:Option Int->ba->Prop}(p:YL v o) (h:Q o s):wpAny (model prog w) A (ul.Slice.slicePartIndex v) Q E s :=by
 cases p with
 |none=>exact slicePart_none h
 |int i t=>exact slicePart_int h
theorem jC {sl:ag}{vl vu:ap}{lo hi:Option Int}{n:Nat}{Q:Int×Int×Nat->ba->Prop}(hs:s.heap.IsSliceOf sl vl vu .none) (pl:YL vl lo) (pu:YL vu hi)
  (h:Q (((aQ n 0 lo:Nat):Int),1,aQ n n hi - aQ n 0 lo) s):wpAny (model prog w) A (ul.Slice.sliceApplied (.ref sl) (pure (n:Int))) Q E s :=by
 obtain⟨os,eA,uh,kj⟩:=id hs;unfold ul.Slice.sliceApplied ul.Slice.sliceFields;refine ac (ac (IR eA kj (x:=vl) rfl (ac (IR eA kj (x:=vu) rfl (ac (IR eA kj (x:=.none) rfl (bi ?_)))))));refine ac (slicePart_none ?_);show wpAny _ _ (if ((1:Int)==0)=true then _ else _) _ _ s
 rw[if_neg (by decide)]
 refine ac (qV pl (ac (qV pu (ac (bi ?_)))));show wpAny _ _ (match X1 lo hi 1 (n:Int) with|(lo,hi)=>pure (lo,(1:Int),Sm lo hi 1)) _ _ s
 rw[Ay lo hi n];show wpAny _ _ (pure (((aQ n 0 lo:Nat):Int),(1:Int),Sm ((aQ n 0 lo:Nat):Int) ((aQ n n hi:Nat):Int) 1)) _ _ s;rw[Az];exact bi h
theorem FR (xs:Array ap) (i k:Nat):((lw k).filterMap fun (m:Nat)=>xs[((i:Int)+(m:Int) * 1).toNat]?).toArray=((xs.toList.drop i).take k).toArray :=by
 have e:(fun (m:Nat)=>xs[((i:Int)+(m:Int) * 1).toNat]?)=fun m=>xs[i+m]?:=by
  funext m
  have:((i:Int)+(m:Int) * 1).toNat=i+m :=by omega
  rw[this]
 rw[e];have:=pick_run xs i k;rw[List.filterMap_map]at this;have e2:((fun x=>xs[x]?) ∘ fun x=>i+x)=fun m=>xs[i+m]?:=rfl
 rw[e2]at this;rw[this]
theorem o9 {t sl:ag}{items:Array ap}{vl vu:ap}{lo hi:Option Int}{Q:ap->ba->Prop}(ht:Z8 s.heap t items) (hs:s.heap.IsSliceOf sl vl vu .none) (pl:YL vl lo) (pu:YL vu hi)
  (hw:¬ (aQ items.size 0 lo=0/\aQ items.size items.size hi=items.size))
  (h:Q (.ref s.heap.objs.size) {s with heap:=s.heap.push {cls:=.type "tuple",data:=.seq ((items.toList.drop (aQ items.size 0 lo)).take (aQ items.size items.size hi - aQ items.size 0 lo)).toArray}})
  (hsz:items.size<=sizeLine):wpAny (model prog w) A (getItem (.ref t) (.ref sl)) Q E s :=by
 have vw:sizeOk (.seq ((items.toList.drop (aQ items.size 0 lo)).take (aQ items.size items.size hi - aQ items.size 0 lo)).toArray) :=by
  show ((items.toList.drop (aQ items.size 0 lo)).take (aQ items.size items.size hi - aQ items.size 0 lo)).toArray.size<=sizeLine;rw[im,XM,SZ,jp];omega
 have hj:aQ items.size items.size hi<=items.size:=Mw _ _ (ce _) hi;obtain⟨os,eA,uh,kj⟩:=id hs;have qX:s.TypeIs (.ref sl) "slice" := ⟨os,eA,uh⟩
 unfold getItem;try with_reducible refine xL ?_
 first|refine ac (bi ?_)|skip
 refine ac (wpAny_sequenceKey ht.typeIs (by decide) ?_)
 refine ac (wP (name:=i0 "__getitem__") ht.typeIs Go
  (u8 Go ht.typeIs entry_tuple_getitem ?_ (args_tuple_getitem _ _)))
 show wpAny _ _ (ul.Tuple.tupleItemsOf (.ref t)>>=_) _ _ s;refine ac (tupleItemsOf_ ht ?_);refine ac (NG qX ?_);rw[if_pos (by decide)]
 refine ac (jC hs pl pu ?_);have HP:¬ ((((aQ items.size 0 lo:Nat):Int)==0 && (1:Int)==1 && (aQ items.size items.size hi - aQ items.size 0 lo)==items.size)=true) :=by
  intro q;rw[EM,EM]at q;have q1:((aQ items.size 0 lo:Nat):Int)=0:=eq_of_beq q.1.1;have q2:aQ items.size items.size hi - aQ items.size 0 lo=items.size:=eq_of_beq q.2;exact hw ⟨by omega,by omega⟩
 show wpAny _ _ (if (((aQ items.size 0 lo:Nat):Int)==0 && (1:Int)==1 && (aQ items.size items.size hi - aQ items.size 0 lo)==items.size)=true then _ else _) _ _ s
 rw[if_neg HP,FR];first
  |exact ac (m:=IF _) (sB (bi ⟨_,rfl,bi h⟩) vw)
  |exact ac (m:=IF _) (sB (ac (bi (bi ⟨_,rfl,bi h⟩))) vw)
  |exact ac (ac (m:=IF _) (sB (bi (bi ⟨_,rfl,bi h⟩)) vw))
  |exact ac (ac (m:=IF _) (sB (bi ⟨_,rfl,bi h⟩) vw))
end
end HT
namespace L2
open PySem PySem.Spec PyProof.Rows
abbrev TO:=St->Hp->(Option Int->Hp->Prop)->Prop
def PO (X:Cx) (e:Option dL) (t:TO):Prop:=
 ∀(pins:List (ag×lc)) (s:ba) (σ:St) (H:Hp) (Q:Option Int->Hp->Prop),Inv X pins σ H s->t σ H Q->
  wpAny (model X.prog X.w) X.A (evalPart e X.env) (fun u s'=>∃o H',Inv X pins σ H' s'/\YL u o/\Q o H') X.xe s
def JB:TO:=fun _ H Q=>Q none H
def Qv (t:TE):TO:=fun σ H Q=>t σ H fun x H1=>∃i,x=.int i/\Q (some i) H1
section
variable {X:Cx}{e:dL}{te:TE}{lo hi:Option dL}{tl th:TO}{pos p2:ww}
theorem JC:PO X none JB :=by
 intro pins s σ H Q I h;rw[evalPart_none];exact bi ⟨none,H,I,.none,h⟩
theorem JD (h:PE X e te):PO X (some e) (Qv te) :=by
 intro pins s σ H Q I hw;rw[evalPart_some];refine thn (h pins s σ H _ I hw) fun u s1 ⟨x,H1,I1,r1,q1⟩=>?_
 obtain⟨i,rfl,q⟩:=q1;obtain⟨t,rfl⟩:=r1;exact⟨some i,H1,I1,.int i t,q⟩
def CD (X:Cx) (r:V->Option Int->Option Int->Hp->VK->Prop):Prop:=
 ∀(pins:List (ag×lc)) (s:ba) (σ:St) (H:Hp) (x:V) (v vl vu:ap) (lo hi:Option Int) (sl:ag) (Q:VK),Inv X pins σ H s->RelV x v->s.heap.IsSliceOf sl vl vu .none->YL vl lo->YL vu hi->r x lo hi H Q->
  ∃T id,typeLookup (.type T) "__getitem__" = pure (some (.builtin id))/\s.TypeIs v T/\wpAny (model X.prog X.w) X.A (getItem v (.ref sl)) (EP X pins σ Q) X.xe s
def UP (r:V->Option Int->Option Int->Hp->VK->Prop) (te:TE) (tl th:TO):TE:=fun σ H Q=>te σ H fun x H1=>tl σ H1 fun l H2=>th σ H2 fun u H3=>r x l u H3 Q
theorem FT {r:V->Option Int->Option Int->Hp->VK->Prop}(hr:CD X r) (he:PE X e te) (hl:PO X lo tl) (hu:PO X hi th):PE X (.Subscript e (.Slice lo hi none p2) pos) (UP r te tl th) :=by
 refine⟨?_⟩;intro pins s σ H Q I h;refine Subscript_ (thn (he pins s σ H _ I h) fun v s1 ⟨x,H1,I1,r1,q1⟩=>?_)
 refine wpAny_Slice (thn (hl pins s1 σ H1 _ I1 q1) fun vl s2 ⟨l,H2,I2,pl,q2⟩=>thn (hu pins s2 σ H2 _ I2 q2) fun vu s3 ⟨u,H3,I3,pu,q3⟩=>?_)
 rw[evalPart_none];refine bi ?_;have I4:Inv X pins σ H3 {s3 with heap:=s3.heap.push {cls:=.type "slice",data:=.fields #[vl,vu,.none]}}:=I3.kept (t':=s3.toks) fun b ob q=>br _ q
 obtain⟨T,id,hT,ht,hg⟩:=hr pins {s3 with heap:=s3.heap.push {cls:=.type "slice",data:=.fields #[vl,vu,.none]}} σ H3 x v vl vu l u s3.heap.objs.size Q I4 r1 (ii.IsSliceOf.new ..) pl pu q3
 show wpAny (model X.prog X.w) X.A (subscriptTail e (.Slice lo hi none p2) v (.ref s3.heap.objs.size)) (EP X pins σ Q) X.xe {s3 with heap:=s3.heap.push {cls:=.type "slice",data:=.fields #[vl,vu,.none]}}
 exact tail_any (ops:=[.ref s3.heap.objs.size,v]) ht hT hg (by with_unfolding_all rfl)
def iO (xs:List V) (lo hi:Option Int):List V:=(xs.drop (HT.aQ xs.length 0 lo)).take (HT.aQ xs.length xs.length hi - HT.aQ xs.length 0 lo)
theorem pH (xs:List V) (lo hi:Option Int):(iO xs lo hi).length<=xs.length :=by
 unfold iO;rw[XM,SZ];omega
def TC (K:bn):V->Option Int->Option Int->Hp->VK->Prop:=fun x lo hi H Q=>∃a xs,x=.ref a/\bW K H a xs /\
 ¬ (HT.aQ xs.length 0 lo=0/\HT.aQ xs.length xs.length hi=xs.length)/\∀p,H p=none->Q (.ref p) (upd H p (.tup (iO xs lo hi)))
theorem Mx:CD X (TC X.K) :=by
 intro pins s σ H x v vl vu lo hi sl Q I rx hs pl pu h;obtain⟨a,xs,rfl,hx,hw,q⟩:=h;cases rx;obtain⟨its,r,ht,hz⟩:=I.tuple hx;have hlen:its.toArray.size=xs.length :=by rw[im];exact r.length.symm
 refine⟨"tuple",_,Go.lookup,ht.typeIs,?_⟩
 refine HT.o9 ht hs pl pu (by rw[hlen];exact hw) ?_ (by rw[hlen];exact hz)
 rw[hlen];refine⟨.ref s.heap.objs.size,_,I.laid (t':=s.toks) (o:=.tup (iO xs lo hi)) (fun b ob q=>br _ q) (ce _) ?_,rfl,q _ (I.hok.fresh (ce _))⟩
 exact⟨v6 (pH xs lo hi) hz,_,(r.drop (HT.aQ xs.length 0 lo)).take (HT.aQ xs.length xs.length hi - HT.aQ xs.length 0 lo),iM.new _ _⟩
def Qw (K:bn):R2:=fun x y H Q=>∃a b xs ys,x=.ref a/\y=.ref b/\bW K H a xs/\bW K H b ys/\xs≠[]/\xs.length+ys.length<=sizeLine /\
 (ys=[]->Q (.ref a) H)/\(ys≠[]->∀p,H p=none->Q (.ref p) (upd H p (.tup (xs++ys))))
theorem Vals.oJ {xs:List V}{us:List ap}(r:Vals xs us):us=[] ↔ xs=[] :=by
 cases r with
 |nil=>simp
 |cons _ _=>simp
theorem JE:OpR X (binaryOp .Add) (Qw X.K) :=by
 intro pins s σ H x y v u Q I rx ry h;obtain⟨a,b,xs,ys,rfl,rfl,ha,hb,hx,hz,q1,q2⟩:=h;cases rx;cases ry;obtain⟨its,r1,p1,_⟩:=I.tuple ha;obtain⟨fc,r2,p2,_⟩:=I.tuple hb;refine HT.JA p1 p2 (fun z=>hx (r1.oJ.mp z)) (fun z=>⟨.ref a,H,I,rfl,q1 (r2.oJ.mp z)⟩) (fun z=>?_) (by rw[<- r1.length,<- r2.length];exact hz)
 refine⟨.ref s.heap.objs.size,_,I.laid (t':=s.toks) (o:=.tup (xs++ys)) (fun b ob q=>br _ q) (ce _) ?_,rfl,q2 (fun w=>z (r2.oJ.mpr w)) _ (I.hok.fresh (ce _))⟩
 exact⟨by rw[xb];exact hz,_,r1.append r2,iM.new _ _⟩
end
def jD (n:Nat) (i:Int):Option Nat:=if 0<=i then (if i<n then some i.toNat else none) else if -(n:Int)<=i then some (i+n).toNat else none
def dE {α:Type}(xs:List α) (i:Int):Option α:=(jD xs.length i).bind fun j=>xs[j]?
theorem sO {n:Nat}{i:Int}{j:Nat}(h:jD n i=some j):seqIndex? i n=some j/\j<n /\ -(n:Int)<=i/\i<n :=by
 unfold jD at h;by_cases h0:0<=i
 ·rw[if_pos h0]at h;by_cases h1:i<n
  ·rw[if_pos h1]at h;have e:i.toNat=j:=l7 h;exact⟨by rw[seqIndex_of h0 h1,e],by omega,by omega,h1⟩
  ·rw[if_neg h1]at h;cases h
 ·rw[if_neg h0]at h;by_cases h1 : -(n:Int)<=i
  ·rw[if_pos h1]at h;have e:(i+n).toNat=j:=l7 h;exact⟨by rw[seqIndex_neg (by omega) h1,e],by omega,h1,by omega⟩
  ·rw[if_neg h1]at h;cases h
theorem sP {α:Type}{xs:List α}{i:Int}{v:α}(h:dE xs i=some v):∃j,seqIndex? i xs.length=some j/\xs[j]?=some v/\j<xs.length /\ -(xs.length:Int)<=i/\i<xs.length :=by
 unfold dE at h;cases e:jD xs.length i with
 |none=>rw[e]at h;cases h
 |some j=>
  rw[e]at h;obtain⟨h1,h2,h3,h4⟩:=sO e;exact⟨j,h1,h,h2,h3,h4⟩
theorem eF {α:Type}{xs:List α}{j:Nat}{v:α}(h:xs[j]?=some v):dE xs (j:Int)=some v :=by
 have hj:j<xs.length:=(cr.mp h).1;have e:jD xs.length (j:Int)=some j :=by
  unfold jD;rw[if_pos (by omega),if_pos (by omega)];simp
 unfold dE;rw[e];exact h
def zb (b:dL):Prop:=∀o i,subscripted b false o i=operate [o,i] (getItem o i)
def nz (X:Cx) (r:R2):Prop:=
 ∀(value slice:dL) (pins:List (ag×lc)) (s:ba) (σ:St) (H:Hp) (x y:V) (v u:ap) (Q:VK),Inv X pins σ H s->RelV x v->RelV y u->r x y H Q->
  subscripted slice false v u=operate [v,u] (getItem v u)->wpAny (model X.prog X.w) X.A (subscriptTail value slice v u) (EP X pins σ Q) X.xe s
def CF (X:Cx) (id:String) (r:V->List V->Hp->VK->Prop):Prop:=
 ∀(pins:List (ag×lc)) (s:ba) (σ:St) (H:Hp) (x:V) (xs:List V) (v:ap) (us:List ap) (Q:VK),Inv X pins σ H s->RelV x v->Vals xs us->r x xs H Q->
  wpAny (model X.prog X.w) X.A (call (.builtin id) (v::us)) (EP X pins σ Q) X.xe s
section
variable {X:Cx}{a b:dL}{ta tb:TE}{pos:ww}
theorem nz.or {r r':R2}(h:nz X r) (h':nz X r'):nz X (fun x y H Q=>r x y H Q\/r' x y H Q) :=by
 intro value slice pins s σ H x y v u Q I rx ry q hs;rcases q with q|q
 ·exact h value slice pins s σ H x y v u Q I rx ry q hs
 ·exact h' value slice pins s σ H x y v u Q I rx ry q hs
theorem Qx {r:R2}(hr:nz X r) (ha:PE X a ta) (hb:PE X b tb) (hs:zb b):PE X (.Subscript a b pos) (Ct r ta tb) :=by
 refine⟨?_⟩;intro pins s σ H Q I h;exact Subscript_ (FE ha hb I h fun v u s2 x y H2 I2 rx ry q=>hr a b pins s2 σ H2 x y v u Q I2 rx ry q (hs _ _))
def MA (K:bn):R2:=fun x y H Q=>∃p xs i v,x=.ref p/\y=.int i/\bL K H p xs/\dE xs i=some v/\Q v H
def MB (K:bn):R2:=fun x y H Q=>∃p xs i v,x=.ref p/\y=.int i/\bW K H p xs/\dE xs i=some v/\Q v H
def MC:R2:=fun x y H Q=>∃z i c,x=.str z/\y=.int i/\z.length<=sizeLine/\dE z.cps.toList i=some c/\Q (.str ⟨#[c]⟩) H
theorem JF:nz X (MA X.K) :=by
 intro value slice pins s σ H x y v u Q I rx ry h hs;obtain⟨p,xs,i,z,rfl,rfl,hq,he,q⟩:=h;cases rx;obtain⟨t,rfl⟩:=ry;obtain⟨its,r,pl,hz⟩:=I.list hq;obtain⟨j,h1,h2,h3,h4,h5⟩:=sP he;obtain⟨w,ew,jy⟩:=r.get h2;have hl:=r.length;have hn:=lb;have fin:EP X pins σ Q w s:=⟨z,H,I,jy,q⟩;by_cases h0:0<=i
 ·have hj:i.toNat=j :=by
   rw[seqIndex_of h0 h5]at h1;exact l7 h1
  exact item_listR pl.isList h0 (by omega) (by rw[hj];simpa using ew) fin hs
 ·have hj:(i+(its.toArray.size:Int)).toNat=j :=by
   rw[seqIndex_neg (by omega) h4]at h1
   rw[im,<- hl];exact l7 h1
  exact subscriptTail_builtinR (x:=w) pl.isList.typeIs slot_list_getitem.lookup
   (wpAny_getItem_list_neg (Q:=fun r s'=>r=w/\EP X pins σ Q r s') pl.isList (by omega) (by rw[im]<;>omega) (by omega) (by rw[hj];simpa using ew) ⟨rfl,fin⟩) hs
theorem ME:nz X (MB X.K) :=by
 intro value slice pins s σ H x y v u Q I rx ry h hs;obtain⟨p,xs,i,z,rfl,rfl,hq,he,q⟩:=h;cases rx;obtain⟨t,rfl⟩:=ry;obtain⟨its,r,pl,hz⟩:=I.tuple hq;obtain⟨j,h1,h2,h3,h4,h5⟩:=sP he;obtain⟨w,ew,jy⟩:=r.get h2;have hl:=r.length;have hn:=lb;have fin:EP X pins σ Q w s:=⟨z,H,I,jy,q⟩;exact subscriptTail_builtinR (x:=w) pl.typeIs slot_tuple_getitem.lookup
  (getItem_tuple (j:=j) (Q:=fun r s'=>r=w/\EP X pins σ Q r s') pl (by omega) (by omega) (by rw[im,<- hl];exact h1) (by simpa using ew) ⟨rfl,fin⟩) hs
theorem MF:nz X MC :=by
 intro value slice pins s σ H x y v u Q I rx ry h hs;obtain⟨z,i,c,rfl,rfl,hz,he,q⟩:=h;obtain⟨t,rfl⟩:=rx;obtain⟨t',rfl⟩:=ry;obtain⟨j,h1,h2,h3,h4,h5⟩:=sP he;have hl:z.cps.toList.length=z.length :=by simp[bv.length]
 rw[hl]at h1 h4 h5;have hn:=lb;exact tail_any (typeIs_str s z t) slot_str_getitem.lookup (getItem_str (c:=c) (by
  have e1:decide (i < -(2 ^ 63:Int))=false:=decide_eq_false (by omega)
  have e2:decide (i ≥ 2 ^ 63)=false:=decide_eq_false (by omega)
  rw[e1,e2,Zg]) (by rw[h1];simpa using h2) ⟨.str ⟨#[c]⟩,H,I.tok _,⟨_,rfl⟩,q⟩) hs
def RW (K:bn):R2:=fun x y H Q=>MA K x y H Q\/MB K x y H Q\/MC x y H Q
theorem MG:nz X (RW X.K):=JF.or (ME.or MF)
theorem AA (its:List ap) (n j:Nat) (u:ap):CS (·.setIfInBounds j u) {cls:=.type "list",data:=.seq its.toArray n}={cls:=.type "list",data:=.seq (its.set j u).toArray n}:=by
 simp[CS]
theorem Inv.lst {pins:List (ag×lc)}{σ:St}{H:Hp}{s:ba}{p:ag}{xs:List V}(I:Inv X pins σ H s) (h:H p=some (.lst xs)) :
  ∃(its:List ap) (n:Nat),Vals xs its/\s.heap.get? p=some {cls:=.type "list",data:=.seq its.toArray n}/\xs.length<=sizeLine :=by
 obtain⟨z,its,n,r,e⟩:=I.hok p _ h;exact⟨its,n,r,e,z⟩
theorem Inv.MH {pins:List (ag×lc)}{σ:St}{H:Hp}{s:ba}{p:ag}{xs ys:List V}{its its':List ap}{n n':Nat}{f:lc->lc}(I:Inv X pins σ H s) (h:H p=some (.lst xs))
  (ho:s.heap.get? p=some {cls:=.type "list",data:=.seq its.toArray n}) (hf:f {cls:=.type "list",data:=.seq its.toArray n}={cls:=.type "list",data:=.seq its'.toArray n'}) (r:Vals ys its') (hz:ys.length<=sizeLine) (t:Nat) :
  Inv X pins σ (upd H p (.lst ys)) {s with heap:=s.heap.update p f,toks:=t}:=by
 have e:(s.heap.update p f).get? p=some {cls:=.type "list",data:=.seq its'.toArray n'}:=by
  rw[AL f ho (by rw[hf]<;>rfl),hf]
 refine I.write (x:=p) (e:=p) (by rw[h];trivial) (.inl rfl) (fun b u hb q=>(AT _ _ (wp hb)).trans q) ⟨_,e⟩ ?_
 exact⟨hz,its',n',r,e⟩
def Qy:V->V->V->Hp->(Hp->Prop)->Prop:=fun o i v H Q=>∃p xs k j,o=.ref p/\i=.int k/\H p=some (.lst xs)/\jD xs.length k=some j/\Q (upd H p (.lst (xs.set j v)))
theorem set_list:LQ X Qy :=by
 intro pins s σ H o i v ov iv u Q I ro ri rv h;obtain⟨p,xs,k,j,rfl,rfl,hp,hj,q⟩:=h;cases ro;obtain⟨t,rfl⟩:=ri;obtain⟨its,n,r,ho,hz⟩:=I.lst hp;obtain⟨h1,h2,h3,h4⟩:=sO hj;have hl:=r.length;have hn:=lb;have I':Inv X pins σ (upd H p (.lst (xs.set j v))) {s with heap:=s.heap.update p (CS (·.setIfInBounds j u))}:=
  I.MH hp ho (AA its n j u) (r.set rv j) (by rw[WE];exact hz) s.toks
 by_cases h0:0<=k
 ·have hk:k.toNat=j :=by
   rw[seqIndex_of h0 h4]at h1;exact l7 h1
  exact PySem.W.ki_setAt ho h0 (by omega) (by rw[im,<- hl];exact h4) (by rw[hk];exact⟨_,I',q⟩)
 ·have hk:(k+(its.toArray.size:Int)).toNat=j :=by
   rw[seqIndex_neg (by omega) h3]at h1
   rw[im,<- hl];exact l7 h1
  exact PySem.W.ki_setBack ho (by omega) (by rw[im,<- hl];exact h3) (by omega) (by rw[hk];exact⟨_,I',q⟩)
theorem vT (lo hi:Option Int) (n:Nat):(sliceBounds lo hi none n).1=((HT.aQ n 0 lo:Nat):Int)/\(sliceBounds lo hi none n).2.1=((HT.aQ n n hi:Nat):Int)/\(sliceBounds lo hi none n).2.2=1 :=by
 refine⟨?_,?_,rfl⟩
 ·cases lo with
  |none=>simp[sliceBounds,HT.aQ]
  |some i=>
   simp only[sliceBounds,HT.aQ,Option.getD_none,show (1:Int) > 0 by decide,if_true]
   by_cases h:i<0
   ·simp only[h,if_true]<;>omega
   ·simp only[h,if_false]<;>omega
 ·cases hi with
  |none=>simp[sliceBounds,HT.aQ]
  |some i=>
   simp only[sliceBounds,HT.aQ,Option.getD_none,show (1:Int) > 0 by decide,if_true]
   by_cases h:i<0
   ·simp only[h,if_true]<;>omega
   ·simp only[h,if_false]<;>omega
theorem ve (its:List ap) (lo hi:Option Int):slicePick its.toArray lo hi none=((its.drop (HT.aQ its.length 0 lo)).take (HT.aQ its.length its.length hi - HT.aQ its.length 0 lo)).toArray :=by
 obtain⟨h1,h2,h3⟩:=vT lo hi its.toArray.size;unfold slicePick;rw[h1,h2,h3];simp only[sliceRange_one,pick_run,im]<;>rfl
def TF (K:bn):V->Option Int->Option Int->Hp->VK->Prop:=fun x lo hi H Q=>∃a xs,x=.ref a/\bL K H a xs/\∀p,H p=none->Q (.ref p) (upd H p (.lst (iO xs lo hi)))
theorem UA:CD X (TF X.K) :=by
 intro pins s σ H x v vl vu lo hi sl Q I rx hs pl pu h;obtain⟨a,xs,rfl,hx,q⟩:=h;cases rx;obtain⟨its,r,ht,hz⟩:=I.list hx;have hlen:=r.length;refine⟨"list",_,slot_list_getitem.lookup,ht.isList.typeIs,?_⟩
 refine wpAny_getItem_list_slice ht.isList hs pl pu .none (by simp) ?_ (by rw[im]<;>omega)
 rw[ve,<- hlen];refine⟨.ref s.heap.objs.size,_,I.laid (t':=s.toks) (o:=.lst (iO xs lo hi)) (fun b ob q=>br _ q) (ce _) ?_,rfl,q _ (I.hok.fresh (ce _))⟩
 exact⟨v6 (pH xs lo hi) hz,_,0,(r.drop (HT.aQ xs.length 0 lo)).take (HT.aQ xs.length xs.length hi - HT.aQ xs.length 0 lo),ij _ rfl⟩
theorem vf:cU X (.type "tuple") (fun xs H Q=>∃p ys,xs=[.ref p]/\((bL X.K H p ys/\∀l,H l=none->Q (.ref l) (upd H l (.tup ys)))\/(bW X.K H p ys/\Q (.ref p) H))) :=by
 intro pins s σ H xs us Q I r h;obtain⟨p,ys,rfl,h⟩:=h;obtain⟨u,rfl,rx⟩:=vals1 r;cases rx;rcases h with ⟨hq,q⟩|⟨hq,q⟩
 ·obtain⟨its,r',pl,hz⟩:=I.list hq;have hlen:=r'.length;refine call_tuple_list pl.isList (fun h' kp=>?_) (by simp only[im]<;>omega)
  have I1:Inv X pins σ H {s with heap:=h'}:=I.kept (t':=s.toks) kp
  have I2:Inv X pins σ (upd H h'.objs.size (.tup ys)) {s with heap:=h'.push {cls:=.type "tuple",data:=.seq its.toArray}}:=
   I1.laid (t':=s.toks) (fun b o e=>br _ e) (ce _) (show ObjOk X.prog X.w _ _ _ (.tup ys) from ⟨hz,its,r',iM.new _ _⟩)
  exact⟨.ref h'.objs.size,_,I2,rfl,q _ (I1.hok.fresh (ce _))⟩
 ·obtain⟨its,r',pl,hz⟩:=I.tuple hq;exact call_tuple_same pl ⟨.ref p,H,I,rfl,q⟩
def MI (K:bn) (T:String) (x:V) (H:Hp):Prop:=match x with
 | .str _=>T = "str"
 | .int _=>T = "int"
 | .ref p=>(T = "list" /\ ∃xs,bL K H p xs)\/(T = "tuple" /\ ((∃o,K.lookup p=some o/\o.cls=.type "tuple" /\ o.dict=none)\/∃xs,H p=some (.tup xs))) \/
   (T = "dict" /\ ((∃ah,H p=some (.dK ah))\/∃ah,H p=some (.dT ah)))\/(T = "set" /\ ∃S n,H p=some (.set S n))
 |_=>False
theorem MJ {pins:List (ag×lc)}{σ:St}{H:Hp}{s:ba}{T:String}{x:V}{v:ap}(I:Inv X pins σ H s) (r:RelV x v) (ty:MI X.K T x H) :
  s.TypeIs v T/\∀a,v=.ref a->∃ob,s.heap.get? a=some ob/\ob.dict=none :=by
 cases x with
 |str z=>
  obtain⟨t,rfl⟩:=r;cases (show T = "str" from ty)
  exact⟨typeIs_str s z t,fun _ e=>nomatch e⟩
 |int i=>
  obtain⟨t,rfl⟩:=r;cases (show T = "int" from ty)
  exact⟨typeIs_int s i t,fun _ e=>nomatch e⟩
 |ref p=>
  cases r;rcases ty with ⟨rfl,xs,hq⟩|⟨rfl,⟨o,hk,hc,hd⟩|⟨xs,hk⟩⟩|⟨rfl,hk⟩|⟨rfl,S,n,hk⟩
  ·obtain⟨its,_,pl,_⟩:=I.list hq;refine⟨pl.isList.typeIs,fun a e=>?_⟩
   cases e;obtain⟨o,n,e,c,hd,_⟩:=pl;exact⟨o,e,hd⟩
  ·refine⟨⟨o,I.ez p o hk,hc⟩,fun a e=>?_⟩
   cases e;exact⟨o,I.ez _ o hk,hd⟩
  ·obtain⟨_,its,_,o,e,c,n,d,hd⟩:=I.hok p _ hk;refine⟨⟨o,e,c⟩,fun a e2=>?_⟩
   cases e2;exact⟨o,e,hd⟩
  ·have z:∃o,s.heap.get? p=some o/\o.ExactDict :=by
    rcases hk with ⟨ah,hk⟩|⟨ah,hk⟩
    ·obtain⟨_,_,_,_,o,_,_,e,ex,_⟩:=I.hok p _ hk;exact⟨o,e,ex⟩
    ·obtain⟨_,_,_,_,o,_,_,e,ex,_⟩:=I.hok p _ hk;exact⟨o,e,ex⟩
   obtain⟨o,e,ex⟩:=z;refine⟨⟨o,e,ex.1⟩,fun a e2=>?_⟩
   cases e2;exact⟨o,e,ex.2.1⟩
  ·obtain⟨o,_,_,_,e,ex,_⟩:=I.hok p _ hk;refine⟨⟨o,e,ex.1⟩,fun a e2=>?_⟩
   cases e2;exact⟨o,e,ex.2.1⟩
 |_=>exact DO ty
def RX (K:bn) (T:String) (r:V->List V->Hp->VK->Prop) (to:TE) (t:TA):TE:=fun σ H Q=>to σ H fun x H1=>MI K T x H1/\t σ H1 fun xs H2=>r x xs H2 Q
variable {o e:dL}{es:List dL}{to:TE}{t:TA}{name:bv}{apos aM:ww}{T id:String}{r:V->List V->Hp->VK->Prop}
theorem Qz (pa:PlainAttrs T) (slot:Slot T name id) (CG:typeOf (.builtin id)=pure (.type "method_descriptor")) (hm:CF X id r) (ho:PE X o to) (ha:PA X (e::es) t)
  (ja:attributeBase o name X.env (eval o X.env)=eval o X.env :=by rfl)
  (lM:((backTo aM (starEach (e::es) X.env)).all (fun x => !x.1) && (backToKw aM (keywordEach [] X.env)).all (fun x=>x.1.isSome)
   && decide ((e::es).length+([]:List SI).length+(if ([]:List SI).isEmpty then 0 else 1)<30))=true :=by rfl)
  (hline:(apos.endLine==aM.line)=true :=by rfl) (hs:starEach (e::es) X.env=(false,eval e X.env)::starEach es X.env :=by rfl) (gH:(backTo aM (starEach es X.env)).any (·.1)=false :=by rfl) :
  PE X (.Call (.Attribute o name apos) (e::es) [] aM) (RX X.K T r to t) :=by
 refine⟨?_⟩;intro pins s σ H Q I h;refine wpAny_Call_method_late ja lM hline rfl (thn (ho pins s σ H _ I h) fun v s1 ⟨x,H1,I1,r1,ty,q1⟩=>?_)
 obtain⟨h1,h2⟩:=MJ I1 r1 ty;refine⟨T,id,pa,slot,CG,h1,h2,?_⟩;have hA:=ha aM pins s1 σ H1 _ I1 q1;rw[hs]at hA ⊢;refine Calls.callWith_builtin (by show (false || (backTo aM (starEach es X.env)).any (·.1))=false;rw[gH]<;>rfl) (YM ?_)
 exact thn hA fun us s2 ⟨vs,H2,I2,r2,q2⟩=>hm pins s2 σ H2 x vs v us Q I2 r1 r2 q2
end
def RY (X:Cx) (id:String) (r:V->List V->Hp->VK->Prop):Prop:=
 ∀(pins:List (ag×lc)) (s:ba) (σ:St) (H:Hp) (x:V) (xs:List V) (v:ap) (us:List ap) (Q:VK),Inv X pins σ H s->RelV x v->Vals xs us->r x xs H Q->
  wpAny (model X.prog X.w) X.A (call (.builtin id) (v::us)) (EP X pins σ Q) X.xe s
theorem Vals.one:∀{x:V}{us:List ap},Vals [x] us->∃u,us=[u]/\RelV x u
 |_,_,.cons r .nil=>⟨_,rfl,r⟩
theorem Vals.eraseIdx:∀{xs:List V}{us:List ap}(i:Nat),Vals xs us->Vals (xs.eraseIdx i) (us.eraseIdx i)
 |_,_,_,.nil=>.nil
 |_,_,0,.cons _ t=>t
 |_,_,i+1,.cons r t=>.cons r (Vals.eraseIdx i t)
theorem ui {α:Type}:∀(l:List α) (i:Nat),(l.eraseIdx i).length<=l.length
 | [],_=>ce _
 |_::_,0=>IS _
 |_::r,i+1=>Nat.succ_le_succ (ui r i)
section
variable {X:Cx}{pins:List (ag×lc)}{σ:St}{H:Hp}{s:ba}{l b:ag}{xs ys zs:List V}
theorem Inv.vU {its its':List ap}{n:Nat}{f:Array ap->Array ap}{t':Nat}(I:Inv X pins σ H s) (hH:H l=some (.lst xs))
  (e:s.heap.get? l=some {cls:=.type "list",data:=.seq its.toArray n}) (hf:f its.toArray=its'.toArray) (hv:Vals ys its') (hz:ys.length<=sizeLine) :
  Inv X pins σ (upd H l (.lst ys)) {s with heap:=s.heap.update l (CS f),toks:=t'}:=by
 have q:=PySem.IsL.update e f;rw[hf]at q;refine I.write (x:=l) (e:=l) (by rw[hH];exact trivial) (.inl rfl) (fun b' u hb hu=>(AT s.heap (CS f) (wp hb)).trans hu) ⟨_,q⟩ ?_
 exact⟨hz,its',_,hv,q⟩
theorem Inv.TH {its:List ap}{t':Nat}(I:Inv X pins σ H s) (hv:Vals ys its) (hz:ys.length<=sizeLine) :
  Inv X pins σ (upd H s.heap.objs.size (.lst ys)) {s with heap:=s.heap.push {cls:=.type "list",data:=.seq its.toArray},toks:=t'}:=
 I.laid (fun _ _ q=>br _ q) (ce _) ⟨hz,its,0,hv,ij _ rfl⟩
theorem Inv.pX (I:Inv X pins σ H s) (hH:H l=some (.lst xs)):xs.length<=sizeLine/\∃(its:List ap) (n:Nat),Vals xs its/\xs.length=its.length/\s.heap.get? l=some {cls:=.type "list",data:=.seq its.toArray n}:=by
 obtain⟨z,its,n,r,e⟩:=I.hok l _ hH;exact⟨z,its,n,r,r.length,e⟩
end
section
variable {X:Cx}
def JG:V->List V->Hp->VK->Prop:=fun x vs H Q=>∃l xs y,x=.ref l/\vs=[y]/\H l=some (.lst xs)/\xs.length<sizeLine/\Q .ao (upd H l (.lst (xs++[y])))
theorem uj:RY X "list.append" JG :=by
 intro pins s σ H x vs v us Q I rx rv h;obtain⟨l,xs,y,rfl,rfl,hH,hz,q⟩:=h;cases rx;obtain⟨u,rfl,ru⟩:=rv.one;obtain⟨z,its,n,r,hl,e⟩:=I.pX hH;refine call_meets F.slot_list_append ⟨_,e,rfl⟩ F.entry_list_append (F.args_list_append_2 _ _) (PySem.list_append l its.toArray n u (by rw[im];omega)) ⟨e,?_⟩
 refine⟨.ao,_,I.vU (its':=its++[u]) hH e (by simp) (r.append (.cons ru .nil)) ?_,rfl,q⟩
 rw[xb,Da];omega
def MK:V->List V->Hp->VK->Prop:=fun x vs H Q=>∃l xs i k y,x=.ref l/\vs=[.int i]/\H l=some (.lst xs) /\ -(2 ^ 63)<=i/\i<2 ^ 63/\seqIndex? i xs.length=some k/\xs[k]?=some y/\Q y (upd H l (.lst (xs.eraseIdx k)))
theorem FU:RY X "list.pop" MK :=by
 intro pins s σ H x vs v us Q I rx rv h;obtain⟨l,xs,i,k,y,rfl,rfl,hH,h1,h2,hk,hy,q⟩:=h;cases rx;obtain⟨u,rfl,ru⟩:=rv.one;obtain⟨t,rfl⟩:=ru;obtain⟨z,its,n,r,hl,e⟩:=I.pX hH;obtain⟨w,hw,jy⟩:=r.get hy;refine call_meets F.slot_list_pop ⟨_,e,rfl⟩ F.entry_list_pop (F.args_list_pop_2 _ _)
  (MeetsSeq.list_pop_at l its.toArray n i t k w (fitsIndex_both h1 h2) (by rw[im,<- hl];exact hk) (by rw[<- Na];exact hw) (by rw[im];omega)) ⟨e,?_⟩
 refine⟨y,_,I.vU (its':=its.eraseIdx k) hH e ?_ (r.eraseIdx k) ?_,jy,q⟩
 ·show its.toArray.eraseIdxIfInBounds k=(its.eraseIdx k).toArray;rw[List.eraseIdxIfInBounds_toArray]
 ·have:=ui xs k;omega
end
end L2
namespace RZ
open PySem PySem.W PySem.Calls PyProof.Rows
theorem qY {P:Z3}{h:ii}:∀(ns:List Int) (vs:List ap),WellAll P h vs (ns.map WData.int)->Po vs ns :=by
 intro ns;induction ns with
 |nil=>
  intro vs w;rw[Lu]at w;cases w;exact .nil
 |cons n ns ih=>
  intro vs w;rw[ss]at w;cases w with
  |cons a b=>
   cases a;exact .cons _ _ (ih _ b)
theorem CH {l:OpenLaw}{n:Nat}(hn:l.most=some n) {P:Z3}{h:ii}{args:List WData}{vals:List ap}
  (AB:l.row.toRowW.claim.pre args=true) (HQ:WellAll P h vals args) :
  ∃a vs ns,vals=[li a]/\args=[WData.list (ns.map WData.int)]/\h.get? a=some {cls:=.type "list",data:=.seq vs.toArray}/\Po vs ns/\ns.length<=n :=by
 have UQ:WShape.hasAll [] args [.list .int]=true:=(pre_splitW AB).1;have hc:l.pre.holds [] {args:=args}=true:=(pre_splitW AB).2;obtain⟨d,r,rfl,h1,h2⟩:=hasAllW_cons UQ;obtain rfl:=hasAllW_nil h2;obtain⟨xs,rfl,h3⟩:=hasW_list h1;obtain⟨ns,rfl⟩:=items_int h3;have hlen:ns.length<=n :=by
  unfold OpenLaw.pre at hc;have h4:(WTm.not (.lt (.lit (.int (n:Int))) (.len (.arg 0)))).holds [] {args:=[.list (ns.map .int)]}=true :=by
   have h4:=(holds_andW hc).1;rw[hn]at h4;exact h4
  have h5:=condW_of h4 (w_not (w_lt w_lit (w_len_list (w_arg rfl))));rw[ci]at h5;refine Yu fun q=>?_
  have q':(n:Int)<((ns.length:Nat):Int) :=by omega
  first
   |(rw[decide_eq_true q']at h5;exact absurd h5 (by decide))
   |(simp at h5;omega)
 cases HQ with
 |cons w1 w2=>
  cases w2;cases w1 with
  |list ho eQ=>exact⟨_,_,ns,rfl,rfl,ho,qY ns _ eQ,hlen⟩
theorem CI (l:OpenLaw) (args:List WData):l.row.toRowW.claim.post args (.bool true) args=true:=
 postW_of (r:=l.row.toRowW) (X:=(true==true))
  (show WShape.has [] (.bool true) .bool=true by first|rfl|decide|simp[WShape.has,WShape.arms,WShape.armsAll])
  (show (WTm.eq .res (.lit (.bool true))).value [] {args:=args,res:=some (.bool true),after:=args}=some (.bool (true==true)) from w_eq_bool (w_res rfl) w_lit) rfl
theorem yt {l:OpenLaw}{n:Nat}{q:ff}{loose:List bv}{XP:(bv->Option ap)->ii->Prop}{YP:hX->ii->Prop}{d:DefRec}
  (hn:l.most=some n) (CJ:d.params.defaults=[])
  (call:∀(w:hX) (s₀ aw:ba) (mg mb:bv->Option ap) (fa:ag) (o:lc) (pm cd doc:ap) (a:ag) (vs:List ap) (ns:List Int),
   Ground q loose [] XP w s₀ mg mb aw.heap->YP w aw.heap->
   aw.heap.get? fa=some o->o.data=.func (docDef d.name d.params d.body d.scope pm cd doc)->aw.heap.CodeRec cd d.name->mg d.name=some (.ref fa)->
   aw.heap.get? a=some {cls:=.type "list",data:=.seq vs.toArray}->Po vs ns->ns.length<=n->aw.gens=#[]->
   codeAny (model l.prog w) callerA (.call (.ref fa) ⟨[.ref a],[]⟩) (fun r s'=>r=.ok (.ret (.bool true))/\OldK aw.heap s'.heap/\s'.os=aw.os/\ZW s'.gens) aw) :
  WalkO q loose XP YP l.row.toRowW d [] (fun f vs=>Z0 f vs) :=by
 intro w s₀ aw mg mb G Y fa o pm cd doc dV kV ho hd dI hD CK hg args vals as AB WZ W7 HQ W8;obtain rfl:dV=.none:=Dflts.none hD CJ;obtain rfl:kV=.none:=Dflts.noKw hD;obtain⟨a,vs,ns,rfl,rfl,FV,hints,hlen⟩:=CH hn AB HQ;refine enter_call (XB (call w s₀ aw mg mb fa o pm cd doc a vs ns G Y ho (fd_plain hd) dI CK FV hints hlen hg) fun r s' hq=>?_)
 obtain⟨rfl,h2,h3,h4⟩:=hq;exact⟨.inl ⟨.bool true,.bool true,[],rfl,fun _=>rfl,.bool true,CI l _,fun _=>⟨XT.nil,fun _ hm=>(nomatch hm)⟩⟩,h2,h3,h4⟩
end RZ
namespace L2
open PySem PySem.Spec PyProof.Rows
theorem uk:∀{vs:List ap}{ns:List Int},Po vs ns->Vals (ns.map V.int) vs
 |_,_,.nil=>.nil
 |_,_,.cons n t h=>.cons ⟨t,rfl⟩ (uk h)
def cO (s:ut):OP:=match s with
 | .FunctionDef _ a _ _ _ _ _ _ _ _=>a
 |_=>{posonlyargs:=[],args:=[],vararg:=none,kwonlyargs:=[],kw_defaults:=[],kwarg:=none,defaults:=[]}
def bA (s:ut):List ut:=match s with
 | .FunctionDef _ _ b _ _ _ _ _ _ _=>b
 |_=>[]
def aj (s:ut):zd:=match s with
 | .FunctionDef _ _ _ _ _ _ sc _ _ _=>sc
 |_=>{kind:=.function,names:=[],isGenerator:=false,isCoroutine:=false}
abbrev bq:fD:=fun _ _ _ _ _ _=>False
abbrev E0:XK:=fun _ _ _=>False
theorem bN {X:Cx}:Passes bq X E0:=fun _ _ _ _ _ _ _ h=>h.elim
structure um (K:bn) (x qual:bv) (st:ut) (f:ag) (fd:mf):Prop where
 ex:∃(oc:ap) (od:Option ag) (kV doc pm:ap) (an:Option ag) (cE ct:ap) (kh:Array (Option ap)),
  fd=BS x qual (cO st) (bA st) (aj st) .none kV doc pm an cE ct/\K.lookup f=some ⟨oc,od,.func fd,kh⟩/\MW K cE qual=true
 kp:Cc K (.ref f)=true
section
variable {P:ff}{w:hX}{K:bn}{mg:bv->Option ap}{base:ii}
theorem um.binds {x qual:bv}{st:ut}{f:ag}{fd:mf}{ps:List bv}(F:um K x qual st f fd)
  (h:∀(kV doc pm:ap) (an:Option ag) (cE ct:ap) (us:List ap),us.length=ps.length->bindArgs (BS x qual (cO st) (bA st) (aj st) .none kV doc pm an cE ct) ⟨us,[]⟩=pure (ps.zip us)):Binds K fd ps [] :=by
 obtain⟨oc,od,kV,doc,pm,an,cE,ct,kh,rfl,lk,dI⟩:=F.ex;exact .all (h kV doc pm an cE ct)
theorem ML {x qual:bv}{st:ut}{f:ag}{oc:ap}{od an:Option ag}{kh:Array (Option ap)}{kV doc pm cE ct:ap}(l:K.lookup f=some ⟨oc,od,.func (BS x qual (cO st) (bA st) (aj st) .none kV doc pm an cE ct),kh⟩)
  (c:MW K cE qual=true) (k:Cc K (.ref f)=true):um K x qual st f (BS x qual (cO st) (bA st) (aj st) .none kV doc pm an cE ct):=⟨⟨oc,od,kV,doc,pm,an,cE,ct,kh,rfl,l,c⟩,k⟩
end
section
variable {X:Cx}
theorem pv (i:Nat) {x:bv}{pos:ww}(hN:X.N[i]?=some x :=by rfl) (hv:pE X.env.scope x :=by first|exact sK rfl|exact RI (sK rfl)|exact RI (RI rfl)) (hd:(x==("__debug__" : bv))=false :=by decide)
  (dI:(x==("__classdict__" : bv))=false :=by decide):PE X (.Name x pos) (Ly i):=vJ hN hv hd dI
end
end L2
set_option maxHeartbeats 4000000
namespace L2
open PySem PySem.Spec PyProof.Rows
theorem lN {env:Op}:∀(names:List (bv×W1)) (acc:List (bv×ag)),(∀n,(n,wS)∈names->∃c,env.cells.lookup n=some c)->
  (∀n c,acc.lookup n=some c->env.cells.lookup n=some c)->
  ∃cl,(forIn names acc fun x r=>if (x.2==wS)=true then (do let a <- cellOf env x.1;pure (YN ((x.1,a)::r))) else pure (YN r):Zp (List (bv×ag)))=pure cl /\
   (∀n c,cl.lookup n=some c->env.cells.lookup n=some c)/\(∀n,(n,wS)∈names->∃c,cl.lookup n=some c)/\(∀n c,acc.lookup n=some c->∃c',cl.lookup n=some c')
 | [],acc,_,h2=>⟨acc,rfl,h2,fun n h=>by simp at h,fun n c h=>⟨c,h⟩⟩
 |(n,k)::r,acc,h1,h2=>by
          rw[List.forIn_cons];cases hk:(k==wS) with
          |true=>
           have ek:k=wS :=by simpa using hk
           subst ek;obtain⟨c,hc⟩:=h1 n i4;have e1:cellOf env n=pure c :=by unfold cellOf;rw[hc]
           obtain⟨cl,e,a1,a2,a3⟩:=lN r ((n,c)::acc) (fun m hm=>h1 m (f8 _ hm)) (fun m c' hm=>by
            rw[Tk]at hm;cases hb:m==n with
            |true=>
             rw[hb]at hm;have e2:m=n :=by simpa using hb
             rw[e2,hc];exact hm
            |false=>rw[hb]at hm;exact h2 m c' hm)
           refine⟨cl,?_,a1,fun m hm=>?_,fun m c' hm=>?_⟩
           ·simp only[if_true,e1];exact e
           ·rcases l8.mp hm with z|z
            ·cases z;exact a3 n c (by rw[Tk];simp)
            ·exact a2 m z
           ·by_cases hb:m=n
            ·subst hb;exact a3 m c (by rw[Tk];simp)
            ·exact a3 m c' (by
              rw[Tk];have:(m==n)=false :=by simpa using hb
              rw[this];exact hm)
          |false=>
           obtain⟨cl,e,a1,a2,a3⟩:=lN r acc (fun m hm=>h1 m (f8 _ hm)) h2
           refine⟨cl,?_,a1,fun m hm=>?_,a3⟩
           ·simp only[gc,if_false];exact e
           ·rcases l8.mp hm with z|z
            ·cases z;simp at hk
            ·exact a2 m z
theorem jb {scope:zd}{env:Op}(h:∀n,(n,wS)∈scope.names->∃c,env.cells.lookup n=some c) :
  ∃cl,closureFor scope env=pure cl/\(∀n c,cl.lookup n=some c->env.cells.lookup n=some c)/\(∀n,(n,wS)∈scope.names->∃c,cl.lookup n=some c) :=by
 obtain⟨cl,e,a1,a2,_⟩:=lN (env:=env) scope.names [] h (fun n c hn=>by simp at hn)
 refine⟨cl,?_,a1,a2⟩;simp only[closureFor];rw[e];rfl
def cxBlock (X:Cx) (N':List bv) (env':Op) (A':rb) (stack':List Op) (s:ba) (H:Hp) (ex:List ag):Cx:=
 {X with N:=N',s₀:=s,H₀:=H,env:=env',A:=A',outer:=X.stack,stack:=stack',ex:=ex,fn:=fun _=>false,pn:=[],xe:=fun _ _=>False}
theorem uo {X:Cx}{pins:List (ag×lc)}{σ aF:St}{H H':Hp}{s:ba}{N':List bv}{env':Op}{A':rb}{stack':List Op}{ex:List ag}{h1:ii}{m0:bv->Option ap}{g':Array Yt}{tk:Nat}
  (I:Inv X pins σ H s) (Aw:env'.scope.kind=.function) (QB:env'.globals=X.env.globals) (TJ:env'.builtins=X.env.builtins)
  (gu:∀n c,env'.cells.lookup n=some c->X.env.cells.lookup n=some c)
  (AD:∀x,(env'.kindOf x=some .cell\/env'.kindOf x=some .free)->∃c,env'.cells.lookup x=some c)
  (hh:X.calm=true->A'.handled=none) (MM:A'.frames=some stack') (TK:stack'=X.stack\/(stack'=env'::X.stack/\env'.frame=some env'.locals))
  (hC:s.heap.objs.size<=env'.locals) (hf:∀b∈ex,dz X pins H b) (TL:∀b∈ex,b<s.heap.objs.size)
  (R0:Un (dS X.stack) ex H H' s.heap h1) (hok:cN X.prog X.w H' h1) (MN:H' env'.locals=none) (HR:∀b o,s.heap.get? b=some o->h1.get? b=some o) (gI:h1.Ns env'.locals m0)
  (MO:∀(i:Nat) (x:bv) (v:V),N'[i]?=some x->aF[i]?=some (some v)->pE env'.scope x->(env'.kindOf x=some .cell\/env'.kindOf x=some .free)/\pE X.env.scope x/\(X.env.kindOf x=some .cell\/X.env.kindOf x=some .free)/\∃j:Nat,X.N[j]?=some x/\σ[j]?=some (some v))
  (hlen:aF.length=N'.length) (hg:Gn s.gens.size g'):Inv (cxBlock X N' env' A' stack' s H ex) [] aF H' {s with heap:=h1,gens:=g',toks:=tk}:=by
 have R1:∀b∈ex,∀x c,X.env.cells.lookup x=some c->c≠b:=fun b hb=>(hf b hb).2.2.2.2.1
 refine⟨⟨I.ok.mod,Aw,QB.trans I.ok.glob,TJ.trans I.ok.blt,hC,fun x y c a b=>I.ok.inj x y c (gu x c a) (gu y c b),AD,fun _ _ z=>(nomatch z),hh,MM,TK,fun b hb=>⟨l5 (l9 (TL b hb) hC),fun x c e=>R1 b hb x c (gu x c e)⟩,
   I.bs,v6 I.ok.bsz I.sz,fun b o e hb=>?_,fun b hb z=>?_,I.stack,I.oG⟩,rfl,hg,R0,⟨m0,gI,fun i x v e1 e2 e3=>?_⟩,fun x c e=>?_,MN,fun x c e=>?_,fun p hp=>absurd (show p∈([]:List (ag×lc)) from hp) (by simp),hok,hlen⟩
 ·rcases (hf b hb).2.2.2.1 with z|z
  ·exact I.ok.noex b o e z
  ·exact absurd (l9 (io e) (v6 I.ok.bsz z)) (LH _)
 ·rcases l8.mp (I.iC b z) with q|q
  ·exact(hf b hb).2.1 q
  ·exact(hf b hb).2.2.1 q
 ·obtain⟨k1,vx,k2,j,n1,n2⟩:=MO i x v e1 e2 e3;obtain⟨m,hn,hl⟩:=I.loc;obtain⟨u,r,l⟩:=hl j x v n1 n2 vx;refine⟨u,r,.inr ⟨k1,?_⟩⟩;obtain⟨c',R3⟩:=AD x k1;rcases l with ⟨kl,_⟩|⟨_,c,ec,z⟩
  ·rcases k2 with q|q<;>(rw[kl]at q;cases q)
  ·have:c'=c:=l7 ((gu x c' R3).symm.trans ec);subst this;exact⟨c',R3,z.keeps HR⟩
 ·obtain⟨v,z⟩:=I.cell x c (gu x c e);exact⟨v,z.keeps HR⟩
 ·obtain⟨v,o,ho,hd⟩:=I.cell x c (gu x c e);exact R0.free c o ho (I.freeC x c (gu x c e)) fun z=>R1 c z x c (gu x c e) rfl
theorem lookup_map2 {c:bv->W1->W1}:∀{names:List (bv×W1)}{x:bv},(names.map fun (p:bv×W1)=>(p.1,c p.1 p.2)).lookup x=(names.lookup x).map (c x)
 | [],x=>rfl
 |(n,k')::r,x=>by
          have ih:=@lookup_map2 c r x;rw[ss,Tk,Tk];cases hx:x==n with
          |true=>
           have e:x=n :=by simpa using hx
           subst e;rfl
          |false=>exact ih
theorem jE {scope:zd}{env:Op}(x:bv):(relabel scope env).names.lookup x=(scope.names.lookup x).map fun k=>if (k==.free && env.scope.kind==.function && env.kindOf x==some .cell)=true then .cell else k :=by
 have e:(relabel scope env).names=scope.names.map fun p=>(p.1,(fun n k=>if (k==wS && env.scope.kind==.function && env.kindOf n==some .cell)=true then W1.cell else k) p.1 p.2) :=by
  unfold relabel;dsimp only;congr 1
  funext p
  obtain⟨n,k⟩:=p;dsimp only;split<;>rfl
 rw[e];exact lookup_map2 (c:=fun n k=>if (k==wS && env.scope.kind==.function && env.kindOf n==some .cell)=true then W1.cell else k)
def aJ (N:List bv) (sc scope:zd) (N':List bv) (tn:Nat) (idx:List Nat):Prop:=
 scope.kind=.function/\(∀y∈scope.names,y.2≠.cell/\(y.2=.local->scope.names.lookup y.1=some .local)/\(y.2=.free->sc.names.lookup y.1=some .cell\/sc.names.lookup y.1=some .free)) /\
  N'.length=tn+idx.length/\∀p∈idx.zip (N'.drop tn),N[p.1]?=some p.2/\scope.names.lookup p.2=some .free
instance (N:List bv) (sc scope:zd) (N':List bv) (tn:Nat) (idx:List Nat):Decidable (aJ N sc scope N' tn idx) :=by unfold aJ;infer_instance
def bQ (tn:Nat) (idx:List Nat) (σ:St):St:=IT tn none++idx.map fun i=>(σ[i]?).join
theorem aJ.at {N:List bv}{sc scope:zd}{N':List bv}{tn:Nat}{idx:List Nat}(B:aJ N sc scope N' tn idx) {σ:St}{i:Nat}{x:bv}{v:V}(h1:N'[i]?=some x) (h2:(bQ tn idx σ)[i]?=some (some v)) :
  scope.names.lookup x=some .free/\∃j:Nat,N[j]?=some x/\σ[j]?=some (some v) :=by
 obtain⟨_,_,b3,b4⟩:=B;unfold bQ at h2;by_cases hi:i<tn
 ·rw[wb (by simpa using hi),JJ,if_pos hi]at h2
  cases h2
 ·rw[AE (by simpa using hi),XC,db]at h2
  cases e:idx[i - tn]? with
  |none=>rw[e]at h2;cases h2
  |some k=>
   rw[e]at h2;have h3:(σ[k]?).join=some v:=l7 h2;have e2:(N'.drop tn)[i - tn]?=some x :=by
    rw[List.getElem?_drop];have:tn+(i - tn)=i :=by omega
    rw[this];exact h1
   have m:(k,x)∈idx.zip (N'.drop tn) :=by
    refine lp (i:=i - tn) ?_;rw[xz];exact⟨e,e2⟩
   obtain⟨a,b⟩:=b4 _ m;refine⟨b,k,a,?_⟩;cases q:σ[k]? with
   |none=>rw[q]at h3;cases h3
   |some w=>rw[q]at h3;exact congrArg some h3
theorem aJ.len {N:List bv}{sc scope:zd}{N':List bv}{tn:Nat}{idx:List Nat}(B:aJ N sc scope N' tn idx) (σ:St):(bQ tn idx σ).length=N'.length :=by
 rw[B.2.2.1];unfold bQ;simp
section
variable {X:Cx}
def iF (X:Cx) (ifs:List dL) (tt:TT):Prop:=
 ∀(pins:List (ag×lc)) (s:ba) (σ:St) (H:Hp) (Q:Bool->Hp->Prop),Inv X pins σ H s->tt σ H Q->
  wpAny (model X.prog X.w) X.A (forIn ifs true fun c r=>if r=true then do let ok <- isTrue c X.env (eval c X.env);pure (YN ok) else pure (YN r)) (TP X pins σ Q) X.xe s
def QC:TT:=fun _ H Q=>Q true H
theorem JH:iF X [] QC:=fun _ _ _ H _ I h=>wpAny_tests_nil ⟨H,I,h⟩
theorem JI {c:dL}{tc:TT}(h:PT X c tc):iF X [c] tc:=fun pins s σ H Q I q=>wpAny_tests_one (h pins s σ H Q I q)
abbrev CL (X:Cx) (N':List bv) (scope:zd) (cl:List (bv×ag)) (C:ag) (s:ba) (H:Hp) (fp:List ag):Cx:=cxBlock X N' (compEnvC scope cl C X.env) X.A X.stack s H fp
abbrev Blk (X:Cx) (N':List bv) (scope:zd) (P:Cx->Prop):Prop:=∀(cl:List (bv×ag)) (C:ag) (s:ba) (H:Hp) (fp:List ag),P (CL X N' scope cl C s H fp)
end
abbrev TB:=St->Hp->(St->Hp->Prop)->Prop
def PB (X:Cx) (b:Zp Unit) (t:TB):Prop:=∀(pins:List (ag×lc)) (s:ba) (σ:St) (H:Hp) (Q:St->Hp->Prop),Inv X pins σ H s->t σ H Q->wpAny (model X.prog X.w) X.A b (fun _ s'=>∃aF H',Inv X pins aF H' s'/\Q aF H') X.xe s
def AF (J:It) (g:TG) (tt:TT) (tb:TB) (QE:St->Hp->Prop) (W:Nat->Nat->St->Hp->Prop):Prop:=∀i m τ H,W i m τ H->
 (J.stop i H/\QE τ H)\/(J.go i H/\∀x H',J.yld i H x H'->g x τ H' fun aN H2=>tt aN H2 fun b H3=>if b=true then tb aN H3 fun UR H4=>∃m',m'<m/\W (i+1) m' UR H4 else ∃m',m'<m/\W (i+1) m' aN H3)
def AG (e tg iter:dL) (ifs:List dL) (d:Nat) (it acc:ap) (env:Op) (body:Zp Unit):Zp Fin:=do
 standAt iter.pos
 match <- pyNext it with
 |none=>pure (.done .next)
 |some v=>
  letOwnedTupleGo tg it v
  assign tg env v
  let mut ok:=true
  for c in ifs do
   if ok then ok <- isTrue c env (eval c env)
  if ok then body
  again (.compLoop e d it acc env)
section
variable {Y:Cx}{e tg iter:dL}{ifs:List dL}{dp:Nat}{it:ag}{acc:ap}{body:Zp Unit}{fp:List ag}{bE:Nat->ii->Prop}{J:It}{g:TG}{tt:TT}{tb:TB}{QE:St->Hp->Prop}{W:Nat->Nat->St->Hp->Prop}{R:ZY->ba->Prop}{pins:List (ag×lc)}{τ:St}{H:Hp}{s:ba}{m0:Nat}
structure FW (Y:Cx) (e tg iter:dL) (ifs:List dL) (dp:Nat) (acc:ap) (body:Zp Unit):Prop where
 q:∀it,(Code.compLoop e dp it acc Y.env).quiet=true
 den:∀it Q E s,wpAny (model Y.prog Y.w) Y.A ((compTurn e dp it acc Y.env).onRaise (fun x=>do noteFrame x Y.env;theTreesLotGoes x)) Q E s->wpAny (model Y.prog Y.w) (Y.A.under (.compLoop e dp it acc Y.env)) ((model Y.prog Y.w).den (.compLoop e dp it acc Y.env)) Q E s
 turn:∀it,compTurn e dp it acc Y.env=AG e tg iter ifs dp it acc Y.env body
 denS:∀it Q E s,wpAny (model Y.prog Y.w) Y.A ((compStart e dp it acc Y.env).onRaise (fun x=>do noteFrame x Y.env;standAt theWindowsPlace)) Q E s->wpAny (model Y.prog Y.w) (Y.A.under (.compStart e dp it acc Y.env)) ((model Y.prog Y.w).den (.compStart e dp it acc Y.env)) Q E s
 cl:(clausesOf e)[dp]?=some ⟨tg,iter,ifs,0⟩
theorem CM (hc:Y.calm=true) (nA:∀x s,Y.xe x s->False) (C:FW Y e tg iter ifs dp acc body) (hg:PG Y tg g) (ht:iF Y ifs tt) (hb:PB Y body tb) (T:Turn Y.prog Y.w Y.K tg J fp it bE) (turn:AF J g tt tb QE W)
  (I:Inv Y pins τ H s) (st:bE 0 s.heap) (f:∀b∈fp,dz Y pins H b) (w0:W 0 m0 τ H) (hR:∀cF H' s',Inv Y pins cF H' s'->QE cF H'->R (.ok .next) s') :
  codeAny (model Y.prog Y.w) Y.A (.compLoop e dp (.ref it) acc Y.env) R s :=by
 have stat:∀{H':Hp},(∀b∈fp,H' b=none)->∀b∈fp,dz Y pins H' b:=fun hn b hb=>⟨hn b hb,(f b hb).2⟩
 refine codeAny_loop (C.q _) (fun n s'=>∃i τ H',Inv Y pins τ H' s'/\bE i s'.heap/\(∀b∈fp,H' b=none)/\W i n τ H') (fun n s hI=>?_) m0 ⟨0,τ,H,I,st,fun b hb=>(f b hb).1,w0⟩
 refine C.den _ _ _ _ (wpAny_noted ?_);rw[C.turn];unfold AG;obtain⟨i,τ,H3,I3,t9,Cr,w3⟩:=hI;rcases turn i n τ H3 w3 with ⟨stop,qn⟩|⟨go,step⟩
 ·refine ac (ES (ac (on (T.done Y rfl rfl rfl hc i pins s τ H3 (fun _ _=>False) I3 (stat Cr) t9 stop) (fun r s4 ⟨hr,I4⟩=>?_) fun _ _ z=>z.elim)))
  subst hr;exact bi (hR _ _ _ I4 qn)
 ·refine ac (ES (ac (on (T.item Y rfl rfl rfl hc i pins s τ H3 (fun _ _=>False) I3 (stat Cr) t9 go) (fun r s4 ⟨u,hr,h4⟩=>?_) fun _ _ z=>z.elim)))
  subst hr;refine ac (on h4 (fun _ s5 ⟨x,H5,I5,r5,y5,jz,vO⟩=>?_) fun _ _ z=>z.elim)
  have vP:=I5.pinned (stat vO) (T.obj _ _ jz);have again:∀{pI:St} {H7:Hp} {s7:ba},Inv Y (pins++iE fp s5.heap) pI H7 s7->(∃m',m'<n/\W (i+1) m' pI H7)->
    ∃m,m<n/\∃i τ H',Inv Y pins τ H' s7/\bE i s7.heap/\(∀b∈fp,H' b=none)/\W i m τ H':=fun {pI H7 s7} I7 n7=>by
   obtain⟨m',hm,w7⟩:=n7;refine⟨m',hm,i+1,pI,H7,I7.b9,T.keep _ _ _ jz fun b hb o e=>(I7.pin (b,o) (kw _ (kw _ (cG hb e)))).1,fun b hb=>?_,w7⟩
   obtain⟨o,e,d⟩:=T.obj _ _ jz b hb;exact(I7.pin (b,o) (kw _ (kw _ (cG hb e)))).2.1
  refine ac (on (hg _ s5 τ H5 x u _ vP r5 (step x H5 y5)) (fun _ s6 ⟨km,H6,I6,q6⟩=>?_) fun _ _ z=>(nA _ _ z).elim)
  refine ac (on (ht _ s6 km H6 _ I6 q6) (fun ok s7 ⟨H7,I7,q7⟩=>?_) fun _ _ z=>(nA _ _ z).elim)
  cases ok with
  |false=>exact bi ⟨rfl,again I7 q7⟩
  |true=>
   refine ac (on (hb _ s7 km H7 _ I7 q7) (fun _ s8 ⟨W9,H8,I8,q8⟩=>?_) fun _ _ z=>(nA _ _ z).elim)
   exact bi ⟨rfl,again I8 q8⟩
theorem AH (C:FW Y e tg iter ifs dp acc body) (T:Turn Y.prog Y.w Y.K tg J fp it bE) (st:bE 0 s.heap)
  (h:codeAny (model Y.prog Y.w) Y.A (.compLoop e dp (.ref it) acc Y.env) R s):codeAny (model Y.prog Y.w) Y.A (.compStart e dp (.ref it) acc Y.env) R s :=by
 refine YO (C.denS _ _ _ _ (wpAny_notedAt ?_));unfold compStart;rw[C.cl];show wpAny _ _ (ask>>=_) _ _ s;refine ac (XN (wpAny_ite ?_));split
 ·first
   |exact ac (bi (bi (Z4 rfl h)))
   |exact bi (Z4 rfl h)
 ·have h2:wpAny (model Y.prog Y.w) Y.A (pyIter (.ref it)) (fun CN s'=>codeAny (model Y.prog Y.w) Y.A (.compLoop e dp CN acc Y.env) R s') (notedBy (model Y.prog Y.w) Y.A Y.env fun x s'=>R (.error x) s') s:=T.self _ 0 _ _ _ st h
  first
   |exact ac (LM (ac (ES (ac (on h2 (fun CN s' h'=>bi (Z4 (C.q CN) h')) fun _ _ x=>x)))))
   |(refine ac (LM ?_);show wpAny _ _ (standAt iter.pos>>=_) _ _ s;exact ac (ES (ac (on h2 (fun CN s' h'=>bi (Z4 (C.q CN) h')) fun _ _ x=>x))))
end
section
variable {Y:Cx}
def vV (D:ag) (te:TE):TB:=fun τ H Q=>te τ H fun y H4=>∃ys,H4 D=some (.lst ys)/\ys.length<sizeLine/\Q τ (upd H4 D (.lst (ys++[y])))
theorem JK {elt:dL}{te:TE}{D:ag}(h:PE Y elt te):PB Y (do let _ <- call (.builtin "list.append") [.ref D,<- eval elt Y.env]) (vV D te) :=by
 intro pins s τ H Q I q;refine ac (on (h pins s τ H _ I q) (fun yv s8 ⟨y,H8,I8,r8,q8⟩=>?_) fun _ _ z=>z)
 obtain⟨ys,hD,hsz,w8⟩:=q8;refine ac (on (uj (X:=Y) _ s8 τ H8 (.ref D) [y] (.ref D) [yv] (fun v H9=>v=.ao/\H9=upd H8 D (.lst (ys++[y]))) I8 rfl (.cons r8 .nil) ⟨_,ys,y,rfl,rfl,hD,hsz,rfl,rfl⟩) (fun rv s9 ⟨v9,H9,I9,_,_,e9⟩=>?_) fun _ _ z=>z)
 subst e9;exact bi ⟨τ,_,I9,w8⟩
end
section
variable {X:Cx}
theorem compG_core {pins:List (ag×lc)}{σ:St}{H2:Hp}{s2:ba}{e tg iter:dL}{ifs:List dL}{scope:zd}{N':List bv}{tn:Nat}{idx:List Nat}{g:TG}{tt:TT}{tb:ag->TB}{body:ap->Op->Zp Unit}{it:ag}{fp:List ag}{bE:Nat->ii->Prop}{J:It}
  {cl:List (bv×ag)} {E:ap->ba->Prop} {RR:ap->ag->ZY->ba->Prop} {Q:VK} {mk:Zp ap} {O0:HO} {o0:lc}
  (UT:∀(Q:ap->ba->Prop),Q (.ref s2.heap.objs.size) {s2 with heap:=s2.heap.push o0}->wpAny (model X.prog X.w) X.A mk Q E s2) (MM:o0.isFreed=false)
  (zf:∀(H:Hp) (h1:ii),h1.get? s2.heap.objs.size=some o0->ObjOk X.prog X.w H h1 s2.heap.objs.size O0)
  (hc:X.calm=true) (B:aJ X.N X.env.scope scope N' tn idx)
  (hC:∀(D:ag),Blk X N' scope fun Y=>FW Y e tg iter ifs 0 (.ref D) (body (.ref D) Y.env))
  (hg:Blk X N' scope fun Y=>PG Y tg g) (ht:Blk X N' scope fun Y=>iF Y ifs tt) (hb:∀D,Blk X N' scope fun Y=>PB Y (body (.ref D) Y.env) (tb D))
  (I:Inv X pins σ H2 s2) (T:Turn X.prog X.w X.K tg J fp it bE) (st:bE 0 s2.heap) (f2:∀b∈fp,dz X pins H2 b)
  (gJ:∀n c,cl.lookup n=some c->X.env.cells.lookup n=some c) (iP:∀n,(n,wS)∈scope.names->∃c,cl.lookup n=some c)
  (hq:∀D,H2 D=none->∃W:Nat->Nat->St->Hp->Prop,(∃m,W 0 m (bQ tn idx σ) (upd H2 D O0))/\AF J g tt (tb D) (fun _ H'=>Q (.ref D) H') W)
  (MP:∀D C m s' H',Inv X pins σ H' s'->dz X pins H' C->s'.heap.Ns C m->Q (.ref D) H'->RR (.ref D) C (.ok .next) s') :
  wpAny (model X.prog X.w) X.A mk (fun acc kU=>wpAny (model X.prog X.w) X.A (newFunctionEnv scope X.env.globals cl [] X.env.qual none .none (some X.env)) (fun vW FX=>
   codeAny (model X.prog X.w) X.A (.compStart e 0 (.ref it) acc {vW with scope:=relabel scope X.env}) (RR acc vW.locals) FX) E kU) E s2 :=by
 obtain⟨b1,b2,b3,b4⟩:=id B;refine UT _ (wpAny_newFunctionEnv (fun y hy=>(b2 y hy).1) (by intro y hy;simp at hy) (fun jF vX qZ=>?_) b1)
 dsimp only at vX qZ ⊢;generalize hG:s2.heap.push o0=G at vX qZ ⊢
 have MQ:G.objs.size=s2.heap.objs.size+1 :=by rw[<- hG,Nd]
 have R4:s2.heap.objs.size≠G.objs.size :=by rw[MQ];exact l5 (Me _)
 have FY:s2.heap.objs.size<=G.objs.size :=by rw[MQ];exact IS _
 have below:∀b,b<s2.heap.objs.size->b≠G.objs.size:=fun b hb=>by rw[MQ];exact l5 (GM hb)
 have old:∀b o,s2.heap.get? b=some o->jF.get? b=some o:=fun b o e=>qZ.extBut b o (below b (io e)) (br _ (hG▸br _ e))
 have UU:jF.get? s2.heap.objs.size=some o0:=qZ.extBut _ _ R4 (br _ (hG▸ij _ MM));have R5:H2 s2.heap.objs.size=none:=I.hok.fresh (ce _);have MN:upd H2 s2.heap.objs.size O0 G.objs.size=none :=by rw[ae (wp R4)];exact I.hok.fresh FY
 have TN:cN X.prog X.w (upd H2 s2.heap.objs.size O0) jF:=I.hok.laid old (ce _) (zf _ _ UU);have vY:∀b∈fp,b<s2.heap.objs.size:=fun b hb=>let ⟨o,e,_⟩:=T.obj _ _ st b hb;io e
 obtain⟨W,⟨m0,w0⟩,turn⟩:=hq s2.heap.objs.size R5;have I1:Inv (CL X N' scope cl G.objs.size s2 H2 fp) [] (bQ tn idx σ) (upd H2 s2.heap.objs.size O0) {s2 with heap:=jF,toks:=s2.toks+([]:List (bv×ap)).length}:=by
  refine uo (g':=s2.gens) (m0:=fun x=>([]:List (bv×ap)).reverse.lookup x) I b1 rfl rfl gJ (fun x hx=>?_) (fun z=>I.ok.hd z) I.ok.frames (.inl rfl) FY f2 vY (Un.laid old (ce _) R5) TN MN old vX (fun i x v e1 e2 e3=>?_) (B.len σ) I.bare.self
  ·have pG:(relabel scope X.env).names.lookup x=some .cell\/(relabel scope X.env).names.lookup x=some .free:=hx;rw[jE]at pG;cases q:scope.names.lookup x with
   |none=>rw[q]at pG;rcases pG with z|z<;>cases z
   |some k0=>
    have hm:=AN q;rw[q]at pG;by_cases hk:k0=.free
    ·subst hk;exact iP x hm
    ·have nk:(k0==wS)=false :=by simpa using hk
     have nc:=(b2 _ hm).1;simp only[Ix,nk,Yd,gc,if_false]at pG;rcases pG with z|z
     ·exact absurd (l7 z) nc
     ·exact absurd (l7 z) hk
  ·obtain⟨fr,j,e4,e5⟩:=B.at e1 e2;have kx:=(b2 _ (AN fr)).2.2 rfl;refine⟨?_,.inr kx,kx,j,e4,e5⟩;show (relabel scope X.env).names.lookup x=some .cell\/(relabel scope X.env).names.lookup x=some .free;rw[jE,fr];simp only[Ix];split
   ·exact .inl rfl
   ·exact .inr rfl
 have stat:∀b∈fp,dz (CL X N' scope cl G.objs.size s2 H2 fp) [] (upd H2 s2.heap.objs.size O0) b:=fun b hb=>by
  refine⟨by rw[ae (l5 (vY b hb))];exact(f2 b hb).1,below b (vY b hb),fun z=>?_,.inl hb,fun x c e=>(f2 b hb).2.2.2.2.1 x c (gJ x c e),fun p hp=>absurd (show p∈([]:List (ag×lc)) from hp) (by simp)⟩
  rcases l8.mp (I.iC b z) with q|q
  ·exact(f2 b hb).2.1 q
  ·exact(f2 b hb).2.2.1 q
 have R6:bE 0 jF:=T.keep _ _ _ st fun b _ o e=>old b o e
 refine AH (Y:=CL X N' scope cl G.objs.size s2 H2 fp) (hC _ cl G.objs.size s2 H2 fp) T R6 (CM (Y:=CL X N' scope cl G.objs.size s2 H2 fp) hc (fun _ _ z=>z) (hC _ cl G.objs.size s2 H2 fp) (hg cl G.objs.size s2 H2 fp) (ht cl G.objs.size s2 H2 fp) (hb _ cl G.objs.size s2 H2 fp) T turn I1 R6 stat w0 fun cF H' s' I4 qn=>?_)
 have J2:Inv X pins σ H' s':=I.vp I4.os I4.base I4.hok I4.bare fun b hb=>⟨(f2 b hb).2.2.2.1,(f2 b hb).2.1,(f2 b hb).2.2.2.2.1,(f2 b hb).2.2.2.2.2⟩
 obtain⟨mm,hm,_⟩:=I4.loc;exact MP _ _ mm s' H' J2 (I.nu FY I4.free) hm qn
def vy (J:It) (g:TG) (tt:TT) (te:TE) (D:ag) (Q:VK) (W:Nat->Nat->St->Hp->Prop):Prop:=∀i m τ H,W i m τ H->
 (J.stop i H/\Q (.ref D) H)\/(J.go i H/\∀x H',J.yld i H x H'->g x τ H' fun aN H2=>tt aN H2 fun b H3=>if b=true then te aN H3 fun y H4=>∃ys m',H4 D=some (.lst ys)/\ys.length<sizeLine/\m'<m/\W (i+1) m' aN (upd H4 D (.lst (ys++[y]))) else ∃m',m'<m/\W (i+1) m' aN H3)
def vz (tn:Nat) (idx:List Nat) (wi:TI) (g:TG) (tt:TT) (te:TE):TE:=fun σ H Q=>wi σ H fun J H1=>∀D,H1 D=none->∃W:Nat->Nat->St->Hp->Prop,(∃m,W 0 m (bQ tn idx σ) (upd H1 D (.lst [])))/\vy J g tt te D Q W
theorem AI {J:It}{g:TG}{tt:TT}{te:TE}{D:ag}{Q:VK}{W:Nat->Nat->St->Hp->Prop}(h:vy J g tt te D Q W):AF J g tt (vV D te) (fun _ H=>Q (.ref D) H) W :=by
 simp only[vy,exists_and_left]at h;exact h
theorem FZ (elt tg iter:dL) (ifs:List dL) (scope:zd) (pos:ww) (it acc:ap) (env:Op) :
  compTurn (.ListComp elt [⟨tg,iter,ifs,0⟩] scope pos) 0 it acc env=AG (.ListComp elt [⟨tg,iter,ifs,0⟩] scope pos) tg iter ifs 0 it acc env (do let _ <- call (.builtin "list.append") [acc,<- eval elt env]) :=by
 rfl
theorem uq {pins:List (ag×lc)}{σ:St}{H2:Hp}{s2:ba}{tg elt iter:dL}{ifs:List dL}{scope:zd}{pos:ww}{N':List bv}{tn:Nat}{idx:List Nat}{g:TG}{tt:TT}{te:TE}{it:ag}{fp:List ag}{bE:Nat->ii->Prop}{J:It}
  {cl:List (bv×ag)} {E:ap->ba->Prop} {RR:ap->ag->ZY->ba->Prop} {Q:VK}
  (hc:X.calm=true) (B:aJ X.N X.env.scope scope N' tn idx)
  (hg:Blk X N' scope fun Y=>PG Y tg g) (ht:Blk X N' scope fun Y=>iF Y ifs tt) (he:Blk X N' scope fun Y=>PE Y elt te)
  (I:Inv X pins σ H2 s2) (T:Turn X.prog X.w X.K tg J fp it bE) (st:bE 0 s2.heap) (f2:∀b∈fp,dz X pins H2 b)
  (gJ:∀n c,cl.lookup n=some c->X.env.cells.lookup n=some c) (iP:∀n,(n,wS)∈scope.names->∃c,cl.lookup n=some c)
  (hq:∀D,H2 D=none->∃W:Nat->Nat->St->Hp->Prop,(∃m,W 0 m (bQ tn idx σ) (upd H2 D (.lst [])))/\vy J g tt te D Q W)
  (MP:∀D C m s' H',Inv X pins σ H' s'->dz X pins H' C->s'.heap.Ns C m->Q (.ref D) H'->RR (.ref D) C (.ok .next) s') :
  wpAny (model X.prog X.w) X.A (newList []) (fun acc kU=>wpAny (model X.prog X.w) X.A (newFunctionEnv scope X.env.globals cl [] X.env.qual none .none (some X.env)) (fun vW FX=>
   codeAny (model X.prog X.w) X.A (.compStart (.ListComp elt [⟨tg,iter,ifs,0⟩] scope pos) 0 (.ref it) acc {vW with scope:=relabel scope X.env}) (RR acc vW.locals) FX) E kU) E s2:=
 compG_core (body:=fun acc env=>do let _ <- call (.builtin "list.append") [acc,<- eval elt env]) (tb:=fun D=>vV D te) (O0:=.lst []) (o0:={cls:=.type "list",dict:=none,data:=.seq ([]:List ap).toArray})
  (fun Q q=>sB q) rfl (fun H h1 hd=>⟨nw _,[],0,.nil,hd⟩) hc B (fun D cl C s H fp=>⟨fun _=>rfl,fun _ _ _ _ h=>h,fun _=>FZ ..,fun _ _ _ _ h=>h,rfl⟩) hg ht (fun D cl C s H fp=>JK (he cl C s H fp))
  I T st f2 gJ iP (fun D hD=>let ⟨W,w0,t⟩:=hq D hD;⟨W,w0,AI t⟩) MP
variable {tg elt iter:dL}{ifs:List dL}{scope:zd}{pos:ww}{N':List bv}{tn:Nat}{idx:List Nat}{wi:TI}{g:TG}{tt:TT}{te:TE}
theorem dz.turn {pins:List (ag×lc)}{σ:St}{H:Hp}{s:ba}{C:ag}{h':ii}(f:dz X pins H C) (I:Inv X pins σ H s) (hs:zn C s.heap h'):Inv X pins σ H {s with heap:=h'}:=
 I.turned (t':=s.toks) (fun b o hb e=>(hs.2 b hb).trans e) f.1 f.2.1 f.2.2.2.1 f.2.2.2.2.1 f.2.2.2.2.2
theorem yu (hc:X.calm=true) (B:aJ X.N X.env.scope scope N' tn idx) (hi:PI X tg iter wi)
  (hg:Blk X N' scope fun Y=>PG Y tg g) (ht:Blk X N' scope fun Y=>iF Y ifs tt) (he:Blk X N' scope fun Y=>PE Y elt te)
  (hs:∀x,foldedSetIterable iter X.env x=pure x :=by intro _;rfl):PE X (.ListComp elt [⟨tg,iter,ifs,0⟩] scope pos) (vz tn idx wi g tt te) :=by
 refine⟨?_⟩;intro pins s σ H Q I h;obtain⟨cl,kn,gJ,iP⟩:=jb (scope:=scope) (env:=X.env) fun n hn=>I.ok.has n ((B.2.1 _ hn).2.2 rfl)
 rw[eval_ListComp];refine wpAny_comprehension_free (use:=none) rfl hs kn B.1 (fun y hy=>(B.2.1 y hy).2.1) (on (hi pins s σ H _ I h) (fun xv s1 h1=>on h1 (fun Ck s2 h2=>?_) fun _ _ z=>z) fun _ _ z=>z)
 obtain⟨it,fp,bE,J,H2,e,I2,T,vN,f2,q2⟩:=h2;subst e;refine uq (RR:=fun acc C=>compPost (model X.prog X.w) X.A X.xe none (EP X pins σ Q) acc C) hc B hg ht he I2 T vN f2 gJ iP q2 fun D C m s' H' J2 fC hm q=>?_
 exact⟨m,hm,fun h' mX=>⟨.ref D,H',fC.turn J2 mX,rfl,q⟩⟩
theorem q9 {i:Nat}{y:bv}{py nB:ww}(hN:X.N.Nodup) (dJ:X.N[i]?=some y) (hy:X.env.scope.names.lookup y=some .local) (hc:X.calm=true) (B:aJ X.N X.env.scope scope N' tn idx) (hi:PI X tg iter wi)
  (hg:Blk X N' scope fun Y=>PG Y tg g) (ht:Blk X N' scope fun Y=>iF Y ifs tt) (he:Blk X N' scope fun Y=>PE Y elt te)
  (vZ:swapsWith (.ListComp elt [⟨tg,iter,ifs,0⟩] scope pos) (some (.Name y py)) nB.line X.env=pure true :=by rfl)
  (hs:∀x,foldedSetIterable iter X.env x=pure x :=by intro _;rfl):PS X (.Assign [.Name y py] (.ListComp elt [⟨tg,iter,ifs,0⟩] scope pos) nB) (vL (vz tn idx wi g tt te) (vq i)) :=by
 refine⟨?_⟩;intro pins s σ H D I h;obtain⟨cl,kn,gJ,iP⟩:=jb (scope:=scope) (env:=X.env) fun n hn=>I.ok.has n ((B.2.1 _ hn).2.2 rfl)
 rw[exec_Assign_Name_used _ _ _ _ vZ];refine ac (ES (ac ?_));show wpAny _ X.A (do let _ <- comprehension (.ListComp elt [⟨tg,iter,ifs,0⟩] scope pos) scope X.env _ (newList []) false (eval iter X.env) (some (assign (.Name y py) X.env))) _ _ s;refine ac (on (wpAny_comprehension_free (use:=some (assign (.Name y py) X.env)) (Q:=fun _ s'=>SP X pins D .next s') rfl hs kn B.1 (fun y hy=>(B.2.1 y hy).2.1)
  (on (hi pins s σ H _ I h) (fun xv s1 h1=>on h1 (fun Ck s2 h2=>?_) fun _ _ z=>z) fun _ _ z=>z)) (fun _ s' hq=>bi (bi hq)) fun _ _ z=>z)
 obtain⟨it,fp,bE,J,H2,e,I2,T,vN,f2,q2⟩:=h2;subst e;refine uq (RR:=fun acc C=>compPost (model X.prog X.w) X.A X.xe (some (assign (.Name y py) X.env)) (fun _ s'=>SP X pins D .next s') acc C) hc B hg ht he I2 T vN f2 gJ iP q2 fun E C m s' H' J2 fC hm q=>?_
 show wpAny _ X.A (assign (.Name y py) X.env (.ref E)) _ _ s';refine wpAny_assign_Name (store_ok2 J2 hN dJ (.inl hy) (v:=.ref E) rfl (fun s3 J3 ⟨a,ra,ha⟩=>?_) (.inr hy))
 have cJ:C≠a :=by
  rcases ha with z|z
  ·rw[z];exact fC.2.1
  ·exact fun w=>fC.2.2.2.2.1 _ _ z w.symm
 exact⟨m,hm.sameBut ra cJ,fun h' mX=>⟨_,H',fC.turn J3 mX,q⟩⟩
end
def Tb (P:ag) (H:Hp):Prop:=∃ps,H P=some (.cI ps)/\Pd ps.toList
section
variable {X:Cx}{pins:List (ag×lc)}{σ:St}{H:Hp}{s:ba}{P:ag}{ps more:Array ap}{h':ii}
theorem Inv.grown (I:Inv X pins σ H s) (hP:H P=some (.cI ps)) (k:∀b o,b≠P->s.heap.get? b=some o->h'.get? b=some o) (n:h'.get? P=some {cls:=.none,data:=.fields (ps++more)}) (t':Nat) :
  Inv X pins σ (upd H P (.cI (ps++more))) {s with heap:=h',toks:=t'}:=by
 have ne:∀b u,H b=some u->u≠.cI ps->b≠P:=fun b u e d=>An e hP d
 have nn:∀b,H b=none->b≠P:=fun b e z=>by rw[z,hP]at e;cases e
 refine I.un ⟨fun b o e q _ _=>k b o (nn b q) e,fun b o e q _ _=>⟨o.slots,k b o (nn b q) e⟩,fun b o e q _=>by rw[ae (nn b q)];exact q,fun b o e _=>?_,fun b xs e=>by rw[ae (ne b _ e (by intro z;cases z))];exact e,
  fun b o u e=>by rw[ae (ne b _ e (by intro z;cases z))];exact e,fun b qs e=>?_⟩ fun b u e=>?_
 ·by_cases hb:b=P
  ·subst hb;exact⟨_,n⟩
  ·exact⟨o,k b o hb e⟩
 ·by_cases hb:b=P
  ·subst hb;rw[hP]at e;cases e;exact⟨more,av⟩
  ·exact⟨#[],by rw[ae hb,e];simp⟩
 ·by_cases hb:b=P
  ·subst hb;rw[av]at e;cases e;exact n
  ·rw[ae hb]at e;refine(I.hok b u e).bp (fun c v hc q=>k c v ?_ q) (fun c q=>?_) fun c xs q=>?_
   ·rcases hc with z|z
    ·rw[z];exact hb
    ·exact ne c _ z (by intro w;cases w)
   ·rw[ae (ne c _ q (by intro w;cases w))];exact q
   ·rw[ae (ne c _ q (by intro w;cases w))];exact q
theorem sQ {c:ag}{pos:ww}{qn:bv}{scope:zd}{Q:ap->ba->Prop}{A:rb}{E:ap->ba->Prop}(I:Inv X pins σ H s) (hc:X.env.code=.ref c) (hd:u7 X.base c P) (hP:H P=some (.cI ps)) (ht:Pd ps.toList)
  (h:∀code gK s',Pd gK.toList->Inv X pins σ (upd H P (.cI gK)) s'->(∀b o,b≠P->s.heap.get? b=some o->s'.heap.get? b=some o)->s'.gens=s.gens->Q code s'):wpAny (model X.prog X.w) A (genexprCode X.env pos qn scope) Q E s :=by
 have v3:s.heap.get? P=some (SL ps):=I.hok P _ hP;have iB:=hd.keeps I.bk;have ic:=iB.code v3 ht;cases q:codeAmong pos ps.toList with
 |some c'=>
  refine wpAny_genexprCode_hit hc ic q (h c' ps s ht ?_ (fun _ _ _ e=>e) rfl)
  have e:upd H P (.cI ps)=H :=by
   funext b
   by_cases hb:b=P
   ·subst hb;rw[av,hP]
   ·rw[ae hb]
  rw[e];exact I
 |none=>
  refine wpAny_genexprCodeX hc ic (iB.tab v3) q fun c' h' tk ex h1 h2 Xa _ ta _=>?_
  obtain⟨_,HS⟩:=ta;have tr:Pd (ps++#[rawInt pos.line,rawInt pos.col,li c']).toList :=by
   rw[YW];exact TriplesOk_snoc _ _ _ _ ht
  exact h _ _ _ tr (I.grown hP (fun b o hb e=>ex b o hb e) HS tk) (fun b o hb e=>ex b o hb e) rfl
end
def lQ (s bb:ba):Prop:=bb.heap=s.heap/\bb.os=s.os/\Gn s.gens.size bb.gens
theorem Inv.jG {X:Cx}{pins:List (ag×lc)}{σ:St}{H:Hp}{s bb:ba}(I:Inv X pins σ H s) (o:lQ s bb):Inv X pins σ H bb :=by
 obtain⟨h,g,d,t,os⟩:=s;obtain⟨h',g',d',t',RU⟩:=bb;obtain⟨e1,e2,e3⟩:=o;cases e1;cases e2;exact⟨I.ok,I.os,I.bare.trans e3,I.base,I.loc,I.cell,I.free,I.freeC,I.pin,I.hok,I.len⟩
section
variable {Y:Cx}{A2:rb}{tg elt iter:dL}{ifs:List dL}{scope:zd}{pos:ww}{it:ag}{fp:List ag}{bE:Nat->ii->Prop}{J:It}{g:TG}{tt:TT}{te:TE}{pp:List (ag×lc)}{R:GenEnd}{Yp:Protocol}
def MR (J:It) (g:TG) (tt:TT) (te:TE) (stopAt:Bool) (Z:Bool->Hp->Prop) (W:Nat->Nat->St->Hp->Prop):Prop:=∀i m τ H,W i m τ H->
 (J.stop i H/\Z (!stopAt) H)\/(J.go i H/\∀x H',J.yld i H x H'->g x τ H' fun aN H2=>tt aN H2 fun b H3=>if b=true then te aN H3 fun y H4=>∃c,y=.bl c/\(if c=stopAt then Z stopAt H4 else ∃m',m'<m/\W (i+1) m' aN H4) else ∃m',m'<m/\W (i+1) m' aN H3)
theorem F0 (hA:Y.A=A2.over (.compLoop (.GeneratorExp elt [⟨tg,iter,ifs,0⟩] scope pos) 0 (.ref it) .none Y.env) []) (nA:Y.xe=fun _ _=>False) (hc:Y.calm=true) (ko:Y.env.scope.isCoroutine=false)
  (T:Turn Y.prog Y.w Y.K tg J fp it bE) (hg:PG Y tg g) (ht:iF Y ifs tt) (he:PE Y elt te) (stat:∀{H':Hp},(∀b∈fp,H' b=none)->∀b∈fp,dz Y pp H' b)
  {W:Nat->Nat->St->Hp->Prop} {Z:Bool->Hp->Prop} {stopAt:Bool} (turn:MR J g tt te stopAt Z W)
  (hR:∀n s₀ aw τ H,Inv Y pp τ H aw->Z (!stopAt) H->R n s₀ (.ok .next) aw)
  (hY:∀n s₀ s jH c τ H,Inv Y pp τ H s->(c=stopAt->Z stopAt H)->(c≠stopAt->∀bb,lQ s bb->jH (.send .none) bb)->Yp n s₀ (.bool c) s jH) :
  ∀(m n i:Nat) (τ:St) (H:Hp) (s s₀:ba),m<n->W i m τ H->Inv Y pp τ H s->bE i s.heap->(∀b∈fp,H b=none)->
   Seg (model Y.prog Y.w) A2 R Yp n s₀ (.compLoop (.GeneratorExp elt [⟨tg,iter,ifs,0⟩] scope pos) 0 (.ref it) .none Y.env)
    ((model Y.prog Y.w).den (.compLoop (.GeneratorExp elt [⟨tg,iter,ifs,0⟩] scope pos) 0 (.ref it) .none Y.env)) [] s :=by
 intro m;induction m using X2 with
 |ind m ih=>
  intro n i τ H s s₀ CO w I st fr;show Seg _ A2 _ _ _ s₀ _ ((compTurn (.GeneratorExp elt [⟨tg,iter,ifs,0⟩] scope pos) 0 (.ref it) .none Y.env).onRaise (leaving Y.env)) [] s;rw[compTurn_gen,YX];rcases turn i m τ H w with ⟨stop,qn⟩|⟨go,step⟩
  ·refine wT (ES ?_);have d:=T.done Y rfl rfl rfl hc i pp s τ H (fun _ _=>False) I (stat fr) st stop
   rw[hA]at d;refine wT (on d (fun r s1 ⟨hr,I1⟩=>?_) fun _ _ z=>z.elim)
   subst hr;exact seg_end (.ok .next) (hR _ _ _ _ _ I1 qn)
  ·refine wT (ES ?_);have d:=T.item Y rfl rfl rfl hc i pp s τ H (fun _ _=>False) I (stat fr) st go
   rw[hA]at d;refine wT (on d (fun r s4 ⟨u,hr,h4⟩=>?_) fun _ _ z=>z.elim)
   subst hr;refine wT (on h4 (fun _ s5 ⟨x,H5,I5,r5,y5,jz,vO⟩=>?_) fun _ _ z=>z.elim)
   have vP:=I5.pinned (stat vO) (T.obj _ _ jz);have back:∀{pI:St} {H7:Hp} {s7:ba},Inv Y (pp++iE fp s5.heap) pI H7 s7->bE (i+1) s7.heap/\∀b∈fp,H7 b=none:=fun {pI H7 s7} I7=>by
    refine⟨T.keep _ _ _ jz fun b hb o e=>(I7.pin (b,o) (kw _ (kw _ (cG hb e)))).1,fun b hb=>?_⟩
    obtain⟨o,e,d⟩:=T.obj _ _ jz b hb;exact(I7.pin (b,o) (kw _ (kw _ (cG hb e)))).2.1
   have d2:=hg _ s5 τ H5 x u _ vP r5 (step x H5 y5);rw[hA,nA]at d2;refine wT (on d2 (fun _ s6 ⟨km,H6,I6,q6⟩=>?_) fun _ _ z=>z.elim)
   have d3:=ht _ s6 km H6 _ I6 q6;rw[hA,nA]at d3;refine wT (on d3 (fun ok s7 ⟨H7,I7,q7⟩=>?_) fun _ _ z=>z.elim)
   have hy:∀v,yieldOut Y.env v=yieldValue v:=fun v=>by simp only[yieldOut,ko,gc,if_false]
   cases ok with
   |false=>
    simp only[gc,if_false]at q7 ⊢;obtain⟨m',rg,w7⟩:=q7;exact YD rfl (ih m' rg n (i+1) km H7 s7 s₀ (by omega) w7 I7.b9 (back I7).1 (back I7).2)
   |true=>
    simp only[if_true]at q7 ⊢;simp only[hy];rw[Yg,Yg,Zh,Zh];have d4:=he _ s7 km H7 _ I7 q7;rw[hA,nA]at d4;refine seg_wrap (on d4 (fun yv s8 ⟨y,H8,I8,r8,q8⟩=>?_) fun _ _ z=>z.elim)
    obtain⟨c,ey,q8⟩:=q8;subst ey;cases (show yv=Z1 c from r8);obtain⟨n,rfl⟩:∃n',n=n'+1:=⟨n - 1,by omega⟩
    refine seg_at (seg_yield rfl rfl rfl (hY _ _ _ _ c km H8 I8.b9 (fun e=>by rw[if_pos e]at q8;exact q8) fun e bb ok=>?_))
    rw[if_neg e]at q8;obtain⟨m',rg,w8⟩:=q8;have I9:=I8.jG ok;exact YD rfl (ih m' rg n (i+1) km H8 bb bb (by omega) w8 I9.b9 (back I9).1 (back I9).2)
end
abbrev dg (elt tg iter:dL) (ifs:List dL) (scope:zd) (pos:ww):dL:=.GeneratorExp elt [⟨tg,iter,ifs,0⟩] scope pos
abbrev MS (X:Cx) (N':List bv) (scope:zd) (cl:List (bv×ag)) (C:ag) (code:ap) (A':rb) (s:ba) (H:Hp) (fp:List ag):Cx:=
 cxBlock X N' (genEnv scope cl C code builtinsNs X.env) A' (genEnv scope cl C code builtinsNs X.env::X.stack) s H fp
abbrev dY (X:Cx) (N':List bv) (scope:zd) (k:Nat) (P:Cx->Prop):Prop:=∀(cl:List (bv×ag)) (C:ag) (code:ap) (A':rb) (s:ba) (H:Hp) (fp:List ag),bh k A'->P (MS X N' scope cl C code A' s H fp)
structure v7 (X:Cx) (pins:List (ag×lc)) (σ:St) (N':List bv) (scope:zd) (tn:Nat) (idx:List Nat) (k:Nat) (elt tg iter:dL) (ifs:List dL) (pos:ww) (J:It) (H3:Hp) (a:ag) (s5:ba)
  (Y:Cx) (it:ag) (fp:List ag) (bE:Nat->ii->Prop) (g:Nat) (pp:List (ag×lc)):Prop where
 inv:Inv Y pp (bQ tn idx σ) H3 s5
 isg:∀{τ:St} {H':Hp} {s':ba},Inv Y pp τ H' s'->s'.heap.IsGen a g
 st:s5.gens[g]?=some (.fresh (.compStart (dg elt tg iter ifs scope pos) 0 (.ref it) .none Y.env))
 T:Turn Y.prog Y.w Y.K tg J fp it bE
 tn0:bE 0 s5.heap
 fr:∀b∈fp,H3 b=none
 stat:∀{H':Hp},(∀b∈fp,H' b=none)->∀b∈fp,dz Y pp H' b
 out:∀{τ:St} {H':Hp} {s':ba},Inv Y pp τ H' s'->Inv X pins σ H' s'
 A:Y.A=X.A.in4.in1.over (.compLoop (dg elt tg iter ifs scope pos) 0 (.ref it) .none Y.env) []
 xe:Y.xe=fun _ _=>False
 calm:Y.calm=true
 co:Y.env.scope.isCoroutine=false
 gsz:∀{τ:St} {H':Hp} {s':ba},Inv Y pp τ H' s'->g<s'.gens.size
 blk:∀P:Cx->Prop,dY X N' scope k P->P Y
 prog:Y.prog=X.prog
 w:Y.w=X.w
section
variable {X:Cx}{tg elt iter:dL}{ifs:List dL}{scope:zd}{pos:ww}{N':List bv}{tn:Nat}{idx:List Nat}{wi:TI}{g:TG}{tt:TT}{te:TE}{c P:ag}{k:Nat}
def HU (P:ag) (wi:TI) (R:It->Hp->Prop):St->Hp->Prop:=fun σ H=>wi σ H fun J H1=>Tb P H1/\∀ps,Pd ps.toList->R J (upd H1 P (.cI ps))
theorem v8 {pins:List (ag×lc)}{s:ba}{σ:St}{H:Hp}{QQ:ap->ba->Prop}{R:It->Hp->Prop}(hr:bh (k+1) X.A) (hc:X.calm=true) (B:aJ X.N X.env.scope scope N' tn idx)
  (h0:scope.names.lookup (".0" : bv)=some .local) (ko:scope.isCoroutine=false) (dG:X.env.code=.ref c) (hd:u7 X.base c P) (dF:∃bm ob,Yh X.base mainGlobals X.mg bm ob)
  (hi:PI X tg iter wi) (hs:∀x,genFold iter X.env x=pure x) (I:Inv X pins σ H s) (h:HU P wi R σ H)
  (q:∀J H3 a s5 Y it fp bE gn pp,v7 X pins σ N' scope tn idx k elt tg iter ifs pos J H3 a s5 Y it fp bE gn pp->R J H3->QQ (.ref a) s5) :
  wpAny (model X.prog X.w) X.A (eval (dg elt tg iter ifs scope pos) X.env) QQ X.xe s :=by
 obtain⟨cl,kn,gJ,iP⟩:=jb (scope:=scope) (env:=X.env) fun n hn=>I.ok.has n ((B.2.1 _ hn).2.2 rfl)
 refine wpAny_GeneratorExp_make ko kn (fun y hy=>(B.2.1 y hy).1) h0 B.1 hr.depth (thn (hi pins s σ H _ I h) fun xv s1 h1=>thn h1 fun Ck s2 h2=>?_) hs
 obtain⟨it,fp,bE,J,H2,e,I2,T,vN,f2,⟨ps,hP,wa⟩,q2⟩:=h2;subst e;refine⟨I2.nolimit,sQ I2 dG hd hP wa fun code gK s3 MT I3 kp Xb=>?_⟩
 obtain⟨bm,ob,bmod⟩:=dF;have gv:=bmod.keeps I3.bk;refine wpAny_builtinsFor (by rw[I3.ok.glob];exact gv.ns) gv.name gv.ne gv.obj gv.cls gv.dict gv.data ?_
 intro h' qP mX;have R7:∀b∈fp,b≠P:=fun b hb z=>by have:=(f2 b hb).1;rw[z,hP]at this;cases this
 have t9:bE 0 s3.heap:=T.keep _ _ _ vN fun b hb o e=>kp b o (R7 b hb) e
 have vY:∀b∈fp,b<s3.heap.objs.size:=fun b hb=>let ⟨o,e,_⟩:=T.obj _ _ t9 b hb;io e
 have f3:∀b∈fp,dz X pins (upd H2 P (.cI gK)) b:=fun b hb=>⟨by rw[ae (R7 b hb)];exact(f2 b hb).1,(f2 b hb).2⟩
 have hsz:h'.objs.size=s3.heap.objs.size+1 :=by rw[mX.1,Nd]
 have QD:∀b o,s3.heap.get? b=some o->h'.get? b=some o:=fun b o e=>mX.extBut b o (l5 (io e)) (br _ e)
 have R8:Gn s3.gens.size (s3.gens.push (.fresh (.compStart (dg elt tg iter ifs scope pos) 0 (.ref it) .none (genEnv scope cl s3.heap.objs.size code builtinsNs X.env)))):=⟨ZW.push I3.bare.1 rfl,by rw[ZR];exact IS _⟩
 have R9:Inv X pins σ (upd H2 P (.cI gK)) {s3 with gens:=s3.gens.push (.fresh (.compStart (dg elt tg iter ifs scope pos) 0 (.ref it) .none (genEnv scope cl s3.heap.objs.size code builtinsNs X.env)))}:=I3.jG ⟨rfl,rfl,R8⟩
 have hA:(X.A.in4.in1.over (.compLoop (dg elt tg iter ifs scope pos) 0 (.ref it) .none (genEnv scope cl s3.heap.objs.size code builtinsNs X.env)) []).frames=some (genEnv scope cl s3.heap.objs.size code builtinsNs X.env::X.stack) :=by
  show pushEnvs [_] (pushEnvs [] X.A.frames)=_;rw[I.ok.frames];rfl
 have HV:bh k (X.A.in4.in1.over (.compLoop (dg elt tg iter ifs scope pos) 0 (.ref it) .none (genEnv scope cl s3.heap.objs.size code builtinsNs X.env)) []) :=by
  refine⟨hr.hd,?_,?_⟩
  ·show X.A.depth+0+1+3 * k+5<recursionLimit;have:=hr.dp;omega
  ·show X.A.units+1+1+1+1+1+0+3+16 * k+200<cLine;have:=hr.un;omega
 generalize rh:({cls:=.type "generator",data:=.fields #[.int s3.gens.size 0,.str "<genexpr>" (s3.toks+1),.str (X.env.qual ++ "<genexpr>") (s3.toks+1+1)]}:lc)=pJ
 have vA:∀b o,s3.heap.get? b=some o->(h'.push pJ).get? b=some o:=fun b o e=>br _ (QD b o e)
 have TQ:pJ.isFreed=false :=by rw[<- rh];rfl
 have UW:(h'.push pJ).get? h'.objs.size=some pJ:=ij _ TQ;have UX:h'.objs.size≠s3.heap.objs.size :=by rw[hsz];exact Nat.succ_ne_self _
 have UY:upd H2 P (.cI gK) h'.objs.size=none:=I3.hok.fresh (by rw[hsz];exact IS _)
 have I5:=uo (X:=X) (N':=N') (A':=X.A.in4.in1.over (.compLoop (dg elt tg iter ifs scope pos) 0 (.ref it) .none (genEnv scope cl s3.heap.objs.size code builtinsNs X.env)) []) (env':=genEnv scope cl s3.heap.objs.size code builtinsNs X.env) (stack':=genEnv scope cl s3.heap.objs.size code builtinsNs X.env::X.stack) (ex:=fp) (h1:=h'.push pJ) (m0:=fun y=>if y = ".0" then some (.ref it) else none)
  (g':=s3.gens.push (.fresh (.compStart (dg elt tg iter ifs scope pos) 0 (.ref it) .none (genEnv scope cl s3.heap.objs.size code builtinsNs X.env)))) (tk:=s3.toks+1+1+1) (aF:=bQ tn idx σ) R9 B.1 rfl I3.ok.blt.symm gJ (fun x hx=>by
   have pG:scope.names.lookup x=some .cell\/scope.names.lookup x=some .free:=hx;rcases pG with z|z
   ·exact absurd rfl ((B.2.1 _ (AN z)).1)
   ·exact iP x (AN z)) (fun z=>I.ok.hd z) hA (.inr ⟨rfl,rfl⟩) (ce _) f3 vY (Un.kept vA) (I3.hok.kept vA) (I3.hok.fresh (ce _)) vA (qP.push _) (fun i x v e1 e2 e3=>by
   obtain⟨fr,j,e4,e5⟩:=B.at e1 e2;have kx:=(B.2.1 _ (AN fr)).2.2 rfl;exact⟨.inr fr,.inr kx,kx,j,e4,e5⟩) (B.len σ) (Gn.self R8)
 have UZ:h'.objs.size ∉ dS X.stack:=fun z=>by
  rcases l8.mp (I3.iC _ z) with q|q
  ·exact SS (l9 I3.lt (by rw[hsz];exact IS _)) q
  ·exact I3.Lv (by rw[hsz];exact IS _) q
 have oH:∀v,pJ.data≠.cell v :=by rw[<- rh];intro v z;cases z
 have I6:=I5.sJ (pins':=[(h'.objs.size,pJ)]) (fun p hp=>by
  rcases rf.mp hp with rfl
  exact⟨UW,UY,UX,UZ,oH⟩)
 refine q J _ _ _ (MS X N' scope cl s3.heap.objs.size code _ _ _ fp) it fp bE s3.gens.size [(h'.objs.size,pJ)] ⟨I6,fun {τ H' s'} J'=>?_,?_,T,T.keep _ _ _ t9 fun b _ o e=>vA b o e,fun b hb=>(f3 b hb).1,fun {H'} hn b hb=>?_,fun {τ H' s'} J'=>?_,rfl,rfl,hc,ko,fun {τ H' s'} J'=>?_,fun Pp hb=>hb cl _ code _ _ _ fp HV,rfl,rfl⟩ (q2 gK MT)
 ·have:=(J'.pin (h'.objs.size,pJ) (kw _ (rf.mpr rfl))).1;exact⟨pJ,_,_,this,by rw[<- rh],by rw[<- rh],by rw[<- rh]⟩
 ·exact Array.getElem?_push_size ..
 ·refine⟨hn b hb,l5 (vY b hb),fun z=>?_,.inl hb,fun x c e=>(f2 b hb).2.2.2.2.1 x c (gJ x c e),fun p hp z=>?_⟩
  ·rcases l8.mp (I2.iC b z) with q|q
   ·exact(f2 b hb).2.1 q
   ·exact(f2 b hb).2.2.1 q
  ·rcases rf.mp hp with rfl
   have z':h'.objs.size=b:=z;have:=vY b hb;rw[<- z',hsz]at this;exact absurd this (Z2.mpr (IS _))
 ·exact R9.vp J'.os J'.base J'.hok J'.bare fun b hb=>⟨(f3 b hb).2.2.2.1,(f3 b hb).2.1,(f3 b hb).2.2.2.2.1,(f3 b hb).2.2.2.2.2⟩
 ·have:=J'.bare.2;have e:(MS X N' scope cl s3.heap.objs.size code (X.A.in4.in1.over (.compLoop (dg elt tg iter ifs scope pos) 0 (.ref it) .none (genEnv scope cl s3.heap.objs.size code builtinsNs X.env)) []) {s3 with gens:=s3.gens.push (.fresh (.compStart (dg elt tg iter ifs scope pos) 0 (.ref it) .none (genEnv scope cl s3.heap.objs.size code builtinsNs X.env)))} (upd H2 P (.cI gK)) fp).s₀.gens.size=s3.gens.size+1 :=by
   show (s3.gens.push _).size=_;rw[ZR]
  rw[e]at this;omega
theorem F1 {prog:ff}{w:hX}{A:rb}{a:ag}{R':ZY->ba->Prop}(In:Nat->ba->Prop)
  (turn:∀n s,In n s->wpAny (model prog w) A.in1 (pyNext (.ref a)) (fun r s1=>match r with
   |none=>R' (.ok (.ret (.bool true))) s1
   |some v=>∃c,v=.bool c/\if c=true then ∃m,m<n/\In m s1 else R' (.ok (.ret (.bool false))) s1) (fun e s'=>R' (.error e) s') s) :
  ∀(n:Nat) (s:ba),In n s->codeAny (model prog w) A (.builtin "all.loop" ⟨[.ref a],[]⟩) R' s :=by
 intro n;induction n using X2 with
 |ind n ih=>
  intro s h;refine BN F.entry_all_loop ?_;rw[zw ZB _];show wpAny _ A.in1 (pyNext (.ref a)>>=_) _ _ s;refine ac (on (turn n s h) (fun r s1 q=>?_) fun _ _ z=>z)
  cases r with
  |none=>exact ac (LM (bi q))
  |some v=>
   obtain⟨c,e,q⟩:=q;subst e;refine ac (xL (Db ?_));refine ac (wpAny_letGo ?_);cases c with
   |true=>
    simp only[if_true]at q ⊢;obtain⟨m,hm,hI⟩:=q;exact bi ⟨FS ZB _,ih m hm s1 hI⟩
   |false=>
    simp only[gc,if_false]at q ⊢;exact ac (LM (bi q))
theorem gy {s:ba}{g:Nat}{x:Yt}{n:Nat}(h:Gn n s.gens) (hx:x.bare=true):Gn s.gens.size (s.setGen g x).gens :=by
 refine⟨fun y hy=>?_,?_⟩
 ·have U0:y∈s.gens.setIfInBounds g x:=hy;rcases Array.mem_or_eq_of_mem_setIfInBounds U0 with z|z
  ·exact h.1 y z
  ·rw[z];exact hx
 ·show s.gens.size<=(s.gens.setIfInBounds g x).size;rw[Array.size_setIfInBounds];exact ce _
theorem ur {s:ba}{g:Nat}{x:Yt}(h:g<s.gens.size):(s.setGen g x).gens[g]?=some x :=by
 show (s.gens.setIfInBounds g x)[g]?=_;rw[Array.getElem?_setIfInBounds_self];simp[h]
theorem uv {Y:Cx}{A2:rb}{R:GenEnd}{Yp:Protocol}{n:Nat}{s₀ s:ba}{it:ag}{J:It}{fp:List ag}{bE:Nat->ii->Prop}(T:Turn Y.prog Y.w Y.K tg J fp it bE) {i:Nat}(st:bE i s.heap)
  (loop:Seg (model Y.prog Y.w) A2 R Yp n s₀ (.compLoop (dg elt tg iter ifs scope pos) 0 (.ref it) .none Y.env) ((model Y.prog Y.w).den (.compLoop (dg elt tg iter ifs scope pos) 0 (.ref it) .none Y.env)) [] s) :
  Seg (model Y.prog Y.w) A2 R Yp n s₀ (.compStart (dg elt tg iter ifs scope pos) 0 (.ref it) .none Y.env) ((model Y.prog Y.w).den (.compStart (dg elt tg iter ifs scope pos) 0 (.ref it) .none Y.env)) [] s :=by
 show Seg _ A2 _ _ _ s₀ _ ((compStart (dg elt tg iter ifs scope pos) 0 (.ref it) .none Y.env).onRaise (leaving Y.env)) [] s;unfold compStart;rw[YX];show Seg _ A2 _ _ _ s₀ _ ((ask>>=_).wrap _ _ _ _) [] s;refine wT (XN ?_);split
 ·exact YD rfl loop
 ·first
   |exact wT (LM (wT (ES (wT (T.self _ i s _ _ st (YD rfl loop))))))
   |(refine wT (LM ?_);show Seg _ A2 _ _ _ s₀ _ ((standAt iter.pos>>=_).wrap _ _ _ _) [] s;exact wT (ES (wT (T.self _ i s _ _ st (YD rfl loop)))))
def MU (P:ag) (tn:Nat) (idx:List Nat) (wi:TI) (g:TG) (tt:TT) (te:TE):TE:=fun σ H Q=>HU P wi (fun J H1=>∃W:Nat->Nat->St->Hp->Prop,(∃m,W 0 m (bQ tn idx σ) H1)/\MR J g tt te false (fun b H2=>Q (.bl b) H2) W) σ H
theorem MV {p kW:ww}(hr:bh (k+1) X.A) (hc:X.calm=true) (B:aJ X.N X.env.scope scope N' tn idx)
  (h0:scope.names.lookup (".0" : bv)=some .local) (ko:scope.isCoroutine=false) (dG:X.env.code=.ref c) (hd:u7 X.base c P) (dF:∃bm ob,Yh X.base mainGlobals X.mg bm ob)
  (wc:Gl X "all") (hm:X.mg "all" = none) (hi:PI X tg iter wi) (hg:dY X N' scope k fun Y=>PG Y tg g) (ht:dY X N' scope k fun Y=>iF Y ifs tt) (he:dY X N' scope k fun Y=>PE Y elt te)
  (hs:∀x,genFold iter X.env x=pure x :=by intro _;rfl):PE X (.Call (.Name "all" p) [dg elt tg iter ifs scope kW] [] pos) (MU P tn idx wi g tt te) :=by
 refine⟨?_⟩;intro pins s σ H Q I h;refine B0 (fI I wc hm PyProof.Rows.boot_all ?_);refine PyProof.Rows.callWith_builtin1 ?_ rfl rfl;show wpAny _ _ (spliced ((false,eval (dg elt tg iter ifs scope kW) X.env)::[])) _ _ s;refine Pc (v8 hr hc B h0 ko dG hd dF hi hs I h ?_);intro J H3 a s5 Y it fp bE gn pp G ⟨W,⟨m0,w0⟩,turn⟩;refine Rs ?_;refine call_function_tree F.kind_all F.plain_all F.entry_all (F.args_all1 _) ?_;unfold ul.«all»;refine ac (m:=oneArg "all" _) (bi ?_)
 refine ac (wpAny_pyIter_gen (G.isg G.inv) ?_);refine bi ⟨FS ZB _,?_⟩;have AJ:=F0 (A2:=X.A.in4.in1) (pp:=pp) (R:=fun n s₀ r aw=>r=.ok .next/\∃τ H,Inv Y pp τ H aw/\Q (.bl true) H)
  (Yp:=fun n s₀ v s jH=>∃c τ H,v=.bool c/\Inv Y pp τ H s/\(c=false->Q (.bl false) H)/\(c≠false->∀bb,lQ s bb->jH (.send .none) bb)) G.A G.xe G.calm G.co G.T (G.blk _ hg) (G.blk _ ht) (G.blk _ he) G.stat turn
  (fun n s₀ aw τ H J z=>⟨rfl,τ,H,J,z⟩) (fun n s₀ s jH c τ H J z1 z2=>⟨c,τ,H,rfl,J,z1,z2⟩)
 have hP:=G.prog;have hW:=G.w;rw[hP,hW]at AJ;refine F1 (A:=X.A) (fun n s=>(∃τ H,Inv Y pp τ H s)/\∃gs,s.gens[gn]?=some gs/\∀bb,lQ s bb->gs.Goes (model X.prog X.w) X.A.in4.in1 (fun n s₀ r aw=>r=.ok .next/\∃τ H,Inv Y pp τ H aw/\Q (.bl true) H)
  (fun n s₀ v s jH=>∃c τ H,v=.bool c/\Inv Y pp τ H s/\(c=false->Q (.bl false) H)/\(c≠false->∀bb,lQ s bb->jH (.send .none) bb)) n (.send .none) bb) ?_ (m0+1) s5 ?_
 ·rintro n s6 ⟨⟨τ,H6,I6⟩,gs,MX,rh⟩;have W0:=G.gsz I6;refine ZC (ZC (ZC ?_));show wpAny (model X.prog X.w) X.A.in4 (pyNext (.ref a)) _ _ s6;refine wpAny_pyNext_genexpQ (A:=X.A.in4) (P:=fun n s₀ aw=>∃τ H,Inv Y pp τ H aw/\Q (.bl true) H) hr.hd I6.nolimit hr.depth (G.isg I6) MX (rh _ ⟨rfl,rfl,gy I6.bare rfl⟩) (fun v s1 CP hb hv=>?_) (fun s1 hp h' hk=>?_)
  ·obtain⟨c,zg,H1,e,I1,z1,z2⟩:=hv;subst e;refine⟨c,rfl,?_⟩;have wg:lQ s1 (s1.setGen gn CP):=⟨rfl,rfl,gy I1.bare hb⟩;cases c with
   |false=>
    rw[if_neg i8];exact⟨.bl false,H1,G.out (I1.jG wg),rfl,z1 rfl⟩
   |true=>
    rw[if_pos rfl];have z3:=z2 (by decide)
    cases n with
    |zero=>exact(z3 s1 ⟨rfl,rfl,I1.bare.self⟩).elim
    |succ m=>
     refine⟨m,Me _,⟨zg,H1,I1.jG wg⟩,CP,ur (G.gsz I1),fun bb o=>z3 bb ⟨o.1,o.2.1,?_⟩⟩
     exact wg.2.2.trans o.2.2
  ·obtain⟨zg,H1,I1,z1⟩:=hp;have I2:=I1.kept (t':=s1.toks) hk;have MY:lQ {s1 with heap:=h'} {s1.setGen gn .finished with heap:=h'}:=⟨rfl,rfl,gy (s:=s1) I1.bare rfl⟩
   exact⟨.bl true,H1,G.out (I2.jG MY),rfl,z1⟩
 ·refine⟨⟨_,_,G.inv⟩,_,G.st,fun bb o=>⟨rfl,?_⟩⟩
  have I7:=G.inv.jG o;have CQ:bE 0 bb.heap :=by rw[o.1];exact G.tn0
  have q:=uv (iter:=iter) (ifs:=ifs) (scope:=scope) (pos:=kW) (elt:=elt) G.T CQ (by rw[hP,hW];exact AJ m0 (m0+1) 0 _ _ bb bb (Me _) w0 I7 CQ G.fr)
  rw[hP,hW]at q;exact q
end
section
variable {X:Cx}{tg l:dL}{tl:TE}
theorem dU {xs:List V}{us:List ap}(r:Vals xs us) {j:Nat}(h:j<us.toArray.size):RelV (xs.getD j .ao) us.toArray[j] :=by
 have hl:=r.length;have hj:j<xs.length :=by simpa[hl] using h
 obtain⟨u,e,q⟩:=r.get (i:=j) (x:=xs[j]) (ar hj);have e2:us.toArray[j]=u :=by
  rw[cr]at e;obtain⟨h',e⟩:=e;simpa using e
 rw[e2,c8,ar hj];exact q
theorem yw:cU X (.builtin "isinstance") (fun xs H Q=>∃x T t b,xs=[x,.ty T]/\fW X.K H x t/\Mn X.K t (.type T)=some b/\Q (.bl b) H) :=by
 intro pins s σ H xs us Q I r h;obtain⟨x,T,t,b,rfl,ty,e,q⟩:=h;obtain⟨u,w',rfl,r1,r2⟩:=vals2 r;cases (show w'=BY T from r2);exact Cy I r1 ty e fun tk=>⟨.bl b,H,I.tok tk,rfl,q⟩
theorem pK:∀{xs:List V}{us:List ap},xs.length=us.length->(∀(i:Nat) (v:V),xs[i]?=some v->∃u,us[i]?=some u/\RelV v u)->Vals xs us
 | [],[],_,_=>.nil
 | [],_::_,h,_=>by simp at h
 |_::_,[],h,_=>by simp at h
 |x::xs,u::us,h,g=>by
          obtain⟨u',e,r⟩:=g 0 x rfl;have e':u=u':=by simpa using e
          subst e';exact .cons r (pK (by simpa using h) fun i v hv=>by
           obtain⟨w,e2,r2⟩:=g (i+1) v (by simpa using hv)
           exact⟨w,by simpa using e2,r2⟩)
theorem wj {e:dL}{te:TE}{p p1 p2 pos:ww}(hc:X.calm=true) (hg:Gl X "list") (hm:X.mg "list" = none) (CT:Gl X "range") (MZ:X.mg "range" = none) (he:PE X e te) (hs:starEach [e] X.env=[(false,eval e X.env)] :=by rfl) :
  PE X (.Call (.Name "list" p) [.Call (.Name "range" p1) [e] [] p2] [] pos) (fun σ H Q=>te σ H fun x H1=>∃j:Int,x=.int j /\ -(2 ^ 24)<=j/\j<=2 ^ 24/\∀l,H1 l=none->Q (.ref l) (upd H1 l (.lst ((lw j.toNat).map fun i=>V.int (i:Nat))))) :=by
 refine⟨?_⟩;intro pins s σ H Q I h;refine B0 (fI I hg hm (by decide +kernel:bootBuiltins "list" = some (.type "list")) ?_)
 refine Fk ?_ rfl rfl;show wpAny _ _ (spliced ((false,eval (.Call (.Name "range" p1) [e] [] p2) X.env)::[])) _ _ s
 refine Pc ?_;refine Call_ (fI I CT MZ boot_range (Fk ?_ hs rfl));rw[hs];refine Pc (thn (he pins s σ H _ I h) fun v s1 ⟨x,H1,I1,r1,q1⟩=>Rs ?_)
 obtain⟨j,rfl,b1,b2,q⟩:=q1;obtain⟨t,rfl⟩:=r1;refine call_range_1 ?_;refine Rs ?_;refine call_list_range (n:=j.toNat) (I1.ok.hd hc) (IsRange.new ..) (small_one (by omega) (by omega) (by omega) (by omega)) (by rw[PyProof.Rows.rangeSize_nat];simp) (by omega) fun h' tk pY c' hk hS hit=>?_
 have I2:Inv X pins σ H1 {s1 with heap:=s1.heap.push {cls:=.type "range",data:=.fields #[.int 0 s1.toks,.int j t,.int 1 (s1.toks+1)]},toks:=s1.toks+1+1}:=I1.kept fun b o e=>br _ e
 obtain⟨hsz,rj⟩:=hit;have rv:Vals ((lw j.toNat).map fun i=>V.int (i:Nat)) pY.toList :=by
  refine pK (by simpa using hsz.symm) fun i v e=>?_
  rw[db]at e;cases q2:(lw j.toNat)[i]? with
  |none=>rw[q2]at e;cases e
  |some k=>
   rw[q2]at e;have ek:k=i :=by
    obtain⟨_,e3⟩:=cr.mp q2;simpa using e3.symm
   have hi:i<pY.size :=by
    have:=(cr.mp q2).1;rw[EN]at this;omega
   obtain⟨t2,e4⟩:=rj i pY[i] (by simp[hi])
   refine⟨pY[i],by simp[hi],?_⟩
   rw[e4];have e5:v=V.int (k:Nat):=(l7 e).symm;rw[e5,ek];exact⟨t2,by simp⟩
 have ob:ObjOk X.prog X.w (upd H1 (s1.heap.push {cls:=.type "range",data:=.fields #[.int 0 s1.toks,.int j t,.int 1 (s1.toks+1)]}).objs.size (.lst ((lw j.toNat).map fun i=>V.int (i:Nat)))) h' (s1.heap.push {cls:=.type "range",data:=.fields #[.int 0 s1.toks,.int j t,.int 1 (s1.toks+1)]}).objs.size (.lst ((lw j.toNat).map fun i=>V.int (i:Nat))) :=by
  refine⟨?_,pY.toList,c',rv,by simpa using hS⟩
  rw[ci,EN];exact v6 (show j.toNat<=2 ^ 24 by omega) (by decide)
 exact⟨.ref _,_,I2.laid (t':=tk) hk (ce _) ob,rfl,q _ (I2.hok.fresh (ce _))⟩
end
theorem M6:bootBuiltins "int" = some (.type "int") :=by decide +kernel
theorem JL:bootBuiltins "bool" = some (.type "bool") :=by decide +kernel
theorem fX:bootBuiltins "tuple" = some (.type "tuple") :=by decide +kernel
theorem wm:bootBuiltins "min" = some (.builtin "min") :=by decide +kernel
theorem wo:bootBuiltins "abs" = some (.builtin "abs") :=by decide +kernel
theorem vg:bootBuiltins "ValueError" = some (.type "ValueError") :=by decide +kernel
theorem bR:bootBuiltins "isinstance" = some (.builtin "isinstance") :=by decide +kernel
structure Bl (mg:bv->Option ap):Prop where
 len_:mg "len" = none
 range_:mg "range" = none
 min_:mg "min" = none
 max_:mg "max" = none
 abs_:mg "abs" = none
 list_:mg "list" = none
 tuple_:mg "tuple" = none
 int_:mg "int" = none
 str_:mg "str" = none
 bool_:mg "bool" = none
 isinstance_:mg "isinstance" = none
 all_:mg "all" = none
 set_:mg "set" = none
 sorted_:mg "sorted" = none
 zip_:mg "zip" = none
 enumerate_:mg "enumerate" = none
 sum_:mg "sum" = none
 reversed_:mg "reversed" = none
 divmod_:mg "divmod" = none
 any_:mg "any" = none
 ValueError_:mg "ValueError" = none
structure Df (K:bn) (mg:bv->Option ap) (x:bv) (st:ut) (ps:List bv) (f:ag) (fd:mf):Prop where
 fn:um K x x st f fd
 bd:Binds K fd ps []
 mg:mg x=some (.ref f)
structure zh (base:ii) (fd:mf) (c P:ag):Prop where
 code:fd.code=.ref c
 hd:u7 base c P
section
variable {P:ff}{w:hX}{K:bn}{mg:bv->Option ap}{base:ii}
theorem um.U1 {x qual:bv}{st:ut}{f:ag}{fd:mf}{N ps:List bv}{k:Nat}{sp:Sp}(F:um K x qual st f fd) (S:aP N ps (aj st)) (len:∀vs H Q E,sp vs H Q E->vs.length=ps.length)
  (lL:∀(A:rb) (outer:List Op) (s:ba) (H:Hp) (vs:List V) (Q:VK) (E:XK),bh k (A.deeper (envOfC qual (aj st) s.heap.objs.size f fd.code))->sp vs H Q E->
   ∃t,eZ (fE bq P w K mg base N qual (aj st) f fd.code A outer s H E).iD (bA st) t/\t {nx:=fun _ H'=>Q .ao H',rt:=Q} (start N vs) H):FnOk P w K mg base bq (k+1) f fd ps sp :=by
 obtain⟨oc,od,kV,doc,pm,an,cE,ct,kh,rfl,lk,dI⟩:=F.ex;refine Av lk dI S len fun A outer s H vs Q E hr ki=>?_
 obtain⟨t,h,q⟩:=lL A outer s H vs Q E hr ki;exact⟨t,h.iD,q⟩
end
def Xc:V->Bool | .int _=>true|_=>false
def below (m:Int):V->Bool | .int i=>decide (0<=i) && decide (i<m)|_=>false
structure aU (net:List (List Int)) (w:Nat):Prop where
 one:1<=net.length
 nine:net.length<=9
 wid:w=2\/w=3
 row:∀r∈net,r.length=w/\∀g∈r,0<=g/\g<(net.length:Int)
def HW (tb:List ag) (H:Hp):Prop:=∀p∈tb,Tb p H
def QF (H:Hp) (b:ag):Prop:=∃c m:Int,H b=some (.lst [.int c,.int m])/\0<=c/\0<=m
def Runs (J:It) (ys:List V) (H:Hp):Prop:=∀i,(i<ys.length->J.go i H/\∀x H',J.yld i H x H'->H'=H/\ys[i]?=some x)/\(ys.length<=i->J.stop i H)
theorem F2 {K:bn}{a:ag}{ys:List V}{H:Hp}(h:bW K H a ys):Runs (L7 K a) ys H:=fun i=>
 ⟨fun hi=>⟨⟨ys,ys[i],h,ar hi⟩,fun x H' y=>⟨y.1,y.2 ys h⟩⟩,fun hi=>⟨ys,h,hi⟩⟩
theorem CU {K:bn}{a:ag}{ys:List V}{H:Hp}(h:bL K H a ys):Runs (L6 K a) ys H:=fun i=>
 ⟨fun hi=>⟨⟨ys,ys[i],h,ar hi⟩,fun x H' y=>⟨y.1,y.2 ys h⟩⟩,fun hi=>⟨ys,h,hi⟩⟩
theorem AK {lo:Int}{n:Nat}{H:Hp}:Runs (HI lo n) ((lw n).map fun i=>V.int (lo+(i:Nat))) H:=fun i=>by
 have el:((lw n).map fun i=>V.int (lo+(i:Nat))).length=n :=by simp
 rw[el];refine⟨fun hi=>⟨hi,fun x H' y=>?_⟩,fun hi=>hi⟩
 obtain⟨e1,e2⟩:=y;refine⟨e1,?_⟩;rw[e2,db,GT hi];rfl
section
variable {X:Cx}{K:bn}
theorem zj (h:X.K=K):nz X (RW K):=h▸MG
theorem CV (h:X.K=K):cU X (.builtin "len") (fun xs H Q=>∃x n,xs=[x]/\Mp K x H n/\Q (.int n) H):=h▸FO
theorem sR (h:X.K=K):cU X (.type "tuple") (fun xs H Q=>∃p ys,xs=[.ref p]/\((bL K H p ys/\∀l,H l=none->Q (.ref l) (upd H l (.tup ys)))\/(bW K H p ys/\Q (.ref p) H))):=h▸vf
theorem wq (h:X.K=K):cU X (.builtin "isinstance") (fun xs H Q=>∃x T t b,xs=[x,.ty T]/\fW K H x t/\Mn K t (.type T)=some b/\Q (.bl b) H):=h▸yw
theorem F3 {tg l:dL}{tl:TE}(h:X.K=K) (hl:PE X l tl):PI X tg l (HJ K tl):=h▸Jv hl
theorem JM {tg l:dL}{tl:TE}(h:X.K=K) (hl:PE X l tl):PI X tg l (L8 K tl):=h▸L9 hl
variable {o e:dL}{es:List dL}{to:TE}{t:TA}{name:bv}{apos aM:ww}{T id:String}{r:V->List V->Hp->VK->Prop}
theorem M7 (h:X.K=K) (pa:PlainAttrs T) (slot:Slot T name id) (CG:typeOf (.builtin id)=pure (.type "method_descriptor")) (hm:CF X id r) (ho:PE X o to) (ha:PA X (e::es) t) (ja:attributeBase o name X.env (eval o X.env)=eval o X.env :=by rfl)
  (lM:((backTo aM (starEach (e::es) X.env)).all (fun x => !x.1) && (backToKw aM (keywordEach [] X.env)).all (fun x=>x.1.isSome)
   && decide ((e::es).length+([]:List SI).length+(if ([]:List SI).isEmpty then 0 else 1)<30))=true :=by rfl)
  (hline:(apos.endLine==aM.line)=true :=by rfl) (hs:starEach (e::es) X.env=(false,eval e X.env)::starEach es X.env :=by rfl) (gH:(backTo aM (starEach es X.env)).any (·.1)=false :=by rfl) :
  PE X (.Call (.Attribute o name apos) (e::es) [] aM) (RX K T r to t):=h▸Qz pa slot CG hm ho ha ja lM hline hs gH
end
abbrev bS (K:bn) (x:bv) (st:ut):Prop:=
 ∃(f:ag) (oc:ap) (od:Option ag) (sl:Array (Option ap)) (kV dc pm:ap) (an:Option ag) (cd ct:ap),
  ln K mainGlobals x=some (some (.ref f))/\K.lookup f=some ⟨oc,od,.func (BS x x (cO st) (bA st) (aj st) .none kV dc pm an cd ct),sl⟩/\MW K cd x=true/\Cc K (.ref f)=true
theorem aZ {K:bn}{x:bv}{st:ut}{f:ag}{oc:ap}{od:Option ag}{sl:Array (Option ap)}{kV dc pm:ap}{an:Option ag}{cd ct:ap}(a:ln K mainGlobals x=some (some (.ref f)))
  (l:K.lookup f=some ⟨oc,od,.func (BS x x (cO st) (bA st) (aj st) .none kV dc pm an cd ct),sl⟩) (c:MW K cd x=true) (k:Cc K (.ref f)=true):bS K x st:=⟨f,oc,od,sl,kV,dc,pm,an,cd,ct,a,l,c,k⟩
section
variable {K:bn}{mg:bv->Option ap}{h base:ii}
theorem bS.df {x:bv}{st:ut}(d:bS K x st) (X:K.In h) (G:h.Ns mainGlobals mg) (ps:List bv)
  (hb:∀(kV doc pm:ap) (an:Option ag) (cE ct:ap) (us:List ap),us.length=ps.length->bindArgs (BS x x (cO st) (bA st) (aj st) .none kV doc pm an cE ct) ⟨us,[]⟩=pure (ps.zip us)) :
  ∃f fd,Df K mg x st ps f fd :=by
 obtain⟨f,oc,od,sl,kV,dc,pm,an,cd,ct,a,l,c,k⟩:=d;have F:=ML (st:=st) l c k;exact⟨f,_,F,F.binds hb,wn X G a⟩
theorem rn {x:bv}{st:ut}{ps:List bv}{f p:ag}{fd:mf}(D:Df K mg x st ps f fd) (X:K.In h)
  (t:∃f o fd c,mg x=some (.ref f)/\h.get? f=some o/\o.data=.func fd/\fd.code=.ref c/\u7 h c p) (tr:∀c p,u7 h c p->u7 base c p):∃c,zh base fd c p :=by
 obtain⟨f',o,HX,c,e1,e2,e3,e4,e5⟩:=t;obtain⟨oc,od,kV,doc,pm,an,cE,ct,kh,rfl,lk,dI⟩:=D.fn.ex;have e:=D.mg.symm.trans e1;cases e;have q:=(X _ _ lk).symm.trans e2;cases q;cases e3;exact⟨c,e4,tr _ _ e5⟩
theorem Df.bind1 {x y:bv}{st:ut}{f:ag}{fd:mf}(D:Df K mg x st [y] f fd) (s:ba) (v:ap)
  (hb:∀(kV doc pm:ap) (an:Option ag) (cE ct:ap) (u:ap),bindArgs (BS x x (cO st) (bA st) (aj st) .none kV doc pm an cE ct) ⟨[u],[]⟩=pure [(y,u)]):Zx s fd ⟨[v],[]⟩ [(y,v)] :=by
 obtain⟨oc,od,kV,doc,pm,an,cE,ct,kh,rfl,lk,dI⟩:=D.fn.ex;exact .of_eq (hb kV doc pm an cE ct v)
theorem fL {α β:Type}{F:α->β->Prop}{a:α}{r:List α}{t:List β}(h:AM F (a::r) t):∃b t',t=b::t'/\F a b/\AM F r t':=by
 cases h with
 |cons x y=>exact⟨_,_,rfl,x,y⟩
theorem recs_of {q:ff}{mY:List bv}(h:(mY.all fun y=>(recsOf q).any fun r=>decide (r.name=y))=true):∀y∈mY,∃r∈recsOf q,r.name=y:=fun y hy=>by
 have:=xp.mp h y hy;obtain⟨r,hr,e⟩:=List.any_eq_true.mp this;exact⟨r,hr,of_decide_eq_true e⟩
end
abbrev oK:=V->Hp->(Hp->Prop)->Prop
section
variable {Y:Cx}{A2:rb}{tg elt iter:dL}{ifs:List dL}{scope:zd}{pos:ww}{it:ag}{fp:List ag}{bE:Nat->ii->Prop}{J:It}{g:TG}{tt:TT}{te:TE}{pp:List (ag×lc)}{R:GenEnd}{Yp:Protocol}
def tGenV (J:It) (g:TG) (tt:TT) (te:TE) (C:oK) (Z:Hp->Prop) (W:Nat->Nat->St->Hp->Prop):Prop:=∀i m τ H,W i m τ H->
 (J.stop i H/\Z H)\/(J.go i H/\∀x H',J.yld i H x H'->g x τ H' fun aN H2=>tt aN H2 fun b H3=>if b=true then te aN H3 fun y H4=>C y H4 fun H5=>∃m',m'<m/\W (i+1) m' aN H5 else ∃m',m'<m/\W (i+1) m' aN H3)
theorem CW (hA:Y.A=A2.over (.compLoop (.GeneratorExp elt [⟨tg,iter,ifs,0⟩] scope pos) 0 (.ref it) .none Y.env) []) (nA:Y.xe=fun _ _=>False) (hc:Y.calm=true) (ko:Y.env.scope.isCoroutine=false)
  (T:Turn Y.prog Y.w Y.K tg J fp it bE) (hg:PG Y tg g) (ht:iF Y ifs tt) (he:PE Y elt te) (stat:∀{H':Hp},(∀b∈fp,H' b=none)->∀b∈fp,dz Y pp H' b)
  {W:Nat->Nat->St->Hp->Prop} {C:oK} {Z:Hp->Prop} (turn:tGenV J g tt te C Z W)
  (hR:∀n s₀ aw τ H,Inv Y pp τ H aw->Z H->R n s₀ (.ok .next) aw)
  (hY:∀n s₀ s jH y v τ H pl (N:Hp->Prop),RelV y v->Inv Y (pp++pl) τ H s->C y H N->(∀H5 bb,Inv Y (pp++pl) τ H5 bb->N H5->jH (.send .none) bb)->Yp n s₀ v s jH) :
  ∀(m n i:Nat) (τ:St) (H:Hp) (s s₀:ba),m<n->W i m τ H->Inv Y pp τ H s->bE i s.heap->(∀b∈fp,H b=none)->
   Seg (model Y.prog Y.w) A2 R Yp n s₀ (.compLoop (.GeneratorExp elt [⟨tg,iter,ifs,0⟩] scope pos) 0 (.ref it) .none Y.env)
    ((model Y.prog Y.w).den (.compLoop (.GeneratorExp elt [⟨tg,iter,ifs,0⟩] scope pos) 0 (.ref it) .none Y.env)) [] s :=by
 intro m;induction m using X2 with
 |ind m ih=>
  intro n i τ H s s₀ CO w I st fr;show Seg _ A2 _ _ _ s₀ _ ((compTurn (.GeneratorExp elt [⟨tg,iter,ifs,0⟩] scope pos) 0 (.ref it) .none Y.env).onRaise (leaving Y.env)) [] s;rw[compTurn_gen,YX];rcases turn i m τ H w with ⟨stop,qn⟩|⟨go,step⟩
  ·refine wT (ES ?_);have d:=T.done Y rfl rfl rfl hc i pp s τ H (fun _ _=>False) I (stat fr) st stop
   rw[hA]at d;refine wT (on d (fun r s1 ⟨hr,I1⟩=>?_) fun _ _ z=>z.elim)
   subst hr;exact seg_end (.ok .next) (hR _ _ _ _ _ I1 qn)
  ·refine wT (ES ?_);have d:=T.item Y rfl rfl rfl hc i pp s τ H (fun _ _=>False) I (stat fr) st go
   rw[hA]at d;refine wT (on d (fun r s4 ⟨u,hr,h4⟩=>?_) fun _ _ z=>z.elim)
   subst hr;refine wT (on h4 (fun _ s5 ⟨x,H5,I5,r5,y5,jz,vO⟩=>?_) fun _ _ z=>z.elim)
   have vP:=I5.pinned (stat vO) (T.obj _ _ jz);have back:∀{pI:St} {H7:Hp} {s7:ba},Inv Y (pp++iE fp s5.heap) pI H7 s7->bE (i+1) s7.heap/\∀b∈fp,H7 b=none:=fun {pI H7 s7} I7=>by
    refine⟨T.keep _ _ _ jz fun b hb o e=>(I7.pin (b,o) (kw _ (kw _ (cG hb e)))).1,fun b hb=>?_⟩
    obtain⟨o,e,d⟩:=T.obj _ _ jz b hb;exact(I7.pin (b,o) (kw _ (kw _ (cG hb e)))).2.1
   have d2:=hg _ s5 τ H5 x u _ vP r5 (step x H5 y5);rw[hA,nA]at d2;refine wT (on d2 (fun _ s6 ⟨km,H6,I6,q6⟩=>?_) fun _ _ z=>z.elim)
   have d3:=ht _ s6 km H6 _ I6 q6;rw[hA,nA]at d3;refine wT (on d3 (fun ok s7 ⟨H7,I7,q7⟩=>?_) fun _ _ z=>z.elim)
   have hy:∀v,yieldOut Y.env v=yieldValue v:=fun v=>by simp only[yieldOut,ko,gc,if_false]
   cases ok with
   |false=>
    simp only[gc,if_false]at q7 ⊢;obtain⟨m',rg,w7⟩:=q7;exact YD rfl (ih m' rg n (i+1) km H7 s7 s₀ (by omega) w7 I7.b9 (back I7).1 (back I7).2)
   |true=>
    simp only[if_true]at q7 ⊢;simp only[hy];rw[Yg,Yg,Zh,Zh];have d4:=he _ s7 km H7 _ I7 q7;rw[hA,nA]at d4;refine seg_wrap (on d4 (fun yv s8 ⟨y,H8,I8,r8,q8⟩=>?_) fun _ _ z=>z.elim)
    obtain⟨n,rfl⟩:∃n',n=n'+1:=⟨n - 1,by omega⟩
    refine seg_at (seg_yield rfl rfl rfl (hY _ _ _ _ y yv km H8 _ _ r8 I8 q8 fun H9 bb I9 ⟨m',rg,w8⟩=>?_))
    exact YD rfl (ih m' rg n (i+1) km H9 bb bb (by omega) w8 I9.b9 (back I9).1 (back I9).2)
end
section
variable {X:Cx}{tg elt iter:dL}{ifs:List dL}{scope:zd}{pos:ww}{N':List bv}{tn:Nat}{idx:List Nat}{wi:TI}{g:TG}{tt:TT}{te:TE}{c P:ag}{k:Nat}
def HY (X Y:Cx) (pp:List (ag×lc)) (gn:Nat) (C:oK) (Z:Hp->Prop) (n:Nat) (H:Hp) (s:ba):Prop:=
 ∃τ pl gs,Inv Y (pp++pl) τ H s/\s.gens[gn]?=some gs/\∀bb,Inv Y (pp++pl) τ H bb->gs.Goes (model X.prog X.w) X.A.in4.in1 (fun _ _ r aw=>r=.ok .next/\∃τ H,Inv Y pp τ H aw/\Z H)
  (fun _ _ v s jH=>∃y τ H pl N,RelV y v/\Inv Y (pp++pl) τ H s/\C y H N/\∀H5 bb,Inv Y (pp++pl) τ H5 bb->N H5->jH (.send .none) bb) n (.send .none) bb
theorem QH {pins:List (ag×lc)}{σ:St}{J:It}{H3:Hp}{a:ag}{s5:ba}{Y:Cx}{it:ag}{fp:List ag}{bE:Nat->ii->Prop}{gn:Nat}{pp:List (ag×lc)}{C:oK}{Z:Hp->Prop}{n:Nat}{H:Hp}{s:ba}{E:ap->ba->Prop}
  (hr:bh (k+1) X.A) (G:v7 X pins σ N' scope tn idx k elt tg iter ifs pos J H3 a s5 Y it fp bE gn pp) (h:HY X Y pp gn C Z n H s) :
  wpAny (model X.prog X.w) X.A.in4 (pyNext (.ref a)) (fun r s1=>match r with
   |none=>∃H1,Inv X pins σ H1 s1/\Z H1
   |some v=>∃y τ H1 pl N,RelV y v/\Inv Y (pp++pl) τ H1 s1/\C y H1 N/\∀H2 s2,Inv Y (pp++pl) τ H2 s2->s2.gens=s1.gens->N H2->∃m,m<n/\HY X Y pp gn C Z m H2 s2) E s :=by
 obtain⟨τ,pl,gs,I6,MX,rh⟩:=h;refine wpAny_pyNext_genexpQ (A:=X.A.in4) (P:=fun _ _ aw=>∃τ H,Inv Y pp τ H aw/\Z H) hr.hd I6.nolimit hr.depth (G.isg I6.b9) MX (rh _ (I6.jG ⟨rfl,rfl,gy I6.bare rfl⟩)) (fun v s1 CP hb hv=>?_) (fun s1 hp h' hk=>?_)
 ·obtain⟨y,zg,H1,Sa,N,r1,I1,c1,z2⟩:=hv;have wg:lQ s1 (s1.setGen gn CP):=⟨rfl,rfl,gy I1.bare hb⟩;refine⟨y,zg,H1,Sa,N,r1,I1.jG wg,c1,fun H2 s2 I2 e2 n2=>?_⟩
  have z3:=z2 H2 s2 I2 n2;cases n with
  |zero=>exact z3.elim
  |succ m=>exact⟨m,Me _,zg,Sa,CP,I2,by rw[e2];exact ur (G.gsz I1.b9),fun bb I3=>z2 H2 bb I3 n2⟩
 ·obtain⟨zg,H1,I1,z1⟩:=hp;have I2:=I1.kept (t':=s1.toks) hk;have MY:lQ {s1 with heap:=h'} {s1.setGen gn .finished with heap:=h'}:=⟨rfl,rfl,gy (s:=s1) I1.bare rfl⟩
  exact⟨H1,G.out (I2.jG MY),z1⟩
theorem CY {pins:List (ag×lc)}{σ:St}{J:It}{H3:Hp}{a:ag}{s5:ba}{Y:Cx}{it:ag}{fp:List ag}{bE:Nat->ii->Prop}{gn:Nat}{pp:List (ag×lc)}{C:oK}{Z:Hp->Prop}{W:Nat->Nat->St->Hp->Prop}{m0:Nat}{H4:Hp}{s6:ba}
  (G:v7 X pins σ N' scope tn idx k elt tg iter ifs pos J H3 a s5 Y it fp bE gn pp) (hg:dY X N' scope k fun Y=>PG Y tg g) (ht:dY X N' scope k fun Y=>iF Y ifs tt) (he:dY X N' scope k fun Y=>PE Y elt te)
  (I6:Inv Y (pp++iE fp s5.heap) (bQ tn idx σ) H4 s6) (U2:s6.gens=s5.gens) (turn:tGenV J g tt te C Z W) (w0:W 0 m0 (bQ tn idx σ) H4):HY X Y pp gn C Z (m0+1) H4 s6 :=by
 have AJ:=CW (A2:=X.A.in4.in1) (pp:=pp) (R:=fun _ _ r aw=>r=.ok .next/\∃τ H,Inv Y pp τ H aw/\Z H)
  (Yp:=fun _ _ v s jH=>∃y τ H pl N,RelV y v/\Inv Y (pp++pl) τ H s/\C y H N/\∀H5 bb,Inv Y (pp++pl) τ H5 bb->N H5->jH (.send .none) bb) G.A G.xe G.calm G.co G.T (G.blk _ hg) (G.blk _ ht) (G.blk _ he) G.stat turn
  (fun n s₀ aw τ H J z=>⟨rfl,τ,H,J,z⟩) (fun n s₀ s jH y v τ H pl N r J z1 z2=>⟨y,τ,H,pl,N,r,J,z1,z2⟩)
 have hP:=G.prog;have hW:=G.w;have g8:=G.st;rw[<- U2]at g8;refine⟨_,_,_,I6,g8,fun bb I7=>⟨rfl,?_⟩⟩
 have CQ:bE 0 bb.heap:=G.T.keep _ _ _ G.tn0 fun b hb o e=>(I7.pin (b,o) (kw _ (kw _ (cG hb e)))).1
 have U3:∀b∈fp,H4 b=none:=fun b hb=>by
  obtain⟨o,e,d⟩:=G.T.obj _ _ G.tn0 b hb;exact(I7.pin (b,o) (kw _ (kw _ (cG hb e)))).2.1
 have q:=uv (iter:=iter) (ifs:=ifs) (scope:=scope) (pos:=pos) (elt:=elt) G.T CQ (AJ m0 (m0+1) 0 _ _ bb bb (Me _) w0 I7.b9 CQ U3);rw[hP,hW]at q;exact q
def takeIn (S:ag):oK:=fun y H N=>∃ys,H S=some (.lst ys)/\ys.length<sizeLine/\N (upd H S (.lst (ys++[y])))
theorem yx {pins:List (ag×lc)}{σ:St}{J:It}{H3:Hp}{a:ag}{s5:ba}{Y:Cx}{it:ag}{fp:List ag}{bE:Nat->ii->Prop}{gn:Nat}{pp:List (ag×lc)}{Z:Hp->Prop}{A:rb}{R':ZY->ba->Prop}{S:ag}{res:ap}
  (hr:bh (k+1) X.A) (G:v7 X pins σ N' scope tn idx k elt tg iter ifs pos J H3 a s5 Y it fp bE gn pp)
  (kr:∀{Q:Option ap->ba->Prop} {E:ap->ba->Prop} {s:ba},wpAny (model X.prog X.w) X.A.in4 (pyNext (.ref a)) Q E s->wpAny (model X.prog X.w) A.in1 (pyNext (.ref a)) Q E s)
  (hR:∀s H,Inv X pins σ H s->Z H->R' (.ok (.ret res)) s) :
  ∀(n:Nat) (H:Hp) (s:ba),HY X Y pp gn (takeIn S) Z n H s->codeAny (model X.prog X.w) A (.builtin "list.extend.loop" ⟨[.ref S,.ref a,res],[]⟩) R' s :=by
 intro n;induction n using X2 with
 |ind n ih=>
  intro H s h;refine BN F.entry_extend_loop ?_;rw[zw UF _];show wpAny _ A.in1 (pyNext (.ref a)>>=_) _ _ s;refine ac (kr (on (QH (E:=fun _ _=>False) hr G h) (fun r s1 q=>?_) fun _ _ z=>z.elim))
  cases r with
  |none=>
   obtain⟨H1,I1,z1⟩:=q;exact bi (hR s1 H1 I1 z1)
  |some v=>
   obtain⟨y,τ,H1,pl,N,r1,I1,⟨ys,hS,hz,n1⟩,nx⟩:=q;obtain⟨_,its,c,rv,hl,e⟩:=I1.pX hS;show wpAny _ A.in1 (updateSeq S (·.push v)>>=_) _ _ _;have hP:=G.prog;have hW:=G.w;obtain⟨m,hm,h2⟩:=nx _ _ (I1.vU (its':=its++[v]) (f:=(·.push v)) (t':=s1.toks) hS e (by simp) (rv.append (.cons r1 .nil)) (by rw[xb,Da];omega)) rfl n1
   refine ac (Ps e rfl (bi ⟨FS UF _,ih m hm _ _ h2⟩) (by rw[im];omega) (by show (its.toArray.push v).size<=sizeLine+1;rw[ZR,im];omega))
theorem AO {pins:List (ag×lc)}{σ:St}{J:It}{H3:Hp}{a:ag}{s5:ba}{Y:Cx}{it:ag}{fp:List ag}{bE:Nat->ii->Prop}{gn:Nat}{pp:List (ag×lc)}{A:rb}{E:ap->ba->Prop}{QL:List ap->ba->Prop}{R:List V->Hp->Prop}
  (hr:bh (k+1) X.A) (G:v7 X pins σ N' scope tn idx k elt tg iter ifs pos J H3 a s5 Y it fp bE gn pp) (hg:dY X N' scope k fun Y=>PG Y tg g) (ht:dY X N' scope k fun Y=>iF Y ifs tt) (he:dY X N' scope k fun Y=>PE Y elt te)
  (kr:∀{Q:Option ap->ba->Prop} {E:ap->ba->Prop} {s:ba},wpAny (model X.prog X.w) X.A.in4 (pyNext (.ref a)) Q E s->wpAny (model X.prog X.w) A.in1 (pyNext (.ref a)) Q E s)
  (hW:∀S,H3 S=none->∃W:Nat->Nat->St->Hp->Prop,(∃m,W 0 m (bQ tn idx σ) (upd H3 S (.lst [])))/\tGenV J g tt te (takeIn S) (fun H=>∃ys,H S=some (.lst ys)/\R ys H) W)
  (hQ:∀us ys s H,Inv X pins σ H s->Vals ys us->ys.length<=sizeLine->R ys H->QL us s):wpAny (model X.prog X.w) A (collect (.ref a)) QL E s5 :=by
 have hT:∀{s':ba},s'.heap.IsGen a gn->s'.TypeIs (.ref a) "generator" := fun h=>h.typeIs
 obtain⟨W,⟨m0,w0⟩,turn⟩:=hW s5.heap.objs.size (G.inv.hok.fresh (ce _));have I0:=G.inv.pinned (G.stat G.fr) (G.T.obj _ _ G.tn0);have U4:s5.heap.objs.size≠a:=fun e=>by
  obtain⟨o,_,_,ho,_⟩:=G.isg G.inv;have:=io ho;rw[e]at this;exact LH _ this
 unfold collect;refine ac (Y2 (BN XD ?_));rw[zw XE _];show wpAny _ A.in1 (newList []>>=fun l=>again (.builtin "list.__iadd__" ⟨[l,.ref a],[]⟩)) _ _ s5
 refine ac (sB ?_);refine bi ⟨FS KB _,BN Yi ?_⟩;rw[zw KB _];have I1:=I0.TH (ys:=[]) (its:=[]) (t':=s5.toks) .nil (nw _);have T1:=hT (G.isg I1.b9);show wpAny _ A.in1 (BB (.ref s5.heap.objs.size) (.ref a) (.ref s5.heap.objs.size)) _ _ _;unfold BB;refine ac (NG T1 ?_);have h1:IN (.ref s5.heap.objs.size) (.ref a)=false :=by simp[IN,U4]
 have h2:(BY "generator" == BY "list")=false :=by decide
 have h3:(BY "generator" == BY "tuple")=false :=by decide
 simp only[h1,h2,h3,Zg,gc,if_false];refine ac (wpAny_pyIter_gen (G.isg I1.b9) ?_);refine ac (xL ?_);unfold XI;refine ac (X3 T1 F.gen_no_len ?_);show wpAny _ A.in1 (specialOf (li a) (i0 "__length_hint__")>>=_) _ _ _
 refine ac (X3 T1 F.gen_no_hint ?_);refine bi ?_;show wpAny _ A.in1 (rule "list.extend.makes-room" >>= fun _=>Yo (.ref s5.heap.objs.size)>>=fun _=>
  again (.builtin "list.extend.loop" ⟨[.ref s5.heap.objs.size,.ref a,.ref s5.heap.objs.size],[]⟩)) _ _ _
 refine ac (LM ?_);obtain⟨_,TR,c1,U5,pL,jc⟩:=I1.pX av;have e1:TR=[] :=by cases U5;rfl
 subst e1;refine ac ?_;show wpAny _ A.in1 (updateSeq s5.heap.objs.size (·.push .none)>>=fun _=>updateSeq s5.heap.objs.size (·.pop)) _ _ _
 refine ac (Ps jc rfl ?_);have I2:=I1.vU (ys:=[.ao]) (its':=[.none]) (f:=(·.push .none)) (t':=s5.toks) av jc (by simp) (.cons rfl .nil) (by decide)
 have lR:=AL (CS (·.push wE)) jc rfl;refine Ps lR rfl ?_;obtain⟨_,fc,c2,lg,mZ,M8⟩:=I2.pX av;have I3:=I2.vU (ys:=[]) (its':=[]) (f:=(·.pop)) (t':=s5.toks) av M8 (by
  cases lg with
  |cons r t=>cases t;simp) .nil (nw _)
 rw[yZ,yZ]at I3;refine bi ⟨FS UF _,yx (Z:=fun H=>∃ys,H s5.heap.objs.size=some (.lst ys)/\R ys H) hr G kr (fun s H I ⟨ys,hS,q⟩=>?_) (m0+1) _ _ (CY G hg ht he I3 rfl turn w0)⟩
 obtain⟨hz,its,c,rv,hl,e⟩:=I.pX hS;show wpAny _ A (load s5.heap.objs.size>>=_) _ _ s;refine ac (Zw e ?_);refine bi ?_;have:=hQ its ys s H I rv hz q;simpa using this
def HZ (P:ag) (tn:Nat) (idx:List Nat) (wi:TI) (g:TG) (tt:TT) (te:TE):TE:=fun σ H Q=>HU P wi (fun J H1=>∀S,H1 S=none->∃W:Nat->Nat->St->Hp->Prop,(∃m,W 0 m (bQ tn idx σ) (upd H1 S (.lst []))) /\
 tGenV J g tt te (takeIn S) (fun H2=>∃ys,H2 S=some (.lst ys)/\∀l,H2 l=none->Q (.ref l) (upd H2 l (.tup ys))) W) σ H
theorem nC {Q₁:ap->ba->Prop}{QL:List ap->ba->Prop}{prog:ff}{w:hX}{A:rb}{E:ap->ba->Prop}{s:ba}{I:ag}(hT:s.TypeIs (.ref I) "generator")
  (W:wpAny (model prog w) A.in1 (collect (.ref I)) QL E s) (hsz:∀us s',QL us s'->us.length<=sizeLine)
  (h:∀us s',QL us s'->Q₁ (.ref s'.heap.objs.size) {s' with heap:=s'.heap.push {cls:=.type "tuple",data:=.seq us.toArray}}) :
  codeAny (model prog w) A (.call (.builtin "tuple.__new__") ⟨[.type "tuple",.ref I],[]⟩) (wants Q₁ E) s :=by
 refine YO ?_;show wpAny _ A.in1 (do checkBuiltinCall "tuple.__new__" ⟨[.type "tuple",.ref I],[]⟩;again (.builtin "tuple.__new__" ⟨[.type "tuple",.ref I],[]⟩)) _ _ s
 refine ac (Yq (F.newCall_tuple_1 _) (bi ⟨FS F.plain_tuple_new _,BN F.entry_tuple_new ?_⟩));rw[zw F.plain_tuple_new _];have kX:=sub_tuple_self;have WT:=init_tuple_lookup;have Xd:=madeHere_tuple;wp_walk using NG hT,on W
 ·intro us s' hq;show wpAny _ _ (IF us.toArray>>=fun v=>ret v) _ _ _
  unfold IF;refine ac (sB ?_ (by show us.toArray.size<=sizeLine;rw[im];exact hsz us s' hq))
  exact bi (h us s' hq)
 ·exact fun _ _ z=>z
theorem yy {p kW:ww}(hr:bh (k+1) X.A) (hc:X.calm=true) (B:aJ X.N X.env.scope scope N' tn idx)
  (h0:scope.names.lookup (".0" : bv)=some .local) (ko:scope.isCoroutine=false) (dG:X.env.code=.ref c) (hd:u7 X.base c P) (dF:∃bm ob,Yh X.base mainGlobals X.mg bm ob)
  (wc:Gl X "tuple") (hm:X.mg "tuple" = none) (hi:PI X tg iter wi) (hg:dY X N' scope k fun Y=>PG Y tg g) (ht:dY X N' scope k fun Y=>iF Y ifs tt) (he:dY X N' scope k fun Y=>PE Y elt te)
  (hs:∀x,genFold iter X.env x=pure x :=by intro _;rfl):PE X (.Call (.Name "tuple" p) [dg elt tg iter ifs scope kW] [] pos) (HZ P tn idx wi g tt te) :=by
 refine⟨?_⟩;intro pins s σ H Q I h;refine B0 (fI I wc hm fX ?_);refine Fk ?_ rfl rfl;show wpAny _ _ (spliced ((false,eval (dg elt tg iter ifs scope kW) X.env)::[])) _ _ s;refine Pc (v8 hr hc B h0 ko dG hd dF hi hs I h ?_);intro J H3 a s5 Y it fp bE gn pp G hW;refine Rs ?_;have hT:s5.TypeIs (.ref a) "generator" := (G.isg G.inv).typeIs
 refine callType_codes (Q₁:=fun obj aw=>aw.TypeIs obj "tuple" /\ EP X pins σ Q obj aw) F.called_tuple (F.typeCall_tuple_1 _) F.entry_object_init
  (nC (QL:=fun us s'=>us.length<=sizeLine/\∃ys H',Inv X pins σ H' s'/\Vals ys us/\∀l,H' l=none->Q (.ref l) (upd H' l (.tup ys))) hT
   (AO hr G hg ht he (fun h=>ZC h) hW fun us ys s' H' I' rv hz q=>⟨by rw[<- rv.length];exact hz,ys,H',I',rv,q⟩) (fun us s' q=>q.1) fun us s' ⟨hl,ys,H',I',rv,q⟩=>⟨⟨_,ij _ rfl,rfl⟩,?_⟩) fun obj aw jF=>?_
 ·have I2:Inv X pins σ (upd H' s'.heap.objs.size (.tup ys)) {s' with heap:=s'.heap.push {cls:=.type "tuple",data:=.seq us.toArray}}:=
   I'.laid (t':=s'.toks) (fun b o e=>br _ e) (ce _) (show ObjOk X.prog X.w _ _ _ (.tup ys) from ⟨by rw[rv.length];exact hl,us,rv,iM.new _ _⟩)
  exact⟨.ref s'.heap.objs.size,_,I2,rfl,q _ (I'.hok.fresh (ce _))⟩
 ·exact⟨jF.1,F.args_object_init_2 obj _,object_init_meets F.called_tuple.init.lookup F.called_tuple.made (by decide) X.prog X.w X.A.in1 _ aw ⟨jF.1,rfl,jF.2⟩⟩
end
def m4 (xs:Array Nat):Prop:=xs.toList.Pairwise (· < ·)
theorem jI {xs:Array Nat}(h:m4 xs) {i j:Nat}(nr:i<j) (hj:j<xs.size):xs[i]<xs[j] :=by
 have:=List.pairwise_iff_getElem.mp h i j (by simpa using ZD nr hj) (by simpa using hj) nr
 simpa using this
theorem below_go {xs:Array Nat}{v:Nat}(h:m4 xs):∀(fuel lo hi:Nat),hi - lo<=fuel->lo<=hi->hi<=xs.size->(∀i (dJ:i<xs.size),i<lo->xs[i]<v)->(∀i (dJ:i<xs.size),hi<=i->v<=xs[i])->
  Yj xs v fuel lo hi<=xs.size/\(∀i (dJ:i<xs.size),i<Yj xs v fuel lo hi->xs[i]<v)/\∀i (dJ:i<xs.size),Yj xs v fuel lo hi<=i->v<=xs[i]
 |0,lo,hi,hf,h1,h2,ha,hb=>by
          have e:lo=hi :=by omega
          subst e;exact⟨h2,ha,hb⟩
 |fuel+1,lo,hi,hf,h1,h2,ha,hb=>by
          unfold Yj;by_cases aO:lo<hi
          ·rw[if_pos aO];dsimp only;have hm:(lo+hi) / 2<xs.size :=by omega
           have e:xs.getD ((lo+hi) / 2) v=xs[(lo+hi) / 2] :=by simp[NH,hm]
           rw[e];by_cases hc:xs[(lo+hi) / 2]<v
           ·rw[if_pos hc];refine below_go h fuel _ _ (by omega) (by omega) h2 (fun i dJ hl=>?_) hb
            by_cases ei:i=(lo+hi) / 2
            ·subst ei;exact hc
            ·exact ZD (jI h (show i<(lo+hi) / 2 by omega) hm) hc
           ·rw[if_neg hc];refine below_go h fuel _ _ (by omega) (by omega) (by omega) ha (fun i dJ hl=>?_)
            by_cases ei:i=(lo+hi) / 2
            ·subst ei;exact Yu hc
            ·exact v6 (Yu hc) (OR (jI h (show (lo+hi) / 2<i by omega) dJ))
          ·rw[if_neg aO];have e:lo=hi :=by omega
           subst e;exact⟨h2,ha,hb⟩
theorem jJ {xs:Array Nat}(v:Nat) (h:m4 xs):mo xs v<=xs.size/\(∀i (dJ:i<xs.size),i<mo xs v->xs[i]<v)/\∀i (dJ:i<xs.size),mo xs v<=i->v<=xs[i]:=
 below_go h _ _ _ (by omega) (nw _) (ce _) (fun i _ z=>absurd z (X4 _)) (fun i z z'=>absurd z (Z2.mpr z'))
theorem AQ {xs:Array Nat}{v:Nat}(h:m4 xs) (hn:xs[mo xs v]?≠some v):m4 (AC xs (mo xs v) v) :=by
 obtain⟨b0,b1,b2⟩:=jJ v h;generalize mo xs v=p at *
 unfold m4 AC;have e:((xs.extract 0 p).push v++xs.extract p xs.size).toList=xs.toList.take p++[v]++xs.toList.drop p :=by
  simp;exact GE (by simp)
 rw[e];have hl:∀y∈xs.toList.take p,y<v:=fun y hy=>by
  obtain⟨i,hi,rfl⟩:=List.mem_take_iff_getElem.mp hy;have gz:i<p/\i<xs.size :=by simpa[Nat.lt_min] using hi
  simpa using b1 i gz.2 gz.1
 have hr:∀y∈xs.toList.drop p,v<y:=fun y hy=>by
  obtain⟨i,hi,rfl⟩:=List.mem_drop_iff_getElem.mp hy;have gz:p+i<xs.size :=by rw[Nat.add_comm];simpa using hi
  have h1:v<=xs[p+i]:=b2 (p+i) gz (Nat.le_add_right _ _);have h2:v≠xs[p+i]:=fun z=>by
   by_cases U6:i=0
   ·subst U6;exact hn (by rw[Nat.add_zero]at gz;rw[tz gz];simpa using z.symm)
   ·have q:=jI h (show p<p+i by omega) gz
    have q2:=b2 p (by omega) (ce _)
    omega
  have:xs.toList[p+i]'(by simpa using gz)=xs[p+i] :=by simp
  rw[this];omega
 have hp:=List.take_append_drop p xs.toList;have U7:(xs.toList.take p++xs.toList.drop p).Pairwise (· < ·) :=by rw[hp];exact h
 obtain⟨q1,q2,q3⟩:=YQ.mp U7;refine YQ.mpr ⟨YQ.mpr ⟨q1,List.pairwise_singleton _ _,fun a ha b hb=>?_⟩,q2,fun a ha b hb=>?_⟩
 ·rw[rf]at hb;subst hb;exact hl a ha
 ·rcases EU.mp ha with ha|ha
  ·exact q3 a ha b hb
  ·rw[rf]at ha;subst ha;exact hr b hb
structure eV (w:hX) (t:r9):Prop where
 dum:t.dummies=#[]
 ris:m4 t.place
 led:t.led = !w.params.followText "set-order"
theorem zk (j:Nat):r9.has #[] j=false :=by
 unfold r9.has;have:(#[]:Array Nat)[mo #[] j]?=none :=by simp
 rw[this];rfl
theorem AR {w:hX}{t:r9}(h:eV w t) {j:Nat}(e:t.slot j=.empty):t.place[mo t.place j]?≠some j:=fun z=>by
 unfold r9.slot at e;dsimp only at e;rw[z]at e;simp at e
theorem eV.put {w:hX}{t:r9}(h:eV w t) {j:Nat}(e:t.slot j=.empty):eV w (t.put j).1 :=by
 unfold r9.put;refine⟨?_,AQ h.ris (AR h e),h.led⟩;show (if r9.has t.dummies j then _ else t.dummies)=#[]
 rw[h.dum,zk];rfl
theorem F4 {α:Type}(f:Nat->Option α) (n:Nat):m4 (((lw n).filterMap fun j=>(f j).map (j,·)).map (·.1)).toArray :=by
 unfold m4;have e:(((lw n).filterMap fun j=>(f j).map (j,·)).map (·.1)).toArray.toList=(lw n).filter fun j=>(f j).isSome :=by
  rw[US];induction lw n with
  |nil=>rfl
  |cons a l ih=>
   cases hf:f a with
   |none=>simp[GS,hf,ih]
   |some b=>simp[GS,hf,ih]
 rw[e];exact XT.filter _ Xw
def hV (e:Int×ap):Int:=match e.2 with | .int i _=>i|_=>0
def iQ (P:ff) (w:hX) (h:ii) (a:ag) (ns:List Int):Prop:=
 ∃o es ep t,h.get? a=some o/\o.ExactSet/\o.data=.set es ep t/\ElemsOf (intKind P w) es.toList/\(es.toList.map hV).Perm ns/\ns.Nodup/\es.size<scanBound/\t.fits es.size=true/\eV w t
theorem iQ.bp {P:ff}{w:hX}{h h':ii}{a:ag}{ns:List Int}(x:iQ P w h a ns) (k:∀o,h.get? a=some o->h'.get? a=some o):iQ P w h' a ns:=
 let ⟨o,es,ep,t,e,r⟩:=x;⟨o,es,ep,t,k o e,r⟩
def AU (P:ff) (w:hX) (a:ag) (ns:List Int):HO:=.ext fun h=>iQ P w h a ns
def TU (ns:List Int) (m:Int):List Int:=if m∈ns then ns else ns++[m]
section
variable {P:ff}{w:hX}{A:rb}{E:ap->ba->Prop}{s:ba}
abbrev sS (w:hX):lc:={cls:=.type "set",dict:=none,data:=.set #[] 0 (.fresh 0 0 (!w.params.followText "set-order"))}
theorem iQ.typeIs {h:ii}{a:ag}{ns:List Int}{s:ba}(x:iQ P w s.heap a ns):s.TypeIs (.ref a) "set" := let ⟨o,_,_,_,ho,hex,_⟩:=x;⟨o,ho,hex.1⟩
end
theorem CZ:Manifest.owners.lookup (String.ofList ['r','o','t','a','r','e','t','i','_','t','e','s'].reverse)=some Manifest.sig_set_iterator :=by kernel_rfl
theorem bH:Slot "set_iterator" "__next__" "set_iterator.__next__" :=
 .of (owner := "set_iterator") (n := "__next__") (by rw[typeLookup_type,builtinLookup_eq_fast];kernel_rfl) (by decide +kernel) (by decide +kernel) (by decide +kernel)
  (by first|exact .inl (by decide +kernel)|exact .inr (by decide +kernel)) (by rw[isSubtype_type];kernel_rfl)
theorem jd:entryFor table "set_iterator.__next__" = some ul.«set_iterator.__next__»:=entryFor_of_tree (by kernel_rfl)
theorem je (a:ap):argsOk "set_iterator.__next__" ⟨[a],[]⟩ :=by
 unfold argsOk;rw[signature?_of (id := "set_iterator.__next__") (n:=['_','_','t','x','e','n','_','_']) (o:=['r','o','t','a','r','e','t','i','_','t','e','s']) (by kernel_rfl) CZ];kernel_rfl
theorem rp:Slot "set_iterator" "__iter__" "set_iterator.__iter__" :=
 .of (owner := "set_iterator") (n := "__iter__") (by rw[typeLookup_type,builtinLookup_eq_fast];kernel_rfl) (by decide +kernel) (by decide +kernel) (by decide +kernel)
  (by first|exact .inl (by decide +kernel)|exact .inr (by decide +kernel)) (by rw[isSubtype_type];kernel_rfl)
theorem AV:entryFor table "set_iterator.__iter__" = some ul.«dict_keyiterator.__iter__»:=
 entryFor_alias (id' := "dict_keyiterator.__iter__") (by kernel_rfl) (by first|rfl|decide +kernel|(unfold String.splitOn;simp +decide [String.splitOnAux])) (by decide +kernel) (by kernel_rfl)
theorem AW (a:ap):argsOk "set_iterator.__iter__" ⟨[a],[]⟩ :=by
 unfold argsOk;rw[signature?_of (id := "set_iterator.__iter__") (n:=['_','_','r','e','t','i','_','_']) (o:=['r','o','t','a','r','e','t','i','_','t','e','s']) (by kernel_rfl) CZ];kernel_rfl
theorem pM:entryFor table "set.__iter__" = some ul.«frozenset.__iter__»:=
 entryFor_alias (id' := "frozenset.__iter__") (by kernel_rfl) (by first|rfl|decide +kernel|(unfold String.splitOn;simp +decide [String.splitOnAux])) (by decide +kernel) (by kernel_rfl)
def c7 (h:ii) (I a:ag) (first:ap) (i n ep:Nat):Prop:=∃o,h.get? I=some o/\o.cls=.type "set_iterator" /\ o.data=.fields #[first,.int i 0,.ref a,.int n 0,.int ep 0]
theorem c7.typeIs {s:ba}{I a:ag}{first:ap}{i n ep:Nat}(x:c7 s.heap I a first i n ep):s.TypeIs (.ref I) "set_iterator" := let ⟨o,ho,hc,_⟩:=x;⟨o,ho,hc⟩
theorem dZ {α:Type}:∀{l:List α}{i:Nat}(h:i<l.length),(l[i]::l.eraseIdx i).Perm l
 | [],i,h=>by simp at h
 |x::l,0,h=>.refl _
 |x::l,i+1,h=>by
          rw[List.eraseIdx_cons_succ,List.getElem_cons_succ];exact(SC.swap _ _ _).trans (.cons _ (dZ (by simpa using h)))
section
variable {P:ff}{w:hX}{A:rb}{E:ap->ba->Prop}{s:ba}
theorem wp_choose {src:Source}{n:Nat}{Q:Nat->ba->Prop}(hn:n≠0) (h:∀i d,i<n->Q i {s with drawn:=d}):wpAny (model P w) A (choose src n) Q E s:=fun Γ p _=>by
 refine⟨hn,?_⟩;exact h _ _ (XO _ (Nat.pos_of_ne_zero hn))
theorem jK {α:Type}:∀(n:Nat) (xs:List α) {s:ba}{Q:List α->ba->Prop},n=xs.length->(∀ys d,ys.Perm xs->Q ys {s with drawn:=d})->wpAny (model P w) A (drawOrder n xs) Q E s
 |0,xs,s,Q,hn,h=>by
          have:xs=[]:=Os hn.symm;subst this;exact bi (h [] s.drawn .nil)
 |n+1,[],s,Q,hn,h=>by simp at hn
 |n+1,x::xs,s,Q,hn,h=>by
          show wpAny _ _ (choose .order (x::xs).length>>=_) _ _ s;refine ac (wp_choose (by simp) fun i d hi=>?_)
          have e:(x::xs)[i]?=some (x::xs)[i]:=ar hi;rw[e];dsimp only;refine ac (jK n _ (by rw[Gc hi];simp at hn ⊢;omega) fun ys d' hp=>bi (h _ _ ?_))
          exact(SC.cons _ hp).trans (dZ hi)
structure gL (P:ff) (w:hX) (h:ii) (a:ag) (es:Array (Int×ap)) (ep:Nat) (t:r9):Prop where
 at_:∃o,h.get? a=some o/\o.ExactSet/\o.data=.set es ep t
 fits:t.fits es.size=true
 tab:eV w t
theorem zl {α:Type}(next:Nat->Nat):∀(fuel k:Nat) (left:List α) (out:Array α),fuel=left.length->(pickOrder.go next fuel k left out).toList.Perm (out.toList++left)
 |0,k,left,out,h=>by
          have:left=[]:=Os h.symm;subst this;simp[pickOrder.go]
 |fuel+1,k,left,out,h=>by
          unfold pickOrder.go;have hl:next k % left.length<left.length:=XO _ (by omega)
          rw[ar hl];dsimp only;refine(zl next fuel (k+1) _ _ (by rw[Gc hl];omega)).trans ?_
          rw[Array.toList_push,On];exact SC.append_left _ (dZ hl)
theorem nE {α:Type}(next:Nat->Nat) (xs:Array α):(pickOrder next xs).toList.Perm xs.toList :=by
 unfold pickOrder;exact(zl next xs.size 0 xs.toList #[] (by simp)).trans (by simp)
theorem ku {Q:Bool->ba->Prop}(h:Q (w.params.followText "set-order") s):wpAny (model P w) A setsByText Q E s :=by
 unfold setsByText;exact ac (XN (bi h))
theorem rq {a:ag}{es:Array (Int×ap)}{ep:Nat}{t:r9}{slot given:Nat}{Q:Option (ap×Nat)->ba->Prop}(hE:gL P w s.heap a es ep t)
  (hd:w.params.followText "set-order" = false->(!t.plain && decide (es.size > 1))=false)
  (h1:w.params.followText "set-order" = true->Q ((pickOrder (w.params.setOrder a ep) es)[given]?.map fun e=>(e.2,slot)) s)
  (h2:w.params.followText "set-order" = false->Q (match es[mo t.place slot]?,t.place[mo t.place slot]? with|some (_,x),some j=>some (x,j+1)|_,_=>none) s) :
  wpAny (model P w) A (setNext a slot given ep) Q E s :=by
 obtain⟨⟨o,ho,hex,pN⟩,hf,ht⟩:=hE;unfold setNext;refine ac (EO ho pN hf ?_);dsimp only;refine ac (ku ?_);cases hb:w.params.followText "set-order" with
 |true=>
  simp only[if_true,bne_self_eq_false,gc,if_false];unfold setWalk;refine ac (ac (EO ho pN hf ?_));dsimp only;refine ac (ku ?_);rw[hb];simp only[if_true];refine ac (XN (bi (bi ?_)));exact h1 hb
 |false=>
  simp only[gc,if_false];have iB:=hd hb;have TV:t.led=true :=by rw[ht.led,hb];rfl
  show wpAny _ _ (if (!t.plain && decide (es.size > 1))=true then _ else _) _ _ s
  rw[iB];simp only[gc,if_false];refine ac ?_;show wpAny _ _ (if (!t.led && !es.isEmpty)=true then _ else _) _ _ s
  rw[TV];simp only[LP,Yd,gc,if_false];exact bi (bi (h2 hb))
theorem c7.M9 {h:ii}{I a:ag}{first x:ap}{i n ep:Nat}(hit:c7 h I a first i n ep):c7 (h.update I (lc.mapFields (·.setIfInBounds 0 x))) I a x i n ep :=by
 obtain⟨o,ho,hc,hd⟩:=hit;exact⟨_,AL _ ho (YE (Pe hd _)),(Zq ..).trans hc,by rw[Pe hd];simp⟩
theorem c7.Nb {h:ii}{I a:ag}{first:ap}{i n ep:Nat}(hit:c7 h I a first i n ep):c7 (h.update I (lc.mapFields (·.setIfInBounds 1 (rawInt ((i:Int)+1))))) I a first (i+1) n ep :=by
 obtain⟨o,ho,hc,hd⟩:=hit;exact⟨_,AL _ ho (YE (Pe hd _)),(Zq ..).trans hc,by rw[Pe hd];simp[rawInt]⟩
theorem lh {I a:ag}{first x:ap}{i n ep k:Nat}{Q:Unit->ba->Prop}(hk:k<5) (hit:c7 s.heap I a first i n ep) (h:Q () {s with heap:=s.heap.update I (lc.mapFields (·.setIfInBounds k x))}):wpAny (model P w) A (setField (.ref I) k x) Q E s :=by
 obtain⟨o,ho,hc,hd⟩:=hit;exact wpAny_setField ho hd (by simpa using hk) h
theorem zm {Q:Fin->ba->Prop}(hh:A.handled=none) (h:∀e h',s.TypeIs e "StopIteration" \/ True->(∀b o,s.heap.get? b=some o->h'.get? b=some o)->XU {s with heap:=h'} e "StopIteration" -> E e {s with heap:=h'}) :
  wpAny (model P w) A (newExc (.type "StopIteration") []>>=fun e=>raiseNew e) Q E s :=by
 refine ac ?_;simp only[newExc,newTuple];refine ac (sB ?_ (by size_fits))
 refine ac (m:=firstArgMember _ _) (Yq (a:=wE) (by first|rfl|(simp only[firstArgMember];rfl)) ?_)
 refine sB ?_ (by size_fits)
 simp only[raiseNew];refine ac (wpAny_handled ?_);rw[hh];refine ac (bi (wpAny_throw ?_));exact h _ _ (.inr trivial) (fun b o e=>br _ (br _ e)) ⟨_,ij _ rfl,rfl⟩
theorem wt {Q:Option ap->ba->Prop}{e:ap}(hT:s.TypeIs e "StopIteration") (h:Q none s):wpAny (model P w) A (do let b <- isInstance e (.type "StopIteration");if b=true then pure none else throw e) Q E s:=
 ac (Yv (T := "StopIteration") (b:=true) hT isSubtype_stop (bi h))
theorem zo {I a:ag}{slot i ep next:Nat}{es:Array (Int×ap)}{t:r9}{x:ap}{Q:Option ap->ba->Prop}(hit:c7 s.heap I a (.int slot 0) i es.size ep) (hE:gL P w s.heap a es ep t)
  (hd:w.params.followText "set-order" = false->(!t.plain && decide (es.size > 1))=false)
  (h1:w.params.followText "set-order" = true->(pickOrder (w.params.setOrder a ep) es)[i]?.map (fun e=>(e.2,slot))=some (x,next))
  (h2:w.params.followText "set-order" = false->(match es[mo t.place slot]?,t.place[mo t.place slot]? with|some (_,x),some j=>some (x,j+1)|_,_=>none)=some (x,next))
  (hQ:∀h',c7 h' I a (.int next 0) (i+1) es.size ep->zn I s.heap h'->Q (some x) {s with heap:=h'}):wpAny (model P w) A (pyNext (.ref I)) Q E s :=by
 obtain⟨o,ho,hc,iB⟩:=id hit;obtain⟨oa,uw,F5,ux⟩:=hE.at_;unfold pyNext;refine ac (LS (wP (name:=i0 "__next__") hit.typeIs bH (u8 bH hit.typeIs jd ?_ (je _))))
 unfold ul.«set_iterator.__next__»;refine ac (m:=slotArgs "__next__" 0 _) (bi ?_)
 dsimp only;refine ac (XF ho iB ?_);dsimp only;refine ac (OK uw ux hE.fits ?_);simp only[bne_self_eq_false,gc,if_false,uu];have fin:∀r,r=some (x,next)->wpAny (model P w) A.in1 (match r with
    |some (x,next)=>do
     setField (li I) 0 (rawInt next)
     setField (li I) 1 (rawInt (↑i+1))
     ret x
    |none=>do
     setField (li I) 2 wE
     let __do_lift <- newExc (BY "StopIteration") []
     raiseNew __do_lift) (fun fin s'=>∃v,fin=Fin.done (Flow.ret v)/\wpAny (model P w) A (pure (some v)) Q E s') (fun e s'=>wpAny (model P w) A (do
     let __do_lift <- isInstance e (BY "StopIteration")
     if __do_lift=true then pure none else throw e) Q E s') s:=fun r hr=>by
  subst hr;dsimp only;refine ac (lh (by decide) hit ?_)
  have Nc:=hit.M9 (x:=rawInt next);refine ac (lh (by decide) Nc ?_)
  exact bi ⟨x,rfl,bi (hQ _ Nc.Nb ((Is ..).trans (Is ..)))⟩
 exact ac (rq hE hd (fun hb=>fin _ (h1 hb)) (fun hb=>fin _ (h2 hb)))
theorem zp {I a:ag}{slot i ep:Nat}{es:Array (Int×ap)}{t:r9}{Q:Option ap->ba->Prop}(hh:A.handled=none) (hit:c7 s.heap I a (.int slot 0) i es.size ep) (hE:gL P w s.heap a es ep t)
  (hd:w.params.followText "set-order" = false->(!t.plain && decide (es.size > 1))=false)
  (h1:w.params.followText "set-order" = true->(pickOrder (w.params.setOrder a ep) es)[i]?.map (fun e=>(e.2,slot))=none)
  (h2:w.params.followText "set-order" = false->(match es[mo t.place slot]?,t.place[mo t.place slot]? with|some (_,x),some j=>some (x,j+1)|_,_=>none)=none)
  (hQ:∀h',(∀b o,b≠I->s.heap.get? b=some o->h'.get? b=some o)->Q none {s with heap:=h'}):wpAny (model P w) A (pyNext (.ref I)) Q E s :=by
 obtain⟨o,ho,hc,iB⟩:=id hit;obtain⟨oa,uw,F5,ux⟩:=hE.at_;unfold pyNext;refine ac (LS (wP (name:=i0 "__next__") hit.typeIs bH (u8 bH hit.typeIs jd ?_ (je _))))
 unfold ul.«set_iterator.__next__»;refine ac (m:=slotArgs "__next__" 0 _) (bi ?_)
 dsimp only;refine ac (XF ho iB ?_);dsimp only;refine ac (OK uw ux hE.fits ?_);simp only[bne_self_eq_false,gc,if_false,uu];have fin:∀r:Option (ap×Nat),r=none->wpAny (model P w) A.in1 (match r with
    |some (x,next)=>do
     setField (li I) 0 (rawInt next)
     setField (li I) 1 (rawInt (↑i+1))
     ret x
    |none=>do
     setField (li I) 2 wE
     let __do_lift <- newExc (BY "StopIteration") []
     raiseNew __do_lift) (fun fin s'=>∃v,fin=Fin.done (Flow.ret v)/\wpAny (model P w) A (pure (some v)) Q E s') (fun e s'=>wpAny (model P w) A (do
     let __do_lift <- isInstance e (BY "StopIteration")
     if __do_lift=true then pure none else throw e) Q E s') s:=fun r hr=>by
  subst hr;dsimp only;refine ac (lh (by decide) hit ?_)
  exact zm hh fun e h' _ k hT=>wt hT (hQ h' fun b o hb q=>k b o ((AT _ _ (wp hb)).trans q))
 exact ac (rq hE hd (fun hb=>fin _ (h1 hb)) (fun hb=>fin _ (h2 hb)))
theorem zq {I a T:ag}{i ep j:Nat}{es:Array (Int×ap)}{t:r9}{ps:List Nat}{x:Int×ap}{Q:Option ap->ba->Prop}(hit:c7 s.heap I a (.ref T) i es.size ep) (hE:gL P w s.heap a es ep t)
  (hT:s.heap.IsTuple T (ps.map fun (i:Nat)=>rawInt i).toArray) (hj:ps[i]?=some j) (hx:es[j]?=some x)
  (hQ:∀h',c7 h' I a (.ref T) (i+1) es.size ep->zn I s.heap h'->Q (some x.2) {s with heap:=h'}):wpAny (model P w) A (pyNext (.ref I)) Q E s :=by
 obtain⟨o,ho,hc,iB⟩:=id hit;obtain⟨oa,uw,F5,ux⟩:=hE.at_;unfold pyNext;refine ac (LS (wP (name:=i0 "__next__") hit.typeIs bH (u8 bH hit.typeIs jd ?_ (je _))))
 unfold ul.«set_iterator.__next__»;refine ac (m:=slotArgs "__next__" 0 _) (bi ?_)
 dsimp only;refine ac (XF ho iB ?_);dsimp only;refine ac (OK uw ux hE.fits ?_);simp only[bne_self_eq_false,gc,if_false,uu];obtain⟨ot,Nf,_,nt,pN⟩:=hT;refine ac (XG Nf pN ?_);have e:(ps.map fun (i:Nat)=>rawInt i).toArray[i]?=some (rawInt j) :=by simp[hj]
 dsimp only;rw[e];show wpAny _ _ (setNextDrawn a (Int.toNat (j:Int)) ep>>=_) _ _ s;rw[uu];refine ac ?_;unfold setNextDrawn;refine ac (EO uw ux hE.fits ?_);simp only[bne_self_eq_false,gc,if_false,hx];refine bi ?_;refine ac (lh (by decide) hit ?_)
 exact bi ⟨x.2,rfl,bi (hQ _ hit.Nb (Is ..))⟩
theorem zt {I a T:ag}{i ep:Nat}{es:Array (Int×ap)}{t:r9}{ps:List Nat}{Q:Option ap->ba->Prop}(hh:A.handled=none) (hit:c7 s.heap I a (.ref T) i es.size ep) (hE:gL P w s.heap a es ep t)
  (hT:s.heap.IsTuple T (ps.map fun (i:Nat)=>rawInt i).toArray) (hj:ps.length<=i)
  (hQ:∀h',(∀b o,b≠I->s.heap.get? b=some o->h'.get? b=some o)->Q none {s with heap:=h'}):wpAny (model P w) A (pyNext (.ref I)) Q E s :=by
 obtain⟨o,ho,hc,iB⟩:=id hit;obtain⟨oa,uw,F5,ux⟩:=hE.at_;unfold pyNext;refine ac (LS (wP (name:=i0 "__next__") hit.typeIs bH (u8 bH hit.typeIs jd ?_ (je _))))
 unfold ul.«set_iterator.__next__»;refine ac (m:=slotArgs "__next__" 0 _) (bi ?_)
 dsimp only;refine ac (XF ho iB ?_);dsimp only;refine ac (OK uw ux hE.fits ?_);simp only[bne_self_eq_false,gc,if_false,uu];obtain⟨ot,Nf,_,nt,pN⟩:=hT;refine ac (XG Nf pN ?_);have e:(ps.map fun (i:Nat)=>rawInt i).toArray[i]?=none :=by simp[hj]
 dsimp only;rw[e];dsimp only;refine ac (lh (by decide) hit ?_)
 refine ac (lh (by decide) (hit.M9 (x:=rawInt 0)) ?_)
 exact zm hh fun e h' _ k hT=>wt hT (hQ h' fun b o hb q=>k b o ((AT _ _ (wp hb)).trans ((AT _ _ (wp hb)).trans q)))
end
theorem c7.bp {h h':ii}{I a:ag}{first:ap}{i n ep:Nat}(x:c7 h I a first i n ep) (k:∀o,h.get? I=some o->h'.get? I=some o):c7 h' I a first i n ep:=let ⟨o,ho,r⟩:=x;⟨o,k o ho,r⟩
theorem gL.bp {P:ff}{w:hX}{h h':ii}{a:ag}{es:Array (Int×ap)}{ep:Nat}{t:r9}(x:gL P w h a es ep t) (k:∀o,h.get? a=some o->h'.get? a=some o):gL P w h' a es ep t:=
 ⟨let ⟨o,ho,r⟩:=x.at_;⟨o,k o ho,r⟩,x.fits,x.tab⟩
theorem rA {xs:Array Nat}(h:m4 xs) {i:Nat}(hi:i<xs.size):mo xs (xs[i]+1)=i+1 :=by
 obtain⟨b0,b1,b2⟩:=jJ (xs[i]+1) h;generalize mo xs (xs[i]+1)=p at *
 have h1:i<p :=by
  refine Nat.lt_of_not_le fun hp=>?_
  have:=b2 i hi hp;omega
 refine Nat.le_antisymm (Yu fun hp=>?_) h1
 have Sb:i+1<xs.size :=by omega
 have q:=b1 (i+1) Sb hp;have q2:=jI h (show i<i+1 by omega) Sb
 omega
theorem rB {xs:Array Nat}(h:m4 xs):mo xs 0=0 :=by
 obtain⟨b0,b1,b2⟩:=jJ 0 h;generalize mo xs 0=p at *
 by_cases hp:p=0
 ·exact hp
 ·have:=b1 0 (by omega) (by omega)
  omega
section
variable {P:ff}{w:hX}{A:rb}{E:ap->ba->Prop}{s:ba}
theorem si_self {I a:ag}{first:ap}{i n ep:Nat}{Q:ap->ba->Prop}(hit:c7 s.heap I a first i n ep) (h:Q (.ref I) s):wpAny (model P w) A (pyIter (.ref I)) Q E s :=by
 refine Yk hit.typeIs rp (u8 rp hit.typeIs AV ?_ (AW _));show wpAny _ _ (ret (.ref I)) _ _ s;exact bi ⟨_,rfl,"set_iterator",_,hit.typeIs,bH.lookup,h⟩
theorem wu {es:List (Int×ap)}(h:ElemsOf (intKind P w) es) {e:Int×ap}(he:e∈es):∃t,e.2=.int (hV e) t :=by
 obtain⟨⟨k',uy,_⟩,_⟩:=h e he;obtain⟨t,e2⟩:=ap.isInt_shape (k:=k') (v:=e.2) uy;exact⟨t,by unfold hV;rw[e2]⟩
abbrev C3 (xs:List Int):Nat->ap->Prop:=fun i v=>∃m t,xs[i]?=some m/\v=.int m t
def bZ (w:hX) (a:ag) (ep:Nat) (es:Array (Int×ap)):List (Int×ap):=if w.params.followText "set-order" = true then (pickOrder (w.params.setOrder a ep) es).toList else es.toList
theorem d6 (w:hX) (a:ag) (ep:Nat) (es:Array (Int×ap)):(bZ w a ep es).Perm es.toList :=by
 unfold bZ;split
 ·exact nE _ _
 ·exact .refl _
theorem F6 {I a:ag}{es:Array (Int×ap)}{ep:Nat}{t:r9}(hh:A.handled=none) (cJ:a≠I) (zu:ElemsOf (intKind P w) es.toList) (hd:w.params.followText "set-order" = false->(!t.plain && decide (es.size > 1))=false) :
  Z5 P w A I [I,a] [I] (fun a b=>b=a) ((bZ w a ep es).map hV).length (C3 ((bZ w a ep es).map hV))
   (fun i s=>gL P w s.heap a es ep t/\∃slot:Nat,c7 s.heap I a (.int slot 0) i es.size ep/\(w.params.followText "set-order" = false->mo t.place slot=i)) where
 sub:=fun b hb=>by simp at hb;simp[hb]
 grefl:=fun _=>rfl
 gtrans:=fun _ _ _ h1 h2=>h2.trans h1
 frame:=fun i s h' _ st _ hk=>⟨st.1.bp fun o e=>hk a (by simp) o e,let ⟨slot,h1,h2⟩:=st.2;⟨slot,h1.bp fun o e=>hk I (by simp) o e,h2⟩⟩
 item:=fun i s Q E hi st hQ=>by
  obtain⟨hE,slot,hit,hb⟩:=st;have hl:i<(bZ w a ep es).length :=by simpa using hi
  have wx:i<es.size :=by rw[<- jp,<- (d6 w a ep es).length_eq];exact hl
  obtain⟨tk,he⟩:=wu (P:=P) (w:=w) zu ((d6 w a ep es).mem_iff.mp (wr hl));have bM:i<t.place.size :=by
   have:=hE.fits;simp only[r9.fits,EM,beq_iff_eq]at this;rw[this.1];exact wx
  refine zo (next:=if w.params.followText "set-order" = true then slot else t.place[i]+1) (x:=((bZ w a ep es)[i]).2) hit hE hd (fun bJ=>?_) (fun bJ=>?_) (fun h' pZ hs=>hQ _ _ ⟨_,tk,by rw[db,ar hl];rfl,he⟩ ⟨hE.bp fun o e=>by rw[hs.2 a cJ];exact e,_,pZ,fun bJ=>?_⟩ ⟨fun b o hb e=>by rw[hs.2 b (fun z=>hb (by simp[z]))];exact e,rfl,rfl,rfl,ce _⟩)
  ·rw[if_pos bJ];have e1:bZ w a ep es=(pickOrder (w.params.setOrder a ep) es).toList :=by unfold bZ;rw[if_pos bJ]
   have e2:(pickOrder (w.params.setOrder a ep) es)[i]?=some (bZ w a ep es)[i] :=by
    rw[<- Na,<- e1];exact ar hl
   rw[e2];rfl
  ·rw[if_neg (by rw[bJ];decide),hb bJ,tz wx,tz bM]
   have e1:bZ w a ep es=es.toList :=by unfold bZ;rw[if_neg (by rw[bJ];decide)]
   have e2:(bZ w a ep es)[i]=es[i] :=by simp[e1]
   rw[e2]
  ·rw[if_neg (by rw[bJ];decide)]
   exact rA hE.tab.ris bM
 done:=fun s Q E st hQ=>by
  obtain⟨hE,slot,hit,hb⟩:=st;have hl:((bZ w a ep es).map hV).length=es.size :=by rw[ci,(d6 w a ep es).length_eq,jp]
  rw[hl]at hit hb;refine zp hh hit hE hd (fun bJ=>?_) (fun bJ=>?_) (fun h' k=>hQ _ ⟨fun b o hb e=>k b o (fun z=>hb (by simp[z])) e,rfl,rfl,rfl,ce _⟩)
  ·have e1:(pickOrder (w.params.setOrder a ep) es)[es.size]?=none :=by
    refine GG ?_;rw[<- jp,(nE _ es).length_eq,jp];exact ce _
   rw[e1];rfl
  ·rw[hb bJ,GG (ce _)]
 self:=fun i s Q E st hQ=>let ⟨_,slot,hit,_⟩:=st;si_self hit hQ
theorem AX {I a T:ag}{es:Array (Int×ap)}{ep:Nat}{t:r9}{ps:List Nat}(hh:A.handled=none) (cJ:a≠I) (F7:T≠I) (zu:ElemsOf (intKind P w) es.toList) (nF:∀j∈ps,j<es.size) (bM:ps.length=es.size) :
  Z5 P w A I [I,a,T] [I] (fun a b=>b=a) (ps.map fun j=>hV (es.getD j (0,.none))).length (C3 (ps.map fun j=>hV (es.getD j (0,.none))))
   (fun i s=>gL P w s.heap a es ep t/\s.heap.IsTuple T (ps.map fun (i:Nat)=>rawInt i).toArray/\c7 s.heap I a (.ref T) i es.size ep) where
 sub:=fun b hb=>by simp at hb;simp[hb]
 grefl:=fun _=>rfl
 gtrans:=fun _ _ _ h1 h2=>h2.trans h1
 frame:=fun i s h' _ st _ hk=>⟨st.1.bp fun o e=>hk a (by simp) o e,st.2.1.at fun o e=>hk T (by simp) o e,st.2.2.bp fun o e=>hk I (by simp) o e⟩
 item:=fun i s Q E hi st hQ=>by
  obtain⟨hE,hT,hit⟩:=st;have hl:i<ps.length :=by simpa using hi
  have hj:=nF _ (wr hl);have hx:es[ps[i]]?=some es[ps[i]]:=tz hj;have hg:es.getD ps[i] (0,.none)=es[ps[i]] :=by simp[NH,hj]
  obtain⟨tk,he⟩:=wu (P:=P) (w:=w) zu (show es[ps[i]]∈es.toList by simp)
  refine zq hit hE hT (ar hl) hx fun h' pZ hs=>hQ _ _ ⟨_,tk,by rw[db,ar hl];rfl,by dsimp only;rw[hg];exact he⟩ ⟨hE.bp fun o e=>by rw[hs.2 a cJ];exact e,hT.at fun o e=>by rw[hs.2 T F7];exact e,pZ⟩ ⟨fun b o hb e=>by rw[hs.2 b (fun z=>hb (by simp[z]))];exact e,rfl,rfl,rfl,ce _⟩
 done:=fun s Q E st hQ=>by
  obtain⟨hE,hT,hit⟩:=st;have hl:(ps.map fun j=>hV (es.getD j (0,.none))).length=ps.length:=ci _
  rw[hl]at hit;exact zt hh hit hE hT (ce _) fun h' k=>hQ _ ⟨fun b o hb e=>k b o (fun z=>hb (by simp[z])) e,rfl,rfl,rfl,ce _⟩
 self:=fun i s Q E st hQ=>si_self st.2.2 hQ
theorem AY {a:ag}{ns:List Int}{Q:ap->ba->Prop}(hS:iQ P w s.heap a ns)
  (hQ:∀(I:ag) (h':ii) (d':Drawn) (xs:List Int) (fp:List ag) (St:Nat->ba->Prop),xs.Perm ns->(∀b o,s.heap.get? b=some o->h'.get? b=some o)->s.heap.objs.size<=I->(∀b∈fp,b=a\/s.heap.objs.size<=b)->
   (∀A':rb,A'.handled=none->Z5 P w A' I fp [I] (fun a b=>b=a) xs.length (C3 xs) St)->St 0 {s with heap:=h',drawn:=d'}->Q (.ref I) {s with heap:=h',drawn:=d'}):wpAny (model P w) A (pyIter (.ref a)) Q E s :=by
 have qX:=hS.typeIs (h:=s.heap);obtain⟨o,es,ep,t,ho,hex,hd,zu,hp,hn,hb,hf,ht⟩:=hS;have hE:gL P w s.heap a es ep t:=⟨⟨o,ho,hex,hd⟩,hf,ht⟩;have aO:=io ho;refine Yk qX YR (u8 YR qX pM ?_ (F.args_set_iter_1 _));unfold ul.«frozenset.__iter__»;refine ac (m:=ul.Frozenset.slot0 "__iter__" _) (bi ?_)
 unfold ul.Frozenset.sizeOf;refine ac (ac (OK ho hd hf (bi ?_)));refine ac ?_;unfold setDrawn;refine ac (EO ho hd hf ?_);dsimp only;refine ac (ku ?_);refine bi ?_;by_cases lj:(!w.params.followText "set-order" && (!t.plain && decide (es.size > 1)))=true
 ·show wpAny _ _ (if (!w.params.followText "set-order" && (!t.plain && decide (es.size > 1)))=true then _ else _) _ _ s
  rw[if_pos lj];refine ac (jK _ _ (by simp) fun ps d nF=>?_)
  have bM:ps.length=es.size :=by rw[nF.length_eq,EN]
  refine ac (Y3 ?_ (by rw[ci,bM];exact fits_of_scanBound hb))
  refine ac (Yl (o:=o) (br _ ho) hd hf ?_);unfold newFields;refine ac (sB ?_ (by size_fits))
  have hsz:∀u:lc,(s.heap.push u).objs.size=s.heap.objs.size+1:=fun u=>Nd _ _
  have hit:c7 ((s.heap.push {cls:=.type "tuple",data:=.seq (ps.map fun (i:Nat)=>rawInt i).toArray}).push {cls:=.type "set_iterator",data:=.fields #[.ref s.heap.objs.size,.int (0:Nat) 0,.ref a,.int es.size 0,.int ep 0]}) (s.heap.push {cls:=.type "tuple",data:=.seq (ps.map fun (i:Nat)=>rawInt i).toArray}).objs.size a (.ref s.heap.objs.size) 0 es.size ep:=⟨_,ij _ rfl,rfl,rfl⟩
  have Ng:(ps.map fun j=>hV (es.getD j (0,.none))).Perm ns :=by
   refine((nF.map _).trans ?_).trans hp;have:(lw es.size).map (fun j=>hV (es.getD j (0,.none)))=es.toList.map hV :=by
    refine ZE (by simp) fun n h1 h2=>?_
    have qP:n<es.size :=by simpa using h1
    simp[NH,qP]
   rw[this]
  refine bi ⟨_,rfl,"set_iterator",_,c7.typeIs (s:={s with heap:=_,drawn:=d}) hit,bH.lookup,?_⟩
  refine hQ _ _ d _ [(s.heap.push {cls:=.type "tuple",data:=.seq (ps.map fun (i:Nat)=>rawInt i).toArray}).objs.size,a,s.heap.objs.size] _ Ng (fun b o e=>br _ (br _ e)) (by rw[hsz];exact IS _) (fun b hb=>?_) (fun A' hA=>AX (t:=t) (ep:=ep) hA ?_ ?_ zu (fun j hj=>by simpa using nF.mem_iff.mp hj) bM) ⟨hE.bp fun o e=>br _ (br _ e),⟨_,br _ (ij _ rfl),rfl,_,rfl⟩,hit⟩
  ·simp only[l8,Co,or_false]at hb;rcases hb with rfl|rfl|rfl
   ·exact .inr (by rw[hsz];exact IS _)
   ·exact .inl rfl
   ·exact .inr (ce _)
  ·rw[hsz];exact l5 (GM aO)
  ·rw[hsz];exact l5 (Me _)
 ·show wpAny _ _ (if (!w.params.followText "set-order" && (!t.plain && decide (es.size > 1)))=true then _ else _) _ _ s
  rw[if_neg lj];refine ac (bi (ac (Yl ho hd hf ?_)));unfold newFields;refine ac (sB ?_ (by size_fits))
  have hit:c7 (s.heap.push {cls:=.type "set_iterator",data:=.fields #[.int (0:Nat) 0,.int (0:Nat) 0,.ref a,.int es.size 0,.int ep 0]}) s.heap.objs.size a (.int (0:Nat) 0) 0 es.size ep:=⟨_,ij _ rfl,rfl,rfl⟩
  refine bi ⟨_,rfl,"set_iterator",_,c7.typeIs (s:={s with heap:=_}) hit,bH.lookup,?_⟩
  refine hQ _ _ s.drawn _ [s.heap.objs.size,a] _ (((d6 w a ep es).map hV).trans hp) (fun b o e=>br _ e) (ce _) (fun b hb=>?_) (fun A' hA=>F6 (t:=t) (ep:=ep) hA (l5 aO) zu fun hb=>?_) ⟨hE.bp fun o e=>br _ e,0,hit,fun _=>rB ht.ris⟩
  ·simp only[l8,Co,or_false]at hb;rcases hb with rfl|rfl
   ·exact .inr (ce _)
   ·exact .inl rfl
  ·rw[hb]at lj;simpa using lj
theorem pO {a:ag}{Q:Bool->ba->Prop}(hT:s.TypeIs (.ref a) "set") (h:Q false s):wpAny (model P w) A (XI (.ref a)) Q E s :=by
 unfold XI;refine ac (X3 hT F.slot_set_len.lookup ?_);have e:splitId "set.__len__" = some ("set","__len__") :=by kernel_rfl
 dsimp only;rw[e];dsimp only;refine ac (Yv hT sub_set_self ?_);simp only[LP,gc,if_false];show wpAny _ _ (if _=true then _ else _) _ _ s
 rw[if_pos (by kernel_rfl)]
 exact ac (NG hT (bi h))
theorem ints_of {xs:List Int}{acc:Array ap}(h:ItemsOf (C3 xs) acc xs.length):Po acc.toList xs :=by
 obtain⟨hs,hi⟩:=h;have:∀(vs:List ap) (xs:List Int),vs.length=xs.length->(∀(j:Nat) (v:ap),vs[j]?=some v->C3 xs j v)->Po vs xs :=by
  intro vs;induction vs with
  |nil=>intro xs hl _;cases xs with|nil=>exact .nil|cons x xs=>simp at hl
  |cons v vs ih=>
   intro xs hl hg;cases xs with
   |nil=>simp at hl
   |cons x xs=>
    obtain⟨m,t,e1,rfl⟩:=hg 0 v rfl;have e2:x=m :=by simpa using e1
    subst e2;refine .cons _ _ (ih xs (by simpa using hl) fun j u hu=>?_)
    obtain⟨m',t',e3,e4⟩:=hg (j+1) u (by simpa using hu)
    exact⟨m',t',by simpa using e3,e4⟩
 exact this acc.toList xs (by simpa using hs) fun j v hv=>hi j v (by rw[<- Na];exact hv)
theorem yz {a:ag}{ns:List Int}{QL:List ap->ba->Prop}(hh:A.handled=none) (hS:iQ P w s.heap a ns) (hz:ns.length<=sizeLine)
  (hQ:∀us xs h' d' tk,Po us xs->xs.Perm ns->(∀b o,s.heap.get? b=some o->h'.get? b=some o)->QL us {s with heap:=h',drawn:=d',toks:=tk}):wpAny (model P w) A (collect (.ref a)) QL E s :=by
 have aO:a<s.heap.objs.size:=let ⟨_,_,_,_,ho,_⟩:=hS;io ho;have C4:s.heap.objs.size≠a:=SS aO;unfold collect;refine ac (Y2 (BN XD ?_));rw[zw XE _];show wpAny _ A.in1 (newList []>>=fun l=>again (.builtin "list.__iadd__" ⟨[l,.ref a],[]⟩)) _ _ s
 refine ac (sB ?_);refine bi ⟨FS KB _,BN Yi ?_⟩;rw[zw KB _];have C5:iQ P w (s.heap.push {cls:=.type "list",data:=.seq ([]:List ap).toArray}) a ns:=hS.bp fun o e=>br _ e
 have T1:XU {s with heap:=s.heap.push {cls:=.type "list",data:=.seq ([]:List ap).toArray}} (.ref a) "set" := iQ.typeIs (P:=P) (w:=w) (h:=s.heap) (s:={s with heap:=_}) C5
 show wpAny _ A.in1 (BB (.ref s.heap.objs.size) (.ref a) (.ref s.heap.objs.size)) _ _ _;unfold BB;refine ac (NG T1 ?_);have h1:IN (.ref s.heap.objs.size) (.ref a)=false :=by simp[IN,C4]
 have h2:(BY "set" == BY "list")=false :=by decide
 have h3:(BY "set" == BY "tuple")=false :=by decide
 simp only[h1,h2,h3,Zg,gc,if_false];refine ac (AY (s:={s with heap:=s.heap.push {cls:=.type "list",data:=.seq ([]:List ap).toArray}}) C5 ?_)
 intro I h' d' xs fp St hp hk hI Nh hW g8;have T2:XU {s with heap:=h',drawn:=d'} (.ref a) "set" := iQ.typeIs (P:=P) (w:=w) (h:=s.heap) (s:={s with heap:=_,drawn:=d'}) (C5.bp fun o e=>hk a o e)
 refine ac (xL (pO T2 ?_));show wpAny _ A.in1 (if _=true then _ else _) _ _ _
 rw[if_pos (by kernel_rfl)]
 show wpAny _ A.in1 (rule "list.extend.makes-room" >>= fun _=>Yo (.ref s.heap.objs.size)>>=fun _=>
  again (.builtin "list.extend.loop" ⟨[.ref s.heap.objs.size,.ref I,.ref s.heap.objs.size],[]⟩)) _ _ _
 refine ac (LM ?_);have jc:h'.get? s.heap.objs.size=some {cls:=.type "list",data:=.seq ([]:List ap).toArray}:=hk _ _ (ij _ rfl)
 refine ac ?_;show wpAny _ A.in1 (updateSeq s.heap.objs.size (·.push .none)>>=fun _=>updateSeq s.heap.objs.size (·.pop)) _ _ _
 refine ac (Ps jc rfl ?_);have lR:=AL (CS (·.push wE)) jc rfl;refine Ps lR rfl ?_;have AZ:=AL (CS (·.pop)) lR rfl;have oth:∀b o,b≠s.heap.objs.size->h'.get? b=some o->((h'.update s.heap.objs.size (CS (·.push wE))).update s.heap.objs.size (CS (·.pop))).get? b=some o:=
  fun b o hb e=>(AT _ _ (wp hb)).trans ((AT _ _ (wp hb)).trans e)
 have wy:(s.heap.push {cls:=.type "list",data:=.seq ([]:List ap).toArray}).objs.size=s.heap.objs.size+1:=Nd _ _
 have C6:s.heap.objs.size ∉ fp:=fun hm=>by
  rcases Nh _ hm with z|z
  ·exact C4 z
  ·have z':s.heap.objs.size+1<=s.heap.objs.size :=by rw[<- wy];exact z
   exact absurd z' (Nat.not_succ_le_self _)
 have W:=hW A.in1.in1 (by simp[hh])
 have hl:xs.length<=sizeLine :=by rw[hp.length_eq];exact hz
 refine bi ⟨FS UF _,codeAny_extend_loopS (W.of_in1) hl _ C6 _ xs.length 0 _ _ _ rfl (nw _) (W.frame 0 ({s with heap:=h',drawn:=d'}:ba) _ s.toks g8 (ce _) fun b hb o e=>oth b o (fun h=>C6 (h▸hb)) e) AZ (ItemsOf.nil _) fun s' pY c' hm m5 A0=>?_⟩
 show wpAny _ A (load s.heap.objs.size>>=_) _ _ s';refine ac (Zw m5 ?_);refine bi ?_;obtain⟨h2,g2,d2,Ni,os2⟩:=s';have eg:g2=s.gens:=hm.gens;have ed:d2=d':=hm.drawn;have eo:os2=s.os:=hm.os;subst eg;subst ed;subst eo;refine hQ _ xs h2 _ Ni (ints_of A0) hp fun b o e=>hm.heap b o ?_ (oth b o (l5 (io e)) (hk b o (br _ e)))
 have hb:b<s.heap.objs.size:=io e;simp only[l8,Co,or_false,not_or];refine⟨l5 hb,fun z=>?_⟩
 have z':s.heap.objs.size+1<=b :=by rw[<- wy,z];exact hI
 exact absurd (l9 (GM hb) z') (LH _)
end
def sortI (ns:List Int):List Int:=ns.mergeSort fun a b=>decide (a<=b)
theorem sortI_perm (ns:List Int):(sortI ns).Perm ns:=List.mergeSort_perm _ _
theorem F8 (ns:List Int):(sortI ns).Pairwise (·<=·) :=by
 have:=List.pairwise_mergeSort (le:=fun a b:Int=>decide (a<=b)) (fun a b c h1 h2=>by simp only[decide_eq_true_eq]at *;omega) (fun a b=>by simp only[Bool.or_eq_true,decide_eq_true_eq];omega) ns
 exact this.imp fun h=>by simpa using h
theorem yA {a b:List Int}(p:a.Perm b) (ha:a.Pairwise (·<=·)) (hb:b.Pairwise (·<=·)):a=b:=SC.eq_of_pairwise (le:=(·<=·)) (fun x y _ _ h1 h2=>Int.le_antisymm h1 h2) ha hb p
theorem wz {ms ns:List Int}(p:ms.Perm ns) (h:ms.Pairwise (·<=·)):ms=sortI ns:=yA (p.trans (sortI_perm ns).symm) h (F8 ns)
theorem oM:∀{ns:List Int}{us:List ap},Vals (ns.map V.int) us->Po us ns
 | [],_,.nil=>.nil
 |n::ns,_,.cons r t=>by
          obtain⟨k,rfl⟩:=r;exact .cons _ _ (oM t)
theorem nG:∀{ns:List Int}{us:List ap},Po us ns->Vals (ns.map V.int) us
 |_,_,.nil=>.nil
 |_,_,.cons n t r=>.cons ⟨t,rfl⟩ (nG r)
section
variable {P:ff}{w:hX}{A:rb}{E:ap->ba->Prop}{s:ba}
theorem pP {T:String}{l:ag}{vs:List ap}{Q:List ap->ba->Prop}{o:lc}{n:Nat}(ho:s.heap.get? l=some o) (hc:o.cls=.type T) (hd:o.data=.seq vs.toArray n) (hT:T = "list" \/ T = "tuple")
  (h:∀h',(∀b o,s.heap.get? b=some o->h'.get? b=some o)->Q vs {s with heap:=h'}) (hsz:vs.length<=sizeLine):wpAny (model P w) A (collect (.ref l)) Q E s :=by
 unfold collect;refine ac (Y2 (BN XD ?_));rw[zw XE _];show wpAny _ A.in1 (newList []>>=fun l'=>again (.builtin "list.__iadd__" ⟨[l',.ref l],[]⟩)) _ _ s
 refine ac (Zi (bi ⟨FS KB _,BN Yi ?_⟩));rw[zw KB _];show wpAny _ A.in1 (BB (.ref s.heap.objs.size) (.ref l) (.ref s.heap.objs.size)) _ _ {s with heap:=s.heap.push (seqObj "list" #[] 0)}
 unfold BB;have eS:(s.heap.push (seqObj "list" #[] 0)).get? l=some o:=br _ ho
 refine ac (NG (T:=T) ⟨o,eS,hc⟩ ?_);rw[if_pos (by rcases hT with rfl|rfl<;>simp)]
 refine ac (listItems_at eS hd ?_);refine ac (listItems_at (xs:=#[]) (n:=0) (ij _ rfl) rfl ?_);rw[if_neg (by simp)]
 refine ac (Zj (xs:=#[]) (n:=0) (ij _ rfl) rfl ?_ (nw _) (by show (#[]++vs.toArray).size<=sizeLine+1;simp only[Array.size_append,im,Pv];omega))
 refine bi ?_;show wpAny (model P w) A (load s.heap.objs.size>>=_) Q E _;refine ac (Zw (get?_update_seq (ij _ rfl) _) ?_);show wpAny _ _ (pure ((#[]:Array ap)++vs.toArray).toList) Q E _;rw[show ((#[]:Array ap)++vs.toArray).toList=vs by simp]
 exact bi (h _ fun b o e=>(AT _ _ (SS (io e))).trans (br _ e))
theorem A1 {a:ap}{ns:List Int}{Q:ap->ba->Prop}(F9:∀QL:List ap->ba->Prop,(∀us xs h' d' tk,Po us xs->xs.Perm ns->(∀b o,s.heap.get? b=some o->h'.get? b=some o)->QL us {s with heap:=h',drawn:=d',toks:=tk})->wpAny (model P w) A.in1 (collect a) QL E s) (m6:ns.length<64)
  (h:∀(h1 h':ii) d' tk (us:List ap) e,Po us (sortI ns)->(∀b o,s.heap.get? b=some o->h1.get? b=some o)->(∀b o,h1.get? b=some o->h'.get? b=some o)->h'.get? h1.objs.size=some {cls:=.type "list",data:=.seq us.toArray e}->Q (.ref h1.objs.size) {s with heap:=h',drawn:=d',toks:=tk}) :
  wpAny (model P w) A (call (.builtin "sorted") [a]) Q E s :=by
 refine Calls.call_function_entry kind_sorted plain_sorted entry_sorted (args_sorted1 _) ?_;unfold ul.«sorted»;refine ac (m:=checkCount "sorted" 1 1 _) (bi ?_)
 refine ac (F9 _ fun us xs h' d' tk hI hp hk=>?_)
 have Nj:us.length<64 :=by
  have:us.length=xs.length:=(nG hI).length.symm.trans (ci _);rw[this,hp.length_eq];exact m6
 refine ac (Zi ?_ (hsz:=v6 (OR Nj) (by decide)))
 have qQ:(h'.push (seqObj "list" us.toArray 0)).get? h'.objs.size=some (seqObj "list" us.toArray 0):=ij _ rfl
 refine ac (xL (u8 slot_list_sort ⟨_,qQ,rfl⟩ entry_list_sort (list_sort_tree qQ hI Nj fun out Xe a1 a2 a3=>⟨_,rfl,?_⟩) (args_list_sort _)))
 refine bi ⟨_,rfl,?_⟩;obtain⟨e,he⟩:=sortedHeap_at (out:=out) qQ;refine h h' _ d' tk out.toList e (by rw[<- wz (a2.trans hp) a3];exact a1) hk (fun b o hb=>?_) (by simpa using he)
 have aO:=io hb;rw[sortedHeap_old (l5 aO) (by rw[Nd];exact GM aO)]
 exact br _ hb
end
theorem JN {X:Cx}{pins:List (ag×lc)}{σ:St}{H:Hp}{s:ba}{a:ag}{ns:List Int}(I:Inv X pins σ H s) (h:H a=some (AU X.prog X.w a ns)):iQ X.prog X.w s.heap a ns:=(I.hok a _ h).1
inductive Dt where
 |ao|bl (b:Bool)|int (i:Int)|str (x:bv)|lst (xs:List Dt)|tup (xs:List Dt)
inductive fe (H:Hp):V->Dt->Prop where
 |ao:fe H .ao .ao
 |bl (b:Bool):fe H (.bl b) (.bl b)
 |int (i:Int):fe H (.int i) (.int i)
 |str (x:bv):fe H (.str x) (.str x)
 |lst {a:ag} {xs:List V} {ds:List Dt} (e:H a=some (.lst xs)) (hl:xs.length=ds.length) (h:∀(i:Nat) (x:V) (d:Dt),xs[i]?=some x->ds[i]?=some d->fe H x d):fe H (.ref a) (.lst ds)
 |tup {a:ag} {xs:List V} {ds:List Dt} (e:H a=some (.tup xs)) (hl:xs.length=ds.length) (h:∀(i:Nat) (x:V) (d:Dt),xs[i]?=some x->ds[i]?=some d->fe H x d):fe H (.ref a) (.tup ds)
mutual
def fg:Dt->Dt->Bool
 | .ao,.ao=>true
 | .bl a,.bl b=>a==b
 | .bl a,.int b=>(if a then 1 else 0)==b
 | .int a,.bl b=>a==(if b then 1 else 0)
 | .int a,.int b=>a==b
 | .str a,.str b=>a==b
 | .lst xs,.lst ys=>jL xs ys
 | .tup xs,.tup ys=>jL xs ys
 |_,_=>false
def jL:List Dt->List Dt->Bool
 | [],[]=>true
 |x::xs,y::ys=>fg x y && jL xs ys
 |_,_=>false
end
mutual
theorem p0:∀d:Dt,fg d d=true
 | .ao=>by simp[fg]
 | .bl b=>by simp[fg]
 | .int i=>by simp[fg]
 | .str x=>by simp[fg]
 | .lst xs=>by simp only[fg];exact nI xs
 | .tup xs=>by simp only[fg];exact nI xs
theorem nI:∀ds:List Dt,jL ds ds=true
 | []=>by simp[jL]
 |d::ds=>by simp only[jL];rw[p0 d,nI ds];rfl
end
theorem gM:∀(xs ys:List Dt),jL xs ys=((lw (min xs.length ys.length)).all (fun j=>fg (xs.getD j .ao) (ys.getD j .ao)) && xs.length==ys.length)
 | [],[]=>by simp[jL]
 | [],_::_=>by simp[jL]
 |_::_,[]=>by simp[jL]
 |x::xs,y::ys=>by
          rw[jL,gM xs ys];have e:min (x::xs).length (y::ys).length=min xs.length ys.length+1 :=by simp[Nat.succ_min_succ]
          rw[e,List.range_succ_eq_map,List.all_cons,List.all_map];have e2:((x::xs).length==(y::ys).length)=(xs.length==ys.length) :=by simp
          rw[e2,Bool.and_assoc];rfl
theorem fe.inj {H:Hp}{v:V}{d:Dt}(h:fe H v d):∀{d':Dt},fe H v d'->d=d':=by
 induction h with
 |ao=>intro d' h';cases h';rfl
 |bl b=>intro d' h';cases h';rfl
 |int i=>intro d' h';cases h';rfl
 |str x=>intro d' h';cases h';rfl
 |lst e hl h ih=>
  intro d' h';cases h' with
  |lst e' Nk h'=>
   rw[e]at e';cases e';congr 1
   refine RS fun i=>?_
   rename_i xs ds ds';by_cases hi:i<xs.length
   ·rw[ar (by omega),ar (by omega)]
    exact congrArg some (ih i _ _ (ar hi) (ar (by omega)) (h' i _ _ (ar hi) (ar (by omega))))
   ·rw[ET (by omega),ET (by omega)]
  |tup e' Nk h'=>rw[e]at e';cases e'
 |tup e hl h ih=>
  intro d' h';cases h' with
  |lst e' Nk h'=>rw[e]at e';cases e'
  |tup e' Nk h'=>
   rw[e]at e';cases e';congr 1
   refine RS fun i=>?_
   rename_i xs ds ds';by_cases hi:i<xs.length
   ·rw[ar (by omega),ar (by omega)]
    exact congrArg some (ih i _ _ (ar hi) (ar (by omega)) (h' i _ _ (ar hi) (ar (by omega))))
   ·rw[ET (by omega),ET (by omega)]
mutual
def m7:Dt->Nat
 | .lst xs=>gN xs+1
 | .tup xs=>gN xs+1
 |_=>0
def gN:List Dt->Nat
 | []=>0
 |x::xs=>max (m7 x) (gN xs)
end
theorem nJ:∀{ds:List Dt}{i:Nat}{d:Dt},ds[i]?=some d->m7 d<=gN ds
 | [],_,_,h=>by simp at h
 |x::xs,0,d,h=>by
          simp at h;subst h;rw[gN];exact Nat.le_max_left _ _
 |x::xs,i+1,d,h=>by
          rw[gN];exact v6 (nJ (i:=i) (by simpa using h)) (Nat.le_max_right _ _)
section
variable {X:Cx}{pins:List (ag×lc)}{σ:St}{H:Hp}{s:ba}
theorem Inv.lists (I:Inv X pins σ H s) {a:ag}{xs:List V}(h:H a=some (.lst xs)):∃its:List ap,Vals xs its/\s.heap.IsList a its.toArray :=by
 obtain⟨its,rv,p,_⟩:=I.list (bL.of h);exact⟨its,rv,p.isList⟩
theorem Inv.tups (I:Inv X pins σ H s) {a:ag}{xs:List V}(h:H a=some (.tup xs)):∃its:List ap,Vals xs its/\s.heap.IsTuple a its.toArray :=by
 obtain⟨its,rv,p,_⟩:=I.tuple (bW.of h);exact⟨its,rv,p⟩
theorem C7 (I:Inv X pins σ H s) {x y:V}{d:Dt}(hx:fe H x d):∀{e:Dt}{u v:ap}{A:rb},fe H y e->RelV x u->RelV y v->A.units+m7 d<cLine->mT A s u v (fg d e) :=by
 have lists:=fun {a:ag} {xs:List V} (h:H a=some (.lst xs))=>I.lists h
 have tups:=fun {a:ag} {xs:List V} (h:H a=some (.tup xs))=>I.tups h
 induction hx generalizing y with
 |ao=>
  intro e u v A hy rx ry hu;have bg:A.units<cLine :=by omega
  cases rx;cases hy with
  |ao=>cases ry;exact ZS _
  |bl b=>cases ry;exact mT.none_bool _
  |int i=>obtain⟨t,rfl⟩:=ry;exact mT.none_int _ _
  |str z=>obtain⟨t,rfl⟩:=ry;exact mT.none_str _ _
  |lst e2 _ _=>cases ry;obtain⟨_,_,p⟩:=lists e2;exact mT.none_list p bg
  |tup e2 _ _=>cases ry;obtain⟨_,_,p⟩:=tups e2;exact mT.none_tuple p bg
 |bl a=>
  intro e u v A hy rx ry hu;have bg:A.units<cLine :=by omega
  cases rx;cases hy with
  |ao=>cases ry;exact mT.bool_none _
  |bl b=>cases ry;exact mT.bool_bool _ _
  |int i=>obtain⟨t,rfl⟩:=ry;exact mT.bool_int _ _ _
  |str z=>obtain⟨t,rfl⟩:=ry;exact mT.bool_str _ _ _
  |lst e2 _ _=>cases ry;obtain⟨_,_,p⟩:=lists e2;exact mT.bool_list _ p bg
  |tup e2 _ _=>cases ry;obtain⟨_,_,p⟩:=tups e2;exact mT.bool_tuple _ p bg
 |int a=>
  intro e u v A hy rx ry hu;have bg:A.units<cLine :=by omega
  obtain⟨ta,rfl⟩:=rx;cases hy with
  |ao=>cases ry;exact mT.int_none _ _
  |bl b=>cases ry;exact mT.int_bool _ _ _
  |int i=>obtain⟨t,rfl⟩:=ry;exact mT.int_int _ _ _ _
  |str z=>obtain⟨t,rfl⟩:=ry;exact mT.int_str _ _ _ _
  |lst e2 _ _=>cases ry;obtain⟨_,_,p⟩:=lists e2;exact mT.int_list _ _ p bg
  |tup e2 _ _=>cases ry;obtain⟨_,_,p⟩:=tups e2;exact mT.int_tuple _ _ p bg
 |str a=>
  intro e u v A hy rx ry hu;have bg:A.units<cLine :=by omega
  obtain⟨ta,rfl⟩:=rx;cases hy with
  |ao=>cases ry;exact mT.str_none _ _
  |bl b=>cases ry;exact mT.str_bool _ _ _
  |int i=>obtain⟨t,rfl⟩:=ry;exact mT.str_int _ _ _ _
  |str z=>obtain⟨t,rfl⟩:=ry;exact mT.str_str _ _ _ _
  |lst e2 _ _=>cases ry;obtain⟨_,_,p⟩:=lists e2;exact mT.str_list _ _ p bg
  |tup e2 _ _=>cases ry;obtain⟨_,_,p⟩:=tups e2;exact mT.str_tuple _ _ p bg
 |lst e1 pL h1 ih=>
  rename_i a xs ds;intro e u v A hy rx ry hu;have bg:A.units<cLine :=by omega
  have Nm:A.units+gN ds+1<cLine :=by rw[m7]at hu;omega
  cases rx;obtain⟨its,rv,p⟩:=lists e1;cases hy with
  |ao=>cases ry;exact mT.list_none p bg
  |bl b=>cases ry;exact mT.list_bool _ p bg
  |int i=>obtain⟨t,rfl⟩:=ry;exact mT.list_int _ _ p bg
  |str z=>obtain⟨t,rfl⟩:=ry;exact mT.list_str _ _ p bg
  |lst e2 mZ h2=>
   rename_i b ys es;cases ry;by_cases fM:a=b
   ·subst fM;have:=(fe.lst e1 pL h1).inj (fe.lst e2 mZ h2);cases this;rw[p0];exact ZS _
   ·obtain⟨fc,lg,p2⟩:=lists e2;have l1:=rv.length;have l2:=lg.length;have at_:∀j (g1:j<its.toArray.size) (g2:j<fc.toArray.size),mT A.in1 s its.toArray[j] fc.toArray[j] (fg (ds.getD j .ao) (es.getD j .ao)):=fun j g1 g2=>by
     have nK:j<xs.length :=by rw[l1];simpa using g1
     have nM:j<ys.length :=by rw[l2];simpa using g2
     have r1:=dU rv g1;have r2:=dU lg g2;rw[c8,ar nK]at r1;rw[c8,ar nM]at r2;have d1:ds[j]?=some ds[j]:=ar (by omega)
     have d2:es[j]?=some es[j]:=ar (by omega)
     rw[c8,c8,d1,d2];have:=nJ d1;exact ih j _ _ (ar nK) d1 (h2 j _ _ (ar nM) d2) r1 r2 (by show A.units+1+_<cLine;omega)
    refine mT.of_refs fM ?_;rw[fg,gM];by_cases hsz:ds.length=es.length
    ·have q:=r6.lists p p2 (by simp only[im];omega) bg at_
     have z:(ds.length==es.length)=true :=by simpa using hsz
     rw[z,Bool.and_true,<- hsz,LB];rw[im,<- l1,pL]at q;exact q
    ·have z:(ds.length==es.length)=false :=by simpa using hsz
     rw[z,Bool.and_false];exact r6.lists_lengths p p2 (by simp only[im];simpa[bne_iff_ne] using (show its.length≠fc.length by omega)) bg
  |tup e2 mZ h2=>cases ry;obtain⟨_,_,p2⟩:=tups e2;exact mT.list_tuple p p2 bg
 |tup e1 pL h1 ih=>
  rename_i a xs ds;intro e u v A hy rx ry hu;have bg:A.units<cLine :=by omega
  have Nm:A.units+gN ds+1<cLine :=by rw[m7]at hu;omega
  cases rx;obtain⟨its,rv,p⟩:=tups e1;cases hy with
  |ao=>cases ry;exact mT.tuple_none p bg
  |bl b=>cases ry;exact mT.tuple_bool _ p bg
  |int i=>obtain⟨t,rfl⟩:=ry;exact mT.tuple_int _ _ p bg
  |str z=>obtain⟨t,rfl⟩:=ry;exact mT.tuple_str _ _ p bg
  |lst e2 mZ h2=>cases ry;obtain⟨_,_,p2⟩:=lists e2;exact mT.tuple_list p p2 bg
  |tup e2 mZ h2=>
   rename_i b ys es;cases ry;by_cases fM:a=b
   ·subst fM;have:=(fe.tup e1 pL h1).inj (fe.tup e2 mZ h2);cases this;rw[p0];exact ZS _
   ·obtain⟨fc,lg,p2⟩:=tups e2;have l1:=rv.length;have l2:=lg.length;have at_:∀j (g1:j<its.toArray.size) (g2:j<fc.toArray.size),mT A.in1 s its.toArray[j] fc.toArray[j] (fg (ds.getD j .ao) (es.getD j .ao)):=fun j g1 g2=>by
     have nK:j<xs.length :=by rw[l1];simpa using g1
     have nM:j<ys.length :=by rw[l2];simpa using g2
     have r1:=dU rv g1;have r2:=dU lg g2;rw[c8,ar nK]at r1;rw[c8,ar nM]at r2;have d1:ds[j]?=some ds[j]:=ar (by omega)
     have d2:es[j]?=some es[j]:=ar (by omega)
     rw[c8,c8,d1,d2];have:=nJ d1;exact ih j _ _ (ar nK) d1 (h2 j _ _ (ar nM) d2) r1 r2 (by show A.units+1+_<cLine;omega)
    refine mT.of_refs fM ?_;rw[fg,gM];have q:=r6.tuples p p2 bg at_;rw[im,im,<- l1,<- l2,pL,mZ]at q;exact q
theorem Np (I:Inv X pins σ H s) {x y:V}{d e:Dt}{u v:ap}{A:rb}(hx:fe H x d) (hy:fe H y e) (rx:RelV x u) (ry:RelV y v) (hu:A.units+m7 d<cLine):r6 A s u v (fg d e) :=by
 have bg:A.units<cLine :=by omega
 have lists:=fun {a:ag} {xs:List V} (h:H a=some (.lst xs))=>I.lists h
 have tups:=fun {a:ag} {xs:List V} (h:H a=some (.tup xs))=>I.tups h
 cases hx with
 |ao=>
  cases rx;cases hy with
  |ao=>cases ry;exact r6.none_none
  |bl b=>cases ry;exact r6.none_bool _
  |int b=>obtain⟨t,rfl⟩:=ry;exact r6.none_int _ _
  |str b=>obtain⟨t,rfl⟩:=ry;exact r6.none_str _ _
  |lst e2 _ _=>cases ry;obtain⟨_,_,p⟩:=lists e2;exact r6.none_list p bg
  |tup e2 _ _=>cases ry;obtain⟨_,_,p⟩:=tups e2;exact r6.none_tuple p bg
 |bl a=>
  cases rx;cases hy with
  |ao=>cases ry;exact r6.bool_none _
  |bl b=>cases ry;exact r6.bool_bool _ _
  |int b=>obtain⟨t,rfl⟩:=ry;exact r6.bool_int _ _ _
  |str b=>obtain⟨t,rfl⟩:=ry;exact r6.bool_str _ _ _
  |lst e2 _ _=>cases ry;obtain⟨_,_,p⟩:=lists e2;exact r6.bool_list _ p bg
  |tup e2 _ _=>cases ry;obtain⟨_,_,p⟩:=tups e2;exact r6.bool_tuple _ p bg
 |int a=>
  obtain⟨ta,rfl⟩:=rx;cases hy with
  |ao=>cases ry;exact r6.int_none _ _
  |bl b=>cases ry;exact r6.int_bool _ _ _
  |int b=>obtain⟨t,rfl⟩:=ry;exact r6.int_int _ _ _ _
  |str b=>obtain⟨t,rfl⟩:=ry;exact r6.int_str _ _ _ _
  |lst e2 _ _=>cases ry;obtain⟨_,_,p⟩:=lists e2;exact r6.int_list _ _ p bg
  |tup e2 _ _=>cases ry;obtain⟨_,_,p⟩:=tups e2;exact r6.int_tuple _ _ p bg
 |str a=>
  obtain⟨ta,rfl⟩:=rx;cases hy with
  |ao=>cases ry;exact r6.str_none _ _
  |bl b=>cases ry;exact r6.str_bool _ _ _
  |int b=>obtain⟨t,rfl⟩:=ry;exact r6.str_int _ _ _ _
  |str b=>obtain⟨t,rfl⟩:=ry;exact r6.str_str _ _ _ _
  |lst e2 _ _=>cases ry;obtain⟨_,_,p⟩:=lists e2;exact r6.str_list _ _ p bg
  |tup e2 _ _=>cases ry;obtain⟨_,_,p⟩:=tups e2;exact r6.str_tuple _ _ p bg
 |lst e1 pL h1=>
  rename_i a xs ds;have Nm:A.units+gN ds+1<cLine :=by rw[m7]at hu;omega
  cases rx;obtain⟨its,rv,p⟩:=lists e1;cases hy with
  |ao=>cases ry;exact r6.list_none p bg
  |bl b=>cases ry;exact r6.list_bool _ p bg
  |int b=>obtain⟨t,rfl⟩:=ry;exact r6.list_int _ _ p bg
  |str b=>obtain⟨t,rfl⟩:=ry;exact r6.list_str _ _ p bg
  |lst e2 mZ h2=>
   rename_i b ys es;cases ry;obtain⟨fc,lg,p2⟩:=lists e2;have l1:=rv.length;have l2:=lg.length;have at_:∀j (g1:j<its.toArray.size) (g2:j<fc.toArray.size),mT A.in1 s its.toArray[j] fc.toArray[j] (fg (ds.getD j .ao) (es.getD j .ao)):=fun j g1 g2=>by
    have nK:j<xs.length :=by rw[l1];simpa using g1
    have nM:j<ys.length :=by rw[l2];simpa using g2
    have r1:=dU rv g1;have r2:=dU lg g2;rw[c8,ar nK]at r1;rw[c8,ar nM]at r2;have d1:ds[j]?=some ds[j]:=ar (by omega)
    have d2:es[j]?=some es[j]:=ar (by omega)
    rw[c8,c8,d1,d2];have:=nJ d1;exact C7 I (h1 j _ _ (ar nK) d1) (h2 j _ _ (ar nM) d2) r1 r2 (by show A.units+1+_<cLine;omega)
   rw[fg,gM];by_cases hsz:ds.length=es.length
   ·have q:=r6.lists p p2 (by simp only[im];omega) bg at_
    have z:(ds.length==es.length)=true :=by simpa using hsz
    rw[z,Bool.and_true,<- hsz,LB];rw[im,<- l1,pL]at q;exact q
   ·have z:(ds.length==es.length)=false :=by simpa using hsz
    rw[z,Bool.and_false];exact r6.lists_lengths p p2 (by simp only[im];simpa[bne_iff_ne] using (show its.length≠fc.length by omega)) bg
  |tup e2 mZ h2=>cases ry;obtain⟨_,_,p2⟩:=tups e2;exact r6.list_tuple p p2 bg
 |tup e1 pL h1=>
  rename_i a xs ds;have Nm:A.units+gN ds+1<cLine :=by rw[m7]at hu;omega
  cases rx;obtain⟨its,rv,p⟩:=tups e1;cases hy with
  |ao=>cases ry;exact r6.tuple_none p bg
  |bl b=>cases ry;exact r6.tuple_bool _ p bg
  |int b=>obtain⟨t,rfl⟩:=ry;exact r6.tuple_int _ _ p bg
  |str b=>obtain⟨t,rfl⟩:=ry;exact r6.tuple_str _ _ p bg
  |lst e2 mZ h2=>cases ry;obtain⟨_,_,p2⟩:=lists e2;exact r6.tuple_list p p2 bg
  |tup e2 mZ h2=>
   rename_i b ys es;cases ry;obtain⟨fc,lg,p2⟩:=tups e2;have l1:=rv.length;have l2:=lg.length;have at_:∀j (g1:j<its.toArray.size) (g2:j<fc.toArray.size),mT A.in1 s its.toArray[j] fc.toArray[j] (fg (ds.getD j .ao) (es.getD j .ao)):=fun j g1 g2=>by
    have nK:j<xs.length :=by rw[l1];simpa using g1
    have nM:j<ys.length :=by rw[l2];simpa using g2
    have r1:=dU rv g1;have r2:=dU lg g2;rw[c8,ar nK]at r1;rw[c8,ar nM]at r2;have d1:ds[j]?=some ds[j]:=ar (by omega)
    have d2:es[j]?=some es[j]:=ar (by omega)
    rw[c8,c8,d1,d2];have:=nJ d1;exact C7 I (h1 j _ _ (ar nK) d1) (h2 j _ _ (ar nM) d2) r1 r2 (by show A.units+1+_<cLine;omega)
   rw[fg,gM];have q:=r6.tuples p p2 bg at_;rw[im,im,<- l1,<- l2,pL,mZ]at q;exact q
end
section
variable {X:Cx}
def Nq (neg:Bool):R2:=fun x y H Q=>∃d e,fe H x d/\fe H y e/\m7 d<=60/\Q (.bl (if neg then !fg d e else fg d e)) H
theorem Nr (hu:X.A.units+64<cLine):OpR X (compareOp .Eq) (Nq false) :=by
 intro pins s σ H x y v u Q I rx ry h;obtain⟨d,e,hx,hy,hd,q⟩:=h;exact Np I hx hy rx ry (by omega) X.prog X.w X.xe _ ⟨.bl _,H,I,rfl,q⟩
end
theorem Nt:bootBuiltins "set" = some (.type "set") :=by decide +kernel
theorem uz:bootBuiltins "sorted" = some (.builtin "sorted") :=by decide +kernel
section
variable {X:Cx}
def Nu (K:bn) (H:Hp) (p:ag) (ns:List Int):Prop:=bL K H p (ns.map V.int)\/bW K H p (ns.map V.int)
def zx (P:ff) (w:hX) (K:bn):List V->Hp->VK->Prop:=fun xs H Q=>∃p ns,xs=[.ref p]/\(H p=some (AU P w p ns)\/Nu K H p ns)/\ns.length<64/\∀l,H l=none->Q (.ref l) (upd H l (.lst ((sortI ns).map V.int)))
theorem wA (hc:X.calm=true):cU X (.builtin "sorted") (zx X.prog X.w X.K) :=by
 intro pins s σ H xs us Q I r h;obtain⟨p,ns,rfl,hq,m6,q⟩:=h;obtain⟨u,rfl,rx⟩:=vals1 r;cases rx;have hh:=I.ok.hd hc;refine A1 (ns:=ns) (fun QL C8=>?_) m6 (fun h1 h' d' tk us e hI k1 k2 he=>?_)
 ·rcases hq with hq|hq|hq
  ·exact yz (by simp[hh]) (JN I hq) (by have:sizeLine=16777216:=Lo;omega) C8
  ·obtain⟨its,rv,pl,hz⟩:=I.list hq;have hl:=rv.length;obtain⟨o,ho,gu,n,hd⟩:=pl.isList;exact pP ho gu hd (.inl rfl) (fun h' k=>C8 its ns h' s.drawn s.toks (oM rv) (.refl _) k) (by omega)
  ·obtain⟨its,rv,pl,hz⟩:=I.tuple hq;have hl:=rv.length;obtain⟨o,ho,gu,n,hd⟩:=pl;exact pP ho gu hd (.inr rfl) (fun h' k=>C8 its ns h' s.drawn s.toks (oM rv) (.refl _) k) (by omega)
 ·have I1:Inv X pins σ H {s with heap:=h1,drawn:=d'}:=(I.kept (t':=s.toks) k1).jG ⟨rfl,rfl,I.bare.self⟩
  have hsz:sizeLine=16777216:=Lo;have ob:ObjOk X.prog X.w (upd H h1.objs.size (.lst ((sortI ns).map V.int))) h' h1.objs.size (.lst ((sortI ns).map V.int)):=⟨by rw[ci,(sortI_perm ns).length_eq];omega,us,e,nG hI,he⟩
  exact⟨.ref h1.objs.size,_,I1.laid (t':=tk) k2 (ce _) ob,rfl,q _ (I1.hok.fresh (ce _))⟩
end
theorem ObjOk.there {P:ff}{w:hX}{H:Hp}{h:ii}{a:ag}{o:HO}(x:ObjOk P w H h a o):∃u,h.get? a=some u :=by
 cases o with
 |lst xs=>obtain⟨_,_,_,_,e⟩:=x;exact⟨_,e⟩
 |tup xs=>obtain⟨_,_,_,ob,e,_⟩:=x;exact⟨_,e⟩
 |dK ah=>obtain⟨_,_,_,_,o,_,_,e,_⟩:=x;exact⟨_,e⟩
 |dT ah=>obtain⟨_,_,_,_,o,_,_,e,_⟩:=x;exact⟨_,e⟩
 |set S n=>obtain⟨o,_,_,_,e,_⟩:=x;exact⟨_,e⟩
 |ins C dx fs=>obtain⟨_,_,_,e,_⟩:=x;exact⟨_,e⟩
 |own y=>obtain⟨_,e⟩:=x;exact⟨_,e⟩
 |xd fs=>obtain⟨_,⟨_,_,_,e,_⟩,_⟩:=x;exact⟨_,e⟩
 |yY lo hi=>obtain⟨_,_,_,e⟩:=x;exact⟨_,e⟩
 |bC ob u=>obtain⟨e,_⟩:=x;exact⟨_,e⟩
 |cI ps=>exact⟨_,x⟩
 |lam ps=>exact⟨_,x⟩
 |met f y=>exact⟨_,x⟩
 |ext φ=>obtain⟨_,⟨_,e⟩,_⟩:=x;exact⟨_,e⟩
def dj (P:ff) (w:hX):fD:=fun outer H s E e s'=>∃(a C t:ag) (B:ii) (H':Hp),e=.ref a/\s'.os=s.os/\Gn s.gens.size s'.gens/\ii.FlyingW B outer a (.ref C) (.ref t) s'.heap /\
 (∀b o,s.heap.get? b=some o->b ∉ dS outer->∃o',B.get? b=some o')/\(∀b u,H' b=some u->∃o',B.get? b=some o')/\Un (dS outer) [] H H' s.heap s'.heap/\cN P w H' s'.heap/\E (.ref C) none H'
section
variable {X:Cx}{pins:List (ag×lc)}{σ:St}{H H1:Hp}{s s1:ba}{B h':ii}
theorem Inv.nN (I:Inv X pins σ H s) {b:ag}(h1:b≠X.env.locals) (h2:b ∉ X.fs):b ∉ dS X.stack:=fun z=>by
 rcases l8.mp (I.iC b z) with q|q
 ·exact h1 q
 ·exact h2 q
theorem Inv.lU (I:Inv X pins σ H s) {b:ag}{o:lc}(e:X.s₀.heap.get? b=some o):b≠X.env.locals:=fun z=>by
 have l:=io e;have:=I.ok.above;rw[<- z]at this;exact absurd l (Z2.mpr this)
theorem Inv.Ia (I1:Inv X pins σ H1 s1) (I:Inv X pins σ H s) (c1:∀b o,s1.heap.get? b=some o->b ∉ dS X.stack->∃o',B.get? b=some o') (c2:∀b u,H b=some u->∃o',B.get? b=some o')
  (k:B.StaysIn s.heap) (k':B.StaysIn h') (up:s.heap.UpToSlots h'):Inv X pins σ H {s with heap:=h'}:=by
 have same:∀b o',(∃o2,B.get? b=some o2)->s.heap.get? b=some o'->h'.get? b=some o':=fun b o' ⟨o2,e⟩ q=>by
  have z:=k b o2 e;rw[q]at z;cases z;exact k' b _ e
 refine⟨I.ok,I.os,I.bare,⟨fun b o q n hb hx=>?_,fun b o q n hb hx=>?_,I.base.free,fun b o q hx=>?_,I.base.tups,I.base.frzs,I.base.tbls⟩,?_,fun x c e=>?_,I.free,I.freeC,fun p hp=>?_,fun a o e=>?_,I.len⟩
 ·exact same b o (c1 b o (I1.base.keep b o q n hb hx) (I.nN (I.lU q) hb)) (I.base.keep b o q n hb hx)
 ·obtain⟨sl,e⟩:=I.base.slot b o q n hb hx;obtain⟨_,o2,e2,nf⟩:=I.funs.mem hb;rw[e]at e2;cases e2;obtain⟨ug,e4⟩:=up b {o with slots:=sl} e nf
  exact⟨ug,e4⟩
 ·obtain⟨o',e⟩:=I.base.there b o q hx;by_cases hb:b∈X.fs
  ·obtain⟨_,o2,e2,nf⟩:=I.funs.mem hb;obtain⟨sl,e3⟩:=up b _ e2 nf;exact⟨_,e3⟩
  ·obtain⟨o1,q1⟩:=I1.base.there b o q hx;exact⟨o',same b o' (c1 b o1 q1 (I.nN (I.lU q) hb)) e⟩
 ·obtain⟨m,hn,hl⟩:=I.loc;refine⟨m,up.ns hn,fun i x v a b c=>?_⟩
  obtain⟨u,r,l⟩:=hl i x v a b c;refine⟨u,r,?_⟩;rcases l with l|⟨kd,c,ec,o,ho,hd⟩
  ·exact .inl l
  ·obtain⟨sl,e⟩:=up c o ho fun vs z=>by rw[hd]at z;cases z
   exact .inr ⟨kd,c,ec,_,e,hd⟩
 ·obtain⟨v,o,ho,hd⟩:=I.cell x c e;obtain⟨sl,e⟩:=up c o ho fun vs z=>by rw[hd]at z;cases z
  exact⟨v,_,e,hd⟩
 ·obtain⟨p1,p2,p3,p4,p5⟩:=I.pin p hp;exact⟨same p.1 p.2 (c1 p.1 p.2 (I1.pin p hp).1 (I.nN p3 p4)) p1,p2,p3,p4,p5⟩
 ·refine(I.hok a o e).bp (fun b u hb q=>?_) (fun _ q=>q) fun _ _ q=>q
  rcases hb with z|z
  ·exact same b u (c2 b o (by rw[z];exact e)) q
  ·exact same b u (c2 b _ z) q
end
section
variable {P:ff}{w:hX}{K:bn}{mg:bv->Option ap}{base:ii}{N:List bv}{qual:bv}{scope:zd}{f:ag}{cd:ap}{A:rb}{outer:List Op}{s0:ba}{H0:Hp}{E:XK}
theorem lV:Passes (dj P w) (fE (dj P w) P w K mg base N qual scope f cd A outer s0 H0 E) E :=by
 intro pins σ H s e s' I h;obtain⟨a,C,t,B,H',rfl,os,gn,fl,c1,c2,un,hok,q⟩:=h;have I':=I.vp (ch:=[]) os un hok gn (fun b z=>absurd z (by simp))
 refine wpAny_leaves_onW (cls:=.ref C) (a0:=.ref t) I.ok.frames rfl fl fun h' Ib up=>?_
 have I2:=I.Ia I' c1 c2 fl.1 Ib.1 up;refine⟨a,C,t,B,H',rfl,I2.os,I2.bare,Ib,fun b o e n=>?_,c2,I2.base,I2.hok,q⟩
 obtain⟨o1,e1⟩:=I.base.there b o e (fun z=>absurd (show b∈([]:List ag) from z) (by simp))
 exact c1 b o1 e1 (I.nN (I.lU e) n)
def Raises (X:Cx) (E:XK):Prop:=∀(pins:List (ag×lc)) (σ:St) (H:Hp) (s:ba) (C:ag) (h':ii) (a:ag) (vs:List ap),Inv X pins σ H s->ii.MadeExcOf s.heap h' a (.ref C) vs->E (.ref C) none H->X.xe (.ref a) {s with heap:=h'}
theorem wB:Raises (fE (dj P w) P w K mg base N qual scope f cd A outer s0 H0 E) E :=by
 intro pins σ H s C h' a vs I hx q;have c1:∀b o,s.heap.get? b=some o->b ∉ dS (fE (dj P w) P w K mg base N qual scope f cd A outer s0 H0 E).stack->∃o',(Cf s.heap (dS (fE (dj P w) P w K mg base N qual scope f cd A outer s0 H0 E).stack)).get? b=some o':=
  fun b o e n=>⟨o,XX _ e n⟩
 have c2:∀b u,H b=some u->∃o',(Cf s.heap (dS (fE (dj P w) P w K mg base N qual scope f cd A outer s0 H0 E).stack)).get? b=some o':=fun b u hu=>by
  obtain⟨o,e⟩:=(I.hok b u hu).there;exact c1 b o e fun z=>by rw[I.oG b z]at hu;cases hu
 have st:(Cf s.heap (dS (fE (dj P w) P w K mg base N qual scope f cd A outer s0 H0 E).stack)).StaysIn s.heap:=fun b o e=>Y7 _ e
 refine wpAny_leaves_madeW (cls:=.ref C) I.ok.frames rfl st (PySem.W.funFrames_hide I.stack fun env he b hb=>X9.mpr ⟨env,he,hb⟩) hx fun Xf t fl _ _ up=>?_
 have I2:=I.Ia I c1 c2 st fl.1 ((ii.UpToSlots.of_keeps hx.keeps).trans up);refine⟨a,C,t,_,H,rfl,I2.os,I2.bare,fl,fun b o e n=>?_,c2,I2.base,I2.hok,q⟩
 obtain⟨o1,e1⟩:=I.base.there b o e (fun z=>absurd (show b∈([]:List ag) from z) (by simp))
 exact c1 b o1 e1 (I.nN (I.lU e) n)
end
theorem JO {K:bn}{h:ii}{C:ag}{uA:List ap}{newId:String}(X:K.In h) (q:Zk K C uA newId=true) :
  ∃bm Nn nm qn bs hd sn sub ab col dd k0 k1 k2 k3 k5 mN,h.get? C=some (excClassObj nm qn C Nn bs bm hd sn sub ab col dd k0 k1 k2 k3 k5 newId)/\h.Ns Nn mN/\mN "__init__" = none/\OwnTail h uA bm :=by
 unfold Zk at q;split at q;case h_2=>cases q
 case h_1 dd cd sl ho=>
  split at q;case h_2=>cases q
  case h_1 C' bm k0 k1 k2 k3 n k5 hm hs=>
   rw[EM,EM,EM,EM,EM]at q;obtain⟨⟨⟨⟨⟨q1,q2⟩,q3⟩,q4⟩,q5⟩,q6⟩:=q;have e1:C'=C:=beq_iff_eq.mp q1;have e2:n=newId:=beq_iff_eq.mp q2;have e3:cd.hasDel=false :=by simpa using q3
   subst e1 e2;obtain⟨nm,bs,mro,ns,qn,hd,sn,sub,ab,col,del⟩:=cd;dsimp only at hm e3 q5 q6;subst hm e3;have es:sl=#[k0,k1,k2,k3,some (.builtin n),k5] :=by
    cases sl with
    |mk l=>exact congrArg Array.mk hs
   subst es;exact⟨bm,ns,nm,qn,bs,hd,sn,sub,ab,col,dd,k0,k1,k2,k3,k5,_,X _ _ ho,ii.Ns.of_isNs (PySem.W.isNs_of_in X q5),PySem.W.nsMap_none_of_in X q5 (beq_iff_eq.mp q6),PySem.W.tail_of_in X q4⟩
section
variable {X:Cx}{x:bv}{C:ag}{kY:dL}{rest:List dL}{t:TA}{uA:List ap}{B newId wC:String}{E:XK}{np aM pos:ww}
def Nv (C:ag) (E:XK) (t:TA):TS:=fun _ σ H=>t σ H fun vs H1=>vs.length<=sizeLine/\E (.ref C) none H1
theorem Ga (O:Zk X.K C uA newId=true) (FB:ExcBaseFacts B newId wC uA) (hc:X.calm=true) (hR:Raises X E) (hg:Gl X x) (hm:X.mg x=some (.ref C)) (ha:PA X (kY::rest) t)
  (cZ:(x==("__debug__" : bv))=false :=by decide) (he:starEach (kY::rest) X.env=(false,eval kY X.env)::starEach rest X.env :=by rfl) (bM:(backTo aM (starEach rest X.env)).any (·.1)=false :=by rfl) :
  PS X (.Raise (some (.Call (.Name x np) (kY::rest) [] aM)) none pos) (Nv C E t) :=by
 refine⟨fun pins s σ H D I h=>?_⟩
 obtain⟨bm,Nn,nm,qn,bs,hd,sn,sub,ab,col,dd,k0,k1,k2,k3,k5,mN,hC,hN,U8,T⟩:=JO I.ok.mod.kin O;have hp:(backTo aM (starEach (kY::rest) X.env)).any (·.1)=false :=by
  rw[he];exact bM
 have Sd:=ha aM pins s σ H _ I h;rw[he]at Sd;refine wpAny_Raise_call_subT (C:=C) (nm:=nm) (q:=qn) (N:=Nn) (bs:=bs) (bm:=bm) (hdct:=hd) (sn:=sn) (sub:=sub) (ab:=ab) (col:=col) (dd:=dd) (k0:=k0) (k1:=k1) (k2:=k2) (k3:=k3) (k5:=k5) FB (mN:=mN)
  (T.hasType FB.hasBase) (I.ok.hd hc) hp U8 (jl I hg hm ⟨rfl,?_⟩ cZ)
 rw[he];refine YM (thn Sd fun us s2 ⟨vs,H2,I2,r,l,q⟩=>?_)
 exact⟨rfl,by rw[<- r.length];exact l,I2.bk _ _ hC,hN.keeps I2.bk,T.keeps I2.bk,fun h' a hx=>hR pins σ H2 s2 C h' a us I2 hx q⟩
end
end L2
namespace L2
open PySem PySem.Spec PyProof.Rows PySem.W Builtin Builtin.ObjectAttr Builtin.Getset_descriptor
def ExcAt (C a:ag) (h:ii):Prop:=∃o vs,h.get? a=some o/\o.cls=.ref C/\o.data=.fields vs
def p8 (C a:ag):HO:=.ext (ExcAt C a)
theorem ExcAt.bp {C a:ag}{h h':ii}(x:ExcAt C a h) (k:∀o,h.get? a=some o->h'.get? a=some o):ExcAt C a h':=let ⟨o,vs,e,c,d⟩:=x;⟨o,vs,k o e,c,d⟩
theorem JP {P:ff}{w:hX}{H:Hp}{h:ii}{C a:ag}(x:ExcAt C a h):ObjOk P w H h a (p8 C a):=⟨x,let ⟨o,_,e,_⟩:=x;⟨o,e⟩,fun _ _ y k=>y.bp k⟩
structure eB (K:Frag) (C:ag):Prop where
 cls:(clsIn K C).isSome=true
 ga:findIn K (.ref C) "__getattribute__" = some (some (.builtin "BaseException.__getattribute__"))
 gt:findIn K (.ref C) "__getattr__" = some none
 cl:findIn K (.ref C) "__class__" = some (some (.builtin "object.__class__"))
 gg:specialIn K (.builtin "object.__class__") "__get__" = some (some (.builtin "getset_descriptor.__get__"))
 tk:takesIn K (.builtin "object.__class__")=some true
 ob:mroIn K C (.type "object")=some true
 be:mroIn K C (.type "BaseException")=some true
section
variable {K:Frag}{C a:ag}{M:Model}{h:ii}
theorem jM (x:ExcAt C a h):Looks M h (typeOf (.ref a)) (.ref C) :=by
 obtain⟨o,vs,h1,h2,h3⟩:=x;exact h2▸(Looks.ld h1).andThen .now
theorem Gb (X:K.In h) (E:eB K C):Looks M h (find (.ref a) (.ref C) "__class__") (.bind (.builtin "getset_descriptor.__get__") (.builtin "object.__class__")) :=by
 refine(looks_findIn X E.cl).andThen (Looks.andThen (show Looks M h (getOf (some (.builtin "object.__class__"))) (some (.builtin "getset_descriptor.__get__")) from looks_specialIn X E.gg) ?_)
 have l3:Looks M h (dataDescriptor? (some (.builtin "object.__class__")) (some (.builtin "getset_descriptor.__get__"))) (some (.builtin "getset_descriptor.__get__",.builtin "object.__class__")):=(looks_takesIn X E.tk).andThen .now
 exact l3.andThen (Looks.tag .now)
theorem A6 (X:K.In h) (E:eB K C):Looks M h (isType (.ref C)) true :=by
 have z:=E.cls;unfold clsIn at z;split at z;case h_2=>cases z
 case h_1 ho=>
  intro A Q E s k q;unfold isType loadHead;exact ac (m:=loadPart _ _) (wpAny_loadPart (k _ _ (X _ _ ho)) (bi q))
theorem C9 (X:K.In h) (E:eB K C) {tp:ag}{dd:Option ag}{its:List ap}{n:Nat}{sl:Array (Option ap)}(e:h.get? tp=some ⟨.type "tuple",dd,.seq its.toArray n,sl⟩):(li C==li tp)=false :=by
 refine Bool.eq_false_iff.mpr fun q=>?_
 cases li.inj (beq_iff_eq.mp q);have z:=E.cls;unfold clsIn at z;split at z;case h_2=>cases z
 case h_1 ho=>cases (X _ _ ho).symm.trans e
end
section
variable {K:Frag}{C a:ag}{prog:ff}{w:hX}{A:rb}{s:ba}{R:ZY->ba->Prop}{EE:ap->ba->Prop}
theorem vh {tp:ap}(X:K.In s.heap) (E:eB K C) (x:ExcAt C a s.heap) (q:R (.ok (.ret (.ref C))) s):codeAny (model prog w) A (.call (.builtin "getset_descriptor.__get__") ⟨[.builtin "object.__class__",.ref a,tp],[]⟩) R s :=by
 obtain⟨hh,g,dr,t,os⟩:=s;have L0:=jM (M:=model prog w) x;have L1:=looks_mroIn (M:=model prog w) X E.ob;have ck:=KF.slot_gs.check (model prog w);refine YS KF.slot_gs.plain KF.entry_gs (ck _ _ _ _ _ _ _ KF.type_class (KF.args_gs _ _ _) ?_);unfold ul.«getset_descriptor.__get__» descrGet;rw[dga_obj];refine ac (m:=pure _) (bi ?_);unfold descrGetter descrCheckInstance descrNameAndClass;unfold isInstance;simp only[KF.owner_class];repeat lk
 refine⟨Code.quiet_builtin _ (by decide +kernel),BN KF.entry_class ?_⟩
 unfold ul.«object.__class__»;unfold shownTypeOf;repeat lk
 exact q
theorem wD {nv:ap}{Q:Unit->ba->Prop}(X:K.In s.heap) (E:eB K C) (x:ExcAt C a s.heap) (q:Q () s):wpAny (model prog w) A (checkBuiltinCall "BaseException.__getattribute__" ⟨[.ref a,nv],[]⟩) Q EE s :=by
 have e1:builtinKind "BaseException.__getattribute__" = some .slot :=by decide +kernel
 have e2:splitId "BaseException.__getattribute__" = some ("BaseException","__getattribute__") :=by decide +kernel
 have WU:=F.args_bexc_ga (.ref a) nv;have L0:=jM (M:=model prog w) x;have L1:=looks_mroIn (M:=model prog w) X E.be;obtain⟨hh,g,dr,t,os⟩:=s;simp only[checkBuiltinCall,e1,e2];refine ac ?_;unfold isInstance;repeat lk
 exact q
theorem sT {Q:Option ap->ba->Prop}(X:K.In s.heap) (E:eB K C) (x:ExcAt C a s.heap) (q:Q (some (.ref C)) {s with toks:=s.toks+1}):wpAny (model prog w) A (getAttr? (.ref a) "__class__") Q EE s :=by
 obtain⟨hh,g,d,t,os⟩:=s;have L0:=jM (M:=model prog w) x;have L1:=looks_findIn (M:=model prog w) X E.ga;have L2:=looks_findIn (M:=model prog w) X E.gt;have cJ:(onTheHeap (li C) && Ys "BaseException.__getattribute__" == Ys "object.__getattribute__")=false :=by
  rw[show (Ys "BaseException.__getattribute__" == Ys "object.__getattribute__")=false from by decide +kernel]
  rfl
 unfold getAttr? getAttrBy?;refine ac (wpAny_mkText (ac (m:=(getAttrBy _ _ _).attempt) (LS ?_)));unfold getAttrBy;refine xL (ac (m:=typeOf _) (L0.at (ac (m:=typeLookup _ _) (L1.at ?_))));simp only[cJ,gc,if_false];unfold getAttrByItsOwn hookBefore;refine ac (L2.at ?_);refine ac (LS (xL ?_));unfold callGetattribute boundAndCalled;simp only[Yd,gc,if_false];refine ac (m:=bindSpecial _ _) (Yq (F.attr_ValueError.ga.bind (.ref a)) ?_);have L3:=Gb (M:=model prog w) (a:=a) X E;refine YK (YS F.attr_ValueError.ga.plain F.entry_bexc_ga (wD X E x ?_));unfold ul.«object.__getattribute__»;iterate 9 lk
 refine ac (m:=attrName _) (bi (ac (m:=typeOf _) (L0.at (ac (m:=find _ _ _) (L3.at ?_)))));show wpAny _ _ (holding [Ys "object.__class__"] (call (.builtin "getset_descriptor.__get__") [.builtin "object.__class__",.ref a,.ref C])>>=ret) _ _ _
 refine ac (m:=holding _ _) (xL (YK (vh X E x ?_)));exact bi (handed_on rfl (bi q))
end
theorem p9 {K:Frag}{C a:ag}(E:eB K C):KitX K (.ref a) (.ref C) (ExcAt C a) where
 ty:=fun _ _ _ x=>jM x
 it:=fun _ _ X _=>A6 X E
 ne:=fun _ _ _ _ _ _ X e=>C9 X E e
 ca:=fun X x q=>sT X E x q
theorem uB:∀{Ds:List ag}{us:List ap},Vals (Ds.map V.ref) us->us=Ds.map li
 | [],_,.nil=>rfl
 |D::Ds,_,.cons r t=>by
          cases (show _=li D from r);rw[uB t];rfl
section
variable {X:Cx}
def TX (K:Frag):List V->Hp->VK->Prop:=fun xs H Q=>∃a C b,H a=some (p8 C a)/\eB K C /\
 ((∃D,xs=[.ref a,.ref D]/\kitOne K (.ref C) (.ref D)=some b)\/(∃T,xs=[.ref a,.ty T]/\kitOne K (.ref C) (.type T)=some b)\/∃(tp:ag) (Ds:List ag),xs=[.ref a,.ref tp]/\H tp=some (.tup (Ds.map V.ref))/\kitAny K (.ref C) (Ds.map li)=some b)/\Q (.bl b) H
theorem Gd {K:Frag}(hK:X.K=K):cU X (.builtin "isinstance") (TX K) :=by
 subst hK;intro pins s σ H xs us Q I r h;obtain⟨a,C,b,ha,E,h,q⟩:=h;have x:ExcAt C a s.heap:=(I.hok a _ ha).1;have fin:∀tk,EP X pins σ Q (.bool b) {s with toks:=tk}:=fun tk=>⟨.bl b,H,I.tok tk,rfl,q⟩
 rcases h with ⟨D,rfl,e⟩|⟨T,rfl,e⟩|⟨tp,Ds,rfl,ht,e⟩
 ·obtain⟨u,w',rfl,r1,r2⟩:=vals2 r;cases (show u=li a from r1);cases (show w'=li D from r2);exact kia_one (p9 E) I.ez x e (fun z=>nomatch z) fin
 ·obtain⟨u,w',rfl,r1,r2⟩:=vals2 r;cases (show u=li a from r1);cases (show w'=BY T from r2);exact kia_one (p9 E) I.ez x e (fun z=>nomatch z) fin
 ·obtain⟨u,w',rfl,r1,r2⟩:=vals2 r;cases (show u=li a from r1);cases (show w'=li tp from r2);obtain⟨_,its,rv,ob,ho,hc,n,hd,_⟩:=I.hok tp _ ht;have ei:=uB rv;subst ei;obtain⟨c,dd,dt,sl⟩:=ob;dsimp only at hc hd;subst hc hd;exact kia_tup (p9 E) I.ez x ho e (fun z=>nomatch z) fin
end
end L2
namespace L2
open PySem PySem.Spec PyProof.Rows PySem.W
def blank (n:Nat):St:=IT n none
theorem Ge {n i:Nat}{v:V}(h:(blank n)[i]?=some (some v)):False :=by
 unfold blank at h;rw[JJ]at h;split at h<;>cases h
abbrev Cx.hZ (X:Cx) (T:ap->ba->Prop) (pn:List (ag×lc)):Cx:={X with xe:=T,pn:=pn}
abbrev Cx.suite (X:Cx) (a:ag):Cx:={X with A:=X.A.mark (some (.ref a)),calm:=false,xe:=fun _ _=>False}
section
variable {X:Cx}{pins pins':List (ag×lc)}{σ:St}{H:Hp}{s:ba}{T:ap->ba->Prop}
theorem Inv.hZ (I:Inv X pins σ H s) (T:ap->ba->Prop):Inv (X.hZ T (X.pn++pins)) [] σ H s:=
 ⟨⟨I.ok.mod,I.ok.kind,I.ok.glob,I.ok.blt,I.ok.above,I.ok.inj,I.ok.has,I.ok.cab,I.ok.hd,I.ok.frames,I.ok.stk,I.ok.exf,I.ok.bs,I.ok.bsz,I.ok.noex,I.ok.exfs,I.ok.funs,I.ok.frf⟩,
  I.os,I.bare,I.base,I.loc,I.cell,I.free,I.freeC,fun p hp=>I.pin p (by simpa using hp),I.hok,I.len⟩
theorem Inv.nO (J:Inv (X.hZ T (X.pn++pins)) pins' σ H s):Inv X pins σ H s:=
 ⟨⟨J.ok.mod,J.ok.kind,J.ok.glob,J.ok.blt,J.ok.above,J.ok.inj,J.ok.has,J.ok.cab,J.ok.hd,J.ok.frames,J.ok.stk,J.ok.exf,J.ok.bs,J.ok.bsz,J.ok.noex,J.ok.exfs,J.ok.funs,J.ok.frf⟩,
  J.os,J.bare,J.base,J.loc,J.cell,J.free,J.freeC,fun p hp=>J.pin p (ze _ hp),J.hok,J.len⟩
theorem Inv.suite (I:Inv X pins σ H s) (a:ag):Inv (X.suite a) pins σ H s:=
 ⟨⟨I.ok.mod,I.ok.kind,I.ok.glob,I.ok.blt,I.ok.above,I.ok.inj,I.ok.has,I.ok.cab,(fun z=>nomatch z),I.ok.frames,I.ok.stk,I.ok.exf,I.ok.bs,I.ok.bsz,I.ok.noex,I.ok.exfs,I.ok.funs,I.ok.frf⟩,
  I.os,I.bare,I.base,I.loc,I.cell,I.free,I.freeC,I.pin,I.hok,I.len⟩
theorem Inv.JQ {a:ag}(ok:X.Ok) (J:Inv (X.suite a) pins σ H s):Inv X pins σ H s:=
 ⟨ok,J.os,J.bare,J.base,J.loc,J.cell,J.free,J.freeC,J.pin,J.hok,J.len⟩
theorem Inv.lost {h':ii}{m':bv->Option ap}{t':Nat}(I:Inv X pins σ H s) (hn:h'.Ns X.env.locals m') (sb:zn X.env.locals s.heap h'):Inv X pins (L2.blank X.N.length) H {s with heap:=h',toks:=t'}:=by
 have mv:∀b o,b≠X.env.locals->s.heap.get? b=some o->h'.get? b=some o:=fun b o n e=>(sb.2 b n).trans e
 refine⟨I.ok,I.os,I.bare,⟨fun b o q n hb hx=>mv b o (I.lU q) (I.base.keep b o q n hb hx),fun b o q n hb hx=>?_,I.base.free,fun b o q hx=>?_,I.base.tups,I.base.frzs,I.base.tbls⟩,
  ⟨m',hn,fun i x v _ e=>(Ge e).elim⟩,fun x c e=>?_,I.free,I.freeC,fun p hp=>?_,fun a o e=>?_,by unfold L2.blank;simp⟩
 ·obtain⟨sl,e⟩:=I.base.slot b o q n hb hx;exact⟨sl,mv b _ (I.lU q) e⟩
 ·obtain⟨o',e⟩:=I.base.there b o q hx;exact⟨o',mv b _ (I.lU q) e⟩
 ·obtain⟨v,o,ho,hd⟩:=I.cell x c e;exact⟨v,o,mv c o (I.qO x c e) ho,hd⟩
 ·obtain⟨p1,p2,p3,p4,p5⟩:=I.pin p hp;exact⟨mv _ _ p3 p1,p2,p3,p4,p5⟩
 ·refine(I.hok a o e).bp (fun b u hb q=>mv b u (fun z=>?_) q) (fun _ q=>q) fun _ _ q=>q
  have fr:=I.free;rw[<- z]at fr;rcases hb with y|y
  ·rw[y,e]at fr;cases fr
  ·rw[y]at fr;cases fr
theorem Inv.Ic {a:ag}{o:HO}(I:Inv X pins σ H s) (n0:H a=none) (n1:X.s₀.heap.get? a=none) (n2:a≠X.env.locals) (n3:∀x c,X.env.cells.lookup x=some c->c≠a) (n4:∀p∈X.pn++pins,p.1≠a)
  (ob:ObjOk X.prog X.w (upd H a o) s.heap a o):Inv X pins σ (upd H a o) s :=by
 have un:∀b u,H b=some u->upd H a o b=some u:=fun b u e=>by rw[ae (aX e n0)];exact e
 refine⟨I.ok,I.os,I.bare,⟨I.base.keep,I.base.slot,fun b u q n hx=>?_,I.base.there,fun b xs e=>un _ _ (I.base.tups b xs e),fun b u v e=>un _ _ (I.base.frzs b u v e),fun b ps e=>?_⟩,I.loc,I.cell,?_,fun x c e=>?_,fun p hp=>?_,fun b u e=>?_,I.len⟩
 ·rw[ae (fun z=>by rw[z,n1]at q;cases q)]
  exact I.base.free b u q n hx
 ·obtain⟨more,z⟩:=I.base.tbls b ps e;exact⟨more,un _ _ z⟩
 ·rw[ae (wp n2)];exact I.free
 ·rw[ae (n3 x c e)];exact I.freeC x c e
 ·obtain⟨p1,p2,p3⟩:=I.pin p hp;exact⟨p1,by rw[ae (n4 p hp)];exact p2,p3⟩
 ·by_cases hb:b=a
  ·subst hb;rw[av]at e;cases e;exact ob
  ·rw[ae hb]at e;exact(I.hok b u e).bp (fun _ _ _ q=>q) (fun c q=>un _ _ q) fun c xs q=>un _ _ q
end
structure ky (K:Frag) (C0:ag):Prop where
 ty:typeIn K (.ref C0)=some (.type "type")
 be:subIn K (.ref C0) (.type "BaseException")=some true
 it:(clsIn K C0).isSome=true
theorem Dc {K:Frag}{C C0 a:ag}{M:Model}{A:rb}{E:ap->ba->Prop}{s:ba}{Q:Bool->ba->Prop}(X:K.In s.heap) (O:ky K C0) (e:subIn K (.ref C) (.ref C0)=some true) (x:ExcAt C a s.heap) (q:Q true s) :
  wpAny M A (excMatches (.ref a) (.ref C0)) Q E s :=by
 obtain⟨hh,g,d,t,os⟩:=s;have L0:=jM (M:=M) x;have L1:=looks_typeIn (M:=M) X O.ty;have L2:=looks_subIn (M:=M) X O.be;have L3:=looks_subIn (M:=M) X e;have L4:Looks M hh (isSubtype (.type "type") (.type "tuple")) false:=Looks.of_pure tc_notTuple
 have L5:Looks M hh (isType (.ref C0)) true :=by
  have z:=O.it;unfold clsIn at z;split at z;case h_2=>cases z
  case h_1 ho=>
   intro A Q E s k q;unfold isType loadHead;exact ac (m:=loadPart _ _) (wpAny_loadPart (k _ _ (X _ _ ho)) (bi q))
 unfold excMatches;unfold isInstance isExcClass;repeat lk
 exact q
theorem um.wg {P:ff}{w:hX}{K:bn}{mg:bv->Option ap}{base:ii}{x qual:bv}{st:ut}{f:ag}{fd:mf}{N ps:List bv}{k:Nat}{sp:Sp}(F:um K x qual st f fd) (S:aP N ps (aj st)) (len:∀vs H Q E,sp vs H Q E->vs.length=ps.length)
  (lL:∀(A:rb) (outer:List Op) (s:ba) (H:Hp) (vs:List V) (Q:VK) (E:XK),bh k (A.deeper (envOfC qual (aj st) s.heap.objs.size f fd.code))->sp vs H Q E->
   ∃t,eZ (fE (dj P w) P w K mg base N qual (aj st) f fd.code A outer s H E) (bA st) t/\t {nx:=fun _ H'=>Q .ao H',rt:=Q} (start N vs) H):FnOk P w K mg base (dj P w) (k+1) f fd ps sp :=by
 obtain⟨oc,od,kV,doc,pm,an,cE,ct,kh,rfl,lk,dI⟩:=F.ex;exact Av lk dI S len fun A outer s H vs Q E hr ki=>lL A outer s H vs Q E hr ki
def Se:List ap:=[.type "ValueError",.type "Exception",.type "BaseException",.type "object"]
def Gf (K:Frag) (C0 C:ag):Bool:=excIn K C Se "ValueError.__new__" && (clsIn K C).isSome && findIn K (.ref C) "__getattribute__" == some (some (.builtin "BaseException.__getattribute__")) && findIn K (.ref C) "__getattr__" == some none &&
 findIn K (.ref C) "__class__" == some (some (.builtin "object.__class__")) && mroIn K C (.type "object")==some true && mroIn K C (.type "BaseException")==some true && subIn K (.ref C) (.ref C0)==some true && kitOne K (.ref C) (.type "ValueError")==some true
def A7 (K:Frag) (C0:ag) (cs:List ag):Bool:=cs.all (Gf K C0) && (cs.all fun C=>cs.all fun D=>kitOne K (.ref C) (.ref D)==some (decide (C=D))) && specialIn K (.builtin "object.__class__") "__get__" == some (some (.builtin "getset_descriptor.__get__")) && takesIn K (.builtin "object.__class__")==some true &&
 typeIn K (.ref C0)==some (.type "type") && subIn K (.ref C0) (.type "BaseException")==some true && (clsIn K C0).isSome
structure wG (K:Frag) (C0:ag) (cs:List ag):Prop where
 ex:∀C∈cs,excIn K C Se "ValueError.__new__" = true
 cl:∀C∈cs,eB K C
 sub:∀C∈cs,subIn K (.ref C) (.ref C0)=some true
 one:∀C∈cs,∀D∈cs,kitOne K (.ref C) (.ref D)=some (decide (C=D))
 val:∀C∈cs,kitOne K (.ref C) (.type "ValueError")=some true
 top:ky K C0
theorem JR {K:Frag}{C0:ag}{cs:List ag}(h:A7 K C0 cs=true):wG K C0 cs :=by
 unfold A7 at h;simp only[EM]at h;obtain⟨⟨⟨⟨⟨⟨h1,h2⟩,h3⟩,h4⟩,h5⟩,h6⟩,h7⟩:=h;have all:∀C∈cs,Gf K C0 C=true:=xp.mp h1;have part:∀C∈cs,_:=fun C hC=>by
  have z:=all C hC;unfold Gf at z;simp only[EM]at z;exact z
 refine⟨fun C hC=>(part C hC).1.1.1.1.1.1.1.1,fun C hC=>?_,fun C hC=>beq_iff_eq.mp (part C hC).1.2,fun C hC D hD=>beq_iff_eq.mp (xp.mp (xp.mp h2 C hC) D hD),fun C hC=>beq_iff_eq.mp (part C hC).2,⟨beq_iff_eq.mp h5,beq_iff_eq.mp h6,h7⟩⟩
 obtain⟨⟨⟨⟨⟨⟨⟨⟨_,p1⟩,p2⟩,p3⟩,p4⟩,p5⟩,p6⟩,_⟩,_⟩:=part C hC;exact⟨p1,beq_iff_eq.mp p2,beq_iff_eq.mp p3,beq_iff_eq.mp p4,beq_iff_eq.mp h3,beq_iff_eq.mp h4,beq_iff_eq.mp p5,beq_iff_eq.mp p6⟩
end L2
namespace L2
open PySem PySem.Spec PyProof.Rows Builtin.SmallTypes
def fY (k:Bool) (h:ii) (it a:ag) (i:Nat):Prop:=if k=true then h.IsListIter it a i else h.IsTupleIter it a i
def qa (k:Bool) (h:ii) (a:ag) (items:Array ap):Prop:=if k=true then h.IsList a items else h.IsTuple a items
theorem fY.at {k:Bool}{h h':ii}{it a:ag}{i:Nat}(x:fY k h it a i) (q:∀o,h.get? it=some o->h'.get? it=some o):fY k h' it a i :=by
 cases k with
 |true=>exact ii.IsListIter.at (h:=h) x q
 |false=>exact ii.IsTupleIter.at (h:=h) x q
theorem fY.obj {k:Bool}{h:ii}{it a:ag}{i:Nat}(x:fY k h it a i):∃o,h.get? it=some o/\∃vs,o.data=.fields vs :=by
 cases k with
 |true=>obtain⟨o,e,_,d⟩:=(show h.IsListIter it a i from x);exact⟨o,e,_,d⟩
 |false=>obtain⟨o,e,_,d⟩:=(show h.IsTupleIter it a i from x);exact⟨o,e,_,d⟩
section
variable {prog:ff}{w:hX}{A:rb}{E:ap->ba->Prop}{s:ba}{it a:ag}{i:Nat}{items:Array ap}{x:ap}{k:Bool}
theorem Gg {Q:Option ap->ba->Prop}(hit:s.heap.IsTupleIter it a i) (ha:s.heap.IsTuple a items) (hx:items[i]?=some x)
  (hQ:∀h',h'.IsTupleIter it a (i+1)->zn it s.heap h'->Q (some x) {s with heap:=h'}):wpAny (model prog w) A (callSpecial? (.ref it) "__next__") Q E s :=by
 obtain⟨o,ho,hc,hd⟩:=id hit;obtain⟨ol,Dd,_,nl,Nw⟩:=ha;have sl:=F.slot_tuple_iterator_next;refine wP (name:=i0 "__next__") hit.typeIs sl (u8 sl hit.typeIs F.entry_tuple_iterator_next ?_ (F.args_tuple_iterator_next_1 _))
 have nn:¬ ((li a==wE)=true):=i8;refine ac (m:=field (.ref it) 0) (IR ho hd (x:=.ref a) rfl ?_);rw[if_neg nn];refine ac (m:=field (.ref it) 1) (IR ho hd (x:=.int i 0) rfl (ac (m:=seqItems? (.ref a)) (XG Dd Nw ?_)));simp only[uu,hx];refine ac (m:=setField _ _ _) (wpAny_setField ho hd (by simp) (bi ⟨x,rfl,hQ _ ?_ (Is ..)⟩))
 refine⟨_,AL _ ho (YE (Pe hd _)),(Zq ..).trans hc,?_⟩;rw[Pe hd];simp[rawInt]
theorem Gh {Q:Option ap->ba->Prop}(hh:A.handled=none) (hit:s.heap.IsTupleIter it a i) (ha:s.heap.IsTuple a items) (hx:items[i]?=none)
  (hE:∀h' e,Y6 it s.heap h'->(∃o,h'.get? e=some o/\o.cls=.type "StopIteration")->E (.ref e) {s with heap:=h'}):wpAny (model prog w) A (callSpecial? (.ref it) "__next__") Q E s :=by
 obtain⟨o,ho,hc,hd⟩:=id hit;obtain⟨ol,Dd,_,nl,Nw⟩:=ha;have sl:=F.slot_tuple_iterator_next;refine wP (name:=i0 "__next__") hit.typeIs sl (u8 sl hit.typeIs F.entry_tuple_iterator_next ?_ (F.args_tuple_iterator_next_1 _))
 have nn:¬ ((li a==wE)=true):=i8;refine ac (m:=field (.ref it) 0) (IR ho hd (x:=.ref a) rfl ?_);rw[if_neg nn];refine ac (m:=field (.ref it) 1) (IR ho hd (x:=.int i 0) rfl (ac (m:=seqItems? (.ref a)) (XG Dd Nw ?_)));simp only[uu,hx];refine ac (LM (ac (m:=setField _ _ _) (wpAny_setField ho hd (by simp) ?_)))
 refine ac (m:=newExc (.type "StopIteration") []) ?_
 unfold newExc newTuple;refine ac (sB ?_ (by size_fits))
 refine ac (m:=firstArgMember _ _) (Yq (a:=wE) (by first|rfl|(simp only[firstArgMember];rfl)) (sB ?_ (by size_fits)))
 refine wpAny_raiseNew_none hh ?_;exact hE _ _ (((Is ..).extBut.push _).push _) ⟨_,ij _ rfl,rfl⟩
theorem JS {Q:ap->ba->Prop}(hit:fY k s.heap it a i) (ha:qa k s.heap a items) (hx:items[i]?=some x)
  (hQ:∀h',fY k h' it a (i+1)->zn it s.heap h'->Q x {s with heap:=h'}):wpAny (model prog w) A (nextOf (.ref it)) Q E s :=by
 cases k with
 |true=>exact wpAny_nextOf_list_item hit ha hx hQ
 |false=>
  unfold nextOf;exact ac (Gg hit ha hx fun h' a b=>bi (hQ h' a b))
theorem JT {Q:ap->ba->Prop}(hh:A.handled=none) (hit:fY k s.heap it a i) (ha:qa k s.heap a items) (hx:items[i]?=none)
  (hE:∀h' e,Y6 it s.heap h'->(∃o,h'.get? e=some o/\o.cls=.type "StopIteration")->E (.ref e) {s with heap:=h'}):wpAny (model prog w) A (nextOf (.ref it)) Q E s :=by
 cases k with
 |true=>exact wpAny_nextOf_list_end hh hit ha hx hE
 |false=>
  unfold nextOf;exact ac (Gh hh hit ha hx hE)
end
section
variable {prog:ff}{w:hX}{A:rb}{E:ap->ba->Prop}{s:ba}{e it a:ag}{i:Nat}{items:Array ap}{x old:ap}{k:Bool}
theorem De {Q:ap->ba->Prop}(he:Yr s.heap e it i old) (cJ:e≠it) (hit:fY k s.heap it a i) (ha:qa k s.heap a items) (hx:items[i]?=some x)
  (hQ:∀h',Z6 h' e it ((i:Int)+1) x s.heap.objs.size->fY k h' it a (i+1)->h'.get? s.heap.objs.size=some {cls:=.type "tuple",data:=.seq #[.int i s.toks,x]}->
   (∀b o,b≠e->b≠it->s.heap.get? b=some o->h'.get? b=some o)->Q (.ref s.heap.objs.size) {s with heap:=h',toks:=s.toks+1}) :
  wpAny (model prog w) A (ul.«enumerate.__next__» ⟨[.ref e],[]⟩) (fun fin s'=>∃v,fin=.done (.ret v)/\Q v s') E s :=by
 obtain⟨hp,g,d,tk,os⟩:=s;refine ac (m:=field (.ref e) 2) (IR he rfl (x:=.ref it) rfl (ac (m:=nextOf (.ref it)) (JS hit ha hx fun h1 Nx (Ny:zn it hp h1)=>?_)))
 have e1:Yr h1 e it i old:=(Ny.2 e cJ).trans he;refine ac (m:=field (.ref e) 3) (IR e1 rfl (x:=rawInt i) rfl (ac (m:=field (.ref e) 4) (IR e1 rfl (x:=.none) rfl (ac (m:=mkInt i) (wpAny_mkInt ?_)))));refine ac (m:=setField (.ref e) 3 _) (Nl e1 (by simp) fun h2 (e2:Yr h2 e it ((i:Int)+1) old) (zy:zn e h1 h2)=>?_)
 refine ac (m:=setField (.ref e) 4 .none) (Nl e2 (by simp) fun h3 (e3:Yr h3 e it ((i:Int)+1) old) (Sf:zn e h2 h3)=>?_)
 refine ac (m:=newTuple [.int i tk,x]) (Y3 ?_);have z3:h3.objs.size=hp.objs.size :=by rw[Sf.1,zy.1,Ny.1]
 have el:e<hp.objs.size:=io he;have e4:Yr (h3.push {cls:=.type "tuple",data:=.seq #[.int i tk,x]}) e it ((i:Int)+1) old:=br _ e3
 have t4:(h3.push {cls:=.type "tuple",data:=.seq #[.int i tk,x]}).get? hp.objs.size=some {cls:=.type "tuple",data:=.seq #[.int i tk,x]}:=z3▸ij _ rfl
 have up:∀b o,b≠e->h1.get? b=some o->(h3.push {cls:=.type "tuple",data:=.seq #[.int i tk,x]}).get? b=some o:=fun b o n q=>br _ (Sf.extBut b o n (zy.extBut b o n q))
 generalize h3.push {cls:=.type "tuple",data:=.seq #[.int i tk,x]}=h4 at e4 t4 up
 rw[z3];refine ac (m:=ownedTupleIsFree (.ref e)) ?_;unfold ownedTupleIsFree;refine ac (m:=field (.ref e) 0) (IR e4 rfl (x:=.none) rfl (bi ?_));rw[if_pos rfl];refine ac (LM (ac (m:=field (.ref e) 5) (IR e4 rfl (x:=old) rfl ?_)));refine ac (m:=setField (.ref e) 5 x) (Nl e4 (by simp) fun h5 (e5:Yr h5 e it ((i:Int)+1) x) (U9:zn e h4 h5)=>?_)
 refine ac (m:=ownedTupleHandOut (.ref e) _) ?_;unfold ownedTupleHandOut;refine ac (Nl e5 (by simp) fun h6 (e6:Z6 h6 e it ((i:Int)+1) x hp.objs.size) (Va:zn e h5 h6)=>?_)
 refine Nl e6 (by simp) fun h7 (e7:Z6 h7 e it ((i:Int)+1) x hp.objs.size) (Vb:zn e h6 h7)=>?_
 have Nz:∀b o,b≠e->h4.get? b=some o->h7.get? b=some o:=fun b o n q=>Vb.extBut b o n (Va.extBut b o n (U9.extBut b o n q))
 refine ac (wpAny_letGo (bi ⟨_,rfl,hQ h7 e7 (Nx.at fun o q=>Nz it o (wp cJ) (up it o (wp cJ) q)) (Nz _ _ (SS el) t4) fun b o n1 n2 q=>Nz b o n1 (up b o n1 ((Ny.2 b n2).trans q))⟩))
theorem Dg {Q:Option ap->ba->Prop}(he:Yr s.heap e it i old) (cJ:e≠it) (hit:fY k s.heap it a i) (ha:qa k s.heap a items) (hx:items[i]?=some x)
  (hQ:∀h',Z6 h' e it ((i:Int)+1) x s.heap.objs.size->fY k h' it a (i+1)->h'.get? s.heap.objs.size=some {cls:=.type "tuple",data:=.seq #[.int i s.toks,x]}->
   (∀b o,b≠e->b≠it->s.heap.get? b=some o->h'.get? b=some o)->Q (some (.ref s.heap.objs.size)) {s with heap:=h',toks:=s.toks+1}) :
  wpAny (model prog w) A (pyNext (.ref e)) Q E s :=by
 have hT:s.TypeIs (.ref e) "enumerate" := ⟨_,he,rfl⟩
 have sl:=F.slot_enumerate_next;unfold pyNext;exact ac (LS (wP (name:=i0 "__next__") hT sl (u8 sl hT F.entry_enumerate_next (De he cJ hit ha hx fun h' a b c d=>bi (hQ h' a b c d)) (F.args_enumerate_next_1 _))))
theorem Dh {Q:Option ap->ba->Prop}(hh:A.handled=none) (he:Yr s.heap e it i old) (hit:fY k s.heap it a i) (ha:qa k s.heap a items) (hx:items[i]?=none)
  (hQ:∀h',Y6 it s.heap h'->Q none {s with heap:=h'}):wpAny (model prog w) A (pyNext (.ref e)) Q E s :=by
 have hT:s.TypeIs (.ref e) "enumerate" := ⟨_,he,rfl⟩
 have sl:=F.slot_enumerate_next;unfold pyNext;refine ac (LS (wP (name:=i0 "__next__") hT sl (u8 sl hT F.entry_enumerate_next ?_ (F.args_enumerate_next_1 _))))
 refine ac (m:=field (.ref e) 2) (IR he rfl (x:=.ref it) rfl (ac (m:=nextOf (.ref it)) (JT hh hit ha hx fun h' y eb ⟨o,ho,hc⟩=>?_)))
 exact ac (Yv (T := "StopIteration") (b:=true) ⟨o,ho,hc⟩ isSubtype_stop (bi (hQ _ eb)))
end
end L2
namespace L2
open PySem PySem.Spec PyProof.Rows Builtin.SmallTypes AutoSeq1
theorem wH:bootBuiltins "enumerate" = some (.type "enumerate") :=by decide +kernel
section
variable {X:Cx}{pins:List (ag×lc)}{σ:St}{H:Hp}{s:ba}{h':ii}
theorem Inv.zA {t':Nat}{ch:List ag}(I:Inv X pins σ H s) (k:∀b o,b ∉ ch->s.heap.get? b=some o->h'.get? b=some o) (hf:∀b∈ch,dz X pins H b):Inv X pins σ H {s with heap:=h',toks:=t'}:=by
 have Cd:∀b u,H b=some u->b ∉ ch:=fun b u e z=>by rw[(hf b z).1]at e;cases e
 refine I.step (g':=s.gens) (d':=s.drawn) (ch:=ch) (fun b hb=>?_) (fun b o _ _ hc e _=>k b o hc e) (fun b o _ _ hc e _=>⟨o.slots,k b o hc e⟩) (fun _ _ _ _ n=>n)
  (fun b o hc e=>⟨o,k b o hc e⟩) (fun _ _ e=>e) (fun _ _ _ e=>e) (fun b ps e=>⟨#[],by rw[e];simp⟩) (fun m hm=>?_) (fun b u e=>?_) I.bare.self
 ·obtain⟨_,f1,f2,f3,f4,f5⟩:=hf b hb;exact⟨f3,f1,f4,f5⟩
 ·obtain⟨o,es,ep,ho,r⟩:=hm;exact⟨o,es,ep,k _ o (fun z=>(hf _ z).2.1 rfl) ho,r⟩
 ·refine(I.hok b u e).bp (fun c v hc q=>k c v ?_ q) (fun _ q=>q) fun _ _ q=>q
  rcases hc with z|z
  ·rw[z];exact Cd b u e
  ·exact Cd c _ z
theorem Inv.pair {t:ag}{a b:V}{u v:ap}{h1:ii}{tk tk0:Nat}(I0:Inv X pins σ H {s with toks:=tk0}) (ht:s.heap.objs.size<=t) (I:Inv X pins σ H {s with heap:=h1,toks:=tk}) (e:h1.get? t=some {cls:=.type "tuple",data:=.seq #[u,v]}) (ru:RelV a u) (rv:RelV b v) :
  Inv X pins σ (upd H t (.tup [a,b])) {s with heap:=h1,toks:=tk}:=by
 have f:=Inv.nu (H':=H) I0 (b:=t) ht (I0.hok.fresh ht);refine I.Ic f.1 ?_ f.2.1 f.2.2.2.2.1 f.2.2.2.2.2 ⟨by show 2<=sizeLine;decide,[u,v],.cons ru (.cons rv .nil),⟨_,e,rfl,_,rfl,rfl⟩⟩
 exact ii.get?_none_of_le (v6 I0.sz ht)
end
def Sq (k:Bool) (K:bn) (H:Hp) (a:ag) (xs:List V):Prop:=if k=true then bL K H a xs else bW K H a xs
theorem Inv.sq {X:Cx}{pins:List (ag×lc)}{σ:St}{H:Hp}{s:ba}{k:Bool}{a:ag}{xs:List V}(I:Inv X pins σ H s) (h:Sq k X.K H a xs):∃its:List ap,Vals xs its/\qa k s.heap a its.toArray :=by
 cases k with
 |true=>obtain⟨its,rv,p,_⟩:=I.list (show bL X.K H a xs from h);exact⟨its,rv,p.isList⟩
 |false=>obtain⟨its,rv,p,_⟩:=I.tuple (show bW X.K H a xs from h);exact⟨its,rv,p⟩
theorem Inv.NA {X:Cx}{pins:List (ag×lc)}{σ:St}{H:Hp}{s:ba}{k:Bool}{a:ag}{xs ys:List V}(I:Inv X pins σ H s) (h:Sq k X.K H a xs) (h':Sq k X.K H a ys):xs=ys :=by
 cases k with
 |true=>exact I.vK (show bL X.K H a xs from h) h'
 |false=>exact I.t7 (show bW X.K H a xs from h) h'
def Ie (k:Bool) (K:bn) (a:ag):It:=
 ⟨fun i H=>∃xs x,Sq k K H a xs/\xs[i]?=some x,fun i H v H'=>∃t x,H t=none/\v=.ref t/\H'=upd H t (.tup [.int (i:Nat),x])/\∀xs,Sq k K H a xs->xs[i]?=some x,fun i H=>∃xs,Sq k K H a xs/\xs.length<=i⟩
theorem Di {P:ff}{w:hX}{K:bn}{elts:List dL}{x1:Nat}{pos:ww}(k:Bool) (a it e:ag) (cJ:e≠it) :
  Turn P w K (.Tuple elts x1 pos) (Ie k K a) [e,it] e (fun i h=>(∃old,Yr h e it i old)/\fY k h it a i) where
 mem :=by simp
 obj:=fun i h st b hb=>by
  obtain⟨⟨old,he⟩,hit⟩:=st;simp only[l8,Co,or_false]at hb;rcases hb with rfl|rfl
  ·exact⟨_,he,fun v z=>nomatch z⟩
  ·obtain⟨o,ho,vs,hd⟩:=hit.obj;exact⟨o,ho,fun v z=>by rw[hd]at z;cases z⟩
 keep:=fun i h h' st q=>by
  obtain⟨⟨old,he⟩,hit⟩:=st;exact⟨⟨old,q e (by simp) _ he⟩,hit.at fun o ho=>q it (by simp) o ho⟩
 item :=by
  intro X hP hw hK hc i pins s σ H E I hf st hg;subst hP hw hK;obtain⟨⟨old,he⟩,hit⟩:=st;obtain⟨xs,x,hq,hx⟩:=hg;obtain⟨its,rv,p⟩:=I.sq hq;obtain⟨u,hu,ru⟩:=rv.get hx;refine Dg he cJ hit p (x:=u) (by simpa using hu) fun h1 eo Nx t1 kk=>?_
  refine⟨_,rfl,wpAny_letOwnedTupleGo_enum eo fun h2 e2 (zy:zn e h1 h2)=>?_⟩
  have el:e<s.heap.objs.size:=io he;have I2:Inv X pins σ H {s with heap:=h2,toks:=s.toks+1}:=I.zA (ch:=[e,it]) (fun b o hb q=>by
   simp only[l8,Co,or_false,not_or]at hb;exact(zy.2 b hb.1).trans (kk b o hb.1 hb.2 q)) hf
  have t2:h2.get? s.heap.objs.size=some {cls:=.type "tuple",data:=.seq #[.int i s.toks,u]}:=(zy.2 _ (SS el)).trans t1
  have hn:H s.heap.objs.size=none:=I.hok.fresh (ce _);refine⟨.ref s.heap.objs.size,_,Inv.pair (s:=s) (tk0:=s.toks) I (ce _) I2 t2 (a:=.int (i:Nat)) ⟨s.toks,rfl⟩ ru,rfl,⟨_,x,hn,rfl,rfl,fun ys hy=>by rw[I.NA hy hq];exact hx⟩,⟨⟨u,?_⟩,Nx.at fun o q=>(zy.2 it (wp cJ)).trans q⟩,fun b hb=>?_⟩
  ·have c:((i+1:Nat):Int)=(i:Int)+1 :=by push_cast;rfl
   rw[c];exact e2
  ·have l:b≠s.heap.objs.size :=by
    simp only[l8,Co,or_false]at hb;rcases hb with rfl|rfl
    ·exact l5 el
    ·obtain⟨o,ho,_⟩:=hit.obj;exact l5 (io ho)
   rw[ae l];exact(hf b hb).1
 done :=by
  intro X hP hw hK hc i pins s σ H E I hf st hg;subst hP hw hK;obtain⟨⟨old,he⟩,hit⟩:=st;obtain⟨xs,hq,hx⟩:=hg;obtain⟨its,rv,p⟩:=I.sq hq;have hl:=rv.length;exact Dh (I.ok.hd hc) he hit p (by simp;omega) fun h1 eb=>⟨rfl,I.zA (t':=s.toks) (ch:=[it]) (fun b o hb q=>eb b o (by simpa using hb) q) fun b hb=>hf b (by simp at hb;simp[hb])⟩
 self:=fun _ _ _ _ _ st h=>wpAny_pyIter_enum st.1.choose_spec h
abbrev Dj (a:ag):lc:={cls:=.type "tuple_iterator",data:=.fields #[.ref a,.int 0 0]}
abbrev NB (it:ag):lc:={cls:=.type "enumerate",data:=.fields #[.none,.bool false,.ref it,rawInt 0,.none,.none]}
theorem JU (a:ag) (items:Array ap) (n:Nat) (dct:Option ag) (sl:Array (Option ap)) :
  Meets (ul.«enumerate.__new__» ⟨[.type "enumerate",.ref a],[]⟩) (fun _ R s=>s.heap.get? a=some {cls:=.type "tuple",dict:=dct,data:=.seq items n,slots:=sl} /\
   R (.ok (.ret (.ref (s.heap.push (Dj a)).objs.size))) {s with heap:=(s.heap.push (Dj a)).push (NB s.heap.objs.size)}):=
 .of_wp fun prog w A R s h=>by
  obtain⟨hp,g,d,tk,os⟩:=s;obtain⟨hl,h⟩:=h;have kX:=sub_enumerate;have hT:ii.IsTuple (ba.heap ⟨hp,g,d,tk,os⟩) a items:=⟨_,hl,rfl,n,rfl⟩;wp_walk using X5 hl
  refine wpAny_stack_any fun st=>bi ?_
  split;case h_1 c _ _ _ _ _=>cases (c==BY "enumerate")<;>(wp_walk using X5 hl,Za hT;exact⟨_,rfl,h⟩)
  case h_2=>wp_walk using X5 hl,Za hT;exact⟨_,rfl,h⟩
section
variable {prog:ff}{w:hX}{A:rb}{E:ap->ba->Prop}{s:ba}
theorem A8 {a:ag}{items:Array ap}{Q:ap->ba->Prop}(hT:s.heap.IsTuple a items)
  (h:∀h',Yr h' (s.heap.objs.size+1) s.heap.objs.size 0 .none->h'.IsTupleIter s.heap.objs.size a 0->(∀b o,s.heap.get? b=some o->h'.get? b=some o)->Q (.ref (s.heap.objs.size+1)) {s with heap:=h'}) :
  wpAny (model prog w) A (call (.type "enumerate") [.ref a]) Q E s :=by
 obtain⟨ob,ho,hc,n,hd⟩:=hT;obtain⟨c,dd,dt,sl⟩:=ob;dsimp only at hc hd;subst hc hd;refine callType_new F.called_enumerate (by decide) (F.typeCall_enumerate_1 _) (F.newCall_enumerate_1 _) (fun obj=>F.args_object_init_2 obj _) F.entry_enumerate_new (JU a items n dd sl) ⟨ho,?_⟩
 have z:(s.heap.push (Dj a)).objs.size=s.heap.objs.size+1:=Nd ..;have he:((s.heap.push (Dj a)).push (NB s.heap.objs.size)).get? (s.heap.objs.size+1)=some (NB s.heap.objs.size):=z▸ij (s.heap.push (Dj a)) rfl;show _/\_;rw[z];exact⟨⟨_,he,rfl⟩,h _ he ⟨_,br _ (ij _ rfl),rfl,rfl⟩ fun b o x=>br _ (br _ x)⟩
theorem Dk {k:Bool}{a:ag}{items:Array ap}{Q:ap->ba->Prop}(hT:qa k s.heap a items)
  (h:∀h',Yr h' (s.heap.objs.size+1) s.heap.objs.size 0 .none->fY k h' s.heap.objs.size a 0->(∀b o,s.heap.get? b=some o->h'.get? b=some o)->Q (.ref (s.heap.objs.size+1)) {s with heap:=h'}) :
  wpAny (model prog w) A (call (.type "enumerate") [.ref a]) Q E s :=by
 cases k with
 |true=>exact call_enumerate_list hT fun h' a b _ c=>h h' a b c
 |false=>exact A8 hT h
end
section
variable {X:Cx}{l:dL}{tl:TE}{elts:List dL}{x1:Nat}{tp p pos:ww}
def QJ (k:Bool) (K:bn) (tl:TE):TI:=fun σ H R=>tl σ H fun x H1=>∃a,x=.ref a/\(∃xs,Sq k K H1 a xs)/\R (Ie k K a) H1
theorem JV (k:Bool) {K:bn}(hK:X.K=K) (hg:Gl X "enumerate") (hm:X.mg "enumerate" = none) (hl:PE X l tl) (hs:starEach [l] X.env=[(false,eval l X.env)] :=by rfl) :
  PI X (.Tuple elts x1 tp) (.Call (.Name "enumerate" p) [l] [] pos) (QJ k K tl) :=by
 subst hK;intro pins s σ H R I h;refine B0 (fI I hg hm wH ?_);refine Fk ?_ hs rfl;rw[hs];refine Pc (thn (hl pins s σ H _ I h) fun v s1 ⟨x,H1,I1,r1,q1⟩=>Rs ?_)
 obtain⟨a,rfl,⟨xs,hq⟩,q⟩:=q1;cases (show v=li a from r1);obtain⟨its,rv,sq⟩:=I1.sq hq;refine Dk sq fun h' he hit kk=>?_
 refine wpAny_pyIter_enum he ?_;have I2:Inv X pins σ H1 {s1 with heap:=h'}:=I1.kept (t':=s1.toks) kk
 have ne:s1.heap.objs.size+1≠s1.heap.objs.size:=SS (Me _);refine⟨_,[s1.heap.objs.size+1,s1.heap.objs.size],_,Ie k X.K a,H1,rfl,I2,Di k a _ _ ne,⟨⟨_,he⟩,hit⟩,fun b hb=>?_,q⟩
 simp only[l8,Co,or_false]at hb;rcases hb with rfl|rfl
 ·exact I1.nu (IS _) (I1.hok.fresh (IS _))
 ·exact I1.nu (ce _) (I1.hok.fresh (ce _))
end
def Ig (J:It) (ys:List (V×V)) (H:Hp):Prop:=∀i,(i<ys.length->J.go i H/\∀x H',J.yld i H x H'->∃t p,H t=none/\x=.ref t/\ys[i]?=some p/\H'=upd H t (.tup [p.1,p.2]))/\(ys.length<=i->J.stop i H)
theorem uC {k:Bool}{K:bn}{a:ag}{ys:List V}{H:Hp}(h:Sq k K H a ys):Ig (Ie k K a) ((lw ys.length).map fun i=>(V.int (i:Nat),ys.getD i .ao)) H:=fun i=>by
 have el:((lw ys.length).map fun i=>(V.int (i:Nat),ys.getD i .ao)).length=ys.length :=by simp
 rw[el];refine⟨fun hi=>⟨⟨ys,ys[i],h,ar hi⟩,fun x H' ⟨t,y,n,e1,e2,e3⟩=>⟨t,(.int (i:Nat),y),n,e1,?_,e2⟩⟩,fun hi=>⟨ys,h,hi⟩⟩
 rw[db,GT hi];have:=e3 ys h;show some (V.int (i:Nat),ys.getD i .ao)=_;rw[c8,this];rfl
end L2
namespace L2
open PySem PySem.Spec PyProof.Rows AutoSeq1
theorem Gi (l b:ag) (items NC:Array ap) (n n2:Nat) (dd y7:Option ag) (sl ug:Array (Option ap)) (h0:items.isEmpty=true) :
  Meets (ul.«tuple.__add__» ⟨[.ref l,.ref b],[]⟩) (fun _ R s=>s.heap.get? l=some {cls:=.type "tuple",dict:=dd,data:=.seq items n,slots:=sl}/\s.heap.get? b=some {cls:=.type "tuple",dict:=y7,data:=.seq NC n2,slots:=ug}/\R (.ok (.ret (.ref b))) s):=
 .of_wp fun prog w A R s h=>by
  obtain⟨hp,g,d,tk,os⟩:=s;obtain⟨hl,hb,h⟩:=h;have f2:=AutoSeq1.sub_tuple_tuple;wp_walk using X5 hl,X5 hb
  exact⟨_,rfl,h⟩
section
variable {X:Cx}
def QK (K:bn):R2:=fun x y H Q=>∃a b xs ys,x=.ref a/\y=.ref b/\bW K H a xs/\bW K H b ys/\xs.length+ys.length<=sizeLine/\(xs=[]->Q (.ref b) H)/\(xs≠[]->ys=[]->Q (.ref a) H)/\(xs≠[]->ys≠[]->∀p,H p=none->Q (.ref p) (upd H p (.tup (xs++ys))))
theorem JW {K:bn}(hK:X.K=K):OpR X (binaryOp .Add) (QK K) :=by
 subst hK;intro pins s σ H x y v u Q I rx ry h;obtain⟨a,b,xs,ys,rfl,rfl,ha,hb,hz,q0,q1,q2⟩:=h;by_cases hx:xs=[]
 ·cases rx;cases ry;obtain⟨its,r1,p1,_⟩:=I.tuple ha;obtain⟨fc,r2,p2,_⟩:=I.tuple hb;obtain⟨⟨cls,dd,data,sl⟩,ho,hc,n,hd⟩:=id p1;obtain⟨⟨Tz,y7,data2,ug⟩,jB,y8,n2,hd2⟩:=id p2;dsimp only at hc hd y8 hd2;subst hc hd y8 hd2;exact concat_meets ⟨_,ho,rfl⟩ ⟨_,jB,rfl⟩ ZA seq_tuple_add Yn Yf (Ya _ _) (Gi a b its.toArray fc.toArray n n2 dd y7 sl ug (by simp[r1.oJ.mpr hx])) ⟨ho,jB,⟨.ref b,H,I,rfl,q0 hx⟩⟩
 ·exact JE pins s σ H _ _ v u Q I rx ry ⟨a,b,xs,ys,rfl,rfl,ha,hb,hx,hz,q1 hx,q2 hx⟩
theorem yB {prog:ff}{w:hX}{A:rb}{E:ap->ba->Prop}{s:ba}{t sl:ag}{items:Array ap}{vl vu:ap}{lo hi:Option Int}{Q:ap->ba->Prop}(ht:Z8 s.heap t items) (hs:s.heap.IsSliceOf sl vl vu .none) (pl:YL vl lo) (pu:YL vu hi)
  (hw:HT.aQ items.size 0 lo=0/\HT.aQ items.size items.size hi=items.size) (h:Q (.ref t) s):wpAny (model prog w) A (getItem (.ref t) (.ref sl)) Q E s :=by
 obtain⟨os,eA,uh,kj⟩:=id hs;have qX:s.TypeIs (.ref sl) "slice" := ⟨os,eA,uh⟩
 have Vc:s.TypeIs (.ref t) "tuple" := ht.typeIs
 unfold getItem;refine xL ?_;first|refine ac (bi ?_)|skip
 refine ac (wpAny_sequenceKey ht.typeIs (by decide) ?_)
 have sg:=Go;refine ac (wP (name:=i0 "__getitem__") ht.typeIs sg (u8 sg ht.typeIs entry_tuple_getitem ?_ (args_tuple_getitem _ _)))
 refine ac (m:=ul.Tuple.tupleItemsOf (.ref t)) (tupleItemsOf_ ht (ac (NG qX ?_)));rw[if_pos (by decide)]
 refine ac (HT.jC hs pl pu ?_);rw[hw.1,hw.2];show wpAny _ _ (if (((0:Nat):Int)==0 && (1:Int)==1 && (items.size - 0)==items.size)=true then _ else _) _ _ s
 rw[if_pos (by simp)]
 refine ac (m:=ul.Tuple.tupleIsExact (.ref t)) ?_;unfold ul.Tuple.tupleIsExact;refine ac (NG Vc (bi ?_));rw[if_pos (by decide)]
 exact ac (LM (bi ⟨_,rfl,bi h⟩))
def TY (K:bn):V->Option Int->Option Int->Hp->VK->Prop:=fun x lo hi H Q=>∃a xs,x=.ref a/\bW K H a xs /\
 ((HT.aQ xs.length 0 lo=0/\HT.aQ xs.length xs.length hi=xs.length)->Q (.ref a) H)/\(¬ (HT.aQ xs.length 0 lo=0/\HT.aQ xs.length xs.length hi=xs.length)->∀p,H p=none->Q (.ref p) (upd H p (.tup (iO xs lo hi))))
theorem JX {K:bn}(hK:X.K=K):CD X (TY K) :=by
 subst hK;intro pins s σ H x v vl vu lo hi sl Q I rx hs pl pu h;obtain⟨a,xs,rfl,hx,q1,q2⟩:=h;by_cases hw:HT.aQ xs.length 0 lo=0/\HT.aQ xs.length xs.length hi=xs.length
 ·cases rx;obtain⟨its,r,ht,hz⟩:=I.tuple hx;have hlen:its.toArray.size=xs.length :=by rw[im];exact r.length.symm
  exact⟨"tuple",_,Go.lookup,ht.typeIs,yB ht hs pl pu (by rw[hlen];exact hw) ⟨.ref a,H,I,rfl,q1 hw⟩⟩
 ·exact Mx pins s σ H _ v vl vu lo hi sl Q I rx hs pl pu ⟨a,xs,rfl,hx,hw,q2 hw⟩
theorem A9 {xs:List V}{lo hi:Option Int}(h:HT.aQ xs.length 0 lo=0/\HT.aQ xs.length xs.length hi=xs.length):iO xs lo hi=xs :=by
 unfold iO;rw[h.1,h.2,List.drop_zero,Nat.sub_zero,ZF]
end
end L2
namespace L2
open PySem PySem.Spec PyProof.Rows
section
variable {X:Cx}{st:ut}{ι:Type}{Pre:ι->St->Hp->Prop}{D:ι->Ends}
theorem vi {P:ff}{w:hX}{K:bn}(hP:X.prog=P) (hw:X.w=w) (h:X.K=K) (hc:X.calm=true):cU X (.builtin "sorted") (zx P w K) :=by
 subst hP hw h;exact wA hc
theorem PS.iD {st:ut}{t:TS}(h:PS X.iD st t):PS X st t:=⟨fun pins s σ H D I hw=>
 on (h pins s σ H D (I.iN _) hw) (fun _ _ q=>q.fJ) fun _ _ z=>DO z⟩
end
section
variable {κ:Type} [DecidableEq κ]
def iR (ah:List (κ×V)) (k:κ):Option V:=(ah.find? fun kv=>decide (kv.1=k)).map (·.2)
def putK (ah:List (κ×V)) (k:κ) (v:V):List (κ×V):=
 if (ah.any fun kv=>decide (kv.1=k))=true then ah.map (fun kv=>if kv.1=k then (kv.1,v) else kv) else ah++[(k,v)]
theorem lW {p:κ×V}{r:List (κ×V)}{k:κ}(e:p.1=k):iR (p::r) k=some p.2 :=by simp[iR,WF,e]
theorem lX {p:κ×V}{r:List (κ×V)}{k:κ}(e:¬ p.1=k):iR (p::r) k=iR r k :=by simp[iR,WF,e]
theorem qb (k:κ):∀ah:List (κ×V),(ah.any fun kv=>decide (kv.1=k))=(iR ah k).isSome
 | []=>rfl
 |p::r=>by
          rw[List.any_cons];by_cases e:p.1=k
          ·simp only[lW e,decide_eq_true e,Bool.true_or,Option.isSome_some]
          ·rw[lX e,decide_eq_false e,Bool.false_or];exact qb k r
theorem kZ (ah:List (κ×V)) (k:κ) (v:V):(putK ah k v).length<=ah.length+1 :=by
 unfold putK;split
 ·rw[ci];omega
 ·rw[xb,AS,Pv];omega
theorem jv.iG {o:Option V}{u:Option ap}(r:jv o u):o.isSome=u.isSome :=by
 cases o with
 |none=>cases u with
  |none=>rfl
  |some _=>exact(show False from r).elim
 |some _=>cases u with
  |none=>exact(show False from r).elim
  |some _=>rfl
theorem KV.val {ah:List (κ×V)}{vs:List (κ×ap)}(r:KV ah vs) (k:κ):jv (iR ah k) (valueAt vs k) :=by
 unfold KV at r;induction r with
 |nil=>exact NE
 | @cons p q ps qs h t ih=>
  obtain⟨h1,h2⟩:=h;by_cases e:p.1=k
  ·have e':q.1=k:=h1.symm.trans e;have b:valueAt (q::qs) k=some q.2 :=by simp[valueAt,WF,e']
   rw[lW e,b];exact h2
  ·have e':¬ q.1=k:=fun z=>e (h1.trans z)
   have b:valueAt (q::qs) k=valueAt qs k :=by simp[valueAt,WF,e']
   rw[lX e,b];exact ih
theorem KV.any {ah:List (κ×V)}{vs:List (κ×ap)}(r:KV ah vs) (k:κ):(ah.any fun kv=>decide (kv.1=k))=vs.any fun kv=>decide (kv.1=k) :=by
 unfold KV at r;induction r with
 |nil=>rfl
 |cons h t ih=>rw[List.any_cons,List.any_cons,ih,h.1]
theorem KV.repl {ah:List (κ×V)}{vs:List (κ×ap)}(r:KV ah vs) (k:κ) {y:V}{u:ap}(ry:RelV y u) :
  KV (ah.map fun kv=>if kv.1=k then (kv.1,y) else kv) (vs.map fun kv=>if kv.1=k then (kv.1,u) else kv) :=by
 unfold KV at r ⊢;induction r with
 |nil=>exact .nil
 | @cons p q ps qs h t ih=>
  rw[ss,ss];refine .cons ?_ ih;obtain⟨h1,h2⟩:=h;by_cases e:p.1=k
  ·rw[if_pos e,if_pos (h1.symm.trans e)];exact⟨h1,ry⟩
  ·rw[if_neg e,if_neg (fun z=>e (h1.trans z))];exact⟨h1,h2⟩
theorem KV.put {ah:List (κ×V)}{vs:List (κ×ap)}(r:KV ah vs) (k:κ) {y:V}{u:ap}(ry:RelV y u):KV (putK ah k y) (stored vs k u) :=by
 unfold putK stored;rw[r.any k];by_cases e:(vs.any fun kv=>decide (kv.1=k))=true
 ·rw[if_pos e,if_pos e];exact r.repl k ry
 ·rw[if_neg e,if_neg e];exact AM.snoc r ⟨rfl,ry⟩
theorem KV.length {ah:List (κ×V)}{vs:List (κ×ap)}(r:KV ah vs):ah.length=vs.length:=P3 r
end
theorem oN {P:ff}{w:hX}{k:Key}{u:ap}(r:RelV (kV k) u):(bz P w).is k u=true :=by
 cases k with
 |inl i=>obtain⟨t,e⟩:=(show ∃t,u=ZN i t from r);subst e;exact yq P w i t
 |inr x=>obtain⟨t,e⟩:=(show ∃t,u=YC x t from r);subst e;exact yr P w x t
theorem uD {P:ff}{w:hX}:∀{ks:List Key}{us:List ap},Vals (ks.map kV) us->ItemsAre (bz P w) ks us
 | [],_,r=>by rw[Lu]at r;cases r;exact .nil
 |k::ks,_,r=>by
          rw[ss]at r;cases r with
          |cons h t=>exact .cons (oN h) (uD t)
abbrev KT (H:Hp):List (List Key×V)->List (List Key×ag×ap)->Prop:=AM fun p q=>p.1=q.1/\H q.2.1=some (.tup (p.1.map kV))/\RelV p.2 q.2.2
theorem KT.val {H:Hp}{ah:List (List Key×V)}{xs:List (List Key×ag×ap)}(r:KT H ah xs) (k:List Key):jv (iR ah k) ((atKey xs k).map (·.2)) :=by
 induction r with
 |nil=>exact NE
 | @cons p q ps qs h t ih=>
  obtain⟨h1,_,h2⟩:=h;by_cases e:p.1=k
  ·have e':q.1=k:=h1.symm.trans e;have b:atKey (q::qs) k=some q.2 :=by simp[atKey,WF,e']
   rw[lW e,b];exact h2
  ·have e':¬ q.1=k:=fun z=>e (h1.trans z)
   have b:atKey (q::qs) k=atKey qs k :=by simp[atKey,WF,e']
   rw[lX e,b];exact ih
theorem KT.repl {H:Hp}{ah:List (List Key×V)}{xs:List (List Key×ag×ap)}(r:KT H ah xs) (k:List Key) {y:V}{u:ap}(ry:RelV y u) :
  KT H (ah.map fun kv=>if kv.1=k then (kv.1,y) else kv) (xs.map (putAt k u)) :=by
 induction r with
 |nil=>exact .nil
 | @cons p q ps qs h t ih=>
  rw[ss,ss];refine .cons ?_ ih;obtain⟨h1,h2,h3⟩:=h;unfold putAt;by_cases e:p.1=k
  ·rw[if_pos e,if_pos (h1.symm.trans e)];exact⟨h1,h2,ry⟩
  ·rw[if_neg e,if_neg (fun z=>e (h1.trans z))];exact⟨h1,h2,h3⟩
theorem KT.put {H:Hp}{ah:List (List Key×V)}{xs:List (List Key×ag×ap)}(r:KT H ah xs) (k:List Key) {b:ag}{y:V}{u:ap}(hb:H b=some (.tup (k.map kV))) (ry:RelV y u) :
  KT H (putK ah k y) (storedH xs k b u) :=by
 have e:(ah.any fun kv=>decide (kv.1=k))=(atKey xs k).isSome :=by
  rw[qb,(r.val k).iG,XA]
 unfold putK storedH;rw[e];by_cases q:(atKey xs k).isSome=true
 ·rw[if_pos q,if_pos q];exact r.repl k ry
 ·rw[if_neg q,if_neg q];exact AM.snoc r ⟨rfl,hb,ry⟩
theorem KT.keeps {H H':Hp}{ah:List (List Key×V)}{xs:List (List Key×ag×ap)}(r:KT H ah xs) (ht:∀b ys,H b=some (.tup ys)->H' b=some (.tup ys)):KT H' ah xs:=
 AM.Ao r fun _ _ z=>⟨z.1,ht _ _ z.2.1,z.2.2⟩
section
variable {P:ff}{w:hX}{H:Hp}{h:ii}{a:ag}
theorem Ih {u:HO}(ok:cN P w H h) (e:Rd H a u):ObjOk P w H h a u:=e.ok ok
theorem oO {ah:List (Key×V)}(ok:cN P w H h) (e:Rd H a (.dK ah)):ah.length<=sizeLine/\(a==sysModules)=false/\∃vs,KV ah vs/\h.DictOf (bz P w) a vs:=
 show ObjOk P w H h a (.dK ah) from Ih ok e
theorem Ii {ah:List (Key×V)}(ok:cN P w H h) (e:H a=some (.dK ah)):ah.length<=sizeLine/\(a==sysModules)=false/\∃vs,KV ah vs/\h.DictOf (bz P w) a vs:=oO ok (.inl e)
theorem ll {ks:List Key}(ok:cN P w H h) (e:H a=some (.tup (ks.map kV))):(tupleKind (bz P w)).is h ks a :=by
 obtain⟨_,its,r,o,h1,h2,n,h3,_⟩:=(show ObjOk P w H h a (.tup (ks.map kV)) from ok a _ e);exact⟨o,its.toArray,n,h1,h2,h3,by simpa using uD r⟩
theorem rC {ah:List (List Key×V)}(ok:cN P w H h) (e:Rd H a (.dT ah)):ah.length<=sizeLine/\(a==sysModules)=false /\
  ∃xs,KT H ah xs/\h.DictOfH (tupleKind (bz P w)) a xs :=by
 obtain⟨z,y,xs,r,o,es,ep,h1,h2,h3,h4,h5⟩:=(show ObjOk P w H h a (.dT ah) from Ih ok e);refine⟨z,y,xs,r,o,es,ep,h1,h2,h3,h4,fun x hx=>?_,h5⟩
 have all:∀{l:List (List Key×V)} {m:List (List Key×ag×ap)},KT H l m->∀x∈m,(tupleKind (bz P w)).is h x.1 x.2.1 :=by
  intro l m q;induction q with
  |nil=>intro x hx;exact nomatch hx
  | @cons p q ps qs hq t ih=>
   intro x hx;rcases l8.mp hx with e|hx
   ·subst e;exact ll ok (by rw[<- hq.1];exact hq.2.1)
   ·exact ih x hx
 exact all r x hx
theorem Ij {ah:List (List Key×V)}(ok:cN P w H h) (e:H a=some (.dT ah)):ah.length<=sizeLine/\(a==sysModules)=false /\
  ∃xs,KT H ah xs/\h.DictOfH (tupleKind (bz P w)) a xs:=rC ok (.inl e)
end
def qd (H:Hp) (a:ag) (y:V) (r:Option V):Prop:=
 (∃ah k,Rd H a (.dK ah)/\y=kV k/\r=iR ah k)\/∃ah k b,Rd H a (.dT ah)/\y=.ref b/\H b=some (.tup (k.map kV))/\r=iR ah k
def ND (H:Hp) (a:ag) (y v:V) (H':Hp):Prop:=
 (∃ah k,H a=some (.dK ah)/\y=kV k/\ah.length<sizeLine/\H'=upd H a (.dK (putK ah k v))) \/
 ∃ah k b,H a=some (.dT ah)/\y=.ref b/\H b=some (.tup (k.map kV))/\ah.length<sizeLine/\H'=upd H a (.dT (putK ah k v))
section
variable {X:Cx}{pins:List (ag×lc)}{σ:St}{H:Hp}{s:ba}{a:ag}{y v:V}{u r:ap}{o:Option V}{A:rb}{E:ap->ba->Prop}
theorem Inv.big (I:Inv X pins σ H s):sysModules<s.heap.objs.size :=by
 have h:mainGlobals<s.heap.objs.size:=(I.mod.glob.keeps I.bk).lt;exact ZD (by decide) h
theorem Dl {Q:ap->ba->Prop}(hu:A.units+1<cLine) (I:Inv X pins σ H s) (g:qd H a y (some v)) (ry:RelV y u) (h:∀w' s',Inv X pins σ H s'->RelV v w'->Q w' s') :
  wpAny (model X.prog X.w) A (getItem (.ref a) u) Q E s :=by
 rcases g with ⟨ah,k,e,ey,l⟩|⟨ah,k,b,e,ey,eb,l⟩
 ·subst ey;obtain⟨z,hd,vs,rel,dd⟩:=oO I.hok e;obtain⟨w',hw,jy⟩:=jv.some_of (v:=v) (o:=valueAt vs k) (by rw[l];exact rel.val k)
  exact wpAny_getItem_of (oN ry) dd.mapOf hw (h w' _ (I.tok _) jy)
 ·subst ey;cases (show u=li b from ry);obtain⟨z,hd,xs,rel,dd⟩:=rC I.hok e;obtain⟨w',hw,jy⟩:=jv.some_of (v:=v) (o:=(atKey xs k).map (·.2)) (by rw[l];exact rel.val k)
  obtain⟨p,hp,Ik⟩:=ma.mp hw;refine wpAny_getItem_heap (Yb hu) (ll I.hok eb) dd hp ?_;rw[Ik];exact h w' _ (I.tok _) jy
theorem TZ {Q:ap->ba->Prop}(hu:A.units+1<cLine) (I:Inv X pins σ H s) (g:qd H a y o) (ry:RelV y u) (h:∀s',Inv X pins σ H s'->Q (.bool o.isSome) s') :
  wpAny (model X.prog X.w) A (compareOp .In u (.ref a)) Q E s :=by
 rcases g with ⟨ah,k,e,ey,l⟩|⟨ah,k,b,e,ey,eb,l⟩
 ·subst ey;obtain⟨z,hd,vs,rel,dd⟩:=oO I.hok e;refine wpAny_in_of (oN ry) hd dd.mapOf ?_;rw[<- (rel.val k).iG,<- l];exact h _ (I.tok _)
 ·subst ey;cases (show u=li b from ry);obtain⟨z,hd,xs,rel,dd⟩:=rC I.hok e;refine wpAny_in_heap (Yb hu) (ll I.hok eb) hd dd ?_;have q:=(rel.val k).iG;rw[XA]at q;rw[<- q,<- l];exact h _ (I.tok _)
theorem JY {Q:ap->ba->Prop}(hu:A.units+1<cLine) (I:Inv X pins σ H s) (g:qd H a y o) (ry:RelV y u) (h:∀s',Inv X pins σ H s'->Q (.bool (!o.isSome)) s') :
  wpAny (model X.prog X.w) A (compareOp .NotIn u (.ref a)) Q E s :=by
 rcases g with ⟨ah,k,e,ey,l⟩|⟨ah,k,b,e,ey,eb,l⟩
 ·subst ey;obtain⟨z,hd,vs,rel,dd⟩:=oO I.hok e;refine wpAny_notIn_of (oN ry) hd dd.mapOf ?_;rw[<- (rel.val k).iG,<- l];exact h _ (I.tok _)
 ·subst ey;cases (show u=li b from ry);obtain⟨z,hd,xs,rel,dd⟩:=rC I.hok e;refine wpAny_notIn_heap (Yb hu) (ll I.hok eb) hd dd ?_;have q:=(rel.val k).iG;rw[XA]at q;rw[<- q,<- l];exact h _ (I.tok _)
theorem oP {h':ii}{t':Nat}{ob:HO}(I:Inv X pins σ H s) (mu:B9 (H a)) (hs:zn a s.heap h') (he:∃q,h'.get? a=some q) (new:ObjOk X.prog X.w (upd H a ob) h' a ob) :
  Inv X pins σ (upd H a ob) {s with heap:=h',toks:=t'}:=
 I.write (x:=a) (e:=a) mu (.inl rfl) (fun b q hb z=>(hs.2 b hb).trans z) he new
theorem Dm {P:ff}{w:hX}{H':Hp}{h':ii}{ah:List (Key×V)}{vs:List (Key×ap)}(z:ah.length<=sizeLine) (hd:(a==sysModules)=false) (rel:KV ah vs) (dd:h'.DictOf (bz P w) a vs) :
  ObjOk P w H' h' a (.dK ah):=⟨z,hd,vs,rel,dd⟩
theorem Dn {H':Hp}{Q:Unit->ba->Prop}(hu:A.units+1<cLine) (I:Inv X pins σ H s) (g:ND H a y v H') (ry:RelV y u) (rv:RelV v r) (h:∀s',Inv X pins σ H' s'->Q () s') :
  wpAny (model X.prog X.w) A (setItem (.ref a) u r) Q E s :=by
 rcases g with ⟨ah,k,e,ey,l,eH⟩|⟨ah,k,b,e,ey,eb,l,eH⟩
 ·subst ey eH;obtain⟨z,hd,vs,rel,dd⟩:=Ii I.hok e;have hz:vs.length<=sizeLine :=by rw[<- rel.length];exact z
  have hl:(putK ah k v).length<=sizeLine :=by have:=kZ ah k v;omega
  refine wpAny_setItem_pairs (hsz:=hz) (oN ry) dd fun h' rD hs=>h _ ?_
  have he:∃q,h'.get? a=some q:=let ⟨q,_,_,hq,_⟩:=rD;⟨q,hq⟩;exact oP I (by rw[e];exact NE) hs he (Dm hl hd (rel.put k rv) rD)
 ·subst ey eH;cases (show u=li b from ry);obtain⟨z,hd,xs,rel,dd⟩:=Ij I.hok e;have hz:xs.length<=sizeLine :=by rw[<- P3 rel];exact z
  have hl:(putK ah k v).length<=sizeLine :=by have:=kZ ah k v;omega
  refine wpAny_setItem_heap (hsz:=hz) (Yb hu) (ll I.hok eb) dd fun h' rD hs=>h _ ?_
  obtain⟨q,es,ep,hq,h2,h3,h4,_,h5⟩:=rD;refine oP I (by rw[e];exact NE) hs ⟨q,hq⟩ ⟨hl,hd,_,(rel.put k eb rv).keeps fun c ys ec=>?_,q,es,ep,hq,h2,h3,h4,h5⟩
  rw[ae (An ec e (fun z=>nomatch z))]
  exact ec
end
section
variable {X:Cx}{pins:List (ag×lc)}{σ:St}{H:Hp}{s:ba}{a:ag}{ah:List (Key×V)}{k:Key}{u:ap}{A:rb}{E:ap->ba->Prop}
theorem QM {Q:ap->ba->Prop}(I:Inv X pins σ H s) (e:Rd H a (.dK ah)) (h:∀t s',Inv X pins σ H s'->Q (.int ah.length t) s'):wpAny (model X.prog X.w) A (call (.builtin "len") [.ref a]) Q E s :=by
 obtain⟨z,hd,vs,rel,dd⟩:=oO I.hok e;refine call_len_dict hd dd (by rw[<- rel.length];rw[Lo]at z;omega) ?_
 rw[<- rel.length];exact h _ _ (I.tok _)
end
def Gj (i:dL):Prop:=∀ov iv,subscripted i false ov iv=operate [ov,iv] (getItem ov iv)
theorem JZ {prog:ff}{w:hX}{A:rb}{E:ap->ba->Prop}{s:ba}{env:Op}{value slice:dL}{pos:ww}{T id:String}{Q:ap->ba->Prop}
  (hl:typeLookup (.type T) "__getitem__" = pure (some (.builtin id))) (hs:Gj slice)
  (h:wpAny (model prog w) A (eval value env) (fun o aw=>wpAny (model prog w) A (eval slice env) (fun i e8=>e8.TypeIs o T/\wpAny (model prog w) A (getItem o i) Q E e8) E aw) E s) :
  wpAny (model prog w) A (eval (.Subscript value slice pos) env) Q E s :=by
 refine Subscript_ (on h (fun o aw jF=>on jF (fun i e8 Gk=>?_) fun _ _ x=>x) fun _ _ x=>x)
 obtain⟨hT,Gk⟩:=Gk;unfold subscriptTail;refine ac ?_;rw[getitemInPython_of_ne hT.not_modules];refine ac (X3 hT hl ?_);have fin:wpAny (model prog w) A (subscripted slice false o i) (fun r kU=>wpAny (model prog w) A (letTemporaryGo value o r>>=fun _=>pure r) Q E kU) E e8 :=by
  rw[hs o i];exact wpAny_operating (on Gk (fun r kU T4=>ac (wpAny_letTemporaryGo (bi T4))) fun _ _ x=>x)
 first
  |exact bi (ac fin)
  |exact ac (bi (ac fin))
  |exact ac fin
theorem yC {X:Cx}{pins:List (ag×lc)}{σ:St}{H:Hp}{s:ba}{a:ag}{y:V}{o:Option V}(I:Inv X pins σ H s) (g:qd H a y o):s.TypeIs (.ref a) "dict" := by
 rcases g with ⟨ah,k,e,_,_⟩|⟨ah,k,b,e,_,_,_⟩
 ·obtain⟨_,_,vs,_,dd⟩:=oO I.hok e;exact dd.typeIs
 ·obtain⟨_,_,xs,_,dd⟩:=rC I.hok e;exact dd.typeIs
def QN (td ty:TE):TE:=fun σ H Q=>td σ H fun x H1=>ty σ H1 fun y H2=>∃a v,x=.ref a/\qd H2 a y (some v)/\Q v H2
def QO (td ty tv:TE):TS:=fun D σ H=>tv σ H fun v H1=>td σ H1 fun x H2=>ty σ H2 fun y H3=>∃a H4,x=.ref a/\ND H3 a y v H4/\D.nx σ H4
section
variable {X:Cx}{o i e value:dL}{pos pos' W2:ww}{td ty tv:TE}
theorem J0 (hu:X.A.units+1<cLine) (ho:PE X o td) (hi:PE X i ty) (hs:Gj i):PE X (.Subscript o i pos) (QN td ty) :=by
 refine⟨?_⟩;intro pins s σ H Q I h;refine JZ PySem.F.slot_dict_getitem.lookup hs (thn (ho pins s σ H _ I h) fun u s1 ⟨x,H1,I1,rx,q1⟩=>thn (hi pins s1 σ H1 _ I1 q1) fun iv s2 ⟨y,H2,I2,ry,a,v,ex,g,q2⟩=>?_)
 subst ex;obtain rfl:u=li a:=rx;exact⟨yC I2 g,Dl hu I2 g ry fun w' s3 I3 jy=>⟨v,H2,I3,jy,q2⟩⟩
theorem J4 (hu:X.A.units+1<cLine) (ho:PE X o td) (hi:PE X i ty) (hv:PE X value tv) (hs:swapsWith value (some (.Subscript o i pos')) pos.line X.env=pure false) :
  PS X (.Assign [.Subscript o i pos'] value pos) (QO td ty tv) :=by
 refine⟨?_⟩;intro pins s σ H D I h;refine wpAny_Assign_Subscript (thn (hv pins s σ H _ I h) fun r s1 ⟨v,H1,I1,rv,q1⟩=>thn (ho pins s1 σ H1 _ I1 q1) fun u s2 ⟨x,H2,I2,rx,q2⟩=>thn (hi pins s2 σ H2 _ I2 q2) fun iv s3 ⟨y,H3,I3,ry,a,H4,ex,g,q3⟩=>?_) hs
 subst ex;obtain rfl:u=li a:=rx;exact Dn hu I3 g ry rv fun s4 I4=>⟨σ,H4,I4,q3⟩
end
theorem Gm {P:ff}{w:hX}{H:Hp}(h:ii) (hb:sysModules<h.objs.size):ObjOk P w H (h.push {cls:=.type "dict",data:=.dict #[]}) h.objs.size (.dK []):=
 ⟨nw _,beq_eq_false_iff_ne.mpr (wp (l5 hb)),[],.nil,ii.DictOf.new h⟩
theorem Gp {P:ff}{w:hX}{H:Hp}(h:ii) (hb:sysModules<h.objs.size):ObjOk P w H (h.push {cls:=.type "dict",data:=.dict #[]}) h.objs.size (.dT []):=
 ⟨nw _,beq_eq_false_iff_ne.mpr (wp (l5 hb)),[],.nil,_,#[],0,ij _ rfl,⟨rfl,rfl,rfl⟩,rfl,rfl,List.nodup_nil⟩
def wI:List (TE×TE)->St->Hp->(List (V×V)->Hp->Prop)->Prop
 | [],_,H,Q=>Q [] H
 |(tk,tv)::r,σ,H,Q=>tk σ H fun x H1=>tv σ H1 fun y H2=>wI r σ H2 fun ps H3=>Q ((x,y)::ps) H3
abbrev VV:List (V×V)->List (ap×ap)->Prop:=AM fun p q=>RelV p.1 q.1/\RelV p.2 q.2
def PPs (X:Cx) (pos:ww) (keys:List (Option dL)) (values:List dL) (rE:List (TE×TE)):Prop:=
 ∀(pins:List (ag×lc)) (s:ba) (σ:St) (H:Hp) (Q:List (V×V)->Hp->Prop),Inv X pins σ H s->wI rE σ H Q->
  wpAny (model X.prog X.w) X.A (evalPairs (pairTrees keys values X.env pos)) (fun vs s'=>∃ps H',Inv X pins σ H' s'/\VV ps vs/\Q ps H') X.xe s
theorem J5 {X:Cx}{pos:ww}:PPs X pos [] [] []:=fun pins s σ H Q I h=>pairTrees_nil_walk ⟨[],H,I,.nil,h⟩
theorem Gq {X:Cx}{pos:ww}{k v:dL}{ks:List (Option dL)}{vs:List dL}{tk tv:TE}{rE:List (TE×TE)}(hk:PE X k tk) (hv:PE X v tv) (hr:PPs X pos ks vs rE) :
  PPs X pos (some k::ks) (v::vs) ((tk,tv)::rE):=fun pins s σ H Q I h=>
 pairTrees_cons_walk (thn (hk pins s σ H _ I h) fun u s1 ⟨x,H1,I1,rx,q1⟩=>thn (hv pins s1 σ H1 _ I1 q1) fun w2 s2 ⟨y,H2,I2,ry,q2⟩=>
  thn (hr pins s2 σ H2 _ I2 q2) fun ws s3 ⟨ps,H3,I3,rel,q3⟩=>⟨(x,y)::ps,H3,I3,.cons ⟨rx,ry⟩ rel,q3⟩)
def lq (ah more:List (Key×V)):List (Key×V):=more.foldl (fun acc kv=>putK acc kv.1 kv.2) ah
theorem KV.merge:∀{more:List (Key×V)}{rs:List (Key×ap)}{ah:List (Key×V)}{vs:List (Key×ap)},KV more rs->KV ah vs->KV (lq ah more) (merged vs rs) :=by
 intro more rs ah vs r;unfold KV at r;induction r generalizing ah vs with
 |nil=>intro q;exact q
 | @cons p q ps qs h t ih=>
  intro r0;have e:KV (putK ah p.1 p.2) (stored vs q.1 q.2) :=by
   have:=r0.put p.1 h.2;rw[<- h.1];exact this
  exact ih e
theorem m8:∀(more ah:List (Key×V)),(lq ah more).length<=ah.length+more.length
 | [],ah=>by show ah.length<=ah.length+0;omega
 |p::r,ah=>by
          have h1:=m8 r (putK ah p.1 p.2);have h2:=kZ ah p.1 p.2;show (lq (putK ah p.1 p.2) r).length<=_;rw[AS];omega
theorem rF {P:ff}{w:hX}:∀{ah:List (Key×V)}{ws:List (ap×ap)},VV (ah.map fun kv=>(kV kv.1,kv.2)) ws->∃rs,Carries (bz P w) ws rs/\KV ah rs
 | [],_,r=>by rw[Lu]at r;cases r;exact⟨[],NE,.nil⟩
 |p::ah,_,r=>by
          rw[ss]at r;cases r with
          | @cons a b as bs h t=>
           obtain⟨rs,c,q⟩:=rF (P:=P) (w:=w) t;obtain⟨b1,b2⟩:=b;exact⟨(p.1,b2)::rs,⟨oN h.1,rfl,c⟩,.cons ⟨rfl,h.2⟩ q⟩
def QP (rE:List (TE×TE)):TE:=fun σ H Q=>∀p,H p=none->wI rE σ (upd H p (.dK [])) fun ps H2=>H2 p=some (.dK [])/\∃ah:List (Key×V),ps=ah.map (fun kv=>(kV kv.1,kv.2))/\ah.length<=15/\Q (.ref p) (upd H2 p (.dK (lq [] ah)))
theorem J6 {X:Cx}{pos:ww}{keys:List (Option dL)}{values:List dL}{rE:List (TE×TE)}(h:PPs X pos keys values rE) (eQ:keys.all (·.isSome)=true) (hl:keys.length=values.length) (h0:keys≠[])
  (Vd:keys.length<=15):PE X (.Dict keys values pos) (QP rE) :=by
 refine⟨?_⟩;intro pins s σ H Q I q;have hn:=I.hok.fresh (ce s.heap.objs.size);have I1:=I.laid (a:=s.heap.objs.size) (o:=.dK []) (h':=s.heap.push {cls:=.type "dict",data:=.dict #[]}) (t':=s.toks) (fun _ _ q=>br _ q) (ce _) (Gm s.heap I.big)
 refine wpAny_Dict_walk (knd:=bz X.prog X.w) eQ hl h0 Vd (thn (h pins _ σ _ _ I1 (q _ hn)) fun ws s2 ⟨ps,H2,I2,rel,e,ah,ep,lk,q2⟩=>?_)
 subst ep;obtain⟨rs,c,rk⟩:=rF (P:=X.prog) (w:=X.w) rel;obtain⟨z,hd,Dp,r0,dd⟩:=Ii I2.hok e;cases r0;refine⟨rs,c,dd,fun h' rD hs=>⟨.ref s.heap.objs.size,_,?_,rfl,q2⟩⟩
 have hz:(lq [] ah).length<=sizeLine :=by
  have h1:=m8 ah [];rw[Pv]at h1;rw[Lo];omega
 have he:∃q,h'.get? s.heap.objs.size=some q:=let ⟨q,_,_,hq,_⟩:=rD;⟨q,hq⟩;exact oP I2 (by rw[e];exact NE) hs he (Dm hz hd (rk.merge .nil) rD)
structure M1 (X:Cx) (o:dL) (m:bv) (apos:ww) (e:dL) (aM:ww):Prop where
 base:attributeBase o m X.env (eval o X.env)=eval o X.env
 few:((backTo aM (starEach [e] X.env)).all (fun x => !x.1) && (backToKw aM (keywordEach [] X.env)).all (fun x=>x.1.isSome)
  && decide (([e]:List dL).length+([]:List SI).length+(if ([]:List SI).isEmpty then 0 else 1)<30))=true
 line:(apos.endLine==aM.line)=true
 trees:backTo aM (starEach [e] X.env)=[(false,eval e X.env)]
structure M2 (X:Cx) (o:dL) (m:bv) (apos:ww) (e f:dL) (aM:ww):Prop where
 base:attributeBase o m X.env (eval o X.env)=eval o X.env
 few:((backTo aM (starEach [e,f] X.env)).all (fun x => !x.1) && (backToKw aM (keywordEach [] X.env)).all (fun x=>x.1.isSome)
  && decide (([e,f]:List dL).length+([]:List SI).length+(if ([]:List SI).isEmpty then 0 else 1)<30))=true
 line:(apos.endLine==aM.line)=true
 trees:backTo aM (starEach [e,f] X.env)=[(false,eval e X.env),(false,eval f X.env)]
theorem jN {κ:Type} [BEq κ] [LawfulBEq κ]:∀(ks U:List κ),ks.Nodup->(∀k∈ks,k∈U)->ks.length<=U.length
 | [],_,_,_=>nw _
 |k::ks,U,nd,h=>by
          have hn:=Ll.mp nd;have hk:=h k i4;have ih:=jN ks (U.erase k) hn.2 fun x hx=>(List.mem_erase_of_ne (fun e=>hn.1 (by rw[<- e];exact hx))).mpr (h x (f8 _ hx))
          rw[List.length_erase_of_mem hk]at ih;have:=Xx hk;rw[AS];omega
def Ve (mask:Nat) (h:Int):Ye:={j:=Cn h % (mask+1),more:=NJ mask (Cn h % (mask+1)) - Cn h % (mask+1),i:=Cn h % (mask+1),perturb:=Cn h,dummy:=none}
def wJ (mask:Nat) (p:Ye):Ye:=
 if p.more > 0 then {p with j:=p.j+1,more:=p.more - 1} else
 let (i,perturb):=Zl mask p.i p.perturb
 {p with j:=i,more:=NJ mask i - i,i,perturb}
def bB (mask:Nat) (h:Int):Nat->Ye
 |0=>Ve mask h
 |k+1=>wJ mask (bB mask h k)
def aT (mask:Nat) (h:Int):Nat->Nat×Nat
 |0=>(Cn h % (mask+1),Cn h)
 |T+1=>Zl mask (aT mask h T).1 (aT mask h T).2
def cV (mask i:Nat):Nat:=NJ mask i - i
def fN (mask:Nat) (h:Int):Nat->Nat
 |0=>0
 |T+1=>fN mask h T+cV mask (aT mask h T).1+1
theorem J7 (mask i:Nat):cV mask i<=9 :=by unfold cV NJ;split<;>omega
theorem zB {mask i:Nat}(h:i<=mask):i+cV mask i<=mask :=by unfold cV NJ;split<;>omega
theorem Dq (mask:Nat) (h:Int):∀T,fN mask h T<=10 * T
 |0=>ce _
 |T+1=>by
          have:=Dq mask h T;have:=J7 mask (aT mask h T).1;show fN mask h T+_+1<=_;omega
theorem sU {mask:Nat}{h:Int}{T:Nat}(e:bB mask h (fN mask h T)={j:=(aT mask h T).1,more:=cV mask (aT mask h T).1,i:=(aT mask h T).1,perturb:=(aT mask h T).2,dummy:=none}) :
  ∀m,m<=cV mask (aT mask h T).1->bB mask h (fN mask h T+m)={j:=(aT mask h T).1+m,more:=cV mask (aT mask h T).1 - m,i:=(aT mask h T).1,perturb:=(aT mask h T).2,dummy:=none}
 |0,_=>e
 |m+1,hm=>by
          have ih:=sU e m (by omega)
          show wJ mask (bB mask h (fN mask h T+m))=_;rw[ih];unfold wJ;rw[if_pos (show cV mask (aT mask h T).1 - m > 0 by omega)]
          have e1:cV mask (aT mask h T).1 - m - 1=cV mask (aT mask h T).1 - (m+1) :=by omega
          simp only[e1,Nat.add_assoc]
theorem sV {mask:Nat}{h:Int}:∀T,bB mask h (fN mask h T)={j:=(aT mask h T).1,more:=cV mask (aT mask h T).1,i:=(aT mask h T).1,perturb:=(aT mask h T).2,dummy:=none}
 |0=>rfl
 |T+1=>by
          have ih:=sU (sV (mask:=mask) (h:=h) T) _ (ce _);show wJ mask (bB mask h (fN mask h T+cV mask (aT mask h T).1))=_;rw[ih];unfold wJ;rw[if_neg (by show ¬ (cV mask (aT mask h T).1 - cV mask (aT mask h T).1 > 0);omega)]
          rfl
theorem rG {mask:Nat}{h:Int}{T m:Nat}(hm:m<=cV mask (aT mask h T).1):(bB mask h (fN mask h T+m)).j=(aT mask h T).1+m :=by rw[sU (sV T) m hm]
theorem wK (mask:Nat) (h:Int):∀k,∃T m,k=fN mask h T+m/\m<=cV mask (aT mask h T).1
 |0=>⟨0,0,rfl,nw _⟩
 |k+1=>by
          obtain⟨T,m,e,hm⟩:=wK mask h k;by_cases z:m<cV mask (aT mask h T).1
          ·exact⟨T,m+1,by omega,z⟩
          ·refine⟨T+1,0,?_,nw _⟩;show k+1=fN mask h T+cV mask (aT mask h T).1+1+0;omega
theorem zD (mask:Nat) (h:Int):∀k,(bB mask h k).dummy=none
 |0=>rfl
 |k+1=>by
          have ih:=zD mask h k;show (wJ mask (bB mask h k)).dummy=none;unfold wJ;split<;>exact ih
def wL (mask:Nat):Nat->Nat->Nat
 |0,i=>i
 |m+1,i=>(wL mask m i * 5+1) % (mask+1)
theorem sW {mask:Nat}{h:Int}:∀T,(aT mask h T).1<=mask
 |0=>Nat.lt_succ_iff.mp (XO _ (Nat.succ_pos _))
 |T+1=>Nat.lt_succ_iff.mp (XO _ (Nat.succ_pos _))
theorem NF (mask:Nat) (h:Int) (k:Nat):(bB mask h k).j<=mask :=by
 obtain⟨T,m,rfl,hm⟩:=wK mask h k;rw[rG hm];have:=zB (sW (mask:=mask) (h:=h) T);omega
theorem wM {mask:Nat}{h:Int}:∀T,(aT mask h T).2=Cn h / 32 ^ T
 |0=>by show Cn h=_;simp
 |T+1=>by
          show (aT mask h T).2 / 32=_;rw[wM T,Nat.div_div_eq_div_mul,Nat.pow_succ]
theorem Gr (h:Int):Cn h<2 ^ 64 :=by
 unfold Cn;have h1:=WI h (show (2 ^ 64:Int)≠0 by decide)
 have h2:=Zc h (show (0:Int)<2 ^ 64 by decide)
 omega
theorem wN {mask:Nat}{h:Int}:∀m,aT mask h (13+m)=(wL mask m (aT mask h 13).1,0)
 |0=>by
          have e:(aT mask h 13).2=0 :=by
           rw[wM];have:=Gr h;exact Nat.div_eq_of_lt (ZD this (by decide))
          exact Prod.ext rfl e
 |m+1=>by
          show Zl mask (aT mask h (13+m)).1 (aT mask h (13+m)).2=_;rw[wN m];unfold Zl;simp[wL]
def Full (mask:Nat):Prop:=∀i,i<=mask->∀j,j<=mask->∃m,m<=mask/\wL mask m i=j
theorem zE {mask:Nat}(h:((lw (mask+1)).all fun i=>(lw (mask+1)).all fun j=>(lw (mask+1)).any fun m=>wL mask m i==j)=true):Full mask:=fun i hi j hj=>by
 have h1:=xp.mp h i (u4.mpr (by omega))
 have h2:=xp.mp h1 j (u4.mpr (by omega))
 obtain⟨m,hm,e⟩:=List.any_eq_true.mp h2;exact⟨m,by have:=u4.mp hm;omega,by simpa using e⟩
theorem QR:Full 7:=zE (by decide +kernel)
theorem NI:Full 31:=zE (by decide +kernel)
theorem rH {mask:Nat}(F:Full mask) (h:Int) {j:Nat}(hj:j<=mask):∃T,T<=13+mask/\(aT mask h T).1=j :=by
 obtain⟨m,hm,e⟩:=F _ (sW 13) j hj;exact⟨13+m,by omega,by rw[wN];exact e⟩
theorem NK {p:Nat->Prop}:∀{n:Nat},p n->∃k,k<=n/\p k/\∀k',k'<k->¬ p k'
 |n,h=>by
          induction n using X2 with
          |ind n ih=>
           by_cases z:∃k',k'<n/\p k'
           ·obtain⟨k',hk,hp⟩:=z;obtain⟨k,h1,h2,h3⟩:=ih k' hk hp;exact⟨k,by omega,h2,h3⟩
           ·exact⟨n,ce _,h,fun k' hk hp=>z ⟨k',hk,hp⟩⟩
theorem NM {mask:Nat}(F:Full mask) (h:Int) {iZ:Nat->Prop}{j:Nat}(hj:j<=mask) (e:¬ iZ j):∃K,K<=10 * (13+mask)/\¬ iZ (bB mask h K).j/\∀k,k<K->iZ (bB mask h k).j :=by
 obtain⟨T,hT,eT⟩:=rH F h hj;have e0:¬ iZ (bB mask h (fN mask h T)).j :=by rw[sV,eT];exact e
 obtain⟨K,h1,h2,h3⟩:=NK (p:=fun k=>¬ iZ (bB mask h k).j) e0
 have:=Dq mask h T;exact⟨K,by omega,h2,fun k hk=>Sk.mp (h3 k hk)⟩
def zF (mask:Nat) (iZ:Nat->Prop) (h:Int) (j:Nat):Prop:=∃k,(bB mask h k).j=j/\∀k',k'<k->iZ (bB mask h k').j
theorem zF.mono {mask:Nat}{iZ NN:Nat->Prop}{h:Int}{j:Nat}(x:zF mask iZ h j) (m:∀j,iZ j->NN j):zF mask NN h j:=let ⟨k,e,f⟩:=x;⟨k,e,fun k' hk=>m _ (f k' hk)⟩
def fF (t:r9) (j:Nat):Prop:=j∈t.place.toList
structure GoodT (w:hX) (t:r9) (es:Array (Int×ap)):Prop where
 ok:eV w t
 full:Full t.mask
 odd:t.mask % 2=1
 le:∀j∈t.place.toList,j<=t.mask
 sz:t.place.size=es.size
 room:es.size<t.mask
 wk:∀q∈t.place.toList.zip es.toList,zF t.mask (fF t) q.2.1 q.1
theorem nQ {w:hX}{t:r9}(h:eV w t) {j:Nat}:(∃i,t.slot j=.live i/\t.place[i]?=some j)\/(t.slot j=.empty/\¬ fF t j) :=by
 unfold r9.slot;dsimp only;by_cases z:t.place[mo t.place j]?=some j
 ·left;refine⟨mo t.place j,?_,z⟩;rw[if_pos (by rw[z];simp)]
 ·right;rw[if_neg (by simpa using z),h.dum,zk]
  refine⟨by simp,fun m=>?_⟩
  obtain⟨i,hi,e⟩:=List.mem_iff_getElem.mp m;have dJ:i<t.place.size :=by simpa using hi
  have e':t.place[i]=j :=by simpa using e
  obtain⟨b0,b1,b2⟩:=jJ j h.ris;generalize mo t.place j=p at *
  by_cases h1:i<p
  ·have:=b1 i dJ h1;omega
  ·by_cases h2:i=p
   ·subst h2;exact z (by rw[tz dJ,e'])
   ·have q:=jI h.ris (show p<i by omega) dJ
    have:=b2 p (by omega) (ce _)
    omega
theorem Gs {w:hX}{t:r9}(h:eV w t) {j i:Nat}(e:t.slot j=.live i):t.place[i]?=some j :=by
 rcases nQ h (j:=j) with ⟨i',e1,e2⟩|⟨e1,_⟩
 ·rw[e]at e1;cases e1;exact e2
 ·rw[e]at e1;cases e1
theorem wO {w:hX}{t:r9}(h:eV w t) {j:Nat}(o:fF t j):∃i,t.slot j=.live i/\t.place[i]?=some j :=by
 rcases nQ h (j:=j) with x|⟨_,n⟩
 ·exact x
 ·exact absurd o n
theorem rJ {w:hX}{t:r9}(h:eV w t) {j:Nat}(o:¬ fF t j):t.slot j=.empty :=by
 rcases nQ h (j:=j) with ⟨i,_,e⟩|⟨e,_⟩
 ·exfalso
  exact o (by have:=YJ.mpr (YF e);exact this)
 ·exact e
theorem uE {w:hX}{t:r9}(h:eV w t) {hashAt:Nat->Int}{hh:Int}{K:Nat}(hK:¬ fF t (bB t.mask hh K).j) (hb:∀k,k<K->fF t (bB t.mask hh k).j):∀(fuel k0:Nat),k0<=K->K - k0<fuel->
  (∃k i,k0<=k/\k<K/\t.slot (bB t.mask hh k).j=.live i/\hashAt i=hh/\(∀k' i',k0<=k'->k'<k->t.slot (bB t.mask hh k').j=.live i'->hashAt i'≠hh)/\Zs t hashAt hh fuel (bB t.mask hh k0)=some (.candidate (bB t.mask hh k).j i (bB t.mask hh (k+1)))) \/
  ((∀k' i',k0<=k'->k'<K->t.slot (bB t.mask hh k').j=.live i'->hashAt i'≠hh)/\Zs t hashAt hh fuel (bB t.mask hh k0)=some (.empty (bB t.mask hh K).j none))
 |0,k0,_,hf=>by omega
 |fuel+1,k0,hk,hf=>by
          unfold Zs;by_cases e:k0=K
          ·subst e;right;refine⟨fun k' i' a b=>by omega,?_⟩
           rw[rJ h hK];dsimp only;rw[zD]
          ·obtain⟨i,e1,e2⟩:=wO h (hb k0 (by omega))
           rw[e1];dsimp only;by_cases eh:hashAt i=hh
           ·left;refine⟨k0,i,ce _,by omega,e1,eh,fun k' i' a b=>by omega,?_⟩
            rw[if_pos (by simpa using eh)]
            rfl
           ·rw[if_neg (by simpa using eh)]
            have here:∀i',t.slot (bB t.mask hh k0).j=.live i'->hashAt i'≠hh:=fun i' z=>by rw[e1]at z;cases z;exact eh
            rcases uE h hK hb fuel (k0+1) (by omega) (by omega) with ⟨k,i',a,b,c,d,f,g⟩|⟨f,g⟩
            ·left;refine⟨k,i',by omega,b,c,d,fun k' i2 a2 b2=>?_,g⟩
             by_cases z:k'=k0
             ·subst z;exact here i2
             ·exact f k' i2 (by omega) b2
            ·right;refine⟨fun k' i2 a2 b2=>?_,g⟩
             by_cases z:k'=k0
             ·subst z;exact here i2
             ·exact f k' i2 (by omega) b2
theorem nR {α:Type}(xs:Array α) (p:Nat) (v:α):(AC xs p v).toList=xs.toList.take p++[v]++xs.toList.drop p :=by
 unfold AC;simp;exact GE (by simp)
theorem nS {α:Type}(xs:Array α) (p:Nat) (v:α):(AC xs p v).toList.Perm (v::xs.toList) :=by
 rw[nR,On];have:(v::xs.toList)=v::(xs.toList.take p++xs.toList.drop p) :=by rw[List.take_append_drop]
 rw[this];exact List.perm_middle
theorem Dr {α β:Type}(xs:List α) (ys:List β) (p:Nat):(xs.take p).zip (ys.take p)=(xs.zip ys).take p :=by rw[XY,XY,List.take_zipWith]
theorem Du {α β:Type}(xs:List α) (ys:List β) (p:Nat):(xs.drop p).zip (ys.drop p)=(xs.zip ys).drop p :=by rw[XY,XY,List.drop_zipWith]
theorem GoodT.put {w:hX}{t:r9}{es:Array (Int×ap)}(g:GoodT w t es) {hh:Int}{x:ap}{K:Nat}(hK:¬ fF t (bB t.mask hh K).j) (hb:∀k,k<K->fF t (bB t.mask hh k).j) (hle:(bB t.mask hh K).j<=t.mask) (hr:es.size+1<t.mask) :
  GoodT w (t.put (bB t.mask hh K).j).1 (AC es (t.put (bB t.mask hh K).j).2 (hh,x)) :=by
 have em:=rJ g.ok hK;have ok:=g.ok.put em;generalize ej:(bB t.mask hh K).j=j at *
 have mem:∀j',j'∈(t.put j).1.place.toList ↔ j'=j\/j'∈t.place.toList:=fun j'=>by
  have:=(nS t.place (mo t.place j) j).mem_iff (a:=j');rw[l8]at this;exact this
 have Vf:mo t.place j<=t.place.toList.length :=by have:=(jJ j g.ok.ris).1;simpa using this
 have Xg:mo t.place j<=es.toList.length :=by rw[jp,<- g.sz,<- jp];exact Vf
 have s1:∀{α:Type} (xs:Array α) (p:Nat) (v:α),(AC xs p v).size=xs.size+1:=fun xs p v=>by
  have:=(nS xs p v).length_eq;rw[jp,AS,jp]at this;exact this
 refine⟨ok,g.full,g.odd,fun j' Vg=>?_,?_,?_,fun q hq=>?_⟩
 ·rcases (mem j').mp Vg with rfl|z
  ·exact hle
  ·exact g.le j' z
 ·show (AC t.place (mo t.place j) j).size=_;rw[s1,s1,g.sz]
 ·rw[s1];exact hr
 ·have zz:(t.put j).1.place.toList.zip (AC es (t.put j).2 (hh,x)).toList=(t.place.toList.zip es.toList).take (mo t.place j)++[(j,(hh,x))]++(t.place.toList.zip es.toList).drop (mo t.place j) :=by
   show (AC t.place (mo t.place j) j).toList.zip (AC es (mo t.place j) (hh,x)).toList=_;rw[nR,nR,YT (by simp[g.sz]),YT (by simp[g.sz]),Dr,Du]
   rfl
  rw[zz]at hq;have qf:∀j',fF t j'->fF (t.put j).1 j':=fun j' z=>(mem j').mpr (.inr z)
  have old:q∈t.place.toList.zip es.toList->zF t.mask (fF (t.put j).1) q.2.1 q.1:=fun z=>(g.wk q z).mono qf
  rcases EU.mp hq with z|z
  ·rcases EU.mp z with z|z
   ·exact old (List.mem_of_mem_take z)
   ·rw[rf.mp z];exact⟨K,ej,fun k' uy=>qf _ (hb k' uy)⟩
  ·exact old (List.mem_of_mem_drop z)
def fG (o:Array (Option Nat)) (j:Nat):Prop:=o.getD j none≠none
structure nU (mask:Nat) (o:Array (Option Nat)) (hs:List Int):Prop where
 size:o.size=mask+1
 wk:∀j n,o.getD j none=some n->∃hh,hs[n]?=some hh/\zF mask (fG o) hh j
 inj:∀j j' n,o.getD j none=some n->o.getD j' none=some n->j=j'
 sur:∀n,n<hs.length->∃j,j<=mask/\o.getD j none=some n
theorem lY {o:Array (Option Nat)}{mask j:Nat}(hs:o.size=mask+1) (hj:j<=mask):(o.getD j (some 0)).isNone=true ↔ ¬ fG o j :=by
 unfold fG;have hl:j<o.size :=by omega
 simp[NH,hl]
theorem uF {mask:Nat}{o:Array (Option Nat)}{hh:Int}(hs:o.size=mask+1):∀(fuel T:Nat),(∀k,k<fN mask hh T->fG o (bB mask hh k).j)->(∃T',T<=T'/\T'<T+fuel/\¬ fG o (aT mask hh T').1)->
  ∃j k,Xy mask o fuel (aT mask hh T).1 (aT mask hh T).2=some j/\(bB mask hh k).j=j/\j<=mask/\¬ fG o j/\∀k',k'<k->fG o (bB mask hh k').j
 |0,T,_,⟨T',a,b,_⟩=>by omega
 |fuel+1,T,hb,⟨T',a,b,c⟩=>by
          have hi:=sW (mask:=mask) (h:=hh) T;have W3:=zB hi;have er:NJ mask (aT mask hh T).1+1 - (aT mask hh T).1=cV mask (aT mask hh T).1+1 :=by
           have:(aT mask hh T).1<=NJ mask (aT mask hh T).1 :=by unfold NJ;split<;>omega
           unfold cV;omega
          unfold Xy;rw[er];cases e:(lw (cV mask (aT mask hh T).1+1)).find? (fun k=>(o.getD ((aT mask hh T).1+k) (some 0)).isNone) with
          |some m=>
           rw[List.find?_range_eq_some]at e;obtain⟨e1,e2,e3⟩:=e;have hm:=u4.mp e2;refine⟨_,fN mask hh T+m,rfl,rG (by omega),by omega,(lY hs (by omega)).mp e1,fun k' uy=>?_⟩
           by_cases z:k'<fN mask hh T
           ·exact hb k' z
           ·obtain⟨m',rfl⟩:∃m',k'=fN mask hh T+m':=⟨k' - fN mask hh T,by omega⟩
            rw[rG (by omega)]
            have:=e3 m' (by omega)
            refine Sk.mp fun n=>?_
            rw[(lY hs (by omega)).mpr n]at this
            cases this
          |none=>
           dsimp only;rw[List.find?_eq_none]at e;have qf:∀m,m<=cV mask (aT mask hh T).1->fG o ((aT mask hh T).1+m):=fun m hm=>Sk.mp fun n=>e m (u4.mpr (by omega)) ((lY hs (by omega)).mpr n)
           have ne:T'≠T:=fun z=>by
            subst z;exact c (by have:=qf 0 (by omega);rwa [Nat.add_zero]at this)
           refine uF hs fuel (T+1) (fun k hk=>?_) ⟨T',by omega,by omega,c⟩
           have hk:k<fN mask hh T+cV mask (aT mask hh T).1+1:=hk;by_cases z:k<fN mask hh T
           ·exact hb k z
           ·obtain⟨m',rfl⟩:∃m',k=fN mask hh T+m':=⟨k - fN mask hh T,by omega⟩
            rw[rG (by omega)]
            exact qf m' (by omega)
theorem nU.room {mask:Nat}{o:Array (Option Nat)}{hs:List Int}(L:nU mask o hs) (h:hs.length<=mask):∃j,j<=mask/\¬ fG o j :=by
 refine ID fun n=>?_
 have all:∀j,j<=mask->fG o j:=fun j hj=>Sk.mp fun z=>n ⟨j,hj,z⟩
 have nd:((lw (mask+1)).map fun j=>(o.getD j none).getD 0).Nodup :=by
  rw[List.nodup_iff_pairwise_ne,List.pairwise_map];refine XT.imp_of_mem (fun {a b} ha hb fM=>?_) (Xw (n:=mask+1))
  have ha:=u4.mp ha;have hb:=u4.mp hb;obtain⟨x,ex⟩:=Re.mp (all a (by omega))
  obtain⟨y,ey⟩:=Re.mp (all b (by omega))
  rw[ex,ey];intro z;have z:x=y:=z;subst z;have:=L.inj a b x ex ey;omega
 have:=jN _ (lw hs.length) nd fun x hx=>by
  obtain⟨j,hj,rfl⟩:=l6.mp hx;have hj:=u4.mp hj;obtain⟨y,ey⟩:=Re.mp (all j (by omega))
  obtain⟨hh,e,_⟩:=L.wk j y ey;rw[ey];exact u4.mpr (cr.mp e).1
 rw[ci,EN,EN]at this;omega
theorem lr {o:Array (Option Nat)}{j j':Nat}{v:Option Nat}(hj:j<o.size):(o.setIfInBounds j v).getD j' none=if j=j' then v else o.getD j' none :=by
 simp only[Array.getD_eq_getD_getElem?,Array.getElem?_setIfInBounds,hj,if_true];split<;>rfl
theorem nU.snoc {mask:Nat}{o:Array (Option Nat)}{hs:List Int}{hh:Int}{j k:Nat}(L:nU mask o hs) (e:(bB mask hh k).j=j) (hj:j<=mask) (hf:¬ fG o j) (hb:∀k',k'<k->fG o (bB mask hh k').j):nU mask (o.setIfInBounds j (some hs.length)) (hs++[hh]) :=by
 have hl:j<o.size :=by rw[L.size];omega
 have fr:o.getD j none=none:=Sk.mp hf;have iZ:∀j',fG o j'->fG (o.setIfInBounds j (some hs.length)) j':=fun j' z=>by
  unfold fG;rw[lr hl];split
  ·simp
  ·exact z
 have lt:∀j' n,o.getD j' none=some n->n<hs.length:=fun j' n z=>by
  obtain⟨h2,e2,_⟩:=L.wk j' n z;exact(cr.mp e2).1
 refine⟨by rw[Array.size_setIfInBounds,L.size],fun j' n h=>?_,fun a b n ha bJ=>?_,fun n hn=>?_⟩
 ·rw[lr hl]at h;split at h
  ·rename_i z;cases h;subst z;exact⟨hh,by simp,k,e,fun k' uy=>iZ _ (hb k' uy)⟩
  ·obtain⟨h2,e2,w2⟩:=L.wk j' n h;exact⟨h2,by rw[wb (lt j' n h)];exact e2,w2.mono iZ⟩
 ·rw[lr hl]at ha bJ;split at ha
  ·rename_i z;cases ha;split at bJ
   ·rename_i z2;omega
   ·have:=lt b _ bJ;omega
  ·split at bJ
   ·cases bJ;have:=lt a _ ha;omega
   ·exact L.inj a b n ha bJ
 ·rw[xb,Da]at hn;by_cases z:n=hs.length
  ·subst z;exact⟨j,hj,by rw[lr hl,if_pos rfl]⟩
  ·obtain⟨j',a,b⟩:=L.sur n (by omega)
   refine⟨j',a,?_⟩;rw[lr hl,if_neg fun z2=>by subst z2;rw[fr]at b;cases b]
   exact b
theorem NP {mask:Nat}(F:Full mask) (hashes:Array Int) (h:hashes.size<=mask):∃o,Z9 mask hashes=some o/\nU mask o hashes.toList :=by
 unfold Z9;rw[<- Array.foldl_toList];have hl:hashes.toList.length<=mask :=by rw[jp];exact h
 generalize hashes.toList=L at hl
 have key:∀(rest done:List Int) (o:Array (Option Nat)),done++rest=L->nU mask o done->∃o',rest.foldl (init:=some (o,done.length)) (fun acc h=>do
   let (owner,k) <- acc
   let j <- Xy mask owner (OL mask) (Cn h % (mask+1)) (Cn h)
   pure (owner.setIfInBounds j (some k),k+1))=some (o',L.length)/\nU mask o' L:=fun rest=>by
  induction rest with
  |nil=>
   intro done o e I;rw[Ch]at e;subst e;exact⟨o,rfl,I⟩
  |cons hh rest ih=>
   intro done o e I;have hd:done.length+(rest.length+1)=L.length :=by rw[<- e,xb,AS]
   obtain⟨j0,NQ,f0⟩:=I.room (by omega)
   obtain⟨T',nV,Vh⟩:=rH F hh NQ;obtain⟨j,k,e1,e2,e3,e4,e5⟩:=uF (hh:=hh) I.size (OL mask) 0 (fun k hk=>absurd hk (X4 _)) ⟨T',nw _,by unfold OL;omega,by rw[Vh];exact f0⟩
   have e1:Xy mask o (OL mask) (Cn hh % (mask+1)) (Cn hh)=some j:=e1;have:=ih (done++[hh]) (o.setIfInBounds j (some done.length)) (by rw[On];exact e) (I.snoc e2 e3 e4 e5)
   rw[xb,Da]at this;rw[List.foldl_cons];simp only[Option.bind_eq_bind,ZG,e1,Option.pure_def];exact this
 obtain⟨o',e,I⟩:=key L [] (ZT (mask+1) none) rfl ⟨by simp,fun j n z=>by simp[NH]at z,fun a b n z=>by simp[NH]at z,fun n hn=>by simp at hn⟩
 exact⟨o',by rw[show (some (ZT (mask+1) none,0):Option (Array (Option Nat)×Nat))=some (ZT (mask+1) none,([]:List Int).length) from rfl,e];rfl,I⟩
theorem zG {α β:Type}{f:α->Option β}{g:α->β}:∀{l:List α},(∀x∈l,f x=some (g x))->l.filterMap f=l.map g
 | [],_=>rfl
 |x::l,h=>by rw[GS,h x i4,ss,zG fun y hy=>h y (f8 _ hy)]
theorem J8 {w:hX}{mask:Nat}(F:Full mask) (od:mask % 2=1) {es:Array (Int×ap)}(h:es.size<mask) (finger moves:Nat) {led:Bool}(hl:led = !w.params.followText "set-order") (plain:Bool) :
  ∃t order,r9.laid mask finger moves led plain (es.map (·.1))=some (t,order)/\(order.filterMap (es[·]?)).toList.Perm es.toList/\GoodT w t (order.filterMap (es[·]?))/\t.mask=mask :=by
 obtain⟨o,e,L⟩:=NP F (es.map (·.1)) (by rw[Array.size_map];omega)
 unfold r9.laid;rw[e];obtain⟨g,hg⟩:∃g:Nat->Int×ap,g=fun n=>(es[n]?).getD (0,.none):=⟨_,rfl⟩
 have ge:∀n,n<es.size->es[n]?=some (g n):=fun n hn=>by rw[hg];simp[hn]
 have lt:∀j n,o.getD j none=some n->n<es.size:=fun j n z=>by
  obtain⟨hh,e2,_⟩:=L.wk j n z;have:=(cr.mp e2).1;simpa using this
 obtain⟨live,rK⟩:∃live,live=(lw (mask+1)).filterMap fun j=>(o.getD j none).map (j,·):=⟨_,rfl⟩
 have ml:∀j n,(j,n)∈live ↔ j<=mask/\o.getD j none=some n:=fun j n=>by
  rw[rK,X9];constructor
  ·rintro⟨a,ha,e⟩;obtain⟨b,hb,e2⟩:=ma.mp e;cases e2;exact⟨by have:=u4.mp ha;omega,hb⟩
  ·rintro⟨a,b⟩;exact⟨j,u4.mpr (by omega),by rw[b];rfl⟩
 have eo:(((live.map (·.2)).toArray.filterMap (es[·]?))).toList=live.map fun q=>g q.2 :=by
  rw[Array.toList_filterMap,List.filterMap_map];exact zG fun q hq=>ge _ (lt q.1 q.2 ((ml q.1 q.2).mp hq).2)
 have nd:(live.map (·.2)).Nodup :=by
  have e3:live.map (·.2)=(lw (mask+1)).filterMap fun j=>o.getD j none :=by
   rw[rK,List.map_filterMap];congr 1
   funext j
   cases o.getD j none<;>rfl
  rw[e3,List.nodup_iff_pairwise_ne];refine XT.filterMap _ (fun a a' Xh b hb b' bJ z=>?_) (Xw (n:=mask+1))
  subst z;have:=L.inj a a' b hb bJ;omega
 have pr:(live.map (·.2)).Perm (lw es.size):=(List.perm_ext_iff_of_nodup nd Yw).mpr fun n=>by
  rw[l6,u4];constructor
  ·rintro⟨q,hq,rfl⟩;exact lt q.1 q.2 ((ml q.1 q.2).mp hq).2
  ·intro hn;obtain⟨j,a,b⟩:=L.sur n (by simpa using hn)
   exact⟨(j,n),(ml j n).mpr ⟨a,b⟩,rfl⟩
 have yY:(lw es.size).map g=es.toList :=by
  refine RS fun i=>?_
  have e2:es.toList[i]?=es[i]?:=by simp
  rw[db,e2];by_cases hi:i<es.size
  ·rw[GT hi,ge i hi];rfl
  ·rw[ET (by rw[EN];omega),GG (by omega)];rfl
 have pe:(live.map fun q=>g q.2).Perm es.toList :=by
  rw[<- yY];have:=pr.map g;rw[wv]at this;exact this
 have sz:live.length=es.size :=by
  have:=pe.length_eq;rw[ci,jp]at this;exact this
 refine⟨{mask,place:=(live.map (·.1)).toArray,dummies:=#[],finger,led,moves,plain},(live.map (·.2)).toArray,by rw[rK];rfl,by rw[eo];exact pe,?_,rfl⟩
 have NR:((live.map (·.2)).toArray.filterMap (es[·]?)).size=es.size :=by rw[<- jp,eo,ci,sz]
 have iZ:∀j,fG o j->j∈live.map (·.1):=fun j z=>by
  obtain⟨n,en⟩:=Re.mp z;have hj:j<o.size :=by
   refine ID fun c=>?_
   simp[NH,c]at en
  rw[L.size]at hj;exact l6.mpr ⟨(j,n),(ml j n).mpr ⟨by omega,en⟩,rfl⟩
 refine⟨⟨rfl,by rw[rK];exact F4 (fun j=>o.getD j none) _,hl⟩,F,od,fun j hj=>?_,?_,?_,fun q hq=>?_⟩
 ·rw[US]at hj;obtain⟨q,hq,rfl⟩:=l6.mp hj;exact((ml q.1 q.2).mp hq).1
 ·show (live.map (·.1)).toArray.size=_;rw[NR];simp[sz]
 ·rw[NR];exact h
 ·rw[US,eo]at hq;have hz:(live.map (·.1)).zip (live.map fun q=>g q.2)=live.map fun q=>(q.1,g q.2) :=by
   clear rK ml eo nd pr pe sz NR iZ hq
   induction live with
   |nil=>rfl
   |cons a l ih=>rw[ss,ss,ss,Pf,ih]
  rw[hz]at hq;obtain⟨p,hp,rfl⟩:=l6.mp hq;have Ik:=((ml p.1 p.2).mp hp).2;obtain⟨hh,e2,w2⟩:=L.wk p.1 p.2 Ik;have aO:=lt _ _ Ik;have:hh=(g p.2).1 :=by
   rw[Na,Array.getElem?_map,ge _ aO]at e2;exact(l7 e2).symm
  subst this;exact w2.mono fun j z=>by show j∈(live.map (·.1)).toArray.toList;rw[US];exact iZ j z
theorem GoodT.Gu {w:hX}{t:r9}{es:Array (Int×ap)}(g:GoodT w t es) (b:Bool):GoodT w (if b=true then t else {t with plain:=false}) es :=by
 split
 ·exact g
 ·exact⟨⟨g.ok.dum,g.ok.ris,g.ok.led⟩,g.full,g.odd,g.le,g.sz,g.room,g.wk⟩
theorem Ba {w:hX}(finger moves:Nat):GoodT w (.fresh finger moves (!w.params.followText "set-order")) #[]:=
 ⟨⟨rfl,by simp[m4,Y4],rfl⟩,QR,(by decide:7 % 2=1),fun j hj=>by simp[Y4]at hj,rfl,by simp[Y4],fun q hq=>by simp[Y4]at hq⟩
theorem GoodT.fits {w:hX}{t:r9}{es:Array (Int×ap)}(g:GoodT w t es):t.fits es.size=true :=by
 unfold r9.fits r9.fill;rw[g.ok.dum];have:=g.room;have:=g.sz;simp;omega
section
variable {P:ff}{w:hX}{A:rb}{E:ap->ba->Prop}{s:ba}{κ:Type} [DecidableEq κ] {knd:KeyKind P w κ}
theorem rL {ks:List κ}{a:ag}{Q:Bool->ba->Prop}(hk:Mc knd s.heap ks a) (h:Q false s):wpAny (model P w) A (ofAClassStatement 8 (.ref a)) Q E s :=by
 have hT:=hk.typeIs;obtain⟨o,items,n,ho,_,hd,hi⟩:=hk;unfold ofAClassStatement;refine ac (NG hT ?_);dsimp only;rw[if_pos (by decide)]
 refine ac (bi ?_);simp only[LP,gc,if_false];refine ac (XG ho hd ?_);dsimp only;refine ac ?_;rw[<- Array.forIn_toList];refine ZH _ (fun rest r s'=>r.1=none/\s'=s/\∀v∈rest,carriedByValue v=true) _ ?_ ?_ _ _ ⟨rfl,rfl,hi.byValue⟩
 ·rintro v rest r s' ⟨hr,rfl,eQ⟩;have hv:=eQ v i4;have e:ofAClassStatement 7 v=pure false :=by
   cases v<;>first|(simp[carriedByValue]at hv;done)|(unfold ofAClassStatement;rfl)
  rw[e];refine ac (bi ?_);simp only[gc,if_false];exact bi ⟨rfl,rfl,fun u bg=>eQ u (f8 _ bg)⟩
 ·rintro⟨r1,r2⟩ s' ⟨hr,rfl,_⟩;simp only at hr;subst hr;exact bi h
theorem Dw {ks:List κ}{a:ag}(hk:Mc knd s.heap ks a):∀(l:List ap) {Q:Bool->ba->Prop},(∀v∈l,∃ks b,v=.ref b/\Mc knd s.heap ks b)->Q false s->wpAny (model P w) A (searchCouldBeSeen (.ref a) l) Q E s :=by
 intro l Q hl h;unfold searchCouldBeSeen;refine ac ?_;refine ZH _ (fun rest r s'=>r.1=none/\s'=s/\∀v∈rest,∃ks b,v=.ref b/\Mc knd s.heap ks b) _ ?_ ?_ _ _ ⟨rfl,rfl,hl⟩
 ·rintro v rest r s' ⟨hr,rfl,eQ⟩;obtain⟨NS,b,rfl,hb⟩:=eQ v i4;have tl:=fun u bg=>eQ u (f8 _ bg)
  dsimp only;split
  ·exact bi ⟨rfl,rfl,tl⟩
  ·refine ac (wpAny_eqIsQuiet_tuple hk ?_);simp only[LP,gc,if_false];refine ac (wpAny_eqIsQuiet_tuple hb ?_);simp only[LP,gc,if_false];refine ac (rL hk ?_);simp only[gc,if_false];refine ac (rL hb ?_);simp only[gc,if_false];exact bi ⟨rfl,rfl,tl⟩
 ·rintro⟨r1,r2⟩ s' ⟨hr,rfl,_⟩;simp only at hr;subst hr;exact bi h
def Dx (knd:KeyKind P w κ) (h:ii) (es:Array (Int×ap)):Prop:=∀e∈es.toList,∃ks b,e=(tupleKeyHash knd ks,.ref b)/\Mc knd h ks b
def Bb (knd:KeyKind P w κ) (h:ii) (es:Array (Int×ap)) (ks:List κ):Prop:=∃e∈es.toList,∃b,e.2=.ref b/\Mc knd h ks b
theorem uG {a:ag}{o:lc}{es:Array (Int×ap)}{ep:Nat}{t:r9}{ks:List κ}{p:ag}{K:Nat}{Q:SetFound->ba->Prop}(hu:A.units<cLine)
  (ho:s.heap.get? a=some o) (hd:o.data=.set es ep t) (g:GoodT w t es) (hk:Mc knd s.heap ks p) (ha:Dx knd s.heap es)
  (hK:¬ fF t (bB t.mask (tupleKeyHash knd ks) K).j) (hb:∀k,k<K->fF t (bB t.mask (tupleKeyHash knd ks) k).j) (Bc:K<10 * OL t.mask)
  (Dy:Bb knd s.heap es ks->Q (.there none) s) (i7:¬ Bb knd s.heap es ks->Q (.free (bB t.mask (tupleKeyHash knd ks) K).j false) s) :
  ∀(fuel k0:Nat) (vB:Option Ye),vB.getD (t.probeStart (tupleKeyHash knd ks))=bB t.mask (tupleKeyHash knd ks) k0->k0<=K->K - k0<fuel->
   (∀k i e,k<k0->t.slot (bB t.mask (tupleKeyHash knd ks) k).j=.live i->es[i]?=some e->∀b,e.2=.ref b->¬ Mc knd s.heap ks b)->
   wpAny (model P w) A (setSearchFrom a (.ref p) (tupleKeyHash knd ks) true fuel vB) Q E s
 |0,k0,vB,_,_,hf,_=>by omega
 |fuel+1,k0,vB,g8,NT,hf,HP=>by
          unfold setSearchFrom;refine ac (EO ho hd g.fits ?_);dsimp only;have hg:t.gaveWay=false :=by
           unfold r9.gaveWay;rw[g.odd];rfl
          rw[hg];simp only[gc,if_false];rw[g8];have J9:(∀k i e,k<K->t.slot (bB t.mask (tupleKeyHash knd ks) k).j=.live i->es[i]?=some e->∀b,e.2=.ref b->¬ Mc knd s.heap ks b)->¬ Bb knd s.heap es ks:=fun hn ⟨e,he,b,eb,bJ⟩=>by
           obtain⟨i,hi,ei⟩:=List.mem_iff_getElem.mp he;have dJ:i<es.size :=by simpa using hi
           have Sg:es[i]?=some e :=by rw[tz dJ];simpa using ei
           have Sh:i<t.place.size :=by rw[g.sz];exact dJ
           have hz:(t.place.toList.zip es.toList)[i]?=some (t.place[i],e):=xz.mpr ⟨by simp[Sh],by simpa using Sg⟩
           obtain⟨k,e1,e2⟩:=g.wk _ (lp hz);obtain⟨NU,b2,rfl,jO⟩:=ha e he;cases eb;have:=bJ.inj jO;subst this;dsimp only at e1 e2;have Vi:k<K :=by
            refine ID fun z=>?_
            by_cases z2:K<k
            ·exact hK (e2 K z2)
            ·have:k=K :=by omega
             subst this;exact hK (by rw[e1];show _∈t.place.toList;simp)
           have qf:fF t t.place[i] :=by show _∈t.place.toList;simp
           obtain⟨i',s1,s2⟩:=wO g.ok qf;have gz:i'=i :=by
            have hl:=(Array.getElem?_eq_some_iff.mp s2);obtain⟨hl,hv⟩:=hl;rcases Nat.lt_trichotomy i' i with z|z|z
            ·have:=jI g.ok.ris z Sh;omega
            ·exact z
            ·have:=jI g.ok.ris z hl;omega
           subst gz;exact hn k i' _ Vi (by rw[e1];exact s1) Sg _ rfl jO
          rcases uE g.ok hK hb (10 * OL t.mask) k0 NT (by omega) with ⟨k,i,c1,c2,c3,c4,c5,c6⟩|⟨c5,c6⟩
          ·unfold aaa;rw[c6];dsimp only;obtain⟨j,hj⟩:∃j,j=(bB t.mask (tupleKeyHash knd ks) k).j:=⟨_,rfl⟩;have pl:=Gs g.ok c3;have rM:i<es.size :=by rw[<- g.sz];exact(Array.getElem?_eq_some_iff.mp pl).1
           obtain⟨NU,b2,ee,jO⟩:=ha es[i] (by simp)
           have ei:es[i]?=some (tupleKeyHash knd NU,.ref b2) :=by rw[tz rM,ee]
           have after:wpAny (model P w) A (do
             let some (_,y):=es[i]?|unsupported "internal:set-entry"
             let equal <- holding [y] (eqBool y (.ref p))
             let (eU,_,t') <- setState a
             if true && equal then return .there none
             let some same:=t'.sameMemory t.moves t.mask|unsupported "set.changed-during-lookup:is-the-new-block-at-the-old-address"
             let QU <- match (if same then t'.slot (bB t.mask (tupleKeyHash knd ks) k).j else .empty) with
              | .live i'=>match eU[i']? with
               |some (_,y')=>do pure (if <- isSame y' y then some i' else none)
               |none=>pure none
              |_=>pure none
             match QU with
             |none=>rule "set.search.anew";setSearchFrom a (.ref p) (tupleKeyHash knd ks) true fuel none
             |some i'=>if equal then return .there (some i') else setSearchFrom a (.ref p) (tupleKeyHash knd ks) true fuel (some (bB t.mask (tupleKeyHash knd ks) (k+1)))) Q E s :=by
            rw[ei];dsimp only;refine ac (xL (wpAny_eqBool_tuple hu jO hk ?_));refine ac (EO ho hd g.fits ?_);dsimp only;by_cases eq:NU=ks
            ·subst eq;rw[decide_eq_true rfl,if_pos (by decide)]
             exact bi (Dy ⟨es[i],by simp,b2,by rw[ee],jO⟩)
            ·rw[decide_eq_false eq,if_neg (by decide)]
             have Vj:t.sameMemory t.moves t.mask=some true :=by unfold r9.sameMemory;rw[if_pos (by simp)]
             rw[Vj];simp only[if_true,c3,ei];refine ac (wpAny_isSame_ref_self (ac (bi ?_)));simp only[if_true,gc,if_false];refine uG hu ho hd g hk ha hK hb Bc Dy i7 fuel (k+1) _ rfl (by omega) (by omega) fun k' i' e' h1 h2 h3 b' h4 h5=>?_
             by_cases z:k'<k0
             ·exact HP k' i' e' z h2 h3 b' h4 h5
             ·by_cases z2:k'=k
              ·subst z2;rw[c3]at h2;cases h2;rw[ei]at h3;cases h3;cases h4;exact eq (jO.inj h5)
              ·have hh:=c5 k' i' (by omega) (by omega) h2
               obtain⟨NV,b3,e3,Dz⟩:=ha e' (by have:=YF h3;simpa using this)
               subst e3;cases h4;have:=h5.inj Dz;subst this;refine hh ?_;show ((es[i']?).map (·.1)).getD 0=_;rw[h3];rfl
           split
           ·refine ac (Dw hk _ (fun v hv=>?_) ?_)
            ·obtain⟨e,he,rfl⟩:=l6.mp hv;have Vk:e∈es.toList :=by
              have:=YJ.mp he;have:=(Array.mem_filter.mp this).1;simpa using this
             obtain⟨NV,b3,e3,Dz⟩:=ha e Vk;subst e3;exact⟨NV,b3,rfl,Dz⟩
            ·simp only[gc,if_false];exact after
           ·exact after
          ·unfold aaa;rw[c6];dsimp only;refine bi (i7 (J9 fun k i e h1 h2 h3 b h4 h5=>?_))
           by_cases z:k<k0
           ·exact HP k i e z h2 h3 b h4 h5
           ·have hh:=c5 k i (by omega) h1 h2
            obtain⟨NV,b3,e3,Dz⟩:=ha e (by have:=YF h3;simpa using this)
            subst e3;cases h4;have:=h5.inj Dz;subst this;refine hh ?_;show ((es[i]?).map (·.1)).getD 0=_;rw[h3];rfl
def wQ (knd:KeyKind P w κ) (x:List κ×ag):Int×ap:=(tupleKeyHash knd x.1,.ref x.2)
def h8 (knd:KeyKind P w κ) (h:ii) (a:ag) (xs:List (List κ×ag)):Prop:=
 ∃o es ep t,h.get? a=some o/\o.ExactSet/\o.data=.set es ep t/\es.toList.Perm (xs.map (wQ knd))/\(xs.map (·.1)).Nodup/\GoodT w t es/\(t.mask=7\/t.mask=31)/\es.size * 5<t.mask * 3
theorem h8.bp {h h':ii}{a:ag}{xs:List (List κ×ag)}(x:h8 knd h a xs) (k:∀o,h.get? a=some o->h'.get? a=some o):h8 knd h' a xs:=
 let ⟨o,es,ep,t,e,r⟩:=x;⟨o,es,ep,t,k o e,r⟩
def wR (xs:List (List κ×ag)) (k:List κ) (p:ag):List (List κ×ag):=if k∈xs.map (·.1) then xs else xs++[(k,p)]
theorem sX {ks:List κ}{a:ag}{Q:Bool->ba->Prop}(hk:Mc knd s.heap ks a) (h:∀b,Q b s):wpAny (model P w) A (hashByValue 8 (.ref a)) Q E s :=by
 have hT:=hk.typeIs;obtain⟨o,items,n,ho,_,hd,hi⟩:=hk;unfold hashByValue;refine ac (X3 hT F.slot_tuple_hash.lookup ?_);dsimp only;refine ac (XG ho hd ?_);refine ac ?_;show wpAny _ _ (forIn items _ _) _ _ s;rw[<- Array.forIn_toList];refine ZH _ (fun rest r s'=>s'=s/\∀v∈rest,carriedByValue v=true) _ ?_ ?_ _ _ ⟨rfl,hi.byValue⟩
 ·rintro v rest r s' ⟨rfl,eQ⟩;have hv:=eQ v i4;have e:∃b,hashByValue 7 v=pure b :=by
   cases v<;>first|(simp[carriedByValue]at hv;done)|exact⟨_,rfl⟩
  obtain⟨b,e⟩:=e;rw[e];refine ac (bi ?_);cases b
  ·simp only[SO,if_true];exact bi (bi (h _))
  ·simp only[LP,gc,if_false];exact bi ⟨rfl,fun u bg=>eQ u (f8 _ bg)⟩
 ·rintro⟨r1,r2⟩ s' ⟨rfl,_⟩;cases r1 with
  |none=>exact bi (h _)
  |some v=>exact bi (h _)
theorem DA {h:ii}{a:ag}{o:lc}{es:Array (Int×ap)}{ep:Nat}{t:r9}(ho:h.get? a=some o) (hd:o.data=.set es ep t) (eU:Array (Int×ap)) (t':r9) :
  (h.update a (YU eU t')).get? a=some {o with data:=.set eU (ep+1) t'}:=by
 have:=AL (YU eU t') ho (by rw[Z7 eU t' hd];rfl)
 rw[Z7 eU t' hd]at this;exact this
theorem rN {h:ii}{a:ag}{o:lc}{es:Array (Int×ap)}{ep:Nat}{t:r9}(ho:h.get? a=some o) (hex:o.ExactSet) (hd:o.data=.set es ep t)
  {eU:Array (Int×ap)} {t':r9} {xs:List (List κ×ag)} (hp:eU.toList.Perm (xs.map (wQ knd))) (hn:(xs.map (·.1)).Nodup) (g:GoodT w t' eU) (hm:t'.mask=7\/t'.mask=31) (hl:eU.size * 5<t'.mask * 3) :
  (h.update a (YU eU t')).get? a=some {o with data:=.set eU (ep+1) t'}/\h8 knd (h.update a (YU eU t')) a xs :=by
 have hg:(h.update a (YU eU t')).get? a=some {o with data:=.set eU (ep+1) t'}:=by
  have:=AL (YU eU t') ho (by rw[Z7 eU t' hd];rfl)
  rw[Z7 eU t' hd]at this;exact this
 exact⟨hg,_,eU,ep+1,t',hg,hex,rfl,hp,hn,g,hm,hl⟩
theorem Bd {a:ag}{xs:List (List κ×ag)}{ks:List κ}{p:ag}{Q:Bool->ba->Prop}(hu:A.units<cLine) (hS:h8 knd s.heap a xs) (hk:Mc knd s.heap ks p) (hx:∀x∈xs,Mc knd s.heap x.1 x.2) (HV:xs.length<9)
  (h:∀h',zn a s.heap h'->h8 knd h' a (wR xs ks p)->Q (decide (ks ∉ xs.map (·.1))) {s with heap:=h',toks:=s.toks+(ks.length+1)}):wpAny (model P w) A (setAdd a (.ref p)) Q E s :=by
 unfold setAdd;refine xL (ac (wpAny_pyHash_tuple hu hk ?_));obtain⟨o,es,ep,t,ho,hex,hd,hp,hn,g,hm,hl⟩:=hS;unfold setAddHashed setAddHashedIn;refine xL (ac (EO (s:={s with toks:=s.toks+(ks.length+1)}) ho hd g.fits ?_))
 dsimp only;have hb:byScan (.ref p) es=false:=rfl;rw[hb];simp only[gc,if_false];have hlen:es.size=xs.length :=by rw[<- jp,hp.length_eq,ci]
 have ha:Dx knd s.heap es:=fun e he=>by
  obtain⟨x,wU,rfl⟩:=l6.mp (hp.mem_iff.mp he);exact⟨x.1,x.2,rfl,hx x wU⟩
 have has:Bb knd s.heap es ks ↔ ks∈xs.map (·.1) :=by
  constructor
  ·rintro⟨e,he,b,eb,bJ⟩;obtain⟨x,wU,rfl⟩:=l6.mp (hp.mem_iff.mp he);cases eb;exact l6.mpr ⟨x,wU,(hx x wU).inj bJ⟩
  ·intro m;obtain⟨x,wU,rfl⟩:=l6.mp m;exact⟨_,hp.mem_iff.mpr (l6.mpr ⟨x,wU,rfl⟩),x.2,rfl,hx x wU⟩
 have rO:∃j,j<=t.mask/\¬ fF t j :=by
  refine ID fun n=>?_
  have all:∀j,j<=t.mask->fF t j:=fun j hj=>Sk.mp fun z=>n ⟨j,hj,z⟩
  have:=jN (lw (t.mask+1)) t.place.toList Yw fun j hj=>all j (by have:=u4.mp hj;omega)
  rw[EN,jp,g.sz]at this;have:=g.room;omega
 obtain⟨j0,NQ,f0⟩:=rO;obtain⟨K,k1,k2,k3⟩:=NM g.full (tupleKeyHash knd ks) NQ f0;have T5:K<10 * OL t.mask :=by unfold OL;omega
 unfold setSearch;refine ac (uG (s:={s with toks:=s.toks+(ks.length+1)}) hu ho hd g hk ha k2 k3 T5 (fun hh=>?_) (fun hh=>?_) 100000 0 none rfl (nw _) (by rcases hm with z|z<;>rw[z]at k1<;>omega) fun k i e z=>absurd z (X4 _))
 ·have zH:=has.mp hh;have:=h s.heap (zn.refl a s.heap) (by unfold wR;rw[if_pos zH];exact⟨o,es,ep,t,ho,hex,hd,hp,hn,g,hm,hl⟩)
  rw[decide_eq_false (fun z=>z zH)]at this
  exact bi this
 ·have zH:ks ∉ xs.map (·.1):=fun z=>hh (has.mpr z)
  have T6:wR xs ks p=xs++[(ks,p)] :=by unfold wR;rw[if_neg zH]
  have key:∀h',zn a s.heap h'->h8 knd h' a (xs++[(ks,p)])->Q true {s with heap:=h',toks:=s.toks+(ks.length+1)}:=fun h' ra m5=>by
   have:=h h' ra (by rw[T6];exact m5)
   rw[decide_eq_true zH]at this;exact this
  have le:=NF t.mask (tupleKeyHash knd ks) K;have Vl:(es.size+1) * 5<=t.mask * 3+4 :=by omega
  have g1:=g.put (x:=.ref p) k2 k3 le (by rcases hm with z|z<;>rw[z]at Vl ⊢<;>omega)
  generalize (bB t.mask (tupleKeyHash knd ks) K).j=j at g1 k2 le
  dsimp only;refine ac (EO (s:={s with toks:=s.toks+(ks.length+1)}) ho hd g.fits ?_)
  dsimp only;have Be:(AC es (t.put j).2 (tupleKeyHash knd ks,li p)).toList.Perm ((xs++[(ks,p)]).map (wQ knd)) :=by
   refine(nS es _ _).trans ?_;rw[xw];refine SC.trans (SC.cons _ hp) ?_;exact(List.perm_append_comm (l₁:=[wQ knd (ks,p)]) (l₂:=xs.map (wQ knd)))
  have Si:((xs++[(ks,p)]).map (·.1)).Nodup :=by
   rw[xw];exact List.nodup_append.mpr ⟨hn,by simp,fun a ha b hb=>by rw[ss,Lu,rf]at hb;rw[hb];exact fun z=>zH (by rw[<- show a=ks from z];exact ha)⟩
  have zI:(AC es (t.put j).2 (tupleKeyHash knd ks,li p)).size=es.size+1 :=by
   rw[<- jp,Be.length_eq,ci,xb,Da,hlen]
  have tm:(t.put j).1.mask=t.mask:=rfl;generalize (t.put j).1=t1 at g1 tm ⊢
  generalize AC es (t.put j).2 (tupleKeyHash knd ks,li p)=nW at g1 Be zI ⊢
  have fin:∀b:Bool,wpAny (model P w) A (do
    storeSet a nW (if b=true then t1 else {t1 with plain:=false})
    if (!false && (if b=true then t1 else {t1 with plain:=false}).tooFull)=true then setRelay a (r9.grown (es.size+1))
    pure true) Q E {s with toks:=s.toks+(ks.length+1)}:=fun b=>by
   have g2:=g1.Gu b;have Il:(if b=true then t1 else {t1 with plain:=false}).mask=t.mask :=by split<;>exact tm
   generalize (if b=true then t1 else {t1 with plain:=false})=t2 at g2 Il ⊢
   have fl:t2.fill=es.size+1 :=by unfold r9.fill;rw[g2.ok.dum,g2.sz,zI];rfl
   have big:(1000:Nat)<sizeLine :=by decide
   have Sj:nW.size<=sizeLine :=by rw[zI];omega
   refine ac (wpAny_storeSet_of ho hd ?_ Sj);have tf:t2.tooFull=decide ((es.size+1) * 5 ≥ t.mask * 3) :=by unfold r9.tooFull;rw[fl,Il]
   rw[tf];by_cases rO:(es.size+1) * 5 ≥ t.mask * 3
   ·rw[decide_eq_true rO];have e4:es.size=4/\t.mask=7 :=by rcases hm with z|z<;>rw[z]at rO hl ⊢<;>omega
    rw[e4.1];simp only[SO,XV,if_true];have Im:=DA ho hd nW t2;unfold setRelay;refine ac (ac (EO Im rfl g2.fits ?_));dsimp only;have CT:r9.grown (4+1)=20:=rfl;have Sl:r9.sizeAbove 20=32:=rfl;obtain⟨t3,order,l1,l2,l3,l4⟩:=J8 NI rfl (es:=nW) (by rw[zI];omega) t2.finger (t2.movedTo 31) g2.ok.led t2.plain
    have Vm:t2.relaid (nW.map (·.1)) 20=some (t3,order) :=by
     unfold r9.relaid;rw[Sl];exact l1
    have NW:(order.filterMap (nW[·]?)).size=nW.size :=by rw[<- jp,l2.length_eq,jp]
    rw[CT,Sl,if_neg (by omega),Vm]
    refine ac ?_;show wpAny _ _ (if (order.filterMap (nW[·]?)).size != nW.size then unsupported "internal:set-table-lost-an-element" >>= fun _=>pure (order.filterMap (nW[·]?),t3) else pure (order.filterMap (nW[·]?),t3)) _ _ _
    rw[if_neg (by rw[NW];simp)]
    refine bi ?_;dsimp only;refine wpAny_storeSet_of Im rfl ?_ (by rw[NW];exact Sj)
    obtain⟨_,Vn⟩:=rN (knd:=knd) (xs:=xs++[(ks,p)]) Im hex rfl (l2.trans Be) Si l3 (.inr l4) (by rw[NW,zI,l4];omega)
    exact bi (key _ ((Is s.heap a _).trans (Is _ a _)) Vn)
   ·rw[decide_eq_false rO];simp only[Bool.and_false,gc,if_false];obtain⟨Im,C5⟩:=rN (knd:=knd) (xs:=xs++[(ks,p)]) ho hex hd Be Si g2 (by rw[Il];exact hm) (by rw[zI,Il];omega)
    exact ac (bi (bi (key _ (Is s.heap a _) C5)))
  split
  ·exact ac (sX hk fun b=>fin b)
  ·exact ac (bi (fin true))
end
section
variable {P:ff}{w:hX}{A:rb}{E:ap->ba->Prop}{s:ba}
abbrev Io (xs:List ap):Nat->ap->Prop:=fun i v=>xs[i]?=some v
theorem Ka {xs:List ap}{acc:Array ap}(h:ItemsOf (Io xs) acc xs.length):acc.toList=xs :=by
 obtain⟨hs,hi⟩:=h;refine RS fun i=>?_
 have e2:acc.toList[i]?=acc[i]?:=by simp
 rw[e2];by_cases hl:i<xs.length
 ·have:=hi i acc[i] (tz (by omega))
  rw[tz (by omega)]
  exact this.symm
 ·rw[GG (by omega),ET (by omega)]
theorem QV {I a:ag}{es:Array (Int×ap)}{ep:Nat}{t:r9}(hh:A.handled=none) (cJ:a≠I) (hd:w.params.followText "set-order" = false->(!t.plain && decide (es.size > 1))=false) :
  Z5 P w A I [I,a] [I] (fun a b=>b=a) ((bZ w a ep es).map (·.2)).length (Io ((bZ w a ep es).map (·.2)))
   (fun i s=>gL P w s.heap a es ep t/\∃slot:Nat,c7 s.heap I a (.int slot 0) i es.size ep/\(w.params.followText "set-order" = false->mo t.place slot=i)) where
 sub:=fun b hb=>by simp at hb;simp[hb]
 grefl:=fun _=>rfl
 gtrans:=fun _ _ _ h1 h2=>h2.trans h1
 frame:=fun i s h' _ st _ hk=>⟨st.1.bp fun o e=>hk a (by simp) o e,let ⟨slot,h1,h2⟩:=st.2;⟨slot,h1.bp fun o e=>hk I (by simp) o e,h2⟩⟩
 item:=fun i s Q E hi st hQ=>by
  obtain⟨hE,slot,hit,hb⟩:=st;have hl:i<(bZ w a ep es).length :=by simpa using hi
  have wx:i<es.size :=by rw[<- jp,<- (d6 w a ep es).length_eq];exact hl
  have bM:i<t.place.size :=by
   have:=hE.fits;simp only[r9.fits,EM,beq_iff_eq]at this;rw[this.1];exact wx
  refine zo (next:=if w.params.followText "set-order" = true then slot else t.place[i]+1) (x:=((bZ w a ep es)[i]).2) hit hE hd (fun bJ=>?_) (fun bJ=>?_) (fun h' pZ hs=>hQ _ _ (by show (List.map _ _)[i]?=_;rw[db,ar hl];rfl) ⟨hE.bp fun o e=>by rw[hs.2 a cJ];exact e,_,pZ,fun bJ=>?_⟩ ⟨fun b o hb e=>by rw[hs.2 b (fun z=>hb (by simp[z]))];exact e,rfl,rfl,rfl,ce _⟩)
  ·rw[if_pos bJ];have e1:bZ w a ep es=(pickOrder (w.params.setOrder a ep) es).toList :=by unfold bZ;rw[if_pos bJ]
   have e2:(pickOrder (w.params.setOrder a ep) es)[i]?=some (bZ w a ep es)[i] :=by
    rw[<- Na,<- e1];exact ar hl
   rw[e2];rfl
  ·rw[if_neg (by rw[bJ];decide),hb bJ,tz wx,tz bM]
   have e1:bZ w a ep es=es.toList :=by unfold bZ;rw[if_neg (by rw[bJ];decide)]
   have e2:(bZ w a ep es)[i]=es[i] :=by simp[e1]
   rw[e2]
  ·rw[if_neg (by rw[bJ];decide)]
   exact rA hE.tab.ris bM
 done:=fun s Q E st hQ=>by
  obtain⟨hE,slot,hit,hb⟩:=st;have hl:((bZ w a ep es).map (·.2)).length=es.size :=by rw[ci,(d6 w a ep es).length_eq,jp]
  rw[hl]at hit hb;refine zp hh hit hE hd (fun bJ=>?_) (fun bJ=>?_) (fun h' k=>hQ _ ⟨fun b o hb e=>k b o (fun z=>hb (by simp[z])) e,rfl,rfl,rfl,ce _⟩)
  ·have e1:(pickOrder (w.params.setOrder a ep) es)[es.size]?=none :=by
    refine GG ?_;rw[<- jp,(nE _ es).length_eq,jp];exact ce _
   rw[e1];rfl
  ·rw[hb bJ,GG (ce _)]
 self:=fun i s Q E st hQ=>let ⟨_,slot,hit,_⟩:=st;si_self hit hQ
theorem NX {I a T:ag}{es:Array (Int×ap)}{ep:Nat}{t:r9}{ps:List Nat}(hh:A.handled=none) (cJ:a≠I) (F7:T≠I) (nF:∀j∈ps,j<es.size) (bM:ps.length=es.size) :
  Z5 P w A I [I,a,T] [I] (fun a b=>b=a) (ps.map fun j=>(es.getD j (0,.none)).2).length (Io (ps.map fun j=>(es.getD j (0,.none)).2))
   (fun i s=>gL P w s.heap a es ep t/\s.heap.IsTuple T (ps.map fun (i:Nat)=>rawInt i).toArray/\c7 s.heap I a (.ref T) i es.size ep) where
 sub:=fun b hb=>by simp at hb;simp[hb]
 grefl:=fun _=>rfl
 gtrans:=fun _ _ _ h1 h2=>h2.trans h1
 frame:=fun i s h' _ st _ hk=>⟨st.1.bp fun o e=>hk a (by simp) o e,st.2.1.at fun o e=>hk T (by simp) o e,st.2.2.bp fun o e=>hk I (by simp) o e⟩
 item:=fun i s Q E hi st hQ=>by
  obtain⟨hE,hT,hit⟩:=st;have hl:i<ps.length :=by simpa using hi
  have hj:=nF _ (wr hl);have hx:es[ps[i]]?=some es[ps[i]]:=tz hj;have hg:es.getD ps[i] (0,.none)=es[ps[i]] :=by simp[NH,hj]
  refine zq hit hE hT (ar hl) hx fun h' pZ hs=>hQ _ _ (by show (List.map _ _)[i]?=_;rw[db,ar hl,Ix,hg]) ⟨hE.bp fun o e=>by rw[hs.2 a cJ];exact e,hT.at fun o e=>by rw[hs.2 T F7];exact e,pZ⟩ ⟨fun b o hb e=>by rw[hs.2 b (fun z=>hb (by simp[z]))];exact e,rfl,rfl,rfl,ce _⟩
 done:=fun s Q E st hQ=>by
  obtain⟨hE,hT,hit⟩:=st;have hl:(ps.map fun j=>(es.getD j (0,.none)).2).length=ps.length:=ci _
  rw[hl]at hit;exact zt hh hit hE hT (ce _) fun h' k=>hQ _ ⟨fun b o hb e=>k b o (fun z=>hb (by simp[z])) e,rfl,rfl,rfl,ce _⟩
 self:=fun i s Q E st hQ=>si_self st.2.2 hQ
theorem yD {a:ag}{o:lc}{es:Array (Int×ap)}{ep:Nat}{t:r9}{Q:ap->ba->Prop}(ho:s.heap.get? a=some o) (hex:o.ExactSet) (hd:o.data=.set es ep t) (hb:es.size<scanBound) (hf:t.fits es.size=true) (ht:eV w t)
  (hQ:∀(I:ag) (h':ii) (d':Drawn) (xs:List ap) (fp:List ag) (St:Nat->ba->Prop),xs.Perm (es.toList.map (·.2))->(∀b o,s.heap.get? b=some o->h'.get? b=some o)->s.heap.objs.size<=I->(∀b∈fp,b=a\/s.heap.objs.size<=b)->
   (∀A':rb,A'.handled=none->Z5 P w A' I fp [I] (fun a b=>b=a) xs.length (Io xs) St)->St 0 {s with heap:=h',drawn:=d'}->Q (.ref I) {s with heap:=h',drawn:=d'}):wpAny (model P w) A (pyIter (.ref a)) Q E s :=by
 have qX:s.TypeIs (.ref a) "set" := ⟨o,ho,hex.1⟩
 have hE:gL P w s.heap a es ep t:=⟨⟨o,ho,hex,hd⟩,hf,ht⟩;have aO:=io ho;refine Yk qX YR (u8 YR qX pM ?_ (F.args_set_iter_1 _));unfold ul.«frozenset.__iter__»;refine ac (m:=ul.Frozenset.slot0 "__iter__" _) (bi ?_)
 unfold ul.Frozenset.sizeOf;refine ac (ac (OK ho hd hf (bi ?_)));refine ac ?_;unfold setDrawn;refine ac (EO ho hd hf ?_);dsimp only;refine ac (ku ?_);refine bi ?_;by_cases lj:(!w.params.followText "set-order" && (!t.plain && decide (es.size > 1)))=true
 ·show wpAny _ _ (if (!w.params.followText "set-order" && (!t.plain && decide (es.size > 1)))=true then _ else _) _ _ s
  rw[if_pos lj];refine ac (jK _ _ (by simp) fun ps d nF=>?_)
  have bM:ps.length=es.size :=by rw[nF.length_eq,EN]
  refine ac (Y3 ?_ (by rw[ci,bM];exact fits_of_scanBound hb))
  refine ac (Yl (o:=o) (br _ ho) hd hf ?_);unfold newFields;refine ac (sB ?_ (by size_fits))
  have hsz:∀u:lc,(s.heap.push u).objs.size=s.heap.objs.size+1:=fun u=>Nd _ _
  have hit:c7 ((s.heap.push {cls:=.type "tuple",data:=.seq (ps.map fun (i:Nat)=>rawInt i).toArray}).push {cls:=.type "set_iterator",data:=.fields #[.ref s.heap.objs.size,.int (0:Nat) 0,.ref a,.int es.size 0,.int ep 0]}) (s.heap.push {cls:=.type "tuple",data:=.seq (ps.map fun (i:Nat)=>rawInt i).toArray}).objs.size a (.ref s.heap.objs.size) 0 es.size ep:=⟨_,ij _ rfl,rfl,rfl⟩
  have Ng:(ps.map fun j=>(es.getD j (0,.none)).2).Perm (es.toList.map (·.2)) :=by
   refine(nF.map _).trans ?_;have:(lw es.size).map (fun j=>(es.getD j (0,.none)).2)=es.toList.map (·.2) :=by
    refine ZE (by simp) fun n h1 h2=>?_
    have qP:n<es.size :=by simpa using h1
    simp[NH,qP]
   rw[this]
  refine bi ⟨_,rfl,"set_iterator",_,c7.typeIs (s:={s with heap:=_,drawn:=d}) hit,bH.lookup,?_⟩
  refine hQ _ _ d _ [(s.heap.push {cls:=.type "tuple",data:=.seq (ps.map fun (i:Nat)=>rawInt i).toArray}).objs.size,a,s.heap.objs.size] _ Ng (fun b o e=>br _ (br _ e)) (by rw[hsz];exact IS _) (fun b hb=>?_) (fun A' hA=>NX (t:=t) (ep:=ep) hA ?_ ?_  (fun j hj=>by simpa using nF.mem_iff.mp hj) bM) ⟨hE.bp fun o e=>br _ (br _ e),⟨_,br _ (ij _ rfl),rfl,_,rfl⟩,hit⟩
  ·simp only[l8,Co,or_false]at hb;rcases hb with rfl|rfl|rfl
   ·exact .inr (by rw[hsz];exact IS _)
   ·exact .inl rfl
   ·exact .inr (ce _)
  ·rw[hsz];exact l5 (GM aO)
  ·rw[hsz];exact l5 (Me _)
 ·show wpAny _ _ (if (!w.params.followText "set-order" && (!t.plain && decide (es.size > 1)))=true then _ else _) _ _ s
  rw[if_neg lj];refine ac (bi (ac (Yl ho hd hf ?_)));unfold newFields;refine ac (sB ?_ (by size_fits))
  have hit:c7 (s.heap.push {cls:=.type "set_iterator",data:=.fields #[.int (0:Nat) 0,.int (0:Nat) 0,.ref a,.int es.size 0,.int ep 0]}) s.heap.objs.size a (.int (0:Nat) 0) 0 es.size ep:=⟨_,ij _ rfl,rfl,rfl⟩
  refine bi ⟨_,rfl,"set_iterator",_,c7.typeIs (s:={s with heap:=_}) hit,bH.lookup,?_⟩
  refine hQ _ _ s.drawn _ [s.heap.objs.size,a] _ ((d6 w a ep es).map (·.2)) (fun b o e=>br _ e) (ce _) (fun b hb=>?_) (fun A' hA=>QV (t:=t) (ep:=ep) hA (l5 aO)  fun hb=>?_) ⟨hE.bp fun o e=>br _ e,0,hit,fun _=>rB ht.ris⟩
  ·simp only[l8,Co,or_false]at hb;rcases hb with rfl|rfl
   ·exact .inr (ce _)
   ·exact .inl rfl
  ·rw[hb]at lj;simpa using lj
theorem wV {a:ag}{o:lc}{es:Array (Int×ap)}{ep:Nat}{t:r9}{QL:List ap->ba->Prop}(hh:A.handled=none) (ho:s.heap.get? a=some o) (hex:o.ExactSet) (hd:o.data=.set es ep t) (hb:es.size<scanBound) (hf:t.fits es.size=true) (ht:eV w t) (hz:es.size<=sizeLine)
  (hQ:∀us h' d' tk,us.Perm (es.toList.map (·.2))->(∀b o,s.heap.get? b=some o->h'.get? b=some o)->QL us {s with heap:=h',drawn:=d',toks:=tk}):wpAny (model P w) A (collect (.ref a)) QL E s :=by
 have aO:a<s.heap.objs.size:=io ho;have C4:s.heap.objs.size≠a:=SS aO;unfold collect;refine ac (Y2 (BN XD ?_));rw[zw XE _];show wpAny _ A.in1 (newList []>>=fun l=>again (.builtin "list.__iadd__" ⟨[l,.ref a],[]⟩)) _ _ s
 refine ac (sB ?_);refine bi ⟨FS KB _,BN Yi ?_⟩;rw[zw KB _];have zJ:(s.heap.push {cls:=.type "list",data:=.seq ([]:List ap).toArray}).get? a=some o:=br _ ho
 have T1:XU {s with heap:=s.heap.push {cls:=.type "list",data:=.seq ([]:List ap).toArray}} (.ref a) "set" := ⟨o,zJ,hex.1⟩
 show wpAny _ A.in1 (BB (.ref s.heap.objs.size) (.ref a) (.ref s.heap.objs.size)) _ _ _;unfold BB;refine ac (NG T1 ?_);have h1:IN (.ref s.heap.objs.size) (.ref a)=false :=by simp[IN,C4]
 have h2:(BY "set" == BY "list")=false :=by decide
 have h3:(BY "set" == BY "tuple")=false :=by decide
 simp only[h1,h2,h3,Zg,gc,if_false];refine ac (yD (s:={s with heap:=s.heap.push {cls:=.type "list",data:=.seq ([]:List ap).toArray}}) zJ hex hd hb hf ht ?_)
 intro I h' d' xs fp St hp hk hI Nh hW g8;have T2:XU {s with heap:=h',drawn:=d'} (.ref a) "set" := ⟨o,hk a o zJ,hex.1⟩
 refine ac (xL (pO T2 ?_));show wpAny _ A.in1 (if _=true then _ else _) _ _ _
 rw[if_pos (by kernel_rfl)]
 show wpAny _ A.in1 (rule "list.extend.makes-room" >>= fun _=>Yo (.ref s.heap.objs.size)>>=fun _=>
  again (.builtin "list.extend.loop" ⟨[.ref s.heap.objs.size,.ref I,.ref s.heap.objs.size],[]⟩)) _ _ _
 refine ac (LM ?_);have jc:h'.get? s.heap.objs.size=some {cls:=.type "list",data:=.seq ([]:List ap).toArray}:=hk _ _ (ij _ rfl)
 refine ac ?_;show wpAny _ A.in1 (updateSeq s.heap.objs.size (·.push .none)>>=fun _=>updateSeq s.heap.objs.size (·.pop)) _ _ _
 refine ac (Ps jc rfl ?_);have lR:=AL (CS (·.push wE)) jc rfl;refine Ps lR rfl ?_;have AZ:=AL (CS (·.pop)) lR rfl;have oth:∀b o,b≠s.heap.objs.size->h'.get? b=some o->((h'.update s.heap.objs.size (CS (·.push wE))).update s.heap.objs.size (CS (·.pop))).get? b=some o:=
  fun b o hb e=>(AT _ _ (wp hb)).trans ((AT _ _ (wp hb)).trans e)
 have wy:(s.heap.push {cls:=.type "list",data:=.seq ([]:List ap).toArray}).objs.size=s.heap.objs.size+1:=Nd _ _
 have C6:s.heap.objs.size ∉ fp:=fun hm=>by
  rcases Nh _ hm with z|z
  ·exact C4 z
  ·have z':s.heap.objs.size+1<=s.heap.objs.size :=by rw[<- wy];exact z
   exact absurd z' (Nat.not_succ_le_self _)
 have W:=hW A.in1.in1 (by simp[hh])
 have hl:xs.length<=sizeLine :=by rw[hp.length_eq,ci,jp];exact hz
 refine bi ⟨FS UF _,codeAny_extend_loopS (W.of_in1) hl _ C6 _ xs.length 0 _ _ _ rfl (nw _) (W.frame 0 ({s with heap:=h',drawn:=d'}:ba) _ s.toks g8 (ce _) fun b hb o e=>oth b o (fun h=>C6 (h▸hb)) e) AZ (ItemsOf.nil _) fun s' pY c' hm m5 A0=>?_⟩
 show wpAny _ A (load s.heap.objs.size>>=_) _ _ s';refine ac (Zw m5 ?_);refine bi ?_;obtain⟨h2,g2,d2,Ni,os2⟩:=s';have eg:g2=s.gens:=hm.gens;have ed:d2=d':=hm.drawn;have eo:os2=s.os:=hm.os;subst eg;subst ed;subst eo;refine hQ _ h2 _ Ni (by rw[Ka A0];exact hp) fun b o e=>hm.heap b o ?_ (oth b o (l5 (io e)) (hk b o (br _ e)))
 have hb:b<s.heap.objs.size:=io e;simp only[l8,Co,or_false,not_or];refine⟨l5 hb,fun z=>?_⟩
 have z':s.heap.objs.size+1<=b :=by rw[<- wy,z];exact hI
 exact absurd (l9 (GM hb) z') (LH _)
end
inductive Dv where
 |int (i:Int)|bl (b:Bool)|ao|str (z:bv)|tup (xs:List Dv)|lst (xs:List Dv)|set (ns:List Int)|ptr (a:ag)|exc (C:ag)|bt (ns:List Int)|raw (v:V)|dk (ks:List Key) (ds:List Dv)|dt (ks:List (List Key)) (ds:List Dv)|bF (f:ag) (o:lc) (c:ag) (oc:lc) (vs:List V) (ds:List Dv)
inductive Mo where
 |lst (xs:List Dv)|cW|dk (ks:List Key) (ds:List Dv)|dt (ks:List (List Key)) (ds:List Dv)|ts (ks:List (List Int)) (ds:List Dv)
abbrev Mh:=ag->Option Mo
structure b5 where
 g:List ag
 l:List (ag×bv)
instance:Membership ag b5:=⟨fun t a=>a∈t.g⟩
def Ip:HO->Bool
 | .cI _=>true
 | .lam _=>true
 | .dK _=>true
 | .dT _=>true
 |_=>false
def DB:HO->Bool
 | .cI _=>false
 |_=>true
def jP:HO->Bool
 | .dK _=>true
 | .dT _=>true
 |_=>false
theorem Rd.map {H H':Hp}{a:ag}{u:HO}(e:Rd H a u) (k:∀x,H a=some x->H' a=some x):Rd H' a u:=e.imp (k _) fun⟨o,h⟩=>⟨o,k _ h⟩
theorem Rd.NY {H H':Hp}{a:ag}{u:HO}(e:Rd H a u) (hu:jP u=true) (k:∀x,DB x=true->H a=some x->H' a=some x):Rd H' a u:=e.imp (k _ (by cases u<;>first|rfl|cases hu)) fun⟨o,h⟩=>⟨o,k _ rfl h⟩
theorem Rd.there {H:Hp}{a:ag}{u:HO}(e:Rd H a u):∃x,H a=some x:=e.elim (fun h=>⟨_,h⟩) fun⟨o,h⟩=>⟨_,h⟩
def Tg (o o':HO):Prop:=(∃ps gK:Array ap,o=.cI ps/\o'=.cI gK/\Pd gK.toList)\/(∃ps gK:Array ap,o=.lam ps/\o'=.lam gK)\/(jP o=true/\∃ob,o'=.bC ob o)
theorem Tg.trans {a b c:HO}(x:Tg a b) (y:Tg b c):Tg a c :=by
 rcases x with ⟨p,q,rfl,rfl,t⟩|⟨p,q,rfl,rfl⟩|⟨hd,ob,rfl⟩
 ·rcases y with ⟨p2,q2,e,rfl,t2⟩|⟨p2,q2,e,_⟩|⟨e,_⟩
  ·exact .inl ⟨p,q2,rfl,rfl,t2⟩
  ·cases e
  ·cases e
 ·rcases y with ⟨p2,q2,e,_⟩|⟨p2,q2,e,rfl⟩|⟨e,_⟩
  ·cases e
  ·exact .inr (.inl ⟨p,q2,rfl,rfl⟩)
  ·cases e
 ·rcases y with ⟨p2,q2,e,_⟩|⟨p2,q2,e,_⟩|⟨e,_⟩<;>cases e
theorem Tg.tab {a b:HO}(x:Tg a b):Ip a=true :=by
 rcases x with ⟨p,q,rfl,rfl,_⟩|⟨p,q,rfl,rfl⟩|⟨hd,ob,rfl⟩
 ·rfl
 ·rfl
 ·cases a<;>first|rfl|cases hd
def T7 (H:Hp) (q:bv) (cv:ap):Prop:=∃(c:ag) (oc:lc) (u:HO) (vs:Array ap) (t:ZO),cv=li c/\H c=some (.bC oc u)/\oc.data=.fields vs/\vs[1]?=some (YC q t)
def Lm (H:Hp) (p:ag×bv):Prop:=∃ps:Array ap,H p.1=some (.lam ps)/\Pd ps.toList/\∀pos cv,codeAmong pos ps.toList=some cv->T7 H p.2 cv
theorem Lm.keep {H H':Hp}{p:ag×bv}(h:Lm H p) (k1:∀ps,H p.1=some (.lam ps)->H' p.1=some (.lam ps)) (k2:∀c oc u,H c=some (.bC oc u)->H' c=some (.bC oc u)):Lm H' p :=by
 obtain⟨ps,e,t,c⟩:=h;refine⟨ps,k1 _ e,t,fun pos cv q=>?_⟩
 obtain⟨a,oc,u,vs,tk,e1,e2,r⟩:=c pos cv q;exact⟨a,oc,u,vs,tk,e1,k2 _ _ _ e2,r⟩
structure Bz where
 P:ff
 w:hX
 K:bn
 tb:b5
 hid:List ag
def Fz (β:Bz) (M:Mh) (a:ag):Prop:=M a=none/\a ∉ β.hid
def Kl (K:bn) (a:ag) (ns:List Int):Prop:=∃(o:lc) (its:Array ap) (n:Nat),K.lookup a=some o/\o.cls=.type "list" /\ o.dict=none/\o.data=.seq its n/\its.size<=sizeLine/\Vals (ns.map V.int) its.toList
inductive Rz (β:Bz) (M:Mh) (H:Hp):V->Dv->Prop where
 |int (i:Int):Rz β M H (.int i) (.int i)
 |bl (b:Bool):Rz β M H (.bl b) (.bl b)
 |ao:Rz β M H .ao .ao
 |str (z:bv):Rz β M H (.str z) (.str z)
 |tup {a:ag} {vs:List V} {ds:List Dv} (m:Fz β M a) (e:H a=some (.tup vs)) (hl:vs.length=ds.length) (h:∀(i:Nat) (v:V) (d:Dv),vs[i]?=some v->ds[i]?=some d->Rz β M H v d):Rz β M H (.ref a) (.tup ds)
 |lst {a:ag} {vs:List V} {ds:List Dv} (m:Fz β M a) (e:H a=some (.lst vs)) (hl:vs.length=ds.length) (h:∀(i:Nat) (v:V) (d:Dv),vs[i]?=some v->ds[i]?=some d->Rz β M H v d):Rz β M H (.ref a) (.lst ds)
 |set {a:ag} {ns:List Int} (m:Fz β M a) (e:H a=some (AU β.P β.w a ns)):Rz β M H (.ref a) (.set ns)
 |ptr {a:ag} (m:(M a).isSome=true):Rz β M H (.ref a) (.ptr a)
 |exc {a C:ag} (m:Fz β M a) (e:H a=some (p8 C a)):Rz β M H (.ref a) (.exc C)
 |bt {a:ag} {o:lc} {ns:List Int} (m:Fz β M a) (e:H a=some (.bC o (.lst (ns.map V.int)))):Rz β M H (.ref a) (.bt ns)
 |cu {a:ag} {ns:List Int} (m:Fz β M a) (e:H a=some (.lst (ns.map V.int))):Rz β M H (.ref a) (.bt ns)
 |cw {a:ag} {ns:List Int} (e:Kl β.K a ns):Rz β M H (.ref a) (.bt ns)
 |raw (v:V):Rz β M H v (.raw v)
 |dk {a:ag} {ks:List Key} {vs:List V} {ds:List Dv} (m:Fz β M a) (e:Rd H a (.dK (ks.zip vs))) (hk:ks.length=vs.length) (hl:vs.length=ds.length) (h:∀(i:Nat) (v:V) (d:Dv),vs[i]?=some v->ds[i]?=some d->Rz β M H v d):Rz β M H (.ref a) (.dk ks ds)
 |dt {a:ag} {ks:List (List Key)} {vs:List V} {ds:List Dv} (m:Fz β M a) (e:Rd H a (.dT (ks.zip vs))) (hk:ks.length=vs.length) (hl:vs.length=ds.length) (h:∀(i:Nat) (v:V) (d:Dv),vs[i]?=some v->ds[i]?=some d->Rz β M H v d):Rz β M H (.ref a) (.dt ks ds)
 |bF {f c:ag} {o oc:lc} {u uc:HO} {vs:List V} {ds:List Dv} (m:Fz β M f) (e:H f=some (.bC o u)) (m2:Fz β M c) (e2:H c=some (.bC oc uc)) (hl:vs.length=ds.length) (h:∀(i:Nat) (v:V) (d:Dv),vs[i]?=some v->ds[i]?=some d->Rz β M H v d):Rz β M H (.ref f) (.bF f o c oc vs ds)
structure aD (β:Bz) (M:Mh) (H:Hp) (vs:List V) (ds:List Dv):Prop where
 len:vs.length=ds.length
 at':∀(i:Nat) (v:V) (d:Dv),vs[i]?=some v->ds[i]?=some d->Rz β M H v d
def jQ:V->ag
 | .ref a=>a
 |_=>0
def m9 (P:ff) (w:hX) (a:ag) (ah:List (List Int×V)):HO:=.ext fun h=>h8 (intKind P w) h a (ah.map fun x=>(x.1,jQ x.2))
def iH (β:Bz) (M:Mh) (H:Hp) (a:ag):Mo->Prop
 | .lst ds=>∃vs,H a=some (.lst vs)/\aD β M H vs ds
 | .cW=>QF H a
 | .dk ks ds=>∃vs,H a=some (.dK (ks.zip vs))/\ks.length=vs.length/\aD β M H vs ds
 | .dt ks ds=>∃vs,H a=some (.dT (ks.zip vs))/\ks.length=vs.length/\aD β M H vs ds
 | .ts ks ds=>∃vs,H a=some (m9 β.P β.w a (ks.zip vs))/\ks.length=vs.length/\aD β M H vs ds
def nX:HO->Bool
 | .lst _=>true
 | .set _ _=>true
 | .dK _=>true
 | .dT _=>true
 | .ext _=>true
 | .cI _=>true
 |_=>false
def Bf (H:Hp) (a:ag):Prop:=∃o,H a=some o/\nX o=true
theorem Bf.upd {H:Hp}{a p:ag}{o:HO}(h:Bf H a) (d:H p=none\/nX o=true):Bf (upd H p o) a :=by
 obtain⟨u,e,n⟩:=h;by_cases z:a=p
 ·subst z;rcases d with d|d
  ·rw[e]at d;cases d
  ·exact⟨o,av,d⟩
 ·exact⟨u,by rw[ae z];exact e,n⟩
structure Mz (β:Bz) (M:Mh) (H:Hp):Prop where
 obj:∀a o,M a=some o->iH β M H a o
 tabs:HW β.tb.g H
 hids:∀a∈β.hid,Bf H a
 apart:∀a o,M a=some o->a ∉ β.hid
 lams:∀p∈β.tb.l,Lm H p
structure Ey (M:Mh) (H:Hp) (M':Mh) (H':Hp):Prop where
 keep:∀b o,M b=none->H b=some o->H' b=some o\/∃o',Tg o o'/\H' b=some o'
 dom:∀a,(M a).isSome=true->(M' a).isSome=true
 new:∀a o,M a=none->H a=some o->M' a=none
structure Ex (β:Bz) (M:Mh) (H:Hp) (M':Mh) (H':Hp):Prop extends Ey M H M' H' where
 mz:Mz β M' H'
section
variable {β:Bz}{M M1 M2:Mh}{H H1 H2:Hp}
theorem Ey.refl:Ey M H M H:=⟨fun _ _ _ h=>.inl h,fun _ h=>h,fun _ _ h _=>h⟩
theorem Ex.refl (m:Mz β M H):Ex β M H M H:=⟨.refl,m⟩
theorem Ey.trans (x:Ey M H M1 H1) (y:Ey M1 H1 M2 H2):Ey M H M2 H2 :=by
 refine⟨fun b o hm h=>?_,fun a h=>y.dom a (x.dom a h),fun a o hm h=>?_⟩
 ·have ng:=x.new b o hm h;rcases x.keep b o hm h with q|⟨o1,t,q⟩
  ·exact y.keep b o ng q
  ·rcases y.keep b _ ng q with q2|⟨o2,t2,q2⟩
   ·exact .inr ⟨o1,t,q2⟩
   ·exact .inr ⟨o2,t.trans t2,q2⟩
 ·have ng:=x.new a o hm h;rcases x.keep a o hm h with q|⟨o1,t,q⟩
  ·exact y.new a _ ng q
  ·exact y.new a _ ng q
theorem Ex.trans (x:Ex β M H M1 H1) (y:Ex β M1 H1 M2 H2):Ex β M H M2 H2:=⟨x.toEy.trans y.toEy,y.mz⟩
theorem Ey.get (x:Ey M H M1 H1) {b:ag}{o:HO}(m:M b=none) (h:H b=some o) (n:Ip o=false):H1 b=some o :=by
 rcases x.keep b o m h with q|⟨o',e,_⟩
 ·exact q
 ·rw[e.tab]at n;cases n
theorem Ey.rd (x:Ey M H M1 H1) {b:ag}{u:HO}(m:M b=none) (h:Rd H b u) (hu:jP u=true):Rd H1 b u :=by
 rcases h with h|⟨o,h⟩
 ·rcases x.keep b u m h with q|⟨o',t,q⟩
  ·exact .inl q
  ·rcases t with ⟨_,_,rfl,_⟩|⟨_,_,rfl,_⟩|⟨_,ob,rfl⟩
   ·cases hu
   ·cases hu
   ·exact .inr ⟨ob,q⟩
 ·exact .inr ⟨o,x.get m h rfl⟩
theorem Ey.gone (x:Ey M H M1 H1) {b:ag}(h:H1 b=none):M b=none->H b=none:=fun m=>by
 cases e:H b with
 |none=>rfl
 |some o=>
  rcases x.keep b o m e with q|⟨_,_,q⟩<;>(rw[h]at q;cases q)
theorem Rz.ey (x:Ey M H M1 H1) {v:V}{d:Dv}(h:Rz β M H v d):Rz β M1 H1 v d :=by
 induction h with
 |int i=>exact .int i
 |bl b=>exact .bl b
 |ao=>exact .ao
 |str z=>exact .str z
 |tup m e hl h ih=>exact .tup ⟨x.new _ _ m.1 e,m.2⟩ (x.get m.1 e rfl) hl ih
 |lst m e hl h ih=>exact .lst ⟨x.new _ _ m.1 e,m.2⟩ (x.get m.1 e rfl) hl ih
 |dk m e hk hl h ih=>exact .dk ⟨x.new _ _ m.1 e.there.choose_spec,m.2⟩ (x.rd m.1 e rfl) hk hl ih
 |dt m e hk hl h ih=>exact .dt ⟨x.new _ _ m.1 e.there.choose_spec,m.2⟩ (x.rd m.1 e rfl) hk hl ih
 |bF m e m2 e2 hl h ih=>exact .bF ⟨x.new _ _ m.1 e,m.2⟩ (x.get m.1 e rfl) ⟨x.new _ _ m2.1 e2,m2.2⟩ (x.get m2.1 e2 rfl) hl ih
 |set m e=>exact .set ⟨x.new _ _ m.1 e,m.2⟩ (x.get m.1 e rfl)
 |ptr m=>exact .ptr (x.dom _ m)
 |exc m e=>exact .exc ⟨x.new _ _ m.1 e,m.2⟩ (x.get m.1 e rfl)
 |bt m e=>exact .bt ⟨x.new _ _ m.1 e,m.2⟩ (x.get m.1 e rfl)
 |cu m e=>exact .cu ⟨x.new _ _ m.1 e,m.2⟩ (x.get m.1 e rfl)
 |cw e=>exact .cw e
 |raw v=>exact .raw v
theorem Rz.ex (x:Ex β M H M1 H1) {v:V}{d:Dv}(h:Rz β M H v d):Rz β M1 H1 v d:=h.ey x.toEy
theorem aD.ex (x:Ex β M H M1 H1) {vs:List V}{ds:List Dv}(h:aD β M H vs ds):aD β M1 H1 vs ds:=⟨h.len,fun i v d a b=>(h.at' i v d a b).ex x⟩
theorem aD.nil:aD β M H [] []:=⟨rfl,fun i v d h=>by simp at h⟩
theorem aD.cons {v:V}{d:Dv}{vs:List V}{ds:List Dv}(h:Rz β M H v d) (t:aD β M H vs ds):aD β M H (v::vs) (d::ds):=⟨by simp[t.len],fun i x y a b=>by
 cases i with
 |zero=>simp at a b;subst a b;exact h
 |succ i=>rw[Do]at a b;exact t.at' i x y a b⟩
theorem aD.head {v:V}{d:Dv}{vs:List V}{ds:List Dv}(h:aD β M H (v::vs) (d::ds)):Rz β M H v d:=h.at' 0 v d rfl rfl
theorem aD.tail {v:V}{d:Dv}{vs:List V}{ds:List Dv}(h:aD β M H (v::vs) (d::ds)):aD β M H vs ds:=⟨by simpa using h.len,fun i x y a b=>h.at' (i+1) x y (by rw[Do];exact a) (by rw[Do];exact b)⟩
theorem aD.append {vs wW:List V}{ds ds':List Dv}(h:aD β M H vs ds) (t:aD β M H wW ds'):aD β M H (vs++wW) (ds++ds'):=⟨by simp[h.len,t.len],fun i x y a b=>by
 rw[YV]at a b;rw[h.len]at a;split at b
 ·rename_i z;rw[if_pos z]at a;exact h.at' i x y a b
 ·rename_i z;rw[if_neg z]at a;exact t.at' _ x y a b⟩
theorem aD.snoc {v:V}{d:Dv}{vs:List V}{ds:List Dv}(t:aD β M H vs ds) (h:Rz β M H v d):aD β M H (vs++[v]) (ds++[d]):=t.append (.cons h .nil)
theorem aD.get {vs:List V}{ds:List Dv}(h:aD β M H vs ds) {i:Nat}{d:Dv}(e:ds[i]?=some d):∃v,vs[i]?=some v/\Rz β M H v d :=by
 have hi:=(cr.mp e).1;have dJ:i<vs.length :=by rw[h.len];exact hi
 exact⟨vs[i],ar dJ,h.at' i _ _ (ar dJ) e⟩
theorem aD.get' {vs:List V}{ds:List Dv}(h:aD β M H vs ds) {i:Nat}{v:V}(e:vs[i]?=some v):∃d,ds[i]?=some d/\Rz β M H v d :=by
 have hi:=(cr.mp e).1;have dJ:i<ds.length :=by rw[<- h.len];exact hi
 exact⟨ds[i],ar dJ,h.at' i _ _ e (ar dJ)⟩
theorem aD.take {vs:List V}{ds:List Dv}(h:aD β M H vs ds) (n:Nat):aD β M H (vs.take n) (ds.take n):=⟨by simp[h.len],fun i x y a b=>by
 rw[List.getElem?_take]at a b;split at a
 ·rename_i z;rw[if_pos z]at b;exact h.at' i x y a b
 ·cases a⟩
theorem aD.drop {vs:List V}{ds:List Dv}(h:aD β M H vs ds) (n:Nat):aD β M H (vs.drop n) (ds.drop n):=⟨by simp[h.len],fun i x y a b=>by
 rw[List.getElem?_drop]at a b;exact h.at' _ x y a b⟩
theorem aD.set {vs:List V}{ds:List Dv}(h:aD β M H vs ds) (n:Nat) {v:V}{d:Dv}(r:Rz β M H v d):aD β M H (vs.set n v) (ds.set n d):=⟨by simp[h.len],fun i x y a b=>by
 rw[Zt]at a b;rw[h.len]at a;split at a
 ·rename_i z;rw[if_pos z]at b;split at a
  ·rename_i z2;rw[if_pos z2]at b;cases a;cases b;exact r
  ·cases a
 ·rename_i z;rw[if_neg z]at b;exact h.at' i x y a b⟩
theorem fh {a:ag}{vs:List V}{ds:List Dv}(m:Fz β M a) (e:H a=some (.tup vs)) (h:aD β M H vs ds):Rz β M H (.ref a) (.tup ds):=.tup m e h.len h.at'
theorem wX {a:ag}{vs:List V}{ds:List Dv}(m:Fz β M a) (e:H a=some (.lst vs)) (h:aD β M H vs ds):Rz β M H (.ref a) (.lst ds):=.lst m e h.len h.at'
theorem bu {v:V}{ds:List Dv}(h:Rz β M H v (.tup ds)):∃a vs,v=.ref a/\Fz β M a/\H a=some (.tup vs)/\aD β M H vs ds :=by
 cases h with
 |tup m e hl h=>exact⟨_,_,rfl,m,e,hl,h⟩
theorem gA {v:V}{ds:List Dv}(h:Rz β M H v (.lst ds)):∃a vs,v=.ref a/\Fz β M a/\H a=some (.lst vs)/\aD β M H vs ds :=by
 cases h with
 |lst m e hl h=>exact⟨_,_,rfl,m,e,hl,h⟩
theorem aS {v:V}{i:Int}(h:Rz β M H v (.int i)):v=.int i :=by cases h;rfl
theorem cz {v:V}{b:Bool}(h:Rz β M H v (.bl b)):v=.bl b :=by cases h;rfl
theorem cY {v:V}{z:bv}(h:Rz β M H v (.str z)):v=.str z :=by cases h;rfl
theorem iI {v:V}(h:Rz β M H v .ao):v=.ao :=by cases h;rfl
theorem kz {v u:V}(h:Rz β M H v (.raw u)):v=u :=by cases h;rfl
theorem bO {v:V}{a:ag}(h:Rz β M H v (.ptr a)):v=.ref a/\(M a).isSome=true :=by cases h with|ptr m=>exact⟨rfl,m⟩
theorem DC {v:V}{ns:List Int}(h:Rz β M H v (.set ns)):∃a,v=.ref a/\Fz β M a/\H a=some (AU β.P β.w a ns) :=by cases h with|set m e=>exact⟨_,rfl,m,e⟩
theorem nY {v:V}{C:ag}(h:Rz β M H v (.exc C)):∃a,v=.ref a/\Fz β M a/\H a=some (p8 C a) :=by cases h with|exc m e=>exact⟨_,rfl,m,e⟩
theorem uH {v:V}{ns:List Int}(h:Rz β M H v (.bt ns)):∃a,v=.ref a/\bL β.K H a (ns.map V.int) :=by
 cases h with
 |bt m e=>exact⟨_,rfl,.inl (.inr ⟨_,e⟩)⟩
 |cu m e=>exact⟨_,rfl,.inl (.inl e)⟩
 |cw e=>exact⟨_,rfl,.inr e⟩
def k4:HO->Bool
 | .lst _=>true
 | .dK _=>true
 | .dT _=>true
 | .ext _=>true
 |_=>false
theorem Mz.own (m:Mz β M H) {a:ag}{o:Mo}(e:M a=some o):∃u,H a=some u/\k4 u=true :=by
 have q:=m.obj a o e;cases o with
 |lst ds=>obtain⟨vs,q,_⟩:=q;exact⟨_,q,rfl⟩
 |dk ks ds=>obtain⟨vs,q,_⟩:=q;exact⟨_,q,rfl⟩
 |dt ks ds=>obtain⟨vs,q,_⟩:=q;exact⟨_,q,rfl⟩
 |ts ks ds=>obtain⟨vs,q,_⟩:=q;exact⟨_,q,rfl⟩
 |cW=>obtain⟨_,_,q,_⟩:=q;exact⟨_,q,rfl⟩
theorem Mz.lu (m:Mz β M H) {a:ag}{u:HO}(h:H a=some u) (n:k4 u=false):M a=none :=by
 cases e:M a with
 |none=>rfl
 |some o=>obtain⟨u',q,w⟩:=m.own e;rw[h]at q;cases q;rw[n]at w;cases w
theorem Mz.QX (m:Mz β M H) {p:ag}(hp:p∈β.tb):M p=none:=let ⟨_,h,_⟩:=m.tabs p hp;m.lu h rfl
theorem Mz.NZ (m:Mz β M H) {p:ag×bv}(hp:p∈β.tb.l):M p.1=none:=let ⟨_,h,_⟩:=m.lams p hp;m.lu h rfl
theorem Mz.free (m:Mz β M H) {a:ag}(h:H a=none):M a=none :=by
 cases e:M a with
 |none=>rfl
 |some o=>obtain⟨xs,q,_⟩:=m.own e;rw[h]at q;cases q
theorem Mz.fz (m:Mz β M H) {a:ag}(h:H a=none):Fz β M a:=⟨m.free h,fun z=>by
 obtain⟨o,e,_⟩:=m.hids a z;rw[h]at e;cases e⟩
theorem Gv {p a:ag}{o:HO}(h:∃u,H a=Xz u):∃u,upd H p o a=Xz u :=by
 unfold upd;split
 ·exact⟨_,rfl⟩
 ·exact h
theorem Ex.lay (m:Mz β M H) {p:ag}(h:H p=none) (o:HO):Ex β M H M (upd H p o) :=by
 have pre:∀b u,H b=some u->upd H p o b=some u:=fun b u q=>by rw[ae (aX q h)];exact q
 have rz:∀{v:V} {d:Dv},Rz β M H v d->Rz β M (upd H p o) v d:=fun r=>by
  induction r with
  |int i=>exact .int i
  |bl b=>exact .bl b
  |ao=>exact .ao
  |str z=>exact .str z
  |tup m e hl h ih=>exact .tup m (pre _ _ e) hl ih
  |lst m e hl h ih=>exact .lst m (pre _ _ e) hl ih
  |dk m e hk hl h ih=>exact .dk m (e.map fun _ h=>pre _ _ h) hk hl ih
  |dt m e hk hl h ih=>exact .dt m (e.map fun _ h=>pre _ _ h) hk hl ih
  |bF m e m2 e2 hl h ih=>exact .bF m (pre _ _ e) m2 (pre _ _ e2) hl ih
  |set m e=>exact .set m (pre _ _ e)
  |ptr m=>exact .ptr m
  |exc m e=>exact .exc m (pre _ _ e)
  |bt m e=>exact .bt m (pre _ _ e)
  |cu m e=>exact .cu m (pre _ _ e)
  |cw e=>exact .cw e
  |raw v=>exact .raw v
 refine⟨⟨fun b u _ q=>.inl (pre b u q),fun _ h=>h,fun _ _ h _=>h⟩,fun a u e=>?_,fun q hq=>?_,fun a ha=>(m.hids a ha).upd (.inl h),m.apart,fun q hq=>(m.lams q hq).keep (fun _ e=>pre _ _ e) fun _ _ _ e=>pre _ _ e⟩
 ·have z:=m.obj a u e;cases u with
  |lst ds=>obtain⟨vs,z,l,r⟩:=z;exact⟨vs,pre _ _ z,l,fun i v d a b=>rz (r i v d a b)⟩
  |dk ks ds=>obtain⟨vs,z,hk,l,r⟩:=z;exact⟨vs,pre _ _ z,hk,l,fun i v d a b=>rz (r i v d a b)⟩
  |dt ks ds=>obtain⟨vs,z,hk,l,r⟩:=z;exact⟨vs,pre _ _ z,hk,l,fun i v d a b=>rz (r i v d a b)⟩
  |ts ks ds=>obtain⟨vs,z,hk,l,r⟩:=z;exact⟨vs,pre _ _ z,hk,l,fun i v d a b=>rz (r i v d a b)⟩
  |cW=>obtain⟨c,n,z,r⟩:=z;exact⟨c,n,pre _ _ z,r⟩
 ·obtain⟨ps,e,t⟩:=m.tabs q hq;exact⟨ps,pre _ _ e,t⟩
theorem Ex.grow (m:Mz β M H) {p:ag}(hp:p∈β.tb) {ps:Array ap}(t:Pd ps.toList):Ex β M H M (upd H p (.cI ps)) :=by
 obtain⟨Vo,Sn,t0⟩:=m.tabs p hp;have pre:∀b u,H b=some u->DB u=true->upd H p (.cI ps) b=some u:=fun b u q n=>by
  have:b≠p:=fun z=>by subst z;rw[Sn]at q;cases q;cases n
  rw[ae this];exact q
 have rz:∀{v:V} {d:Dv},Rz β M H v d->Rz β M (upd H p (.cI ps)) v d:=fun r=>by
  induction r with
  |int i=>exact .int i
  |bl b=>exact .bl b
  |ao=>exact .ao
  |str z=>exact .str z
  |tup m e hl h ih=>exact .tup m (pre _ _ e rfl) hl ih
  |lst m e hl h ih=>exact .lst m (pre _ _ e rfl) hl ih
  |dk m e hk hl h ih=>exact .dk m (e.NY rfl fun x hx h=>pre _ _ h hx) hk hl ih
  |dt m e hk hl h ih=>exact .dt m (e.NY rfl fun x hx h=>pre _ _ h hx) hk hl ih
  |bF m e m2 e2 hl h ih=>exact .bF m (pre _ _ e rfl) m2 (pre _ _ e2 rfl) hl ih
  |set m e=>exact .set m (pre _ _ e rfl)
  |ptr m=>exact .ptr m
  |exc m e=>exact .exc m (pre _ _ e rfl)
  |bt m e=>exact .bt m (pre _ _ e rfl)
  |cu m e=>exact .cu m (pre _ _ e rfl)
  |cw e=>exact .cw e
  |raw v=>exact .raw v
 refine⟨⟨fun b u _ q=>?_,fun _ h=>h,fun _ _ h _=>h⟩,fun a u e=>?_,fun q hq=>?_,fun a ha=>(m.hids a ha).upd (.inr rfl),m.apart,fun q hq=>(m.lams q hq).keep (fun _ e=>pre _ _ e rfl) fun _ _ _ e=>pre _ _ e rfl⟩
 ·by_cases e:b=p
  ·subst e;rw[Sn]at q;cases q;exact .inr ⟨_,.inl ⟨Vo,ps,rfl,rfl,t⟩,av⟩
  ·exact .inl (by rw[ae e];exact q)
 ·have z:=m.obj a u e;cases u with
  |lst ds=>obtain⟨vs,z,l,r⟩:=z;exact⟨vs,pre _ _ z rfl,l,fun i v d a b=>rz (r i v d a b)⟩
  |dk ks ds=>obtain⟨vs,z,hk,l,r⟩:=z;exact⟨vs,pre _ _ z rfl,hk,l,fun i v d a b=>rz (r i v d a b)⟩
  |dt ks ds=>obtain⟨vs,z,hk,l,r⟩:=z;exact⟨vs,pre _ _ z rfl,hk,l,fun i v d a b=>rz (r i v d a b)⟩
  |ts ks ds=>obtain⟨vs,z,hk,l,r⟩:=z;exact⟨vs,pre _ _ z rfl,hk,l,fun i v d a b=>rz (r i v d a b)⟩
  |cW=>obtain⟨c,n,z,r⟩:=z;exact⟨c,n,pre _ _ z rfl,r⟩
 ·by_cases e:q=p
  ·subst e;exact⟨ps,av,t⟩
  ·obtain⟨p2,e2,t2⟩:=m.tabs q hq;exact⟨p2,by rw[ae e];exact e2,t2⟩
def az (M:Mh) (a:ag) (o:Mo):Mh:=fun b=>if b=a then Xz o else M b
theorem updM_same {a:ag}{o:Mo}:az M a o a=Xz o :=by unfold az;rw[if_pos rfl]
theorem aq {a b:ag}{o:Mo}(h:b≠a):az M a o b=M b :=by unfold az;rw[if_neg h]
theorem updM_updM {a:ag}{o u:Mo}:az (az M a o) a u=az M a u :=by funext b;unfold az;split<;>rfl
theorem gO {p:ag}{o:Mo}{u:HO}(hp:(M p).isSome=true\/H p=none) {v:V}{d:Dv}(h:Rz β M H v d):Rz β (az M p o) (upd H p u) v d :=by
 have ne:∀a x,M a=none->H a=Xz x->a≠p:=fun a x m e z=>by
  subst z;rcases hp with q|q
  ·rw[m]at q;cases q
  ·rw[q]at e;cases e
 induction h with
 |int i=>exact .int i
 |bl b=>exact .bl b
 |ao=>exact .ao
 |str z=>exact .str z
 |tup m e hl h ih=>have n:=ne _ _ m.1 e;exact .tup ⟨by rw[aq n];exact m.1,m.2⟩ (by rw[ae n];exact e) hl ih
 |lst m e hl h ih=>have n:=ne _ _ m.1 e;exact .lst ⟨by rw[aq n];exact m.1,m.2⟩ (by rw[ae n];exact e) hl ih
 |dk m e hk hl h ih=>have n:=ne _ _ m.1 e.there.choose_spec;exact .dk ⟨by rw[aq n];exact m.1,m.2⟩ (e.map fun _ h=>by rw[ae n];exact h) hk hl ih
 |dt m e hk hl h ih=>have n:=ne _ _ m.1 e.there.choose_spec;exact .dt ⟨by rw[aq n];exact m.1,m.2⟩ (e.map fun _ h=>by rw[ae n];exact h) hk hl ih
 |bF m e m2 e2 hl h ih=>have n:=ne _ _ m.1 e;have n2:=ne _ _ m2.1 e2;exact .bF ⟨by rw[aq n];exact m.1,m.2⟩ (by rw[ae n];exact e) ⟨by rw[aq n2];exact m2.1,m2.2⟩ (by rw[ae n2];exact e2) hl ih
 |set m e=>have n:=ne _ _ m.1 e;exact .set ⟨by rw[aq n];exact m.1,m.2⟩ (by rw[ae n];exact e)
 |ptr m=>
  refine .ptr ?_;unfold az;split
  ·rfl
  ·exact m
 |exc m e=>have n:=ne _ _ m.1 e;exact .exc ⟨by rw[aq n];exact m.1,m.2⟩ (by rw[ae n];exact e)
 |bt m e=>have n:=ne _ _ m.1 e;exact .bt ⟨by rw[aq n];exact m.1,m.2⟩ (by rw[ae n];exact e)
 |cu m e=>have n:=ne _ _ m.1 e;exact .cu ⟨by rw[aq n];exact m.1,m.2⟩ (by rw[ae n];exact e)
 |cw e=>exact .cw e
 |raw v=>exact .raw v
theorem iH.upd {p:ag}{o':Mo}{u:HO}(hp:(M p).isSome=true\/H p=none) {a:ag}{o:Mo}(ha:a≠p) (z:iH β M H a o):iH β (az M p o') (L2.upd H p u) a o :=by
 cases o with
 |lst ds=>obtain⟨vs,z,l,r⟩:=z;exact⟨vs,by rw[ae ha];exact z,l,fun i v d a b=>gO hp (r i v d a b)⟩
 |dk ks ds=>obtain⟨vs,z,hk,l,r⟩:=z;exact⟨vs,by rw[ae ha];exact z,hk,l,fun i v d a b=>gO hp (r i v d a b)⟩
 |dt ks ds=>obtain⟨vs,z,hk,l,r⟩:=z;exact⟨vs,by rw[ae ha];exact z,hk,l,fun i v d a b=>gO hp (r i v d a b)⟩
 |ts ks ds=>obtain⟨vs,z,hk,l,r⟩:=z;exact⟨vs,by rw[ae ha];exact z,hk,l,fun i v d a b=>gO hp (r i v d a b)⟩
 |cW=>obtain⟨c,n,z,r⟩:=z;exact⟨c,n,by rw[ae ha];exact z,r⟩
theorem Ex.k4 (m:Mz β M H) {p:ag}{u:HO}{o':Mo}(hp:(M p).isSome=true\/H p=none) (hu:nX u=true) (r:iH β (az M p o') (upd H p u) p o'):Ex β M H (az M p o') (upd H p u) :=by
 have ne:∀a x,M a=none->H a=Xz x->a≠p:=fun a x m e z=>by
  subst z;rcases hp with q|q
  ·rw[m]at q;cases q
  ·rw[q]at e;cases e
 refine⟨⟨fun b u hm q=>.inl ?_,fun a h=>?_,fun a o hm h=>?_⟩,fun a o e=>?_,fun q hq=>?_,fun a ha=>(m.hids a ha).upd (.inr hu),fun a o e z=>?_,fun q hq=>?_⟩
 ·rw[ae (ne b _ hm q)];exact q
 ·unfold az;split
  ·rfl
  ·exact h
 ·rw[aq (ne a _ hm h)];exact hm
 ·by_cases ha:a=p
  ·subst ha;rw[updM_same]at e;cases e;exact r
  ·rw[aq ha]at e;exact(m.obj a o e).upd hp ha
 ·obtain⟨ps,e,t⟩:=m.tabs q hq;exact⟨ps,by rw[ae (ne q _ (m.QX hq) e)];exact e,t⟩
 ·by_cases ha:a=p
  ·subst ha;rcases hp with h|h
   ·cases q:M a with
    |none=>rw[q]at h;cases h
    |some u=>exact m.apart a u q z
   ·obtain⟨u,hu,_⟩:=m.hids a z;rw[h]at hu;cases hu
  ·rw[aq ha]at e;exact m.apart a o e z
 ·exact(m.lams q hq).keep (fun _ e=>by rw[ae (ne q.1 _ (m.NZ hq) e)];exact e) fun c _ _ e=>by rw[ae (ne c _ (m.lu e rfl) e)];exact e
theorem Ex.own (m:Mz β M H) {p:ag}{vs:List V}{ds:List Dv}(hp:(M p).isSome=true\/H p=none) (r:aD β M H vs ds):Ex β M H (az M p (.lst ds)) (upd H p (.lst vs)):=
 Ex.k4 m hp rfl ⟨vs,av,r.len,fun i v d a b=>gO hp (r.at' i v d a b)⟩
theorem Ex.T8 (m:Mz β M H) {p:ag}{ks:List Key}{vs:List V}{ds:List Dv}(hp:(M p).isSome=true\/H p=none) (hk:ks.length=vs.length) (r:aD β M H vs ds):Ex β M H (az M p (.dk ks ds)) (upd H p (.dK (ks.zip vs))):=
 Ex.k4 m hp rfl ⟨vs,av,hk,r.len,fun i v d a b=>gO hp (r.at' i v d a b)⟩
theorem Ex.T9 (m:Mz β M H) {p:ag}{ks:List (List Key)}{vs:List V}{ds:List Dv}(hp:(M p).isSome=true\/H p=none) (hk:ks.length=vs.length) (r:aD β M H vs ds):Ex β M H (az M p (.dt ks ds)) (upd H p (.dT (ks.zip vs))):=
 Ex.k4 m hp rfl ⟨vs,av,hk,r.len,fun i v d a b=>gO hp (r.at' i v d a b)⟩
abbrev Bz.add (β:Bz) (D:ag):Bz:={β with hid:=D::β.hid}
theorem Rz.enter {D:ag}{o:HO}(hD:H D=none) {v:V}{d:Dv}(h:Rz β M H v d):Rz (β.add D) M (upd H D o) v d :=by
 have ne:∀a x,Fz β M a->H a=some x->Fz (β.add D) M a:=fun a x m e=>⟨m.1,by
  intro z;rcases l8.mp z with z|z
  ·subst z;rw[hD]at e;cases e
  ·exact m.2 z⟩
 have pre:∀a x,H a=some x->upd H D o a=some x:=fun a x e=>by rw[ae (aX e hD)];exact e
 induction h with
 |int i=>exact .int i
 |bl b=>exact .bl b
 |ao=>exact .ao
 |str z=>exact .str z
 |tup m e hl h ih=>exact .tup (ne _ _ m e) (pre _ _ e) hl ih
 |lst m e hl h ih=>exact .lst (ne _ _ m e) (pre _ _ e) hl ih
 |dk m e hk hl h ih=>exact .dk (ne _ _ m e.there.choose_spec) (e.map fun _ h=>pre _ _ h) hk hl ih
 |dt m e hk hl h ih=>exact .dt (ne _ _ m e.there.choose_spec) (e.map fun _ h=>pre _ _ h) hk hl ih
 |bF m e m2 e2 hl h ih=>exact .bF (ne _ _ m e) (pre _ _ e) (ne _ _ m2 e2) (pre _ _ e2) hl ih
 |set m e=>exact .set (ne _ _ m e) (pre _ _ e)
 |ptr m=>exact .ptr m
 |exc m e=>exact .exc (ne _ _ m e) (pre _ _ e)
 |bt m e=>exact .bt (ne _ _ m e) (pre _ _ e)
 |cu m e=>exact .cu (ne _ _ m e) (pre _ _ e)
 |cw e=>exact .cw e
 |raw v=>exact .raw v
theorem Rz.sub {cK:Bz}(hP:cK.P=β.P) (hw:cK.w=β.w) (hK:cK.K=β.K) (hs:∀a,a∈cK.hid->a∈β.hid) {v:V}{d:Dv}(h:Rz β M H v d):Rz cK M H v d :=by
 have ne:∀a,Fz β M a->Fz cK M a:=fun a m=>⟨m.1,fun z=>m.2 (hs a z)⟩
 induction h with
 |int i=>exact .int i
 |bl b=>exact .bl b
 |ao=>exact .ao
 |str z=>exact .str z
 |tup m e hl h ih=>exact .tup (ne _ m) e hl ih
 |lst m e hl h ih=>exact .lst (ne _ m) e hl ih
 |dk m e hk hl h ih=>exact .dk (ne _ m) e hk hl ih
 |dt m e hk hl h ih=>exact .dt (ne _ m) e hk hl ih
 |bF m e m2 e2 hl h ih=>exact .bF (ne _ m) e (ne _ m2) e2 hl ih
 |set m e=>exact .set (ne _ m) (by rw[hP,hw];exact e)
 |ptr m=>exact .ptr m
 |exc m e=>exact .exc (ne _ m) e
 |bt m e=>exact .bt (ne _ m) e
 |cu m e=>exact .cu (ne _ m) e
 |cw e=>exact .cw (by rw[hK];exact e)
 |raw v=>exact .raw v
theorem Mz.sub {cK:Bz}(hP:cK.P=β.P) (hw:cK.w=β.w) (hK:cK.K=β.K) (ht:cK.tb=β.tb) (hs:∀a,a∈cK.hid->a∈β.hid) (m:Mz β M H):Mz cK M H:=⟨fun a o e=>by
 have z:=m.obj a o e;cases o with
 |lst ds=>obtain⟨vs,z,l,r⟩:=z;exact⟨vs,z,l,fun i v d a b=>(r i v d a b).sub hP hw hK hs⟩
 |dk ks ds=>obtain⟨vs,z,hk,l,r⟩:=z;exact⟨vs,z,hk,l,fun i v d a b=>(r i v d a b).sub hP hw hK hs⟩
 |dt ks ds=>obtain⟨vs,z,hk,l,r⟩:=z;exact⟨vs,z,hk,l,fun i v d a b=>(r i v d a b).sub hP hw hK hs⟩
 |ts ks ds=>obtain⟨vs,z,hk,l,r⟩:=z;exact⟨vs,by rw[hP,hw];exact z,hk,l,fun i v d a b=>(r i v d a b).sub hP hw hK hs⟩
 |cW=>exact z,by rw[ht];exact m.tabs,fun a ha=>m.hids a (hs a ha),fun a o e z=>m.apart a o e (hs a z),by rw[ht];exact m.lams⟩
theorem Mz.enter {D:ag}{o:HO}(hD:H D=none) (ho:nX o=true) (m:Mz β M H):Mz (β.add D) M (upd H D o):=⟨fun a u e=>by
 have pre:∀a x,H a=Xz x->upd H D o a=Xz x:=fun a x e=>by rw[ae (aX e hD)];exact e
 have z:=m.obj a u e;cases u with
 |lst ds=>obtain⟨vs,z,l,r⟩:=z;exact⟨vs,pre _ _ z,l,fun i v d a b=>(r i v d a b).enter hD⟩
 |dk ks ds=>obtain⟨vs,z,hk,l,r⟩:=z;exact⟨vs,pre _ _ z,hk,l,fun i v d a b=>(r i v d a b).enter hD⟩
 |dt ks ds=>obtain⟨vs,z,hk,l,r⟩:=z;exact⟨vs,pre _ _ z,hk,l,fun i v d a b=>(r i v d a b).enter hD⟩
 |ts ks ds=>obtain⟨vs,z,hk,l,r⟩:=z;exact⟨vs,pre _ _ z,hk,l,fun i v d a b=>(r i v d a b).enter hD⟩
 |cW=>obtain⟨c,n,z,r⟩:=z;exact⟨c,n,pre _ _ z,r⟩,fun p hp=>by
 obtain⟨ps,e,t⟩:=m.tabs p hp;exact⟨ps,by rw[ae (aX e hD)];exact e,t⟩,fun a ha=>by
 rcases l8.mp ha with z|z
 ·subst z;exact⟨_,av,ho⟩
 ·exact(m.hids a z).upd (.inl hD),fun a o e ha=>by
 rcases l8.mp ha with z|z
 ·subst z;rw[m.free hD]at e;cases e
 ·exact m.apart a o e z,fun q hq=>(m.lams q hq).keep (fun _ e=>by rw[ae (aX e hD)];exact e) fun _ _ _ e=>by rw[ae (aX e hD)];exact e⟩
theorem Rz.over {D:ag}{o:HO}(hD:D∈β.hid) {v:V}{d:Dv}(h:Rz β M H v d):Rz β M (upd H D o) v d :=by
 have pre:∀a x,Fz β M a->H a=some x->upd H D o a=some x:=fun a x m e=>by
  have n:a≠D:=fun z=>by subst z;exact m.2 hD
  rw[ae n];exact e
 induction h with
 |int i=>exact .int i
 |bl b=>exact .bl b
 |ao=>exact .ao
 |str z=>exact .str z
 |tup m e hl h ih=>exact .tup m (pre _ _ m e) hl ih
 |lst m e hl h ih=>exact .lst m (pre _ _ m e) hl ih
 |dk m e hk hl h ih=>exact .dk m (e.map fun _ h=>pre _ _ m h) hk hl ih
 |dt m e hk hl h ih=>exact .dt m (e.map fun _ h=>pre _ _ m h) hk hl ih
 |bF m e m2 e2 hl h ih=>exact .bF m (pre _ _ m e) m2 (pre _ _ m2 e2) hl ih
 |set m e=>exact .set m (pre _ _ m e)
 |ptr m=>exact .ptr m
 |exc m e=>exact .exc m (pre _ _ m e)
 |bt m e=>exact .bt m (pre _ _ m e)
 |cu m e=>exact .cu m (pre _ _ m e)
 |cw e=>exact .cw e
 |raw v=>exact .raw v
theorem Mz.over {D:ag}{o:HO}(hD:D∈β.hid) (ho:nX o=true) (hM:M D=none) (ht:D ∉ β.tb) (m:Mz β M H):Mz β M (upd H D o):=⟨fun a u e=>by
 have na:a≠D:=fun z=>by subst z;rw[hM]at e;cases e
 have z:=m.obj a u e;cases u with
 |lst ds=>obtain⟨vs,z,l,r⟩:=z;exact⟨vs,by rw[ae na];exact z,l,fun i v d a b=>(r i v d a b).over hD⟩
 |dk ks ds=>obtain⟨vs,z,hk,l,r⟩:=z;exact⟨vs,by rw[ae na];exact z,hk,l,fun i v d a b=>(r i v d a b).over hD⟩
 |dt ks ds=>obtain⟨vs,z,hk,l,r⟩:=z;exact⟨vs,by rw[ae na];exact z,hk,l,fun i v d a b=>(r i v d a b).over hD⟩
 |ts ks ds=>obtain⟨vs,z,hk,l,r⟩:=z;exact⟨vs,by rw[ae na];exact z,hk,l,fun i v d a b=>(r i v d a b).over hD⟩
 |cW=>obtain⟨c,n,z,r⟩:=z;exact⟨c,n,by rw[ae na];exact z,r⟩,fun p hp=>by
 obtain⟨ps,e,t⟩:=m.tabs p hp;have n:p≠D:=fun z=>by subst z;exact ht hp
 exact⟨ps,by rw[ae n];exact e,t⟩,fun a ha=>(m.hids a ha).upd (.inr ho),m.apart,fun q hq=>by
 obtain⟨o',e',n⟩:=m.hids D hD;exact(m.lams q hq).keep (fun _ e=>by rw[ae (fun z=>by subst z;rw[e']at e;cases e;cases n)];exact e) fun c _ _ e=>by rw[ae (fun z=>by subst z;rw[e']at e;cases e;cases n)];exact e⟩
theorem Ey.over {D:ag}{o:HO}(x:Ey M H M1 H1) (hD:H D=none):Ey M H M1 (upd H1 D o):=⟨fun b u m h=>by
 have nb:b≠D:=aX h hD;rw[ae nb];exact x.keep b u m h,x.dom,x.new⟩
theorem Mz.Gw {D:ag}(m:Mz β M H) (hD:H D=none):D ∉ β.tb:=fun z=>by
 obtain⟨_,e,_⟩:=m.tabs D z;rw[hD]at e;cases e
structure Bx (β cK:Bz) (H:Hp):Prop where
 P:cK.P=β.P
 w:cK.w=β.w
 K:cK.K=β.K
 tb:cK.tb=β.tb
 old:∀a,a∈β.hid->a∈cK.hid
 new:∀a,a∈cK.hid->a∈β.hid\/H a=none
theorem Bx.refl:Bx β β H:=⟨rfl,rfl,rfl,rfl,fun _ h=>h,fun _ h=>.inl h⟩
theorem Bx.add {D:ag}(hD:H D=none):Bx β (β.add D) H:=⟨rfl,rfl,rfl,rfl,fun _ h=>f8 _ h,fun a h=>by
 rcases l8.mp h with z|z
 ·exact .inr (z▸hD)
 ·exact .inl z⟩
theorem Rz.bx {cK:Bz}(b:Bx β cK H) {v:V}{d:Dv}(h:Rz β M H v d):Rz cK M H v d :=by
 have ne:∀a x,Fz β M a->H a=some x->Fz cK M a:=fun a x m e=>⟨m.1,fun z=>by
  rcases b.new a z with q|q
  ·exact m.2 q
  ·rw[q]at e;cases e⟩
 induction h with
 |int i=>exact .int i
 |bl b=>exact .bl b
 |ao=>exact .ao
 |str z=>exact .str z
 |tup m e hl h ih=>exact .tup (ne _ _ m e) e hl ih
 |lst m e hl h ih=>exact .lst (ne _ _ m e) e hl ih
 |dk m e hk hl h ih=>exact .dk (ne _ _ m e.there.choose_spec) e hk hl ih
 |dt m e hk hl h ih=>exact .dt (ne _ _ m e.there.choose_spec) e hk hl ih
 |bF m e m2 e2 hl h ih=>exact .bF (ne _ _ m e) e (ne _ _ m2 e2) e2 hl ih
 |set m e=>exact .set (ne _ _ m e) (by rw[b.P,b.w];exact e)
 |ptr m=>exact .ptr m
 |exc m e=>exact .exc (ne _ _ m e) e
 |bt m e=>exact .bt (ne _ _ m e) e
 |cu m e=>exact .cu (ne _ _ m e) e
 |cw e=>exact .cw (by rw[b.K];exact e)
 |raw v=>exact .raw v
end
inductive Pin (M:Mh):Dv->Prop where
 |int (i:Int):Pin M (.int i)
 |bl (b:Bool):Pin M (.bl b)
 |ao:Pin M .ao
 |str (z:bv):Pin M (.str z)
 |tup {ds:List Dv} (h:∀d∈ds,Pin M d):Pin M (.tup ds)
 |lst {ds:List Dv} (h:∀d∈ds,Pin M d):Pin M (.lst ds)
 |set (ns:List Int):Pin M (.set ns)
 |ptr {a:ag} (h:(M a).isSome=true):Pin M (.ptr a)
 |exc (C:ag):Pin M (.exc C)
 |bt (ns:List Int):Pin M (.bt ns)
 |raw (v:V):Pin M (.raw v)
 |dk {ks:List Key} {ds:List Dv} (h:∀d∈ds,Pin M d):Pin M (.dk ks ds)
 |dt {ks:List (List Key)} {ds:List Dv} (h:∀d∈ds,Pin M d):Pin M (.dt ks ds)
 |bF {f c:ag} {o oc:lc} {vs:List V} {ds:List Dv} (h:∀d∈ds,Pin M d):Pin M (.bF f o c oc vs ds)
theorem Rz.pin {β:Bz}{M:Mh}{H:Hp}{v:V}{d:Dv}(h:Rz β M H v d):Pin M d :=by
 induction h with
 |int i=>exact .int i
 |bl b=>exact .bl b
 |ao=>exact .ao
 |str z=>exact .str z
 |tup m e hl h ih=>
  refine .tup fun d hd=>?_
  obtain⟨i,hi⟩:=qr.mp hd;have h1:=(cr.mp hi).1;exact ih i _ d (ar (by omega)) hi
 |lst m e hl h ih=>
  refine .lst fun d hd=>?_
  obtain⟨i,hi⟩:=qr.mp hd;have h1:=(cr.mp hi).1;exact ih i _ d (ar (by omega)) hi
 |dk m e hk hl h ih=>
  refine .dk fun d hd=>?_
  obtain⟨i,hi⟩:=qr.mp hd;have h1:=(cr.mp hi).1;exact ih i _ d (ar (by omega)) hi
 |dt m e hk hl h ih=>
  refine .dt fun d hd=>?_
  obtain⟨i,hi⟩:=qr.mp hd;have h1:=(cr.mp hi).1;exact ih i _ d (ar (by omega)) hi
 |bF m e m2 e2 hl h ih=>
  refine .bF fun d hd=>?_
  obtain⟨i,hi⟩:=qr.mp hd;have h1:=(cr.mp hi).1;exact ih i _ d (ar (by omega)) hi
 |set m e=>exact .set _
 |ptr m=>exact .ptr m
 |exc m e=>exact .exc _
 |bt m e=>exact .bt _
 |cu m e=>exact .bt _
 |cw e=>exact .bt _
 |raw v=>exact .raw v
def Mo.items:Mo->List Dv
 | .lst ds=>ds
 | .dk _ ds=>ds
 | .dt _ ds=>ds
 | .ts _ ds=>ds
 | .cW=>[]
def Wf (M:Mh):Prop:=∀b o,M b=some o->∀d∈o.items,Pin M d
theorem iH.Vp {β:Bz}{M:Mh}{H:Hp}{a:ag}{o:Mo}(h:iH β M H a o):∃vs,aD β M H vs o.items :=by
 cases o with
 |lst ds=>obtain⟨vs,_,rs⟩:=h;exact⟨vs,rs⟩
 |dk ks ds=>obtain⟨vs,_,_,rs⟩:=h;exact⟨vs,rs⟩
 |dt ks ds=>obtain⟨vs,_,_,rs⟩:=h;exact⟨vs,rs⟩
 |ts ks ds=>obtain⟨vs,_,_,rs⟩:=h;exact⟨vs,rs⟩
 |cW=>exact⟨[],.nil⟩
theorem Mz.wf {β:Bz}{M:Mh}{H:Hp}(m:Mz β M H):Wf M:=fun b o e d hd=>by
 obtain⟨vs,rs⟩:=(m.obj b _ e).Vp;obtain⟨i,hi⟩:=qr.mp hd;obtain⟨v,_,r⟩:=rs.get hi;exact r.pin
abbrev aC:=List (Option Dv)
abbrev ZK:=Dv->Mh->Prop
abbrev aG:=aC->Mh->ZK->Prop
abbrev cT:=aC->Mh->(Bool->Mh->Prop)->Prop
abbrev dm:=aC->Mh->(List Dv->Mh->Prop)->Prop
structure gP where
 nx:aC->Mh->Prop
 rt:ZK
 bk:aC->Mh->Prop:=fun _ _=>False
 ct:aC->Mh->Prop:=fun _ _=>False
abbrev bT:=gP->aC->Mh->Prop
abbrev c9:=Dv->aC->Mh->(aC->Mh->Prop)->Prop
abbrev nZ:=List Dv->aC->Mh->(aC->Mh->Prop)->Prop
abbrev gB:=aC->Mh->(List Dv->Mh->Prop)->Prop
structure Gz extends Bz where
 M0:Mh
 H0:Hp
structure Zr (Γ:Gz) (β:Bz) (M:Mh) (ρ:aC) (σ:St) (H:Hp):Prop where
 eP:β.P=Γ.P
 ew:β.w=Γ.w
 eK:β.K=Γ.K
 et:β.tb=Γ.tb
 sub:∀a,a∈Γ.hid->a∈β.hid
 wf:Wf Γ.M0
 ent:Ey Γ.M0 Γ.H0 M H
 mz:Mz β M H
 len:ρ.length=σ.length
 at':∀(i:Nat) (d:Dv),ρ[i]?=some (some d)->∃v,σ[i]?=some (some v)/\Rz β M H v d
section
variable {Γ:Gz}{β:Bz}{M M':Mh}{ρ:aC}{σ:St}{H H':Hp}
theorem Zr.step (z:Zr Γ β M ρ σ H) (x:Ex β M H M' H'):Zr Γ β M' ρ σ H':=⟨z.eP,z.ew,z.eK,z.et,z.sub,z.wf,z.ent.trans x.toEy,x.mz,z.len,fun i d e=>let ⟨v,h,r⟩:=z.at' i d e;⟨v,h,r.ex x⟩⟩
theorem Zr.set (z:Zr Γ β M ρ σ H) (i:Nat) {v:V}{d:Dv}(r:Rz β M H v d):Zr Γ β M (ρ.set i (some d)) (σ.set i (some v)) H:=⟨z.eP,z.ew,z.eK,z.et,z.sub,z.wf,z.ent,z.mz,by simp[z.len],fun j e h=>by
 rw[Zt]at h ⊢;rw[z.len]at h;split at h
 ·rename_i q;rw[if_pos q];split at h
  ·rename_i q2;rw[if_pos q2];cases h;exact⟨v,rfl,r⟩
  ·cases h
 ·rename_i q;rw[if_neg q];exact z.at' j e h⟩
end
def lE (Γ:Gz) (p:aG):TE:=fun σ H Q=>∃(β:Bz) (ρ:aC) (M:Mh) (Q':ZK),Zr Γ β M ρ σ H/\p ρ M Q'/\∀d M' v H',Ex β M H M' H'->Rz β M' H' v d->Q' d M'->Q v H'
def lT (Γ:Gz) (p:cT):TT:=fun σ H Q=>∃(β:Bz) (ρ:aC) (M:Mh) (Q':Bool->Mh->Prop),Zr Γ β M ρ σ H/\p ρ M Q'/\∀b M' H',Ex β M H M' H'->Q' b M'->Q b H'
def lA (Γ:Gz) (p:dm):TA:=fun σ H Q=>∃(β:Bz) (ρ:aC) (M:Mh) (Q':List Dv->Mh->Prop),Zr Γ β M ρ σ H/\p ρ M Q'/\∀ds M' vs H',Ex β M H M' H'->aD β M' H' vs ds->Q' ds M'->Q vs H'
structure Ev (β:Bz) (M:Mh) (H:Hp) (M':Mh) (H':Hp):Prop where
 keep:∀b o,M b=none->H b=some o->H' b=some o\/∃o',Tg o o'/\H' b=some o'
 new:∀a o,M a=none->H a=some o->M' a=none
 mz:Mz β M' H'
theorem Ex.ev {β:Bz}{M M':Mh}{H H':Hp}(x:Ex β M H M' H'):Ev β M H M' H':=⟨x.keep,x.new,x.mz⟩
theorem Ev.refl {β:Bz}{M:Mh}{H:Hp}(m:Mz β M H):Ev β M H M H:=(Ex.refl m).ev
theorem Ev.trans {β:Bz}{M M1 M2:Mh}{H H1 H2:Hp}(x:Ev β M H M1 H1) (y:Ev β M1 H1 M2 H2):Ev β M H M2 H2 :=by
 refine⟨fun b o hm h=>?_,fun a o hm h=>?_,y.mz⟩
 ·have ng:=x.new b o hm h;rcases x.keep b o hm h with q|⟨o1,t,q⟩
  ·exact y.keep b o ng q
  ·rcases y.keep b _ ng q with q2|⟨o2,t2,q2⟩
   ·exact .inr ⟨o1,t,q2⟩
   ·exact .inr ⟨o2,t.trans t2,q2⟩
 ·have ng:=x.new a o hm h;rcases x.keep a o hm h with q|⟨o1,t,q⟩
  ·exact y.new a _ ng q
  ·exact y.new a _ ng q
structure Bg (Γ:Gz) (β:Bz) (M:Mh) (H:Hp) (D':gP) (D:Ends):Prop where
 nx:∀bG M' aF H',Ev β M H M' H'->Zr Γ β M' bG aF H'->D'.nx bG M'->D.nx aF H'
 rt:∀d M' v H',Ev β M H M' H'->Ey Γ.M0 Γ.H0 M' H'->Rz β M' H' v d->D'.rt d M'->D.rt v H'
 bk:∀bG M' aF H',Ev β M H M' H'->Zr Γ β M' bG aF H'->D'.bk bG M'->D.bk aF H'
 ct:∀bG M' aF H',Ev β M H M' H'->Zr Γ β M' bG aF H'->D'.ct bG M'->D.ct aF H'
theorem Bg.step {Γ:Gz}{β:Bz}{M M1:Mh}{H H1:Hp}{D':gP}{D:Ends}(r:Bg Γ β M H D' D) (x:Ev β M H M1 H1):Bg Γ β M1 H1 D' D:=
 ⟨fun a b c d y=>r.nx a b c d (x.trans y),fun a b c d y=>r.rt a b c d (x.trans y),fun a b c d y=>r.bk a b c d (x.trans y),fun a b c d y=>r.ct a b c d (x.trans y)⟩
def lS (Γ:Gz) (p:bT):TS:=fun D σ H=>∃(β:Bz) (ρ:aC) (M:Mh) (D':gP),Zr Γ β M ρ σ H/\p D' ρ M/\Bg Γ β M H D' D
def lG (Γ:Gz) (p:c9):TG:=fun x σ H N=>∃(β:Bz) (d:Dv) (ρ:aC) (M:Mh) (N':aC->Mh->Prop),Zr Γ β M ρ σ H/\Rz β M H x d/\p d ρ M N'/\∀bG M' aF H',Ex β M H M' H'->Zr Γ β M' bG aF H'->N' bG M'->N aF H'
def Vq (Γ:Gz) (p:nZ):qT:=fun xs σ H N=>∃(β:Bz) (ds:List Dv) (ρ:aC) (M:Mh) (N':aC->Mh->Prop),Zr Γ β M ρ σ H/\aD β M H xs ds/\p ds ρ M N'/\∀bG M' aF H',Ex β M H M' H'->Zr Γ β M' bG aF H'->N' bG M'->N aF H'
def DE (β:Bz) (J:It) (ds:List Dv) (M:Mh) (H:Hp):Prop:=∀cK M' H',Bx β cK H->Ey M H M' H'->Mz cK M' H'->∀i,(i<ds.length->J.go i H'/\∀x n5,J.yld i H' x n5->Ex cK M' H' M' n5/\∃d,ds[i]?=some d/\Rz cK M' n5 x d)/\(ds.length<=i->J.stop i H')
def lI (Γ:Gz) (p:gB):TI:=fun σ H R=>∃(β:Bz) (ρ:aC) (M:Mh) (R':List Dv->Mh->Prop),Zr Γ β M ρ σ H/\p ρ M R'/\∀ds M' H' J,Ex β M H M' H'->DE β J ds M' H'->R' ds M'->R J H'
abbrev QE (Γ:Gz) (X:Cx) (e:dL) (p:aG):Prop:=PE X e (lE Γ p)
abbrev QT (Γ:Gz) (X:Cx) (e:dL) (p:cT):Prop:=PT X e (lT Γ p)
abbrev QW (Γ:Gz) (X:Cx) (e:dL) (p:cT):Prop:=PW X e (lT Γ p)
abbrev QA (Γ:Gz) (X:Cx) (es:List dL) (p:dm):Prop:=PA X es (lA Γ p)
abbrev QS (Γ:Gz) (X:Cx) (s:ut) (p:bT):Prop:=PS X s (lS Γ p)
abbrev kD (Γ:Gz) (X:Cx) (s:List ut) (p:bT):Prop:=eZ X s (lS Γ p)
abbrev QG (Γ:Gz) (X:Cx) (e:dL) (p:c9):Prop:=PG X e (lG Γ p)
abbrev Iq (Γ:Gz) (X:Cx) (e:List dL) (p:nZ):Prop:=t8 X e (Vq Γ p)
abbrev QI (Γ:Gz) (X:Cx) (tg e:dL) (p:gB):Prop:=PI X tg e (lI Γ p)
section
variable {X:Cx}
theorem PE.imp {e:dL}{t t':TE}(h:PE X e t) (i:∀σ H Q,t' σ H Q->t σ H Q):PE X e t':=⟨fun pins s σ H Q I q=>h pins s σ H Q I (i _ _ _ q)⟩
theorem PT.imp {e:dL}{t t':TT}(h:PT X e t) (i:∀σ H Q,t' σ H Q->t σ H Q):PT X e t':=⟨fun pins s σ H Q I q=>h pins s σ H Q I (i _ _ _ q)⟩
theorem PW.imp {e:dL}{t t':TT}(h:PW X e t) (i:∀σ H Q,t' σ H Q->t σ H Q):PW X e t':=fun wh pins s σ H Q I q=>h wh pins s σ H Q I (i _ _ _ q)
theorem PA.imp {e:List dL}{t t':TA}(h:PA X e t) (i:∀σ H Q,t' σ H Q->t σ H Q):PA X e t':=⟨fun pos pins s σ H Q I q=>h pos pins s σ H Q I (i _ _ _ q)⟩
theorem PS.imp {e:ut}{t t':TS}(h:PS X e t) (i:∀D σ H,t' D σ H->t D σ H):PS X e t':=⟨fun pins s σ H D I q=>h pins s σ H D I (i _ _ _ q)⟩
theorem eZ.imp {e:List ut}{t t':TS}(h:eZ X e t) (i:∀D σ H,t' D σ H->t D σ H):eZ X e t':=⟨fun pins s σ H D I q=>h pins s σ H D I (i _ _ _ q)⟩
theorem PG.imp {e:dL}{t t':TG}(h:PG X e t) (i:∀v σ H Q,t' v σ H Q->t v σ H Q):PG X e t':=fun pins s σ H v u Q I r q=>h pins s σ H v u Q I r (i _ _ _ _ q)
theorem t8.imp {e:List dL}{t t':qT}(h:t8 X e t) (i:∀v σ H Q,t' v σ H Q->t v σ H Q):t8 X e t':=fun pins s σ H v u Q I r q=>h pins s σ H v u Q I r (i _ _ _ _ q)
theorem PI.imp {tg e:dL}{t t':TI}(h:PI X tg e t) (i:∀σ H Q,t' σ H Q->t σ H Q):PI X tg e t':=fun pins s σ H Q I q=>h pins s σ H Q I (i _ _ _ q)
theorem iF.imp {e:List dL}{t t':TT}(h:iF X e t) (i:∀σ H Q,t' σ H Q->t σ H Q):iF X e t':=fun pins s σ H Q I q=>h pins s σ H Q I (i _ _ _ q)
variable {Γ:Gz}{a b c:dL}{pa pb pc:aG}{pos:ww}
def zVar (i:Nat):aG:=fun ρ M Q=>match ρ[i]? with|some (some d)=>Q d M|_=>False
def zC (d:Dv):aG:=fun _ M Q=>Q d M
theorem N0 {i:Nat}{x:bv}(hN:X.N[i]?=some x) (hv:pE X.env.scope x) (hd:(x==("__debug__" : bv))=false :=by decide) (dI:(x==("__classdict__" : bv))=false :=by decide):QE Γ X (.Name x pos) (zVar i):=
 (vJ hN hv hd dI).imp fun σ H Q ⟨β,ρ,M,Q',z,h,q⟩=>by
  unfold zVar at h;split at h
  ·rename_i d e;obtain⟨v,e2,r⟩:=z.at' i d e;exact⟨v,e2,q d M v H (.refl z.mz) r h⟩
  ·exact h.elim
theorem qc {e:dL}{v:V}{d:Dv}(h:PE X e (tC v)) (r:∀β M H,Rz β M H v d):QE Γ X e (zC d):=h.imp fun σ H Q ⟨β,ρ,M,Q',z,h,q⟩=>q d M v H (.refl z.mz) (r β M H) h
theorem ay {i j pos}:QE Γ X (.Constant (.int i) j pos) (zC (.int i)):=qc Lz fun _ _ _=>.int _
theorem kG {b j pos}:QE Γ X (.Constant (.bool b) j pos) (zC (.bl b)):=qc Qf fun _ _ _=>.bl _
theorem rP {x j pos}:QE Γ X (.Constant (.str x) j pos) (zC (.str x)):=qc LA fun _ _ _=>.str _
theorem wY {x:bv}{i:Int}{u:ap}(hg:Gl X x) (hm:X.mg x=some u) (r:RelV (.int i) u) (hd:(x==("__debug__" : bv))=false :=by decide):QE Γ X (.Name x pos) (zC (.int i)):=qc (sL hg hm r hd) fun _ _ _=>.int _
theorem Gx {x z:bv}{u:ap}(hg:Gl X x) (hm:X.mg x=some u) (r:RelV (.str z) u) (hd:(x==("__debug__" : bv))=false :=by decide):QE Γ X (.Name x pos) (zC (.str z)):=qc (sL hg hm r hd) fun _ _ _=>.str _
theorem bK {x:bv}{v:V}{u:ap}(hg:Gl X x) (hm:X.mg x=some u) (r:RelV v u) (hd:(x==("__debug__" : bv))=false :=by decide):QE Γ X (.Name x pos) (zC (.raw v)):=qc (sL hg hm r hd) fun _ _ _=>.raw _
theorem lx {x:bv}{v:V}{u:ap}(hg:Gl X x) (hm:X.mg x=none) (hv:bootBuiltins x=some u) (r:RelV v u) (hn:x ≠ "__name__" := by decide) (hd:(x==("__debug__" : bv))=false :=by decide):QE Γ X (.Name x pos) (zC (.raw v)):=qc (Jq hg hm hv r hn hd) fun _ _ _=>.raw _
abbrev eC:=Dv->Dv->Mh->ZK->Prop
def rQ (Γ:Gz) (r:R2) (z:eC):Prop:=∀(β:Bz) x y d e M H Q Q',β.P=Γ.P->β.w=Γ.w->β.K=Γ.K->Mz β M H->Rz β M H x d->Rz β M H y e->z d e M Q'->(∀d' M' v H',Ex β M H M' H'->Rz β M' H' v d'->Q' d' M'->Q v H')->r x y H Q
def fi (Γ:Gz) (X:Cx) (f:ap->ap->Zp ap) (z:eC):Prop:=∃r,OpR X f r/\rQ Γ r z
def zOp (z:eC) (pa pb:aG):aG:=fun ρ M Q=>pa ρ M fun d M1=>pb ρ M1 fun e M2=>z d e M2 Q
theorem Bh {r:R2}{z:eC}(hz:rQ Γ r z) {σ:St}{H:Hp}{Q:VK}(h:lE Γ (zOp z pa pb) σ H Q):Ct r (lE Γ pa) (lE Γ pb) σ H Q :=by
 obtain⟨β,ρ,M,Q',zr,h,q⟩:=h;exact⟨β,ρ,M,_,zr,h,fun d M1 v H1 x1 r1 h1=>⟨β,ρ,M1,_,zr.step x1,h1,fun e M2 u H2 x2 r2 h2=>hz β v u d e M2 H2 Q Q' zr.eP zr.ew zr.eK x2.mz (r1.ex x2) r2 h2 fun d' M' v' H' x3 r3 q3=>q _ _ _ _ (x1.trans (x2.trans x3)) r3 q3⟩⟩
theorem aR {op:Operator}{z:eC}(ho:fi Γ X (binaryOp op) z) (ha:QE Γ X a pa) (hb:QE Γ X b pb):QE Γ X (.BinOp a op b pos) (zOp z pa pb) :=by
 obtain⟨r,h1,h2⟩:=ho;exact(Qo h1 ha hb).imp fun σ H Q h=>Bh h2 h
theorem sY {op:XJ}{z:eC}(ho:fi Γ X (compareOp op) z) (ha:QE Γ X a pa) (hb:QE Γ X b pb) (hm:behindInMarks op b=false):QE Γ X (.Compare a [op] [b] pos) (zOp z pa pb) :=by
 obtain⟨r,h1,h2⟩:=ho;exact(Jw h1 ha hb hm).imp fun σ H Q h=>Bh h2 h
def zBool (Q:Bool->Mh->Prop):ZK:=fun d M=>match d with | .bl k=>Q k M|_=>False
theorem ia {Q:Bool->Mh->Prop}{d:Dv}{M:Mh}(h:zBool Q d M):∃k,d=.bl k/\Q k M :=by
 unfold zBool at h;split at h
 ·exact⟨_,rfl,h⟩
 ·exact h.elim
def zTest (p:aG):cT:=fun ρ M Q=>p ρ M (zBool Q)
theorem wZ {p:aG}{t:TE}(i:∀σ H Q,lE Γ p σ H Q->t σ H Q) {σ:St}{H:Hp}{Q:Bool->Hp->Prop}(h:lT Γ (zTest p) σ H Q):Ar t σ H Q :=by
 obtain⟨β,ρ,M,Q',zr,h,q⟩:=h;refine i _ _ _ ⟨β,ρ,M,_,zr,h,fun d M1 v H1 x1 r1 h1=>?_⟩
 obtain⟨k,rfl,h2⟩:=ia h1;exact⟨k,cz r1,q k M1 H1 x1 h2⟩
theorem cA {op:XJ}{z:eC}(ho:fi Γ X (compareOp op) z) (ha:QE Γ X a pa) (hb:QE Γ X b pb) (hm:behindInMarks op b=false):QT Γ X (.Compare a [op] [b] pos) (zTest (zOp z pa pb)) :=by
 obtain⟨r,h1,h2⟩:=ho;exact(Jx h1 ha hb hm).imp fun σ H Q h=>wZ (fun _ _ _=>Bh h2) h
theorem gQ {e:dL}{p:aG}(h:QE Γ X e p) (he:∀whole,isTrue e X.env whole=(do let v <- whole;standAt e.pos;holding [v] (truthy v)) :=by intro _;rfl):QT Γ X e (zTest p):=
 (LC h he).imp fun σ H Q h=>wZ (fun _ _ _ h=>h) h
def zChain (z z':eC) (pa pb pc:aG):aG:=fun ρ M Q=>pa ρ M fun x M1=>pb ρ M1 fun y M2=>z x y M2 (zBool fun k M3=>if k=true then pc ρ M3 fun u M4=>z' y u M4 Q else Q (.bl false) M3)
theorem zK {r r':R2}{z z':eC}(hz:rQ Γ r z) (Vr:rQ Γ r' z') {σ:St}{H:Hp}{Q:VK}(h:lE Γ (zChain z z' pa pb pc) σ H Q):vQ r r' (lE Γ pa) (lE Γ pb) (lE Γ pc) σ H Q :=by
 obtain⟨β,ρ,M,Q',zr,h,q⟩:=h;refine⟨β,ρ,M,_,zr,h,fun d M1 v H1 x1 r1 h1=>⟨β,ρ,M1,_,zr.step x1,h1,fun e M2 u H2 x2 r2 h2=>hz β v u d e M2 H2 _ _ zr.eP zr.ew zr.eK x2.mz (r1.ex x2) r2 h2 fun d' M3 v' H3 x3 r3 h3=>?_⟩⟩
 obtain⟨k,rfl,h4⟩:=ia h3;have zL:=x1.trans (x2.trans x3);refine⟨k,cz r3,?_⟩;cases k with
 |true=>
  rw[if_pos rfl]at h4 ⊢;exact⟨β,ρ,M3,_,zr.step zL,h4,fun f M4 g H4 x4 r4 h5=>Vr β u g e f M4 H4 _ _ zr.eP zr.ew zr.eK x4.mz ((r2.ex x3).ex x4) r4 h5 fun d5 M5 v5 H5 x5 r5 q5=>q _ _ _ _ (zL.trans (x4.trans x5)) r5 q5⟩
 |false=>
  rw[if_neg i8]at h4 ⊢;exact q _ _ _ _ zL (.bl _) h4
theorem Gy {op jA:XJ}{z z':eC}(ho:fi Γ X (compareOp op) z) (eS:fi Γ X (compareOp jA) z') (ha:QE Γ X a pa) (hb:QE Γ X b pb) (hc:QE Γ X c pc) (hm:lastMarks [op,jA] [b,c]=false :=by with_unfolding_all rfl) :
  QE Γ X (.Compare a [op,jA] [b,c] pos) (zChain z z' pa pb pc) :=by
 obtain⟨r,h1,h2⟩:=ho;obtain⟨r',N1,N4⟩:=eS;exact(FI h1 N1 ha hb hc hm).imp fun σ H Q h=>zK h2 N4 h
theorem GA {op jA:XJ}{z z':eC}(ho:fi Γ X (compareOp op) z) (eS:fi Γ X (compareOp jA) z') (ha:QE Γ X a pa) (hb:QE Γ X b pb) (hc:QE Γ X c pc) (hm:lastMarks [op,jA] [b,c]=false :=by with_unfolding_all rfl) :
  QT Γ X (.Compare a [op,jA] [b,c] pos) (zTest (zChain z z' pa pb pc)) :=by
 obtain⟨r,h1,h2⟩:=ho;obtain⟨r',N1,N4⟩:=eS;exact(FJ h1 N1 ha hb hc hm).imp fun σ H Q h=>wZ (fun _ _ _=>zK h2 N4) h
variable {tA qS:cT}{rest:List dL}
def zAnd (t u:cT):cT:=fun ρ M Q=>t ρ M fun c M1=>if c=true then u ρ M1 Q else Q false M1
def zOr (t u:cT):cT:=fun ρ M Q=>t ρ M fun c M1=>if c=true then Q true M1 else u ρ M1 Q
def zNot (t:cT):cT:=fun ρ M Q=>t ρ M fun c M1=>Q (!c) M1
theorem zM (ha:QT Γ X a tA):QW Γ X (.BoolOp .And [a] pos) tA:=Jr ha
theorem w5 (ha:QT Γ X a tA):QW Γ X (.BoolOp .Or [a] pos) tA:=LD ha
theorem DF (ha:QT Γ X a tA) (hb:QW Γ X (.BoolOp .And (b::rest) pos) qS):QW Γ X (.BoolOp .And (a::b::rest) pos) (zAnd tA qS):=
 (LI ha hb).imp fun σ H Q ⟨β,ρ,M,Q',zr,h,q⟩=>⟨β,ρ,M,_,zr,h,fun k M1 H1 x1 h1=>by
  cases k with
  |true=>rw[if_pos rfl]at h1 ⊢;exact⟨β,ρ,M1,_,zr.step x1,h1,fun k2 M2 H2 x2 h2=>q _ _ _ (x1.trans x2) h2⟩
  |false=>rw[if_neg i8]at h1 ⊢;exact q _ _ _ x1 h1⟩
theorem Bi (ha:QT Γ X a tA) (hb:QW Γ X (.BoolOp .Or (b::rest) pos) qS):QW Γ X (.BoolOp .Or (a::b::rest) pos) (zOr tA qS):=
 (Qg ha hb).imp fun σ H Q ⟨β,ρ,M,Q',zr,h,q⟩=>⟨β,ρ,M,_,zr,h,fun k M1 H1 x1 h1=>by
  cases k with
  |false=>rw[if_neg i8]at h1 ⊢;exact⟨β,ρ,M1,_,zr.step x1,h1,fun k2 M2 H2 x2 h2=>q _ _ _ (x1.trans x2) h2⟩
  |true=>rw[if_pos rfl]at h1 ⊢;exact q _ _ _ x1 h1⟩
theorem iJ (ha:QT Γ X a tA):QT Γ X (.UnaryOp .Not a pos) (zNot tA):=(LJ ha).imp fun σ H Q ⟨β,ρ,M,Q',zr,h,q⟩=>⟨β,ρ,M,_,zr,h,fun k M1 H1 x1 h1=>q _ _ _ x1 h1⟩
theorem QW.pt {e:dL}{t:cT}(h:QW Γ X e t):QT Γ X e t:=PW.pt h
def zAndV (pa pb:aG):aG:=fun ρ M Q=>pa ρ M (zBool fun c M1=>if c=true then pb ρ M1 Q else Q (.bl false) M1)
def zOrV (pa pb:aG):aG:=fun ρ M Q=>pa ρ M (zBool fun c M1=>if c=true then Q (.bl true) M1 else pb ρ M1 Q)
def zNotV (pa:aG):aG:=fun ρ M Q=>pa ρ M (zBool fun c M1=>Q (.bl (!c)) M1)
theorem rR {op}(h:QE Γ X a pa):QE Γ X (.BoolOp op [a] pos) pa:=LK h
theorem n6 (ha:QE Γ X a pa) (hb:QE Γ X (.BoolOp .And (b::rest) pos) pb):QE Γ X (.BoolOp .And (a::b::rest) pos) (zAndV pa pb):=
 (LL ha hb).imp fun σ H Q ⟨β,ρ,M,Q',zr,h,q⟩=>⟨β,ρ,M,_,zr,h,fun d M1 v H1 x1 r1 h1=>by
  obtain⟨k,rfl,h2⟩:=ia h1;refine⟨k,cz r1,?_⟩;cases k with
  |true=>rw[if_pos rfl]at h2 ⊢;exact⟨β,ρ,M1,_,zr.step x1,h2,fun d2 M2 v2 H2 x2 r2 h2=>q _ _ _ _ (x1.trans x2) r2 h2⟩
  |false=>rw[if_neg i8]at h2 ⊢;exact q _ _ _ _ x1 (.bl _) h2⟩
theorem QY (ha:QE Γ X a pa) (hb:QE Γ X (.BoolOp .Or (b::rest) pos) pb):QE Γ X (.BoolOp .Or (a::b::rest) pos) (zOrV pa pb):=
 (Qj ha hb).imp fun σ H Q ⟨β,ρ,M,Q',zr,h,q⟩=>⟨β,ρ,M,_,zr,h,fun d M1 v H1 x1 r1 h1=>by
  obtain⟨k,rfl,h2⟩:=ia h1;refine⟨k,cz r1,?_⟩;cases k with
  |false=>rw[if_neg i8]at h2 ⊢;exact⟨β,ρ,M1,_,zr.step x1,h2,fun d2 M2 v2 H2 x2 r2 h2=>q _ _ _ _ (x1.trans x2) r2 h2⟩
  |true=>rw[if_pos rfl]at h2 ⊢;exact q _ _ _ _ x1 (.bl _) h2⟩
theorem DG (ha:QE Γ X a pa):QE Γ X (.UnaryOp .Not a pos) (zNotV pa):=(LN ha).imp fun σ H Q ⟨β,ρ,M,Q',zr,h,q⟩=>⟨β,ρ,M,_,zr,h,fun d M1 v H1 x1 r1 h1=>by
  obtain⟨k,rfl,h2⟩:=ia h1;exact⟨k,cz r1,q _ _ _ _ x1 (.bl _) h2⟩⟩
def zIfE (t:cT) (pa pb:aG):aG:=fun ρ M Q=>t ρ M fun c M1=>if c=true then pa ρ M1 Q else pb ρ M1 Q
theorem GB (hc:QT Γ X c tA) (ha:QE Γ X a pa) (hb:QE Γ X b pb):QE Γ X (.IfExp c a b pos) (zIfE tA pa pb):=
 (Fv hc ha hb).imp fun σ H Q ⟨β,ρ,M,Q',zr,h,q⟩=>⟨β,ρ,M,_,zr,h,fun k M1 H1 x1 h1=>by
  cases k with
  |true=>rw[if_pos rfl]at h1 ⊢;exact⟨β,ρ,M1,_,zr.step x1,h1,fun d2 M2 v2 H2 x2 r2 h2=>q _ _ _ _ (x1.trans x2) r2 h2⟩
  |false=>rw[if_neg i8]at h1 ⊢;exact⟨β,ρ,M1,_,zr.step x1,h1,fun d2 M2 v2 H2 x2 r2 h2=>q _ _ _ _ (x1.trans x2) r2 h2⟩⟩
def zNil:dm:=fun _ M Q=>Q [] M
def zCons (p:aG) (r:dm):dm:=fun ρ M Q=>p ρ M fun d M1=>r ρ M1 fun ds M2=>Q (d::ds) M2
variable {es:List dL}{za:dm}
theorem af:QA Γ X [] zNil:=Ms.imp fun σ H Q ⟨β,ρ,M,Q',zr,h,q⟩=>q [] M [] H (.refl zr.mz) .nil h
theorem aa {e:dL}(ha:QE Γ X e pa) (hr:QA Γ X es za) (hs:starEach (e::es) X.env=(false,eval e X.env)::starEach es X.env :=by rfl):QA Γ X (e::es) (zCons pa za):=
 (oI ha hr hs).imp fun σ H Q ⟨β,ρ,M,Q',zr,h,q⟩=>⟨β,ρ,M,_,zr,h,fun d M1 v H1 x1 r1 h1=>⟨β,ρ,M1,_,zr.step x1,h1,fun ds M2 vs H2 x2 r2 h2=>q _ _ _ _ (x1.trans x2) (.cons (r1.ex x2) r2) h2⟩⟩
def zTup (p:dm):aG:=fun ρ M Q=>p ρ M fun ds M1=>ds.length<=sizeLine/\Q (.tup ds) M1
def zLst (p:dm):aG:=fun ρ M Q=>p ρ M fun ds M1=>ds.length<=sizeLine/\Q (.lst ds) M1
def zLstP (p:dm):aG:=fun ρ M Q=>p ρ M fun ds M1=>ds.length<=sizeLine/\∀a,M1 a=none->Q (.ptr a) (az M1 a (.lst ds))
theorem jR {x1}(h:QA Γ X es za):QE Γ X (.Tuple es x1 pos) (zTup za):=(Mt h).imp fun σ H Q ⟨β,ρ,M,Q',zr,h,q⟩=>⟨β,ρ,M,_,zr,h,fun ds M1 vs H1 x1 r1 h1=>⟨by rw[r1.len];exact h1.1,fun p hp=>by
  have x2:=Ex.lay x1.mz hp (.tup vs);exact q _ _ _ _ (x1.trans x2) (fh (x1.mz.fz hp) av (r1.ex x2)) h1.2⟩⟩
theorem rS (h:QA Γ X es za):QE Γ X (.List es pos) (zLst za):=(Cz h).imp fun σ H Q ⟨β,ρ,M,Q',zr,h,q⟩=>⟨β,ρ,M,_,zr,h,fun ds M1 vs H1 x1 r1 h1=>⟨by rw[r1.len];exact h1.1,fun p hp=>by
  have x2:=Ex.lay x1.mz hp (.lst vs);exact q _ _ _ _ (x1.trans x2) (wX (x1.mz.fz hp) av (r1.ex x2)) h1.2⟩⟩
theorem ly (h:QA Γ X es za):QE Γ X (.List es pos) (zLstP za):=(Cz h).imp fun σ H Q ⟨β,ρ,M,Q',zr,h,q⟩=>⟨β,ρ,M,_,zr,h,fun ds M1 vs H1 x1 r1 h1=>⟨by rw[r1.len];exact h1.1,fun p hp=>by
  have x2:=Ex.own x1.mz (.inr hp) r1;exact q _ _ _ _ (x1.trans x2) (.ptr (by rw[updM_same];rfl)) (h1.2 p (x1.mz.free hp))⟩⟩
abbrev rT:=List Dv->Mh->ZK->Prop
def Ir (Γ:Gz) (r:List V->Hp->VK->Prop) (z:rT):Prop:=∀(β:Bz) xs ds M H Q Q',β.P=Γ.P->β.w=Γ.w->β.K=Γ.K->Mz β M H->aD β M H xs ds->z ds M Q'->(∀d' M' v H',Ex β M H M' H'->Rz β M' H' v d'->Q' d' M'->Q v H')->r xs H Q
def fS (Γ:Gz) (X:Cx) (f:ap) (z:rT):Prop:=∃r,cU X f r/\Ir Γ r z
def zCB (z:rT) (p:dm):aG:=fun ρ M Q=>p ρ M fun ds M1=>z ds M1 Q
theorem N5 {r:List V->Hp->VK->Prop}{z:rT}(hz:Ir Γ r z) {σ:St}{H:Hp}{Q:VK}(h:lE Γ (zCB z za) σ H Q):HN r (lA Γ za) σ H Q :=by
 obtain⟨β,ρ,M,Q',zr,h,q⟩:=h;exact⟨β,ρ,M,_,zr,h,fun ds M1 vs H1 x1 r1 h1=>hz β vs ds M1 H1 _ _ zr.eP zr.ew zr.eK x1.mz r1 h1 fun d' M' v' H' x2 r2 q2=>q _ _ _ _ (x1.trans x2) r2 q2⟩
variable {st:ut}{Ci:List ut}{p p2:bT}{e:dL}{pe:aG}
def zNext:bT:=fun D ρ M=>D.nx ρ M
def zSeq (p q:bT):bT:=fun D ρ M=>p {D with nx:=q D} ρ M
theorem qss_nil:kD Γ X [] zNext:=Js.imp fun D σ H ⟨β,ρ,M,D',zr,h,r⟩=>r.nx ρ M σ H (.refl zr.mz) zr h
theorem ak (h1:QS Γ X st p) (h2:kD Γ X Ci p2):kD Γ X (st::Ci) (zSeq p p2):=(Fw h1 h2).imp fun D σ H ⟨β,ρ,M,D',zr,h,r⟩=>
 ⟨β,ρ,M,_,zr,h,fun bG M' aF H' x gR h'=>⟨β,bG,M',D',gR,h',r.step x⟩,r.rt,r.bk,r.ct⟩
theorem ax (h1:QS Γ X st p):kD Γ X [st] p:=y1 h1
def zDrop (p:aG):bT:=fun D ρ M=>p ρ M fun _ M1=>D.nx ρ M1
theorem fm (he:QE Γ X e pe) (hs:swapsWith e none pos.line X.env=pure false :=by rfl):QS Γ X (.Expr e pos) (zDrop pe):=(y2 he hs).imp fun D σ H ⟨β,ρ,M,D',zr,h,r⟩=>
 ⟨β,ρ,M,_,zr,h,fun d M1 v H1 x1 r1 h1=>r.nx ρ M1 σ H1 x1.ev (zr.step x1) h1⟩
def zRet (p:aG):bT:=fun D ρ M=>p ρ M D.rt
theorem bj (he:QE Γ X e pe):QS Γ X (.Return (some e) pos) (zRet pe):=(LO he).imp fun D σ H ⟨β,ρ,M,D',zr,h,r⟩=>⟨β,ρ,M,_,zr,h,fun d M' v H' x r1 h1=>r.rt _ _ _ _ x.ev (zr.ent.trans x.toEy) r1 h1⟩
def zIfS (c:cT) (p q:bT):bT:=fun D ρ M=>c ρ M fun b M1=>if b=true then p D ρ M1 else q D ρ M1
theorem d7 {as bs:List ut}{pa pb:bT}(hc:QT Γ X c tA) (ha:kD Γ X as pa) (hb:kD Γ X bs pb):QS Γ X (.If c as bs pos) (zIfS tA pa pb):=(Qm hc ha hb).imp fun D σ H ⟨β,ρ,M,D',zr,h,r⟩=>
 ⟨β,ρ,M,_,zr,h,fun k M1 H1 x1 h1=>by
  cases k with
  |true=>rw[if_pos rfl]at h1 ⊢;exact⟨β,ρ,M1,D',zr.step x1,h1,r.step x1.ev⟩
  |false=>rw[if_neg i8]at h1 ⊢;exact⟨β,ρ,M1,D',zr.step x1,h1,r.step x1.ev⟩⟩
def zNever:bT:=fun _ _ _=>False
theorem Ua:QS Γ X st zNever:=Fx.imp fun D σ H ⟨β,ρ,M,D',zr,h,r⟩=>h
theorem DH:kD Γ X Ci zNever:=Cg.imp fun D σ H ⟨β,ρ,M,D',zr,h,r⟩=>h
def zgName (i:Nat):c9:=fun d ρ M N=>N (ρ.set i (some d)) M
theorem a8 {i:Nat}{x:bv}(hN:X.N.Nodup) (hi:X.N[i]?=some x) (hx:Loc X.env.scope x) (hf:X.fn x=true\/X.env.scope.names.lookup x=some .local :=by first|exact .inl rfl|exact .inr rfl|assumption):QG Γ X (.Name x pos) (zgName i):=
 (Jt hN hi hx hf).imp fun v σ H N ⟨β,d,ρ,M,N',zr,r,h,q⟩=>q _ _ _ _ (.refl zr.mz) (zr.set i r) h
def zgNil:nZ:=fun ds ρ M N=>match ds with | []=>N ρ M|_=>False
def zgCons (g:c9) (u:nZ):nZ:=fun ds ρ M N=>match ds with|d::r=>g d ρ M fun bG M'=>u r bG M' N | []=>False
theorem zN:Iq Γ X [] zgNil:=Ju.imp fun vs σ H N ⟨β,ds,ρ,M,N',zr,r,h,q⟩=>by
 unfold zgNil at h;split at h
 ·have e:vs=[]:=List.length_eq_zero_iff.mp r.len;exact⟨e,q _ _ _ _ (.refl zr.mz) zr h⟩
 ·exact h.elim
theorem lZ {g:c9}{u:nZ}(h1:QG Γ X e g) (h2:Iq Γ X es u) (hs:(assignEach (e::es) X.env).map (·.2)=assign e X.env::(assignEach es X.env).map (·.2) :=by rfl):Iq Γ X (e::es) (zgCons g u):=
 (FA h1 h2 hs).imp fun vs σ H N ⟨β,ds,ρ,M,N',zr,r,h,q⟩=>by
  unfold zgCons at h;split at h
  ·rename_i d rest;cases vs with
   |nil=>exact absurd r.len (by simp)
   |cons v vs=>exact⟨v,vs,rfl,β,d,ρ,M,_,zr,r.head,h,fun bG M' aF H' x gR h'=>⟨β,rest,bG,M',N',gR,r.tail.ex x,h',fun a b c d y=>q a b c d (x.trans y)⟩⟩
  ·exact h.elim
def zgTup (n:Nat) (u:nZ):c9:=fun d ρ M N=>match d with | .tup ds=>ds.length=n/\u ds ρ M N|_=>False
theorem DI {k:Nat}{u:nZ}{n:Nat}(hc:X.calm=true) (h:Iq Γ X es u) (hn:(assignEach es X.env).length=n :=by rfl) (g8:(assignEach es X.env).findIdx? (·.1)=none :=by rfl):QG Γ X (.Tuple es k pos) (zgTup n u):=
 (LU hc h hn g8).imp fun v σ H N ⟨β,d,ρ,M,N',zr,r,h,q⟩=>by
  unfold zgTup at h;split at h
  ·obtain⟨a,vs,rfl,m,e,rs⟩:=bu r;exact⟨a,vs,rfl,bW.of e,by rw[rs.len];exact h.1,β,_,ρ,M,N',zr,rs,h.2,q⟩
  ·exact h.elim
def zAsg (p:aG) (g:c9):bT:=fun D ρ M=>p ρ M fun d M1=>g d ρ M1 D.nx
theorem QZ {g:c9}{D:Ends}{σ:St}{H:Hp}(h:lS Γ (zAsg pe g) D σ H):vL (lE Γ pe) (lG Γ g) D σ H :=by
 obtain⟨β,ρ,M,D',zr,h,r⟩:=h;exact⟨β,ρ,M,_,zr,h,fun d M1 v H1 x1 r1 h1=>⟨β,d,ρ,M1,D'.nx,zr.step x1,r1,h1,fun bG M' aF H' x gR h'=>r.nx _ _ _ _ (x1.trans x).ev gR h'⟩⟩
theorem w6 {tg:dL}{g:c9}(he:QE Γ X e pe) (hg:QG Γ X tg g) (hs:swapsWithSole [tg] e pos.line X.env=pure false :=by rfl) (hw:swappedStores [tg] e X.env=pure none :=by rfl)
  (h1:(assignEach [tg] X.env).map (·.2)=[assign tg X.env] :=by rfl):QS Γ X (.Assign [tg] e pos) (zAsg pe g):=(LW he hg hs hw h1).imp fun D σ H h=>QZ h
theorem Bj {t:TE}(i:∀σ H Q,lE Γ pe σ H Q->t σ H Q) {n:Nat}{D:Ends}{σ:St}{H:Hp}(h:lS Γ (zAsg pe (zgName n)) D σ H):vL t (vq n) D σ H :=by
 obtain⟨β,ρ,M,D',zr,h,r⟩:=h;exact i _ _ _ ⟨β,ρ,M,_,zr,h,fun d M1 v H1 x1 r1 h1=>r.nx _ _ _ _ x1.ev ((zr.step x1).set n r1) h1⟩
theorem aI {i:Nat}{x:bv}{pos':ww}(hN:X.N.Nodup) (hi:X.N[i]?=some x) (hx:Loc X.env.scope x) (he:QE Γ X e pe) (hs:swapsWith e (some (.Name x pos')) pos.line X.env=pure false :=by rfl) (hf:X.fn x=true\/X.env.scope.names.lookup x=some .local :=by first|exact .inl rfl|exact .inr rfl|assumption) :
  QS Γ X (.Assign [.Name x pos'] e pos) (zAsg pe (zgName i)):=(LX hN hi hx he hs hf).imp fun D σ H h=>Bj (fun _ _ _ h=>h) h
end
section
variable {X:Cx}{Γ:Gz}{β:Bz}
def ziTup (p:aG):gB:=fun ρ M R=>p ρ M fun d M1=>match d with | .tup ds=>R ds M1|_=>False
def ziLst (p:aG):gB:=fun ρ M R=>p ρ M fun d M1=>match d with | .lst ds=>R ds M1|_=>False
def dn (lo:Int) (n:Nat):List Dv:=(lw n).map fun i=>.int (lo+(i:Nat))
def ziRng1 (p:dm):gB:=fun ρ M R=>p ρ M fun ds M1=>match ds with | [.int j] => -(2 ^ 62)<=j/\j<2 ^ 62/\R (dn 0 j.toNat) M1|_=>False
theorem jS {J:It}{vs:List V}{ds:List Dv}{M:Mh}{H:Hp}(r:aD β M H vs ds) (h:∀M' H',Ey M H M' H'->Runs J vs H'):DE β J ds M H:=fun cK M' H' bx x m i=>by
 have q:=h M' H' x i;rw[<- r.len];refine⟨fun hi=>⟨(q.1 hi).1,fun v n5 y=>?_⟩,q.2⟩
 obtain⟨e,hv⟩:=(q.1 hi).2 v n5 y;subst e;obtain⟨d,hd,rd⟩:=r.get' hv;exact⟨.refl m,d,hd,(rd.bx bx).ey x⟩
variable {tg l:dL}{p:aG}{pa:dm}{K:bn}
theorem jT (hK:X.K=K) (hl:QE Γ X l p):QI Γ X tg l (ziTup p):=(JM hK hl).imp fun σ H R ⟨β,ρ,M,R',zr,h,q⟩=>⟨β,ρ,M,_,zr,h,fun d M1 v H1 x1 r1 h1=>by
 revert h1
 split
 ·intro h1;obtain⟨a,vs,rfl,m,e,rs⟩:=bu r1;exact⟨a,rfl,⟨_,bW.of e⟩,q _ _ _ _ x1 (jS rs fun M' H' x=>F2 (bW.of (x.get m.1 e rfl))) h1⟩
 ·exact fun h=>h.elim⟩
theorem lz (hK:X.K=K) (hl:QE Γ X l p):QI Γ X tg l (ziLst p):=(F3 hK hl).imp fun σ H R ⟨β,ρ,M,R',zr,h,q⟩=>⟨β,ρ,M,_,zr,h,fun d M1 v H1 x1 r1 h1=>by
 revert h1
 split
 ·intro h1;obtain⟨a,vs,rfl,m,e,rs⟩:=gA r1;exact⟨a,rfl,⟨_,bL.of e⟩,q _ _ _ _ x1 (jS rs fun M' H' x=>CU (bL.of (x.get m.1 e rfl))) h1⟩
 ·exact fun h=>h.elim⟩
theorem DJ {lo:Int}{n:Nat}{M:Mh}{H:Hp}:aD β M H ((lw n).map fun i=>V.int (lo+(i:Nat))) (dn lo n):=⟨by simp[dn],fun i v d a b=>by
 unfold dn at b;rw[db]at a b;cases e:(lw n)[i]? with
 |none=>rw[e]at a;cases a
 |some c=>rw[e]at a b;cases a;cases b;exact .int _⟩
theorem dh {xs:List V}{d:Dv}{M:Mh}{H:Hp}(r:aD β M H xs [d]):∃v,xs=[v]/\Rz β M H v d :=by
 match xs,r with
 | [v],r=>exact⟨v,rfl,r.head⟩
 | [],r=>exact absurd r.len (by simp)
 |_::_::_,r=>exact absurd r.len (by simp)
theorem jm {xs:List V}{d e:Dv}{M:Mh}{H:Hp}(r:aD β M H xs [d,e]):∃v u,xs=[v,u]/\Rz β M H v d/\Rz β M H u e :=by
 match xs,r with
 | [v,u],r=>exact⟨v,u,rfl,r.head,r.tail.head⟩
 | [],r=>exact absurd r.len (by simp)
 | [_],r=>exact absurd r.len (by simp)
 |_::_::_::_,r=>exact absurd r.len (by simp)
section
variable {e e1 e2:dL}{pr pos:ww}
theorem N6 {σ:St}{H:Hp}{R:It->Hp->Prop}(h:lI Γ (ziRng1 pa) σ H R):HK (lA Γ pa) σ H R :=by
 obtain⟨β,ρ,M,R',zr,h,q⟩:=h;refine⟨β,ρ,M,_,zr,h,fun ds M1 vs H1 x1 r1 h1=>?_⟩
 revert h1
 split
 ·rintro⟨b1,b2,h1⟩;obtain⟨v,rfl,r⟩:=dh r1;rw[aS r];exact⟨_,rfl,b1,b2,q _ _ _ _ x1 (jS DJ fun M' H' x=>AK) h1⟩
 ·exact fun h=>h.elim
end
def zLoop (g:c9) (tb:bT) (D:gP):List Dv->aC->Mh->Prop
 | [],ρ,M=>D.nx ρ M
 |d::ds,ρ,M=>g d ρ M fun g9 M2=>tb {D with nx:=zLoop g tb D ds,ct:=zLoop g tb D ds,bk:=D.nx} g9 M2
def zFor (zi:gB) (g:c9) (tb:bT):bT:=fun D ρ M=>zi ρ M fun ds M1=>zLoop g tb D ds ρ M1
def zForM (zi:gB) (g:c9) (tb:Mh->bT):bT:=fun D ρ M=>zi ρ M fun ds M1=>zLoop g (tb M1) D ds ρ M1
theorem Zr.root {M:Mh}{ρ:aC}{σ:St}{H:Hp}(z:Zr Γ β M ρ σ H):Zr ⟨β,M,H⟩ β M ρ σ H:=⟨rfl,rfl,rfl,rfl,fun _ h=>h,z.mz.wf,.refl,z.mz,z.len,z.at'⟩
theorem Zr.DK {M M1:Mh}{ρ Sr:aC}{σ nq:St}{H H1:Hp}(z:Zr Γ β M ρ σ H) (y:Zr ⟨β,M,H⟩ β M1 Sr nq H1):Zr Γ β M1 Sr nq H1:=⟨z.eP,z.ew,z.eK,z.et,z.sub,z.wf,z.ent.trans y.ent,y.mz,y.len,y.at'⟩
theorem Q0 {zi:gB}{g:c9}{tb:Mh->bT}{t:TS}(hb:∀bw:Gz,bw.P=Γ.P->bw.w=Γ.w->bw.K=Γ.K->bw.tb=Γ.tb->∀D σ H,lS bw (tb bw.M0) D σ H->t D σ H) {tg:TG}(hg:∀bw:Gz,bw.P=Γ.P->bw.w=Γ.w->bw.K=Γ.K->bw.tb=Γ.tb->∀x σ H N,lG bw g x σ H N->tg x σ H N) {D:Ends}{σ:St}{H:Hp}(h:lS Γ (zForM zi g tb) D σ H):Ma (lI Γ zi) tg t D σ H :=by
 obtain⟨β,ρ,M,D',zr,h,r⟩:=h;refine⟨β,ρ,M,_,zr,h,fun ds M1 H1 J x1 it h1=>?_⟩
 have kI:=zr.step x1;refine⟨fun i m aF H'=>m=ds.length - i/\i<=ds.length/\∃bG M',Zr ⟨β,M1,H1⟩ β M' bG aF H'/\zLoop g (tb M1) D' (ds.drop i) bG M',⟨ds.length,rfl,nw _,ρ,M1,kI.root,h1⟩,?_⟩
 rintro i m aF H' ⟨rfl,hi,bG,M',gR,h'⟩;have ev:∀{M2:Mh} {g9:aC} {kg:St} {H2:Hp},Zr ⟨β,M1,H1⟩ β M2 g9 kg H2->Ev β M H M2 H2:=fun z=>x1.ev.trans ⟨z.ent.keep,z.ent.new,z.mz⟩
 by_cases aO:i<ds.length
 ·have q:=(it β M' H' .refl gR.ent gR.mz i).1 aO;refine .inr ⟨q.1,fun kg H2=>∃g9 M2,Zr ⟨β,M1,H1⟩ β M2 g9 kg H2/\zLoop g (tb M1) D' (ds.drop (i+1)) g9 M2,fun kg H2 ⟨g9,M2,Iu,h2⟩=>⟨ds.length - (i+1),by omega,rfl,aO,g9,M2,Iu,h2⟩,fun v n5 y=>?_⟩
  obtain⟨x2,d,hd,rd⟩:=q.2 v n5 y;have e:ds.drop i=d::ds.drop (i+1) :=by
   rw[No aO];rw[ar aO]at hd;cases hd;rfl
  rw[e]at h';refine hg ⟨β,M1,H1⟩ zr.eP zr.ew zr.eK zr.et _ _ _ _ ⟨β,d,bG,M',_,gR.step x2,rd,h',fun Vs M3 mW H3 x3 N7 h3=>hb ⟨β,M1,H1⟩ zr.eP zr.ew zr.eK zr.et _ _ _ ⟨β,Vs,M3,_,N7,h3,?_⟩⟩
  exact⟨fun rU M4 DL H4 x4 nh h4=>⟨rU,M4,nh,h4⟩,fun d4 M4 v4 H4 x4 e4 r4 h4=>r.rt _ _ _ _ (x1.ev.trans ⟨e4.keep,e4.new,x4.mz⟩) (kI.ent.trans e4) r4 h4,fun rU M4 DL H4 x4 nh h4=>r.nx _ _ _ _ (ev nh) (kI.DK nh) h4,fun rU M4 DL H4 x4 nh h4=>⟨rU,M4,nh,h4⟩⟩
 ·have e:i=ds.length :=by omega
  subst e;rw[Yx]at h';exact .inl ⟨(it β M' H' .refl gR.ent gR.mz _).2 (ce _),r.nx _ _ _ _ (ev gR) (kI.DK gR) h'⟩
def Vt (Γ:Gz) (p:Mh->bT):TS:=fun D σ H=>∃bw:Gz,bw.P=Γ.P/\bw.w=Γ.w/\bw.K=Γ.K/\bw.tb=Γ.tb/\lS bw (p bw.M0) D σ H
def Vu (Γ:Gz) (p:c9):TG:=fun x σ H N=>∃bw:Gz,bw.P=Γ.P/\bw.w=Γ.w/\bw.K=Γ.K/\bw.tb=Γ.tb/\lG bw p x σ H N
theorem Kb {body:List ut}{iter:dL}{zi:gB}{g:c9}{tb:Mh->bT}{pos:ww}(hp:ZQ (model X.prog X.w) X.A X.env X.xe) (hc:X.calm=true) (hi:QI Γ X tg iter zi)
  (Iv:∀(bw:Gz) (M1:Mh),bw.M0=M1->bw.P=Γ.P->bw.w=Γ.w->bw.K=Γ.K->bw.tb=Γ.tb->QG bw X tg g/\kD bw X body (tb M1))
  (hs:∀x,foldedSetIterable iter X.env x=pure x :=by intro _;rfl):QS Γ X (.For tg iter body [] pos) (zForM zi g tb):=
 (Mb (g:=Vu Γ g) (tb:=Vt Γ tb) hp hc hi (fun pins s σ H v u Q I r h=>by obtain⟨bw,e1,e2,e3,e4,h⟩:=h;exact(Iv bw _ rfl e1 e2 e3 e4).1 pins s σ H v u Q I r h) ⟨fun pins s σ H D I h=>by obtain⟨bw,e1,e2,e3,e4,h⟩:=h;exact(Iv bw _ rfl e1 e2 e3 e4).2 pins s σ H D I h⟩ hs).imp
  fun D σ H h=>Q0 (fun bw e1 e2 e3 e4 D σ H h=>⟨bw,e1,e2,e3,e4,h⟩) (fun bw e1 e2 e3 e4 x σ H N h=>⟨bw,e1,e2,e3,e4,h⟩) h
theorem eE {body:List ut}{iter:dL}{zi:gB}{g:c9}{tb:bT}{pos:ww}(hp:ZQ (model X.prog X.w) X.A X.env X.xe) (hc:X.calm=true) (hi:QI Γ X tg iter zi)
  (Iv:∀bw:Gz,bw.P=Γ.P->bw.w=Γ.w->bw.K=Γ.K->bw.tb=Γ.tb->QG bw X tg g/\kD bw X body tb)
  (hs:∀x,foldedSetIterable iter X.env x=pure x :=by intro _;rfl):QS Γ X (.For tg iter body [] pos) (zFor zi g tb):=Kb (tb:=fun _=>tb) hp hc hi (fun bw M1 _ e1 e2 e3 e4=>Iv bw e1 e2 e3 e4) hs
theorem dW {a:dL}{p pos:ww}(hg:Gl X "range") (hm:X.mg "range" = none) (ha:QA Γ X [a] pa) (hs:starEach [a] X.env=[(false,eval a X.env)] :=by rfl):QI Γ X tg (.Call (.Name "range" p) [a] [] pos) (ziRng1 pa):=(Cp hg hm ha hs).imp fun σ H R h=>N6 h
def DM (c:cT) (tb:bT):bT:=fun D ρ M=>∃W:Nat->aC->Mh->Prop,(∃m,W m ρ M)/\∀m ρ M,W m ρ M->
 c ρ M fun b M1=>if b=true then tb {D with nx:=fun bG M'=>∃m',m'<m/\W m' bG M',ct:=fun bG M'=>∃m',m'<m/\W m' bG M',bk:=D.nx} ρ M1 else D.nx ρ M1
theorem Kc {c:cT}{tb:bT}{D:Ends}{σ:St}{H:Hp}(h:lS Γ (DM c tb) D σ H):Cj (lT Γ c) (lS Γ tb) D σ H :=by
 obtain⟨β,ρ,M,D',zr,⟨W,⟨m0,w0⟩,turn⟩,r⟩:=h;refine⟨fun m aF H'=>∃bG M',Ev β M H M' H'/\Zr Γ β M' bG aF H'/\W m bG M',⟨m0,ρ,M,.refl zr.mz,zr,w0⟩,?_⟩
 rintro m aF H' ⟨bG,M',x',gR,w'⟩;refine⟨β,bG,M',_,gR,turn m bG M' w',fun k M1 H1 x1 h1=>?_⟩
 have DN:=x'.trans x1.ev;cases k with
 |true=>
  dsimp only at h1 ⊢;rw[if_pos rfl]at h1 ⊢;refine⟨fun kg H2=>∃m',m'<m/\∃g9 M2,Ev β M H M2 H2/\Zr Γ β M2 g9 kg H2/\W m' g9 M2,fun kg H2 h2=>h2,β,bG,M1,_,gR.step x1,h1,?_⟩
  exact⟨fun rU M4 DL H4 x4 nh ⟨m',hm,w4⟩=>⟨m',hm,rU,M4,DN.trans x4,nh,w4⟩,fun d4 M4 v4 H4 x4 e4 r4 h4=>r.rt _ _ _ _ (DN.trans x4) e4 r4 h4,fun rU M4 DL H4 x4 nh h4=>r.nx _ _ _ _ (DN.trans x4) nh h4,fun rU M4 DL H4 x4 nh ⟨m',hm,w4⟩=>⟨m',hm,rU,M4,DN.trans x4,nh,w4⟩⟩
 |false=>
  dsimp only at h1 ⊢;rw[if_neg i8]at h1 ⊢;exact r.nx _ _ _ _ DN (gR.step x1) h1
theorem md {body:List ut}{c:dL}{zc:cT}{tb:bT}{pos:ww}(hp:ZQ (model X.prog X.w) X.A X.env X.xe) (hc:QT Γ X c zc) (hb:kD Γ X body tb):QS Γ X (.While c body [] pos) (DM zc tb):=(FC hp hc hb).imp fun D σ H h=>Kc h
theorem cL {g:c9}{tb:bT}{D:gP}(J:Nat->aC->Mh->Prop) {ds:List Dv}{ρ:aC}{M:Mh}(h0:J 0 ρ M)
  (hs:∀i d ρ M (N:aC->Mh->Prop),ds[i]?=some d->J i ρ M->(∀bG M',J (i+1) bG M'->N bG M')->g d ρ M fun g9 M2=>tb {D with nx:=N,ct:=N,bk:=D.nx} g9 M2)
  (hd:∀ρ M,J ds.length ρ M->D.nx ρ M):zLoop g tb D ds ρ M :=by
 have key:∀(n i:Nat) ρ M,n=ds.length - i->i<=ds.length->J i ρ M->zLoop g tb D (ds.drop i) ρ M :=by
  intro n;induction n with
  |zero=>
   intro i ρ M e hi h;have:i=ds.length :=by omega
   subst this;rw[Yx];exact hd _ _ h
  |succ n ih=>
   intro i ρ M e hi h;have aO:i<ds.length :=by omega
   rw[No aO];exact hs i _ ρ M _ (ar aO) h fun ρ M h=>ih (i+1) ρ M (by omega) aO h
 exact key _ 0 ρ M rfl (nw _) h0
end
section
variable {X:Cx}{Γ:Gz}{β:Bz}
def zBlock (tn:Nat) (idx:List Nat) (ρ:aC):aC:=IT tn none++idx.map fun i=>(ρ[i]?).join
theorem Zr.block {M:Mh}{ρ:aC}{σ:St}{H:Hp}(z:Zr Γ β M ρ σ H) (tn:Nat) (idx:List Nat):Zr Γ β M (zBlock tn idx ρ) (bQ tn idx σ) H:=⟨z.eP,z.ew,z.eK,z.et,z.sub,z.wf,z.ent,z.mz,by simp[zBlock,bQ],fun i d e=>by
 unfold zBlock at e;unfold bQ;rw[YV]at e ⊢;rw[XC]at e ⊢;split at e
 ·rw[JJ]at e;split at e<;>cases e
 ·rename_i hi;rw[if_neg hi];rw[db]at e ⊢;cases q:idx[i - tn]? with
  |none=>rw[q]at e;cases e
  |some j=>
   rw[q]at e;have e2:ρ[j]?=some (some d) :=by
    simp only[Ix,KM]at e;cases q2:ρ[j]? with
    |none=>rw[q2]at e;cases e
    |some o=>rw[q2]at e;simp only[XQ]at e;rw[e]
   obtain⟨v,hv,r⟩:=z.at' j d e2;exact⟨v,by simp[hv],r⟩⟩
theorem Zr.enter {M:Mh}{ρ:aC}{σ:St}{H:Hp}{D:ag}{o:HO}(z:Zr Γ β M ρ σ H) (hD:H D=none) (ho:nX o=true):Zr Γ (β.add D) M ρ σ (upd H D o):=
 ⟨z.eP,z.ew,z.eK,z.et,fun a h=>f8 _ (z.sub a h),z.wf,z.ent.over (z.ent.gone hD (by
  cases e:Γ.M0 D with
  |none=>rfl
  |some u=>have:=z.ent.dom D (by rw[e];rfl);rw[z.mz.free hD]at this;cases this)),z.mz.enter hD ho,z.len,fun i d e=>let ⟨v,h,r⟩:=z.at' i d e;⟨v,h,r.enter hD⟩⟩
theorem Zr.over {M:Mh}{ρ:aC}{σ:St}{H:Hp}{D:ag}{o:HO}(z:Zr Γ β M ρ σ H) (hD:D∈β.hid) (ho:nX o=true) (hM:M D=none) (ht:D ∉ β.tb) (h0:Γ.H0 D=none):Zr Γ β M ρ σ (upd H D o):=
 ⟨z.eP,z.ew,z.eK,z.et,z.sub,z.wf,z.ent.over h0,z.mz.over hD ho hM ht,z.len,fun i d e=>let ⟨v,h,r⟩:=z.at' i d e;⟨v,h,r.over hD⟩⟩
abbrev w9 (Γ:Gz) (X:Cx) (ifs:List dL) (t:cT):Prop:=iF X ifs (lT Γ t)
def zNoIf:cT:=fun _ M Q=>Q true M
theorem eG:w9 Γ X [] zNoIf:=JH.imp fun σ H Q ⟨β,ρ,M,Q',zr,h,q⟩=>q true M H (.refl zr.mz) h
theorem Kd {c:dL}{tc:cT}(h:QT Γ X c tc):w9 Γ X [c] tc:=JI h
def k6 (g:c9) (tt:cT) (te:aG):List Dv->aC->Mh->(List Dv->Mh->Prop)->Prop
 | [],_,M,Q=>Q [] M
 |d::ds,τ,M,Q=>g d τ M fun aN M2=>tt aN M2 fun b M3=>if b=true then te aN M3 fun y M4=>k6 g tt te ds aN M4 fun ys M5=>Q (y::ys) M5 else k6 g tt te ds aN M3 Q
structure Acc (Γ:Gz) (β:Bz) (D:ag) (M1:Mh) (H1:Hp) (cF:aC) (M:Mh) (τ:St) (H:Hp) (acc:List V) (bU:List Dv):Prop where
 ey:Ey M1 H1 M H
 m:M D=none
 zr:Zr Γ (β.add D) M cF τ H
 at':H D=some (.lst acc)
 rs:aD (β.add D) M H acc bU
 h1:H1 D=none
 h0:Γ.H0 D=none
 nt:D ∉ β.tb
theorem Acc.start {D:ag}{M1:Mh}{H1:Hp}{cF:aC}{τ:St}(zr:Zr Γ β M1 cF τ H1) (hD:H1 D=none):Acc Γ β D M1 H1 cF M1 τ (upd H1 D (.lst [])) [] []:=
 ⟨Ey.refl.over hD,zr.mz.free hD,zr.enter hD rfl,av,.nil,hD,zr.ent.gone hD (by
  cases e:Γ.M0 D with
  |none=>rfl
  |some u=>have:=zr.ent.dom D (by rw[e];rfl);rw[zr.mz.free hD]at this;cases this),zr.mz.Gw hD⟩
section
variable {D:ag}{M1 M M2:Mh}{H1 H H2:Hp}{cF N8:aC}{τ aN:St}{acc:List V}{bU:List Dv}
theorem Acc.step (A:Acc Γ β D M1 H1 cF M τ H acc bU) (x:Ex (β.add D) M H M2 H2) (z:Zr Γ (β.add D) M2 N8 aN H2):Acc Γ β D M1 H1 N8 M2 aN H2 acc bU:=
 ⟨A.ey.trans x.toEy,x.new D _ A.m A.at',z,x.get A.m A.at' rfl,A.rs.ex x,A.h1,A.h0,A.nt⟩
theorem Acc.snoc (A:Acc Γ β D M1 H1 cF M τ H acc bU) {y:V}{d:Dv}(r:Rz (β.add D) M H y d):Acc Γ β D M1 H1 cF M τ (upd H D (.lst (acc++[y]))) (acc++[y]) (bU++[d]) :=by
 have hD:D∈(β.add D).hid:=i4;exact⟨A.ey.over A.h1,A.m,A.zr.over hD rfl A.m A.nt A.h0,av,⟨by simp[A.rs.len],fun i v d a b=>((A.rs.snoc r).at' i v d a b).over hD⟩,A.h1,A.h0,A.nt⟩
theorem Acc.fz (A:Acc Γ β D M1 H1 cF M τ H acc bU) (m1:Mz β M1 H1):Fz β M D:=⟨A.m,(m1.fz A.h1).2⟩
theorem Acc.mz (A:Acc Γ β D M1 H1 cF M τ H acc bU):Mz β M H:=Mz.sub (β:=β.add D) (cK:=β) rfl rfl rfl rfl (fun a h=>f8 _ h) A.zr.mz
theorem Acc.items (A:Acc Γ β D M1 H1 cF M τ H acc bU):aD β M H acc bU:=⟨A.rs.len,fun i v d a b=>Rz.sub (β:=β.add D) (cK:=β) rfl rfl rfl (fun a h=>f8 _ h) (A.rs.at' i v d a b)⟩
theorem Acc.ex (A:Acc Γ β D M1 H1 cF M τ H acc bU):Ex β M1 H1 M H:=⟨A.ey,A.mz⟩
end
def zComp (tn:Nat) (idx:List Nat) (zi:gB) (g:c9) (tt:cT) (te:aG):aG:=fun ρ M Q=>zi ρ M fun ds M1=>ds.length<sizeLine/\k6 g tt te ds (zBlock tn idx ρ) M1 fun ys M2=>Q (.lst ys) M2
def zCompP (tn:Nat) (idx:List Nat) (zi:gB) (g:c9) (tt:cT) (te:aG):aG:=fun ρ M Q=>zi ρ M fun ds M1=>ds.length<sizeLine/\k6 g tt te ds (zBlock tn idx ρ) M1 fun ys M2=>∀a,M2 a=none->Q (.ptr a) (az M2 a (.lst ys))
def zTupG (tn:Nat) (idx:List Nat) (zi:gB) (g:c9) (tt:cT) (te:aG):aG:=fun ρ M Q=>zi ρ M fun ds M1=>ds.length<sizeLine/\k6 g tt te ds (zBlock tn idx ρ) M1 fun ys M2=>Q (.tup ys) M2
variable {zi:gB}{g:c9}{tt:cT}{te:aG}{tn:Nat}{idx:List Nat}
def k7 (Γ:Gz) (β:Bz) (D:ag) (M1:Mh) (H1:Hp) (g:c9) (tt:cT) (te:aG) (ds:List Dv) (Q':List Dv->Mh->Prop) (i m:Nat) (τ:St) (H:Hp):Prop:=
 m=ds.length - i/\i<=ds.length/\∃cF M acc bU,Acc Γ β D M1 H1 cF M τ H acc bU/\acc.length<=i/\k6 g tt te (ds.drop i) cF M fun ys M2=>Q' (bU++ys) M2
theorem n8 {D:ag}{M1:Mh}{H1:Hp}{ds:List Dv}{Q':List Dv->Mh->Prop}{J:It}(it:DE β J ds M1 H1) (hlen:ds.length<sizeLine) {i m:Nat}{τ:St}{H:Hp}(w:k7 Γ β D M1 H1 g tt te ds Q' i m τ H)
  {C:V->St->Hp->Prop} (hC:∀y aN H4 acc,H4 D=some (.lst acc)->acc.length<sizeLine->(∃m',m'<m/\k7 Γ β D M1 H1 g tt te ds Q' (i+1) m' aN (upd H4 D (.lst (acc++[y]))))->C y aN H4) :
  (J.stop i H/\∃cF M acc bU,Acc Γ β D M1 H1 cF M τ H acc bU/\acc.length<sizeLine/\Q' bU M) \/
  (J.go i H/\∀x H',J.yld i H x H'->lG Γ g x τ H' fun aN H2=>lT Γ tt aN H2 fun b H3=>if b=true then lE Γ te aN H3 fun y H4=>C y aN H4 else ∃m',m'<m/\k7 Γ β D M1 H1 g tt te ds Q' (i+1) m' aN H3) :=by
 obtain⟨rfl,hi,cF,M,acc,bU,A,A0,h⟩:=w;have q:=it (β.add D) M H (.add A.h1) A.ey A.zr.mz i;by_cases aO:i<ds.length
 ·refine .inr ⟨(q.1 aO).1,fun x H' y=>?_⟩
  obtain⟨x2,d,hd,rd⟩:=(q.1 aO).2 x H' y;have e:ds.drop i=d::ds.drop (i+1) :=by
   rw[No aO];rw[ar aO]at hd;cases hd;rfl
  rw[e]at h;have A2:=A.step x2 (A.zr.step x2);refine⟨β.add D,d,cF,M,_,A2.zr,rd,h,fun me M3 Iw H3 x3 z3 h3=>?_⟩
  have A3:=A2.step x3 z3;refine⟨β.add D,me,M3,_,z3,h3,fun b M4 H4 x4 h4=>?_⟩
  have A4:=A3.step x4 (z3.step x4);cases b with
  |false=>
   dsimp only at h4 ⊢;rw[if_neg i8]at h4 ⊢;exact⟨ds.length - (i+1),by omega,rfl,aO,me,M4,acc,bU,A4,by omega,h4⟩
  |true=>
   dsimp only at h4 ⊢;rw[if_pos rfl]at h4 ⊢;refine⟨β.add D,me,M4,_,A4.zr,h4,fun yd M5 yv H5 x5 r5 h5=>?_⟩
   have A5:=A4.step x5 (A4.zr.step x5);refine hC yv Iw H5 acc A5.at' (by omega) ⟨ds.length - (i+1),by omega,rfl,aO,me,M5,acc++[yv],bU++[yd],A5.snoc r5,by simp;omega,?_⟩
   have e2:(fun ys M2=>Q' (bU++[yd]++ys) M2)=fun ys M2=>Q' (bU++yd::ys) M2 :=by
    funext ys M2
    rw[On];rfl
   rw[e2];exact h5
 ·have e:i=ds.length :=by omega
  subst e;rw[Yx]at h;refine .inl ⟨q.2 (ce _),cF,M,acc,bU,A,by omega,?_⟩
  have h':Q' (bU++[]) M:=h;rwa [Ch]at h'
theorem mh {D:ag}{M1:Mh}{H1:Hp}{ds:List Dv}{Q':List Dv->Mh->Prop}{cF:aC}{τ:St}(zr:Zr Γ β M1 cF τ H1) (hD:H1 D=none) (h:k6 g tt te ds cF M1 Q'):k7 Γ β D M1 H1 g tt te ds Q' 0 ds.length τ (upd H1 D (.lst [])):=
 ⟨rfl,nw _,cF,M1,[],[],.start zr hD,ce _,h⟩
theorem DP {σ:St}{H:Hp}{Q:VK}(h:lE Γ (zComp tn idx zi g tt te) σ H Q):vz tn idx (lI Γ zi) (lG Γ g) (lT Γ tt) (lE Γ te) σ H Q :=by
 obtain⟨β,ρ,M,Q',zr,h,q⟩:=h;refine⟨β,ρ,M,_,zr,h,fun ds M1 H1 J x1 it ⟨hlen,h1⟩ D hD=>?_⟩
 have kI:=zr.step x1;refine⟨k7 Γ β D M1 H1 g tt te ds fun ys M2=>Q' (.lst ys) M2,⟨_,mh (kI.block tn idx) hD h1⟩,fun i m τ H' w=>?_⟩
 rcases n8 it hlen w (C:=fun y aN H4=>∃ys m',H4 D=some (.lst ys)/\ys.length<sizeLine/\m'<m/\k7 Γ β D M1 H1 g tt te ds (fun ys M2=>Q' (.lst ys) M2) (i+1) m' aN (upd H4 D (.lst (ys++[y])))) (fun y aN H4 acc e hl ⟨m',hm,w'⟩=>⟨acc,m',e,hl,hm,w'⟩) with ⟨hs,cF,M',acc,bU,A,_,hq⟩|z
 ·exact .inl ⟨hs,q _ _ _ _ (x1.trans A.ex) (wX (A.fz kI.mz) A.at' A.items) hq⟩
 ·exact .inr z
theorem Ke {σ:St}{H:Hp}{Q:VK}(h:lE Γ (zCompP tn idx zi g tt te) σ H Q):vz tn idx (lI Γ zi) (lG Γ g) (lT Γ tt) (lE Γ te) σ H Q :=by
 obtain⟨β,ρ,M,Q',zr,h,q⟩:=h;refine⟨β,ρ,M,_,zr,h,fun ds M1 H1 J x1 it ⟨hlen,h1⟩ D hD=>?_⟩
 have kI:=zr.step x1;refine⟨k7 Γ β D M1 H1 g tt te ds fun ys M2=>∀a,M2 a=none->Q' (.ptr a) (az M2 a (.lst ys)),⟨_,mh (kI.block tn idx) hD h1⟩,fun i m τ H' w=>?_⟩
 rcases n8 it hlen w (C:=fun y aN H4=>∃ys m',H4 D=some (.lst ys)/\ys.length<sizeLine/\m'<m/\k7 Γ β D M1 H1 g tt te ds (fun ys M2=>∀a,M2 a=none->Q' (.ptr a) (az M2 a (.lst ys))) (i+1) m' aN (upd H4 D (.lst (ys++[y])))) (fun y aN H4 acc e hl ⟨m',hm,w'⟩=>⟨acc,m',e,hl,hm,w'⟩) with ⟨hs,cF,M',acc,bU,A,_,hq⟩|z
 ·refine .inl ⟨hs,?_⟩;have Vv:D ∉ β.hid:=(A.fz kI.mz).2;have hM:M' D=none:=A.m;have mz:Mz β (az M' D (.lst bU)) H':=by
   have rz:∀{v:V} {d:Dv},Rz (β.add D) M' H' v d->Rz β (az M' D (.lst bU)) H' v d:=fun r=>by
    have ne:∀a,Fz (β.add D) M' a->Fz β (az M' D (.lst bU)) a:=fun a f=>⟨by rw[aq (fun z=>f.2 (by rw[z];exact i4))];exact f.1,fun z=>f.2 (f8 _ z)⟩
    induction r with
    |int i=>exact .int i
    |bl b=>exact .bl b
    |ao=>exact .ao
    |str z=>exact .str z
    |tup m e hl h ih=>exact .tup (ne _ m) e hl ih
    |lst m e hl h ih=>exact .lst (ne _ m) e hl ih
    |dk m e hk hl h ih=>exact .dk (ne _ m) e hk hl ih
    |dt m e hk hl h ih=>exact .dt (ne _ m) e hk hl ih
    |bF m e m2 e2 hl h ih=>exact .bF (ne _ m) e (ne _ m2) e2 hl ih
    |set m e=>exact .set (ne _ m) e
    |ptr m=>exact .ptr (by unfold az;split;rfl;exact m)
    |exc m e=>exact .exc (ne _ m) e
    |bt m e=>exact .bt (ne _ m) e
    |cu m e=>exact .cu (ne _ m) e
    |cw e=>exact .cw e
    |raw v=>exact .raw v
   refine⟨fun a o e=>?_,A.zr.mz.tabs,fun a ha=>A.zr.mz.hids a (f8 _ ha),fun a o e z=>?_,A.zr.mz.lams⟩
   by_cases ha:a=D
   ·subst ha;rw[updM_same]at e;cases e;exact⟨acc,A.at',A.rs.len,fun i v d a b=>rz (A.rs.at' i v d a b)⟩
   ·rw[aq ha]at e;have z:=A.zr.mz.obj a o e;cases o with
    |lst ds=>obtain⟨vs,z,l,r⟩:=z;exact⟨vs,z,l,fun i v d a b=>rz (r i v d a b)⟩
    |dk ks ds=>obtain⟨vs,z,hk,l,r⟩:=z;exact⟨vs,z,hk,l,fun i v d a b=>rz (r i v d a b)⟩
    |dt ks ds=>obtain⟨vs,z,hk,l,r⟩:=z;exact⟨vs,z,hk,l,fun i v d a b=>rz (r i v d a b)⟩
    |ts ks ds=>obtain⟨vs,z,hk,l,r⟩:=z;exact⟨vs,z,hk,l,fun i v d a b=>rz (r i v d a b)⟩
    |cW=>exact z
   ·by_cases ha:a=D
    ·subst ha;exact Vv z
    ·rw[aq ha]at e;exact A.zr.mz.apart a o e (f8 _ z)
  have ey:Ey M1 H1 (az M' D (.lst bU)) H':=⟨A.ey.keep,fun a h=>by unfold az;split;rfl;exact A.ey.dom a h,fun a o m e=>by rw[aq (aX e A.h1)];exact A.ey.new a o m e⟩
  exact q _ _ _ _ (x1.trans ⟨ey,mz⟩) (.ptr (by rw[updM_same];rfl)) (hq D hM)
 ·exact .inr z
theorem N9 {P:ag}{zi:gB}{R:It->Hp->Prop}{σ:St}{H:Hp}{ρ:aC}{M:Mh}{R':List Dv->Mh->Prop}(hP:P∈Γ.tb) (zr:Zr Γ β M ρ σ H) (h:zi ρ M R') (q:∀ds M' H' J,Ex β M H M' H'->DE β J ds M' H'->R' ds M'->R J H'):HU P (lI Γ zi) R σ H :=by
 refine⟨β,ρ,M,_,zr,h,fun ds M1 H1 J x1 it h1=>?_⟩
 have HS:P∈β.tb :=by rw[zr.et];exact hP
 refine⟨x1.mz.tabs P HS,fun ps t=>?_⟩
 have x2:=Ex.grow x1.mz HS t;refine q ds M1 _ J (x1.trans x2) (fun cK M' H' bx ey mz=>it cK M' H' ⟨bx.P,bx.w,bx.K,bx.tb,bx.old,fun a ha=>?_⟩ (x2.toEy.trans ey) mz) h1
 rcases bx.new a ha with z|z
 ·exact .inl z
 ·right;cases e:H1 a with
  |none=>rfl
  |some o=>obtain⟨u,hu⟩:=Gv (p:=P) (o:=.cI ps) ⟨o,e⟩;rw[z]at hu;cases hu
theorem Oa {P:ag}(hP:P∈Γ.tb) {σ:St}{H:Hp}{Q:VK}(h:lE Γ (zTupG tn idx zi g tt te) σ H Q):HZ P tn idx (lI Γ zi) (lG Γ g) (lT Γ tt) (lE Γ te) σ H Q :=by
 obtain⟨β,ρ,M,Q',zr,h,q⟩:=h;refine N9 hP zr h fun ds M1 H1 J x1 it ⟨hlen,h1⟩ D hD=>?_
 have kI:=zr.step x1;refine⟨k7 Γ β D M1 H1 g tt te ds fun ys M2=>Q' (.tup ys) M2,⟨_,mh (kI.block tn idx) hD h1⟩,fun i m τ H' w=>?_⟩
 rcases n8 it hlen w (C:=fun y aN H4=>takeIn D y H4 fun H5=>∃m',m'<m/\k7 Γ β D M1 H1 g tt te ds (fun ys M2=>Q' (.tup ys) M2) (i+1) m' aN H5) (fun y aN H4 acc e hl hw=>⟨acc,e,hl,hw⟩) with ⟨hs,cF,M',acc,bU,A,_,hq⟩|z
 ·refine .inl ⟨hs,acc,A.at',fun l hl=>?_⟩
  have x2:=Ex.lay A.mz hl (.tup acc);exact q _ _ _ _ (x1.trans (A.ex.trans x2)) (fh (A.mz.fz hl) av (A.items.ex x2)) hq
 ·exact .inr z
def kJ (g:c9) (tt:cT) (te:aG):List Dv->aC->Mh->(Bool->Mh->Prop)->Prop
 | [],_,M,Q=>Q true M
 |d::ds,τ,M,Q=>g d τ M fun aN M2=>tt aN M2 fun b M3=>if b=true then te aN M3 (zBool fun c M4=>if c=false then Q false M4 else kJ g tt te ds aN M4 Q) else kJ g tt te ds aN M3 Q
def zAll (tn:Nat) (idx:List Nat) (zi:gB) (g:c9) (tt:cT) (te:aG):aG:=fun ρ M Q=>zi ρ M fun ds M1=>kJ g tt te ds (zBlock tn idx ρ) M1 fun b M2=>Q (.bl b) M2
theorem Q1 {P:ag}(hP:P∈Γ.tb) {σ:St}{H:Hp}{Q:VK}(h:lE Γ (zAll tn idx zi g tt te) σ H Q):MU P tn idx (lI Γ zi) (lG Γ g) (lT Γ tt) (lE Γ te) σ H Q :=by
 obtain⟨β,ρ,M,Q',zr,h,q⟩:=h;refine N9 hP zr h fun ds M1 H1 J x1 it h1=>?_
 have kI:=zr.step x1;refine⟨fun i m τ H'=>m=ds.length - i/\i<=ds.length/\∃cF M',Ex β M1 H1 M' H'/\Zr Γ β M' cF τ H'/\kJ g tt te (ds.drop i) cF M' fun b M2=>Q' (.bl b) M2,⟨_,rfl,nw _,_,M1,.refl x1.mz,kI.block tn idx,h1⟩,?_⟩
 rintro i m τ H' ⟨rfl,hi,cF,M',x',gR,h'⟩;have qq:=it β M' H' .refl x'.toEy x'.mz i;by_cases aO:i<ds.length
 ·refine .inr ⟨(qq.1 aO).1,fun x n5 y=>?_⟩
  obtain⟨x2,d,hd,rd⟩:=(qq.1 aO).2 x n5 y;have e:ds.drop i=d::ds.drop (i+1) :=by
   rw[No aO];rw[ar aO]at hd;cases hd;rfl
  rw[e]at h';refine⟨β,d,cF,M',_,gR.step x2,rd,h',fun me M3 Iw H3 x3 z3 h3=>⟨β,me,M3,_,z3,h3,fun b M4 H4 x4 h4=>?_⟩⟩
  have xa:=x'.trans (x2.trans (x3.trans x4));cases b with
  |false=>
   dsimp only at h4 ⊢;rw[if_neg i8]at h4 ⊢;exact⟨ds.length - (i+1),by omega,rfl,aO,me,M4,xa,z3.step x4,h4⟩
  |true=>
   dsimp only at h4 ⊢;rw[if_pos rfl]at h4 ⊢;refine⟨β,me,M4,_,z3.step x4,h4,fun yd M5 yv H5 x5 r5 h5=>?_⟩
   obtain⟨k,rfl,h6⟩:=ia h5;refine⟨k,cz r5,?_⟩;cases k with
   |false=>
    rw[if_pos rfl]at h6 ⊢;exact q _ _ _ _ (x1.trans (xa.trans x5)) (.bl _) h6
   |true=>
    rw[if_neg (by decide)]at h6 ⊢
    exact⟨ds.length - (i+1),by omega,rfl,aO,me,M5,xa.trans x5,(z3.step x4).step x5,h6⟩
 ·have e:i=ds.length :=by omega
  subst e;rw[Yx]at h';exact .inl ⟨qq.2 (ce _),q _ _ _ _ (x1.trans x') (.bl _) h'⟩
end
section
variable {X:Cx}{Γ:Gz}{β:Bz}{K:bn}
def zII (f:Int->Int->Dv):eC:=fun d e M Q=>match d,e with | .int i,.int j=>Q (f i j) M|_,_=>False
def zIC (C:Int->Int->Prop) (f:Int->Int->Dv):eC:=fun d e M Q=>match d,e with | .int i,.int j=>C i j/\Q (f i j) M|_,_=>False
theorem n9 {g:Int->Int->V}{f:Int->Int->Dv}(h:∀β M H i j,Rz β M H (g i j) (f i j)):rQ Γ (ua g) (zII f):=fun β x y d e M H Q Q' _ _ _ m rx ry z q=>by
 unfold zII at z;split at z
 ·exact⟨_,_,aS rx,aS ry,q _ _ _ _ (.refl m) (h ..) z⟩
 ·exact z.elim
theorem rV {C:Int->Int->Prop}{g:Int->Int->V}{f:Int->Int->Dv}(h:∀β M H i j,Rz β M H (g i j) (f i j)):rQ Γ (rI C g) (zIC C f):=fun β x y d e M H Q Q' _ _ _ m rx ry z q=>by
 unfold zIC at z;split at z
 ·exact⟨_,_,aS rx,aS ry,z.1,q _ _ _ _ (.refl m) (h ..) z.2⟩
 ·exact z.elim
theorem eW:fi Γ X (binaryOp .Add) (zII fun i j=>.int (i+j)):=⟨_,Mg,n9 fun _ _ _ _ _=>.int _⟩
theorem vC:fi Γ X (binaryOp .Sub) (zII fun i j=>.int (i - j)):=⟨_,Mi,n9 fun _ _ _ _ _=>.int _⟩
theorem oQ:fi Γ X (binaryOp .Mult) (zIC sM fun i j=>.int (i * j)):=⟨_,Mj,rV fun _ _ _ _ _=>.int _⟩
theorem gS:fi Γ X (binaryOp .Mod) (zIC (fun _ j=>0<j) fun i j=>.int (i % j)):=⟨_,Mk,rV fun _ _ _ _ _=>.int _⟩
theorem Q2:fi Γ X (binaryOp .Pow) (zIC Mf fun i j=>.int (i ^ j.toNat)):=⟨_,Ml,rV fun _ _ _ _ _=>.int _⟩
theorem xc:fi Γ X (compareOp .Lt) (zII fun i j=>.bl (decide (i<j))):=⟨_,Qr,n9 fun _ _ _ _ _=>.bl _⟩
theorem Bk:fi Γ X (compareOp .LtE) (zII fun i j=>.bl (decide (i<=j))):=⟨_,Qs,n9 fun _ _ _ _ _=>.bl _⟩
theorem GC:fi Γ X (compareOp .Gt) (zII fun i j=>.bl (decide (j<i))):=⟨_,Qt,n9 fun _ _ _ _ _=>.bl _⟩
def scalZ (d e:Dv):Option Bool:=match d with
 | .int i=>(match e with | .int j=>some (decide (i=j)) | .ao=>some false | .str _=>some false|_=>none)
 | .bl i=>(match e with | .bl j=>some (decide (i=j)) | .ao=>some false | .str _=>some false|_=>none)
 | .str i=>(match e with | .str j=>some (decide (i=j)) | .ao=>some false | .int _=>some false | .bl _=>some false|_=>none)
 | .ao=>(match e with | .ao=>some true | .int _=>some false | .bl _=>some false | .str _=>some false|_=>none)
 |_=>none
def zEq:eC:=fun d e M Q=>match scalZ d e with|some b=>Q (.bl b) M|none=>False
def zNe:eC:=fun d e M Q=>match scalZ d e with|some b=>Q (.bl (!b)) M|none=>False
theorem xf {M:Mh}{H:Hp}{x y:V}{d e:Dv}{b:Bool}(rx:Rz β M H x d) (ry:Rz β M H y e) (h:scalZ d e=some b):FH x y=true/\decide (x=y)=b :=by
 unfold scalZ at h;split at h
 ·rw[aS rx];split at h<;>cases h
  ·rw[aS ry];exact⟨rfl,by simp⟩
  ·rw[iI ry];exact⟨rfl,by simp⟩
  ·rw[cY ry];exact⟨rfl,by simp⟩
 ·rw[cz rx];split at h<;>cases h
  ·rw[cz ry];exact⟨rfl,by simp⟩
  ·rw[iI ry];exact⟨rfl,by simp⟩
  ·rw[cY ry];exact⟨rfl,by simp⟩
 ·rw[cY rx];split at h<;>cases h
  ·rw[cY ry];exact⟨rfl,by simp⟩
  ·rw[iI ry];exact⟨rfl,by simp⟩
  ·rw[aS ry];exact⟨rfl,by simp⟩
  ·rw[cz ry];exact⟨rfl,by simp⟩
 ·rw[iI rx];split at h<;>cases h
  ·rw[iI ry];exact⟨rfl,by simp⟩
  ·rw[aS ry];exact⟨rfl,by simp⟩
  ·rw[cz ry];exact⟨rfl,by simp⟩
  ·rw[cY ry];exact⟨rfl,by simp⟩
 ·cases h
theorem sZ:fi Γ X (compareOp .Eq) zEq:=⟨_,Qp,fun β x y d e M H Q Q' _ _ _ m rx ry z q=>by
 unfold zEq at z;split at z
 ·rename_i b hb;obtain⟨h1,h2⟩:=xf rx ry hb;exact⟨h1,by rw[h2];exact q _ _ _ _ (.refl m) (.bl _) z⟩
 ·exact z.elim⟩
theorem Ub:fi Γ X (compareOp .NotEq) zNe:=⟨_,Qq,fun β x y d e M H Q Q' _ _ _ m rx ry z q=>by
 unfold zNe at z;split at z
 ·rename_i b hb;obtain⟨h1,h2⟩:=xf rx ry hb;exact⟨h1,by rw[h2];exact q _ _ _ _ (.refl m) (.bl _) z⟩
 ·exact z.elim⟩
def isNonD:Dv->Option Bool
 | .ao=>some true
 | .raw _=>none
 |_=>some false
def zIsN (neg:Bool):eC:=fun d e M Q=>match e,isNonD d with | .ao,some b=>Q (.bl (if neg then !b else b)) M|_,_=>False
def zSS (C:bv->bv->Prop) (f:bv->bv->Dv):eC:=fun d e M Q=>match d,e with | .str i,.str j=>C i j/\Q (f i j) M|_,_=>False
theorem DQ:fi Γ X (binaryOp .Add) (zSS (fun i j=>i.length+j.length<=sizeLine) fun i j=>.str (i++j)):=⟨_,Au,fun β x y d e M H Q Q' _ _ _ m rx ry z q=>by
 unfold zSS at z;split at z
 ·exact⟨_,_,cY rx,cY ry,z.1,q _ _ _ _ (.refl m) (.str _) z.2⟩
 ·exact z.elim⟩
mutual
def bV:Dv->Option Dt
 | .int i=>some (.int i)
 | .bl b=>some (.bl b)
 | .ao=>some .ao
 | .str z=>some (.str z)
 | .tup ds=>(kM ds).map .tup
 | .lst ds=>(kM ds).map .lst
 |_=>none
def kM:List Dv->Option (List Dt)
 | []=>some []
 |d::ds=>match bV d,kM ds with|some a,some as=>some (a::as)|_,_=>none
end
theorem mi:∀{ds:List Dv}{ts:List Dt},kM ds=some ts->ds.length=ts.length/\∀(i:Nat) (d:Dv) (t:Dt),ds[i]?=some d->ts[i]?=some t->bV d=some t
 | [],ts,h=>by simp only[kM,KM]at h;subst h;exact⟨rfl,fun i d t a=>by simp at a⟩
 |d::ds,ts,h=>by
          simp only[kM]at h;split at h
          ·rename_i a as h1 h2;cases h;obtain⟨hl,q⟩:=mi h2;refine⟨by simp[hl],fun i e t x y=>?_⟩
           cases i with
           |zero=>simp at x y;subst x y;exact h1
           |succ i=>rw[Do]at x y;exact q i e t x y
          ·cases h
theorem DR {M:Mh}{H:Hp}{v:V}{d:Dv}(h:Rz β M H v d):∀{t:Dt},bV d=some t->fe H v t :=by
 induction h with
 |int i=>intro t e;simp only[bV,KM]at e;subst e;exact .int i
 |bl b=>intro t e;simp only[bV,KM]at e;subst e;exact .bl b
 |ao=>intro t e;simp only[bV,KM]at e;subst e;exact .ao
 |str z=>intro t e;simp only[bV,KM]at e;subst e;exact .str z
 |tup m e hl h ih=>
  intro t q;simp only[bV,ma]at q;obtain⟨ts,q,rfl⟩:=q;obtain⟨l2,at2⟩:=mi q;refine .tup e (hl.trans l2) fun i x d hx hd=>?_
  have hi:=(cr.mp hd).1;have:=ar (l:=_) (i:=i) (show i<_ from l2▸hi);exact ih i x _ hx this (at2 i _ _ this hd)
 |lst m e hl h ih=>
  intro t q;simp only[bV,ma]at q;obtain⟨ts,q,rfl⟩:=q;obtain⟨l2,at2⟩:=mi q;refine .lst e (hl.trans l2) fun i x d hx hd=>?_
  have hi:=(cr.mp hd).1;have:=ar (l:=_) (i:=i) (show i<_ from l2▸hi);exact ih i x _ hx this (at2 i _ _ this hd)
 |set m e=>intro t q;simp[bV]at q
 |ptr m=>intro t q;simp[bV]at q
 |exc m e=>intro t q;simp[bV]at q
 |bt m e=>intro t q;simp[bV]at q
 |cu m e=>intro t q;simp[bV]at q
 |cw e=>intro t q;simp[bV]at q
 |dk m e hk hl h ih=>intro t q;simp[bV]at q
 |dt m e hk hl h ih=>intro t q;simp[bV]at q
 |bF m e m2 e2 hl h ih=>intro t q;simp[bV]at q
 |raw v=>intro t q;simp[bV]at q
def now (M:Mh):Dv->Dv
 | .ptr a=>match M a with|some (.lst ds)=>.lst ds|_=>.ptr a
 |d=>d
theorem zO {M:Mh}{H:Hp}{v:V}{d:Dv}(m:Mz β M H) (h:Rz β M H v d) {t:Dt}(e:bV (now M d)=some t):fe H v t :=by
 cases d with
 |ptr a=>
  simp only[now]at e;obtain⟨rfl,hs⟩:=bO h;cases q:M a with
  |none=>rw[q]at hs;cases hs
  |some o=>
   rw[q]at e;cases o with
   |cW=>simp[bV]at e
   |dk ks es=>simp[bV]at e
   |dt ks es=>simp[bV]at e
   |ts ks es=>simp[bV]at e
   |lst ds=>
    obtain⟨vs,hv,rs⟩:=m.obj a _ q;simp only[bV,ma]at e;obtain⟨ts,q,rfl⟩:=e;obtain⟨l2,at2⟩:=mi q;refine .lst hv (rs.len.trans l2) fun i x d hx hd=>?_
    have hi:=(cr.mp hd).1;have:=ar (l:=_) (i:=i) (show i<_ from l2▸hi);exact DR (rs.at' i x _ hx this) (at2 i _ _ this hd)
 |_=>exact DR h e
def xg (neg:Bool):eC:=fun d e M Q=>match bV (now M d),bV (now M e) with|some a,some b=>m7 a<=60/\Q (.bl (if neg then !fg a b else fg a b)) M|_,_=>False
theorem Kf {neg:Bool}:rQ Γ (Nq neg) (xg neg):=fun β x y d e M H Q Q' _ _ _ m rx ry z q=>by
 unfold xg at z;split at z
 ·rename_i a b h1 h2;exact⟨a,b,zO m rx h1,zO m ry h2,z.1,q _ _ _ _ (.refl m) (.bl _) z.2⟩
 ·exact z.elim
theorem Q3 (hu:X.A.units+64<cLine):fi Γ X (compareOp .Eq) (xg false):=⟨_,Nr hu,Kf⟩
def itemsM (M:Mh):Dv->Option (List Dv)
 | .tup ds=>some ds
 | .lst ds=>some ds
 | .ptr a=>match M a with|some (.lst ds)=>some ds|_=>none
 |_=>none
theorem jU {M:Mh}{H:Hp}{x:V}{d:Dv}{ds:List Dv}(m:Mz β M H) (r:Rz β M H x d) (h:itemsM M d=some ds):∃a vs,x=.ref a/\(H a=some (.lst vs)\/H a=some (.tup vs))/\aD β M H vs ds :=by
 cases d with
 |tup es=>cases h;obtain⟨a,vs,e,_,h,rs⟩:=bu r;exact⟨a,vs,e,.inr h,rs⟩
 |lst es=>cases h;obtain⟨a,vs,e,_,h,rs⟩:=gA r;exact⟨a,vs,e,.inl h,rs⟩
 |ptr a=>
  obtain⟨rfl,hs⟩:=bO r;simp only[itemsM]at h;split at h
  ·rename_i es q;cases h;obtain⟨vs,hv,rs⟩:=m.obj a _ q;exact⟨a,vs,rfl,.inl hv,rs⟩
  ·cases h
 |_=>cases h
theorem Kg {M:Mh}{H:Hp}{vs:List V}{ds:List Dv}(rs:aD β M H vs ds) {i:Int}{d:Dv}(h:dE ds i=some d):∃v,dE vs i=some v/\Rz β M H v d :=by
 unfold dE at h ⊢;rw[rs.len];cases e:jD ds.length i with
 |none=>rw[e]at h;cases h
 |some j=>
  rw[e]at h;obtain⟨v,hv,r⟩:=rs.get (i:=j) (d:=d) h;exact⟨v,hv,r⟩
def Ob (Γ:Gz) (X:Cx) (z:eC):Prop:=∃r,nz X r/\rQ Γ r z
def zIx:eC:=fun d e M Q=>match e with
 | .int i=>(match d with
  | .str z=>z.length<=sizeLine/\(match dE z.cps.toList i with|some c=>Q (.str ⟨#[c]⟩) M|none=>False)
  |_=>match itemsM M d with|some ds=>(match dE ds i with|some r=>Q r M|none=>False)|none=>False)
 |_=>False
theorem dA (hK:X.K=K):Ob Γ X zIx:=⟨_,zj hK,fun β x y d e M H Q Q' _ _ _ m rx ry z q=>by
 unfold zIx at z;split at z
 ·rename_i i;have hy:=aS ry;split at z
  ·rename_i s;obtain⟨hz,z⟩:=z;split at z
   ·rename_i c hc;exact .inr (.inr ⟨s,i,c,cY rx,hy,hz,hc,q _ _ _ _ (.refl m) (.str _) z⟩)
   ·exact z.elim
  ·split at z
   ·rename_i ds kj;obtain⟨a,vs,rfl,ha,rs⟩:=jU m rx kj;split at z
    ·rename_i r hr;obtain⟨v,hv,rv⟩:=Kg rs hr;have z':=q _ _ _ _ (.refl m) rv z;rcases ha with ha|ha
     ·exact .inl ⟨a,vs,i,v,rfl,hy,bL.of ha,hv,z'⟩
     ·exact .inr (.inl ⟨a,vs,i,v,rfl,hy,bW.of ha,hv,z'⟩)
    ·exact z.elim
   ·exact z.elim
 ·exact z.elim⟩
theorem cc {a b:dL}{pa pb:aG}{z:eC}{pos:ww}(hr:Ob Γ X z) (ha:QE Γ X a pa) (hb:QE Γ X b pb) (hs:zb b):QE Γ X (.Subscript a b pos) (zOp z pa pb) :=by
 obtain⟨r,h1,h2⟩:=hr;exact(Qx h1 ha hb hs).imp fun σ H Q h=>Bh h2 h
def cutD (xs:List Dv) (lo hi:Option Int):List Dv:=(xs.drop (HT.aQ xs.length 0 lo)).take (HT.aQ xs.length xs.length hi - HT.aQ xs.length 0 lo)
abbrev DS:=aC->Mh->(Option Int->Mh->Prop)->Prop
def lO (Γ:Gz) (p:DS):TO:=fun σ H Q=>∃(β:Bz) (ρ:aC) (M:Mh) (Q':Option Int->Mh->Prop),Zr Γ β M ρ σ H/\p ρ M Q'/\∀o M' H',Ex β M H M' H'->Q' o M'->Q o H'
def zoNone:DS:=fun _ M Q=>Q none M
def zoSome (p:aG):DS:=fun ρ M Q=>p ρ M fun d M1=>match d with | .int i=>Q (some i) M1|_=>False
theorem PO.imp {e:Option dL}{t t':TO}(h:PO X e t) (i:∀σ H Q,t' σ H Q->t σ H Q):PO X e t':=fun pins s σ H Q I q=>h pins s σ H Q I (i _ _ _ q)
theorem zP:PO X none (lO Γ zoNone):=PO.imp JC fun σ H Q ⟨β,ρ,M,Q',zr,h,q⟩=>q _ _ _ (.refl zr.mz) h
theorem zQ {e:dL}{p:aG}(h:QE Γ X e p):PO X (some e) (lO Γ (zoSome p)):=PO.imp (JD h) fun σ H Q ⟨β,ρ,M,Q',zr,h,q⟩=>⟨β,ρ,M,_,zr,h,fun d M1 v H1 x1 r1 h1=>by
 revert h1
 split
 ·intro h1;exact⟨_,aS r1,q _ _ _ x1 h1⟩
 ·exact fun z=>z.elim⟩
abbrev Iy:=Dv->Option Int->Option Int->Mh->ZK->Prop
def Ss (Γ:Gz) (X:Cx) (z:Iy):Prop:=∃r,CD X r/\∀(β:Bz) x d lo hi M H Q Q',β.P=Γ.P->β.w=Γ.w->β.K=Γ.K->Mz β M H->Rz β M H x d->z d lo hi M Q'->(∀d' M' v H',Ex β M H M' H'->Rz β M' H' v d'->Q' d' M'->Q v H')->r x lo hi H Q
def zSl (z:Iy) (p:aG) (l h:DS):aG:=fun ρ M Q=>p ρ M fun d M1=>l ρ M1 fun lo M2=>h ρ M2 fun hi M3=>z d lo hi M3 Q
theorem xh {z:Iy}{e:dL}{p:aG}{lo hi:Option dL}{l h:DS}{p2 pos:ww}(hr:Ss Γ X z) (he:QE Γ X e p) (hl:PO X lo (lO Γ l)) (hu:PO X hi (lO Γ h)):QE Γ X (.Subscript e (.Slice lo hi none p2) pos) (zSl z p l h) :=by
 obtain⟨r,h1,h2⟩:=hr;exact(FT h1 he hl hu).imp fun σ H Q ⟨β,ρ,M,Q',zr,h,q⟩=>⟨β,ρ,M,_,zr,h,fun d M1 v H1 x1 r1 h1=>⟨β,ρ,M1,_,zr.step x1,h1,fun o M2 H2 x2 h3=>⟨β,ρ,M2,_,(zr.step x1).step x2,h3,fun o2 M3 H3 x3 h4=>
  h2 β v d o o2 M3 H3 _ _ zr.eP zr.ew zr.eK x3.mz ((r1.ex x2).ex x3) h4 fun d' M' v' H' x4 r4 q4=>q _ _ _ _ (x1.trans (x2.trans (x3.trans x4))) r4 q4⟩⟩⟩
def zSlT:Iy:=fun d lo hi M Q=>match d with | .tup ds=>Q (.tup (cutD ds lo hi)) M|_=>False
theorem zR {M:Mh}{H:Hp}{vs:List V}{ds:List Dv}(rs:aD β M H vs ds) (lo hi:Option Int):aD β M H (iO vs lo hi) (cutD ds lo hi) :=by
 unfold iO cutD;rw[rs.len];exact(rs.drop _).take _
theorem Iz (hK:X.K=K):Ss Γ X zSlT:=⟨_,JX hK,fun β x d lo hi M H Q Q' _ _ _ m rx z q=>by
 unfold zSlT at z;split at z
 ·obtain⟨a,vs,rfl,f,ha,rs⟩:=bu rx;refine⟨a,vs,rfl,bW.of ha,fun w=>?_,fun _ p hp=>?_⟩
  ·have e:=A9 w;have r2:=zR rs lo hi;rw[e]at r2;exact q _ _ _ _ (.refl m) (fh f ha r2) z
  ·have x2:=Ex.lay m hp (.tup (iO vs lo hi));exact q _ _ _ _ x2 (fh (m.fz hp) av ((zR rs lo hi).ex x2)) z
 ·exact z.elim⟩
def zCatT:eC:=fun d e M Q=>match d,e with | .tup xs,.tup ys=>xs.length+ys.length<=sizeLine/\Q (.tup (xs++ys)) M|_,_=>False
theorem DT (hK:X.K=K):fi Γ X (binaryOp .Add) zCatT:=⟨_,JW hK,fun β x y d e M H Q Q' _ _ _ m rx ry z q=>by
 unfold zCatT at z;split at z
 ·obtain⟨a,vs,rfl,f,ha,rs⟩:=bu rx;obtain⟨b,us,rfl,f2,hb,cP⟩:=bu ry;refine⟨a,b,vs,us,rfl,rfl,bW.of ha,bW.of hb,by rw[rs.len,cP.len];exact z.1,fun e=>?_,fun _ e=>?_,fun _ _ p hp=>?_⟩
  ·subst e;have r3:=rs.append cP;exact q _ _ _ _ (.refl m) (fh f2 hb r3) z.2
  ·subst e;have r3:=rs.append cP;rw[Ch]at r3;exact q _ _ _ _ (.refl m) (fh f ha r3) z.2
  ·have x2:=Ex.lay m hp (.tup (vs++us));exact q _ _ _ _ x2 (fh (m.fz hp) av ((rs.append cP).ex x2)) z.2
 ·exact z.elim⟩
section
variable {x:bv}{p pos:ww}{e:dL}{es:List dL}{za:dm}{id T:String}{z:rT}
theorem aE (hc:fS Γ X (.builtin id) z) (hg:Gl X x) (hm:X.mg x=none) (hv:bootBuiltins x=some (.builtin id)) (ha:QA Γ X (e::es) za) (hn:x ≠ "__name__" := by decide) (cZ:(x==("__debug__" : bv))=false :=by decide)
  (he:starEach (e::es) X.env=(false,eval e X.env)::starEach es X.env :=by rfl) (bM:(backTo pos (starEach es X.env)).any (·.1)=false :=by rfl):QE Γ X (.Call (.Name x p) (e::es) [] pos) (zCB z za) :=by
 obtain⟨r,h1,h2⟩:=hc;exact(FQ h1 hg hm hv ha hn cZ he bM).imp fun σ H Q h=>N5 h2 h
theorem kN (hc:fS Γ X (.type T) z) (hg:Gl X x) (hm:X.mg x=none) (hv:bootBuiltins x=some (.type T)) (ha:QA Γ X (e::es) za) (hn:x ≠ "__name__" := by decide) (cZ:(x==("__debug__" : bv))=false :=by decide)
  (he:starEach (e::es) X.env=(false,eval e X.env)::starEach es X.env :=by rfl) (bM:(backTo pos (starEach es X.env)).any (·.1)=false :=by rfl):QE Γ X (.Call (.Name x p) (e::es) [] pos) (zCB z za) :=by
 obtain⟨r,h1,h2⟩:=hc;exact(CC h1 hg hm hv ha hn cZ he bM).imp fun σ H Q h=>N5 h2 h
end
def z1 (f:Dv->Mh->ZK->Prop):rT:=fun ds M Q=>match ds with | [d]=>f d M Q|_=>False
def zLenD (d:Dv) (M:Mh) (Q:ZK):Prop:=match d with
 | .str s=>s.length<=sizeLine/\Q (.int s.length) M
 | .bt ns=>Q (.int ns.length) M
 |_=>match itemsM M d with|some ds=>Q (.int ds.length) M|none=>False
theorem dq (hK:X.K=K) (hG:K=Γ.K):fS Γ X (.builtin "len") (z1 zLenD):=⟨_,CV hK,fun β xs ds M H Q Q' _ _ eK m rs z q=>by
 rw[<- hG]at eK;unfold z1 at z;split at z
 ·rename_i d;obtain⟨x,rfl,r⟩:=dh rs;unfold zLenD at z;split at z
  ·rename_i s;have e:=cY r;subst e;exact⟨_,_,rfl,⟨z.1,rfl⟩,q _ _ _ _ (.refl m) (.int _) z.2⟩
  ·rename_i ns;obtain⟨a,rfl,h⟩:=uH r;rw[eK]at h;exact⟨_,ns.length,rfl,.inl ⟨_,h,by simp⟩,q _ _ _ _ (.refl m) (.int _) z⟩
  ·split at z
   ·rename_i ds kj;obtain⟨a,vs,rfl,ha,cP⟩:=jU m r kj;have q':=q _ _ (.int ds.length) _ (.refl m) (.int _) z;rcases ha with ha|ha
    ·exact⟨_,ds.length,rfl,.inl ⟨vs,bL.of ha,cP.len.symm⟩,q'⟩
    ·exact⟨_,ds.length,rfl,.inr ⟨vs,bW.of ha,cP.len.symm⟩,q'⟩
   ·exact z.elim
 ·exact z.elim⟩
def z2I (f:Int->Int->Int):rT:=fun ds M Q=>match ds with | [.int i,.int j]=>Q (.int (f i j)) M|_=>False
theorem DU (hc:X.calm=true):fS Γ X (.builtin "min") (z2I fun i j=>if j<i then j else i):=⟨_,Cv hc,fun β xs ds M H Q Q' _ _ _ m rs z q=>by
 unfold z2I at z;split at z
 ·obtain⟨x,y,rfl,r,r'⟩:=jm rs;rw[aS r,aS r'];exact⟨_,_,rfl,q _ _ _ _ (.refl m) (.int _) z⟩
 ·exact z.elim⟩
def zAbs (d:Dv) (M:Mh) (Q:ZK):Prop:=match d with | .int i=>Q (.int (if i<0 then -i else i)) M|_=>False
theorem Bm:fS Γ X (.builtin "abs") (z1 zAbs):=⟨_,FN,fun β xs ds M H Q Q' _ _ _ m rs z q=>by
 unfold z1 at z;split at z
 ·obtain⟨x,rfl,r⟩:=dh rs;unfold zAbs at z;split at z
  ·rw[aS r];exact⟨_,rfl,q _ _ _ _ (.refl m) (.int _) z⟩
  ·exact z.elim
 ·exact z.elim⟩
def zTuple (d:Dv) (M:Mh) (Q:ZK):Prop:=match itemsM M d with|some ds=>Q (.tup ds) M|none=>False
theorem oR (hK:X.K=K):fS Γ X (.type "tuple") (z1 zTuple):=⟨_,sR hK,fun β xs ds M H Q Q' _ _ _ m rs z q=>by
 unfold z1 at z;split at z
 ·rename_i d;obtain⟨x,rfl,r⟩:=dh rs;unfold zTuple at z;split at z
  ·rename_i ds kj;obtain⟨a,vs,rfl,ha,cP⟩:=jU m r kj;refine⟨a,vs,rfl,?_⟩;rcases ha with ha|ha
   ·refine .inl ⟨bL.of ha,fun l hl=>?_⟩
    have x2:=Ex.lay m hl (.tup vs);exact q _ _ _ _ x2 (fh (m.fz hl) av (cP.ex x2)) z
   ·refine .inr ⟨bW.of ha,?_⟩;have f:Fz β M a :=by
     cases d with
     |tup es=>obtain⟨b,us,e,f,_⟩:=bu r;cases e;exact f
     |lst es=>obtain⟨b,us,e,f,_⟩:=gA r;cases e;exact f
     |ptr b=>
      obtain⟨e,hs⟩:=bO r;cases e;cases q2:M a with
      |none=>rw[q2]at hs;cases hs
      |some o=>have:=m.lu ha rfl;rw[q2]at this;cases this
     |_=>cases kj
    exact q _ _ _ _ (.refl m) (fh f ha cP) z
  ·exact z.elim
 ·exact z.elim⟩
def iw:List Dv->Option (List Int)
 | []=>some []
 | .int i::ds=>(iw ds).map (i::·)
 |_::_=>none
theorem qg:∀{ds:List Dv}{ns:List Int},iw ds=some ns->ds=ns.map Dv.int
 | [],ns,h=>by simp only[iw,KM]at h;subst h;rfl
 |d::ds,ns,h=>by
          cases d with
          |int i=>
           simp only[iw,ma]at h;obtain⟨ms,h,rfl⟩:=h;rw[qg h];rfl
          |_=>simp[iw]at h
theorem uI:∀ns:List Int,iw (ns.map Dv.int)=some ns
 | []=>rfl
 |n::ns=>by simp[iw,uI ns]
theorem fZ {M:Mh}{H:Hp}:∀{vs:List V}{ns:List Int},aD β M H vs (ns.map Dv.int)->vs=ns.map V.int
 | [],[],_=>rfl
 | [],_::_,r=>absurd r.len (by simp)
 |_::_,[],r=>absurd r.len (by simp)
 |v::vs,n::ns,r=>by
          rw[ss]at r;rw[ss,aS r.head,fZ r.tail]
theorem qh {M:Mh}{H:Hp}:∀{ns:List Int},aD β M H (ns.map V.int) (ns.map Dv.int)
 | []=>.nil
 |n::ns=>.cons (.int _) qh
def intsM (M:Mh) (d:Dv):Option (List Int):=match d with | .set ns=>some ns|_=>(itemsM M d).bind iw
theorem DV {M:Mh}{H:Hp}{x:V}{d:Dv}{ns:List Int}(m:Mz β M H) (r:Rz β M H x d) (h:(itemsM M d).bind iw=some ns):∃a,x=.ref a/\(H a=some (.lst (ns.map V.int))\/H a=some (.tup (ns.map V.int))) :=by
 cases e:itemsM M d with
 |none=>rw[e]at h;cases h
 |some ds=>
  rw[e]at h;obtain⟨a,vs,rfl,ha,rs⟩:=jU m r e;have e2:=qg (ns:=ns) h;subst e2;have:=fZ rs;subst this;exact⟨a,rfl,ha⟩
def isD (T:String) (M:Mh) (d:Dv):Option Bool:=match d with
 | .int _=>some (T == "int") | .bl _=>some (T == "int" || T == "bool") | .ao=>some false | .str _=>some (T == "str") | .tup _=>some (T == "tuple") | .lst _=>some (T == "list") | .ptr a=>(match M a with|some (.lst _)=>some (T == "list")|some .cW=>some (T == "list")|some (.ts _ _)=>none|some _=>some false|none=>none)|_=>none
def tj:List String:=["int","bool","str","tuple","list"]
def zIsInst:rT:=fun ds M Q=>match ds with | [d,.raw (.ty T)]=>T∈tj/\(match isD T M d with|some b=>Q (.bl b) M|none=>False)|_=>False
theorem Oc {K:bn}{M:Mh}{H:Hp}{x:V}{d:Dv}{T:String}{b:Bool}(m:Mz β M H) (hT:T∈tj) (r:Rz β M H x d) (h:isD T M d=some b):∃t,fW K H x t/\Mn K t (.type T)=some b :=by
 have nV:T = "int" \/ T = "bool" \/ T = "str" \/ T = "tuple" \/ T = "list" := by simpa[tj] using hT
 cases r with
 |int i=>cases h;exact⟨_,.int i,by rcases nV with rfl|rfl|rfl|rfl|rfl<;>rfl⟩
 |bl i=>cases h;exact⟨_,.bl i,by rcases nV with rfl|rfl|rfl|rfl|rfl<;>rfl⟩
 |ao=>cases h;exact⟨_,.ao,by rcases nV with rfl|rfl|rfl|rfl|rfl<;>rfl⟩
 |str i=>cases h;exact⟨_,.str i,by rcases nV with rfl|rfl|rfl|rfl|rfl<;>rfl⟩
 |tup f e hl q=>cases h;exact⟨_,.tup e,by rcases nV with rfl|rfl|rfl|rfl|rfl<;>rfl⟩
 |lst f e hl q=>cases h;exact⟨_,.lst e,by rcases nV with rfl|rfl|rfl|rfl|rfl<;>rfl⟩
 |ptr hs=>
  rename_i a;cases q2:M a with
  |none=>rw[q2]at hs;cases hs
  |some o=>
   simp only[isD,q2]at h;have q:=m.obj a o q2;cases o with
   |lst ds=>obtain⟨vs,e,_⟩:=q;cases h;exact⟨_,.lst e,by rcases nV with rfl|rfl|rfl|rfl|rfl<;>rfl⟩
   |cW=>obtain⟨_,_,e,_⟩:=q;cases h;exact⟨_,.lst e,by rcases nV with rfl|rfl|rfl|rfl|rfl<;>rfl⟩
   |dk ks ds=>obtain⟨vs,e,_⟩:=q;cases h;exact⟨_,.dK e,by rcases nV with rfl|rfl|rfl|rfl|rfl<;>rfl⟩
   |dt ks ds=>obtain⟨vs,e,_⟩:=q;cases h;exact⟨_,.dT e,by rcases nV with rfl|rfl|rfl|rfl|rfl<;>rfl⟩
   |ts ks ds=>cases h
 |set f e=>cases h
 |exc f e=>cases h
 |bt f e=>cases h
 |cu f e=>cases h
 |cw e=>cases h
 |raw v=>cases h
 |dk f e _ _ _=>cases h
 |dt f e _ _ _=>cases h
 |bF _ _ _ _ _ _=>cases h
theorem mj (hK:X.K=K):fS Γ X (.builtin "isinstance") zIsInst:=⟨_,wq hK,fun β xs ds M H Q Q' _ _ _ m rs z q=>by
 unfold zIsInst at z;split at z
 ·obtain⟨x,y,rfl,r,r'⟩:=jm rs;rw[kz r'];obtain⟨hT,z⟩:=z;split at z
  ·rename_i b hb;obtain⟨t,ht,hk⟩:=Oc (K:=K) m hT r hb;exact⟨_,_,t,b,rfl,ht,hk,q _ _ _ _ (.refl m) (.bl _) z⟩
  ·exact z.elim
 ·exact z.elim⟩
abbrev uJ:=Dv->List Dv->Mh->ZK->Prop
def IA (Γ:Gz) (X:Cx) (T id:String) (K:bn) (z:uJ):Prop:=∃r,CF X id r/\∀(β:Bz) x xs d ds M H Q Q',β.P=Γ.P->β.w=Γ.w->β.K=Γ.K->Mz β M H->Rz β M H x d->aD β M H xs ds->z d ds M Q'->(∀d' M' v H',Ex β M H M' H'->Rz β M' H' v d'->Q' d' M'->Q v H')->r x xs H Q
def tyZ (T:String) (M:Mh):Dv->Prop
 | .ptr a=>match M a with|some (.lst _)=>T = "list" |some .cW=>T = "list" |some (.dk _ _)=>T = "dict" |some (.dt _ _)=>T = "dict" |some (.ts _ _)=>False|none=>False
 | .lst _=>T = "list"
 | .tup _=>T = "tuple"
 | .str _=>T = "str"
 |_=>False
theorem Od {M:Mh}{H:Hp}{x:V}{d:Dv}{T:String}(m:Mz β M H) (r:Rz β M H x d) (h:tyZ T M d):MI K T x H :=by
 cases r with
 |str=>exact h
 |lst f e _ _=>exact .inl ⟨h,_,bL.of e⟩
 |tup f e _ _=>exact .inr (.inl ⟨h,.inr ⟨_,e⟩⟩)
 |ptr hs=>
  rename_i a;cases q2:M a with
  |none=>rw[q2]at hs;cases hs
  |some o=>
   simp only[tyZ,q2]at h;have q:=m.obj a o q2;cases o with
   |lst ds=>obtain⟨vs,e,_⟩:=q;exact .inl ⟨h,_,bL.of e⟩
   |cW=>obtain⟨_,_,e,_⟩:=q;exact .inl ⟨h,_,bL.of e⟩
   |dk ks ds=>obtain⟨vs,e,_⟩:=q;exact .inr (.inr (.inl ⟨h,.inl ⟨_,e⟩⟩))
   |dt ks ds=>obtain⟨vs,e,_⟩:=q;exact .inr (.inr (.inl ⟨h,.inr ⟨_,e⟩⟩))
   |ts ks ds=>exact h.elim
 |_=>exact h.elim
def zBM (T:String) (z:uJ) (po:aG) (pa:dm):aG:=fun ρ M Q=>po ρ M fun d M1=>tyZ T M1 d/\pa ρ M1 fun ds M2=>z d ds M2 Q
section
variable {o e:dL}{es:List dL}{po:aG}{pa:dm}{name:bv}{apos aM:ww}{T id:String}{z:uJ}
theorem kO (h:X.K=K) (pat:PlainAttrs T) (slot:Slot T name id) (CG:typeOf (.builtin id)=pure (.type "method_descriptor")) (hm:IA Γ X T id K z) (ho:QE Γ X o po) (ha:QA Γ X (e::es) pa) (ja:attributeBase o name X.env (eval o X.env)=eval o X.env :=by rfl)
  (lM:((backTo aM (starEach (e::es) X.env)).all (fun x => !x.1) && (backToKw aM (keywordEach [] X.env)).all (fun x=>x.1.isSome)
   && decide ((e::es).length+([]:List SI).length+(if ([]:List SI).isEmpty then 0 else 1)<30))=true :=by rfl)
  (hline:(apos.endLine==aM.line)=true :=by rfl) (hs:starEach (e::es) X.env=(false,eval e X.env)::starEach es X.env :=by rfl) (gH:(backTo aM (starEach es X.env)).any (·.1)=false :=by rfl) :
  QE Γ X (.Call (.Attribute o name apos) (e::es) [] aM) (zBM T z po pa) :=by
 obtain⟨r,h1,h2⟩:=hm;exact(M7 h pat slot CG h1 ho ha ja lM hline hs gH).imp fun σ H Q ⟨β,ρ,M,Q',zr,h,q⟩=>⟨β,ρ,M,_,zr,h,fun d M1 v H1 x1 r1 ⟨ht,h1⟩=>⟨Od x1.mz r1 ht,β,ρ,M1,_,zr.step x1,h1,fun ds M2 vs H2 x2 r2 h3=>
  h2 β v vs d ds M2 H2 _ _ zr.eP zr.ew zr.eK x2.mz (r1.ex x2) r2 h3 fun d' M' v' H' x3 r3 q3=>q _ _ _ _ (x1.trans (x2.trans x3)) r3 q3⟩⟩
end
def zAppend:uJ:=fun d ds M Q=>match d,ds with | .ptr a,[y]=>(match M a with|some (.lst xs)=>xs.length<sizeLine/\Q .ao (az M a (.lst (xs++[y])))|_=>False)|_,_=>False
theorem jV:IA Γ X "list" "list.append" K zAppend:=⟨_,uj,fun β x xs d ds M H Q Q' _ _ _ m r rs z q=>by
 unfold zAppend at z;split at z
 ·rename_i a y;split at z
  ·rename_i es he;obtain⟨e,hs⟩:=bO r;obtain⟨v,e2,rv⟩:=dh rs;subst e e2;obtain⟨vs,hv,cP⟩:=m.obj a _ he;refine⟨a,vs,v,rfl,rfl,hv,by rw[cP.len];exact z.1,?_⟩
   exact q _ _ _ _ (Ex.own m (.inl hs) (cP.snoc rv)) .ao z.2
  ·exact z.elim
 ·exact z.elim⟩
def zPop:uJ:=fun d ds M Q=>match d,ds with | .ptr a,[]=>(match M a with|some (.lst xs)=>(match xs[xs.length - 1]? with|some y=>Q y (az M a (.lst xs.dropLast))|none=>False)|_=>False)|_,_=>False
def zPopAt:uJ:=fun d ds M Q=>match d,ds with | .ptr a,[.int i]=>(match M a with|some (.lst xs) => -(2 ^ 63)<=i/\i<2 ^ 63/\(match seqIndex? i xs.length with|some k=>(match xs[k]? with|some y=>Q y (az M a (.lst (xs.eraseIdx k)))|none=>False)|none=>False)|_=>False)|_,_=>False
theorem aD.eraseIdx {M:Mh}{H:Hp}{vs:List V}{ds:List Dv}(h:aD β M H vs ds) (k:Nat):aD β M H (vs.eraseIdx k) (ds.eraseIdx k) :=by
 rw[UV,UV];exact(h.take _).append (h.drop _)
theorem zS:IA Γ X "list" "list.pop" K zPopAt:=⟨_,FU,fun β x xs d ds M H Q Q' _ _ _ m r rs z q=>by
 unfold zPopAt at z;split at z
 ·rename_i a i;split at z
  ·rename_i es he;obtain⟨b1,b2,z⟩:=z;split at z
   ·rename_i k hk;split at z
    ·rename_i y hy;obtain⟨e,hs⟩:=bO r;obtain⟨v0,e2,Vw⟩:=dh rs;subst e e2;rw[aS Vw];obtain⟨vs,hv,cP⟩:=m.obj a _ he;obtain⟨v,Vx,rv⟩:=cP.get hy;refine⟨a,vs,i,k,v,rfl,rfl,hv,b1,b2,by rw[cP.len];exact hk,Vx,?_⟩
     have x2:=Ex.own m (.inl hs) (cP.eraseIdx k);exact q _ _ _ _ x2 (rv.ex x2) z
    ·exact z.elim
   ·exact z.elim
  ·exact z.elim
 ·exact z.elim⟩
def zSetI:Dv->Dv->Dv->Mh->(Mh->Prop)->Prop:=fun o i v M N=>match o,i with | .ptr a,.int k=>(match M a with|some (.lst xs)=>(match jD xs.length k with|some j=>N (az M a (.lst (xs.set j v)))|none=>False)|_=>False)|_,_=>False
def zgSub (po pi:aG):c9:=fun d ρ M N=>po ρ M fun o M1=>pi ρ M1 fun i M2=>zSetI o i d M2 fun M3=>N ρ M3
theorem xi {o i:dL}{po pi:aG}{pos:ww}(ho:QE Γ X o po) (hi:QE Γ X i pi)
  (ha:∀v,assign (.Subscript o i pos) X.env v=(do
   let ov <- holding [v] (eval o X.env)
   let iv <- holding [v,ov] (eval i X.env)
   standAt pos
   holding [v,ov,iv] (setItem ov iv v)
   release [v,ov,iv] []) :=by intro _;rfl):QG Γ X (.Subscript o i pos) (zgSub po pi):=
 (LV ho hi set_list ha).imp fun v σ H N ⟨β,d,ρ,M,N',zr,r,h,q⟩=>⟨β,ρ,M,_,zr,h,fun od M1 ov H1 x1 r1 h1=>⟨β,ρ,M1,_,zr.step x1,h1,fun Xi M2 iv H2 x2 r2 h2=>by
  unfold zSetI at h2;split at h2
  ·rename_i a k;split at h2
   ·rename_i es he;split at h2
    ·rename_i j hj;obtain⟨e,hs⟩:=bO (r1.ex x2);subst e;rw[aS r2];obtain⟨vs,hv,cP⟩:=x2.mz.obj a _ he;have x3:=Ex.own x2.mz (.inl hs) (cP.set j ((r.ex x1).ex x2));exact⟨a,vs,k,j,rfl,rfl,hv,by rw[cP.len];exact hj,q _ _ _ _ (x1.trans (x2.trans x3)) (((zr.step x1).step x2).step x3) h2⟩
    ·exact h2.elim
   ·exact h2.elim
  ·exact h2.elim⟩⟩
end
end L2
namespace L2
open PySem PySem.Spec PySem.W PyProof.Rows
abbrev ZX:=ag->Mh->Prop
abbrev bX:=List Dv->Mh->ZK->ZX->Prop
def aW (P:ff) (w:hX) (K:bn) (tb:b5) (S:bX):Sp:=fun vs H Q E=>∃(β:Bz) (ds:List Dv) (M:Mh) (Q':ZK) (E':ZX),β.P=P/\β.w=w/\β.K=K/\β.tb=tb/\Mz β M H/\aD β M H vs ds/\S ds M Q' E' /\
 (∀d M' v H',Ex β M H M' H'->Rz β M' H' v d->Q' d M'->Q v H')/\∀C M' H',Ex β M H M' H'->E' C M'->E (.ref C) none H'
theorem Rz.mn {β:Bz}{M0 M:Mh}{H:Hp}(dom:∀a,(M0 a).isSome=true->(M a).isSome=true) {v:V}{d:Dv}(h:Rz β M H v d):Pin M0 d->Rz β M0 H v d :=by
 have ne:∀a,Fz β M a->Fz β M0 a:=fun a m=>⟨(by
  cases e:M0 a with
  |none=>rfl
  |some o=>have:=dom a (by rw[e];rfl);rw[m.1]at this;cases this),m.2⟩
 induction h with
 |int i=>exact fun _=>.int i
 |bl b=>exact fun _=>.bl b
 |ao=>exact fun _=>.ao
 |str z=>exact fun _=>.str z
 |tup m e hl h ih=>
  intro p;cases p with
  |tup p=>exact .tup (ne _ m) e hl fun i v d a b=>ih i v d a b (p d (lp b))
 |lst m e hl h ih=>
  intro p;cases p with
  |lst p=>exact .lst (ne _ m) e hl fun i v d a b=>ih i v d a b (p d (lp b))
 |set m e=>exact fun _=>.set (ne _ m) e
 |ptr m=>intro p;cases p with|ptr p=>exact .ptr p
 |exc m e=>exact fun _=>.exc (ne _ m) e
 |bt m e=>exact fun _=>.bt (ne _ m) e
 |cu m e=>exact fun _=>.cu (ne _ m) e
 |cw e=>exact fun _=>.cw e
 |dk m e hk hl h ih=>
  intro p;cases p with
  |dk p=>exact .dk (ne _ m) e hk hl fun i v d a b=>ih i v d a b (p d (lp b))
 |dt m e hk hl h ih=>
  intro p;cases p with
  |dt p=>exact .dt (ne _ m) e hk hl fun i v d a b=>ih i v d a b (p d (lp b))
 |bF m e m2 e2 hl h ih=>
  intro p;cases p with
  |bF p=>exact .bF (ne _ m) e (ne _ m2) e2 hl fun i v d a b=>ih i v d a b (p d (lp b))
 |raw v=>exact fun _=>.raw v
inductive ni (M0 M:Mh):Dv->Dv->Prop where
 |pin {d:Dv} (h:Pin M0 d):ni M0 M d d
 |ptr {a:ag} {ds ds':List Dv} (h0:M0 a=none) (h:M a=some (.lst ds)) (hl:ds.length=ds'.length) (r:∀(i:Nat) (d d':Dv),ds[i]?=some d->ds'[i]?=some d'->ni M0 M d d'):ni M0 M (.ptr a) (.lst ds')
 |tup {ds ds':List Dv} (hl:ds.length=ds'.length) (r:∀(i:Nat) (d d':Dv),ds[i]?=some d->ds'[i]?=some d'->ni M0 M d d'):ni M0 M (.tup ds) (.tup ds')
 |dk {a:ag} {ks:List Key} {ds ds':List Dv} (h0:M0 a=none) (h:M a=some (.dk ks ds)) (hl:ds.length=ds'.length) (r:∀(i:Nat) (d d':Dv),ds[i]?=some d->ds'[i]?=some d'->ni M0 M d d'):ni M0 M (.ptr a) (.dk ks ds')
 |dt {a:ag} {ks:List (List Key)} {ds ds':List Dv} (h0:M0 a=none) (h:M a=some (.dt ks ds)) (hl:ds.length=ds'.length) (r:∀(i:Nat) (d d':Dv),ds[i]?=some d->ds'[i]?=some d'->ni M0 M d d'):ni M0 M (.ptr a) (.dt ks ds')
theorem ni.rz {β:Bz}{M0 M:Mh}{H:Hp}(mz:Mz β M H) (dom:∀a,(M0 a).isSome=true->(M a).isSome=true) {d d':Dv}(h:ni M0 M d d'):∀{v:V},Rz β M H v d->Rz β M0 H v d':=by
 induction h with
 |pin h=>exact fun r=>r.mn dom h
 |ptr h0 h hl r ih=>
  intro v r;obtain⟨rfl,_⟩:=bO r;obtain⟨vs,hv,rs⟩:=mz.obj _ _ h;refine .lst ⟨h0,mz.apart _ _ h⟩ hv (rs.len.trans hl) fun i v d a b=>?_
  obtain⟨d0,q,rd⟩:=rs.get' a;exact ih i d0 d q b rd
 |dk h0 h hl r ih=>
  intro v r;obtain⟨rfl,_⟩:=bO r;obtain⟨vs,hv,hk,rs⟩:=mz.obj _ _ h;refine .dk ⟨h0,mz.apart _ _ h⟩ (.inl hv) hk (rs.len.trans hl) fun i v d a b=>?_
  obtain⟨d0,q,rd⟩:=rs.get' a;exact ih i d0 d q b rd
 |dt h0 h hl r ih=>
  intro v r;obtain⟨rfl,_⟩:=bO r;obtain⟨vs,hv,hk,rs⟩:=mz.obj _ _ h;refine .dt ⟨h0,mz.apart _ _ h⟩ (.inl hv) hk (rs.len.trans hl) fun i v d a b=>?_
  obtain⟨d0,q,rd⟩:=rs.get' a;exact ih i d0 d q b rd
 |tup hl r ih=>
  intro v r;obtain⟨a,vs,rfl,f,hv,rs⟩:=bu r;refine .tup ⟨?_,f.2⟩ hv (rs.len.trans hl) fun i v d a b=>?_
  ·cases e:M0 a with
   |none=>rfl
   |some o=>have:=dom a (by rw[e];rfl);rw[f.1]at this;cases this
  ·obtain⟨d0,q,rd⟩:=rs.get' a;exact ih i d0 d q b rd
def jW (M0:Mh) (Q:ZK):ZK:=fun d M=>Q d M\/((∀a o,M0 a=some o->M a=some o)/\∃d',ni M0 M d d'/\Q d' M0)
theorem oS {β:Bz}{M0 M:Mh}{H0 H:Hp}{Q':ZK}{Q:VK}(m0:Mz β M0 H0) (q:∀d M' v H',Ex β M0 H0 M' H'->Rz β M' H' v d->Q' d M'->Q v H') {d:Dv}{v:V}(x:Ex β M0 H0 M H) (r:Rz β M H v d) (h:jW M0 Q' d M):Q v H :=by
 rcases h with h|⟨same,d',rv,h⟩
 ·exact q _ _ _ _ x r h
 ·refine q d' M0 v H ⟨⟨x.keep,fun _ h=>h,fun _ _ h _=>h⟩,fun a o e=>?_,x.mz.tabs,x.mz.hids,m0.apart,x.mz.lams⟩ (rv.rz x.mz x.dom r) h
  have z:=x.mz.obj a o (same a o e);have z0:=m0.obj a o e;cases o with
  |lst ds=>
   obtain⟨vs,z,rs⟩:=z;obtain⟨Dp,_,xj⟩:=z0;refine⟨vs,z,rs.len,fun i v d a b=>(rs.at' i v d a b).mn x.dom ?_⟩
   obtain⟨v0,_,r0⟩:=xj.get b;exact r0.pin
  |dk ks ds=>
   obtain⟨vs,z,hk,rs⟩:=z;obtain⟨Dp,_,_,xj⟩:=z0;refine⟨vs,z,hk,rs.len,fun i v d a b=>(rs.at' i v d a b).mn x.dom ?_⟩
   obtain⟨v0,_,r0⟩:=xj.get b;exact r0.pin
  |dt ks ds=>
   obtain⟨vs,z,hk,rs⟩:=z;obtain⟨Dp,_,_,xj⟩:=z0;refine⟨vs,z,hk,rs.len,fun i v d a b=>(rs.at' i v d a b).mn x.dom ?_⟩
   obtain⟨v0,_,r0⟩:=xj.get b;exact r0.pin
  |ts ks ds=>
   obtain⟨vs,z,hk,rs⟩:=z;obtain⟨Dp,_,_,xj⟩:=z0;refine⟨vs,z,hk,rs.len,fun i v d a b=>(rs.at' i v d a b).mn x.dom ?_⟩
   obtain⟨v0,_,r0⟩:=xj.get b;exact r0.pin
  |cW=>exact z
def zstart (N:List bv) (ds:List Dv):aC:=ds.map some++IT (N.length - ds.length) none
theorem qi {Γ:Gz}{N:List bv}{vs:List V}{ds:List Dv}(m:Mz Γ.toBz Γ.M0 Γ.H0) (rs:aD Γ.toBz Γ.M0 Γ.H0 vs ds):Zr Γ Γ.toBz Γ.M0 (zstart N ds) (start N vs) Γ.H0:=⟨rfl,rfl,rfl,rfl,fun _ h=>h,m.wf,.refl,m,by simp[zstart,start,rs.len],fun i d e=>by
 unfold zstart at e;unfold start;rw[YV]at e ⊢;rw[ci]at e ⊢;rw[rs.len];split at e
 ·rename_i hi;rw[if_pos hi];rw[db,ma]at e;obtain⟨d2,e,e2⟩:=e;cases e2;obtain⟨v,hv,r⟩:=rs.get e;exact⟨v,by rw[db,hv];rfl,r⟩
 ·rw[JJ]at e;split at e<;>cases e⟩
def zEndsOf (M0:Mh) (Q:ZK):gP:={nx:=fun _ M=>jW M0 Q .ao M,rt:=jW M0 Q}
def XR (Γ:Gz) (E':ZX) (E:XK):Prop:=∀C M' H',Ex Γ.toBz Γ.M0 Γ.H0 M' H'->E' C M'->E (.ref C) none H'
section
variable {P:ff}{w:hX}{K:bn}{mg:bv->Option ap}{base:ii}{tb:b5}{x:bv}{st:ut}{f:ag}{fd:mf}{N ps:List bv}{k:Nat}{S:bX}
theorem tq (len:∀ds M Q E,S ds M Q E->ds.length=ps.length):∀vs H Q E,aW P w K tb S vs H Q E->vs.length=ps.length:=fun vs H Q E hS=>by
 obtain⟨β,ds,M,Q',E',_,_,_,_,m,rs,s,_⟩:=hS;exact rs.len.trans (len _ _ _ _ s)
theorem gT (D:Df K mg x st ps f fd) (sc:aP N ps (aj st)) (len:∀ds M Q E,S ds M Q E->ds.length=ps.length)
  (body:∀(A:rb) (outer:List Op) (s:ba) (E:XK) (Γ:Gz) (ds:List Dv) (Q':ZK) (E':ZX),P=Γ.P->w=Γ.w->K=Γ.K->tb=Γ.tb->bh k (A.deeper (envOfC x (aj st) s.heap.objs.size f fd.code))->S ds Γ.M0 Q' E'->
   ∃p,kD Γ (fE bq P w K mg base N x (aj st) f fd.code A outer s Γ.H0 E).iD (bA st) p/\p (zEndsOf Γ.M0 Q') (zstart N ds) Γ.M0):FnOk P w K mg base bq (k+1) f fd ps (aW P w K tb S) :=by
 refine D.fn.U1 sc (tq len) fun A outer s H vs Q E hr h=>?_
 obtain⟨β,ds,M,Q',E',eP,ew,eK,et,m,rs,hS,q,_⟩:=h;obtain⟨p,hp,hq⟩:=body A outer s E ⟨β,M,H⟩ ds Q' E' eP.symm ew.symm eK.symm et.symm hr hS;refine⟨_,hp,β,zstart N ds,M,zEndsOf M Q',qi (Γ:=⟨β,M,H⟩) m rs,hq,?_⟩;have fin:∀d M' v H',Ex β M H M' H'->Rz β M' H' v d->jW M Q' d M'->Q v H':=fun d M' v H' x r h=>oS m q x r h
 exact⟨fun bG M' aF H' x zr h=>fin _ _ _ _ ⟨zr.ent,x.mz⟩ .ao h,fun d M' v H' x e r h=>fin _ _ _ _ ⟨e,x.mz⟩ r h,fun _ _ _ _ _ _ h=>h,fun _ _ _ _ _ _ h=>h⟩
theorem mq (D:Df K mg x st ps f fd) (sc:aP N ps (aj st)) (len:∀ds M Q E,S ds M Q E->ds.length=ps.length)
  (body:∀(A:rb) (outer:List Op) (s:ba) (E:XK) (Γ:Gz) (ds:List Dv) (Q':ZK) (E':ZX),P=Γ.P->w=Γ.w->K=Γ.K->tb=Γ.tb->XR Γ E' E->bh k (A.deeper (envOfC x (aj st) s.heap.objs.size f fd.code))->S ds Γ.M0 Q' E'->
   ∃p,kD Γ (fE (dj P w) P w K mg base N x (aj st) f fd.code A outer s Γ.H0 E) (bA st) p/\p (zEndsOf Γ.M0 Q') (zstart N ds) Γ.M0):FnOk P w K mg base (dj P w) (k+1) f fd ps (aW P w K tb S) :=by
 refine D.fn.wg sc (tq len) fun A outer s H vs Q E hr h=>?_
 obtain⟨β,ds,M,Q',E',eP,ew,eK,et,m,rs,hS,q,qx⟩:=h;obtain⟨p,hp,hq⟩:=body A outer s E ⟨β,M,H⟩ ds Q' E' eP.symm ew.symm eK.symm et.symm qx hr hS;refine⟨_,hp,β,zstart N ds,M,zEndsOf M Q',qi (Γ:=⟨β,M,H⟩) m rs,hq,?_⟩;have fin:∀d M' v H',Ex β M H M' H'->Rz β M' H' v d->jW M Q' d M'->Q v H':=fun d M' v H' x r h=>oS m q x r h
 exact⟨fun bG M' aF H' x zr h=>fin _ _ _ _ ⟨zr.ent,x.mz⟩ .ao h,fun d M' v H' x e r h=>fin _ _ _ _ ⟨e,x.mz⟩ r h,fun _ _ _ _ _ _ h=>h,fun _ _ _ _ _ _ h=>h⟩
end
section
variable {X:Cx}{Γ:Gz}{β:Bz}{K:bn}
def zCall (S:bX) (E':ZX) (za:dm):aG:=fun ρ M Q=>za ρ M fun ds M1=>S ds M1 Q E'
theorem XR.none:XR Γ (fun _ _=>False) (fun _ _ _=>False):=fun _ _ _ _ h=>h
theorem rW {M M1 M2:Mh}{H H1 H2:Hp}(ent:Ey M H M1 H1) (sub:∀a,a∈Γ.hid->a∈β.hid) (eP:β.P=Γ.P) (ew:β.w=Γ.w) (eK:β.K=Γ.K) (et:β.tb=Γ.tb) (x:Ex β M1 H1 M2 H2):Ex Γ.toBz M H M2 H2:=⟨ent.trans x.toEy,x.mz.sub eP.symm ew.symm eK.symm et.symm sub⟩
section
variable {CX:fD}{k:Nat}{f:ag}{fd:mf}{ps:List bv}{S:bX}{E:XK}{E':ZX}{x:bv}{p pos:ww}{e:dL}{es:List dL}{za:dm}{P:ff}{w:hX}{tb:b5}
theorem Oe (hP:P=Γ.P) (hw:w=Γ.w) (hK:K=Γ.K) (ht:tb=Γ.tb) (hE:XR Γ E' E) {σ:St}{H:Hp}{Q:VK}(h:lE Γ (zCall S E' za) σ H Q):HM (aW P w K tb S) [] E (lA Γ za) σ H Q :=by
 subst hP hw hK ht;obtain⟨β,ρ,M,Q',zr,h,q⟩:=h;refine⟨β,ρ,M,_,zr,h,fun ds M1 vs H1 x1 r1 h1=>?_⟩
 show aW Γ.P Γ.w Γ.K Γ.tb S (vs++[]) H1 Q E;rw[Ch];exact⟨β,ds,M1,Q',E',zr.eP,zr.ew,zr.eK,zr.et,x1.mz,r1,h1,fun d M2 v H2 x2 r2 h2=>q _ _ _ _ (x1.trans x2) r2 h2,fun C M2 H2 x2 h2=>hE C M2 H2 (rW zr.ent zr.sub zr.eP zr.ew zr.eK zr.et (x1.trans x2)) h2⟩
theorem aK (F:FnOk X.prog X.w X.K X.mg X.base CX k f fd ps (aW P w K tb S)) (hr:bh k X.A) (hg:Gl X x) (hm:X.mg x=some (.ref f)) (hk:Cc X.K (.ref f)=true) (hb:Binds X.K fd ps []) (hx:Passes CX X E) (hP:P=Γ.P) (hw:w=Γ.w) (hK:K=Γ.K) (ht:tb=Γ.tb) (hE:XR Γ E' E)
  (ha:QA Γ X (e::es) za) (cZ:(x==("__debug__" : bv))=false :=by decide) (he:starEach (e::es) X.env=(false,eval e X.env)::starEach es X.env :=by rfl) (bM:(backTo pos (starEach es X.env)).any (·.1)=false :=by rfl) :
  QE Γ X (.Call (.Name x p) (e::es) [] pos) (zCall S E' za):=(Jz F hr hg hm hk hb .nil hx ha cZ he bM).imp fun σ H Q h=>Oe hP hw hK ht hE h
end
def zRaise (C:ag) (E':ZX) (za:dm):bT:=fun _ ρ M=>za ρ M fun ds M1=>ds.length<=sizeLine/\E' C M1
theorem qj {x:bv}{C:ag}{kY:dL}{rest:List dL}{za:dm}{uA:List ap}{B newId wC:String}{E:XK}{E':ZX}{np aM pos:ww}(O:Zk X.K C uA newId=true) (FB:ExcBaseFacts B newId wC uA) (hc:X.calm=true) (hR:Raises X E) (hE:XR Γ E' E) (hg:Gl X x) (hm:X.mg x=some (.ref C)) (ha:QA Γ X (kY::rest) za)
  (cZ:(x==("__debug__" : bv))=false :=by decide) (he:starEach (kY::rest) X.env=(false,eval kY X.env)::starEach rest X.env :=by rfl) (bM:(backTo aM (starEach rest X.env)).any (·.1)=false :=by rfl) :
  QS Γ X (.Raise (some (.Call (.Name x np) (kY::rest) [] aM)) none pos) (zRaise C E' za):=(Ga O FB hc hR hg hm ha cZ he bM).imp fun D σ H ⟨β,ρ,M,D',zr,h,r⟩=>⟨β,ρ,M,_,zr,h,fun ds M1 vs H1 x1 r1 h1=>
 ⟨by rw[r1.len];exact h1.1,hE C M1 H1 (rW zr.ent zr.sub zr.eP zr.ew zr.eK zr.et x1) h1.2⟩⟩
def zIsE (K:bn):rT:=fun ds M Q=>match ds with
 | [.exc C,.raw (.ref D)]=>eB K C/\(match kitOne K (.ref C) (.ref D) with|some b=>Q (.bl b) M|none=>False)
 | [.exc C,.raw (.ty T)]=>eB K C/\(match kitOne K (.ref C) (.type T) with|some b=>Q (.bl b) M|none=>False)
 | [.exc C,.tup es]=>eB K C/\∃Ds:List ag,es=Ds.map (fun D=>.raw (.ref D))/\(match kitAny K (.ref C) (Ds.map li) with|some b=>Q (.bl b) M|none=>False)
 |_=>False
theorem rX (hK:X.K=K):fS Γ X (.builtin "isinstance") (zIsE K):=⟨_,Gd hK,fun β xs ds M H Q Q' _ _ _ m rs z q=>by
 unfold zIsE at z;split at z
 ·rename_i C D;obtain⟨x,y,rfl,r,r'⟩:=jm rs;obtain⟨a,rfl,f,h⟩:=nY r;have e:=kz r';subst e;obtain⟨hC,z⟩:=z;split at z
  ·rename_i b hb;exact⟨a,C,b,h,hC,.inl ⟨D,rfl,hb⟩,q _ _ _ _ (.refl m) (.bl _) z⟩
  ·exact z.elim
 ·rename_i C T;obtain⟨x,y,rfl,r,r'⟩:=jm rs;obtain⟨a,rfl,f,h⟩:=nY r;have e:=kz r';subst e;obtain⟨hC,z⟩:=z;split at z
  ·rename_i b hb;exact⟨a,C,b,h,hC,.inr (.inl ⟨T,rfl,hb⟩),q _ _ _ _ (.refl m) (.bl _) z⟩
  ·exact z.elim
 ·rename_i C es;obtain⟨x,y,rfl,r,r'⟩:=jm rs;obtain⟨a,rfl,f,h⟩:=nY r;obtain⟨b2,vs,rfl,f2,h2,cP⟩:=bu r';obtain⟨hC,Ds,rfl,z⟩:=z;split at z
  ·rename_i b hb;have ev:vs=Ds.map V.ref :=by
    refine RS fun i=>?_
    cases e:vs[i]? with
    |none=>
     have:=So.mp e;have l:=cP.len;simp at l;rw[db,So.mpr (by omega)]
     rfl
    |some v=>
     obtain⟨d,hd,rd⟩:=cP.get' e;rw[db]at hd;cases e2:Ds[i]? with
     |none=>rw[e2]at hd;cases hd
     |some D=>rw[e2]at hd;cases hd;rw[db,e2,kz rd];rfl
   subst ev;exact⟨a,C,b,h,hC,.inr (.inr ⟨b2,Ds,rfl,h2,hb⟩),q _ _ _ _ (.refl m) (.bl _) z⟩
  ·exact z.elim
 ·exact z.elim⟩
section
variable {tg elt iter:dL}{ifs:List dL}{scope:zd}{pos:ww}{N':List bv}{tn:Nat}{idx:List Nat}{zi:gB}{g:c9}{tt:cT}{te:aG}{c P:ag}{k:Nat}
theorem fO (hc:X.calm=true) (B:aJ X.N X.env.scope scope N' tn idx) (hi:QI Γ X tg iter zi)
  (hg:Blk X N' scope fun Y=>QG Γ Y tg g) (ht:Blk X N' scope fun Y=>w9 Γ Y ifs tt) (he:Blk X N' scope fun Y=>QE Γ Y elt te)
  (hs:∀x,foldedSetIterable iter X.env x=pure x :=by intro _;rfl):QE Γ X (.ListComp elt [⟨tg,iter,ifs,0⟩] scope pos) (zComp tn idx zi g tt te):=(yu hc B hi hg ht he hs).imp fun σ H Q h=>DP h
theorem rY {i:Nat}{y:bv}{py nB:ww}(hN:X.N.Nodup) (dJ:X.N[i]?=some y) (hy:X.env.scope.names.lookup y=some .local) (hc:X.calm=true) (B:aJ X.N X.env.scope scope N' tn idx) (hi:QI Γ X tg iter zi)
  (hg:Blk X N' scope fun Y=>QG Γ Y tg g) (ht:Blk X N' scope fun Y=>w9 Γ Y ifs tt) (he:Blk X N' scope fun Y=>QE Γ Y elt te)
  (vZ:swapsWith (.ListComp elt [⟨tg,iter,ifs,0⟩] scope pos) (some (.Name y py)) nB.line X.env=pure true :=by rfl)
  (hs:∀x,foldedSetIterable iter X.env x=pure x :=by intro _;rfl):QS Γ X (.Assign [.Name y py] (.ListComp elt [⟨tg,iter,ifs,0⟩] scope pos) nB) (zAsg (zComp tn idx zi g tt te) (zgName i)):=(q9 hN dJ hy hc B hi hg ht he vZ hs).imp fun D σ H h=>Bj (fun _ _ _ h=>DP h) h
theorem yE {i:Nat}{y:bv}{py nB:ww}(hN:X.N.Nodup) (dJ:X.N[i]?=some y) (hy:X.env.scope.names.lookup y=some .local) (hc:X.calm=true) (B:aJ X.N X.env.scope scope N' tn idx) (hi:QI Γ X tg iter zi)
  (hg:Blk X N' scope fun Y=>QG Γ Y tg g) (ht:Blk X N' scope fun Y=>w9 Γ Y ifs tt) (he:Blk X N' scope fun Y=>QE Γ Y elt te)
  (vZ:swapsWith (.ListComp elt [⟨tg,iter,ifs,0⟩] scope pos) (some (.Name y py)) nB.line X.env=pure true :=by rfl)
  (hs:∀x,foldedSetIterable iter X.env x=pure x :=by intro _;rfl):QS Γ X (.Assign [.Name y py] (.ListComp elt [⟨tg,iter,ifs,0⟩] scope pos) nB) (zAsg (zCompP tn idx zi g tt te) (zgName i)):=(q9 hN dJ hy hc B hi hg ht he vZ hs).imp fun D σ H h=>Bj (fun _ _ _ h=>Ke h) h
theorem DW {p kW:ww}(hP:P∈Γ.tb) (hr:bh (k+1) X.A) (hc:X.calm=true) (B:aJ X.N X.env.scope scope N' tn idx)
  (h0:scope.names.lookup (".0" : bv)=some .local) (ko:scope.isCoroutine=false) (dG:X.env.code=.ref c) (hd:u7 X.base c P) (dF:∃bm ob,Yh X.base mainGlobals X.mg bm ob)
  (wc:Gl X "all") (hm:X.mg "all" = none) (hi:QI Γ X tg iter zi) (hg:dY X N' scope k fun Y=>QG Γ Y tg g) (ht:dY X N' scope k fun Y=>w9 Γ Y ifs tt) (he:dY X N' scope k fun Y=>QE Γ Y elt te)
  (hs:∀x,genFold iter X.env x=pure x :=by intro _;rfl):QE Γ X (.Call (.Name "all" p) [dg elt tg iter ifs scope kW] [] pos) (zAll tn idx zi g tt te):=(MV hr hc B h0 ko dG hd dF wc hm hi hg ht he hs).imp fun σ H Q h=>Q1 hP h
end
end
section
variable {X:Cx}{Γ:Gz}{β:Bz}{K:bn}
section
variable {tg elt iter:dL}{ifs:List dL}{scope:zd}{pos:ww}{N':List bv}{tn:Nat}{idx:List Nat}{zi:gB}{g:c9}{tt:cT}{te:aG}{c P:ag}{k:Nat}
theorem yF {p kW:ww}(hP:P∈Γ.tb) (hr:bh (k+1) X.A) (hc:X.calm=true) (B:aJ X.N X.env.scope scope N' tn idx)
  (h0:scope.names.lookup (".0" : bv)=some .local) (ko:scope.isCoroutine=false) (dG:X.env.code=.ref c) (hd:u7 X.base c P) (dF:∃bm ob,Yh X.base mainGlobals X.mg bm ob)
  (wc:Gl X "tuple") (hm:X.mg "tuple" = none) (hi:QI Γ X tg iter zi) (hg:dY X N' scope k fun Y=>QG Γ Y tg g) (ht:dY X N' scope k fun Y=>w9 Γ Y ifs tt) (he:dY X N' scope k fun Y=>QE Γ Y elt te)
  (hs:∀x,genFold iter X.env x=pure x :=by intro _;rfl):QE Γ X (.Call (.Name "tuple" p) [dg elt tg iter ifs scope kW] [] pos) (zTupG tn idx zi g tt te):=(yy hr hc B h0 ko dG hd dF wc hm hi hg ht he hs).imp fun σ H Q h=>Oa hP h
def IB (g:c9) (tt:cT) (te:aG):List Dv->aC->Mh->(List Int->Mh->Prop)->List Int->Prop
 | [],_,M,Q,acc=>Q acc M
 |d::ds,τ,M,Q,acc=>g d τ M fun aN M2=>tt aN M2 fun b M3=>if b=true then te aN M3 fun y M4=>(match y with | .int k=>acc.length+1<scanBound/\IB g tt te ds aN M4 Q (TU acc k)|_=>False) else IB g tt te ds aN M3 Q acc
end
def fj (xs ys:List Dv):List Dv:=(xs.zip ys).map fun p=>.tup [p.1,p.2]
def iS (n:Nat):List Dv:=(lw n).map fun i=>.int (i:Nat)
theorem uK {J:It}{vs us:List V}{ds es:List Dv}{M:Mh}{H:Hp}(r:aD β M H vs ds) (r2:aD β M H us es) (h:∀M' H',Ey M H M' H'->Ig J (vs.zip us) H'):DE β J (fj ds es) M H:=fun cK M' H' bx x m i=>by
 have q:=h M' H' x i;have hl:(fj ds es).length=(vs.zip us).length :=by simp[fj,r.len,r2.len]
 rw[hl];refine⟨fun hi=>⟨(q.1 hi).1,fun v n5 y=>?_⟩,q.2⟩
 obtain⟨t,p,ht,rfl,hp,rfl⟩:=(q.1 hi).2 v n5 y;rw[xz]at hp;obtain⟨d,hd,rd⟩:=r.get' hp.1;obtain⟨e,he,re⟩:=r2.get' hp.2;have x2:=Ex.lay m ht (.tup [p.1,p.2]);refine⟨x2,.tup [d,e],?_,fh (m.fz ht) av (.cons (((rd.bx bx).ey x).ex x2) (.cons (((re.bx bx).ey x).ex x2) .nil))⟩;unfold fj;rw[db,ma];exact⟨(d,e),by rw[xz];exact⟨hd,he⟩,rfl⟩
theorem enum_zip (vs:List V):((lw vs.length).map fun i=>(V.int (i:Nat),vs.getD i .ao))=((lw vs.length).map fun i=>V.int (i:Nat)).zip vs :=by
 refine RS fun i=>?_
 by_cases hi:i<vs.length
 ·rw[db,GT hi];symm
  show _=some (V.int (i:Nat),vs.getD i .ao);rw[xz,db,GT hi,c8,ar hi];exact⟨rfl,rfl⟩
 ·rw[So.mpr (by simp;omega),So.mpr (by simp;omega)]
theorem tu {n:Nat}{M:Mh}{H:Hp}:aD β M H ((lw n).map fun i=>V.int (i:Nat)) (iS n):=⟨by simp[iS],fun i v d a b=>by
 unfold iS at b;rw[db]at a b;cases e:(lw n)[i]? with
 |none=>rw[e]at a;cases a
 |some c=>rw[e]at a b;cases a;cases b;exact .int _⟩
theorem Sq.Su {H:Hp}{a:ag}{xs:List V}(h:H a=some (.lst xs)):Sq true K H a xs :=by
 unfold Sq;exact bL.of h
theorem Sq.ofT {H:Hp}{a:ag}{xs:List V}(h:H a=some (.tup xs)):Sq false K H a xs :=by
 unfold Sq;exact bW.of h
section
variable {elts:List dL}{x1:Nat}{tp p pos:ww}{l l1 l2:dL}{pl p1 p2:aG}
def ziEnumK (k:Bool) (p:aG):gB:=fun ρ M R=>p ρ M fun d M1=>match k,d with|false,.tup ds=>R (fj (iS ds.length) ds) M1|true,.lst ds=>R (fj (iS ds.length) ds) M1|_,_=>False
theorem zT (k:Bool) (hK:X.K=K) (hg:Gl X "enumerate") (hm:X.mg "enumerate" = none) (hl:QE Γ X l pl) (hs:starEach [l] X.env=[(false,eval l X.env)] :=by rfl) :
  QI Γ X (.Tuple elts x1 tp) (.Call (.Name "enumerate" p) [l] [] pos) (ziEnumK k pl):=(JV k hK hg hm hl hs).imp fun σ H R ⟨β,ρ,M,R',zr,h,q⟩=>⟨β,ρ,M,_,zr,h,fun d M1 v H1 x1 r1 h1=>by
 revert h1
 split
 ·intro h1;obtain⟨a,vs,rfl,f,e,rs⟩:=bu r1;refine⟨a,rfl,⟨vs,Sq.ofT e⟩,q _ _ _ _ x1 ?_ h1⟩;rw[<- rs.len];exact uK tu rs fun M' H' x=>by rw[<- enum_zip];exact uC (Sq.ofT (x.get f.1 e rfl))
 ·intro h1;obtain⟨a,vs,rfl,f,e,rs⟩:=gA r1;refine⟨a,rfl,⟨vs,Sq.Su e⟩,q _ _ _ _ x1 ?_ h1⟩;rw[<- rs.len];exact uK tu rs fun M' H' x=>by rw[<- enum_zip];exact uC (Sq.Su (x.get f.1 e rfl))
 ·exact fun h=>h.elim⟩
end
def zRangeP (p:aG):aG:=fun ρ M Q=>p ρ M fun d M1=>match d with | .int j => -(2 ^ 24)<=j/\j<=2 ^ 24/\∀a,M1 a=none->Q (.ptr a) (az M1 a (.lst (iS j.toNat)))|_=>False
section
variable {e:dL}{pe:aG}{p p1 p2 pos:ww}
theorem vj (hc:X.calm=true) (hg:Gl X "list") (hm:X.mg "list" = none) (CT:Gl X "range") (MZ:X.mg "range" = none) (he:QE Γ X e pe) (hs:starEach [e] X.env=[(false,eval e X.env)] :=by rfl) :
  QE Γ X (.Call (.Name "list" p) [.Call (.Name "range" p1) [e] [] p2] [] pos) (zRangeP pe):=(wj hc hg hm CT MZ he hs).imp fun σ H Q ⟨β,ρ,M,Q',zr,h,q⟩=>⟨β,ρ,M,_,zr,h,fun d M1 v H1 x1 r1 h1=>by
 revert h1
 split
 ·rename_i j;rintro⟨b1,b2,h1⟩;refine⟨_,aS r1,b1,b2,fun l hl=>?_⟩
  have x2:=Ex.own x1.mz (.inr hl) (tu (n:=j.toNat) (β:=β) (M:=M1) (H:=H1));exact q _ _ _ _ (x1.trans x2) (.ptr (by rw[updM_same];rfl)) (h1 l (x1.mz.free hl))
 ·exact fun h=>h.elim⟩
def truD (M:Mh):Dv->Option Bool
 | .bl b=>some b
 | .ao=>some false
 | .int i=>some (i != 0)
 | .str z=>if z.length<=sizeLine then some ((z.length:Int) != 0) else none
 | .tup ds=>some (!ds.isEmpty)
 | .lst ds=>some (!ds.isEmpty)
 | .ptr a=>match M a with|some (.lst ds)=>some (!ds.isEmpty)|_=>none
 |_=>none
def zTruth (p:aG):cT:=fun ρ M Q=>p ρ M fun d M1=>match truD M1 d with|some b=>Q b M1|none=>False
theorem aD.isEmpty {M:Mh}{H:Hp}{vs:List V}{ds:List Dv}(h:aD β M H vs ds):vs.isEmpty=ds.isEmpty :=by
 have:=h.len;cases vs<;>cases ds<;>simp_all
theorem Kh {M:Mh}{H:Hp}{v:V}{d:Dv}{b:Bool}(m:Mz β M H) (r:Rz β M H v d) (h:truD M d=some b):FK K v H b :=by
 cases r with
 |int i=>cases h;exact rfl
 |bl i=>cases h;exact rfl
 |ao=>cases h;exact rfl
 |str z=>
  simp only[truD]at h;split at h
  ·rename_i hz;cases h;exact⟨hz,rfl⟩
  ·cases h
 |tup f e hl q=>cases h;exact .inr (.inl ⟨_,bW.of e,by rw[aD.isEmpty ⟨hl,q⟩]⟩)
 |lst f e hl q=>cases h;exact .inl ⟨_,bL.of e,by rw[aD.isEmpty ⟨hl,q⟩]⟩
 |ptr hs=>
  simp only[truD]at h;split at h
  ·rename_i ds kj;cases h;obtain⟨vs,hv,rs⟩:=m.obj _ _ kj;exact .inl ⟨_,bL.of hv,by rw[rs.isEmpty]⟩
  ·cases h
 |set f e=>cases h
 |exc f e=>cases h
 |bt f e=>cases h
 |cu f e=>cases h
 |cw e=>cases h
 |raw v=>cases h
 |dk f e _ _ _=>cases h
 |dt f e _ _ _=>cases h
 |bF _ _ _ _ _ _=>cases h
theorem GD (ha:QE Γ X e pe) (he:∀whole,isTrue e X.env whole=(do let v <- whole;standAt e.pos;holding [v] (truthy v)) :=by intro _;rfl):QT Γ X e (zTruth pe):=(FL ha he).imp fun σ H Q ⟨β,ρ,M,Q',zr,h,q⟩=>⟨β,ρ,M,_,zr,h,fun d M1 v H1 x1 r1 h1=>by
 revert h1
 split
 ·rename_i b hb;intro h1;exact⟨b,Kh x1.mz r1 hb,q _ _ _ x1 h1⟩
 ·exact fun h=>h.elim⟩
end
theorem qv (i:Nat) {x:bv}{pos:ww}(hN:X.N[i]?=some x :=by rfl) (hv:pE X.env.scope x :=by first|exact sK rfl|exact RI (sK rfl)|exact RI (RI rfl)) (hd:(x==("__debug__" : bv))=false :=by decide)
  (dI:(x==("__classdict__" : bv))=false :=by decide):QE Γ X (.Name x pos) (zVar i):=N0 hN hv hd dI
end
theorem Vy {c:Bool}{A B:Prop}(h:c=true) (a:A):if c=true then A else B :=by rw[if_pos h];exact a
theorem Vz {c:Bool}{A B:Prop}(h:c=false) (b:B):if c=true then A else B :=by rw[h,if_neg i8];exact b
theorem eX {c:Bool}{A B:Prop}(h1:c=true->A) (h2:c=false->B):if c=true then A else B :=by
 cases c
 ·exact Vz rfl (h2 rfl)
 ·exact Vy rfl (h1 rfl)
theorem tD {g:c9}{te:aG}{M:Mh}(p:Dv->Bool) (I:aC->Prop):∀{ds:List Dv}{τ:aC}{Q:Bool->Mh->Prop},I τ->(∀d∈ds,∀τ,I τ->∀R:aC->ZK,(∀aN,I aN->R aN (.bl (p d)) M)->g d τ M fun aN M2=>te aN M2 (R aN))->Q (ds.all p) M->kJ g zNoIf te ds τ M Q
 | [],τ,Q,_,_,q=>q
 |d::ds,τ,Q,i,h,q=>by
          refine h d i4 τ i (fun aN=>zBool fun c M4=>if c=false then Q false M4 else kJ g zNoIf te ds aN M4 Q) fun aN i2=>?_
          show if p d=false then Q false M else kJ g zNoIf te ds aN M Q
          cases e:p d with
          |false=>
           rw[if_pos rfl];rw[List.all_cons,e]at q;exact q
          |true=>
           rw[if_neg (by decide)]
           rw[List.all_cons,e,XV]at q;exact tD p I i2 (fun d' hd=>h d' (f8 _ hd)) q
theorem fo {g:c9}{te:aG}(f:Dv->Dv) (I:aC->Mh->Prop):∀{ds:List Dv}{τ:aC}{M:Mh}{Q:List Dv->Mh->Prop},I τ M->(∀d∈ds,∀τ M,I τ M->∀R:aC->ZK,(∀aN M2,I aN M2->R aN (f d) M2)->g d τ M fun aN M2=>te aN M2 (R aN))->(∀τ M,I τ M->Q (ds.map f) M)->k6 g zNoIf te ds τ M Q
 | [],τ,M,Q,i,_,q=>q τ M i
 |d::ds,τ,M,Q,i,h,q=>by
          refine h d i4 τ M i (fun aN y M4=>k6 g zNoIf te ds aN M4 fun ys M5=>Q (y::ys) M5) fun aN M2 i2=>?_
          exact fo f I i2 (fun d' hd=>h d' (f8 _ hd)) fun Iw M3 i3=>q Iw M3 i3
abbrev eI (ns:List Int):Dv:=.tup (ns.map .int)
abbrev eN (net:List (List Int)):Dv:=.tup (net.map eI)
abbrev i5 (ns:List Int):Dv:=.lst (ns.map .int)
theorem xk:∀ns:List Int,kM (ns.map Dv.int)=some (ns.map Dt.int)
 | []=>rfl
 |n::ns=>by simp only[ss,kM,bV,xk ns]
theorem xl {n:Nat}:∀{ds:List Dt},(∀d∈ds,m7 d<=n)->gN ds<=n
 | [],_=>by rw[gN];exact nw _
 |d::ds,h=>by
          rw[gN];exact Nat.max_le.mpr ⟨h d i4,xl fun d' hd=>h d' (f8 _ hd)⟩
theorem Ki (ns:List Int):gN (ns.map Dt.int)<=0:=xl fun d hd=>by
 obtain⟨i,_,rfl⟩:=l6.mp hd;exact ce _
theorem jX {M:Mh}(ns:List Int):∀d∈ns.map Dv.int,Pin M d:=fun d hd=>by
 obtain⟨i,_,rfl⟩:=l6.mp hd;exact .int i
theorem DX {M:Mh}(ns:List Int):Pin M (eI ns):=.tup (jX ns)
theorem Of {M:Mh}(net:List (List Int)):Pin M (eN net):=.tup fun d hd=>by
 obtain⟨r,_,rfl⟩:=l6.mp hd;exact DX r
theorem Kj {α β:Type}{f:α->β}{xs:List α}{i:Int}{x:α}(h:dE xs i=some x):dE (xs.map f) i=some (f x) :=by
 unfold dE at h ⊢;rw[ci];cases e:jD xs.length i with
 |none=>rw[e]at h;cases h
 |some j=>rw[e]at h;simp only[ZG]at h ⊢;rw[db,h];rfl
theorem DY {α:Type}{xs:List α}{k:Nat}(h:k<xs.length):dE xs ((k:Nat):Int)=some xs[k]:=eF (ar h)
def spLaw (K:bn) (tb:b5):Sp:=fun vs H Q _=>∃(a:ag) (ns:List Int),vs=[.ref a]/\bL K H a (ns.map V.int)/\ns.length<=63/\HW tb.g H/\(∀p∈tb.l,Lm H p)/\∀H',(∀p∈tb.l,∃ps,H' p.1=some (.lam ps))->Q (.bl true) H'
def Og:bX:=fun ds M Q _=>∃ns:List Int,ds=[.bt ns]/\ns.length<=63/\(∀a,M a=none)/\∀M',Q (.bl true) M'
theorem Oh {P:ff}{w:hX}{K:bn}{mg:bv->Option ap}{base:ii}{k:Nat}{f:ag}{fd:mf}{x:bv}{tb:b5}(G:FnOk P w K mg base bq k f fd [x] (aW P w K tb Og)):FnOk P w K mg base bq k f fd [x] (spLaw K tb):=
 G.imp fun vs H Q E ⟨a,ns,e,hS,hl,hT,hL,q⟩=>by
  subst e;have m:Mz ⟨P,w,K,tb,[]⟩ (fun _=>none) H:=⟨(fun a o e=>nomatch e),hT,(fun a ha=>absurd ha (by simp)),(fun a o e=>nomatch e),hL⟩
  refine⟨⟨P,w,K,tb,[]⟩,[.bt ns],fun _=>none,fun d _=>d=.bl true,fun _ _=>False,rfl,rfl,rfl,rfl,m,.cons ?_ .nil,⟨ns,rfl,hl,fun _=>rfl,fun _=>rfl⟩,fun d M' v H' x r h=>?_,fun _ _ _ _ h=>h.elim⟩
  ·have fz:Fz ⟨P,w,K,tb,[]⟩ (fun _=>none) a:=⟨rfl,by simp⟩
   rcases hS with (h|⟨o,h⟩)|h
   ·exact .cu fz h
   ·exact .bt fz h
   ·exact .cw h
  ·subst h;rw[cz r];exact q H' fun p hp=>let ⟨ps,e,_⟩:=x.mz.lams p hp;⟨ps,e⟩
def Keeps (M0 M:Mh):Prop:=∀a o,M0 a=some o->M a=some o
theorem Keeps.refl {M0:Mh}:Keeps M0 M0:=fun _ _ h=>h
theorem Keeps.upd {M0 M:Mh}{a:ag}{o:Mo}(ha:M0 a=none) (h:Keeps M0 M):Keeps M0 (az M a o):=fun b u e=>by
 rw[aq (fun z=>by rw[z,ha]at e;cases e)]
 exact h b u e
theorem uL {M0 M:Mh}{Q:ZK}{d:Dv}(h:Keeps M0 M) (p:Pin M0 d) (q:Q d M0):jW M0 Q d M:=.inr ⟨h,d,.pin p,q⟩
theorem DZ {M0 M:Mh}{Q:ZK}{a:ag}{ds:List Dv}(h:Keeps M0 M) (h0:M0 a=none) (ha:M a=some (.lst ds)) (p:∀d∈ds,Pin M0 d) (q:Q (.lst ds) M0):jW M0 Q (.ptr a) M:=.inr ⟨h,.lst ds,.ptr h0 ha rfl fun i d d' e e'=>by
 rw[e]at e';cases e';exact .pin (p d (lp e)),q⟩
theorem dX {lo:Int}{n i:Nat}{d:Dv}(h:(dn lo n)[i]?=some d):d=.int (lo+(i:Nat))/\i<n :=by
 unfold dn at h;rw[db]at h;cases e:(lw n)[i]? with
 |none=>rw[e]at h;cases h
 |some k=>
  rw[e]at h;obtain⟨h1,h2⟩:=cr.mp e;rw[Zd]at h2;subst h2;exact⟨(l7 h).symm,by simpa using h1⟩
theorem rangeD_len (lo:Int) (n:Nat):(dn lo n).length=n :=by simp[dn]
theorem qk {tt:cT}(t:Dv->Bool) {τ:aC}:∀{ds:List Dv}{x:Option Dv}{M:Mh}{Q:List Dv->Mh->Prop},(∀d∈ds,∀R:Bool->Mh->Prop,R (t d) M->tt (some d::τ) M R)->Q (ds.filter t) M->k6 (zgName 0) tt (zVar 0) ds (x::τ) M Q
 | [],x,M,Q,_,q=>q
 |d::ds,x,M,Q,h,q=>by
          refine h d i4 _ ?_;cases e:t d with
          |true=>
           rw[Yy,if_pos e]at q;exact qk t (Q:=fun ys M5=>Q (d::ys) M5) (fun d' hd=>h d' (f8 _ hd)) q
          |false=>
           rw[Yy,if_neg (by rw[e];decide)]at q
           exact qk t (fun d' hd=>h d' (f8 _ hd)) q
theorem uM {xs ys:List Dv}{k:Nat}{d:Dv}(h:(fj xs ys)[k]?=some d):∃x y,d=.tup [x,y]/\xs[k]?=some x/\ys[k]?=some y :=by
 unfold fj at h;rw[db,ma]at h;obtain⟨p,h,rfl⟩:=h;rw[xz]at h;exact⟨p.1,p.2,rfl,h.1,h.2⟩
theorem zU {n k:Nat}{d:Dv}(h:(iS n)[k]?=some d):d=.int (k:Nat)/\k<n :=by
 unfold iS at h;rw[db]at h;cases e:(lw n)[k]? with
 |none=>rw[e]at h;cases h
 |some j=>
  rw[e]at h;obtain⟨h1,h2⟩:=cr.mp e;rw[Zd]at h2;subst h2;exact⟨(l7 h).symm,by simpa using h1⟩
theorem atI_zero {α:Type}{x:α}{xs:List α}:dE (x::xs) 0=some x:=eF (j:=0) rfl
theorem pairsD_len (xs ys:List Dv):(fj xs ys).length=min xs.length ys.length :=by simp[fj]
theorem numD_len (n:Nat):(iS n).length=n :=by simp[iS]
theorem zV (xs:List Dv) (lo hi:Option Int):cutD xs lo hi=(xs.drop (HT.aQ xs.length 0 lo)).take (HT.aQ xs.length xs.length hi - HT.aQ xs.length 0 lo):=rfl
theorem zW {n d k:Nat}:HT.aQ n d (some (k:Nat))=min k n :=by
 unfold HT.aQ;simp only[];split<;>omega
theorem Kk {xs:List Dv}{k:Nat}:cutD xs none (some (k:Nat))=xs.take k :=by
 rw[zV,zW];show (xs.drop 0).take (min k xs.length - 0)=xs.take k;rw[List.drop_zero,Nat.sub_zero];by_cases h:k<=xs.length
 ·rw[Nat.min_eq_left h]
 ·rw[Nat.min_eq_right (by omega),GE (ce _),GE (by omega)]
theorem D0 {xs:List Dv}{k:Nat}:cutD xs (some (k:Nat)) none=xs.drop k :=by
 rw[zV,zW];show (xs.drop (min k xs.length)).take (xs.length - min k xs.length)=xs.drop k;by_cases h:k<=xs.length
 ·rw[Nat.min_eq_left h,GE (by rw[SZ];omega)]
 ·rw[Nat.min_eq_right (by omega),List.drop_of_length_le (ce _),List.drop_of_length_le (by omega)]
  exact List.take_nil
end L2
namespace L2
open PySem PySem.Spec PyProof.Rows
def xm (N:List bv) (sc scope:zd) (N':List bv) (tn:Nat) (idx:List Nat):Prop:=
 scope.kind=.function/\(∀y∈scope.names,(y.2=.cell->scope.names.lookup y.1=some .cell)/\(y.2=.local->scope.names.lookup y.1=some .local)/\(y.2=.free->sc.names.lookup y.1=some .cell\/sc.names.lookup y.1=some .free)) /\
  N'.length=tn+idx.length/\∀p∈idx.zip (N'.drop tn),N[p.1]?=some p.2/\scope.names.lookup p.2=some .free
instance (N:List bv) (sc scope:zd) (N':List bv) (tn:Nat) (idx:List Nat):Decidable (xm N sc scope N' tn idx) :=by unfold xm;infer_instance
theorem GF {scope:zd}{env:Op}{x:bv}(h:scope.names.lookup x=some .cell\/scope.names.lookup x=some .free):(relabel scope env).names.lookup x=some .cell\/(relabel scope env).names.lookup x=some .free :=by
 rw[jE];rcases h with h|h
 ·rw[h];exact .inl rfl
 ·rw[h];simp only[Ix];split
  ·exact .inl rfl
  ·exact .inr rfl
theorem aJ.rel {N:List bv}{sc scope:zd}{env:Op}{N':List bv}{tn:Nat}{idx:List Nat}(B:aJ N sc scope N' tn idx):aJ N (relabel sc env) scope N' tn idx:=
 ⟨B.1,fun y hy=>⟨(B.2.1 y hy).1,(B.2.1 y hy).2.1,fun z=>GF ((B.2.1 y hy).2.2 z)⟩,B.2.2.1,B.2.2.2⟩
end L2
namespace L2
open PySem PySem.Spec PySem.W PyProof.Rows
section
variable {X:Cx}{Γ:Gz}{β:Bz}{K:bn}
def boolsD:List Dv->Option (List Bool)
 | []=>some []
 | .bl b::ds=>(boolsD ds).map (b::·)
 |_::_=>none
theorem uN:∀{ds:List Dv}{bs:List Bool},boolsD ds=some bs->ds=bs.map Dv.bl
 | [],bs,h=>by simp only[boolsD,KM]at h;subst h;rfl
 |d::ds,bs,h=>by
          cases d with
          |bl b=>
           simp only[boolsD,ma]at h;obtain⟨ms,h,rfl⟩:=h;rw[uN h];rfl
          |_=>simp[boolsD]at h
theorem uO {M:Mh}{H:Hp}:∀{vs:List V}{bs:List Bool},aD β M H vs (bs.map Dv.bl)->vs=bs.map V.bl
 | [],[],_=>rfl
 | [],_::_,r=>absurd r.len (by simp)
 |_::_,[],r=>absurd r.len (by simp)
 |v::vs,n::ns,r=>by
          rw[ss]at r;rw[ss,cz r.head,uO r.tail]
theorem Pin.mono {M M':Mh}{d:Dv}(h:Pin M d):(∀a,(M a).isSome=true->(M' a).isSome=true)->Pin M' d :=by
 intro k;induction h with
 |int i=>exact .int i
 |bl b=>exact .bl b
 |ao=>exact .ao
 |str z=>exact .str z
 |tup h ih=>exact .tup ih
 |lst h ih=>exact .lst ih
 |dk h ih=>exact .dk ih
 |dt h ih=>exact .dt ih
 |bF h ih=>exact .bF ih
 |set ns=>exact .set ns
 |ptr h=>exact .ptr (k _ h)
 |exc C=>exact .exc C
 |bt ns=>exact .bt ns
 |raw v=>exact .raw v
def de (M:Mh) (a:ag):Mh:=fun b=>if b=a then none else M b
theorem d8 {M:Mh}{a:ag}:de M a a=none :=by unfold de;rw[if_pos rfl]
theorem dB {M:Mh}{a b:ag}(h:b≠a):de M a b=M b :=by unfold de;rw[if_neg h]
structure Oi (M1 M:Mh) (ρ:aC):Prop where
 env:∀(i:Nat) (d:Dv),ρ[i]?=some (some d)->Pin M d
 obj:∀b o,M b=some o->M1 b=some o\/∀d∈o.items,Pin M d
theorem Zr.freeze {M:Mh}{ρ:aC}{σ:St}{H:Hp}{i:Nat}{a:ag}{ds:List Dv}(z:Zr Γ β M ρ σ H) (hi:ρ[i]?=some (some (.ptr a))) (ha:M a=some (.lst ds)) (h0:Γ.M0 a=none) (fr:Oi Γ.M0 (de M a) (ρ.set i (some (.lst ds)))) :
  Zr Γ β (de M a) (ρ.set i (some (.lst ds))) σ H/\Ev β M H (de M a) H :=by
 have rz:∀{v:V} {d:Dv},Rz β M H v d->Pin (de M a) d->Rz β (de M a) H v d:=fun r p=>r.mn (M0:=de M a) (fun b hb=>by
  by_cases e:b=a
  ·rw[e,d8]at hb;cases hb
  ·rw[dB e]at hb;exact hb) p
 have kr:i<ρ.length:=(cr.mp hi).1;have VA:∀d∈ds,Pin (de M a) d:=fun d hd=>by
  have:=fr.env i (.lst ds) (by rw[WS kr])
  cases this with|lst h=>exact h d hd
 have obj:∀b es,de M a b=some es->∀d∈es.items,Pin (de M a) d:=fun b es e d hd=>by
  rcases fr.obj b es e with q|q
  ·refine(z.wf b es q d hd).mono fun c hc=>?_
   have nc:c≠a:=fun w=>by rw[w,h0]at hc;cases hc
   rw[dB nc];exact z.ent.dom c hc
  ·exact q d hd
 have mz:Mz β (de M a) H :=by
  refine⟨fun b o e=>?_,z.mz.tabs,z.mz.hids,fun b o e=>?_,z.mz.lams⟩
  ·have nb:b≠a:=fun q=>by rw[q,d8]at e;cases e
   have e':M b=some o :=by rw[dB nb]at e;exact e
   have q:=z.mz.obj b o e';cases o with
   |lst es=>obtain⟨vs,hv,rs⟩:=q;exact⟨vs,hv,rs.len,fun j v d x y=>rz (rs.at' j v d x y) (obj b _ e d (lp y))⟩
   |dk ks es=>obtain⟨vs,hv,hk,rs⟩:=q;exact⟨vs,hv,hk,rs.len,fun j v d x y=>rz (rs.at' j v d x y) (obj b _ e d (lp y))⟩
   |dt ks es=>obtain⟨vs,hv,hk,rs⟩:=q;exact⟨vs,hv,hk,rs.len,fun j v d x y=>rz (rs.at' j v d x y) (obj b _ e d (lp y))⟩
   |ts ks es=>obtain⟨vs,hv,hk,rs⟩:=q;exact⟨vs,hv,hk,rs.len,fun j v d x y=>rz (rs.at' j v d x y) (obj b _ e d (lp y))⟩
   |cW=>exact q
  ·have nb:b≠a:=fun q=>by rw[q,d8]at e;cases e
   rw[dB nb]at e;exact z.mz.apart b o e
 refine⟨⟨z.eP,z.ew,z.eK,z.et,z.sub,z.wf,⟨z.ent.keep,fun b hb=>?_,fun b o m h=>?_⟩,mz,by simp[z.len],fun j d e=>?_⟩,⟨fun b o _ h=>.inl h,fun b o m h=>?_,mz⟩⟩
 ·have nb:b≠a:=fun q=>by rw[q,h0]at hb;cases hb
  rw[dB nb];exact z.ent.dom b hb
 ·by_cases e:b=a
  ·rw[e,d8]
  ·rw[dB e];exact z.ent.new b o m h
 ·have p:=fr.env j d e;rw[Zt]at e;split at e
  ·rename_i q;subst q;first
    |cases e
    |(rw[if_pos kr]at e;cases e)
   obtain⟨v,hv,r⟩:=z.at' i _ hi;obtain⟨rfl,_⟩:=bO r;obtain⟨vs,hl,rs⟩:=z.mz.obj a _ ha;refine⟨_,hv,.lst ⟨d8,z.mz.apart a _ ha⟩ hl rs.len fun k v d x y=>rz (rs.at' k v d x y) (VA d (lp y))⟩
  ·obtain⟨v,hv,r⟩:=z.at' j d e;exact⟨v,hv,rz r p⟩
 ·by_cases e:b=a
  ·rw[e,d8]
  ·rw[dB e];exact m
def Uc (i:Nat) (M0:Mh) (p:bT):bT:=fun D ρ M=>p D ρ M\/∃a ds,ρ[i]?=some (some (.ptr a))/\M a=some (.lst ds)/\M0 a=none/\Oi M0 (de M a) (ρ.set i (some (.lst ds)))/\p D (ρ.set i (some (.lst ds))) (de M a)
theorem Oj (i:Nat) {M1:Mh}{st:ut}{p:bT}(hM:Γ.M0=M1) (h:QS Γ X st p):QS Γ X st (Uc i M1 p):=h.imp fun D σ H ⟨β,ρ,M,D',zr,h,r⟩=>by
 rcases h with h|⟨a,ds,hi,ha,h0,fr,h⟩
 ·exact⟨β,ρ,M,D',zr,h,r⟩
 ·obtain⟨z2,e2⟩:=zr.freeze hi ha (by rw[hM];exact h0) (by rw[hM];exact fr)
  exact⟨β,_,_,D',z2,h,r.step e2⟩
end
end L2
namespace L2
open PySem PySem.Spec PyProof.Rows
section
variable {κ:Type} [DecidableEq κ] {α:Type}
def look:List κ->List α->κ->Option α
 |k::ks,d::ds,x=>if k=x then some d else look ks ds x
 |_,_,_=>none
def ix:List κ->List α->κ->α->List α
 |k::ks,d::ds,x,y=>(if k=x then y else d)::ix ks ds x y
 |_,_,_,_=>[]
def putL (ks:List κ) (k:κ):List κ:=if k∈ks then ks else ks++[k]
def f6 (ks:List κ) (ds:List α) (k:κ) (d:α):List α:=if k∈ks then ix ks ds k d else ds++[d]
theorem iK {x:κ}:∀{ks:List κ}{ds:List α},ks.length=ds.length->(look ks ds x=none ↔ x ∉ ks)
 | [],[],_=>by simp[look]
 |k::ks,d::ds,h=>by
          have ih:=iK (x:=x) (ks:=ks) (ds:=ds) (by simpa using h)
          unfold look;by_cases e:k=x
          ·simp[e]
          ·rw[if_neg e,ih,l8];constructor
           ·rintro a (b|b)
            ·exact e b.symm
            ·exact a b
           ·exact fun a b=>a (.inr b)
 | [],_::_,h=>by simp at h
 |_::_,[],h=>by simp at h
theorem ql (x:κ):∀(ks:List κ) (vs:List V),iR (ks.zip vs) x=look ks vs x
 | [],vs=>by cases vs<;>rfl
 |_::_,[]=>rfl
 |k::ks,v::vs=>by
          rw[Pf];unfold look;by_cases e:k=x
          ·rw[if_pos e];exact lW (p:=(k,v)) e
          ·rw[if_neg e,lX (p:=(k,v)) e];exact ql x ks vs
theorem xn (x:κ):∀(ks:List κ) (ds:List α) {d:α},look ks ds x=some d->∃i:Nat,ks[i]?=some x/\ds[i]?=some d/\∀{β:Type}(es:List β),look ks es x=es[i]?
 | [],ds,d,h=>by cases ds<;>cases h
 |_::_,[],d,h=>by cases h
 |k::ks,e::ds,d,h=>by
          unfold look at h;by_cases q:k=x
          ·rw[if_pos q]at h;cases h;refine⟨0,by rw[q];rfl,rfl,fun es=>?_⟩
           cases es with
           |nil=>rfl
           |cons a es=>unfold look;rw[if_pos q];rfl
          ·rw[if_neg q]at h;obtain⟨i,a,b,c⟩:=xn x ks ds h;refine⟨i+1,a,b,fun es=>?_⟩
           cases es with
           |nil=>rfl
           |cons y es=>unfold look;rw[if_neg q,c es];rfl
theorem og (x:κ):∀(ks:List κ) (ds:List α) {β:Type}(es:List β),ds.length=es.length->look ks ds x=none->look ks es x=none
 | [],ds,_,es,_,_=>by cases es<;>rfl
 |_::_,[],_,es,h,_=>by cases es with
  |nil=>rfl
  |cons _ _=>simp at h
 |k::ks,d::ds,_,[],h,_=>by simp at h
 |k::ks,d::ds,_,e::es,h,q=>by
          unfold look at q ⊢;by_cases z:k=x
          ·rw[if_pos z]at q;cases q
          ·rw[if_neg z]at q ⊢;exact og x ks ds es (by simpa using h) q
theorem uP (x:κ) (y:α):∀(ks:List κ) (ds:List α),ks.length=ds.length->(ix ks ds x y).length=ds.length
 | [],[],_=>rfl
 |k::ks,d::ds,h=>by unfold ix;rw[AS,uP x y ks ds (by simpa using h)];rfl
 | [],_::_,h=>by simp at h
 |_::_,[],h=>by simp at h
theorem xo {ks:List κ}{ds:List α}(h:ks.length=ds.length) (k:κ) (d:α):(putL ks k).length=(f6 ks ds k d).length :=by
 unfold putL f6;split
 ·rw[uP _ _ _ _ h,h]
 ·simp[h]
theorem uQ (x:κ) (y:V):∀(ks:List κ) (vs:List V),ks.length=vs.length->(ks.zip vs).map (fun kv=>if kv.1=x then (kv.1,y) else kv)=ks.zip (ix ks vs x y)
 | [],[],_=>rfl
 |k::ks,d::ds,h=>by
          unfold ix;rw[Pf,Pf,ss,uQ x y ks ds (by simpa using h)]
          congr 1
          dsimp only;split<;>rfl
 | [],_::_,h=>by simp at h
 |_::_,[],h=>by simp at h
theorem zX {ks:List κ}{vs:List V}(h:ks.length=vs.length) (k:κ) (v:V):putK (ks.zip vs) k v=(putL ks k).zip (f6 ks vs k v) :=by
 have e:((ks.zip vs).any fun kv=>decide (kv.1=k))=decide (k∈ks) :=by
  rw[qb,ql];cases q:look ks vs k with
  |none=>exact(decide_eq_false ((iK h).mp q)).symm
  |some x=>
   have hm:k∈ks:=ID fun z=>by rw[(iK h).mpr z]at q;cases q
   rw[decide_eq_true hm];rfl
 unfold putK putL f6;rw[e];by_cases q:k∈ks
 ·rw[if_pos (decide_eq_true q),if_pos q,if_pos q];exact uQ k v ks vs h
 ·rw[if_neg (by rw[decide_eq_false q];exact i8),if_neg q,if_neg q,YT h]
  rfl
end
section
variable {β:Bz}{M:Mh}{H:Hp}{κ:Type} [DecidableEq κ]
theorem uR (x:κ) {v:V}{d:Dv}(r:Rz β M H v d):∀(ks:List κ) (vs:List V) (ds:List Dv),aD β M H vs ds->aD β M H (ix ks vs x v) (ix ks ds x d)
 | [],_,_,_=>by
          unfold ix;exact .nil
 |_::_,[],[],_=>.nil
 |_::_,[],_::_,h=>absurd h.len (by simp)
 |_::_,_::_,[],h=>absurd h.len (by simp)
 |k::ks,u::vs,e::ds,h=>by
          unfold ix;refine .cons ?_ (uR x r ks vs ds h.tail);split
          ·exact r
          ·exact h.head
theorem xq (x:κ) {v:V}{d:Dv}(r:Rz β M H v d) {ks:List κ}{vs:List V}{ds:List Dv}(h:aD β M H vs ds):aD β M H (f6 ks vs x v) (f6 ks ds x d) :=by
 unfold f6;split
 ·exact uR x r ks vs ds h
 ·exact h.snoc r
theorem xr {ks:List κ}{vs:List V}{ds:List Dv}(rs:aD β M H vs ds) {x:κ}{o:Option Dv}(h:look ks ds x=o):∃ov,iR (ks.zip vs) x=ov/\ov.isSome=o.isSome/\∀r,o=some r->∃v,ov=some v/\Rz β M H v r :=by
 rw[ql];cases o with
 |none=>exact⟨none,og x ks ds vs rs.len.symm h,rfl,fun r e=>nomatch e⟩
 |some r=>
  obtain⟨i,a,b,c⟩:=xn x ks ds h;obtain⟨v,hv,rv⟩:=rs.get b;exact⟨some v,(c vs).trans hv,rfl,fun r' e=>by cases e;exact⟨v,rfl,rv⟩⟩
end
def keyD:Dv->Option Key
 | .int i=>some (.inl i)
 | .str z=>some (.inr z)
 |_=>none
def oU:List Dv->Option (List Key)
 | []=>some []
 |d::ds=>match keyD d,oU ds with|some k,some ks=>some (k::ks)|_,_=>none
def nowK (M:Mh):Dv->Dv
 | .ptr a=>match M a with|some (.dk ks ds)=>.dk ks ds|some (.dt ks ds)=>.dt ks ds|_=>.ptr a
 |d=>d
def lookD (M:Mh) (d e:Dv):Option (Option Dv):=match nowK M d with
 | .dk ks ds=>(match keyD e with|some k=>some (look ks ds k)|none=>none)
 | .dt ks ds=>(match e with | .tup es=>(match oU es with|some k=>some (look ks ds k)|none=>none)|_=>none)
 |_=>none
section
variable {X:Cx}{Γ:Gz}{β:Bz}{K:bn}{M:Mh}{H:Hp}
theorem oV {y:V}{e:Dv}{k:Key}(r:Rz β M H y e) (h:keyD e=some k):y=kV k :=by
 cases e with
 |int i=>cases h;exact aS r
 |str z=>cases h;exact cY r
 |_=>cases h
theorem mr:∀{es:List Dv}{ks:List Key}{vs:List V},aD β M H vs es->oU es=some ks->vs=ks.map kV
 | [],ks,vs,rs,h=>by
          cases h;cases vs with
          |nil=>rfl
          |cons _ _=>exact absurd rs.len (by simp)
 |e::es,ks,[],rs,h=>absurd rs.len (by simp)
 |e::es,ks,v::vs,rs,h=>by
          unfold oU at h;split at h
          ·rename_i k NS h1 h2;cases h;rw[ss,oV rs.head h1,mr rs.tail h2]
          ·cases h
theorem zY (m:Mz β M H) {x:V}{d:Dv}(r:Rz β M H x d):(∀ks ds,nowK M d=.dk ks ds->∃a vs,x=.ref a/\Rd H a (.dK (ks.zip vs))/\ks.length=vs.length/\aD β M H vs ds) /\
  (∀ks ds,nowK M d=.dt ks ds->∃a vs,x=.ref a/\Rd H a (.dT (ks.zip vs))/\ks.length=vs.length/\aD β M H vs ds) :=by
 cases r with
 |dk f e hk hl h=>exact⟨fun ks ds q=>(by cases q;exact⟨_,_,rfl,e,hk,hl,h⟩),fun ks ds q=>by cases q⟩
 |dt f e hk hl h=>exact⟨fun ks ds q=>(by cases q),fun ks ds q=>by cases q;exact⟨_,_,rfl,e,hk,hl,h⟩⟩
 | @ptr a hs=>
  simp only[nowK];cases q2:M a with
  |none=>rw[q2]at hs;cases hs
  |some o=>
   have q:=m.obj a o q2;cases o with
   |dk ks ds=>obtain⟨vs,e,hk,rs⟩:=q;exact⟨fun ks ds q=>(by cases q;exact⟨_,_,rfl,.inl e,hk,rs⟩),fun ks ds q=>by cases q⟩
   |dt ks ds=>obtain⟨vs,e,hk,rs⟩:=q;exact⟨fun ks ds q=>(by cases q),fun ks ds q=>by cases q;exact⟨_,_,rfl,.inl e,hk,rs⟩⟩
   |_=>exact⟨fun ks ds q=>(by cases q),fun ks ds q=>by cases q⟩
 |_=>exact⟨fun ks ds q=>(by cases q),fun ks ds q=>(by cases q)⟩
theorem xt (m:Mz β M H) {x y:V}{d e:Dv}{o:Option Dv}(r:Rz β M H x d) (re:Rz β M H y e) (h:lookD M d e=some o):∃a ov,x=.ref a/\qd H a y ov/\ov.isSome=o.isSome/\∀r,o=some r->∃v,ov=some v/\Rz β M H v r :=by
 unfold lookD at h;obtain⟨h1,h2⟩:=zY m r;split at h
 ·rename_i ks ds q;obtain⟨a,vs,rfl,ha,hk,rs⟩:=h1 ks ds q;split at h
  ·rename_i k xu;rw[oV re xu];obtain⟨ov,e1,e2,e3⟩:=xr rs (l7 h);subst e1;exact⟨a,_,rfl,.inl ⟨_,k,ha,rfl,rfl⟩,e2,e3⟩
  ·cases h
 ·rename_i ks ds q;obtain⟨a,vs,rfl,ha,hk,rs⟩:=h2 ks ds q;split at h
  ·split at h
   ·rename_i k xu;obtain⟨b,us,rfl,_,hb,ru⟩:=bu re;rw[mr ru xu]at hb;obtain⟨ov,e1,e2,e3⟩:=xr rs (l7 h);subst e1;exact⟨a,_,rfl,.inr ⟨_,k,b,ha,rfl,hb,rfl⟩,e2,e3⟩
   ·cases h
  ·cases h
 ·cases h
def zGetR:eC:=fun d e M Q=>match lookD M d e with|some (some r)=>Q r M|_=>False
theorem zZ {a b:dL}{pa pb:aG}{pos:ww}(hu:X.A.units+64<cLine) (ha:QE Γ X a pa) (hb:QE Γ X b pb) (hs:Gj b):QE Γ X (.Subscript a b pos) (zOp zGetR pa pb):=
 (J0 (by omega) ha hb hs).imp fun σ H Q ⟨β,ρ,M,Q',zr,h,q⟩=>⟨β,ρ,M,_,zr,h,fun d M1 v H1 x1 r1 h1=>⟨β,ρ,M1,_,zr.step x1,h1,fun e M2 u H2 x2 r2 h2=>by
  unfold zGetR at h2;split at h2
  ·rename_i r hl;obtain⟨a,ov,rfl,g,_,e3⟩:=xt x2.mz (r1.ex x2) r2 hl;obtain⟨w,rfl,jy⟩:=e3 r rfl;exact⟨a,w,rfl,g,q _ _ _ _ (x1.trans x2) jy h2⟩
  ·exact h2.elim⟩⟩
def zDIn (neg:Bool):eC:=fun e d M Q=>match lookD M d e with|some o=>Q (.bl (if neg then !o.isSome else o.isSome)) M|none=>False
def GH (neg:Bool):R2:=fun y x H Q=>∃a o,x=.ref a/\qd H a y o/\Q (.bl (if neg then !o.isSome else o.isSome)) H
theorem z4 {neg:Bool}:rQ Γ (GH neg) (zDIn neg):=fun β x y d e M H Q Q' _ _ _ m rx ry z q=>by
 unfold zDIn at z;split at z
 ·rename_i o hl;obtain⟨a,ov,rfl,g,e2,_⟩:=xt m ry rx hl;refine⟨a,ov,rfl,g,?_⟩;rw[e2];exact q _ _ _ _ (.refl m) (.bl _) z
 ·exact z.elim
theorem Q4 (hu:X.A.units+64<cLine):fi Γ X (compareOp .In) (zDIn false):=⟨GH false,fun pins s σ H x y v u Q I rx ry ⟨a,o,e,g,q⟩=>by
 subst e;cases (show u=li a from ry);exact TZ (by omega) I g rx fun s3 I3=>⟨.bl o.isSome,H,I3,rfl,q⟩,z4⟩
theorem GI (hu:X.A.units+64<cLine):fi Γ X (compareOp .NotIn) (zDIn true):=⟨GH true,fun pins s σ H x y v u Q I rx ry ⟨a,o,e,g,q⟩=>by
 subst e;cases (show u=li a from ry);exact JY (by omega) I g rx fun s3 I3=>⟨.bl (!o.isSome),H,I3,rfl,q⟩,z4⟩
end
section
variable {β:Bz}{M:Mh}{H:Hp}{D:ag}{o':Mo}{u:HO}
theorem Km {v:V}{d:Dv}(r:Rz (β.add D) M H v d):Rz β (az M D o') (upd H D u) v d :=by
 have na:∀a,Fz (β.add D) M a->a≠D:=fun a f z=>f.2 (by rw[z];exact i4)
 have ne:∀a,Fz (β.add D) M a->Fz β (az M D o') a:=fun a f=>⟨by rw[aq (na a f)];exact f.1,fun z=>f.2 (f8 _ z)⟩
 have pre:∀a x,Fz (β.add D) M a->H a=some x->upd H D u a=some x:=fun a x f e=>by rw[ae (na a f)];exact e
 induction r with
 |int i=>exact .int i
 |bl b=>exact .bl b
 |ao=>exact .ao
 |str z=>exact .str z
 |tup m e hl h ih=>exact .tup (ne _ m) (pre _ _ m e) hl ih
 |lst m e hl h ih=>exact .lst (ne _ m) (pre _ _ m e) hl ih
 |dk m e hk hl h ih=>exact .dk (ne _ m) (e.map fun _ h=>pre _ _ m h) hk hl ih
 |dt m e hk hl h ih=>exact .dt (ne _ m) (e.map fun _ h=>pre _ _ m h) hk hl ih
 |bF m e m2 e2 hl h ih=>exact .bF (ne _ m) (pre _ _ m e) (ne _ m2) (pre _ _ m2 e2) hl ih
 |set m e=>exact .set (ne _ m) (pre _ _ m e)
 |ptr m=>exact .ptr (by unfold az;split;rfl;exact m)
 |exc m e=>exact .exc (ne _ m) (pre _ _ m e)
 |bt m e=>exact .bt (ne _ m) (pre _ _ m e)
 |cu m e=>exact .cu (ne _ m) (pre _ _ m e)
 |cw e=>exact .cw e
 |raw v=>exact .raw v
theorem ib {vs:List V}{ds:List Dv}(r:aD (β.add D) M H vs ds):aD β (az M D o') (upd H D u) vs ds:=⟨r.len,fun i v d a b=>Km (r.at' i v d a b)⟩
theorem Ex.D1 {M2:Mh}{H2:Hp}{o:HO}(x:Ex β M H M2 H2) (hD:D∈β.hid) (m:M D=none) (h:H D=some o) (ho:jP o=true):H2 D=some o :=by
 rcases x.keep D o m h with q|⟨o',t,q⟩
 ·exact q
 ·rcases t with ⟨_,_,rfl,_⟩|⟨_,_,rfl,_⟩|⟨_,ob,rfl⟩
  ·cases ho
  ·cases ho
  ·obtain⟨w,e,n⟩:=x.mz.hids D hD;rw[q]at e;cases e;cases n
theorem Mz.Ol (m:Mz (β.add D) M H) (hM:M D=none) (hD:D ∉ β.hid) (nt:D ∉ β.tb) (hu:nX u=true) (r:iH β (az M D o') (upd H D u) D o'):Mz β (az M D o') (upd H D u) :=by
 obtain⟨oD,eD,nD⟩:=m.hids D i4;refine⟨fun a o e=>?_,fun q hq=>?_,fun a ha=>(m.hids a (f8 _ ha)).upd (.inr hu),fun a o e z=>?_,fun q hq=>?_⟩
 ·by_cases ha:a=D
  ·subst ha;rw[updM_same]at e;cases e;exact r
  ·rw[aq ha]at e;have z:=m.obj a o e;cases o with
   |lst ds=>obtain⟨vs,z,rs⟩:=z;exact⟨vs,by rw[ae ha];exact z,ib rs⟩
   |dk ks ds=>obtain⟨vs,z,hk,rs⟩:=z;exact⟨vs,by rw[ae ha];exact z,hk,ib rs⟩
   |dt ks ds=>obtain⟨vs,z,hk,rs⟩:=z;exact⟨vs,by rw[ae ha];exact z,hk,ib rs⟩
   |ts ks ds=>obtain⟨vs,z,hk,rs⟩:=z;exact⟨vs,by rw[ae ha];exact z,hk,ib rs⟩
   |cW=>obtain⟨c,n,z,q⟩:=z;exact⟨c,n,by rw[ae ha];exact z,q⟩
 ·obtain⟨ps,e,t⟩:=m.tabs q hq;exact⟨ps,by rw[ae (show q≠D from fun z=>nt (by rw[<- z];exact hq))];exact e,t⟩
 ·by_cases ha:a=D
  ·exact hD (ha▸z)
  ·rw[aq ha]at e;exact m.apart a o e (f8 _ z)
 ·exact(m.lams q hq).keep (fun _ e=>by rw[ae (fun z=>by subst z;rw[eD]at e;cases e;cases nD)];exact e) fun c _ _ e=>by rw[ae (fun z=>by subst z;rw[eD]at e;cases e;cases nD)];exact e
end
section
variable {X:Cx}{pos:ww}
def Kn (tk tv:TE):TE:=fun σ H Q=>∀p,H p=none->tk σ (upd H p (.dT [])) fun x H1=>tv σ H1 fun y H2=>H2 p=some (.dT [])/\∃b k,x=.ref b/\H2 b=some (.tup (k.map kV))/\Q (.ref p) (upd H2 p (.dT [(k,y)]))
theorem D2 {k v:dL}{tk tv:TE}(hu:X.A.units+1<cLine) (hk:PE X k tk) (hv:PE X v tv):PE X (.Dict [some k] [v] pos) (Kn tk tv) :=by
 refine⟨?_⟩;intro pins s σ H Q I q;have hn:=I.hok.fresh (ce s.heap.objs.size);have I1:=I.laid (a:=s.heap.objs.size) (o:=.dT []) (h':=s.heap.push {cls:=.type "dict",data:=.dict #[]}) (t':=s.toks) (fun _ _ q=>br _ q) (ce _) (Gp s.heap I.big)
 refine wpAny_Dict_any rfl rfl (by simp) (by simp) (pairTrees_cons_walk (thn (hk pins _ σ _ _ I1 (q _ hn)) fun w1 s2 ⟨x,H1,I2,rx,q1⟩=>thn (hv pins s2 σ H1 _ I2 q1) fun w2 s3 ⟨y,H2,I3,ry,hp,b,ks,ex,hb,q2⟩=>pairTrees_nil_walk ?_))
 subst ex;cases (show w1=li b from rx);unfold storeAll;rw[List.forIn_cons];obtain⟨z,hd,xs,rel,dd⟩:=Ij I3.hok hp;cases rel;refine ac (ac (wpAny_dictSet_heap (knd:=tupleKind (bz X.prog X.w)) (by show X.A.units<cLine;omega) (ll I3.hok hb) dd (fun h' rD hs=>bi ?_) (by simp)))
 dsimp only;rw[List.forIn_nil];refine bi ⟨.ref s.heap.objs.size,_,?_,rfl,q2⟩;obtain⟨o,es,ep,ho,h2,h3,h4,h5,h6⟩:=rD;have he:storedH ([]:List (List Key×ag×ap)) ks b w2=[(ks,b,w2)]:=rfl;rw[he]at h4 h6;refine oP I3 (by rw[hp];exact NE) hs ⟨o,ho⟩ ⟨by show 1<=sizeLine;decide,hd,[(ks,b,w2)],.cons ⟨rfl,?_,ry⟩ .nil,o,es,ep,ho,h2,h3,h4,h6⟩
 rw[ae (An hb hp (by intro z;cases z))]
 exact hb
end
section
variable {X:Cx}{Γ:Gz}{β:Bz}{K:bn}
def zDisp1K (pk pv:aG):aG:=fun ρ M Q=>pk ρ M fun e M1=>pv ρ M1 fun v M2=>match keyD e with|some k=>∀a,M2 a=none->Q (.ptr a) (az M2 a (.dk [k] [v]))|none=>False
def zDisp1T (pk pv:aG):aG:=fun ρ M Q=>pk ρ M fun e M1=>pv ρ M1 fun v M2=>match e with | .tup es=>(match oU es with|some k=>∀a,M2 a=none->Q (.ptr a) (az M2 a (.dt [k] [v]))|none=>False)|_=>False
theorem z5 {M M2:Mh}{H H2:Hp}{D:ag}{o:HO}{o':Mo}{u:HO}(hD:H D=none) (x:Ex (β.add D) M (upd H D o) M2 H2) (mz:Mz β (az M2 D o') (upd H2 D u)):Ex β M H (az M2 D o') (upd H2 D u) :=by
 have ey:Ey M H M2 (upd H2 D u):=((Ey.refl (M:=M) (H:=H)).over (o:=o) hD |>.trans x.toEy).over hD
 exact⟨⟨ey.keep,fun a h=>by unfold az;split;rfl;exact ey.dom a h,fun a w m e=>by rw[aq (aX e hD)];exact ey.new a w m e⟩,mz⟩
theorem D3 {k v:dL}{pk pv:aG}{pos:ww}(hk:QE Γ X k pk) (hv:QE Γ X v pv):QE Γ X (.Dict [some k] [v] pos) (zDisp1K pk pv):=
 (J6 (Gq hk hv J5) rfl rfl (by simp) (by simp)).imp fun σ H Q ⟨β,ρ,M,Q',zr,h,q⟩ p hp=>by
  have z1:=zr.enter hp (o:=.dK []) rfl;refine⟨β.add p,ρ,M,_,z1,h,fun e M1 y H1 x1 r1 h1=>⟨β.add p,ρ,M1,_,z1.step x1,h1,fun d M2 w H2 x2 r2 h2=>?_⟩⟩
  have rZ:=x1.trans x2;have D4:M p=none:=zr.mz.free hp;have e2:H2 p=some (.dK []):=rZ.D1 i4 D4 av rfl;have uS:M2 p=none:=rZ.new p _ D4 av;refine⟨e2,?_⟩;split at h2
  ·rename_i kk Om;refine⟨[(kk,w)],by rw[oV (r1.ex x2) Om];rfl,by simp,?_⟩
   have e:lq [] [(kk,w)]=[kk].zip [w]:=rfl;rw[e];refine q _ _ _ _ (z5 (o':=.dk [kk] [d]) hp rZ (rZ.mz.Ol uS (zr.mz.fz hp).2 (zr.mz.Gw hp) rfl ⟨[w],av,rfl,ib (.cons r2 .nil)⟩)) (.ptr (by rw[updM_same];rfl)) (h2 p uS)
  ·exact h2.elim
theorem Sv {k v:dL}{pk pv:aG}{pos:ww}(hu:X.A.units+64<cLine) (hk:QE Γ X k pk) (hv:QE Γ X v pv):QE Γ X (.Dict [some k] [v] pos) (zDisp1T pk pv):=
 (D2 (by omega) hk hv).imp fun σ H Q ⟨β,ρ,M,Q',zr,h,q⟩ p hp=>by
  have z1:=zr.enter hp (o:=.dT []) rfl;refine⟨β.add p,ρ,M,_,z1,h,fun e M1 y H1 x1 r1 h1=>⟨β.add p,ρ,M1,_,z1.step x1,h1,fun d M2 w H2 x2 r2 h2=>?_⟩⟩
  have rZ:=x1.trans x2;have D4:M p=none:=zr.mz.free hp;have e2:H2 p=some (.dT []):=rZ.D1 i4 D4 av rfl;have uS:M2 p=none:=rZ.new p _ D4 av;refine⟨e2,?_⟩;split at h2
  ·split at h2
   ·rename_i es kk Om;obtain⟨b,us,rfl,_,hb,ru⟩:=bu (r1.ex x2);rw[mr ru Om]at hb;refine⟨b,kk,rfl,hb,?_⟩;refine q _ _ _ _ (z5 (o':=.dt [kk] [d]) (u:=.dT ([kk].zip [w])) hp rZ (rZ.mz.Ol uS (zr.mz.fz hp).2 (zr.mz.Gw hp) rfl ⟨[w],av,rfl,ib (.cons r2 .nil)⟩)) (.ptr (by rw[updM_same];rfl)) (h2 p uS)
   ·exact h2.elim
  ·exact h2.elim
def zDPut (pd pk pv:aG):bT:=fun D ρ M=>pv ρ M fun v M1=>pd ρ M1 fun d M2=>pk ρ M2 fun e M3=>match d with
 | .ptr a=>(match M3 a with
  |some (.dk ks ds)=>(match keyD e with|some k=>ks.length<sizeLine/\D.nx ρ (az M3 a (.dk (putL ks k) (f6 ks ds k v)))|none=>False)
  |some (.dt ks ds)=>(match e with | .tup es=>(match oU es with|some k=>ks.length<sizeLine/\D.nx ρ (az M3 a (.dt (putL ks k) (f6 ks ds k v)))|none=>False)|_=>False)
  |_=>False)
 |_=>False
theorem Ko {o i value:dL}{pd pk pv:aG}{pos pos':ww}(hu:X.A.units+64<cLine) (ho:QE Γ X o pd) (hi:QE Γ X i pk) (hv:QE Γ X value pv) (hs:swapsWith value (some (.Subscript o i pos')) pos.line X.env=pure false :=by rfl) :
  QS Γ X (.Assign [.Subscript o i pos'] value pos) (zDPut pd pk pv):=(J4 (by omega) ho hi hv hs).imp fun D σ H ⟨β,ρ,M,D',zr,h,r⟩=>⟨β,ρ,M,_,zr,h,fun v M1 vv H1 x1 r1 h1=>⟨β,ρ,M1,_,zr.step x1,h1,fun d M2 dv H2 x2 r2 h2=>
   ⟨β,ρ,M2,_,(zr.step x1).step x2,h2,fun e M3 ev H3 x3 r3 h3=>by
 have z3:=((zr.step x1).step x2).step x3;have zL:=x1.trans (x2.trans x3);have rv:=(r1.ex x2).ex x3;split at h3
 ·rename_i a;obtain⟨rfl,hs⟩:=bO r2;split at h3
  ·rename_i ks ds hM;obtain⟨vs,ha,hk,rs⟩:=x3.mz.obj a _ hM;split at h3
   ·rename_i k xu;obtain⟨hl,h3⟩:=h3;have hp:(M3 a).isSome=true :=by rw[hM];rfl
    have x4:Ex β M3 H3 (az M3 a (.dk (putL ks k) (f6 ks ds k v))) (upd H3 a (.dK ((putL ks k).zip (f6 ks vs k vv)))):=Ex.T8 x3.mz (.inl hp) (xo hk k vv) (xq k rv rs);refine⟨a,_,rfl,.inl ⟨_,k,ha,oV r3 xu,by rw[PM,<- hk,LB];exact hl,rfl⟩,?_⟩
    rw[zX hk];exact r.nx _ _ _ _ (zL.trans x4).ev (z3.step x4) h3
   ·exact h3.elim
  ·rename_i ks ds hM;obtain⟨vs,ha,hk,rs⟩:=x3.mz.obj a _ hM;split at h3
   ·split at h3
    ·rename_i k xu;obtain⟨hl,h3⟩:=h3;obtain⟨b,us,rfl,_,hb,ru⟩:=bu r3;rw[mr ru xu]at hb;have hp:(M3 a).isSome=true :=by rw[hM];rfl
     have x4:Ex β M3 H3 (az M3 a (.dt (putL ks k) (f6 ks ds k v))) (upd H3 a (.dT ((putL ks k).zip (f6 ks vs k vv)))):=Ex.T9 x3.mz (.inl hp) (xo hk k vv) (xq k rv rs);refine⟨a,_,rfl,.inr ⟨_,k,b,ha,rfl,hb,by rw[PM,<- hk,LB];exact hl,rfl⟩,?_⟩
     rw[zX hk];exact r.nx _ _ _ _ (zL.trans x4).ev (z3.step x4) h3
    ·exact h3.elim
   ·exact h3.elim
  ·exact h3.elim
 ·exact h3.elim⟩⟩⟩
def zLenK (d:Dv) (M:Mh) (Q:ZK):Prop:=match nowK M d with | .dk ks _=>Q (.int ks.length) M|_=>False
theorem Oo:fS Γ X (.builtin "len") (z1 zLenK):=⟨fun xs H Q=>∃a ah,xs=[.ref a]/\Rd H a (.dK ah)/\Q (.int ah.length) H,fun pins s σ H xs us Q I rs ⟨a,ah,e,ha,q⟩=>by
 subst e;cases rs with
 |cons r1 rs=>
  cases rs;cases r1;exact QM I ha fun t s' I'=>⟨.int ah.length,H,I',⟨t,rfl⟩,q⟩,fun β xs ds M H Q Q' _ _ _ m rs z q=>by
 unfold z1 at z;split at z
 ·obtain⟨x,rfl,r⟩:=dh rs;unfold zLenK at z;split at z
  ·rename_i ks ds hk;obtain⟨a,vs,rfl,ha,hk,_⟩:=(zY m r).1 _ _ hk;refine⟨a,_,rfl,ha,?_⟩;rw[PM,<- hk,LB];exact q _ _ _ _ (.refl m) (.int _) z
  ·exact z.elim
 ·exact z.elim⟩
end
def f7 (X:Cx):bv:=X.env.qual ++ "<lambda>"
structure Oq (X:Cx) (params:OP) (body:dL) (scope:zd) (o:lc) (c:ag) (oc:lc) (aL:List (bv×ag)):Prop where
 cells:∀n a,aL.lookup n=some a->X.env.cells.lookup n=some a
 has:∀n,(n,wS)∈scope.names->∃a,aL.lookup n=some a
 obj:∃i6,o=PP "<lambda>" (f7 X) params body scope aL ((X.mg "__name__").getD .none) c i6
 code:∃vs t,oc.data=.fields vs/\vs[1]?=some (YC (f7 X) t)
structure Ot (X:Cx) (P:ag) (H H2:Hp) (f:ag) (o:lc) (c:ag) (oc:lc):Prop where
 new:H f=none
 at':∃u,H2 f=some (.bC o u)
 cd:∃u,H2 c=some (.bC oc u)
 lm:Lm H2 (P,f7 X)
 keep:∀b u,H b=some u->b≠P->H2 b=some u
 tab:∃ps,H P=some (.lam ps)
def Ud (X:Cx) (P:ag) (params:OP) (body:dL) (scope:zd):TE:=fun _ H Q=>Lm H (P,f7 X)/\∀f o c oc aL H2,Oq X params body scope o c oc aL->Ot X P H H2 f o c oc->Q (.ref f) H2
def jY (a:ag) (o:lc):HO:=.bC o (.ext fun h=>h.get? a=some o)
theorem xx {P:ff}{w:hX}{H:Hp}{h:ii}{a:ag}{o:lc}(e:h.get? a=some o):ObjOk P w H h a (jY a o):=⟨e,e,⟨o,e⟩,fun _ _ x k=>k o x⟩
theorem D5 {a b c cv:ap}{pos:ww}(l:List ap) (h:Pd l) (e:codeAmong pos (l++[a,b,c])=some cv):codeAmong pos l=some cv\/cv=c :=by
 induction l using TriplesOk.induct with
 |case1=>
  right;simp only[X6]at e;unfold codeAmong at e;split at e
  ·rename_i heq;cases heq;split at e
   ·exact(l7 e).symm
   ·simp[codeAmong]at e
  ·cases e
 |case2 x tx y ty z rest ih=>
  simp only[XS,codeAmong]at e ⊢;split at e
  ·rename_i q;rw[if_pos q];exact .inl e
  ·rename_i q;rw[if_neg q];exact ih h e
 |case3 l n1 n2=>
  exfalso
  unfold Pd at h;split at h
  ·exact n1 rfl
  ·exact n2 _ _ _ _ _ _ rfl
  ·exact h
section
variable {X:Cx}{params:OP}{body:dL}{scope:zd}{pos:ww}{P cX:ag}
theorem Bn {pins:List (ag×lc)}{s:ba}{σ:St}{H:Hp}{h':ii}{o:lc}(I:Inv X pins σ H s) (hk:∀b u,s.heap.get? b=some u->h'.get? b=some u) (hsz:s.heap.objs.size<=h'.objs.size) (hc:o.isFreed=false) (tk:Nat) :
  Inv X pins σ (upd H h'.objs.size (jY h'.objs.size o)) {s with heap:=h'.push o,toks:=tk}:=
 I.laid (a:=h'.objs.size) (o:=jY h'.objs.size o) (t':=tk) (fun b u e=>br _ (hk b u e)) hsz (xx (ij _ hc))
theorem Bo {pins:List (ag×lc)}{s:ba}{σ:St}{H:Hp}{h':ii}{o oc:lc}{c:ag}{ps gK:Array ap}(I:Inv X pins σ H s) (hP:H P=some (.lam ps)) (hx:Y6 P s.heap h') (xA:s.heap.objs.size<=c) (aO:c<h'.objs.size) (t6:h'.get? c=some oc)
  (IC:h'.get? P=some {cls:=.none,data:=.fields gK}) (hc:o.isFreed=false) (tk:Nat) :
  Inv X pins σ (upd (upd (upd H P (.lam gK)) c (jY c oc)) h'.objs.size (jY h'.objs.size o)) {s with heap:=h'.push o,toks:=tk}:=by
 have Ou:P<s.heap.objs.size:=(I.hok P _ hP).lt;have hsz:s.heap.objs.size<=h'.objs.size:=OR (Nat.lt_of_le_of_lt xA aO);have old:∀b,b<s.heap.objs.size->b≠P->upd (upd (upd H P (.lam gK)) c (jY c oc)) h'.objs.size (jY h'.objs.size o) b=H b:=fun b hb n=>by
  rw[ae (l5 (l9 hb hsz)),ae (l5 (l9 hb xA)),ae n]
 have Xj:upd (upd (upd H P (.lam gK)) c (jY c oc)) h'.objs.size (jY h'.objs.size o) P=some (.lam gK) :=by
  rw[ae (l5 (l9 Ou hsz)),ae (l5 (l9 Ou xA)),av]
 have k:∀b u,b≠P->s.heap.get? b=some u->(h'.push o).get? b=some u:=fun b u n e=>br _ (hx b u n e)
 have D6:∀b u,H b=some u->b<s.heap.objs.size:=fun b u e=>(I.hok b u e).lt
 have nP:∀b,H b=none->b≠P:=fun b e z=>by rw[z,hP]at e;cases e
 have nT:∀b u,H b=some u->(∀ps,u≠.lam ps)->b≠P:=fun b u e n z=>by rw[z,hP]at e;cases e;exact n _ rfl
 refine I.un ⟨fun b u q n _ _=>k b u (nP b n) q,fun b u q n _ _=>⟨u.slots,k b u (nP b n) q⟩,fun b u q n _=>by rw[old b (io q) (nP b n)];exact n,fun b u q _=>?_,fun b xs q=>by rw[old b (D6 b _ q) (nT b _ q (by intro _ z;cases z))];exact q,
  fun b u xs q=>by rw[old b (D6 b _ q) (nT b _ q (by intro _ z;cases z))];exact q,fun b qs q=>⟨#[],by rw[old b (D6 b _ q) (nT b _ q (by intro _ z;cases z)),q];simp⟩⟩ fun b u q=>?_
 ·by_cases e:b=P
  ·subst e;exact⟨_,br _ IC⟩
  ·exact⟨u,k b u e q⟩
 ·by_cases e1:b=h'.objs.size
  ·subst e1;rw[av]at q;cases q;exact xx (ij _ hc)
  ·rw[ae e1]at q;by_cases e2:b=c
   ·subst e2;rw[av]at q;cases q;exact xx (br _ t6)
   ·rw[ae e2]at q;by_cases e3:b=P
    ·subst e3;rw[av]at q;cases q;exact br _ IC
    ·rw[ae e3]at q;refine(I.hok b u q).bp (fun a v hc q=>k a v ?_ q) (fun a z=>?_) fun a xs z=>?_
     ·rcases hc with z|z
      ·rw[z];exact e3
      ·exact nT a _ z (by intro _ w;cases w)
     ·rw[old a (D6 a _ z) (nT a _ z (by intro _ w;cases w))];exact z
     ·rw[old a (D6 a _ z) (nT a _ z (by intro _ w;cases w))];exact z
theorem Ov (dG:X.env.code=.ref cX) (hd:u7 X.base cX P) (dF:∃bm ob,Yh X.base mainGlobals X.mg bm ob) (vG:defaultsOf params X.env=([],[]))
  (i7:∀n,(n,wS)∈scope.names->X.env.kindOf n=some .cell\/X.env.kindOf n=some .free):PE X (.Lambda params body scope pos) (Ud X P params body scope) :=by
 refine⟨?_⟩;intro pins s σ H Q I ⟨⟨ps,hP,wa,uh⟩,q⟩;obtain⟨aL,kn,gJ,iP⟩:=jb (scope:=scope) (env:=X.env) fun n hn=>I.ok.has n (i7 n hn)
 have v3:s.heap.get? P=some (SL ps):=I.hok P _ hP;obtain⟨bm,ob,bmod⟩:=dF;have gv:=bmod.keeps I.bk;have VB:mainGlobals≠P:=fun z=>by
  obtain⟨o,es,ep,e,hd,_⟩:=gv.ns;rw[z,v3]at e;cases e;cases hd
 have VC:bm≠P:=fun z=>by
  have e:=gv.obj;have e2:=gv.data;rw[z,v3]at e;cases e;cases e2
 have VD:bm≠mainGlobals:=fun z=>by
  obtain⟨o,es,ep,e,hd,_⟩:=gv.ns;have e1:=gv.obj;have e2:=gv.data;rw[z,e]at e1;cases e1;rw[hd]at e2;cases e2
 have hb:s.heap.BuiltinsAt X.mg P:=⟨bm,ob,gv.name,gv.ne,VD,VC,gv.obj,gv.cls,gv.dict,gv.data⟩;refine PySem.W.kla_eval vG ?_;cases hq:codeAmong pos ps.toList with
 |some cv=>
  obtain⟨c,oc,uc,vs,t,rfl,ec,d1,d2⟩:=uh pos cv hq;refine PySem.W.kla_makeFunctionHit (mg:=X.mg) kn I.ok.glob (I.mod.glob.keeps I.bk) dG (hd.keeps I.bk) v3 wa hq hb fun i6 h' tk hk hsz=>?_
  have hf:H h'.objs.size=none:=I.hok.fresh hsz;have pre:∀b u,H b=some u->upd H h'.objs.size (jY h'.objs.size (PP "<lambda>" (f7 X) params body scope aL ((X.mg "__name__").getD .none) c i6)) b=some u:=fun b u e=>by rw[ae (aX e hf)];exact e
  refine⟨.ref h'.objs.size,_,Bn I hk hsz (o:=PP "<lambda>" (f7 X) params body scope aL ((X.mg "__name__").getD .none) c i6) rfl tk,rfl,q _ _ c oc aL _ ⟨gJ,iP,⟨i6,rfl⟩,⟨vs,t,d1,d2⟩⟩ ⟨hf,⟨_,av⟩,⟨uc,pre _ _ ec⟩,Lm.keep ⟨ps,hP,wa,uh⟩ (fun _ e=>pre _ _ e) fun _ _ _ e=>pre _ _ e,fun b u e _=>pre b u e,⟨ps,hP⟩⟩⟩
 |none=>
  refine PySem.W.kla_makeFunction (mg:=X.mg) kn I.ok.glob (I.mod.glob.keeps I.bk) dG (hd.keeps I.bk) v3 wa hq VB hb fun c i6 h' tk hx xA aO Ue IC=>?_
  obtain⟨c2,oc,vs,t,e2,t6,d1,d2⟩:=Ue;cases e2;have I2:=Bo (o:=PP "<lambda>" (f7 X) params body scope aL ((X.mg "__name__").getD .none) c i6) I hP hx xA aO t6 IC rfl tk
  have hsz:s.heap.objs.size<=h'.objs.size:=OR (Nat.lt_of_le_of_lt xA aO);have hf:H h'.objs.size=none:=I.hok.fresh hsz;have sd:H c=none:=I.hok.fresh xA;have VE:c≠h'.objs.size:=l5 aO;have VF:P≠c:=fun z=>by rw[z,sd]at hP;cases hP
  have VG:P≠h'.objs.size:=fun z=>by rw[z,hf]at hP;cases hP
  have VH:Pd (ps++#[rawInt pos.line,rawInt pos.col,li c]).toList :=by
   rw[YW];exact TriplesOk_snoc _ _ _ _ wa
  have pre:∀b u,H b=some u->b≠P->upd (upd (upd H P (.lam (ps++#[rawInt pos.line,rawInt pos.col,li c]))) c (jY c oc)) h'.objs.size (jY h'.objs.size (PP "<lambda>" (f7 X) params body scope aL ((X.mg "__name__").getD .none) c i6)) b=some u:=fun b u e n=>by
   rw[ae (aX e hf),ae (aX e sd),ae n];exact e
  have Sw:upd (upd (upd H P (.lam (ps++#[rawInt pos.line,rawInt pos.col,li c]))) c (jY c oc)) h'.objs.size (jY h'.objs.size (PP "<lambda>" (f7 X) params body scope aL ((X.mg "__name__").getD .none) c i6)) c=some (jY c oc) :=by rw[ae VE,av]
  refine⟨.ref h'.objs.size,_,I2,rfl,q _ _ c oc aL _ ⟨gJ,iP,⟨i6,rfl⟩,⟨vs,t,d1,d2⟩⟩ ⟨hf,⟨_,av⟩,⟨_,Sw⟩,⟨_,by rw[ae VG,ae VF,av],VH,fun p cv e=>?_⟩,pre,⟨ps,hP⟩⟩⟩
  rw[YW]at e;rcases D5 _ wa e with e|e
  ·obtain⟨c3,VI,u3,VJ,t3,a1,a2,a3⟩:=uh p cv e;exact⟨c3,VI,u3,VJ,t3,a1,pre _ _ a2 (fun z=>by rw[z,hP]at a2;cases a2),a3⟩
  ·exact⟨c,oc,_,vs,t,e,Sw,d1,d2⟩
end
structure IE (X:Cx) (σ:St) (b':ii):Prop where
 ext:∀b o,X.base.get? b=some o->b'.get? b=some o
 cell:∀(i:Nat) (x:bv) (v:V),X.N[i]?=some x->σ[i]?=some (some v)->X.env.scope.names.lookup x=some .cell->∃c u,X.env.cells.lookup x=some c/\RelV v u/\b'.IsCell c (some u)
 cells:∀x c,X.env.cells.lookup x=some c->∃v,b'.IsCell c v
 inj:∀x y c,X.env.cells.lookup x=some c->X.env.cells.lookup y=some c->x=y
theorem Mod.ext {K:bn}{mg:bv->Option ap}{b b':ii}(m:Mod K mg b) (k:∀a o,b.get? a=some o->b'.get? a=some o):Mod K mg b':=
 ⟨m.kin.keeps k,m.glob.keeps k,let ⟨mb,h1,h2⟩:=m.blt;⟨mb,h1.keeps k,h2⟩,m.nolimit.keeps k⟩
section
variable {X:Cx}{pins:List (ag×lc)}{σ:St}{H:Hp}{s:ba}
theorem Inv.Q5 (I:Inv X pins σ H s) (qR:∀x,X.fn x=true):∃b',IE X σ b'/\sN X.prog X.w X.K X.mg b' X.A X.stack s H :=by
 let IG:ag->Prop:=fun a=>∃x,X.env.cells.lookup x=some a
 let l:List ag:=(lw s.heap.objs.size).filter fun a=>@decide ((X.base.get? a=none)/\¬ IG a) (OF _)
 have ml:∀a,a∈l ↔ a<s.heap.objs.size/\X.base.get? a=none/\¬ IG a:=fun a=>by
  show a∈(lw s.heap.objs.size).filter _ ↔ _;rw[Wp,u4];simp only[decide_eq_true_eq]
 have ext:∀b o,X.base.get? b=some o->(Cf s.heap l).get? b=some o:=fun b o e=>XX l (I.bk b o e) fun z=>by
  have:=((ml b).mp z).2.1;rw[e]at this;cases this
 have cls:∀x c o,X.env.cells.lookup x=some c->s.heap.get? c=some o->(Cf s.heap l).get? c=some o:=fun x c o e ho=>XX l ho fun z=>((ml c).mp z).2.2 ⟨x,e⟩
 have only:∀b o,(Cf s.heap l).get? b=some o->s.heap.get? b=some o/\((∃o',X.base.get? b=some o')\/IG b):=fun b o e=>by
  have e':=Y7 l e;refine⟨e',?_⟩;by_cases hc:IG b
  ·exact .inr hc
  ·cases q:X.base.get? b with
   |some o'=>exact .inl ⟨o',rfl⟩
   |none=>
    have:(Cf s.heap l).get? b=none:=PySem.W.hideAll_none l ((ml b).mpr ⟨io e',q,hc⟩);rw[e]at this;cases this
 refine⟨Cf s.heap l,⟨ext,fun i x v h1 h2 h3=>?_,fun x c e=>?_,I.ok.inj⟩,I.ok.frames,I.ok.mod.ext ext,fun b o e=>?_,Yc (PySem.W.hideAll_size _ _),?_,I.oG,I.hok,I.bare.1⟩
 ·obtain⟨m,hn,hl⟩:=I.loc;obtain⟨u,r,lk⟩:=hl i x v h1 h2 (.inr (.inl h3));rcases lk with ⟨hk,_⟩|⟨_,c,ec,o,ho,hd⟩
  ·have hk:X.env.scope.names.lookup x=some .local:=hk;rw[h3]at hk;cases hk
  ·exact⟨c,u,ec,r,o,cls x c o ec ho,hd⟩
 ·obtain⟨v,o,ho,hd⟩:=I.cell x c e;exact⟨v,o,cls x c o e ho,hd⟩
 ·obtain⟨e',q⟩:=only b o e;refine⟨e',?_⟩;rcases q with ⟨o',q⟩|⟨x,q⟩
  ·exact(I.bs b o' q).2
  ·exact I.freeC x b q
 ·have fr:∀L∈dS X.stack,(Cf s.heap l).get? L=none:=fun L hL=>by
   cases q:(Cf s.heap l).get? L with
   |none=>rfl
   |some o=>
    exfalso
    obtain⟨e',q⟩:=only L o q;have nb:=(I.stack.mem hL).1;rcases q with ⟨o',q⟩|⟨x,q⟩
    ·rw[nb]at q;cases q
    ·rcases l8.mp (I.iC L hL) with z|z
     ·exact I.qO x L q z
     ·have h1:=I.ok.cab x L (qR x) q;obtain⟨_,o2,jB,_⟩:=I.ok.funs.mem z;exact absurd (io jB) (Z2.mpr h1)
  have go:∀(st:List Op),(∀L∈dS st,(Cf s.heap l).get? L=none)->s.heap.FunFrames X.base st->s.heap.FunFrames (Cf s.heap l) st :=by
   intro st;induction st with
   |nil=>intro _ _;trivial
   |cons env r ih=>
    intro hs hl;obtain⟨hk,⟨L,o,hf,hn,ho,hd⟩,hr⟩:=hl;exact⟨hk,⟨L,o,hf,hs L (by unfold dS;rw[GS,hf];exact i4),ho,hd⟩,ih (fun b hb=>hs b (by unfold dS;rw[GS,hf];exact f8 _ hb)) hr⟩
  exact go X.stack fr I.stack
end
section
variable {X:Cx}{CX:fD}{k:Nat}{f:ag}{fd:mf}{ps:List bv}{fK:List V}{ds:List ap}{E:XK}{x:bv}{p pos:ww}{e:dL}{es:List dL}{t:TA}
def Ow (X:Cx) (sp:ii->Sp) (fK:List V) (E:XK) (t:TA):TE:=fun σ H Q=>t σ H fun vs H1=>∀b',IE X σ b'->sp b' (vs++fK) H1 Q E
theorem GJ {sp:ii->Sp}(F:∀b',(∀b o,X.base.get? b=some o->b'.get? b=some o)->FnOk X.prog X.w X.K X.mg b' CX k f fd ps (sp b')) (hr:bh k X.A) (qR:∀x,X.fn x=true) (hg:Gl X x) (hm:X.mg x=some (.ref f)) (hk:Cc X.K (.ref f)=true) (hb:Binds X.K fd ps ds) (hd:Vals fK ds) (hx:Passes CX X E)
  (ha:PA X (e::es) t) (cZ:(x==("__debug__" : bv))=false :=by decide) (he:starEach (e::es) X.env=(false,eval e X.env)::starEach es X.env :=by rfl) (bM:(backTo pos (starEach es X.env)).any (·.1)=false :=by rfl) :
  PE X (.Call (.Name x p) (e::es) [] pos) (Ow X sp fK E t) :=by
 refine⟨?_⟩;intro pins s σ H Q I h;refine B0 (jl I hg hm ?_ cZ);refine Zb (h₀:=X.base) I.ok.mod.kin hk (thn (ha pos pins s σ H _ I h) fun us s1 ⟨vs,H1,I1,r,q⟩=>⟨I1.ez,?_⟩) he bM
 obtain⟨b',B,e0⟩:=I1.Q5 qR;have r2:Vals (vs++fK) (us++ds):=r.append hd;have hl:(us++ds).length=ps.length :=by rw[<- r2.length];exact(F b' B.ext).len _ _ _ _ (q b' B)
 refine YK (XB ((F b' B.ext).run X.A X.stack s1 H1 ⟨us,[]⟩ (us++ds) (vs++fK) Q E hr e0 (hb s1 us I1.ez hl) r2 (q b' B)) fun r s' hq=>?_)
 cases r with
 |error e=>exact hx pins σ H1 s1 e s' I1 hq
 |ok fl=>
  cases fl with
  |ret u=>exact I1.after hq
  |next=>exact DO hq
  |brk=>exact DO hq
  |cont=>exact DO hq
def Ox (f:ag) (o:lc) (sp:Sp) (E:XK) (i:Nat) (t:TA):TE:=fun σ H Q=>σ[i]?=some (some (.ref f))/\(∃u,H f=some (.bC o u))/\t σ H fun vs H1=>(∃u,H1 f=some (.bC o u))/\sp vs H1 Q E
theorem GK {o:lc}{sp:Sp}{i:Nat}(F:FnOk X.prog X.w X.K X.mg X.base CX k f fd ps sp) (ho:∃oc od fd sl,o=⟨oc,od,.func fd,sl⟩) (hr:bh k X.A) (hN:X.N[i]?=some x) (hv:pE X.env.scope x) (hb:Binds X.K fd ps []) (hx:Passes CX X E) (ha:PA X (e::es) t)
  (cZ:(x==("__debug__" : bv))=false :=by decide) (dI:(x==("__classdict__" : bv))=false :=by decide) (he:starEach (e::es) X.env=(false,eval e X.env)::starEach es X.env :=by rfl) (bM:(backTo pos (starEach es X.env)).any (·.1)=false :=by rfl) :
  PE X (.Call (.Name x p) (e::es) [] pos) (Ox f o sp E i t) :=by
 refine⟨?_⟩;intro pins s σ H Q I ⟨hi,hf,h⟩;obtain⟨oc,od,HX,sl,rfl⟩:=ho;refine B0 (thn ((vJ hN hv cZ dI) pins s σ H (fun v H'=>v=.ref f/\H'=H) I ⟨_,hi,rfl,rfl⟩) fun u s0 ⟨v,H0,I0,r0,e1,e2⟩=>?_)
 subst e1 e2;cases (show u=li f from r0);have at_:∀{H':Hp} {s':ba},Inv X pins σ H' s'->(∃u,H' f=some (.bC ⟨oc,od,.func HX,sl⟩ u))->PySem.W.FnAt f s'.heap:=fun I' ⟨u,hu⟩=>⟨oc,od,HX,sl,(I'.hok f _ hu).1⟩
 refine PySem.W.callWith_F (at_ I0 hf) (thn (ha pos pins s0 σ H0 _ I0 h) fun us s1 ⟨vs,H1,I1,r,VL,q⟩=>⟨at_ I1 VL,?_⟩) he bM
 have q':sp (vs++[]) H1 Q E :=by rw[Ch];exact q
 exact CA F hr hb .nil hx I1 r q'
end
def Bp (CX:fD) (P:ff) (w:hX) (K:bn) (mg:bv->Option ap) (base:ii) (N:List bv) (qual:bv) (scope:zd) (f:ag) (cd:ap) (aL:List (bv×ag)) (A:rb) (outer:List Op) (s:ba) (H:Hp) (E:XK):Cx where
 prog:=P
 w:=w
 K:=K
 mg:=mg
 base:=base
 A:=A.deeper (Tl qual scope s.heap.objs.size f cd aL)
 N:=N
 s₀:=s
 H₀:=H
 env:=Tl qual scope s.heap.objs.size f cd aL
 outer:=outer
 stack:=Tl qual scope s.heap.objs.size f cd aL::outer
 ex:=[]
 calm:=true
 fn:=fun _=>false
 pn:=[]
 xe:=fun e s'=>wpAny (model P w) (A.deeper (Tl qual scope s.heap.objs.size f cd aL)) (leaving (Tl qual scope s.heap.objs.size f cd aL) e) (fun _ bb=>CX outer H s E e bb) (fun e' bb=>CX outer H s E e' bb) s'
structure mw (ps fs:List bv) (sc:zd):Prop where
 kind:sc.kind=.function
 co:sc.isCoroutine=false
 gen:sc.isGenerator=false
 nd:(ps++fs).Nodup
 par:∀x∈ps,sc.names.lookup x=some .local
 fre:∀x∈fs,sc.names.lookup x=some .free
 nocell:∀y∈sc.names,y.2≠.cell
structure tE (base:ii) (fs:List bv) (aL:List (bv×ag)) (vcs:List V):Prop where
 inj:∀x y c,aL.lookup x=some c->aL.lookup y=some c->x=y
 all:∀x c,aL.lookup x=some c->∃v,base.IsCell c v
 cell:∀(j:Nat) (x:bv) (v:V),fs[j]?=some x->vcs[j]?=some v->∃c u,aL.lookup x=some c/\RelV v u/\base.IsCell c (some u)
theorem se {x:bv}{v:ap}:∀{ps:List bv}{us:List ap}{i:Nat},ps.Nodup->ps[i]?=some x->us[i]?=some v->(ps.zip us).reverse.lookup x=some v
 | [],_,_,_,h,_=>by simp at h
 |_::_,[],_,_,_,h=>by simp at h
 |p::ps,u::us,i,nd,h1,h2=>by
          rw[Pf,List.reverse_cons];have hn:=Ll.mp nd;cases i with
          |zero=>
           simp at h1 h2;subst h1 h2;rw[List.lookup_append];have:(ps.zip us).reverse.lookup p=none :=by
            rw[List.lookup_eq_none_iff];intro q hq;have VM:=List.mem_reverse.mp hq;have:=(WA VM).1;have ne:p≠q.1:=fun z=>hn.1 (by rw[z];exact this)
            simpa using ne
           rw[this];simp[List.lookup]
          |succ i=>
           rw[List.lookup_append,se hn.2 (by simpa using h1) (by simpa using h2)]
           rfl
section
variable {CX:fD}{P:ff}{w:hX}{K:bn}{mg:bv->Option ap}{base:ii}{ps fs:List bv}{qual:bv}{scope:zd}{f c:ag}{aL:List (bv×ag)}{A:rb}{outer:List Op}{s:ba}{H:Hp}{E:XK}{us:List ap}{vs vcs:List V}
theorem Kp {h1:ii}{tk:Nat}(S:mw ps fs scope) (C:tE base fs aL vcs) (has:∀n,(n,wS)∈scope.names->∃a,aL.lookup n=some a) (hd:A.handled=none) (e0:sN P w K mg base A outer s H) (hl:vs.length=ps.length) (hc:vcs.length=fs.length) (r:Vals vs us)
  (gI:h1.Ns s.heap.objs.size (fun y=>(ps.zip us).reverse.lookup y)) (hk:∀b o,s.heap.get? b=some o->h1.get? b=some o) :
  Inv (Bp CX P w K mg base (ps++fs) qual scope f (.ref c) aL A outer s H E) [] (vs.map some++vcs.map some) H {s with heap:=h1,toks:=tk}:=by
 have bc:∀x a,aL.lookup x=some a->∃v o,s.heap.get? a=some o/\o.data=.cell v/\H a=none:=fun x a e=>by
  obtain⟨v,o,ho,hd⟩:=C.all x a e;obtain⟨h1,h2⟩:=e0.bs a o ho;exact⟨v,o,h1,hd,h2⟩
 refine⟨⟨e0.mod,S.kind,rfl,rfl,ce _,C.inj,fun y hy=>?_,fun _ _ z=>(nomatch z),fun _=>hd,rb.frames_deeper e0.frames,.inr ⟨rfl,rfl⟩,fun b z=>absurd (show b∈([]:List ag) from z) (by simp),e0.bs,e0.bsz,fun b _ _ z=>absurd (show b∈([]:List ag) from z) (by simp),fun b z=>absurd (show b∈([]:List ag) from z) (by simp),e0.funs,e0.frf⟩,
  rfl,⟨e0.bare,ce _⟩,Un.kept hk,⟨_,gI,fun i y v h1 h2 h3=>?_⟩,fun y a e=>?_,e0.hok.fresh (ce _),fun y a e=>?_,fun p hp=>absurd (show p∈([]:List (ag×lc)) from hp) (by simp),e0.hok.kept hk,?_⟩
 ·have hy:scope.names.lookup y=some .cell\/scope.names.lookup y=some .free:=hy;rcases hy with hy|hy
  ·exact absurd rfl (S.nocell _ (AN hy))
  ·exact has y (AN hy)
 ·have h1:(ps++fs)[i]?=some y:=h1;by_cases hi:i<ps.length
  ·rw[wb hi]at h1;rw[wb (by simpa[hl] using hi),db]at h2
   have ha:vs[i]?=some v :=by
    cases e:vs[i]? with
    |none=>rw[e]at h2;cases h2
    |some a=>rw[e]at h2;cases h2;rfl
   obtain⟨u,hu,rv⟩:=r.get ha;have nd:ps.Nodup:=S.nd.sublist (List.sublist_append_left _ _);exact⟨u,rv,.inl ⟨S.par y (lp h1),se nd h1 hu⟩⟩
  ·rw[AE (by omega)]at h1
   rw[AE (by simp only[ci];omega),ci,hl,db]at h2
   have ha:vcs[i - ps.length]?=some v :=by
    cases e:vcs[i - ps.length]? with
    |none=>rw[e]at h2;cases h2
    |some a=>rw[e]at h2;cases h2;rfl
   obtain⟨a,u,e1,rv,o,ho,hd⟩:=C.cell _ y v h1 ha;exact⟨u,rv,.inr ⟨.inr (S.fre y (lp h1)),a,e1,o,hk _ _ (e0.bs a o ho).1,hd⟩⟩
 ·obtain⟨v,o,ho,hd,_⟩:=bc y a e;exact⟨v,o,hk _ _ ho,hd⟩
 ·obtain⟨v,o,ho,hd,hn⟩:=bc y a e;exact hn
 ·show _=(ps++fs).length;simp[hl,hc]
structure Bq (params:OP) (body:dL) (scope:zd) (qual:bv) (o:lc) (c:ag) (oc:lc) (aL:List (bv×ag)) (fd:mf):Prop where
 has:∀n,(n,wS)∈scope.names->∃a,aL.lookup n=some a
 obj:∃name pm i6,fd=PySem.W.kla_fn name qual params body scope aL pm (.ref c) i6/\o={cls:=.type "function",data:=.func fd}
 code:∃vs t,oc.data=.fields vs/\vs[1]?=some (YC qual t)
theorem Oy {params:OP}{body:dL}{o oc:lc}{fd:mf}{k:Nat}{sp:Sp}(L:Bq params body scope qual o c oc aL fd) (S:mw ps fs scope) (C:tE base fs aL vcs) (gu:vcs.length=fs.length) (len:∀vs H Q E,sp vs H Q E->vs.length=ps.length)
  (at':∀vs H Q E,sp vs H Q E->(∃u,H f=some (.bC o u))/\∃u,H c=some (.bC oc u))
  (lL:∀(A:rb) (outer:List Op) (s:ba) (H:Hp) (vs:List V) (Q:VK) (E:XK),bh k (A.deeper (Tl qual scope s.heap.objs.size f (.ref c) aL))->sp vs H Q E->
   ∃t,PE (Bp CX P w K mg base (ps++fs) qual scope f (.ref c) aL A outer s H E) body t/\t (vs.map some++vcs.map some) H Q):FnOk P w K mg base CX (k+1) f fd ps sp :=by
 obtain⟨has,⟨name,pm,i6,rfl,rfl⟩,⟨VN,ct,d1,d2⟩⟩:=L;refine⟨len,fun A outer s H args us vs Q E hr e0 hb r ki=>?_⟩
 have hl:=len _ _ _ _ ki;obtain⟨⟨u1,ef⟩,⟨u2,ec⟩⟩:=at' _ _ _ _ ki;have VO:=(e0.hok f _ ef).1;have t6:=(e0.hok c _ ec).1;have lim:s.heap.NoLimit:=e0.mod.nolimit.keeps fun b o e=>(e0.bs b o e).1
 refine PySem.W.kla_callFunE hr.depth VO rfl S.co S.gen rfl ⟨c,oc,VN,ct,rfl,t6,d1,d2⟩ (hb _ _ _ _ ?_);refine wpAny_newFunctionEnv S.nocell (fun y hy=>S.par y.1 (WA hy).1) (fun h1 gI ra=>⟨lim.fresh _ ra,?_⟩) S.kind
 have hk:∀b o,s.heap.get? b=some o->h1.get? b=some o:=fun b o e=>ra.extBut b o (l5 (io e)) (br _ e)
 obtain⟨t,ht,hq⟩:=lL A outer s H vs Q E (hr.deeper _) ki;have I:=Kp (CX:=CX) (qual:=qual) (f:=f) (c:=c) (E:=E) (tk:=s.toks+(ps.zip us).length) S C has hr.hd e0 hl gu r gI hk;show codeAny _ _ (.expr body (Tl qual scope s.heap.objs.size f (.ref c) aL)) _ _;refine PySem.W.kla_codeExpr (on (ht [] _ _ H Q I hq) (fun u s' ⟨v,H',J,rv,q⟩=>?_) fun e s' hs=>hs)
 exact⟨v,H',J.os,J.bare,J.base,J.hok,rv,q⟩
end
end L2
namespace L2
open PySem PySem.Spec PySem.W PyProof.Rows
structure IH (K:bn) (mg:bv->Option ap) (x:bv) (st:ut) (ps:List bv) (ds:List ap) (f:ag) (fd:mf):Prop where
 ex:∃(oc:ap) (od:Option ag) (dV kV doc pm:ap) (an:Option ag) (cE ct:ap) (kh:Array (Option ap)),
  fd=BS x x (cO st) (bA st) (aj st) dV kV doc pm an cE ct/\K.lookup f=some ⟨oc,od,.func fd,kh⟩/\MW K cE x=true
 kp:Cc K (.ref f)=true
 bd:Binds K fd ps ds
 bd0:Binds K fd ps []
 mg:mg x=some (.ref f)
section
variable {P:ff}{w:hX}{K:bn}{mg:bv->Option ap}{base:ii}{tb:b5}{x:bv}{st:ut}{f:ag}{fd:mf}{N ps:List bv}{fK:List ap}{k:Nat}{S:bX}
theorem Q6 (D:IH K mg x st ps fK f fd) (sc:aP N ps (aj st)) (len:∀ds M Q E,S ds M Q E->ds.length=ps.length)
  (body:∀(A:rb) (outer:List Op) (s:ba) (E:XK) (Γ:Gz) (ds:List Dv) (Q':ZK) (E':ZX),P=Γ.P->w=Γ.w->K=Γ.K->tb=Γ.tb->bh k (A.deeper (envOfC x (aj st) s.heap.objs.size f fd.code))->S ds Γ.M0 Q' E'->
   ∃p,kD Γ (fE bq P w K mg base N x (aj st) f fd.code A outer s Γ.H0 E).iD (bA st) p/\p (zEndsOf Γ.M0 Q') (zstart N ds) Γ.M0):FnOk P w K mg base bq (k+1) f fd ps (aW P w K tb S) :=by
 obtain⟨oc,od,dV,kV,doc,pm,an,cE,ct,kh,rfl,lk,dI⟩:=D.ex;refine Av lk dI sc (tq len) fun A outer s H vs Q E hr h=>?_
 obtain⟨β,ds,M,Q',E',eP,ew,eK,et,m,rs,hS,q,_⟩:=h;obtain⟨p,hp,hq⟩:=body A outer s E ⟨β,M,H⟩ ds Q' E' eP.symm ew.symm eK.symm et.symm hr hS;refine⟨_,hp.iD,β,zstart N ds,M,zEndsOf M Q',qi (Γ:=⟨β,M,H⟩) m rs,hq,?_⟩;have fin:∀d M' v H',Ex β M H M' H'->Rz β M' H' v d->jW M Q' d M'->Q v H':=fun d M' v H' x r h=>oS m q x r h
 exact⟨fun bG M' aF H' x zr h=>fin _ _ _ _ ⟨zr.ent,x.mz⟩ .ao h,fun d M' v H' x e r h=>fin _ _ _ _ ⟨e,x.mz⟩ r h,fun _ _ _ _ _ _ h=>h,fun _ _ _ _ _ _ h=>h⟩
def II (P:ff) (w:hX) (K:bn) (tb:b5) (f:ag) (o:lc) (c:ag) (oc:lc) (vcs:List V) (S:List Dv->bX):Sp:=fun vs H Q E=>∃(β:Bz) (ds b6:List Dv) (M:Mh) (Q':ZK) (E':ZX),β.P=P/\β.w=w/\β.K=K/\β.tb=tb/\Mz β M H/\aD β M H vs ds/\Rz β M H (.ref f) (.bF f o c oc vcs b6)/\S b6 ds M Q' E' /\
 (∀d M' v H',Ex β M H M' H'->Rz β M' H' v d->Q' d M'->Q v H')/\∀C M' H',Ex β M H M' H'->E' C M'->E (.ref C) none H'
theorem kP {β:Bz}{M:Mh}{H:Hp}{v:V}{f c:ag}{o oc:lc}{vs:List V}{ds:List Dv}(h:Rz β M H v (.bF f o c oc vs ds)):v=.ref f/\(∃u,H f=some (.bC o u))/\(∃u,H c=some (.bC oc u))/\aD β M H vs ds :=by
 cases h with
 |bF m e m2 e2 hl h=>exact⟨rfl,⟨_,e⟩,⟨_,e2⟩,hl,h⟩
theorem Oz {Γ:Gz}{vs vcs:List V}{ds b6:List Dv}(m:Mz Γ.toBz Γ.M0 Γ.H0) (rs:aD Γ.toBz Γ.M0 Γ.H0 vs ds) (rc:aD Γ.toBz Γ.M0 Γ.H0 vcs b6):Zr Γ Γ.toBz Γ.M0 (ds.map some++b6.map some) (vs.map some++vcs.map some) Γ.H0:=
 ⟨rfl,rfl,rfl,rfl,fun _ h=>h,m.wf,.refl,m,by simp[rs.len,rc.len],fun i d e=>by
  rw[<- xw,db,ma]at e;obtain⟨d2,e,e2⟩:=e;cases e2;obtain⟨v,hv,r⟩:=(rs.append rc).get e;exact⟨v,by rw[<- xw,db,hv];rfl,r⟩⟩
theorem Ug {fs:List bv}{qual:bv}{scope:zd}{params:OP}{body:dL}{c:ag}{o oc:lc}{aL:List (bv×ag)}{vcs:List V}{Sc:List Dv->bX}(L:Bq params body scope qual o c oc aL fd) (sc:mw ps fs scope) (C:tE base fs aL vcs) (gu:vcs.length=fs.length)
  (len:∀b6 ds M Q E,Sc b6 ds M Q E->ds.length=ps.length)
  (hb:∀(A:rb) (outer:List Op) (s:ba) (E:XK) (Γ:Gz) (b6 ds:List Dv) (Q':ZK) (E':ZX),P=Γ.P->w=Γ.w->K=Γ.K->tb=Γ.tb->bh k (A.deeper (Tl qual scope s.heap.objs.size f (.ref c) aL))->Sc b6 ds Γ.M0 Q' E'->
   ∃p,QE Γ (Bp bq P w K mg base (ps++fs) qual scope f (.ref c) aL A outer s Γ.H0 E).iD body p/\p (ds.map some++b6.map some) Γ.M0 (jW Γ.M0 Q')):FnOk P w K mg base bq (k+1) f fd ps (II P w K tb f o c oc vcs Sc) :=by
 refine Oy L sc C gu (fun vs H Q E hS=>by obtain⟨β,ds,b6,M,Q',E',_,_,_,_,m,rs,rc,s,_⟩:=hS;exact rs.len.trans (len _ _ _ _ _ s)) (fun vs H Q E hS=>by obtain⟨β,ds,b6,M,Q',E',_,_,_,_,m,rs,rc,s,_⟩:=hS;obtain⟨_,h1,h2,_⟩:=kP rc;exact⟨h1,h2⟩) fun A outer s H vs Q E hr h=>?_
 obtain⟨β,ds,b6,M,Q',E',eP,ew,eK,et,m,rs,rc,hS,q,_⟩:=h;obtain⟨p,hp,hq⟩:=hb A outer s E ⟨β,M,H⟩ b6 ds Q' E' eP.symm ew.symm eK.symm et.symm hr hS;obtain⟨_,_,_,IJ⟩:=kP rc;exact⟨_,hp.iD,β,_,M,_,Oz (Γ:=⟨β,M,H⟩) m rs IJ,hq,fun d M' v H' x r h=>oS m q x r h⟩
end
section
variable {X:Cx}{Γ:Gz}{β:Bz}{CX:fD}{k:Nat}{f:ag}{fd:mf}{ps:List bv}{E:XK}{E':ZX}{x:bv}{p pos:ww}{e:dL}{es:List dL}{za:dm}{P:ff}{w:hX}{tb:b5}{K:bn}
def zCallL (f:ag) (o:lc) (c:ag) (oc:lc) (vcs:List V) (S:List Dv->bX) (E':ZX) (i:Nat) (za:dm):aG:=fun ρ M Q=>match ρ[i]? with
 |some (some (.bF f' o' c' OA OB b6))=>(f'=f/\o'=o/\c'=c/\OA=oc/\OB=vcs)/\za ρ M fun ds M1=>S b6 ds M1 Q E'
 |_=>False
theorem GL {c:ag}{o oc:lc}{vcs:List V}{S:List Dv->bX}{i:Nat}(F:FnOk X.prog X.w X.K X.mg X.base CX k f fd ps (II P w K tb f o c oc vcs S)) (ho:∃oc od fd sl,o=⟨oc,od,.func fd,sl⟩) (hr:bh k X.A) (hN:X.N[i]?=some x) (hv:pE X.env.scope x) (hb:Binds X.K fd ps [])
  (hx:Passes CX X E) (hP:P=Γ.P) (hw:w=Γ.w) (hK:K=Γ.K) (ht:tb=Γ.tb) (hE:XR Γ E' E) (ha:QA Γ X (e::es) za) (cZ:(x==("__debug__" : bv))=false :=by decide) (dI:(x==("__classdict__" : bv))=false :=by decide)
  (he:starEach (e::es) X.env=(false,eval e X.env)::starEach es X.env :=by rfl) (bM:(backTo pos (starEach es X.env)).any (·.1)=false :=by rfl):QE Γ X (.Call (.Name x p) (e::es) [] pos) (zCallL f o c oc vcs S E' i za):=
 (GK F ho hr hN hv hb hx ha cZ dI he bM).imp fun σ H Q ⟨β,ρ,M,Q',zr,h,q⟩=>by
  subst hP hw hK ht;unfold zCallL at h;split at h
  ·rename_i f' o' c' OA OB b6 hi;obtain⟨⟨rfl,rfl,rfl,rfl,rfl⟩,h⟩:=h;obtain⟨v,hv,r⟩:=zr.at' i _ hi;obtain⟨rfl,h1,_,_⟩:=kP r;refine⟨hv,h1,β,ρ,M,_,zr,h,fun ds M1 vs H1 x1 r1 h2=>?_⟩
   have r':=r.ex x1;obtain⟨_,h3,_,_⟩:=kP r';exact⟨h3,β,ds,b6,M1,Q',E',zr.eP,zr.ew,zr.eK,zr.et,x1.mz,r1,r',h2,fun d M2 v H2 x2 r2 h2=>q _ _ _ _ (x1.trans x2) r2 h2,fun C M2 H2 x2 h2=>hE C M2 H2 (rW zr.ent zr.sub zr.eP zr.ew zr.eK zr.et (x1.trans x2)) h2⟩
  ·exact h.elim
end
theorem Ex.Uh {X:Cx}{P:ag}{β:Bz}{M:Mh}{H H2:Hp}{f c:ag}{o oc:lc}(m:Mz β M H) (hp:∀q∈β.tb.l,q.1=P->q.2=f7 X) (n:Ot X P H H2 f o c oc):Ex β M H M H2 :=by
 obtain⟨new,at',cd,lm,keep,⟨ps,hP⟩⟩:=n;obtain⟨ps2,VP,_⟩:=id lm;have nP:∀b u,H b=some u->(∀ps,u≠.lam ps)->b≠P:=fun b u e q z=>by rw[z,hP]at e;cases e;exact q _ rfl
 have ey:Ey M H M H2:=⟨fun b u _ e=>by
  by_cases hb:b=P
  ·subst hb;rw[hP]at e;cases e;exact .inr ⟨_,.inr (.inl ⟨ps,ps2,rfl,rfl⟩),VP⟩
  ·exact .inl (keep b u e hb),fun _ h=>h,fun _ _ h _=>h⟩
 refine⟨ey,fun a u e=>?_,fun q hq=>?_,fun a ha=>?_,m.apart,fun q hq=>?_⟩
 ·have z:=m.obj a u e;have k:∀u,H a=some u->L2.k4 u=true->H2 a=some u:=fun u h hu=>keep a u h (nP a u h (by intro ps z;subst z;cases hu))
  cases u with
  |lst ds=>obtain⟨vs,z,l,r⟩:=z;exact⟨vs,k _ z rfl,l,fun i v d a b=>(r i v d a b).ey ey⟩
  |dk ks ds=>obtain⟨vs,z,hk,l,r⟩:=z;exact⟨vs,k _ z rfl,hk,l,fun i v d a b=>(r i v d a b).ey ey⟩
  |dt ks ds=>obtain⟨vs,z,hk,l,r⟩:=z;exact⟨vs,k _ z rfl,hk,l,fun i v d a b=>(r i v d a b).ey ey⟩
  |ts ks ds=>obtain⟨vs,z,hk,l,r⟩:=z;exact⟨vs,k _ z rfl,hk,l,fun i v d a b=>(r i v d a b).ey ey⟩
  |cW=>obtain⟨c,n,z,r⟩:=z;exact⟨c,n,k _ z rfl,r⟩
 ·obtain⟨ps,e,t⟩:=m.tabs q hq;exact⟨ps,keep _ _ e (nP _ _ e (by intro ps z;cases z)),t⟩
 ·obtain⟨u,e,n⟩:=m.hids a ha;exact⟨u,keep _ _ e (nP _ _ e (by intro ps z;subst z;cases n)),n⟩
 ·by_cases hb:q.1=P
  ·have:q=(P,f7 X):=Prod.ext hb (hp q hq hb);rw[this];exact lm
  ·exact(m.lams q hq).keep (fun _ e=>keep _ _ e hb) fun c' _ _ e=>keep _ _ e (nP _ _ e (by intro ps z;cases z))
section
variable {X:Cx}{Γ:Gz}{β:Bz}{CX:fD}{k:Nat}{f:ag}{fd:mf}{ps:List bv}{E:XK}{E':ZX}{x:bv}{p pos oh:ww}{e1 e2:dL}{rest:List dL}{z1 z2:aG}{zr:dm}{P:ff}{w:hX}{tb:b5}{K:bn}
def sf:List Nat->aC->Option (List Dv)
 | [],_=>some []
 |i::is,ρ=>match ρ[i]?,sf is ρ with|some (some d),some ds=>some (d::ds)|_,_=>none
theorem z6 {Γ:Gz}{M:Mh}{ρ:aC}{σ:St}{H:Hp}(z:Zr Γ β M ρ σ H):∀{idx:List Nat}{b6:List Dv},sf idx ρ=some b6->∃vcs,aD β M H vcs b6/\vcs.length=idx.length/\∀(j i:Nat) (v:V),idx[j]?=some i->vcs[j]?=some v->σ[i]?=some (some v)
 | [],b6,h=>by cases h;exact⟨[],.nil,rfl,fun j i v h=>by simp at h⟩
 |i::is,b6,h=>by
          unfold sf at h;split at h
          ·rename_i d ds h1 h2;cases h;obtain⟨v,hv,r⟩:=z.at' i d h1;obtain⟨vcs,rs,l,q⟩:=z6 z h2;refine⟨v::vcs,.cons r rs,by simp[l],fun j i' u a b=>?_⟩
           cases j with
           |zero=>simp at a b;subst a b;exact hv
           |succ j=>exact q j i' u (by simpa using a) (by simpa using b)
          ·cases h
def xB (X:Cx) (params:OP) (body:dL) (scope:zd) (idx:List Nat) (fs:List bv) (S:ii->bX) (dd:List Dv) (E':ZX) (z1 z2:aG) (zr:dm):aG:=fun ρ M Q=>z1 ρ M fun d1 M1=>z2 ρ M1 fun d2 M2=>match sf idx ρ with
 |some b6=>∀f o c oc aL vcs,vcs.length=idx.length->Oq X params body scope o c oc aL->zr ρ M2 fun es M3=>∀b',(∀b o,X.base.get? b=some o->b'.get? b=some o)->tE b' fs aL vcs->S b' (d1::d2::.bF f o c oc vcs b6::es++dd) M3 Q E'
 |none=>False
theorem Br {params:OP}{body:dL}{scope:zd}{idx:List Nat}{fs:List bv}{S:ii->bX}{fK:List V}{dd:List Dv}{ds:List ap}{PT cX:ag}(dG:X.env.code=.ref cX) (dI:u7 X.base cX PT) (dF:∃bm ob,Yh X.base mainGlobals X.mg bm ob) (vG:defaultsOf params X.env=([],[]))
  (i7:∀n,(n,wS)∈scope.names->X.env.kindOf n=some .cell\/X.env.kindOf n=some .free) (VQ:∀(j:Nat) (n:bv),fs[j]?=some n->(n,wS)∈scope.names/\X.env.scope.names.lookup n=some .cell/\∃i,idx[j]?=some i/\X.N[i]?=some n)
  (kr:(PT,f7 X)∈Γ.tb.l) (OC:∀q∈Γ.tb.l,q.1=PT->q.2=f7 X)
  (F:∀b',(∀b o,X.base.get? b=some o->b'.get? b=some o)->FnOk X.prog X.w X.K X.mg b' CX k f fd ps (aW P w K tb (S b'))) (hr:bh k X.A) (qR:∀x,X.fn x=true) (hg:Gl X x) (hm:X.mg x=some (.ref f)) (hk:Cc X.K (.ref f)=true) (hb:Binds X.K fd ps ds) (hd:Vals fK ds) (OD:∀β M H,aD β M H fK dd)
  (hx:Passes CX X E) (hP:P=Γ.P) (hw:w=Γ.w) (hK:K=Γ.K) (ht:tb=Γ.tb) (hE:XR Γ E' E) (h1:QE Γ X e1 z1) (h2:QE Γ X e2 z2) (h3:QA Γ X rest zr) (cZ:(x==("__debug__" : bv))=false :=by decide)
  (s1:starEach (e1::e2::.Lambda params body scope oh::rest) X.env=(false,eval e1 X.env)::starEach (e2::.Lambda params body scope oh::rest) X.env :=by rfl)
  (s2:starEach (e2::.Lambda params body scope oh::rest) X.env=(false,eval e2 X.env)::starEach (.Lambda params body scope oh::rest) X.env :=by rfl)
  (s3:starEach (.Lambda params body scope oh::rest) X.env=(false,eval (.Lambda params body scope oh) X.env)::starEach rest X.env :=by rfl)
  (bM:(backTo pos (starEach (e2::.Lambda params body scope oh::rest) X.env)).any (·.1)=false :=by rfl) :
  QE Γ X (.Call (.Name x p) (e1::e2::.Lambda params body scope oh::rest) [] pos) (xB X params body scope idx fs S dd E' z1 z2 zr):=
 (GJ F hr qR hg hm hk hb hd hx (oI h1 (oI h2 (oI (Ov dG dI dF vG i7) h3 s3) s2) s1) cZ s1 bM).imp fun σ H Q ⟨β,ρ,M,Q',jZ,h,q⟩=>by
  subst hP hw hK ht;refine⟨β,ρ,M,_,jZ,h,fun d1 M1 v1 H1 x1 r1 h1=>⟨β,ρ,M1,_,jZ.step x1,h1,fun d2 M2 v2 H2 x2 r2 h2=>?_⟩⟩
  have Iu:=(jZ.step x1).step x2;have Ui:(PT,f7 X)∈β.tb.l :=by rw[jZ.et];exact kr
  have Uj:∀q∈β.tb.l,q.1=PT->q.2=f7 X :=by rw[jZ.et];exact OC
  refine⟨x2.mz.lams _ Ui,fun lf o c oc aL H3 hO hN=>?_⟩
  split at h2
  ·rename_i b6 Q7;obtain⟨vcs,IJ,lcs,at'⟩:=z6 Iu Q7;have x3:=Ex.Uh x2.mz Uj hN;have N7:=Iu.step x3;refine⟨β,ρ,M2,_,N7,h2 lf o c oc aL vcs lcs hO,fun es M4 ws H4 x4 r4 h4=>?_⟩
   intro b' B;obtain⟨u1,a1⟩:=hN.at';obtain⟨u2,a2⟩:=hN.cd;have Sx:=x3.mz;have VR:Fz β M2 lf:=x2.mz.fz hN.new;have Uk:∀a o u,H3 a=some (.bC o u)->a ∉ β.hid:=fun a o u e z=>by
    obtain⟨w,e',n⟩:=Sx.hids a z;rw[e]at e';cases e';cases n
   have Ul:Rz β M2 H3 (.ref lf) (.bF lf o c oc vcs b6):=.bF VR a1 ⟨Sx.lu a2 rfl,Uk _ _ _ a2⟩ a2 IJ.len fun i v d a b=>(IJ.at' i v d a b).ex x3
   have Um:tE b' fs aL vcs :=by
    refine⟨fun n m a e e'=>B.inj n m a (hO.cells n a e) (hO.cells m a e'),fun n a e=>B.cells n a (hO.cells n a e),fun j n v hj hv=>?_⟩
    obtain⟨fr,kc,i,hi,hn⟩:=VQ j n hj;obtain⟨a,u,e1,e2,e3⟩:=B.cell i n v hn (at' j i v hi hv) kc;obtain⟨a',e'⟩:=hO.has n fr;have:=(hO.cells n a' e').symm.trans e1;cases this;exact⟨a,u,e',e2,e3⟩
   have xa:=x2.trans (x3.trans x4);have VS:=x3.trans x4;refine⟨β,_,M4,Q',E',jZ.eP,jZ.ew,jZ.eK,jZ.et,x4.mz,?_,h4 b' B.ext Um,fun d M5 v H5 x5 r5 h5=>q _ _ _ _ (x1.trans (xa.trans x5)) r5 h5,fun C M5 H5 x5 h5=>hE C M5 H5 (rW jZ.ent jZ.sub jZ.eP jZ.ew jZ.eK jZ.et (x1.trans (xa.trans x5))) h5⟩
   have rs:aD β M4 H4 (v1::v2::.ref lf::ws++fK) (d1::d2::.bF lf o c oc vcs b6::es++dd):=.cons (r1.ex xa) (.cons (r2.ex VS) (.cons (Ul.ex x4) (r4.append (OD _ _ _))));exact rs
  ·exact h2.elim
end
end L2
namespace L2
open PySem PySem.Spec PyProof.Rows
theorem D7 {P:ff}{w:hX}{K:bn}{mg mb:bv->Option ap}{CX:fD}{k:Nat}{fa a:ag}{fd:mf}{x:bv}{sp:Sp}{aw:ba}{vs:List ap}{ns:List Int}{tabs lts:List ag}
  (KX:K.In aw.heap) (gI:aw.heap.Ns mainGlobals mg) (hb:aw.heap.Ns builtinsNs mb) (VU:∀x:bv,x ≠ "__name__" -> mb x=bootBuiltins x) (Bc:aw.heap.NoLimit) (hg:aw.gens=#[])
  (ha:aw.heap.get? a=some {cls:=.type "list",data:=.seq vs.toArray}) (hi:Po vs ns) (hl:ns.length<=sizeLine) (hr:bh k callerA)
  (tF:∀p∈tabs++lts,aw.heap.get? p=some (SL #[])/\isCodeTable aw.heap p) (Uo:∀p∈tabs,p ∉ lts) (D8:Ze K=true) (dF:∃bm ob,Yh aw.heap mainGlobals mg bm ob)
  (F:∀base:ii,K.In base->base.Ns mainGlobals mg->(∃bm ob,Yh base mainGlobals mg bm ob)->(∀c p,u7 aw.heap c p->u7 base c p)->FnOk P w K mg base CX k fa fd [x] sp)
  (Q8:∀(s:ba) (u:ap),Zx s fd ⟨[u],[]⟩ [(x,u)])
  (ki:∀H:Hp,(∀p∈tabs,Tb p H)->(∀p∈lts,H p=some (.lam #[]))->bL K H a (ns.map V.int)->sp [.ref a] H (fun v H'=>v=.bl true/\∀p∈lts,∃ps,H' p=some (.lam ps)) fun _ _ _=>False)
  (OG:∀H e s',CX [] H aw (fun _ _ _=>False) e s'->False) :
  codeAny (model P w) callerA (.call (.ref fa) ⟨[.ref a],[]⟩) (fun r s'=>r=.ok (.ret (.bool true))/\OldK aw.heap s'.heap/\s'.os=aw.os/\ZW s'.gens) aw :=by
 have rv:=uk hi;have Up:=hi.length;have rj:a ∉ tabs++lts:=fun z=>by
  have e:=(tF a z).1;rw[ha]at e;cases e
 have core:∀H:Hp,(∀b u,H b=some u->(b=a/\∃o xs,u=.bC o (.lst xs))\/(b∈tabs++lts/\(u=.cI #[]/\b∈tabs\/u=.lam #[]/\b∈lts)))->(∀p∈tabs,H p=some (.cI #[]))->(∀p∈lts,H p=some (.lam #[]))->bL K H a (ns.map V.int)->cN P w H aw.heap->(H a≠none->K.lookup a=none)->
   codeAny (model P w) callerA (.call (.ref fa) ⟨[.ref a],[]⟩) (fun r s'=>r=.ok (.ret (.bool true))/\OldK aw.heap s'.heap/\s'.os=aw.os/\ZW s'.gens) aw :=by
  intro H hO VW VX hS hok hK;have oW:∀{b:ag} {o:lc},aw.heap.get? b=some o->H b=none->(jw aw.heap H).get? b=some o:=fun e n=>Ft e n
  have no:∀{b:ag} {o:lc},aw.heap.get? b=some o->(∀n,o.data≠.seq vs.toArray n)->o≠SL #[]->H b=none:=fun {b o} e d1 d2=>by
   cases q:H b with
   |none=>rfl
   |some u=>
    rcases hO b u q with ⟨e',_⟩|⟨bJ,_⟩
    ·subst e';rw[ha]at e;cases e;exact absurd rfl (d1 _)
    ·rw[(tF b bJ).1]at e;exact absurd (l7 e).symm d2
  have VY:∀{b:ag} {o:lc} {es:Array X8} {ep:Nat},aw.heap.get? b=some o->o.data=.dict es ep->H b=none:=fun {b o es ep} e d=>no e (fun n z=>by rw[d]at z;cases z) fun z=>by rw[z]at d;cases d
  have D9:∀{b:ag} {m:bv->Option ap},aw.heap.Ns b m->(jw aw.heap H).Ns b m:=fun {b m} hS=>by obtain⟨o,es,ep,e,d,r⟩:=hS;exact⟨o,es,ep,oW e (VY e d),d,r⟩
  have Sy:K.In (jw aw.heap H):=fun b o e=>oW (KX b o e) (by
   cases q:H b with
   |none=>rfl
   |some u=>
    rcases hO b u q with ⟨e',_⟩|⟨bJ,_⟩
    ·subst e';rw[hK (by rw[q];simp)]at e;cases e
    ·have e1:=KX b o e;have e2:=(tF b bJ).1;rw[e1]at e2;have e3:o=SL #[]:=l7 e2;have q2:=xp.mp D8 (b,o) (PySem.W.kb_mem e);simp only[Bool.or_eq_true,decide_eq_true_eq,beq_iff_eq]at q2;rcases q2 with (q2|q2)|q2
     ·rw[e3]at q2;exact absurd rfl q2
     ·obtain⟨mc,⟨oc,es,ep,ho,hd,_⟩,_⟩:=Bc;rw[<- q2,e1]at ho;cases ho;rw[e3]at hd;cases hd
     ·obtain⟨oc,es,ep,ho,hd,_⟩:=id gI;rw[<- q2,e1]at ho;cases ho;rw[e3]at hd;cases hd)
  have hM:Mod K mg (jw aw.heap H):=⟨Sy,D9 gI,⟨mb,D9 hb,VU⟩,let ⟨mc,h1,h2⟩:=Bc;⟨mc,D9 h1,h2⟩⟩;have hB:∃bm ob,Yh (jw aw.heap H) mainGlobals mg bm ob :=by
   obtain⟨bm,ob,B⟩:=dF;exact⟨bm,ob,D9 B.ns,B.name,B.ne,oW B.obj (no B.obj (fun n z=>by rw[B.data]at z;cases z) fun z=>by have:=B.data;rw[z]at this;cases this),B.cls,B.dict,B.data⟩
  have hC:∀c p,u7 aw.heap c p->u7 (jw aw.heap H) c p:=fun c p ⟨o,wW,file,tf,flags,tg,VZ,text,tt,e1,e2,e3,r⟩=>
   ⟨o,wW,file,tf,flags,tg,VZ,text,tt,oW e1 (no e1 (fun n z=>by rw[e3]at z;cases z) fun z=>by rw[z]at e2;cases e2),e2,e3,r⟩
  have e0:sN P w K mg (jw aw.heap H) callerA [] aw H:=⟨rfl,hM,fun b o e=>Jo e,Yc (Ca _ _),trivial,fun b hb=>absurd (show b∈([]:List ag) from hb) (by simp),hok,.of_eq hg⟩
  refine XB ((F _ Sy (D9 gI) hB hC).run callerA [] aw H ⟨[.ref a],[]⟩ [.ref a] [.ref a] _ _ hr e0 (Q8 aw (.ref a)) (.cons rfl .nil) (ki H (fun p hp=>⟨#[],VW p hp,trivial⟩) VX hS)) fun r s' h=>?_
  cases r with
  |error e=>exact(OG H e s' h).elim
  |ok fl=>
   cases fl with
   |next=>exact DO h
   |brk=>exact DO h
   |cont=>exact DO h
   |ret u=>
    obtain⟨v,H',os,bare,un,GN,r',q⟩:=h;obtain⟨q',qL⟩:=q;subst q';obtain rfl:u=Z1 true:=r';have all:∀b o,aw.heap.get? b=some o->asItWas aw.heap s'.heap b o/\∃o',s'.heap.get? b=some o':=fun b o e=>by
     cases q:H b with
     |none=>
      have:=un.keep b o e q (by intro z;exact absurd (show b∈([]:List ag) from z) (by simp)) (by simp)
      exact⟨.inl this,_,this⟩
     |some u=>
      rcases hO b u q with ⟨_,ob,xs,z⟩|⟨bJ,z⟩
      ·subst z;have z2:=un.frzs b ob _ q;obtain⟨e1,_⟩:=hok b _ q;obtain⟨e2,_⟩:=GN b _ z2;rw[e]at e1;cases e1;exact⟨.inl e2,_,e2⟩
      ·have e2:∃more,s'.heap.get? b=some {cls:=.none,data:=.fields (#[]++more)}:=by
        rcases z with ⟨z,_⟩|⟨z,jO⟩
        ·subst z;obtain⟨more,z2⟩:=un.tbls b #[] q;exact⟨more,GN b _ z2⟩
        ·obtain⟨ps,z2⟩:=qL b jO;refine⟨ps,?_⟩;have:=GN b _ z2;rw[show (#[]:Array ap)++ps=ps by simp]
         exact this
       obtain⟨more,e2⟩:=e2;have e1:=(tF b bJ).1;rw[e]at e1;obtain rfl:o=SL #[]:=l7 e1;exact⟨.inr (.inl ⟨(tF b bJ).2,rfl,#[],more,rfl,e2⟩),_,e2⟩
    exact⟨rfl,⟨fun b o e=>(all b o e).1,fun b o e=>(all b o e).2⟩,os,bare.1⟩
 have OH:∀p∈tabs++lts,∀H:Hp,∀u,(u=.cI #[]/\p∈tabs\/u=.lam #[]/\p∈lts)->ObjOk P w H aw.heap p u:=fun p hp H u hu=>by
  rcases hu with ⟨rfl,_⟩|⟨rfl,_⟩<;>exact(tF p hp).1
 let T:Hp:=fun b=>if b∈lts then some (.lam #[]) else if b∈tabs then some (.cI #[]) else none
 have T1:∀b u,T b=some u->b∈tabs++lts/\(u=.cI #[]/\b∈tabs\/u=.lam #[]/\b∈lts):=fun b u z=>by
  by_cases h1:b∈lts
  ·have z':=(show T b=_ from if_pos h1).symm.trans z;cases z';exact⟨kw _ h1,.inr ⟨rfl,h1⟩⟩
  ·by_cases h2:b∈tabs
   ·have z':=(show T b=_ from (if_neg h1).trans (if_pos h2)).symm.trans z;cases z';exact⟨ze _ h2,.inl ⟨rfl,h2⟩⟩
   ·have z':=(show T b=_ from (if_neg h1).trans (if_neg h2)).symm.trans z;cases z'
 have T2:∀p∈tabs,T p=some (.cI #[]):=fun p hp=>(if_neg (Uo p hp)).trans (if_pos hp)
 have T3:∀p∈lts,T p=some (.lam #[]):=fun p hp=>if_pos hp
 have Ta:T a=none:=(if_neg fun z=>rj (kw _ z)).trans (if_neg fun z=>rj (ze _ z))
 cases hk:K.lookup a with
 |some o=>
  have e:=KX a o hk;rw[ha]at e;cases e;exact core T (fun b u z=>.inr (T1 b u z)) T2 T3 (.inr ⟨_,vs.toArray,_,hk,rfl,rfl,rfl,by rw[im,Up];exact hl,by simpa using rv⟩) (fun b u z=>OH b (T1 b u z).1 _ u (T1 b u z).2) fun z=>absurd Ta z
 |none=>
  have na:∀p∈tabs++lts,p≠a:=fun p hp z=>rj (z▸hp)
  refine core (upd T a (.bC {cls:=.type "list",data:=.seq vs.toArray} (.lst (ns.map V.int)))) (fun b u z=>?_) (fun p hp=>by rw[ae (na p (ze _ hp))];exact T2 p hp) (fun p hp=>by rw[ae (na p (kw _ hp))];exact T3 p hp) (.inl (.inr ⟨_,av⟩)) (fun b u z=>?_) fun _=>hk
  ·by_cases hb:b=a
   ·subst hb;rw[av]at z;cases z;exact .inl ⟨rfl,_,_,rfl⟩
   ·rw[ae hb]at z;exact .inr (T1 b u z)
  ·by_cases hb:b=a
   ·subst hb;rw[av]at z;cases z;exact⟨ha,by rw[ci];exact hl,vs,_,rv,ha⟩
   ·rw[ae hb]at z;exact OH b (T1 b u z).1 _ u (T1 b u z).2
def vD (K:bn) (x:bv):Option ag:=match ln K mainGlobals x with
 |some (some (.ref f))=>(match K.lookup f with
  |some ⟨_,_,.func fd,_⟩=>(match fd.code with
   | .ref c=>(match K.lookup c with
    |some ⟨_,_,.fields vs,_⟩=>(match vs[11]? with|some (li p)=>some p|_=>none)
    |_=>none)
   |_=>none)
  |_=>none)
 |_=>none
abbrev TabOf (mg:bv->Option ap) (h:ii) (y:bv) (p:ag):Prop:=∃f o fd c,mg y=some (.ref f)/\h.get? f=some o/\o.data=.func fd/\fd.code=.ref c/\u7 h c p
theorem xC {K:bn}{mg:bv->Option ap}{h:ii}{y:bv}{p q:ag}(X:K.In h) (G:h.Ns mainGlobals mg) (t:TabOf mg h y p) (e:vD K y=some q):p=q :=by
 obtain⟨f,o,fd,c,e1,e2,e3,e4,oc,vs,_,_,_,_,_,_,_,g1,_,g3,g4,_⟩:=t;unfold vD at e;split at e
 ·rename_i f' gI;have:=(wn X G gI).symm.trans e1;cases this;split at e
  ·rename_i OA Xk HX RM OI;have:=(X _ _ OI).symm.trans e2;cases this;cases e3;rw[e4]at e;dsimp only at e;split at e
   ·rename_i a1 a2 wW a3 V0;have:=(X _ _ V0).symm.trans g1;cases this;cases g3;rw[g4]at e;cases e;rfl
   ·cases e
  ·cases e
 ·cases e
def tG (K:bn) (gs ls:List bv):Bool:=gs.all fun x=>ls.all fun y=>match vD K x,vD K y with|some p,some q=>decide (p≠q)|_,_=>false
theorem z7 {α β:Type}{F:α->β->Prop}{l:List α}{m:List β}(h:AM F l m) {b:β}(hb:b∈m):∃a∈l,F a b :=by
 induction h with
 |nil=>simp at hb
 |cons x t ih=>
  rcases l8.mp hb with e|e
  ·subst e;exact⟨_,i4,x⟩
  ·obtain⟨a,ha,q⟩:=ih e;exact⟨a,f8 _ ha,q⟩
theorem GO {K:bn}{mg:bv->Option ap}{h:ii}{gs ls:List bv}{tabs lts:List ag}(X:K.In h) (G:h.Ns mainGlobals mg) (d:tG K gs ls=true) (t1:AM (TabOf mg h) gs tabs) (t2:AM (TabOf mg h) ls lts):∀p∈tabs,p ∉ lts:=fun p hp hq=>by
 obtain⟨x,hx,tx⟩:=z7 t1 hp;obtain⟨y,hy,ty⟩:=z7 t2 hq;have:=xp.mp (xp.mp d x hx) y hy;split at this
 ·rename_i p' q' e1 e2;have a:=xC X G tx e1;have b:=xC X G ty e2;exact(of_decide_eq_true this) (a.symm.trans b)
 ·cases this
theorem GP {l:ZU}{n k:Nat}{q:ff}{loose:List bv}{XP:(bv->Option ap)->ii->Prop}{YP:hX->ii->Prop}{d:DefRec}{K:Z3->bn}{CX:fD}{sp:bn->List ag->List ag->Sp}{x:bv}{mY Ea:List bv}
  (hn:l.most=some n) (V1:n<=sizeLine) (CJ:d.params.defaults=[]) (hr:bh k callerA) (D8:∀w:hX,Ze (K w.params)=true)
  (IK:∀y∈mY++Ea,∃r∈recsOf q,r.name=y) (pN:∀w:hX,tG (K w.params) mY Ea=true)
  (hY:∀(w:hX) (h:ii),YP w h->(K w.params).In h)
  (F:∀(w:hX) (mg:bv->Option ap) (fa:ag) (h:ii) (tabs lts:List ag),(K w.params).In h->h.Ns mainGlobals mg->mg d.name=some (.ref fa)->
   AM (TabOf mg h) mY tabs->AM (TabOf mg h) Ea lts->
   ∃fd:mf,(∀(s:ba) (u:ap),Zx s fd ⟨[u],[]⟩ [(x,u)]) /\
    ∀base:ii,(K w.params).In base->base.Ns mainGlobals mg->(∃bm ob,Yh base mainGlobals mg bm ob)->(∀c p,u7 h c p->u7 base c p)->FnOk l.prog w (K w.params) mg base CX k fa fd [x] (sp (K w.params) tabs lts))
  (ki:∀(K:bn) (tabs lts:List ag) (H:Hp) (a:ag) (ns:List Int),lts.length=Ea.length->ns.length<=n->(∀p∈tabs,Tb p H)->(∀p∈lts,H p=some (.lam #[]))->bL K H a (ns.map V.int)->sp K tabs lts [.ref a] H (fun v H'=>v=.bl true/\∀p∈lts,∃ps,H' p=some (.lam ps)) fun _ _ _=>False)
  (OG:∀(H:Hp) (s:ba) (e:ap) (s':ba),CX [] H s (fun _ _ _=>False) e s'->False) :
  PySem.W.WalkO q loose XP YP l.row.toRowW d [] (fun f vs=>Z0 f vs) :=by
 refine RZ.yt hn CJ fun w s₀ aw mg mb fa o pm cd doc a vs ns G Y ho hd dI CK FV hints hlen hg=>?_
 have KX:=hY w _ Y;have tb:∀mY:List bv,(∀y∈mY,∃r∈recsOf q,r.name=y)->∃tabs,AM (TabOf mg aw.heap) mY tabs/\∀p∈tabs,aw.heap.get? p=some (SL #[])/\isCodeTable aw.heap p :=by
  intro mY;induction mY with
  |nil=>intro _;exact⟨[],.nil,fun p hp=>absurd hp (by simp)⟩
  |cons y r ih=>
   intro hm;obtain⟨tabs,h1,h2⟩:=ih fun z hz=>hm z (f8 _ hz)
   obtain⟨rr,V2,e⟩:=hm y i4;obtain⟨f,o',fd,c,p,a1,a2,a3,a4,a5,a6⟩:=G.T.tab rr V2;rw[e]at a1;refine⟨p::tabs,.cons ⟨f,o',fd,c,a1,a2,a3,a4,.of a5 a6⟩ h1,fun z hz=>?_⟩
   rcases l8.mp hz with rfl|hz
   ·exact⟨a6.2,a6.isCodeTable⟩
   ·exact h2 z hz
 obtain⟨tabs,t1,t2⟩:=tb mY fun y hy=>IK y (ze _ hy)
 obtain⟨lts,u1,u2⟩:=tb Ea fun y hy=>IK y (kw _ hy)
 obtain⟨fd,hb,hF⟩:=F w mg fa _ tabs lts KX G.T.g CK t1 u1;exact D7 (lts:=lts) KX G.T.g G.T.b G.T.builtins G.T.nolimit hg FV hints (v6 hlen V1) hr (fun p hp=>(EU.mp hp).elim (t2 p) (u2 p)) (GO KX G.T.g (pN w) t1 u1) (D8 w) (PySem.W.bmod_of_top G.T) hF hb (fun H hO hL hS=>ki _ tabs lts H a ns (P3 u1).symm hlen hO hL hS) fun H e s'=>OG H aw e s'
abbrev oi (K:bn) (x:bv) (st:ut) (dv:ap):Prop:=
 ∃(f:ag) (oc:ap) (od:Option ag) (sl:Array (Option ap)) (T:ag) (oT:lc) (nT:Nat) (kV dc pm:ap) (an:Option ag) (cd ct:ap),
  ln K mainGlobals x=some (some (.ref f))/\K.lookup f=some ⟨oc,od,.func (BS x x (cO st) (bA st) (aj st) (.ref T) kV dc pm an cd ct),sl⟩/\MW K cd x=true/\Cc K (.ref f)=true/\K.lookup T=some oT/\oT.data=.seq #[dv] nT
theorem Eb {K:bn}{x:bv}{st:ut}{dv:ap}{f:ag}{oc:ap}{od:Option ag}{sl:Array (Option ap)}{T:ag}{oT:lc}{nT:Nat}{kV dc pm:ap}{an:Option ag}{cd ct:ap}(a:ln K mainGlobals x=some (some (.ref f)))
  (l:K.lookup f=some ⟨oc,od,.func (BS x x (cO st) (bA st) (aj st) (.ref T) kV dc pm an cd ct),sl⟩) (c:MW K cd x=true) (k:Cc K (.ref f)=true) (t:K.lookup T=some oT) (u:oT.data=.seq #[dv] nT):oi K x st dv:=⟨f,oc,od,sl,T,oT,nT,kV,dc,pm,an,cd,ct,a,l,c,k,t,u⟩
theorem oi.df {K:bn}{mg:bv->Option ap}{h:ii}{x:bv}{st:ut}{dv:ap}(d:oi K x st dv) (X:K.In h) (G:h.Ns mainGlobals mg) (ps:List bv)
  (hb:∀(T:ag) (kV doc pm:ap) (an:Option ag) (cE ct:ap) (us:List ap),us.length+1=ps.length->∃k,bindArgs (BS x x (cO st) (bA st) (aj st) (.ref T) kV doc pm an cE ct) ⟨us,[]⟩=seqItems? (.ref T)>>=k/\k (some #[dv])=pure (ps.zip (us++[dv])))
  (V3:∀(T:ag) (kV doc pm:ap) (an:Option ag) (cE ct:ap) (us:List ap),us.length=ps.length->∃k,bindArgs (BS x x (cO st) (bA st) (aj st) (.ref T) kV doc pm an cE ct) ⟨us,[]⟩=seqItems? (.ref T)>>=k/\k (some #[dv])=pure (ps.zip us)) :
  ∃f fd,IH K mg x st ps [dv] f fd :=by
 obtain⟨f,oc,od,sl,T,oT,nT,kV,dc,pm,an,cd,ct,a,l,c,k,t,u⟩:=d;refine⟨f,_,⟨oc,od,.ref T,kV,dc,pm,an,cd,ct,sl,rfl,l,c⟩,k,fun s us hK hl=>?_,fun s us hK hl=>?_,wn X G a⟩
 ·obtain⟨kk,h1,h2⟩:=hb T kV dc pm an cd ct us (by rw[xb]at hl;exact hl)
  exact PySem.W.binds_K hK rfl t u h1 h2
 ·rw[Ch]at hl ⊢;obtain⟨kk,h1,h2⟩:=V3 T kV dc pm an cd ct us hl;exact PySem.W.binds_K hK rfl t u h1 h2
theorem GQ {K:bn}{tabs lts:List ag}{qs:List bv}{H:Hp}{a:ag}{ns:List Int}(hl:lts.length=qs.length) (hn:ns.length<=63) (hT:∀p∈tabs,Tb p H) (hL:∀p∈lts,H p=some (.lam #[])) (hS:bL K H a (ns.map V.int)) :
  spLaw K ⟨tabs,lts.zip qs⟩ [.ref a] H (fun v H'=>v=.bl true/\∀p∈lts,∃ps,H' p=some (.lam ps)) fun _ _ _=>False:=
 ⟨a,ns,rfl,hS,hn,hT,fun p hp=>⟨#[],hL p.1 (WA hp).1,trivial,fun pos cv e=>nomatch e⟩,fun H' h=>⟨rfl,fun p hp=>by
  obtain⟨i,hi⟩:=qr.mp hp;have h1:=(cr.mp hi).1;exact h (p,qs[i]) (lp (i:=i) (xz.mpr ⟨hi,ar (by omega)⟩))⟩⟩
theorem Ec {K:bn}{x:bv}{st:ut}{i:Int}{tk:ZO}{f:ag}{oc:ap}{od:Option ag}{sl:Array (Option ap)}{T:ag}{oT:lc}{nT:Nat}{kV dc pm:ap}{an:Option ag}{cd ct:ap}(a:ln K mainGlobals x=some (some (.ref f)))
  (l:K.lookup f=some ⟨oc,od,.func (BS x x (cO st) (bA st) (aj st) (.ref T) kV dc pm an cd ct),sl⟩) (c:MW K cd x=true) (k:Cc K (.ref f)=true) (t:K.lookup T=some oT) (u:oT.data=.seq #[.int i tk] nT):∃tk,oi K x st (.int i tk):=⟨tk,Eb a l c k t u⟩
structure oj (h:ii) (d:ag) (es:Array X8) (ep:Nat):Prop where
 ex:∃o,h.get? d=some o/\o.cls=.type "dict" /\ o.data=.dict es ep
abbrev uT (d:ag) (i n ep:Nat):lc:={cls:=.type "dict_keyiterator",dict:=none,data:=.fields #[.ref d,.int i 0,.int n 0,.int ep 0],slots:=#[]}
theorem Ed (d:ag):¬ ((li d==wE)=true):=fun z=>nomatch (show false=true from z)
section
variable {prog:ff}{w:hX}{A:rb}{E:ap->ba->Prop}{s:ba}{d it:ag}{es:Array X8}{ep i:Nat}
theorem Ee {Q:ap->ba->Prop}(lo:(d==sysModules)=false) (r:oj s.heap d es ep) (q:Q (.ref s.heap.objs.size) {s with heap:=s.heap.push (uT d 0 es.size ep)}) :
  wpAny (model prog w) A (pyIter (.ref d)) Q E s :=by
 obtain⟨o,g,c,dt⟩:=r;have ty:s.TypeIs (.ref d) "dict" := ⟨o,g,c⟩
 refine Yk ty PySem.F.slot_dict_iter (u8 PySem.F.slot_dict_iter ty PySem.F.entry_dict_iter ?_ (PySem.F.args_dict_iter_1 _));unfold ul.«dict.__iter__» ul.Dict.dictSlotNone;refine ac (ac (wpAny_notOrdered_dict ty ?_));refine(show wpAny _ _ (pure (li d)) _ _ s from bi ?_);refine(show wpAny _ _ (ul.Dict.showsAll d>>=_) _ _ s from ?_);unfold ul.Dict.showsAll;rw[if_neg (by rw[lo];decide)]
 refine ac (bi (ac (Zu g dt (ac (ZV g dt ?_)))));refine ac (sB (bi ⟨_,rfl,"dict_keyiterator",_,⟨_,ij _ rfl,rfl⟩,EQ.lookup,?_⟩))
 simpa[rawInt,uT] using q
theorem Ef {Q:Option ap->ba->Prop}(gi:s.heap.get? it=some (uT d i es.size ep)) (r:oj s.heap d es ep) (hi:i<es.size)
  (q:∀h',h'.get? it=some (uT d (i+1) es.size ep)->zn it s.heap h'->Q (some es[i].key) {s with heap:=h'}):wpAny (model prog w) A (pyNext (.ref it)) Q E s :=by
 obtain⟨o,g,c,dt⟩:=r;have ty:s.TypeIs (.ref it) "dict_keyiterator" := ⟨_,gi,rfl⟩
 unfold pyNext;refine ac (LS (wP (name:=i0 "__next__") ty EQ (u8 EQ ty PySem.F.entry_dict_keyiterator_next ?_ (PySem.F.args_dict_keyiterator_next_1 _))))
 refine ac (bi (ac (ac ?_)));refine ac (OE ty (bi (ac (XF gi rfl ?_))));simp only[show ul.Dict_items.ownsTuple "dict_keyiterator" = false by decide,gc,if_false]
 refine(show wpAny _ _ (if (li d==wE)=true then _ else _) _ _ s from ?_)
 rw[if_neg (Ed d)];refine ac (bi (ac (Zu g dt ?_)));rw[if_neg (by simp)]
 refine ac (bi (ac (ZV g dt ?_)));rw[if_neg (by simp)]
 refine bi ?_;simp only[show ¬ ((i:Int)<0) by omega,if_false,uu,tz hi]
 refine ac (ac (OE ty (bi (ac (wpAny_isOneOf_keyiter ty ?_)))));refine(show wpAny _ _ (setField (.ref it) 1 (rawInt ((i:Int)+1))>>=_) _ _ s from ac (Nl gi (by simp) fun h1 e1 b1=>?_))
 have e1:h1.get? it=some (uT d (i+1) es.size ep) :=by
  rw[e1];simp[uT,rawInt]
 refine ac (xL (ac (wpAny_isOneOf_keyiter (s:={s with heap:=h1}) ⟨_,e1,rfl⟩ ?_)))
 exact(show wpAny _ _ (pure es[i].key) _ _ _ from bi (bi ⟨_,rfl,bi (q _ e1 b1)⟩))
theorem GU {Q:Option ap->ba->Prop}(hh:A.handled=none) (gi:s.heap.get? it=some (uT d i es.size ep)) (r:oj s.heap d es ep) (hi:es.size<=i)
  (q:∀h',Y6 it s.heap h'->Q none {s with heap:=h'}):wpAny (model prog w) A (pyNext (.ref it)) Q E s :=by
 obtain⟨o,g,c,dt⟩:=r;have ty:s.TypeIs (.ref it) "dict_keyiterator" := ⟨_,gi,rfl⟩
 unfold pyNext;refine ac (LS (wP (name:=i0 "__next__") ty EQ (u8 EQ ty PySem.F.entry_dict_keyiterator_next ?_ (PySem.F.args_dict_keyiterator_next_1 _))))
 refine ac (bi (ac (ac ?_)));refine ac (OE ty (bi (ac (XF gi rfl ?_))));simp only[show ul.Dict_items.ownsTuple "dict_keyiterator" = false by decide,gc,if_false]
 refine(show wpAny _ _ (if (li d==wE)=true then _ else _) _ _ s from ?_)
 rw[if_neg (Ed d)];refine ac (bi (ac (Zu g dt ?_)));rw[if_neg (by simp)]
 refine ac (bi (ac (ZV g dt ?_)));rw[if_neg (by simp)]
 refine bi ?_;simp only[show ¬ ((i:Int)<0) by omega,if_false,uu,GG hi]
 refine ac (ac (OE ty (bi ?_)));refine(show wpAny _ _ (setField (.ref it) 0 .none>>=_) _ _ s from ac (Nl gi (by simp) fun h1 e1 b1=>?_))
 refine(show wpAny _ _ (newExc (.type "StopIteration") []>>=_) _ _ _ from ac ?_)
 simp only[newExc,newTuple];refine ac (sB (ac (m:=firstArgMember _ _) (Yq (a:=wE) (by first|rfl|(simp only[firstArgMember];rfl)) (sB ?_ (by size_fits)))) (by size_fits))
 simp only[raiseNew];refine ac (wpAny_handled ?_);rw[show A.in1.handled=none from hh];refine ac (bi (wpAny_throw ?_));refine ac (Yv (T := "StopIteration") (b:=true) ⟨_,ij _ rfl,rfl⟩ isSubtype_stop (bi (q _ ?_)))
 exact(b1.extBut.push _).push _
end
def IL (es:Array X8) (ps:List (V×V)):Prop:=es.size=ps.length/\∀(i:Nat) (p:V×V),ps[i]?=some p->∃hi:i<es.size,RelV p.1 es[i].key/\RelV p.2 es[i].val
inductive Bs (H:Hp):HO->List (V×V)->Prop where
 |k (ah:List (Key×V)):Bs H (.dK ah) (ah.map fun kv=>(kV kv.1,kv.2))
 |t (ah:List (List Key×V)) (bs:List ag) (hl:bs.length=ah.length) (h:∀(i:Nat) (b:ag) (kv:List Key×V),bs[i]?=some b->ah[i]?=some kv->H b=some (.tup (kv.1.map kV))):Bs H (.dT ah) ((bs.map V.ref).zip (ah.map (·.2)))
theorem GV {P:ff}{w:hX}{k:Key}{u:ap}(h:(bz P w).is k u=true):RelV (kV k) u :=by
 rcases b7 (k:=k) (v:=u) h with ⟨i,t,rfl,rfl⟩|⟨x,t,rfl,rfl⟩
 ·exact⟨t,rfl⟩
 ·exact⟨t,rfl⟩
theorem iL {α β:Type}{F:α->β->Prop}:∀{l:List α}{m:List β}{i:Nat}{a:α},AM F l m->l[i]?=some a->∃b,m[i]?=some b/\F a b
 |_,_,_,_,.nil,h=>by simp at h
 |_,_,0,_,.cons x _,h=>by simp at h;subst h;exact⟨_,rfl,x⟩
 |_,_,i+1,_,.cons _ t,h=>by obtain⟨b,e,q⟩:=iL (i:=i) t (by simpa using h);exact⟨b,by simpa using e,q⟩
section
variable {P:ff}{w:hX}{H:Hp}{h:ii}{a:ag}{u:HO}
structure Rows (H:Hp) (h:ii) (a:ag) (u:HO) (o:lc) (es:Array X8) (ep:Nat) (ps:List (V×V)):Prop where
 obj:h.get? a=some o
 cls:o.cls=.type "dict"
 dict:o.dict=none
 data:o.data=.dict es ep
 lo:(a==sysModules)=false
 rel:IL es ps
 ps:Bs H u ps
theorem Kq (ok:cN P w H h) (e:Rd H a u) (hu:jP u=true):∃o es ep ps,Rows H h a u o es ep ps :=by
 have q:=e.ok ok;cases u with
 |dK ah=>
  obtain⟨z,lo,vs,rel,o,es,ep,g,x,dt,hk,hp,hn⟩:=q;refine⟨o,es,ep,_,g,x.1,x.2.1,dt,lo,⟨?_,fun i p hi=>?_⟩,.k ah⟩
  ·have h1:=hp.length;have h2:=rel.length;simp only[ci,jp]at h1 ⊢;omega
  ·rw[db,ma]at hi;obtain⟨kv,uU,rfl⟩:=hi;obtain⟨⟨k',v'⟩,hv,e1,e2⟩:=iL rel uU;have hl:i<es.size :=by
    have h1:=hp.length;have h2:=(cr.mp hv).1;simp only[jp]at h1;omega
   obtain⟨a1,a2⟩:=hp.get? (e:=es[i]) (by simp[hl]) hv
   refine⟨hl,?_,?_⟩
   ·rw[e1];exact GV a1
   ·rw[a2];exact e2
 |dT ah=>
  obtain⟨z,lo,xs,rel,o,es,ep,g,x,dt,he,hn⟩:=q;have V4:ah.length=xs.length:=P3 rel;have V5:es.size=xs.length :=by
   have:=congrArg List.length he;simpa using this
  refine⟨o,es,ep,_,g,x.1,x.2.1,dt,lo,⟨?_,fun i p hi=>?_⟩,.t ah (xs.map (·.2.1)) (by rw[ci];exact V4.symm) fun i b kv hb uU=>?_⟩
  ·simp only[PM,ci];omega
  ·rw[xz,wv,db,db,ma,ma]at hi;obtain⟨⟨x1,Eg,e1⟩,⟨kv,uU,e2⟩⟩:=hi;obtain⟨x2,Eh,_,_,r⟩:=iL rel uU;rw[Eg]at Eh;cases Eh;have hl:i<es.size :=by rw[V5];exact(cr.mp Eg).1
   have Sz:es[i]=entryOfKey (tupleKind (bz P w)) x1 :=by
    have:es.toList[i]?=some (entryOfKey (tupleKind (bz P w)) x1) :=by rw[he,db,Eg];rfl
    rw[Na,tz hl]at this;exact l7 this
   refine⟨hl,?_,?_⟩
   ·rw[Sz,<- e1];rfl
   ·rw[Sz,<- e2];exact r
  ·rw[db,ma]at hb;obtain⟨x1,Eg,rfl⟩:=hb;obtain⟨x2,Eh,e1,e2,_⟩:=iL rel uU;rw[Eg]at Eh;cases Eh;exact e2
 |_=>cases hu
end
inductive ie (a:ag) (o:lc) (u:HO) (H:Hp):Hp->Prop where
 |now (e:H a=some u) (hu:jP u=true):ie a o u H (upd H a (.bC o u))
 |was (e:H a=some (.bC o u)):ie a o u H H
theorem ie.at {a:ag}{o:lc}{u:HO}{H H2:Hp}(f:ie a o u H H2):H2 a=some (.bC o u) :=by
 cases f with
 |now e hu=>exact av
 |was e=>exact e
section
variable {X:Cx}{pins:List (ag×lc)}{σ:St}{H:Hp}{s:ba}{a:ag}{o:lc}{u:HO}
theorem Inv.bC (I:Inv X pins σ H s) (e:H a=some u) (hu:jP u=true) (ho:s.heap.get? a=some o):Inv X pins σ (upd H a (.bC o u)) s :=by
 have nT:∀b v,H b=some v->jP v=false->b≠a:=fun b v q n z=>by rw[z,e]at q;cases q;rw[hu]at n;cases n
 have n0:∀b,H b=none->b≠a:=fun b q z=>by rw[z,e]at q;cases q
 have J:=I.un (t':=s.toks) (h':=s.heap) (H':=upd H a (.bC o u)) ⟨fun b v q n _ _=>q,fun b v q n _ _=>⟨v.slots,q⟩,fun b v q n _=>by rw[ae (n0 b n)];exact n,fun b v q _=>⟨v,q⟩,fun b xs q=>by rw[ae (nT b _ q rfl)];exact q,
  fun b v xs q=>by rw[ae (nT b _ q rfl)];exact q,fun b qs q=>⟨#[],by rw[ae (nT b _ q rfl),q];simp⟩⟩ fun b v q=>?_
 ·exact J
 ·by_cases hb:b=a
  ·subst hb;rw[av]at q;cases q;exact⟨ho,(I.hok b u e).bp (fun _ _ _ z=>z) (fun c z=>by rw[ae (nT c _ z rfl)];exact z) fun c xs z=>by rw[ae (nT c _ z rfl)];exact z⟩
  ·rw[ae hb]at q;exact(I.hok b v q).bp (fun _ _ _ z=>z) (fun c z=>by rw[ae (nT c _ z rfl)];exact z) fun c xs z=>by rw[ae (nT c _ z rfl)];exact z
theorem Inv.Kr (I:Inv X pins σ H s) (d:Rd H a u) (hu:jP u=true):∃o H2 es ep ps,ie a o u H H2/\Inv X pins σ H2 s/\Rows H s.heap a u o es ep ps :=by
 obtain⟨o,es,ep,ps,R⟩:=Kq I.hok d hu;rcases d with d|⟨o',d⟩
 ·exact⟨o,_,es,ep,ps,.now d hu,I.bC d hu R.obj,R⟩
 ·have e:=(I.hok a _ d).1;rw[R.obj]at e;cases e;exact⟨o,H,es,ep,ps,.was d,I,R⟩
end
def OJ (a:ag) (o:lc) (u:HO) (ks:List V):It:=⟨fun i H=>H a=some (.bC o u)/\i<ks.length,fun i H x H'=>H'=H/\ks[i]?=some x,fun i H=>H a=some (.bC o u)/\ks.length<=i⟩
section
variable {P:ff}{w:hX}{K:bn}{a it:ag}{o:lc}{u:HO}{es:Array X8}{ep:Nat}{ps:List (V×V)}
theorem Ei {tg:dL}(sd:o.cls=.type "dict") (SA:o.data=.dict es ep) (rel:IL es ps) (cJ:a≠it):Turn P w K tg (OJ a o u (ps.map (·.1))) [it] it (fun i h=>h.get? it=some (uT a i es.size ep)) where
 mem :=by simp
 obj:=fun i h st b hb=>by
  have e:b=it :=by simpa using hb
  subst e;exact⟨_,st,fun v z=>nomatch z⟩
 keep:=fun i h h' st k=>k it (by simp) _ st
 item :=by
  intro X hP hw hK hc i pins s σ H E I hf st hg;subst hP hw hK;obtain⟨ha,hi⟩:=hg;rw[ci]at hi;have hr:oj s.heap a es ep:=⟨o,(I.hok a _ ha).1,sd,SA⟩;obtain⟨p,hp⟩:∃p,ps[i]?=some p:=⟨_,ar hi⟩;obtain⟨gz,r1,_⟩:=rel.2 i p hp;obtain⟨f0,f1,f2,f3,f4,f5⟩:=hf it (by simp)
  refine Ef st hr gz fun h' iY sb=>?_
  have I1:Inv X pins σ H {s with heap:=h'}:=I.turned (t':=s.toks) (fun b o hb e=>(sb.2 b hb).trans e) f0 f1 f3 f4 f5
  exact⟨_,rfl,vt (s:={s with heap:=h'}) iY rfl rfl (by decide) ⟨p.1,H,I1,r1,⟨rfl,by rw[db,hp];rfl⟩,iY,fun b hb=>(hf b hb).1⟩⟩
 done :=by
  intro X hP hw hK hc i pins s σ H E I hf st hg;subst hP hw hK;obtain⟨ha,hi⟩:=hg;rw[ci]at hi;have hr:oj s.heap a es ep:=⟨o,(I.hok a _ ha).1,sd,SA⟩;obtain⟨f0,f1,f2,f3,f4,f5⟩:=hf it (by simp)
  exact GU (I.ok.hd hc) st hr (by rw[rel.1];exact hi) fun h' eb=>⟨rfl,I.turned (t':=s.toks) (fun b o hb e=>eb b o hb e) f0 f1 f3 f4 f5⟩
 self:=fun _ i _ _ _ st h=>wpAny_pyIter_keyiter (d:=a) (i:=i) (n:=es.size) (ep:=ep) ⟨_,st,rfl,rfl⟩ h
end
section
variable {X:Cx}{tg l:dL}{tl:TE}
def Q9 (tl:TE):TI:=fun σ H R=>tl σ H fun x H1=>∃a u,x=.ref a/\jP u=true/\Rd H1 a u/\∀o H2 ps,ie a o u H1 H2->Bs H1 u ps->R (OJ a o u (ps.map (·.1))) H2
theorem Ks (hl:PE X l tl):PI X tg l (Q9 tl) :=by
 intro pins s σ H R I h;refine thn (hl pins s σ H _ I h) fun v s1 ⟨x,H1,I1,r1,q1⟩=>?_
 obtain⟨a,u,e,hu,hr,q⟩:=q1;subst e;cases r1;obtain⟨o,H2,es,ep,ps,f,I2,rw⟩:=I1.Kr hr hu;have cJ:a≠s1.heap.objs.size:=l5 (io rw.obj);refine Ee rw.lo ⟨o,rw.obj,rw.cls,rw.data⟩ ?_;refine⟨s1.heap.objs.size,[s1.heap.objs.size],_,_,H2,rfl,I2.kept (t':=s1.toks) fun b o e=>br _ e,Ei rw.cls rw.data rw.rel cJ,ij _ rfl,fun b hb=>?_,q o H2 ps f rw.ps⟩
 have e:b=s1.heap.objs.size :=by simpa using hb
 subst e;exact I2.nu (ce _) (I2.hok.fresh (ce _))
end
theorem Ex.bC {β:Bz}{M:Mh}{H H2:Hp}{a:ag}{o:lc}{u:HO}(m:Mz β M H) (f:ie a o u H H2) (fz:Fz β M a):Ex β M H M H2 :=by
 cases f with
 |was e=>exact .refl m
 |now e hu=>
  have y:Ey M H M (upd H a (.bC o u)):=⟨fun b v hm hb=>by
   by_cases z:b=a
   ·subst z;rw[e]at hb;cases hb;exact .inr ⟨_,.inr (.inr ⟨hu,_,rfl⟩),av⟩
   ·exact .inl (by rw[ae z];exact hb),fun _ h=>h,fun _ _ h _=>h⟩
  have nd:∀b v,H b=some v->jP v=false->b≠a:=fun b v q n z=>by rw[z,e]at q;cases q;rw[hu]at n;cases n
  refine⟨y,⟨fun b v hb=>?_,fun p hp=>?_,fun b hb=>?_,m.apart,fun p hp=>?_⟩⟩
  ·have xD:b≠a:=fun z=>by rw[z,fz.1]at hb;cases hb
   have q:=m.obj b v hb;cases v with
   |cW=>
    obtain⟨c,k,e2,r⟩:=q;exact⟨c,k,by rw[ae xD];exact e2,r⟩
   |lst ds=>
    obtain⟨us,e2,ru⟩:=q;exact⟨us,by rw[ae xD];exact e2,ru.len,fun i w d p q=>(ru.at' i w d p q).ey y⟩
   |dk ks ds=>
    obtain⟨us,e2,hk,ru⟩:=q;exact⟨us,by rw[ae xD];exact e2,hk,ru.len,fun i w d p q=>(ru.at' i w d p q).ey y⟩
   |dt ks ds=>
    obtain⟨us,e2,hk,ru⟩:=q;exact⟨us,by rw[ae xD];exact e2,hk,ru.len,fun i w d p q=>(ru.at' i w d p q).ey y⟩
   |ts ks ds=>
    obtain⟨us,e2,hk,ru⟩:=q;exact⟨us,by rw[ae xD];exact e2,hk,ru.len,fun i w d p q=>(ru.at' i w d p q).ey y⟩
  ·obtain⟨ps,e2,t⟩:=m.tabs p hp;exact⟨ps,by rw[ae (nd _ _ e2 rfl)];exact e2,t⟩
  ·obtain⟨v,e2,n⟩:=m.hids b hb;have xD:b≠a:=fun z=>fz.2 (by rw[<- z];exact hb)
   exact⟨v,by rw[ae xD];exact e2,n⟩
  ·exact(m.lams p hp).keep (fun ps e2=>by rw[ae (nd _ _ e2 rfl)];exact e2) fun c oc v e2=>by rw[ae (nd _ _ e2 rfl)];exact e2
def tH:Key->Dv
 | .inl i=>.int i
 | .inr z=>.str z
def ziKeys (p:aG):gB:=fun ρ M R=>p ρ M fun d M1=>match d with | .dk ks _=>R (ks.map tH) M1 | .dt ks _=>R (ks.map fun k=>.tup (k.map tH)) M1|_=>False
section
variable {X:Cx}{Γ:Gz}{β:Bz}{M:Mh}{H:Hp}{tg l:dL}{p:aG}
theorem OM (k:Key):Rz β M H (kV k) (tH k) :=by
 cases k with
 |inl i=>exact .int i
 |inr z=>exact .str z
theorem xE (ks:List Key):aD β M H (ks.map kV) (ks.map tH):=⟨by simp,fun i v d a b=>by
 rw[db]at a b;cases e:ks[i]? with
 |none=>rw[e]at a;cases a
 |some k=>rw[e]at a b;cases a;cases b;exact OM k⟩
theorem uV {a:ag}{o:lc}{u:HO}{vs:List V}(h:H a=some (.bC o u)):Runs (OJ a o u vs) vs H:=fun i=>⟨fun hi=>⟨⟨h,hi⟩,fun v H' q=>q⟩,fun hi=>⟨h,hi⟩⟩
theorem oX {α γ:Type}:∀{ks:List α}{vs:List γ},ks.length=vs.length->(ks.zip vs).map (·.1)=ks
 | [],[],_=>rfl
 |k::ks,v::vs,h=>by rw[Pf,ss,oX (by simpa using h)]
theorem Kt (hl:QE Γ X l p):QI Γ X tg l (ziKeys p):=(Ks hl).imp fun σ H R ⟨β,ρ,M,R',zr,h,q⟩=>⟨β,ρ,M,_,zr,h,fun d M1 v H1 x1 r1 h1=>by
 revert h1
 split
 ·intro h1;rename_i ks ds;cases r1 with
  | @dk a _ vs _ f e hk hl hh=>
   refine⟨a,.dK (ks.zip vs),rfl,rfl,e,fun o H2 ps g OO=>?_⟩
   have x2:=Ex.bC x1.mz g f;cases OO;refine q _ _ _ _ (x1.trans x2) (jS (vs:=ks.map kV) (xE ks) fun M' H' x=>?_) h1
   have e2:((ks.zip vs).map fun kv=>(kV kv.1,kv.2)).map (·.1)=ks.map kV :=by
    rw[wv];show (ks.zip vs).map (kV ∘ Prod.fst)=_;rw[<- wv,oX hk]
   rw[e2];exact uV (x.get f.1 g.at rfl)
 ·intro h1;rename_i ks ds;cases r1 with
  | @dt a _ vs _ f e hk hl hh=>
   refine⟨a,.dT (ks.zip vs),rfl,rfl,e,fun o H2 ps g OO=>?_⟩
   have x2:=Ex.bC x1.mz g f;cases OO with
   |t _ bs hb rj=>
    have hz:(ks.zip vs).length=ks.length :=by rw[PM,<- hk,LB]
    have e2:((bs.map V.ref).zip ((ks.zip vs).map (·.2))).map (·.1)=bs.map V.ref:=oX (by rw[ci,ci];exact hb)
    rw[e2];refine q _ _ _ _ (x1.trans x2) (jS (vs:=bs.map V.ref) ⟨by rw[ci,ci,hb,hz],fun i v d ha hd=>?_⟩ fun M' H' x=>uV (x.get f.1 g.at rfl)) h1
    rw[db,ma]at ha hd;obtain⟨b,SD,rfl⟩:=ha;obtain⟨k,SE,rfl⟩:=hd;have rM:i<(ks.zip vs).length :=by rw[hz];exact(cr.mp SE).1
    have uU:=ar rM;have ht:=rj i b _ SD uU;have ek:((ks.zip vs)[i]).1=k :=by
     have:((ks.zip vs).map (·.1))[i]?=some ((ks.zip vs)[i]).1 :=by rw[db,uU];rfl
     rw[oX hk,SE]at this;exact(l7 this).symm
    rw[ek]at ht;have fb:Fz β M1 b:=⟨x1.mz.lu ht rfl,fun z=>by
     obtain⟨w,hw,n⟩:=x1.mz.hids b z;rw[ht]at hw;cases hw;cases n⟩
    have r0:Rz β M1 H1 (.ref b) (.tup (k.map tH)):=fh fb ht (xE k);exact r0.ex x2
 ·exact fun h=>h.elim⟩
end
theorem Bt {a1 r:bT}{D:gP}{ρ:aC}{M:Mh}(I:aC->Mh->Prop) (h1:∀N:aC->Mh->Prop,(∀ρ M,I ρ M->N ρ M)->a1 {D with nx:=N} ρ M) (h2:∀ρ M,I ρ M->r D ρ M):(zSeq a1 r) D ρ M:=h1 _ h2
theorem Ra {a1 a2 r:bT}{D:gP}{ρ:aC}{M:Mh}(I:aC->Mh->Prop) (h1:∀N:aC->Mh->Prop,(∀ρ M,I ρ M->N ρ M)->(zSeq a1 a2) {D with nx:=N} ρ M) (h2:∀ρ M,I ρ M->r D ρ M):(zSeq a1 (zSeq a2 r)) D ρ M:=h1 _ h2
theorem Rb {a1 a2 a3 r:bT}{D:gP}{ρ:aC}{M:Mh}(I:aC->Mh->Prop) (h1:∀N:aC->Mh->Prop,(∀ρ M,I ρ M->N ρ M)->(zSeq a1 (zSeq a2 a3)) {D with nx:=N} ρ M) (h2:∀ρ M,I ρ M->r D ρ M):(zSeq a1 (zSeq a2 (zSeq a3 r))) D ρ M:=h1 _ h2
theorem IM {a1 a2 a3 a4 r:bT}{D:gP}{ρ:aC}{M:Mh}(I:aC->Mh->Prop) (h1:∀N:aC->Mh->Prop,(∀ρ M,I ρ M->N ρ M)->(zSeq a1 (zSeq a2 (zSeq a3 a4))) {D with nx:=N} ρ M) (h2:∀ρ M,I ρ M->r D ρ M):(zSeq a1 (zSeq a2 (zSeq a3 (zSeq a4 r)))) D ρ M:=h1 _ h2
section
variable {β:Bz}{M M':Mh}{H H':Hp}{a:ag}{o o' o2 pQ:Mo}
theorem Rz.dom (hd:∀a,(M a).isSome=(M' a).isSome) {v:V}{d:Dv}(r:Rz β M H v d):Rz β M' H v d:=
 r.mn (M0:=M') (fun a h=>by rw[hd a];exact h) (r.pin.mono fun a h=>by rw[<- hd a];exact h)
theorem iH.dom (hd:∀a,(M a).isSome=(M' a).isSome) (h:iH β M H a o):iH β M' H a o :=by
 cases o with
 |lst ds=>obtain⟨vs,h1,rs⟩:=h;exact⟨vs,h1,rs.len,fun i v d x y=>(rs.at' i v d x y).dom hd⟩
 |cW=>exact h
 |dk ks ds=>obtain⟨vs,h1,h2,rs⟩:=h;exact⟨vs,h1,h2,rs.len,fun i v d x y=>(rs.at' i v d x y).dom hd⟩
 |dt ks ds=>obtain⟨vs,h1,h2,rs⟩:=h;exact⟨vs,h1,h2,rs.len,fun i v d x y=>(rs.at' i v d x y).dom hd⟩
 |ts ks ds=>obtain⟨vs,h1,h2,rs⟩:=h;exact⟨vs,h1,h2,rs.len,fun i v d x y=>(rs.at' i v d x y).dom hd⟩
theorem jn (M:Mh) (a:ag) (o o2:Mo) (b:ag):(az M a o b).isSome=(az M a o2 b).isSome :=by
 by_cases e:b=a
 ·subst e;rw[updM_same,updM_same];rfl
 ·rw[aq e,aq e]
theorem kQ {b:ag}(o2:Mo) (h:az M a o b=none):az M a o2 b=none :=by
 by_cases e:b=a
 ·subst e;rw[updM_same]at h;cases h
 ·rw[aq e]at h ⊢;exact h
theorem Mz.chg (m:Mz β (az M a o) H) (h2:iH β (az M a o2) H a o2):Mz β (az M a o2) H :=by
 refine⟨fun b u e=>?_,m.tabs,m.hids,fun b u e=>?_,m.lams⟩
 ·by_cases z:b=a
  ·subst z;rw[updM_same]at e;cases e;exact h2
  ·rw[aq z]at e;exact iH.dom (jn M a o o2) (m.obj b u (by rw[aq z];exact e))
 ·by_cases z:b=a
  ·subst z;exact m.apart b o updM_same
  ·rw[aq z]at e;exact m.apart b u (by rw[aq z];exact e)
theorem z8 (h:M a=some o):az M a o=M :=by
 funext b
 by_cases e:b=a
 ·subst e;rw[updM_same,h]
 ·rw[aq e]
theorem Ex.chg (x:Ex β (az M a o) H (az M a o') H') (h2:iH β (az M a pQ) H' a pQ):Ex β (az M a o2) H (az M a pQ) H':=
 ⟨⟨fun b u h e=>x.keep b u (kQ o h) e,fun b h=>by rw[jn M a pQ o'];exact x.dom b (by rw[jn M a o o2];exact h),fun b u h e=>kQ pQ (x.new b u (kQ o h) e)⟩,x.mz.chg h2⟩
theorem Ex.sealed (hn:M a=none) (x:Ex β M H (az M a o') H') (h2:iH β (az M a pQ) H' a pQ):Ex β M H (az M a pQ) H':=
 ⟨⟨x.keep,fun b h=>by rw[jn M a pQ o'];exact x.dom b h,fun b u h e=>kQ pQ (x.new b u h e)⟩,x.mz.chg h2⟩
theorem Ej {c m:Int}(z:Mz β (az M a (.lst [.int c,.int m])) H) (hc:0<=c) (hm:0<=m):iH β (az M a .cW) H a .cW :=by
 obtain⟨vs,h,rs⟩:=z.obj a _ updM_same;refine⟨c,m,?_,hc,hm⟩;have:=fZ (ns:=[c,m]) rs;rw[h,this];rfl
theorem OQ (z:Mz β (az M a .cW) H):∃c m:Int,0<=c/\0<=m/\iH β (az M a (.lst [.int c,.int m])) H a (.lst [.int c,.int m]) :=by
 obtain⟨c,m,h,hc,hm⟩:=z.obj a _ updM_same;exact⟨c,m,hc,hm,_,h,qh (ns:=[c,m])⟩
end
section
variable {X:Cx}{Γ:Gz}{K:bn}
def zIxS:eC:=fun d e M Q=>match d,e with | .bt ns,.int i=>(match dE ns i with|some x=>Q (.int x) M|none=>False)|_,_=>False
theorem IP (hK:X.K=K) (hG:K=Γ.K):Ob Γ X zIxS:=⟨_,zj hK,fun β x y d e M H Q Q' _ _ eK m rx ry z q=>by
 unfold zIxS at z;split at z
 ·rename_i ns i;split at z
  ·rename_i v hv;obtain⟨a,rfl,hS⟩:=uH rx;rw[eK,<- hG]at hS;exact .inl ⟨a,_,i,.int v,rfl,aS ry,hS,Kj hv,q _ _ _ _ (.refl m) (.int _) z⟩
  ·exact z.elim
 ·exact z.elim⟩
end
def z9 (k:Nat):bv:=⟨#[97+k]⟩
theorem tI (k:Nat):(z9 k).length=1:=rfl
theorem si (a b:bv):(a++b).length=a.length+b.length :=by
 show (a.cps++b.cps).size=a.cps.size+b.cps.size;exact Array.size_append
section
variable {κ:Type} [DecidableEq κ]
theorem iT:∀(ks U:List κ),ks.Nodup->(∀k∈ks,k∈U)->ks.length<=U.length
 | [],_,_,_=>nw _
 |k::ks,U,nd,h=>by
          have hn:=Ll.mp nd;have hk:=h k i4;have ih:=iT ks (U.erase k) hn.2 fun x hx=>(List.mem_erase_of_ne (fun e=>hn.1 (by rw[<- e];exact hx))).mpr (h x (f8 _ hx))
          rw[List.length_erase_of_mem hk]at ih;have:=Xx hk;rw[AS];omega
def f9 (step:κ->Nat->κ) (met:κ) (w:bv) (st:List κ×List bv) (a:Nat):List κ×List bv:=if step met a∈st.1 then st else (st.1++[step met a],st.2++[w++z9 a])
def visit (step:κ->Nat->κ) (met:κ) (w:bv) (n:Nat) (st:List κ×List bv):List κ×List bv:=(lw n).foldl (f9 step met w) st
def gU (step:κ->Nat->κ) (n most:Nat):Nat->Nat->List κ×List bv->List κ×List bv
 |0,_,st=>st
 |fuel+1,i,st=>match st.1[i]?,st.2[i]? with
  |some met,some w=>if st.1.length<=most then gU step n most fuel (i+1) (visit step met w n st) else st
  |_,_=>st
structure eY (U:List κ) (st:List κ×List bv):Prop where
 len:st.1.length=st.2.length
 nd:st.1.Nodup
 sub:∀k∈st.1,k∈U
 wl:∀(i:Nat) (w:bv),st.2[i]?=some w->w.length<=i
theorem eY.le {U:List κ}{st:List κ×List bv}(o:eY U st):st.1.length<=U.length:=iT _ _ o.nd o.sub
theorem fq (step:κ->Nat->κ) (met:κ) (w:bv) (n:Nat) (st:List κ×List bv):visit step met w (n+1) st=f9 step met w (visit step met w n st) n :=by
 unfold visit;rw[List.range_succ,Zv];rfl
theorem uW (step:κ->Nat->κ) (met:κ) (w:bv) (st:List κ×List bv) (a:Nat):∃ks ws,(f9 step met w st a).1=st.1++ks/\(f9 step met w st a).2=st.2++ws :=by
 unfold f9;split
 ·exact⟨[],[],by simp,by simp⟩
 ·exact⟨_,_,rfl,rfl⟩
theorem jf (step:κ->Nat->κ) (met:κ) (w:bv) (n:Nat) (st:List κ×List bv):∃ks ws,(visit step met w n st).1=st.1++ks/\(visit step met w n st).2=st.2++ws :=by
 induction n with
 |zero=>exact⟨[],[],by simp[visit],by simp[visit]⟩
 |succ n ih=>
  obtain⟨ks,ws,h1,h2⟩:=ih;rw[fq];obtain⟨NS,V6,h3,h4⟩:=uW step met w (visit step met w n st) n;exact⟨ks++NS,ws++V6,by rw[h3,h1,On],by rw[h4,h2,On]⟩
theorem tJ {α:Type}{l m:List α}{i:Nat}{x:α}(h:l[i]?=some x):(l++m)[i]?=some x :=by
 rw[wb (cr.mp h).1];exact h
theorem eY.f9 {U:List κ}{step:κ->Nat->κ}{st:List κ×List bv}(o:eY U st) {i a:Nat}{met:κ}{w:bv}(hw:st.2[i]?=some w) (hs:step met a∈U):eY U (L2.f9 step met w st a) :=by
 unfold L2.f9;split
 ·exact o
 ·rename_i hn;refine⟨by simp[o.len],?_,fun k hk=>?_,fun j v hj=>?_⟩
  ·rw[List.nodup_append];refine⟨o.nd,by simp,fun x hx y hy e=>?_⟩
   rw[rf]at hy;subst e;exact hn (hy▸hx)
  ·rcases EU.mp hk with z|z
   ·exact o.sub k z
   ·rw[rf]at z;rw[z];exact hs
  ·by_cases h:j<st.2.length
   ·rw[wb h]at hj;exact o.wl j v hj
   ·rw[AE (by omega)]at hj
    have e:j - st.2.length=0 :=by
     have:=(cr.mp hj).1;simp at this;omega
    rw[e]at hj;cases hj;have h1:=o.wl i w hw;have h2:=(cr.mp hw).1;rw[si,tI];omega
theorem eY.visit {U:List κ}{step:κ->Nat->κ}{st:List κ×List bv}(o:eY U st) {i n:Nat}{met:κ}{w:bv}(hw:st.2[i]?=some w) (hs:∀a,a<n->step met a∈U):eY U (L2.visit step met w n st) :=by
 induction n with
 |zero=>exact o
 |succ n ih=>
  rw[fq];obtain⟨ks,ws,h1,h2⟩:=jf step met w n st;exact(ih fun a ha=>hs a (by omega)).f9 (i:=i) (by rw[h2];exact tJ hw) (hs n (by omega))
def met (step:κ->Nat->κ) (n most N:Nat) (s:κ):List κ×List bv:=gU step n most (N+1) 0 ([s],[""])
theorem om {U:List κ}{s:κ}(h:s∈U):eY U ([s],[("" : bv)]):=⟨rfl,by simp,fun k hk=>by rw[rf]at hk;rw[hk];exact h,fun i w e=>by
 cases i with
 |zero=>cases e;exact ce 0
 |succ i=>simp at e⟩
theorem bfs_ok {U:List κ}{step:κ->Nat->κ}{n most:Nat}(hs:∀k∈U,∀a,a<n->step k a∈U):∀(fuel i:Nat) (st:List κ×List bv),eY U st->eY U (gU step n most fuel i st)
 |0,_,st,o=>o
 |fuel+1,i,st,o=>by
          unfold gU;split
          ·rename_i k w h1 h2;split
           ·exact bfs_ok hs fuel (i+1) _ (o.visit h2 fun a ha=>hs k (o.sub k (lp h1)) a ha)
           ·exact o
          ·exact o
theorem xF {step:κ->Nat->κ}{n most fuel i:Nat}{st:List κ×List bv}{k:κ}{w:bv}(h1:st.1[i]?=some k) (h2:st.2[i]?=some w) (h3:st.1.length<=most):gU step n most (fuel+1) i st=gU step n most fuel (i+1) (visit step k w n st) :=by
 rw[gU];simp only[h1,h2,if_pos h3]
theorem oY:∀{ks:List κ}{ws:List bv}{i:Nat}{k:κ}{w:bv},ks.Nodup->ks[i]?=some k->ws[i]?=some w->look ks ws k=some w
 | [],_,_,_,_,_,h,_=>by simp at h
 |_::_,[],_,_,_,_,_,h=>by simp at h
 |c::ks,v::ws,0,k,w,_,h1,h2=>by
          simp at h1 h2;unfold look;rw[if_pos h1,h2]
 |c::ks,v::ws,i+1,k,w,nd,h1,h2=>by
          have hn:=Ll.mp nd;have h1:ks[i]?=some k :=by simpa using h1
          unfold look;rw[if_neg (fun e=>hn.1 (by rw[e];exact lp h1))]
          exact oY hn.2 h1 (by simpa using h2)
theorem my {IQ:Type} [DecidableEq IQ] {f:κ->IQ}(hf:∀a b,f a=f b->a=b) (x:κ):∀(ks:List κ) (ws:List bv),look (ks.map f) (ws.map Dv.str) (f x)=(look ks ws x).map Dv.str
 | [],ws=>by cases ws<;>rfl
 |_::_,[]=>rfl
 |k::ks,w::ws=>by
          rw[ss,ss];unfold look;by_cases e:k=x
          ·rw[if_pos e,if_pos (by rw[e])];rfl
          ·rw[if_neg e,if_neg (fun z=>e (hf _ _ z))]
           exact my hf x ks ws
theorem Ku {α:Type}{ks:List κ}{ds:List α}{k:κ}{d:α}(h:k ∉ ks):putL ks k=ks++[k]/\f6 ks ds k d=ds++[d] :=by
 unfold putL f6;rw[if_neg h,if_neg h];exact⟨rfl,rfl⟩
theorem yG {IQ:Type}{f:κ->IQ}(hf:∀a b,f a=f b->a=b) {x:κ}{ks:List κ}:f x∈ks.map f ↔ x∈ks :=by
 constructor
 ·intro h;obtain⟨y,hy,e⟩:=l6.mp h;rw[<- hf _ _ e];exact hy
 ·exact fun h=>List.mem_map_of_mem h
theorem uX {ks:List κ}{ws:List bv}(h:ks.length=ws.length) (x:κ):(look ks ws x).isSome=decide (x∈ks) :=by
 cases q:look ks ws x with
 |none=>rw[decide_eq_false ((iK h).mp q)];rfl
 |some w=>
  have:x∈ks:=ID fun z=>by rw[(iK h).mpr z]at q;cases q
  rw[decide_eq_true this];rfl
end
theorem Kv {k:Nat}(h:k<3):dE ("abc" : bv).cps.toList ((k:Nat):Int)=some (97+k) :=by
 have:k=0\/k=1\/k=2 :=by omega
 rcases this with rfl|rfl|rfl<;>decide +kernel
theorem oZ (a b:Int) (h:(FF a:Key)=FF b):a=b:=FF.inj h
theorem qm {α:Type}{l:List α}{i:Nat}{x:α}(h:l[i]?=some x):l.drop i=x::l.drop (i+1) :=by
 obtain⟨hi,e⟩:=cr.mp h;rw[No hi,e]
def OS (K:bn):List V->Hp->VK->Prop:=fun xs H Q=>∃(p:ag) (ns:List Int),xs=[.ref p]/\bL K H p (ns.map V.int)/\0<ns.length/\∀m:Int,m∈ns->(∀a∈ns,m<=a)->Q (.int m) H
theorem Ek {X:Cx}(hc:X.calm=true):cU X (.builtin "min") (OS X.K) :=by
 intro pins s σ H xs us Q I r h;obtain⟨p,ns,rfl,hq,h0,q⟩:=h;obtain⟨u,rfl,rx⟩:=vals1 r;cases rx;have hh:=I.ok.hd hc;obtain⟨its,rv,pl,hz⟩:=I.list hq;obtain⟨ys,hy⟩:=(oM rv).allInts.items;have hl:=pl.isList;rw[hy]at hl;have en:ys.toList.map (·.1)=ns :=by
  rw[<- nums_intItems,<- hy];exact(oM rv).numsOf
 have hsz:0<ys.size :=by
  rw[<- en,ci,jp]at h0;exact h0
 refine min_intList hh hl hsz fun v h' tk hv hk=>?_
 obtain⟨t,rfl⟩:=intItems_at hv;obtain⟨h1,h2⟩:=argBest_lt (numAt ys) (ys.size - 1);refine⟨.int _,H,I.kept (t':=tk) hk,⟨t,rfl⟩,q _ ?_ fun a ha=>?_⟩
 ·rw[<- en,numAt_eq];exact getD_mem (by rw[ci,jp];omega)
 ·rw[<- en]at ha;obtain⟨j,hj,rfl⟩:=mem_getD ha;rw[ci,jp]at hj;rw[<- numAt_eq];exact h2 j (by omega)
theorem Bu {X:Cx}{K:bn}(h:X.K=K) (hc:X.calm=true):cU X (.builtin "min") (OS K):=h▸Ek hc
def zMinL (d:Dv) (M:Mh) (Q:ZK):Prop:=match (itemsM M d).bind iw with|some ns=>0<ns.length/\(∀t,d≠.tup t)/\∀m:Int,m∈ns->(∀a∈ns,m<=a)->Q (.int m) M|none=>False
theorem OT {Γ:Gz}{X:Cx}{K:bn}(hK:X.K=K) (hc:X.calm=true):fS Γ X (.builtin "min") (z1 zMinL):=⟨_,Bu hK hc,fun β xs ds M H Q Q' _ _ _ m rs z q=>by
 unfold z1 at z;split at z
 ·rename_i d;obtain⟨x,rfl,r⟩:=dh rs;unfold zMinL at z;split at z
  ·rename_i ns gI;obtain⟨z1,z2,z3⟩:=z;rw[Option.bind_eq_some_iff]at gI;obtain⟨es,he,hi⟩:=gI;obtain⟨a,vs,rfl,ha,cP⟩:=jU m r he;rw[qg hi]at cP;rw[fZ cP]at ha;rcases ha with ha|ha
   ·exact⟨a,ns,rfl,bL.of ha,z1,fun k h1 h2=>q _ _ _ _ (.refl m) (.int _) (z3 k h1 h2)⟩
   ·exfalso
    cases d with
    |tup t=>exact z2 t rfl
    |lst t=>obtain⟨a',wW,e,f,hv,_⟩:=gA r;cases e;rw[hv]at ha;cases ha
    |ptr p=>
     obtain⟨e,_⟩:=bO r;cases e;simp only[itemsM]at he;split at he
     ·rename_i xs hx;obtain⟨wW,hv,_⟩:=m.obj _ _ hx;rw[hv]at ha;cases ha
     ·cases he
    |_=>cases he
  ·exact z.elim
 ·exact z.elim⟩
end L2
namespace L2
open PySem PySem.Spec PySem.W PyProof.Rows
def OU (b:Bool):ap->Bool
 | .bool a=>a==b
 |_=>false
theorem pR (b:Bool):∀{bs:List Bool}{its:List ap},Vals (bs.map V.bl) its->(∀y∈its,∃a,y=.bool a)/\its.countP (OU b)=bs.count b
 | [],_,.nil=>⟨(fun _ h=>nomatch h),rfl⟩
 |n::ns,_,.cons r t=>by
          obtain rfl:=r;obtain⟨h1,h2⟩:=pR b t;refine⟨fun y hy=>?_,?_⟩
          ·rcases l8.mp hy with rfl|hy
           ·exact⟨_,rfl⟩
           ·exact h1 y hy
          ·rw[ZI,List.count_cons,h2];rfl
def Kw:V->List V->Hp->VK->Prop:=fun x vs H Q=>∃(p:ag) (bs:List Bool) (b:Bool),x=.ref p/\vs=[.bl b]/\H p=some (.lst (bs.map V.bl))/\Q (.int (bs.count b:Nat)) H
theorem El {X:Cx}:CF X "list.count" Kw :=by
 intro pins s σ H x vs v us Q I rx rv h;obtain⟨p,bs,b,rfl,rfl,hp,q⟩:=h;cases rx;obtain⟨u,rfl,ru⟩:=rv.one;obtain rfl:=ru;obtain⟨z,its,n,r,wx,e⟩:=I.pX hp;obtain⟨h1,h2⟩:=pR b r;refine call_meets F.slot_list_count ⟨_,e,rfl⟩ F.entry_list_count (F.args_list_count_2 _ _) (SeqAt.list_countAt p its.toArray n _ _ _ (OU b)) ⟨e,fun y hy=>?_,?_⟩
 ·obtain⟨a,rfl⟩:=h1 y (by simpa using hy)
  exact mT.bool_bool _ _
 ·refine⟨.int _,H,I.tok _,⟨_,rfl⟩,?_⟩;rw[US,h2];exact q
def zCountB:uJ:=fun d ds M Q=>match d,ds with | .lst xs,[.bl b]=>(match boolsD xs with|some bs=>Q (.int (bs.count b:Nat)) M|none=>False)|_,_=>False
theorem GW {Γ:Gz}{X:Cx}{K:bn}:IA Γ X "list" "list.count" K zCountB:=⟨_,El,fun β x xs d ds M H Q Q' _ _ _ m r rs z q=>by
 unfold zCountB at z;split at z
 ·split at z
  ·rename_i bs V7;obtain⟨v,e2,rv⟩:=dh rs;subst e2;obtain⟨a,vs,rfl,f,hv,cP⟩:=gA r;rw[uN V7]at cP;rw[uO cP]at hv;exact⟨a,bs,_,rfl,by rw[cz rv],hv,q _ _ _ _ (.refl m) (.int _) z⟩
  ·exact z.elim
 ·exact z.elim⟩
def dM {α:Type}(R:Nat->Int) (n:Nat):KasT α->(α->Prop)->Prop
 | .ret a,Q=>Q a
 | .ask i j k,Q=>i<n/\j<n/\dM R n (k (decide (R i<R j))) Q
theorem gC {α β:Type}{R:Nat->Int}{n:Nat}{f:α->KasT β}{Q:β->Prop}:∀{t:KasT α},dM R n t (fun a=>dM R n (f a) Q)->dM R n (t.bind f) Q
 | .ret _,h=>h
 | .ask _ _ k,h=>⟨h.1,h.2.1,gC (t:=k _) h.2.2⟩
structure Pm (n:Nat) (p:Array Nat):Prop where
 sz:p.size=n
 pm:p.toList.Perm (lw n)
theorem Pm.lt {n:Nat}{p:Array Nat}(h:Pm n p) {k:Nat}(hk:k<n):p.getD k 0<n :=by
 have uy:k<p.size :=by rw[h.sz];exact hk
 have e:p.getD k 0=p[k] :=by simp[NH,uy]
 rw[e];have:p[k]∈p.toList :=by simp
 exact u4.mp (h.pm.mem_iff.mp this)
theorem Pm.of {n:Nat}{p p':Array Nat}(h:Pm n p) (hs:p'.size=p.size) (hp:p'.Perm p):Pm n p':=⟨hs.trans h.sz,(Array.perm_iff_toList_perm.mp hp).trans h.pm⟩
def rk (R:Nat->Int) (p:Array Nat) (k:Nat):Int:=R (p.getD k 0)
theorem ig (p:Array Nat) (k:Nat):p.getD k 0=(p[k]?).getD 0 :=by simp[Array.getD_eq_getD_getElem?]
theorem sj (R:Nat->Int) {p:Array Nat}{i j:Nat}(hj:j<=p.size) (k:Nat):rk R (kas_rev p i j) k=if i<=k/\k<j then rk R p (i+j - 1 - k) else rk R p k :=by
 unfold rk kas_rev;rw[ig,getElem?_mirror_all hj k];split<;>rw[ig]
theorem Em (R:Nat->Int) {p:Array Nat}{src d:Nat}(hs:src<p.size) (hd:d<=src) (k:Nat):rk R (bubble p src d) k=if k=src - d then rk R p src else if src - d<k/\k<=src then rk R p (k - 1) else rk R p k :=by
 unfold rk;rw[ig,ig p src,ig p (k - 1),ig p k,getElem?_bubble hs d hd k];by_cases h1:k=src - d
 ·rw[if_pos h1,if_pos h1]
 ·rw[if_neg h1,if_neg h1];by_cases h2:src - d<k/\k<=src
  ·rw[if_pos h2,if_pos h2]
  ·rw[if_neg h2,if_neg h2]
def oo (R:Nat->Int) (p:Array Nat) (m:Nat):Prop:=∀a b,a<=b->b<m->rk R p a<=rk R p b
def pS (R:Nat->Int) (p:Array Nat) (m:Nat):Prop:=∀a b,a<=b->b<m->rk R p b<=rk R p a
section
variable {R:Nat->Int}{n:Nat}
theorem xG {p:Array Nat}(hp:Pm n p) {Q:Nat->Prop}:∀(f m:Nat),oo R p m->1<=m->m+f<=n->(∀m',m<=m'->m'<=m+f->oo R p m'->(m'<m+f->rk R p m'<rk R p (m' - 1))->Q m')->dM R n (kas_asc p f m) Q
 |0,m,ha,h1,hn,q=>q m (ce _) (ce _) ha (fun h=>absurd h (LH _))
 |f+1,m,ha,h1,hn,q=>by
          refine⟨hp.lt (by omega),hp.lt (by omega),?_⟩
          show dM R n (if decide (rk R p m<rk R p (m - 1))=true then _ else _) Q
          by_cases h:rk R p m<rk R p (m - 1)
          ·rw[decide_eq_true h,if_pos rfl];exact q m (ce _) (by omega) ha (fun _=>h)
          ·rw[decide_eq_false h,if_neg i8];refine xG hp f (m+1) (fun a b fM hb=>?_) (by omega) (by omega) fun m' h2 h3 h4 h5=>q m' (by omega) (by omega) h4 (fun z=>h5 (by omega))
           rcases LF b m with z|z
           ·exact ha a b fM z
           ·have eb:b=m :=by omega
            subst eb;rcases LF a b with y|y
            ·have:=ha a (b - 1) (by omega) (by omega)
             omega
            ·have:a=b :=by omega
             subst this;exact LG _
theorem pS.rev {p:Array Nat}{m i:Nat}(hm:m<=p.size) (h:pS R p m) (he:∀k,i<=k->k<m->rk R p k=rk R p (m - 1)):pS R (kas_rev p i m) m/\∀k,rk R (kas_rev p i m) k=rk R p k :=by
 have e:∀k,rk R (kas_rev p i m) k=rk R p k:=fun k=>by
  rw[sj R hm];split
  ·rename_i z;rw[he (i+m - 1 - k) (by omega) (by omega),he k z.1 z.2]
  ·rfl
 exact⟨fun a b fM hb=>by rw[e a,e b];exact h a b fM hb,e⟩
theorem Pm.rev {p:Array Nat}(h:Pm n p) (i j:Nat):Pm n (kas_rev p i j):=h.of (mirror_size _ _ _ _) (mirror_perm _ _ _ _)
theorem o4 {Q:Array Nat×Nat×Nat->Prop}:∀(f:Nat) (p:Array Nat) (m q:Nat),Pm n p->pS R p m->(∀k,m - (q+1)<=k->k<m->rk R p k=rk R p (m - 1))->q+1<=m->m+f<=n->
  (∀p' m' q',Pm n p'->pS R p' m'->(∀k,m' - (q'+1)<=k->k<m'->rk R p' k=rk R p' (m' - 1))->q'+1<=m'->m'<=n->Q (p',m',q'))->dM R n (kas_desc f p m q) Q
 |0,p,m,q,hp,hd,he,hq,hn,k=>k p m q hp hd he hq (by omega)
 |f+1,p,m,q,hp,hd,he,hq,hn,k=>by
          have hsz:=hp.sz;refine⟨hp.lt (by omega),hp.lt (by omega),?_⟩
          show dM R n (if decide (rk R p m<rk R p (m - 1))=true then _ else _) Q
          by_cases h:rk R p m<rk R p (m - 1)
          ·rw[decide_eq_true h,if_pos rfl];have more:∀p',Pm n p'->(∀k,rk R p' k=rk R p k)->pS R p' (m+1):=fun p' _ e a b fM hb=>by
            rw[e a,e b];rcases LF b m with z|z
            ·exact hd a b fM z
            ·have eb:b=m :=by omega
             subst eb;rcases LF a b with y|y
             ·have:=hd a (b - 1) (by omega) (by omega)
              omega
             ·have:a=b :=by omega
              subst this;exact LG _
           have one:∀p':Array Nat,∀k,m+1 - (0+1)<=k->k<m+1->rk R p' k=rk R p' (m+1 - 1):=fun p' k h1 h2=>by rw[show k=m by omega];rfl
           by_cases IU:q > 0
           ·rw[if_pos IU];obtain⟨_,e⟩:=pS.rev (i:=m - (q+1)) (show m<=p.size by omega) hd he
            exact o4 f _ (m+1) 0 (hp.rev _ _) (more _ (hp.rev _ _) e) (one _) (by omega) (by omega) k
           ·rw[if_neg IU];exact o4 f p (m+1) 0 hp (more p hp fun _=>rfl) (one p) (by omega) (by omega) k
          ·rw[decide_eq_false h,if_neg i8];refine⟨hp.lt (by omega),hp.lt (by omega),?_⟩
           show dM R n (if decide (rk R p (m - 1)<rk R p m)=true then _ else _) Q
           by_cases h2:rk R p (m - 1)<rk R p m
           ·rw[decide_eq_true h2,if_pos rfl];exact k p m q hp hd he hq (by omega)
           ·rw[decide_eq_false h2,if_neg i8];have e:rk R p m=rk R p (m - 1) :=by omega
            refine o4 f p (m+1) (q+1) hp (fun a b fM hb=>?_) (fun x h3 h4=>?_) (by omega) (by omega) k
            ·rcases LF b m with z|z
             ·exact hd a b fM z
             ·have eb:b=m :=by omega
              subst eb;rcases LF a b with y|y
              ·rw[e];exact hd a (b - 1) (by omega) (by omega)
              ·have:a=b :=by omega
               subst this;exact LG _
            ·show rk R p x=rk R p m;rcases LF x m with z|z
             ·rw[e];exact he x (by omega) z
             ·rw[show x=m by omega]
theorem xH {m:Nat}{p:Array Nat}(hp:Pm n p) (hd:pS R p m) (h1:1<=m) (hm:m<=n) {Q:Nat×Array Nat->Prop}(q:∀m' p',Pm n p'->oo R p' m'->1<=m'->m'<=n->Q (m',p')):dM R n (kas_tail3 m n p) Q :=by
 have hsz:=hp.sz;refine gC (xG (hp.rev 0 m) (n - m) m (fun a b fM hb=>?_) h1 (by omega) fun m' h2 h3 h4 _=>q m' _ (hp.rev 0 m) h4 (by omega) (by omega))
 rw[sj R (by omega),sj R (by omega),if_pos ⟨by omega,by omega⟩,if_pos ⟨by omega,by omega⟩]
 exact hd _ _ (by omega) (by omega)
theorem pT {m:Nat}{p:Array Nat}(hp:Pm n p) (hd:pS R p (m+1)) (hm:m+1<=n) {Q:Nat×Array Nat->Prop}(q:∀m' p',Pm n p'->oo R p' m'->1<=m'->m'<=n->Q (m',p')):dM R n (kas_descPart m n p) Q :=by
 refine gC (o4 (n - (m+1)) p (m+1) 0 hp hd (fun k h1 h2=>by rw[show k=m by omega];rfl) (by omega) (by omega) fun p' m' q' OV iB he hq hn=>?_)
 have hsz:=OV.sz;show dM R n (if q' > 0 then kas_tail3 m' n (kas_rev p' (m' - (q'+1)) m') else kas_tail3 m' n p') Q
 by_cases h:q' > 0
 ·rw[if_pos h];exact xH (OV.rev _ _) (pS.rev (by omega) iB he).1 (by omega) hn q
 ·rw[if_neg h];exact xH OV iB (by omega) hn q
theorem GX {p:Array Nat}(hp:Pm n p) (h1:1<=n) {Q:Nat×Array Nat->Prop}(q:∀m' p',Pm n p'->oo R p' m'->1<=m'->m'<=n->Q (m',p')):dM R n (kas_count n p) Q :=by
 have hsz:=hp.sz;refine gC (xG hp (n - 1) 1 (fun a b fM hb=>by rw[show a=b by omega];exact LG _) (ce _) (by omega) fun m h2 h3 h4 h5=>?_)
 by_cases e:m=n
 ·rw[if_pos (by simpa using e)]
  exact q m p hp h4 h2 (by omega)
 ·rw[if_neg (by simpa using e)]
  have aO:=h5 (by omega)
  by_cases hm:m > 1
  ·rw[if_pos hm];refine⟨hp.lt (by omega),hp.lt (by omega),?_⟩
   show dM R n (if decide (rk R p 0<rk R p (m - 1))=true then _ else _) Q
   by_cases h:rk R p 0<rk R p (m - 1)
   ·rw[decide_eq_true h,if_pos rfl];exact q m p hp h4 (by omega) (by omega)
   ·rw[decide_eq_false h,if_neg i8];have eq:∀k,k<m->rk R p k=rk R p (m - 1):=fun k hk=>by
     have a1:=h4 k (m - 1) (by omega) (by omega)
     have a2:=h4 0 k (by omega) hk
     omega
    have er:∀k,rk R (kas_rev p 0 m) k=rk R p k:=fun k=>by
     rw[sj R (by omega)]
     split
     ·rename_i z;rw[eq (0+m - 1 - k) (by omega),eq k z.2]
     ·rfl
    refine pT (hp.rev 0 m) (fun a b fM hb=>?_) (by omega) q
    rw[er,er];rcases LF b m with z|z
    ·rw[eq a (by omega),eq b z];exact LG _
    ·have eb:b=m :=by omega
     subst eb;rcases LF a b with y|y
     ·rw[eq a y];omega
     ·rw[show a=b by omega];exact LG _
  ·rw[if_neg hm];have em:m=1 :=by omega
   subst em;refine pT hp (fun a b fM hb=>?_) (by omega) q
   have aO:rk R p 1<rk R p 0:=aO;match a,b,fM,hb with
   |0,0,_,_=>exact LG _
   |0,1,_,_=>omega
   |1,1,_,_=>exact LG _
   |a,b+2,_,hb=>omega
   |a+2,b,h,hb=>omega
   |1,0,h,_=>omega
theorem qo {p:Array Nat}(hp:Pm n p) {k:Nat}(hk:k<n) (ha:oo R p k) {Q:Nat->Prop}:∀(f l r:Nat),r - l<=f->l<=r->r<=k->(∀a,a<l->rk R p a<=rk R p k)->(∀a,r<=a->a<k->rk R p k<rk R p a)->
  (∀l,l<=k->(∀a,a<l->rk R p a<=rk R p k)->(∀a,l<=a->a<k->rk R p k<rk R p a)->Q l)->dM R n (kas_place p k f l r) Q
 |0,l,r,hf,hl,hr,h1,h2,q=>q l (by omega) h1 (fun a x y=>h2 a (by omega) y)
 |f+1,l,r,hf,hl,hr,h1,h2,q=>by
          unfold kas_place;by_cases e:l ≥ r
          ·rw[if_pos e];exact q l (by omega) h1 (fun a x y=>h2 a (by omega) y)
          ·rw[if_neg e];refine⟨hp.lt hk,hp.lt (by omega),?_⟩
           show dM R n (if decide (rk R p k<rk R p ((l+r) / 2))=true then _ else _) Q
           by_cases h:rk R p k<rk R p ((l+r) / 2)
           ·rw[decide_eq_true h,if_pos rfl];refine qo hp hk ha f l ((l+r) / 2) (by omega) (by omega) (by omega) h1 (fun a x y=>?_) q
            have:=ha ((l+r) / 2) a x y;omega
           ·rw[decide_eq_false h,if_neg i8];refine qo hp hk ha f ((l+r) / 2+1) r (by omega) (by omega) hr (fun a x=>?_) h2 q
            have:=ha a ((l+r) / 2) (by omega) (by omega)
            omega
theorem En {Q:Array Nat->Prop}:∀(f:Nat) (p:Array Nat) (k:Nat),Pm n p->oo R p k->k+f=n->(∀p',Pm n p'->oo R p' n->Q p')->dM R n (kas_bin f p k) Q
 |0,p,k,hp,ha,hn,q=>q p hp (by rw[<- hn];exact ha)
 |f+1,p,k,hp,ha,hn,q=>by
          have hsz:=hp.sz;refine gC (qo hp (by omega) ha k 0 k (by omega) (by omega) (ce _) (fun a h=>by omega) (fun a h1 h2=>by omega) fun l hl h1 h2=>?_)
          refine En f _ (k+1) (hp.of (bubble_size _ _ _) (bubble_perm _ _ _)) (fun a b fM hb=>?_) (by omega) q
          have hd:k - (k - l)=l :=by omega
          rw[Em R (by omega) (by omega),Em R (by omega) (by omega),hd]
          by_cases a1:a=l
          ·rw[if_pos a1];by_cases b1:b=l
           ·rw[if_pos b1];exact LG _
           ·rw[if_neg b1,if_pos ⟨by omega,by omega⟩]
            exact Int.le_of_lt (h2 (b - 1) (by omega) (by omega))
          ·rw[if_neg a1];by_cases b1:b=l
           ·rw[if_pos b1,if_neg (by omega)]
            exact h1 a (by omega)
           ·rw[if_neg b1];by_cases a2:l<a/\a<=k
            ·rw[if_pos a2,if_pos ⟨by omega,by omega⟩]
             exact ha _ _ (by omega) (by omega)
            ·rw[if_neg a2];by_cases b2:l<b/\b<=k
             ·rw[if_pos b2];exact ha _ _ (by omega) (by omega)
             ·rw[if_neg b2];exact ha _ _ fM (by omega)
theorem Kx (h1:1<=n) {Q:Array Nat->Prop}(q:∀p,Pm n p->oo R p n->Q p):dM R n (kas_sort n) Q :=by
 have h0:Pm n (TD (lw n)):=⟨by simp,by simp⟩
 refine gC (GX h0 h1 fun m p hp ha ng CO=>?_)
 show dM R n (if m<n then kas_bin (n - max m 1) p (max m 1) else .ret p) Q
 have em:max m 1=m :=by omega
 rw[em];by_cases h:m<n
 ·rw[if_pos h];exact En _ p m hp ha (by omega) q
 ·rw[if_neg h];exact q p hp (by rw[show n=m by omega];exact ha)
end
theorem xI {α:Type}{cmp:Nat->Nat->(Bool->ba->Prop)->ba->Prop}{I:ba->Prop}{R:Nat->Int}{n:Nat}(hc:∀i j C s,i<n->j<n->I s->(∀s',I s'->C (decide (R i<R j)) s')->cmp i j C s):∀(t:KasT α) (Q:α->ba->Prop) (s:ba),I s->dM R n t (fun a=>∀s',I s'->Q a s')->t.kasWp cmp Q s
 | .ret _,Q,s,hI,h=>h s hI
 | .ask i j k,Q,s,hI,h=>hc i j _ s h.1 h.2.1 hI fun s' V8=>xI hc (k _) Q s' V8 h.2.2
theorem sk:∀a:List Int,HT.lexLt a a=false
 | []=>rfl
 |x::a=>by rw[HT.i9,if_pos rfl];exact sk a
theorem j2:∀{a b c:List Int},HT.lexLt a b=true->HT.lexLt b c=true->HT.lexLt a c=true
 | [],[],_,h,_=>by cases h
 | [],_::_,[],_,h=>by cases h
 | [],_::_,_::_,_,_=>rfl
 |_::_,[],_,h,_=>by cases h
 |_::_,_::_,[],_,h=>by cases h
 |x::a,y::b,z::c,h1,h2=>by
          rw[HT.i9]at h1 h2 ⊢;by_cases e1:x=y
          ·subst e1;rw[if_pos rfl]at h1;by_cases e2:x=z
           ·subst e2;rw[if_pos rfl]at h2 ⊢;exact j2 h1 h2
           ·rw[if_neg e2]at h2 ⊢;exact h2
          ·rw[if_neg e1]at h1;have h1:=of_decide_eq_true h1;by_cases e2:y=z
           ·subst e2;rw[if_neg e1];exact decide_eq_true h1
           ·rw[if_neg e2]at h2;have h2:=of_decide_eq_true h2;rw[if_neg (by omega)]
            exact decide_eq_true (by omega)
theorem sm:∀{a b:List Int},HT.lexLt a b=false->HT.lexLt b a=false->a=b
 | [],[],_,_=>rfl
 | [],_::_,h,_=>by cases h
 |_::_,[],_,h=>by cases h
 |x::a,y::b,h1,h2=>by
          rw[HT.i9]at h1 h2;by_cases e:x=y
          ·subst e;rw[if_pos rfl]at h1 h2;rw[sm h1 h2]
          ·rw[if_neg e]at h1;rw[if_neg (wp e)]at h2;have h1:=of_decide_eq_false h1;have h2:=of_decide_eq_false h2;exact absurd (show x=y by omega) e
def uY (rows:List (List Int)) (r:List Int):Int:=(rows.countP fun x=>HT.lexLt x r:Nat)
theorem uZ {α:Type}{p q:α->Bool}(OW:∀x,p x=true->q x=true):∀{l:List α}{a:α},a∈l->q a=true->p a=false->l.countP p<l.countP q
 |x::l,a,h,hq,hp=>by
          have le:l.countP p<=l.countP q:=List.countP_mono_left fun x _=>OW x
          rcases l8.mp h with rfl|h
          ·rw[List.countP_cons_of_neg (by simp[hp]),List.countP_cons_of_pos hq]
           omega
          ·have ih:=uZ OW h hq hp;rw[ZI,ZI];by_cases e:p x=true
           ·rw[if_pos e,if_pos (OW x e)];omega
           ·rw[if_neg e];split<;>omega
theorem Eo {rows:List (List Int)}{a b:List Int}(ha:a∈rows):decide (uY rows a<uY rows b)=HT.lexLt a b :=by
 unfold uY;cases h:HT.lexLt a b with
 |true=>
  refine decide_eq_true ?_;have:=uZ (p:=fun x=>HT.lexLt x a) (q:=fun x=>HT.lexLt x b) (fun x hx=>j2 hx h) ha h (sk a)
  omega
 |false=>
  refine decide_eq_false ?_;have:rows.countP (fun x=>HT.lexLt x b)<=rows.countP (fun x=>HT.lexLt x a):=List.countP_mono_left fun x _ hx=>by
   cases h2:HT.lexLt b a with
   |true=>exact j2 hx h2
   |false=>rw[sm h h2];exact hx
  omega
def fP (h:ii) (v:ap) (row:List Int):Prop:=∃b o xs n,v=.ref b/\h.get? b=some o/\o.cls=.type "tuple" /\ o.data=.seq xs n/\Po xs.toList row/\row≠[]
section
variable {prog:ff}{w:hX}{A:rb}{E:ap->ba->Prop}{s:ba}
theorem pU {fin:Bool}{Q:Bool->ba->Prop}:∀{us ws:List ap}{ns ms:List Int}(i:Nat),Po us ns->Po ws ms->fin=decide (us.length<ws.length)->Q (HT.lexLt ns ms) s->KatLex prog w A true fin Q (us.zip ws) i s
 | [],[],[],[],i,_,_,hf,q=>by
          refine kat_nil ?_;rw[hf];exact q
 | [],y::ws,[],m::ms,i,_,_,hf,q=>by
          refine kat_nil ?_;rw[hf];exact q
 |x::us,[],n::ns,[],i,_,_,hf,q=>by
          refine kat_nil ?_;rw[hf];exact q
 |x::us,y::ws,n::ns,m::ms,i,hu,hw,hf,q=>by
          cases hu with
          |cons _ t hu=>
          cases hw with
          |cons _ t2 hw=>
          rw[HT.i9]at q;refine kat_cons (PySem.SeqAt.EqAt.int_int n t m t2 prog w _ _ (kat_go (fun e=>kat_yes ?_) (fun e=>kat_no ?_)))
          ·have e:n=m :=by simpa using e
           rw[if_pos e]at q;exact pU (i+1) hu hw (by rw[hf];simp) q
          ·have e:n≠m :=by simpa using e
           rw[if_neg e]at q;cases hi:(i==0) with
           |true=>exact oneLt_int q
           |false=>exact kat_one _ _ (PyProof.Rows.lt_int q)
theorem Bv {v1 v2:ap}{r1 r2:List Int}{Q:Bool->ba->Prop}(h1:fP s.heap v1 r1) (h2:fP s.heap v2 r2) (q:Q (HT.lexLt r1 r2) s):wpAny (model prog w) A (keyLt' (tuples' true) v1 v2) Q E s :=by
 obtain⟨b,o,xs,n,rfl,ho,hc,hd,hi,_⟩:=h1;obtain⟨b2,o2,Xl,n2,rfl,jB,y8,hd2,gz,_⟩:=h2;exact kat_lt ho hd jB hd2 (pU 0 hi gz (by simp) q)
theorem so:∀{vs:List ap}{rows:List (List Int)},AM (fun v r=>fP s.heap v r) vs rows->∃fs,KatTups s.heap vs fs/\fs.length=vs.length/\∀f∈fs,∃n t,f=.int n t
 | [],[],_=>⟨[],.nil,rfl,fun _ h=>nomatch h⟩
 |v::vs,r::rows,h=>by
          obtain⟨r',WV,e,hv,ht⟩:=fL h;cases e;obtain⟨fs,k1,k2,k3⟩:=so ht;obtain⟨b,o,xs,n,rfl,ho,hc,hd,hi,cJ⟩:=hv;obtain⟨ls⟩:=xs;cases hi with
          |nil=>exact absurd rfl cJ
          |cons m t hi=>exact⟨_,.cons ho hc hd (f:=.int m t) (by simp) k1,by simp[k2],fun f hf=>by
            rcases l8.mp hf with rfl|hf
            ·exact⟨_,_,rfl⟩
            ·exact k3 f hf⟩
theorem tK {a:ag}{vs:List ap}{rows:List (List Int)}{n:Nat}{P:PySem.Fin->ba->Prop}(ho:s.heap.get? a=some (seqObj "list" vs.toArray n))
  (hr:AM (fun v r=>fP s.heap v r) vs rows) (m6:vs.length<64)
  (h:∀(p:Array Nat),Pm vs.length p->(∀i j,i<=j->j<vs.length->HT.lexLt (rows.getD (p.getD j 0) []) (rows.getD (p.getD i 0) [])=false)->P (.done (.ret .none)) {s with heap:=sortedHeap s.heap a vs (TD (p.toList.map fun i=>vs.getD i wE))}) :
  wpAny (model prog w) A (ul.«list.sort» ⟨[.ref a],[]⟩) P E s :=by
 rw[list_sort_plain];have ha:a<s.heap.objs.size:=io ho;have OX:vs.length=rows.length:=P3 hr;refine ac (listItems_at ho rfl ?_);refine ac (Zj ho rfl ?_ (by rw[im,Lo];omega) (nw _))
 obtain⟨e1,zJ⟩:∃e1,(s.heap.update a (CS fun _=>(#[]:Array ap))).get? a=some (seqObj "list" #[] e1):=⟨_,get?_update_seq ho fun _=>#[]⟩
 refine ac (seqEpoch_at zJ rfl ?_);refine ac (Y3 ?_ (by show vs.length<=_;rw[Lo];omega))
 refine ac (Zi ?_ (nw _));refine xL ?_;have Ep:(((s.heap.update a (CS fun _=>#[])).push (seqObj "tuple" vs.toArray 0)).push (seqObj "list" #[] 0)).get? a=some (seqObj "list" #[] e1) :=by
  rw[Ym _ _ _ (by rw[size_push',Yz];exact l5 (GM ha)),Ym _ _ _ (by rw[Yz];exact l5 ha)]
  exact zJ
 show wpAny (model prog w) A _ P E {s with heap:=((s.heap.update a (CS fun _=>(#[]:Array ap))).push (seqObj "tuple" vs.toArray 0)).push (seqObj "list" #[] 0)}
 obtain⟨hh,OY⟩:∃hh,hh=((s.heap.update a (CS fun _=>(#[]:Array ap))).push (seqObj "tuple" vs.toArray 0)).push (seqObj "list" #[] 0):=⟨_,rfl⟩
 rw[<- OY]at Ep ⊢;have keep:∀b o,b≠a->s.heap.get? b=some o->hh.get? b=some o:=fun b o hb e=>by
  have aO:=io e;rw[OY,Ym _ _ _ (by rw[size_push',Yz];exact l5 (GM aO)),Ym _ _ _ (by rw[Yz];exact l5 aO),ii.get?_update_ne _ _ _ _ hb]
  exact e
 have tr:∀{v r},fP s.heap v r->fP hh v r:=fun h=>by
  obtain⟨b,o,xs,n,rfl,eS,hc,hd,hi⟩:=h;exact⟨b,o,xs,n,rfl,keep b o (fun z=>by subst z;rw[ho]at eS;injection eS with eS;subst eS;injection hc with hc;exact absurd hc (by decide)) eS,hc,hd,hi⟩
 have IV:AM (fun v r=>fP hh v r) vs rows:=AM.imp' (fun _ _ h=>tr h) hr
 dsimp only;have hsz:vs.toArray.size=vs.length :=by simp
 have fin:∀p:Array Nat,Pm vs.length p->(∀i j,i<=j->j<vs.length->HT.lexLt (rows.getD (p.getD j 0) []) (rows.getD (p.getD i 0) [])=false)->P (.done (.ret .none)) {s with heap:=hh.update a (CS fun _=>TD (p.toList.map fun i=>vs.getD i wE))}:=fun p h1 h2=>by
  have:=h p h1 h2;unfold sortedHeap at this;rw[<- OY]at this;exact this
 by_cases h2:vs.toArray.size<2
 ·rw[if_pos h2,if_pos h2];refine ac (bi ?_);rw[StateT.run_pure];refine ac (bi ?_);dsimp only;refine ac (seqEpoch_at Ep rfl ?_);have eo:((arrOf (SortSt.mk' general' (vs.toArray.zip vs.toArray) #[] 7 none)).map (·.2))=TD ((TD (lw vs.length)).toList.map fun i=>vs.getD i wE) :=by
   refine kat_snds (ks:=vs) (vs:=vs) rfl (p:=TD (lw vs.length)) ?_;have e:vs.length=(vs.toArray.zip vs.toArray).size :=by simp
   rw[e];exact(kas_range _).symm
  rw[eo];refine ac (Zj Ep rfl ?_ (nw _) (by simp only[im,ci,EN,Lo];omega))
  simp only[bne_self_eq_false,gc,if_false];refine bi (fin (TD (lw vs.length)) ⟨by simp,by simp⟩ fun i j nr hj=>?_)
  have:i=j :=by omega
  subst this;exact sk _
 ·rw[if_neg h2,if_neg h2];obtain⟨fs,k1,k2,k3⟩:=so (s:={s with heap:=hh}) IV
  refine ac (kat_kind (T:=.type "int") k1 (by omega) (fun v hv=>by obtain⟨m,t,rfl⟩:=k3 v hv;exact Looks.of_pure rfl) (by decide) ?_)
  have GY:∀i,i<vs.length->∃r,fP hh (vs.getD i wE) (rows.getD i [])/\rows.getD i []∈rows/\r=rows.getD i []:=fun i hi=>by
   have hv:vs[i]?=some (vs.getD i wE) :=by simp[hi]
   obtain⟨r,er,MT⟩:=iL IV hv;have e:rows.getD i []=r :=by simp[er]
   exact⟨_,by rw[e];exact MT,by rw[e];exact lp er,rfl⟩
  refine ac (on (kat_run (κ:=tuples' true) (ks:=vs) (vs:=vs) (Q:=fun iY s'=>∃p:Array Nat,Pm vs.length p/\oo (fun i=>uY rows (rows.getD i [])) p vs.length/\arrOf iY=p.map (kas_item (vs.toArray.zip vs.toArray))/\failedOf iY=none/\s'={s with heap:=hh})
   rfl (by omega) m6 (G:=fun p s'=>Pm vs.length p/\oo (fun i=>uY rows (rows.getD i [])) p vs.length/\s'={s with heap:=hh}) (fun p' iY s' a1 a2 a3 a4=>⟨p',a4.1,a4.2.1,a2,a3,a4.2.2⟩) ?_) ?_ fun _ _ e=>e)
  ·refine xI (I:=fun s'=>s'={s with heap:=hh}) (R:=fun i=>uY rows (rows.getD i [])) (n:=vs.length) (fun i j C s' hi hj hI hC=>?_) _ _ _ rfl (Kx (by omega) fun p h1 h2 s' mX=>⟨h1,h2,mX⟩)
   subst hI;obtain⟨_,t1,m1,_⟩:=GY i hi;obtain⟨_,t2,_,_⟩:=GY j hj;refine Bv (s:={s with heap:=hh}) t1 t2 ?_
   rw[<- Eo m1];exact hC _ rfl
  ·intro r s' hs;obtain⟨_,iY⟩:=r;obtain⟨p,hp,hA,SF,hf,rfl⟩:=hs;dsimp only at SF hf ⊢;have Uq:=kat_snds (ks:=vs) (vs:=vs) rfl SF;refine ac (seqEpoch_at Ep rfl ?_);rw[Uq];refine ac (Zj Ep rfl ?_ (nw _) (by rw[im,ci,jp,hp.sz,Lo];omega))
   rw[hf];simp only[bne_self_eq_false,gc,if_false];refine bi (fin p hp fun i j nr hj=>?_)
   have IW:=hp.lt hj;obtain⟨_,_,m1,_⟩:=GY _ IW;rw[<- Eo m1];have:=hA i j nr hj;refine decide_eq_false ?_;have this:uY rows (rows.getD (p.getD i 0) [])<=uY rows (rows.getD (p.getD j 0) []):=this;omega
end
def jg (rs:List (List Int)):List (List Int):=rs.mergeSort fun a b => !HT.lexLt b a
theorem ft (rs:List (List Int)):(jg rs).Perm rs:=List.mergeSort_perm _ _
theorem yH {a b c:List Int}(h1:HT.lexLt b a=false) (h2:HT.lexLt c b=false):HT.lexLt c a=false :=by
 cases h:HT.lexLt c a with
 |false=>rfl
 |true=>
  cases h3:HT.lexLt a b with
  |true=>rw[j2 h h3]at h2;cases h2
  |false=>
   have:=sm h3 h1;subst this;rw[h]at h2;cases h2
theorem xJ (rs:List (List Int)):(jg rs).Pairwise fun a b=>HT.lexLt b a=false :=by
 have:=List.pairwise_mergeSort (le:=fun a b => !HT.lexLt b a) (fun a b c h1 h2=>by
  simp only[Bool.not_eq_true']at *;exact yH h1 h2) (fun a b=>by
  cases h:HT.lexLt b a with
  |false=>rfl
  |true=>
   cases h2:HT.lexLt a b with
   |false=>rfl
   |true=>have:=j2 h h2;rw[sk]at this;cases this) rs
 exact this.imp fun h=>by simpa using h
theorem xK {ms rs:List (List Int)}(p:ms.Perm rs) (h:ms.Pairwise fun a b=>HT.lexLt b a=false):ms=jg rs:=
 SC.eq_of_pairwise (le:=fun a b=>HT.lexLt b a=false) (fun x y _ _ h1 h2=>sm h2 h1) h (xJ rs) (p.trans (ft rs).symm)
end L2
namespace L2
open PySem PySem.Spec PyProof.Rows
section
variable {X:Cx}{Γ:Gz}{K:bn}
def zSortedP (d:Dv) (M:Mh) (Q:ZK):Prop:=match intsM M d with|some ns=>ns.length<64/\∀a,M a=none->Q (.ptr a) (az M a (.lst ((sortI ns).map .int)))|none=>False
theorem Er (hP:X.prog=Γ.P) (hw:X.w=Γ.w) (hK:X.K=K) (hc:X.calm=true):fS Γ X (.builtin "sorted") (z1 zSortedP):=⟨_,vi hP hw hK hc,fun β xs ds M H Q Q' eP ew _ m rs z q=>by
 unfold z1 at z;split at z
 ·rename_i d;obtain⟨x,rfl,r⟩:=dh rs;unfold zSortedP at z;split at z
  ·rename_i ns gI;have fin:∀l,H l=none->Q (.ref l) (upd H l (.lst ((sortI ns).map V.int))):=fun l hl=>by
    have x2:=Ex.own m (p:=l) (.inr hl) (qh (ns:=sortI ns));exact q _ _ _ _ x2 (.ptr (by rw[updM_same];rfl)) (z.2 l (m.free hl))
   unfold intsM at gI;split at gI
   ·cases gI;obtain⟨a,rfl,f,h⟩:=DC r;rw[eP,ew]at h;exact⟨a,_,rfl,.inl h,z.1,fin⟩
   ·obtain⟨a,rfl,ha⟩:=DV m r gI;exact⟨a,_,rfl,.inr (ha.imp bL.of bW.of),z.1,fin⟩
  ·exact z.elim
 ·exact z.elim⟩
def zExtendT:uJ:=fun d ds M Q=>match d,ds with | .ptr a,[.tup ys]=>(match M a with|some (.lst xs)=>xs.length+ys.length<=sizeLine/\Q .ao (az M a (.lst (xs++ys)))|_=>False)|_,_=>False
end
section
variable {X:Cx}{Γ:Gz}
def zPar (i j:Nat) (za:dm):bT:=fun D ρ M=>za ρ M fun ds M1=>match ds with | [d,e]=>D.nx ((ρ.set i (some d)).set j (some e)) M1|_=>False
theorem Es {i j:Nat}{x y:bv}{a b:dL}{za:dm}{px py pt pos:ww}{kt k2 vM}(hc:X.calm=true) (hN:X.N.Nodup) (hi:X.N[i]?=some x) (hj:X.N[j]?=some y) (nr:i≠j)
  (hx:X.env.scope.names.lookup x=some .local) (hy:X.env.scope.names.lookup y=some .local) (ha:QA Γ X [a,b] za)
  (hw:swappedStores [.Tuple [.Name x px,.Name y py] kt pt] (.Tuple [a,b] k2 vM) X.env=pure (some [x,y]))
  (hs:swapsWithSole [.Tuple [.Name x px,.Name y py] kt pt] (.Tuple [a,b] k2 vM) pos.line X.env=pure false :=by rfl) :
  QS Γ X (.Assign [.Tuple [.Name x px,.Name y py] kt pt] (.Tuple [a,b] k2 vM) pos) (zPar i j za):=
 (LY hc hN hi hj nr hx hy ha hw hs).imp fun D σ H ⟨β,ρ,M,D',zr,h,r⟩=>⟨β,ρ,M,_,zr,h,fun ds M1 vs H1 x1 rs h1=>by
  revert h1
  split
  ·rename_i d e;intro h1;obtain⟨v,w,rfl,r1,r2⟩:=jm rs;exact⟨v,w,rfl,r.nx _ _ _ _ x1.ev (((zr.step x1).set i r1).set j r2) h1⟩
  ·exact fun h=>h.elim⟩
end
end L2
namespace L2
open PySem PySem.Spec PySem.W PyProof.Rows
section
variable {X:Cx}{Γ:Gz}
def OZ (_ j:Int):Prop:=0<j/\j.natAbs.log2<9000
theorem GZ:OpR X (binaryOp .FloorDiv) (rI OZ fun i j=>.int (i / j)):=HL fun i j _ _ _ _ _ hc q=>by
 have h1:(0:Int)<j:=hc.1;exact floordiv_int (by omega) (by rw[Int.fdiv_eq_ediv_of_nonneg i (by omega)];exact q) (.inl (PyProof.noPylong_of_log2 hc.2))
theorem Aa:fi Γ X (binaryOp .FloorDiv) (zIC OZ fun i j=>.int (i / j)):=⟨_,GZ,rV fun _ _ _ _ _=>.int _⟩
end
section
variable {P:ff}{w:hX}{A:rb}{E:ap->ba->Prop}{s:ba}
theorem Et {Q₁:ap->ba->Prop}(h:Q₁ (.ref s.heap.objs.size) {s with heap:=s.heap.push (sS w)}) :
  codeAny (model P w) A (.call (.builtin "set.__new__") ⟨[.type "set"],[]⟩) (wants Q₁ E) s :=by
 refine YO ?_;show wpAny _ A.in1 (do checkBuiltinCall "set.__new__" ⟨[.type "set"],[]⟩;again (.builtin "set.__new__" ⟨[.type "set"],[]⟩)) _ _ s
 refine ac (Yq F.newCall_set_0 (bi ⟨FS F.plain_set_new _,BN F.entry_set_new ?_⟩));rw[zw F.plain_set_new _];unfold ul.«set.__new__» ul.Frozenset.newClass;have kX:=sub_set_self;obtain⟨hp,g,d,tk,os⟩:=s;dsimp only;wp_walk
 refine XN (bi ?_);dsimp only;simp only[newObj];refine ac (wpAny_alloc (bi ?_));exact bi h
theorem Bw {Q:ap->ba->Prop}(h:Q (.ref s.heap.objs.size) {s with heap:=s.heap.push (sS w)}):wpAny (model P w) A (call (.type "set") []) Q E s :=by
 obtain⟨c,tl,W4⟩:=TM.mro;have WW:=TM.made;have kX:=TM.sub;refine YK (YO ?_);show wpAny _ _ (callAny (.type "set") _) _ _ _
 refine bi ⟨Code.quiet_builtin _ (by decide +kernel),BN F.entry_type_call ?_⟩
 rw[rb.under_plain (weight_type_call_type "set" [] []) rfl]
 have h1:=TM.notType;have h2:=TM.canCreate;have Xm:=F.typeCall_set_0;repeat (any_goals (first|assumption|wp_step))
 refine XB (Et (P:=P) (w:=w) (E:=E) (Q₁:=fun obj aw=>obj=.ref s.heap.objs.size/\aw={s with heap:=s.heap.push (sS w)}) ⟨rfl,rfl⟩) fun r aw hr=>?_
 cases r with
 |error e=>exact hr
 |ok fl=>
  cases fl with
  |ret obj=>
   obtain⟨rfl,rfl⟩:=hr;have hT:XU {s with heap:=s.heap.push (sS w)} (.ref s.heap.objs.size) "set" := ⟨_,ij _ rfl,rfl⟩
   have wx:=TM.init.lookup;have SD:=TM.init.bind (.ref s.heap.objs.size);repeat (any_goals (first|assumption|wp_step))
   refine XB (YS (R:=wants (fun r e8=>r=.none/\Q (.ref s.heap.objs.size) e8) E) TM.init.plain F.entry_set_init (check_set_init hT ?_)) fun Ur e8 By=>?_
   ·unfold ul.«set.__init__» noKeywords;wp_walk
    exact⟨rfl,h⟩
   ·cases Ur with
    |error e=>exact By
    |ok Rc=>
     cases Rc with
     |ret r=>
      obtain⟨rfl,hq⟩:=By;repeat (any_goals (first|assumption|wp_step))
     |_=>exact By.elim
  |_=>exact hr.elim
theorem Ky {h:ii}:h8 (intKind P w) (h.push (sS w)) h.objs.size []:=
 ⟨_,#[],0,_,ij _ rfl,⟨rfl,rfl,rfl⟩,rfl,by simp,by simp,Ba 0 0,.inl rfl,by show 0 * 5<7 * 3;decide⟩
theorem sr {h:ii}{a:ag}{xs:List (List Int×ag)}(x:h8 (intKind P w) h a xs):∃o,h.get? a=some o:=let ⟨o,_,_,_,e,_⟩:=x;⟨o,e⟩
theorem Eu {H:Hp}{h:ii}{a:ag}{ah:List (List Int×V)}(x:h8 (intKind P w) h a (ah.map fun x=>(x.1,jQ x.2))):ObjOk P w H h a (m9 P w a ah):=⟨x,sr x,fun h1 h2 y k=>y.bp k⟩
end
theorem xM {X:Cx}{pins:List (ag×lc)}{σ:St}{H:Hp}{s:ba}{a:ag}{ah:List (List Int×V)}(I:Inv X pins σ H s) (h:H a=some (m9 X.prog X.w a ah)):h8 (intKind X.prog X.w) s.heap a (ah.map fun x=>(x.1,jQ x.2)):=(I.hok a _ h).1
def sx (ks:List (List Int)):Mo:=.ts ks (ks.map eI)
section
variable {X:Cx}{Γ:Gz}{x:bv}{p pos:ww}
def Kz (P:ff) (w:hX):List V->Hp->VK->Prop:=fun xs H Q=>xs=[]/\∀l,H l=none->Q (.ref l) (upd H l (m9 P w l []))
theorem yI:cU X (.type "set") (Kz X.prog X.w) :=by
 intro pins s σ H xs us Q I r h;obtain⟨rfl,q⟩:=h;cases r;have kp:∀b o,s.heap.get? b=some o->(s.heap.push (sS X.w)).get? b=some o:=fun b o e=>br _ e
 exact Bw ⟨.ref s.heap.objs.size,_,I.laid (t':=s.toks) kp (ce _) (Eu Ky),rfl,q _ (I.hok.fresh (ce _))⟩
def zSetNew:aG:=fun _ M Q=>∀a,M a=none->Q (.ptr a) (az M a (sx []))
theorem Ew (hP:X.prog=Γ.P) (hw:X.w=Γ.w) (hg:Gl X "set") (hm:X.mg "set" = none):QE Γ X (.Call (.Name "set" p) [] [] pos) zSetNew:=
 (Ax yI hg hm Nt).imp fun σ H Q ⟨β,ρ,M,Q',zr,h,q⟩=>⟨rfl,fun l hl=>by
  have m:=zr.mz;have fz:=m.fz hl;have x2:Ex β M H (az M l (sx [])) (upd H l (m9 X.prog X.w l [])):=Ex.k4 m (.inr hl) rfl ⟨[],by rw[av,hP,hw,zr.eP,zr.ew];rfl,rfl,rfl,fun i v d a b=>by simp at a⟩
  exact q _ _ _ _ x2 (.ptr (by rw[updM_same];rfl)) (h l fz.1)⟩
end
def o5 (ah:List (List Int×V)) (k:List Int) (v:V):List (List Int×V):=if k∈ah.map (·.1) then ah else ah++[(k,v)]
def TupAt (H:Hp) (q:List Int×V):Prop:=∃b,q.2=.ref b/\H b=some (.tup (q.1.map V.int))
theorem sy {P:ff}{w:hX}:∀{ns:List Int}{its:List ap},Vals (ns.map V.int) its->ItemsAre (intKind P w) ns its
 | [],_,h=>by cases h;exact .nil
 |n::ns,_,h=>by
          cases h with
          |cons r h=>
           obtain⟨t,rfl⟩:=r;exact .cons (intKind_is _ _ _ _) (sy h)
section
variable {X:Cx}{Γ:Gz}
theorem Ab {pins:List (ag×lc)}{σ:St}{H:Hp}{s:ba}{b:ag}{ns:List Int}(I:Inv X pins σ H s) (h:H b=some (.tup (ns.map V.int))):Mc (intKind X.prog X.w) s.heap ns b :=by
 obtain⟨z,its,r,o,e,c,n,d,_⟩:=I.hok b _ h;exact⟨o,its.toArray,n,e,c,d,by simpa using sy r⟩
theorem Ez {pins:List (ag×lc)}{σ:St}{H:Hp}{s:ba}{a b:ag}{ah:List (List Int×V)}{k:List Int}{Q:VK}(I:Inv X pins σ H s) (hu:X.A.units+64<cLine) (ha:H a=some (m9 X.prog X.w a ah)) (hb:H b=some (.tup (k.map V.int))) (hk:∀q∈ah,TupAt H q) (hl:ah.length<9)
  (q:Q .ao (upd H a (m9 X.prog X.w a (o5 ah k (.ref b))))):wpAny (model X.prog X.w) X.A (call (.builtin "set.add") [.ref a,.ref b]) (EP X pins σ Q) X.xe s :=by
 have hS:=xM I ha;obtain⟨o,es,ep,t,ho,hex,_⟩:=id hS;have hT:s.TypeIs (.ref a) "set" := ⟨o,ho,hex.1⟩
 refine u8 F.slot_set_add hT F.entry_set_add ?_ (F.args_set_add_2 _ _);unfold ul.«set.add» ul.Frozenset.oneOther;simp only[List.isEmpty_nil,bind_assoc];unfold ul.Frozenset.addrOf;refine ac (bi ?_);try dsimp only
 refine ac (bi ?_);try dsimp only
 refine ac (Bd (knd:=intKind X.prog X.w) (by show X.A.units+_<_;omega) hS (Ab I hb) (fun x hx=>?_) (by rw[ci];exact hl) fun h' ra m5=>?_)
 ·obtain⟨y,hy,rfl⟩:=l6.mp hx;obtain⟨c,e,hc⟩:=hk y hy;rw[e];exact Ab I hc
 ·show wpAny _ _ (ret wE) _ _ _;have SG:h8 (intKind X.prog X.w) h' a ((o5 ah k (.ref b)).map fun x=>(x.1,jQ x.2)) :=by
   have e1:(ah.map fun x=>(x.1,jQ x.2)).map (·.1)=ah.map (·.1) :=by rw[wv];rfl
   unfold wR at m5;unfold o5;rw[e1]at m5;by_cases z:k∈ah.map (·.1)
   ·rw[if_pos z]at m5 ⊢;exact m5
   ·rw[if_neg z]at m5 ⊢;rw[xw];exact m5
  have I9:=I.write (x:=a) (e:=a) (t':=s.toks+(k.length+1)) (by rw[ha];exact trivial) (.inl rfl) (fun b u hb hu=>(ra.2 b hb).trans hu) (sr SG) (Eu SG)
  exact bi ⟨_,rfl,.ao,_,I9,rfl,q⟩
def IX (X:Cx):V->List V->Hp->VK->Prop:=fun x ys H Q=>∃a b ah k,x=.ref a/\ys=[.ref b]/\H a=some (m9 X.prog X.w a ah)/\H b=some (.tup (k.map V.int))/\(∀q∈ah,TupAt H q)/\ah.length<9/\Q .ao (upd H a (m9 X.prog X.w a (o5 ah k (.ref b))))
theorem KA (hu:X.A.units+64<cLine):CF X "set.add" (IX X) :=by
 intro pins s σ H x ys v us Q I rx ry h;obtain⟨a,b,ah,k,rfl,rfl,ha,hb,hk,hl,q⟩:=h;cases rx;obtain⟨u,rfl,r⟩:=ry.one;cases r;exact Ez I hu ha hb hk hl q
variable {o e:dL}{to:TE}{te:TA}{apos aM:ww}{po:aG}{pa:dm}
theorem KC (hu:X.A.units+64<cLine) (ho:PE X o to) (ha:PA X [e] te) (ja:attributeBase o "add" X.env (eval o X.env)=eval o X.env :=by rfl)
  (lM:((backTo aM (starEach [e] X.env)).all (fun x => !x.1) && (backToKw aM (keywordEach [] X.env)).all (fun x=>x.1.isSome)
   && decide ([e].length+([]:List SI).length+(if ([]:List SI).isEmpty then 0 else 1)<30))=true :=by rfl)
  (hline:(apos.endLine==aM.line)=true :=by rfl) (hs:starEach [e] X.env=(false,eval e X.env)::starEach [] X.env :=by rfl) (gH:(backTo aM (starEach [] X.env)).any (·.1)=false :=by rfl) :
  PE X (.Call (.Attribute o "add" apos) [e] [] aM) (fun σ H Q=>to σ H fun x H1=>(∃a ah,x=.ref a/\H1 a=some (m9 X.prog X.w a ah))/\te σ H1 fun ys H2=>IX X x ys H2 Q) :=by
 refine⟨?_⟩;intro pins s σ H Q I h;refine wpAny_Call_method_late ja lM hline rfl (thn (ho pins s σ H _ I h) fun v s1 ⟨x,H1,I1,r1,⟨a,ah,ex,rj⟩,q1⟩=>?_)
 subst ex;cases r1;obtain⟨ob,es,ep,t,zf,hex,_⟩:=xM I1 rj;refine⟨"set","set.add",F.plainAttrs_set,F.slot_set_add,F.type_set_add,⟨ob,zf,hex.1⟩,fun c ec=>?_,?_⟩
 ·cases ec;exact⟨ob,zf,hex.2.1⟩
 ·have hA:=ha aM pins s1 σ H1 _ I1 q1;rw[hs]at hA ⊢;refine Calls.callWith_builtin (by show (false || (backTo aM (starEach [] X.env)).any (·.1))=false;rw[gH]<;>rfl) (YM ?_)
  exact thn hA fun us s2 ⟨vs,H2,I2,r2,q2⟩=>KA hu pins s2 σ H2 (.ref a) vs (.ref a) us Q I2 rfl r2 q2
def eR (ks:List (List Int)) (k:List Int):List (List Int):=if k∈ks then ks else ks++[k]
def zAddT (po:aG) (pa:dm):aG:=fun ρ M Q=>po ρ M fun d M1=>∃a,d=.ptr a/\(∃ks,M1 a=some (sx ks))/\pa ρ M1 fun es M2=>∃ks k,es=[eI k]/\M2 a=some (sx ks)/\ks.length<9/\Q .ao (az M2 a (sx (eR ks k)))
theorem KD (hP:X.prog=Γ.P) (hw:X.w=Γ.w) (hu:X.A.units+64<cLine) (ho:QE Γ X o po) (ha:QA Γ X [e] pa) (ja:attributeBase o "add" X.env (eval o X.env)=eval o X.env :=by rfl)
  (lM:((backTo aM (starEach [e] X.env)).all (fun x => !x.1) && (backToKw aM (keywordEach [] X.env)).all (fun x=>x.1.isSome)
   && decide ([e].length+([]:List SI).length+(if ([]:List SI).isEmpty then 0 else 1)<30))=true :=by rfl)
  (hline:(apos.endLine==aM.line)=true :=by rfl) (hs:starEach [e] X.env=(false,eval e X.env)::starEach [] X.env :=by rfl) (gH:(backTo aM (starEach [] X.env)).any (·.1)=false :=by rfl) :
  QE Γ X (.Call (.Attribute o "add" apos) [e] [] aM) (zAddT po pa):=
 (KC hu ho ha ja lM hline hs gH).imp fun σ H Q ⟨β,ρ,M,Q',zr,h,q⟩=>⟨β,ρ,M,_,zr,h,fun d M1 v H1 x1 r1 h1=>by
  obtain⟨a,rfl,⟨Xn,NT⟩,h2⟩:=h1;obtain⟨rfl,Xo⟩:=bO r1;have m1:=x1.mz;obtain⟨Dp,V9,_⟩:=m1.obj a _ NT;refine⟨⟨a,_,rfl,by rw[hP,hw,<- zr.eP,<- zr.ew];exact V9⟩,β,ρ,M1,_,zr.step x1,h2,fun es M2 ys H2 x2 r2 h3=>?_⟩
  obtain⟨ks,k,rfl,uS,hl,hq⟩:=h3;have m2:=x2.mz;obtain⟨vs,hv,xN,rs⟩:=m2.obj a _ uS;obtain⟨y,rfl,ry⟩:=dh r2;obtain⟨b,us,rfl,_,hb,EA⟩:=bu ry;have:=fZ EA;subst this;have each:∀q∈ks.zip vs,TupAt H2 q:=fun q hq=>by
   obtain⟨i,hi⟩:=qr.mp hq;obtain⟨e1,e2⟩:=xz.mp hi;have:=rs.at' i q.2 (eI q.1) e2 (by rw[db,e1];rfl)
   obtain⟨c,us,ec,_,hc,EA⟩:=bu this;have:=fZ EA;subst this;exact⟨c,ec,hc⟩
  refine⟨a,b,ks.zip vs,k,rfl,rfl,by rw[hP,hw,<- zr.eP,<- zr.ew];exact hv,hb,each,by rw[PM];omega,?_⟩
  have kf:(ks.zip vs).map (·.1)=ks:=List.map_fst_zip (by omega)
  have IY:(M2 a).isSome=true :=by rw[uS];rfl
  have x3:Ex β M2 H2 (az M2 a (sx (eR ks k))) (upd H2 a (m9 X.prog X.w a (o5 (ks.zip vs) k (.ref b)))) :=by
   have rl:=rs.len;rw[ci]at rl;unfold eR o5;rw[kf];by_cases z:k∈ks
   ·rw[if_pos z,if_pos z];exact Ex.k4 m2 (.inl IY) rfl ⟨vs,by rw[av,hP,hw,zr.eP,zr.ew],xN,rs.len,fun i v d a b=>gO (.inl IY) (rs.at' i v d a b)⟩
   ·rw[if_neg z,if_neg z];have cP:aD β M2 H2 (vs++[V.ref b]) ((ks++[k]).map eI) :=by
     rw[xw];exact rs.snoc ry
    exact Ex.k4 m2 (.inl IY) rfl ⟨vs++[.ref b],by rw[av,hP,hw,zr.eP,zr.ew,YT (by omega)];rfl,by simp[xN],cP.len,fun i v d a b=>gO (.inl IY) (cP.at' i v d a b)⟩
  exact q _ _ _ _ (x1.trans (x2.trans x3)) .ao hq⟩
end
section
variable {P:ff}{w:hX}{A:rb}{E:ap->ba->Prop}{s:ba}
theorem xO {a:ap}{C:List ap->List (List Int)->Prop}{Q:ap->ba->Prop}
  (F9:∀QL:List ap->ba->Prop,(∀us rows h' d' tk,C us rows->(∀b o,s.heap.get? b=some o->h'.get? b=some o)->QL us {s with heap:=h',drawn:=d',toks:=tk})->wpAny (model P w) A.in1 (collect a) QL E s)
  (hr:∀us rows,C us rows->AM (fun v r=>fP s.heap v r) us rows/\us.length<64)
  (h:∀(us:List ap) (rows:List (List Int)) (h1 h':ii) d' tk (is:List Nat) e,C us rows->(∀i∈is,i<us.length)->(is.map fun i=>rows.getD i [])=jg rows->(∀b o,s.heap.get? b=some o->h1.get? b=some o)->(∀b o,h1.get? b=some o->h'.get? b=some o)->h'.get? h1.objs.size=some {cls:=.type "list",data:=.seq (is.map fun i=>us.getD i wE).toArray e}->Q (.ref h1.objs.size) {s with heap:=h',drawn:=d',toks:=tk}) :
  wpAny (model P w) A (call (.builtin "sorted") [a]) Q E s :=by
 refine Calls.call_function_entry kind_sorted plain_sorted entry_sorted (args_sorted1 _) ?_;unfold ul.«sorted»;refine ac (m:=checkCount "sorted" 1 1 _) (bi ?_)
 refine ac (F9 _ fun us rows h' d' tk hC hk=>?_)
 obtain⟨Ac,m6⟩:=hr us rows hC;refine ac (Zi ?_ (hsz:=v6 (OR m6) (by decide)))
 have qQ:(h'.push (seqObj "list" us.toArray 0)).get? h'.objs.size=some (seqObj "list" us.toArray 0):=ij _ rfl
 have IV:AM (fun v r=>fP (h'.push (seqObj "list" us.toArray 0)) v r) us rows:=AM.imp' (fun v r t=>by
  obtain⟨b,o,xs,n,rfl,ho,z⟩:=t;exact⟨b,o,xs,n,rfl,br _ (hk _ _ ho),z⟩) Ac
 have hl:=P3 Ac;refine ac (xL (u8 slot_list_sort ⟨_,qQ,rfl⟩ entry_list_sort (tK qQ IV m6 fun p hp ha=>⟨_,rfl,?_⟩) (args_list_sort _)))
 refine bi ⟨_,rfl,?_⟩;obtain⟨e,he⟩:=sortedHeap_at (out:=TD (p.toList.map fun i=>us.getD i wE)) qQ
 refine h us rows h' _ d' _ p.toList e hC (fun i hi=>?_) (xK ?_ ?_) hk (fun b o hb=>?_) he
 ·have:=hp.pm.mem_iff.mp hi;exact u4.mp this
 ·have q:=hp.pm.map fun i=>rows.getD i []
  refine q.trans (SC.of_eq ?_);rw[hl];refine ZE (by simp) fun i h1 h2=>?_
  simp only[List.getElem_map,Zd];rw[c8,ar h2];rfl
 ·rw[List.pairwise_iff_getElem];intro i j hi hj nr;simp only[ci,jp]at hi hj;have hsz:=hp.sz;have:=ha i j (OR nr) (by omega)
  simp only[List.getElem_map,Array.getElem_toList];have e1:p.getD i 0=p[i] :=by simp[NH,hi]
  have e2:p.getD j 0=p[j] :=by simp[NH,hj]
  rw[e1,e2]at this;exact this
 ·have aO:=io hb;rw[sortedHeap_old (l5 aO) (by rw[Nd];exact GM aO)]
  exact br _ hb
end
theorem sA {α β γ:Type}{R:β->γ->Prop}(f:α->β) (g:α->γ):∀{l:List α},(∀x∈l,R (f x) (g x))->AM R (l.map f) (l.map g)
 | [],_=>.nil
 |x::l,h=>.cons (h x i4) (sA f g fun y hy=>h y (f8 _ hy))
theorem EB {α β:Type}(f:α->β):∀{us:List β}{l:List α},us.Perm (l.map f)->∃l':List α,l'.Perm l/\us=l'.map f:=fun {us l} h=>by
 have key:∀(us vs:List β),us.Perm vs->∀l:List α,vs=l.map f->∃l':List α,l'.Perm l/\us=l'.map f:=fun us vs p=>by
  induction p with
  |nil=>intro l e;exact⟨l,.refl _,e⟩
  |cons x p ih=>
   intro l e;cases l with
   |nil=>cases e
   |cons a l=>
    cases e;obtain⟨l',p',e'⟩:=ih l rfl;exact⟨a::l',p'.cons a,by rw[e'];rfl⟩
  |swap x y l0=>
   intro l e;match l,e with
   |a::b::l,e=>
    cases e;exact⟨b::a::l,.swap ..,rfl⟩
  |trans p1 p2 Wa Wb=>
   intro l e;obtain⟨l2,q2,e2⟩:=Wb l e;obtain⟨l1,q1,e1⟩:=Wa l2 e2;exact⟨l1,q1.trans q2,e1⟩
 exact key us _ h l rfl
def KG (X:Cx):List V->Hp->VK->Prop:=fun xs H Q=>∃p ah,xs=[.ref p]/\H p=some (m9 X.prog X.w p ah)/\(∀q∈ah,TupAt H q/\q.1≠[])/\ah.length<64 /\
 ∀l (oq:List (List Int×V)),H l=none->(∀q∈oq,q∈ah)->oq.map (·.1)=jg (ah.map (·.1))->Q (.ref l) (upd H l (.lst (oq.map (·.2))))
section
variable {X:Cx}{Γ:Gz}
theorem yJ (hc:X.calm=true):cU X (.builtin "sorted") (KG X) :=by
 intro pins s σ H xs us Q I r h;obtain⟨p,ah,rfl,hp,eQ,m6,q⟩:=h;obtain⟨u,rfl,rx⟩:=vals1 r;cases rx;have hh:=I.ok.hd hc;have hsz:sizeLine=16777216:=Lo;obtain⟨o,es,ep,t,ho,hex,hd,SH,hn,g,hm,hl⟩:=xM I hp;have hlen:es.size=ah.length :=by rw[<- jp,SH.length_eq,ci,ci]
 have ra:scanBound=4096:=rfl;have ev:es.toList.map (·.2) |>.Perm (ah.map fun x=>li (jQ x.2)) :=by
  have:=SH.map (·.2);rw[wv,wv]at this;exact this
 refine xO (C:=fun us rows=>∃gD:List (List Int×V),gD.Perm ah/\us=gD.map (fun x=>li (jQ x.2))/\rows=gD.map (·.1)) (fun QL C8=>?_) (fun us rows hC=>?_) fun us rows h1 h' d' tk is e hC hi hs k1 k2 he=>?_
 ·refine wV (by simp[hh]) ho hex hd (by omega) g.fits g.ok (by omega) fun us h' d' tk Wc hk=>?_
  obtain⟨gD,q2,e2⟩:=EB (fun x:List Int×V=>li (jQ x.2)) (Wc.trans ev)
  exact C8 us _ h' d' tk ⟨gD,q2,e2,rfl⟩ hk
 ·obtain⟨gD,q2,rfl,rfl⟩:=hC;refine⟨sA _ _ fun x hx=>?_,by rw[ci,q2.length_eq];exact m6⟩
  obtain⟨⟨b,e,hb⟩,cJ⟩:=eQ x (q2.mem_iff.mp hx);obtain⟨ts,rt,⟨ob,zf,gu,n,OD⟩,_⟩:=I.tuple (.inl (.inl hb));rw[e];exact⟨b,ob,_,n,rfl,zf,gu,OD,oM rt,cJ⟩
 ·obtain⟨gD,q2,rfl,rfl⟩:=hC;rw[ci]at hi;have I1:Inv X pins σ H {s with heap:=h1,drawn:=d'}:=(I.kept (t':=s.toks) k1).jG ⟨rfl,rfl,I.bare.self⟩
  have IZ:=congrArg List.length hs;rw[ci,(ft _).length_eq,ci,q2.length_eq]at IZ;have gd:∀i∈is,gD[i]?=some (gD.getD i ([],.ao)):=fun i hx=>by
   have:=hi i hx;rw[c8,ar this];rfl
  have mem:∀i∈is,gD.getD i ([],.ao)∈ah:=fun i hx=>q2.mem_iff.mp (lp (gd i hx))
  have ob:ObjOk X.prog X.w (upd H h1.objs.size (.lst ((is.map fun i=>gD.getD i ([],.ao)).map (·.2)))) h' h1.objs.size (.lst ((is.map fun i=>gD.getD i ([],.ao)).map (·.2))) :=by
   refine⟨by rw[ci,ci];omega,_,e,?_,he⟩
   clear he hs IZ
   induction is with
   |nil=>exact .nil
   |cons i is ih=>
    refine .cons ?_ (ih (fun j hj=>hi j (f8 _ hj)) (fun j hj=>gd j (f8 _ hj)) fun j hj=>mem j (f8 _ hj))
    have g1:=gd i i4;obtain⟨⟨b,e1,_⟩,_⟩:=eQ _ (mem i i4);have e2:(gD.map fun x=>li (jQ x.2)).getD i wE=.ref (jQ (gD.getD i ([],.ao)).2) :=by
     rw[c8,db,g1];rfl
    show RelV (gD.getD i ([],.ao)).2 ((gD.map fun x=>li (jQ x.2)).getD i wE)
    rw[e2,e1];rfl
  have eq1:(is.map fun i=>gD.getD i ([],.ao)).map (·.1)=jg (ah.map (·.1)) :=by
   have e3:(is.map fun i=>gD.getD i ([],.ao)).map (·.1)=is.map fun i=>(gD.map (·.1)).getD i [] :=by
    rw[wv];refine YY fun i hx=>?_
    show (gD.getD i ([],.ao)).1=_;rw[c8 (l:=List.map _ _),db,gd i hx];rfl
   rw[e3,hs];exact xK ((ft _).trans (q2.map _)) (xJ _)
  exact⟨.ref h1.objs.size,_,I1.laid (t':=tk) k2 (ce _) ob,rfl,q _ _ (I1.hok.fresh (ce _)) (fun z hz=>by obtain⟨i,hx,rfl⟩:=l6.mp hz;exact mem i hx) eq1⟩
def zSortTS (d:Dv) (M:Mh) (Q:ZK):Prop:=∃a ks,d=.ptr a/\M a=some (sx ks)/\ks.length<64/\(∀r∈ks,r≠[])/\Q (.lst ((jg ks).map eI)) M
theorem G0 (hP:X.prog=Γ.P) (hw:X.w=Γ.w) (hc:X.calm=true):fS Γ X (.builtin "sorted") (z1 zSortTS):=⟨_,yJ hc,fun β xs ds M H Q Q' eP ew _ m rs z q=>by
 unfold z1 at z;split at z
 ·rename_i d;obtain⟨x,rfl,r⟩:=dh rs;obtain⟨a,ks,rfl,hM,m6,cJ,hq⟩:=z;obtain⟨rfl,hs⟩:=bO r;obtain⟨vs,hv,xN,cP⟩:=m.obj a _ hM;have kf:(ks.zip vs).map (·.1)=ks:=List.map_fst_zip (by omega)
  have each:∀q∈ks.zip vs,Rz β M H q.2 (eI q.1):=fun q hq=>by
   obtain⟨i,hi⟩:=qr.mp hq;obtain⟨e1,e2⟩:=xz.mp hi;exact cP.at' i q.2 (eI q.1) e2 (by rw[db,e1];rfl)
  refine⟨a,ks.zip vs,rfl,by rw[hP,hw,<- eP,<- ew];exact hv,fun q hq=>⟨?_,?_⟩,by rw[PM];omega,fun l oq hl kX mX=>?_⟩
  ·obtain⟨c,us,ec,_,hc,EA⟩:=bu (each q hq);have:=fZ EA;subst this;exact⟨c,ec,hc⟩
  ·exact cJ _ (by rw[<- kf];exact l6.mpr ⟨q,hq,rfl⟩)
  ·rw[kf]at mX;have x2:=Ex.lay m hl (.lst (oq.map (·.2)));have rk:aD β M H (oq.map (·.2)) ((oq.map (·.1)).map eI) :=by
    clear mX x2
    induction oq with
    |nil=>exact .nil
    |cons z l ih=>exact .cons (each z (kX z i4)) (ih fun y hy=>kX y (f8 _ hy))
   rw[mX]at rk;exact q _ _ _ _ x2 (wX (m.fz hl) av (rk.ex x2)) hq
 ·exact z.elim⟩
theorem KH:RO X .Mult (fun x y H Q=>∃i j:Int,x=.int i/\y=.int j/\sM i j/\Q (.int (i * j)) H) :=by
 intro pins s σ H x y v u Q I r1 r2 h;obtain⟨i,j,e1,e2,hc,q⟩:=h;subst e1;subst e2;obtain⟨t,rfl⟩:=r1;obtain⟨t',rfl⟩:=r2;exact imul_int ⟨.int _,H,I.tok _,⟨_,rfl⟩,q⟩ hc.ok
def zAugM (i:Nat) (p:aG):bT:=fun D ρ M=>∃x:Int,ρ[i]?=some (some (.int x))/\p ρ M fun d M1=>∃y:Int,d=.int y/\sM x y/\D.nx (ρ.set i (some (.int (x * y)))) M1
theorem KI {i:Nat}{x:bv}{e:dL}{pe:aG}{pos' pos:ww}(hN:X.N.Nodup) (hi:X.N[i]?=some x) (hx:Loc X.env.scope x) (he:QE Γ X e pe) (hf:X.fn x=true\/X.env.scope.names.lookup x=some .local :=by first|exact .inl rfl|exact .inr rfl|assumption) :
  QS Γ X (.AugAssign (.Name x pos') .Mult e pos) (zAugM i pe):=(LZ hN hi hx he KH hf).imp fun D σ H h=>by
 obtain⟨β,ρ,M,D',zr,⟨x,hx,h⟩,r⟩:=h;obtain⟨v,hv,rv⟩:=zr.at' i _ hx;have:=aS rv;subst this;refine⟨_,hv,β,ρ,M,_,zr,h,fun d M1 v H1 x1 r1 h1=>?_⟩
 obtain⟨y,rfl,hc,hn⟩:=h1;have:=aS r1;subst this;exact⟨_,_,rfl,rfl,hc,r.nx _ _ _ _ x1.ev ((zr.step x1).set i (.int _)) hn⟩
end
def tL (CX:fD) (X:Cx) (E:St->XK):Prop:=∀(pins:List (ag×lc)) (σ:St) (H:Hp) (s:ba) (e:ap) (s':ba),Inv X pins σ H s->CX X.stack H s (E σ) e s'->X.xe e s'
def O1 (sp:Sp) (E:St->XK) (t:TA):TE:=fun σ H Q=>t σ H fun vs H1=>sp (vs++[]) H1 Q (E σ)
section
variable {X:Cx}{CX:fD}{k:Nat}{f:ag}{fd:mf}{ps:List bv}{sp:Sp}{E:St->XK}{x:bv}{p pos:ww}{e:dL}{es:List dL}{t:TA}
theorem G1 (F:FnOk X.prog X.w X.K X.mg X.base CX k f fd ps sp) (hr:bh k X.A) (hg:Gl X x) (hm:X.mg x=some (.ref f)) (hk:Cc X.K (.ref f)=true) (hb:Binds X.K fd ps []) (hx:tL CX X E)
  (ha:PA X (e::es) t) (cZ:(x==("__debug__" : bv))=false :=by decide) (he:starEach (e::es) X.env=(false,eval e X.env)::starEach es X.env :=by rfl) (bM:(backTo pos (starEach es X.env)).any (·.1)=false :=by rfl) :
  PE X (.Call (.Name x p) (e::es) [] pos) (O1 sp E t) :=by
 refine⟨?_⟩;intro pins s σ H Q I h;refine B0 (jl I hg hm ?_ cZ);refine Zb (h₀:=X.base) I.ok.mod.kin hk (thn (ha pos pins s σ H _ I h) fun us s1 ⟨vs,H1,I1,r,q⟩=>⟨I1.ez,?_⟩) he bM
 have r2:Vals (vs++[]) (us++[]):=r.append .nil;have hl:(us++[]).length=ps.length :=by rw[<- r2.length];exact F.len _ _ _ _ q
 refine YK (XB (F.run X.A X.stack s1 H1 ⟨us,[]⟩ (us++[]) (vs++[]) Q (E σ) hr I1.Mu (hb s1 us I1.ez hl) r2 q) fun r s' hq=>?_)
 cases r with
 |error e=>exact hx pins σ H1 s1 e s' I1 hq
 |ok fl=>
  cases fl with
  |ret u=>exact I1.after hq
  |next=>exact DO hq
  |brk=>exact DO hq
  |cont=>exact DO hq
end
def Ja (K:Frag) (C0:ag) (i n:Nat) (th:TS) (D:Ends) (σ:St):XK:=fun cls _ H'=>∃C,cls=.ref C/\subIn K (.ref C) (.ref C0)=some true/\∀a,H' a=none->
 th {nx:=fun _ H2=>D.nx (blank n) H2,rt:=D.rt,bk:=fun _ H2=>D.bk (blank n) H2,ct:=fun _ H2=>D.ct (blank n) H2} (σ.set i (some (.ref a))) (upd H' a (p8 C a))
def Rf (K:Frag) (C0:ag) (i n:Nat) (tb:(St->XK)->TS) (th:TS):TS:=fun D σ H=>tb (Ja K C0 i n th D) D σ H
section
variable {X:Cx}{body suite:List ut}{x n:bv}{i:Nat}{np xP pos:ww}{tM:ut}{C0:ag}{tb:(St->XK)->TS}{th:TS}
theorem KJ (hN:X.N.Nodup) (hi:X.N[i]?=some n) (hl:X.env.scope.names.lookup n=some .local) (g8:X.stack=X.env::X.outer/\X.env.frame=some X.env.locals) (hex:X.ex=[]) (O:ky X.K C0) (hg:Gl X x) (hm:X.mg x=some (.ref C0))
  (hb:∀(T:ap->ba->Prop) (pn:List (ag×lc)) (E:St->XK),tL (dj X.prog X.w) (X.hZ T pn) E->eZ (X.hZ T pn) body (tb E)) (hs:∀a:ag,eZ (X.suite a) (tM::suite) th)
  (cZ:(x==("__debug__" : bv))=false :=by decide) :
  PS X (.Try body [.ExceptHandler (some (.Name x np)) (some n) (tM::suite) xP] [] [] pos) (Rf X.K C0 i X.N.length tb th) :=by
 refine⟨fun pins s σ H D I h=>?_⟩
 refine wpAny_Try_except ?_;have hp:tL (dj X.prog X.w) (X.hZ (fun e aw=>wpAny (model X.prog X.w) X.A (noteFrame e X.env) (fun _ e8=>wpAny (model X.prog X.w) X.A (setFlight e none) (fun _ kU=>wpAny (model X.prog X.w) X.A (handleBy e X.env [.ExceptHandler (some (.Name x np)) (some n) (tM::suite) xP]) (SP X pins D) X.xe kU) X.xe e8) X.xe aw) (X.pn++pins)) (Ja X.K C0 i X.N.length th D) :=by
  intro pins' nq H1 s1 e s' J1 Wd;obtain⟨a,C,t,B,H',rfl,os,gn,fl,c1,c2,un,hok,C',ec,kX,q⟩:=Wd;cases ec;have I1:=J1.nO;have I':=I1.vp (ch:=[]) os un hok gn (fun b z=>absurd z (by simp))
  have fr:X.A.frames=some (X.env::X.outer):=I.ok.frames.trans (congrArg some g8.1);have Ib:ii.FlyingW B (X.env::X.outer) a (.ref C) (.ref t) s'.heap:=g8.1▸fl;refine wpAny_looks_onW fr g8.2 Ib fun h4 held SJ=>?_
  refine wpAny_landsW held fun h5 O3 SK=>?_
  have I5:=I1.Ia I' c1 c2 fl.1 O3.1 (SJ.trans SK);have Y5:=I5.suite a;have We:ExcAt C a h5:=let ⟨oe,vs,e1,e2,e3,_⟩:=O3.first;⟨oe,vs,e1,e2,e3⟩;refine wpAny_handleBy_cons (codeAny_handlers_test (jl Y5 hg hm (Dc Y5.ez O kX We ?_) cZ)) (fun z=>nomatch z)
  refine codeAny_handlers_suite_as (lands_againW O3 fun h6 SM Wg=>?_)
  have I6:=I1.Ia I' c1 c2 fl.1 SM.1 ((SJ.trans SK).trans Wg);have SN:ExcAt C a h6:=let ⟨oe,vs,e1,e2,e3,_⟩:=SM.first;⟨oe,vs,e1,e2,e3⟩;obtain⟨oe,vs,e1,e2,e3⟩:=id SN;have Wh:a ∉ dS X.stack:=fun z=>by
   obtain⟨_,o2,q1,q2⟩:=I6.stack.mem z;rw[e1]at q1;cases q1;exact q2 _ e3
  have nb:∀o,s1.heap.get? a≠some o:=fun o z=>by
   obtain⟨o',z'⟩:=c1 a o z Wh;rw[fl.2.1]at z';cases z'
  have nH:H' a=none :=by
   cases z:H' a with
   |none=>rfl
   |some u=>
    obtain⟨o',z'⟩:=c2 a u z;rw[fl.2.1]at z';cases z'
  have nL:a≠X.env.locals:=fun z=>by
   obtain⟨m,⟨o,es,ep,ho,hd,_⟩,_⟩:=I6.loc;rw[<- z,e1]at ho;cases ho;rw[e3]at hd;cases hd
  have I7:Inv X pins nq (upd H' a (p8 C a)) {s' with heap:=h6}:=I6.Ic nH
   (by
    cases z:X.s₀.heap.get? a with
    |none=>rfl
    |some o=>
     obtain⟨o1,q1⟩:=I1.base.there a o z (by rw[hex];simp)
     exact(nb _ q1).elim)
   nL
   (fun y c ec z=>by
    obtain⟨v,o,ho,hd⟩:=I6.cell y c ec;rw[z,e1]at ho;cases ho;rw[e3]at hd;cases hd)
   (fun p hp z=>by
    have:=(I1.pin p hp).1;rw[z]at this;exact(nb _ this).elim)
   (JP SN)
  refine store_ok2 I7 hN hi (.inl hl) (v:=.ref a) rfl (fun s8 I8 _=>?_) (.inr hl)
  refine on ((hs a).run pins s8 _ _ _ (I8.suite a) (q a nH)) (fun f s9 r=>?_) (fun _ _ z=>z.elim)
  have fin:∀{Ad:St} {H9:Hp},Inv (X.suite a) pins Ad H9 s9->(∀Ae,Inv X pins (blank X.N.length) H9 Ae->SP X pins D f Ae)->wpAny (model X.prog X.w) X.A (do bindName X.env n .none;unbindBehindTheSuite X.env n xP) (fun _ Us=>SP X pins D f Us) X.xe s9:=fun {Ad H9} Y9 k=>by
   have I9:=Y9.JQ I.ok;obtain⟨m,hn,_⟩:=id I9.loc;exact wpAny_nameGoes hl hn (by rw[I.ok.kind];rfl) fun h' m' qP sb=>k _ (I9.lost qP sb)
  cases f with
  |next=>obtain⟨Ad,H9,Y9,z⟩:=r;exact fin Y9 fun Ae J=>⟨_,H9,J,z⟩
  |brk=>obtain⟨Ad,H9,Y9,z⟩:=r;exact fin Y9 fun Ae J=>⟨_,H9,J,z⟩
  |cont=>obtain⟨Ad,H9,Y9,z⟩:=r;exact fin Y9 fun Ae J=>⟨_,H9,J,z⟩
  |ret u=>obtain⟨v,Ad,H9,Y9,rv,z⟩:=r;exact fin Y9 fun Ae J=>⟨v,_,H9,J,rv,z⟩
 have bJ:=hb _ (X.pn++pins) _ hp;refine on (bJ.run [] s σ H D (I.hZ _) h) (fun f s1 q=>?_) (fun e s1 q=>q)
 have q2:SP X pins D f s1 :=by
  cases f with
  |next=>obtain⟨aF,H',J,z⟩:=q;exact⟨aF,H',J.nO,z⟩
  |brk=>obtain⟨aF,H',J,z⟩:=q;exact⟨aF,H',J.nO,z⟩
  |cont=>obtain⟨aF,H',J,z⟩:=q;exact⟨aF,H',J.nO,z⟩
  |ret u=>obtain⟨v,aF,H',J,r,z⟩:=q;exact⟨v,aF,H',J.nO,r,z⟩
 cases f with
 |next=>exact bi q2
 |_=>exact q2
end
def zTryS (K:bn) (C0:ag) (i n:Nat) (S:bX) (za:dm) (ph:bT):bT:=fun D ρ M=>za ρ M fun ds M1=>S ds M1 (fun _ M2=>D.nx ρ M2) fun C M'=>subIn K (.ref C) (.ref C0)=some true/\ph {D with nx:=fun _ M2=>D.nx (IT n none) M2,bk:=fun _ M2=>D.bk (IT n none) M2,ct:=fun _ M2=>D.ct (IT n none) M2} (ρ.set i (some (.exc C))) M'
section
variable {X:Cx}{Γ:Gz}{k:Nat}{f:ag}{fd:mf}{ps:List bv}{S:bX}{P:ff}{w:hX}{K:bn}{tb:b5}
theorem KL {suite:List ut}{x n g:bv}{i:Nat}{np xP pos p aM O4:ww}{tM:ut}{C0:ag}{e:dL}{es:List dL}{za:dm}{ph:bT}{nn:Nat}(Wi:X.N.length=nn) (hN:X.N.Nodup) (hi:X.N[i]?=some n) (hl:X.env.scope.names.lookup n=some .local) (g8:X.stack=X.env::X.outer/\X.env.frame=some X.env.locals) (hex:X.ex=[]) (O:ky X.K C0) (Wj:Gl X x) (Wk:X.mg x=some (.ref C0))
  (F:FnOk X.prog X.w X.K X.mg X.base (dj X.prog X.w) k f fd ps (aW P w K tb S)) (hr:bh k X.A) (hg:Gl X g) (hm:X.mg g=some (.ref f)) (hk:Cc X.K (.ref f)=true) (hb:Binds X.K fd ps []) (hP:P=Γ.P) (hw:w=Γ.w) (hK:K=Γ.K) (ht:tb=Γ.tb)
  (ha:∀(T:ap->ba->Prop) (pn:List (ag×lc)),QA Γ (X.hZ T pn) (e::es) za) (hs:∀a:ag,kD Γ (X.suite a) (tM::suite) ph)
  (cZ:(x==("__debug__" : bv))=false :=by decide) (Wl:(g==("__debug__" : bv))=false :=by decide) (he:∀(T:ap->ba->Prop) (pn:List (ag×lc)),starEach (e::es) (X.hZ T pn).env=(false,eval e (X.hZ T pn).env)::starEach es (X.hZ T pn).env :=by intros;rfl) (bM:∀(T:ap->ba->Prop) (pn:List (ag×lc)),(backTo aM (starEach es (X.hZ T pn).env)).any (·.1)=false :=by intros;rfl)
  (vZ:∀(T:ap->ba->Prop) (pn:List (ag×lc)),swapsWith (.Call (.Name g p) (e::es) [] aM) none O4.line (X.hZ T pn).env=pure false :=by intros;rfl) :
  QS Γ X (.Try [.Expr (.Call (.Name g p) (e::es) [] aM) O4] [.ExceptHandler (some (.Name x np)) (some n) (tM::suite) xP] [] [] pos) (zTryS X.K C0 i nn S za ph) :=by
 subst Wi;subst hP hw hK ht;refine(KJ (tb:=fun E=>_) hN hi hl g8 hex O Wj Wk (fun T pn E hp=>y1 (y2 (G1 F hr hg hm hk hb hp (ha T pn) Wl (he T pn) (bM T pn)) (vZ T pn))) hs cZ).imp fun D σ H ⟨β,ρ,M,D',zr,h,r⟩=>?_
 refine⟨β,ρ,M,_,zr,h,fun ds M1 vs H1 x1 r1 h1=>?_⟩
 show aW Γ.P Γ.w Γ.K Γ.tb S (vs++[]) H1 _ _;rw[Ch];refine⟨β,ds,M1,_,_,zr.eP,zr.ew,zr.eK,zr.et,x1.mz,r1,h1,fun d M2 v H2 x2 r2 h2=>r.nx ρ M2 σ H2 (x1.trans x2).ev (zr.step (x1.trans x2)) h2,fun C M' H' x2 hC=>?_⟩
 obtain⟨kX,Wm⟩:=hC;have x':=x1.trans x2;refine⟨C,rfl,kX,fun a ha=>?_⟩
 have x2:=Ex.lay x'.mz ha (p8 C a);have x3:=x'.trans x2;refine⟨β,_,M',_,(zr.step x3).set i (.exc (x'.mz.fz ha) av),Wm,?_⟩;have BA:∀{M2:Mh} {g9:aC} {kg:St} {H2:Hp},Zr Γ β M2 g9 kg H2->Zr Γ β M2 (IT X.N.length none) (blank X.N.length) H2:=fun z=>⟨z.eP,z.ew,z.eK,z.et,z.sub,z.wf,z.ent,z.mz,by simp[blank],fun j d e=>by
  rw[JJ]at e;split at e<;>cases e⟩
 exact⟨fun g9 M2 kg H2 y z h=>r.nx _ _ _ _ (x3.ev.trans y) (BA z) h,fun d M2 v H2 y e z h=>r.rt _ _ _ _ (x3.ev.trans y) e z h,fun g9 M2 kg H2 y z h=>r.bk _ _ _ _ (x3.ev.trans y) (BA z) h,fun g9 M2 kg H2 y z h=>r.ct _ _ _ _ (x3.ev.trans y) (BA z) h⟩
end
end L2
open PySem L2 PyProof.Rows
local macro_rules | `(tactic| simp! only[$xs,*] $[$l]?)=>`(tactic| simp only[zVar,zC,zOp,zII,zIC,zEq,zNe,scalZ,zIsN,isNonD,zSS,zTest,zBool,zChain,zAnd,zOr,zNot,zAndV,zOrV,zNotV,zIfE,zNil,zCons,zTup,zLst,zLstP,zCB,z1,zLenD,z2I,zAbs,zTuple,intsM,itemsM,zIsInst,isD,zBM,tyZ,zAppend,zPop,zPopAt,zSetI,zgSub,zNext,zSeq,zDrop,zRet,zIfS,zgName,zgNil,zgCons,zgTup,zAsg,zFor,zForM,zComp,zCompP,zTupG,zAll,zBlock,zCall,zRaise,zIsE,zstart,zEndsOf,ziTup,ziLst,ziRng1,ziEnumK,ziKeys,zoNone,zoSome,zSl,zSlT,zIx,zRangeP,zTruth,truD,zCatT,zNoIf,zGetR,zDIn,lookD,nowK,keyD,zDisp1K,zDisp1T,zDPut,zLenK,zIxS,zNever,zCountB,boolsD,zMinL,zSortedP,zCallL,zPar,zExtendT,zSetNew,zAddT,zSortTS,zAugM,zTryS,zRemI,zLtN,VT,Do,ss,Lu,X6,XS,AS,Pv,XZ,X0,WJ,WP,XQ,Zm,Zn,TW,ZJ,if_true,if_false,gc,LP,SO,true_and,and_true,beq_self_eq_true,YA,zLoop,ci,WE,updM_same,updM_updM,Ch,T0,uu,rangeD_len,pairsD_len,numD_len,LB,atI_zero,decide_true,decide_false,YB,bne_self_eq_false,$xs,*] $[$l]?)
local macro_rules | `(tactic| dsimp! only[$xs,*] $[$l]?)=>`(tactic| simp only[zVar,zC,zOp,zII,zIC,zEq,zNe,scalZ,zIsN,isNonD,zSS,zTest,zBool,zChain,zAnd,zOr,zNot,zAndV,zOrV,zNotV,zIfE,zNil,zCons,zTup,zLst,zLstP,zCB,z1,zLenD,z2I,zAbs,zTuple,intsM,itemsM,zIsInst,isD,zBM,tyZ,zAppend,zPop,zPopAt,zSetI,zgSub,zNext,zSeq,zDrop,zRet,zIfS,zgName,zgNil,zgCons,zgTup,zAsg,zFor,zForM,zComp,zCompP,zTupG,zAll,zBlock,zCall,zRaise,zIsE,zstart,zEndsOf,ziTup,ziLst,ziRng1,ziEnumK,ziKeys,zoNone,zoSome,zSl,zSlT,zIx,zRangeP,zTruth,truD,zCatT,zNoIf,zGetR,zDIn,lookD,nowK,keyD,zDisp1K,zDisp1T,zDPut,zLenK,zIxS,zNever,zCountB,boolsD,zMinL,zSortedP,zCallL,zPar,zExtendT,zSetNew,zAddT,zSortTS,zAugM,zTryS,zRemI,zLtN,VT,Do,ss,Lu,X6,XS,AS,Pv,XZ,X0,WJ,WP,XQ,Zm,Zn,TW,ZJ,if_true,if_false,gc,LP,SO,true_and,and_true,beq_self_eq_true,YA,ci,WE,updM_same,updM_updM,Ch,T0,uu,rangeD_len,pairsD_len,numD_len,LB,atI_zero,decide_true,decide_false,YB,bne_self_eq_false,$xs,*] $[$l]?)
namespace My
open PySem L2 PyProof.Rows
def top (i:Nat):ut:=PySem.Challenge.pw_roadcall_k55_counting_refused.main.body.getD i (.Pass ⟨0,0,0,0⟩)
abbrev fu:ut:=top 19
abbrev da:ut:=top 20
abbrev d9:ut:=top 21
abbrev j3:ut:=top 25
abbrev j4:ut:=top 26
abbrev gV:ut:=top 27
abbrev iy:ut:=top 30
abbrev aB:ut:=top 31
abbrev jo:ut:=top 32
abbrev eu:ut:=top 33
abbrev gW:ut:=top 34
abbrev lC:ut:=top 36
abbrev fv:ut:=top 44
abbrev jh:ut:=top 45
abbrev EC:ut:=top 46
abbrev dH:ut:=top 49
abbrev ji:ut:=top 52
abbrev eJ:ut:=top 53
abbrev gX:ut:=top 54
abbrev dC:ut:=top 55
abbrev fw:ut:=top 56
abbrev gY:ut:=top 57
abbrev BC:ut:=top 58
end My
local macro_rules | `(tactic| simp! only[$xs,*] $[$l]?)=>`(tactic| simp only[zVar,zC,zOp,zII,zIC,zEq,zNe,scalZ,zSS,zTest,zBool,zChain,zAnd,zOr,zNot,zAndV,zOrV,zNotV,zIfE,zNil,zCons,zTup,zLst,zLstP,zCB,z1,zLenD,z2I,zAbs,zTuple,intsM,itemsM,zIsInst,isD,zBM,tyZ,zAppend,zPopAt,zSetI,zgSub,zNext,zSeq,zDrop,zRet,zIfS,zgName,zgNil,zgCons,zgTup,zAsg,zFor,zComp,zCompP,zTupG,zAll,zBlock,zCall,zRaise,zIsE,zstart,zEndsOf,ziTup,ziLst,ziRng1,ziEnumK,ziKeys,zoNone,zoSome,zSl,zSlT,zIx,zRangeP,zTruth,truD,zCatT,zNoIf,zGetR,zDIn,lookD,nowK,keyD,zDisp1K,zDPut,zLenK,zIxS,zNever,zCountB,boolsD,zMinL,zSortedP,zCallL,zPar,zSetNew,zAddT,zSortTS,zAugM,zTryS,VT,Do,ss,Lu,X6,XS,AS,Pv,XZ,X0,WJ,WP,XQ,Zm,Zn,TW,ZJ,if_true,if_false,gc,LP,SO,true_and,and_true,beq_self_eq_true,YA,zLoop,ci,WE,updM_same,updM_updM,Ch,T0,uu,rangeD_len,pairsD_len,numD_len,LB,atI_zero,decide_true,decide_false,YB,bne_self_eq_false,$xs,*] $[$l]?)
local macro_rules | `(tactic| dsimp! only[$xs,*] $[$l]?)=>`(tactic| simp only[zVar,zC,zOp,zII,zIC,zEq,zNe,scalZ,zSS,zTest,zBool,zChain,zAnd,zOr,zNot,zAndV,zOrV,zNotV,zIfE,zNil,zCons,zTup,zLst,zLstP,zCB,z1,zLenD,z2I,zAbs,zTuple,intsM,itemsM,zIsInst,isD,zBM,tyZ,zAppend,zPopAt,zSetI,zgSub,zNext,zSeq,zDrop,zRet,zIfS,zgName,zgNil,zgCons,zgTup,zAsg,zFor,zComp,zCompP,zTupG,zAll,zBlock,zCall,zRaise,zIsE,zstart,zEndsOf,ziTup,ziLst,ziRng1,ziEnumK,ziKeys,zoNone,zoSome,zSl,zSlT,zIx,zRangeP,zTruth,truD,zCatT,zNoIf,zGetR,zDIn,lookD,nowK,keyD,zDisp1K,zDPut,zLenK,zIxS,zNever,zCountB,boolsD,zMinL,zSortedP,zCallL,zPar,zSetNew,zAddT,zSortTS,zAugM,zTryS,VT,Do,ss,Lu,X6,XS,AS,Pv,XZ,X0,WJ,WP,XQ,Zm,Zn,TW,ZJ,if_true,if_false,gc,LP,SO,true_and,and_true,beq_self_eq_true,YA,ci,WE,updM_same,updM_updM,Ch,T0,uu,rangeD_len,pairsD_len,numD_len,LB,atI_zero,decide_true,decide_false,YB,bne_self_eq_false,$xs,*] $[$l]?)
namespace My
open PySem L2 PyProof.Rows
section
variable {P:ff}{w:hX}{K:bn}{mg:bv->Option ap}{base:ii}{tb:b5}
theorem dN:aP ["start","width","step","most","found","queue","met","at","goal"] ["start","width","step","most"] (aj iy):=⟨rfl,rfl,rfl,by decide +kernel,rfl,by decide +kernel,by decide +kernel⟩
def ED (b6:List Dv) (step:Int->Nat->Int) (U:List Int) (n:Nat):List Dv->bX:=fun Ut ds M Q _=>Ut=b6/\∃(p:Int) (a:Nat),ds=[.int p,.int ((a:Nat):Int)]/\p∈U/\a<n/\Q (.int (step p a)) M
def ou (r:List Int×List bv):Dv:=.dk (r.1.map FF) (r.2.map Dv.str)
def Af (P:ff) (w:hX) (K:bn) (mg:bv->Option ap) (tb:b5) (base:ii):bX:=fun ds M Q _=>∃(s:Int) (step:Int->Nat->Int) (U:List Int) (n most:Nat) (f:ag) (fd:mf) (o:lc) (c:ag) (oc:lc) (vcs:List V) (b6:List Dv) (ps:List bv),
 ds=[.int s,.int (n:Nat),.bF f o c oc vcs b6,.int (most:Nat)]/\FnOk P w K mg base bq 6 f fd ps (II P w K tb f o c oc vcs (ED b6 step U n))/\(∃oc od fd sl,o=⟨oc,od,.func fd,sl⟩)/\Binds K fd ps []/\n<=3/\s∈U/\(∀k∈U,∀a,a<n->step k a∈U)/\U.length<=10000 /\
 Q (ou (met step n most U.length s)) M
theorem xQ {f:ag}{fd:mf}{dv:List ap}(D:IH K mg "first_met" iy ["start","width","step","most"] dv f fd) (bl:Bl mg) {tk:ZO}(j5:mg "SIGNS" = some (.str "abc" tk)) :
  FnOk P w K mg base bq 7 f fd ["start","width","step","most"] (aW P w K tb (Af P w K mg tb base)) :=by
 refine Q6 D dN (fun ds M Q E hS=>by obtain⟨s,step,U,n,most,f,fd,o,c,oc,vcs,b6,ps,e,_⟩:=hS;rw[e];rfl) fun A outer s0 E Γ ds Q' E' hP hw hK ht hr hS=>?_
 obtain⟨s,step,U,n,most,f,fd,o,c,oc,vcs,b6,ps,e,O5,O6,O7,hn,hs,hU,hl,q⟩:=hS;refine⟨_,(ak (aI (i:=4) dN.nd rfl (sK rfl) (D3 (qv 0) rP))
  (ak (aI (i:=5) dN.nd rfl (sK rfl) (ly (aa (qv 0) af)))
  (ak (md At (QW.pt (DF (GD (qv 5)) (zM (cA Bk (aE Oo rfl bl.len_ xy (aa (qv 4) af)) (qv 3) (cS _)))))
   (ak (aI (i:=6) dN.nd rfl (sK rfl) (kO (K:=K) rfl DD PySem.F.slot_list_pop PySem.F.type_list_pop zS (qv 5) (aa ay af)))
  (ax (eE At rfl (dW rfl bl.range_ (aa (qv 1) af)) (fun ow eP ew eK et=>by have hP:=hP.trans eP.symm;have hw:=hw.trans ew.symm;have hK:=hK.trans eK.symm;have ht:=ht.trans et.symm;exact⟨(a8 (i:=7) dN.nd rfl (sK rfl)),(ak (aI (i:=8) dN.nd rfl (sK rfl) (GL (i:=2) O5 O6 (hr.mono (by decide)) rfl (sK rfl) O7 bN hP hw hK ht XR.none (aa (qv 6) (aa (qv 7) af))))
  (ax (d7 (cA (GI hr.units) (qv 8) (qv 4) (by rfl))
   (ak (Ko hr.units (qv 4) (qv 8) (aR DQ (zZ hr.units (qv 4) (qv 6) (fun _ _=>rfl)) (cc (dA (K:=K) rfl) (Gx (z := "abc") rfl j5 ⟨_,rfl⟩) (qv 7) (fun _ _=>rfl))))
  (ax (fm (kO (K:=K) rfl DD NL NO jV (qv 5) (aa (qv 8) af)))))
   qss_nil)))⟩)))))
  (ax (bj (qv 4)))))),?_⟩
 subst e;simp! only[];intro a ha;refine⟨by decide,fun qq hq=>?_⟩
 have EF:qq≠a:=fun z=>by rw[z,updM_same]at hq;cases hq
 have IU:Γ.M0 qq=none :=by rw[aq EF]at hq;exact hq
 have big:(10000:Nat)+10<sizeLine :=by decide
 have SQ:∀{M:Mh},(∀b,b≠a->b≠qq->M b=Γ.M0 b)->Keeps Γ.M0 M:=fun h b o e=>by
  rw[h b (fun z=>by rw[z,ha]at e;cases e) (fun z=>by rw[z,IU]at e;cases e)];exact e
 let I:Nat->List Int×List bv->aC->Mh->Prop:=fun i st ρ M=>(∃x6 x7 x8,ρ=[some (.int s),some (.int (n:Nat)),some (.bF f o c oc vcs b6),some (.int (most:Nat)),some (.ptr a),some (.ptr qq),x6,x7,x8])/\M a=some (.dk (st.1.map FF) (st.2.map Dv.str))/\M qq=some (.lst ((st.1.drop i).map Dv.int))/\(∀b,b≠a->b≠qq->M b=Γ.M0 b)/\eY U st/\i<=st.1.length
 refine⟨fun m ρ M=>∃i st,m=U.length+1 - i/\I i st ρ M/\gU step n most (U.length+1 - i) i st=met step n most U.length s,⟨_,0,([s],[""]),rfl,⟨⟨_,_,_,rfl⟩,by rw[aq (wp EF),updM_same];rfl,updM_same,fun b h1 h2=>by rw[aq h2,aq h1],om hs,nw _⟩,rfl⟩,?_⟩
 rintro m ρ M ⟨i,st,rfl,⟨⟨x6,x7,x8,rfl⟩,u0,Wn,u5,ok,hi⟩,hb⟩;have hle:=ok.le;have Xp:=ok.len;have fin:∀M',M' a=some (.dk (st.1.map FF) (st.2.map Dv.str))->Keeps Γ.M0 M'->st=met step n most U.length s->jW Γ.M0 Q' (.ptr a) M':=fun M' h k e=>.inr ⟨k,ou st,.dk ha h rfl fun j d d' e1 e2=>by
  rw[e1]at e2;cases e2;obtain⟨w,_,rfl⟩:=l6.mp (lp e1);exact .pin (.str w),by rw[e];exact q⟩
 have O8:U.length+1 - i=(U.length - i)+1 :=by omega
 simp! only[u0,Wn];refine eX (fun h1=>?_) (fun h1=>?_)
 ·have aO:i<st.1.length :=by
   rcases LF i st.1.length with h|h
   ·exact h
   ·rw[List.drop_eq_nil_of_le h]at h1;cases h1
  obtain⟨k,hk⟩:∃k,st.1[i]?=some k:=⟨_,ar aO⟩;obtain⟨wd,EG⟩:∃wd,st.2[i]?=some wd:=⟨_,ar (by omega)⟩
  have O9:k∈U:=ok.sub k (lp hk);refine eX (fun h2=>?_) (fun h2=>?_)
  ·have BD:st.1.length<=most :=by simpa using h2
   have WX:(st.1.drop i).length=st.1.length - i:=SZ;have Wo:seqIndex? 0 (st.1.drop i).length=some 0:=(by unfold seqIndex?;simp;omega)
   have e0:((st.1.drop i).map Dv.int)[0]?=some (.int k) :=by rw[qm hk];rfl
   simp only[Wo,e0];refine⟨by decide,by decide,by omega,by omega,?_⟩
   have er:((st.1.drop i).map Dv.int).eraseIdx 0=(st.1.drop (i+1)).map Dv.int :=by rw[qm hk];rfl
   simp only[er];refine cL (fun j ρ M=>(∃x7 x8,ρ=[some (.int s),some (.int (n:Nat)),some (.bF f o c oc vcs b6),some (.int (most:Nat)),some (.ptr a),some (.ptr qq),some (.int k),x7,x8])/\M a=some (.dk ((visit step k wd j st).1.map FF) ((visit step k wd j st).2.map Dv.str))/\M qq=some (.lst (((visit step k wd j st).1.drop (i+1)).map Dv.int))/\(∀b,b≠a->b≠qq->M b=Γ.M0 b)/\j<=n)
    ⟨⟨_,_,rfl⟩,by rw[aq (wp EF)];exact u0,updM_same,fun b h1 h2=>by rw[aq h2];exact u5 b h1 h2,nw _⟩ (fun j d ρ M N hd ⟨⟨x7,x8,e1⟩,EH,EI,Jb,gj⟩ hN=>?_) (fun ρ M ⟨⟨x7,x8,e1⟩,EH,EI,Jb,gj⟩=>?_)
   ·subst e1;obtain⟨rfl,hj⟩:=dX hd;obtain⟨gk,gw,g1,g2⟩:=jf step k wd j st;have Jc:=ok.visit (n:=j) (step:=step) (met:=k) EG fun b hb=>hU k O9 b (by omega)
    have Xq:=Jc.le;have Uu:=Jc.len;have SR:(visit step k wd j st).1[i]?=some k :=by rw[g1];exact tJ hk
    have SU:(visit step k wd j st).2[i]?=some wd :=by rw[g2];exact tJ EG
    have OI:=oY Jc.nd SR SU;have HQ:=Jc.wl i wd SU;have W5:i<(visit step k wd j st).1.length:=(cr.mp SR).1;simp! only[];refine⟨rfl,k,j,rfl,O9,hj,?_⟩;simp! only[EH,my oZ,XA,uX Uu];have nx:∀{bG M'},(∃x7 x8,bG=[some (.int s),some (.int (n:Nat)),some (.bF f o c oc vcs b6),some (.int (most:Nat)),some (.ptr a),some (.ptr qq),some (.int k),x7,x8])->M' a=some (.dk ((visit step k wd (j+1) st).1.map FF) ((visit step k wd (j+1) st).2.map Dv.str))->M' qq=some (.lst (((visit step k wd (j+1) st).1.drop (i+1)).map Dv.int))->(∀b,b≠a->b≠qq->M' b=Γ.M0 b)->N bG M':=fun h1 h2 h3 h4=>hN _ _ ⟨h1,h2,h3,h4,hj⟩
    have vs:=fq step k wd j st;refine eX (fun hm=>?_) (fun hm=>?_)
    ·have hm:step k j ∉ (visit step k wd j st).1 :=by simpa using hm
     have hv:visit step k wd (j+1) st=((visit step k wd j st).1++[step k j],(visit step k wd j st).2++[wd++z9 j]) :=by rw[vs];unfold f9;rw[if_neg hm]
     obtain⟨p1,p2⟩:=Ku (κ:=Key) (k:=FF (step k j)) (d:=Dv.str (wd++z9 j)) (ks:=(visit step k wd j st).1.map FF) (ds:=(visit step k wd j st).2.map Dv.str) (fun z=>hm ((yG oZ).mp z))
     simp only[OI,Ix,Kv (show j<3 by omega)]
     refine⟨by decide,by rw[show (⟨#[97+j]⟩:bv)=z9 j from rfl,tI];omega,by omega,?_⟩
     rw[show (⟨#[97+j]⟩:bv)=z9 j from rfl,p1,p2];simp only[aq EF,EI];refine⟨trivial,by simp only[ci,SZ];omega,nx ⟨_,_,rfl⟩ ?_ ?_ fun b h1 h2=>by rw[aq h2,aq h1];exact Jb b h1 h2⟩
     ·rw[aq (wp EF),updM_same,hv,xw,xw];rfl
     ·rw[updM_same,hv];show some (Mo.lst (_++[_]))=_;rw[List.drop_append_of_le_length (by omega),xw];rfl
    ·have hm:step k j∈(visit step k wd j st).1 :=by simpa using hm
     have hv:visit step k wd (j+1) st=visit step k wd j st :=by rw[vs];unfold f9;rw[if_pos hm]
     exact nx ⟨_,_,rfl⟩ (by rw[hv];exact EH) (by rw[hv];exact EI) Jb
   ·subst e1;have Wq:(dn 0 n).length=n:=rangeD_len 0 n;rw[Wq]at EH EI gj;have Wr:=ok.visit (n:=n) (step:=step) (met:=k) EG fun b hb=>hU k O9 b hb
    obtain⟨gk,gw,g1,g2⟩:=jf step k wd n st;refine⟨U.length+1 - (i+1),by omega,i+1,visit step k wd n st,rfl,⟨⟨_,_,_,rfl⟩,EH,EI,Jb,Wr,by rw[g1,xb];omega⟩,?_⟩
    rw[<- hb,O8,xF hk EG BD];rw[show U.length+1 - (i+1)=U.length - i by omega]
  ·refine fin M u0 (SQ u5) ?_;have BD:¬ st.1.length<=most :=by simpa using h2
   rw[<- hb,O8];unfold gU;simp only[hk,EG,if_neg BD]
 ·refine fin M u0 (SQ u5) ?_;have h:st.1.length<=i :=by
   rcases LF i st.1.length with h|h
   ·rw[qm (ar h)]at h1;cases h1
   ·exact h
  rw[<- hb,O8];unfold gU;have e1:st.1[i]?=none:=ET h;simp only[e1]
end
section
def xR (st:ut):dL:=match bA st with | [.Return (some (.Call _ (_::_::l::_) _ _)) _]=>l|_=>.Constant .none 0 ⟨0,0,0,0⟩
def lP (st:ut):OP:=match xR st with | .Lambda p _ _ _=>p|_=>⟨[],[],none,[],[],none,[]⟩
def lB (st:ut):dL:=match xR st with | .Lambda _ b _ _=>b|e=>e
def lS (st:ut):zd:=match xR st with | .Lambda _ _ s _=>s|_=>aj st
variable {P:ff}{w:hX}{K:bn}{mg:bv->Option ap}{base:ii}{tb:b5}
theorem tN:aP ["net","start"] ["net","start"] (aj aB):=⟨rfl,rfl,rfl,by decide +kernel,rfl,by decide +kernel,by decide +kernel⟩
def qW:bv:=("first_words" ++ ".<locals>." : bv) ++ "<lambda>"
def au (net:List (List Int)):List Int:=(lw net.length).map fun i:Nat=>(i:Int)
def cy (net:List (List Int)) (p:Int) (a:Nat):Int:=(net.getD p.toNat []).getD a 0
theorem a9 {net:List (List Int)}{p:Int}:p∈au net ↔ 0<=p/\p<(net.length:Int) :=by
 unfold au;rw[l6];constructor
 ·rintro⟨i,hi,rfl⟩;have:=u4.mp hi;omega
 ·rintro⟨h1,h2⟩;exact⟨p.toNat,u4.mpr (by omega),by omega⟩
theorem getD_at {α:Type}{l:List α}{i:Nat}{d:α}(h:i<l.length):l.getD i d=l[i] :=by rw[c8,ar h];rfl
theorem gb {net:List (List Int)}{n:Nat}(o:aU net n) {p:Int}(hp:p∈au net) {a:Nat}(ha:a<n):cy net p a∈au net :=by
 obtain⟨h1,h2⟩:=a9.mp hp;have aO:p.toNat<net.length :=by omega
 obtain⟨e1,e2⟩:=o.row net[p.toNat] (wr aO);unfold cy;rw[getD_at aO,getD_at (by omega)]
 exact a9.mpr (e2 _ (wr _))
theorem EJ {net:List (List Int)}{p:Int}(hp:p∈au net):dE (net.map eI) p=some (eI (net.getD p.toNat [])) :=by
 obtain⟨h1,h2⟩:=a9.mp hp;have aO:p.toNat<net.length :=by omega
 have e:p=((p.toNat:Nat):Int) :=by omega
 rw[e];refine eF ?_;rw[db,uu,c8,ar aO];rfl
theorem Pa {net:List (List Int)}{n:Nat}(o:aU net n) {p:Int}(hp:p∈au net) {a:Nat}(ha:a<n):dE ((net.getD p.toNat []).map Dv.int) ((a:Nat):Int)=some (.int (cy net p a)) :=by
 obtain⟨h1,h2⟩:=a9.mp hp;have aO:p.toNat<net.length :=by omega
 have e1:=(o.row net[p.toNat] (wr aO)).1;refine eF ?_;unfold cy;rw[db,getD_at aO,getD_at (by omega),ar (by omega)]
 rfl
theorem sC:mw ["place","at"] ["net"] (lS aB):=⟨rfl,rfl,rfl,by decide +kernel,by decide +kernel,by decide +kernel,by decide +kernel⟩
theorem xS {f c:ag}{fd:mf}{o oc:lc}{aL:List (bv×ag)}{vcs:List V}(L:Bq (lP aB) (lB aB) (lS aB) qW o c oc aL fd) (C:tE base ["net"] aL vcs) (gu:vcs.length=1) {net:List (List Int)}{n:Nat}(O:aU net n) :
  FnOk P w K mg base bq 1 f fd ["place","at"] (II P w K tb f o c oc vcs (ED [eN net] (cy net) (au net) n)) :=by
 refine Ug L sC C gu (fun b6 ds M Q E hS=>by obtain⟨_,p,a,e,_⟩:=hS;rw[e];rfl) fun A outer s E Γ b6 ds Q' E' hP hw hK ht hr hS=>?_
 obtain⟨e0,p,a,e,hp,ha,q⟩:=hS;refine⟨_,(cc (dA (K:=K) rfl) (cc (dA (K:=K) rfl) (qv 2) (qv 0) (fun _ _=>rfl)) (qv 1) (fun _ _=>rfl)),?_⟩
 subst e e0;simp! only[EJ hp,Pa O hp ha];exact .inl q
theorem pf:∀n,(n,wS)∈(lS aB).names->(aj aB).names.lookup n=some .cell\/(aj aB).names.lookup n=some .free :=by
 have h:∀y∈(lS aB).names,y.2=wS->(aj aB).names.lookup y.1=some .cell :=by decide +kernel
 exact fun n hn=>.inl (h _ hn rfl)
theorem sD:∀(j:Nat) (n:bv),(["net"]:List bv)[j]?=some n->(n,wS)∈(lS aB).names/\(aj aB).names.lookup n=some .cell/\∃i,([0]:List Nat)[j]?=some i/\(["net","start"]:List bv)[i]?=some n:=fun j n h=>by
 cases j with
 |zero=>cases h;exact⟨by decide +kernel,by decide +kernel,0,rfl,rfl⟩
 |succ j=>simp at h
def cM (net:List (List Int)) (n:Nat) (s:Int):List Int×List bv:=met (cy net) n 511 net.length s
def xT:bX:=fun ds M Q _=>∃net n s,ds=[eN net,.int s]/\aU net n/\s∈au net/\Q (ou (cM net n s)) M
theorem tO {f f1:ag}{fd bP:mf}{nj aH:ag}{tk0:ZO}(D:Df K mg "first_words" aB ["net","start"] f fd) (fT:zh base fd nj aH) (dF:∃bm ob,Yh base mainGlobals mg bm ob)
  (kr:(aH,qW)∈tb.l) (OC:∀q∈tb.l,q.1=aH->q.2=qW) (eL:IH K mg "first_met" iy ["start","width","step","most"] [.int 511 tk0] f1 bP) (bl:Bl mg) {tk:ZO} (j5:mg "SIGNS" = some (.str "abc" tk)) :
  FnOk P w K mg base bq 8 f fd ["net","start"] (aW P w K tb xT) :=by
 refine gT D tN (fun ds M Q E hS=>by obtain⟨net,n,s,e,_⟩:=hS;rw[e];rfl) fun A outer s0 E Γ ds Q' E' hP hw hK ht hr hS=>?_
 obtain⟨net,n,s,e,O,hs,q⟩:=hS;have gZ:(aH,qW)∈Γ.tb.l:=ht▸kr;have g5:∀q∈Γ.tb.l,q.1=aH->q.2=qW:=ht▸OC;have yK:∀b',(∀b o,base.get? b=some o->b'.get? b=some o)->FnOk P w K mg b' bq 7 f1 bP ["start","width","step","most"] (aW P w K tb (Af P w K mg tb b')):=fun b' _=>xQ eL bl j5
 have xU:Vals [V.int 511] [ZN 511 tk0]:=.cons ⟨_,rfl⟩ .nil;have xV:∀(β:Bz) (M:Mh) (H:Hp),aD β M H [V.int 511] [Dv.int 511]:=fun _ _ _=>.cons (.int _) .nil
 refine⟨_,(ax (bj (Br (idx:=[0]) (fs:=["net"]) fT.code fT.hd dF rfl (pf) (sD) gZ g5 yK (hr.mono (by decide)) (fun _=>rfl) rfl eL.mg eL.kp eL.bd (xU) (xV) bN hP hw hK ht XR.none (qv 1) (aE (dq (K:=K) rfl hK) rfl bl.len_ xy (aa (cc (dA (K:=K) rfl) (qv 0) ay (fun _ _=>rfl)) af)) af))),?_⟩
 subst e;obtain⟨h1,h2⟩:=a9.mp hs;have h0:(0:Int)∈au net:=a9.mpr ⟨by omega,by omega⟩
 have Ac:(net.getD 0 []).length=n :=by
  have:=O.one;rw[getD_at (by omega)]
  exact(O.row _ (wr _)).1
 have Ws:=O.wid;simp! only[xB,sf,EJ h0,Int.toNat_zero,Ac];intro lf o c oc aL vcs lv hO b' hb hC;obtain⟨Wt,AD,⟨i6,rfl⟩,dG⟩:=hO;have L:Bq (lP aB) (lB aB) (lS aB) qW (PP "<lambda>" qW (lP aB) (lB aB) (lS aB) aL ((mg "__name__").getD .none) c i6) c oc aL (PySem.W.kla_fn "<lambda>" qW (lP aB) (lB aB) (lS aB) aL ((mg "__name__").getD .none) (.ref c) i6):=⟨AD,⟨_,_,_,rfl,rfl⟩,dG⟩
 refine⟨s,cy net,au net,n,511,lf,_,_,c,oc,vcs,[eN net],["place","at"],rfl,(xS L hC lv O).mono (by decide),⟨_,_,_,_,rfl⟩,.all fun us hl=>?_,by omega,hs,fun k hk a ha=>gb O hk ha,?_,.inl ?_⟩
 ·match us,hl with
  | [_,_],_=>rfl
 ·have:=O.nine;simp only[au,ci,EN];omega
 ·rw[show (au net).length=net.length by simp[au]]
  exact q
end
section
variable {P:ff}{w:hX}{K:bn}{mg:bv->Option ap}{base:ii}{tb:b5}{k:Nat}{f:ag}{fd:mf}{ps:List bv}
theorem dD:aP ["_law_script","_law_at","_law_cell","_law_mix","_law_k"] ["_law_script","_law_at"] (aj ji):=⟨rfl,rfl,rfl,by decide +kernel,rfl,by decide +kernel,by decide +kernel⟩
theorem dO:aP ["_law_bag_here","_law_many","_law_digit","_law_number","_law_room"] ["_law_bag_here","_law_many"] (aj eJ):=⟨rfl,rfl,rfl,by decide +kernel,rfl,by decide +kernel,by decide +kernel⟩
theorem fU:aP ["_law_bag_here","_law_many","_law_rest","_law_found","_law_k"] ["_law_bag_here","_law_many"] (aj gX):=⟨rfl,rfl,rfl,by decide +kernel,rfl,by decide +kernel,by decide +kernel⟩
def Pb:bX:=fun ds M Q _=>∃(ns:List Int) (t:Int),ds=[.bt ns,.int t]/\ns.length<=63/\0<=t/\t<=63/\∀b,M b=none->Q (.ptr b) (az M b .cW)
def Jd:bX:=fun ds M Q _=>∃(ns:List Int) (t:Int),ds=[.bt ns,.int t]/\ns.length<=63/\0<=t/\t<=63/\∀b c m,M b=none->0<=c->0<=m->Q (.ptr b) (az M b (.lst [.int c,.int m]))
theorem BE (D:Df K mg "_law_bag" ji ["_law_script","_law_at"] f fd) (bl:Bl mg):FnOk P w K mg base bq 1 f fd ["_law_script","_law_at"] (aW P w K tb Jd) :=by
 refine gT D dD (fun ds M Q E hS=>by obtain⟨ns,t,e,_⟩:=hS;rw[e];rfl) fun A outer s E Γ ds Q' E' hP hw hK ht hr hS=>?_
 obtain⟨ns,t,e,hl,t0,t1,q⟩:=hS;refine⟨_,(ak (aI (i:=2) dD.nd rfl (sK rfl) ay)
  (ak (d7 (cA xc (qv 1) (aE (dq (K:=K) rfl hK) rfl bl.len_ xy (aa (qv 0) af)) (cS _))
   (ax (aI (i:=2) dD.nd rfl (sK rfl) (aE Bm rfl bl.abs_ wo (aa (cc (IP (K:=K) rfl hK) (qv 0) (qv 1) (fun _ _=>rfl)) af))))
   qss_nil)
  (ak (aI (i:=3) dD.nd rfl (sK rfl) (aR eW (aR oQ ay (qv 1)) ay))
  (ak (eE At rfl (dW rfl bl.range_ (aa (aE (DU rfl) rfl bl.min_ wm (aa (aE (dq (K:=K) rfl hK) rfl bl.len_ xy (aa (qv 0) af)) (aa ay af))) af)) (fun ow eP ew eK et=>by have hP:=hP.trans eP.symm;have hw:=hw.trans ew.symm;have hK:=hK.trans eK.symm;have ht:=ht.trans et.symm;exact⟨(a8 (i:=4) dD.nd rfl (sK rfl)),(ax (aI (i:=3) dD.nd rfl (sK rfl) (aR gS (aR eW (aR eW (aR oQ (qv 3) ay) (aR gS (cc (IP (K:=K) rfl hK) (qv 0) (qv 4) (fun _ _=>rfl)) ay)) (qv 4)) ay)))⟩))
  (ak (d7 (cA xc (qv 2) (aR Q2 ay ay) (cS _))
   (ax (aI (i:=2) dD.nd rfl (sK rfl) ay))
   qss_nil)
  (ax (bj (ly (aa (qv 2) (aa (qv 3) af)))))))))),?_⟩
 subst e;refine IM (fun ρ M=>M=Γ.M0/\∃c m x:Int,∃x4,0<=c/\0<=m/\ρ=[some (.bt ns),some (.int t),some (.int c),some (.int m),x4]) (fun N hN=>?_) ?_
 ·refine Ra (fun ρ M=>M=Γ.M0/\∃c:Int,0<=c/\ρ=[some (.bt ns),some (.int t),some (.int c),none,none]) (fun N hN=>?_) ?_
  ·simp! only[];refine eX (fun h=>?_) (fun _=>hN _ _ ⟨rfl,0,by omega,rfl⟩)
   have ht:t<(ns.length:Int):=of_decide_eq_true h;obtain⟨k,rfl⟩:=FM t0;rw[DY (show k<ns.length by omega)]
   exact hN _ _ ⟨rfl,_,by split<;>omega,rfl⟩
  rintro ρ M ⟨rfl,c,hc,rfl⟩;simp! only[];refine⟨.inl ⟨by decide,by decide⟩,by split<;>omega,by split<;>omega,?_⟩
  refine cL (fun i ρ M=>M=Γ.M0/\∃m:Int,∃x4,0<=m/\ρ=[some (.bt ns),some (.int t),some (.int c),some (.int m),x4]) ⟨rfl,_,_,by omega,rfl⟩ (fun i d ρ M N2 hd hJ xW=>?_) (fun ρ M hJ=>?_)
  ·obtain⟨rfl,m,x4,hm,rfl⟩:=hJ;obtain⟨rfl,hi⟩:=dX hd;have hi:i<ns.length :=by split at hi<;>omega
   simp! only[DY hi];exact⟨.inr ⟨by decide,by decide⟩,by decide,by decide,xW _ _ ⟨rfl,_,_,WI _ (by decide),rfl⟩⟩
  ·obtain⟨rfl,m,x4,hm,rfl⟩:=hJ;exact hN _ _ ⟨rfl,c,m,0,x4,hc,hm,rfl⟩
 ·rintro ρ M ⟨rfl,c,m,x,x4,hc,hm,rfl⟩;simp! only[];exact⟨⟨by decide,by decide,by decide⟩,eX (fun _=>⟨by decide,fun a ha=>.inl (q a 0 m ha (by omega) hm)⟩) (fun _=>⟨by decide,fun a ha=>.inl (q a c m ha hc hm)⟩)⟩
theorem Rg (G:FnOk P w K mg base bq k f fd ps (aW P w K tb Jd)):FnOk P w K mg base bq k f fd ps (aW P w K tb Pb):=G.imp fun vs H Q E hS=>by
 obtain⟨β,ds,M,Q',E',eP,ew,eK,et,m,rs,⟨ns,t,e,h1,h2,h3,h⟩,q,qe⟩:=hS;refine⟨β,ds,M,fun d M'=>∃b c m,d=.ptr b/\M b=none/\0<=c/\0<=m/\M'=az M b (.lst [.int c,.int m]),fun _ _=>False,eP,ew,eK,et,m,rs,⟨ns,t,e,h1,h2,h3,fun b c m h4 h5 h6=>⟨b,c,m,rfl,h4,h5,h6,rfl⟩⟩,fun d M' v H' x r hQ=>?_,fun _ _ _ _ h=>h.elim⟩
 obtain⟨b,c,m',rfl,hb,hc,hm,rfl⟩:=hQ;have hB:=Ej x.mz hc hm;exact q _ _ _ _ (Ex.sealed hb x hB) (r.dom (jn M b _ _)) (h b hb)
def vE:bX:=fun ds M Q _=>∃(b:ag) (n:Int),ds=[.ptr b,.int n]/\M b=some .cW/\1<=n/\n<10000000000000000000000000000000/\∀d:Nat,(d:Int)<n->Q (.int (d:Nat)) M
def EK:bX:=fun ds M Q _=>∃(b:ag) (n c m:Int),ds=[.ptr b,.int n]/\M b=some (.lst [.int c,.int m])/\0<=c/\0<=m/\1<=n/\n<10000000000000000000000000000000/\∀(d:Nat) (c m:Int),(d:Int)<n->0<=c->0<=m->Q (.int (d:Nat)) (az M b (.lst [.int c,.int m]))
theorem Pg {n:Int}(h1:1<=n) (h2:n<10000000000000000000000000000000):n.natAbs.log2<9000:=
 l9 ((Nat.log2_lt (k:=200) (by omega)).mpr (by omega)) (by decide)
theorem yL (D:Df K mg "_law_take" eJ ["_law_bag_here","_law_many"] f fd):FnOk P w K mg base bq 1 f fd ["_law_bag_here","_law_many"] (aW P w K tb EK) :=by
 refine gT D dO (fun ds M Q E hS=>by obtain⟨b,n,c,m,e,_⟩:=hS;rw[e];rfl) fun A outer s E Γ ds Q' E' hP hw hK ht hr hS=>?_
 obtain⟨b,n,c,m,e,hb,hc,hm,n1,n2,q⟩:=hS;refine⟨_,(ak (d7 (cA GC (cc (dA (K:=K) rfl) (qv 0) ay (fun _ _=>rfl)) ay (cS _))
   (ak (aI (i:=2) dO.nd rfl (sK rfl) (aR gS (cc (dA (K:=K) rfl) (qv 0) ay (fun _ _=>rfl)) (qv 1)))
  (ak (w6 (aR Aa (cc (dA (K:=K) rfl) (qv 0) ay (fun _ _=>rfl)) (qv 1)) (xi (qv 0) ay))
  (ax (bj (qv 2)))))
   qss_nil)
  (ak (aI (i:=3) dO.nd rfl (sK rfl) ay)
  (ak (aI (i:=4) dO.nd rfl (sK rfl) ay)
  (ak (md At (cA xc (qv 4) (qv 1) (cS _))
   (ak (w6 (aR gS (aR eW (aR oQ (cc (dA (K:=K) rfl) (qv 0) ay (fun _ _=>rfl)) ay) ay) ay) (xi (qv 0) ay))
  (ak (aI (i:=3) dO.nd rfl (sK rfl) (aR eW (aR oQ (qv 3) ay) (aR gS (aR oQ (aR Aa (cc (dA (K:=K) rfl) (qv 0) ay (fun _ _=>rfl)) ay) ay) ay)))
  (ax (aI (i:=4) dO.nd rfl (sK rfl) (aR oQ (qv 4) ay))))))
  (ax (bj (aR gS (qv 3) (qv 1)))))))),?_⟩
 subst e;have Wu:∀x y:Int,dE [Dv.int x,Dv.int y] 1=some (.int y):=fun x y=>eF (j:=1) rfl
 have Wv:jD 2 0=some 0:=rfl;have Ww:jD 2 1=some 1:=rfl;have fin:∀{i c m:Int} {M:Mh},0<=c->0<=m->M=az Γ.M0 b (.lst [.int c,.int m])->jW Γ.M0 Q' (.int (i % n)) M:=fun {i c m M} hc hm e=>by
  obtain⟨d,hd⟩:=FM (WI i (show n≠0 by omega))
  have:=Zc i (show 0<n by omega)
  rw[hd,e];exact .inl (q d c m (by omega) hc hm)
 simp! only[hb,Wv];refine eX (fun h=>?_) (fun h=>?_)
 ·refine⟨by omega,⟨by omega,Pg n1 n2⟩,fin (Int.ediv_nonneg hc (by omega)) hm rfl⟩
 ·refine⟨fun k ρ M=>∃num room c m x2,0<=num/\1<=room/\0<=c/\0<=m/\k=(n - room).toNat/\ρ=[some (.ptr b),some (.int n),x2,some (.int num),some (.int room)]/\M=az Γ.M0 b (.lst [.int c,.int m]),⟨_,0,1,c,m,_,by omega,by omega,hc,hm,rfl,rfl,(z8 hb).symm⟩,?_⟩
  rintro k ρ M ⟨num,room,c,m,x2,h1,h2,hc,hm,rfl,rfl,rfl⟩;simp! only[Wu,Ww,updM_same];refine eX (fun h=>?_) (fun h=>⟨by omega,fin hc hm rfl⟩)
  have h:=of_decide_eq_true h;have m3:0<=(m * 48271+7919) % 2147483647:=WI _ (by decide)
  have n3:0<=(m * 48271+7919) % 2147483647 / 8 * 69621 % 1073741789:=WI _ (by decide)
  refine⟨.inr ⟨by decide,by decide⟩,by decide,.inr ⟨by decide,by decide⟩,⟨by decide,by decide⟩,.inr ⟨by decide,by decide⟩,by decide,.inr ⟨by decide,by decide⟩,_,?_,_,_,c,_,_,?_,?_,hc,m3,rfl,rfl,rfl⟩<;>omega
theorem Ph (G:FnOk P w K mg base bq k f fd ps (aW P w K tb EK)):FnOk P w K mg base bq k f fd ps (aW P w K tb vE):=G.imp fun vs H Q E hS=>by
 obtain⟨β,ds,M,Q',E',eP,ew,eK,et,m,rs,⟨b,n,e,hb,h1,h2,h⟩,q,qe⟩:=hS;have eM:=z8 hb;have d1:∀o a,(M a).isSome=(az M b o a).isSome:=fun o a=>by have:=jn M b .cW o a;rwa [eM]at this
 rw[<- eM]at m;obtain⟨c,m0,hc,hm,hO⟩:=OQ m;refine⟨β,ds,az M b (.lst [.int c,.int m0]),fun d M'=>∃(k:Nat) (c' m':Int),d=.int (k:Nat)/\(k:Int)<n/\0<=c'/\0<=m'/\M'=az M b (.lst [.int c',.int m']),fun _ _=>False,eP,ew,eK,et,m.chg hO,⟨rs.len,fun i v d x y=>(rs.at' i v d x y).dom (d1 _)⟩,⟨b,n,c,m0,e,updM_same,hc,hm,h1,h2,fun d c' m' h3 h4 h5=>⟨d,c',m',rfl,h3,h4,h5,updM_updM⟩⟩,fun d M' v H' x r hQ=>?_,fun _ _ _ _ h=>h.elim⟩
 obtain⟨k,c',m',rfl,hk,HH,rg,rfl⟩:=hQ;have hB:=Ej x.mz HH rg;have x2:=Ex.chg (o2:=.cW) x hB;rw[eM]at x2;exact q _ _ _ _ x2 (r.dom fun a=>(d1 _ a).symm) (h k hk)
theorem u6 {α β:Type}(f:α->β):∀(l:List α) (i:Nat),(l.map f).eraseIdx i=(l.eraseIdx i).map f
 | [],_=>rfl
 |_::_,0=>rfl
 |a::l,i+1=>by
          show f a::(l.map f).eraseIdx i=f a::(l.eraseIdx i).map f;rw[u6 f l i]
theorem dZ {α:Type}:∀(l:List α) (i:Nat) (h:i<l.length),(l[i]::l.eraseIdx i).Perm l
 |a::l,0,_=>.refl _
 |a::l,i+1,h=>by
          have h':i<l.length :=by simpa using h
          show (l[i]::a::l.eraseIdx i).Perm (a::l);exact(SC.swap a l[i] _).trans ((dZ l i h').cons a)
structure dP (n:Nat) (os:List Int):Prop where
 perm:os.Perm ((lw n).map fun i:Nat=>(i:Int))
theorem dP.len {n:Nat}{os:List Int}(h:dP n os):os.length=n :=by
 have:=h.perm.length_eq;simpa using this
theorem dP.mem {n:Nat}{os:List Int}(h:dP n os) {x:Int}(hx:x∈os):0<=x/\x<n :=by
 have:=h.perm.mem_iff.mp hx;obtain⟨i,hi,rfl⟩:=l6.mp this;have:=u4.mp hi;omega
def EL:bX:=fun ds M Q _=>∃(b:ag) (n:Nat),ds=[.ptr b,.int (n:Nat)]/\M b=some .cW/\n<=100/\∀os,dP n os->Q (i5 os) M
theorem KN {n d:Nat}(h:d<n):seqIndex? (d:Int) n=some d:=(sO (n:=n) (i:=(d:Int)) (j:=d) (by unfold jD;rw[if_pos (by omega),if_pos (by omega)];rfl)).1
theorem xX {f1:ag}{bP:mf}(D:Df K mg "_law_order" gX ["_law_bag_here","_law_many"] f fd)
  (aA:Df K mg "_law_take" eJ ["_law_bag_here","_law_many"] f1 bP) (b8:FnOk P w K mg base bq 1 f1 bP ["_law_bag_here","_law_many"] (aW P w K tb vE)) (bl:Bl mg):FnOk P w K mg base bq 2 f fd ["_law_bag_here","_law_many"] (aW P w K tb EL) :=by
 refine gT D fU (fun ds M Q E hS=>by obtain⟨b,n,e,_⟩:=hS;rw[e];rfl) fun A outer s E Γ ds Q' E' hP hw hK ht hr hS=>?_
 obtain⟨b,n,e,hb,hn,q⟩:=hS;refine⟨_,(ak (aI (i:=2) fU.nd rfl (sK rfl) (vj rfl rfl bl.list_ rfl bl.range_ (qv 1)))
  (ak (aI (i:=3) fU.nd rfl (sK rfl) (ly af))
  (ak (eE At rfl (dW rfl bl.range_ (aa (qv 1) af)) (fun ow eP ew eK et=>by have hP:=hP.trans eP.symm;have hw:=hw.trans ew.symm;have hK:=hK.trans eK.symm;have ht:=ht.trans et.symm;exact⟨(a8 (i:=4) fU.nd rfl (sK rfl)),(ax (fm (kO (K:=K) rfl DD NL NO jV (qv 3) (aa (kO (K:=K) rfl DD PySem.F.slot_list_pop PySem.F.type_list_pop zS (qv 2) (aa (aK b8 (hr.mono (by decide)) rfl aA.mg aA.fn.kp aA.bd bN hP hw hK ht XR.none (aa (qv 0) (aa (aE (dq (K:=K) rfl hK) rfl bl.len_ xy (aa (qv 2) af)) af))) af)) af))))⟩))
  (ax (bj (qv 3)))))),?_⟩
 subst e;have big:(1000:Nat)<sizeLine :=by decide
 simp! only[];refine⟨by omega,by omega,fun a ha=>⟨by omega,fun c hc=>⟨by omega,by omega,?_⟩⟩⟩
 have Je:c≠a:=fun z=>by rw[z,updM_same]at hc;cases hc
 have sd:Γ.M0 c=none :=by rw[aq Je]at hc;exact hc
 have Wx:b≠a:=fun z=>by rw[z,ha]at hb;cases hb
 have Wy:b≠c:=fun z=>by rw[z,sd]at hb;cases hb
 refine cL (fun i ρ M=>∃rest got:List Int,(∃x,ρ=[some (.ptr b),some (.int (n:Nat)),some (.ptr a),some (.ptr c),x])/\M a=some (.lst (rest.map .int))/\M c=some (.lst (got.map .int))/\(∀d,d≠a->d≠c->M d=Γ.M0 d)/\got.length=i/\(got++rest).Perm ((lw n).map fun i:Nat=>(i:Int)))
  ⟨(lw n).map fun i:Nat=>(i:Int),[],⟨_,rfl⟩,by rw[aq (wp Je),updM_same,iS,wv];rfl,updM_same,fun d h1 h2=>by rw[aq h2,aq h1],rfl,.refl _⟩ (fun i d ρ M N hd hJ hN=>?_) (fun ρ M hJ=>?_)
 ·obtain⟨rest,got,⟨x,rfl⟩,u0,Jf,u5,hg,pm⟩:=hJ;obtain⟨rfl,hi⟩:=dX hd;have hlen:got.length+rest.length=n :=by have:=pm.length_eq;simpa using this
  simp! only[u0,Jf];refine⟨b,_,rfl,(by rw[u5 b Wx Wy];exact hb),by omega,by omega,fun d hd=>?_⟩
  have lj:d<rest.length :=by omega
  simp only[u0,ci,KN lj,db,ar lj,Ix,aq Je,Jf];refine⟨by omega,by omega,by omega,hN _ _ ⟨rest.eraseIdx d,got++[rest[d]],⟨_,rfl⟩,by rw[aq (wp Je),updM_same,u6],by rw[updM_same,xw];rfl,fun e h1 h2=>by rw[aq h2,aq h1];exact u5 e h1 h2,by simp[hg],?_⟩⟩
  refine SC.trans ?_ pm;rw[On];exact SC.append_left got (dZ rest d lj)
 ·obtain⟨rest,got,⟨x,rfl⟩,u0,Jf,u5,hg,pm⟩:=hJ;rw[rangeD_len]at hg;have hlen:got.length+rest.length=n :=by have:=pm.length_eq;simpa using this
  have Ac:rest=[]:=Os (by omega)
  rw[Ac,Ch]at pm;exact DZ (fun d o e=>by rw[u5 d (fun z=>by rw[z,ha]at e;cases e) (fun z=>by rw[z,sd]at e;cases e)];exact e) sd Jf (jX _) (q got ⟨pm⟩)
end
section
variable {P:ff}{w:hX}{K:bn}{mg:bv->Option ap}{base:ii}{tb:b5}
theorem BF {M0 M:Mh}(h:Keeps M0 M) {a:ag}(ha:M a=none):M0 a=none :=by
 cases e:M0 a with
 |none=>rfl
 |some u=>rw[h a u e]at ha;cases ha
def xY (x:Option Dv):Prop:=∀M d,x=some d->Pin M d
theorem xY.none:xY none:=fun _ _ h=>nomatch h
theorem xY.int (i:Int):xY (some (.int i)):=fun _ _ h=>by cases h;exact .int i
theorem KO {n d:Nat}(h:d<n):jD n (d:Int)=some d :=by unfold jD;rw[if_pos (by omega),if_pos (by omega)];rfl
theorem dP.nodup {n:Nat}{os:List Int}(h:dP n os):os.Nodup :=by
 refine h.perm.nodup_iff.mpr ?_;exact List.pairwise_map.mpr (Yw.imp fun h e=>h (by omega))
theorem yM:aP ["thing"] ["thing"] (aj fu):=⟨rfl,rfl,rfl,by decide +kernel,rfl,by decide +kernel,by decide +kernel⟩
theorem pj:aP ["thing","many"] ["thing","many"] (aj da):=⟨rfl,rfl,rfl,by decide +kernel,rfl,by decide +kernel,by decide +kernel⟩
theorem ER:aP ["thing","many","width"] ["thing","many","width"] (aj j3):=⟨rfl,rfl,rfl,by decide +kernel,rfl,by decide +kernel,by decide +kernel⟩
theorem ox:aP ["thing","many","width"] ["thing"] (aj j4):=⟨rfl,rfl,rfl,by decide +kernel,rfl,by decide +kernel,by decide +kernel⟩
def xZ (d:Dv):Bool:=(isD "int" (fun _=>none) d).isSome
def EV:Dv->Bool | .int _=>true|_=>false
def fQ (m:Int):Dv->Bool | .int i=>decide (0<=i) && decide (i<m)|_=>false
def Pj:bX:=fun ds M Q _=>∃d,ds=[d]/\xZ d=true/\Q (.bl (EV d)) M
theorem yN {f:ag}{fd:mf}(D:Df K mg "is_whole" fu ["thing"] f fd) (bl:Bl mg):FnOk P w K mg base bq 1 f fd ["thing"] (aW P w K tb Pj) :=by
 refine gT D yM (fun ds M Q E hS=>by obtain⟨d,e,_⟩:=hS;rw[e];rfl) fun A outer s E Γ ds Q' E' hP hw hK ht hr hS=>?_
 obtain⟨d,e,hk,q⟩:=hS;refine⟨_,(ax (bj (n6 (aE (mj (K:=K) rfl) rfl bl.isinstance_ bR (aa (qv 0) (aa (lx (v:=.ty "int") rfl bl.int_ M6 rfl) af))) (rR (DG (aE (mj (K:=K) rfl) rfl bl.isinstance_ bR (aa (qv 0) (aa (lx (v:=.ty "bool") rfl bl.bool_ JL rfl) af)))))))),?_⟩
 subst e;cases d<;>first|exact⟨by decide,⟨by decide,.inl q⟩⟩|exact⟨by decide,.inl q⟩|exact nomatch hk
def Pk:bX:=fun ds M Q _=>∃d m,ds=[d,.int m]/\xZ d=true/\Q (.bl (fQ m d)) M
theorem pq {f f1:ag}{fd bP:mf}(D:Df K mg "is_whole_below" da ["thing","many"] f fd) (cH:Df K mg "is_whole" fu ["thing"] f1 bP) (bl:Bl mg):FnOk P w K mg base bq 2 f fd ["thing","many"] (aW P w K tb Pk) :=by
 have BG:=yN (P:=P) (w:=w) (base:=base) (tb:=tb) cH bl;refine gT D pj (fun ds M Q E hS=>by obtain⟨d,m,e,_⟩:=hS;rw[e];rfl) fun A outer s E Γ ds Q' E' hP hw hK ht hr hS=>?_
 obtain⟨d,m,e,hk,q⟩:=hS;refine⟨_,(ax (bj (n6 (aK BG (hr.mono (by decide)) rfl cH.mg cH.fn.kp cH.bd bN hP hw hK ht XR.none (aa (qv 0) af)) (rR (Gy Bk xc ay (qv 0) (qv 1)))))),?_⟩
 subst e;refine⟨d,rfl,hk,?_⟩;cases d with
 |int i=>
  simp! only[EV];refine eX (fun h=>?_) (fun h=>?_)
  ·rw[show fQ m (.int i)=decide (i<m) by simp only[fQ,h,XV]]at q
   exact .inl q
  ·rw[show fQ m (.int i)=false by simp only[fQ,h,Yd]]at q
   exact .inl q
 |_=>exact .inl q
def ik (m:Int) (w:Nat):Dv->Bool | .tup ds=>decide (ds.length=w) && ds.all (fQ m)|_=>false
def G2:Dv->Bool | .tup ds=>ds.all xZ|d=>xZ d
def Pl:bX:=fun ds M Q _=>∃d m w,ds=[d,.int m,.int (w:Nat)]/\G2 d=true/\Q (.bl (ik m w d)) M
theorem EW {f f1 f2:ag}{fd bP fd2:mf}{mB a7:ag}(D:Df K mg "is_row" j3 ["thing","many","width"] f fd) (il:zh base fd mB a7) (hp:a7∈tb) (dF:∃bm ob,Yh base mainGlobals mg bm ob)
  (bD:Df K mg "is_whole_below" da ["thing","many"] f1 bP) (cH:Df K mg "is_whole" fu ["thing"] f2 fd2) (bl:Bl mg):FnOk P w K mg base bq 4 f fd ["thing","many","width"] (aW P w K tb Pl) :=by
 have qp:=pq (P:=P) (w:=w) (base:=base) (tb:=tb) bD cH bl;refine gT D ER (fun ds M Q E hS=>by obtain⟨d,m,n,e,_⟩:=hS;rw[e];rfl) fun A outer s E Γ ds Q' E' hP hw hK ht hr hS=>?_
 obtain⟨d,m,n,e,hk,q⟩:=hS;have BH:a7∈Γ.tb:=ht▸hp;refine⟨_,(ak (d7 (QW.pt (Bi (iJ (gQ (aE (mj (K:=K) rfl) rfl bl.isinstance_ bR (aa (qv 0) (aa (lx (v:=.ty "tuple") rfl bl.tuple_ fX rfl) af))))) (w5 (cA Ub (aE (dq (K:=K) rfl hK) rfl bl.len_ xy (aa (qv 0) af)) (qv 2) (cS _)))))
   (ax (bj kG))
   qss_nil)
  (ax (bj (DW (k:=2) (N':=["goal","many"]) (tn:=1) (idx:=[1]) BH (hr.mono (by decide)) rfl (show aJ ["thing","many","width"] (aj j3) _ ["goal","many"] 1 [1] from by decide +kernel) rfl rfl il.code il.hd dF rfl bl.all_ (jT (K:=K) rfl (qv 0)) (fun _ _ _ _ _ _ _ hr=>(a8 (i:=0) (show ON [("goal" : bv),("many" : bv)] from by decide +kernel) rfl (sK rfl))) (fun _ _ _ _ _ _ _ hr=>eG) (fun _ _ _ _ _ _ _ hr=>(aK qp (hr.mono (by decide)) rfl bD.mg bD.fn.kp bD.bd bN hP hw hK ht XR.none (aa (qv 0) (aa (qv 1) af)))))))),?_⟩
 subst e;cases d with
 |tup es=>
  refine⟨by decide,eX (c := !decide ((es.length:Int)=(n:Nat))) (fun h=>?_) (fun h=>?_)⟩
  ·rw[show ik m n (.tup es)=false by simp at h;simp[ik];intro z;omega]at q
   exact .inl q
  ·rw[show ik m n (.tup es)=es.all (fQ m) by simp at h;simp[ik,show es.length=n by omega]]at q
   refine tD (fQ m) (fun τ=>∃x,τ=[x,some (.int m)]) ⟨none,rfl⟩ (fun d hd τ ⟨x,e⟩ R hR=>?_) (.inl q)
   subst e;exact⟨d,m,rfl,xp.mp hk d hd,hR _ ⟨_,rfl⟩⟩
 |_=>first|exact⟨by decide,.inl q⟩|exact nomatch hk
def j6:Dv->Bool | .tup rs=>decide (1<=rs.length/\rs.length<=9) && (rs.all (ik rs.length 2) || rs.all (ik rs.length 3))|_=>false
def BI:Dv->Bool | .tup rs=>rs.all G2|d=>xZ d
def Pn:bX:=fun ds M Q _=>∃d,ds=[d]/\BI d=true/\Q (.bl (j6 d)) M
theorem EX {f f1 f2 f3:ag}{fd bP fd2 u9:mf}{mB a7 x9 bo:ag}(D:Df K mg "is_net" j4 ["thing"] f fd) (mD:zh base fd x9 bo) (Wz:bo∈tb) (gf:Df K mg "is_row" j3 ["thing","many","width"] f3 u9) (il:zh base u9 mB a7) (hp:a7∈tb) (dF:∃bm ob,Yh base mainGlobals mg bm ob)
  (bD:Df K mg "is_whole_below" da ["thing","many"] f1 bP) (cH:Df K mg "is_whole" fu ["thing"] f2 fd2) (bl:Bl mg) {tk:ZO} (ip:mg "MOST_PLACES" = some (.int 9 tk)):FnOk P w K mg base bq 6 f fd ["thing"] (aW P w K tb Pn) :=by
 have G3:=EW (P:=P) (w:=w) (tb:=tb) gf il hp dF bD cH bl;refine gT D ox (fun ds M Q E hS=>by obtain⟨d,e,_⟩:=hS;rw[e];rfl) fun A outer s E Γ ds Q' E' hP hw hK ht hr hS=>?_
 obtain⟨d,e,hk,q⟩:=hS;have mE:bo∈Γ.tb:=ht▸Wz;refine⟨_,(ak (d7 (QW.pt (Bi (iJ (gQ (aE (mj (K:=K) rfl) rfl bl.isinstance_ bR (aa (qv 0) (aa (lx (v:=.ty "tuple") rfl bl.tuple_ fX rfl) af))))) (w5 (iJ (GA Bk Bk ay (aE (dq (K:=K) rfl hK) rfl bl.len_ xy (aa (qv 0) af)) (wY (i:=9) rfl ip ⟨_,rfl⟩))))))
   (ax (bj kG))
   qss_nil)
  (ak (aI (i:=1) ox.nd rfl (RI rfl) (aE (dq (K:=K) rfl hK) rfl bl.len_ xy (aa (qv 0) af)))
  (ak (eE At rfl (jT (K:=K) rfl (jR (aa ay (aa ay af)))) (fun ow eP ew eK et=>by have hP:=hP.trans eP.symm;have hw:=hw.trans ew.symm;have hK:=hK.trans eK.symm;have ht:=ht.trans et.symm;have mE:=et.symm▸mE;exact⟨(a8 (i:=2) ox.nd rfl (RI rfl)),(ax (d7 (gQ (DW (k:=4) (N':=["row","many","width"]) (tn:=1) (idx:=[1,2]) mE (hr.mono (by decide)) rfl (show aJ ["thing","many","width"] (aj j4) _ ["row","many","width"] 1 [1,2] from by decide +kernel) rfl rfl mD.code mD.hd dF rfl bl.all_ (jT (K:=K) rfl (qv 0)) (fun _ _ _ _ _ _ _ hr=>(a8 (i:=0) (show ON [("row" : bv),("many" : bv),("width" : bv)] from by decide +kernel) rfl (sK rfl))) (fun _ _ _ _ _ _ _ hr=>eG) (fun _ _ _ _ _ _ _ hr=>(aK G3 (hr.mono (by decide)) rfl gf.mg gf.fn.kp gf.bd bN hP hw hK ht XR.none (aa (qv 0) (aa (qv 1) (aa (qv 2) af)))))))
   (ax (bj kG))
   qss_nil))⟩))
  (ax (bj kG))))),?_⟩
 subst e;cases d with
 |tup rs=>
  refine⟨by decide,?_⟩
  have row:∀(n:Nat) (D:Bool->Mh->Prop),(D (rs.all (ik rs.length n)) Γ.M0)->kJ (zgName 0) zNoIf (zCall Pl (fun _ _=>False) (zCons (zVar 0) (zCons (zVar 1) (zCons (zVar 2) zNil)))) rs [none,some (.int rs.length),some (.int (n:Nat))] Γ.M0 D:=fun n D hD=>by
   refine tD (ik rs.length n) (fun τ=>∃x,τ=[x,some (.int rs.length),some (.int (n:Nat))]) ⟨none,rfl⟩ (fun d hd τ ⟨x,e⟩ R hR=>?_) hD
   subst e;exact⟨d,rs.length,n,rfl,xp.mp hk d hd,hR _ ⟨_,rfl⟩⟩
  simp! only[];refine eX (fun h1=>eX (fun h2=>?_) (fun h2=>⟨by decide,?_⟩)) (fun h1=>?_)
  ·rw[show j6 (.tup rs)=false by simp at h1 h2;simp[j6];intro z;omega]at q
   exact .inl q
  ·have e:j6 (.tup rs)=(rs.all (ik rs.length 2) || rs.all (ik rs.length 3)) :=by
    simp at h1 h2;simp only[j6];rw[decide_eq_true (by omega),XV]
   rw[e]at q;refine row 2 _ (eX (fun z=>?_) (fun z=>row 3 _ (eX (fun z2=>?_) (fun z2=>?_))))
   ·rw[z]at q;exact .inl q
   ·rw[z,z2]at q;exact .inl q
   ·rw[z,z2]at q;exact .inl q
  ·rw[show j6 (.tup rs)=false by simp at h1;simp[j6];intro z;omega]at q
   exact .inl q
 |_=>first|exact⟨by decide,.inl q⟩|exact nomatch hk
theorem yO:aP ["thing"] ["thing"] (aj gV):=⟨rfl,rfl,rfl,by decide +kernel,rfl,by decide +kernel,by decide +kernel⟩
theorem EY {m:Int}{g:Int}(h:0<=g/\g<m):fQ m (.int g)=true :=by simp[fQ,h.1,h.2]
theorem Ag {net:List (List Int)}{n:Nat}(o:aU net n):j6 (eN net)=true :=by
 have hr:∀d∈net.map eI,ik (net.map eI).length n d=true:=fun d hd=>by
  obtain⟨r,hr,rfl⟩:=l6.mp hd;obtain⟨h1,h2⟩:=o.row r hr;simp only[ik,ci];rw[decide_eq_true h1,XV,xp];intro d hd;obtain⟨g,hg,rfl⟩:=l6.mp hd;exact EY (h2 g hg)
 have ho:=o.one;have hn:=o.nine;simp only[j6,eN];rw[decide_eq_true (by rw[ci];omega),XV]
 have ha:=xp.mpr hr;rcases o.wid with rfl|rfl
 ·rw[ha];rfl
 ·rw[ha,Bool.or_true]
theorem Ah (net:List (List Int)):BI (eN net)=true :=by
 simp only[BI,eN];rw[xp];intro d hd;obtain⟨r,_,rfl⟩:=l6.mp hd;simp only[G2,eI];rw[xp];intro d hd;obtain⟨g,hg,rfl⟩:=l6.mp hd;rfl
def BJ (C:ag):bX:=fun ds M Q E=>∃d,ds=[d]/\BI d=true/\(j6 d=true->Q .ao M)/\(j6 d=false->E C M)
theorem yP {f f1:ag}{fd bP:mf}{C0 C_NoNet:ag}{cs:List ag}(D:Df K mg "need_net" gV ["thing"] f fd) (gh:Df K mg "is_net" j4 ["thing"] f1 bP) (qt:FnOk P w K mg base bq 6 f1 bP ["thing"] (aW P w K tb Pn))
  (X_:wG K C0 cs) (iq:C_NoNet∈cs) (jq:mg "NoNet" = some (.ref C_NoNet)):FnOk P w K mg base (dj P w) 7 f fd ["thing"] (aW P w K tb (BJ C_NoNet)) :=by
 refine mq D yO (fun ds M Q E hS=>by obtain⟨d,e,_⟩:=hS;rw[e];rfl) fun A outer s E Γ ds Q' E' hP hw hK ht hE hr hS=>?_
 obtain⟨d,e,hk,q1,q2⟩:=hS;refine⟨_,(ax (d7 (iJ (gQ (aK qt (hr.mono (by decide)) rfl gh.mg gh.fn.kp gh.bd bN hP hw hK ht XR.none (aa (qv 0) af))))
   (ax (qj (X_.ex _ iq) XW rfl wB hE rfl jq (aa rP af)))
   qss_nil)),?_⟩
 subst e;simp! only[];refine⟨d,rfl,hk,eX (fun h=>?_) (fun h=>?_)⟩
 ·exact⟨by decide,q2 (by simpa using h)⟩
 ·exact .inl (q1 (by simpa using h))
end
section
theorem va {κ:Type} [DecidableEq κ] {step:κ->Nat->κ}{k:κ}{w:bv}{st:List κ×List bv}:∀{n a:Nat},a<n->step k a∈(visit step k w n st).1
 |n+1,a,h=>by
          rw[fq];obtain⟨ks,ws,h1,_⟩:=uW step k w (visit step k w n st) n;by_cases e:a=n
          ·subst e;unfold f9;split
           ·assumption
           ·exact kw _ (rf.mpr rfl)
          ·rw[h1];exact ze _ (va (by omega))
theorem sE {κ:Type} [DecidableEq κ] {step:κ->Nat->κ}{k:κ}{w:bv}{st:List κ×List bv}:∀{n:Nat}{x:κ},x∈(visit step k w n st).1->x∈st.1\/∃a,a<n/\x=step k a
 |0,x,h=>.inl h
 |n+1,x,h=>by
          rw[fq]at h;have h2:x∈(visit step k w n st).1\/x=step k n :=by
           unfold f9 at h;split at h
           ·exact .inl h
           ·exact(EU.mp h).imp id rf.mp
          rcases h2 with h2|h2
          ·exact(sE h2).imp id fun⟨a,ha,e⟩=>⟨a,by omega,e⟩
          ·exact .inr ⟨n,by omega,h2⟩
theorem Ai {κ:Type} [DecidableEq κ] {U:List κ}{step:κ->Nat->κ}{n most:Nat}{R:κ->Prop}(hs:∀k∈U,∀a,a<n->step k a∈U) (hm:U.length<=most) (hR:∀k,R k->∀a,a<n->R (step k a)):∀(fuel i:Nat) (st:List κ×List bv),eY U st->U.length<fuel+i->i<=st.1.length->
  (∀j k,st.1[j]?=some k->j<i->∀a,a<n->step k a∈st.1)->(∀k∈st.1,R k)->
  (∀k∈st.1,k∈(gU step n most fuel i st).1)/\(∀k∈(gU step n most fuel i st).1,R k/\∀a,a<n->step k a∈(gU step n most fuel i st).1)
 |0,i,st,ok,hf,hi,hc,hr=>by have:=ok.le;omega
 |fuel+1,i,st,ok,hf,hi,hc,hr=>by
          have hle:=ok.le;have hlen:=ok.len;by_cases aO:i<st.1.length
          ·have h1:=ar aO;have h2:=ar (show i<st.2.length by omega)
           have Pq:st.1[i]∈st.1:=wr aO;rw[xF h1 h2 (by omega)]
           obtain⟨ks,ws,g1,g2⟩:=jf step st.1[i] (st.2[i]'(by omega)) n st
           have sub:∀x∈st.1,x∈(visit step st.1[i] (st.2[i]'(by omega)) n st).1:=fun x hx=>by rw[g1];exact ze _ hx
           obtain⟨r1,r2⟩:=Ai hs hm hR fuel (i+1) (visit step st.1[i] (st.2[i]'(by omega)) n st) (ok.visit h2 fun a ha=>hs _ (ok.sub _ Pq) a ha) (by omega) (by rw[g1,xb];omega) (fun j k hj Xr a ha=>by
            rw[g1,wb (by omega)]at hj
            by_cases e:j=i
            ·subst e;rw[h1]at hj;cases hj;exact va ha
            ·exact sub _ (hc j k hj (by omega) a ha)) (fun k hk=>by
            rcases sE hk with z|⟨a,ha,rfl⟩
            ·exact hr k z
            ·exact hR _ (hr _ Pq) a ha)
           exact⟨fun k hk=>r1 k (sub k hk),r2⟩
          ·have e:gU step n most (fuel+1) i st=st :=by
            unfold gU;rw[ET (by omega)]
           rw[e];exact⟨fun k hk=>hk,fun k hk=>⟨hr k hk,fun a ha=>by
            obtain⟨j,hj⟩:=qr.mp hk;exact hc j k hj (by have:=(cr.mp hj).1;omega) a ha⟩⟩
end
section
inductive fR (net:List (List Int)) (n:Nat) (s:Int):Int->Prop where
 |base:fR net n s s
 |step {p:Int} {a:Nat} (h:fR net n s p) (ha:a<n):fR net n s (cy net p a)
theorem fR.trans {net:List (List Int)}{n:Nat}{s p q:Int}(h:fR net n s p) (h2:fR net n p q):fR net n s q :=by
 induction h2 with
 |base=>exact h
 |step _ ha ih=>exact ih.step ha
theorem ya {net:List (List Int)}{n:Nat}(O:aU net n) {s p:Int}(hs:s∈au net) (h:fR net n s p):p∈au net :=by
 induction h with
 |base=>exact hs
 |step _ ha ih=>exact gb O ih ha
theorem places_len {net:List (List Int)}:(au net).length=net.length :=by simp[au]
theorem vb {net:List (List Int)}:(au net).Nodup :=by
 unfold au;refine XT.map _ (fun a b h=>?_) Yw
 intro e;exact h (Int.ofNat.inj e)
theorem EZ {net:List (List Int)}:(au net).Pairwise (·<=·) :=by
 unfold au;refine XT.map _ (fun a b h=>?_) (Xw (n:=net.length))
 show (a:Int)<=b;omega
theorem lD {net:List (List Int)}{n:Nat}(O:aU net n) {s:Int}(hs:s∈au net):eY (au net) (cM net n s):=
 bfs_ok (fun _ hk _ ha=>gb O hk ha) _ _ _ (om hs)
theorem jr {net:List (List Int)}{n:Nat}(O:aU net n) {s p:Int}(hs:s∈au net):p∈(cM net n s).1 ↔ fR net n s p :=by
 have hl:=places_len (net:=net);have h9:=O.nine;obtain⟨h1,h2⟩:=Ai (U:=au net) (step:=cy net) (n:=n) (most:=511) (R:=fR net n s) (fun _ hk _ ha=>gb O hk ha) (by omega) (fun k hk a ha=>hk.step ha) (net.length+1) 0 ([s],[""]) (om hs) (by omega) (nw _) (fun j k _ hj=>absurd hj (X4 _)) (fun k hk=>by rw[rf.mp hk];exact .base)
 constructor
 ·exact fun h=>(h2 p h).1
 ·intro h;induction h with
  |base=>exact h1 s (rf.mpr rfl)
  |step _ ha ih=>exact(h2 _ ih).2 _ ha
def vF (net:List (List Int)) (n:Nat) (a b:Int):Prop:=fR net n a b/\fR net n b a
noncomputable instance {net:List (List Int)} {n:Nat} {a b:Int}:Decidable (fR net n a b):=OF _
noncomputable instance {net:List (List Int)} {n:Nat} {a b:Int}:Decidable (vF net n a b):=OF _
noncomputable def gm (net:List (List Int)) (n:Nat) (a:Int):List Int:=(au net).filter fun b=>decide (vF net n a b)
def mF (net:List (List Int)) (n:Nat) (a:Int):Prop:=∀b∈gm net n a,a<=b
noncomputable instance {net:List (List Int)} {n:Nat} {a:Int}:Decidable (mF net n a):=OF _
noncomputable def du (net:List (List Int)) (n i:Nat):List Int:=((au net).take i).filter fun a=>decide (mF net n a)
noncomputable def cQ (net:List (List Int)) (n:Nat):List (List Int):=(du net n net.length).map (gm net n)
theorem js {net:List (List Int)}{n:Nat}{a b:Int}:b∈gm net n a ↔ b∈au net/\vF net n a b :=by
 unfold gm;rw[Wp,decide_eq_true_eq]
theorem mG {net:List (List Int)}{n:Nat}{a:Int}(h:a∈au net):a∈gm net n a:=js.mpr ⟨h,.base,.base⟩
theorem yb {net:List (List Int)}{n:Nat}{a:Int}:(gm net n a).Pairwise (·<=·):=EZ.filter _
theorem KP {net:List (List Int)}{n:Nat}{a:Int}:(gm net n a).length<=net.length:=v6 (List.length_filter_le _ _) (Yc places_len)
def fV (net:List (List Int)) (n:Nat) (p:Int):List Int:=(cM net n p).1.filter fun g=>decide (p∈(cM net n g).1)
theorem j7 {net:List (List Int)}{n:Nat}(O:aU net n) {p g:Int}(hp:p∈au net):g∈fV net n p ↔ g∈gm net n p :=by
 unfold fV;rw[Wp,decide_eq_true_eq,js,jr O hp];constructor
 ·rintro⟨h1,h2⟩;have hg:=ya O hp h1;exact⟨hg,h1,(jr O hg).mp h2⟩
 ·rintro⟨hg,h1,h2⟩;exact⟨h1,(jr O hg).mpr h2⟩
theorem vc {net:List (List Int)}{n:Nat}(O:aU net n) {p:Int}(hp:p∈au net):(gm net n p).Perm (fV net n p):=
 (List.perm_ext_iff_of_nodup (vb.filter _) ((lD O hp).nd.filter _)).mpr fun q=>(j7 O hp).symm
theorem E1 {net:List (List Int)}{n:Nat}(O:aU net n) {p:Int}(hp:p∈au net):sortI (fV net n p)=gm net n p:=(wz (vc O hp) yb).symm
theorem G4 {net:List (List Int)}{n:Nat}(O:aU net n) {p:Int}(hp:p∈au net):(fV net n p).length<=9 :=by
 rw[<- (vc O hp).length_eq];exact v6 KP O.nine
theorem G5 {net:List (List Int)}{n:Nat}(O:aU net n) {p m:Int}(hp:p∈au net) (hm:m∈fV net n p) (h:∀a∈fV net n p,m<=a):p=m ↔ mF net n p :=by
 constructor
 ·rintro rfl b hb;exact h b ((j7 O hp).mpr hb)
 ·intro hh;have h1:=hh m ((j7 O hp).mp hm);have h2:=h p ((j7 O hp).mpr (mG hp));omega
theorem cls_cons {net:List (List Int)}{n:Nat}{a:Int}(h:a∈au net):∃v t,gm net n a=v::t/\(v=a ↔ mF net n a) :=by
 cases e:gm net n a with
 |nil=>have:=mG (n:=n) h;rw[e]at this;cases this
 |cons v t=>
  refine⟨v,t,rfl,?_⟩;have pw:=yb (net:=net) (n:=n) (a:=a);rw[e,List.pairwise_cons]at pw;constructor
  ·intro ev b hb;subst ev;rw[e]at hb;rcases l8.mp hb with rfl|hb
   ·exact LG _
   ·exact pw.1 b hb
  ·intro hh;have h1:=hh v (by rw[e];exact i4)
   have hs:=mG (n:=n) h;rw[e]at hs;rcases l8.mp hs with rfl|hs
   ·rfl
   ·have:=pw.1 _ hs;omega
theorem pV {net:List (List Int)}{n i:Nat}(hi:i<net.length):du net n (i+1)=if mF net n (i:Int) then du net n i++[(i:Int)] else du net n i :=by
 have e:(au net).take (i+1)=(au net).take i++[(i:Int)] :=by
  have:(au net)[i]?=some (i:Int) :=by unfold au;rw[db,GT hi];rfl
  rw[List.take_succ,this];rfl
 unfold du;rw[e,List.filter_append];by_cases h:mF net n (i:Int)
 ·rw[if_pos h,Yy,if_pos (decide_eq_true h)];rfl
 ·rw[if_neg h,Yy,if_neg (by simpa using h)];simp
theorem sF {net:List (List Int)}{n i:Nat}:(du net n i).length<=net.length:=v6 (List.length_filter_le _ _) (v6 (List.length_take_le' ..) (Yc places_len))
theorem lF {net:List (List Int)}{i:Nat}(h:i<net.length):((i:Nat):Int)∈au net:=a9.mpr ⟨by omega,by omega⟩
end
section
variable {P:ff}{w:hX}{K:bn}{mg:bv->Option ap}{base:ii}{tb:b5}{C_NoNet:ag}
theorem j8:aP ["net","reached","told","place","part"] ["net"] (aj jo):=⟨rfl,rfl,rfl,by decide +kernel,rfl,by decide +kernel,by decide +kernel⟩
theorem pz:aP ["net"] ["net"] (aj eu):=⟨rfl,rfl,rfl,by decide +kernel,rfl,by decide +kernel,by decide +kernel⟩
theorem pW {M0 M:Mh}(h:Keeps M0 M) {a:ag}(ha:M a=none):M0 a=none :=by
 cases e:M0 a with
 |none=>rfl
 |some u=>rw[h a u e]at ha;cases ha
structure kR (M0 M:Mh) (a:ag) (bs:List ag) (rs:List (List Int)):Prop where
 a0:M0 a=none
 am:M a=some (.lst (bs.map .ptr))
 len:bs.length=rs.length
 bm:∀(j:Nat) (b:ag) (r:List Int),bs[j]?=some b->rs[j]?=some r->M b=some (.lst (r.map .int))
 b0:∀b∈bs,M0 b=none/\b≠a
 kp:Keeps M0 M
 oth:∀c o,M c=some o->M0 c=some o\/c=a\/∃r:List Int,o=.lst (r.map .int)
theorem kR.junk {M0 M:Mh}{a c:ag}{bs:List ag}{rs:List (List Int)}{r:List Int}(h:kR M0 M a bs rs) (hc:M c=none):kR M0 (az M c (.lst (r.map .int))) a bs rs :=by
 have Aj:a≠c:=fun e=>by have:=h.am;rw[e,hc]at this;cases this
 have c0:=pW h.kp hc;refine⟨h.a0,by rw[aq Aj];exact h.am,h.len,fun j b s hb hs=>?_,h.b0,.upd c0 h.kp,fun d o e=>?_⟩
 ·have:=h.bm j b s hb hs;rw[aq (fun e=>by rw[e,hc]at this;cases this)]
  exact this
 ·by_cases z:d=c
  ·subst z;rw[updM_same]at e;cases e;exact .inr (.inr ⟨r,rfl⟩)
  ·rw[aq z]at e;exact h.oth d o e
theorem kR.snoc {M0 M:Mh}{a c:ag}{bs:List ag}{rs:List (List Int)}{r:List Int}(h:kR M0 M a bs rs) (hc:M c=none):kR M0 (az (az M c (.lst (r.map .int))) a (.lst (bs.map .ptr++[.ptr c]))) a (bs++[c]) (rs++[r]) :=by
 have Aj:a≠c:=fun e=>by have:=h.am;rw[e,hc]at this;cases this
 have c0:=pW h.kp hc;have hj:=h.junk (r:=r) hc;refine⟨h.a0,by rw[updM_same,xw];rfl,by simp[h.len],fun j b s hb hs=>?_,fun b hb=>?_,.upd h.a0 hj.kp,fun d o e=>?_⟩
 ·by_cases hi:j<bs.length
  ·rw[wb hi]at hb;rw[wb (by rw[<- h.len];exact hi)]at hs
   rw[aq (h.b0 b (lp hb)).2];exact hj.bm j b s hb hs
  ·have rM:=(cr.mp hb).1;rw[xb,Da]at rM;have e:j=bs.length :=by omega
   subst e;rw[AE (ce _),TW]at hb;rw[h.len,AE (ce _),TW]at hs;cases hb;cases hs;rw[aq (wp Aj),updM_same]
 ·rcases EU.mp hb with z|z
  ·exact h.b0 b z
  ·rw[rf.mp z];exact⟨c0,wp Aj⟩
 ·by_cases z:d=a
  ·exact .inr (.inl z)
  ·rw[aq z]at e;exact hj.oth d o e
theorem BK {m j:Nat}(h:j<m):(dn 0 m)[j]?=some (.int (j:Nat)) :=by
 unfold dn;rw[db,GT h];show some (Dv.int (0+(j:Int)))=_;rw[T0]
def wF (net:List (List Int)) (n:Nat):Dv->Dv
 | .int i=>ou (cM net n i)
 |d=>d
def Jg (net:List (List Int)) (n:Nat):List Dv:=(dn 0 net.length).map (wF net n)
theorem Jh {net:List (List Int)}{n:Nat}{p:Int}(h:p∈au net):dE (Jg net n) p=some (ou (cM net n p)) :=by
 obtain⟨h1,h2⟩:=a9.mp h;obtain⟨j,rfl⟩:=FM h1;refine eF ?_;unfold Jg;rw[db,BK (by omega)]
 rfl
theorem Pr {net:List (List Int)}{n:Nat}{p:Int}:(((cM net n p).1.map FF).map tH).filter (fun d=>match d with | .int g=>decide (p∈(cM net n g).1)|_=>false)=(fV net n p).map Dv.int :=by
 unfold fV;rw[wv,List.filter_map];rfl
theorem G6 {S S':bX}{cx:fD}{k:Nat}{f:ag}{fd:mf}{ps:List bv}(G:FnOk P w K mg base cx k f fd ps (aW P w K tb S')) (h:∀ds M Q E,S ds M Q E->S' ds M Q E):FnOk P w K mg base cx k f fd ps (aW P w K tb S):=
 G.imp fun vs H Q E ⟨β,ds,M,Q',E',e1,e2,e3,e4,m,r,hS,q,qe⟩=>⟨β,ds,M,Q',E',e1,e2,e3,e4,m,r,h _ _ _ _ hS,q,qe⟩
def G7:bX:=fun ds M Q _=>∃net n,ds=[eN net]/\aU net n/\((∀a bs M',kR M M' a bs (cQ net n)->Q (.ptr a) M')\/Q (.lst ((cQ net n).map i5)) M)
theorem G8 {f f1 f2:ag}{fd bP fd2:mf}(D:Df K mg "parts" jo ["net"] f fd)
  (cf:Df K mg "need_net" gV ["thing"] f1 bP) (fx:FnOk P w K mg base (dj P w) 7 f1 bP ["thing"] (aW P w K tb (BJ C_NoNet)))
  (bf:Df K mg "first_words" aB ["net","start"] f2 fd2) (di:FnOk P w K mg base bq 8 f2 fd2 ["net","start"] (aW P w K tb xT)) (bl:Bl mg) :
  FnOk P w K mg base (dj P w) 9 f fd ["net"] (aW P w K tb G7) :=by
 refine mq D j8 (fun ds M Q E hS=>by obtain⟨net,n,e,_⟩:=hS;rw[e];rfl) fun A outer s E Γ ds Q' E' hP hw hK ht hE hr hS=>?_
 obtain⟨net,n,e,O,q⟩:=hS;refine⟨_,(ak (fm (aK fx (hr.mono (by decide)) rfl cf.mg cf.fn.kp cf.bd lV hP hw hK ht hE (aa (qv 0) af)))
  (ak (aI (i:=1) j8.nd rfl (RI rfl) (fO (N':=["place","net"]) (tn:=1) (idx:=[0]) rfl (show aJ ["net","reached","told","place","part"] (aj jo) _ ["place","net"] 1 [0] from by decide +kernel) (dW rfl bl.range_ (aa (aE (dq (K:=K) rfl hK) rfl bl.len_ xy (aa (qv 0) af)) af)) (fun _ _ _ _ _=>(a8 (i:=0) (show ON [("place" : bv),("net" : bv)] from by decide +kernel) rfl (sK rfl))) (fun _ _ _ _ _=>eG) (fun _ _ _ _ _=>(aK di (hr.mono (by decide)) rfl bf.mg bf.fn.kp bf.bd bN hP hw hK ht XR.none (aa (qv 1) (aa (qv 0) af))))))
  (ak (aI (i:=2) j8.nd rfl (sK rfl) (ly af))
  (ak (PS.iD (eE At rfl (dW rfl bl.range_ (aa (aE (dq (K:=K) rfl hK) rfl bl.len_ xy (aa (qv 0) af)) af)) (fun ow eP ew eK et=>by have hP:=hP.trans eP.symm;have hw:=hw.trans ew.symm;have hK:=hK.trans eK.symm;have ht:=ht.trans et.symm;exact⟨(a8 (i:=3) j8.nd rfl (RI rfl)),(ak (rY (i:=4) j8.nd rfl rfl (N':=["goal","place","reached"]) (tn:=1) (idx:=[3,1]) rfl (show aJ ["net","reached","told","place","part"] (aj jo) _ ["goal","place","reached"] 1 [3,1] from by decide +kernel) (Kt (cc (dA (K:=K) rfl) (qv 1) (qv 3) (fun _ _=>rfl))) (fun _ _ _ _ _=>(a8 (i:=0) (show ON [("goal" : bv),("place" : bv),("reached" : bv)] from by decide +kernel) rfl (sK rfl))) (fun _ _ _ _ _=>(Kd (cA (Q4 hr.units) (qv 1) (cc (dA (K:=K) rfl) (qv 2) (qv 0) (fun _ _=>rfl)) (by rfl)))) (fun _ _ _ _ _=>(qv 0)))
  (ax (d7 (cA sZ (qv 3) (aE (OT (K:=K) rfl rfl) rfl bl.min_ wm (aa (qv 4) af)) (cS _))
   (ax (fm (kO (K:=K) rfl DD NL NO jV (qv 2) (aa (aE (Er hP hw (K:=K) rfl rfl) rfl bl.sorted_ uz (aa (qv 4) af)) af))))
   qss_nil)))⟩)))
  (ax (bj (qv 2))))))),?_⟩
 subst e;have h9:=O.nine;have big:(1000:Nat)<sizeLine :=by decide
 refine⟨_,rfl,Ah net,fun _=>?_,fun h=>by rw[Ag O]at h;cases h⟩
 simp! only[];refine⟨by omega,by omega,by omega,fo (wF net n) (fun τ M=>(∃x,τ=[x,some (eN net)])/\M=Γ.M0) ⟨⟨_,rfl⟩,rfl⟩ (fun d hd τ M hI R hR=>?_) (fun τ M hI=>?_)⟩
 ·obtain⟨⟨x,rfl⟩,rfl⟩:=hI;obtain⟨j,hj⟩:=qr.mp hd;obtain⟨rfl,Ji⟩:=dX hj;simp! only[];rw[T0]at hR;exact⟨net,n,_,rfl,O,lF Ji,hR _ _ ⟨⟨_,rfl⟩,rfl⟩⟩
 obtain⟨⟨x,rfl⟩,rfl⟩:=hI;refine⟨nw _,fun a ha=>⟨by omega,by omega,?_⟩⟩
 refine cL (fun i ρ M=>∃bs,(∃x3 x4,ρ=[some (eN net),some (.lst (Jg net n)),some (.ptr a),x3,x4])/\kR Γ.M0 M a bs ((du net n i).map (gm net n))/\i<=net.length) ⟨[],⟨_,_,rfl⟩,⟨ha,updM_same,rfl,(fun j b r h=>nomatch h),(fun b h=>nomatch h),.upd ha .refl,fun c o e=>?_⟩,nw _⟩ (fun i d ρ M N hd hJ hN=>?_) (fun ρ M hJ=>?_)
 ·by_cases z:c=a
  ·exact .inr (.inl z)
  ·rw[aq z]at e;exact .inl e
 ·obtain⟨bs,⟨x3,x4,rfl⟩,j9,hi⟩:=hJ;obtain⟨rfl,gz⟩:=dX hd;have hp:=lF (net:=net) gz;simp! only[Jh hp];show _<sizeLine/\_;have ok:=lD O hp;have hle:=ok.le;have bM:=places_len (net:=net);refine⟨by rw[ci];omega,?_⟩
  refine qk (fun d=>match d with | .int g=>decide ((i:Int)∈(cM net n g).1)|_=>false) (fun d hd R hR=>?_) ?_
  ·rw[wv]at hd;obtain⟨g,hg,rfl⟩:=l6.mp hd;have SV:=ya O hp ((jr O hp).mp hg);have WB:=lD O SV;show zTest (zOp (zDIn false) (zVar 1) (zOp zIx (zVar 2) (zVar 0))) [some (.int g),some (Dv.int i),some (Dv.lst (Jg net n))] M R;simp! only[Jh SV];show R (look ((cM net n g).1.map FF) ((cM net n g).2.map Dv.str) (FF (i:Int))).isSome M;rw[my oZ,XA,uX WB.len];exact hR
  ·rw[Pr,ZG,uI];have Xs:=G4 (n:=n) O hp;have Rh:(i:Int)∈fV net n i:=(j7 O hp).mpr (mG hp);have Xt:bs.length<=9 :=by rw[j9.len,ci];exact v6 sF h9
   refine⟨Xx Rh,(fun t e=>nomatch e),fun m hm Uv=>?_⟩
   have CO:=G5 O hp hm Uv;refine eX (fun h=>?_) (fun h=>?_)
   ·have h:=of_decide_eq_true h;rw[j9.am];refine⟨trivial,by show (fV net n (i:Int)).length<64;omega,fun c hc=>?_⟩
    show match az M c (.lst ((sortI (fV net n (i:Int))).map .int)) a with|some (Mo.lst xs)=>_|_=>False
    rw[E1 O hp];have Aj:a≠c:=fun e=>by have:=j9.am;rw[e,hc]at this;cases this
    rw[aq Aj,j9.am];refine⟨by rw[ci];omega,hN _ _ ⟨bs++[c],⟨_,_,rfl⟩,?_,gz⟩⟩
    rw[pV gz,if_pos (CO.mp h),xw];exact j9.snoc hc
   ·have h:=of_decide_eq_false h;refine hN _ _ ⟨bs,⟨_,_,rfl⟩,?_,gz⟩;rw[pV gz,if_neg fun z=>h (CO.mpr z)]
    exact j9
 ·obtain⟨bs,⟨x3,x4,rfl⟩,j9,hi⟩:=hJ;rw[rangeD_len]at j9;simp! only[];rcases q with q|q
  ·exact .inl (q a bs M j9)
  ·refine .inr ⟨j9.kp,_,.ptr (ds':=(cQ net n).map i5) j9.a0 j9.am (by rw[ci,ci];exact j9.len) fun j d d' e1 e2=>?_,q⟩
   rw[db]at e1 e2;obtain⟨b,hb,rfl⟩:=ma.mp e1;obtain⟨r,hr,rfl⟩:=ma.mp e2;refine .ptr (j9.b0 b (lp hb)).1 (j9.bm j b r hb hr) rfl fun k d d' e1 e2=>?_
   rw[e1]at e2;cases e2;obtain⟨x,_,rfl⟩:=l6.mp (lp e1);exact .pin (.int x)
def Ak:bX:=fun ds M Q _=>∃net n,ds=[eN net]/\aU net n/\Q (.lst ((cQ net n).map i5)) M
theorem BL {net:List (List Int)}{n:Nat}:(cQ net n).length<=net.length :=by unfold cQ;rw[ci];exact sF
def E2:bX:=fun ds M Q _=>∃net n,ds=[eN net]/\aU net n/\Q (.bl (decide ((cQ net n).length=1))) M
theorem pA {f f1:ag}{fd bP:mf}(D:Df K mg "hangs_together" eu ["net"] f fd)
  (jt:Df K mg "parts" jo ["net"] f1 bP) (KQ:FnOk P w K mg base (dj P w) 9 f1 bP ["net"] (aW P w K tb Ak)) (bl:Bl mg) :
  FnOk P w K mg base (dj P w) 10 f fd ["net"] (aW P w K tb E2) :=by
 refine mq D pz (fun ds M Q E hS=>by obtain⟨net,n,e,_⟩:=hS;rw[e];rfl) fun A outer s E Γ ds Q' E' hP hw hK ht hE hr hS=>?_
 obtain⟨net,n,e,O,q⟩:=hS;refine⟨_,(ax (bj (sY sZ (aE (dq (K:=K) rfl hK) rfl bl.len_ xy (aa (aK KQ (hr.mono (by decide)) rfl jt.mg jt.fn.kp jt.bd lV hP hw hK ht hE (aa (qv 0) af)) af)) ay (cS _)))),?_⟩
 subst e;have h9:=O.nine;have hl:=BL (net:=net) (n:=n);simp! only[];refine⟨net,n,rfl,O,?_⟩;simp! only[];rw[show decide (((cQ net n).length:Int)=1)=decide ((cQ net n).length=1) from decide_eq_decide.mpr (by omega)]
 exact .inl q
end
section
inductive lH (net:List (List Int)) (n:Nat):Nat->Int->Int->Prop where
 |nil (s:Int):lH net n 0 s s
 |snoc {L:Nat} {s p:Int} {a:Nat} (h:lH net n L s p) (ha:a<n):lH net n (L+1) s (cy net p a)
theorem lH.app {net:List (List Int)}{n K L:Nat}{s p q:Int}(h:lH net n K s p) (h2:lH net n L p q):lH net n (K+L) s q :=by
 induction h2 with
 |nil=>exact h
 |snoc _ ha ih=>exact(ih h).snoc ha
theorem KR {net:List (List Int)}{n:Nat}{s p:Int}(h:fR net n s p):∃L,lH net n L s p :=by
 induction h with
 |base=>exact⟨0,.nil s⟩
 |step _ ha ih=>obtain⟨L,w⟩:=ih;exact⟨L+1,w.snoc ha⟩
theorem Pt {net:List (List Int)}{n L:Nat}(O:aU net n) {s p:Int}(hs:s∈au net) (h:lH net n L s p):p∈au net :=by
 induction h with
 |nil=>exact hs
 |snoc _ ha ih=>exact gb O (ih hs) ha
def mH (W:Nat->Int->Prop) (st:List Int×List bv):Prop:=st.1.length=st.2.length/\∀(i:Nat) (k:Int) (w:bv),st.1[i]?=some k->st.2[i]?=some w->W w.length k
theorem E3 {W:Nat->Int->Prop}{step:Int->Nat->Int}{k:Int}{w:bv}{st:List Int×List bv}{a:Nat}(o:mH W st) (h:W (w.length+1) (step k a)):mH W (f9 step k w st a) :=by
 unfold f9;split
 ·exact o
 ·refine⟨by simp[o.1],fun i k2 w2 h1 h2=>?_⟩
  by_cases hi:i<st.1.length
  ·rw[wb hi]at h1;rw[wb (by rw[<- o.1];exact hi)]at h2
   exact o.2 i k2 w2 h1 h2
  ·have hl:=(cr.mp h1).1;rw[xb,Da]at hl;have e:i=st.1.length :=by omega
   subst e;rw[AE (ce _),TW]at h1;rw[o.1,AE (ce _),TW]at h2;cases h1;cases h2;rw[si,tI];exact h
theorem sG {W:Nat->Int->Prop}{step:Int->Nat->Int}{k:Int}{w:bv}{st:List Int×List bv}:∀{n:Nat},mH W st->(∀a,a<n->W (w.length+1) (step k a))->mH W (visit step k w n st)
 |0,o,_=>o
 |n+1,o,h=>by
          rw[fq];exact E3 (sG o fun a ha=>h a (by omega)) (h n (by omega))
theorem yc {W:Nat->Int->Prop}{step:Int->Nat->Int}{n most:Nat}(hW:∀L k,W L k->∀a,a<n->W (L+1) (step k a)):∀(fuel i:Nat) (st:List Int×List bv),mH W st->mH W (gU step n most fuel i st)
 |0,_,_,o=>o
 |fuel+1,i,st,o=>by
          cases e1:st.1[i]? with
          |none=>unfold gU;rw[e1];exact o
          |some k=>
           cases e2:st.2[i]? with
           |none=>unfold gU;rw[e1,e2];exact o
           |some w=>
            by_cases h:st.1.length<=most
            ·rw[xF e1 e2 h];exact yc hW fuel _ _ (sG o fun a ha=>hW _ _ (o.2 i k w e1 e2) a ha)
            ·unfold gU;rw[e1,e2];simp only[if_neg h];exact o
def tP (net:List (List Int)) (n:Nat) (p:Int):bv:=(look (cM net n 0).1 (cM net n 0).2 p).getD ""
def cR (net:List (List Int)) (n:Nat) (p:Int):Nat:=(tP net n p).length
theorem ir {net:List (List Int)}{n:Nat}(O:aU net n):(0:Int)∈au net:=a9.mpr ⟨LG _,by have:=O.one;omega⟩
theorem G9 {net:List (List Int)}{n:Nat}(O:aU net n) {p:Int}(h:fR net n 0 p):look (cM net n 0).1 (cM net n 0).2 p=some (tP net n p)/\lH net n (cR net n p) 0 p :=by
 have hp:=(jr O (ir O)).mpr h;obtain⟨i,hi⟩:=qr.mp hp;have ok:=lD O (ir O);have hl:=(cr.mp hi).1;have hw:=ar (show i<(cM net n 0).2.length by rw[<- ok.len];exact hl)
 have e:=oY ok.nd hi hw;have pr:mH (fun L k=>lH net n L 0 k) (cM net n 0):=yc (fun L k w a ha=>w.snoc ha) _ _ _ ⟨rfl,fun i k w h1 h2=>by
  match i with
  |0=>cases h1;cases h2;exact .nil _
  |i+1=>exact nomatch h1⟩
 have e2:tP net n p=(cM net n 0).2[i]'(by rw[<- ok.len];exact hl) :=by unfold tP;rw[e];rfl
 refine⟨by rw[e,e2],?_⟩
 unfold cR;rw[e2];exact pr.2 i p _ hi hw
def bY (net:List (List Int)) (n:Nat):Prop:=∀a∈au net,∀b∈au net,fR net n a b
noncomputable instance {net:List (List Int)} {n:Nat}:Decidable (bY net n):=OF _
structure Ha (net:List (List Int)) (n g:Nat):Prop where
 dv:∀p∈au net,∀a,a<n->(g:Int) ∣ (cR net n p:Int)+1 - cR net n (cy net p a)
 mx:∀c:Nat,(∀p∈au net,∀a,a<n->(c:Int) ∣ (cR net n p:Int)+1 - cR net n (cy net p a))->c ∣ g
theorem Pu {net:List (List Int)}{n g L:Nat}(O:aU net n) (h:∀p∈au net,∀a,a<n->(g:Int) ∣ (cR net n p:Int)+1 - cR net n (cy net p a)) {s q:Int}(hs:s∈au net) (w:lH net n L s q):(g:Int) ∣ (cR net n s:Int)+L - cR net n q :=by
 induction w with
 |nil s=>exact⟨0,by omega⟩
 | @snoc L s p a w ha ih=>
  have hp:=Pt O hs w;obtain⟨x,hx⟩:=ih hs;obtain⟨y,hy⟩:=h p hp a ha;exact⟨x+y,by rw[Int.mul_add,<- hx,<- hy];omega⟩
theorem KS {net:List (List Int)}{n g:Nat}(O:aU net n) (W:bY net n) (h:Ha net n g):0<g :=by
 have h0:=ir O;have hn:0<n :=by rcases O.wid with h|h<;>omega
 have hq:=gb O h0 hn;obtain⟨e,we⟩:=KR (W _ hq 0 h0);have w1:=((lH.nil (net:=net) (n:=n) 0).snoc hn).app we;have:=Pu O h.dv h0 w1;rw[show (cR net n 0:Int)+((0+1+e:Nat):Int) - cR net n 0=((0+1+e:Nat):Int) by omega]at this
 exact Nat.pos_of_dvd_of_pos (Int.natCast_dvd_natCast.mp this) (by omega)
theorem oy {net:List (List Int)}{n:Nat}(O:aU net n):(cQ net n).length=1 ↔ bY net n :=by
 have h0:=ir O;have hl:(cQ net n).length=(du net n net.length).length :=by unfold cQ;rw[ci]
 have hm:∀a,a∈du net n net.length ↔ a∈au net/\mF net n a:=fun a=>by
  unfold du;rw[GE (Yc places_len),Wp,decide_eq_true_eq]
 have hd:∀a∈au net,∃h,h∈du net n net.length/\vF net n a h:=fun a ha=>by
  obtain⟨v,t,e,_⟩:=cls_cons (n:=n) ha;have hv:v∈gm net n a :=by rw[e];exact i4
  obtain⟨pv,sv⟩:=js.mp hv;refine⟨v,(hm v).mpr ⟨pv,fun b hb=>?_⟩,sv⟩
  obtain⟨pb,sb⟩:=js.mp hb;have jO:b∈gm net n a:=js.mpr ⟨pb,sv.1.trans sb.1,sb.2.trans sv.2⟩;have pw:=yb (net:=net) (n:=n) (a:=a);rw[e,List.pairwise_cons]at pw;rw[e]at jO;rcases l8.mp jO with rfl|jO
  ·exact LG _
  ·exact pw.1 b jO
 rw[hl];constructor
 ·intro h1 a ha b hb;obtain⟨x,hx⟩:=List.length_eq_one_iff.mp h1;obtain⟨u,hu,su⟩:=hd a ha;obtain⟨v,hv,sv⟩:=hd b hb;rw[hx,rf]at hu hv;subst hu;subst hv;exact su.1.trans sv.2
 ·intro W;have WC:∀a∈du net n net.length,a=0:=fun a ha=>by
   obtain⟨pa,ha⟩:=(hm a).mp ha;have:=ha 0 (js.mpr ⟨h0,W a pa 0 h0,W 0 h0 a pa⟩);have:=(a9.mp pa).1;omega
  have nd:(du net n net.length).Nodup :=by
   unfold du;rw[GE (Yc places_len)];exact vb.filter _
  obtain⟨z,hz,_⟩:=hd 0 h0;have:=iT _ [0] nd fun k hk=>by rw[WC k hk];exact rf.mpr rfl
  have:=Xx hz;rw[Da]at *;omega
end
section
variable {P:ff}{w:hX}{K:bn}{mg:bv->Option ap}{base:ii}{tb:b5}{C_NoWhole:ag}
theorem fH:aP ["one","other"] ["one","other"] (aj d9):=⟨rfl,rfl,rfl,by decide +kernel,rfl,by decide +kernel,by decide +kernel⟩
theorem vk:aP ["net"] ["net"] (aj gW):=⟨rfl,rfl,rfl,by decide +kernel,rfl,by decide +kernel,by decide +kernel⟩
def Pw:bX:=fun ds M Q _=>∃a b:Int,ds=[.int a,.int b]/\Q (.int (ZZ a.natAbs b.natAbs:Nat)) M
theorem KU (a b:Nat):ZZ b (a % b)=ZZ a b :=by rw[Nat.gcd_comm,<- Nat.gcd_rec,Nat.gcd_comm]
theorem pB {f:ag}{fd:mf}(D:Df K mg "common_divisor" d9 ["one","other"] f fd) (bl:Bl mg) :
  FnOk P w K mg base bq 1 f fd ["one","other"] (aW P w K tb Pw) :=by
 refine gT D fH (fun ds M Q E hS=>by obtain⟨a,b,e,_⟩:=hS;rw[e];rfl) fun A outer s E Γ ds Q' E' hP hw hK ht hr hS=>?_
 obtain⟨a,b,e,q⟩:=hS;refine⟨_,(ak (Es (i:=0) (j:=1) rfl fH.nd rfl rfl (by decide) rfl rfl (aa (aE Bm rfl bl.abs_ wo (aa (qv 0) af)) (aa (aE Bm rfl bl.abs_ wo (aa (qv 1) af)) af)) rfl)
  (ak (md At (cA GC (qv 1) ay (cS _))
   (ax (Es (i:=0) (j:=1) rfl fH.nd rfl rfl (by decide) rfl rfl (aa (qv 1) (aa (aR gS (qv 0) (qv 1)) af)) rfl)))
  (ax (bj (qv 0))))),?_⟩
 subst e;simp! only[];have ab:∀z:Int,(if z<0 then -z else z)=(z.natAbs:Int):=fun z=>by split<;>omega
 refine⟨fun m ρ M=>∃x y:Nat,m=y/\ρ=[some (.int (x:Nat)),some (.int (y:Nat))]/\ZZ x y=ZZ a.natAbs b.natAbs/\M=Γ.M0,⟨_,a.natAbs,b.natAbs,rfl,by rw[ab,ab],rfl,rfl⟩,?_⟩
 rintro m ρ M ⟨x,y,rfl,rfl,hg,rfl⟩;simp! only[];refine eX (fun h=>?_) (fun h=>?_)
 ·have h:=of_decide_eq_true h;have hm:=XO x (show 0<m by omega)
  exact⟨by omega,x % m,hm,m,x % m,rfl,by rw[ZL],by rw[KU];exact hg⟩
 ·have h:=of_decide_eq_false h;have e:m=0 :=by omega
  subst e;rw[Nat.gcd_zero_right]at hg;rw[hg];exact .inl q
theorem vm {f f1:ag}{fd bP:mf}{C0:ag}{cs:List ag}(D:Df K mg "need_whole" gW ["net"] f fd) (cB:Df K mg "hangs_together" eu ["net"] f1 bP) (qu:FnOk P w K mg base (dj P w) 10 f1 bP ["net"] (aW P w K tb E2))
  (X_:wG K C0 cs) (cp:C_NoWhole∈cs) (gE:mg "NoWhole" = some (.ref C_NoWhole)) :
  FnOk P w K mg base (dj P w) 11 f fd ["net"] (aW P w K tb fun ds M Q E=>∃net n,ds=[eN net]/\aU net n/\(bY net n->Q .ao M)/\(¬ bY net n->E C_NoWhole M)) :=by
 refine mq D vk (fun ds M Q E hS=>by obtain⟨net,n,e,_⟩:=hS;rw[e];rfl) fun A outer s E Γ ds Q' E' hP hw hK ht hE hr hS=>?_
 obtain⟨net,n,e,O,q1,q2⟩:=hS;refine⟨_,(ax (d7 (iJ (gQ (aK qu (hr.mono (by decide)) rfl cB.mg cB.fn.kp cB.bd lV hP hw hK ht hE (aa (qv 0) af))))
   (ax (qj (X_.ex _ cp) XW rfl wB hE rfl gE (aa rP af)))
   qss_nil)),?_⟩
 subst e;simp! only[];refine⟨net,n,rfl,O,?_⟩;simp! only[];refine eX (fun h=>?_) (fun h=>?_)
 ·have h:¬ (cQ net n).length=1 :=by simpa using h
  exact⟨by decide,q2 fun w=>h ((oy O).mpr w)⟩
 ·have h:(cQ net n).length=1 :=by simpa using h
  exact .inl (q1 ((oy O).mp h))
theorem gF:aP ["net","words","far","size","place","row","goal"] ["net"] (aj lC):=⟨rfl,rfl,rfl,by decide +kernel,rfl,by decide +kernel,by decide +kernel⟩
def BM (C:ag):bX:=fun ds M Q E=>∃net n,ds=[eN net]/\aU net n/\(bY net n->Q .ao M)/\(¬ bY net n->E C M)
def BO (net:List (List Int)) (n g:Nat):List Int:=(au net).map fun p=>(cR net n p:Int) % g
def Jj (C:ag):bX:=fun ds M Q E=>∃net n,ds=[eN net]/\aU net n/\(bY net n->∀g,Ha net n g->Q (.tup [.int (g:Nat),.tup ((BO net n g).map Dv.int)]) M)/\(¬ bY net n->E C M)
def Hb (net:List (List Int)) (n:Nat):Dv->Dv
 | .int p=>.int (cR net n p:Nat)
 |d=>d
def mI (net:List (List Int)) (n:Nat):List Dv:=(au net).map fun p=>.int (cR net n p:Nat)
theorem Ri (net:List (List Int)) (n:Nat):(dn 0 net.length).map (Hb net n)=mI net n :=by
 unfold dn mI au;rw[wv,wv];refine YY fun i _=>?_
 show Hb net n (.int (0+(i:Int)))=_;rw[T0];rfl
theorem E4 {net:List (List Int)}{n:Nat}{p:Int}(h:p∈au net):dE (mI net n) p=some (.int (cR net n p:Nat)) :=by
 obtain⟨h1,h2⟩:=a9.mp h;obtain⟨i,rfl⟩:=FM h1;refine eF ?_;unfold mI au;rw[wv,db,GT (by omega)]
 rfl
structure iU (net:List (List Int)) (n k l g:Nat):Prop where
 dv:∀(i:Nat) a,a<n->i<k\/(i=k/\a<l)->i<net.length->(g:Int) ∣ (cR net n (i:Int):Int)+1 - cR net n (cy net (i:Int) a)
 mx:∀c:Nat,(∀p∈au net,∀a,a<n->(c:Int) ∣ (cR net n p:Int)+1 - cR net n (cy net p a))->c ∣ g
theorem iU.next {net:List (List Int)}{n k l g:Nat}(h:iU net n k l g) (hk:k<net.length) (hl:l<n):iU net n k (l+1) (ZZ g ((cR net n (k:Int):Int)+1 - cR net n (cy net (k:Int) l)).natAbs) :=by
 refine⟨fun i a ha hi kr=>?_,fun c hc=>Nat.dvd_gcd (h.mx c hc) (Int.ofNat_dvd_left.mp (hc _ (lF hk) l hl))⟩
 by_cases e:i=k/\a=l
 ·obtain⟨rfl,rfl⟩:=e;exact Int.ofNat_dvd_left.mpr (Nat.gcd_dvd_right _ _)
 ·have:=h.dv i a ha (by omega) kr
  exact Int.dvd_trans (Int.natCast_dvd_natCast.mpr (Nat.gcd_dvd_left _ _)) this
theorem iU.up {net:List (List Int)}{n k g:Nat}(h:iU net n k n g):iU net n (k+1) 0 g:=⟨fun i a ha hi kr=>h.dv i a ha (by omega) kr,h.mx⟩
theorem iU.all {net:List (List Int)}{n l g:Nat}(h:iU net n net.length l g):Ha net n g:=⟨fun p hp a ha=>by
 obtain⟨h1,h2⟩:=a9.mp hp;obtain⟨i,rfl⟩:=FM h1;exact h.dv i a ha (by omega) (by omega),h.mx⟩
theorem iU.zero {net:List (List Int)}{n:Nat}:iU net n 0 0 0:=⟨fun i a ha hi=>by omega,fun c _=>Nat.dvd_zero c⟩
theorem Px {net:List (List Int)}{n:Nat}(O:aU net n) {p:Int}(h:fR net n 0 p):cR net n p<=9 :=by
 have hp:=(jr O (ir O)).mpr h;obtain⟨i,hi⟩:=qr.mp hp;have ok:=lD O (ir O);have hl:=(cr.mp hi).1;have hw:=ar (show i<(cM net n 0).2.length by rw[<- ok.len];exact hl)
 have e:=oY ok.nd hi hw;have e2:tP net n p=(cM net n 0).2[i]'(by rw[<- ok.len];exact hl) :=by unfold tP;rw[e];rfl
 have:=ok.wl i _ hw;have h9:=O.nine;have hle:=ok.le;rw[places_len]at hle;unfold cR;rw[e2];omega
theorem step_at {net:List (List Int)}{k l:Nat}{x:Int}(hk:k<net.length) (h:(net.getD k [])[l]?=some x):cy net (k:Int) l=x :=by
 unfold cy;rw[uu,c8,h];rfl
def Py (g:Nat):Dv->Dv
 | .int j=>.int (j % (g:Int))
 |d=>d
theorem KW {f f1 f2 f3:ag}{fd bP fd2 u9:mf}{E5 cg:ag}(D:Df K mg "beat" lC ["net"] f fd) (sH:zh base fd E5 cg) (hp:cg∈tb) (dF:∃bm ob,Yh base mainGlobals mg bm ob)
  (dQ:Df K mg "need_whole" gW ["net"] f1 bP) (ka:FnOk P w K mg base (dj P w) 11 f1 bP ["net"] (aW P w K tb (BM C_NoWhole)))
  (bf:Df K mg "first_words" aB ["net","start"] f2 fd2) (di:FnOk P w K mg base bq 8 f2 fd2 ["net","start"] (aW P w K tb xT))
  (cC:Df K mg "common_divisor" d9 ["one","other"] f3 u9) (qw:FnOk P w K mg base bq 1 f3 u9 ["one","other"] (aW P w K tb Pw)) (bl:Bl mg) :
  FnOk P w K mg base (dj P w) 12 f fd ["net"] (aW P w K tb (Jj C_NoWhole)) :=by
 refine mq D gF (fun ds M Q E hS=>by obtain⟨net,n,e,_⟩:=hS;rw[e];rfl) fun A outer s E Γ ds Q' E' hP hw hK ht hE hr hS=>?_
 obtain⟨net,n,e,O,q1,q2⟩:=hS;have kb:cg∈Γ.tb:=ht▸hp;refine⟨_,(ak (fm (aK ka (hr.mono (by decide)) rfl dQ.mg dQ.fn.kp dQ.bd lV hP hw hK ht hE (aa (qv 0) af)))
  (ak (aI (i:=1) gF.nd rfl (RI rfl) (aK di (hr.mono (by decide)) rfl bf.mg bf.fn.kp bf.bd bN hP hw hK ht XR.none (aa (qv 0) (aa ay af))))
  (ak (rY (i:=2) gF.nd rfl rfl (N':=["place","words"]) (tn:=1) (idx:=[1]) rfl (show aJ ["net","words","far","size","place","row","goal"] (aj lC) _ ["place","words"] 1 [1] from by decide +kernel) (dW rfl bl.range_ (aa (aE (dq (K:=K) rfl hK) rfl bl.len_ xy (aa (qv 0) af)) af)) (fun _ _ _ _ _=>(a8 (i:=0) (show ON [("place" : bv),("words" : bv)] from by decide +kernel) rfl (sK rfl))) (fun _ _ _ _ _=>eG) (fun _ _ _ _ _=>(aE (dq (K:=K) rfl hK) rfl bl.len_ xy (aa (zZ hr.units (qv 1) (qv 0) (fun _ _=>rfl)) af))))
  (ak (aI (i:=3) gF.nd rfl (RI rfl) ay)
  (ak (PS.iD (eE At rfl (zT false (K:=K) rfl rfl bl.enumerate_ (qv 0)) (fun ow eP ew eK et=>by have hP:=hP.trans eP.symm;have hw:=hw.trans ew.symm;have hK:=hK.trans eK.symm;have ht:=ht.trans et.symm;have kb:=et.symm▸kb;exact⟨(DI (n:=2) rfl (lZ (a8 (i:=4) gF.nd rfl (sK rfl)) (lZ (a8 (i:=5) gF.nd rfl (sK rfl)) zN))),(ax (PS.iD (eE At rfl (jT (K:=K) rfl (qv 5)) (fun ow eP ew eK et=>by have hP:=hP.trans eP.symm;have hw:=hw.trans ew.symm;have hK:=hK.trans eK.symm;have ht:=ht.trans et.symm;have kb:=et.symm▸kb;exact⟨(a8 (i:=6) gF.nd rfl (sK rfl)),(ax (aI (i:=3) gF.nd rfl (RI rfl) (aK qw (hr.mono (by decide)) rfl cC.mg cC.fn.kp cC.bd bN hP hw hK ht XR.none (aa (qv 3) (aa (aR vC (aR eW (cc (dA (K:=K) rfl) (qv 2) (qv 4) (fun _ _=>rfl)) ay) (cc (dA (K:=K) rfl) (qv 2) (qv 6) (fun _ _=>rfl))) af)))))⟩))))⟩)))
  (ax (bj (jR (aa (qv 3) (aa (yF (k:=0) (N':=["steps","size"]) (tn:=1) (idx:=[3]) kb (hr.mono (by decide)) rfl (show aJ ["net","words","far","size","place","row","goal"] (aj lC) _ ["steps","size"] 1 [3] from by decide +kernel) rfl rfl sH.code sH.hd dF rfl bl.tuple_ (lz (K:=K) rfl (qv 2)) (fun _ _ _ _ _ _ _ hr=>(a8 (i:=0) (show ON [("steps" : bv),("size" : bv)] from by decide +kernel) rfl (sK rfl))) (fun _ _ _ _ _ _ _ hr=>eG) (fun _ _ _ _ _ _ _ hr=>(aR gS (qv 0) (qv 1)))) af)))))))))),?_⟩
 subst e;have h9:=O.nine;have Ws:=O.wid;have big:(1000:Nat)<sizeLine :=by decide
 have h0:=ir O;simp! only[];refine⟨net,n,rfl,O,fun W=>?_,q2⟩
 have eQ:∀p∈au net,fR net n 0 p:=fun p hp=>W 0 h0 p hp
 simp! only[];refine⟨net,n,_,rfl,O,h0,?_⟩;simp! only[];refine⟨by omega,by omega,by omega,fo (Hb net n) (fun τ M=>(∃x,τ=[x,some (ou (cM net n 0))])/\M=Γ.M0) ⟨⟨_,rfl⟩,rfl⟩ (fun d hd τ M hI R hR=>?_) (fun τ M hI=>?_)⟩
 ·obtain⟨⟨x,rfl⟩,rfl⟩:=hI;obtain⟨j,hj⟩:=qr.mp hd;obtain⟨rfl,Ji⟩:=dX hj;obtain⟨lk,_⟩:=G9 O (eQ _ (lF Ji));simp! only[];show (match some (look ((cM net n 0).1.map FF) ((cM net n 0).2.map Dv.str) (FF (j:Int))) with|some (some r)=>_|_=>False)
  rw[my oZ,lk];rw[T0]at hR;have hf:=Px O (eQ _ (lF Ji));exact⟨by show cR net n (j:Int)<=sizeLine;omega,hR _ _ ⟨⟨_,rfl⟩,rfl⟩⟩
 obtain⟨⟨x,rfl⟩,rfl⟩:=hI;rw[Ri];refine cL (fun k ρ M=>(∃g x4 x5 x6,ρ=[some (eN net),some (ou (cM net n 0)),some (.lst (mI net n)),some (.int (g:Nat)),x4,x5,x6]/\iU net n k 0 g)/\M=Γ.M0/\k<=net.length) ⟨⟨0,_,_,_,rfl,.zero⟩,rfl,nw _⟩ (fun k d ρ M N hd hJ hN=>?_) (fun ρ M hJ=>?_)
 ·obtain⟨⟨g,x4,x5,x6,rfl,hg⟩,rfl,hk⟩:=hJ;obtain⟨x,y,rfl,e1,e2⟩:=uM hd;obtain⟨rfl,oz⟩:=zU e1;have ey:y=eI (net.getD k []) :=by
   rw[db,ar oz]at e2;rw[getD_at oz];cases e2;rfl
  subst ey;have OX:(net.getD k []).length=n :=by
   rw[getD_at oz];exact(O.row _ (wr _)).1
  have SW:=lF (net:=net) oz;simp! only[];refine cL (fun l ρ M=>(∃g x6,ρ=[some (eN net),some (ou (cM net n 0)),some (.lst (mI net n)),some (.int (g:Nat)),some (.int (k:Nat)),some (eI (net.getD k [])),x6]/\iU net n k l g)/\M=Γ.M0/\l<=n) ⟨⟨g,_,rfl,hg⟩,rfl,nw _⟩ (fun l d ρ M N2 hd hJ xW=>?_) (fun ρ M hJ=>?_)
  ·obtain⟨⟨g,x6,rfl,hg⟩,rfl,hl⟩:=hJ;rw[db]at hd;obtain⟨x,hx,rfl⟩:=ma.mp hd;have Jk:=(cr.mp hx).1;rw[OX]at Jk;have es:=step_at oz hx;have WD:x∈au net :=by rw[<- es];exact gb O SW Jk
   simp! only[E4 SW,E4 WD];refine⟨_,_,rfl,xW _ _ ⟨⟨_,_,rfl,?_⟩,rfl,Jk⟩⟩;have:=hg.next oz Jk;rw[es]at this;exact this
  ·obtain⟨⟨g,x6,rfl,hg⟩,rfl,hl⟩:=hJ;rw[ci,OX]at hg;exact hN _ _ ⟨⟨g,_,_,_,rfl,hg.up⟩,rfl,oz⟩
 ·obtain⟨⟨g,x4,x5,x6,rfl,hg⟩,rfl,hk⟩:=hJ;have hlen:(fj (iS net.length) (net.map eI)).length=net.length :=by simp[pairsD_len,numD_len]
  rw[hlen]at hg;have hE:=hg.all;have gp:=KS O W hE;simp! only[];refine⟨by unfold mI;rw[ci,places_len];omega,fo (Py g) (fun τ M=>(∃x,τ=[x,some (.int (g:Nat))])/\M=Γ.M0) ⟨⟨_,rfl⟩,rfl⟩ (fun d hd τ M hI R hR=>?_) (fun τ M hI=>?_)⟩
  ·obtain⟨⟨x,rfl⟩,rfl⟩:=hI;obtain⟨p,hp,rfl⟩:=l6.mp hd;simp! only[];exact⟨by omega,hR _ _ ⟨⟨_,rfl⟩,rfl⟩⟩
  ·obtain⟨⟨x,rfl⟩,rfl⟩:=hI;have e:(mI net n).map (Py g)=(BO net n g).map Dv.int :=by
    unfold mI BO;rw[wv,wv];rfl
   rw[e];exact⟨by omega,.inl (q1 W g hE)⟩
end
section
variable {P:ff}{w:hX}{K:bn}{mg:bv->Option ap}{base:ii}{tb:b5}
theorem dw:aP ["row","found","at","goal","rest"] ["row"] (aj fv):=⟨rfl,rfl,rfl,by decide +kernel,rfl,by decide +kernel,by decide +kernel⟩
def iV (g:Int) (rests f:List (List Int)):List (List Int):=rests.foldl (fun f r=>eR f (g::r)) f
def outF (A:List Int->List (List Int)) (row:List Int):Nat->List (List Int)
 |0=>[]
 |i+1=>iV (row.getD i 0) (A (row.eraseIdx i)) (outF A row i)
def cD:Nat->List Int->List (List Int)
 |0,_=>[[]]
 |d+1,row=>if row=[] then [[]] else jg (outF (cD d) row row.length)
def tQ:Nat->Nat
 |0=>1
 |n+1=>(n+1) * tQ n
theorem Hc (ks:List (List Int)) (k:List Int):(eR ks k).length<=ks.length+1 :=by
 unfold eR;split
 ·omega
 ·simp
theorem Hd {ks:List (List Int)}{k r:List Int}(h:r∈eR ks k):r∈ks\/r=k :=by
 unfold eR at h;split at h
 ·exact .inl h
 ·rcases EU.mp h with z|z
  ·exact .inl z
  ·exact .inr (rf.mp z)
theorem He {ks:List (List Int)}{k:List Int}:k∈eR ks k :=by
 unfold eR;split
 ·assumption
 ·simp
theorem E6 (g:Int) (rests:List (List Int)) (r:List Int) (f:List (List Int)):iV g (rests++[r]) f=eR (iV g rests f) (g::r) :=by unfold iV;rw[Zv];rfl
theorem qy (g:Int):∀(rests f:List (List Int)),(iV g rests f).length<=f.length+rests.length
 | [],f=>ce _
 |r::rests,f=>by
          have:=qy g rests (eR f (g::r));have:=Hc f (g::r);show (iV g rests (eR f (g::r))).length<=_;rw[AS];omega
theorem Al (g:Int) {n:Nat}:∀{rests f:List (List Int)},(∀r∈rests,r.length=n)->(∀r∈f,r.length=n+1)->∀r∈iV g rests f,r.length=n+1
 | [],f,_,h=>h
 |r::rests,f,h0,h=>Al g (fun x hx=>h0 x (f8 _ hx)) (f:=eR f (g::r)) fun x hx=>(Hd hx).elim (h x) fun e=>by rw[e,AS,h0 r i4]
theorem qz {A:List Int->List (List Int)}{row:List Int}{m:Nat}(h:∀i,i<row.length->(A (row.eraseIdx i)).length<=m):∀{i},i<=row.length->(outF A row i).length<=i * m
 |0,_=>nw _
 |i+1,hi=>by
          have h1:=qz (i:=i) h (by omega)
          have h2:=h i (by omega)
          have h3:=qy (row.getD i 0) (A (row.eraseIdx i)) (outF A row i);show (iV _ _ _).length<=_;rw[Nat.succ_mul];omega
theorem tR {A:List Int->List (List Int)}{row:List Int}{n:Nat}(h:∀i,i<row.length->∀r∈A (row.eraseIdx i),r.length=n):∀{i},i<=row.length->∀r∈outF A row i,r.length=n+1
 |0,_=>fun r hr=>nomatch hr
 |i+1,hi=>Al _ (h i (by omega)) (tR h (by omega))
theorem qA:∀{d:Nat}{row:List Int},row.length<=d->∀r∈cD d row,r.length=row.length
 |0,row,h,r,hr=>by
          rw[rf.mp hr];have:row.length=0 :=by omega
          rw[this];rfl
 |d+1,row,h,r,hr=>by
          unfold cD at hr;split at hr
          ·rename_i e;rw[rf.mp hr,e]
          ·rename_i e;have hp:0<row.length:=YZ.mpr e;have:=tR (A:=cD d) (row:=row) (n:=row.length - 1) (fun i hi r hr=>by
            have el:=Gc hi;rw[qA (by omega) r hr,el]) (ce _) r ((ft _).mem_iff.mp hr)
           omega
theorem tS:∀{d:Nat}{row:List Int},row.length<=d->(cD d row).length<=tQ row.length
 |0,row,h=>by
          have:row.length=0 :=by omega
          rw[this];exact ce 1
 |d+1,row,h=>by
          unfold cD;split
          ·rename_i e;rw[e];exact ce 1
          ·rename_i e;obtain⟨n,hn⟩:∃n,row.length=n+1:=⟨row.length - 1,by have:=YZ.mpr e;omega⟩
           rw[(ft _).length_eq];have:=qz (A:=cD d) (row:=row) (m:=tQ n) (fun i hi=>by
            have el:=Gc hi;have:=tS (d:=d) (row:=row.eraseIdx i) (by omega)
            rw[el,hn]at this;exact this) (ce _)
           rw[hn]at this ⊢;exact this
theorem KY {row:List Int}{M:Mh}{F:Bool->Mh->Prop}(h:F (decide (row=[])) M):xg false (.tup (row.map .int)) (.tup []) M (zBool F) :=by
 have e1:bV (now M (.tup (row.map .int)))=some (.tup (row.map Dt.int)) :=by simp only[now,bV,xk,Ix]
 have e2:bV (now M (.tup []))=some (.tup []):=rfl;unfold xg;rw[e1,e2];refine⟨by rw[m7];have:=Ki row;omega,?_⟩
 cases row with
 |nil=>exact h
 |cons x r=>exact h
def ye:Nat->bX
 |0=>fun _ _ _ _=>False
 |d+1=>fun ds M Q _=>∃row:List Int,ds=[eI row]/\row.length<=d/\row.length<=3/\Q (.lst ((cD d row).map eI)) M
theorem Hf {f:ag}{fd:mf}{k:Nat}:FnOk P w K mg base bq k f fd ["row"] (aW P w K tb (ye 0)):=
 have no:∀{vs H Q E},aW P w K tb (ye 0) vs H Q E->False:=fun h=>by obtain⟨β,ds,M,Q',E',_,_,_,_,m,rs,s,_⟩:=h;exact s
 ⟨fun _ _ _ _ h=>(no h).elim,fun _ _ _ _ _ _ _ _ _ _ _ _ _ h=>(no h).elim⟩
theorem mJ {f:ag}{fd:mf}{d k:Nat}(D:Df K mg "arrangements" fv ["row"] f fd) (iu:FnOk P w K mg base bq k f fd ["row"] (aW P w K tb (ye d))) (bl:Bl mg):FnOk P w K mg base bq (k+1) f fd ["row"] (aW P w K tb (ye (d+1))) :=by
 have aV:=D;refine gT D dw (fun ds M Q E hS=>by obtain⟨row,e,_⟩:=hS;rw[e];rfl) fun A outer s E Γ ds Q' E' hP hw hK ht hr hS=>?_
 obtain⟨row,e,h,h3,q⟩:=hS;refine⟨_,(ak (d7 (cA (Q3 hr.units) (qv 0) (jR af) (cS _))
   (ax (bj (rS (aa (jR af) af))))
   qss_nil)
  (ak (aI (i:=1) dw.nd rfl (sK rfl) (Ew hP hw rfl bl.set_))
  (ak (eE At rfl (zT false (K:=K) rfl rfl bl.enumerate_ (qv 0)) (fun ow eP ew eK et=>by have hP:=hP.trans eP.symm;have hw:=hw.trans ew.symm;have hK:=hK.trans eK.symm;have ht:=ht.trans et.symm;exact⟨(DI (n:=2) rfl (lZ (a8 (i:=2) dw.nd rfl (sK rfl)) (lZ (a8 (i:=3) dw.nd rfl (sK rfl)) zN))),(ax (eE At rfl (lz (K:=K) rfl (aK iu hr rfl aV.mg aV.fn.kp aV.bd bN hP hw hK ht XR.none (aa (aR (DT (K:=K) rfl) (xh (Iz (K:=K) rfl) (qv 0) zP (zQ (qv 2))) (xh (Iz (K:=K) rfl) (qv 0) (zQ (aR eW (qv 2) ay)) zP)) af))) (fun ow eP ew eK et=>by have hP:=hP.trans eP.symm;have hw:=hw.trans ew.symm;have hK:=hK.trans eK.symm;have ht:=ht.trans et.symm;exact⟨(a8 (i:=4) dw.nd rfl (sK rfl)),(ax (fm (KD hP hw hr.units (qv 1) (aa (aR (DT (K:=K) rfl) (jR (aa (qv 3) af)) (qv 4)) af))))⟩)))⟩))
  (ax (bj (aE (G0 hP hw rfl) rfl bl.sorted_ uz (aa (qv 1) af))))))),?_⟩
 subst e;have big:(1000:Nat)<sizeLine :=by decide
 simp! only[eI];refine⟨nw _,KY ?_⟩;refine eX (fun h0=>?_) (fun h0=>?_)
 ·have h0:=of_decide_eq_true h0;subst h0;have e0:cD d []=[[]] :=by cases d<;>rfl
  rw[e0]at q;exact⟨nw _,by decide,.inl q⟩
 ·have h0:=of_decide_eq_false h0;obtain⟨n,hn⟩:∃n,row.length=n+1:=⟨row.length - 1,by have:=YZ.mpr h0;omega⟩
  obtain⟨d,rfl⟩:∃e,d=e+1:=⟨d - 1,by omega⟩
  intro a ha;have yf:∀i,i<row.length->(row.eraseIdx i).length=n:=fun i hi=>by rw[Gc hi,hn];rfl
  have fn:tQ n<=2 :=by
   rcases (show n=0\/n=1\/n=2 by omega) with rfl|rfl|rfl<;>decide
  have al:∀i,i<row.length->(cD d (row.eraseIdx i)).length<=tQ n:=fun i hi=>by
   have:=tS (d:=d) (row:=row.eraseIdx i) (by rw[yf i hi];omega)
   rwa [yf i hi]at this
  have ol:∀i,i<=row.length->(outF (cD d) row i).length<=i * 2:=fun i hi=>v6 (qz al hi) (Nat.mul_le_mul_left i fn)
  refine cL (fun i ρ M=>∃x2 x3 x4,ρ=[some (eI row),some (.ptr a),x2,x3,x4]/\M=az Γ.M0 a (sx (outF (cD d) row i))/\i<=row.length) ⟨_,_,_,rfl,rfl,nw _⟩ (fun i z ρ M N hd hJ hN=>?_) (fun ρ M hJ=>?_)
  ·obtain⟨x2,x3,x4,rfl,rfl,hi⟩:=hJ;obtain⟨x,y,rfl,ex,ey⟩:=uM hd;obtain⟨rfl,rM⟩:=zU ex;rw[db]at ey;obtain⟨g,hg,rfl⟩:=ma.mp ey;have WG:row.getD i 0=g :=by rw[c8,hg];rfl
   refine⟨rfl,?_⟩;have e1:((i:Nat):Int)+1=((i+1:Nat):Int) :=by omega
   have er:(row.map Dv.int).take i++(row.map Dv.int).drop (i+1)=(row.eraseIdx i).map .int :=by rw[UV,xw,List.map_take,List.map_drop]
   have el:=yf i rM;have sz:((row.map Dv.int).take i).length+((row.map Dv.int).drop (i+1)).length<=3 :=by rw[XM,SZ,ci];omega
   simp! only[eI,e1,Kk,D0];refine⟨by omega,row.eraseIdx i,by rw[er],by omega,by omega,?_⟩
   have rl:∀r∈cD d (row.eraseIdx i),r.length=n:=fun r hr=>by rw[qA (by omega) r hr,el]
   have WH:=al i rM;have SX:=ol i hi;have oe:outF (cD d) row (i+1)=iV g (cD d (row.eraseIdx i)) (outF (cD d) row i) :=by rw[<- WG];rfl
   rw[oe]at hN;generalize cD d (row.eraseIdx i)=rests at rl WH hN ⊢
   generalize outF (cD d) row i=f0 at SX hN ⊢
   refine cL (fun l ρ M=>∃x4,ρ=[some (eI row),some (.ptr a),some (.int (i:Nat)),some (.int g),x4]/\M=az Γ.M0 a (sx (iV g (rests.take l) f0))/\l<=rests.length) ⟨_,rfl,rfl,nw _⟩ (fun l z ρ M N2 hd hJ xW=>?_) (fun ρ M hJ=>?_)
   ·obtain⟨x4,rfl,rfl,hl⟩:=hJ;rw[db]at hd;obtain⟨r,hr,rfl⟩:=ma.mp hd;have IZ:=(cr.mp hr).1;have Xu:=rl r (lp hr);have bl:=qy g (rests.take l) f0;rw[XM]at bl;simp! only[eI];refine⟨a,rfl,⟨_,updM_same⟩,by omega,by omega,_,g::r,rfl,updM_same,by omega,?_⟩
    rw[updM_updM];refine xW _ _ ⟨_,rfl,?_,IZ⟩;rw[List.take_succ,hr,Option.toList_some,E6]
   ·obtain⟨x4,rfl,rfl,hl⟩:=hJ;rw[ci,ZF];exact hN _ _ ⟨_,_,_,rfl,rfl,rM⟩
  ·obtain⟨x2,x3,x4,rfl,rfl,hi⟩:=hJ;rw[pairsD_len,numD_len,ci,LB];simp! only[eI];have SX:=ol row.length (ce _);refine⟨a,_,rfl,updM_same,by omega,fun r hr e=>?_,?_⟩
   ·have:=tR (A:=cD d) (row:=row) (n:=n) (fun i hi r hr=>by rw[qA (by rw[yf i hi];omega) r hr,yf i hi]) (ce _) r hr
    rw[e]at this;cases this
   ·have er:cD (d+1) row=jg (outF (cD d) row row.length) :=by unfold cD;rw[if_neg h0]
    rw[er]at q;refine uL (.upd ha .refl) (.lst fun z hz=>?_) q
    obtain⟨k,_,rfl⟩:=l6.mp hz;exact DX k
end
section
variable {P:ff}{w:hX}{K:bn}{mg:bv->Option ap}{base:ii}{tb:b5}{C_NoNet C_NoNumber:ag}
theorem iz:aP ["net","many","row"] ["net"] (aj jh):=⟨rfl,rfl,rfl,by decide +kernel,rfl,by decide +kernel,by decide +kernel⟩
def iW (row:List Int):Nat:=(cD 3 row).length
def iA (net:List (List Int)):Nat:=net.foldl (fun m r=>m * iW r) 1
theorem BP (net:List (List Int)) (r:List Int):iA (net++[r])=iA net * iW r :=by unfold iA;rw[Zv];rfl
theorem Rj {n:Nat}(h:n<=3):tQ n<=6 :=by rcases (show n=0\/n=1\/n=2\/n=3 by omega) with rfl|rfl|rfl|rfl<;>decide
theorem KZ {row:List Int}(h:row.length<=3):iW row<=6:=v6 (tS h) (Rj h)
theorem K0 {net:List (List Int)}{n:Nat}(O:aU net n) {r:List Int}(h:r∈net):r.length<=3 :=by
 have:=(O.row r h).1;have:=O.wid;omega
def Pz:bX:=fun ds M Q _=>∃net n,ds=[eN net]/\aU net n/\Q (.int (iA net:Nat)) M
theorem yQ {f f1 f2:ag}{fd bP fd2:mf}(D:Df K mg "signings" jh ["net"] f fd)
  (cf:Df K mg "need_net" gV ["thing"] f1 bP) (fx:FnOk P w K mg base (dj P w) 7 f1 bP ["thing"] (aW P w K tb (BJ C_NoNet)))
  (aV:Df K mg "arrangements" fv ["row"] f2 fd2) (iu:FnOk P w K mg base bq 4 f2 fd2 ["row"] (aW P w K tb (ye 4))) (bl:Bl mg) :
  FnOk P w K mg base (dj P w) 8 f fd ["net"] (aW P w K tb Pz) :=by
 refine mq D iz (fun ds M Q E hS=>by obtain⟨net,n,e,_⟩:=hS;rw[e];rfl) fun A outer s E Γ ds Q' E' hP hw hK ht hE hr hS=>?_
 obtain⟨net,n,e,O,q⟩:=hS;refine⟨_,(ak (fm (aK fx (hr.mono (by decide)) rfl cf.mg cf.fn.kp cf.bd lV hP hw hK ht hE (aa (qv 0) af)))
  (ak (aI (i:=1) iz.nd rfl (sK rfl) ay)
  (ak (PS.iD (eE At rfl (jT (K:=K) rfl (qv 0)) (fun ow eP ew eK et=>by have hP:=hP.trans eP.symm;have hw:=hw.trans ew.symm;have hK:=hK.trans eK.symm;have ht:=ht.trans et.symm;exact⟨(a8 (i:=2) iz.nd rfl (sK rfl)),(ax (KI (i:=1) iz.nd rfl (sK rfl) (aE (dq (K:=K) rfl hK) rfl bl.len_ xy (aa (aK iu (hr.mono (by decide)) rfl aV.mg aV.fn.kp aV.bd bN hP hw hK ht XR.none (aa (qv 2) af)) af))))⟩)))
  (ax (bj (qv 1)))))),?_⟩
 subst e;have h9:=O.nine;have big:(1000:Nat)<sizeLine :=by decide
 refine⟨_,rfl,Ah net,fun _=>?_,fun h=>by rw[Ag O]at h;cases h⟩
 simp! only[];refine cL (fun k ρ M=>(∃x2,ρ=[some (eN net),some (.int (iA (net.take k):Nat)),x2])/\M=Γ.M0/\k<=net.length) ⟨⟨_,rfl⟩,rfl,nw _⟩ (fun k d ρ M N hd hJ hN=>?_) (fun ρ M hJ=>?_)
 ·obtain⟨⟨x2,rfl⟩,rfl,hk⟩:=hJ;rw[db]at hd;obtain⟨r,hr,rfl⟩:=ma.mp hd;have aO:=(cr.mp hr).1;have h3:=K0 O (lp hr);have c6:=KZ h3;simp! only[];refine⟨_,rfl,r,rfl,h3,h3,?_⟩;refine⟨(iW r:Nat),by rw[ci];rfl,.inr ⟨by omega,by omega⟩,hN _ _ ⟨⟨some (eI r),?_⟩,rfl,aO⟩⟩
  rw[List.take_succ,hr,Option.toList_some,BP,Int.natCast_mul]
 ·obtain⟨⟨x2,rfl⟩,rfl,hk⟩:=hJ;rw[ci,ZF];simp! only[];exact .inl q
end
section
theorem qB (g:Int):∀{rests f:List (List Int)}{r:List Int},r∈f->r∈iV g rests f
 | [],f,r,h=>h
 |x::rests,f,r,h=>qB g (f:=eR f (g::x)) (by unfold eR;split;exact h;exact ze _ h)
theorem yg (g:Int):∀{rests f:List (List Int)}{r:List Int},r∈rests->g::r∈iV g rests f
 |x::rests,f,r,h=>by
          rcases l8.mp h with rfl|h
          ·exact qB g (rests:=rests) (f:=eR f (g::r)) He
          ·exact yg g (rests:=rests) (f:=eR f (g::x)) h
theorem yh {A:List Int->List (List Int)}{row:List Int}:∀{i j:Nat}{r:List Int},j<i->r∈A (row.eraseIdx j)->row.getD j 0::r∈outF A row i
 |i+1,j,r,hj,h=>by
          by_cases e:j=i
          ·subst e;exact yg _ h
          ·exact qB _ (yh (by omega) h)
theorem mK:∀{d:Nat}{row r:List Int},row.length<=d->r.Perm row->r∈cD d row
 |0,row,r,h,p=>by
          have e:row=[]:=Os (by omega)
          subst e;rw[List.perm_nil.mp p];exact rf.mpr rfl
 |d+1,row,r,h,p=>by
          unfold cD;split
          ·rename_i e;subst e;rw[List.perm_nil.mp p];exact rf.mpr rfl
          ·rename_i e;cases r with
           |nil=>exact absurd (List.nil_perm.mp p) e
           |cons x r=>
            obtain⟨j,hj⟩:=qr.mp (p.mem_iff.mp i4);have hl:=(cr.mp hj).1;have ex:row.getD j 0=x :=by rw[c8,hj];rfl
            have eg:row[j]=x :=by have:=ar hl;rw[hj]at this;exact(l7 this).symm
            have pe:(x::row.eraseIdx j).Perm row :=by
             rw[<- eg];exact dZ row j hl
            have pr:r.Perm (row.eraseIdx j):=(List.perm_cons x).mp (p.trans pe.symm);have el:=Gc hl;refine(ft _).mem_iff.mpr ?_;rw[<- ex];exact yh hl (mK (by omega) pr)
theorem Rk {a b:Int}(h:a≠b):2<=iW [a,b] :=by
 have:=jN [[a,b],[b,a]] (cD 3 [a,b]) (by simp;exact fun e=>absurd e h) fun k hk=>by
  simp at hk;rcases hk with rfl|rfl
  ·exact mK (show 2<=3 by decide) (.refl _)
  ·exact mK (show 2<=3 by decide) (.swap ..)
 exact this
theorem Rl {a b c:Int}(h:¬ (a=b/\b=c)):3<=iW [a,b,c] :=by
 have fin:∀l:List (List Int),l.Nodup->l.length=3->(∀k∈l,k.Perm [a,b,c])->3<=iW [a,b,c]:=fun l nd hl hp=>by
  have:=jN l (cD 3 [a,b,c]) nd fun k hk=>mK (ce 3) (hp k hk)
  rw[hl]at this;exact this
 have p1:[b,a,c].Perm [a,b,c]:=.swap ..;have p2:[a,c,b].Perm [a,b,c]:=.cons _ (.swap ..);have p3:[b,c,a].Perm [a,b,c]:=.trans (.cons _ (.swap ..)) p1;have p4:[c,a,b].Perm [a,b,c]:=.trans (.swap ..) p2;have p5:[c,b,a].Perm [a,b,c]:=.trans (.swap ..) p3;by_cases e1:a=b
 ·have e2:b≠c:=fun z=>h ⟨e1,z⟩
  subst e1;refine fin [[a,a,c],[a,c,a],[c,a,a]] ?_ rfl fun k hk=>?_
  ·simp[e2,wp e2]
  ·simp at hk;rcases hk with rfl|rfl|rfl
   ·exact .refl _
   ·exact p2
   ·exact p4
 ·by_cases e2:a=c
  ·subst e2;refine fin [[a,b,a],[b,a,a],[a,a,b]] ?_ rfl fun k hk=>?_
   ·simp[e1,wp e1]
   ·simp at hk;rcases hk with rfl|rfl|rfl
    ·exact .refl _
    ·exact p1
    ·exact p2
  ·by_cases e3:b=c
   ·subst e3;refine fin [[a,b,b],[b,a,b],[b,b,a]] ?_ rfl fun k hk=>?_
    ·simp[e1,wp e1]
    ·simp at hk;rcases hk with rfl|rfl|rfl
     ·exact .refl _
     ·exact p1
     ·exact p3
   ·refine fin [[a,b,c],[b,a,c],[c,a,b]] ?_ rfl fun k hk=>?_
    ·simp[e1,e2,e3,wp e1,wp e2,wp e3]
    ·simp at hk;rcases hk with rfl|rfl|rfl
     ·exact .refl _
     ·exact p1
     ·exact p4
theorem Hg {net:List (List Int)}{b:Nat}(h:∀r∈net,b<=iW r):b ^ net.length<=iA net :=by
 have key:∀(l:List (List Int)) (m:Nat),(∀r∈l,b<=iW r)->m * b ^ l.length<=l.foldl (fun m r=>m * iW r) m:=fun l=>by
  induction l with
  |nil=>intro m _;simp
  |cons r l ih=>
   intro m h;have h1:=ih (m * iW r) fun x hx=>h x (f8 _ hx)
   have h2:=Nat.mul_le_mul_left m (h r i4);have h3:=Nat.mul_le_mul_right (b ^ l.length) h2;rw[List.foldl_cons,AS,Nat.pow_succ,Nat.mul_comm (b ^ l.length),<- Nat.mul_assoc];exact v6 h3 h1
 have:=key net 1 h;rw[Nat.one_mul]at this;exact this
end
section
variable {P:ff}{w:hX}{K:bn}{mg:bv->Option ap}{base:ii}{tb:b5}{C_NoWhole C_TooMany C_RoadError:ag}{cs:List ag}
theorem fk:aP ["net","numbers","many","found"] ["net"] (aj dH):=⟨rfl,rfl,rfl,by decide +kernel,rfl,by decide +kernel,by decide +kernel⟩
def tT (C1 C2:ag):bX:=fun ds M _ E=>∃net n,ds=[eN net]/\aU net n/\(bY net n->64<iA net/\E C2 M)/\(¬ bY net n->E C1 M)
theorem E7 {f f1 f2:ag}{fd bP fd2:mf}(D:Df K mg "called_signings" dH ["net"] f fd)
  (ke:Df K mg "beat" lC ["net"] f1 bP) (yi:FnOk P w K mg base (dj P w) 12 f1 bP ["net"] (aW P w K tb (Jj C_NoWhole)))
  (fy:Df K mg "signings" jh ["net"] f2 fd2) (mL:FnOk P w K mg base (dj P w) 8 f2 fd2 ["net"] (aW P w K tb Pz))
  (X_:wG K C_RoadError cs) (cq:C_TooMany∈cs) (gG:mg "TooMany" = some (.ref C_TooMany)) {tk:ZO} (gq:mg "MOST_SIGNINGS" = some (.int 64 tk)) (bl:Bl mg) :
  FnOk P w K mg base (dj P w) 13 f fd ["net"] (aW P w K tb (tT C_NoWhole C_TooMany)) :=by
 refine mq D fk (fun ds M Q E hS=>by obtain⟨net,n,e,_⟩:=hS;rw[e];rfl) fun A outer s E Γ ds Q' E' hP hw hK ht hE hr hS=>?_
 obtain⟨net,n,e,O,q1,q2⟩:=hS;refine⟨_,(ak (aI (i:=1) fk.nd rfl (RI rfl) (cc (dA (K:=K) rfl) (aK yi (hr.mono (by decide)) rfl ke.mg ke.fn.kp ke.bd lV hP hw hK ht hE (aa (qv 0) af)) ay (fun _ _=>rfl)))
  (ak (aI (i:=2) fk.nd rfl (sK rfl) (aK mL (hr.mono (by decide)) rfl fy.mg fy.fn.kp fy.bd lV hP hw hK ht hE (aa (qv 0) af)))
  (ak (d7 (cA GC (qv 2) (wY (i:=64) rfl gq ⟨_,rfl⟩) (cS _))
   (ax (qj (X_.ex _ cq) XW rfl wB hE rfl gG (aa rP af)))
   qss_nil) DH))),?_⟩
 subst e;simp! only[];refine⟨net,n,rfl,O,fun W g hg=>?_,q2⟩
 obtain⟨m6,q⟩:=q1 W;simp! only[];refine⟨net,n,rfl,O,?_⟩;simp! only[];rw[if_pos (decide_eq_true (by omega))]
 exact⟨by decide,q⟩
end
section
variable {P:ff}{w:hX}{K:bn}{mg:bv->Option ap}{base:ii}{tb:b5}
theorem cj:aP ["_law_bag_here","_law_fans","_law_few","_law_many","_law_order_here","_law_rows","_law_k","_law_goals"] ["_law_bag_here"] (aj dC):=⟨rfl,rfl,rfl,by decide +kernel,rfl,by decide +kernel,by decide +kernel⟩
structure E8 (net:List (List Int)) (n:Nat):Prop where
 ok:aU net n
 four:4<=net.length
 whole:bY net n
 more:64<iA net
def GoodR (m n:Nat) (nx:Int) (row:List Int):Prop:=row.length=n/\(∀x∈row,0<=x/\x<(m:Int))/\nx∈row/\∃y∈row,y≠nx
theorem Hh {m n:Nat}{nx:Int}{row:List Int}(h:GoodR m n nx row) (hn:n=2\/n=3):n<=iW row :=by
 obtain⟨h1,_,h3,y,h4,h5⟩:=h;rcases hn with rfl|rfl
 ·match row,h1 with
  | [a,b],_=>
   refine Rk fun e=>h5 ?_
   subst e;simp at h3 h4;rw[h3,h4]
 ·match row,h1 with
  | [a,b,c],_=>
   refine Rl fun⟨e1,e2⟩=>h5 ?_
   subst e1 e2;simp at h3 h4;rw[h3,h4]
theorem Hi {net:List (List Int)}{n m:Nat}{os:List Int}(O:aU net n) (hm:net.length=m) (eA:dP m os) (h:∀k,k<m->os.getD ((k+1) % m) 0∈net.getD (os.getD k 0).toNat []):bY net n :=by
 have st:∀k,k<m->fR net n (os.getD k 0) (os.getD ((k+1) % m) 0):=fun k hk=>by
  obtain⟨a,ha⟩:=qr.mp (h k hk);have oz:os.getD k 0∈os :=by rw[c8,ar (by rw[eA.len];exact hk)];exact wr _
  obtain⟨z1,z2⟩:=eA.mem oz;have hl:(os.getD k 0).toNat<net.length :=by omega
  have hr:=(O.row _ (wr hl)).1;have WK:a<n :=by
   have:=(cr.mp ha).1;rw[getD_at hl,hr]at this;exact this
  have e:cy net (os.getD k 0) a=os.getD ((k+1) % m) 0 :=by
   unfold cy;rw[c8 (l:=net.getD _ _),ha];rfl
  rw[<- e];exact .step .base WK
 have far:∀d k,k<m->fR net n (os.getD k 0) (os.getD ((k+d) % m) 0):=fun d=>by
  induction d with
  |zero=>intro k hk;rw[Nat.add_zero,Uf hk];exact .base
  |succ d ih=>
   intro k hk;have h1:=ih k hk;have h2:=st ((k+d) % m) (XO _ (by omega))
   rw[Nat.mod_add_mod]at h2;exact h1.trans h2
 have at_:∀a∈au net,∃k,k<m/\os.getD k 0=a:=fun a ha=>by
  obtain⟨z1,z2⟩:=a9.mp ha;have:a∈os:=eA.perm.mem_iff.mpr (l6.mpr ⟨a.toNat,u4.mpr (by omega),by omega⟩)
  obtain⟨k,hk⟩:=qr.mp this;have xN:=(cr.mp hk).1;exact⟨k,by rw[<- eA.len];exact xN,by rw[c8,hk];rfl⟩
 intro a ha b hb;obtain⟨k,hk,rfl⟩:=at_ a ha;obtain⟨j,hj,rfl⟩:=at_ b hb;have:=far (m - k+j) k hk;rw[show k+(m - k+j)=m+j by omega,Nat.add_mod_left,Uf hj]at this
 exact this
structure dR (M0 M:Mh) (r:ag) (m n:Nat) (os:List Int) (i:Nat) (rs:List (List Int)):Prop where
 kp:Keeps M0 M
 r0:M0 r=none
 rm:M r=some (.lst (rs.map i5))
 len:rs.length=m
 sh:∀row∈rs,row.length<=3
 good:∀k,k<i->GoodR m n (os.getD ((k+1) % m) 0) (rs.getD (os.getD k 0).toNat [])
 oth:∀c o,M c=some o->M0 c=some o\/c=r\/∃row:List Int,o=.lst (row.map .int)
theorem dR.own {M0 M:Mh}{r:ag}{m n:Nat}{os:List Int}{i:Nat}{rs:List (List Int)}(h:dR M0 M r m n os i rs) {c:ag}(c0:M0 c=none) (hc:c≠r) {row:List Int}:dR M0 (az M c (.lst (row.map .int))) r m n os i rs :=by
 refine⟨.upd c0 h.kp,h.r0,by rw[aq (wp hc)];exact h.rm,h.len,h.sh,h.good,fun d o e=>?_⟩
 by_cases z:d=c
 ·subst z;rw[updM_same]at e;cases e;exact .inr (.inr ⟨row,rfl⟩)
 ·rw[aq z]at e;exact h.oth d o e
theorem dR.new {M0 M:Mh}{r:ag}{m n:Nat}{os:List Int}{i:Nat}{rs:List (List Int)}(h:dR M0 M r m n os i rs) {c:ag}(hc:M c=none):M0 c=none/\c≠r:=
 ⟨BF h.kp hc,fun e=>by rw[e,h.rm]at hc;cases hc⟩
theorem dR.put {M0 M:Mh}{r:ag}{m n:Nat}{os:List Int}{i p:Nat}{rs:List (List Int)}(h:dR M0 M r m n os i rs) (eA:dP m os) (hi:i<m) (hp:os.getD i 0=(p:Nat)) {row:List Int}(h3:row.length<=3) (hg:GoodR m n (os.getD ((i+1) % m) 0) row):dR M0 (az M r (.lst ((rs.set p row).map i5))) r m n os (i+1) (rs.set p row) :=by
 have at_:∀k,k<m->∃h:k<os.length,os.getD k 0=os[k]:=fun k hk=>by
  have hl:k<os.length :=by rw[eA.len];exact hk
  exact⟨hl,by rw[c8,ar hl];rfl⟩
 have bd:∀k,k<m->0<=os.getD k 0/\os.getD k 0<m:=fun k hk=>by
  obtain⟨hl,e⟩:=at_ k hk;rw[e];exact eA.mem (wr hl)
 refine⟨.upd h.r0 h.kp,h.r0,updM_same,by rw[WE];exact h.len,fun x hx=>?_,fun k hk=>?_,fun d o e=>?_⟩
 ·rcases List.mem_or_eq_of_mem_set hx with z|z
  ·exact h.sh x z
  ·rw[z];exact h3
 ·by_cases z:k=i
  ·subst z;rw[hp,uu,c8 (l:=rs.set p row),WS (by rw[h.len];have:=bd k hi;omega)]
   exact hg
  ·have oz:k<i :=by omega
   have:=h.good k oz;have ne:p≠(os.getD k 0).toNat:=fun e=>by
    obtain⟨l1,e1⟩:=at_ k (by omega)
    obtain⟨l2,e2⟩:=at_ i hi;have b1:=bd k (by omega)
    have:os[k]=os[i] :=by rw[<- e1,<- e2,hp];omega
    exact z ((Zz eA.nodup).mp this)
   rw[c8 (l:=rs.set p row),YG ne,<- c8 (l:=rs)];exact this
 ·by_cases z:d=r
  ·exact .inr (.inl z)
  ·rw[aq z]at e;exact h.oth d o e
structure jj (m n:Nat) (nx:Int) (gs:List Int):Prop where
 len:gs.length<=n
 bd:∀x∈gs,0<=x/\x<(m:Int)
 nxm:nx∈gs
 ot:∃y∈gs,y≠nx
theorem jj.snoc {m n:Nat}{nx x:Int}{gs:List Int}(h:jj m n nx gs) (hl:gs.length<n) (x0:0<=x) (x1:x<(m:Int)):jj m n nx (gs++[x]) :=by
 obtain⟨y,hy,hn⟩:=h.ot;refine⟨by simp;omega,fun z hz=>?_,ze _ h.nxm,y,ze _ hy,hn⟩
 rcases EU.mp hz with q|q
 ·exact h.bd z q
 ·rw[rf.mp q];exact⟨x0,x1⟩
theorem jj.order {m n:Nat}{nx:Int}{gs os:List Int}(h:jj m n nx gs) (hl:gs.length=n) (ho:dP n os):GoodR m n nx (os.map fun j=>gs.getD j.toNat 0) :=by
 have has:∀x∈gs,x∈os.map fun j=>gs.getD j.toNat 0:=fun x hx=>by
  obtain⟨k,hk⟩:=qr.mp hx;have xN:=(cr.mp hk).1;refine l6.mpr ⟨(k:Int),ho.perm.mem_iff.mpr (l6.mpr ⟨k,u4.mpr (by omega),rfl⟩),?_⟩
  rw[uu,c8,hk];rfl
 obtain⟨y,hy,hn⟩:=h.ot;refine⟨by rw[ci,ho.len],fun x hx=>?_,has _ h.nxm,y,has y hy,hn⟩
 obtain⟨j,hj,rfl⟩:=l6.mp hx;obtain⟨j0,j1⟩:=ho.mem hj;have IW:j.toNat<gs.length :=by omega
 rw[c8,ar IW];exact h.bd _ (wr IW)
def Am:bX:=fun ds M Q _=>∃b,ds=[.ptr b]/\M b=some .cW/\∀net n,E8 net n->Q (eN net) M
theorem yR {f f1 f2:ag}{fd bP fd2:mf}(D:Df K mg "_law_made" dC ["_law_bag_here"] f fd)
  (aA:Df K mg "_law_take" eJ ["_law_bag_here","_law_many"] f1 bP) (b8:FnOk P w K mg base bq 1 f1 bP ["_law_bag_here","_law_many"] (aW P w K tb vE))
  (cm:Df K mg "_law_order" gX ["_law_bag_here","_law_many"] f2 fd2) (oA:FnOk P w K mg base bq 2 f2 fd2 ["_law_bag_here","_law_many"] (aW P w K tb EL)) (bl:Bl mg) :
  FnOk P w K mg base bq 3 f fd ["_law_bag_here"] (aW P w K tb Am) :=by
 refine gT D cj (fun ds M Q E hS=>by obtain⟨b,e,_⟩:=hS;rw[e];rfl) fun A outer s E Γ ds Q' E' hP hw hK ht hr hS=>?_
 obtain⟨b,e,hb,q⟩:=hS;refine⟨_,(ak (aI (i:=1) cj.nd rfl (sK rfl) (aR eW ay (aK b8 (hr.mono (by decide)) rfl aA.mg aA.fn.kp aA.bd bN hP hw hK ht XR.none (aa (qv 0) (aa ay af)))))
  (ak (aI (i:=2) cj.nd rfl (sK rfl) (sY sZ (aK b8 (hr.mono (by decide)) rfl aA.mg aA.fn.kp aA.bd bN hP hw hK ht XR.none (aa (qv 0) (aa ay af))) ay (cS _)))
  (ak (aI (i:=3) cj.nd rfl (sK rfl) (cc (dA (K:=K) rfl) (rS (aa ay (aa ay af))) (aR vC (qv 1) ay) (fun _ _=>rfl)))
  (ak (d7 (iJ (gQ (qv 2)))
   (ax (aI (i:=3) cj.nd rfl (sK rfl) (aR eW (qv 3) (aK b8 (hr.mono (by decide)) rfl aA.mg aA.fn.kp aA.bd bN hP hw hK ht XR.none (aa (qv 0) (aa (aR vC ay (qv 3)) af))))))
   qss_nil)
  (ak (aI (i:=4) cj.nd rfl (sK rfl) (aK oA (hr.mono (by decide)) rfl cm.mg cm.fn.kp cm.bd bN hP hw hK ht XR.none (aa (qv 0) (aa (qv 3) af))))
  (ak (yE (i:=5) cj.nd rfl rfl (N':=["_law_place"]) (tn:=1) (idx:=[]) rfl (show aJ ["_law_bag_here","_law_fans","_law_few","_law_many","_law_order_here","_law_rows","_law_k","_law_goals"] (aj dC) _ ["_law_place"] 1 [] from by decide +kernel) (lz (K:=K) rfl (qv 4)) (fun _ _ _ _ _=>(a8 (i:=0) (show ON [("_law_place" : bv)] from by decide +kernel) rfl (sK rfl))) (fun _ _ _ _ _=>eG) (fun _ _ _ _ _=>(rS af)))
  (ak (eE At rfl (dW rfl bl.range_ (aa (qv 3) af)) (fun ow eP ew eK et=>by have hP:=hP.trans eP.symm;have hw:=hw.trans ew.symm;have hK:=hK.trans eK.symm;have ht:=ht.trans et.symm;exact⟨(a8 (i:=6) cj.nd rfl (sK rfl)),(ak (aI (i:=7) cj.nd rfl (RI rfl) (ly (aa (cc (dA (K:=K) rfl) (qv 4) (aR gS (aR eW (qv 6) ay) (qv 3)) (fun _ _=>rfl)) (aa (cc (dA (K:=K) rfl) (qv 4) (aR gS (aR eW (aR eW (qv 6) ay) (aK b8 (hr.mono (by decide)) rfl aA.mg aA.fn.kp aA.bd bN hP hw hK ht XR.none (aa (qv 0) (aa (aR vC (qv 3) ay) af)))) (qv 3)) (fun _ _=>rfl)) af))))
  (ak (d7 (QW.pt (DF (cA sZ (qv 1) ay (cS _)) (zM (gQ (qv 2)))))
   (ax (fm (kO (K:=K) rfl DD NL NO jV (qv 7) (aa (cc (dA (K:=K) rfl) (qv 7) (aK b8 (hr.mono (by decide)) rfl aA.mg aA.fn.kp aA.bd bN hP hw hK ht XR.none (aa (qv 0) (aa ay af))) (fun _ _=>rfl)) af))))
   qss_nil)
  (ak (md At (cA xc (aE (dq (K:=K) rfl hK) rfl bl.len_ xy (aa (qv 7) af)) (qv 1) (cS _))
   (ax (fm (kO (K:=K) rfl DD NL NO jV (qv 7) (aa (aK b8 (hr.mono (by decide)) rfl aA.mg aA.fn.kp aA.bd bN hP hw hK ht XR.none (aa (qv 0) (aa (qv 3) af))) af)))))
  (ax (w6 (fO (N':=["_law_fan","_law_goals"]) (tn:=1) (idx:=[7]) rfl (show aJ ["_law_bag_here","_law_fans","_law_few","_law_many","_law_order_here","_law_rows","_law_k","_law_goals"] (aj dC) _ ["_law_fan","_law_goals"] 1 [7] from by decide +kernel) (lz (K:=K) rfl (aK oA (hr.mono (by decide)) rfl cm.mg cm.fn.kp cm.bd bN hP hw hK ht XR.none (aa (qv 0) (aa (qv 1) af)))) (fun _ _ _ _ _=>(a8 (i:=0) (show ON [("_law_fan" : bv),("_law_goals" : bv)] from by decide +kernel) rfl (sK rfl))) (fun _ _ _ _ _=>eG) (fun _ _ _ _ _=>(cc (dA (K:=K) rfl) (qv 1) (qv 0) (fun _ _=>rfl)))) (xi (qv 5) (cc (dA (K:=K) rfl) (qv 4) (qv 6) (fun _ _=>rfl))))))))⟩))
  (ax (Oj 5 rfl (bj (kN (oR (K:=K) rfl) rfl bl.tuple_ fX (aa (fO (N':=["_law_row"]) (tn:=1) (idx:=[]) rfl (show aJ ["_law_bag_here","_law_fans","_law_few","_law_many","_law_order_here","_law_rows","_law_k","_law_goals"] (aj dC) _ ["_law_row"] 1 [] from by decide +kernel) (lz (K:=K) rfl (qv 5)) (fun _ _ _ _ _=>(a8 (i:=0) (show ON [("_law_row" : bv)] from by decide +kernel) rfl (sK rfl))) (fun _ _ _ _ _=>eG) (fun _ _ _ _ _=>(kN (oR (K:=K) rfl) rfl bl.tuple_ fX (aa (qv 0) af)))) af)))))))))))),?_⟩
 subst e;have big:(1000:Nat)<sizeLine :=by decide
 refine IM (fun ρ M=>∃(n m:Nat) (few:Bool),(n=2\/n=3)/\(7<=m\/(4<=m/\n=3))/\m<=9/\M=Γ.M0/\ρ=[some (.ptr b),some (.int (n:Nat)),some (.bl few),some (.int (m:Nat)),none,none,none,none]) (fun N hN=>?_) ?_
 ·dsimp! only[];refine⟨b,_,rfl,hb,by omega,by omega,fun t ht=>?_⟩
  refine⟨b,_,rfl,hb,by omega,by omega,fun u hu=>?_⟩
  dsimp! only[];refine⟨by decide,?_⟩
  rcases (show t=0\/t=1 by omega) with rfl|rfl
  ·show (if (!decide ((u:Int)=0))=true then _ else _)
   refine eX (fun h=>?_) (fun h=>?_)
   ·refine⟨b,3,rfl,hb,by omega,by omega,fun v hv=>hN _ _ ⟨2,7+v,decide ((u:Int)=0),.inl rfl,.inl (by omega),by omega,rfl,?_⟩⟩
    rw[X7];rfl
   ·exact hN _ _ ⟨2,7,_,.inl rfl,.inl (by omega),by omega,rfl,rfl⟩
  ·show (if (!decide ((u:Int)=0))=true then _ else _)
   refine eX (fun h=>?_) (fun h=>?_)
   ·refine⟨b,6,rfl,hb,by omega,by omega,fun v hv=>hN _ _ ⟨3,4+v,decide ((u:Int)=0),.inr rfl,.inr ⟨by omega,rfl⟩,by omega,rfl,?_⟩⟩
    rw[X7];rfl
   ·exact hN _ _ ⟨3,4,_,.inr rfl,.inr ⟨by omega,rfl⟩,by omega,rfl,rfl⟩
 rintro ρ M ⟨n,m,few,hn,hm,h9,rfl,rfl⟩;refine Bt (fun ρ M=>∃os,dP m os/\M=Γ.M0/\ρ=[some (.ptr b),some (.int (n:Nat)),some (.bl few),some (.int (m:Nat)),some (i5 os),none,none,none]) (fun N hN=>?_) ?_
 ·simp! only[];exact⟨b,m,rfl,hb,by omega,fun os eA=>hN _ _ ⟨os,eA,rfl,rfl⟩⟩
 rintro ρ M ⟨os,eA,rfl,rfl⟩;have Dd:=eA.len;simp! only[];refine⟨by omega,fo (fun _=>.lst []) (fun τ M=>(∃x,τ=[x])/\M=Γ.M0) ⟨⟨_,rfl⟩,rfl⟩ (fun d hd τ M hI R hR=>?_) (fun τ M hI=>?_)⟩
 ·obtain⟨⟨x,rfl⟩,rfl⟩:=hI;simp! only[];exact⟨by omega,hR _ _ ⟨⟨_,rfl⟩,rfl⟩⟩
 obtain⟨⟨x,rfl⟩,rfl⟩:=hI;refine fun r hr=>⟨by omega,by omega,?_⟩
 have e0:(os.map Dv.int).map (fun _=>Dv.lst [])=(IT m ([]:List Int)).map i5 :=by
  rw[wv,List.map_replicate,<- Dd];exact List.map_const' ..
 rw[e0];trace_state
 refine cL (fun i ρ M=>∃rs x6 x7,dR Γ.M0 M r m n os i rs/\xY x6/\(x7=none\/∃g o,x7=some (.ptr g)/\g≠r/\M g=some o)/\i<=m/\ρ=[some (.ptr b),some (.int (n:Nat)),some (.bl few),some (.int (m:Nat)),some (i5 os),some (.ptr r),x6,x7]) ?_ (fun i d ρ M N hd hJ hN=>?_) (fun ρ M hJ=>?_)
 ·refine⟨_,_,_,⟨.upd hr .refl,hr,updM_same,XC ..,fun row h=>?_,fun k h=>absurd h (X4 k),fun c o e=>?_⟩,.none,.inl rfl,nw _,rfl⟩
  ·rw[List.eq_of_mem_replicate h];exact nw _
  ·by_cases z:c=r
   ·exact .inr (.inl z)
   ·rw[aq z]at e;exact .inl e
 ·obtain⟨rs,x6,x7,R,p6,p7,WL,rfl⟩:=hJ;obtain⟨rfl,hi⟩:=dX hd;have gx:∀j,j<m->dE (os.map Dv.int) (j:Int)=some (.int (os.getD j 0))/\0<=os.getD j 0/\os.getD j 0<m:=fun j hj=>by
   have hl:j<os.length :=by omega
   have e:os.getD j 0=os[j] :=by rw[c8,ar hl];rfl
   rw[e];exact⟨eF (by rw[db,ar hl];rfl),eA.mem (wr hl)⟩
  have WM:(i+1) % m<m:=XO _ (by omega)
  obtain⟨n1,n2,n3⟩:=gx _ WM;obtain⟨i1,i2,i3⟩:=gx i hi;have jO:=R.kp _ _ hb;simp only[zgName,WJ,WP];refine Rb (fun ρ M=>∃g gs,dR Γ.M0 M r m n os i rs/\Γ.M0 g=none/\g≠r/\M g=some (.lst (gs.map .int))/\jj m n (os.getD ((i+1) % m) 0) gs/\gs.length=n/\ρ=[some (.ptr b),some (.int (n:Nat)),some (.bl few),some (.int (m:Nat)),some (i5 os),some (.ptr r),some (.int (i:Nat)),some (.ptr g)]) (fun N2 xW=>?_) ?_
  ·refine Bt (fun ρ M=>∃g gs,dR Γ.M0 M r m n os i rs/\Γ.M0 g=none/\g≠r/\M g=some (.lst (gs.map .int))/\jj m n (os.getD ((i+1) % m) 0) gs/\gs.length=2/\ρ=[some (.ptr b),some (.int (n:Nat)),some (.bl few),some (.int (m:Nat)),some (i5 os),some (.ptr r),some (.int (i:Nat)),some (.ptr g)]) (fun N3 E9=>?_) ?_
   ·simp! only[];rw[show ((i:Int)+1) % (m:Int)=(((i+1) % m:Nat):Int) by rw[ZL,X7];rfl,n1]
    refine⟨by omega,b,_,rfl,jO,by omega,by omega,fun t ht=>?_⟩
    have ml:(i+2+t) % m<m:=XO _ (by omega)
    obtain⟨o1,o2,o3⟩:=gx _ ml;simp! only[];rw[show ((i:Int)+2+(t:Int)) % (m:Int)=(((i+2+t) % m:Nat):Int) by rw[ZL,X7,X7];rfl,o1]
    refine⟨by omega,by decide,fun g hg=>?_⟩
    obtain⟨g0,gr⟩:=R.new hg;refine E9 _ _ ⟨g,[os.getD ((i+1) % m) 0,os.getD ((i+2+t) % m) 0],R.own g0 gr (row:=[os.getD ((i+1) % m) 0,os.getD ((i+2+t) % m) 0]),g0,gr,updM_same,⟨by simp;omega,fun x hx=>?_,i4,_,f8 _ i4,fun e=>?_⟩,rfl,rfl⟩
    ·simp only[l8,Co,or_false]at hx;rcases hx with rfl|rfl
     ·exact⟨n2,n3⟩
     ·exact⟨o2,o3⟩
    ·have l1:(i+2+t) % m<os.length :=by omega
     have l2:(i+1) % m<os.length :=by omega
     have e:os[(i+2+t) % m]=os[(i+1) % m] :=by
      rw[c8,c8,ar l1,ar l2]at e;exact e
     have e:=(Zz eA.nodup).mp e;have ht:t<m - 1 :=by omega
     by_cases z:i+1=m
     ·rw[show i+2+t=m+(t+1) by omega,Nat.add_mod_left,Uf (by omega),z,Nat.mod_self]at e
      omega
     ·rw[Uf (show i+1<m by omega)]at e
      by_cases y:i+2+t<m
      ·rw[Uf y]at e;omega
      ·rw[Nat.mod_eq_sub_mod (by omega),Uf (by omega)]at e;omega
   ·rintro ρ M ⟨g,gs,R,g0,gr,lJ,G,gl,rfl⟩;refine Bt (fun ρ M=>∃gs,dR Γ.M0 M r m n os i rs/\M g=some (.lst (gs.map .int))/\jj m n (os.getD ((i+1) % m) 0) gs/\ρ=[some (.ptr b),some (.int (n:Nat)),some (.bl few),some (.int (m:Nat)),some (i5 os),some (.ptr r),some (.int (i:Nat)),some (.ptr g)]) (fun N3 E9=>?_) ?_
    ·simp! only[lJ];refine eX (fun h=>?_) (fun h=>E9 _ _ ⟨gs,R,lJ,G,rfl⟩)
     have h:=of_decide_eq_true h;refine eX (fun h2=>?_) (fun h2=>E9 _ _ ⟨gs,R,lJ,G,rfl⟩)
     refine⟨b,_,rfl,R.kp _ _ hb,by omega,by omega,fun t ht=>?_⟩
     have tl:t<gs.length :=by omega
     have et:dE (gs.map Dv.int) (t:Int)=some (.int gs[t]):=eF (by rw[db,ar tl];rfl)
     obtain⟨z0,z1⟩:=G.bd _ (wr tl);simp only[et,lJ];have q:=R.own g0 gr (row:=gs++[gs[t]]);rw[xw]at q;exact⟨by rw[ci];omega,E9 _ _ ⟨gs++[gs[t]],q,by rw[updM_same,xw];rfl,G.snoc (by omega) z0 z1,rfl⟩⟩
    ·rintro ρ M ⟨gs,R,lJ,G,rfl⟩;refine⟨fun k ρ M=>∃gs,k=n - gs.length/\dR Γ.M0 M r m n os i rs/\M g=some (.lst (gs.map .int))/\jj m n (os.getD ((i+1) % m) 0) gs/\ρ=[some (.ptr b),some (.int (n:Nat)),some (.bl few),some (.int (m:Nat)),some (i5 os),some (.ptr r),some (.int (i:Nat)),some (.ptr g)],⟨_,gs,rfl,R,lJ,G,rfl⟩,?_⟩
     rintro k ρ M ⟨gs,rfl,R,lJ,G,rfl⟩;have Xv:=G.len;simp! only[lJ];refine eX (fun h=>?_) (fun h=>?_)
     ·have h:=of_decide_eq_true h;refine⟨b,_,rfl,R.kp _ _ hb,by omega,by omega,fun t ht=>?_⟩
      simp only[lJ];have q:=R.own g0 gr (row:=gs++[(t:Int)]);rw[xw]at q;exact⟨by rw[ci];omega,_,by rw[xb,Da];omega,gs++[(t:Int)],rfl,q,by rw[xw];rfl,G.snoc (by omega) (by omega) (by omega)⟩
     ·have h:=of_decide_eq_false h;exact xW _ _ ⟨g,gs,R,g0,gr,lJ,G,by omega,rfl⟩
  ·rintro ρ M ⟨g,gs,R,g0,gr,lJ,G,gl,rfl⟩;simp! only[];refine⟨b,n,rfl,R.kp _ _ hb,by omega,fun os2 jB=>?_⟩
   simp! only[];have l2:=jB.len;refine⟨by omega,fo (fun d=>match d with|Dv.int j=>Dv.int (gs.getD j.toNat 0)|d=>d) (fun τ M'=>(∃x,τ=[x,some (.ptr g)])/\M'=M) ⟨⟨_,rfl⟩,rfl⟩ (fun d hd τ M' hI R2 hR=>?_) (fun τ M' hI=>?_)⟩
   ·obtain⟨⟨x,rfl⟩,rfl⟩:=hI;obtain⟨j,hj,rfl⟩:=l6.mp hd;obtain⟨j0,j1⟩:=jB.mem hj;have hR:=hR [some (.int j),some (.ptr g)] M' ⟨⟨_,rfl⟩,rfl⟩;obtain⟨k,rfl⟩:=FM j0;have kl:k<gs.length :=by omega
    have ek:dE (gs.map Dv.int) (k:Int)=some (.int gs[k]):=eF (by rw[db,ar kl];rfl)
    simp! only[lJ,ek];dsimp only at hR;rw[uu,c8,ar kl]at hR;exact hR
   ·obtain⟨⟨x,rfl⟩,rfl⟩:=hI;have e:(os2.map Dv.int).map (fun d=>match d with|Dv.int j=>Dv.int (gs.getD j.toNat 0)|d=>d)=(os2.map fun j=>gs.getD j.toNat 0).map Dv.int :=by
     rw[wv,wv];rfl
    rw[e];have GR:=G.order gl jB;generalize os2.map (fun j=>gs.getD j.toNat 0)=row at GR ⊢
    obtain⟨p,hp⟩:=FM i2;rw[hp]at i1;have pl:p<rs.length :=by rw[R.len];omega
    have q:=R.put eA hi hp (by rw[GR.1];omega) GR
    simp only[i1,R.rm,ci,KO pl];rw[show (rs.map i5).set p (.lst (row.map Dv.int))=(rs.set p row).map i5 by rw[List.map_set]]
    refine hN _ _ ⟨_,_,_,q,.int _,.inr ⟨g,_,rfl,gr,by rw[aq gr];exact lJ⟩,hi,rfl⟩
 ·obtain⟨rs,x6,x7,R,p6,p7,WL,rfl⟩:=hJ;rw[rangeD_len]at R;have rl:=R.len;have all:∀row∈rs,∃nx,GoodR m n nx row:=fun row hr=>by
   obtain⟨p,hp⟩:=qr.mp hr;have bM:=(cr.mp hp).1;have:(p:Int)∈os:=eA.perm.mem_iff.mpr (l6.mpr ⟨p,u4.mpr (by omega),rfl⟩)
   obtain⟨k,hk⟩:=qr.mp this;have xN:=(cr.mp hk).1;have:=R.good k (by omega)
   rw[show os.getD k 0=(p:Int) by rw[c8,hk];rfl,uu,show rs.getD p []=row by rw[c8,hp];rfl]at this
   exact⟨_,this⟩
  have O:aU rs n:=⟨by omega,by omega,by omega,fun row hr=>by obtain⟨nx,g1,g2,_⟩:=all row hr;exact⟨g1,by rw[rl];exact g2⟩⟩
  have MD:E8 rs n :=by
   refine⟨O,by omega,Hi O rl eA fun k hk=>(R.good k hk).2.2.1,?_⟩
   have:=Hg (net:=rs) (b:=n) fun row hr=>by obtain⟨nx,g⟩:=all row hr;exact Hh g hn
   rw[rl]at this;refine l9 ?_ this;rcases hn with rfl|rfl
   ·exact l9 (by decide) (Nat.pow_le_pow_right (by decide) (show 7<=m by omega))
   ·exact l9 (by decide) (Nat.pow_le_pow_right (by decide) (show 4<=m by omega))
  have nb:∀{c o},Γ.M0 c=some o->c≠r:=fun e z=>by rw[z,R.r0]at e;cases e
  have dk:Keeps Γ.M0 (de M r):=fun c o e=>by rw[dB (nb e)];exact R.kp c o e
  refine .inr ⟨r,_,rfl,R.rm,R.r0,⟨fun j d e=>?_,fun c o e=>?_⟩,?_⟩
  ·match j,e with
   |0,e=>cases e;exact .ptr (by rw[dk _ _ hb];rfl)
   |1,e=>cases e;exact .int _
   |2,e=>cases e;exact .bl _
   |3,e=>cases e;exact .int _
   |4,e=>cases e;exact .lst (jX _)
   |5,e=>cases e;exact .lst fun d hd=>by
                 obtain⟨row,_,rfl⟩:=l6.mp hd;exact .lst (jX _)
   |6,e=>exact p6 _ _ (l7 e)
   |7,e=>
    rcases p7 with rfl|⟨g,o,rfl,h1,h2⟩
    ·exact nomatch e
    ·cases e;exact .ptr (by rw[dB h1,h2];rfl)
   |j+8,e=>exact nomatch e
  ·have nc:c≠r:=fun z=>by rw[z,d8]at e;cases e
   rw[dB nc]at e;rcases R.oth c o e with q|q|⟨row,rfl⟩
   ·exact .inl q
   ·exact absurd q nc
   ·exact .inr (jX row)
  ·simp! only[];refine⟨by omega,fo (fun d=>match d with|Dv.lst xs=>Dv.tup xs|d=>d) (fun τ M'=>(∃x,τ=[x])/\M'=de M r) ⟨⟨_,rfl⟩,rfl⟩ (fun d hd τ M' hI R2 hR=>?_) (fun τ M' hI=>?_)⟩
   ·obtain⟨⟨x,rfl⟩,rfl⟩:=hI;obtain⟨row,yj,rfl⟩:=l6.mp hd;have hR:=hR [some (.lst (row.map Dv.int))] _ ⟨⟨_,rfl⟩,rfl⟩;simp! only[];exact hR
   ·obtain⟨⟨x,rfl⟩,rfl⟩:=hI;rw[show (rs.map i5).map (fun d=>match d with|Dv.lst xs=>Dv.tup xs|d=>d)=rs.map eI by rw[wv];rfl]
    exact uL dk (Of rs) (q rs n MD)
theorem k8:aP ["_law_bag_here","_law_net","_law_place","_law_spare"] ["_law_bag_here","_law_net"] (aj gY):=⟨rfl,rfl,rfl,by decide +kernel,rfl,by decide +kernel,by decide +kernel⟩
def qC (t s x:Int):Int:=if x=t then s else x
def g6 (t s:Int) (net:List (List Int)):List (List Int):=net.map fun row=>row.map (qC t s)
theorem Fb {net:List (List Int)}{n:Nat}(O:aU net n) {t s:Int}(s0:0<=s) (s1:s<net.length):aU (g6 t s net) n :=by
 have hl:(g6 t s net).length=net.length:=ci ..;refine⟨by rw[hl];exact O.one,by rw[hl];exact O.nine,O.wid,fun row hr=>?_⟩
 obtain⟨r,hm,rfl⟩:=l6.mp hr;obtain⟨h1,h2⟩:=O.row r hm;refine⟨by rw[ci];exact h1,fun x hx=>?_⟩
 obtain⟨y,hy,rfl⟩:=l6.mp hx;rw[hl];unfold qC;split
 ·exact⟨s0,s1⟩
 ·exact h2 y hy
theorem K1 {net:List (List Int)}{n:Nat}(O:aU net n) {t s:Int}(t0:0<=t) (t1:t<net.length) (s0:0<=s) (s1:s<net.length) (cJ:s≠t):¬ bY (g6 t s net) n :=by
 have hl:(g6 t s net).length=net.length:=ci ..;have O2:=Fb O (t:=t) s0 s1;intro W;have h:=W s (a9.mpr ⟨s0,by rw[hl];exact s1⟩) t (a9.mpr ⟨t0,by rw[hl];exact t1⟩)
 have key:∀p,fR (g6 t s net) n s p->p≠t:=fun p h=>by
  induction h with
  |base=>exact cJ
  | @step p a h ha ih=>
   have hp:=ya O2 (a9.mpr ⟨s0,by rw[hl];exact s1⟩) h
   obtain⟨z0,z1⟩:=a9.mp hp;have hi:p.toNat<(g6 t s net).length :=by omega
   have hr:=(O2.row _ (wr hi)).1;have SY:a<(g6 t s net)[p.toNat].length :=by rw[hr];exact ha
   have e:cy (g6 t s net) p a=(g6 t s net)[p.toNat][a] :=by
    unfold cy;rw[getD_at hi,c8,ar SY];rfl
   rw[e];have hm:=wr SY;generalize (g6 t s net)[p.toNat][a]=x at hm
   have yj:=wr hi;generalize (g6 t s net)[p.toNat]=row at hm yj
   obtain⟨r,_,rfl⟩:=l6.mp yj;obtain⟨y,_,rfl⟩:=l6.mp hm;unfold qC;split
   ·exact cJ
   ·assumption
 exact key t h rfl
def Fc:bX:=fun ds M Q _=>∃b net n,ds=[.ptr b,eN net]/\M b=some .cW/\aU net n/\4<=net.length/\∀yk,aU yk n->¬ bY yk n->Q (eN yk) M
def PD (t s:Int):Dv->Dv
 | .tup ds=>.tup (ds.map fun d=>match d with | .int x=>.int (qC t s x)|d=>d)
 |d=>d
theorem BQ {f f1:ag}{fd bP:mf}(D:Df K mg "_law_cut" gY ["_law_bag_here","_law_net"] f fd)
  (aA:Df K mg "_law_take" eJ ["_law_bag_here","_law_many"] f1 bP) (b8:FnOk P w K mg base bq 1 f1 bP ["_law_bag_here","_law_many"] (aW P w K tb vE)) (bl:Bl mg) :
  FnOk P w K mg base bq 2 f fd ["_law_bag_here","_law_net"] (aW P w K tb Fc) :=by
 refine gT D k8 (fun ds M Q E hS=>by obtain⟨b,net,n,e,_⟩:=hS;rw[e];rfl) fun A outer s E Γ ds Q' E' hP hw hK ht hr hS=>?_
 obtain⟨b,net,n,e,hb,O,h4,q⟩:=hS;refine⟨_,(ak (aI (i:=2) k8.nd rfl (RI rfl) (aK b8 (hr.mono (by decide)) rfl aA.mg aA.fn.kp aA.bd bN hP hw hK ht XR.none (aa (qv 0) (aa (aE (dq (K:=K) rfl hK) rfl bl.len_ xy (aa (qv 1) af)) af))))
  (ak (aI (i:=3) k8.nd rfl (RI rfl) (aR gS (aR eW (qv 2) ay) (aE (dq (K:=K) rfl hK) rfl bl.len_ xy (aa (qv 1) af))))
  (ax (bj (kN (oR (K:=K) rfl) rfl bl.tuple_ fX (aa (fO (N':=["_law_row","_law_spare","_law_place"]) (tn:=1) (idx:=[3,2]) rfl (show aJ ["_law_bag_here","_law_net","_law_place","_law_spare"] (aj gY) _ ["_law_row","_law_spare","_law_place"] 1 [3,2] from by decide +kernel) (jT (K:=K) rfl (qv 1)) (fun _ _ _ _ _=>(a8 (i:=0) (show ON [("_law_row" : bv),("_law_spare" : bv),("_law_place" : bv)] from by decide +kernel) rfl (sK rfl))) (fun _ _ _ _ _=>eG) (fun _ _ _ _ _=>(kN (oR (K:=K) rfl) rfl bl.tuple_ fX (aa (fO (N':=["_law_there","_law_spare","_law_place"]) (tn:=1) (idx:=[1,2]) rfl (aJ.rel (show aJ ["_law_row","_law_spare","_law_place"] _ _ ["_law_there","_law_spare","_law_place"] 1 [1,2] from by decide +kernel)) (jT (K:=K) rfl (qv 0)) (fun _ _ _ _ _=>(a8 (i:=0) (show ON [("_law_there" : bv),("_law_spare" : bv),("_law_place" : bv)] from by decide +kernel) rfl (sK rfl))) (fun _ _ _ _ _=>eG) (fun _ _ _ _ _=>(GB (cA sZ (qv 0) (qv 2) (cS _)) (qv 1) (qv 0)))) af)))) af)))))),?_⟩
 subst e;have h9:=O.nine;have big:(1000:Nat)<sizeLine :=by decide
 simp! only[];refine⟨b,_,rfl,hb,by omega,by omega,fun t ht=>?_⟩
 have s0:0<=((t:Int)+1) % (net.length:Int):=WI _ (by omega)
 have s1:((t:Int)+1) % (net.length:Int)<net.length:=Zc _ (by omega)
 have cJ:((t:Int)+1) % (net.length:Int)≠t :=by
  by_cases z:(t:Int)+1=net.length
  ·rw[z,Int.emod_self];omega
  ·rw[Int.emod_eq_of_lt (by omega) (by omega)];omega
 simp! only[];generalize ((t:Int)+1) % (net.length:Int)=s2 at s0 s1 cJ ⊢
 have q:=q (g6 t s2 net) (Fb O s0 s1) (K1 O (by omega) (by omega) s0 s1 cJ)
 refine⟨by omega,by omega,fo (PD t s2) (fun τ M=>(∃x,τ=[x,some (.int s2),some (.int (t:Nat))])/\M=Γ.M0) ⟨⟨_,rfl⟩,rfl⟩ (fun d hd τ M hI R hR=>?_) (fun τ M hI=>?_)⟩
 ·obtain⟨⟨x,rfl⟩,rfl⟩:=hI;obtain⟨row,yj,rfl⟩:=l6.mp hd;have h3:row.length<=3 :=by have:=(O.row row yj).1;have:=O.wid;omega
  simp! only[];refine⟨by omega,fo (fun d=>match d with|Dv.int x=>Dv.int (qC t s2 x)|d=>d) (fun τ M=>(∃x,τ=[x,some (.int s2),some (.int (t:Nat))])/\M=Γ.M0) ⟨⟨_,rfl⟩,rfl⟩ (fun d hd τ M hI R2 vd=>?_) (fun τ M hI=>?_)⟩
  ·obtain⟨⟨x,rfl⟩,rfl⟩:=hI;obtain⟨y,_,rfl⟩:=l6.mp hd;have vd:=vd [some (.int y),some (.int s2),some (.int (t:Nat))] Γ.M0 ⟨⟨_,rfl⟩,rfl⟩;dsimp only at vd;unfold qC at vd;simp! only[];refine eX (fun h=>?_) (fun h=>?_)
   ·rw[if_pos (of_decide_eq_true h)]at vd;exact vd
   ·rw[if_neg (of_decide_eq_false h)]at vd;exact vd
  ·obtain⟨⟨x,rfl⟩,rfl⟩:=hI;exact hR _ _ ⟨⟨_,rfl⟩,rfl⟩
 ·obtain⟨⟨x,rfl⟩,rfl⟩:=hI;have e:(net.map eI).map (PD t s2)=(g6 t s2 net).map eI :=by
   unfold g6;rw[wv,wv];refine YY fun row _=>?_
   show Dv.tup ((row.map Dv.int).map _)=Dv.tup ((row.map (qC t s2)).map Dv.int);rw[wv,wv];rfl
  rw[e];exact .inl q
end
section
variable {P:ff}{w:hX}{K:bn}{mg:bv->Option ap}{base:ii}{tb:b5}{C_RoadError C_NoNet C_NoPlace C_NoSign C_NoWord C_NoWhole C_NoNumber C_NoKin C_NoSet C_NoPair C_NoStep C_NoCall C_TooMany C_NoPaper C_NoText C_NoRow C_NoDeed:ag}{cs:List ag}
theorem dy:aP ["_law_net","_law_which","e","_law_some","_law_others"] ["_law_net","_law_which"] (aj fw):=⟨rfl,rfl,rfl,by decide +kernel,rfl,by decide +kernel,by decide +kernel⟩
theorem oB {K:bn}{C:ag}:∀{Ds:List ag},(∀D∈Ds,Mn K (.ref C) (.ref D)=some false)->XH K (.ref C) (Ds.map li)=some false
 | [],_=>by simp[XH]
 |D::Ds,h=>by
          rw[ss];unfold XH;rw[h D i4];exact oB fun D' hD=>h D' (f8 _ hD)
theorem BR {C1 C2:ag}{ds:List Dv}{M:Mh}{Q:ZK}{E:ZX}{net:List (List Int)}{n:Nat}(e:ds=[eN net]) (O:aU net n) (h1:bY net n->64<iA net) (h:∀C,C=C2/\bY net n\/C=C1/\¬ bY net n->E C M):tT C1 C2 ds M Q E:=
 ⟨net,n,e,O,fun W=>⟨h1 W,h _ (.inl ⟨rfl,W⟩)⟩,fun W=>h _ (.inr ⟨rfl,W⟩)⟩
def Fd:bX:=fun ds M Q _=>∃net n i,ds=[eN net,.int i]/\aU net n/\(i=0/\bY net n/\64<iA net\/i=1/\¬ bY net n)/\Q (.bl true) M
theorem tU {f f1:ag}{fd bP:mf}(D:Df K mg "_law_refused" fw ["_law_net","_law_which"] f fd)
  (cn:Df K mg "called_signings" dH ["net"] f1 bP) (pC:FnOk P w K mg base (dj P w) 13 f1 bP ["net"] (aW P w K tb (tT C_NoWhole C_TooMany)))
  (X_:wG K C_RoadError cs) (iq:C_NoNet∈cs) (kT:C_NoPlace∈cs) (mM:C_NoSign∈cs) (mO:C_NoWord∈cs) (cp:C_NoWhole∈cs) (jk:C_NoNumber∈cs) (o6:C_NoKin∈cs) (o7:C_NoSet∈cs) (mP:C_NoPair∈cs) (mQ:C_NoStep∈cs) (mR:C_NoCall∈cs) (cq:C_TooMany∈cs) (mS:C_NoText∈cs) (o8:C_NoRow∈cs) (mU:C_NoDeed∈cs)
  (pb:∀C∈cs,Mn K (.ref C) (.ref C_NoPaper)=some false) (nd:[C_NoNet,C_NoPlace,C_NoSign,C_NoWord,C_NoWhole,C_NoNumber,C_NoKin,C_NoSet,C_NoPair,C_NoStep,C_NoCall,C_TooMany,C_NoText,C_NoRow,C_NoDeed].Nodup)
  (k9:mg "RoadError" = some (.ref C_RoadError)) (jq:mg "NoNet" = some (.ref C_NoNet)) (oC:mg "NoPlace" = some (.ref C_NoPlace)) (qD:mg "NoSign" = some (.ref C_NoSign)) (qE:mg "NoWord" = some (.ref C_NoWord)) (gE:mg "NoWhole" = some (.ref C_NoWhole)) (mV:mg "NoNumber" = some (.ref C_NoNumber)) (tV:mg "NoKin" = some (.ref C_NoKin)) (tW:mg "NoSet" = some (.ref C_NoSet)) (qF:mg "NoPair" = some (.ref C_NoPair)) (qG:mg "NoStep" = some (.ref C_NoStep)) (qH:mg "NoCall" = some (.ref C_NoCall)) (gG:mg "TooMany" = some (.ref C_TooMany)) (oE:mg "NoPaper" = some (.ref C_NoPaper)) (qI:mg "NoText" = some (.ref C_NoText)) (tX:mg "NoRow" = some (.ref C_NoRow)) (qJ:mg "NoDeed" = some (.ref C_NoDeed)) (bl:Bl mg) :
  FnOk P w K mg base bq 14 f fd ["_law_net","_law_which"] (aW P w K tb Fd) :=by
 refine gT D dy (fun ds M Q E hS=>by obtain⟨net,n,i,e,_⟩:=hS;rw[e];rfl) fun A outer s E Γ ds Q' E' hP hw hK ht hr hS=>?_
 obtain⟨net,n,i,e,O,hi,q⟩:=hS;refine⟨_,(ak (KL (i:=2) (nn:=5) rfl dy.nd rfl rfl ⟨rfl,rfl⟩ rfl X_.top rfl k9 pC (hr.mono (by decide)) rfl cn.mg cn.fn.kp cn.bd hP hw hK ht (fun T pn=>(aa (qv 0) af))
   (fun ea=>(ak (aI (i:=3) dy.nd rfl (sK rfl) (rS (aa (aE (rX (K:=K) rfl) rfl bl.isinstance_ bR (aa (qv 2) (aa (bK (v:=.ref C_TooMany) rfl gG rfl) af))) (aa (aE (rX (K:=K) rfl) rfl bl.isinstance_ bR (aa (qv 2) (aa (bK (v:=.ref C_NoWhole) rfl gE rfl) af))) af))))
  (ak (aI (i:=4) dy.nd rfl (sK rfl) (aE (rX (K:=K) rfl) rfl bl.isinstance_ bR (aa (qv 2) (aa (jR (aa (bK (v:=.ref C_NoCall) rfl qH rfl) (aa (bK (v:=.ref C_NoDeed) rfl qJ rfl) (aa (bK (v:=.ref C_NoKin) rfl tV rfl) (aa (bK (v:=.ref C_NoNet) rfl jq rfl) (aa (bK (v:=.ref C_NoNumber) rfl mV rfl) (aa (bK (v:=.ref C_NoPair) rfl qF rfl) (aa (bK (v:=.ref C_NoPaper) rfl oE rfl) af)))))))) af))))
  (ak (aI (i:=4) dy.nd rfl (sK rfl) (QY (qv 4) (rR (aE (rX (K:=K) rfl) rfl bl.isinstance_ bR (aa (qv 2) (aa (jR (aa (bK (v:=.ref C_NoPlace) rfl oC rfl) (aa (bK (v:=.ref C_NoRow) rfl tX rfl) (aa (bK (v:=.ref C_NoSet) rfl tW rfl) (aa (bK (v:=.ref C_NoSign) rfl qD rfl) (aa (bK (v:=.ref C_NoStep) rfl qG rfl) (aa (bK (v:=.ref C_NoText) rfl qI rfl) (aa (bK (v:=.ref C_NoWord) rfl qE rfl) af)))))))) af))))))
  (ax (bj (n6 (aE (rX (K:=K) rfl) rfl bl.isinstance_ bR (aa (qv 2) (aa (lx (v:=.ty "ValueError") rfl bl.ValueError_ vg rfl) af))) (n6 (cc (dA (K:=K) rfl) (qv 3) (qv 1) (fun _ _=>rfl)) (n6 (sY sZ (kO (K:=K) rfl DD PySem.F.slot_list_count PySem.F.type_list_count GW (qv 3) (aa kG af)) ay (cS _)) (rR (DG (qv 4)))))))))))))
  (ax (bj kG))),?_⟩
 subst e;have an:∀C∈cs,∀Ds:List ag,(∀D∈Ds,D=C_NoPaper\/(D∈cs/\C≠D))->XH K (.ref C) (Ds.map li)=some false:=fun C hC Ds h=>oB fun D hD=>by
  rcases h D hD with rfl|⟨h1,h2⟩
  ·exact pb C hC
  ·rw[X_.one C hC D h1,decide_eq_false h2]
 simp only[Ll,l8,Co,not_or,or_false,not_false_eq_true]at nd;have tw:C_TooMany≠C_NoWhole :=by simp[nd,wp]
 have key:∀C,(C=C_TooMany/\i=0\/C=C_NoWhole/\i=1)->C∈cs/\(∃b,Mn K (.ref C) (.ref C_TooMany)=some b/\Mn K (.ref C) (.ref C_NoWhole)=some (!b)/\dE [Dv.bl b,.bl !b] i=some (.bl true))/\XH K (.ref C) ([C_NoCall,C_NoDeed,C_NoKin,C_NoNet,C_NoNumber,C_NoPair,C_NoPaper].map li)=some false/\XH K (.ref C) ([C_NoPlace,C_NoRow,C_NoSet,C_NoSign,C_NoStep,C_NoText,C_NoWord].map li)=some false:=fun C hC=>by
  rcases hC with ⟨rfl,rfl⟩|⟨rfl,rfl⟩
  ·exact⟨cq,⟨true,by rw[X_.one _ cq _ cq,decide_eq_true rfl],by rw[X_.one _ cq _ cp,decide_eq_false tw];rfl,rfl⟩,
    an _ cq _ (by simp[mR,mU,o6,iq,jk,mP,nd,wp]),an _ cq _ (by simp[kT,o8,o7,mM,mQ,mS,mO,nd,wp])⟩
  ·exact⟨cp,⟨false,by rw[X_.one _ cp _ cq,decide_eq_false (wp tw)],by rw[X_.one _ cp _ cp,decide_eq_true rfl];rfl,rfl⟩,
    an _ cp _ (by simp[mR,mU,o6,iq,jk,mP,nd,wp]),an _ cp _ (by simp[kT,o8,o7,mM,mQ,mS,mO,nd,wp])⟩
 have cnt:∀b:Bool,decide ((([b,!b].count true:Nat):Int)=1)=true:=fun b=>by cases b<;>rfl
 clear nd an tw
 simp! only[Ix];refine BR rfl O (fun W=>?_) fun C hC=>?_
 ·rcases hi with ⟨_,_,h⟩|⟨_,h⟩
  ·exact h
  ·exact absurd W h
 ·obtain⟨mC,⟨b,o1,o2,ai⟩,k1,k2⟩:=key C (by
   rcases hi with ⟨h1,h2,_⟩|⟨h1,h2⟩
   ·exact .inl ⟨hC.elim (fun h=>h.1) fun h=>absurd h2 h.2,h1⟩
   ·exact .inr ⟨hC.elim (fun h=>absurd h.2 h2) fun h=>h.1,h1⟩)
  have c:=X_.cl _ mC;have cb:=cnt b;simp only[ss,Lu]at k1 k2;refine⟨X_.sub _ mC,?_⟩;simp! only[Ix,o1,o2,ai];refine⟨c,c,by decide,by decide,c,[C_NoCall,C_NoDeed,C_NoKin,C_NoNet,C_NoNumber,C_NoPair,C_NoPaper],rfl,?_⟩
  simp only[ss,Lu,k1,gc,if_false];refine⟨by decide,c,[C_NoPlace,C_NoRow,C_NoSet,C_NoSign,C_NoStep,C_NoText,C_NoWord],rfl,?_⟩
  simp only[ss,Lu,k2,X_.val _ mC,if_true,cb,SO];exact⟨c,.inl q⟩
end
section
variable {P:ff}{w:hX}{K:bn}{mg:bv->Option ap}{base:ii}{tb:b5}
theorem sI:aP ["_law_script","_law_k","_law_bag_here","_law_net"] ["_law_script"] (aj BC):=⟨rfl,rfl,rfl,by decide +kernel,rfl,by decide +kernel,by decide +kernel⟩
theorem PF {f f1 f2 f3 f4:ag}{fd bP fd2 u9 S0:mf}(D:Df K mg "law" BC ["_law_script"] f fd)
  (fA:Df K mg "_law_bag" ji ["_law_script","_law_at"] f1 bP) (BU:FnOk P w K mg base bq 1 f1 bP ["_law_script","_law_at"] (aW P w K tb Pb))
  (eO:Df K mg "_law_made" dC ["_law_bag_here"] f2 fd2) (yS:FnOk P w K mg base bq 3 f2 fd2 ["_law_bag_here"] (aW P w K tb Am))
  (fB:Df K mg "_law_cut" gY ["_law_bag_here","_law_net"] f3 u9) (BV:FnOk P w K mg base bq 2 f3 u9 ["_law_bag_here","_law_net"] (aW P w K tb Fc))
  (bI:Df K mg "_law_refused" fw ["_law_net","_law_which"] f4 S0) (lK:FnOk P w K mg base bq 14 f4 S0 ["_law_net","_law_which"] (aW P w K tb Fd)) (bl:Bl mg) :
  FnOk P w K mg base bq 15 f fd ["_law_script"] (aW P w K tb Og) :=by
 refine gT D sI (fun ds M Q E hS=>by obtain⟨ns,e,_⟩:=hS;rw[e];rfl) fun A outer s E Γ ds Q' E' hP hw hK ht hr hS=>?_
 obtain⟨ns,e,hl,hM,q⟩:=hS;refine⟨_,(ak (eE At rfl (dW rfl bl.range_ (aa (aR eW (aE (DU rfl) rfl bl.min_ wm (aa ay (aa (aE (dq (K:=K) rfl hK) rfl bl.len_ xy (aa (qv 0) af)) af))) ay) af)) (fun ow eP ew eK et=>by have hP:=hP.trans eP.symm;have hw:=hw.trans ew.symm;have hK:=hK.trans eK.symm;have ht:=ht.trans et.symm;exact⟨(a8 (i:=1) sI.nd rfl (sK rfl)),(ak (aI (i:=2) sI.nd rfl (sK rfl) (aK BU (hr.mono (by decide)) rfl fA.mg fA.fn.kp fA.bd bN hP hw hK ht XR.none (aa (qv 0) (aa (qv 1) af))))
  (ak (aI (i:=3) sI.nd rfl (sK rfl) (aK yS (hr.mono (by decide)) rfl eO.mg eO.fn.kp eO.bd bN hP hw hK ht XR.none (aa (qv 2) af)))
  (ax (d7 (QW.pt (Bi (iJ (gQ (aK lK (hr.mono (by decide)) rfl bI.mg bI.fn.kp bI.bd bN hP hw hK ht XR.none (aa (qv 3) (aa ay af))))) (w5 (iJ (gQ (aK lK (hr.mono (by decide)) rfl bI.mg bI.fn.kp bI.bd bN hP hw hK ht XR.none (aa (aK BV (hr.mono (by decide)) rfl fB.mg fB.fn.kp fB.bd bN hP hw hK ht XR.none (aa (qv 2) (aa (qv 3) af))) (aa ay af))))))))
   (ax (bj kG))
   qss_nil))))⟩))
  (ax (bj kG))),?_⟩
 subst e;simp! only[];refine⟨by split<;>omega,by split<;>omega,?_⟩
 refine cL (fun k ρ M=>∃x1 x2 x3,ρ=[some (.bt ns),x1,x2,x3]) ⟨_,_,_,rfl⟩ (fun k d ρ M N hd hJ hN=>?_) (fun ρ M _=>.inl (q _))
 obtain⟨x1,x2,x3,rfl⟩:=hJ;obtain⟨rfl,hk⟩:=dX hd;have hk:k<=20 :=by split at hk<;>omega
 simp! only[];refine⟨ns,_,rfl,hl,by omega,by omega,fun b hb=>?_⟩
 refine⟨b,rfl,updM_same,fun net n MD=>?_⟩
 refine⟨net,n,0,rfl,MD.ok,.inl ⟨rfl,MD.whole,MD.more⟩,?_⟩;simp! only[];refine⟨b,net,n,rfl,updM_same,MD.ok,MD.four,fun yk O' W'=>?_⟩
 refine⟨yk,n,1,rfl,O',.inr ⟨rfl,W'⟩,?_⟩;simp! only[];exact hN _ _ ⟨_,_,_,rfl⟩
end
theorem all_mk {l:ZU}{w:hX}{K:bn}{h:ii}{mg:bv->Option ap}{fa:ag}{tabs lts:List ag}{C_RoadError C_NoNet C_NoPlace C_NoSign C_NoWord C_NoWhole C_NoNumber C_NoKin C_NoSet C_NoPair C_NoStep C_NoCall C_TooMany C_NoText C_NoRow C_NoDeed C_NoPaper:ag}(X:K.In h) (G:h.Ns mainGlobals mg) (WN:mg "law" = some (.ref fa))
  (T:AM (TabOf mg h) ["is_row","is_net","beat"] tabs) (U:AM (TabOf mg h) ["first_words"] lts)
  (yT:ln K mainGlobals "RoadError" = some (some (.ref C_RoadError)))
  (K2:ln K mainGlobals "NoNet" = some (some (.ref C_NoNet)))
  (Fe:ln K mainGlobals "NoPlace" = some (some (.ref C_NoPlace)))
  (Hj:ln K mainGlobals "NoSign" = some (some (.ref C_NoSign)))
  (Hk:ln K mainGlobals "NoWord" = some (some (.ref C_NoWord)))
  (Ff:ln K mainGlobals "NoWhole" = some (some (.ref C_NoWhole)))
  (BW:ln K mainGlobals "NoNumber" = some (some (.ref C_NoNumber)))
  (K3:ln K mainGlobals "NoKin" = some (some (.ref C_NoKin)))
  (K4:ln K mainGlobals "NoSet" = some (some (.ref C_NoSet)))
  (Hl:ln K mainGlobals "NoPair" = some (some (.ref C_NoPair)))
  (Hm:ln K mainGlobals "NoStep" = some (some (.ref C_NoStep)))
  (Hn:ln K mainGlobals "NoCall" = some (some (.ref C_NoCall)))
  (Fg:ln K mainGlobals "TooMany" = some (some (.ref C_TooMany)))
  (Ho:ln K mainGlobals "NoText" = some (some (.ref C_NoText)))
  (K5:ln K mainGlobals "NoRow" = some (some (.ref C_NoRow)))
  (Hq:ln K mainGlobals "NoDeed" = some (some (.ref C_NoDeed)))
  (eb:A7 K C_RoadError [C_NoNet,C_NoPlace,C_NoSign,C_NoWord,C_NoWhole,C_NoNumber,C_NoKin,C_NoSet,C_NoPair,C_NoStep,C_NoCall,C_TooMany,C_NoText,C_NoRow,C_NoDeed]=true) (WO:[C_NoNet,C_NoPlace,C_NoSign,C_NoWord,C_NoWhole,C_NoNumber,C_NoKin,C_NoSet,C_NoPair,C_NoStep,C_NoCall,C_TooMany,C_NoText,C_NoRow,C_NoDeed].Nodup)
  (Fh:ln K mainGlobals "NoPaper" = some (some (.ref C_NoPaper))) (BX:[C_NoNet,C_NoPlace,C_NoSign,C_NoWord,C_NoWhole,C_NoNumber,C_NoKin,C_NoSet,C_NoPair,C_NoStep,C_NoCall,C_TooMany,C_NoText,C_NoRow,C_NoDeed].all (fun C=>Mn K (.ref C) (.ref C_NoPaper)==some false)=true)
  (BZ:bS K "is_whole" fu)
  (qK:bS K "is_whole_below" da)
  (qM:bS K "common_divisor" d9)
  (Hr:bS K "is_row" j3)
  (Hs:bS K "is_net" j4)
  (B1:bS K "need_net" gV)
  (la:∃tk,oi K "first_met" iy (.int 511 tk))
  (vn:bS K "first_words" aB)
  (K6:bS K "parts" jo)
  (qN:bS K "hangs_together" eu)
  (yl:bS K "need_whole" gW)
  (PH:bS K "beat" lC)
  (tY:bS K "arrangements" fv)
  (B2:bS K "signings" jh)
  (Fi:bS K "signing" EC)
  (pD:bS K "called_signings" dH)
  (B3:bS K "_law_bag" ji)
  (yU:bS K "_law_take" eJ)
  (ym:bS K "_law_order" gX)
  (yV:bS K "_law_made" dC)
  (tZ:bS K "_law_refused" fw)
  (B4:bS K "_law_cut" gY)
  (Rm:bS K "law" BC)
  (Rn:ln K mainGlobals "len" = some none)
  (K7:ln K mainGlobals "range" = some none)
  (Ro:ln K mainGlobals "min" = some none)
  (Rp:ln K mainGlobals "max" = some none)
  (Rq:ln K mainGlobals "abs" = some none)
  (PJ:ln K mainGlobals "list" = some none)
  (K8:ln K mainGlobals "tuple" = some none)
  (Rr:ln K mainGlobals "int" = some none)
  (Rt:ln K mainGlobals "str" = some none)
  (PK:ln K mainGlobals "bool" = some none)
  (yn:ln K mainGlobals "isinstance" = some none)
  (Ru:ln K mainGlobals "all" = some none)
  (Rv:ln K mainGlobals "set" = some none)
  (Ht:ln K mainGlobals "sorted" = some none)
  (Rw:ln K mainGlobals "zip" = some none)
  (yW:ln K mainGlobals "enumerate" = some none)
  (Rx:ln K mainGlobals "sum" = some none)
  (B5:ln K mainGlobals "reversed" = some none)
  (Hu:ln K mainGlobals "divmod" = some none)
  (Ry:ln K mainGlobals "any" = some none)
  (yo:ln K mainGlobals "ValueError" = some none)
  (t5:∃tk,ln K mainGlobals "SIGNS" = some (some (.str "abc" tk)))
  (iX:∃tk,ln K mainGlobals "MOST_PLACES" = some (some (.int 9 tk)))
  (g7:∃tk,ln K mainGlobals "MOST_SIGNINGS" = some (some (.int 64 tk)))
  : ∃fd:mf,(∀(s:ba) (v:ap),Zx s fd ⟨[v],[]⟩ [("_law_script",v)])/\∀base:ii,K.In base->base.Ns mainGlobals mg->(∃bm ob,Yh base mainGlobals mg bm ob)->(∀c p,u7 h c p->u7 base c p)->FnOk l.prog w K mg base bq 15 fa fd ["_law_script"] (spLaw K ⟨tabs,lts.zip [qW]⟩) :=by
 obtain⟨RA,P0,cH⟩:=BZ.df X G ["thing"] fun _ _ _ _ _ _ us hl=>match us,hl with | [_],_=>rfl
 obtain⟨Hv,Fo,bD⟩:=qK.df X G ["thing","many"] fun _ _ _ _ _ _ us hl=>match us,hl with | [_,_],_=>rfl
 obtain⟨Hw,Fp,cC⟩:=qM.df X G ["one","other"] fun _ _ _ _ _ _ us hl=>match us,hl with | [_,_],_=>rfl
 obtain⟨Uw,S1,gf⟩:=Hr.df X G ["thing","many","width"] fun _ _ _ _ _ _ us hl=>match us,hl with | [_,_,_],_=>rfl
 obtain⟨Ux,S2,gh⟩:=Hs.df X G ["thing"] fun _ _ _ _ _ _ us hl=>match us,hl with | [_],_=>rfl
 obtain⟨RB,P1,cf⟩:=B1.df X G ["thing"] fun _ _ _ _ _ _ us hl=>match us,hl with | [_],_=>rfl
 obtain⟨PL,la⟩:=la;obtain⟨P2,PN,eL⟩:=la.df X G ["start","width","step","most"] (fun _ _ _ _ _ _ _ us hl=>match us,hl with | [_,_,_],_=>⟨_,rfl,rfl⟩) fun _ _ _ _ _ _ _ us hl=>match us,hl with | [_,_,_,_],_=>⟨_,rfl,rfl⟩
 obtain⟨Lh,K9,bf⟩:=vn.df X G ["net","start"] fun _ _ _ _ _ _ us hl=>match us,hl with | [_,_],_=>rfl
 obtain⟨UB,Uy,jt⟩:=K6.df X G ["net"] fun _ _ _ _ _ _ us hl=>match us,hl with | [_],_=>rfl
 obtain⟨Hx,Fq,cB⟩:=qN.df X G ["net"] fun _ _ _ _ _ _ us hl=>match us,hl with | [_],_=>rfl
 obtain⟨PQ,Li,dQ⟩:=yl.df X G ["net"] fun _ _ _ _ _ _ us hl=>match us,hl with | [_],_=>rfl
 obtain⟨WQ,UC,ke⟩:=PH.df X G ["net"] fun _ _ _ _ _ _ us hl=>match us,hl with | [_],_=>rfl
 obtain⟨La,Jl,aV⟩:=tY.df X G ["row"] fun _ _ _ _ _ _ us hl=>match us,hl with | [_],_=>rfl
 obtain⟨RC,P4,fy⟩:=B2.df X G ["net"] fun _ _ _ _ _ _ us hl=>match us,hl with | [_],_=>rfl
 obtain⟨S3,RD,S4⟩:=Fi.df X G ["net","number"] fun _ _ _ _ _ _ us hl=>match us,hl with | [_,_],_=>rfl
 obtain⟨Fs,Fj,cn⟩:=pD.df X G ["net"] fun _ _ _ _ _ _ us hl=>match us,hl with | [_],_=>rfl
 obtain⟨RE,P5,fA⟩:=B3.df X G ["_law_script","_law_at"] fun _ _ _ _ _ _ us hl=>match us,hl with | [_,_],_=>rfl
 obtain⟨P6,PR,aA⟩:=yU.df X G ["_law_bag_here","_law_many"] fun _ _ _ _ _ _ us hl=>match us,hl with | [_,_],_=>rfl
 obtain⟨PU,Lj,cm⟩:=ym.df X G ["_law_bag_here","_law_many"] fun _ _ _ _ _ _ us hl=>match us,hl with | [_,_],_=>rfl
 obtain⟨P7,PV,eO⟩:=yV.df X G ["_law_bag_here"] fun _ _ _ _ _ _ us hl=>match us,hl with | [_],_=>rfl
 obtain⟨Lb,Jm,bI⟩:=tZ.df X G ["_law_net","_law_which"] fun _ _ _ _ _ _ us hl=>match us,hl with | [_,_],_=>rfl
 obtain⟨RF,P8,fB⟩:=B4.df X G ["_law_bag_here","_law_net"] fun _ _ _ _ _ _ us hl=>match us,hl with | [_,_],_=>rfl
 obtain⟨WY,PX,B6⟩:=Rm.df X G ["_law_script"] fun _ _ _ _ _ _ us hl=>match us,hl with | [_],_=>rfl
 have k9:=wn X G yT;have jq:=wn X G K2;have oC:=wn X G Fe;have qD:=wn X G Hj;have qE:=wn X G Hk;have gE:=wn X G Ff;have mV:=wn X G BW;have tV:=wn X G K3;have tW:=wn X G K4;have qF:=wn X G Hl;have qG:=wn X G Hm;have qH:=wn X G Hn;have gG:=wn X G Fg;have qI:=wn X G Ho;have tX:=wn X G K5;have qJ:=wn X G Hq;have oE:=wn X G Fh;have X_:=JR eb;have iq:C_NoNet∈[C_NoNet,C_NoPlace,C_NoSign,C_NoWord,C_NoWhole,C_NoNumber,C_NoKin,C_NoSet,C_NoPair,C_NoStep,C_NoCall,C_TooMany,C_NoText,C_NoRow,C_NoDeed] :=by simp
 have kT:C_NoPlace∈[C_NoNet,C_NoPlace,C_NoSign,C_NoWord,C_NoWhole,C_NoNumber,C_NoKin,C_NoSet,C_NoPair,C_NoStep,C_NoCall,C_TooMany,C_NoText,C_NoRow,C_NoDeed] :=by simp
 have mM:C_NoSign∈[C_NoNet,C_NoPlace,C_NoSign,C_NoWord,C_NoWhole,C_NoNumber,C_NoKin,C_NoSet,C_NoPair,C_NoStep,C_NoCall,C_TooMany,C_NoText,C_NoRow,C_NoDeed] :=by simp
 have mO:C_NoWord∈[C_NoNet,C_NoPlace,C_NoSign,C_NoWord,C_NoWhole,C_NoNumber,C_NoKin,C_NoSet,C_NoPair,C_NoStep,C_NoCall,C_TooMany,C_NoText,C_NoRow,C_NoDeed] :=by simp
 have cp:C_NoWhole∈[C_NoNet,C_NoPlace,C_NoSign,C_NoWord,C_NoWhole,C_NoNumber,C_NoKin,C_NoSet,C_NoPair,C_NoStep,C_NoCall,C_TooMany,C_NoText,C_NoRow,C_NoDeed] :=by simp
 have jk:C_NoNumber∈[C_NoNet,C_NoPlace,C_NoSign,C_NoWord,C_NoWhole,C_NoNumber,C_NoKin,C_NoSet,C_NoPair,C_NoStep,C_NoCall,C_TooMany,C_NoText,C_NoRow,C_NoDeed] :=by simp
 have o6:C_NoKin∈[C_NoNet,C_NoPlace,C_NoSign,C_NoWord,C_NoWhole,C_NoNumber,C_NoKin,C_NoSet,C_NoPair,C_NoStep,C_NoCall,C_TooMany,C_NoText,C_NoRow,C_NoDeed] :=by simp
 have o7:C_NoSet∈[C_NoNet,C_NoPlace,C_NoSign,C_NoWord,C_NoWhole,C_NoNumber,C_NoKin,C_NoSet,C_NoPair,C_NoStep,C_NoCall,C_TooMany,C_NoText,C_NoRow,C_NoDeed] :=by simp
 have mP:C_NoPair∈[C_NoNet,C_NoPlace,C_NoSign,C_NoWord,C_NoWhole,C_NoNumber,C_NoKin,C_NoSet,C_NoPair,C_NoStep,C_NoCall,C_TooMany,C_NoText,C_NoRow,C_NoDeed] :=by simp
 have mQ:C_NoStep∈[C_NoNet,C_NoPlace,C_NoSign,C_NoWord,C_NoWhole,C_NoNumber,C_NoKin,C_NoSet,C_NoPair,C_NoStep,C_NoCall,C_TooMany,C_NoText,C_NoRow,C_NoDeed] :=by simp
 have mR:C_NoCall∈[C_NoNet,C_NoPlace,C_NoSign,C_NoWord,C_NoWhole,C_NoNumber,C_NoKin,C_NoSet,C_NoPair,C_NoStep,C_NoCall,C_TooMany,C_NoText,C_NoRow,C_NoDeed] :=by simp
 have cq:C_TooMany∈[C_NoNet,C_NoPlace,C_NoSign,C_NoWord,C_NoWhole,C_NoNumber,C_NoKin,C_NoSet,C_NoPair,C_NoStep,C_NoCall,C_TooMany,C_NoText,C_NoRow,C_NoDeed] :=by simp
 have mS:C_NoText∈[C_NoNet,C_NoPlace,C_NoSign,C_NoWord,C_NoWhole,C_NoNumber,C_NoKin,C_NoSet,C_NoPair,C_NoStep,C_NoCall,C_TooMany,C_NoText,C_NoRow,C_NoDeed] :=by simp
 have o8:C_NoRow∈[C_NoNet,C_NoPlace,C_NoSign,C_NoWord,C_NoWhole,C_NoNumber,C_NoKin,C_NoSet,C_NoPair,C_NoStep,C_NoCall,C_TooMany,C_NoText,C_NoRow,C_NoDeed] :=by simp
 have mU:C_NoDeed∈[C_NoNet,C_NoPlace,C_NoSign,C_NoWord,C_NoWhole,C_NoNumber,C_NoKin,C_NoSet,C_NoPair,C_NoStep,C_NoCall,C_TooMany,C_NoText,C_NoRow,C_NoDeed] :=by simp
 have e:=WN.symm.trans B6.mg;cases e;have bl:Bl mg:=⟨sw X G Rn,sw X G K7,sw X G Ro,sw X G Rp,sw X G Rq,sw X G PJ,sw X G K8,sw X G Rr,sw X G Rt,sw X G PK,sw X G yn,sw X G Ru,sw X G Rv,sw X G Ht,sw X G Rw,sw X G yW,sw X G Rx,sw X G B5,sw X G Hu,sw X G Ry,sw X G yo⟩;obtain⟨Uz,t5⟩:=t5;have j5:=wn X G t5;obtain⟨Lc,iX⟩:=iX;have ip:=wn X G iX;obtain⟨Hy,g7⟩:=g7;have gq:=wn X G g7;obtain⟨a7,S5,rfl,Hz,T⟩:=fL T;obtain⟨bo,S6,rfl,HA,T⟩:=fL T;obtain⟨cg,UD,rfl,PY,T⟩:=fL T;cases T;obtain⟨aH,Ld,rfl,vo,U⟩:=fL U;cases U;refine⟨PX,fun s v=>B6.bind1 s v (by intros;rfl),fun base _ _ dF tr=>?_⟩
 obtain⟨mB,il⟩:=rn gf X Hz tr;obtain⟨x9,mD⟩:=rn gh X HA tr;obtain⟨E5,sH⟩:=rn ke X PY tr;obtain⟨nj,fT⟩:=rn bf X vo tr;have Fl:a7∈(⟨[a7,bo,cg],[(aH,qW)]⟩:b5) :=by show _∈[a7,bo,cg];simp
 have Fm:bo∈(⟨[a7,bo,cg],[(aH,qW)]⟩:b5) :=by show _∈[a7,bo,cg];simp
 have Le:cg∈(⟨[a7,bo,cg],[(aH,qW)]⟩:b5) :=by show _∈[a7,bo,cg];simp
 have gZ:(aH,qW)∈(⟨[a7,bo,cg],[(aH,qW)]⟩:b5).l :=by simp
 have g5:∀q∈(⟨[a7,bo,cg],[(aH,qW)]⟩:b5).l,q.1=aH->q.2=qW :=by simp
 have qt:=EX (P:=l.prog) (w:=w) (tb:=(⟨[a7,bo,cg],[(aH,qW)]⟩:b5)) gh mD Fm gf il Fl dF bD cH bl ip;have fx:=yP cf gh qt X_ iq jq;have di:=tO (P:=l.prog) (w:=w) (tb:=(⟨[a7,bo,cg],[(aH,qW)]⟩:b5)) bf fT dF gZ g5 eL bl j5;have HB:=G8 jt cf fx bf di bl;have Fn:=G6 (S:=Ak) HB fun ds M Q E ⟨net,n,e,O,q⟩=>⟨net,n,e,O,.inr q⟩
 have Lf:=pA cB jt Fn bl;have ka:=vm dQ cB Lf X_ cp gE;have HC:=pB (P:=l.prog) (w:=w) (base:=base) (tb:=(⟨[a7,bo,cg],[(aH,qW)]⟩:b5)) cC bl;have yi:=KW ke sH Le dF dQ ka bf di cC HC bl;have RG:=mJ aV (mJ aV (mJ aV (mJ (P:=l.prog) (w:=w) (base:=base) (tb:=(⟨[a7,bo,cg],[(aH,qW)]⟩:b5)) (d:=0) (k:=0) aV Hf bl) bl) bl) bl;have mL:=yQ fy cf fx aV RG bl;have HD:=E7 cn ke yi fy mL X_ cq gG gq bl;have yp:=Ph (tb:=(⟨[a7,bo,cg],[(aH,qW)]⟩:b5)) (yL (P:=l.prog) (w:=w) (base:=base) aA);have RH:=Rg (tb:=(⟨[a7,bo,cg],[(aH,qW)]⟩:b5)) (BE (P:=l.prog) (w:=w) (base:=base) fA bl);have Lg:=xX cm aA yp bl;have PZ:=yR eO aA yp cm Lg bl;have RJ:=BQ fB aA yp bl;have WR:=fun C hC=>beq_iff_eq.mp (xp.mp BX C hC)
 have RK:=tU bI cn HD X_ iq kT mM mO cp jk o6 o7 mP mQ mR cq mS o8 mU WR WO k9 jq oC qD qE gE mV tV tW qF qG qH gG oE qI tX qJ bl;exact Oh (PF B6 fA RH eO PZ fB RJ bI RK bl)
theorem walk {l:ZU}{q:ff}{loose:List bv}{XP:(bv->Option ap)->ii->Prop}{YP:hX->ii->Prop}{d:DefRec}{K:Z3->bn}(hn:l.most=some 63) (CJ:d.params.defaults=[])
  (D8:∀w:hX,Ze (K w.params)=true) (IK:∀y∈((["is_row","is_net","beat"]:List bv)++(["first_words"]:List bv)),∃r∈recsOf q,r.name=y) (pN:∀w:hX,tG (K w.params) ["is_row","is_net","beat"] ["first_words"]=true) (hY:∀(w:hX) (h:ii),YP w h->(K w.params).In h)
  (F:∀(w:hX) (mg:bv->Option ap) (fa:ag) (h:ii) (tabs lts:List ag),(K w.params).In h->h.Ns mainGlobals mg->mg d.name=some (.ref fa)->
   AM (TabOf mg h) ["is_row","is_net","beat"] tabs->AM (TabOf mg h) ["first_words"] lts->
   ∃fd:mf,(∀(s:ba) (u:ap),Zx s fd ⟨[u],[]⟩ [("_law_script",u)]) /\
    ∀base:ii,(K w.params).In base->base.Ns mainGlobals mg->(∃bm ob,Yh base mainGlobals mg bm ob)->(∀c p,u7 h c p->u7 base c p)->FnOk l.prog w (K w.params) mg base bq 15 fa fd ["_law_script"] (spLaw (K w.params) ⟨tabs,lts.zip [qW]⟩)) :
  PySem.W.WalkO q loose XP YP l.row.toRowW d [] (fun f vs=>Z0 f vs):=
 L2.GP (n:=63) (k:=15) (x := "_law_script") (CX:=bq) (sp:=fun K tabs lts=>spLaw K ⟨tabs,lts.zip [qW]⟩) hn (by decide) CJ ⟨rfl,by decide,by decide⟩ D8 IK pN hY F (fun _ _ _ _ a ns hl hn hT hL hS=>GQ hl hn hT hL hS) fun _ _ _ _ z=>z
end My
open PySem PySem.W PyProof.Rows L2
set_option maxRecDepth 100000 in
set_option maxHeartbeats 0 in
theorem PySem.Challenge.cw_roadcall_k55_counting_refused_holds : PySem.Challenge.rw_roadcall_k55_counting_refused.Holds := by
 w_on;o_law
 refine My.Jn (q:=My.kq) (loose:=My.kL) (H:=My.kH) My.left (by rfl) (by rfl) (by rfl) (by rfl) (by first|assumption|decide +kernel) (by decide +kernel) ⟨rfl,rfl,rfl,rfl,rfl,by decide +kernel⟩ ?hw ?hc
 (case hw=>w_witness2)
 refine My.walk (l:=PySem.Challenge.rw_roadcall_k55_counting_refused) rfl rfl (fun w=>by kernel_rfl) (recs_of (by decide +kernel)) (fun w=>by kernel_rfl) (fun w h Y=>Y) ?F
 intro w mg fa h tabs lts KX G CK T U;exact My.all_mk (C_RoadError:=24) (C_NoNet:=37) (C_NoPlace:=49) (C_NoSign:=61) (C_NoWord:=73) (C_NoWhole:=85) (C_NoNumber:=97) (C_NoKin:=109) (C_NoSet:=121) (C_NoPair:=133) (C_NoStep:=145) (C_NoCall:=157) (C_TooMany:=169) (C_NoText:=203) (C_NoRow:=215) (C_NoDeed:=227) (C_NoPaper:=191) KX G CK T U
  (by kernel_rfl)
  (by kernel_rfl)
  (by kernel_rfl)
  (by kernel_rfl)
  (by kernel_rfl)
  (by kernel_rfl)
  (by kernel_rfl)
  (by kernel_rfl)
  (by kernel_rfl)
  (by kernel_rfl)
  (by kernel_rfl)
  (by kernel_rfl)
  (by kernel_rfl)
  (by kernel_rfl)
  (by kernel_rfl)
  (by kernel_rfl)
  (by kernel_rfl)
  (by decide)
  (by kernel_rfl)
  (by kernel_rfl)
  (L2.aZ (f:=236) (oc:=.type "function") (od:=none) (sl:=#[]) (kV:=.none) (dc:=.none) (pm:=My.vS "roadcall.whole" 475) (an:=none) (cd:=.ref 235) (ct:=.none) (by kernel_rfl) (by kernel_rfl) (by kernel_rfl) (by kernel_rfl))
  (L2.aZ (f:=243) (oc:=.type "function") (od:=none) (sl:=#[]) (kV:=.none) (dc:=.none) (pm:=My.vS "roadcall.whole" 475) (an:=none) (cd:=.ref 242) (ct:=.none) (by kernel_rfl) (by kernel_rfl) (by kernel_rfl) (by kernel_rfl))
  (L2.aZ (f:=250) (oc:=.type "function") (od:=none) (sl:=#[]) (kV:=.none) (dc:=.none) (pm:=My.vS "roadcall.whole" 475) (an:=none) (cd:=.ref 249) (ct:=.none) (by kernel_rfl) (by kernel_rfl) (by kernel_rfl) (by kernel_rfl))
  (L2.aZ (f:=257) (oc:=.type "function") (od:=none) (sl:=#[]) (kV:=.none) (dc:=.none) (pm:=My.vS "roadcall.nets" 500) (an:=none) (cd:=.ref 256) (ct:=.none) (by kernel_rfl) (by kernel_rfl) (by kernel_rfl) (by kernel_rfl))
  (L2.aZ (f:=264) (oc:=.type "function") (od:=none) (sl:=#[]) (kV:=.none) (dc:=.none) (pm:=My.vS "roadcall.nets" 500) (an:=none) (cd:=.ref 263) (ct:=.none) (by kernel_rfl) (by kernel_rfl) (by kernel_rfl) (by kernel_rfl))
  (L2.aZ (f:=271) (oc:=.type "function") (od:=none) (sl:=#[]) (kV:=.none) (dc:=.none) (pm:=My.vS "roadcall.nets" 500) (an:=none) (cd:=.ref 270) (ct:=.none) (by kernel_rfl) (by kernel_rfl) (by kernel_rfl) (by kernel_rfl))
  (L2.Ec (f:=279) (oc:=.type "function") (od:=none) (sl:=#[]) (T:=272) (oT:=⟨.type "tuple",none,.seq #[.int 511 534] 0,#[]⟩) (kV:=.none) (dc:=.none) (pm:=My.vS "roadcall.ways" 532) (an:=none) (cd:=.ref 278) (ct:=.none) (by kernel_rfl) (by kernel_rfl) (by kernel_rfl) (by kernel_rfl) (by kernel_rfl) rfl)
  (L2.aZ (f:=286) (oc:=.type "function") (od:=none) (sl:=#[]) (kV:=.none) (dc:=.none) (pm:=My.vS "roadcall.ways" 532) (an:=none) (cd:=.ref 285) (ct:=.none) (by kernel_rfl) (by kernel_rfl) (by kernel_rfl) (by kernel_rfl))
  (L2.aZ (f:=291) (oc:=.type "function") (od:=none) (sl:=#[]) (kV:=.none) (dc:=.none) (pm:=My.vS "roadcall.ways" 532) (an:=none) (cd:=.ref 290) (ct:=.none) (by kernel_rfl) (by kernel_rfl) (by kernel_rfl) (by kernel_rfl))
  (L2.aZ (f:=298) (oc:=.type "function") (od:=none) (sl:=#[]) (kV:=.none) (dc:=.none) (pm:=My.vS "roadcall.ways" 532) (an:=none) (cd:=.ref 297) (ct:=.none) (by kernel_rfl) (by kernel_rfl) (by kernel_rfl) (by kernel_rfl))
  (L2.aZ (f:=305) (oc:=.type "function") (od:=none) (sl:=#[]) (kV:=.none) (dc:=.none) (pm:=My.vS "roadcall.ways" 532) (an:=none) (cd:=.ref 304) (ct:=.none) (by kernel_rfl) (by kernel_rfl) (by kernel_rfl) (by kernel_rfl))
  (L2.aZ (f:=310) (oc:=.type "function") (od:=none) (sl:=#[]) (kV:=.none) (dc:=.none) (pm:=My.vS "roadcall.beats" 580) (an:=none) (cd:=.ref 309) (ct:=.none) (by kernel_rfl) (by kernel_rfl) (by kernel_rfl) (by kernel_rfl))
  (L2.aZ (f:=346) (oc:=.type "function") (od:=none) (sl:=#[]) (kV:=.none) (dc:=.none) (pm:=My.vS "roadcall.signings" 628) (an:=none) (cd:=.ref 345) (ct:=.none) (by kernel_rfl) (by kernel_rfl) (by kernel_rfl) (by kernel_rfl))
  (L2.aZ (f:=353) (oc:=.type "function") (od:=none) (sl:=#[]) (kV:=.none) (dc:=.none) (pm:=My.vS "roadcall.signings" 628) (an:=none) (cd:=.ref 352) (ct:=.none) (by kernel_rfl) (by kernel_rfl) (by kernel_rfl) (by kernel_rfl))
  (L2.aZ (f:=360) (oc:=.type "function") (od:=none) (sl:=#[]) (kV:=.none) (dc:=.none) (pm:=My.vS "roadcall.signings" 628) (an:=none) (cd:=.ref 359) (ct:=.none) (by kernel_rfl) (by kernel_rfl) (by kernel_rfl) (by kernel_rfl))
  (L2.aZ (f:=365) (oc:=.type "function") (od:=none) (sl:=#[]) (kV:=.none) (dc:=.none) (pm:=My.vS "roadcall.counting" 662) (an:=none) (cd:=.ref 364) (ct:=.none) (by kernel_rfl) (by kernel_rfl) (by kernel_rfl) (by kernel_rfl))
  (L2.aZ (f:=379) (oc:=.type "function") (od:=none) (sl:=#[]) (kV:=.none) (dc:=.none) (pm:=My.vS "law_roadcall_k55_counting_refused" 681) (an:=none) (cd:=.ref 378) (ct:=.none) (by kernel_rfl) (by kernel_rfl) (by kernel_rfl) (by kernel_rfl))
  (L2.aZ (f:=386) (oc:=.type "function") (od:=none) (sl:=#[]) (kV:=.none) (dc:=.none) (pm:=My.vS "law_roadcall_k55_counting_refused" 681) (an:=none) (cd:=.ref 385) (ct:=.none) (by kernel_rfl) (by kernel_rfl) (by kernel_rfl) (by kernel_rfl))
  (L2.aZ (f:=393) (oc:=.type "function") (od:=none) (sl:=#[]) (kV:=.none) (dc:=.none) (pm:=My.vS "law_roadcall_k55_counting_refused" 681) (an:=none) (cd:=.ref 392) (ct:=.none) (by kernel_rfl) (by kernel_rfl) (by kernel_rfl) (by kernel_rfl))
  (L2.aZ (f:=398) (oc:=.type "function") (od:=none) (sl:=#[]) (kV:=.none) (dc:=.none) (pm:=My.vS "law_roadcall_k55_counting_refused" 681) (an:=none) (cd:=.ref 397) (ct:=.none) (by kernel_rfl) (by kernel_rfl) (by kernel_rfl) (by kernel_rfl))
  (L2.aZ (f:=405) (oc:=.type "function") (od:=none) (sl:=#[]) (kV:=.none) (dc:=.none) (pm:=My.vS "law_roadcall_k55_counting_refused" 681) (an:=none) (cd:=.ref 404) (ct:=.none) (by kernel_rfl) (by kernel_rfl) (by kernel_rfl) (by kernel_rfl))
  (L2.aZ (f:=410) (oc:=.type "function") (od:=none) (sl:=#[]) (kV:=.none) (dc:=.none) (pm:=My.vS "law_roadcall_k55_counting_refused" 681) (an:=none) (cd:=.ref 409) (ct:=.none) (by kernel_rfl) (by kernel_rfl) (by kernel_rfl) (by kernel_rfl))
  (L2.aZ (f:=417) (oc:=.type "function") (od:=none) (sl:=#[]) (kV:=.none) (dc:=.none) (pm:=My.vS "law_roadcall_k55_counting_refused" 681) (an:=none) (cd:=.ref 416) (ct:=.none) (by kernel_rfl) (by kernel_rfl) (by kernel_rfl) (by kernel_rfl))
  (by kernel_rfl)
  (by kernel_rfl)
  (by kernel_rfl)
  (by kernel_rfl)
  (by kernel_rfl)
  (by kernel_rfl)
  (by kernel_rfl)
  (by kernel_rfl)
  (by kernel_rfl)
  (by kernel_rfl)
  (by kernel_rfl)
  (by kernel_rfl)
  (by kernel_rfl)
  (by kernel_rfl)
  (by kernel_rfl)
  (by kernel_rfl)
  (by kernel_rfl)
  (by kernel_rfl)
  (by kernel_rfl)
  (by kernel_rfl)
  (by kernel_rfl)
  ⟨502,by kernel_rfl⟩
  ⟨504,by kernel_rfl⟩
  ⟨664,by kernel_rfl⟩
