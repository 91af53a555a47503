import PyProof.Rows.All
import Wide.All
import OpenK.AllK
import Wide.FinOn
import Lean
import PySem.Challenge.RW_roadcall_k47_top_pairs
import PyProof.EqAt
import PyProof.EqKinds
import PyProof.TupleCall
import PyProof.NeKinds
import PyProof.EnumMake
import PyProof.EnumFor
import PyProof.ZipIter
import PyProof.Rows.ZipGen
import PyProof.TupleKey
import KE.KLam
import PyProof.DictItems
import KE.KTurnsDict
import KE.KPairComp
import KE.KDictList
import KE.KRevSl
import KE.KRevIter
import PyProof.FitsBits
import PyProof.NoPylong
import PyProof.CallType
import PyProof.TupleOfGen
open List renaming getElem?_eq_getElem->ac,length_map->br,getD_eq_getElem?_getD->ca,mem_cons_of_mem->ci,getElem?_eq_some_iff->cr,mem_append_right->c8,size_toArray->dL,mem_map->ff,mem_cons_self->f8,mem_of_getElem?->gl,getElem?_map->ij,range->im,mem_range->lm,mem_singleton->lw,mem_cons->l7,map_append->mv,replicate->qr,mem_append->rc,map_cons->r6,all_eq_true->tw,mem_iff_getElem?->u4,mem_append_left->wb,getElem_mem->wn,replicate_succ->wp,map_map->wE,length_range->wT,Nodup->xz,drop_eq_getElem_cons->zn,length_append->zw,getElem?_cons_succ->BN,length_cons->Cn,pairwise_iff_getElem->Cs,append_nil->EQ,nil_append->ES,not_mem_nil->Fa,drop_length->Is,getElem?_eq_none->IF,getElem_range->IN,getElem?_append_left->IR,getElem?_zip_eq_some->IS,mem_filter->KB,length_nil->KM,flatten_cons->Ll,append_assoc->Lo,Perm->Lu,filterMap_cons->LF,getElem?_range->LG,map_congr_left->LP,toArray->No,length_set->NJ,any_cons->NO,lookup_cons->Pc,getElem?_replicate->Ps,getElem?_cons_zero->PP,nodup_cons->Sc,pairwise_lt_range->SB,eq_nil_of_length_eq_zero->SO,length_replicate->SZ,length_singleton->S0,toList_toArray->S9,zip_eq_zipWith->Tc,replicate_zero->Td,mem_or_eq_of_mem_set->Th,range_succ->Ti,mem_filterMap->Tk,map_nil->Tn,set_cons_zero->Tq,set_cons_succ->Tr,take_add_one->TJ,ext_getElem?->TL,getElem?_set_self->TN,length->TU,take_of_length_le->TV,length_pos_of_mem->TW,all_cons->TX,Pairwise->TY,length_take->T0,any_eq_true->T7,ext_getElem->T8,filter_cons->Ua,getElem_map->Uc,cons_append->Ue,of_mem_zip->Us,foldl_cons->Uu,pairwise_append->Uy,mem_iff_getElem->UC,getElem?_append->UD,find?_eq_none->US,nodup_append->U3,pairwise_map->U6,getElem?_set->U8,nodup_range->Vf,zip_append->Vq,filter_map->Vt
open PySem renaming wpAny_bind->ag,Addr->al,Value->ap,Shared->ar,wpAny_pure->ba,Str->cb,Expr->hX,Program->i4,World->i8,Heap->kt,SetTable->li,Obj->lp,wpAny_mono->l8,Around->ma,FuncData->mo,boot_len->r9,Stmt->tz,wpAny_holding->ul,Builtin->ut,seg_bind_wrap->uu,mem_of_lookup->u7,Paired->u8,plainId_quiet->wl,codeAny_builtin->ww,wpAny_truthy_bool->wP,Pos->xp,Scope->xy,wpAny_call_entry->zd,wpAny_newObj_type->AS,wpAny_setState_of->AT,wpAny_standAt->BY,Spec->Cc,wpAny_updateSeq->ET,wpAny_rule->GS,IsTupleKey->GT,wpAny_Call_Name_kw->Ix,sizeLine_eq->JJ,wpAny_setEntries_of->LH,wpAny_seqItems->LS,wpAny_letGo->Mn,wpAny_of_in1->Nl,wpAny_passesOwn->NH,Env->OR,wpAny_askSetting->Pd,wpAny_comprehension_free->Pe,wpAny_callSpecial?_slot->PM,call_function_tree->Sm,NameKind->So,wpAny_tryCatch->S3,GenState->S5,CmpOp->S6,TriplesOk->To,typeIs_int->Tt,Keyword->Tu,wpAny_pyIter_list->Tz,wpAny_storeSet_of->TF,fits_of_scanBound->TH,wpAny_setEpoch_of->TK,Sem->TQ,Result->TR,wpAny_newList->TZ,wpAny_forIn_list->T9,seg_again->Ui,wpAny_execs_nil->Up,codeAny_mono->Ur,wpAny_newFunctionEnv->Uw,wpAny_pyNext_genexpQ->Ux,wpAny_typeOf->UB,ElemsOf->UJ,isSubtype_type->UK,wpAny_runValue->UL,wpAny_fieldsOf->UM,putSet_of->UR,wpAny_attempt->UW,wpAny_pyIter_slot->U4,BindsTo->Vb,wpAny_pyIter_gen->Vd,wpAny_isInstance->Ve,PassesOwn->Vk,Tok->Vl,codeAny_of_tree->Vm,wpAny_of_eq->Vu,WalksS->Vw,call->Vx,wpAny_load->Vy,Walks->Vz,call_meets->VA,Params->VB
open PySem.Heap renaming get?_push_of_some->bi,lt_size->ii,get?_push_size->io,get?_update_other->mT,get?_update_self->sK,size_push->B0,SameBut->DO,get?_push_ne->TM,size_update->Ub
open PySem.W renaming Frag->bn,mg_none_of->mf,nsIn->nw,CodeHd->re,kia_one->Db,fnOf->Go,mg_of->Re,keepIn->SS,tabObj->S1,codeIn->Ts,hideAll->Uo,looseW->UF,kitOne->UI,kb_classed->UT,recOk->UU,excIn->UY,methodObj->U2,xlAt->Vc,opening->Vi,instObj->Vj,OpenLaw->Vs
open Nat renaming le_refl->bv,ne_of_lt->lf,lt_of_lt_of_le->on,zero_le->sB,le_trans->wv,lt_succ_of_lt->wS,lt_succ_self->AL,le_succ->AN,lt_irrefl->Fk,lt_or_ge->GG,le_of_lt->Na,lt_of_le_of_lt->NG,strongRecOn->Sk,min_self->S2,zero_add->S4,ne_of_gt->Tj,le_of_not_lt->T4,mod_lt->Uz,reduceAdd->U0,reduceSub->U1,lt_trichotomy->U7,not_lt->Va,sub_self->Vh,not_lt_zero->Vo
open Bool renaming false_eq_true->db,false_ne_true->gc,and_eq_true->Ch,not_true->EM,false_and->OL,not_false->OP,true_and->Rs,eq_iff_iff->RS,not_eq_true->Ug,and_false->UN
open Array renaming length_toList->jp,getElem?_eq_getElem->sw,getElem?_toList->EU,getD->FM,getElem?_eq_none->GE,mem_of_getElem?->Ul,mem_toList_iff->Uq,replicate->Vr
open Option.some renaming inj->kw,injEq->EN
open PySem.SeqAt renaming EqAt->lc,RcNeAt->lv,RcAt->l9
open PySem.SetTable renaming below->l5,insertAt->xb,bits->AC,grown->ID,runEnd->KT,turns->Mc,Probe->ON,fresh->UO,leap->UZ,layClean->VF,probe->VG
open Or renaming inl->l6,inr->LM
open PySem.PassesOwn renaming never->rf
open PySem.Around renaming under_plainId->ss
open PySem.Value renaming none->v6,ref->xw,type->DD,isInt_shape->Tx,bool->Um,int->VC,str->VD
open PySem.NameKind renaming free->xL
open PySem.Obj renaming mapSeq->ze,putSet->MW,data_mapFields->Tp
open Option renaming map_eq_some_iff->At,map_some->Cf,ne_none_iff_exists'->On,bind_some->Po,some->SL,join_some->S7,bind_eq_some_iff->Tv,getD_some->Uh
open PySem.Str renaming ofString->AE
open PySem.F renaming plain_max_loop->AM,plainAttrs_list->BS,slot_list_append->CS,type_list_append->Da,plain_list_iadd->OE,called_set->Pf,plain_all_loop->T6,entry_max_loop->Ud,entry_proto_collect->Uj,plain_proto_collect->Uk,slot_set_iter->UA,entry_list_iadd->U5,plain_any_loop->Vg
open Int renaming toNat_natCast->BB,le_refl->FF,eq_ofNat_of_zero_le->FS,zero_add->GM,emod_nonneg->Tf
open Ne renaming symm->Co
open PySem.Builtin.List renaming listExtendWith->Do,listSameRef->Pi,listTooLong->Tl
open PySem.Heap.SameBut renaming update->EO
open PyProof.Rows renaming callWith_type1->Gc,callWith_builtin1->KF,IntsAre->NL,BMod->T5,listUpdate_at->UX,entry_list_sort->Vp,AllBare->Vv
open Classical renaming byContradiction->IT,not_not->OF
open PySem.Builtin.Str renaming occurrences->LB
open False renaming elim->Me
open PySem.Calls renaming spliced_cons->Nd,spliced_nil->Op,call_function_entry->Te
open PySem.Builtin.Builtins renaming bindParams->NE
open PySem.SetTable.probe renaming go->Os
open PySem.W.Fast renaming tw821141287760084731->OK
open PySem.Paired renaming length->P3
open Function renaming comp->RI
open PySem.SetTable.layClean renaming free->SI
open PySem.Shared renaming TypeIs->S8
open PyProof.Rows.F renaming plain_set_update_loop->Tw
open PySem.Sem renaming bind_eq_wrap'->TC,onRaise_eq_wrap->UE,wrap_wrap->UV
open PySem.SetTable.below renaming go->TD
open String renaming reduceBEq->Uf
open PySem.SeqAt.EqAt renaming same->Ut,int_str->UP,str_int->UQ
open ForInStep renaming yield->Uv
open Sum renaming inl->UG,inr->UH
open True renaming intro->U9
open PySem.Txt renaming slice->Vn
open And renaming intro->VE
set_option linter.all false
set_option Elab.async false
set_option maxRecDepth 100000
namespace My
open PySem PyProof.Rows
def kA (s:tz):Arguments:=match s with
 | .FunctionDef _ a _ _ _ _ _ _ _ _=>a
 |_=>{posonlyargs:=[],args:=[],vararg:=none,kwonlyargs:=[],kw_defaults:=[],kwarg:=none,defaults:=[]}
def kB (s:tz):List tz:=match s with
 | .FunctionDef _ _ b _ _ _ _ _ _ _=>b
 |_=>[]
def kS (s:tz):xy:=match s with
 | .FunctionDef _ _ _ _ _ _ sc _ _ _=>sc
 |_=>{kind:=.function,names:=[],isGenerator:=false,isCoroutine:=false}
def vS (x:String) (t:Nat):ap:=.str (AE x) t
def kE (P:VB) (x:String) (t:Nat) (v:ap):DictEntry:=⟨PyData.keyHash P (AE x),vS x t,v⟩
def kF (i:Nat) (x:String) (d m:ap) (c:Nat):lp:=let st:=PySem.Challenge.pw_roadcall_k47_top_pairs.main.body.getD i (.Pass ⟨0,0,0,0⟩);⟨.type "function",none,.func (Go (AE x) (AE x) (kA st) (kB st) (kS st) d .none .none m none (.ref c) .none),#[]⟩
def kC (x:String) (t:Nat) (l n f:Int) (a:Nat) (b:Bool) (m:Int) (p:Nat) (u z:ap) (q:Nat) (e:Int) (t2:Nat):lp:=⟨.type "code",none,.fields #[vS x t,vS x (t+1),vS "/claim/cut.py" (t+2),.int l 0,.int n 0,.int 0 0,.int 0 0,.int f 0,.ref a,.bool b,.int m 0,.ref p,.none,u,z,.ref q,.int e 0,.int l 0,vS "/claim/cut.py" t2],#[]⟩
def kK (P:VB):bn:=[(2,⟨.none,none,.dict [].toArray 0,#[]⟩),
 (3,⟨.type "dict",none,.dict [kE P "__name__" 165 (vS "law_roadcall_k47_top_pairs" 361),kE P "__doc__" 166 .none,kE P "__package__" 167 .none,kE P "__loader__" 168 (.builtin "__main__.__loader__#opaque"),kE P "__spec__" 169 .none,kE P "__annotations__" 170 (.ref 6),kE P "__builtins__" 171 (.ref 4),kE P "__file__" 173 (vS "/claim/cut.py" 172),kE P "__cached__" 174 .none,kE P "RoadError" 206 (.ref 24),kE P "NoNet" 222 (.ref 37),kE P "NoSign" 238 (.ref 49),kE P "is_whole" 247 (.ref 58),kE P "is_whole_below" 255 (.ref 65),kE P "SIGNS" 259 (vS "abc" 258),kE P "MOST_PLACES" 261 (.int 9 260),kE P "is_row" 271 (.ref 72),kE P "is_net" 280 (.ref 79),kE P "need_net" 287 (.ref 86),kE P "signs_of" 294 (.ref 93),kE P "is_sign" 302 (.ref 100),kE P "need_sign" 310 (.ref 107),kE P "in_order" 320 (.ref 114),kE P "goals_of" 328 (.ref 119),kE P "ring_places" 334 (.ref 124),kE P "ring_from" 343 (.ref 131),kE P "tails" 354 (.ref 138),kE P "top_pairs" 360 (.ref 143),kE P "_law_bag" 373 (.ref 150),kE P "_law_take" 384 (.ref 157),kE P "_law_order" 395 (.ref 164),kE P "_law_net" 401 (.ref 169),kE P "_law_number" 408 (.ref 176),kE P "_law_lasting" 414 (.ref 181),kE P "_law_climb" 424 (.ref 188),kE P "_law_due" 430 (.ref 193),kE P "_law_good" 436 (.ref 198),kE P "_law_hung" 442 (.ref 203),kE P "law" 448 (.ref 208)].toArray 39,#[]⟩),
 (23,⟨.type "dict",none,.dict [kE P "__module__" 196 (vS "roadcall.errors" 187),kE P "__firstlineno__" 200 (.int 2 199),kE P "__static_attributes__" 201 (.ref 22),kE P "__weakref__" 203 (.ref 25),kE P "__doc__" 204 .none].toArray 3,#[]⟩),
 (24,⟨.type "type",none,.cls {name:=AE "RoadError",bases:=[.type "ValueError"],mro:=[.ref 24,.type "ValueError",.type "Exception",.type "BaseException",.type "object"],ns:=23,qualname:=AE "RoadError",subclasses:=[.ref 37,.ref 49]},#[some (.ref 15),none,some (vS "RoadError" 189),some (vS "RoadError" 197),some (.builtin "ValueError.__new__"),some (.bool true)]⟩),
 (36,⟨.type "dict",none,.dict [kE P "__module__" 214 (vS "roadcall.errors" 187),kE P "__firstlineno__" 218 (.int 4 217),kE P "__static_attributes__" 219 (.ref 35),kE P "__doc__" 220 .none].toArray 2,#[]⟩),
 (37,⟨.type "type",none,.cls {name:=AE "NoNet",bases:=[.ref 24],mro:=[.ref 37,.ref 24,.type "ValueError",.type "Exception",.type "BaseException",.type "object"],ns:=36,qualname:=AE "NoNet",subclasses:=[]},#[some (.ref 28),none,some (vS "NoNet" 207),some (vS "NoNet" 215),some (.builtin "ValueError.__new__"),some (.bool true)]⟩),
 (48,⟨.type "dict",none,.dict [kE P "__module__" 230 (vS "roadcall.errors" 187),kE P "__firstlineno__" 234 (.int 6 233),kE P "__static_attributes__" 235 (.ref 47),kE P "__doc__" 236 .none].toArray 2,#[]⟩),
 (49,⟨.type "type",none,.cls {name:=AE "NoSign",bases:=[.ref 24],mro:=[.ref 49,.ref 24,.type "ValueError",.type "Exception",.type "BaseException",.type "object"],ns:=48,qualname:=AE "NoSign",subclasses:=[]},#[some (.ref 40),none,some (vS "NoSign" 223),some (vS "NoSign" 231),some (.builtin "ValueError.__new__"),some (.bool true)]⟩),
 (57,kC "is_whole" 241 9 1 3 52 true 181 53 (.ref 54) (.ref 55) 56 245 246),
 (58,kF 5 "is_whole" .none (vS "roadcall.whole" 239) 57),
 (64,kC "is_whole_below" 248 11 2 3 59 true 181 60 (.ref 61) (.ref 62) 63 253 254),
 (65,kF 6 "is_whole_below" .none (vS "roadcall.whole" 239) 64),
 (71,kC "is_row" 262 16 3 3 66 true 181 67 (.ref 68) (.ref 69) 70 269 270),
 (72,kF 10 "is_row" .none (vS "roadcall.nets" 256) 71),
 (78,kC "is_net" 272 20 1 3 73 true 181 74 (.ref 75) (.ref 76) 77 278 279),
 (79,kF 11 "is_net" .none (vS "roadcall.nets" 256) 78),
 (85,kC "need_net" 281 28 1 3 80 true 181 81 (.ref 82) (.ref 83) 84 285 286),
 (86,kF 12 "need_net" .none (vS "roadcall.nets" 256) 85),
 (92,kC "signs_of" 288 31 1 3 87 true 181 88 (.ref 89) (.ref 90) 91 292 293),
 (93,kF 13 "signs_of" .none (vS "roadcall.nets" 256) 92),
 (99,kC "is_sign" 295 34 2 3 94 true 181 95 (.ref 96) (.ref 97) 98 300 301),
 (100,kF 14 "is_sign" .none (vS "roadcall.nets" 256) 99),
 (106,kC "need_sign" 303 36 2 3 101 true 181 102 (.ref 103) (.ref 104) 105 308 309),
 (107,kF 15 "need_sign" .none (vS "roadcall.nets" 256) 106),
 (113,kC "in_order" 313 40 2 3 108 true 181 109 (.ref 110) (.ref 111) 112 318 319),
 (114,kF 17 "in_order" .none (vS "roadcall.pairs" 311) 113),
 (118,kC "goals_of" 323 43 2 3 115 true 181 116 .none .none 117 326 327),
 (119,kF 19 "goals_of" .none (vS "roadcall.rings" 321) 118),
 (123,kC "ring_places" 329 48 1 3 120 true 181 121 .none .none 122 332 333),
 (124,kF 20 "ring_places" .none (vS "roadcall.rings" 321) 123),
 (130,kC "ring_from" 335 53 2 3 125 true 181 126 (.ref 127) (.ref 128) 129 341 342),
 (131,kF 21 "ring_from" .none (vS "roadcall.rings" 321) 130),
 (137,kC "tails" 344 58 1 3 132 true 181 133 (.ref 134) (.ref 135) 136 352 353),
 (138,kF 22 "tails" .none (vS "roadcall.rings" 321) 137),
 (142,kC "top_pairs" 355 67 2 3 139 true 181 140 .none .none 141 358 359),
 (143,kF 23 "top_pairs" .none (vS "roadcall.rings" 321) 142),
 (149,kC "_law_bag" 363 78 2 3 144 true 181 145 (.ref 146) (.ref 147) 148 371 372),
 (150,kF 25 "_law_bag" .none (vS "law_roadcall_k47_top_pairs" 361) 149),
 (156,kC "_law_take" 374 88 2 3 151 true 181 152 (.ref 153) (.ref 154) 155 382 383),
 (157,kF 26 "_law_take" .none (vS "law_roadcall_k47_top_pairs" 361) 156),
 (163,kC "_law_order" 385 100 2 3 158 true 181 159 (.ref 160) (.ref 161) 162 393 394),
 (164,kF 27 "_law_order" .none (vS "law_roadcall_k47_top_pairs" 361) 163),
 (168,kC "_law_net" 396 106 2 3 165 true 181 166 .none .none 167 399 400),
 (169,kF 28 "_law_net" .none (vS "law_roadcall_k47_top_pairs" 361) 168),
 (175,kC "_law_number" 402 128 1 3 170 true 181 171 (.ref 172) (.ref 173) 174 406 407),
 (176,kF 29 "_law_number" .none (vS "law_roadcall_k47_top_pairs" 361) 175),
 (180,kC "_law_lasting" 409 130 1 3 177 true 181 178 .none .none 179 412 413),
 (181,kF 30 "_law_lasting" .none (vS "law_roadcall_k47_top_pairs" 361) 180),
 (187,kC "_law_climb" 415 135 2 3 182 true 181 183 (.ref 184) (.ref 185) 186 422 423),
 (188,kF 31 "_law_climb" .none (vS "law_roadcall_k47_top_pairs" 361) 187),
 (192,kC "_law_due" 425 142 1 3 189 true 181 190 .none .none 191 428 429),
 (193,kF 32 "_law_due" .none (vS "law_roadcall_k47_top_pairs" 361) 192),
 (197,kC "_law_good" 431 157 3 3 194 true 181 195 .none .none 196 434 435),
 (198,kF 33 "_law_good" .none (vS "law_roadcall_k47_top_pairs" 361) 197),
 (202,kC "_law_hung" 437 166 2 3 199 true 181 200 .none .none 201 440 441),
 (203,kF 34 "_law_hung" .none (vS "law_roadcall_k47_top_pairs" 361) 202),
 (207,kC "law" 443 173 1 3 204 true 181 205 .none .none 206 446 447),
 (208,kF 35 "law" .none (vS "law_roadcall_k47_top_pairs" 361) 207)]
def P1:List al:=[2,3,23,24,36,37,48,49,57,58,64,65,71,72,78,79,85,86,92,93,99,100,106,107,113,114,118,119,123,124,130,131,137,138,142,143,149,150,156,157,163,164,168,169,175,176,180,181,187,188,192,193,197,198,202,203,207,208]
def kq:i4:=PySem.W.view PySem.Challenge.pw_roadcall_k47_top_pairs [1,2,3,5,6,8,9,10,11,12,13,14,15,17,19,20,21,22,23,25,26,27,28,29,30,31,32,33,34,35]
def kL:List cb:=[]
def kH:PySem.W.Hook:=PySem.W.kHook kK P1 fun _=>by kernel_rfl
theorem Ge {r:PySem.W.OpenRow}{q:i4}{loose:List cb}{H:PySem.W.Hook}{d:DefRec}{Hs:List (cb×hX)}{N:Nat}(left:PySem.W.LeftO r.prog q loose (fun s=>Vc q [] s && UU r.records s) H.obs H.val N)
  (Ow:PySem.W.defOf q r.name=some (d,Hs)) (hp:r.prog.theDef r.name=some (d.params,d.body,d.scope)) (hk:PySem.W.kwWritten? d.params.kwonlyargs d.params.kw_defaults=some Hs) (P2:(!r.writes || r.records.isEmpty)=true) (k1:r.wellSaid=true)
  (ok:(PySem.W.chainsOk q && PySem.W.opensWell r.prog && (PySem.W.frees r.toRowW && r.within.isEmpty))=true) (hb:r.prog.bare) (hw:r.toRowW.promised) (call:PySem.W.WalkO q loose (PySem.W.XL q []) H.says r.toRowW d Hs fun f vs=>Vx f vs):r.Holds:=
 PySem.W.holds_open left H.of H.keeps (fun s e=>PySem.W.xl_of s (Bool.and_eq_true_iff.mp e).1) PySem.W.XL.keeps Ow hp hk (fun s e=>PySem.W.recFacts_of (Bool.and_eq_true_iff.mp e).2) P2 k1 ok hb hw call
noncomputable def oeQ (p:i4) (w:i8) (N:Nat):Option ar:=((PySem.W.Fast.tw10274390034422433532 PySem.W.Fast.tw14364793385576792824 (Vi p) w N (PySem.W.Fast.tw1435165496053646825 (Vi p)).1 (PySem.W.Fast.tw1435165496053646825 (Vi p)).2).bind (PySem.W.Fast.tw14289696077712309145 p)).bind fun s₀=>match s₀.heap.isNs PySem.mainGlobals && s₀.gens.size==0 with
 |true=>(PySem.W.Fast.tw14082659384304107361 PySem.W.Fast.tw14364793385576792824 p w s₀.heap.objs.size (s₀.heap.nsMap PySem.mainGlobals "__annotations__") N s₀ (PySem.W.topStub p)).bind fun aw=>match PySem.W.staticsOk (importedModules p.main.body) s₀.heap aw.heap && PySem.W.namesBound p aw.heap && PySem.W.gensDone aw && PySem.W.laidKept s₀.heap aw.heap with
   |true=>some aw
   |false=>none
 |false=>none
theorem Ls (p:i4) (w:i8) (N:Nat):PySem.W.openEnds treeTable p w N=oeQ p w N :=by
 unfold oeQ;rw[<- PySem.W.Fast.te10274390034422433532,<- PySem.W.Fast.te14364793385576792824,<- PySem.W.Fast.te1435165496053646825,<- PySem.W.Fast.te14289696077712309145,<- PySem.W.Fast.te14082659384304107361];rfl
noncomputable def nsQ (q:i4):List cb:=(PySem.W.Fast.tw3399658132070893891 q).map (·.name)
theorem Fg (q:i4):(recsOf q).map (·.name)=nsQ q :=by unfold nsQ;rw[<- PySem.W.Fast.te3399658132070893891]
noncomputable def c1Q (s:ar):=PySem.W.Fast.tw5160383126252970620 (nsQ kq) (PySem.W.Fast.tw5991557255702980513 kq) [] {s with gens:=#[]}
theorem Lv (s:ar):seen ((recsOf kq).map (·.name)) (ownsOf kq) [] {s with gens:=#[]}=c1Q s :=by unfold c1Q;rw[Fg,<- PySem.W.Fast.te5160383126252970620,<- PySem.W.Fast.te5991557255702980513]
def c2 (s:ar):=(s.heap.bltView,s.heap.keysOk (UF kq kL) ((recsOf kq).map (·.name)) ((litsOf kq).map (·.1)) ((clssOf kq (UF kq kL)).map (·.name)) && s.heap.accountedOkI (importedModules PySem.Challenge.pw_roadcall_k47_top_pairs.main.body) && s.heap.isNs mainGlobals && s.heap.isNs builtinsNs && tablesOk kq s.heap && (Vc kq [] s && UU [] s) && (s.gens.size==0))
noncomputable def c2Q (s:ar):=(s.heap.bltView,PySem.W.Fast.tw10880121769531294198 s.heap (OK kq kL) (nsQ kq) ((PySem.W.Fast.tw7409074990110511671 kq).map (·.1)) ((PySem.W.Fast.tw13664370479719496447 kq (OK kq kL)).map (·.name)) && PySem.W.Fast.tw14722251495701143533 s.heap (importedModules PySem.Challenge.pw_roadcall_k47_top_pairs.main.body) && s.heap.isNs mainGlobals && s.heap.isNs builtinsNs && PySem.W.Fast.tw10994771534591457954 kq s.heap && (Vc kq [] s && UU [] s) && (s.gens.size==0))
theorem Lw (s:ar):c2 s=c2Q s :=by unfold c2 c2Q;rw[Fg,<- PySem.W.Fast.te10880121769531294198,<- PySem.W.Fast.te821141287760084731,<- PySem.W.Fast.te7409074990110511671,<- PySem.W.Fast.te13664370479719496447,<- PySem.W.Fast.te14722251495701143533,<- PySem.W.Fast.te10994771534591457954]
def c3 (s:ar):=tabsOk kq s
def c5 (s:ar):=plainSeenE kq (UF kq kL) s
def c4 (s:ar):=(PySem.pinSeenD kq (drecsOf kq) s,plainSeenD kq kL s,PySem.W.wideSeen kq s,PySem.W.clsSeenW kq kL s)
noncomputable def c3Q (s:ar):=PySem.W.Fast.tw479339242167458305 kq s
noncomputable def c5Q (s:ar):=PySem.W.Fast.tw2386780881361962483 kq (OK kq kL) s
noncomputable def c4Q (s:ar):=(PySem.W.Fast.tw16090120013241838585 kq (PySem.W.Fast.tw3247288618530077131 kq) s,PySem.W.Fast.tw11698064438423848299 kq kL s,PySem.W.Fast.tw7317090234206586261 kq s,PySem.W.Fast.tw7369524293546568484 kq kL s)
theorem Lx (s:ar):c3 s=c3Q s :=by unfold c3 c3Q;rw[<- PySem.W.Fast.te479339242167458305]
theorem Ly (s:ar):c5 s=c5Q s :=by unfold c5 c5Q;rw[<- PySem.W.Fast.te2386780881361962483,<- PySem.W.Fast.te821141287760084731]
theorem Lz (s:ar):c4 s=c4Q s :=by unfold c4 c4Q;rw[<- PySem.W.Fast.te16090120013241838585,<- PySem.W.Fast.te3247288618530077131,<- PySem.W.Fast.te11698064438423848299,<- PySem.W.Fast.te7317090234206586261,<- PySem.W.Fast.te7369524293546568484]
set_option maxHeartbeats 0 in
theorem left0 (w:i8):(oeQ PySem.Challenge.pw_roadcall_k47_top_pairs w 2950).map (fun s=>kH.obs s)=some (kH.val w) :=by kernel_rfl
set_option maxHeartbeats 0 in
theorem left1 (w:i8):(oeQ PySem.Challenge.pw_roadcall_k47_top_pairs w 2950).map c1Q=some (expectedOf kq) :=by kernel_rfl
set_option maxHeartbeats 0 in
theorem left2 (w:i8):(oeQ PySem.Challenge.pw_roadcall_k47_top_pairs w 2950).map c2Q=some (bltViewBooted,true) :=by kernel_rfl
set_option maxHeartbeats 0 in
theorem left3 (w:i8):(oeQ PySem.Challenge.pw_roadcall_k47_top_pairs w 2950).map c3Q=some true :=by kernel_rfl
set_option maxHeartbeats 0 in
theorem left5 (w:i8):(oeQ PySem.Challenge.pw_roadcall_k47_top_pairs w 2950).map c5Q=some (plainGoodE kq (UF kq kL)) :=by kernel_rfl
set_option maxHeartbeats 0 in
theorem left4 (w:i8):(oeQ PySem.Challenge.pw_roadcall_k47_top_pairs w 2950).map c4Q=some (PySem.pinGoodD (drecsOf kq),plainGoodD kq kL,PySem.W.wideGood kq,PySem.W.clsGoodW kq kL) :=by kernel_rfl
theorem left (w:i8):(PySem.W.openEnds treeTable PySem.Challenge.pw_roadcall_k47_top_pairs w 2950).map (fun s=>(PySem.W.openSeen kq kL (importedModules PySem.Challenge.pw_roadcall_k47_top_pairs.main.body) (fun s=>Vc kq [] s && UU [] s) true s,kH.obs s))=some (PySem.W.openGood kq kL,kH.val w) :=by
 rw[Ls];have a0:=left0 w;have a1:=left1 w;have a2:=left2 w;have a3:=left3 w;have a4:=left4 w;have a5:=left5 w;revert a0 a1 a2 a3 a4 a5
 generalize oeQ PySem.Challenge.pw_roadcall_k47_top_pairs w 2950=o
 cases o with
 |none=>intro a0;cases a0
 |some s=>
  intro a0 a1 a2 a3 a4 a5;have a0:kH.obs s=kH.val w:=kw a0;have a1:=kw a1;have a2:=kw a2;have a3:=kw a3;have a4:=kw a4;have a5:=kw a5;rw[<- Lv]at a1;rw[<- Lw]at a2;rw[<- Lx]at a3;rw[<- Lz]at a4;rw[<- Ly]at a5;show some ((seen ((recsOf kq).map (·.name)) (ownsOf kq) [] {s with gens:=#[]},(c2 s).1,(c2 s).2,c3 s,(c4 s).1,c5 s,(c4 s).2),kH.obs s)=_
  rw[a0,a1,a2,a3,a4,a5];rfl
end My
namespace L2
open PySem PySem.Spec PyProof.Rows
abbrev Key:=Sum Int cb
def Fh:Key->ap->Bool
 | .inl k,v=>ap.isInt k v
 | .inr x,v=>ap.isStrOf x v
def Ox (w:i8):Key->Int
 | .inl k=>hashInt k
 | .inr x=>hashStr w x
theorem cL:∀{k:Key}{v:ap},Fh k v=true->(∃i t,k=UG i/\v=VC i t)\/(∃x t,k=UH x/\v=VD x t)
 | .inl i,v,h=>by
          obtain⟨t,e⟩:=Tx (k:=i) (v:=v) h;exact .inl ⟨i,t,rfl,e⟩
 | .inr x,v,h=>by
          obtain⟨t,e⟩:=ap.isStrOf_shape (x:=x) (v:=v) h;exact .inr ⟨x,t,rfl,e⟩
theorem Ht (a b:Int):decide ((UG a:Key)=UG b)=(a==b) :=by
 by_cases e:a=b
 ·subst e;simp
 ·have h:¬ (UG a:Key)=UG b:=fun q=>e (UG.inj q)
  rw[decide_eq_false h];exact(beq_eq_false_iff_ne.mpr e).symm
theorem Hu (a b:cb):decide ((UH a:Key)=UH b)=decide (a=b) :=by
 by_cases e:a=b
 ·subst e;simp
 ·have h:¬ (UH a:Key)=UH b:=fun q=>e (UH.inj q)
  rw[decide_eq_false h,decide_eq_false e]
theorem Hv (a:Int) (b:cb):decide ((UG a:Key)=UH b)=false:=decide_eq_false (fun q=>nomatch q)
theorem Hw (a:cb) (b:Int):decide ((UH a:Key)=UG b)=false:=decide_eq_false (fun q=>nomatch q)
def q9 (prog:i4) (w:i8):PySem.KeyKind prog w Key where
 is:=Fh
 hash:=Ox w
 inj:=fun v a b ha hb=>by
  rcases cL ha with ⟨i,t,rfl,rfl⟩|⟨x,t,rfl,rfl⟩
  ·rcases cL hb with ⟨j,u,rfl,e⟩|⟨y,u,rfl,e⟩
   ·injection e with e1 _;rw[e1]
   ·exact nomatch e
  ·rcases cL hb with ⟨j,u,rfl,e⟩|⟨y,u,rfl,e⟩
   ·exact nomatch e
   ·injection e with e1 _;rw[e1]
 byValue:=fun k v h=>by
  rcases cL h with ⟨i,t,rfl,rfl⟩|⟨x,t,rfl,rfl⟩<;>rfl
 pyHash:=fun hv h=>by
  rcases cL hv with ⟨i,t,rfl,rfl⟩|⟨x,t,rfl,rfl⟩
  ·exact wpAny_pyHash_int h
  ·exact wpAny_pyHash_str h
 eqBool:=fun hu hv h=>by
  rcases cL hu with ⟨i,t,rfl,rfl⟩|⟨x,t,rfl,rfl⟩
  ·rcases cL hv with ⟨j,u,rfl,rfl⟩|⟨y,u,rfl,rfl⟩
   ·rw[Ht]at h;exact wpAny_eqBool_int h
   ·rw[Hv]at h;exact UP i t y u _ _ _ _ h
  ·rcases cL hv with ⟨j,u,rfl,rfl⟩|⟨y,u,rfl,rfl⟩
   ·rw[Hw]at h;exact UQ x t j u _ _ _ _ h
   ·rw[Hu]at h;exact wpAny_eqBool_str h
 «strs»:=fun k x t v h=>by
  rcases cL h with ⟨i,u,rfl,e⟩|⟨y,u,rfl,e⟩
  ·exact nomatch e
  ·injection e with e1 _
   subst e1;cases v<;>rfl
inductive V where
 |ao|bl (b:Bool)|int (i:Int)|str (x:cb)|jD (b:Array UInt8)|xr (b:UInt64)|ref (a:al)|ty (n:String)
 deriving DecidableEq
def RelV:V->ap->Prop
 | .ao,u=>u=v6
 | .bl b,u=>u=Um b
 | .int i,u=>∃t,u=VC i t
 | .str x,u=>∃t,u=VD x t
 | .jD b,u=>∃t,u=ap.bytes b t
 | .xr b,u=>∃t,u=ap.float b t
 | .ref a,u=>u=xw a
 | .ty n,u=>u=DD n
abbrev Vals:List V->List ap->Prop:=u8 RelV
theorem Vals.length {xs:List V}{us:List ap}(r:Vals xs us):xs.length=us.length:=P3 r
theorem Vals.get:∀{xs:List V}{us:List ap}{i:Nat}{x:V},Vals xs us->xs[i]?=some x->∃u,us[i]?=some u/\RelV x u
 |_,_,_,_,.nil,e=>by simp at e
 |_,_,0,_,.cons r _,e=>by simp at e;subst e;exact⟨_,rfl,r⟩
 |_,_,i+1,x,.cons _ t,e=>by
          obtain⟨u,h1,h2⟩:=Vals.get (i:=i) (x:=x) t (by simpa using e)
          exact⟨u,by simpa using h1,h2⟩
theorem Vals.set {x:V}{u:ap}(r:RelV x u):∀{xs:List V}{us:List ap}(i:Nat),Vals xs us->Vals (xs.set i x) (us.set i u)
 |_,_,_,.nil=>.nil
 |_,_,0,.cons _ t=>.cons r t
 |_,_,i+1,.cons q t=>.cons q (Vals.set r i t)
theorem Vals.append:∀{xs ys:List V}{us ws:List ap},Vals xs us->Vals ys ws->Vals (xs++ys) (us++ws)
 |_,_,_,_,.nil,s=>s
 |_,_,_,_,.cons r t,s=>.cons r (Vals.append t s)
theorem Vals.take:∀{xs:List V}{us:List ap}(n:Nat),Vals xs us->Vals (xs.take n) (us.take n)
 |_,_,0,_=>.nil
 |_,_,_+1,.nil=>.nil
 |_,_,n+1,.cons r t=>.cons r (Vals.take n t)
theorem Vals.drop:∀{xs:List V}{us:List ap}(n:Nat),Vals xs us->Vals (xs.drop n) (us.drop n)
 |_,_,0,r=>r
 |_,_,_+1,.nil=>.nil
 |_,_,n+1,.cons _ t=>Vals.drop n t
def Dr:Option V->Option ap->Prop
 |some v,some u=>RelV v u
 |none,none=>True
 |_,_=>False
def KV {κ:Type}:List (κ×V)->List (κ×ap)->Prop:=u8 fun (p:κ×V) (q:κ×ap)=>p.1=q.1/\RelV p.2 q.2
def kV:Key->V
 | .inl i=>.int i
 | .inr x=>.str x
inductive HO where
 |lst (xs:List V)
 |tup (xs:List V)
 |dK (aK:List (Key×V))|dT (aK:List (List Key×V))
 |set (S:Int->Bool) (n:Nat)
 |ins (C dx:al) (fs:List (cb×V))
 |own (x:al)
 |xd (fs:List (cb×V))
 |met (f x:al)
 |xt (lo hi:Int)
 |f9 (o:lp) (u:HO)
 |cQ (ps:Array ap)
 |lam (ps:Array ap)
 |ext (φ:kt->Prop)
abbrev Hp:=al->Option HO
def upd (H:Hp) (a:al) (o:HO):Hp:=fun b=>if b=a then some o else H b
theorem aL {H:Hp}{a:al}{o:HO}:upd H a o a=some o :=by unfold upd;rw[if_pos rfl]
theorem aq {H:Hp}{a b:al}{o:HO}(h:b≠a):upd H a o b=H b :=by unfold upd;rw[if_neg h]
theorem LA {H:Hp}{a b:al}{o u:HO}(h:H a=some o) (h':H b=some u) (d:o≠u):a≠b :=by
 intro e;subst e;rw[h]at h';exact d (kw h')
theorem bI {H:Hp}{a b:al}{o:HO}(h:H a=some o) (h':H b=none):a≠b :=by
 intro e;subst e;rw[h]at h';cases h'
section
variable (P:i4) (w:i8)
def ly (h:kt) (a:al) (items:Array ap):Prop:=∃o,h.get? a=some o/\o.cls=.type "tuple" /\ ∃n,o.data=.seq items n/\o.dict=none
theorem ly.tup {h:kt}{a:al}{items:Array ap}(x:ly h a items):IsTup h a items:=let ⟨o,e,c,n,d,_⟩:=x;⟨o,e,c,n,d⟩
theorem ly.lt {h:kt}{a:al}{items:Array ap}(x:ly h a items):a<h.objs.size:=x.tup.lt
theorem ly.new (h:kt) (items:Array ap):ly (h.push {cls:=.type "tuple",data:=.seq items}) h.objs.size items:=⟨_,io _ rfl,rfl,_,rfl,rfl⟩
def bz (H:Hp) (h:kt) (a:al):HO->Prop
 | .lst xs=>xs.length<=sizeLine/\∃(its:List ap) (n:Nat),Vals xs its/\h.get? a=some {cls:=.type "list",data:=.seq its.toArray n}
 | .tup xs=>xs.length<=sizeLine/\∃its:List ap,Vals xs its/\ly h a its.toArray
 | .dK aK=>aK.length<=sizeLine/\(a==sysModules)=false/\∃vs,KV aK vs/\h.DictOf (q9 P w) a vs
 | .dT aK=>aK.length<=sizeLine/\(a==sysModules)=false/\∃xs:List (List Key×al×ap),
   u8 (fun (p:List Key×V) (q:List Key×al×ap)=>p.1=q.1/\H q.2.1=some (.tup (p.1.map kV))/\RelV p.2 q.2.2) aK xs /\
   ∃o es ep,h.get? a=some o/\o.ExactDict/\o.data=.dict es ep/\es.toList=xs.map (entryOfKey (tupleKind (q9 P w)))/\(xs.map (·.1)).Nodup
 | .set S n=>h.SetOf (intKind P w) a S n
 | .ins C dx fs=>H dx=some (.own a)/\fs.length<=1000/\dx≠a/\h.get? a=some (Vj C dx) /\
   ∃mA,h.Ns1 dx mA/\(∀f,Dr (fs.lookup f) (mA f))/\PySem.Within mA (fs.map (·.1))
 | .own _=>∃o,h.get? a=some o
 | .xd fs=>∃mA,h.Ns1 a mA/\∀f,Dr (fs.lookup f) (mA f)
 | .xt lo hi=>∃t u v,h.get? a=some {cls:=.type "range",data:=.fields #[.int lo t,.int hi u,.int 1 v]}
 | .f9 o u=>h.get? a=some o/\bz H h a u
 | .cQ ps=>h.get? a=some {cls:=.none,data:=.fields ps}
 | .lam ps=>h.get? a=some {cls:=.none,data:=.fields ps}
 | .met f x=>h.get? a=some (U2 (.ref f) (.ref x))
 | .ext φ=>φ h/\(∃o,h.get? a=some o)/\∀h1 h2:kt,φ h1->(∀o,h1.get? a=some o->h2.get? a=some o)->φ h2
def dI (H:Hp) (h:kt):Prop:=∀a o,H a=some o->bz P w H h a o
end
section
variable {P:i4}{w:i8}{H H':Hp}{h h':kt}{a:al}{o:HO}
theorem bz.lt (x:bz P w H h a o):a<h.objs.size :=by
 cases o with
 |lst xs=>obtain⟨_,_,_,_,e⟩:=x;exact ii e
 |tup xs=>obtain⟨_,_,_,p⟩:=x;exact p.lt
 |dK aK=>obtain⟨_,_,_,_,o,_,_,e,_⟩:=x;exact ii e
 |dT aK=>obtain⟨_,_,_,_,o,_,_,e,_⟩:=x;exact ii e
 |set S n=>obtain⟨o,_,_,_,e,_⟩:=x;exact ii e
 |ins C dx fs=>obtain⟨_,_,_,e,_⟩:=x;exact ii e
 |own y=>obtain⟨_,e⟩:=x;exact ii e
 |xd fs=>obtain⟨_,⟨_,_,_,e,_⟩,_⟩:=x;exact ii e
 |xt lo hi=>obtain⟨_,_,_,e⟩:=x;exact ii e
 |f9 ob u=>obtain⟨e,_⟩:=x;exact ii e
 |cQ ps=>exact ii (show h.get? a=some _ from x)
 |lam ps=>exact ii (show h.get? a=some _ from x)
 |met f y=>exact ii (show h.get? a=some _ from x)
 |ext φ=>obtain⟨_,⟨_,e⟩,_⟩:=x;exact ii e
theorem u8.Ds {α β:Type}{F G:α->β->Prop}:∀{l₁:List α}{l₂:List β},u8 F l₁ l₂->(∀a b,F a b->G a b)->u8 G l₁ l₂
 |_,_,.nil,_=>.nil
 |_,_,.cons r t,f=>.cons (f _ _ r) (u8.Ds t f)
theorem u8.imp' {α β:Type}{F G:α->β->Prop}(f:∀a b,F a b->G a b) {l₁:List α}{l₂:List β}(r:u8 F l₁ l₂):u8 G l₁ l₂:=u8.Ds r f
theorem bz.bN (x:bz P w H h a o) (k:∀b u,(b=a\/H b=some (.own a))->h.get? b=some u->h'.get? b=some u)
  (ho:∀b,H b=some (.own a)->H' b=some (.own a)) (ht:∀b xs,H b=some (.tup xs)->H' b=some (.tup xs)):bz P w H' h' a o :=by
 induction o with
 |lst xs=>obtain⟨z,its,n,r,e⟩:=x;exact⟨z,its,n,r,k _ _ (.inl rfl) e⟩
 |tup xs=>obtain⟨z,its,r,ob,e,c⟩:=x;exact⟨z,its,r,ob,k _ _ (.inl rfl) e,c⟩
 |dK aK=>obtain⟨z,y,vs,r,ob,es,ep,e,c⟩:=x;exact⟨z,y,vs,r,ob,es,ep,k _ _ (.inl rfl) e,c⟩
 |dT aK=>
  obtain⟨z,y,xs,r,ob,es,ep,e,c⟩:=x;exact⟨z,y,xs,u8.Ds r fun p q z=>⟨z.1,ht _ _ z.2.1,z.2.2⟩,ob,es,ep,k _ _ (.inl rfl) e,c⟩
 |set S n=>obtain⟨ob,es,ep,t,e,c⟩:=x;exact⟨ob,es,ep,t,k _ _ (.inl rfl) e,c⟩
 |ins C dx fs=>
  obtain⟨d,z,ne,e,mA,⟨od,es,ep,e2,c⟩,r⟩:=x;exact⟨ho _ d,z,ne,k _ _ (.inl rfl) e,mA,⟨od,es,ep,k _ _ (.inr d) e2,c⟩,r⟩
 |own y=>obtain⟨ob,e⟩:=x;exact⟨ob,k _ _ (.inl rfl) e⟩
 |xd fs=>obtain⟨mA,⟨od,es,ep,e,c⟩,r⟩:=x;exact⟨mA,⟨od,es,ep,k _ _ (.inl rfl) e,c⟩,r⟩
 |xt lo hi=>obtain⟨t,u,v,e⟩:=x;exact⟨t,u,v,k _ _ (.inl rfl) e⟩
 |f9 ob u ih=>obtain⟨e,q⟩:=x;exact⟨k _ _ (.inl rfl) e,ih q⟩
 |cQ ps=>
  have e:h.get? a=some {cls:=.none,data:=.fields ps}:=x;show h'.get? a=some {cls:=.none,data:=.fields ps};exact k a _ (.inl rfl) e
 |lam ps=>
  have e:h.get? a=some {cls:=.none,data:=.fields ps}:=x;show h'.get? a=some {cls:=.none,data:=.fields ps};exact k a _ (.inl rfl) e
 |met f y=>
  have e:h.get? a=some (U2 (.ref f) (.ref y)):=x;show h'.get? a=some (U2 (.ref f) (.ref y));exact k a _ (.inl rfl) e
 |ext φ=>obtain⟨p,⟨o,e⟩,st⟩:=x;exact⟨st _ _ p fun o q=>k _ _ (.inl rfl) q,⟨o,k _ _ (.inl rfl) e⟩,st⟩
theorem dI.lt (x:dI P w H h) (e:H a=some o):a<h.objs.size:=(x a o e).lt
theorem dI.fresh (x:dI P w H h) (e:h.objs.size<=a):H a=none :=by
 cases q:H a with
 |none=>rfl
 |some u=>exact absurd (on (x.lt q) e) (Fk _)
theorem dI.kept (x:dI P w H h) (k:∀b u,h.get? b=some u->h'.get? b=some u):dI P w H h':=fun a o e=>
 (x a o e).bN (fun b u _ q=>k b u q) (fun _ q=>q) fun _ _ q=>q
theorem dI.laid (x:dI P w H h) (k:∀b u,h.get? b=some u->h'.get? b=some u) (hp:h.objs.size<=a) (new:bz P w (upd H a o) h' a o):dI P w (upd H a o) h':=fun b u e=>by
 have hn:=x.fresh hp;by_cases hb:b=a
 ·subst hb;rw[aL]at e;cases e;exact new
 ·rw[aq hb]at e;exact(x b u e).bN (fun c v _ q=>k c v q) (fun c q=>by rw[aq (bI q hn)];exact q) fun c xs q=>by rw[aq (bI q hn)];exact q
end
def Rd (H:Hp) (a:al) (u:HO):Prop:=H a=some u\/∃o,H a=some (.f9 o u)
theorem Rd.ok {P:i4}{w:i8}{H:Hp}{h:kt}{a:al}{u:HO}(r:Rd H a u) (x:dI P w H h):bz P w H h a u :=by
 rcases r with r|⟨o,r⟩
 ·exact x a u r
 ·obtain⟨_,q⟩:=x a _ r;exact q
def Fi:Option HO->Prop
 |some (.lst _)=>True
 |some (.dK _)=>True
 |some (.dT _)=>True
 |some (.set _ _)=>True
 |some (.ins _ _ _)=>True
 |some (.ext _)=>True
 |some (.lam _)=>True
 |_=>False
section
variable {P:i4}{w:i8}{H:Hp}{h h':kt}{x e:al}{o':HO}
theorem dI.write (ok:dI P w H h) (mu:Fi (H x)) (he:e=x\/H e=some (.own x)) (k:∀b u,b≠e->h.get? b=some u->h'.get? b=some u) (xu:∃u,h'.get? e=some u)
  (new:bz P w (upd H x o') h' x o'):dI P w (upd H x o') h':=fun b u q=>by
 have Hx:∀c y,H c=some (.own y)->c≠x:=fun c y r z=>by subst z;rw[r]at mu;exact mu
 have Oy:∀c xs,H c=some (.tup xs)->c≠x:=fun c xs r z=>by subst z;rw[r]at mu;exact mu
 by_cases hb:b=x
 ·subst hb;rw[aL]at q;cases q;exact new
 ·rw[aq hb]at q;by_cases t7:b=e
  ·have q':H b=some (.own x) :=by
    rcases he with z|z
    ·exact absurd (t7.trans z) hb
    ·rw[t7];exact z
   rw[q]at q';cases q';obtain⟨v,hv⟩:=xu;exact⟨v,by rw[t7];exact hv⟩
  ·refine(ok b u q).bN (fun c v hc r=>k c v ?_ r) (fun c r=>by rw[aq (Hx c b r)];exact r) fun c xs r=>by rw[aq (Oy c xs r)];exact r
   rcases hc with rfl|hc
   ·exact t7
   ·rintro rfl;rcases he with z|z
    ·exact Hx c b hc z
    ·rw[hc]at z;cases z;exact hb rfl
end
structure Un (fs ex:List al) (H H':Hp) (h h':kt):Prop where
 keep:∀b o,h.get? b=some o->H b=none->b ∉ fs->b ∉ ex->h'.get? b=some o
 slot:∀b o,h.get? b=some o->H b=none->b∈fs->b ∉ ex->∃sl,h'.get? b=some {o with slots:=sl}
 free:∀b o,h.get? b=some o->H b=none->b ∉ ex->H' b=none
 there:∀b o,h.get? b=some o->b ∉ ex->∃o',h'.get? b=some o'
 tups:∀b xs,H b=some (.tup xs)->H' b=some (.tup xs)
 frzs:∀b o u,H b=some (.f9 o u)->H' b=some (.f9 o u)
 tbls:∀b ps,H b=some (.cQ ps)->∃more,H' b=some (.cQ (ps++more))
section
variable {fs P4 ex Sl:List al}{H H1 H2:Hp}{h h1 h2 h':kt}{a x e:al}{o:HO}
theorem Un.any (u:Un fs ex H H1 h h1) {b:al}{ob:lp}(q:h.get? b=some ob) (n:H b=none) (hx:b ∉ ex):∃sl,h1.get? b=some {ob with slots:=sl}:=by
 by_cases hb:b∈fs
 ·exact u.slot b ob q n hb hx
 ·exact⟨ob.slots,u.keep b ob q n hb hx⟩
theorem Un.kept (k:∀b u,h.get? b=some u->h'.get? b=some u):Un fs ex H H h h':=
 ⟨fun b ob q _ _ _=>k b ob q,fun b ob q _ _ _=>⟨ob.slots,k b ob q⟩,fun _ _ _ n _=>n,fun b ob q _=>⟨ob,k b ob q⟩,fun _ _ q=>q,fun _ _ _ q=>q,fun _ ps q=>⟨#[],by rw[q];simp⟩⟩
theorem Un.refl:Un fs ex H H h h:=Un.kept fun _ _ q=>q
theorem Un.laid (k:∀b u,h.get? b=some u->h'.get? b=some u) (hp:h.objs.size<=a) (hn:H a=none):Un fs ex H (upd H a o) h h' where
 keep:=fun b u q _ _ _=>k b u q
 slot:=fun b u q _ _ _=>⟨u.slots,k b u q⟩
 free:=fun b u q n _=>by rw[aq (lf (on (ii q) hp))];exact n
 there:=fun b u q _=>⟨u,k b u q⟩
 tups:=fun b xs q=>by rw[aq (bI q hn)];exact q
 frzs:=fun b u xs q=>by rw[aq (bI q hn)];exact q
 tbls:=fun b ps q=>⟨#[],by rw[aq (bI q hn),q];simp⟩
theorem Un.write (mu:Fi (H x)) (he:e=x\/H e=some (.own x)) (k:∀b u,b≠e->h.get? b=some u->h'.get? b=some u) (xu:∃u,h'.get? e=some u):Un fs ex H (upd H x o) h h':=by
 have hx:∀b,H b=none->b≠x:=fun b n z=>by subst z;rw[n]at mu;exact mu
 have hb:∀b,H b=none->b≠e:=fun b n z=>by
  subst z;rcases he with r|r
  ·exact hx b n r
  ·rw[n]at r;cases r
 have hm:∀b u,H b=some u->¬ Fi (some u)->b≠x:=fun b u q nm z=>by subst z;rw[q]at mu;exact nm mu
 refine⟨fun b u q n _ _=>k b u (hb b n) q,fun b u q n _ _=>⟨u.slots,k b u (hb b n) q⟩,fun b u q n _=>by rw[aq (hx b n)];exact n,fun b u q _=>?_,
  fun b xs q=>by rw[aq (hm b _ q fun z=>z)];exact q,fun b u xs q=>by rw[aq (hm b _ q fun z=>z)];exact q,fun b ps q=>⟨#[],by rw[aq (hm b _ q fun z=>z),q];simp⟩⟩
 by_cases t7:b=e
 ·subst t7;exact xu
 ·exact⟨u,k b u t7 q⟩
end
def Fj (h:kt) (H:Hp):List al:=(im h.objs.size).filter fun a=>(H a).isSome
def jE (h:kt) (H:Hp):kt:=Uo h (Fj h H)
theorem Ao (h:kt) (H:Hp):(jE h H).objs.size=h.objs.size:=PySem.W.hideAll_size _ _
theorem Du {h:kt}{H:Hp}{b:al}{o:lp}(e:h.get? b=some o) (n:H b=none):(jE h H).get? b=some o:=
 PySem.W.hideAll_get _ e fun hm=>by
  have q:(H b).isSome=true:=(KB.mp hm).2;rw[n]at q;simp at q
theorem Gf {h:kt}{H:Hp}{b:al}{o:lp}(e:(jE h H).get? b=some o):h.get? b=some o/\H b=none :=by
 have e':h.get? b=some o:=PySem.W.of_hideAll (Fj h H) e;refine⟨e',?_⟩;cases q:H b with
 |none=>rfl
 |some x=>
  have hm:b∈Fj h H:=KB.mpr ⟨lm.mpr (ii e'),by simp[q]⟩
  have z:(jE h H).get? b=none:=PySem.W.hideAll_none (Fj h H) hm;rw[z]at e;cases e
def Gg (g h:kt) (L:al):List (al×lp):=(im h.objs.size).filterMap fun a=>if a=L\/(g.get? a).isSome=true then none else (h.get? a).map fun o=>(a,o)
def rest (g h:kt) (L d:al):List (al×lp):=(Gg g h L).filter fun p=>decide (p.1≠d)
structure Mod (K:bn) (mg:cb->Option ap) (base:kt):Prop where
 kin:K.In base
 glob:base.Ns mainGlobals mg
 blt:∃mb,base.Ns builtinsNs mb/\∀x:cb,x ≠ "__name__" -> mb x=bootBuiltins x
 nolimit:base.NoLimit
structure Cx where
 prog:i4
 w:i8
 K:bn
 mg:cb->Option ap
 base:kt
 A:ma
 N:List cb
 s₀:ar
 H₀:Hp
 env:OR
 outer:List OR
 stack:List OR
 ex:List al
 fn:cb->Bool
 calm:Bool
 pn:List (al×lp)
 xe:ap->ar->Prop
def gr (l:List OR):List al:=l.filterMap (·.frame)
abbrev Cx.fs (X:Cx):List al:=gr X.outer
def xx (sc:xy) (x:cb):Prop:=sc.names.lookup x=some .local\/sc.names.lookup x=some .cell\/sc.names.lookup x=some .free
def Loc (sc:xy) (x:cb):Prop:=sc.names.lookup x=some .local\/sc.names.lookup x=some .cell
def Look (env:OR) (h:kt) (m:cb->Option ap) (x:cb) (u:ap):Prop:=
 (env.kindOf x=some .local/\m x=some u)\/((env.kindOf x=some .cell\/env.kindOf x=some .free)/\∃c,env.cells.lookup x=some c/\h.IsCell c (some u))
structure Cx.Ok (X:Cx):Prop where
 mod:Mod X.K X.mg X.base
 kind:X.env.scope.kind=.function
 glob:X.env.globals=mainGlobals
 blt:X.env.builtins=builtinsNs
 above:X.s₀.heap.objs.size<=X.env.locals
 inj:∀x y c,X.env.cells.lookup x=some c->X.env.cells.lookup y=some c->x=y
 has:∀x,(X.env.kindOf x=some .cell\/X.env.kindOf x=some .free)->∃c,X.env.cells.lookup x=some c
 cab:∀x c,X.fn x=true->X.env.cells.lookup x=some c->X.s₀.heap.objs.size<=c
 hd:X.calm=true->X.A.handled=none
 frames:X.A.frames=some X.stack
 stk:X.stack=X.outer\/(X.stack=X.env::X.outer/\X.env.frame=some X.env.locals)
 exf:∀b∈X.ex,b≠X.env.locals/\∀x c,X.env.cells.lookup x=some c->c≠b
 bs:∀b o,X.base.get? b=some o->X.s₀.heap.get? b=some o/\X.H₀ b=none
 bsz:X.base.objs.size<=X.s₀.heap.objs.size
 noex:∀b o,X.base.get? b=some o->b ∉ X.ex
 exfs:∀b∈X.ex,b ∉ X.fs
 funs:X.s₀.heap.FunFrames X.base X.outer
 frf:∀b∈X.fs,X.H₀ b=none
def Gn (n:Nat) (g:Array S5):Prop:=Vv g/\n<=g.size
theorem Gn.self {n:Nat}{g:Array S5}(x:Gn n g):Gn g.size g:=⟨x.1,bv _⟩
theorem Gn.trans {n:Nat}{g g':Array S5}(x:Gn n g) (y:Gn g.size g'):Gn n g':=⟨y.1,wv x.2 y.2⟩
structure Inv (X:Cx) (pins:List (al×lp)) (σ:List (Option V)) (H:Hp) (s:ar):Prop where
 ok:X.Ok
 os:s.os=X.s₀.os
 bare:Gn X.s₀.gens.size s.gens
 base:Un X.fs X.ex X.H₀ H X.s₀.heap s.heap
 loc:∃m,s.heap.Ns X.env.locals m/\∀(i:Nat) (x:cb) (v:V),X.N[i]?=some x->σ[i]?=some (some v)->xx X.env.scope x->∃u,RelV v u/\Look X.env s.heap m x u
 cell:∀x c,X.env.cells.lookup x=some c->∃v,s.heap.IsCell c v
 free:H X.env.locals=none
 freeC:∀x c,X.env.cells.lookup x=some c->H c=none
 pin:∀p∈X.pn++pins,s.heap.get? p.1=some p.2/\H p.1=none/\p.1≠X.env.locals/\p.1 ∉ X.fs/\∀v,p.2.data≠.cell v
 hok:dI X.prog X.w H s.heap
 len:σ.length=X.N.length
section
variable {X:Cx}{pins:List (al×lp)}{σ:List (Option V)}{H H':Hp}{s:ar}{h':kt}
theorem Cx.Ok.Oz (ok:X.Ok) {b:al}{o:lp}(e:X.base.get? b=some o):b ∉ X.fs:=fun hb=>by
 have:=(ok.funs.mem hb).1;rw[e]at this;cases this
theorem Inv.bs (I:Inv X pins σ H s):∀b o,X.base.get? b=some o->s.heap.get? b=some o/\H b=none:=fun b o e=>
 ⟨I.base.keep b o (I.ok.bs b o e).1 (I.ok.bs b o e).2 (I.ok.Oz e) (I.ok.noex b o e),I.base.free b o (I.ok.bs b o e).1 (I.ok.bs b o e).2 (I.ok.noex b o e)⟩
theorem Inv.bk (I:Inv X pins σ H s):∀b o,X.base.get? b=some o->s.heap.get? b=some o:=fun b o e=>(I.bs b o e).1
theorem Inv.mod (I:Inv X pins σ H s):Mod X.K X.mg X.base:=I.ok.mod
theorem Inv.iP (I:Inv X pins σ H s):X.K.In s.heap:=I.ok.mod.kin.keeps I.bk
theorem Inv.nolimit (I:Inv X pins σ H s):s.heap.NoLimit:=I.ok.mod.nolimit.keeps I.bk
theorem Inv.lt (I:Inv X pins σ H s):X.env.locals<s.heap.objs.size:=let ⟨_,hn,_⟩:=I.loc;hn.lt
theorem Inv.sz (I:Inv X pins σ H s):X.s₀.heap.objs.size<=s.heap.objs.size:=wv I.ok.above (Na I.lt)
theorem Inv.Hy (I:Inv X pins σ H s) {a:al}(h:s.heap.objs.size<=a):a ∉ X.fs:=fun hb=>by
 obtain⟨_,o,ho,_⟩:=I.ok.funs.mem hb;exact absurd (on (ii ho) (wv I.sz h)) (Fk _)
theorem Inv.t8 (I:Inv X pins σ H s):∀x c,X.env.cells.lookup x=some c->c≠X.env.locals:=fun x c e z=>by
 obtain⟨v,o,ho,hd⟩:=I.cell x c e;obtain⟨m,⟨o',es,ep,fq,iQ,_⟩,_⟩:=I.loc;rw[z,fq]at ho;cases ho;rw[iQ]at hd;cases hd
theorem Inv.funs (I:Inv X pins σ H s):s.heap.FunFrames X.base X.outer :=by
 have all:∀(l:List OR),(∀b∈gr l,b∈X.fs)->X.s₀.heap.FunFrames X.base l->s.heap.FunFrames X.base l :=by
  intro l;induction l with
  |nil=>intro _ _;trivial
  |cons env r ih=>
   intro hs hl;obtain⟨hk,⟨L,o,hf,hn,ho,hd⟩,hr⟩:=hl;have hL:L∈X.fs:=hs L (by unfold gr;rw[LF,hf];exact f8)
   obtain⟨sl,e⟩:=I.base.slot L o ho (I.ok.frf L hL) hL fun z=>I.ok.exfs L z hL
   exact⟨hk,⟨L,_,hf,hn,e,hd⟩,ih (fun b hb=>hs b (by unfold gr;rw[LF,hf];exact ci _ hb)) hr⟩
 exact all X.outer (fun _ hb=>hb) I.ok.funs
theorem Inv.stack (I:Inv X pins σ H s):s.heap.FunFrames X.base X.stack :=by
 rcases I.ok.stk with e|⟨e,hf⟩
 ·rw[e];exact I.funs
 ·rw[e];obtain⟨m,hn,_⟩:=I.loc;refine .cons (by rw[I.ok.kind];decide) hf hn ?_ I.funs
  exact kt.get?_none_of_le (wv I.ok.bsz I.ok.above)
theorem Inv.g9 (I:Inv X pins σ H s):∀b∈gr X.stack,b∈X.env.locals::X.fs:=fun b hb=>by
 rcases I.ok.stk with e|⟨e,hf⟩
 ·rw[e]at hb;exact ci _ hb
 ·rw[e]at hb;unfold gr at hb;rw[LF,hf]at hb;exact hb
theorem Inv.rg (I:Inv X pins σ H s):∀b∈gr X.stack,H b=none:=fun b hb=>by
 rcases l7.mp (I.g9 b hb) with e|hb
 ·rw[e];exact I.free
 ·obtain⟨_,o,ho,_⟩:=I.ok.funs.mem hb;exact I.base.free b o ho (I.ok.frf b hb) fun z=>I.ok.exfs b z hb
theorem Inv.step {g':Array S5}{t':Nat}{d':Drawn}{ch:List al}(I:Inv X pins σ H s)
  (oF:∀b∈ch,(b∈X.ex\/X.s₀.heap.objs.size<=b)/\b≠X.env.locals/\(∀x c,X.env.cells.lookup x=some c->c≠b)/\∀p∈X.pn++pins,p.1≠b)
  (keep:∀b o,b≠X.env.locals->b ∉ X.fs->b ∉ ch->s.heap.get? b=some o->H b=none->h'.get? b=some o)
  (slot:∀b o,b≠X.env.locals->b∈X.fs->b ∉ ch->s.heap.get? b=some o->H b=none->∃sl,h'.get? b=some {o with slots:=sl}) (free:∀b o,b ∉ ch->s.heap.get? b=some o->H b=none->H' b=none)
  (there:∀b o,b ∉ ch->s.heap.get? b=some o->∃o',h'.get? b=some o')
  (tups:∀b xs,H b=some (.tup xs)->H' b=some (.tup xs)) (frzs:∀b o u,H b=some (.f9 o u)->H' b=some (.f9 o u)) (tbls:∀b ps,H b=some (.cQ ps)->∃more,H' b=some (.cQ (ps++more)))
  (ns:∀m,s.heap.Ns X.env.locals m->h'.Ns X.env.locals m) (hok:dI X.prog X.w H' h') (hg:Gn s.gens.size g') :
  Inv X pins σ H' {s with heap:=h',gens:=g',drawn:=d',toks:=t'}:=by
 have Nc:∀b o,X.s₀.heap.get? b=some o->b≠X.env.locals:=fun b o e=>lf (on (ii e) I.ok.above)
 have Fl:∀b o,X.s₀.heap.get? b=some o->b ∉ X.ex->b ∉ ch:=fun b o e hx hb=>by
  rcases (oF b hb).1 with z|z
  ·exact hx z
  ·exact absurd (on (ii e) z) (Fk _)
 have cellK:∀x c,X.env.cells.lookup x=some c->∀v,s.heap.IsCell c v->h'.IsCell c v:=fun x c e v ⟨o,ho,hd⟩=>by
  have Ap:c ∉ ch:=fun z=>(oF c z).2.2.1 x c e rfl
  by_cases hc:c∈X.fs
  ·obtain⟨sl,q⟩:=slot c o (I.t8 x c e) hc Ap ho (I.freeC x c e);exact⟨_,q,hd⟩
  ·exact⟨o,keep c o (I.t8 x c e) hc Ap ho (I.freeC x c e),hd⟩
 refine⟨I.ok,I.os,I.bare.trans hg,⟨fun b o e n hb hx=>?_,fun b o e n hb hx=>?_,fun b o e n hx=>?_,fun b o e hx=>?_,fun b xs e=>tups b xs (I.base.tups b xs e),fun b o xs e=>frzs b o xs (I.base.frzs b o xs e),fun b ps e=>?_⟩,?_,fun x c e=>?_,?_,fun x c e=>?_,fun p hp=>?_,hok,I.len⟩
 ·exact keep b o (Nc b o e) hb (Fl b o e hx) (I.base.keep b o e n hb hx) (I.base.free b o e n hx)
 ·obtain⟨sl,e1⟩:=I.base.slot b o e n hb hx;obtain⟨Nf,e2⟩:=slot b _ (Nc b o e) hb (Fl b o e hx) e1 (I.base.free b o e n hx);exact⟨Nf,e2⟩
 ·obtain⟨o',e1⟩:=I.base.there b o e hx;exact free b o' (Fl b o e hx) e1 (I.base.free b o e n hx)
 ·obtain⟨o',e1⟩:=I.base.there b o e hx;exact there b o' (Fl b o e hx) e1
 ·obtain⟨m1,e1⟩:=I.base.tbls b ps e;obtain⟨m2,e2⟩:=tbls b _ e1;exact⟨m1++m2,by rw[e2,Array.append_assoc]⟩
 ·obtain⟨m,hn,hl⟩:=I.loc;refine⟨m,ns m hn,fun i x v e1 e2 e3=>?_⟩
  obtain⟨u,r,l⟩:=hl i x v e1 e2 e3;refine⟨u,r,?_⟩;rcases l with l|⟨k,c,e,z⟩
  ·exact .inl l
  ·exact .inr ⟨k,c,e,cellK x c e _ z⟩
 ·obtain⟨v,z⟩:=I.cell x c e;exact⟨v,cellK x c e v z⟩
 ·obtain⟨m,⟨o,_,_,ho,_⟩,_⟩:=I.loc;exact free _ o (fun z=>(oF _ z).2.1 rfl) ho I.free
 ·obtain⟨v,o,ho,hd⟩:=I.cell x c e;exact free c o (fun z=>(oF c z).2.2.1 x c e rfl) ho (I.freeC x c e)
 ·obtain⟨e,n,ne,nf,d⟩:=I.pin p hp;have Ap:p.1 ∉ ch:=fun z=>(oF p.1 z).2.2.2 p hp rfl
  exact⟨keep p.1 p.2 ne nf Ap e n,free p.1 p.2 Ap e n,ne,nf,d⟩
theorem Inv.un {t':Nat}(I:Inv X pins σ H s) (u:Un X.fs [] H H' s.heap h') (hok:dI X.prog X.w H' h'):Inv X pins σ H' {s with heap:=h',toks:=t'}:=by
 obtain⟨m,⟨o,es,ep,ho,r⟩,_⟩:=id I.loc;obtain⟨sl,hL⟩:=u.any ho I.free (by simp)
 exact I.step (g':=s.gens) (d':=s.drawn) (ch:=[]) (fun _ z=>nomatch z) (fun b o _ hb _ e n=>u.keep b o e n hb (by simp)) (fun b o _ hb _ e n=>u.slot b o e n hb (by simp)) (fun b o _ e n=>u.free b o e n (by simp)) (fun b o _ e=>u.there b o e (by simp)) u.tups u.frzs u.tbls (fun m' hm=>by
  obtain⟨o',cz,Hz,fq,r'⟩:=hm;rw[ho]at fq;cases fq;exact⟨_,cz,Hz,hL,r'⟩) hok I.bare.self
theorem Inv.call {g':Array S5}{t':Nat}{d':Drawn}{ch:List al}(I:Inv X pins σ H s) (u:Un (gr X.stack) ch H H' s.heap h') (hok:dI X.prog X.w H' h') (hg:Gn s.gens.size g')
  (oF:∀b∈ch,(b∈X.ex\/X.s₀.heap.objs.size<=b)/\b≠X.env.locals/\(∀x c,X.env.cells.lookup x=some c->c≠b)/\∀p∈X.pn++pins,p.1≠b) :
  Inv X pins σ H' {s with heap:=h',gens:=g',drawn:=d',toks:=t'}:=by
 obtain⟨m,⟨o,es,ep,ho,r⟩,_⟩:=id I.loc;obtain⟨sl,hL⟩:=u.any ho I.free fun z=>(oF _ z).2.1 rfl
 exact I.step (ch:=ch) oF (fun b o hL hb hc e n=>u.keep b o e n (fun z=>(l7.mp (I.g9 b z)).elim hL hb) hc) (fun b o _ _ hc e n=>u.any e n hc) (fun b o hc e n=>u.free b o e n hc) (fun b o hc e=>u.there b o e hc) u.tups u.frzs u.tbls (fun m' hm=>by
  obtain⟨o',cz,Hz,fq,r'⟩:=hm;rw[ho]at fq;cases fq;exact⟨_,cz,Hz,hL,r'⟩) hok hg
theorem Inv.turned {t':Nat}{it:al}(I:Inv X pins σ H s) (k:∀b o,b≠it->s.heap.get? b=some o->h'.get? b=some o) (hn:H it=none) (hL:it≠X.env.locals)
  (h1:it∈X.ex\/X.s₀.heap.objs.size<=it) (h2:∀x c,X.env.cells.lookup x=some c->c≠it) (h3:∀p∈X.pn++pins,p.1≠it):Inv X pins σ H {s with heap:=h',toks:=t'}:=by
 have Ng:∀b u,H b=some u->b≠it:=fun b u e z=>by rw[z,hn]at e;cases e
 refine I.step (g':=s.gens) (d':=s.drawn) (ch:=[it]) (fun b hb=>?_) (fun b o _ _ hc e _=>k b o (fun z=>hc (by simp[z])) e) (fun b o _ _ hc e _=>⟨o.slots,k b o (fun z=>hc (by simp[z])) e⟩) (fun _ _ _ _ n=>n)
  (fun b o hc e=>⟨o,k b o (fun z=>hc (by simp[z])) e⟩) (fun _ _ e=>e) (fun _ _ _ e=>e) (fun b ps e=>⟨#[],by rw[e];simp⟩) (fun m hm=>?_) (fun b u e=>?_) I.bare.self
 ·have e:b=it :=by simpa using hb
  subst e;exact⟨h1,hL,h2,h3⟩
 ·obtain⟨o,es,ep,ho,r⟩:=hm;exact⟨o,es,ep,k _ o (Co hL) ho,r⟩
 ·refine(I.hok b u e).bN (fun c v hc q=>k c v ?_ q) (fun _ q=>q) fun _ _ q=>q
  rcases hc with z|z
  ·rw[z];exact Ng b u e
  ·exact Ng c _ z
theorem Inv.tok (I:Inv X pins σ H s) (t:Nat):Inv X pins σ H {s with toks:=t}:=I.un (h':=s.heap) (t':=t) Un.refl I.hok
theorem Inv.kept {t':Nat}(I:Inv X pins σ H s) (k:∀b u,s.heap.get? b=some u->h'.get? b=some u):Inv X pins σ H {s with heap:=h',toks:=t'}:=I.un (Un.kept k) (I.hok.kept k)
theorem Inv.laid {a:al}{o:HO}{t':Nat}(I:Inv X pins σ H s) (k:∀b u,s.heap.get? b=some u->h'.get? b=some u) (hp:s.heap.objs.size<=a) (new:bz X.prog X.w (upd H a o) h' a o) :
  Inv X pins σ (upd H a o) {s with heap:=h',toks:=t'}:=I.un (Un.laid k hp (I.hok.fresh hp)) (I.hok.laid k hp new)
theorem Inv.write {x e:al}{o:HO}{t':Nat}(I:Inv X pins σ H s) (mu:Fi (H x)) (he:e=x\/H e=some (.own x)) (k:∀b u,b≠e->s.heap.get? b=some u->h'.get? b=some u) (xu:∃u,h'.get? e=some u)
  (new:bz X.prog X.w (upd H x o) h' x o):Inv X pins σ (upd H x o) {s with heap:=h',toks:=t'}:=I.un (Un.write mu he k xu) (I.hok.write mu he k xu new)
theorem Inv.jz {pins':List (al×lp)}(I:Inv X pins σ H s) (h:∀p∈pins',s.heap.get? p.1=some p.2/\H p.1=none/\p.1≠X.env.locals/\p.1 ∉ X.fs/\∀v,p.2.data≠.cell v):Inv X pins' σ H s:=
 ⟨I.ok,I.os,I.bare,I.base,I.loc,I.cell,I.free,I.freeC,fun p hp=>(rc.mp hp).elim (fun z=>I.pin p (wb _ z)) (h p),I.hok,I.len⟩
theorem t9 {N:List cb}(hN:N.Nodup) {i j:Nat}{x:cb}(a:N[i]?=some x) (b:N[j]?=some x):i=j :=by
 obtain⟨h1,e1⟩:=cr.mp a;obtain⟨h2,e2⟩:=cr.mp b;exact(List.getElem_inj hN).mp (e1.trans e2.symm)
theorem store_ok2 {M:Model}{A:ma}{E:ap->ar->Prop}{i:Nat}{x:cb}{v:V}{u:ap}{Q:Unit->ar->Prop}(I:Inv X pins σ H s) (hN:X.N.Nodup) (hi:X.N[i]?=some x) (hx:Loc X.env.scope x) (r:RelV v u)
  (h:∀s',Inv X pins (σ.set i (some v)) H s'->(∃a,DO a s.heap s'.heap/\(a=X.env.locals\/X.env.cells.lookup x=some a))->Q () s') (hf:X.fn x=true\/X.env.scope.names.lookup x=some .local :=by first|exact .inl rfl|exact .inr rfl|assumption):wpAny M A (storeName X.env x u) Q E s :=by
 obtain⟨m,hn,hl⟩:=id I.loc;have OA:(X.env.scope.kind==.class || (X.env.scope.kind==.module && X.env.locals != X.env.globals))=false :=by rw[I.ok.kind];rfl
 have HA:i<σ.length :=by rw[I.len];exact(cr.mp hi).1
 have t8:=I.t8;have tracked:∀{a:al} {h':kt},(∃o,s.heap.get? a=some o/\H a=none)->DO a s.heap h'->dI X.prog X.w H h':=fun {a h'} ha hs b ob e=>by
  obtain⟨_,_,pL⟩:=ha;refine(I.hok b ob e).bN (fun c w' hc q=>(hs.2 c ?_).trans q) (fun _ q=>q) fun _ _ q=>q
  rintro rfl;rcases hc with rfl|hc
  ·rw[pL]at e;cases e
  ·rw[pL]at hc;cases hc
 rcases hx with hk|hk
 ·refine wpAny_storeName_local hk hn (fun h' ua hs=>?_) OA
  obtain⟨oL,_,_,kW,_⟩:=id hn;refine h _ ⟨I.ok,I.os,I.bare,⟨fun b o e n hb hx=>?_,fun b o e n hb hx=>?_,I.base.free,fun b o e hx=>?_,I.base.tups,I.base.frzs,I.base.tbls⟩,⟨_,ua,fun j y v' e1 e2 e3=>?_⟩,fun y c e=>?_,I.free,I.freeC,fun p hp=>?_,tracked ⟨oL,kW,I.free⟩ hs,by simpa using I.len⟩ ⟨_,hs,.inl rfl⟩
  ·exact(hs.2 b (lf (on (ii e) I.ok.above))).trans (I.base.keep b o e n hb hx)
  ·obtain⟨sl,e1⟩:=I.base.slot b o e n hb hx;exact⟨sl,(hs.2 b (lf (on (ii e) I.ok.above))).trans e1⟩
  ·obtain⟨o',e1⟩:=I.base.there b o e hx;exact⟨o',(hs.2 b (lf (on (ii e) I.ok.above))).trans e1⟩
  ·by_cases hj:j=i
   ·subst hj;rw[hi]at e1;cases e1;rw[TN HA]at e2;cases e2;exact⟨u,r,.inl ⟨hk,by simp⟩⟩
   ·rw[List.getElem?_set_ne (Co hj)]at e2;obtain⟨u',r',q⟩:=hl j y v' e1 e2 e3;refine⟨u',r',?_⟩;rcases q with ⟨k,e⟩|⟨k,c,e,z⟩
    ·refine .inl ⟨k,?_⟩;have:y≠x:=fun e=>hj (t9 hN e1 (e▸hi))
     simp[this,e]
    ·exact .inr ⟨k,c,e,z.sameBut hs (t8 y c e)⟩
  ·obtain⟨w',z⟩:=I.cell y c e;exact⟨w',z.sameBut hs (t8 y c e)⟩
  ·obtain⟨e,n,ne,nf,d⟩:=I.pin p hp;exact⟨(hs.2 p.1 ne).trans e,n,ne,nf,d⟩
 ·have HB:X.fn x=true :=by
   rcases hf with z|z
   ·exact z
   ·rw[z]at hk;cases hk
  obtain⟨c,hc⟩:=I.ok.has x (.inl hk);obtain⟨w',z⟩:=I.cell x c hc;refine wpAny_storeName_cell I.ok.kind hk hc z (fun h' Fm hs=>?_)
  obtain⟨oc,Nh,OB⟩:=id z;refine h {s with heap:=h'} ⟨I.ok,I.os,I.bare,⟨fun b o e n hb hx=>?_,fun b o e n hb hx=>?_,I.base.free,fun b o e hx=>?_,I.base.tups,I.base.frzs,I.base.tbls⟩,⟨m,hn.sameBut hs (Co (t8 x c hc)),fun j y v' e1 e2 e3=>?_⟩,fun y c' e=>?_,I.free,I.freeC,fun p hp=>?_,tracked ⟨oc,Nh,I.freeC x c hc⟩ hs,by simpa using I.len⟩ ⟨c,hs,.inr hc⟩
  ·exact(hs.2 b (lf (on (ii e) (I.ok.cab x c HB hc)))).trans (I.base.keep b o e n hb hx)
  ·obtain⟨sl,e1⟩:=I.base.slot b o e n hb hx;exact⟨sl,(hs.2 b (lf (on (ii e) (I.ok.cab x c HB hc)))).trans e1⟩
  ·obtain⟨o',e1⟩:=I.base.there b o e hx;exact⟨o',(hs.2 b (lf (on (ii e) (I.ok.cab x c HB hc)))).trans e1⟩
  ·by_cases hj:j=i
   ·subst hj;rw[hi]at e1;cases e1;rw[TN HA]at e2;cases e2;exact⟨u,r,.inr ⟨.inl hk,c,hc,Fm⟩⟩
   ·rw[List.getElem?_set_ne (Co hj)]at e2;obtain⟨u',r',q⟩:=hl j y v' e1 e2 e3;refine⟨u',r',?_⟩;rcases q with q|⟨k,c',e,z'⟩
    ·exact .inl q
    ·refine .inr ⟨k,c',e,z'.sameBut hs ?_⟩;rintro rfl;exact hj (t9 hN e1 (I.ok.inj _ _ _ e hc▸hi))
  ·by_cases Ni:c'=c
   ·subst Ni;exact⟨_,Fm⟩
   ·obtain⟨w2,z2⟩:=I.cell y c' e;exact⟨w2,z2.sameBut hs Ni⟩
  ·obtain⟨e,n,ne,nf,d⟩:=I.pin p hp;refine⟨(hs.2 p.1 ?_).trans e,n,ne,nf,d⟩;intro q;rw[q,Nh]at e;have q':oc=p.2:=kw e;exact d w' (by rw[<- q'];exact OB)
theorem ub {M:Model}{A:ma}{E:ap->ar->Prop}{i:Nat}{x:cb}{v:V}{u:ap}{Q:Unit->ar->Prop}(I:Inv X pins σ H s) (hN:X.N.Nodup) (hi:X.N[i]?=some x) (hx:Loc X.env.scope x) (r:RelV v u)
  (h:∀s',Inv X pins (σ.set i (some v)) H s'->Q () s') (hf:X.fn x=true\/X.env.scope.names.lookup x=some .local :=by first|exact .inl rfl|exact .inr rfl|assumption):wpAny M A (storeName X.env x u) Q E s:=
 store_ok2 I hN hi hx r (fun s' I' _=>h s' I') hf
theorem Inv.pM {s':ar}{ch:List al}(I:Inv X pins σ H s) (ho:s'.os=s.os) (u:Un (gr X.stack) ch H H' s.heap s'.heap) (hok:dI X.prog X.w H' s'.heap) (hg:Gn s.gens.size s'.gens)
  (oF:∀b∈ch,(b∈X.ex\/X.s₀.heap.objs.size<=b)/\b≠X.env.locals/\(∀x c,X.env.cells.lookup x=some c->c≠b)/\∀p∈X.pn++pins,p.1≠b):Inv X pins σ H' s':=by
 obtain⟨h',g',d',t',o'⟩:=s';have e:o'=s.os:=ho;subst e;exact I.call (g':=g') (t':=t') (d':=d') u hok hg oF
end
abbrev XK:=ap->Option al->Hp->Prop
abbrev St:=List (Option V)
abbrev VK:=V->Hp->Prop
abbrev TE:=St->Hp->VK->Prop
abbrev TT:=St->Hp->(Bool->Hp->Prop)->Prop
abbrev TA:=St->Hp->(List V->Hp->Prop)->Prop
structure Ends where
 nx:St->Hp->Prop
 rt:VK
 bk:St->Hp->Prop:=fun _ _=>False
 ct:St->Hp->Prop:=fun _ _=>False
abbrev TS:=Ends->St->Hp->Prop
def EP (X:Cx) (pins:List (al×lp)) (σ:St) (Q:VK) (u:ap) (s':ar):Prop:=∃v H',Inv X pins σ H' s'/\RelV v u/\Q v H'
def TP (X:Cx) (pins:List (al×lp)) (σ:St) (Q:Bool->Hp->Prop) (b:Bool) (s':ar):Prop:=∃H',Inv X pins σ H' s'/\Q b H'
def AP (X:Cx) (pins:List (al×lp)) (σ:St) (Q:List V->Hp->Prop) (us:List ap) (s':ar):Prop:=∃vs H',Inv X pins σ H' s'/\Vals vs us/\Q vs H'
def SP (X:Cx) (pins:List (al×lp)) (D:Ends) (f:Flow) (s':ar):Prop:=
 match f with
 | .next=>∃aQ H',Inv X pins aQ H' s'/\D.nx aQ H'
 | .brk=>∃aQ H',Inv X pins aQ H' s'/\D.bk aQ H'
 | .cont=>∃aQ H',Inv X pins aQ H' s'/\D.ct aQ H'
 | .ret u=>∃v aQ H',Inv X pins aQ H' s'/\RelV v u/\D.rt v H'
structure PE (X:Cx) (e:hX) (t:TE):Prop where
 run:∀(pins:List (al×lp)) (s:ar) (σ:St) (H:Hp) (Q:VK),Inv X pins σ H s->t σ H Q->wpAny (model X.prog X.w) X.A (eval e X.env) (EP X pins σ Q) X.xe s
instance {X:Cx} {e:hX} {t:TE}:CoeFun (PE X e t) (fun _=>∀(pins:List (al×lp)) (s:ar) (σ:St) (H:Hp) (Q:VK),Inv X pins σ H s->t σ H Q->wpAny (model X.prog X.w) X.A (eval e X.env) (EP X pins σ Q) X.xe s):=⟨PE.run⟩
structure PT (X:Cx) (e:hX) (t:TT):Prop where
 run:∀(pins:List (al×lp)) (s:ar) (σ:St) (H:Hp) (Q:Bool->Hp->Prop),Inv X pins σ H s->t σ H Q->wpAny (model X.prog X.w) X.A (isTrue e X.env (eval e X.env)) (TP X pins σ Q) X.xe s
instance {X:Cx} {e:hX} {t:TT}:CoeFun (PT X e t) (fun _=>∀(pins:List (al×lp)) (s:ar) (σ:St) (H:Hp) (Q:Bool->Hp->Prop),Inv X pins σ H s->t σ H Q->wpAny (model X.prog X.w) X.A (isTrue e X.env (eval e X.env)) (TP X pins σ Q) X.xe s):=⟨PT.run⟩
def PW (X:Cx) (e:hX) (t:TT):Prop:=
 ∀(whole:TQ ap) (pins:List (al×lp)) (s:ar) (σ:St) (H:Hp) (Q:Bool->Hp->Prop),Inv X pins σ H s->t σ H Q->wpAny (model X.prog X.w) X.A (isTrue e X.env whole) (TP X pins σ Q) X.xe s
theorem PW.pt {X:Cx}{e:hX}{t:TT}(h:PW X e t):PT X e t:=⟨h _⟩
structure PA (X:Cx) (es:List hX) (t:TA):Prop where
 run:∀(pos:xp) (pins:List (al×lp)) (s:ar) (σ:St) (H:Hp) (Q:List V->Hp->Prop),Inv X pins σ H s->t σ H Q->wpAny (model X.prog X.w) X.A (spliced (backTo pos (starEach es X.env))) (AP X pins σ Q) X.xe s
instance {X:Cx} {es:List hX} {t:TA}:CoeFun (PA X es t) (fun _=>∀(pos:xp) (pins:List (al×lp)) (s:ar) (σ:St) (H:Hp) (Q:List V->Hp->Prop),Inv X pins σ H s->t σ H Q->wpAny (model X.prog X.w) X.A (spliced (backTo pos (starEach es X.env))) (AP X pins σ Q) X.xe s):=⟨PA.run⟩
structure PS (X:Cx) (st:tz) (t:TS):Prop where
 run:∀(pins:List (al×lp)) (s:ar) (σ:St) (H:Hp) (D:Ends),Inv X pins σ H s->t D σ H->wpAny (model X.prog X.w) X.A (exec st X.env) (SP X pins D) X.xe s
instance {X:Cx} {st:tz} {t:TS}:CoeFun (PS X st t) (fun _=>∀(pins:List (al×lp)) (s:ar) (σ:St) (H:Hp) (D:Ends),Inv X pins σ H s->t D σ H->wpAny (model X.prog X.w) X.A (exec st X.env) (SP X pins D) X.xe s):=⟨PS.run⟩
structure gU (X:Cx) (st:List tz) (t:TS):Prop where
 run:∀(pins:List (al×lp)) (s:ar) (σ:St) (H:Hp) (D:Ends),Inv X pins σ H s->t D σ H->wpAny (model X.prog X.w) X.A (execs st X.env) (SP X pins D) X.xe s
instance {X:Cx} {st:List tz} {t:TS}:CoeFun (gU X st t) (fun _=>∀(pins:List (al×lp)) (s:ar) (σ:St) (H:Hp) (D:Ends),Inv X pins σ H s->t D σ H->wpAny (model X.prog X.w) X.A (execs st X.env) (SP X pins D) X.xe s):=⟨gU.run⟩
theorem thn {α:Type}{t:TQ α}{Q Q':α->ar->Prop}{M:Model}{A:ma}{E:ap->ar->Prop}{s:ar}(h:wpAny M A t Q E s) (hQ:∀a s,Q a s->Q' a s):wpAny M A t Q' E s:=l8 h hQ fun _ _ x=>x
section
variable {X:Cx}
theorem bin {a b:hX}{ta tb:TE}(ha:PE X a ta) (hb:PE X b tb) {pins:List (al×lp)}{s:ar}{σ:St}{H:Hp}{R:V->V->Hp->Prop}(I:Inv X pins σ H s) (h:ta σ H fun x H1=>tb σ H1 fun y H2=>R x y H2)
  {α:Type} {Q:α->ar->Prop} {f:ap->ap->TQ α}
  (hf:∀v u s2 x y H2,Inv X pins σ H2 s2->RelV x v->RelV y u->R x y H2->wpAny (model X.prog X.w) X.A (f v u) Q X.xe s2) :
  wpAny (model X.prog X.w) X.A (eval a X.env) (fun v aw=>wpAny (model X.prog X.w) X.A (eval b X.env) (fun u mK=>wpAny (model X.prog X.w) X.A (f v u) Q X.xe mK) X.xe aw) X.xe s :=by
 refine thn (ha pins s σ H _ I h) fun v s1 ⟨x,H1,I1,r1,q1⟩=>?_
 refine thn (hb pins s1 σ H1 _ I1 q1) fun u s2 ⟨y,H2,I2,r2,q2⟩=>?_
 exact hf v u s2 x y H2 I2 r1 r2 q2
def OC (i:Nat):TE:=fun σ H Q=>∃v,σ[i]?=some (some v)/\Q v H
def tC (v:V):TE:=fun _ H Q=>Q v H
theorem HC {i:Nat}{x:cb}{pos:xp}(hN:X.N[i]?=some x) (hv:xx X.env.scope x) (hd:(x==("__debug__" : cb))=false :=by decide) (iR:(x==("__classdict__" : cb))=false :=by decide):PE X (.Name x pos) (OC i) :=by
 refine⟨?_⟩;intro pins s σ H Q I h;obtain⟨v,e,h⟩:=h;obtain⟨m,hn,hl⟩:=I.loc;obtain⟨u,r,l⟩:=hl i x v hN e hv;have fin:EP X pins σ Q u s:=⟨v,H,I,r,h⟩;rcases l with ⟨hk,hm⟩|⟨hk,c,hc,tQ⟩
 ·exact wpAny_Name (wpAny_loadName_local I.ok.kind hk hn hm fin) hd
 ·rcases hk with hk|hk
  ·exact wpAny_Name (wpAny_loadName_cell I.ok.kind hk hc tQ fin) hd
  ·exact wpAny_Name (wpAny_loadName_free I.ok.kind hk hc tQ fin iR) hd
theorem HD {i j pos}:PE X (.Constant (.int i) j pos) (tC (.int i)):=⟨fun _ _ _ H _ I h=>wpAny_Constant_int ⟨.int i,H,I.tok _,⟨_,rfl⟩,h⟩⟩
theorem LC {b j pos}:PE X (.Constant (.bool b) j pos) (tC (.bl b)):=⟨fun _ _ _ H _ I h=>Constant_bool ⟨.bl b,H,I,rfl,h⟩⟩
theorem HE {x j pos}:PE X (.Constant (.str x) j pos) (tC (.str x)):=⟨fun _ _ _ H _ I h=>Calls.Constant_str ⟨.str x,H,I.tok _,⟨_,rfl⟩,h⟩⟩
def Gl (X:Cx) (x:cb):Prop:=X.env.kindOf x=some .globalImplicit
theorem rh {E:ap->ar->Prop}{pins:List (al×lp)}{s:ar}{σ:St}{H:Hp}{x:cb}{u:ap}{pos:xp}{Q:ap->ar->Prop}(I:Inv X pins σ H s) (hg:Gl X x) (hm:X.mg x=some u) (h:Q u s)
  (hd:(x==("__debug__" : cb))=false :=by decide):wpAny (model X.prog X.w) X.A (eval (.Name x pos) X.env) Q E s:=
 Calls.Name_function_global I.ok.kind hg (Calls.loadGlobal_global (by rw[I.ok.glob];exact I.mod.glob.keeps I.bk) hm h) hd
theorem gu {E:ap->ar->Prop}{pins:List (al×lp)}{s:ar}{σ:St}{H:Hp}{x:cb}{u:ap}{pos:xp}{Q:ap->ar->Prop}(I:Inv X pins σ H s) (hg:Gl X x) (hm:X.mg x=none) (hv:bootBuiltins x=some u) (h:Q u s)
  (hn:x ≠ "__name__" := by decide) (hd:(x==("__debug__" : cb))=false :=by decide):wpAny (model X.prog X.w) X.A (eval (.Name x pos) X.env) Q E s :=by
 obtain⟨mb,h1,h2⟩:=I.mod.blt;exact Calls.Name_function_global I.ok.kind hg (Calls.loadGlobal_builtin (by rw[I.ok.glob];exact I.mod.glob.keeps I.bk) hm (by rw[I.ok.blt];exact h1.keeps I.bk) ((h2 x hn).trans hv) h) hd
theorem xA {x:cb}{v:V}{u:ap}{pos:xp}(hg:Gl X x) (hm:X.mg x=some u) (r:RelV v u) (hd:(x==("__debug__" : cb))=false :=by decide):PE X (.Name x pos) (tC v):=⟨fun _ _ _ H _ I h=>rh I hg hm ⟨v,H,I,r,h⟩ hd⟩
theorem Gh {x:cb}{v:V}{u:ap}{pos:xp}(hg:Gl X x) (hm:X.mg x=none) (hv:bootBuiltins x=some u) (r:RelV v u) (hn:x ≠ "__name__" := by decide) (hd:(x==("__debug__" : cb))=false :=by decide):PE X (.Name x pos) (tC v):=⟨fun _ _ _ H _ I h=>gu I hg hm hv ⟨v,H,I,r,h⟩ hn hd⟩
variable {a b:hX}{ta tb:TE}{pos:xp}
def PC (X:Cx) (op:S6) (a b:hX) (t:TE):Prop:=
 ∀(pins:List (al×lp)) (s:ar) (σ:St) (H:Hp) (Q:VK),Inv X pins σ H s->t σ H Q->
  wpAny (model X.prog X.w) X.A (eval a X.env) (fun v aw=>wpAny (model X.prog X.w) X.A (eval b X.env) (fun u mK=>wpAny (model X.prog X.w) X.A (compareOp op v u) (EP X pins σ Q) X.xe mK) X.xe aw) X.xe s
theorem Dw (b:hX) {op:S6}(h:op≠.In) (h2:op≠.NotIn):behindInMarks op b=false :=by
 have e1:(op==S6.In)=false :=by cases op<;>first|rfl|exact absurd rfl h
 have e2:(op==S6.NotIn)=false :=by cases op<;>first|rfl|exact absurd rfl h2
 cases b<;>simp[behindInMarks,e1,e2]
def tB (t:TE):TT:=fun σ H Q=>t σ H fun x H1=>∃c,x=.bl c/\Q c H1
theorem P5 {op:S6}{t:TE}(h:PC X op a b t) (h1:behindInMarks op b=false :=by first|exact Dw _ (by decide) (by decide)|rfl):PT X (.Compare a [op] [b] pos) (tB t) :=by
 refine⟨?_⟩;intro pins s σ H Q I hw;refine wpAny_isTrue_Compare1 (thn (h pins s σ H _ I hw) fun v s1 h1=>thn h1 fun u s2 h2=>thn h2 fun c s3 ⟨x,H1,I1,r1,q1⟩=>?_) h1
 obtain⟨d,rfl,q⟩:=q1;cases r1;exact wP ⟨H1,I1,q⟩
theorem HF {e:hX}{t:TE}(h:PE X e t) (he:∀whole,isTrue e X.env whole=(do let v <- whole;standAt e.pos;holding [v] (truthy v)) :=by intro _;rfl):PT X e (tB t) :=by
 refine⟨?_⟩;intro pins s σ H Q I hw;refine isTrue_plain (thn (h pins s σ H _ I hw) fun v s1 ⟨x,H1,I1,r1,q1⟩=>?_) (he _)
 obtain⟨d,rfl,q⟩:=q1;cases r1;exact wP ⟨H1,I1,q⟩
variable {tA Aq:TT}{rest:List hX}
def P6 (t u:TT):TT:=fun σ H Q=>t σ H fun c H1=>if c=true then Q true H1 else u σ H1 Q
def OD (t:TT):TT:=fun σ H Q=>t σ H fun c H1=>Q (!c) H1
theorem HG (ha:PT X a tA):PW X (.BoolOp .Or [a] pos) tA :=by
 intro wh pins s σ H Q I h;refine isTrue_or (thn (ha pins s σ H Q I h) fun c s1 e=>?_)
 cases c with
 |false=>exact isTrue_or_nil e
 |true=>exact e
theorem LD (ha:PT X a tA) (hb:PW X (.BoolOp .Or (b::rest) pos) Aq):PW X (.BoolOp .Or (a::b::rest) pos) (P6 tA Aq) :=by
 intro wh pins s σ H Q I h;refine isTrue_or (thn (ha pins s σ H _ I h) fun c s1 ⟨H1,I1,q1⟩=>?_)
 cases c with
 |true=>exact⟨H1,I1,q1⟩
 |false=>exact hb wh pins s1 σ H1 Q I1 q1
theorem HH (ha:PT X a tA):PT X (.UnaryOp .Not a pos) (OD tA) :=by
 refine⟨?_⟩;intro pins s σ H Q I h;exact isTrue_not (ha pins s σ H (fun c H1=>Q (!c) H1) I h)
def LI (ta tb:TE):TE:=fun σ H Q=>ta σ H fun x H1=>∃c,x=.bl c/\if c=true then tb σ H1 Q else Q (.bl false) H1
def LJ (ta:TE):TE:=fun σ H Q=>ta σ H fun x H1=>∃c,x=.bl c/\Q (.bl (!c)) H1
theorem HI {op}{t:TE}(h:PE X a t):PE X (.BoolOp op [a] pos) t:=⟨fun pins s σ H Q I hw=>BoolOp_one (h pins s σ H Q I hw)⟩
theorem HJ (ha:PE X a ta) (hb:PE X (.BoolOp .And (b::rest) pos) tb):PE X (.BoolOp .And (a::b::rest) pos) (LI ta tb) :=by
 refine⟨?_⟩;intro pins s σ H Q I h;refine BoolOp_and (thn (ha pins s σ H _ I h) fun v s1 ⟨x,H1,I1,r1,q1⟩=>?_)
 obtain⟨c,rfl,q1⟩:=q1;cases r1;refine wP ?_;cases c with
 |true=>exact hb pins s1 σ H1 Q I1 q1
 |false=>exact⟨.bl false,H1,I1,rfl,q1⟩
theorem HK (ha:PE X a ta):PE X (.UnaryOp .Not a pos) (LJ ta) :=by
 refine⟨?_⟩;intro pins s σ H Q I h;refine UnaryOp_ (thn (ha pins s σ H _ I h) fun v s1 ⟨x,H1,I1,r1,q1⟩=>?_)
 obtain⟨c,rfl,q1⟩:=q1;cases r1;exact not_of (wP ⟨.bl (!c),H1,I1,rfl,q1⟩)
def P7 (t:TT) (ta tb:TE):TE:=fun σ H Q=>t σ H fun c H1=>if c=true then ta σ H1 Q else tb σ H1 Q
theorem Dx {c:hX}(hc:PT X c tA) (ha:PE X a ta) (hb:PE X b tb):PE X (.IfExp c a b pos) (P7 tA ta tb) :=by
 refine⟨?_⟩;intro pins s σ H Q I h;refine wpAny_IfExp (thn (hc pins s σ H _ I h) fun d s1 ⟨H1,I1,q1⟩=>?_)
 cases d with
 |true=>exact ha pins s1 σ H1 Q I1 q1
 |false=>exact hb pins s1 σ H1 Q I1 q1
end
def bU (K:bn) (H:Hp) (a:al) (xs:List V):Prop:=
 Rd H a (.lst xs) \/
  ∃(o:lp) (its:Array ap) (n:Nat),K.lookup a=some o/\o.cls=.type "list" /\ o.dict=none/\o.data=.seq its n/\its.size<=sizeLine/\Vals xs its.toList
def dr (K:bn) (H:Hp) (a:al) (xs:List V):Prop:=
 Rd H a (.tup xs) \/
  ∃(o:lp) (its:Array ap) (n:Nat),K.lookup a=some o/\o.cls=.type "tuple" /\ o.data=.seq its n/\its.size<=sizeLine/\Vals xs its.toList
def OG:ap->Option V
 | .none=>some .ao
 | .bool b=>some (.bl b)
 | .int i _=>some (.int i)
 | .str x _=>some (.str x)
 | .bytes b _=>some (.jD b)
 | .float b _=>some (.xr b)
 | .ref a=>some (.ref a)
 | .type n=>some (.ty n)
 |_=>none
theorem RelV.abs {x:V}{u:ap}(r:RelV x u):OG u=some x :=by
 cases x with
 |ao=>cases r;rfl
 |bl _=>cases r;rfl
 |int _=>obtain⟨t,rfl⟩:=r;rfl
 |str _=>obtain⟨t,rfl⟩:=r;rfl
 |jD _=>obtain⟨t,rfl⟩:=r;rfl
 |xr _=>obtain⟨t,rfl⟩:=r;rfl
 |ref _=>cases r;rfl
 |ty _=>cases r;rfl
theorem RelV.inj {x y:V}{u:ap}(r:RelV x u) (q:RelV y u):x=y:=kw (r.abs.symm.trans q.abs)
theorem Vals.inj:∀{xs ys:List V}{us:List ap},Vals xs us->Vals ys us->xs=ys
 |_,_,_,.nil,.nil=>rfl
 |_,_,_,.cons r t,.cons r' t'=>by rw[r.inj r',Vals.inj t t']
section
variable {X:Cx}{pins:List (al×lp)}{σ:St}{H:Hp}{s:ar}{a:al}{xs ys:List V}
theorem bU.of {K:bn}(h:H a=some (.lst xs)):bU K H a xs:=.inl (.inl h)
theorem dr.of {K:bn}(h:H a=some (.tup xs)):dr K H a xs:=.inl (.inl h)
theorem Inv.list (I:Inv X pins σ H s) (h:bU X.K H a xs):∃its:List ap,Vals xs its/\PlainL s.heap a its.toArray/\xs.length<=sizeLine :=by
 rcases h with h|⟨o,its,n,hk,hc,hd,hs,hz,r⟩
 ·obtain⟨z,its,n,r,e⟩:=h.ok I.hok;exact⟨its,r,⟨_,n,e,rfl,rfl,rfl⟩,z⟩
 ·refine⟨its.toList,r,⟨o,n,I.iP a o hk,hc,hd,by simpa using hs⟩,?_⟩
  have e:=r.length;simp only[jp]at e;omega
theorem Inv.tuple (I:Inv X pins σ H s) (h:dr X.K H a xs):∃its:List ap,Vals xs its/\IsTup s.heap a its.toArray/\xs.length<=sizeLine :=by
 rcases h with h|⟨o,its,n,hk,hc,hs,hz,r⟩
 ·obtain⟨z,its,r,p⟩:=h.ok I.hok;exact⟨its,r,ly.tup p,z⟩
 ·refine⟨its.toList,r,⟨o,I.iP a o hk,hc,n,by simpa using hs⟩,?_⟩
  have e:=r.length;simp only[jp]at e;omega
theorem Inv.Dy (I:Inv X pins σ H s) (h:bU X.K H a xs) (h':bU X.K H a ys):xs=ys :=by
 obtain⟨its,r,⟨o,n,e,_,_,d⟩,_⟩:=I.list h;obtain⟨its',r',⟨o',n',e',_,_,d'⟩,_⟩:=I.list h';rw[e]at e';cases e';rw[d]at d';injection d' with d1 _
 have:its=its':=by simpa using congrArg Array.toList d1
 subst this;exact r.inj r'
theorem Inv.Ar (I:Inv X pins σ H s) (h:dr X.K H a xs) (h':dr X.K H a ys):xs=ys :=by
 obtain⟨its,r,⟨o,e,_,n,d⟩,_⟩:=I.tuple h;obtain⟨its',r',⟨o',e',_,n',d'⟩,_⟩:=I.tuple h';rw[e]at e';cases e';rw[d]at d';injection d' with d1 _
 have:its=its':=by simpa using congrArg Array.toList d1
 subst this;exact r.inj r'
end
abbrev Cx.kO (X:Cx) (E:ap->ar->Prop):Cx:={X with xe:=E}
abbrev Cx.As (X:Cx):Cx:=X.kO fun _ _=>False
theorem Cx.Ok.kO {X:Cx}(ok:X.Ok) (E:ap->ar->Prop):(X.kO E).Ok:=
 ⟨ok.mod,ok.kind,ok.glob,ok.blt,ok.above,ok.inj,ok.has,ok.cab,ok.hd,ok.frames,ok.stk,ok.exf,ok.bs,ok.bsz,ok.noex,ok.exfs,ok.funs,ok.frf⟩
theorem Cx.Ok.iS {X:Cx}{E:ap->ar->Prop}(ok:(X.kO E).Ok):X.Ok:=
 ⟨ok.mod,ok.kind,ok.glob,ok.blt,ok.above,ok.inj,ok.has,ok.cab,ok.hd,ok.frames,ok.stk,ok.exf,ok.bs,ok.bsz,ok.noex,ok.exfs,ok.funs,ok.frf⟩
section
variable {X:Cx}{pins:List (al×lp)}{σ:St}{H:Hp}{s:ar}{E:ap->ar->Prop}
theorem Inv.kO (I:Inv X pins σ H s) (E:ap->ar->Prop):Inv (X.kO E) pins σ H s:=⟨I.ok.kO E,I.os,I.bare,I.base,I.loc,I.cell,I.free,I.freeC,I.pin,I.hok,I.len⟩
theorem Inv.iS (I:Inv (X.kO E) pins σ H s):Inv X pins σ H s:=⟨I.ok.iS,I.os,I.bare,I.base,I.loc,I.cell,I.free,I.freeC,I.pin,I.hok,I.len⟩
theorem SP.iS {D:Ends}{f:Flow}{s':ar}(h:SP (X.kO E) pins D f s'):SP X pins D f s':=by
 cases f with
 |next=>obtain⟨aQ,H',I,q⟩:=h;exact⟨aQ,H',I.iS,q⟩
 |brk=>obtain⟨aQ,H',I,q⟩:=h;exact⟨aQ,H',I.iS,q⟩
 |cont=>obtain⟨aQ,H',I,q⟩:=h;exact⟨aQ,H',I.iS,q⟩
 |ret u=>obtain⟨v,aQ,H',I,r,q⟩:=h;exact⟨v,aQ,H',I.iS,r,q⟩
theorem gU.As {st:List tz}{t:TS}(h:gU X.As st t):gU X st t:=⟨fun pins s σ H D I hw=>
 l8 (h pins s σ H D (I.kO _) hw) (fun _ _ q=>q.iS) fun _ _ z=>Me z⟩
end
section
variable {X:Cx}{st:tz}{rest:List tz}{t u:TS}{e:hX}{te:TE}{pos:xp}
def LK:TS:=fun D σ H=>D.nx σ H
def OH (t u:TS):TS:=fun D σ H=>t {D with nx:=u D} σ H
theorem Gi:gU X [] LK:=⟨fun _ _ σ H _ I h=>Up ⟨σ,H,I,h⟩⟩
theorem Dz (h1:PS X st t) (h2:gU X rest u):gU X (st::rest) (OH t u) :=by
 refine⟨?_⟩;intro pins s σ H D I h;refine wpAny_execs_cons (thn (h1 pins s σ H {D with nx:=u D} I h) fun f s1 q=>?_)
 cases f with
 |next=>
  obtain⟨aQ,H',I',q⟩:=q;exact h2 pins s1 aQ H' D I' q
 |ret v=>exact q
 |brk=>exact q
 |cont=>exact q
theorem Gj (h1:PS X st t):gU X [st] t :=by
 refine⟨?_⟩;intro pins s σ H D I h;refine wpAny_execs_cons (thn (h1 pins s σ H D I h) fun f s1 q=>?_)
 cases f with
 |next=>exact Up q
 |ret v=>exact q
 |brk=>exact q
 |cont=>exact q
theorem Inv.quiet {pins:List (al×lp)}{σ:St}{H:Hp}{s:ar}(I:Inv X pins σ H s):interactive X.env=false :=by simp[interactive,I.ok.kind]
def LL (te:TE):TS:=fun D σ H=>te σ H fun _ H1=>D.nx σ H1
theorem Gk (he:PE X e te) (hs:swapsWith e none pos.line X.env=pure false :=by rfl):PS X (.Expr e pos) (LL te) :=by
 refine⟨?_⟩;intro pins s σ H D I h;exact wpAny_Expr_any (thn (he pins s σ H _ I h) fun v s1 ⟨x,H1,I1,r1,q1⟩=>⟨σ,H1,I1,q1⟩) I.quiet hs
def OI (te:TE):TS:=fun D σ H=>te σ H D.rt
theorem HL (he:PE X e te):PS X (.Return (some e) pos) (OI te) :=by
 refine⟨?_⟩;intro pins s σ H D I h;exact wpAny_Return_some (thn (he pins s σ H _ I h) fun v s1 ⟨x,H1,I1,r1,q1⟩=>⟨x,σ,H1,I1,r1,q1⟩)
def OJ (c:TT) (t u:TS):TS:=fun D σ H=>c σ H fun b H1=>if b=true then t D σ H1 else u D σ H1
theorem LN {c:hX}{a b:List tz}{tc:TT}(hc:PT X c tc) (ha:gU X a t) (hb:gU X b u):PS X (.If c a b pos) (OJ tc t u) :=by
 refine⟨?_⟩;intro pins s σ H D I h;refine wpAny_If (thn (hc pins s σ H _ I h) fun d s1 ⟨H1,I1,q1⟩=>?_)
 cases d with
 |true=>exact ha pins s1 σ H1 D I1 q1
 |false=>exact hb pins s1 σ H1 D I1 q1
end
abbrev TG:=V->St->Hp->(St->Hp->Prop)->Prop
def PG (X:Cx) (target:hX) (t:TG):Prop:=
 ∀(pins:List (al×lp)) (s:ar) (σ:St) (H:Hp) (v:V) (u:ap) (Q:St->Hp->Prop),Inv X pins σ H s->RelV v u->t v σ H Q->
  wpAny (model X.prog X.w) X.A (assign target X.env u) (fun _ s'=>∃aQ H',Inv X pins aQ H' s'/\Q aQ H') X.xe s
abbrev DA:=V->V->V->Hp->(Hp->Prop)->Prop
def HM (X:Cx) (t:DA):Prop:=
 ∀(pins:List (al×lp)) (s:ar) (σ:St) (H:Hp) (o i v:V) (ov iv u:ap) (Q:Hp->Prop),Inv X pins σ H s->RelV o ov->RelV i iv->RelV v u->t o i v H Q->
  wpAny (model X.prog X.w) X.A (setItem ov iv u) (fun _ s'=>∃H',Inv X pins σ H' s'/\Q H') X.xe s
section
variable {X:Cx}{pos:xp}
def tR (i:Nat):TG:=fun v σ H Q=>Q (σ.set i (some v)) H
theorem Gm {i:Nat}{x:cb}(hN:X.N.Nodup) (hi:X.N[i]?=some x) (hx:Loc X.env.scope x) (hf:X.fn x=true\/X.env.scope.names.lookup x=some .local :=by first|exact .inl rfl|exact .inr rfl|assumption):PG X (.Name x pos) (tR i) :=by
 intro pins s σ H v u Q I r h;exact wpAny_assign_Name (ub I hN hi hx r (fun s' I'=>⟨_,H,I',h⟩) hf)
def OM (to ti:TE) (t:DA):TG:=fun v σ H Q=>to σ H fun o H1=>ti σ H1 fun i H2=>t o i v H2 fun H3=>Q σ H3
theorem HN {o i:hX}{to ti:TE}{t:DA}(ho:PE X o to) (hi:PE X i ti) (hs:HM X t)
  (ha:∀v,assign (.Subscript o i pos) X.env v=(do
   let ov <- holding [v] (eval o X.env)
   let iv <- holding [v,ov] (eval i X.env)
   standAt pos
   holding [v,ov,iv] (setItem ov iv v)
   release [v,ov,iv] []) :=by intro _;rfl):PG X (.Subscript o i pos) (OM to ti t) :=by
 intro pins s σ H v u Q I r h;rw[ha];refine ag (ul (thn (ho pins s σ H _ I h) fun ov s1 ⟨x,H1,I1,r1,q1⟩=>?_))
 refine ag (ul (thn (hi pins s1 σ H1 _ I1 q1) fun iv s2 ⟨y,H2,I2,r2,q2⟩=>?_))
 refine ag (BY (ag (ul (thn (hs pins s2 σ H2 x y v ov iv u _ I2 r1 r2 r q2) fun _ s3 ⟨H3,I3,q3⟩=>?_))))
 exact wpAny_release ⟨σ,H3,I3,q3⟩
def ud (te:TE) (g:TG):TS:=fun D σ H=>te σ H fun x H1=>g x σ H1 D.nx
theorem HP {tg e:hX}{te:TE}{g:TG}(he:PE X e te) (hg:PG X tg g) (hs:swapsWithSole [tg] e pos.line X.env=pure false :=by rfl) (hw:swappedStores [tg] e X.env=pure none :=by rfl)
  (h1:(assignEach [tg] X.env).map (·.2)=[assign tg X.env] :=by rfl):PS X (.Assign [tg] e pos) (ud te g) :=by
 refine⟨?_⟩;intro pins s σ H D I h;refine wpAny_Assign_stores (thn (he pins s σ H _ I h) fun v s1 ⟨x,H1,I1,r1,q1⟩=>?_) hs hw
 rw[h1];exact thn (hg pins s1 σ H1 x v _ I1 r1 q1) fun _ s2 q=>q
theorem HQ {i:Nat}{x:cb}{e:hX}{te:TE}{pos':xp}(hN:X.N.Nodup) (hi:X.N[i]?=some x) (hx:Loc X.env.scope x) (he:PE X e te) (hs:swapsWith e (some (.Name x pos')) pos.line X.env=pure false :=by rfl) (hf:X.fn x=true\/X.env.scope.names.lookup x=some .local :=by first|exact .inl rfl|exact .inr rfl|assumption) :
  PS X (.Assign [.Name x pos'] e pos) (ud te (tR i)) :=by
 refine⟨?_⟩;intro pins s σ H D I h;refine wpAny_Assign_Name (thn (he pins s σ H _ I h) fun v s1 ⟨y,H1,I1,r1,q1⟩=>?_) hs
 exact ub I1 hN hi hx r1 (fun s2 I2=>⟨_,H1,I2,q1⟩) hf
def Au (c:TT) (tb:TS):TS:=fun D σ H=>∃W:Nat->St->Hp->Prop,(∃m,W m σ H)/\∀m σ H,W m σ H->
 c σ H fun b H1=>if b=true then ∃N:St->Hp->Prop,(∀aQ H',N aQ H'->∃m',m'<m/\W m' aQ H')/\tb {D with nx:=N,ct:=N,bk:=D.nx} σ H1 else D.nx σ H1
theorem DB {c:hX}{body:List tz}{tc:TT}{tb:TS}(hp:Vk (model X.prog X.w) X.A X.env X.xe) (hc:PT X c tc) (hb:gU X body tb):PS X (.While c body [] pos) (Au tc tb) :=by
 refine⟨?_⟩;intro pins s σ H D I h;obtain⟨W,⟨m0,w0⟩,turn⟩:=h;refine wpAny_While (codeAny_whileLoop (fun n s'=>∃aQ H',Inv X pins aQ H' s'/\W n aQ H') ?_ m0 ⟨σ,H,I,w0⟩)
 rintro n s1 ⟨ue,H1,I1,w1⟩;refine NH hp (thn (hc pins s1 ue H1 _ I1 (turn n ue H1 w1)) fun b s2 ⟨H2,I2,q2⟩=>?_)
 cases b with
 |true=>
  obtain⟨N,hN,q2⟩:=q2;rw[if_pos rfl];refine NH hp (thn (hb pins s2 ue H2 _ I2 q2) fun f s3 q3=>?_)
  cases f with
  |next=>
   obtain⟨mx,H3,I3,n3⟩:=q3;obtain⟨m',hm,w3⟩:=hN mx H3 n3;exact⟨m',hm,mx,H3,I3,w3⟩
  |cont=>
   obtain⟨mx,H3,I3,n3⟩:=q3;obtain⟨m',hm,w3⟩:=hN mx H3 n3;exact⟨m',hm,mx,H3,I3,w3⟩
  |brk=>exact q3
  |ret v=>exact q3
 |false=>
  rw[if_neg gc];exact Up ⟨ue,H2,I2,q2⟩
end
structure It where
 go:Nat->Hp->Prop
 yld:Nat->Hp->V->Hp->Prop
 stop:Nat->Hp->Prop
def cF (X:Cx) (pins:List (al×lp)) (H:Hp) (b:al):Prop:=
 H b=none/\b≠X.env.locals/\b ∉ X.fs/\(b∈X.ex\/X.s₀.heap.objs.size<=b)/\(∀x c,X.env.cells.lookup x=some c->c≠b)/\∀p∈X.pn++pins,p.1≠b
theorem Inv.mL {X:Cx}{pins:List (al×lp)}{σ:St}{H H':Hp}{s:ar}{b:al}(I:Inv X pins σ H s) (hb:s.heap.objs.size<=b) (hn:H' b=none):cF X pins H' b :=by
 refine⟨hn,Tj (on I.lt hb),I.Hy hb,.inr (wv I.sz hb),fun x c e z=>?_,fun p hp z=>?_⟩
 ·obtain⟨v,q⟩:=I.cell x c e;exact absurd (on q.lt (by rw[z];exact hb)) (Fk _)
 ·exact absurd (on (ii (I.pin p hp).1) (by rw[z];exact hb)) (Fk _)
structure Turn (P:i4) (w:i8) (K:bn) (tg:hX) (J:It) (fp:List al) (it:al) (tn:Nat->kt->Prop):Prop where
 mem:it∈fp
 obj:∀i h,tn i h->∀b∈fp,∃o,h.get? b=some o/\∀v,o.data≠.cell v
 keep:∀i h h',tn i h->(∀b∈fp,∀o,h.get? b=some o->h'.get? b=some o)->tn i h'
 item:∀(X:Cx),X.prog=P->X.w=w->X.K=K->X.calm=true->∀(i:Nat) (pins:List (al×lp)) (s:ar) (σ:St) (H:Hp) (E:ap->ar->Prop),Inv X pins σ H s->(∀b∈fp,cF X pins H b)->tn i s.heap->J.go i H->
  wpAny (model P w) X.A (pyNext (.ref it)) (fun r s1=>∃u,r=some u /\
   wpAny (model P w) X.A (letOwnedTupleGo tg (.ref it) u) (fun _ s2=>∃x H',Inv X pins σ H' s2/\RelV x u/\J.yld i H x H'/\tn (i+1) s2.heap/\∀b∈fp,H' b=none) E s1) E s
 done:∀(X:Cx),X.prog=P->X.w=w->X.K=K->X.calm=true->∀(i:Nat) (pins:List (al×lp)) (s:ar) (σ:St) (H:Hp) (E:ap->ar->Prop),Inv X pins σ H s->(∀b∈fp,cF X pins H b)->tn i s.heap->J.stop i H->
  wpAny (model P w) X.A (pyNext (.ref it)) (fun r s1=>r=none/\Inv X pins σ H s1) E s
 self:∀(A:ma) (i:Nat) (s:ar) (Q:ap->ar->Prop) (E:ap->ar->Prop),tn i s.heap->Q (.ref it) s->wpAny (model P w) A (pyIter (.ref it)) Q E s
abbrev TI:=St->Hp->(It->Hp->Prop)->Prop
def Nj (X:Cx) (pins:List (al×lp)) (σ:St) (tg:hX) (R:It->Hp->Prop) (uf:ap) (s2:ar):Prop:=
 ∃(it:al) (fp:List al) (tn:Nat->kt->Prop) (J:It) (H':Hp),uf=.ref it/\Inv X pins σ H' s2/\Turn X.prog X.w X.K tg J fp it tn/\tn 0 s2.heap/\(∀b∈fp,cF X pins H' b)/\R J H'
def PI (X:Cx) (tg iter:hX) (wi:TI):Prop:=
 ∀(pins:List (al×lp)) (s:ar) (σ:St) (H:Hp) (R:It->Hp->Prop),Inv X pins σ H s->wi σ H R->
  wpAny (model X.prog X.w) X.A (eval iter X.env) (fun v s1=>wpAny (model X.prog X.w) X.A (pyIter v) (Nj X pins σ tg R) X.xe s1) X.xe s
theorem yK {M:Model}{A:ma}{E:ap->ar->Prop}{s:ar}{tg:hX}{it:al}{u:ap}{o:lp}{n:String}{vs:Array ap}{Q:Unit->ar->Prop}(ho:s.heap.get? it=some o) (hc:o.cls=.type n) (hd:o.data=.fields vs)
  (hn:["enumerate","zip","dict_itemiterator","dict_reverseitemiterator","odict_iterator","itertools.zip_longest","itertools.pairwise"].contains n=false) (hQ:Q () s):wpAny M A (letOwnedTupleGo tg (.ref it) u) Q E s :=by
 unfold letOwnedTupleGo;cases tg<;>first
  |exact ba hQ
  |(cases u<;>first
    |exact ba hQ
    |(refine ag (Vy ho ?_)
      rw[hc,hd];show wpAny M A (if (["enumerate","zip","dict_itemiterator","dict_reverseitemiterator","odict_iterator","itertools.zip_longest","itertools.pairwise"].contains n && vs[0]?==some (rawInt _))=true then _ else _) Q E s
      rw[if_neg (by intro h;rw[hn,OL]at h;cases h)]
      exact ba hQ))
def HR (K:bn) (a:al):It:=
 ⟨fun i H=>∃xs x,bU K H a xs/\xs[i]?=some x,fun i H x H'=>H'=H/\∀xs,bU K H a xs->xs[i]?=some x,fun i H=>∃xs,bU K H a xs/\xs.length<=i⟩
def HS (K:bn) (a:al):It:=
 ⟨fun i H=>∃xs x,dr K H a xs/\xs[i]?=some x,fun i H x H'=>H'=H/\∀xs,dr K H a xs->xs[i]?=some x,fun i H=>∃xs,dr K H a xs/\xs.length<=i⟩
def Av (lo:Int) (n:Nat):It:=⟨fun i _=>i<n,fun i H x H'=>H'=H/\x=.int (lo+i),fun i _=>n<=i⟩
theorem Aw {P:i4}{w:i8}{K:bn}{tg:hX}(a it:al):Turn P w K tg (HR K a) [it] it (fun i h=>h.IsListIter it a i) where
 mem :=by simp
 obj:=fun i h st b hb=>by
  have e:b=it :=by simpa using hb
  subst e;obtain⟨o,e,c,d⟩:=st;exact⟨o,e,fun v z=>by rw[d]at z;cases z⟩
 keep:=fun i h h' st k=>st.at fun o e=>k it (by simp) o e
 item :=by
  intro X hP hw hK hc i pins s σ H E I hf st hg;subst hP hw hK;obtain⟨xs,x,hq,hx⟩:=hg;obtain⟨its,rv,p,hz⟩:=I.list hq;obtain⟨u,hu,ru⟩:=rv.get hx;obtain⟨f0,f1,f2,f3,f4,f5⟩:=hf it (by simp)
  refine wpAny_pyNext_list_item st p.isList (x:=u) (by simpa using hu) fun h' kX sb=>?_
  have I1:Inv X pins σ H {s with heap:=h'}:=I.turned (t':=s.toks) (fun b o hb e=>(sb.2 b hb).trans e) f0 f1 f3 f4 f5
  obtain⟨o,e,c,d⟩:=id kX;exact⟨u,rfl,yK (s:={s with heap:=h'}) e c d (by decide) ⟨x,H,I1,ru,⟨rfl,fun ys hy=>by rw[I.Dy hy hq];exact hx⟩,kX,fun b hb=>(hf b hb).1⟩⟩
 done :=by
  intro X hP hw hK hc i pins s σ H E I hf st hg;subst hP hw hK;obtain⟨xs,hq,hx⟩:=hg;obtain⟨its,rv,p,hz⟩:=I.list hq;obtain⟨f0,f1,f2,f3,f4,f5⟩:=hf it (by simp)
  have hl:=rv.length;exact wpAny_pyNext_list_end (I.ok.hd hc) st p.isList (by simp;omega) fun h' eb=>⟨rfl,I.turned (t':=s.toks) (fun b o hb e=>eb b o hb e) f0 f1 f3 f4 f5⟩
 self:=fun _ _ _ _ _ st h=>wpAny_pyIter_listiter st h
theorem yL {P:i4}{w:i8}{K:bn}{tg:hX}(a it:al):Turn P w K tg (HS K a) [it] it (fun i h=>h.IsTupleIter it a i) where
 mem :=by simp
 obj:=fun i h st b hb=>by
  have e:b=it :=by simpa using hb
  subst e;obtain⟨o,e,c,d⟩:=st;exact⟨o,e,fun v z=>by rw[d]at z;cases z⟩
 keep:=fun i h h' st k=>st.at fun o e=>k it (by simp) o e
 item :=by
  intro X hP hw hK hc i pins s σ H E I hf st hg;subst hP hw hK;obtain⟨xs,x,hq,hx⟩:=hg;obtain⟨its,rv,p,hz⟩:=I.tuple hq;obtain⟨u,hu,ru⟩:=rv.get hx;obtain⟨f0,f1,f2,f3,f4,f5⟩:=hf it (by simp)
  refine wpAny_pyNext_tuple_item st (show s.heap.IsTuple a its.toArray from p) (x:=u) (by simpa using hu) fun h' kX sb=>?_
  have I1:Inv X pins σ H {s with heap:=h'}:=I.turned (t':=s.toks) (fun b o hb e=>(sb.2 b hb).trans e) f0 f1 f3 f4 f5
  obtain⟨o,e,c,d⟩:=id kX;exact⟨u,rfl,yK (s:={s with heap:=h'}) e c d (by decide) ⟨x,H,I1,ru,⟨rfl,fun ys hy=>by rw[I.Ar hy hq];exact hx⟩,kX,fun b hb=>(hf b hb).1⟩⟩
 done :=by
  intro X hP hw hK hc i pins s σ H E I hf st hg;subst hP hw hK;obtain⟨xs,hq,hx⟩:=hg;obtain⟨its,rv,p,hz⟩:=I.tuple hq;obtain⟨f0,f1,f2,f3,f4,f5⟩:=hf it (by simp)
  have hl:=rv.length;exact wpAny_pyNext_tuple_end (I.ok.hd hc) st (show s.heap.IsTuple a its.toArray from p) (by simp;omega) fun h' eb=>⟨rfl,I.turned (t':=s.toks) (fun b o hb e=>eb b o hb e) f0 f1 f3 f4 f5⟩
 self:=fun _ _ _ _ _ st h=>wpAny_pyIter_tupleiter st h
theorem yM {P:i4}{w:i8}{K:bn}{tg:hX}(it:al) (lo:Int) (n:Nat):Turn P w K tg (Av lo n) [it] it (fun i h=>IsRangeIter h it (lo+(i:Nat) * 1) ((n:Int) - (i:Nat)) 1) where
 mem :=by simp
 obj:=fun i h st b hb=>by
  have e:b=it :=by simpa using hb
  subst e;exact⟨_,st,fun v z=>by
   have z':Data.fields _=Data.cell v:=z;cases z'⟩
 keep:=fun i h h' st k=>k it (by simp) _ st
 item :=by
  intro X hP hw hK hc i pins s σ H E I hf st hg;subst hP hw hK;obtain⟨f0,f1,f2,f3,f4,f5⟩:=hf it (by simp)
  have W:=Vz.range (prog:=X.prog) (w:=X.w) (I.ok.hd hc) it lo 1 n;refine W.item i s _ _ hg st fun v h' tk hv kX kk=>?_
  obtain⟨t,rfl⟩:=hv;have I1:Inv X pins σ H {s with heap:=h',toks:=tk}:=I.turned (fun b o hb e=>kk b o (by simpa using hb) e) f0 f1 f3 f4 f5
  refine⟨_,rfl,yK (s:={s with heap:=h',toks:=tk}) (n := "range_iterator") kX rfl rfl (by decide) ⟨.int (lo+i),H,I1,⟨t,?_⟩,⟨rfl,rfl⟩,kX,fun b hb=>(hf b hb).1⟩⟩
  rw[Int.mul_one]
 done :=by
  intro X hP hw hK hc i pins s σ H E I hf st hg;subst hP hw hK;obtain⟨f0,f1,f2,f3,f4,f5⟩:=hf it (by simp)
  exact wpAny_pyNext_range_end (I.ok.hd hc) st (by have:n<=i:=hg;omega) fun h' eb=>⟨rfl,I.turned (t':=s.toks) (fun b o hb e=>eb b o hb e) f0 f1 f3 f4 f5⟩
 self:=fun _ _ _ _ _ st h=>wpAny_pyIter_rangeiter st h
section
variable {X:Cx}{tg:hX}
def Fn (K:bn) (tl:TE):TI:=fun σ H R=>tl σ H fun x H1=>∃a,x=.ref a/\(∃xs,bU K H1 a xs)/\R (HR K a) H1
def HU (K:bn) (tl:TE):TI:=fun σ H R=>tl σ H fun x H1=>∃a,x=.ref a/\(∃xs,dr K H1 a xs)/\R (HS K a) H1
theorem Gp {l:hX}{tl:TE}(hl:PE X l tl):PI X tg l (Fn X.K tl) :=by
 intro pins s σ H R I h;refine thn (hl pins s σ H _ I h) fun v s1 ⟨x,H1,I1,r1,q1⟩=>?_
 obtain⟨a,e,⟨xs,hq⟩,q⟩:=q1;subst e;cases r1;obtain⟨its,rv,p,hz⟩:=I1.list hq;refine Tz p.isList ?_;refine⟨s1.heap.objs.size,[s1.heap.objs.size],_,_,H1,rfl,I1.kept (t':=s1.toks) fun b o e=>bi _ e,Aw a _,⟨_,io _ rfl,rfl,rfl⟩,fun b hb=>?_,q⟩
 have e:b=s1.heap.objs.size :=by simpa using hb
 subst e;exact I1.mL (bv _) (I1.hok.fresh (bv _))
theorem HV {l:hX}{tl:TE}(hl:PE X l tl):PI X tg l (HU X.K tl) :=by
 intro pins s σ H R I h;refine thn (hl pins s σ H _ I h) fun v s1 ⟨x,H1,I1,r1,q1⟩=>?_
 obtain⟨a,e,⟨xs,hq⟩,q⟩:=q1;subst e;cases r1;obtain⟨its,rv,p,hz⟩:=I1.tuple hq;refine wpAny_pyIter_tuple (show s1.heap.IsTuple a its.toArray from p) ?_;refine⟨s1.heap.objs.size,[s1.heap.objs.size],_,_,H1,rfl,I1.kept (t':=s1.toks) fun b o e=>bi _ e,yL a _,⟨_,io _ rfl,rfl,rfl⟩,fun b hb=>?_,q⟩
 have e:b=s1.heap.objs.size :=by simpa using hb
 subst e;exact I1.mL (bv _) (I1.hok.fresh (bv _))
theorem ug {pins:List (al×lp)}{σ:St}{H:Hp}{s:ar}{R:It->Hp->Prop}{E:ap->ar->Prop}{lo hi:Int}{t u v:Vl}{tk:Nat}(I:Inv X pins σ H s) (h1 : -(2 ^ 62)<=lo) (h2:lo<2 ^ 62) (h3 : -(2 ^ 62)<=hi) (h4:hi<2 ^ 62)
  (q:R (Av lo (hi - lo).toNat) H):wpAny (model X.prog X.w) X.A (pyIter (.ref s.heap.objs.size)) (Nj X pins σ tg R) E {s with heap:=s.heap.push {cls:=.type "range",data:=.fields #[.int lo t,.int hi u,.int 1 v]},toks:=tk}:=by
 refine wpAny_pyIter_range (IsRange.new ..) (small_one h1 h2 h3 h4) ?_;have I1:Inv X pins σ H {s with heap:=s.heap.push {cls:=.type "range",data:=.fields #[.int lo t,.int hi u,.int 1 v]},toks:=tk}:=I.kept fun b o e=>bi _ e
 refine⟨(s.heap.push {cls:=.type "range",data:=.fields #[.int lo t,.int hi u,.int 1 v]}).objs.size,[(s.heap.push {cls:=.type "range",data:=.fields #[.int lo t,.int hi u,.int 1 v]}).objs.size],_,_,H,rfl,
  I1.kept (t':=tk) fun b o e=>bi _ e,yM _ lo (hi - lo).toNat,?_,fun b hb=>?_,q⟩
 ·have e1:lo+((0:Nat):Int) * 1=lo :=by simp
  have e2:(((hi - lo).toNat:Nat):Int) - ((0:Nat):Int)=ut.Range.rangeSize lo hi 1 :=by rw[rangeSize_one];split<;>omega
  show IsRangeIter _ _ (lo+((0:Nat):Int) * 1) ((((hi - lo).toNat:Nat):Int) - ((0:Nat):Int)) 1;rw[e1,e2];exact io _ rfl
 ·have e:b=(s.heap.push {cls:=.type "range",data:=.fields #[.int lo t,.int hi u,.int 1 v]}).objs.size :=by simpa using hb
  subst e;exact I1.mL (bv _) (I1.hok.fresh (bv _))
def Fo (ta:TA):TI:=fun σ H R=>ta σ H fun vs H1=>∃j:Int,vs=[.int j] /\ -(2 ^ 62)<=j/\j<2 ^ 62/\R (Av 0 j.toNat) H1
def Fp (ta:TA):TI:=fun σ H R=>ta σ H fun vs H1=>∃i j:Int,vs=[.int i,.int j]/\(-(2 ^ 62)<=i/\i<2 ^ 62 /\ -(2 ^ 62)<=j/\j<2 ^ 62)/\R (Av i (j - i).toNat) H1
theorem Ax {a:hX}{ta:TA}{p pos:xp}(hg:Gl X "range") (hm:X.mg "range" = none) (ha:PA X [a] ta) (hs:starEach [a] X.env=[(false,eval a X.env)] :=by rfl):PI X tg (.Call (.Name "range" p) [a] [] pos) (Fo ta) :=by
 intro pins s σ H R I h;refine Call_ (gu I hg hm boot_range (Gc (thn (ha pos pins s σ H _ I h) fun us s1 ⟨vs,H1,I1,r1,q1⟩=>?_) hs rfl))
 obtain⟨j,e,q1,q2,q⟩:=q1;subst e;cases r1 with
 |cons r rr=>
  cases rr;obtain⟨t,rfl⟩:=r;exact call_range_1 (ug I1 (by omega) (by omega) q1 q2 (by simpa using q))
theorem Ay {a b:hX}{ta:TA}{p pos:xp}(hg:Gl X "range") (hm:X.mg "range" = none) (ha:PA X [a,b] ta) (hs:starEach [a,b] X.env=[(false,eval a X.env),(false,eval b X.env)] :=by rfl) (uh:starEach [b] X.env=[(false,eval b X.env)] :=by rfl) :
  PI X tg (.Call (.Name "range" p) [a,b] [] pos) (Fp ta) :=by
 intro pins s σ H R I h;refine Call_ (gu I hg hm boot_range (Gc (thn (ha pos pins s σ H _ I h) fun us s1 ⟨vs,H1,I1,r1,q1⟩=>?_) (by rw[hs,uh]) (by rw[uh];rfl)))
 obtain⟨i,j,e,⟨q1,q2,q3,q4⟩,q⟩:=q1;subst e;cases r1 with
 |cons r rr=>
  cases rr with
  |cons r' rr=>
   cases rr;obtain⟨t,rfl⟩:=r;obtain⟨t',rfl⟩:=r';exact call_range_2 (ug I1 q1 q2 q3 q4 q)
def HW (wi:TI) (g:TG) (tb:TS):TS:=fun D σ H=>wi σ H fun J H1=>∃W:Nat->Nat->St->Hp->Prop,(∃m,W 0 m σ H1)/\∀i m σ H,W i m σ H->
 (J.stop i H/\D.nx σ H)\/(J.go i H/\∃N:St->Hp->Prop,(∀aQ H',N aQ H'->∃m',m'<m/\W (i+1) m' aQ H')/\∀x H',J.yld i H x H'->g x σ H' fun pN H2=>tb {D with nx:=N,ct:=N,bk:=D.nx} pN H2)
def fw (fp:List al) (h:kt):List (al×lp):=fp.filterMap fun b=>(h.get? b).map fun o=>(b,o)
theorem cM {fp:List al}{h:kt}{b:al}{o:lp}(hb:b∈fp) (e:h.get? b=some o):(b,o)∈fw fp h:=Tk.mpr ⟨b,hb,by rw[e];rfl⟩
theorem si {fp:List al}{h:kt}{p:al×lp}(hp:p∈fw fp h):p.1∈fp/\h.get? p.1=some p.2 :=by
 obtain⟨b,hb,e⟩:=Tk.mp hp;cases q:h.get? b with
 |none=>rw[q]at e;cases e
 |some o=>
  rw[q]at e;have e':(b,o)=p:=kw e;subst e';exact⟨hb,q⟩
theorem Inv.pinned {pins:List (al×lp)}{σ:St}{H:Hp}{s:ar}{fp:List al}(I:Inv X pins σ H s) (hf:∀b∈fp,cF X pins H b) (ho:∀b∈fp,∃o,s.heap.get? b=some o/\∀v,o.data≠.cell v):Inv X (pins++fw fp s.heap) σ H s:=
 I.jz fun p hp=>(rc.mp hp).elim (fun z=>I.pin p (c8 _ z)) fun z=>by
  obtain⟨hb,e⟩:=si z;obtain⟨f0,f1,f2,_⟩:=hf p.1 hb;obtain⟨o,e',d⟩:=ho p.1 hb;rw[e]at e';cases e';exact⟨e,f0,f1,f2,d⟩
theorem Inv.du {pins pl:List (al×lp)}{σ:St}{H:Hp}{s:ar}(I:Inv X (pins++pl) σ H s):Inv X pins σ H s:=I.jz fun p hp=>I.pin p (c8 _ (wb _ hp))
theorem HX {iter:hX}{body:List tz}{wi:TI}{g:TG}{tb:TS}{pos:xp}(hp:Vk (model X.prog X.w) X.A X.env X.xe) (hc:X.calm=true) (hi:PI X tg iter wi) (hg:PG X tg g) (hb:gU X body tb)
  (hs:∀x,foldedSetIterable iter X.env x=pure x :=by intro _;rfl):PS X (.For tg iter body [] pos) (HW wi g tb) :=by
 refine⟨?_⟩;intro pins s σ H D I h;refine wpAny_For (thn (hi pins s σ H _ I h) fun v s1 h1=>thn h1 fun uf s2 h2=>?_) hs
 obtain⟨it,fp,tn,J,H2,e,I2,T,mM,f2,W,⟨m0,w0⟩,turn⟩:=h2;subst e;have stat:∀{H':Hp},(∀b∈fp,H' b=none)->∀b∈fp,cF X pins H' b:=fun hn b hb=>⟨hn b hb,(f2 b hb).2⟩
 refine codeAny_forLoop_any (fun n s'=>∃i aQ H',Inv X pins aQ H' s'/\tn i s'.heap/\(∀b∈fp,H' b=none)/\W i n aQ H') ?_ m0 ⟨0,σ,H2,I2,mM,fun b hb=>(f2 b hb).1,w0⟩
 rintro n s3 ⟨i,mx,H3,I3,sj,Az,w3⟩;rcases turn i n mx H3 w3 with ⟨stop,qn⟩|⟨go,N,hN,step⟩
 ·refine NH hp (thn (T.done X rfl rfl rfl hc i pins s3 mx H3 X.xe I3 (stat Az) sj stop) fun r s4 ⟨hr,I4⟩=>?_)
  subst hr;exact Up ⟨mx,H3,I4,qn⟩
 ·refine NH hp (thn (T.item X rfl rfl rfl hc i pins s3 mx H3 X.xe I3 (stat Az) sj go) fun r s4 ⟨u,hr,h4⟩=>?_)
  subst hr;refine NH hp (thn h4 fun _ s5 ⟨x,H5,I5,r5,y5,jF,uk⟩=>?_)
  have um:=I5.pinned (stat uk) (T.obj _ _ jF);refine NH hp (thn (hg _ s5 mx H5 x u _ um r5 (step x H5 y5)) fun _ s6 ⟨P8,H6,I6,q6⟩=>?_)
  refine NH hp (thn (hb _ s6 P8 H6 _ I6 q6) fun f s7 q7=>?_)
  have again:∀{mO:St} {H7:Hp},Inv X (pins++fw fp s5.heap) mO H7 s7->N mO H7->∃m,m<n/\∃i aQ H',Inv X pins aQ H' s7/\tn i s7.heap/\(∀b∈fp,H' b=none)/\W i m aQ H':=fun {mO H7} I7 n7=>by
   obtain⟨m',hm,w7⟩:=hN mO H7 n7;refine⟨m',hm,i+1,mO,H7,I7.du,T.keep _ _ _ jF fun b hb o e=>(I7.pin (b,o) (c8 _ (c8 _ (cM hb e)))).1,fun b hb=>?_,w7⟩
   obtain⟨o,e,d⟩:=T.obj _ _ jF b hb;exact(I7.pin (b,o) (c8 _ (c8 _ (cM hb e)))).2.1
  cases f with
  |next=>obtain⟨mO,H7,I7,n7⟩:=q7;exact again I7 n7
  |cont=>obtain⟨mO,H7,I7,n7⟩:=q7;exact again I7 n7
  |brk=>obtain⟨mO,H7,I7,q7⟩:=q7;exact⟨mO,H7,I7.du,q7⟩
  |ret v=>obtain⟨x7,mO,H7,I7,r7,q7⟩:=q7;exact⟨x7,mO,H7,I7.du,r7,q7⟩
end
abbrev R2:=V->V->Hp->VK->Prop
def OpR (X:Cx) (f:ap->ap->TQ ap) (r:R2):Prop:=
 ∀(pins:List (al×lp)) (s:ar) (σ:St) (H:Hp) (x y:V) (v u:ap) (Q:VK),Inv X pins σ H s->RelV x v->RelV y u->r x y H Q->
  wpAny (model X.prog X.w) X.A (f v u) (EP X pins σ Q) X.xe s
def UnR (X:Cx) (f:ap->TQ ap) (r:V->Hp->VK->Prop):Prop:=
 ∀(pins:List (al×lp)) (s:ar) (σ:St) (H:Hp) (x:V) (v:ap) (Q:VK),Inv X pins σ H s->RelV x v->r x H Q->
  wpAny (model X.prog X.w) X.A (f v) (EP X pins σ Q) X.xe s
def cw (X:Cx) (f:ap) (r:List V->Hp->VK->Prop):Prop:=
 ∀(pins:List (al×lp)) (s:ar) (σ:St) (H:Hp) (xs:List V) (us:List ap) (Q:VK),Inv X pins σ H s->Vals xs us->r xs H Q->
  wpAny (model X.prog X.w) X.A (call f us) (EP X pins σ Q) X.xe s
def OO (X:Cx) (r:V->Hp->(Bool->Hp->Prop)->Prop):Prop:=
 ∀(pins:List (al×lp)) (s:ar) (σ:St) (H:Hp) (x:V) (v:ap) (Q:Bool->Hp->Prop),Inv X pins σ H s->RelV x v->r x H Q->
  wpAny (model X.prog X.w) X.A (truthy v) (TP X pins σ Q) X.xe s
def AA (r:R2) (ta tb:TE):TE:=fun σ H Q=>ta σ H fun x H1=>tb σ H1 fun y H2=>r x y H2 Q
def P9 (r:V->Hp->VK->Prop) (ta:TE):TE:=fun σ H Q=>ta σ H fun x H1=>r x H1 Q
def rI (C:Int->Int->Prop) (g:Int->Int->V):R2:=fun x y H Q=>∃i j,x=.int i/\y=.int j/\C i j/\Q (g i j) H
def sk (g:Int->Int->V):R2:=fun x y H Q=>∃i j,x=.int i/\y=.int j/\Q (g i j) H
def rU (g:Int->V):V->Hp->VK->Prop:=fun x H Q=>∃i,x=.int i/\Q (g i) H
section
variable {X:Cx}{a b c:hX}{ta tb tc:TE}{pos:xp}
theorem DC (ha:PE X a ta) (hb:PE X b tb) {pins:List (al×lp)}{s:ar}{σ:St}{H:Hp}{R:V->V->Hp->Prop}(I:Inv X pins σ H s)
  (h:ta σ H fun x H1=>tb σ H1 fun y H2=>R x y H2) {Q:ap->ar->Prop} {f:ap->ap->TQ ap}
  (hf:∀v u s2 x y H2,Inv X pins σ H2 s2->RelV x v->RelV y u->R x y H2->wpAny (model X.prog X.w) X.A (f v u) Q X.xe s2) :
  wpAny (model X.prog X.w) X.A (eval a X.env) (fun v aw=>wpAny (model X.prog X.w) X.A (eval b X.env) (fun u mK=>wpAny (model X.prog X.w) X.A (f v u) Q X.xe mK) X.xe aw) X.xe s :=by
 refine thn (ha pins s σ H _ I h) fun v s1 ⟨x,H1,I1,r1,q1⟩=>?_
 refine thn (hb pins s1 σ H1 _ I1 q1) fun u s2 ⟨y,H2,I2,r2,q2⟩=>?_
 exact hf v u s2 x y H2 I2 r1 r2 q2
theorem LO {op:Operator}{r:R2}(ho:OpR X (binaryOp op) r) (ha:PE X a ta) (hb:PE X b tb):PE X (.BinOp a op b pos) (AA r ta tb) :=by
 refine⟨?_⟩;intro pins s σ H Q I h;exact wpAny_BinOp (DC ha hb I h fun v u s2 x y H2 I2 rx ry q=>ho pins s2 σ H2 x y v u Q I2 rx ry q)
theorem LQ {op:UnaryOp}{r:V->Hp->VK->Prop}(ho:UnR X (unaryOp op) r) (ha:PE X a ta):PE X (.UnaryOp op a pos) (P9 r ta) :=by
 refine⟨?_⟩;intro pins s σ H Q I h;exact UnaryOp_ (thn (ha pins s σ H _ I h) fun v s1 ⟨x,H1,I1,r1,q1⟩=>ho pins s1 σ H1 x v Q I1 r1 q1)
theorem Fq {f:ap->ap->TQ ap}{C:Int->Int->Prop}{g:Int->Int->Int}
  (rule:∀(i j:Int) (t u:Vl) (s:ar) (Q:ap->ar->Prop) (E:ap->ar->Prop),C i j->Q (.int (g i j) s.toks) {s with toks:=s.toks+1}->wpAny (model X.prog X.w) X.A (f (.int i t) (.int j u)) Q E s) :
  OpR X f (rI C fun i j=>.int (g i j)) :=by
 intro pins s σ H x y v u Q I rx ry h;obtain⟨i,j,rfl,rfl,hc,q⟩:=h;obtain⟨t,rfl⟩:=rx;obtain⟨t',rfl⟩:=ry;exact rule i j t t' s _ _ hc ⟨.int (g i j),H,I.tok _,⟨_,rfl⟩,q⟩
theorem HY {f:ap->ap->TQ ap}{g:Int->Int->Int}
  (rule:∀(i j:Int) (t u:Vl) (s:ar) (Q:ap->ar->Prop) (E:ap->ar->Prop),Q (.int (g i j) s.toks) {s with toks:=s.toks+1}->wpAny (model X.prog X.w) X.A (f (.int i t) (.int j u)) Q E s) :
  OpR X f (sk fun i j=>.int (g i j)) :=by
 intro pins s σ H x y v u Q I rx ry h;obtain⟨i,j,rfl,rfl,q⟩:=h;obtain⟨t,rfl⟩:=rx;obtain⟨t',rfl⟩:=ry;exact rule i j t t' s _ _ ⟨.int (g i j),H,I.tok _,⟨_,rfl⟩,q⟩
theorem DE {f:ap->ap->TQ ap}{g:Int->Int->Bool}
  (rule:∀(i j:Int) (t u:Vl) (s:ar) (Q:ap->ar->Prop) (E:ap->ar->Prop),Q (.bool (g i j)) s->wpAny (model X.prog X.w) X.A (f (.int i t) (.int j u)) Q E s) :
  OpR X f (sk fun i j=>.bl (g i j)) :=by
 intro pins s σ H x y v u Q I rx ry h;obtain⟨i,j,rfl,rfl,q⟩:=h;obtain⟨t,rfl⟩:=rx;obtain⟨t',rfl⟩:=ry;exact rule i j t t' s _ _ ⟨.bl (g i j),H,I,rfl,q⟩
def HZ (i j:Int):Prop:=0<j/\j<1073741824
def Ia (i j:Int):Prop:=0<=j/\j<=1000000/\i.natAbs<2 ^ 64
def yN (i j:Int):Prop:=(-(2 ^ 64)<i/\i<2 ^ 64)\/(-(2 ^ 64)<j/\j<2 ^ 64)
theorem yN.ok {i j:Int}(h:yN i j):IntMulOk i j :=by
 rcases h with ⟨h1,h2⟩|⟨h1,h2⟩
 ·exact .of_left (intBits_le_64 h1 h2)
 ·exact .of_right (intBits_le_64 h1 h2)
theorem Ib:OpR X (binaryOp .Add) (sk fun i j=>.int (i+j)):=HY fun _ _ _ _ _ _ _ q=>add_int q
theorem Ic:OpR X (binaryOp .Sub) (sk fun i j=>.int (i - j)):=HY fun _ _ _ _ _ _ _ q=>sub_int q
theorem Ie:OpR X (binaryOp .Mult) (rI yN fun i j=>.int (i * j)):=Fq fun _ _ _ _ _ _ _ hc q=>mul_int q hc.ok
theorem Gq:OpR X (binaryOp .FloorDiv) (rI HZ fun i j=>.int (i / j)):=Fq fun i j _ _ _ _ _ hc q=>by
 have h1:(0:Int)<j:=hc.1;have h2:j<1073741824:=hc.2;exact floordiv_int (by omega) (by rw[Int.fdiv_eq_ediv_of_nonneg i (by omega)];exact q) (.inl (PyProof.noPylong_small (by omega)))
theorem Ig:OpR X (binaryOp .Mod) (rI (fun _ j=>0<j) fun i j=>.int (i % j)):=Fq fun i j _ _ _ _ _ hc q=>by
 have h1:(0:Int)<j:=hc;exact mod_int' (by omega) (by rw[Int.fmod_eq_emod_of_nonneg i (by omega)];exact q)
theorem Ih:OpR X (binaryOp .Pow) (rI Ia fun i j=>.int (i ^ j.toNat)):=Fq fun _ _ _ _ _ _ _ hc q=>pow_int_small hc.1 hc.2.1 hc.2.2 q
theorem Qa {f:ap->TQ ap}{g:Int->Int}
  (rule:∀(i:Int) (t:Vl) (s:ar) (Q:ap->ar->Prop) (E:ap->ar->Prop),Q (.int (g i) s.toks) {s with toks:=s.toks+1}->wpAny (model X.prog X.w) X.A (f (.int i t)) Q E s) :
  UnR X f (rU fun i=>.int (g i)) :=by
 intro pins s σ H x v Q I rx h;obtain⟨i,rfl,q⟩:=h;obtain⟨t,rfl⟩:=rx;exact rule i t s _ _ ⟨.int (g i),H,I.tok _,⟨_,rfl⟩,q⟩
theorem Ii:UnR X (unaryOp .USub) (rU fun i=>.int (-i)):=Qa fun _ _ _ _ _ q=>neg_int q
end
def DF:V->V->Bool
 | .ao,.ao=>true | .ao,.int _=>true | .int _,.ao=>true | .ao,.bl _=>true | .bl _,.ao=>true | .ao,.str _=>true | .str _,.ao=>true
 | .int _,.int _=>true | .bl _,.bl _=>true | .str _,.str _=>true | .jD _,.jD _=>true
 | .int _,.str _=>true | .str _,.int _=>true | .bl _,.str _=>true | .str _,.bl _=>true
 |_,_=>false
def Qb:R2:=fun x y H Q=>DF x y=true/\Q (.bl (decide (x=y))) H
def Qc:R2:=fun x y H Q=>DF x y=true/\Q (.bl (!decide (x=y))) H
theorem xB {i j:Int}:decide (V.int i=V.int j)=(i==j) :=by
 rw[RS];simp
theorem AB {i j:Bool}:decide (V.bl i=V.bl j)=(i==j) :=by
 rw[RS];simp
theorem xC {i j:cb}:decide (V.str i=V.str j)=(i==j) :=by
 rw[RS];simp
theorem xD {i j:Array UInt8}:decide (V.jD i=V.jD j)=(i.toList==j.toList) :=by
 rw[RS];cases i;cases j;simp
section
variable {X:Cx}{a b c:hX}{ta tb tc:TE}{pos:xp}
theorem a8 {pins:List (al×lp)}{σ:St}{H:Hp}{s:ar}{Q:VK}{k k':Bool}(I:Inv X pins σ H s) (q:Q (.bl k) H) (e:k=k'):EP X pins σ Q (.bool k') s :=by
 subst e;exact⟨.bl k,H,I,rfl,q⟩
theorem LR:OpR X (compareOp .Eq) Qb :=by
 intro pins s σ H x y v u Q I rx ry h;obtain⟨hs,q⟩:=h;cases x with
 |ao=>
  cases rx;cases y with
  |ao=>cases ry;exact PySem.EqNone.eq_none_none (a8 I q (by simp))
  |bl j=>cases ry;exact PySem.EqNone.eq_none_bool (a8 I q (by simp))
  |int j=>obtain⟨t',rfl⟩:=ry;exact PySem.EqNone.eq_none_int (a8 I q (by simp))
  |str j=>obtain⟨t',rfl⟩:=ry;exact PySem.EqNone.eq_none_str (a8 I q (by simp))
  |_=>exact absurd (show false=true from hs) gc
 |bl i=>
  cases rx;cases y with
  |ao=>cases ry;exact PySem.EqNone.eq_bool_none (a8 I q (by simp))
  |bl j=>cases ry;exact eq_bool (a8 I q AB)
  |str j=>obtain⟨t',rfl⟩:=ry;exact PySem.EqMixed.eq_bool_str (a8 I q (by simp))
  |_=>exact absurd (show false=true from hs) gc
 |int i=>
  obtain⟨t,rfl⟩:=rx;cases y with
  |ao=>cases ry;exact PySem.EqNone.eq_int_none (a8 I q (by simp))
  |int j=>obtain⟨t',rfl⟩:=ry;exact eq_int (a8 I q xB)
  |str j=>obtain⟨t',rfl⟩:=ry;exact PySem.EqMixed.eq_int_str (a8 I q (by simp))
  |_=>exact absurd (show false=true from hs) gc
 |str i=>
  obtain⟨t,rfl⟩:=rx;cases y with
  |ao=>cases ry;exact PySem.EqNone.eq_str_none (a8 I q (by simp))
  |bl j=>cases ry;exact PySem.EqMixed.eq_str_bool (a8 I q (by simp))
  |int j=>obtain⟨t',rfl⟩:=ry;exact PySem.EqMixed.eq_str_int (a8 I q (by simp))
  |str j=>obtain⟨t',rfl⟩:=ry;exact eq_str (a8 I q xC)
  |_=>exact absurd (show false=true from hs) gc
 |jD i=>
  obtain⟨t,rfl⟩:=rx;cases y with
  |jD j=>obtain⟨t',rfl⟩:=ry;exact PySem.W.eq_bytes (a8 I q xD)
  |_=>exact absurd (show false=true from hs) gc
 |_=>cases y<;>exact absurd (show false=true from hs) gc
theorem LU:OpR X (compareOp .NotEq) Qc :=by
 intro pins s σ H x y v u Q I rx ry h;obtain⟨hs,q⟩:=h;cases x with
 |ao=>
  cases rx;cases y with
  |ao=>cases ry;exact PySem.EqNone.ne_none_none (a8 I q (by simp))
  |bl j=>cases ry;exact PySem.EqNone.ne_none_bool (a8 I q (by simp))
  |int j=>obtain⟨t',rfl⟩:=ry;exact PySem.EqNone.ne_none_int (a8 I q (by simp))
  |str j=>obtain⟨t',rfl⟩:=ry;exact PySem.EqNone.ne_none_str (a8 I q (by simp))
  |_=>exact absurd (show false=true from hs) gc
 |bl i=>
  cases rx;cases y with
  |ao=>cases ry;exact PySem.EqNone.ne_bool_none (a8 I q (by simp))
  |bl j=>cases ry;exact ne_bool (a8 I q (congrArg not AB))
  |str j=>obtain⟨t',rfl⟩:=ry;exact PySem.EqMixed.ne_bool_str (a8 I q (by simp))
  |_=>exact absurd (show false=true from hs) gc
 |int i=>
  obtain⟨t,rfl⟩:=rx;cases y with
  |ao=>cases ry;exact PySem.EqNone.ne_int_none (a8 I q (by simp))
  |int j=>obtain⟨t',rfl⟩:=ry;exact ne_int (a8 I q (congrArg not xB))
  |str j=>obtain⟨t',rfl⟩:=ry;exact PySem.EqMixed.ne_int_str (a8 I q (by simp))
  |_=>exact absurd (show false=true from hs) gc
 |str i=>
  obtain⟨t,rfl⟩:=rx;cases y with
  |ao=>cases ry;exact PySem.EqNone.ne_str_none (a8 I q (by simp))
  |bl j=>cases ry;exact PySem.EqMixed.ne_str_bool (a8 I q (by simp))
  |int j=>obtain⟨t',rfl⟩:=ry;exact PySem.EqMixed.ne_str_int (a8 I q (by simp))
  |str j=>obtain⟨t',rfl⟩:=ry;exact ne_str (a8 I q (congrArg not xC))
  |_=>exact absurd (show false=true from hs) gc
 |jD i=>
  obtain⟨t,rfl⟩:=rx;cases y with
  |jD j=>obtain⟨t',rfl⟩:=ry;exact PySem.W.ne_bytes (a8 I q (congrArg not xD))
  |_=>exact absurd (show false=true from hs) gc
 |_=>cases y<;>exact absurd (show false=true from hs) gc
theorem LV:OpR X (compareOp .Lt) (sk fun i j=>.bl (decide (i<j))):=DE fun _ _ _ _ _ _ _ q=>lt_int q
theorem LW:OpR X (compareOp .LtE) (sk fun i j=>.bl (decide (i<=j))):=DE fun _ _ _ _ _ _ _ q=>le_int q
theorem LX:OpR X (compareOp .Gt) (sk fun i j=>.bl (decide (j<i))):=DE fun _ _ _ _ _ _ _ q=>gt_int q
theorem AD:OpR X (compareOp .In) (fun x y H Q=>∃i j,x=.str i/\y=.str j/\Q (.bl (!(LB j i 0 j.length 1).isEmpty)) H) :=by
 intro pins s σ H x y v u Q I rx ry h;obtain⟨i,j,rfl,rfl,q⟩:=h;obtain⟨t,rfl⟩:=rx;obtain⟨t',rfl⟩:=ry;exact in_str (a8 I q rfl)
theorem bW (b:hX) {op:S6}(h:op≠.In :=by decide) (h2:op≠.NotIn :=by decide):behindInMarks op b=false :=by
 have e1:(op==S6.In)=false :=by cases op<;>first|rfl|exact absurd rfl h
 have e2:(op==S6.NotIn)=false :=by cases op<;>first|rfl|exact absurd rfl h2
 cases b<;>simp[behindInMarks,e1,e2]
theorem Gr {op:S6}{r:R2}(ho:OpR X (compareOp op) r) (ha:PE X a ta) (hb:PE X b tb) (hm:behindInMarks op b=false):PE X (.Compare a [op] [b] pos) (AA r ta tb) :=by
 refine⟨?_⟩;intro pins s σ H Q I h;exact wpAny_Compare1 (DC ha hb I h fun v u s2 x y H2 I2 rx ry q=>ho pins s2 σ H2 x y v u Q I2 rx ry q) hm
def yO (t:TE):TT:=fun σ H Q=>t σ H fun x H'=>∃k,x=.bl k/\Q k H'
theorem Gs {op:S6}{r:R2}(ho:OpR X (compareOp op) r) (ha:PE X a ta) (hb:PE X b tb) (hm:behindInMarks op b=false):PT X (.Compare a [op] [b] pos) (yO (AA r ta tb)) :=by
 refine⟨?_⟩;intro pins s σ H Q I h;refine wpAny_isTrue_Compare1 (thn (ha pins s σ H _ I h) fun v s1 ⟨x,H1,I1,r1,q1⟩=>thn (hb pins s1 σ H1 _ I1 q1) fun u s2 ⟨y,H2,I2,r2,q2⟩=>
  thn (ho pins s2 σ H2 x y v u _ I2 r1 r2 q2) fun c s3 ⟨z,H3,I3,r3,k,e,q3⟩=>?_) hm
 subst e;cases r3;exact wP ⟨H3,I3,q3⟩
def uo (r r':R2) (ta tb tc:TE):TE:=fun σ H Q=>ta σ H fun x H1=>tb σ H1 fun y H2=>r x y H2 fun z H3=>∃k,z=.bl k /\
 (if k=true then tc σ H3 fun w' H4=>r' y w' H4 Q else Q (.bl false) H3)
theorem DG {op jG:S6}{r r':R2}(ho:OpR X (compareOp op) r) (fq:OpR X (compareOp jG) r') (ha:PE X a ta) (hb:PE X b tb) (hc:PE X c tc)
  (hm:lastMarks [op,jG] [b,c]=false :=by with_unfolding_all rfl):PE X (.Compare a [op,jG] [b,c] pos) (uo r r' ta tb tc) :=by
 refine⟨?_⟩;intro pins s σ H Q I h;refine Compare_chain (thn (ha pins s σ H _ I h) fun v s1 ⟨x,H1,I1,r1,q1⟩=>chain_link (thn (hb pins s1 σ H1 _ I1 q1) fun u s2 ⟨y,H2,I2,r2,q2⟩=>
  thn (ho pins s2 σ H2 x y v u _ I2 r1 r2 q2) fun d s3 ⟨z,H3,I3,r3,k,e,q3⟩=>?_)) hm
 subst e;cases r3;refine wP ?_;cases k with
 |false=>exact ite_ff ⟨.bl false,H3,I3,rfl,q3⟩
 |true=>exact ite_tt (chain_last (thn (hc pins s3 σ H3 _ I3 q3) fun w' s4 ⟨z',H4,I4,r4,q4⟩=>fq pins s4 σ H4 y z' u w' Q I4 r2 r4 q4))
theorem DH {op jG:S6}{r r':R2}(ho:OpR X (compareOp op) r) (fq:OpR X (compareOp jG) r') (ha:PE X a ta) (hb:PE X b tb) (hc:PE X c tc)
  (hm:lastMarks [op,jG] [b,c]=false :=by with_unfolding_all rfl):PT X (.Compare a [op,jG] [b,c] pos) (yO (uo r r' ta tb tc)) :=by
 refine⟨?_⟩;intro pins s σ H Q I h;refine isTrue_chain (thn (ha pins s σ H _ I h) fun v s1 ⟨x,H1,I1,r1,q1⟩=>test_link (thn (hb pins s1 σ H1 _ I1 q1) fun u s2 ⟨y,H2,I2,r2,q2⟩=>
  thn (ho pins s2 σ H2 x y v u _ I2 r1 r2 q2) fun d s3 ⟨z,H3,I3,r3,k,e,q3⟩=>?_)) hm
 subst e;cases r3;refine wP ?_;cases k with
 |false=>
  obtain⟨k',e',q'⟩:=q3;cases e';exact ite_ff ⟨H3,I3,q'⟩
 |true=>
  refine ite_tt (test_last (thn (hc pins s3 σ H3 _ I3 q3) fun w' s4 ⟨z',H4,I4,r4,q4⟩=>thn (fq pins s4 σ H4 y z' u w' _ I4 r2 r4 q4) fun d' s5 ⟨z2,H5,I5,r5,k2,e2,q5⟩=>?_))
  subst e2;cases r5;exact wP ⟨H5,I5,q5⟩
def OQ (K:bn) (x:V) (H:Hp) (k:Bool):Prop:=
 match x with
 | .ao=>k=false
 | .bl b=>k=b
 | .int i=>k=(i != 0)
 | .str y=>y.length<=sizeLine/\k=((y.length:Int) != 0)
 | .jD y=>y.size<=sizeLine/\k=((y.size:Int) != 0)
 | .ref p=>(∃xs,bU K H p xs/\k = !xs.isEmpty)\/(∃xs,dr K H p xs/\k = !xs.isEmpty)\/∃aK,H p=some (.dK aK)/\k = !aK.isEmpty
 |_=>False
theorem yP {κ:Type}{aK:List (κ×V)}{vs:List (κ×ap)}(r:KV aK vs):(!vs.isEmpty) = !aK.isEmpty :=by
 cases r<;>rfl
theorem pO {xs:List V}{its:List ap}(r:Vals xs its):(!its.toArray.isEmpty) = !xs.isEmpty :=by
 cases r<;>simp
theorem kY:(sizeLine:Nat)<2 ^ 63 :=by rw[JJ];decide
theorem Qd:OO X (fun x H Q=>∃k,OQ X.K x H k/\Q k H) :=by
 intro pins s σ H x v Q I rx h;obtain⟨k,e,q⟩:=h;have hl:=kY;have hs:sizeLine=16777216:=JJ;cases x with
 |ao=>
  cases rx;have e':k=false:=e;subst e';exact truthy_none ⟨H,I,q⟩
 |bl b=>
  cases rx;have e':k=b:=e;subst e';exact wP ⟨H,I,q⟩
 |int i=>
  obtain⟨t,rfl⟩:=rx;have e':k=(i != 0):=e;subst e';exact PySem.P.truthy_int ⟨H,I,q⟩
 |str y=>
  obtain⟨t,rfl⟩:=rx;obtain⟨hy,e'⟩:y.length<=sizeLine/\k=((y.length:Int) != 0):=e;subst e';exact PySem.P.truthy_str (by omega) ⟨H,I.tok _,q⟩
 |jD y=>
  obtain⟨t,rfl⟩:=rx;obtain⟨hy,e'⟩:y.size<=sizeLine/\k=((y.size:Int) != 0):=e;subst e';exact PySem.W.truthy_bytes (by omega) ⟨H,I.tok _,q⟩
 |ref p=>
  cases rx;have e':(∃xs,bU X.K H p xs/\k = !xs.isEmpty)\/(∃xs,dr X.K H p xs/\k = !xs.isEmpty)\/∃aK,H p=some (.dK aK)/\k = !aK.isEmpty:=e;rcases e' with ⟨xs,hx,e'⟩|⟨xs,hx,e'⟩|⟨aK,hx,e'⟩
  ·subst e';obtain⟨its,r,pl,hz⟩:=I.list hx;have hlen:=r.length;exact wpAny_truthy_list pl.isList (by simp only[dL];omega) ⟨H,I.tok _,by rw[pO r];exact q⟩
  ·subst e';obtain⟨its,r,pl,hz⟩:=I.tuple hx;have hlen:=r.length;exact truthy_tuple pl (by simp only[dL];omega) ⟨H,I.tok _,by rw[pO r];exact q⟩
  ·subst e';obtain⟨hz,hS,vs,r,m⟩:aK.length<=sizeLine/\(p==sysModules)=false/\∃vs,KV aK vs/\s.heap.DictOf (q9 X.prog X.w) p vs:=I.hok p _ hx;have hlen:aK.length=vs.length:=P3 r;exact wpAny_truthy_dict hS m (by omega) ⟨H,I.tok _,by rw[yP r];exact q⟩
 |_=>exact(show False from e).elim
theorem vals1 {x:V}{us:List ap}(r:Vals [x] us):∃u,us=[u]/\RelV x u :=by
 cases r with
 |cons r1 r2=>cases r2;exact⟨_,rfl,r1⟩
theorem vals2 {x y:V}{us:List ap}(r:Vals [x,y] us):∃u w',us=[u,w']/\RelV x u/\RelV y w':=by
 cases r with
 |cons r1 r2=>
  cases r2 with
  |cons r3 r4=>cases r4;exact⟨_,_,rfl,r1,r3⟩
theorem DI:cw X (.builtin "abs") (fun xs H Q=>∃i,xs=[.int i]/\Q (.int (if i<0 then -i else i)) H) :=by
 intro pins s σ H xs us Q I r h;obtain⟨i,rfl,q⟩:=h;obtain⟨u,rfl,t,rfl⟩:=vals1 r;exact call_abs_int fun u tk=>⟨.int (if i<0 then -i else i),H,I.tok _,⟨_,rfl⟩,q⟩
theorem AF (hc:X.calm=true):cw X (.builtin "max") (fun xs H Q=>∃i j,xs=[.int i,.int j]/\Q (.int (if j > i then j else i)) H) :=by
 intro pins s σ H xs us Q I r h;obtain⟨i,j,rfl,q⟩:=h;obtain⟨u,w',rfl,⟨t,rfl⟩,⟨t',rfl⟩⟩:=vals2 r;refine max_two_ints (I.ok.hd hc) fun h' tk k=>⟨_,H,I.kept k,?_,q⟩
 by_cases hj:j > i
 ·rw[if_pos hj,if_pos hj];exact⟨_,rfl⟩
 ·rw[if_neg hj,if_neg hj];exact⟨_,rfl⟩
theorem AG (hc:X.calm=true):cw X (.builtin "min") (fun xs H Q=>∃i j,xs=[.int i,.int j]/\Q (.int (if j<i then j else i)) H) :=by
 intro pins s σ H xs us Q I r h;obtain⟨i,j,rfl,q⟩:=h;obtain⟨u,w',rfl,⟨t,rfl⟩,⟨t',rfl⟩⟩:=vals2 r;refine min_two_ints (I.ok.hd hc) fun h' tk k=>⟨_,H,I.kept k,?_,q⟩
 by_cases hj:j<i
 ·rw[if_pos hj,if_pos hj];exact⟨_,rfl⟩
 ·rw[if_neg hj,if_neg hj];exact⟨_,rfl⟩
def Ij (K:bn) (x:V) (H:Hp) (n:Nat):Prop:=
 match x with
 | .str y=>y.length<=sizeLine/\n=y.length
 | .jD y=>y.size<=sizeLine/\n=y.size
 | .ref p=>(∃xs,bU K H p xs/\n=xs.length)\/∃xs,dr K H p xs/\n=xs.length
 |_=>False
theorem DJ:cw X (.builtin "len") (fun xs H Q=>∃x n,xs=[x]/\Ij X.K x H n/\Q (.int n) H) :=by
 intro pins s σ H xs us Q I r h;obtain⟨x,n,rfl,e,q⟩:=h;obtain⟨u,rfl,rx⟩:=vals1 r;have hl:=kY;have hs:sizeLine=16777216:=JJ;cases x with
 |str y=>
  obtain⟨t,rfl⟩:=rx;obtain⟨hy,e'⟩:y.length<=sizeLine/\n=y.length:=e;subst e';exact len_str (by omega) ⟨.int _,H,I.tok _,⟨_,rfl⟩,q⟩
 |jD y=>
  obtain⟨t,rfl⟩:=rx;obtain⟨hy,e'⟩:y.size<=sizeLine/\n=y.size:=e;subst e';exact PySem.W.len_bytes (by omega) ⟨.int _,H,I.tok _,⟨_,rfl⟩,q⟩
 |ref p=>
  cases rx;have e':(∃xs,bU X.K H p xs/\n=xs.length)\/∃xs,dr X.K H p xs/\n=xs.length:=e;rcases e' with ⟨xs,hx,e'⟩|⟨xs,hx,e'⟩
  ·subst e';obtain⟨its,r',pl,hz⟩:=I.list hx;have hlen:=r'.length;exact Calls.call_len_list pl.isList (by simp only[dL];omega) ⟨.int xs.length,H,I.tok _,⟨_,by simp only[dL];rw[hlen]⟩,q⟩
  ·subst e';obtain⟨its,r',pl,hz⟩:=I.tuple hx;have hlen:=r'.length;exact len_tuple pl (by simp only[dL];omega) ⟨.int xs.length,H,I.tok _,⟨_,by simp only[dL];rw[hlen]⟩,q⟩
 |_=>exact(show False from e).elim
end
structure DK (h:kt) (x dx C:al) (mA:cb->Option ap):Prop where
 obj:h.get? x=some (Vj C dx)
 ns:h.Ns1 dx mA
 ne:dx≠x
theorem AH {h:kt}{dx:al}{mA:cb->Option ap}(n:h.Ns1 dx mA):∃od,h.get? dx=some od/\∀name,PySem.W.lookIn name od=some (mA name) :=by
 obtain⟨o,es,ep,ho,hd,hk,_,hm⟩:=n;refine⟨o,ho,fun name=>?_⟩
 have e:=hm name;unfold nsFind findBy at e;rw[<- Array.find?_toList]at e;unfold PySem.W.lookIn;rw[hd];dsimp only;split
 ·rename_i y q;rw[q]at e;exact congrArg some e
 ·rename_i q;rw[q]at e;have a:es.toList.any (·.refKey)=false :=by
   rw[List.any_eq_false];intro y hy;obtain⟨z,t,yQ⟩:=hk y (Uq.mp hy);simp[DictEntry.refKey,yQ]
  have a':¬ es.toList.any (·.refKey)=true :=by rw[a];exact gc
  rw[if_neg a'];exact congrArg some e
theorem DK.look {h:kt}{x dx C:al}{mA:cb->Option ap}(I:DK h x dx C mA):∃od,PySem.W.InstAt h x (Vj C dx) C (some od)/\∀name,PySem.W.lookIn name od=some (mA name):=
 let ⟨od,ho,hl⟩:=AH I.ns
 ⟨od,⟨I.obj,rfl,rfl,ho⟩,hl⟩
section
variable {P:i4}{w:i8}{H H':Hp}{h h':kt}{a C dx:al}{fs P4:List (cb×V)}
theorem Gu (hok:dI P w H h) (e:H a=some (.ins C dx fs)):∃mA,DK h a dx C mA/\(∀f,Dr (fs.lookup f) (mA f))/\PySem.Within mA (fs.map (·.1))/\fs.length<=1000/\H dx=some (.own a) :=by
 obtain⟨d,z,ne,ob,mA,n,r,q⟩:=(show bz P w H h a (.ins C dx fs) from hok a _ e);exact⟨mA,⟨ob,n,ne⟩,r,q,z,d⟩
end
structure Ik (K:bn) (C:al):Prop where
 pg:PySem.W.plainGet K C cb.empty=true
 hd:PySem.W.hasDictIn K C=true
 po:PySem.W.plainOver K C=true
 sa:PySem.W.findIn K (.ref C) "__setattr__" = some (some (.builtin "object.__setattr__"))
theorem Ik.get {K:bn}{C:al}(c:Ik K C) (f:cb):PySem.W.plainGet K C f=true:=c.pg
section
variable {X:Cx}{pins:List (al×lp)}{σ:St}{H:Hp}{s:ar}{A:ma}{E:ap->ar->Prop}{Q:ap->ar->Prop}{c:ap}{b:Bool}
inductive gN (K:bn) (H:Hp):V->ap->Prop where
 |ao:gN K H .ao (.type "NoneType")
 |bl (x:Bool):gN K H (.bl x) (.type "bool")
 |int (i:Int):gN K H (.int i) (.type "int")
 |str (x:cb):gN K H (.str x) (.type "str")
 |xr (x:UInt64):gN K H (.xr x) (.type "float")
 |lst {a:al} {xs:List V} (e:H a=some (.lst xs)):gN K H (.ref a) (.type "list")
 |f9 {a:al} {o:lp} {xs:List V} (e:H a=some (.f9 o (.lst xs))):gN K H (.ref a) (.type "list")
 |tup {a:al} {xs:List V} (e:H a=some (.tup xs)):gN K H (.ref a) (.type "tuple")
 |dK {a:al} {aK:List (Key×V)} (e:H a=some (.dK aK)):gN K H (.ref a) (.type "dict")
 |dT {a:al} {aK:List (List Key×V)} (e:H a=some (.dT aK)):gN K H (.ref a) (.type "dict")
 |ins {a C dx:al} {fs:List (cb×V)} (e:H a=some (.ins C dx fs)) (cl:Ik K C) (ha:PySem.W.findIn K (.ref C) "__class__" = some (some (.builtin "object.__class__")))
   (hn:PySem.W.specialIn K (.builtin "object.__class__") "__get__" = some (some (.builtin "getset_descriptor.__get__"))) (Nk:PySem.W.takesIn K (.builtin "object.__class__")=some true)
   (hm:PySem.W.mroIn K C (.type "object")=some true):gN K H (.ref a) (.ref C)
theorem AI {x:V}{u t:ap}(I:Inv X pins σ H s) (rx:RelV x u) (ty:gN X.K H x t) (e:UI X.K t c=some b) (h:∀tk,Q (.bool b) {s with toks:=tk}) :
  wpAny (model X.prog X.w) A (call (.builtin "isinstance") [u,c]) Q E s :=by
 cases ty with
 |ao=>cases (show u=v6 from rx);exact Db PySem.W.kitx_none I.iP U9 e (fun z=>nomatch z) h
 |bl y=>cases (show u=Um y from rx);exact Db PySem.W.kitx_bool I.iP U9 e (fun z=>nomatch z) h
 |int i=>obtain⟨t,q⟩:=(show ∃t,u=VC i t from rx);cases q;exact Db PySem.W.kitx_int I.iP U9 e (fun z=>nomatch z) h
 |str y=>obtain⟨t,q⟩:=(show ∃t,u=VD y t from rx);cases q;exact Db PySem.W.kitx_str I.iP U9 e (fun z=>nomatch z) h
 |xr y=>obtain⟨t,q⟩:=(show ∃t,u=ap.float y t from rx);cases q;exact Db PySem.W.kitx_float I.iP U9 e (fun z=>nomatch z) h
 | @lst a xs ea=>
  cases (show u=xw a from rx);obtain⟨_,_,n,_,h1⟩:=(show bz X.prog X.w H s.heap a (.lst xs) from I.hok a _ ea);exact Db PySem.W.kitx_list I.iP ⟨_,h1,rfl⟩ e (fun z=>nomatch z) h
 | @f9 a ob xs ea=>
  cases (show u=xw a from rx);obtain⟨_,_,_,n,_,h1⟩:=(show bz X.prog X.w H s.heap a (.f9 ob (.lst xs)) from I.hok a _ ea);exact Db PySem.W.kitx_list I.iP ⟨_,h1,rfl⟩ e (fun z=>nomatch z) h
 | @tup a xs ea=>
  cases (show u=xw a from rx);obtain⟨_,_,_,p⟩:=(show bz X.prog X.w H s.heap a (.tup xs) from I.hok a _ ea);obtain⟨o,h1,h2,_⟩:=p;exact Db PySem.W.kitx_tuple I.iP ⟨o,h1,h2⟩ e (fun z=>nomatch z) h
 | @dK a aK ea=>
  cases (show u=xw a from rx);obtain⟨_,_,vs,_,p⟩:=(show bz X.prog X.w H s.heap a (.dK aK) from I.hok a _ ea);obtain⟨o,es,ep,h1,h2,_⟩:=p;exact Db PySem.W.kitx_dict I.iP ⟨o,h1,h2.1⟩ e (fun z=>nomatch z) h
 | @dT a aK ea=>
  cases (show u=xw a from rx);obtain⟨_,_,xs,_,o,es,ep,h1,h2,_⟩:=(show bz X.prog X.w H s.heap a (.dT aK) from I.hok a _ ea);exact Db PySem.W.kitx_dict I.iP ⟨o,h1,h2.1⟩ e (fun z=>nomatch z) h
 | @ins a C dx fs ea cl ha hn Nk hm=>
  cases (show u=xw a from rx);obtain⟨mA,O,_⟩:=Gu I.hok ea;obtain⟨od,J,_⟩:=O.look;exact Db (PySem.W.kitx_own (cl.get _) cl.hd ha hn Nk hm) I.iP J e (fun z=>nomatch z) h
end
structure bX (k:Nat) (A:ma):Prop where
 hd:A.handled=none
 dp:A.depth+3 * k+5<recursionLimit
 un:A.units+16 * k+200<cLine
theorem bX.mono {j k:Nat}{A:ma}(r:bX k A) (h:j<=k):bX j A:=⟨r.hd,by have:=r.dp;omega,by have:=r.un;omega⟩
theorem bX.deeper {k:Nat}{A:ma}(r:bX (k+1) A) (env:OR):bX k (A.deeper env):=
 ⟨r.hd,by have:=r.dp;show A.depth+1+3 * k+5<_;omega,by have:=r.un;show A.units+3+16 * k+200<_;omega⟩
theorem bX.depth {k:Nat}{A:ma}(r:bX k A):A.depth<recursionLimit :=by have:=r.dp;omega
theorem bX.units {k:Nat}{A:ma}(r:bX k A):A.units+64<cLine :=by have:=r.un;omega
def OS:TA:=fun _ H Q=>Q [] H
def LY (ta:TE) (tr:TA):TA:=fun σ H Q=>ta σ H fun x H1=>tr σ H1 fun xs H2=>Q (x::xs) H2
section
variable {X:Cx}{e:hX}{es:List hX}{te:TE}{t:TA}{pos:xp}
theorem Il:PA X [] OS:=⟨fun _ _ _ _ H Q I h=>Op ⟨[],H,I,.nil,h⟩⟩
theorem Gv (ha:PE X e te) (hr:PA X es t) (hs:starEach (e::es) X.env=(false,eval e X.env)::starEach es X.env :=by rfl):PA X (e::es) (LY te t) :=by
 refine⟨?_⟩;intro pos pins s σ H Q I h;rw[hs];show wpAny _ _ (spliced ((false,eval e X.env)::backTo pos (starEach es X.env))) _ _ s;refine Nd (thn (ha pins s σ H _ I h) fun u s1 ⟨x,H1,I1,r1,q1⟩=>?_)
 exact thn (hr pos pins s1 σ H1 _ I1 q1) fun us s2 ⟨xs,H2,I2,r2,q2⟩=>⟨x::xs,H2,I2,.cons r1 r2,q2⟩
def OT (t:TA):TE:=fun σ H Q=>t σ H fun xs H1=>xs.length<=sizeLine/\∀p,H1 p=none->Q (.ref p) (upd H1 p (.tup xs))
def OU (t:TA):TE:=fun σ H Q=>t σ H fun xs H1=>xs.length<=sizeLine/\∀p,H1 p=none->Q (.ref p) (upd H1 p (.lst xs))
theorem Im {x1}(h:PA X es t):PE X (.Tuple es x1 pos) (OT t) :=by
 refine⟨?_⟩;intro pins s σ H Q I hq;refine wpAny_Tuple_spliced (thn (h pos pins s σ H _ I hq) fun us s1 ⟨xs,H1,I1,r,z,q⟩=>⟨by rw[<- r.length];exact z,?_⟩)
 have hf:H1 s1.heap.objs.size=none:=I1.hok.fresh (bv _);refine⟨.ref s1.heap.objs.size,upd H1 s1.heap.objs.size (.tup xs),I1.laid (t':=s1.toks) (fun b u e=>bi _ e) (bv _) ?_,rfl,q _ hf⟩
 exact⟨z,us,r,⟨_,io _ rfl,rfl,_,rfl,rfl⟩⟩
theorem AJ (h:PA X es t):PE X (.List es pos) (OU t) :=by
 refine⟨?_⟩;intro pins s σ H Q I hq;refine wpAny_List_spliced (thn (h pos pins s σ H _ I hq) fun us s1 ⟨xs,H1,I1,r,z,q⟩=>⟨by rw[<- r.length];exact z,?_⟩)
 have hf:H1 s1.heap.objs.size=none:=I1.hok.fresh (bv _);refine⟨.ref s1.heap.objs.size,upd H1 s1.heap.objs.size (.lst xs),I1.laid (t':=s1.toks) (fun b u e=>bi _ e) (bv _) ?_,rfl,q _ hf⟩
 exact⟨z,us,0,r,io _ rfl⟩
end
abbrev Sp:=List V->Hp->VK->XK->Prop
abbrev kZ:=List OR->Hp->ar->XK->ap->ar->Prop
structure yR (P:i4) (w:i8) (K:bn) (mg:cb->Option ap) (base:kt) (A:ma) (outer:List OR) (s:ar) (H:Hp):Prop where
 frames:A.frames=some outer
 mod:Mod K mg base
 bs:∀b o,base.get? b=some o->s.heap.get? b=some o/\H b=none
 bsz:base.objs.size<=s.heap.objs.size
 funs:s.heap.FunFrames base outer
 frf:∀b∈gr outer,H b=none
 hok:dI P w H s.heap
 bare:Vv s.gens
def CE (outer:List OR) (P:i4) (w:i8) (H:Hp) (s:ar) (Q:VK) (u:ap) (s':ar):Prop:=
 ∃v H',s'.os=s.os/\Gn s.gens.size s'.gens/\Un (gr outer) [] H H' s.heap s'.heap/\dI P w H' s'.heap/\RelV v u/\Q v H'
def CR (CX:kZ) (outer:List OR) (P:i4) (w:i8) (H:Hp) (s:ar) (Q:VK) (E:XK) (r:TR) (s':ar):Prop:=
 match r with
 | .ok (.ret u)=>CE outer P w H s Q u s'
 | .ok _=>False
 | .error e=>CX outer H s E e s'
structure FnOk (P:i4) (w:i8) (K:bn) (mg:cb->Option ap) (base:kt) (CX:kZ) (k:Nat) (f:al) (fd:mo) (ps:List cb) (sp:Sp):Prop where
 len:∀vs H Q E,sp vs H Q E->vs.length=ps.length
 run:∀(A:ma) (outer:List OR) (s:ar) (H:Hp) (args:Args) (us:List ap) (vs:List V) (Q:VK) (E:XK),bX k A->yR P w K mg base A outer s H->Vb s fd args (ps.zip us)->Vals vs us->sp vs H Q E->
  codeAny (model P w) A (.call (.ref f) args) (CR CX outer P w H s Q E) s
theorem FnOk.imp {P:i4}{w:i8}{K:bn}{mg:cb->Option ap}{base:kt}{CX:kZ}{k:Nat}{f:al}{fd:mo}{ps:List cb}{sp Nm:Sp}(F:FnOk P w K mg base CX k f fd ps sp)
  (h:∀vs H Q E,Nm vs H Q E->sp vs H Q E):FnOk P w K mg base CX k f fd ps Nm:=
 ⟨fun vs H Q E q=>F.len vs H Q E (h _ _ _ _ q),fun A outer s H args us vs Q E hr he hb hv hs=>F.run A outer s H args us vs Q E hr he hb hv (h _ _ _ _ hs)⟩
section
variable {X:Cx}{pins:List (al×lp)}{σ:St}{H:Hp}{s s':ar}
theorem Inv.OV (I:Inv X pins σ H s):yR X.prog X.w X.K X.mg X.base X.A X.stack s H:=
 ⟨I.ok.frames,I.ok.mod,I.bs,wv I.ok.bsz I.sz,I.stack,I.rg,I.hok,I.bare.1⟩
theorem Inv.after {Q:VK}{u:ap}(I:Inv X pins σ H s) (h:CE X.stack X.prog X.w H s Q u s'):EP X pins σ Q u s':=by
 obtain⟨v,H',os,bare,un,hok,r,q⟩:=h;obtain⟨hh,g,d,t,Fs⟩:=s';obtain rfl:Fs=s.os:=os;exact⟨v,H',I.call (h':=hh) (g':=g) (d':=d) (t':=t) (ch:=[]) un hok bare (fun b z=>absurd z (by simp)),r,q⟩
end
def Ft (sp:Sp) (sm:List V) (E:XK) (t:TA):TE:=fun σ H Q=>t σ H fun vs H1=>sp (vs++sm) H1 Q E
def Binds (K:bn) (fd:mo) (ps:List cb) (ds:List ap):Prop:=
 ∀(s:ar) (us:List ap),K.In s.heap->(us++ds).length=ps.length->Vb s fd ⟨us,[]⟩ (ps.zip (us++ds))
theorem Binds.all {K:bn}{fd:mo}{ps:List cb}(h:∀us:List ap,us.length=ps.length->bindArgs fd ⟨us,[]⟩=pure (ps.zip us)):Binds K fd ps []:=fun s us _ hl=>by
 rw[EQ]at hl ⊢;exact .of_eq (h us hl)
def Passes (CX:kZ) (X:Cx) (E:XK):Prop:=∀(pins:List (al×lp)) (σ:St) (H:Hp) (s:ar) (e:ap) (s':ar),Inv X pins σ H s->CX X.stack H s E e s'->X.xe e s'
section
variable {X:Cx}{CX:kZ}{k:Nat}{f C:al}{fd:mo}{ps:List cb}{sp:Sp}{sm:List V}{ds:List ap}{E:XK}{x m:cb}{p pos apos:xp}{e o:hX}{es:List hX}{ta:TE}{t:TA}
theorem Io {pins:List (al×lp)}{σ:St}{H:Hp}{s:ar}{Q:VK}{us:List ap}{vs:List V}(F:FnOk X.prog X.w X.K X.mg X.base CX k f fd ps sp) (hr:bX k X.A) (hb:Binds X.K fd ps ds) (hd:Vals sm ds) (hx:Passes CX X E)
  (I:Inv X pins σ H s) (r:Vals vs us) (h:sp (vs++sm) H Q E):wpAny (model X.prog X.w) X.A (call (.ref f) us) (EP X pins σ Q) X.xe s :=by
 have r2:Vals (vs++sm) (us++ds):=r.append hd;have hl:(us++ds).length=ps.length :=by rw[<- r2.length];exact F.len _ _ _ _ h
 refine wpAny_call (Ur (F.run X.A X.stack s H ⟨us,[]⟩ (us++ds) (vs++sm) Q E hr I.OV (hb s us I.iP hl) r2 h) fun r s' hq=>?_)
 cases r with
 |error e=>exact hx pins σ H s e s' I hq
 |ok fl=>
  cases fl with
  |ret u=>exact I.after hq
  |next=>exact Me hq
  |brk=>exact Me hq
  |cont=>exact Me hq
theorem Gw (F:FnOk X.prog X.w X.K X.mg X.base CX k f fd ps sp) (hr:bX k X.A) (hg:Gl X x) (hm:X.mg x=some (.ref f)) (hk:SS X.K (.ref f)=true) (hb:Binds X.K fd ps ds) (hd:Vals sm ds) (hx:Passes CX X E)
  (ha:PA X (e::es) t) (iT:(x==("__debug__" : cb))=false :=by decide) (he:starEach (e::es) X.env=(false,eval e X.env)::starEach es X.env :=by rfl) (dh:(backTo pos (starEach es X.env)).any (·.1)=false :=by rfl) :
  PE X (.Call (.Name x p) (e::es) [] pos) (Ft sp sm E t) :=by
 refine⟨?_⟩;intro pins s σ H Q I h;refine Ix (rh I hg hm ?_ iT);refine PySem.W.callWith_K (h₀:=X.base) I.ok.mod.kin hk (thn (ha pos pins s σ H _ I h) fun us s1 ⟨vs,H1,I1,r,q⟩=>⟨I1.iP,?_⟩) he dh
 exact Io F hr hb hd hx I1 r q
end
structure aO (N P:List cb) (sc:xy):Prop where
 kind:sc.kind=.function
 co:sc.isCoroutine=false
 gen:sc.isGenerator=false
 nd:N.Nodup
 pre:N.take P.length=P
 par:∀x∈P,sc.names.lookup x=some .local\/sc.names.lookup x=some .cell
 nofree:∀y∈sc.names,y.2≠.free
theorem so {kindOf:cb->Option So}{x:cb}:∀{binds:List (cb×ap)}{m:cb->Option ap},(∀v,(x,v) ∉ binds)->bindL kindOf binds m x=m x
 | [],_,_=>rfl
 |(n,v)::r,m,h=>by
          unfold bindL;rw[so fun w hw=>h w (ci _ hw)]
          split
          ·have:x≠n :=by rintro rfl;exact h v f8
           simp[this]
          ·rfl
theorem sq {kindOf:cb->Option So}{x:cb}:∀{binds:List (cb×ap)}{m:cb->Option ap},(∀v,(x,v) ∉ binds)->bindC kindOf binds m x=m x
 | [],_,_=>rfl
 |(n,v)::r,m,h=>by
          unfold bindC;rw[sq fun w hw=>h w (ci _ hw)]
          split
          ·rfl
          ·have:x≠n :=by rintro rfl;exact h v f8
           simp[this]
theorem sr {kindOf:cb->Option So}{x:cb}{v:ap}:∀{P:List cb}{vs:List ap}{i:Nat}{m:cb->Option ap},P.Nodup->P[i]?=some x->vs[i]?=some v->kindOf x=some .local->
  bindL kindOf (P.zip vs) m x=some v
 | [],_,_,_,_,h,_,_=>by simp at h
 |_::_,[],_,_,_,_,h,_=>by simp at h
 |p::P,w::vs,0,m,nd,h1,h2,hk=>by
          simp at h1 h2;subst h1;subst h2;show bindL kindOf ((p,w)::P.zip vs) m p=_;unfold bindL;rw[so fun v hv=>(Sc.mp nd).1 (Us hv).1,if_pos hk]
          simp
 |p::P,w::vs,i+1,m,nd,h1,h2,hk=>by
          show bindL kindOf ((p,w)::P.zip vs) m x=_;unfold bindL;exact sr (i:=i) (Sc.mp nd).2 (by simpa using h1) (by simpa using h2) hk
theorem su {kindOf:cb->Option So}{x:cb}{v:ap}:∀{P:List cb}{vs:List ap}{i:Nat}{m:cb->Option ap},P.Nodup->P[i]?=some x->vs[i]?=some v->kindOf x≠some .local->
  bindC kindOf (P.zip vs) m x=some v
 | [],_,_,_,_,h,_,_=>by simp at h
 |_::_,[],_,_,_,_,h,_=>by simp at h
 |p::P,w::vs,0,m,nd,h1,h2,hk=>by
          simp at h1 h2;subst h1;subst h2;show bindC kindOf ((p,w)::P.zip vs) m p=_;unfold bindC;rw[sq fun v hv=>(Sc.mp nd).1 (Us hv).1,if_neg hk]
          simp
 |p::P,w::vs,i+1,m,nd,h1,h2,hk=>by
          show bindC kindOf ((p,w)::P.zip vs) m x=_;unfold bindC;exact su (i:=i) (Sc.mp nd).2 (by simpa using h1) (by simpa using h2) hk
def start (N:List cb) (vs:List V):St:=vs.map some++qr (N.length - vs.length) none
def gO (CX:kZ) (P:i4) (w:i8) (K:bn) (mg:cb->Option ap) (base:kt) (N:List cb) (qual:cb) (scope:xy) (f:al) (cd:ap) (A:ma) (outer:List OR) (s:ar) (H:Hp) (E:XK):Cx where
 prog:=P
 w:=w
 K:=K
 mg:=mg
 base:=base
 A:=A.deeper (envOfC qual scope s.heap.objs.size f cd)
 N:=N
 s₀:=s
 H₀:=H
 env:=envOfC qual scope s.heap.objs.size f cd
 outer:=outer
 stack:=envOfC qual scope s.heap.objs.size f cd::outer
 ex:=[]
 calm:=true
 fn:=fun _=>true
 pn:=[]
 xe:=fun e s'=>wpAny (model P w) (A.deeper (envOfC qual scope s.heap.objs.size f cd)) (leaving (envOfC qual scope s.heap.objs.size f cd) e) (fun _ aW=>CX outer H s E e aW) (fun e' aW=>CX outer H s E e' aW) s'
theorem uq {sc:xy}{n:Nat}{x:cb}(h:sc.names.lookup x=some .cell):∃c,(cellsFrom n sc.names []).lookup x=some c :=by
 have q:=PySem.W.cellsFrom_some sc.names n [] (.inl h);exact Option.isSome_iff_exists.mp q
theorem AK {CX:kZ}{P:i4}{w:i8}{K:bn}{mg:cb->Option ap}{base:kt}{N ps:List cb}{qual:cb}{scope:xy}{f:al}{cd:ap}{A:ma}{outer:List OR}{s s1:ar}{H:Hp}{E:XK}{us:List ap}{vs:List V}
  (S:aO N ps scope) (hd:A.handled=none) (e0:yR P w K mg base A outer s H) (hl:vs.length=ps.length) (r:Vals vs us)
  (x:InCallC s s.heap.objs.size (bindL (envOfC qual scope s.heap.objs.size f cd).kindOf (ps.zip us) fun _=>none) (cellsFrom (s.heap.objs.size+1) scope.names []) (bindC (envOfC qual scope s.heap.objs.size f cd).kindOf (ps.zip us) fun _=>none) s1) :
  Inv (gO CX P w K mg base N qual scope f cd A outer s H E) [] (start N vs) H s1 :=by
 have dh:ps.length<=N.length :=by have:=congrArg TU S.pre;rw[T0]at this;omega
 obtain⟨h1,tk,rfl,hk⟩:=x.done;have Ip:∀b:al,b ∉ (gO CX P w K mg base N qual scope f cd A outer s H E).ex:=fun b z=>absurd (show b∈([]:List al) from z) (by simp)
 refine⟨⟨e0.mod,S.kind,rfl,rfl,bv _,fun y z c h1 h2=>?_,fun y hy=>?_,fun y c _ h=>?_,fun _=>hd,ma.frames_deeper e0.frames,.inr ⟨rfl,rfl⟩,fun b z=>absurd z (Ip b),e0.bs,e0.bsz,fun b _ _=>Ip b,fun b z=>absurd z (Ip b),e0.funs,e0.frf⟩,
  rfl,⟨e0.bare,bv _⟩,Un.kept hk,⟨_,x.toInCall.ns,fun i y v h1 h2 h3=>?_⟩,fun y c h=>⟨_,x.cell y c h⟩,e0.hok.fresh (bv _),fun y c h=>?_,fun p hp=>absurd (show p∈([]:List (al×lp)) from hp) (by simp),e0.hok.kept hk,?_⟩
 ·exact name_of_addr x.apart (u7 h1) (u7 h2)
 ·have hy:scope.names.lookup y=some .cell\/scope.names.lookup y=some .free:=hy;rcases hy with hy|hy
  ·exact uq hy
  ·exact absurd rfl (S.nofree _ (u7 hy))
 ·exact Na (x.above y c (u7 h))
 ·have hi:i<vs.length :=by
   unfold start at h2;by_cases hi:i<vs.length
   ·exact hi
   ·rw[List.getElem?_append_right (by simpa using hi)]at h2
    rw[Ps]at h2;split at h2<;>cases h2
  have ha:vs[i]?=some v :=by
   unfold start at h2;rw[IR (by simpa using hi),ij]at h2
   cases e:vs[i]? with
   |none=>rw[e]at h2;cases h2
   |some a=>rw[e]at h2;cases h2;rfl
  obtain⟨u,hu,rv⟩:=r.get ha;have hp:ps[i]?=some y :=by
   rw[<- S.pre,List.getElem?_take_of_lt (by omega)];exact h1
  have Np:ps.Nodup :=by rw[<- S.pre];exact S.nd.sublist (List.take_sublist _ _)
  refine⟨u,rv,?_⟩;rcases S.par y (gl hp) with k|k
  ·exact .inl ⟨k,sr Np hp hu k⟩
  ·obtain⟨c,e⟩:=uq (n:=s.heap.objs.size+1) k;refine .inr ⟨.inl k,c,e,?_⟩;have q:=x.cell y c e;rw[su Np hp hu (by show scope.names.lookup y≠_;rw[k];decide)]at q
   exact q
 ·exact e0.hok.fresh (Na (x.above y c (u7 h)))
 ·unfold start;show _=N.length;rw[zw,br,SZ];omega
theorem Fu {CX:kZ}{P:i4}{w:i8}{K:bn}{mg:cb->Option ap}{base:kt}{k:Nat}{f:al}{name qual:cb}{params:Arguments}{body:List tz}{scope:xy}{dV kV doc pm dZ ct oc:ap}{an od:Option al}
  {mP:Array (Option ap)} {N ps:List cb} {sp:Sp} (lk:K.lookup f=some ⟨oc,od,.func (Go name qual params body scope dV kV doc pm an dZ ct),mP⟩) (iR:Ts K dZ qual=true) (S:aO N ps scope)
  (len:∀vs H Q E,sp vs H Q E->vs.length=ps.length)
  (pP:∀(A:ma) (outer:List OR) (s:ar) (H:Hp) (vs:List V) (Q:VK) (E:XK),bX k (A.deeper (envOfC qual scope s.heap.objs.size f dZ))->sp vs H Q E->
   ∃t,gU (gO CX P w K mg base N qual scope f dZ A outer s H E) body t/\t {nx:=fun _ H'=>Q .ao H',rt:=Q} (start N vs) H) :
  FnOk P w K mg base CX (k+1) f (Go name qual params body scope dV kV doc pm an dZ ct) ps sp :=by
 refine⟨len,fun A outer s H args us vs Q E hr e0 hb r jc=>?_⟩
 have hl:=len _ _ _ _ jc;have KX:K.In s.heap:=e0.mod.kin.keeps fun b o e=>(e0.bs b o e).1
 have lim:s.heap.NoLimit:=e0.mod.nolimit.keeps fun b o e=>(e0.bs b o e).1
 have tS:∀y∈ps.zip us,scope.names.lookup y.1=some .local\/(scope.names.lookup y.1=some .cell/\((cellsFrom (s.heap.objs.size+1) scope.names []).lookup y.1).isSome=true):=fun⟨n,v⟩ hy=>by
  rcases S.par n (Us hy).1 with q|q
  ·exact .inl q
  ·exact .inr ⟨q,PySem.W.cellsFrom_some _ _ _ (.inl q)⟩
 refine codeAny_call_function hr.depth (KX _ _ lk) rfl S.co S.gen rfl (PySem.W.codeRec_of KX iR) (hb _ _ _ _ ?_);refine wpAny_newFunctionEnv_cells S.kind tS fun env he s1 x=>?_
 subst he;refine⟨lim.keeps x.toInCall.keep,codeAny_func ?_⟩;obtain⟨t,ht,hq⟩:=pP A outer s H vs Q E (hr.deeper _) jc;have I:Inv (gO CX P w K mg base N qual scope f dZ A outer s H E) [] (start N vs) H s1:=AK S hr.hd e0 hl r x;refine l8 (ht [] s1 (start N vs) H _ I hq) (fun fl s' hs=>?_) fun e s' hs=>hs
 have fin:∀{aQ:St} {H':Hp} {v:V} {u:ap},Inv (gO CX P w K mg base N qual scope f dZ A outer s H E) [] aQ H' s'->RelV v u->Q v H'->CE outer P w H s Q u s':=
  fun {aQ H' v u} J rv q=>⟨v,H',J.os,J.bare,J.base,J.hok,rv,q⟩
 cases fl with
 |ret u=>
  obtain⟨v,aQ,H',J,rv,q⟩:=hs;exact fin J rv q
 |next=>
  obtain⟨aQ,H',J,q⟩:=hs;exact fin (v:=V.ao) (u:=v6) J rfl q
 |brk=>
  obtain⟨_,_,_,q⟩:=hs;exact Me q
 |cont=>
  obtain⟨_,_,_,q⟩:=hs;exact Me q
section
variable {X:Cx}{x:cb}{p pos:xp}{e:hX}{es:List hX}{t:TA}{id T:String}{r:List V->Hp->VK->Prop}
def Iq (r:List V->Hp->VK->Prop) (t:TA):TE:=fun σ H Q=>t σ H fun vs H1=>r vs H1 Q
theorem DL (hc:cw X (.builtin id) r) (hg:Gl X x) (hm:X.mg x=none) (hv:bootBuiltins x=some (.builtin id)) (ha:PA X (e::es) t) (hn:x ≠ "__name__" := by decide) (iT:(x==("__debug__" : cb))=false :=by decide)
  (he:starEach (e::es) X.env=(false,eval e X.env)::starEach es X.env :=by rfl) (dh:(backTo pos (starEach es X.env)).any (·.1)=false :=by rfl):PE X (.Call (.Name x p) (e::es) [] pos) (Iq r t) :=by
 refine⟨?_⟩;intro pins s σ H Q I h;refine Ix (gu I hg hm hv ?_ hn iT);exact KF (thn (ha pos pins s σ H _ I h) fun us s1 ⟨vs,H1,I1,r1,q1⟩=>hc pins s1 σ H1 vs us Q I1 r1 q1) he dh
theorem AO (hc:cw X (.type T) r) (hg:Gl X x) (hm:X.mg x=none) (hv:bootBuiltins x=some (.type T)) (ha:PA X (e::es) t) (hn:x ≠ "__name__" := by decide) (iT:(x==("__debug__" : cb))=false :=by decide)
  (he:starEach (e::es) X.env=(false,eval e X.env)::starEach es X.env :=by rfl) (dh:(backTo pos (starEach es X.env)).any (·.1)=false :=by rfl):PE X (.Call (.Name x p) (e::es) [] pos) (Iq r t) :=by
 refine⟨?_⟩;intro pins s σ H Q I h;refine Ix (gu I hg hm hv ?_ hn iT);exact Gc (thn (ha pos pins s σ H _ I h) fun us s1 ⟨vs,H1,I1,r1,q1⟩=>hc pins s1 σ H1 vs us Q I1 r1 q1) he dh
end
end L2
namespace HT
open PySem PyProof.Rows
def lexLt:List Int->List Int->Bool
 | [],[]=>false
 | [],_::_=>true
 |_::_,[]=>false
 |x::xs,y::ys=>if x=y then lexLt xs ys else decide (x<y)
theorem fO (x y:Int) (xs ys:List Int):lexLt (x::xs) (y::ys)=if x=y then lexLt xs ys else decide (x<y):=rfl
section
variable {prog:i4}{w:i8}{A:ma}{E:ap->ar->Prop}{s:ar}
def jH (n d:Nat):Option Int->Nat
 |none=>d
 |some v=>if v<0 then (v+(n:Int)).toNat else min v.toNat n
end
end HT
namespace L2
open PySem PySem.Spec PyProof.Rows
abbrev TO:=St->Hp->(Option Int->Hp->Prop)->Prop
def PO (X:Cx) (e:Option hX) (t:TO):Prop:=
 ∀(pins:List (al×lp)) (s:ar) (σ:St) (H:Hp) (Q:Option Int->Hp->Prop),Inv X pins σ H s->t σ H Q->
  wpAny (model X.prog X.w) X.A (evalPart e X.env) (fun u s'=>∃o H',Inv X pins σ H' s'/\IsPart u o/\Q o H') X.xe s
def Gx:TO:=fun _ H Q=>Q none H
def LZ (t:TE):TO:=fun σ H Q=>t σ H fun x H1=>∃i,x=.int i/\Q (some i) H1
section
variable {X:Cx}{e:hX}{te:TE}{lo hi:Option hX}{tl th:TO}{pos p2:xp}
theorem Gy:PO X none Gx :=by
 intro pins s σ H Q I h;rw[evalPart_none];exact ba ⟨none,H,I,.none,h⟩
theorem GA (h:PE X e te):PO X (some e) (LZ te) :=by
 intro pins s σ H Q I hw;rw[evalPart_some];refine thn (h pins s σ H _ I hw) fun u s1 ⟨x,H1,I1,r1,q1⟩=>?_
 obtain⟨i,rfl,q⟩:=q1;obtain⟨t,rfl⟩:=r1;exact⟨some i,H1,I1,.int i t,q⟩
def Fv (X:Cx) (r:V->Option Int->Option Int->Hp->VK->Prop):Prop:=
 ∀(pins:List (al×lp)) (s:ar) (σ:St) (H:Hp) (x:V) (v vl vu:ap) (lo hi:Option Int) (sl:al) (Q:VK),Inv X pins σ H s->RelV x v->s.heap.IsSliceOf sl vl vu .none->IsPart vl lo->IsPart vu hi->r x lo hi H Q->
  ∃T id,typeLookup (.type T) "__getitem__" = pure (some (.builtin id))/\s.TypeIs v T/\wpAny (model X.prog X.w) X.A (getItem v (.ref sl)) (EP X pins σ Q) X.xe s
def Qe (r:V->Option Int->Option Int->Hp->VK->Prop) (te:TE) (tl th:TO):TE:=fun σ H Q=>te σ H fun x H1=>tl σ H1 fun l H2=>th σ H2 fun u H3=>r x l u H3 Q
theorem DM {r:V->Option Int->Option Int->Hp->VK->Prop}(hr:Fv X r) (he:PE X e te) (hl:PO X lo tl) (hu:PO X hi th):PE X (.Subscript e (.Slice lo hi none p2) pos) (Qe r te tl th) :=by
 refine⟨?_⟩;intro pins s σ H Q I h;refine Subscript_ (thn (he pins s σ H _ I h) fun v s1 ⟨x,H1,I1,r1,q1⟩=>?_)
 refine wpAny_Slice (thn (hl pins s1 σ H1 _ I1 q1) fun vl s2 ⟨l,H2,I2,pl,q2⟩=>thn (hu pins s2 σ H2 _ I2 q2) fun vu s3 ⟨u,H3,I3,pu,q3⟩=>?_)
 rw[evalPart_none];refine ba ?_;have I4:Inv X pins σ H3 {s3 with heap:=s3.heap.push {cls:=.type "slice",data:=.fields #[vl,vu,.none]}}:=I3.kept (t':=s3.toks) fun b ob q=>bi _ q
 obtain⟨T,id,hT,ht,hg⟩:=hr pins {s3 with heap:=s3.heap.push {cls:=.type "slice",data:=.fields #[vl,vu,.none]}} σ H3 x v vl vu l u s3.heap.objs.size Q I4 r1 (kt.IsSliceOf.new ..) pl pu q3
 show wpAny (model X.prog X.w) X.A (subscriptTail e (.Slice lo hi none p2) v (.ref s3.heap.objs.size)) (EP X pins σ Q) X.xe {s3 with heap:=s3.heap.push {cls:=.type "slice",data:=.fields #[vl,vu,.none]}}
 exact tail_any (ops:=[.ref s3.heap.objs.size,v]) ht hT hg (by with_unfolding_all rfl)
def yS (xs:List V) (lo hi:Option Int):List V:=(xs.drop (HT.jH xs.length 0 lo)).take (HT.jH xs.length xs.length hi - HT.jH xs.length 0 lo)
theorem wz (xs:List V) (lo hi:Option Int):(yS xs lo hi).length<=xs.length :=by
 unfold yS;rw[T0,List.length_drop];omega
end
def ft (n:Nat) (i:Int):Option Nat:=if 0<=i then (if i<n then some i.toNat else none) else if -(n:Int)<=i then some (i+n).toNat else none
def bo {α:Type}(xs:List α) (i:Int):Option α:=(ft xs.length i).bind fun j=>xs[j]?
theorem rj {n:Nat}{i:Int}{j:Nat}(h:ft n i=some j):seqIndex? i n=some j/\j<n /\ -(n:Int)<=i/\i<n :=by
 unfold ft at h;by_cases h0:0<=i
 ·rw[if_pos h0]at h;by_cases h1:i<n
  ·rw[if_pos h1]at h;have e:i.toNat=j:=kw h;exact⟨by rw[seqIndex_of h0 h1,e],by omega,by omega,h1⟩
  ·rw[if_neg h1]at h;cases h
 ·rw[if_neg h0]at h;by_cases h1 : -(n:Int)<=i
  ·rw[if_pos h1]at h;have e:(i+n).toNat=j:=kw h;exact⟨by rw[seqIndex_neg (by omega) h1,e],by omega,h1,by omega⟩
  ·rw[if_neg h1]at h;cases h
theorem rl {α:Type}{xs:List α}{i:Int}{v:α}(h:bo xs i=some v):∃j,seqIndex? i xs.length=some j/\xs[j]?=some v/\j<xs.length /\ -(xs.length:Int)<=i/\i<xs.length :=by
 unfold bo at h;cases e:ft xs.length i with
 |none=>rw[e]at h;cases h
 |some j=>
  rw[e]at h;obtain⟨h1,h2,h3,h4⟩:=rj e;exact⟨j,h1,h,h2,h3,h4⟩
theorem b9 {α:Type}{xs:List α}{j:Nat}{v:α}(h:xs[j]?=some v):bo xs (j:Int)=some v :=by
 have hj:j<xs.length:=(cr.mp h).1;have e:ft xs.length (j:Int)=some j :=by
  unfold ft;rw[if_pos (by omega),if_pos (by omega)];simp
 unfold bo;rw[e];exact h
theorem ur {α:Type}(xs:List α) (v:α):bo (xs++[v]) (-1)=some v :=by
 have hl:(xs++[v]).length=xs.length+1 :=by simp
 have e:ft (xs++[v]).length (-1)=some xs.length :=by
  unfold ft;rw[hl,if_neg (by decide),if_pos (by omega)]
  congr 1
  omega
 unfold bo;rw[e];show (xs++[v])[xs.length]?=some v;simp
def xE (b:hX):Prop:=∀o i,subscripted b false o i=operate [o,i] (getItem o i)
def mQ (X:Cx) (r:R2):Prop:=
 ∀(value slice:hX) (pins:List (al×lp)) (s:ar) (σ:St) (H:Hp) (x y:V) (v u:ap) (Q:VK),Inv X pins σ H s->RelV x v->RelV y u->r x y H Q->
  subscripted slice false v u=operate [v,u] (getItem v u)->wpAny (model X.prog X.w) X.A (subscriptTail value slice v u) (EP X pins σ Q) X.xe s
def Fw (X:Cx) (id:String) (r:V->List V->Hp->VK->Prop):Prop:=
 ∀(pins:List (al×lp)) (s:ar) (σ:St) (H:Hp) (x:V) (xs:List V) (v:ap) (us:List ap) (Q:VK),Inv X pins σ H s->RelV x v->Vals xs us->r x xs H Q->
  wpAny (model X.prog X.w) X.A (call (.builtin id) (v::us)) (EP X pins σ Q) X.xe s
section
variable {X:Cx}{a b:hX}{ta tb:TE}{pos:xp}
theorem mQ.or {r r':R2}(h:mQ X r) (h':mQ X r'):mQ X (fun x y H Q=>r x y H Q\/r' x y H Q) :=by
 intro value slice pins s σ H x y v u Q I rx ry q hs;rcases q with q|q
 ·exact h value slice pins s σ H x y v u Q I rx ry q hs
 ·exact h' value slice pins s σ H x y v u Q I rx ry q hs
theorem L0 {r:R2}(hr:mQ X r) (ha:PE X a ta) (hb:PE X b tb) (hs:xE b):PE X (.Subscript a b pos) (AA r ta tb) :=by
 refine⟨?_⟩;intro pins s σ H Q I h;exact Subscript_ (DC ha hb I h fun v u s2 x y H2 I2 rx ry q=>hr a b pins s2 σ H2 x y v u Q I2 rx ry q (hs _ _))
def Ir (K:bn):R2:=fun x y H Q=>∃p xs i v,x=.ref p/\y=.int i/\bU K H p xs/\bo xs i=some v/\Q v H
def Iu (K:bn):R2:=fun x y H Q=>∃p xs i v,x=.ref p/\y=.int i/\dr K H p xs/\bo xs i=some v/\Q v H
def Iv:R2:=fun x y H Q=>∃z i c,x=.str z/\y=.int i/\z.length<=sizeLine/\bo z.cps.toList i=some c/\Q (.str ⟨#[c]⟩) H
theorem GB:mQ X (Ir X.K) :=by
 intro value slice pins s σ H x y v u Q I rx ry h hs;obtain⟨p,xs,i,z,rfl,rfl,hq,he,q⟩:=h;cases rx;obtain⟨t,rfl⟩:=ry;obtain⟨its,r,pl,hz⟩:=I.list hq;obtain⟨j,h1,h2,h3,h4,h5⟩:=rl he;obtain⟨w,ew,AQ⟩:=r.get h2;have hl:=r.length;have hn:=kY;have fin:EP X pins σ Q w s:=⟨z,H,I,AQ,q⟩;by_cases h0:0<=i
 ·have hj:i.toNat=j :=by
   rw[seqIndex_of h0 h5]at h1;exact kw h1
  exact item_listR pl.isList h0 (by omega) (by rw[hj];simpa using ew) fin hs
 ·have hj:(i+(its.toArray.size:Int)).toNat=j :=by
   rw[seqIndex_neg (by omega) h4]at h1
   rw[dL,<- hl];exact kw h1
  exact subscriptTail_builtinR (x:=w) pl.isList.typeIs slot_list_getitem.lookup
   (wpAny_getItem_list_neg (Q:=fun r s'=>r=w/\EP X pins σ Q r s') pl.isList (by omega) (by rw[dL]<;>omega) (by omega) (by rw[hj];simpa using ew) ⟨rfl,fin⟩) hs
theorem Iw:mQ X (Iu X.K) :=by
 intro value slice pins s σ H x y v u Q I rx ry h hs;obtain⟨p,xs,i,z,rfl,rfl,hq,he,q⟩:=h;cases rx;obtain⟨t,rfl⟩:=ry;obtain⟨its,r,pl,hz⟩:=I.tuple hq;obtain⟨j,h1,h2,h3,h4,h5⟩:=rl he;obtain⟨w,ew,AQ⟩:=r.get h2;have hl:=r.length;have hn:=kY;have fin:EP X pins σ Q w s:=⟨z,H,I,AQ,q⟩;exact subscriptTail_builtinR (x:=w) pl.typeIs slot_tuple_getitem.lookup
  (getItem_tuple (j:=j) (Q:=fun r s'=>r=w/\EP X pins σ Q r s') pl (by omega) (by omega) (by rw[dL,<- hl];exact h1) (by simpa using ew) ⟨rfl,fin⟩) hs
theorem Iy:mQ X Iv :=by
 intro value slice pins s σ H x y v u Q I rx ry h hs;obtain⟨z,i,c,rfl,rfl,hz,he,q⟩:=h;obtain⟨t,rfl⟩:=rx;obtain⟨t',rfl⟩:=ry;obtain⟨j,h1,h2,h3,h4,h5⟩:=rl he;have hl:z.cps.toList.length=z.length :=by simp[cb.length]
 rw[hl]at h1 h4 h5;have hn:=kY;exact tail_any (typeIs_str s z t) slot_str_getitem.lookup (getItem_str (c:=c) (by
  have e1:decide (i < -(2 ^ 63:Int))=false:=decide_eq_false (by omega)
  have e2:decide (i ≥ 2 ^ 63)=false:=decide_eq_false (by omega)
  rw[e1,e2,Bool.or_false]) (by rw[h1];simpa using h2) ⟨.str ⟨#[c]⟩,H,I.tok _,⟨_,rfl⟩,q⟩) hs
def Nq (K:bn):R2:=fun x y H Q=>Ir K x y H Q\/Iu K x y H Q\/Iv x y H Q
theorem Iz:mQ X (Nq X.K):=GB.or (Iw.or Iy)
theorem yT (its:List ap) (n j:Nat) (u:ap):ze (·.setIfInBounds j u) {cls:=.type "list",data:=.seq its.toArray n}={cls:=.type "list",data:=.seq (its.set j u).toArray n}:=by
 simp[ze]
theorem Inv.lst {pins:List (al×lp)}{σ:St}{H:Hp}{s:ar}{p:al}{xs:List V}(I:Inv X pins σ H s) (h:H p=some (.lst xs)) :
  ∃(its:List ap) (n:Nat),Vals xs its/\s.heap.get? p=some {cls:=.type "list",data:=.seq its.toArray n}/\xs.length<=sizeLine :=by
 obtain⟨z,its,n,r,e⟩:=I.hok p _ h;exact⟨its,n,r,e,z⟩
theorem Inv.IA {pins:List (al×lp)}{σ:St}{H:Hp}{s:ar}{p:al}{xs ys:List V}{its its':List ap}{n n':Nat}{f:lp->lp}(I:Inv X pins σ H s) (h:H p=some (.lst xs))
  (ho:s.heap.get? p=some {cls:=.type "list",data:=.seq its.toArray n}) (hf:f {cls:=.type "list",data:=.seq its.toArray n}={cls:=.type "list",data:=.seq its'.toArray n'}) (r:Vals ys its') (hz:ys.length<=sizeLine) (t:Nat) :
  Inv X pins σ (upd H p (.lst ys)) {s with heap:=s.heap.update p f,toks:=t}:=by
 have e:(s.heap.update p f).get? p=some {cls:=.type "list",data:=.seq its'.toArray n'}:=by
  rw[sK f ho (by rw[hf]<;>rfl),hf]
 refine I.write (x:=p) (e:=p) (by rw[h];trivial) (.inl rfl) (fun b u hb q=>(mT _ _ (Co hb)).trans q) ⟨_,e⟩ ?_
 exact⟨hz,its',n',r,e⟩
def L1:V->V->V->Hp->(Hp->Prop)->Prop:=fun o i v H Q=>∃p xs k j,o=.ref p/\i=.int k/\H p=some (.lst xs)/\ft xs.length k=some j/\Q (upd H p (.lst (xs.set j v)))
theorem set_list:HM X L1 :=by
 intro pins s σ H o i v ov iv u Q I ro ri rv h;obtain⟨p,xs,k,j,rfl,rfl,hp,hj,q⟩:=h;cases ro;obtain⟨t,rfl⟩:=ri;obtain⟨its,n,r,ho,hz⟩:=I.lst hp;obtain⟨h1,h2,h3,h4⟩:=rj hj;have hl:=r.length;have hn:=kY;have I':Inv X pins σ (upd H p (.lst (xs.set j v))) {s with heap:=s.heap.update p (ze (·.setIfInBounds j u))}:=
  I.IA hp ho (yT its n j u) (r.set rv j) (by rw[NJ];exact hz) s.toks
 by_cases h0:0<=k
 ·have hk:k.toNat=j :=by
   rw[seqIndex_of h0 h4]at h1;exact kw h1
  exact PySem.W.ki_setAt ho h0 (by omega) (by rw[dL,<- hl];exact h4) (by rw[hk];exact⟨_,I',q⟩)
 ·have hk:(k+(its.toArray.size:Int)).toNat=j :=by
   rw[seqIndex_neg (by omega) h3]at h1
   rw[dL,<- hl];exact kw h1
  exact PySem.W.ki_setBack ho (by omega) (by rw[dL,<- hl];exact h3) (by omega) (by rw[hk];exact⟨_,I',q⟩)
theorem uv (lo hi:Option Int) (n:Nat):(sliceBounds lo hi none n).1=((HT.jH n 0 lo:Nat):Int)/\(sliceBounds lo hi none n).2.1=((HT.jH n n hi:Nat):Int)/\(sliceBounds lo hi none n).2.2=1 :=by
 refine⟨?_,?_,rfl⟩
 ·cases lo with
  |none=>simp[sliceBounds,HT.jH]
  |some i=>
   simp only[sliceBounds,HT.jH,Option.getD_none,show (1:Int) > 0 by decide,if_true]
   by_cases h:i<0
   ·simp only[h,if_true]<;>omega
   ·simp only[h,if_false]<;>omega
 ·cases hi with
  |none=>simp[sliceBounds,HT.jH]
  |some i=>
   simp only[sliceBounds,HT.jH,Option.getD_none,show (1:Int) > 0 by decide,if_true]
   by_cases h:i<0
   ·simp only[h,if_true]<;>omega
   ·simp only[h,if_false]<;>omega
theorem tF (its:List ap) (lo hi:Option Int):slicePick its.toArray lo hi none=((its.drop (HT.jH its.length 0 lo)).take (HT.jH its.length its.length hi - HT.jH its.length 0 lo)).toArray :=by
 obtain⟨h1,h2,h3⟩:=uv lo hi its.toArray.size;unfold slicePick;rw[h1,h2,h3];simp only[sliceRange_one,pick_run,dL]<;>rfl
def OW (K:bn):V->Option Int->Option Int->Hp->VK->Prop:=fun x lo hi H Q=>∃a xs,x=.ref a/\bU K H a xs/\∀p,H p=none->Q (.ref p) (upd H p (.lst (yS xs lo hi)))
theorem PZ:Fv X (OW X.K) :=by
 intro pins s σ H x v vl vu lo hi sl Q I rx hs pl pu h;obtain⟨a,xs,rfl,hx,q⟩:=h;cases rx;obtain⟨its,r,ht,hz⟩:=I.list hx;have hlen:=r.length;refine⟨"list",_,slot_list_getitem.lookup,ht.isList.typeIs,?_⟩
 refine wpAny_getItem_list_slice ht.isList hs pl pu .none (by simp) ?_ (by rw[dL]<;>omega)
 rw[tF,<- hlen];refine⟨.ref s.heap.objs.size,_,I.laid (t':=s.toks) (o:=.lst (yS xs lo hi)) (fun b ob q=>bi _ q) (bv _) ?_,rfl,q _ (I.hok.fresh (bv _))⟩
 exact⟨wv (wz xs lo hi) hz,_,0,(r.drop (HT.jH xs.length 0 lo)).take (HT.jH xs.length xs.length hi - HT.jH xs.length 0 lo),io _ rfl⟩
def ki:V->Bool
 | .ao=>true
 | .bl _=>true
 | .int _=>true
 | .str _=>true
 |_=>false
def pQ:V->V->Bool
 | .ao,.ao=>true
 | .bl a,.bl b=>a==b
 | .bl a,.int b=>(if a then 1 else 0)==b
 | .int a,.bl b=>a==(if b then 1 else 0)
 | .int a,.int b=>a==b
 | .str a,.str b=>a==b
 |_,_=>false
theorem IB {A:ma}{s:ar}{y x:V}{u v:ap}(ry:RelV y u) (rx:RelV x v) (fy:ki y=true) (fx:ki x=true):lc A s u v (pQ y x) :=by
 cases y with
 |ao=>
  cases ry;cases x with
  |ao=>cases rx;exact Ut _
  |bl b=>cases rx;exact lc.none_bool b
  |int b=>obtain⟨t,rfl⟩:=rx;exact lc.none_int b t
  |str b=>obtain⟨t,rfl⟩:=rx;exact lc.none_str b t
  |_=>exact absurd (show false=true from fx) gc
 |bl a=>
  cases ry;cases x with
  |ao=>cases rx;exact lc.bool_none a
  |bl b=>cases rx;exact lc.bool_bool a b
  |int b=>obtain⟨t,rfl⟩:=rx;exact lc.bool_int a b t
  |str b=>obtain⟨t,rfl⟩:=rx;exact lc.bool_str a b t
  |_=>exact absurd (show false=true from fx) gc
 |int a=>
  obtain⟨t',rfl⟩:=ry;cases x with
  |ao=>cases rx;exact lc.int_none a t'
  |bl b=>cases rx;exact lc.int_bool a t' b
  |int b=>obtain⟨t,rfl⟩:=rx;exact lc.int_int a t' b t
  |str b=>obtain⟨t,rfl⟩:=rx;exact UP a t' b t
  |_=>exact absurd (show false=true from fx) gc
 |str a=>
  obtain⟨t',rfl⟩:=ry;cases x with
  |ao=>cases rx;exact lc.str_none a t'
  |bl b=>cases rx;exact lc.str_bool a t' b
  |int b=>obtain⟨t,rfl⟩:=rx;exact UQ a t' b t
  |str b=>obtain⟨t,rfl⟩:=rx;exact lc.str_str a t' b t
  |_=>exact absurd (show false=true from fx) gc
 |_=>exact absurd (show false=true from fy) gc
def pR (x:V) (u:ap):Bool:=match u with
 | .none=>pQ .ao x
 | .bool b=>pQ (.bl b) x
 | .int i _=>pQ (.int i) x
 | .str z _=>pQ (.str z) x
 |_=>false
theorem AR {x y:V}{u:ap}(r:RelV y u) (f:ki y=true):pR x u=pQ y x :=by
 cases y with
 |ao=>cases r;rfl
 |bl b=>cases r;rfl
 |int i=>obtain⟨t,rfl⟩:=r;rfl
 |str z=>obtain⟨t,rfl⟩:=r;rfl
 |_=>exact absurd (show false=true from f) gc
theorem rn {x:V}:∀{xs:List V}{us:List ap},Vals xs us->xs.all ki=true->us.any (pR x)=xs.any fun y=>pQ y x
 |_,_,.nil,_=>rfl
 |y::xs,u::us,.cons r t,f=>by
          rw[TX,Ch]at f;rw[NO,NO,AR r f.1,rn t f.2]
theorem o3 {A:ma}{s:ar}{x:V}{v:ap}(rx:RelV x v) (fx:ki x=true):∀{xs:List V}{us:List ap},Vals xs us->xs.all ki=true->∀u∈us,lc A s u v (pR x u)
 |_,_,.nil,_=>fun u hu=>by cases hu
 |y::xs,u::us,.cons r t,f=>fun u' hu=>by
          rw[TX,Ch]at f;rcases l7.mp hu with rfl|hu
          ·rw[AR r f.1];exact IB r rx f.1 fx
          ·exact o3 rx fx t f.2 u' hu
def AU (x:V) (xs:List V):Bool:=xs.any fun y=>pQ y x
def IC (K:bn) (neg:Bool):R2:=fun x y H Q=>∃p xs,y=.ref p/\(bU K H p xs\/dr K H p xs)/\ki x=true/\xs.all ki=true/\Q (.bl (if neg then !AU x xs else AU x xs)) H
theorem uw:OpR X (compareOp .NotIn) (IC X.K true) :=by
 intro pins s σ H x y v u Q I rx ry h;obtain⟨p,xs,rfl,hq,fx,fs,q⟩:=h;cases ry;rcases hq with hq|hq
 ·obtain⟨its,r,pl,hz⟩:=I.list hq;refine SeqAt.notIn_listAt (pR x) pl.isList (fun w hw=>o3 rx fx r fs w (by simpa using hw)) ⟨.bl _,H,I,rfl,?_⟩
  rw[show its.toArray.any (pR x)=its.any (pR x) by simp,rn r fs]
  exact q
 ·obtain⟨its,r,pl,hz⟩:=I.tuple hq;refine SeqAt.notIn_tupleAt (pR x) pl (fun w hw=>o3 rx fx r fs w (by simpa using hw)) ⟨.bl _,H,I,rfl,?_⟩
  rw[show its.toArray.any (pR x)=its.any (pR x) by simp,rn r fs]
  exact q
theorem ux:cw X (.type "list") (fun xs H Q=>∃p ys,xs=[.ref p]/\(bU X.K H p ys\/dr X.K H p ys)/\∀l,H l=none->Q (.ref l) (upd H l (.lst ys))) :=by
 intro pins s σ H xs us Q I r h;obtain⟨p,ys,rfl,hq,q⟩:=h;obtain⟨u,rfl,rx⟩:=vals1 r;cases rx;have fin:∀(its:List ap),Vals ys its->ys.length<=sizeLine->∀(h':kt) (c':Nat),(∀b o',s.heap.get? b=some o'->h'.get? b=some o')->
   h'.get? s.heap.objs.size=some {cls:=.type "list",dict:=none,data:=.seq its.toArray c',slots:=#[]}->EP X pins σ Q (.ref s.heap.objs.size) {s with heap:=h'}:=fun its r' hz h' c' kp e=>
  ⟨.ref s.heap.objs.size,_,I.laid (t':=s.toks) kp (bv _) (show bz X.prog X.w _ h' _ (.lst ys) from ⟨hz,its,c',r',e⟩),rfl,q _ (I.hok.fresh (bv _))⟩
 rcases hq with hq|hq
 ·obtain⟨its,r',pl,hz⟩:=I.list hq;have hlen:=r'.length;obtain⟨o,ho,hc,n,hd⟩:=pl.isList;exact call_list_seq p (.inl rfl) ho hc hd (fun h' c' kp e=>fin its r' hz h' c' kp e) (by simp only[dL]<;>omega)
 ·obtain⟨its,r',pl,hz⟩:=I.tuple hq;have hlen:=r'.length;obtain⟨o,ho,hc,n,hd⟩:=pl;exact call_list_seq p (.inr rfl) ho hc hd (fun h' c' kp e=>fin its r' hz h' c' kp e) (by simp only[dL]<;>omega)
theorem tG:cw X (.type "tuple") (fun xs H Q=>∃p ys,xs=[.ref p]/\((bU X.K H p ys/\∀l,H l=none->Q (.ref l) (upd H l (.tup ys)))\/(dr X.K H p ys/\Q (.ref p) H))) :=by
 intro pins s σ H xs us Q I r h;obtain⟨p,ys,rfl,h⟩:=h;obtain⟨u,rfl,rx⟩:=vals1 r;cases rx;rcases h with ⟨hq,q⟩|⟨hq,q⟩
 ·obtain⟨its,r',pl,hz⟩:=I.list hq;have hlen:=r'.length;refine call_tuple_list pl.isList (fun h' kp=>?_) (by simp only[dL]<;>omega)
  have I1:Inv X pins σ H {s with heap:=h'}:=I.kept (t':=s.toks) kp
  have I2:Inv X pins σ (upd H h'.objs.size (.tup ys)) {s with heap:=h'.push {cls:=.type "tuple",data:=.seq its.toArray}}:=
   I1.laid (t':=s.toks) (fun b o e=>bi _ e) (bv _) (show bz X.prog X.w _ _ _ (.tup ys) from ⟨hz,its,r',ly.new _ _⟩)
  exact⟨.ref h'.objs.size,_,I2,rfl,q _ (I1.hok.fresh (bv _))⟩
 ·obtain⟨its,r',pl,hz⟩:=I.tuple hq;exact call_tuple_same pl ⟨.ref p,H,I,rfl,q⟩
def IE (K:bn) (T:String) (x:V) (H:Hp):Prop:=match x with
 | .str _=>T = "str"
 | .int _=>T = "int"
 | .ref p=>(T = "list" /\ ∃xs,bU K H p xs)\/(T = "tuple" /\ ((∃o,K.lookup p=some o/\o.cls=.type "tuple" /\ o.dict=none)\/∃xs,H p=some (.tup xs))) \/
   (T = "dict" /\ ((∃aK,H p=some (.dK aK))\/∃aK,H p=some (.dT aK)))\/(T = "set" /\ ∃S n,H p=some (.set S n))
 |_=>False
theorem IG {pins:List (al×lp)}{σ:St}{H:Hp}{s:ar}{T:String}{x:V}{v:ap}(I:Inv X pins σ H s) (r:RelV x v) (ty:IE X.K T x H) :
  s.TypeIs v T/\∀a,v=.ref a->∃ob,s.heap.get? a=some ob/\ob.dict=none :=by
 cases x with
 |str z=>
  obtain⟨t,rfl⟩:=r;cases (show T = "str" from ty)
  exact⟨typeIs_str s z t,fun _ e=>nomatch e⟩
 |int i=>
  obtain⟨t,rfl⟩:=r;cases (show T = "int" from ty)
  exact⟨Tt s i t,fun _ e=>nomatch e⟩
 |ref p=>
  cases r;rcases ty with ⟨rfl,xs,hq⟩|⟨rfl,⟨o,hk,hc,hd⟩|⟨xs,hk⟩⟩|⟨rfl,hk⟩|⟨rfl,S,n,hk⟩
  ·obtain⟨its,_,pl,_⟩:=I.list hq;refine⟨pl.isList.typeIs,fun a e=>?_⟩
   cases e;obtain⟨o,n,e,c,hd,_⟩:=pl;exact⟨o,e,hd⟩
  ·refine⟨⟨o,I.iP p o hk,hc⟩,fun a e=>?_⟩
   cases e;exact⟨o,I.iP _ o hk,hd⟩
  ·obtain⟨_,its,_,o,e,c,n,d,hd⟩:=I.hok p _ hk;refine⟨⟨o,e,c⟩,fun a e2=>?_⟩
   cases e2;exact⟨o,e,hd⟩
  ·have z:∃o,s.heap.get? p=some o/\o.ExactDict :=by
    rcases hk with ⟨aK,hk⟩|⟨aK,hk⟩
    ·obtain⟨_,_,_,_,o,_,_,e,ex,_⟩:=I.hok p _ hk;exact⟨o,e,ex⟩
    ·obtain⟨_,_,_,_,o,_,_,e,ex,_⟩:=I.hok p _ hk;exact⟨o,e,ex⟩
   obtain⟨o,e,ex⟩:=z;refine⟨⟨o,e,ex.1⟩,fun a e2=>?_⟩
   cases e2;exact⟨o,e,ex.2.1⟩
  ·obtain⟨o,_,_,_,e,ex,_⟩:=I.hok p _ hk;refine⟨⟨o,e,ex.1⟩,fun a e2=>?_⟩
   cases e2;exact⟨o,e,ex.2.1⟩
 |_=>exact Me ty
def Nr (K:bn) (T:String) (r:V->List V->Hp->VK->Prop) (to:TE) (t:TA):TE:=fun σ H Q=>to σ H fun x H1=>IE K T x H1/\t σ H1 fun xs H2=>r x xs H2 Q
variable {o e:hX}{es:List hX}{to:TE}{t:TA}{name:cb}{apos bB:xp}{T id:String}{r:V->List V->Hp->VK->Prop}
theorem L3 (pa:PlainAttrs T) (slot:Slot T name id) (AV:typeOf (.builtin id)=pure (.type "method_descriptor")) (hm:Fw X id r) (ho:PE X o to) (ha:PA X (e::es) t)
  (pT:attributeBase o name X.env (eval o X.env)=eval o X.env :=by rfl)
  (uy:((backTo bB (starEach (e::es) X.env)).all (fun x => !x.1) && (backToKw bB (keywordEach [] X.env)).all (fun x=>x.1.isSome)
   && decide ((e::es).length+([]:List Tu).length+(if ([]:List Tu).isEmpty then 0 else 1)<30))=true :=by rfl)
  (hline:(apos.endLine==bB.line)=true :=by rfl) (hs:starEach (e::es) X.env=(false,eval e X.env)::starEach es X.env :=by rfl) (mR:(backTo bB (starEach es X.env)).any (·.1)=false :=by rfl) :
  PE X (.Call (.Attribute o name apos) (e::es) [] bB) (Nr X.K T r to t) :=by
 refine⟨?_⟩;intro pins s σ H Q I h;refine wpAny_Call_method_late pT uy hline rfl (thn (ho pins s σ H _ I h) fun v s1 ⟨x,H1,I1,r1,ty,q1⟩=>?_)
 obtain⟨h1,h2⟩:=IG I1 r1 ty;refine⟨T,id,pa,slot,AV,h1,h2,?_⟩;have hA:=ha bB pins s1 σ H1 _ I1 q1;rw[hs]at hA ⊢;refine Calls.callWith_builtin (by show (false || (backTo bB (starEach es X.env)).any (·.1))=false;rw[mR]<;>rfl) (Calls.evalArgs_plain ?_)
 exact thn hA fun us s2 ⟨vs,H2,I2,r2,q2⟩=>hm pins s2 σ H2 x vs v us Q I2 r1 r2 q2
end
def Nt (X:Cx) (id:String) (r:V->List V->Hp->VK->Prop):Prop:=
 ∀(pins:List (al×lp)) (s:ar) (σ:St) (H:Hp) (x:V) (xs:List V) (v:ap) (us:List ap) (Q:VK),Inv X pins σ H s->RelV x v->Vals xs us->r x xs H Q->
  wpAny (model X.prog X.w) X.A (call (.builtin id) (v::us)) (EP X pins σ Q) X.xe s
theorem Vals.one:∀{x:V}{us:List ap},Vals [x] us->∃u,us=[u]/\RelV x u
 |_,_,.cons r .nil=>⟨_,rfl,r⟩
theorem Vals.eraseIdx:∀{xs:List V}{us:List ap}(i:Nat),Vals xs us->Vals (xs.eraseIdx i) (us.eraseIdx i)
 |_,_,_,.nil=>.nil
 |_,_,0,.cons _ t=>t
 |_,_,i+1,.cons r t=>.cons r (Vals.eraseIdx i t)
theorem Vals.rep {xs:List V}{us:List ap}(h:Vals xs us):∀k:Nat,Vals (qr k xs).flatten (qr k us).flatten
 |0=>.nil
 |k+1=>by
          rw[wp,wp,Ll,Ll];exact Vals.append h (Vals.rep h k)
theorem sv {α:Type}:∀(l:List α) (i:Nat),(l.eraseIdx i).length<=l.length
 | [],_=>bv _
 |_::_,0=>AN _
 |_::r,i+1=>Nat.succ_le_succ (sv r i)
theorem foldl_rep (its:List ap):∀(k:Nat) (acc:List ap),
  List.foldl (fun x1 x2=>x1++x2) acc.toArray (qr k its.toArray)=(acc++(qr k its).flatten).toArray
 |0,acc=>by simp
 |k+1,acc=>by
          have e:acc.toArray++its.toArray=(acc++its).toArray :=by simp
          have e2:(acc++its)++(qr k its).flatten=acc++(qr (k+1) its).flatten :=by
           rw[wp,Ll,Lo]
          rw[<- e2,<- foldl_rep its k (acc++its),<- e,wp,Uu]
section
variable {X:Cx}{pins:List (al×lp)}{σ:St}{H:Hp}{s:ar}{l b:al}{xs ys zs:List V}
theorem Inv.IH {its its':List ap}{n:Nat}{f:Array ap->Array ap}{t':Nat}(I:Inv X pins σ H s) (hH:H l=some (.lst xs))
  (e:s.heap.get? l=some {cls:=.type "list",data:=.seq its.toArray n}) (hf:f its.toArray=its'.toArray) (hv:Vals ys its') (hz:ys.length<=sizeLine) :
  Inv X pins σ (upd H l (.lst ys)) {s with heap:=s.heap.update l (ze f),toks:=t'}:=by
 have q:=PySem.IsL.update e f;rw[hf]at q;refine I.write (x:=l) (e:=l) (by rw[hH];exact trivial) (.inl rfl) (fun b' u hb hu=>(mT s.heap (ze f) (Co hb)).trans hu) ⟨_,q⟩ ?_
 exact⟨hz,its',_,hv,q⟩
theorem Inv.OX {its:List ap}{t':Nat}(I:Inv X pins σ H s) (hv:Vals ys its) (hz:ys.length<=sizeLine) :
  Inv X pins σ (upd H s.heap.objs.size (.lst ys)) {s with heap:=s.heap.push {cls:=.type "list",data:=.seq its.toArray},toks:=t'}:=
 I.laid (fun _ _ q=>bi _ q) (bv _) ⟨hz,its,0,hv,io _ rfl⟩
theorem Inv.fresh (I:Inv X pins σ H s):H s.heap.objs.size=none:=I.hok.fresh (bv _)
theorem Inv.yU (I:Inv X pins σ H s) (hH:H l=some (.lst xs)):xs.length<=sizeLine/\∃(its:List ap) (n:Nat),Vals xs its/\xs.length=its.length/\s.heap.get? l=some {cls:=.type "list",data:=.seq its.toArray n}:=by
 obtain⟨z,its,n,r,e⟩:=I.hok l _ hH;exact⟨z,its,n,r,r.length,e⟩
theorem DN {n:Nat}(h:n<=sizeLine):Tl n=false :=by
 unfold Tl;exact decide_eq_false (by omega)
end
section
variable {X:Cx}
def GC:V->List V->Hp->VK->Prop:=fun x vs H Q=>∃l xs y,x=.ref l/\vs=[y]/\H l=some (.lst xs)/\xs.length<sizeLine/\Q .ao (upd H l (.lst (xs++[y])))
theorem sx:Nt X "list.append" GC :=by
 intro pins s σ H x vs v us Q I rx rv h;obtain⟨l,xs,y,rfl,rfl,hH,hz,q⟩:=h;cases rx;obtain⟨u,rfl,ru⟩:=rv.one;obtain⟨z,its,n,r,hl,e⟩:=I.yU hH;refine VA F.slot_list_append ⟨_,e,rfl⟩ F.entry_list_append (F.args_list_append_2 _ _) (PySem.list_append l its.toArray n u (by rw[dL];omega)) ⟨e,?_⟩
 refine⟨.ao,_,I.IH (its':=its++[u]) hH e (by simp) (r.append (.cons ru .nil)) ?_,rfl,q⟩
 rw[zw,S0];omega
def II:V->List V->Hp->VK->Prop:=fun x vs H Q=>∃l xs i k y,x=.ref l/\vs=[.int i]/\H l=some (.lst xs) /\ -(2 ^ 63)<=i/\i<2 ^ 63/\seqIndex? i xs.length=some k/\xs[k]?=some y/\Q y (upd H l (.lst (xs.eraseIdx k)))
theorem DP:Nt X "list.pop" II :=by
 intro pins s σ H x vs v us Q I rx rv h;obtain⟨l,xs,i,k,y,rfl,rfl,hH,h1,h2,hk,hy,q⟩:=h;cases rx;obtain⟨u,rfl,ru⟩:=rv.one;obtain⟨t,rfl⟩:=ru;obtain⟨z,its,n,r,hl,e⟩:=I.yU hH;obtain⟨w,hw,AQ⟩:=r.get hy;refine VA F.slot_list_pop ⟨_,e,rfl⟩ F.entry_list_pop (F.args_list_pop_2 _ _)
  (MeetsSeq.list_pop_at l its.toArray n i t k w (fitsIndex_both h1 h2) (by rw[dL,<- hl];exact hk) (by rw[<- EU];exact hw) (by rw[dL];omega)) ⟨e,?_⟩
 refine⟨y,_,I.IH (its':=its.eraseIdx k) hH e ?_ (r.eraseIdx k) ?_,AQ,q⟩
 ·show its.toArray.eraseIdxIfInBounds k=(its.eraseIdx k).toArray;rw[List.eraseIdxIfInBounds_toArray]
 ·have:=sv xs k;omega
def OY:R2:=fun x y H Q=>∃l k xs,x=.ref l/\y=.int k/\H l=some (.lst xs) /\ -(2 ^ 63)<=k/\k<2 ^ 63/\xs.length * k.toNat<=sizeLine /\
 ∀p,H p=none->Q (.ref p) (upd H p (.lst (qr k.toNat xs).flatten))
theorem len_rep {α:Type}(xs:List α) (k:Nat):(qr k xs).flatten.length=k * xs.length :=by
 induction k with
 |zero=>simp
 |succ k ih=>rw[wp,Ll,zw,ih,Nat.succ_mul,Nat.add_comm]
theorem IJ:OpR X (binaryOp .Mult) OY :=by
 intro pins s σ H x y v u Q I rx ry h;obtain⟨l,k,xs,rfl,rfl,hH,h1,h2,hz,q⟩:=h;cases rx;obtain⟨t,rfl⟩:=ry;obtain⟨z,its,n,r,hl,e⟩:=I.yU hH;have hlen:its.toArray.size * k.toNat<=sizeLine :=by rw[dL,<- hl];exact hz
 have OZ:¬ its.toArray.size * k.toNat > (2 ^ 63 - 1) / 8 :=by
  have:(sizeLine:Nat)<=(2 ^ 63 - 1) / 8 :=by decide
  omega
 have O1:¬ (!Builtin.List.listFitsIndex k)=true :=by
  rw[fitsIndex_both h1 h2];exact gc
 have L4:¬ Tl (its.toArray.size * k.toNat)=true :=by
  rw[DN hlen];exact gc
 have O2:List.foldl (fun x1 x2=>x1++x2) #[] (qr (if its.toArray.isEmpty=true then 0 else k.toNat) its.toArray)=(qr k.toNat its).flatten.toArray :=by
  have f0:∀m:Nat,List.foldl (fun x1 x2=>x1++x2) #[] (qr m its.toArray)=(qr m its).flatten.toArray:=fun m=>by
   have:=foldl_rep its m [];rw[ES]at this;exact this
  rw[f0];cases its with
  |nil=>simp
  |cons a r'=>rw[if_neg (by simp)]
 refine wpAny_binaryOp_repeat_ref (T := "list") (U := "int") (by decide) ⟨_,e,rfl⟩ (fun s'=>Tt s' k t) noFill_list_mul F.fills_int_mul F.slot_int_rmul repeat_list F.slot_int_index.lookup
  (VA F.slot_int_rmul (Tt s k t) F.entry_int_rmul (F.args_int_rmul_2 _ _) (int___rmul___int_list k t l its.toArray n)
   ⟨e,rfl,⟨_,e,rfl⟩,VA F.slot_list_mul ⟨_,e,rfl⟩ F.entry_list_mul (F.args_list_mul_2 _ _) (AutoListH.list___mul___list_int_3 l its.toArray n k t O1 OZ L4) ⟨e,?_⟩⟩)
 rw[O2];exact⟨.ref _,_,I.OX (t':=s.toks) (r.rep k.toNat) (by rw[len_rep,Nat.mul_comm];exact hz),rfl,q _ I.fresh⟩
end
end L2
namespace Nu
open PySem PySem.W PySem.Calls PyProof.Rows
theorem pU {P:VB}{h:kt}:∀(ns:List Int) (vs:List ap),WellAll P h vs (ns.map WData.int)->NL vs ns :=by
 intro ns;induction ns with
 |nil=>
  intro vs w;rw[Tn]at w;cases w;exact .nil
 |cons n ns ih=>
  intro vs w;rw[r6]at w;cases w with
  |cons a b=>
   cases a;exact .cons _ _ (ih _ b)
theorem AW {l:OpenLaw}{n:Nat}(hn:l.most=some n) {P:VB}{h:kt}{args:List WData}{vals:List ap}
  (yV:l.row.toRowW.claim.pre args=true) (IK:WellAll P h vals args) :
  ∃a vs ns,vals=[xw a]/\args=[WData.list (ns.map WData.int)]/\h.get? a=some {cls:=.type "list",data:=.seq vs.toArray}/\NL vs ns/\ns.length<=n :=by
 have Qf:WShape.hasAll [] args [.list .int]=true:=(pre_splitW yV).1;have hc:l.pre.holds [] {args:=args}=true:=(pre_splitW yV).2;obtain⟨d,r,rfl,h1,h2⟩:=hasAllW_cons Qf;obtain rfl:=hasAllW_nil h2;obtain⟨xs,rfl,h3⟩:=hasW_list h1;obtain⟨ns,rfl⟩:=items_int h3;have hlen:ns.length<=n :=by
  unfold OpenLaw.pre at hc;have h4:(WTm.not (.lt (.lit (.int (n:Int))) (.len (.arg 0)))).holds [] {args:=[.list (ns.map .int)]}=true :=by
   have h4:=(holds_andW hc).1;rw[hn]at h4;exact h4
  have h5:=condW_of h4 (w_not (w_lt w_lit (w_len_list (w_arg rfl))));rw[br]at h5;refine T4 fun q=>?_
  have q':(n:Int)<((ns.length:Nat):Int) :=by omega
  first
   |(rw[decide_eq_true q']at h5;exact absurd h5 (by decide))
   |(simp at h5;omega)
 cases IK with
 |cons w1 w2=>
  cases w2;cases w1 with
  |list ho iy=>exact⟨_,_,ns,rfl,rfl,ho,pU ns _ iy,hlen⟩
theorem AX (l:OpenLaw) (args:List WData):l.row.toRowW.claim.post args (.bool true) args=true:=
 postW_of (r:=l.row.toRowW) (X:=(true==true))
  (show WShape.has [] (.bool true) .bool=true by first|rfl|decide|simp[WShape.has,WShape.arms,WShape.armsAll])
  (show (WTm.eq .res (.lit (.bool true))).value [] {args:=args,res:=some (.bool true),after:=args}=some (.bool (true==true)) from w_eq_bool (w_res rfl) w_lit) rfl
theorem wA {l:OpenLaw}{n:Nat}{q:i4}{loose:List cb}{XP:(cb->Option ap)->kt->Prop}{YP:i8->kt->Prop}{d:DefRec}
  (hn:l.most=some n) (AY:d.params.defaults=[])
  (call:∀(w:i8) (s₀ aw:ar) (mg mb:cb->Option ap) (fa:al) (o:lp) (pm cd doc:ap) (a:al) (vs:List ap) (ns:List Int),
   Ground q loose [] XP w s₀ mg mb aw.heap->YP w aw.heap->
   aw.heap.get? fa=some o->o.data=.func (docDef d.name d.params d.body d.scope pm cd doc)->aw.heap.CodeRec cd d.name->mg d.name=some (.ref fa)->
   aw.heap.get? a=some {cls:=.type "list",data:=.seq vs.toArray}->NL vs ns->ns.length<=n->aw.gens=#[]->
   codeAny (model l.prog w) callerA (.call (.ref fa) ⟨[.ref a],[]⟩) (fun r s'=>r=.ok (.ret (.bool true))/\OldK aw.heap s'.heap/\s'.os=aw.os/\Vv s'.gens) aw) :
  WalkO q loose XP YP l.row.toRowW d [] (fun f vs=>Vx f vs) :=by
 intro w s₀ aw mg mb G Y fa o pm cd doc dV kV ho hd iR hD AZ hg args vals as yV Sf Sn IK Sq;obtain rfl:dV=.none:=Dflts.none hD AY;obtain rfl:kV=.none:=Dflts.noKw hD;obtain⟨a,vs,ns,rfl,rfl,DQ,hints,hlen⟩:=AW hn yV IK;refine enter_call (Ur (call w s₀ aw mg mb fa o pm cd doc a vs ns G Y ho (fd_plain hd) iR AZ DQ hints hlen hg) fun r s' hq=>?_)
 obtain⟨rfl,h2,h3,h4⟩:=hq;exact⟨.inl ⟨.bool true,.bool true,[],rfl,fun _=>rfl,.bool true,AX l _,fun _=>⟨TY.nil,fun _ hm=>(nomatch hm)⟩⟩,h2,h3,h4⟩
end Nu
namespace L2
open PySem PySem.Spec PyProof.Rows
theorem sy:∀{vs:List ap}{ns:List Int},NL vs ns->Vals (ns.map V.int) vs
 |_,_,.nil=>.nil
 |_,_,.cons n t h=>.cons ⟨t,rfl⟩ (sy h)
def gV (s:tz):Arguments:=match s with
 | .FunctionDef _ a _ _ _ _ _ _ _ _=>a
 |_=>{posonlyargs:=[],args:=[],vararg:=none,kwonlyargs:=[],kw_defaults:=[],kwarg:=none,defaults:=[]}
def dG (s:tz):List tz:=match s with
 | .FunctionDef _ _ b _ _ _ _ _ _ _=>b
 |_=>[]
def ai (s:tz):xy:=match s with
 | .FunctionDef _ _ _ _ _ _ sc _ _ _=>sc
 |_=>{kind:=.function,names:=[],isGenerator:=false,isCoroutine:=false}
abbrev bK:kZ:=fun _ _ _ _ _ _=>False
abbrev E0:XK:=fun _ _ _=>False
theorem bJ {X:Cx}:Passes bK X E0:=fun _ _ _ _ _ _ _ h=>h.elim
structure sA (K:bn) (x qual:cb) (st:tz) (f:al) (fd:mo):Prop where
 ex:∃(oc:ap) (od:Option al) (kV doc pm:ap) (an:Option al) (dZ ct:ap) (mP:Array (Option ap)),
  fd=Go x qual (gV st) (dG st) (ai st) .none kV doc pm an dZ ct/\K.lookup f=some ⟨oc,od,.func fd,mP⟩/\Ts K dZ qual=true
 kp:SS K (.ref f)=true
section
variable {P:i4}{w:i8}{K:bn}{mg:cb->Option ap}{base:kt}
theorem sA.binds {x qual:cb}{st:tz}{f:al}{fd:mo}{ps:List cb}(F:sA K x qual st f fd)
  (h:∀(kV doc pm:ap) (an:Option al) (dZ ct:ap) (us:List ap),us.length=ps.length->bindArgs (Go x qual (gV st) (dG st) (ai st) .none kV doc pm an dZ ct) ⟨us,[]⟩=pure (ps.zip us)):Binds K fd ps [] :=by
 obtain⟨oc,od,kV,doc,pm,an,dZ,ct,mP,rfl,lk,iR⟩:=F.ex;exact .all (h kV doc pm an dZ ct)
theorem IL {x qual:cb}{st:tz}{f:al}{oc:ap}{od an:Option al}{mP:Array (Option ap)}{kV doc pm dZ ct:ap}(l:K.lookup f=some ⟨oc,od,.func (Go x qual (gV st) (dG st) (ai st) .none kV doc pm an dZ ct),mP⟩)
  (c:Ts K dZ qual=true) (k:SS K (.ref f)=true):sA K x qual st f (Go x qual (gV st) (dG st) (ai st) .none kV doc pm an dZ ct):=⟨⟨oc,od,kV,doc,pm,an,dZ,ct,mP,rfl,l,c⟩,k⟩
end
end L2
set_option maxHeartbeats 4000000
namespace L2
open PySem PySem.Spec PyProof.Rows
theorem lz {env:OR}:∀(names:List (cb×So)) (acc:List (cb×al)),(∀n,(n,xL)∈names->∃c,env.cells.lookup n=some c)->
  (∀n c,acc.lookup n=some c->env.cells.lookup n=some c)->
  ∃cl,(forIn names acc fun x r=>if (x.2==xL)=true then (do let a <- cellOf env x.1;pure (Uv ((x.1,a)::r))) else pure (Uv r):TQ (List (cb×al)))=pure cl /\
   (∀n c,cl.lookup n=some c->env.cells.lookup n=some c)/\(∀n,(n,xL)∈names->∃c,cl.lookup n=some c)/\(∀n c,acc.lookup n=some c->∃c',cl.lookup n=some c')
 | [],acc,_,h2=>⟨acc,rfl,h2,fun n h=>by simp at h,fun n c h=>⟨c,h⟩⟩
 |(n,k)::r,acc,h1,h2=>by
          rw[List.forIn_cons];cases hk:(k==xL) with
          |true=>
           have ek:k=xL :=by simpa using hk
           subst ek;obtain⟨c,hc⟩:=h1 n f8;have e1:cellOf env n=pure c :=by unfold cellOf;rw[hc]
           obtain⟨cl,e,a1,a2,a3⟩:=lz r ((n,c)::acc) (fun m hm=>h1 m (ci _ hm)) (fun m c' hm=>by
            rw[Pc]at hm;cases hb:m==n with
            |true=>
             rw[hb]at hm;have e2:m=n :=by simpa using hb
             rw[e2,hc];exact hm
            |false=>rw[hb]at hm;exact h2 m c' hm)
           refine⟨cl,?_,a1,fun m hm=>?_,fun m c' hm=>?_⟩
           ·simp only[if_true,e1];exact e
           ·rcases l7.mp hm with z|z
            ·cases z;exact a3 n c (by rw[Pc];simp)
            ·exact a2 m z
           ·by_cases hb:m=n
            ·subst hb;exact a3 m c (by rw[Pc];simp)
            ·exact a3 m c' (by
              rw[Pc];have:(m==n)=false :=by simpa using hb
              rw[this];exact hm)
          |false=>
           obtain⟨cl,e,a1,a2,a3⟩:=lz r acc (fun m hm=>h1 m (ci _ hm)) h2
           refine⟨cl,?_,a1,fun m hm=>?_,a3⟩
           ·simp only[db,if_false];exact e
           ·rcases l7.mp hm with z|z
            ·cases z;simp at hk
            ·exact a2 m z
theorem hU {scope:xy}{env:OR}(h:∀n,(n,xL)∈scope.names->∃c,env.cells.lookup n=some c) :
  ∃cl,closureFor scope env=pure cl/\(∀n c,cl.lookup n=some c->env.cells.lookup n=some c)/\(∀n,(n,xL)∈scope.names->∃c,cl.lookup n=some c) :=by
 obtain⟨cl,e,a1,a2,_⟩:=lz (env:=env) scope.names [] h (fun n c hn=>by simp at hn)
 refine⟨cl,?_,a1,a2⟩;simp only[closureFor];rw[e];rfl
def cxBlock (X:Cx) (N':List cb) (env':OR) (A':ma) (stack':List OR) (s:ar) (H:Hp) (ex:List al):Cx:=
 {X with N:=N',s₀:=s,H₀:=H,env:=env',A:=A',outer:=X.stack,stack:=stack',ex:=ex,fn:=fun _=>false,pn:=[],xe:=fun _ _=>False}
theorem kj {X:Cx}{pins:List (al×lp)}{σ aQ:St}{H H':Hp}{s:ar}{N':List cb}{env':OR}{A':ma}{stack':List OR}{ex:List al}{h1:kt}{m0:cb->Option ap}{g':Array S5}{tk:Nat}
  (I:Inv X pins σ H s) (tS:env'.scope.kind=.function) (L5:env'.globals=X.env.globals) (O3:env'.builtins=X.env.builtins)
  (dJ:∀n c,env'.cells.lookup n=some c->X.env.cells.lookup n=some c)
  (IM:∀x,(env'.kindOf x=some .cell\/env'.kindOf x=some .free)->∃c,env'.cells.lookup x=some c)
  (hh:X.calm=true->A'.handled=none) (pV:A'.frames=some stack') (O4:stack'=X.stack\/(stack'=env'::X.stack/\env'.frame=some env'.locals))
  (hC:s.heap.objs.size<=env'.locals) (hf:∀b∈ex,cF X pins H b) (O5:∀b∈ex,b<s.heap.objs.size)
  (Nv:Un (gr X.stack) ex H H' s.heap h1) (hok:dI X.prog X.w H' h1) (uz:H' env'.locals=none) (Fx:∀b o,s.heap.get? b=some o->h1.get? b=some o) (jd:h1.Ns env'.locals m0)
  (IP:∀(i:Nat) (x:cb) (v:V),N'[i]?=some x->aQ[i]?=some (some v)->xx env'.scope x->(env'.kindOf x=some .cell\/env'.kindOf x=some .free)/\xx X.env.scope x/\(X.env.kindOf x=some .cell\/X.env.kindOf x=some .free)/\∃j:Nat,X.N[j]?=some x/\σ[j]?=some (some v))
  (hlen:aQ.length=N'.length) (hg:Gn s.gens.size g'):Inv (cxBlock X N' env' A' stack' s H ex) [] aQ H' {s with heap:=h1,gens:=g',toks:=tk}:=by
 have Nw:∀b∈ex,∀x c,X.env.cells.lookup x=some c->c≠b:=fun b hb=>(hf b hb).2.2.2.2.1
 refine⟨⟨I.ok.mod,tS,L5.trans I.ok.glob,O3.trans I.ok.blt,hC,fun x y c a b=>I.ok.inj x y c (dJ x c a) (dJ y c b),IM,fun _ _ z=>(nomatch z),hh,pV,O4,fun b hb=>⟨lf (on (O5 b hb) hC),fun x c e=>Nw b hb x c (dJ x c e)⟩,
   I.bs,wv I.ok.bsz I.sz,fun b o e hb=>?_,fun b hb z=>?_,I.stack,I.rg⟩,rfl,hg,Nv,⟨m0,jd,fun i x v e1 e2 e3=>?_⟩,fun x c e=>?_,uz,fun x c e=>?_,fun p hp=>absurd (show p∈([]:List (al×lp)) from hp) (by simp),hok,hlen⟩
 ·rcases (hf b hb).2.2.2.1 with z|z
  ·exact I.ok.noex b o e z
  ·exact absurd (on (ii e) (wv I.ok.bsz z)) (Fk _)
 ·rcases l7.mp (I.g9 b z) with q|q
  ·exact(hf b hb).2.1 q
  ·exact(hf b hb).2.2.1 q
 ·obtain⟨k1,vx,k2,j,n1,n2⟩:=IP i x v e1 e2 e3;obtain⟨m,hn,hl⟩:=I.loc;obtain⟨u,r,l⟩:=hl j x v n1 n2 vx;refine⟨u,r,.inr ⟨k1,?_⟩⟩;obtain⟨c',Nx⟩:=IM x k1;rcases l with ⟨kl,_⟩|⟨_,c,ec,z⟩
  ·rcases k2 with q|q<;>(rw[kl]at q;cases q)
  ·have:c'=c:=kw ((dJ x c' Nx).symm.trans ec);subst this;exact⟨c',Nx,z.keeps Fx⟩
 ·obtain⟨v,z⟩:=I.cell x c (dJ x c e);exact⟨v,z.keeps Fx⟩
 ·obtain⟨v,o,ho,hd⟩:=I.cell x c (dJ x c e);exact Nv.free c o ho (I.freeC x c (dJ x c e)) fun z=>Nw c z x c (dJ x c e) rfl
theorem lookup_map2 {c:cb->So->So}:∀{names:List (cb×So)}{x:cb},(names.map fun (p:cb×So)=>(p.1,c p.1 p.2)).lookup x=(names.lookup x).map (c x)
 | [],x=>rfl
 |(n,k')::r,x=>by
          have ih:=@lookup_map2 c r x;rw[r6,Pc,Pc];cases hx:x==n with
          |true=>
           have e:x=n :=by simpa using hx
           subst e;rfl
          |false=>exact ih
theorem d7 {scope:xy}{env:OR}(x:cb):(relabel scope env).names.lookup x=(scope.names.lookup x).map fun k=>if (k==.free && env.scope.kind==.function && env.kindOf x==some .cell)=true then .cell else k :=by
 have e:(relabel scope env).names=scope.names.map fun p=>(p.1,(fun n k=>if (k==xL && env.scope.kind==.function && env.kindOf n==some .cell)=true then So.cell else k) p.1 p.2) :=by
  unfold relabel;dsimp only;congr 1
  funext p
  obtain⟨n,k⟩:=p;dsimp only;split<;>rfl
 rw[e];exact lookup_map2 (c:=fun n k=>if (k==xL && env.scope.kind==.function && env.kindOf n==some .cell)=true then So.cell else k)
def aB (N:List cb) (sc scope:xy) (N':List cb) (tn:Nat) (idx:List Nat):Prop:=
 scope.kind=.function/\(∀y∈scope.names,y.2≠.cell/\(y.2=.local->scope.names.lookup y.1=some .local)/\(y.2=.free->sc.names.lookup y.1=some .cell\/sc.names.lookup y.1=some .free)) /\
  N'.length=tn+idx.length/\∀p∈idx.zip (N'.drop tn),N[p.1]?=some p.2/\scope.names.lookup p.2=some .free
instance (N:List cb) (sc scope:xy) (N':List cb) (tn:Nat) (idx:List Nat):Decidable (aB N sc scope N' tn idx) :=by unfold aB;infer_instance
def bc (tn:Nat) (idx:List Nat) (σ:St):St:=qr tn none++idx.map fun i=>(σ[i]?).join
theorem aB.at {N:List cb}{sc scope:xy}{N':List cb}{tn:Nat}{idx:List Nat}(B:aB N sc scope N' tn idx) {σ:St}{i:Nat}{x:cb}{v:V}(h1:N'[i]?=some x) (h2:(bc tn idx σ)[i]?=some (some v)) :
  scope.names.lookup x=some .free/\∃j:Nat,N[j]?=some x/\σ[j]?=some (some v) :=by
 obtain⟨_,_,b3,b4⟩:=B;unfold bc at h2;by_cases hi:i<tn
 ·rw[IR (by simpa using hi),Ps,if_pos hi]at h2
  cases h2
 ·rw[List.getElem?_append_right (by simpa using hi),SZ,ij]at h2
  cases e:idx[i - tn]? with
  |none=>rw[e]at h2;cases h2
  |some k=>
   rw[e]at h2;have h3:(σ[k]?).join=some v:=kw h2;have e2:(N'.drop tn)[i - tn]?=some x :=by
    rw[List.getElem?_drop];have:tn+(i - tn)=i :=by omega
    rw[this];exact h1
   have m:(k,x)∈idx.zip (N'.drop tn) :=by
    refine gl (i:=i - tn) ?_;rw[IS];exact⟨e,e2⟩
   obtain⟨a,b⟩:=b4 _ m;refine⟨b,k,a,?_⟩;cases q:σ[k]? with
   |none=>rw[q]at h3;cases h3
   |some w=>rw[q]at h3;exact congrArg some h3
theorem aB.len {N:List cb}{sc scope:xy}{N':List cb}{tn:Nat}{idx:List Nat}(B:aB N sc scope N' tn idx) (σ:St):(bc tn idx σ).length=N'.length :=by
 rw[B.2.2.1];unfold bc;simp
section
variable {X:Cx}
def gv (X:Cx) (ifs:List hX) (tt:TT):Prop:=
 ∀(pins:List (al×lp)) (s:ar) (σ:St) (H:Hp) (Q:Bool->Hp->Prop),Inv X pins σ H s->tt σ H Q->
  wpAny (model X.prog X.w) X.A (forIn ifs true fun c r=>if r=true then do let ok <- isTrue c X.env (eval c X.env);pure (Uv ok) else pure (Uv r)) (TP X pins σ Q) X.xe s
def L6:TT:=fun _ H Q=>Q true H
theorem GD:gv X [] L6:=fun _ _ _ H _ I h=>wpAny_tests_nil ⟨H,I,h⟩
theorem GF {c:hX}{tc:TT}(h:PT X c tc):gv X [c] tc:=fun pins s σ H Q I q=>wpAny_tests_one (h pins s σ H Q I q)
abbrev my (X:Cx) (N':List cb) (scope:xy) (cl:List (cb×al)) (C:al) (s:ar) (H:Hp) (fp:List al):Cx:=cxBlock X N' (compEnvC scope cl C X.env) X.A X.stack s H fp
abbrev Blk (X:Cx) (N':List cb) (scope:xy) (P:Cx->Prop):Prop:=∀(cl:List (cb×al)) (C:al) (s:ar) (H:Hp) (fp:List al),P (my X N' scope cl C s H fp)
end
abbrev TB:=St->Hp->(St->Hp->Prop)->Prop
def PB (X:Cx) (b:TQ Unit) (t:TB):Prop:=∀(pins:List (al×lp)) (s:ar) (σ:St) (H:Hp) (Q:St->Hp->Prop),Inv X pins σ H s->t σ H Q->wpAny (model X.prog X.w) X.A b (fun _ s'=>∃aQ H',Inv X pins aQ H' s'/\Q aQ H') X.xe s
def lB (J:It) (g:TG) (tt:TT) (tb:TB) (QE:St->Hp->Prop) (W:Nat->Nat->St->Hp->Prop):Prop:=∀i m τ H,W i m τ H->
 (J.stop i H/\QE τ H)\/(J.go i H/\∀x H',J.yld i H x H'->g x τ H' fun aj H2=>tt aj H2 fun b H3=>if b=true then tb aj H3 fun Qg H4=>∃m',m'<m/\W (i+1) m' Qg H4 else ∃m',m'<m/\W (i+1) m' aj H3)
def tT (e tg iter:hX) (ifs:List hX) (d:Nat) (it acc:ap) (env:OR) (body:TQ Unit):TQ Fin:=do
 standAt iter.pos
 match <- pyNext it with
 |none=>pure (.done .next)
 |some v=>
  letOwnedTupleGo tg it v
  assign tg env v
  let mut ok:=true
  for c in ifs do
   if ok then ok <- isTrue c env (eval c env)
  if ok then body
  again (.compLoop e d it acc env)
section
variable {Y:Cx}{e tg iter:hX}{ifs:List hX}{dp:Nat}{it:al}{acc:ap}{body:TQ Unit}{fp:List al}{bp:Nat->kt->Prop}{J:It}{g:TG}{tt:TT}{tb:TB}{QE:St->Hp->Prop}{W:Nat->Nat->St->Hp->Prop}{R:TR->ar->Prop}{pins:List (al×lp)}{τ:St}{H:Hp}{s:ar}{m0:Nat}
structure uA (Y:Cx) (e tg iter:hX) (ifs:List hX) (dp:Nat) (acc:ap) (body:TQ Unit):Prop where
 q:∀it,(Code.compLoop e dp it acc Y.env).quiet=true
 den:∀it Q E s,wpAny (model Y.prog Y.w) Y.A ((compTurn e dp it acc Y.env).onRaise (fun x=>do noteFrame x Y.env;theTreesLotGoes x)) Q E s->wpAny (model Y.prog Y.w) (Y.A.under (.compLoop e dp it acc Y.env)) ((model Y.prog Y.w).den (.compLoop e dp it acc Y.env)) Q E s
 turn:∀it,compTurn e dp it acc Y.env=tT e tg iter ifs dp it acc Y.env body
 denS:∀it Q E s,wpAny (model Y.prog Y.w) Y.A ((compStart e dp it acc Y.env).onRaise (fun x=>do noteFrame x Y.env;standAt theWindowsPlace)) Q E s->wpAny (model Y.prog Y.w) (Y.A.under (.compStart e dp it acc Y.env)) ((model Y.prog Y.w).den (.compStart e dp it acc Y.env)) Q E s
 cl:(clausesOf e)[dp]?=some ⟨tg,iter,ifs,0⟩
theorem mS (hc:Y.calm=true) (mU:∀x s,Y.xe x s->False) (C:uA Y e tg iter ifs dp acc body) (hg:PG Y tg g) (ht:gv Y ifs tt) (hb:PB Y body tb) (T:Turn Y.prog Y.w Y.K tg J fp it bp) (turn:lB J g tt tb QE W)
  (I:Inv Y pins τ H s) (st:bp 0 s.heap) (f:∀b∈fp,cF Y pins H b) (w0:W 0 m0 τ H) (hR:∀aU H' s',Inv Y pins aU H' s'->QE aU H'->R (.ok .next) s') :
  codeAny (model Y.prog Y.w) Y.A (.compLoop e dp (.ref it) acc Y.env) R s :=by
 have stat:∀{H':Hp},(∀b∈fp,H' b=none)->∀b∈fp,cF Y pins H' b:=fun hn b hb=>⟨hn b hb,(f b hb).2⟩
 refine codeAny_loop (C.q _) (fun n s'=>∃i τ H',Inv Y pins τ H' s'/\bp i s'.heap/\(∀b∈fp,H' b=none)/\W i n τ H') (fun n s hI=>?_) m0 ⟨0,τ,H,I,st,fun b hb=>(f b hb).1,w0⟩
 refine C.den _ _ _ _ (wpAny_noted ?_);rw[C.turn];unfold tT;obtain⟨i,τ,H3,I3,sj,Az,w3⟩:=hI;rcases turn i n τ H3 w3 with ⟨stop,qn⟩|⟨go,step⟩
 ·refine ag (BY (ag (l8 (T.done Y rfl rfl rfl hc i pins s τ H3 (fun _ _=>False) I3 (stat Az) sj stop) (fun r s4 ⟨hr,I4⟩=>?_) fun _ _ z=>z.elim)))
  subst hr;exact ba (hR _ _ _ I4 qn)
 ·refine ag (BY (ag (l8 (T.item Y rfl rfl rfl hc i pins s τ H3 (fun _ _=>False) I3 (stat Az) sj go) (fun r s4 ⟨u,hr,h4⟩=>?_) fun _ _ z=>z.elim)))
  subst hr;refine ag (l8 h4 (fun _ s5 ⟨x,H5,I5,r5,y5,jF,uk⟩=>?_) fun _ _ z=>z.elim)
  have um:=I5.pinned (stat uk) (T.obj _ _ jF);have again:∀{oG:St} {H7:Hp} {s7:ar},Inv Y (pins++fw fp s5.heap) oG H7 s7->(∃m',m'<n/\W (i+1) m' oG H7)->
    ∃m,m<n/\∃i τ H',Inv Y pins τ H' s7/\bp i s7.heap/\(∀b∈fp,H' b=none)/\W i m τ H':=fun {oG H7 s7} I7 n7=>by
   obtain⟨m',hm,w7⟩:=n7;refine⟨m',hm,i+1,oG,H7,I7.du,T.keep _ _ _ jF fun b hb o e=>(I7.pin (b,o) (c8 _ (c8 _ (cM hb e)))).1,fun b hb=>?_,w7⟩
   obtain⟨o,e,d⟩:=T.obj _ _ jF b hb;exact(I7.pin (b,o) (c8 _ (c8 _ (cM hb e)))).2.1
  refine ag (l8 (hg _ s5 τ H5 x u _ um r5 (step x H5 y5)) (fun _ s6 ⟨je,H6,I6,q6⟩=>?_) fun _ _ z=>(mU _ _ z).elim)
  refine ag (l8 (ht _ s6 je H6 _ I6 q6) (fun ok s7 ⟨H7,I7,q7⟩=>?_) fun _ _ z=>(mU _ _ z).elim)
  cases ok with
  |false=>exact ba ⟨rfl,again I7 q7⟩
  |true=>
   refine ag (l8 (hb _ s7 je H7 _ I7 q7) (fun _ s8 ⟨Sr,H8,I8,q8⟩=>?_) fun _ _ z=>(mU _ _ z).elim)
   exact ba ⟨rfl,again I8 q8⟩
theorem lC (C:uA Y e tg iter ifs dp acc body) (T:Turn Y.prog Y.w Y.K tg J fp it bp) (st:bp 0 s.heap)
  (h:codeAny (model Y.prog Y.w) Y.A (.compLoop e dp (.ref it) acc Y.env) R s):codeAny (model Y.prog Y.w) Y.A (.compStart e dp (.ref it) acc Y.env) R s :=by
 refine Vm (C.denS _ _ _ _ (wpAny_notedAt ?_));unfold compStart;rw[C.cl];show wpAny _ _ (ask>>=_) _ _ s;refine ag (Pd (wpAny_ite ?_));split
 ·first
   |exact ag (ba (ba (VE rfl h)))
   |exact ba (VE rfl h)
 ·have h2:wpAny (model Y.prog Y.w) Y.A (pyIter (.ref it)) (fun A0 s'=>codeAny (model Y.prog Y.w) Y.A (.compLoop e dp A0 acc Y.env) R s') (notedBy (model Y.prog Y.w) Y.A Y.env fun x s'=>R (.error x) s') s:=T.self _ 0 _ _ _ st h
  first
   |exact ag (GS (ag (BY (ag (l8 h2 (fun A0 s' h'=>ba (VE (C.q A0) h')) fun _ _ x=>x)))))
   |(refine ag (GS ?_);show wpAny _ _ (standAt iter.pos>>=_) _ _ s;exact ag (BY (ag (l8 h2 (fun A0 s' h'=>ba (VE (C.q A0) h')) fun _ _ x=>x))))
end
section
variable {Y:Cx}
def uB (D:al) (te:TE):TB:=fun τ H Q=>te τ H fun y H4=>∃ys,H4 D=some (.lst ys)/\ys.length<sizeLine/\Q τ (upd H4 D (.lst (ys++[y])))
theorem GH {elt:hX}{te:TE}{D:al}(h:PE Y elt te):PB Y (do let _ <- call (.builtin "list.append") [.ref D,<- eval elt Y.env]) (uB D te) :=by
 intro pins s τ H Q I q;refine ag (l8 (h pins s τ H _ I q) (fun yv s8 ⟨y,H8,I8,r8,q8⟩=>?_) fun _ _ z=>z)
 obtain⟨ys,hD,hsz,w8⟩:=q8;refine ag (l8 (sx (X:=Y) _ s8 τ H8 (.ref D) [y] (.ref D) [yv] (fun v H9=>v=.ao/\H9=upd H8 D (.lst (ys++[y]))) I8 rfl (.cons r8 .nil) ⟨_,ys,y,rfl,rfl,hD,hsz,rfl,rfl⟩) (fun rv s9 ⟨v9,H9,I9,_,_,e9⟩=>?_) fun _ _ z=>z)
 subst e9;exact ba ⟨τ,_,I9,w8⟩
end
section
variable {X:Cx}
theorem compG_core {pins:List (al×lp)}{σ:St}{H2:Hp}{s2:ar}{e tg iter:hX}{ifs:List hX}{scope:xy}{N':List cb}{tn:Nat}{idx:List Nat}{g:TG}{tt:TT}{tb:al->TB}{body:ap->OR->TQ Unit}{it:al}{fp:List al}{bp:Nat->kt->Prop}{J:It}
  {cl:List (cb×al)} {E:ap->ar->Prop} {RR:ap->al->TR->ar->Prop} {Q:VK} {mk:TQ ap} {O0:HO} {o0:lp}
  (IQ:∀(Q:ap->ar->Prop),Q (.ref s2.heap.objs.size) {s2 with heap:=s2.heap.push o0}->wpAny (model X.prog X.w) X.A mk Q E s2) (pV:o0.isFreed=false)
  (uC:∀(H:Hp) (h1:kt),h1.get? s2.heap.objs.size=some o0->bz X.prog X.w H h1 s2.heap.objs.size O0)
  (hc:X.calm=true) (B:aB X.N X.env.scope scope N' tn idx)
  (hC:∀(D:al),Blk X N' scope fun Y=>uA Y e tg iter ifs 0 (.ref D) (body (.ref D) Y.env))
  (hg:Blk X N' scope fun Y=>PG Y tg g) (ht:Blk X N' scope fun Y=>gv Y ifs tt) (hb:∀D,Blk X N' scope fun Y=>PB Y (body (.ref D) Y.env) (tb D))
  (I:Inv X pins σ H2 s2) (T:Turn X.prog X.w X.K tg J fp it bp) (st:bp 0 s2.heap) (f2:∀b∈fp,cF X pins H2 b)
  (dS:∀n c,cl.lookup n=some c->X.env.cells.lookup n=some c) (fA:∀n,(n,xL)∈scope.names->∃c,cl.lookup n=some c)
  (hq:∀D,H2 D=none->∃W:Nat->Nat->St->Hp->Prop,(∃m,W 0 m (bc tn idx σ) (upd H2 D O0))/\lB J g tt (tb D) (fun _ H'=>Q (.ref D) H') W)
  (uD:∀D C m s' H',Inv X pins σ H' s'->cF X pins H' C->s'.heap.Ns C m->Q (.ref D) H'->RR (.ref D) C (.ok .next) s') :
  wpAny (model X.prog X.w) X.A mk (fun acc o4=>wpAny (model X.prog X.w) X.A (newFunctionEnv scope X.env.globals cl [] X.env.qual none .none (some X.env)) (fun jI o5=>
   codeAny (model X.prog X.w) X.A (.compStart e 0 (.ref it) acc {jI with scope:=relabel scope X.env}) (RR acc jI.locals) o5) E o4) E s2 :=by
 obtain⟨b1,b2,b3,b4⟩:=id B;refine IQ _ (Uw (fun y hy=>(b2 y hy).1) (by intro y hy;simp at hy) (fun fB fD dM=>?_) b1)
 dsimp only at fD dM ⊢;generalize hG:s2.heap.push o0=G at fD dM ⊢
 have uE:G.objs.size=s2.heap.objs.size+1 :=by rw[<- hG,B0]
 have sC:s2.heap.objs.size≠G.objs.size :=by rw[uE];exact lf (AL _)
 have jJ:s2.heap.objs.size<=G.objs.size :=by rw[uE];exact AN _
 have below:∀b,b<s2.heap.objs.size->b≠G.objs.size:=fun b hb=>by rw[uE];exact lf (wS hb)
 have old:∀b o,s2.heap.get? b=some o->fB.get? b=some o:=fun b o e=>dM.extBut b o (below b (ii e)) (bi _ (hG▸bi _ e))
 have A1:fB.get? s2.heap.objs.size=some o0:=dM.extBut _ _ sC (bi _ (hG▸io _ pV));have sD:H2 s2.heap.objs.size=none:=I.hok.fresh (bv _);have uz:upd H2 s2.heap.objs.size O0 G.objs.size=none :=by rw[aq (Co sC)];exact I.hok.fresh jJ
 have uF:dI X.prog X.w (upd H2 s2.heap.objs.size O0) fB:=I.hok.laid old (bv _) (uC _ _ A1);have jK:∀b∈fp,b<s2.heap.objs.size:=fun b hb=>let ⟨o,e,_⟩:=T.obj _ _ st b hb;ii e
 obtain⟨W,⟨m0,w0⟩,turn⟩:=hq s2.heap.objs.size sD;have I1:Inv (my X N' scope cl G.objs.size s2 H2 fp) [] (bc tn idx σ) (upd H2 s2.heap.objs.size O0) {s2 with heap:=fB,toks:=s2.toks+([]:List (cb×ap)).length}:=by
  refine kj (g':=s2.gens) (m0:=fun x=>([]:List (cb×ap)).reverse.lookup x) I b1 rfl rfl dS (fun x hx=>?_) (fun z=>I.ok.hd z) I.ok.frames (.inl rfl) jJ f2 jK (Un.laid old (bv _) sD) uF uz old fD (fun i x v e1 e2 e3=>?_) (B.len σ) I.bare.self
  ·have d6:(relabel scope X.env).names.lookup x=some .cell\/(relabel scope X.env).names.lookup x=some .free:=hx;rw[d7]at d6;cases q:scope.names.lookup x with
   |none=>rw[q]at d6;rcases d6 with z|z<;>cases z
   |some k0=>
    have hm:=u7 q;rw[q]at d6;by_cases hk:k0=.free
    ·subst hk;exact fA x hm
    ·have nk:(k0==xL)=false :=by simpa using hk
     have nc:=(b2 _ hm).1;simp only[Cf,nk,OL,db,if_false]at d6;rcases d6 with z|z
     ·exact absurd (kw z) nc
     ·exact absurd (kw z) hk
  ·obtain⟨fr,j,e4,e5⟩:=B.at e1 e2;have kx:=(b2 _ (u7 fr)).2.2 rfl;refine⟨?_,.inr kx,kx,j,e4,e5⟩;show (relabel scope X.env).names.lookup x=some .cell\/(relabel scope X.env).names.lookup x=some .free;rw[d7,fr];simp only[Cf];split
   ·exact .inl rfl
   ·exact .inr rfl
 have stat:∀b∈fp,cF (my X N' scope cl G.objs.size s2 H2 fp) [] (upd H2 s2.heap.objs.size O0) b:=fun b hb=>by
  refine⟨by rw[aq (lf (jK b hb))];exact(f2 b hb).1,below b (jK b hb),fun z=>?_,.inl hb,fun x c e=>(f2 b hb).2.2.2.2.1 x c (dS x c e),fun p hp=>absurd (show p∈([]:List (al×lp)) from hp) (by simp)⟩
  rcases l7.mp (I.g9 b z) with q|q
  ·exact(f2 b hb).2.1 q
  ·exact(f2 b hb).2.2.1 q
 have sE:bp 0 fB:=T.keep _ _ _ st fun b _ o e=>old b o e
 refine lC (Y:=my X N' scope cl G.objs.size s2 H2 fp) (hC _ cl G.objs.size s2 H2 fp) T sE (mS (Y:=my X N' scope cl G.objs.size s2 H2 fp) hc (fun _ _ z=>z) (hC _ cl G.objs.size s2 H2 fp) (hg cl G.objs.size s2 H2 fp) (ht cl G.objs.size s2 H2 fp) (hb _ cl G.objs.size s2 H2 fp) T turn I1 sE stat w0 fun aU H' s' I4 qn=>?_)
 have J2:Inv X pins σ H' s':=I.pM I4.os I4.base I4.hok I4.bare fun b hb=>⟨(f2 b hb).2.2.2.1,(f2 b hb).2.1,(f2 b hb).2.2.2.2.1,(f2 b hb).2.2.2.2.2⟩
 obtain⟨mm,hm,_⟩:=I4.loc;exact uD _ _ mm s' H' J2 (I.mL jJ I4.free) hm qn
def tU (J:It) (g:TG) (tt:TT) (te:TE) (D:al) (Q:VK) (W:Nat->Nat->St->Hp->Prop):Prop:=∀i m τ H,W i m τ H->
 (J.stop i H/\Q (.ref D) H)\/(J.go i H/\∀x H',J.yld i H x H'->g x τ H' fun aj H2=>tt aj H2 fun b H3=>if b=true then te aj H3 fun y H4=>∃ys m',H4 D=some (.lst ys)/\ys.length<sizeLine/\m'<m/\W (i+1) m' aj (upd H4 D (.lst (ys++[y]))) else ∃m',m'<m/\W (i+1) m' aj H3)
def tV (tn:Nat) (idx:List Nat) (wi:TI) (g:TG) (tt:TT) (te:TE):TE:=fun σ H Q=>wi σ H fun J H1=>∀D,H1 D=none->∃W:Nat->Nat->St->Hp->Prop,(∃m,W 0 m (bc tn idx σ) (upd H1 D (.lst [])))/\tU J g tt te D Q W
theorem yW {J:It}{g:TG}{tt:TT}{te:TE}{D:al}{Q:VK}{W:Nat->Nat->St->Hp->Prop}(h:tU J g tt te D Q W):lB J g tt (uB D te) (fun _ H=>Q (.ref D) H) W :=by
 simp only[tU,exists_and_left]at h;exact h
theorem DR (elt tg iter:hX) (ifs:List hX) (scope:xy) (pos:xp) (it acc:ap) (env:OR) :
  compTurn (.ListComp elt [⟨tg,iter,ifs,0⟩] scope pos) 0 it acc env=tT (.ListComp elt [⟨tg,iter,ifs,0⟩] scope pos) tg iter ifs 0 it acc env (do let _ <- call (.builtin "list.append") [acc,<- eval elt env]) :=by
 rfl
theorem sF {pins:List (al×lp)}{σ:St}{H2:Hp}{s2:ar}{tg elt iter:hX}{ifs:List hX}{scope:xy}{pos:xp}{N':List cb}{tn:Nat}{idx:List Nat}{g:TG}{tt:TT}{te:TE}{it:al}{fp:List al}{bp:Nat->kt->Prop}{J:It}
  {cl:List (cb×al)} {E:ap->ar->Prop} {RR:ap->al->TR->ar->Prop} {Q:VK}
  (hc:X.calm=true) (B:aB X.N X.env.scope scope N' tn idx)
  (hg:Blk X N' scope fun Y=>PG Y tg g) (ht:Blk X N' scope fun Y=>gv Y ifs tt) (he:Blk X N' scope fun Y=>PE Y elt te)
  (I:Inv X pins σ H2 s2) (T:Turn X.prog X.w X.K tg J fp it bp) (st:bp 0 s2.heap) (f2:∀b∈fp,cF X pins H2 b)
  (dS:∀n c,cl.lookup n=some c->X.env.cells.lookup n=some c) (fA:∀n,(n,xL)∈scope.names->∃c,cl.lookup n=some c)
  (hq:∀D,H2 D=none->∃W:Nat->Nat->St->Hp->Prop,(∃m,W 0 m (bc tn idx σ) (upd H2 D (.lst [])))/\tU J g tt te D Q W)
  (uD:∀D C m s' H',Inv X pins σ H' s'->cF X pins H' C->s'.heap.Ns C m->Q (.ref D) H'->RR (.ref D) C (.ok .next) s') :
  wpAny (model X.prog X.w) X.A (newList []) (fun acc o4=>wpAny (model X.prog X.w) X.A (newFunctionEnv scope X.env.globals cl [] X.env.qual none .none (some X.env)) (fun jI o5=>
   codeAny (model X.prog X.w) X.A (.compStart (.ListComp elt [⟨tg,iter,ifs,0⟩] scope pos) 0 (.ref it) acc {jI with scope:=relabel scope X.env}) (RR acc jI.locals) o5) E o4) E s2:=
 compG_core (body:=fun acc env=>do let _ <- call (.builtin "list.append") [acc,<- eval elt env]) (tb:=fun D=>uB D te) (O0:=.lst []) (o0:={cls:=.type "list",dict:=none,data:=.seq ([]:List ap).toArray})
  (fun Q q=>AS q) rfl (fun H h1 hd=>⟨sB _,[],0,.nil,hd⟩) hc B (fun D cl C s H fp=>⟨fun _=>rfl,fun _ _ _ _ h=>h,fun _=>DR ..,fun _ _ _ _ h=>h,rfl⟩) hg ht (fun D cl C s H fp=>GH (he cl C s H fp))
  I T st f2 dS fA (fun D hD=>let ⟨W,w0,t⟩:=hq D hD;⟨W,w0,yW t⟩) uD
variable {tg elt iter:hX}{ifs:List hX}{scope:xy}{pos:xp}{N':List cb}{tn:Nat}{idx:List Nat}{wi:TI}{g:TG}{tt:TT}{te:TE}
theorem cF.turn {pins:List (al×lp)}{σ:St}{H:Hp}{s:ar}{C:al}{h':kt}(f:cF X pins H C) (I:Inv X pins σ H s) (hs:DO C s.heap h'):Inv X pins σ H {s with heap:=h'}:=
 I.turned (t':=s.toks) (fun b o hb e=>(hs.2 b hb).trans e) f.1 f.2.1 f.2.2.2.1 f.2.2.2.2.1 f.2.2.2.2.2
theorem wB (hc:X.calm=true) (B:aB X.N X.env.scope scope N' tn idx) (hi:PI X tg iter wi)
  (hg:Blk X N' scope fun Y=>PG Y tg g) (ht:Blk X N' scope fun Y=>gv Y ifs tt) (he:Blk X N' scope fun Y=>PE Y elt te)
  (hs:∀x,foldedSetIterable iter X.env x=pure x :=by intro _;rfl):PE X (.ListComp elt [⟨tg,iter,ifs,0⟩] scope pos) (tV tn idx wi g tt te) :=by
 refine⟨?_⟩;intro pins s σ H Q I h;obtain⟨cl,jo,dS,fA⟩:=hU (scope:=scope) (env:=X.env) fun n hn=>I.ok.has n ((B.2.1 _ hn).2.2 rfl)
 rw[eval_ListComp];refine Pe (use:=none) rfl hs jo B.1 (fun y hy=>(B.2.1 y hy).2.1) (l8 (hi pins s σ H _ I h) (fun xv s1 h1=>l8 h1 (fun uf s2 h2=>?_) fun _ _ z=>z) fun _ _ z=>z)
 obtain⟨it,fp,bp,J,H2,e,I2,T,mM,f2,q2⟩:=h2;subst e;refine sF (RR:=fun acc C=>compPost (model X.prog X.w) X.A X.xe none (EP X pins σ Q) acc C) hc B hg ht he I2 T mM f2 dS fA q2 fun D C m s' H' J2 fC hm q=>?_
 exact⟨m,hm,fun h' jf=>⟨.ref D,H',fC.turn J2 jf,rfl,q⟩⟩
theorem pW {i:Nat}{y:cb}{py mV:xp}(hN:X.N.Nodup) (cI:X.N[i]?=some y) (hy:X.env.scope.names.lookup y=some .local) (hc:X.calm=true) (B:aB X.N X.env.scope scope N' tn idx) (hi:PI X tg iter wi)
  (hg:Blk X N' scope fun Y=>PG Y tg g) (ht:Blk X N' scope fun Y=>gv Y ifs tt) (he:Blk X N' scope fun Y=>PE Y elt te)
  (A7:swapsWith (.ListComp elt [⟨tg,iter,ifs,0⟩] scope pos) (some (.Name y py)) mV.line X.env=pure true :=by rfl)
  (hs:∀x,foldedSetIterable iter X.env x=pure x :=by intro _;rfl):PS X (.Assign [.Name y py] (.ListComp elt [⟨tg,iter,ifs,0⟩] scope pos) mV) (ud (tV tn idx wi g tt te) (tR i)) :=by
 refine⟨?_⟩;intro pins s σ H D I h;obtain⟨cl,jo,dS,fA⟩:=hU (scope:=scope) (env:=X.env) fun n hn=>I.ok.has n ((B.2.1 _ hn).2.2 rfl)
 rw[exec_Assign_Name_used _ _ _ _ A7];refine ag (BY (ag ?_));show wpAny _ X.A (do let _ <- comprehension (.ListComp elt [⟨tg,iter,ifs,0⟩] scope pos) scope X.env _ (newList []) false (eval iter X.env) (some (assign (.Name y py) X.env))) _ _ s;refine ag (l8 (Pe (use:=some (assign (.Name y py) X.env)) (Q:=fun _ s'=>SP X pins D .next s') rfl hs jo B.1 (fun y hy=>(B.2.1 y hy).2.1)
  (l8 (hi pins s σ H _ I h) (fun xv s1 h1=>l8 h1 (fun uf s2 h2=>?_) fun _ _ z=>z) fun _ _ z=>z)) (fun _ s' hq=>ba (ba hq)) fun _ _ z=>z)
 obtain⟨it,fp,bp,J,H2,e,I2,T,mM,f2,q2⟩:=h2;subst e;refine sF (RR:=fun acc C=>compPost (model X.prog X.w) X.A X.xe (some (assign (.Name y py) X.env)) (fun _ s'=>SP X pins D .next s') acc C) hc B hg ht he I2 T mM f2 dS fA q2 fun E C m s' H' J2 fC hm q=>?_
 show wpAny _ X.A (assign (.Name y py) X.env (.ref E)) _ _ s';refine wpAny_assign_Name (store_ok2 J2 hN cI (.inl hy) (v:=.ref E) rfl (fun s3 J3 ⟨a,hV,ha⟩=>?_) (.inr hy))
 have dm:C≠a :=by
  rcases ha with z|z
  ·rw[z];exact fC.2.1
  ·exact fun w=>fC.2.2.2.2.1 _ _ z w.symm
 exact⟨m,hm.sameBut hV dm,fun h' jf=>⟨_,H',fC.turn J3 jf,q⟩⟩
end
def Tb (P:al) (H:Hp):Prop:=∃ps,H P=some (.cQ ps)/\To ps.toList
section
variable {X:Cx}{pins:List (al×lp)}{σ:St}{H:Hp}{s:ar}{P:al}{ps more:Array ap}{h':kt}
theorem Inv.grown (I:Inv X pins σ H s) (hP:H P=some (.cQ ps)) (k:∀b o,b≠P->s.heap.get? b=some o->h'.get? b=some o) (n:h'.get? P=some {cls:=.none,data:=.fields (ps++more)}) (t':Nat) :
  Inv X pins σ (upd H P (.cQ (ps++more))) {s with heap:=h',toks:=t'}:=by
 have ne:∀b u,H b=some u->u≠.cQ ps->b≠P:=fun b u e d=>LA e hP d
 have nn:∀b,H b=none->b≠P:=fun b e z=>by rw[z,hP]at e;cases e
 refine I.un ⟨fun b o e q _ _=>k b o (nn b q) e,fun b o e q _ _=>⟨o.slots,k b o (nn b q) e⟩,fun b o e q _=>by rw[aq (nn b q)];exact q,fun b o e _=>?_,fun b xs e=>by rw[aq (ne b _ e (by intro z;cases z))];exact e,
  fun b o u e=>by rw[aq (ne b _ e (by intro z;cases z))];exact e,fun b qs e=>?_⟩ fun b u e=>?_
 ·by_cases hb:b=P
  ·subst hb;exact⟨_,n⟩
  ·exact⟨o,k b o hb e⟩
 ·by_cases hb:b=P
  ·subst hb;rw[hP]at e;cases e;exact⟨more,aL⟩
  ·exact⟨#[],by rw[aq hb,e];simp⟩
 ·by_cases hb:b=P
  ·subst hb;rw[aL]at e;cases e;exact n
  ·rw[aq hb]at e;refine(I.hok b u e).bN (fun c v hc q=>k c v ?_ q) (fun c q=>?_) fun c xs q=>?_
   ·rcases hc with z|z
    ·rw[z];exact hb
    ·exact ne c _ z (by intro w;cases w)
   ·rw[aq (ne c _ q (by intro w;cases w))];exact q
   ·rw[aq (ne c _ q (by intro w;cases w))];exact q
theorem rp {c:al}{pos:xp}{qn:cb}{scope:xy}{Q:ap->ar->Prop}{A:ma}{E:ap->ar->Prop}(I:Inv X pins σ H s) (hc:X.env.code=.ref c) (hd:re X.base c P) (hP:H P=some (.cQ ps)) (ht:To ps.toList)
  (h:∀code k4 s',To k4.toList->Inv X pins σ (upd H P (.cQ k4)) s'->(∀b o,b≠P->s.heap.get? b=some o->s'.heap.get? b=some o)->s'.gens=s.gens->Q code s'):wpAny (model X.prog X.w) A (genexprCode X.env pos qn scope) Q E s :=by
 have Ny:s.heap.get? P=some (S1 ps):=I.hok P _ hP;have iQ:=hd.keeps I.bk;have ic:=iQ.code Ny ht;cases q:codeAmong pos ps.toList with
 |some c'=>
  refine wpAny_genexprCode_hit hc ic q (h c' ps s ht ?_ (fun _ _ _ e=>e) rfl)
  have e:upd H P (.cQ ps)=H :=by
   funext b
   by_cases hb:b=P
   ·subst hb;rw[aL,hP]
   ·rw[aq hb]
  rw[e];exact I
 |none=>
  refine wpAny_genexprCodeX hc ic (iQ.tab Ny) q fun c' h' tk ex h1 h2 Ss _ ta _=>?_
  obtain⟨_,Fy⟩:=ta;have tr:To (ps++#[rawInt pos.line,rawInt pos.col,xw c']).toList :=by
   rw[Array.toList_append];exact TriplesOk_snoc _ _ _ _ ht
  exact h _ _ _ tr (I.grown hP (fun b o hb e=>ex b o hb e) Fy tk) (fun b o hb e=>ex b o hb e) rfl
end
def h8 (s aW:ar):Prop:=aW.heap=s.heap/\aW.os=s.os/\Gn s.gens.size aW.gens
theorem Inv.gh {X:Cx}{pins:List (al×lp)}{σ:St}{H:Hp}{s aW:ar}(I:Inv X pins σ H s) (o:h8 s aW):Inv X pins σ H aW :=by
 obtain⟨h,g,d,t,os⟩:=s;obtain⟨h',g',d',t',Fs⟩:=aW;obtain⟨e1,e2,e3⟩:=o;cases e1;cases e2;exact⟨I.ok,I.os,I.bare.trans e3,I.base,I.loc,I.cell,I.free,I.freeC,I.pin,I.hok,I.len⟩
section
variable {Y:Cx}{A2:ma}{tg elt iter:hX}{ifs:List hX}{scope:xy}{pos:xp}{it:al}{fp:List al}{bp:Nat->kt->Prop}{J:It}{g:TG}{tt:TT}{te:TE}{pp:List (al×lp)}{R:GenEnd}{Yp:Protocol}
def DS (J:It) (g:TG) (tt:TT) (te:TE) (stopAt:Bool) (Z:Bool->Hp->Prop) (W:Nat->Nat->St->Hp->Prop):Prop:=∀i m τ H,W i m τ H->
 (J.stop i H/\Z (!stopAt) H)\/(J.go i H/\∀x H',J.yld i H x H'->g x τ H' fun aj H2=>tt aj H2 fun b H3=>if b=true then te aj H3 fun y H4=>∃c,y=.bl c/\(if c=stopAt then Z stopAt H4 else ∃m',m'<m/\W (i+1) m' aj H4) else ∃m',m'<m/\W (i+1) m' aj H3)
theorem uG (hA:Y.A=A2.over (.compLoop (.GeneratorExp elt [⟨tg,iter,ifs,0⟩] scope pos) 0 (.ref it) .none Y.env) []) (mU:Y.xe=fun _ _=>False) (hc:Y.calm=true) (iu:Y.env.scope.isCoroutine=false)
  (T:Turn Y.prog Y.w Y.K tg J fp it bp) (hg:PG Y tg g) (ht:gv Y ifs tt) (he:PE Y elt te) (stat:∀{H':Hp},(∀b∈fp,H' b=none)->∀b∈fp,cF Y pp H' b)
  {W:Nat->Nat->St->Hp->Prop} {Z:Bool->Hp->Prop} {stopAt:Bool} (turn:DS J g tt te stopAt Z W)
  (hR:∀n s₀ aw τ H,Inv Y pp τ H aw->Z (!stopAt) H->R n s₀ (.ok .next) aw)
  (hY:∀n s₀ s km c τ H,Inv Y pp τ H s->(c=stopAt->Z stopAt H)->(c≠stopAt->∀aW,h8 s aW->km (.send .none) aW)->Yp n s₀ (.bool c) s km) :
  ∀(m n i:Nat) (τ:St) (H:Hp) (s s₀:ar),m<n->W i m τ H->Inv Y pp τ H s->bp i s.heap->(∀b∈fp,H b=none)->
   Seg (model Y.prog Y.w) A2 R Yp n s₀ (.compLoop (.GeneratorExp elt [⟨tg,iter,ifs,0⟩] scope pos) 0 (.ref it) .none Y.env)
    ((model Y.prog Y.w).den (.compLoop (.GeneratorExp elt [⟨tg,iter,ifs,0⟩] scope pos) 0 (.ref it) .none Y.env)) [] s :=by
 intro m;induction m using Sk with
 |ind m ih=>
  intro n i τ H s s₀ Nz w I st fr;show Seg _ A2 _ _ _ s₀ _ ((compTurn (.GeneratorExp elt [⟨tg,iter,ifs,0⟩] scope pos) 0 (.ref it) .none Y.env).onRaise (leaving Y.env)) [] s;rw[compTurn_gen,UE];rcases turn i m τ H w with ⟨stop,qn⟩|⟨go,step⟩
  ·refine uu (BY ?_);have d:=T.done Y rfl rfl rfl hc i pp s τ H (fun _ _=>False) I (stat fr) st stop
   rw[hA]at d;refine uu (l8 d (fun r s1 ⟨hr,I1⟩=>?_) fun _ _ z=>z.elim)
   subst hr;exact seg_end (.ok .next) (hR _ _ _ _ _ I1 qn)
  ·refine uu (BY ?_);have d:=T.item Y rfl rfl rfl hc i pp s τ H (fun _ _=>False) I (stat fr) st go
   rw[hA]at d;refine uu (l8 d (fun r s4 ⟨u,hr,h4⟩=>?_) fun _ _ z=>z.elim)
   subst hr;refine uu (l8 h4 (fun _ s5 ⟨x,H5,I5,r5,y5,jF,uk⟩=>?_) fun _ _ z=>z.elim)
   have um:=I5.pinned (stat uk) (T.obj _ _ jF);have back:∀{oG:St} {H7:Hp} {s7:ar},Inv Y (pp++fw fp s5.heap) oG H7 s7->bp (i+1) s7.heap/\∀b∈fp,H7 b=none:=fun {oG H7 s7} I7=>by
    refine⟨T.keep _ _ _ jF fun b hb o e=>(I7.pin (b,o) (c8 _ (c8 _ (cM hb e)))).1,fun b hb=>?_⟩
    obtain⟨o,e,d⟩:=T.obj _ _ jF b hb;exact(I7.pin (b,o) (c8 _ (c8 _ (cM hb e)))).2.1
   have d2:=hg _ s5 τ H5 x u _ um r5 (step x H5 y5);rw[hA,mU]at d2;refine uu (l8 d2 (fun _ s6 ⟨je,H6,I6,q6⟩=>?_) fun _ _ z=>z.elim)
   have d3:=ht _ s6 je H6 _ I6 q6;rw[hA,mU]at d3;refine uu (l8 d3 (fun ok s7 ⟨H7,I7,q7⟩=>?_) fun _ _ z=>z.elim)
   have hy:∀v,yieldOut Y.env v=yieldValue v:=fun v=>by simp only[yieldOut,iu,db,if_false]
   cases ok with
   |false=>
    simp only[db,if_false]at q7 ⊢;obtain⟨m',pX,w7⟩:=q7;exact Ui rfl (ih m' pX n (i+1) je H7 s7 s₀ (by omega) w7 I7.du (back I7).1 (back I7).2)
   |true=>
    simp only[if_true]at q7 ⊢;simp only[hy];rw[TC,TC,UV,UV];have d4:=he _ s7 je H7 _ I7 q7;rw[hA,mU]at d4;refine seg_wrap (l8 d4 (fun yv s8 ⟨y,H8,I8,r8,q8⟩=>?_) fun _ _ z=>z.elim)
    obtain⟨c,ey,q8⟩:=q8;subst ey;cases (show yv=Um c from r8);obtain⟨n,rfl⟩:∃n',n=n'+1:=⟨n - 1,by omega⟩
    refine seg_at (seg_yield rfl rfl rfl (hY _ _ _ _ c je H8 I8.du (fun e=>by rw[if_pos e]at q8;exact q8) fun e aW ok=>?_))
    rw[if_neg e]at q8;obtain⟨m',pX,w8⟩:=q8;have I9:=I8.gh ok;exact Ui rfl (ih m' pX n (i+1) je H8 aW aW (by omega) w8 I9.du (back I9).1 (back I9).2)
end
abbrev c9 (elt tg iter:hX) (ifs:List hX) (scope:xy) (pos:xp):hX:=.GeneratorExp elt [⟨tg,iter,ifs,0⟩] scope pos
abbrev IU (X:Cx) (N':List cb) (scope:xy) (cl:List (cb×al)) (C:al) (code:ap) (A':ma) (s:ar) (H:Hp) (fp:List al):Cx:=
 cxBlock X N' (genEnv scope cl C code builtinsNs X.env) A' (genEnv scope cl C code builtinsNs X.env::X.stack) s H fp
abbrev dF (X:Cx) (N':List cb) (scope:xy) (k:Nat) (P:Cx->Prop):Prop:=∀(cl:List (cb×al)) (C:al) (code:ap) (A':ma) (s:ar) (H:Hp) (fp:List al),bX k A'->P (IU X N' scope cl C code A' s H fp)
structure yX (X:Cx) (pins:List (al×lp)) (σ:St) (N':List cb) (scope:xy) (tn:Nat) (idx:List Nat) (k:Nat) (elt tg iter:hX) (ifs:List hX) (pos:xp) (J:It) (H3:Hp) (a:al) (s5:ar)
  (Y:Cx) (it:al) (fp:List al) (bp:Nat->kt->Prop) (g:Nat) (pp:List (al×lp)):Prop where
 inv:Inv Y pp (bc tn idx σ) H3 s5
 isg:∀{τ:St} {H':Hp} {s':ar},Inv Y pp τ H' s'->s'.heap.IsGen a g
 st:s5.gens[g]?=some (.fresh (.compStart (c9 elt tg iter ifs scope pos) 0 (.ref it) .none Y.env))
 T:Turn Y.prog Y.w Y.K tg J fp it bp
 tn0:bp 0 s5.heap
 fr:∀b∈fp,H3 b=none
 stat:∀{H':Hp},(∀b∈fp,H' b=none)->∀b∈fp,cF Y pp H' b
 out:∀{τ:St} {H':Hp} {s':ar},Inv Y pp τ H' s'->Inv X pins σ H' s'
 A:Y.A=X.A.in4.in1.over (.compLoop (c9 elt tg iter ifs scope pos) 0 (.ref it) .none Y.env) []
 xe:Y.xe=fun _ _=>False
 calm:Y.calm=true
 co:Y.env.scope.isCoroutine=false
 gsz:∀{τ:St} {H':Hp} {s':ar},Inv Y pp τ H' s'->g<s'.gens.size
 blk:∀P:Cx->Prop,dF X N' scope k P->P Y
 prog:Y.prog=X.prog
 w:Y.w=X.w
section
variable {X:Cx}{tg elt iter:hX}{ifs:List hX}{scope:xy}{pos:xp}{N':List cb}{tn:Nat}{idx:List Nat}{wi:TI}{g:TG}{tt:TT}{te:TE}{c P:al}{k:Nat}
def A8 (P:al) (wi:TI) (R:It->Hp->Prop):St->Hp->Prop:=fun σ H=>wi σ H fun J H1=>Tb P H1/\∀ps,To ps.toList->R J (upd H1 P (.cQ ps))
theorem o6 {pins:List (al×lp)}{s:ar}{σ:St}{H:Hp}{QQ:ap->ar->Prop}{R:It->Hp->Prop}(hr:bX (k+1) X.A) (hc:X.calm=true) (B:aB X.N X.env.scope scope N' tn idx)
  (h0:scope.names.lookup (".0" : cb)=some .local) (iu:scope.isCoroutine=false) (fP:X.env.code=.ref c) (hd:re X.base c P) (eE:∃bm ob,T5 X.base mainGlobals X.mg bm ob)
  (hi:PI X tg iter wi) (hs:∀x,genFold iter X.env x=pure x) (I:Inv X pins σ H s) (h:A8 P wi R σ H)
  (q:∀J H3 a s5 Y it fp bp gn pp,yX X pins σ N' scope tn idx k elt tg iter ifs pos J H3 a s5 Y it fp bp gn pp->R J H3->QQ (.ref a) s5) :
  wpAny (model X.prog X.w) X.A (eval (c9 elt tg iter ifs scope pos) X.env) QQ X.xe s :=by
 obtain⟨cl,jo,dS,fA⟩:=hU (scope:=scope) (env:=X.env) fun n hn=>I.ok.has n ((B.2.1 _ hn).2.2 rfl)
 refine wpAny_GeneratorExp_make iu jo (fun y hy=>(B.2.1 y hy).1) h0 B.1 hr.depth (thn (hi pins s σ H _ I h) fun xv s1 h1=>thn h1 fun uf s2 h2=>?_) hs
 obtain⟨it,fp,bp,J,H2,e,I2,T,mM,f2,⟨ps,hP,A9⟩,q2⟩:=h2;subst e;refine⟨I2.nolimit,rp I2 fP hd hP A9 fun code k4 s3 IV I3 kp Su=>?_⟩
 obtain⟨bm,ob,bmod⟩:=eE;have uH:=bmod.keeps I3.bk;refine wpAny_builtinsFor (by rw[I3.ok.glob];exact uH.ns) uH.name uH.ne uH.obj uH.cls uH.dict uH.data ?_
 intro h' ua jf;have NA:∀b∈fp,b≠P:=fun b hb z=>by have:=(f2 b hb).1;rw[z,hP]at this;cases this
 have sj:bp 0 s3.heap:=T.keep _ _ _ mM fun b hb o e=>kp b o (NA b hb) e
 have jK:∀b∈fp,b<s3.heap.objs.size:=fun b hb=>let ⟨o,e,_⟩:=T.obj _ _ sj b hb;ii e
 have f3:∀b∈fp,cF X pins (upd H2 P (.cQ k4)) b:=fun b hb=>⟨by rw[aq (NA b hb)];exact(f2 b hb).1,(f2 b hb).2⟩
 have hsz:h'.objs.size=s3.heap.objs.size+1 :=by rw[jf.1,B0]
 have L7:∀b o,s3.heap.get? b=some o->h'.get? b=some o:=fun b o e=>jf.extBut b o (lf (ii e)) (bi _ e)
 have NB:Gn s3.gens.size (s3.gens.push (.fresh (.compStart (c9 elt tg iter ifs scope pos) 0 (.ref it) .none (genEnv scope cl s3.heap.objs.size code builtinsNs X.env)))):=⟨Vv.push I3.bare.1 rfl,by rw[Array.size_push];exact AN _⟩
 have NC:Inv X pins σ (upd H2 P (.cQ k4)) {s3 with gens:=s3.gens.push (.fresh (.compStart (c9 elt tg iter ifs scope pos) 0 (.ref it) .none (genEnv scope cl s3.heap.objs.size code builtinsNs X.env)))}:=I3.gh ⟨rfl,rfl,NB⟩
 have hA:(X.A.in4.in1.over (.compLoop (c9 elt tg iter ifs scope pos) 0 (.ref it) .none (genEnv scope cl s3.heap.objs.size code builtinsNs X.env)) []).frames=some (genEnv scope cl s3.heap.objs.size code builtinsNs X.env::X.stack) :=by
  show pushEnvs [_] (pushEnvs [] X.A.frames)=_;rw[I.ok.frames];rfl
 have kn:bX k (X.A.in4.in1.over (.compLoop (c9 elt tg iter ifs scope pos) 0 (.ref it) .none (genEnv scope cl s3.heap.objs.size code builtinsNs X.env)) []) :=by
  refine⟨hr.hd,?_,?_⟩
  ·show X.A.depth+0+1+3 * k+5<recursionLimit;have:=hr.dp;omega
  ·show X.A.units+1+1+1+1+1+0+3+16 * k+200<cLine;have:=hr.un;omega
 generalize mW:({cls:=.type "generator",data:=.fields #[.int s3.gens.size 0,.str "<genexpr>" (s3.toks+1),.str (X.env.qual ++ "<genexpr>") (s3.toks+1+1)]}:lp)=oH
 have tW:∀b o,s3.heap.get? b=some o->(h'.push oH).get? b=some o:=fun b o e=>bi _ (L7 b o e)
 have O6:oH.isFreed=false :=by rw[<- mW];rfl
 have Qh:(h'.push oH).get? h'.objs.size=some oH:=io _ O6;have Qi:h'.objs.size≠s3.heap.objs.size :=by rw[hsz];exact Nat.succ_ne_self _
 have Qj:upd H2 P (.cQ k4) h'.objs.size=none:=I3.hok.fresh (by rw[hsz];exact AN _)
 have I5:=kj (X:=X) (N':=N') (A':=X.A.in4.in1.over (.compLoop (c9 elt tg iter ifs scope pos) 0 (.ref it) .none (genEnv scope cl s3.heap.objs.size code builtinsNs X.env)) []) (env':=genEnv scope cl s3.heap.objs.size code builtinsNs X.env) (stack':=genEnv scope cl s3.heap.objs.size code builtinsNs X.env::X.stack) (ex:=fp) (h1:=h'.push oH) (m0:=fun y=>if y = ".0" then some (.ref it) else none)
  (g':=s3.gens.push (.fresh (.compStart (c9 elt tg iter ifs scope pos) 0 (.ref it) .none (genEnv scope cl s3.heap.objs.size code builtinsNs X.env)))) (tk:=s3.toks+1+1+1) (aQ:=bc tn idx σ) NC B.1 rfl I3.ok.blt.symm dS (fun x hx=>by
   have d6:scope.names.lookup x=some .cell\/scope.names.lookup x=some .free:=hx;rcases d6 with z|z
   ·exact absurd rfl ((B.2.1 _ (u7 z)).1)
   ·exact fA x (u7 z)) (fun z=>I.ok.hd z) hA (.inr ⟨rfl,rfl⟩) (bv _) f3 jK (Un.kept tW) (I3.hok.kept tW) (I3.hok.fresh (bv _)) tW (ua.push _) (fun i x v e1 e2 e3=>by
   obtain⟨fr,j,e4,e5⟩:=B.at e1 e2;have kx:=(B.2.1 _ (u7 fr)).2.2 rfl;exact⟨.inr fr,.inr kx,kx,j,e4,e5⟩) (B.len σ) (Gn.self NB)
 have Qk:h'.objs.size ∉ gr X.stack:=fun z=>by
  rcases l7.mp (I3.g9 _ z) with q|q
  ·exact Tj (on I3.lt (by rw[hsz];exact AN _)) q
  ·exact I3.Hy (by rw[hsz];exact AN _) q
 have tQ:∀v,oH.data≠.cell v :=by rw[<- mW];intro v z;cases z
 have I6:=I5.jz (pins':=[(h'.objs.size,oH)]) (fun p hp=>by
  rcases lw.mp hp with rfl
  exact⟨Qh,Qj,Qi,Qk,tQ⟩)
 refine q J _ _ _ (IU X N' scope cl s3.heap.objs.size code _ _ _ fp) it fp bp s3.gens.size [(h'.objs.size,oH)] ⟨I6,fun {τ H' s'} J'=>?_,?_,T,T.keep _ _ _ sj fun b _ o e=>tW b o e,fun b hb=>(f3 b hb).1,fun {H'} hn b hb=>?_,fun {τ H' s'} J'=>?_,rfl,rfl,hc,iu,fun {τ H' s'} J'=>?_,fun Pp hb=>hb cl _ code _ _ _ fp kn,rfl,rfl⟩ (q2 k4 IV)
 ·have:=(J'.pin (h'.objs.size,oH) (c8 _ (lw.mpr rfl))).1;exact⟨oH,_,_,this,by rw[<- mW],by rw[<- mW],by rw[<- mW]⟩
 ·exact Array.getElem?_push_size ..
 ·refine⟨hn b hb,lf (jK b hb),fun z=>?_,.inl hb,fun x c e=>(f2 b hb).2.2.2.2.1 x c (dS x c e),fun p hp z=>?_⟩
  ·rcases l7.mp (I2.g9 b z) with q|q
   ·exact(f2 b hb).2.1 q
   ·exact(f2 b hb).2.2.1 q
  ·rcases lw.mp hp with rfl
   have z':h'.objs.size=b:=z;have:=jK b hb;rw[<- z',hsz]at this;exact absurd this (Va.mpr (AN _))
 ·exact NC.pM J'.os J'.base J'.hok J'.bare fun b hb=>⟨(f3 b hb).2.2.2.1,(f3 b hb).2.1,(f3 b hb).2.2.2.2.1,(f3 b hb).2.2.2.2.2⟩
 ·have:=J'.bare.2;have e:(IU X N' scope cl s3.heap.objs.size code (X.A.in4.in1.over (.compLoop (c9 elt tg iter ifs scope pos) 0 (.ref it) .none (genEnv scope cl s3.heap.objs.size code builtinsNs X.env)) []) {s3 with gens:=s3.gens.push (.fresh (.compStart (c9 elt tg iter ifs scope pos) 0 (.ref it) .none (genEnv scope cl s3.heap.objs.size code builtinsNs X.env)))} (upd H2 P (.cQ k4)) fp).s₀.gens.size=s3.gens.size+1 :=by
   show (s3.gens.push _).size=_;rw[Array.size_push]
  rw[e]at this;omega
theorem DT {prog:i4}{w:i8}{A:ma}{a:al}{R':TR->ar->Prop}(In:Nat->ar->Prop)
  (turn:∀n s,In n s->wpAny (model prog w) A.in1 (pyNext (.ref a)) (fun r s1=>match r with
   |none=>R' (.ok (.ret (.bool true))) s1
   |some v=>∃c,v=.bool c/\if c=true then ∃m,m<n/\In m s1 else R' (.ok (.ret (.bool false))) s1) (fun e s'=>R' (.error e) s') s) :
  ∀(n:Nat) (s:ar),In n s->codeAny (model prog w) A (.builtin "all.loop" ⟨[.ref a],[]⟩) R' s :=by
 intro n;induction n using Sk with
 |ind n ih=>
  intro s h;refine ww F.entry_all_loop ?_;rw[ss T6 _];show wpAny _ A.in1 (pyNext (.ref a)>>=_) _ _ s;refine ag (l8 (turn n s h) (fun r s1 q=>?_) fun _ _ z=>z)
  cases r with
  |none=>exact ag (GS (ba q))
  |some v=>
   obtain⟨c,e,q⟩:=q;subst e;refine ag (ul (wP ?_));refine ag (Mn ?_);cases c with
   |true=>
    simp only[if_true]at q ⊢;obtain⟨m,hm,hI⟩:=q;exact ba ⟨wl T6 _,ih m hm s1 hI⟩
   |false=>
    simp only[db,if_false]at q ⊢;exact ag (GS (ba q))
theorem dN {s:ar}{g:Nat}{x:S5}{n:Nat}(h:Gn n s.gens) (hx:x.bare=true):Gn s.gens.size (s.setGen g x).gens :=by
 refine⟨fun y hy=>?_,?_⟩
 ·have pY:y∈s.gens.setIfInBounds g x:=hy;rcases Array.mem_or_eq_of_mem_setIfInBounds pY with z|z
  ·exact h.1 y z
  ·rw[z];exact hx
 ·show s.gens.size<=(s.gens.setIfInBounds g x).size;rw[Array.size_setIfInBounds];exact bv _
theorem mX {s:ar}{g:Nat}{x:S5}(h:g<s.gens.size):(s.setGen g x).gens[g]?=some x :=by
 show (s.gens.setIfInBounds g x)[g]?=_;rw[Array.getElem?_setIfInBounds_self];simp[h]
theorem mY {Y:Cx}{A2:ma}{R:GenEnd}{Yp:Protocol}{n:Nat}{s₀ s:ar}{it:al}{J:It}{fp:List al}{bp:Nat->kt->Prop}(T:Turn Y.prog Y.w Y.K tg J fp it bp) {i:Nat}(st:bp i s.heap)
  (loop:Seg (model Y.prog Y.w) A2 R Yp n s₀ (.compLoop (c9 elt tg iter ifs scope pos) 0 (.ref it) .none Y.env) ((model Y.prog Y.w).den (.compLoop (c9 elt tg iter ifs scope pos) 0 (.ref it) .none Y.env)) [] s) :
  Seg (model Y.prog Y.w) A2 R Yp n s₀ (.compStart (c9 elt tg iter ifs scope pos) 0 (.ref it) .none Y.env) ((model Y.prog Y.w).den (.compStart (c9 elt tg iter ifs scope pos) 0 (.ref it) .none Y.env)) [] s :=by
 show Seg _ A2 _ _ _ s₀ _ ((compStart (c9 elt tg iter ifs scope pos) 0 (.ref it) .none Y.env).onRaise (leaving Y.env)) [] s;unfold compStart;rw[UE];show Seg _ A2 _ _ _ s₀ _ ((ask>>=_).wrap _ _ _ _) [] s;refine uu (Pd ?_);split
 ·exact Ui rfl loop
 ·first
   |exact uu (GS (uu (BY (uu (T.self _ i s _ _ st (Ui rfl loop))))))
   |(refine uu (GS ?_);show Seg _ A2 _ _ _ s₀ _ ((standAt iter.pos>>=_).wrap _ _ _ _) [] s;exact uu (BY (uu (T.self _ i s _ _ st (Ui rfl loop)))))
def IW (P:al) (tn:Nat) (idx:List Nat) (wi:TI) (g:TG) (tt:TT) (te:TE):TE:=fun σ H Q=>A8 P wi (fun J H1=>∃W:Nat->Nat->St->Hp->Prop,(∃m,W 0 m (bc tn idx σ) H1)/\DS J g tt te false (fun b H2=>Q (.bl b) H2) W) σ H
theorem IY {p gi:xp}(hr:bX (k+1) X.A) (hc:X.calm=true) (B:aB X.N X.env.scope scope N' tn idx)
  (h0:scope.names.lookup (".0" : cb)=some .local) (iu:scope.isCoroutine=false) (fP:X.env.code=.ref c) (hd:re X.base c P) (eE:∃bm ob,T5 X.base mainGlobals X.mg bm ob)
  (jg:Gl X "all") (hm:X.mg "all" = none) (hi:PI X tg iter wi) (hg:dF X N' scope k fun Y=>PG Y tg g) (ht:dF X N' scope k fun Y=>gv Y ifs tt) (he:dF X N' scope k fun Y=>PE Y elt te)
  (hs:∀x,genFold iter X.env x=pure x :=by intro _;rfl):PE X (.Call (.Name "all" p) [c9 elt tg iter ifs scope gi] [] pos) (IW P tn idx wi g tt te) :=by
 refine⟨?_⟩;intro pins s σ H Q I h;refine Ix (gu I jg hm PyProof.Rows.boot_all ?_);refine KF ?_ rfl rfl;show wpAny _ _ (spliced ((false,eval (c9 elt tg iter ifs scope gi) X.env)::[])) _ _ s;refine Nd (o6 hr hc B h0 iu fP hd eE hi hs I h ?_);intro J H3 a s5 Y it fp bp gn pp G ⟨W,⟨m0,w0⟩,turn⟩;refine Op ?_;refine Sm F.kind_all F.plain_all F.entry_all (F.args_all1 _) ?_;unfold ut.«all»;refine ag (m:=oneArg "all" _) (ba ?_)
 refine ag (Vd (G.isg G.inv) ?_);refine ba ⟨wl T6 _,?_⟩;have o7:=uG (A2:=X.A.in4.in1) (pp:=pp) (R:=fun n s₀ r aw=>r=.ok .next/\∃τ H,Inv Y pp τ H aw/\Q (.bl true) H)
  (Yp:=fun n s₀ v s km=>∃c τ H,v=.bool c/\Inv Y pp τ H s/\(c=false->Q (.bl false) H)/\(c≠false->∀aW,h8 s aW->km (.send .none) aW)) G.A G.xe G.calm G.co G.T (G.blk _ hg) (G.blk _ ht) (G.blk _ he) G.stat turn
  (fun n s₀ aw τ H J z=>⟨rfl,τ,H,J,z⟩) (fun n s₀ s km c τ H J z1 z2=>⟨c,τ,H,rfl,J,z1,z2⟩)
 have hP:=G.prog;have hW:=G.w;rw[hP,hW]at o7;refine DT (A:=X.A) (fun n s=>(∃τ H,Inv Y pp τ H s)/\∃gs,s.gens[gn]?=some gs/\∀aW,h8 s aW->gs.Goes (model X.prog X.w) X.A.in4.in1 (fun n s₀ r aw=>r=.ok .next/\∃τ H,Inv Y pp τ H aw/\Q (.bl true) H)
  (fun n s₀ v s km=>∃c τ H,v=.bool c/\Inv Y pp τ H s/\(c=false->Q (.bl false) H)/\(c≠false->∀aW,h8 s aW->km (.send .none) aW)) n (.send .none) aW) ?_ (m0+1) s5 ?_
 ·rintro n s6 ⟨⟨τ,H6,I6⟩,gs,Ba,mW⟩;have O7:=G.gsz I6;refine Nl (Nl (Nl ?_));show wpAny (model X.prog X.w) X.A.in4 (pyNext (.ref a)) _ _ s6;refine Ux (A:=X.A.in4) (P:=fun n s₀ aw=>∃τ H,Inv Y pp τ H aw/\Q (.bl true) H) hr.hd I6.nolimit hr.depth (G.isg I6) Ba (mW _ ⟨rfl,rfl,dN I6.bare rfl⟩) (fun v s1 pZ hb hv=>?_) (fun s1 hp h' hk=>?_)
  ·obtain⟨c,p7,H1,e,I1,z1,z2⟩:=hv;subst e;refine⟨c,rfl,?_⟩;have mZ:h8 s1 (s1.setGen gn pZ):=⟨rfl,rfl,dN I1.bare hb⟩;cases c with
   |false=>
    rw[if_neg gc];exact⟨.bl false,H1,G.out (I1.gh mZ),rfl,z1 rfl⟩
   |true=>
    rw[if_pos rfl];have z3:=z2 (by decide)
    cases n with
    |zero=>exact(z3 s1 ⟨rfl,rfl,I1.bare.self⟩).elim
    |succ m=>
     refine⟨m,AL _,⟨p7,H1,I1.gh mZ⟩,pZ,mX (G.gsz I1),fun aW o=>z3 aW ⟨o.1,o.2.1,?_⟩⟩
     exact mZ.2.2.trans o.2.2
  ·obtain⟨p7,H1,I1,z1⟩:=hp;have I2:=I1.kept (t':=s1.toks) hk;have Bb:h8 {s1 with heap:=h'} {s1.setGen gn .finished with heap:=h'}:=⟨rfl,rfl,dN (s:=s1) I1.bare rfl⟩
   exact⟨.bl true,H1,G.out (I2.gh Bb),rfl,z1⟩
 ·refine⟨⟨_,_,G.inv⟩,_,G.st,fun aW o=>⟨rfl,?_⟩⟩
  have I7:=G.inv.gh o;have sG:bp 0 aW.heap :=by rw[o.1];exact G.tn0
  have q:=mY (iter:=iter) (ifs:=ifs) (scope:=scope) (pos:=gi) (elt:=elt) G.T sG (by rw[hP,hW];exact o7 m0 (m0+1) 0 _ _ aW aW (AL _) w0 I7 sG G.fr)
  rw[hP,hW]at q;exact q
end
section
variable {X:Cx}{tg l:hX}{tl:TE}
def O8:V->Option Int->Option Int->Hp->VK->Prop:=fun x lo hi H Q=>∃z,x=.str z/\z.length<=sizeLine/\Q (.str (Vn z lo hi)) H
theorem IZ:Fv X O8 :=by
 intro pins s σ H x v vl vu lo hi sl Q I rx hs pl pu h;obtain⟨z,rfl,hz,q⟩:=h;obtain⟨t,rfl⟩:=rx;refine⟨"str",_,F.slot_str_getitem.lookup,typeIs_str _ _ _,?_⟩
 have fin:∀(l u:Option (Int×Vl)),s.heap.IsSlice sl l u none->l.map (·.1)=lo->u.map (·.1)=hi->wpAny (model X.prog X.w) X.A (getItem (.str z t) (.ref sl)) (EP X pins σ Q) X.xe s:=fun l u e e1 e2=>by
  refine wpAny_getItem_str_slice (l:=l) (u:=u) (st:=none) e rfl ?_;refine post_val_or_str ⟨?_,fun t' k=>?_⟩
  ·exact(show (Vn z (l.map (·.1)) (u.map (·.1))).length<=sizeLine from wv (Txt.slice_le z _ _) hz)
  ·refine⟨.str (Vn z lo hi),H,I.tok k,⟨t',?_⟩,q⟩;rw[<- e1,<- e2];rfl
 obtain⟨o,ho,hc,hd⟩:=hs;cases pl with
 |none=>
  cases pu with
  |none=>exact fin none none ⟨o,ho,hc,hd⟩ rfl rfl
  |int j uj=>exact fin none (some (j,uj)) ⟨o,ho,hc,hd⟩ rfl rfl
 |int i ui=>
  cases pu with
  |none=>exact fin (some (i,ui)) none ⟨o,ho,hc,hd⟩ rfl rfl
  |int j uj=>exact fin (some (i,ui)) (some (j,uj)) ⟨o,ho,hc,hd⟩ rfl rfl
theorem cA {xs:List V}{us:List ap}(r:Vals xs us) {j:Nat}(h:j<us.toArray.size):RelV (xs.getD j .ao) us.toArray[j] :=by
 have hl:=r.length;have hj:j<xs.length :=by simpa[hl] using h
 obtain⟨u,e,q⟩:=r.get (i:=j) (x:=xs[j]) (ac hj);have e2:us.toArray[j]=u :=by
  rw[cr]at e;obtain⟨h',e⟩:=e;simpa using e
 rw[e2,ca,ac hj];exact q
theorem wC:cw X (.builtin "isinstance") (fun xs H Q=>∃x T t b,xs=[x,.ty T]/\gN X.K H x t/\UI X.K t (.type T)=some b/\Q (.bl b) H) :=by
 intro pins s σ H xs us Q I r h;obtain⟨x,T,t,b,rfl,ty,e,q⟩:=h;obtain⟨u,w',rfl,r1,r2⟩:=vals2 r;cases (show w'=DD T from r2);exact AI I r1 ty e fun tk=>⟨.bl b,H,I.tok tk,rfl,q⟩
theorem oI:∀{xs:List V}{us:List ap},xs.length=us.length->(∀(i:Nat) (v:V),xs[i]?=some v->∃u,us[i]?=some u/\RelV v u)->Vals xs us
 | [],[],_,_=>.nil
 | [],_::_,h,_=>by simp at h
 |_::_,[],h,_=>by simp at h
 |x::xs,u::us,h,g=>by
          obtain⟨u',e,r⟩:=g 0 x rfl;have e':u=u':=by simpa using e
          subst e';exact .cons r (oI (by simpa using h) fun i v hv=>by
           obtain⟨w,e2,r2⟩:=g (i+1) v (by simpa using hv)
           exact⟨w,by simpa using e2,r2⟩)
theorem m4 {e:hX}{te:TE}{p p1 p2 pos:xp}(hc:X.calm=true) (hg:Gl X "list") (hm:X.mg "list" = none) (uI:Gl X "range") (Bc:X.mg "range" = none) (he:PE X e te) (hs:starEach [e] X.env=[(false,eval e X.env)] :=by rfl) :
  PE X (.Call (.Name "list" p) [.Call (.Name "range" p1) [e] [] p2] [] pos) (fun σ H Q=>te σ H fun x H1=>∃j:Int,x=.int j /\ -(2 ^ 24)<=j/\j<=2 ^ 24/\∀l,H1 l=none->Q (.ref l) (upd H1 l (.lst ((im j.toNat).map fun i=>V.int (i:Nat))))) :=by
 refine⟨?_⟩;intro pins s σ H Q I h;refine Ix (gu I hg hm (by decide +kernel:bootBuiltins "list" = some (.type "list")) ?_)
 refine Gc ?_ rfl rfl;show wpAny _ _ (spliced ((false,eval (.Call (.Name "range" p1) [e] [] p2) X.env)::[])) _ _ s
 refine Nd ?_;refine Call_ (gu I uI Bc boot_range (Gc ?_ hs rfl));rw[hs];refine Nd (thn (he pins s σ H _ I h) fun v s1 ⟨x,H1,I1,r1,q1⟩=>Op ?_)
 obtain⟨j,rfl,b1,b2,q⟩:=q1;obtain⟨t,rfl⟩:=r1;refine call_range_1 ?_;refine Op ?_;refine call_list_range (n:=j.toNat) (I1.ok.hd hc) (IsRange.new ..) (small_one (by omega) (by omega) (by omega) (by omega)) (by rw[PyProof.Rows.rangeSize_nat];simp) (by omega) fun h' tk eF c' hk hS hit=>?_
 have I2:Inv X pins σ H1 {s1 with heap:=s1.heap.push {cls:=.type "range",data:=.fields #[.int 0 s1.toks,.int j t,.int 1 (s1.toks+1)]},toks:=s1.toks+1+1}:=I1.kept fun b o e=>bi _ e
 obtain⟨hsz,jL⟩:=hit;have rv:Vals ((im j.toNat).map fun i=>V.int (i:Nat)) eF.toList :=by
  refine oI (by simpa using hsz.symm) fun i v e=>?_
  rw[ij]at e;cases q2:(im j.toNat)[i]? with
  |none=>rw[q2]at e;cases e
  |some k=>
   rw[q2]at e;have ek:k=i :=by
    obtain⟨_,e3⟩:=cr.mp q2;simpa using e3.symm
   have hi:i<eF.size :=by
    have:=(cr.mp q2).1;rw[wT]at this;omega
   obtain⟨t2,e4⟩:=jL i eF[i] (by simp[hi])
   refine⟨eF[i],by simp[hi],?_⟩
   rw[e4];have e5:v=V.int (k:Nat):=(kw e).symm;rw[e5,ek];exact⟨t2,by simp⟩
 have ob:bz X.prog X.w (upd H1 (s1.heap.push {cls:=.type "range",data:=.fields #[.int 0 s1.toks,.int j t,.int 1 (s1.toks+1)]}).objs.size (.lst ((im j.toNat).map fun i=>V.int (i:Nat)))) h' (s1.heap.push {cls:=.type "range",data:=.fields #[.int 0 s1.toks,.int j t,.int 1 (s1.toks+1)]}).objs.size (.lst ((im j.toNat).map fun i=>V.int (i:Nat))) :=by
  refine⟨?_,eF.toList,c',rv,by simpa using hS⟩
  rw[br,wT];exact wv (show j.toNat<=2 ^ 24 by omega) (by decide)
 exact⟨.ref _,_,I2.laid (t':=tk) hk (bv _) ob,rfl,q _ (I2.hok.fresh (bv _))⟩
end
theorem Bd:bootBuiltins "int" = some (.type "int") :=by decide +kernel
theorem I0:bootBuiltins "str" = some (.type "str") :=by decide +kernel
theorem xF:bootBuiltins "bool" = some (.type "bool") :=by decide +kernel
theorem gP:bootBuiltins "tuple" = some (.type "tuple") :=by decide +kernel
theorem xG:bootBuiltins "list" = some (.type "list") :=by decide +kernel
theorem m5:bootBuiltins "min" = some (.builtin "min") :=by decide +kernel
theorem qa:bootBuiltins "max" = some (.builtin "max") :=by decide +kernel
theorem Ja:bootBuiltins "abs" = some (.builtin "abs") :=by decide +kernel
theorem b5:bootBuiltins "isinstance" = some (.builtin "isinstance") :=by decide +kernel
structure Bl (mg:cb->Option ap):Prop where
 len_:mg "len" = none
 range_:mg "range" = none
 min_:mg "min" = none
 max_:mg "max" = none
 abs_:mg "abs" = none
 list_:mg "list" = none
 tuple_:mg "tuple" = none
 int_:mg "int" = none
 str_:mg "str" = none
 bool_:mg "bool" = none
 isinstance_:mg "isinstance" = none
 all_:mg "all" = none
 set_:mg "set" = none
 sorted_:mg "sorted" = none
 zip_:mg "zip" = none
 enumerate_:mg "enumerate" = none
 sum_:mg "sum" = none
 reversed_:mg "reversed" = none
 divmod_:mg "divmod" = none
 any_:mg "any" = none
 ValueError_:mg "ValueError" = none
structure Df (K:bn) (mg:cb->Option ap) (x:cb) (st:tz) (ps:List cb) (f:al) (fd:mo):Prop where
 fn:sA K x x st f fd
 bd:Binds K fd ps []
 mg:mg x=some (.ref f)
structure Be (base:kt) (fd:mo) (c P:al):Prop where
 code:fd.code=.ref c
 hd:re base c P
section
variable {P:i4}{w:i8}{K:bn}{mg:cb->Option ap}{base:kt}
theorem sA.Ql {x qual:cb}{st:tz}{f:al}{fd:mo}{N ps:List cb}{k:Nat}{sp:Sp}(F:sA K x qual st f fd) (S:aO N ps (ai st)) (len:∀vs H Q E,sp vs H Q E->vs.length=ps.length)
  (pP:∀(A:ma) (outer:List OR) (s:ar) (H:Hp) (vs:List V) (Q:VK) (E:XK),bX k (A.deeper (envOfC qual (ai st) s.heap.objs.size f fd.code))->sp vs H Q E->
   ∃t,gU (gO bK P w K mg base N qual (ai st) f fd.code A outer s H E).As (dG st) t/\t {nx:=fun _ H'=>Q .ao H',rt:=Q} (start N vs) H):FnOk P w K mg base bK (k+1) f fd ps sp :=by
 obtain⟨oc,od,kV,doc,pm,an,dZ,ct,mP,rfl,lk,iR⟩:=F.ex;refine Fu lk iR S len fun A outer s H vs Q E hr jc=>?_
 obtain⟨t,h,q⟩:=pP A outer s H vs Q E hr jc;exact⟨t,h.As,q⟩
end
def Sv:V->Bool | .int _=>true|_=>false
def below (m:Int):V->Bool | .int i=>decide (0<=i) && decide (i<m)|_=>false
structure fu (az:List (List Int)) (w:Nat):Prop where
 one:1<=az.length
 nine:az.length<=9
 wid:w=2\/w=3
 row:∀r∈az,r.length=w/\∀g∈r,0<=g/\g<(az.length:Int)
theorem jq {α β:Type}{F:α->β->Prop}:∀{xs:List α}{ys:List β}{i:Nat}{y:β},u8 F xs ys->ys[i]?=some y->∃x,xs[i]?=some x/\F x y
 |_,_,_,_,.nil,e=>by simp at e
 |_,_,0,_,.cons f _,e=>by simp at e;subst e;exact⟨_,rfl,f⟩
 |_,_,i+1,y,.cons _ t,e=>by
          obtain⟨x,h1,h2⟩:=jq (i:=i) (y:=y) t (by simpa using e)
          exact⟨x,by simpa using h1,h2⟩
def FA (tb:List al) (H:Hp):Prop:=∀p∈tb,Tb p H
def L8 (H:Hp) (b:al):Prop:=∃c m:Int,H b=some (.lst [.int c,.int m])/\0<=c/\0<=m
def Runs (J:It) (ys:List V) (H:Hp):Prop:=∀i,(i<ys.length->J.go i H/\∀x H',J.yld i H x H'->H'=H/\ys[i]?=some x)/\(ys.length<=i->J.stop i H)
theorem DU {K:bn}{a:al}{ys:List V}{H:Hp}(h:dr K H a ys):Runs (HS K a) ys H:=fun i=>
 ⟨fun hi=>⟨⟨ys,ys[i],h,ac hi⟩,fun x H' y=>⟨y.1,y.2 ys h⟩⟩,fun hi=>⟨ys,h,hi⟩⟩
theorem Bf {K:bn}{a:al}{ys:List V}{H:Hp}(h:bU K H a ys):Runs (HR K a) ys H:=fun i=>
 ⟨fun hi=>⟨⟨ys,ys[i],h,ac hi⟩,fun x H' y=>⟨y.1,y.2 ys h⟩⟩,fun hi=>⟨ys,h,hi⟩⟩
theorem qb {lo:Int}{n:Nat}{H:Hp}:Runs (Av lo n) ((im n).map fun i=>V.int (lo+(i:Nat))) H:=fun i=>by
 have el:((im n).map fun i=>V.int (lo+(i:Nat))).length=n :=by simp
 rw[el];refine⟨fun hi=>⟨hi,fun x H' y=>?_⟩,fun hi=>hi⟩
 obtain⟨e1,e2⟩:=y;refine⟨e1,?_⟩;rw[e2,ij,LG hi];rfl
section
variable {X:Cx}{K:bn}
theorem xH (h:X.K=K):mQ X (Nq K):=h▸Iz
theorem tH (h:X.K=K):OpR X (compareOp .NotIn) (IC K true):=h▸uw
theorem Bg (h:X.K=K):cw X (.builtin "len") (fun xs H Q=>∃x n,xs=[x]/\Ij K x H n/\Q (.int n) H):=h▸DJ
theorem tI (h:X.K=K):cw X (.type "list") (fun xs H Q=>∃p ys,xs=[.ref p]/\(bU K H p ys\/dr K H p ys)/\∀l,H l=none->Q (.ref l) (upd H l (.lst ys))):=h▸ux
theorem rq (h:X.K=K):cw X (.type "tuple") (fun xs H Q=>∃p ys,xs=[.ref p]/\((bU K H p ys/\∀l,H l=none->Q (.ref l) (upd H l (.tup ys)))\/(dr K H p ys/\Q (.ref p) H))):=h▸tG
theorem uJ (h:X.K=K):cw X (.builtin "isinstance") (fun xs H Q=>∃x T t b,xs=[x,.ty T]/\gN K H x t/\UI K t (.type T)=some b/\Q (.bl b) H):=h▸wC
theorem DV {tg l:hX}{tl:TE}(h:X.K=K) (hl:PE X l tl):PI X tg l (Fn K tl):=h▸Gp hl
theorem GI {tg l:hX}{tl:TE}(h:X.K=K) (hl:PE X l tl):PI X tg l (HU K tl):=h▸HV hl
variable {o e:hX}{es:List hX}{to:TE}{t:TA}{name:cb}{apos bB:xp}{T id:String}{r:V->List V->Hp->VK->Prop}
theorem Jb (h:X.K=K) (pa:PlainAttrs T) (slot:Slot T name id) (AV:typeOf (.builtin id)=pure (.type "method_descriptor")) (hm:Fw X id r) (ho:PE X o to) (ha:PA X (e::es) t) (pT:attributeBase o name X.env (eval o X.env)=eval o X.env :=by rfl)
  (uy:((backTo bB (starEach (e::es) X.env)).all (fun x => !x.1) && (backToKw bB (keywordEach [] X.env)).all (fun x=>x.1.isSome)
   && decide ((e::es).length+([]:List Tu).length+(if ([]:List Tu).isEmpty then 0 else 1)<30))=true :=by rfl)
  (hline:(apos.endLine==bB.line)=true :=by rfl) (hs:starEach (e::es) X.env=(false,eval e X.env)::starEach es X.env :=by rfl) (mR:(backTo bB (starEach es X.env)).any (·.1)=false :=by rfl) :
  PE X (.Call (.Attribute o name apos) (e::es) [] bB) (Nr K T r to t):=h▸L3 pa slot AV hm ho ha pT uy hline hs mR
end
abbrev bM (K:bn) (x:cb) (st:tz):Prop:=
 ∃(f:al) (oc:ap) (od:Option al) (sl:Array (Option ap)) (kV dc pm:ap) (an:Option al) (cd ct:ap),
  nw K mainGlobals x=some (some (.ref f))/\K.lookup f=some ⟨oc,od,.func (Go x x (gV st) (dG st) (ai st) .none kV dc pm an cd ct),sl⟩/\Ts K cd x=true/\SS K (.ref f)=true
theorem aV {K:bn}{x:cb}{st:tz}{f:al}{oc:ap}{od:Option al}{sl:Array (Option ap)}{kV dc pm:ap}{an:Option al}{cd ct:ap}(a:nw K mainGlobals x=some (some (.ref f)))
  (l:K.lookup f=some ⟨oc,od,.func (Go x x (gV st) (dG st) (ai st) .none kV dc pm an cd ct),sl⟩) (c:Ts K cd x=true) (k:SS K (.ref f)=true):bM K x st:=⟨f,oc,od,sl,kV,dc,pm,an,cd,ct,a,l,c,k⟩
section
variable {K:bn}{mg:cb->Option ap}{h base:kt}
theorem bM.df {x:cb}{st:tz}(d:bM K x st) (X:K.In h) (G:h.Ns mainGlobals mg) (ps:List cb)
  (hb:∀(kV doc pm:ap) (an:Option al) (dZ ct:ap) (us:List ap),us.length=ps.length->bindArgs (Go x x (gV st) (dG st) (ai st) .none kV doc pm an dZ ct) ⟨us,[]⟩=pure (ps.zip us)) :
  ∃f fd,Df K mg x st ps f fd :=by
 obtain⟨f,oc,od,sl,kV,dc,pm,an,cd,ct,a,l,c,k⟩:=d;have F:=IL (st:=st) l c k;exact⟨f,_,F,F.binds hb,Re X G a⟩
theorem uK {x:cb}{st:tz}{ps:List cb}{f p:al}{fd:mo}(D:Df K mg x st ps f fd) (X:K.In h)
  (t:∃f o fd c,mg x=some (.ref f)/\h.get? f=some o/\o.data=.func fd/\fd.code=.ref c/\re h c p) (tr:∀c p,re h c p->re base c p):∃c,Be base fd c p :=by
 obtain⟨f',o,Qm,c,e1,e2,e3,e4,e5⟩:=t;obtain⟨oc,od,kV,doc,pm,an,dZ,ct,mP,rfl,lk,iR⟩:=D.fn.ex;have e:=D.mg.symm.trans e1;cases e;have q:=(X _ _ lk).symm.trans e2;cases q;cases e3;exact⟨c,e4,tr _ _ e5⟩
theorem Df.bind1 {x y:cb}{st:tz}{f:al}{fd:mo}(D:Df K mg x st [y] f fd) (s:ar) (v:ap)
  (hb:∀(kV doc pm:ap) (an:Option al) (dZ ct:ap) (u:ap),bindArgs (Go x x (gV st) (dG st) (ai st) .none kV doc pm an dZ ct) ⟨[u],[]⟩=pure [(y,u)]):Vb s fd ⟨[v],[]⟩ [(y,v)] :=by
 obtain⟨oc,od,kV,doc,pm,an,dZ,ct,mP,rfl,lk,iR⟩:=D.fn.ex;exact .of_eq (hb kV doc pm an dZ ct v)
theorem gw {α β:Type}{F:α->β->Prop}{a:α}{r:List α}{t:List β}(h:u8 F (a::r) t):∃b t',t=b::t'/\F a b/\u8 F r t':=by
 cases h with
 |cons x y=>exact⟨_,_,rfl,x,y⟩
theorem recs_of {q:i4}{mB:List cb}(h:(mB.all fun y=>(recsOf q).any fun r=>decide (r.name=y))=true):∀y∈mB,∃r∈recsOf q,r.name=y:=fun y hy=>by
 have:=tw.mp h y hy;obtain⟨r,hr,e⟩:=T7.mp this;exact⟨r,hr,of_decide_eq_true e⟩
end
def ko (xs:Array Nat):Prop:=xs.toList.Pairwise (· < ·)
theorem jM {xs:Array Nat}(h:ko xs) {i j:Nat}(mC:i<j) (hj:j<xs.size):xs[i]<xs[j] :=by
 have:=Cs.mp h i j (by simpa using Nat.lt_trans mC hj) (by simpa using hj) mC
 simpa using this
theorem below_go {xs:Array Nat}{v:Nat}(h:ko xs):∀(fuel lo hi:Nat),hi - lo<=fuel->lo<=hi->hi<=xs.size->(∀i (cI:i<xs.size),i<lo->xs[i]<v)->(∀i (cI:i<xs.size),hi<=i->v<=xs[i])->
  TD xs v fuel lo hi<=xs.size/\(∀i (cI:i<xs.size),i<TD xs v fuel lo hi->xs[i]<v)/\∀i (cI:i<xs.size),TD xs v fuel lo hi<=i->v<=xs[i]
 |0,lo,hi,hf,h1,h2,ha,hb=>by
          have e:lo=hi :=by omega
          subst e;exact⟨h2,ha,hb⟩
 |fuel+1,lo,hi,hf,h1,h2,ha,hb=>by
          unfold TD;by_cases aD:lo<hi
          ·rw[if_pos aD];dsimp only;have hm:(lo+hi) / 2<xs.size :=by omega
           have e:xs.getD ((lo+hi) / 2) v=xs[(lo+hi) / 2] :=by simp[FM,hm]
           rw[e];by_cases hc:xs[(lo+hi) / 2]<v
           ·rw[if_pos hc];refine below_go h fuel _ _ (by omega) (by omega) h2 (fun i cI hl=>?_) hb
            by_cases ei:i=(lo+hi) / 2
            ·subst ei;exact hc
            ·exact Nat.lt_trans (jM h (show i<(lo+hi) / 2 by omega) hm) hc
           ·rw[if_neg hc];refine below_go h fuel _ _ (by omega) (by omega) (by omega) ha (fun i cI hl=>?_)
            by_cases ei:i=(lo+hi) / 2
            ·subst ei;exact T4 hc
            ·exact wv (T4 hc) (Na (jM h (show (lo+hi) / 2<i by omega) cI))
          ·rw[if_neg aD];have e:lo=hi :=by omega
           subst e;exact⟨h2,ha,hb⟩
theorem jN {xs:Array Nat}(v:Nat) (h:ko xs):l5 xs v<=xs.size/\(∀i (cI:i<xs.size),i<l5 xs v->xs[i]<v)/\∀i (cI:i<xs.size),l5 xs v<=i->v<=xs[i]:=
 below_go h _ _ _ (by omega) (sB _) (bv _) (fun i _ z=>absurd z (Vo _)) (fun i z z'=>absurd z (Va.mpr z'))
theorem yY {xs:Array Nat}{v:Nat}(h:ko xs) (hn:xs[l5 xs v]?≠some v):ko (xb xs (l5 xs v) v) :=by
 obtain⟨b0,b1,b2⟩:=jN v h;generalize l5 xs v=p at *
 unfold ko xb;have e:((xs.extract 0 p).push v++xs.extract p xs.size).toList=xs.toList.take p++[v]++xs.toList.drop p :=by
  simp;exact TV (by simp)
 rw[e];have hl:∀y∈xs.toList.take p,y<v:=fun y hy=>by
  obtain⟨i,hi,rfl⟩:=List.mem_take_iff_getElem.mp hy;have iU:i<p/\i<xs.size :=by simpa[Nat.lt_min] using hi
  simpa using b1 i iU.2 iU.1
 have hr:∀y∈xs.toList.drop p,v<y:=fun y hy=>by
  obtain⟨i,hi,rfl⟩:=List.mem_drop_iff_getElem.mp hy;have iU:p+i<xs.size :=by rw[Nat.add_comm];simpa using hi
  have h1:v<=xs[p+i]:=b2 (p+i) iU (Nat.le_add_right _ _);have h2:v≠xs[p+i]:=fun z=>by
   by_cases Qn:i=0
   ·subst Qn;exact hn (by rw[Nat.add_zero]at iU;rw[sw iU];simpa using z.symm)
   ·have q:=jM h (show p<p+i by omega) iU
    have q2:=b2 p (by omega) (bv _)
    omega
  have:xs.toList[p+i]'(by simpa using iU)=xs[p+i] :=by simp
  rw[this];omega
 have hp:=List.take_append_drop p xs.toList;have Qo:(xs.toList.take p++xs.toList.drop p).Pairwise (· < ·) :=by rw[hp];exact h
 obtain⟨q1,q2,q3⟩:=Uy.mp Qo;refine Uy.mpr ⟨Uy.mpr ⟨q1,List.pairwise_singleton _ _,fun a ha b hb=>?_⟩,q2,fun a ha b hb=>?_⟩
 ·rw[lw]at hb;subst hb;exact hl a ha
 ·rcases rc.mp ha with ha|ha
  ·exact q3 a ha b hb
  ·rw[lw]at ha;subst ha;exact hr b hb
structure bq (w:i8) (t:li):Prop where
 dum:t.dummies=#[]
 ris:ko t.place
 led:t.led = !w.params.followText "set-order"
theorem Bh (n:Nat):ko (Array.range n) :=by
 unfold ko;rw[Array.toList_range];exact SB
theorem bq.standIn {w:i8}{t:li}(h:bq w t) (n:Nat):bq w (t.standIn n):=⟨rfl,Bh n,h.led⟩
theorem bq.orStandIn {w:i8}{t:li}(h:bq w t) (n:Nat):bq w (t.orStandIn n) :=by
 unfold li.orStandIn;split
 ·exact h
 ·exact h.standIn n
theorem rA (j:Nat):li.has #[] j=false :=by
 unfold li.has;have:(#[]:Array Nat)[l5 #[] j]?=none :=by simp
 rw[this];rfl
theorem uL {w:i8}{t:li}(h:bq w t) {hashAt:Nat->Int}{hh:Int}{j:Nat}{d:Option Nat}:∀(fuel:Nat) (p:ON),p.dummy=none->Os t hashAt hh fuel p=some (.empty j d)->t.slot j=.empty/\d=none
 |0,p,_,e=>by simp[Os]at e
 |fuel+1,p,hp,e=>by
          unfold Os at e;have O9:∀p:ON,(t.advance p).dummy=p.dummy:=fun p=>by
           unfold li.advance;split<;>rfl
          cases hs:t.slot p.j with
          |empty=>
           rw[hs]at e;have e':=kw e;injection e' with e1 e2
           exact⟨by rw[<- e1];exact hs,by rw[<- e2];exact hp⟩
          |dummy=>
           exfalso
           unfold li.slot at hs;dsimp only at hs;rw[h.dum,rA]at hs;split at hs<;>simp at hs
          |live i=>
           rw[hs]at e;dsimp only at e;split at e
           ·simp at e
           ·exact uL h fuel _ (by rw[O9];exact hp) e
theorem yZ {w:i8}{t:li}(h:bq w t) {j:Nat}(e:t.slot j=.empty):t.place[l5 t.place j]?≠some j:=fun z=>by
 unfold li.slot at e;dsimp only at e;rw[z]at e;simp at e
theorem bq.put {w:i8}{t:li}(h:bq w t) {j:Nat}(e:t.slot j=.empty):bq w (t.put j).1 :=by
 unfold li.put;refine⟨?_,yY h.ris (yZ h e),h.led⟩;show (if li.has t.dummies j then _ else t.dummies)=#[]
 rw[h.dum,rA];rfl
theorem bq.layNew {w:i8}{t:li}(h:bq w t) (es:Array (Int×ap)) (hh:Int) (x:ap):bq w (layNew t es hh x).2.1 :=by
 unfold PySem.layNew;split
 ·rename_i slot o8 hf;unfold li.freeSlot at hf;refine(bq.put h ?_).orStandIn _;split at hf
  ·rename_i j dummy hp;obtain⟨e1,e2⟩:=uL h _ _ rfl hp;subst e2;have:=kw hf;injection this with z1 _
   rw[<- z1];exact e1
  ·cases hf
 ·exact h.standIn _
theorem uM {α:Type}(f:Nat->Option α) (n:Nat):ko (((im n).filterMap fun j=>(f j).map (j,·)).map (·.1)).toArray :=by
 unfold ko;have e:(((im n).filterMap fun j=>(f j).map (j,·)).map (·.1)).toArray.toList=(im n).filter fun j=>(f j).isSome :=by
  rw[S9];induction im n with
  |nil=>rfl
  |cons a l ih=>
   cases hf:f a with
   |none=>simp[LF,hf,ih]
   |some b=>simp[LF,hf,ih]
 rw[e];exact TY.filter _ SB
theorem bq.L9 {w:i8}{t:li}(h:bq w t) (es:Array (Int×ap)) (wanted:Nat):bq w (relayAll t es wanted).2.1 :=by
 unfold relayAll;split
 ·rename_i t' order hr;dsimp only;split
  ·unfold li.relaid li.laid at hr;simp only[Option.bind_eq_bind,Tv,Option.pure_def]at hr;obtain⟨owner,_,hr⟩:=hr;have:=kw hr;injection this with z1 _
   subst z1;exact⟨rfl,uM (fun j=>owner.getD j none) _,h.led⟩
  ·exact h.standIn _
 ·exact h.standIn _
theorem bq.o9 {w:i8}{t:li}(h:bq w t) (b:Bool):bq w (if b=true then t else {t with plain:=false}) :=by
 split
 ·exact h
 ·exact⟨h.dum,h.ris,h.led⟩
def dU (e:Int×ap):Int:=match e.2 with | .int i _=>i|_=>0
def bT (P:i4) (w:i8) (h:kt) (a:al) (ns:List Int):Prop:=
 ∃o es ep t,h.get? a=some o/\o.ExactSet/\o.data=.set es ep t/\UJ (intKind P w) es.toList/\(es.toList.map dU).Perm ns/\ns.Nodup/\es.size<scanBound/\t.fits es.size=true/\bq w t
theorem bT.bN {P:i4}{w:i8}{h h':kt}{a:al}{ns:List Int}(x:bT P w h a ns) (k:∀o,h.get? a=some o->h'.get? a=some o):bT P w h' a ns:=
 let ⟨o,es,ep,t,e,r⟩:=x;⟨o,es,ep,t,k o e,r⟩
def fE (P:i4) (w:i8) (a:al) (ns:List Int):HO:=.ext fun h=>bT P w h a ns
def da (ns:List Int) (m:Int):List Int:=if m∈ns then ns else ns++[m]
theorem wD {P:i4}{w:i8}{es:List (Int×ap)}(h:UJ (intKind P w) es) {k:Int}:(∃e∈es,(intKind P w).is k e.2=true) ↔ k∈es.map dU :=by
 constructor
 ·rintro⟨e,he,hk⟩;obtain⟨t,e2⟩:=Tx (k:=k) (v:=e.2) hk;exact ff.mpr ⟨e,he,by unfold dU;rw[e2]⟩
 ·intro hm;obtain⟨e,he,q⟩:=ff.mp hm;obtain⟨⟨k',gb,_⟩,_⟩:=h e he;obtain⟨t,e2⟩:=Tx (k:=k') (v:=e.2) gb;have:k'=k :=by rw[<- q];unfold dU;rw[e2]
  exact⟨e,he,this▸gb⟩
section
variable {P:i4}{w:i8}{A:ma}{E:ap->ar->Prop}{s:ar}
theorem qd {h:kt}{a:al}{o:lp}{es:Array (Int×ap)}{ep:Nat}{t:li}(ho:h.get? a=some o) (hex:o.ExactSet) (hd:o.data=.set es ep t)
  {cz:Array (Int×ap)} {t':li} {ns:List Int} (jh:UJ (intKind P w) cz.toList) (hp:(cz.toList.map dU).Perm ns) (hn:ns.Nodup) (hb:cz.size<scanBound) (hf:t'.fits cz.size=true) (ht:bq w t') :
  (h.update a (MW cz t')).get? a=some {o with data:=.set cz (ep+1) t'}/\bT P w (h.update a (MW cz t')) a ns :=by
 have hg:(h.update a (MW cz t')).get? a=some {o with data:=.set cz (ep+1) t'}:=by
  have:=sK (MW cz t') ho (by rw[UR cz t' hd];rfl)
  rw[UR cz t' hd]at this;exact this
 exact⟨hg,_,cz,ep+1,t',hg,hex,rfl,jh,hp,hn,hb,hf,ht⟩
theorem uN {g:Bool->TQ Unit}(hg:∀(b:Bool) (aw:ar) (Q':Unit->ar->Prop),Q' () aw->wpAny (model P w) A (g b) Q' E aw)
  {a:al} {o:lp} {es:Array (Int×ap)} {ep:Nat} {t:li} (ho:s.heap.get? a=some o) (hex:o.ExactSet) (hd:o.data=.set es ep t)
  {cE:Array (Int×ap)} {t2:li} {ns:List Int} (uO:UJ (intKind P w) cE.toList) (Bi:(cE.toList.map dU).Perm ns) (hn:ns.Nodup)
  (xI:cE.size<scanBound) (Qp:t2.fits cE.size=true) (ND:bq w t2) {o8:Bool} {R:Option Bool->ar->Prop}
  (h:∀h',DO a s.heap h'->bT P w h' a ns->R (some true) {s with heap:=h'}) :
  wpAny (model P w) A (do
    storeSet a cE t2
    if (!o8 && t2.tooFull)=true then do
      g (relayAll t2 cE (ID cE.size)).2.2
      storeSet a (relayAll t2 cE (ID cE.size)).1 (relayAll t2 cE (ID cE.size)).2.1
      pure (some true)
     else pure (some true)) R E s :=by
 refine ag (TF ho hd ?_ (TH xI));obtain⟨qf,mD⟩:=qd (P:=P) (w:=w) ho hex hd uO Bi hn xI Qp ND;have Jc:=EO s.heap a (MW cE t2);split
 ·have hp:=relayAll_perm t2 cE (ID cE.size);have pV:=relayAll_fits t2 cE (ID cE.size);have A9:=ND.L9 cE (ID cE.size);generalize relayAll t2 cE (ID cE.size)=Rl at hp pV A9 ⊢
  obtain⟨NF,t3,Sa⟩:=Rl;dsimp only at hp pV A9 ⊢;have hsz:NF.size=cE.size :=by rw[<- jp,hp.length_eq,jp]
  have m6:NF.size<scanBound :=by rw[hsz];exact xI
  refine ag (hg _ _ _ (ag (TF qf rfl ?_ (TH m6))));obtain⟨_,xJ⟩:=qd (P:=P) (w:=w) qf hex rfl (uO.perm hp) ((hp.map dU).trans Bi) hn m6 pV A9;exact ba (h _ (Jc.trans (EO _ a _)) xJ)
 ·exact ba (h _ Jc mD)
theorem sH {a:al}{ns:List Int}{m:Int}{tk:Vl}{Q:Bool->ar->Prop}(hS:bT P w s.heap a ns) (kn:ns.length+1<scanBound)
  (h:∀h',DO a s.heap h'->bT P w h' a (da ns m)->Q (decide (m ∉ ns)) {s with heap:=h',toks:=s.toks+1}):wpAny (model P w) A (setAdd a (.int m tk)) Q E s :=by
 unfold setAdd;refine ul (ag ((intKind P w).pyHash (k:=m) (intKind_is _ _ _ _) ?_));have yQ:(intKind P w).is m (.int m tk)=true:=intKind_is _ _ _ _;obtain⟨o,es,ep,t,ho,hex,hd,jh,hp,hn,hb,hf,ht⟩:=hS;have m7:∀k,(∃e∈es.toList,(intKind P w).is k e.2=true) ↔ k∈ns:=fun k=>(wD jh).trans hp.mem_iff
 have hlen:es.size=ns.length :=by rw[<- jp,<- hp.length_eq,br]
 unfold setAddHashed setAddHashedIn;refine ul (ag (AT (s:={s with toks:=s.toks+1}) ho hd hf ?_))
 dsimp only;rw[byScan_of (x:=.int m tk) rfl hb jh];simp only[↓reduceIte];unfold setAddByScan;refine ag (ag (GS (ag (wpAny_setScan_of yQ ho hd hf jh ?_))));cases hr:List.findIdx? (fun e=>(intKind P w).is m e.2) es.toList with
 |some j=>
  dsimp only;obtain⟨hj,Qq,_⟩:=List.findIdx?_eq_some_iff_getElem.mp hr;have hm:m∈ns:=(m7 m).mp ⟨es.toList[j],wn hj,Qq⟩;have:=h s.heap (DO.refl a s.heap) (by unfold da;rw[if_pos hm];exact⟨o,es,ep,t,ho,hex,hd,jh,hp,hn,hb,hf,ht⟩)
  rw[decide_eq_false (fun z=>z hm)]at this
  exact ba (ba this)
 |none=>
  dsimp only;have hm:m ∉ ns:=fun z=>by
   obtain⟨e,he,q⟩:=(m7 m).mpr z;have:=List.findIdx?_eq_none_iff.mp hr e he;rw[q]at this;cases this
  have n6:=layNew_perm t es ((intKind P w).hash m) (.int m tk);have qg:=layNew_fits t es ((intKind P w).hash m) (.int m tk);have jO:=ht.layNew es ((intKind P w).hash m) (.int m tk);generalize layNew t es ((intKind P w).hash m) (.int m tk)=L at n6 qg jO ⊢
  obtain⟨cE,t1,o8,Sg⟩:=L;dsimp only at n6 qg jO ⊢;rw[Array.toList_push]at n6;have uO:UJ (intKind P w) cE.toList:=(jh.push yQ rfl).perm n6;have y0:da ns m=ns++[m] :=by unfold da;rw[if_neg hm]
  have Bi:(cE.toList.map dU).Perm (da ns m) :=by
   rw[y0];refine(n6.map dU).trans ?_;rw[mv];exact Lu.append hp (.refl _)
  have NI:(da ns m).Nodup :=by
   rw[y0];exact U3.mpr ⟨hn,by simp,fun a ha b hb=>by rw[lw]at hb;rw[hb];exact fun z=>hm (z▸ha)⟩
  have xI:cE.size<scanBound :=by rw[<- jp,n6.length_eq,zw,jp,hlen];simpa using kn
  have Jd:∀(b:Bool) (aw:ar) (Q':Unit->ar->Prop),Q' () aw->wpAny (model P w) A (match b with|true=>rule "set.scan.the-table-gave-way" |false=>pure ()) Q' E aw:=
   fun b aw Q' hq=>by cases b<;>first|exact ba hq|exact GS hq
  have Je:∀h',DO a s.heap h'->bT P w h' a (da ns m)->Q true {s with heap:=h',toks:=s.toks+1}:=by
   intro h' hV cR;have:=h h' hV cR;rw[decide_eq_true hm]at this;exact this
  refine ag (Jd _ _ _ ?_);split
  ·refine ag ?_;rw[hashByValue_scannable 8 (x:=.int m tk) rfl];refine ba (uN (P:=P) (w:=w) (s:={s with toks:=s.toks+1}) Jd ho hex hd uO Bi NI xI ?_ (jO.o9 _) fun h' hV cR=>ba (Je h' hV cR))
   split
   ·exact qg
   ·exact li.fits_plain_off qg
  ·refine ag (ba ?_);simp only[↓reduceIte];exact uN (P:=P) (w:=w) (s:={s with toks:=s.toks+1}) Jd ho hex hd uO Bi NI xI qg jO fun h' hV cR=>ba (Je h' hV cR)
theorem DW {ns:List Int}{m k:Int}:k∈da ns m ↔ k∈ns\/k=m :=by
 unfold da;split
 ·rename_i hm;exact⟨.inl,fun h=>h.elim id fun e=>e▸hm⟩
 ·simp
theorem uP {ns:List Int}{m:Int}:(da ns m).length<=ns.length+1 :=by
 unfold da;split
 ·omega
 ·simp
end
def dW (ns:List Int):List Int:=ns.foldl da []
theorem Bj (ns:List Int) (m:Int):dW (ns++[m])=da (dW ns) m :=by
 unfold dW;rw[List.foldl_append];rfl
theorem DX {ns:List Int}{k:Int}:k∈dW ns ↔ k∈ns :=by
 unfold dW;have:∀(l acc:List Int),k∈l.foldl da acc ↔ k∈acc\/k∈l:=fun l=>by
  induction l with
  |nil=>intro acc;simp
  |cons a l ih=>
   intro acc;rw[Uu,ih,DW,l7];constructor
   ·rintro ((h|h)|h)
    ·exact .inl h
    ·exact .inr (.inl h)
    ·exact .inr (.inr h)
   ·rintro (h|h|h)
    ·exact .inl (.inl h)
    ·exact .inl (.inr h)
    ·exact .inr h
 rw[this];simp
theorem lD (ns:List Int):(dW ns).length<=ns.length :=by
 unfold dW;have:∀(l acc:List Int),(l.foldl da acc).length<=acc.length+l.length:=fun l=>by
  induction l with
  |nil=>intro acc;simp
  |cons a l ih=>
   intro acc;rw[Uu,Cn];have h1:=ih (da acc a);have h2:=@uP acc a;omega
 simpa using this ns []
section
variable {P:i4}{w:i8}{A:ma}{R:TR->ar->Prop}{I:al}{fp wr:List al}{G:Array S5->Array S5->Prop}{n:Nat}{St:Nat->ar->Prop}
theorem DY {vs:List Int}{Pv:Nat->ap->Prop}(W:Vw P w A.in1 I fp wr G vs.length Pv St) (S:al) (ia:S ∉ fp) (DZ:∀(i:Nat) (v:ap),Pv i v->∃m t,vs[i]?=some m/\v=.int m t) (hb:vs.length+1<scanBound) :
  ∀(k i:Nat) (s:ar),vs.length - i=k->i<=vs.length->St i s->bT P w s.heap S (dW (vs.take i))->
   (∀s',Moved (S::wr) G s s'->bT P w s'.heap S (dW vs)->R (.ok (.ret .none)) s')->
   codeAny (model P w) A (.builtin "set.update.loop" ⟨[.ref S,.ref I],[]⟩) R s :=by
 have uQ:S ∉ wr:=fun h=>ia (W.sub _ h)
 have pd:∀b∈wr,b∈S::wr:=fun b hb=>ci _ hb
 intro k;induction k with
 |zero=>
  intro i s hk hi ib hS hR;have iV:i=vs.length :=by omega
  subst iV;refine ww F.entry_set_update_loop ?_;rw[ss Tw _];show wpAny _ A.in1 (pyNext (.ref I)>>=_) _ _ s;refine ag (W.done s _ _ ib fun s' hm=>?_)
  rw[List.take_length]at hS;exact ba (hR s' (hm.mono pd) (hS.bN fun o e=>hm.heap S _ uQ e))
 |succ k ih=>
  intro i s hk hi ib hS hR;have aD:i<vs.length :=by omega
  refine ww F.entry_set_update_loop ?_;rw[ss Tw _];show wpAny _ A.in1 (pyNext (.ref I)>>=_) _ _ s;refine ag (W.item i s _ _ aD ib fun v s' hP rB hm=>?_)
  obtain⟨m,t,ji,rfl⟩:=DZ i v hP;have cR:bT P w s'.heap S (dW (vs.take i)):=hS.bN fun o e=>hm.heap S _ uQ e
  show wpAny _ A.in1 (holding [VC m t] (setAdd S (.int m t))>>=_) _ _ s';have kn:(dW (vs.take i)).length+1<scanBound :=by
   have h1:=lD (vs.take i);rw[T0]at h1;omega
  refine ag (ul (sH cR kn fun h' hV xJ=>?_))
  have Qr:bT P w h' S (dW (vs.take (i+1))) :=by
   rw[TJ,ji];show bT P w h' S (dW (vs.take i++[m]));rw[Bj];exact xJ
  refine ba ⟨wl Tw _,ih (i+1) _ (by omega) aD (W.frame _ s' _ _ rB (AN _) fun b hb o e=>?_) Qr fun aW Pa Pb=>?_⟩
  ·rw[hV.2 b (fun h:b=S=>ia (by rw[<- h];exact hb))];exact e
  ·refine hR aW (Moved.trans W.gtrans ((hm.mono pd).then_heap (AN _) fun b o hb e=>?_) Pa) Pb
   rw[hV.2 b (fun h:b=S=>hb (by rw[h];exact f8))];exact e
end
theorem sub_tuple_set:isSubtype (.type "tuple") (.type "set")=pure false :=by rw[UK];kernel_rfl
theorem rC:isSubtype (.type "tuple") (.type "frozenset")=pure false :=by rw[UK];kernel_rfl
section
variable {P:i4}{w:i8}{A:ma}{E:ap->ar->Prop}{s:ar}
abbrev fF (w:i8):lp:={cls:=.type "set",dict:=none,data:=.set #[] 0 (.fresh 0 0 (!w.params.followText "set-order"))}
theorem xK {h:kt}:bT P w (h.push (fF w)) h.objs.size []:=⟨_,#[],0,_,io _ rfl,⟨rfl,rfl,rfl⟩,rfl,fun e he=>by simp at he,by simp,by simp,by decide,by rfl,rfl,TY.nil,rfl⟩
theorem D0 (a:ap) {Q₁:ap->ar->Prop}(h:Q₁ (.ref s.heap.objs.size) {s with heap:=s.heap.push (fF w)}) :
  codeAny (model P w) A (.call (.builtin "set.__new__") ⟨[.type "set",a],[]⟩) (wants Q₁ E) s :=by
 refine Vm ?_;show wpAny _ A.in1 (do checkBuiltinCall "set.__new__" ⟨[.type "set",a],[]⟩;again (.builtin "set.__new__" ⟨[.type "set",a],[]⟩)) _ _ s
 refine ag (Vu (F.newCall_set_1 a) (ba ⟨wl F.plain_set_new _,ww F.entry_set_new ?_⟩));rw[ss F.plain_set_new _];unfold ut.«set.__new__» ut.Frozenset.newClass;have pd:=sub_set_self;obtain⟨hp,g,d,tk,os⟩:=s;dsimp only;wp_walk
 refine Pd (ba ?_);dsimp only;simp only[newObj];refine ag (wpAny_alloc (ba ?_));exact ba h
theorem bT.typeIs {h:kt}{a:al}{ns:List Int}{s:ar}(x:bT P w s.heap a ns):s.TypeIs (.ref a) "set" := let ⟨o,_,_,_,ho,hex,_⟩:=x;⟨o,ho,hex.1⟩
theorem m8 {T:String}{l:al}{itob:lp}{vs:List Int}{Pv:Nat->ap->Prop}{St:al->Nat->kt->Prop}{Q:ap->ar->Prop}(hh:A.handled=none)
  (hl:∃o,s.heap.get? l=some o) (hT:∀s1:ar,(∀o,s.heap.get? l=some o->s1.heap.get? l=some o)->s1.TypeIs (.ref l) T) (h1:isSubtype (.type T) (.type "set")=pure false) (h2:isSubtype (.type T) (.type "frozenset")=pure false) (h3:(DD T==DD "dict")=false)
  (hit:∀(A':ma) (s1:ar) (Q':ap->ar->Prop) (E':ap->ar->Prop),(∀o,s.heap.get? l=some o->s1.heap.get? l=some o)->Q' (.ref s1.heap.objs.size) {s1 with heap:=s1.heap.push itob}->wpAny (model P w) A' (pyIter (.ref l)) Q' E' s1)
  (hW:∀(A':ma) (I:al),A'.handled=none->l≠I->Vz P w A' I [I,l] [I] vs.length Pv (St I)) (Qs:∀h1:kt,(∀o,s.heap.get? l=some o->h1.get? l=some o)->St h1.objs.size 0 (h1.push itob))
  (DZ:∀(i:Nat) (v:ap),Pv i v->∃m t,vs[i]?=some m/\v=.int m t) (hb:vs.length+1<scanBound)
  (h:∀(h':kt) (tk:Nat),bT P w h' s.heap.objs.size (dW vs)->(∀b o,s.heap.get? b=some o->h'.get? b=some o)->Q (.ref s.heap.objs.size) {s with heap:=h',toks:=tk}) :
  wpAny (model P w) A (call (.type "set") [.ref l]) Q E s :=by
 obtain⟨c,tl,Sh⟩:=Pf.mro;have Sb:=Pf.made;have pd:=Pf.sub;refine wpAny_call (Vm ?_);show wpAny _ _ (callAny (.type "set") _) _ _ _
 refine ba ⟨Code.quiet_builtin _ (by decide +kernel),ww F.entry_type_call ?_⟩
 rw[ma.under_plain (weight_type_call_type "set" [.ref l] []) rfl]
 have k1:=Pf.notType;have k2:=Pf.canCreate;have Sw:=F.typeCall_set_1 (.ref l);repeat (any_goals (first|assumption|wp_step))
 refine Ur (D0 (P:=P) (w:=w) (.ref l) (E:=E) (Q₁:=fun obj aw=>obj=.ref s.heap.objs.size/\aw={s with heap:=s.heap.push (fF w)}) ⟨rfl,rfl⟩) fun r aw hr=>?_
 cases r with
 |error e=>exact hr
 |ok fl=>
  cases fl with
  |ret obj=>
   obtain⟨rfl,rfl⟩:=hr;have hS:(s.heap.push (fF w)).get? s.heap.objs.size=some {cls:=.type "set",dict:=none,data:=.set #[] 0 (.fresh 0 0 (!w.params.followText "set-order"))}:=io _ rfl
   have Qt:S8 {s with heap:=s.heap.push (fF w)} (.ref s.heap.objs.size) "set" := ⟨_,hS,rfl⟩
   have kp:∀b o,s.heap.get? b=some o->(s.heap.push (fF w)).get? b=some o:=fun b o e=>bi _ e
   have sz:(s.heap.push (fF w)).objs.size=s.heap.objs.size+1 :=by rw[B0]
   have m9:=Pf.init.lookup;have Sx:=Pf.init.bind (.ref s.heap.objs.size);repeat (any_goals (first|assumption|wp_step))
   refine Ur (codeAny_call_builtin (R:=wants (fun r mK=>r=.none/\∃h' tk,mK={s with heap:=h',toks:=tk}/\bT P w h' s.heap.objs.size (dW vs) /\
     (∀b o,s.heap.get? b=some o->h'.get? b=some o)) E) Pf.init.plain F.entry_set_init (check_set_init_1 Qt ?_)) fun Pg mK y1=>?_
   ·have Sy:=hT {s with heap:=s.heap.push (fF w)} (fun o e=>kp l o e)
    unfold ut.«set.__init__» noKeywords ut.Frozenset.updateFrom;generalize Qu:pyIter=PI
    wp_walk
    subst Qu;obtain⟨ol,FC⟩:=hl;have NK:l<s.heap.objs.size:=ii FC;refine hit _ {s with heap:=s.heap.push (fF w)} _ _ (fun o e=>kp l o e) ?_
    refine ag (UL ?_);have Qv:A.in1.in1.in1.handled=none :=by simp[hh]
    have Ph:l≠(s.heap.push (fF w)).objs.size :=by rw[sz];exact lf (wS NK)
    have ia:s.heap.objs.size ∉ [(s.heap.push (fF w)).objs.size,l] :=by
     rw[sz];simp only[l7,Fa,or_false,not_or];exact⟨lf (AL _),Tj NK⟩
    refine DY ((hW _ (s.heap.push (fF w)).objs.size Qv Ph).toS) s.heap.objs.size ia DZ hb (vs.length - 0) 0 _ (by omega) (sB _) (Qs (s.heap.push (fF w)) fun o e=>kp l o e) (xK.bN fun o e=>bi _ e) ?_
    intro s' hm cR;obtain⟨h',g',d',Bk,Fs⟩:=s';have eg:g'=s.gens:=hm.gens;have ed:d'=s.drawn:=hm.drawn;have eo:Fs=s.os:=hm.os;subst eg;subst ed;subst eo;show wpAny _ _ _ _ _ _;refine ba ?_;show wpAny _ _ (ret v6) _ _ _;refine ba ⟨rfl,h',Bk,rfl,cR,fun b o e=>?_⟩
    have NM:b<s.heap.objs.size:=ii e;refine hm.heap b o ?_ (bi _ (kp b o e));simp only[l7,Fa,or_false,not_or];exact⟨lf NM,by rw[sz];exact lf (wS NM)⟩
   ·cases Pg with
    |error e=>exact y1
    |ok Ma=>
     cases Ma with
     |ret r=>
      obtain⟨rfl,h',tk,rfl,cR,gb⟩:=y1;repeat (any_goals (first|assumption|wp_step))
      exact h _ _ cR gb
     |_=>exact y1.elim
  |_=>exact hr.elim
end
theorem Bm:Manifest.owners.lookup (String.ofList ['r','o','t','a','r','e','t','i','_','t','e','s'].reverse)=some Manifest.sig_set_iterator :=by kernel_rfl
theorem bR:Slot "set_iterator" "__next__" "set_iterator.__next__" :=
 .of (owner := "set_iterator") (n := "__next__") (by rw[typeLookup_type,builtinLookup_eq_fast];kernel_rfl) (by decide +kernel) (by decide +kernel) (by decide +kernel)
  (by first|exact .inl (by decide +kernel)|exact .inr (by decide +kernel)) (by rw[UK];kernel_rfl)
theorem jr:entryFor table "set_iterator.__next__" = some ut.«set_iterator.__next__»:=entryFor_of_tree (by kernel_rfl)
theorem js (a:ap):argsOk "set_iterator.__next__" ⟨[a],[]⟩ :=by
 unfold argsOk;rw[signature?_of (id := "set_iterator.__next__") (n:=['_','_','t','x','e','n','_','_']) (o:=['r','o','t','a','r','e','t','i','_','t','e','s']) (by kernel_rfl) Bm];kernel_rfl
theorem qh:Slot "set_iterator" "__iter__" "set_iterator.__iter__" :=
 .of (owner := "set_iterator") (n := "__iter__") (by rw[typeLookup_type,builtinLookup_eq_fast];kernel_rfl) (by decide +kernel) (by decide +kernel) (by decide +kernel)
  (by first|exact .inl (by decide +kernel)|exact .inr (by decide +kernel)) (by rw[UK];kernel_rfl)
theorem y2:entryFor table "set_iterator.__iter__" = some ut.«dict_keyiterator.__iter__»:=
 entryFor_alias (id' := "dict_keyiterator.__iter__") (by kernel_rfl) (by first|rfl|decide +kernel|(unfold String.splitOn;simp +decide [String.splitOnAux])) (by decide +kernel) (by kernel_rfl)
theorem y3 (a:ap):argsOk "set_iterator.__iter__" ⟨[a],[]⟩ :=by
 unfold argsOk;rw[signature?_of (id := "set_iterator.__iter__") (n:=['_','_','r','e','t','i','_','_']) (o:=['r','o','t','a','r','e','t','i','_','t','e','s']) (by kernel_rfl) Bm];kernel_rfl
theorem oJ:entryFor table "set.__iter__" = some ut.«frozenset.__iter__»:=
 entryFor_alias (id' := "frozenset.__iter__") (by kernel_rfl) (by first|rfl|decide +kernel|(unfold String.splitOn;simp +decide [String.splitOnAux])) (by decide +kernel) (by kernel_rfl)
def dv (h:kt) (I a:al) (first:ap) (i n ep:Nat):Prop:=∃o,h.get? I=some o/\o.cls=.type "set_iterator" /\ o.data=.fields #[first,.int i 0,.ref a,.int n 0,.int ep 0]
theorem dv.typeIs {s:ar}{I a:al}{first:ap}{i n ep:Nat}(x:dv s.heap I a first i n ep):s.TypeIs (.ref I) "set_iterator" := let ⟨o,ho,hc,_⟩:=x;⟨o,ho,hc⟩
theorem fQ {α:Type}:∀{l:List α}{i:Nat}(h:i<l.length),(l[i]::l.eraseIdx i).Perm l
 | [],i,h=>by simp at h
 |x::l,0,h=>.refl _
 |x::l,i+1,h=>by
          rw[List.eraseIdx_cons_succ,List.getElem_cons_succ];exact(Lu.swap _ _ _).trans (.cons _ (fQ (by simpa using h)))
section
variable {P:i4}{w:i8}{A:ma}{E:ap->ar->Prop}{s:ar}
theorem wp_choose {src:Source}{n:Nat}{Q:Nat->ar->Prop}(hn:n≠0) (h:∀i d,i<n->Q i {s with drawn:=d}):wpAny (model P w) A (choose src n) Q E s:=fun Γ p _=>by
 refine⟨hn,?_⟩;exact h _ _ (Uz _ (Nat.pos_of_ne_zero hn))
theorem jP {α:Type}:∀(n:Nat) (xs:List α) {s:ar}{Q:List α->ar->Prop},n=xs.length->(∀ys d,ys.Perm xs->Q ys {s with drawn:=d})->wpAny (model P w) A (drawOrder n xs) Q E s
 |0,xs,s,Q,hn,h=>by
          have:xs=[]:=SO hn.symm;subst this;exact ba (h [] s.drawn .nil)
 |n+1,[],s,Q,hn,h=>by simp at hn
 |n+1,x::xs,s,Q,hn,h=>by
          show wpAny _ _ (choose .order (x::xs).length>>=_) _ _ s;refine ag (wp_choose (by simp) fun i d hi=>?_)
          have e:(x::xs)[i]?=some (x::xs)[i]:=ac hi;rw[e];dsimp only;refine ag (jP n _ (by rw[List.length_eraseIdx_of_lt hi];simp at hn ⊢;omega) fun ys d' hp=>ba (h _ _ ?_))
          exact(Lu.cons _ hp).trans (fQ hi)
structure ie (P:i4) (w:i8) (h:kt) (a:al) (es:Array (Int×ap)) (ep:Nat) (t:li):Prop where
 at_:∃o,h.get? a=some o/\o.ExactSet/\o.data=.set es ep t
 fits:t.fits es.size=true
 tab:bq w t
theorem xM {α:Type}(next:Nat->Nat):∀(fuel k:Nat) (left:List α) (out:Array α),fuel=left.length->(pickOrder.go next fuel k left out).toList.Perm (out.toList++left)
 |0,k,left,out,h=>by
          have:left=[]:=SO h.symm;subst this;simp[pickOrder.go]
 |fuel+1,k,left,out,h=>by
          unfold pickOrder.go;have hl:next k % left.length<left.length:=Uz _ (by omega)
          rw[ac hl];dsimp only;refine(xM next fuel (k+1) _ _ (by rw[List.length_eraseIdx_of_lt hl];omega)).trans ?_
          rw[Array.toList_push,Lo];exact Lu.append_left _ (fQ hl)
theorem ng {α:Type}(next:Nat->Nat) (xs:Array α):(pickOrder next xs).toList.Perm xs.toList :=by
 unfold pickOrder;exact(xM next xs.size 0 xs.toList #[] (by simp)).trans (by simp)
theorem kr {Q:Bool->ar->Prop}(h:Q (w.params.followText "set-order") s):wpAny (model P w) A setsByText Q E s :=by
 unfold setsByText;exact ag (Pd (ba h))
theorem qi {a:al}{es:Array (Int×ap)}{ep:Nat}{t:li}{slot given:Nat}{Q:Option (ap×Nat)->ar->Prop}(hE:ie P w s.heap a es ep t)
  (hd:w.params.followText "set-order" = false->(!t.plain && decide (es.size > 1))=false)
  (h1:w.params.followText "set-order" = true->Q ((pickOrder (w.params.setOrder a ep) es)[given]?.map fun e=>(e.2,slot)) s)
  (h2:w.params.followText "set-order" = false->Q (match es[l5 t.place slot]?,t.place[l5 t.place slot]? with|some (_,x),some j=>some (x,j+1)|_,_=>none) s) :
  wpAny (model P w) A (setNext a slot given ep) Q E s :=by
 obtain⟨⟨o,ho,hex,oK⟩,hf,ht⟩:=hE;unfold setNext;refine ag (AT ho oK hf ?_);dsimp only;refine ag (kr ?_);cases hb:w.params.followText "set-order" with
 |true=>
  simp only[if_true,bne_self_eq_false,db,if_false];unfold setWalk;refine ag (ag (AT ho oK hf ?_));dsimp only;refine ag (kr ?_);rw[hb];simp only[if_true];refine ag (Pd (ba (ba ?_)));exact h1 hb
 |false=>
  simp only[db,if_false];have iQ:=hd hb;have Pj:t.led=true :=by rw[ht.led,hb];rfl
  show wpAny _ _ (if (!t.plain && decide (es.size > 1))=true then _ else _) _ _ s
  rw[iQ];simp only[db,if_false];refine ag ?_;show wpAny _ _ (if (!t.led && !es.isEmpty)=true then _ else _) _ _ s
  rw[Pj];simp only[EM,OL,db,if_false];exact ba (ba (h2 hb))
theorem dv.Jf {h:kt}{I a:al}{first x:ap}{i n ep:Nat}(hit:dv h I a first i n ep):dv (h.update I (lp.mapFields (·.setIfInBounds 0 x))) I a x i n ep :=by
 obtain⟨o,ho,hc,hd⟩:=hit;exact⟨_,sK _ ho (lp.isFreed_of_fields (Tp hd _)),(lp.cls_mapFields ..).trans hc,by rw[Tp hd];simp⟩
theorem dv.rD {h:kt}{I a:al}{first:ap}{i n ep:Nat}(hit:dv h I a first i n ep):dv (h.update I (lp.mapFields (·.setIfInBounds 1 (rawInt ((i:Int)+1))))) I a first (i+1) n ep :=by
 obtain⟨o,ho,hc,hd⟩:=hit;exact⟨_,sK _ ho (lp.isFreed_of_fields (Tp hd _)),(lp.cls_mapFields ..).trans hc,by rw[Tp hd];simp[rawInt]⟩
theorem k6 {I a:al}{first x:ap}{i n ep k:Nat}{Q:Unit->ar->Prop}(hk:k<5) (hit:dv s.heap I a first i n ep) (h:Q () {s with heap:=s.heap.update I (lp.mapFields (·.setIfInBounds k x))}):wpAny (model P w) A (setField (.ref I) k x) Q E s :=by
 obtain⟨o,ho,hc,hd⟩:=hit;exact wpAny_setField ho hd (by simpa using hk) h
theorem xN {Q:Fin->ar->Prop}(hh:A.handled=none) (h:∀e h',s.TypeIs e "StopIteration" \/ True->(∀b o,s.heap.get? b=some o->h'.get? b=some o)->S8 {s with heap:=h'} e "StopIteration" -> E e {s with heap:=h'}) :
  wpAny (model P w) A (newExc (.type "StopIteration") []>>=fun e=>raiseNew e) Q E s :=by
 refine ag ?_;simp only[newExc,newTuple];refine ag (AS ?_ (by size_fits))
 refine ag (m:=firstArgMember _ _) (Vu (a:=v6) (by first|rfl|(simp only[firstArgMember];rfl)) ?_)
 refine AS ?_ (by size_fits)
 simp only[raiseNew];refine ag (wpAny_handled ?_);rw[hh];refine ag (ba (wpAny_throw ?_));exact h _ _ (.inr trivial) (fun b o e=>bi _ (bi _ e)) ⟨_,io _ rfl,rfl⟩
theorem uR {Q:Option ap->ar->Prop}{e:ap}(hT:s.TypeIs e "StopIteration") (h:Q none s):wpAny (model P w) A (do let b <- isInstance e (.type "StopIteration");if b=true then pure none else throw e) Q E s:=
 ag (Ve (T := "StopIteration") (b:=true) hT isSubtype_stop (ba h))
theorem xO {I a:al}{slot i ep next:Nat}{es:Array (Int×ap)}{t:li}{x:ap}{Q:Option ap->ar->Prop}(hit:dv s.heap I a (.int slot 0) i es.size ep) (hE:ie P w s.heap a es ep t)
  (hd:w.params.followText "set-order" = false->(!t.plain && decide (es.size > 1))=false)
  (h1:w.params.followText "set-order" = true->(pickOrder (w.params.setOrder a ep) es)[i]?.map (fun e=>(e.2,slot))=some (x,next))
  (h2:w.params.followText "set-order" = false->(match es[l5 t.place slot]?,t.place[l5 t.place slot]? with|some (_,x),some j=>some (x,j+1)|_,_=>none)=some (x,next))
  (hQ:∀h',dv h' I a (.int next 0) (i+1) es.size ep->DO I s.heap h'->Q (some x) {s with heap:=h'}):wpAny (model P w) A (pyNext (.ref I)) Q E s :=by
 obtain⟨o,ho,hc,iQ⟩:=id hit;obtain⟨oa,oM,D1,oN⟩:=hE.at_;unfold pyNext;refine ag (UW (PM (name:=AE "__next__") hit.typeIs bR (zd bR hit.typeIs jr ?_ (js _))))
 unfold ut.«set_iterator.__next__»;refine ag (m:=slotArgs "__next__" 0 _) (ba ?_)
 dsimp only;refine ag (UM ho iQ ?_);dsimp only;refine ag (LH oM oN hE.fits ?_);simp only[bne_self_eq_false,db,if_false,BB];have fin:∀r,r=some (x,next)->wpAny (model P w) A.in1 (match r with
    |some (x,next)=>do
     setField (xw I) 0 (rawInt next)
     setField (xw I) 1 (rawInt (↑i+1))
     ret x
    |none=>do
     setField (xw I) 2 v6
     let __do_lift <- newExc (DD "StopIteration") []
     raiseNew __do_lift) (fun fin s'=>∃v,fin=Fin.done (Flow.ret v)/\wpAny (model P w) A (pure (some v)) Q E s') (fun e s'=>wpAny (model P w) A (do
     let __do_lift <- isInstance e (DD "StopIteration")
     if __do_lift=true then pure none else throw e) Q E s') s:=fun r hr=>by
  subst hr;dsimp only;refine ag (k6 (by decide) hit ?_)
  have Jg:=hit.Jf (x:=rawInt next);refine ag (k6 (by decide) Jg ?_)
  exact ba ⟨x,rfl,ba (hQ _ Jg.rD ((EO ..).trans (EO ..)))⟩
 exact ag (qi hE hd (fun hb=>fin _ (h1 hb)) (fun hb=>fin _ (h2 hb)))
theorem xP {I a:al}{slot i ep:Nat}{es:Array (Int×ap)}{t:li}{Q:Option ap->ar->Prop}(hh:A.handled=none) (hit:dv s.heap I a (.int slot 0) i es.size ep) (hE:ie P w s.heap a es ep t)
  (hd:w.params.followText "set-order" = false->(!t.plain && decide (es.size > 1))=false)
  (h1:w.params.followText "set-order" = true->(pickOrder (w.params.setOrder a ep) es)[i]?.map (fun e=>(e.2,slot))=none)
  (h2:w.params.followText "set-order" = false->(match es[l5 t.place slot]?,t.place[l5 t.place slot]? with|some (_,x),some j=>some (x,j+1)|_,_=>none)=none)
  (hQ:∀h',(∀b o,b≠I->s.heap.get? b=some o->h'.get? b=some o)->Q none {s with heap:=h'}):wpAny (model P w) A (pyNext (.ref I)) Q E s :=by
 obtain⟨o,ho,hc,iQ⟩:=id hit;obtain⟨oa,oM,D1,oN⟩:=hE.at_;unfold pyNext;refine ag (UW (PM (name:=AE "__next__") hit.typeIs bR (zd bR hit.typeIs jr ?_ (js _))))
 unfold ut.«set_iterator.__next__»;refine ag (m:=slotArgs "__next__" 0 _) (ba ?_)
 dsimp only;refine ag (UM ho iQ ?_);dsimp only;refine ag (LH oM oN hE.fits ?_);simp only[bne_self_eq_false,db,if_false,BB];have fin:∀r:Option (ap×Nat),r=none->wpAny (model P w) A.in1 (match r with
    |some (x,next)=>do
     setField (xw I) 0 (rawInt next)
     setField (xw I) 1 (rawInt (↑i+1))
     ret x
    |none=>do
     setField (xw I) 2 v6
     let __do_lift <- newExc (DD "StopIteration") []
     raiseNew __do_lift) (fun fin s'=>∃v,fin=Fin.done (Flow.ret v)/\wpAny (model P w) A (pure (some v)) Q E s') (fun e s'=>wpAny (model P w) A (do
     let __do_lift <- isInstance e (DD "StopIteration")
     if __do_lift=true then pure none else throw e) Q E s') s:=fun r hr=>by
  subst hr;dsimp only;refine ag (k6 (by decide) hit ?_)
  exact xN hh fun e h' _ k hT=>uR hT (hQ h' fun b o hb q=>k b o ((mT _ _ (Co hb)).trans q))
 exact ag (qi hE hd (fun hb=>fin _ (h1 hb)) (fun hb=>fin _ (h2 hb)))
theorem xQ {I a T:al}{i ep j:Nat}{es:Array (Int×ap)}{t:li}{ps:List Nat}{x:Int×ap}{Q:Option ap->ar->Prop}(hit:dv s.heap I a (.ref T) i es.size ep) (hE:ie P w s.heap a es ep t)
  (hT:s.heap.IsTuple T (ps.map fun (i:Nat)=>rawInt i).toArray) (hj:ps[i]?=some j) (hx:es[j]?=some x)
  (hQ:∀h',dv h' I a (.ref T) (i+1) es.size ep->DO I s.heap h'->Q (some x.2) {s with heap:=h'}):wpAny (model P w) A (pyNext (.ref I)) Q E s :=by
 obtain⟨o,ho,hc,iQ⟩:=id hit;obtain⟨oa,oM,D1,oN⟩:=hE.at_;unfold pyNext;refine ag (UW (PM (name:=AE "__next__") hit.typeIs bR (zd bR hit.typeIs jr ?_ (js _))))
 unfold ut.«set_iterator.__next__»;refine ag (m:=slotArgs "__next__" 0 _) (ba ?_)
 dsimp only;refine ag (UM ho iQ ?_);dsimp only;refine ag (LH oM oN hE.fits ?_);simp only[bne_self_eq_false,db,if_false,BB];obtain⟨ot,Jh,_,nt,oK⟩:=hT;refine ag (LS Jh oK ?_);have e:(ps.map fun (i:Nat)=>rawInt i).toArray[i]?=some (rawInt j) :=by simp[hj]
 dsimp only;rw[e];show wpAny _ _ (setNextDrawn a (Int.toNat (j:Int)) ep>>=_) _ _ s;rw[BB];refine ag ?_;unfold setNextDrawn;refine ag (AT oM oN hE.fits ?_);simp only[bne_self_eq_false,db,if_false,hx];refine ba ?_;refine ag (k6 (by decide) hit ?_)
 exact ba ⟨x.2,rfl,ba (hQ _ hit.rD (EO ..))⟩
theorem xR {I a T:al}{i ep:Nat}{es:Array (Int×ap)}{t:li}{ps:List Nat}{Q:Option ap->ar->Prop}(hh:A.handled=none) (hit:dv s.heap I a (.ref T) i es.size ep) (hE:ie P w s.heap a es ep t)
  (hT:s.heap.IsTuple T (ps.map fun (i:Nat)=>rawInt i).toArray) (hj:ps.length<=i)
  (hQ:∀h',(∀b o,b≠I->s.heap.get? b=some o->h'.get? b=some o)->Q none {s with heap:=h'}):wpAny (model P w) A (pyNext (.ref I)) Q E s :=by
 obtain⟨o,ho,hc,iQ⟩:=id hit;obtain⟨oa,oM,D1,oN⟩:=hE.at_;unfold pyNext;refine ag (UW (PM (name:=AE "__next__") hit.typeIs bR (zd bR hit.typeIs jr ?_ (js _))))
 unfold ut.«set_iterator.__next__»;refine ag (m:=slotArgs "__next__" 0 _) (ba ?_)
 dsimp only;refine ag (UM ho iQ ?_);dsimp only;refine ag (LH oM oN hE.fits ?_);simp only[bne_self_eq_false,db,if_false,BB];obtain⟨ot,Jh,_,nt,oK⟩:=hT;refine ag (LS Jh oK ?_);have e:(ps.map fun (i:Nat)=>rawInt i).toArray[i]?=none :=by simp[hj]
 dsimp only;rw[e];dsimp only;refine ag (k6 (by decide) hit ?_)
 refine ag (k6 (by decide) (hit.Jf (x:=rawInt 0)) ?_)
 exact xN hh fun e h' _ k hT=>uR hT (hQ h' fun b o hb q=>k b o ((mT _ _ (Co hb)).trans ((mT _ _ (Co hb)).trans q)))
end
theorem dv.bN {h h':kt}{I a:al}{first:ap}{i n ep:Nat}(x:dv h I a first i n ep) (k:∀o,h.get? I=some o->h'.get? I=some o):dv h' I a first i n ep:=let ⟨o,ho,r⟩:=x;⟨o,k o ho,r⟩
theorem ie.bN {P:i4}{w:i8}{h h':kt}{a:al}{es:Array (Int×ap)}{ep:Nat}{t:li}(x:ie P w h a es ep t) (k:∀o,h.get? a=some o->h'.get? a=some o):ie P w h' a es ep t:=
 ⟨let ⟨o,ho,r⟩:=x.at_;⟨o,k o ho,r⟩,x.fits,x.tab⟩
theorem qj {xs:Array Nat}(h:ko xs) {i:Nat}(hi:i<xs.size):l5 xs (xs[i]+1)=i+1 :=by
 obtain⟨b0,b1,b2⟩:=jN (xs[i]+1) h;generalize l5 xs (xs[i]+1)=p at *
 have h1:i<p :=by
  refine Nat.lt_of_not_le fun hp=>?_
  have:=b2 i hi hp;omega
 refine Nat.le_antisymm (T4 fun hp=>?_) h1
 have NN:i+1<xs.size :=by omega
 have q:=b1 (i+1) NN hp;have q2:=jM h (show i<i+1 by omega) NN
 omega
theorem qk {xs:Array Nat}(h:ko xs):l5 xs 0=0 :=by
 obtain⟨b0,b1,b2⟩:=jN 0 h;generalize l5 xs 0=p at *
 by_cases hp:p=0
 ·exact hp
 ·have:=b1 0 (by omega) (by omega)
  omega
section
variable {P:i4}{w:i8}{A:ma}{E:ap->ar->Prop}{s:ar}
theorem si_self {I a:al}{first:ap}{i n ep:Nat}{Q:ap->ar->Prop}(hit:dv s.heap I a first i n ep) (h:Q (.ref I) s):wpAny (model P w) A (pyIter (.ref I)) Q E s :=by
 refine U4 hit.typeIs qh (zd qh hit.typeIs y2 ?_ (y3 _));show wpAny _ _ (ret (.ref I)) _ _ s;exact ba ⟨_,rfl,"set_iterator",_,hit.typeIs,bR.lookup,h⟩
theorem uS {es:List (Int×ap)}(h:UJ (intKind P w) es) {e:Int×ap}(he:e∈es):∃t,e.2=.int (dU e) t :=by
 obtain⟨⟨k',gb,_⟩,_⟩:=h e he;obtain⟨t,e2⟩:=Tx (k:=k') (v:=e.2) gb;exact⟨t,by unfold dU;rw[e2]⟩
abbrev Bn (xs:List Int):Nat->ap->Prop:=fun i v=>∃m t,xs[i]?=some m/\v=.int m t
def cm (w:i8) (a:al) (ep:Nat) (es:Array (Int×ap)):List (Int×ap):=if w.params.followText "set-order" = true then (pickOrder (w.params.setOrder a ep) es).toList else es.toList
theorem eG (w:i8) (a:al) (ep:Nat) (es:Array (Int×ap)):(cm w a ep es).Perm es.toList :=by
 unfold cm;split
 ·exact ng _ _
 ·exact .refl _
theorem D2 {I a:al}{es:Array (Int×ap)}{ep:Nat}{t:li}(hh:A.handled=none) (dm:a≠I) (jh:UJ (intKind P w) es.toList) (hd:w.params.followText "set-order" = false->(!t.plain && decide (es.size > 1))=false) :
  Vw P w A I [I,a] [I] (fun a b=>b=a) ((cm w a ep es).map dU).length (Bn ((cm w a ep es).map dU))
   (fun i s=>ie P w s.heap a es ep t/\∃slot:Nat,dv s.heap I a (.int slot 0) i es.size ep/\(w.params.followText "set-order" = false->l5 t.place slot=i)) where
 sub:=fun b hb=>by simp at hb;simp[hb]
 grefl:=fun _=>rfl
 gtrans:=fun _ _ _ h1 h2=>h2.trans h1
 frame:=fun i s h' _ st _ hk=>⟨st.1.bN fun o e=>hk a (by simp) o e,let ⟨slot,h1,h2⟩:=st.2;⟨slot,h1.bN fun o e=>hk I (by simp) o e,h2⟩⟩
 item:=fun i s Q E hi st hQ=>by
  obtain⟨hE,slot,hit,hb⟩:=st;have hl:i<(cm w a ep es).length :=by simpa using hi
  have m9:i<es.size :=by rw[<- jp,<- (eG w a ep es).length_eq];exact hl
  obtain⟨tk,he⟩:=uS (P:=P) (w:=w) jh ((eG w a ep es).mem_iff.mp (wn hl));have dh:i<t.place.size :=by
   have:=hE.fits;simp only[li.fits,Ch,beq_iff_eq]at this;rw[this.1];exact m9
  refine xO (next:=if w.params.followText "set-order" = true then slot else t.place[i]+1) (x:=((cm w a ep es)[i]).2) hit hE hd (fun bY=>?_) (fun bY=>?_) (fun h' pf hs=>hQ _ _ ⟨_,tk,by rw[ij,ac hl];rfl,he⟩ ⟨hE.bN fun o e=>by rw[hs.2 a dm];exact e,_,pf,fun bY=>?_⟩ ⟨fun b o hb e=>by rw[hs.2 b (fun z=>hb (by simp[z]))];exact e,rfl,rfl,rfl,bv _⟩)
  ·rw[if_pos bY];have e1:cm w a ep es=(pickOrder (w.params.setOrder a ep) es).toList :=by unfold cm;rw[if_pos bY]
   have e2:(pickOrder (w.params.setOrder a ep) es)[i]?=some (cm w a ep es)[i] :=by
    rw[<- EU,<- e1];exact ac hl
   rw[e2];rfl
  ·rw[if_neg (by rw[bY];decide),hb bY,sw m9,sw dh]
   have e1:cm w a ep es=es.toList :=by unfold cm;rw[if_neg (by rw[bY];decide)]
   have e2:(cm w a ep es)[i]=es[i] :=by simp[e1]
   rw[e2]
  ·rw[if_neg (by rw[bY];decide)]
   exact qj hE.tab.ris dh
 done:=fun s Q E st hQ=>by
  obtain⟨hE,slot,hit,hb⟩:=st;have hl:((cm w a ep es).map dU).length=es.size :=by rw[br,(eG w a ep es).length_eq,jp]
  rw[hl]at hit hb;refine xP hh hit hE hd (fun bY=>?_) (fun bY=>?_) (fun h' k=>hQ _ ⟨fun b o hb e=>k b o (fun z=>hb (by simp[z])) e,rfl,rfl,rfl,bv _⟩)
  ·have e1:(pickOrder (w.params.setOrder a ep) es)[es.size]?=none :=by
    refine GE ?_;rw[<- jp,(ng _ es).length_eq,jp];exact bv _
   rw[e1];rfl
  ·rw[hb bY,GE (bv _)]
 self:=fun i s Q E st hQ=>let ⟨_,slot,hit,_⟩:=st;si_self hit hQ
theorem y4 {I a T:al}{es:Array (Int×ap)}{ep:Nat}{t:li}{ps:List Nat}(hh:A.handled=none) (dm:a≠I) (D3:T≠I) (jh:UJ (intKind P w) es.toList) (nh:∀j∈ps,j<es.size) (dh:ps.length=es.size) :
  Vw P w A I [I,a,T] [I] (fun a b=>b=a) (ps.map fun j=>dU (es.getD j (0,.none))).length (Bn (ps.map fun j=>dU (es.getD j (0,.none))))
   (fun i s=>ie P w s.heap a es ep t/\s.heap.IsTuple T (ps.map fun (i:Nat)=>rawInt i).toArray/\dv s.heap I a (.ref T) i es.size ep) where
 sub:=fun b hb=>by simp at hb;simp[hb]
 grefl:=fun _=>rfl
 gtrans:=fun _ _ _ h1 h2=>h2.trans h1
 frame:=fun i s h' _ st _ hk=>⟨st.1.bN fun o e=>hk a (by simp) o e,st.2.1.at fun o e=>hk T (by simp) o e,st.2.2.bN fun o e=>hk I (by simp) o e⟩
 item:=fun i s Q E hi st hQ=>by
  obtain⟨hE,hT,hit⟩:=st;have hl:i<ps.length :=by simpa using hi
  have hj:=nh _ (wn hl);have hx:es[ps[i]]?=some es[ps[i]]:=sw hj;have hg:es.getD ps[i] (0,.none)=es[ps[i]] :=by simp[FM,hj]
  obtain⟨tk,he⟩:=uS (P:=P) (w:=w) jh (show es[ps[i]]∈es.toList by simp)
  refine xQ hit hE hT (ac hl) hx fun h' pf hs=>hQ _ _ ⟨_,tk,by rw[ij,ac hl];rfl,by dsimp only;rw[hg];exact he⟩ ⟨hE.bN fun o e=>by rw[hs.2 a dm];exact e,hT.at fun o e=>by rw[hs.2 T D3];exact e,pf⟩ ⟨fun b o hb e=>by rw[hs.2 b (fun z=>hb (by simp[z]))];exact e,rfl,rfl,rfl,bv _⟩
 done:=fun s Q E st hQ=>by
  obtain⟨hE,hT,hit⟩:=st;have hl:(ps.map fun j=>dU (es.getD j (0,.none))).length=ps.length:=br _
  rw[hl]at hit;exact xR hh hit hE hT (bv _) fun h' k=>hQ _ ⟨fun b o hb e=>k b o (fun z=>hb (by simp[z])) e,rfl,rfl,rfl,bv _⟩
 self:=fun i s Q E st hQ=>si_self st.2.2 hQ
theorem y6 {a:al}{ns:List Int}{Q:ap->ar->Prop}(hS:bT P w s.heap a ns)
  (hQ:∀(I:al) (h':kt) (d':Drawn) (xs:List Int) (fp:List al) (St:Nat->ar->Prop),xs.Perm ns->(∀b o,s.heap.get? b=some o->h'.get? b=some o)->s.heap.objs.size<=I->(∀b∈fp,b=a\/s.heap.objs.size<=b)->
   (∀A':ma,A'.handled=none->Vw P w A' I fp [I] (fun a b=>b=a) xs.length (Bn xs) St)->St 0 {s with heap:=h',drawn:=d'}->Q (.ref I) {s with heap:=h',drawn:=d'}):wpAny (model P w) A (pyIter (.ref a)) Q E s :=by
 have Bo:=hS.typeIs (h:=s.heap);obtain⟨o,es,ep,t,ho,hex,hd,jh,hp,hn,hb,hf,ht⟩:=hS;have hE:ie P w s.heap a es ep t:=⟨⟨o,ho,hex,hd⟩,hf,ht⟩;have aD:=ii ho;refine U4 Bo UA (zd UA Bo oJ ?_ (F.args_set_iter_1 _));unfold ut.«frozenset.__iter__»;refine ag (m:=ut.Frozenset.slot0 "__iter__" _) (ba ?_)
 unfold ut.Frozenset.sizeOf;refine ag (ag (LH ho hd hf (ba ?_)));refine ag ?_;unfold setDrawn;refine ag (AT ho hd hf ?_);dsimp only;refine ag (kr ?_);refine ba ?_;by_cases k7:(!w.params.followText "set-order" && (!t.plain && decide (es.size > 1)))=true
 ·show wpAny _ _ (if (!w.params.followText "set-order" && (!t.plain && decide (es.size > 1)))=true then _ else _) _ _ s
  rw[if_pos k7];refine ag (jP _ _ (by simp) fun ps d nh=>?_)
  have dh:ps.length=es.size :=by rw[nh.length_eq,wT]
  refine ag (wpAny_newTuple ?_ (by rw[br,dh];exact TH hb))
  refine ag (TK (o:=o) (bi _ ho) hd hf ?_);unfold newFields;refine ag (AS ?_ (by size_fits))
  have hsz:∀u:lp,(s.heap.push u).objs.size=s.heap.objs.size+1:=fun u=>B0 _ _
  have hit:dv ((s.heap.push {cls:=.type "tuple",data:=.seq (ps.map fun (i:Nat)=>rawInt i).toArray}).push {cls:=.type "set_iterator",data:=.fields #[.ref s.heap.objs.size,.int (0:Nat) 0,.ref a,.int es.size 0,.int ep 0]}) (s.heap.push {cls:=.type "tuple",data:=.seq (ps.map fun (i:Nat)=>rawInt i).toArray}).objs.size a (.ref s.heap.objs.size) 0 es.size ep:=⟨_,io _ rfl,rfl,rfl⟩
  have Ji:(ps.map fun j=>dU (es.getD j (0,.none))).Perm ns :=by
   refine((nh.map _).trans ?_).trans hp;have:(im es.size).map (fun j=>dU (es.getD j (0,.none)))=es.toList.map dU :=by
    refine T8 (by simp) fun n h1 h2=>?_
    have ua:n<es.size :=by simpa using h1
    simp[FM,ua]
   rw[this]
  refine ba ⟨_,rfl,"set_iterator",_,dv.typeIs (s:={s with heap:=_,drawn:=d}) hit,bR.lookup,?_⟩
  refine hQ _ _ d _ [(s.heap.push {cls:=.type "tuple",data:=.seq (ps.map fun (i:Nat)=>rawInt i).toArray}).objs.size,a,s.heap.objs.size] _ Ji (fun b o e=>bi _ (bi _ e)) (by rw[hsz];exact AN _) (fun b hb=>?_) (fun A' hA=>y4 (t:=t) (ep:=ep) hA ?_ ?_ jh (fun j hj=>by simpa using nh.mem_iff.mp hj) dh) ⟨hE.bN fun o e=>bi _ (bi _ e),⟨_,bi _ (io _ rfl),rfl,_,rfl⟩,hit⟩
  ·simp only[l7,Fa,or_false]at hb;rcases hb with rfl|rfl|rfl
   ·exact .inr (by rw[hsz];exact AN _)
   ·exact .inl rfl
   ·exact .inr (bv _)
  ·rw[hsz];exact lf (wS aD)
  ·rw[hsz];exact lf (AL _)
 ·show wpAny _ _ (if (!w.params.followText "set-order" && (!t.plain && decide (es.size > 1)))=true then _ else _) _ _ s
  rw[if_neg k7];refine ag (ba (ag (TK ho hd hf ?_)));unfold newFields;refine ag (AS ?_ (by size_fits))
  have hit:dv (s.heap.push {cls:=.type "set_iterator",data:=.fields #[.int (0:Nat) 0,.int (0:Nat) 0,.ref a,.int es.size 0,.int ep 0]}) s.heap.objs.size a (.int (0:Nat) 0) 0 es.size ep:=⟨_,io _ rfl,rfl,rfl⟩
  refine ba ⟨_,rfl,"set_iterator",_,dv.typeIs (s:={s with heap:=_}) hit,bR.lookup,?_⟩
  refine hQ _ _ s.drawn _ [s.heap.objs.size,a] _ (((eG w a ep es).map dU).trans hp) (fun b o e=>bi _ e) (bv _) (fun b hb=>?_) (fun A' hA=>D2 (t:=t) (ep:=ep) hA (lf aD) jh fun hb=>?_) ⟨hE.bN fun o e=>bi _ e,0,hit,fun _=>qk ht.ris⟩
  ·simp only[l7,Fa,or_false]at hb;rcases hb with rfl|rfl
   ·exact .inr (bv _)
   ·exact .inl rfl
  ·rw[hb]at k7;simpa using k7
theorem oO {a:al}{Q:Bool->ar->Prop}(hT:s.TypeIs (.ref a) "set") (h:Q false s):wpAny (model P w) A (ut.List.listLengthHint (.ref a)) Q E s :=by
 unfold ut.List.listLengthHint;refine ag (wpAny_specialOf hT F.slot_set_len.lookup ?_);have e:splitId "set.__len__" = some ("set","__len__") :=by kernel_rfl
 dsimp only;rw[e];dsimp only;refine ag (Ve hT sub_set_self ?_);simp only[EM,db,if_false];show wpAny _ _ (if _=true then _ else _) _ _ s
 rw[if_pos (by kernel_rfl)]
 exact ag (UB hT (ba h))
theorem ints_of {xs:List Int}{acc:Array ap}(h:ItemsOf (Bn xs) acc xs.length):NL acc.toList xs :=by
 obtain⟨hs,hi⟩:=h;have:∀(vs:List ap) (xs:List Int),vs.length=xs.length->(∀(j:Nat) (v:ap),vs[j]?=some v->Bn xs j v)->NL vs xs :=by
  intro vs;induction vs with
  |nil=>intro xs hl _;cases xs with|nil=>exact .nil|cons x xs=>simp at hl
  |cons v vs ih=>
   intro xs hl hg;cases xs with
   |nil=>simp at hl
   |cons x xs=>
    obtain⟨m,t,e1,rfl⟩:=hg 0 v rfl;have e2:x=m :=by simpa using e1
    subst e2;refine .cons _ _ (ih xs (by simpa using hl) fun j u hu=>?_)
    obtain⟨m',t',e3,e4⟩:=hg (j+1) u (by simpa using hu)
    exact⟨m',t',by simpa using e3,e4⟩
 exact this acc.toList xs (by simpa using hs) fun j v hv=>hi j v (by rw[<- EU];exact hv)
theorem wF {a:al}{ns:List Int}{QL:List ap->ar->Prop}(hh:A.handled=none) (hS:bT P w s.heap a ns) (hz:ns.length<=sizeLine)
  (hQ:∀us xs h' d' tk,NL us xs->xs.Perm ns->(∀b o,s.heap.get? b=some o->h'.get? b=some o)->QL us {s with heap:=h',drawn:=d',toks:=tk}):wpAny (model P w) A (collect (.ref a)) QL E s :=by
 have aD:a<s.heap.objs.size:=let ⟨_,_,_,_,ho,_⟩:=hS;ii ho;have Bp:s.heap.objs.size≠a:=Tj aD;unfold collect;refine ag (UL (ww Uj ?_));rw[ss Uk _];show wpAny _ A.in1 (newList []>>=fun l=>again (.builtin "list.__iadd__" ⟨[l,.ref a],[]⟩)) _ _ s
 refine ag (AS ?_);refine ba ⟨wl OE _,ww U5 ?_⟩;rw[ss OE _];have mD:bT P w (s.heap.push {cls:=.type "list",data:=.seq ([]:List ap).toArray}) a ns:=hS.bN fun o e=>bi _ e
 have T1:S8 {s with heap:=s.heap.push {cls:=.type "list",data:=.seq ([]:List ap).toArray}} (.ref a) "set" := bT.typeIs (P:=P) (w:=w) (h:=s.heap) (s:={s with heap:=_}) mD
 show wpAny _ A.in1 (Do (.ref s.heap.objs.size) (.ref a) (.ref s.heap.objs.size)) _ _ _;unfold Do;refine ag (UB T1 ?_);have h1:Pi (.ref s.heap.objs.size) (.ref a)=false :=by simp[Pi,Bp]
 have h2:(DD "set" == DD "list")=false :=by decide
 have h3:(DD "set" == DD "tuple")=false :=by decide
 simp only[h1,h2,h3,Bool.or_false,db,if_false];refine ag (y6 (s:={s with heap:=s.heap.push {cls:=.type "list",data:=.seq ([]:List ap).toArray}}) mD ?_)
 intro I h' d' xs fp St hp hk hI Jj hW ib;have T2:S8 {s with heap:=h',drawn:=d'} (.ref a) "set" := bT.typeIs (P:=P) (w:=w) (h:=s.heap) (s:={s with heap:=_,drawn:=d'}) (mD.bN fun o e=>hk a o e)
 refine ag (ul (oO T2 ?_));show wpAny _ A.in1 (if _=true then _ else _) _ _ _
 rw[if_pos (by kernel_rfl)]
 show wpAny _ A.in1 (rule "list.extend.makes-room" >>= fun _=>ut.List.listTouch (.ref s.heap.objs.size)>>=fun _=>
  again (.builtin "list.extend.loop" ⟨[.ref s.heap.objs.size,.ref I,.ref s.heap.objs.size],[]⟩)) _ _ _
 refine ag (GS ?_);have ql:h'.get? s.heap.objs.size=some {cls:=.type "list",data:=.seq ([]:List ap).toArray}:=hk _ _ (io _ rfl)
 refine ag ?_;show wpAny _ A.in1 (updateSeq s.heap.objs.size (·.push .none)>>=fun _=>updateSeq s.heap.objs.size (·.pop)) _ _ _
 refine ag (ET ql rfl ?_);have qm:=sK (ze (·.push v6)) ql rfl;refine ET qm rfl ?_;have y7:=sK (ze (·.pop)) qm rfl;have oth:∀b o,b≠s.heap.objs.size->h'.get? b=some o->((h'.update s.heap.objs.size (ze (·.push v6))).update s.heap.objs.size (ze (·.pop))).get? b=some o:=
  fun b o hb e=>(mT _ _ (Co hb)).trans ((mT _ _ (Co hb)).trans e)
 have uT:(s.heap.push {cls:=.type "list",data:=.seq ([]:List ap).toArray}).objs.size=s.heap.objs.size+1:=B0 _ _
 have ia:s.heap.objs.size ∉ fp:=fun hm=>by
  rcases Jj _ hm with z|z
  ·exact Bp z
  ·have z':s.heap.objs.size+1<=s.heap.objs.size :=by rw[<- uT];exact z
   exact absurd z' (Nat.not_succ_le_self _)
 have W:=hW A.in1.in1 (by simp[hh])
 have hl:xs.length<=sizeLine :=by rw[hp.length_eq];exact hz
 refine ba ⟨wl F.plain_extend_loop _,codeAny_extend_loopS (W.of_in1) hl _ ia _ xs.length 0 _ _ _ rfl (sB _) (W.frame 0 ({s with heap:=h',drawn:=d'}:ar) _ s.toks ib (bv _) fun b hb o e=>oth b o (fun h=>ia (h▸hb)) e) y7 (ItemsOf.nil _) fun s' eF c' hm cR y8=>?_⟩
 show wpAny _ A (load s.heap.objs.size>>=_) _ _ s';refine ag (Vy cR ?_);refine ba ?_;obtain⟨h2,g2,d2,Jk,os2⟩:=s';have eg:g2=s.gens:=hm.gens;have ed:d2=d':=hm.drawn;have eo:os2=s.os:=hm.os;subst eg;subst ed;subst eo;refine hQ _ xs h2 _ Jk (ints_of y8) hp fun b o e=>hm.heap b o ?_ (oth b o (lf (ii e)) (hk b o (bi _ e)))
 have hb:b<s.heap.objs.size:=ii e;simp only[l7,Fa,or_false,not_or];refine⟨lf hb,fun z=>?_⟩
 have z':s.heap.objs.size+1<=b :=by rw[<- uT,z];exact hI
 exact absurd (on (wS hb) z') (Fk _)
end
def sortI (ns:List Int):List Int:=ns.mergeSort fun a b=>decide (a<=b)
theorem sortI_perm (ns:List Int):(sortI ns).Perm ns:=List.mergeSort_perm _ _
theorem D4 (ns:List Int):(sortI ns).Pairwise (·<=·) :=by
 have:=List.pairwise_mergeSort (le:=fun a b:Int=>decide (a<=b)) (fun a b c h1 h2=>by simp only[decide_eq_true_eq]at *;omega) (fun a b=>by simp only[Bool.or_eq_true,decide_eq_true_eq];omega) ns
 exact this.imp fun h=>by simpa using h
theorem wG {a b:List Int}(p:a.Perm b) (ha:a.Pairwise (·<=·)) (hb:b.Pairwise (·<=·)):a=b:=Lu.eq_of_pairwise (le:=(·<=·)) (fun x y _ _ h1 h2=>Int.le_antisymm h1 h2) ha hb p
theorem D5 {ms ns:List Int}(p:ms.Perm ns) (h:ms.Pairwise (·<=·)):ms=sortI ns:=wG (p.trans (sortI_perm ns).symm) h (D4 ns)
theorem qo:∀{ns:List Int}{us:List ap},Vals (ns.map V.int) us->NL us ns
 | [],_,.nil=>.nil
 |n::ns,_,.cons r t=>by
          obtain⟨k,rfl⟩:=r;exact .cons _ _ (qo t)
theorem ni:∀{ns:List Int}{us:List ap},NL us ns->Vals (ns.map V.int) us
 |_,_,.nil=>.nil
 |_,_,.cons n t r=>.cons ⟨t,rfl⟩ (ni r)
section
variable {P:i4}{w:i8}{A:ma}{E:ap->ar->Prop}{s:ar}
theorem iM {T:String}{l:al}{vs:List ap}{Q:List ap->ar->Prop}{o:lp}{n:Nat}(ho:s.heap.get? l=some o) (hc:o.cls=.type T) (hd:o.data=.seq vs.toArray n) (hT:T = "list" \/ T = "tuple")
  (h:∀h',(∀b o,s.heap.get? b=some o->h'.get? b=some o)->Q vs {s with heap:=h'}) (hsz:vs.length<=sizeLine):wpAny (model P w) A (collect (.ref l)) Q E s :=by
 unfold collect;refine ag (UL (ww Uj ?_));rw[ss Uk _];show wpAny _ A.in1 (newList []>>=fun l'=>again (.builtin "list.__iadd__" ⟨[l',.ref l],[]⟩)) _ _ s
 refine ag (TZ (ba ⟨wl OE _,ww U5 ?_⟩));rw[ss OE _];show wpAny _ A.in1 (Do (.ref s.heap.objs.size) (.ref l) (.ref s.heap.objs.size)) _ _ {s with heap:=s.heap.push (seqObj "list" #[] 0)}
 unfold Do;have fq:(s.heap.push (seqObj "list" #[] 0)).get? l=some o:=bi _ ho
 refine ag (UB (T:=T) ⟨o,fq,hc⟩ ?_);rw[if_pos (by rcases hT with rfl|rfl<;>simp)]
 refine ag (listItems_at fq hd ?_);refine ag (listItems_at (xs:=#[]) (n:=0) (io _ rfl) rfl ?_);rw[if_neg (by simp)]
 refine ag (UX (xs:=#[]) (n:=0) (io _ rfl) rfl ?_ (sB _) (by show (#[]++vs.toArray).size<=sizeLine+1;simp only[Array.size_append,dL,KM];omega))
 refine ba ?_;show wpAny (model P w) A (load s.heap.objs.size>>=_) Q E _;refine ag (Vy (get?_update_seq (io _ rfl) _) ?_);show wpAny _ _ (pure ((#[]:Array ap)++vs.toArray).toList) Q E _;rw[show ((#[]:Array ap)++vs.toArray).toList=vs by simp]
 exact ba (h _ fun b o e=>(mT _ _ (Tj (ii e))).trans (bi _ e))
theorem y9 {a:ap}{ns:List Int}{Q:ap->ar->Prop}(uU:∀QL:List ap->ar->Prop,(∀us xs h' d' tk,NL us xs->xs.Perm ns->(∀b o,s.heap.get? b=some o->h'.get? b=some o)->QL us {s with heap:=h',drawn:=d',toks:=tk})->wpAny (model P w) A.in1 (collect a) QL E s) (jQ:ns.length<64)
  (h:∀(h1 h':kt) d' tk (us:List ap) e,NL us (sortI ns)->(∀b o,s.heap.get? b=some o->h1.get? b=some o)->(∀b o,h1.get? b=some o->h'.get? b=some o)->h'.get? h1.objs.size=some {cls:=.type "list",data:=.seq us.toArray e}->Q (.ref h1.objs.size) {s with heap:=h',drawn:=d',toks:=tk}) :
  wpAny (model P w) A (call (.builtin "sorted") [a]) Q E s :=by
 refine Te kind_sorted plain_sorted entry_sorted (args_sorted1 _) ?_;unfold ut.«sorted»;refine ag (m:=checkCount "sorted" 1 1 _) (ba ?_)
 refine ag (uU _ fun us xs h' d' tk hI hp hk=>?_)
 have Jl:us.length<64 :=by
  have:us.length=xs.length:=(ni hI).length.symm.trans (br _);rw[this,hp.length_eq];exact jQ
 refine ag (TZ ?_ (hsz:=wv (Na Jl) (by decide)))
 have kW:(h'.push (seqObj "list" us.toArray 0)).get? h'.objs.size=some (seqObj "list" us.toArray 0):=io _ rfl
 refine ag (ul (zd slot_list_sort ⟨_,kW,rfl⟩ Vp (list_sort_tree kW hI Jl fun out Sz a1 a2 a3=>⟨_,rfl,?_⟩) (args_list_sort _)))
 refine ba ⟨_,rfl,?_⟩;obtain⟨e,he⟩:=sortedHeap_at (out:=out) kW;refine h h' _ d' tk out.toList e (by rw[<- D5 (a2.trans hp) a3];exact a1) hk (fun b o hb=>?_) (by simpa using he)
 have aD:=ii hb;rw[sortedHeap_old (lf aD) (by rw[B0];exact wS aD)]
 exact bi _ hb
end
theorem qp {P:i4}{w:i8}{h:kt}{a:al}{ns:List Int}(x:bT P w h a ns):∃o,h.get? a=some o:=let ⟨o,_,_,_,e,_⟩:=x;⟨o,e⟩
theorem rE {P:i4}{w:i8}{H:Hp}{h:kt}{a:al}{ns:List Int}(x:bT P w h a ns):bz P w H h a (fE P w a ns):=⟨x,qp x,fun h1 h2 y k=>y.bN k⟩
theorem xS {X:Cx}{pins:List (al×lp)}{σ:St}{H:Hp}{s:ar}{a:al}{ns:List Int}(I:Inv X pins σ H s) (h:H a=some (fE X.prog X.w a ns)):bT X.prog X.w s.heap a ns:=(I.hok a _ h).1
section
variable {P:i4}{w:i8}{A:ma}{E:ap->ar->Prop}{s:ar}
theorem xT {Q:ap->ar->Prop}(h:Q (.ref s.heap.objs.size) {s with heap:=s.heap.push (fF w)}):wpAny (model P w) A (newSet (.type "set")) Q E s :=by
 unfold newSet setsByText;refine ag (ag (Pd (ba ?_)));dsimp only;simp only[newObj];exact ag (wpAny_alloc (ba h))
theorem Bq {a:al}{ns:List Int}{m:Int}{tk:Vl}{Q:ap->ar->Prop}(hS:bT P w s.heap a ns) (kn:ns.length+1<scanBound)
  (h:∀h' Bk,DO a s.heap h'->bT P w h' a (da ns m)->Q .none {s with heap:=h',toks:=Bk}):wpAny (model P w) A (call (.builtin "set.add") [.ref a,.int m tk]) Q E s :=by
 refine zd F.slot_set_add (bT.typeIs (h:=s.heap) hS) F.entry_set_add ?_ (F.args_set_add_2 _ _);unfold ut.«set.add» ut.Frozenset.oneOther;simp only[List.isEmpty_nil,bind_assoc];unfold ut.Frozenset.addrOf;refine ag (ba ?_);try dsimp only
 refine ag (ba ?_);try dsimp only
 refine ag (sH hS kn fun h' hV cR=>?_)
 show wpAny _ _ (ret v6) _ _ _;exact ba ⟨_,rfl,h h' _ hV cR⟩
theorem uV (elt tg iter:hX) (ifs:List hX) (scope:xy) (pos:xp) (it acc:ap) (env:OR) :
  compTurn (.SetComp elt [⟨tg,iter,ifs,0⟩] scope pos) 0 it acc env=tT (.SetComp elt [⟨tg,iter,ifs,0⟩] scope pos) tg iter ifs 0 it acc env (eval elt env>>=fun v=>standAt elt.pos>>=fun _=>call (.builtin "set.add") [acc,v]>>=fun _=>pure ()) :=by
 rfl
end
section
variable {X:Cx}
def qt (X:Cx) (J:It) (g:TG) (tt:TT) (te:TE) (D:al) (Q:VK) (W:Nat->Nat->St->Hp->Prop):Prop:=∀i m τ H,W i m τ H->
 (J.stop i H/\Q (.ref D) H)\/(J.go i H/\∀x H',J.yld i H x H'->g x τ H' fun aj H2=>tt aj H2 fun b H3=>if b=true then te aj H3 fun y H4=>∃k ns m',y=.int k/\H4 D=some (fE X.prog X.w D ns)/\ns.length+1<scanBound/\m'<m/\W (i+1) m' aj (upd H4 D (fE X.prog X.w D (da ns k))) else ∃m',m'<m/\W (i+1) m' aj H3)
def Br (X:Cx) (tn:Nat) (idx:List Nat) (wi:TI) (g:TG) (tt:TT) (te:TE):TE:=fun σ H Q=>wi σ H fun J H1=>∀D,H1 D=none->∃W:Nat->Nat->St->Hp->Prop,(∃m,W 0 m (bc tn idx σ) (upd H1 D (fE X.prog X.w D [])))/\qt X J g tt te D Q W
def uW (X:Cx) (D:al) (te:TE):TB:=fun τ H Q=>te τ H fun y H4=>∃k ns,y=.int k/\H4 D=some (fE X.prog X.w D ns)/\ns.length+1<scanBound/\Q τ (upd H4 D (fE X.prog X.w D (da ns k)))
theorem wH {J:It}{g:TG}{tt:TT}{te:TE}{D:al}{Q:VK}{W:Nat->Nat->St->Hp->Prop}(h:qt X J g tt te D Q W):lB J g tt (uW X D te) (fun _ H=>Q (.ref D) H) W :=by
 simp only[qt,exists_and_left]at h;simp only[lB,uW,exists_and_left];exact h
theorem GJ {Y:Cx}{elt:hX}{te:TE}{D:al}(hp:Y.prog=X.prog) (hw:Y.w=X.w) (h:PE Y elt te):PB Y (eval elt Y.env>>=fun v=>standAt elt.pos>>=fun _=>call (.builtin "set.add") [.ref D,v]>>=fun _=>pure ()) (uW X D te) :=by
 intro pins s τ H Q I q;refine ag (l8 (h pins s τ H _ I q) (fun yv s8 ⟨y,H8,I8,r8,q8⟩=>?_) fun _ _ z=>z)
 obtain⟨m,ns,ey,hD,hsz,w8⟩:=q8;subst ey;obtain⟨tk,rfl⟩:=r8;rw[<- hp,<- hw]at hD w8;refine ag (BY (ag (Bq (xS (X:=Y) I8 hD) hsz fun h' Bk hV hM=>?_)))
 have I9:=I8.write (x:=D) (e:=D) (t':=Bk) (by rw[hD];exact trivial) (.inl rfl) (fun b u hb hu=>(hV.2 b hb).trans hu) (qp hM) (rE hM)
 exact ba ⟨τ,_,I9,w8⟩
theorem zb {pins:List (al×lp)}{σ:St}{H2:Hp}{s2:ar}{tg elt iter:hX}{ifs:List hX}{scope:xy}{pos:xp}{N':List cb}{tn:Nat}{idx:List Nat}{g:TG}{tt:TT}{te:TE}{it:al}{fp:List al}{bp:Nat->kt->Prop}{J:It}
  {cl:List (cb×al)} {E:ap->ar->Prop} {RR:ap->al->TR->ar->Prop} {Q:VK}
  (hc:X.calm=true) (B:aB X.N X.env.scope scope N' tn idx)
  (hg:Blk X N' scope fun Y=>PG Y tg g) (ht:Blk X N' scope fun Y=>gv Y ifs tt) (he:Blk X N' scope fun Y=>PE Y elt te)
  (I:Inv X pins σ H2 s2) (T:Turn X.prog X.w X.K tg J fp it bp) (st:bp 0 s2.heap) (f2:∀b∈fp,cF X pins H2 b)
  (dS:∀n c,cl.lookup n=some c->X.env.cells.lookup n=some c) (fA:∀n,(n,xL)∈scope.names->∃c,cl.lookup n=some c)
  (hq:∀D,H2 D=none->∃W:Nat->Nat->St->Hp->Prop,(∃m,W 0 m (bc tn idx σ) (upd H2 D (fE X.prog X.w D [])))/\qt X J g tt te D Q W)
  (uD:∀D C m s' H',Inv X pins σ H' s'->cF X pins H' C->s'.heap.Ns C m->Q (.ref D) H'->RR (.ref D) C (.ok .next) s') :
  wpAny (model X.prog X.w) X.A (newSet (.type "set")) (fun acc o4=>wpAny (model X.prog X.w) X.A (newFunctionEnv scope X.env.globals cl [] X.env.qual none .none (some X.env)) (fun jI o5=>
   codeAny (model X.prog X.w) X.A (.compStart (.SetComp elt [⟨tg,iter,ifs,0⟩] scope pos) 0 (.ref it) acc {jI with scope:=relabel scope X.env}) (RR acc jI.locals) o5) E o4) E s2 :=by
 obtain⟨b1,b2,b3,b4⟩:=id B;refine xT (Uw (fun y hy=>(b2 y hy).1) (by intro y hy;simp at hy) (fun fB fD dM=>?_) b1)
 dsimp only at fD dM ⊢;generalize hG:s2.heap.push (fF X.w)=G at fD dM ⊢
 have hC:G.objs.size=s2.heap.objs.size+1 :=by rw[<- hG,B0]
 have sC:s2.heap.objs.size≠G.objs.size :=by rw[hC];exact lf (AL _)
 have jJ:s2.heap.objs.size<=G.objs.size :=by rw[hC];exact AN _
 have below:∀b,b<s2.heap.objs.size->b≠G.objs.size:=fun b hb=>by rw[hC];exact lf (wS hb)
 have old:∀b o,s2.heap.get? b=some o->fB.get? b=some o:=fun b o e=>dM.extBut b o (below b (ii e)) (bi _ (hG▸bi _ e))
 have A1:bT X.prog X.w fB s2.heap.objs.size [] :=by
  have q:bT X.prog X.w G s2.heap.objs.size []:=hG▸xK;exact q.bN fun o e=>dM.extBut _ _ sC (bi _ e)
 have sD:H2 s2.heap.objs.size=none:=I.hok.fresh (bv _);have uz:upd H2 s2.heap.objs.size (fE X.prog X.w s2.heap.objs.size []) G.objs.size=none :=by rw[aq (Co sC)];exact I.hok.fresh jJ
 have uF:dI X.prog X.w (upd H2 s2.heap.objs.size (fE X.prog X.w s2.heap.objs.size [])) fB:=I.hok.laid old (bv _) (rE A1);have jK:∀b∈fp,b<s2.heap.objs.size:=fun b hb=>let ⟨o,e,_⟩:=T.obj _ _ st b hb;ii e
 obtain⟨W,⟨m0,w0⟩,turn⟩:=hq s2.heap.objs.size sD;have I1:Inv (my X N' scope cl G.objs.size s2 H2 fp) [] (bc tn idx σ) (upd H2 s2.heap.objs.size (fE X.prog X.w s2.heap.objs.size [])) {s2 with heap:=fB,toks:=s2.toks+([]:List (cb×ap)).length}:=by
  refine kj (g':=s2.gens) (m0:=fun x=>([]:List (cb×ap)).reverse.lookup x) I b1 rfl rfl dS (fun x hx=>?_) (fun z=>I.ok.hd z) I.ok.frames (.inl rfl) jJ f2 jK (Un.laid old (bv _) sD) uF uz old fD (fun i x v e1 e2 e3=>?_) (B.len σ) I.bare.self
  ·have d6:(relabel scope X.env).names.lookup x=some .cell\/(relabel scope X.env).names.lookup x=some .free:=hx;rw[d7]at d6;cases q:scope.names.lookup x with
   |none=>rw[q]at d6;rcases d6 with z|z<;>cases z
   |some k0=>
    have hm:=u7 q;rw[q]at d6;by_cases hk:k0=.free
    ·subst hk;exact fA x hm
    ·have nk:(k0==xL)=false :=by simpa using hk
     have nc:=(b2 _ hm).1;simp only[Cf,nk,OL,db,if_false]at d6;rcases d6 with z|z
     ·exact absurd (kw z) nc
     ·exact absurd (kw z) hk
  ·obtain⟨fr,j,e4,e5⟩:=B.at e1 e2;have kx:=(b2 _ (u7 fr)).2.2 rfl;refine⟨?_,.inr kx,kx,j,e4,e5⟩;show (relabel scope X.env).names.lookup x=some .cell\/(relabel scope X.env).names.lookup x=some .free;rw[d7,fr];simp only[Cf];split
   ·exact .inl rfl
   ·exact .inr rfl
 have stat:∀{H':Hp},(∀b∈fp,H' b=none)->∀b∈fp,cF (my X N' scope cl G.objs.size s2 H2 fp) [] H' b:=fun hn b hb=>by
  refine⟨hn b hb,below b (jK b hb),fun z=>?_,.inl hb,fun x c e=>(f2 b hb).2.2.2.2.1 x c (dS x c e),fun p hp=>absurd (show p∈([]:List (al×lp)) from hp) (by simp)⟩
  rcases l7.mp (I.g9 b z) with q|q
  ·exact(f2 b hb).2.1 q
  ·exact(f2 b hb).2.2.1 q
 have C1:uA (my X N' scope cl G.objs.size s2 H2 fp) (.SetComp elt [⟨tg,iter,ifs,0⟩] scope pos) tg iter ifs 0 (.ref s2.heap.objs.size) _:=⟨fun _=>rfl,fun _ _ _ _ h=>h,fun _=>uV ..,fun _ _ _ _ h=>h,rfl⟩
 have sE:bp 0 fB:=T.keep _ _ _ st fun b _ o e=>old b o e
 refine lC C1 T sE (mS hc (fun _ _ z=>z) C1 (hg cl G.objs.size s2 H2 fp) (ht cl G.objs.size s2 H2 fp) (GJ (X:=X) rfl rfl (he cl G.objs.size s2 H2 fp)) T (wH turn) I1 sE (stat fun b hb=>by rw[aq (lf (jK b hb))];exact(f2 b hb).1) w0 fun aU H' s' I4 qn=>?_)
 have J2:Inv X pins σ H' s':=I.pM I4.os I4.base I4.hok I4.bare fun b hb=>⟨(f2 b hb).2.2.2.1,(f2 b hb).2.1,(f2 b hb).2.2.2.2.1,(f2 b hb).2.2.2.2.2⟩
 obtain⟨mm,hm,_⟩:=I4.loc;exact uD _ _ mm s' H' J2 (I.mL jJ I4.free) hm qn
variable {tg elt iter:hX}{ifs:List hX}{scope:xy}{pos:xp}{N':List cb}{tn:Nat}{idx:List Nat}{wi:TI}{g:TG}{tt:TT}{te:TE}
theorem zf (hc:X.calm=true) (B:aB X.N X.env.scope scope N' tn idx) (hi:PI X tg iter wi)
  (hg:Blk X N' scope fun Y=>PG Y tg g) (ht:Blk X N' scope fun Y=>gv Y ifs tt) (he:Blk X N' scope fun Y=>PE Y elt te)
  (hs:∀x,foldedSetIterable iter X.env x=pure x :=by intro _;rfl):PE X (.SetComp elt [⟨tg,iter,ifs,0⟩] scope pos) (Br X tn idx wi g tt te) :=by
 refine⟨?_⟩;intro pins s σ H Q I h;obtain⟨cl,jo,dS,fA⟩:=hU (scope:=scope) (env:=X.env) fun n hn=>I.ok.has n ((B.2.1 _ hn).2.2 rfl)
 rw[arm_eval_SetComp];refine Pe (use:=none) rfl hs jo B.1 (fun y hy=>(B.2.1 y hy).2.1) (l8 (hi pins s σ H _ I h) (fun xv s1 h1=>l8 h1 (fun uf s2 h2=>?_) fun _ _ z=>z) fun _ _ z=>z)
 obtain⟨it,fp,bp,J,H2,e,I2,T,mM,f2,q2⟩:=h2;subst e;refine zb (RR:=fun acc C=>compPost (model X.prog X.w) X.A X.xe none (EP X pins σ Q) acc C) hc B hg ht he I2 T mM f2 dS fA q2 fun D C m s' H' J2 fC hm q=>?_
 exact⟨m,hm,fun h' jf=>⟨.ref D,H',fC.turn J2 jf,rfl,q⟩⟩
end
inductive Dt where
 |ao|bl (b:Bool)|int (i:Int)|str (x:cb)|lst (xs:List Dt)|tup (xs:List Dt)
inductive dw (H:Hp):V->Dt->Prop where
 |ao:dw H .ao .ao
 |bl (b:Bool):dw H (.bl b) (.bl b)
 |int (i:Int):dw H (.int i) (.int i)
 |str (x:cb):dw H (.str x) (.str x)
 |lst {a:al} {xs:List V} {ds:List Dt} (e:H a=some (.lst xs)) (hl:xs.length=ds.length) (h:∀(i:Nat) (x:V) (d:Dt),xs[i]?=some x->ds[i]?=some d->dw H x d):dw H (.ref a) (.lst ds)
 |tup {a:al} {xs:List V} {ds:List Dt} (e:H a=some (.tup xs)) (hl:xs.length=ds.length) (h:∀(i:Nat) (x:V) (d:Dt),xs[i]?=some x->ds[i]?=some d->dw H x d):dw H (.ref a) (.tup ds)
mutual
def cp:Dt->Dt->Bool
 | .ao,.ao=>true
 | .bl a,.bl b=>a==b
 | .bl a,.int b=>(if a then 1 else 0)==b
 | .int a,.bl b=>a==(if b then 1 else 0)
 | .int a,.int b=>a==b
 | .str a,.str b=>a==b
 | .lst xs,.lst ys=>gj xs ys
 | .tup xs,.tup ys=>gj xs ys
 |_,_=>false
def gj:List Dt->List Dt->Bool
 | [],[]=>true
 |x::xs,y::ys=>cp x y && gj xs ys
 |_,_=>false
end
mutual
theorem lF:∀d:Dt,cp d d=true
 | .ao=>by simp[cp]
 | .bl b=>by simp[cp]
 | .int i=>by simp[cp]
 | .str x=>by simp[cp]
 | .lst xs=>by simp only[cp];exact nj xs
 | .tup xs=>by simp only[cp];exact nj xs
theorem nj:∀ds:List Dt,gj ds ds=true
 | []=>by simp[gj]
 |d::ds=>by simp only[gj];rw[lF d,nj ds];rfl
end
theorem eH:∀(xs ys:List Dt),gj xs ys=((im (min xs.length ys.length)).all (fun j=>cp (xs.getD j .ao) (ys.getD j .ao)) && xs.length==ys.length)
 | [],[]=>by simp[gj]
 | [],_::_=>by simp[gj]
 |_::_,[]=>by simp[gj]
 |x::xs,y::ys=>by
          rw[gj,eH xs ys];have e:min (x::xs).length (y::ys).length=min xs.length ys.length+1 :=by simp[Nat.succ_min_succ]
          rw[e,List.range_succ_eq_map,TX,List.all_map];have e2:((x::xs).length==(y::ys).length)=(xs.length==ys.length) :=by simp
          rw[e2,Bool.and_assoc];rfl
theorem dw.inj {H:Hp}{v:V}{d:Dt}(h:dw H v d):∀{d':Dt},dw H v d'->d=d':=by
 induction h with
 |ao=>intro d' h';cases h';rfl
 |bl b=>intro d' h';cases h';rfl
 |int i=>intro d' h';cases h';rfl
 |str x=>intro d' h';cases h';rfl
 |lst e hl h ih=>
  intro d' h';cases h' with
  |lst e' Jm h'=>
   rw[e]at e';cases e';congr 1
   refine TL fun i=>?_
   rename_i xs ds gW;by_cases hi:i<xs.length
   ·rw[ac (by omega),ac (by omega)]
    exact congrArg some (ih i _ _ (ac hi) (ac (by omega)) (h' i _ _ (ac hi) (ac (by omega))))
   ·rw[IF (by omega),IF (by omega)]
  |tup e' Jm h'=>rw[e]at e';cases e'
 |tup e hl h ih=>
  intro d' h';cases h' with
  |lst e' Jm h'=>rw[e]at e';cases e'
  |tup e' Jm h'=>
   rw[e]at e';cases e';congr 1
   refine TL fun i=>?_
   rename_i xs ds gW;by_cases hi:i<xs.length
   ·rw[ac (by omega),ac (by omega)]
    exact congrArg some (ih i _ _ (ac hi) (ac (by omega)) (h' i _ _ (ac hi) (ac (by omega))))
   ·rw[IF (by omega),IF (by omega)]
mutual
def gf:Dt->Nat
 | .lst xs=>gk xs+1
 | .tup xs=>gk xs+1
 |_=>0
def gk:List Dt->Nat
 | []=>0
 |x::xs=>max (gf x) (gk xs)
end
theorem jR:∀{ds:List Dt}{i:Nat}{d:Dt},ds[i]?=some d->gf d<=gk ds
 | [],_,_,h=>by simp at h
 |x::xs,0,d,h=>by
          simp at h;subst h;rw[gk];exact Nat.le_max_left _ _
 |x::xs,i+1,d,h=>by
          rw[gk];exact wv (jR (i:=i) (by simpa using h)) (Nat.le_max_right _ _)
section
variable {X:Cx}{pins:List (al×lp)}{σ:St}{H:Hp}{s:ar}
theorem Inv.lists (I:Inv X pins σ H s) {a:al}{xs:List V}(h:H a=some (.lst xs)):∃its:List ap,Vals xs its/\s.heap.IsList a its.toArray :=by
 obtain⟨its,rv,p,_⟩:=I.list (bU.of h);exact⟨its,rv,p.isList⟩
theorem Inv.tups (I:Inv X pins σ H s) {a:al}{xs:List V}(h:H a=some (.tup xs)):∃its:List ap,Vals xs its/\s.heap.IsTuple a its.toArray :=by
 obtain⟨its,rv,p,_⟩:=I.tuple (dr.of h);exact⟨its,rv,p⟩
theorem nq (I:Inv X pins σ H s) {x y:V}{d:Dt}(hx:dw H x d):∀{e:Dt}{u v:ap}{A:ma},dw H y e->RelV x u->RelV y v->A.units+gf d<cLine->lc A s u v (cp d e) :=by
 have lists:=fun {a:al} {xs:List V} (h:H a=some (.lst xs))=>I.lists h
 have tups:=fun {a:al} {xs:List V} (h:H a=some (.tup xs))=>I.tups h
 induction hx generalizing y with
 |ao=>
  intro e u v A hy rx ry hu;have aN:A.units<cLine :=by omega
  cases rx;cases hy with
  |ao=>cases ry;exact Ut _
  |bl b=>cases ry;exact lc.none_bool _
  |int i=>obtain⟨t,rfl⟩:=ry;exact lc.none_int _ _
  |str z=>obtain⟨t,rfl⟩:=ry;exact lc.none_str _ _
  |lst e2 _ _=>cases ry;obtain⟨_,_,p⟩:=lists e2;exact lc.none_list p aN
  |tup e2 _ _=>cases ry;obtain⟨_,_,p⟩:=tups e2;exact lc.none_tuple p aN
 |bl a=>
  intro e u v A hy rx ry hu;have aN:A.units<cLine :=by omega
  cases rx;cases hy with
  |ao=>cases ry;exact lc.bool_none _
  |bl b=>cases ry;exact lc.bool_bool _ _
  |int i=>obtain⟨t,rfl⟩:=ry;exact lc.bool_int _ _ _
  |str z=>obtain⟨t,rfl⟩:=ry;exact lc.bool_str _ _ _
  |lst e2 _ _=>cases ry;obtain⟨_,_,p⟩:=lists e2;exact lc.bool_list _ p aN
  |tup e2 _ _=>cases ry;obtain⟨_,_,p⟩:=tups e2;exact lc.bool_tuple _ p aN
 |int a=>
  intro e u v A hy rx ry hu;have aN:A.units<cLine :=by omega
  obtain⟨ta,rfl⟩:=rx;cases hy with
  |ao=>cases ry;exact lc.int_none _ _
  |bl b=>cases ry;exact lc.int_bool _ _ _
  |int i=>obtain⟨t,rfl⟩:=ry;exact lc.int_int _ _ _ _
  |str z=>obtain⟨t,rfl⟩:=ry;exact UP _ _ _ _
  |lst e2 _ _=>cases ry;obtain⟨_,_,p⟩:=lists e2;exact lc.int_list _ _ p aN
  |tup e2 _ _=>cases ry;obtain⟨_,_,p⟩:=tups e2;exact lc.int_tuple _ _ p aN
 |str a=>
  intro e u v A hy rx ry hu;have aN:A.units<cLine :=by omega
  obtain⟨ta,rfl⟩:=rx;cases hy with
  |ao=>cases ry;exact lc.str_none _ _
  |bl b=>cases ry;exact lc.str_bool _ _ _
  |int i=>obtain⟨t,rfl⟩:=ry;exact UQ _ _ _ _
  |str z=>obtain⟨t,rfl⟩:=ry;exact lc.str_str _ _ _ _
  |lst e2 _ _=>cases ry;obtain⟨_,_,p⟩:=lists e2;exact lc.str_list _ _ p aN
  |tup e2 _ _=>cases ry;obtain⟨_,_,p⟩:=tups e2;exact lc.str_tuple _ _ p aN
 |lst e1 jj h1 ih=>
  rename_i a xs ds;intro e u v A hy rx ry hu;have aN:A.units<cLine :=by omega
  have nu:A.units+gk ds+1<cLine :=by rw[gf]at hu;omega
  cases rx;obtain⟨its,rv,p⟩:=lists e1;cases hy with
  |ao=>cases ry;exact lc.list_none p aN
  |bl b=>cases ry;exact lc.list_bool _ p aN
  |int i=>obtain⟨t,rfl⟩:=ry;exact lc.list_int _ _ p aN
  |str z=>obtain⟨t,rfl⟩:=ry;exact lc.list_str _ _ p aN
  |lst e2 jl h2=>
   rename_i b ys es;cases ry;by_cases gy:a=b
   ·subst gy;have:=(dw.lst e1 jj h1).inj (dw.lst e2 jl h2);cases this;rw[lF];exact Ut _
   ·obtain⟨d8,iW,p2⟩:=lists e2;have l1:=rv.length;have l2:=iW.length;have at_:∀j (g1:j<its.toArray.size) (g2:j<d8.toArray.size),lc A.in1 s its.toArray[j] d8.toArray[j] (cp (ds.getD j .ao) (es.getD j .ao)):=fun j g1 g2=>by
     have iX:j<xs.length :=by rw[l1];simpa using g1
     have iY:j<ys.length :=by rw[l2];simpa using g2
     have r1:=cA rv g1;have r2:=cA iW g2;rw[ca,ac iX]at r1;rw[ca,ac iY]at r2;have d1:ds[j]?=some ds[j]:=ac (by omega)
     have d2:es[j]?=some es[j]:=ac (by omega)
     rw[ca,ca,d1,d2];have:=jR d1;exact ih j _ _ (ac iX) d1 (h2 j _ _ (ac iY) d2) r1 r2 (by show A.units+1+_<cLine;omega)
    refine lc.of_refs gy ?_;rw[cp,eH];by_cases hsz:ds.length=es.length
    ·have q:=l9.lists p p2 (by simp only[dL];omega) aN at_
     have z:(ds.length==es.length)=true :=by simpa using hsz
     rw[z,Bool.and_true,<- hsz,S2];rw[dL,<- l1,jj]at q;exact q
    ·have z:(ds.length==es.length)=false :=by simpa using hsz
     rw[z,UN];exact l9.lists_lengths p p2 (by simp only[dL];simpa[bne_iff_ne] using (show its.length≠d8.length by omega)) aN
  |tup e2 jl h2=>cases ry;obtain⟨_,_,p2⟩:=tups e2;exact lc.list_tuple p p2 aN
 |tup e1 jj h1 ih=>
  rename_i a xs ds;intro e u v A hy rx ry hu;have aN:A.units<cLine :=by omega
  have nu:A.units+gk ds+1<cLine :=by rw[gf]at hu;omega
  cases rx;obtain⟨its,rv,p⟩:=tups e1;cases hy with
  |ao=>cases ry;exact lc.tuple_none p aN
  |bl b=>cases ry;exact lc.tuple_bool _ p aN
  |int i=>obtain⟨t,rfl⟩:=ry;exact lc.tuple_int _ _ p aN
  |str z=>obtain⟨t,rfl⟩:=ry;exact lc.tuple_str _ _ p aN
  |lst e2 jl h2=>cases ry;obtain⟨_,_,p2⟩:=lists e2;exact lc.tuple_list p p2 aN
  |tup e2 jl h2=>
   rename_i b ys es;cases ry;by_cases gy:a=b
   ·subst gy;have:=(dw.tup e1 jj h1).inj (dw.tup e2 jl h2);cases this;rw[lF];exact Ut _
   ·obtain⟨d8,iW,p2⟩:=tups e2;have l1:=rv.length;have l2:=iW.length;have at_:∀j (g1:j<its.toArray.size) (g2:j<d8.toArray.size),lc A.in1 s its.toArray[j] d8.toArray[j] (cp (ds.getD j .ao) (es.getD j .ao)):=fun j g1 g2=>by
     have iX:j<xs.length :=by rw[l1];simpa using g1
     have iY:j<ys.length :=by rw[l2];simpa using g2
     have r1:=cA rv g1;have r2:=cA iW g2;rw[ca,ac iX]at r1;rw[ca,ac iY]at r2;have d1:ds[j]?=some ds[j]:=ac (by omega)
     have d2:es[j]?=some es[j]:=ac (by omega)
     rw[ca,ca,d1,d2];have:=jR d1;exact ih j _ _ (ac iX) d1 (h2 j _ _ (ac iY) d2) r1 r2 (by show A.units+1+_<cLine;omega)
    refine lc.of_refs gy ?_;rw[cp,eH];have q:=l9.tuples p p2 aN at_;rw[dL,dL,<- l1,<- l2,jj,jl]at q;exact q
theorem Jn (I:Inv X pins σ H s) {x y:V}{d e:Dt}{u v:ap}{A:ma}(hx:dw H x d) (hy:dw H y e) (rx:RelV x u) (ry:RelV y v) (hu:A.units+gf d<cLine):l9 A s u v (cp d e) :=by
 have aN:A.units<cLine :=by omega
 have lists:=fun {a:al} {xs:List V} (h:H a=some (.lst xs))=>I.lists h
 have tups:=fun {a:al} {xs:List V} (h:H a=some (.tup xs))=>I.tups h
 cases hx with
 |ao=>
  cases rx;cases hy with
  |ao=>cases ry;exact l9.none_none
  |bl b=>cases ry;exact l9.none_bool _
  |int b=>obtain⟨t,rfl⟩:=ry;exact l9.none_int _ _
  |str b=>obtain⟨t,rfl⟩:=ry;exact l9.none_str _ _
  |lst e2 _ _=>cases ry;obtain⟨_,_,p⟩:=lists e2;exact l9.none_list p aN
  |tup e2 _ _=>cases ry;obtain⟨_,_,p⟩:=tups e2;exact l9.none_tuple p aN
 |bl a=>
  cases rx;cases hy with
  |ao=>cases ry;exact l9.bool_none _
  |bl b=>cases ry;exact l9.bool_bool _ _
  |int b=>obtain⟨t,rfl⟩:=ry;exact l9.bool_int _ _ _
  |str b=>obtain⟨t,rfl⟩:=ry;exact l9.bool_str _ _ _
  |lst e2 _ _=>cases ry;obtain⟨_,_,p⟩:=lists e2;exact l9.bool_list _ p aN
  |tup e2 _ _=>cases ry;obtain⟨_,_,p⟩:=tups e2;exact l9.bool_tuple _ p aN
 |int a=>
  obtain⟨ta,rfl⟩:=rx;cases hy with
  |ao=>cases ry;exact l9.int_none _ _
  |bl b=>cases ry;exact l9.int_bool _ _ _
  |int b=>obtain⟨t,rfl⟩:=ry;exact l9.int_int _ _ _ _
  |str b=>obtain⟨t,rfl⟩:=ry;exact l9.int_str _ _ _ _
  |lst e2 _ _=>cases ry;obtain⟨_,_,p⟩:=lists e2;exact l9.int_list _ _ p aN
  |tup e2 _ _=>cases ry;obtain⟨_,_,p⟩:=tups e2;exact l9.int_tuple _ _ p aN
 |str a=>
  obtain⟨ta,rfl⟩:=rx;cases hy with
  |ao=>cases ry;exact l9.str_none _ _
  |bl b=>cases ry;exact l9.str_bool _ _ _
  |int b=>obtain⟨t,rfl⟩:=ry;exact l9.str_int _ _ _ _
  |str b=>obtain⟨t,rfl⟩:=ry;exact l9.str_str _ _ _ _
  |lst e2 _ _=>cases ry;obtain⟨_,_,p⟩:=lists e2;exact l9.str_list _ _ p aN
  |tup e2 _ _=>cases ry;obtain⟨_,_,p⟩:=tups e2;exact l9.str_tuple _ _ p aN
 |lst e1 jj h1=>
  rename_i a xs ds;have nu:A.units+gk ds+1<cLine :=by rw[gf]at hu;omega
  cases rx;obtain⟨its,rv,p⟩:=lists e1;cases hy with
  |ao=>cases ry;exact l9.list_none p aN
  |bl b=>cases ry;exact l9.list_bool _ p aN
  |int b=>obtain⟨t,rfl⟩:=ry;exact l9.list_int _ _ p aN
  |str b=>obtain⟨t,rfl⟩:=ry;exact l9.list_str _ _ p aN
  |lst e2 jl h2=>
   rename_i b ys es;cases ry;obtain⟨d8,iW,p2⟩:=lists e2;have l1:=rv.length;have l2:=iW.length;have at_:∀j (g1:j<its.toArray.size) (g2:j<d8.toArray.size),lc A.in1 s its.toArray[j] d8.toArray[j] (cp (ds.getD j .ao) (es.getD j .ao)):=fun j g1 g2=>by
    have iX:j<xs.length :=by rw[l1];simpa using g1
    have iY:j<ys.length :=by rw[l2];simpa using g2
    have r1:=cA rv g1;have r2:=cA iW g2;rw[ca,ac iX]at r1;rw[ca,ac iY]at r2;have d1:ds[j]?=some ds[j]:=ac (by omega)
    have d2:es[j]?=some es[j]:=ac (by omega)
    rw[ca,ca,d1,d2];have:=jR d1;exact nq I (h1 j _ _ (ac iX) d1) (h2 j _ _ (ac iY) d2) r1 r2 (by show A.units+1+_<cLine;omega)
   rw[cp,eH];by_cases hsz:ds.length=es.length
   ·have q:=l9.lists p p2 (by simp only[dL];omega) aN at_
    have z:(ds.length==es.length)=true :=by simpa using hsz
    rw[z,Bool.and_true,<- hsz,S2];rw[dL,<- l1,jj]at q;exact q
   ·have z:(ds.length==es.length)=false :=by simpa using hsz
    rw[z,UN];exact l9.lists_lengths p p2 (by simp only[dL];simpa[bne_iff_ne] using (show its.length≠d8.length by omega)) aN
  |tup e2 jl h2=>cases ry;obtain⟨_,_,p2⟩:=tups e2;exact l9.list_tuple p p2 aN
 |tup e1 jj h1=>
  rename_i a xs ds;have nu:A.units+gk ds+1<cLine :=by rw[gf]at hu;omega
  cases rx;obtain⟨its,rv,p⟩:=tups e1;cases hy with
  |ao=>cases ry;exact l9.tuple_none p aN
  |bl b=>cases ry;exact l9.tuple_bool _ p aN
  |int b=>obtain⟨t,rfl⟩:=ry;exact l9.tuple_int _ _ p aN
  |str b=>obtain⟨t,rfl⟩:=ry;exact l9.tuple_str _ _ p aN
  |lst e2 jl h2=>cases ry;obtain⟨_,_,p2⟩:=lists e2;exact l9.tuple_list p p2 aN
  |tup e2 jl h2=>
   rename_i b ys es;cases ry;obtain⟨d8,iW,p2⟩:=tups e2;have l1:=rv.length;have l2:=iW.length;have at_:∀j (g1:j<its.toArray.size) (g2:j<d8.toArray.size),lc A.in1 s its.toArray[j] d8.toArray[j] (cp (ds.getD j .ao) (es.getD j .ao)):=fun j g1 g2=>by
    have iX:j<xs.length :=by rw[l1];simpa using g1
    have iY:j<ys.length :=by rw[l2];simpa using g2
    have r1:=cA rv g1;have r2:=cA iW g2;rw[ca,ac iX]at r1;rw[ca,ac iY]at r2;have d1:ds[j]?=some ds[j]:=ac (by omega)
    have d2:es[j]?=some es[j]:=ac (by omega)
    rw[ca,ca,d1,d2];have:=jR d1;exact nq I (h1 j _ _ (ac iX) d1) (h2 j _ _ (ac iY) d2) r1 r2 (by show A.units+1+_<cLine;omega)
   rw[cp,eH];have q:=l9.tuples p p2 aN at_;rw[dL,dL,<- l1,<- l2,jj,jl]at q;exact q
theorem Jo (I:Inv X pins σ H s) {x y:V}{d e:Dt}{u v:ap}{A:ma}(hx:dw H x d) (hy:dw H y e) (rx:RelV x u) (ry:RelV y v) (hu:A.units+gf d<cLine):lv A s u v (!(cp d e)) :=by
 have aN:A.units<cLine :=by omega
 have lists:=fun {a:al} {xs:List V} (h:H a=some (.lst xs))=>I.lists h
 have tups:=fun {a:al} {xs:List V} (h:H a=some (.tup xs))=>I.tups h
 cases hx with
 |ao=>
  cases rx;cases hy with
  |ao=>cases ry;exact lv.none_none
  |bl b=>cases ry;exact lv.none_bool _
  |int b=>obtain⟨t,rfl⟩:=ry;exact lv.none_int _ _
  |str b=>obtain⟨t,rfl⟩:=ry;exact lv.none_str _ _
  |lst e2 _ _=>cases ry;obtain⟨_,_,p⟩:=lists e2;exact lv.none_list p aN
  |tup e2 _ _=>cases ry;obtain⟨_,_,p⟩:=tups e2;exact lv.none_tuple p aN
 |bl a=>
  cases rx;cases hy with
  |ao=>cases ry;exact lv.bool_none _
  |bl b=>cases ry;exact lv.bool_bool _ _
  |int b=>obtain⟨t,rfl⟩:=ry;exact lv.bool_int _ _ _
  |str b=>obtain⟨t,rfl⟩:=ry;exact lv.bool_str _ _ _
  |lst e2 _ _=>cases ry;obtain⟨_,_,p⟩:=lists e2;exact lv.bool_list _ p aN
  |tup e2 _ _=>cases ry;obtain⟨_,_,p⟩:=tups e2;exact lv.bool_tuple _ p aN
 |int a=>
  obtain⟨ta,rfl⟩:=rx;cases hy with
  |ao=>cases ry;exact lv.int_none _ _
  |bl b=>cases ry;exact lv.int_bool _ _ _
  |int b=>obtain⟨t,rfl⟩:=ry;exact lv.int_int _ _ _ _
  |str b=>obtain⟨t,rfl⟩:=ry;exact lv.int_str _ _ _ _
  |lst e2 _ _=>cases ry;obtain⟨_,_,p⟩:=lists e2;exact lv.int_list _ _ p aN
  |tup e2 _ _=>cases ry;obtain⟨_,_,p⟩:=tups e2;exact lv.int_tuple _ _ p aN
 |str a=>
  obtain⟨ta,rfl⟩:=rx;cases hy with
  |ao=>cases ry;exact lv.str_none _ _
  |bl b=>cases ry;exact lv.str_bool _ _ _
  |int b=>obtain⟨t,rfl⟩:=ry;exact lv.str_int _ _ _ _
  |str b=>obtain⟨t,rfl⟩:=ry;exact lv.str_str _ _ _ _
  |lst e2 _ _=>cases ry;obtain⟨_,_,p⟩:=lists e2;exact lv.str_list _ _ p aN
  |tup e2 _ _=>cases ry;obtain⟨_,_,p⟩:=tups e2;exact lv.str_tuple _ _ p aN
 |lst e1 jj h1=>
  rename_i a xs ds;have nu:A.units+gk ds+1<cLine :=by rw[gf]at hu;omega
  cases rx;obtain⟨its,rv,p⟩:=lists e1;cases hy with
  |ao=>cases ry;exact lv.list_none p aN
  |bl b=>cases ry;exact lv.list_bool _ p aN
  |int b=>obtain⟨t,rfl⟩:=ry;exact lv.list_int _ _ p aN
  |str b=>obtain⟨t,rfl⟩:=ry;exact lv.list_str _ _ p aN
  |lst e2 jl h2=>
   rename_i b ys es;cases ry;obtain⟨d8,iW,p2⟩:=lists e2;have l1:=rv.length;have l2:=iW.length;have at_:∀j (g1:j<its.toArray.size) (g2:j<d8.toArray.size),lc A.in1 s its.toArray[j] d8.toArray[j] (cp (ds.getD j .ao) (es.getD j .ao)):=fun j g1 g2=>by
    have iX:j<xs.length :=by rw[l1];simpa using g1
    have iY:j<ys.length :=by rw[l2];simpa using g2
    have r1:=cA rv g1;have r2:=cA iW g2;rw[ca,ac iX]at r1;rw[ca,ac iY]at r2;have d1:ds[j]?=some ds[j]:=ac (by omega)
    have d2:es[j]?=some es[j]:=ac (by omega)
    rw[ca,ca,d1,d2];have:=jR d1;exact nq I (h1 j _ _ (ac iX) d1) (h2 j _ _ (ac iY) d2) r1 r2 (by show A.units+1+_<cLine;omega)
   rw[cp,eH];by_cases hsz:ds.length=es.length
   ·have q:=lv.lists p p2 (by simp only[dL];omega) aN at_
    have z:(ds.length==es.length)=true :=by simpa using hsz
    rw[z,Bool.and_true,<- hsz,S2];rw[dL,<- l1,jj]at q;exact q
   ·have z:(ds.length==es.length)=false :=by simpa using hsz
    rw[z,UN];exact lv.lists_lengths p p2 (by simp only[dL];simpa[bne_iff_ne] using (show its.length≠d8.length by omega)) aN
  |tup e2 jl h2=>cases ry;obtain⟨_,_,p2⟩:=tups e2;exact lv.list_tuple p p2 aN
 |tup e1 jj h1=>
  rename_i a xs ds;have nu:A.units+gk ds+1<cLine :=by rw[gf]at hu;omega
  cases rx;obtain⟨its,rv,p⟩:=tups e1;cases hy with
  |ao=>cases ry;exact lv.tuple_none p aN
  |bl b=>cases ry;exact lv.tuple_bool _ p aN
  |int b=>obtain⟨t,rfl⟩:=ry;exact lv.tuple_int _ _ p aN
  |str b=>obtain⟨t,rfl⟩:=ry;exact lv.tuple_str _ _ p aN
  |lst e2 jl h2=>cases ry;obtain⟨_,_,p2⟩:=lists e2;exact lv.tuple_list p p2 aN
  |tup e2 jl h2=>
   rename_i b ys es;cases ry;obtain⟨d8,iW,p2⟩:=tups e2;have l1:=rv.length;have l2:=iW.length;have at_:∀j (g1:j<its.toArray.size) (g2:j<d8.toArray.size),lc A.in1 s its.toArray[j] d8.toArray[j] (cp (ds.getD j .ao) (es.getD j .ao)):=fun j g1 g2=>by
    have iX:j<xs.length :=by rw[l1];simpa using g1
    have iY:j<ys.length :=by rw[l2];simpa using g2
    have r1:=cA rv g1;have r2:=cA iW g2;rw[ca,ac iX]at r1;rw[ca,ac iY]at r2;have d1:ds[j]?=some ds[j]:=ac (by omega)
    have d2:es[j]?=some es[j]:=ac (by omega)
    rw[ca,ca,d1,d2];have:=jR d1;exact nq I (h1 j _ _ (ac iX) d1) (h2 j _ _ (ac iY) d2) r1 r2 (by show A.units+1+_<cLine;omega)
   rw[cp,eH];have q:=lv.tuples p p2 aN at_;rw[dL,dL,<- l1,<- l2,jj,jl]at q;exact q
end
section
variable {X:Cx}
def D6 (neg:Bool):R2:=fun x y H Q=>∃d e,dw H x d/\dw H y e/\gf d<=60/\Q (.bl (if neg then !cp d e else cp d e)) H
theorem Qw (hu:X.A.units+64<cLine):OpR X (compareOp .Eq) (D6 false) :=by
 intro pins s σ H x y v u Q I rx ry h;obtain⟨d,e,hx,hy,hd,q⟩:=h;exact Jn I hx hy rx ry (by omega) X.prog X.w X.xe _ ⟨.bl _,H,I,rfl,q⟩
theorem Jp (hu:X.A.units+64<cLine):OpR X (compareOp .NotEq) (D6 true) :=by
 intro pins s σ H x y v u Q I rx ry h;obtain⟨d,e,hx,hy,hd,q⟩:=h;exact Jo I hx hy rx ry (by omega) X.prog X.w X.xe _ ⟨.bl _,H,I,rfl,q⟩
end
theorem Jq:bootBuiltins "set" = some (.type "set") :=by decide +kernel
theorem ku:bootBuiltins "sorted" = some (.builtin "sorted") :=by decide +kernel
section
variable {X:Cx}
def Bs (K:bn) (H:Hp) (p:al) (ns:List Int):Prop:=bU K H p (ns.map V.int)\/dr K H p (ns.map V.int)
def uX (P:i4) (w:i8) (K:bn):List V->Hp->VK->Prop:=fun xs H Q=>∃p ns,xs=[.ref p]/\Bs K H p ns/\ns.length+1<scanBound/\∀l,H l=none->Q (.ref l) (upd H l (fE P w l (dW ns)))
theorem uY {ns:List Int}{us:List ap}(r:Vals (ns.map V.int) us):∀(i:Nat) (v:ap),us.toArray[i]?=some v->∃m t,ns[i]?=some m/\v=.int m t:=fun i v h=>by
 have hl:=r.length;have h':us[i]?=some v :=by simpa using h
 have hi:i<us.length:=(cr.mp h').1;have cI:i<ns.length :=by rw[br]at hl;omega
 obtain⟨u,e,q⟩:=r.get (i:=i) (x:=V.int ns[i]) (by rw[ij,ac cI];rfl)
 rw[h']at e;cases e;obtain⟨t,rfl⟩:=q;exact⟨_,t,ac cI,rfl⟩
theorem Bt (hc:X.calm=true):cw X (.type "set") (uX X.prog X.w X.K) :=by
 intro pins s σ H xs us Q I r h;obtain⟨p,ns,rfl,hq,hb,q⟩:=h;obtain⟨u,rfl,rx⟩:=vals1 r;cases rx;have fin:∀(h':kt) (tk:Nat),bT X.prog X.w h' s.heap.objs.size (dW ns)->(∀b o,s.heap.get? b=some o->h'.get? b=some o)->EP X pins σ Q (.ref s.heap.objs.size) {s with heap:=h',toks:=tk}:=fun h' tk hM hk=>
  ⟨.ref s.heap.objs.size,_,I.laid (t':=tk) hk (bv _) (rE hM),rfl,q _ (I.hok.fresh (bv _))⟩
 have hh:=I.ok.hd hc;rcases hq with hq|hq
 ·obtain⟨its,rv,pl,hz⟩:=I.list hq;have hl:its.toArray.size=ns.length :=by rw[dL,<- rv.length,br]
  obtain⟨o,ho,dJ,n,hd⟩:=pl.isList;refine m8 (T := "list") (vs:=ns) (itob:={cls:=.type "list_iterator",data:=.fields #[.ref p,.int 0 0]}) (Pv:=fun i v=>its.toArray[i]?=some v) (St:=fun I i h=>h.IsListIter I p i/\h.IsList p its.toArray) hh ⟨o,ho⟩ (fun s1 k=>⟨o,k o ho,dJ⟩) F.sub_list_set F.sub_list_frozenset (by decide)
   (fun A' s1 Q' E' k Bu=>Tz ⟨o,k o ho,dJ,n,hd⟩ Bu) (fun A' I' hA dm=>hl▸Vz.list hA I' p dm its.toArray) (fun h1 k=>⟨⟨_,io _ rfl,rfl,rfl⟩,⟨o,bi _ (k o ho),dJ,n,hd⟩⟩) (uY rv) hb fin
 ·obtain⟨its,rv,pl,hz⟩:=I.tuple hq;have hl:its.toArray.size=ns.length :=by rw[dL,<- rv.length,br]
  obtain⟨o,ho,dJ,n,hd⟩:=pl;refine m8 (T := "tuple") (vs:=ns) (itob:={cls:=.type "tuple_iterator",data:=.fields #[.ref p,.int 0 0]}) (Pv:=fun i v=>its.toArray[i]?=some v) (St:=fun I i h=>h.IsTupleIter I p i/\h.IsTuple p its.toArray) hh ⟨o,ho⟩ (fun s1 k=>⟨o,k o ho,dJ⟩) sub_tuple_set rC (by decide)
   (fun A' s1 Q' E' k Bu=>wpAny_pyIter_tuple ⟨o,k o ho,dJ,n,hd⟩ Bu) (fun A' I' hA dm=>hl▸Vz.tuple hA I' p dm its.toArray) (fun h1 k=>⟨⟨_,io _ rfl,rfl,rfl⟩,⟨o,bi _ (k o ho),dJ,n,hd⟩⟩) (uY rv) hb fin
def xU (P:i4) (w:i8) (K:bn):List V->Hp->VK->Prop:=fun xs H Q=>∃p ns,xs=[.ref p]/\(H p=some (fE P w p ns)\/Bs K H p ns)/\ns.length<64/\∀l,H l=none->Q (.ref l) (upd H l (.lst ((sortI ns).map V.int)))
theorem uZ (hc:X.calm=true):cw X (.builtin "sorted") (xU X.prog X.w X.K) :=by
 intro pins s σ H xs us Q I r h;obtain⟨p,ns,rfl,hq,jQ,q⟩:=h;obtain⟨u,rfl,rx⟩:=vals1 r;cases rx;have hh:=I.ok.hd hc;refine y9 (ns:=ns) (fun QL qu=>?_) jQ (fun h1 h' d' tk us e hI k1 k2 he=>?_)
 ·rcases hq with hq|hq|hq
  ·exact wF (by simp[hh]) (xS I hq) (by have:sizeLine=16777216:=JJ;omega) qu
  ·obtain⟨its,rv,pl,hz⟩:=I.list hq;have hl:=rv.length;obtain⟨o,ho,dJ,n,hd⟩:=pl.isList;exact iM ho dJ hd (.inl rfl) (fun h' k=>qu its ns h' s.drawn s.toks (qo rv) (.refl _) k) (by omega)
  ·obtain⟨its,rv,pl,hz⟩:=I.tuple hq;have hl:=rv.length;obtain⟨o,ho,dJ,n,hd⟩:=pl;exact iM ho dJ hd (.inr rfl) (fun h' k=>qu its ns h' s.drawn s.toks (qo rv) (.refl _) k) (by omega)
 ·have I1:Inv X pins σ H {s with heap:=h1,drawn:=d'}:=(I.kept (t':=s.toks) k1).gh ⟨rfl,rfl,I.bare.self⟩
  have hsz:sizeLine=16777216:=JJ;have ob:bz X.prog X.w (upd H h1.objs.size (.lst ((sortI ns).map V.int))) h' h1.objs.size (.lst ((sortI ns).map V.int)):=⟨by rw[br,(sortI_perm ns).length_eq];omega,us,e,ni hI,he⟩
  exact⟨.ref h1.objs.size,_,I1.laid (t':=tk) k2 (bv _) ob,rfl,q _ (I1.hok.fresh (bv _))⟩
def Jr:V->List V->Hp->VK->Prop:=fun x vs H Q=>∃a b i rest,x=.str a/\vs=[.str b]/\LB a b 0 a.length 1=i::rest/\Q (.int (i:Nat)) H
theorem D7:Fw X "str.index" Jr :=by
 intro pins s σ H x vs v us Q I rx rv h;obtain⟨a,b,i,rest,rfl,rfl,ho,q⟩:=h;obtain⟨t,rfl⟩:=rx;obtain⟨u,rfl,ru⟩:=rv.one;obtain⟨t',rfl⟩:=ru;exact SC.index ho ⟨.int i,H,I.tok _,⟨_,rfl⟩,q⟩
end
def ig (n:Nat):List Int:=(im n).map fun i=>((i:Nat):Int)
section
variable {X:Cx}
theorem zg {K:bn}(h:X.K=K) (hc:X.calm=true):cw X (.type "set") (uX X.prog X.w K):=h▸Bt hc
end
theorem u0:bootBuiltins "all" = some (.builtin "all"):=PyProof.Rows.boot_all
section
variable {X:Cx}
def FD (K:bn):List V->Hp->VK->Prop:=fun xs H Q=>∃(p:al) (bs:List Bool),xs=[.ref p]/\bU K H p (bs.map V.bl)/\Q (.bl (bs.all id)) H
theorem Bv (hc:X.calm=true):cw X (.builtin "all") (FD X.K) :=by
 intro pins s σ H xs us Q I r h;obtain⟨p,bs,rfl,hq,q⟩:=h;obtain⟨u,rfl,rx⟩:=vals1 r;cases rx;have hh:=I.ok.hd hc;obtain⟨its,rv,pl,hz⟩:=I.list hq;have hl:its.toArray.size=bs.length :=by rw[dL,<- rv.length,br]
 have m9:s.heap.IsList p its.toArray:=pl.isList;have aD:p<s.heap.objs.size:=let ⟨o,ho,_⟩:=m9;ii ho;have at_:∀(i:Nat) (v:ap),its.toArray[i]?=some v->v=.bool (bs.getD i false):=fun i v hv=>by
  have h':its[i]?=some v :=by simpa using hv
  have hi:i<its.length:=(cr.mp h').1;have cI:i<bs.length :=by rw[dL]at hl;omega
  obtain⟨u,e,q2⟩:=rv.get (i:=i) (x:=V.bl bs[i]) (by rw[ij,ac cI];rfl)
  rw[h']at e;cases e;rw[ca,ac cI];exact q2
 refine Sm F.kind_all F.plain_all F.entry_all (F.args_all1 _) ?_;unfold ut.«all»;refine ag (m:=oneArg "all" _) (ba ?_)
 refine ag (Tz m9 ?_);have W:=Vz.list (prog:=X.prog) (w:=X.w) (A:=X.A.in1) (by simp[hh]) s.heap.objs.size p (lf aD) its.toArray
 refine ba ⟨wl T6 _,codeAny_all_loop W (fun i=>bs.getD i false) ?_ its.toArray.size 0 _ rfl (sB _) ⟨⟨_,io _ rfl,rfl,rfl⟩,m9.push _⟩ fun h' tk hk=>?_⟩
 ·intro i v s' Q' E' hv Bu;have:=at_ i v hv;subst this;exact wP Bu
 ·have e:((im its.toArray.size).drop 0).all (fun i=>bs.getD i false)=bs.all id :=by
   rw[List.drop_zero,hl];refine RS.mpr ?_;rw[tw,tw];constructor
   ·intro hx b hb;obtain⟨i,hi⟩:=List.getElem?_of_mem hb;have iU:=(cr.mp hi).1;have:=hx i (by rw[lm];exact iU)
    rw[ca,hi]at this;exact this
   ·intro hx i hi;rw[lm]at hi;rw[ca,ac hi];exact hx _ (wn hi)
  have I2:Inv X pins σ H {s with heap:=h',toks:=tk}:=I.kept fun b o eb=>hk b o (by simp only[lw];exact lf (ii eb)) (bi _ eb)
  refine⟨.bl (bs.all id),H,I2,?_,q⟩;show Um _=Um _;rw[e]
theorem zh {K:bn}(h:X.K=K) (hc:X.calm=true):cw X (.builtin "all") (FD K):=h▸Bv hc
end
theorem bz.there {P:i4}{w:i8}{H:Hp}{h:kt}{a:al}{o:HO}(x:bz P w H h a o):∃u,h.get? a=some u :=by
 cases o with
 |lst xs=>obtain⟨_,_,_,_,e⟩:=x;exact⟨_,e⟩
 |tup xs=>obtain⟨_,_,_,ob,e,_⟩:=x;exact⟨_,e⟩
 |dK aK=>obtain⟨_,_,_,_,o,_,_,e,_⟩:=x;exact⟨_,e⟩
 |dT aK=>obtain⟨_,_,_,_,o,_,_,e,_⟩:=x;exact⟨_,e⟩
 |set S n=>obtain⟨o,_,_,_,e,_⟩:=x;exact⟨_,e⟩
 |ins C dx fs=>obtain⟨_,_,_,e,_⟩:=x;exact⟨_,e⟩
 |own y=>obtain⟨_,e⟩:=x;exact⟨_,e⟩
 |xd fs=>obtain⟨_,⟨_,_,_,e,_⟩,_⟩:=x;exact⟨_,e⟩
 |xt lo hi=>obtain⟨_,_,_,e⟩:=x;exact⟨_,e⟩
 |f9 ob u=>obtain⟨e,_⟩:=x;exact⟨_,e⟩
 |cQ ps=>exact⟨_,x⟩
 |lam ps=>exact⟨_,x⟩
 |met f y=>exact⟨_,x⟩
 |ext φ=>obtain⟨_,⟨_,e⟩,_⟩:=x;exact⟨_,e⟩
def eX (P:i4) (w:i8):kZ:=fun outer H s E e s'=>∃(a C t:al) (B:kt) (H':Hp),e=.ref a/\s'.os=s.os/\Gn s.gens.size s'.gens/\kt.FlyingW B outer a (.ref C) (.ref t) s'.heap /\
 (∀b o,s.heap.get? b=some o->b ∉ gr outer->∃o',B.get? b=some o')/\(∀b u,H' b=some u->∃o',B.get? b=some o')/\Un (gr outer) [] H H' s.heap s'.heap/\dI P w H' s'.heap/\E (.ref C) none H'
section
variable {X:Cx}{pins:List (al×lp)}{σ:St}{H H1:Hp}{s s1:ar}{B h':kt}
theorem Inv.nv (I:Inv X pins σ H s) {b:al}(h1:b≠X.env.locals) (h2:b ∉ X.fs):b ∉ gr X.stack:=fun z=>by
 rcases l7.mp (I.g9 b z) with q|q
 ·exact h1 q
 ·exact h2 q
theorem Inv.tX (I:Inv X pins σ H s) {b:al}{o:lp}(e:X.s₀.heap.get? b=some o):b≠X.env.locals:=fun z=>by
 have l:=ii e;have:=I.ok.above;rw[<- z]at this;exact absurd l (Va.mpr this)
theorem Inv.NP (I1:Inv X pins σ H1 s1) (I:Inv X pins σ H s) (c1:∀b o,s1.heap.get? b=some o->b ∉ gr X.stack->∃o',B.get? b=some o') (c2:∀b u,H b=some u->∃o',B.get? b=some o')
  (k:B.StaysIn s.heap) (k':B.StaysIn h') (up:s.heap.UpToSlots h'):Inv X pins σ H {s with heap:=h'}:=by
 have same:∀b o',(∃o2,B.get? b=some o2)->s.heap.get? b=some o'->h'.get? b=some o':=fun b o' ⟨o2,e⟩ q=>by
  have z:=k b o2 e;rw[q]at z;cases z;exact k' b _ e
 refine⟨I.ok,I.os,I.bare,⟨fun b o q n hb hx=>?_,fun b o q n hb hx=>?_,I.base.free,fun b o q hx=>?_,I.base.tups,I.base.frzs,I.base.tbls⟩,?_,fun x c e=>?_,I.free,I.freeC,fun p hp=>?_,fun a o e=>?_,I.len⟩
 ·exact same b o (c1 b o (I1.base.keep b o q n hb hx) (I.nv (I.tX q) hb)) (I.base.keep b o q n hb hx)
 ·obtain⟨sl,e⟩:=I.base.slot b o q n hb hx;obtain⟨_,o2,e2,nf⟩:=I.funs.mem hb;rw[e]at e2;cases e2;obtain⟨Qx,e4⟩:=up b {o with slots:=sl} e nf
  exact⟨Qx,e4⟩
 ·obtain⟨o',e⟩:=I.base.there b o q hx;by_cases hb:b∈X.fs
  ·obtain⟨_,o2,e2,nf⟩:=I.funs.mem hb;obtain⟨sl,e3⟩:=up b _ e2 nf;exact⟨_,e3⟩
  ·obtain⟨o1,q1⟩:=I1.base.there b o q hx;exact⟨o',same b o' (c1 b o1 q1 (I.nv (I.tX q) hb)) e⟩
 ·obtain⟨m,hn,hl⟩:=I.loc;refine⟨m,up.ns hn,fun i x v a b c=>?_⟩
  obtain⟨u,r,l⟩:=hl i x v a b c;refine⟨u,r,?_⟩;rcases l with l|⟨kd,c,ec,o,ho,hd⟩
  ·exact .inl l
  ·obtain⟨sl,e⟩:=up c o ho fun vs z=>by rw[hd]at z;cases z
   exact .inr ⟨kd,c,ec,_,e,hd⟩
 ·obtain⟨v,o,ho,hd⟩:=I.cell x c e;obtain⟨sl,e⟩:=up c o ho fun vs z=>by rw[hd]at z;cases z
  exact⟨v,_,e,hd⟩
 ·obtain⟨p1,p2,p3,p4,p5⟩:=I.pin p hp;exact⟨same p.1 p.2 (c1 p.1 p.2 (I1.pin p hp).1 (I.nv p3 p4)) p1,p2,p3,p4,p5⟩
 ·refine(I.hok a o e).bN (fun b u hb q=>?_) (fun _ q=>q) fun _ _ q=>q
  rcases hb with z|z
  ·exact same b u (c2 b o (by rw[z];exact e)) q
  ·exact same b u (c2 b _ z) q
end
section
variable {P:i4}{w:i8}{K:bn}{mg:cb->Option ap}{base:kt}{N:List cb}{qual:cb}{scope:xy}{f:al}{cd:ap}{A:ma}{outer:List OR}{s0:ar}{H0:Hp}{E:XK}
theorem n8:Passes (eX P w) (gO (eX P w) P w K mg base N qual scope f cd A outer s0 H0 E) E :=by
 intro pins σ H s e s' I h;obtain⟨a,C,t,B,H',rfl,os,gn,fl,c1,c2,un,hok,q⟩:=h;have I':=I.pM (ch:=[]) os un hok gn (fun b z=>absurd z (by simp))
 refine wpAny_leaves_onW (cls:=.ref C) (a0:=.ref t) I.ok.frames rfl fl fun h' NQ up=>?_
 have I2:=I.NP I' c1 c2 fl.1 NQ.1 up;refine⟨a,C,t,B,H',rfl,I2.os,I2.bare,NQ,fun b o e n=>?_,c2,I2.base,I2.hok,q⟩
 obtain⟨o1,e1⟩:=I.base.there b o e (fun z=>absurd (show b∈([]:List al) from z) (by simp))
 exact c1 b o1 e1 (I.nv (I.tX e) n)
def Raises (X:Cx) (E:XK):Prop:=∀(pins:List (al×lp)) (σ:St) (H:Hp) (s:ar) (C:al) (h':kt) (a:al) (vs:List ap),Inv X pins σ H s->kt.MadeExcOf s.heap h' a (.ref C) vs->E (.ref C) none H->X.xe (.ref a) {s with heap:=h'}
theorem Bw:Raises (gO (eX P w) P w K mg base N qual scope f cd A outer s0 H0 E) E :=by
 intro pins σ H s C h' a vs I hx q;have c1:∀b o,s.heap.get? b=some o->b ∉ gr (gO (eX P w) P w K mg base N qual scope f cd A outer s0 H0 E).stack->∃o',(Uo s.heap (gr (gO (eX P w) P w K mg base N qual scope f cd A outer s0 H0 E).stack)).get? b=some o':=
  fun b o e n=>⟨o,PySem.W.hideAll_get _ e n⟩
 have c2:∀b u,H b=some u->∃o',(Uo s.heap (gr (gO (eX P w) P w K mg base N qual scope f cd A outer s0 H0 E).stack)).get? b=some o':=fun b u hu=>by
  obtain⟨o,e⟩:=(I.hok b u hu).there;exact c1 b o e fun z=>by rw[I.rg b z]at hu;cases hu
 have st:(Uo s.heap (gr (gO (eX P w) P w K mg base N qual scope f cd A outer s0 H0 E).stack)).StaysIn s.heap:=fun b o e=>PySem.W.of_hideAll _ e
 refine wpAny_leaves_madeW (cls:=.ref C) I.ok.frames rfl st (PySem.W.funFrames_hide I.stack fun env he b hb=>Tk.mpr ⟨env,he,hb⟩) hx fun SA t fl _ _ up=>?_
 have I2:=I.NP I c1 c2 st fl.1 ((kt.UpToSlots.of_keeps hx.keeps).trans up);refine⟨a,C,t,_,H,rfl,I2.os,I2.bare,fl,fun b o e n=>?_,c2,I2.base,I2.hok,q⟩
 obtain⟨o1,e1⟩:=I.base.there b o e (fun z=>absurd (show b∈([]:List al) from z) (by simp))
 exact c1 b o1 e1 (I.nv (I.tX e) n)
end
theorem GK {K:bn}{h:kt}{C:al}{sI:List ap}{newId:String}(X:K.In h) (q:UY K C sI newId=true) :
  ∃bm Nn nm qn bs hd sn sub ab col dd k0 k1 k2 k3 k5 mN,h.get? C=some (excClassObj nm qn C Nn bs bm hd sn sub ab col dd k0 k1 k2 k3 k5 newId)/\h.Ns Nn mN/\mN "__init__" = none/\OwnTail h sI bm :=by
 unfold UY at q;split at q;case h_2=>cases q
 case h_1 dd cd sl ho=>
  split at q;case h_2=>cases q
  case h_1 C' bm k0 k1 k2 k3 n k5 hm hs=>
   rw[Ch,Ch,Ch,Ch,Ch]at q;obtain⟨⟨⟨⟨⟨q1,q2⟩,q3⟩,q4⟩,q5⟩,q6⟩:=q;have e1:C'=C:=beq_iff_eq.mp q1;have e2:n=newId:=beq_iff_eq.mp q2;have e3:cd.hasDel=false :=by simpa using q3
   subst e1 e2;obtain⟨nm,bs,mro,ns,qn,hd,sn,sub,ab,col,del⟩:=cd;dsimp only at hm e3 q5 q6;subst hm e3;have es:sl=#[k0,k1,k2,k3,some (.builtin n),k5] :=by
    cases sl with
    |mk l=>exact congrArg Array.mk hs
   subst es;exact⟨bm,ns,nm,qn,bs,hd,sn,sub,ab,col,dd,k0,k1,k2,k3,k5,_,X _ _ ho,kt.Ns.of_isNs (PySem.W.isNs_of_in X q5),PySem.W.nsMap_none_of_in X q5 (beq_iff_eq.mp q6),PySem.W.tail_of_in X q4⟩
section
variable {X:Cx}{x:cb}{C:al}{kP:hX}{rest:List hX}{t:TA}{sI:List ap}{B newId u3:String}{E:XK}{np bB pos:xp}
def Js (C:al) (E:XK) (t:TA):TS:=fun _ σ H=>t σ H fun vs H1=>vs.length<=sizeLine/\E (.ref C) none H1
theorem D8 (O:UY X.K C sI newId=true) (FB:ExcBaseFacts B newId u3 sI) (hc:X.calm=true) (hR:Raises X E) (hg:Gl X x) (hm:X.mg x=some (.ref C)) (ha:PA X (kP::rest) t)
  (iT:(x==("__debug__" : cb))=false :=by decide) (he:starEach (kP::rest) X.env=(false,eval kP X.env)::starEach rest X.env :=by rfl) (dh:(backTo bB (starEach rest X.env)).any (·.1)=false :=by rfl) :
  PS X (.Raise (some (.Call (.Name x np) (kP::rest) [] bB)) none pos) (Js C E t) :=by
 refine⟨fun pins s σ H D I h=>?_⟩
 obtain⟨bm,Nn,nm,qn,bs,hd,sn,sub,ab,col,dd,k0,k1,k2,k3,k5,mN,hC,hN,Qy,T⟩:=GK I.ok.mod.kin O;have hp:(backTo bB (starEach (kP::rest) X.env)).any (·.1)=false :=by
  rw[he];exact dh
 have xV:=ha bB pins s σ H _ I h;rw[he]at xV;refine wpAny_Raise_call_subT (C:=C) (nm:=nm) (q:=qn) (N:=Nn) (bs:=bs) (bm:=bm) (hdct:=hd) (sn:=sn) (sub:=sub) (ab:=ab) (col:=col) (dd:=dd) (k0:=k0) (k1:=k1) (k2:=k2) (k3:=k3) (k5:=k5) FB (mN:=mN)
  (T.hasType FB.hasBase) (I.ok.hd hc) hp Qy (rh I hg hm ⟨rfl,?_⟩ iT)
 rw[he];refine Calls.evalArgs_plain (thn xV fun us s2 ⟨vs,H2,I2,r,l,q⟩=>?_)
 exact⟨rfl,by rw[<- r.length];exact l,I2.bk _ _ hC,hN.keeps I2.bk,T.keeps I2.bk,fun h' a hx=>hR pins σ H2 s2 C h' a us I2 hx q⟩
end
end L2
namespace L2
open PySem PySem.Spec PyProof.Rows PySem.W Builtin Builtin.ObjectAttr Builtin.Getset_descriptor
def ExcAt (C a:al) (h:kt):Prop:=∃o vs,h.get? a=some o/\o.cls=.ref C/\o.data=.fields vs
def Pk (C a:al):HO:=.ext (ExcAt C a)
structure Jt (K:Frag) (C:al):Prop where
 cls:(clsIn K C).isSome=true
 ga:findIn K (.ref C) "__getattribute__" = some (some (.builtin "BaseException.__getattribute__"))
 gt:findIn K (.ref C) "__getattr__" = some none
 cl:findIn K (.ref C) "__class__" = some (some (.builtin "object.__class__"))
 gg:specialIn K (.builtin "object.__class__") "__get__" = some (some (.builtin "getset_descriptor.__get__"))
 tk:takesIn K (.builtin "object.__class__")=some true
 ob:mroIn K C (.type "object")=some true
 be:mroIn K C (.type "BaseException")=some true
end L2
namespace L2
open PySem PySem.Spec PyProof.Rows PySem.W
structure By (K:Frag) (C0:al):Prop where
 ty:typeIn K (.ref C0)=some (.type "type")
 be:subIn K (.ref C0) (.type "BaseException")=some true
 it:(clsIn K C0).isSome=true
theorem Mb {P:i4}{w:i8}{X:Cx}:Passes (eX P w) X (fun _ _ _=>False):=fun _ _ _ _ _ _ _ h=>by
 obtain⟨_,_,_,_,_,_,_,_,_,_,_,_,_,q⟩:=h;exact q.elim
theorem sA.mZ {P:i4}{w:i8}{K:bn}{mg:cb->Option ap}{base:kt}{x qual:cb}{st:tz}{f:al}{fd:mo}{N ps:List cb}{k:Nat}{sp:Sp}(F:sA K x qual st f fd) (S:aO N ps (ai st)) (len:∀vs H Q E,sp vs H Q E->vs.length=ps.length)
  (pP:∀(A:ma) (outer:List OR) (s:ar) (H:Hp) (vs:List V) (Q:VK) (E:XK),bX k (A.deeper (envOfC qual (ai st) s.heap.objs.size f fd.code))->sp vs H Q E->
   ∃t,gU (gO (eX P w) P w K mg base N qual (ai st) f fd.code A outer s H E) (dG st) t/\t {nx:=fun _ H'=>Q .ao H',rt:=Q} (start N vs) H):FnOk P w K mg base (eX P w) (k+1) f fd ps sp :=by
 obtain⟨oc,od,kV,doc,pm,an,dZ,ct,mP,rfl,lk,iR⟩:=F.ex;exact Fu lk iR S len fun A outer s H vs Q E hr jc=>pP A outer s H vs Q E hr jc
def NR:List ap:=[.type "ValueError",.type "Exception",.type "BaseException",.type "object"]
def D9 (K:Frag) (C0 C:al):Bool:=excIn K C NR "ValueError.__new__" && (clsIn K C).isSome && findIn K (.ref C) "__getattribute__" == some (some (.builtin "BaseException.__getattribute__")) && findIn K (.ref C) "__getattr__" == some none &&
 findIn K (.ref C) "__class__" == some (some (.builtin "object.__class__")) && mroIn K C (.type "object")==some true && mroIn K C (.type "BaseException")==some true && subIn K (.ref C) (.ref C0)==some true && kitOne K (.ref C) (.type "ValueError")==some true
def zj (K:Frag) (C0:al) (cs:List al):Bool:=cs.all (D9 K C0) && (cs.all fun C=>cs.all fun D=>kitOne K (.ref C) (.ref D)==some (decide (C=D))) && specialIn K (.builtin "object.__class__") "__get__" == some (some (.builtin "getset_descriptor.__get__")) && takesIn K (.builtin "object.__class__")==some true &&
 typeIn K (.ref C0)==some (.type "type") && subIn K (.ref C0) (.type "BaseException")==some true && (clsIn K C0).isSome
structure Ea (K:Frag) (C0:al) (cs:List al):Prop where
 ex:∀C∈cs,excIn K C NR "ValueError.__new__" = true
 cl:∀C∈cs,Jt K C
 sub:∀C∈cs,subIn K (.ref C) (.ref C0)=some true
 one:∀C∈cs,∀D∈cs,kitOne K (.ref C) (.ref D)=some (decide (C=D))
 val:∀C∈cs,kitOne K (.ref C) (.type "ValueError")=some true
 top:By K C0
theorem GL {K:Frag}{C0:al}{cs:List al}(h:zj K C0 cs=true):Ea K C0 cs :=by
 unfold zj at h;simp only[Ch]at h;obtain⟨⟨⟨⟨⟨⟨h1,h2⟩,h3⟩,h4⟩,h5⟩,h6⟩,h7⟩:=h;have all:∀C∈cs,D9 K C0 C=true:=tw.mp h1;have part:∀C∈cs,_:=fun C hC=>by
  have z:=all C hC;unfold D9 at z;simp only[Ch]at z;exact z
 refine⟨fun C hC=>(part C hC).1.1.1.1.1.1.1.1,fun C hC=>?_,fun C hC=>beq_iff_eq.mp (part C hC).1.2,fun C hC D hD=>beq_iff_eq.mp (tw.mp (tw.mp h2 C hC) D hD),fun C hC=>beq_iff_eq.mp (part C hC).2,⟨beq_iff_eq.mp h5,beq_iff_eq.mp h6,h7⟩⟩
 obtain⟨⟨⟨⟨⟨⟨⟨⟨_,p1⟩,p2⟩,p3⟩,p4⟩,p5⟩,p6⟩,_⟩,_⟩:=part C hC;exact⟨p1,beq_iff_eq.mp p2,beq_iff_eq.mp p3,beq_iff_eq.mp p4,beq_iff_eq.mp h3,beq_iff_eq.mp h4,beq_iff_eq.mp p5,beq_iff_eq.mp p6⟩
end L2
namespace L2
open PySem PySem.Spec PyProof.Rows
section
variable {X:Cx}{st:tz}{ι:Type}{Pre:ι->St->Hp->Prop}{D:ι->Ends}
theorem tJ {P:i4}{w:i8}{K:bn}(hP:X.prog=P) (hw:X.w=w) (h:X.K=K) (hc:X.calm=true):cw X (.builtin "sorted") (xU P w K) :=by
 subst hP hw h;exact uZ hc
end
structure M1 (X:Cx) (o:hX) (m:cb) (apos:xp) (e:hX) (bB:xp):Prop where
 base:attributeBase o m X.env (eval o X.env)=eval o X.env
 few:((backTo bB (starEach [e] X.env)).all (fun x => !x.1) && (backToKw bB (keywordEach [] X.env)).all (fun x=>x.1.isSome)
  && decide (([e]:List hX).length+([]:List Tu).length+(if ([]:List Tu).isEmpty then 0 else 1)<30))=true
 line:(apos.endLine==bB.line)=true
 trees:backTo bB (starEach [e] X.env)=[(false,eval e X.env)]
structure M2 (X:Cx) (o:hX) (m:cb) (apos:xp) (e f:hX) (bB:xp):Prop where
 base:attributeBase o m X.env (eval o X.env)=eval o X.env
 few:((backTo bB (starEach [e,f] X.env)).all (fun x => !x.1) && (backToKw bB (keywordEach [] X.env)).all (fun x=>x.1.isSome)
  && decide (([e,f]:List hX).length+([]:List Tu).length+(if ([]:List Tu).isEmpty then 0 else 1)<30))=true
 line:(apos.endLine==bB.line)=true
 trees:backTo bB (starEach [e,f] X.env)=[(false,eval e X.env),(false,eval f X.env)]
theorem ph {κ:Type} [BEq κ] [LawfulBEq κ]:∀(ks U:List κ),ks.Nodup->(∀k∈ks,k∈U)->ks.length<=U.length
 | [],_,_,_=>sB _
 |k::ks,U,nd,h=>by
          have hn:=Sc.mp nd;have hk:=h k f8;have ih:=ph ks (U.erase k) hn.2 fun x hx=>(List.mem_erase_of_ne (fun e=>hn.1 (by rw[<- e];exact hx))).mpr (h x (ci _ hx))
          rw[List.length_erase_of_mem hk]at ih;have:=TW hk;rw[Cn];omega
def Qz (mask:Nat) (h:Int):ON:={j:=AC h % (mask+1),more:=KT mask (AC h % (mask+1)) - AC h % (mask+1),i:=AC h % (mask+1),perturb:=AC h,dummy:=none}
def u5 (mask:Nat) (p:ON):ON:=
 if p.more > 0 then {p with j:=p.j+1,more:=p.more - 1} else
 let (i,perturb):=UZ mask p.i p.perturb
 {p with j:=i,more:=KT mask i - i,i,perturb}
def bL (mask:Nat) (h:Int):Nat->ON
 |0=>Qz mask h
 |k+1=>u5 mask (bL mask h k)
def aY (mask:Nat) (h:Int):Nat->Nat×Nat
 |0=>(AC h % (mask+1),AC h)
 |T+1=>UZ mask (aY mask h T).1 (aY mask h T).2
def dj (mask i:Nat):Nat:=KT mask i - i
def gz (mask:Nat) (h:Int):Nat->Nat
 |0=>0
 |T+1=>gz mask h T+dj mask (aY mask h T).1+1
theorem GN (mask i:Nat):dj mask i<=9 :=by unfold dj KT;split<;>omega
theorem xW {mask i:Nat}(h:i<=mask):i+dj mask i<=mask :=by unfold dj KT;split<;>omega
theorem BA (mask:Nat) (h:Int):∀T,gz mask h T<=10 * T
 |0=>bv _
 |T+1=>by
          have:=BA mask h T;have:=GN mask (aY mask h T).1;show gz mask h T+_+1<=_;omega
theorem rF {mask:Nat}{h:Int}{T:Nat}(e:bL mask h (gz mask h T)={j:=(aY mask h T).1,more:=dj mask (aY mask h T).1,i:=(aY mask h T).1,perturb:=(aY mask h T).2,dummy:=none}) :
  ∀m,m<=dj mask (aY mask h T).1->bL mask h (gz mask h T+m)={j:=(aY mask h T).1+m,more:=dj mask (aY mask h T).1 - m,i:=(aY mask h T).1,perturb:=(aY mask h T).2,dummy:=none}
 |0,_=>e
 |m+1,hm=>by
          have ih:=rF e m (by omega)
          show u5 mask (bL mask h (gz mask h T+m))=_;rw[ih];unfold u5;rw[if_pos (show dj mask (aY mask h T).1 - m > 0 by omega)]
          have e1:dj mask (aY mask h T).1 - m - 1=dj mask (aY mask h T).1 - (m+1) :=by omega
          simp only[e1,Nat.add_assoc]
theorem rG {mask:Nat}{h:Int}:∀T,bL mask h (gz mask h T)={j:=(aY mask h T).1,more:=dj mask (aY mask h T).1,i:=(aY mask h T).1,perturb:=(aY mask h T).2,dummy:=none}
 |0=>rfl
 |T+1=>by
          have ih:=rF (rG (mask:=mask) (h:=h) T) _ (bv _);show u5 mask (bL mask h (gz mask h T+dj mask (aY mask h T).1))=_;rw[ih];unfold u5;rw[if_neg (by show ¬ (dj mask (aY mask h T).1 - dj mask (aY mask h T).1 > 0);omega)]
          rfl
theorem qw {mask:Nat}{h:Int}{T m:Nat}(hm:m<=dj mask (aY mask h T).1):(bL mask h (gz mask h T+m)).j=(aY mask h T).1+m :=by rw[rF (rG T) m hm]
theorem u6 (mask:Nat) (h:Int):∀k,∃T m,k=gz mask h T+m/\m<=dj mask (aY mask h T).1
 |0=>⟨0,0,rfl,sB _⟩
 |k+1=>by
          obtain⟨T,m,e,hm⟩:=u6 mask h k;by_cases z:m<dj mask (aY mask h T).1
          ·exact⟨T,m+1,by omega,z⟩
          ·refine⟨T+1,0,?_,sB _⟩;show k+1=gz mask h T+dj mask (aY mask h T).1+1+0;omega
theorem xX (mask:Nat) (h:Int):∀k,(bL mask h k).dummy=none
 |0=>rfl
 |k+1=>by
          have ih:=xX mask h k;show (u5 mask (bL mask h k)).dummy=none;unfold u5;split<;>exact ih
def u9 (mask:Nat):Nat->Nat->Nat
 |0,i=>i
 |m+1,i=>(u9 mask m i * 5+1) % (mask+1)
theorem rH {mask:Nat}{h:Int}:∀T,(aY mask h T).1<=mask
 |0=>Nat.lt_succ_iff.mp (Uz _ (Nat.succ_pos _))
 |T+1=>Nat.lt_succ_iff.mp (Uz _ (Nat.succ_pos _))
theorem Ju (mask:Nat) (h:Int) (k:Nat):(bL mask h k).j<=mask :=by
 obtain⟨T,m,rfl,hm⟩:=u6 mask h k;rw[qw hm];have:=xW (rH (mask:=mask) (h:=h) T);omega
theorem va {mask:Nat}{h:Int}:∀T,(aY mask h T).2=AC h / 32 ^ T
 |0=>by show AC h=_;simp
 |T+1=>by
          show (aY mask h T).2 / 32=_;rw[va T,Nat.div_div_eq_div_mul,Nat.pow_succ]
theorem Eb (h:Int):AC h<2 ^ 64 :=by
 unfold AC;have h1:=Tf h (show (2 ^ 64:Int)≠0 by decide)
 have h2:=Int.emod_lt_of_pos h (show (0:Int)<2 ^ 64 by decide)
 omega
theorem vc {mask:Nat}{h:Int}:∀m,aY mask h (13+m)=(u9 mask m (aY mask h 13).1,0)
 |0=>by
          have e:(aY mask h 13).2=0 :=by
           rw[va];have:=Eb h;exact Nat.div_eq_of_lt (Nat.lt_trans this (by decide))
          exact Prod.ext rfl e
 |m+1=>by
          show UZ mask (aY mask h (13+m)).1 (aY mask h (13+m)).2=_;rw[vc m];unfold UZ;simp[u9]
def Full (mask:Nat):Prop:=∀i,i<=mask->∀j,j<=mask->∃m,m<=mask/\u9 mask m i=j
theorem xY {mask:Nat}(h:((im (mask+1)).all fun i=>(im (mask+1)).all fun j=>(im (mask+1)).any fun m=>u9 mask m i==j)=true):Full mask:=fun i hi j hj=>by
 have h1:=tw.mp h i (lm.mpr (by omega))
 have h2:=tw.mp h1 j (lm.mpr (by omega))
 obtain⟨m,hm,e⟩:=T7.mp h2;exact⟨m,by have:=lm.mp hm;omega,by simpa using e⟩
theorem Md:Full 7:=xY (by decide +kernel)
theorem Jv:Full 31:=xY (by decide +kernel)
theorem qy {mask:Nat}(F:Full mask) (h:Int) {j:Nat}(hj:j<=mask):∃T,T<=13+mask/\(aY mask h T).1=j :=by
 obtain⟨m,hm,e⟩:=F _ (rH 13) j hj;exact⟨13+m,by omega,by rw[vc];exact e⟩
theorem Jw {p:Nat->Prop}:∀{n:Nat},p n->∃k,k<=n/\p k/\∀k',k'<k->¬ p k'
 |n,h=>by
          induction n using Sk with
          |ind n ih=>
           by_cases z:∃k',k'<n/\p k'
           ·obtain⟨k',hk,hp⟩:=z;obtain⟨k,h1,h2,h3⟩:=ih k' hk hp;exact⟨k,by omega,h2,h3⟩
           ·exact⟨n,bv _,h,fun k' hk hp=>z ⟨k',hk,hp⟩⟩
theorem Jx {mask:Nat}(F:Full mask) (h:Int) {jm:Nat->Prop}{j:Nat}(hj:j<=mask) (e:¬ jm j):∃K,K<=10 * (13+mask)/\¬ jm (bL mask h K).j/\∀k,k<K->jm (bL mask h k).j :=by
 obtain⟨T,hT,eT⟩:=qy F h hj;have e0:¬ jm (bL mask h (gz mask h T)).j :=by rw[rG,eT];exact e
 obtain⟨K,h1,h2,h3⟩:=Jw (p:=fun k=>¬ jm (bL mask h k).j) e0
 have:=BA mask h T;exact⟨K,by omega,h2,fun k hk=>OF.mp (h3 k hk)⟩
def xZ (mask:Nat) (jm:Nat->Prop) (h:Int) (j:Nat):Prop:=∃k,(bL mask h k).j=j/\∀k',k'<k->jm (bL mask h k').j
theorem xZ.mono {mask:Nat}{jm Jy:Nat->Prop}{h:Int}{j:Nat}(x:xZ mask jm h j) (m:∀j,jm j->Jy j):xZ mask Jy h j:=let ⟨k,e,f⟩:=x;⟨k,e,fun k' hk=>m _ (f k' hk)⟩
def gm (t:li) (j:Nat):Prop:=j∈t.place.toList
structure GoodT (w:i8) (t:li) (es:Array (Int×ap)):Prop where
 ok:bq w t
 full:Full t.mask
 odd:t.mask % 2=1
 le:∀j∈t.place.toList,j<=t.mask
 sz:t.place.size=es.size
 room:es.size<t.mask
 wk:∀q∈t.place.toList.zip es.toList,xZ t.mask (gm t) q.2.1 q.1
theorem ny {w:i8}{t:li}(h:bq w t) {j:Nat}:(∃i,t.slot j=.live i/\t.place[i]?=some j)\/(t.slot j=.empty/\¬ gm t j) :=by
 unfold li.slot;dsimp only;by_cases z:t.place[l5 t.place j]?=some j
 ·left;refine⟨l5 t.place j,?_,z⟩;rw[if_pos (by rw[z];simp)]
 ·right;rw[if_neg (by simpa using z),h.dum,rA]
  refine⟨by simp,fun m=>?_⟩
  obtain⟨i,hi,e⟩:=UC.mp m;have cI:i<t.place.size :=by simpa using hi
  have e':t.place[i]=j :=by simpa using e
  obtain⟨b0,b1,b2⟩:=jN j h.ris;generalize l5 t.place j=p at *
  by_cases h1:i<p
  ·have:=b1 i cI h1;omega
  ·by_cases h2:i=p
   ·subst h2;exact z (by rw[sw cI,e'])
   ·have q:=jM h.ris (show p<i by omega) cI
    have:=b2 p (by omega) (bv _)
    omega
theorem Ec {w:i8}{t:li}(h:bq w t) {j i:Nat}(e:t.slot j=.live i):t.place[i]?=some j :=by
 rcases ny h (j:=j) with ⟨i',e1,e2⟩|⟨e1,_⟩
 ·rw[e]at e1;cases e1;exact e2
 ·rw[e]at e1;cases e1
theorem vd {w:i8}{t:li}(h:bq w t) {j:Nat}(o:gm t j):∃i,t.slot j=.live i/\t.place[i]?=some j :=by
 rcases ny h (j:=j) with x|⟨_,n⟩
 ·exact x
 ·exact absurd o n
theorem qz {w:i8}{t:li}(h:bq w t) {j:Nat}(o:¬ gm t j):t.slot j=.empty :=by
 rcases ny h (j:=j) with ⟨i,_,e⟩|⟨e,_⟩
 ·exfalso
  exact o (by have:=Uq.mpr (Ul e);exact this)
 ·exact e
theorem sJ {w:i8}{t:li}(h:bq w t) {hashAt:Nat->Int}{hh:Int}{K:Nat}(hK:¬ gm t (bL t.mask hh K).j) (hb:∀k,k<K->gm t (bL t.mask hh k).j):∀(fuel k0:Nat),k0<=K->K - k0<fuel->
  (∃k i,k0<=k/\k<K/\t.slot (bL t.mask hh k).j=.live i/\hashAt i=hh/\(∀k' i',k0<=k'->k'<k->t.slot (bL t.mask hh k').j=.live i'->hashAt i'≠hh)/\Os t hashAt hh fuel (bL t.mask hh k0)=some (.candidate (bL t.mask hh k).j i (bL t.mask hh (k+1)))) \/
  ((∀k' i',k0<=k'->k'<K->t.slot (bL t.mask hh k').j=.live i'->hashAt i'≠hh)/\Os t hashAt hh fuel (bL t.mask hh k0)=some (.empty (bL t.mask hh K).j none))
 |0,k0,_,hf=>by omega
 |fuel+1,k0,hk,hf=>by
          unfold Os;by_cases e:k0=K
          ·subst e;right;refine⟨fun k' i' a b=>by omega,?_⟩
           rw[qz h hK];dsimp only;rw[xX]
          ·obtain⟨i,e1,e2⟩:=vd h (hb k0 (by omega))
           rw[e1];dsimp only;by_cases eh:hashAt i=hh
           ·left;refine⟨k0,i,bv _,by omega,e1,eh,fun k' i' a b=>by omega,?_⟩
            rw[if_pos (by simpa using eh)]
            rfl
           ·rw[if_neg (by simpa using eh)]
            have here:∀i',t.slot (bL t.mask hh k0).j=.live i'->hashAt i'≠hh:=fun i' z=>by rw[e1]at z;cases z;exact eh
            rcases sJ h hK hb fuel (k0+1) (by omega) (by omega) with ⟨k,i',a,b,c,d,f,g⟩|⟨f,g⟩
            ·left;refine⟨k,i',by omega,b,c,d,fun k' i2 a2 b2=>?_,g⟩
             by_cases z:k'=k0
             ·subst z;exact here i2
             ·exact f k' i2 (by omega) b2
            ·right;refine⟨fun k' i2 a2 b2=>?_,g⟩
             by_cases z:k'=k0
             ·subst z;exact here i2
             ·exact f k' i2 (by omega) b2
theorem nz {α:Type}(xs:Array α) (p:Nat) (v:α):(xb xs p v).toList=xs.toList.take p++[v]++xs.toList.drop p :=by
 unfold xb;simp;exact TV (by simp)
theorem nA {α:Type}(xs:Array α) (p:Nat) (v:α):(xb xs p v).toList.Perm (v::xs.toList) :=by
 rw[nz,Lo];have:(v::xs.toList)=v::(xs.toList.take p++xs.toList.drop p) :=by rw[List.take_append_drop]
 rw[this];exact List.perm_middle
theorem BC {α β:Type}(xs:List α) (ys:List β) (p:Nat):(xs.take p).zip (ys.take p)=(xs.zip ys).take p :=by rw[Tc,Tc,List.take_zipWith]
theorem BD {α β:Type}(xs:List α) (ys:List β) (p:Nat):(xs.drop p).zip (ys.drop p)=(xs.zip ys).drop p :=by rw[Tc,Tc,List.drop_zipWith]
theorem GoodT.put {w:i8}{t:li}{es:Array (Int×ap)}(g:GoodT w t es) {hh:Int}{x:ap}{K:Nat}(hK:¬ gm t (bL t.mask hh K).j) (hb:∀k,k<K->gm t (bL t.mask hh k).j) (hle:(bL t.mask hh K).j<=t.mask) (hr:es.size+1<t.mask) :
  GoodT w (t.put (bL t.mask hh K).j).1 (xb es (t.put (bL t.mask hh K).j).2 (hh,x)) :=by
 have em:=qz g.ok hK;have ok:=g.ok.put em;generalize ej:(bL t.mask hh K).j=j at *
 have mem:∀j',j'∈(t.put j).1.place.toList ↔ j'=j\/j'∈t.place.toList:=fun j'=>by
  have:=(nA t.place (l5 t.place j) j).mem_iff (a:=j');rw[l7]at this;exact this
 have QB:l5 t.place j<=t.place.toList.length :=by have:=(jN j g.ok.ris).1;simpa using this
 have SD:l5 t.place j<=es.toList.length :=by rw[jp,<- g.sz,<- jp];exact QB
 have s1:∀{α:Type} (xs:Array α) (p:Nat) (v:α),(xb xs p v).size=xs.size+1:=fun xs p v=>by
  have:=(nA xs p v).length_eq;rw[jp,Cn,jp]at this;exact this
 refine⟨ok,g.full,g.odd,fun j' QC=>?_,?_,?_,fun q hq=>?_⟩
 ·rcases (mem j').mp QC with rfl|z
  ·exact hle
  ·exact g.le j' z
 ·show (xb t.place (l5 t.place j) j).size=_;rw[s1,s1,g.sz]
 ·rw[s1];exact hr
 ·have zz:(t.put j).1.place.toList.zip (xb es (t.put j).2 (hh,x)).toList=(t.place.toList.zip es.toList).take (l5 t.place j)++[(j,(hh,x))]++(t.place.toList.zip es.toList).drop (l5 t.place j) :=by
   show (xb t.place (l5 t.place j) j).toList.zip (xb es (l5 t.place j) (hh,x)).toList=_;rw[nz,nz,Vq (by simp[g.sz]),Vq (by simp[g.sz]),BC,BD]
   rfl
  rw[zz]at hq;have pj:∀j',gm t j'->gm (t.put j).1 j':=fun j' z=>(mem j').mpr (.inr z)
  have old:q∈t.place.toList.zip es.toList->xZ t.mask (gm (t.put j).1) q.2.1 q.1:=fun z=>(g.wk q z).mono pj
  rcases rc.mp hq with z|z
  ·rcases rc.mp z with z|z
   ·exact old (List.mem_of_mem_take z)
   ·rw[lw.mp z];exact⟨K,ej,fun k' gb=>pj _ (hb k' gb)⟩
  ·exact old (List.mem_of_mem_drop z)
def gp (o:Array (Option Nat)) (j:Nat):Prop:=o.getD j none≠none
structure nB (mask:Nat) (o:Array (Option Nat)) (hs:List Int):Prop where
 size:o.size=mask+1
 wk:∀j n,o.getD j none=some n->∃hh,hs[n]?=some hh/\xZ mask (gp o) hh j
 inj:∀j j' n,o.getD j none=some n->o.getD j' none=some n->j=j'
 sur:∀n,n<hs.length->∃j,j<=mask/\o.getD j none=some n
theorem lH {o:Array (Option Nat)}{mask j:Nat}(hs:o.size=mask+1) (hj:j<=mask):(o.getD j (some 0)).isNone=true ↔ ¬ gp o j :=by
 unfold gp;have hl:j<o.size :=by omega
 simp[FM,hl]
theorem sL {mask:Nat}{o:Array (Option Nat)}{hh:Int}(hs:o.size=mask+1):∀(fuel T:Nat),(∀k,k<gz mask hh T->gp o (bL mask hh k).j)->(∃T',T<=T'/\T'<T+fuel/\¬ gp o (aY mask hh T').1)->
  ∃j k,SI mask o fuel (aY mask hh T).1 (aY mask hh T).2=some j/\(bL mask hh k).j=j/\j<=mask/\¬ gp o j/\∀k',k'<k->gp o (bL mask hh k').j
 |0,T,_,⟨T',a,b,_⟩=>by omega
 |fuel+1,T,hb,⟨T',a,b,c⟩=>by
          have hi:=rH (mask:=mask) (h:=hh) T;have Si:=xW hi;have er:KT mask (aY mask hh T).1+1 - (aY mask hh T).1=dj mask (aY mask hh T).1+1 :=by
           have:(aY mask hh T).1<=KT mask (aY mask hh T).1 :=by unfold KT;split<;>omega
           unfold dj;omega
          unfold SI;rw[er];cases e:(im (dj mask (aY mask hh T).1+1)).find? (fun k=>(o.getD ((aY mask hh T).1+k) (some 0)).isNone) with
          |some m=>
           rw[List.find?_range_eq_some]at e;obtain⟨e1,e2,e3⟩:=e;have hm:=lm.mp e2;refine⟨_,gz mask hh T+m,rfl,qw (by omega),by omega,(lH hs (by omega)).mp e1,fun k' gb=>?_⟩
           by_cases z:k'<gz mask hh T
           ·exact hb k' z
           ·obtain⟨m',rfl⟩:∃m',k'=gz mask hh T+m':=⟨k' - gz mask hh T,by omega⟩
            rw[qw (by omega)]
            have:=e3 m' (by omega)
            refine OF.mp fun n=>?_
            rw[(lH hs (by omega)).mpr n]at this
            cases this
          |none=>
           dsimp only;rw[US]at e;have pj:∀m,m<=dj mask (aY mask hh T).1->gp o ((aY mask hh T).1+m):=fun m hm=>OF.mp fun n=>e m (lm.mpr (by omega)) ((lH hs (by omega)).mpr n)
           have ne:T'≠T:=fun z=>by
            subst z;exact c (by have:=pj 0 (by omega);rwa [Nat.add_zero]at this)
           refine sL hs fuel (T+1) (fun k hk=>?_) ⟨T',by omega,by omega,c⟩
           have hk:k<gz mask hh T+dj mask (aY mask hh T).1+1:=hk;by_cases z:k<gz mask hh T
           ·exact hb k z
           ·obtain⟨m',rfl⟩:∃m',k=gz mask hh T+m':=⟨k - gz mask hh T,by omega⟩
            rw[qw (by omega)]
            exact pj m' (by omega)
theorem nB.room {mask:Nat}{o:Array (Option Nat)}{hs:List Int}(L:nB mask o hs) (h:hs.length<=mask):∃j,j<=mask/\¬ gp o j :=by
 refine IT fun n=>?_
 have all:∀j,j<=mask->gp o j:=fun j hj=>OF.mp fun z=>n ⟨j,hj,z⟩
 have nd:((im (mask+1)).map fun j=>(o.getD j none).getD 0).Nodup :=by
  rw[List.nodup_iff_pairwise_ne,U6];refine TY.imp_of_mem (fun {a b} ha hb gy=>?_) (SB (n:=mask+1))
  have ha:=lm.mp ha;have hb:=lm.mp hb;obtain⟨x,ex⟩:=On.mp (all a (by omega))
  obtain⟨y,ey⟩:=On.mp (all b (by omega))
  rw[ex,ey];intro z;have z:x=y:=z;subst z;have:=L.inj a b x ex ey;omega
 have:=ph _ (im hs.length) nd fun x hx=>by
  obtain⟨j,hj,rfl⟩:=ff.mp hx;have hj:=lm.mp hj;obtain⟨y,ey⟩:=On.mp (all j (by omega))
  obtain⟨hh,e,_⟩:=L.wk j y ey;rw[ey];exact lm.mpr (cr.mp e).1
 rw[br,wT,wT]at this;omega
theorem k8 {o:Array (Option Nat)}{j j':Nat}{v:Option Nat}(hj:j<o.size):(o.setIfInBounds j v).getD j' none=if j=j' then v else o.getD j' none :=by
 simp only[Array.getD_eq_getD_getElem?,Array.getElem?_setIfInBounds,hj,if_true];split<;>rfl
theorem nB.snoc {mask:Nat}{o:Array (Option Nat)}{hs:List Int}{hh:Int}{j k:Nat}(L:nB mask o hs) (e:(bL mask hh k).j=j) (hj:j<=mask) (hf:¬ gp o j) (hb:∀k',k'<k->gp o (bL mask hh k').j):nB mask (o.setIfInBounds j (some hs.length)) (hs++[hh]) :=by
 have hl:j<o.size :=by rw[L.size];omega
 have fr:o.getD j none=none:=OF.mp hf;have jm:∀j',gp o j'->gp (o.setIfInBounds j (some hs.length)) j':=fun j' z=>by
  unfold gp;rw[k8 hl];split
  ·simp
  ·exact z
 have lt:∀j' n,o.getD j' none=some n->n<hs.length:=fun j' n z=>by
  obtain⟨h2,e2,_⟩:=L.wk j' n z;exact(cr.mp e2).1
 refine⟨by rw[Array.size_setIfInBounds,L.size],fun j' n h=>?_,fun a b n ha bY=>?_,fun n hn=>?_⟩
 ·rw[k8 hl]at h;split at h
  ·rename_i z;cases h;subst z;exact⟨hh,by simp,k,e,fun k' gb=>jm _ (hb k' gb)⟩
  ·obtain⟨h2,e2,w2⟩:=L.wk j' n h;exact⟨h2,by rw[IR (lt j' n h)];exact e2,w2.mono jm⟩
 ·rw[k8 hl]at ha bY;split at ha
  ·rename_i z;cases ha;split at bY
   ·rename_i z2;omega
   ·have:=lt b _ bY;omega
  ·split at bY
   ·cases bY;have:=lt a _ ha;omega
   ·exact L.inj a b n ha bY
 ·rw[zw,S0]at hn;by_cases z:n=hs.length
  ·subst z;exact⟨j,hj,by rw[k8 hl,if_pos rfl]⟩
  ·obtain⟨j',a,b⟩:=L.sur n (by omega)
   refine⟨j',a,?_⟩;rw[k8 hl,if_neg fun z2=>by subst z2;rw[fr]at b;cases b]
   exact b
theorem Jz {mask:Nat}(F:Full mask) (hashes:Array Int) (h:hashes.size<=mask):∃o,VF mask hashes=some o/\nB mask o hashes.toList :=by
 unfold VF;rw[<- Array.foldl_toList];have hl:hashes.toList.length<=mask :=by rw[jp];exact h
 generalize hashes.toList=L at hl
 have key:∀(rest done:List Int) (o:Array (Option Nat)),done++rest=L->nB mask o done->∃o',rest.foldl (init:=some (o,done.length)) (fun acc h=>do
   let (owner,k) <- acc
   let j <- SI mask owner (Mc mask) (AC h % (mask+1)) (AC h)
   pure (owner.setIfInBounds j (some k),k+1))=some (o',L.length)/\nB mask o' L:=fun rest=>by
  induction rest with
  |nil=>
   intro done o e I;rw[EQ]at e;subst e;exact⟨o,rfl,I⟩
  |cons hh rest ih=>
   intro done o e I;have hd:done.length+(rest.length+1)=L.length :=by rw[<- e,zw,Cn]
   obtain⟨j0,JA,f0⟩:=I.room (by omega)
   obtain⟨T',nC,QD⟩:=qy F hh JA;obtain⟨j,k,e1,e2,e3,e4,e5⟩:=sL (hh:=hh) I.size (Mc mask) 0 (fun k hk=>absurd hk (Vo _)) ⟨T',sB _,by unfold Mc;omega,by rw[QD];exact f0⟩
   have e1:SI mask o (Mc mask) (AC hh % (mask+1)) (AC hh)=some j:=e1;have:=ih (done++[hh]) (o.setIfInBounds j (some done.length)) (by rw[Lo];exact e) (I.snoc e2 e3 e4 e5)
   rw[zw,S0]at this;rw[Uu];simp only[Option.bind_eq_bind,Po,e1,Option.pure_def];exact this
 obtain⟨o',e,I⟩:=key L [] (Vr (mask+1) none) rfl ⟨by simp,fun j n z=>by simp[FM]at z,fun a b n z=>by simp[FM]at z,fun n hn=>by simp at hn⟩
 exact⟨o',by rw[show (some (Vr (mask+1) none,0):Option (Array (Option Nat)×Nat))=some (Vr (mask+1) none,([]:List Int).length) from rfl,e];rfl,I⟩
theorem x6 {α β:Type}{f:α->Option β}{g:α->β}:∀{l:List α},(∀x∈l,f x=some (g x))->l.filterMap f=l.map g
 | [],_=>rfl
 |x::l,h=>by rw[LF,h x f8,r6,x6 fun y hy=>h y (ci _ hy)]
theorem GO {w:i8}{mask:Nat}(F:Full mask) (od:mask % 2=1) {es:Array (Int×ap)}(h:es.size<mask) (finger moves:Nat) {led:Bool}(hl:led = !w.params.followText "set-order") (plain:Bool) :
  ∃t order,li.laid mask finger moves led plain (es.map (·.1))=some (t,order)/\(order.filterMap (es[·]?)).toList.Perm es.toList/\GoodT w t (order.filterMap (es[·]?))/\t.mask=mask :=by
 obtain⟨o,e,L⟩:=Jz F (es.map (·.1)) (by rw[Array.size_map];omega)
 unfold li.laid;rw[e];obtain⟨g,hg⟩:∃g:Nat->Int×ap,g=fun n=>(es[n]?).getD (0,.none):=⟨_,rfl⟩
 have ge:∀n,n<es.size->es[n]?=some (g n):=fun n hn=>by rw[hg];simp[hn]
 have lt:∀j n,o.getD j none=some n->n<es.size:=fun j n z=>by
  obtain⟨hh,e2,_⟩:=L.wk j n z;have:=(cr.mp e2).1;simpa using this
 obtain⟨live,qA⟩:∃live,live=(im (mask+1)).filterMap fun j=>(o.getD j none).map (j,·):=⟨_,rfl⟩
 have ml:∀j n,(j,n)∈live ↔ j<=mask/\o.getD j none=some n:=fun j n=>by
  rw[qA,Tk];constructor
  ·rintro⟨a,ha,e⟩;obtain⟨b,hb,e2⟩:=At.mp e;cases e2;exact⟨by have:=lm.mp ha;omega,hb⟩
  ·rintro⟨a,b⟩;exact⟨j,lm.mpr (by omega),by rw[b];rfl⟩
 have eo:(((live.map (·.2)).toArray.filterMap (es[·]?))).toList=live.map fun q=>g q.2 :=by
  rw[Array.toList_filterMap,List.filterMap_map];exact x6 fun q hq=>ge _ (lt q.1 q.2 ((ml q.1 q.2).mp hq).2)
 have nd:(live.map (·.2)).Nodup :=by
  have e3:live.map (·.2)=(im (mask+1)).filterMap fun j=>o.getD j none :=by
   rw[qA,List.map_filterMap];congr 1
   funext j
   cases o.getD j none<;>rfl
  rw[e3,List.nodup_iff_pairwise_ne];refine TY.filterMap _ (fun a a' SE b hb b' bY z=>?_) (SB (n:=mask+1))
  subst z;have:=L.inj a a' b hb bY;omega
 have pr:(live.map (·.2)).Perm (im es.size):=(List.perm_ext_iff_of_nodup nd Vf).mpr fun n=>by
  rw[ff,lm];constructor
  ·rintro⟨q,hq,rfl⟩;exact lt q.1 q.2 ((ml q.1 q.2).mp hq).2
  ·intro hn;obtain⟨j,a,b⟩:=L.sur n (by simpa using hn)
   exact⟨(j,n),(ml j n).mpr ⟨a,b⟩,rfl⟩
 have xt:(im es.size).map g=es.toList :=by
  refine TL fun i=>?_
  have e2:es.toList[i]?=es[i]?:=by simp
  rw[ij,e2];by_cases hi:i<es.size
  ·rw[LG hi,ge i hi];rfl
  ·rw[IF (by rw[wT];omega),GE (by omega)];rfl
 have pe:(live.map fun q=>g q.2).Perm es.toList :=by
  rw[<- xt];have:=pr.map g;rw[wE]at this;exact this
 have sz:live.length=es.size :=by
  have:=pe.length_eq;rw[br,jp]at this;exact this
 refine⟨{mask,place:=(live.map (·.1)).toArray,dummies:=#[],finger,led,moves,plain},(live.map (·.2)).toArray,by rw[qA];rfl,by rw[eo];exact pe,?_,rfl⟩
 have JB:((live.map (·.2)).toArray.filterMap (es[·]?)).size=es.size :=by rw[<- jp,eo,br,sz]
 have jm:∀j,gp o j->j∈live.map (·.1):=fun j z=>by
  obtain⟨n,en⟩:=On.mp z;have hj:j<o.size :=by
   refine IT fun c=>?_
   simp[FM,c]at en
  rw[L.size]at hj;exact ff.mpr ⟨(j,n),(ml j n).mpr ⟨by omega,en⟩,rfl⟩
 refine⟨⟨rfl,by rw[qA];exact uM (fun j=>o.getD j none) _,hl⟩,F,od,fun j hj=>?_,?_,?_,fun q hq=>?_⟩
 ·rw[S9]at hj;obtain⟨q,hq,rfl⟩:=ff.mp hj;exact((ml q.1 q.2).mp hq).1
 ·show (live.map (·.1)).toArray.size=_;rw[JB];simp[sz]
 ·rw[JB];exact h
 ·rw[S9,eo]at hq;have hz:(live.map (·.1)).zip (live.map fun q=>g q.2)=live.map fun q=>(q.1,g q.2) :=by
   clear qA ml eo nd pr pe sz JB jm hq
   induction live with
   |nil=>rfl
   |cons a l ih=>rw[r6,r6,r6,List.zip_cons_cons,ih]
  rw[hz]at hq;obtain⟨p,hp,rfl⟩:=ff.mp hq;have NS:=((ml p.1 p.2).mp hp).2;obtain⟨hh,e2,w2⟩:=L.wk p.1 p.2 NS;have aD:=lt _ _ NS;have:hh=(g p.2).1 :=by
   rw[EU,Array.getElem?_map,ge _ aD]at e2;exact(kw e2).symm
  subst this;exact w2.mono fun j z=>by show j∈(live.map (·.1)).toArray.toList;rw[S9];exact jm j z
theorem GoodT.o9 {w:i8}{t:li}{es:Array (Int×ap)}(g:GoodT w t es) (b:Bool):GoodT w (if b=true then t else {t with plain:=false}) es :=by
 split
 ·exact g
 ·exact⟨⟨g.ok.dum,g.ok.ris,g.ok.led⟩,g.full,g.odd,g.le,g.sz,g.room,g.wk⟩
theorem zk {w:i8}(finger moves:Nat):GoodT w (.fresh finger moves (!w.params.followText "set-order")) #[]:=
 ⟨⟨rfl,by simp[ko,UO],rfl⟩,Md,(by decide:7 % 2=1),fun j hj=>by simp[UO]at hj,rfl,by simp[UO],fun q hq=>by simp[UO]at hq⟩
theorem GoodT.fits {w:i8}{t:li}{es:Array (Int×ap)}(g:GoodT w t es):t.fits es.size=true :=by
 unfold li.fits li.fill;rw[g.ok.dum];have:=g.room;have:=g.sz;simp;omega
section
variable {P:i4}{w:i8}{A:ma}{E:ap->ar->Prop}{s:ar}{κ:Type} [DecidableEq κ] {knd:KeyKind P w κ}
theorem qB {ks:List κ}{a:al}{Q:Bool->ar->Prop}(hk:GT knd s.heap ks a) (h:Q false s):wpAny (model P w) A (ofAClassStatement 8 (.ref a)) Q E s :=by
 have hT:=hk.typeIs;obtain⟨o,items,n,ho,_,hd,hi⟩:=hk;unfold ofAClassStatement;refine ag (UB hT ?_);dsimp only;rw[if_pos (by decide)]
 refine ag (ba ?_);simp only[EM,db,if_false];refine ag (LS ho hd ?_);dsimp only;refine ag ?_;rw[<- Array.forIn_toList];refine T9 _ (fun rest r s'=>r.1=none/\s'=s/\∀v∈rest,carriedByValue v=true) _ ?_ ?_ _ _ ⟨rfl,rfl,hi.byValue⟩
 ·rintro v rest r s' ⟨hr,rfl,iy⟩;have hv:=iy v f8;have e:ofAClassStatement 7 v=pure false :=by
   cases v<;>first|(simp[carriedByValue]at hv;done)|(unfold ofAClassStatement;rfl)
  rw[e];refine ag (ba ?_);simp only[db,if_false];exact ba ⟨rfl,rfl,fun u aN=>iy u (ci _ aN)⟩
 ·rintro⟨r1,r2⟩ s' ⟨hr,rfl,_⟩;simp only at hr;subst hr;exact ba h
theorem BE {ks:List κ}{a:al}(hk:GT knd s.heap ks a):∀(l:List ap) {Q:Bool->ar->Prop},(∀v∈l,∃ks b,v=.ref b/\GT knd s.heap ks b)->Q false s->wpAny (model P w) A (searchCouldBeSeen (.ref a) l) Q E s :=by
 intro l Q hl h;unfold searchCouldBeSeen;refine ag ?_;refine T9 _ (fun rest r s'=>r.1=none/\s'=s/\∀v∈rest,∃ks b,v=.ref b/\GT knd s.heap ks b) _ ?_ ?_ _ _ ⟨rfl,rfl,hl⟩
 ·rintro v rest r s' ⟨hr,rfl,iy⟩;obtain⟨SF,b,rfl,hb⟩:=iy v f8;have tl:=fun u aN=>iy u (ci _ aN)
  dsimp only;split
  ·exact ba ⟨rfl,rfl,tl⟩
  ·refine ag (wpAny_eqIsQuiet_tuple hk ?_);simp only[EM,db,if_false];refine ag (wpAny_eqIsQuiet_tuple hb ?_);simp only[EM,db,if_false];refine ag (qB hk ?_);simp only[db,if_false];refine ag (qB hb ?_);simp only[db,if_false];exact ba ⟨rfl,rfl,tl⟩
 ·rintro⟨r1,r2⟩ s' ⟨hr,rfl,_⟩;simp only at hr;subst hr;exact ba h
def BF (knd:KeyKind P w κ) (h:kt) (es:Array (Int×ap)):Prop:=∀e∈es.toList,∃ks b,e=(tupleKeyHash knd ks,.ref b)/\GT knd h ks b
def zl (knd:KeyKind P w κ) (h:kt) (es:Array (Int×ap)) (ks:List κ):Prop:=∃e∈es.toList,∃b,e.2=.ref b/\GT knd h ks b
theorem sM {a:al}{o:lp}{es:Array (Int×ap)}{ep:Nat}{t:li}{ks:List κ}{p:al}{K:Nat}{Q:SetFound->ar->Prop}(hu:A.units<cLine)
  (ho:s.heap.get? a=some o) (hd:o.data=.set es ep t) (g:GoodT w t es) (hk:GT knd s.heap ks p) (ha:BF knd s.heap es)
  (hK:¬ gm t (bL t.mask (tupleKeyHash knd ks) K).j) (hb:∀k,k<K->gm t (bL t.mask (tupleKeyHash knd ks) k).j) (zm:K<10 * Mc t.mask)
  (BG:zl knd s.heap es ks->Q (.there none) s) (pL:¬ zl knd s.heap es ks->Q (.free (bL t.mask (tupleKeyHash knd ks) K).j false) s) :
  ∀(fuel k0:Nat) (tY:Option ON),tY.getD (t.probeStart (tupleKeyHash knd ks))=bL t.mask (tupleKeyHash knd ks) k0->k0<=K->K - k0<fuel->
   (∀k i e,k<k0->t.slot (bL t.mask (tupleKeyHash knd ks) k).j=.live i->es[i]?=some e->∀b,e.2=.ref b->¬ GT knd s.heap ks b)->
   wpAny (model P w) A (setSearchFrom a (.ref p) (tupleKeyHash knd ks) true fuel tY) Q E s
 |0,k0,tY,_,_,hf,_=>by omega
 |fuel+1,k0,tY,ib,QF,hf,ya=>by
          unfold setSearchFrom;refine ag (AT ho hd g.fits ?_);dsimp only;have hg:t.gaveWay=false :=by
           unfold li.gaveWay;rw[g.odd];rfl
          rw[hg];simp only[db,if_false];rw[ib];have GP:(∀k i e,k<K->t.slot (bL t.mask (tupleKeyHash knd ks) k).j=.live i->es[i]?=some e->∀b,e.2=.ref b->¬ GT knd s.heap ks b)->¬ zl knd s.heap es ks:=fun hn ⟨e,he,b,eb,bY⟩=>by
           obtain⟨i,hi,ei⟩:=UC.mp he;have cI:i<es.size :=by simpa using hi
           have NT:es[i]?=some e :=by rw[sw cI];simpa using ei
           have NU:i<t.place.size :=by rw[g.sz];exact cI
           have hz:(t.place.toList.zip es.toList)[i]?=some (t.place[i],e):=IS.mpr ⟨by simp[NU],by simpa using NT⟩
           obtain⟨k,e1,e2⟩:=g.wk _ (gl hz);obtain⟨nE,b2,rfl,m6⟩:=ha e he;cases eb;have:=bY.inj m6;subst this;dsimp only at e1 e2;have QH:k<K :=by
            refine IT fun z=>?_
            by_cases z2:K<k
            ·exact hK (e2 K z2)
            ·have:k=K :=by omega
             subst this;exact hK (by rw[e1];show _∈t.place.toList;simp)
           have pj:gm t t.place[i] :=by show _∈t.place.toList;simp
           obtain⟨i',s1,s2⟩:=vd g.ok pj;have iU:i'=i :=by
            have hl:=(Array.getElem?_eq_some_iff.mp s2);obtain⟨hl,hv⟩:=hl;rcases U7 i' i with z|z|z
            ·have:=jM g.ok.ris z NU;omega
            ·exact z
            ·have:=jM g.ok.ris z hl;omega
           subst iU;exact hn k i' _ QH (by rw[e1];exact s1) NT _ rfl m6
          rcases sJ g.ok hK hb (10 * Mc t.mask) k0 QF (by omega) with ⟨k,i,c1,c2,c3,c4,c5,c6⟩|⟨c5,c6⟩
          ·unfold VG;rw[c6];dsimp only;obtain⟨j,hj⟩:∃j,j=(bL t.mask (tupleKeyHash knd ks) k).j:=⟨_,rfl⟩;have pl:=Ec g.ok c3;have k9:i<es.size :=by rw[<- g.sz];exact(Array.getElem?_eq_some_iff.mp pl).1
           obtain⟨nE,b2,ee,m6⟩:=ha es[i] (by simp)
           have ei:es[i]?=some (tupleKeyHash knd nE,.ref b2) :=by rw[sw k9,ee]
           have after:wpAny (model P w) A (do
             let some (_,y):=es[i]?|unsupported "internal:set-entry"
             let equal <- holding [y] (eqBool y (.ref p))
             let (cz,_,t') <- setState a
             if true && equal then return .there none
             let some same:=t'.sameMemory t.moves t.mask|unsupported "set.changed-during-lookup:is-the-new-block-at-the-old-address"
             let Mf <- match (if same then t'.slot (bL t.mask (tupleKeyHash knd ks) k).j else .empty) with
              | .live i'=>match cz[i']? with
               |some (_,y')=>do pure (if <- isSame y' y then some i' else none)
               |none=>pure none
              |_=>pure none
             match Mf with
             |none=>rule "set.search.anew";setSearchFrom a (.ref p) (tupleKeyHash knd ks) true fuel none
             |some i'=>if equal then return .there (some i') else setSearchFrom a (.ref p) (tupleKeyHash knd ks) true fuel (some (bL t.mask (tupleKeyHash knd ks) (k+1)))) Q E s :=by
            rw[ei];dsimp only;refine ag (ul (wpAny_eqBool_tuple hu m6 hk ?_));refine ag (AT ho hd g.fits ?_);dsimp only;by_cases eq:nE=ks
            ·subst eq;rw[decide_eq_true rfl,if_pos (by decide)]
             exact ba (BG ⟨es[i],by simp,b2,by rw[ee],m6⟩)
            ·rw[decide_eq_false eq,if_neg (by decide)]
             have QJ:t.sameMemory t.moves t.mask=some true :=by unfold li.sameMemory;rw[if_pos (by simp)]
             rw[QJ];simp only[if_true,c3,ei];refine ag (wpAny_isSame_ref_self (ag (ba ?_)));simp only[if_true,db,if_false];refine sM hu ho hd g hk ha hK hb zm BG pL fuel (k+1) _ rfl (by omega) (by omega) fun k' i' e' h1 h2 h3 b' h4 h5=>?_
             by_cases z:k'<k0
             ·exact ya k' i' e' z h2 h3 b' h4 h5
             ·by_cases z2:k'=k
              ·subst z2;rw[c3]at h2;cases h2;rw[ei]at h3;cases h3;cases h4;exact eq (m6.inj h5)
              ·have hh:=c5 k' i' (by omega) (by omega) h2
               obtain⟨JC,b3,e3,BH⟩:=ha e' (by have:=Ul h3;simpa using this)
               subst e3;cases h4;have:=h5.inj BH;subst this;refine hh ?_;show ((es[i']?).map (·.1)).getD 0=_;rw[h3];rfl
           split
           ·refine ag (BE hk _ (fun v hv=>?_) ?_)
            ·obtain⟨e,he,rfl⟩:=ff.mp hv;have QK:e∈es.toList :=by
              have:=Uq.mp he;have:=(Array.mem_filter.mp this).1;simpa using this
             obtain⟨JC,b3,e3,BH⟩:=ha e QK;subst e3;exact⟨JC,b3,rfl,BH⟩
            ·simp only[db,if_false];exact after
           ·exact after
          ·unfold VG;rw[c6];dsimp only;refine ba (pL (GP fun k i e h1 h2 h3 b h4 h5=>?_))
           by_cases z:k<k0
           ·exact ya k i e z h2 h3 b h4 h5
           ·have hh:=c5 k i (by omega) h1 h2
            obtain⟨JC,b3,e3,BH⟩:=ha e (by have:=Ul h3;simpa using this)
            subst e3;cases h4;have:=h5.inj BH;subst this;refine hh ?_;show ((es[i]?).map (·.1)).getD 0=_;rw[h3];rfl
def ve (knd:KeyKind P w κ) (x:List κ×al):Int×ap:=(tupleKeyHash knd x.1,.ref x.2)
def iz (knd:KeyKind P w κ) (h:kt) (a:al) (xs:List (List κ×al)):Prop:=
 ∃o es ep t,h.get? a=some o/\o.ExactSet/\o.data=.set es ep t/\es.toList.Perm (xs.map (ve knd))/\(xs.map (·.1)).Nodup/\GoodT w t es/\(t.mask=7\/t.mask=31)/\es.size * 5<t.mask * 3
theorem iz.bN {h h':kt}{a:al}{xs:List (List κ×al)}(x:iz knd h a xs) (k:∀o,h.get? a=some o->h'.get? a=some o):iz knd h' a xs:=
 let ⟨o,es,ep,t,e,r⟩:=x;⟨o,es,ep,t,k o e,r⟩
def vf (xs:List (List κ×al)) (k:List κ) (p:al):List (List κ×al):=if k∈xs.map (·.1) then xs else xs++[(k,p)]
theorem rJ {ks:List κ}{a:al}{Q:Bool->ar->Prop}(hk:GT knd s.heap ks a) (h:∀b,Q b s):wpAny (model P w) A (hashByValue 8 (.ref a)) Q E s :=by
 have hT:=hk.typeIs;obtain⟨o,items,n,ho,_,hd,hi⟩:=hk;unfold hashByValue;refine ag (wpAny_specialOf hT F.slot_tuple_hash.lookup ?_);dsimp only;refine ag (LS ho hd ?_);refine ag ?_;show wpAny _ _ (forIn items _ _) _ _ s;rw[<- Array.forIn_toList];refine T9 _ (fun rest r s'=>s'=s/\∀v∈rest,carriedByValue v=true) _ ?_ ?_ _ _ ⟨rfl,hi.byValue⟩
 ·rintro v rest r s' ⟨rfl,iy⟩;have hv:=iy v f8;have e:∃b,hashByValue 7 v=pure b :=by
   cases v<;>first|(simp[carriedByValue]at hv;done)|exact⟨_,rfl⟩
  obtain⟨b,e⟩:=e;rw[e];refine ag (ba ?_);cases b
  ·simp only[OP,if_true];exact ba (ba (h _))
  ·simp only[EM,db,if_false];exact ba ⟨rfl,fun u aN=>iy u (ci _ aN)⟩
 ·rintro⟨r1,r2⟩ s' ⟨rfl,_⟩;cases r1 with
  |none=>exact ba (h _)
  |some v=>exact ba (h _)
theorem BI {h:kt}{a:al}{o:lp}{es:Array (Int×ap)}{ep:Nat}{t:li}(ho:h.get? a=some o) (hd:o.data=.set es ep t) (cz:Array (Int×ap)) (t':li) :
  (h.update a (MW cz t')).get? a=some {o with data:=.set cz (ep+1) t'}:=by
 have:=sK (MW cz t') ho (by rw[UR cz t' hd];rfl)
 rw[UR cz t' hd]at this;exact this
theorem qC {h:kt}{a:al}{o:lp}{es:Array (Int×ap)}{ep:Nat}{t:li}(ho:h.get? a=some o) (hex:o.ExactSet) (hd:o.data=.set es ep t)
  {cz:Array (Int×ap)} {t':li} {xs:List (List κ×al)} (hp:cz.toList.Perm (xs.map (ve knd))) (hn:(xs.map (·.1)).Nodup) (g:GoodT w t' cz) (hm:t'.mask=7\/t'.mask=31) (hl:cz.size * 5<t'.mask * 3) :
  (h.update a (MW cz t')).get? a=some {o with data:=.set cz (ep+1) t'}/\iz knd (h.update a (MW cz t')) a xs :=by
 have hg:(h.update a (MW cz t')).get? a=some {o with data:=.set cz (ep+1) t'}:=by
  have:=sK (MW cz t') ho (by rw[UR cz t' hd];rfl)
  rw[UR cz t' hd]at this;exact this
 exact⟨hg,_,cz,ep+1,t',hg,hex,rfl,hp,hn,g,hm,hl⟩
theorem zo {a:al}{xs:List (List κ×al)}{ks:List κ}{p:al}{Q:Bool->ar->Prop}(hu:A.units<cLine) (hS:iz knd s.heap a xs) (hk:GT knd s.heap ks p) (hx:∀x∈xs,GT knd s.heap x.1 x.2) (kn:xs.length<9)
  (h:∀h',DO a s.heap h'->iz knd h' a (vf xs ks p)->Q (decide (ks ∉ xs.map (·.1))) {s with heap:=h',toks:=s.toks+(ks.length+1)}):wpAny (model P w) A (setAdd a (.ref p)) Q E s :=by
 unfold setAdd;refine ul (ag (wpAny_pyHash_tuple hu hk ?_));obtain⟨o,es,ep,t,ho,hex,hd,hp,hn,g,hm,hl⟩:=hS;unfold setAddHashed setAddHashedIn;refine ul (ag (AT (s:={s with toks:=s.toks+(ks.length+1)}) ho hd g.fits ?_))
 dsimp only;have hb:byScan (.ref p) es=false:=rfl;rw[hb];simp only[db,if_false];have hlen:es.size=xs.length :=by rw[<- jp,hp.length_eq,br]
 have ha:BF knd s.heap es:=fun e he=>by
  obtain⟨x,vg,rfl⟩:=ff.mp (hp.mem_iff.mp he);exact⟨x.1,x.2,rfl,hx x vg⟩
 have has:zl knd s.heap es ks ↔ ks∈xs.map (·.1) :=by
  constructor
  ·rintro⟨e,he,b,eb,bY⟩;obtain⟨x,vg,rfl⟩:=ff.mp (hp.mem_iff.mp he);cases eb;exact ff.mpr ⟨x,vg,(hx x vg).inj bY⟩
  ·intro m;obtain⟨x,vg,rfl⟩:=ff.mp m;exact⟨_,hp.mem_iff.mpr (ff.mpr ⟨x,vg,rfl⟩),x.2,rfl,hx x vg⟩
 have qD:∃j,j<=t.mask/\¬ gm t j :=by
  refine IT fun n=>?_
  have all:∀j,j<=t.mask->gm t j:=fun j hj=>OF.mp fun z=>n ⟨j,hj,z⟩
  have:=ph (im (t.mask+1)) t.place.toList Vf fun j hj=>all j (by have:=lm.mp hj;omega)
  rw[wT,jp,g.sz]at this;have:=g.room;omega
 obtain⟨j0,JA,f0⟩:=qD;obtain⟨K,k1,k2,k3⟩:=Jx g.full (tupleKeyHash knd ks) JA f0;have Pl:K<10 * Mc t.mask :=by unfold Mc;omega
 unfold setSearch;refine ag (sM (s:={s with toks:=s.toks+(ks.length+1)}) hu ho hd g hk ha k2 k3 Pl (fun hh=>?_) (fun hh=>?_) 100000 0 none rfl (sB _) (by rcases hm with z|z<;>rw[z]at k1<;>omega) fun k i e z=>absurd z (Vo _))
 ·have yb:=has.mp hh;have:=h s.heap (DO.refl a s.heap) (by unfold vf;rw[if_pos yb];exact⟨o,es,ep,t,ho,hex,hd,hp,hn,g,hm,hl⟩)
  rw[decide_eq_false (fun z=>z yb)]at this
  exact ba this
 ·have yb:ks ∉ xs.map (·.1):=fun z=>hh (has.mpr z)
  have y0:vf xs ks p=xs++[(ks,p)] :=by unfold vf;rw[if_neg yb]
  have key:∀h',DO a s.heap h'->iz knd h' a (xs++[(ks,p)])->Q true {s with heap:=h',toks:=s.toks+(ks.length+1)}:=fun h' hV cR=>by
   have:=h h' hV (by rw[y0];exact cR)
   rw[decide_eq_true yb]at this;exact this
  have le:=Ju t.mask (tupleKeyHash knd ks) K;have QM:(es.size+1) * 5<=t.mask * 3+4 :=by omega
  have g1:=g.put (x:=.ref p) k2 k3 le (by rcases hm with z|z<;>rw[z]at QM ⊢<;>omega)
  generalize (bL t.mask (tupleKeyHash knd ks) K).j=j at g1 k2 le
  dsimp only;refine ag (AT (s:={s with toks:=s.toks+(ks.length+1)}) ho hd g.fits ?_)
  dsimp only;have zp:(xb es (t.put j).2 (tupleKeyHash knd ks,xw p)).toList.Perm ((xs++[(ks,p)]).map (ve knd)) :=by
   refine(nA es _ _).trans ?_;rw[mv];refine Lu.trans (Lu.cons _ hp) ?_;exact(List.perm_append_comm (l₁:=[ve knd (ks,p)]) (l₂:=xs.map (ve knd)))
  have NV:((xs++[(ks,p)]).map (·.1)).Nodup :=by
   rw[mv];exact U3.mpr ⟨hn,by simp,fun a ha b hb=>by rw[r6,Tn,lw]at hb;rw[hb];exact fun z=>yb (by rw[<- show a=ks from z];exact ha)⟩
  have yc:(xb es (t.put j).2 (tupleKeyHash knd ks,xw p)).size=es.size+1 :=by
   rw[<- jp,zp.length_eq,br,zw,S0,hlen]
  have tm:(t.put j).1.mask=t.mask:=rfl;generalize (t.put j).1=t1 at g1 tm ⊢
  generalize xb es (t.put j).2 (tupleKeyHash knd ks,xw p)=cE at g1 zp yc ⊢
  have fin:∀b:Bool,wpAny (model P w) A (do
    storeSet a cE (if b=true then t1 else {t1 with plain:=false})
    if (!false && (if b=true then t1 else {t1 with plain:=false}).tooFull)=true then setRelay a (ID (es.size+1))
    pure true) Q E {s with toks:=s.toks+(ks.length+1)}:=fun b=>by
   have g2:=g1.o9 b;have FE:(if b=true then t1 else {t1 with plain:=false}).mask=t.mask :=by split<;>exact tm
   generalize (if b=true then t1 else {t1 with plain:=false})=t2 at g2 FE ⊢
   have fl:t2.fill=es.size+1 :=by unfold li.fill;rw[g2.ok.dum,g2.sz,yc];rfl
   have big:(1000:Nat)<sizeLine :=by decide
   have NW:cE.size<=sizeLine :=by rw[yc];omega
   refine ag (TF ho hd ?_ NW);have tf:t2.tooFull=decide ((es.size+1) * 5 ≥ t.mask * 3) :=by unfold li.tooFull;rw[fl,FE]
   rw[tf];by_cases qD:(es.size+1) * 5 ≥ t.mask * 3
   ·rw[decide_eq_true qD];have e4:es.size=4/\t.mask=7 :=by rcases hm with z|z<;>rw[z]at qD hl ⊢<;>omega
    rw[e4.1];simp only[OP,Rs,if_true];have mE:=BI ho hd cE t2;unfold setRelay;refine ag (ag (AT mE rfl g2.fits ?_));dsimp only;have uI:ID (4+1)=20:=rfl;have NX:li.sizeAbove 20=32:=rfl;obtain⟨t3,order,l1,l2,l3,l4⟩:=GO Jv rfl (es:=cE) (by rw[yc];omega) t2.finger (t2.movedTo 31) g2.ok.led t2.plain
    have QN:t2.relaid (cE.map (·.1)) 20=some (t3,order) :=by
     unfold li.relaid;rw[NX];exact l1
    have JD:(order.filterMap (cE[·]?)).size=cE.size :=by rw[<- jp,l2.length_eq,jp]
    rw[uI,NX,if_neg (by omega),QN]
    refine ag ?_;show wpAny _ _ (if (order.filterMap (cE[·]?)).size != cE.size then unsupported "internal:set-table-lost-an-element" >>= fun _=>pure (order.filterMap (cE[·]?),t3) else pure (order.filterMap (cE[·]?),t3)) _ _ _
    rw[if_neg (by rw[JD];simp)]
    refine ba ?_;dsimp only;refine TF mE rfl ?_ (by rw[JD];exact NW)
    obtain⟨_,QO⟩:=qC (knd:=knd) (xs:=xs++[(ks,p)]) mE hex rfl (l2.trans zp) NV l3 (.inr l4) (by rw[JD,yc,l4];omega)
    exact ba (key _ ((EO s.heap a _).trans (EO _ a _)) QO)
   ·rw[decide_eq_false qD];simp only[UN,db,if_false];obtain⟨mE,mD⟩:=qC (knd:=knd) (xs:=xs++[(ks,p)]) ho hex hd zp NV g2 (by rw[FE];exact hm) (by rw[yc,FE];omega)
    exact ag (ba (ba (key _ (EO s.heap a _) mD)))
  split
  ·exact ag (rJ hk fun b=>fin b)
  ·exact ag (ba (fin true))
end
section
variable {P:i4}{w:i8}{A:ma}{E:ap->ar->Prop}{s:ar}
abbrev FG (xs:List ap):Nat->ap->Prop:=fun i v=>xs[i]?=some v
theorem GQ {xs:List ap}{acc:Array ap}(h:ItemsOf (FG xs) acc xs.length):acc.toList=xs :=by
 obtain⟨hs,hi⟩:=h;refine TL fun i=>?_
 have e2:acc.toList[i]?=acc[i]?:=by simp
 rw[e2];by_cases hl:i<xs.length
 ·have:=hi i acc[i] (sw (by omega))
  rw[sw (by omega)]
  exact this.symm
 ·rw[GE (by omega),IF (by omega)]
theorem Mg {I a:al}{es:Array (Int×ap)}{ep:Nat}{t:li}(hh:A.handled=none) (dm:a≠I) (hd:w.params.followText "set-order" = false->(!t.plain && decide (es.size > 1))=false) :
  Vw P w A I [I,a] [I] (fun a b=>b=a) ((cm w a ep es).map (·.2)).length (FG ((cm w a ep es).map (·.2)))
   (fun i s=>ie P w s.heap a es ep t/\∃slot:Nat,dv s.heap I a (.int slot 0) i es.size ep/\(w.params.followText "set-order" = false->l5 t.place slot=i)) where
 sub:=fun b hb=>by simp at hb;simp[hb]
 grefl:=fun _=>rfl
 gtrans:=fun _ _ _ h1 h2=>h2.trans h1
 frame:=fun i s h' _ st _ hk=>⟨st.1.bN fun o e=>hk a (by simp) o e,let ⟨slot,h1,h2⟩:=st.2;⟨slot,h1.bN fun o e=>hk I (by simp) o e,h2⟩⟩
 item:=fun i s Q E hi st hQ=>by
  obtain⟨hE,slot,hit,hb⟩:=st;have hl:i<(cm w a ep es).length :=by simpa using hi
  have m9:i<es.size :=by rw[<- jp,<- (eG w a ep es).length_eq];exact hl
  have dh:i<t.place.size :=by
   have:=hE.fits;simp only[li.fits,Ch,beq_iff_eq]at this;rw[this.1];exact m9
  refine xO (next:=if w.params.followText "set-order" = true then slot else t.place[i]+1) (x:=((cm w a ep es)[i]).2) hit hE hd (fun bY=>?_) (fun bY=>?_) (fun h' pf hs=>hQ _ _ (by show (List.map _ _)[i]?=_;rw[ij,ac hl];rfl) ⟨hE.bN fun o e=>by rw[hs.2 a dm];exact e,_,pf,fun bY=>?_⟩ ⟨fun b o hb e=>by rw[hs.2 b (fun z=>hb (by simp[z]))];exact e,rfl,rfl,rfl,bv _⟩)
  ·rw[if_pos bY];have e1:cm w a ep es=(pickOrder (w.params.setOrder a ep) es).toList :=by unfold cm;rw[if_pos bY]
   have e2:(pickOrder (w.params.setOrder a ep) es)[i]?=some (cm w a ep es)[i] :=by
    rw[<- EU,<- e1];exact ac hl
   rw[e2];rfl
  ·rw[if_neg (by rw[bY];decide),hb bY,sw m9,sw dh]
   have e1:cm w a ep es=es.toList :=by unfold cm;rw[if_neg (by rw[bY];decide)]
   have e2:(cm w a ep es)[i]=es[i] :=by simp[e1]
   rw[e2]
  ·rw[if_neg (by rw[bY];decide)]
   exact qj hE.tab.ris dh
 done:=fun s Q E st hQ=>by
  obtain⟨hE,slot,hit,hb⟩:=st;have hl:((cm w a ep es).map (·.2)).length=es.size :=by rw[br,(eG w a ep es).length_eq,jp]
  rw[hl]at hit hb;refine xP hh hit hE hd (fun bY=>?_) (fun bY=>?_) (fun h' k=>hQ _ ⟨fun b o hb e=>k b o (fun z=>hb (by simp[z])) e,rfl,rfl,rfl,bv _⟩)
  ·have e1:(pickOrder (w.params.setOrder a ep) es)[es.size]?=none :=by
    refine GE ?_;rw[<- jp,(ng _ es).length_eq,jp];exact bv _
   rw[e1];rfl
  ·rw[hb bY,GE (bv _)]
 self:=fun i s Q E st hQ=>let ⟨_,slot,hit,_⟩:=st;si_self hit hQ
theorem JE {I a T:al}{es:Array (Int×ap)}{ep:Nat}{t:li}{ps:List Nat}(hh:A.handled=none) (dm:a≠I) (D3:T≠I) (nh:∀j∈ps,j<es.size) (dh:ps.length=es.size) :
  Vw P w A I [I,a,T] [I] (fun a b=>b=a) (ps.map fun j=>(es.getD j (0,.none)).2).length (FG (ps.map fun j=>(es.getD j (0,.none)).2))
   (fun i s=>ie P w s.heap a es ep t/\s.heap.IsTuple T (ps.map fun (i:Nat)=>rawInt i).toArray/\dv s.heap I a (.ref T) i es.size ep) where
 sub:=fun b hb=>by simp at hb;simp[hb]
 grefl:=fun _=>rfl
 gtrans:=fun _ _ _ h1 h2=>h2.trans h1
 frame:=fun i s h' _ st _ hk=>⟨st.1.bN fun o e=>hk a (by simp) o e,st.2.1.at fun o e=>hk T (by simp) o e,st.2.2.bN fun o e=>hk I (by simp) o e⟩
 item:=fun i s Q E hi st hQ=>by
  obtain⟨hE,hT,hit⟩:=st;have hl:i<ps.length :=by simpa using hi
  have hj:=nh _ (wn hl);have hx:es[ps[i]]?=some es[ps[i]]:=sw hj;have hg:es.getD ps[i] (0,.none)=es[ps[i]] :=by simp[FM,hj]
  refine xQ hit hE hT (ac hl) hx fun h' pf hs=>hQ _ _ (by show (List.map _ _)[i]?=_;rw[ij,ac hl,Cf,hg]) ⟨hE.bN fun o e=>by rw[hs.2 a dm];exact e,hT.at fun o e=>by rw[hs.2 T D3];exact e,pf⟩ ⟨fun b o hb e=>by rw[hs.2 b (fun z=>hb (by simp[z]))];exact e,rfl,rfl,rfl,bv _⟩
 done:=fun s Q E st hQ=>by
  obtain⟨hE,hT,hit⟩:=st;have hl:(ps.map fun j=>(es.getD j (0,.none)).2).length=ps.length:=br _
  rw[hl]at hit;exact xR hh hit hE hT (bv _) fun h' k=>hQ _ ⟨fun b o hb e=>k b o (fun z=>hb (by simp[z])) e,rfl,rfl,rfl,bv _⟩
 self:=fun i s Q E st hQ=>si_self st.2.2 hQ
theorem wI {a:al}{o:lp}{es:Array (Int×ap)}{ep:Nat}{t:li}{Q:ap->ar->Prop}(ho:s.heap.get? a=some o) (hex:o.ExactSet) (hd:o.data=.set es ep t) (hb:es.size<scanBound) (hf:t.fits es.size=true) (ht:bq w t)
  (hQ:∀(I:al) (h':kt) (d':Drawn) (xs:List ap) (fp:List al) (St:Nat->ar->Prop),xs.Perm (es.toList.map (·.2))->(∀b o,s.heap.get? b=some o->h'.get? b=some o)->s.heap.objs.size<=I->(∀b∈fp,b=a\/s.heap.objs.size<=b)->
   (∀A':ma,A'.handled=none->Vw P w A' I fp [I] (fun a b=>b=a) xs.length (FG xs) St)->St 0 {s with heap:=h',drawn:=d'}->Q (.ref I) {s with heap:=h',drawn:=d'}):wpAny (model P w) A (pyIter (.ref a)) Q E s :=by
 have Bo:s.TypeIs (.ref a) "set" := ⟨o,ho,hex.1⟩
 have hE:ie P w s.heap a es ep t:=⟨⟨o,ho,hex,hd⟩,hf,ht⟩;have aD:=ii ho;refine U4 Bo UA (zd UA Bo oJ ?_ (F.args_set_iter_1 _));unfold ut.«frozenset.__iter__»;refine ag (m:=ut.Frozenset.slot0 "__iter__" _) (ba ?_)
 unfold ut.Frozenset.sizeOf;refine ag (ag (LH ho hd hf (ba ?_)));refine ag ?_;unfold setDrawn;refine ag (AT ho hd hf ?_);dsimp only;refine ag (kr ?_);refine ba ?_;by_cases k7:(!w.params.followText "set-order" && (!t.plain && decide (es.size > 1)))=true
 ·show wpAny _ _ (if (!w.params.followText "set-order" && (!t.plain && decide (es.size > 1)))=true then _ else _) _ _ s
  rw[if_pos k7];refine ag (jP _ _ (by simp) fun ps d nh=>?_)
  have dh:ps.length=es.size :=by rw[nh.length_eq,wT]
  refine ag (wpAny_newTuple ?_ (by rw[br,dh];exact TH hb))
  refine ag (TK (o:=o) (bi _ ho) hd hf ?_);unfold newFields;refine ag (AS ?_ (by size_fits))
  have hsz:∀u:lp,(s.heap.push u).objs.size=s.heap.objs.size+1:=fun u=>B0 _ _
  have hit:dv ((s.heap.push {cls:=.type "tuple",data:=.seq (ps.map fun (i:Nat)=>rawInt i).toArray}).push {cls:=.type "set_iterator",data:=.fields #[.ref s.heap.objs.size,.int (0:Nat) 0,.ref a,.int es.size 0,.int ep 0]}) (s.heap.push {cls:=.type "tuple",data:=.seq (ps.map fun (i:Nat)=>rawInt i).toArray}).objs.size a (.ref s.heap.objs.size) 0 es.size ep:=⟨_,io _ rfl,rfl,rfl⟩
  have Ji:(ps.map fun j=>(es.getD j (0,.none)).2).Perm (es.toList.map (·.2)) :=by
   refine(nh.map _).trans ?_;have:(im es.size).map (fun j=>(es.getD j (0,.none)).2)=es.toList.map (·.2) :=by
    refine T8 (by simp) fun n h1 h2=>?_
    have ua:n<es.size :=by simpa using h1
    simp[FM,ua]
   rw[this]
  refine ba ⟨_,rfl,"set_iterator",_,dv.typeIs (s:={s with heap:=_,drawn:=d}) hit,bR.lookup,?_⟩
  refine hQ _ _ d _ [(s.heap.push {cls:=.type "tuple",data:=.seq (ps.map fun (i:Nat)=>rawInt i).toArray}).objs.size,a,s.heap.objs.size] _ Ji (fun b o e=>bi _ (bi _ e)) (by rw[hsz];exact AN _) (fun b hb=>?_) (fun A' hA=>JE (t:=t) (ep:=ep) hA ?_ ?_  (fun j hj=>by simpa using nh.mem_iff.mp hj) dh) ⟨hE.bN fun o e=>bi _ (bi _ e),⟨_,bi _ (io _ rfl),rfl,_,rfl⟩,hit⟩
  ·simp only[l7,Fa,or_false]at hb;rcases hb with rfl|rfl|rfl
   ·exact .inr (by rw[hsz];exact AN _)
   ·exact .inl rfl
   ·exact .inr (bv _)
  ·rw[hsz];exact lf (wS aD)
  ·rw[hsz];exact lf (AL _)
 ·show wpAny _ _ (if (!w.params.followText "set-order" && (!t.plain && decide (es.size > 1)))=true then _ else _) _ _ s
  rw[if_neg k7];refine ag (ba (ag (TK ho hd hf ?_)));unfold newFields;refine ag (AS ?_ (by size_fits))
  have hit:dv (s.heap.push {cls:=.type "set_iterator",data:=.fields #[.int (0:Nat) 0,.int (0:Nat) 0,.ref a,.int es.size 0,.int ep 0]}) s.heap.objs.size a (.int (0:Nat) 0) 0 es.size ep:=⟨_,io _ rfl,rfl,rfl⟩
  refine ba ⟨_,rfl,"set_iterator",_,dv.typeIs (s:={s with heap:=_}) hit,bR.lookup,?_⟩
  refine hQ _ _ s.drawn _ [s.heap.objs.size,a] _ ((eG w a ep es).map (·.2)) (fun b o e=>bi _ e) (bv _) (fun b hb=>?_) (fun A' hA=>Mg (t:=t) (ep:=ep) hA (lf aD)  fun hb=>?_) ⟨hE.bN fun o e=>bi _ e,0,hit,fun _=>qk ht.ris⟩
  ·simp only[l7,Fa,or_false]at hb;rcases hb with rfl|rfl
   ·exact .inr (bv _)
   ·exact .inl rfl
  ·rw[hb]at k7;simpa using k7
theorem vh {a:al}{o:lp}{es:Array (Int×ap)}{ep:Nat}{t:li}{QL:List ap->ar->Prop}(hh:A.handled=none) (ho:s.heap.get? a=some o) (hex:o.ExactSet) (hd:o.data=.set es ep t) (hb:es.size<scanBound) (hf:t.fits es.size=true) (ht:bq w t) (hz:es.size<=sizeLine)
  (hQ:∀us h' d' tk,us.Perm (es.toList.map (·.2))->(∀b o,s.heap.get? b=some o->h'.get? b=some o)->QL us {s with heap:=h',drawn:=d',toks:=tk}):wpAny (model P w) A (collect (.ref a)) QL E s :=by
 have aD:a<s.heap.objs.size:=ii ho;have Bp:s.heap.objs.size≠a:=Tj aD;unfold collect;refine ag (UL (ww Uj ?_));rw[ss Uk _];show wpAny _ A.in1 (newList []>>=fun l=>again (.builtin "list.__iadd__" ⟨[l,.ref a],[]⟩)) _ _ s
 refine ag (AS ?_);refine ba ⟨wl OE _,ww U5 ?_⟩;rw[ss OE _];have qf:(s.heap.push {cls:=.type "list",data:=.seq ([]:List ap).toArray}).get? a=some o:=bi _ ho
 have T1:S8 {s with heap:=s.heap.push {cls:=.type "list",data:=.seq ([]:List ap).toArray}} (.ref a) "set" := ⟨o,qf,hex.1⟩
 show wpAny _ A.in1 (Do (.ref s.heap.objs.size) (.ref a) (.ref s.heap.objs.size)) _ _ _;unfold Do;refine ag (UB T1 ?_);have h1:Pi (.ref s.heap.objs.size) (.ref a)=false :=by simp[Pi,Bp]
 have h2:(DD "set" == DD "list")=false :=by decide
 have h3:(DD "set" == DD "tuple")=false :=by decide
 simp only[h1,h2,h3,Bool.or_false,db,if_false];refine ag (wI (s:={s with heap:=s.heap.push {cls:=.type "list",data:=.seq ([]:List ap).toArray}}) qf hex hd hb hf ht ?_)
 intro I h' d' xs fp St hp hk hI Jj hW ib;have T2:S8 {s with heap:=h',drawn:=d'} (.ref a) "set" := ⟨o,hk a o qf,hex.1⟩
 refine ag (ul (oO T2 ?_));show wpAny _ A.in1 (if _=true then _ else _) _ _ _
 rw[if_pos (by kernel_rfl)]
 show wpAny _ A.in1 (rule "list.extend.makes-room" >>= fun _=>ut.List.listTouch (.ref s.heap.objs.size)>>=fun _=>
  again (.builtin "list.extend.loop" ⟨[.ref s.heap.objs.size,.ref I,.ref s.heap.objs.size],[]⟩)) _ _ _
 refine ag (GS ?_);have ql:h'.get? s.heap.objs.size=some {cls:=.type "list",data:=.seq ([]:List ap).toArray}:=hk _ _ (io _ rfl)
 refine ag ?_;show wpAny _ A.in1 (updateSeq s.heap.objs.size (·.push .none)>>=fun _=>updateSeq s.heap.objs.size (·.pop)) _ _ _
 refine ag (ET ql rfl ?_);have qm:=sK (ze (·.push v6)) ql rfl;refine ET qm rfl ?_;have y7:=sK (ze (·.pop)) qm rfl;have oth:∀b o,b≠s.heap.objs.size->h'.get? b=some o->((h'.update s.heap.objs.size (ze (·.push v6))).update s.heap.objs.size (ze (·.pop))).get? b=some o:=
  fun b o hb e=>(mT _ _ (Co hb)).trans ((mT _ _ (Co hb)).trans e)
 have uT:(s.heap.push {cls:=.type "list",data:=.seq ([]:List ap).toArray}).objs.size=s.heap.objs.size+1:=B0 _ _
 have ia:s.heap.objs.size ∉ fp:=fun hm=>by
  rcases Jj _ hm with z|z
  ·exact Bp z
  ·have z':s.heap.objs.size+1<=s.heap.objs.size :=by rw[<- uT];exact z
   exact absurd z' (Nat.not_succ_le_self _)
 have W:=hW A.in1.in1 (by simp[hh])
 have hl:xs.length<=sizeLine :=by rw[hp.length_eq,br,jp];exact hz
 refine ba ⟨wl F.plain_extend_loop _,codeAny_extend_loopS (W.of_in1) hl _ ia _ xs.length 0 _ _ _ rfl (sB _) (W.frame 0 ({s with heap:=h',drawn:=d'}:ar) _ s.toks ib (bv _) fun b hb o e=>oth b o (fun h=>ia (h▸hb)) e) y7 (ItemsOf.nil _) fun s' eF c' hm cR y8=>?_⟩
 show wpAny _ A (load s.heap.objs.size>>=_) _ _ s';refine ag (Vy cR ?_);refine ba ?_;obtain⟨h2,g2,d2,Jk,os2⟩:=s';have eg:g2=s.gens:=hm.gens;have ed:d2=d':=hm.drawn;have eo:os2=s.os:=hm.os;subst eg;subst ed;subst eo;refine hQ _ h2 _ Jk (by rw[GQ y8];exact hp) fun b o e=>hm.heap b o ?_ (oth b o (lf (ii e)) (hk b o (bi _ e)))
 have hb:b<s.heap.objs.size:=ii e;simp only[l7,Fa,or_false,not_or];refine⟨lf hb,fun z=>?_⟩
 have z':s.heap.objs.size+1<=b :=by rw[<- uT,z];exact hI
 exact absurd (on (wS hb) z') (Fk _)
end
inductive Dv where
 |int (i:Int)|bl (b:Bool)|ao|str (z:cb)|tup (xs:List Dv)|lst (xs:List Dv)|set (ns:List Int)|ptr (a:al)|exc (C:al)|bC (ns:List Int)|raw (v:V)|dk (ks:List Key) (ds:List Dv)|dt (ks:List (List Key)) (ds:List Dv)|di (f:al) (o:lp) (c:al) (oc:lp) (vs:List V) (ds:List Dv)
inductive Mo where
 |lst (xs:List Dv)|cJ|dk (ks:List Key) (ds:List Dv)|dt (ks:List (List Key)) (ds:List Dv)|ts (ks:List (List Int)) (ds:List Dv)
abbrev Mh:=al->Option Mo
structure dy where
 g:List al
 l:List (al×cb)
instance:Membership al dy:=⟨fun t a=>a∈t.g⟩
def FH:HO->Bool
 | .cQ _=>true
 | .lam _=>true
 | .dK _=>true
 | .dT _=>true
 |_=>false
def BJ:HO->Bool
 | .cQ _=>false
 |_=>true
def Ed:HO->Bool
 | .dK _=>true
 | .dT _=>true
 |_=>false
theorem Rd.map {H H':Hp}{a:al}{u:HO}(e:Rd H a u) (k:∀x,H a=some x->H' a=some x):Rd H' a u:=e.imp (k _) fun⟨o,h⟩=>⟨o,k _ h⟩
theorem Rd.JF {H H':Hp}{a:al}{u:HO}(e:Rd H a u) (hu:Ed u=true) (k:∀x,BJ x=true->H a=some x->H' a=some x):Rd H' a u:=e.imp (k _ (by cases u<;>first|rfl|cases hu)) fun⟨o,h⟩=>⟨o,k _ rfl h⟩
theorem Rd.there {H:Hp}{a:al}{u:HO}(e:Rd H a u):∃x,H a=some x:=e.elim (fun h=>⟨_,h⟩) fun⟨o,h⟩=>⟨_,h⟩
def Tg (o o':HO):Prop:=(∃ps k4:Array ap,o=.cQ ps/\o'=.cQ k4/\To k4.toList)\/(∃ps k4:Array ap,o=.lam ps/\o'=.lam k4)\/(Ed o=true/\∃ob,o'=.f9 ob o)
theorem Tg.trans {a b c:HO}(x:Tg a b) (y:Tg b c):Tg a c :=by
 rcases x with ⟨p,q,rfl,rfl,t⟩|⟨p,q,rfl,rfl⟩|⟨hd,ob,rfl⟩
 ·rcases y with ⟨p2,q2,e,rfl,t2⟩|⟨p2,q2,e,_⟩|⟨e,_⟩
  ·exact .inl ⟨p,q2,rfl,rfl,t2⟩
  ·cases e
  ·cases e
 ·rcases y with ⟨p2,q2,e,_⟩|⟨p2,q2,e,rfl⟩|⟨e,_⟩
  ·cases e
  ·exact .inr (.inl ⟨p,q2,rfl,rfl⟩)
  ·cases e
 ·rcases y with ⟨p2,q2,e,_⟩|⟨p2,q2,e,_⟩|⟨e,_⟩<;>cases e
theorem Tg.tab {a b:HO}(x:Tg a b):FH a=true :=by
 rcases x with ⟨p,q,rfl,rfl,_⟩|⟨p,q,rfl,rfl⟩|⟨hd,ob,rfl⟩
 ·rfl
 ·rfl
 ·cases a<;>first|rfl|cases hd
def Pn (H:Hp) (q:cb) (cv:ap):Prop:=∃(c:al) (oc:lp) (u:HO) (vs:Array ap) (t:Vl),cv=xw c/\H c=some (.f9 oc u)/\oc.data=.fields vs/\vs[1]?=some (VD q t)
def Lm (H:Hp) (p:al×cb):Prop:=∃ps:Array ap,H p.1=some (.lam ps)/\To ps.toList/\∀pos cv,codeAmong pos ps.toList=some cv->Pn H p.2 cv
theorem Lm.keep {H H':Hp}{p:al×cb}(h:Lm H p) (k1:∀ps,H p.1=some (.lam ps)->H' p.1=some (.lam ps)) (k2:∀c oc u,H c=some (.f9 oc u)->H' c=some (.f9 oc u)):Lm H' p :=by
 obtain⟨ps,e,t,c⟩:=h;refine⟨ps,k1 _ e,t,fun pos cv q=>?_⟩
 obtain⟨a,oc,u,vs,tk,e1,e2,r⟩:=c pos cv q;exact⟨a,oc,u,vs,tk,e1,k2 _ _ _ e2,r⟩
structure Bz where
 P:i4
 w:i8
 K:bn
 tb:dy
 hid:List al
def Fz (β:Bz) (M:Mh) (a:al):Prop:=M a=none/\a ∉ β.hid
def Kl (K:bn) (a:al) (ns:List Int):Prop:=∃(o:lp) (its:Array ap) (n:Nat),K.lookup a=some o/\o.cls=.type "list" /\ o.dict=none/\o.data=.seq its n/\its.size<=sizeLine/\Vals (ns.map V.int) its.toList
inductive Rz (β:Bz) (M:Mh) (H:Hp):V->Dv->Prop where
 |int (i:Int):Rz β M H (.int i) (.int i)
 |bl (b:Bool):Rz β M H (.bl b) (.bl b)
 |ao:Rz β M H .ao .ao
 |str (z:cb):Rz β M H (.str z) (.str z)
 |tup {a:al} {vs:List V} {ds:List Dv} (m:Fz β M a) (e:H a=some (.tup vs)) (hl:vs.length=ds.length) (h:∀(i:Nat) (v:V) (d:Dv),vs[i]?=some v->ds[i]?=some d->Rz β M H v d):Rz β M H (.ref a) (.tup ds)
 |lst {a:al} {vs:List V} {ds:List Dv} (m:Fz β M a) (e:H a=some (.lst vs)) (hl:vs.length=ds.length) (h:∀(i:Nat) (v:V) (d:Dv),vs[i]?=some v->ds[i]?=some d->Rz β M H v d):Rz β M H (.ref a) (.lst ds)
 |set {a:al} {ns:List Int} (m:Fz β M a) (e:H a=some (fE β.P β.w a ns)):Rz β M H (.ref a) (.set ns)
 |ptr {a:al} (m:(M a).isSome=true):Rz β M H (.ref a) (.ptr a)
 |exc {a C:al} (m:Fz β M a) (e:H a=some (Pk C a)):Rz β M H (.ref a) (.exc C)
 |bC {a:al} {o:lp} {ns:List Int} (m:Fz β M a) (e:H a=some (.f9 o (.lst (ns.map V.int)))):Rz β M H (.ref a) (.bC ns)
 |cG {a:al} {ns:List Int} (m:Fz β M a) (e:H a=some (.lst (ns.map V.int))):Rz β M H (.ref a) (.bC ns)
 |cH {a:al} {ns:List Int} (e:Kl β.K a ns):Rz β M H (.ref a) (.bC ns)
 |raw (v:V):Rz β M H v (.raw v)
 |dk {a:al} {ks:List Key} {vs:List V} {ds:List Dv} (m:Fz β M a) (e:Rd H a (.dK (ks.zip vs))) (hk:ks.length=vs.length) (hl:vs.length=ds.length) (h:∀(i:Nat) (v:V) (d:Dv),vs[i]?=some v->ds[i]?=some d->Rz β M H v d):Rz β M H (.ref a) (.dk ks ds)
 |dt {a:al} {ks:List (List Key)} {vs:List V} {ds:List Dv} (m:Fz β M a) (e:Rd H a (.dT (ks.zip vs))) (hk:ks.length=vs.length) (hl:vs.length=ds.length) (h:∀(i:Nat) (v:V) (d:Dv),vs[i]?=some v->ds[i]?=some d->Rz β M H v d):Rz β M H (.ref a) (.dt ks ds)
 |di {f c:al} {o oc:lp} {u uc:HO} {vs:List V} {ds:List Dv} (m:Fz β M f) (e:H f=some (.f9 o u)) (m2:Fz β M c) (e2:H c=some (.f9 oc uc)) (hl:vs.length=ds.length) (h:∀(i:Nat) (v:V) (d:Dv),vs[i]?=some v->ds[i]?=some d->Rz β M H v d):Rz β M H (.ref f) (.di f o c oc vs ds)
structure aM (β:Bz) (M:Mh) (H:Hp) (vs:List V) (ds:List Dv):Prop where
 len:vs.length=ds.length
 at':∀(i:Nat) (v:V) (d:Dv),vs[i]?=some v->ds[i]?=some d->Rz β M H v d
def jS:V->al
 | .ref a=>a
 |_=>0
def iZ (P:i4) (w:i8) (a:al) (aK:List (List Int×V)):HO:=.ext fun h=>iz (intKind P w) h a (aK.map fun x=>(x.1,jS x.2))
def i5 (β:Bz) (M:Mh) (H:Hp) (a:al):Mo->Prop
 | .lst ds=>∃vs,H a=some (.lst vs)/\aM β M H vs ds
 | .cJ=>L8 H a
 | .dk ks ds=>∃vs,H a=some (.dK (ks.zip vs))/\ks.length=vs.length/\aM β M H vs ds
 | .dt ks ds=>∃vs,H a=some (.dT (ks.zip vs))/\ks.length=vs.length/\aM β M H vs ds
 | .ts ks ds=>∃vs,H a=some (iZ β.P β.w a (ks.zip vs))/\ks.length=vs.length/\aM β M H vs ds
def nF:HO->Bool
 | .lst _=>true
 | .set _ _=>true
 | .dK _=>true
 | .dT _=>true
 | .ext _=>true
 | .cQ _=>true
 |_=>false
def zq (H:Hp) (a:al):Prop:=∃o,H a=some o/\nF o=true
theorem zq.upd {H:Hp}{a p:al}{o:HO}(h:zq H a) (d:H p=none\/nF o=true):zq (upd H p o) a :=by
 obtain⟨u,e,n⟩:=h;by_cases z:a=p
 ·subst z;rcases d with d|d
  ·rw[e]at d;cases d
  ·exact⟨o,aL,d⟩
 ·exact⟨u,by rw[aq z];exact e,n⟩
structure Mz (β:Bz) (M:Mh) (H:Hp):Prop where
 obj:∀a o,M a=some o->i5 β M H a o
 tabs:FA β.tb.g H
 hids:∀a∈β.hid,zq H a
 apart:∀a o,M a=some o->a ∉ β.hid
 lams:∀p∈β.tb.l,Lm H p
structure Ey (M:Mh) (H:Hp) (M':Mh) (H':Hp):Prop where
 keep:∀b o,M b=none->H b=some o->H' b=some o\/∃o',Tg o o'/\H' b=some o'
 dom:∀a,(M a).isSome=true->(M' a).isSome=true
 new:∀a o,M a=none->H a=some o->M' a=none
structure Ex (β:Bz) (M:Mh) (H:Hp) (M':Mh) (H':Hp):Prop extends Ey M H M' H' where
 mz:Mz β M' H'
section
variable {β:Bz}{M M1 M2:Mh}{H H1 H2:Hp}
theorem Ey.refl:Ey M H M H:=⟨fun _ _ _ h=>.inl h,fun _ h=>h,fun _ _ h _=>h⟩
theorem Ex.refl (m:Mz β M H):Ex β M H M H:=⟨.refl,m⟩
theorem Ey.trans (x:Ey M H M1 H1) (y:Ey M1 H1 M2 H2):Ey M H M2 H2 :=by
 refine⟨fun b o hm h=>?_,fun a h=>y.dom a (x.dom a h),fun a o hm h=>?_⟩
 ·have ji:=x.new b o hm h;rcases x.keep b o hm h with q|⟨o1,t,q⟩
  ·exact y.keep b o ji q
  ·rcases y.keep b _ ji q with q2|⟨o2,t2,q2⟩
   ·exact .inr ⟨o1,t,q2⟩
   ·exact .inr ⟨o2,t.trans t2,q2⟩
 ·have ji:=x.new a o hm h;rcases x.keep a o hm h with q|⟨o1,t,q⟩
  ·exact y.new a _ ji q
  ·exact y.new a _ ji q
theorem Ex.trans (x:Ex β M H M1 H1) (y:Ex β M1 H1 M2 H2):Ex β M H M2 H2:=⟨x.toEy.trans y.toEy,y.mz⟩
theorem Ey.get (x:Ey M H M1 H1) {b:al}{o:HO}(m:M b=none) (h:H b=some o) (n:FH o=false):H1 b=some o :=by
 rcases x.keep b o m h with q|⟨o',e,_⟩
 ·exact q
 ·rw[e.tab]at n;cases n
theorem Ey.rd (x:Ey M H M1 H1) {b:al}{u:HO}(m:M b=none) (h:Rd H b u) (hu:Ed u=true):Rd H1 b u :=by
 rcases h with h|⟨o,h⟩
 ·rcases x.keep b u m h with q|⟨o',t,q⟩
  ·exact .inl q
  ·rcases t with ⟨_,_,rfl,_⟩|⟨_,_,rfl,_⟩|⟨_,ob,rfl⟩
   ·cases hu
   ·cases hu
   ·exact .inr ⟨ob,q⟩
 ·exact .inr ⟨o,x.get m h rfl⟩
theorem Ey.gone (x:Ey M H M1 H1) {b:al}(h:H1 b=none):M b=none->H b=none:=fun m=>by
 cases e:H b with
 |none=>rfl
 |some o=>
  rcases x.keep b o m e with q|⟨_,_,q⟩<;>(rw[h]at q;cases q)
theorem Rz.ey (x:Ey M H M1 H1) {v:V}{d:Dv}(h:Rz β M H v d):Rz β M1 H1 v d :=by
 induction h with
 |int i=>exact .int i
 |bl b=>exact .bl b
 |ao=>exact .ao
 |str z=>exact .str z
 |tup m e hl h ih=>exact .tup ⟨x.new _ _ m.1 e,m.2⟩ (x.get m.1 e rfl) hl ih
 |lst m e hl h ih=>exact .lst ⟨x.new _ _ m.1 e,m.2⟩ (x.get m.1 e rfl) hl ih
 |dk m e hk hl h ih=>exact .dk ⟨x.new _ _ m.1 e.there.choose_spec,m.2⟩ (x.rd m.1 e rfl) hk hl ih
 |dt m e hk hl h ih=>exact .dt ⟨x.new _ _ m.1 e.there.choose_spec,m.2⟩ (x.rd m.1 e rfl) hk hl ih
 |di m e m2 e2 hl h ih=>exact .di ⟨x.new _ _ m.1 e,m.2⟩ (x.get m.1 e rfl) ⟨x.new _ _ m2.1 e2,m2.2⟩ (x.get m2.1 e2 rfl) hl ih
 |set m e=>exact .set ⟨x.new _ _ m.1 e,m.2⟩ (x.get m.1 e rfl)
 |ptr m=>exact .ptr (x.dom _ m)
 |exc m e=>exact .exc ⟨x.new _ _ m.1 e,m.2⟩ (x.get m.1 e rfl)
 |bC m e=>exact .bC ⟨x.new _ _ m.1 e,m.2⟩ (x.get m.1 e rfl)
 |cG m e=>exact .cG ⟨x.new _ _ m.1 e,m.2⟩ (x.get m.1 e rfl)
 |cH e=>exact .cH e
 |raw v=>exact .raw v
theorem Rz.ex (x:Ex β M H M1 H1) {v:V}{d:Dv}(h:Rz β M H v d):Rz β M1 H1 v d:=h.ey x.toEy
theorem aM.ex (x:Ex β M H M1 H1) {vs:List V}{ds:List Dv}(h:aM β M H vs ds):aM β M1 H1 vs ds:=⟨h.len,fun i v d a b=>(h.at' i v d a b).ex x⟩
theorem aM.nil:aM β M H [] []:=⟨rfl,fun i v d h=>by simp at h⟩
theorem aM.cons {v:V}{d:Dv}{vs:List V}{ds:List Dv}(h:Rz β M H v d) (t:aM β M H vs ds):aM β M H (v::vs) (d::ds):=⟨by simp[t.len],fun i x y a b=>by
 cases i with
 |zero=>simp at a b;subst a b;exact h
 |succ i=>rw[BN]at a b;exact t.at' i x y a b⟩
theorem aM.head {v:V}{d:Dv}{vs:List V}{ds:List Dv}(h:aM β M H (v::vs) (d::ds)):Rz β M H v d:=h.at' 0 v d rfl rfl
theorem aM.tail {v:V}{d:Dv}{vs:List V}{ds:List Dv}(h:aM β M H (v::vs) (d::ds)):aM β M H vs ds:=⟨by simpa using h.len,fun i x y a b=>h.at' (i+1) x y (by rw[BN];exact a) (by rw[BN];exact b)⟩
theorem aM.append {vs BK:List V}{ds gW:List Dv}(h:aM β M H vs ds) (t:aM β M H BK gW):aM β M H (vs++BK) (ds++gW):=⟨by simp[h.len,t.len],fun i x y a b=>by
 rw[UD]at a b;rw[h.len]at a;split at b
 ·rename_i z;rw[if_pos z]at a;exact h.at' i x y a b
 ·rename_i z;rw[if_neg z]at a;exact t.at' _ x y a b⟩
theorem aM.snoc {v:V}{d:Dv}{vs:List V}{ds:List Dv}(t:aM β M H vs ds) (h:Rz β M H v d):aM β M H (vs++[v]) (ds++[d]):=t.append (.cons h .nil)
theorem aM.get {vs:List V}{ds:List Dv}(h:aM β M H vs ds) {i:Nat}{d:Dv}(e:ds[i]?=some d):∃v,vs[i]?=some v/\Rz β M H v d :=by
 have hi:=(cr.mp e).1;have cI:i<vs.length :=by rw[h.len];exact hi
 exact⟨vs[i],ac cI,h.at' i _ _ (ac cI) e⟩
theorem aM.get' {vs:List V}{ds:List Dv}(h:aM β M H vs ds) {i:Nat}{v:V}(e:vs[i]?=some v):∃d,ds[i]?=some d/\Rz β M H v d :=by
 have hi:=(cr.mp e).1;have cI:i<ds.length :=by rw[<- h.len];exact hi
 exact⟨ds[i],ac cI,h.at' i _ _ e (ac cI)⟩
theorem aM.take {vs:List V}{ds:List Dv}(h:aM β M H vs ds) (n:Nat):aM β M H (vs.take n) (ds.take n):=⟨by simp[h.len],fun i x y a b=>by
 rw[List.getElem?_take]at a b;split at a
 ·rename_i z;rw[if_pos z]at b;exact h.at' i x y a b
 ·cases a⟩
theorem aM.drop {vs:List V}{ds:List Dv}(h:aM β M H vs ds) (n:Nat):aM β M H (vs.drop n) (ds.drop n):=⟨by simp[h.len],fun i x y a b=>by
 rw[List.getElem?_drop]at a b;exact h.at' _ x y a b⟩
theorem aM.set {vs:List V}{ds:List Dv}(h:aM β M H vs ds) (n:Nat) {v:V}{d:Dv}(r:Rz β M H v d):aM β M H (vs.set n v) (ds.set n d):=⟨by simp[h.len],fun i x y a b=>by
 rw[U8]at a b;rw[h.len]at a;split at a
 ·rename_i z;rw[if_pos z]at b;split at a
  ·rename_i z2;rw[if_pos z2]at b;cases a;cases b;exact r
  ·cases a
 ·rename_i z;rw[if_neg z]at b;exact h.at' i x y a b⟩
theorem vk {a:al}{vs:List V}{ds:List Dv}(m:Fz β M a) (e:H a=some (.tup vs)) (h:aM β M H vs ds):Rz β M H (.ref a) (.tup ds):=.tup m e h.len h.at'
theorem nG {a:al}{vs:List V}{ds:List Dv}(m:Fz β M a) (e:H a=some (.lst vs)) (h:aM β M H vs ds):Rz β M H (.ref a) (.lst ds):=.lst m e h.len h.at'
theorem dO {v:V}{ds:List Dv}(h:Rz β M H v (.tup ds)):∃a vs,v=.ref a/\Fz β M a/\H a=some (.tup vs)/\aM β M H vs ds :=by
 cases h with
 |tup m e hl h=>exact⟨_,_,rfl,m,e,hl,h⟩
theorem gX {v:V}{ds:List Dv}(h:Rz β M H v (.lst ds)):∃a vs,v=.ref a/\Fz β M a/\H a=some (.lst vs)/\aM β M H vs ds :=by
 cases h with
 |lst m e hl h=>exact⟨_,_,rfl,m,e,hl,h⟩
theorem aH {v:V}{i:Int}(h:Rz β M H v (.int i)):v=.int i :=by cases h;rfl
theorem de {v:V}{b:Bool}(h:Rz β M H v (.bl b)):v=.bl b :=by cases h;rfl
theorem cB {v:V}{z:cb}(h:Rz β M H v (.str z)):v=.str z :=by cases h;rfl
theorem i6 {v:V}(h:Rz β M H v .ao):v=.ao :=by cases h;rfl
theorem BL {v u:V}(h:Rz β M H v (.raw u)):v=u :=by cases h;rfl
theorem cS {v:V}{a:al}(h:Rz β M H v (.ptr a)):v=.ref a/\(M a).isSome=true :=by cases h with|ptr m=>exact⟨rfl,m⟩
theorem BM {v:V}{ns:List Int}(h:Rz β M H v (.set ns)):∃a,v=.ref a/\Fz β M a/\H a=some (fE β.P β.w a ns) :=by cases h with|set m e=>exact⟨_,rfl,m,e⟩
theorem sN {v:V}{ns:List Int}(h:Rz β M H v (.bC ns)):∃a,v=.ref a/\bU β.K H a (ns.map V.int) :=by
 cases h with
 |bC m e=>exact⟨_,rfl,.inl (.inr ⟨_,e⟩)⟩
 |cG m e=>exact⟨_,rfl,.inl (.inl e)⟩
 |cH e=>exact⟨_,rfl,.inr e⟩
def zt:HO->Bool
 | .lst _=>true
 | .dK _=>true
 | .dT _=>true
 | .ext _=>true
 |_=>false
theorem Mz.own (m:Mz β M H) {a:al}{o:Mo}(e:M a=some o):∃u,H a=some u/\zt u=true :=by
 have q:=m.obj a o e;cases o with
 |lst ds=>obtain⟨vs,q,_⟩:=q;exact⟨_,q,rfl⟩
 |dk ks ds=>obtain⟨vs,q,_⟩:=q;exact⟨_,q,rfl⟩
 |dt ks ds=>obtain⟨vs,q,_⟩:=q;exact⟨_,q,rfl⟩
 |ts ks ds=>obtain⟨vs,q,_⟩:=q;exact⟨_,q,rfl⟩
 |cJ=>obtain⟨_,_,q,_⟩:=q;exact⟨_,q,rfl⟩
theorem Mz.qE (m:Mz β M H) {a:al}{u:HO}(h:H a=some u) (n:zt u=false):M a=none :=by
 cases e:M a with
 |none=>rfl
 |some o=>obtain⟨u',q,w⟩:=m.own e;rw[h]at q;cases q;rw[n]at w;cases w
theorem Mz.Mi (m:Mz β M H) {p:al}(hp:p∈β.tb):M p=none:=let ⟨_,h,_⟩:=m.tabs p hp;m.qE h rfl
theorem Mz.JG (m:Mz β M H) {p:al×cb}(hp:p∈β.tb.l):M p.1=none:=let ⟨_,h,_⟩:=m.lams p hp;m.qE h rfl
theorem Mz.free (m:Mz β M H) {a:al}(h:H a=none):M a=none :=by
 cases e:M a with
 |none=>rfl
 |some o=>obtain⟨xs,q,_⟩:=m.own e;rw[h]at q;cases q
theorem Mz.fz (m:Mz β M H) {a:al}(h:H a=none):Fz β M a:=⟨m.free h,fun z=>by
 obtain⟨o,e,_⟩:=m.hids a z;rw[h]at e;cases e⟩
theorem Ee {p a:al}{o:HO}(h:∃u,H a=SL u):∃u,upd H p o a=SL u :=by
 unfold upd;split
 ·exact⟨_,rfl⟩
 ·exact h
theorem Ex.lay (m:Mz β M H) {p:al}(h:H p=none) (o:HO):Ex β M H M (upd H p o) :=by
 have pre:∀b u,H b=some u->upd H p o b=some u:=fun b u q=>by rw[aq (bI q h)];exact q
 have rz:∀{v:V} {d:Dv},Rz β M H v d->Rz β M (upd H p o) v d:=fun r=>by
  induction r with
  |int i=>exact .int i
  |bl b=>exact .bl b
  |ao=>exact .ao
  |str z=>exact .str z
  |tup m e hl h ih=>exact .tup m (pre _ _ e) hl ih
  |lst m e hl h ih=>exact .lst m (pre _ _ e) hl ih
  |dk m e hk hl h ih=>exact .dk m (e.map fun _ h=>pre _ _ h) hk hl ih
  |dt m e hk hl h ih=>exact .dt m (e.map fun _ h=>pre _ _ h) hk hl ih
  |di m e m2 e2 hl h ih=>exact .di m (pre _ _ e) m2 (pre _ _ e2) hl ih
  |set m e=>exact .set m (pre _ _ e)
  |ptr m=>exact .ptr m
  |exc m e=>exact .exc m (pre _ _ e)
  |bC m e=>exact .bC m (pre _ _ e)
  |cG m e=>exact .cG m (pre _ _ e)
  |cH e=>exact .cH e
  |raw v=>exact .raw v
 refine⟨⟨fun b u _ q=>.inl (pre b u q),fun _ h=>h,fun _ _ h _=>h⟩,fun a u e=>?_,fun q hq=>?_,fun a ha=>(m.hids a ha).upd (.inl h),m.apart,fun q hq=>(m.lams q hq).keep (fun _ e=>pre _ _ e) fun _ _ _ e=>pre _ _ e⟩
 ·have z:=m.obj a u e;cases u with
  |lst ds=>obtain⟨vs,z,l,r⟩:=z;exact⟨vs,pre _ _ z,l,fun i v d a b=>rz (r i v d a b)⟩
  |dk ks ds=>obtain⟨vs,z,hk,l,r⟩:=z;exact⟨vs,pre _ _ z,hk,l,fun i v d a b=>rz (r i v d a b)⟩
  |dt ks ds=>obtain⟨vs,z,hk,l,r⟩:=z;exact⟨vs,pre _ _ z,hk,l,fun i v d a b=>rz (r i v d a b)⟩
  |ts ks ds=>obtain⟨vs,z,hk,l,r⟩:=z;exact⟨vs,pre _ _ z,hk,l,fun i v d a b=>rz (r i v d a b)⟩
  |cJ=>obtain⟨c,n,z,r⟩:=z;exact⟨c,n,pre _ _ z,r⟩
 ·obtain⟨ps,e,t⟩:=m.tabs q hq;exact⟨ps,pre _ _ e,t⟩
theorem Ex.grow (m:Mz β M H) {p:al}(hp:p∈β.tb) {ps:Array ap}(t:To ps.toList):Ex β M H M (upd H p (.cQ ps)) :=by
 obtain⟨QP,ye,t0⟩:=m.tabs p hp;have pre:∀b u,H b=some u->BJ u=true->upd H p (.cQ ps) b=some u:=fun b u q n=>by
  have:b≠p:=fun z=>by subst z;rw[ye]at q;cases q;cases n
  rw[aq this];exact q
 have rz:∀{v:V} {d:Dv},Rz β M H v d->Rz β M (upd H p (.cQ ps)) v d:=fun r=>by
  induction r with
  |int i=>exact .int i
  |bl b=>exact .bl b
  |ao=>exact .ao
  |str z=>exact .str z
  |tup m e hl h ih=>exact .tup m (pre _ _ e rfl) hl ih
  |lst m e hl h ih=>exact .lst m (pre _ _ e rfl) hl ih
  |dk m e hk hl h ih=>exact .dk m (e.JF rfl fun x hx h=>pre _ _ h hx) hk hl ih
  |dt m e hk hl h ih=>exact .dt m (e.JF rfl fun x hx h=>pre _ _ h hx) hk hl ih
  |di m e m2 e2 hl h ih=>exact .di m (pre _ _ e rfl) m2 (pre _ _ e2 rfl) hl ih
  |set m e=>exact .set m (pre _ _ e rfl)
  |ptr m=>exact .ptr m
  |exc m e=>exact .exc m (pre _ _ e rfl)
  |bC m e=>exact .bC m (pre _ _ e rfl)
  |cG m e=>exact .cG m (pre _ _ e rfl)
  |cH e=>exact .cH e
  |raw v=>exact .raw v
 refine⟨⟨fun b u _ q=>?_,fun _ h=>h,fun _ _ h _=>h⟩,fun a u e=>?_,fun q hq=>?_,fun a ha=>(m.hids a ha).upd (.inr rfl),m.apart,fun q hq=>(m.lams q hq).keep (fun _ e=>pre _ _ e rfl) fun _ _ _ e=>pre _ _ e rfl⟩
 ·by_cases e:b=p
  ·subst e;rw[ye]at q;cases q;exact .inr ⟨_,.inl ⟨QP,ps,rfl,rfl,t⟩,aL⟩
  ·exact .inl (by rw[aq e];exact q)
 ·have z:=m.obj a u e;cases u with
  |lst ds=>obtain⟨vs,z,l,r⟩:=z;exact⟨vs,pre _ _ z rfl,l,fun i v d a b=>rz (r i v d a b)⟩
  |dk ks ds=>obtain⟨vs,z,hk,l,r⟩:=z;exact⟨vs,pre _ _ z rfl,hk,l,fun i v d a b=>rz (r i v d a b)⟩
  |dt ks ds=>obtain⟨vs,z,hk,l,r⟩:=z;exact⟨vs,pre _ _ z rfl,hk,l,fun i v d a b=>rz (r i v d a b)⟩
  |ts ks ds=>obtain⟨vs,z,hk,l,r⟩:=z;exact⟨vs,pre _ _ z rfl,hk,l,fun i v d a b=>rz (r i v d a b)⟩
  |cJ=>obtain⟨c,n,z,r⟩:=z;exact⟨c,n,pre _ _ z rfl,r⟩
 ·by_cases e:q=p
  ·subst e;exact⟨ps,aL,t⟩
  ·obtain⟨p2,e2,t2⟩:=m.tabs q hq;exact⟨p2,by rw[aq e];exact e2,t2⟩
def aA (M:Mh) (a:al) (o:Mo):Mh:=fun b=>if b=a then SL o else M b
theorem updM_same {a:al}{o:Mo}:aA M a o a=SL o :=by unfold aA;rw[if_pos rfl]
theorem ah {a b:al}{o:Mo}(h:b≠a):aA M a o b=M b :=by unfold aA;rw[if_neg h]
theorem updM_updM {a:al}{o u:Mo}:aA (aA M a o) a u=aA M a u :=by funext b;unfold aA;split<;>rfl
theorem nH {p:al}{o:Mo}{u:HO}(hp:(M p).isSome=true\/H p=none) {v:V}{d:Dv}(h:Rz β M H v d):Rz β (aA M p o) (upd H p u) v d :=by
 have ne:∀a x,M a=none->H a=SL x->a≠p:=fun a x m e z=>by
  subst z;rcases hp with q|q
  ·rw[m]at q;cases q
  ·rw[q]at e;cases e
 induction h with
 |int i=>exact .int i
 |bl b=>exact .bl b
 |ao=>exact .ao
 |str z=>exact .str z
 |tup m e hl h ih=>have n:=ne _ _ m.1 e;exact .tup ⟨by rw[ah n];exact m.1,m.2⟩ (by rw[aq n];exact e) hl ih
 |lst m e hl h ih=>have n:=ne _ _ m.1 e;exact .lst ⟨by rw[ah n];exact m.1,m.2⟩ (by rw[aq n];exact e) hl ih
 |dk m e hk hl h ih=>have n:=ne _ _ m.1 e.there.choose_spec;exact .dk ⟨by rw[ah n];exact m.1,m.2⟩ (e.map fun _ h=>by rw[aq n];exact h) hk hl ih
 |dt m e hk hl h ih=>have n:=ne _ _ m.1 e.there.choose_spec;exact .dt ⟨by rw[ah n];exact m.1,m.2⟩ (e.map fun _ h=>by rw[aq n];exact h) hk hl ih
 |di m e m2 e2 hl h ih=>have n:=ne _ _ m.1 e;have n2:=ne _ _ m2.1 e2;exact .di ⟨by rw[ah n];exact m.1,m.2⟩ (by rw[aq n];exact e) ⟨by rw[ah n2];exact m2.1,m2.2⟩ (by rw[aq n2];exact e2) hl ih
 |set m e=>have n:=ne _ _ m.1 e;exact .set ⟨by rw[ah n];exact m.1,m.2⟩ (by rw[aq n];exact e)
 |ptr m=>
  refine .ptr ?_;unfold aA;split
  ·rfl
  ·exact m
 |exc m e=>have n:=ne _ _ m.1 e;exact .exc ⟨by rw[ah n];exact m.1,m.2⟩ (by rw[aq n];exact e)
 |bC m e=>have n:=ne _ _ m.1 e;exact .bC ⟨by rw[ah n];exact m.1,m.2⟩ (by rw[aq n];exact e)
 |cG m e=>have n:=ne _ _ m.1 e;exact .cG ⟨by rw[ah n];exact m.1,m.2⟩ (by rw[aq n];exact e)
 |cH e=>exact .cH e
 |raw v=>exact .raw v
theorem i5.upd {p:al}{o':Mo}{u:HO}(hp:(M p).isSome=true\/H p=none) {a:al}{o:Mo}(ha:a≠p) (z:i5 β M H a o):i5 β (aA M p o') (L2.upd H p u) a o :=by
 cases o with
 |lst ds=>obtain⟨vs,z,l,r⟩:=z;exact⟨vs,by rw[aq ha];exact z,l,fun i v d a b=>nH hp (r i v d a b)⟩
 |dk ks ds=>obtain⟨vs,z,hk,l,r⟩:=z;exact⟨vs,by rw[aq ha];exact z,hk,l,fun i v d a b=>nH hp (r i v d a b)⟩
 |dt ks ds=>obtain⟨vs,z,hk,l,r⟩:=z;exact⟨vs,by rw[aq ha];exact z,hk,l,fun i v d a b=>nH hp (r i v d a b)⟩
 |ts ks ds=>obtain⟨vs,z,hk,l,r⟩:=z;exact⟨vs,by rw[aq ha];exact z,hk,l,fun i v d a b=>nH hp (r i v d a b)⟩
 |cJ=>obtain⟨c,n,z,r⟩:=z;exact⟨c,n,by rw[aq ha];exact z,r⟩
theorem Ex.zt (m:Mz β M H) {p:al}{u:HO}{o':Mo}(hp:(M p).isSome=true\/H p=none) (hu:nF u=true) (r:i5 β (aA M p o') (upd H p u) p o'):Ex β M H (aA M p o') (upd H p u) :=by
 have ne:∀a x,M a=none->H a=SL x->a≠p:=fun a x m e z=>by
  subst z;rcases hp with q|q
  ·rw[m]at q;cases q
  ·rw[q]at e;cases e
 refine⟨⟨fun b u hm q=>.inl ?_,fun a h=>?_,fun a o hm h=>?_⟩,fun a o e=>?_,fun q hq=>?_,fun a ha=>(m.hids a ha).upd (.inr hu),fun a o e z=>?_,fun q hq=>?_⟩
 ·rw[aq (ne b _ hm q)];exact q
 ·unfold aA;split
  ·rfl
  ·exact h
 ·rw[ah (ne a _ hm h)];exact hm
 ·by_cases ha:a=p
  ·subst ha;rw[updM_same]at e;cases e;exact r
  ·rw[ah ha]at e;exact(m.obj a o e).upd hp ha
 ·obtain⟨ps,e,t⟩:=m.tabs q hq;exact⟨ps,by rw[aq (ne q _ (m.Mi hq) e)];exact e,t⟩
 ·by_cases ha:a=p
  ·subst ha;rcases hp with h|h
   ·cases q:M a with
    |none=>rw[q]at h;cases h
    |some u=>exact m.apart a u q z
   ·obtain⟨u,hu,_⟩:=m.hids a z;rw[h]at hu;cases hu
  ·rw[ah ha]at e;exact m.apart a o e z
 ·exact(m.lams q hq).keep (fun _ e=>by rw[aq (ne q.1 _ (m.JG hq) e)];exact e) fun c _ _ e=>by rw[aq (ne c _ (m.qE e rfl) e)];exact e
theorem Ex.own (m:Mz β M H) {p:al}{vs:List V}{ds:List Dv}(hp:(M p).isSome=true\/H p=none) (r:aM β M H vs ds):Ex β M H (aA M p (.lst ds)) (upd H p (.lst vs)):=
 Ex.zt m hp rfl ⟨vs,aL,r.len,fun i v d a b=>nH hp (r.at' i v d a b)⟩
abbrev Bz.add (β:Bz) (D:al):Bz:={β with hid:=D::β.hid}
theorem Rz.enter {D:al}{o:HO}(hD:H D=none) {v:V}{d:Dv}(h:Rz β M H v d):Rz (β.add D) M (upd H D o) v d :=by
 have ne:∀a x,Fz β M a->H a=some x->Fz (β.add D) M a:=fun a x m e=>⟨m.1,by
  intro z;rcases l7.mp z with z|z
  ·subst z;rw[hD]at e;cases e
  ·exact m.2 z⟩
 have pre:∀a x,H a=some x->upd H D o a=some x:=fun a x e=>by rw[aq (bI e hD)];exact e
 induction h with
 |int i=>exact .int i
 |bl b=>exact .bl b
 |ao=>exact .ao
 |str z=>exact .str z
 |tup m e hl h ih=>exact .tup (ne _ _ m e) (pre _ _ e) hl ih
 |lst m e hl h ih=>exact .lst (ne _ _ m e) (pre _ _ e) hl ih
 |dk m e hk hl h ih=>exact .dk (ne _ _ m e.there.choose_spec) (e.map fun _ h=>pre _ _ h) hk hl ih
 |dt m e hk hl h ih=>exact .dt (ne _ _ m e.there.choose_spec) (e.map fun _ h=>pre _ _ h) hk hl ih
 |di m e m2 e2 hl h ih=>exact .di (ne _ _ m e) (pre _ _ e) (ne _ _ m2 e2) (pre _ _ e2) hl ih
 |set m e=>exact .set (ne _ _ m e) (pre _ _ e)
 |ptr m=>exact .ptr m
 |exc m e=>exact .exc (ne _ _ m e) (pre _ _ e)
 |bC m e=>exact .bC (ne _ _ m e) (pre _ _ e)
 |cG m e=>exact .cG (ne _ _ m e) (pre _ _ e)
 |cH e=>exact .cH e
 |raw v=>exact .raw v
theorem Rz.sub {cT:Bz}(hP:cT.P=β.P) (hw:cT.w=β.w) (hK:cT.K=β.K) (hs:∀a,a∈cT.hid->a∈β.hid) {v:V}{d:Dv}(h:Rz β M H v d):Rz cT M H v d :=by
 have ne:∀a,Fz β M a->Fz cT M a:=fun a m=>⟨m.1,fun z=>m.2 (hs a z)⟩
 induction h with
 |int i=>exact .int i
 |bl b=>exact .bl b
 |ao=>exact .ao
 |str z=>exact .str z
 |tup m e hl h ih=>exact .tup (ne _ m) e hl ih
 |lst m e hl h ih=>exact .lst (ne _ m) e hl ih
 |dk m e hk hl h ih=>exact .dk (ne _ m) e hk hl ih
 |dt m e hk hl h ih=>exact .dt (ne _ m) e hk hl ih
 |di m e m2 e2 hl h ih=>exact .di (ne _ m) e (ne _ m2) e2 hl ih
 |set m e=>exact .set (ne _ m) (by rw[hP,hw];exact e)
 |ptr m=>exact .ptr m
 |exc m e=>exact .exc (ne _ m) e
 |bC m e=>exact .bC (ne _ m) e
 |cG m e=>exact .cG (ne _ m) e
 |cH e=>exact .cH (by rw[hK];exact e)
 |raw v=>exact .raw v
theorem Mz.sub {cT:Bz}(hP:cT.P=β.P) (hw:cT.w=β.w) (hK:cT.K=β.K) (ht:cT.tb=β.tb) (hs:∀a,a∈cT.hid->a∈β.hid) (m:Mz β M H):Mz cT M H:=⟨fun a o e=>by
 have z:=m.obj a o e;cases o with
 |lst ds=>obtain⟨vs,z,l,r⟩:=z;exact⟨vs,z,l,fun i v d a b=>(r i v d a b).sub hP hw hK hs⟩
 |dk ks ds=>obtain⟨vs,z,hk,l,r⟩:=z;exact⟨vs,z,hk,l,fun i v d a b=>(r i v d a b).sub hP hw hK hs⟩
 |dt ks ds=>obtain⟨vs,z,hk,l,r⟩:=z;exact⟨vs,z,hk,l,fun i v d a b=>(r i v d a b).sub hP hw hK hs⟩
 |ts ks ds=>obtain⟨vs,z,hk,l,r⟩:=z;exact⟨vs,by rw[hP,hw];exact z,hk,l,fun i v d a b=>(r i v d a b).sub hP hw hK hs⟩
 |cJ=>exact z,by rw[ht];exact m.tabs,fun a ha=>m.hids a (hs a ha),fun a o e z=>m.apart a o e (hs a z),by rw[ht];exact m.lams⟩
theorem Mz.enter {D:al}{o:HO}(hD:H D=none) (ho:nF o=true) (m:Mz β M H):Mz (β.add D) M (upd H D o):=⟨fun a u e=>by
 have pre:∀a x,H a=SL x->upd H D o a=SL x:=fun a x e=>by rw[aq (bI e hD)];exact e
 have z:=m.obj a u e;cases u with
 |lst ds=>obtain⟨vs,z,l,r⟩:=z;exact⟨vs,pre _ _ z,l,fun i v d a b=>(r i v d a b).enter hD⟩
 |dk ks ds=>obtain⟨vs,z,hk,l,r⟩:=z;exact⟨vs,pre _ _ z,hk,l,fun i v d a b=>(r i v d a b).enter hD⟩
 |dt ks ds=>obtain⟨vs,z,hk,l,r⟩:=z;exact⟨vs,pre _ _ z,hk,l,fun i v d a b=>(r i v d a b).enter hD⟩
 |ts ks ds=>obtain⟨vs,z,hk,l,r⟩:=z;exact⟨vs,pre _ _ z,hk,l,fun i v d a b=>(r i v d a b).enter hD⟩
 |cJ=>obtain⟨c,n,z,r⟩:=z;exact⟨c,n,pre _ _ z,r⟩,fun p hp=>by
 obtain⟨ps,e,t⟩:=m.tabs p hp;exact⟨ps,by rw[aq (bI e hD)];exact e,t⟩,fun a ha=>by
 rcases l7.mp ha with z|z
 ·subst z;exact⟨_,aL,ho⟩
 ·exact(m.hids a z).upd (.inl hD),fun a o e ha=>by
 rcases l7.mp ha with z|z
 ·subst z;rw[m.free hD]at e;cases e
 ·exact m.apart a o e z,fun q hq=>(m.lams q hq).keep (fun _ e=>by rw[aq (bI e hD)];exact e) fun _ _ _ e=>by rw[aq (bI e hD)];exact e⟩
theorem Rz.over {D:al}{o:HO}(hD:D∈β.hid) {v:V}{d:Dv}(h:Rz β M H v d):Rz β M (upd H D o) v d :=by
 have pre:∀a x,Fz β M a->H a=some x->upd H D o a=some x:=fun a x m e=>by
  have n:a≠D:=fun z=>by subst z;exact m.2 hD
  rw[aq n];exact e
 induction h with
 |int i=>exact .int i
 |bl b=>exact .bl b
 |ao=>exact .ao
 |str z=>exact .str z
 |tup m e hl h ih=>exact .tup m (pre _ _ m e) hl ih
 |lst m e hl h ih=>exact .lst m (pre _ _ m e) hl ih
 |dk m e hk hl h ih=>exact .dk m (e.map fun _ h=>pre _ _ m h) hk hl ih
 |dt m e hk hl h ih=>exact .dt m (e.map fun _ h=>pre _ _ m h) hk hl ih
 |di m e m2 e2 hl h ih=>exact .di m (pre _ _ m e) m2 (pre _ _ m2 e2) hl ih
 |set m e=>exact .set m (pre _ _ m e)
 |ptr m=>exact .ptr m
 |exc m e=>exact .exc m (pre _ _ m e)
 |bC m e=>exact .bC m (pre _ _ m e)
 |cG m e=>exact .cG m (pre _ _ m e)
 |cH e=>exact .cH e
 |raw v=>exact .raw v
theorem Mz.over {D:al}{o:HO}(hD:D∈β.hid) (ho:nF o=true) (hM:M D=none) (ht:D ∉ β.tb) (m:Mz β M H):Mz β M (upd H D o):=⟨fun a u e=>by
 have na:a≠D:=fun z=>by subst z;rw[hM]at e;cases e
 have z:=m.obj a u e;cases u with
 |lst ds=>obtain⟨vs,z,l,r⟩:=z;exact⟨vs,by rw[aq na];exact z,l,fun i v d a b=>(r i v d a b).over hD⟩
 |dk ks ds=>obtain⟨vs,z,hk,l,r⟩:=z;exact⟨vs,by rw[aq na];exact z,hk,l,fun i v d a b=>(r i v d a b).over hD⟩
 |dt ks ds=>obtain⟨vs,z,hk,l,r⟩:=z;exact⟨vs,by rw[aq na];exact z,hk,l,fun i v d a b=>(r i v d a b).over hD⟩
 |ts ks ds=>obtain⟨vs,z,hk,l,r⟩:=z;exact⟨vs,by rw[aq na];exact z,hk,l,fun i v d a b=>(r i v d a b).over hD⟩
 |cJ=>obtain⟨c,n,z,r⟩:=z;exact⟨c,n,by rw[aq na];exact z,r⟩,fun p hp=>by
 obtain⟨ps,e,t⟩:=m.tabs p hp;have n:p≠D:=fun z=>by subst z;exact ht hp
 exact⟨ps,by rw[aq n];exact e,t⟩,fun a ha=>(m.hids a ha).upd (.inr ho),m.apart,fun q hq=>by
 obtain⟨o',e',n⟩:=m.hids D hD;exact(m.lams q hq).keep (fun _ e=>by rw[aq (fun z=>by subst z;rw[e']at e;cases e;cases n)];exact e) fun c _ _ e=>by rw[aq (fun z=>by subst z;rw[e']at e;cases e;cases n)];exact e⟩
theorem Ey.over {D:al}{o:HO}(x:Ey M H M1 H1) (hD:H D=none):Ey M H M1 (upd H1 D o):=⟨fun b u m h=>by
 have nb:b≠D:=bI h hD;rw[aq nb];exact x.keep b u m h,x.dom,x.new⟩
theorem Mz.Ef {D:al}(m:Mz β M H) (hD:H D=none):D ∉ β.tb:=fun z=>by
 obtain⟨_,e,_⟩:=m.tabs D z;rw[hD]at e;cases e
structure Bx (β cT:Bz) (H:Hp):Prop where
 P:cT.P=β.P
 w:cT.w=β.w
 K:cT.K=β.K
 tb:cT.tb=β.tb
 old:∀a,a∈β.hid->a∈cT.hid
 new:∀a,a∈cT.hid->a∈β.hid\/H a=none
theorem Bx.refl:Bx β β H:=⟨rfl,rfl,rfl,rfl,fun _ h=>h,fun _ h=>.inl h⟩
theorem Bx.add {D:al}(hD:H D=none):Bx β (β.add D) H:=⟨rfl,rfl,rfl,rfl,fun _ h=>ci _ h,fun a h=>by
 rcases l7.mp h with z|z
 ·exact .inr (z▸hD)
 ·exact .inl z⟩
theorem Rz.bx {cT:Bz}(b:Bx β cT H) {v:V}{d:Dv}(h:Rz β M H v d):Rz cT M H v d :=by
 have ne:∀a x,Fz β M a->H a=some x->Fz cT M a:=fun a x m e=>⟨m.1,fun z=>by
  rcases b.new a z with q|q
  ·exact m.2 q
  ·rw[q]at e;cases e⟩
 induction h with
 |int i=>exact .int i
 |bl b=>exact .bl b
 |ao=>exact .ao
 |str z=>exact .str z
 |tup m e hl h ih=>exact .tup (ne _ _ m e) e hl ih
 |lst m e hl h ih=>exact .lst (ne _ _ m e) e hl ih
 |dk m e hk hl h ih=>exact .dk (ne _ _ m e.there.choose_spec) e hk hl ih
 |dt m e hk hl h ih=>exact .dt (ne _ _ m e.there.choose_spec) e hk hl ih
 |di m e m2 e2 hl h ih=>exact .di (ne _ _ m e) e (ne _ _ m2 e2) e2 hl ih
 |set m e=>exact .set (ne _ _ m e) (by rw[b.P,b.w];exact e)
 |ptr m=>exact .ptr m
 |exc m e=>exact .exc (ne _ _ m e) e
 |bC m e=>exact .bC (ne _ _ m e) e
 |cG m e=>exact .cG (ne _ _ m e) e
 |cH e=>exact .cH (by rw[b.K];exact e)
 |raw v=>exact .raw v
end
inductive Pin (M:Mh):Dv->Prop where
 |int (i:Int):Pin M (.int i)
 |bl (b:Bool):Pin M (.bl b)
 |ao:Pin M .ao
 |str (z:cb):Pin M (.str z)
 |tup {ds:List Dv} (h:∀d∈ds,Pin M d):Pin M (.tup ds)
 |lst {ds:List Dv} (h:∀d∈ds,Pin M d):Pin M (.lst ds)
 |set (ns:List Int):Pin M (.set ns)
 |ptr {a:al} (h:(M a).isSome=true):Pin M (.ptr a)
 |exc (C:al):Pin M (.exc C)
 |bC (ns:List Int):Pin M (.bC ns)
 |raw (v:V):Pin M (.raw v)
 |dk {ks:List Key} {ds:List Dv} (h:∀d∈ds,Pin M d):Pin M (.dk ks ds)
 |dt {ks:List (List Key)} {ds:List Dv} (h:∀d∈ds,Pin M d):Pin M (.dt ks ds)
 |di {f c:al} {o oc:lp} {vs:List V} {ds:List Dv} (h:∀d∈ds,Pin M d):Pin M (.di f o c oc vs ds)
theorem Rz.pin {β:Bz}{M:Mh}{H:Hp}{v:V}{d:Dv}(h:Rz β M H v d):Pin M d :=by
 induction h with
 |int i=>exact .int i
 |bl b=>exact .bl b
 |ao=>exact .ao
 |str z=>exact .str z
 |tup m e hl h ih=>
  refine .tup fun d hd=>?_
  obtain⟨i,hi⟩:=u4.mp hd;have h1:=(cr.mp hi).1;exact ih i _ d (ac (by omega)) hi
 |lst m e hl h ih=>
  refine .lst fun d hd=>?_
  obtain⟨i,hi⟩:=u4.mp hd;have h1:=(cr.mp hi).1;exact ih i _ d (ac (by omega)) hi
 |dk m e hk hl h ih=>
  refine .dk fun d hd=>?_
  obtain⟨i,hi⟩:=u4.mp hd;have h1:=(cr.mp hi).1;exact ih i _ d (ac (by omega)) hi
 |dt m e hk hl h ih=>
  refine .dt fun d hd=>?_
  obtain⟨i,hi⟩:=u4.mp hd;have h1:=(cr.mp hi).1;exact ih i _ d (ac (by omega)) hi
 |di m e m2 e2 hl h ih=>
  refine .di fun d hd=>?_
  obtain⟨i,hi⟩:=u4.mp hd;have h1:=(cr.mp hi).1;exact ih i _ d (ac (by omega)) hi
 |set m e=>exact .set _
 |ptr m=>exact .ptr m
 |exc m e=>exact .exc _
 |bC m e=>exact .bC _
 |cG m e=>exact .bC _
 |cH e=>exact .bC _
 |raw v=>exact .raw v
def Mo.items:Mo->List Dv
 | .lst ds=>ds
 | .dk _ ds=>ds
 | .dt _ ds=>ds
 | .ts _ ds=>ds
 | .cJ=>[]
def Wf (M:Mh):Prop:=∀b o,M b=some o->∀d∈o.items,Pin M d
theorem i5.QR {β:Bz}{M:Mh}{H:Hp}{a:al}{o:Mo}(h:i5 β M H a o):∃vs,aM β M H vs o.items :=by
 cases o with
 |lst ds=>obtain⟨vs,_,rs⟩:=h;exact⟨vs,rs⟩
 |dk ks ds=>obtain⟨vs,_,_,rs⟩:=h;exact⟨vs,rs⟩
 |dt ks ds=>obtain⟨vs,_,_,rs⟩:=h;exact⟨vs,rs⟩
 |ts ks ds=>obtain⟨vs,_,_,rs⟩:=h;exact⟨vs,rs⟩
 |cJ=>exact⟨[],.nil⟩
theorem Mz.wf {β:Bz}{M:Mh}{H:Hp}(m:Mz β M H):Wf M:=fun b o e d hd=>by
 obtain⟨vs,rs⟩:=(m.obj b _ e).QR;obtain⟨i,hi⟩:=u4.mp hd;obtain⟨v,_,r⟩:=rs.get hi;exact r.pin
abbrev av:=List (Option Dv)
abbrev ZK:=Dv->Mh->Prop
abbrev aG:=av->Mh->ZK->Prop
abbrev cq:=av->Mh->(Bool->Mh->Prop)->Prop
abbrev gA:=av->Mh->(List Dv->Mh->Prop)->Prop
structure gF where
 nx:av->Mh->Prop
 rt:ZK
 bk:av->Mh->Prop:=fun _ _=>False
 ct:av->Mh->Prop:=fun _ _=>False
abbrev cK:=gF->av->Mh->Prop
abbrev bS:=Dv->av->Mh->(av->Mh->Prop)->Prop
abbrev eY:=av->Mh->(List Dv->Mh->Prop)->Prop
structure Gz extends Bz where
 M0:Mh
 H0:Hp
structure Zr (Γ:Gz) (β:Bz) (M:Mh) (ρ:av) (σ:St) (H:Hp):Prop where
 eP:β.P=Γ.P
 ew:β.w=Γ.w
 eK:β.K=Γ.K
 et:β.tb=Γ.tb
 sub:∀a,a∈Γ.hid->a∈β.hid
 wf:Wf Γ.M0
 ent:Ey Γ.M0 Γ.H0 M H
 mz:Mz β M H
 len:ρ.length=σ.length
 at':∀(i:Nat) (d:Dv),ρ[i]?=some (some d)->∃v,σ[i]?=some (some v)/\Rz β M H v d
section
variable {Γ:Gz}{β:Bz}{M M':Mh}{ρ:av}{σ:St}{H H':Hp}
theorem Zr.step (z:Zr Γ β M ρ σ H) (x:Ex β M H M' H'):Zr Γ β M' ρ σ H':=⟨z.eP,z.ew,z.eK,z.et,z.sub,z.wf,z.ent.trans x.toEy,x.mz,z.len,fun i d e=>let ⟨v,h,r⟩:=z.at' i d e;⟨v,h,r.ex x⟩⟩
theorem Zr.set (z:Zr Γ β M ρ σ H) (i:Nat) {v:V}{d:Dv}(r:Rz β M H v d):Zr Γ β M (ρ.set i (some d)) (σ.set i (some v)) H:=⟨z.eP,z.ew,z.eK,z.et,z.sub,z.wf,z.ent,z.mz,by simp[z.len],fun j e h=>by
 rw[U8]at h ⊢;rw[z.len]at h;split at h
 ·rename_i q;rw[if_pos q];split at h
  ·rename_i q2;rw[if_pos q2];cases h;exact⟨v,rfl,r⟩
  ·cases h
 ·rename_i q;rw[if_neg q];exact z.at' j e h⟩
end
def lE (Γ:Gz) (p:aG):TE:=fun σ H Q=>∃(β:Bz) (ρ:av) (M:Mh) (Q':ZK),Zr Γ β M ρ σ H/\p ρ M Q'/\∀d M' v H',Ex β M H M' H'->Rz β M' H' v d->Q' d M'->Q v H'
def lT (Γ:Gz) (p:cq):TT:=fun σ H Q=>∃(β:Bz) (ρ:av) (M:Mh) (Q':Bool->Mh->Prop),Zr Γ β M ρ σ H/\p ρ M Q'/\∀b M' H',Ex β M H M' H'->Q' b M'->Q b H'
def lA (Γ:Gz) (p:gA):TA:=fun σ H Q=>∃(β:Bz) (ρ:av) (M:Mh) (Q':List Dv->Mh->Prop),Zr Γ β M ρ σ H/\p ρ M Q'/\∀ds M' vs H',Ex β M H M' H'->aM β M' H' vs ds->Q' ds M'->Q vs H'
structure Ev (β:Bz) (M:Mh) (H:Hp) (M':Mh) (H':Hp):Prop where
 keep:∀b o,M b=none->H b=some o->H' b=some o\/∃o',Tg o o'/\H' b=some o'
 new:∀a o,M a=none->H a=some o->M' a=none
 mz:Mz β M' H'
theorem Ex.ev {β:Bz}{M M':Mh}{H H':Hp}(x:Ex β M H M' H'):Ev β M H M' H':=⟨x.keep,x.new,x.mz⟩
theorem Ev.refl {β:Bz}{M:Mh}{H:Hp}(m:Mz β M H):Ev β M H M H:=(Ex.refl m).ev
theorem Ev.trans {β:Bz}{M M1 M2:Mh}{H H1 H2:Hp}(x:Ev β M H M1 H1) (y:Ev β M1 H1 M2 H2):Ev β M H M2 H2 :=by
 refine⟨fun b o hm h=>?_,fun a o hm h=>?_,y.mz⟩
 ·have ji:=x.new b o hm h;rcases x.keep b o hm h with q|⟨o1,t,q⟩
  ·exact y.keep b o ji q
  ·rcases y.keep b _ ji q with q2|⟨o2,t2,q2⟩
   ·exact .inr ⟨o1,t,q2⟩
   ·exact .inr ⟨o2,t.trans t2,q2⟩
 ·have ji:=x.new a o hm h;rcases x.keep a o hm h with q|⟨o1,t,q⟩
  ·exact y.new a _ ji q
  ·exact y.new a _ ji q
structure zu (Γ:Gz) (β:Bz) (M:Mh) (H:Hp) (D':gF) (D:Ends):Prop where
 nx:∀cU M' aQ H',Ev β M H M' H'->Zr Γ β M' cU aQ H'->D'.nx cU M'->D.nx aQ H'
 rt:∀d M' v H',Ev β M H M' H'->Ey Γ.M0 Γ.H0 M' H'->Rz β M' H' v d->D'.rt d M'->D.rt v H'
 bk:∀cU M' aQ H',Ev β M H M' H'->Zr Γ β M' cU aQ H'->D'.bk cU M'->D.bk aQ H'
 ct:∀cU M' aQ H',Ev β M H M' H'->Zr Γ β M' cU aQ H'->D'.ct cU M'->D.ct aQ H'
theorem zu.step {Γ:Gz}{β:Bz}{M M1:Mh}{H H1:Hp}{D':gF}{D:Ends}(r:zu Γ β M H D' D) (x:Ev β M H M1 H1):zu Γ β M1 H1 D' D:=
 ⟨fun a b c d y=>r.nx a b c d (x.trans y),fun a b c d y=>r.rt a b c d (x.trans y),fun a b c d y=>r.bk a b c d (x.trans y),fun a b c d y=>r.ct a b c d (x.trans y)⟩
def lS (Γ:Gz) (p:cK):TS:=fun D σ H=>∃(β:Bz) (ρ:av) (M:Mh) (D':gF),Zr Γ β M ρ σ H/\p D' ρ M/\zu Γ β M H D' D
def lG (Γ:Gz) (p:bS):TG:=fun x σ H N=>∃(β:Bz) (d:Dv) (ρ:av) (M:Mh) (N':av->Mh->Prop),Zr Γ β M ρ σ H/\Rz β M H x d/\p d ρ M N'/\∀cU M' aQ H',Ex β M H M' H'->Zr Γ β M' cU aQ H'->N' cU M'->N aQ H'
def FI (β:Bz) (J:It) (ds:List Dv) (M:Mh) (H:Hp):Prop:=∀cT M' H',Bx β cT H->Ey M H M' H'->Mz cT M' H'->∀i,(i<ds.length->J.go i H'/\∀x jT,J.yld i H' x jT->Ex cT M' H' M' jT/\∃d,ds[i]?=some d/\Rz cT M' jT x d)/\(ds.length<=i->J.stop i H')
def lI (Γ:Gz) (p:eY):TI:=fun σ H R=>∃(β:Bz) (ρ:av) (M:Mh) (R':List Dv->Mh->Prop),Zr Γ β M ρ σ H/\p ρ M R'/\∀ds M' H' J,Ex β M H M' H'->FI β J ds M' H'->R' ds M'->R J H'
abbrev QE (Γ:Gz) (X:Cx) (e:hX) (p:aG):Prop:=PE X e (lE Γ p)
abbrev QT (Γ:Gz) (X:Cx) (e:hX) (p:cq):Prop:=PT X e (lT Γ p)
abbrev QW (Γ:Gz) (X:Cx) (e:hX) (p:cq):Prop:=PW X e (lT Γ p)
abbrev QA (Γ:Gz) (X:Cx) (es:List hX) (p:gA):Prop:=PA X es (lA Γ p)
abbrev QS (Γ:Gz) (X:Cx) (s:tz) (p:cK):Prop:=PS X s (lS Γ p)
abbrev nI (Γ:Gz) (X:Cx) (s:List tz) (p:cK):Prop:=gU X s (lS Γ p)
abbrev QG (Γ:Gz) (X:Cx) (e:hX) (p:bS):Prop:=PG X e (lG Γ p)
abbrev QI (Γ:Gz) (X:Cx) (tg e:hX) (p:eY):Prop:=PI X tg e (lI Γ p)
section
variable {X:Cx}
theorem PE.imp {e:hX}{t t':TE}(h:PE X e t) (i:∀σ H Q,t' σ H Q->t σ H Q):PE X e t':=⟨fun pins s σ H Q I q=>h pins s σ H Q I (i _ _ _ q)⟩
theorem PT.imp {e:hX}{t t':TT}(h:PT X e t) (i:∀σ H Q,t' σ H Q->t σ H Q):PT X e t':=⟨fun pins s σ H Q I q=>h pins s σ H Q I (i _ _ _ q)⟩
theorem PW.imp {e:hX}{t t':TT}(h:PW X e t) (i:∀σ H Q,t' σ H Q->t σ H Q):PW X e t':=fun wh pins s σ H Q I q=>h wh pins s σ H Q I (i _ _ _ q)
theorem PA.imp {e:List hX}{t t':TA}(h:PA X e t) (i:∀σ H Q,t' σ H Q->t σ H Q):PA X e t':=⟨fun pos pins s σ H Q I q=>h pos pins s σ H Q I (i _ _ _ q)⟩
theorem PS.imp {e:tz}{t t':TS}(h:PS X e t) (i:∀D σ H,t' D σ H->t D σ H):PS X e t':=⟨fun pins s σ H D I q=>h pins s σ H D I (i _ _ _ q)⟩
theorem gU.imp {e:List tz}{t t':TS}(h:gU X e t) (i:∀D σ H,t' D σ H->t D σ H):gU X e t':=⟨fun pins s σ H D I q=>h pins s σ H D I (i _ _ _ q)⟩
theorem PG.imp {e:hX}{t t':TG}(h:PG X e t) (i:∀v σ H Q,t' v σ H Q->t v σ H Q):PG X e t':=fun pins s σ H v u Q I r q=>h pins s σ H v u Q I r (i _ _ _ _ q)
theorem PI.imp {tg e:hX}{t t':TI}(h:PI X tg e t) (i:∀σ H Q,t' σ H Q->t σ H Q):PI X tg e t':=fun pins s σ H Q I q=>h pins s σ H Q I (i _ _ _ q)
theorem gv.imp {e:List hX}{t t':TT}(h:gv X e t) (i:∀σ H Q,t' σ H Q->t σ H Q):gv X e t':=fun pins s σ H Q I q=>h pins s σ H Q I (i _ _ _ q)
variable {Γ:Gz}{a b c:hX}{pa pb pc:aG}{pos:xp}
def zVar (i:Nat):aG:=fun ρ M Q=>match ρ[i]? with|some (some d)=>Q d M|_=>False
def zC (d:Dv):aG:=fun _ M Q=>Q d M
theorem JH {i:Nat}{x:cb}(hN:X.N[i]?=some x) (hv:xx X.env.scope x) (hd:(x==("__debug__" : cb))=false :=by decide) (iR:(x==("__classdict__" : cb))=false :=by decide):QE Γ X (.Name x pos) (zVar i):=
 (HC hN hv hd iR).imp fun σ H Q ⟨β,ρ,M,Q',z,h,q⟩=>by
  unfold zVar at h;split at h
  ·rename_i d e;obtain⟨v,e2,r⟩:=z.at' i d e;exact⟨v,e2,q d M v H (.refl z.mz) r h⟩
  ·exact h.elim
theorem qc {e:hX}{v:V}{d:Dv}(h:PE X e (tC v)) (r:∀β M H,Rz β M H v d):QE Γ X e (zC d):=h.imp fun σ H Q ⟨β,ρ,M,Q',z,h,q⟩=>q d M v H (.refl z.mz) (r β M H) h
theorem ak {i j pos}:QE Γ X (.Constant (.int i) j pos) (zC (.int i)):=qc HD fun _ _ _=>.int _
theorem jt {b j pos}:QE Γ X (.Constant (.bool b) j pos) (zC (.bl b)):=qc LC fun _ _ _=>.bl _
theorem vm {x j pos}:QE Γ X (.Constant (.str x) j pos) (zC (.str x)):=qc HE fun _ _ _=>.str _
theorem Eg {x:cb}{i:Int}{u:ap}(hg:Gl X x) (hm:X.mg x=some u) (r:RelV (.int i) u) (hd:(x==("__debug__" : cb))=false :=by decide):QE Γ X (.Name x pos) (zC (.int i)):=qc (xA hg hm r hd) fun _ _ _=>.int _
theorem vn {x z:cb}{u:ap}(hg:Gl X x) (hm:X.mg x=some u) (r:RelV (.str z) u) (hd:(x==("__debug__" : cb))=false :=by decide):QE Γ X (.Name x pos) (zC (.str z)):=qc (xA hg hm r hd) fun _ _ _=>.str _
theorem fR {x:cb}{v:V}{u:ap}(hg:Gl X x) (hm:X.mg x=none) (hv:bootBuiltins x=some u) (r:RelV v u) (hn:x ≠ "__name__" := by decide) (hd:(x==("__debug__" : cb))=false :=by decide):QE Γ X (.Name x pos) (zC (.raw v)):=qc (Gh hg hm hv r hn hd) fun _ _ _=>.raw _
abbrev eZ:=Dv->Dv->Mh->ZK->Prop
def oP (Γ:Gz) (r:R2) (z:eZ):Prop:=∀(β:Bz) x y d e M H Q Q',β.P=Γ.P->β.w=Γ.w->β.K=Γ.K->Mz β M H->Rz β M H x d->Rz β M H y e->z d e M Q'->(∀d' M' v H',Ex β M H M' H'->Rz β M' H' v d'->Q' d' M'->Q v H')->r x y H Q
def fG (Γ:Gz) (X:Cx) (f:ap->ap->TQ ap) (z:eZ):Prop:=∃r,OpR X f r/\oP Γ r z
def zOp (z:eZ) (pa pb:aG):aG:=fun ρ M Q=>pa ρ M fun d M1=>pb ρ M1 fun e M2=>z d e M2 Q
theorem zv {r:R2}{z:eZ}(hz:oP Γ r z) {σ:St}{H:Hp}{Q:VK}(h:lE Γ (zOp z pa pb) σ H Q):AA r (lE Γ pa) (lE Γ pb) σ H Q :=by
 obtain⟨β,ρ,M,Q',zr,h,q⟩:=h;exact⟨β,ρ,M,_,zr,h,fun d M1 v H1 x1 r1 h1=>⟨β,ρ,M1,_,zr.step x1,h1,fun e M2 u H2 x2 r2 h2=>hz β v u d e M2 H2 Q Q' zr.eP zr.ew zr.eK x2.mz (r1.ex x2) r2 h2 fun d' M' v' H' x3 r3 q3=>q _ _ _ _ (x1.trans (x2.trans x3)) r3 q3⟩⟩
theorem bg {op:Operator}{z:eZ}(ho:fG Γ X (binaryOp op) z) (ha:QE Γ X a pa) (hb:QE Γ X b pb):QE Γ X (.BinOp a op b pos) (zOp z pa pb) :=by
 obtain⟨r,h1,h2⟩:=ho;exact(LO h1 ha hb).imp fun σ H Q h=>zv h2 h
theorem oe {op:S6}{z:eZ}(ho:fG Γ X (compareOp op) z) (ha:QE Γ X a pa) (hb:QE Γ X b pb) (hm:behindInMarks op b=false):QE Γ X (.Compare a [op] [b] pos) (zOp z pa pb) :=by
 obtain⟨r,h1,h2⟩:=ho;exact(Gr h1 ha hb hm).imp fun σ H Q h=>zv h2 h
def zBool (Q:Bool->Mh->Prop):ZK:=fun d M=>match d with | .bl k=>Q k M|_=>False
theorem iA {Q:Bool->Mh->Prop}{d:Dv}{M:Mh}(h:zBool Q d M):∃k,d=.bl k/\Q k M :=by
 unfold zBool at h;split at h
 ·exact⟨_,rfl,h⟩
 ·exact h.elim
def zTest (p:aG):cq:=fun ρ M Q=>p ρ M (zBool Q)
theorem vo {p:aG}{t:TE}(i:∀σ H Q,lE Γ p σ H Q->t σ H Q) {σ:St}{H:Hp}{Q:Bool->Hp->Prop}(h:lT Γ (zTest p) σ H Q):yO t σ H Q :=by
 obtain⟨β,ρ,M,Q',zr,h,q⟩:=h;refine i _ _ _ ⟨β,ρ,M,_,zr,h,fun d M1 v H1 x1 r1 h1=>?_⟩
 obtain⟨k,rfl,h2⟩:=iA h1;exact⟨k,de r1,q k M1 H1 x1 h2⟩
theorem bE {op:S6}{z:eZ}(ho:fG Γ X (compareOp op) z) (ha:QE Γ X a pa) (hb:QE Γ X b pb) (hm:behindInMarks op b=false):QT Γ X (.Compare a [op] [b] pos) (zTest (zOp z pa pb)) :=by
 obtain⟨r,h1,h2⟩:=ho;exact(Gs h1 ha hb hm).imp fun σ H Q h=>vo (fun _ _ _=>zv h2) h
theorem fH {e:hX}{p:aG}(h:QE Γ X e p) (he:∀whole,isTrue e X.env whole=(do let v <- whole;standAt e.pos;holding [v] (truthy v)) :=by intro _;rfl):QT Γ X e (zTest p):=
 (HF h he).imp fun σ H Q h=>vo (fun _ _ _ h=>h) h
def zChain (z z':eZ) (pa pb pc:aG):aG:=fun ρ M Q=>pa ρ M fun x M1=>pb ρ M1 fun y M2=>z x y M2 (zBool fun k M3=>if k=true then pc ρ M3 fun u M4=>z' y u M4 Q else Q (.bl false) M3)
theorem yf {r r':R2}{z z':eZ}(hz:oP Γ r z) (QU:oP Γ r' z') {σ:St}{H:Hp}{Q:VK}(h:lE Γ (zChain z z' pa pb pc) σ H Q):uo r r' (lE Γ pa) (lE Γ pb) (lE Γ pc) σ H Q :=by
 obtain⟨β,ρ,M,Q',zr,h,q⟩:=h;refine⟨β,ρ,M,_,zr,h,fun d M1 v H1 x1 r1 h1=>⟨β,ρ,M1,_,zr.step x1,h1,fun e M2 u H2 x2 r2 h2=>hz β v u d e M2 H2 _ _ zr.eP zr.ew zr.eK x2.mz (r1.ex x2) r2 h2 fun d' M3 v' H3 x3 r3 h3=>?_⟩⟩
 obtain⟨k,rfl,h4⟩:=iA h3;have JI:=x1.trans (x2.trans x3);refine⟨k,de r3,?_⟩;cases k with
 |true=>
  rw[if_pos rfl]at h4 ⊢;exact⟨β,ρ,M3,_,zr.step JI,h4,fun f M4 g H4 x4 r4 h5=>QU β u g e f M4 H4 _ _ zr.eP zr.ew zr.eK x4.mz ((r2.ex x3).ex x4) r4 h5 fun d5 M5 v5 H5 x5 r5 q5=>q _ _ _ _ (JI.trans (x4.trans x5)) r5 q5⟩
 |false=>
  rw[if_neg gc]at h4 ⊢;exact q _ _ _ _ JI (.bl _) h4
theorem Eh {op jG:S6}{z z':eZ}(ho:fG Γ X (compareOp op) z) (fq:fG Γ X (compareOp jG) z') (ha:QE Γ X a pa) (hb:QE Γ X b pb) (hc:QE Γ X c pc) (hm:lastMarks [op,jG] [b,c]=false :=by with_unfolding_all rfl) :
  QE Γ X (.Compare a [op,jG] [b,c] pos) (zChain z z' pa pb pc) :=by
 obtain⟨r,h1,h2⟩:=ho;obtain⟨r',JK,JL⟩:=fq;exact(DG h1 JK ha hb hc hm).imp fun σ H Q h=>yf h2 JL h
theorem Ei {op jG:S6}{z z':eZ}(ho:fG Γ X (compareOp op) z) (fq:fG Γ X (compareOp jG) z') (ha:QE Γ X a pa) (hb:QE Γ X b pb) (hc:QE Γ X c pc) (hm:lastMarks [op,jG] [b,c]=false :=by with_unfolding_all rfl) :
  QT Γ X (.Compare a [op,jG] [b,c] pos) (zTest (zChain z z' pa pb pc)) :=by
 obtain⟨r,h1,h2⟩:=ho;obtain⟨r',JK,JL⟩:=fq;exact(DH h1 JK ha hb hc hm).imp fun σ H Q h=>vo (fun _ _ _=>yf h2 JL) h
variable {tA Aq:cq}{rest:List hX}
def zOr (t u:cq):cq:=fun ρ M Q=>t ρ M fun c M1=>if c=true then Q true M1 else u ρ M1 Q
def zNot (t:cq):cq:=fun ρ M Q=>t ρ M fun c M1=>Q (!c) M1
theorem nJ (ha:QT Γ X a tA):QW Γ X (.BoolOp .Or [a] pos) tA:=HG ha
theorem og (ha:QT Γ X a tA) (hb:QW Γ X (.BoolOp .Or (b::rest) pos) Aq):QW Γ X (.BoolOp .Or (a::b::rest) pos) (zOr tA Aq):=
 (LD ha hb).imp fun σ H Q ⟨β,ρ,M,Q',zr,h,q⟩=>⟨β,ρ,M,_,zr,h,fun k M1 H1 x1 h1=>by
  cases k with
  |false=>rw[if_neg gc]at h1 ⊢;exact⟨β,ρ,M1,_,zr.step x1,h1,fun k2 M2 H2 x2 h2=>q _ _ _ (x1.trans x2) h2⟩
  |true=>rw[if_pos rfl]at h1 ⊢;exact q _ _ _ x1 h1⟩
theorem gB (ha:QT Γ X a tA):QT Γ X (.UnaryOp .Not a pos) (zNot tA):=(HH ha).imp fun σ H Q ⟨β,ρ,M,Q',zr,h,q⟩=>⟨β,ρ,M,_,zr,h,fun k M1 H1 x1 h1=>q _ _ _ x1 h1⟩
theorem QW.pt {e:hX}{t:cq}(h:QW Γ X e t):QT Γ X e t:=PW.pt h
def zAndV (pa pb:aG):aG:=fun ρ M Q=>pa ρ M (zBool fun c M1=>if c=true then pb ρ M1 Q else Q (.bl false) M1)
def zNotV (pa:aG):aG:=fun ρ M Q=>pa ρ M (zBool fun c M1=>Q (.bl (!c)) M1)
theorem nK {op}(h:QE Γ X a pa):QE Γ X (.BoolOp op [a] pos) pa:=HI h
theorem la (ha:QE Γ X a pa) (hb:QE Γ X (.BoolOp .And (b::rest) pos) pb):QE Γ X (.BoolOp .And (a::b::rest) pos) (zAndV pa pb):=
 (HJ ha hb).imp fun σ H Q ⟨β,ρ,M,Q',zr,h,q⟩=>⟨β,ρ,M,_,zr,h,fun d M1 v H1 x1 r1 h1=>by
  obtain⟨k,rfl,h2⟩:=iA h1;refine⟨k,de r1,?_⟩;cases k with
  |true=>rw[if_pos rfl]at h2 ⊢;exact⟨β,ρ,M1,_,zr.step x1,h2,fun d2 M2 v2 H2 x2 r2 h2=>q _ _ _ _ (x1.trans x2) r2 h2⟩
  |false=>rw[if_neg gc]at h2 ⊢;exact q _ _ _ _ x1 (.bl _) h2⟩
theorem BO (ha:QE Γ X a pa):QE Γ X (.UnaryOp .Not a pos) (zNotV pa):=(HK ha).imp fun σ H Q ⟨β,ρ,M,Q',zr,h,q⟩=>⟨β,ρ,M,_,zr,h,fun d M1 v H1 x1 r1 h1=>by
  obtain⟨k,rfl,h2⟩:=iA h1;exact⟨k,de r1,q _ _ _ _ x1 (.bl _) h2⟩⟩
def zIfE (t:cq) (pa pb:aG):aG:=fun ρ M Q=>t ρ M fun c M1=>if c=true then pa ρ M1 Q else pb ρ M1 Q
theorem Ej (hc:QT Γ X c tA) (ha:QE Γ X a pa) (hb:QE Γ X b pb):QE Γ X (.IfExp c a b pos) (zIfE tA pa pb):=
 (Dx hc ha hb).imp fun σ H Q ⟨β,ρ,M,Q',zr,h,q⟩=>⟨β,ρ,M,_,zr,h,fun k M1 H1 x1 h1=>by
  cases k with
  |true=>rw[if_pos rfl]at h1 ⊢;exact⟨β,ρ,M1,_,zr.step x1,h1,fun d2 M2 v2 H2 x2 r2 h2=>q _ _ _ _ (x1.trans x2) r2 h2⟩
  |false=>rw[if_neg gc]at h1 ⊢;exact⟨β,ρ,M1,_,zr.step x1,h1,fun d2 M2 v2 H2 x2 r2 h2=>q _ _ _ _ (x1.trans x2) r2 h2⟩⟩
def zNil:gA:=fun _ M Q=>Q [] M
def zCons (p:aG) (r:gA):gA:=fun ρ M Q=>p ρ M fun d M1=>r ρ M1 fun ds M2=>Q (d::ds) M2
variable {es:List hX}{za:gA}
theorem ae:QA Γ X [] zNil:=Il.imp fun σ H Q ⟨β,ρ,M,Q',zr,h,q⟩=>q [] M [] H (.refl zr.mz) .nil h
theorem aa {e:hX}(ha:QE Γ X e pa) (hr:QA Γ X es za) (hs:starEach (e::es) X.env=(false,eval e X.env)::starEach es X.env :=by rfl):QA Γ X (e::es) (zCons pa za):=
 (Gv ha hr hs).imp fun σ H Q ⟨β,ρ,M,Q',zr,h,q⟩=>⟨β,ρ,M,_,zr,h,fun d M1 v H1 x1 r1 h1=>⟨β,ρ,M1,_,zr.step x1,h1,fun ds M2 vs H2 x2 r2 h2=>q _ _ _ _ (x1.trans x2) (.cons (r1.ex x2) r2) h2⟩⟩
def zTup (p:gA):aG:=fun ρ M Q=>p ρ M fun ds M1=>ds.length<=sizeLine/\Q (.tup ds) M1
def zLst (p:gA):aG:=fun ρ M Q=>p ρ M fun ds M1=>ds.length<=sizeLine/\Q (.lst ds) M1
def zLstP (p:gA):aG:=fun ρ M Q=>p ρ M fun ds M1=>ds.length<=sizeLine/\∀a,M1 a=none->Q (.ptr a) (aA M1 a (.lst ds))
theorem jU {x1}(h:QA Γ X es za):QE Γ X (.Tuple es x1 pos) (zTup za):=(Im h).imp fun σ H Q ⟨β,ρ,M,Q',zr,h,q⟩=>⟨β,ρ,M,_,zr,h,fun ds M1 vs H1 x1 r1 h1=>⟨by rw[r1.len];exact h1.1,fun p hp=>by
  have x2:=Ex.lay x1.mz hp (.tup vs);exact q _ _ _ _ (x1.trans x2) (vk (x1.mz.fz hp) aL (r1.ex x2)) h1.2⟩⟩
theorem vp (h:QA Γ X es za):QE Γ X (.List es pos) (zLst za):=(AJ h).imp fun σ H Q ⟨β,ρ,M,Q',zr,h,q⟩=>⟨β,ρ,M,_,zr,h,fun ds M1 vs H1 x1 r1 h1=>⟨by rw[r1.len];exact h1.1,fun p hp=>by
  have x2:=Ex.lay x1.mz hp (.lst vs);exact q _ _ _ _ (x1.trans x2) (nG (x1.mz.fz hp) aL (r1.ex x2)) h1.2⟩⟩
theorem gY (h:QA Γ X es za):QE Γ X (.List es pos) (zLstP za):=(AJ h).imp fun σ H Q ⟨β,ρ,M,Q',zr,h,q⟩=>⟨β,ρ,M,_,zr,h,fun ds M1 vs H1 x1 r1 h1=>⟨by rw[r1.len];exact h1.1,fun p hp=>by
  have x2:=Ex.own x1.mz (.inr hp) r1;exact q _ _ _ _ (x1.trans x2) (.ptr (by rw[updM_same];rfl)) (h1.2 p (x1.mz.free hp))⟩⟩
abbrev sO:=List Dv->Mh->ZK->Prop
def FJ (Γ:Gz) (r:List V->Hp->VK->Prop) (z:sO):Prop:=∀(β:Bz) xs ds M H Q Q',β.P=Γ.P->β.w=Γ.w->β.K=Γ.K->Mz β M H->aM β M H xs ds->z ds M Q'->(∀d' M' v H',Ex β M H M' H'->Rz β M' H' v d'->Q' d' M'->Q v H')->r xs H Q
def eJ (Γ:Gz) (X:Cx) (f:ap) (z:sO):Prop:=∃r,cw X f r/\FJ Γ r z
def zCB (z:sO) (p:gA):aG:=fun ρ M Q=>p ρ M fun ds M1=>z ds M1 Q
theorem JM {r:List V->Hp->VK->Prop}{z:sO}(hz:FJ Γ r z) {σ:St}{H:Hp}{Q:VK}(h:lE Γ (zCB z za) σ H Q):Iq r (lA Γ za) σ H Q :=by
 obtain⟨β,ρ,M,Q',zr,h,q⟩:=h;exact⟨β,ρ,M,_,zr,h,fun ds M1 vs H1 x1 r1 h1=>hz β vs ds M1 H1 _ _ zr.eP zr.ew zr.eK x1.mz r1 h1 fun d' M' v' H' x2 r2 q2=>q _ _ _ _ (x1.trans x2) r2 q2⟩
variable {st:tz}{NY:List tz}{p p2:cK}{e:hX}{pe:aG}
def zNext:cK:=fun D ρ M=>D.nx ρ M
def zSeq (p q:cK):cK:=fun D ρ M=>p {D with nx:=q D} ρ M
theorem qss_nil:nI Γ X [] zNext:=Gi.imp fun D σ H ⟨β,ρ,M,D',zr,h,r⟩=>r.nx ρ M σ H (.refl zr.mz) zr h
theorem af (h1:QS Γ X st p) (h2:nI Γ X NY p2):nI Γ X (st::NY) (zSeq p p2):=(Dz h1 h2).imp fun D σ H ⟨β,ρ,M,D',zr,h,r⟩=>
 ⟨β,ρ,M,_,zr,h,fun cU M' aQ H' x e6 h'=>⟨β,cU,M',D',e6,h',r.step x⟩,r.rt,r.bk,r.ct⟩
theorem au (h1:QS Γ X st p):nI Γ X [st] p:=Gj h1
def zDrop (p:aG):cK:=fun D ρ M=>p ρ M fun _ M1=>D.nx ρ M1
theorem fb (he:QE Γ X e pe) (hs:swapsWith e none pos.line X.env=pure false :=by rfl):QS Γ X (.Expr e pos) (zDrop pe):=(Gk he hs).imp fun D σ H ⟨β,ρ,M,D',zr,h,r⟩=>
 ⟨β,ρ,M,_,zr,h,fun d M1 v H1 x1 r1 h1=>r.nx ρ M1 σ H1 x1.ev (zr.step x1) h1⟩
def zRet (p:aG):cK:=fun D ρ M=>p ρ M D.rt
theorem aZ (he:QE Γ X e pe):QS Γ X (.Return (some e) pos) (zRet pe):=(HL he).imp fun D σ H ⟨β,ρ,M,D',zr,h,r⟩=>⟨β,ρ,M,_,zr,h,fun d M' v H' x r1 h1=>r.rt _ _ _ _ x.ev (zr.ent.trans x.toEy) r1 h1⟩
def zIfS (c:cq) (p q:cK):cK:=fun D ρ M=>c ρ M fun b M1=>if b=true then p D ρ M1 else q D ρ M1
theorem dP {as bs:List tz}{pa pb:cK}(hc:QT Γ X c tA) (ha:nI Γ X as pa) (hb:nI Γ X bs pb):QS Γ X (.If c as bs pos) (zIfS tA pa pb):=(LN hc ha hb).imp fun D σ H ⟨β,ρ,M,D',zr,h,r⟩=>
 ⟨β,ρ,M,_,zr,h,fun k M1 H1 x1 h1=>by
  cases k with
  |true=>rw[if_pos rfl]at h1 ⊢;exact⟨β,ρ,M1,D',zr.step x1,h1,r.step x1.ev⟩
  |false=>rw[if_neg gc]at h1 ⊢;exact⟨β,ρ,M1,D',zr.step x1,h1,r.step x1.ev⟩⟩
def zgName (i:Nat):bS:=fun d ρ M N=>N (ρ.set i (some d)) M
theorem aI {i:Nat}{x:cb}(hN:X.N.Nodup) (hi:X.N[i]?=some x) (hx:Loc X.env.scope x) (hf:X.fn x=true\/X.env.scope.names.lookup x=some .local :=by first|exact .inl rfl|exact .inr rfl|assumption):QG Γ X (.Name x pos) (zgName i):=
 (Gm hN hi hx hf).imp fun v σ H N ⟨β,d,ρ,M,N',zr,r,h,q⟩=>q _ _ _ _ (.refl zr.mz) (zr.set i r) h
def zAsg (p:aG) (g:bS):cK:=fun D ρ M=>p ρ M fun d M1=>g d ρ M1 D.nx
theorem Mj {g:bS}{D:Ends}{σ:St}{H:Hp}(h:lS Γ (zAsg pe g) D σ H):ud (lE Γ pe) (lG Γ g) D σ H :=by
 obtain⟨β,ρ,M,D',zr,h,r⟩:=h;exact⟨β,ρ,M,_,zr,h,fun d M1 v H1 x1 r1 h1=>⟨β,d,ρ,M1,D'.nx,zr.step x1,r1,h1,fun cU M' aQ H' x e6 h'=>r.nx _ _ _ _ (x1.trans x).ev e6 h'⟩⟩
theorem lb {tg:hX}{g:bS}(he:QE Γ X e pe) (hg:QG Γ X tg g) (hs:swapsWithSole [tg] e pos.line X.env=pure false :=by rfl) (hw:swappedStores [tg] e X.env=pure none :=by rfl)
  (h1:(assignEach [tg] X.env).map (·.2)=[assign tg X.env] :=by rfl):QS Γ X (.Assign [tg] e pos) (zAsg pe g):=(HP he hg hs hw h1).imp fun D σ H h=>Mj h
theorem zx {t:TE}(i:∀σ H Q,lE Γ pe σ H Q->t σ H Q) {n:Nat}{D:Ends}{σ:St}{H:Hp}(h:lS Γ (zAsg pe (zgName n)) D σ H):ud t (tR n) D σ H :=by
 obtain⟨β,ρ,M,D',zr,h,r⟩:=h;exact i _ _ _ ⟨β,ρ,M,_,zr,h,fun d M1 v H1 x1 r1 h1=>r.nx _ _ _ _ x1.ev ((zr.step x1).set n r1) h1⟩
theorem aC {i:Nat}{x:cb}{pos':xp}(hN:X.N.Nodup) (hi:X.N[i]?=some x) (hx:Loc X.env.scope x) (he:QE Γ X e pe) (hs:swapsWith e (some (.Name x pos')) pos.line X.env=pure false :=by rfl) (hf:X.fn x=true\/X.env.scope.names.lookup x=some .local :=by first|exact .inl rfl|exact .inr rfl|assumption) :
  QS Γ X (.Assign [.Name x pos'] e pos) (zAsg pe (zgName i)):=(HQ hN hi hx he hs hf).imp fun D σ H h=>zx (fun _ _ _ h=>h) h
end
section
variable {X:Cx}{Γ:Gz}{β:Bz}
def ziTup (p:aG):eY:=fun ρ M R=>p ρ M fun d M1=>match d with | .tup ds=>R ds M1|_=>False
def ziLst (p:aG):eY:=fun ρ M R=>p ρ M fun d M1=>match d with | .lst ds=>R ds M1|_=>False
def cV (lo:Int) (n:Nat):List Dv:=(im n).map fun i=>.int (lo+(i:Nat))
def ziRng1 (p:gA):eY:=fun ρ M R=>p ρ M fun ds M1=>match ds with | [.int j] => -(2 ^ 62)<=j/\j<2 ^ 62/\R (cV 0 j.toNat) M1|_=>False
def ziRng2 (p:gA):eY:=fun ρ M R=>p ρ M fun ds M1=>match ds with | [.int i,.int j]=>(-(2 ^ 62)<=i/\i<2 ^ 62 /\ -(2 ^ 62)<=j/\j<2 ^ 62)/\R (cV i (j - i).toNat) M1|_=>False
theorem lJ {J:It}{vs:List V}{ds:List Dv}{M:Mh}{H:Hp}(r:aM β M H vs ds) (h:∀M' H',Ey M H M' H'->Runs J vs H'):FI β J ds M H:=fun cT M' H' bx x m i=>by
 have q:=h M' H' x i;rw[<- r.len];refine⟨fun hi=>⟨(q.1 hi).1,fun v jT y=>?_⟩,q.2⟩
 obtain⟨e,hv⟩:=(q.1 hi).2 v jT y;subst e;obtain⟨d,hd,rd⟩:=r.get' hv;exact⟨.refl m,d,hd,(rd.bx bx).ey x⟩
variable {tg l:hX}{p:aG}{pa:gA}{K:bn}
theorem lg (hK:X.K=K) (hl:QE Γ X l p):QI Γ X tg l (ziTup p):=(GI hK hl).imp fun σ H R ⟨β,ρ,M,R',zr,h,q⟩=>⟨β,ρ,M,_,zr,h,fun d M1 v H1 x1 r1 h1=>by
 revert h1
 split
 ·intro h1;obtain⟨a,vs,rfl,m,e,rs⟩:=dO r1;exact⟨a,rfl,⟨_,dr.of e⟩,q _ _ _ _ x1 (lJ rs fun M' H' x=>DU (dr.of (x.get m.1 e rfl))) h1⟩
 ·exact fun h=>h.elim⟩
theorem cW (hK:X.K=K) (hl:QE Γ X l p):QI Γ X tg l (ziLst p):=(DV hK hl).imp fun σ H R ⟨β,ρ,M,R',zr,h,q⟩=>⟨β,ρ,M,_,zr,h,fun d M1 v H1 x1 r1 h1=>by
 revert h1
 split
 ·intro h1;obtain⟨a,vs,rfl,m,e,rs⟩:=gX r1;exact⟨a,rfl,⟨_,bU.of e⟩,q _ _ _ _ x1 (lJ rs fun M' H' x=>Bf (bU.of (x.get m.1 e rfl))) h1⟩
 ·exact fun h=>h.elim⟩
theorem sP {lo:Int}{n:Nat}{M:Mh}{H:Hp}:aM β M H ((im n).map fun i=>V.int (lo+(i:Nat))) (cV lo n):=⟨by simp[cV],fun i v d a b=>by
 unfold cV at b;rw[ij]at a b;cases e:(im n)[i]? with
 |none=>rw[e]at a;cases a
 |some c=>rw[e]at a b;cases a;cases b;exact .int _⟩
theorem cX {xs:List V}{d:Dv}{M:Mh}{H:Hp}(r:aM β M H xs [d]):∃v,xs=[v]/\Rz β M H v d :=by
 match xs,r with
 | [v],r=>exact⟨v,rfl,r.head⟩
 | [],r=>exact absurd r.len (by simp)
 |_::_::_,r=>exact absurd r.len (by simp)
theorem oh {xs:List V}{d e:Dv}{M:Mh}{H:Hp}(r:aM β M H xs [d,e]):∃v u,xs=[v,u]/\Rz β M H v d/\Rz β M H u e :=by
 match xs,r with
 | [v,u],r=>exact⟨v,u,rfl,r.head,r.tail.head⟩
 | [],r=>exact absurd r.len (by simp)
 | [_],r=>exact absurd r.len (by simp)
 |_::_::_::_,r=>exact absurd r.len (by simp)
section
variable {e e1 e2:hX}{pr pos:xp}
theorem JN {σ:St}{H:Hp}{R:It->Hp->Prop}(h:lI Γ (ziRng1 pa) σ H R):Fo (lA Γ pa) σ H R :=by
 obtain⟨β,ρ,M,R',zr,h,q⟩:=h;refine⟨β,ρ,M,_,zr,h,fun ds M1 vs H1 x1 r1 h1=>?_⟩
 revert h1
 split
 ·rintro⟨b1,b2,h1⟩;obtain⟨v,rfl,r⟩:=cX r1;rw[aH r];exact⟨_,rfl,b1,b2,q _ _ _ _ x1 (lJ sP fun M' H' x=>qb) h1⟩
 ·exact fun h=>h.elim
theorem JO {σ:St}{H:Hp}{R:It->Hp->Prop}(h:lI Γ (ziRng2 pa) σ H R):Fp (lA Γ pa) σ H R :=by
 obtain⟨β,ρ,M,R',zr,h,q⟩:=h;refine⟨β,ρ,M,_,zr,h,fun ds M1 vs H1 x1 r1 h1=>?_⟩
 revert h1
 split
 ·rintro⟨b1,h1⟩;obtain⟨v,u,rfl,r,r'⟩:=oh r1;rw[aH r,aH r'];exact⟨_,_,rfl,b1,q _ _ _ _ x1 (lJ sP fun M' H' x=>qb) h1⟩
 ·exact fun h=>h.elim
end
def zLoop (g:bS) (tb:cK) (D:gF):List Dv->av->Mh->Prop
 | [],ρ,M=>D.nx ρ M
 |d::ds,ρ,M=>g d ρ M fun lh M2=>tb {D with nx:=zLoop g tb D ds,ct:=zLoop g tb D ds,bk:=D.nx} lh M2
def zFor (zi:eY) (g:bS) (tb:cK):cK:=fun D ρ M=>zi ρ M fun ds M1=>zLoop g tb D ds ρ M1
def zForM (zi:eY) (g:bS) (tb:Mh->cK):cK:=fun D ρ M=>zi ρ M fun ds M1=>zLoop g (tb M1) D ds ρ M1
theorem Zr.root {M:Mh}{ρ:av}{σ:St}{H:Hp}(z:Zr Γ β M ρ σ H):Zr ⟨β,M,H⟩ β M ρ σ H:=⟨rfl,rfl,rfl,rfl,fun _ h=>h,z.mz.wf,.refl,z.mz,z.len,z.at'⟩
theorem Zr.BP {M M1:Mh}{ρ NZ:av}{σ ue:St}{H H1:Hp}(z:Zr Γ β M ρ σ H) (y:Zr ⟨β,M,H⟩ β M1 NZ ue H1):Zr Γ β M1 NZ ue H1:=⟨z.eP,z.ew,z.eK,z.et,z.sub,z.wf,z.ent.trans y.ent,y.mz,y.len,y.at'⟩
theorem Mk {zi:eY}{g:bS}{tb:Mh->cK}{t:TS}(hb:∀bF:Gz,bF.P=Γ.P->bF.w=Γ.w->bF.K=Γ.K->bF.tb=Γ.tb->∀D σ H,lS bF (tb bF.M0) D σ H->t D σ H) {tg:TG}(hg:∀bF:Gz,bF.P=Γ.P->bF.w=Γ.w->bF.K=Γ.K->bF.tb=Γ.tb->∀x σ H N,lG bF g x σ H N->tg x σ H N) {D:Ends}{σ:St}{H:Hp}(h:lS Γ (zForM zi g tb) D σ H):HW (lI Γ zi) tg t D σ H :=by
 obtain⟨β,ρ,M,D',zr,h,r⟩:=h;refine⟨β,ρ,M,_,zr,h,fun ds M1 H1 J x1 it h1=>?_⟩
 have fI:=zr.step x1;refine⟨fun i m aQ H'=>m=ds.length - i/\i<=ds.length/\∃cU M',Zr ⟨β,M1,H1⟩ β M' cU aQ H'/\zLoop g (tb M1) D' (ds.drop i) cU M',⟨ds.length,rfl,sB _,ρ,M1,fI.root,h1⟩,?_⟩
 rintro i m aQ H' ⟨rfl,hi,cU,M',e6,h'⟩;have ev:∀{M2:Mh} {lh:av} {pN:St} {H2:Hp},Zr ⟨β,M1,H1⟩ β M2 lh pN H2->Ev β M H M2 H2:=fun z=>x1.ev.trans ⟨z.ent.keep,z.ent.new,z.mz⟩
 by_cases aD:i<ds.length
 ·have q:=(it β M' H' .refl e6.ent e6.mz i).1 aD;refine .inr ⟨q.1,fun pN H2=>∃lh M2,Zr ⟨β,M1,H1⟩ β M2 lh pN H2/\zLoop g (tb M1) D' (ds.drop (i+1)) lh M2,fun pN H2 ⟨lh,M2,QV,h2⟩=>⟨ds.length - (i+1),by omega,rfl,aD,lh,M2,QV,h2⟩,fun v jT y=>?_⟩
  obtain⟨x2,d,hd,rd⟩:=q.2 v jT y;have e:ds.drop i=d::ds.drop (i+1) :=by
   rw[zn aD];rw[ac aD]at hd;cases hd;rfl
  rw[e]at h';refine hg ⟨β,M1,H1⟩ zr.eP zr.ew zr.eK zr.et _ _ _ _ ⟨β,d,cU,M',_,e6.step x2,rd,h',fun QX M3 mx H3 x3 QY h3=>hb ⟨β,M1,H1⟩ zr.eP zr.ew zr.eK zr.et _ _ _ ⟨β,QX,M3,_,QY,h3,?_⟩⟩
  exact⟨fun qF M4 BQ H4 x4 mF h4=>⟨qF,M4,mF,h4⟩,fun d4 M4 v4 H4 x4 e4 r4 h4=>r.rt _ _ _ _ (x1.ev.trans ⟨e4.keep,e4.new,x4.mz⟩) (fI.ent.trans e4) r4 h4,fun qF M4 BQ H4 x4 mF h4=>r.nx _ _ _ _ (ev mF) (fI.BP mF) h4,fun qF M4 BQ H4 x4 mF h4=>⟨qF,M4,mF,h4⟩⟩
 ·have e:i=ds.length :=by omega
  subst e;rw[Is]at h';exact .inl ⟨(it β M' H' .refl e6.ent e6.mz _).2 (bv _),r.nx _ _ _ _ (ev e6) (fI.BP e6) h'⟩
def QZ (Γ:Gz) (p:Mh->cK):TS:=fun D σ H=>∃bF:Gz,bF.P=Γ.P/\bF.w=Γ.w/\bF.K=Γ.K/\bF.tb=Γ.tb/\lS bF (p bF.M0) D σ H
def Q0 (Γ:Gz) (p:bS):TG:=fun x σ H N=>∃bF:Gz,bF.P=Γ.P/\bF.w=Γ.w/\bF.K=Γ.K/\bF.tb=Γ.tb/\lG bF p x σ H N
theorem rK {body:List tz}{iter:hX}{zi:eY}{g:bS}{tb:Mh->cK}{pos:xp}(hp:Vk (model X.prog X.w) X.A X.env X.xe) (hc:X.calm=true) (hi:QI Γ X tg iter zi)
  (FK:∀(bF:Gz) (M1:Mh),bF.M0=M1->bF.P=Γ.P->bF.w=Γ.w->bF.K=Γ.K->bF.tb=Γ.tb->QG bF X tg g/\nI bF X body (tb M1))
  (hs:∀x,foldedSetIterable iter X.env x=pure x :=by intro _;rfl):QS Γ X (.For tg iter body [] pos) (zForM zi g tb):=
 (HX (g:=Q0 Γ g) (tb:=QZ Γ tb) hp hc hi (fun pins s σ H v u Q I r h=>by obtain⟨bF,e1,e2,e3,e4,h⟩:=h;exact(FK bF _ rfl e1 e2 e3 e4).1 pins s σ H v u Q I r h) ⟨fun pins s σ H D I h=>by obtain⟨bF,e1,e2,e3,e4,h⟩:=h;exact(FK bF _ rfl e1 e2 e3 e4).2 pins s σ H D I h⟩ hs).imp
  fun D σ H h=>Mk (fun bF e1 e2 e3 e4 D σ H h=>⟨bF,e1,e2,e3,e4,h⟩) (fun bF e1 e2 e3 e4 x σ H N h=>⟨bF,e1,e2,e3,e4,h⟩) h
theorem dQ {body:List tz}{iter:hX}{zi:eY}{g:bS}{tb:cK}{pos:xp}(hp:Vk (model X.prog X.w) X.A X.env X.xe) (hc:X.calm=true) (hi:QI Γ X tg iter zi)
  (FK:∀bF:Gz,bF.P=Γ.P->bF.w=Γ.w->bF.K=Γ.K->bF.tb=Γ.tb->QG bF X tg g/\nI bF X body tb)
  (hs:∀x,foldedSetIterable iter X.env x=pure x :=by intro _;rfl):QS Γ X (.For tg iter body [] pos) (zFor zi g tb):=rK (tb:=fun _=>tb) hp hc hi (fun bF M1 _ e1 e2 e3 e4=>FK bF e1 e2 e3 e4) hs
theorem bG {a:hX}{p pos:xp}(hg:Gl X "range") (hm:X.mg "range" = none) (ha:QA Γ X [a] pa) (hs:starEach [a] X.env=[(false,eval a X.env)] :=by rfl):QI Γ X tg (.Call (.Name "range" p) [a] [] pos) (ziRng1 pa):=(Ax hg hm ha hs).imp fun σ H R h=>JN h
theorem BR {a b:hX}{p pos:xp}(hg:Gl X "range") (hm:X.mg "range" = none) (ha:QA Γ X [a,b] pa) (hs:starEach [a,b] X.env=[(false,eval a X.env),(false,eval b X.env)] :=by rfl) (uh:starEach [b] X.env=[(false,eval b X.env)] :=by rfl) :
  QI Γ X tg (.Call (.Name "range" p) [a,b] [] pos) (ziRng2 pa):=(Ay hg hm ha hs uh).imp fun σ H R h=>JO h
def BU (c:cq) (tb:cK):cK:=fun D ρ M=>∃W:Nat->av->Mh->Prop,(∃m,W m ρ M)/\∀m ρ M,W m ρ M->
 c ρ M fun b M1=>if b=true then tb {D with nx:=fun cU M'=>∃m',m'<m/\W m' cU M',ct:=fun cU M'=>∃m',m'<m/\W m' cU M',bk:=D.nx} ρ M1 else D.nx ρ M1
theorem GR {c:cq}{tb:cK}{D:Ends}{σ:St}{H:Hp}(h:lS Γ (BU c tb) D σ H):Au (lT Γ c) (lS Γ tb) D σ H :=by
 obtain⟨β,ρ,M,D',zr,⟨W,⟨m0,w0⟩,turn⟩,r⟩:=h;refine⟨fun m aQ H'=>∃cU M',Ev β M H M' H'/\Zr Γ β M' cU aQ H'/\W m cU M',⟨m0,ρ,M,.refl zr.mz,zr,w0⟩,?_⟩
 rintro m aQ H' ⟨cU,M',x',e6,w'⟩;refine⟨β,cU,M',_,e6,turn m cU M' w',fun k M1 H1 x1 h1=>?_⟩
 have BV:=x'.trans x1.ev;cases k with
 |true=>
  dsimp only at h1 ⊢;rw[if_pos rfl]at h1 ⊢;refine⟨fun pN H2=>∃m',m'<m/\∃lh M2,Ev β M H M2 H2/\Zr Γ β M2 lh pN H2/\W m' lh M2,fun pN H2 h2=>h2,β,cU,M1,_,e6.step x1,h1,?_⟩
  exact⟨fun qF M4 BQ H4 x4 mF ⟨m',hm,w4⟩=>⟨m',hm,qF,M4,BV.trans x4,mF,w4⟩,fun d4 M4 v4 H4 x4 e4 r4 h4=>r.rt _ _ _ _ (BV.trans x4) e4 r4 h4,fun qF M4 BQ H4 x4 mF h4=>r.nx _ _ _ _ (BV.trans x4) mF h4,fun qF M4 BQ H4 x4 mF ⟨m',hm,w4⟩=>⟨m',hm,qF,M4,BV.trans x4,mF,w4⟩⟩
 |false=>
  dsimp only at h1 ⊢;rw[if_neg gc]at h1 ⊢;exact r.nx _ _ _ _ BV (e6.step x1) h1
theorem jV {body:List tz}{c:hX}{zc:cq}{tb:cK}{pos:xp}(hp:Vk (model X.prog X.w) X.A X.env X.xe) (hc:QT Γ X c zc) (hb:nI Γ X body tb):QS Γ X (.While c body [] pos) (BU zc tb):=(DB hp hc hb).imp fun D σ H h=>GR h
theorem bO {g:bS}{tb:cK}{D:gF}(J:Nat->av->Mh->Prop) {ds:List Dv}{ρ:av}{M:Mh}(h0:J 0 ρ M)
  (hs:∀i d ρ M (N:av->Mh->Prop),ds[i]?=some d->J i ρ M->(∀cU M',J (i+1) cU M'->N cU M')->g d ρ M fun lh M2=>tb {D with nx:=N,ct:=N,bk:=D.nx} lh M2)
  (hd:∀ρ M,J ds.length ρ M->D.nx ρ M):zLoop g tb D ds ρ M :=by
 have key:∀(n i:Nat) ρ M,n=ds.length - i->i<=ds.length->J i ρ M->zLoop g tb D (ds.drop i) ρ M :=by
  intro n;induction n with
  |zero=>
   intro i ρ M e hi h;have:i=ds.length :=by omega
   subst this;rw[Is];exact hd _ _ h
  |succ n ih=>
   intro i ρ M e hi h;have aD:i<ds.length :=by omega
   rw[zn aD];exact hs i _ ρ M _ (ac aD) h fun ρ M h=>ih (i+1) ρ M (by omega) aD h
 exact key _ 0 ρ M rfl (sB _) h0
end
section
variable {X:Cx}{Γ:Gz}{β:Bz}
def zBlock (tn:Nat) (idx:List Nat) (ρ:av):av:=qr tn none++idx.map fun i=>(ρ[i]?).join
theorem Zr.block {M:Mh}{ρ:av}{σ:St}{H:Hp}(z:Zr Γ β M ρ σ H) (tn:Nat) (idx:List Nat):Zr Γ β M (zBlock tn idx ρ) (bc tn idx σ) H:=⟨z.eP,z.ew,z.eK,z.et,z.sub,z.wf,z.ent,z.mz,by simp[zBlock,bc],fun i d e=>by
 unfold zBlock at e;unfold bc;rw[UD]at e ⊢;rw[SZ]at e ⊢;split at e
 ·rw[Ps]at e;split at e<;>cases e
 ·rename_i hi;rw[if_neg hi];rw[ij]at e ⊢;cases q:idx[i - tn]? with
  |none=>rw[q]at e;cases e
  |some j=>
   rw[q]at e;have e2:ρ[j]?=some (some d) :=by
    simp only[Cf,EN]at e;cases q2:ρ[j]? with
    |none=>rw[q2]at e;cases e
    |some o=>rw[q2]at e;simp only[S7]at e;rw[e]
   obtain⟨v,hv,r⟩:=z.at' j d e2;exact⟨v,by simp[hv],r⟩⟩
theorem Zr.enter {M:Mh}{ρ:av}{σ:St}{H:Hp}{D:al}{o:HO}(z:Zr Γ β M ρ σ H) (hD:H D=none) (ho:nF o=true):Zr Γ (β.add D) M ρ σ (upd H D o):=
 ⟨z.eP,z.ew,z.eK,z.et,fun a h=>ci _ (z.sub a h),z.wf,z.ent.over (z.ent.gone hD (by
  cases e:Γ.M0 D with
  |none=>rfl
  |some u=>have:=z.ent.dom D (by rw[e];rfl);rw[z.mz.free hD]at this;cases this)),z.mz.enter hD ho,z.len,fun i d e=>let ⟨v,h,r⟩:=z.at' i d e;⟨v,h,r.enter hD⟩⟩
theorem Zr.over {M:Mh}{ρ:av}{σ:St}{H:Hp}{D:al}{o:HO}(z:Zr Γ β M ρ σ H) (hD:D∈β.hid) (ho:nF o=true) (hM:M D=none) (ht:D ∉ β.tb) (h0:Γ.H0 D=none):Zr Γ β M ρ σ (upd H D o):=
 ⟨z.eP,z.ew,z.eK,z.et,z.sub,z.wf,z.ent.over h0,z.mz.over hD ho hM ht,z.len,fun i d e=>let ⟨v,h,r⟩:=z.at' i d e;⟨v,h,r.over hD⟩⟩
abbrev oQ (Γ:Gz) (X:Cx) (ifs:List hX) (t:cq):Prop:=gv X ifs (lT Γ t)
def zNoIf:cq:=fun _ M Q=>Q true M
theorem cc:oQ Γ X [] zNoIf:=GD.imp fun σ H Q ⟨β,ρ,M,Q',zr,h,q⟩=>q true M H (.refl zr.mz) h
theorem oi {c:hX}{tc:cq}(h:QT Γ X c tc):oQ Γ X [c] tc:=GF h
def gq (g:bS) (tt:cq) (te:aG):List Dv->av->Mh->(List Dv->Mh->Prop)->Prop
 | [],_,M,Q=>Q [] M
 |d::ds,τ,M,Q=>g d τ M fun aj M2=>tt aj M2 fun b M3=>if b=true then te aj M3 fun y M4=>gq g tt te ds aj M4 fun ys M5=>Q (y::ys) M5 else gq g tt te ds aj M3 Q
structure Acc (Γ:Gz) (β:Bz) (D:al) (M1:Mh) (H1:Hp) (aU:av) (M:Mh) (τ:St) (H:Hp) (acc:List V) (b8:List Dv):Prop where
 ey:Ey M1 H1 M H
 m:M D=none
 zr:Zr Γ (β.add D) M aU τ H
 at':H D=some (.lst acc)
 rs:aM (β.add D) M H acc b8
 h1:H1 D=none
 h0:Γ.H0 D=none
 nt:D ∉ β.tb
theorem Acc.start {D:al}{M1:Mh}{H1:Hp}{aU:av}{τ:St}(zr:Zr Γ β M1 aU τ H1) (hD:H1 D=none):Acc Γ β D M1 H1 aU M1 τ (upd H1 D (.lst [])) [] []:=
 ⟨Ey.refl.over hD,zr.mz.free hD,zr.enter hD rfl,aL,.nil,hD,zr.ent.gone hD (by
  cases e:Γ.M0 D with
  |none=>rfl
  |some u=>have:=zr.ent.dom D (by rw[e];rfl);rw[zr.mz.free hD]at this;cases this),zr.mz.Ef hD⟩
section
variable {D:al}{M1 M M2:Mh}{H1 H H2:Hp}{aU rL:av}{τ aj:St}{acc:List V}{b8:List Dv}
theorem Acc.step (A:Acc Γ β D M1 H1 aU M τ H acc b8) (x:Ex (β.add D) M H M2 H2) (z:Zr Γ (β.add D) M2 rL aj H2):Acc Γ β D M1 H1 rL M2 aj H2 acc b8:=
 ⟨A.ey.trans x.toEy,x.new D _ A.m A.at',z,x.get A.m A.at' rfl,A.rs.ex x,A.h1,A.h0,A.nt⟩
theorem Acc.snoc (A:Acc Γ β D M1 H1 aU M τ H acc b8) {y:V}{d:Dv}(r:Rz (β.add D) M H y d):Acc Γ β D M1 H1 aU M τ (upd H D (.lst (acc++[y]))) (acc++[y]) (b8++[d]) :=by
 have hD:D∈(β.add D).hid:=f8;exact⟨A.ey.over A.h1,A.m,A.zr.over hD rfl A.m A.nt A.h0,aL,⟨by simp[A.rs.len],fun i v d a b=>((A.rs.snoc r).at' i v d a b).over hD⟩,A.h1,A.h0,A.nt⟩
theorem Acc.fz (A:Acc Γ β D M1 H1 aU M τ H acc b8) (m1:Mz β M1 H1):Fz β M D:=⟨A.m,(m1.fz A.h1).2⟩
theorem Acc.mz (A:Acc Γ β D M1 H1 aU M τ H acc b8):Mz β M H:=Mz.sub (β:=β.add D) (cT:=β) rfl rfl rfl rfl (fun a h=>ci _ h) A.zr.mz
theorem Acc.items (A:Acc Γ β D M1 H1 aU M τ H acc b8):aM β M H acc b8:=⟨A.rs.len,fun i v d a b=>Rz.sub (β:=β.add D) (cT:=β) rfl rfl rfl (fun a h=>ci _ h) (A.rs.at' i v d a b)⟩
theorem Acc.ex (A:Acc Γ β D M1 H1 aU M τ H acc b8):Ex β M1 H1 M H:=⟨A.ey,A.mz⟩
end
def zComp (tn:Nat) (idx:List Nat) (zi:eY) (g:bS) (tt:cq) (te:aG):aG:=fun ρ M Q=>zi ρ M fun ds M1=>ds.length<sizeLine/\gq g tt te ds (zBlock tn idx ρ) M1 fun ys M2=>Q (.lst ys) M2
def zCompP (tn:Nat) (idx:List Nat) (zi:eY) (g:bS) (tt:cq) (te:aG):aG:=fun ρ M Q=>zi ρ M fun ds M1=>ds.length<sizeLine/\gq g tt te ds (zBlock tn idx ρ) M1 fun ys M2=>∀a,M2 a=none->Q (.ptr a) (aA M2 a (.lst ys))
variable {zi:eY}{g:bS}{tt:cq}{te:aG}{tn:Nat}{idx:List Nat}
def nL (Γ:Gz) (β:Bz) (D:al) (M1:Mh) (H1:Hp) (g:bS) (tt:cq) (te:aG) (ds:List Dv) (Q':List Dv->Mh->Prop) (i m:Nat) (τ:St) (H:Hp):Prop:=
 m=ds.length - i/\i<=ds.length/\∃aU M acc b8,Acc Γ β D M1 H1 aU M τ H acc b8/\acc.length<=i/\gq g tt te (ds.drop i) aU M fun ys M2=>Q' (b8++ys) M2
theorem sQ {D:al}{M1:Mh}{H1:Hp}{ds:List Dv}{Q':List Dv->Mh->Prop}{J:It}(it:FI β J ds M1 H1) (hlen:ds.length<sizeLine) {i m:Nat}{τ:St}{H:Hp}(w:nL Γ β D M1 H1 g tt te ds Q' i m τ H)
  {C:V->St->Hp->Prop} (hC:∀y aj H4 acc,H4 D=some (.lst acc)->acc.length<sizeLine->(∃m',m'<m/\nL Γ β D M1 H1 g tt te ds Q' (i+1) m' aj (upd H4 D (.lst (acc++[y]))))->C y aj H4) :
  (J.stop i H/\∃aU M acc b8,Acc Γ β D M1 H1 aU M τ H acc b8/\acc.length<sizeLine/\Q' b8 M) \/
  (J.go i H/\∀x H',J.yld i H x H'->lG Γ g x τ H' fun aj H2=>lT Γ tt aj H2 fun b H3=>if b=true then lE Γ te aj H3 fun y H4=>C y aj H4 else ∃m',m'<m/\nL Γ β D M1 H1 g tt te ds Q' (i+1) m' aj H3) :=by
 obtain⟨rfl,hi,aU,M,acc,b8,A,y8,h⟩:=w;have q:=it (β.add D) M H (.add A.h1) A.ey A.zr.mz i;by_cases aD:i<ds.length
 ·refine .inr ⟨(q.1 aD).1,fun x H' y=>?_⟩
  obtain⟨x2,d,hd,rd⟩:=(q.1 aD).2 x H' y;have e:ds.drop i=d::ds.drop (i+1) :=by
   rw[zn aD];rw[ac aD]at hd;cases hd;rfl
  rw[e]at h;have A2:=A.step x2 (A.zr.step x2);refine⟨β.add D,d,aU,M,_,A2.zr,rd,h,fun cn M3 iw H3 x3 z3 h3=>?_⟩
  have A3:=A2.step x3 z3;refine⟨β.add D,cn,M3,_,z3,h3,fun b M4 H4 x4 h4=>?_⟩
  have A4:=A3.step x4 (z3.step x4);cases b with
  |false=>
   dsimp only at h4 ⊢;rw[if_neg gc]at h4 ⊢;exact⟨ds.length - (i+1),by omega,rfl,aD,cn,M4,acc,b8,A4,by omega,h4⟩
  |true=>
   dsimp only at h4 ⊢;rw[if_pos rfl]at h4 ⊢;refine⟨β.add D,cn,M4,_,A4.zr,h4,fun yd M5 yv H5 x5 r5 h5=>?_⟩
   have A5:=A4.step x5 (A4.zr.step x5);refine hC yv iw H5 acc A5.at' (by omega) ⟨ds.length - (i+1),by omega,rfl,aD,cn,M5,acc++[yv],b8++[yd],A5.snoc r5,by simp;omega,?_⟩
   have e2:(fun ys M2=>Q' (b8++[yd]++ys) M2)=fun ys M2=>Q' (b8++yd::ys) M2 :=by
    funext ys M2
    rw[Lo];rfl
   rw[e2];exact h5
 ·have e:i=ds.length :=by omega
  subst e;rw[Is]at h;refine .inl ⟨q.2 (bv _),aU,M,acc,b8,A,by omega,?_⟩
  have h':Q' (b8++[]) M:=h;rwa [EQ]at h'
theorem qG {D:al}{M1:Mh}{H1:Hp}{ds:List Dv}{Q':List Dv->Mh->Prop}{aU:av}{τ:St}(zr:Zr Γ β M1 aU τ H1) (hD:H1 D=none) (h:gq g tt te ds aU M1 Q'):nL Γ β D M1 H1 g tt te ds Q' 0 ds.length τ (upd H1 D (.lst [])):=
 ⟨rfl,sB _,aU,M1,[],[],.start zr hD,bv _,h⟩
theorem BW {σ:St}{H:Hp}{Q:VK}(h:lE Γ (zComp tn idx zi g tt te) σ H Q):tV tn idx (lI Γ zi) (lG Γ g) (lT Γ tt) (lE Γ te) σ H Q :=by
 obtain⟨β,ρ,M,Q',zr,h,q⟩:=h;refine⟨β,ρ,M,_,zr,h,fun ds M1 H1 J x1 it ⟨hlen,h1⟩ D hD=>?_⟩
 have fI:=zr.step x1;refine⟨nL Γ β D M1 H1 g tt te ds fun ys M2=>Q' (.lst ys) M2,⟨_,qG (fI.block tn idx) hD h1⟩,fun i m τ H' w=>?_⟩
 rcases sQ it hlen w (C:=fun y aj H4=>∃ys m',H4 D=some (.lst ys)/\ys.length<sizeLine/\m'<m/\nL Γ β D M1 H1 g tt te ds (fun ys M2=>Q' (.lst ys) M2) (i+1) m' aj (upd H4 D (.lst (ys++[y])))) (fun y aj H4 acc e hl ⟨m',hm,w'⟩=>⟨acc,m',e,hl,hm,w'⟩) with ⟨hs,aU,M',acc,b8,A,_,hq⟩|z
 ·exact .inl ⟨hs,q _ _ _ _ (x1.trans A.ex) (nG (A.fz fI.mz) A.at' A.items) hq⟩
 ·exact .inr z
theorem GU {σ:St}{H:Hp}{Q:VK}(h:lE Γ (zCompP tn idx zi g tt te) σ H Q):tV tn idx (lI Γ zi) (lG Γ g) (lT Γ tt) (lE Γ te) σ H Q :=by
 obtain⟨β,ρ,M,Q',zr,h,q⟩:=h;refine⟨β,ρ,M,_,zr,h,fun ds M1 H1 J x1 it ⟨hlen,h1⟩ D hD=>?_⟩
 have fI:=zr.step x1;refine⟨nL Γ β D M1 H1 g tt te ds fun ys M2=>∀a,M2 a=none->Q' (.ptr a) (aA M2 a (.lst ys)),⟨_,qG (fI.block tn idx) hD h1⟩,fun i m τ H' w=>?_⟩
 rcases sQ it hlen w (C:=fun y aj H4=>∃ys m',H4 D=some (.lst ys)/\ys.length<sizeLine/\m'<m/\nL Γ β D M1 H1 g tt te ds (fun ys M2=>∀a,M2 a=none->Q' (.ptr a) (aA M2 a (.lst ys))) (i+1) m' aj (upd H4 D (.lst (ys++[y])))) (fun y aj H4 acc e hl ⟨m',hm,w'⟩=>⟨acc,m',e,hl,hm,w'⟩) with ⟨hs,aU,M',acc,b8,A,_,hq⟩|z
 ·refine .inl ⟨hs,?_⟩;have Q2:D ∉ β.hid:=(A.fz fI.mz).2;have hM:M' D=none:=A.m;have mz:Mz β (aA M' D (.lst b8)) H':=by
   have rz:∀{v:V} {d:Dv},Rz (β.add D) M' H' v d->Rz β (aA M' D (.lst b8)) H' v d:=fun r=>by
    have ne:∀a,Fz (β.add D) M' a->Fz β (aA M' D (.lst b8)) a:=fun a f=>⟨by rw[ah (fun z=>f.2 (by rw[z];exact f8))];exact f.1,fun z=>f.2 (ci _ z)⟩
    induction r with
    |int i=>exact .int i
    |bl b=>exact .bl b
    |ao=>exact .ao
    |str z=>exact .str z
    |tup m e hl h ih=>exact .tup (ne _ m) e hl ih
    |lst m e hl h ih=>exact .lst (ne _ m) e hl ih
    |dk m e hk hl h ih=>exact .dk (ne _ m) e hk hl ih
    |dt m e hk hl h ih=>exact .dt (ne _ m) e hk hl ih
    |di m e m2 e2 hl h ih=>exact .di (ne _ m) e (ne _ m2) e2 hl ih
    |set m e=>exact .set (ne _ m) e
    |ptr m=>exact .ptr (by unfold aA;split;rfl;exact m)
    |exc m e=>exact .exc (ne _ m) e
    |bC m e=>exact .bC (ne _ m) e
    |cG m e=>exact .cG (ne _ m) e
    |cH e=>exact .cH e
    |raw v=>exact .raw v
   refine⟨fun a o e=>?_,A.zr.mz.tabs,fun a ha=>A.zr.mz.hids a (ci _ ha),fun a o e z=>?_,A.zr.mz.lams⟩
   by_cases ha:a=D
   ·subst ha;rw[updM_same]at e;cases e;exact⟨acc,A.at',A.rs.len,fun i v d a b=>rz (A.rs.at' i v d a b)⟩
   ·rw[ah ha]at e;have z:=A.zr.mz.obj a o e;cases o with
    |lst ds=>obtain⟨vs,z,l,r⟩:=z;exact⟨vs,z,l,fun i v d a b=>rz (r i v d a b)⟩
    |dk ks ds=>obtain⟨vs,z,hk,l,r⟩:=z;exact⟨vs,z,hk,l,fun i v d a b=>rz (r i v d a b)⟩
    |dt ks ds=>obtain⟨vs,z,hk,l,r⟩:=z;exact⟨vs,z,hk,l,fun i v d a b=>rz (r i v d a b)⟩
    |ts ks ds=>obtain⟨vs,z,hk,l,r⟩:=z;exact⟨vs,z,hk,l,fun i v d a b=>rz (r i v d a b)⟩
    |cJ=>exact z
   ·by_cases ha:a=D
    ·subst ha;exact Q2 z
    ·rw[ah ha]at e;exact A.zr.mz.apart a o e (ci _ z)
  have ey:Ey M1 H1 (aA M' D (.lst b8)) H':=⟨A.ey.keep,fun a h=>by unfold aA;split;rfl;exact A.ey.dom a h,fun a o m e=>by rw[ah (bI e A.h1)];exact A.ey.new a o m e⟩
  exact q _ _ _ _ (x1.trans ⟨ey,mz⟩) (.ptr (by rw[updM_same];rfl)) (hq D hM)
 ·exact .inr z
theorem Ek {P:al}{zi:eY}{R:It->Hp->Prop}{σ:St}{H:Hp}{ρ:av}{M:Mh}{R':List Dv->Mh->Prop}(hP:P∈Γ.tb) (zr:Zr Γ β M ρ σ H) (h:zi ρ M R') (q:∀ds M' H' J,Ex β M H M' H'->FI β J ds M' H'->R' ds M'->R J H'):A8 P (lI Γ zi) R σ H :=by
 refine⟨β,ρ,M,_,zr,h,fun ds M1 H1 J x1 it h1=>?_⟩
 have Fy:P∈β.tb :=by rw[zr.et];exact hP
 refine⟨x1.mz.tabs P Fy,fun ps t=>?_⟩
 have x2:=Ex.grow x1.mz Fy t;refine q ds M1 _ J (x1.trans x2) (fun cT M' H' bx ey mz=>it cT M' H' ⟨bx.P,bx.w,bx.K,bx.tb,bx.old,fun a ha=>?_⟩ (x2.toEy.trans ey) mz) h1
 rcases bx.new a ha with z|z
 ·exact .inl z
 ·right;cases e:H1 a with
  |none=>rfl
  |some o=>obtain⟨u,hu⟩:=Ee (p:=P) (o:=.cQ ps) ⟨o,e⟩;rw[z]at hu;cases hu
def ky (g:bS) (tt:cq) (te:aG):List Dv->av->Mh->(Bool->Mh->Prop)->Prop
 | [],_,M,Q=>Q true M
 |d::ds,τ,M,Q=>g d τ M fun aj M2=>tt aj M2 fun b M3=>if b=true then te aj M3 (zBool fun c M4=>if c=false then Q false M4 else ky g tt te ds aj M4 Q) else ky g tt te ds aj M3 Q
def zAll (tn:Nat) (idx:List Nat) (zi:eY) (g:bS) (tt:cq) (te:aG):aG:=fun ρ M Q=>zi ρ M fun ds M1=>ky g tt te ds (zBlock tn idx ρ) M1 fun b M2=>Q (.bl b) M2
theorem Ml {P:al}(hP:P∈Γ.tb) {σ:St}{H:Hp}{Q:VK}(h:lE Γ (zAll tn idx zi g tt te) σ H Q):IW P tn idx (lI Γ zi) (lG Γ g) (lT Γ tt) (lE Γ te) σ H Q :=by
 obtain⟨β,ρ,M,Q',zr,h,q⟩:=h;refine Ek hP zr h fun ds M1 H1 J x1 it h1=>?_
 have fI:=zr.step x1;refine⟨fun i m τ H'=>m=ds.length - i/\i<=ds.length/\∃aU M',Ex β M1 H1 M' H'/\Zr Γ β M' aU τ H'/\ky g tt te (ds.drop i) aU M' fun b M2=>Q' (.bl b) M2,⟨_,rfl,sB _,_,M1,.refl x1.mz,fI.block tn idx,h1⟩,?_⟩
 rintro i m τ H' ⟨rfl,hi,aU,M',x',e6,h'⟩;have qq:=it β M' H' .refl x'.toEy x'.mz i;by_cases aD:i<ds.length
 ·refine .inr ⟨(qq.1 aD).1,fun x jT y=>?_⟩
  obtain⟨x2,d,hd,rd⟩:=(qq.1 aD).2 x jT y;have e:ds.drop i=d::ds.drop (i+1) :=by
   rw[zn aD];rw[ac aD]at hd;cases hd;rfl
  rw[e]at h';refine⟨β,d,aU,M',_,e6.step x2,rd,h',fun cn M3 iw H3 x3 z3 h3=>⟨β,cn,M3,_,z3,h3,fun b M4 H4 x4 h4=>?_⟩⟩
  have jW:=x'.trans (x2.trans (x3.trans x4));cases b with
  |false=>
   dsimp only at h4 ⊢;rw[if_neg gc]at h4 ⊢;exact⟨ds.length - (i+1),by omega,rfl,aD,cn,M4,jW,z3.step x4,h4⟩
  |true=>
   dsimp only at h4 ⊢;rw[if_pos rfl]at h4 ⊢;refine⟨β,cn,M4,_,z3.step x4,h4,fun yd M5 yv H5 x5 r5 h5=>?_⟩
   obtain⟨k,rfl,h6⟩:=iA h5;refine⟨k,de r5,?_⟩;cases k with
   |false=>
    rw[if_pos rfl]at h6 ⊢;exact q _ _ _ _ (x1.trans (jW.trans x5)) (.bl _) h6
   |true=>
    rw[if_neg (by decide)]at h6 ⊢
    exact⟨ds.length - (i+1),by omega,rfl,aD,cn,M5,jW.trans x5,(z3.step x4).step x5,h6⟩
 ·have e:i=ds.length :=by omega
  subst e;rw[Is]at h';exact .inl ⟨qq.2 (bv _),q _ _ _ _ (x1.trans x') (.bl _) h'⟩
end
section
variable {X:Cx}{Γ:Gz}{β:Bz}{K:bn}
def zII (f:Int->Int->Dv):eZ:=fun d e M Q=>match d,e with | .int i,.int j=>Q (f i j) M|_,_=>False
def zIC (C:Int->Int->Prop) (f:Int->Int->Dv):eZ:=fun d e M Q=>match d,e with | .int i,.int j=>C i j/\Q (f i j) M|_,_=>False
theorem nM {g:Int->Int->V}{f:Int->Int->Dv}(h:∀β M H i j,Rz β M H (g i j) (f i j)):oP Γ (sk g) (zII f):=fun β x y d e M H Q Q' _ _ _ m rx ry z q=>by
 unfold zII at z;split at z
 ·exact⟨_,_,aH rx,aH ry,q _ _ _ _ (.refl m) (h ..) z⟩
 ·exact z.elim
theorem qH {C:Int->Int->Prop}{g:Int->Int->V}{f:Int->Int->Dv}(h:∀β M H i j,Rz β M H (g i j) (f i j)):oP Γ (rI C g) (zIC C f):=fun β x y d e M H Q Q' _ _ _ m rx ry z q=>by
 unfold zIC at z;split at z
 ·exact⟨_,_,aH rx,aH ry,z.1,q _ _ _ _ (.refl m) (h ..) z.2⟩
 ·exact z.elim
theorem gG:fG Γ X (binaryOp .Add) (zII fun i j=>.int (i+j)):=⟨_,Ib,nM fun _ _ _ _ _=>.int _⟩
theorem zy:fG Γ X (binaryOp .Sub) (zII fun i j=>.int (i - j)):=⟨_,Ic,nM fun _ _ _ _ _=>.int _⟩
theorem lK:fG Γ X (binaryOp .Mult) (zIC yN fun i j=>.int (i * j)):=⟨_,Ie,qH fun _ _ _ _ _=>.int _⟩
theorem vq:fG Γ X (binaryOp .FloorDiv) (zIC HZ fun i j=>.int (i / j)):=⟨_,Gq,qH fun _ _ _ _ _=>.int _⟩
theorem kz:fG Γ X (binaryOp .Mod) (zIC (fun _ j=>0<j) fun i j=>.int (i % j)):=⟨_,Ig,qH fun _ _ _ _ _=>.int _⟩
theorem Mm:fG Γ X (binaryOp .Pow) (zIC Ia fun i j=>.int (i ^ j.toNat)):=⟨_,Ih,qH fun _ _ _ _ _=>.int _⟩
theorem vr:fG Γ X (compareOp .Lt) (zII fun i j=>.bl (decide (i<j))):=⟨_,LV,nM fun _ _ _ _ _=>.bl _⟩
theorem El:fG Γ X (compareOp .LtE) (zII fun i j=>.bl (decide (i<=j))):=⟨_,LW,nM fun _ _ _ _ _=>.bl _⟩
theorem Em:fG Γ X (compareOp .Gt) (zII fun i j=>.bl (decide (j<i))):=⟨_,LX,nM fun _ _ _ _ _=>.bl _⟩
def scalZ (d e:Dv):Option Bool:=match d with
 | .int i=>(match e with | .int j=>some (decide (i=j)) | .ao=>some false | .str _=>some false|_=>none)
 | .bl i=>(match e with | .bl j=>some (decide (i=j)) | .ao=>some false | .str _=>some false|_=>none)
 | .str i=>(match e with | .str j=>some (decide (i=j)) | .ao=>some false | .int _=>some false | .bl _=>some false|_=>none)
 | .ao=>(match e with | .ao=>some true | .int _=>some false | .bl _=>some false | .str _=>some false|_=>none)
 |_=>none
def zEq:eZ:=fun d e M Q=>match scalZ d e with|some b=>Q (.bl b) M|none=>False
def zNe:eZ:=fun d e M Q=>match scalZ d e with|some b=>Q (.bl (!b)) M|none=>False
theorem vt {M:Mh}{H:Hp}{x y:V}{d e:Dv}{b:Bool}(rx:Rz β M H x d) (ry:Rz β M H y e) (h:scalZ d e=some b):DF x y=true/\decide (x=y)=b :=by
 unfold scalZ at h;split at h
 ·rw[aH rx];split at h<;>cases h
  ·rw[aH ry];exact⟨rfl,by simp⟩
  ·rw[i6 ry];exact⟨rfl,by simp⟩
  ·rw[cB ry];exact⟨rfl,by simp⟩
 ·rw[de rx];split at h<;>cases h
  ·rw[de ry];exact⟨rfl,by simp⟩
  ·rw[i6 ry];exact⟨rfl,by simp⟩
  ·rw[cB ry];exact⟨rfl,by simp⟩
 ·rw[cB rx];split at h<;>cases h
  ·rw[cB ry];exact⟨rfl,by simp⟩
  ·rw[i6 ry];exact⟨rfl,by simp⟩
  ·rw[aH ry];exact⟨rfl,by simp⟩
  ·rw[de ry];exact⟨rfl,by simp⟩
 ·rw[i6 rx];split at h<;>cases h
  ·rw[i6 ry];exact⟨rfl,by simp⟩
  ·rw[aH ry];exact⟨rfl,by simp⟩
  ·rw[de ry];exact⟨rfl,by simp⟩
  ·rw[cB ry];exact⟨rfl,by simp⟩
 ·cases h
theorem kQ:fG Γ X (compareOp .Eq) zEq:=⟨_,LR,fun β x y d e M H Q Q' _ _ _ m rx ry z q=>by
 unfold zEq at z;split at z
 ·rename_i b hb;obtain⟨h1,h2⟩:=vt rx ry hb;exact⟨h1,by rw[h2];exact q _ _ _ _ (.refl m) (.bl _) z⟩
 ·exact z.elim⟩
theorem En:fG Γ X (compareOp .NotEq) zNe:=⟨_,LU,fun β x y d e M H Q Q' _ _ _ m rx ry z q=>by
 unfold zNe at z;split at z
 ·rename_i b hb;obtain⟨h1,h2⟩:=vt rx ry hb;exact⟨h1,by rw[h2];exact q _ _ _ _ (.refl m) (.bl _) z⟩
 ·exact z.elim⟩
def isNonD:Dv->Option Bool
 | .ao=>some true
 | .raw _=>none
 |_=>some false
def zIsN (neg:Bool):eZ:=fun d e M Q=>match e,isNonD d with | .ao,some b=>Q (.bl (if neg then !b else b)) M|_,_=>False
def zSS (C:cb->cb->Prop) (f:cb->cb->Dv):eZ:=fun d e M Q=>match d,e with | .str i,.str j=>C i j/\Q (f i j) M|_,_=>False
def FL (i j:cb):Bool := !(LB j i 0 j.length 1).isEmpty
theorem Eo:fG Γ X (compareOp .In) (zSS (fun _ _=>True) fun i j=>.bl (FL i j)):=⟨_,AD,fun β x y d e M H Q Q' _ _ _ m rx ry z q=>by
 unfold zSS at z;split at z
 ·exact⟨_,_,cB rx,cB ry,q _ _ _ _ (.refl m) (.bl _) z.2⟩
 ·exact z.elim⟩
mutual
def bH:Dv->Option Dt
 | .int i=>some (.int i)
 | .bl b=>some (.bl b)
 | .ao=>some .ao
 | .str z=>some (.str z)
 | .tup ds=>(gH ds).map .tup
 | .lst ds=>(gH ds).map .lst
 |_=>none
def gH:List Dv->Option (List Dt)
 | []=>some []
 |d::ds=>match bH d,gH ds with|some a,some as=>some (a::as)|_,_=>none
end
theorem lL:∀{ds:List Dv}{ts:List Dt},gH ds=some ts->ds.length=ts.length/\∀(i:Nat) (d:Dv) (t:Dt),ds[i]?=some d->ts[i]?=some t->bH d=some t
 | [],ts,h=>by simp only[gH,EN]at h;subst h;exact⟨rfl,fun i d t a=>by simp at a⟩
 |d::ds,ts,h=>by
          simp only[gH]at h;split at h
          ·rename_i a as h1 h2;cases h;obtain⟨hl,q⟩:=lL h2;refine⟨by simp[hl],fun i e t x y=>?_⟩
           cases i with
           |zero=>simp at x y;subst x y;exact h1
           |succ i=>rw[BN]at x y;exact q i e t x y
          ·cases h
theorem BX {M:Mh}{H:Hp}{v:V}{d:Dv}(h:Rz β M H v d):∀{t:Dt},bH d=some t->dw H v t :=by
 induction h with
 |int i=>intro t e;simp only[bH,EN]at e;subst e;exact .int i
 |bl b=>intro t e;simp only[bH,EN]at e;subst e;exact .bl b
 |ao=>intro t e;simp only[bH,EN]at e;subst e;exact .ao
 |str z=>intro t e;simp only[bH,EN]at e;subst e;exact .str z
 |tup m e hl h ih=>
  intro t q;simp only[bH,At]at q;obtain⟨ts,q,rfl⟩:=q;obtain⟨l2,at2⟩:=lL q;refine .tup e (hl.trans l2) fun i x d hx hd=>?_
  have hi:=(cr.mp hd).1;have:=ac (l:=_) (i:=i) (show i<_ from l2▸hi);exact ih i x _ hx this (at2 i _ _ this hd)
 |lst m e hl h ih=>
  intro t q;simp only[bH,At]at q;obtain⟨ts,q,rfl⟩:=q;obtain⟨l2,at2⟩:=lL q;refine .lst e (hl.trans l2) fun i x d hx hd=>?_
  have hi:=(cr.mp hd).1;have:=ac (l:=_) (i:=i) (show i<_ from l2▸hi);exact ih i x _ hx this (at2 i _ _ this hd)
 |set m e=>intro t q;simp[bH]at q
 |ptr m=>intro t q;simp[bH]at q
 |exc m e=>intro t q;simp[bH]at q
 |bC m e=>intro t q;simp[bH]at q
 |cG m e=>intro t q;simp[bH]at q
 |cH e=>intro t q;simp[bH]at q
 |dk m e hk hl h ih=>intro t q;simp[bH]at q
 |dt m e hk hl h ih=>intro t q;simp[bH]at q
 |di m e m2 e2 hl h ih=>intro t q;simp[bH]at q
 |raw v=>intro t q;simp[bH]at q
def now (M:Mh):Dv->Dv
 | .ptr a=>match M a with|some (.lst ds)=>.lst ds|_=>.ptr a
 |d=>d
theorem oj {M:Mh}{H:Hp}{v:V}{d:Dv}(m:Mz β M H) (h:Rz β M H v d) {t:Dt}(e:bH (now M d)=some t):dw H v t :=by
 cases d with
 |ptr a=>
  simp only[now]at e;obtain⟨rfl,hs⟩:=cS h;cases q:M a with
  |none=>rw[q]at hs;cases hs
  |some o=>
   rw[q]at e;cases o with
   |cJ=>simp[bH]at e
   |dk ks es=>simp[bH]at e
   |dt ks es=>simp[bH]at e
   |ts ks es=>simp[bH]at e
   |lst ds=>
    obtain⟨vs,hv,rs⟩:=m.obj a _ q;simp only[bH,At]at e;obtain⟨ts,q,rfl⟩:=e;obtain⟨l2,at2⟩:=lL q;refine .lst hv (rs.len.trans l2) fun i x d hx hd=>?_
    have hi:=(cr.mp hd).1;have:=ac (l:=_) (i:=i) (show i<_ from l2▸hi);exact BX (rs.at' i x _ hx this) (at2 i _ _ this hd)
 |_=>exact BX h e
def vv (neg:Bool):eZ:=fun d e M Q=>match bH (now M d),bH (now M e) with|some a,some b=>gf a<=60/\Q (.bl (if neg then !cp a b else cp a b)) M|_,_=>False
theorem GV {neg:Bool}:oP Γ (D6 neg) (vv neg):=fun β x y d e M H Q Q' _ _ _ m rx ry z q=>by
 unfold vv at z;split at z
 ·rename_i a b h1 h2;exact⟨a,b,oj m rx h1,oj m ry h2,z.1,q _ _ _ _ (.refl m) (.bl _) z.2⟩
 ·exact z.elim
theorem Mp (hu:X.A.units+64<cLine):fG Γ X (compareOp .NotEq) (vv true):=⟨_,Jp hu,GV⟩
def itemsM (M:Mh):Dv->Option (List Dv)
 | .tup ds=>some ds
 | .lst ds=>some ds
 | .ptr a=>match M a with|some (.lst ds)=>some ds|_=>none
 |_=>none
theorem iB {M:Mh}{H:Hp}{x:V}{d:Dv}{ds:List Dv}(m:Mz β M H) (r:Rz β M H x d) (h:itemsM M d=some ds):∃a vs,x=.ref a/\(H a=some (.lst vs)\/H a=some (.tup vs))/\aM β M H vs ds :=by
 cases d with
 |tup es=>cases h;obtain⟨a,vs,e,_,h,rs⟩:=dO r;exact⟨a,vs,e,.inr h,rs⟩
 |lst es=>cases h;obtain⟨a,vs,e,_,h,rs⟩:=gX r;exact⟨a,vs,e,.inl h,rs⟩
 |ptr a=>
  obtain⟨rfl,hs⟩:=cS r;simp only[itemsM]at h;split at h
  ·rename_i es q;cases h;obtain⟨vs,hv,rs⟩:=m.obj a _ q;exact⟨a,vs,rfl,.inl hv,rs⟩
  ·cases h
 |_=>cases h
theorem GW {M:Mh}{H:Hp}{vs:List V}{ds:List Dv}(rs:aM β M H vs ds) {i:Int}{d:Dv}(h:bo ds i=some d):∃v,bo vs i=some v/\Rz β M H v d :=by
 unfold bo at h ⊢;rw[rs.len];cases e:ft ds.length i with
 |none=>rw[e]at h;cases h
 |some j=>
  rw[e]at h;obtain⟨v,hv,r⟩:=rs.get (i:=j) (d:=d) h;exact⟨v,hv,r⟩
def JP (Γ:Gz) (X:Cx) (z:eZ):Prop:=∃r,mQ X r/\oP Γ r z
def zIx:eZ:=fun d e M Q=>match e with
 | .int i=>(match d with
  | .str z=>z.length<=sizeLine/\(match bo z.cps.toList i with|some c=>Q (.str ⟨#[c]⟩) M|none=>False)
  |_=>match itemsM M d with|some ds=>(match bo ds i with|some r=>Q r M|none=>False)|none=>False)
 |_=>False
theorem aT (hK:X.K=K):JP Γ X zIx:=⟨_,xH hK,fun β x y d e M H Q Q' _ _ _ m rx ry z q=>by
 unfold zIx at z;split at z
 ·rename_i i;have hy:=aH ry;split at z
  ·rename_i s;obtain⟨hz,z⟩:=z;split at z
   ·rename_i c hc;exact .inr (.inr ⟨s,i,c,cB rx,hy,hz,hc,q _ _ _ _ (.refl m) (.str _) z⟩)
   ·exact z.elim
  ·split at z
   ·rename_i ds sR;obtain⟨a,vs,rfl,ha,rs⟩:=iB m rx sR;split at z
    ·rename_i r hr;obtain⟨v,hv,rv⟩:=GW rs hr;have z':=q _ _ _ _ (.refl m) rv z;rcases ha with ha|ha
     ·exact .inl ⟨a,vs,i,v,rfl,hy,bU.of ha,hv,z'⟩
     ·exact .inr (.inl ⟨a,vs,i,v,rfl,hy,dr.of ha,hv,z'⟩)
    ·exact z.elim
   ·exact z.elim
 ·exact z.elim⟩
theorem aE {a b:hX}{pa pb:aG}{z:eZ}{pos:xp}(hr:JP Γ X z) (ha:QE Γ X a pa) (hb:QE Γ X b pb) (hs:xE b):QE Γ X (.Subscript a b pos) (zOp z pa pb) :=by
 obtain⟨r,h1,h2⟩:=hr;exact(L0 h1 ha hb hs).imp fun σ H Q h=>zv h2 h
abbrev BZ:=av->Mh->(Option Int->Mh->Prop)->Prop
def lO (Γ:Gz) (p:BZ):TO:=fun σ H Q=>∃(β:Bz) (ρ:av) (M:Mh) (Q':Option Int->Mh->Prop),Zr Γ β M ρ σ H/\p ρ M Q'/\∀o M' H',Ex β M H M' H'->Q' o M'->Q o H'
def zoNone:BZ:=fun _ M Q=>Q none M
def zoSome (p:aG):BZ:=fun ρ M Q=>p ρ M fun d M1=>match d with | .int i=>Q (some i) M1|_=>False
theorem PO.imp {e:Option hX}{t t':TO}(h:PO X e t) (i:∀σ H Q,t' σ H Q->t σ H Q):PO X e t':=fun pins s σ H Q I q=>h pins s σ H Q I (i _ _ _ q)
theorem GX:PO X none (lO Γ zoNone):=PO.imp Gy fun σ H Q ⟨β,ρ,M,Q',zr,h,q⟩=>q _ _ _ (.refl zr.mz) h
theorem GY {e:hX}{p:aG}(h:QE Γ X e p):PO X (some e) (lO Γ (zoSome p)):=PO.imp (GA h) fun σ H Q ⟨β,ρ,M,Q',zr,h,q⟩=>⟨β,ρ,M,_,zr,h,fun d M1 v H1 x1 r1 h1=>by
 revert h1
 split
 ·intro h1;exact⟨_,aH r1,q _ _ _ x1 h1⟩
 ·exact fun z=>z.elim⟩
abbrev FN:=Dv->Option Int->Option Int->Mh->ZK->Prop
def N0 (Γ:Gz) (X:Cx) (z:FN):Prop:=∃r,Fv X r/\∀(β:Bz) x d lo hi M H Q Q',β.P=Γ.P->β.w=Γ.w->β.K=Γ.K->Mz β M H->Rz β M H x d->z d lo hi M Q'->(∀d' M' v H',Ex β M H M' H'->Rz β M' H' v d'->Q' d' M'->Q v H')->r x lo hi H Q
def zSl (z:FN) (p:aG) (l h:BZ):aG:=fun ρ M Q=>p ρ M fun d M1=>l ρ M1 fun lo M2=>h ρ M2 fun hi M3=>z d lo hi M3 Q
theorem Ep {z:FN}{e:hX}{p:aG}{lo hi:Option hX}{l h:BZ}{p2 pos:xp}(hr:N0 Γ X z) (he:QE Γ X e p) (hl:PO X lo (lO Γ l)) (hu:PO X hi (lO Γ h)):QE Γ X (.Subscript e (.Slice lo hi none p2) pos) (zSl z p l h) :=by
 obtain⟨r,h1,h2⟩:=hr;exact(DM h1 he hl hu).imp fun σ H Q ⟨β,ρ,M,Q',zr,h,q⟩=>⟨β,ρ,M,_,zr,h,fun d M1 v H1 x1 r1 h1=>⟨β,ρ,M1,_,zr.step x1,h1,fun o M2 H2 x2 h3=>⟨β,ρ,M2,_,(zr.step x1).step x2,h3,fun o2 M3 H3 x3 h4=>
  h2 β v d o o2 M3 H3 _ _ zr.eP zr.ew zr.eK x3.mz ((r1.ex x2).ex x3) h4 fun d' M' v' H' x4 r4 q4=>q _ _ _ _ (x1.trans (x2.trans (x3.trans x4))) r4 q4⟩⟩⟩
def zSlS:FN:=fun d lo hi M Q=>match d with | .str s=>s.length<=sizeLine/\Q (.str (Vn s lo hi)) M|_=>False
theorem Mq:N0 Γ X zSlS:=⟨_,IZ,fun β x d lo hi M H Q Q' _ _ _ m rx z q=>by
 unfold zSlS at z;split at z
 ·exact⟨_,cB rx,z.1,q _ _ _ _ (.refl m) (.str _) z.2⟩
 ·exact z.elim⟩
section
variable {x:cb}{p pos:xp}{e:hX}{es:List hX}{za:gA}{id T:String}{z:sO}
theorem ay (hc:eJ Γ X (.builtin id) z) (hg:Gl X x) (hm:X.mg x=none) (hv:bootBuiltins x=some (.builtin id)) (ha:QA Γ X (e::es) za) (hn:x ≠ "__name__" := by decide) (iT:(x==("__debug__" : cb))=false :=by decide)
  (he:starEach (e::es) X.env=(false,eval e X.env)::starEach es X.env :=by rfl) (dh:(backTo pos (starEach es X.env)).any (·.1)=false :=by rfl):QE Γ X (.Call (.Name x p) (e::es) [] pos) (zCB z za) :=by
 obtain⟨r,h1,h2⟩:=hc;exact(DL h1 hg hm hv ha hn iT he dh).imp fun σ H Q h=>JM h2 h
theorem gZ (hc:eJ Γ X (.type T) z) (hg:Gl X x) (hm:X.mg x=none) (hv:bootBuiltins x=some (.type T)) (ha:QA Γ X (e::es) za) (hn:x ≠ "__name__" := by decide) (iT:(x==("__debug__" : cb))=false :=by decide)
  (he:starEach (e::es) X.env=(false,eval e X.env)::starEach es X.env :=by rfl) (dh:(backTo pos (starEach es X.env)).any (·.1)=false :=by rfl):QE Γ X (.Call (.Name x p) (e::es) [] pos) (zCB z za) :=by
 obtain⟨r,h1,h2⟩:=hc;exact(AO h1 hg hm hv ha hn iT he dh).imp fun σ H Q h=>JM h2 h
end
def z1 (f:Dv->Mh->ZK->Prop):sO:=fun ds M Q=>match ds with | [d]=>f d M Q|_=>False
def zLenD (d:Dv) (M:Mh) (Q:ZK):Prop:=match d with
 | .str s=>s.length<=sizeLine/\Q (.int s.length) M
 | .bC ns=>Q (.int ns.length) M
 |_=>match itemsM M d with|some ds=>Q (.int ds.length) M|none=>False
theorem cD (hK:X.K=K) (hG:K=Γ.K):eJ Γ X (.builtin "len") (z1 zLenD):=⟨_,Bg hK,fun β xs ds M H Q Q' _ _ eK m rs z q=>by
 rw[<- hG]at eK;unfold z1 at z;split at z
 ·rename_i d;obtain⟨x,rfl,r⟩:=cX rs;unfold zLenD at z;split at z
  ·rename_i s;have e:=cB r;subst e;exact⟨_,_,rfl,⟨z.1,rfl⟩,q _ _ _ _ (.refl m) (.int _) z.2⟩
  ·rename_i ns;obtain⟨a,rfl,h⟩:=sN r;rw[eK]at h;exact⟨_,ns.length,rfl,.inl ⟨_,h,by simp⟩,q _ _ _ _ (.refl m) (.int _) z⟩
  ·split at z
   ·rename_i ds sR;obtain⟨a,vs,rfl,ha,dz⟩:=iB m r sR;have q':=q _ _ (.int ds.length) _ (.refl m) (.int _) z;rcases ha with ha|ha
    ·exact⟨_,ds.length,rfl,.inl ⟨vs,bU.of ha,dz.len.symm⟩,q'⟩
    ·exact⟨_,ds.length,rfl,.inr ⟨vs,dr.of ha,dz.len.symm⟩,q'⟩
   ·exact z.elim
 ·exact z.elim⟩
def z2I (f:Int->Int->Int):sO:=fun ds M Q=>match ds with | [.int i,.int j]=>Q (.int (f i j)) M|_=>False
theorem B1 (hc:X.calm=true):eJ Γ X (.builtin "max") (z2I fun i j=>if j > i then j else i):=⟨_,AF hc,fun β xs ds M H Q Q' _ _ _ m rs z q=>by
 unfold z2I at z;split at z
 ·obtain⟨x,y,rfl,r,r'⟩:=oh rs;rw[aH r,aH r'];exact⟨_,_,rfl,q _ _ _ _ (.refl m) (.int _) z⟩
 ·exact z.elim⟩
theorem nN (hc:X.calm=true):eJ Γ X (.builtin "min") (z2I fun i j=>if j<i then j else i):=⟨_,AG hc,fun β xs ds M H Q Q' _ _ _ m rs z q=>by
 unfold z2I at z;split at z
 ·obtain⟨x,y,rfl,r,r'⟩:=oh rs;rw[aH r,aH r'];exact⟨_,_,rfl,q _ _ _ _ (.refl m) (.int _) z⟩
 ·exact z.elim⟩
def zAbs (d:Dv) (M:Mh) (Q:ZK):Prop:=match d with | .int i=>Q (.int (if i<0 then -i else i)) M|_=>False
theorem Mr:eJ Γ X (.builtin "abs") (z1 zAbs):=⟨_,DI,fun β xs ds M H Q Q' _ _ _ m rs z q=>by
 unfold z1 at z;split at z
 ·obtain⟨x,rfl,r⟩:=cX rs;unfold zAbs at z;split at z
  ·rw[aH r];exact⟨_,rfl,q _ _ _ _ (.refl m) (.int _) z⟩
  ·exact z.elim
 ·exact z.elim⟩
def zListP (d:Dv) (M:Mh) (Q:ZK):Prop:=match itemsM M d with|some ds=>∀a,M a=none->Q (.ptr a) (aA M a (.lst ds))|none=>False
theorem GZ (hK:X.K=K):eJ Γ X (.type "list") (z1 zListP):=⟨_,tI hK,fun β xs ds M H Q Q' _ _ _ m rs z q=>by
 unfold z1 at z;split at z
 ·obtain⟨x,rfl,r⟩:=cX rs;unfold zListP at z;split at z
  ·rename_i ds sR;obtain⟨a,vs,rfl,ha,dz⟩:=iB m r sR;refine⟨a,vs,rfl,ha.imp bU.of dr.of,fun l hl=>?_⟩
   have x2:=Ex.own m (.inr hl) dz;exact q _ _ _ _ x2 (.ptr (by rw[updM_same];rfl)) (z l (m.free hl))
  ·exact z.elim
 ·exact z.elim⟩
def zTuple (d:Dv) (M:Mh) (Q:ZK):Prop:=match itemsM M d with|some ds=>Q (.tup ds) M|none=>False
theorem om (hK:X.K=K):eJ Γ X (.type "tuple") (z1 zTuple):=⟨_,rq hK,fun β xs ds M H Q Q' _ _ _ m rs z q=>by
 unfold z1 at z;split at z
 ·rename_i d;obtain⟨x,rfl,r⟩:=cX rs;unfold zTuple at z;split at z
  ·rename_i ds sR;obtain⟨a,vs,rfl,ha,dz⟩:=iB m r sR;refine⟨a,vs,rfl,?_⟩;rcases ha with ha|ha
   ·refine .inl ⟨bU.of ha,fun l hl=>?_⟩
    have x2:=Ex.lay m hl (.tup vs);exact q _ _ _ _ x2 (vk (m.fz hl) aL (dz.ex x2)) z
   ·refine .inr ⟨dr.of ha,?_⟩;have f:Fz β M a :=by
     cases d with
     |tup es=>obtain⟨b,us,e,f,_⟩:=dO r;cases e;exact f
     |lst es=>obtain⟨b,us,e,f,_⟩:=gX r;cases e;exact f
     |ptr b=>
      obtain⟨e,hs⟩:=cS r;cases e;cases q2:M a with
      |none=>rw[q2]at hs;cases hs
      |some o=>have:=m.qE ha rfl;rw[q2]at this;cases this
     |_=>cases sR
    exact q _ _ _ _ (.refl m) (vk f ha dz) z
  ·exact z.elim
 ·exact z.elim⟩
def gI:List Dv->Option (List Int)
 | []=>some []
 | .int i::ds=>(gI ds).map (i::·)
 |_::_=>none
theorem pq:∀{ds:List Dv}{ns:List Int},gI ds=some ns->ds=ns.map Dv.int
 | [],ns,h=>by simp only[gI,EN]at h;subst h;rfl
 |d::ds,ns,h=>by
          cases d with
          |int i=>
           simp only[gI,At]at h;obtain⟨ms,h,rfl⟩:=h;rw[pq h];rfl
          |_=>simp[gI]at h
theorem i7:∀ns:List Int,gI (ns.map Dv.int)=some ns
 | []=>rfl
 |n::ns=>by simp[gI,i7 ns]
theorem fJ {M:Mh}{H:Hp}:∀{vs:List V}{ns:List Int},aM β M H vs (ns.map Dv.int)->vs=ns.map V.int
 | [],[],_=>rfl
 | [],_::_,r=>absurd r.len (by simp)
 |_::_,[],r=>absurd r.len (by simp)
 |v::vs,n::ns,r=>by
          rw[r6]at r;rw[r6,aH r.head,fJ r.tail]
theorem pv {M:Mh}{H:Hp}:∀{ns:List Int},aM β M H (ns.map V.int) (ns.map Dv.int)
 | []=>.nil
 |n::ns=>.cons (.int _) pv
def intsM (M:Mh) (d:Dv):Option (List Int):=match d with | .set ns=>some ns|_=>(itemsM M d).bind gI
def zSorted (d:Dv) (M:Mh) (Q:ZK):Prop:=match intsM M d with|some ns=>ns.length<64/\Q (.lst ((sortI ns).map .int)) M|none=>False
theorem nO {M:Mh}{H:Hp}{x:V}{d:Dv}{ns:List Int}(m:Mz β M H) (r:Rz β M H x d) (h:(itemsM M d).bind gI=some ns):∃a,x=.ref a/\(H a=some (.lst (ns.map V.int))\/H a=some (.tup (ns.map V.int))) :=by
 cases e:itemsM M d with
 |none=>rw[e]at h;cases h
 |some ds=>
  rw[e]at h;obtain⟨a,vs,rfl,ha,rs⟩:=iB m r e;have e2:=pq (ns:=ns) h;subst e2;have:=fJ rs;subst this;exact⟨a,rfl,ha⟩
theorem vw (hP:X.prog=Γ.P) (hw:X.w=Γ.w) (hK:X.K=K) (hc:X.calm=true):eJ Γ X (.builtin "sorted") (z1 zSorted):=⟨_,tJ hP hw hK hc,fun β xs ds M H Q Q' eP ew _ m rs z q=>by
 unfold z1 at z;split at z
 ·rename_i d;obtain⟨x,rfl,r⟩:=cX rs;unfold zSorted at z;split at z
  ·rename_i ns jd;have fin:∀l,H l=none->Q (.ref l) (upd H l (.lst ((sortI ns).map V.int))):=fun l hl=>by
    have x2:=Ex.lay m hl (.lst ((sortI ns).map V.int));exact q _ _ _ _ x2 (nG (m.fz hl) aL pv) z.2
   unfold intsM at jd;split at jd
   ·cases jd;obtain⟨a,rfl,f,h⟩:=BM r;rw[eP,ew]at h;exact⟨a,_,rfl,.inl h,z.1,fin⟩
   ·obtain⟨a,rfl,ha⟩:=nO m r jd;exact⟨a,_,rfl,.inr (ha.imp bU.of dr.of),z.1,fin⟩
  ·exact z.elim
 ·exact z.elim⟩
def zSet (d:Dv) (M:Mh) (Q:ZK):Prop:=match (itemsM M d).bind gI with|some ns=>ns.length+1<scanBound/\Q (.set (dW ns)) M|none=>False
theorem Ms (hP:X.prog=Γ.P) (hw:X.w=Γ.w) (hK:X.K=K) (hc:X.calm=true):eJ Γ X (.type "set") (z1 zSet) :=by
 refine⟨uX Γ.P Γ.w K,by rw[<- hP,<- hw];exact zg hK hc,fun β xs ds M H Q Q' eP ew _ m rs z q=>?_⟩
 unfold z1 at z;split at z
 ·rename_i d;obtain⟨x,rfl,r⟩:=cX rs;unfold zSet at z;split at z
  ·rename_i ns jd;obtain⟨a,rfl,ha⟩:=nO m r jd;refine⟨a,ns,rfl,ha.imp bU.of dr.of,z.1,fun l hl=>?_⟩
   have x2:=Ex.lay m hl (fE Γ.P Γ.w l (dW ns));exact q _ _ _ _ x2 (.set (m.fz hl) (by rw[eP,ew];exact aL)) z.2
  ·exact z.elim
 ·exact z.elim
def isD (T:String) (M:Mh) (d:Dv):Option Bool:=match d with
 | .int _=>some (T == "int") | .bl _=>some (T == "int" || T == "bool") | .ao=>some false | .str _=>some (T == "str") | .tup _=>some (T == "tuple") | .lst _=>some (T == "list") | .ptr a=>(match M a with|some (.lst _)=>some (T == "list")|some .cJ=>some (T == "list")|some (.ts _ _)=>none|some _=>some false|none=>none)|_=>none
def rM:List String:=["int","bool","str","tuple","list"]
def zIsInst:sO:=fun ds M Q=>match ds with | [d,.raw (.ty T)]=>T∈rM/\(match isD T M d with|some b=>Q (.bl b) M|none=>False)|_=>False
theorem JQ {K:bn}{M:Mh}{H:Hp}{x:V}{d:Dv}{T:String}{b:Bool}(m:Mz β M H) (hT:T∈rM) (r:Rz β M H x d) (h:isD T M d=some b):∃t,gN K H x t/\UI K t (.type T)=some b :=by
 have nC:T = "int" \/ T = "bool" \/ T = "str" \/ T = "tuple" \/ T = "list" := by simpa[rM] using hT
 cases r with
 |int i=>cases h;exact⟨_,.int i,by rcases nC with rfl|rfl|rfl|rfl|rfl<;>rfl⟩
 |bl i=>cases h;exact⟨_,.bl i,by rcases nC with rfl|rfl|rfl|rfl|rfl<;>rfl⟩
 |ao=>cases h;exact⟨_,.ao,by rcases nC with rfl|rfl|rfl|rfl|rfl<;>rfl⟩
 |str i=>cases h;exact⟨_,.str i,by rcases nC with rfl|rfl|rfl|rfl|rfl<;>rfl⟩
 |tup f e hl q=>cases h;exact⟨_,.tup e,by rcases nC with rfl|rfl|rfl|rfl|rfl<;>rfl⟩
 |lst f e hl q=>cases h;exact⟨_,.lst e,by rcases nC with rfl|rfl|rfl|rfl|rfl<;>rfl⟩
 |ptr hs=>
  rename_i a;cases q2:M a with
  |none=>rw[q2]at hs;cases hs
  |some o=>
   simp only[isD,q2]at h;have q:=m.obj a o q2;cases o with
   |lst ds=>obtain⟨vs,e,_⟩:=q;cases h;exact⟨_,.lst e,by rcases nC with rfl|rfl|rfl|rfl|rfl<;>rfl⟩
   |cJ=>obtain⟨_,_,e,_⟩:=q;cases h;exact⟨_,.lst e,by rcases nC with rfl|rfl|rfl|rfl|rfl<;>rfl⟩
   |dk ks ds=>obtain⟨vs,e,_⟩:=q;cases h;exact⟨_,.dK e,by rcases nC with rfl|rfl|rfl|rfl|rfl<;>rfl⟩
   |dt ks ds=>obtain⟨vs,e,_⟩:=q;cases h;exact⟨_,.dT e,by rcases nC with rfl|rfl|rfl|rfl|rfl<;>rfl⟩
   |ts ks ds=>cases h
 |set f e=>cases h
 |exc f e=>cases h
 |bC f e=>cases h
 |cG f e=>cases h
 |cH e=>cases h
 |raw v=>cases h
 |dk f e _ _ _=>cases h
 |dt f e _ _ _=>cases h
 |di _ _ _ _ _ _=>cases h
theorem eL (hK:X.K=K):eJ Γ X (.builtin "isinstance") zIsInst:=⟨_,uJ hK,fun β xs ds M H Q Q' _ _ _ m rs z q=>by
 unfold zIsInst at z;split at z
 ·obtain⟨x,y,rfl,r,r'⟩:=oh rs;rw[BL r'];obtain⟨hT,z⟩:=z;split at z
  ·rename_i b hb;obtain⟨t,ht,hk⟩:=JQ (K:=K) m hT r hb;exact⟨_,_,t,b,rfl,ht,hk,q _ _ _ _ (.refl m) (.bl _) z⟩
  ·exact z.elim
 ·exact z.elim⟩
abbrev vy:=Dv->List Dv->Mh->ZK->Prop
def FO (Γ:Gz) (X:Cx) (T id:String) (K:bn) (z:vy):Prop:=∃r,Fw X id r/\∀(β:Bz) x xs d ds M H Q Q',β.P=Γ.P->β.w=Γ.w->β.K=Γ.K->Mz β M H->Rz β M H x d->aM β M H xs ds->z d ds M Q'->(∀d' M' v H',Ex β M H M' H'->Rz β M' H' v d'->Q' d' M'->Q v H')->r x xs H Q
def tyZ (T:String) (M:Mh):Dv->Prop
 | .ptr a=>match M a with|some (.lst _)=>T = "list" |some .cJ=>T = "list" |some (.dk _ _)=>T = "dict" |some (.dt _ _)=>T = "dict" |some (.ts _ _)=>False|none=>False
 | .lst _=>T = "list"
 | .tup _=>T = "tuple"
 | .str _=>T = "str"
 |_=>False
theorem JR {M:Mh}{H:Hp}{x:V}{d:Dv}{T:String}(m:Mz β M H) (r:Rz β M H x d) (h:tyZ T M d):IE K T x H :=by
 cases r with
 |str=>exact h
 |lst f e _ _=>exact .inl ⟨h,_,bU.of e⟩
 |tup f e _ _=>exact .inr (.inl ⟨h,.inr ⟨_,e⟩⟩)
 |ptr hs=>
  rename_i a;cases q2:M a with
  |none=>rw[q2]at hs;cases hs
  |some o=>
   simp only[tyZ,q2]at h;have q:=m.obj a o q2;cases o with
   |lst ds=>obtain⟨vs,e,_⟩:=q;exact .inl ⟨h,_,bU.of e⟩
   |cJ=>obtain⟨_,_,e,_⟩:=q;exact .inl ⟨h,_,bU.of e⟩
   |dk ks ds=>obtain⟨vs,e,_⟩:=q;exact .inr (.inr (.inl ⟨h,.inl ⟨_,e⟩⟩))
   |dt ks ds=>obtain⟨vs,e,_⟩:=q;exact .inr (.inr (.inl ⟨h,.inr ⟨_,e⟩⟩))
   |ts ks ds=>exact h.elim
 |_=>exact h.elim
def zBM (T:String) (z:vy) (po:aG) (pa:gA):aG:=fun ρ M Q=>po ρ M fun d M1=>tyZ T M1 d/\pa ρ M1 fun ds M2=>z d ds M2 Q
section
variable {o e:hX}{es:List hX}{po:aG}{pa:gA}{name:cb}{apos bB:xp}{T id:String}{z:vy}
theorem ju (h:X.K=K) (pat:PlainAttrs T) (slot:Slot T name id) (AV:typeOf (.builtin id)=pure (.type "method_descriptor")) (hm:FO Γ X T id K z) (ho:QE Γ X o po) (ha:QA Γ X (e::es) pa) (pT:attributeBase o name X.env (eval o X.env)=eval o X.env :=by rfl)
  (uy:((backTo bB (starEach (e::es) X.env)).all (fun x => !x.1) && (backToKw bB (keywordEach [] X.env)).all (fun x=>x.1.isSome)
   && decide ((e::es).length+([]:List Tu).length+(if ([]:List Tu).isEmpty then 0 else 1)<30))=true :=by rfl)
  (hline:(apos.endLine==bB.line)=true :=by rfl) (hs:starEach (e::es) X.env=(false,eval e X.env)::starEach es X.env :=by rfl) (mR:(backTo bB (starEach es X.env)).any (·.1)=false :=by rfl) :
  QE Γ X (.Call (.Attribute o name apos) (e::es) [] bB) (zBM T z po pa) :=by
 obtain⟨r,h1,h2⟩:=hm;exact(Jb h pat slot AV h1 ho ha pT uy hline hs mR).imp fun σ H Q ⟨β,ρ,M,Q',zr,h,q⟩=>⟨β,ρ,M,_,zr,h,fun d M1 v H1 x1 r1 ⟨ht,h1⟩=>⟨JR x1.mz r1 ht,β,ρ,M1,_,zr.step x1,h1,fun ds M2 vs H2 x2 r2 h3=>
  h2 β v vs d ds M2 H2 _ _ zr.eP zr.ew zr.eK x2.mz (r1.ex x2) r2 h3 fun d' M' v' H' x3 r3 q3=>q _ _ _ _ (x1.trans (x2.trans x3)) r3 q3⟩⟩
end
def zAppend:vy:=fun d ds M Q=>match d,ds with | .ptr a,[y]=>(match M a with|some (.lst xs)=>xs.length<sizeLine/\Q .ao (aA M a (.lst (xs++[y])))|_=>False)|_,_=>False
theorem gQ:FO Γ X "list" "list.append" K zAppend:=⟨_,sx,fun β x xs d ds M H Q Q' _ _ _ m r rs z q=>by
 unfold zAppend at z;split at z
 ·rename_i a y;split at z
  ·rename_i es he;obtain⟨e,hs⟩:=cS r;obtain⟨v,e2,rv⟩:=cX rs;subst e e2;obtain⟨vs,hv,dz⟩:=m.obj a _ he;refine⟨a,vs,v,rfl,rfl,hv,by rw[dz.len];exact z.1,?_⟩
   exact q _ _ _ _ (Ex.own m (.inl hs) (dz.snoc rv)) .ao z.2
  ·exact z.elim
 ·exact z.elim⟩
def zPop:vy:=fun d ds M Q=>match d,ds with | .ptr a,[]=>(match M a with|some (.lst xs)=>(match xs[xs.length - 1]? with|some y=>Q y (aA M a (.lst xs.dropLast))|none=>False)|_=>False)|_,_=>False
def zPopAt:vy:=fun d ds M Q=>match d,ds with | .ptr a,[.int i]=>(match M a with|some (.lst xs) => -(2 ^ 63)<=i/\i<2 ^ 63/\(match seqIndex? i xs.length with|some k=>(match xs[k]? with|some y=>Q y (aA M a (.lst (xs.eraseIdx k)))|none=>False)|none=>False)|_=>False)|_,_=>False
theorem aM.eraseIdx {M:Mh}{H:Hp}{vs:List V}{ds:List Dv}(h:aM β M H vs ds) (k:Nat):aM β M H (vs.eraseIdx k) (ds.eraseIdx k) :=by
 rw[List.eraseIdx_eq_take_drop_succ,List.eraseIdx_eq_take_drop_succ];exact(h.take _).append (h.drop _)
theorem G0:FO Γ X "list" "list.pop" K zPopAt:=⟨_,DP,fun β x xs d ds M H Q Q' _ _ _ m r rs z q=>by
 unfold zPopAt at z;split at z
 ·rename_i a i;split at z
  ·rename_i es he;obtain⟨b1,b2,z⟩:=z;split at z
   ·rename_i k hk;split at z
    ·rename_i y hy;obtain⟨e,hs⟩:=cS r;obtain⟨v0,e2,Q3⟩:=cX rs;subst e e2;rw[aH Q3];obtain⟨vs,hv,dz⟩:=m.obj a _ he;obtain⟨v,sS,rv⟩:=dz.get hy;refine⟨a,vs,i,k,v,rfl,rfl,hv,b1,b2,by rw[dz.len];exact hk,sS,?_⟩
     have x2:=Ex.own m (.inl hs) (dz.eraseIdx k);exact q _ _ _ _ x2 (rv.ex x2) z
    ·exact z.elim
   ·exact z.elim
  ·exact z.elim
 ·exact z.elim⟩
def zIndexS:vy:=fun d ds M Q=>match d,ds with | .str a,[.str b]=>(match LB a b 0 a.length 1 with|i::_=>Q (.int (i:Nat)) M | []=>False)|_,_=>False
theorem Er:FO Γ X "str" "str.index" K zIndexS:=⟨_,D7,fun β x xs d ds M H Q Q' _ _ _ m r rs z q=>by
 unfold zIndexS at z;split at z
 ·split at z
  ·rename_i i rest hi;obtain⟨v,e2,rv⟩:=cX rs;subst e2;exact⟨_,_,i,rest,cB r,by rw[cB rv],hi,q _ _ _ _ (.refl m) (.int _) z⟩
  ·exact z.elim
 ·exact z.elim⟩
def zSetI:Dv->Dv->Dv->Mh->(Mh->Prop)->Prop:=fun o i v M N=>match o,i with | .ptr a,.int k=>(match M a with|some (.lst xs)=>(match ft xs.length k with|some j=>N (aA M a (.lst (xs.set j v)))|none=>False)|_=>False)|_,_=>False
def zgSub (po pi:aG):bS:=fun d ρ M N=>po ρ M fun o M1=>pi ρ M1 fun i M2=>zSetI o i d M2 fun M3=>N ρ M3
theorem lj {o i:hX}{po pi:aG}{pos:xp}(ho:QE Γ X o po) (hi:QE Γ X i pi)
  (ha:∀v,assign (.Subscript o i pos) X.env v=(do
   let ov <- holding [v] (eval o X.env)
   let iv <- holding [v,ov] (eval i X.env)
   standAt pos
   holding [v,ov,iv] (setItem ov iv v)
   release [v,ov,iv] []) :=by intro _;rfl):QG Γ X (.Subscript o i pos) (zgSub po pi):=
 (HN ho hi set_list ha).imp fun v σ H N ⟨β,d,ρ,M,N',zr,r,h,q⟩=>⟨β,ρ,M,_,zr,h,fun od M1 ov H1 x1 r1 h1=>⟨β,ρ,M1,_,zr.step x1,h1,fun SG M2 iv H2 x2 r2 h2=>by
  unfold zSetI at h2;split at h2
  ·rename_i a k;split at h2
   ·rename_i es he;split at h2
    ·rename_i j hj;obtain⟨e,hs⟩:=cS (r1.ex x2);subst e;rw[aH r2];obtain⟨vs,hv,dz⟩:=x2.mz.obj a _ he;have x3:=Ex.own x2.mz (.inl hs) (dz.set j ((r.ex x1).ex x2));exact⟨a,vs,k,j,rfl,rfl,hv,by rw[dz.len];exact hj,q _ _ _ _ (x1.trans (x2.trans x3)) (((zr.step x1).step x2).step x3) h2⟩
    ·exact h2.elim
   ·exact h2.elim
  ·exact h2.elim⟩⟩
end
end L2
namespace L2
open PySem PySem.Spec PySem.W PyProof.Rows
abbrev ZX:=al->Mh->Prop
abbrev dA:=List Dv->Mh->ZK->ZX->Prop
def bh (P:i4) (w:i8) (K:bn) (tb:dy) (S:dA):Sp:=fun vs H Q E=>∃(β:Bz) (ds:List Dv) (M:Mh) (Q':ZK) (E':ZX),β.P=P/\β.w=w/\β.K=K/\β.tb=tb/\Mz β M H/\aM β M H vs ds/\S ds M Q' E' /\
 (∀d M' v H',Ex β M H M' H'->Rz β M' H' v d->Q' d M'->Q v H')/\∀C M' H',Ex β M H M' H'->E' C M'->E (.ref C) none H'
theorem Rz.lM {β:Bz}{M0 M:Mh}{H:Hp}(dom:∀a,(M0 a).isSome=true->(M a).isSome=true) {v:V}{d:Dv}(h:Rz β M H v d):Pin M0 d->Rz β M0 H v d :=by
 have ne:∀a,Fz β M a->Fz β M0 a:=fun a m=>⟨(by
  cases e:M0 a with
  |none=>rfl
  |some o=>have:=dom a (by rw[e];rfl);rw[m.1]at this;cases this),m.2⟩
 induction h with
 |int i=>exact fun _=>.int i
 |bl b=>exact fun _=>.bl b
 |ao=>exact fun _=>.ao
 |str z=>exact fun _=>.str z
 |tup m e hl h ih=>
  intro p;cases p with
  |tup p=>exact .tup (ne _ m) e hl fun i v d a b=>ih i v d a b (p d (gl b))
 |lst m e hl h ih=>
  intro p;cases p with
  |lst p=>exact .lst (ne _ m) e hl fun i v d a b=>ih i v d a b (p d (gl b))
 |set m e=>exact fun _=>.set (ne _ m) e
 |ptr m=>intro p;cases p with|ptr p=>exact .ptr p
 |exc m e=>exact fun _=>.exc (ne _ m) e
 |bC m e=>exact fun _=>.bC (ne _ m) e
 |cG m e=>exact fun _=>.cG (ne _ m) e
 |cH e=>exact fun _=>.cH e
 |dk m e hk hl h ih=>
  intro p;cases p with
  |dk p=>exact .dk (ne _ m) e hk hl fun i v d a b=>ih i v d a b (p d (gl b))
 |dt m e hk hl h ih=>
  intro p;cases p with
  |dt p=>exact .dt (ne _ m) e hk hl fun i v d a b=>ih i v d a b (p d (gl b))
 |di m e m2 e2 hl h ih=>
  intro p;cases p with
  |di p=>exact .di (ne _ m) e (ne _ m2) e2 hl fun i v d a b=>ih i v d a b (p d (gl b))
 |raw v=>exact fun _=>.raw v
inductive mG (M0 M:Mh):Dv->Dv->Prop where
 |pin {d:Dv} (h:Pin M0 d):mG M0 M d d
 |ptr {a:al} {ds gW:List Dv} (h0:M0 a=none) (h:M a=some (.lst ds)) (hl:ds.length=gW.length) (r:∀(i:Nat) (d d':Dv),ds[i]?=some d->gW[i]?=some d'->mG M0 M d d'):mG M0 M (.ptr a) (.lst gW)
 |tup {ds gW:List Dv} (hl:ds.length=gW.length) (r:∀(i:Nat) (d d':Dv),ds[i]?=some d->gW[i]?=some d'->mG M0 M d d'):mG M0 M (.tup ds) (.tup gW)
 |dk {a:al} {ks:List Key} {ds gW:List Dv} (h0:M0 a=none) (h:M a=some (.dk ks ds)) (hl:ds.length=gW.length) (r:∀(i:Nat) (d d':Dv),ds[i]?=some d->gW[i]?=some d'->mG M0 M d d'):mG M0 M (.ptr a) (.dk ks gW)
 |dt {a:al} {ks:List (List Key)} {ds gW:List Dv} (h0:M0 a=none) (h:M a=some (.dt ks ds)) (hl:ds.length=gW.length) (r:∀(i:Nat) (d d':Dv),ds[i]?=some d->gW[i]?=some d'->mG M0 M d d'):mG M0 M (.ptr a) (.dt ks gW)
theorem mG.rz {β:Bz}{M0 M:Mh}{H:Hp}(mz:Mz β M H) (dom:∀a,(M0 a).isSome=true->(M a).isSome=true) {d d':Dv}(h:mG M0 M d d'):∀{v:V},Rz β M H v d->Rz β M0 H v d':=by
 induction h with
 |pin h=>exact fun r=>r.lM dom h
 |ptr h0 h hl r ih=>
  intro v r;obtain⟨rfl,_⟩:=cS r;obtain⟨vs,hv,rs⟩:=mz.obj _ _ h;refine .lst ⟨h0,mz.apart _ _ h⟩ hv (rs.len.trans hl) fun i v d a b=>?_
  obtain⟨d0,q,rd⟩:=rs.get' a;exact ih i d0 d q b rd
 |dk h0 h hl r ih=>
  intro v r;obtain⟨rfl,_⟩:=cS r;obtain⟨vs,hv,hk,rs⟩:=mz.obj _ _ h;refine .dk ⟨h0,mz.apart _ _ h⟩ (.inl hv) hk (rs.len.trans hl) fun i v d a b=>?_
  obtain⟨d0,q,rd⟩:=rs.get' a;exact ih i d0 d q b rd
 |dt h0 h hl r ih=>
  intro v r;obtain⟨rfl,_⟩:=cS r;obtain⟨vs,hv,hk,rs⟩:=mz.obj _ _ h;refine .dt ⟨h0,mz.apart _ _ h⟩ (.inl hv) hk (rs.len.trans hl) fun i v d a b=>?_
  obtain⟨d0,q,rd⟩:=rs.get' a;exact ih i d0 d q b rd
 |tup hl r ih=>
  intro v r;obtain⟨a,vs,rfl,f,hv,rs⟩:=dO r;refine .tup ⟨?_,f.2⟩ hv (rs.len.trans hl) fun i v d a b=>?_
  ·cases e:M0 a with
   |none=>rfl
   |some o=>have:=dom a (by rw[e];rfl);rw[f.1]at this;cases this
  ·obtain⟨d0,q,rd⟩:=rs.get' a;exact ih i d0 d q b rd
def lN (M0:Mh) (Q:ZK):ZK:=fun d M=>Q d M\/((∀a o,M0 a=some o->M a=some o)/\∃d',mG M0 M d d'/\Q d' M0)
theorem yg {β:Bz}{M0 M:Mh}{H0 H:Hp}{Q':ZK}{Q:VK}(m0:Mz β M0 H0) (q:∀d M' v H',Ex β M0 H0 M' H'->Rz β M' H' v d->Q' d M'->Q v H') {d:Dv}{v:V}(x:Ex β M0 H0 M H) (r:Rz β M H v d) (h:lN M0 Q' d M):Q v H :=by
 rcases h with h|⟨same,d',rv,h⟩
 ·exact q _ _ _ _ x r h
 ·refine q d' M0 v H ⟨⟨x.keep,fun _ h=>h,fun _ _ h _=>h⟩,fun a o e=>?_,x.mz.tabs,x.mz.hids,m0.apart,x.mz.lams⟩ (rv.rz x.mz x.dom r) h
  have z:=x.mz.obj a o (same a o e);have z0:=m0.obj a o e;cases o with
  |lst ds=>
   obtain⟨vs,z,rs⟩:=z;obtain⟨JS,_,vz⟩:=z0;refine⟨vs,z,rs.len,fun i v d a b=>(rs.at' i v d a b).lM x.dom ?_⟩
   obtain⟨v0,_,r0⟩:=vz.get b;exact r0.pin
  |dk ks ds=>
   obtain⟨vs,z,hk,rs⟩:=z;obtain⟨JS,_,_,vz⟩:=z0;refine⟨vs,z,hk,rs.len,fun i v d a b=>(rs.at' i v d a b).lM x.dom ?_⟩
   obtain⟨v0,_,r0⟩:=vz.get b;exact r0.pin
  |dt ks ds=>
   obtain⟨vs,z,hk,rs⟩:=z;obtain⟨JS,_,_,vz⟩:=z0;refine⟨vs,z,hk,rs.len,fun i v d a b=>(rs.at' i v d a b).lM x.dom ?_⟩
   obtain⟨v0,_,r0⟩:=vz.get b;exact r0.pin
  |ts ks ds=>
   obtain⟨vs,z,hk,rs⟩:=z;obtain⟨JS,_,_,vz⟩:=z0;refine⟨vs,z,hk,rs.len,fun i v d a b=>(rs.at' i v d a b).lM x.dom ?_⟩
   obtain⟨v0,_,r0⟩:=vz.get b;exact r0.pin
  |cJ=>exact z
def zstart (N:List cb) (ds:List Dv):av:=ds.map some++qr (N.length - ds.length) none
theorem vA {Γ:Gz}{N:List cb}{vs:List V}{ds:List Dv}(m:Mz Γ.toBz Γ.M0 Γ.H0) (rs:aM Γ.toBz Γ.M0 Γ.H0 vs ds):Zr Γ Γ.toBz Γ.M0 (zstart N ds) (start N vs) Γ.H0:=⟨rfl,rfl,rfl,rfl,fun _ h=>h,m.wf,.refl,m,by simp[zstart,start,rs.len],fun i d e=>by
 unfold zstart at e;unfold start;rw[UD]at e ⊢;rw[br]at e ⊢;rw[rs.len];split at e
 ·rename_i hi;rw[if_pos hi];rw[ij,At]at e;obtain⟨d2,e,e2⟩:=e;cases e2;obtain⟨v,hv,r⟩:=rs.get e;exact⟨v,by rw[ij,hv];rfl,r⟩
 ·rw[Ps]at e;split at e<;>cases e⟩
def zEndsOf (M0:Mh) (Q:ZK):gF:={nx:=fun _ M=>lN M0 Q .ao M,rt:=lN M0 Q}
def XR (Γ:Gz) (E':ZX) (E:XK):Prop:=∀C M' H',Ex Γ.toBz Γ.M0 Γ.H0 M' H'->E' C M'->E (.ref C) none H'
section
variable {P:i4}{w:i8}{K:bn}{mg:cb->Option ap}{base:kt}{tb:dy}{x:cb}{st:tz}{f:al}{fd:mo}{N ps:List cb}{k:Nat}{S:dA}
theorem yh (len:∀ds M Q E,S ds M Q E->ds.length=ps.length):∀vs H Q E,bh P w K tb S vs H Q E->vs.length=ps.length:=fun vs H Q E hS=>by
 obtain⟨β,ds,M,Q',E',_,_,_,_,m,rs,s,_⟩:=hS;exact rs.len.trans (len _ _ _ _ s)
theorem eO (D:Df K mg x st ps f fd) (sc:aO N ps (ai st)) (len:∀ds M Q E,S ds M Q E->ds.length=ps.length)
  (body:∀(A:ma) (outer:List OR) (s:ar) (E:XK) (Γ:Gz) (ds:List Dv) (Q':ZK) (E':ZX),P=Γ.P->w=Γ.w->K=Γ.K->tb=Γ.tb->bX k (A.deeper (envOfC x (ai st) s.heap.objs.size f fd.code))->S ds Γ.M0 Q' E'->
   ∃p,nI Γ (gO bK P w K mg base N x (ai st) f fd.code A outer s Γ.H0 E).As (dG st) p/\p (zEndsOf Γ.M0 Q') (zstart N ds) Γ.M0):FnOk P w K mg base bK (k+1) f fd ps (bh P w K tb S) :=by
 refine D.fn.Ql sc (yh len) fun A outer s H vs Q E hr h=>?_
 obtain⟨β,ds,M,Q',E',eP,ew,eK,et,m,rs,hS,q,_⟩:=h;obtain⟨p,hp,hq⟩:=body A outer s E ⟨β,M,H⟩ ds Q' E' eP.symm ew.symm eK.symm et.symm hr hS;refine⟨_,hp,β,zstart N ds,M,zEndsOf M Q',vA (Γ:=⟨β,M,H⟩) m rs,hq,?_⟩;have fin:∀d M' v H',Ex β M H M' H'->Rz β M' H' v d->lN M Q' d M'->Q v H':=fun d M' v H' x r h=>yg m q x r h
 exact⟨fun cU M' aQ H' x zr h=>fin _ _ _ _ ⟨zr.ent,x.mz⟩ .ao h,fun d M' v H' x e r h=>fin _ _ _ _ ⟨e,x.mz⟩ r h,fun _ _ _ _ _ _ h=>h,fun _ _ _ _ _ _ h=>h⟩
theorem oo (D:Df K mg x st ps f fd) (sc:aO N ps (ai st)) (len:∀ds M Q E,S ds M Q E->ds.length=ps.length)
  (body:∀(A:ma) (outer:List OR) (s:ar) (E:XK) (Γ:Gz) (ds:List Dv) (Q':ZK) (E':ZX),P=Γ.P->w=Γ.w->K=Γ.K->tb=Γ.tb->XR Γ E' E->bX k (A.deeper (envOfC x (ai st) s.heap.objs.size f fd.code))->S ds Γ.M0 Q' E'->
   ∃p,nI Γ (gO (eX P w) P w K mg base N x (ai st) f fd.code A outer s Γ.H0 E) (dG st) p/\p (zEndsOf Γ.M0 Q') (zstart N ds) Γ.M0):FnOk P w K mg base (eX P w) (k+1) f fd ps (bh P w K tb S) :=by
 refine D.fn.mZ sc (yh len) fun A outer s H vs Q E hr h=>?_
 obtain⟨β,ds,M,Q',E',eP,ew,eK,et,m,rs,hS,q,qx⟩:=h;obtain⟨p,hp,hq⟩:=body A outer s E ⟨β,M,H⟩ ds Q' E' eP.symm ew.symm eK.symm et.symm qx hr hS;refine⟨_,hp,β,zstart N ds,M,zEndsOf M Q',vA (Γ:=⟨β,M,H⟩) m rs,hq,?_⟩;have fin:∀d M' v H',Ex β M H M' H'->Rz β M' H' v d->lN M Q' d M'->Q v H':=fun d M' v H' x r h=>yg m q x r h
 exact⟨fun cU M' aQ H' x zr h=>fin _ _ _ _ ⟨zr.ent,x.mz⟩ .ao h,fun d M' v H' x e r h=>fin _ _ _ _ ⟨e,x.mz⟩ r h,fun _ _ _ _ _ _ h=>h,fun _ _ _ _ _ _ h=>h⟩
end
section
variable {X:Cx}{Γ:Gz}{β:Bz}{K:bn}
def zCall (S:dA) (E':ZX) (za:gA):aG:=fun ρ M Q=>za ρ M fun ds M1=>S ds M1 Q E'
theorem XR.none:XR Γ (fun _ _=>False) (fun _ _ _=>False):=fun _ _ _ _ h=>h
theorem B2 {M M1 M2:Mh}{H H1 H2:Hp}(ent:Ey M H M1 H1) (sub:∀a,a∈Γ.hid->a∈β.hid) (eP:β.P=Γ.P) (ew:β.w=Γ.w) (eK:β.K=Γ.K) (et:β.tb=Γ.tb) (x:Ex β M1 H1 M2 H2):Ex Γ.toBz M H M2 H2:=⟨ent.trans x.toEy,x.mz.sub eP.symm ew.symm eK.symm et.symm sub⟩
section
variable {CX:kZ}{k:Nat}{f:al}{fd:mo}{ps:List cb}{S:dA}{E:XK}{E':ZX}{x:cb}{p pos:xp}{e:hX}{es:List hX}{za:gA}{P:i4}{w:i8}{tb:dy}
theorem JT (hP:P=Γ.P) (hw:w=Γ.w) (hK:K=Γ.K) (ht:tb=Γ.tb) (hE:XR Γ E' E) {σ:St}{H:Hp}{Q:VK}(h:lE Γ (zCall S E' za) σ H Q):Ft (bh P w K tb S) [] E (lA Γ za) σ H Q :=by
 subst hP hw hK ht;obtain⟨β,ρ,M,Q',zr,h,q⟩:=h;refine⟨β,ρ,M,_,zr,h,fun ds M1 vs H1 x1 r1 h1=>?_⟩
 show bh Γ.P Γ.w Γ.K Γ.tb S (vs++[]) H1 Q E;rw[EQ];exact⟨β,ds,M1,Q',E',zr.eP,zr.ew,zr.eK,zr.et,x1.mz,r1,h1,fun d M2 v H2 x2 r2 h2=>q _ _ _ _ (x1.trans x2) r2 h2,fun C M2 H2 x2 h2=>hE C M2 H2 (B2 zr.ent zr.sub zr.eP zr.ew zr.eK zr.et (x1.trans x2)) h2⟩
theorem aJ (F:FnOk X.prog X.w X.K X.mg X.base CX k f fd ps (bh P w K tb S)) (hr:bX k X.A) (hg:Gl X x) (hm:X.mg x=some (.ref f)) (hk:SS X.K (.ref f)=true) (hb:Binds X.K fd ps []) (hx:Passes CX X E) (hP:P=Γ.P) (hw:w=Γ.w) (hK:K=Γ.K) (ht:tb=Γ.tb) (hE:XR Γ E' E)
  (ha:QA Γ X (e::es) za) (iT:(x==("__debug__" : cb))=false :=by decide) (he:starEach (e::es) X.env=(false,eval e X.env)::starEach es X.env :=by rfl) (dh:(backTo pos (starEach es X.env)).any (·.1)=false :=by rfl) :
  QE Γ X (.Call (.Name x p) (e::es) [] pos) (zCall S E' za):=(Gw F hr hg hm hk hb .nil hx ha iT he dh).imp fun σ H Q h=>JT hP hw hK ht hE h
end
def zRaise (C:al) (E':ZX) (za:gA):cK:=fun _ ρ M=>za ρ M fun ds M1=>ds.length<=sizeLine/\E' C M1
theorem vB {x:cb}{C:al}{kP:hX}{rest:List hX}{za:gA}{sI:List ap}{B newId u3:String}{E:XK}{E':ZX}{np bB pos:xp}(O:UY X.K C sI newId=true) (FB:ExcBaseFacts B newId u3 sI) (hc:X.calm=true) (hR:Raises X E) (hE:XR Γ E' E) (hg:Gl X x) (hm:X.mg x=some (.ref C)) (ha:QA Γ X (kP::rest) za)
  (iT:(x==("__debug__" : cb))=false :=by decide) (he:starEach (kP::rest) X.env=(false,eval kP X.env)::starEach rest X.env :=by rfl) (dh:(backTo bB (starEach rest X.env)).any (·.1)=false :=by rfl) :
  QS Γ X (.Raise (some (.Call (.Name x np) (kP::rest) [] bB)) none pos) (zRaise C E' za):=(D8 O FB hc hR hg hm ha iT he dh).imp fun D σ H ⟨β,ρ,M,D',zr,h,r⟩=>⟨β,ρ,M,_,zr,h,fun ds M1 vs H1 x1 r1 h1=>
 ⟨by rw[r1.len];exact h1.1,hE C M1 H1 (B2 zr.ent zr.sub zr.eP zr.ew zr.eK zr.et x1) h1.2⟩⟩
section
variable {tg elt iter:hX}{ifs:List hX}{scope:xy}{pos:xp}{N':List cb}{tn:Nat}{idx:List Nat}{zi:eY}{g:bS}{tt:cq}{te:aG}{c P:al}{k:Nat}
theorem cu (hc:X.calm=true) (B:aB X.N X.env.scope scope N' tn idx) (hi:QI Γ X tg iter zi)
  (hg:Blk X N' scope fun Y=>QG Γ Y tg g) (ht:Blk X N' scope fun Y=>oQ Γ Y ifs tt) (he:Blk X N' scope fun Y=>QE Γ Y elt te)
  (hs:∀x,foldedSetIterable iter X.env x=pure x :=by intro _;rfl):QE Γ X (.ListComp elt [⟨tg,iter,ifs,0⟩] scope pos) (zComp tn idx zi g tt te):=(wB hc B hi hg ht he hs).imp fun σ H Q h=>BW h
theorem lP {i:Nat}{y:cb}{py mV:xp}(hN:X.N.Nodup) (cI:X.N[i]?=some y) (hy:X.env.scope.names.lookup y=some .local) (hc:X.calm=true) (B:aB X.N X.env.scope scope N' tn idx) (hi:QI Γ X tg iter zi)
  (hg:Blk X N' scope fun Y=>QG Γ Y tg g) (ht:Blk X N' scope fun Y=>oQ Γ Y ifs tt) (he:Blk X N' scope fun Y=>QE Γ Y elt te)
  (A7:swapsWith (.ListComp elt [⟨tg,iter,ifs,0⟩] scope pos) (some (.Name y py)) mV.line X.env=pure true :=by rfl)
  (hs:∀x,foldedSetIterable iter X.env x=pure x :=by intro _;rfl):QS Γ X (.Assign [.Name y py] (.ListComp elt [⟨tg,iter,ifs,0⟩] scope pos) mV) (zAsg (zComp tn idx zi g tt te) (zgName i)):=(pW hN cI hy hc B hi hg ht he A7 hs).imp fun D σ H h=>zx (fun _ _ _ h=>BW h) h
theorem oR {i:Nat}{y:cb}{py mV:xp}(hN:X.N.Nodup) (cI:X.N[i]?=some y) (hy:X.env.scope.names.lookup y=some .local) (hc:X.calm=true) (B:aB X.N X.env.scope scope N' tn idx) (hi:QI Γ X tg iter zi)
  (hg:Blk X N' scope fun Y=>QG Γ Y tg g) (ht:Blk X N' scope fun Y=>oQ Γ Y ifs tt) (he:Blk X N' scope fun Y=>QE Γ Y elt te)
  (A7:swapsWith (.ListComp elt [⟨tg,iter,ifs,0⟩] scope pos) (some (.Name y py)) mV.line X.env=pure true :=by rfl)
  (hs:∀x,foldedSetIterable iter X.env x=pure x :=by intro _;rfl):QS Γ X (.Assign [.Name y py] (.ListComp elt [⟨tg,iter,ifs,0⟩] scope pos) mV) (zAsg (zCompP tn idx zi g tt te) (zgName i)):=(pW hN cI hy hc B hi hg ht he A7 hs).imp fun D σ H h=>zx (fun _ _ _ h=>GU h) h
theorem B3 {p gi:xp}(hP:P∈Γ.tb) (hr:bX (k+1) X.A) (hc:X.calm=true) (B:aB X.N X.env.scope scope N' tn idx)
  (h0:scope.names.lookup (".0" : cb)=some .local) (iu:scope.isCoroutine=false) (fP:X.env.code=.ref c) (hd:re X.base c P) (eE:∃bm ob,T5 X.base mainGlobals X.mg bm ob)
  (jg:Gl X "all") (hm:X.mg "all" = none) (hi:QI Γ X tg iter zi) (hg:dF X N' scope k fun Y=>QG Γ Y tg g) (ht:dF X N' scope k fun Y=>oQ Γ Y ifs tt) (he:dF X N' scope k fun Y=>QE Γ Y elt te)
  (hs:∀x,genFold iter X.env x=pure x :=by intro _;rfl):QE Γ X (.Call (.Name "all" p) [c9 elt tg iter ifs scope gi] [] pos) (zAll tn idx zi g tt te):=(IY hr hc B h0 iu fP hd eE jg hm hi hg ht he hs).imp fun σ H Q h=>Ml hP h
end
end
section
variable {X:Cx}{Γ:Gz}{β:Bz}{K:bn}
section
variable {tg elt iter:hX}{ifs:List hX}{scope:xy}{pos:xp}{N':List cb}{tn:Nat}{idx:List Nat}{zi:eY}{g:bS}{tt:cq}{te:aG}{c P:al}{k:Nat}
def lQ (g:bS) (tt:cq) (te:aG):List Dv->av->Mh->(List Int->Mh->Prop)->List Int->Prop
 | [],_,M,Q,acc=>Q acc M
 |d::ds,τ,M,Q,acc=>g d τ M fun aj M2=>tt aj M2 fun b M3=>if b=true then te aj M3 fun y M4=>(match y with | .int k=>acc.length+1<scanBound/\lQ g tt te ds aj M4 Q (da acc k)|_=>False) else lQ g tt te ds aj M3 Q acc
def zSetC (tn:Nat) (idx:List Nat) (zi:eY) (g:bS) (tt:cq) (te:aG):aG:=fun ρ M Q=>zi ρ M fun ds M1=>lQ g tt te ds (zBlock tn idx ρ) M1 (fun ns M2=>Q (.set ns) M2) []
theorem JU (hP:X.prog=Γ.P) (hw:X.w=Γ.w) {σ:St}{H:Hp}{Q:VK}(h:lE Γ (zSetC tn idx zi g tt te) σ H Q):Br X tn idx (lI Γ zi) (lG Γ g) (lT Γ tt) (lE Γ te) σ H Q :=by
 obtain⟨β,ρ,M,Q',zr,h,q⟩:=h;refine⟨β,ρ,M,_,zr,h,fun ds M1 H1 J x1 it h1 D hD=>?_⟩
 have fI:=zr.step x1;have Q4:=fI.block tn idx;have Q5:Γ.H0 D=none:=fI.ent.gone hD (by
  cases e:Γ.M0 D with
  |none=>rfl
  |some u=>have:=fI.ent.dom D (by rw[e];rfl);rw[x1.mz.free hD]at this;cases this)
 have B4:=x1.mz.Ef hD;have m7:D∈(β.add D).hid:=f8;refine⟨fun i m τ H'=>m=ds.length - i/\i<=ds.length/\∃aU M' acc,Ey M1 H1 M' H'/\M' D=none/\Zr Γ (β.add D) M' aU τ H'/\H' D=some (fE X.prog X.w D acc)/\lQ g tt te (ds.drop i) aU M' (fun ns M2=>Q' (.set ns) M2) acc,
  ⟨_,rfl,sB _,_,M1,[],Ey.refl.over hD,x1.mz.free hD,Q4.enter hD rfl,aL,h1⟩,?_⟩
 rintro i m τ H' ⟨rfl,hi,aU,M',acc,ey,hm,e6,at',h'⟩;have qq:=it (β.add D) M' H' (.add hD) ey e6.mz i;by_cases aD:i<ds.length
 ·refine .inr ⟨(qq.1 aD).1,fun x jT y=>?_⟩
  obtain⟨x2,d,hd,rd⟩:=(qq.1 aD).2 x jT y;have e:ds.drop i=d::ds.drop (i+1) :=by
   rw[zn aD];rw[ac aD]at hd;cases hd;rfl
  rw[e]at h';refine⟨β.add D,d,aU,M',_,e6.step x2,rd,h',fun cn M3 iw H3 x3 z3 h3=>⟨β.add D,cn,M3,_,z3,h3,fun b M4 H4 x4 h4=>?_⟩⟩
  have jW:=x2.trans (x3.trans x4);cases b with
  |false=>
   dsimp only at h4 ⊢;rw[if_neg gc]at h4 ⊢;exact⟨ds.length - (i+1),by omega,rfl,aD,cn,M4,acc,ey.trans jW.toEy,jW.new D _ hm at',z3.step x4,jW.get hm at' rfl,h4⟩
  |true=>
   dsimp only at h4 ⊢;rw[if_pos rfl]at h4 ⊢;refine⟨β.add D,cn,M4,_,z3.step x4,h4,fun yd M5 yv H5 x5 r5 h5=>?_⟩
   have JV:=jW.trans x5;cases yd with
   |int k=>
    have h6:acc.length+1<scanBound/\lQ g tt te (ds.drop (i+1)) cn M5 (fun ns M2=>Q' (.set ns) M2) (da acc k):=h5
    have N1:=JV.new D _ hm at';exact⟨k,acc,ds.length - (i+1),aH r5,JV.get hm at' rfl,h6.1,by omega,rfl,aD,cn,M5,da acc k,(ey.trans JV.toEy).over hD,N1,((z3.step x4).step x5).over m7 rfl N1 B4 Q5,aL,h6.2⟩
   |_=>exact Me h5
 ·have e:i=ds.length :=by omega
  subst e;rw[Is]at h';have mz:Mz β M' H':=Mz.sub (β:=β.add D) (cT:=β) rfl rfl rfl rfl (fun a h=>ci _ h) e6.mz
  refine .inl ⟨qq.2 (bv _),q _ _ _ _ (x1.trans ⟨ey,mz⟩) (.set ⟨hm,(x1.mz.fz hD).2⟩ ?_) h'⟩;rw[zr.eP,zr.ew,<- hP,<- hw];exact at'
theorem zA (hP:X.prog=Γ.P) (hw:X.w=Γ.w) (hc:X.calm=true) (B:aB X.N X.env.scope scope N' tn idx) (hi:QI Γ X tg iter zi)
  (hg:Blk X N' scope fun Y=>QG Γ Y tg g) (ht:Blk X N' scope fun Y=>oQ Γ Y ifs tt) (he:Blk X N' scope fun Y=>QE Γ Y elt te)
  (hs:∀x,foldedSetIterable iter X.env x=pure x :=by intro _;rfl):QE Γ X (.SetComp elt [⟨tg,iter,ifs,0⟩] scope pos) (zSetC tn idx zi g tt te):=(zf hc B hi hg ht he hs).imp fun σ H Q h=>JU hP hw h
end
def B5 (xs ys:List Dv):List Dv:=(xs.zip ys).map fun p=>.tup [p.1,p.2]
def kR (n:Nat):List Dv:=(im n).map fun i=>.int (i:Nat)
theorem yi {n:Nat}{M:Mh}{H:Hp}:aM β M H ((im n).map fun i=>V.int (i:Nat)) (kR n):=⟨by simp[kR],fun i v d a b=>by
 unfold kR at b;rw[ij]at a b;cases e:(im n)[i]? with
 |none=>rw[e]at a;cases a
 |some c=>rw[e]at a b;cases a;cases b;exact .int _⟩
def zRangeL (p:aG):aG:=fun ρ M Q=>p ρ M fun d M1=>match d with | .int j => -(2 ^ 24)<=j/\j<=2 ^ 24/\Q (.lst (kR j.toNat)) M1|_=>False
def zRangeP (p:aG):aG:=fun ρ M Q=>p ρ M fun d M1=>match d with | .int j => -(2 ^ 24)<=j/\j<=2 ^ 24/\∀a,M1 a=none->Q (.ptr a) (aA M1 a (.lst (kR j.toNat)))|_=>False
section
variable {e:hX}{pe:aG}{p p1 p2 pos:xp}
theorem nP (hc:X.calm=true) (hg:Gl X "list") (hm:X.mg "list" = none) (uI:Gl X "range") (Bc:X.mg "range" = none) (he:QE Γ X e pe) (hs:starEach [e] X.env=[(false,eval e X.env)] :=by rfl) :
  QE Γ X (.Call (.Name "list" p) [.Call (.Name "range" p1) [e] [] p2] [] pos) (zRangeL pe):=(m4 hc hg hm uI Bc he hs).imp fun σ H Q ⟨β,ρ,M,Q',zr,h,q⟩=>⟨β,ρ,M,_,zr,h,fun d M1 v H1 x1 r1 h1=>by
 revert h1
 split
 ·rintro⟨b1,b2,h1⟩;refine⟨_,aH r1,b1,b2,fun l hl=>?_⟩
  exact q _ _ _ _ (x1.trans (Ex.lay x1.mz hl _)) (nG (x1.mz.fz hl) aL yi) h1
 ·exact fun h=>h.elim⟩
theorem tK (hc:X.calm=true) (hg:Gl X "list") (hm:X.mg "list" = none) (uI:Gl X "range") (Bc:X.mg "range" = none) (he:QE Γ X e pe) (hs:starEach [e] X.env=[(false,eval e X.env)] :=by rfl) :
  QE Γ X (.Call (.Name "list" p) [.Call (.Name "range" p1) [e] [] p2] [] pos) (zRangeP pe):=(m4 hc hg hm uI Bc he hs).imp fun σ H Q ⟨β,ρ,M,Q',zr,h,q⟩=>⟨β,ρ,M,_,zr,h,fun d M1 v H1 x1 r1 h1=>by
 revert h1
 split
 ·rename_i j;rintro⟨b1,b2,h1⟩;refine⟨_,aH r1,b1,b2,fun l hl=>?_⟩
  have x2:=Ex.own x1.mz (.inr hl) (yi (n:=j.toNat) (β:=β) (M:=M1) (H:=H1));exact q _ _ _ _ (x1.trans x2) (.ptr (by rw[updM_same];rfl)) (h1 l (x1.mz.free hl))
 ·exact fun h=>h.elim⟩
def zNeg (p:aG):aG:=fun ρ M Q=>p ρ M fun d M1=>match d with | .int i=>Q (.int (-i)) M1|_=>False
theorem i9 (ha:QE Γ X e pe):QE Γ X (.UnaryOp .USub e pos) (zNeg pe):=(LQ Ii ha).imp fun σ H Q ⟨β,ρ,M,Q',zr,h,q⟩=>⟨β,ρ,M,_,zr,h,fun d M1 v H1 x1 r1 h1=>by
 revert h1
 split
 ·intro h1;exact⟨_,aH r1,q _ _ _ _ x1 (.int _) h1⟩
 ·exact fun h=>h.elim⟩
end
theorem qv (i:Nat) {x:cb}{pos:xp}(hN:X.N[i]?=some x :=by rfl) (hv:xx X.env.scope x :=by first|exact l6 rfl|exact LM (l6 rfl)|exact LM (LM rfl)) (hd:(x==("__debug__" : cb))=false :=by decide)
  (iR:(x==("__classdict__" : cb))=false :=by decide):QE Γ X (.Name x pos) (zVar i):=JH hN hv hd iR
end
theorem JW {c:Bool}{A B:Prop}(h:c=true) (a:A):if c=true then A else B :=by rw[if_pos h];exact a
theorem JX {c:Bool}{A B:Prop}(h:c=false) (b:B):if c=true then A else B :=by rw[h,if_neg gc];exact b
theorem fK {c:Bool}{A B:Prop}(h1:c=true->A) (h2:c=false->B):if c=true then A else B :=by
 cases c
 ·exact JX rfl (h2 rfl)
 ·exact JW rfl (h1 rfl)
theorem rN {g:bS}{te:aG}{M:Mh}(p:Dv->Bool) (I:av->Prop):∀{ds:List Dv}{τ:av}{Q:Bool->Mh->Prop},I τ->(∀d∈ds,∀τ,I τ->∀R:av->ZK,(∀aj,I aj->R aj (.bl (p d)) M)->g d τ M fun aj M2=>te aj M2 (R aj))->Q (ds.all p) M->ky g zNoIf te ds τ M Q
 | [],τ,Q,_,_,q=>q
 |d::ds,τ,Q,i,h,q=>by
          refine h d f8 τ i (fun aj=>zBool fun c M4=>if c=false then Q false M4 else ky g zNoIf te ds aj M4 Q) fun aj i2=>?_
          show if p d=false then Q false M else ky g zNoIf te ds aj M Q
          cases e:p d with
          |false=>
           rw[if_pos rfl];rw[TX,e]at q;exact q
          |true=>
           rw[if_neg (by decide)]
           rw[TX,e,Rs]at q;exact rN p I i2 (fun d' hd=>h d' (ci _ hd)) q
theorem iC {g:bS}{te:aG}(f:Dv->Dv) (I:av->Mh->Prop):∀{ds:List Dv}{τ:av}{M:Mh}{Q:List Dv->Mh->Prop},I τ M->(∀d∈ds,∀τ M,I τ M->∀R:av->ZK,(∀aj M2,I aj M2->R aj (f d) M2)->g d τ M fun aj M2=>te aj M2 (R aj))->(∀τ M,I τ M->Q (ds.map f) M)->gq g zNoIf te ds τ M Q
 | [],τ,M,Q,i,_,q=>q τ M i
 |d::ds,τ,M,Q,i,h,q=>by
          refine h d f8 τ M i (fun aj y M4=>gq g zNoIf te ds aj M4 fun ys M5=>Q (y::ys) M5) fun aj M2 i2=>?_
          exact iC f I i2 (fun d' hd=>h d' (ci _ hd)) fun iw M3 i3=>q iw M3 i3
theorem rO {g:bS}{tt:cq}{te:aG}(t:Dv->Bool) (f:Dv->Dv) (I:av->Mh->Prop):∀{ds:List Dv}{τ:av}{M:Mh}{Q:List Dv->Mh->Prop},I τ M->
  (∀d∈ds,∀τ M,I τ M->∀(R0:av->Mh->Prop) (R:av->ZK),(t d=true->∀aj M2,I aj M2->R aj (f d) M2)->(t d=false->∀aj M2,I aj M2->R0 aj M2)->g d τ M fun aj M2=>tt aj M2 fun b M3=>if b=true then te aj M3 (R aj) else R0 aj M3)->
  (∀τ M,I τ M->Q ((ds.filter t).map f) M)->gq g tt te ds τ M Q
 | [],τ,M,Q,i,_,q=>q τ M i
 |d::ds,τ,M,Q,i,h,q=>by
          refine h d f8 τ M i (fun aj M3=>gq g tt te ds aj M3 Q) (fun aj y M4=>gq g tt te ds aj M4 fun ys M5=>Q (y::ys) M5) (fun e aj M2 i2=>?_) fun e aj M2 i2=>?_
          ·refine rO t f I i2 (fun d' hd=>h d' (ci _ hd)) fun iw M3 i3=>?_
           have:=q iw M3 i3;rw[Ua,if_pos e]at this;exact this
          ·refine rO t f I i2 (fun d' hd=>h d' (ci _ hd)) fun iw M3 i3=>?_
           have:=q iw M3 i3;rw[Ua,if_neg (by rw[e];decide)]at this
           exact this
theorem yj {g:bS}{te:aG}(f:Dv->Int) (I:av->Mh->Prop):∀{ds:List Dv}{τ:av}{M:Mh}{Q:List Int->Mh->Prop}{acc:List Int},I τ M->acc.length+ds.length+1<scanBound->(∀d∈ds,∀τ M,I τ M->∀R:av->ZK,(∀aj M2,I aj M2->R aj (.int (f d)) M2)->g d τ M fun aj M2=>te aj M2 (R aj))->(∀τ M,I τ M->Q ((ds.map f).foldl da acc) M)->lQ g zNoIf te ds τ M Q acc
 | [],τ,M,Q,acc,i,_,_,q=>q τ M i
 |d::ds,τ,M,Q,acc,i,hl,h,q=>by
          refine h d f8 τ M i (fun aj y M4=>match y with | .int k=>acc.length+1<scanBound/\lQ g zNoIf te ds aj M4 Q (da acc k)|_=>False) fun aj M2 i2=>?_
          rw[Cn]at hl;refine⟨by omega,yj f I i2 ?_ (fun d' hd=>h d' (ci _ hd)) fun iw M3 i3=>q iw M3 i3⟩
          have:=uP (ns:=acc) (m:=f d);omega
abbrev eI (ns:List Int):Dv:=.tup (ns.map .int)
abbrev eN (az:List (List Int)):Dv:=.tup (az.map eI)
abbrev aX (ns:List Int):Dv:=.lst (ns.map .int)
theorem vC:∀ns:List Int,gH (ns.map Dv.int)=some (ns.map Dt.int)
 | []=>rfl
 |n::ns=>by simp only[r6,gH,bH,vC ns]
theorem FP (ns:List Int):bH (eI ns)=some (.tup (ns.map Dt.int)) :=by simp only[eI,bH,vC,Cf]
theorem yk {α:Type}{f:α->Dv}{g:α->Dt}(h:∀x,bH (f x)=some (g x)):∀xs:List α,gH (xs.map f)=some (xs.map g)
 | []=>rfl
 |x::xs=>by simp only[r6,gH,h x,yk h xs]
theorem qI:∀xs ys:List Int,gj (xs.map Dt.int) (ys.map Dt.int)=decide (xs=ys)
 | [],[]=>by simp[gj]
 | [],_::_=>by simp[gj]
 |_::_,[]=>by simp[gj]
 |x::xs,y::ys=>by
          rw[r6,r6,gj,qI xs ys,cp];by_cases h1:x=y<;>by_cases h2:xs=ys<;>simp[h1,h2]
theorem pw {n:Nat}:∀{ds:List Dt},(∀d∈ds,gf d<=n)->gk ds<=n
 | [],_=>by rw[gk];exact sB _
 |d::ds,h=>by
          rw[gk];exact Nat.max_le.mpr ⟨h d f8,pw fun d' hd=>h d' (ci _ hd)⟩
theorem yl (ns:List Int):gk (ns.map Dt.int)<=0:=pw fun d hd=>by
 obtain⟨i,_,rfl⟩:=ff.mp hd;exact bv _
theorem dg {M:Mh}(ns:List Int):∀d∈ns.map Dv.int,Pin M d:=fun d hd=>by
 obtain⟨i,_,rfl⟩:=ff.mp hd;exact .int i
theorem JY {M:Mh}(ns:List Int):Pin M (eI ns):=.tup (dg ns)
theorem qJ {M:Mh}(az:List (List Int)):Pin M (eN az):=.tup fun d hd=>by
 obtain⟨r,_,rfl⟩:=ff.mp hd;exact JY r
theorem G1 {α β:Type}{f:α->β}{xs:List α}{i:Int}{x:α}(h:bo xs i=some x):bo (xs.map f) i=some (f x) :=by
 unfold bo at h ⊢;rw[br];cases e:ft xs.length i with
 |none=>rw[e]at h;cases h
 |some j=>rw[e]at h;simp only[Po]at h ⊢;rw[ij,h];rfl
theorem B6 {α:Type}{xs:List α}{k:Nat}(h:k<xs.length):bo xs ((k:Nat):Int)=some xs[k]:=b9 (ac h)
def spLaw (K:bn) (tb:dy):Sp:=fun vs H Q _=>∃(a:al) (ns:List Int),vs=[.ref a]/\bU K H a (ns.map V.int)/\ns.length<=63/\FA tb.g H/\(∀p∈tb.l,Lm H p)/\∀H',(∀p∈tb.l,∃ps,H' p.1=some (.lam ps))->Q (.bl true) H'
def JZ:dA:=fun ds M Q _=>∃ns:List Int,ds=[.bC ns]/\ns.length<=63/\(∀a,M a=none)/\∀M',Q (.bl true) M'
theorem J0 {P:i4}{w:i8}{K:bn}{mg:cb->Option ap}{base:kt}{k:Nat}{f:al}{fd:mo}{x:cb}{tb:dy}(G:FnOk P w K mg base bK k f fd [x] (bh P w K tb JZ)):FnOk P w K mg base bK k f fd [x] (spLaw K tb):=
 G.imp fun vs H Q E ⟨a,ns,e,hS,hl,hT,hL,q⟩=>by
  subst e;have m:Mz ⟨P,w,K,tb,[]⟩ (fun _=>none) H:=⟨(fun a o e=>nomatch e),hT,(fun a ha=>absurd ha (by simp)),(fun a o e=>nomatch e),hL⟩
  refine⟨⟨P,w,K,tb,[]⟩,[.bC ns],fun _=>none,fun d _=>d=.bl true,fun _ _=>False,rfl,rfl,rfl,rfl,m,.cons ?_ .nil,⟨ns,rfl,hl,fun _=>rfl,fun _=>rfl⟩,fun d M' v H' x r h=>?_,fun _ _ _ _ h=>h.elim⟩
  ·have fz:Fz ⟨P,w,K,tb,[]⟩ (fun _=>none) a:=⟨rfl,by simp⟩
   rcases hS with (h|⟨o,h⟩)|h
   ·exact .cG fz h
   ·exact .bC fz h
   ·exact .cH h
  ·subst h;rw[de r];exact q H' fun p hp=>let ⟨ps,e,_⟩:=x.mz.lams p hp;⟨ps,e⟩
def Keeps (M0 M:Mh):Prop:=∀a o,M0 a=some o->M a=some o
theorem Keeps.refl {M0:Mh}:Keeps M0 M0:=fun _ _ h=>h
theorem Keeps.upd {M0 M:Mh}{a:al}{o:Mo}(ha:M0 a=none) (h:Keeps M0 M):Keeps M0 (aA M a o):=fun b u e=>by
 rw[ah (fun z=>by rw[z,ha]at e;cases e)]
 exact h b u e
theorem kD {M0 M:Mh}{Q:ZK}{d:Dv}(h:Keeps M0 M) (p:Pin M0 d) (q:Q d M0):lN M0 Q d M:=.inr ⟨h,d,.pin p,q⟩
theorem nQ {M0 M:Mh}{Q:ZK}{a:al}{ds:List Dv}(h:Keeps M0 M) (h0:M0 a=none) (ha:M a=some (.lst ds)) (p:∀d∈ds,Pin M0 d) (q:Q (.lst ds) M0):lN M0 Q (.ptr a) M:=.inr ⟨h,.lst ds,.ptr h0 ha rfl fun i d d' e e'=>by
 rw[e]at e';cases e';exact .pin (p d (gl e)),q⟩
theorem cf {lo:Int}{n i:Nat}{d:Dv}(h:(cV lo n)[i]?=some d):d=.int (lo+(i:Nat))/\i<n :=by
 unfold cV at h;rw[ij]at h;cases e:(im n)[i]? with
 |none=>rw[e]at h;cases h
 |some k=>
  rw[e]at h;obtain⟨h1,h2⟩:=cr.mp e;rw[IN]at h2;subst h2;exact⟨(kw h).symm,by simpa using h1⟩
theorem jv {lo:Int}{n:Nat}{d:Dv}(h:d∈cV lo n):∃i:Nat,i<n/\d=.int (lo+(i:Nat)) :=by
 obtain⟨i,hi⟩:=u4.mp h;obtain⟨e,l⟩:=cf hi;exact⟨i,l,e⟩
theorem rangeD_len (lo:Int) (n:Nat):(cV lo n).length=n :=by simp[cV]
theorem jX {tt:cq}(t:Dv->Bool) {τ:av}:∀{ds:List Dv}{x:Option Dv}{M:Mh}{Q:List Dv->Mh->Prop},(∀d∈ds,∀R:Bool->Mh->Prop,R (t d) M->tt (some d::τ) M R)->Q (ds.filter t) M->gq (zgName 0) tt (zVar 0) ds (x::τ) M Q
 | [],x,M,Q,_,q=>q
 |d::ds,x,M,Q,h,q=>by
          refine h d f8 _ ?_;cases e:t d with
          |true=>
           rw[Ua,if_pos e]at q;exact jX t (Q:=fun ys M5=>Q (d::ys) M5) (fun d' hd=>h d' (ci _ hd)) q
          |false=>
           rw[Ua,if_neg (by rw[e];decide)]at q
           exact jX t (fun d' hd=>h d' (ci _ hd)) q
theorem atI_zero {α:Type}{x:α}{xs:List α}:bo (x::xs) 0=some x:=b9 (j:=0) rfl
theorem nR {α:Type}{f:α->Dv}{xs:List α}{k:Nat}{d:Dv}(h:(xs.map f)[k]?=some d):∃x,xs[k]?=some x/\d=f x :=by
 rw[ij,At]at h;obtain⟨x,h,e⟩:=h;exact⟨x,h,e.symm⟩
theorem pairsD_len (xs ys:List Dv):(B5 xs ys).length=min xs.length ys.length :=by simp[B5]
theorem numD_len (n:Nat):(kR n).length=n :=by simp[kR]
end L2
namespace L2
open PySem PySem.Spec PyProof.Rows
def vD (N:List cb) (sc scope:xy) (N':List cb) (tn:Nat) (idx:List Nat):Prop:=
 scope.kind=.function/\(∀y∈scope.names,(y.2=.cell->scope.names.lookup y.1=some .cell)/\(y.2=.local->scope.names.lookup y.1=some .local)/\(y.2=.free->sc.names.lookup y.1=some .cell\/sc.names.lookup y.1=some .free)) /\
  N'.length=tn+idx.length/\∀p∈idx.zip (N'.drop tn),N[p.1]?=some p.2/\scope.names.lookup p.2=some .free
instance (N:List cb) (sc scope:xy) (N':List cb) (tn:Nat) (idx:List Nat):Decidable (vD N sc scope N' tn idx) :=by unfold vD;infer_instance
end L2
namespace L2
open PySem PySem.Spec PySem.W PyProof.Rows
section
variable {X:Cx}{Γ:Gz}{β:Bz}{K:bn}
def zInI (neg:Bool):eZ:=fun d e M Q=>match d,(itemsM M e).bind gI with | .int i,some ns=>Q (.bl (if neg then !decide (i∈ns) else decide (i∈ns))) M|_,_=>False
theorem vE (i:Int):∀ns:List Int,AU (.int i) (ns.map V.int)=decide (i∈ns)
 | []=>by simp[AU]
 |n::ns=>by
          have ih:=vE i ns;unfold AU at ih ⊢;rw[r6,NO,ih];simp only[pQ];by_cases h:n=i
          ·subst h;simp
          ·have h':¬ i=n:=fun z=>h z.symm
           simp[h,h']
theorem G2 {neg:Bool}:oP Γ (IC K neg) (zInI neg):=fun β x y d e M H Q Q' _ _ _ m rx ry z q=>by
 unfold zInI at z;split at z
 ·rename_i i ns jd;obtain⟨a,rfl,ha⟩:=nO m ry jd;have ex:=aH rx;subst ex;refine⟨a,ns.map V.int,rfl,ha.imp bU.of dr.of,rfl,?_,?_⟩
  ·rw[tw];intro v hv;obtain⟨n,_,rfl⟩:=ff.mp hv;rfl
  ·rw[vE];exact q _ _ _ _ (.refl m) (.bl _) z
 ·exact z.elim
theorem oS (hK:X.K=K):fG Γ X (compareOp .NotIn) (zInI true):=⟨_,tH hK,G2⟩
def boolsD:List Dv->Option (List Bool)
 | []=>some []
 | .bl b::ds=>(boolsD ds).map (b::·)
 |_::_=>none
theorem sT:∀{ds:List Dv}{bs:List Bool},boolsD ds=some bs->ds=bs.map Dv.bl
 | [],bs,h=>by simp only[boolsD,EN]at h;subst h;rfl
 |d::ds,bs,h=>by
          cases d with
          |bl b=>
           simp only[boolsD,At]at h;obtain⟨ms,h,rfl⟩:=h;rw[sT h];rfl
          |_=>simp[boolsD]at h
theorem lR:∀bs:List Bool,boolsD (bs.map Dv.bl)=some bs
 | []=>rfl
 |n::ns=>by simp[boolsD,lR ns]
theorem sU {M:Mh}{H:Hp}:∀{vs:List V}{bs:List Bool},aM β M H vs (bs.map Dv.bl)->vs=bs.map V.bl
 | [],[],_=>rfl
 | [],_::_,r=>absurd r.len (by simp)
 |_::_,[],r=>absurd r.len (by simp)
 |v::vs,n::ns,r=>by
          rw[r6]at r;rw[r6,de r.head,sU r.tail]
def zAllB (d:Dv) (M:Mh) (Q:ZK):Prop:=match d with | .lst ds=>(match boolsD ds with|some bs=>Q (.bl (bs.all id)) M|none=>False)|_=>False
theorem vF (hK:X.K=K) (hc:X.calm=true):eJ Γ X (.builtin "all") (z1 zAllB):=⟨_,zh hK hc,fun β xs ds M H Q Q' _ _ _ m rs z q=>by
 unfold z1 at z;split at z
 ·obtain⟨x,rfl,r⟩:=cX rs;unfold zAllB at z;split at z
  ·split at z
   ·rename_i bs Q6;obtain⟨a,vs,rfl,f,ha,dz⟩:=gX r;have e:=sT Q6;subst e;have:=sU dz;subst this;exact⟨a,bs,rfl,bU.of ha,q _ _ _ _ (.refl m) (.bl _) z⟩
   ·exact z.elim
  ·exact z.elim
 ·exact z.elim⟩
theorem Pin.mono {M M':Mh}{d:Dv}(h:Pin M d):(∀a,(M a).isSome=true->(M' a).isSome=true)->Pin M' d :=by
 intro k;induction h with
 |int i=>exact .int i
 |bl b=>exact .bl b
 |ao=>exact .ao
 |str z=>exact .str z
 |tup h ih=>exact .tup ih
 |lst h ih=>exact .lst ih
 |dk h ih=>exact .dk ih
 |dt h ih=>exact .dt ih
 |di h ih=>exact .di ih
 |set ns=>exact .set ns
 |ptr h=>exact .ptr (k _ h)
 |exc C=>exact .exc C
 |bC ns=>exact .bC ns
 |raw v=>exact .raw v
def bD (M:Mh) (a:al):Mh:=fun b=>if b=a then none else M b
theorem b6 {M:Mh}{a:al}:bD M a a=none :=by unfold bD;rw[if_pos rfl]
theorem a9 {M:Mh}{a b:al}(h:b≠a):bD M a b=M b :=by unfold bD;rw[if_neg h]
theorem zB {M:Mh}{a:al}{o:Mo}(h:M a=none):bD (aA M a o) a=M :=by
 funext b
 unfold bD aA;by_cases e:b=a
 ·rw[if_pos e,e,h]
 ·rw[if_neg e,if_neg e]
structure zD (M1 M:Mh) (ρ:av):Prop where
 env:∀(i:Nat) (d:Dv),ρ[i]?=some (some d)->Pin M d
 obj:∀b o,M b=some o->M1 b=some o\/∀d∈o.items,Pin M d
theorem Zr.freeze {M:Mh}{ρ:av}{σ:St}{H:Hp}{i:Nat}{a:al}{ds:List Dv}(z:Zr Γ β M ρ σ H) (hi:ρ[i]?=some (some (.ptr a))) (ha:M a=some (.lst ds)) (h0:Γ.M0 a=none) (fr:zD Γ.M0 (bD M a) (ρ.set i (some (.lst ds)))) :
  Zr Γ β (bD M a) (ρ.set i (some (.lst ds))) σ H/\Ev β M H (bD M a) H :=by
 have rz:∀{v:V} {d:Dv},Rz β M H v d->Pin (bD M a) d->Rz β (bD M a) H v d:=fun r p=>r.lM (M0:=bD M a) (fun b hb=>by
  by_cases e:b=a
  ·rw[e,b6]at hb;cases hb
  ·rw[a9 e]at hb;exact hb) p
 have iV:i<ρ.length:=(cr.mp hi).1;have Q7:∀d∈ds,Pin (bD M a) d:=fun d hd=>by
  have:=fr.env i (.lst ds) (by rw[TN iV])
  cases this with|lst h=>exact h d hd
 have obj:∀b es,bD M a b=some es->∀d∈es.items,Pin (bD M a) d:=fun b es e d hd=>by
  rcases fr.obj b es e with q|q
  ·refine(z.wf b es q d hd).mono fun c hc=>?_
   have nc:c≠a:=fun w=>by rw[w,h0]at hc;cases hc
   rw[a9 nc];exact z.ent.dom c hc
  ·exact q d hd
 have mz:Mz β (bD M a) H :=by
  refine⟨fun b o e=>?_,z.mz.tabs,z.mz.hids,fun b o e=>?_,z.mz.lams⟩
  ·have nb:b≠a:=fun q=>by rw[q,b6]at e;cases e
   have e':M b=some o :=by rw[a9 nb]at e;exact e
   have q:=z.mz.obj b o e';cases o with
   |lst es=>obtain⟨vs,hv,rs⟩:=q;exact⟨vs,hv,rs.len,fun j v d x y=>rz (rs.at' j v d x y) (obj b _ e d (gl y))⟩
   |dk ks es=>obtain⟨vs,hv,hk,rs⟩:=q;exact⟨vs,hv,hk,rs.len,fun j v d x y=>rz (rs.at' j v d x y) (obj b _ e d (gl y))⟩
   |dt ks es=>obtain⟨vs,hv,hk,rs⟩:=q;exact⟨vs,hv,hk,rs.len,fun j v d x y=>rz (rs.at' j v d x y) (obj b _ e d (gl y))⟩
   |ts ks es=>obtain⟨vs,hv,hk,rs⟩:=q;exact⟨vs,hv,hk,rs.len,fun j v d x y=>rz (rs.at' j v d x y) (obj b _ e d (gl y))⟩
   |cJ=>exact q
  ·have nb:b≠a:=fun q=>by rw[q,b6]at e;cases e
   rw[a9 nb]at e;exact z.mz.apart b o e
 refine⟨⟨z.eP,z.ew,z.eK,z.et,z.sub,z.wf,⟨z.ent.keep,fun b hb=>?_,fun b o m h=>?_⟩,mz,by simp[z.len],fun j d e=>?_⟩,⟨fun b o _ h=>.inl h,fun b o m h=>?_,mz⟩⟩
 ·have nb:b≠a:=fun q=>by rw[q,h0]at hb;cases hb
  rw[a9 nb];exact z.ent.dom b hb
 ·by_cases e:b=a
  ·rw[e,b6]
  ·rw[a9 e];exact z.ent.new b o m h
 ·have p:=fr.env j d e;rw[U8]at e;split at e
  ·rename_i q;subst q;first
    |cases e
    |(rw[if_pos iV]at e;cases e)
   obtain⟨v,hv,r⟩:=z.at' i _ hi;obtain⟨rfl,_⟩:=cS r;obtain⟨vs,hl,rs⟩:=z.mz.obj a _ ha;refine⟨_,hv,.lst ⟨b6,z.mz.apart a _ ha⟩ hl rs.len fun k v d x y=>rz (rs.at' k v d x y) (Q7 d (gl y))⟩
  ·obtain⟨v,hv,r⟩:=z.at' j d e;exact⟨v,hv,rz r p⟩
 ·by_cases e:b=a
  ·rw[e,b6]
  ·rw[a9 e];exact m
def Pq (i:Nat) (M0:Mh) (p:cK):cK:=fun D ρ M=>p D ρ M\/∃a ds,ρ[i]?=some (some (.ptr a))/\M a=some (.lst ds)/\M0 a=none/\zD M0 (bD M a) (ρ.set i (some (.lst ds)))/\p D (ρ.set i (some (.lst ds))) (bD M a)
theorem vG (i:Nat) {M1:Mh}{st:tz}{p:cK}(hM:Γ.M0=M1) (h:QS Γ X st p):QS Γ X st (Pq i M1 p):=h.imp fun D σ H ⟨β,ρ,M,D',zr,h,r⟩=>by
 rcases h with h|⟨a,ds,hi,ha,h0,fr,h⟩
 ·exact⟨β,ρ,M,D',zr,h,r⟩
 ·obtain⟨z2,e2⟩:=zr.freeze hi ha (by rw[hM];exact h0) (by rw[hM];exact fr)
  exact⟨β,_,_,D',z2,h,r.step e2⟩
end
section
variable {X:Cx}{Γ:Gz}{β:Bz}
inductive kG:Dv->Prop where
 |int (i:Int):kG (.int i)
 |bl (b:Bool):kG (.bl b)
 |ao:kG .ao
 |str (z:cb):kG (.str z)
 |ptr (a:al):kG (.ptr a)
 |tup {ds:List Dv} (h:∀d∈ds,kG d):kG (.tup ds)
theorem Rz.grow {M:Mh}{H:Hp}{a:al}{us:List V}(ha:H a=some (.lst us)) {v:V}{d:Dv}(h:Rz β (bD M a) H v d):kG d->Rz β M H v d :=by
 induction h with
 |int i=>exact fun _=>.int i
 |bl b=>exact fun _=>.bl b
 |ao=>exact fun _=>.ao
 |str z=>exact fun _=>.str z
 | @tup p vs ds m e hl h ih=>
  intro n;cases n with
  |tup n=>
   have hp:p≠a:=fun z=>by rw[z,ha]at e;cases e
   exact .tup ⟨by have:=m.1;rw[a9 hp]at this;exact this,m.2⟩ e hl fun i v d x y=>ih i v d x y (n d (gl y))
 | @ptr p m=>
  intro _;refine .ptr ?_;by_cases z:p=a
  ·rw[z,b6]at m;cases m
  ·rw[a9 z]at m;exact m
 |_=>intro n;cases n
def Mt (i:Nat) (M0:Mh) (p:aG):aG:=fun ρ M Q=>p ρ M Q\/∃a xs,ρ[i]?=some (some (.ptr a))/\M a=some (.lst xs)/\M0 a=none/\zD M0 (bD M a) (ρ.set i (some (.lst xs))) /\
 (∀b o,M b=some o->b≠a->∀d∈o.items,kG d)/\p (ρ.set i (some (.lst xs))) (bD M a) fun d M2=>M2=bD M a/\kG d/\Q d M
theorem ym (i:Nat) {M1:Mh}{e:hX}{p:aG}(hM:Γ.M0=M1) (h:QE Γ X e p):QE Γ X e (Mt i M1 p):=h.imp fun σ H Q ⟨β,ρ,M,Q',zr,h,q⟩=>by
 rcases h with h|⟨a,xs,hi,ha,h0,fr,hn,h⟩
 ·exact⟨β,ρ,M,Q',zr,h,q⟩
 ·obtain⟨z2,_⟩:=zr.freeze hi ha (by rw[hM];exact h0) (by rw[hM];exact fr)
  obtain⟨vs,hv,rs⟩:=zr.mz.obj a _ ha;refine⟨β,_,_,_,z2,h,fun d M2 v H2 x r ⟨e,nl,hq⟩=>?_⟩
  subst e;have sS:H2 a=some (.lst vs):=x.get b6 hv rfl;have ey:Ey M H M H2:=⟨fun b o hb ho=>x.keep b o (by
   by_cases e:b=a
   ·rw[e];exact b6
   ·rw[a9 e];exact hb) ho,fun _ h=>h,fun _ _ h _=>h⟩
  refine q d M v H2 ⟨ey,⟨fun b o hb=>?_,x.mz.tabs,x.mz.hids,zr.mz.apart,x.mz.lams⟩⟩ (r.grow sS nl) hq
  by_cases e:b=a
  ·subst e;rw[ha]at hb;cases hb;exact⟨vs,sS,rs.len,fun i v d p q=>(rs.at' i v d p q).ey ey⟩
  ·have z:=x.mz.obj b o (by rw[a9 e];exact hb)
   cases o with
   |cJ=>exact z
   |lst ds=>
    obtain⟨us,hu,ru⟩:=z;exact⟨us,hu,ru.len,fun i v d p q=>(ru.at' i v d p q).grow sS (hn b _ hb e d (gl q))⟩
   |dk ks ds=>
    obtain⟨us,hu,hk,ru⟩:=z;exact⟨us,hu,hk,ru.len,fun i v d p q=>(ru.at' i v d p q).grow sS (hn b _ hb e d (gl q))⟩
   |dt ks ds=>
    obtain⟨us,hu,hk,ru⟩:=z;exact⟨us,hu,hk,ru.len,fun i v d p q=>(ru.at' i v d p q).grow sS (hn b _ hb e d (gl q))⟩
   |ts ks ds=>
    obtain⟨us,hu,hk,ru⟩:=z;exact⟨us,hu,hk,ru.len,fun i v d p q=>(ru.at' i v d p q).grow sS (hn b _ hb e d (gl q))⟩
def J1 (neg:Bool):R2:=fun x y H Q=>∃(p:al) (xs:List V) (d:Dt) (ds:List Dt),y=.ref p/\H p=some (.lst xs)/\dw H x d/\xs.length=ds.length/\(∀(i:Nat) (v:V) (t:Dt),xs[i]?=some v->ds[i]?=some t->dw H v t) /\
 (∀t∈ds,gf t<=60)/\Q (.bl (if neg then !(ds.any fun t=>cp t d) else ds.any fun t=>cp t d)) H
open Classical in
theorem J4 {pins:List (al×lp)}{σ:St}{H:Hp}{s:ar}(I:Inv X pins σ H s) {x:V}{v:ap}{d:Dt}{xs:List V}{ds:List Dt}{its:List ap}(rx:RelV x v) (hx:dw H x d) (rv:Vals xs its) (hl:xs.length=ds.length)
  (jL:∀(i:Nat) (v:V) (t:Dt),xs[i]?=some v->ds[i]?=some t->dw H v t) (J5:∀t∈ds,gf t<=60) (hu:X.A.units+64<cLine) :
  ∃e:ap->Bool,(∀y∈its,lc X.A.in1 s y v (e y))/\its.any e=ds.any fun t=>cp t d :=by
 have m9:=rv.length;let e:ap->Bool:=fun y=>decide (∃(i:Nat) (t:Dt),its[i]?=some y/\ds[i]?=some t/\cp t d=true)
 have key:∀(i:Nat) (y:ap) (t:Dt),its[i]?=some y->ds[i]?=some t->e y=cp t d:=fun i y t hi ht=>by
  cases hE:cp t d with
  |true=>exact decide_eq_true ⟨i,t,hi,ht,hE⟩
  |false=>
   refine decide_eq_false fun⟨j,t',hj,Q8,he⟩=>?_
   obtain⟨a,ha,ra⟩:=jq rv hi;obtain⟨b,hb,rb⟩:=jq rv hj;have FQ:=ra.inj rb;subst FQ;have:=(jL i a t ha ht).inj (jL j a t' hb Q8);subst this;rw[he]at hE;cases hE
 refine⟨e,fun y hy=>?_,?_⟩
 ·obtain⟨i,hi⟩:=u4.mp hy;obtain⟨a,ha,ra⟩:=jq rv hi;have k9:i<ds.length :=by
   have:=(cr.mp ha).1;omega
  have ht:=ac k9;rw[key i y _ hi ht];refine nq I (jL i a _ ha ht) hx ra rx ?_;have:=J5 _ (wn k9);have:X.A.in1.units=X.A.units+1:=rfl;omega
 ·rw[RS,T7,T7];constructor
  ·rintro⟨y,hy,he⟩;obtain⟨i,t,_,ht,h⟩:=of_decide_eq_true he;exact⟨t,gl ht,h⟩
  ·rintro⟨t,ht,h⟩;obtain⟨i,hi⟩:=u4.mp ht;have k9:i<its.length :=by
    have:=(cr.mp hi).1;omega
   exact⟨_,wn k9,by rw[key i _ t (ac k9) hi];exact h⟩
theorem B7 (hu:X.A.units+64<cLine):OpR X (compareOp .NotIn) (J1 true) :=by
 intro pins s σ H x y v u Q I rx ry h;obtain⟨p,xs,d,ds,rfl,hp,hx,hl,jL,J5,q⟩:=h;cases ry;obtain⟨its,rv,pl⟩:=I.lists hp;obtain⟨e,he,Pr⟩:=J4 I rx hx rv hl jL J5 hu;refine SeqAt.notIn_listAt e pl (fun y hy=>he y (by simpa using hy)) ⟨.bl _,H,I,rfl,?_⟩
 rw[show its.toArray.any e=its.any e by simp,Pr]
 exact q
def vH (neg:Bool):eZ:=fun d e M Q=>match bH (now M d),(now M e) with
 |some a,.lst ds=>(match gH ds with|some ts=>(∀t∈ts,gf t<=60)/\Q (.bl (if neg then !(ts.any fun t=>cp t a) else ts.any fun t=>cp t a)) M|none=>False)
 |_,_=>False
theorem G3 {neg:Bool}:oP Γ (J1 neg) (vH neg):=fun β x y d e M H Q Q' _ _ _ m rx ry z q=>by
 unfold vH at z;split at z
 ·rename_i a ds h1 h2;split at z
  ·rename_i ts Q9;have hy:dw H y (.lst ts):=oj m ry (by rw[h2];simp only[bH,Q9,Cf])
   have hx:dw H x a:=oj m rx h1;cases hy with
   |lst e hl jL=>exact⟨_,_,a,ts,rfl,e,hx,hl,jL,z.1,q _ _ _ _ (.refl m) (.bl _) z.2⟩
  ·exact z.elim
 ·exact z.elim
theorem Es (hu:X.A.units+64<cLine):fG Γ X (compareOp .NotIn) (vH true):=⟨_,B7 hu,G3⟩
end
end L2
namespace L2
open PySem PySem.Spec PyProof.Rows
section
variable {β:Bz}{M:Mh}{H:Hp}{D:al}{o':Mo}{u:HO}
theorem G4 {v:V}{d:Dv}(r:Rz (β.add D) M H v d):Rz β (aA M D o') (upd H D u) v d :=by
 have na:∀a,Fz (β.add D) M a->a≠D:=fun a f z=>f.2 (by rw[z];exact f8)
 have ne:∀a,Fz (β.add D) M a->Fz β (aA M D o') a:=fun a f=>⟨by rw[ah (na a f)];exact f.1,fun z=>f.2 (ci _ z)⟩
 have pre:∀a x,Fz (β.add D) M a->H a=some x->upd H D u a=some x:=fun a x f e=>by rw[aq (na a f)];exact e
 induction r with
 |int i=>exact .int i
 |bl b=>exact .bl b
 |ao=>exact .ao
 |str z=>exact .str z
 |tup m e hl h ih=>exact .tup (ne _ m) (pre _ _ m e) hl ih
 |lst m e hl h ih=>exact .lst (ne _ m) (pre _ _ m e) hl ih
 |dk m e hk hl h ih=>exact .dk (ne _ m) (e.map fun _ h=>pre _ _ m h) hk hl ih
 |dt m e hk hl h ih=>exact .dt (ne _ m) (e.map fun _ h=>pre _ _ m h) hk hl ih
 |di m e m2 e2 hl h ih=>exact .di (ne _ m) (pre _ _ m e) (ne _ m2) (pre _ _ m2 e2) hl ih
 |set m e=>exact .set (ne _ m) (pre _ _ m e)
 |ptr m=>exact .ptr (by unfold aA;split;rfl;exact m)
 |exc m e=>exact .exc (ne _ m) (pre _ _ m e)
 |bC m e=>exact .bC (ne _ m) (pre _ _ m e)
 |cG m e=>exact .cG (ne _ m) (pre _ _ m e)
 |cH e=>exact .cH e
 |raw v=>exact .raw v
theorem jY {vs:List V}{ds:List Dv}(r:aM (β.add D) M H vs ds):aM β (aA M D o') (upd H D u) vs ds:=⟨r.len,fun i v d a b=>G4 (r.at' i v d a b)⟩
theorem Mz.Pt (m:Mz (β.add D) M H) (hM:M D=none) (hD:D ∉ β.hid) (nt:D ∉ β.tb) (hu:nF u=true) (r:i5 β (aA M D o') (upd H D u) D o'):Mz β (aA M D o') (upd H D u) :=by
 obtain⟨oD,eD,nD⟩:=m.hids D f8;refine⟨fun a o e=>?_,fun q hq=>?_,fun a ha=>(m.hids a (ci _ ha)).upd (.inr hu),fun a o e z=>?_,fun q hq=>?_⟩
 ·by_cases ha:a=D
  ·subst ha;rw[updM_same]at e;cases e;exact r
  ·rw[ah ha]at e;have z:=m.obj a o e;cases o with
   |lst ds=>obtain⟨vs,z,rs⟩:=z;exact⟨vs,by rw[aq ha];exact z,jY rs⟩
   |dk ks ds=>obtain⟨vs,z,hk,rs⟩:=z;exact⟨vs,by rw[aq ha];exact z,hk,jY rs⟩
   |dt ks ds=>obtain⟨vs,z,hk,rs⟩:=z;exact⟨vs,by rw[aq ha];exact z,hk,jY rs⟩
   |ts ks ds=>obtain⟨vs,z,hk,rs⟩:=z;exact⟨vs,by rw[aq ha];exact z,hk,jY rs⟩
   |cJ=>obtain⟨c,n,z,q⟩:=z;exact⟨c,n,by rw[aq ha];exact z,q⟩
 ·obtain⟨ps,e,t⟩:=m.tabs q hq;exact⟨ps,by rw[aq (show q≠D from fun z=>nt (by rw[<- z];exact hq))];exact e,t⟩
 ·by_cases ha:a=D
  ·exact hD (ha▸z)
  ·rw[ah ha]at e;exact m.apart a o e (ci _ z)
 ·exact(m.lams q hq).keep (fun _ e=>by rw[aq (fun z=>by subst z;rw[eD]at e;cases e;cases nD)];exact e) fun c _ _ e=>by rw[aq (fun z=>by subst z;rw[eD]at e;cases e;cases nD)];exact e
end
theorem B8 {P:i4}{w:i8}{K:bn}{mg mb:cb->Option ap}{CX:kZ}{k:Nat}{fa a:al}{fd:mo}{x:cb}{sp:Sp}{aw:ar}{vs:List ap}{ns:List Int}{tabs lts:List al}
  (KX:K.In aw.heap) (jd:aw.heap.Ns mainGlobals mg) (hb:aw.heap.Ns builtinsNs mb) (Ra:∀x:cb,x ≠ "__name__" -> mb x=bootBuiltins x) (zm:aw.heap.NoLimit) (hg:aw.gens=#[])
  (ha:aw.heap.get? a=some {cls:=.type "list",data:=.seq vs.toArray}) (hi:NL vs ns) (hl:ns.length<=sizeLine) (hr:bX k callerA)
  (jO:∀p∈tabs++lts,aw.heap.get? p=some (S1 #[])/\isCodeTable aw.heap p) (Pu:∀p∈tabs,p ∉ lts) (B9:UT K=true) (eE:∃bm ob,T5 aw.heap mainGlobals mg bm ob)
  (F:∀base:kt,K.In base->base.Ns mainGlobals mg->(∃bm ob,T5 base mainGlobals mg bm ob)->(∀c p,re aw.heap c p->re base c p)->FnOk P w K mg base CX k fa fd [x] sp)
  (Mu:∀(s:ar) (u:ap),Vb s fd ⟨[u],[]⟩ [(x,u)])
  (jc:∀H:Hp,(∀p∈tabs,Tb p H)->(∀p∈lts,H p=some (.lam #[]))->bU K H a (ns.map V.int)->sp [.ref a] H (fun v H'=>v=.bl true/\∀p∈lts,∃ps,H' p=some (.lam ps)) fun _ _ _=>False)
  (J6:∀H e s',CX [] H aw (fun _ _ _=>False) e s'->False) :
  codeAny (model P w) callerA (.call (.ref fa) ⟨[.ref a],[]⟩) (fun r s'=>r=.ok (.ret (.bool true))/\OldK aw.heap s'.heap/\s'.os=aw.os/\Vv s'.gens) aw :=by
 have rv:=sy hi;have Pw:=hi.length;have jL:a ∉ tabs++lts:=fun z=>by
  have e:=(jO a z).1;rw[ha]at e;cases e
 have core:∀H:Hp,(∀b u,H b=some u->(b=a/\∃o xs,u=.f9 o (.lst xs))\/(b∈tabs++lts/\(u=.cQ #[]/\b∈tabs\/u=.lam #[]/\b∈lts)))->(∀p∈tabs,H p=some (.cQ #[]))->(∀p∈lts,H p=some (.lam #[]))->bU K H a (ns.map V.int)->dI P w H aw.heap->(H a≠none->K.lookup a=none)->
   codeAny (model P w) callerA (.call (.ref fa) ⟨[.ref a],[]⟩) (fun r s'=>r=.ok (.ret (.bool true))/\OldK aw.heap s'.heap/\s'.os=aw.os/\Vv s'.gens) aw :=by
  intro H hO J7 Rb hS hok hK;have oq:∀{b:al} {o:lp},aw.heap.get? b=some o->H b=none->(jE aw.heap H).get? b=some o:=fun e n=>Du e n
  have no:∀{b:al} {o:lp},aw.heap.get? b=some o->(∀n,o.data≠.seq vs.toArray n)->o≠S1 #[]->H b=none:=fun {b o} e d1 d2=>by
   cases q:H b with
   |none=>rfl
   |some u=>
    rcases hO b u q with ⟨e',_⟩|⟨bY,_⟩
    ·subst e';rw[ha]at e;cases e;exact absurd rfl (d1 _)
    ·rw[(jO b bY).1]at e;exact absurd (kw e).symm d2
  have Rc:∀{b:al} {o:lp} {es:Array DictEntry} {ep:Nat},aw.heap.get? b=some o->o.data=.dict es ep->H b=none:=fun {b o es ep} e d=>no e (fun n z=>by rw[d]at z;cases z) fun z=>by rw[z]at d;cases d
  have Ca:∀{b:al} {m:cb->Option ap},aw.heap.Ns b m->(jE aw.heap H).Ns b m:=fun {b m} hS=>by obtain⟨o,es,ep,e,d,r⟩:=hS;exact⟨o,es,ep,oq e (Rc e d),d,r⟩
  have N4:K.In (jE aw.heap H):=fun b o e=>oq (KX b o e) (by
   cases q:H b with
   |none=>rfl
   |some u=>
    rcases hO b u q with ⟨e',_⟩|⟨bY,_⟩
    ·subst e';rw[hK (by rw[q];simp)]at e;cases e
    ·have e1:=KX b o e;have e2:=(jO b bY).1;rw[e1]at e2;have e3:o=S1 #[]:=kw e2;have q2:=tw.mp B9 (b,o) (PySem.W.kb_mem e);simp only[Bool.or_eq_true,decide_eq_true_eq,beq_iff_eq]at q2;rcases q2 with (q2|q2)|q2
     ·rw[e3]at q2;exact absurd rfl q2
     ·obtain⟨mc,⟨oc,es,ep,ho,hd,_⟩,_⟩:=zm;rw[<- q2,e1]at ho;cases ho;rw[e3]at hd;cases hd
     ·obtain⟨oc,es,ep,ho,hd,_⟩:=id jd;rw[<- q2,e1]at ho;cases ho;rw[e3]at hd;cases hd)
  have hM:Mod K mg (jE aw.heap H):=⟨N4,Ca jd,⟨mb,Ca hb,Ra⟩,let ⟨mc,h1,h2⟩:=zm;⟨mc,Ca h1,h2⟩⟩;have hB:∃bm ob,T5 (jE aw.heap H) mainGlobals mg bm ob :=by
   obtain⟨bm,ob,B⟩:=eE;exact⟨bm,ob,Ca B.ns,B.name,B.ne,oq B.obj (no B.obj (fun n z=>by rw[B.data]at z;cases z) fun z=>by have:=B.data;rw[z]at this;cases this),B.cls,B.dict,B.data⟩
  have hC:∀c p,re aw.heap c p->re (jE aw.heap H) c p:=fun c p ⟨o,BK,file,tf,flags,tg,Rf,text,tt,e1,e2,e3,r⟩=>
   ⟨o,BK,file,tf,flags,tg,Rf,text,tt,oq e1 (no e1 (fun n z=>by rw[e3]at z;cases z) fun z=>by rw[z]at e2;cases e2),e2,e3,r⟩
  have e0:yR P w K mg (jE aw.heap H) callerA [] aw H:=⟨rfl,hM,fun b o e=>Gf e,Nat.le_of_eq (Ao _ _),trivial,fun b hb=>absurd (show b∈([]:List al) from hb) (by simp),hok,.of_eq hg⟩
  refine Ur ((F _ N4 (Ca jd) hB hC).run callerA [] aw H ⟨[.ref a],[]⟩ [.ref a] [.ref a] _ _ hr e0 (Mu aw (.ref a)) (.cons rfl .nil) (jc H (fun p hp=>⟨#[],J7 p hp,trivial⟩) Rb hS)) fun r s' h=>?_
  cases r with
  |error e=>exact(J6 H e s' h).elim
  |ok fl=>
   cases fl with
   |next=>exact Me h
   |brk=>exact Me h
   |cont=>exact Me h
   |ret u=>
    obtain⟨v,H',os,bare,un,Et,r',q⟩:=h;obtain⟨q',qL⟩:=q;subst q';obtain rfl:u=Um true:=r';have all:∀b o,aw.heap.get? b=some o->asItWas aw.heap s'.heap b o/\∃o',s'.heap.get? b=some o':=fun b o e=>by
     cases q:H b with
     |none=>
      have:=un.keep b o e q (by intro z;exact absurd (show b∈([]:List al) from z) (by simp)) (by simp)
      exact⟨.inl this,_,this⟩
     |some u=>
      rcases hO b u q with ⟨_,ob,xs,z⟩|⟨bY,z⟩
      ·subst z;have z2:=un.frzs b ob _ q;obtain⟨e1,_⟩:=hok b _ q;obtain⟨e2,_⟩:=Et b _ z2;rw[e]at e1;cases e1;exact⟨.inl e2,_,e2⟩
      ·have e2:∃more,s'.heap.get? b=some {cls:=.none,data:=.fields (#[]++more)}:=by
        rcases z with ⟨z,_⟩|⟨z,m6⟩
        ·subst z;obtain⟨more,z2⟩:=un.tbls b #[] q;exact⟨more,Et b _ z2⟩
        ·obtain⟨ps,z2⟩:=qL b m6;refine⟨ps,?_⟩;have:=Et b _ z2;rw[show (#[]:Array ap)++ps=ps by simp]
         exact this
       obtain⟨more,e2⟩:=e2;have e1:=(jO b bY).1;rw[e]at e1;obtain rfl:o=S1 #[]:=kw e1;exact⟨.inr (.inl ⟨(jO b bY).2,rfl,#[],more,rfl,e2⟩),_,e2⟩
    exact⟨rfl,⟨fun b o e=>(all b o e).1,fun b o e=>(all b o e).2⟩,os,bare.1⟩
 have J8:∀p∈tabs++lts,∀H:Hp,∀u,(u=.cQ #[]/\p∈tabs\/u=.lam #[]/\p∈lts)->bz P w H aw.heap p u:=fun p hp H u hu=>by
  rcases hu with ⟨rfl,_⟩|⟨rfl,_⟩<;>exact(jO p hp).1
 let T:Hp:=fun b=>if b∈lts then some (.lam #[]) else if b∈tabs then some (.cQ #[]) else none
 have T1:∀b u,T b=some u->b∈tabs++lts/\(u=.cQ #[]/\b∈tabs\/u=.lam #[]/\b∈lts):=fun b u z=>by
  by_cases h1:b∈lts
  ·have z':=(show T b=_ from if_pos h1).symm.trans z;cases z';exact⟨c8 _ h1,.inr ⟨rfl,h1⟩⟩
  ·by_cases h2:b∈tabs
   ·have z':=(show T b=_ from (if_neg h1).trans (if_pos h2)).symm.trans z;cases z';exact⟨wb _ h2,.inl ⟨rfl,h2⟩⟩
   ·have z':=(show T b=_ from (if_neg h1).trans (if_neg h2)).symm.trans z;cases z'
 have T2:∀p∈tabs,T p=some (.cQ #[]):=fun p hp=>(if_neg (Pu p hp)).trans (if_pos hp)
 have T3:∀p∈lts,T p=some (.lam #[]):=fun p hp=>if_pos hp
 have Ta:T a=none:=(if_neg fun z=>jL (c8 _ z)).trans (if_neg fun z=>jL (wb _ z))
 cases hk:K.lookup a with
 |some o=>
  have e:=KX a o hk;rw[ha]at e;cases e;exact core T (fun b u z=>.inr (T1 b u z)) T2 T3 (.inr ⟨_,vs.toArray,_,hk,rfl,rfl,rfl,by rw[dL,Pw];exact hl,by simpa using rv⟩) (fun b u z=>J8 b (T1 b u z).1 _ u (T1 b u z).2) fun z=>absurd Ta z
 |none=>
  have na:∀p∈tabs++lts,p≠a:=fun p hp z=>jL (z▸hp)
  refine core (upd T a (.f9 {cls:=.type "list",data:=.seq vs.toArray} (.lst (ns.map V.int)))) (fun b u z=>?_) (fun p hp=>by rw[aq (na p (wb _ hp))];exact T2 p hp) (fun p hp=>by rw[aq (na p (c8 _ hp))];exact T3 p hp) (.inl (.inr ⟨_,aL⟩)) (fun b u z=>?_) fun _=>hk
  ·by_cases hb:b=a
   ·subst hb;rw[aL]at z;cases z;exact .inl ⟨rfl,_,_,rfl⟩
   ·rw[aq hb]at z;exact .inr (T1 b u z)
  ·by_cases hb:b=a
   ·subst hb;rw[aL]at z;cases z;exact⟨ha,by rw[br];exact hl,vs,_,rv,ha⟩
   ·rw[aq hb]at z;exact J8 b (T1 b u z).1 _ u (T1 b u z).2
def tZ (K:bn) (x:cb):Option al:=match nw K mainGlobals x with
 |some (some (.ref f))=>(match K.lookup f with
  |some ⟨_,_,.func fd,_⟩=>(match fd.code with
   | .ref c=>(match K.lookup c with
    |some ⟨_,_,.fields vs,_⟩=>(match vs[11]? with|some (xw p)=>some p|_=>none)
    |_=>none)
   |_=>none)
  |_=>none)
 |_=>none
abbrev TabOf (mg:cb->Option ap) (h:kt) (y:cb) (p:al):Prop:=∃f o fd c,mg y=some (.ref f)/\h.get? f=some o/\o.data=.func fd/\fd.code=.ref c/\re h c p
theorem vI {K:bn}{mg:cb->Option ap}{h:kt}{y:cb}{p q:al}(X:K.In h) (G:h.Ns mainGlobals mg) (t:TabOf mg h y p) (e:tZ K y=some q):p=q :=by
 obtain⟨f,o,fd,c,e1,e2,e3,e4,oc,vs,_,_,_,_,_,_,_,g1,_,g3,g4,_⟩:=t;unfold tZ at e;split at e
 ·rename_i f' jd;have:=(Re X G jd).symm.trans e1;cases this;split at e
  ·rename_i SH SJ Qm Nf Rg;have:=(X _ _ Rg).symm.trans e2;cases this;cases e3;rw[e4]at e;dsimp only at e;split at e
   ·rename_i a1 a2 BK a3 Rh;have:=(X _ _ Rh).symm.trans g1;cases this;cases g3;rw[g4]at e;cases e;rfl
   ·cases e
  ·cases e
 ·cases e
def rP (K:bn) (gs ls:List cb):Bool:=gs.all fun x=>ls.all fun y=>match tZ K x,tZ K y with|some p,some q=>decide (p≠q)|_,_=>false
theorem yn {α β:Type}{F:α->β->Prop}{l:List α}{m:List β}(h:u8 F l m) {b:β}(hb:b∈m):∃a∈l,F a b :=by
 induction h with
 |nil=>simp at hb
 |cons x t ih=>
  rcases l7.mp hb with e|e
  ·subst e;exact⟨_,f8,x⟩
  ·obtain⟨a,ha,q⟩:=ih e;exact⟨a,ci _ ha,q⟩
theorem Eu {K:bn}{mg:cb->Option ap}{h:kt}{gs ls:List cb}{tabs lts:List al}(X:K.In h) (G:h.Ns mainGlobals mg) (d:rP K gs ls=true) (t1:u8 (TabOf mg h) gs tabs) (t2:u8 (TabOf mg h) ls lts):∀p∈tabs,p ∉ lts:=fun p hp hq=>by
 obtain⟨x,hx,tx⟩:=yn t1 hp;obtain⟨y,hy,ty⟩:=yn t2 hq;have:=tw.mp (tw.mp d x hx) y hy;split at this
 ·rename_i p' q' e1 e2;have a:=vI X G tx e1;have b:=vI X G ty e2;exact(of_decide_eq_true this) (a.symm.trans b)
 ·cases this
theorem Ew {l:Vs}{n k:Nat}{q:i4}{loose:List cb}{XP:(cb->Option ap)->kt->Prop}{YP:i8->kt->Prop}{d:DefRec}{K:VB->bn}{CX:kZ}{sp:bn->List al->List al->Sp}{x:cb}{mB Cb:List cb}
  (hn:l.most=some n) (Ri:n<=sizeLine) (AY:d.params.defaults=[]) (hr:bX k callerA) (B9:∀w:i8,UT (K w.params)=true)
  (FR:∀y∈mB++Cb,∃r∈recsOf q,r.name=y) (oK:∀w:i8,rP (K w.params) mB Cb=true)
  (hY:∀(w:i8) (h:kt),YP w h->(K w.params).In h)
  (F:∀(w:i8) (mg:cb->Option ap) (fa:al) (h:kt) (tabs lts:List al),(K w.params).In h->h.Ns mainGlobals mg->mg d.name=some (.ref fa)->
   u8 (TabOf mg h) mB tabs->u8 (TabOf mg h) Cb lts->
   ∃fd:mo,(∀(s:ar) (u:ap),Vb s fd ⟨[u],[]⟩ [(x,u)]) /\
    ∀base:kt,(K w.params).In base->base.Ns mainGlobals mg->(∃bm ob,T5 base mainGlobals mg bm ob)->(∀c p,re h c p->re base c p)->FnOk l.prog w (K w.params) mg base CX k fa fd [x] (sp (K w.params) tabs lts))
  (jc:∀(K:bn) (tabs lts:List al) (H:Hp) (a:al) (ns:List Int),lts.length=Cb.length->ns.length<=n->(∀p∈tabs,Tb p H)->(∀p∈lts,H p=some (.lam #[]))->bU K H a (ns.map V.int)->sp K tabs lts [.ref a] H (fun v H'=>v=.bl true/\∀p∈lts,∃ps,H' p=some (.lam ps)) fun _ _ _=>False)
  (J6:∀(H:Hp) (s:ar) (e:ap) (s':ar),CX [] H s (fun _ _ _=>False) e s'->False) :
  PySem.W.WalkO q loose XP YP l.row.toRowW d [] (fun f vs=>Vx f vs) :=by
 refine Nu.wA hn AY fun w s₀ aw mg mb fa o pm cd doc a vs ns G Y ho hd iR AZ DQ hints hlen hg=>?_
 have KX:=hY w _ Y;have tb:∀mB:List cb,(∀y∈mB,∃r∈recsOf q,r.name=y)->∃tabs,u8 (TabOf mg aw.heap) mB tabs/\∀p∈tabs,aw.heap.get? p=some (S1 #[])/\isCodeTable aw.heap p :=by
  intro mB;induction mB with
  |nil=>intro _;exact⟨[],.nil,fun p hp=>absurd hp (by simp)⟩
  |cons y r ih=>
   intro hm;obtain⟨tabs,h1,h2⟩:=ih fun z hz=>hm z (ci _ hz)
   obtain⟨rr,Rj,e⟩:=hm y f8;obtain⟨f,o',fd,c,p,a1,a2,a3,a4,a5,a6⟩:=G.T.tab rr Rj;rw[e]at a1;refine⟨p::tabs,.cons ⟨f,o',fd,c,a1,a2,a3,a4,.of a5 a6⟩ h1,fun z hz=>?_⟩
   rcases l7.mp hz with rfl|hz
   ·exact⟨a6.2,a6.isCodeTable⟩
   ·exact h2 z hz
 obtain⟨tabs,t1,t2⟩:=tb mB fun y hy=>FR y (wb _ hy)
 obtain⟨lts,u1,u2⟩:=tb Cb fun y hy=>FR y (c8 _ hy)
 obtain⟨fd,hb,hF⟩:=F w mg fa _ tabs lts KX G.T.g AZ t1 u1;exact B8 (lts:=lts) KX G.T.g G.T.b G.T.builtins G.T.nolimit hg DQ hints (wv hlen Ri) hr (fun p hp=>(rc.mp hp).elim (t2 p) (u2 p)) (Eu KX G.T.g (oK w) t1 u1) (B9 w) (PySem.W.bmod_of_top G.T) hF hb (fun H hO hL hS=>jc _ tabs lts H a ns (P3 u1).symm hlen hO hL hS) fun H e s'=>J6 H aw e s'
theorem Ez {K:bn}{tabs lts:List al}{qs:List cb}{H:Hp}{a:al}{ns:List Int}(hl:lts.length=qs.length) (hn:ns.length<=63) (hT:∀p∈tabs,Tb p H) (hL:∀p∈lts,H p=some (.lam #[])) (hS:bU K H a (ns.map V.int)) :
  spLaw K ⟨tabs,lts.zip qs⟩ [.ref a] H (fun v H'=>v=.bl true/\∀p∈lts,∃ps,H' p=some (.lam ps)) fun _ _ _=>False:=
 ⟨a,ns,rfl,hS,hn,hT,fun p hp=>⟨#[],hL p.1 (Us hp).1,trivial,fun pos cv e=>nomatch e⟩,fun H' h=>⟨rfl,fun p hp=>by
  obtain⟨i,hi⟩:=u4.mp hp;have h1:=(cr.mp hi).1;exact h (p,qs[i]) (gl (i:=i) (IS.mpr ⟨hi,ac (by omega)⟩))⟩⟩
theorem nT {α β:Type}{F:α->β->Prop}:∀{l:List α}{m:List β}{i:Nat}{a:α},u8 F l m->l[i]?=some a->∃b,m[i]?=some b/\F a b
 |_,_,_,_,.nil,h=>by simp at h
 |_,_,0,_,.cons x _,h=>by simp at h;subst h;exact⟨_,rfl,x⟩
 |_,_,i+1,_,.cons _ t,h=>by obtain⟨b,e,q⟩:=nT (i:=i) t (by simpa using h);exact⟨b,by simpa using e,q⟩
end L2
namespace L2
open PySem PySem.Spec PySem.W PyProof.Rows
section
variable {X:Cx}{Γ:Gz}{K:bn}
theorem aM.rep {β:Bz}{M:Mh}{H:Hp}{vs:List V}{ds:List Dv}(r:aM β M H vs ds):∀k:Nat,aM β M H (qr k vs).flatten (qr k ds).flatten
 |0=>⟨rfl,fun i v d h=>by simp at h⟩
 |k+1=>by rw[wp,wp,Ll,Ll];exact r.append (aM.rep r k)
open Classical in
end
end L2
namespace L2
open PySem PySem.Spec PyProof.Rows
theorem iD {g:bS}{te:aG}(J:List Dv->av->Mh->Prop):∀{ds acc:List Dv}{τ:av}{M:Mh}{Q:List Dv->Mh->Prop},J acc τ M->
  (∀i d eF τ M,ds[i]?=some d->eF.length=acc.length+i->J eF τ M->∀R:av->ZK,(∀y aj M2,J (eF++[y]) aj M2->R aj y M2)->g d τ M fun aj M2=>te aj M2 (R aj))->
  (∀ys τ M,ys.length=ds.length->J (acc++ys) τ M->Q ys M)->gq g zNoIf te ds τ M Q
 | [],acc,τ,M,Q,j,_,q=>q [] τ M rfl (by rw[EQ];exact j)
 |d::ds,acc,τ,M,Q,j,h,q=>by
          refine h 0 d acc τ M rfl rfl j (fun aj y M4=>gq g zNoIf te ds aj M4 fun ys M5=>Q (y::ys) M5) fun y aj M2 j2=>?_
          refine iD J (acc:=acc++[y]) j2 (fun i d' eF aU M' e1 e2 j' R hR=>?_) fun ys iw M3 e3 j3=>?_
          ·exact h (i+1) d' eF aU M' e1 (by rw[e2,zw];simp;omega) j' R hR
          ·exact q (y::ys) iw M3 (by simp[e3]) (by rw[Lo]at j3;exact j3)
theorem ou {a1 r:cK}{D:gF}{ρ:av}{M:Mh}(I:av->Mh->Prop) (h1:∀N:av->Mh->Prop,(∀ρ M,I ρ M->N ρ M)->a1 {D with nx:=N} ρ M) (h2:∀ρ M,I ρ M->r D ρ M):(zSeq a1 r) D ρ M:=h1 _ h2
theorem Mv {a1 a2 r:cK}{D:gF}{ρ:av}{M:Mh}(I:av->Mh->Prop) (h1:∀N:av->Mh->Prop,(∀ρ M,I ρ M->N ρ M)->(zSeq a1 a2) {D with nx:=N} ρ M) (h2:∀ρ M,I ρ M->r D ρ M):(zSeq a1 (zSeq a2 r)) D ρ M:=h1 _ h2
theorem FT {a1 a2 a3 r:cK}{D:gF}{ρ:av}{M:Mh}(I:av->Mh->Prop) (h1:∀N:av->Mh->Prop,(∀ρ M,I ρ M->N ρ M)->(zSeq a1 (zSeq a2 a3)) {D with nx:=N} ρ M) (h2:∀ρ M,I ρ M->r D ρ M):(zSeq a1 (zSeq a2 (zSeq a3 r))) D ρ M:=h1 _ h2
theorem FU {a1 a2 a3 a4 r:cK}{D:gF}{ρ:av}{M:Mh}(I:av->Mh->Prop) (h1:∀N:av->Mh->Prop,(∀ρ M,I ρ M->N ρ M)->(zSeq a1 (zSeq a2 (zSeq a3 a4))) {D with nx:=N} ρ M) (h2:∀ρ M,I ρ M->r D ρ M):(zSeq a1 (zSeq a2 (zSeq a3 (zSeq a4 r)))) D ρ M:=h1 _ h2
theorem FV {a1 a2 a3 a4 a5 r:cK}{D:gF}{ρ:av}{M:Mh}(I:av->Mh->Prop) (h1:∀N:av->Mh->Prop,(∀ρ M,I ρ M->N ρ M)->(zSeq a1 (zSeq a2 (zSeq a3 (zSeq a4 a5)))) {D with nx:=N} ρ M) (h2:∀ρ M,I ρ M->r D ρ M):(zSeq a1 (zSeq a2 (zSeq a3 (zSeq a4 (zSeq a5 r))))) D ρ M:=h1 _ h2
section
variable {β:Bz}{M M':Mh}{H H':Hp}{a:al}{o o' o2 oT:Mo}
theorem Rz.dom (hd:∀a,(M a).isSome=(M' a).isSome) {v:V}{d:Dv}(r:Rz β M H v d):Rz β M' H v d:=
 r.lM (M0:=M') (fun a h=>by rw[hd a];exact h) (r.pin.mono fun a h=>by rw[<- hd a];exact h)
theorem i5.dom (hd:∀a,(M a).isSome=(M' a).isSome) (h:i5 β M H a o):i5 β M' H a o :=by
 cases o with
 |lst ds=>obtain⟨vs,h1,rs⟩:=h;exact⟨vs,h1,rs.len,fun i v d x y=>(rs.at' i v d x y).dom hd⟩
 |cJ=>exact h
 |dk ks ds=>obtain⟨vs,h1,h2,rs⟩:=h;exact⟨vs,h1,h2,rs.len,fun i v d x y=>(rs.at' i v d x y).dom hd⟩
 |dt ks ds=>obtain⟨vs,h1,h2,rs⟩:=h;exact⟨vs,h1,h2,rs.len,fun i v d x y=>(rs.at' i v d x y).dom hd⟩
 |ts ks ds=>obtain⟨vs,h1,h2,rs⟩:=h;exact⟨vs,h1,h2,rs.len,fun i v d x y=>(rs.at' i v d x y).dom hd⟩
theorem jA (M:Mh) (a:al) (o o2:Mo) (b:al):(aA M a o b).isSome=(aA M a o2 b).isSome :=by
 by_cases e:b=a
 ·subst e;rw[updM_same,updM_same];rfl
 ·rw[ah e,ah e]
theorem kI {b:al}(o2:Mo) (h:aA M a o b=none):aA M a o2 b=none :=by
 by_cases e:b=a
 ·subst e;rw[updM_same]at h;cases h
 ·rw[ah e]at h ⊢;exact h
theorem Mz.chg (m:Mz β (aA M a o) H) (h2:i5 β (aA M a o2) H a o2):Mz β (aA M a o2) H :=by
 refine⟨fun b u e=>?_,m.tabs,m.hids,fun b u e=>?_,m.lams⟩
 ·by_cases z:b=a
  ·subst z;rw[updM_same]at e;cases e;exact h2
  ·rw[ah z]at e;exact i5.dom (jA M a o o2) (m.obj b u (by rw[ah z];exact e))
 ·by_cases z:b=a
  ·subst z;exact m.apart b o updM_same
  ·rw[ah z]at e;exact m.apart b u (by rw[ah z];exact e)
theorem yo (h:M a=some o):aA M a o=M :=by
 funext b
 by_cases e:b=a
 ·subst e;rw[updM_same,h]
 ·rw[ah e]
theorem Ex.chg (x:Ex β (aA M a o) H (aA M a o') H') (h2:i5 β (aA M a oT) H' a oT):Ex β (aA M a o2) H (aA M a oT) H':=
 ⟨⟨fun b u h e=>x.keep b u (kI o h) e,fun b h=>by rw[jA M a oT o'];exact x.dom b (by rw[jA M a o o2];exact h),fun b u h e=>kI oT (x.new b u (kI o h) e)⟩,x.mz.chg h2⟩
theorem Ex.sealed (hn:M a=none) (x:Ex β M H (aA M a o') H') (h2:i5 β (aA M a oT) H' a oT):Ex β M H (aA M a oT) H':=
 ⟨⟨x.keep,fun b h=>by rw[jA M a oT o'];exact x.dom b h,fun b u h e=>kI oT (x.new b u h e)⟩,x.mz.chg h2⟩
theorem Cd {c m:Int}(z:Mz β (aA M a (.lst [.int c,.int m])) H) (hc:0<=c) (hm:0<=m):i5 β (aA M a .cJ) H a .cJ :=by
 obtain⟨vs,h,rs⟩:=z.obj a _ updM_same;refine⟨c,m,?_,hc,hm⟩;have:=fJ (ns:=[c,m]) rs;rw[h,this];rfl
theorem J9 (z:Mz β (aA M a .cJ) H):∃c m:Int,0<=c/\0<=m/\i5 β (aA M a (.lst [.int c,.int m])) H a (.lst [.int c,.int m]) :=by
 obtain⟨c,m,h,hc,hm⟩:=z.obj a _ updM_same;exact⟨c,m,hc,hm,_,h,pv (ns:=[c,m])⟩
end
section
variable {X:Cx}{Γ:Gz}{K:bn}
def zIxS:eZ:=fun d e M Q=>match d,e with | .bC ns,.int i=>(match bo ns i with|some x=>Q (.int x) M|none=>False)|_,_=>False
theorem FW (hK:X.K=K) (hG:K=Γ.K):JP Γ X zIxS:=⟨_,xH hK,fun β x y d e M H Q Q' _ _ eK m rx ry z q=>by
 unfold zIxS at z;split at z
 ·rename_i ns i;split at z
  ·rename_i v hv;obtain⟨a,rfl,hS⟩:=sN rx;rw[eK,<- hG]at hS;exact .inl ⟨a,_,i,.int v,rfl,aH ry,hS,G1 hv,q _ _ _ _ (.refl m) (.int _) z⟩
  ·exact z.elim
 ·exact z.elim⟩
end
def Rk (k:Nat):cb:=⟨#[97+k]⟩
section
variable {κ:Type} [DecidableEq κ]
def Px (step:κ->Nat->κ) (met:κ) (w:cb) (st:List κ×List cb) (a:Nat):List κ×List cb:=if step met a∈st.1 then st else (st.1++[step met a],st.2++[w++Rk a])
def visit (step:κ->Nat->κ) (met:κ) (w:cb) (n:Nat) (st:List κ×List cb):List κ×List cb:=(im n).foldl (Px step met w) st
def N5 (step:κ->Nat->κ) (n most:Nat):Nat->Nat->List κ×List cb->List κ×List cb
 |0,_,st=>st
 |fuel+1,i,st=>match st.1[i]?,st.2[i]? with
  |some met,some w=>if st.1.length<=most then N5 step n most fuel (i+1) (visit step met w n st) else st
  |_,_=>st
def met (step:κ->Nat->κ) (n most N:Nat) (s:κ):List κ×List cb:=N5 step n most (N+1) 0 ([s],[""])
end
section
variable {X:Cx}{Γ:Gz}
def zRepP:eZ:=fun d e M Q=>match d,e with | .lst ds,.int k=>(-(2 ^ 63)<=k/\k<2 ^ 63/\ds.length * k.toNat<=sizeLine)/\∀a,M a=none->Q (.ptr a) (aA M a (.lst (qr k.toNat ds).flatten))|_,_=>False
theorem Ka:fG Γ X (binaryOp .Mult) zRepP:=⟨_,IJ,fun β x y d e M H Q Q' _ _ _ m rx ry z q=>by
 unfold zRepP at z;split at z
 ·rename_i ds k;obtain⟨a,vs,rfl,f,ha,rs⟩:=gX rx;obtain⟨⟨z1,z2,z3⟩,z4⟩:=z;refine⟨a,_,vs,rfl,aH ry,ha,z1,z2,by rw[rs.len];exact z3,fun p hp=>?_⟩
  have x2:=Ex.own m (.inr hp) (rs.rep k.toNat);exact q _ _ _ _ x2 (.ptr (by rw[updM_same];rfl)) (z4 p (m.free hp))
 ·exact z.elim⟩
end
end L2
namespace L2
open PySem PySem.Spec PySem.W PyProof.Rows
def d9 {α:Type}(R:Nat->Int) (n:Nat):KasT α->(α->Prop)->Prop
 | .ret a,Q=>Q a
 | .ask i j k,Q=>i<n/\j<n/\d9 R n (k (decide (R i<R j))) Q
theorem g5 {α β:Type}{R:Nat->Int}{n:Nat}{f:α->KasT β}{Q:β->Prop}:∀{t:KasT α},d9 R n t (fun a=>d9 R n (f a) Q)->d9 R n (t.bind f) Q
 | .ret _,h=>h
 | .ask _ _ k,h=>⟨h.1,h.2.1,g5 (t:=k _) h.2.2⟩
structure Pm (n:Nat) (p:Array Nat):Prop where
 sz:p.size=n
 pm:p.toList.Perm (im n)
theorem Pm.lt {n:Nat}{p:Array Nat}(h:Pm n p) {k:Nat}(hk:k<n):p.getD k 0<n :=by
 have gb:k<p.size :=by rw[h.sz];exact hk
 have e:p.getD k 0=p[k] :=by simp[FM,gb]
 rw[e];have:p[k]∈p.toList :=by simp
 exact lm.mp (h.pm.mem_iff.mp this)
theorem Pm.of {n:Nat}{p p':Array Nat}(h:Pm n p) (hs:p'.size=p.size) (hp:p'.Perm p):Pm n p':=⟨hs.trans h.sz,(Array.perm_iff_toList_perm.mp hp).trans h.pm⟩
def rk (R:Nat->Int) (p:Array Nat) (k:Nat):Int:=R (p.getD k 0)
theorem iE (p:Array Nat) (k:Nat):p.getD k 0=(p[k]?).getD 0 :=by simp[Array.getD_eq_getD_getElem?]
theorem qK (R:Nat->Int) {p:Array Nat}{i j:Nat}(hj:j<=p.size) (k:Nat):rk R (kas_rev p i j) k=if i<=k/\k<j then rk R p (i+j - 1 - k) else rk R p k :=by
 unfold rk kas_rev;rw[iE,getElem?_mirror_all hj k];split<;>rw[iE]
theorem Ce (R:Nat->Int) {p:Array Nat}{src d:Nat}(hs:src<p.size) (hd:d<=src) (k:Nat):rk R (bubble p src d) k=if k=src - d then rk R p src else if src - d<k/\k<=src then rk R p (k - 1) else rk R p k :=by
 unfold rk;rw[iE,iE p src,iE p (k - 1),iE p k,getElem?_bubble hs d hd k];by_cases h1:k=src - d
 ·rw[if_pos h1,if_pos h1]
 ·rw[if_neg h1,if_neg h1];by_cases h2:src - d<k/\k<=src
  ·rw[if_pos h2,if_pos h2]
  ·rw[if_neg h2,if_neg h2]
def nU (R:Nat->Int) (p:Array Nat) (m:Nat):Prop:=∀a b,a<=b->b<m->rk R p a<=rk R p b
def oU (R:Nat->Int) (p:Array Nat) (m:Nat):Prop:=∀a b,a<=b->b<m->rk R p b<=rk R p a
section
variable {R:Nat->Int}{n:Nat}
theorem vJ {p:Array Nat}(hp:Pm n p) {Q:Nat->Prop}:∀(f m:Nat),nU R p m->1<=m->m+f<=n->(∀m',m<=m'->m'<=m+f->nU R p m'->(m'<m+f->rk R p m'<rk R p (m' - 1))->Q m')->d9 R n (kas_asc p f m) Q
 |0,m,ha,h1,hn,q=>q m (bv _) (bv _) ha (fun h=>absurd h (Fk _))
 |f+1,m,ha,h1,hn,q=>by
          refine⟨hp.lt (by omega),hp.lt (by omega),?_⟩
          show d9 R n (if decide (rk R p m<rk R p (m - 1))=true then _ else _) Q
          by_cases h:rk R p m<rk R p (m - 1)
          ·rw[decide_eq_true h,if_pos rfl];exact q m (bv _) (by omega) ha (fun _=>h)
          ·rw[decide_eq_false h,if_neg gc];refine vJ hp f (m+1) (fun a b gy hb=>?_) (by omega) (by omega) fun m' h2 h3 h4 h5=>q m' (by omega) (by omega) h4 (fun z=>h5 (by omega))
           rcases GG b m with z|z
           ·exact ha a b gy z
           ·have eb:b=m :=by omega
            subst eb;rcases GG a b with y|y
            ·have:=ha a (b - 1) (by omega) (by omega)
             omega
            ·have:a=b :=by omega
             subst this;exact FF _
theorem oU.rev {p:Array Nat}{m i:Nat}(hm:m<=p.size) (h:oU R p m) (he:∀k,i<=k->k<m->rk R p k=rk R p (m - 1)):oU R (kas_rev p i m) m/\∀k,rk R (kas_rev p i m) k=rk R p k :=by
 have e:∀k,rk R (kas_rev p i m) k=rk R p k:=fun k=>by
  rw[qK R hm];split
  ·rename_i z;rw[he (i+m - 1 - k) (by omega) (by omega),he k z.1 z.2]
  ·rfl
 exact⟨fun a b gy hb=>by rw[e a,e b];exact h a b gy hb,e⟩
theorem Pm.rev {p:Array Nat}(h:Pm n p) (i j:Nat):Pm n (kas_rev p i j):=h.of (mirror_size _ _ _ _) (mirror_perm _ _ _ _)
theorem ow {Q:Array Nat×Nat×Nat->Prop}:∀(f:Nat) (p:Array Nat) (m q:Nat),Pm n p->oU R p m->(∀k,m - (q+1)<=k->k<m->rk R p k=rk R p (m - 1))->q+1<=m->m+f<=n->
  (∀p' m' q',Pm n p'->oU R p' m'->(∀k,m' - (q'+1)<=k->k<m'->rk R p' k=rk R p' (m' - 1))->q'+1<=m'->m'<=n->Q (p',m',q'))->d9 R n (kas_desc f p m q) Q
 |0,p,m,q,hp,hd,he,hq,hn,k=>k p m q hp hd he hq (by omega)
 |f+1,p,m,q,hp,hd,he,hq,hn,k=>by
          have hsz:=hp.sz;refine⟨hp.lt (by omega),hp.lt (by omega),?_⟩
          show d9 R n (if decide (rk R p m<rk R p (m - 1))=true then _ else _) Q
          by_cases h:rk R p m<rk R p (m - 1)
          ·rw[decide_eq_true h,if_pos rfl];have more:∀p',Pm n p'->(∀k,rk R p' k=rk R p k)->oU R p' (m+1):=fun p' _ e a b gy hb=>by
            rw[e a,e b];rcases GG b m with z|z
            ·exact hd a b gy z
            ·have eb:b=m :=by omega
             subst eb;rcases GG a b with y|y
             ·have:=hd a (b - 1) (by omega) (by omega)
              omega
             ·have:a=b :=by omega
              subst this;exact FF _
           have one:∀p':Array Nat,∀k,m+1 - (0+1)<=k->k<m+1->rk R p' k=rk R p' (m+1 - 1):=fun p' k h1 h2=>by rw[show k=m by omega];rfl
           by_cases N6:q > 0
           ·rw[if_pos N6];obtain⟨_,e⟩:=oU.rev (i:=m - (q+1)) (show m<=p.size by omega) hd he
            exact ow f _ (m+1) 0 (hp.rev _ _) (more _ (hp.rev _ _) e) (one _) (by omega) (by omega) k
           ·rw[if_neg N6];exact ow f p (m+1) 0 hp (more p hp fun _=>rfl) (one p) (by omega) (by omega) k
          ·rw[decide_eq_false h,if_neg gc];refine⟨hp.lt (by omega),hp.lt (by omega),?_⟩
           show d9 R n (if decide (rk R p (m - 1)<rk R p m)=true then _ else _) Q
           by_cases h2:rk R p (m - 1)<rk R p m
           ·rw[decide_eq_true h2,if_pos rfl];exact k p m q hp hd he hq (by omega)
           ·rw[decide_eq_false h2,if_neg gc];have e:rk R p m=rk R p (m - 1) :=by omega
            refine ow f p (m+1) (q+1) hp (fun a b gy hb=>?_) (fun x h3 h4=>?_) (by omega) (by omega) k
            ·rcases GG b m with z|z
             ·exact hd a b gy z
             ·have eb:b=m :=by omega
              subst eb;rcases GG a b with y|y
              ·rw[e];exact hd a (b - 1) (by omega) (by omega)
              ·have:a=b :=by omega
               subst this;exact FF _
            ·show rk R p x=rk R p m;rcases GG x m with z|z
             ·rw[e];exact he x (by omega) z
             ·rw[show x=m by omega]
theorem vK {m:Nat}{p:Array Nat}(hp:Pm n p) (hd:oU R p m) (h1:1<=m) (hm:m<=n) {Q:Nat×Array Nat->Prop}(q:∀m' p',Pm n p'->nU R p' m'->1<=m'->m'<=n->Q (m',p')):d9 R n (kas_tail3 m n p) Q :=by
 have hsz:=hp.sz;refine g5 (vJ (hp.rev 0 m) (n - m) m (fun a b gy hb=>?_) h1 (by omega) fun m' h2 h3 h4 _=>q m' _ (hp.rev 0 m) h4 (by omega) (by omega))
 rw[qK R (by omega),qK R (by omega),if_pos ⟨by omega,by omega⟩,if_pos ⟨by omega,by omega⟩]
 exact hd _ _ (by omega) (by omega)
theorem oV {m:Nat}{p:Array Nat}(hp:Pm n p) (hd:oU R p (m+1)) (hm:m+1<=n) {Q:Nat×Array Nat->Prop}(q:∀m' p',Pm n p'->nU R p' m'->1<=m'->m'<=n->Q (m',p')):d9 R n (kas_descPart m n p) Q :=by
 refine g5 (ow (n - (m+1)) p (m+1) 0 hp hd (fun k h1 h2=>by rw[show k=m by omega];rfl) (by omega) (by omega) fun p' m' q' Kb iQ he hq hn=>?_)
 have hsz:=Kb.sz;show d9 R n (if q' > 0 then kas_tail3 m' n (kas_rev p' (m' - (q'+1)) m') else kas_tail3 m' n p') Q
 by_cases h:q' > 0
 ·rw[if_pos h];exact vK (Kb.rev _ _) (oU.rev (by omega) iQ he).1 (by omega) hn q
 ·rw[if_neg h];exact vK Kb iQ (by omega) hn q
theorem EA {p:Array Nat}(hp:Pm n p) (h1:1<=n) {Q:Nat×Array Nat->Prop}(q:∀m' p',Pm n p'->nU R p' m'->1<=m'->m'<=n->Q (m',p')):d9 R n (kas_count n p) Q :=by
 have hsz:=hp.sz;refine g5 (vJ hp (n - 1) 1 (fun a b gy hb=>by rw[show a=b by omega];exact FF _) (bv _) (by omega) fun m h2 h3 h4 h5=>?_)
 by_cases e:m=n
 ·rw[if_pos (by simpa using e)]
  exact q m p hp h4 h2 (by omega)
 ·rw[if_neg (by simpa using e)]
  have aD:=h5 (by omega)
  by_cases hm:m > 1
  ·rw[if_pos hm];refine⟨hp.lt (by omega),hp.lt (by omega),?_⟩
   show d9 R n (if decide (rk R p 0<rk R p (m - 1))=true then _ else _) Q
   by_cases h:rk R p 0<rk R p (m - 1)
   ·rw[decide_eq_true h,if_pos rfl];exact q m p hp h4 (by omega) (by omega)
   ·rw[decide_eq_false h,if_neg gc];have eq:∀k,k<m->rk R p k=rk R p (m - 1):=fun k hk=>by
     have a1:=h4 k (m - 1) (by omega) (by omega)
     have a2:=h4 0 k (by omega) hk
     omega
    have er:∀k,rk R (kas_rev p 0 m) k=rk R p k:=fun k=>by
     rw[qK R (by omega)]
     split
     ·rename_i z;rw[eq (0+m - 1 - k) (by omega),eq k z.2]
     ·rfl
    refine oV (hp.rev 0 m) (fun a b gy hb=>?_) (by omega) q
    rw[er,er];rcases GG b m with z|z
    ·rw[eq a (by omega),eq b z];exact FF _
    ·have eb:b=m :=by omega
     subst eb;rcases GG a b with y|y
     ·rw[eq a y];omega
     ·rw[show a=b by omega];exact FF _
  ·rw[if_neg hm];have em:m=1 :=by omega
   subst em;refine oV hp (fun a b gy hb=>?_) (by omega) q
   have aD:rk R p 1<rk R p 0:=aD;match a,b,gy,hb with
   |0,0,_,_=>exact FF _
   |0,1,_,_=>omega
   |1,1,_,_=>exact FF _
   |a,b+2,_,hb=>omega
   |a+2,b,h,hb=>omega
   |1,0,h,_=>omega
theorem px {p:Array Nat}(hp:Pm n p) {k:Nat}(hk:k<n) (ha:nU R p k) {Q:Nat->Prop}:∀(f l r:Nat),r - l<=f->l<=r->r<=k->(∀a,a<l->rk R p a<=rk R p k)->(∀a,r<=a->a<k->rk R p k<rk R p a)->
  (∀l,l<=k->(∀a,a<l->rk R p a<=rk R p k)->(∀a,l<=a->a<k->rk R p k<rk R p a)->Q l)->d9 R n (kas_place p k f l r) Q
 |0,l,r,hf,hl,hr,h1,h2,q=>q l (by omega) h1 (fun a x y=>h2 a (by omega) y)
 |f+1,l,r,hf,hl,hr,h1,h2,q=>by
          unfold kas_place;by_cases e:l ≥ r
          ·rw[if_pos e];exact q l (by omega) h1 (fun a x y=>h2 a (by omega) y)
          ·rw[if_neg e];refine⟨hp.lt hk,hp.lt (by omega),?_⟩
           show d9 R n (if decide (rk R p k<rk R p ((l+r) / 2))=true then _ else _) Q
           by_cases h:rk R p k<rk R p ((l+r) / 2)
           ·rw[decide_eq_true h,if_pos rfl];refine px hp hk ha f l ((l+r) / 2) (by omega) (by omega) (by omega) h1 (fun a x y=>?_) q
            have:=ha ((l+r) / 2) a x y;omega
           ·rw[decide_eq_false h,if_neg gc];refine px hp hk ha f ((l+r) / 2+1) r (by omega) (by omega) hr (fun a x=>?_) h2 q
            have:=ha a ((l+r) / 2) (by omega) (by omega)
            omega
theorem Cg {Q:Array Nat->Prop}:∀(f:Nat) (p:Array Nat) (k:Nat),Pm n p->nU R p k->k+f=n->(∀p',Pm n p'->nU R p' n->Q p')->d9 R n (kas_bin f p k) Q
 |0,p,k,hp,ha,hn,q=>q p hp (by rw[<- hn];exact ha)
 |f+1,p,k,hp,ha,hn,q=>by
          have hsz:=hp.sz;refine g5 (px hp (by omega) ha k 0 k (by omega) (by omega) (bv _) (fun a h=>by omega) (fun a h1 h2=>by omega) fun l hl h1 h2=>?_)
          refine Cg f _ (k+1) (hp.of (bubble_size _ _ _) (bubble_perm _ _ _)) (fun a b gy hb=>?_) (by omega) q
          have hd:k - (k - l)=l :=by omega
          rw[Ce R (by omega) (by omega),Ce R (by omega) (by omega),hd]
          by_cases a1:a=l
          ·rw[if_pos a1];by_cases b1:b=l
           ·rw[if_pos b1];exact FF _
           ·rw[if_neg b1,if_pos ⟨by omega,by omega⟩]
            exact Int.le_of_lt (h2 (b - 1) (by omega) (by omega))
          ·rw[if_neg a1];by_cases b1:b=l
           ·rw[if_pos b1,if_neg (by omega)]
            exact h1 a (by omega)
           ·rw[if_neg b1];by_cases a2:l<a/\a<=k
            ·rw[if_pos a2,if_pos ⟨by omega,by omega⟩]
             exact ha _ _ (by omega) (by omega)
            ·rw[if_neg a2];by_cases b2:l<b/\b<=k
             ·rw[if_pos b2];exact ha _ _ (by omega) (by omega)
             ·rw[if_neg b2];exact ha _ _ gy (by omega)
theorem G5 (h1:1<=n) {Q:Array Nat->Prop}(q:∀p,Pm n p->nU R p n->Q p):d9 R n (kas_sort n) Q :=by
 have h0:Pm n (No (im n)):=⟨by simp,by simp⟩
 refine g5 (EA h0 h1 fun m p hp ha ji Nz=>?_)
 show d9 R n (if m<n then kas_bin (n - max m 1) p (max m 1) else .ret p) Q
 have em:max m 1=m :=by omega
 rw[em];by_cases h:m<n
 ·rw[if_pos h];exact Cg _ p m hp ha (by omega) q
 ·rw[if_neg h];exact q p hp (by rw[show n=m by omega];exact ha)
end
theorem vL {α:Type}{cmp:Nat->Nat->(Bool->ar->Prop)->ar->Prop}{I:ar->Prop}{R:Nat->Int}{n:Nat}(hc:∀i j C s,i<n->j<n->I s->(∀s',I s'->C (decide (R i<R j)) s')->cmp i j C s):∀(t:KasT α) (Q:α->ar->Prop) (s:ar),I s->d9 R n t (fun a=>∀s',I s'->Q a s')->t.kasWp cmp Q s
 | .ret _,Q,s,hI,h=>h s hI
 | .ask i j k,Q,s,hI,h=>hc i j _ s h.1 h.2.1 hI fun s' Rm=>vL hc (k _) Q s' Rm h.2.2
theorem ll:∀a:List Int,HT.lexLt a a=false
 | []=>rfl
 |x::a=>by rw[HT.fO,if_pos rfl];exact ll a
theorem iF:∀{a b c:List Int},HT.lexLt a b=true->HT.lexLt b c=true->HT.lexLt a c=true
 | [],[],_,h,_=>by cases h
 | [],_::_,[],_,h=>by cases h
 | [],_::_,_::_,_,_=>rfl
 |_::_,[],_,h,_=>by cases h
 |_::_,_::_,[],_,h=>by cases h
 |x::a,y::b,z::c,h1,h2=>by
          rw[HT.fO]at h1 h2 ⊢;by_cases e1:x=y
          ·subst e1;rw[if_pos rfl]at h1;by_cases e2:x=z
           ·subst e2;rw[if_pos rfl]at h2 ⊢;exact iF h1 h2
           ·rw[if_neg e2]at h2 ⊢;exact h2
          ·rw[if_neg e1]at h1;have h1:=of_decide_eq_true h1;by_cases e2:y=z
           ·subst e2;rw[if_neg e1];exact decide_eq_true h1
           ·rw[if_neg e2]at h2;have h2:=of_decide_eq_true h2;rw[if_neg (by omega)]
            exact decide_eq_true (by omega)
theorem qM:∀{a b:List Int},HT.lexLt a b=false->HT.lexLt b a=false->a=b
 | [],[],_,_=>rfl
 | [],_::_,h,_=>by cases h
 |_::_,[],_,h=>by cases h
 |x::a,y::b,h1,h2=>by
          rw[HT.fO]at h1 h2;by_cases e:x=y
          ·subst e;rw[if_pos rfl]at h1 h2;rw[qM h1 h2]
          ·rw[if_neg e]at h1;rw[if_neg (Co e)]at h2;have h1:=of_decide_eq_false h1;have h2:=of_decide_eq_false h2;exact absurd (show x=y by omega) e
def sV (rows:List (List Int)) (r:List Int):Int:=(rows.countP fun x=>HT.lexLt x r:Nat)
theorem sW {α:Type}{p q:α->Bool}(Kc:∀x,p x=true->q x=true):∀{l:List α}{a:α},a∈l->q a=true->p a=false->l.countP p<l.countP q
 |x::l,a,h,hq,hp=>by
          have le:l.countP p<=l.countP q:=List.countP_mono_left fun x _=>Kc x
          rcases l7.mp h with rfl|h
          ·rw[List.countP_cons_of_neg (by simp[hp]),List.countP_cons_of_pos hq]
           omega
          ·have ih:=sW Kc h hq hp;rw[List.countP_cons,List.countP_cons];by_cases e:p x=true
           ·rw[if_pos e,if_pos (Kc x e)];omega
           ·rw[if_neg e];split<;>omega
theorem Ci {rows:List (List Int)}{a b:List Int}(ha:a∈rows):decide (sV rows a<sV rows b)=HT.lexLt a b :=by
 unfold sV;cases h:HT.lexLt a b with
 |true=>
  refine decide_eq_true ?_;have:=sW (p:=fun x=>HT.lexLt x a) (q:=fun x=>HT.lexLt x b) (fun x hx=>iF hx h) ha h (ll a)
  omega
 |false=>
  refine decide_eq_false ?_;have:rows.countP (fun x=>HT.lexLt x b)<=rows.countP (fun x=>HT.lexLt x a):=List.countP_mono_left fun x _ hx=>by
   cases h2:HT.lexLt b a with
   |true=>exact iF hx h2
   |false=>rw[qM h h2];exact hx
  omega
def eu (h:kt) (v:ap) (row:List Int):Prop:=∃b o xs n,v=.ref b/\h.get? b=some o/\o.cls=.type "tuple" /\ o.data=.seq xs n/\NL xs.toList row/\row≠[]
section
variable {prog:i4}{w:i8}{A:ma}{E:ap->ar->Prop}{s:ar}
theorem oW {fin:Bool}{Q:Bool->ar->Prop}:∀{us ws:List ap}{ns ms:List Int}(i:Nat),NL us ns->NL ws ms->fin=decide (us.length<ws.length)->Q (HT.lexLt ns ms) s->KatLex prog w A true fin Q (us.zip ws) i s
 | [],[],[],[],i,_,_,hf,q=>by
          refine kat_nil ?_;rw[hf];exact q
 | [],y::ws,[],m::ms,i,_,_,hf,q=>by
          refine kat_nil ?_;rw[hf];exact q
 |x::us,[],n::ns,[],i,_,_,hf,q=>by
          refine kat_nil ?_;rw[hf];exact q
 |x::us,y::ws,n::ns,m::ms,i,hu,hw,hf,q=>by
          cases hu with
          |cons _ t hu=>
          cases hw with
          |cons _ t2 hw=>
          rw[HT.fO]at q;refine kat_cons (PySem.SeqAt.EqAt.int_int n t m t2 prog w _ _ (kat_go (fun e=>kat_yes ?_) (fun e=>kat_no ?_)))
          ·have e:n=m :=by simpa using e
           rw[if_pos e]at q;exact oW (i+1) hu hw (by rw[hf];simp) q
          ·have e:n≠m :=by simpa using e
           rw[if_neg e]at q;cases hi:(i==0) with
           |true=>exact oneLt_int q
           |false=>exact kat_one _ _ (PyProof.Rows.lt_int q)
theorem zE {v1 v2:ap}{r1 r2:List Int}{Q:Bool->ar->Prop}(h1:eu s.heap v1 r1) (h2:eu s.heap v2 r2) (q:Q (HT.lexLt r1 r2) s):wpAny (model prog w) A (keyLt' (tuples' true) v1 v2) Q E s :=by
 obtain⟨b,o,xs,n,rfl,ho,hc,hd,hi,_⟩:=h1;obtain⟨b2,o2,SK,n2,rfl,Rn,SM,hd2,iU,_⟩:=h2;exact kat_lt ho hd Rn hd2 (oW 0 hi iU (by simp) q)
theorem qN:∀{vs:List ap}{rows:List (List Int)},u8 (fun v r=>eu s.heap v r) vs rows->∃fs,KatTups s.heap vs fs/\fs.length=vs.length/\∀f∈fs,∃n t,f=.int n t
 | [],[],_=>⟨[],.nil,rfl,fun _ h=>nomatch h⟩
 |v::vs,r::rows,h=>by
          obtain⟨r',Mw,e,hv,ht⟩:=gw h;cases e;obtain⟨fs,k1,k2,k3⟩:=qN ht;obtain⟨b,o,xs,n,rfl,ho,hc,hd,hi,dm⟩:=hv;obtain⟨ls⟩:=xs;cases hi with
          |nil=>exact absurd rfl dm
          |cons m t hi=>exact⟨_,.cons ho hc hd (f:=.int m t) (by simp) k1,by simp[k2],fun f hf=>by
            rcases l7.mp hf with rfl|hf
            ·exact⟨_,_,rfl⟩
            ·exact k3 f hf⟩
theorem lq {a:al}{vs:List ap}{rows:List (List Int)}{n:Nat}{P:PySem.Fin->ar->Prop}(ho:s.heap.get? a=some (seqObj "list" vs.toArray n))
  (hr:u8 (fun v r=>eu s.heap v r) vs rows) (jQ:vs.length<64)
  (h:∀(p:Array Nat),Pm vs.length p->(∀i j,i<=j->j<vs.length->HT.lexLt (rows.getD (p.getD j 0) []) (rows.getD (p.getD i 0) [])=false)->P (.done (.ret .none)) {s with heap:=sortedHeap s.heap a vs (No (p.toList.map fun i=>vs.getD i v6))}) :
  wpAny (model prog w) A (ut.«list.sort» ⟨[.ref a],[]⟩) P E s :=by
 rw[list_sort_plain];have ha:a<s.heap.objs.size:=ii ho;have Kd:vs.length=rows.length:=P3 hr;refine ag (listItems_at ho rfl ?_);refine ag (UX ho rfl ?_ (by rw[dL,JJ];omega) (sB _))
 obtain⟨e1,qf⟩:∃e1,(s.heap.update a (ze fun _=>(#[]:Array ap))).get? a=some (seqObj "list" #[] e1):=⟨_,get?_update_seq ho fun _=>#[]⟩
 refine ag (seqEpoch_at qf rfl ?_);refine ag (wpAny_newTuple ?_ (by show vs.length<=_;rw[JJ];omega))
 refine ag (TZ ?_ (sB _));refine ul ?_;have Cj:(((s.heap.update a (ze fun _=>#[])).push (seqObj "tuple" vs.toArray 0)).push (seqObj "list" #[] 0)).get? a=some (seqObj "list" #[] e1) :=by
  rw[TM _ _ _ (by rw[size_push',Ub];exact lf (wS ha)),TM _ _ _ (by rw[Ub];exact lf ha)]
  exact qf
 show wpAny (model prog w) A _ P E {s with heap:=((s.heap.update a (ze fun _=>(#[]:Array ap))).push (seqObj "tuple" vs.toArray 0)).push (seqObj "list" #[] 0)}
 obtain⟨hh,Ke⟩:∃hh,hh=((s.heap.update a (ze fun _=>(#[]:Array ap))).push (seqObj "tuple" vs.toArray 0)).push (seqObj "list" #[] 0):=⟨_,rfl⟩
 rw[<- Ke]at Cj ⊢;have keep:∀b o,b≠a->s.heap.get? b=some o->hh.get? b=some o:=fun b o hb e=>by
  have aD:=ii e;rw[Ke,TM _ _ _ (by rw[size_push',Ub];exact lf (wS aD)),TM _ _ _ (by rw[Ub];exact lf aD),kt.get?_update_ne _ _ _ _ hb]
  exact e
 have tr:∀{v r},eu s.heap v r->eu hh v r:=fun h=>by
  obtain⟨b,o,xs,n,rfl,fq,hc,hd,hi⟩:=h;exact⟨b,o,xs,n,rfl,keep b o (fun z=>by subst z;rw[ho]at fq;injection fq with fq;subst fq;injection hc with hc;exact absurd hc (by decide)) fq,hc,hd,hi⟩
 have mH:u8 (fun v r=>eu hh v r) vs rows:=u8.imp' (fun _ _ h=>tr h) hr
 dsimp only;have hsz:vs.toArray.size=vs.length :=by simp
 have fin:∀p:Array Nat,Pm vs.length p->(∀i j,i<=j->j<vs.length->HT.lexLt (rows.getD (p.getD j 0) []) (rows.getD (p.getD i 0) [])=false)->P (.done (.ret .none)) {s with heap:=hh.update a (ze fun _=>No (p.toList.map fun i=>vs.getD i v6))}:=fun p h1 h2=>by
  have:=h p h1 h2;unfold sortedHeap at this;rw[<- Ke]at this;exact this
 by_cases h2:vs.toArray.size<2
 ·rw[if_pos h2,if_pos h2];refine ag (ba ?_);rw[StateT.run_pure];refine ag (ba ?_);dsimp only;refine ag (seqEpoch_at Cj rfl ?_);have eo:((arrOf (SortSt.mk' general' (vs.toArray.zip vs.toArray) #[] 7 none)).map (·.2))=No ((No (im vs.length)).toList.map fun i=>vs.getD i v6) :=by
   refine kat_snds (ks:=vs) (vs:=vs) rfl (p:=No (im vs.length)) ?_;have e:vs.length=(vs.toArray.zip vs.toArray).size :=by simp
   rw[e];exact(kas_range _).symm
  rw[eo];refine ag (UX Cj rfl ?_ (sB _) (by simp only[dL,br,wT,JJ];omega))
  simp only[bne_self_eq_false,db,if_false];refine ba (fin (No (im vs.length)) ⟨by simp,by simp⟩ fun i j mC hj=>?_)
  have:i=j :=by omega
  subst this;exact ll _
 ·rw[if_neg h2,if_neg h2];obtain⟨fs,k1,k2,k3⟩:=qN (s:={s with heap:=hh}) mH
  refine ag (kat_kind (T:=.type "int") k1 (by omega) (fun v hv=>by obtain⟨m,t,rfl⟩:=k3 v hv;exact Looks.of_pure rfl) (by decide) ?_)
  have EB:∀i,i<vs.length->∃r,eu hh (vs.getD i v6) (rows.getD i [])/\rows.getD i []∈rows/\r=rows.getD i []:=fun i hi=>by
   have hv:vs[i]?=some (vs.getD i v6) :=by simp[hi]
   obtain⟨r,er,IV⟩:=nT mH hv;have e:rows.getD i []=r :=by simp[er]
   exact⟨_,by rw[e];exact IV,by rw[e];exact gl er,rfl⟩
  refine ag (l8 (kat_run (κ:=tuples' true) (ks:=vs) (vs:=vs) (Q:=fun kX s'=>∃p:Array Nat,Pm vs.length p/\nU (fun i=>sV rows (rows.getD i [])) p vs.length/\arrOf kX=p.map (kas_item (vs.toArray.zip vs.toArray))/\failedOf kX=none/\s'={s with heap:=hh})
   rfl (by omega) jQ (G:=fun p s'=>Pm vs.length p/\nU (fun i=>sV rows (rows.getD i [])) p vs.length/\s'={s with heap:=hh}) (fun p' kX s' a1 a2 a3 a4=>⟨p',a4.1,a4.2.1,a2,a3,a4.2.2⟩) ?_) ?_ fun _ _ e=>e)
  ·refine vL (I:=fun s'=>s'={s with heap:=hh}) (R:=fun i=>sV rows (rows.getD i [])) (n:=vs.length) (fun i j C s' hi hj hI hC=>?_) _ _ _ rfl (G5 (by omega) fun p h1 h2 s' jf=>⟨h1,h2,jf⟩)
   subst hI;obtain⟨_,t1,m1,_⟩:=EB i hi;obtain⟨_,t2,_,_⟩:=EB j hj;refine zE (s:={s with heap:=hh}) t1 t2 ?_
   rw[<- Ci m1];exact hC _ rfl
  ·intro r s' hs;obtain⟨_,kX⟩:=r;obtain⟨p,hp,hA,N7,hf,rfl⟩:=hs;dsimp only at N7 hf ⊢;have Py:=kat_snds (ks:=vs) (vs:=vs) rfl N7;refine ag (seqEpoch_at Cj rfl ?_);rw[Py];refine ag (UX Cj rfl ?_ (sB _) (by rw[dL,br,jp,hp.sz,JJ];omega))
   rw[hf];simp only[bne_self_eq_false,db,if_false];refine ba (fin p hp fun i j mC hj=>?_)
   have yp:=hp.lt hj;obtain⟨_,_,m1,_⟩:=EB _ yp;rw[<- Ci m1];have:=hA i j mC hj;refine decide_eq_false ?_;have this:sV rows (rows.getD (p.getD i 0) [])<=sV rows (rows.getD (p.getD j 0) []):=this;omega
end
def gJ (rs:List (List Int)):List (List Int):=rs.mergeSort fun a b => !HT.lexLt b a
theorem fS (rs:List (List Int)):(gJ rs).Perm rs:=List.mergeSort_perm _ _
theorem wJ {a b c:List Int}(h1:HT.lexLt b a=false) (h2:HT.lexLt c b=false):HT.lexLt c a=false :=by
 cases h:HT.lexLt c a with
 |false=>rfl
 |true=>
  cases h3:HT.lexLt a b with
  |true=>rw[iF h h3]at h2;cases h2
  |false=>
   have:=qM h3 h1;subst this;rw[h]at h2;cases h2
theorem vM (rs:List (List Int)):(gJ rs).Pairwise fun a b=>HT.lexLt b a=false :=by
 have:=List.pairwise_mergeSort (le:=fun a b => !HT.lexLt b a) (fun a b c h1 h2=>by
  simp only[Bool.not_eq_true']at *;exact wJ h1 h2) (fun a b=>by
  cases h:HT.lexLt b a with
  |false=>rfl
  |true=>
   cases h2:HT.lexLt a b with
   |false=>rfl
   |true=>have:=iF h h2;rw[ll]at this;cases this) rs
 exact this.imp fun h=>by simpa using h
theorem pz {ms rs:List (List Int)}(p:ms.Perm rs) (h:ms.Pairwise fun a b=>HT.lexLt b a=false):ms=gJ rs:=
 Lu.eq_of_pairwise (le:=fun a b=>HT.lexLt b a=false) (fun x y _ _ h1 h2=>qM h2 h1) h (vM rs) (p.trans (fS rs).symm)
def EC (H:Hp) (v:V) (r:List Int):Prop:=∃a,v=.ref a/\H a=some (.tup (r.map V.int))/\r≠[]
def Kf (K:bn):List V->Hp->VK->Prop:=fun xs H Q=>∃p vs rows,xs=[.ref p]/\(H p=some (.lst vs)\/H p=some (.tup vs))/\u8 (EC H) vs rows/\vs.length<64/\∀l (is:List Nat),H l=none->(∀i∈is,i<vs.length)->(is.map fun i=>rows.getD i [])=gJ rows->Q (.ref l) (upd H l (.lst (is.map fun i=>vs.getD i .ao)))
section
variable {X:Cx}{P:i4}{w:i8}{A:ma}{E:ap->ar->Prop}{s:ar}
theorem wK {a:ap}{us:List ap}{rows:List (List Int)}{Q:ap->ar->Prop}(uU:∀QL:List ap->ar->Prop,(∀h',(∀b o,s.heap.get? b=some o->h'.get? b=some o)->QL us {s with heap:=h'})->wpAny (model P w) A.in1 (collect a) QL E s)
  (hr:u8 (fun v r=>eu s.heap v r) us rows) (jQ:us.length<64)
  (h:∀(h1 h':kt) (is:List Nat) e,(∀i∈is,i<us.length)->(is.map fun i=>rows.getD i [])=gJ rows->(∀b o,s.heap.get? b=some o->h1.get? b=some o)->(∀b o,h1.get? b=some o->h'.get? b=some o)->h'.get? h1.objs.size=some {cls:=.type "list",data:=.seq (is.map fun i=>us.getD i v6).toArray e}->Q (.ref h1.objs.size) {s with heap:=h'}) :
  wpAny (model P w) A (call (.builtin "sorted") [a]) Q E s :=by
 refine Te kind_sorted plain_sorted entry_sorted (args_sorted1 _) ?_;unfold ut.«sorted»;refine ag (m:=checkCount "sorted" 1 1 _) (ba ?_)
 refine ag (uU _ fun h' hk=>?_)
 refine ag (TZ ?_ (hsz:=wv (Na jQ) (by decide)))
 have kW:(h'.push (seqObj "list" us.toArray 0)).get? h'.objs.size=some (seqObj "list" us.toArray 0):=io _ rfl
 have mH:u8 (fun v r=>eu (h'.push (seqObj "list" us.toArray 0)) v r) us rows:=u8.imp' (fun v r t=>by
  obtain⟨b,o,xs,n,rfl,ho,z⟩:=t;exact⟨b,o,xs,n,rfl,bi _ (hk _ _ ho),z⟩) hr
 have hl:=P3 hr;refine ag (ul (zd slot_list_sort ⟨_,kW,rfl⟩ Vp (lq kW mH jQ fun p hp ha=>⟨_,rfl,?_⟩) (args_list_sort _)))
 refine ba ⟨_,rfl,?_⟩;obtain⟨e,he⟩:=sortedHeap_at (out:=No (p.toList.map fun i=>us.getD i v6)) kW
 refine h h' _ p.toList e (fun i hi=>?_) (pz ?_ ?_) hk (fun b o hb=>?_) he
 ·have:=hp.pm.mem_iff.mp hi;exact lm.mp this
 ·have q:=hp.pm.map fun i=>rows.getD i []
  refine q.trans (Lu.of_eq ?_);rw[hl];refine T8 (by simp) fun i h1 h2=>?_
  simp only[Uc,IN];rw[ca,ac h2];rfl
 ·rw[Cs];intro i j hi hj mC;simp only[br,jp]at hi hj;have hsz:=hp.sz;have:=ha i j (Na mC) (by omega)
  simp only[Uc,Array.getElem_toList];have e1:p.getD i 0=p[i] :=by simp[FM,hi]
  have e2:p.getD j 0=p[j] :=by simp[FM,hj]
  rw[e1,e2]at this;exact this
 ·have aD:=ii hb;rw[sortedHeap_old (lf aD) (by rw[B0];exact wS aD)]
  exact bi _ hb
theorem zF {vs:List V}{us:List ap}(r:Vals vs us) (is:List Nat) (h:∀i∈is,i<vs.length):Vals (is.map fun i=>vs.getD i .ao) (is.map fun i=>us.getD i v6) :=by
 induction is with
 |nil=>exact .nil
 |cons i is ih=>
  refine .cons ?_ (ih fun j hj=>h j (ci _ hj))
  have hi:=h i (f8 ..);have e:vs[i]?=some (vs.getD i .ao) :=by simp[hi]
  have hl:=r.length;have e2:us[i]?=some (us.getD i v6) :=by simp[show i<us.length by omega]
  obtain⟨u,e3,q⟩:=r.get e;rw[e2]at e3;cases e3;exact q
theorem zG {K:bn}(hK:X.K=K):cw X (.builtin "sorted") (Kf K) :=by
 subst hK;intro pins s σ H xs us Q I r h;obtain⟨p,vs,rows,rfl,hq,hr,jQ,q⟩:=h;obtain⟨u,rfl,rx⟩:=vals1 r;cases rx;have hsz:sizeLine=16777216:=JJ;have tr:∀{vs:List V} {its:List ap} {rows:List (List Int)},Vals vs its->u8 (EC H) vs rows->u8 (fun v r=>eu s.heap v r) its rows :=by
  intro vs;induction vs with
  |nil=>intro its rows rv hr;cases rv;cases hr;exact .nil
  |cons v vs ih=>
   intro its rows rv hr;cases rv with
   |cons r1 Ro=>
   obtain⟨rr,Mw,rfl,hv,ht⟩:=gw hr;obtain⟨a,rfl,ha,dm⟩:=hv;cases r1;obtain⟨ts,rt,⟨o,ho,dJ,n,hd⟩,_⟩:=I.tuple (.inl (.inl ha));exact .cons ⟨a,o,_,n,rfl,ho,dJ,hd,qo rt,dm⟩ (ih Ro ht)
 obtain⟨its,rv,Mx⟩:∃its:List ap,Vals vs its/\∀QL:List ap->ar->Prop,(∀h',(∀b o,s.heap.get? b=some o->h'.get? b=some o)->QL its {s with heap:=h'})->wpAny (model X.prog X.w) X.A.in1 (collect (.ref p)) QL X.xe s :=by
  rcases hq with hq|hq
  ·obtain⟨its,rv,pl,hz⟩:=I.list (.inl (.inl hq));have hl:=rv.length;obtain⟨o,ho,dJ,n,hd⟩:=pl.isList;exact⟨its,rv,fun QL qu=>iM ho dJ hd (.inl rfl) (fun h' k=>qu h' k) (by omega)⟩
  ·obtain⟨its,rv,pl,hz⟩:=I.tuple (.inl (.inl hq));have hl:=rv.length;obtain⟨o,ho,dJ,n,hd⟩:=pl;exact⟨its,rv,fun QL qu=>iM ho dJ hd (.inr rfl) (fun h' k=>qu h' k) (by omega)⟩
 have hl:=rv.length;refine wK Mx (tr rv hr) (by omega) (fun h1 h' is e hi hs k1 k2 he=>?_)
 have I1:Inv X pins σ H {s with heap:=h1}:=(I.kept (t':=s.toks) k1).gh ⟨rfl,rfl,I.bare.self⟩
 have cI:∀i∈is,i<vs.length:=fun i h=>by have:=hi i h;omega
 have Ck:is.length=rows.length :=by
  have:=congrArg TU hs;rw[br,(fS rows).length_eq]at this;exact this
 have SN:=P3 hr;have ob:bz X.prog X.w (upd H h1.objs.size (.lst (is.map fun i=>vs.getD i .ao))) h' h1.objs.size (.lst (is.map fun i=>vs.getD i .ao)):=⟨by rw[br];omega,_,e,zF rv is cI,he⟩
 exact⟨.ref h1.objs.size,_,I1.laid (t':=s.toks) k2 (bv _) ob,rfl,q _ is (I1.hok.fresh (bv _)) cI hs⟩
end
def rowD?:Dv->Option (List Int)
 | .tup ds=>gI ds
 |_=>none
def lU:List Dv->Option (List (List Int))
 | []=>some []
 |d::ds=>(rowD? d).bind fun r=>(lU ds).map (r::·)
theorem sX:∀rs:List (List Int),lU (rs.map eI)=some rs
 | []=>rfl
 |r::rs=>by simp[lU,rowD?,i7,sX rs]
theorem vN:∀{ds:List Dv}{rs:List (List Int)},lU ds=some rs->ds=rs.map eI
 | [],rs,h=>by simp only[lU,EN]at h;subst h;rfl
 |d::ds,rs,h=>by
          simp only[lU,Tv,At]at h;obtain⟨r,hr,SQ,h,rfl⟩:=h;cases d with
          |tup es=>rw[vN h,pq (ns:=r) hr];rfl
          |_=>simp[rowD?]at hr
def zSortT (d:Dv) (M:Mh) (Q:ZK):Prop:=match (itemsM M d).bind lU with|some rs=>rs.length<64/\(∀r∈rs,r≠[])/\Q (.lst ((gJ rs).map eI)) M|none=>False
theorem yq {β:Bz}{M:Mh}{H:Hp}:∀{vs:List V}{rs:List (List Int)},aM β M H vs (rs.map eI)->(∀r∈rs,r≠[])->u8 (EC H) vs rs
 | [],[],_,_=>.nil
 | [],_::_,r,_=>absurd r.len (by simp)
 |_::_,[],r,_=>absurd r.len (by simp)
 |v::vs,x::rs,r,h=>by
          rw[r6]at r;obtain⟨a,us,rfl,_,ha,hu⟩:=dO r.head;have:=fJ hu;subst this;exact .cons ⟨a,rfl,ha,h x (f8 ..)⟩ (yq r.tail fun y hy=>h y (ci _ hy))
theorem vO {β:Bz}{M:Mh}{H:Hp}{vs:List V}{rs:List (List Int)}(h:aM β M H vs (rs.map eI)):∀is:List Nat,(∀i∈is,i<vs.length)->aM β M H (is.map fun i=>vs.getD i .ao) ((is.map fun i=>rs.getD i []).map eI)
 | [],_=>.nil
 |i::is,hi=>by
          have h1:=hi i (f8 ..);have hl:=h.len;rw[br]at hl;refine .cons (h.at' i _ _ (by simp[h1]) ?_) (vO h is fun j hj=>hi j (ci _ hj))
          simp[show i<rs.length by omega]
theorem G6 {Γ:Gz}{X:Cx}{K:bn}(hK:X.K=K):eJ Γ X (.builtin "sorted") (z1 zSortT):=⟨_,zG hK,fun β xs ds M H Q Q' eP ew _ m rs z q=>by
 unfold z1 at z;split at z
 ·rename_i d;obtain⟨x,rfl,r⟩:=cX rs;unfold zSortT at z;split at z
  ·rename_i rows MA;obtain⟨ds,e1,e2⟩:=Tv.mp MA;obtain⟨a,vs,rfl,ha,dz⟩:=iB m r e1;have:=vN e2;subst this;have N8:=dz.len;rw[br]at N8;refine⟨a,vs,rows,rfl,ha,yq dz z.2.1,by rw[N8];exact z.1,fun l is hl hi hs=>?_⟩
   have x2:=Ex.lay m hl (.lst (is.map fun i=>vs.getD i .ao))
   refine q _ _ _ _ x2 (nG (m.fz hl) aL ((?_:aM β M H _ _).ex x2)) z.2.2;rw[<- hs];exact vO dz is hi
  ·exact z.elim
 ·exact z.elim⟩
end L2
namespace L2
open PySem PySem.Spec PyProof.Rows
theorem ED {prog:i4}{w:i8}{A:ma}{a:al}{R':TR->ar->Prop}(In:Nat->ar->Prop)
  (turn:∀n s,In n s->wpAny (model prog w) A.in1 (pyNext (.ref a)) (fun r s1=>match r with
   |none=>R' (.ok (.ret (.bool false))) s1
   |some v=>∃c,v=.bool c/\if c=false then ∃m,m<n/\In m s1 else R' (.ok (.ret (.bool true))) s1) (fun e s'=>R' (.error e) s') s) :
  ∀(n:Nat) (s:ar),In n s->codeAny (model prog w) A (.builtin "any.loop" ⟨[.ref a],[]⟩) R' s :=by
 intro n;induction n using Sk with
 |ind n ih=>
  intro s h;refine ww F.entry_any_loop ?_;rw[ss Vg _];show wpAny _ A.in1 (pyNext (.ref a)>>=_) _ _ s;refine ag (l8 (turn n s h) (fun r s1 q=>?_) fun _ _ z=>z)
  cases r with
  |none=>exact ag (GS (ba q))
  |some v=>
   obtain⟨c,e,q⟩:=q;subst e;refine ag (ul (wP ?_));refine ag (Mn ?_);cases c with
   |true=>
    rw[if_neg (by decide)]at q
    exact ag (GS (ba q))
   |false=>
    rw[if_pos rfl]at q;obtain⟨m,hm,hI⟩:=q;exact ba ⟨wl Vg _,ih m hm s1 hI⟩
section
variable {X:Cx}{tg elt iter:hX}{ifs:List hX}{scope:xy}{pos:xp}{N':List cb}{tn:Nat}{idx:List Nat}{wi:TI}{g:TG}{tt:TT}{te:TE}{c P:al}{k:Nat}
def Kg (P:al) (tn:Nat) (idx:List Nat) (wi:TI) (g:TG) (tt:TT) (te:TE):TE:=fun σ H Q=>A8 P wi (fun J H1=>∃W:Nat->Nat->St->Hp->Prop,(∃m,W 0 m (bc tn idx σ) H1)/\DS J g tt te true (fun b H2=>Q (.bl b) H2) W) σ H
theorem Kh {p gi:xp}(hr:bX (k+1) X.A) (hc:X.calm=true) (B:aB X.N X.env.scope scope N' tn idx)
  (h0:scope.names.lookup (".0" : cb)=some .local) (iu:scope.isCoroutine=false) (fP:X.env.code=.ref c) (hd:re X.base c P) (eE:∃bm ob,T5 X.base mainGlobals X.mg bm ob)
  (jg:Gl X "any") (hm:X.mg "any" = none) (hi:PI X tg iter wi) (hg:dF X N' scope k fun Y=>PG Y tg g) (ht:dF X N' scope k fun Y=>gv Y ifs tt) (he:dF X N' scope k fun Y=>PE Y elt te)
  (hs:∀x,genFold iter X.env x=pure x :=by intro _;rfl):PE X (.Call (.Name "any" p) [c9 elt tg iter ifs scope gi] [] pos) (Kg P tn idx wi g tt te) :=by
 refine⟨?_⟩;intro pins s σ H Q I h;refine Ix (gu I jg hm PyProof.Rows.boot_any ?_);refine KF ?_ rfl rfl;show wpAny _ _ (spliced ((false,eval (c9 elt tg iter ifs scope gi) X.env)::[])) _ _ s;refine Nd (o6 hr hc B h0 iu fP hd eE hi hs I h ?_);intro J H3 a s5 Y it fp bp gn pp G ⟨W,⟨m0,w0⟩,turn⟩;refine Op ?_;refine Sm F.kind_any F.plain_any F.entry_any (F.args_any1 _) ?_;unfold ut.«any»;refine ag (m:=oneArg "any" _) (ba ?_)
 refine ag (Vd (G.isg G.inv) ?_);refine ba ⟨wl Vg _,?_⟩;have o7:=uG (A2:=X.A.in4.in1) (pp:=pp) (R:=fun n s₀ r aw=>r=.ok .next/\∃τ H,Inv Y pp τ H aw/\Q (.bl false) H)
  (Yp:=fun n s₀ v s km=>∃c τ H,v=.bool c/\Inv Y pp τ H s/\(c=true->Q (.bl true) H)/\(c≠true->∀aW,h8 s aW->km (.send .none) aW)) G.A G.xe G.calm G.co G.T (G.blk _ hg) (G.blk _ ht) (G.blk _ he) G.stat turn
  (fun n s₀ aw τ H J z=>⟨rfl,τ,H,J,z⟩) (fun n s₀ s km c τ H J z1 z2=>⟨c,τ,H,rfl,J,z1,z2⟩)
 have hP:=G.prog;have hW:=G.w;rw[hP,hW]at o7;refine ED (A:=X.A) (fun n s=>(∃τ H,Inv Y pp τ H s)/\∃gs,s.gens[gn]?=some gs/\∀aW,h8 s aW->gs.Goes (model X.prog X.w) X.A.in4.in1 (fun n s₀ r aw=>r=.ok .next/\∃τ H,Inv Y pp τ H aw/\Q (.bl false) H)
  (fun n s₀ v s km=>∃c τ H,v=.bool c/\Inv Y pp τ H s/\(c=true->Q (.bl true) H)/\(c≠true->∀aW,h8 s aW->km (.send .none) aW)) n (.send .none) aW) ?_ (m0+1) s5 ?_
 ·rintro n s6 ⟨⟨τ,H6,I6⟩,gs,Ba,mW⟩;have O7:=G.gsz I6;refine Nl (Nl (Nl ?_));show wpAny (model X.prog X.w) X.A.in4 (pyNext (.ref a)) _ _ s6;refine Ux (A:=X.A.in4) (P:=fun n s₀ aw=>∃τ H,Inv Y pp τ H aw/\Q (.bl false) H) hr.hd I6.nolimit hr.depth (G.isg I6) Ba (mW _ ⟨rfl,rfl,dN I6.bare rfl⟩) (fun v s1 pZ hb hv=>?_) (fun s1 hp h' hk=>?_)
  ·obtain⟨c,p7,H1,e,I1,z1,z2⟩:=hv;subst e;refine⟨c,rfl,?_⟩;have mZ:h8 s1 (s1.setGen gn pZ):=⟨rfl,rfl,dN I1.bare hb⟩;cases c with
   |true=>
    rw[if_neg (by decide)]
    exact⟨.bl true,H1,G.out (I1.gh mZ),rfl,z1 rfl⟩
   |false=>
    rw[if_pos rfl];have z3:=z2 (by decide)
    cases n with
    |zero=>exact(z3 s1 ⟨rfl,rfl,I1.bare.self⟩).elim
    |succ m=>
     refine⟨m,AL _,⟨p7,H1,I1.gh mZ⟩,pZ,mX (G.gsz I1),fun aW o=>z3 aW ⟨o.1,o.2.1,?_⟩⟩
     exact mZ.2.2.trans o.2.2
  ·obtain⟨p7,H1,I1,z1⟩:=hp;have I2:=I1.kept (t':=s1.toks) hk;have Bb:h8 {s1 with heap:=h'} {s1.setGen gn .finished with heap:=h'}:=⟨rfl,rfl,dN (s:=s1) I1.bare rfl⟩
   exact⟨.bl false,H1,G.out (I2.gh Bb),rfl,z1⟩
 ·refine⟨⟨_,_,G.inv⟩,_,G.st,fun aW o=>⟨rfl,?_⟩⟩
  have I7:=G.inv.gh o;have sG:bp 0 aW.heap :=by rw[o.1];exact G.tn0
  have q:=mY (iter:=iter) (ifs:=ifs) (scope:=scope) (pos:=gi) (elt:=elt) G.T sG (by rw[hP,hW];exact o7 m0 (m0+1) 0 _ _ aW aW (AL _) w0 I7 sG G.fr)
  rw[hP,hW]at q;exact q
end
section
variable {X:Cx}{Γ:Gz}{β:Bz}{zi:eY}{g:bS}{tt:cq}{te:aG}{tn:Nat}{idx:List Nat}
def lV (g:bS) (tt:cq) (te:aG):List Dv->av->Mh->(Bool->Mh->Prop)->Prop
 | [],_,M,Q=>Q false M
 |d::ds,τ,M,Q=>g d τ M fun aj M2=>tt aj M2 fun b M3=>if b=true then te aj M3 (zBool fun c M4=>if c=true then Q true M4 else lV g tt te ds aj M4 Q) else lV g tt te ds aj M3 Q
def zAny (tn:Nat) (idx:List Nat) (zi:eY) (g:bS) (tt:cq) (te:aG):aG:=fun ρ M Q=>zi ρ M fun ds M1=>lV g tt te ds (zBlock tn idx ρ) M1 fun b M2=>Q (.bl b) M2
theorem MB {P:al}(hP:P∈Γ.tb) {σ:St}{H:Hp}{Q:VK}(h:lE Γ (zAny tn idx zi g tt te) σ H Q):Kg P tn idx (lI Γ zi) (lG Γ g) (lT Γ tt) (lE Γ te) σ H Q :=by
 obtain⟨β,ρ,M,Q',zr,h,q⟩:=h;refine Ek hP zr h fun ds M1 H1 J x1 it h1=>?_
 have fI:=zr.step x1;refine⟨fun i m τ H'=>m=ds.length - i/\i<=ds.length/\∃aU M',Ex β M1 H1 M' H'/\Zr Γ β M' aU τ H'/\lV g tt te (ds.drop i) aU M' fun b M2=>Q' (.bl b) M2,⟨_,rfl,sB _,_,M1,.refl x1.mz,fI.block tn idx,h1⟩,?_⟩
 rintro i m τ H' ⟨rfl,hi,aU,M',x',e6,h'⟩;have qq:=it β M' H' .refl x'.toEy x'.mz i;by_cases aD:i<ds.length
 ·refine .inr ⟨(qq.1 aD).1,fun x jT y=>?_⟩
  obtain⟨x2,d,hd,rd⟩:=(qq.1 aD).2 x jT y;have e:ds.drop i=d::ds.drop (i+1) :=by
   rw[zn aD];rw[ac aD]at hd;cases hd;rfl
  rw[e]at h';refine⟨β,d,aU,M',_,e6.step x2,rd,h',fun cn M3 iw H3 x3 z3 h3=>⟨β,cn,M3,_,z3,h3,fun b M4 H4 x4 h4=>?_⟩⟩
  have jW:=x'.trans (x2.trans (x3.trans x4));cases b with
  |false=>
   dsimp only at h4 ⊢;rw[if_neg gc]at h4 ⊢;exact⟨ds.length - (i+1),by omega,rfl,aD,cn,M4,jW,z3.step x4,h4⟩
  |true=>
   dsimp only at h4 ⊢;rw[if_pos rfl]at h4 ⊢;refine⟨β,cn,M4,_,z3.step x4,h4,fun yd M5 yv H5 x5 r5 h5=>?_⟩
   obtain⟨k,rfl,h6⟩:=iA h5;refine⟨k,de r5,?_⟩;cases k with
   |true=>
    rw[if_pos rfl]at h6 ⊢;exact q _ _ _ _ (x1.trans (jW.trans x5)) (.bl _) h6
   |false=>
    rw[if_neg (by decide)]at h6 ⊢
    exact⟨ds.length - (i+1),by omega,rfl,aD,cn,M5,jW.trans x5,(z3.step x4).step x5,h6⟩
 ·have e:i=ds.length :=by omega
  subst e;rw[Is]at h';exact .inl ⟨qq.2 (bv _),q _ _ _ _ (x1.trans x') (.bl _) h'⟩
variable {tg elt iter:hX}{ifs:List hX}{scope:xy}{pos:xp}{N':List cb}{c P:al}{k:Nat}
theorem Ki {p gi:xp}(hP:P∈Γ.tb) (hr:bX (k+1) X.A) (hc:X.calm=true) (B:aB X.N X.env.scope scope N' tn idx)
  (h0:scope.names.lookup (".0" : cb)=some .local) (iu:scope.isCoroutine=false) (fP:X.env.code=.ref c) (hd:re X.base c P) (eE:∃bm ob,T5 X.base mainGlobals X.mg bm ob)
  (jg:Gl X "any") (hm:X.mg "any" = none) (hi:QI Γ X tg iter zi) (hg:dF X N' scope k fun Y=>QG Γ Y tg g) (ht:dF X N' scope k fun Y=>oQ Γ Y ifs tt) (he:dF X N' scope k fun Y=>QE Γ Y elt te)
  (hs:∀x,genFold iter X.env x=pure x :=by intro _;rfl):QE Γ X (.Call (.Name "any" p) [c9 elt tg iter ifs scope gi] [] pos) (zAny tn idx zi g tt te):=(Kh hr hc B h0 iu fP hd eE jg hm hi hg ht he hs).imp fun σ H Q h=>MB hP h
end
theorem yr {g:bS}{te:aG}{M:Mh}(p:Dv->Bool) (I:av->Prop):∀{ds:List Dv}{τ:av}{Q:Bool->Mh->Prop},I τ->(∀d∈ds,∀τ,I τ->∀R:av->ZK,(∀aj,I aj->R aj (.bl (p d)) M)->g d τ M fun aj M2=>te aj M2 (R aj))->Q (ds.any p) M->lV g zNoIf te ds τ M Q
 | [],τ,Q,_,_,q=>q
 |d::ds,τ,Q,i,h,q=>by
          refine h d f8 τ i (fun aj=>zBool fun c M4=>if c=true then Q true M4 else lV g zNoIf te ds aj M4 Q) fun aj i2=>?_
          show if p d=true then Q true M else lV g zNoIf te ds aj M Q
          cases e:p d with
          |true=>
           rw[if_pos rfl];rw[NO,e,Bool.true_or]at q;exact q
          |false=>
           rw[if_neg (by decide)]
           rw[NO,e,Bool.false_or]at q;exact yr p I i2 (fun d' hd=>h d' (ci _ hd)) q
section
variable {Γ:Gz}{β:Bz}{D:al}{M1 M M2:Mh}{H1 H H2:Hp}{aU rL:av}{τ aj:St}{ks:List (List Key)}{acc:List V}{b8:List Dv}
theorem Cm {H:Hp}{a:al}{o:HO}(h:H a=some o):upd H a o=H :=by
 funext b
 by_cases e:b=a
 ·rw[e,aL,h]
 ·rw[aq e]
end
end L2
namespace L2
open PySem PySem.Spec PySem.W PyProof.Rows
section
variable {P:i4}{w:i8}{A:ma}{E:ap->ar->Prop}{s:ar}
theorem qO {h:kt}{a:al}{xs:List (List Int×al)}(x:iz (intKind P w) h a xs):∃o,h.get? a=some o:=let ⟨o,_,_,_,e,_⟩:=x;⟨o,e⟩
theorem Cp {H:Hp}{h:kt}{a:al}{aK:List (List Int×V)}(x:iz (intKind P w) h a (aK.map fun x=>(x.1,jS x.2))):bz P w H h a (iZ P w a aK):=⟨x,qO x,fun h1 h2 y k=>y.bN k⟩
end
theorem Cq {X:Cx}{pins:List (al×lp)}{σ:St}{H:Hp}{s:ar}{a:al}{aK:List (List Int×V)}(I:Inv X pins σ H s) (h:H a=some (iZ X.prog X.w a aK)):iz (intKind X.prog X.w) s.heap a (aK.map fun x=>(x.1,jS x.2)):=(I.hok a _ h).1
def Cr (ks:List (List Int)):Mo:=.ts ks (ks.map eI)
def lW (aK:List (List Int×V)) (k:List Int) (v:V):List (List Int×V):=if k∈aK.map (·.1) then aK else aK++[(k,v)]
def TupAt (H:Hp) (q:List Int×V):Prop:=∃b,q.2=.ref b/\H b=some (.tup (q.1.map V.int))
theorem qP {P:i4}{w:i8}:∀{ns:List Int}{its:List ap},Vals (ns.map V.int) its->ItemsAre (intKind P w) ns its
 | [],_,h=>by cases h;exact .nil
 |n::ns,_,h=>by
          cases h with
          |cons r h=>
           obtain⟨t,rfl⟩:=r;exact .cons (intKind_is _ _ _ _) (qP h)
section
variable {X:Cx}{Γ:Gz}
theorem yt {pins:List (al×lp)}{σ:St}{H:Hp}{s:ar}{b:al}{ns:List Int}(I:Inv X pins σ H s) (h:H b=some (.tup (ns.map V.int))):GT (intKind X.prog X.w) s.heap ns b :=by
 obtain⟨z,its,r,o,e,c,n,d,_⟩:=I.hok b _ h;exact⟨o,its.toArray,n,e,c,d,by simpa using qP r⟩
theorem Ct {pins:List (al×lp)}{σ:St}{H:Hp}{s:ar}{a b:al}{aK:List (List Int×V)}{k:List Int}{Q:VK}(I:Inv X pins σ H s) (hu:X.A.units+64<cLine) (ha:H a=some (iZ X.prog X.w a aK)) (hb:H b=some (.tup (k.map V.int))) (hk:∀q∈aK,TupAt H q) (hl:aK.length<9)
  (q:Q .ao (upd H a (iZ X.prog X.w a (lW aK k (.ref b))))):wpAny (model X.prog X.w) X.A (call (.builtin "set.add") [.ref a,.ref b]) (EP X pins σ Q) X.xe s :=by
 have hS:=Cq I ha;obtain⟨o,es,ep,t,ho,hex,_⟩:=id hS;have hT:s.TypeIs (.ref a) "set" := ⟨o,ho,hex.1⟩
 refine zd F.slot_set_add hT F.entry_set_add ?_ (F.args_set_add_2 _ _);unfold ut.«set.add» ut.Frozenset.oneOther;simp only[List.isEmpty_nil,bind_assoc];unfold ut.Frozenset.addrOf;refine ag (ba ?_);try dsimp only
 refine ag (ba ?_);try dsimp only
 refine ag (zo (knd:=intKind X.prog X.w) (by show X.A.units+_<_;omega) hS (yt I hb) (fun x hx=>?_) (by rw[br];exact hl) fun h' hV cR=>?_)
 ·obtain⟨y,hy,rfl⟩:=ff.mp hx;obtain⟨c,e,hc⟩:=hk y hy;rw[e];exact yt I hc
 ·show wpAny _ _ (ret v6) _ _ _;have xJ:iz (intKind X.prog X.w) h' a ((lW aK k (.ref b)).map fun x=>(x.1,jS x.2)) :=by
   have e1:(aK.map fun x=>(x.1,jS x.2)).map (·.1)=aK.map (·.1) :=by rw[wE];rfl
   unfold vf at cR;unfold lW;rw[e1]at cR;by_cases z:k∈aK.map (·.1)
   ·rw[if_pos z]at cR ⊢;exact cR
   ·rw[if_neg z]at cR ⊢;rw[mv];exact cR
  have I9:=I.write (x:=a) (e:=a) (t':=s.toks+(k.length+1)) (by rw[ha];exact trivial) (.inl rfl) (fun b u hb hu=>(hV.2 b hb).trans hu) (qO xJ) (Cp xJ)
  exact ba ⟨_,rfl,.ao,_,I9,rfl,q⟩
variable {o e:hX}{to:TE}{te:TA}{apos bB:xp}{po:aG}{pa:gA}
def jZ (ks:List (List Int)) (k:List Int):List (List Int):=if k∈ks then ks else ks++[k]
end
section
variable {P:i4}{w:i8}{A:ma}{E:ap->ar->Prop}{s:ar}
theorem vP {a:ap}{C:List ap->List (List Int)->Prop}{Q:ap->ar->Prop}
  (uU:∀QL:List ap->ar->Prop,(∀us rows h' d' tk,C us rows->(∀b o,s.heap.get? b=some o->h'.get? b=some o)->QL us {s with heap:=h',drawn:=d',toks:=tk})->wpAny (model P w) A.in1 (collect a) QL E s)
  (hr:∀us rows,C us rows->u8 (fun v r=>eu s.heap v r) us rows/\us.length<64)
  (h:∀(us:List ap) (rows:List (List Int)) (h1 h':kt) d' tk (is:List Nat) e,C us rows->(∀i∈is,i<us.length)->(is.map fun i=>rows.getD i [])=gJ rows->(∀b o,s.heap.get? b=some o->h1.get? b=some o)->(∀b o,h1.get? b=some o->h'.get? b=some o)->h'.get? h1.objs.size=some {cls:=.type "list",data:=.seq (is.map fun i=>us.getD i v6).toArray e}->Q (.ref h1.objs.size) {s with heap:=h',drawn:=d',toks:=tk}) :
  wpAny (model P w) A (call (.builtin "sorted") [a]) Q E s :=by
 refine Te kind_sorted plain_sorted entry_sorted (args_sorted1 _) ?_;unfold ut.«sorted»;refine ag (m:=checkCount "sorted" 1 1 _) (ba ?_)
 refine ag (uU _ fun us rows h' d' tk hC hk=>?_)
 obtain⟨Cu,jQ⟩:=hr us rows hC;refine ag (TZ ?_ (hsz:=wv (Na jQ) (by decide)))
 have kW:(h'.push (seqObj "list" us.toArray 0)).get? h'.objs.size=some (seqObj "list" us.toArray 0):=io _ rfl
 have mH:u8 (fun v r=>eu (h'.push (seqObj "list" us.toArray 0)) v r) us rows:=u8.imp' (fun v r t=>by
  obtain⟨b,o,xs,n,rfl,ho,z⟩:=t;exact⟨b,o,xs,n,rfl,bi _ (hk _ _ ho),z⟩) Cu
 have hl:=P3 Cu;refine ag (ul (zd slot_list_sort ⟨_,kW,rfl⟩ Vp (lq kW mH jQ fun p hp ha=>⟨_,rfl,?_⟩) (args_list_sort _)))
 refine ba ⟨_,rfl,?_⟩;obtain⟨e,he⟩:=sortedHeap_at (out:=No (p.toList.map fun i=>us.getD i v6)) kW
 refine h us rows h' _ d' _ p.toList e hC (fun i hi=>?_) (pz ?_ ?_) hk (fun b o hb=>?_) he
 ·have:=hp.pm.mem_iff.mp hi;exact lm.mp this
 ·have q:=hp.pm.map fun i=>rows.getD i []
  refine q.trans (Lu.of_eq ?_);rw[hl];refine T8 (by simp) fun i h1 h2=>?_
  simp only[Uc,IN];rw[ca,ac h2];rfl
 ·rw[Cs];intro i j hi hj mC;simp only[br,jp]at hi hj;have hsz:=hp.sz;have:=ha i j (Na mC) (by omega)
  simp only[Uc,Array.getElem_toList];have e1:p.getD i 0=p[i] :=by simp[FM,hi]
  have e2:p.getD j 0=p[j] :=by simp[FM,hj]
  rw[e1,e2]at this;exact this
 ·have aD:=ii hb;rw[sortedHeap_old (lf aD) (by rw[B0];exact wS aD)]
  exact bi _ hb
end
theorem qQ {α β γ:Type}{R:β->γ->Prop}(f:α->β) (g:α->γ):∀{l:List α},(∀x∈l,R (f x) (g x))->u8 R (l.map f) (l.map g)
 | [],_=>.nil
 |x::l,h=>.cons (h x f8) (qQ f g fun y hy=>h y (ci _ hy))
theorem Cv {α β:Type}(f:α->β):∀{us:List β}{l:List α},us.Perm (l.map f)->∃l':List α,l'.Perm l/\us=l'.map f:=fun {us l} h=>by
 have key:∀(us vs:List β),us.Perm vs->∀l:List α,vs=l.map f->∃l':List α,l'.Perm l/\us=l'.map f:=fun us vs p=>by
  induction p with
  |nil=>intro l e;exact⟨l,.refl _,e⟩
  |cons x p ih=>
   intro l e;cases l with
   |nil=>cases e
   |cons a l=>
    cases e;obtain⟨l',p',e'⟩:=ih l rfl;exact⟨a::l',p'.cons a,by rw[e'];rfl⟩
  |swap x y l0=>
   intro l e;match l,e with
   |a::b::l,e=>
    cases e;exact⟨b::a::l,.swap ..,rfl⟩
  |trans p1 p2 Rp Rq=>
   intro l e;obtain⟨l2,q2,e2⟩:=Rq l e;obtain⟨l1,q1,e1⟩:=Rp l2 e2;exact⟨l1,q1.trans q2,e1⟩
 exact key us _ h l rfl
def G7 (X:Cx):List V->Hp->VK->Prop:=fun xs H Q=>∃p aK,xs=[.ref p]/\H p=some (iZ X.prog X.w p aK)/\(∀q∈aK,TupAt H q/\q.1≠[])/\aK.length<64 /\
 ∀l (pA:List (List Int×V)),H l=none->(∀q∈pA,q∈aK)->pA.map (·.1)=gJ (aK.map (·.1))->Q (.ref l) (upd H l (.lst (pA.map (·.2))))
section
variable {X:Cx}{Γ:Gz}
theorem wL (hc:X.calm=true):cw X (.builtin "sorted") (G7 X) :=by
 intro pins s σ H xs us Q I r h;obtain⟨p,aK,rfl,hp,iy,jQ,q⟩:=h;obtain⟨u,rfl,rx⟩:=vals1 r;cases rx;have hh:=I.ok.hd hc;have hsz:sizeLine=16777216:=JJ;obtain⟨o,es,ep,t,ho,hex,hd,Cw,hn,g,hm,hl⟩:=Cq I hp;have hlen:es.size=aK.length :=by rw[<- jp,Cw.length_eq,br,br]
 have hV:scanBound=4096:=rfl;have ev:es.toList.map (·.2) |>.Perm (aK.map fun x=>xw (jS x.2)) :=by
  have:=Cw.map (·.2);rw[wE,wE]at this;exact this
 refine vP (C:=fun us rows=>∃g6:List (List Int×V),g6.Perm aK/\us=g6.map (fun x=>xw (jS x.2))/\rows=g6.map (·.1)) (fun QL qu=>?_) (fun us rows hC=>?_) fun us rows h1 h' d' tk is e hC hi hs k1 k2 he=>?_
 ·refine vh (by simp[hh]) ho hex hd (by omega) g.fits g.ok (by omega) fun us h' d' tk Rr hk=>?_
  obtain⟨g6,q2,e2⟩:=Cv (fun x:List Int×V=>xw (jS x.2)) (Rr.trans ev)
  exact qu us _ h' d' tk ⟨g6,q2,e2,rfl⟩ hk
 ·obtain⟨g6,q2,rfl,rfl⟩:=hC;refine⟨qQ _ _ fun x hx=>?_,by rw[br,q2.length_eq];exact jQ⟩
  obtain⟨⟨b,e,hb⟩,dm⟩:=iy x (q2.mem_iff.mp hx);obtain⟨ts,rt,⟨ob,uC,dJ,n,Rt⟩,_⟩:=I.tuple (.inl (.inl hb));rw[e];exact⟨b,ob,_,n,rfl,uC,dJ,Rt,qo rt,dm⟩
 ·obtain⟨g6,q2,rfl,rfl⟩:=hC;rw[br]at hi;have I1:Inv X pins σ H {s with heap:=h1,drawn:=d'}:=(I.kept (t':=s.toks) k1).gh ⟨rfl,rfl,I.bare.self⟩
  have Ck:=congrArg TU hs;rw[br,(fS _).length_eq,br,q2.length_eq]at Ck;have gd:∀i∈is,g6[i]?=some (g6.getD i ([],.ao)):=fun i hx=>by
   have:=hi i hx;rw[ca,ac this];rfl
  have mem:∀i∈is,g6.getD i ([],.ao)∈aK:=fun i hx=>q2.mem_iff.mp (gl (gd i hx))
  have ob:bz X.prog X.w (upd H h1.objs.size (.lst ((is.map fun i=>g6.getD i ([],.ao)).map (·.2)))) h' h1.objs.size (.lst ((is.map fun i=>g6.getD i ([],.ao)).map (·.2))) :=by
   refine⟨by rw[br,br];omega,_,e,?_,he⟩
   clear he hs Ck
   induction is with
   |nil=>exact .nil
   |cons i is ih=>
    refine .cons ?_ (ih (fun j hj=>hi j (ci _ hj)) (fun j hj=>gd j (ci _ hj)) fun j hj=>mem j (ci _ hj))
    have g1:=gd i f8;obtain⟨⟨b,e1,_⟩,_⟩:=iy _ (mem i f8);have e2:(g6.map fun x=>xw (jS x.2)).getD i v6=.ref (jS (g6.getD i ([],.ao)).2) :=by
     rw[ca,ij,g1];rfl
    show RelV (g6.getD i ([],.ao)).2 ((g6.map fun x=>xw (jS x.2)).getD i v6)
    rw[e2,e1];rfl
  have eq1:(is.map fun i=>g6.getD i ([],.ao)).map (·.1)=gJ (aK.map (·.1)) :=by
   have e3:(is.map fun i=>g6.getD i ([],.ao)).map (·.1)=is.map fun i=>(g6.map (·.1)).getD i [] :=by
    rw[wE];refine LP fun i hx=>?_
    show (g6.getD i ([],.ao)).1=_;rw[ca (l:=List.map _ _),ij,gd i hx];rfl
   rw[e3,hs];exact pz ((fS _).trans (q2.map _)) (vM _)
  exact⟨.ref h1.objs.size,_,I1.laid (t':=tk) k2 (bv _) ob,rfl,q _ _ (I1.hok.fresh (bv _)) (fun z hz=>by obtain⟨i,hx,rfl⟩:=ff.mp hz;exact mem i hx) eq1⟩
end
section
variable {prog:i4}{w:i8}{A:ma}{E:ap->ar->Prop}{s:ar}
def IsT (h:kt) (x:List Int) (a:al):Prop:=∃o items n,h.get? a=some o/\o.cls=.type "tuple" /\ o.data=.seq items n/\Vals (x.map V.int) items.toList
theorem IsT.typeIs {x:List Int}{a:al}(h:IsT s.heap x a):s.TypeIs (.ref a) "tuple" := let ⟨o,_,_,e,c,_⟩:=h;⟨o,e,c⟩
end
section
variable {X:Cx}{Γ:Gz}
def Kj (H:Hp) (v:V) (r:List Int):Prop:=∃b,v=.ref b/\H b=some (.tup (r.map V.int))
theorem Kk {pins:List (al×lp)}{σ:St}{H:Hp}{s:ar}{b:al}{ns:List Int}(I:Inv X pins σ H s) (h:H b=some (.tup (ns.map V.int))):IsT s.heap ns b :=by
 obtain⟨z,its,r,o,e,c,n,d,_⟩:=I.hok b _ h;exact⟨o,its.toArray,n,e,c,d,by simpa using r⟩
theorem vQ {β:Bz}{M:Mh}{H:Hp}:∀{vs:List V}{rs:List (List Int)},aM β M H vs (rs.map eI)->u8 (Kj H) vs rs
 | [],[],_=>.nil
 | [],_::_,h=>by have:=h.len;simp at this
 |_::_,[],h=>by have:=h.len;simp at this
 |v::vs,r::rs,h=>by
          obtain⟨b,us,rfl,_,hb,vR⟩:=dO h.head;have:=fJ vR;subst this;exact .cons ⟨b,rfl,hb⟩ (vQ h.tail)
end
end L2
namespace L2
open PySem PySem.Spec PyProof.Rows
def ix (acc:Option Int) (v:Int):Option Int:=match acc with|none=>some v|some m=>if v > m then some v else some m
def N9 (acc:Option Int) (t:Vl):Array ap:=match acc with|none=>#[]|some m=>#[.int m t,.int m t]
def oX (acc:Option Int) (t:Vl) (c:Nat):lp:={cls:=.type "list",dict:=none,data:=.seq (N9 acc t) c,slots:=#[]}
def MxAt (S:al) (acc:Option Int) (s:ar):Prop:=∃t c,s.heap.get? S=some (oX acc t c)
section
variable {Y:Cx}{A2:ma}{tg elt iter:hX}{ifs:List hX}{scope:xy}{pos:xp}{it:al}{fp:List al}{bp:Nat->kt->Prop}{J:It}{g:TG}{tt:TT}{te:TE}{pp:List (al×lp)}
def zH (J:It) (g:TG) (tt:TT) (te:TE) (Z:Option Int->Hp->Prop) (W:Nat->Nat->Option Int->St->Hp->Prop):Prop:=∀i m acc τ H,W i m acc τ H->
 (J.stop i H/\Z acc H)\/(J.go i H/\∀x H',J.yld i H x H'->g x τ H' fun aj H2=>tt aj H2 fun b H3=>if b=true then te aj H3 fun y H4=>∃v,y=.int v/\∃m',m'<m/\W (i+1) m' (ix acc v) aj H4 else ∃m',m'<m/\W (i+1) m' acc aj H3)
def RM (Y:Cx) (pp:List (al×lp)) (S:al) (Z:Option Int->Hp->Prop):GenEnd:=fun _ s₀ r aw=>r=.ok .next/\∃acc τ H,MxAt S acc s₀/\Inv Y pp τ H aw/\H S=none/\MxAt S acc aw/\Z acc H
def YM (Y:Cx) (pp:List (al×lp)) (S:al):Protocol:=fun _ s₀ v s km=>∃acc b t τ H pl,v=.int b t/\MxAt S acc s₀/\MxAt S acc s/\Inv Y (pp++pl) τ H s/\(H S=none/\S≠Y.env.locals/\S ∉ Y.fs)/\(∀p∈pl,p.1≠S) /\
 ∀aW,Inv Y (pp++pl) τ H aW->MxAt S (ix acc b) aW->km (.send .none) aW
theorem Cy {S:al}(hA:Y.A=A2.over (.compLoop (.GeneratorExp elt [⟨tg,iter,ifs,0⟩] scope pos) 0 (.ref it) .none Y.env) []) (mU:Y.xe=fun _ _=>False) (hc:Y.calm=true) (iu:Y.env.scope.isCoroutine=false)
  (T:Turn Y.prog Y.w Y.K tg J fp it bp) (hg:PG Y tg g) (ht:gv Y ifs tt) (he:PE Y elt te) (stat:∀{H':Hp},(∀b∈fp,H' b=none)->∀b∈fp,cF Y pp H' b) (hS:S ∉ fp)
  {W:Nat->Nat->Option Int->St->Hp->Prop} {Z:Option Int->Hp->Prop} (turn:zH J g tt te Z W) :
  ∀(m n i:Nat) (acc:Option Int) (τ:St) (H:Hp) (s s₀:ar) (t:Vl) (c:Nat),m<n->W i m acc τ H->Inv Y (pp++[(S,oX acc t c)]) τ H s->s₀.heap.get? S=some (oX acc t c)->bp i s.heap->(∀b∈fp,H b=none)->
   Seg (model Y.prog Y.w) A2 (RM Y pp S Z) (YM Y pp S) n s₀ (.compLoop (.GeneratorExp elt [⟨tg,iter,ifs,0⟩] scope pos) 0 (.ref it) .none Y.env)
    ((model Y.prog Y.w).den (.compLoop (.GeneratorExp elt [⟨tg,iter,ifs,0⟩] scope pos) 0 (.ref it) .none Y.env)) [] s :=by
 intro m;induction m using Sk with
 |ind m ih=>
  intro n i acc τ H s s₀ t c Nz w I h0 st fr;have zI:∀{H':Hp},(∀b∈fp,H' b=none)->∀b∈fp,cF Y (pp++[(S,oX acc t c)]) H' b:=fun hn b hb=>by
   obtain⟨f0,f1,f2,f3,f4,f5⟩:=stat hn b hb;refine⟨f0,f1,f2,f3,f4,fun p hp=>?_⟩
   rcases rc.mp hp with z|z
   ·exact f5 p (wb _ z)
   ·rcases rc.mp z with z|z
    ·exact f5 p (c8 _ z)
    ·rw[lw.mp z];exact fun e=>hS (by rw[show S=b from e];exact hb)
  show Seg _ A2 _ _ _ s₀ _ ((compTurn (.GeneratorExp elt [⟨tg,iter,ifs,0⟩] scope pos) 0 (.ref it) .none Y.env).onRaise (leaving Y.env)) [] s;rw[compTurn_gen,UE];rcases turn i m acc τ H w with ⟨stop,qn⟩|⟨go,step⟩
  ·refine uu (BY ?_);have d:=T.done Y rfl rfl rfl hc i _ s τ H (fun _ _=>False) I (zI fr) st stop
   rw[hA]at d;refine uu (l8 d (fun r s1 ⟨hr,I1⟩=>?_) fun _ _ z=>z.elim)
   subst hr;exact seg_end (.ok .next) ⟨rfl,acc,τ,H,⟨t,c,h0⟩,I1.du,(I1.pin (S,oX acc t c) (c8 _ (c8 _ (lw.mpr rfl)))).2.1,⟨t,c,(I1.pin (S,oX acc t c) (c8 _ (c8 _ (lw.mpr rfl)))).1⟩,qn⟩
  ·refine uu (BY ?_);have d:=T.item Y rfl rfl rfl hc i _ s τ H (fun _ _=>False) I (zI fr) st go
   rw[hA]at d;refine uu (l8 d (fun r s4 ⟨u,hr,h4⟩=>?_) fun _ _ z=>z.elim)
   subst hr;refine uu (l8 h4 (fun _ s5 ⟨x,H5,I5,r5,y5,jF,uk⟩=>?_) fun _ _ z=>z.elim)
   have um:=I5.pinned (zI uk) (T.obj _ _ jF);have back:∀{qq:List (al×lp)} {oG:St} {H7:Hp} {s7:ar},Inv Y (qq++fw fp s5.heap) oG H7 s7->bp (i+1) s7.heap/\∀b∈fp,H7 b=none:=fun {qq oG H7 s7} I7=>by
    refine⟨T.keep _ _ _ jF fun b hb o e=>(I7.pin (b,o) (c8 _ (c8 _ (cM hb e)))).1,fun b hb=>?_⟩
    obtain⟨o,e,d⟩:=T.obj _ _ jF b hb;exact(I7.pin (b,o) (c8 _ (c8 _ (cM hb e)))).2.1
   have d2:=hg _ s5 τ H5 x u _ um r5 (step x H5 y5);rw[hA,mU]at d2;refine uu (l8 d2 (fun _ s6 ⟨je,H6,I6,q6⟩=>?_) fun _ _ z=>z.elim)
   have d3:=ht _ s6 je H6 _ I6 q6;rw[hA,mU]at d3;refine uu (l8 d3 (fun ok s7 ⟨H7,I7,q7⟩=>?_) fun _ _ z=>z.elim)
   have hy:∀v,yieldOut Y.env v=yieldValue v:=fun v=>by simp only[yieldOut,iu,db,if_false]
   cases ok with
   |false=>
    simp only[db,if_false]at q7 ⊢;obtain⟨m',pX,w7⟩:=q7;exact Ui rfl (ih m' pX n (i+1) acc je H7 s7 s₀ t c (by omega) w7 I7.du h0 (back I7).1 (back I7).2)
   |true=>
    simp only[if_true]at q7 ⊢;simp only[hy];rw[TC,TC,UV,UV];have d4:=he _ s7 je H7 _ I7 q7;rw[hA,mU]at d4;refine seg_wrap (l8 d4 (fun yv s8 ⟨y,H8,I8,r8,q8⟩=>?_) fun _ _ z=>z.elim)
    obtain⟨b,rfl,m',pX,w8⟩:=q8;obtain⟨tv,rfl⟩:=r8;obtain⟨n,rfl⟩:∃n',n=n'+1:=⟨n - 1,by omega⟩
    have pS:=I8.pin (S,oX acc t c) (c8 _ (wb _ (c8 _ (lw.mpr rfl))));have pl:∀p∈fw fp s5.heap,p.1≠S:=fun p hp e=>hS (by rw[<- e];exact(si hp).1)
    have Ru:Inv Y (pp++fw fp s5.heap) je H8 s8:=I8.jz fun p hp=>I8.pin p (c8 _ ((rc.mp hp).elim (fun z=>wb _ (wb _ z)) (c8 _)))
    refine seg_at (seg_yield rfl rfl rfl ⟨acc,b,tv,je,H8,fw fp s5.heap,rfl,⟨t,c,h0⟩,⟨t,c,pS.1⟩,Ru,⟨pS.2.1,pS.2.2.1,pS.2.2.2.1⟩,pl,fun aW I9 ⟨t2,c2,h9⟩=>?_⟩)
    have Rv:Inv Y (pp++[(S,oX (ix acc b) t2 c2)]) je H8 aW:=I9.jz fun p hp=>by
     rcases rc.mp hp with z|z
     ·exact I9.pin p (c8 _ (wb _ z))
     ·rw[lw.mp z];exact⟨h9,pS.2.1,pS.2.2.1,pS.2.2.2.1,fun v z=>by cases z⟩
    exact Ui rfl (ih m' pX n (i+1) (ix acc b) je H8 aW aW t2 c2 (by omega) w8 Rv h9 (back I9).1 (back I9).2)
end
section
variable {X:Cx}{tg elt iter:hX}{ifs:List hX}{scope:xy}{pos:xp}{N':List cb}{tn:Nat}{idx:List Nat}{wi:TI}{g:TG}{tt:TT}{te:TE}{c P:al}{k:Nat}
def zJ (X Y:Cx) (pp:List (al×lp)) (gn:Nat) (S:al) (Z:Option Int->Hp->Prop) (n:Nat) (acc:Option Int) (s:ar):Prop:=
 MxAt S acc s/\∃τ H pl gs,Inv Y (pp++pl) τ H s/\s.gens[gn]?=some gs/\∀aW,Inv Y (pp++pl) τ H aW->MxAt S acc aW->gs.Goes (model X.prog X.w) X.A.in4.in1 (RM Y pp S Z) (YM Y pp S) n (.send .none) aW
theorem MxAt.inj {S:al}{a b:Option Int}{s:ar}(h:MxAt S a s) (h2:MxAt S b s):a=b :=by
 obtain⟨t,c,e⟩:=h;obtain⟨t2,c2,e2⟩:=h2;rw[e]at e2;have:=kw e2;unfold oX at this;injection this with _ _ h3 _
 injection h3 with h4 _
 have h5:=congrArg (fun x:Array ap=>x[0]?) h4
 cases a<;>cases b<;>simp[N9]at h5 ⊢
 exact h5.1
theorem Km {pins:List (al×lp)}{σ:St}{J:It}{H3:Hp}{a:al}{s5:ar}{Y:Cx}{it:al}{fp:List al}{bp:Nat->kt->Prop}{gn:Nat}{pp:List (al×lp)}{S:al}{Z:Option Int->Hp->Prop}{n:Nat}{acc:Option Int}{s:ar}{E:ap->ar->Prop}
  (hr:bX (k+1) X.A) (G:yX X pins σ N' scope tn idx k elt tg iter ifs pos J H3 a s5 Y it fp bp gn pp)
  (hS:(S∈Y.ex\/Y.s₀.heap.objs.size<=S)/\(∀x c,Y.env.cells.lookup x=some c->c≠S)/\∀p∈Y.pn++pp,p.1≠S) (h:zJ X Y pp gn S Z n acc s) :
  wpAny (model X.prog X.w) X.A.in4 (pyNext (.ref a)) (fun r s1=>match r with
   |none=>∃H1,Inv X pins σ H1 s1/\H1 S=none/\MxAt S acc s1/\Z acc H1
   |some v=>∃b t,v=.int b t/\MxAt S acc s1/\∀h' t',(∀d o,d≠S->s1.heap.get? d=some o->h'.get? d=some o)->MxAt S (ix acc b) {s1 with heap:=h',toks:=t'}->∃m,m<n/\zJ X Y pp gn S Z m (ix acc b) {s1 with heap:=h',toks:=t'}) E s :=by
 obtain⟨sa,τ,H,pl,gs,I6,Ba,mW⟩:=h;refine Ux (A:=X.A.in4) (P:=fun _ s₀ aw=>∃acc τ H,MxAt S acc s₀/\Inv Y pp τ H aw/\H S=none/\MxAt S acc aw/\Z acc H) hr.hd I6.nolimit hr.depth (G.isg I6.du) Ba (mW _ (I6.gh ⟨rfl,rfl,dN I6.bare rfl⟩) sa) (fun v s1 pZ hb hv=>?_) (fun s1 hp h' hk=>?_)
 ·obtain⟨EE,b,t,p7,H1,Oa,rfl,sb,sc,I1,nS,Rw,z2⟩:=hv;have ea:acc=EE:=MxAt.inj sa sb;subst ea;have mZ:h8 s1 (s1.setGen gn pZ):=⟨rfl,rfl,dN I1.bare hb⟩;refine⟨b,t,rfl,sc,fun h' t' keep uh=>?_⟩
  have I2:Inv Y (pp++Oa) p7 H1 {s1.setGen gn pZ with heap:=h',toks:=t'}:=(I1.gh mZ).turned keep nS.1 nS.2.1 hS.1 hS.2.1 fun p hp=>by
   rcases rc.mp hp with z|z
   ·exact hS.2.2 p (wb _ z)
   ·rcases rc.mp z with z|z
    ·exact hS.2.2 p (c8 _ z)
    ·exact Rw p z
  have z3:=z2 _ I2 uh;cases n with
  |zero=>exact z3.elim
  |succ m=>exact⟨m,AL _,uh,p7,H1,Oa,pZ,I2,mX (G.gsz I1.du),fun aW I3 s3=>z2 aW I3 s3⟩
 ·obtain⟨EE,p7,H1,sb,I1,Rx,⟨te,ce,Ry⟩,z1⟩:=hp;have ea:acc=EE:=MxAt.inj sa sb;subst ea;have I2:=I1.kept (t':=s1.toks) hk;have Bb:h8 {s1 with heap:=h'} {s1.setGen gn .finished with heap:=h'}:=⟨rfl,rfl,dN (s:=s1) I1.bare rfl⟩
  exact⟨H1,G.out (I2.gh Bb),Rx,⟨te,ce,hk _ _ Ry⟩,z1⟩
theorem zK {pins:List (al×lp)}{σ:St}{J:It}{H3:Hp}{a:al}{s5:ar}{Y:Cx}{it:al}{fp:List al}{bp:Nat->kt->Prop}{gn:Nat}{pp:List (al×lp)}{S:al}{Z:Option Int->Hp->Prop}{W:Nat->Nat->Option Int->St->Hp->Prop}{m0:Nat}{H4:Hp}{s6:ar}{acc:Option Int}
  (G:yX X pins σ N' scope tn idx k elt tg iter ifs pos J H3 a s5 Y it fp bp gn pp) (hg:dF X N' scope k fun Y=>PG Y tg g) (ht:dF X N' scope k fun Y=>gv Y ifs tt) (he:dF X N' scope k fun Y=>PE Y elt te) (hS:S ∉ fp)
  (Kn:H4 S=none/\S≠Y.env.locals/\S ∉ Y.fs) (I6:Inv Y (pp++fw fp s5.heap) (bc tn idx σ) H4 s6) (RA:s6.gens=s5.gens) (sa:MxAt S acc s6) (turn:zH J g tt te Z W) (w0:W 0 m0 acc (bc tn idx σ) H4):zJ X Y pp gn S Z (m0+1) acc s6 :=by
 have o7:=Cy (A2:=X.A.in4.in1) (pp:=pp) (S:=S) (Z:=Z) G.A G.xe G.calm G.co G.T (G.blk _ hg) (G.blk _ ht) (G.blk _ he) G.stat hS turn;have hP:=G.prog;have hW:=G.w;have ib:=G.st;rw[<- RA]at ib;refine⟨sa,_,_,_,_,I6,ib,fun aW I7 ⟨t,c,h7⟩=>⟨rfl,?_⟩⟩
 have sG:bp 0 aW.heap:=G.T.keep _ _ _ G.tn0 fun b hb o e=>(I7.pin (b,o) (c8 _ (c8 _ (cM hb e)))).1
 have RB:∀b∈fp,H4 b=none:=fun b hb=>by
  obtain⟨o,e,d⟩:=G.T.obj _ _ G.tn0 b hb;exact(I7.pin (b,o) (c8 _ (c8 _ (cM hb e)))).2.1
 have RC:Inv Y (pp++[(S,oX acc t c)]) (bc tn idx σ) H4 aW:=I7.jz fun p hp=>by
  rcases rc.mp hp with z|z
  ·exact I7.pin p (c8 _ (wb _ z))
  ·rw[lw.mp z];exact⟨h7,Kn.1,Kn.2.1,Kn.2.2,fun v z=>by cases z⟩
 have q:=mY (iter:=iter) (ifs:=ifs) (scope:=scope) (pos:=pos) (elt:=elt) G.T sG (o7 m0 (m0+1) 0 acc _ _ aW aW t c (AL _) w0 RC h7 sG RB);rw[hP,hW]at q;exact q
theorem EF {pins:List (al×lp)}{σ:St}{J:It}{H3:Hp}{a:al}{s5:ar}{Y:Cx}{it:al}{fp:List al}{bp:Nat->kt->Prop}{gn:Nat}{pp:List (al×lp)}{S:al}{Z:Option Int->Hp->Prop}{R':TR->ar->Prop}
  (hr:bX (k+1) X.A) (G:yX X pins σ N' scope tn idx k elt tg iter ifs pos J H3 a s5 Y it fp bp gn pp)
  (hS:(S∈Y.ex\/Y.s₀.heap.objs.size<=S)/\(∀x c,Y.env.cells.lookup x=some c->c≠S)/\∀p∈Y.pn++pp,p.1≠S) (hZ:∀H,¬ Z none H)
  (hR:∀s H acc t h' tk,Inv X pins σ H s->H S=none->(∀d o,d≠S->s.heap.get? d=some o->h'.get? d=some o)->Z (some acc) H->R' (.ok (.ret (.int acc t))) {s with heap:=h',toks:=tk}) :
  ∀(n:Nat) (acc:Option Int) (s:ar),zJ X Y pp gn S Z n acc s->codeAny (model X.prog X.w) X.A (.builtin "max.loop" ⟨[.ref a,.none,.ref S],[]⟩) R' s :=by
 intro n;induction n using Sk with
 |ind n ih=>
  intro acc s h;obtain⟨t0,c0,h0⟩:=h.1;refine ww Ud ?_;rw[ss AM _];show wpAny _ X.A.in1 (seqItems? (.ref S)>>=_) _ _ s;refine ag (LS h0 rfl ?_);show wpAny _ X.A.in1 (tryCatch (pyNext (.ref a)) _>>=_) _ _ s;refine ag (S3 (Nl (Nl (Nl (l8 (Km (E:=fun _ _=>False) hr G hS h) (fun r s1 q=>?_) fun _ _ z=>z.elim)))))
  have gK:(toString "max" ++ toString ".loop" : String) = "max.loop" := by decide
  have oth:∀(h':kt) (f:lp->lp) (d:al) (o:lp),d≠S->h'.get? d=some o->(h'.update S f).get? d=some o:=fun h' f d o hd e=>(mT _ _ (fun h:S=d=>hd h.symm)).trans e
  cases r with
  |none=>
   obtain⟨H1,I1,mD,⟨t1,c1,h1⟩,z1⟩:=q;cases acc with
   |none=>exact(hZ _ z1).elim
   |some m=>
    have h1:s1.heap.get? S=some {cls:=.type "list",dict:=none,data:=.seq #[.int m t1,.int m t1] c1,slots:=#[]}:=h1
    show wpAny _ X.A.in1 (updateSeq S (fun _=>#[])>>=_) _ _ _
    refine ag (ET h1 rfl (ag (Mn (ba ?_))));exact hR s1 H1 m t0 _ s1.toks I1 mD (oth _ _) z1
  |some v=>
   obtain⟨b,t,rfl,⟨t1,c1,h1⟩,nx⟩:=q;cases acc with
   |none=>
    have h1:s1.heap.get? S=some {cls:=.type "list",dict:=none,data:=.seq #[] c1,slots:=#[]}:=h1
    have e:ix none b=some b:=rfl;rw[e]at nx;show wpAny _ X.A.in1 (updateSeq S (fun _=>#[.int b t,.int b t])>>=_) _ _ _
    refine ag (ET h1 rfl ?_);rw[gK];obtain⟨m,hm,hG⟩:=nx (s1.heap.update S (ze fun _=>#[.int b t,.int b t])) s1.toks (oth _ _) ⟨t,_,sK _ h1 rfl⟩
    exact ba ⟨wl AM _,ih m hm _ _ hG⟩
   |some old=>
    have h2:s1.heap.get? S=some {cls:=.type "list",dict:=none,data:=.seq #[.int old t1,.int old t1] c1,slots:=#[]}:=h1
    show wpAny _ X.A.in1 (tryCatch (holding [.int b t,.int b t] (richCompare .Gt (.int b t) (.int old t0)>>=_)) _>>=_) _ _ _;refine ag (S3 (ul (ag (richCompare_gives (op:=.Gt) (Tt s1 _ t) (Tt s1 _ t0) F.slot_int_gt F.entry_int_gt (F.args_int_gt_2 _ _) (gives_int_gt _ _ t t0) (fun x=>nomatch x) ?_))))
    refine ag (ul (wP ?_));refine ag (Mn (ba ?_));by_cases hb:b > old
    ·have e:ix (some old) b=some b :=by unfold ix;exact if_pos hb
     rw[e]at nx;rw[decide_eq_true hb];simp only[if_true];refine ag (ET h2 rfl (ag (Mn ?_)));rw[gK];obtain⟨m,hm,hG⟩:=nx (s1.heap.update S (ze fun _=>#[.int b t,.int b t])) s1.toks (oth _ _) ⟨t,_,sK _ h2 rfl⟩
     exact ba ⟨wl AM _,ih m hm _ _ hG⟩
    ·have e:ix (some old) b=some old :=by unfold ix;exact if_neg hb
     rw[e]at nx;rw[decide_eq_false hb];simp only[db,if_false];refine ag (Mn ?_);rw[gK];obtain⟨m,hm,hG⟩:=nx s1.heap s1.toks (fun d o _ e=>e) ⟨t1,c1,h1⟩
     exact ba ⟨wl AM _,ih m hm _ _ hG⟩
def FX (P:al) (tn:Nat) (idx:List Nat) (wi:TI) (g:TG) (tt:TT) (te:TE):TE:=fun σ H Q=>A8 P wi (fun J H1=>∃W:Nat->Nat->Option Int->St->Hp->Prop,(∃m,W 0 m none (bc tn idx σ) H1)/\zH J g tt te (fun acc H2=>∃v,acc=some v/\Q (.int v) H2) W) σ H
theorem Cz {p gi:xp}(hr:bX (k+1) X.A) (hc:X.calm=true) (B:aB X.N X.env.scope scope N' tn idx)
  (h0:scope.names.lookup (".0" : cb)=some .local) (iu:scope.isCoroutine=false) (fP:X.env.code=.ref c) (hd:re X.base c P) (eE:∃bm ob,T5 X.base mainGlobals X.mg bm ob)
  (jg:Gl X "max") (hm:X.mg "max" = none) (hi:PI X tg iter wi) (hg:dF X N' scope k fun Y=>PG Y tg g) (ht:dF X N' scope k fun Y=>gv Y ifs tt) (he:dF X N' scope k fun Y=>PE Y elt te)
  (hs:∀x,genFold iter X.env x=pure x :=by intro _;rfl):PE X (.Call (.Name "max" p) [c9 elt tg iter ifs scope gi] [] pos) (FX P tn idx wi g tt te) :=by
 refine⟨?_⟩;intro pins s σ H Q I h;refine Ix (gu I jg hm qa ?_);refine KF ?_ rfl rfl;show wpAny _ _ (spliced ((false,eval (c9 elt tg iter ifs scope gi) X.env)::[])) _ _ s;refine Nd (o6 hr hc B h0 iu fP hd eE hi hs I h ?_);intro J H3 a s5 Y it fp bp gn pp G ⟨W,⟨m0,w0⟩,turn⟩;refine Op ?_;refine Sm F.kind_max F.plain_max F.entry_max (F.args_max1 _) ?_;have gK:(toString "max" ++ toString ".loop" : String) = "max.loop" := by decide
 show wpAny _ X.A.in1 (NE "max" ["key","default"] 0 ⟨[],[]⟩>>=_) _ _ s5
 refine ag (Vu (show NE "max" ["key","default"] 0 ⟨[],[]⟩=pure [none,none] from rfl) ?_)
 refine ag (ba ?_);refine ag (Vd (G.isg G.inv) ?_);refine ag (AS ?_);have fo:=G.inv.mL (bv s5.heap.objs.size) (G.inv.hok.fresh (bv _));have ia:s5.heap.objs.size ∉ fp:=fun z=>by
  obtain⟨o,e,_⟩:=G.T.obj _ _ G.tn0 _ z;exact Fk _ (ii e)
 have I6:=G.inv.pinned (G.stat G.fr) (G.T.obj _ _ G.tn0);have IX:=G.out G.inv;rw[gK];refine ba ⟨wl AM _,EF (Z:=fun acc H2=>∃v,acc=some v/\Q (.int v) H2) hr G ⟨fo.2.2.2.1,fo.2.2.2.2.1,fo.2.2.2.2.2⟩ (fun H ⟨v,e,_⟩=>nomatch e) (fun s1 H1 acc t h' tk I1 mD keep z1=>?_) (m0+1) none _
  (zK G hg ht he ia ⟨fo.1,fo.2.1,fo.2.2.1⟩ (I6.kept (t':=s5.toks) fun b o e=>bi _ e) rfl ⟨0,_,io _ rfl⟩ turn w0)⟩
 obtain⟨v,e,z2⟩:=z1;cases e;have fx:=IX.mL (bv s5.heap.objs.size) mD;exact⟨.int acc,H1,I1.turned (t':=tk) keep mD fx.2.1 fx.2.2.2.1 fx.2.2.2.2.1 fx.2.2.2.2.2,⟨t,rfl⟩,z2⟩
end
section
variable {X:Cx}{Γ:Gz}{tg elt iter:hX}{ifs:List hX}{scope:xy}{pos:xp}{N':List cb}{tn:Nat}{idx:List Nat}{zi:eY}{g:bS}{tt:cq}{te:aG}{c P:al}{k:Nat}
def zMaxGL (g:bS) (tt:cq) (te:aG):List Dv->av->Mh->Option Int->(Option Int->Mh->Prop)->Prop
 | [],_,M,acc,Q=>Q acc M
 |d::ds,τ,M,acc,Q=>g d τ M fun aj M2=>tt aj M2 fun b M3=>if b=true then te aj M3 (fun y M4=>match y with | .int v=>zMaxGL g tt te ds aj M4 (ix acc v) Q|_=>False) else zMaxGL g tt te ds aj M3 acc Q
def zMaxG (tn:Nat) (idx:List Nat) (zi:eY) (g:bS) (tt:cq) (te:aG):aG:=fun ρ M Q=>zi ρ M fun ds M1=>zMaxGL g tt te ds (zBlock tn idx ρ) M1 none fun acc M2=>∃v,acc=some v/\Q (.int v) M2
theorem Ko {P:al}(hP:P∈Γ.tb) {σ:St}{H:Hp}{Q:VK}(h:lE Γ (zMaxG tn idx zi g tt te) σ H Q):FX P tn idx (lI Γ zi) (lG Γ g) (lT Γ tt) (lE Γ te) σ H Q :=by
 obtain⟨β,ρ,M,Q',zr,h,q⟩:=h;refine Ek hP zr h fun ds M1 H1 J x1 it h1=>?_
 have fI:=zr.step x1;refine⟨fun i m acc τ H'=>m=ds.length - i/\i<=ds.length/\∃aU M',Ex β M1 H1 M' H'/\Zr Γ β M' aU τ H'/\zMaxGL g tt te (ds.drop i) aU M' acc fun a M2=>∃v,a=some v/\Q' (.int v) M2,⟨_,rfl,sB _,_,M1,.refl x1.mz,fI.block tn idx,h1⟩,?_⟩
 rintro i m acc τ H' ⟨rfl,hi,aU,M',x',e6,h'⟩;have qq:=it β M' H' .refl x'.toEy x'.mz i;by_cases aD:i<ds.length
 ·refine .inr ⟨(qq.1 aD).1,fun x jT y=>?_⟩
  obtain⟨x2,d,hd,rd⟩:=(qq.1 aD).2 x jT y;have e:ds.drop i=d::ds.drop (i+1) :=by
   rw[zn aD];rw[ac aD]at hd;cases hd;rfl
  rw[e]at h';refine⟨β,d,aU,M',_,e6.step x2,rd,h',fun cn M3 iw H3 x3 z3 h3=>⟨β,cn,M3,_,z3,h3,fun b M4 H4 x4 h4=>?_⟩⟩
  have jW:=x'.trans (x2.trans (x3.trans x4));cases b with
  |false=>
   dsimp only at h4 ⊢;rw[if_neg gc]at h4 ⊢;exact⟨ds.length - (i+1),by omega,rfl,aD,cn,M4,jW,z3.step x4,h4⟩
  |true=>
   dsimp only at h4 ⊢;rw[if_pos rfl]at h4 ⊢;refine⟨β,cn,M4,_,z3.step x4,h4,fun yd M5 yv H5 x5 r5 h5=>?_⟩
   revert h5
   split
   ·rename_i v;intro h5;exact⟨v,aH r5,ds.length - (i+1),by omega,rfl,aD,cn,M5,jW.trans x5,(z3.step x4).step x5,h5⟩
   ·exact fun h=>h.elim
 ·have e:i=ds.length :=by omega
  subst e;rw[Is]at h';obtain⟨v,ev,h'⟩:=h';exact .inl ⟨qq.2 (bv _),v,ev,q _ _ _ _ (x1.trans x') (.int _) h'⟩
theorem CA {p gi:xp}(hP:P∈Γ.tb) (hr:bX (k+1) X.A) (hc:X.calm=true) (B:aB X.N X.env.scope scope N' tn idx)
  (h0:scope.names.lookup (".0" : cb)=some .local) (iu:scope.isCoroutine=false) (fP:X.env.code=.ref c) (hd:re X.base c P) (eE:∃bm ob,T5 X.base mainGlobals X.mg bm ob)
  (jg:Gl X "max") (hm:X.mg "max" = none) (hi:QI Γ X tg iter zi) (hg:dF X N' scope k fun Y=>QG Γ Y tg g) (ht:dF X N' scope k fun Y=>oQ Γ Y ifs tt) (he:dF X N' scope k fun Y=>QE Γ Y elt te)
  (hs:∀x,genFold iter X.env x=pure x :=by intro _;rfl):QE Γ X (.Call (.Name "max" p) [c9 elt tg iter ifs scope gi] [] pos) (zMaxG tn idx zi g tt te):=(Cz hr hc B h0 iu fP hd eE jg hm hi hg ht he hs).imp fun σ H Q h=>Ko hP h
theorem vT:∀(ns:List Int) (acc:Option Int),(∃m,acc=some m)\/ns≠[]->∃m,ns.foldl ix acc=some m/\(acc=some m\/m∈ns)/\(∀a,acc=some a->a<=m)/\∀x∈ns,x<=m
 | [],acc,h=>by
          rcases h with ⟨m,rfl⟩|h
          ·exact⟨m,rfl,.inl rfl,(fun a e=>by cases e;exact FF _),fun _ h=>nomatch h⟩
          ·exact absurd rfl h
 |x::ns,acc,_=>by
          have e:∃m0,ix acc x=some m0/\(acc=some m0\/m0=x)/\(∀a,acc=some a->a<=m0)/\x<=m0 :=by
           cases acc with
           |none=>exact⟨x,rfl,.inr rfl,(fun a e=>nomatch e),FF _⟩
           |some a=>
            unfold ix;by_cases h:x > a
            ·exact⟨x,if_pos h,.inr rfl,(fun b e=>by cases e;omega),FF _⟩
            ·exact⟨a,if_neg h,.inl rfl,(fun b e=>by cases e;exact FF _),by omega⟩
          obtain⟨m0,e0,e1,e2,e3⟩:=e;obtain⟨m,h1,h2,h3,h4⟩:=vT ns (ix acc x) (.inl ⟨m0,e0⟩);refine⟨m,h1,?_,fun a ea=>Int.le_trans (e2 a ea) (h3 m0 e0),fun y hy=>?_⟩
          ·rcases h2 with h2|h2
           ·rw[e0]at h2;cases h2;rcases e1 with e1|rfl
            ·exact .inl e1
            ·exact .inr f8
           ·exact .inr (ci _ h2)
          ·rcases l7.mp hy with rfl|hy
           ·exact Int.le_trans e3 (h3 m0 e0)
           ·exact h4 y hy
theorem zmaxl_of {g:bS}{te:aG}(f:Dv->Int) (I:av->Mh->Prop):∀{ds:List Dv}{τ:av}{M:Mh}{acc:Option Int}{Q:Option Int->Mh->Prop},I τ M->
  (∀d∈ds,∀τ M,I τ M->∀R:av->ZK,(∀aj M2,I aj M2->R aj (.int (f d)) M2)->g d τ M fun aj M2=>te aj M2 (R aj))->(∀τ M,I τ M->Q ((ds.map f).foldl ix acc) M)->zMaxGL g zNoIf te ds τ M acc Q
 | [],τ,M,acc,Q,i,_,q=>q τ M i
 |d::ds,τ,M,acc,Q,i,h,q=>by
          refine h d f8 τ M i (fun aj y M4=>match y with | .int v=>zMaxGL g zNoIf te ds aj M4 (ix acc v) Q|_=>False) fun aj M2 i2=>?_
          exact zmaxl_of f I i2 (fun d' hd=>h d' (ci _ hd)) fun iw M3 i3=>q iw M3 i3
end
end L2
namespace L2
open PySem PySem.Spec PySem.W PyProof.Rows
theorem G8 {P:i4}{w:i8}{h:kt}{a:al}(e:h.get? a=some (fF w)):iz (intKind P w) h a []:=
 ⟨_,#[],0,_,e,⟨rfl,rfl,rfl⟩,rfl,by simp,by simp,zk 0 0,.inl rfl,by show 0 * 5<7 * 3;decide⟩
section
variable {X:Cx}
theorem zL {pins:List (al×lp)}{σ:St}{H2:Hp}{s2:ar}{e tg iter:hX}{ifs:List hX}{scope:xy}{N':List cb}{tn:Nat}{idx:List Nat}{g:TG}{tt:TT}{tb:al->TB}{body:ap->OR->TQ Unit}{it:al}{fp:List al}{bp:Nat->kt->Prop}{J:It}
  {cl:List (cb×al)} {E:ap->ar->Prop} {RR:ap->al->TR->ar->Prop} {Q:VK} {mk:TQ ap} {O0:al->HO} {o0:lp}
  (IQ:∀(Q:ap->ar->Prop),Q (.ref s2.heap.objs.size) {s2 with heap:=s2.heap.push o0}->wpAny (model X.prog X.w) X.A mk Q E s2) (pV:o0.isFreed=false)
  (uC:∀(H:Hp) (h1:kt),h1.get? s2.heap.objs.size=some o0->bz X.prog X.w H h1 s2.heap.objs.size (O0 s2.heap.objs.size))
  (hc:X.calm=true) (B:aB X.N X.env.scope scope N' tn idx)
  (hC:∀(D:al),Blk X N' scope fun Y=>uA Y e tg iter ifs 0 (.ref D) (body (.ref D) Y.env))
  (hg:Blk X N' scope fun Y=>PG Y tg g) (ht:Blk X N' scope fun Y=>gv Y ifs tt) (hb:∀D,Blk X N' scope fun Y=>PB Y (body (.ref D) Y.env) (tb D))
  (I:Inv X pins σ H2 s2) (T:Turn X.prog X.w X.K tg J fp it bp) (st:bp 0 s2.heap) (f2:∀b∈fp,cF X pins H2 b)
  (dS:∀n c,cl.lookup n=some c->X.env.cells.lookup n=some c) (fA:∀n,(n,xL)∈scope.names->∃c,cl.lookup n=some c)
  (hq:∀D,H2 D=none->∃W:Nat->Nat->St->Hp->Prop,(∃m,W 0 m (bc tn idx σ) (upd H2 D (O0 D)))/\lB J g tt (tb D) (fun _ H'=>Q (.ref D) H') W)
  (uD:∀D C m s' H',Inv X pins σ H' s'->cF X pins H' C->s'.heap.Ns C m->Q (.ref D) H'->RR (.ref D) C (.ok .next) s') :
  wpAny (model X.prog X.w) X.A mk (fun acc o4=>wpAny (model X.prog X.w) X.A (newFunctionEnv scope X.env.globals cl [] X.env.qual none .none (some X.env)) (fun jI o5=>
   codeAny (model X.prog X.w) X.A (.compStart e 0 (.ref it) acc {jI with scope:=relabel scope X.env}) (RR acc jI.locals) o5) E o4) E s2 :=by
 obtain⟨b1,b2,b3,b4⟩:=id B;refine IQ _ (Uw (fun y hy=>(b2 y hy).1) (by intro y hy;simp at hy) (fun fB fD dM=>?_) b1)
 dsimp only at fD dM ⊢;generalize hG:s2.heap.push o0=G at fD dM ⊢
 have uE:G.objs.size=s2.heap.objs.size+1 :=by rw[<- hG,B0]
 have sC:s2.heap.objs.size≠G.objs.size :=by rw[uE];exact lf (AL _)
 have jJ:s2.heap.objs.size<=G.objs.size :=by rw[uE];exact AN _
 have below:∀b,b<s2.heap.objs.size->b≠G.objs.size:=fun b hb=>by rw[uE];exact lf (wS hb)
 have old:∀b o,s2.heap.get? b=some o->fB.get? b=some o:=fun b o e=>dM.extBut b o (below b (ii e)) (bi _ (hG▸bi _ e))
 have A1:fB.get? s2.heap.objs.size=some o0:=dM.extBut _ _ sC (bi _ (hG▸io _ pV));have sD:H2 s2.heap.objs.size=none:=I.hok.fresh (bv _);have uz:upd H2 s2.heap.objs.size (O0 s2.heap.objs.size) G.objs.size=none :=by rw[aq (Co sC)];exact I.hok.fresh jJ
 have uF:dI X.prog X.w (upd H2 s2.heap.objs.size (O0 s2.heap.objs.size)) fB:=I.hok.laid old (bv _) (uC _ _ A1);have jK:∀b∈fp,b<s2.heap.objs.size:=fun b hb=>let ⟨o,e,_⟩:=T.obj _ _ st b hb;ii e
 obtain⟨W,⟨m0,w0⟩,turn⟩:=hq s2.heap.objs.size sD;have I1:Inv (my X N' scope cl G.objs.size s2 H2 fp) [] (bc tn idx σ) (upd H2 s2.heap.objs.size (O0 s2.heap.objs.size)) {s2 with heap:=fB,toks:=s2.toks+([]:List (cb×ap)).length}:=by
  refine kj (g':=s2.gens) (m0:=fun x=>([]:List (cb×ap)).reverse.lookup x) I b1 rfl rfl dS (fun x hx=>?_) (fun z=>I.ok.hd z) I.ok.frames (.inl rfl) jJ f2 jK (Un.laid old (bv _) sD) uF uz old fD (fun i x v e1 e2 e3=>?_) (B.len σ) I.bare.self
  ·have d6:(relabel scope X.env).names.lookup x=some .cell\/(relabel scope X.env).names.lookup x=some .free:=hx;rw[d7]at d6;cases q:scope.names.lookup x with
   |none=>rw[q]at d6;rcases d6 with z|z<;>cases z
   |some k0=>
    have hm:=u7 q;rw[q]at d6;by_cases hk:k0=.free
    ·subst hk;exact fA x hm
    ·have nk:(k0==xL)=false :=by simpa using hk
     have nc:=(b2 _ hm).1;simp only[Cf,nk,OL,db,if_false]at d6;rcases d6 with z|z
     ·exact absurd (kw z) nc
     ·exact absurd (kw z) hk
  ·obtain⟨fr,j,e4,e5⟩:=B.at e1 e2;have kx:=(b2 _ (u7 fr)).2.2 rfl;refine⟨?_,.inr kx,kx,j,e4,e5⟩;show (relabel scope X.env).names.lookup x=some .cell\/(relabel scope X.env).names.lookup x=some .free;rw[d7,fr];simp only[Cf];split
   ·exact .inl rfl
   ·exact .inr rfl
 have stat:∀b∈fp,cF (my X N' scope cl G.objs.size s2 H2 fp) [] (upd H2 s2.heap.objs.size (O0 s2.heap.objs.size)) b:=fun b hb=>by
  refine⟨by rw[aq (lf (jK b hb))];exact(f2 b hb).1,below b (jK b hb),fun z=>?_,.inl hb,fun x c e=>(f2 b hb).2.2.2.2.1 x c (dS x c e),fun p hp=>absurd (show p∈([]:List (al×lp)) from hp) (by simp)⟩
  rcases l7.mp (I.g9 b z) with q|q
  ·exact(f2 b hb).2.1 q
  ·exact(f2 b hb).2.2.1 q
 have sE:bp 0 fB:=T.keep _ _ _ st fun b _ o e=>old b o e
 refine lC (Y:=my X N' scope cl G.objs.size s2 H2 fp) (hC _ cl G.objs.size s2 H2 fp) T sE (mS (Y:=my X N' scope cl G.objs.size s2 H2 fp) hc (fun _ _ z=>z) (hC _ cl G.objs.size s2 H2 fp) (hg cl G.objs.size s2 H2 fp) (ht cl G.objs.size s2 H2 fp) (hb _ cl G.objs.size s2 H2 fp) T turn I1 sE stat w0 fun aU H' s' I4 qn=>?_)
 have J2:Inv X pins σ H' s':=I.pM I4.os I4.base I4.hok I4.bare fun b hb=>⟨(f2 b hb).2.2.2.1,(f2 b hb).2.1,(f2 b hb).2.2.2.2.1,(f2 b hb).2.2.2.2.2⟩
 obtain⟨mm,hm,_⟩:=I4.loc;exact uD _ _ mm s' H' J2 (I.mL jJ I4.free) hm qn
def vU (P:i4) (w:i8) (D:al) (te:TE):TB:=fun τ H Q=>te τ H fun y H4=>∃b aK k,y=.ref b/\H4 D=some (iZ P w D aK)/\H4 b=some (.tup (k.map V.int))/\(∀q∈aK,TupAt H4 q)/\aK.length<9/\Q τ (upd H4 D (iZ P w D (lW aK k (.ref b))))
theorem EG {Y:Cx}{elt:hX}{te:TE}{D:al}(hp:Y.prog=X.prog) (hw:Y.w=X.w) (hu:Y.A.units+64<cLine) (h:PE Y elt te):PB Y (eval elt Y.env>>=fun v=>standAt elt.pos>>=fun _=>call (.builtin "set.add") [.ref D,v]>>=fun _=>pure ()) (vU X.prog X.w D te) :=by
 intro pins s τ H Q I q;refine ag (l8 (h pins s τ H _ I q) (fun yv s8 ⟨y,H8,I8,r8,q8⟩=>?_) fun _ _ z=>z)
 obtain⟨b,aK,k,rfl,hD,hb,hk,hl,w8⟩:=q8;cases r8;rw[<- hp,<- hw]at hD w8;refine ag (BY (ag (l8 (Ct (Q:=fun v H9=>H9=upd H8 D (iZ Y.prog Y.w D (lW aK k (.ref b)))) I8 hu hD hb hk hl rfl) (fun rv s9 ⟨v9,H9,I9,_,e9⟩=>?_) fun _ _ z=>z)))
 subst e9;exact ba ⟨τ,_,I9,w8⟩
variable {tg elt iter:hX}{ifs:List hX}{scope:xy}{pos:xp}{N':List cb}{tn:Nat}{idx:List Nat}{wi:TI}{g:TG}{tt:TT}{te:TE}
def yu (X:Cx) (tn:Nat) (idx:List Nat) (wi:TI) (g:TG) (tt:TT) (te:TE):TE:=fun σ H Q=>wi σ H fun J H1=>∀D,H1 D=none->∃W:Nat->Nat->St->Hp->Prop,(∃m,W 0 m (bc tn idx σ) (upd H1 D (iZ X.prog X.w D [])))/\lB J g tt (vU X.prog X.w D te) (fun _ H'=>Q (.ref D) H') W
theorem wM (hu:X.A.units+64<cLine) (hc:X.calm=true) (B:aB X.N X.env.scope scope N' tn idx) (hi:PI X tg iter wi)
  (hg:Blk X N' scope fun Y=>PG Y tg g) (ht:Blk X N' scope fun Y=>gv Y ifs tt) (he:Blk X N' scope fun Y=>PE Y elt te)
  (hs:∀x,foldedSetIterable iter X.env x=pure x :=by intro _;rfl):PE X (.SetComp elt [⟨tg,iter,ifs,0⟩] scope pos) (yu X tn idx wi g tt te) :=by
 refine⟨?_⟩;intro pins s σ H Q I h;obtain⟨cl,jo,dS,fA⟩:=hU (scope:=scope) (env:=X.env) fun n hn=>I.ok.has n ((B.2.1 _ hn).2.2 rfl)
 rw[arm_eval_SetComp];refine Pe (use:=none) rfl hs jo B.1 (fun y hy=>(B.2.1 y hy).2.1) (l8 (hi pins s σ H _ I h) (fun xv s1 h1=>l8 h1 (fun uf s2 h2=>?_) fun _ _ z=>z) fun _ _ z=>z)
 obtain⟨it,fp,bp,J,H2,e,I2,T,mM,f2,q2⟩:=h2;subst e;refine zL (RR:=fun acc C=>compPost (model X.prog X.w) X.A X.xe none (EP X pins σ Q) acc C) (body:=fun acc env=>eval elt env>>=fun v=>standAt elt.pos>>=fun _=>call (.builtin "set.add") [acc,v]>>=fun _=>pure ()) (tb:=fun D=>vU X.prog X.w D te) (O0:=fun D=>iZ X.prog X.w D []) (o0:=fF X.w)
  (fun Q q=>xT q) rfl (fun H h1 hd=>Cp (G8 hd)) hc B (fun D cl C s H fp=>⟨fun _=>rfl,fun _ _ _ _ h=>h,fun _=>uV ..,fun _ _ _ _ h=>h,rfl⟩) hg ht (fun D cl C s H fp=>EG (X:=X) rfl rfl hu (he cl C s H fp))
  I2 T mM f2 dS fA q2 fun D C m s' H' J2 fC hm q=>?_
 exact⟨m,hm,fun h' jf=>⟨.ref D,H',fC.turn J2 jf,rfl,q⟩⟩
end
def ox (g:bS) (tt:cq) (te:aG):List Dv->List (List Int)->av->Mh->(List (List Int)->Mh->Prop)->Prop
 | [],ks,_,M,Q=>Q ks M
 |d::ds,ks,τ,M,Q=>g d τ M fun aj M2=>tt aj M2 fun b M3=>if b=true then te aj M3 fun y M4=>∃k,y=eI k/\ks.length<9/\ox g tt te ds (jZ ks k) aj M4 Q else ox g tt te ds ks aj M3 Q
def zSetTC (tn:Nat) (idx:List Nat) (zi:eY) (g:bS) (tt:cq) (te:aG):aG:=fun ρ M Q=>zi ρ M fun ds M1=>ox g tt te ds [] (zBlock tn idx ρ) M1 fun ks M2=>∀a,M2 a=none->Q (.ptr a) (aA M2 a (Cr ks))
theorem CB {g:bS}{te:aG}(I:Nat->List (List Int)->av->Mh->Prop):∀{ds:List Dv}{i:Nat}{ks:List (List Int)}{τ:av}{M:Mh}{Q:List (List Int)->Mh->Prop},I i ks τ M->
  (∀j d ks τ M,ds[j]?=some d->I (i+j) ks τ M->∀R:List (List Int)->av->Mh->Prop,(∀nE aj M2,I (i+j+1) nE aj M2->R nE aj M2)->g d τ M fun aj M2=>te aj M2 fun y M4=>∃k,y=eI k/\ks.length<9/\R (jZ ks k) aj M4)->
  (∀ks τ M,I (i+ds.length) ks τ M->Q ks M)->ox g zNoIf te ds ks τ M Q
 | [],i,ks,τ,M,Q,h,_,q=>q ks τ M h
 |d::ds,i,ks,τ,M,Q,h,hs,q=>by
          refine hs 0 d ks τ M rfl h (fun nE aj M2=>ox g zNoIf te ds nE aj M2 Q) fun nE aj M2 h2=>?_
          refine CB I (i:=i+1) h2 (fun j d ks τ M hd hI R hR=>hs (j+1) d ks τ M hd (by rw[show i+(j+1)=i+1+j by omega];exact hI) R fun nE aj M2 h3=>hR nE aj M2 (by rw[show i+1+j+1=i+(j+1)+1 by omega];exact h3)) fun ks τ M h3=>q ks τ M (by rw[Cn,show i+(ds.length+1)=i+1+ds.length by omega];exact h3)
structure j4 (Γ:Gz) (β:Bz) (D:al) (M1:Mh) (H1:Hp) (aU:av) (M:Mh) (τ:St) (H:Hp) (ks:List (List Int)) (acc:List V):Prop where
 ey:Ey M1 H1 M H
 m:M D=none
 zr:Zr Γ (β.add D) M aU τ H
 at':H D=some (iZ β.P β.w D (ks.zip acc))
 hk:ks.length=acc.length
 rs:aM (β.add D) M H acc (ks.map eI)
 h1:H1 D=none
 h0:Γ.H0 D=none
 nt:D ∉ β.tb
section
variable {Γ:Gz}{β:Bz}{D:al}{M1 M M2:Mh}{H1 H H2:Hp}{aU rL:av}{τ aj:St}{ks:List (List Int)}{acc:List V}
theorem j4.start (zr:Zr Γ β M1 aU τ H1) (hD:H1 D=none):j4 Γ β D M1 H1 aU M1 τ (upd H1 D (iZ β.P β.w D [])) [] []:=
 ⟨Ey.refl.over hD,zr.mz.free hD,zr.enter hD rfl,aL,rfl,.nil,hD,zr.ent.gone hD (by
  cases e:Γ.M0 D with
  |none=>rfl
  |some u=>have:=zr.ent.dom D (by rw[e];rfl);rw[zr.mz.free hD]at this;cases this),zr.mz.Ef hD⟩
theorem j4.step (A:j4 Γ β D M1 H1 aU M τ H ks acc) (x:Ex (β.add D) M H M2 H2) (z:Zr Γ (β.add D) M2 rL aj H2):j4 Γ β D M1 H1 rL M2 aj H2 ks acc:=
 ⟨A.ey.trans x.toEy,x.new D _ A.m A.at',z,x.get A.m A.at' rfl,A.hk,A.rs.ex x,A.h1,A.h0,A.nt⟩
theorem j4.put (A:j4 Γ β D M1 H1 aU M τ H ks acc) {k:List Int}{y:V}(r:Rz (β.add D) M H y (eI k)):∃eF,lW (ks.zip acc) k y=(jZ ks k).zip eF/\j4 Γ β D M1 H1 aU M τ (upd H D (iZ β.P β.w D ((jZ ks k).zip eF))) (jZ ks k) eF :=by
 have hD:D∈(β.add D).hid:=f8;have kf:(ks.zip acc).map (·.1)=ks:=List.map_fst_zip (by have:=A.hk;omega)
 unfold lW jZ;rw[kf];by_cases z:k∈ks
 ·rw[if_pos z,if_pos z];exact⟨acc,rfl,A.ey.over A.h1,A.m,A.zr.over hD rfl A.m A.nt A.h0,aL,A.hk,⟨A.rs.len,fun i v d a b=>(A.rs.at' i v d a b).over hD⟩,A.h1,A.h0,A.nt⟩
 ·rw[if_neg z,if_neg z];have dz:aM (β.add D) M H (acc++[y]) ((ks++[k]).map eI) :=by
   rw[mv];exact A.rs.snoc r
  refine⟨acc++[y],by rw[Vq A.hk];rfl,A.ey.over A.h1,A.m,A.zr.over hD rfl A.m A.nt A.h0,aL,by simp[A.hk],⟨dz.len,fun i v d a b=>(dz.at' i v d a b).over hD⟩,A.h1,A.h0,A.nt⟩
theorem j4.own (A:j4 Γ β D M1 H1 aU M τ H ks acc) (m1:Mz β M1 H1):Ex β M1 H1 (aA M D (Cr ks)) H :=by
 have mz:Mz β (aA M D (Cr ks)) (upd H D (iZ β.P β.w D (ks.zip acc))):=A.zr.mz.Pt A.m (m1.fz A.h1).2 A.nt rfl ⟨acc,aL,A.hk,jY A.rs⟩;rw[Cm A.at']at mz;exact⟨⟨A.ey.keep,fun a h=>by unfold aA;split;rfl;exact A.ey.dom a h,fun a w m e=>by rw[ah (bI e A.h1)];exact A.ey.new a w m e⟩,mz⟩
end
section
variable {Γ:Gz}{X:Cx}{β:Bz}{g:bS}{tt:cq}{te:aG}{zi:eY}{tn:Nat}{idx:List Nat}
theorem G9 (hP:X.prog=Γ.P) (hw:X.w=Γ.w) {σ:St}{H:Hp}{Q:VK}(h:lE Γ (zSetTC tn idx zi g tt te) σ H Q):yu X tn idx (lI Γ zi) (lG Γ g) (lT Γ tt) (lE Γ te) σ H Q :=by
 obtain⟨β,ρ,M,Q',zr,h,q⟩:=h;refine⟨β,ρ,M,_,zr,h,fun ds M1 H1 J x1 it h1 D hD=>?_⟩
 have fI:=zr.step x1;have eo:∀aK,iZ X.prog X.w D aK=iZ β.P β.w D aK:=fun aK=>by rw[hP,hw,zr.eP,zr.ew]
 refine⟨fun i m τ H=>m=ds.length - i/\i<=ds.length/\∃aU M ks acc,j4 Γ β D M1 H1 aU M τ H ks acc/\ox g tt te (ds.drop i) ks aU M fun ks M2=>∀a,M2 a=none->Q' (.ptr a) (aA M2 a (Cr ks)),⟨_,rfl,sB _,_,_,_,_,by rw[eo];exact .start (fI.block tn idx) hD,h1⟩,?_⟩
 rintro i m τ H ⟨rfl,hi,aU,M,ks,acc,A,h⟩;have q2:=it (β.add D) M H (.add A.h1) A.ey A.zr.mz i;by_cases aD:i<ds.length
 ·refine .inr ⟨(q2.1 aD).1,fun x H' y=>?_⟩
  obtain⟨x2,d,hd,rd⟩:=(q2.1 aD).2 x H' y;have e:ds.drop i=d::ds.drop (i+1) :=by
   rw[zn aD];rw[ac aD]at hd;cases hd;rfl
  rw[e]at h;have A2:=A.step x2 (A.zr.step x2);refine⟨β.add D,d,aU,M,_,A2.zr,rd,h,fun cn M3 iw H3 x3 z3 h3=>?_⟩
  have A3:=A2.step x3 z3;refine⟨β.add D,cn,M3,_,z3,h3,fun b M4 H4 x4 h4=>?_⟩
  have A4:=A3.step x4 (z3.step x4);cases b with
  |false=>
   dsimp only at h4 ⊢;rw[if_neg gc]at h4 ⊢;exact⟨ds.length - (i+1),by omega,rfl,aD,cn,M4,ks,acc,A4,h4⟩
  |true=>
   dsimp only at h4 ⊢;rw[if_pos rfl]at h4 ⊢;refine⟨β.add D,cn,M4,_,A4.zr,h4,fun kd M5 kv H5 x5 r5 h5=>?_⟩
   have A5:=A4.step x5 (A4.zr.step x5);obtain⟨k,rfl,hl,h6⟩:=h5;obtain⟨b,us,rfl,_,hb,vR⟩:=dO r5;have:=fJ vR;subst this;have each:∀q∈ks.zip acc,TupAt H5 q:=fun q hq=>by
    obtain⟨i,hi⟩:=u4.mp hq;obtain⟨e1,e2⟩:=IS.mp hi;have:=A5.rs.at' i q.2 (eI q.1) e2 (by rw[ij,e1];rfl)
    obtain⟨c,us,ec,_,hc,vR⟩:=dO this;have:=fJ vR;subst this;exact⟨c,ec,hc⟩
   obtain⟨eF,e4,A6⟩:=A5.put r5;refine⟨b,ks.zip acc,k,rfl,by rw[eo];exact A5.at',hb,each,by rw[List.length_zip];omega,ds.length - (i+1),by omega,rfl,aD,cn,M5,_,eF,?_,h6⟩
   rw[eo,e4];exact A6
 ·have e:i=ds.length :=by omega
  subst e;rw[Is]at h;exact .inl ⟨q2.2 (bv _),q _ _ _ _ (x1.trans (A.own fI.mz)) (.ptr (by rw[updM_same];rfl)) (h D A.m)⟩
variable {tg elt iter:hX}{ifs:List hX}{scope:xy}{pos:xp}{N':List cb}
theorem wN (hP:X.prog=Γ.P) (hw:X.w=Γ.w) (hu:X.A.units+64<cLine) (hc:X.calm=true) (B:aB X.N X.env.scope scope N' tn idx) (hi:QI Γ X tg iter zi)
  (hg:Blk X N' scope fun Y=>QG Γ Y tg g) (ht:Blk X N' scope fun Y=>oQ Γ Y ifs tt) (he:Blk X N' scope fun Y=>QE Γ Y elt te)
  (hs:∀x,foldedSetIterable iter X.env x=pure x :=by intro _;rfl):QE Γ X (.SetComp elt [⟨tg,iter,ifs,0⟩] scope pos) (zSetTC tn idx zi g tt te):=
 (wM hu hc B hi hg ht he hs).imp fun σ H Q h=>G9 hP hw h
end
section
variable {prog:i4}{w:i8}{A:ma}{E:ap->ar->Prop}{s:ar}
theorem tL {x y:List Int}{a b:al}{P:PySem.Fin->ar->Prop}(hx:IsT s.heap x a) (hy:IsT s.heap y b) (h:P (.done (.ret (.bool (HT.lexLt y x)))) s) :
  wpAny (model prog w) A (ut.«tuple.__gt__» ⟨[.ref a,.ref b],[]⟩) P E s :=by
 have J7:=hy.typeIs;obtain⟨oa,xs,na,oM,_,oN,RD⟩:=hx;obtain⟨ob,ys,nb,uC,_,iT,RE⟩:=hy;show wpAny _ _ (isInstance (.ref b) (.type "tuple")>>=_) _ _ s
 refine ag (Ve J7 isSubtype_tuple_tuple ?_);simp only[EM,db,if_false];refine ag (wpAny_tupleItemsOf oM oN ?_);refine ag (wpAny_tupleItemsOf uC iT ?_);refine ag ?_;refine T9 _
  (fun rest r s'=>r.1=none/\s'=s/\∃(x' y':List Int) (CC CD:List ap),rest=List.zip CC CD/\Vals (x'.map V.int) CC/\Vals (y'.map V.int) CD/\HT.lexLt y' x'=HT.lexLt y x/\decide (CD.length<CC.length)=decide (ys.size<xs.size))
  _ ?_ ?_ _ _ ⟨rfl,rfl,x,y,xs.toList,ys.toList,rfl,RD,RE,rfl,by simp⟩
 ·rintro⟨u,v⟩ rest r s' ⟨hr,rfl,x',y',CC,CD,hz,d6,pY,pB,hlen⟩;cases x' with
  |nil=>cases d6;simp at hz
  |cons k1 RG=>
   cases d6 with
   | @cons _ u' _ us h1 Pz=>
   cases y' with
   |nil=>cases pY;simp at hz
   |cons k2 RH=>
    cases pY with
    | @cons _ v' _ ws h2 PD=>
    simp only[List.zip_cons_cons,List.cons.injEq,Prod.mk.injEq]at hz;obtain⟨⟨rfl,rfl⟩,rfl⟩:=hz;obtain⟨t1,rfl⟩:=h1;obtain⟨t2,rfl⟩:=h2;rw[HT.fO]at pB;refine ag (wpAny_eqBool_int ?_);by_cases hk:k1=k2
    ·subst hk;rw[beq_self_eq_true];rw[if_pos rfl]at pB;simp only[EM,db,if_false];exact ba ⟨rfl,rfl,RG,RH,_,_,rfl,Pz,PD,pB,by simpa using hlen⟩
    ·rw[beq_eq_false_iff_ne.mpr hk];rw[if_neg (Co hk)]at pB;simp only[OP,if_true];rw[<- pB]at h;refine ag (GS (ag (richCompare_gives (op:=.Gt) (Tt s' _ t1) (Tt s' _ t2) F.slot_int_gt F.entry_int_gt (F.args_int_gt_2 _ _) (gives_int_gt _ _ t1 t2) (fun x=>nomatch x) ?_)))
     exact ag (ba (ba (ba h)))
 ·rintro⟨r1,r2⟩ s' ⟨hr,rfl,x',y',CC,CD,hz,d6,pY,pB,hlen⟩;simp only at hr;subst hr;refine ba ?_;have PF:decide (ys.size<xs.size)=HT.lexLt y x :=by
   rw[<- pB,<- hlen];cases x' with
   |nil=>
    cases d6;cases y' with
    |nil=>cases pY;rfl
    |cons _ _=>cases pY;rfl
   |cons _ _=>
    cases d6;cases y' with
    |nil=>cases pY;rfl
    |cons _ _=>cases pY;simp at hz
  show P (.done (.ret (.bool (decide (xs.size > ys.size))))) s';rw[PF];exact h
theorem Ha {x y:List Int}{a b:al}{Q:ap->ar->Prop}(hu:A.units<cLine) (hx:IsT s.heap x a) (hy:IsT s.heap y b) (h:Q (.bool (HT.lexLt y x)) s):wpAny (model prog w) A (richCompare .Gt (.ref a) (.ref b)) Q E s:=
 wpAny_richCompare_same_room (op:=.Gt) hx.typeIs hy.typeIs F.slot_tuple_gt (zd F.slot_tuple_gt hx.typeIs F.entry_tuple_gt (tL hx hy ⟨_,rfl,(fun e=>nomatch e),h⟩) (F.args_tuple_gt_2 _ _)) hu
end
section
variable {prog:i4}{w:i8}{A:ma}{R:TR->ar->Prop}{I:al}{fp wr:List al}{n:Nat}{P:Nat->ap->Prop}{St:Nat->kt->Prop}{Kp:ar->Prop}
theorem CF (W:Vz prog w A.in1 I fp wr n P St) (bt:Nat->Nat->Bool) (S:al) (ia:S ∉ fp) (hK:∀s h' tk,Kp s->(∀b o,b ∉ wr->b≠S->s.heap.get? b=some o->h'.get? b=some o)->Kp {s with heap:=h',toks:=tk})
  (EH:∀i j vi vj (s:ar) (Q:ap->ar->Prop) (E:ap->ar->Prop),Kp s->P i vi->P j vj->Q (.bool (bt i j)) s->wpAny (model prog w) A.in1 (richCompare .Gt vi vj) Q E s)
  (hR:∀v (s:ar),P (argBest bt (n - 1)) v->Kp s->R (.ok (.ret v)) s) :
  ∀(k j:Nat) (s:ar) (vb:ap) (c:Nat),n - (j+1)=k->j+1<=n->St (j+1) s.heap->Kp s->P (argBest bt j) vb->s.heap.get? S=some {cls:=.type "list",dict:=none,data:=.seq #[vb,vb] c,slots:=#[]}->
  codeAny (model prog w) A (.builtin "max.loop" ⟨[.ref I,.none,.ref S],[]⟩) R s :=by
 have uQ:S ∉ wr:=fun h=>ia (W.sub _ h)
 have gK:(toString "max" ++ toString ".loop" : String) = "max.loop" := by decide
 intro k;induction k with
 |zero=>
  intro j s vb c hk hj ib kJ FY hS;have iV:j+1=n :=by omega
  refine ww Ud ?_;rw[ss AM _];show wpAny _ A.in1 (seqItems? (.ref S)>>=_) _ _ s;refine ag (LS hS rfl ?_);show wpAny _ A.in1 (tryCatch (pyNext (.ref I)) _>>=_) _ _ s;refine ag (S3 (W.done s _ _ (iV▸ib) fun h' tk gb=>?_))
  have cR:=gb S _ uQ hS;show wpAny _ A.in1 (updateSeq S (fun _=>#[])>>=_) _ _ _
  refine ag (ET cR rfl (ag (Mn (ba ?_))));exact hR vb _ (by rw[<- iV];exact FY) (hK s _ tk kJ fun b o vV CG e=>(mT _ _ (Co CG)).trans (gb b o vV e))
 |succ k ih=>
  intro j s vb c hk hj ib kJ FY hS;have aD:j+1<n :=by omega
  refine ww Ud ?_;rw[ss AM _];show wpAny _ A.in1 (seqItems? (.ref S)>>=_) _ _ s;refine ag (LS hS rfl ?_);show wpAny _ A.in1 (tryCatch (pyNext (.ref I)) _>>=_) _ _ s;refine ag (S3 (W.item (j+1) s _ _ aD ib fun v h' tk hP rB gb=>?_))
  have cR:=gb S _ uQ hS;have EI:Kp {s with heap:=h',toks:=tk}:=hK s _ tk kJ fun b o vV _ e=>gb b o vV e
  show wpAny _ A.in1 (tryCatch (holding [v,v] (richCompare .Gt v vb>>=_)) _>>=_) _ _ _;refine ag (S3 (ul (ag (EH (j+1) (argBest bt j) v vb _ _ _ EI hP FY ?_))));refine ag (ul (wP ?_));refine ag (Mn (ba ?_));cases hb:bt (j+1) (argBest bt j) with
  |true=>
   simp only[if_true];refine ag (ET cR rfl (ag (Mn ?_)));rw[gK];exact ba ⟨wl AM _,ih (j+1) _ v _ (by omega) aD (W.frame _ _ _ rB fun b Kq o e=>(mT _ _ (fun h:S=b=>ia (by rw[h];exact Kq))).trans e) (hK _ _ tk EI fun b o vV CG e=>(mT _ _ (Co CG)).trans e) (by simp only[argBest,hb,if_true];exact hP) (sK _ cR rfl)⟩
  |false=>
   simp only[db,if_false];refine ag (Mn ?_);rw[gK];exact ba ⟨wl AM _,ih (j+1) _ vb c (by omega) aD rB EI (by simp only[argBest,hb,db,if_false];exact FY) cR⟩
theorem zM (W:Vz prog w A.in1 I fp wr n P St) (bt:Nat->Nat->Bool) (S:al) (ia:S ∉ fp) (hK:∀s h' tk,Kp s->(∀b o,b ∉ wr->b≠S->s.heap.get? b=some o->h'.get? b=some o)->Kp {s with heap:=h',toks:=tk})
  (EH:∀i j vi vj (s:ar) (Q:ap->ar->Prop) (E:ap->ar->Prop),Kp s->P i vi->P j vj->Q (.bool (bt i j)) s->wpAny (model prog w) A.in1 (richCompare .Gt vi vj) Q E s)
  (hR:∀v (s:ar),P (argBest bt (n - 1)) v->Kp s->R (.ok (.ret v)) s) (hn:0<n) {s:ar} {c:Nat} (ib:St 0 s.heap) (kJ:Kp s) (hS:s.heap.get? S=some {cls:=.type "list",dict:=none,data:=.seq #[] c,slots:=#[]}) :
  codeAny (model prog w) A (.builtin "max.loop" ⟨[.ref I,.none,.ref S],[]⟩) R s :=by
 have uQ:S ∉ wr:=fun h=>ia (W.sub _ h)
 have gK:(toString "max" ++ toString ".loop" : String) = "max.loop" := by decide
 refine ww Ud ?_;rw[ss AM _];show wpAny _ A.in1 (seqItems? (.ref S)>>=_) _ _ s;refine ag (LS hS rfl ?_);show wpAny _ A.in1 (tryCatch (pyNext (.ref I)) _>>=_) _ _ s;refine ag (S3 (W.item 0 s _ _ hn ib fun v h' tk hP rB gb=>?_))
 have cR:=gb S _ uQ hS;show wpAny _ A.in1 (updateSeq S (fun _=>#[v,v])>>=_) _ _ _
 refine ag (ET cR rfl ?_);rw[gK];exact ba ⟨wl AM _,CF W bt S ia hK EH hR _ 0 _ v _ rfl hn (W.frame _ _ _ rB fun b Kq o e=>(mT _ _ (fun h:S=b=>ia (by rw[h];exact Kq))).trans e) (hK _ _ tk (hK s _ tk kJ fun b o vV _ e=>gb b o vV e) fun b o vV CG e=>(mT _ _ (Co CG)).trans e) hP (sK _ cR rfl)⟩
end
theorem vW (R:Nat->List Int):∀k,argBest (fun i j=>HT.lexLt (R j) (R i)) k<=k/\∀j,j<=k->HT.lexLt (R (argBest (fun i j=>HT.lexLt (R j) (R i)) k)) (R j)=false
 |0=>⟨bv _,fun j hj=>by
          have:j=0 :=by omega
          subst this;exact ll _⟩
 |k+1=>by
          obtain⟨h1,h2⟩:=vW R k;simp only[argBest];by_cases hc:HT.lexLt (R (argBest (fun i j=>HT.lexLt (R j) (R i)) k)) (R (k+1))=true
          ·rw[if_pos hc];refine⟨bv _,fun j hj=>?_⟩
           by_cases e:j=k+1
           ·rw[e];exact ll _
           ·have h3:=h2 j (by omega)
            cases h4:HT.lexLt (R (k+1)) (R j) with
            |false=>rfl
            |true=>rw[iF hc h4]at h3;cases h3
          ·rw[if_neg hc];refine⟨by omega,fun j hj=>?_⟩
           by_cases e:j=k+1
           ·rw[e];exact Bool.eq_false_iff.mpr hc
           ·exact h2 j (by omega)
section
variable {X:Cx}{Γ:Gz}
def MC:List V->Hp->VK->Prop:=fun xs H Q=>∃(p:al) (vs:List V) (rows:List (List Int)),xs=[.ref p]/\H p=some (.lst vs)/\u8 (Kj H) vs rows/\rows≠[]/\∀(i:Nat) (r:List Int) (v:V),rows[i]?=some r->vs[i]?=some v->(∀t∈rows,HT.lexLt r t=false)->Q v H
theorem zN {α β:Type}{R:α->β->Prop}{xs:List α}{ys:List β}(h:u8 R xs ys):xs.length=ys.length :=by
 induction h with
 |nil=>rfl
 |cons _ _ ih=>simp[ih]
theorem CH (hc:X.calm=true) (hu:X.A.units+64<cLine):cw X (.builtin "max") MC :=by
 intro pins s σ H xs us Q I r h;obtain⟨p,vs,rows,rfl,hp,pr,dm,q⟩:=h;obtain⟨u,rfl,rx⟩:=vals1 r;cases rx;have hh:=I.ok.hd hc;obtain⟨z,its,n0,rv,hlen,e⟩:=I.yU hp;have hl:s.heap.IsList p its.toArray:=⟨_,e,rfl,n0,rfl⟩;have dh:=zN pr;have gK:(toString "max" ++ toString ".loop" : String) = "max.loop" := by decide
 refine Sm F.kind_max F.plain_max F.entry_max (F.args_max1 _) ?_;show wpAny _ X.A.in1 (NE "max" ["key","default"] 0 ⟨[],[]⟩>>=_) _ _ s
 refine ag (Vu (show NE "max" ["key","default"] 0 ⟨[],[]⟩=pure [none,none] from rfl) ?_)
 refine ag (ba ?_);refine ag (Tz hl ?_);refine ag (AS ?_);rw[gK];have aD:p<s.heap.objs.size:=ii e;have RJ:p≠s.heap.objs.size:=lf aD;generalize hG:s.heap.push {cls:=.type "list_iterator",data:=.fields #[.ref p,.int 0 0]}=G
 have Ob:G.objs.size=s.heap.objs.size+1 :=by rw[<- hG,B0]
 have old:∀b o,s.heap.get? b=some o->G.get? b=some o:=fun b o e=>hG▸bi _ e
 have Kr:∀b o,s.heap.get? b=some o->(G.push {cls:=.type "list",data:=.seq #[]}).get? b=some o:=fun b o e=>bi _ (old b o e)
 have hit:(G.push {cls:=.type "list",data:=.seq #[]}).IsListIter s.heap.objs.size p 0:=⟨_,bi _ (hG▸io _ rfl),rfl,rfl⟩
 have SR:its.toArray.size=rows.length :=by rw[dL,<- hlen,dh]
 refine ba ⟨wl AM _,zM (Kp:=fun s1=>(∀b o,s.heap.get? b=some o->s1.heap.get? b=some o)/\s1.gens=s.gens/\s1.drawn=s.drawn/\s1.os=s.os) (Vz.list (A:=X.A.in1) hh s.heap.objs.size p RJ its.toArray) (fun i j=>HT.lexLt (rows.getD j []) (rows.getD i [])) G.objs.size ?_ (fun s2 h' tk k1 k2=>⟨fun b o e=>?_,k1.2⟩) (fun i j vi vj s1 Q1 E1 hk hi hj q1=>?_) (fun v s1 hv hk=>?_) ?_ ⟨hit,_,Kr _ _ e,rfl,n0,rfl⟩ ⟨Kr,rfl,rfl,rfl⟩ (io _ rfl)⟩
 ·intro hm;simp only[l7,Fa,or_false]at hm;rcases hm with h|h
  ·have h:G.objs.size=s.heap.objs.size:=h;omega
  ·have h:G.objs.size=p:=h;have h3:=aD;rw[<- h,Ob]at h3;exact absurd h3 (Va.mpr (AN _))
 ·have hb:=ii e;refine k2 b o (fun hm=>?_) (fun h=>?_) (k1.1 b o e)
  ·rw[lw.mp hm]at hb;exact Fk _ hb
  ·have h:b=G.objs.size:=h;rw[h,Ob]at hb;exact absurd hb (Va.mpr (AN _))
 ·have row:∀(i:Nat) (v:ap),its.toArray[i]?=some v->∃b,v=.ref b/\IsT s1.heap (rows.getD i []) b:=fun i v hv=>by
   have CI:its[i]?=some v :=by rw[<- EU]at hv;exact hv
   have k9:=(cr.mp CI).1;have CJ:i<vs.length :=by omega
   have Oc:i<rows.length :=by omega
   obtain⟨u,nu,ru⟩:=rv.get (ac CJ);rw[CI]at nu;cases nu;obtain⟨r',Od,b,eb,hb⟩:=nT pr (ac CJ);rw[ac Oc]at Od;cases Od;rw[eb]at ru;cases ru;obtain⟨o,items,n,e1,e2,e3,e4⟩:=Kk I hb;have er:rows.getD i []=rows[i] :=by rw[ca,ac Oc];rfl
   rw[er];exact⟨b,rfl,o,items,n,hk.1 _ _ e1,e2,e3,e4⟩
  obtain⟨b1,rfl,t1⟩:=row i vi hi;obtain⟨b2,rfl,t2⟩:=row j vj hj;exact Ha (by show X.A.units+_<_;omega) t1 t2 q1
 ·obtain⟨c1,c2⟩:=vW (fun i=>rows.getD i []) (its.toArray.size - 1)
  have Cu:0<rows.length:=List.length_pos_iff.mpr dm;have CI:its[argBest (fun i j=>HT.lexLt (rows.getD j []) (rows.getD i [])) (its.toArray.size - 1)]?=some v :=by rw[<- EU]at hv;exact hv
  have hb:argBest (fun i j=>HT.lexLt (rows.getD j []) (rows.getD i [])) (its.toArray.size - 1)<rows.length :=by omega
  generalize argBest (fun i j=>HT.lexLt (rows.getD j []) (rows.getD i [])) (its.toArray.size - 1)=B at CI hb c2
  have gD:∀{k},(h:k<rows.length)->rows.getD k []=rows[k]:=fun {k} h=>by rw[ca,ac h];rfl
  have CJ:B<vs.length :=by omega
  obtain⟨u,nu,ru⟩:=rv.get (ac CJ);rw[CI]at nu;cases nu;have I1:=I.kept (t':=s1.toks) hk.1;have e1:({s with heap:=s1.heap,toks:=s1.toks}:ar)=s1 :=by obtain⟨h1,g1,d1,k1,o1⟩:=s1;obtain⟨_,q1,q2,q3⟩:=hk;cases q1;cases q2;cases q3;rfl
  rw[e1]at I1;refine⟨vs[B],H,I1,ru,?_⟩;refine q B rows[B] vs[B] (ac hb) (ac CJ) fun t ht=>?_
  obtain⟨k,Ks,rfl⟩:=List.getElem_of_mem ht;have:=c2 k (by omega)
  rw[gD hb,gD Ks]at this;exact this
 ·have:=List.length_pos_iff.mpr dm;omega
def zMaxT (d:Dv) (M:Mh) (Q:ZK):Prop:=∃rows:List (List Int),d=.lst (rows.map eI)/\rows≠[]/\∀r∈rows,(∀t∈rows,HT.lexLt r t=false)->Q (eI r) M
theorem Kt (hc:X.calm=true) (hu:X.A.units+64<cLine):eJ Γ X (.builtin "max") (z1 zMaxT):=⟨_,CH hc hu,fun β xs ds M H Q Q' _ _ _ m rs z q=>by
 unfold z1 at z;split at z
 ·rename_i d;obtain⟨x,rfl,r⟩:=cX rs;obtain⟨rows,rfl,dm,z⟩:=z;obtain⟨a,vs,rfl,_,ha,dz⟩:=gX r;refine⟨a,vs,rows,rfl,ha,vQ dz,dm,fun i r v h1 h2 h3=>?_⟩
  have:=dz.at' i v (eI r) h2 (by rw[ij,h1];rfl)
  exact q _ _ _ _ (.refl m) this (z r (gl h1) h3)
 ·exact z.elim⟩
def zSortTSP (d:Dv) (M:Mh) (Q:ZK):Prop:=∃a ks,d=.ptr a/\M a=some (Cr ks)/\ks.length<64/\(∀r∈ks,r≠[])/\∀l,M l=none->Q (.ptr l) (aA M l (.lst ((gJ ks).map eI)))
theorem CK (hP:X.prog=Γ.P) (hw:X.w=Γ.w) (hc:X.calm=true):eJ Γ X (.builtin "sorted") (z1 zSortTSP):=⟨_,wL hc,fun β xs ds M H Q Q' eP ew _ m rs z q=>by
 unfold z1 at z;split at z
 ·rename_i d;obtain⟨x,rfl,r⟩:=cX rs;obtain⟨a,ks,rfl,hM,jQ,dm,hq⟩:=z;obtain⟨rfl,hs⟩:=cS r;obtain⟨vs,hv,Oe,dz⟩:=m.obj a _ hM;have kf:(ks.zip vs).map (·.1)=ks:=List.map_fst_zip (by omega)
  have each:∀q∈ks.zip vs,Rz β M H q.2 (eI q.1):=fun q hq=>by
   obtain⟨i,hi⟩:=u4.mp hq;obtain⟨e1,e2⟩:=IS.mp hi;exact dz.at' i q.2 (eI q.1) e2 (by rw[ij,e1];rfl)
  refine⟨a,ks.zip vs,rfl,by rw[hP,hw,<- eP,<- ew];exact hv,fun q hq=>⟨?_,?_⟩,by rw[List.length_zip];omega,fun l pA hl pd jf=>?_⟩
  ·obtain⟨c,us,ec,_,hc,vR⟩:=dO (each q hq);have:=fJ vR;subst this;exact⟨c,ec,hc⟩
  ·exact dm _ (by rw[<- kf];exact ff.mpr ⟨q,hq,rfl⟩)
  ·rw[kf]at jf;have rk:aM β M H (pA.map (·.2)) ((pA.map (·.1)).map eI) :=by
    clear jf
    induction pA with
    |nil=>exact .nil
    |cons z l ih=>exact .cons (each z (pd z f8)) (ih fun y hy=>pd y (ci _ hy))
   rw[jf]at rk;have x2:=Ex.own m (p:=l) (.inr hl) rk;exact q _ _ _ _ x2 (.ptr (by rw[updM_same];rfl)) (hq l (m.free hl))
 ·exact z.elim⟩
end
end L2
open PySem L2 PyProof.Rows
local macro_rules | `(tactic| simp! only[$xs,*] $[$l]?)=>`(tactic| simp only[zVar,zC,zOp,zII,zIC,zEq,zNe,scalZ,zIsN,isNonD,zSS,zTest,zBool,zChain,zOr,zNot,zAndV,zNotV,zIfE,zNil,zCons,zTup,zLst,zLstP,zCB,z1,zLenD,z2I,zAbs,zListP,zTuple,zSorted,zSet,intsM,itemsM,zIsInst,isD,zBM,tyZ,zAppend,zPop,zPopAt,zIndexS,zSetI,zgSub,zNext,zSeq,zDrop,zRet,zIfS,zgName,zAsg,zFor,zForM,zComp,zCompP,zAll,zSetC,zBlock,zCall,zRaise,zstart,zEndsOf,ziTup,ziLst,ziRng1,ziRng2,zoNone,zoSome,zSl,zSlS,zIx,zRangeL,zRangeP,zNeg,zNoIf,zInI,zAllB,zIxS,boolsD,zRepP,zSortT,zAny,zMaxG,zSetTC,zMaxT,zSortTSP,PP,BN,r6,Tn,ES,Ue,Cn,KM,wp,Td,Tq,Tr,S7,U0,U1,Vh,S4,if_true,if_false,db,EM,OP,true_and,and_true,beq_self_eq_true,Uf,zLoop,br,NJ,updM_same,updM_updM,EQ,GM,BB,rangeD_len,pairsD_len,numD_len,S2,atI_zero,decide_true,decide_false,Ug,bne_self_eq_false,$xs,*] $[$l]?)
local macro_rules | `(tactic| dsimp! only[$xs,*] $[$l]?)=>`(tactic| simp only[zVar,zC,zOp,zII,zIC,zEq,zNe,scalZ,zIsN,isNonD,zSS,zTest,zBool,zChain,zOr,zNot,zAndV,zNotV,zIfE,zNil,zCons,zTup,zLst,zLstP,zCB,z1,zLenD,z2I,zAbs,zListP,zTuple,zSorted,zSet,intsM,itemsM,zIsInst,isD,zBM,tyZ,zAppend,zPop,zPopAt,zIndexS,zSetI,zgSub,zNext,zSeq,zDrop,zRet,zIfS,zgName,zAsg,zFor,zForM,zComp,zCompP,zAll,zSetC,zBlock,zCall,zRaise,zstart,zEndsOf,ziTup,ziLst,ziRng1,ziRng2,zoNone,zoSome,zSl,zSlS,zIx,zRangeL,zRangeP,zNeg,zNoIf,zInI,zAllB,zIxS,boolsD,zRepP,zSortT,zAny,zMaxG,zSetTC,zMaxT,zSortTSP,PP,BN,r6,Tn,ES,Ue,Cn,KM,wp,Td,Tq,Tr,S7,U0,U1,Vh,S4,if_true,if_false,db,EM,OP,true_and,and_true,beq_self_eq_true,Uf,br,NJ,updM_same,updM_updM,EQ,GM,BB,rangeD_len,pairsD_len,numD_len,S2,atI_zero,decide_true,decide_false,Ug,bne_self_eq_false,$xs,*] $[$l]?)
namespace My
open PySem L2 PyProof.Rows
def top (i:Nat):tz:=PySem.Challenge.pw_roadcall_k47_top_pairs.main.body.getD i (.Pass ⟨0,0,0,0⟩)
abbrev fT:tz:=top 5
abbrev dB:tz:=top 6
abbrev j5:tz:=top 10
abbrev j6:tz:=top 11
abbrev ik:tz:=top 12
abbrev jw:tz:=top 13
abbrev kM:tz:=top 14
abbrev iN:tz:=top 15
abbrev jx:tz:=top 17
abbrev il:tz:=top 19
abbrev e7:tz:=top 20
abbrev iO:tz:=top 21
abbrev oy:tz:=top 22
abbrev dn:tz:=top 23
abbrev jy:tz:=top 25
abbrev fc:tz:=top 26
abbrev fL:tz:=top 27
abbrev eQ:tz:=top 28
abbrev gL:tz:=top 29
abbrev dq:tz:=top 30
abbrev ip:tz:=top 31
abbrev dR:tz:=top 32
abbrev fe:tz:=top 33
abbrev fg:tz:=top 34
abbrev t4:tz:=top 35
end My
local macro_rules | `(tactic| simp! only[$xs,*] $[$l]?)=>`(tactic| simp only[zVar,zC,zOp,zII,zIC,zEq,zNe,scalZ,zSS,zTest,zBool,zChain,zOr,zNot,zAndV,zNotV,zIfE,zNil,zCons,zTup,zLst,zLstP,zCB,z1,zLenD,z2I,zAbs,zListP,zTuple,zSorted,zSet,intsM,itemsM,zIsInst,isD,zBM,tyZ,zAppend,zPopAt,zIndexS,zSetI,zgSub,zNext,zSeq,zDrop,zRet,zIfS,zgName,zAsg,zFor,zForM,zComp,zCompP,zAll,zSetC,zBlock,zCall,zRaise,zstart,zEndsOf,ziTup,ziLst,ziRng1,ziRng2,zoNone,zoSome,zSl,zSlS,zIx,zRangeL,zRangeP,zNeg,zNoIf,zInI,zAllB,zIxS,boolsD,zRepP,zSortT,zAny,zMaxG,zSetTC,zMaxT,zSortTSP,PP,BN,r6,Tn,ES,Ue,Cn,KM,wp,Td,Tq,Tr,S7,U0,U1,Vh,S4,if_true,if_false,db,EM,OP,true_and,and_true,beq_self_eq_true,Uf,zLoop,br,NJ,updM_same,updM_updM,EQ,GM,BB,rangeD_len,pairsD_len,numD_len,S2,atI_zero,decide_true,decide_false,Ug,bne_self_eq_false,$xs,*] $[$l]?)
local macro_rules | `(tactic| dsimp! only[$xs,*] $[$l]?)=>`(tactic| simp only[zVar,zC,zOp,zII,zIC,zEq,zNe,scalZ,zSS,zTest,zBool,zChain,zOr,zNot,zAndV,zNotV,zIfE,zNil,zCons,zTup,zLst,zLstP,zCB,z1,zLenD,z2I,zAbs,zListP,zTuple,zSorted,zSet,intsM,itemsM,zIsInst,isD,zBM,tyZ,zAppend,zPopAt,zIndexS,zSetI,zgSub,zNext,zSeq,zDrop,zRet,zIfS,zgName,zAsg,zFor,zForM,zComp,zCompP,zAll,zSetC,zBlock,zCall,zRaise,zstart,zEndsOf,ziTup,ziLst,ziRng1,ziRng2,zoNone,zoSome,zSl,zSlS,zIx,zRangeL,zRangeP,zNeg,zNoIf,zInI,zAllB,zIxS,boolsD,zRepP,zSortT,zAny,zMaxG,zSetTC,zMaxT,zSortTSP,PP,BN,r6,Tn,ES,Ue,Cn,KM,wp,Td,Tq,Tr,S7,U0,U1,Vh,S4,if_true,if_false,db,EM,OP,true_and,and_true,beq_self_eq_true,Uf,br,NJ,updM_same,updM_updM,EQ,GM,BB,rangeD_len,pairsD_len,numD_len,S2,atI_zero,decide_true,decide_false,Ug,bne_self_eq_false,$xs,*] $[$l]?)
namespace My
open PySem L2 PyProof.Rows
section
variable {P:i4}{w:i8}{K:bn}{mg:cb->Option ap}{base:kt}{tb:dy}{k:Nat}{f:al}{fd:mo}{ps:List cb}
theorem dX:aO ["_law_script","_law_at","_law_cell","_law_mix","_law_k"] ["_law_script","_law_at"] (ai jy):=⟨rfl,rfl,rfl,by decide +kernel,rfl,by decide +kernel,by decide +kernel⟩
theorem eA:aO ["_law_bag_here","_law_many","_law_digit","_law_number_here","_law_room"] ["_law_bag_here","_law_many"] (ai fc):=⟨rfl,rfl,rfl,by decide +kernel,rfl,by decide +kernel,by decide +kernel⟩
theorem gM:aO ["_law_bag_here","_law_many","_law_rest","_law_found","_law_k"] ["_law_bag_here","_law_many"] (ai fL):=⟨rfl,rfl,rfl,by decide +kernel,rfl,by decide +kernel,by decide +kernel⟩
theorem bw:aO ["_law_bag_here","_law_most","_law_many","_law_fans","_law_kind","_law_lap","_law_order_here","_law_rows","_law_k","_law_goals","_law_fan"] ["_law_bag_here","_law_most"] (ai eQ):=⟨rfl,rfl,rfl,by decide +kernel,rfl,by decide +kernel,by decide +kernel⟩
def Ku:dA:=fun ds M Q _=>∃(ns:List Int) (t:Int),ds=[.bC ns,.int t]/\ns.length<=63/\0<=t/\t<=63/\∀b,M b=none->Q (.ptr b) (aA M b .cJ)
def FZ:dA:=fun ds M Q _=>∃(ns:List Int) (t:Int),ds=[.bC ns,.int t]/\ns.length<=63/\0<=t/\t<=63/\∀b c m,M b=none->0<=c->0<=m->Q (.ptr b) (aA M b (.lst [.int c,.int m]))
theorem zO (D:Df K mg "_law_bag" jy ["_law_script","_law_at"] f fd) (bl:Bl mg):FnOk P w K mg base bK 1 f fd ["_law_script","_law_at"] (bh P w K tb FZ) :=by
 refine eO D dX (fun ds M Q E hS=>by obtain⟨ns,t,e,_⟩:=hS;rw[e];rfl) fun A outer s E Γ ds Q' E' hP hw hK ht hr hS=>?_
 obtain⟨ns,t,e,hl,t0,t1,q⟩:=hS;refine⟨_,(af (aC (i:=2) dX.nd rfl (l6 rfl) ak)
  (af (dP (bE vr (qv 1) (ay (cD (K:=K) rfl hK) rfl bl.len_ r9 (aa (qv 0) ae)) (bW _))
   (au (aC (i:=2) dX.nd rfl (l6 rfl) (ay Mr rfl bl.abs_ Ja (aa (aE (FW (K:=K) rfl hK) (qv 0) (qv 1) (fun _ _=>rfl)) ae))))
   qss_nil)
  (af (aC (i:=3) dX.nd rfl (l6 rfl) (bg gG (bg lK ak (qv 1)) ak))
  (af (dQ rf rfl (bG rfl bl.range_ (aa (ay (nN rfl) rfl bl.min_ m5 (aa (ay (cD (K:=K) rfl hK) rfl bl.len_ r9 (aa (qv 0) ae)) (aa ak ae))) ae)) (fun j7 eP ew eK et=>by have hP:=hP.trans eP.symm;have hw:=hw.trans ew.symm;have hK:=hK.trans eK.symm;have ht:=ht.trans et.symm;exact⟨(aI (i:=4) dX.nd rfl (l6 rfl)),(au (aC (i:=3) dX.nd rfl (l6 rfl) (bg kz (bg gG (bg gG (bg lK (qv 3) ak) (bg kz (aE (FW (K:=K) rfl hK) (qv 0) (qv 4) (fun _ _=>rfl)) ak)) (qv 4)) ak)))⟩))
  (af (dP (bE vr (qv 2) (bg Mm ak ak) (bW _))
   (au (aC (i:=2) dX.nd rfl (l6 rfl) ak))
   qss_nil)
  (au (aZ (gY (aa (qv 2) (aa (qv 3) ae)))))))))),?_⟩
 subst e;refine FU (fun ρ M=>M=Γ.M0/\∃c m x:Int,∃x4,0<=c/\0<=m/\ρ=[some (.bC ns),some (.int t),some (.int c),some (.int m),x4]) (fun N hN=>?_) ?_
 ·refine Mv (fun ρ M=>M=Γ.M0/\∃c:Int,0<=c/\ρ=[some (.bC ns),some (.int t),some (.int c),none,none]) (fun N hN=>?_) ?_
  ·simp! only[];refine fK (fun h=>?_) (fun _=>hN _ _ ⟨rfl,0,by omega,rfl⟩)
   have ht:t<(ns.length:Int):=of_decide_eq_true h;obtain⟨k,rfl⟩:=FS t0;rw[B6 (show k<ns.length by omega)]
   exact hN _ _ ⟨rfl,_,by split<;>omega,rfl⟩
  rintro ρ M ⟨rfl,c,hc,rfl⟩;simp! only[];refine⟨.inl ⟨by decide,by decide⟩,by split<;>omega,by split<;>omega,?_⟩
  refine bO (fun i ρ M=>M=Γ.M0/\∃m:Int,∃x4,0<=m/\ρ=[some (.bC ns),some (.int t),some (.int c),some (.int m),x4]) ⟨rfl,_,_,by omega,rfl⟩ (fun i d ρ M N2 hd hJ jn=>?_) (fun ρ M hJ=>?_)
  ·obtain⟨rfl,m,x4,hm,rfl⟩:=hJ;obtain⟨rfl,hi⟩:=cf hd;have hi:i<ns.length :=by split at hi<;>omega
   simp! only[B6 hi];exact⟨.inr ⟨by decide,by decide⟩,by decide,by decide,jn _ _ ⟨rfl,_,_,Tf _ (by decide),rfl⟩⟩
  ·obtain⟨rfl,m,x4,hm,rfl⟩:=hJ;exact hN _ _ ⟨rfl,c,m,0,x4,hc,hm,rfl⟩
 ·rintro ρ M ⟨rfl,c,m,x,x4,hc,hm,rfl⟩;simp! only[];exact⟨⟨by decide,by decide,by decide⟩,fK (fun _=>⟨by decide,fun a ha=>.inl (q a 0 m ha (by omega) hm)⟩) (fun _=>⟨by decide,fun a ha=>.inl (q a c m ha hc hm)⟩)⟩
theorem MD (G:FnOk P w K mg base bK k f fd ps (bh P w K tb FZ)):FnOk P w K mg base bK k f fd ps (bh P w K tb Ku):=G.imp fun vs H Q E hS=>by
 obtain⟨β,ds,M,Q',E',eP,ew,eK,et,m,rs,⟨ns,t,e,h1,h2,h3,h⟩,q,qe⟩:=hS;refine⟨β,ds,M,fun d M'=>∃b c m,d=.ptr b/\M b=none/\0<=c/\0<=m/\M'=aA M b (.lst [.int c,.int m]),fun _ _=>False,eP,ew,eK,et,m,rs,⟨ns,t,e,h1,h2,h3,fun b c m h4 h5 h6=>⟨b,c,m,rfl,h4,h5,h6,rfl⟩⟩,fun d M' v H' x r hQ=>?_,fun _ _ _ _ h=>h.elim⟩
 obtain⟨b,c,m',rfl,hb,hc,hm,rfl⟩:=hQ;have hB:=Cd x.mz hc hm;exact q _ _ _ _ (Ex.sealed hb x hB) (r.dom (jA M b _ _)) (h b hb)
def t5:dA:=fun ds M Q _=>∃(b:al) (n:Int),ds=[.ptr b,.int n]/\M b=some .cJ/\1<=n/\n<1073741824/\∀d:Nat,(d:Int)<n->Q (.int (d:Nat)) M
def CL:dA:=fun ds M Q _=>∃(b:al) (n c m:Int),ds=[.ptr b,.int n]/\M b=some (.lst [.int c,.int m])/\0<=c/\0<=m/\1<=n/\n<1073741824/\∀(d:Nat) (c m:Int),(d:Int)<n->0<=c->0<=m->Q (.int (d:Nat)) (aA M b (.lst [.int c,.int m]))
theorem wO (D:Df K mg "_law_take" fc ["_law_bag_here","_law_many"] f fd):FnOk P w K mg base bK 1 f fd ["_law_bag_here","_law_many"] (bh P w K tb CL) :=by
 refine eO D eA (fun ds M Q E hS=>by obtain⟨b,n,c,m,e,_⟩:=hS;rw[e];rfl) fun A outer s E Γ ds Q' E' hP hw hK ht hr hS=>?_
 obtain⟨b,n,c,m,e,hb,hc,hm,n1,n2,q⟩:=hS;refine⟨_,(af (dP (bE Em (aE (aT (K:=K) rfl) (qv 0) ak (fun _ _=>rfl)) ak (bW _))
   (af (aC (i:=2) eA.nd rfl (l6 rfl) (bg kz (aE (aT (K:=K) rfl) (qv 0) ak (fun _ _=>rfl)) (qv 1)))
  (af (lb (bg vq (aE (aT (K:=K) rfl) (qv 0) ak (fun _ _=>rfl)) (qv 1)) (lj (qv 0) ak))
  (au (aZ (qv 2)))))
   qss_nil)
  (af (aC (i:=3) eA.nd rfl (l6 rfl) ak)
  (af (aC (i:=4) eA.nd rfl (l6 rfl) ak)
  (af (jV rf (bE vr (qv 4) (qv 1) (bW _))
   (af (lb (bg kz (bg gG (bg lK (aE (aT (K:=K) rfl) (qv 0) ak (fun _ _=>rfl)) ak) ak) ak) (lj (qv 0) ak))
  (af (aC (i:=3) eA.nd rfl (l6 rfl) (bg gG (bg lK (qv 3) ak) (bg kz (bg lK (bg vq (aE (aT (K:=K) rfl) (qv 0) ak (fun _ _=>rfl)) ak) ak) ak)))
  (au (aC (i:=4) eA.nd rfl (l6 rfl) (bg lK (qv 4) ak))))))
  (au (aZ (bg kz (qv 3) (qv 1)))))))),?_⟩
 subst e;have RK:∀x y:Int,bo [Dv.int x,Dv.int y] 1=some (.int y):=fun x y=>b9 (j:=1) rfl
 have RL:ft 2 0=some 0:=rfl;have RN:ft 2 1=some 1:=rfl;have fin:∀{i c m:Int} {M:Mh},0<=c->0<=m->M=aA Γ.M0 b (.lst [.int c,.int m])->lN Γ.M0 Q' (.int (i % n)) M:=fun {i c m M} hc hm e=>by
  obtain⟨d,hd⟩:=FS (Tf i (show n≠0 by omega))
  have:=Int.emod_lt_of_pos i (show 0<n by omega)
  rw[hd,e];exact .inl (q d c m (by omega) hc hm)
 simp! only[hb,RL];refine fK (fun h=>?_) (fun h=>?_)
 ·refine⟨by omega,⟨by omega,n2⟩,fin (Int.ediv_nonneg hc (by omega)) hm rfl⟩
 ·refine⟨fun k ρ M=>∃num room c m x2,0<=num/\1<=room/\0<=c/\0<=m/\k=(n - room).toNat/\ρ=[some (.ptr b),some (.int n),x2,some (.int num),some (.int room)]/\M=aA Γ.M0 b (.lst [.int c,.int m]),⟨_,0,1,c,m,_,by omega,by omega,hc,hm,rfl,rfl,(yo hb).symm⟩,?_⟩
  rintro k ρ M ⟨num,room,c,m,x2,h1,h2,hc,hm,rfl,rfl,rfl⟩;simp! only[RK,RN,updM_same];refine fK (fun h=>?_) (fun h=>⟨by omega,fin hc hm rfl⟩)
  have h:=of_decide_eq_true h;have m3:0<=(m * 48271+7919) % 2147483647:=Tf _ (by decide)
  have n3:0<=(m * 48271+7919) % 2147483647 / 8 * 69621 % 1073741789:=Tf _ (by decide)
  refine⟨.inr ⟨by decide,by decide⟩,by decide,.inr ⟨by decide,by decide⟩,⟨by decide,by decide⟩,.inr ⟨by decide,by decide⟩,by decide,.inr ⟨by decide,by decide⟩,_,?_,_,_,c,_,_,?_,?_,hc,m3,rfl,rfl,rfl⟩<;>omega
theorem Kv (G:FnOk P w K mg base bK k f fd ps (bh P w K tb CL)):FnOk P w K mg base bK k f fd ps (bh P w K tb t5):=G.imp fun vs H Q E hS=>by
 obtain⟨β,ds,M,Q',E',eP,ew,eK,et,m,rs,⟨b,n,e,hb,h1,h2,h⟩,q,qe⟩:=hS;have eM:=yo hb;have d1:∀o a,(M a).isSome=(aA M b o a).isSome:=fun o a=>by have:=jA M b .cJ o a;rwa [eM]at this
 rw[<- eM]at m;obtain⟨c,m0,hc,hm,hO⟩:=J9 m;refine⟨β,ds,aA M b (.lst [.int c,.int m0]),fun d M'=>∃(k:Nat) (c' m':Int),d=.int (k:Nat)/\(k:Int)<n/\0<=c'/\0<=m'/\M'=aA M b (.lst [.int c',.int m']),fun _ _=>False,eP,ew,eK,et,m.chg hO,⟨rs.len,fun i v d x y=>(rs.at' i v d x y).dom (d1 _)⟩,⟨b,n,c,m0,e,updM_same,hc,hm,h1,h2,fun d c' m' h3 h4 h5=>⟨d,c',m',rfl,h3,h4,h5,updM_updM⟩⟩,fun d M' v H' x r hQ=>?_,fun _ _ _ _ h=>h.elim⟩
 obtain⟨k,c',m',rfl,hk,Fm,pX,rfl⟩:=hQ;have hB:=Cd x.mz Fm pX;have x2:=Ex.chg (o2:=.cJ) x hB;rw[eM]at x2;exact q _ _ _ _ x2 (r.dom fun a=>(d1 _ a).symm) (h k hk)
theorem sY {α β:Type}(f:α->β):∀(l:List α) (i:Nat),(l.map f).eraseIdx i=(l.eraseIdx i).map f
 | [],_=>rfl
 |_::_,0=>rfl
 |a::l,i+1=>by
          show f a::(l.map f).eraseIdx i=f a::(l.eraseIdx i).map f;rw[sY f l i]
theorem fQ {α:Type}:∀(l:List α) (i:Nat) (h:i<l.length),(l[i]::l.eraseIdx i).Perm l
 |a::l,0,_=>.refl _
 |a::l,i+1,h=>by
          have h':i<l.length :=by simpa using h
          show (l[i]::a::l.eraseIdx i).Perm (a::l);exact(Lu.swap a l[i] _).trans ((fQ l i h').cons a)
structure cY (n:Nat) (os:List Int):Prop where
 perm:os.Perm ((im n).map fun i:Nat=>(i:Int))
theorem cY.len {n:Nat}{os:List Int}(h:cY n os):os.length=n :=by
 have:=h.perm.length_eq;simpa using this
theorem cY.mem {n:Nat}{os:List Int}(h:cY n os) {x:Int}(hx:x∈os):0<=x/\x<n :=by
 have:=h.perm.mem_iff.mp hx;obtain⟨i,hi,rfl⟩:=ff.mp this;have:=lm.mp hi;omega
theorem cY.at {n:Nat}{os:List Int}(h:cY n os) {i:Nat}(hi:i<n):∃x:Int,bo (os.map Dv.int) (i:Int)=some (.int x)/\0<=x/\x<n :=by
 have hl:i<os.length :=by rw[h.len];exact hi
 exact⟨os[i],b9 (by rw[ij,ac hl];rfl),h.mem (wn hl)⟩
def vX:dA:=fun ds M Q _=>∃(b:al) (n:Nat),ds=[.ptr b,.int (n:Nat)]/\M b=some .cJ/\n<=100/\∀os,cY n os->Q (aX os) M
def F0:dA:=fun ds M Q _=>∃(b:al) (most:Nat),ds=[.ptr b,.int (most:Nat)]/\M b=some .cJ/\1<=most/\most<=9/\∀az n,fu az n->az.length<=most->Q (eN az) M
theorem Hb {n d:Nat}(h:d<n):seqIndex? (d:Int) n=some d:=(rj (n:=n) (i:=(d:Int)) (j:=d) (by unfold ft;rw[if_pos (by omega),if_pos (by omega)];rfl)).1
theorem vY {f1:al}{bV:mo}(D:Df K mg "_law_order" fL ["_law_bag_here","_law_many"] f fd)
  (ax:Df K mg "_law_take" fc ["_law_bag_here","_law_many"] f1 bV) (bZ:FnOk P w K mg base bK 1 f1 bV ["_law_bag_here","_law_many"] (bh P w K tb t5)) (bl:Bl mg):FnOk P w K mg base bK 2 f fd ["_law_bag_here","_law_many"] (bh P w K tb vX) :=by
 refine eO D gM (fun ds M Q E hS=>by obtain⟨b,n,e,_⟩:=hS;rw[e];rfl) fun A outer s E Γ ds Q' E' hP hw hK ht hr hS=>?_
 obtain⟨b,n,e,hb,hn,q⟩:=hS;refine⟨_,(af (aC (i:=2) gM.nd rfl (l6 rfl) (tK rfl rfl bl.list_ rfl bl.range_ (qv 1)))
  (af (aC (i:=3) gM.nd rfl (l6 rfl) (gY ae))
  (af (dQ rf rfl (bG rfl bl.range_ (aa (qv 1) ae)) (fun j7 eP ew eK et=>by have hP:=hP.trans eP.symm;have hw:=hw.trans ew.symm;have hK:=hK.trans eK.symm;have ht:=ht.trans et.symm;exact⟨(aI (i:=4) gM.nd rfl (l6 rfl)),(au (fb (ju (K:=K) rfl BS CS Da gQ (qv 3) (aa (ju (K:=K) rfl BS PySem.F.slot_list_pop PySem.F.type_list_pop G0 (qv 2) (aa (aJ bZ (hr.mono (by decide)) rfl ax.mg ax.fn.kp ax.bd bJ hP hw hK ht XR.none (aa (qv 0) (aa (ay (cD (K:=K) rfl hK) rfl bl.len_ r9 (aa (qv 2) ae)) ae))) ae)) ae))))⟩))
  (au (aZ (qv 3)))))),?_⟩
 subst e;have big:(1000:Nat)<sizeLine :=by decide
 simp! only[];refine⟨by omega,by omega,fun a ha=>⟨by omega,fun c hc=>⟨by omega,by omega,?_⟩⟩⟩
 have F1:c≠a:=fun z=>by rw[z,updM_same]at hc;cases hc
 have yw:Γ.M0 c=none :=by rw[ah F1]at hc;exact hc
 have RO:b≠a:=fun z=>by rw[z,ha]at hb;cases hb
 have RP:b≠c:=fun z=>by rw[z,yw]at hb;cases hb
 refine bO (fun i ρ M=>∃rest got:List Int,(∃x,ρ=[some (.ptr b),some (.int (n:Nat)),some (.ptr a),some (.ptr c),x])/\M a=some (.lst (rest.map .int))/\M c=some (.lst (got.map .int))/\(∀d,d≠a->d≠c->M d=Γ.M0 d)/\got.length=i/\(got++rest).Perm ((im n).map fun i:Nat=>(i:Int)))
  ⟨(im n).map fun i:Nat=>(i:Int),[],⟨_,rfl⟩,by rw[ah (Co F1),updM_same,kR,wE];rfl,updM_same,fun d h1 h2=>by rw[ah h2,ah h1],rfl,.refl _⟩ (fun i d ρ M N hd hJ hN=>?_) (fun ρ M hJ=>?_)
 ·obtain⟨rest,got,⟨x,rfl⟩,Kw,F2,kJ,hg,pm⟩:=hJ;obtain⟨rfl,hi⟩:=cf hd;have hlen:got.length+rest.length=n :=by have:=pm.length_eq;simpa using this
  simp! only[Kw,F2];refine⟨b,_,rfl,(by rw[kJ b RO RP];exact hb),by omega,by omega,fun d hd=>?_⟩
  have k7:d<rest.length :=by omega
  simp only[Kw,br,Hb k7,ij,ac k7,Cf,ah F1,F2];refine⟨by omega,by omega,by omega,hN _ _ ⟨rest.eraseIdx d,got++[rest[d]],⟨_,rfl⟩,by rw[ah (Co F1),updM_same,sY],by rw[updM_same,mv];rfl,fun e h1 h2=>by rw[ah h2,ah h1];exact kJ e h1 h2,by simp[hg],?_⟩⟩
  refine Lu.trans ?_ pm;rw[Lo];exact Lu.append_left got (fQ rest d k7)
 ·obtain⟨rest,got,⟨x,rfl⟩,Kw,F2,kJ,hg,pm⟩:=hJ;rw[rangeD_len]at hg;have hlen:got.length+rest.length=n :=by have:=pm.length_eq;simpa using this
  have Cu:rest=[]:=SO (by omega)
  rw[Cu,EQ]at pm;exact nQ (fun d o e=>by rw[kJ d (fun z=>by rw[z,ha]at e;cases e) (fun z=>by rw[z,yw]at e;cases e)];exact e) yw F2 (dg _) (q got ⟨pm⟩)
end
section
variable {P:i4}{w:i8}{K:bn}{mg:cb->Option ap}{base:kt}{tb:dy}
def eR (n ways:Nat) (row:List Int):Prop:=row.length=ways/\∀x∈row,0<=x/\x<(n:Int)
structure cZ (M0 M:Mh) (r:al) (as:List al) (n ways:Nat):Prop where
 kp:Keeps M0 M
 r0:M0 r=none
 rm:M r=some (.lst (as.map .ptr))
 fr:∀a∈as,M0 a=none/\a≠r
 len:as.length=n
 row:∀a∈as,∃row:List Int,M a=some (.lst (row.map .int))/\eR n ways row
 pin:∀b o,M b=some o->M0 b=some o\/b=r\/(∃row:List Int,o=.lst (row.map .int))\/∃bs:List al,o=.lst (bs.map .ptr)/\∀c∈bs,c≠r/\∃o,M c=some o
theorem cZ.rD {M0 M:Mh}{r:al}{as:List al}{n ways:Nat}(h:cZ M0 M r as n ways) {a:al}(ha:a∈as) {row:List Int}(o:eR n ways row):cZ M0 (aA M a (.lst (row.map .int))) r as n ways :=by
 obtain⟨f0,f1⟩:=h.fr a ha;refine⟨.upd f0 h.kp,h.r0,by rw[ah (Co f1)];exact h.rm,h.fr,h.len,fun c hc=>?_,fun b u e=>?_⟩
 ·by_cases z:c=a
  ·subst z;exact⟨row,updM_same,o⟩
  ·rw[ah z];exact h.row c hc
 ·by_cases z:b=a
  ·subst z;rw[updM_same]at e;cases e;exact .inr (.inr (.inl ⟨row,rfl⟩))
  ·rw[ah z]at e;rcases h.pin b u e with q|q|q|⟨bs,q1,q2⟩
   ·exact .inl q
   ·exact .inr (.inl q)
   ·exact .inr (.inr (.inl q))
   ·refine .inr (.inr (.inr ⟨bs,q1,fun c hc=>⟨(q2 c hc).1,?_⟩⟩))
    by_cases z:c=a
    ·subst z;exact⟨_,updM_same⟩
    ·rw[ah z];exact(q2 c hc).2
theorem cZ.put {M0 M:Mh}{r:al}{as:List al}{n ways:Nat}(h:cZ M0 M r as n ways) {a:al}(ha:M a=none) {row:List Int}(o:eR n ways row) {i:Nat}(hi:i<n):cZ M0 (aA (aA M a (.lst (row.map .int))) r (.lst ((as.map .ptr).set i (.ptr a)))) r (as.set i a) n ways :=by
 have nr:a≠r:=fun z=>by rw[z,h.rm]at ha;cases ha
 have a0:M0 a=none :=by
  cases e:M0 a with
  |none=>rfl
  |some u=>rw[h.kp a u e]at ha;cases ha
 have RQ:a ∉ as:=fun z=>by obtain⟨row,e,_⟩:=h.row a z;rw[ha]at e;cases e
 refine⟨.upd h.r0 (.upd a0 h.kp),h.r0,by rw[updM_same,List.map_set],fun c hc=>?_,by rw[NJ];exact h.len,fun c hc=>?_,fun b u e=>?_⟩
 ·rcases Th hc with z|z
  ·exact h.fr c z
  ·rw[z];exact⟨a0,nr⟩
 ·rcases Th hc with z|z
  ·have n1:=(h.fr c z).2;have n2:c≠a:=fun e=>RQ (e▸z)
   rw[ah n1,ah n2];exact h.row c z
  ·rw[z,ah nr,updM_same];exact⟨row,rfl,o⟩
 ·by_cases z:b=r
  ·exact .inr (.inl z)
  ·rw[ah z]at e;by_cases z2:b=a
   ·subst z2;rw[updM_same]at e;cases e;exact .inr (.inr (.inl ⟨row,rfl⟩))
   ·rw[ah z2]at e;rcases h.pin b u e with q|q|q|⟨bs,q1,q2⟩
    ·exact .inl q
    ·exact .inr (.inl q)
    ·exact .inr (.inr (.inl q))
    ·refine .inr (.inr (.inr ⟨bs,q1,fun c hc=>⟨(q2 c hc).1,?_⟩⟩))
     rw[ah (q2 c hc).1];by_cases z:c=a
     ·subst z;exact⟨_,updM_same⟩
     ·rw[ah z];exact(q2 c hc).2
structure j8 (M0 M:Mh):Prop where
 kp:Keeps M0 M
 pin:∀b o,M b=some o->M0 b=some o\/(∃row:List Int,o=.lst (row.map .int))\/∃bs:List al,o=.lst (bs.map .ptr)/\∀c∈bs,∃o,M c=some o
theorem j8.refl {M0:Mh}:j8 M0 M0:=⟨.refl,fun b o e=>.inl e⟩
theorem eS {M0 M:Mh}(h:Keeps M0 M) {a:al}(ha:M a=none):M0 a=none :=by
 cases e:M0 a with
 |none=>rfl
 |some u=>rw[h a u e]at ha;cases ha
theorem j8.row {M0 M:Mh}(h:j8 M0 M) {a:al}(ha:M a=none) (row:List Int):j8 M0 (aA M a (.lst (row.map .int))) :=by
 refine⟨.upd (eS h.kp ha) h.kp,fun b o e=>?_⟩
 by_cases z:b=a
 ·subst z;rw[updM_same]at e;cases e;exact .inr (.inl ⟨row,rfl⟩)
 ·rw[ah z]at e;rcases h.pin b o e with q|q|⟨bs,q1,q2⟩
  ·exact .inl q
  ·exact .inr (.inl q)
  ·refine .inr (.inr ⟨bs,q1,fun c hc=>?_⟩)
   by_cases z:c=a
   ·subst z;exact⟨_,updM_same⟩
   ·rw[ah z];exact q2 c hc
theorem cZ.mk' {M0 M:Mh}{r:al}{as:List al}{n ways:Nat}(h:j8 M0 M) (hr:M r=none) (hl:as.length=n) (ha:∀a∈as,M0 a=none/\∃row:List Int,M a=some (.lst (row.map .int))/\eR n ways row):cZ M0 (aA M r (.lst (as.map .ptr))) r as n ways :=by
 have ne:∀{c o},M c=some o->c≠r:=fun e z=>by rw[z,hr]at e;cases e
 refine⟨.upd (eS h.kp hr) h.kp,eS h.kp hr,updM_same,fun a h=>?_,hl,fun a h=>?_,fun b o e=>?_⟩
 ·obtain⟨h0,row,e,_⟩:=ha a h;exact⟨h0,ne e⟩
 ·obtain⟨h0,row,e,o⟩:=ha a h;exact⟨row,by rw[ah (ne e)];exact e,o⟩
 ·by_cases z:b=r
  ·exact .inr (.inl z)
  ·rw[ah z]at e;rcases h.pin b o e with q|q|⟨bs,q1,q2⟩
   ·exact .inl q
   ·exact .inr (.inr (.inl q))
   ·refine .inr (.inr (.inr ⟨bs,q1,fun c hc=>?_⟩))
    obtain⟨u,e⟩:=q2 c hc;exact⟨ne e,u,by rw[ah (ne e)];exact e⟩
theorem Sd {g:bS}{te:aG}{n:Nat}{M1:Mh}(T:av->Prop) {ds:List Dv}{τ:av}{Q:List Dv->Mh->Prop}(h0:T τ) (h:∀d∈ds,∀τ,T τ->∀R:av->ZK,(∀(x:Int) aj,0<=x->x<(n:Int)->T aj->R aj (.int x) M1)->g d τ M1 fun aj M2=>te aj M2 (R aj)) (q:∀row:List Int,row.length=ds.length->(∀x∈row,0<=x/\x<(n:Int))->Q (row.map .int) M1):gq g zNoIf te ds τ M1 Q :=by
 refine iD (acc:=[]) (fun acc τ M=>∃row:List Int,acc=row.map Dv.int/\(∀x∈row,0<=x/\x<(n:Int))/\T τ/\M=M1) ⟨[],rfl,(fun _ h=>nomatch h),h0,rfl⟩ (fun i d acc τ M hd _ ⟨row,e1,hr,ht,e2⟩ R hR=>?_) (fun ys τ M hl ⟨row,e1,hr,ht,e2⟩=>?_)
 ·subst e1 e2;refine h d (gl hd) τ ht R fun x aj x0 x1 t2=>hR _ _ _ ⟨row++[x],by rw[mv];rfl,fun y hy=>?_,t2,rfl⟩
  rcases rc.mp hy with z|z
  ·exact hr y z
  ·rw[lw]at z;rw[z];exact⟨x0,x1⟩
 ·rw[ES]at e1;subst e1 e2;exact q row (by simpa using hl) hr
def eU (x:Option Dv):Prop:=∀M d,x=some d->Pin M d
theorem eU.none:eU none:=fun _ _ h=>nomatch h
theorem eU.int (i:Int):eU (some (.int i)):=fun _ _ h=>by cases h;exact .int i
theorem eU.lI (ns:List Int):eU (some (aX ns)):=fun _ _ h=>by cases h;exact .lst (dg ns)
theorem CM {M0 M:Mh}{as:List al}{n ways:Nat}{T:Prop}(hO:j8 M0 M) (ha:∀a∈as,M0 a=none/\∃row:List Int,M a=some (.lst (row.map .int))/\eR n ways row) {a:al}(h:M a=none) {row:List Int}(o:eR n ways row) (t:T) :
  ∃F3:List al,as.map Dv.ptr++[Dv.ptr a]=F3.map Dv.ptr/\T/\j8 M0 (aA M a (.lst (row.map .int)))/\∀c∈F3,M0 c=none/\∃zP:List Int,aA M a (.lst (row.map .int)) c=some (.lst (zP.map .int))/\eR n ways zP :=by
 refine⟨as++[a],by rw[mv];rfl,t,hO.row h row,fun c hc=>?_⟩
 rcases rc.mp hc with z|z
 ·obtain⟨h0,zP,e,o'⟩:=ha c z;have ne:c≠a:=fun q=>by rw[q,h]at e;cases e
  exact⟨h0,zP,by rw[ah ne];exact e,o'⟩
 ·rw[lw]at z;subst z;exact⟨eS hO.kp h,row,updM_same,o⟩
theorem oz {n d:Nat}(h:d<n):ft n (d:Int)=some d :=by unfold ft;rw[if_pos (by omega),if_pos (by omega)];rfl
theorem pC (row:List Int) (t:Nat) (x:Int):(row.map Dv.int).set t (.int x)=(row.set t x).map Dv.int :=by rw[List.map_set]
theorem eR.set {n ways:Nat}{row:List Int}(h:eR n ways row) {t:Nat}{x:Int}(x0:0<=x) (x1:x<(n:Int)):eR n ways (row.set t x):=⟨by rw[NJ];exact h.1,fun y hy=>by
 rcases Th hy with z|z
 ·exact h.2 y z
 ·rw[z];exact⟨x0,x1⟩⟩
def qR (os:List Int):Dv->Int | .int j=>os.getD j.toNat 0|_=>0
theorem vZ {os:List Int}{j:Nat}{x:Int}(h:bo (os.map Dv.int) (j:Int)=some (.int x)):qR os (.int (j:Nat))=x :=by
 by_cases hj:j<os.length
 ·rw[b9 (j:=j) (v:=Dv.int os[j]) (by rw[ij,ac hj];rfl)]at h
  cases h;show os.getD (Int.toNat (j:Int)) 0=_;rw[BB,ca,ac hj];rfl
 ·unfold bo ft at h;rw[if_pos (by omega),if_neg (by simp;omega)]at h
  cases h
def EJ (per i:Nat):Dv->Bool | .int j=>decide (j % (per:Int)=((i:Int)+1) % (per:Int))|_=>false
theorem EK {n per i:Nat}{os:List Int}(gC:cY n os) (p1:1<=per) (pn:per<=n):∃gs:List Int,((cV 0 n).filter (EJ per i)).map (fun d=>Dv.int (qR os d))=gs.map Dv.int/\1<=gs.length/\gs.length<=n/\∀x∈gs,0<=x/\x<(n:Int) :=by
 refine⟨((cV 0 n).filter (EJ per i)).map (qR os),by rw[wE];rfl,?_,?_,fun x hx=>?_⟩
 ·rw[br];refine TW (a:=Dv.int (((i+1) % per:Nat):Int)) (KB.mpr ⟨?_,?_⟩)
  ·have:(i+1) % per<per:=Uz _ (by omega)
   exact gl (i:=(i+1) % per) (by rw[cV,ij,LG (by omega)];simp)
  ·show decide _=true;rw[decide_eq_true_eq];push_cast
   exact Int.emod_emod_of_dvd _ (Int.dvd_refl _)
 ·rw[br];exact wv (List.length_filter_le _ _) (by rw[rangeD_len];exact bv _)
 ·obtain⟨d,hd,rfl⟩:=ff.mp hx;obtain⟨j,hj,rfl⟩:=jv (KB.mp hd).1;rw[GM];obtain⟨gx,F4,g0,g1⟩:=gC.at hj;rw[vZ F4];exact⟨g0,g1⟩
structure iq (M0 M:Mh) (r:al) (as:List al) (n:Nat) (L:Nat->Nat):Prop where
 own:j8 M0 M
 r0:M0 r=none
 rm:M r=some (.lst (as.map .ptr))
 fr:∀a∈as,M0 a=none/\a≠r
 nd:as.Nodup
 len:as.length=n
 rows:∀i a,as[i]?=some a->∃row:List Int,M a=some (.lst (row.map .int))/\eR n (L i) row
 ptr:∀b bs,M b=some (.lst (bs.map .ptr))->b=r\/M0 b=some (.lst (bs.map .ptr))\/bs=[]
theorem iq.set {M0 M:Mh}{r:al}{as:List al}{n:Nat}{L:Nat->Nat}(h:iq M0 M r as n L) {i:Nat}{a:al}(ha:as[i]?=some a) {row:List Int}{m:Nat}(o:eR n m row):iq M0 (aA M a (.lst (row.map .int))) r as n fun j=>if j=i then m else L j :=by
 have hm:=gl ha;obtain⟨f0,f1⟩:=h.fr a hm;refine⟨⟨.upd f0 h.own.kp,fun b o e=>?_⟩,h.r0,by rw[ah (Co f1)];exact h.rm,h.fr,h.nd,h.len,fun j c hc=>?_,fun b bs e=>?_⟩
 ·by_cases z:b=a
  ·subst z;rw[updM_same]at e;cases e;exact .inr (.inl ⟨row,rfl⟩)
  ·rw[ah z]at e;rcases h.own.pin b o e with q|q|⟨bs,q1,q2⟩
   ·exact .inl q
   ·exact .inr (.inl q)
   ·refine .inr (.inr ⟨bs,q1,fun c hc=>?_⟩)
    by_cases z:c=a
    ·subst z;exact⟨_,updM_same⟩
    ·rw[ah z];exact q2 c hc
 ·by_cases z:j=i
  ·subst z;rw[ha]at hc;cases hc;exact⟨row,updM_same,by rw[if_pos rfl];exact o⟩
  ·have CN:c≠a:=fun e=>z (by
    subst e;obtain⟨h1,e1⟩:=cr.mp ha;obtain⟨h2,e2⟩:=cr.mp hc;rcases U7 j i with q|q|q
    ·exact absurd (e2.trans e1.symm) (Cs.mp h.nd j i h2 h1 q)
    ·exact q
    ·exact absurd (e1.trans e2.symm) (Cs.mp h.nd i j h1 h2 q))
   rw[ah CN,if_neg z];exact h.rows j c hc
 ·by_cases z:b=a
  ·subst z;rw[updM_same]at e;cases row with
   |nil=>cases bs with
    |nil=>exact .inr (.inr rfl)
    |cons c bs=>simp at e
   |cons x row=>cases bs with
    |nil=>exact .inr (.inr rfl)
    |cons c bs=>simp at e
  ·rw[ah z]at e;exact h.ptr b bs e
theorem iq.full {M0 M:Mh}{r:al}{as:List al}{n ways:Nat}{L:Nat->Nat}(h:iq M0 M r as n L) (hL:∀i,i<n->L i=ways):cZ M0 M r as n ways :=by
 refine⟨h.own.kp,h.r0,h.rm,h.fr,h.len,fun a ha=>?_,fun b o e=>?_⟩
 ·obtain⟨i,hi⟩:=u4.mp ha;obtain⟨row,e,o⟩:=h.rows i a hi;rw[hL i (by rw[<- h.len];exact(cr.mp hi).1)]at o
  exact⟨row,e,o⟩
 ·rcases h.own.pin b o e with q|q|⟨bs,rfl,q2⟩
  ·exact .inl q
  ·exact .inr (.inr (.inl q))
  ·rcases h.ptr b bs e with z|z|z
   ·exact .inr (.inl z)
   ·exact .inl z
   ·subst z;exact .inr (.inr (.inl ⟨[],rfl⟩))
theorem iq.zQ {M0 M:Mh}{r:al}{as:List al}{n:Nat}{L L':Nat->Nat}(h:iq M0 M r as n L) (e:∀i,i<n->L i=L' i):iq M0 M r as n L':=
 ⟨h.own,h.r0,h.rm,h.fr,h.nd,h.len,fun i a ha=>by
  have:=h.rows i a ha;rwa [e i (by rw[<- h.len];exact(cr.mp ha).1)]at this,h.ptr⟩
theorem cY.nodup {n:Nat}{os:List Int}(h:cY n os):os.Nodup :=by
 refine h.perm.nodup_iff.mpr ?_;exact U6.mpr (Vf.imp fun h e=>h (by omega))
theorem cY.prev {n:Nat}{os:List Int}(h:cY n os) {k:Nat}(hk:k<n):∃p:Nat,bo (os.map Dv.int) ((k:Int) - 1)=some (.int (p:Nat))/\p<n :=by
 have hl:=h.len;obtain⟨j,hj,e⟩:∃j:Nat,j<n/\ft n ((k:Int) - 1)=some j :=by
  unfold ft;by_cases z:k=0
  ·exact⟨n - 1,by omega,by rw[if_neg (by omega),if_pos (by omega)];congr 1;omega⟩
  ·exact⟨k - 1,by omega,by rw[if_pos (by omega),if_pos (by omega)];congr 1;omega⟩
 have yp:j<os.length :=by omega
 obtain⟨g0,g1⟩:=h.mem (wn yp);refine⟨os[j].toNat,?_,by omega⟩
 unfold bo;rw[br,hl,e];show (os.map Dv.int)[j]?=_;rw[ij,ac yp];show some (Dv.int os[j])=_;congr 2
 omega
theorem Hc (x:Int) (k:Nat):(qr k [Dv.int x]).flatten=(qr k x).map Dv.int :=by
 induction k with
 |zero=>rfl
 |succ k ih=>rw[wp,Ll,ih,wp];rfl
theorem zR {f f1 f2:al}{fd bV fd2:mo}(D:Df K mg "_law_net" eQ ["_law_bag_here","_law_most"] f fd)
  (ax:Df K mg "_law_take" fc ["_law_bag_here","_law_many"] f1 bV) (bZ:FnOk P w K mg base bK 1 f1 bV ["_law_bag_here","_law_many"] (bh P w K tb t5))
  (bP:Df K mg "_law_order" fL ["_law_bag_here","_law_many"] f2 fd2) (j9:FnOk P w K mg base bK 2 f2 fd2 ["_law_bag_here","_law_many"] (bh P w K tb vX)) (bl:Bl mg):FnOk P w K mg base bK 3 f fd ["_law_bag_here","_law_most"] (bh P w K tb F0) :=by
 refine eO D bw (fun ds M Q E hS=>by obtain⟨b,n,e,_⟩:=hS;rw[e];rfl) fun A outer s E Γ ds Q' E' hP hw hK ht hr hS=>?_
 obtain⟨b,most,e,hb,h1,h9,q⟩:=hS;refine⟨_,(af (aC (i:=2) bw.nd rfl (l6 rfl) (bg gG ak (aJ bZ (hr.mono (by decide)) rfl ax.mg ax.fn.kp ax.bd bJ hP hw hK ht XR.none (aa (qv 0) (aa (qv 1) ae)))))
  (af (aC (i:=3) bw.nd rfl (l6 rfl) (bg gG ak (aJ bZ (hr.mono (by decide)) rfl ax.mg ax.fn.kp ax.bd bJ hP hw hK ht XR.none (aa (qv 0) (aa ak ae)))))
  (af (aC (i:=4) bw.nd rfl (l6 rfl) (aJ bZ (hr.mono (by decide)) rfl ax.mg ax.fn.kp ax.bd bJ hP hw hK ht XR.none (aa (qv 0) (aa ak ae))))
  (af (aC (i:=5) bw.nd rfl (LM rfl) ak)
  (af (dP (bE kQ (qv 4) ak (bW _))
   (af (aC (i:=5) bw.nd rfl (LM rfl) (ay (nN rfl) rfl bl.min_ m5 (aa (bg gG ak (aJ bZ (hr.mono (by decide)) rfl ax.mg ax.fn.kp ax.bd bJ hP hw hK ht XR.none (aa (qv 0) (aa ak ae)))) (aa (qv 2) ae))))
  (au (aC (i:=2) bw.nd rfl (l6 rfl) (bg lK (bg vq (qv 2) (qv 5)) (qv 5)))))
   qss_nil)
  (af (aC (i:=6) bw.nd rfl (LM rfl) (aJ j9 (hr.mono (by decide)) rfl bP.mg bP.fn.kp bP.bd bJ hP hw hK ht XR.none (aa (qv 0) (aa (qv 2) ae))))
  (af (oR (i:=7) bw.nd rfl rfl (N':=["_law_place"]) (tn:=1) (idx:=[]) rfl (show aB ["_law_bag_here","_law_most","_law_many","_law_fans","_law_kind","_law_lap","_law_order_here","_law_rows","_law_k","_law_goals","_law_fan"] (ai eQ) _ ["_law_place"] 1 [] from by decide +kernel) (bG rfl bl.range_ (aa (qv 2) ae)) (fun _ _ _ _ _=>(aI (i:=0) (show xz [("_law_place" : cb)] from by decide +kernel) rfl (l6 rfl))) (fun _ _ _ _ _=>cc) (fun _ _ _ _ _=>(gY ae)))
  (af (dQ rf rfl (bG rfl bl.range_ (aa (qv 2) ae)) (fun j7 eP ew eK et=>by have hP:=hP.trans eP.symm;have hw:=hw.trans ew.symm;have hK:=hK.trans eK.symm;have ht:=ht.trans et.symm;exact⟨(aI (i:=8) bw.nd rfl (LM rfl)),(af (lP (i:=9) bw.nd rfl rfl (N':=["_law_j","_law_order_here","_law_lap","_law_k"]) (tn:=1) (idx:=[6,5,8]) rfl (show aB ["_law_bag_here","_law_most","_law_many","_law_fans","_law_kind","_law_lap","_law_order_here","_law_rows","_law_k","_law_goals","_law_fan"] (ai eQ) _ ["_law_j","_law_order_here","_law_lap","_law_k"] 1 [6,5,8] from by decide +kernel) (bG rfl bl.range_ (aa (qv 2) ae)) (fun _ _ _ _ _=>(aI (i:=0) (show xz [("_law_j" : cb),("_law_order_here" : cb),("_law_lap" : cb),("_law_k" : cb)] from by decide +kernel) rfl (l6 rfl))) (fun _ _ _ _ _=>(oi (bE kQ (bg kz (qv 0) (qv 2)) (bg kz (bg gG (qv 3) ak) (qv 2)) (bW _)))) (fun _ _ _ _ _=>(aE (aT (K:=K) rfl) (qv 1) (qv 0) (fun _ _=>rfl))))
  (au (dQ rf rfl (bG rfl bl.range_ (aa (qv 3) ae)) (fun j7 eP ew eK et=>by have hP:=hP.trans eP.symm;have hw:=hw.trans ew.symm;have hK:=hK.trans eK.symm;have ht:=ht.trans et.symm;exact⟨(aI (i:=10) bw.nd rfl (l6 rfl)),(au (fb (ju (K:=K) rfl BS CS Da gQ (aE (aT (K:=K) rfl) (qv 7) (aE (aT (K:=K) rfl) (qv 6) (qv 8) (fun _ _=>rfl)) (fun _ _=>rfl)) (aa (aE (aT (K:=K) rfl) (qv 9) (aJ bZ (hr.mono (by decide)) rfl ax.mg ax.fn.kp ax.bd bJ hP hw hK ht XR.none (aa (qv 0) (aa (ay (cD (K:=K) rfl hK) rfl bl.len_ r9 (aa (qv 9) ae)) ae))) (fun _ _=>rfl)) ae))))⟩))))⟩))
  (af (dP (bE Em (qv 4) ak (bW _))
   (au (dQ rf rfl (bG rfl bl.range_ (aa (qv 2) ae)) (fun j7 eP ew eK et=>by have hP:=hP.trans eP.symm;have hw:=hw.trans ew.symm;have hK:=hK.trans eK.symm;have ht:=ht.trans et.symm;exact⟨(aI (i:=8) bw.nd rfl (LM rfl)),(au (lb (aE (aT (K:=K) rfl) (qv 6) (qv 8) (fun _ _=>rfl)) (lj (aE (aT (K:=K) rfl) (qv 7) (aE (aT (K:=K) rfl) (qv 6) (bg zy (qv 8) ak) (fun _ _=>rfl)) (fun _ _=>rfl)) (aJ bZ (hr.mono (by decide)) rfl ax.mg ax.fn.kp ax.bd bJ hP hw hK ht XR.none (aa (qv 0) (aa (qv 3) ae))))))⟩)))
   qss_nil)
  (af (dP (bE kQ (qv 4) ak (bW _))
   (af (dQ rf rfl (bG rfl bl.range_ (aa (qv 2) ae)) (fun j7 eP ew eK et=>by have hP:=hP.trans eP.symm;have hw:=hw.trans ew.symm;have hK:=hK.trans eK.symm;have ht:=ht.trans et.symm;exact⟨(aI (i:=8) bw.nd rfl (LM rfl)),(au (lb (bg Ka (vp (aa (aE (aT (K:=K) rfl) (qv 6) (qv 8) (fun _ _=>rfl)) ae)) (qv 3)) (lj (qv 7) (aE (aT (K:=K) rfl) (qv 6) (bg zy (qv 8) ak) (fun _ _=>rfl)))))⟩))
  (au (lb (aJ bZ (hr.mono (by decide)) rfl ax.mg ax.fn.kp ax.bd bJ hP hw hK ht XR.none (aa (qv 0) (aa (qv 2) ae))) (lj (aE (aT (K:=K) rfl) (qv 7) ak (fun _ _=>rfl)) ak))))
   qss_nil)
  (au (vG 7 rfl (aZ (gZ (om (K:=K) rfl) rfl bl.tuple_ gP (aa (cu (N':=["_law_row"]) (tn:=1) (idx:=[]) rfl (show aB ["_law_bag_here","_law_most","_law_many","_law_fans","_law_kind","_law_lap","_law_order_here","_law_rows","_law_k","_law_goals","_law_fan"] (ai eQ) _ ["_law_row"] 1 [] from by decide +kernel) (cW (K:=K) rfl (qv 7)) (fun _ _ _ _ _=>(aI (i:=0) (show xz [("_law_row" : cb)] from by decide +kernel) rfl (l6 rfl))) (fun _ _ _ _ _=>cc) (fun _ _ _ _ _=>(gZ (om (K:=K) rfl) rfl bl.tuple_ gP (aa (qv 0) ae)))) ae))))))))))))))),?_⟩
 subst e;have big:(100:Nat)<sizeLine :=by decide
 refine FV (fun ρ M=>M=Γ.M0/\∃(n ways kind c7:Nat),ρ=[some (.ptr b),some (.int (most:Nat)),some (.int (n:Nat)),some (.int (ways:Nat)),some (.int (kind:Nat)),some (.int (c7:Nat)),none,none,none,none,none]/\1<=n/\n<=most/\(ways=2\/ways=3)/\1<=c7/\c7<=n) (fun N hN=>?_) ?_
 ·simp! only[];refine⟨b,_,rfl,hb,by omega,by omega,fun m hm=>?_⟩
  obtain⟨n,hn⟩:∃n:Nat,(1+(m:Int))=(n:Nat):=⟨1+m,by omega⟩
  have n1:1<=n :=by omega
  have n9:n<=most :=by omega
  simp! only[hn];refine⟨b,_,rfl,hb,by omega,by omega,fun v hv=>?_⟩
  obtain⟨ways,ME⟩:∃ways:Nat,(2+(v:Int))=(ways:Nat):=⟨2+v,by omega⟩
  have w2:ways=2\/ways=3 :=by omega
  simp! only[ME];refine⟨b,_,rfl,hb,by omega,by omega,fun kind tS=>?_⟩
  simp! only[];refine fK (fun h=>?_) (fun h=>hN _ _ ⟨rfl,n,ways,kind,1,rfl,n1,n9,w2,by omega,n1⟩)
  refine⟨b,_,rfl,hb,by omega,by omega,fun t ht=>?_⟩
  obtain⟨c7,PH,l1,ln⟩:∃c7:Nat,(if (n:Int)<2+(t:Int) then (n:Int) else 2+(t:Int))=(c7:Nat)/\1<=c7/\c7<=n :=by
   by_cases z:(n:Int)<2+(t:Int)
   ·exact⟨n,by rw[if_pos z],n1,bv _⟩
   ·exact⟨2+t,by rw[if_neg z];omega,by omega,by omega⟩
  simp only[PH];have en:(n:Int) / (c7:Int) * (c7:Int)=((n / c7 * c7:Nat):Int) :=by push_cast;rfl
  have d1:n / c7 * c7<=n:=Nat.div_mul_le_self n c7;have d2:c7<=n / c7 * c7 :=by
   have:1<=n / c7:=Nat.div_pos ln (by omega)
   exact Nat.le_mul_of_pos_left c7 this
  rw[en];exact⟨⟨by omega,by omega⟩,.inr ⟨by omega,by omega⟩,hN _ _ ⟨rfl,n / c7 * c7,ways,kind,c7,rfl,by omega,by omega,w2,l1,d2⟩⟩
 rintro ρ M ⟨rfl,n,ways,kind,c7,rfl,n1,n9,w2,l1,ln⟩;refine FT (fun ρ M=>∃(r:al) (as:List al) (os:List Int) (x8 x9 ja:Option Dv),(eU x8/\eU x9/\eU ja)/\ρ=[some (.ptr b),some (.int (most:Nat)),some (.int (n:Nat)),some (.int (ways:Nat)),some (.int (kind:Nat)),some (.int (c7:Nat)),some (aX os),some (.ptr r),x8,x9,ja]/\cZ Γ.M0 M r as n ways/\cY n os) (fun N hN=>?_) ?_
 ·simp! only[];refine⟨b,n,rfl,hb,by omega,fun os gC=>?_⟩
  have FC:=gC.len;simp! only[];refine⟨by omega,by omega,by omega,iD (acc:=[]) (fun acc τ M=>∃as:List al,acc=as.map Dv.ptr/\(∃x,τ=[x])/\j8 Γ.M0 M/\as.Nodup/\(∀a∈as,Γ.M0 a=none/\M a=some (.lst []))/\∀c (bs:List al),M c=some (.lst (bs.map .ptr))->Γ.M0 c=some (.lst (bs.map .ptr))\/bs=[]) ⟨[],rfl,⟨_,rfl⟩,.refl,.nil,(fun _ h=>nomatch h),fun c bs e=>.inl e⟩ (fun i d acc τ M hd _ hJ R hR=>?_) (fun ys τ M hl hJ=>?_)⟩
  ·obtain⟨as,rfl,⟨x,rfl⟩,hO,Kx,ha,hp⟩:=hJ;simp! only[];refine⟨by omega,fun a hn=>hR _ _ _ ⟨as++[a],by rw[mv];rfl,⟨_,rfl⟩,hO.row hn [],?_,fun c hc=>?_,fun c bs e=>?_⟩⟩
   ·rw[U3];refine⟨Kx,by simp,fun x hx y hy e=>?_⟩
    rw[lw]at hy;subst e hy;rw[(ha _ hx).2]at hn;cases hn
   ·rcases rc.mp hc with z|z
    ·obtain⟨q1,q2⟩:=ha c z;have ne:c≠a:=fun q=>by rw[q,hn]at q2;cases q2
     exact⟨q1,by rw[ah ne];exact q2⟩
    ·rw[lw]at z;subst z;exact⟨eS hO.kp hn,updM_same⟩
   ·by_cases z:c=a
    ·subst z;rw[updM_same]at e;cases bs with
     |nil=>exact .inr rfl
     |cons y bs=>simp at e
    ·rw[ah z]at e;exact hp c bs e
  ·obtain⟨as,e1,⟨x,rfl⟩,hO,Kx,ha,hp⟩:=hJ;rw[ES]at e1;subst e1;intro r mH;have PJ:as.length=n :=by simpa[rangeD_len] using hl
   have ne:∀{c o},M c=some o->c≠r:=fun e z=>by rw[z,mH]at e;cases e
   have RF:iq Γ.M0 (aA M r (.lst (as.map .ptr))) r as n fun _=>0 :=by
    refine⟨⟨.upd (eS hO.kp mH) hO.kp,fun c o e=>?_⟩,eS hO.kp mH,updM_same,fun a h=>⟨(ha a h).1,ne (ha a h).2⟩,Kx,PJ,fun i a h=>?_,fun c bs e=>?_⟩
    ·by_cases z:c=r
     ·subst z;rw[updM_same]at e;cases e;exact .inr (.inr ⟨as,rfl,fun a h=>⟨_,by rw[ah (ne (ha a h).2)];exact(ha a h).2⟩⟩)
     ·rw[ah z]at e;rcases hO.pin c o e with q|q|⟨bs,q1,q2⟩
      ·exact .inl q
      ·exact .inr (.inl q)
      ·refine .inr (.inr ⟨bs,q1,fun y hy=>?_⟩)
       obtain⟨u,hu⟩:=q2 y hy;exact⟨u,by rw[ah (ne hu)];exact hu⟩
    ·have hm:=ha a (gl h);exact⟨[],by rw[ah (ne hm.2)];exact hm.2,rfl,fun _ h=>nomatch h⟩
    ·by_cases z:c=r
     ·exact .inl z
     ·rw[ah z]at e;exact .inr (hp c bs e)
   refine⟨by omega,by omega,?_⟩
   refine bO (fun i ρ M=>∃x8 x9 ja,(eU x8/\eU x9/\eU ja)/\ρ=[some (.ptr b),some (.int (most:Nat)),some (.int (n:Nat)),some (.int (ways:Nat)),some (.int (kind:Nat)),some (.int (c7:Nat)),some (aX os),some (.ptr r),x8,x9,ja]/\iq Γ.M0 M r as n (fun j=>if ((j:Nat):Int)∈os.take i then ways else 0))
    ⟨_,_,_,⟨.none,.none,.none⟩,rfl,RF.zQ fun i _=>by simp⟩ (fun i d ρ M N2 hd hJ jn=>?_) (fun ρ M hJ=>?_)
   ·obtain⟨x8,x9,ja,⟨p8,p9,sZ⟩,rfl,RF⟩:=hJ;obtain⟨rfl,hi⟩:=cf hd;have k9:i<os.length :=by omega
    obtain⟨g0,g1⟩:=gC.mem (wn k9);obtain⟨pk,Ky⟩:=FS g0;have F5:pk<n :=by omega
    have jL:bo (os.map Dv.int) ((i:Nat):Int)=some (.int (pk:Nat)):=b9 (by rw[ij,ac k9,Ky];rfl)
    have Kz:pk<as.length :=by omega
    have RT:bo (as.map Dv.ptr) ((pk:Nat):Int)=some (.ptr as[pk]):=b9 (by rw[ij,ac Kz];rfl)
    have Of:as[pk]?=some as[pk]:=ac Kz;have PK:((pk:Nat):Int) ∉ os.take i:=fun z=>by
     obtain⟨j,hj,e⟩:=UC.mp z;rw[List.getElem_take,<- Ky]at e;rw[T0]at hj;exact Cs.mp gC.nodup j i (by omega) k9 (by omega) e
    simp! only[];refine⟨by omega,by omega,by omega,rO (EJ c7 i) (fun d=>.int (qR os d)) (fun τ M'=>(∃x,τ=[x,some (aX os),some (.int (c7:Nat)),some (.int (i:Nat))])/\M'=M) ⟨⟨_,rfl⟩,rfl⟩ (fun d hd τ M' hI R0 R h1 h2=>?_) (fun τ M' hI=>?_)⟩
    ·obtain⟨⟨x,rfl⟩,rfl⟩:=hI;obtain⟨j,hj,rfl⟩:=jv hd;simp only[GM]at h1 h2 ⊢;obtain⟨gx,F4,g0,g1⟩:=gC.at hj;have hg:qR os (.int (j:Nat))=gx:=vZ F4;simp! only[F4];refine⟨by omega,by omega,fK (fun h=>?_) (fun h=>?_)⟩
     ·rw[hg]at h1;exact h1 h _ _ ⟨⟨_,rfl⟩,rfl⟩
     ·exact h2 h _ _ ⟨⟨_,rfl⟩,rfl⟩
    ·obtain⟨⟨x,rfl⟩,rfl⟩:=hI;obtain⟨gs,RU,SU,SV,RV⟩:=EK (i:=i) gC (per:=c7) (by omega) (by omega)
     rw[RU];refine⟨by omega,by omega,?_⟩
     refine bO (fun f ρ M=>(∃ja,eU ja/\ρ=[some (.ptr b),some (.int (most:Nat)),some (.int (n:Nat)),some (.int (ways:Nat)),some (.int (kind:Nat)),some (.int (c7:Nat)),some (aX os),some (.ptr r),some (.int (i:Nat)),some (aX gs),ja])/\iq Γ.M0 M r as n (fun j=>if j=pk then f else if ((j:Nat):Int)∈os.take i then ways else 0))
      ⟨⟨_,sZ,rfl⟩,RF.zQ fun j _=>by
       by_cases z:j=pk
       ·subst z;rw[if_neg PK,if_pos rfl]
       ·rw[if_neg z]⟩ (fun f d ρ M N3 hd hJ CO=>?_) (fun ρ M hJ=>?_)
     ·obtain⟨⟨ja,sZ,rfl⟩,RF⟩:=hJ;obtain⟨rfl,hf⟩:=cf hd;obtain⟨row,em,ro⟩:=RF.rows pk _ Of;rw[if_pos rfl]at ro;simp! only[jL,RF.rm,RT,em];refine⟨b,_,rfl,RF.own.kp _ _ hb,by omega,by omega,fun t ht=>?_⟩
      have F6:t<gs.length :=by omega
      simp only[show bo (gs.map Dv.int) (t:Int)=some (.int gs[t]) from b9 (by rw[ij,ac F6];rfl),em,br,ro.1]
      have RW:=RV _ (wn F6);have er:row.map Dv.int++[Dv.int gs[t]]=(row++[gs[t]]).map Dv.int :=by rw[mv];rfl
      rw[er];refine⟨by omega,CO _ _ ⟨⟨_,.int _,rfl⟩,(RF.set Of (row:=row++[gs[t]]) (m:=f+1) ⟨by rw[zw,ro.1];rfl,fun y hy=>?_⟩).zQ fun j _=>?_⟩⟩
      ·rcases rc.mp hy with z|z
       ·exact ro.2 y z
       ·rw[lw.mp z];exact RW
      ·by_cases z:j=pk
       ·rw[if_pos z,if_pos z]
       ·rw[if_neg z,if_neg z,if_neg z]
     ·obtain⟨⟨ja,sZ,rfl⟩,RF⟩:=hJ;rw[rangeD_len]at RF;refine jn _ _ ⟨_,_,_,⟨.int _,.lI gs,sZ⟩,rfl,RF.zQ fun j _=>?_⟩
      have m7:((j:Nat):Int)∈os.take (i+1) ↔ ((j:Nat):Int)∈os.take i\/j=pk :=by
       rw[TJ,rc,ac k9,Ky];constructor
       ·rintro (z|z)
        ·exact .inl z
        ·have:((j:Nat):Int)=(pk:Nat) :=by simpa using z
         exact .inr (by omega)
       ·rintro (z|z)
        ·exact .inl z
        ·exact .inr (by simp[z])
      by_cases z:j=pk
      ·rw[if_pos z,if_pos (m7.mpr (.inr z))]
      ·rw[if_neg z];by_cases y:((j:Nat):Int)∈os.take i
       ·rw[if_pos y,if_pos (m7.mpr (.inl y))]
       ·rw[if_neg y,if_neg (fun q=>(m7.mp q).elim y z)]
   ·obtain⟨x8,x9,ja,⟨p8,p9,sZ⟩,rfl,RF⟩:=hJ;rw[rangeD_len]at RF;refine hN _ _ ⟨r,as,os,_,_,_,⟨p8,p9,sZ⟩,rfl,RF.full fun j hj=>?_,gC⟩
    rw[TV (by omega),if_pos (gC.perm.mem_iff.mpr (ff.mpr ⟨j,lm.mpr hj,rfl⟩))]
 rintro ρ M ⟨r,as,os,x8,x9,ja,⟨p8,p9,sZ⟩,rfl,RM,gC⟩;have FC:=gC.len;have zS:∀{as:List al} {M:Mh} {p:Nat},cZ Γ.M0 M r as n ways->p<n->∃a,bo (as.map Dv.ptr) ((p:Nat):Int)=some (.ptr a)/\a∈as:=fun {as M p} RM hp=>by
  have hl:p<as.length :=by rw[RM.len];exact hp
  exact⟨as[p],b9 (by rw[ij,ac hl];rfl),wn hl⟩
 refine ou (fun ρ M=>∃(as:List al) (x8:Option Dv),eU x8/\ρ=[some (.ptr b),some (.int (most:Nat)),some (.int (n:Nat)),some (.int (ways:Nat)),some (.int (kind:Nat)),some (.int (c7:Nat)),some (aX os),some (.ptr r),x8,x9,ja]/\cZ Γ.M0 M r as n ways) (fun N hN=>?_) ?_
 ·simp! only[];refine fK (fun h=>⟨by omega,by omega,?_⟩) (fun _=>hN _ _ ⟨as,_,p8,rfl,RM⟩)
  refine bO (fun i ρ M=>∃(as:List al) (x8:Option Dv),eU x8/\ρ=[some (.ptr b),some (.int (most:Nat)),some (.int (n:Nat)),some (.int (ways:Nat)),some (.int (kind:Nat)),some (.int (c7:Nat)),some (aX os),some (.ptr r),x8,x9,ja]/\cZ Γ.M0 M r as n ways) ⟨as,_,p8,rfl,RM⟩ (fun i d ρ M N2 hd hJ jn=>?_) (fun ρ M hJ=>hN _ _ hJ)
  obtain⟨as,x8,p8,rfl,RM⟩:=hJ;obtain⟨rfl,hi⟩:=cf hd;obtain⟨p,hp,pn⟩:=gC.prev hi;obtain⟨g,hg,g0,g1⟩:=gC.at hi;obtain⟨a,ea,ha⟩:=zS RM pn;obtain⟨row,em,ro⟩:=RM.row a ha;simp! only[hg,hp,RM.rm,ea];refine⟨b,_,rfl,RM.kp _ _ hb,by omega,by omega,fun t ht=>?_⟩
  simp only[em,br,ro.1,oz (show t<ways by omega)]
  rw[pC];exact jn _ _ ⟨as,_,.int _,rfl,RM.rD ha (ro.set g0 g1)⟩
 rintro ρ M ⟨as,x8,p8,rfl,RM⟩;refine ou (fun ρ M=>∃(as:List al) (x8:Option Dv),eU x8/\ρ=[some (.ptr b),some (.int (most:Nat)),some (.int (n:Nat)),some (.int (ways:Nat)),some (.int (kind:Nat)),some (.int (c7:Nat)),some (aX os),some (.ptr r),x8,x9,ja]/\cZ Γ.M0 M r as n ways) (fun N hN=>?_) ?_
 ·simp! only[];refine fK (fun h=>⟨by omega,by omega,?_⟩) (fun _=>hN _ _ ⟨as,_,p8,rfl,RM⟩)
  refine bO (fun i ρ M=>∃(as:List al) (x8:Option Dv),eU x8/\ρ=[some (.ptr b),some (.int (most:Nat)),some (.int (n:Nat)),some (.int (ways:Nat)),some (.int (kind:Nat)),some (.int (c7:Nat)),some (aX os),some (.ptr r),x8,x9,ja]/\cZ Γ.M0 M r as n ways) ⟨as,_,p8,rfl,RM⟩ (fun i d ρ M N2 hd hJ jn=>?_) (fun ρ M hJ=>?_)
  ·obtain⟨as,x8,p8,rfl,RM⟩:=hJ;obtain⟨rfl,hi⟩:=cf hd;obtain⟨p,hp,pn⟩:=gC.prev hi;obtain⟨g,hg,g0,g1⟩:=gC.at hi;simp! only[hg,hp];refine⟨by omega,⟨by omega,by omega,by omega⟩,fun a xV=>?_⟩
   have nr:r≠a:=fun z=>by rw[<- z,RM.rm]at xV;cases xV
   rw[Hc];simp only[ah nr,RM.rm,br,RM.len,oz pn];exact jn _ _ ⟨_,_,.int _,rfl,RM.put xV ⟨by rw[SZ],fun x hx=>by rw[List.eq_of_mem_replicate hx];exact⟨g0,g1⟩⟩ pn⟩
  ·obtain⟨as,x8,p8,rfl,RM⟩:=hJ;obtain⟨a,ea,ha⟩:=zS RM (p:=0) (by omega)
   have ea:bo (as.map Dv.ptr) 0=some (.ptr a):=ea;obtain⟨row,em,ro⟩:=RM.row a ha;simp! only[];refine⟨b,_,rfl,RM.kp _ _ hb,by omega,by omega,fun t ht=>?_⟩
   simp! only[RM.rm,ea,em,ro.1,show ft ways 0=some 0 from oz (d:=0) (by omega)]
   rw[pC];exact hN _ _ ⟨as,_,p8,rfl,RM.rD ha (ro.set (by omega) (by omega))⟩
 rintro ρ M ⟨as,x8,p8,rfl,RM⟩;have nb:∀{c o},Γ.M0 c=some o->c≠r:=fun e z=>by rw[z,RM.r0]at e;cases e
 have dk:Keeps Γ.M0 (bD M r):=fun c o e=>by rw[a9 (nb e)];exact RM.kp c o e
 refine .inr ⟨r,_,rfl,RM.rm,RM.r0,⟨fun j d e=>?_,fun c o e=>?_⟩,?_⟩
 ·match j,e with
  |0,e=>cases e;exact .ptr (by rw[dk _ _ hb];rfl)
  |1,e=>cases e;exact .int _
  |2,e=>cases e;exact .int _
  |3,e=>cases e;exact .int _
  |4,e=>cases e;exact .int _
  |5,e=>cases e;exact .int _
  |6,e=>cases e;exact .lst (dg _)
  |7,e=>cases e;exact .lst fun d hd=>by
                obtain⟨a,ha,rfl⟩:=ff.mp hd;obtain⟨row,em,_⟩:=RM.row a ha;exact .ptr (by rw[a9 (RM.fr a ha).2,em];rfl)
  |8,e=>exact p8 _ _ (kw e)
  |9,e=>exact p9 _ _ (kw e)
  |10,e=>exact sZ _ _ (kw e)
  |j+11,e=>exact nomatch e
 ·have nc:c≠r:=fun z=>by rw[z,b6]at e;cases e
  rw[a9 nc]at e;rcases RM.pin c o e with q|q|⟨row,rfl⟩|⟨bs,rfl,q2⟩
  ·exact .inl q
  ·exact absurd q nc
  ·exact .inr (dg row)
  ·refine .inr fun d hd=>?_
   obtain⟨a,ha,rfl⟩:=ff.mp hd;obtain⟨h1,u,h2⟩:=q2 a ha;exact .ptr (by rw[a9 h1,h2];rfl)
 ·simp! only[];refine⟨by rw[RM.len];omega,iD (acc:=[]) (fun acc τ M'=>∃rs:List (List Int),acc=rs.map eI/\(∃x,τ=[x])/\(∀row∈rs,eR n ways row)/\M'=bD M r) ⟨[],rfl,⟨_,rfl⟩,(fun _ h=>nomatch h),rfl⟩ (fun i d acc τ M' hd _ ⟨rs,e1,⟨x,e2⟩,qS,eM⟩ R hR=>?_) (fun ys τ M' hl ⟨rs,e1,⟨x,e2⟩,qS,eM⟩=>?_)⟩
  ·subst e1 e2 eM;obtain⟨a,ha,rfl⟩:=nR hd;have ha:=gl ha;obtain⟨row,em,ro⟩:=RM.row a ha;simp! only[a9 (RM.fr a ha).2,em];refine hR _ _ _ ⟨rs++[row],by rw[mv];rfl,⟨_,rfl⟩,fun c hc=>?_,rfl⟩
   rcases rc.mp hc with z|z
   ·exact qS c z
   ·rw[lw]at z;rw[z];exact ro
  ·rw[ES]at e1;subst e1 e2 eM;have Kd:rs.length=n :=by rw[br,br,RM.len]at hl;exact hl
   exact kD dk (qJ rs) (q rs ways ⟨by omega,by omega,w2,fun row hr=>⟨(qS row hr).1,fun g hg=>by rw[Kd];exact(qS row hr).2 g hg⟩⟩ (by omega))
theorem wQ:aO ["thing"] ["thing"] (ai fT):=⟨rfl,rfl,rfl,by decide +kernel,rfl,by decide +kernel,by decide +kernel⟩
theorem oC:aO ["thing","many"] ["thing","many"] (ai dB):=⟨rfl,rfl,rfl,by decide +kernel,rfl,by decide +kernel,by decide +kernel⟩
theorem CP:aO ["thing","many","width"] ["thing","many","width"] (ai j5):=⟨rfl,rfl,rfl,by decide +kernel,rfl,by decide +kernel,by decide +kernel⟩
theorem nV:aO ["thing","many","width"] ["thing"] (ai j6):=⟨rfl,rfl,rfl,by decide +kernel,rfl,by decide +kernel,by decide +kernel⟩
def rQ (d:Dv):Bool:=(isD "int" (fun _=>none) d).isSome
def CQ:Dv->Bool | .int _=>true|_=>false
def gE (m:Int):Dv->Bool | .int i=>decide (0<=i) && decide (i<m)|_=>false
def KA:dA:=fun ds M Q _=>∃d,ds=[d]/\rQ d=true/\Q (.bl (CQ d)) M
theorem wR {f:al}{fd:mo}(D:Df K mg "is_whole" fT ["thing"] f fd) (bl:Bl mg):FnOk P w K mg base bK 1 f fd ["thing"] (bh P w K tb KA) :=by
 refine eO D wQ (fun ds M Q E hS=>by obtain⟨d,e,_⟩:=hS;rw[e];rfl) fun A outer s E Γ ds Q' E' hP hw hK ht hr hS=>?_
 obtain⟨d,e,hk,q⟩:=hS;refine⟨_,(au (aZ (la (ay (eL (K:=K) rfl) rfl bl.isinstance_ b5 (aa (qv 0) (aa (fR (v:=.ty "int") rfl bl.int_ Bd rfl) ae))) (nK (BO (ay (eL (K:=K) rfl) rfl bl.isinstance_ b5 (aa (qv 0) (aa (fR (v:=.ty "bool") rfl bl.bool_ xF rfl) ae)))))))),?_⟩
 subst e;cases d<;>first|exact⟨by decide,⟨by decide,.inl q⟩⟩|exact⟨by decide,.inl q⟩|exact nomatch hk
def KC:dA:=fun ds M Q _=>∃d m,ds=[d,.int m]/\rQ d=true/\Q (.bl (gE m d)) M
theorem oE {f f1:al}{fd bV:mo}(D:Df K mg "is_whole_below" dB ["thing","many"] f fd) (cN:Df K mg "is_whole" fT ["thing"] f1 bV) (bl:Bl mg):FnOk P w K mg base bK 2 f fd ["thing","many"] (bh P w K tb KC) :=by
 have zT:=wR (P:=P) (w:=w) (base:=base) (tb:=tb) cN bl;refine eO D oC (fun ds M Q E hS=>by obtain⟨d,m,e,_⟩:=hS;rw[e];rfl) fun A outer s E Γ ds Q' E' hP hw hK ht hr hS=>?_
 obtain⟨d,m,e,hk,q⟩:=hS;refine⟨_,(au (aZ (la (aJ zT (hr.mono (by decide)) rfl cN.mg cN.fn.kp cN.bd bJ hP hw hK ht XR.none (aa (qv 0) ae)) (nK (Eh El vr ak (qv 0) (qv 1)))))),?_⟩
 subst e;refine⟨d,rfl,hk,?_⟩;cases d with
 |int i=>
  simp! only[CQ];refine fK (fun h=>?_) (fun h=>?_)
  ·rw[show gE m (.int i)=decide (i<m) by simp only[gE,h,Rs]]at q
   exact .inl q
  ·rw[show gE m (.int i)=false by simp only[gE,h,OL]]at q
   exact .inl q
 |_=>exact .inl q
def iG (m:Int) (w:Nat):Dv->Bool | .tup ds=>decide (ds.length=w) && ds.all (gE m)|_=>false
def EL:Dv->Bool | .tup ds=>ds.all rQ|d=>rQ d
def KD:dA:=fun ds M Q _=>∃d m w,ds=[d,.int m,.int (w:Nat)]/\EL d=true/\Q (.bl (iG m w d)) M
theorem CT {f f1 f2:al}{fd bV fd2:mo}{lX bb:al}(D:Df K mg "is_row" j5 ["thing","many","width"] f fd) (iH:Be base fd lX bb) (hp:bb∈tb) (eE:∃bm ob,T5 base mainGlobals mg bm ob)
  (bQ:Df K mg "is_whole_below" dB ["thing","many"] f1 bV) (cN:Df K mg "is_whole" fT ["thing"] f2 fd2) (bl:Bl mg):FnOk P w K mg base bK 4 f fd ["thing","many","width"] (bh P w K tb KD) :=by
 have pD:=oE (P:=P) (w:=w) (base:=base) (tb:=tb) bQ cN bl;refine eO D CP (fun ds M Q E hS=>by obtain⟨d,m,n,e,_⟩:=hS;rw[e];rfl) fun A outer s E Γ ds Q' E' hP hw hK ht hr hS=>?_
 obtain⟨d,m,n,e,hk,q⟩:=hS;have zU:bb∈Γ.tb:=ht▸hp;refine⟨_,(af (dP (QW.pt (og (gB (fH (ay (eL (K:=K) rfl) rfl bl.isinstance_ b5 (aa (qv 0) (aa (fR (v:=.ty "tuple") rfl bl.tuple_ gP rfl) ae))))) (nJ (bE En (ay (cD (K:=K) rfl hK) rfl bl.len_ r9 (aa (qv 0) ae)) (qv 2) (bW _)))))
   (au (aZ jt))
   qss_nil)
  (au (aZ (B3 (k:=2) (N':=["goal","many"]) (tn:=1) (idx:=[1]) zU (hr.mono (by decide)) rfl (show aB ["thing","many","width"] (ai j5) _ ["goal","many"] 1 [1] from by decide +kernel) rfl rfl iH.code iH.hd eE rfl bl.all_ (lg (K:=K) rfl (qv 0)) (fun _ _ _ _ _ _ _ hr=>(aI (i:=0) (show xz [("goal" : cb),("many" : cb)] from by decide +kernel) rfl (l6 rfl))) (fun _ _ _ _ _ _ _ hr=>cc) (fun _ _ _ _ _ _ _ hr=>(aJ pD (hr.mono (by decide)) rfl bQ.mg bQ.fn.kp bQ.bd bJ hP hw hK ht XR.none (aa (qv 0) (aa (qv 1) ae)))))))),?_⟩
 subst e;cases d with
 |tup es=>
  refine⟨by decide,fK (c := !decide ((es.length:Int)=(n:Nat))) (fun h=>?_) (fun h=>?_)⟩
  ·rw[show iG m n (.tup es)=false by simp at h;simp[iG];intro z;omega]at q
   exact .inl q
  ·rw[show iG m n (.tup es)=es.all (gE m) by simp at h;simp[iG,show es.length=n by omega]]at q
   refine rN (gE m) (fun τ=>∃x,τ=[x,some (.int m)]) ⟨none,rfl⟩ (fun d hd τ ⟨x,e⟩ R hR=>?_) (.inl q)
   subst e;exact⟨d,m,rfl,tw.mp hk d hd,hR _ ⟨_,rfl⟩⟩
 |_=>first|exact⟨by decide,.inl q⟩|exact nomatch hk
def ka:Dv->Bool | .tup rs=>decide (1<=rs.length/\rs.length<=9) && (rs.all (iG rs.length 2) || rs.all (iG rs.length 3))|_=>false
def zV:Dv->Bool | .tup rs=>rs.all EL|d=>rQ d
def KG:dA:=fun ds M Q _=>∃d,ds=[d]/\zV d=true/\Q (.bl (ka d)) M
theorem CU {f f1 f2 f3:al}{fd bV fd2 td:mo}{lX bb v3 bA:al}(D:Df K mg "is_net" j6 ["thing"] f fd) (lY:Be base fd v3 bA) (F5:bA∈tb) (gR:Df K mg "is_row" j5 ["thing","many","width"] f3 td) (iH:Be base td lX bb) (hp:bb∈tb) (eE:∃bm ob,T5 base mainGlobals mg bm ob)
  (bQ:Df K mg "is_whole_below" dB ["thing","many"] f1 bV) (cN:Df K mg "is_whole" fT ["thing"] f2 fd2) (bl:Bl mg) {tk:Vl} (iI:mg "MOST_PLACES" = some (.int 9 tk)):FnOk P w K mg base bK 6 f fd ["thing"] (bh P w K tb KG) :=by
 have ER:=CT (P:=P) (w:=w) (tb:=tb) gR iH hp eE bQ cN bl;refine eO D nV (fun ds M Q E hS=>by obtain⟨d,e,_⟩:=hS;rw[e];rfl) fun A outer s E Γ ds Q' E' hP hw hK ht hr hS=>?_
 obtain⟨d,e,hk,q⟩:=hS;have lZ:bA∈Γ.tb:=ht▸F5;refine⟨_,(af (dP (QW.pt (og (gB (fH (ay (eL (K:=K) rfl) rfl bl.isinstance_ b5 (aa (qv 0) (aa (fR (v:=.ty "tuple") rfl bl.tuple_ gP rfl) ae))))) (nJ (gB (Ei El El ak (ay (cD (K:=K) rfl hK) rfl bl.len_ r9 (aa (qv 0) ae)) (Eg (i:=9) rfl iI ⟨_,rfl⟩))))))
   (au (aZ jt))
   qss_nil)
  (af (aC (i:=1) nV.nd rfl (LM rfl) (ay (cD (K:=K) rfl hK) rfl bl.len_ r9 (aa (qv 0) ae)))
  (af (dQ rf rfl (lg (K:=K) rfl (jU (aa ak (aa ak ae)))) (fun j7 eP ew eK et=>by have hP:=hP.trans eP.symm;have hw:=hw.trans ew.symm;have hK:=hK.trans eK.symm;have ht:=ht.trans et.symm;have lZ:=et.symm▸lZ;exact⟨(aI (i:=2) nV.nd rfl (LM rfl)),(au (dP (fH (B3 (k:=4) (N':=["row","many","width"]) (tn:=1) (idx:=[1,2]) lZ (hr.mono (by decide)) rfl (show aB ["thing","many","width"] (ai j6) _ ["row","many","width"] 1 [1,2] from by decide +kernel) rfl rfl lY.code lY.hd eE rfl bl.all_ (lg (K:=K) rfl (qv 0)) (fun _ _ _ _ _ _ _ hr=>(aI (i:=0) (show xz [("row" : cb),("many" : cb),("width" : cb)] from by decide +kernel) rfl (l6 rfl))) (fun _ _ _ _ _ _ _ hr=>cc) (fun _ _ _ _ _ _ _ hr=>(aJ ER (hr.mono (by decide)) rfl gR.mg gR.fn.kp gR.bd bJ hP hw hK ht XR.none (aa (qv 0) (aa (qv 1) (aa (qv 2) ae)))))))
   (au (aZ jt))
   qss_nil))⟩))
  (au (aZ jt))))),?_⟩
 subst e;cases d with
 |tup rs=>
  refine⟨by decide,?_⟩
  have row:∀(n:Nat) (D:Bool->Mh->Prop),(D (rs.all (iG rs.length n)) Γ.M0)->ky (zgName 0) zNoIf (zCall KD (fun _ _=>False) (zCons (zVar 0) (zCons (zVar 1) (zCons (zVar 2) zNil)))) rs [none,some (.int rs.length),some (.int (n:Nat))] Γ.M0 D:=fun n D hD=>by
   refine rN (iG rs.length n) (fun τ=>∃x,τ=[x,some (.int rs.length),some (.int (n:Nat))]) ⟨none,rfl⟩ (fun d hd τ ⟨x,e⟩ R hR=>?_) hD
   subst e;exact⟨d,rs.length,n,rfl,tw.mp hk d hd,hR _ ⟨_,rfl⟩⟩
  simp! only[];refine fK (fun h1=>fK (fun h2=>?_) (fun h2=>⟨by decide,?_⟩)) (fun h1=>?_)
  ·rw[show ka (.tup rs)=false by simp at h1 h2;simp[ka];intro z;omega]at q
   exact .inl q
  ·have e:ka (.tup rs)=(rs.all (iG rs.length 2) || rs.all (iG rs.length 3)) :=by
    simp at h1 h2;simp only[ka];rw[decide_eq_true (by omega),Rs]
   rw[e]at q;refine row 2 _ (fK (fun z=>?_) (fun z=>row 3 _ (fK (fun z2=>?_) (fun z2=>?_))))
   ·rw[z]at q;exact .inl q
   ·rw[z,z2]at q;exact .inl q
   ·rw[z,z2]at q;exact .inl q
  ·rw[show ka (.tup rs)=false by simp at h1;simp[ka];intro z;omega]at q
   exact .inl q
 |_=>first|exact⟨by decide,.inl q⟩|exact nomatch hk
theorem wU:aO ["thing"] ["thing"] (ai ik):=⟨rfl,rfl,rfl,by decide +kernel,rfl,by decide +kernel,by decide +kernel⟩
theorem CV {m:Int}{g:Int}(h:0<=g/\g<m):gE m (.int g)=true :=by simp[gE,h.1,h.2]
theorem yx {az:List (List Int)}{n:Nat}(o:fu az n):ka (eN az)=true :=by
 have hr:∀d∈az.map eI,iG (az.map eI).length n d=true:=fun d hd=>by
  obtain⟨r,hr,rfl⟩:=ff.mp hd;obtain⟨h1,h2⟩:=o.row r hr;simp only[iG,br];rw[decide_eq_true h1,Rs,tw];intro d hd;obtain⟨g,hg,rfl⟩:=ff.mp hd;exact CV (h2 g hg)
 have ho:=o.one;have hn:=o.nine;simp only[ka,eN];rw[decide_eq_true (by rw[br];omega),Rs]
 have ha:=tw.mpr hr;rcases o.wid with rfl|rfl
 ·rw[ha];rfl
 ·rw[ha,Bool.or_true]
theorem yy (az:List (List Int)):zV (eN az)=true :=by
 simp only[zV,eN];rw[tw];intro d hd;obtain⟨r,_,rfl⟩:=ff.mp hd;simp only[EL,eI];rw[tw];intro d hd;obtain⟨g,hg,rfl⟩:=ff.mp hd;rfl
def zW (C:al):dA:=fun ds M Q E=>∃d,ds=[d]/\zV d=true/\(ka d=true->Q .ao M)/\(ka d=false->E C M)
theorem wV {f f1:al}{fd bV:mo}{C0 C_NoNet:al}{cs:List al}(D:Df K mg "need_net" ik ["thing"] f fd) (gS:Df K mg "is_net" j6 ["thing"] f1 bV) (pE:FnOk P w K mg base bK 6 f1 bV ["thing"] (bh P w K tb KG))
  (X_:Ea K C0 cs) (rR:C_NoNet∈cs) (rS:mg "NoNet" = some (.ref C_NoNet)):FnOk P w K mg base (eX P w) 7 f fd ["thing"] (bh P w K tb (zW C_NoNet)) :=by
 refine oo D wU (fun ds M Q E hS=>by obtain⟨d,e,_⟩:=hS;rw[e];rfl) fun A outer s E Γ ds Q' E' hP hw hK ht hE hr hS=>?_
 obtain⟨d,e,hk,q1,q2⟩:=hS;refine⟨_,(au (dP (gB (fH (aJ pE (hr.mono (by decide)) rfl gS.mg gS.fn.kp gS.bd bJ hP hw hK ht XR.none (aa (qv 0) ae))))
   (au (vB (X_.ex _ rR) PySem.F.excBase_ValueError rfl Bw hE rfl rS (aa vm ae)))
   qss_nil)),?_⟩
 subst e;simp! only[];refine⟨d,rfl,hk,fK (fun h=>?_) (fun h=>?_)⟩
 ·exact⟨by decide,q2 (by simpa using h)⟩
 ·exact .inl (q1 (by simpa using h))
end
section
variable {P:i4}{w:i8}{K:bn}{mg:cb->Option ap}{base:kt}{tb:dy}{C_NoNet C_NoSign C0:al}{cs:List al}
theorem wW:aO ["net"] ["net"] (ai jw):=⟨rfl,rfl,rfl,by decide +kernel,rfl,by decide +kernel,by decide +kernel⟩
theorem zX:aO ["net","thing"] ["net","thing"] (ai kM):=⟨rfl,rfl,rfl,by decide +kernel,rfl,by decide +kernel,by decide +kernel⟩
theorem v7:aO ["net","thing"] ["net","thing"] (ai iN):=⟨rfl,rfl,rfl,by decide +kernel,rfl,by decide +kernel,by decide +kernel⟩
def sgn (w:Nat):cb:=Vn "abc" none (some (w:Int))
def sg (k:Nat):cb:=⟨#[97+k]⟩
theorem KH {az:List (List Int)}{n k:Nat}(h:k<az.length):bo (az.map eI) ((k:Nat):Int)=some (eI az[k]):=b9 (by rw[ij,ac h];rfl)
theorem rT {az:List (List Int)}{n:Nat}(o:fu az n):∃r,bo (az.map eI) 0=some (eI r)/\r.length=n :=by
 have:=o.one;exact⟨az[0],KH (n:=n) (k:=0) (by omega),(o.row _ (wn _)).1⟩
def CW:dA:=fun ds M Q _=>∃az n,ds=[eN az]/\fu az n/\Q (.str (sgn n)) M
theorem wX {f f1:al}{fd bV:mo}(D:Df K mg "signs_of" jw ["net"] f fd)
  (cx:Df K mg "need_net" ik ["thing"] f1 bV) (fU:FnOk P w K mg base (eX P w) 7 f1 bV ["thing"] (bh P w K tb (zW C_NoNet))) (bl:Bl mg) {tk:Vl} (iJ:mg "SIGNS" = some (.str "abc" tk)) :
  FnOk P w K mg base (eX P w) 8 f fd ["net"] (bh P w K tb CW) :=by
 refine oo D wW (fun ds M Q E hS=>by obtain⟨az,n,e,_⟩:=hS;rw[e];rfl) fun A outer s E Γ ds Q' E' hP hw hK ht hE hr hS=>?_
 obtain⟨az,n,e,o,q⟩:=hS;refine⟨_,(af (fb (aJ fU (hr.mono (by decide)) rfl cx.mg cx.fn.kp cx.bd n8 hP hw hK ht hE (aa (qv 0) ae)))
  (au (aZ (Ep Mq (vn (z := "abc") rfl iJ ⟨_,rfl⟩) GX (GY (ay (cD (K:=K) rfl hK) rfl bl.len_ r9 (aa (aE (aT (K:=K) rfl) (qv 0) ak (fun _ _=>rfl)) ae))))))),?_⟩
 subst e;obtain⟨r,h0,hl⟩:=rT o;refine⟨_,rfl,yy az,fun _=>?_,fun h=>by rw[yx o]at h;cases h⟩
 simp! only[h0,hl];exact⟨by decide,.inl q⟩
def oA (n:Nat):Dv->Bool | .str z=>decide (z.length=1) && FL z (sgn n)|_=>false
theorem EV {n k:Nat}(hn:n=2\/n=3) (hk:k<n):oA n (.str (sg k))=true :=by
 rcases hn with rfl|rfl
 ·have:k=0\/k=1 :=by omega
  rcases this with rfl|rfl<;>decide +kernel
 ·have:k=0\/k=1\/k=2 :=by omega
  rcases this with rfl|rfl|rfl<;>decide +kernel
def Og (d:Dv):Prop:=rQ d=true/\∀z,d=.str z->z.length<=10000
def F7:dA:=fun ds M Q _=>∃az n d,ds=[eN az,d]/\fu az n/\Og d/\Q (.bl (oA n d)) M
theorem zY {f f1:al}{fd bV:mo}(D:Df K mg "is_sign" kM ["net","thing"] f fd)
  (fV:Df K mg "signs_of" jw ["net"] f1 bV) (md:FnOk P w K mg base (eX P w) 8 f1 bV ["net"] (bh P w K tb CW)) (bl:Bl mg) :
  FnOk P w K mg base (eX P w) 9 f fd ["net","thing"] (bh P w K tb F7) :=by
 refine oo D zX (fun ds M Q E hS=>by obtain⟨az,n,d,e,_⟩:=hS;rw[e];rfl) fun A outer s E Γ ds Q' E' hP hw hK ht hE hr hS=>?_
 obtain⟨az,n,d,e,o,⟨hk,hz⟩,q⟩:=hS;refine⟨_,(au (aZ (la (ay (eL (K:=K) rfl) rfl bl.isinstance_ b5 (aa (qv 1) (aa (fR (v:=.ty "str") rfl bl.str_ I0 rfl) ae))) (la (oe kQ (ay (cD (K:=K) rfl hK) rfl bl.len_ r9 (aa (qv 1) ae)) ak (bW _)) (nK (oe Eo (qv 1) (aJ md (hr.mono (by decide)) rfl fV.mg fV.fn.kp fV.bd n8 hP hw hK ht hE (aa (qv 0) ae)) (by rfl))))))),?_⟩
 subst e;cases d with
 |str z=>
  refine⟨by decide,?_⟩
  simp! only[];refine⟨wv (hz z rfl) (by decide),fK (fun h=>?_) fun h=>?_⟩
  ·refine⟨az,n,rfl,o,?_⟩;simp! only[];simp only[oA,show z.length=1 by simp at h;omega,decide_true,Rs]at q
   exact .inl q
  ·simp only[oA,show decide (z.length=1)=false by simp at h ⊢;omega,OL]at q
   exact .inl q
 |_=>first|exact⟨by decide,.inl q⟩|exact nomatch hk
def tj (C:al):dA:=fun ds M Q E=>∃az n d,ds=[eN az,d]/\fu az n/\Og d/\(oA n d=true->Q .ao M)/\(oA n d=false->E C M)
theorem v8 {f f1:al}{fd bV:mo}(D:Df K mg "need_sign" iN ["net","thing"] f fd) (g7:Df K mg "is_sign" kM ["net","thing"] f1 bV) (nW:FnOk P w K mg base (eX P w) 9 f1 bV ["net","thing"] (bh P w K tb F7))
  (X_:Ea K C0 cs) (pF:C_NoSign∈cs) (pG:mg "NoSign" = some (.ref C_NoSign)):FnOk P w K mg base (eX P w) 10 f fd ["net","thing"] (bh P w K tb (tj C_NoSign)) :=by
 refine oo D v7 (fun ds M Q E hS=>by obtain⟨az,n,d,e,_⟩:=hS;rw[e];rfl) fun A outer s E Γ ds Q' E' hP hw hK ht hE hr hS=>?_
 obtain⟨az,n,d,e,o,hk,q1,q2⟩:=hS;refine⟨_,(au (dP (gB (fH (aJ nW (hr.mono (by decide)) rfl g7.mg g7.fn.kp g7.bd n8 hP hw hK ht hE (aa (qv 0) (aa (qv 1) ae)))))
   (au (vB (X_.ex _ pF) PySem.F.excBase_ValueError rfl Bw hE rfl pG (aa vm ae)))
   qss_nil)),?_⟩
 subst e;simp! only[];refine⟨az,n,d,rfl,o,hk,fK (fun h=>?_) (fun h=>?_)⟩
 ·exact⟨by decide,q2 (by simpa using h)⟩
 ·exact .inl (q1 (by simpa using h))
end
section
def stepI (g:List Int) (x:Int):Int:=g.getD x.toNat 0
def cg (g:List Int):Prop:=∀x∈g,0<=x/\x<(g.length:Int)
def aS (g:List Int):Nat->Int->Int
 |0,p=>p
 |k+1,p=>stepI g (aS g k p)
theorem EW {g:List Int}(h:cg g) {x:Int}(h0:0<=x) (h1:x<(g.length:Int)):0<=stepI g x/\stepI g x<(g.length:Int) :=by
 unfold stepI;have hx:x.toNat<g.length :=by omega
 rw[ca,ac hx];exact h _ (wn hx)
theorem fM {g:List Int}(h:cg g) {p:Int}(h0:0<=p) (h1:p<(g.length:Int)):∀k,0<=aS g k p/\aS g k p<(g.length:Int)
 |0=>⟨h0,h1⟩
 |k+1=>EW h (fM h h0 h1 k).1 (fM h h0 h1 k).2
def dE (g:List Int):Nat->List Int
 |0=>ig g.length
 |k+1=>sortI (dW ((dE g k).map (stepI g)))
theorem qT {n:Nat}{x:Int}:x∈ig n ↔ 0<=x/\x<(n:Int) :=by
 unfold ig;rw[ff];constructor
 ·rintro⟨i,hi,rfl⟩;have:=lm.mp hi;omega
 ·rintro⟨h0,h1⟩;exact⟨x.toNat,lm.mpr (by omega),by omega⟩
theorem gT {g:List Int}:∀{k:Nat}{x:Int},x∈dE g k ↔ ∃p:Int,0<=p/\p<(g.length:Int)/\x=aS g k p
 |0,x=>by
          rw[dE,qT];exact⟨fun h=>⟨x,h.1,h.2,rfl⟩,fun⟨p,h0,h1,e⟩=>by rw[e];exact⟨h0,h1⟩⟩
 |k+1,x=>by
          rw[dE,(sortI_perm _).mem_iff,DX,ff];constructor
          ·rintro⟨y,hy,rfl⟩;obtain⟨p,h0,h1,rfl⟩:=gT.mp hy;exact⟨p,h0,h1,rfl⟩
          ·rintro⟨p,h0,h1,rfl⟩;exact⟨aS g k p,gT.mpr ⟨p,h0,h1,rfl⟩,rfl⟩
theorem oB {g:List Int}(h:cg g) (k:Nat):∀x∈dE g k,0<=x/\x<(g.length:Int):=fun x hx=>by
 obtain⟨p,h0,h1,rfl⟩:=gT.mp hx;exact fM h h0 h1 k
theorem me (g:List Int):∀k,(dE g k).length<=g.length
 |0=>by rw[dE];unfold ig;simp
 |k+1=>by
          rw[dE,(sortI_perm _).length_eq];have:=lD ((dE g k).map (stepI g));have:=me g k;rw[br]at *;omega
def a7 (g:List Int):List Int:=dE g g.length
def aP (g:List Int) (p:Int):Nat:=((im (g.length+1)).find? fun j=>decide (aS g j p∈a7 g)).getD 0
theorem kb {g:List Int}{p:Int}(h0:0<=p) (h1:p<(g.length:Int)):aP g p<=g.length/\aS g (aP g p) p∈a7 g/\∀j<aP g p,aS g j p ∉ a7 g :=by
 have hn:aS g g.length p∈a7 g:=gT.mpr ⟨p,h0,h1,rfl⟩;unfold aP;cases e:(im (g.length+1)).find? fun j=>decide (aS g j p∈a7 g) with
 |none=>
  have:=US.mp e g.length (lm.mpr (by omega))
  simp[hn]at this
 |some j=>
  obtain⟨hj,as,bs,e2,hb⟩:=List.find?_eq_some_iff_append.mp e;have hm:j∈im (g.length+1) :=by rw[e2];simp
  have hl:=lm.mp hm;refine⟨by simp only[Uh];omega,by simpa using hj,fun i hi=>?_⟩
  simp only[Uh]at hi;have hlen:as.length=j :=by
   have h3:(im (g.length+1))[as.length]?=some j :=by rw[e2];simp
   rw[cr]at h3;obtain⟨h4,h5⟩:=h3;rw[IN]at h5;exact h5
  have iU:i∈as :=by
   have h3:(im (g.length+1))[i]?=some i :=by rw[LG (by omega)]
   rw[e2,IR (by omega)]at h3
   exact gl h3
  simpa using hb i iU
def cO (g:List Int) (p:Int) (k:Nat):List Int:=(im (k+1)).map fun j=>aS g j p
theorem tp (g:List Int) (p:Int) (k:Nat):cO g p (k+1)=cO g p k++[aS g (k+1) p] :=by
 unfold cO;rw[Ti,mv];rfl
theorem mh (g:List Int) (p:Int) (k:Nat):(cO g p k).length=k+1 :=by simp[cO]
theorem ur {α:Type}{xs:List α}{x:α}:bo (xs++[x]) (-1)=some x :=by
 unfold bo ft;rw[zw,if_neg (by decide),if_pos (by simp;omega)]
 have:((-1:Int)+((xs.length + [x].length:Nat):Int)).toNat=xs.length :=by simp;omega
 rw[this];simp
theorem g8 (g:List Int) (p:Int) (k:Nat):bo ((cO g p k).map Dv.int) (-1)=some (.int (aS g k p)) :=by
 unfold cO;rw[Ti,mv,mv];exact ur
theorem step_at {g:List Int}{x:Int}(h0:0<=x) (h1:x<(g.length:Int)):bo (g.map Dv.int) x=some (.int (stepI g x)) :=by
 obtain⟨k,rfl⟩:=FS h0;unfold stepI;rw[BB];have hk:k<g.length :=by omega
 exact b9 (by rw[ij,ac hk,ca,ac hk];rfl)
theorem CY (ns:List Int):ns.foldl da []=dW ns:=rfl
end
theorem eB (g:List Int) (b:Nat) (p:Int):∀a,aS g (a+b) p=aS g a (aS g b p)
 |0=>by rw[S4];rfl
 |a+1=>by rw[show a+1+b=(a+b)+1 by omega];show stepI g (aS g (a+b) p)=stepI g (aS g a (aS g b p));rw[eB g b p a]
theorem lr:∀(ks U:List Int),ks.Nodup->(∀k∈ks,k∈U)->ks.length<=U.length
 | [],_,_,_=>sB _
 |k::ks,U,nd,h=>by
          have hn:=Sc.mp nd;have hk:=h k f8;have ih:=lr ks (U.erase k) hn.2 fun x hx=>(List.mem_erase_of_ne (fun e=>hn.1 (by rw[<- e];exact hx))).mpr (h x (ci _ hx))
          rw[List.length_erase_of_mem hk]at ih;have:=TW hk;rw[Cn];omega
theorem nX {g:List Int}(h:cg g) {p:Int}(hp:p∈a7 g):∃m,1<=m/\m<=g.length/\aS g m p=p :=by
 obtain⟨q,q0,q1,rfl⟩:=gT.mp hp;have hex:∃i j,i<j/\j<=g.length/\aS g i q=aS g j q :=by
  refine IT fun ya=>?_
  have nd:((im (g.length+1)).map fun j=>aS g j q).Nodup :=by
   rw[xz,U6];refine Cs.mpr fun i j hi hj mC e=>ya ⟨i,j,mC,?_,?_⟩
   ·rw[wT]at hj;omega
   ·rw[IN,IN]at e;exact e
  have:=lr _ (ig g.length) nd fun k hk=>by
   obtain⟨j,_,rfl⟩:=ff.mp hk;exact qT.mpr (fM h q0 q1 j)
  rw[br,wT]at this;have e:(ig g.length).length=g.length :=by simp[ig]
  omega
 obtain⟨i,j,mC,hj,e⟩:=hex;refine⟨j - i,by omega,by omega,?_⟩
 rw[<- eB,show j - i+g.length=(g.length - i)+j by omega,eB,<- e,<- eB,show g.length - i+i=g.length by omega]
def cC (g:List Int) (p:Int):Nat:=((im (g.length+1)).find? fun m=>decide (1<=m/\aS g m p=p)).getD 0
theorem mi {g:List Int}(h:cg g) {p:Int}(hp:p∈a7 g):1<=cC g p/\cC g p<=g.length/\aS g (cC g p) p=p/\∀j,1<=j->j<cC g p->aS g j p≠p :=by
 obtain⟨m,m1,m2,m3⟩:=nX h hp;unfold cC;cases e:(im (g.length+1)).find? fun m=>decide (1<=m/\aS g m p=p) with
 |none=>
  have:=US.mp e m (lm.mpr (by omega))
  simp[m1,m3]at this
 |some k=>
  have hk:=List.find?_some e;have RX:=List.mem_of_find?_eq_some e;simp only[decide_eq_true_eq]at hk;have:=lm.mp RX;refine⟨hk.1,by show k<=_;omega,hk.2,fun j j1 jk ej=>?_⟩
  rw[List.find?_eq_some_iff_append]at e;obtain⟨_,as,bs,FQ,ya⟩:=e;have RY:j∈as :=by
   have hl:as.length=k :=by
    have h1:(im (g.length+1))[as.length]?=some k :=by rw[FQ];simp
    obtain⟨h2,h3⟩:=cr.mp h1;rw[IN]at h3;exact h3
   have h1:(im (g.length+1))[j]?=some j :=by rw[LG (by have:j<k:=jk;omega)]
   rw[FQ,IR (by have:j<k:=jk;omega)]at h1
   exact gl h1
  have:=ya j RY;simp[j1,ej]at this
def mj (g:List Int) (p:Int):List Int:=(im (cC g p)).map fun j=>aS g j p
theorem qU {g:List Int}{p:Int}{m:Nat}(e:aS g m p=p):∀k,aS g (k * m) p=p
 |0=>by rw[Nat.zero_mul];rfl
 |k+1=>by rw[Nat.succ_mul,eB,e];exact qU e k
theorem wa {g:List Int}(h:cg g) {p:Int}(hp:p∈a7 g) {x:Int}:x∈mj g p ↔ ∃j,x=aS g j p :=by
 obtain⟨p1,p2,p3,_⟩:=mi h hp;unfold mj;rw[ff];constructor
 ·rintro⟨j,_,rfl⟩;exact⟨j,rfl⟩
 ·rintro⟨j,rfl⟩;refine⟨j % cC g p,lm.mpr (Uz _ (by omega)),?_⟩
  have e:j=j % cC g p+(j / cC g p) * cC g p :=by rw[Nat.mul_comm];exact(Nat.mod_add_div _ _).symm
  rw[show aS g j p=aS g (j % cC g p+(j / cC g p) * cC g p) p by rw[<- e],eB,qU p3]
theorem CZ {g:List Int}(h:cg g) {p:Int}(hp:p∈a7 g) {x:Int}(hx:x∈mj g p):x∈a7 g :=by
 obtain⟨j,rfl⟩:=(wa h hp).mp hx;obtain⟨q,q0,q1,rfl⟩:=gT.mp hp;refine gT.mpr ⟨aS g j q,(fM h q0 q1 j).1,(fM h q0 q1 j).2,?_⟩;rw[<- eB,<- eB,Nat.add_comm]
section
variable {P:i4}{w:i8}{K:bn}{mg:cb->Option ap}{base:kt}{tb:dy}{C_NoNet C_NoSign C0:al}{cs:List al}
theorem oY:aO ["net","sign","at"] ["net","sign"] (ai il):=⟨rfl,rfl,rfl,by decide +kernel,rfl,by decide +kernel,by decide +kernel⟩
theorem fW:aO ["goals","places","turn"] ["goals"] (ai e7):=⟨rfl,rfl,rfl,by decide +kernel,rfl,by decide +kernel,by decide +kernel⟩
theorem RZ {k:Nat}(h:k<3):bo ("abc" : cb).cps.toList ((k:Nat):Int)=some (97+k) :=by
 have:k=0\/k=1\/k=2 :=by omega
 rcases this with rfl|rfl|rfl<;>decide +kernel
theorem C2 {k:Nat}(h:k<3):∃rest,LB "abc" (sg k) 0 ("abc" : cb).length 1=k::rest :=by
 have:k=0\/k=1\/k=2 :=by omega
 rcases this with rfl|rfl|rfl<;>exact⟨[],by decide +kernel⟩
theorem yz {row:List Int}{k:Nat}(h:k<row.length):bo (row.map Dv.int) ((k:Nat):Int)=some (.int (row.getD k 0)):=b9 (by rw[ij,ac h,ca,ac h];rfl)
def cj (az:List (List Int)) (k:Nat):List Int:=az.map fun r=>r.getD k 0
theorem nY {az:List (List Int)}{n k:Nat}(o:fu az n) (hk:k<n):cg (cj az k):=fun x hx=>by
 obtain⟨r,hr,rfl⟩:=ff.mp hx;obtain⟨a,b⟩:=o.row r hr;unfold cj;rw[br,ca,ac (by omega)]
 exact b _ (wn _)
theorem C3 {az:List (List Int)}{n:Nat}(o:fu az n):az.length<sizeLine:=NG o.nine (by decide)
theorem mn {az:List (List Int)}{n k:Nat}(o:fu az n) (hk:k<n) {M:Mh}{x:Option Dv}{Q:List Dv->Mh->Prop}(q:Q ((cj az k).map .int) M):gq (zgName 0) zNoIf (zOp zIx (zVar 0) (zVar 1)) (az.map eI) [x,some (.int (k:Nat))] M Q :=by
 refine iC (fun d=>match d with | .tup ds=>(bo ds (k:Nat)).getD .ao|d=>d) (fun τ M'=>(∃x,τ=[x,some (.int (k:Nat))])/\M'=M) ⟨⟨x,rfl⟩,rfl⟩ (fun d hd τ M' ⟨⟨x,e⟩,e2⟩ R hR=>?_) (fun τ M' ⟨_,e⟩=>?_)
 ·subst e e2;obtain⟨r,hr,rfl⟩:=ff.mp hd;have hl:=(o.row r hr).1;have h:=hR [some (eI r),some (.int (k:Nat))] M' ⟨⟨_,rfl⟩,rfl⟩;simp! only[yz (show k<r.length by omega),Uh]at h ⊢
  exact h
 ·subst e;rw[wE];have e:az.map ((fun d=>match d with | .tup ds=>(bo ds (k:Nat)).getD .ao|d=>d) ∘ eI)=(cj az k).map Dv.int :=by
   unfold cj;rw[wE];refine LP fun r hr=>?_
   have hl:=(o.row r hr).1;simp only[RI,eI,yz (show k<r.length by omega),Uh]
  rw[e];exact q
def C4:dA:=fun ds M Q _=>∃az n k,ds=[eN az,.str (sg k)]/\fu az n/\k<n/\Q (aX (cj az k)) M
theorem wY {f f1 f2:al}{fd bV fd2:mo}(D:Df K mg "goals_of" il ["net","sign"] f fd)
  (cx:Df K mg "need_net" ik ["thing"] f1 bV) (fU:FnOk P w K mg base (eX P w) 7 f1 bV ["thing"] (bh P w K tb (zW C_NoNet)))
  (fh:Df K mg "need_sign" iN ["net","thing"] f2 fd2) (kT:FnOk P w K mg base (eX P w) 10 f2 fd2 ["net","thing"] (bh P w K tb (tj C_NoSign))) (bl:Bl mg) {tk:Vl} (iJ:mg "SIGNS" = some (.str "abc" tk)) :
  FnOk P w K mg base (eX P w) 11 f fd ["net","sign"] (bh P w K tb C4) :=by
 refine oo D oY (fun ds M Q E hS=>by obtain⟨az,n,k,e,_⟩:=hS;rw[e];rfl) fun A outer s E Γ ds Q' E' hP hw hK ht hE hr hS=>?_
 obtain⟨az,n,k,e,o,hk,q⟩:=hS;refine⟨_,(af (fb (aJ fU (hr.mono (by decide)) rfl cx.mg cx.fn.kp cx.bd n8 hP hw hK ht hE (aa (qv 0) ae)))
  (af (fb (aJ kT (hr.mono (by decide)) rfl fh.mg fh.fn.kp fh.bd n8 hP hw hK ht hE (aa (qv 0) (aa (qv 1) ae))))
  (af (aC (i:=2) oY.nd rfl (LM rfl) (ju (K:=K) rfl PySem.F.plainAttrs_str PySem.F.slot_str_index PySem.F.type_str_index Er (vn (z := "abc") rfl iJ ⟨_,rfl⟩) (aa (qv 1) ae)))
  (au (aZ (cu (N':=["row","at"]) (tn:=1) (idx:=[2]) rfl (show aB ["net","sign","at"] (ai il) _ ["row","at"] 1 [2] from by decide +kernel) (lg (K:=K) rfl (qv 0)) (fun _ _ _ _ _=>(aI (i:=0) (show xz [("row" : cb),("at" : cb)] from by decide +kernel) rfl (l6 rfl))) (fun _ _ _ _ _=>cc) (fun _ _ _ _ _=>(aE (aT (K:=K) rfl) (qv 0) (qv 1) (fun _ _=>rfl))))))))),?_⟩
 subst e;have F8:=o.wid;obtain⟨rest,hi⟩:=C2 (show k<3 by omega)
 refine⟨_,rfl,yy az,fun _=>?_,fun h=>by rw[yx o]at h;cases h⟩
 refine⟨az,n,.str (sg k),rfl,o,⟨rfl,fun z e=>by cases e;show 1<=10000;decide⟩,fun _=>?_,fun h=>by rw[EV o.wid hk]at h;cases h⟩
 simp! only[hi];exact⟨C3 o,mn o hk (.inl q)⟩
def C5:dA:=fun ds M Q _=>∃g,ds=[aX g]/\cg g/\g.length<=9/\Q (aX (a7 g)) M
theorem yA (n:Nat):kR n=(ig n).map Dv.int :=by unfold kR ig;rw[wE];rfl
theorem rV {f:al}{fd:mo}(D:Df K mg "ring_places" e7 ["goals"] f fd) (bl:Bl mg):FnOk P w K mg base bK 1 f fd ["goals"] (bh P w K tb C5) :=by
 refine eO D fW (fun ds M Q E hS=>by obtain⟨g,e,_⟩:=hS;rw[e];rfl) fun A outer s E Γ ds Q' E' hP hw hK ht hr hS=>?_
 obtain⟨g,e,qV,h9,q⟩:=hS;refine⟨_,(af (aC (i:=1) fW.nd rfl (l6 rfl) (nP rfl rfl bl.list_ rfl bl.range_ (ay (cD (K:=K) rfl hK) rfl bl.len_ r9 (aa (qv 0) ae))))
  (af (dQ rf rfl (bG rfl bl.range_ (aa (ay (cD (K:=K) rfl hK) rfl bl.len_ r9 (aa (qv 0) ae)) ae)) (fun j7 eP ew eK et=>by have hP:=hP.trans eP.symm;have hw:=hw.trans ew.symm;have hK:=hK.trans eK.symm;have ht:=ht.trans et.symm;exact⟨(aI (i:=2) fW.nd rfl (l6 rfl)),(au (aC (i:=1) fW.nd rfl (l6 rfl) (ay (vw hP hw (K:=K) rfl rfl) rfl bl.sorted_ ku (aa (zA hP hw (N':=["place","goals"]) (tn:=1) (idx:=[0]) rfl (show aB ["goals","places","turn"] (ai e7) _ ["place","goals"] 1 [0] from by decide +kernel) (cW (K:=K) rfl (qv 1)) (fun _ _ _ _ _=>(aI (i:=0) (show xz [("place" : cb),("goals" : cb)] from by decide +kernel) rfl (l6 rfl))) (fun _ _ _ _ _=>cc) (fun _ _ _ _ _=>(aE (aT (K:=K) rfl) (qv 1) (qv 0) (fun _ _=>rfl)))) ae))))⟩))
  (au (aZ (qv 1))))),?_⟩
 subst e;simp! only[];refine⟨by omega,by omega,by omega,by omega,?_⟩
 refine bO (fun k ρ M=>(∃x2,ρ=[some (aX g),some (aX (dE g k)),x2])/\M=Γ.M0) ⟨⟨_,by rw[yA];rfl⟩,rfl⟩ (fun k d ρ M N hd ⟨⟨x2,e1⟩,e2⟩ hN=>?_) (fun ρ M ⟨⟨x2,e1⟩,e2⟩=>?_)
 ·subst e1 e2;simp! only[];have Ck:=me g k;refine yj (fun d=>match d with | .int x=>stepI g x|_=>0) (fun τ M2=>(∃x,τ=[x,some (aX g)])/\M2=Γ.M0) ⟨⟨none,rfl⟩,rfl⟩ (by simp;exact NG (show _<=100 by omega) (by decide)) (fun d hd τ M2 ⟨⟨x,e⟩,e2⟩ R hR=>?_) (fun τ M2 ⟨_,e⟩=>?_)
  ·subst e e2;obtain⟨x,hx,rfl⟩:=ff.mp hd;obtain⟨h0,h1⟩:=oB qV k x hx;have h:=hR [some (.int x),some (aX g)] Γ.M0 ⟨⟨_,rfl⟩,rfl⟩;simp! only[step_at h0 h1]at h ⊢;exact h
  ·subst e;have e:((dE g k).map Dv.int).map (fun d=>match d with | .int x=>stepI g x|_=>0)=(dE g k).map (stepI g) :=by rw[wE];rfl
   rw[e,CY];have:=lD ((dE g k).map (stepI g));rw[br]at this;exact⟨by omega,hN _ _ ⟨⟨_,rfl⟩,rfl⟩⟩
 ·subst e1 e2;simp! only[];exact .inl q
theorem kc:aO ["goals","ends","told","place","tail"] ["goals"] (ai oy):=⟨rfl,rfl,rfl,by decide +kernel,rfl,by decide +kernel,by decide +kernel⟩
def dC (g:List Int) (k:Nat):List (List Int):=(im k).map fun p=>cO g (p:Nat) (aP g (p:Nat))
def C6:dA:=fun ds M Q _=>∃g,ds=[aX g]/\cg g/\g.length<=9/\Q (.lst ((dC g g.length).map aX)) M
theorem nZ {M:Mh}(ns:List Int):Pin M (aX ns):=.lst (dg ns)
theorem tq (g:List Int) (k:Nat):(dC g k).length=k :=by simp[dC]
theorem zZ (g:List Int) (k:Nat):dC g (k+1)=dC g k++[cO g (k:Nat) (aP g (k:Nat))] :=by
 unfold dC;rw[Ti,mv];rfl
theorem EX {f f1:al}{fd bV:mo}(D:Df K mg "tails" oy ["goals"] f fd) (dH:Df K mg "ring_places" e7 ["goals"] f1 bV) (bl:Bl mg):FnOk P w K mg base bK 2 f fd ["goals"] (bh P w K tb C6) :=by
 have tM:=rV (P:=P) (w:=w) (base:=base) (tb:=tb) dH bl;refine eO D kc (fun ds M Q E hS=>by obtain⟨g,e,_⟩:=hS;rw[e];rfl) fun A outer s E Γ ds Q' E' hP hw hK ht hr hS=>?_
 obtain⟨g,e,qV,h9,q⟩:=hS;refine⟨_,(af (aC (i:=1) kc.nd rfl (l6 rfl) (aJ tM (hr.mono (by decide)) rfl dH.mg dH.fn.kp dH.bd bJ hP hw hK ht XR.none (aa (qv 0) ae)))
  (af (aC (i:=2) kc.nd rfl (l6 rfl) (gY ae))
  (af (rK rf rfl (bG rfl bl.range_ (aa (ay (cD (K:=K) rfl hK) rfl bl.len_ r9 (aa (qv 0) ae)) ae)) (fun j7 M1 hM eP ew eK et=>by have hP:=hP.trans eP.symm;have hw:=hw.trans ew.symm;have hK:=hK.trans eK.symm;have ht:=ht.trans et.symm;exact⟨(aI (i:=3) kc.nd rfl (l6 rfl)),(af (aC (i:=4) kc.nd rfl (l6 rfl) (gY (aa (qv 3) ae)))
  (af (jV rf (bE (oS (K:=K) rfl) (aE (aT (K:=K) rfl) (qv 4) (i9 ak) (fun _ _=>rfl)) (qv 1) (by rfl))
   (au (fb (ju (K:=K) rfl BS CS Da gQ (qv 4) (aa (aE (aT (K:=K) rfl) (qv 0) (aE (aT (K:=K) rfl) (qv 4) (i9 ak) (fun _ _=>rfl)) (fun _ _=>rfl)) ae)))))
  (au (vG 4 hM (fb (ju (K:=K) rfl BS CS Da gQ (qv 2) (aa (qv 4) ae)))))))⟩))
  (au (aZ (qv 2)))))),?_⟩
 subst e;refine⟨g,rfl,qV,h9,?_⟩;simp! only[];refine⟨by decide,fun a ha=>⟨by omega,by omega,?_⟩⟩
 refine bO (fun k ρ M=>(∃x3 x4,ρ=[some (aX g),some (aX (a7 g)),some (.ptr a),x3,x4])/\M=aA Γ.M0 a (.lst ((dC g k).map aX))) ⟨⟨_,_,rfl⟩,rfl⟩ (fun k d ρ M N hd ⟨⟨x3,x4,e1⟩,e2⟩ hN=>?_) (fun ρ M ⟨⟨x3,x4,e1⟩,e2⟩=>?_)
 ·subst e1 e2;obtain⟨rfl,hk⟩:=cf hd;have jc:=kb (g:=g) (p:=(k:Nat)) (by omega) (by omega)
  simp! only[];refine⟨by decide,fun c hc=>?_⟩
  have CN:c≠a:=fun z=>by rw[z,updM_same]at hc;cases hc
  have yw:Γ.M0 c=none :=by rw[ah CN]at hc;exact hc
  refine⟨fun m ρ M=>∃j,m+j=aP g (k:Nat)/\ρ=[some (aX g),some (aX (a7 g)),some (.ptr a),some (.int (k:Nat)),some (.ptr c)]/\M=aA (aA Γ.M0 a (.lst ((dC g k).map aX))) c (.lst ((cO g (k:Nat) j).map .int)),⟨aP g (k:Nat),0,rfl,rfl,rfl⟩,fun m ρ M ⟨j,hj,e1,e2⟩=>?_⟩
  subst e1 e2;have hit:=fM qV (p:=(k:Nat)) (by omega) (by omega) j
  simp! only[g8,i7,Po];by_cases iV:aS g j (k:Nat)∈a7 g
  ·have ej:j=aP g (k:Nat) :=by
    by_cases h:j<aP g (k:Nat)
    ·exact absurd iV (jc.2.2 j h)
    ·omega
   subst ej;refine JX (by simp[iV]) (.inr ⟨c,_,rfl,updM_same,by rw[ah CN];exact yw,?_⟩)
   rw[zB (by rw[ah CN];exact yw)]
   refine⟨⟨fun i d hi=>?_,fun b ds hb=>?_⟩,?_⟩
   ·match i,hi with
    |0,hi=>cases hi;exact nZ _
    |1,hi=>cases hi;exact nZ _
    |2,hi=>cases hi;exact .ptr (by rw[updM_same];rfl)
    |3,hi=>cases hi;exact .int _
    |4,hi=>cases hi;exact nZ _
   ·by_cases KI:b=a
    ·subst KI;rw[updM_same]at hb;cases hb;refine .inr fun d hd=>?_
     obtain⟨r,_,rfl⟩:=ff.mp hd;exact nZ r
    ·rw[ah KI]at hb;exact .inl (by rw[ah KI];exact hb)
   ·simp! only[];refine⟨NG (show _<=9 by rw[tq];omega) (by decide),hN _ _ ⟨⟨_,_,rfl⟩,?_⟩⟩
    rw[zZ,mv];rfl
  ·have yp:j<aP g (k:Nat) :=by
    by_cases h:j<aP g (k:Nat)
    ·exact h
    ·exact absurd (show aS g j (k:Nat)∈a7 g from (show j=aP g (k:Nat) by omega)▸jc.2.1) iV
   refine JW (by simp[iV]) ?_
   simp! only[step_at hit.1 hit.2];refine⟨NG (show _<=10 by rw[mh];omega) (by decide),m - 1,by omega,j+1,by omega,?_⟩
   rw[tp,mv];rfl
 ·subst e1 e2;simp! only[];refine nQ (.upd ha .refl) ha updM_same (fun d hd=>?_) q
  obtain⟨r,_,rfl⟩:=ff.mp hd;exact nZ r
end
section
variable {P:i4}{w:i8}{K:bn}{mg:cb->Option ap}{base:kt}{tb:dy}
theorem n4:aO ["goals","place","ring"] ["goals","place"] (ai iO):=⟨rfl,rfl,rfl,by decide +kernel,rfl,by decide +kernel,by decide +kernel⟩
theorem tu {g:List Int}(h:cg g) {p:Int}(hp:p∈a7 g):mj g p=cO g p (cC g p - 1) :=by
 have:=(mi h hp).1;unfold mj cO;rw[show cC g p - 1+1=cC g p by omega]
def yB:dA:=fun ds M Q _=>∃g p,ds=[aX g,.int p]/\cg g/\g.length<=9/\p∈a7 g/\Q (aX (mj g p)) M
theorem wc {f:al}{fd:mo}(D:Df K mg "ring_from" iO ["goals","place"] f fd) (bl:Bl mg):FnOk P w K mg base bK 1 f fd ["goals","place"] (bh P w K tb yB) :=by
 refine eO D n4 (fun ds M Q E hS=>by obtain⟨g,p,e,_⟩:=hS;rw[e];rfl) fun A outer s E Γ ds Q' E' hP hw hK ht hr hS=>?_
 obtain⟨g,p,e,hg,h9,hp,q⟩:=hS;refine⟨_,(af (aC (i:=2) n4.nd rfl (l6 rfl) (gY (aa (qv 1) ae)))
  (af (jV rf (bE En (aE (aT (K:=K) rfl) (qv 0) (aE (aT (K:=K) rfl) (qv 2) (i9 ak) (fun _ _=>rfl)) (fun _ _=>rfl)) (qv 1) (bW _))
   (au (fb (ju (K:=K) rfl BS CS Da gQ (qv 2) (aa (aE (aT (K:=K) rfl) (qv 0) (aE (aT (K:=K) rfl) (qv 2) (i9 ak) (fun _ _=>rfl)) (fun _ _=>rfl)) ae)))))
  (au (aZ (qv 2))))),?_⟩
 subst e;have big:(100:Nat)<sizeLine :=by decide
 obtain⟨p1,p2,p3,p4⟩:=mi hg hp;obtain⟨ye,F5⟩:=oB hg _ p hp;simp! only[];refine⟨by omega,fun a ha=>?_⟩
 refine⟨fun m ρ M=>∃j,j<cC g p/\m=cC g p - j/\ρ=[some (aX g),some (.int p),some (.ptr a)]/\M=aA Γ.M0 a (.lst ((cO g p j).map .int)),⟨_,0,by omega,rfl,rfl,rfl⟩,?_⟩
 rintro m ρ M ⟨j,hj,rfl,rfl,rfl⟩;obtain⟨i0,i1⟩:=fM hg ye F5 j;simp! only[g8,step_at i0 i1,updM_same];refine fK (fun h=>?_) (fun h=>?_)
 ·have dm:aS g (j+1) p≠p :=by show stepI g (aS g j p)≠p;simpa using h
  have Oh:j+1<cC g p :=by
   rcases GG (j+1) (cC g p) with z|z
   ·exact z
   ·exact absurd (by rw[show j+1=cC g p by omega];exact p3) dm
  refine⟨by rw[mh];omega,_,?_,j+1,Oh,rfl,by rw[tp,mv];rfl⟩
  omega
 ·have he:aS g (j+1) p=p :=by show stepI g (aS g j p)=p;simpa using h
  have Oh:j+1=cC g p :=by
   rcases GG (j+1) (cC g p) with z|z
   ·exact absurd he (p4 (j+1) (by omega) z)
   ·omega
  rw[tu hg hp,show cC g p - 1=j by omega]at q
  exact nQ (.upd ha .refl) ha updM_same (dg _) q
end
section
theorem EY {g:List Int}{p:Int}(h0:0<=p) (h1:p<(g.length:Int)) {k:Nat}(he:aS g k p∈a7 g) (hn:∀j<k,aS g j p ∉ a7 g):aP g p=k :=by
 obtain⟨_,a,b⟩:=kb h0 h1;rcases U7 (aP g p) k with z|z|z
 ·exact absurd a (hn _ z)
 ·exact z
 ·exact absurd he (b _ z)
theorem EZ {g:List Int}(h:cg g) {p:Int}(h0:0<=p) (h1:p<(g.length:Int)) {j:Nat}(hj:j<=aP g p):aP g (aS g j p)=aP g p - j :=by
 obtain⟨_,a,b⟩:=kb h0 h1;obtain⟨i0,i1⟩:=fM h h0 h1 j;exact EY i0 i1 (by rw[<- eB,show aP g p - j+j=aP g p by omega];exact a) fun i hi=>by rw[<- eB];exact b _ (by omega)
theorem C7 {g:List Int}(h:cg g) {x y:Int}(hx:x∈a7 g) (hy:y∈a7 g) (e:stepI g x=stepI g y):x=y :=by
 obtain⟨m,m1,_,hm⟩:=nX h hx;obtain⟨k,k1,_,hk⟩:=nX h hy;have ex:=qU hm k;have ey:=qU hk m;rw[Nat.mul_comm]at ey;have Sj:1<=k * m:=Nat.mul_pos k1 m1;obtain⟨n,hn⟩:∃n,k * m=n+1:=⟨k * m - 1,by omega⟩
 rw[hn,eB]at ex ey;have e1:aS g 1 x=aS g 1 y:=e;rw[<- ex,<- ey,e1]
def ck (g:List Int) (r:Int):Int:=aS g (cC g r - 1) r
theorem qW {g:List Int}(h:cg g) {r:Int}(hr:r∈a7 g):ck g r∈a7 g:=CZ h hr ((wa h hr).mpr ⟨_,rfl⟩)
theorem qX {g:List Int}(h:cg g) {r:Int}(hr:r∈a7 g):stepI g (ck g r)=r :=by
 obtain⟨p1,_,p3,_⟩:=mi h hr;show aS g (cC g r - 1+1) r=r;rw[show cC g r - 1+1=cC g r by omega,p3]
theorem C8 {g:List Int}(h:cg g) {r:Int}(hr:r∈a7 g):bo ((mj g r).map Dv.int) (-1)=some (.int (ck g r)) :=by rw[tu h hr];exact g8 _ _ _
def n5:List Nat->Nat | []=>0|x::xs=>if x<n5 xs then n5 xs else x
theorem yC:∀{xs:List Nat}{x:Nat},x∈xs->x<=n5 xs
 |y::ys,x,h=>by
          unfold n5;rcases l7.mp h with z|z
          ·subst z;split<;>omega
          ·have:=yC z;split<;>omega
theorem wd:∀{xs:List Nat},xs≠[]->n5 xs∈xs
 | [x],_=>by simp[n5]
 |x::y::ys,_=>by
          unfold n5;split
          ·exact ci _ (wd (by simp))
          ·exact f8
def bu (g:List Int):Nat:=n5 ((im g.length).map fun p:Nat=>aP g (p:Nat))
theorem yD {g:List Int}{p:Nat}(h:p<g.length):aP g (p:Nat)<=bu g:=yC (ff.mpr ⟨p,lm.mpr h,rfl⟩)
theorem rW {g:List Int}(h:1<=g.length):∃p:Nat,p<g.length/\aP g (p:Nat)=bu g :=by
 have hm:=wd (xs:=(im g.length).map fun p:Nat=>aP g (p:Nat)) (fun e=>by
  have:=congrArg TU e;rw[br,wT,KM]at this;omega)
 obtain⟨p,hp,e⟩:=ff.mp hm;exact⟨p,lm.mp hp,e⟩
def bj (g:List Int):List Nat:=(im g.length).filter fun p=>decide (aP g (p:Nat)=bu g)
theorem ke {g:List Int}{p:Nat}:p∈bj g ↔ p<g.length/\aP g (p:Nat)=bu g :=by
 unfold bj;rw[KB,lm,decide_eq_true_eq]
theorem rX {g:List Int}(h:1<=g.length):∃p ps,bj g=p::ps :=by
 obtain⟨p,h1,h2⟩:=rW h;have hm:=ke.mpr ⟨h1,h2⟩;cases e:bj g with
 |nil=>rw[e]at hm;cases hm
 |cons q qs=>exact⟨q,qs,rfl⟩
theorem pH (g:List Int):(bj g).length<=g.length :=by
 have:=List.length_filter_le (fun p=>decide (aP g (p:Nat)=bu g)) (im g.length)
 rw[wT]at this;exact this
def eV (g:List Int) (p:Nat):Int:=aS g (aP g (p:Nat)) (p:Nat)
theorem C9 {g:List Int}{p:Nat}(h:p<g.length):eV g p∈a7 g:=(kb (by omega) (by omega)).2.1
def aF (g:List Int):Int:=eV g ((bj g).headD 0)
theorem qY {g:List Int}(h:1<=g.length):aF g∈a7 g :=by
 obtain⟨p,ps,e⟩:=rX h;unfold aF;rw[e];exact C9 (ke.mp (by rw[e];exact f8)).1
def qZ (a b:Int):List Int:=if a<b then [a,b] else [b,a]
def pI (g:List Int) (ks:List (List Int)) (p:Nat):List (List Int):=jZ ks (qZ (ck g (aF g)) (aS g (bu g - 1) (p:Nat)))
def eW (g:List Int) (j:Nat):List (List Int):=((bj g).take j).foldl (pI g) []
theorem pJ {g:List Int}{j p:Nat}(h:(bj g)[j]?=some p):eW g (j+1)=pI g (eW g j) p :=by
 unfold eW;rw[TJ,h,List.foldl_append];rfl
theorem E2 (ks:List (List Int)) (k:List Int):(jZ ks k).length<=ks.length+1 :=by
 unfold jZ;split
 ·omega
 ·simp
theorem jB (g:List Int):∀j,(eW g j).length<=j
 |0=>by simp[eW]
 |j+1=>by
          have ih:=jB g j;cases h:(bj g)[j]? with
          |none=>
           have:eW g (j+1)=eW g j :=by
            unfold eW;rw[TJ,h];simp
           rw[this];omega
          |some p=>
           rw[pJ h];have:=E2 (eW g j) (qZ (ck g (aF g)) (aS g (bu g - 1) (p:Nat)));unfold pI;omega
theorem yE (g:List Int):∀(ps:List Nat) (ks:List (List Int)),(∀r∈ks,r.length=2)->∀r∈ps.foldl (pI g) ks,r.length=2
 | [],_,h=>h
 |p::ps,ks,h=>yE g ps _ fun r hr=>by
          unfold pI jZ at hr;split at hr
          ·exact h r hr
          ·rcases rc.mp hr with z|z
           ·exact h r z
           ·rw[lw.mp z];unfold qZ;split<;>rfl
theorem rY (g:List Int) (j:Nat):∀r∈eW g j,r.length=2:=yE g _ [] fun _ h=>nomatch h
def ir (g:List Int):Bool:=decide (bu g=0) || (bj g).any fun p=>decide (eV g p≠aF g)
def cy (g:List Int):List (List Int):=if ir g=true then [] else gJ (eW g (bj g).length)
theorem E3 (g:List Int):(cy g).length<=g.length :=by
 unfold cy;split
 ·simp
 ·rw[(fS _).length_eq];exact wv (jB g _) (pH g)
theorem E4 (g:List Int):∀r∈cy g,r.length=2:=fun r hr=>by
 unfold cy at hr;split at hr
 ·cases hr
 ·exact rY g _ r ((fS _).mem_iff.mp hr)
end
section
variable {P:i4}{w:i8}{K:bn}{mg:cb->Option ap}{base:kt}{tb:dy}{C_NoNet C_NoSign:al}
theorem wZ:aO ["one","other"] ["one","other"] (ai jx):=⟨rfl,rfl,rfl,by decide +kernel,rfl,by decide +kernel,by decide +kernel⟩
theorem dD:aO ["net","sign","goals","found","longest","highest","root","ahead"] ["net","sign"] (ai dn):=⟨rfl,rfl,rfl,by decide +kernel,rfl,by decide +kernel,by decide +kernel⟩
def Dc:dA:=fun ds M Q _=>∃a b:Int,ds=[.int a,.int b]/\Q (eI (qZ a b)) M
theorem w5 {f:al}{fd:mo}(D:Df K mg "in_order" jx ["one","other"] f fd) (bl:Bl mg):FnOk P w K mg base bK 1 f fd ["one","other"] (bh P w K tb Dc) :=by
 refine eO D wZ (fun ds M Q E hS=>by obtain⟨a,b,e,_⟩:=hS;rw[e];rfl) fun A outer s E Γ ds Q' E' hP hw hK ht hr hS=>?_
 obtain⟨a,b,e,q⟩:=hS;refine⟨_,(au (aZ (Ej (bE vr (qv 0) (qv 1) (bW _)) (jU (aa (qv 0) (aa (qv 1) ae))) (jU (aa (qv 1) (aa (qv 0) ae)))))),?_⟩;subst e;simp! only[];unfold qZ at q;refine fK (fun h=>?_) (fun h=>?_)
 ·rw[if_pos (by simpa using h)]at q
  exact⟨by decide,.inl q⟩
 ·rw[if_neg (by simpa using h)]at q
  exact⟨by decide,.inl q⟩
theorem w6 {M0 M:Mh}(h:Keeps M0 M) {a:al}(ha:M a=none):M0 a=none :=by
 cases e:M0 a with
 |none=>rfl
 |some u=>rw[h a u e]at ha;cases ha
structure kg (M0 M:Mh) (a:al) (rows:List (List Int)):Prop where
 a0:M0 a=none
 am:M a=some (.lst (rows.map eI))
 kp:Keeps M0 M
 oth:∀c o,M c=some o->M0 c=some o\/∀d∈o.items,∃r:List Int,d=eI r
def zTop:dA:=fun ds M Q _=>∃az n k,ds=[eN az,.str (sg k)]/\fu az n/\k<n/\∀(a:al) (M':Mh),kg M M' a (cy (cj az k))->Q (.ptr a) M'
theorem z5 (g:List Int):((dC g g.length).map aX).filter (fun d=>match d with | .lst ds=>decide ((ds.length:Int)=((bu g+1:Nat):Int))|_=>false)=(bj g).map fun p:Nat=>aX (cO g (p:Nat) (bu g)) :=by
 unfold dC bj;rw[wE,Vt];have:((fun d=>match d with|Dv.lst ds=>decide ((ds.length:Int)=((bu g+1:Nat):Int))|_=>false) ∘ aX ∘ fun p:Nat=>cO g (p:Nat) (aP g (p:Nat)))=fun p:Nat=>decide (aP g (p:Nat)=bu g) :=by
  funext p
  simp only[RI,aX,br,mh,decide_eq_decide];omega
 rw[this];refine LP fun p hp=>?_
 have:=(KB.mp hp).2;simp only[decide_eq_true_eq]at this;simp only[RI,this]
theorem z6 (g:List Int) (p:Int) (k:Nat):bo ((cO g p (k+1)).map Dv.int) (-2)=some (.int (aS g k p)) :=by
 unfold cO;rw[Ti,Ti,mv,mv,mv,mv];unfold bo ft;have e:(((-2:Int)+((((im k).map fun j=>aS g j p).map Dv.int++([k].map fun j=>aS g j p).map Dv.int++([k+1].map fun j=>aS g j p).map Dv.int).length:Nat):Int)).toNat=k :=by simp;omega
 rw[if_neg (by decide),if_pos (by simp;omega),e]
 simp
theorem any_eq {α:Type}{p q:α->Bool}:∀{l:List α},(∀x∈l,p x=q x)->l.any p=l.any q
 | [],_=>rfl
 |x::l,h=>by rw[NO,NO,h x f8,any_eq fun y hy=>h y (ci _ hy)]
theorem Dd {g:bS}{te:aG}(f:Dv->Int) (I:av->Mh->Prop) {ds:List Dv}{τ:av}{M:Mh}{Q:Int->Mh->Prop}(dm:ds≠[]) (i:I τ M)
  (h:∀d∈ds,∀τ M,I τ M->∀R:av->ZK,(∀aj M2,I aj M2->R aj (.int (f d)) M2)->g d τ M fun aj M2=>te aj M2 (R aj)) (q:∀τ M,I τ M->∀m,m∈ds.map f->(∀x∈ds.map f,x<=m)->Q m M) :
  zMaxGL g zNoIf te ds τ M none fun acc M2=>∃v,acc=some v/\Q v M2:=
 zmaxl_of f I i h fun aj M2 i2=>by
  obtain⟨m,h1,h2,_,h4⟩:=vT (ds.map f) none (.inr fun e=>dm (List.map_eq_nil_iff.mp e))
  exact⟨m,h1,q aj M2 i2 m (h2.elim (fun e=>nomatch e) id) h4⟩
def z7 (r:Int):Dv->Bool | .lst ds=>(match bo ds (-1) with|some (.int x) => !decide (x=r)|_=>false)|_=>false
def rZ:Dv->Int | .lst ds=>(ds.length:Int)|_=>0
theorem De {g:List Int}(h1:1<=g.length) {m:Int}(hm:m∈((dC g g.length).map aX).map rZ) (hx:∀x∈((dC g g.length).map aX).map rZ,x<=m):m=((bu g+1:Nat):Int) :=by
 have e:((dC g g.length).map aX).map rZ=(im g.length).map fun p:Nat=>((aP g (p:Nat)+1:Nat):Int) :=by
  unfold dC;rw[wE,wE];exact LP fun p _=>by simp only[RI,aX,rZ,br,mh]
 rw[e]at hm hx;obtain⟨p,hp,rfl⟩:=ff.mp hm;have a:=yD (lm.mp hp);obtain⟨r,hr,er⟩:=rW h1;have b:=hx _ (ff.mpr ⟨r,lm.mpr hr,rfl⟩);rw[er]at b;omega
theorem we {f f1 f2 f3 f4:al}{fd bV fd2 td Dg:mo}{oZ aR:al}(D:Df K mg "top_pairs" dn ["net","sign"] f fd) (fi:Be base fd oZ aR) (hp:aR∈tb) (eE:∃bm ob,T5 base mainGlobals mg bm ob)
  (fX:Df K mg "goals_of" il ["net","sign"] f1 bV) (mq:FnOk P w K mg base (eX P w) 11 f1 bV ["net","sign"] (bh P w K tb C4))
  (jC:Df K mg "tails" oy ["goals"] f2 fd2) (sd:FnOk P w K mg base bK 2 f2 fd2 ["goals"] (bh P w K tb C6))
  (fj:Df K mg "ring_from" iO ["goals","place"] f3 td) (kU:FnOk P w K mg base bK 1 f3 td ["goals","place"] (bh P w K tb yB))
  (fY:Df K mg "in_order" jx ["one","other"] f4 Dg) (mr:FnOk P w K mg base bK 1 f4 Dg ["one","other"] (bh P w K tb Dc)) (bl:Bl mg) :
  FnOk P w K mg base (eX P w) 12 f fd ["net","sign"] (bh P w K tb zTop) :=by
 refine oo D dD (fun ds M Q E hS=>by obtain⟨az,n,k,e,_⟩:=hS;rw[e];rfl) fun A outer s E Γ ds Q' E' hP hw hK ht hE hr hS=>?_
 obtain⟨az,n,k,e,O,hk,q⟩:=hS;have mI:aR∈Γ.tb:=ht▸hp;refine⟨_,(af (aC (i:=2) dD.nd rfl (l6 rfl) (aJ mq (hr.mono (by decide)) rfl fX.mg fX.fn.kp fX.bd n8 hP hw hK ht hE (aa (qv 0) (aa (qv 1) ae))))
  (af (aC (i:=3) dD.nd rfl (l6 rfl) (aJ sd (hr.mono (by decide)) rfl jC.mg jC.fn.kp jC.bd bJ hP hw hK ht XR.none (aa (qv 2) ae)))
  (af (aC (i:=4) dD.nd rfl (LM rfl) (CA (k:=0) (N':=["tail"]) (tn:=1) (idx:=[]) mI (hr.mono (by decide)) rfl (show aB ["net","sign","goals","found","longest","highest","root","ahead"] (ai dn) _ ["tail"] 1 [] from by decide +kernel) rfl rfl fi.code fi.hd eE rfl bl.max_ (cW (K:=K) rfl (qv 3)) (fun _ _ _ _ _ _ _ hr=>(aI (i:=0) (show xz [("tail" : cb)] from by decide +kernel) rfl (l6 rfl))) (fun _ _ _ _ _ _ _ hr=>cc) (fun _ _ _ _ _ _ _ hr=>(ay (cD (K:=K) rfl hK) rfl bl.len_ r9 (aa (qv 0) ae)))))
  (af (lP (i:=5) dD.nd rfl rfl (N':=["tail","longest"]) (tn:=1) (idx:=[4]) rfl (show aB ["net","sign","goals","found","longest","highest","root","ahead"] (ai dn) _ ["tail","longest"] 1 [4] from by decide +kernel) (cW (K:=K) rfl (qv 3)) (fun _ _ _ _ _=>(aI (i:=0) (show xz [("tail" : cb),("longest" : cb)] from by decide +kernel) rfl (l6 rfl))) (fun _ _ _ _ _=>(oi (bE kQ (ay (cD (K:=K) rfl hK) rfl bl.len_ r9 (aa (qv 0) ae)) (qv 1) (bW _)))) (fun _ _ _ _ _=>(qv 0)))
  (af (aC (i:=6) dD.nd rfl (LM rfl) (aE (aT (K:=K) rfl) (aE (aT (K:=K) rfl) (qv 5) ak (fun _ _=>rfl)) (i9 ak) (fun _ _=>rfl)))
  (af (dP (QW.pt (og (bE kQ (qv 4) ak (bW _)) (nJ (fH (Ki (k:=0) (N':=["tail","root"]) (tn:=1) (idx:=[6]) mI (hr.mono (by decide)) rfl (show aB ["net","sign","goals","found","longest","highest","root","ahead"] (ai dn) _ ["tail","root"] 1 [6] from by decide +kernel) rfl rfl fi.code fi.hd eE rfl bl.any_ (cW (K:=K) rfl (qv 5)) (fun _ _ _ _ _ _ _ hr=>(aI (i:=0) (show xz [("tail" : cb),("root" : cb)] from by decide +kernel) rfl (l6 rfl))) (fun _ _ _ _ _ _ _ hr=>cc) (fun _ _ _ _ _ _ _ hr=>(oe En (aE (aT (K:=K) rfl) (qv 0) (i9 ak) (fun _ _=>rfl)) (qv 1) (bW _))))))))
   (au (aZ (gY ae)))
   qss_nil)
  (af (aC (i:=7) dD.nd rfl (LM rfl) (aE (aT (K:=K) rfl) (aJ kU (hr.mono (by decide)) rfl fj.mg fj.fn.kp fj.bd bJ hP hw hK ht XR.none (aa (qv 2) (aa (qv 6) ae))) (i9 ak) (fun _ _=>rfl)))
  (au (aZ (ay (CK hP hw rfl) rfl bl.sorted_ ku (aa (wN hP hw hr.units (N':=["tail","ahead"]) (tn:=1) (idx:=[7]) rfl (show aB ["net","sign","goals","found","longest","highest","root","ahead"] (ai dn) _ ["tail","ahead"] 1 [7] from by decide +kernel) (cW (K:=K) rfl (qv 5)) (fun _ _ _ _ _=>(aI (i:=0) (show xz [("tail" : cb),("ahead" : cb)] from by decide +kernel) rfl (l6 rfl))) (fun _ _ _ _ _=>cc) (fun _ _ _ _ _=>(aJ mr (hr.mono (by decide)) rfl fY.mg fY.fn.kp fY.bd bJ hP hw hK ht XR.none (aa (qv 1) (aa (aE (aT (K:=K) rfl) (qv 0) (i9 ak) (fun _ _=>rfl)) ae))))) ae))))))))))),?_⟩
 subst e;have big:(1000:Nat)<sizeLine :=by decide
 have hg:=nY O hk;have h9:=O.nine;have jg:(cj az k).length=az.length :=by simp[cj]
 obtain⟨g,eg⟩:∃g,g=cj az k:=⟨_,rfl⟩;have mE:1<=g.length :=by have:=O.one;rw[eg];omega
 have Dh:g.length<=9 :=by rw[eg];omega
 have R1:=pH g;obtain⟨p0,ps,ep⟩:=rX mE;have z8:aF g=eV g p0 :=by unfold aF;rw[ep];rfl
 have F9:=qY mE;have th:∀{p},p∈bj g->eV g p=aS g (bu g) (p:Nat):=fun hp=>by unfold eV;rw[(ke.mp hp).2]
 rw[<- eg]at hg jg q;refine FV (fun ρ M=>ρ=[some (eN az),some (.str (sg k)),some (aX g),some (.lst ((dC g g.length).map aX)),some (.int ((bu g+1:Nat):Int)),some (.lst ((bj g).map fun p:Nat=>aX (cO g (p:Nat) (bu g)))),some (.int (aF g)),none]/\M=Γ.M0) (fun N hN=>?_) (fun ρ M hI=>?_)
 ·simp! only[];refine⟨az,n,k,rfl,O,hk,?_⟩;rw[<- eg];refine⟨g,rfl,hg,Dh,?_⟩;have F6:=tq g g.length;simp! only[];refine Dd rZ (fun τ M=>(∃x,τ=[x])/\M=Γ.M0) (fun e=>?_) ⟨⟨_,rfl⟩,rfl⟩ (fun d hd τ M hI R hR=>?_) (fun τ M hI m hm R3=>?_)
  ·have:=congrArg TU e;rw[br,F6,KM]at this;omega
  ·obtain⟨⟨x,rfl⟩,rfl⟩:=hI;obtain⟨r,hr,rfl⟩:=ff.mp hd;have h:=hR [some (aX r)] Γ.M0 ⟨⟨_,rfl⟩,rfl⟩;simp only[rZ,aX,br]at h;simp! only[];exact h
  ·obtain⟨⟨x,rfl⟩,rfl⟩:=hI;have:=De mE hm R3;subst this;refine⟨by omega,jX (fun d=>match d with | .lst ds=>decide ((ds.length:Int)=((bu g+1:Nat):Int))|_=>false) (fun d hd R hR=>?_) ?_⟩
   ·obtain⟨r,hr,rfl⟩:=ff.mp hd;simp! only[];simp only[aX,br]at hR;exact hR
   ·rw[z5,ep,r6];have e0:∀x:Dv,∀xs:List Dv,bo (x::xs) 0=some x:=fun x xs=>atI_zero
    simp! only[e0,aX,g8];refine hN _ _ ⟨?_,rfl⟩;rw[ep,z8,th (by rw[ep];exact f8)]
    rfl
 ·obtain⟨rfl,rfl⟩:=hI;have Oi:∀a:al,Γ.M0 a=none->ir g=true->lN Γ.M0 Q' (.ptr a) (aA Γ.M0 a (.lst [])):=fun a ha hb=>by
   refine .inl (q a _ ⟨ha,?_,.upd ha .refl,fun c o e=>?_⟩)
   ·unfold cy;rw[if_pos hb,updM_same];rfl
   ·by_cases z:c=a
    ·rw[z,updM_same]at e;cases e;exact .inr fun _ h=>nomatch h
    ·rw[ah z]at e;exact .inl e
  simp! only[];refine fK (fun h=>?_) (fun h=>?_)
  ·refine⟨by omega,fun a ha=>Oi a ha ?_⟩
   have:bu g=0 :=by have:=of_decide_eq_true h;omega
   unfold ir;rw[this];rfl
  ·have hH:bu g≠0:=fun e=>by rw[e]at h;exact absurd h (by decide)
   obtain⟨m,hm⟩:∃m,bu g=m+1:=⟨bu g - 1,by omega⟩
   refine yr (z7 (aF g)) (fun τ=>∃x,τ=[x,some (.int (aF g))]) ⟨_,rfl⟩ (fun d hd τ hI R hR=>?_) ?_
   ·obtain⟨x,rfl⟩:=hI;obtain⟨p,hp,rfl⟩:=ff.mp hd;have h:=hR [some (aX (cO g (p:Nat) (bu g))),some (.int (aF g))] ⟨_,rfl⟩;simp! only[aX,g8,z7]at h ⊢;exact h
   ·have ea:(((bj g).map fun p:Nat=>aX (cO g (p:Nat) (bu g))).any (z7 (aF g)))=(bj g).any fun p=>decide (eV g p≠aF g) :=by
     rw[List.any_map];refine any_eq fun p hp=>?_
     simp only[RI,aX,z7,g8,th hp];rw[decide_not]
    rw[ea];cases hb:(bj g).any fun p=>decide (eV g p≠aF g) with
    |true=>
     rw[if_pos rfl];exact⟨by omega,fun a ha=>Oi a ha (by unfold ir;rw[hb,Bool.or_true])⟩
    |false=>
     rw[if_neg (by decide)]
     have B4:ir g=false :=by unfold ir;rw[hb,decide_eq_false hH];rfl
     refine⟨g,aF g,rfl,hg,Dh,F9,?_⟩;simp! only[C8 hg F9];refine CB (fun j ks τ M=>(∃x,τ=[x,some (.int (ck g (aF g)))])/\M=Γ.M0/\ks=eW g j) (i:=0) ⟨⟨_,rfl⟩,rfl,rfl⟩ (fun j d ks τ M hd hI R hR=>?_) (fun ks τ M hI=>?_)
     ·obtain⟨⟨x,rfl⟩,rfl,rfl⟩:=hI;rw[S4]at hR ⊢;obtain⟨p,hp,rfl⟩:=nR hd;have hj:=(cr.mp hp).1;have hl:=jB g j;have h:=hR (eW g (j+1)) [some (aX (cO g (p:Nat) (bu g))),some (.int (ck g (aF g)))] Γ.M0 ⟨⟨_,rfl⟩,rfl,rfl⟩;rw[pJ hp]at h;simp only[pI,hm]at h;simp! only[aX,hm,z6];exact⟨_,_,rfl,_,rfl,by omega,h⟩
     ·obtain⟨⟨x,rfl⟩,rfl,rfl⟩:=hI;have hl:=jB g (bj g).length;have dm:∀r∈eW g (bj g).length,r≠[]:=fun r hr e=>by
       have:=rY g _ r hr;rw[e]at this;cases this
      rw[br,S4];intro a ha;refine⟨a,_,rfl,updM_same,by omega,dm,fun l tD=>.inl (q l _ ?_)⟩
      have R4:l≠a:=fun z=>by rw[z,updM_same]at tD;cases tD
      have jj:Γ.M0 l=none :=by rw[ah R4]at tD;exact tD
      refine⟨jj,?_,.upd jj (.upd ha .refl),fun c o e=>?_⟩
      ·unfold cy;rw[B4,if_neg (by decide),updM_same]
      ·by_cases z:c=l
       ·rw[z,updM_same]at e;cases e;exact .inr fun d hd=>by obtain⟨r,_,rfl⟩:=ff.mp hd;exact⟨r,rfl⟩
       ·rw[ah z]at e;by_cases z2:c=a
        ·rw[z2,updM_same]at e;cases e;exact .inr fun d hd=>by obtain⟨r,_,rfl⟩:=ff.mp hd;exact⟨r,rfl⟩
        ·rw[ah z2]at e;exact .inl e
end
section
variable {P:i4}{w:i8}{K:bn}{mg:cb->Option ap}{base:kt}{tb:dy}
theorem fv:aO ["_law_step","_law_here","_law_turn"] ["_law_step"] (ai dq):=⟨rfl,rfl,rfl,by decide +kernel,rfl,by decide +kernel,by decide +kernel⟩
theorem e8:aO ["_law_step","_law_place","_law_ring","_law_high"] ["_law_step","_law_place"] (ai ip):=⟨rfl,rfl,rfl,by decide +kernel,rfl,by decide +kernel,by decide +kernel⟩
theorem cP:aO ["_law_step","_law_climbs_here","_law_high","_law_tops","_law_root","_law_ahead","_law_due_here","_law_place"] ["_law_step"] (ai dR):=⟨rfl,rfl,rfl,by decide +kernel,rfl,by decide +kernel,by decide +kernel⟩
theorem lu {f:al}{fd:mo}(D:Df K mg "_law_lasting" dq ["_law_step"] f fd) (bl:Bl mg):FnOk P w K mg base bK 1 f fd ["_law_step"] (bh P w K tb C5) :=by
 refine eO D fv (fun ds M Q E hS=>by obtain⟨g,e,_⟩:=hS;rw[e];rfl) fun A outer s E Γ ds Q' E' hP hw hK ht hr hS=>?_
 obtain⟨g,e,qV,h9,q⟩:=hS;refine⟨_,(af (aC (i:=1) fv.nd rfl (l6 rfl) (nP rfl rfl bl.list_ rfl bl.range_ (ay (cD (K:=K) rfl hK) rfl bl.len_ r9 (aa (qv 0) ae))))
  (af (dQ rf rfl (bG rfl bl.range_ (aa (ay (cD (K:=K) rfl hK) rfl bl.len_ r9 (aa (qv 0) ae)) ae)) (fun j7 eP ew eK et=>by have hP:=hP.trans eP.symm;have hw:=hw.trans ew.symm;have hK:=hK.trans eK.symm;have ht:=ht.trans et.symm;exact⟨(aI (i:=2) fv.nd rfl (l6 rfl)),(au (aC (i:=1) fv.nd rfl (l6 rfl) (ay (vw hP hw (K:=K) rfl rfl) rfl bl.sorted_ ku (aa (gZ (Ms hP hw (K:=K) rfl rfl) rfl bl.set_ Jq (aa (cu (N':=["_law_place","_law_step"]) (tn:=1) (idx:=[0]) rfl (show aB ["_law_step","_law_here","_law_turn"] (ai dq) _ ["_law_place","_law_step"] 1 [0] from by decide +kernel) (cW (K:=K) rfl (qv 1)) (fun _ _ _ _ _=>(aI (i:=0) (show xz [("_law_place" : cb),("_law_step" : cb)] from by decide +kernel) rfl (l6 rfl))) (fun _ _ _ _ _=>cc) (fun _ _ _ _ _=>(aE (aT (K:=K) rfl) (qv 1) (qv 0) (fun _ _=>rfl)))) ae)) ae))))⟩))
  (au (aZ (qv 1))))),?_⟩
 subst e;simp! only[];refine⟨by omega,by omega,by omega,by omega,?_⟩
 refine bO (fun k ρ M=>(∃x2,ρ=[some (aX g),some (aX (dE g k)),x2])/\M=Γ.M0) ⟨⟨_,by rw[yA];rfl⟩,rfl⟩ (fun k d ρ M N hd ⟨⟨x2,e1⟩,e2⟩ hN=>?_) (fun ρ M ⟨⟨x2,e1⟩,e2⟩=>?_)
 ·subst e1 e2;simp! only[];have Ck:=me g k;refine⟨NG (show _<=9 by omega) (by decide),iC (fun d=>match d with | .int x=>.int (stepI g x)|d=>d) (fun τ M2=>(∃x,τ=[x,some (aX g)])/\M2=Γ.M0) ⟨⟨none,rfl⟩,rfl⟩ (fun d hd τ M2 ⟨⟨x,e⟩,e2⟩ R hR=>?_) (fun τ M2 ⟨_,e⟩=>?_)⟩
  ·subst e e2;obtain⟨x,hx,rfl⟩:=ff.mp hd;obtain⟨h0,h1⟩:=oB qV k x hx;have h:=hR [some (.int x),some (aX g)] Γ.M0 ⟨⟨_,rfl⟩,rfl⟩;simp! only[step_at h0 h1]at h ⊢;exact h
  ·subst e;have e:((dE g k).map Dv.int).map (fun d=>match d with | .int x=>.int (stepI g x)|d=>d)=((dE g k).map (stepI g)).map Dv.int :=by rw[wE,wE];rfl
   rw[e];simp! only[i7,Po];have:=lD ((dE g k).map (stepI g));rw[br]at this;exact⟨NG (show _<=10 by omega) (by decide),by omega,hN _ _ ⟨⟨_,rfl⟩,rfl⟩⟩
 ·subst e1 e2;simp! only[];exact .inl q
def KJ:dA:=fun ds M Q _=>∃g p,ds=[aX g,.int (p:Nat)]/\cg g/\g.length<=9/\p<g.length/\Q (.tup [.int ((aP g (p:Nat):Nat):Int),.int (aS g (aP g (p:Nat)) (p:Nat))]) M
theorem wg {f f1:al}{fd bV:mo}(D:Df K mg "_law_climb" ip ["_law_step","_law_place"] f fd) (bf:Df K mg "_law_lasting" dq ["_law_step"] f1 bV) (bl:Bl mg):FnOk P w K mg base bK 2 f fd ["_law_step","_law_place"] (bh P w K tb KJ) :=by
 have iK:=lu (P:=P) (w:=w) (base:=base) (tb:=tb) bf bl;refine eO D e8 (fun ds M Q E hS=>by obtain⟨g,p,e,_⟩:=hS;rw[e];rfl) fun A outer s E Γ ds Q' E' hP hw hK ht hr hS=>?_
 obtain⟨g,p,e,qV,h9,hp,q⟩:=hS;refine⟨_,(af (aC (i:=2) e8.nd rfl (l6 rfl) (aJ iK (hr.mono (by decide)) rfl bf.mg bf.fn.kp bf.bd bJ hP hw hK ht XR.none (aa (qv 0) ae)))
  (af (aC (i:=3) e8.nd rfl (l6 rfl) ak)
  (af (jV rf (bE (oS (K:=K) rfl) (qv 1) (qv 2) (by rfl))
   (af (aC (i:=1) e8.nd rfl (l6 rfl) (aE (aT (K:=K) rfl) (qv 0) (qv 1) (fun _ _=>rfl)))
  (au (aC (i:=3) e8.nd rfl (l6 rfl) (bg gG (qv 3) ak)))))
  (au (aZ (jU (aa (qv 3) (aa (qv 1) ae)))))))),?_⟩
 subst e;have jc:=kb (g:=g) (p:=(p:Nat)) (by omega) (by omega)
 refine⟨g,rfl,qV,h9,?_⟩;simp! only[];refine⟨fun m ρ M=>∃j:Nat,m+j=aP g (p:Nat)/\ρ=[some (aX g),some (.int (aS g j (p:Nat))),some (aX (a7 g)),some (.int (j:Nat))]/\M=Γ.M0,⟨aP g (p:Nat),0,rfl,rfl,rfl⟩,fun m ρ M ⟨j,hj,e1,e2⟩=>?_⟩
 subst e1 e2;have hit:=fM qV (p:=(p:Nat)) (by omega) (by omega) j
 simp! only[i7,Po];by_cases iV:aS g j (p:Nat)∈a7 g
 ·have ej:j=aP g (p:Nat) :=by
   by_cases h:j<aP g (p:Nat)
   ·exact absurd iV (jc.2.2 j h)
   ·omega
  subst ej;exact JX (by simp[iV]) ⟨by decide,.inl q⟩
 ·have yp:j<aP g (p:Nat) :=by
   by_cases h:j<aP g (p:Nat)
   ·exact h
   ·exact absurd (show aS g j (p:Nat)∈a7 g from (show j=aP g (p:Nat) by omega)▸jc.2.1) iV
  refine JW (by simp[iV]) ?_
  simp! only[step_at hit.1 hit.2];exact⟨m - 1,by omega,j+1,by omega,rfl⟩
theorem yF (ks:List (List Int)):gH (ks.map eI)=some (ks.map fun k=>Dt.tup (k.map Dt.int)):=yk FP ks
theorem yG (x:List Int):∀ks:List (List Int),((ks.map fun k=>Dt.tup (k.map Dt.int)).any fun t=>cp t (.tup (x.map Dt.int)))=decide (x∈ks)
 | []=>rfl
 |k::ks=>by
          rw[r6,NO,yG x ks];have:cp (.tup (k.map Dt.int)) (.tup (x.map Dt.int))=decide (k=x) :=by rw[cp,qI]
          rw[this];by_cases e:k=x
          ·subst e;simp
          ·have e':¬ x=k:=fun z=>e z.symm
           simp[e,e']
theorem Hd {neg:Bool}{M:Mh}{c:al}{ks:List (List Int)}{g:List Int}{Q:ZK}(hc:M c=some (.lst (ks.map eI))) (q:Q (.bl (if neg then !decide (g∈ks) else decide (g∈ks))) M):vH neg (eI g) (.ptr c) M Q :=by
 unfold vH;have e1:now M (eI g)=eI g:=rfl;have e2:now M (.ptr c)=.lst (ks.map eI) :=by simp only[now,hc]
 rw[e1,e2,FP];simp only[yF,yG];refine⟨fun t ht=>?_,q⟩
 obtain⟨k,_,rfl⟩:=ff.mp ht;rw[gf];have:=yl k;omega
def kN (g:List Int):List (List Int):=(im g.length).map fun p:Nat=>[((aP g (p:Nat):Nat):Int),eV g p]
theorem t6 {g:List Int}{p:Nat}(h:p<g.length):bo ((kN g).map eI) (p:Int)=some (eI [((aP g (p:Nat):Nat):Int),eV g p]):=b9 (by
 unfold kN;rw[ij,ij,LG h];rfl)
theorem KL {g:List Int}(h1:1<=g.length) {r:List Int}(hr:r∈kN g) (hx:∀t∈kN g,HT.lexLt r t=false):∃x,r=[((bu g:Nat):Int),x] :=by
 obtain⟨p,hp,rfl⟩:=ff.mp hr;have a:=yD (lm.mp hp);obtain⟨q,hq,eq⟩:=rW h1;have b:=hx _ (ff.mpr ⟨q,lm.mpr hq,rfl⟩);rw[HT.fO]at b;refine⟨eV g p,?_⟩;have:aP g (p:Nat)=bu g :=by
  by_cases z:((aP g (p:Nat):Nat):Int)=((aP g (q:Nat):Nat):Int)
  ·omega
  ·rw[if_neg z]at b;have:=of_decide_eq_false b;omega
 rw[this]
theorem Di (g:List Int):(cV 0 g.length).filter (fun d=>match d with | .int x=>decide (((aP g x:Nat):Int)=((bu g:Nat):Int))|_=>false)=(bj g).map fun p:Nat=>Dv.int (p:Nat) :=by
 unfold cV bj;rw[Vt];have:((fun d=>match d with|Dv.int x=>decide (((aP g x:Nat):Int)=((bu g:Nat):Int))|_=>false) ∘ fun i:Nat=>Dv.int (0+(i:Nat)))=fun p:Nat=>decide (aP g (p:Nat)=bu g) :=by
  funext p
  simp only[RI,GM,decide_eq_decide];omega
 rw[this];exact LP fun p _=>by rw[GM]
theorem z9 {g:List Int}(h:cg g) {r:Int}(hr:r∈a7 g):∃t,(a7 g).filter (fun x=>decide (stepI g x=r))=ck g r::t :=by
 have hm:ck g r∈(a7 g).filter fun x=>decide (stepI g x=r):=KB.mpr ⟨qW h hr,by simp[qX h hr]⟩
 cases e:(a7 g).filter fun x=>decide (stepI g x=r) with
 |nil=>rw[e]at hm;cases hm
 |cons x t=>
  have hx:x∈(a7 g).filter fun x=>decide (stepI g x=r) :=by rw[e];exact f8
  obtain⟨h1,h2⟩:=KB.mp hx;have h2:=of_decide_eq_true h2;rw[C7 h h1 (qW h hr) (by rw[h2,qX h hr])]
  exact⟨t,rfl⟩
theorem Dj (a b:Int):[if a<b then a else b,if a > b then a else b]=qZ a b :=by
 unfold qZ;by_cases h:a<b
 ·rw[if_pos h,if_pos h,if_neg (by omega)]
 ·rw[if_neg h,if_neg h];by_cases h2:a > b
  ·rw[if_pos h2]
  ·rw[if_neg h2,show a=b by omega]
def Dk:dA:=fun ds M Q _=>∃g,ds=[aX g]/\cg g/\1<=g.length/\g.length<=9/\Q (.lst ((cy g).map eI)) M
theorem Aa {f f1 f2:al}{fd bV fd2:mo}(D:Df K mg "_law_due" dR ["_law_step"] f fd)
  (bf:Df K mg "_law_lasting" dq ["_law_step"] f1 bV) (eC:Df K mg "_law_climb" ip ["_law_step","_law_place"] f2 fd2) (bl:Bl mg) :
  FnOk P w K mg base bK 3 f fd ["_law_step"] (bh P w K tb Dk) :=by
 have iK:=lu (P:=P) (w:=w) (base:=base) (tb:=tb) bf bl;have wj:=wg (P:=P) (w:=w) (base:=base) (tb:=tb) eC bf bl;refine eO D cP (fun ds M Q E hS=>by obtain⟨g,e,_⟩:=hS;rw[e];rfl) fun A outer s E Γ ds Q' E' hP hw hK ht hr hS=>?_
 obtain⟨g,e,hg,mE,Dh,q⟩:=hS;refine⟨_,(af (aC (i:=1) cP.nd rfl (LM rfl) (cu (N':=["_law_place","_law_step"]) (tn:=1) (idx:=[0]) rfl (show aB ["_law_step","_law_climbs_here","_law_high","_law_tops","_law_root","_law_ahead","_law_due_here","_law_place"] (ai dR) _ ["_law_place","_law_step"] 1 [0] from by decide +kernel) (bG rfl bl.range_ (aa (ay (cD (K:=K) rfl hK) rfl bl.len_ r9 (aa (qv 0) ae)) ae)) (fun _ _ _ _ _=>(aI (i:=0) (show xz [("_law_place" : cb),("_law_step" : cb)] from by decide +kernel) rfl (l6 rfl))) (fun _ _ _ _ _=>cc) (fun _ _ _ _ _=>(aJ wj (hr.mono (by decide)) rfl eC.mg eC.fn.kp eC.bd bJ hP hw hK ht XR.none (aa (qv 1) (aa (qv 0) ae))))))
  (af (aC (i:=2) cP.nd rfl (LM rfl) (aE (aT (K:=K) rfl) (ay (Kt rfl hr.units) rfl bl.max_ qa (aa (qv 1) ae)) ak (fun _ _=>rfl)))
  (af (lP (i:=3) cP.nd rfl rfl (N':=["_law_place","_law_high","_law_climbs_here"]) (tn:=1) (idx:=[2,1]) rfl (show aB ["_law_step","_law_climbs_here","_law_high","_law_tops","_law_root","_law_ahead","_law_due_here","_law_place"] (ai dR) _ ["_law_place","_law_high","_law_climbs_here"] 1 [2,1] from by decide +kernel) (bG rfl bl.range_ (aa (ay (cD (K:=K) rfl hK) rfl bl.len_ r9 (aa (qv 0) ae)) ae)) (fun _ _ _ _ _=>(aI (i:=0) (show xz [("_law_place" : cb),("_law_high" : cb),("_law_climbs_here" : cb)] from by decide +kernel) rfl (l6 rfl))) (fun _ _ _ _ _=>(oi (bE kQ (aE (aT (K:=K) rfl) (aE (aT (K:=K) rfl) (qv 2) (qv 0) (fun _ _=>rfl)) ak (fun _ _=>rfl)) (qv 1) (bW _)))) (fun _ _ _ _ _=>(qv 0)))
  (af (aC (i:=4) cP.nd rfl (LM rfl) (aE (aT (K:=K) rfl) (aE (aT (K:=K) rfl) (qv 1) (aE (aT (K:=K) rfl) (qv 3) ak (fun _ _=>rfl)) (fun _ _=>rfl)) ak (fun _ _=>rfl)))
  (af (dP (QW.pt (og (bE kQ (qv 2) ak (bW _)) (nJ (gB (fH (ay (vF (K:=K) rfl rfl) rfl bl.all_ u0 (aa (cu (N':=["_law_place","_law_root","_law_climbs_here"]) (tn:=1) (idx:=[4,1]) rfl (show aB ["_law_step","_law_climbs_here","_law_high","_law_tops","_law_root","_law_ahead","_law_due_here","_law_place"] (ai dR) _ ["_law_place","_law_root","_law_climbs_here"] 1 [4,1] from by decide +kernel) (cW (K:=K) rfl (qv 3)) (fun _ _ _ _ _=>(aI (i:=0) (show xz [("_law_place" : cb),("_law_root" : cb),("_law_climbs_here" : cb)] from by decide +kernel) rfl (l6 rfl))) (fun _ _ _ _ _=>cc) (fun _ _ _ _ _=>(oe kQ (aE (aT (K:=K) rfl) (aE (aT (K:=K) rfl) (qv 2) (qv 0) (fun _ _=>rfl)) ak (fun _ _=>rfl)) (qv 1) (bW _)))) ae)))))))
   (au (aZ (vp ae)))
   qss_nil)
  (af (aC (i:=5) cP.nd rfl (l6 rfl) (aE (aT (K:=K) rfl) (cu (N':=["_law_place","_law_root","_law_step"]) (tn:=1) (idx:=[4,0]) rfl (show aB ["_law_step","_law_climbs_here","_law_high","_law_tops","_law_root","_law_ahead","_law_due_here","_law_place"] (ai dR) _ ["_law_place","_law_root","_law_step"] 1 [4,0] from by decide +kernel) (cW (K:=K) rfl (aJ iK (hr.mono (by decide)) rfl bf.mg bf.fn.kp bf.bd bJ hP hw hK ht XR.none (aa (qv 0) ae))) (fun _ _ _ _ _=>(aI (i:=0) (show xz [("_law_place" : cb),("_law_root" : cb),("_law_step" : cb)] from by decide +kernel) rfl (l6 rfl))) (fun _ _ _ _ _=>(oi (bE kQ (aE (aT (K:=K) rfl) (qv 2) (qv 0) (fun _ _=>rfl)) (qv 1) (bW _)))) (fun _ _ _ _ _=>(qv 0))) ak (fun _ _=>rfl)))
  (af (aC (i:=6) cP.nd rfl (l6 rfl) (gY ae))
  (af (dQ rf rfl (cW (K:=K) rfl (qv 3)) (fun j7 eP ew eK et=>by have hP:=hP.trans eP.symm;have hw:=hw.trans ew.symm;have hK:=hK.trans eK.symm;have ht:=ht.trans et.symm;exact⟨(aI (i:=7) cP.nd rfl (l6 rfl)),(af (jV rf (bE Em (aE (aT (K:=K) rfl) (aE (aT (K:=K) rfl) (qv 1) (qv 7) (fun _ _=>rfl)) ak (fun _ _=>rfl)) ak (bW _))
   (au (aC (i:=7) cP.nd rfl (l6 rfl) (aE (aT (K:=K) rfl) (qv 0) (qv 7) (fun _ _=>rfl)))))
  (au (dP (bE (Es hr.units) (jU (aa (ay (nN rfl) rfl bl.min_ m5 (aa (qv 7) (aa (qv 5) ae))) (aa (ay (B1 rfl) rfl bl.max_ qa (aa (qv 7) (aa (qv 5) ae))) ae))) (qv 6) (by rfl))
   (au (fb (ju (K:=K) rfl BS CS Da gQ (qv 6) (aa (jU (aa (ay (nN rfl) rfl bl.min_ m5 (aa (qv 7) (aa (qv 5) ae))) (aa (ay (B1 rfl) rfl bl.max_ qa (aa (qv 7) (aa (qv 5) ae))) ae))) ae))))
   qss_nil)))⟩))
  (au (aZ (ay (G6 (K:=K) rfl) rfl bl.sorted_ ku (aa (qv 6) ae)))))))))))),?_⟩
 subst e;have big:(1000:Nat)<sizeLine :=by decide
 have R1:=pH g;obtain⟨p0,ps,ep⟩:=rX mE;have z8:aF g=eV g p0 :=by unfold aF;rw[ep];rfl
 have F9:=qY mE;have aD:∀{p},p∈bj g->p<g.length:=fun hp=>(ke.mp hp).1
 refine FU (fun ρ M=>(∃x7,ρ=[some (aX g),some (.lst ((kN g).map eI)),some (.int ((bu g:Nat):Int)),some (.lst ((bj g).map fun p:Nat=>Dv.int (p:Nat))),some (.int (aF g)),none,none,x7])/\M=Γ.M0) (fun N hN=>?_) (fun ρ M hI=>?_)
 ·simp! only[];refine⟨by omega,by omega,by omega,iC (fun d=>match d with | .int x=>eI [((aP g x:Nat):Int),aS g (aP g x) x]|d=>d) (fun τ M2=>(∃x,τ=[x,some (aX g)])/\M2=Γ.M0) ⟨⟨_,rfl⟩,rfl⟩ (fun d hd τ M2 hE R hR=>?_) (fun τ M2 hE=>?_)⟩
  ·obtain⟨⟨x,rfl⟩,rfl⟩:=hE;obtain⟨p,hp,rfl⟩:=jv hd;have h:=hR [some (.int (0+(p:Nat))),some (aX g)] Γ.M0 ⟨⟨_,rfl⟩,rfl⟩;rw[GM]at h ⊢;exact⟨g,p,rfl,hg,Dh,hp,h⟩
  ·obtain⟨⟨x,rfl⟩,rfl⟩:=hE;have ec:(cV 0 g.length).map (fun d=>match d with | .int x=>eI [((aP g x:Nat):Int),aS g (aP g x) x]|d=>d)=(kN g).map eI :=by
    unfold cV kN;rw[wE,wE];exact LP fun p _=>by simp only[RI,GM];rfl
   rw[ec];refine⟨kN g,rfl,fun e=>?_,fun r hr hx=>?_⟩
   ·have:=congrArg TU e;unfold kN at this;rw[br,wT,KM]at this;omega
   ·obtain⟨x,rfl⟩:=KL mE hr hx;have e0:∀x:Dv,∀xs:List Dv,bo (x::xs) 0=some x:=fun x xs=>atI_zero
    have ez:bo ([((bu g:Nat):Int),x].map Dv.int) 0=some (.int ((bu g:Nat):Int)):=atI_zero;rw[ez];refine⟨by omega,by omega,by omega,jX (fun d=>match d with | .int x=>decide (((aP g x:Nat):Int)=((bu g:Nat):Int))|_=>false) (fun d hd R hR=>?_) ?_⟩
    ·obtain⟨p,hp,rfl⟩:=jv hd;rw[GM]at hR ⊢;simp! only[t6 hp,eI,e0];exact hR
    ·rw[Di];have ye:=aD (p:=p0) (by rw[ep];exact f8)
     have e1:∀x y:Dv,bo [x,y] 1=some y:=fun x y=>b9 (j:=1) rfl
     rw[ep,r6];simp! only[e0,t6 ye,eI,e1];refine hN _ _ ⟨⟨none,?_⟩,rfl⟩;rw[ep,z8];rfl
 ·obtain⟨⟨x7,rfl⟩,rfl⟩:=hI;have e0:∀x:Dv,∀xs:List Dv,bo (x::xs) 0=some x:=fun x xs=>atI_zero
  have e1:∀x y:Dv,bo [x,y] 1=some y:=fun x y=>b9 (j:=1) rfl
  have KN:ir g=true->cy g=[]:=fun h=>by unfold cy;rw[if_pos h]
  simp! only[];refine fK (fun h=>?_) (fun h=>?_)
  ·rw[KN (by unfold ir;rw[decide_eq_true (show bu g=0 by have:=of_decide_eq_true h;omega)];rfl)]at q
   exact⟨by omega,.inl q⟩
  ·have hH:bu g≠0:=fun e=>by rw[e]at h;exact absurd h (by decide)
   obtain⟨m,hm⟩:∃m,bu g=m+1:=⟨bu g - 1,by omega⟩
   refine⟨by omega,iC (fun d=>match d with | .int x=>.bl (decide (aS g (aP g x) x=aF g))|d=>d) (fun τ M2=>(∃x,τ=[x,some (.int (aF g)),some (.lst ((kN g).map eI))])/\M2=Γ.M0) ⟨⟨_,rfl⟩,rfl⟩ (fun d hd τ M2 hE R hR=>?_) (fun τ M2 hE=>?_)⟩
   ·obtain⟨⟨x,rfl⟩,rfl⟩:=hE;obtain⟨p,hp,rfl⟩:=ff.mp hd;have h:=hR [some (.int (p:Nat)),some (.int (aF g)),some (.lst ((kN g).map eI))] Γ.M0 ⟨⟨_,rfl⟩,rfl⟩;simp! only[t6 (aD hp),eI,e1];exact h
   ·obtain⟨⟨x,rfl⟩,rfl⟩:=hE;have eb:((bj g).map fun p:Nat=>Dv.int (p:Nat)).map (fun d=>match d with | .int x=>.bl (decide (aS g (aP g x) x=aF g))|d=>d)=((bj g).map fun p=>decide (eV g p=aF g)).map Dv.bl :=by
     rw[wE,wE];rfl
    have ea:(!((bj g).map fun p=>decide (eV g p=aF g)).all id)=(bj g).any fun p=>decide (eV g p≠aF g) :=by
     rw[List.all_map,List.not_all_eq_any_not];exact any_eq fun p _=>by simp
    rw[eb,lR];simp! only[ea];refine fK (fun hb=>?_) (fun hb=>?_)
    ·rw[KN (by unfold ir;rw[hb,Bool.or_true])]at q
     exact⟨by omega,.inl q⟩
    ·have B4:ir g=false :=by unfold ir;rw[hb,decide_eq_false hH];rfl
     have jh:=me g g.length;have jh:(a7 g).length<=9 :=by unfold a7;omega
     refine⟨g,rfl,hg,Dh,?_⟩;simp! only[];refine⟨by omega,jX (fun d=>match d with | .int x=>decide (stepI g x=aF g)|_=>false) (fun d hd R hR=>?_) ?_⟩
     ·obtain⟨x,hx,rfl⟩:=ff.mp hd;obtain⟨i0,i1⟩:=oB hg _ x hx;simp! only[step_at i0 i1];exact hR
     ·obtain⟨t,et⟩:=z9 hg F9;have ef:((a7 g).map Dv.int).filter (fun d=>match d with | .int x=>decide (stepI g x=aF g)|_=>false)=Dv.int (ck g (aF g))::t.map Dv.int :=by
       rw[Vt,show ((fun d=>match d with|Dv.int x=>decide (stepI g x=aF g)|_=>false) ∘ Dv.int)=fun x=>decide (stepI g x=aF g) from rfl,et]
       rfl
      rw[ef,e0];refine⟨by omega,fun a ha=>?_⟩
      refine bO (fun j ρ M=>(∃x7,ρ=[some (aX g),some (.lst ((kN g).map eI)),some (.int ((bu g:Nat):Int)),some (.lst ((bj g).map fun p:Nat=>Dv.int (p:Nat))),some (.int (aF g)),some (.int (ck g (aF g))),some (.ptr a),x7])/\M=aA Γ.M0 a (.lst ((eW g j).map eI))) ⟨⟨_,rfl⟩,rfl⟩ (fun j d ρ M N hd hJ hN=>?_) (fun ρ M hJ=>?_)
      ·obtain⟨⟨x7,rfl⟩,rfl⟩:=hJ;obtain⟨p,hp,rfl⟩:=nR hd;have Cw:=gl hp;have dh:=aD Cw;have SW:=(ke.mp Cw).2;have hj:=(cr.mp hp).1;have hl:=jB g j;show zSeq _ _ _ _ _;refine⟨fun k ρ M=>∃i:Nat,k=m - i/\i<=m/\ρ=[some (aX g),some (.lst ((kN g).map eI)),some (.int ((bu g:Nat):Int)),some (.lst ((bj g).map fun p:Nat=>Dv.int (p:Nat))),some (.int (aF g)),some (.int (ck g (aF g))),some (.ptr a),some (.int (aS g i (p:Nat)))]/\M=aA Γ.M0 a (.lst ((eW g j).map eI)),⟨_,0,rfl,sB _,rfl,rfl⟩,?_⟩
       rintro k ρ M ⟨i,rfl,SX,rfl,rfl⟩;obtain⟨i0,i1⟩:=fM hg (p:=(p:Nat)) (by omega) (by omega) i
       have ib:=EZ hg (p:=(p:Nat)) (by omega) (by omega) (j:=i) (by omega)
       obtain⟨y,hy⟩:=FS i0;have R5:y<g.length :=by omega
       have hc:=t6 R5;rw[<- hy]at hc;simp! only[hc,eI,e0];refine fK (fun h=>?_) (fun h=>?_)
       ·have h:=of_decide_eq_true h;rw[step_at i0 i1];exact⟨m - (i+1),by omega,i+1,rfl,by omega,rfl⟩
       ·have h:=of_decide_eq_false h;have PL:i=m :=by omega
        subst PL;have ji:bu g - 1=i :=by omega
        have R6:=Dj (ck g (aF g)) (aS g i (p:Nat));have et:Dv.tup [Dv.int (if ck g (aF g)<aS g i (p:Nat) then ck g (aF g) else aS g i (p:Nat)),Dv.int (if ck g (aF g) > aS g i (p:Nat) then ck g (aF g) else aS g i (p:Nat))]=eI (qZ (ck g (aF g)) (aS g i (p:Nat))) :=by rw[<- R6];rfl
        refine⟨by omega,?_⟩
        rw[et];refine Hd updM_same ?_;have jn:=hN [some (aX g),some (.lst ((kN g).map eI)),some (.int ((bu g:Nat):Int)),some (.lst ((bj g).map fun p:Nat=>Dv.int (p:Nat))),some (.int (aF g)),some (.int (ck g (aF g))),some (.ptr a),some (.int (aS g i (p:Nat)))] _ ⟨⟨_,rfl⟩,rfl⟩
        rw[pJ hp]at jn;simp only[pI,jZ,ji]at jn;show if _=true then _ else _
        by_cases hk:qZ (ck g (aF g)) (aS g i (p:Nat))∈eW g j
        ·rw[if_pos hk]at jn;rw[if_neg (by simp[hk])]
         exact jn
        ·rw[if_neg hk,mv]at jn;rw[if_pos (by simp[hk])]
         simp only[updM_same,updM_updM,br];exact⟨trivial,by omega,by omega,jn⟩
      ·obtain⟨⟨x7,rfl⟩,rfl⟩:=hJ;rw[br];have hl:=jB g (bj g).length;have er:=sX (eW g (bj g).length);simp! only[er,Po];refine⟨by omega,fun r hr e=>?_,?_⟩
       ·have:=rY g _ r hr;rw[e]at this;cases this
       ·have e4:cy g=gJ (eW g (bj g).length) :=by unfold cy;rw[B4,if_neg (by decide)]
        rw[<- e4];exact kD (.upd ha .refl) (.lst fun d hd=>by obtain⟨r,_,rfl⟩:=ff.mp hd;exact .tup (dg r)) q
end
section
variable {P:i4}{w:i8}{K:bn}{mg:cb->Option ap}{base:kt}{tb:dy}{C_NoNet C_NoSign:al}
theorem se:aO ["_law_found"] ["_law_found"] (ai gL):=⟨rfl,rfl,rfl,by decide +kernel,rfl,by decide +kernel,by decide +kernel⟩
theorem kh:aO ["_law_net_here","_law_sign","_law_due_here","_law_turn","_law_found"] ["_law_net_here","_law_sign","_law_due_here"] (ai fe):=⟨rfl,rfl,rfl,by decide +kernel,rfl,by decide +kernel,by decide +kernel⟩
def KO:dA:=fun ds M Q _=>∃i,ds=[.int i]/\Q (.bl true) M
theorem tN {f:al}{fd:mo}(D:Df K mg "_law_number" gL ["_law_found"] f fd) (bl:Bl mg):FnOk P w K mg base bK 1 f fd ["_law_found"] (bh P w K tb KO) :=by
 refine eO D se (fun ds M Q E hS=>by obtain⟨i,e,_⟩:=hS;rw[e];rfl) fun A outer s E Γ ds Q' E' hP hw hK ht hr hS=>?_
 obtain⟨i,e,q⟩:=hS;refine⟨_,(au (aZ (la (ay (eL (K:=K) rfl) rfl bl.isinstance_ b5 (aa (qv 0) (aa (fR (v:=.ty "int") rfl bl.int_ Bd rfl) ae))) (nK (BO (ay (eL (K:=K) rfl) rfl bl.isinstance_ b5 (aa (qv 0) (aa (fR (v:=.ty "bool") rfl bl.bool_ xF rfl) ae)))))))),?_⟩
 subst e;simp! only[];exact⟨by decide,by decide,.inl q⟩
theorem E5 {d e:Dv}{t:Dt}{M:Mh}{Q:ZK}(h:bH (now M d)=some t) (h2:bH (now M e)=some t) (hp:gf t<=60) (q:Q (.bl false) M):vv true d e M Q :=by
 unfold vv;rw[h,h2];refine⟨hp,?_⟩;rw[lF];exact q
theorem yH (ks:List (List Int)):bH (.lst (ks.map eI))=some (.lst (ks.map fun k=>Dt.tup (k.map Dt.int))) :=by
 simp only[bH,yF,Cf]
theorem He (ks:List (List Int)):gf (.lst (ks.map fun k=>Dt.tup (k.map Dt.int)))<=60 :=by
 rw[gf];have:=pw (n:=1) (ds:=ks.map fun k=>Dt.tup (k.map Dt.int)) fun d hd=>by
  obtain⟨r,_,rfl⟩:=ff.mp hd;rw[gf];have:=yl r;omega
 omega
theorem wm {M:Mh}(ks:List (List Int)):Pin M (.lst (ks.map eI)):=.lst fun d hd=>by obtain⟨r,_,rfl⟩:=ff.mp hd;exact .tup (dg r)
theorem KP (r:List Int):kG (eI r):=.tup fun d hd=>by obtain⟨x,_,rfl⟩:=ff.mp hd;exact .int x
theorem tE (n:Nat):boolsD (qr n (Dv.bl true))=some (qr n true) :=by
 have:=lR (qr n true);rwa [List.map_replicate]at this
theorem yI {c:Prop} [Decidable c] {A B:Prop}(h:¬ c) (b:B):if c then A else B :=by rw[if_neg h];exact b
theorem kg.up {M0 M1 M:Mh}{a:al}{rows:List (List Int)}(h:kg M1 M a rows) (k:Keeps M0 M1) (o:∀c o,M1 c=some o->M0 c=some o\/∀d∈o.items,∃r:List Int,d=eI r):kg M0 M a rows :=by
 refine⟨w6 k h.a0,h.am,fun c o e=>h.kp c o (k c o e),fun c u e=>?_⟩
 rcases h.oth c u e with z|z
 ·exact o c u z
 ·exact .inr z
theorem kg.KQ {M0 M:Mh}{a:al}{rows:List (List Int)}(h:kg M0 M a rows) {ρ:av}(R7:∀(i:Nat) (d:Dv),ρ[i]?=some (some d)->Pin (bD M a) d):zD M0 (bD M a) ρ:=⟨R7,fun b o e=>by
 have nb:b≠a:=fun q=>by rw[q,b6]at e;cases e
 rw[a9 nb]at e;rcases h.oth b o e with z|z
 ·exact .inl z
 ·exact .inr fun d hd=>by obtain⟨r,rfl⟩:=z d hd;exact .tup (dg r)⟩
theorem kg.Oj {M0 M:Mh}{a:al}{rows:List (List Int)}(h:kg M0 M a rows) (h0:∀b o,M0 b=some o->∀d∈o.items,kG d):∀b o,M b=some o->b≠a->∀d∈o.items,kG d:=fun b o e n d hd=>by
 rcases h.oth b o e with z|z
 ·exact h0 b o z d hd
 ·obtain⟨r,rfl⟩:=z d hd;exact KP r
def Ga:dA:=fun ds M Q _=>∃az n k,ds=[eN az,.str (sg k),.lst ((cy (cj az k)).map eI)]/\fu az n/\k<n/\(∀b o,M b=some o->∀d∈o.items,kG d)/\Q (.bl true) M
theorem w9 {f f1 f2:al}{fd bV fd2:mo}(D:Df K mg "_law_good" fe ["_law_net_here","_law_sign","_law_due_here"] f fd)
  (dY:Df K mg "top_pairs" dn ["net","sign"] f1 bV) (xa:FnOk P w K mg base (eX P w) 12 f1 bV ["net","sign"] (bh P w K tb zTop))
  (b7:Df K mg "_law_number" gL ["_law_found"] f2 fd2) (mJ:FnOk P w K mg base bK 1 f2 fd2 ["_law_found"] (bh P w K tb KO)) (bl:Bl mg) :
  FnOk P w K mg base bK 13 f fd ["_law_net_here","_law_sign","_law_due_here"] (bh P w K tb Ga) :=by
 refine eO D kh (fun ds M Q E hS=>by obtain⟨az,n,k,e,_⟩:=hS;rw[e];rfl) fun A outer s E Γ ds Q' E' hP hw hK ht hr hS=>?_
 obtain⟨az,n,k,e,O,hk,Ol,q⟩:=hS;refine⟨_,(af (rK rf rfl (bG rfl bl.range_ (aa ak ae)) (fun j7 M1 hM eP ew eK et=>by have hP:=hP.trans eP.symm;have hw:=hw.trans ew.symm;have hK:=hK.trans eK.symm;have ht:=ht.trans et.symm;exact⟨(aI (i:=3) kh.nd rfl (l6 rfl)),(af (aC (i:=4) kh.nd rfl (l6 rfl) (aJ xa (hr.mono (by decide)) rfl dY.mg dY.fn.kp dY.bd Mb hP hw hK ht XR.none (aa (qv 0) (aa (qv 1) ae))))
  (af (dP (QW.pt (og (gB (fH (ay (eL (K:=K) rfl) rfl bl.isinstance_ b5 (aa (qv 4) (aa (fR (v:=.ty "list") rfl bl.list_ xG rfl) ae))))) (og (gB (fH (ym 4 hM (ay (vF (K:=K) rfl rfl) rfl bl.all_ u0 (aa (cu (N':=["_law_two"]) (tn:=1) (idx:=[]) rfl (show aB ["_law_net_here","_law_sign","_law_due_here","_law_turn","_law_found"] (ai fe) _ ["_law_two"] 1 [] from by decide +kernel) (cW (K:=K) rfl (qv 4)) (fun _ _ _ _ _=>(aI (i:=0) (show xz [("_law_two" : cb)] from by decide +kernel) rfl (l6 rfl))) (fun _ _ _ _ _=>cc) (fun _ _ _ _ _=>(ay (eL (K:=K) rfl) rfl bl.isinstance_ b5 (aa (qv 0) (aa (fR (v:=.ty "tuple") rfl bl.tuple_ gP rfl) ae))))) ae))))) (nJ (bE (Mp hr.units) (qv 4) (qv 2) (bW _))))))
   (au (aZ jt))
   qss_nil)
  (af (dP (gB (fH (ym 4 hM (ay (vF (K:=K) rfl rfl) rfl bl.all_ u0 (aa (cu (N':=["_law_two"]) (tn:=1) (idx:=[]) rfl (show aB ["_law_net_here","_law_sign","_law_due_here","_law_turn","_law_found"] (ai fe) _ ["_law_two"] 1 [] from by decide +kernel) (cW (K:=K) rfl (qv 4)) (fun _ _ _ _ _=>(aI (i:=0) (show xz [("_law_two" : cb)] from by decide +kernel) rfl (l6 rfl))) (fun _ _ _ _ _=>cc) (fun _ _ _ _ _=>(la (aJ mJ (hr.mono (by decide)) rfl b7.mg b7.fn.kp b7.bd bJ hP hw hK ht XR.none (aa (aE (aT (K:=K) rfl) (qv 0) ak (fun _ _=>rfl)) ae)) (nK (aJ mJ (hr.mono (by decide)) rfl b7.mg b7.fn.kp b7.bd bJ hP hw hK ht XR.none (aa (aE (aT (K:=K) rfl) (qv 0) ak (fun _ _=>rfl)) ae)))))) ae)))))
   (au (aZ jt))
   qss_nil)
  (au (fb (ju (K:=K) rfl BS CS Da gQ (qv 4) (aa (jU (aa ak (aa ak ae))) ae)))))))⟩))
  (au (aZ jt))),?_⟩
 subst e;have big:(1000:Nat)<sizeLine :=by decide
 have h9:=O.nine;have jg:(cj az k).length=az.length :=by simp[cj]
 obtain⟨g,eg⟩:∃g,g=cj az k:=⟨_,rfl⟩;have Kd:(cy g).length<=9 :=by have:=E3 g;rw[eg]at this ⊢;omega
 have PN:=E4 g;rw[<- eg];simp! only[];refine⟨by omega,by omega,?_⟩
 have KR:∀(M:Mh) (i:Int) (j:Nat) (d:Dv),([some (eN az),some (Dv.str (sg k)),some (Dv.lst ((cy g).map eI)),some (.int i),some (Dv.lst ((cy g).map eI))]:av)[j]?=some (some d)->Pin M d:=fun M i j d e=>by
  match j,e with
  |0,e=>cases e;exact qJ az
  |1,e=>cases e;exact .str _
  |2,e=>cases e;exact wm _
  |3,e=>cases e;exact .int _
  |4,e=>cases e;exact wm _
  |j+5,e=>exact nomatch e
 refine bO (fun i ρ M=>(∃x3 x4,ρ=[some (eN az),some (Dv.str (sg k)),some (Dv.lst ((cy g).map eI)),x3,x4])/\Keeps Γ.M0 M/\∀c o,M c=some o->Γ.M0 c=some o\/∀d∈o.items,∃r:List Int,d=eI r)
  ⟨⟨_,_,rfl⟩,.refl,fun c o e=>.inl e⟩ (fun i d ρ M N hd hJ hN=>?_) (fun ρ M hJ=>?_)
 ·obtain⟨⟨x3,x4,rfl⟩,kJ,ho⟩:=hJ;obtain⟨v,rfl⟩:∃v,d=.int v:=⟨_,(cf hd).1⟩;show zSeq _ _ _ _ _;refine ou (fun ρ M=>∃a:al,ρ=[some (eN az),some (Dv.str (sg k)),some (Dv.lst ((cy g).map eI)),some (.int v),some (.ptr a)]/\kg Γ.M0 M a (cy g)) (fun N' Dl=>?_) (fun ρ M hI=>?_)
  ·simp! only[];exact⟨az,n,k,rfl,O,hk,fun a M' h=>Dl _ _ ⟨a,rfl,by rw[eg];exact h.up kJ ho⟩⟩
  ·obtain⟨a,rfl,hI⟩:=hI;refine ou (fun ρ M=>∃a:al,ρ=[some (eN az),some (Dv.str (sg k)),some (Dv.lst ((cy g).map eI)),some (.int v),some (.ptr a)]/\kg Γ.M0 M a (cy g)) (fun N' Dl=>?_) (fun ρ M hI=>?_)
   ·simp! only[hI.am];refine⟨by decide,.inr ⟨a,_,rfl,hI.am,hI.a0,hI.KQ (KR _ v),hI.Oj Ol,?_⟩⟩
    simp! only[];refine⟨by omega,iC (fun _=>.bl true) (fun τ M2=>(∃x,τ=[x])/\M2=bD M a) ⟨⟨_,rfl⟩,rfl⟩ (fun d hd τ M2 hE R hR=>?_) (fun τ M2 hE=>?_)⟩
    ·obtain⟨⟨x,rfl⟩,rfl⟩:=hE;obtain⟨r,_,rfl⟩:=ff.mp hd;simp! only[];exact⟨by decide,hR _ _ ⟨⟨_,rfl⟩,rfl⟩⟩
    ·obtain⟨⟨x,rfl⟩,rfl⟩:=hE;rw[List.map_const',tE];refine⟨rfl,.bl _,yI (by simp) ?_⟩
     refine E5 (by simp only[now,hI.am];exact yH _) (yH _) (He _) ?_
     exact Dl _ _ ⟨a,rfl,hI⟩
   ·obtain⟨a,rfl,hI⟩:=hI;refine ou (fun ρ M=>∃a:al,ρ=[some (eN az),some (Dv.str (sg k)),some (Dv.lst ((cy g).map eI)),some (.int v),some (.ptr a)]/\kg Γ.M0 M a (cy g)) (fun N' Dl=>?_) (fun ρ M hI=>?_)
    ·simp! only[];refine .inr ⟨a,_,rfl,hI.am,hI.a0,hI.KQ (KR _ v),hI.Oj Ol,?_⟩;simp! only[];refine⟨by omega,iC (fun _=>.bl true) (fun τ M2=>(∃x,τ=[x])/\M2=bD M a) ⟨⟨_,rfl⟩,rfl⟩ (fun d hd τ M2 hE R hR=>?_) (fun τ M2 hE=>?_)⟩
     ·obtain⟨⟨x,rfl⟩,rfl⟩:=hE;obtain⟨r,hr,rfl⟩:=ff.mp hd;have h2:=PN r hr;match r,h2 with
      | [y,z],_=>
       have e0:∀x:Dv,∀xs:List Dv,bo (x::xs) 0=some x:=fun x xs=>atI_zero
       have e1:∀x y:Dv,bo [x,y] 1=some y:=fun x y=>b9 (j:=1) rfl
       simp! only[eI,e0,e1];exact⟨y,rfl,z,rfl,hR _ _ ⟨⟨_,rfl⟩,rfl⟩⟩
     ·obtain⟨⟨x,rfl⟩,rfl⟩:=hE;rw[List.map_const',tE];refine⟨rfl,.bl _,yI (by simp) (Dl _ _ ⟨a,rfl,hI⟩)⟩
    ·obtain⟨a,rfl,hI⟩:=hI;simp! only[hI.am];refine⟨by omega,by omega,hN _ _ ⟨⟨_,_,rfl⟩,.upd hI.a0 hI.kp,fun c o e=>?_⟩⟩
     by_cases z:c=a
     ·rw[z,updM_same]at e;cases e;refine .inr fun d hd=>?_
      rcases rc.mp hd with y|y
      ·obtain⟨r,_,rfl⟩:=ff.mp y;exact⟨r,rfl⟩
      ·rw[lw.mp y];exact⟨[0,1],rfl⟩
     ·rw[ah z]at e;exact hI.oth c o e
 ·obtain⟨⟨x3,x4,rfl⟩,kJ,ho⟩:=hJ;exact kD kJ (.bl _) q
end
section
variable {P:i4}{w:i8}{K:bn}{mg:cb->Option ap}{base:kt}{tb:dy}
theorem fN:aO ["_law_bag_here","_law_net_here","_law_order_here","_law_cut","_law_rows","_law_k"] ["_law_bag_here","_law_net_here"] (ai fg):=⟨rfl,rfl,rfl,by decide +kernel,rfl,by decide +kernel,by decide +kernel⟩
def Gb:dA:=fun ds M Q _=>∃(b:al) (az:List (List Int)) (n:Nat),ds=[.ptr b,eN az]/\M b=some .cJ/\fu az n/\∀mw,fu mw n->mw.length<=9->Q (eN mw) M
theorem xc {f f1 f2:al}{fd bV fd2:mo}(D:Df K mg "_law_hung" fg ["_law_bag_here","_law_net_here"] f fd)
  (ax:Df K mg "_law_take" fc ["_law_bag_here","_law_many"] f1 bV) (bZ:FnOk P w K mg base bK 1 f1 bV ["_law_bag_here","_law_many"] (bh P w K tb t5))
  (bP:Df K mg "_law_order" fL ["_law_bag_here","_law_many"] f2 fd2) (j9:FnOk P w K mg base bK 2 f2 fd2 ["_law_bag_here","_law_many"] (bh P w K tb vX)) (bl:Bl mg):FnOk P w K mg base bK 3 f fd ["_law_bag_here","_law_net_here"] (bh P w K tb Gb) :=by
 refine eO D fN (fun ds M Q E hS=>by obtain⟨b,az,n,e,_⟩:=hS;rw[e];rfl) fun A outer s E Γ ds Q' E' hP hw hK ht hr hS=>?_
 obtain⟨b,az,n,e,hb,O,q⟩:=hS;refine⟨_,(af (aC (i:=2) fN.nd rfl (l6 rfl) (aJ j9 (hr.mono (by decide)) rfl bP.mg bP.fn.kp bP.bd bJ hP hw hK ht XR.none (aa (qv 0) (aa (ay (cD (K:=K) rfl hK) rfl bl.len_ r9 (aa (qv 1) ae)) ae))))
  (af (aC (i:=3) fN.nd rfl (l6 rfl) (bg gG ak (aJ bZ (hr.mono (by decide)) rfl ax.mg ax.fn.kp ax.bd bJ hP hw hK ht XR.none (aa (qv 0) (aa (ay (cD (K:=K) rfl hK) rfl bl.len_ r9 (aa (qv 1) ae)) ae)))))
  (af (oR (i:=4) fN.nd rfl rfl (N':=["_law_row"]) (tn:=1) (idx:=[]) rfl (show aB ["_law_bag_here","_law_net_here","_law_order_here","_law_cut","_law_rows","_law_k"] (ai fg) _ ["_law_row"] 1 [] from by decide +kernel) (lg (K:=K) rfl (qv 1)) (fun _ _ _ _ _=>(aI (i:=0) (show xz [("_law_row" : cb)] from by decide +kernel) rfl (l6 rfl))) (fun _ _ _ _ _=>cc) (fun _ _ _ _ _=>(gZ (GZ (K:=K) rfl) rfl bl.list_ xG (aa (qv 0) ae))))
  (af (dQ rf rfl (BR rfl bl.range_ (aa ak (aa (qv 3) ae))) (fun j7 eP ew eK et=>by have hP:=hP.trans eP.symm;have hw:=hw.trans ew.symm;have hK:=hK.trans eK.symm;have ht:=ht.trans et.symm;exact⟨(aI (i:=5) fN.nd rfl (l6 rfl)),(au (lb (aE (aT (K:=K) rfl) (qv 2) (qv 5) (fun _ _=>rfl)) (lj (aE (aT (K:=K) rfl) (qv 4) (aE (aT (K:=K) rfl) (qv 2) (bg zy (qv 5) ak) (fun _ _=>rfl)) (fun _ _=>rfl)) ak)))⟩))
  (au (vG 4 rfl (aZ (gZ (om (K:=K) rfl) rfl bl.tuple_ gP (aa (cu (N':=["_law_row"]) (tn:=1) (idx:=[]) rfl (show aB ["_law_bag_here","_law_net_here","_law_order_here","_law_cut","_law_rows","_law_k"] (ai fg) _ ["_law_row"] 1 [] from by decide +kernel) (cW (K:=K) rfl (qv 4)) (fun _ _ _ _ _=>(aI (i:=0) (show xz [("_law_row" : cb)] from by decide +kernel) rfl (l6 rfl))) (fun _ _ _ _ _=>cc) (fun _ _ _ _ _=>(gZ (om (K:=K) rfl) rfl bl.tuple_ gP (aa (qv 0) ae)))) ae))))))))),?_⟩
 subst e;have big:(1000:Nat)<sizeLine :=by decide
 have h9:=O.nine;have h1:=O.one;have F8:=O.wid;refine FT (fun ρ M=>∃(r:al) (as:List al) (os:List Int) (cut:Nat),ρ=[some (.ptr b),some (eN az),some (aX os),some (.int (cut:Nat)),some (.ptr r),none]/\cZ Γ.M0 M r as az.length n/\cY az.length os/\cut<=az.length) (fun N hN=>?_) ?_
 ·simp! only[];refine⟨b,az.length,rfl,hb,by omega,fun os gC=>?_⟩
  simp! only[];refine⟨b,_,rfl,hb,by omega,by omega,fun t ht=>?_⟩
  obtain⟨cut,PQ⟩:∃cut:Nat,(1+(t:Int))=(cut:Nat):=⟨1+t,by omega⟩
  simp! only[PQ];refine⟨by omega,iD (acc:=[]) (fun acc τ M=>∃as:List al,acc=as.map Dv.ptr/\(∃x,τ=[x])/\j8 Γ.M0 M/\∀a∈as,Γ.M0 a=none/\∃row:List Int,M a=some (.lst (row.map .int))/\eR az.length n row) ⟨[],rfl,⟨_,rfl⟩,.refl,fun _ h=>nomatch h⟩ (fun i d acc τ M hd _ hJ R hR=>?_) (fun ys τ M hl hJ=>?_)⟩
  ·obtain⟨as,rfl,⟨x,rfl⟩,hO,ha⟩:=hJ;obtain⟨row,PR,rfl⟩:=nR hd;have ro:=O.row row (gl PR);simp! only[eI];intro a hn;obtain⟨F3,e1,t1,t2,t3⟩:=CM (T:=True) hO ha hn (row:=row) ⟨ro.1,ro.2⟩ trivial;exact hR _ _ _ ⟨F3,e1,⟨_,rfl⟩,t2,t3⟩
  ·obtain⟨as,e1,⟨x,rfl⟩,hO,ha⟩:=hJ;rw[ES]at e1;subst e1;intro r mH;exact hN _ _ ⟨r,as,os,cut,rfl,cZ.mk' hO mH (by simpa using hl) ha,gC,by omega⟩
 rintro ρ M ⟨r,as,os,cut,rfl,RM,gC,dJ⟩;have FC:=gC.len;have zS:∀{M:Mh} {p:Nat},cZ Γ.M0 M r as az.length n->p<az.length->∃a,bo (as.map Dv.ptr) ((p:Nat):Int)=some (.ptr a)/\a∈as:=fun {M p} RM hp=>by
  have hl:p<as.length :=by rw[RM.len];exact hp
  exact⟨as[p],b9 (by rw[ij,ac hl];rfl),wn hl⟩
 refine ou (fun ρ M=>∃(x5:Option Dv),eU x5/\ρ=[some (.ptr b),some (eN az),some (aX os),some (.int (cut:Nat)),some (.ptr r),x5]/\cZ Γ.M0 M r as az.length n) (fun N hN=>?_) ?_
 ·simp! only[];refine⟨⟨by omega,by omega,by omega,by omega⟩,?_⟩
  refine bO (fun i ρ M=>∃(x5:Option Dv),eU x5/\ρ=[some (.ptr b),some (eN az),some (aX os),some (.int (cut:Nat)),some (.ptr r),x5]/\cZ Γ.M0 M r as az.length n) ⟨_,.none,rfl,RM⟩ (fun i d ρ M N2 hd hJ jn=>?_) (fun ρ M hJ=>hN _ _ hJ)
  obtain⟨x5,p5,rfl,RM⟩:=hJ;obtain⟨rfl,hi⟩:=cf hd;have iU:i+1<az.length :=by omega
  obtain⟨k,hk⟩:∃k:Nat,(1+(i:Int))=(k:Nat):=⟨i+1,by omega⟩
  have Oe:k<az.length :=by omega
  have Ks:((k:Nat):Int) - 1=(i:Nat) :=by omega
  obtain⟨g,hg,g0,g1⟩:=gC.at Oe;obtain⟨p,hp,p0,p1⟩:=gC.at (i:=i) (by omega)
  obtain⟨p,rfl⟩:=FS p0;obtain⟨a,ea,ha⟩:=zS RM (p:=p) (by omega)
  obtain⟨row,em,ro⟩:=RM.row a ha;simp! only[hk,hg,Ks,hp,RM.rm,ea];simp only[em,br,ro.1,show ft n 0=some 0 from oz (d:=0) (by omega)]
  rw[pC];exact jn _ _ ⟨_,.int _,rfl,RM.rD ha (ro.set g0 g1)⟩
 rintro ρ M ⟨x5,p5,rfl,RM⟩;have nb:∀{c o},Γ.M0 c=some o->c≠r:=fun e z=>by rw[z,RM.r0]at e;cases e
 have dk:Keeps Γ.M0 (bD M r):=fun c o e=>by rw[a9 (nb e)];exact RM.kp c o e
 refine .inr ⟨r,_,rfl,RM.rm,RM.r0,⟨fun j d e=>?_,fun c o e=>?_⟩,?_⟩
 ·match j,e with
  |0,e=>cases e;exact .ptr (by rw[dk _ _ hb];rfl)
  |1,e=>cases e;exact qJ az
  |2,e=>cases e;exact .lst (dg _)
  |3,e=>cases e;exact .int _
  |4,e=>cases e;exact .lst fun d hd=>by
                obtain⟨a,ha,rfl⟩:=ff.mp hd;obtain⟨row,em,_⟩:=RM.row a ha;exact .ptr (by rw[a9 (RM.fr a ha).2,em];rfl)
  |5,e=>exact p5 _ _ (kw e)
  |j+6,e=>exact nomatch e
 ·have nc:c≠r:=fun z=>by rw[z,b6]at e;cases e
  rw[a9 nc]at e;rcases RM.pin c o e with q|q|⟨row,rfl⟩|⟨bs,rfl,q2⟩
  ·exact .inl q
  ·exact absurd q nc
  ·exact .inr (dg row)
  ·refine .inr fun d hd=>?_
   obtain⟨a,ha,rfl⟩:=ff.mp hd;obtain⟨h1,u,h2⟩:=q2 a ha;exact .ptr (by rw[a9 h1,h2];rfl)
 ·simp! only[];refine⟨by rw[RM.len];omega,iD (acc:=[]) (fun acc τ M'=>∃rs:List (List Int),acc=rs.map eI/\(∃x,τ=[x])/\(∀row∈rs,eR az.length n row)/\M'=bD M r) ⟨[],rfl,⟨_,rfl⟩,(fun _ h=>nomatch h),rfl⟩ (fun i d acc τ M' hd _ ⟨rs,e1,⟨x,e2⟩,qS,eM⟩ R hR=>?_) (fun ys τ M' hl ⟨rs,e1,⟨x,e2⟩,qS,eM⟩=>?_)⟩
  ·subst e1 e2 eM;obtain⟨a,ha,rfl⟩:=nR hd;have ha:=gl ha;obtain⟨row,em,ro⟩:=RM.row a ha;simp! only[a9 (RM.fr a ha).2,em];refine hR _ _ _ ⟨rs++[row],by rw[mv];rfl,⟨_,rfl⟩,fun c hc=>?_,rfl⟩
   rcases rc.mp hc with z|z
   ·exact qS c z
   ·rw[lw.mp z];exact ro
  ·subst e2 eM;rw[ES]at e1;subst e1;have R8:rs.length=az.length :=by
    have:=hl;rw[br,br,RM.len]at this;simpa using this
   exact kD dk (qJ rs) (q rs ⟨by omega,by omega,F8,fun row hr=>⟨(qS row hr).1,fun g hg=>by rw[R8];exact(qS row hr).2 g hg⟩⟩ (by omega))
theorem lx:aO ["_law_script","_law_k","_law_bag_here","_law_net_here","_law_one","_law_at"] ["_law_script"] (ai t4):=⟨rfl,rfl,rfl,by decide +kernel,rfl,by decide +kernel,by decide +kernel⟩
theorem KS {f f1 f2 f3 f4 f5:al}{fd bV fd2 td Dg Om:mo}(D:Df K mg "law" t4 ["_law_script"] f fd)
  (fZ:Df K mg "_law_bag" jy ["_law_script","_law_at"] f1 bV) (Ab:FnOk P w K mg base bK 1 f1 bV ["_law_script","_law_at"] (bh P w K tb Ku))
  (f6:Df K mg "_law_net" eQ ["_law_bag_here","_law_most"] f2 fd2) (Ac:FnOk P w K mg base bK 3 f2 fd2 ["_law_bag_here","_law_most"] (bh P w K tb F0))
  (fk:Df K mg "_law_good" fe ["_law_net_here","_law_sign","_law_due_here"] f3 td) (xf:FnOk P w K mg base bK 13 f3 td ["_law_net_here","_law_sign","_law_due_here"] (bh P w K tb Ga))
  (f7:Df K mg "_law_due" dR ["_law_step"] f4 Dg) (Ad:FnOk P w K mg base bK 3 f4 Dg ["_law_step"] (bh P w K tb Dk))
  (fm:Df K mg "_law_hung" fg ["_law_bag_here","_law_net_here"] f5 Om) (xg:FnOk P w K mg base bK 3 f5 Om ["_law_bag_here","_law_net_here"] (bh P w K tb Gb)) (bl:Bl mg) :
  FnOk P w K mg base bK 14 f fd ["_law_script"] (bh P w K tb JZ) :=by
 refine eO D lx (fun ds M Q E hS=>by obtain⟨ns,e,_⟩:=hS;rw[e];rfl) fun A outer s E Γ ds Q' E' hP hw hK ht hr hS=>?_
 obtain⟨ns,e,hl,hM,q⟩:=hS;refine⟨_,(af (dQ rf rfl (bG rfl bl.range_ (aa (bg gG (ay (nN rfl) rfl bl.min_ m5 (aa ak (aa (ay (cD (K:=K) rfl hK) rfl bl.len_ r9 (aa (qv 0) ae)) ae))) ak) ae)) (fun j7 eP ew eK et=>by have hP:=hP.trans eP.symm;have hw:=hw.trans ew.symm;have hK:=hK.trans eK.symm;have ht:=ht.trans et.symm;exact⟨(aI (i:=1) lx.nd rfl (l6 rfl)),(af (aC (i:=2) lx.nd rfl (l6 rfl) (aJ Ab (hr.mono (by decide)) rfl fZ.mg fZ.fn.kp fZ.bd bJ hP hw hK ht XR.none (aa (qv 0) (aa (qv 1) ae))))
  (af (aC (i:=3) lx.nd rfl (l6 rfl) (aJ Ac (hr.mono (by decide)) rfl f6.mg f6.fn.kp f6.bd bJ hP hw hK ht XR.none (aa (qv 2) (aa ak ae))))
  (au (dQ rf rfl (cW (K:=K) rfl (vp (aa (qv 3) (aa (aJ xg (hr.mono (by decide)) rfl fm.mg fm.fn.kp fm.bd bJ hP hw hK ht XR.none (aa (qv 2) (aa (qv 3) ae))) ae)))) (fun j7 eP ew eK et=>by have hP:=hP.trans eP.symm;have hw:=hw.trans ew.symm;have hK:=hK.trans eK.symm;have ht:=ht.trans et.symm;exact⟨(aI (i:=4) lx.nd rfl (l6 rfl)),(au (dQ rf rfl (bG rfl bl.range_ (aa (ay (cD (K:=K) rfl hK) rfl bl.len_ r9 (aa (aE (aT (K:=K) rfl) (qv 4) ak (fun _ _=>rfl)) ae)) ae)) (fun j7 eP ew eK et=>by have hP:=hP.trans eP.symm;have hw:=hw.trans ew.symm;have hK:=hK.trans eK.symm;have ht:=ht.trans et.symm;exact⟨(aI (i:=5) lx.nd rfl (LM rfl)),(au (dP (gB (fH (aJ xf (hr.mono (by decide)) rfl fk.mg fk.fn.kp fk.bd bJ hP hw hK ht XR.none (aa (qv 4) (aa (aE (aT (K:=K) rfl) vm (qv 5) (fun _ _=>rfl)) (aa (aJ Ad (hr.mono (by decide)) rfl f7.mg f7.fn.kp f7.bd bJ hP hw hK ht XR.none (aa (cu (N':=["_law_row","_law_at"]) (tn:=1) (idx:=[5]) rfl (show aB ["_law_script","_law_k","_law_bag_here","_law_net_here","_law_one","_law_at"] (ai t4) _ ["_law_row","_law_at"] 1 [5] from by decide +kernel) (lg (K:=K) rfl (qv 4)) (fun _ _ _ _ _=>(aI (i:=0) (show xz [("_law_row" : cb),("_law_at" : cb)] from by decide +kernel) rfl (l6 rfl))) (fun _ _ _ _ _=>cc) (fun _ _ _ _ _=>(aE (aT (K:=K) rfl) (qv 0) (qv 1) (fun _ _=>rfl)))) ae)) ae))))))
   (au (aZ jt))
   qss_nil))⟩)))⟩)))))⟩))
  (au (aZ jt))),?_⟩
 subst e;have big:(1000:Nat)<sizeLine :=by decide
 simp! only[];refine⟨by split<;>omega,by split<;>omega,?_⟩
 refine bO (fun k ρ M=>(∀b o,M b=some o->o=.cJ)/\(∃x1 x2 x3 x4 x5,ρ=[some (.bC ns),x1,x2,x3,x4,x5])) ⟨(fun b o e=>by rw[hM b]at e;exact nomatch e),_,_,_,_,_,rfl⟩ (fun k d ρ M N hd hJ hN=>?_) (fun ρ M _=>.inl (q _))
 obtain⟨iL,x1,x2,x3,x4,x5,rfl⟩:=hJ;obtain⟨rfl,hk⟩:=cf hd;have hk:k<=8 :=by split at hk<;>omega
 simp! only[];refine⟨ns,_,rfl,hl,by omega,by omega,fun b hb=>?_⟩
 refine⟨b,9,rfl,updM_same,by omega,by omega,fun az n O _=>?_⟩
 simp! only[];refine⟨b,az,n,rfl,updM_same,O,fun mw O' _=>?_⟩
 have iL:∀c o,aA M b .cJ c=some o->o=.cJ:=fun c o e=>by
  by_cases z:c=b
  ·rw[z,updM_same]at e;exact(kw e).symm
  ·rw[ah z]at e;exact iL c o e
 obtain⟨rw,h0,tD⟩:=rT O;have F8:=O.wid;have h9:=O.nine;have h1:=O.one;simp! only[h0,tD];refine⟨by omega,by omega,by omega,bO (fun i ρ M=>(∀b o,M b=some o->o=.cJ)/\∃x5,ρ=[some (.bC ns),some (.int (k:Nat)),some (.ptr b),some (eN az),some (eN az),x5]) ⟨iL,_,rfl⟩ (fun i d ρ M N3 hd hJ CO=>?_) (fun ρ M hJ=>?_)⟩
 ·obtain⟨iL,x5,rfl⟩:=hJ;obtain⟨rfl,hi⟩:=cf hd;simp! only[];have ec:∃c,bo (AE "abc").cps.toList ((i:Nat):Int)=some c/\(⟨#[c]⟩:cb)=sg i :=by
   have:i=0\/i=1\/i=2 :=by omega
   rcases this with rfl|rfl|rfl<;>exact⟨_,by decide +kernel,rfl⟩
  obtain⟨c,ec,es⟩:=ec;have jg:(cj az i).length=az.length :=by simp[cj]
  simp only[ec,es];refine⟨by decide,by omega,mn O hi ⟨cj az i,rfl,nY O hi,by omega,by omega,az,n,i,rfl,O,hi,fun b o e d hd=>?_,CO _ _ ⟨iL,_,rfl⟩⟩⟩
  rw[iL b o e]at hd;cases hd
 ·obtain⟨iL,x5,rfl⟩:=hJ;obtain⟨rw,h0,tD⟩:=rT O';have F8:=O'.wid;have h9:=O'.nine;have h1:=O'.one;simp! only[h0,tD];refine⟨by omega,by omega,bO (fun i ρ M=>(∀b o,M b=some o->o=.cJ)/\∃x5,ρ=[some (.bC ns),some (.int (k:Nat)),some (.ptr b),some (eN az),some (eN mw),x5]) ⟨iL,_,rfl⟩ (fun i d ρ M N3 hd hJ CO=>?_) (fun ρ M hJ=>?_)⟩
  ·obtain⟨iL,x5,rfl⟩:=hJ;obtain⟨rfl,hi⟩:=cf hd;simp! only[];have ec:∃c,bo (AE "abc").cps.toList ((i:Nat):Int)=some c/\(⟨#[c]⟩:cb)=sg i :=by
    have:i=0\/i=1\/i=2 :=by omega
    rcases this with rfl|rfl|rfl<;>exact⟨_,by decide +kernel,rfl⟩
   obtain⟨c,ec,es⟩:=ec;have jg:(cj mw i).length=mw.length :=by simp[cj]
   simp only[ec,es];refine⟨by decide,by omega,mn O' hi ⟨cj mw i,rfl,nY O' hi,by omega,by omega,mw,n,i,rfl,O',hi,fun b o e d hd=>?_,CO _ _ ⟨iL,_,rfl⟩⟩⟩
   rw[iL b o e]at hd;cases hd
  ·obtain⟨iL,x5,rfl⟩:=hJ;exact hN _ _ ⟨iL,_,_,_,_,_,rfl⟩
end
theorem all_mk {l:Vs}{w:i8}{K:bn}{h:kt}{mg:cb->Option ap}{fa:al}{tabs lts:List al}{C_RoadError C_NoNet C_NoSign:al}(X:K.In h) (G:h.Ns mainGlobals mg) (R9:mg "law" = some (.ref fa))
  (T:u8 (TabOf mg h) ["is_row","is_net","top_pairs"] tabs) (U:u8 (TabOf mg h) [] lts)
  (xh:nw K mainGlobals "RoadError" = some (some (.ref C_RoadError)))
  (Hf:nw K mainGlobals "NoNet" = some (some (.ref C_NoNet)))
  (E6:nw K mainGlobals "NoSign" = some (some (.ref C_NoSign)))
  (eb:zj K C_RoadError [C_NoNet,C_NoSign]=true) (SY:[C_NoNet,C_NoSign].Nodup)
  (Ae:bM K "is_whole" fT)
  (pK:bM K "is_whole_below" dB)
  (E7:bM K "is_row" j5)
  (E8:bM K "is_net" j6)
  (Af:bM K "need_net" ik)
  (Ag:bM K "signs_of" jw)
  (Dm:bM K "is_sign" kM)
  (xi:bM K "need_sign" iN)
  (Ah:bM K "in_order" jx)
  (Ai:bM K "goals_of" il)
  (tO:bM K "ring_places" e7)
  (xj:bM K "ring_from" iO)
  (Hg:bM K "tails" oy)
  (xk:bM K "top_pairs" dn)
  (Aj:bM K "_law_bag" jy)
  (xl:bM K "_law_take" fc)
  (wo:bM K "_law_order" fL)
  (Ak:bM K "_law_net" eQ)
  (tP:bM K "_law_number" gL)
  (sf:bM K "_law_lasting" dq)
  (wq:bM K "_law_climb" ip)
  (Al:bM K "_law_due" dR)
  (xm:bM K "_law_good" fe)
  (xn:bM K "_law_hung" fg)
  (MF:bM K "law" t4)
  (MG:nw K mainGlobals "len" = some none)
  (Hh:nw K mainGlobals "range" = some none)
  (MH:nw K mainGlobals "min" = some none)
  (MI:nw K mainGlobals "max" = some none)
  (MJ:nw K mainGlobals "abs" = some none)
  (KU:nw K mainGlobals "list" = some none)
  (Hi:nw K mainGlobals "tuple" = some none)
  (MK:nw K mainGlobals "int" = some none)
  (ML:nw K mainGlobals "str" = some none)
  (KW:nw K mainGlobals "bool" = some none)
  (wt:nw K mainGlobals "isinstance" = some none)
  (MM:nw K mainGlobals "all" = some none)
  (MN:nw K mainGlobals "set" = some none)
  (E9:nw K mainGlobals "sorted" = some none)
  (MO:nw K mainGlobals "zip" = some none)
  (xo:nw K mainGlobals "enumerate" = some none)
  (MP:nw K mainGlobals "sum" = some none)
  (Am:nw K mainGlobals "reversed" = some none)
  (Fb:nw K mainGlobals "divmod" = some none)
  (MQ:nw K mainGlobals "any" = some none)
  (wu:nw K mainGlobals "ValueError" = some none)
  (sh:∃tk,nw K mainGlobals "SIGNS" = some (some (.str "abc" tk)))
  (jb:∃tk,nw K mainGlobals "MOST_PLACES" = some (some (.int 9 tk)))
  : ∃fd:mo,(∀(s:ar) (v:ap),Vb s fd ⟨[v],[]⟩ [("_law_script",v)])/\∀base:kt,K.In base->base.Ns mainGlobals mg->(∃bm ob,T5 base mainGlobals mg bm ob)->(∀c p,re h c p->re base c p)->FnOk l.prog w K mg base bK 14 fa fd ["_law_script"] (spLaw K ⟨tabs,lts.zip []⟩) :=by
 obtain⟨MR,La,cN⟩:=Ae.df X G ["thing"] fun _ _ _ _ _ _ us hl=>match us,hl with | [_],_=>rfl
 obtain⟨Fc,Dq,bQ⟩:=pK.df X G ["thing","many"] fun _ _ _ _ _ _ us hl=>match us,hl with | [_,_],_=>rfl
 obtain⟨PU,Oo,gR⟩:=E7.df X G ["thing","many","width"] fun _ _ _ _ _ _ us hl=>match us,hl with | [_,_,_],_=>rfl
 obtain⟨PV,Oq,gS⟩:=E8.df X G ["thing"] fun _ _ _ _ _ _ us hl=>match us,hl with | [_],_=>rfl
 obtain⟨MS,Lb,cx⟩:=Af.df X G ["thing"] fun _ _ _ _ _ _ us hl=>match us,hl with | [_],_=>rfl
 obtain⟨MT,Lc,fV⟩:=Ag.df X G ["net"] fun _ _ _ _ _ _ us hl=>match us,hl with | [_],_=>rfl
 obtain⟨Ot,MU,g7⟩:=Dm.df X G ["net","thing"] fun _ _ _ _ _ _ us hl=>match us,hl with | [_,_],_=>rfl
 obtain⟨Ld,KY,fh⟩:=xi.df X G ["net","thing"] fun _ _ _ _ _ _ us hl=>match us,hl with | [_,_],_=>rfl
 obtain⟨MV,Le,fY⟩:=Ah.df X G ["one","other"] fun _ _ _ _ _ _ us hl=>match us,hl with | [_,_],_=>rfl
 obtain⟨MX,Lf,fX⟩:=Ai.df X G ["net","sign"] fun _ _ _ _ _ _ us hl=>match us,hl with | [_,_],_=>rfl
 obtain⟨Hn,Hj,dH⟩:=tO.df X G ["goals"] fun _ _ _ _ _ _ us hl=>match us,hl with | [_],_=>rfl
 obtain⟨Lg,KZ,fj⟩:=xj.df X G ["goals","place"] fun _ _ _ _ _ _ us hl=>match us,hl with | [_,_],_=>rfl
 obtain⟨P0,PX,jC⟩:=Hg.df X G ["goals"] fun _ _ _ _ _ _ us hl=>match us,hl with | [_],_=>rfl
 obtain⟨Lh,K0,dY⟩:=xk.df X G ["net","sign"] fun _ _ _ _ _ _ us hl=>match us,hl with | [_,_],_=>rfl
 obtain⟨MY,Li,fZ⟩:=Aj.df X G ["_law_script","_law_at"] fun _ _ _ _ _ _ us hl=>match us,hl with | [_,_],_=>rfl
 obtain⟨Lj,K1,ax⟩:=xl.df X G ["_law_bag_here","_law_many"] fun _ _ _ _ _ _ us hl=>match us,hl with | [_,_],_=>rfl
 obtain⟨K2,Ho,bP⟩:=wo.df X G ["_law_bag_here","_law_many"] fun _ _ _ _ _ _ us hl=>match us,hl with | [_,_],_=>rfl
 obtain⟨MZ,Lk,f6⟩:=Ak.df X G ["_law_bag_here","_law_most"] fun _ _ _ _ _ _ us hl=>match us,hl with | [_,_],_=>rfl
 obtain⟨Hq,Hk,b7⟩:=tP.df X G ["_law_found"] fun _ _ _ _ _ _ us hl=>match us,hl with | [_],_=>rfl
 obtain⟨Hl,Gd,bf⟩:=sf.df X G ["_law_step"] fun _ _ _ _ _ _ us hl=>match us,hl with | [_],_=>rfl
 obtain⟨K3,Hr,eC⟩:=wq.df X G ["_law_step","_law_place"] fun _ _ _ _ _ _ us hl=>match us,hl with | [_,_],_=>rfl
 obtain⟨M6,Ln,f7⟩:=Al.df X G ["_law_step"] fun _ _ _ _ _ _ us hl=>match us,hl with | [_],_=>rfl
 obtain⟨Lp,K4,fk⟩:=xm.df X G ["_law_net_here","_law_sign","_law_due_here"] fun _ _ _ _ _ _ us hl=>match us,hl with | [_,_,_],_=>rfl
 obtain⟨Lq,K5,fm⟩:=xn.df X G ["_law_bag_here","_law_net_here"] fun _ _ _ _ _ _ us hl=>match us,hl with | [_,_],_=>rfl
 obtain⟨Se,K6,An⟩:=MF.df X G ["_law_script"] fun _ _ _ _ _ _ us hl=>match us,hl with | [_],_=>rfl
 have Lr:=Re X G xh;have rS:=Re X G Hf;have pG:=Re X G E6;have X_:=GL eb;have rR:C_NoNet∈[C_NoNet,C_NoSign] :=by simp
 have pF:C_NoSign∈[C_NoNet,C_NoSign] :=by simp
 have e:=R9.symm.trans An.mg;cases e;have bl:Bl mg:=⟨mf X G MG,mf X G Hh,mf X G MH,mf X G MI,mf X G MJ,mf X G KU,mf X G Hi,mf X G MK,mf X G ML,mf X G KW,mf X G wt,mf X G MM,mf X G MN,mf X G E9,mf X G MO,mf X G xo,mf X G MP,mf X G Am,mf X G Fb,mf X G MQ,mf X G wu⟩;obtain⟨PY,sh⟩:=sh;have iJ:=Re X G sh;obtain⟨Hm,jb⟩:=jb;have iI:=Re X G jb;obtain⟨bb,Ou,rfl,Fd,T⟩:=gw T;obtain⟨bA,Ov,rfl,Fe,T⟩:=gw T;obtain⟨aR,K7,rfl,xq,T⟩:=gw T;cases T;cases U;refine⟨K6,fun s v=>An.bind1 s v (by intros;rfl),fun base _ _ eE tr=>?_⟩
 obtain⟨lX,iH⟩:=uK gR X Fd tr;obtain⟨v3,lY⟩:=uK gS X Fe tr;obtain⟨oZ,fi⟩:=uK dY X xq tr;have Dn:bb∈(⟨[bb,bA,aR],[]⟩:dy) :=by show _∈[bb,bA,aR];simp
 have Dp:bA∈(⟨[bb,bA,aR],[]⟩:dy) :=by show _∈[bb,bA,aR];simp
 have wx:aR∈(⟨[bb,bA,aR],[]⟩:dy) :=by show _∈[bb,bA,aR];simp
 have pE:=CU (P:=l.prog) (w:=w) (tb:=(⟨[bb,bA,aR],[]⟩:dy)) gS lY Dp gR iH Dn eE bQ cN bl iI;have fU:=wV cx gS pE X_ rR rS;have md:=wX fV cx fU bl iJ;have nW:=zY g7 fV md bl;have kT:=v8 fh g7 nW X_ pF pG;have mq:=wY fX cx fU fh kT bl iJ;have mr:=w5 (P:=l.prog) (w:=w) (base:=base) (tb:=(⟨[bb,bA,aR],[]⟩:dy)) fY bl;have sd:=EX (P:=l.prog) (w:=w) (base:=base) (tb:=(⟨[bb,bA,aR],[]⟩:dy)) jC dH bl;have kU:=wc (P:=l.prog) (w:=w) (base:=base) (tb:=(⟨[bb,bA,aR],[]⟩:dy)) fj bl;have M7:=we dY fi wx eE fX mq jC sd fj kU fY mr bl;have wy:=Kv (tb:=(⟨[bb,bA,aR],[]⟩:dy)) (wO (P:=l.prog) (w:=w) (base:=base) ax);have M8:=MD (tb:=(⟨[bb,bA,aR],[]⟩:dy)) (zO (P:=l.prog) (w:=w) (base:=base) fZ bl);have yJ:=vY bP ax wy bl;have M9:=zR f6 ax wy bP yJ bl;have K8:=xc fm ax wy bP yJ bl;have Ff:=tN (P:=l.prog) (w:=w) (base:=base) (tb:=(⟨[bb,bA,aR],[]⟩:dy)) b7 bl;have Nb:=Aa (P:=l.prog) (w:=w) (base:=base) (tb:=(⟨[bb,bA,aR],[]⟩:dy)) f7 bf eC bl;have K9:=w9 fk dY M7 b7 Ff bl;exact J0 (KS An fZ M8 f6 M9 fk K9 f7 Nb fm K8 bl)
theorem walk {l:Vs}{q:i4}{loose:List cb}{XP:(cb->Option ap)->kt->Prop}{YP:i8->kt->Prop}{d:DefRec}{K:VB->bn}(hn:l.most=some 63) (AY:d.params.defaults=[])
  (B9:∀w:i8,UT (K w.params)=true) (FR:∀y∈((["is_row","is_net","top_pairs"]:List cb)++([]:List cb)),∃r∈recsOf q,r.name=y) (oK:∀w:i8,rP (K w.params) ["is_row","is_net","top_pairs"] []=true) (hY:∀(w:i8) (h:kt),YP w h->(K w.params).In h)
  (F:∀(w:i8) (mg:cb->Option ap) (fa:al) (h:kt) (tabs lts:List al),(K w.params).In h->h.Ns mainGlobals mg->mg d.name=some (.ref fa)->
   u8 (TabOf mg h) ["is_row","is_net","top_pairs"] tabs->u8 (TabOf mg h) [] lts->
   ∃fd:mo,(∀(s:ar) (u:ap),Vb s fd ⟨[u],[]⟩ [("_law_script",u)]) /\
    ∀base:kt,(K w.params).In base->base.Ns mainGlobals mg->(∃bm ob,T5 base mainGlobals mg bm ob)->(∀c p,re h c p->re base c p)->FnOk l.prog w (K w.params) mg base bK 14 fa fd ["_law_script"] (spLaw (K w.params) ⟨tabs,lts.zip []⟩)) :
  PySem.W.WalkO q loose XP YP l.row.toRowW d [] (fun f vs=>Vx f vs):=
 L2.Ew (n:=63) (k:=14) (x := "_law_script") (CX:=bK) (sp:=fun K tabs lts=>spLaw K ⟨tabs,lts.zip []⟩) hn (by decide) AY ⟨rfl,by decide,by decide⟩ B9 FR oK hY F (fun _ _ _ _ a ns hl hn hT hL hS=>Ez hl hn hT hL hS) fun _ _ _ _ z=>z
end My
open PySem PySem.W PyProof.Rows L2
set_option maxRecDepth 100000 in
set_option maxHeartbeats 0 in
theorem PySem.Challenge.cw_roadcall_k47_top_pairs_holds : PySem.Challenge.rw_roadcall_k47_top_pairs.Holds := by
 w_on;o_law
 refine My.Ge (q:=My.kq) (loose:=My.kL) (H:=My.kH) My.left (by rfl) (by rfl) (by rfl) (by rfl) (by first|assumption|decide +kernel) (by decide +kernel) ⟨rfl,rfl,rfl,rfl,rfl,by decide +kernel⟩ ?hw ?hc
 (case hw=>w_witness2)
 refine My.walk (l:=PySem.Challenge.rw_roadcall_k47_top_pairs) rfl rfl (fun w=>by kernel_rfl) (recs_of (by decide +kernel)) (fun w=>by kernel_rfl) (fun w h Y=>Y) ?F
 intro w mg fa h tabs lts KX G AZ T U;exact My.all_mk (C_RoadError:=24) (C_NoNet:=37) (C_NoSign:=49) KX G AZ T U
  (by kernel_rfl)
  (by kernel_rfl)
  (by kernel_rfl)
  (by kernel_rfl)
  (by decide)
  (L2.aV (f:=58) (oc:=.type "function") (od:=none) (sl:=#[]) (kV:=.none) (dc:=.none) (pm:=My.vS "roadcall.whole" 239) (an:=none) (cd:=.ref 57) (ct:=.none) (by kernel_rfl) (by kernel_rfl) (by kernel_rfl) (by kernel_rfl))
  (L2.aV (f:=65) (oc:=.type "function") (od:=none) (sl:=#[]) (kV:=.none) (dc:=.none) (pm:=My.vS "roadcall.whole" 239) (an:=none) (cd:=.ref 64) (ct:=.none) (by kernel_rfl) (by kernel_rfl) (by kernel_rfl) (by kernel_rfl))
  (L2.aV (f:=72) (oc:=.type "function") (od:=none) (sl:=#[]) (kV:=.none) (dc:=.none) (pm:=My.vS "roadcall.nets" 256) (an:=none) (cd:=.ref 71) (ct:=.none) (by kernel_rfl) (by kernel_rfl) (by kernel_rfl) (by kernel_rfl))
  (L2.aV (f:=79) (oc:=.type "function") (od:=none) (sl:=#[]) (kV:=.none) (dc:=.none) (pm:=My.vS "roadcall.nets" 256) (an:=none) (cd:=.ref 78) (ct:=.none) (by kernel_rfl) (by kernel_rfl) (by kernel_rfl) (by kernel_rfl))
  (L2.aV (f:=86) (oc:=.type "function") (od:=none) (sl:=#[]) (kV:=.none) (dc:=.none) (pm:=My.vS "roadcall.nets" 256) (an:=none) (cd:=.ref 85) (ct:=.none) (by kernel_rfl) (by kernel_rfl) (by kernel_rfl) (by kernel_rfl))
  (L2.aV (f:=93) (oc:=.type "function") (od:=none) (sl:=#[]) (kV:=.none) (dc:=.none) (pm:=My.vS "roadcall.nets" 256) (an:=none) (cd:=.ref 92) (ct:=.none) (by kernel_rfl) (by kernel_rfl) (by kernel_rfl) (by kernel_rfl))
  (L2.aV (f:=100) (oc:=.type "function") (od:=none) (sl:=#[]) (kV:=.none) (dc:=.none) (pm:=My.vS "roadcall.nets" 256) (an:=none) (cd:=.ref 99) (ct:=.none) (by kernel_rfl) (by kernel_rfl) (by kernel_rfl) (by kernel_rfl))
  (L2.aV (f:=107) (oc:=.type "function") (od:=none) (sl:=#[]) (kV:=.none) (dc:=.none) (pm:=My.vS "roadcall.nets" 256) (an:=none) (cd:=.ref 106) (ct:=.none) (by kernel_rfl) (by kernel_rfl) (by kernel_rfl) (by kernel_rfl))
  (L2.aV (f:=114) (oc:=.type "function") (od:=none) (sl:=#[]) (kV:=.none) (dc:=.none) (pm:=My.vS "roadcall.pairs" 311) (an:=none) (cd:=.ref 113) (ct:=.none) (by kernel_rfl) (by kernel_rfl) (by kernel_rfl) (by kernel_rfl))
  (L2.aV (f:=119) (oc:=.type "function") (od:=none) (sl:=#[]) (kV:=.none) (dc:=.none) (pm:=My.vS "roadcall.rings" 321) (an:=none) (cd:=.ref 118) (ct:=.none) (by kernel_rfl) (by kernel_rfl) (by kernel_rfl) (by kernel_rfl))
  (L2.aV (f:=124) (oc:=.type "function") (od:=none) (sl:=#[]) (kV:=.none) (dc:=.none) (pm:=My.vS "roadcall.rings" 321) (an:=none) (cd:=.ref 123) (ct:=.none) (by kernel_rfl) (by kernel_rfl) (by kernel_rfl) (by kernel_rfl))
  (L2.aV (f:=131) (oc:=.type "function") (od:=none) (sl:=#[]) (kV:=.none) (dc:=.none) (pm:=My.vS "roadcall.rings" 321) (an:=none) (cd:=.ref 130) (ct:=.none) (by kernel_rfl) (by kernel_rfl) (by kernel_rfl) (by kernel_rfl))
  (L2.aV (f:=138) (oc:=.type "function") (od:=none) (sl:=#[]) (kV:=.none) (dc:=.none) (pm:=My.vS "roadcall.rings" 321) (an:=none) (cd:=.ref 137) (ct:=.none) (by kernel_rfl) (by kernel_rfl) (by kernel_rfl) (by kernel_rfl))
  (L2.aV (f:=143) (oc:=.type "function") (od:=none) (sl:=#[]) (kV:=.none) (dc:=.none) (pm:=My.vS "roadcall.rings" 321) (an:=none) (cd:=.ref 142) (ct:=.none) (by kernel_rfl) (by kernel_rfl) (by kernel_rfl) (by kernel_rfl))
  (L2.aV (f:=150) (oc:=.type "function") (od:=none) (sl:=#[]) (kV:=.none) (dc:=.none) (pm:=My.vS "law_roadcall_k47_top_pairs" 361) (an:=none) (cd:=.ref 149) (ct:=.none) (by kernel_rfl) (by kernel_rfl) (by kernel_rfl) (by kernel_rfl))
  (L2.aV (f:=157) (oc:=.type "function") (od:=none) (sl:=#[]) (kV:=.none) (dc:=.none) (pm:=My.vS "law_roadcall_k47_top_pairs" 361) (an:=none) (cd:=.ref 156) (ct:=.none) (by kernel_rfl) (by kernel_rfl) (by kernel_rfl) (by kernel_rfl))
  (L2.aV (f:=164) (oc:=.type "function") (od:=none) (sl:=#[]) (kV:=.none) (dc:=.none) (pm:=My.vS "law_roadcall_k47_top_pairs" 361) (an:=none) (cd:=.ref 163) (ct:=.none) (by kernel_rfl) (by kernel_rfl) (by kernel_rfl) (by kernel_rfl))
  (L2.aV (f:=169) (oc:=.type "function") (od:=none) (sl:=#[]) (kV:=.none) (dc:=.none) (pm:=My.vS "law_roadcall_k47_top_pairs" 361) (an:=none) (cd:=.ref 168) (ct:=.none) (by kernel_rfl) (by kernel_rfl) (by kernel_rfl) (by kernel_rfl))
  (L2.aV (f:=176) (oc:=.type "function") (od:=none) (sl:=#[]) (kV:=.none) (dc:=.none) (pm:=My.vS "law_roadcall_k47_top_pairs" 361) (an:=none) (cd:=.ref 175) (ct:=.none) (by kernel_rfl) (by kernel_rfl) (by kernel_rfl) (by kernel_rfl))
  (L2.aV (f:=181) (oc:=.type "function") (od:=none) (sl:=#[]) (kV:=.none) (dc:=.none) (pm:=My.vS "law_roadcall_k47_top_pairs" 361) (an:=none) (cd:=.ref 180) (ct:=.none) (by kernel_rfl) (by kernel_rfl) (by kernel_rfl) (by kernel_rfl))
  (L2.aV (f:=188) (oc:=.type "function") (od:=none) (sl:=#[]) (kV:=.none) (dc:=.none) (pm:=My.vS "law_roadcall_k47_top_pairs" 361) (an:=none) (cd:=.ref 187) (ct:=.none) (by kernel_rfl) (by kernel_rfl) (by kernel_rfl) (by kernel_rfl))
  (L2.aV (f:=193) (oc:=.type "function") (od:=none) (sl:=#[]) (kV:=.none) (dc:=.none) (pm:=My.vS "law_roadcall_k47_top_pairs" 361) (an:=none) (cd:=.ref 192) (ct:=.none) (by kernel_rfl) (by kernel_rfl) (by kernel_rfl) (by kernel_rfl))
  (L2.aV (f:=198) (oc:=.type "function") (od:=none) (sl:=#[]) (kV:=.none) (dc:=.none) (pm:=My.vS "law_roadcall_k47_top_pairs" 361) (an:=none) (cd:=.ref 197) (ct:=.none) (by kernel_rfl) (by kernel_rfl) (by kernel_rfl) (by kernel_rfl))
  (L2.aV (f:=203) (oc:=.type "function") (od:=none) (sl:=#[]) (kV:=.none) (dc:=.none) (pm:=My.vS "law_roadcall_k47_top_pairs" 361) (an:=none) (cd:=.ref 202) (ct:=.none) (by kernel_rfl) (by kernel_rfl) (by kernel_rfl) (by kernel_rfl))
  (L2.aV (f:=208) (oc:=.type "function") (od:=none) (sl:=#[]) (kV:=.none) (dc:=.none) (pm:=My.vS "law_roadcall_k47_top_pairs" 361) (an:=none) (cd:=.ref 207) (ct:=.none) (by kernel_rfl) (by kernel_rfl) (by kernel_rfl) (by kernel_rfl))
  (by kernel_rfl)
  (by kernel_rfl)
  (by kernel_rfl)
  (by kernel_rfl)
  (by kernel_rfl)
  (by kernel_rfl)
  (by kernel_rfl)
  (by kernel_rfl)
  (by kernel_rfl)
  (by kernel_rfl)
  (by kernel_rfl)
  (by kernel_rfl)
  (by kernel_rfl)
  (by kernel_rfl)
  (by kernel_rfl)
  (by kernel_rfl)
  (by kernel_rfl)
  (by kernel_rfl)
  (by kernel_rfl)
  (by kernel_rfl)
  (by kernel_rfl)
  ⟨258,by kernel_rfl⟩
  ⟨260,by kernel_rfl⟩
