import PyProof.Rows.All
import Wide.All
import OpenK.AllK
import Wide.FinOn
import Lean
import PySem.Challenge.RW_roadcall_k11_no_signings_number
import PyProof.EqAt
import PyProof.EqKinds
import PyProof.TupleCall
import PyProof.NeKinds
import PyProof.EnumMake
import PyProof.EnumFor
import PyProof.ZipIter
import PyProof.Rows.ZipGen
import PyProof.TupleKey
import KE.KLam
import PyProof.DictItems
import KE.KTurnsDict
import KE.KPairComp
import KE.KDictList
import KE.KRevSl
import KE.KRevIter
import PyProof.FitsBits
import PyProof.NoPylong
import PyProof.CallType
import PyProof.TupleOfGen
open PySem renaming wpAny_bind->ac,Addr->ag,Value->am,Shared->ar,wpAny_pure->ba,Str->cb,Expr->dL,Program->gl,World->ii,Heap->ij,Obj->lm,SetTable->lp,Around->l7,Builtin->ma,wpAny_mono->mf,wpAny_newObj_type->mT,FuncData->nw,wpAny_callSpecial?_slot->on,wpAny_call_entry->rb,Stmt->r9,Pos->u4,wpAny_holding->wl,Paired->wn,wpAny_field->wp,Spec->ww,mem_of_lookup->wE,seg_bind_wrap->wS,wpAny_truthy_bool->xL,builtinLookup_eq_fast->ze,Scope->At,wpAny_setState_of->BS,wpAny_Call_Name_kw->Cc,wpAny_attempt->Ch,boot_len->CS,codeAny_builtin->DD,wpAny_of_eq->EN,wpAny_standAt->EO,IsTupleKey->ET,sizeLine_eq->Fk,typeLookup_type->FM,isSubtype_type->Is,wpAny_rule->IF,wpAny_passesOwn->IT,wpAny_specialOf->KB,plainId_quiet->KT,Keyword->Me,wpAny_typeOf->MW,wpAny_isInstance->Nd,wpAny_setEntries_of->NH,Env->NR,wpAny_setField_rec->NV,wpAny_loadPart'->NW,NameKind->NX,wpAny_setField->N8,wpAny_seqItems->N9,wpAny_askSetting->Ob,Sem->Oi,TriplesOk->Ov,CmpOp->Oy,IsEnum->OL,GenState->OP,wpAny_execs_nil->O1,codeAny_mono->O4,IsPart->O6,codeAny_of_tree->Pa,codeAny_call_builtin->Pe,wpAny_fieldsOf->Po,wpAny_pyIter_tuple->Ps,signature?_of->Py,wpAny_pyIter_slot->PL,BindsTo->PR,noFill_tuple_add->PV,wpAny_forIn_list->PZ,PassesOwn->P5,seg_again->P9,call->Qi,wpAny_call->Qk,call_meets->Ql,Params->Qm,Result->Qo,IsEnumOut->Qq,putSet_of->Qr
open List renaming getElem?_eq_getElem->ap,getElem?_eq_some_iff->bv,size_toArray->ce,getElem?_map->cr,length_map->c8,getD_eq_getElem?_getD->db,mem_cons_of_mem->ff,mem_of_getElem?->im,range->io,mem_cons_self->kt,mem_append_right->lf,replicate->li,mem_cons->lw,mem_map->l9,mem_singleton->rc,mem_range->sw,all_eq_true->sK,mem_iff_getElem?->ul,getElem?_zip_eq_some->uu,replicate_succ->wb,map_cons->wP,mem_append->wT,length_append->xb,length_reverse->xz,getElem?_eq_none->zn,getElem?_reverse->zw,map_append->AE,getElem?_replicate->AL,not_mem_nil->AN,eq_nil_of_length_eq_zero->BY,length_cons->B0,mem_append_left->Cn,getElem?_cons_succ->Da,length_range->Db,append_nil->Do,take_of_length_le->EM,length_eraseIdx_of_lt->EQ,pairwise_iff_getElem->Fa,flatten_cons->Go,append_assoc->GE,ext_getElem?->GG,filterMap_cons->GM,getElem?_range->GS,length_take->GT,drop_eq_getElem_cons->LM,getElem?_eq_none_iff->LP,lookup_cons->Na,getElem_mem->Nl,toArray->NE,length_pos_iff->NJ,eraseIdx_eq_take_drop_succ->NL,nil_append->NS,Perm->NU,length_replicate->N4,length_singleton->N5,map_map->Oa,toList_toArray->Og,zip_eq_zipWith->Oh,nodup_cons->Oj,getElem?_append_left->Ol,length_set->On,mem_or_eq_of_mem_set->Op,mem_filterMap->Os,getElem?_set_self->OI,pairwise_lt_range->OK,length_drop->OQ,take_length->OS,drop_length->OT,mem_filter->OZ,of_mem_zip->O5,map_nil->O8,pairwise_append->Pb,mem_iff_getElem->Pg,getElem?_append->Pi,getElem_range->Pt,Pairwise->Px,getElem?_set->PN,Nodup->PQ,nodup_range->PY,length_nil->P6,foldl_cons->P7,zip_append->Qc
open PySem.W renaming Frag->bi,nsIn->kw,mg_none_of->lv,CodeHd->rf,kia_one->AC,mg_of->AT,fnOf->DO,keepIn->N1,tabObj->N7,codeIn->OA,hideAll->OY,looseW->Pj,kitOne->Pn,kb_classed->Pu,recOk->Pw,excIn->PF,methodObj->PJ,xlAt->PU,opening->P2,instObj->P4,OpenLaw->Qe
open PySem.Heap renaming get?_push_of_some->bn,lt_size->gc,get?_push_size->hX,SameBut->ut,get?_update_self->v6,get?_update_other->wr,size_push->N6,get?_push_ne->OH,size_update->OU,ExtBut->Qg
open Nat renaming le_refl->br,lt_of_lt_of_le->l5,ne_of_lt->l6,zero_le->l8,le_trans->sB,le_succ->FF,lt_or_ge->IS,lt_irrefl->KM,lt_succ_of_lt->Lo,ne_of_gt->Mn,lt_succ_self->Oc,le_of_lt->Oq,le_of_not_lt->OR,mod_lt->Pc,min_self->Pd,strongRecOn->P8,not_lt_zero->Qa
open Bool renaming false_eq_true->ci,false_ne_true->f8,and_eq_true->xw,not_true->ES,true_and->Of,false_and->Oz,eq_iff_iff->O2,not_false->Pr
open Array renaming length_toList->i0,getElem?_eq_getElem->qr,getD->LG,getElem?_eq_none->NZ,getElem?_eq_some_iff->Oe,getElem?_toList->OV,mem_of_getElem?->OX,mem_toList_iff->O3,replicate->Qd
open Option.some renaming inj->i1,injEq->LB
open PySem.Str renaming ofString->i4
open PySem.SeqAt renaming EqAt->i8,RcAt->kv
open PySem.SetTable renaming below->jp,insertAt->tz,bits->wv,runEnd->FS,turns->Ix,Probe->OB,fresh->Pq,leap->PH,layClean->Qs,probe->Qt
open PySem.Value renaming ref->lc,none->u7,type->AM,builtin->OO,bool->Qj,str->Qn
open Or renaming inl->mo,inr->OM
open Option renaming map_eq_some_iff->r6,ne_none_iff_exists'->Ll,map_some->NT,some->N0,toList_some->Pv,join_some->P0
open PySem.PassesOwn renaming never->tw
open PyProof.Rows renaming callWith_type1->u8,slot_tuple_getitem->BB,IntsAre->OW,IsTup->P3,BMod->Qf,AllBare->Qh
open PySem.Obj renaming data_mapFields->xp,mapSeq->Co,isFreed_of_fields->JJ,cls_mapFields->OF,putSet->Ph,mapFields->Pz
open PySem.Heap.SameBut renaming update->xy
open Int renaming toNat_natCast->zd,le_refl->Mc,fdiv_eq_ediv_of_nonneg->Od,emod_nonneg->Oo,eq_ofNat_of_zero_le->OD,zero_add->P1
open PySem.NameKind renaming free->AS
open Ne renaming symm->BN
open PySem.Builtin.Tuple renaming tupleExact->Cf
open PySem.Around renaming under_plainId->Cs
open PySem.Calls renaming spliced_cons->EU,spliced_nil->Gc,evalArgs_plain->O7
open False renaming elim->ID
open PySem.Builtin.List renaming listLengthHint->IN,listExtendWith->IR,listSameRef->No,listTooLong->Ou
open Classical renaming not_not->Lu,byContradiction->LH
open PySem.Builtin.Slice renaming slicePlaces->LF,sliceAdjust->Om
open PySem.W.Fast renaming tw821141287760084731->LS
open PySem.F renaming called_set->NG,plainAttrs_list->NO,args_tuple_add_2->Ot,slot_list_append->Ow,type_list_append->Ox,entry_tuple_add->OC,plain_list_iadd->OG,slot_tuple_add->OJ,args_object_init_2->Pf,plain_all_loop->PX
open PySem.SetTable.layClean renaming free->NY
open PySem.SetTable.below renaming go->OE
open PySem.Paired renaming length->ON
open ForInStep renaming yield->O9
open Sum renaming inl->Pk,inr->Pl
open PySem.Shared renaming TypeIs->PD
open String renaming splitOnAux->PK
open PySem.SetTable.probe renaming go->PM
open True renaming intro->PP
open PySem.SeqAt.EqAt renaming same->Qb
open And renaming intro->Qp
set_option linter.all false
set_option Elab.async false
set_option maxRecDepth 100000
namespace My
open PySem PyProof.Rows
def kA (s:r9):Arguments:=match s with
 | .FunctionDef _ a _ _ _ _ _ _ _ _=>a
 |_=>{posonlyargs:=[],args:=[],vararg:=none,kwonlyargs:=[],kw_defaults:=[],kwarg:=none,defaults:=[]}
def kB (s:r9):List r9:=match s with
 | .FunctionDef _ _ b _ _ _ _ _ _ _=>b
 |_=>[]
def kS (s:r9):At:=match s with
 | .FunctionDef _ _ _ _ _ _ sc _ _ _=>sc
 |_=>{kind:=.function,names:=[],isGenerator:=false,isCoroutine:=false}
def vS (x:String) (t:Nat):am:=.str (i4 x) t
def kE (P:Qm) (x:String) (t:Nat) (v:am):DictEntry:=⟨PyData.keyHash P (i4 x),vS x t,v⟩
def kF (i:Nat) (x:String) (d m:am) (c:Nat):lm:=let st:=PySem.Challenge.pw_roadcall_k11_no_signings_number.main.body.getD i (.Pass ⟨0,0,0,0⟩);⟨.type "function",none,.func (DO (i4 x) (i4 x) (kA st) (kB st) (kS st) d .none .none m none (.ref c) .none),#[]⟩
def kC (x:String) (t:Nat) (l n f:Int) (a:Nat) (b:Bool) (m:Int) (p:Nat) (u z:am) (q:Nat) (e:Int) (t2:Nat):lm:=⟨.type "code",none,.fields #[vS x t,vS x (t+1),vS "/claim/cut.py" (t+2),.int l 0,.int n 0,.int 0 0,.int 0 0,.int f 0,.ref a,.bool b,.int m 0,.ref p,.none,u,z,.ref q,.int e 0,.int l 0,vS "/claim/cut.py" t2],#[]⟩
def kK (P:Qm):bi:=[(2,⟨.none,none,.dict [].toArray 0,#[]⟩),
 (3,⟨.type "dict",none,.dict [kE P "__name__" 165 (vS "law_roadcall_k11_no_signings_number" 416),kE P "__doc__" 166 .none,kE P "__package__" 167 .none,kE P "__loader__" 168 (.builtin "__main__.__loader__#opaque"),kE P "__spec__" 169 .none,kE P "__annotations__" 170 (.ref 6),kE P "__builtins__" 171 (.ref 4),kE P "__file__" 173 (vS "/claim/cut.py" 172),kE P "__cached__" 174 .none,kE P "RoadError" 206 (.ref 24),kE P "NoNet" 222 (.ref 37),kE P "NoPlace" 238 (.ref 49),kE P "NoSign" 254 (.ref 61),kE P "NoWord" 270 (.ref 73),kE P "NoWhole" 286 (.ref 85),kE P "NoNumber" 302 (.ref 97),kE P "NoKin" 318 (.ref 109),kE P "TooMany" 334 (.ref 121),kE P "is_whole" 343 (.ref 130),kE P "is_whole_below" 351 (.ref 137),kE P "MOST_PLACES" 355 (.int 9 354),kE P "is_row" 365 (.ref 144),kE P "is_net" 374 (.ref 151),kE P "need_net" 381 (.ref 158),kE P "arrangements" 394 (.ref 165),kE P "signings" 403 (.ref 172),kE P "signing" 415 (.ref 179),kE P "_law_bag" 428 (.ref 186),kE P "_law_take" 439 (.ref 193),kE P "_law_order" 450 (.ref 200),kE P "_law_net" 456 (.ref 205),kE P "_law_refused" 465 (.ref 212),kE P "law" 479 (.ref 219)].toArray 33,#[]⟩),
 (23,⟨.type "dict",none,.dict [kE P "__module__" 196 (vS "roadcall.errors" 187),kE P "__firstlineno__" 200 (.int 2 199),kE P "__static_attributes__" 201 (.ref 22),kE P "__weakref__" 203 (.ref 25),kE P "__doc__" 204 .none].toArray 3,#[]⟩),
 (24,⟨.type "type",none,.cls {name:=i4 "RoadError",bases:=[.type "ValueError"],mro:=[.ref 24,.type "ValueError",.type "Exception",.type "BaseException",.type "object"],ns:=23,qualname:=i4 "RoadError",subclasses:=[.ref 37,.ref 49,.ref 61,.ref 73,.ref 85,.ref 97,.ref 109,.ref 121]},#[some (.ref 15),none,some (vS "RoadError" 189),some (vS "RoadError" 197),some (.builtin "ValueError.__new__"),some (.bool true)]⟩),
 (36,⟨.type "dict",none,.dict [kE P "__module__" 214 (vS "roadcall.errors" 187),kE P "__firstlineno__" 218 (.int 4 217),kE P "__static_attributes__" 219 (.ref 35),kE P "__doc__" 220 .none].toArray 2,#[]⟩),
 (37,⟨.type "type",none,.cls {name:=i4 "NoNet",bases:=[.ref 24],mro:=[.ref 37,.ref 24,.type "ValueError",.type "Exception",.type "BaseException",.type "object"],ns:=36,qualname:=i4 "NoNet",subclasses:=[]},#[some (.ref 28),none,some (vS "NoNet" 207),some (vS "NoNet" 215),some (.builtin "ValueError.__new__"),some (.bool true)]⟩),
 (48,⟨.type "dict",none,.dict [kE P "__module__" 230 (vS "roadcall.errors" 187),kE P "__firstlineno__" 234 (.int 6 233),kE P "__static_attributes__" 235 (.ref 47),kE P "__doc__" 236 .none].toArray 2,#[]⟩),
 (49,⟨.type "type",none,.cls {name:=i4 "NoPlace",bases:=[.ref 24],mro:=[.ref 49,.ref 24,.type "ValueError",.type "Exception",.type "BaseException",.type "object"],ns:=48,qualname:=i4 "NoPlace",subclasses:=[]},#[some (.ref 40),none,some (vS "NoPlace" 223),some (vS "NoPlace" 231),some (.builtin "ValueError.__new__"),some (.bool true)]⟩),
 (60,⟨.type "dict",none,.dict [kE P "__module__" 246 (vS "roadcall.errors" 187),kE P "__firstlineno__" 250 (.int 8 249),kE P "__static_attributes__" 251 (.ref 59),kE P "__doc__" 252 .none].toArray 2,#[]⟩),
 (61,⟨.type "type",none,.cls {name:=i4 "NoSign",bases:=[.ref 24],mro:=[.ref 61,.ref 24,.type "ValueError",.type "Exception",.type "BaseException",.type "object"],ns:=60,qualname:=i4 "NoSign",subclasses:=[]},#[some (.ref 52),none,some (vS "NoSign" 239),some (vS "NoSign" 247),some (.builtin "ValueError.__new__"),some (.bool true)]⟩),
 (72,⟨.type "dict",none,.dict [kE P "__module__" 262 (vS "roadcall.errors" 187),kE P "__firstlineno__" 266 (.int 10 265),kE P "__static_attributes__" 267 (.ref 71),kE P "__doc__" 268 .none].toArray 2,#[]⟩),
 (73,⟨.type "type",none,.cls {name:=i4 "NoWord",bases:=[.ref 24],mro:=[.ref 73,.ref 24,.type "ValueError",.type "Exception",.type "BaseException",.type "object"],ns:=72,qualname:=i4 "NoWord",subclasses:=[]},#[some (.ref 64),none,some (vS "NoWord" 255),some (vS "NoWord" 263),some (.builtin "ValueError.__new__"),some (.bool true)]⟩),
 (84,⟨.type "dict",none,.dict [kE P "__module__" 278 (vS "roadcall.errors" 187),kE P "__firstlineno__" 282 (.int 12 281),kE P "__static_attributes__" 283 (.ref 83),kE P "__doc__" 284 .none].toArray 2,#[]⟩),
 (85,⟨.type "type",none,.cls {name:=i4 "NoWhole",bases:=[.ref 24],mro:=[.ref 85,.ref 24,.type "ValueError",.type "Exception",.type "BaseException",.type "object"],ns:=84,qualname:=i4 "NoWhole",subclasses:=[]},#[some (.ref 76),none,some (vS "NoWhole" 271),some (vS "NoWhole" 279),some (.builtin "ValueError.__new__"),some (.bool true)]⟩),
 (96,⟨.type "dict",none,.dict [kE P "__module__" 294 (vS "roadcall.errors" 187),kE P "__firstlineno__" 298 (.int 14 297),kE P "__static_attributes__" 299 (.ref 95),kE P "__doc__" 300 .none].toArray 2,#[]⟩),
 (97,⟨.type "type",none,.cls {name:=i4 "NoNumber",bases:=[.ref 24],mro:=[.ref 97,.ref 24,.type "ValueError",.type "Exception",.type "BaseException",.type "object"],ns:=96,qualname:=i4 "NoNumber",subclasses:=[]},#[some (.ref 88),none,some (vS "NoNumber" 287),some (vS "NoNumber" 295),some (.builtin "ValueError.__new__"),some (.bool true)]⟩),
 (108,⟨.type "dict",none,.dict [kE P "__module__" 310 (vS "roadcall.errors" 187),kE P "__firstlineno__" 314 (.int 16 313),kE P "__static_attributes__" 315 (.ref 107),kE P "__doc__" 316 .none].toArray 2,#[]⟩),
 (109,⟨.type "type",none,.cls {name:=i4 "NoKin",bases:=[.ref 24],mro:=[.ref 109,.ref 24,.type "ValueError",.type "Exception",.type "BaseException",.type "object"],ns:=108,qualname:=i4 "NoKin",subclasses:=[]},#[some (.ref 100),none,some (vS "NoKin" 303),some (vS "NoKin" 311),some (.builtin "ValueError.__new__"),some (.bool true)]⟩),
 (120,⟨.type "dict",none,.dict [kE P "__module__" 326 (vS "roadcall.errors" 187),kE P "__firstlineno__" 330 (.int 18 329),kE P "__static_attributes__" 331 (.ref 119),kE P "__doc__" 332 .none].toArray 2,#[]⟩),
 (121,⟨.type "type",none,.cls {name:=i4 "TooMany",bases:=[.ref 24],mro:=[.ref 121,.ref 24,.type "ValueError",.type "Exception",.type "BaseException",.type "object"],ns:=120,qualname:=i4 "TooMany",subclasses:=[]},#[some (.ref 112),none,some (vS "TooMany" 319),some (vS "TooMany" 327),some (.builtin "ValueError.__new__"),some (.bool true)]⟩),
 (129,kC "is_whole" 337 21 1 3 124 true 181 125 (.ref 126) (.ref 127) 128 341 342),
 (130,kF 11 "is_whole" .none (vS "roadcall.whole" 335) 129),
 (136,kC "is_whole_below" 344 23 2 3 131 true 181 132 (.ref 133) (.ref 134) 135 349 350),
 (137,kF 12 "is_whole_below" .none (vS "roadcall.whole" 335) 136),
 (143,kC "is_row" 356 27 3 3 138 true 181 139 (.ref 140) (.ref 141) 142 363 364),
 (144,kF 15 "is_row" .none (vS "roadcall.nets" 352) 143),
 (150,kC "is_net" 366 31 1 3 145 true 181 146 (.ref 147) (.ref 148) 149 372 373),
 (151,kF 16 "is_net" .none (vS "roadcall.nets" 352) 150),
 (157,kC "need_net" 375 39 1 3 152 true 181 153 (.ref 154) (.ref 155) 156 379 380),
 (158,kF 17 "need_net" .none (vS "roadcall.nets" 352) 157),
 (164,kC "arrangements" 384 43 1 3 159 true 181 160 (.ref 161) (.ref 162) 163 392 393),
 (165,kF 19 "arrangements" .none (vS "roadcall.signings" 382) 164),
 (171,kC "signings" 395 51 1 3 166 true 181 167 (.ref 168) (.ref 169) 170 401 402),
 (172,kF 20 "signings" .none (vS "roadcall.signings" 382) 171),
 (178,kC "signing" 404 57 2 3 173 true 181 174 (.ref 175) (.ref 176) 177 413 414),
 (179,kF 21 "signing" .none (vS "roadcall.signings" 382) 178),
 (185,kC "_law_bag" 418 67 2 3 180 true 181 181 (.ref 182) (.ref 183) 184 426 427),
 (186,kF 23 "_law_bag" .none (vS "law_roadcall_k11_no_signings_number" 416) 185),
 (192,kC "_law_take" 429 77 2 3 187 true 181 188 (.ref 189) (.ref 190) 191 437 438),
 (193,kF 24 "_law_take" .none (vS "law_roadcall_k11_no_signings_number" 416) 192),
 (199,kC "_law_order" 440 89 2 3 194 true 181 195 (.ref 196) (.ref 197) 198 448 449),
 (200,kF 25 "_law_order" .none (vS "law_roadcall_k11_no_signings_number" 416) 199),
 (204,kC "_law_net" 451 95 2 3 201 true 181 202 .none .none 203 454 455),
 (205,kF 26 "_law_net" .none (vS "law_roadcall_k11_no_signings_number" 416) 204),
 (211,kC "_law_refused" 457 117 2 3 206 true 181 207 (.ref 208) (.ref 209) 210 463 464),
 (212,kF 27 "_law_refused" .none (vS "law_roadcall_k11_no_signings_number" 416) 211),
 (218,kC "law" 466 125 1 3 213 true 181 214 (.ref 215) (.ref 216) 217 477 478),
 (219,kF 28 "law" .none (vS "law_roadcall_k11_no_signings_number" 416) 218)]
def KA:List ag:=[2,3,23,24,36,37,48,49,60,61,72,73,84,85,96,97,108,109,120,121,129,130,136,137,143,144,150,151,157,158,164,165,171,172,178,179,185,186,192,193,199,200,204,205,211,212,218,219]
def kq:gl:=PySem.W.view PySem.Challenge.pw_roadcall_k11_no_signings_number [1,2,3,4,5,6,7,8,9,11,12,14,15,16,17,19,20,21,23,24,25,26,27,28]
def kL:List cb:=[]
def kH:PySem.W.Hook:=PySem.W.kHook kK KA fun _=>by kernel_rfl
theorem Bh {r:PySem.W.OpenRow} {q:gl} {loose:List cb} {H:PySem.W.Hook} {d:DefRec} {CT:List (cb×dL)} {N:Nat} (left:PySem.W.LeftO r.prog q loose (fun s=>PU q [] s && Pw r.records s) H.obs H.val N)
  (Jr:PySem.W.defOf q r.name=some (d,CT)) (hp:r.prog.theDef r.name=some (d.params,d.body,d.scope)) (hk:PySem.W.kwWritten? d.params.kwonlyargs d.params.kw_defaults=some CT) (KC:(!r.writes || r.records.isEmpty)=true) (k1:r.wellSaid=true)
  (ok:(PySem.W.chainsOk q && PySem.W.opensWell r.prog && (PySem.W.frees r.toRowW && r.within.isEmpty))=true) (hb:r.prog.bare) (hw:r.toRowW.promised) (call:PySem.W.WalkO q loose (PySem.W.XL q []) H.says r.toRowW d CT fun f vs=>Qi f vs):r.Holds:=
 PySem.W.holds_open left H.of H.keeps (fun s e=>PySem.W.xl_of s (Bool.and_eq_true_iff.mp e).1) PySem.W.XL.keeps Jr hp hk (fun s e=>PySem.W.recFacts_of (Bool.and_eq_true_iff.mp e).2) KC k1 ok hb hw call
noncomputable def oeQ (p:gl) (w:ii) (N:Nat):Option ar:=((PySem.W.Fast.tw10274390034422433532 PySem.W.Fast.tw14364793385576792824 (P2 p) w N (PySem.W.Fast.tw1435165496053646825 (P2 p)).1 (PySem.W.Fast.tw1435165496053646825 (P2 p)).2).bind (PySem.W.Fast.tw14289696077712309145 p)).bind fun s₀=>match s₀.heap.isNs PySem.mainGlobals && s₀.gens.size==0 with
 |true=>(PySem.W.Fast.tw14082659384304107361 PySem.W.Fast.tw14364793385576792824 p w s₀.heap.objs.size (s₀.heap.nsMap PySem.mainGlobals "__annotations__") N s₀ (PySem.W.topStub p)).bind fun au=>match PySem.W.staticsOk (importedModules p.main.body) s₀.heap au.heap && PySem.W.namesBound p au.heap && PySem.W.gensDone au && PySem.W.laidKept s₀.heap au.heap with
   |true=>some au
   |false=>none
 |false=>none
theorem Gr (p:gl) (w:ii) (N:Nat):PySem.W.openEnds treeTable p w N=oeQ p w N :=by
 unfold oeQ
 rw [<- PySem.W.Fast.te10274390034422433532,<- PySem.W.Fast.te14364793385576792824,<- PySem.W.Fast.te1435165496053646825,<- PySem.W.Fast.te14289696077712309145,<- PySem.W.Fast.te14082659384304107361]
 rfl
noncomputable def nsQ (q:gl):List cb:=(PySem.W.Fast.tw3399658132070893891 q).map (·.name)
theorem zV (q:gl):(recsOf q).map (·.name)=nsQ q :=by unfold nsQ;rw [<- PySem.W.Fast.te3399658132070893891]
noncomputable def c1Q (s:ar):=PySem.W.Fast.tw5160383126252970620 (nsQ kq) (PySem.W.Fast.tw5991557255702980513 kq) [] {s with gens:=#[]}
theorem Gs (s:ar):seen ((recsOf kq).map (·.name)) (ownsOf kq) [] {s with gens:=#[]}=c1Q s :=by unfold c1Q;rw [zV,<- PySem.W.Fast.te5160383126252970620,<- PySem.W.Fast.te5991557255702980513]
def c2 (s:ar):=(s.heap.bltView,s.heap.keysOk (Pj kq kL) ((recsOf kq).map (·.name)) ((litsOf kq).map (·.1)) ((clssOf kq (Pj kq kL)).map (·.name)) && s.heap.accountedOkI (importedModules PySem.Challenge.pw_roadcall_k11_no_signings_number.main.body) && s.heap.isNs mainGlobals && s.heap.isNs builtinsNs && tablesOk kq s.heap && (PU kq [] s && Pw [] s) && (s.gens.size==0))
noncomputable def c2Q (s:ar):=(s.heap.bltView,PySem.W.Fast.tw10880121769531294198 s.heap (LS kq kL) (nsQ kq) ((PySem.W.Fast.tw7409074990110511671 kq).map (·.1)) ((PySem.W.Fast.tw13664370479719496447 kq (LS kq kL)).map (·.name)) && PySem.W.Fast.tw14722251495701143533 s.heap (importedModules PySem.Challenge.pw_roadcall_k11_no_signings_number.main.body) && s.heap.isNs mainGlobals && s.heap.isNs builtinsNs && PySem.W.Fast.tw10994771534591457954 kq s.heap && (PU kq [] s && Pw [] s) && (s.gens.size==0))
theorem Gu (s:ar):c2 s=c2Q s :=by unfold c2 c2Q;rw [zV,<- PySem.W.Fast.te10880121769531294198,<- PySem.W.Fast.te821141287760084731,<- PySem.W.Fast.te7409074990110511671,<- PySem.W.Fast.te13664370479719496447,<- PySem.W.Fast.te14722251495701143533,<- PySem.W.Fast.te10994771534591457954]
def c3 (s:ar):=tabsOk kq s
def c5 (s:ar):=plainSeenE kq (Pj kq kL) s
def c4 (s:ar):=(PySem.pinSeenD kq (drecsOf kq) s,plainSeenD kq kL s,PySem.W.wideSeen kq s,PySem.W.clsSeenW kq kL s)
noncomputable def c3Q (s:ar):=PySem.W.Fast.tw479339242167458305 kq s
noncomputable def c5Q (s:ar):=PySem.W.Fast.tw2386780881361962483 kq (LS kq kL) s
noncomputable def c4Q (s:ar):=(PySem.W.Fast.tw16090120013241838585 kq (PySem.W.Fast.tw3247288618530077131 kq) s,PySem.W.Fast.tw11698064438423848299 kq kL s,PySem.W.Fast.tw7317090234206586261 kq s,PySem.W.Fast.tw7369524293546568484 kq kL s)
theorem Gv (s:ar):c3 s=c3Q s :=by unfold c3 c3Q;rw [<- PySem.W.Fast.te479339242167458305]
theorem Gw (s:ar):c5 s=c5Q s :=by unfold c5 c5Q;rw [<- PySem.W.Fast.te2386780881361962483,<- PySem.W.Fast.te821141287760084731]
theorem Gx (s:ar):c4 s=c4Q s :=by unfold c4 c4Q;rw [<- PySem.W.Fast.te16090120013241838585,<- PySem.W.Fast.te3247288618530077131,<- PySem.W.Fast.te11698064438423848299,<- PySem.W.Fast.te7317090234206586261,<- PySem.W.Fast.te7369524293546568484]
set_option maxHeartbeats 0 in
theorem left0 (w:ii):(oeQ PySem.Challenge.pw_roadcall_k11_no_signings_number w 4896).map (fun s=>kH.obs s)=some (kH.val w) :=by kernel_rfl
set_option maxHeartbeats 0 in
theorem left1 (w:ii):(oeQ PySem.Challenge.pw_roadcall_k11_no_signings_number w 4896).map c1Q=some (expectedOf kq) :=by kernel_rfl
set_option maxHeartbeats 0 in
theorem left2 (w:ii):(oeQ PySem.Challenge.pw_roadcall_k11_no_signings_number w 4896).map c2Q=some (bltViewBooted,true) :=by kernel_rfl
set_option maxHeartbeats 0 in
theorem left3 (w:ii):(oeQ PySem.Challenge.pw_roadcall_k11_no_signings_number w 4896).map c3Q=some true :=by kernel_rfl
set_option maxHeartbeats 0 in
theorem left5 (w:ii):(oeQ PySem.Challenge.pw_roadcall_k11_no_signings_number w 4896).map c5Q=some (plainGoodE kq (Pj kq kL)) :=by kernel_rfl
set_option maxHeartbeats 0 in
theorem left4 (w:ii):(oeQ PySem.Challenge.pw_roadcall_k11_no_signings_number w 4896).map c4Q=some (PySem.pinGoodD (drecsOf kq),plainGoodD kq kL,PySem.W.wideGood kq,PySem.W.clsGoodW kq kL) :=by kernel_rfl
theorem left (w:ii):(PySem.W.openEnds treeTable PySem.Challenge.pw_roadcall_k11_no_signings_number w 4896).map (fun s=>(PySem.W.openSeen kq kL (importedModules PySem.Challenge.pw_roadcall_k11_no_signings_number.main.body) (fun s=>PU kq [] s && Pw [] s) true s,kH.obs s))=some (PySem.W.openGood kq kL,kH.val w) :=by
 rw [Gr]
 have a0:=left0 w
 have a1:=left1 w
 have a2:=left2 w
 have a3:=left3 w
 have a4:=left4 w
 have a5:=left5 w
 revert a0 a1 a2 a3 a4 a5
 generalize oeQ PySem.Challenge.pw_roadcall_k11_no_signings_number w 4896=o
 cases o with
 |none=>intro a0;cases a0
 |some s=>
  intro a0 a1 a2 a3 a4 a5
  have a0:kH.obs s=kH.val w:=i1 a0
  have a1:=i1 a1
  have a2:=i1 a2
  have a3:=i1 a3
  have a4:=i1 a4
  have a5:=i1 a5
  rw [<- Gs] at a1
  rw [<- Gu] at a2
  rw [<- Gv] at a3
  rw [<- Gx] at a4
  rw [<- Gw] at a5
  show some ((seen ((recsOf kq).map (·.name)) (ownsOf kq) [] {s with gens:=#[]},(c2 s).1,(c2 s).2,c3 s,(c4 s).1,c5 s,(c4 s).2),kH.obs s)=_
  rw [a0,a1,a2,a3,a4,a5]
  rfl
end My
namespace L2
open PySem PySem.Spec PyProof.Rows
abbrev Key:=Sum Int cb
def zW:Key->am->Bool
 | .inl k,v=>am.isInt k v
 | .inr x,v=>am.isStrOf x v
def Js (w:ii):Key->Int
 | .inl k=>hashInt k
 | .inr x=>hashStr w x
theorem bN:∀{k:Key} {v:am},zW k v=true->(∃i t,k=Pk i/\v=am.int i t)\/(∃x t,k=Pl x/\v=Qn x t)
 | .inl i,v,h=>by
          obtain ⟨t,e⟩:=am.isInt_shape (k:=i) (v:=v) h
          exact .inl ⟨i,t,rfl,e⟩
 | .inr x,v,h=>by
          obtain ⟨t,e⟩:=am.isStrOf_shape (x:=x) (v:=v) h
          exact .inr ⟨x,t,rfl,e⟩
theorem CU (a b:Int):decide ((Pk a:Key)=Pk b)=(a==b) :=by
 by_cases e:a=b
 ·subst e;simp
 ·have h:¬ (Pk a:Key)=Pk b:=fun q=>e (Pk.inj q)
  rw [decide_eq_false h]
  exact (beq_eq_false_iff_ne.mpr e).symm
theorem CV (a b:cb):decide ((Pl a:Key)=Pl b)=decide (a=b) :=by
 by_cases e:a=b
 ·subst e;simp
 ·have h:¬ (Pl a:Key)=Pl b:=fun q=>e (Pl.inj q)
  rw [decide_eq_false h,decide_eq_false e]
theorem CW (a:Int) (b:cb):decide ((Pk a:Key)=Pl b)=false:=decide_eq_false (fun q=>nomatch q)
theorem CY (a:cb) (b:Int):decide ((Pl a:Key)=Pk b)=false:=decide_eq_false (fun q=>nomatch q)
def mZ (prog:gl) (w:ii):PySem.KeyKind prog w Key where
 is:=zW
 hash:=Js w
 inj:=fun v a b ha hb=>by
  rcases bN ha with ⟨i,t,rfl,rfl⟩|⟨x,t,rfl,rfl⟩
  ·rcases bN hb with ⟨j,u,rfl,e⟩|⟨y,u,rfl,e⟩
   ·injection e with e1 _;rw [e1]
   ·exact nomatch e
  ·rcases bN hb with ⟨j,u,rfl,e⟩|⟨y,u,rfl,e⟩
   ·exact nomatch e
   ·injection e with e1 _;rw [e1]
 byValue:=fun k v h=>by
  rcases bN h with ⟨i,t,rfl,rfl⟩|⟨x,t,rfl,rfl⟩ <;> rfl
 pyHash:=fun hv h=>by
  rcases bN hv with ⟨i,t,rfl,rfl⟩|⟨x,t,rfl,rfl⟩
  ·exact wpAny_pyHash_int h
  ·exact wpAny_pyHash_str h
 eqBool:=fun hu hv h=>by
  rcases bN hu with ⟨i,t,rfl,rfl⟩|⟨x,t,rfl,rfl⟩
  ·rcases bN hv with ⟨j,u,rfl,rfl⟩|⟨y,u,rfl,rfl⟩
   ·rw [CU] at h;exact wpAny_eqBool_int h
   ·rw [CW] at h;exact i8.int_str i t y u _ _ _ _ h
  ·rcases bN hv with ⟨j,u,rfl,rfl⟩|⟨y,u,rfl,rfl⟩
   ·rw [CY] at h;exact i8.str_int x t j u _ _ _ _ h
   ·rw [CV] at h;exact wpAny_eqBool_str h
 «strs»:=fun k x t v h=>by
  rcases bN h with ⟨i,u,rfl,e⟩|⟨y,u,rfl,e⟩
  ·exact nomatch e
  ·injection e with e1 _
   subst e1
   cases v <;> rfl
inductive V where
 |aj|bl (b:Bool)|int (i:Int)|str (x:cb)|gv (b:Array UInt8)|sJ (b:UInt64)|ref (a:ag)|ty (n:String)
 deriving DecidableEq
def RelV:V->am->Prop
 | .aj,u=>u=u7
 | .bl b,u=>u=Qj b
 | .int i,u=>∃t,u=am.int i t
 | .str x,u=>∃t,u=Qn x t
 | .gv b,u=>∃t,u=am.bytes b t
 | .sJ b,u=>∃t,u=am.float b t
 | .ref a,u=>u=lc a
 | .ty n,u=>u=AM n
abbrev Vals:List V->List am->Prop:=wn RelV
theorem Vals.length {xs:List V} {us:List am} (r:Vals xs us):xs.length=us.length:=ON r
theorem Vals.get:∀{xs:List V} {us:List am} {i:Nat} {x:V},Vals xs us->xs[i]?=some x->∃u,us[i]?=some u/\RelV x u
 |_,_,_,_,.nil,e=>by simp at e
 |_,_,0,_,.cons r _,e=>by simp at e;subst e;exact ⟨_,rfl,r⟩
 |_,_,i+1,x,.cons _ t,e=>by
          obtain ⟨u,h1,h2⟩:=Vals.get (i:=i) (x:=x) t (by simpa using e)
          exact ⟨u,by simpa using h1,h2⟩
theorem Vals.set {x:V} {u:am} (r:RelV x u):∀{xs:List V} {us:List am} (i:Nat),Vals xs us->Vals (xs.set i x) (us.set i u)
 |_,_,_,.nil=>.nil
 |_,_,0,.cons _ t=>.cons r t
 |_,_,i+1,.cons q t=>.cons q (Vals.set r i t)
theorem Vals.append:∀{xs ys:List V} {us ws:List am},Vals xs us->Vals ys ws->Vals (xs++ys) (us++ws)
 |_,_,_,_,.nil,s=>s
 |_,_,_,_,.cons r t,s=>.cons r (Vals.append t s)
theorem Vals.take:∀{xs:List V} {us:List am} (n:Nat),Vals xs us->Vals (xs.take n) (us.take n)
 |_,_,0,_=>.nil
 |_,_,_+1,.nil=>.nil
 |_,_,n+1,.cons r t=>.cons r (Vals.take n t)
theorem Vals.drop:∀{xs:List V} {us:List am} (n:Nat),Vals xs us->Vals (xs.drop n) (us.drop n)
 |_,_,0,r=>r
 |_,_,_+1,.nil=>.nil
 |_,_,n+1,.cons _ t=>Vals.drop n t
def yh:Option V->Option am->Prop
 |some v,some u=>RelV v u
 |none,none=>True
 |_,_=>False
def KV {κ:Type}:List (κ×V)->List (κ×am)->Prop:=wn fun (p:κ×V) (q:κ×am)=>p.1=q.1/\RelV p.2 q.2
def kV:Key->V
 | .inl i=>.int i
 | .inr x=>.str x
inductive HO where
 |lst (xs:List V)
 |tup (xs:List V)
 |dK (aD:List (Key×V))|dT (aD:List (List Key×V))
 |set (S:Int->Bool) (n:Nat)
 |ins (C dx:ag) (fs:List (cb×V))
 |own (x:ag)
 |xd (fs:List (cb×V))
 |met (f x:ag)
 |sL (lo hi:Int)
 |dO (o:lm) (u:HO)
 |bO (ps:Array am)
 |lam (ps:Array am)
 |ext (φ:ij->Prop)
abbrev Hp:=ag->Option HO
def upd (H:Hp) (a:ag) (o:HO):Hp:=fun b=>if b=a then some o else H b
theorem aE {H:Hp} {a:ag} {o:HO}:upd H a o a=some o :=by unfold upd;rw [if_pos rfl]
theorem af {H:Hp} {a b:ag} {o:HO} (h:b≠a):upd H a o b=H b :=by unfold upd;rw [if_neg h]
theorem Gy {H:Hp} {a b:ag} {o u:HO} (h:H a=some o) (h':H b=some u) (d:o≠u):a≠b :=by
 intro e;subst e;rw [h] at h';exact d (i1 h')
theorem aY {H:Hp} {a b:ag} {o:HO} (h:H a=some o) (h':H b=none):a≠b :=by
 intro e;subst e;rw [h] at h';cases h'
section
variable (P:gl) (w:ii)
def fR (h:ij) (a:ag) (items:Array am):Prop:=∃o,h.get? a=some o/\o.cls=.type "tuple" /\ ∃n,o.data=.seq items n/\o.dict=none
theorem fR.tup {h:ij} {a:ag} {items:Array am} (x:fR h a items):P3 h a items:=let ⟨o,e,c,n,d,_⟩:=x;⟨o,e,c,n,d⟩
theorem fR.lt {h:ij} {a:ag} {items:Array am} (x:fR h a items):a<h.objs.size:=x.tup.lt
theorem fR.new (h:ij) (items:Array am):fR (h.push {cls:=.type "tuple",data:=.seq items}) h.objs.size items:=⟨_,hX _ rfl,rfl,_,rfl,rfl⟩
def aZ (H:Hp) (h:ij) (a:ag):HO->Prop
 | .lst xs=>xs.length<=sizeLine/\∃(its:List am) (n:Nat),Vals xs its/\h.get? a=some {cls:=.type "list",data:=.seq its.toArray n}
 | .tup xs=>xs.length<=sizeLine/\∃its:List am,Vals xs its/\fR h a its.toArray
 | .dK aD=>aD.length<=sizeLine/\(a==sysModules)=false/\∃vs,KV aD vs/\h.DictOf (mZ P w) a vs
 | .dT aD=>aD.length<=sizeLine/\(a==sysModules)=false/\∃xs:List (List Key×ag×am),
   wn (fun (p:List Key×V) (q:List Key×ag×am)=>p.1=q.1/\H q.2.1=some (.tup (p.1.map kV))/\RelV p.2 q.2.2) aD xs /\
   ∃o es ep,h.get? a=some o/\o.ExactDict/\o.data=.dict es ep/\es.toList=xs.map (entryOfKey (tupleKind (mZ P w)))/\(xs.map (·.1)).Nodup
 | .set S n=>h.SetOf (intKind P w) a S n
 | .ins C dx fs=>H dx=some (.own a)/\fs.length<=1000/\dx≠a/\h.get? a=some (P4 C dx) /\
   ∃mA,h.Ns1 dx mA/\(∀f,yh (fs.lookup f) (mA f))/\PySem.Within mA (fs.map (·.1))
 | .own _=>∃o,h.get? a=some o
 | .xd fs=>∃mA,h.Ns1 a mA/\∀f,yh (fs.lookup f) (mA f)
 | .sL lo hi=>∃t u v,h.get? a=some {cls:=.type "range",data:=.fields #[.int lo t,.int hi u,.int 1 v]}
 | .dO o u=>h.get? a=some o/\aZ H h a u
 | .bO ps=>h.get? a=some {cls:=.none,data:=.fields ps}
 | .lam ps=>h.get? a=some {cls:=.none,data:=.fields ps}
 | .met f x=>h.get? a=some (PJ (.ref f) (.ref x))
 | .ext φ=>φ h/\(∃o,h.get? a=some o)/\∀h1 h2:ij,φ h1->(∀o,h1.get? a=some o->h2.get? a=some o)->φ h2
def cG (H:Hp) (h:ij):Prop:=∀a o,H a=some o->aZ P w H h a o
end
section
variable {P:gl} {w:ii} {H H':Hp} {h h':ij} {a:ag} {o:HO}
theorem aZ.lt (x:aZ P w H h a o):a<h.objs.size :=by
 cases o with
 |lst xs=>obtain ⟨_,_,_,_,e⟩:=x;exact gc e
 |tup xs=>obtain ⟨_,_,_,p⟩:=x;exact p.lt
 |dK aD=>obtain ⟨_,_,_,_,o,_,_,e,_⟩:=x;exact gc e
 |dT aD=>obtain ⟨_,_,_,_,o,_,_,e,_⟩:=x;exact gc e
 |set S n=>obtain ⟨o,_,_,_,e,_⟩:=x;exact gc e
 |ins C dx fs=>obtain ⟨_,_,_,e,_⟩:=x;exact gc e
 |own y=>obtain ⟨_,e⟩:=x;exact gc e
 |xd fs=>obtain ⟨_,⟨_,_,_,e,_⟩,_⟩:=x;exact gc e
 |sL lo hi=>obtain ⟨_,_,_,e⟩:=x;exact gc e
 |dO ob u=>obtain ⟨e,_⟩:=x;exact gc e
 |bO ps=>exact gc (show h.get? a=some _ from x)
 |lam ps=>exact gc (show h.get? a=some _ from x)
 |met f y=>exact gc (show h.get? a=some _ from x)
 |ext φ=>obtain ⟨_,⟨_,e⟩,_⟩:=x;exact gc e
theorem wn.yi {α β:Type} {F G:α->β->Prop}:∀{l₁:List α} {l₂:List β},wn F l₁ l₂->(∀a b,F a b->G a b)->wn G l₁ l₂
 |_,_,.nil,_=>.nil
 |_,_,.cons r t,f=>.cons (f _ _ r) (wn.yi t f)
theorem wn.imp' {α β:Type} {F G:α->β->Prop} (f:∀a b,F a b->G a b) {l₁:List α} {l₂:List β} (r:wn F l₁ l₂):wn G l₁ l₂:=wn.yi r f
theorem aZ.bY (x:aZ P w H h a o) (k:∀b u,(b=a\/H b=some (.own a))->h.get? b=some u->h'.get? b=some u)
  (ho:∀b,H b=some (.own a)->H' b=some (.own a)) (ht:∀b xs,H b=some (.tup xs)->H' b=some (.tup xs)):aZ P w H' h' a o :=by
 induction o with
 |lst xs=>obtain ⟨z,its,n,r,e⟩:=x;exact ⟨z,its,n,r,k _ _ (.inl rfl) e⟩
 |tup xs=>obtain ⟨z,its,r,ob,e,c⟩:=x;exact ⟨z,its,r,ob,k _ _ (.inl rfl) e,c⟩
 |dK aD=>obtain ⟨z,y,vs,r,ob,es,ep,e,c⟩:=x;exact ⟨z,y,vs,r,ob,es,ep,k _ _ (.inl rfl) e,c⟩
 |dT aD=>
  obtain ⟨z,y,xs,r,ob,es,ep,e,c⟩:=x
  exact ⟨z,y,xs,wn.yi r fun p q z=>⟨z.1,ht _ _ z.2.1,z.2.2⟩,ob,es,ep,k _ _ (.inl rfl) e,c⟩
 |set S n=>obtain ⟨ob,es,ep,t,e,c⟩:=x;exact ⟨ob,es,ep,t,k _ _ (.inl rfl) e,c⟩
 |ins C dx fs=>
  obtain ⟨d,z,ne,e,mA,⟨od,es,ep,e2,c⟩,r⟩:=x
  exact ⟨ho _ d,z,ne,k _ _ (.inl rfl) e,mA,⟨od,es,ep,k _ _ (.inr d) e2,c⟩,r⟩
 |own y=>obtain ⟨ob,e⟩:=x;exact ⟨ob,k _ _ (.inl rfl) e⟩
 |xd fs=>obtain ⟨mA,⟨od,es,ep,e,c⟩,r⟩:=x;exact ⟨mA,⟨od,es,ep,k _ _ (.inl rfl) e,c⟩,r⟩
 |sL lo hi=>obtain ⟨t,u,v,e⟩:=x;exact ⟨t,u,v,k _ _ (.inl rfl) e⟩
 |dO ob u ih=>obtain ⟨e,q⟩:=x;exact ⟨k _ _ (.inl rfl) e,ih q⟩
 |bO ps=>
  have e:h.get? a=some {cls:=.none,data:=.fields ps}:=x
  show h'.get? a=some {cls:=.none,data:=.fields ps}
  exact k a _ (.inl rfl) e
 |lam ps=>
  have e:h.get? a=some {cls:=.none,data:=.fields ps}:=x
  show h'.get? a=some {cls:=.none,data:=.fields ps}
  exact k a _ (.inl rfl) e
 |met f y=>
  have e:h.get? a=some (PJ (.ref f) (.ref y)):=x
  show h'.get? a=some (PJ (.ref f) (.ref y))
  exact k a _ (.inl rfl) e
 |ext φ=>obtain ⟨p,⟨o,e⟩,st⟩:=x;exact ⟨st _ _ p fun o q=>k _ _ (.inl rfl) q,⟨o,k _ _ (.inl rfl) e⟩,st⟩
theorem cG.lt (x:cG P w H h) (e:H a=some o):a<h.objs.size:=(x a o e).lt
theorem cG.fresh (x:cG P w H h) (e:h.objs.size<=a):H a=none :=by
 cases q:H a with
 |none=>rfl
 |some u=>exact absurd (l5 (x.lt q) e) (KM _)
theorem cG.kept (x:cG P w H h) (k:∀b u,h.get? b=some u->h'.get? b=some u):cG P w H h':=fun a o e=>
 (x a o e).bY (fun b u _ q=>k b u q) (fun _ q=>q) fun _ _ q=>q
theorem cG.laid (x:cG P w H h) (k:∀b u,h.get? b=some u->h'.get? b=some u) (hp:h.objs.size<=a) (new:aZ P w (upd H a o) h' a o):cG P w (upd H a o) h':=fun b u e=>by
 have hn:=x.fresh hp
 by_cases hb:b=a
 ·subst hb;rw [aE] at e;cases e;exact new
 ·rw [af hb] at e
  exact (x b u e).bY (fun c v _ q=>k c v q) (fun c q=>by rw [af (aY q hn)];exact q) fun c xs q=>by rw [af (aY q hn)];exact q
end
def Rd (H:Hp) (a:ag) (u:HO):Prop:=H a=some u\/∃o,H a=some (.dO o u)
theorem Rd.ok {P:gl} {w:ii} {H:Hp} {h:ij} {a:ag} {u:HO} (r:Rd H a u) (x:cG P w H h):aZ P w H h a u :=by
 rcases r with r|⟨o,r⟩
 ·exact x a u r
 ·obtain ⟨_,q⟩:=x a _ r
  exact q
def zX:Option HO->Prop
 |some (.lst _)=>True
 |some (.dK _)=>True
 |some (.dT _)=>True
 |some (.set _ _)=>True
 |some (.ins _ _ _)=>True
 |some (.ext _)=>True
 |some (.lam _)=>True
 |_=>False
section
variable {P:gl} {w:ii} {H:Hp} {h h':ij} {x e:ag} {o':HO}
theorem cG.write (ok:cG P w H h) (mu:zX (H x)) (he:e=x\/H e=some (.own x)) (k:∀b u,b≠e->h.get? b=some u->h'.get? b=some u) (sM:∃u,h'.get? e=some u)
  (new:aZ P w (upd H x o') h' x o'):cG P w (upd H x o') h':=fun b u q=>by
 have CZ:∀c y,H c=some (.own y)->c≠x:=fun c y r z=>by subst z;rw [r] at mu;exact mu
 have Jt:∀c xs,H c=some (.tup xs)->c≠x:=fun c xs r z=>by subst z;rw [r] at mu;exact mu
 by_cases hb:b=x
 ·subst hb;rw [aE] at q;cases q;exact new
 ·rw [af hb] at q
  by_cases pI:b=e
  ·have q':H b=some (.own x) :=by
    rcases he with z|z
    ·exact absurd (pI.trans z) hb
    ·rw [pI];exact z
   rw [q] at q';cases q'
   obtain ⟨v,hv⟩:=sM
   exact ⟨v,by rw [pI];exact hv⟩
  ·refine (ok b u q).bY (fun c v hc r=>k c v ?_ r) (fun c r=>by rw [af (CZ c b r)];exact r) fun c xs r=>by rw [af (Jt c xs r)];exact r
   rcases hc with rfl|hc
   ·exact pI
   ·rintro rfl
    rcases he with z|z
    ·exact CZ c b hc z
    ·rw [hc] at z;cases z;exact hb rfl
end
structure Un (fs ex:List ag) (H H':Hp) (h h':ij):Prop where
 keep:∀b o,h.get? b=some o->H b=none->b ∉ fs->b ∉ ex->h'.get? b=some o
 slot:∀b o,h.get? b=some o->H b=none->b∈fs->b ∉ ex->∃sl,h'.get? b=some {o with slots:=sl}
 free:∀b o,h.get? b=some o->H b=none->b ∉ ex->H' b=none
 there:∀b o,h.get? b=some o->b ∉ ex->∃o',h'.get? b=some o'
 tups:∀b xs,H b=some (.tup xs)->H' b=some (.tup xs)
 frzs:∀b o u,H b=some (.dO o u)->H' b=some (.dO o u)
 tbls:∀b ps,H b=some (.bO ps)->∃more,H' b=some (.bO (ps++more))
section
variable {fs KD ex Nh:List ag} {H H1 H2:Hp} {h h1 h2 h':ij} {a x e:ag} {o:HO}
theorem Un.any (u:Un fs ex H H1 h h1) {b:ag} {ob:lm} (q:h.get? b=some ob) (n:H b=none) (hx:b ∉ ex):∃sl,h1.get? b=some {ob with slots:=sl}:=by
 by_cases hb:b∈fs
 ·exact u.slot b ob q n hb hx
 ·exact ⟨ob.slots,u.keep b ob q n hb hx⟩
theorem Un.kept (k:∀b u,h.get? b=some u->h'.get? b=some u):Un fs ex H H h h':=
 ⟨fun b ob q _ _ _=>k b ob q,fun b ob q _ _ _=>⟨ob.slots,k b ob q⟩,fun _ _ _ n _=>n,fun b ob q _=>⟨ob,k b ob q⟩,fun _ _ q=>q,fun _ _ _ q=>q,fun _ ps q=>⟨#[],by rw [q];simp⟩⟩
theorem Un.refl:Un fs ex H H h h:=Un.kept fun _ _ q=>q
theorem Un.laid (k:∀b u,h.get? b=some u->h'.get? b=some u) (hp:h.objs.size<=a) (hn:H a=none):Un fs ex H (upd H a o) h h' where
 keep:=fun b u q _ _ _=>k b u q
 slot:=fun b u q _ _ _=>⟨u.slots,k b u q⟩
 free:=fun b u q n _=>by rw [af (l6 (l5 (gc q) hp))];exact n
 there:=fun b u q _=>⟨u,k b u q⟩
 tups:=fun b xs q=>by rw [af (aY q hn)];exact q
 frzs:=fun b u xs q=>by rw [af (aY q hn)];exact q
 tbls:=fun b ps q=>⟨#[],by rw [af (aY q hn),q];simp⟩
theorem Un.write (mu:zX (H x)) (he:e=x\/H e=some (.own x)) (k:∀b u,b≠e->h.get? b=some u->h'.get? b=some u) (sM:∃u,h'.get? e=some u):Un fs ex H (upd H x o) h h':=by
 have hx:∀b,H b=none->b≠x:=fun b n z=>by subst z;rw [n] at mu;exact mu
 have hb:∀b,H b=none->b≠e:=fun b n z=>by
  subst z
  rcases he with r|r
  ·exact hx b n r
  ·rw [n] at r;cases r
 have hm:∀b u,H b=some u->¬ zX (some u)->b≠x:=fun b u q nm z=>by subst z;rw [q] at mu;exact nm mu
 refine ⟨fun b u q n _ _=>k b u (hb b n) q,fun b u q n _ _=>⟨u.slots,k b u (hb b n) q⟩,fun b u q n _=>by rw [af (hx b n)];exact n,fun b u q _=>?_,
  fun b xs q=>by rw [af (hm b _ q fun z=>z)];exact q,fun b u xs q=>by rw [af (hm b _ q fun z=>z)];exact q,fun b ps q=>⟨#[],by rw [af (hm b _ q fun z=>z),q];simp⟩⟩
 by_cases pI:b=e
 ·subst pI;exact sM
 ·exact ⟨u,k b u pI q⟩
end
def zY (h:ij) (H:Hp):List ag:=(io h.objs.size).filter fun a=>(H a).isSome
def gw (h:ij) (H:Hp):ij:=OY h (zY h H)
theorem vv (h:ij) (H:Hp):(gw h H).objs.size=h.objs.size:=PySem.W.hideAll_size _ _
theorem yj {h:ij} {H:Hp} {b:ag} {o:lm} (e:h.get? b=some o) (n:H b=none):(gw h H).get? b=some o:=
 PySem.W.hideAll_get _ e fun hm=>by
  have q:(H b).isSome=true:=(OZ.mp hm).2
  rw [n] at q;simp at q
theorem Bi {h:ij} {H:Hp} {b:ag} {o:lm} (e:(gw h H).get? b=some o):h.get? b=some o/\H b=none :=by
 have e':h.get? b=some o:=PySem.W.of_hideAll (zY h H) e
 refine ⟨e',?_⟩
 cases q:H b with
 |none=>rfl
 |some x=>
  have hm:b∈zY h H:=OZ.mpr ⟨sw.mpr (gc e'),by simp [q]⟩
  have z:(gw h H).get? b=none:=PySem.W.hideAll_none (zY h H) hm
  rw [z] at e;cases e
def Bj (g h:ij) (L:ag):List (ag×lm):=(io h.objs.size).filterMap fun a=>if a=L\/(g.get? a).isSome=true then none else (h.get? a).map fun o=>(a,o)
def rest (g h:ij) (L d:ag):List (ag×lm):=(Bj g h L).filter fun p=>decide (p.1≠d)
structure Mod (K:bi) (mg:cb->Option am) (base:ij):Prop where
 kin:K.In base
 glob:base.Ns mainGlobals mg
 blt:∃mb,base.Ns builtinsNs mb/\∀x:cb,x ≠ "__name__" -> mb x=bootBuiltins x
 nolimit:base.NoLimit
structure Cx where
 prog:gl
 w:ii
 K:bi
 mg:cb->Option am
 base:ij
 A:l7
 N:List cb
 s₀:ar
 H₀:Hp
 env:NR
 outer:List NR
 stack:List NR
 ex:List ag
 fn:cb->Bool
 calm:Bool
 pn:List (ag×lm)
 xe:am->ar->Prop
def dP (l:List NR):List ag:=l.filterMap (·.frame)
abbrev Cx.fs (X:Cx):List ag:=dP X.outer
def pJ (sc:At) (x:cb):Prop:=sc.names.lookup x=some .local\/sc.names.lookup x=some .cell\/sc.names.lookup x=some .free
def Loc (sc:At) (x:cb):Prop:=sc.names.lookup x=some .local\/sc.names.lookup x=some .cell
def Look (env:NR) (h:ij) (m:cb->Option am) (x:cb) (u:am):Prop:=
 (env.kindOf x=some .local/\m x=some u)\/((env.kindOf x=some .cell\/env.kindOf x=some .free)/\∃c,env.cells.lookup x=some c/\h.IsCell c (some u))
structure Cx.Ok (X:Cx):Prop where
 mod:Mod X.K X.mg X.base
 kind:X.env.scope.kind=.function
 glob:X.env.globals=mainGlobals
 blt:X.env.builtins=builtinsNs
 above:X.s₀.heap.objs.size<=X.env.locals
 inj:∀x y c,X.env.cells.lookup x=some c->X.env.cells.lookup y=some c->x=y
 has:∀x,(X.env.kindOf x=some .cell\/X.env.kindOf x=some .free)->∃c,X.env.cells.lookup x=some c
 cab:∀x c,X.fn x=true->X.env.cells.lookup x=some c->X.s₀.heap.objs.size<=c
 hd:X.calm=true->X.A.handled=none
 frames:X.A.frames=some X.stack
 stk:X.stack=X.outer\/(X.stack=X.env::X.outer/\X.env.frame=some X.env.locals)
 exf:∀b∈X.ex,b≠X.env.locals/\∀x c,X.env.cells.lookup x=some c->c≠b
 bs:∀b o,X.base.get? b=some o->X.s₀.heap.get? b=some o/\X.H₀ b=none
 bsz:X.base.objs.size<=X.s₀.heap.objs.size
 noex:∀b o,X.base.get? b=some o->b ∉ X.ex
 exfs:∀b∈X.ex,b ∉ X.fs
 funs:X.s₀.heap.FunFrames X.base X.outer
 frf:∀b∈X.fs,X.H₀ b=none
def Gn (n:Nat) (g:Array OP):Prop:=Qh g/\n<=g.size
theorem Gn.self {n:Nat} {g:Array OP} (x:Gn n g):Gn g.size g:=⟨x.1,br _⟩
theorem Gn.trans {n:Nat} {g g':Array OP} (x:Gn n g) (y:Gn g.size g'):Gn n g':=⟨y.1,sB x.2 y.2⟩
structure Inv (X:Cx) (pins:List (ag×lm)) (σ:List (Option V)) (H:Hp) (s:ar):Prop where
 ok:X.Ok
 os:s.os=X.s₀.os
 bare:Gn X.s₀.gens.size s.gens
 base:Un X.fs X.ex X.H₀ H X.s₀.heap s.heap
 loc:∃m,s.heap.Ns X.env.locals m/\∀(i:Nat) (x:cb) (v:V),X.N[i]?=some x->σ[i]?=some (some v)->pJ X.env.scope x->∃u,RelV v u/\Look X.env s.heap m x u
 cell:∀x c,X.env.cells.lookup x=some c->∃v,s.heap.IsCell c v
 free:H X.env.locals=none
 freeC:∀x c,X.env.cells.lookup x=some c->H c=none
 pin:∀p∈X.pn++pins,s.heap.get? p.1=some p.2/\H p.1=none/\p.1≠X.env.locals/\p.1 ∉ X.fs/\∀v,p.2.data≠.cell v
 hok:cG X.prog X.w H s.heap
 len:σ.length=X.N.length
section
variable {X:Cx} {pins:List (ag×lm)} {σ:List (Option V)} {H H':Hp} {s:ar} {h':ij}
theorem Cx.Ok.Ju (ok:X.Ok) {b:ag} {o:lm} (e:X.base.get? b=some o):b ∉ X.fs:=fun hb=>by
 have:=(ok.funs.mem hb).1
 rw [e] at this;cases this
theorem Inv.bs (I:Inv X pins σ H s):∀b o,X.base.get? b=some o->s.heap.get? b=some o/\H b=none:=fun b o e=>
 ⟨I.base.keep b o (I.ok.bs b o e).1 (I.ok.bs b o e).2 (I.ok.Ju e) (I.ok.noex b o e),I.base.free b o (I.ok.bs b o e).1 (I.ok.bs b o e).2 (I.ok.noex b o e)⟩
theorem Inv.bk (I:Inv X pins σ H s):∀b o,X.base.get? b=some o->s.heap.get? b=some o:=fun b o e=>(I.bs b o e).1
theorem Inv.mod (I:Inv X pins σ H s):Mod X.K X.mg X.base:=I.ok.mod
theorem Inv.dY (I:Inv X pins σ H s):X.K.In s.heap:=I.ok.mod.kin.keeps I.bk
theorem Inv.nolimit (I:Inv X pins σ H s):s.heap.NoLimit:=I.ok.mod.nolimit.keeps I.bk
theorem Inv.lt (I:Inv X pins σ H s):X.env.locals<s.heap.objs.size:=let ⟨_,hn,_⟩:=I.loc;hn.lt
theorem Inv.sz (I:Inv X pins σ H s):X.s₀.heap.objs.size<=s.heap.objs.size:=sB I.ok.above (Oq I.lt)
theorem Inv.C1 (I:Inv X pins σ H s) {a:ag} (h:s.heap.objs.size<=a):a ∉ X.fs:=fun hb=>by
 obtain ⟨_,o,ho,_⟩:=I.ok.funs.mem hb
 exact absurd (l5 (gc ho) (sB I.sz h)) (KM _)
theorem Inv.nY (I:Inv X pins σ H s):∀x c,X.env.cells.lookup x=some c->c≠X.env.locals:=fun x c e z=>by
 obtain ⟨v,o,ho,hd⟩:=I.cell x c e
 obtain ⟨m,⟨o',es,ep,dZ,fJ,_⟩,_⟩:=I.loc
 rw [z,dZ] at ho;cases ho;rw [fJ] at hd;cases hd
theorem Inv.funs (I:Inv X pins σ H s):s.heap.FunFrames X.base X.outer :=by
 have all:∀(l:List NR),(∀b∈dP l,b∈X.fs)->X.s₀.heap.FunFrames X.base l->s.heap.FunFrames X.base l :=by
  intro l
  induction l with
  |nil=>intro _ _;trivial
  |cons env r ih=>
   intro hs hl
   obtain ⟨hk,⟨L,o,hf,hn,ho,hd⟩,hr⟩:=hl
   have hL:L∈X.fs:=hs L (by unfold dP;rw [GM,hf];exact kt)
   obtain ⟨sl,e⟩:=I.base.slot L o ho (I.ok.frf L hL) hL fun z=>I.ok.exfs L z hL
   exact ⟨hk,⟨L,_,hf,hn,e,hd⟩,ih (fun b hb=>hs b (by unfold dP;rw [GM,hf];exact ff _ hb)) hr⟩
 exact all X.outer (fun _ hb=>hb) I.ok.funs
theorem Inv.stack (I:Inv X pins σ H s):s.heap.FunFrames X.base X.stack :=by
 rcases I.ok.stk with e|⟨e,hf⟩
 ·rw [e];exact I.funs
 ·rw [e]
  obtain ⟨m,hn,_⟩:=I.loc
  refine .cons (by rw [I.ok.kind];decide) hf hn ?_ I.funs
  exact ij.get?_none_of_le (sB I.ok.bsz I.ok.above)
theorem Inv.gy (I:Inv X pins σ H s):∀b∈dP X.stack,b∈X.env.locals::X.fs:=fun b hb=>by
 rcases I.ok.stk with e|⟨e,hf⟩
 ·rw [e] at hb;exact ff _ hb
 ·rw [e] at hb
  unfold dP at hb
  rw [GM,hf] at hb
  exact hb
theorem Inv.m4 (I:Inv X pins σ H s):∀b∈dP X.stack,H b=none:=fun b hb=>by
 rcases lw.mp (I.gy b hb) with e|hb
 ·rw [e];exact I.free
 ·obtain ⟨_,o,ho,_⟩:=I.ok.funs.mem hb
  exact I.base.free b o ho (I.ok.frf b hb) fun z=>I.ok.exfs b z hb
theorem Inv.step {g':Array OP} {t':Nat} {d':Drawn} {ch:List ag} (I:Inv X pins σ H s)
  (kI:∀b∈ch,(b∈X.ex\/X.s₀.heap.objs.size<=b)/\b≠X.env.locals/\(∀x c,X.env.cells.lookup x=some c->c≠b)/\∀p∈X.pn++pins,p.1≠b)
  (keep:∀b o,b≠X.env.locals->b ∉ X.fs->b ∉ ch->s.heap.get? b=some o->H b=none->h'.get? b=some o)
  (slot:∀b o,b≠X.env.locals->b∈X.fs->b ∉ ch->s.heap.get? b=some o->H b=none->∃sl,h'.get? b=some {o with slots:=sl}) (free:∀b o,b ∉ ch->s.heap.get? b=some o->H b=none->H' b=none)
  (there:∀b o,b ∉ ch->s.heap.get? b=some o->∃o',h'.get? b=some o')
  (tups:∀b xs,H b=some (.tup xs)->H' b=some (.tup xs)) (frzs:∀b o u,H b=some (.dO o u)->H' b=some (.dO o u)) (tbls:∀b ps,H b=some (.bO ps)->∃more,H' b=some (.bO (ps++more)))
  (ns:∀m,s.heap.Ns X.env.locals m->h'.Ns X.env.locals m) (hok:cG X.prog X.w H' h') (hg:Gn s.gens.size g') :
  Inv X pins σ H' {s with heap:=h',gens:=g',drawn:=d',toks:=t'}:=by
 have HN:∀b o,X.s₀.heap.get? b=some o->b≠X.env.locals:=fun b o e=>l6 (l5 (gc e) I.ok.above)
 have zZ:∀b o,X.s₀.heap.get? b=some o->b ∉ X.ex->b ∉ ch:=fun b o e hx hb=>by
  rcases (kI b hb).1 with z|z
  ·exact hx z
  ·exact absurd (l5 (gc e) z) (KM _)
 have cellK:∀x c,X.env.cells.lookup x=some c->∀v,s.heap.IsCell c v->h'.IsCell c v:=fun x c e v ⟨o,ho,hd⟩=>by
  have vw:c ∉ ch:=fun z=>(kI c z).2.2.1 x c e rfl
  by_cases hc:c∈X.fs
  ·obtain ⟨sl,q⟩:=slot c o (I.nY x c e) hc vw ho (I.freeC x c e)
   exact ⟨_,q,hd⟩
  ·exact ⟨o,keep c o (I.nY x c e) hc vw ho (I.freeC x c e),hd⟩
 refine ⟨I.ok,I.os,I.bare.trans hg,⟨fun b o e n hb hx=>?_,fun b o e n hb hx=>?_,fun b o e n hx=>?_,fun b o e hx=>?_,fun b xs e=>tups b xs (I.base.tups b xs e),fun b o xs e=>frzs b o xs (I.base.frzs b o xs e),fun b ps e=>?_⟩,?_,fun x c e=>?_,?_,fun x c e=>?_,fun p hp=>?_,hok,I.len⟩
 ·exact keep b o (HN b o e) hb (zZ b o e hx) (I.base.keep b o e n hb hx) (I.base.free b o e n hx)
 ·obtain ⟨sl,e1⟩:=I.base.slot b o e n hb hx
  obtain ⟨HP,e2⟩:=slot b _ (HN b o e) hb (zZ b o e hx) e1 (I.base.free b o e n hx)
  exact ⟨HP,e2⟩
 ·obtain ⟨o',e1⟩:=I.base.there b o e hx
  exact free b o' (zZ b o e hx) e1 (I.base.free b o e n hx)
 ·obtain ⟨o',e1⟩:=I.base.there b o e hx
  exact there b o' (zZ b o e hx) e1
 ·obtain ⟨m1,e1⟩:=I.base.tbls b ps e
  obtain ⟨m2,e2⟩:=tbls b _ e1
  exact ⟨m1++m2,by rw [e2,Array.append_assoc]⟩
 ·obtain ⟨m,hn,hl⟩:=I.loc
  refine ⟨m,ns m hn,fun i x v e1 e2 e3=>?_⟩
  obtain ⟨u,r,l⟩:=hl i x v e1 e2 e3
  refine ⟨u,r,?_⟩
  rcases l with l|⟨k,c,e,z⟩
  ·exact .inl l
  ·exact .inr ⟨k,c,e,cellK x c e _ z⟩
 ·obtain ⟨v,z⟩:=I.cell x c e
  exact ⟨v,cellK x c e v z⟩
 ·obtain ⟨m,⟨o,_,_,ho,_⟩,_⟩:=I.loc
  exact free _ o (fun z=>(kI _ z).2.1 rfl) ho I.free
 ·obtain ⟨v,o,ho,hd⟩:=I.cell x c e
  exact free c o (fun z=>(kI c z).2.2.1 x c e rfl) ho (I.freeC x c e)
 ·obtain ⟨e,n,ne,nf,d⟩:=I.pin p hp
  have vw:p.1 ∉ ch:=fun z=>(kI p.1 z).2.2.2 p hp rfl
  exact ⟨keep p.1 p.2 ne nf vw e n,free p.1 p.2 vw e n,ne,nf,d⟩
theorem Inv.un {t':Nat} (I:Inv X pins σ H s) (u:Un X.fs [] H H' s.heap h') (hok:cG X.prog X.w H' h'):Inv X pins σ H' {s with heap:=h',toks:=t'}:=by
 obtain ⟨m,⟨o,es,ep,ho,r⟩,_⟩:=id I.loc
 obtain ⟨sl,hL⟩:=u.any ho I.free (by simp)
 exact I.step (g':=s.gens) (d':=s.drawn) (ch:=[]) (fun _ z=>nomatch z) (fun b o _ hb _ e n=>u.keep b o e n hb (by simp)) (fun b o _ hb _ e n=>u.slot b o e n hb (by simp)) (fun b o _ e n=>u.free b o e n (by simp)) (fun b o _ e=>u.there b o e (by simp)) u.tups u.frzs u.tbls (fun m' hm=>by
  obtain ⟨o',c7,C2,dZ,r'⟩:=hm
  rw [ho] at dZ;cases dZ
  exact ⟨_,c7,C2,hL,r'⟩) hok I.bare.self
theorem Inv.call {g':Array OP} {t':Nat} {d':Drawn} {ch:List ag} (I:Inv X pins σ H s) (u:Un (dP X.stack) ch H H' s.heap h') (hok:cG X.prog X.w H' h') (hg:Gn s.gens.size g')
  (kI:∀b∈ch,(b∈X.ex\/X.s₀.heap.objs.size<=b)/\b≠X.env.locals/\(∀x c,X.env.cells.lookup x=some c->c≠b)/\∀p∈X.pn++pins,p.1≠b) :
  Inv X pins σ H' {s with heap:=h',gens:=g',drawn:=d',toks:=t'}:=by
 obtain ⟨m,⟨o,es,ep,ho,r⟩,_⟩:=id I.loc
 obtain ⟨sl,hL⟩:=u.any ho I.free fun z=>(kI _ z).2.1 rfl
 exact I.step (ch:=ch) kI (fun b o hL hb hc e n=>u.keep b o e n (fun z=>(lw.mp (I.gy b z)).elim hL hb) hc) (fun b o _ _ hc e n=>u.any e n hc) (fun b o hc e n=>u.free b o e n hc) (fun b o hc e=>u.there b o e hc) u.tups u.frzs u.tbls (fun m' hm=>by
  obtain ⟨o',c7,C2,dZ,r'⟩:=hm
  rw [ho] at dZ;cases dZ
  exact ⟨_,c7,C2,hL,r'⟩) hok hg
theorem Inv.turned {t':Nat} {it:ag} (I:Inv X pins σ H s) (k:∀b o,b≠it->s.heap.get? b=some o->h'.get? b=some o) (hn:H it=none) (hL:it≠X.env.locals)
  (h1:it∈X.ex\/X.s₀.heap.objs.size<=it) (h2:∀x c,X.env.cells.lookup x=some c->c≠it) (h3:∀p∈X.pn++pins,p.1≠it):Inv X pins σ H {s with heap:=h',toks:=t'}:=by
 have vy:∀b u,H b=some u->b≠it:=fun b u e z=>by rw [z,hn] at e;cases e
 refine I.step (g':=s.gens) (d':=s.drawn) (ch:=[it]) (fun b hb=>?_) (fun b o _ _ hc e _=>k b o (fun z=>hc (by simp [z])) e) (fun b o _ _ hc e _=>⟨o.slots,k b o (fun z=>hc (by simp [z])) e⟩) (fun _ _ _ _ n=>n)
  (fun b o hc e=>⟨o,k b o (fun z=>hc (by simp [z])) e⟩) (fun _ _ e=>e) (fun _ _ _ e=>e) (fun b ps e=>⟨#[],by rw [e];simp⟩) (fun m hm=>?_) (fun b u e=>?_) I.bare.self
 ·have e:b=it :=by simpa using hb
  subst e
  exact ⟨h1,hL,h2,h3⟩
 ·obtain ⟨o,es,ep,ho,r⟩:=hm
  exact ⟨o,es,ep,k _ o (BN hL) ho,r⟩
 ·refine (I.hok b u e).bY (fun c v hc q=>k c v ?_ q) (fun _ q=>q) fun _ _ q=>q
  rcases hc with z|z
  ·rw [z];exact vy b u e
  ·exact vy c _ z
theorem Inv.tok (I:Inv X pins σ H s) (t:Nat):Inv X pins σ H {s with toks:=t}:=I.un (h':=s.heap) (t':=t) Un.refl I.hok
theorem Inv.kept {t':Nat} (I:Inv X pins σ H s) (k:∀b u,s.heap.get? b=some u->h'.get? b=some u):Inv X pins σ H {s with heap:=h',toks:=t'}:=I.un (Un.kept k) (I.hok.kept k)
theorem Inv.laid {a:ag} {o:HO} {t':Nat} (I:Inv X pins σ H s) (k:∀b u,s.heap.get? b=some u->h'.get? b=some u) (hp:s.heap.objs.size<=a) (new:aZ X.prog X.w (upd H a o) h' a o) :
  Inv X pins σ (upd H a o) {s with heap:=h',toks:=t'}:=I.un (Un.laid k hp (I.hok.fresh hp)) (I.hok.laid k hp new)
theorem Inv.write {x e:ag} {o:HO} {t':Nat} (I:Inv X pins σ H s) (mu:zX (H x)) (he:e=x\/H e=some (.own x)) (k:∀b u,b≠e->s.heap.get? b=some u->h'.get? b=some u) (sM:∃u,h'.get? e=some u)
  (new:aZ X.prog X.w (upd H x o) h' x o):Inv X pins σ (upd H x o) {s with heap:=h',toks:=t'}:=I.un (Un.write mu he k sM) (I.hok.write mu he k sM new)
theorem Inv.m5 {pins':List (ag×lm)} (I:Inv X pins σ H s) (h:∀p∈pins',s.heap.get? p.1=some p.2/\H p.1=none/\p.1≠X.env.locals/\p.1 ∉ X.fs/\∀v,p.2.data≠.cell v):Inv X pins' σ H s:=
 ⟨I.ok,I.os,I.bare,I.base,I.loc,I.cell,I.free,I.freeC,fun p hp=>(wT.mp hp).elim (fun z=>I.pin p (Cn _ z)) (h p),I.hok,I.len⟩
theorem pK {N:List cb} (hN:N.Nodup) {i j:Nat} {x:cb} (a:N[i]?=some x) (b:N[j]?=some x):i=j :=by
 obtain ⟨h1,e1⟩:=bv.mp a
 obtain ⟨h2,e2⟩:=bv.mp b
 exact (List.getElem_inj hN).mp (e1.trans e2.symm)
theorem store_ok2 {M:Model} {A:l7} {E:am->ar->Prop} {i:Nat} {x:cb} {v:V} {u:am} {Q:Unit->ar->Prop} (I:Inv X pins σ H s) (hN:X.N.Nodup) (hi:X.N[i]?=some x) (hx:Loc X.env.scope x) (r:RelV v u)
  (h:∀s',Inv X pins (σ.set i (some v)) H s'->(∃a,ut a s.heap s'.heap/\(a=X.env.locals\/X.env.cells.lookup x=some a))->Q () s') (hf:X.fn x=true\/X.env.scope.names.lookup x=some .local :=by first|exact .inl rfl|exact .inr rfl|assumption):wpAny M A (storeName X.env x u) Q E s :=by
 obtain ⟨m,hn,hl⟩:=id I.loc
 have Jv:(X.env.scope.kind==.class || (X.env.scope.kind==.module && X.env.locals != X.env.globals))=false :=by rw [I.ok.kind];rfl
 have C3:i<σ.length :=by rw [I.len];exact (bv.mp hi).1
 have nY:=I.nY
 have tracked:∀{a:ag} {h':ij},(∃o,s.heap.get? a=some o/\H a=none)->ut a s.heap h'->cG X.prog X.w H h':=fun {a h'} ha hs b ob e=>by
  obtain ⟨_,_,lR⟩:=ha
  refine (I.hok b ob e).bY (fun c w' hc q=>(hs.2 c ?_).trans q) (fun _ q=>q) fun _ _ q=>q
  rintro rfl
  rcases hc with rfl|hc
  ·rw [lR] at e;cases e
  ·rw [lR] at hc;cases hc
 rcases hx with hk|hk
 ·refine wpAny_storeName_local hk hn (fun h' pL hs=>?_) Jv
  obtain ⟨oL,_,_,vz,_⟩:=id hn
  refine h _ ⟨I.ok,I.os,I.bare,⟨fun b o e n hb hx=>?_,fun b o e n hb hx=>?_,I.base.free,fun b o e hx=>?_,I.base.tups,I.base.frzs,I.base.tbls⟩,⟨_,pL,fun j y v' e1 e2 e3=>?_⟩,fun y c e=>?_,I.free,I.freeC,fun p hp=>?_,tracked ⟨oL,vz,I.free⟩ hs,by simpa using I.len⟩ ⟨_,hs,.inl rfl⟩
  ·exact (hs.2 b (l6 (l5 (gc e) I.ok.above))).trans (I.base.keep b o e n hb hx)
  ·obtain ⟨sl,e1⟩:=I.base.slot b o e n hb hx
   exact ⟨sl,(hs.2 b (l6 (l5 (gc e) I.ok.above))).trans e1⟩
  ·obtain ⟨o',e1⟩:=I.base.there b o e hx
   exact ⟨o',(hs.2 b (l6 (l5 (gc e) I.ok.above))).trans e1⟩
  ·by_cases hj:j=i
   ·subst hj
    rw [hi] at e1;cases e1
    rw [OI C3] at e2
    cases e2
    exact ⟨u,r,.inl ⟨hk,by simp⟩⟩
   ·rw [List.getElem?_set_ne (BN hj)] at e2
    obtain ⟨u',r',q⟩:=hl j y v' e1 e2 e3
    refine ⟨u',r',?_⟩
    rcases q with ⟨k,e⟩|⟨k,c,e,z⟩
    ·refine .inl ⟨k,?_⟩
     have:y≠x:=fun e=>hj (pK hN e1 (e▸hi))
     simp [this,e]
    ·exact .inr ⟨k,c,e,z.sameBut hs (nY y c e)⟩
  ·obtain ⟨w',z⟩:=I.cell y c e
   exact ⟨w',z.sameBut hs (nY y c e)⟩
  ·obtain ⟨e,n,ne,nf,d⟩:=I.pin p hp
   exact ⟨(hs.2 p.1 ne).trans e,n,ne,nf,d⟩
 ·have C4:X.fn x=true :=by
   rcases hf with z|z
   ·exact z
   ·rw [z] at hk;cases hk
  obtain ⟨c,hc⟩:=I.ok.has x (.inl hk)
  obtain ⟨w',z⟩:=I.cell x c hc
  refine wpAny_storeName_cell I.ok.kind hk hc z (fun h' z5 hs=>?_)
  obtain ⟨oc,HQ,Jw⟩:=id z
  refine h {s with heap:=h'} ⟨I.ok,I.os,I.bare,⟨fun b o e n hb hx=>?_,fun b o e n hb hx=>?_,I.base.free,fun b o e hx=>?_,I.base.tups,I.base.frzs,I.base.tbls⟩,⟨m,hn.sameBut hs (BN (nY x c hc)),fun j y v' e1 e2 e3=>?_⟩,fun y c' e=>?_,I.free,I.freeC,fun p hp=>?_,tracked ⟨oc,HQ,I.freeC x c hc⟩ hs,by simpa using I.len⟩ ⟨c,hs,.inr hc⟩
  ·exact (hs.2 b (l6 (l5 (gc e) (I.ok.cab x c C4 hc)))).trans (I.base.keep b o e n hb hx)
  ·obtain ⟨sl,e1⟩:=I.base.slot b o e n hb hx
   exact ⟨sl,(hs.2 b (l6 (l5 (gc e) (I.ok.cab x c C4 hc)))).trans e1⟩
  ·obtain ⟨o',e1⟩:=I.base.there b o e hx
   exact ⟨o',(hs.2 b (l6 (l5 (gc e) (I.ok.cab x c C4 hc)))).trans e1⟩
  ·by_cases hj:j=i
   ·subst hj
    rw [hi] at e1;cases e1
    rw [OI C3] at e2
    cases e2
    exact ⟨u,r,.inr ⟨.inl hk,c,hc,z5⟩⟩
   ·rw [List.getElem?_set_ne (BN hj)] at e2
    obtain ⟨u',r',q⟩:=hl j y v' e1 e2 e3
    refine ⟨u',r',?_⟩
    rcases q with q|⟨k,c',e,z'⟩
    ·exact .inl q
    ·refine .inr ⟨k,c',e,z'.sameBut hs ?_⟩
     rintro rfl
     exact hj (pK hN e1 (I.ok.inj _ _ _ e hc▸hi))
  ·by_cases HR:c'=c
   ·subst HR;exact ⟨_,z5⟩
   ·obtain ⟨w2,z2⟩:=I.cell y c' e
    exact ⟨w2,z2.sameBut hs HR⟩
  ·obtain ⟨e,n,ne,nf,d⟩:=I.pin p hp
   refine ⟨(hs.2 p.1 ?_).trans e,n,ne,nf,d⟩
   intro q
   rw [q,HQ] at e
   have q':oc=p.2:=i1 e
   exact d w' (by rw [<- q'];exact Jw)
theorem kY {M:Model} {A:l7} {E:am->ar->Prop} {i:Nat} {x:cb} {v:V} {u:am} {Q:Unit->ar->Prop} (I:Inv X pins σ H s) (hN:X.N.Nodup) (hi:X.N[i]?=some x) (hx:Loc X.env.scope x) (r:RelV v u)
  (h:∀s',Inv X pins (σ.set i (some v)) H s'->Q () s') (hf:X.fn x=true\/X.env.scope.names.lookup x=some .local :=by first|exact .inl rfl|exact .inr rfl|assumption):wpAny M A (storeName X.env x u) Q E s:=
 store_ok2 I hN hi hx r (fun s' I' _=>h s' I') hf
theorem Inv.pq {s':ar} {ch:List ag} (I:Inv X pins σ H s) (ho:s'.os=s.os) (u:Un (dP X.stack) ch H H' s.heap s'.heap) (hok:cG X.prog X.w H' s'.heap) (hg:Gn s.gens.size s'.gens)
  (kI:∀b∈ch,(b∈X.ex\/X.s₀.heap.objs.size<=b)/\b≠X.env.locals/\(∀x c,X.env.cells.lookup x=some c->c≠b)/\∀p∈X.pn++pins,p.1≠b):Inv X pins σ H' s':=by
 obtain ⟨h',g',d',t',o'⟩:=s'
 have e:o'=s.os:=ho
 subst e
 exact I.call (g':=g') (t':=t') (d':=d') u hok hg kI
end
abbrev XK:=am->Option ag->Hp->Prop
abbrev St:=List (Option V)
abbrev VK:=V->Hp->Prop
abbrev TE:=St->Hp->VK->Prop
abbrev TT:=St->Hp->(Bool->Hp->Prop)->Prop
abbrev TA:=St->Hp->(List V->Hp->Prop)->Prop
structure Ends where
 nx:St->Hp->Prop
 rt:VK
 bk:St->Hp->Prop:=fun _ _=>False
 ct:St->Hp->Prop:=fun _ _=>False
abbrev TS:=Ends->St->Hp->Prop
def EP (X:Cx) (pins:List (ag×lm)) (σ:St) (Q:VK) (u:am) (s':ar):Prop:=∃v H',Inv X pins σ H' s'/\RelV v u/\Q v H'
def TP (X:Cx) (pins:List (ag×lm)) (σ:St) (Q:Bool->Hp->Prop) (b:Bool) (s':ar):Prop:=∃H',Inv X pins σ H' s'/\Q b H'
def AP (X:Cx) (pins:List (ag×lm)) (σ:St) (Q:List V->Hp->Prop) (us:List am) (s':ar):Prop:=∃vs H',Inv X pins σ H' s'/\Vals vs us/\Q vs H'
def SP (X:Cx) (pins:List (ag×lm)) (D:Ends) (f:Flow) (s':ar):Prop:=
 match f with
 | .next=>∃az H',Inv X pins az H' s'/\D.nx az H'
 | .brk=>∃az H',Inv X pins az H' s'/\D.bk az H'
 | .cont=>∃az H',Inv X pins az H' s'/\D.ct az H'
 | .ret u=>∃v az H',Inv X pins az H' s'/\RelV v u/\D.rt v H'
structure PE (X:Cx) (e:dL) (t:TE):Prop where
 run:∀(pins:List (ag×lm)) (s:ar) (σ:St) (H:Hp) (Q:VK),Inv X pins σ H s->t σ H Q->wpAny (model X.prog X.w) X.A (eval e X.env) (EP X pins σ Q) X.xe s
instance {X:Cx} {e:dL} {t:TE}:CoeFun (PE X e t) (fun _=>∀(pins:List (ag×lm)) (s:ar) (σ:St) (H:Hp) (Q:VK),Inv X pins σ H s->t σ H Q->wpAny (model X.prog X.w) X.A (eval e X.env) (EP X pins σ Q) X.xe s):=⟨PE.run⟩
structure PT (X:Cx) (e:dL) (t:TT):Prop where
 run:∀(pins:List (ag×lm)) (s:ar) (σ:St) (H:Hp) (Q:Bool->Hp->Prop),Inv X pins σ H s->t σ H Q->wpAny (model X.prog X.w) X.A (isTrue e X.env (eval e X.env)) (TP X pins σ Q) X.xe s
instance {X:Cx} {e:dL} {t:TT}:CoeFun (PT X e t) (fun _=>∀(pins:List (ag×lm)) (s:ar) (σ:St) (H:Hp) (Q:Bool->Hp->Prop),Inv X pins σ H s->t σ H Q->wpAny (model X.prog X.w) X.A (isTrue e X.env (eval e X.env)) (TP X pins σ Q) X.xe s):=⟨PT.run⟩
def PW (X:Cx) (e:dL) (t:TT):Prop:=
 ∀(whole:Oi am) (pins:List (ag×lm)) (s:ar) (σ:St) (H:Hp) (Q:Bool->Hp->Prop),Inv X pins σ H s->t σ H Q->wpAny (model X.prog X.w) X.A (isTrue e X.env whole) (TP X pins σ Q) X.xe s
theorem PW.pt {X:Cx} {e:dL} {t:TT} (h:PW X e t):PT X e t:=⟨h _⟩
structure PA (X:Cx) (es:List dL) (t:TA):Prop where
 run:∀(pos:u4) (pins:List (ag×lm)) (s:ar) (σ:St) (H:Hp) (Q:List V->Hp->Prop),Inv X pins σ H s->t σ H Q->wpAny (model X.prog X.w) X.A (spliced (backTo pos (starEach es X.env))) (AP X pins σ Q) X.xe s
instance {X:Cx} {es:List dL} {t:TA}:CoeFun (PA X es t) (fun _=>∀(pos:u4) (pins:List (ag×lm)) (s:ar) (σ:St) (H:Hp) (Q:List V->Hp->Prop),Inv X pins σ H s->t σ H Q->wpAny (model X.prog X.w) X.A (spliced (backTo pos (starEach es X.env))) (AP X pins σ Q) X.xe s):=⟨PA.run⟩
structure PS (X:Cx) (st:r9) (t:TS):Prop where
 run:∀(pins:List (ag×lm)) (s:ar) (σ:St) (H:Hp) (D:Ends),Inv X pins σ H s->t D σ H->wpAny (model X.prog X.w) X.A (exec st X.env) (SP X pins D) X.xe s
instance {X:Cx} {st:r9} {t:TS}:CoeFun (PS X st t) (fun _=>∀(pins:List (ag×lm)) (s:ar) (σ:St) (H:Hp) (D:Ends),Inv X pins σ H s->t D σ H->wpAny (model X.prog X.w) X.A (exec st X.env) (SP X pins D) X.xe s):=⟨PS.run⟩
structure dQ (X:Cx) (st:List r9) (t:TS):Prop where
 run:∀(pins:List (ag×lm)) (s:ar) (σ:St) (H:Hp) (D:Ends),Inv X pins σ H s->t D σ H->wpAny (model X.prog X.w) X.A (execs st X.env) (SP X pins D) X.xe s
instance {X:Cx} {st:List r9} {t:TS}:CoeFun (dQ X st t) (fun _=>∀(pins:List (ag×lm)) (s:ar) (σ:St) (H:Hp) (D:Ends),Inv X pins σ H s->t D σ H->wpAny (model X.prog X.w) X.A (execs st X.env) (SP X pins D) X.xe s):=⟨dQ.run⟩
theorem thn {α:Type} {t:Oi α} {Q Q':α->ar->Prop} {M:Model} {A:l7} {E:am->ar->Prop} {s:ar} (h:wpAny M A t Q E s) (hQ:∀a s,Q a s->Q' a s):wpAny M A t Q' E s:=mf h hQ fun _ _ x=>x
section
variable {X:Cx}
theorem bin {a b:dL} {ta tb:TE} (ha:PE X a ta) (hb:PE X b tb) {pins:List (ag×lm)} {s:ar} {σ:St} {H:Hp} {R:V->V->Hp->Prop} (I:Inv X pins σ H s) (h:ta σ H fun x H1=>tb σ H1 fun y H2=>R x y H2)
  {α:Type} {Q:α->ar->Prop} {f:am->am->Oi α}
  (hf:∀v u s2 x y H2,Inv X pins σ H2 s2->RelV x v->RelV y u->R x y H2->wpAny (model X.prog X.w) X.A (f v u) Q X.xe s2) :
  wpAny (model X.prog X.w) X.A (eval a X.env) (fun v au=>wpAny (model X.prog X.w) X.A (eval b X.env) (fun u fS=>wpAny (model X.prog X.w) X.A (f v u) Q X.xe fS) X.xe au) X.xe s :=by
 refine thn (ha pins s σ H _ I h) fun v s1 ⟨x,H1,I1,r1,q1⟩=>?_
 refine thn (hb pins s1 σ H1 _ I1 q1) fun u s2 ⟨y,H2,I2,r2,q2⟩=>?_
 exact hf v u s2 x y H2 I2 r1 r2 q2
def Jx (i:Nat):TE:=fun σ H Q=>∃v,σ[i]?=some (some v)/\Q v H
def tC (v:V):TE:=fun _ H Q=>Q v H
theorem C5 {i:Nat} {x:cb} {pos:u4} (hN:X.N[i]?=some x) (hv:pJ X.env.scope x) (hd:(x==("__debug__" : cb))=false :=by decide) (fK:(x==("__classdict__" : cb))=false :=by decide):PE X (.Name x pos) (Jx i) :=by
 refine ⟨?_⟩
 intro pins s σ H Q I h
 obtain ⟨v,e,h⟩:=h
 obtain ⟨m,hn,hl⟩:=I.loc
 obtain ⟨u,r,l⟩:=hl i x v hN e hv
 have fin:EP X pins σ Q u s:=⟨v,H,I,r,h⟩
 rcases l with ⟨hk,hm⟩|⟨hk,c,hc,kg⟩
 ·exact wpAny_Name (wpAny_loadName_local I.ok.kind hk hn hm fin) hd
 ·rcases hk with hk|hk
  ·exact wpAny_Name (wpAny_loadName_cell I.ok.kind hk hc kg fin) hd
  ·exact wpAny_Name (wpAny_loadName_free I.ok.kind hk hc kg fin fK) hd
theorem C6 {i j pos}:PE X (.Constant (.int i) j pos) (tC (.int i)):=⟨fun _ _ _ H _ I h=>wpAny_Constant_int ⟨.int i,H,I.tok _,⟨_,rfl⟩,h⟩⟩
theorem GA {b j pos}:PE X (.Constant (.bool b) j pos) (tC (.bl b)):=⟨fun _ _ _ H _ I h=>Constant_bool ⟨.bl b,H,I,rfl,h⟩⟩
theorem C7 {j pos}:PE X (.Constant .none j pos) (tC .aj):=⟨fun _ _ _ H _ I h=>Constant_none ⟨.aj,H,I,rfl,h⟩⟩
theorem C8 {x j pos}:PE X (.Constant (.str x) j pos) (tC (.str x)):=⟨fun _ _ _ H _ I h=>Calls.Constant_str ⟨.str x,H,I.tok _,⟨_,rfl⟩,h⟩⟩
def Gl (X:Cx) (x:cb):Prop:=X.env.kindOf x=some .globalImplicit
theorem kh {E:am->ar->Prop} {pins:List (ag×lm)} {s:ar} {σ:St} {H:Hp} {x:cb} {u:am} {pos:u4} {Q:am->ar->Prop} (I:Inv X pins σ H s) (hg:Gl X x) (hm:X.mg x=some u) (h:Q u s)
  (hd:(x==("__debug__" : cb))=false :=by decide):wpAny (model X.prog X.w) X.A (eval (.Name x pos) X.env) Q E s:=
 Calls.Name_function_global I.ok.kind hg (Calls.loadGlobal_global (by rw [I.ok.glob];exact I.mod.glob.keeps I.bk) hm h) hd
theorem cU {E:am->ar->Prop} {pins:List (ag×lm)} {s:ar} {σ:St} {H:Hp} {x:cb} {u:am} {pos:u4} {Q:am->ar->Prop} (I:Inv X pins σ H s) (hg:Gl X x) (hm:X.mg x=none) (hv:bootBuiltins x=some u) (h:Q u s)
  (hn:x ≠ "__name__" := by decide) (hd:(x==("__debug__" : cb))=false :=by decide):wpAny (model X.prog X.w) X.A (eval (.Name x pos) X.env) Q E s :=by
 obtain ⟨mb,h1,h2⟩:=I.mod.blt
 exact Calls.Name_function_global I.ok.kind hg (Calls.loadGlobal_builtin (by rw [I.ok.glob];exact I.mod.glob.keeps I.bk) hm (by rw [I.ok.blt];exact h1.keeps I.bk) ((h2 x hn).trans hv) h) hd
theorem sN {x:cb} {v:V} {u:am} {pos:u4} (hg:Gl X x) (hm:X.mg x=some u) (r:RelV v u) (hd:(x==("__debug__" : cb))=false :=by decide):PE X (.Name x pos) (tC v):=⟨fun _ _ _ H _ I h=>kh I hg hm ⟨v,H,I,r,h⟩ hd⟩
theorem Bk {x:cb} {v:V} {u:am} {pos:u4} (hg:Gl X x) (hm:X.mg x=none) (hv:bootBuiltins x=some u) (r:RelV v u) (hn:x ≠ "__name__" := by decide) (hd:(x==("__debug__" : cb))=false :=by decide):PE X (.Name x pos) (tC v):=⟨fun _ _ _ H _ I h=>cU I hg hm hv ⟨v,H,I,r,h⟩ hn hd⟩
variable {a b:dL} {ta tb:TE} {pos:u4}
def PC (X:Cx) (op:Oy) (a b:dL) (t:TE):Prop:=
 ∀(pins:List (ag×lm)) (s:ar) (σ:St) (H:Hp) (Q:VK),Inv X pins σ H s->t σ H Q->
  wpAny (model X.prog X.w) X.A (eval a X.env) (fun v au=>wpAny (model X.prog X.w) X.A (eval b X.env) (fun u fS=>wpAny (model X.prog X.w) X.A (compareOp op v u) (EP X pins σ Q) X.xe fS) X.xe au) X.xe s
theorem yk (b:dL) {op:Oy} (h:op≠.In) (h2:op≠.NotIn):behindInMarks op b=false :=by
 have e1:(op==Oy.In)=false :=by cases op <;> first|rfl|exact absurd rfl h
 have e2:(op==Oy.NotIn)=false :=by cases op <;> first|rfl|exact absurd rfl h2
 cases b <;> simp [behindInMarks,e1,e2]
def tB (t:TE):TT:=fun σ H Q=>t σ H fun x H1=>∃c,x=.bl c/\Q c H1
theorem KG {op:Oy} {t:TE} (h:PC X op a b t) (h1:behindInMarks op b=false :=by first|exact yk _ (by decide) (by decide)|rfl):PT X (.Compare a [op] [b] pos) (tB t) :=by
 refine ⟨?_⟩
 intro pins s σ H Q I hw
 refine wpAny_isTrue_Compare1 (thn (h pins s σ H _ I hw) fun v s1 h1=>thn h1 fun u s2 h2=>thn h2 fun c s3 ⟨x,H1,I1,r1,q1⟩=>?_) h1
 obtain ⟨d,rfl,q⟩:=q1
 cases r1
 exact xL ⟨H1,I1,q⟩
theorem C9 {e:dL} {t:TE} (h:PE X e t) (he:∀whole,isTrue e X.env whole=(do let v <- whole;standAt e.pos;holding [v] (truthy v)) :=by intro _;rfl):PT X e (tB t) :=by
 refine ⟨?_⟩
 intro pins s σ H Q I hw
 refine isTrue_plain (thn (h pins s σ H _ I hw) fun v s1 ⟨x,H1,I1,r1,q1⟩=>?_) (he _)
 obtain ⟨d,rfl,q⟩:=q1
 cases r1
 exact xL ⟨H1,I1,q⟩
variable {tA vA:TT} {rest:List dL}
def KH (t u:TT):TT:=fun σ H Q=>t σ H fun c H1=>if c=true then Q true H1 else u σ H1 Q
def Jy (t:TT):TT:=fun σ H Q=>t σ H fun c H1=>Q (!c) H1
theorem Dc (ha:PT X a tA):PW X (.BoolOp .Or [a] pos) tA :=by
 intro wh pins s σ H Q I h
 refine isTrue_or (thn (ha pins s σ H Q I h) fun c s1 e=>?_)
 cases c with
 |false=>exact isTrue_or_nil e
 |true=>exact e
theorem GB (ha:PT X a tA) (hb:PW X (.BoolOp .Or (b::rest) pos) vA):PW X (.BoolOp .Or (a::b::rest) pos) (KH tA vA) :=by
 intro wh pins s σ H Q I h
 refine isTrue_or (thn (ha pins s σ H _ I h) fun c s1 ⟨H1,I1,q1⟩=>?_)
 cases c with
 |true=>exact ⟨H1,I1,q1⟩
 |false=>exact hb wh pins s1 σ H1 Q I1 q1
theorem Dd (ha:PT X a tA):PT X (.UnaryOp .Not a pos) (Jy tA) :=by
 refine ⟨?_⟩
 intro pins s σ H Q I h
 exact isTrue_not (ha pins s σ H (fun c H1=>Q (!c) H1) I h)
def GC (ta tb:TE):TE:=fun σ H Q=>ta σ H fun x H1=>∃c,x=.bl c/\if c=true then tb σ H1 Q else Q (.bl false) H1
def GD (ta:TE):TE:=fun σ H Q=>ta σ H fun x H1=>∃c,x=.bl c/\Q (.bl (!c)) H1
theorem De {op} {t:TE} (h:PE X a t):PE X (.BoolOp op [a] pos) t:=⟨fun pins s σ H Q I hw=>BoolOp_one (h pins s σ H Q I hw)⟩
theorem Dg (ha:PE X a ta) (hb:PE X (.BoolOp .And (b::rest) pos) tb):PE X (.BoolOp .And (a::b::rest) pos) (GC ta tb) :=by
 refine ⟨?_⟩
 intro pins s σ H Q I h
 refine BoolOp_and (thn (ha pins s σ H _ I h) fun v s1 ⟨x,H1,I1,r1,q1⟩=>?_)
 obtain ⟨c,rfl,q1⟩:=q1
 cases r1
 refine xL ?_
 cases c with
 |true=>exact hb pins s1 σ H1 Q I1 q1
 |false=>exact ⟨.bl false,H1,I1,rfl,q1⟩
theorem Dh (ha:PE X a ta):PE X (.UnaryOp .Not a pos) (GD ta) :=by
 refine ⟨?_⟩
 intro pins s σ H Q I h
 refine UnaryOp_ (thn (ha pins s σ H _ I h) fun v s1 ⟨x,H1,I1,r1,q1⟩=>?_)
 obtain ⟨c,rfl,q1⟩:=q1
 cases r1
 exact not_of (xL ⟨.bl (!c),H1,I1,rfl,q1⟩)
end
def bB (K:bi) (H:Hp) (a:ag) (xs:List V):Prop:=
 Rd H a (.lst xs) \/
  ∃(o:lm) (its:Array am) (n:Nat),K.lookup a=some o/\o.cls=.type "list" /\ o.dict=none/\o.data=.seq its n/\its.size<=sizeLine/\Vals xs its.toList
def bp (K:bi) (H:Hp) (a:ag) (xs:List V):Prop:=
 Rd H a (.tup xs) \/
  ∃(o:lm) (its:Array am) (n:Nat),K.lookup a=some o/\o.cls=.type "tuple" /\ o.data=.seq its n/\its.size<=sizeLine/\Vals xs its.toList
def Jz:am->Option V
 | .none=>some .aj
 | .bool b=>some (.bl b)
 | .int i _=>some (.int i)
 | .str x _=>some (.str x)
 | .bytes b _=>some (.gv b)
 | .float b _=>some (.sJ b)
 | .ref a=>some (.ref a)
 | .type n=>some (.ty n)
 |_=>none
theorem RelV.abs {x:V} {u:am} (r:RelV x u):Jz u=some x :=by
 cases x with
 |aj=>cases r;rfl
 |bl _=>cases r;rfl
 |int _=>obtain ⟨t,rfl⟩:=r;rfl
 |str _=>obtain ⟨t,rfl⟩:=r;rfl
 |gv _=>obtain ⟨t,rfl⟩:=r;rfl
 |sJ _=>obtain ⟨t,rfl⟩:=r;rfl
 |ref _=>cases r;rfl
 |ty _=>cases r;rfl
theorem RelV.inj {x y:V} {u:am} (r:RelV x u) (q:RelV y u):x=y:=i1 (r.abs.symm.trans q.abs)
theorem Vals.inj:∀{xs ys:List V} {us:List am},Vals xs us->Vals ys us->xs=ys
 |_,_,_,.nil,.nil=>rfl
 |_,_,_,.cons r t,.cons r' t'=>by rw [r.inj r',Vals.inj t t']
section
variable {X:Cx} {pins:List (ag×lm)} {σ:St} {H:Hp} {s:ar} {a:ag} {xs ys:List V}
theorem bB.of {K:bi} (h:H a=some (.lst xs)):bB K H a xs:=.inl (.inl h)
theorem bp.of {K:bi} (h:H a=some (.tup xs)):bp K H a xs:=.inl (.inl h)
theorem Inv.list (I:Inv X pins σ H s) (h:bB X.K H a xs):∃its:List am,Vals xs its/\PlainL s.heap a its.toArray/\xs.length<=sizeLine :=by
 rcases h with h|⟨o,its,n,hk,hc,hd,hs,hz,r⟩
 ·obtain ⟨z,its,n,r,e⟩:=h.ok I.hok
  exact ⟨its,r,⟨_,n,e,rfl,rfl,rfl⟩,z⟩
 ·refine ⟨its.toList,r,⟨o,n,I.dY a o hk,hc,hd,by simpa using hs⟩,?_⟩
  have e:=r.length
  simp only [i0] at e
  omega
theorem Inv.tuple (I:Inv X pins σ H s) (h:bp X.K H a xs):∃its:List am,Vals xs its/\P3 s.heap a its.toArray/\xs.length<=sizeLine :=by
 rcases h with h|⟨o,its,n,hk,hc,hs,hz,r⟩
 ·obtain ⟨z,its,r,p⟩:=h.ok I.hok
  exact ⟨its,r,fR.tup p,z⟩
 ·refine ⟨its.toList,r,⟨o,I.dY a o hk,hc,n,by simpa using hs⟩,?_⟩
  have e:=r.length
  simp only [i0] at e
  omega
theorem Inv.pM (I:Inv X pins σ H s) (h:bB X.K H a xs) (h':bB X.K H a ys):xs=ys :=by
 obtain ⟨its,r,⟨o,n,e,_,_,d⟩,_⟩:=I.list h
 obtain ⟨its',r',⟨o',n',e',_,_,d'⟩,_⟩:=I.list h'
 rw [e] at e';cases e'
 rw [d] at d'
 injection d' with d1 _
 have:its=its':=by simpa using congrArg Array.toList d1
 subst this
 exact r.inj r'
theorem Inv.ji (I:Inv X pins σ H s) (h:bp X.K H a xs) (h':bp X.K H a ys):xs=ys :=by
 obtain ⟨its,r,⟨o,e,_,n,d⟩,_⟩:=I.tuple h
 obtain ⟨its',r',⟨o',e',_,n',d'⟩,_⟩:=I.tuple h'
 rw [e] at e';cases e'
 rw [d] at d'
 injection d' with d1 _
 have:its=its':=by simpa using congrArg Array.toList d1
 subst this
 exact r.inj r'
end
abbrev Cx.gz (X:Cx) (E:am->ar->Prop):Cx:={X with xe:=E}
abbrev Cx.lU (X:Cx):Cx:=X.gz fun _ _=>False
theorem Cx.Ok.gz {X:Cx} (ok:X.Ok) (E:am->ar->Prop):(X.gz E).Ok:=
 ⟨ok.mod,ok.kind,ok.glob,ok.blt,ok.above,ok.inj,ok.has,ok.cab,ok.hd,ok.frames,ok.stk,ok.exf,ok.bs,ok.bsz,ok.noex,ok.exfs,ok.funs,ok.frf⟩
theorem Cx.Ok.e8 {X:Cx} {E:am->ar->Prop} (ok:(X.gz E).Ok):X.Ok:=
 ⟨ok.mod,ok.kind,ok.glob,ok.blt,ok.above,ok.inj,ok.has,ok.cab,ok.hd,ok.frames,ok.stk,ok.exf,ok.bs,ok.bsz,ok.noex,ok.exfs,ok.funs,ok.frf⟩
section
variable {X:Cx} {pins:List (ag×lm)} {σ:St} {H:Hp} {s:ar} {E:am->ar->Prop}
theorem Inv.gz (I:Inv X pins σ H s) (E:am->ar->Prop):Inv (X.gz E) pins σ H s:=⟨I.ok.gz E,I.os,I.bare,I.base,I.loc,I.cell,I.free,I.freeC,I.pin,I.hok,I.len⟩
theorem Inv.e8 (I:Inv (X.gz E) pins σ H s):Inv X pins σ H s:=⟨I.ok.e8,I.os,I.bare,I.base,I.loc,I.cell,I.free,I.freeC,I.pin,I.hok,I.len⟩
theorem SP.e8 {D:Ends} {f:Flow} {s':ar} (h:SP (X.gz E) pins D f s'):SP X pins D f s':=by
 cases f with
 |next=>obtain ⟨az,H',I,q⟩:=h;exact ⟨az,H',I.e8,q⟩
 |brk=>obtain ⟨az,H',I,q⟩:=h;exact ⟨az,H',I.e8,q⟩
 |cont=>obtain ⟨az,H',I,q⟩:=h;exact ⟨az,H',I.e8,q⟩
 |ret u=>obtain ⟨v,az,H',I,r,q⟩:=h;exact ⟨v,az,H',I.e8,r,q⟩
theorem dQ.lU {st:List r9} {t:TS} (h:dQ X.lU st t):dQ X st t:=⟨fun pins s σ H D I hw=>
 mf (h pins s σ H D (I.gz _) hw) (fun _ _ q=>q.e8) fun _ _ z=>ID z⟩
end
section
variable {X:Cx} {st:r9} {rest:List r9} {t u:TS} {e:dL} {te:TE} {pos:u4}
def GF:TS:=fun D σ H=>D.nx σ H
def JA (t u:TS):TS:=fun D σ H=>t {D with nx:=u D} σ H
theorem Bm:dQ X [] GF:=⟨fun _ _ σ H _ I h=>O1 ⟨σ,H,I,h⟩⟩
theorem yl (h1:PS X st t) (h2:dQ X rest u):dQ X (st::rest) (JA t u) :=by
 refine ⟨?_⟩
 intro pins s σ H D I h
 refine wpAny_execs_cons (thn (h1 pins s σ H {D with nx:=u D} I h) fun f s1 q=>?_)
 cases f with
 |next=>
  obtain ⟨az,H',I',q⟩:=q
  exact h2 pins s1 az H' D I' q
 |ret v=>exact q
 |brk=>exact q
 |cont=>exact q
theorem Bn (h1:PS X st t):dQ X [st] t :=by
 refine ⟨?_⟩
 intro pins s σ H D I h
 refine wpAny_execs_cons (thn (h1 pins s σ H D I h) fun f s1 q=>?_)
 cases f with
 |next=>exact O1 q
 |ret v=>exact q
 |brk=>exact q
 |cont=>exact q
theorem Inv.quiet {pins:List (ag×lm)} {σ:St} {H:Hp} {s:ar} (I:Inv X pins σ H s):interactive X.env=false :=by simp [interactive,I.ok.kind]
def GH (te:TE):TS:=fun D σ H=>te σ H fun _ H1=>D.nx σ H1
theorem Bo (he:PE X e te) (hs:swapsWith e none pos.line X.env=pure false :=by rfl):PS X (.Expr e pos) (GH te) :=by
 refine ⟨?_⟩
 intro pins s σ H D I h
 exact wpAny_Expr_any (thn (he pins s σ H _ I h) fun v s1 ⟨x,H1,I1,r1,q1⟩=>⟨σ,H1,I1,q1⟩) I.quiet hs
def JB (te:TE):TS:=fun D σ H=>te σ H D.rt
theorem Di (he:PE X e te):PS X (.Return (some e) pos) (JB te) :=by
 refine ⟨?_⟩
 intro pins s σ H D I h
 exact wpAny_Return_some (thn (he pins s σ H _ I h) fun v s1 ⟨x,H1,I1,r1,q1⟩=>⟨x,σ,H1,I1,r1,q1⟩)
def JC (c:TT) (t u:TS):TS:=fun D σ H=>c σ H fun b H1=>if b=true then t D σ H1 else u D σ H1
theorem GI {c:dL} {a b:List r9} {tc:TT} (hc:PT X c tc) (ha:dQ X a t) (hb:dQ X b u):PS X (.If c a b pos) (JC tc t u) :=by
 refine ⟨?_⟩
 intro pins s σ H D I h
 refine wpAny_If (thn (hc pins s σ H _ I h) fun d s1 ⟨H1,I1,q1⟩=>?_)
 cases d with
 |true=>exact ha pins s1 σ H1 D I1 q1
 |false=>exact hb pins s1 σ H1 D I1 q1
end
abbrev TG:=V->St->Hp->(St->Hp->Prop)->Prop
abbrev lV:=List V->St->Hp->(St->Hp->Prop)->Prop
def PG (X:Cx) (target:dL) (t:TG):Prop:=
 ∀(pins:List (ag×lm)) (s:ar) (σ:St) (H:Hp) (v:V) (u:am) (Q:St->Hp->Prop),Inv X pins σ H s->RelV v u->t v σ H Q->
  wpAny (model X.prog X.w) X.A (assign target X.env u) (fun _ s'=>∃az H',Inv X pins az H' s'/\Q az H') X.xe s
def nZ (X:Cx) (ts:List dL) (t:lV):Prop:=
 ∀(pins:List (ag×lm)) (s:ar) (σ:St) (H:Hp) (vs:List V) (us:List am) (Q:St->Hp->Prop),Inv X pins σ H s->Vals vs us->t vs σ H Q->
  wpAny (model X.prog X.w) X.A (assignInOrder ((assignEach ts X.env).map (·.2)) us) (fun _ s'=>∃az H',Inv X pins az H' s'/\Q az H') X.xe s
abbrev ym:=V->V->V->Hp->(Hp->Prop)->Prop
def Dj (X:Cx) (t:ym):Prop:=
 ∀(pins:List (ag×lm)) (s:ar) (σ:St) (H:Hp) (o i v:V) (ov iv u:am) (Q:Hp->Prop),Inv X pins σ H s->RelV o ov->RelV i iv->RelV v u->t o i v H Q->
  wpAny (model X.prog X.w) X.A (setItem ov iv u) (fun _ s'=>∃H',Inv X pins σ H' s'/\Q H') X.xe s
abbrev Dk:=V->V->Hp->VK->Prop
def HS (X:Cx) (op:Operator) (t:Dk):Prop:=
 ∀(pins:List (ag×lm)) (s:ar) (σ:St) (H:Hp) (x y:V) (v u:am) (Q:VK),Inv X pins σ H s->RelV x v->RelV y u->t x y H Q->
  wpAny (model X.prog X.w) X.A (inplaceOp op v u) (EP X pins σ Q) X.xe s
section
variable {X:Cx} {pos:u4}
def pv (i:Nat):TG:=fun v σ H Q=>Q (σ.set i (some v)) H
theorem Bp {i:Nat} {x:cb} (hN:X.N.Nodup) (hi:X.N[i]?=some x) (hx:Loc X.env.scope x) (hf:X.fn x=true\/X.env.scope.names.lookup x=some .local :=by first|exact .inl rfl|exact .inr rfl|assumption):PG X (.Name x pos) (pv i) :=by
 intro pins s σ H v u Q I r h
 exact wpAny_assign_Name (kY I hN hi hx r (fun s' I'=>⟨_,H,I',h⟩) hf)
def JD:lV:=fun vs σ H Q=>vs=[]/\Q σ H
def GJ (t:TG) (u:lV):lV:=fun vs σ H Q=>∃v r,vs=v::r/\t v σ H fun az H'=>u r az H' Q
theorem Bq:nZ X [] JD :=by
 intro pins s σ H vs us Q I r h
 obtain ⟨e,h⟩:=h
 subst e
 cases r
 exact assignInOrder_nil ⟨σ,H,I,h⟩
theorem yn {e:dL} {es:List dL} {t:TG} {u:lV} (h1:PG X e t) (h2:nZ X es u)
  (hs:(assignEach (e::es) X.env).map (·.2)=assign e X.env::(assignEach es X.env).map (·.2) :=by rfl):nZ X (e::es) (GJ t u) :=by
 intro pins s σ H vs us Q I r h
 obtain ⟨v,vr,e1,h⟩:=h
 subst e1
 cases r with
 |cons r rr=>
  rw [hs]
  refine assignInOrder_cons (thn (h1 pins s σ H _ _ _ I r h) fun _ s1 ⟨kJ,H1,I1,q1⟩=>?_)
  exact h2 pins s1 kJ H1 _ _ Q I1 rr q1
def JE (K:bi) (n:Nat) (t:lV):TG:=fun v σ H Q=>∃a xs,v=.ref a/\bp K H a xs/\xs.length=n/\t xs σ H Q
theorem Dl {es:List dL} {k:Nat} {t:lV} {n:Nat} (hc:X.calm=true) (h:nZ X es t)
  (hn:(assignEach es X.env).length=n :=by rfl) (ig:(assignEach es X.env).findIdx? (·.1)=none :=by rfl):PG X (.Tuple es k pos) (JE X.K n t) :=by
 intro pins s σ H v u Q I r hw
 obtain ⟨a,xs,e1,hq,hl,hw⟩:=hw
 subst e1
 cases r
 obtain ⟨its,rv,ht,hz⟩:=I.tuple hq
 refine assign_Tuple_tuple (I.ok.hd hc) ht (by simp [hn,<- hl,rv.length]) ig fun h' hx=>?_
 have I1:Inv X pins σ H {s with heap:=h'}:=I.kept (t':=s.toks) fun b o e=>hx b o (l6 (gc e)) e
 exact h pins _ σ H xs _ Q I1 (by simpa using rv) hw
def JF (to ti:TE) (t:ym):TG:=fun v σ H Q=>to σ H fun o H1=>ti σ H1 fun i H2=>t o i v H2 fun H3=>Q σ H3
theorem Dm {o i:dL} {to ti:TE} {t:ym} (ho:PE X o to) (hi:PE X i ti) (hs:Dj X t)
  (ha:∀v,assign (.Subscript o i pos) X.env v=(do
   let ov <- holding [v] (eval o X.env)
   let iv <- holding [v,ov] (eval i X.env)
   standAt pos
   holding [v,ov,iv] (setItem ov iv v)
   release [v,ov,iv] []) :=by intro _;rfl):PG X (.Subscript o i pos) (JF to ti t) :=by
 intro pins s σ H v u Q I r h
 rw [ha]
 refine ac (wl (thn (ho pins s σ H _ I h) fun ov s1 ⟨x,H1,I1,r1,q1⟩=>?_))
 refine ac (wl (thn (hi pins s1 σ H1 _ I1 q1) fun iv s2 ⟨y,H2,I2,r2,q2⟩=>?_))
 refine ac (EO (ac (wl (thn (hs pins s2 σ H2 x y v ov iv u _ I2 r1 r2 r q2) fun _ s3 ⟨H3,I3,q3⟩=>?_))))
 exact wpAny_release ⟨σ,H3,I3,q3⟩
def pN (te:TE) (g:TG):TS:=fun D σ H=>te σ H fun x H1=>g x σ H1 D.nx
theorem Dn {tg e:dL} {te:TE} {g:TG} (he:PE X e te) (hg:PG X tg g) (hs:swapsWithSole [tg] e pos.line X.env=pure false :=by rfl) (hw:swappedStores [tg] e X.env=pure none :=by rfl)
  (h1:(assignEach [tg] X.env).map (·.2)=[assign tg X.env] :=by rfl):PS X (.Assign [tg] e pos) (pN te g) :=by
 refine ⟨?_⟩
 intro pins s σ H D I h
 refine wpAny_Assign_stores (thn (he pins s σ H _ I h) fun v s1 ⟨x,H1,I1,r1,q1⟩=>?_) hs hw
 rw [h1]
 exact thn (hg pins s1 σ H1 x v _ I1 r1 q1) fun _ s2 q=>q
theorem Dp {i:Nat} {x:cb} {e:dL} {te:TE} {pos':u4} (hN:X.N.Nodup) (hi:X.N[i]?=some x) (hx:Loc X.env.scope x) (he:PE X e te) (hs:swapsWith e (some (.Name x pos')) pos.line X.env=pure false :=by rfl) (hf:X.fn x=true\/X.env.scope.names.lookup x=some .local :=by first|exact .inl rfl|exact .inr rfl|assumption) :
  PS X (.Assign [.Name x pos'] e pos) (pN te (pv i)) :=by
 refine ⟨?_⟩
 intro pins s σ H D I h
 refine wpAny_Assign_Name (thn (he pins s σ H _ I h) fun v s1 ⟨y,H1,I1,r1,q1⟩=>?_) hs
 exact kY I1 hN hi hx r1 (fun s2 I2=>⟨_,H1,I2,q1⟩) hf
def JG (i:Nat) (te:TE) (ti:Dk):TS:=fun D σ H=>∃x,σ[i]?=some (some x)/\te σ H fun y H1=>ti x y H1 fun z H2=>D.nx (σ.set i (some z)) H2
theorem Dq {i:Nat} {x:cb} {e:dL} {te:TE} {op:Operator} {ti:Dk} {pos':u4} (hN:X.N.Nodup) (hi:X.N[i]?=some x) (hx:Loc X.env.scope x) (he:PE X e te) (ho:HS X op ti) (hf:X.fn x=true\/X.env.scope.names.lookup x=some .local :=by first|exact .inl rfl|exact .inr rfl|assumption) :
  PS X (.AugAssign (.Name x pos') op e pos) (JG i te ti) :=by
 refine ⟨?_⟩
 intro pins s σ H D I h
 obtain ⟨v,e1,h⟩:=h
 obtain ⟨m,hn,hl⟩:=I.loc
 have KI:pJ X.env.scope x :=by rcases hx with k|k;exact .inl k;exact .inr (.inl k)
 obtain ⟨u,r,l⟩:=hl i x v hi e1 KI
 refine wpAny_AugAssign_Name ?_
 have go:wpAny (model X.prog X.w) X.A (eval e X.env) (fun w fS=>wpAny (model X.prog X.w) X.A (inplaceOp op u w) (fun r kZ=>wpAny (model X.prog X.w) X.A (storeName X.env x r) (fun _=>SP X pins D .next) X.xe kZ) X.xe fS) X.xe s :=by
  refine thn (he pins s σ H _ I h) fun w s1 ⟨y,H1,I1,r1,q1⟩=>?_
  refine thn (ho pins s1 σ H1 v y u w _ I1 r r1 q1) fun z s2 ⟨zv,H2,I2,r2,q2⟩=>?_
  exact kY I2 hN hi hx r2 (fun s3 I3=>⟨_,H2,I3,q2⟩) hf
 rcases l with ⟨hk,hm⟩|⟨hk,c,hc,kg⟩
 ·exact wpAny_loadName_local I.ok.kind hk hn hm go
 ·rcases hk with hk|hk
  ·exact wpAny_loadName_cell I.ok.kind hk hc kg go
  ·rcases hx with k|k
   ·have:X.env.scope.names.lookup x=some .free:=hk
    rw [k] at this;cases this
   ·have:X.env.scope.names.lookup x=some .free:=hk
    rw [k] at this;cases this
end
section
variable {X:Cx} {pos:u4}
def vB (c:TT) (tb:TS):TS:=fun D σ H=>∃W:Nat->St->Hp->Prop,(∃m,W m σ H)/\∀m σ H,W m σ H->
 c σ H fun b H1=>if b=true then ∃N:St->Hp->Prop,(∀az H',N az H'->∃m',m'<m/\W m' az H')/\tb {D with nx:=N,ct:=N,bk:=D.nx} σ H1 else D.nx σ H1
theorem yo {c:dL} {body:List r9} {tc:TT} {tb:TS} (hp:P5 (model X.prog X.w) X.A X.env X.xe) (hc:PT X c tc) (hb:dQ X body tb):PS X (.While c body [] pos) (vB tc tb) :=by
 refine ⟨?_⟩
 intro pins s σ H D I h
 obtain ⟨W,⟨m0,w0⟩,turn⟩:=h
 refine wpAny_While (codeAny_whileLoop (fun n s'=>∃az H',Inv X pins az H' s'/\W n az H') ?_ m0 ⟨σ,H,I,w0⟩)
 rintro n s1 ⟨kJ,H1,I1,w1⟩
 refine IT hp (thn (hc pins s1 kJ H1 _ I1 (turn n kJ H1 w1)) fun b s2 ⟨H2,I2,q2⟩=>?_)
 cases b with
 |true=>
  obtain ⟨N,hN,q2⟩:=q2
  rw [if_pos rfl]
  refine IT hp (thn (hb pins s2 kJ H2 _ I2 q2) fun f s3 q3=>?_)
  cases f with
  |next=>
   obtain ⟨iX,H3,I3,n3⟩:=q3
   obtain ⟨m',hm,w3⟩:=hN iX H3 n3
   exact ⟨m',hm,iX,H3,I3,w3⟩
  |cont=>
   obtain ⟨iX,H3,I3,n3⟩:=q3
   obtain ⟨m',hm,w3⟩:=hN iX H3 n3
   exact ⟨m',hm,iX,H3,I3,w3⟩
  |brk=>exact q3
  |ret v=>exact q3
 |false=>
  rw [if_neg f8]
  exact O1 ⟨kJ,H2,I2,q2⟩
end
structure It where
 go:Nat->Hp->Prop
 yld:Nat->Hp->V->Hp->Prop
 stop:Nat->Hp->Prop
def cH (X:Cx) (pins:List (ag×lm)) (H:Hp) (b:ag):Prop:=
 H b=none/\b≠X.env.locals/\b ∉ X.fs/\(b∈X.ex\/X.s₀.heap.objs.size<=b)/\(∀x c,X.env.cells.lookup x=some c->c≠b)/\∀p∈X.pn++pins,p.1≠b
theorem Inv.jj {X:Cx} {pins:List (ag×lm)} {σ:St} {H H':Hp} {s:ar} {b:ag} (I:Inv X pins σ H s) (hb:s.heap.objs.size<=b) (hn:H' b=none):cH X pins H' b :=by
 refine ⟨hn,Mn (l5 I.lt hb),I.C1 hb,.inr (sB I.sz hb),fun x c e z=>?_,fun p hp z=>?_⟩
 ·obtain ⟨v,q⟩:=I.cell x c e
  exact absurd (l5 q.lt (by rw [z];exact hb)) (KM _)
 ·exact absurd (l5 (gc (I.pin p hp).1) (by rw [z];exact hb)) (KM _)
structure Turn (P:gl) (w:ii) (K:bi) (tg:dL) (J:It) (fp:List ag) (it:ag) (tn:Nat->ij->Prop):Prop where
 mem:it∈fp
 obj:∀i h,tn i h->∀b∈fp,∃o,h.get? b=some o/\∀v,o.data≠.cell v
 keep:∀i h h',tn i h->(∀b∈fp,∀o,h.get? b=some o->h'.get? b=some o)->tn i h'
 item:∀(X:Cx),X.prog=P->X.w=w->X.K=K->X.calm=true->∀(i:Nat) (pins:List (ag×lm)) (s:ar) (σ:St) (H:Hp) (E:am->ar->Prop),Inv X pins σ H s->(∀b∈fp,cH X pins H b)->tn i s.heap->J.go i H->
  wpAny (model P w) X.A (pyNext (.ref it)) (fun r s1=>∃u,r=some u /\
   wpAny (model P w) X.A (letOwnedTupleGo tg (.ref it) u) (fun _ s2=>∃x H',Inv X pins σ H' s2/\RelV x u/\J.yld i H x H'/\tn (i+1) s2.heap/\∀b∈fp,H' b=none) E s1) E s
 done:∀(X:Cx),X.prog=P->X.w=w->X.K=K->X.calm=true->∀(i:Nat) (pins:List (ag×lm)) (s:ar) (σ:St) (H:Hp) (E:am->ar->Prop),Inv X pins σ H s->(∀b∈fp,cH X pins H b)->tn i s.heap->J.stop i H->
  wpAny (model P w) X.A (pyNext (.ref it)) (fun r s1=>r=none/\Inv X pins σ H s1) E s
 self:∀(A:l7) (i:Nat) (s:ar) (Q:am->ar->Prop) (E:am->ar->Prop),tn i s.heap->Q (.ref it) s->wpAny (model P w) A (pyIter (.ref it)) Q E s
abbrev TI:=St->Hp->(It->Hp->Prop)->Prop
def HU (X:Cx) (pins:List (ag×lm)) (σ:St) (tg:dL) (R:It->Hp->Prop) (vC:am) (s2:ar):Prop:=
 ∃(it:ag) (fp:List ag) (tn:Nat->ij->Prop) (J:It) (H':Hp),vC=.ref it/\Inv X pins σ H' s2/\Turn X.prog X.w X.K tg J fp it tn/\tn 0 s2.heap/\(∀b∈fp,cH X pins H' b)/\R J H'
def PI (X:Cx) (tg iter:dL) (wi:TI):Prop:=
 ∀(pins:List (ag×lm)) (s:ar) (σ:St) (H:Hp) (R:It->Hp->Prop),Inv X pins σ H s->wi σ H R->
  wpAny (model X.prog X.w) X.A (eval iter X.env) (fun v s1=>wpAny (model X.prog X.w) X.A (pyIter v) (HU X pins σ tg R) X.xe s1) X.xe s
theorem pw {M:Model} {A:l7} {E:am->ar->Prop} {s:ar} {tg:dL} {it:ag} {u:am} {o:lm} {n:String} {vs:Array am} {Q:Unit->ar->Prop} (ho:s.heap.get? it=some o) (hc:o.cls=.type n) (hd:o.data=.fields vs)
  (hn:["enumerate","zip","dict_itemiterator","dict_reverseitemiterator","odict_iterator","itertools.zip_longest","itertools.pairwise"].contains n=false) (hQ:Q () s):wpAny M A (letOwnedTupleGo tg (.ref it) u) Q E s :=by
 unfold letOwnedTupleGo
 cases tg <;> first
  |exact ba hQ
  |(cases u <;> first
    |exact ba hQ
    |(refine ac (wpAny_load ho ?_)
      rw [hc,hd]
      show wpAny M A (if (["enumerate","zip","dict_itemiterator","dict_reverseitemiterator","odict_iterator","itertools.zip_longest","itertools.pairwise"].contains n && vs[0]?==some (rawInt _))=true then _ else _) Q E s
      rw [if_neg (by intro h;rw [hn,Oz] at h;cases h)]
      exact ba hQ))
def Dr (K:bi) (a:ag):It:=
 ⟨fun i H=>∃xs x,bB K H a xs/\xs[i]?=some x,fun i H x H'=>H'=H/\∀xs,bB K H a xs->xs[i]?=some x,fun i H=>∃xs,bB K H a xs/\xs.length<=i⟩
def Du (K:bi) (a:ag):It:=
 ⟨fun i H=>∃xs x,bp K H a xs/\xs[i]?=some x,fun i H x H'=>H'=H/\∀xs,bp K H a xs->xs[i]?=some x,fun i H=>∃xs,bp K H a xs/\xs.length<=i⟩
def z6 (lo:Int) (n:Nat):It:=⟨fun i _=>i<n,fun i H x H'=>H'=H/\x=.int (lo+i),fun i _=>n<=i⟩
theorem vD {P:gl} {w:ii} {K:bi} {tg:dL} (a it:ag):Turn P w K tg (Dr K a) [it] it (fun i h=>h.IsListIter it a i) where
 mem :=by simp
 obj:=fun i h st b hb=>by
  have e:b=it :=by simpa using hb
  subst e
  obtain ⟨o,e,c,d⟩:=st
  exact ⟨o,e,fun v z=>by rw [d] at z;cases z⟩
 keep:=fun i h h' st k=>st.at fun o e=>k it (by simp) o e
 item :=by
  intro X hP hw hK hc i pins s σ H E I hf st hg
  subst hP hw hK
  obtain ⟨xs,x,hq,hx⟩:=hg
  obtain ⟨its,rv,p,hz⟩:=I.list hq
  obtain ⟨u,hu,ru⟩:=rv.get hx
  obtain ⟨f0,f1,f2,f3,f4,f5⟩:=hf it (by simp)
  refine wpAny_pyNext_list_item st p.isList (x:=u) (by simpa using hu) fun h' fX sb=>?_
  have I1:Inv X pins σ H {s with heap:=h'}:=I.turned (t':=s.toks) (fun b o hb e=>(sb.2 b hb).trans e) f0 f1 f3 f4 f5
  obtain ⟨o,e,c,d⟩:=id fX
  exact ⟨u,rfl,pw (s:={s with heap:=h'}) e c d (by decide) ⟨x,H,I1,ru,⟨rfl,fun ys hy=>by rw [I.pM hy hq];exact hx⟩,fX,fun b hb=>(hf b hb).1⟩⟩
 done :=by
  intro X hP hw hK hc i pins s σ H E I hf st hg
  subst hP hw hK
  obtain ⟨xs,hq,hx⟩:=hg
  obtain ⟨its,rv,p,hz⟩:=I.list hq
  obtain ⟨f0,f1,f2,f3,f4,f5⟩:=hf it (by simp)
  have hl:=rv.length
  exact wpAny_pyNext_list_end (I.ok.hd hc) st p.isList (by simp;omega) fun h' eb=>⟨rfl,I.turned (t':=s.toks) (fun b o hb e=>eb b o hb e) f0 f1 f3 f4 f5⟩
 self:=fun _ _ _ _ _ st h=>wpAny_pyIter_listiter st h
theorem ue {P:gl} {w:ii} {K:bi} {tg:dL} (a it:ag):Turn P w K tg (Du K a) [it] it (fun i h=>h.IsTupleIter it a i) where
 mem :=by simp
 obj:=fun i h st b hb=>by
  have e:b=it :=by simpa using hb
  subst e
  obtain ⟨o,e,c,d⟩:=st
  exact ⟨o,e,fun v z=>by rw [d] at z;cases z⟩
 keep:=fun i h h' st k=>st.at fun o e=>k it (by simp) o e
 item :=by
  intro X hP hw hK hc i pins s σ H E I hf st hg
  subst hP hw hK
  obtain ⟨xs,x,hq,hx⟩:=hg
  obtain ⟨its,rv,p,hz⟩:=I.tuple hq
  obtain ⟨u,hu,ru⟩:=rv.get hx
  obtain ⟨f0,f1,f2,f3,f4,f5⟩:=hf it (by simp)
  refine wpAny_pyNext_tuple_item st (show s.heap.IsTuple a its.toArray from p) (x:=u) (by simpa using hu) fun h' fX sb=>?_
  have I1:Inv X pins σ H {s with heap:=h'}:=I.turned (t':=s.toks) (fun b o hb e=>(sb.2 b hb).trans e) f0 f1 f3 f4 f5
  obtain ⟨o,e,c,d⟩:=id fX
  exact ⟨u,rfl,pw (s:={s with heap:=h'}) e c d (by decide) ⟨x,H,I1,ru,⟨rfl,fun ys hy=>by rw [I.ji hy hq];exact hx⟩,fX,fun b hb=>(hf b hb).1⟩⟩
 done :=by
  intro X hP hw hK hc i pins s σ H E I hf st hg
  subst hP hw hK
  obtain ⟨xs,hq,hx⟩:=hg
  obtain ⟨its,rv,p,hz⟩:=I.tuple hq
  obtain ⟨f0,f1,f2,f3,f4,f5⟩:=hf it (by simp)
  have hl:=rv.length
  exact wpAny_pyNext_tuple_end (I.ok.hd hc) st (show s.heap.IsTuple a its.toArray from p) (by simp;omega) fun h' eb=>⟨rfl,I.turned (t':=s.toks) (fun b o hb e=>eb b o hb e) f0 f1 f3 f4 f5⟩
 self:=fun _ _ _ _ _ st h=>wpAny_pyIter_tupleiter st h
theorem uf {P:gl} {w:ii} {K:bi} {tg:dL} (it:ag) (lo:Int) (n:Nat):Turn P w K tg (z6 lo n) [it] it (fun i h=>IsRangeIter h it (lo+(i:Nat) * 1) ((n:Int) - (i:Nat)) 1) where
 mem :=by simp
 obj:=fun i h st b hb=>by
  have e:b=it :=by simpa using hb
  subst e
  exact ⟨_,st,fun v z=>by
   have z':Data.fields _=Data.cell v:=z
   cases z'⟩
 keep:=fun i h h' st k=>k it (by simp) _ st
 item :=by
  intro X hP hw hK hc i pins s σ H E I hf st hg
  subst hP hw hK
  obtain ⟨f0,f1,f2,f3,f4,f5⟩:=hf it (by simp)
  have W:=Walks.range (prog:=X.prog) (w:=X.w) (I.ok.hd hc) it lo 1 n
  refine W.item i s _ _ hg st fun v h' tk hv fX kk=>?_
  obtain ⟨t,rfl⟩:=hv
  have I1:Inv X pins σ H {s with heap:=h',toks:=tk}:=I.turned (fun b o hb e=>kk b o (by simpa using hb) e) f0 f1 f3 f4 f5
  refine ⟨_,rfl,pw (s:={s with heap:=h',toks:=tk}) (n := "range_iterator") fX rfl rfl (by decide) ⟨.int (lo+i),H,I1,⟨t,?_⟩,⟨rfl,rfl⟩,fX,fun b hb=>(hf b hb).1⟩⟩
  rw [Int.mul_one]
 done :=by
  intro X hP hw hK hc i pins s σ H E I hf st hg
  subst hP hw hK
  obtain ⟨f0,f1,f2,f3,f4,f5⟩:=hf it (by simp)
  exact wpAny_pyNext_range_end (I.ok.hd hc) st (by have:n<=i:=hg;omega) fun h' eb=>⟨rfl,I.turned (t':=s.toks) (fun b o hb e=>eb b o hb e) f0 f1 f3 f4 f5⟩
 self:=fun _ _ _ _ _ st h=>wpAny_pyIter_rangeiter st h
section
variable {X:Cx} {tg:dL}
def z7 (K:bi) (tl:TE):TI:=fun σ H R=>tl σ H fun x H1=>∃a,x=.ref a/\(∃xs,bB K H1 a xs)/\R (Dr K a) H1
def Dw (K:bi) (tl:TE):TI:=fun σ H R=>tl σ H fun x H1=>∃a,x=.ref a/\(∃xs,bp K H1 a xs)/\R (Du K a) H1
theorem Br {l:dL} {tl:TE} (hl:PE X l tl):PI X tg l (z7 X.K tl) :=by
 intro pins s σ H R I h
 refine thn (hl pins s σ H _ I h) fun v s1 ⟨x,H1,I1,r1,q1⟩=>?_
 obtain ⟨a,e,⟨xs,hq⟩,q⟩:=q1
 subst e
 cases r1
 obtain ⟨its,rv,p,hz⟩:=I1.list hq
 refine wpAny_pyIter_list p.isList ?_
 refine ⟨s1.heap.objs.size,[s1.heap.objs.size],_,_,H1,rfl,I1.kept (t':=s1.toks) fun b o e=>bn _ e,vD a _,⟨_,hX _ rfl,rfl,rfl⟩,fun b hb=>?_,q⟩
 have e:b=s1.heap.objs.size :=by simpa using hb
 subst e
 exact I1.jj (br _) (I1.hok.fresh (br _))
theorem Dx {l:dL} {tl:TE} (hl:PE X l tl):PI X tg l (Dw X.K tl) :=by
 intro pins s σ H R I h
 refine thn (hl pins s σ H _ I h) fun v s1 ⟨x,H1,I1,r1,q1⟩=>?_
 obtain ⟨a,e,⟨xs,hq⟩,q⟩:=q1
 subst e
 cases r1
 obtain ⟨its,rv,p,hz⟩:=I1.tuple hq
 refine Ps (show s1.heap.IsTuple a its.toArray from p) ?_
 refine ⟨s1.heap.objs.size,[s1.heap.objs.size],_,_,H1,rfl,I1.kept (t':=s1.toks) fun b o e=>bn _ e,ue a _,⟨_,hX _ rfl,rfl,rfl⟩,fun b hb=>?_,q⟩
 have e:b=s1.heap.objs.size :=by simpa using hb
 subst e
 exact I1.jj (br _) (I1.hok.fresh (br _))
theorem yp {pins:List (ag×lm)} {σ:St} {H:Hp} {s:ar} {R:It->Hp->Prop} {E:am->ar->Prop} {lo hi:Int} {t u v:Tok} {tk:Nat} (I:Inv X pins σ H s) (h1 : -(2 ^ 62)<=lo) (h2:lo<2 ^ 62) (h3 : -(2 ^ 62)<=hi) (h4:hi<2 ^ 62)
  (q:R (z6 lo (hi - lo).toNat) H):wpAny (model X.prog X.w) X.A (pyIter (.ref s.heap.objs.size)) (HU X pins σ tg R) E {s with heap:=s.heap.push {cls:=.type "range",data:=.fields #[.int lo t,.int hi u,.int 1 v]},toks:=tk}:=by
 refine wpAny_pyIter_range (IsRange.new ..) (small_one h1 h2 h3 h4) ?_
 have I1:Inv X pins σ H {s with heap:=s.heap.push {cls:=.type "range",data:=.fields #[.int lo t,.int hi u,.int 1 v]},toks:=tk}:=I.kept fun b o e=>bn _ e
 refine ⟨(s.heap.push {cls:=.type "range",data:=.fields #[.int lo t,.int hi u,.int 1 v]}).objs.size,[(s.heap.push {cls:=.type "range",data:=.fields #[.int lo t,.int hi u,.int 1 v]}).objs.size],_,_,H,rfl,
  I1.kept (t':=tk) fun b o e=>bn _ e,uf _ lo (hi - lo).toNat,?_,fun b hb=>?_,q⟩
 ·have e1:lo+((0:Nat):Int) * 1=lo :=by simp
  have e2:(((hi - lo).toNat:Nat):Int) - ((0:Nat):Int)=ma.Range.rangeSize lo hi 1 :=by rw [rangeSize_one];split <;> omega
  show IsRangeIter _ _ (lo+((0:Nat):Int) * 1) ((((hi - lo).toNat:Nat):Int) - ((0:Nat):Int)) 1
  rw [e1,e2]
  exact hX _ rfl
 ·have e:b=(s.heap.push {cls:=.type "range",data:=.fields #[.int lo t,.int hi u,.int 1 v]}).objs.size :=by simpa using hb
  subst e
  exact I1.jj (br _) (I1.hok.fresh (br _))
def z8 (ta:TA):TI:=fun σ H R=>ta σ H fun vs H1=>∃j:Int,vs=[.int j] /\ -(2 ^ 62)<=j/\j<2 ^ 62/\R (z6 0 j.toNat) H1
theorem vE {a:dL} {ta:TA} {p pos:u4} (hg:Gl X "range") (hm:X.mg "range" = none) (ha:PA X [a] ta) (hs:starEach [a] X.env=[(false,eval a X.env)] :=by rfl):PI X tg (.Call (.Name "range" p) [a] [] pos) (z8 ta) :=by
 intro pins s σ H R I h
 refine Call_ (cU I hg hm boot_range (u8 (thn (ha pos pins s σ H _ I h) fun us s1 ⟨vs,H1,I1,r1,q1⟩=>?_) hs rfl))
 obtain ⟨j,e,q1,q2,q⟩:=q1
 subst e
 cases r1 with
 |cons r rr=>
  cases rr
  obtain ⟨t,rfl⟩:=r
  exact call_range_1 (yp I1 (by omega) (by omega) q1 q2 (by simpa using q))
def Dy (wi:TI) (g:TG) (tb:TS):TS:=fun D σ H=>wi σ H fun J H1=>∃W:Nat->Nat->St->Hp->Prop,(∃m,W 0 m σ H1)/\∀i m σ H,W i m σ H->
 (J.stop i H/\D.nx σ H)\/(J.go i H/\∃N:St->Hp->Prop,(∀az H',N az H'->∃m',m'<m/\W (i+1) m' az H')/\∀x H',J.yld i H x H'->g x σ H' fun fL H2=>tb {D with nx:=N,ct:=N,bk:=D.nx} fL H2)
def ik (fp:List ag) (h:ij):List (ag×lm):=fp.filterMap fun b=>(h.get? b).map fun o=>(b,o)
theorem dz {fp:List ag} {h:ij} {b:ag} {o:lm} (hb:b∈fp) (e:h.get? b=some o):(b,o)∈ik fp h:=Os.mpr ⟨b,hb,by rw [e];rfl⟩
theorem vF {fp:List ag} {h:ij} {p:ag×lm} (hp:p∈ik fp h):p.1∈fp/\h.get? p.1=some p.2 :=by
 obtain ⟨b,hb,e⟩:=Os.mp hp
 cases q:h.get? b with
 |none=>rw [q] at e;cases e
 |some o=>
  rw [q] at e
  have e':(b,o)=p:=i1 e
  subst e'
  exact ⟨hb,q⟩
theorem Inv.pinned {pins:List (ag×lm)} {σ:St} {H:Hp} {s:ar} {fp:List ag} (I:Inv X pins σ H s) (hf:∀b∈fp,cH X pins H b) (ho:∀b∈fp,∃o,s.heap.get? b=some o/\∀v,o.data≠.cell v):Inv X (pins++ik fp s.heap) σ H s:=
 I.m5 fun p hp=>(wT.mp hp).elim (fun z=>I.pin p (lf _ z)) fun z=>by
  obtain ⟨hb,e⟩:=vF z
  obtain ⟨f0,f1,f2,_⟩:=hf p.1 hb
  obtain ⟨o,e',d⟩:=ho p.1 hb
  rw [e] at e';cases e'
  exact ⟨e,f0,f1,f2,d⟩
theorem Inv.eH {pins pl:List (ag×lm)} {σ:St} {H:Hp} {s:ar} (I:Inv X (pins++pl) σ H s):Inv X pins σ H s:=I.m5 fun p hp=>I.pin p (lf _ (Cn _ hp))
theorem Dz {iter:dL} {body:List r9} {wi:TI} {g:TG} {tb:TS} {pos:u4} (hp:P5 (model X.prog X.w) X.A X.env X.xe) (hc:X.calm=true) (hi:PI X tg iter wi) (hg:PG X tg g) (hb:dQ X body tb)
  (hs:∀x,foldedSetIterable iter X.env x=pure x :=by intro _;rfl):PS X (.For tg iter body [] pos) (Dy wi g tb) :=by
 refine ⟨?_⟩
 intro pins s σ H D I h
 refine wpAny_For (thn (hi pins s σ H _ I h) fun v s1 h1=>thn h1 fun vC s2 h2=>?_) hs
 obtain ⟨it,fp,tn,J,H2,e,I2,T,pO,f2,W,⟨m0,w0⟩,turn⟩:=h2
 subst e
 have stat:∀{H':Hp},(∀b∈fp,H' b=none)->∀b∈fp,cH X pins H' b:=fun hn b hb=>⟨hn b hb,(f2 b hb).2⟩
 refine codeAny_forLoop_any (fun n s'=>∃i az H',Inv X pins az H' s'/\tn i s'.heap/\(∀b∈fp,H' b=none)/\W i n az H') ?_ m0 ⟨0,σ,H2,I2,pO,fun b hb=>(f2 b hb).1,w0⟩
 rintro n s3 ⟨i,iX,H3,I3,n5,vG,w3⟩
 rcases turn i n iX H3 w3 with ⟨stop,qn⟩|⟨go,N,hN,step⟩
 ·refine IT hp (thn (T.done X rfl rfl rfl hc i pins s3 iX H3 X.xe I3 (stat vG) n5 stop) fun r s4 ⟨hr,I4⟩=>?_)
  subst hr
  exact O1 ⟨iX,H3,I4,qn⟩
 ·refine IT hp (thn (T.item X rfl rfl rfl hc i pins s3 iX H3 X.xe I3 (stat vG) n5 go) fun r s4 ⟨u,hr,h4⟩=>?_)
  subst hr
  refine IT hp (thn h4 fun _ s5 ⟨x,H5,I5,r5,y5,jk,vH⟩=>?_)
  have vI:=I5.pinned (stat vH) (T.obj _ _ jk)
  refine IT hp (thn (hg _ s5 iX H5 x u _ vI r5 (step x H5 y5)) fun _ s6 ⟨KJ,H6,I6,q6⟩=>?_)
  refine IT hp (thn (hb _ s6 KJ H6 _ I6 q6) fun f s7 q7=>?_)
  have again:∀{jl:St} {H7:Hp},Inv X (pins++ik fp s5.heap) jl H7 s7->N jl H7->∃m,m<n/\∃i az H',Inv X pins az H' s7/\tn i s7.heap/\(∀b∈fp,H' b=none)/\W i m az H':=fun {jl H7} I7 n7=>by
   obtain ⟨m',hm,w7⟩:=hN jl H7 n7
   refine ⟨m',hm,i+1,jl,H7,I7.eH,T.keep _ _ _ jk fun b hb o e=>(I7.pin (b,o) (lf _ (lf _ (dz hb e)))).1,fun b hb=>?_,w7⟩
   obtain ⟨o,e,d⟩:=T.obj _ _ jk b hb
   exact (I7.pin (b,o) (lf _ (lf _ (dz hb e)))).2.1
  cases f with
  |next=>obtain ⟨jl,H7,I7,n7⟩:=q7;exact again I7 n7
  |cont=>obtain ⟨jl,H7,I7,n7⟩:=q7;exact again I7 n7
  |brk=>obtain ⟨jl,H7,I7,q7⟩:=q7;exact ⟨jl,H7,I7.eH,q7⟩
  |ret v=>obtain ⟨x7,jl,H7,I7,r7,q7⟩:=q7;exact ⟨x7,jl,H7,I7.eH,r7,q7⟩
end
abbrev R2:=V->V->Hp->VK->Prop
def OpR (X:Cx) (f:am->am->Oi am) (r:R2):Prop:=
 ∀(pins:List (ag×lm)) (s:ar) (σ:St) (H:Hp) (x y:V) (v u:am) (Q:VK),Inv X pins σ H s->RelV x v->RelV y u->r x y H Q->
  wpAny (model X.prog X.w) X.A (f v u) (EP X pins σ Q) X.xe s
def UnR (X:Cx) (f:am->Oi am) (r:V->Hp->VK->Prop):Prop:=
 ∀(pins:List (ag×lm)) (s:ar) (σ:St) (H:Hp) (x:V) (v:am) (Q:VK),Inv X pins σ H s->RelV x v->r x H Q->
  wpAny (model X.prog X.w) X.A (f v) (EP X pins σ Q) X.xe s
def cm (X:Cx) (f:am) (r:List V->Hp->VK->Prop):Prop:=
 ∀(pins:List (ag×lm)) (s:ar) (σ:St) (H:Hp) (xs:List V) (us:List am) (Q:VK),Inv X pins σ H s->Vals xs us->r xs H Q->
  wpAny (model X.prog X.w) X.A (call f us) (EP X pins σ Q) X.xe s
def JH (X:Cx) (r:V->Hp->(Bool->Hp->Prop)->Prop):Prop:=
 ∀(pins:List (ag×lm)) (s:ar) (σ:St) (H:Hp) (x:V) (v:am) (Q:Bool->Hp->Prop),Inv X pins σ H s->RelV x v->r x H Q->
  wpAny (model X.prog X.w) X.A (truthy v) (TP X pins σ Q) X.xe s
def z9 (r:R2) (ta tb:TE):TE:=fun σ H Q=>ta σ H fun x H1=>tb σ H1 fun y H2=>r x y H2 Q
def KL (r:V->Hp->VK->Prop) (ta:TE):TE:=fun σ H Q=>ta σ H fun x H1=>r x H1 Q
def rI (C:Int->Int->Prop) (g:Int->Int->V):R2:=fun x y H Q=>∃i j,x=.int i/\y=.int j/\C i j/\Q (g i j) H
def n6 (g:Int->Int->V):R2:=fun x y H Q=>∃i j,x=.int i/\y=.int j/\Q (g i j) H
def rU (g:Int->V):V->Hp->VK->Prop:=fun x H Q=>∃i,x=.int i/\Q (g i) H
section
variable {X:Cx} {a b c:dL} {ta tb tc:TE} {pos:u4}
theorem DA (ha:PE X a ta) (hb:PE X b tb) {pins:List (ag×lm)} {s:ar} {σ:St} {H:Hp} {R:V->V->Hp->Prop} (I:Inv X pins σ H s)
  (h:ta σ H fun x H1=>tb σ H1 fun y H2=>R x y H2) {Q:am->ar->Prop} {f:am->am->Oi am}
  (hf:∀v u s2 x y H2,Inv X pins σ H2 s2->RelV x v->RelV y u->R x y H2->wpAny (model X.prog X.w) X.A (f v u) Q X.xe s2) :
  wpAny (model X.prog X.w) X.A (eval a X.env) (fun v au=>wpAny (model X.prog X.w) X.A (eval b X.env) (fun u fS=>wpAny (model X.prog X.w) X.A (f v u) Q X.xe fS) X.xe au) X.xe s :=by
 refine thn (ha pins s σ H _ I h) fun v s1 ⟨x,H1,I1,r1,q1⟩=>?_
 refine thn (hb pins s1 σ H1 _ I1 q1) fun u s2 ⟨y,H2,I2,r2,q2⟩=>?_
 exact hf v u s2 x y H2 I2 r1 r2 q2
theorem GK {op:Operator} {r:R2} (ho:OpR X (binaryOp op) r) (ha:PE X a ta) (hb:PE X b tb):PE X (.BinOp a op b pos) (z9 r ta tb) :=by
 refine ⟨?_⟩
 intro pins s σ H Q I h
 exact wpAny_BinOp (DA ha hb I h fun v u s2 x y H2 I2 rx ry q=>ho pins s2 σ H2 x y v u Q I2 rx ry q)
theorem GL {op:UnaryOp} {r:V->Hp->VK->Prop} (ho:UnR X (unaryOp op) r) (ha:PE X a ta):PE X (.UnaryOp op a pos) (KL r ta) :=by
 refine ⟨?_⟩
 intro pins s σ H Q I h
 exact UnaryOp_ (thn (ha pins s σ H _ I h) fun v s1 ⟨x,H1,I1,r1,q1⟩=>ho pins s1 σ H1 x v Q I1 r1 q1)
theorem vJ {f:am->am->Oi am} {C:Int->Int->Prop} {g:Int->Int->Int}
  (rule:∀(i j:Int) (t u:Tok) (s:ar) (Q:am->ar->Prop) (E:am->ar->Prop),C i j->Q (.int (g i j) s.toks) {s with toks:=s.toks+1}->wpAny (model X.prog X.w) X.A (f (.int i t) (.int j u)) Q E s) :
  OpR X f (rI C fun i j=>.int (g i j)) :=by
 intro pins s σ H x y v u Q I rx ry h
 obtain ⟨i,j,rfl,rfl,hc,q⟩:=h
 obtain ⟨t,rfl⟩:=rx
 obtain ⟨t',rfl⟩:=ry
 exact rule i j t t' s _ _ hc ⟨.int (g i j),H,I.tok _,⟨_,rfl⟩,q⟩
theorem DB {f:am->am->Oi am} {g:Int->Int->Int}
  (rule:∀(i j:Int) (t u:Tok) (s:ar) (Q:am->ar->Prop) (E:am->ar->Prop),Q (.int (g i j) s.toks) {s with toks:=s.toks+1}->wpAny (model X.prog X.w) X.A (f (.int i t) (.int j u)) Q E s) :
  OpR X f (n6 fun i j=>.int (g i j)) :=by
 intro pins s σ H x y v u Q I rx ry h
 obtain ⟨i,j,rfl,rfl,q⟩:=h
 obtain ⟨t,rfl⟩:=rx
 obtain ⟨t',rfl⟩:=ry
 exact rule i j t t' s _ _ ⟨.int (g i j),H,I.tok _,⟨_,rfl⟩,q⟩
theorem yq {f:am->am->Oi am} {g:Int->Int->Bool}
  (rule:∀(i j:Int) (t u:Tok) (s:ar) (Q:am->ar->Prop) (E:am->ar->Prop),Q (.bool (g i j)) s->wpAny (model X.prog X.w) X.A (f (.int i t) (.int j u)) Q E s) :
  OpR X f (n6 fun i j=>.bl (g i j)) :=by
 intro pins s σ H x y v u Q I rx ry h
 obtain ⟨i,j,rfl,rfl,q⟩:=h
 obtain ⟨t,rfl⟩:=rx
 obtain ⟨t',rfl⟩:=ry
 exact rule i j t t' s _ _ ⟨.bl (g i j),H,I,rfl,q⟩
def pP (i j:Int):Prop:=0<j/\j<1073741824
def DC (i j:Int):Prop:=0<=j/\j<=1000000/\i.natAbs<2 ^ 64
def m6 (i j:Int):Prop:=(-(2 ^ 64)<i/\i<2 ^ 64)\/(-(2 ^ 64)<j/\j<2 ^ 64)
theorem m6.ok {i j:Int} (h:m6 i j):IntMulOk i j :=by
 rcases h with ⟨h1,h2⟩|⟨h1,h2⟩
 ·exact .of_left (intBits_le_64 h1 h2)
 ·exact .of_right (intBits_le_64 h1 h2)
theorem DE:OpR X (binaryOp .Add) (n6 fun i j=>.int (i+j)):=DB fun _ _ _ _ _ _ _ q=>add_int q
theorem DF:OpR X (binaryOp .Sub) (n6 fun i j=>.int (i - j)):=DB fun _ _ _ _ _ _ _ q=>sub_int q
theorem DG:OpR X (binaryOp .Mult) (rI m6 fun i j=>.int (i * j)):=vJ fun _ _ _ _ _ _ _ hc q=>mul_int q hc.ok
theorem Bs:OpR X (binaryOp .FloorDiv) (rI pP fun i j=>.int (i / j)):=vJ fun i j _ _ _ _ _ hc q=>by
 have h1:(0:Int)<j:=hc.1
 have h2:j<1073741824:=hc.2
 exact floordiv_int (by omega) (by rw [Od i (by omega)];exact q) (.inl (PyProof.noPylong_small (by omega)))
theorem DH:OpR X (binaryOp .Mod) (rI (fun _ j=>0<j) fun i j=>.int (i % j)):=vJ fun i j _ _ _ _ _ hc q=>by
 have h1:(0:Int)<j:=hc
 exact mod_int' (by omega) (by rw [Int.fmod_eq_emod_of_nonneg i (by omega)];exact q)
theorem DI:OpR X (binaryOp .Pow) (rI DC fun i j=>.int (i ^ j.toNat)):=vJ fun _ _ _ _ _ _ _ hc q=>pow_int_small hc.1 hc.2.1 hc.2.2 q
theorem KN {f:am->Oi am} {g:Int->Int}
  (rule:∀(i:Int) (t:Tok) (s:ar) (Q:am->ar->Prop) (E:am->ar->Prop),Q (.int (g i) s.toks) {s with toks:=s.toks+1}->wpAny (model X.prog X.w) X.A (f (.int i t)) Q E s) :
  UnR X f (rU fun i=>.int (g i)) :=by
 intro pins s σ H x v Q I rx h
 obtain ⟨i,rfl,q⟩:=h
 obtain ⟨t,rfl⟩:=rx
 exact rule i t s _ _ ⟨.int (g i),H,I.tok _,⟨_,rfl⟩,q⟩
theorem DJ:UnR X (unaryOp .USub) (rU fun i=>.int (-i)):=KN fun _ _ _ _ _ q=>neg_int q
end
def yr:V->V->Bool
 | .aj,.aj=>true | .aj,.int _=>true | .int _,.aj=>true | .aj,.bl _=>true | .bl _,.aj=>true | .aj,.str _=>true | .str _,.aj=>true
 | .int _,.int _=>true | .bl _,.bl _=>true | .str _,.str _=>true | .gv _,.gv _=>true
 | .int _,.str _=>true | .str _,.int _=>true | .bl _,.str _=>true | .str _,.bl _=>true
 |_,_=>false
def KO:R2:=fun x y H Q=>yr x y=true/\Q (.bl (decide (x=y))) H
def KP:R2:=fun x y H Q=>yr x y=true/\Q (.bl (!decide (x=y))) H
theorem sO {i j:Int}:decide (V.int i=V.int j)=(i==j) :=by
 rw [O2]
 simp
theorem vK {i j:Bool}:decide (V.bl i=V.bl j)=(i==j) :=by
 rw [O2]
 simp
theorem sP {i j:cb}:decide (V.str i=V.str j)=(i==j) :=by
 rw [O2]
 simp
theorem sQ {i j:Array UInt8}:decide (V.gv i=V.gv j)=(i.toList==j.toList) :=by
 rw [O2]
 cases i
 cases j
 simp
section
variable {X:Cx} {a b c:dL} {ta tb tc:TE} {pos:u4}
theorem aP {pins:List (ag×lm)} {σ:St} {H:Hp} {s:ar} {Q:VK} {k k':Bool} (I:Inv X pins σ H s) (q:Q (.bl k) H) (e:k=k'):EP X pins σ Q (.bool k') s :=by
 subst e
 exact ⟨.bl k,H,I,rfl,q⟩
theorem GN:OpR X (compareOp .Eq) KO :=by
 intro pins s σ H x y v u Q I rx ry h
 obtain ⟨hs,q⟩:=h
 cases x with
 |aj=>
  cases rx
  cases y with
  |aj=>cases ry;exact PySem.EqNone.eq_none_none (aP I q (by simp))
  |bl j=>cases ry;exact PySem.EqNone.eq_none_bool (aP I q (by simp))
  |int j=>obtain ⟨t',rfl⟩:=ry;exact PySem.EqNone.eq_none_int (aP I q (by simp))
  |str j=>obtain ⟨t',rfl⟩:=ry;exact PySem.EqNone.eq_none_str (aP I q (by simp))
  |_=>exact absurd (show false=true from hs) f8
 |bl i=>
  cases rx
  cases y with
  |aj=>cases ry;exact PySem.EqNone.eq_bool_none (aP I q (by simp))
  |bl j=>cases ry;exact eq_bool (aP I q vK)
  |str j=>obtain ⟨t',rfl⟩:=ry;exact PySem.EqMixed.eq_bool_str (aP I q (by simp))
  |_=>exact absurd (show false=true from hs) f8
 |int i=>
  obtain ⟨t,rfl⟩:=rx
  cases y with
  |aj=>cases ry;exact PySem.EqNone.eq_int_none (aP I q (by simp))
  |int j=>obtain ⟨t',rfl⟩:=ry;exact eq_int (aP I q sO)
  |str j=>obtain ⟨t',rfl⟩:=ry;exact PySem.EqMixed.eq_int_str (aP I q (by simp))
  |_=>exact absurd (show false=true from hs) f8
 |str i=>
  obtain ⟨t,rfl⟩:=rx
  cases y with
  |aj=>cases ry;exact PySem.EqNone.eq_str_none (aP I q (by simp))
  |bl j=>cases ry;exact PySem.EqMixed.eq_str_bool (aP I q (by simp))
  |int j=>obtain ⟨t',rfl⟩:=ry;exact PySem.EqMixed.eq_str_int (aP I q (by simp))
  |str j=>obtain ⟨t',rfl⟩:=ry;exact eq_str (aP I q sP)
  |_=>exact absurd (show false=true from hs) f8
 |gv i=>
  obtain ⟨t,rfl⟩:=rx
  cases y with
  |gv j=>obtain ⟨t',rfl⟩:=ry;exact PySem.W.eq_bytes (aP I q sQ)
  |_=>exact absurd (show false=true from hs) f8
 |_=>cases y <;> exact absurd (show false=true from hs) f8
theorem GO:OpR X (compareOp .NotEq) KP :=by
 intro pins s σ H x y v u Q I rx ry h
 obtain ⟨hs,q⟩:=h
 cases x with
 |aj=>
  cases rx
  cases y with
  |aj=>cases ry;exact PySem.EqNone.ne_none_none (aP I q (by simp))
  |bl j=>cases ry;exact PySem.EqNone.ne_none_bool (aP I q (by simp))
  |int j=>obtain ⟨t',rfl⟩:=ry;exact PySem.EqNone.ne_none_int (aP I q (by simp))
  |str j=>obtain ⟨t',rfl⟩:=ry;exact PySem.EqNone.ne_none_str (aP I q (by simp))
  |_=>exact absurd (show false=true from hs) f8
 |bl i=>
  cases rx
  cases y with
  |aj=>cases ry;exact PySem.EqNone.ne_bool_none (aP I q (by simp))
  |bl j=>cases ry;exact ne_bool (aP I q (congrArg not vK))
  |str j=>obtain ⟨t',rfl⟩:=ry;exact PySem.EqMixed.ne_bool_str (aP I q (by simp))
  |_=>exact absurd (show false=true from hs) f8
 |int i=>
  obtain ⟨t,rfl⟩:=rx
  cases y with
  |aj=>cases ry;exact PySem.EqNone.ne_int_none (aP I q (by simp))
  |int j=>obtain ⟨t',rfl⟩:=ry;exact ne_int (aP I q (congrArg not sO))
  |str j=>obtain ⟨t',rfl⟩:=ry;exact PySem.EqMixed.ne_int_str (aP I q (by simp))
  |_=>exact absurd (show false=true from hs) f8
 |str i=>
  obtain ⟨t,rfl⟩:=rx
  cases y with
  |aj=>cases ry;exact PySem.EqNone.ne_str_none (aP I q (by simp))
  |bl j=>cases ry;exact PySem.EqMixed.ne_str_bool (aP I q (by simp))
  |int j=>obtain ⟨t',rfl⟩:=ry;exact PySem.EqMixed.ne_str_int (aP I q (by simp))
  |str j=>obtain ⟨t',rfl⟩:=ry;exact ne_str (aP I q (congrArg not sP))
  |_=>exact absurd (show false=true from hs) f8
 |gv i=>
  obtain ⟨t,rfl⟩:=rx
  cases y with
  |gv j=>obtain ⟨t',rfl⟩:=ry;exact PySem.W.ne_bytes (aP I q (congrArg not sQ))
  |_=>exact absurd (show false=true from hs) f8
 |_=>cases y <;> exact absurd (show false=true from hs) f8
theorem GP:OpR X (compareOp .Lt) (n6 fun i j=>.bl (decide (i<j))):=yq fun _ _ _ _ _ _ _ q=>lt_int q
theorem GQ:OpR X (compareOp .LtE) (n6 fun i j=>.bl (decide (i<=j))):=yq fun _ _ _ _ _ _ _ q=>le_int q
theorem GR:OpR X (compareOp .Gt) (n6 fun i j=>.bl (decide (j<i))):=yq fun _ _ _ _ _ _ _ q=>gt_int q
theorem de (b:dL) {op:Oy} (h:op≠.In :=by decide) (h2:op≠.NotIn :=by decide):behindInMarks op b=false :=by
 have e1:(op==Oy.In)=false :=by cases op <;> first|rfl|exact absurd rfl h
 have e2:(op==Oy.NotIn)=false :=by cases op <;> first|rfl|exact absurd rfl h2
 cases b <;> simp [behindInMarks,e1,e2]
def ug (t:TE):TT:=fun σ H Q=>t σ H fun x H'=>∃k,x=.bl k/\Q k H'
theorem Bt {op:Oy} {r:R2} (ho:OpR X (compareOp op) r) (ha:PE X a ta) (hb:PE X b tb) (hm:behindInMarks op b=false):PT X (.Compare a [op] [b] pos) (ug (z9 r ta tb)) :=by
 refine ⟨?_⟩
 intro pins s σ H Q I h
 refine wpAny_isTrue_Compare1 (thn (ha pins s σ H _ I h) fun v s1 ⟨x,H1,I1,r1,q1⟩=>thn (hb pins s1 σ H1 _ I1 q1) fun u s2 ⟨y,H2,I2,r2,q2⟩=>
  thn (ho pins s2 σ H2 x y v u _ I2 r1 r2 q2) fun c s3 ⟨z,H3,I3,r3,k,e,q3⟩=>?_) hm
 subst e
 cases r3
 exact xL ⟨H3,I3,q3⟩
def pQ (r r':R2) (ta tb tc:TE):TE:=fun σ H Q=>ta σ H fun x H1=>tb σ H1 fun y H2=>r x y H2 fun z H3=>∃k,z=.bl k /\
 (if k=true then tc σ H3 fun w' H4=>r' y w' H4 Q else Q (.bl false) H3)
theorem yt {op gA:Oy} {r r':R2} (ho:OpR X (compareOp op) r) (dZ:OpR X (compareOp gA) r') (ha:PE X a ta) (hb:PE X b tb) (hc:PE X c tc)
  (hm:lastMarks [op,gA] [b,c]=false :=by with_unfolding_all rfl):PE X (.Compare a [op,gA] [b,c] pos) (pQ r r' ta tb tc) :=by
 refine ⟨?_⟩
 intro pins s σ H Q I h
 refine Compare_chain (thn (ha pins s σ H _ I h) fun v s1 ⟨x,H1,I1,r1,q1⟩=>chain_link (thn (hb pins s1 σ H1 _ I1 q1) fun u s2 ⟨y,H2,I2,r2,q2⟩=>
  thn (ho pins s2 σ H2 x y v u _ I2 r1 r2 q2) fun d s3 ⟨z,H3,I3,r3,k,e,q3⟩=>?_)) hm
 subst e
 cases r3
 refine xL ?_
 cases k with
 |false=>exact ite_ff ⟨.bl false,H3,I3,rfl,q3⟩
 |true=>exact ite_tt (chain_last (thn (hc pins s3 σ H3 _ I3 q3) fun w' s4 ⟨z',H4,I4,r4,q4⟩=>dZ pins s4 σ H4 y z' u w' Q I4 r2 r4 q4))
theorem yu {op gA:Oy} {r r':R2} (ho:OpR X (compareOp op) r) (dZ:OpR X (compareOp gA) r') (ha:PE X a ta) (hb:PE X b tb) (hc:PE X c tc)
  (hm:lastMarks [op,gA] [b,c]=false :=by with_unfolding_all rfl):PT X (.Compare a [op,gA] [b,c] pos) (ug (pQ r r' ta tb tc)) :=by
 refine ⟨?_⟩
 intro pins s σ H Q I h
 refine isTrue_chain (thn (ha pins s σ H _ I h) fun v s1 ⟨x,H1,I1,r1,q1⟩=>test_link (thn (hb pins s1 σ H1 _ I1 q1) fun u s2 ⟨y,H2,I2,r2,q2⟩=>
  thn (ho pins s2 σ H2 x y v u _ I2 r1 r2 q2) fun d s3 ⟨z,H3,I3,r3,k,e,q3⟩=>?_)) hm
 subst e
 cases r3
 refine xL ?_
 cases k with
 |false=>
  obtain ⟨k',e',q'⟩:=q3
  cases e'
  exact ite_ff ⟨H3,I3,q'⟩
 |true=>
  refine ite_tt (test_last (thn (hc pins s3 σ H3 _ I3 q3) fun w' s4 ⟨z',H4,I4,r4,q4⟩=>thn (dZ pins s4 σ H4 y z' u w' _ I4 r2 r4 q4) fun d' s5 ⟨z2,H5,I5,r5,k2,e2,q5⟩=>?_))
  subst e2
  cases r5
  exact xL ⟨H5,I5,q5⟩
def JI (K:bi) (x:V) (H:Hp) (k:Bool):Prop:=
 match x with
 | .aj=>k=false
 | .bl b=>k=b
 | .int i=>k=(i != 0)
 | .str y=>y.length<=sizeLine/\k=((y.length:Int) != 0)
 | .gv y=>y.size<=sizeLine/\k=((y.size:Int) != 0)
 | .ref p=>(∃xs,bB K H p xs/\k = !xs.isEmpty)\/(∃xs,bp K H p xs/\k = !xs.isEmpty)\/∃aD,H p=some (.dK aD)/\k = !aD.isEmpty
 |_=>False
theorem uh {κ:Type} {aD:List (κ×V)} {vs:List (κ×am)} (r:KV aD vs):(!vs.isEmpty) = !aD.isEmpty :=by
 cases r <;> rfl
theorem lW {xs:List V} {its:List am} (r:Vals xs its):(!its.toArray.isEmpty) = !xs.isEmpty :=by
 cases r <;> simp
theorem il:(sizeLine:Nat)<2 ^ 63 :=by rw [Fk];decide
theorem KQ:JH X (fun x H Q=>∃k,JI X.K x H k/\Q k H) :=by
 intro pins s σ H x v Q I rx h
 obtain ⟨k,e,q⟩:=h
 have hl:=il
 have hs:sizeLine=16777216:=Fk
 cases x with
 |aj=>
  cases rx
  have e':k=false:=e
  subst e'
  exact truthy_none ⟨H,I,q⟩
 |bl b=>
  cases rx
  have e':k=b:=e
  subst e'
  exact xL ⟨H,I,q⟩
 |int i=>
  obtain ⟨t,rfl⟩:=rx
  have e':k=(i != 0):=e
  subst e'
  exact PySem.P.truthy_int ⟨H,I,q⟩
 |str y=>
  obtain ⟨t,rfl⟩:=rx
  obtain ⟨hy,e'⟩:y.length<=sizeLine/\k=((y.length:Int) != 0):=e
  subst e'
  exact PySem.P.truthy_str (by omega) ⟨H,I.tok _,q⟩
 |gv y=>
  obtain ⟨t,rfl⟩:=rx
  obtain ⟨hy,e'⟩:y.size<=sizeLine/\k=((y.size:Int) != 0):=e
  subst e'
  exact PySem.W.truthy_bytes (by omega) ⟨H,I.tok _,q⟩
 |ref p=>
  cases rx
  have e':(∃xs,bB X.K H p xs/\k = !xs.isEmpty)\/(∃xs,bp X.K H p xs/\k = !xs.isEmpty)\/∃aD,H p=some (.dK aD)/\k = !aD.isEmpty:=e
  rcases e' with ⟨xs,hx,e'⟩|⟨xs,hx,e'⟩|⟨aD,hx,e'⟩
  ·subst e'
   obtain ⟨its,r,pl,hz⟩:=I.list hx
   have hlen:=r.length
   exact wpAny_truthy_list pl.isList (by simp only [ce];omega) ⟨H,I.tok _,by rw [lW r];exact q⟩
  ·subst e'
   obtain ⟨its,r,pl,hz⟩:=I.tuple hx
   have hlen:=r.length
   exact truthy_tuple pl (by simp only [ce];omega) ⟨H,I.tok _,by rw [lW r];exact q⟩
  ·subst e'
   obtain ⟨hz,hS,vs,r,m⟩:aD.length<=sizeLine/\(p==sysModules)=false/\∃vs,KV aD vs/\s.heap.DictOf (mZ X.prog X.w) p vs:=I.hok p _ hx
   have hlen:aD.length=vs.length:=ON r
   exact wpAny_truthy_dict hS m (by omega) ⟨H,I.tok _,by rw [uh r];exact q⟩
 |_=>exact (show False from e).elim
theorem vals1 {x:V} {us:List am} (r:Vals [x] us):∃u,us=[u]/\RelV x u :=by
 cases r with
 |cons r1 r2=>cases r2;exact ⟨_,rfl,r1⟩
theorem vals2 {x y:V} {us:List am} (r:Vals [x,y] us):∃u w',us=[u,w']/\RelV x u/\RelV y w':=by
 cases r with
 |cons r1 r2=>
  cases r2 with
  |cons r3 r4=>cases r4;exact ⟨_,_,rfl,r1,r3⟩
theorem yw:cm X (.builtin "abs") (fun xs H Q=>∃i,xs=[.int i]/\Q (.int (if i<0 then -i else i)) H) :=by
 intro pins s σ H xs us Q I r h
 obtain ⟨i,rfl,q⟩:=h
 obtain ⟨u,rfl,t,rfl⟩:=vals1 r
 exact call_abs_int fun u tk=>⟨.int (if i<0 then -i else i),H,I.tok _,⟨_,rfl⟩,q⟩
theorem vL (hc:X.calm=true):cm X (.builtin "max") (fun xs H Q=>∃i j,xs=[.int i,.int j]/\Q (.int (if j > i then j else i)) H) :=by
 intro pins s σ H xs us Q I r h
 obtain ⟨i,j,rfl,q⟩:=h
 obtain ⟨u,w',rfl,⟨t,rfl⟩,⟨t',rfl⟩⟩:=vals2 r
 refine max_two_ints (I.ok.hd hc) fun h' tk k=>⟨_,H,I.kept k,?_,q⟩
 by_cases hj:j > i
 ·rw [if_pos hj,if_pos hj];exact ⟨_,rfl⟩
 ·rw [if_neg hj,if_neg hj];exact ⟨_,rfl⟩
theorem vM (hc:X.calm=true):cm X (.builtin "min") (fun xs H Q=>∃i j,xs=[.int i,.int j]/\Q (.int (if j<i then j else i)) H) :=by
 intro pins s σ H xs us Q I r h
 obtain ⟨i,j,rfl,q⟩:=h
 obtain ⟨u,w',rfl,⟨t,rfl⟩,⟨t',rfl⟩⟩:=vals2 r
 refine min_two_ints (I.ok.hd hc) fun h' tk k=>⟨_,H,I.kept k,?_,q⟩
 by_cases hj:j<i
 ·rw [if_pos hj,if_pos hj];exact ⟨_,rfl⟩
 ·rw [if_neg hj,if_neg hj];exact ⟨_,rfl⟩
def DK (K:bi) (x:V) (H:Hp) (n:Nat):Prop:=
 match x with
 | .str y=>y.length<=sizeLine/\n=y.length
 | .gv y=>y.size<=sizeLine/\n=y.size
 | .ref p=>(∃xs,bB K H p xs/\n=xs.length)\/∃xs,bp K H p xs/\n=xs.length
 |_=>False
theorem yx:cm X (.builtin "len") (fun xs H Q=>∃x n,xs=[x]/\DK X.K x H n/\Q (.int n) H) :=by
 intro pins s σ H xs us Q I r h
 obtain ⟨x,n,rfl,e,q⟩:=h
 obtain ⟨u,rfl,rx⟩:=vals1 r
 have hl:=il
 have hs:sizeLine=16777216:=Fk
 cases x with
 |str y=>
  obtain ⟨t,rfl⟩:=rx
  obtain ⟨hy,e'⟩:y.length<=sizeLine/\n=y.length:=e
  subst e'
  exact len_str (by omega) ⟨.int _,H,I.tok _,⟨_,rfl⟩,q⟩
 |gv y=>
  obtain ⟨t,rfl⟩:=rx
  obtain ⟨hy,e'⟩:y.size<=sizeLine/\n=y.size:=e
  subst e'
  exact PySem.W.len_bytes (by omega) ⟨.int _,H,I.tok _,⟨_,rfl⟩,q⟩
 |ref p=>
  cases rx
  have e':(∃xs,bB X.K H p xs/\n=xs.length)\/∃xs,bp X.K H p xs/\n=xs.length:=e
  rcases e' with ⟨xs,hx,e'⟩|⟨xs,hx,e'⟩
  ·subst e'
   obtain ⟨its,r',pl,hz⟩:=I.list hx
   have hlen:=r'.length
   exact Calls.call_len_list pl.isList (by simp only [ce];omega) ⟨.int xs.length,H,I.tok _,⟨_,by simp only [ce];rw [hlen]⟩,q⟩
  ·subst e'
   obtain ⟨its,r',pl,hz⟩:=I.tuple hx
   have hlen:=r'.length
   exact len_tuple pl (by simp only [ce];omega) ⟨.int xs.length,H,I.tok _,⟨_,by simp only [ce];rw [hlen]⟩,q⟩
 |_=>exact (show False from e).elim
theorem rV:cm X (.builtin "divmod") (fun xs H Q=>∃i j,xs=[.int i,.int j]/\pP i j/\∀p,H p=none->Q (.ref p) (upd H p (.tup [.int (i / j),.int (i % j)]))) :=by
 intro pins s σ H xs us Q I r h
 obtain ⟨i,j,rfl,⟨h1,h2⟩,q⟩:=h
 obtain ⟨u,w',rfl,⟨t,rfl⟩,⟨t',rfl⟩⟩:=vals2 r
 refine divmod_int (by omega) ?_ (.inl (PyProof.noPylong_small (by omega)))
 rw [Od i (by omega),Int.fmod_eq_emod_of_nonneg i (by omega)]
 have hn:H s.heap.objs.size=none:=I.hok.fresh (br _)
 refine ⟨.ref s.heap.objs.size,_,?_,rfl,q _ hn⟩
 refine I.laid (fun b o e=>bn _ e) (br _) ⟨by simp only [B0,P6];rw [Fk];decide,[.int (i / j) s.toks,.int (i % j) (s.toks+1)],.cons ⟨_,rfl⟩ (.cons ⟨_,rfl⟩ .nil),?_⟩
 exact ⟨_,hX s.heap rfl,rfl,0,rfl,rfl⟩
end
structure yy (h:ij) (x dx C:ag) (mA:cb->Option am):Prop where
 obj:h.get? x=some (P4 C dx)
 ns:h.Ns1 dx mA
 ne:dx≠x
theorem vN {h:ij} {dx:ag} {mA:cb->Option am} (n:h.Ns1 dx mA):∃od,h.get? dx=some od/\∀name,PySem.W.lookIn name od=some (mA name) :=by
 obtain ⟨o,es,ep,ho,hd,hk,_,hm⟩:=n
 refine ⟨o,ho,fun name=>?_⟩
 have e:=hm name
 unfold nsFind findBy at e
 rw [<- Array.find?_toList] at e
 unfold PySem.W.lookIn
 rw [hd]
 dsimp only
 split
 ·rename_i y q
  rw [q] at e
  exact congrArg some e
 ·rename_i q
  rw [q] at e
  have a:es.toList.any (·.refKey)=false :=by
   rw [List.any_eq_false]
   intro y hy
   obtain ⟨z,t,JK⟩:=hk y (O3.mp hy)
   simp [DictEntry.refKey,JK]
  have a':¬ es.toList.any (·.refKey)=true :=by rw [a];exact f8
  rw [if_neg a']
  exact congrArg some e
theorem yy.look {h:ij} {x dx C:ag} {mA:cb->Option am} (I:yy h x dx C mA):∃od,PySem.W.InstAt h x (P4 C dx) C (some od)/\∀name,PySem.W.lookIn name od=some (mA name):=
 let ⟨od,ho,hl⟩:=vN I.ns
 ⟨od,⟨I.obj,rfl,rfl,ho⟩,hl⟩
section
variable {P:gl} {w:ii} {H H':Hp} {h h':ij} {a C dx:ag} {fs KD:List (cb×V)}
theorem Bu (hok:cG P w H h) (e:H a=some (.ins C dx fs)):∃mA,yy h a dx C mA/\(∀f,yh (fs.lookup f) (mA f))/\PySem.Within mA (fs.map (·.1))/\fs.length<=1000/\H dx=some (.own a) :=by
 obtain ⟨d,z,ne,ob,mA,n,r,q⟩:=(show aZ P w H h a (.ins C dx fs) from hok a _ e)
 exact ⟨mA,⟨ob,n,ne⟩,r,q,z,d⟩
end
structure DL (K:bi) (C:ag):Prop where
 pg:PySem.W.plainGet K C cb.empty=true
 hd:PySem.W.hasDictIn K C=true
 po:PySem.W.plainOver K C=true
 sa:PySem.W.findIn K (.ref C) "__setattr__" = some (some (.builtin "object.__setattr__"))
theorem DL.get {K:bi} {C:ag} (c:DL K C) (f:cb):PySem.W.plainGet K C f=true:=c.pg
section
variable {X:Cx} {pins:List (ag×lm)} {σ:St} {H:Hp} {s:ar} {A:l7} {E:am->ar->Prop} {Q:am->ar->Prop} {c:am} {b:Bool}
inductive eJ (K:bi) (H:Hp):V->am->Prop where
 |aj:eJ K H .aj (.type "NoneType")
 |bl (x:Bool):eJ K H (.bl x) (.type "bool")
 |int (i:Int):eJ K H (.int i) (.type "int")
 |str (x:cb):eJ K H (.str x) (.type "str")
 |sJ (x:UInt64):eJ K H (.sJ x) (.type "float")
 |lst {a:ag} {xs:List V} (e:H a=some (.lst xs)):eJ K H (.ref a) (.type "list")
 |dO {a:ag} {o:lm} {xs:List V} (e:H a=some (.dO o (.lst xs))):eJ K H (.ref a) (.type "list")
 |tup {a:ag} {xs:List V} (e:H a=some (.tup xs)):eJ K H (.ref a) (.type "tuple")
 |dK {a:ag} {aD:List (Key×V)} (e:H a=some (.dK aD)):eJ K H (.ref a) (.type "dict")
 |dT {a:ag} {aD:List (List Key×V)} (e:H a=some (.dT aD)):eJ K H (.ref a) (.type "dict")
 |ins {a C dx:ag} {fs:List (cb×V)} (e:H a=some (.ins C dx fs)) (cl:DL K C) (ha:PySem.W.findIn K (.ref C) "__class__" = some (some (.builtin "object.__class__")))
   (hn:PySem.W.specialIn K (.builtin "object.__class__") "__get__" = some (some (.builtin "getset_descriptor.__get__"))) (HV:PySem.W.takesIn K (.builtin "object.__class__")=some true)
   (hm:PySem.W.mroIn K C (.type "object")=some true):eJ K H (.ref a) (.ref C)
theorem vO {x:V} {u t:am} (I:Inv X pins σ H s) (rx:RelV x u) (ty:eJ X.K H x t) (e:Pn X.K t c=some b) (h:∀tk,Q (.bool b) {s with toks:=tk}) :
  wpAny (model X.prog X.w) A (call (.builtin "isinstance") [u,c]) Q E s :=by
 cases ty with
 |aj=>cases (show u=u7 from rx);exact AC PySem.W.kitx_none I.dY PP e (fun z=>nomatch z) h
 |bl y=>cases (show u=Qj y from rx);exact AC PySem.W.kitx_bool I.dY PP e (fun z=>nomatch z) h
 |int i=>obtain ⟨t,q⟩:=(show ∃t,u=am.int i t from rx);cases q;exact AC PySem.W.kitx_int I.dY PP e (fun z=>nomatch z) h
 |str y=>obtain ⟨t,q⟩:=(show ∃t,u=Qn y t from rx);cases q;exact AC PySem.W.kitx_str I.dY PP e (fun z=>nomatch z) h
 |sJ y=>obtain ⟨t,q⟩:=(show ∃t,u=am.float y t from rx);cases q;exact AC PySem.W.kitx_float I.dY PP e (fun z=>nomatch z) h
 | @lst a xs ea=>
  cases (show u=lc a from rx)
  obtain ⟨_,_,n,_,h1⟩:=(show aZ X.prog X.w H s.heap a (.lst xs) from I.hok a _ ea)
  exact AC PySem.W.kitx_list I.dY ⟨_,h1,rfl⟩ e (fun z=>nomatch z) h
 | @dO a ob xs ea=>
  cases (show u=lc a from rx)
  obtain ⟨_,_,_,n,_,h1⟩:=(show aZ X.prog X.w H s.heap a (.dO ob (.lst xs)) from I.hok a _ ea)
  exact AC PySem.W.kitx_list I.dY ⟨_,h1,rfl⟩ e (fun z=>nomatch z) h
 | @tup a xs ea=>
  cases (show u=lc a from rx)
  obtain ⟨_,_,_,p⟩:=(show aZ X.prog X.w H s.heap a (.tup xs) from I.hok a _ ea)
  obtain ⟨o,h1,h2,_⟩:=p
  exact AC PySem.W.kitx_tuple I.dY ⟨o,h1,h2⟩ e (fun z=>nomatch z) h
 | @dK a aD ea=>
  cases (show u=lc a from rx)
  obtain ⟨_,_,vs,_,p⟩:=(show aZ X.prog X.w H s.heap a (.dK aD) from I.hok a _ ea)
  obtain ⟨o,es,ep,h1,h2,_⟩:=p
  exact AC PySem.W.kitx_dict I.dY ⟨o,h1,h2.1⟩ e (fun z=>nomatch z) h
 | @dT a aD ea=>
  cases (show u=lc a from rx)
  obtain ⟨_,_,xs,_,o,es,ep,h1,h2,_⟩:=(show aZ X.prog X.w H s.heap a (.dT aD) from I.hok a _ ea)
  exact AC PySem.W.kitx_dict I.dY ⟨o,h1,h2.1⟩ e (fun z=>nomatch z) h
 | @ins a C dx fs ea cl ha hn HV hm=>
  cases (show u=lc a from rx)
  obtain ⟨mA,O,_⟩:=Bu I.hok ea
  obtain ⟨od,J,_⟩:=O.look
  exact AC (PySem.W.kitx_own (cl.get _) cl.hd ha hn HV hm) I.dY J e (fun z=>nomatch z) h
end
structure bP (k:Nat) (A:l7):Prop where
 hd:A.handled=none
 dp:A.depth+3 * k+5<recursionLimit
 un:A.units+16 * k+200<cLine
theorem bP.mono {j k:Nat} {A:l7} (r:bP k A) (h:j<=k):bP j A:=⟨r.hd,by have:=r.dp;omega,by have:=r.un;omega⟩
theorem bP.deeper {k:Nat} {A:l7} (r:bP (k+1) A) (env:NR):bP k (A.deeper env):=
 ⟨r.hd,by have:=r.dp;show A.depth+1+3 * k+5<_;omega,by have:=r.un;show A.units+3+16 * k+200<_;omega⟩
theorem bP.depth {k:Nat} {A:l7} (r:bP k A):A.depth<recursionLimit :=by have:=r.dp;omega
theorem bP.units {k:Nat} {A:l7} (r:bP k A):A.units+64<cLine :=by have:=r.un;omega
def DM:TA:=fun _ H Q=>Q [] H
def GU (ta:TE) (tr:TA):TA:=fun σ H Q=>ta σ H fun x H1=>tr σ H1 fun xs H2=>Q (x::xs) H2
section
variable {X:Cx} {e:dL} {es:List dL} {te:TE} {t:TA} {pos:u4}
theorem DN:PA X [] DM:=⟨fun _ _ _ _ H Q I h=>Gc ⟨[],H,I,.nil,h⟩⟩
theorem Bv (ha:PE X e te) (hr:PA X es t) (hs:starEach (e::es) X.env=(false,eval e X.env)::starEach es X.env :=by rfl):PA X (e::es) (GU te t) :=by
 refine ⟨?_⟩
 intro pos pins s σ H Q I h
 rw [hs]
 show wpAny _ _ (spliced ((false,eval e X.env)::backTo pos (starEach es X.env))) _ _ s
 refine EU (thn (ha pins s σ H _ I h) fun u s1 ⟨x,H1,I1,r1,q1⟩=>?_)
 exact thn (hr pos pins s1 σ H1 _ I1 q1) fun us s2 ⟨xs,H2,I2,r2,q2⟩=>⟨x::xs,H2,I2,.cons r1 r2,q2⟩
def JL (t:TA):TE:=fun σ H Q=>t σ H fun xs H1=>xs.length<=sizeLine/\∀p,H1 p=none->Q (.ref p) (upd H1 p (.tup xs))
def JM (t:TA):TE:=fun σ H Q=>t σ H fun xs H1=>xs.length<=sizeLine/\∀p,H1 p=none->Q (.ref p) (upd H1 p (.lst xs))
theorem DP {x1} (h:PA X es t):PE X (.Tuple es x1 pos) (JL t) :=by
 refine ⟨?_⟩
 intro pins s σ H Q I hq
 refine wpAny_Tuple_spliced (thn (h pos pins s σ H _ I hq) fun us s1 ⟨xs,H1,I1,r,z,q⟩=>⟨by rw [<- r.length];exact z,?_⟩)
 have hf:H1 s1.heap.objs.size=none:=I1.hok.fresh (br _)
 refine ⟨.ref s1.heap.objs.size,upd H1 s1.heap.objs.size (.tup xs),I1.laid (t':=s1.toks) (fun b u e=>bn _ e) (br _) ?_,rfl,q _ hf⟩
 exact ⟨z,us,r,⟨_,hX _ rfl,rfl,_,rfl,rfl⟩⟩
theorem vP (h:PA X es t):PE X (.List es pos) (JM t) :=by
 refine ⟨?_⟩
 intro pins s σ H Q I hq
 refine wpAny_List_spliced (thn (h pos pins s σ H _ I hq) fun us s1 ⟨xs,H1,I1,r,z,q⟩=>⟨by rw [<- r.length];exact z,?_⟩)
 have hf:H1 s1.heap.objs.size=none:=I1.hok.fresh (br _)
 refine ⟨.ref s1.heap.objs.size,upd H1 s1.heap.objs.size (.lst xs),I1.laid (t':=s1.toks) (fun b u e=>bn _ e) (br _) ?_,rfl,q _ hf⟩
 exact ⟨z,us,0,r,hX _ rfl⟩
end
abbrev Sp:=List V->Hp->VK->XK->Prop
abbrev ip:=List NR->Hp->ar->XK->am->ar->Prop
structure ui (P:gl) (w:ii) (K:bi) (mg:cb->Option am) (base:ij) (A:l7) (outer:List NR) (s:ar) (H:Hp):Prop where
 frames:A.frames=some outer
 mod:Mod K mg base
 bs:∀b o,base.get? b=some o->s.heap.get? b=some o/\H b=none
 bsz:base.objs.size<=s.heap.objs.size
 funs:s.heap.FunFrames base outer
 frf:∀b∈dP outer,H b=none
 hok:cG P w H s.heap
 bare:Qh s.gens
def CE (outer:List NR) (P:gl) (w:ii) (H:Hp) (s:ar) (Q:VK) (u:am) (s':ar):Prop:=
 ∃v H',s'.os=s.os/\Gn s.gens.size s'.gens/\Un (dP outer) [] H H' s.heap s'.heap/\cG P w H' s'.heap/\RelV v u/\Q v H'
def CR (CX:ip) (outer:List NR) (P:gl) (w:ii) (H:Hp) (s:ar) (Q:VK) (E:XK) (r:Qo) (s':ar):Prop:=
 match r with
 | .ok (.ret u)=>CE outer P w H s Q u s'
 | .ok _=>False
 | .error e=>CX outer H s E e s'
structure FnOk (P:gl) (w:ii) (K:bi) (mg:cb->Option am) (base:ij) (CX:ip) (k:Nat) (f:ag) (fd:nw) (ps:List cb) (sp:Sp):Prop where
 len:∀vs H Q E,sp vs H Q E->vs.length=ps.length
 run:∀(A:l7) (outer:List NR) (s:ar) (H:Hp) (args:Args) (us:List am) (vs:List V) (Q:VK) (E:XK),bP k A->ui P w K mg base A outer s H->PR s fd args (ps.zip us)->Vals vs us->sp vs H Q E->
  codeAny (model P w) A (.call (.ref f) args) (CR CX outer P w H s Q E) s
theorem FnOk.imp {P:gl} {w:ii} {K:bi} {mg:cb->Option am} {base:ij} {CX:ip} {k:Nat} {f:ag} {fd:nw} {ps:List cb} {sp HW:Sp} (F:FnOk P w K mg base CX k f fd ps sp)
  (h:∀vs H Q E,HW vs H Q E->sp vs H Q E):FnOk P w K mg base CX k f fd ps HW:=
 ⟨fun vs H Q E q=>F.len vs H Q E (h _ _ _ _ q),fun A outer s H args us vs Q E hr he hb hv hs=>F.run A outer s H args us vs Q E hr he hb hv (h _ _ _ _ hs)⟩
section
variable {X:Cx} {pins:List (ag×lm)} {σ:St} {H:Hp} {s s':ar}
theorem Inv.JN (I:Inv X pins σ H s):ui X.prog X.w X.K X.mg X.base X.A X.stack s H:=
 ⟨I.ok.frames,I.ok.mod,I.bs,sB I.ok.bsz I.sz,I.stack,I.m4,I.hok,I.bare.1⟩
theorem Inv.after {Q:VK} {u:am} (I:Inv X pins σ H s) (h:CE X.stack X.prog X.w H s Q u s'):EP X pins σ Q u s':=by
 obtain ⟨v,H',os,bare,un,hok,r,q⟩:=h
 obtain ⟨hh,g,d,t,HX⟩:=s'
 obtain rfl:HX=s.os:=os
 exact ⟨v,H',I.call (h':=hh) (g':=g) (d':=d) (t':=t) (ch:=[]) un hok bare (fun b z=>absurd z (by simp)),r,q⟩
end
def Aa (sp:Sp) (n8:List V) (E:XK) (t:TA):TE:=fun σ H Q=>t σ H fun vs H1=>sp (vs++n8) H1 Q E
def Binds (K:bi) (fd:nw) (ps:List cb) (ds:List am):Prop:=
 ∀(s:ar) (us:List am),K.In s.heap->(us++ds).length=ps.length->PR s fd ⟨us,[]⟩ (ps.zip (us++ds))
theorem Binds.all {K:bi} {fd:nw} {ps:List cb} (h:∀us:List am,us.length=ps.length->bindArgs fd ⟨us,[]⟩=pure (ps.zip us)):Binds K fd ps []:=fun s us _ hl=>by
 rw [Do] at hl ⊢
 exact .of_eq (h us hl)
def Passes (CX:ip) (X:Cx) (E:XK):Prop:=∀(pins:List (ag×lm)) (σ:St) (H:Hp) (s:ar) (e:am) (s':ar),Inv X pins σ H s->CX X.stack H s E e s'->X.xe e s'
section
variable {X:Cx} {CX:ip} {k:Nat} {f C:ag} {fd:nw} {ps:List cb} {sp:Sp} {n8:List V} {ds:List am} {E:XK} {x m:cb} {p pos apos:u4} {e o:dL} {es:List dL} {ta:TE} {t:TA}
theorem DQ {pins:List (ag×lm)} {σ:St} {H:Hp} {s:ar} {Q:VK} {us:List am} {vs:List V} (F:FnOk X.prog X.w X.K X.mg X.base CX k f fd ps sp) (hr:bP k X.A) (hb:Binds X.K fd ps ds) (hd:Vals n8 ds) (hx:Passes CX X E)
  (I:Inv X pins σ H s) (r:Vals vs us) (h:sp (vs++n8) H Q E):wpAny (model X.prog X.w) X.A (call (.ref f) us) (EP X pins σ Q) X.xe s :=by
 have r2:Vals (vs++n8) (us++ds):=r.append hd
 have hl:(us++ds).length=ps.length :=by rw [<- r2.length];exact F.len _ _ _ _ h
 refine Qk (O4 (F.run X.A X.stack s H ⟨us,[]⟩ (us++ds) (vs++n8) Q E hr I.JN (hb s us I.dY hl) r2 h) fun r s' hq=>?_)
 cases r with
 |error e=>exact hx pins σ H s e s' I hq
 |ok fl=>
  cases fl with
  |ret u=>exact I.after hq
  |next=>exact ID hq
  |brk=>exact ID hq
  |cont=>exact ID hq
theorem Bw (F:FnOk X.prog X.w X.K X.mg X.base CX k f fd ps sp) (hr:bP k X.A) (hg:Gl X x) (hm:X.mg x=some (.ref f)) (hk:N1 X.K (.ref f)=true) (hb:Binds X.K fd ps ds) (hd:Vals n8 ds) (hx:Passes CX X E)
  (ha:PA X (e::es) t) (d6:(x==("__debug__" : cb))=false :=by decide) (he:starEach (e::es) X.env=(false,eval e X.env)::starEach es X.env :=by rfl) (dg:(backTo pos (starEach es X.env)).any (·.1)=false :=by rfl) :
  PE X (.Call (.Name x p) (e::es) [] pos) (Aa sp n8 E t) :=by
 refine ⟨?_⟩
 intro pins s σ H Q I h
 refine Cc (kh I hg hm ?_ d6)
 refine PySem.W.callWith_K (h₀:=X.base) I.ok.mod.kin hk (thn (ha pos pins s σ H _ I h) fun us s1 ⟨vs,H1,I1,r,q⟩=>⟨I1.dY,?_⟩) he dg
 exact DQ F hr hb hd hx I1 r q
end
structure a9 (N P:List cb) (sc:At):Prop where
 kind:sc.kind=.function
 co:sc.isCoroutine=false
 gen:sc.isGenerator=false
 nd:N.Nodup
 pre:N.take P.length=P
 par:∀x∈P,sc.names.lookup x=some .local\/sc.names.lookup x=some .cell
 nofree:∀y∈sc.names,y.2≠.free
theorem og {kindOf:cb->Option NX} {x:cb}:∀{binds:List (cb×am)} {m:cb->Option am},(∀v,(x,v) ∉ binds)->bindL kindOf binds m x=m x
 | [],_,_=>rfl
 |(n,v)::r,m,h=>by
          unfold bindL
          rw [og fun w hw=>h w (ff _ hw)]
          split
          ·have:x≠n :=by rintro rfl;exact h v kt
           simp [this]
          ·rfl
theorem oh {kindOf:cb->Option NX} {x:cb}:∀{binds:List (cb×am)} {m:cb->Option am},(∀v,(x,v) ∉ binds)->bindC kindOf binds m x=m x
 | [],_,_=>rfl
 |(n,v)::r,m,h=>by
          unfold bindC
          rw [oh fun w hw=>h w (ff _ hw)]
          split
          ·rfl
          ·have:x≠n :=by rintro rfl;exact h v kt
           simp [this]
theorem oj {kindOf:cb->Option NX} {x:cb} {v:am}:∀{P:List cb} {vs:List am} {i:Nat} {m:cb->Option am},P.Nodup->P[i]?=some x->vs[i]?=some v->kindOf x=some .local->
  bindL kindOf (P.zip vs) m x=some v
 | [],_,_,_,_,h,_,_=>by simp at h
 |_::_,[],_,_,_,_,h,_=>by simp at h
 |p::P,w::vs,0,m,nd,h1,h2,hk=>by
          simp at h1 h2;subst h1;subst h2
          show bindL kindOf ((p,w)::P.zip vs) m p=_
          unfold bindL
          rw [og fun v hv=>(Oj.mp nd).1 (O5 hv).1,if_pos hk]
          simp
 |p::P,w::vs,i+1,m,nd,h1,h2,hk=>by
          show bindL kindOf ((p,w)::P.zip vs) m x=_
          unfold bindL
          exact oj (i:=i) (Oj.mp nd).2 (by simpa using h1) (by simpa using h2) hk
theorem om {kindOf:cb->Option NX} {x:cb} {v:am}:∀{P:List cb} {vs:List am} {i:Nat} {m:cb->Option am},P.Nodup->P[i]?=some x->vs[i]?=some v->kindOf x≠some .local->
  bindC kindOf (P.zip vs) m x=some v
 | [],_,_,_,_,h,_,_=>by simp at h
 |_::_,[],_,_,_,_,h,_=>by simp at h
 |p::P,w::vs,0,m,nd,h1,h2,hk=>by
          simp at h1 h2;subst h1;subst h2
          show bindC kindOf ((p,w)::P.zip vs) m p=_
          unfold bindC
          rw [oh fun v hv=>(Oj.mp nd).1 (O5 hv).1,if_neg hk]
          simp
 |p::P,w::vs,i+1,m,nd,h1,h2,hk=>by
          show bindC kindOf ((p,w)::P.zip vs) m x=_
          unfold bindC
          exact om (i:=i) (Oj.mp nd).2 (by simpa using h1) (by simpa using h2) hk
def start (N:List cb) (vs:List V):St:=vs.map some++li (N.length - vs.length) none
def eL (CX:ip) (P:gl) (w:ii) (K:bi) (mg:cb->Option am) (base:ij) (N:List cb) (qual:cb) (scope:At) (f:ag) (cd:am) (A:l7) (outer:List NR) (s:ar) (H:Hp) (E:XK):Cx where
 prog:=P
 w:=w
 K:=K
 mg:=mg
 base:=base
 A:=A.deeper (envOfC qual scope s.heap.objs.size f cd)
 N:=N
 s₀:=s
 H₀:=H
 env:=envOfC qual scope s.heap.objs.size f cd
 outer:=outer
 stack:=envOfC qual scope s.heap.objs.size f cd::outer
 ex:=[]
 calm:=true
 fn:=fun _=>true
 pn:=[]
 xe:=fun e s'=>wpAny (model P w) (A.deeper (envOfC qual scope s.heap.objs.size f cd)) (leaving (envOfC qual scope s.heap.objs.size f cd) e) (fun _ b5=>CX outer H s E e b5) (fun e' b5=>CX outer H s E e' b5) s'
theorem pR {sc:At} {n:Nat} {x:cb} (h:sc.names.lookup x=some .cell):∃c,(cellsFrom n sc.names []).lookup x=some c :=by
 have q:=PySem.W.cellsFrom_some sc.names n [] (.inl h)
 exact Option.isSome_iff_exists.mp q
theorem vQ {CX:ip} {P:gl} {w:ii} {K:bi} {mg:cb->Option am} {base:ij} {N ps:List cb} {qual:cb} {scope:At} {f:ag} {cd:am} {A:l7} {outer:List NR} {s s1:ar} {H:Hp} {E:XK} {us:List am} {vs:List V}
  (S:a9 N ps scope) (hd:A.handled=none) (e0:ui P w K mg base A outer s H) (hl:vs.length=ps.length) (r:Vals vs us)
  (x:InCallC s s.heap.objs.size (bindL (envOfC qual scope s.heap.objs.size f cd).kindOf (ps.zip us) fun _=>none) (cellsFrom (s.heap.objs.size+1) scope.names []) (bindC (envOfC qual scope s.heap.objs.size f cd).kindOf (ps.zip us) fun _=>none) s1) :
  Inv (eL CX P w K mg base N qual scope f cd A outer s H E) [] (start N vs) H s1 :=by
 have dg:ps.length<=N.length :=by have:=congrArg List.length S.pre;rw [GT] at this;omega
 obtain ⟨h1,tk,rfl,hk⟩:=x.done
 have DR:∀b:ag,b ∉ (eL CX P w K mg base N qual scope f cd A outer s H E).ex:=fun b z=>absurd (show b∈([]:List ag) from z) (by simp)
 refine ⟨⟨e0.mod,S.kind,rfl,rfl,br _,fun y z c h1 h2=>?_,fun y hy=>?_,fun y c _ h=>?_,fun _=>hd,l7.frames_deeper e0.frames,.inr ⟨rfl,rfl⟩,fun b z=>absurd z (DR b),e0.bs,e0.bsz,fun b _ _=>DR b,fun b z=>absurd z (DR b),e0.funs,e0.frf⟩,
  rfl,⟨e0.bare,br _⟩,Un.kept hk,⟨_,x.toInCall.ns,fun i y v h1 h2 h3=>?_⟩,fun y c h=>⟨_,x.cell y c h⟩,e0.hok.fresh (br _),fun y c h=>?_,fun p hp=>absurd (show p∈([]:List (ag×lm)) from hp) (by simp),e0.hok.kept hk,?_⟩
 ·exact name_of_addr x.apart (wE h1) (wE h2)
 ·have hy:scope.names.lookup y=some .cell\/scope.names.lookup y=some .free:=hy
  rcases hy with hy|hy
  ·exact pR hy
  ·exact absurd rfl (S.nofree _ (wE hy))
 ·exact Oq (x.above y c (wE h))
 ·have hi:i<vs.length :=by
   unfold start at h2
   by_cases hi:i<vs.length
   ·exact hi
   ·rw [List.getElem?_append_right (by simpa using hi)] at h2
    rw [AL] at h2
    split at h2 <;> cases h2
  have ha:vs[i]?=some v :=by
   unfold start at h2
   rw [Ol (by simpa using hi),cr] at h2
   cases e:vs[i]? with
   |none=>rw [e] at h2;cases h2
   |some a=>rw [e] at h2;cases h2;rfl
  obtain ⟨u,hu,rv⟩:=r.get ha
  have hp:ps[i]?=some y :=by
   rw [<- S.pre,List.getElem?_take_of_lt (by omega)];exact h1
  have HY:ps.Nodup :=by rw [<- S.pre];exact S.nd.sublist (List.take_sublist _ _)
  refine ⟨u,rv,?_⟩
  rcases S.par y (im hp) with k|k
  ·exact .inl ⟨k,oj HY hp hu k⟩
  ·obtain ⟨c,e⟩:=pR (n:=s.heap.objs.size+1) k
   refine .inr ⟨.inl k,c,e,?_⟩
   have q:=x.cell y c e
   rw [om HY hp hu (by show scope.names.lookup y≠_;rw [k];decide)] at q
   exact q
 ·exact e0.hok.fresh (Oq (x.above y c (wE h)))
 ·unfold start
  show _=N.length
  rw [xb,c8,N4]
  omega
theorem Ab {CX:ip} {P:gl} {w:ii} {K:bi} {mg:cb->Option am} {base:ij} {k:Nat} {f:ag} {name qual:cb} {params:Arguments} {body:List r9} {scope:At} {dV kV doc pm cD ct oc:am} {an od:Option ag}
  {jm:Array (Option am)} {N ps:List cb} {sp:Sp} (lk:K.lookup f=some ⟨oc,od,.func (DO name qual params body scope dV kV doc pm an cD ct),jm⟩) (fK:OA K cD qual=true) (S:a9 N ps scope)
  (len:∀vs H Q E,sp vs H Q E->vs.length=ps.length)
  (lX:∀(A:l7) (outer:List NR) (s:ar) (H:Hp) (vs:List V) (Q:VK) (E:XK),bP k (A.deeper (envOfC qual scope s.heap.objs.size f cD))->sp vs H Q E->
   ∃t,dQ (eL CX P w K mg base N qual scope f cD A outer s H E) body t/\t {nx:=fun _ H'=>Q .aj H',rt:=Q} (start N vs) H) :
  FnOk P w K mg base CX (k+1) f (DO name qual params body scope dV kV doc pm an cD ct) ps sp :=by
 refine ⟨len,fun A outer s H args us vs Q E hr e0 hb r kM=>?_⟩
 have hl:=len _ _ _ _ kM
 have KX:K.In s.heap:=e0.mod.kin.keeps fun b o e=>(e0.bs b o e).1
 have lim:s.heap.NoLimit:=e0.mod.nolimit.keeps fun b o e=>(e0.bs b o e).1
 have px:∀y∈ps.zip us,scope.names.lookup y.1=some .local\/(scope.names.lookup y.1=some .cell/\((cellsFrom (s.heap.objs.size+1) scope.names []).lookup y.1).isSome=true):=fun ⟨n,v⟩ hy=>by
  rcases S.par n (O5 hy).1 with q|q
  ·exact .inl q
  ·exact .inr ⟨q,PySem.W.cellsFrom_some _ _ _ (.inl q)⟩
 refine codeAny_call_function hr.depth (KX _ _ lk) rfl S.co S.gen rfl (PySem.W.codeRec_of KX fK) (hb _ _ _ _ ?_)
 refine wpAny_newFunctionEnv_cells S.kind px fun env he s1 x=>?_
 subst he
 refine ⟨lim.keeps x.toInCall.keep,codeAny_func ?_⟩
 obtain ⟨t,ht,hq⟩:=lX A outer s H vs Q E (hr.deeper _) kM
 have I:Inv (eL CX P w K mg base N qual scope f cD A outer s H E) [] (start N vs) H s1:=vQ S hr.hd e0 hl r x
 refine mf (ht [] s1 (start N vs) H _ I hq) (fun fl s' hs=>?_) fun e s' hs=>hs
 have fin:∀{az:St} {H':Hp} {v:V} {u:am},Inv (eL CX P w K mg base N qual scope f cD A outer s H E) [] az H' s'->RelV v u->Q v H'->CE outer P w H s Q u s':=
  fun {az H' v u} J rv q=>⟨v,H',J.os,J.bare,J.base,J.hok,rv,q⟩
 cases fl with
 |ret u=>
  obtain ⟨v,az,H',J,rv,q⟩:=hs
  exact fin J rv q
 |next=>
  obtain ⟨az,H',J,q⟩:=hs
  exact fin (v:=V.aj) (u:=u7) J rfl q
 |brk=>
  obtain ⟨_,_,_,q⟩:=hs
  exact ID q
 |cont=>
  obtain ⟨_,_,_,q⟩:=hs
  exact ID q
section
variable {X:Cx} {x:cb} {p pos:u4} {e:dL} {es:List dL} {t:TA} {id T:String} {r:List V->Hp->VK->Prop}
def Ac (r:List V->Hp->VK->Prop) (t:TA):TE:=fun σ H Q=>t σ H fun vs H1=>r vs H1 Q
theorem yz (hc:cm X (.builtin id) r) (hg:Gl X x) (hm:X.mg x=none) (hv:bootBuiltins x=some (.builtin id)) (ha:PA X (e::es) t) (hn:x ≠ "__name__" := by decide) (d6:(x==("__debug__" : cb))=false :=by decide)
  (he:starEach (e::es) X.env=(false,eval e X.env)::starEach es X.env :=by rfl) (dg:(backTo pos (starEach es X.env)).any (·.1)=false :=by rfl):PE X (.Call (.Name x p) (e::es) [] pos) (Ac r t) :=by
 refine ⟨?_⟩
 intro pins s σ H Q I h
 refine Cc (cU I hg hm hv ?_ hn d6)
 exact PyProof.Rows.callWith_builtin1 (thn (ha pos pins s σ H _ I h) fun us s1 ⟨vs,H1,I1,r1,q1⟩=>hc pins s1 σ H1 vs us Q I1 r1 q1) he dg
theorem vR (hc:cm X (.type T) r) (hg:Gl X x) (hm:X.mg x=none) (hv:bootBuiltins x=some (.type T)) (ha:PA X (e::es) t) (hn:x ≠ "__name__" := by decide) (d6:(x==("__debug__" : cb))=false :=by decide)
  (he:starEach (e::es) X.env=(false,eval e X.env)::starEach es X.env :=by rfl) (dg:(backTo pos (starEach es X.env)).any (·.1)=false :=by rfl):PE X (.Call (.Name x p) (e::es) [] pos) (Ac r t) :=by
 refine ⟨?_⟩
 intro pins s σ H Q I h
 refine Cc (cU I hg hm hv ?_ hn d6)
 exact u8 (thn (ha pos pins s σ H _ I h) fun us s1 ⟨vs,H1,I1,r1,q1⟩=>hc pins s1 σ H1 vs us Q I1 r1 q1) he dg
theorem uj (hc:cm X (.type T) r) (hg:Gl X x) (hm:X.mg x=none) (hv:bootBuiltins x=some (.type T)) (hn:x ≠ "__name__" := by decide) (d6:(x==("__debug__" : cb))=false :=by decide) :
  PE X (.Call (.Name x p) [] [] pos) (Ac r DM) :=by
 refine ⟨?_⟩
 intro pins s σ H Q I h
 refine Cc (cU I hg hm hv ?_ hn d6)
 exact PyProof.Rows.callWith_type0 (hc pins s σ H [] [] Q I .nil h)
end
end L2
namespace HT
open PySem PyProof.Rows
def lexLt:List Int->List Int->Bool
 | [],[]=>false
 | [],_::_=>true
 |_::_,[]=>false
 |x::xs,y::ys=>if x=y then lexLt xs ys else decide (x<y)
theorem f9 (x y:Int) (xs ys:List Int):lexLt (x::xs) (y::ys)=if x=y then lexLt xs ys else decide (x<y):=rfl
section
variable {prog:gl} {w:ii} {A:l7} {E:am->ar->Prop} {s:ar}
theorem By {t b:ag} {vs ws:List am} {Q:am->ar->Prop} (ht:P3 s.heap t vs.toArray) (hb:P3 s.heap b ws.toArray) (hv:vs≠[])
  (h1:ws=[]->Q (.ref t) s) (h2:ws≠[]->Q (.ref s.heap.objs.size) {s with heap:=s.heap.push {cls:=.type "tuple",data:=.seq (vs++ws).toArray}})
  (hsz:vs.length+ws.length<=sizeLine):wpAny (model prog w) A (binaryOp .Add (.ref t) (.ref b)) Q E s :=by
 obtain ⟨⟨cls,dd,data,sl⟩,ho,hc,n,hd⟩:=id ht
 obtain ⟨⟨JO,sR,data2,oo⟩,jn,sS,n2,hd2⟩:=id hb
 simp only at hc hd sS hd2
 subst hc hd sS hd2
 have e:vs.toArray++ws.toArray=(vs++ws).toArray :=by simp
 by_cases hw:ws=[]
 ·exact concat_meets ⟨_,ho,rfl⟩ ⟨_,jn,rfl⟩ PV seq_tuple_add OJ OC (Ot _ _)
   (tuple_addW1 t b vs.toArray ws.toArray n n2 dd sR sl oo (by simpa using hv) (by simp [hw])) ⟨ho,jn,h1 hw⟩
 ·refine concat_meets ⟨_,ho,rfl⟩ ⟨_,jn,rfl⟩ PV seq_tuple_add OJ OC (Ot _ _)
   (tuple_addW2 t b vs.toArray ws.toArray n n2 dd sR sl oo (by simpa using hv) (by simpa using hw) (by rw [ce,ce];exact hsz)) ⟨ho,jn,?_⟩
  rw [e]
  exact h2 hw
def aJ (n d:Nat):Option Int->Nat
 |none=>d
 |some v=>if v<0 then (v+(n:Int)).toNat else min v.toNat n
theorem DS (n d:Nat) (hd:d<=n) (o:Option Int):aJ n d o<=n :=by
 cases o with
 |none=>exact hd
 |some v=>
  show (if v<0 then (v+(n:Int)).toNat else min v.toNat n)<=n
  by_cases hv:v<0
  ·rw [if_pos hv];omega
  ·rw [if_neg hv];exact Nat.min_le_right _ _
theorem sT (v:Int) (n d:Nat):(if v<0 then max (v+(n:Int)) 0 else min v (n:Int))=((aJ n d (some v):Nat):Int) :=by
 show (if v<0 then max (v+(n:Int)) 0 else min v (n:Int))=(((if v<0 then (v+(n:Int)).toNat else min v.toNat n):Nat):Int)
 by_cases hv:v<0
 ·simp only [if_pos hv];omega
 ·simp only [if_neg hv];omega
theorem uk (lo hi:Option Int) (n:Nat):Om lo hi 1 (n:Int)=(((aJ n 0 lo:Nat):Int),((aJ n n hi:Nat):Int)) :=by
 have h1:¬ ((1:Int)<0) :=by omega
 unfold Om
 simp only [h1,if_false]
 refine Prod.ext ?_ ?_
 ·cases lo with
  |none=>rfl
  |some v=>exact sT v n 0
 ·cases hi with
  |none=>rfl
  |some v=>exact sT v n n
theorem um (i j:Nat):LF (i:Int) (j:Int) 1=j - i :=by
 unfold LF
 have h1:(1:Int) > 0 :=by omega
 simp only [h1,if_true,Int.ediv_one]
 split <;> omega
theorem lY {v:am} {o:Option Int} {Q:Option Int->ar->Prop} (p:O6 v o) (h:Q o s):wpAny (model prog w) A (ma.Slice.slicePartIndex v) Q E s :=by
 cases p with
 |none=>exact slicePart_none h
 |int i t=>exact slicePart_int h
theorem gB {sl:ag} {vl vu:am} {lo hi:Option Int} {n:Nat} {Q:Int×Int×Nat->ar->Prop} (hs:s.heap.IsSliceOf sl vl vu .none) (pl:O6 vl lo) (pu:O6 vu hi)
  (h:Q (((aJ n 0 lo:Nat):Int),1,aJ n n hi - aJ n 0 lo) s):wpAny (model prog w) A (ma.Slice.sliceApplied (.ref sl) (pure (n:Int))) Q E s :=by
 obtain ⟨os,dh,Ad,iY⟩:=id hs
 unfold ma.Slice.sliceApplied ma.Slice.sliceFields
 refine ac (ac (wp dh iY (x:=vl) rfl (ac (wp dh iY (x:=vu) rfl (ac (wp dh iY (x:=.none) rfl (ba ?_)))))))
 refine ac (slicePart_none ?_)
 show wpAny _ _ (if ((1:Int)==0)=true then _ else _) _ _ s
 rw [if_neg (by decide)]
 refine ac (lY pl (ac (lY pu (ac (ba ?_)))))
 show wpAny _ _ (match Om lo hi 1 (n:Int) with|(lo,hi)=>pure (lo,(1:Int),LF lo hi 1)) _ _ s
 rw [uk lo hi n]
 show wpAny _ _ (pure (((aJ n 0 lo:Nat):Int),(1:Int),LF ((aJ n 0 lo:Nat):Int) ((aJ n n hi:Nat):Int) 1)) _ _ s
 rw [um]
 exact ba h
theorem yA (xs:Array am) (i k:Nat):((io k).filterMap fun (m:Nat)=>xs[((i:Int)+(m:Int) * 1).toNat]?).toArray=((xs.toList.drop i).take k).toArray :=by
 have e:(fun (m:Nat)=>xs[((i:Int)+(m:Int) * 1).toNat]?)=fun m=>xs[i+m]?:=by
  funext m
  have:((i:Int)+(m:Int) * 1).toNat=i+m :=by omega
  rw [this]
 rw [e]
 have:=pick_run xs i k
 rw [List.filterMap_map] at this
 have e2:((fun x=>xs[x]?) ∘ fun x=>i+x)=fun m=>xs[i+m]?:=rfl
 rw [e2] at this
 rw [this]
theorem kD {t sl:ag} {items:Array am} {vl vu:am} {lo hi:Option Int} {Q:am->ar->Prop} (ht:P3 s.heap t items) (hs:s.heap.IsSliceOf sl vl vu .none) (pl:O6 vl lo) (pu:O6 vu hi)
  (hw:¬ (aJ items.size 0 lo=0/\aJ items.size items.size hi=items.size))
  (h:Q (.ref s.heap.objs.size) {s with heap:=s.heap.push {cls:=.type "tuple",data:=.seq ((items.toList.drop (aJ items.size 0 lo)).take (aJ items.size items.size hi - aJ items.size 0 lo)).toArray}})
  (hsz:items.size<=sizeLine):wpAny (model prog w) A (getItem (.ref t) (.ref sl)) Q E s :=by
 have pz:sizeOk (.seq ((items.toList.drop (aJ items.size 0 lo)).take (aJ items.size items.size hi - aJ items.size 0 lo)).toArray) :=by
  show ((items.toList.drop (aJ items.size 0 lo)).take (aJ items.size items.size hi - aJ items.size 0 lo)).toArray.size<=sizeLine
  rw [ce,GT,OQ,i0]
  omega
 have hj:aJ items.size items.size hi<=items.size:=DS _ _ (br _) hi
 obtain ⟨os,dh,Ad,iY⟩:=id hs
 have sU:s.TypeIs (.ref sl) "slice" := ⟨os,dh,Ad⟩
 unfold getItem
 try with_reducible refine wl ?_
 first|refine ac (ba ?_)|skip
 refine ac (wpAny_sequenceKey ht.typeIs (by decide) ?_)
 refine ac (on (name:=i4 "__getitem__") ht.typeIs BB
  (rb BB ht.typeIs entry_tuple_getitem ?_ (args_tuple_getitem _ _)))
 show wpAny _ _ (ma.Tuple.tupleItemsOf (.ref t)>>=_) _ _ s
 refine ac (tupleItemsOf_ ht ?_)
 refine ac (MW sU ?_)
 rw [if_pos (by decide)]
 refine ac (gB hs pl pu ?_)
 have Ae:¬ ((((aJ items.size 0 lo:Nat):Int)==0 && (1:Int)==1 && (aJ items.size items.size hi - aJ items.size 0 lo)==items.size)=true) :=by
  intro q
  rw [xw,xw] at q
  have q1:((aJ items.size 0 lo:Nat):Int)=0:=eq_of_beq q.1.1
  have q2:aJ items.size items.size hi - aJ items.size 0 lo=items.size:=eq_of_beq q.2
  exact hw ⟨by omega,by omega⟩
 show wpAny _ _ (if (((aJ items.size 0 lo:Nat):Int)==0 && (1:Int)==1 && (aJ items.size items.size hi - aJ items.size 0 lo)==items.size)=true then _ else _) _ _ s
 rw [if_neg Ae,yA]
 first
  |exact ac (m:=Cf _) (mT (ba ⟨_,rfl,ba h⟩) pz)
  |exact ac (m:=Cf _) (mT (ac (ba (ba ⟨_,rfl,ba h⟩))) pz)
  |exact ac (ac (m:=Cf _) (mT (ba (ba ⟨_,rfl,ba h⟩)) pz))
  |exact ac (ac (m:=Cf _) (mT (ba ⟨_,rfl,ba h⟩) pz))
end
end HT
namespace L2
open PySem PySem.Spec PyProof.Rows
abbrev TO:=St->Hp->(Option Int->Hp->Prop)->Prop
def PO (X:Cx) (e:Option dL) (t:TO):Prop:=
 ∀(pins:List (ag×lm)) (s:ar) (σ:St) (H:Hp) (Q:Option Int->Hp->Prop),Inv X pins σ H s->t σ H Q->
  wpAny (model X.prog X.w) X.A (evalPart e X.env) (fun u s'=>∃o H',Inv X pins σ H' s'/\O6 u o/\Q o H') X.xe s
def BA:TO:=fun _ H Q=>Q none H
def GV (t:TE):TO:=fun σ H Q=>t σ H fun x H1=>∃i,x=.int i/\Q (some i) H1
section
variable {X:Cx} {e:dL} {te:TE} {lo hi:Option dL} {tl th:TO} {pos p2:u4}
theorem BC:PO X none BA :=by
 intro pins s σ H Q I h
 rw [evalPart_none]
 exact ba ⟨none,H,I,.none,h⟩
theorem BD (h:PE X e te):PO X (some e) (GV te) :=by
 intro pins s σ H Q I hw
 rw [evalPart_some]
 refine thn (h pins s σ H _ I hw) fun u s1 ⟨x,H1,I1,r1,q1⟩=>?_
 obtain ⟨i,rfl,q⟩:=q1
 obtain ⟨t,rfl⟩:=r1
 exact ⟨some i,H1,I1,.int i t,q⟩
def vT (X:Cx) (r:V->Option Int->Option Int->Hp->VK->Prop):Prop:=
 ∀(pins:List (ag×lm)) (s:ar) (σ:St) (H:Hp) (x:V) (v vl vu:am) (lo hi:Option Int) (sl:ag) (Q:VK),Inv X pins σ H s->RelV x v->s.heap.IsSliceOf sl vl vu .none->O6 vl lo->O6 vu hi->r x lo hi H Q->
  ∃T id,typeLookup (.type T) "__getitem__" = pure (some (.builtin id))/\s.TypeIs v T/\wpAny (model X.prog X.w) X.A (getItem v (.ref sl)) (EP X pins σ Q) X.xe s
def KR (r:V->Option Int->Option Int->Hp->VK->Prop) (te:TE) (tl th:TO):TE:=fun σ H Q=>te σ H fun x H1=>tl σ H1 fun l H2=>th σ H2 fun u H3=>r x l u H3 Q
theorem yB {r:V->Option Int->Option Int->Hp->VK->Prop} (hr:vT X r) (he:PE X e te) (hl:PO X lo tl) (hu:PO X hi th):PE X (.Subscript e (.Slice lo hi none p2) pos) (KR r te tl th) :=by
 refine ⟨?_⟩
 intro pins s σ H Q I h
 refine Subscript_ (thn (he pins s σ H _ I h) fun v s1 ⟨x,H1,I1,r1,q1⟩=>?_)
 refine wpAny_Slice (thn (hl pins s1 σ H1 _ I1 q1) fun vl s2 ⟨l,H2,I2,pl,q2⟩=>thn (hu pins s2 σ H2 _ I2 q2) fun vu s3 ⟨u,H3,I3,pu,q3⟩=>?_)
 rw [evalPart_none]
 refine ba ?_
 have I4:Inv X pins σ H3 {s3 with heap:=s3.heap.push {cls:=.type "slice",data:=.fields #[vl,vu,.none]}}:=I3.kept (t':=s3.toks) fun b ob q=>bn _ q
 obtain ⟨T,id,hT,ht,hg⟩:=hr pins {s3 with heap:=s3.heap.push {cls:=.type "slice",data:=.fields #[vl,vu,.none]}} σ H3 x v vl vu l u s3.heap.objs.size Q I4 r1 (ij.IsSliceOf.new ..) pl pu q3
 show wpAny (model X.prog X.w) X.A (subscriptTail e (.Slice lo hi none p2) v (.ref s3.heap.objs.size)) (EP X pins σ Q) X.xe {s3 with heap:=s3.heap.push {cls:=.type "slice",data:=.fields #[vl,vu,.none]}}
 exact tail_any (ops:=[.ref s3.heap.objs.size,v]) ht hT hg (by with_unfolding_all rfl)
def fT (xs:List V) (lo hi:Option Int):List V:=(xs.drop (HT.aJ xs.length 0 lo)).take (HT.aJ xs.length xs.length hi - HT.aJ xs.length 0 lo)
theorem kN (xs:List V) (lo hi:Option Int):(fT xs lo hi).length<=xs.length :=by
 unfold fT
 rw [GT,OQ]
 omega
def JP (K:bi):V->Option Int->Option Int->Hp->VK->Prop:=fun x lo hi H Q=>∃a xs,x=.ref a/\bp K H a xs /\
 ¬ (HT.aJ xs.length 0 lo=0/\HT.aJ xs.length xs.length hi=xs.length)/\∀p,H p=none->Q (.ref p) (upd H p (.tup (fT xs lo hi)))
theorem DT:vT X (JP X.K) :=by
 intro pins s σ H x v vl vu lo hi sl Q I rx hs pl pu h
 obtain ⟨a,xs,rfl,hx,hw,q⟩:=h
 cases rx
 obtain ⟨its,r,ht,hz⟩:=I.tuple hx
 have hlen:its.toArray.size=xs.length :=by rw [ce];exact r.length.symm
 refine ⟨"tuple",_,BB.lookup,ht.typeIs,?_⟩
 refine HT.kD ht hs pl pu (by rw [hlen];exact hw) ?_ (by rw [hlen];exact hz)
 rw [hlen]
 refine ⟨.ref s.heap.objs.size,_,I.laid (t':=s.toks) (o:=.tup (fT xs lo hi)) (fun b ob q=>bn _ q) (br _) ?_,rfl,q _ (I.hok.fresh (br _))⟩
 exact ⟨sB (kN xs lo hi) hz,_,(r.drop (HT.aJ xs.length 0 lo)).take (HT.aJ xs.length xs.length hi - HT.aJ xs.length 0 lo),fR.new _ _⟩
def GW (K:bi):R2:=fun x y H Q=>∃a b xs ys,x=.ref a/\y=.ref b/\bp K H a xs/\bp K H b ys/\xs≠[]/\xs.length+ys.length<=sizeLine /\
 (ys=[]->Q (.ref a) H)/\(ys≠[]->∀p,H p=none->Q (.ref p) (upd H p (.tup (xs++ys))))
theorem Vals.ki {xs:List V} {us:List am} (r:Vals xs us):us=[] ↔ xs=[] :=by
 cases r with
 |nil=>simp
 |cons _ _=>simp
theorem BE:OpR X (binaryOp .Add) (GW X.K) :=by
 intro pins s σ H x y v u Q I rx ry h
 obtain ⟨a,b,xs,ys,rfl,rfl,ha,hb,hx,hz,q1,q2⟩:=h
 cases rx
 cases ry
 obtain ⟨its,r1,p1,_⟩:=I.tuple ha
 obtain ⟨dS,r2,p2,_⟩:=I.tuple hb
 refine HT.By p1 p2 (fun z=>hx (r1.ki.mp z)) (fun z=>⟨.ref a,H,I,rfl,q1 (r2.ki.mp z)⟩) (fun z=>?_) (by rw [<- r1.length,<- r2.length];exact hz)
 refine ⟨.ref s.heap.objs.size,_,I.laid (t':=s.toks) (o:=.tup (xs++ys)) (fun b ob q=>bn _ q) (br _) ?_,rfl,q2 (fun w=>z (r2.ki.mpr w)) _ (I.hok.fresh (br _))⟩
 exact ⟨by rw [xb];exact hz,_,r1.append r2,fR.new _ _⟩
end
def fb (n:Nat) (i:Int):Option Nat:=if 0<=i then (if i<n then some i.toNat else none) else if -(n:Int)<=i then some (i+n).toNat else none
def cu {α:Type} (xs:List α) (i:Int):Option α:=(fb xs.length i).bind fun j=>xs[j]?
theorem m7 {n:Nat} {i:Int} {j:Nat} (h:fb n i=some j):seqIndex? i n=some j/\j<n /\ -(n:Int)<=i/\i<n :=by
 unfold fb at h
 by_cases h0:0<=i
 ·rw [if_pos h0] at h
  by_cases h1:i<n
  ·rw [if_pos h1] at h
   have e:i.toNat=j:=i1 h
   exact ⟨by rw [seqIndex_of h0 h1,e],by omega,by omega,h1⟩
  ·rw [if_neg h1] at h;cases h
 ·rw [if_neg h0] at h
  by_cases h1 : -(n:Int)<=i
  ·rw [if_pos h1] at h
   have e:(i+n).toNat=j:=i1 h
   exact ⟨by rw [seqIndex_neg (by omega) h1,e],by omega,h1,by omega⟩
  ·rw [if_neg h1] at h;cases h
theorem m8 {α:Type} {xs:List α} {i:Int} {v:α} (h:cu xs i=some v):∃j,seqIndex? i xs.length=some j/\xs[j]?=some v/\j<xs.length /\ -(xs.length:Int)<=i/\i<xs.length :=by
 unfold cu at h
 cases e:fb xs.length i with
 |none=>rw [e] at h;cases h
 |some j=>
  rw [e] at h
  obtain ⟨h1,h2,h3,h4⟩:=m7 e
  exact ⟨j,h1,h,h2,h3,h4⟩
theorem cY {α:Type} {xs:List α} {j:Nat} {v:α} (h:xs[j]?=some v):cu xs (j:Int)=some v :=by
 have hj:j<xs.length:=(bv.mp h).1
 have e:fb xs.length (j:Int)=some j :=by
  unfold fb
  rw [if_pos (by omega),if_pos (by omega)];simp
 unfold cu;rw [e];exact h
def sV (b:dL):Prop:=∀o i,subscripted b false o i=operate [o,i] (getItem o i)
def jo (X:Cx) (r:R2):Prop:=
 ∀(value slice:dL) (pins:List (ag×lm)) (s:ar) (σ:St) (H:Hp) (x y:V) (v u:am) (Q:VK),Inv X pins σ H s->RelV x v->RelV y u->r x y H Q->
  subscripted slice false v u=operate [v,u] (getItem v u)->wpAny (model X.prog X.w) X.A (subscriptTail value slice v u) (EP X pins σ Q) X.xe s
def Af (X:Cx) (id:String) (r:V->List V->Hp->VK->Prop):Prop:=
 ∀(pins:List (ag×lm)) (s:ar) (σ:St) (H:Hp) (x:V) (xs:List V) (v:am) (us:List am) (Q:VK),Inv X pins σ H s->RelV x v->Vals xs us->r x xs H Q->
  wpAny (model X.prog X.w) X.A (call (.builtin id) (v::us)) (EP X pins σ Q) X.xe s
section
variable {X:Cx} {a b:dL} {ta tb:TE} {pos:u4}
theorem jo.or {r r':R2} (h:jo X r) (h':jo X r'):jo X (fun x y H Q=>r x y H Q\/r' x y H Q) :=by
 intro value slice pins s σ H x y v u Q I rx ry q hs
 rcases q with q|q
 ·exact h value slice pins s σ H x y v u Q I rx ry q hs
 ·exact h' value slice pins s σ H x y v u Q I rx ry q hs
theorem GX {r:R2} (hr:jo X r) (ha:PE X a ta) (hb:PE X b tb) (hs:sV b):PE X (.Subscript a b pos) (z9 r ta tb) :=by
 refine ⟨?_⟩
 intro pins s σ H Q I h
 exact Subscript_ (DA ha hb I h fun v u s2 x y H2 I2 rx ry q=>hr a b pins s2 σ H2 x y v u Q I2 rx ry q (hs _ _))
def DU (K:bi):R2:=fun x y H Q=>∃p xs i v,x=.ref p/\y=.int i/\bB K H p xs/\cu xs i=some v/\Q v H
def DV (K:bi):R2:=fun x y H Q=>∃p xs i v,x=.ref p/\y=.int i/\bp K H p xs/\cu xs i=some v/\Q v H
def DW:R2:=fun x y H Q=>∃z i c,x=.str z/\y=.int i/\z.length<=sizeLine/\cu z.cps.toList i=some c/\Q (.str ⟨#[c]⟩) H
theorem BF:jo X (DU X.K) :=by
 intro value slice pins s σ H x y v u Q I rx ry h hs
 obtain ⟨p,xs,i,z,rfl,rfl,hq,he,q⟩:=h
 cases rx
 obtain ⟨t,rfl⟩:=ry
 obtain ⟨its,r,pl,hz⟩:=I.list hq
 obtain ⟨j,h1,h2,h3,h4,h5⟩:=m8 he
 obtain ⟨w,ew,vU⟩:=r.get h2
 have hl:=r.length
 have hn:=il
 have fin:EP X pins σ Q w s:=⟨z,H,I,vU,q⟩
 by_cases h0:0<=i
 ·have hj:i.toNat=j :=by
   rw [seqIndex_of h0 h5] at h1
   exact i1 h1
  exact item_listR pl.isList h0 (by omega) (by rw [hj];simpa using ew) fin hs
 ·have hj:(i+(its.toArray.size:Int)).toNat=j :=by
   rw [seqIndex_neg (by omega) h4] at h1
   rw [ce,<- hl]
   exact i1 h1
  exact subscriptTail_builtinR (x:=w) pl.isList.typeIs slot_list_getitem.lookup
   (wpAny_getItem_list_neg (Q:=fun r s'=>r=w/\EP X pins σ Q r s') pl.isList (by omega) (by rw [ce] <;> omega) (by omega) (by rw [hj];simpa using ew) ⟨rfl,fin⟩) hs
theorem DX:jo X (DV X.K) :=by
 intro value slice pins s σ H x y v u Q I rx ry h hs
 obtain ⟨p,xs,i,z,rfl,rfl,hq,he,q⟩:=h
 cases rx
 obtain ⟨t,rfl⟩:=ry
 obtain ⟨its,r,pl,hz⟩:=I.tuple hq
 obtain ⟨j,h1,h2,h3,h4,h5⟩:=m8 he
 obtain ⟨w,ew,vU⟩:=r.get h2
 have hl:=r.length
 have hn:=il
 have fin:EP X pins σ Q w s:=⟨z,H,I,vU,q⟩
 exact subscriptTail_builtinR (x:=w) pl.typeIs slot_tuple_getitem.lookup
  (getItem_tuple (j:=j) (Q:=fun r s'=>r=w/\EP X pins σ Q r s') pl (by omega) (by omega) (by rw [ce,<- hl];exact h1) (by simpa using ew) ⟨rfl,fin⟩) hs
theorem DY:jo X DW :=by
 intro value slice pins s σ H x y v u Q I rx ry h hs
 obtain ⟨z,i,c,rfl,rfl,hz,he,q⟩:=h
 obtain ⟨t,rfl⟩:=rx
 obtain ⟨t',rfl⟩:=ry
 obtain ⟨j,h1,h2,h3,h4,h5⟩:=m8 he
 have hl:z.cps.toList.length=z.length :=by simp [cb.length]
 rw [hl] at h1 h4 h5
 have hn:=il
 exact tail_any (typeIs_str s z t) slot_str_getitem.lookup (getItem_str (c:=c) (by
  have e1:decide (i < -(2 ^ 63:Int))=false:=decide_eq_false (by omega)
  have e2:decide (i ≥ 2 ^ 63)=false:=decide_eq_false (by omega)
  rw [e1,e2,Bool.or_false]) (by rw [h1];simpa using h2) ⟨.str ⟨#[c]⟩,H,I.tok _,⟨_,rfl⟩,q⟩) hs
def HZ (K:bi):R2:=fun x y H Q=>DU K x y H Q\/DV K x y H Q\/DW x y H Q
theorem DZ:jo X (HZ X.K):=BF.or (DX.or DY)
theorem uo (its:List am) (n j:Nat) (u:am):Co (·.setIfInBounds j u) {cls:=.type "list",data:=.seq its.toArray n}={cls:=.type "list",data:=.seq (its.set j u).toArray n}:=by
 simp [Co]
theorem Inv.lst {pins:List (ag×lm)} {σ:St} {H:Hp} {s:ar} {p:ag} {xs:List V} (I:Inv X pins σ H s) (h:H p=some (.lst xs)) :
  ∃(its:List am) (n:Nat),Vals xs its/\s.heap.get? p=some {cls:=.type "list",data:=.seq its.toArray n}/\xs.length<=sizeLine :=by
 obtain ⟨z,its,n,r,e⟩:=I.hok p _ h
 exact ⟨its,n,r,e,z⟩
theorem Inv.D0 {pins:List (ag×lm)} {σ:St} {H:Hp} {s:ar} {p:ag} {xs ys:List V} {its its':List am} {n n':Nat} {f:lm->lm} (I:Inv X pins σ H s) (h:H p=some (.lst xs))
  (ho:s.heap.get? p=some {cls:=.type "list",data:=.seq its.toArray n}) (hf:f {cls:=.type "list",data:=.seq its.toArray n}={cls:=.type "list",data:=.seq its'.toArray n'}) (r:Vals ys its') (hz:ys.length<=sizeLine) (t:Nat) :
  Inv X pins σ (upd H p (.lst ys)) {s with heap:=s.heap.update p f,toks:=t}:=by
 have e:(s.heap.update p f).get? p=some {cls:=.type "list",data:=.seq its'.toArray n'}:=by
  rw [v6 f ho (by rw [hf] <;> rfl),hf]
 refine I.write (x:=p) (e:=p) (by rw [h];trivial) (.inl rfl) (fun b u hb q=>(wr _ _ (BN hb)).trans q) ⟨_,e⟩ ?_
 exact ⟨hz,its',n',r,e⟩
def GY:V->V->V->Hp->(Hp->Prop)->Prop:=fun o i v H Q=>∃p xs k j,o=.ref p/\i=.int k/\H p=some (.lst xs)/\fb xs.length k=some j/\Q (upd H p (.lst (xs.set j v)))
theorem set_list:Dj X GY :=by
 intro pins s σ H o i v ov iv u Q I ro ri rv h
 obtain ⟨p,xs,k,j,rfl,rfl,hp,hj,q⟩:=h
 cases ro
 obtain ⟨t,rfl⟩:=ri
 obtain ⟨its,n,r,ho,hz⟩:=I.lst hp
 obtain ⟨h1,h2,h3,h4⟩:=m7 hj
 have hl:=r.length
 have hn:=il
 have I':Inv X pins σ (upd H p (.lst (xs.set j v))) {s with heap:=s.heap.update p (Co (·.setIfInBounds j u))}:=
  I.D0 hp ho (uo its n j u) (r.set rv j) (by rw [On];exact hz) s.toks
 by_cases h0:0<=k
 ·have hk:k.toNat=j :=by
   rw [seqIndex_of h0 h4] at h1
   exact i1 h1
  exact PySem.W.ki_setAt ho h0 (by omega) (by rw [ce,<- hl];exact h4) (by rw [hk];exact ⟨_,I',q⟩)
 ·have hk:(k+(its.toArray.size:Int)).toNat=j :=by
   rw [seqIndex_neg (by omega) h3] at h1
   rw [ce,<- hl]
   exact i1 h1
  exact PySem.W.ki_setBack ho (by omega) (by rw [ce,<- hl];exact h3) (by omega) (by rw [hk];exact ⟨_,I',q⟩)
theorem pS (lo hi:Option Int) (n:Nat):(sliceBounds lo hi none n).1=((HT.aJ n 0 lo:Nat):Int)/\(sliceBounds lo hi none n).2.1=((HT.aJ n n hi:Nat):Int)/\(sliceBounds lo hi none n).2.2=1 :=by
 refine ⟨?_,?_,rfl⟩
 ·cases lo with
  |none=>simp [sliceBounds,HT.aJ]
  |some i=>
   simp only [sliceBounds,HT.aJ,Option.getD_none,show (1:Int) > 0 by decide,if_true]
   by_cases h:i<0
   ·simp only [h,if_true] <;> omega
   ·simp only [h,if_false] <;> omega
 ·cases hi with
  |none=>simp [sliceBounds,HT.aJ]
  |some i=>
   simp only [sliceBounds,HT.aJ,Option.getD_none,show (1:Int) > 0 by decide,if_true]
   by_cases h:i<0
   ·simp only [h,if_true] <;> omega
   ·simp only [h,if_false] <;> omega
theorem o7 (its:List am) (lo hi:Option Int):slicePick its.toArray lo hi none=((its.drop (HT.aJ its.length 0 lo)).take (HT.aJ its.length its.length hi - HT.aJ its.length 0 lo)).toArray :=by
 obtain ⟨h1,h2,h3⟩:=pS lo hi its.toArray.size
 unfold slicePick
 rw [h1,h2,h3]
 simp only [sliceRange_one,pick_run,ce] <;> rfl
def JQ (K:bi):V->Option Int->Option Int->Hp->VK->Prop:=fun x lo hi H Q=>∃a xs,x=.ref a/\bB K H a xs/\∀p,H p=none->Q (.ref p) (upd H p (.lst (fT xs lo hi)))
theorem Kz:vT X (JQ X.K) :=by
 intro pins s σ H x v vl vu lo hi sl Q I rx hs pl pu h
 obtain ⟨a,xs,rfl,hx,q⟩:=h
 cases rx
 obtain ⟨its,r,ht,hz⟩:=I.list hx
 have hlen:=r.length
 refine ⟨"list",_,slot_list_getitem.lookup,ht.isList.typeIs,?_⟩
 refine wpAny_getItem_list_slice ht.isList hs pl pu .none (by simp) ?_ (by rw [ce] <;> omega)
 rw [o7,<- hlen]
 refine ⟨.ref s.heap.objs.size,_,I.laid (t':=s.toks) (o:=.lst (fT xs lo hi)) (fun b ob q=>bn _ q) (br _) ?_,rfl,q _ (I.hok.fresh (br _))⟩
 exact ⟨sB (kN xs lo hi) hz,_,0,(r.drop (HT.aJ xs.length 0 lo)).take (HT.aJ xs.length xs.length hi - HT.aJ xs.length 0 lo),hX _ rfl⟩
theorem o8:cm X (.type "tuple") (fun xs H Q=>∃p ys,xs=[.ref p]/\((bB X.K H p ys/\∀l,H l=none->Q (.ref l) (upd H l (.tup ys)))\/(bp X.K H p ys/\Q (.ref p) H))) :=by
 intro pins s σ H xs us Q I r h
 obtain ⟨p,ys,rfl,h⟩:=h
 obtain ⟨u,rfl,rx⟩:=vals1 r
 cases rx
 rcases h with ⟨hq,q⟩|⟨hq,q⟩
 ·obtain ⟨its,r',pl,hz⟩:=I.list hq
  have hlen:=r'.length
  refine call_tuple_list pl.isList (fun h' kp=>?_) (by simp only [ce] <;> omega)
  have I1:Inv X pins σ H {s with heap:=h'}:=I.kept (t':=s.toks) kp
  have I2:Inv X pins σ (upd H h'.objs.size (.tup ys)) {s with heap:=h'.push {cls:=.type "tuple",data:=.seq its.toArray}}:=
   I1.laid (t':=s.toks) (fun b o e=>bn _ e) (br _) (show aZ X.prog X.w _ _ _ (.tup ys) from ⟨hz,its,r',fR.new _ _⟩)
  exact ⟨.ref h'.objs.size,_,I2,rfl,q _ (I1.hok.fresh (br _))⟩
 ·obtain ⟨its,r',pl,hz⟩:=I.tuple hq
  exact call_tuple_same pl ⟨.ref p,H,I,rfl,q⟩
def D1 (K:bi) (T:String) (x:V) (H:Hp):Prop:=match x with
 | .str _=>T = "str"
 | .int _=>T = "int"
 | .ref p=>(T = "list" /\ ∃xs,bB K H p xs)\/(T = "tuple" /\ ((∃o,K.lookup p=some o/\o.cls=.type "tuple" /\ o.dict=none)\/∃xs,H p=some (.tup xs))) \/
   (T = "dict" /\ ((∃aD,H p=some (.dK aD))\/∃aD,H p=some (.dT aD)))\/(T = "set" /\ ∃S n,H p=some (.set S n))
 |_=>False
theorem D2 {pins:List (ag×lm)} {σ:St} {H:Hp} {s:ar} {T:String} {x:V} {v:am} (I:Inv X pins σ H s) (r:RelV x v) (ty:D1 X.K T x H) :
  s.TypeIs v T/\∀a,v=.ref a->∃ob,s.heap.get? a=some ob/\ob.dict=none :=by
 cases x with
 |str z=>
  obtain ⟨t,rfl⟩:=r
  cases (show T = "str" from ty)
  exact ⟨typeIs_str s z t,fun _ e=>nomatch e⟩
 |int i=>
  obtain ⟨t,rfl⟩:=r
  cases (show T = "int" from ty)
  exact ⟨typeIs_int s i t,fun _ e=>nomatch e⟩
 |ref p=>
  cases r
  rcases ty with ⟨rfl,xs,hq⟩|⟨rfl,⟨o,hk,hc,hd⟩|⟨xs,hk⟩⟩|⟨rfl,hk⟩|⟨rfl,S,n,hk⟩
  ·obtain ⟨its,_,pl,_⟩:=I.list hq
   refine ⟨pl.isList.typeIs,fun a e=>?_⟩
   cases e
   obtain ⟨o,n,e,c,hd,_⟩:=pl
   exact ⟨o,e,hd⟩
  ·refine ⟨⟨o,I.dY p o hk,hc⟩,fun a e=>?_⟩
   cases e
   exact ⟨o,I.dY _ o hk,hd⟩
  ·obtain ⟨_,its,_,o,e,c,n,d,hd⟩:=I.hok p _ hk
   refine ⟨⟨o,e,c⟩,fun a e2=>?_⟩
   cases e2
   exact ⟨o,e,hd⟩
  ·have z:∃o,s.heap.get? p=some o/\o.ExactDict :=by
    rcases hk with ⟨aD,hk⟩|⟨aD,hk⟩
    ·obtain ⟨_,_,_,_,o,_,_,e,ex,_⟩:=I.hok p _ hk
     exact ⟨o,e,ex⟩
    ·obtain ⟨_,_,_,_,o,_,_,e,ex,_⟩:=I.hok p _ hk
     exact ⟨o,e,ex⟩
   obtain ⟨o,e,ex⟩:=z
   refine ⟨⟨o,e,ex.1⟩,fun a e2=>?_⟩
   cases e2
   exact ⟨o,e,ex.2.1⟩
  ·obtain ⟨o,_,_,_,e,ex,_⟩:=I.hok p _ hk
   refine ⟨⟨o,e,ex.1⟩,fun a e2=>?_⟩
   cases e2
   exact ⟨o,e,ex.2.1⟩
 |_=>exact ID ty
def Ia (K:bi) (T:String) (r:V->List V->Hp->VK->Prop) (to:TE) (t:TA):TE:=fun σ H Q=>to σ H fun x H1=>D1 K T x H1/\t σ H1 fun xs H2=>r x xs H2 Q
variable {o e:dL} {es:List dL} {to:TE} {t:TA} {name:cb} {apos aL:u4} {T id:String} {r:V->List V->Hp->VK->Prop}
theorem GZ (pa:PlainAttrs T) (slot:Slot T name id) (vV:typeOf (.builtin id)=pure (.type "method_descriptor")) (hm:Af X id r) (ho:PE X o to) (ha:PA X (e::es) t)
  (gb:attributeBase o name X.env (eval o X.env)=eval o X.env :=by rfl)
  (iB:((backTo aL (starEach (e::es) X.env)).all (fun x => !x.1) && (backToKw aL (keywordEach [] X.env)).all (fun x=>x.1.isSome)
   && decide ((e::es).length+([]:List Me).length+(if ([]:List Me).isEmpty then 0 else 1)<30))=true :=by rfl)
  (hline:(apos.endLine==aL.line)=true :=by rfl) (hs:starEach (e::es) X.env=(false,eval e X.env)::starEach es X.env :=by rfl) (fc:(backTo aL (starEach es X.env)).any (·.1)=false :=by rfl) :
  PE X (.Call (.Attribute o name apos) (e::es) [] aL) (Ia X.K T r to t) :=by
 refine ⟨?_⟩
 intro pins s σ H Q I h
 refine wpAny_Call_method_late gb iB hline rfl (thn (ho pins s σ H _ I h) fun v s1 ⟨x,H1,I1,r1,ty,q1⟩=>?_)
 obtain ⟨h1,h2⟩:=D2 I1 r1 ty
 refine ⟨T,id,pa,slot,vV,h1,h2,?_⟩
 have hA:=ha aL pins s1 σ H1 _ I1 q1
 rw [hs] at hA ⊢
 refine Calls.callWith_builtin (by show (false || (backTo aL (starEach es X.env)).any (·.1))=false;rw [fc] <;> rfl) (O7 ?_)
 exact thn hA fun us s2 ⟨vs,H2,I2,r2,q2⟩=>hm pins s2 σ H2 x vs v us Q I2 r1 r2 q2
end
def Ib (X:Cx) (id:String) (r:V->List V->Hp->VK->Prop):Prop:=
 ∀(pins:List (ag×lm)) (s:ar) (σ:St) (H:Hp) (x:V) (xs:List V) (v:am) (us:List am) (Q:VK),Inv X pins σ H s->RelV x v->Vals xs us->r x xs H Q->
  wpAny (model X.prog X.w) X.A (call (.builtin id) (v::us)) (EP X pins σ Q) X.xe s
theorem Vals.one:∀{x:V} {us:List am},Vals [x] us->∃u,us=[u]/\RelV x u
 |_,_,.cons r .nil=>⟨_,rfl,r⟩
theorem Vals.eraseIdx:∀{xs:List V} {us:List am} (i:Nat),Vals xs us->Vals (xs.eraseIdx i) (us.eraseIdx i)
 |_,_,_,.nil=>.nil
 |_,_,0,.cons _ t=>t
 |_,_,i+1,.cons r t=>.cons r (Vals.eraseIdx i t)
theorem Vals.rep {xs:List V} {us:List am} (h:Vals xs us):∀k:Nat,Vals (li k xs).flatten (li k us).flatten
 |0=>.nil
 |k+1=>by
          rw [wb,wb,Go,Go]
          exact Vals.append h (Vals.rep h k)
theorem oq {α:Type}:∀(l:List α) (i:Nat),(l.eraseIdx i).length<=l.length
 | [],_=>br _
 |_::_,0=>FF _
 |_::r,i+1=>Nat.succ_le_succ (oq r i)
theorem foldl_rep (its:List am):∀(k:Nat) (acc:List am),
  List.foldl (fun x1 x2=>x1++x2) acc.toArray (li k its.toArray)=(acc++(li k its).flatten).toArray
 |0,acc=>by simp
 |k+1,acc=>by
          have e:acc.toArray++its.toArray=(acc++its).toArray :=by simp
          have e2:(acc++its)++(li k its).flatten=acc++(li (k+1) its).flatten :=by
           rw [wb,Go,GE]
          rw [<- e2,<- foldl_rep its k (acc++its),<- e,wb,P7]
section
variable {X:Cx} {pins:List (ag×lm)} {σ:St} {H:Hp} {s:ar} {l b:ag} {xs ys zs:List V}
theorem Inv.D3 {its its':List am} {n:Nat} {f:Array am->Array am} {t':Nat} (I:Inv X pins σ H s) (hH:H l=some (.lst xs))
  (e:s.heap.get? l=some {cls:=.type "list",data:=.seq its.toArray n}) (hf:f its.toArray=its'.toArray) (hv:Vals ys its') (hz:ys.length<=sizeLine) :
  Inv X pins σ (upd H l (.lst ys)) {s with heap:=s.heap.update l (Co f),toks:=t'}:=by
 have q:=PySem.IsL.update e f
 rw [hf] at q
 refine I.write (x:=l) (e:=l) (by rw [hH];exact trivial) (.inl rfl) (fun b' u hb hu=>(wr s.heap (Co f) (BN hb)).trans hu) ⟨_,q⟩ ?_
 exact ⟨hz,its',_,hv,q⟩
theorem Inv.JR {its:List am} {t':Nat} (I:Inv X pins σ H s) (hv:Vals ys its) (hz:ys.length<=sizeLine) :
  Inv X pins σ (upd H s.heap.objs.size (.lst ys)) {s with heap:=s.heap.push {cls:=.type "list",data:=.seq its.toArray},toks:=t'}:=
 I.laid (fun _ _ q=>bn _ q) (br _) ⟨hz,its,0,hv,hX _ rfl⟩
theorem Inv.fresh (I:Inv X pins σ H s):H s.heap.objs.size=none:=I.hok.fresh (br _)
theorem Inv.yC (I:Inv X pins σ H s) (hH:H l=some (.lst xs)):xs.length<=sizeLine/\∃(its:List am) (n:Nat),Vals xs its/\xs.length=its.length/\s.heap.get? l=some {cls:=.type "list",data:=.seq its.toArray n}:=by
 obtain ⟨z,its,n,r,e⟩:=I.hok l _ hH
 exact ⟨z,its,n,r,r.length,e⟩
theorem yD {n:Nat} (h:n<=sizeLine):Ou n=false :=by
 unfold Ou
 exact decide_eq_false (by omega)
end
section
variable {X:Cx}
def BG:V->List V->Hp->VK->Prop:=fun x vs H Q=>∃l xs y,x=.ref l/\vs=[y]/\H l=some (.lst xs)/\xs.length<sizeLine/\Q .aj (upd H l (.lst (xs++[y])))
theorem ou:Ib X "list.append" BG :=by
 intro pins s σ H x vs v us Q I rx rv h
 obtain ⟨l,xs,y,rfl,rfl,hH,hz,q⟩:=h
 cases rx
 obtain ⟨u,rfl,ru⟩:=rv.one
 obtain ⟨z,its,n,r,hl,e⟩:=I.yC hH
 refine Ql F.slot_list_append ⟨_,e,rfl⟩ F.entry_list_append (F.args_list_append_2 _ _) (PySem.list_append l its.toArray n u (by rw [ce];omega)) ⟨e,?_⟩
 refine ⟨.aj,_,I.D3 (its':=its++[u]) hH e (by simp) (r.append (.cons ru .nil)) ?_,rfl,q⟩
 rw [xb,N5]
 omega
def D4:V->List V->Hp->VK->Prop:=fun x vs H Q=>∃l xs i k y,x=.ref l/\vs=[.int i]/\H l=some (.lst xs) /\ -(2 ^ 63)<=i/\i<2 ^ 63/\seqIndex? i xs.length=some k/\xs[k]?=some y/\Q y (upd H l (.lst (xs.eraseIdx k)))
theorem yE:Ib X "list.pop" D4 :=by
 intro pins s σ H x vs v us Q I rx rv h
 obtain ⟨l,xs,i,k,y,rfl,rfl,hH,h1,h2,hk,hy,q⟩:=h
 cases rx
 obtain ⟨u,rfl,ru⟩:=rv.one
 obtain ⟨t,rfl⟩:=ru
 obtain ⟨z,its,n,r,hl,e⟩:=I.yC hH
 obtain ⟨w,hw,vU⟩:=r.get hy
 refine Ql F.slot_list_pop ⟨_,e,rfl⟩ F.entry_list_pop (F.args_list_pop_2 _ _)
  (MeetsSeq.list_pop_at l its.toArray n i t k w (fitsIndex_both h1 h2) (by rw [ce,<- hl];exact hk) (by rw [<- OV];exact hw) (by rw [ce];omega)) ⟨e,?_⟩
 refine ⟨y,_,I.D3 (its':=its.eraseIdx k) hH e ?_ (r.eraseIdx k) ?_,vU,q⟩
 ·show its.toArray.eraseIdxIfInBounds k=(its.eraseIdx k).toArray
  rw [List.eraseIdxIfInBounds_toArray]
 ·have:=oq xs k
  omega
def JS:R2:=fun x y H Q=>∃l k xs,x=.ref l/\y=.int k/\H l=some (.lst xs) /\ -(2 ^ 63)<=k/\k<2 ^ 63/\xs.length * k.toNat<=sizeLine /\
 ∀p,H p=none->Q (.ref p) (upd H p (.lst (li k.toNat xs).flatten))
theorem len_rep {α:Type} (xs:List α) (k:Nat):(li k xs).flatten.length=k * xs.length :=by
 induction k with
 |zero=>simp
 |succ k ih=>rw [wb,Go,xb,ih,Nat.succ_mul,Nat.add_comm]
theorem D5:OpR X (binaryOp .Mult) JS :=by
 intro pins s σ H x y v u Q I rx ry h
 obtain ⟨l,k,xs,rfl,rfl,hH,h1,h2,hz,q⟩:=h
 cases rx
 obtain ⟨t,rfl⟩:=ry
 obtain ⟨z,its,n,r,hl,e⟩:=I.yC hH
 have hlen:its.toArray.size * k.toNat<=sizeLine :=by rw [ce,<- hl];exact hz
 have JT:¬ its.toArray.size * k.toNat > (2 ^ 63 - 1) / 8 :=by
  have:(sizeLine:Nat)<=(2 ^ 63 - 1) / 8 :=by decide
  omega
 have JU:¬ (!Builtin.List.listFitsIndex k)=true :=by
  rw [fitsIndex_both h1 h2]
  exact f8
 have G0:¬ Ou (its.toArray.size * k.toNat)=true :=by
  rw [yD hlen]
  exact f8
 have JV:List.foldl (fun x1 x2=>x1++x2) #[] (li (if its.toArray.isEmpty=true then 0 else k.toNat) its.toArray)=(li k.toNat its).flatten.toArray :=by
  have f0:∀m:Nat,List.foldl (fun x1 x2=>x1++x2) #[] (li m its.toArray)=(li m its).flatten.toArray:=fun m=>by
   have:=foldl_rep its m []
   rw [NS] at this
   exact this
  rw [f0]
  cases its with
  |nil=>simp
  |cons a r'=>rw [if_neg (by simp)]
 refine wpAny_binaryOp_repeat_ref (T := "list") (U := "int") (by decide) ⟨_,e,rfl⟩ (fun s'=>typeIs_int s' k t) noFill_list_mul F.fills_int_mul F.slot_int_rmul repeat_list F.slot_int_index.lookup
  (Ql F.slot_int_rmul (typeIs_int s k t) F.entry_int_rmul (F.args_int_rmul_2 _ _) (int___rmul___int_list k t l its.toArray n)
   ⟨e,rfl,⟨_,e,rfl⟩,Ql F.slot_list_mul ⟨_,e,rfl⟩ F.entry_list_mul (F.args_list_mul_2 _ _) (AutoListH.list___mul___list_int_3 l its.toArray n k t JU JT G0) ⟨e,?_⟩⟩)
 rw [JV]
 exact ⟨.ref _,_,I.JR (t':=s.toks) (r.rep k.toNat) (by rw [len_rep,Nat.mul_comm];exact hz),rfl,q _ I.fresh⟩
end
end L2
namespace Ic
open PySem PySem.W PySem.Calls PyProof.Rows
theorem lZ {P:Qm} {h:ij}:∀(ns:List Int) (vs:List am),WellAll P h vs (ns.map WData.int)->OW vs ns :=by
 intro ns
 induction ns with
 |nil=>
  intro vs w
  rw [O8] at w
  cases w
  exact .nil
 |cons n ns ih=>
  intro vs w
  rw [wP] at w
  cases w with
  |cons a b=>
   cases a
   exact .cons _ _ (ih _ b)
theorem vW {l:OpenLaw} {n:Nat} (hn:l.most=some n) {P:Qm} {h:ij} {args:List WData} {vals:List am}
  (uq:l.row.toRowW.claim.pre args=true) (D6:WellAll P h vals args) :
  ∃a vs ns,vals=[lc a]/\args=[WData.list (ns.map WData.int)]/\h.get? a=some {cls:=.type "list",data:=.seq vs.toArray}/\OW vs ns/\ns.length<=n :=by
 have KS:WShape.hasAll [] args [.list .int]=true:=(pre_splitW uq).1
 have hc:l.pre.holds [] {args:=args}=true:=(pre_splitW uq).2
 obtain ⟨d,r,rfl,h1,h2⟩:=hasAllW_cons KS
 obtain rfl:=hasAllW_nil h2
 obtain ⟨xs,rfl,h3⟩:=hasW_list h1
 obtain ⟨ns,rfl⟩:=items_int h3
 have hlen:ns.length<=n :=by
  unfold OpenLaw.pre at hc
  have h4:(WTm.not (.lt (.lit (.int (n:Int))) (.len (.arg 0)))).holds [] {args:=[.list (ns.map .int)]}=true :=by
   have h4:=(holds_andW hc).1
   rw [hn] at h4
   exact h4
  have h5:=condW_of h4 (w_not (w_lt w_lit (w_len_list (w_arg rfl))))
  rw [c8] at h5
  refine OR fun q=>?_
  have q':(n:Int)<((ns.length:Nat):Int) :=by omega
  first
   |(rw [decide_eq_true q'] at h5;exact absurd h5 (by decide))
   |(simp at h5;omega)
 cases D6 with
 |cons w1 w2=>
  cases w2
  cases w1 with
  |list ho fv=>exact ⟨_,_,ns,rfl,rfl,ho,lZ ns _ fv,hlen⟩
theorem vX (l:OpenLaw) (args:List WData):l.row.toRowW.claim.post args (.bool true) args=true:=
 postW_of (r:=l.row.toRowW) (X:=(true==true))
  (show WShape.has [] (.bool true) .bool=true by first|rfl|decide|simp [WShape.has,WShape.arms,WShape.armsAll])
  (show (WTm.eq .res (.lit (.bool true))).value [] {args:=args,res:=some (.bool true),after:=args}=some (.bool (true==true)) from w_eq_bool (w_res rfl) w_lit) rfl
theorem rW {l:OpenLaw} {n:Nat} {q:gl} {loose:List cb} {XP:(cb->Option am)->ij->Prop} {YP:ii->ij->Prop} {d:DefRec}
  (hn:l.most=some n) (vY:d.params.defaults=[])
  (call:∀(w:ii) (s₀ au:ar) (mg mb:cb->Option am) (fa:ag) (o:lm) (pm cd doc:am) (a:ag) (vs:List am) (ns:List Int),
   Ground q loose [] XP w s₀ mg mb au.heap->YP w au.heap->
   au.heap.get? fa=some o->o.data=.func (docDef d.name d.params d.body d.scope pm cd doc)->au.heap.CodeRec cd d.name->mg d.name=some (.ref fa)->
   au.heap.get? a=some {cls:=.type "list",data:=.seq vs.toArray}->OW vs ns->ns.length<=n->au.gens=#[]->
   codeAny (model l.prog w) callerA (.call (.ref fa) ⟨[.ref a],[]⟩) (fun r s'=>r=.ok (.ret (.bool true))/\OldK au.heap s'.heap/\s'.os=au.os/\Qh s'.gens) au) :
  WalkO q loose XP YP l.row.toRowW d [] (fun f vs=>Qi f vs) :=by
 intro w s₀ au mg mb G Y fa o pm cd doc dV kV ho hd fK hD vZ hg args vals as uq Nb Ni D6 Nj
 obtain rfl:dV=.none:=Dflts.none hD vY
 obtain rfl:kV=.none:=Dflts.noKw hD
 obtain ⟨a,vs,ns,rfl,rfl,yF,hints,hlen⟩:=vW hn uq D6
 refine enter_call (O4 (call w s₀ au mg mb fa o pm cd doc a vs ns G Y ho (fd_plain hd) fK vZ yF hints hlen hg) fun r s' hq=>?_)
 obtain ⟨rfl,h2,h3,h4⟩:=hq
 exact ⟨.inl ⟨.bool true,.bool true,[],rfl,fun _=>rfl,.bool true,vX l _,fun _=>⟨Px.nil,fun _ hm=>(nomatch hm)⟩⟩,h2,h3,h4⟩
end Ic
namespace L2
open PySem PySem.Spec PyProof.Rows
theorem ow:∀{vs:List am} {ns:List Int},OW vs ns->Vals (ns.map V.int) vs
 |_,_,.nil=>.nil
 |_,_,.cons n t h=>.cons ⟨t,rfl⟩ (ow h)
def eV (s:r9):Arguments:=match s with
 | .FunctionDef _ a _ _ _ _ _ _ _ _=>a
 |_=>{posonlyargs:=[],args:=[],vararg:=none,kwonlyargs:=[],kw_defaults:=[],kwarg:=none,defaults:=[]}
def cw (s:r9):List r9:=match s with
 | .FunctionDef _ _ b _ _ _ _ _ _ _=>b
 |_=>[]
def aw (s:r9):At:=match s with
 | .FunctionDef _ _ _ _ _ _ sc _ _ _=>sc
 |_=>{kind:=.function,names:=[],isGenerator:=false,isCoroutine:=false}
abbrev bC:ip:=fun _ _ _ _ _ _=>False
abbrev E0:XK:=fun _ _ _=>False
theorem bz {X:Cx}:Passes bC X E0:=fun _ _ _ _ _ _ _ h=>h.elim
structure ox (K:bi) (x qual:cb) (st:r9) (f:ag) (fd:nw):Prop where
 ex:∃(oc:am) (od:Option ag) (kV doc pm:am) (an:Option ag) (cD ct:am) (jm:Array (Option am)),
  fd=DO x qual (eV st) (cw st) (aw st) .none kV doc pm an cD ct/\K.lookup f=some ⟨oc,od,.func fd,jm⟩/\OA K cD qual=true
 kp:N1 K (.ref f)=true
section
variable {P:gl} {w:ii} {K:bi} {mg:cb->Option am} {base:ij}
theorem ox.binds {x qual:cb} {st:r9} {f:ag} {fd:nw} {ps:List cb} (F:ox K x qual st f fd)
  (h:∀(kV doc pm:am) (an:Option ag) (cD ct:am) (us:List am),us.length=ps.length->bindArgs (DO x qual (eV st) (cw st) (aw st) .none kV doc pm an cD ct) ⟨us,[]⟩=pure (ps.zip us)):Binds K fd ps [] :=by
 obtain ⟨oc,od,kV,doc,pm,an,cD,ct,jm,rfl,lk,fK⟩:=F.ex
 exact .all (h kV doc pm an cD ct)
theorem D7 {x qual:cb} {st:r9} {f:ag} {oc:am} {od an:Option ag} {jm:Array (Option am)} {kV doc pm cD ct:am} (l:K.lookup f=some ⟨oc,od,.func (DO x qual (eV st) (cw st) (aw st) .none kV doc pm an cD ct),jm⟩)
  (c:OA K cD qual=true) (k:N1 K (.ref f)=true):ox K x qual st f (DO x qual (eV st) (cw st) (aw st) .none kV doc pm an cD ct):=⟨⟨oc,od,kV,doc,pm,an,cD,ct,jm,rfl,l,c⟩,k⟩
end
end L2
set_option maxHeartbeats 4000000
namespace L2
open PySem PySem.Spec PyProof.Rows
theorem iC {env:NR}:∀(names:List (cb×NX)) (acc:List (cb×ag)),(∀n,(n,AS)∈names->∃c,env.cells.lookup n=some c)->
  (∀n c,acc.lookup n=some c->env.cells.lookup n=some c)->
  ∃cl,(forIn names acc fun x r=>if (x.2==AS)=true then (do let a <- cellOf env x.1;pure (O9 ((x.1,a)::r))) else pure (O9 r):Oi (List (cb×ag)))=pure cl /\
   (∀n c,cl.lookup n=some c->env.cells.lookup n=some c)/\(∀n,(n,AS)∈names->∃c,cl.lookup n=some c)/\(∀n c,acc.lookup n=some c->∃c',cl.lookup n=some c')
 | [],acc,_,h2=>⟨acc,rfl,h2,fun n h=>by simp at h,fun n c h=>⟨c,h⟩⟩
 |(n,k)::r,acc,h1,h2=>by
          rw [List.forIn_cons]
          cases hk:(k==AS) with
          |true=>
           have ek:k=AS :=by simpa using hk
           subst ek
           obtain ⟨c,hc⟩:=h1 n kt
           have e1:cellOf env n=pure c :=by unfold cellOf;rw [hc]
           obtain ⟨cl,e,a1,a2,a3⟩:=iC r ((n,c)::acc) (fun m hm=>h1 m (ff _ hm)) (fun m c' hm=>by
            rw [Na] at hm
            cases hb:m==n with
            |true=>
             rw [hb] at hm
             have e2:m=n :=by simpa using hb
             rw [e2,hc];exact hm
            |false=>rw [hb] at hm;exact h2 m c' hm)
           refine ⟨cl,?_,a1,fun m hm=>?_,fun m c' hm=>?_⟩
           ·simp only [if_true,e1]
            exact e
           ·rcases lw.mp hm with z|z
            ·cases z
             exact a3 n c (by rw [Na];simp)
            ·exact a2 m z
           ·by_cases hb:m=n
            ·subst hb
             exact a3 m c (by rw [Na];simp)
            ·exact a3 m c' (by
              rw [Na]
              have:(m==n)=false :=by simpa using hb
              rw [this];exact hm)
          |false=>
           obtain ⟨cl,e,a1,a2,a3⟩:=iC r acc (fun m hm=>h1 m (ff _ hm)) h2
           refine ⟨cl,?_,a1,fun m hm=>?_,a3⟩
           ·simp only [ci,if_false]
            exact e
           ·rcases lw.mp hm with z|z
            ·cases z;simp at hk
            ·exact a2 m z
theorem iD {scope:At} {env:NR} (h:∀n,(n,AS)∈scope.names->∃c,env.cells.lookup n=some c) :
  ∃cl,closureFor scope env=pure cl/\(∀n c,cl.lookup n=some c->env.cells.lookup n=some c)/\(∀n,(n,AS)∈scope.names->∃c,cl.lookup n=some c) :=by
 obtain ⟨cl,e,a1,a2,_⟩:=iC (env:=env) scope.names [] h (fun n c hn=>by simp at hn)
 refine ⟨cl,?_,a1,a2⟩
 simp only [closureFor]
 rw [e]
 rfl
def cxBlock (X:Cx) (N':List cb) (env':NR) (A':l7) (stack':List NR) (s:ar) (H:Hp) (ex:List ag):Cx:=
 {X with N:=N',s₀:=s,H₀:=H,env:=env',A:=A',outer:=X.stack,stack:=stack',ex:=ex,fn:=fun _=>false,pn:=[],xe:=fun _ _=>False}
theorem oy {X:Cx} {pins:List (ag×lm)} {σ az:St} {H H':Hp} {s:ar} {N':List cb} {env':NR} {A':l7} {stack':List NR} {ex:List ag} {h1:ij} {m0:cb->Option am} {g':Array OP} {tk:Nat}
  (I:Inv X pins σ H s) (px:env'.scope.kind=.function) (G1:env'.globals=X.env.globals) (JW:env'.builtins=X.env.builtins)
  (iZ:∀n c,env'.cells.lookup n=some c->X.env.cells.lookup n=some c)
  (D8:∀x,(env'.kindOf x=some .cell\/env'.kindOf x=some .free)->∃c,env'.cells.lookup x=some c)
  (hh:X.calm=true->A'.handled=none) (D9:A'.frames=some stack') (JX:stack'=X.stack\/(stack'=env'::X.stack/\env'.frame=some env'.locals))
  (hC:s.heap.objs.size<=env'.locals) (hf:∀b∈ex,cH X pins H b) (JY:∀b∈ex,b<s.heap.objs.size)
  (Ie:Un (dP X.stack) ex H H' s.heap h1) (hok:cG X.prog X.w H' h1) (Ea:H' env'.locals=none) (Ag:∀b o,s.heap.get? b=some o->h1.get? b=some o) (pT:h1.Ns env'.locals m0)
  (Eb:∀(i:Nat) (x:cb) (v:V),N'[i]?=some x->az[i]?=some (some v)->pJ env'.scope x->(env'.kindOf x=some .cell\/env'.kindOf x=some .free)/\pJ X.env.scope x/\(X.env.kindOf x=some .cell\/X.env.kindOf x=some .free)/\∃j:Nat,X.N[j]?=some x/\σ[j]?=some (some v))
  (hlen:az.length=N'.length) (hg:Gn s.gens.size g'):Inv (cxBlock X N' env' A' stack' s H ex) [] az H' {s with heap:=h1,gens:=g',toks:=tk}:=by
 have Ig:∀b∈ex,∀x c,X.env.cells.lookup x=some c->c≠b:=fun b hb=>(hf b hb).2.2.2.2.1
 refine ⟨⟨I.ok.mod,px,G1.trans I.ok.glob,JW.trans I.ok.blt,hC,fun x y c a b=>I.ok.inj x y c (iZ x c a) (iZ y c b),D8,fun _ _ z=>(nomatch z),hh,D9,JX,fun b hb=>⟨l6 (l5 (JY b hb) hC),fun x c e=>Ig b hb x c (iZ x c e)⟩,
   I.bs,sB I.ok.bsz I.sz,fun b o e hb=>?_,fun b hb z=>?_,I.stack,I.m4⟩,rfl,hg,Ie,⟨m0,pT,fun i x v e1 e2 e3=>?_⟩,fun x c e=>?_,Ea,fun x c e=>?_,fun p hp=>absurd (show p∈([]:List (ag×lm)) from hp) (by simp),hok,hlen⟩
 ·rcases (hf b hb).2.2.2.1 with z|z
  ·exact I.ok.noex b o e z
  ·exact absurd (l5 (gc e) (sB I.ok.bsz z)) (KM _)
 ·rcases lw.mp (I.gy b z) with q|q
  ·exact (hf b hb).2.1 q
  ·exact (hf b hb).2.2.1 q
 ·obtain ⟨k1,vx,k2,j,n1,n2⟩:=Eb i x v e1 e2 e3
  obtain ⟨m,hn,hl⟩:=I.loc
  obtain ⟨u,r,l⟩:=hl j x v n1 n2 vx
  refine ⟨u,r,.inr ⟨k1,?_⟩⟩
  obtain ⟨c',Ih⟩:=D8 x k1
  rcases l with ⟨kl,_⟩|⟨_,c,ec,z⟩
  ·rcases k2 with q|q <;> (rw [kl] at q;cases q)
  ·have:c'=c:=i1 ((iZ x c' Ih).symm.trans ec)
   subst this
   exact ⟨c',Ih,z.keeps Ag⟩
 ·obtain ⟨v,z⟩:=I.cell x c (iZ x c e)
  exact ⟨v,z.keeps Ag⟩
 ·obtain ⟨v,o,ho,hd⟩:=I.cell x c (iZ x c e)
  exact Ie.free c o ho (I.freeC x c (iZ x c e)) fun z=>Ig c z x c (iZ x c e) rfl
theorem lookup_map2 {c:cb->NX->NX}:∀{names:List (cb×NX)} {x:cb},(names.map fun (p:cb×NX)=>(p.1,c p.1 p.2)).lookup x=(names.lookup x).map (c x)
 | [],x=>rfl
 |(n,k')::r,x=>by
          have ih:=@lookup_map2 c r x
          rw [wP,Na,Na]
          cases hx:x==n with
          |true=>
           have e:x=n :=by simpa using hx
           subst e
           rfl
          |false=>exact ih
theorem jq {scope:At} {env:NR} (x:cb):(relabel scope env).names.lookup x=(scope.names.lookup x).map fun k=>if (k==.free && env.scope.kind==.function && env.kindOf x==some .cell)=true then .cell else k :=by
 have e:(relabel scope env).names=scope.names.map fun p=>(p.1,(fun n k=>if (k==AS && env.scope.kind==.function && env.kindOf n==some .cell)=true then NX.cell else k) p.1 p.2) :=by
  unfold relabel
  dsimp only
  congr 1
  funext p
  obtain ⟨n,k⟩:=p
  dsimp only
  split <;> rfl
 rw [e]
 exact lookup_map2 (c:=fun n k=>if (k==AS && env.scope.kind==.function && env.kindOf n==some .cell)=true then NX.cell else k)
def aW (N:List cb) (sc scope:At) (N':List cb) (tn:Nat) (idx:List Nat):Prop:=
 scope.kind=.function/\(∀y∈scope.names,y.2≠.cell/\(y.2=.local->scope.names.lookup y.1=some .local)/\(y.2=.free->sc.names.lookup y.1=some .cell\/sc.names.lookup y.1=some .free)) /\
  N'.length=tn+idx.length/\∀p∈idx.zip (N'.drop tn),N[p.1]?=some p.2/\scope.names.lookup p.2=some .free
instance (N:List cb) (sc scope:At) (N':List cb) (tn:Nat) (idx:List Nat):Decidable (aW N sc scope N' tn idx) :=by unfold aW;infer_instance
def bR (tn:Nat) (idx:List Nat) (σ:St):St:=li tn none++idx.map fun i=>(σ[i]?).join
theorem aW.at {N:List cb} {sc scope:At} {N':List cb} {tn:Nat} {idx:List Nat} (B:aW N sc scope N' tn idx) {σ:St} {i:Nat} {x:cb} {v:V} (h1:N'[i]?=some x) (h2:(bR tn idx σ)[i]?=some (some v)) :
  scope.names.lookup x=some .free/\∃j:Nat,N[j]?=some x/\σ[j]?=some (some v) :=by
 obtain ⟨_,_,b3,b4⟩:=B
 unfold bR at h2
 by_cases hi:i<tn
 ·rw [Ol (by simpa using hi),AL,if_pos hi] at h2
  cases h2
 ·rw [List.getElem?_append_right (by simpa using hi),N4,cr] at h2
  cases e:idx[i - tn]? with
  |none=>rw [e] at h2;cases h2
  |some k=>
   rw [e] at h2
   have h3:(σ[k]?).join=some v:=i1 h2
   have e2:(N'.drop tn)[i - tn]?=some x :=by
    rw [List.getElem?_drop]
    have:tn+(i - tn)=i :=by omega
    rw [this];exact h1
   have m:(k,x)∈idx.zip (N'.drop tn) :=by
    refine im (i:=i - tn) ?_
    rw [uu]
    exact ⟨e,e2⟩
   obtain ⟨a,b⟩:=b4 _ m
   refine ⟨b,k,a,?_⟩
   cases q:σ[k]? with
   |none=>rw [q] at h3;cases h3
   |some w=>rw [q] at h3;exact congrArg some h3
theorem aW.len {N:List cb} {sc scope:At} {N':List cb} {tn:Nat} {idx:List Nat} (B:aW N sc scope N' tn idx) (σ:St):(bR tn idx σ).length=N'.length :=by
 rw [B.2.2.1]
 unfold bR
 simp
section
variable {X:Cx}
def iq (X:Cx) (ifs:List dL) (tt:TT):Prop:=
 ∀(pins:List (ag×lm)) (s:ar) (σ:St) (H:Hp) (Q:Bool->Hp->Prop),Inv X pins σ H s->tt σ H Q->
  wpAny (model X.prog X.w) X.A (forIn ifs true fun c r=>if r=true then do let ok <- isTrue c X.env (eval c X.env);pure (O9 ok) else pure (O9 r)) (TP X pins σ Q) X.xe s
def G2:TT:=fun _ H Q=>Q true H
theorem BH:iq X [] G2:=fun _ _ _ H _ I h=>wpAny_tests_nil ⟨H,I,h⟩
theorem BI {c:dL} {tc:TT} (h:PT X c tc):iq X [c] tc:=fun pins s σ H Q I q=>wpAny_tests_one (h pins s σ H Q I q)
abbrev v3 (X:Cx) (N':List cb) (scope:At) (cl:List (cb×ag)) (C:ag) (s:ar) (H:Hp) (fp:List ag):Cx:=cxBlock X N' (compEnvC scope cl C X.env) X.A X.stack s H fp
abbrev Blk (X:Cx) (N':List cb) (scope:At) (P:Cx->Prop):Prop:=∀(cl:List (cb×ag)) (C:ag) (s:ar) (H:Hp) (fp:List ag),P (v3 X N' scope cl C s H fp)
end
abbrev TB:=St->Hp->(St->Hp->Prop)->Prop
def PB (X:Cx) (b:Oi Unit) (t:TB):Prop:=∀(pins:List (ag×lm)) (s:ar) (σ:St) (H:Hp) (Q:St->Hp->Prop),Inv X pins σ H s->t σ H Q->wpAny (model X.prog X.w) X.A b (fun _ s'=>∃az H',Inv X pins az H' s'/\Q az H') X.xe s
def ur (J:It) (g:TG) (tt:TT) (tb:TB) (QE:St->Hp->Prop) (W:Nat->Nat->St->Hp->Prop):Prop:=∀i m τ H,W i m τ H->
 (J.stop i H/\QE τ H)\/(J.go i H/\∀x H',J.yld i H x H'->g x τ H' fun aB H2=>tt aB H2 fun b H3=>if b=true then tb aB H3 fun KU H4=>∃m',m'<m/\W (i+1) m' KU H4 else ∃m',m'<m/\W (i+1) m' aB H3)
def uv (e tg iter:dL) (ifs:List dL) (d:Nat) (it acc:am) (env:NR) (body:Oi Unit):Oi Fin:=do
 standAt iter.pos
 match <- pyNext it with
 |none=>pure (.done .next)
 |some v=>
  letOwnedTupleGo tg it v
  assign tg env v
  let mut ok:=true
  for c in ifs do
   if ok then ok <- isTrue c env (eval c env)
  if ok then body
  again (.compLoop e d it acc env)
section
variable {Y:Cx} {e tg iter:dL} {ifs:List dL} {dp:Nat} {it:ag} {acc:am} {body:Oi Unit} {fp:List ag} {b6:Nat->ij->Prop} {J:It} {g:TG} {tt:TT} {tb:TB} {QE:St->Hp->Prop} {W:Nat->Nat->St->Hp->Prop} {R:Qo->ar->Prop} {pins:List (ag×lm)} {τ:St} {H:Hp} {s:ar} {m0:Nat}
structure yG (Y:Cx) (e tg iter:dL) (ifs:List dL) (dp:Nat) (acc:am) (body:Oi Unit):Prop where
 q:∀it,(Code.compLoop e dp it acc Y.env).quiet=true
 den:∀it Q E s,wpAny (model Y.prog Y.w) Y.A ((compTurn e dp it acc Y.env).onRaise (fun x=>do noteFrame x Y.env;theTreesLotGoes x)) Q E s->wpAny (model Y.prog Y.w) (Y.A.under (.compLoop e dp it acc Y.env)) ((model Y.prog Y.w).den (.compLoop e dp it acc Y.env)) Q E s
 turn:∀it,compTurn e dp it acc Y.env=uv e tg iter ifs dp it acc Y.env body
 denS:∀it Q E s,wpAny (model Y.prog Y.w) Y.A ((compStart e dp it acc Y.env).onRaise (fun x=>do noteFrame x Y.env;standAt theWindowsPlace)) Q E s->wpAny (model Y.prog Y.w) (Y.A.under (.compStart e dp it acc Y.env)) ((model Y.prog Y.w).den (.compStart e dp it acc Y.env)) Q E s
 cl:(clausesOf e)[dp]?=some ⟨tg,iter,ifs,0⟩
theorem v7 (hc:Y.calm=true) (pU:∀x s,Y.xe x s->False) (C:yG Y e tg iter ifs dp acc body) (hg:PG Y tg g) (ht:iq Y ifs tt) (hb:PB Y body tb) (T:Turn Y.prog Y.w Y.K tg J fp it b6) (turn:ur J g tt tb QE W)
  (I:Inv Y pins τ H s) (st:b6 0 s.heap) (f:∀b∈fp,cH Y pins H b) (w0:W 0 m0 τ H) (hR:∀bK H' s',Inv Y pins bK H' s'->QE bK H'->R (.ok .next) s') :
  codeAny (model Y.prog Y.w) Y.A (.compLoop e dp (.ref it) acc Y.env) R s :=by
 have stat:∀{H':Hp},(∀b∈fp,H' b=none)->∀b∈fp,cH Y pins H' b:=fun hn b hb=>⟨hn b hb,(f b hb).2⟩
 refine codeAny_loop (C.q _) (fun n s'=>∃i τ H',Inv Y pins τ H' s'/\b6 i s'.heap/\(∀b∈fp,H' b=none)/\W i n τ H') (fun n s hI=>?_) m0 ⟨0,τ,H,I,st,fun b hb=>(f b hb).1,w0⟩
 refine C.den _ _ _ _ (wpAny_noted ?_)
 rw [C.turn]
 unfold uv
 obtain ⟨i,τ,H3,I3,n5,vG,w3⟩:=hI
 rcases turn i n τ H3 w3 with ⟨stop,qn⟩|⟨go,step⟩
 ·refine ac (EO (ac (mf (T.done Y rfl rfl rfl hc i pins s τ H3 (fun _ _=>False) I3 (stat vG) n5 stop) (fun r s4 ⟨hr,I4⟩=>?_) fun _ _ z=>z.elim)))
  subst hr
  exact ba (hR _ _ _ I4 qn)
 ·refine ac (EO (ac (mf (T.item Y rfl rfl rfl hc i pins s τ H3 (fun _ _=>False) I3 (stat vG) n5 go) (fun r s4 ⟨u,hr,h4⟩=>?_) fun _ _ z=>z.elim)))
  subst hr
  refine ac (mf h4 (fun _ s5 ⟨x,H5,I5,r5,y5,jk,vH⟩=>?_) fun _ _ z=>z.elim)
  have vI:=I5.pinned (stat vH) (T.obj _ _ jk)
  have again:∀{pV:St} {H7:Hp} {s7:ar},Inv Y (pins++ik fp s5.heap) pV H7 s7->(∃m',m'<n/\W (i+1) m' pV H7)->
    ∃m,m<n/\∃i τ H',Inv Y pins τ H' s7/\b6 i s7.heap/\(∀b∈fp,H' b=none)/\W i m τ H':=fun {pV H7 s7} I7 n7=>by
   obtain ⟨m',hm,w7⟩:=n7
   refine ⟨m',hm,i+1,pV,H7,I7.eH,T.keep _ _ _ jk fun b hb o e=>(I7.pin (b,o) (lf _ (lf _ (dz hb e)))).1,fun b hb=>?_,w7⟩
   obtain ⟨o,e,d⟩:=T.obj _ _ jk b hb
   exact (I7.pin (b,o) (lf _ (lf _ (dz hb e)))).2.1
  refine ac (mf (hg _ s5 τ H5 x u _ vI r5 (step x H5 y5)) (fun _ s6 ⟨oz,H6,I6,q6⟩=>?_) fun _ _ z=>(pU _ _ z).elim)
  refine ac (mf (ht _ s6 oz H6 _ I6 q6) (fun ok s7 ⟨H7,I7,q7⟩=>?_) fun _ _ z=>(pU _ _ z).elim)
  cases ok with
  |false=>exact ba ⟨rfl,again I7 q7⟩
  |true=>
   refine ac (mf (hb _ s7 oz H7 _ I7 q7) (fun _ s8 ⟨Nk,H8,I8,q8⟩=>?_) fun _ _ z=>(pU _ _ z).elim)
   exact ba ⟨rfl,again I8 q8⟩
theorem uw (C:yG Y e tg iter ifs dp acc body) (T:Turn Y.prog Y.w Y.K tg J fp it b6) (st:b6 0 s.heap)
  (h:codeAny (model Y.prog Y.w) Y.A (.compLoop e dp (.ref it) acc Y.env) R s):codeAny (model Y.prog Y.w) Y.A (.compStart e dp (.ref it) acc Y.env) R s :=by
 refine Pa (C.denS _ _ _ _ (wpAny_notedAt ?_))
 unfold compStart
 rw [C.cl]
 show wpAny _ _ (ask>>=_) _ _ s
 refine ac (Ob (wpAny_ite ?_))
 split
 ·first
   |exact ac (ba (ba (Qp rfl h)))
   |exact ba (Qp rfl h)
 ·have h2:wpAny (model Y.prog Y.w) Y.A (pyIter (.ref it)) (fun v8 s'=>codeAny (model Y.prog Y.w) Y.A (.compLoop e dp v8 acc Y.env) R s') (notedBy (model Y.prog Y.w) Y.A Y.env fun x s'=>R (.error x) s') s:=T.self _ 0 _ _ _ st h
  first
   |exact ac (IF (ac (EO (ac (mf h2 (fun v8 s' h'=>ba (Qp (C.q v8) h')) fun _ _ x=>x)))))
   |(refine ac (IF ?_);show wpAny _ _ (standAt iter.pos>>=_) _ _ s;exact ac (EO (ac (mf h2 (fun v8 s' h'=>ba (Qp (C.q v8) h')) fun _ _ x=>x))))
end
section
variable {Y:Cx}
def pW (D:ag) (te:TE):TB:=fun τ H Q=>te τ H fun y H4=>∃ys,H4 D=some (.lst ys)/\ys.length<sizeLine/\Q τ (upd H4 D (.lst (ys++[y])))
theorem BJ {elt:dL} {te:TE} {D:ag} (h:PE Y elt te):PB Y (do let _ <- call (.builtin "list.append") [.ref D,<- eval elt Y.env]) (pW D te) :=by
 intro pins s τ H Q I q
 refine ac (mf (h pins s τ H _ I q) (fun yv s8 ⟨y,H8,I8,r8,q8⟩=>?_) fun _ _ z=>z)
 obtain ⟨ys,hD,hsz,w8⟩:=q8
 refine ac (mf (ou (X:=Y) _ s8 τ H8 (.ref D) [y] (.ref D) [yv] (fun v H9=>v=.aj/\H9=upd H8 D (.lst (ys++[y]))) I8 rfl (.cons r8 .nil) ⟨_,ys,y,rfl,rfl,hD,hsz,rfl,rfl⟩) (fun rv s9 ⟨v9,H9,I9,_,_,e9⟩=>?_) fun _ _ z=>z)
 subst e9
 exact ba ⟨τ,_,I9,w8⟩
end
section
variable {X:Cx}
theorem compG_core {pins:List (ag×lm)} {σ:St} {H2:Hp} {s2:ar} {e tg iter:dL} {ifs:List dL} {scope:At} {N':List cb} {tn:Nat} {idx:List Nat} {g:TG} {tt:TT} {tb:ag->TB} {body:am->NR->Oi Unit} {it:ag} {fp:List ag} {b6:Nat->ij->Prop} {J:It}
  {cl:List (cb×ag)} {E:am->ar->Prop} {RR:am->ag->Qo->ar->Prop} {Q:VK} {mk:Oi am} {O0:HO} {o0:lm}
  (KW:∀(Q:am->ar->Prop),Q (.ref s2.heap.objs.size) {s2 with heap:=s2.heap.push o0}->wpAny (model X.prog X.w) X.A mk Q E s2) (D9:o0.isFreed=false)
  (sW:∀(H:Hp) (h1:ij),h1.get? s2.heap.objs.size=some o0->aZ X.prog X.w H h1 s2.heap.objs.size O0)
  (hc:X.calm=true) (B:aW X.N X.env.scope scope N' tn idx)
  (hC:∀(D:ag),Blk X N' scope fun Y=>yG Y e tg iter ifs 0 (.ref D) (body (.ref D) Y.env))
  (hg:Blk X N' scope fun Y=>PG Y tg g) (ht:Blk X N' scope fun Y=>iq Y ifs tt) (hb:∀D,Blk X N' scope fun Y=>PB Y (body (.ref D) Y.env) (tb D))
  (I:Inv X pins σ H2 s2) (T:Turn X.prog X.w X.K tg J fp it b6) (st:b6 0 s2.heap) (f2:∀b∈fp,cH X pins H2 b)
  (gC:∀n c,cl.lookup n=some c->X.env.cells.lookup n=some c) (iE:∀n,(n,AS)∈scope.names->∃c,cl.lookup n=some c)
  (hq:∀D,H2 D=none->∃W:Nat->Nat->St->Hp->Prop,(∃m,W 0 m (bR tn idx σ) (upd H2 D O0))/\ur J g tt (tb D) (fun _ H'=>Q (.ref D) H') W)
  (Ec:∀D C m s' H',Inv X pins σ H' s'->cH X pins H' C->s'.heap.Ns C m->Q (.ref D) H'->RR (.ref D) C (.ok .next) s') :
  wpAny (model X.prog X.w) X.A mk (fun acc kZ=>wpAny (model X.prog X.w) X.A (newFunctionEnv scope X.env.globals cl [] X.env.qual none .none (some X.env)) (fun pX yH=>
   codeAny (model X.prog X.w) X.A (.compStart e 0 (.ref it) acc {pX with scope:=relabel scope X.env}) (RR acc pX.locals) yH) E kZ) E s2 :=by
 obtain ⟨b1,b2,b3,b4⟩:=id B
 refine KW _ (wpAny_newFunctionEnv (fun y hy=>(b2 y hy).1) (by intro y hy;simp at hy) (fun iF pY md=>?_) b1)
 dsimp only at pY md ⊢
 generalize hG:s2.heap.push o0=G at pY md ⊢
 have Ed:G.objs.size=s2.heap.objs.size+1 :=by rw [<- hG,N6]
 have Ii:s2.heap.objs.size≠G.objs.size :=by rw [Ed];exact l6 (Oc _)
 have yI:s2.heap.objs.size<=G.objs.size :=by rw [Ed];exact FF _
 have below:∀b,b<s2.heap.objs.size->b≠G.objs.size:=fun b hb=>by rw [Ed];exact l6 (Lo hb)
 have old:∀b o,s2.heap.get? b=some o->iF.get? b=some o:=fun b o e=>md.extBut b o (below b (gc e)) (bn _ (hG▸bn _ e))
 have KY:iF.get? s2.heap.objs.size=some o0:=md.extBut _ _ Ii (bn _ (hG▸hX _ D9))
 have Ij:H2 s2.heap.objs.size=none:=I.hok.fresh (br _)
 have Ea:upd H2 s2.heap.objs.size O0 G.objs.size=none :=by rw [af (BN Ii)];exact I.hok.fresh yI
 have JZ:cG X.prog X.w (upd H2 s2.heap.objs.size O0) iF:=I.hok.laid old (br _) (sW _ _ KY)
 have pZ:∀b∈fp,b<s2.heap.objs.size:=fun b hb=>let ⟨o,e,_⟩:=T.obj _ _ st b hb;gc e
 obtain ⟨W,⟨m0,w0⟩,turn⟩:=hq s2.heap.objs.size Ij
 have I1:Inv (v3 X N' scope cl G.objs.size s2 H2 fp) [] (bR tn idx σ) (upd H2 s2.heap.objs.size O0) {s2 with heap:=iF,toks:=s2.toks+([]:List (cb×am)).length}:=by
  refine oy (g':=s2.gens) (m0:=fun x=>([]:List (cb×am)).reverse.lookup x) I b1 rfl rfl gC (fun x hx=>?_) (fun z=>I.ok.hd z) I.ok.frames (.inl rfl) yI f2 pZ (Un.laid old (br _) Ij) JZ Ea old pY (fun i x v e1 e2 e3=>?_) (B.len σ) I.bare.self
  ·have oA:(relabel scope X.env).names.lookup x=some .cell\/(relabel scope X.env).names.lookup x=some .free:=hx
   rw [jq] at oA
   cases q:scope.names.lookup x with
   |none=>rw [q] at oA;rcases oA with z|z <;> cases z
   |some k0=>
    have hm:=wE q
    rw [q] at oA
    by_cases hk:k0=.free
    ·subst hk;exact iE x hm
    ·have nk:(k0==AS)=false :=by simpa using hk
     have nc:=(b2 _ hm).1
     simp only [NT,nk,Oz,ci,if_false] at oA
     rcases oA with z|z
     ·exact absurd (i1 z) nc
     ·exact absurd (i1 z) hk
  ·obtain ⟨fr,j,e4,e5⟩:=B.at e1 e2
   have kx:=(b2 _ (wE fr)).2.2 rfl
   refine ⟨?_,.inr kx,kx,j,e4,e5⟩
   show (relabel scope X.env).names.lookup x=some .cell\/(relabel scope X.env).names.lookup x=some .free
   rw [jq,fr]
   simp only [NT]
   split
   ·exact .inl rfl
   ·exact .inr rfl
 have stat:∀b∈fp,cH (v3 X N' scope cl G.objs.size s2 H2 fp) [] (upd H2 s2.heap.objs.size O0) b:=fun b hb=>by
  refine ⟨by rw [af (l6 (pZ b hb))];exact (f2 b hb).1,below b (pZ b hb),fun z=>?_,.inl hb,fun x c e=>(f2 b hb).2.2.2.2.1 x c (gC x c e),fun p hp=>absurd (show p∈([]:List (ag×lm)) from hp) (by simp)⟩
  rcases lw.mp (I.gy b z) with q|q
  ·exact (f2 b hb).2.1 q
  ·exact (f2 b hb).2.2.1 q
 have Ik:b6 0 iF:=T.keep _ _ _ st fun b _ o e=>old b o e
 refine uw (Y:=v3 X N' scope cl G.objs.size s2 H2 fp) (hC _ cl G.objs.size s2 H2 fp) T Ik (v7 (Y:=v3 X N' scope cl G.objs.size s2 H2 fp) hc (fun _ _ z=>z) (hC _ cl G.objs.size s2 H2 fp) (hg cl G.objs.size s2 H2 fp) (ht cl G.objs.size s2 H2 fp) (hb _ cl G.objs.size s2 H2 fp) T turn I1 Ik stat w0 fun bK H' s' I4 qn=>?_)
 have J2:Inv X pins σ H' s':=I.pq I4.os I4.base I4.hok I4.bare fun b hb=>⟨(f2 b hb).2.2.2.1,(f2 b hb).2.1,(f2 b hb).2.2.2.2.1,(f2 b hb).2.2.2.2.2⟩
 obtain ⟨mm,hm,_⟩:=I4.loc
 exact Ec _ _ mm s' H' J2 (I.jj yI I4.free) hm qn
end
section
variable {X:Cx}
def pA (J:It) (g:TG) (tt:TT) (te:TE) (D:ag) (Q:VK) (W:Nat->Nat->St->Hp->Prop):Prop:=∀i m τ H,W i m τ H->
 (J.stop i H/\Q (.ref D) H)\/(J.go i H/\∀x H',J.yld i H x H'->g x τ H' fun aB H2=>tt aB H2 fun b H3=>if b=true then te aB H3 fun y H4=>∃ys m',H4 D=some (.lst ys)/\ys.length<sizeLine/\m'<m/\W (i+1) m' aB (upd H4 D (.lst (ys++[y]))) else ∃m',m'<m/\W (i+1) m' aB H3)
def pB (tn:Nat) (idx:List Nat) (wi:TI) (g:TG) (tt:TT) (te:TE):TE:=fun σ H Q=>wi σ H fun J H1=>∀D,H1 D=none->∃W:Nat->Nat->St->Hp->Prop,(∃m,W 0 m (bR tn idx σ) (upd H1 D (.lst [])))/\pA J g tt te D Q W
theorem ux {J:It} {g:TG} {tt:TT} {te:TE} {D:ag} {Q:VK} {W:Nat->Nat->St->Hp->Prop} (h:pA J g tt te D Q W):ur J g tt (pW D te) (fun _ H=>Q (.ref D) H) W :=by
 simp only [pA,exists_and_left] at h
 exact h
theorem yJ (elt tg iter:dL) (ifs:List dL) (scope:At) (pos:u4) (it acc:am) (env:NR) :
  compTurn (.ListComp elt [⟨tg,iter,ifs,0⟩] scope pos) 0 it acc env=uv (.ListComp elt [⟨tg,iter,ifs,0⟩] scope pos) tg iter ifs 0 it acc env (do let _ <- call (.builtin "list.append") [acc,<- eval elt env]) :=by
 rfl
theorem oB {pins:List (ag×lm)} {σ:St} {H2:Hp} {s2:ar} {tg elt iter:dL} {ifs:List dL} {scope:At} {pos:u4} {N':List cb} {tn:Nat} {idx:List Nat} {g:TG} {tt:TT} {te:TE} {it:ag} {fp:List ag} {b6:Nat->ij->Prop} {J:It}
  {cl:List (cb×ag)} {E:am->ar->Prop} {RR:am->ag->Qo->ar->Prop} {Q:VK}
  (hc:X.calm=true) (B:aW X.N X.env.scope scope N' tn idx)
  (hg:Blk X N' scope fun Y=>PG Y tg g) (ht:Blk X N' scope fun Y=>iq Y ifs tt) (he:Blk X N' scope fun Y=>PE Y elt te)
  (I:Inv X pins σ H2 s2) (T:Turn X.prog X.w X.K tg J fp it b6) (st:b6 0 s2.heap) (f2:∀b∈fp,cH X pins H2 b)
  (gC:∀n c,cl.lookup n=some c->X.env.cells.lookup n=some c) (iE:∀n,(n,AS)∈scope.names->∃c,cl.lookup n=some c)
  (hq:∀D,H2 D=none->∃W:Nat->Nat->St->Hp->Prop,(∃m,W 0 m (bR tn idx σ) (upd H2 D (.lst [])))/\pA J g tt te D Q W)
  (Ec:∀D C m s' H',Inv X pins σ H' s'->cH X pins H' C->s'.heap.Ns C m->Q (.ref D) H'->RR (.ref D) C (.ok .next) s') :
  wpAny (model X.prog X.w) X.A (newList []) (fun acc kZ=>wpAny (model X.prog X.w) X.A (newFunctionEnv scope X.env.globals cl [] X.env.qual none .none (some X.env)) (fun pX yH=>
   codeAny (model X.prog X.w) X.A (.compStart (.ListComp elt [⟨tg,iter,ifs,0⟩] scope pos) 0 (.ref it) acc {pX with scope:=relabel scope X.env}) (RR acc pX.locals) yH) E kZ) E s2:=
 compG_core (body:=fun acc env=>do let _ <- call (.builtin "list.append") [acc,<- eval elt env]) (tb:=fun D=>pW D te) (O0:=.lst []) (o0:={cls:=.type "list",dict:=none,data:=.seq ([]:List am).toArray})
  (fun Q q=>mT q) rfl (fun H h1 hd=>⟨l8 _,[],0,.nil,hd⟩) hc B (fun D cl C s H fp=>⟨fun _=>rfl,fun _ _ _ _ h=>h,fun _=>yJ ..,fun _ _ _ _ h=>h,rfl⟩) hg ht (fun D cl C s H fp=>BJ (he cl C s H fp))
  I T st f2 gC iE (fun D hD=>let ⟨W,w0,t⟩:=hq D hD;⟨W,w0,ux t⟩) Ec
variable {tg elt iter:dL} {ifs:List dL} {scope:At} {pos:u4} {N':List cb} {tn:Nat} {idx:List Nat} {wi:TI} {g:TG} {tt:TT} {te:TE}
theorem cH.turn {pins:List (ag×lm)} {σ:St} {H:Hp} {s:ar} {C:ag} {h':ij} (f:cH X pins H C) (I:Inv X pins σ H s) (hs:ut C s.heap h'):Inv X pins σ H {s with heap:=h'}:=
 I.turned (t':=s.toks) (fun b o hb e=>(hs.2 b hb).trans e) f.1 f.2.1 f.2.2.2.1 f.2.2.2.2.1 f.2.2.2.2.2
theorem rX (hc:X.calm=true) (B:aW X.N X.env.scope scope N' tn idx) (hi:PI X tg iter wi)
  (hg:Blk X N' scope fun Y=>PG Y tg g) (ht:Blk X N' scope fun Y=>iq Y ifs tt) (he:Blk X N' scope fun Y=>PE Y elt te)
  (hs:∀x,foldedSetIterable iter X.env x=pure x :=by intro _;rfl):PE X (.ListComp elt [⟨tg,iter,ifs,0⟩] scope pos) (pB tn idx wi g tt te) :=by
 refine ⟨?_⟩
 intro pins s σ H Q I h
 obtain ⟨cl,me,gC,iE⟩:=iD (scope:=scope) (env:=X.env) fun n hn=>I.ok.has n ((B.2.1 _ hn).2.2 rfl)
 rw [eval_ListComp]
 refine wpAny_comprehension_free (use:=none) rfl hs me B.1 (fun y hy=>(B.2.1 y hy).2.1) (mf (hi pins s σ H _ I h) (fun xv s1 h1=>mf h1 (fun vC s2 h2=>?_) fun _ _ z=>z) fun _ _ z=>z)
 obtain ⟨it,fp,b6,J,H2,e,I2,T,pO,f2,q2⟩:=h2
 subst e
 refine oB (RR:=fun acc C=>compPost (model X.prog X.w) X.A X.xe none (EP X pins σ Q) acc C) hc B hg ht he I2 T pO f2 gC iE q2 fun D C m s' H' J2 fC hm q=>?_
 exact ⟨m,hm,fun h' i5=>⟨.ref D,H',fC.turn J2 i5,rfl,q⟩⟩
theorem mh {i:Nat} {y:cb} {py jr:u4} (hN:X.N.Nodup) (cI:X.N[i]?=some y) (hy:X.env.scope.names.lookup y=some .local) (hc:X.calm=true) (B:aW X.N X.env.scope scope N' tn idx) (hi:PI X tg iter wi)
  (hg:Blk X N' scope fun Y=>PG Y tg g) (ht:Blk X N' scope fun Y=>iq Y ifs tt) (he:Blk X N' scope fun Y=>PE Y elt te)
  (wa:swapsWith (.ListComp elt [⟨tg,iter,ifs,0⟩] scope pos) (some (.Name y py)) jr.line X.env=pure true :=by rfl)
  (hs:∀x,foldedSetIterable iter X.env x=pure x :=by intro _;rfl):PS X (.Assign [.Name y py] (.ListComp elt [⟨tg,iter,ifs,0⟩] scope pos) jr) (pN (pB tn idx wi g tt te) (pv i)) :=by
 refine ⟨?_⟩
 intro pins s σ H D I h
 obtain ⟨cl,me,gC,iE⟩:=iD (scope:=scope) (env:=X.env) fun n hn=>I.ok.has n ((B.2.1 _ hn).2.2 rfl)
 rw [exec_Assign_Name_used _ _ _ _ wa]
 refine ac (EO (ac ?_))
 show wpAny _ X.A (do let _ <- comprehension (.ListComp elt [⟨tg,iter,ifs,0⟩] scope pos) scope X.env _ (newList []) false (eval iter X.env) (some (assign (.Name y py) X.env))) _ _ s
 refine ac (mf (wpAny_comprehension_free (use:=some (assign (.Name y py) X.env)) (Q:=fun _ s'=>SP X pins D .next s') rfl hs me B.1 (fun y hy=>(B.2.1 y hy).2.1)
  (mf (hi pins s σ H _ I h) (fun xv s1 h1=>mf h1 (fun vC s2 h2=>?_) fun _ _ z=>z) fun _ _ z=>z)) (fun _ s' hq=>ba (ba hq)) fun _ _ z=>z)
 obtain ⟨it,fp,b6,J,H2,e,I2,T,pO,f2,q2⟩:=h2
 subst e
 refine oB (RR:=fun acc C=>compPost (model X.prog X.w) X.A X.xe (some (assign (.Name y py) X.env)) (fun _ s'=>SP X pins D .next s') acc C) hc B hg ht he I2 T pO f2 gC iE q2 fun E C m s' H' J2 fC hm q=>?_
 show wpAny _ X.A (assign (.Name y py) X.env (.ref E)) _ _ s'
 refine wpAny_assign_Name (store_ok2 J2 hN cI (.inl hy) (v:=.ref E) rfl (fun s3 J3 ⟨a,sX,ha⟩=>?_) (.inr hy))
 have c9:C≠a :=by
  rcases ha with z|z
  ·rw [z];exact fC.2.1
  ·exact fun w=>fC.2.2.2.2.1 _ _ z w.symm
 exact ⟨m,hm.sameBut sX c9,fun h' i5=>⟨_,H',fC.turn J3 i5,q⟩⟩
end
def Tb (P:ag) (H:Hp):Prop:=∃ps,H P=some (.bO ps)/\Ov ps.toList
section
variable {X:Cx} {pins:List (ag×lm)} {σ:St} {H:Hp} {s:ar} {P:ag} {ps more:Array am} {h':ij}
theorem Inv.grown (I:Inv X pins σ H s) (hP:H P=some (.bO ps)) (k:∀b o,b≠P->s.heap.get? b=some o->h'.get? b=some o) (n:h'.get? P=some {cls:=.none,data:=.fields (ps++more)}) (t':Nat) :
  Inv X pins σ (upd H P (.bO (ps++more))) {s with heap:=h',toks:=t'}:=by
 have ne:∀b u,H b=some u->u≠.bO ps->b≠P:=fun b u e d=>Gy e hP d
 have nn:∀b,H b=none->b≠P:=fun b e z=>by rw [z,hP] at e;cases e
 refine I.un ⟨fun b o e q _ _=>k b o (nn b q) e,fun b o e q _ _=>⟨o.slots,k b o (nn b q) e⟩,fun b o e q _=>by rw [af (nn b q)];exact q,fun b o e _=>?_,fun b xs e=>by rw [af (ne b _ e (by intro z;cases z))];exact e,
  fun b o u e=>by rw [af (ne b _ e (by intro z;cases z))];exact e,fun b qs e=>?_⟩ fun b u e=>?_
 ·by_cases hb:b=P
  ·subst hb;exact ⟨_,n⟩
  ·exact ⟨o,k b o hb e⟩
 ·by_cases hb:b=P
  ·subst hb
   rw [hP] at e;cases e
   exact ⟨more,aE⟩
  ·exact ⟨#[],by rw [af hb,e];simp⟩
 ·by_cases hb:b=P
  ·subst hb
   rw [aE] at e;cases e
   exact n
  ·rw [af hb] at e
   refine (I.hok b u e).bY (fun c v hc q=>k c v ?_ q) (fun c q=>?_) fun c xs q=>?_
   ·rcases hc with z|z
    ·rw [z];exact hb
    ·exact ne c _ z (by intro w;cases w)
   ·rw [af (ne c _ q (by intro w;cases w))];exact q
   ·rw [af (ne c _ q (by intro w;cases w))];exact q
theorem m9 {c:ag} {pos:u4} {qn:cb} {scope:At} {Q:am->ar->Prop} {A:l7} {E:am->ar->Prop} (I:Inv X pins σ H s) (hc:X.env.code=.ref c) (hd:rf X.base c P) (hP:H P=some (.bO ps)) (ht:Ov ps.toList)
  (h:∀code ir s',Ov ir.toList->Inv X pins σ (upd H P (.bO ir)) s'->(∀b o,b≠P->s.heap.get? b=some o->s'.heap.get? b=some o)->s'.gens=s.gens->Q code s'):wpAny (model X.prog X.w) A (genexprCode X.env pos qn scope) Q E s :=by
 have Il:s.heap.get? P=some (N7 ps):=I.hok P _ hP
 have fJ:=hd.keeps I.bk
 have ic:=fJ.code Il ht
 cases q:codeAmong pos ps.toList with
 |some c'=>
  refine wpAny_genexprCode_hit hc ic q (h c' ps s ht ?_ (fun _ _ _ e=>e) rfl)
  have e:upd H P (.bO ps)=H :=by
   funext b
   by_cases hb:b=P
   ·subst hb;rw [aE,hP]
   ·rw [af hb]
  rw [e];exact I
 |none=>
  refine wpAny_genexprCodeX hc ic (fJ.tab Il) q fun c' h' tk ex h1 h2 Nm _ ta _=>?_
  obtain ⟨_,Ah⟩:=ta
  have tr:Ov (ps++#[rawInt pos.line,rawInt pos.col,lc c']).toList :=by
   rw [Array.toList_append]
   exact TriplesOk_snoc _ _ _ _ ht
  exact h _ _ _ tr (I.grown hP (fun b o hb e=>ex b o hb e) Ah tk) (fun b o hb e=>ex b o hb e) rfl
end
def k4 (s b5:ar):Prop:=b5.heap=s.heap/\b5.os=s.os/\Gn s.gens.size b5.gens
theorem Inv.k6 {X:Cx} {pins:List (ag×lm)} {σ:St} {H:Hp} {s b5:ar} (I:Inv X pins σ H s) (o:k4 s b5):Inv X pins σ H b5 :=by
 obtain ⟨h,g,d,t,os⟩:=s
 obtain ⟨h',g',d',t',HX⟩:=b5
 obtain ⟨e1,e2,e3⟩:=o
 cases e1
 cases e2
 exact ⟨I.ok,I.os,I.bare.trans e3,I.base,I.loc,I.cell,I.free,I.freeC,I.pin,I.hok,I.len⟩
section
variable {Y:Cx} {A2:l7} {tg elt iter:dL} {ifs:List dL} {scope:At} {pos:u4} {it:ag} {fp:List ag} {b6:Nat->ij->Prop} {J:It} {g:TG} {tt:TT} {te:TE} {pp:List (ag×lm)} {R:GenEnd} {Yp:Protocol}
def Ee (J:It) (g:TG) (tt:TT) (te:TE) (stopAt:Bool) (Z:Bool->Hp->Prop) (W:Nat->Nat->St->Hp->Prop):Prop:=∀i m τ H,W i m τ H->
 (J.stop i H/\Z (!stopAt) H)\/(J.go i H/\∀x H',J.yld i H x H'->g x τ H' fun aB H2=>tt aB H2 fun b H3=>if b=true then te aB H3 fun y H4=>∃c,y=.bl c/\(if c=stopAt then Z stopAt H4 else ∃m',m'<m/\W (i+1) m' aB H4) else ∃m',m'<m/\W (i+1) m' aB H3)
theorem yK (hA:Y.A=A2.over (.compLoop (.GeneratorExp elt [⟨tg,iter,ifs,0⟩] scope pos) 0 (.ref it) .none Y.env) []) (pU:Y.xe=fun _ _=>False) (hc:Y.calm=true) (oC:Y.env.scope.isCoroutine=false)
  (T:Turn Y.prog Y.w Y.K tg J fp it b6) (hg:PG Y tg g) (ht:iq Y ifs tt) (he:PE Y elt te) (stat:∀{H':Hp},(∀b∈fp,H' b=none)->∀b∈fp,cH Y pp H' b)
  {W:Nat->Nat->St->Hp->Prop} {Z:Bool->Hp->Prop} {stopAt:Bool} (turn:Ee J g tt te stopAt Z W)
  (hR:∀n s₀ au τ H,Inv Y pp τ H au->Z (!stopAt) H->R n s₀ (.ok .next) au)
  (hY:∀n s₀ s p0 c τ H,Inv Y pp τ H s->(c=stopAt->Z stopAt H)->(c≠stopAt->∀b5,k4 s b5->p0 (.send .none) b5)->Yp n s₀ (.bool c) s p0) :
  ∀(m n i:Nat) (τ:St) (H:Hp) (s s₀:ar),m<n->W i m τ H->Inv Y pp τ H s->b6 i s.heap->(∀b∈fp,H b=none)->
   Seg (model Y.prog Y.w) A2 R Yp n s₀ (.compLoop (.GeneratorExp elt [⟨tg,iter,ifs,0⟩] scope pos) 0 (.ref it) .none Y.env)
    ((model Y.prog Y.w).den (.compLoop (.GeneratorExp elt [⟨tg,iter,ifs,0⟩] scope pos) 0 (.ref it) .none Y.env)) [] s :=by
 intro m
 induction m using P8 with
 |ind m ih=>
  intro n i τ H s s₀ KZ w I st fr
  show Seg _ A2 _ _ _ s₀ _ ((compTurn (.GeneratorExp elt [⟨tg,iter,ifs,0⟩] scope pos) 0 (.ref it) .none Y.env).onRaise (leaving Y.env)) [] s
  rw [compTurn_gen,Oi.onRaise_eq_wrap]
  rcases turn i m τ H w with ⟨stop,qn⟩|⟨go,step⟩
  ·refine wS (EO ?_)
   have d:=T.done Y rfl rfl rfl hc i pp s τ H (fun _ _=>False) I (stat fr) st stop
   rw [hA] at d
   refine wS (mf d (fun r s1 ⟨hr,I1⟩=>?_) fun _ _ z=>z.elim)
   subst hr
   exact seg_end (.ok .next) (hR _ _ _ _ _ I1 qn)
  ·refine wS (EO ?_)
   have d:=T.item Y rfl rfl rfl hc i pp s τ H (fun _ _=>False) I (stat fr) st go
   rw [hA] at d
   refine wS (mf d (fun r s4 ⟨u,hr,h4⟩=>?_) fun _ _ z=>z.elim)
   subst hr
   refine wS (mf h4 (fun _ s5 ⟨x,H5,I5,r5,y5,jk,vH⟩=>?_) fun _ _ z=>z.elim)
   have vI:=I5.pinned (stat vH) (T.obj _ _ jk)
   have back:∀{pV:St} {H7:Hp} {s7:ar},Inv Y (pp++ik fp s5.heap) pV H7 s7->b6 (i+1) s7.heap/\∀b∈fp,H7 b=none:=fun {pV H7 s7} I7=>by
    refine ⟨T.keep _ _ _ jk fun b hb o e=>(I7.pin (b,o) (lf _ (lf _ (dz hb e)))).1,fun b hb=>?_⟩
    obtain ⟨o,e,d⟩:=T.obj _ _ jk b hb
    exact (I7.pin (b,o) (lf _ (lf _ (dz hb e)))).2.1
   have d2:=hg _ s5 τ H5 x u _ vI r5 (step x H5 y5)
   rw [hA,pU] at d2
   refine wS (mf d2 (fun _ s6 ⟨oz,H6,I6,q6⟩=>?_) fun _ _ z=>z.elim)
   have d3:=ht _ s6 oz H6 _ I6 q6
   rw [hA,pU] at d3
   refine wS (mf d3 (fun ok s7 ⟨H7,I7,q7⟩=>?_) fun _ _ z=>z.elim)
   have hy:∀v,yieldOut Y.env v=yieldValue v:=fun v=>by simp only [yieldOut,oC,ci,if_false]
   cases ok with
   |false=>
    simp only [ci,if_false] at q7 ⊢
    obtain ⟨m',wc,w7⟩:=q7
    exact P9 rfl (ih m' wc n (i+1) oz H7 s7 s₀ (by omega) w7 I7.eH (back I7).1 (back I7).2)
   |true=>
    simp only [if_true] at q7 ⊢
    simp only [hy]
    rw [Oi.bind_eq_wrap',Oi.bind_eq_wrap',Oi.wrap_wrap,Oi.wrap_wrap]
    have d4:=he _ s7 oz H7 _ I7 q7
    rw [hA,pU] at d4
    refine seg_wrap (mf d4 (fun yv s8 ⟨y,H8,I8,r8,q8⟩=>?_) fun _ _ z=>z.elim)
    obtain ⟨c,ey,q8⟩:=q8
    subst ey
    cases (show yv=Qj c from r8)
    obtain ⟨n,rfl⟩:∃n',n=n'+1:=⟨n - 1,by omega⟩
    refine seg_at (seg_yield rfl rfl rfl (hY _ _ _ _ c oz H8 I8.eH (fun e=>by rw [if_pos e] at q8;exact q8) fun e b5 ok=>?_))
    rw [if_neg e] at q8
    obtain ⟨m',wc,w8⟩:=q8
    have I9:=I8.k6 ok
    exact P9 rfl (ih m' wc n (i+1) oz H8 b5 b5 (by omega) w8 I9.eH (back I9).1 (back I9).2)
end
abbrev cQ (elt tg iter:dL) (ifs:List dL) (scope:At) (pos:u4):dL:=.GeneratorExp elt [⟨tg,iter,ifs,0⟩] scope pos
abbrev Ef (X:Cx) (N':List cb) (scope:At) (cl:List (cb×ag)) (C:ag) (code:am) (A':l7) (s:ar) (H:Hp) (fp:List ag):Cx:=
 cxBlock X N' (genEnv scope cl C code builtinsNs X.env) A' (genEnv scope cl C code builtinsNs X.env::X.stack) s H fp
abbrev k7 (X:Cx) (N':List cb) (scope:At) (k:Nat) (P:Cx->Prop):Prop:=∀(cl:List (cb×ag)) (C:ag) (code:am) (A':l7) (s:ar) (H:Hp) (fp:List ag),bP k A'->P (Ef X N' scope cl C code A' s H fp)
structure J0 (X:Cx) (pins:List (ag×lm)) (σ:St) (N':List cb) (scope:At) (tn:Nat) (idx:List Nat) (k:Nat) (elt tg iter:dL) (ifs:List dL) (pos:u4) (J:It) (H3:Hp) (a:ag) (s5:ar)
  (Y:Cx) (it:ag) (fp:List ag) (b6:Nat->ij->Prop) (g:Nat) (pp:List (ag×lm)):Prop where
 inv:Inv Y pp (bR tn idx σ) H3 s5
 isg:∀{τ:St} {H':Hp} {s':ar},Inv Y pp τ H' s'->s'.heap.IsGen a g
 st:s5.gens[g]?=some (.fresh (.compStart (cQ elt tg iter ifs scope pos) 0 (.ref it) .none Y.env))
 T:Turn Y.prog Y.w Y.K tg J fp it b6
 tn0:b6 0 s5.heap
 fr:∀b∈fp,H3 b=none
 stat:∀{H':Hp},(∀b∈fp,H' b=none)->∀b∈fp,cH Y pp H' b
 out:∀{τ:St} {H':Hp} {s':ar},Inv Y pp τ H' s'->Inv X pins σ H' s'
 A:Y.A=X.A.in4.in1.over (.compLoop (cQ elt tg iter ifs scope pos) 0 (.ref it) .none Y.env) []
 xe:Y.xe=fun _ _=>False
 calm:Y.calm=true
 co:Y.env.scope.isCoroutine=false
 gsz:∀{τ:St} {H':Hp} {s':ar},Inv Y pp τ H' s'->g<s'.gens.size
 blk:∀P:Cx->Prop,k7 X N' scope k P->P Y
 prog:Y.prog=X.prog
 w:Y.w=X.w
section
variable {X:Cx} {tg elt iter:dL} {ifs:List dL} {scope:At} {pos:u4} {N':List cb} {tn:Nat} {idx:List Nat} {wi:TI} {g:TG} {tt:TT} {te:TE} {c P:ag} {k:Nat}
def Eg (P:ag) (wi:TI) (R:It->Hp->Prop):St->Hp->Prop:=fun σ H=>wi σ H fun J H1=>Tb P H1/\∀ps,Ov ps.toList->R J (upd H1 P (.bO ps))
theorem yL {pins:List (ag×lm)} {s:ar} {σ:St} {H:Hp} {QQ:am->ar->Prop} {R:It->Hp->Prop} (hr:bP (k+1) X.A) (hc:X.calm=true) (B:aW X.N X.env.scope scope N' tn idx)
  (h0:scope.names.lookup (".0" : cb)=some .local) (oC:scope.isCoroutine=false) (mi:X.env.code=.ref c) (hd:rf X.base c P) (gY:∃bm ob,Qf X.base mainGlobals X.mg bm ob)
  (hi:PI X tg iter wi) (hs:∀x,genFold iter X.env x=pure x) (I:Inv X pins σ H s) (h:Eg P wi R σ H)
  (q:∀J H3 a s5 Y it fp b6 gn pp,J0 X pins σ N' scope tn idx k elt tg iter ifs pos J H3 a s5 Y it fp b6 gn pp->R J H3->QQ (.ref a) s5) :
  wpAny (model X.prog X.w) X.A (eval (cQ elt tg iter ifs scope pos) X.env) QQ X.xe s :=by
 obtain ⟨cl,me,gC,iE⟩:=iD (scope:=scope) (env:=X.env) fun n hn=>I.ok.has n ((B.2.1 _ hn).2.2 rfl)
 refine wpAny_GeneratorExp_make oC me (fun y hy=>(B.2.1 y hy).1) h0 B.1 hr.depth (thn (hi pins s σ H _ I h) fun xv s1 h1=>thn h1 fun vC s2 h2=>?_) hs
 obtain ⟨it,fp,b6,J,H2,e,I2,T,pO,f2,⟨ps,hP,K0⟩,q2⟩:=h2
 subst e
 refine ⟨I2.nolimit,m9 I2 mi hd hP K0 fun code ir s3 Eh I3 kp Np=>?_⟩
 obtain ⟨bm,ob,bmod⟩:=gY
 have p7:=bmod.keeps I3.bk
 refine wpAny_builtinsFor (by rw [I3.ok.glob];exact p7.ns) p7.name p7.ne p7.obj p7.cls p7.dict p7.data ?_
 intro h' pL i5
 have Im:∀b∈fp,b≠P:=fun b hb z=>by have:=(f2 b hb).1;rw [z,hP] at this;cases this
 have n5:b6 0 s3.heap:=T.keep _ _ _ pO fun b hb o e=>kp b o (Im b hb) e
 have pZ:∀b∈fp,b<s3.heap.objs.size:=fun b hb=>let ⟨o,e,_⟩:=T.obj _ _ n5 b hb;gc e
 have f3:∀b∈fp,cH X pins (upd H2 P (.bO ir)) b:=fun b hb=>⟨by rw [af (Im b hb)];exact (f2 b hb).1,(f2 b hb).2⟩
 have hsz:h'.objs.size=s3.heap.objs.size+1 :=by rw [i5.1,N6]
 have G3:∀b o,s3.heap.get? b=some o->h'.get? b=some o:=fun b o e=>i5.extBut b o (l6 (gc e)) (bn _ e)
 have Io:Gn s3.gens.size (s3.gens.push (.fresh (.compStart (cQ elt tg iter ifs scope pos) 0 (.ref it) .none (genEnv scope cl s3.heap.objs.size code builtinsNs X.env)))):=⟨Qh.push I3.bare.1 rfl,by rw [Array.size_push];exact FF _⟩
 have Ip:Inv X pins σ (upd H2 P (.bO ir)) {s3 with gens:=s3.gens.push (.fresh (.compStart (cQ elt tg iter ifs scope pos) 0 (.ref it) .none (genEnv scope cl s3.heap.objs.size code builtinsNs X.env)))}:=I3.k6 ⟨rfl,rfl,Io⟩
 have hA:(X.A.in4.in1.over (.compLoop (cQ elt tg iter ifs scope pos) 0 (.ref it) .none (genEnv scope cl s3.heap.objs.size code builtinsNs X.env)) []).frames=some (genEnv scope cl s3.heap.objs.size code builtinsNs X.env::X.stack) :=by
  show pushEnvs [_] (pushEnvs [] X.A.frames)=_
  rw [I.ok.frames];rfl
 have Ai:bP k (X.A.in4.in1.over (.compLoop (cQ elt tg iter ifs scope pos) 0 (.ref it) .none (genEnv scope cl s3.heap.objs.size code builtinsNs X.env)) []) :=by
  refine ⟨hr.hd,?_,?_⟩
  ·show X.A.depth+0+1+3 * k+5<recursionLimit
   have:=hr.dp
   omega
  ·show X.A.units+1+1+1+1+1+0+3+16 * k+200<cLine
   have:=hr.un
   omega
 generalize qa:({cls:=.type "generator",data:=.fields #[.int s3.gens.size 0,.str "<genexpr>" (s3.toks+1),.str (X.env.qual ++ "<genexpr>") (s3.toks+1+1)]}:lm)=kO
 have pC:∀b o,s3.heap.get? b=some o->(h'.push kO).get? b=some o:=fun b o e=>bn _ (G3 b o e)
 have J4:kO.isFreed=false :=by rw [<- qa];rfl
 have K1:(h'.push kO).get? h'.objs.size=some kO:=hX _ J4
 have K2:h'.objs.size≠s3.heap.objs.size :=by rw [hsz];exact Nat.succ_ne_self _
 have K3:upd H2 P (.bO ir) h'.objs.size=none:=I3.hok.fresh (by rw [hsz];exact FF _)
 have I5:=oy (X:=X) (N':=N') (A':=X.A.in4.in1.over (.compLoop (cQ elt tg iter ifs scope pos) 0 (.ref it) .none (genEnv scope cl s3.heap.objs.size code builtinsNs X.env)) []) (env':=genEnv scope cl s3.heap.objs.size code builtinsNs X.env) (stack':=genEnv scope cl s3.heap.objs.size code builtinsNs X.env::X.stack) (ex:=fp) (h1:=h'.push kO) (m0:=fun y=>if y = ".0" then some (.ref it) else none)
  (g':=s3.gens.push (.fresh (.compStart (cQ elt tg iter ifs scope pos) 0 (.ref it) .none (genEnv scope cl s3.heap.objs.size code builtinsNs X.env)))) (tk:=s3.toks+1+1+1) (az:=bR tn idx σ) Ip B.1 rfl I3.ok.blt.symm gC (fun x hx=>by
   have oA:scope.names.lookup x=some .cell\/scope.names.lookup x=some .free:=hx
   rcases oA with z|z
   ·exact absurd rfl ((B.2.1 _ (wE z)).1)
   ·exact iE x (wE z)) (fun z=>I.ok.hd z) hA (.inr ⟨rfl,rfl⟩) (br _) f3 pZ (Un.kept pC) (I3.hok.kept pC) (I3.hok.fresh (br _)) pC (pL.push _) (fun i x v e1 e2 e3=>by
   obtain ⟨fr,j,e4,e5⟩:=B.at e1 e2
   have kx:=(B.2.1 _ (wE fr)).2.2 rfl
   exact ⟨.inr fr,.inr kx,kx,j,e4,e5⟩) (B.len σ) (Gn.self Io)
 have K4:h'.objs.size ∉ dP X.stack:=fun z=>by
  rcases lw.mp (I3.gy _ z) with q|q
  ·exact Mn (l5 I3.lt (by rw [hsz];exact FF _)) q
  ·exact I3.C1 (by rw [hsz];exact FF _) q
 have kg:∀v,kO.data≠.cell v :=by rw [<- qa];intro v z;cases z
 have I6:=I5.m5 (pins':=[(h'.objs.size,kO)]) (fun p hp=>by
  rcases rc.mp hp with rfl
  exact ⟨K1,K3,K2,K4,kg⟩)
 refine q J _ _ _ (Ef X N' scope cl s3.heap.objs.size code _ _ _ fp) it fp b6 s3.gens.size [(h'.objs.size,kO)] ⟨I6,fun {τ H' s'} J'=>?_,?_,T,T.keep _ _ _ n5 fun b _ o e=>pC b o e,fun b hb=>(f3 b hb).1,fun {H'} hn b hb=>?_,fun {τ H' s'} J'=>?_,rfl,rfl,hc,oC,fun {τ H' s'} J'=>?_,fun Pp hb=>hb cl _ code _ _ _ fp Ai,rfl,rfl⟩ (q2 ir Eh)
 ·have:=(J'.pin (h'.objs.size,kO) (lf _ (rc.mpr rfl))).1
  exact ⟨kO,_,_,this,by rw [<- qa],by rw [<- qa],by rw [<- qa]⟩
 ·exact Array.getElem?_push_size ..
 ·refine ⟨hn b hb,l6 (pZ b hb),fun z=>?_,.inl hb,fun x c e=>(f2 b hb).2.2.2.2.1 x c (gC x c e),fun p hp z=>?_⟩
  ·rcases lw.mp (I2.gy b z) with q|q
   ·exact (f2 b hb).2.1 q
   ·exact (f2 b hb).2.2.1 q
  ·rcases rc.mp hp with rfl
   have z':h'.objs.size=b:=z
   have:=pZ b hb
   rw [<- z',hsz] at this
   exact absurd this (Nat.not_lt.mpr (FF _))
 ·exact Ip.pq J'.os J'.base J'.hok J'.bare fun b hb=>⟨(f3 b hb).2.2.2.1,(f3 b hb).2.1,(f3 b hb).2.2.2.2.1,(f3 b hb).2.2.2.2.2⟩
 ·have:=J'.bare.2
  have e:(Ef X N' scope cl s3.heap.objs.size code (X.A.in4.in1.over (.compLoop (cQ elt tg iter ifs scope pos) 0 (.ref it) .none (genEnv scope cl s3.heap.objs.size code builtinsNs X.env)) []) {s3 with gens:=s3.gens.push (.fresh (.compStart (cQ elt tg iter ifs scope pos) 0 (.ref it) .none (genEnv scope cl s3.heap.objs.size code builtinsNs X.env)))} (upd H2 P (.bO ir)) fp).s₀.gens.size=s3.gens.size+1 :=by
   show (s3.gens.push _).size=_
   rw [Array.size_push]
  rw [e] at this
  omega
theorem yM {prog:gl} {w:ii} {A:l7} {a:ag} {R':Qo->ar->Prop} (In:Nat->ar->Prop)
  (turn:∀n s,In n s->wpAny (model prog w) A.in1 (pyNext (.ref a)) (fun r s1=>match r with
   |none=>R' (.ok (.ret (.bool true))) s1
   |some v=>∃c,v=.bool c/\if c=true then ∃m,m<n/\In m s1 else R' (.ok (.ret (.bool false))) s1) (fun e s'=>R' (.error e) s') s) :
  ∀(n:Nat) (s:ar),In n s->codeAny (model prog w) A (.builtin "all.loop" ⟨[.ref a],[]⟩) R' s :=by
 intro n
 induction n using P8 with
 |ind n ih=>
  intro s h
  refine DD F.entry_all_loop ?_
  rw [Cs PX _]
  show wpAny _ A.in1 (pyNext (.ref a)>>=_) _ _ s
  refine ac (mf (turn n s h) (fun r s1 q=>?_) fun _ _ z=>z)
  cases r with
  |none=>exact ac (IF (ba q))
  |some v=>
   obtain ⟨c,e,q⟩:=q
   subst e
   refine ac (wl (xL ?_))
   refine ac (wpAny_letGo ?_)
   cases c with
   |true=>
    simp only [if_true] at q ⊢
    obtain ⟨m,hm,hI⟩:=q
    exact ba ⟨KT PX _,ih m hm s1 hI⟩
   |false=>
    simp only [ci,if_false] at q ⊢
    exact ac (IF (ba q))
theorem js {s:ar} {g:Nat} {x:OP} {n:Nat} (h:Gn n s.gens) (hx:x.bare=true):Gn s.gens.size (s.setGen g x).gens :=by
 refine ⟨fun y hy=>?_,?_⟩
 ·have K5:y∈s.gens.setIfInBounds g x:=hy
  rcases Array.mem_or_eq_of_mem_setIfInBounds K5 with z|z
  ·exact h.1 y z
  ·rw [z];exact hx
 ·show s.gens.size<=(s.gens.setIfInBounds g x).size
  rw [Array.size_setIfInBounds]
  exact br _
theorem wd {s:ar} {g:Nat} {x:OP} (h:g<s.gens.size):(s.setGen g x).gens[g]?=some x :=by
 show (s.gens.setIfInBounds g x)[g]?=_
 rw [Array.getElem?_setIfInBounds_self]
 simp [h]
theorem we {Y:Cx} {A2:l7} {R:GenEnd} {Yp:Protocol} {n:Nat} {s₀ s:ar} {it:ag} {J:It} {fp:List ag} {b6:Nat->ij->Prop} (T:Turn Y.prog Y.w Y.K tg J fp it b6) {i:Nat} (st:b6 i s.heap)
  (loop:Seg (model Y.prog Y.w) A2 R Yp n s₀ (.compLoop (cQ elt tg iter ifs scope pos) 0 (.ref it) .none Y.env) ((model Y.prog Y.w).den (.compLoop (cQ elt tg iter ifs scope pos) 0 (.ref it) .none Y.env)) [] s) :
  Seg (model Y.prog Y.w) A2 R Yp n s₀ (.compStart (cQ elt tg iter ifs scope pos) 0 (.ref it) .none Y.env) ((model Y.prog Y.w).den (.compStart (cQ elt tg iter ifs scope pos) 0 (.ref it) .none Y.env)) [] s :=by
 show Seg _ A2 _ _ _ s₀ _ ((compStart (cQ elt tg iter ifs scope pos) 0 (.ref it) .none Y.env).onRaise (leaving Y.env)) [] s
 unfold compStart
 rw [Oi.onRaise_eq_wrap]
 show Seg _ A2 _ _ _ s₀ _ ((ask>>=_).wrap _ _ _ _) [] s
 refine wS (Ob ?_)
 split
 ·exact P9 rfl loop
 ·first
   |exact wS (IF (wS (EO (wS (T.self _ i s _ _ st (P9 rfl loop))))))
   |(refine wS (IF ?_);show Seg _ A2 _ _ _ s₀ _ ((standAt iter.pos>>=_).wrap _ _ _ _) [] s;exact wS (EO (wS (T.self _ i s _ _ st (P9 rfl loop)))))
def Ei (P:ag) (tn:Nat) (idx:List Nat) (wi:TI) (g:TG) (tt:TT) (te:TE):TE:=fun σ H Q=>Eg P wi (fun J H1=>∃W:Nat->Nat->St->Hp->Prop,(∃m,W 0 m (bR tn idx σ) H1)/\Ee J g tt te false (fun b H2=>Q (.bl b) H2) W) σ H
theorem Ej {p qb:u4} (hr:bP (k+1) X.A) (hc:X.calm=true) (B:aW X.N X.env.scope scope N' tn idx)
  (h0:scope.names.lookup (".0" : cb)=some .local) (oC:scope.isCoroutine=false) (mi:X.env.code=.ref c) (hd:rf X.base c P) (gY:∃bm ob,Qf X.base mainGlobals X.mg bm ob)
  (Ek:Gl X "all") (hm:X.mg "all" = none) (hi:PI X tg iter wi) (hg:k7 X N' scope k fun Y=>PG Y tg g) (ht:k7 X N' scope k fun Y=>iq Y ifs tt) (he:k7 X N' scope k fun Y=>PE Y elt te)
  (hs:∀x,genFold iter X.env x=pure x :=by intro _;rfl):PE X (.Call (.Name "all" p) [cQ elt tg iter ifs scope qb] [] pos) (Ei P tn idx wi g tt te) :=by
 refine ⟨?_⟩
 intro pins s σ H Q I h
 refine Cc (cU I Ek hm PyProof.Rows.boot_all ?_)
 refine PyProof.Rows.callWith_builtin1 ?_ rfl rfl
 show wpAny _ _ (spliced ((false,eval (cQ elt tg iter ifs scope qb) X.env)::[])) _ _ s
 refine EU (yL hr hc B h0 oC mi hd gY hi hs I h ?_)
 intro J H3 a s5 Y it fp b6 gn pp G ⟨W,⟨m0,w0⟩,turn⟩
 refine Gc ?_
 refine call_function_tree F.kind_all F.plain_all F.entry_all (F.args_all1 _) ?_
 unfold ma.«all»
 refine ac (m:=oneArg "all" _) (ba ?_)
 refine ac (wpAny_pyIter_gen (G.isg G.inv) ?_)
 refine ba ⟨KT PX _,?_⟩
 have El:=yK (A2:=X.A.in4.in1) (pp:=pp) (R:=fun n s₀ r au=>r=.ok .next/\∃τ H,Inv Y pp τ H au/\Q (.bl true) H)
  (Yp:=fun n s₀ v s p0=>∃c τ H,v=.bool c/\Inv Y pp τ H s/\(c=false->Q (.bl false) H)/\(c≠false->∀b5,k4 s b5->p0 (.send .none) b5)) G.A G.xe G.calm G.co G.T (G.blk _ hg) (G.blk _ ht) (G.blk _ he) G.stat turn
  (fun n s₀ au τ H J z=>⟨rfl,τ,H,J,z⟩) (fun n s₀ s p0 c τ H J z1 z2=>⟨c,τ,H,rfl,J,z1,z2⟩)
 have hP:=G.prog
 have hW:=G.w
 rw [hP,hW] at El
 refine yM (A:=X.A) (fun n s=>(∃τ H,Inv Y pp τ H s)/\∃gs,s.gens[gn]?=some gs/\∀b5,k4 s b5->gs.Goes (model X.prog X.w) X.A.in4.in1 (fun n s₀ r au=>r=.ok .next/\∃τ H,Inv Y pp τ H au/\Q (.bl true) H)
  (fun n s₀ v s p0=>∃c τ H,v=.bool c/\Inv Y pp τ H s/\(c=false->Q (.bl false) H)/\(c≠false->∀b5,k4 s b5->p0 (.send .none) b5)) n (.send .none) b5) ?_ (m0+1) s5 ?_
 ·rintro n s6 ⟨⟨τ,H6,I6⟩,gs,K6,qa⟩
  have Nc:=G.gsz I6
  refine wpAny_of_in1 (wpAny_of_in1 (wpAny_of_in1 ?_))
  show wpAny (model X.prog X.w) X.A.in4 (pyNext (.ref a)) _ _ s6
  refine wpAny_pyNext_genexpQ (A:=X.A.in4) (P:=fun n s₀ au=>∃τ H,Inv Y pp τ H au/\Q (.bl true) H) hr.hd I6.nolimit hr.depth (G.isg I6) K6 (qa _ ⟨rfl,rfl,js I6.bare rfl⟩) (fun v s1 Iq hb hv=>?_) (fun s1 hp h' hk=>?_)
  ·obtain ⟨c,Ir,H1,e,I1,z1,z2⟩:=hv
   subst e
   refine ⟨c,rfl,?_⟩
   have wg:k4 s1 (s1.setGen gn Iq):=⟨rfl,rfl,js I1.bare hb⟩
   cases c with
   |false=>
    rw [if_neg f8]
    exact ⟨.bl false,H1,G.out (I1.k6 wg),rfl,z1 rfl⟩
   |true=>
    rw [if_pos rfl]
    have z3:=z2 (by decide)
    cases n with
    |zero=>exact (z3 s1 ⟨rfl,rfl,I1.bare.self⟩).elim
    |succ m=>
     refine ⟨m,Oc _,⟨Ir,H1,I1.k6 wg⟩,Iq,wd (G.gsz I1),fun b5 o=>z3 b5 ⟨o.1,o.2.1,?_⟩⟩
     exact wg.2.2.trans o.2.2
  ·obtain ⟨Ir,H1,I1,z1⟩:=hp
   have I2:=I1.kept (t':=s1.toks) hk
   have K7:k4 {s1 with heap:=h'} {s1.setGen gn .finished with heap:=h'}:=⟨rfl,rfl,js (s:=s1) I1.bare rfl⟩
   exact ⟨.bl true,H1,G.out (I2.k6 K7),rfl,z1⟩
 ·refine ⟨⟨_,_,G.inv⟩,_,G.st,fun b5 o=>⟨rfl,?_⟩⟩
  have I7:=G.inv.k6 o
  have Iu:b6 0 b5.heap :=by rw [o.1];exact G.tn0
  have q:=we (iter:=iter) (ifs:=ifs) (scope:=scope) (pos:=qb) (elt:=elt) G.T Iu (by rw [hP,hW];exact El m0 (m0+1) 0 _ _ b5 b5 (Oc _) w0 I7 Iu G.fr)
  rw [hP,hW] at q
  exact q
end
section
variable {X:Cx} {tg l:dL} {tl:TE}
theorem cN {xs:List V} {us:List am} (r:Vals xs us) {j:Nat} (h:j<us.toArray.size):RelV (xs.getD j .aj) us.toArray[j] :=by
 have hl:=r.length
 have hj:j<xs.length :=by simpa [hl] using h
 obtain ⟨u,e,q⟩:=r.get (i:=j) (x:=xs[j]) (ap hj)
 have e2:us.toArray[j]=u :=by
  rw [bv] at e
  obtain ⟨h',e⟩:=e
  simpa using e
 rw [e2,db,ap hj]
 exact q
theorem rY:cm X (.builtin "isinstance") (fun xs H Q=>∃x T t b,xs=[x,.ty T]/\eJ X.K H x t/\Pn X.K t (.type T)=some b/\Q (.bl b) H) :=by
 intro pins s σ H xs us Q I r h
 obtain ⟨x,T,t,b,rfl,ty,e,q⟩:=h
 obtain ⟨u,w',rfl,r1,r2⟩:=vals2 r
 cases (show w'=AM T from r2)
 exact vO I r1 ty e fun tk=>⟨.bl b,H,I.tok tk,rfl,q⟩
theorem hZ:∀{xs:List V} {us:List am},xs.length=us.length->(∀(i:Nat) (v:V),xs[i]?=some v->∃u,us[i]?=some u/\RelV v u)->Vals xs us
 | [],[],_,_=>.nil
 | [],_::_,h,_=>by simp at h
 |_::_,[],h,_=>by simp at h
 |x::xs,u::us,h,g=>by
          obtain ⟨u',e,r⟩:=g 0 x rfl
          have e':u=u':=by simpa using e
          subst e'
          exact .cons r (hZ (by simpa using h) fun i v hv=>by
           obtain ⟨w,e2,r2⟩:=g (i+1) v (by simpa using hv)
           exact ⟨w,by simpa using e2,r2⟩)
theorem qd {e:dL} {te:TE} {p p1 p2 pos:u4} (hc:X.calm=true) (hg:Gl X "list") (hm:X.mg "list" = none) (mj:Gl X "range") (qf:X.mg "range" = none) (he:PE X e te) (hs:starEach [e] X.env=[(false,eval e X.env)] :=by rfl) :
  PE X (.Call (.Name "list" p) [.Call (.Name "range" p1) [e] [] p2] [] pos) (fun σ H Q=>te σ H fun x H1=>∃j:Int,x=.int j /\ -(2 ^ 24)<=j/\j<=2 ^ 24/\∀l,H1 l=none->Q (.ref l) (upd H1 l (.lst ((io j.toNat).map fun i=>V.int (i:Nat))))) :=by
 refine ⟨?_⟩
 intro pins s σ H Q I h
 refine Cc (cU I hg hm (by decide +kernel:bootBuiltins "list" = some (.type "list")) ?_)
 refine u8 ?_ rfl rfl
 show wpAny _ _ (spliced ((false,eval (.Call (.Name "range" p1) [e] [] p2) X.env)::[])) _ _ s
 refine EU ?_
 refine Call_ (cU I mj qf boot_range (u8 ?_ hs rfl))
 rw [hs]
 refine EU (thn (he pins s σ H _ I h) fun v s1 ⟨x,H1,I1,r1,q1⟩=>Gc ?_)
 obtain ⟨j,rfl,b1,b2,q⟩:=q1
 obtain ⟨t,rfl⟩:=r1
 refine call_range_1 ?_
 refine Gc ?_
 refine call_list_range (n:=j.toNat) (I1.ok.hd hc) (IsRange.new ..) (small_one (by omega) (by omega) (by omega) (by omega)) (by rw [PyProof.Rows.rangeSize_nat];simp) (by omega) fun h' tk di c' hk hS hit=>?_
 have I2:Inv X pins σ H1 {s1 with heap:=s1.heap.push {cls:=.type "range",data:=.fields #[.int 0 s1.toks,.int j t,.int 1 (s1.toks+1)]},toks:=s1.toks+1+1}:=I1.kept fun b o e=>bn _ e
 obtain ⟨hsz,jt⟩:=hit
 have rv:Vals ((io j.toNat).map fun i=>V.int (i:Nat)) di.toList :=by
  refine hZ (by simpa using hsz.symm) fun i v e=>?_
  rw [cr] at e
  cases q2:(io j.toNat)[i]? with
  |none=>rw [q2] at e;cases e
  |some k=>
   rw [q2] at e
   have ek:k=i :=by
    obtain ⟨_,e3⟩:=bv.mp q2
    simpa using e3.symm
   have hi:i<di.size :=by
    have:=(bv.mp q2).1
    rw [Db] at this
    omega
   obtain ⟨t2,e4⟩:=jt i di[i] (by simp [hi])
   refine ⟨di[i],by simp [hi],?_⟩
   rw [e4]
   have e5:v=V.int (k:Nat):=(i1 e).symm
   rw [e5,ek]
   exact ⟨t2,by simp⟩
 have ob:aZ X.prog X.w (upd H1 (s1.heap.push {cls:=.type "range",data:=.fields #[.int 0 s1.toks,.int j t,.int 1 (s1.toks+1)]}).objs.size (.lst ((io j.toNat).map fun i=>V.int (i:Nat)))) h' (s1.heap.push {cls:=.type "range",data:=.fields #[.int 0 s1.toks,.int j t,.int 1 (s1.toks+1)]}).objs.size (.lst ((io j.toNat).map fun i=>V.int (i:Nat))) :=by
  refine ⟨?_,di.toList,c',rv,by simpa using hS⟩
  rw [c8,Db]
  exact sB (show j.toNat<=2 ^ 24 by omega) (by decide)
 exact ⟨.ref _,_,I2.laid (t':=tk) hk (br _) ob,rfl,q _ (I2.hok.fresh (br _))⟩
end
theorem Em:bootBuiltins "int" = some (.type "int") :=by decide +kernel
theorem En:bootBuiltins "str" = some (.type "str") :=by decide +kernel
theorem BK:bootBuiltins "bool" = some (.type "bool") :=by decide +kernel
theorem gD:bootBuiltins "tuple" = some (.type "tuple") :=by decide +kernel
theorem qg:bootBuiltins "min" = some (.builtin "min") :=by decide +kernel
theorem Eo:bootBuiltins "max" = some (.builtin "max") :=by decide +kernel
theorem Ep:bootBuiltins "abs" = some (.builtin "abs") :=by decide +kernel
theorem o9:bootBuiltins "ValueError" = some (.type "ValueError") :=by decide +kernel
theorem bT:bootBuiltins "isinstance" = some (.builtin "isinstance") :=by decide +kernel
structure Bl (mg:cb->Option am):Prop where
 len_:mg "len" = none
 range_:mg "range" = none
 min_:mg "min" = none
 max_:mg "max" = none
 abs_:mg "abs" = none
 list_:mg "list" = none
 tuple_:mg "tuple" = none
 int_:mg "int" = none
 str_:mg "str" = none
 bool_:mg "bool" = none
 isinstance_:mg "isinstance" = none
 all_:mg "all" = none
 set_:mg "set" = none
 sorted_:mg "sorted" = none
 zip_:mg "zip" = none
 enumerate_:mg "enumerate" = none
 sum_:mg "sum" = none
 reversed_:mg "reversed" = none
 divmod_:mg "divmod" = none
 any_:mg "any" = none
 ValueError_:mg "ValueError" = none
structure Df (K:bi) (mg:cb->Option am) (x:cb) (st:r9) (ps:List cb) (f:ag) (fd:nw):Prop where
 fn:ox K x x st f fd
 bd:Binds K fd ps []
 mg:mg x=some (.ref f)
structure Aj (base:ij) (fd:nw) (c P:ag):Prop where
 code:fd.code=.ref c
 hd:rf base c P
section
variable {P:gl} {w:ii} {K:bi} {mg:cb->Option am} {base:ij}
theorem ox.K8 {x qual:cb} {st:r9} {f:ag} {fd:nw} {N ps:List cb} {k:Nat} {sp:Sp} (F:ox K x qual st f fd) (S:a9 N ps (aw st)) (len:∀vs H Q E,sp vs H Q E->vs.length=ps.length)
  (lX:∀(A:l7) (outer:List NR) (s:ar) (H:Hp) (vs:List V) (Q:VK) (E:XK),bP k (A.deeper (envOfC qual (aw st) s.heap.objs.size f fd.code))->sp vs H Q E->
   ∃t,dQ (eL bC P w K mg base N qual (aw st) f fd.code A outer s H E).lU (cw st) t/\t {nx:=fun _ H'=>Q .aj H',rt:=Q} (start N vs) H):FnOk P w K mg base bC (k+1) f fd ps sp :=by
 obtain ⟨oc,od,kV,doc,pm,an,cD,ct,jm,rfl,lk,fK⟩:=F.ex
 refine Ab lk fK S len fun A outer s H vs Q E hr kM=>?_
 obtain ⟨t,h,q⟩:=lX A outer s H vs Q E hr kM
 exact ⟨t,h.lU,q⟩
end
def Nq:V->Bool | .int _=>true|_=>false
def below (m:Int):V->Bool | .int i=>decide (0<=i) && decide (i<m)|_=>false
structure iG (aA:List (List Int)) (w:Nat):Prop where
 one:1<=aA.length
 nine:aA.length<=9
 wid:w=2\/w=3
 row:∀r∈aA,r.length=w/\∀g∈r,0<=g/\g<(aA.length:Int)
def Ak (tb:List ag) (H:Hp):Prop:=∀p∈tb,Tb p H
def G4 (H:Hp) (b:ag):Prop:=∃c m:Int,H b=some (.lst [.int c,.int m])/\0<=c/\0<=m
def Runs (J:It) (ys:List V) (H:Hp):Prop:=∀i,(i<ys.length->J.go i H/\∀x H',J.yld i H x H'->H'=H/\ys[i]?=some x)/\(ys.length<=i->J.stop i H)
theorem yN {K:bi} {a:ag} {ys:List V} {H:Hp} (h:bp K H a ys):Runs (Du K a) ys H:=fun i=>
 ⟨fun hi=>⟨⟨ys,ys[i],h,ap hi⟩,fun x H' y=>⟨y.1,y.2 ys h⟩⟩,fun hi=>⟨ys,h,hi⟩⟩
theorem wj {K:bi} {a:ag} {ys:List V} {H:Hp} (h:bB K H a ys):Runs (Dr K a) ys H:=fun i=>
 ⟨fun hi=>⟨⟨ys,ys[i],h,ap hi⟩,fun x H' y=>⟨y.1,y.2 ys h⟩⟩,fun hi=>⟨ys,h,hi⟩⟩
theorem uy {lo:Int} {n:Nat} {H:Hp}:Runs (z6 lo n) ((io n).map fun i=>V.int (lo+(i:Nat))) H:=fun i=>by
 have el:((io n).map fun i=>V.int (lo+(i:Nat))).length=n :=by simp
 rw [el]
 refine ⟨fun hi=>⟨hi,fun x H' y=>?_⟩,fun hi=>hi⟩
 obtain ⟨e1,e2⟩:=y
 refine ⟨e1,?_⟩
 rw [e2,cr,GS hi]
 rfl
section
variable {X:Cx} {K:bi}
theorem sY (h:X.K=K):jo X (HZ K):=h▸DZ
theorem wm (h:X.K=K):cm X (.builtin "len") (fun xs H Q=>∃x n,xs=[x]/\DK K x H n/\Q (.int n) H):=h▸yx
theorem ng (h:X.K=K):cm X (.type "tuple") (fun xs H Q=>∃p ys,xs=[.ref p]/\((bB K H p ys/\∀l,H l=none->Q (.ref l) (upd H l (.tup ys)))\/(bp K H p ys/\Q (.ref p) H))):=h▸o8
theorem qh (h:X.K=K):cm X (.builtin "isinstance") (fun xs H Q=>∃x T t b,xs=[x,.ty T]/\eJ K H x t/\Pn K t (.type T)=some b/\Q (.bl b) H):=h▸rY
theorem yO {tg l:dL} {tl:TE} (h:X.K=K) (hl:PE X l tl):PI X tg l (z7 K tl):=h▸Br hl
theorem BL {tg l:dL} {tl:TE} (h:X.K=K) (hl:PE X l tl):PI X tg l (Dw K tl):=h▸Dx hl
variable {o e:dL} {es:List dL} {to:TE} {t:TA} {name:cb} {apos aL:u4} {T id:String} {r:V->List V->Hp->VK->Prop}
theorem Er (h:X.K=K) (pa:PlainAttrs T) (slot:Slot T name id) (vV:typeOf (.builtin id)=pure (.type "method_descriptor")) (hm:Af X id r) (ho:PE X o to) (ha:PA X (e::es) t) (gb:attributeBase o name X.env (eval o X.env)=eval o X.env :=by rfl)
  (iB:((backTo aL (starEach (e::es) X.env)).all (fun x => !x.1) && (backToKw aL (keywordEach [] X.env)).all (fun x=>x.1.isSome)
   && decide ((e::es).length+([]:List Me).length+(if ([]:List Me).isEmpty then 0 else 1)<30))=true :=by rfl)
  (hline:(apos.endLine==aL.line)=true :=by rfl) (hs:starEach (e::es) X.env=(false,eval e X.env)::starEach es X.env :=by rfl) (fc:(backTo aL (starEach es X.env)).any (·.1)=false :=by rfl) :
  PE X (.Call (.Attribute o name apos) (e::es) [] aL) (Ia K T r to t):=h▸GZ pa slot vV hm ho ha gb iB hline hs fc
end
abbrev cx (K:bi) (x:cb) (st:r9):Prop:=
 ∃(f:ag) (oc:am) (od:Option ag) (sl:Array (Option am)) (kV dc pm:am) (an:Option ag) (cd ct:am),
  kw K mainGlobals x=some (some (.ref f))/\K.lookup f=some ⟨oc,od,.func (DO x x (eV st) (cw st) (aw st) .none kV dc pm an cd ct),sl⟩/\OA K cd x=true/\N1 K (.ref f)=true
theorem bD {K:bi} {x:cb} {st:r9} {f:ag} {oc:am} {od:Option ag} {sl:Array (Option am)} {kV dc pm:am} {an:Option ag} {cd ct:am} (a:kw K mainGlobals x=some (some (.ref f)))
  (l:K.lookup f=some ⟨oc,od,.func (DO x x (eV st) (cw st) (aw st) .none kV dc pm an cd ct),sl⟩) (c:OA K cd x=true) (k:N1 K (.ref f)=true):cx K x st:=⟨f,oc,od,sl,kV,dc,pm,an,cd,ct,a,l,c,k⟩
section
variable {K:bi} {mg:cb->Option am} {h base:ij}
theorem cx.df {x:cb} {st:r9} (d:cx K x st) (X:K.In h) (G:h.Ns mainGlobals mg) (ps:List cb)
  (hb:∀(kV doc pm:am) (an:Option ag) (cD ct:am) (us:List am),us.length=ps.length->bindArgs (DO x x (eV st) (cw st) (aw st) .none kV doc pm an cD ct) ⟨us,[]⟩=pure (ps.zip us)) :
  ∃f fd,Df K mg x st ps f fd :=by
 obtain ⟨f,oc,od,sl,kV,dc,pm,an,cd,ct,a,l,c,k⟩:=d
 have F:=D7 (st:=st) l c k
 exact ⟨f,_,F,F.binds hb,AT X G a⟩
theorem wo {x:cb} {st:r9} {ps:List cb} {f p:ag} {fd:nw} (D:Df K mg x st ps f fd) (X:K.In h)
  (t:∃f o fd c,mg x=some (.ref f)/\h.get? f=some o/\o.data=.func fd/\fd.code=.ref c/\rf h c p) (tr:∀c p,rf h c p->rf base c p):∃c,Aj base fd c p :=by
 obtain ⟨f',o,K9,c,e1,e2,e3,e4,e5⟩:=t
 obtain ⟨oc,od,kV,doc,pm,an,cD,ct,jm,rfl,lk,fK⟩:=D.fn.ex
 have e:=D.mg.symm.trans e1
 cases e
 have q:=(X _ _ lk).symm.trans e2
 cases q
 cases e3
 exact ⟨c,e4,tr _ _ e5⟩
theorem Df.bind1 {x y:cb} {st:r9} {f:ag} {fd:nw} (D:Df K mg x st [y] f fd) (s:ar) (v:am)
  (hb:∀(kV doc pm:am) (an:Option ag) (cD ct:am) (u:am),bindArgs (DO x x (eV st) (cw st) (aw st) .none kV doc pm an cD ct) ⟨[u],[]⟩=pure [(y,u)]):PR s fd ⟨[v],[]⟩ [(y,v)] :=by
 obtain ⟨oc,od,kV,doc,pm,an,cD,ct,jm,rfl,lk,fK⟩:=D.fn.ex
 exact .of_eq (hb kV doc pm an cD ct v)
theorem h8 {α β:Type} {F:α->β->Prop} {a:α} {r:List α} {t:List β} (h:wn F (a::r) t):∃b t',t=b::t'/\F a b/\wn F r t':=by
 cases h with
 |cons x y=>exact ⟨_,_,rfl,x,y⟩
theorem recs_of {q:gl} {i6:List cb} (h:(i6.all fun y=>(recsOf q).any fun r=>decide (r.name=y))=true):∀y∈i6,∃r∈recsOf q,r.name=y:=fun y hy=>by
 have:=sK.mp h y hy
 obtain ⟨r,hr,e⟩:=List.any_eq_true.mp this
 exact ⟨r,hr,of_decide_eq_true e⟩
end
def i7 (xs:Array Nat):Prop:=xs.toList.Pairwise (· < ·)
theorem gE {xs:Array Nat} (h:i7 xs) {i j:Nat} (qi:i<j) (hj:j<xs.size):xs[i]<xs[j] :=by
 have:=Fa.mp h i j (by simpa using Nat.lt_trans qi hj) (by simpa using hj) qi
 simpa using this
theorem below_go {xs:Array Nat} {v:Nat} (h:i7 xs):∀(fuel lo hi:Nat),hi - lo<=fuel->lo<=hi->hi<=xs.size->(∀i (cI:i<xs.size),i<lo->xs[i]<v)->(∀i (cI:i<xs.size),hi<=i->v<=xs[i])->
  OE xs v fuel lo hi<=xs.size/\(∀i (cI:i<xs.size),i<OE xs v fuel lo hi->xs[i]<v)/\∀i (cI:i<xs.size),OE xs v fuel lo hi<=i->v<=xs[i]
 |0,lo,hi,hf,h1,h2,ha,hb=>by
          have e:lo=hi :=by omega
          subst e
          exact ⟨h2,ha,hb⟩
 |fuel+1,lo,hi,hf,h1,h2,ha,hb=>by
          unfold OE
          by_cases aX:lo<hi
          ·rw [if_pos aX]
           dsimp only
           have hm:(lo+hi) / 2<xs.size :=by omega
           have e:xs.getD ((lo+hi) / 2) v=xs[(lo+hi) / 2] :=by simp [LG,hm]
           rw [e]
           by_cases hc:xs[(lo+hi) / 2]<v
           ·rw [if_pos hc]
            refine below_go h fuel _ _ (by omega) (by omega) h2 (fun i cI hl=>?_) hb
            by_cases ei:i=(lo+hi) / 2
            ·subst ei;exact hc
            ·exact Nat.lt_trans (gE h (show i<(lo+hi) / 2 by omega) hm) hc
           ·rw [if_neg hc]
            refine below_go h fuel _ _ (by omega) (by omega) (by omega) ha (fun i cI hl=>?_)
            by_cases ei:i=(lo+hi) / 2
            ·subst ei;exact OR hc
            ·exact sB (OR hc) (Oq (gE h (show (lo+hi) / 2<i by omega) cI))
          ·rw [if_neg aX]
           have e:lo=hi :=by omega
           subst e
           exact ⟨h2,ha,hb⟩
theorem gF {xs:Array Nat} (v:Nat) (h:i7 xs):jp xs v<=xs.size/\(∀i (cI:i<xs.size),i<jp xs v->xs[i]<v)/\∀i (cI:i<xs.size),jp xs v<=i->v<=xs[i]:=
 below_go h _ _ _ (by omega) (l8 _) (br _) (fun i _ z=>absurd z (Qa _)) (fun i z z'=>absurd z (Nat.not_lt.mpr z'))
theorem uz {xs:Array Nat} {v:Nat} (h:i7 xs) (hn:xs[jp xs v]?≠some v):i7 (tz xs (jp xs v) v) :=by
 obtain ⟨b0,b1,b2⟩:=gF v h
 generalize jp xs v=p at *
 unfold i7 tz
 have e:((xs.extract 0 p).push v++xs.extract p xs.size).toList=xs.toList.take p++[v]++xs.toList.drop p :=by
  simp
  exact EM (by simp)
 rw [e]
 have hl:∀y∈xs.toList.take p,y<v:=fun y hy=>by
  obtain ⟨i,hi,rfl⟩:=List.mem_take_iff_getElem.mp hy
  have fu:i<p/\i<xs.size :=by simpa [Nat.lt_min] using hi
  simpa using b1 i fu.2 fu.1
 have hr:∀y∈xs.toList.drop p,v<y:=fun y hy=>by
  obtain ⟨i,hi,rfl⟩:=List.mem_drop_iff_getElem.mp hy
  have fu:p+i<xs.size :=by rw [Nat.add_comm];simpa using hi
  have h1:v<=xs[p+i]:=b2 (p+i) fu (Nat.le_add_right _ _)
  have h2:v≠xs[p+i]:=fun z=>by
   by_cases La:i=0
   ·subst La
    exact hn (by rw [Nat.add_zero] at fu;rw [qr fu];simpa using z.symm)
   ·have q:=gE h (show p<p+i by omega) fu
    have q2:=b2 p (by omega) (br _)
    omega
  have:xs.toList[p+i]'(by simpa using fu)=xs[p+i] :=by simp
  rw [this]
  omega
 have hp:=List.take_append_drop p xs.toList
 have Lb:(xs.toList.take p++xs.toList.drop p).Pairwise (· < ·) :=by rw [hp];exact h
 obtain ⟨q1,q2,q3⟩:=Pb.mp Lb
 refine Pb.mpr ⟨Pb.mpr ⟨q1,List.pairwise_singleton _ _,fun a ha b hb=>?_⟩,q2,fun a ha b hb=>?_⟩
 ·rw [rc] at hb;subst hb;exact hl a ha
 ·rcases wT.mp ha with ha|ha
  ·exact q3 a ha b hb
  ·rw [rc] at ha;subst ha;exact hr b hb
structure da (w:ii) (t:lp):Prop where
 dum:t.dummies=#[]
 ris:i7 t.place
 led:t.led = !w.params.followText "set-order"
theorem sZ (j:Nat):lp.has #[] j=false :=by
 unfold lp.has
 have:(#[]:Array Nat)[jp #[] j]?=none :=by simp
 rw [this]
 rfl
theorem uA {w:ii} {t:lp} (h:da w t) {j:Nat} (e:t.slot j=.empty):t.place[jp t.place j]?≠some j:=fun z=>by
 unfold lp.slot at e
 dsimp only at e
 rw [z] at e
 simp at e
theorem da.put {w:ii} {t:lp} (h:da w t) {j:Nat} (e:t.slot j=.empty):da w (t.put j).1 :=by
 unfold lp.put
 refine ⟨?_,uz h.ris (uA h e),h.led⟩
 show (if lp.has t.dummies j then _ else t.dummies)=#[]
 rw [h.dum,sZ]
 rfl
theorem yP {α:Type} (f:Nat->Option α) (n:Nat):i7 (((io n).filterMap fun j=>(f j).map (j,·)).map (·.1)).toArray :=by
 unfold i7
 have e:(((io n).filterMap fun j=>(f j).map (j,·)).map (·.1)).toArray.toList=(io n).filter fun j=>(f j).isSome :=by
  rw [Og]
  induction io n with
  |nil=>rfl
  |cons a l ih=>
   cases hf:f a with
   |none=>simp [GM,hf,ih]
   |some b=>simp [GM,hf,ih]
 rw [e]
 exact Px.filter _ OK
def J5 (e:Int×am):Int:=match e.2 with | .int i _=>i|_=>0
def J6 (P:gl) (w:ii) (h:ij) (a:ag) (ns:List Int):Prop:=
 ∃o es ep t,h.get? a=some o/\o.ExactSet/\o.data=.set es ep t/\ElemsOf (intKind P w) es.toList/\(es.toList.map J5).Perm ns/\ns.Nodup/\es.size<scanBound/\t.fits es.size=true/\da w t
def J7 (P:gl) (w:ii) (a:ag) (ns:List Int):HO:=.ext fun h=>J6 P w h a ns
def J8 (ns:List Int) (m:Int):List Int:=if m∈ns then ns else ns++[m]
section
variable {P:gl} {w:ii} {A:l7} {E:am->ar->Prop} {s:ar}
abbrev nh (w:ii):lm:={cls:=.type "set",dict:=none,data:=.set #[] 0 (.fresh 0 0 (!w.params.followText "set-order"))}
end
theorem wq:Manifest.owners.lookup (String.ofList ['r','o','t','a','r','e','t','i','_','t','e','s'].reverse)=some Manifest.sig_set_iterator :=by kernel_rfl
theorem bE:Slot "set_iterator" "__next__" "set_iterator.__next__" :=
 .of (owner := "set_iterator") (n := "__next__") (by rw [FM,ze];kernel_rfl) (by decide +kernel) (by decide +kernel) (by decide +kernel)
  (by first|exact .inl (by decide +kernel)|exact .inr (by decide +kernel)) (by rw [Is];kernel_rfl)
theorem gf:entryFor table "set_iterator.__next__" = some ma.«set_iterator.__next__»:=entryFor_of_tree (by kernel_rfl)
theorem gh (a:am):argsOk "set_iterator.__next__" ⟨[a],[]⟩ :=by
 unfold argsOk;rw [Py (id := "set_iterator.__next__") (n:=['_','_','t','x','e','n','_','_']) (o:=['r','o','t','a','r','e','t','i','_','t','e','s']) (by kernel_rfl) wq];kernel_rfl
theorem mn:Slot "set_iterator" "__iter__" "set_iterator.__iter__" :=
 .of (owner := "set_iterator") (n := "__iter__") (by rw [FM,ze];kernel_rfl) (by decide +kernel) (by decide +kernel) (by decide +kernel)
  (by first|exact .inl (by decide +kernel)|exact .inr (by decide +kernel)) (by rw [Is];kernel_rfl)
theorem uB:entryFor table "set_iterator.__iter__" = some ma.«dict_keyiterator.__iter__»:=
 entryFor_alias (id' := "dict_keyiterator.__iter__") (by kernel_rfl) (by first|rfl|decide +kernel|(unfold String.splitOn;simp +decide [PK])) (by decide +kernel) (by kernel_rfl)
theorem uC (a:am):argsOk "set_iterator.__iter__" ⟨[a],[]⟩ :=by
 unfold argsOk;rw [Py (id := "set_iterator.__iter__") (n:=['_','_','r','e','t','i','_','_']) (o:=['r','o','t','a','r','e','t','i','_','t','e','s']) (by kernel_rfl) wq];kernel_rfl
theorem rZ:entryFor table "set.__iter__" = some ma.«frozenset.__iter__»:=
 entryFor_alias (id' := "frozenset.__iter__") (by kernel_rfl) (by first|rfl|decide +kernel|(unfold String.splitOn;simp +decide [PK])) (by decide +kernel) (by kernel_rfl)
def cV (h:ij) (I a:ag) (first:am) (i n ep:Nat):Prop:=∃o,h.get? I=some o/\o.cls=.type "set_iterator" /\ o.data=.fields #[first,.int i 0,.ref a,.int n 0,.int ep 0]
theorem cV.typeIs {s:ar} {I a:ag} {first:am} {i n ep:Nat} (x:cV s.heap I a first i n ep):s.TypeIs (.ref I) "set_iterator" := let ⟨o,ho,hc,_⟩:=x;⟨o,ho,hc⟩
theorem dA {α:Type}:∀{l:List α} {i:Nat} (h:i<l.length),(l[i]::l.eraseIdx i).Perm l
 | [],i,h=>by simp at h
 |x::l,0,h=>.refl _
 |x::l,i+1,h=>by
          rw [List.eraseIdx_cons_succ,List.getElem_cons_succ]
          exact (NU.swap _ _ _).trans (.cons _ (dA (by simpa using h)))
section
variable {P:gl} {w:ii} {A:l7} {E:am->ar->Prop} {s:ar}
theorem wp_choose {src:Source} {n:Nat} {Q:Nat->ar->Prop} (hn:n≠0) (h:∀i d,i<n->Q i {s with drawn:=d}):wpAny (model P w) A (choose src n) Q E s:=fun Γ p _=>by
 refine ⟨hn,?_⟩
 exact h _ _ (Pc _ (Nat.pos_of_ne_zero hn))
theorem ju {α:Type}:∀(n:Nat) (xs:List α) {s:ar} {Q:List α->ar->Prop},n=xs.length->(∀ys d,ys.Perm xs->Q ys {s with drawn:=d})->wpAny (model P w) A (drawOrder n xs) Q E s
 |0,xs,s,Q,hn,h=>by
          have:xs=[]:=BY hn.symm
          subst this
          exact ba (h [] s.drawn .nil)
 |n+1,[],s,Q,hn,h=>by simp at hn
 |n+1,x::xs,s,Q,hn,h=>by
          show wpAny _ _ (choose .order (x::xs).length>>=_) _ _ s
          refine ac (wp_choose (by simp) fun i d hi=>?_)
          have e:(x::xs)[i]?=some (x::xs)[i]:=ap hi
          rw [e]
          dsimp only
          refine ac (ju n _ (by rw [EQ hi];simp at hn ⊢;omega) fun ys d' hp=>ba (h _ _ ?_))
          exact (NU.cons _ hp).trans (dA hi)
end
section
variable {P:gl} {w:ii} {A:l7} {E:am->ar->Prop} {s:ar}
structure gG (P:gl) (w:ii) (h:ij) (a:ag) (es:Array (Int×am)) (ep:Nat) (t:lp):Prop where
 at_:∃o,h.get? a=some o/\o.ExactSet/\o.data=.set es ep t
 fits:t.fits es.size=true
 tab:da w t
theorem td {α:Type} (next:Nat->Nat):∀(fuel k:Nat) (left:List α) (out:Array α),fuel=left.length->(pickOrder.go next fuel k left out).toList.Perm (out.toList++left)
 |0,k,left,out,h=>by
          have:left=[]:=BY h.symm
          subst this
          simp [pickOrder.go]
 |fuel+1,k,left,out,h=>by
          unfold pickOrder.go
          have hl:next k % left.length<left.length:=Pc _ (by omega)
          rw [ap hl]
          dsimp only
          refine (td next fuel (k+1) _ _ (by rw [EQ hl];omega)).trans ?_
          rw [Array.toList_push,GE]
          exact NU.append_left _ (dA hl)
theorem oD {α:Type} (next:Nat->Nat) (xs:Array α):(pickOrder next xs).toList.Perm xs.toList :=by
 unfold pickOrder
 exact (td next xs.size 0 xs.toList #[] (by simp)).trans (by simp)
theorem jv {Q:Bool->ar->Prop} (h:Q (w.params.followText "set-order") s):wpAny (model P w) A setsByText Q E s :=by
 unfold setsByText
 exact ac (Ob (ba h))
theorem mq {a:ag} {es:Array (Int×am)} {ep:Nat} {t:lp} {slot given:Nat} {Q:Option (am×Nat)->ar->Prop} (hE:gG P w s.heap a es ep t)
  (hd:w.params.followText "set-order" = false->(!t.plain && decide (es.size > 1))=false)
  (h1:w.params.followText "set-order" = true->Q ((pickOrder (w.params.setOrder a ep) es)[given]?.map fun e=>(e.2,slot)) s)
  (h2:w.params.followText "set-order" = false->Q (match es[jp t.place slot]?,t.place[jp t.place slot]? with|some (_,x),some j=>some (x,j+1)|_,_=>none) s) :
  wpAny (model P w) A (setNext a slot given ep) Q E s :=by
 obtain ⟨⟨o,ho,hex,kP⟩,hf,ht⟩:=hE
 unfold setNext
 refine ac (BS ho kP hf ?_)
 dsimp only
 refine ac (jv ?_)
 cases hb:w.params.followText "set-order" with
 |true=>
  simp only [if_true,bne_self_eq_false,ci,if_false]
  unfold setWalk
  refine ac (ac (BS ho kP hf ?_))
  dsimp only
  refine ac (jv ?_)
  rw [hb]
  simp only [if_true]
  refine ac (Ob (ba (ba ?_)))
  exact h1 hb
 |false=>
  simp only [ci,if_false]
  have fJ:=hd hb
  have J9:t.led=true :=by rw [ht.led,hb];rfl
  show wpAny _ _ (if (!t.plain && decide (es.size > 1))=true then _ else _) _ _ s
  rw [fJ]
  simp only [ci,if_false]
  refine ac ?_
  show wpAny _ _ (if (!t.led && !es.isEmpty)=true then _ else _) _ _ s
  rw [J9]
  simp only [ES,Oz,ci,if_false]
  exact ba (ba (h2 hb))
end
section
variable {P:gl} {w:ii} {A:l7} {E:am->ar->Prop} {s:ar}
theorem cV.Es {h:ij} {I a:ag} {first x:am} {i n ep:Nat} (hit:cV h I a first i n ep):cV (h.update I (Pz (·.setIfInBounds 0 x))) I a x i n ep :=by
 obtain ⟨o,ho,hc,hd⟩:=hit
 exact ⟨_,v6 _ ho (JJ (xp hd _)),(OF ..).trans hc,by rw [xp hd];simp⟩
theorem cV.qj {h:ij} {I a:ag} {first:am} {i n ep:Nat} (hit:cV h I a first i n ep):cV (h.update I (Pz (·.setIfInBounds 1 (rawInt ((i:Int)+1))))) I a first (i+1) n ep :=by
 obtain ⟨o,ho,hc,hd⟩:=hit
 exact ⟨_,v6 _ ho (JJ (xp hd _)),(OF ..).trans hc,by rw [xp hd];simp [rawInt]⟩
theorem iu {I a:ag} {first x:am} {i n ep k:Nat} {Q:Unit->ar->Prop} (hk:k<5) (hit:cV s.heap I a first i n ep) (h:Q () {s with heap:=s.heap.update I (Pz (·.setIfInBounds k x))}):wpAny (model P w) A (setField (.ref I) k x) Q E s :=by
 obtain ⟨o,ho,hc,hd⟩:=hit
 exact N8 ho hd (by simpa using hk) h
theorem tj {Q:Fin->ar->Prop} (hh:A.handled=none) (h:∀e h',s.TypeIs e "StopIteration" \/ True->(∀b o,s.heap.get? b=some o->h'.get? b=some o)->PD {s with heap:=h'} e "StopIteration" -> E e {s with heap:=h'}) :
  wpAny (model P w) A (newExc (.type "StopIteration") []>>=fun e=>raiseNew e) Q E s :=by
 refine ac ?_
 simp only [newExc,newTuple]
 refine ac (mT ?_ (by size_fits))
 refine ac (m:=firstArgMember _ _) (EN (a:=u7) (by first|rfl|(simp only [firstArgMember];rfl)) ?_)
 refine mT ?_ (by size_fits)
 simp only [raiseNew]
 refine ac (wpAny_handled ?_)
 rw [hh]
 refine ac (ba (wpAny_throw ?_))
 exact h _ _ (.inr trivial) (fun b o e=>bn _ (bn _ e)) ⟨_,hX _ rfl,rfl⟩
theorem qk {Q:Option am->ar->Prop} {e:am} (hT:s.TypeIs e "StopIteration") (h:Q none s):wpAny (model P w) A (do let b <- isInstance e (.type "StopIteration");if b=true then pure none else throw e) Q E s:=
 ac (Nd (T := "StopIteration") (b:=true) hT isSubtype_stop (ba h))
theorem BM {I a:ag} {slot i ep next:Nat} {es:Array (Int×am)} {t:lp} {x:am} {Q:Option am->ar->Prop} (hit:cV s.heap I a (.int slot 0) i es.size ep) (hE:gG P w s.heap a es ep t)
  (hd:w.params.followText "set-order" = false->(!t.plain && decide (es.size > 1))=false)
  (h1:w.params.followText "set-order" = true->(pickOrder (w.params.setOrder a ep) es)[i]?.map (fun e=>(e.2,slot))=some (x,next))
  (h2:w.params.followText "set-order" = false->(match es[jp t.place slot]?,t.place[jp t.place slot]? with|some (_,x),some j=>some (x,j+1)|_,_=>none)=some (x,next))
  (hQ:∀h',cV h' I a (.int next 0) (i+1) es.size ep->ut I s.heap h'->Q (some x) {s with heap:=h'}):wpAny (model P w) A (pyNext (.ref I)) Q E s :=by
 obtain ⟨o,ho,hc,fJ⟩:=id hit
 obtain ⟨oa,oE,yQ,oF⟩:=hE.at_
 unfold pyNext
 refine ac (Ch (on (name:=i4 "__next__") hit.typeIs bE (rb bE hit.typeIs gf ?_ (gh _))))
 unfold ma.«set_iterator.__next__»
 refine ac (m:=slotArgs "__next__" 0 _) (ba ?_)
 dsimp only
 refine ac (Po ho fJ ?_)
 dsimp only
 refine ac (NH oE oF hE.fits ?_)
 simp only [bne_self_eq_false,ci,if_false,zd]
 have fin:∀r,r=some (x,next)->wpAny (model P w) A.in1 (match r with
    |some (x,next)=>do
     setField (lc I) 0 (rawInt next)
     setField (lc I) 1 (rawInt (↑i+1))
     ret x
    |none=>do
     setField (lc I) 2 u7
     let __do_lift <- newExc (AM "StopIteration") []
     raiseNew __do_lift) (fun fin s'=>∃v,fin=Fin.done (Flow.ret v)/\wpAny (model P w) A (pure (some v)) Q E s') (fun e s'=>wpAny (model P w) A (do
     let __do_lift <- isInstance e (AM "StopIteration")
     if __do_lift=true then pure none else throw e) Q E s') s:=fun r hr=>by
  subst hr
  dsimp only
  refine ac (iu (by decide) hit ?_)
  have k8:=hit.Es (x:=rawInt next)
  refine ac (iu (by decide) k8 ?_)
  exact ba ⟨x,rfl,ba (hQ _ k8.qj ((xy ..).trans (xy ..)))⟩
 exact ac (mq hE hd (fun hb=>fin _ (h1 hb)) (fun hb=>fin _ (h2 hb)))
theorem BO {I a:ag} {slot i ep:Nat} {es:Array (Int×am)} {t:lp} {Q:Option am->ar->Prop} (hh:A.handled=none) (hit:cV s.heap I a (.int slot 0) i es.size ep) (hE:gG P w s.heap a es ep t)
  (hd:w.params.followText "set-order" = false->(!t.plain && decide (es.size > 1))=false)
  (h1:w.params.followText "set-order" = true->(pickOrder (w.params.setOrder a ep) es)[i]?.map (fun e=>(e.2,slot))=none)
  (h2:w.params.followText "set-order" = false->(match es[jp t.place slot]?,t.place[jp t.place slot]? with|some (_,x),some j=>some (x,j+1)|_,_=>none)=none)
  (hQ:∀h',(∀b o,b≠I->s.heap.get? b=some o->h'.get? b=some o)->Q none {s with heap:=h'}):wpAny (model P w) A (pyNext (.ref I)) Q E s :=by
 obtain ⟨o,ho,hc,fJ⟩:=id hit
 obtain ⟨oa,oE,yQ,oF⟩:=hE.at_
 unfold pyNext
 refine ac (Ch (on (name:=i4 "__next__") hit.typeIs bE (rb bE hit.typeIs gf ?_ (gh _))))
 unfold ma.«set_iterator.__next__»
 refine ac (m:=slotArgs "__next__" 0 _) (ba ?_)
 dsimp only
 refine ac (Po ho fJ ?_)
 dsimp only
 refine ac (NH oE oF hE.fits ?_)
 simp only [bne_self_eq_false,ci,if_false,zd]
 have fin:∀r:Option (am×Nat),r=none->wpAny (model P w) A.in1 (match r with
    |some (x,next)=>do
     setField (lc I) 0 (rawInt next)
     setField (lc I) 1 (rawInt (↑i+1))
     ret x
    |none=>do
     setField (lc I) 2 u7
     let __do_lift <- newExc (AM "StopIteration") []
     raiseNew __do_lift) (fun fin s'=>∃v,fin=Fin.done (Flow.ret v)/\wpAny (model P w) A (pure (some v)) Q E s') (fun e s'=>wpAny (model P w) A (do
     let __do_lift <- isInstance e (AM "StopIteration")
     if __do_lift=true then pure none else throw e) Q E s') s:=fun r hr=>by
  subst hr
  dsimp only
  refine ac (iu (by decide) hit ?_)
  exact tj hh fun e h' _ k hT=>qk hT (hQ h' fun b o hb q=>k b o ((wr _ _ (BN hb)).trans q))
 exact ac (mq hE hd (fun hb=>fin _ (h1 hb)) (fun hb=>fin _ (h2 hb)))
theorem BP {I a T:ag} {i ep j:Nat} {es:Array (Int×am)} {t:lp} {ps:List Nat} {x:Int×am} {Q:Option am->ar->Prop} (hit:cV s.heap I a (.ref T) i es.size ep) (hE:gG P w s.heap a es ep t)
  (hT:s.heap.IsTuple T (ps.map fun (i:Nat)=>rawInt i).toArray) (hj:ps[i]?=some j) (hx:es[j]?=some x)
  (hQ:∀h',cV h' I a (.ref T) (i+1) es.size ep->ut I s.heap h'->Q (some x.2) {s with heap:=h'}):wpAny (model P w) A (pyNext (.ref I)) Q E s :=by
 obtain ⟨o,ho,hc,fJ⟩:=id hit
 obtain ⟨oa,oE,yQ,oF⟩:=hE.at_
 unfold pyNext
 refine ac (Ch (on (name:=i4 "__next__") hit.typeIs bE (rb bE hit.typeIs gf ?_ (gh _))))
 unfold ma.«set_iterator.__next__»
 refine ac (m:=slotArgs "__next__" 0 _) (ba ?_)
 dsimp only
 refine ac (Po ho fJ ?_)
 dsimp only
 refine ac (NH oE oF hE.fits ?_)
 simp only [bne_self_eq_false,ci,if_false,zd]
 obtain ⟨ot,Et,_,nt,kP⟩:=hT
 refine ac (N9 Et kP ?_)
 have e:(ps.map fun (i:Nat)=>rawInt i).toArray[i]?=some (rawInt j) :=by simp [hj]
 dsimp only
 rw [e]
 show wpAny _ _ (setNextDrawn a (Int.toNat (j:Int)) ep>>=_) _ _ s
 rw [zd]
 refine ac ?_
 unfold setNextDrawn
 refine ac (BS oE oF hE.fits ?_)
 simp only [bne_self_eq_false,ci,if_false,hx]
 refine ba ?_
 refine ac (iu (by decide) hit ?_)
 exact ba ⟨x.2,rfl,ba (hQ _ hit.qj (xy ..))⟩
theorem BQ {I a T:ag} {i ep:Nat} {es:Array (Int×am)} {t:lp} {ps:List Nat} {Q:Option am->ar->Prop} (hh:A.handled=none) (hit:cV s.heap I a (.ref T) i es.size ep) (hE:gG P w s.heap a es ep t)
  (hT:s.heap.IsTuple T (ps.map fun (i:Nat)=>rawInt i).toArray) (hj:ps.length<=i)
  (hQ:∀h',(∀b o,b≠I->s.heap.get? b=some o->h'.get? b=some o)->Q none {s with heap:=h'}):wpAny (model P w) A (pyNext (.ref I)) Q E s :=by
 obtain ⟨o,ho,hc,fJ⟩:=id hit
 obtain ⟨oa,oE,yQ,oF⟩:=hE.at_
 unfold pyNext
 refine ac (Ch (on (name:=i4 "__next__") hit.typeIs bE (rb bE hit.typeIs gf ?_ (gh _))))
 unfold ma.«set_iterator.__next__»
 refine ac (m:=slotArgs "__next__" 0 _) (ba ?_)
 dsimp only
 refine ac (Po ho fJ ?_)
 dsimp only
 refine ac (NH oE oF hE.fits ?_)
 simp only [bne_self_eq_false,ci,if_false,zd]
 obtain ⟨ot,Et,_,nt,kP⟩:=hT
 refine ac (N9 Et kP ?_)
 have e:(ps.map fun (i:Nat)=>rawInt i).toArray[i]?=none :=by simp [hj]
 dsimp only
 rw [e]
 dsimp only
 refine ac (iu (by decide) hit ?_)
 refine ac (iu (by decide) (hit.Es (x:=rawInt 0)) ?_)
 exact tj hh fun e h' _ k hT=>qk hT (hQ h' fun b o hb q=>k b o ((wr _ _ (BN hb)).trans ((wr _ _ (BN hb)).trans q)))
end
theorem cV.bY {h h':ij} {I a:ag} {first:am} {i n ep:Nat} (x:cV h I a first i n ep) (k:∀o,h.get? I=some o->h'.get? I=some o):cV h' I a first i n ep:=let ⟨o,ho,r⟩:=x;⟨o,k o ho,r⟩
theorem gG.bY {P:gl} {w:ii} {h h':ij} {a:ag} {es:Array (Int×am)} {ep:Nat} {t:lp} (x:gG P w h a es ep t) (k:∀o,h.get? a=some o->h'.get? a=some o):gG P w h' a es ep t:=
 ⟨let ⟨o,ho,r⟩:=x.at_;⟨o,k o ho,r⟩,x.fits,x.tab⟩
theorem uD {xs:Array Nat} (h:i7 xs) {i:Nat} (hi:i<xs.size):jp xs (xs[i]+1)=i+1 :=by
 obtain ⟨b0,b1,b2⟩:=gF (xs[i]+1) h
 generalize jp xs (xs[i]+1)=p at *
 have h1:i<p :=by
  refine Nat.lt_of_not_le fun hp=>?_
  have:=b2 i hi hp
  omega
 refine Nat.le_antisymm (OR fun hp=>?_) h1
 have Iv:i+1<xs.size :=by omega
 have q:=b1 (i+1) Iv hp
 have q2:=gE h (show i<i+1 by omega) Iv
 omega
theorem uE {xs:Array Nat} (h:i7 xs):jp xs 0=0 :=by
 obtain ⟨b0,b1,b2⟩:=gF 0 h
 generalize jp xs 0=p at *
 by_cases hp:p=0
 ·exact hp
 ·have:=b1 0 (by omega) (by omega)
  omega
section
variable {P:gl} {w:ii} {A:l7} {E:am->ar->Prop} {s:ar}
theorem si_self {I a:ag} {first:am} {i n ep:Nat} {Q:am->ar->Prop} (hit:cV s.heap I a first i n ep) (h:Q (.ref I) s):wpAny (model P w) A (pyIter (.ref I)) Q E s :=by
 refine PL hit.typeIs mn (rb mn hit.typeIs uB ?_ (uC _))
 show wpAny _ _ (ret (.ref I)) _ _ s
 exact ba ⟨_,rfl,"set_iterator",_,hit.typeIs,bE.lookup,h⟩
def dB (w:ii) (a:ag) (ep:Nat) (es:Array (Int×am)):List (Int×am):=if w.params.followText "set-order" = true then (pickOrder (w.params.setOrder a ep) es).toList else es.toList
theorem iH (w:ii) (a:ag) (ep:Nat) (es:Array (Int×am)):(dB w a ep es).Perm es.toList :=by
 unfold dB
 split
 ·exact oD _ _
 ·exact .refl _
end
section
variable {P:gl} {w:ii} {A:l7} {E:am->ar->Prop} {s:ar}
theorem sd {a:ag} {Q:Bool->ar->Prop} (hT:s.TypeIs (.ref a) "set") (h:Q false s):wpAny (model P w) A (IN (.ref a)) Q E s :=by
 unfold IN
 refine ac (KB hT F.slot_set_len.lookup ?_)
 have e:splitId "set.__len__" = some ("set","__len__") :=by kernel_rfl
 dsimp only
 rw [e]
 dsimp only
 refine ac (Nd hT sub_set_self ?_)
 simp only [ES,ci,if_false]
 show wpAny _ _ (if _=true then _ else _) _ _ s
 rw [if_pos (by kernel_rfl)]
 exact ac (MW hT (ba h))
end
theorem Al:∀{ns:List Int} {us:List am},Vals (ns.map V.int) us->OW us ns
 | [],_,.nil=>.nil
 |n::ns,_,.cons r t=>by
          obtain ⟨k,rfl⟩:=r
          exact .cons _ _ (Al t)
inductive Dt where
 |aj|bl (b:Bool)|int (i:Int)|str (x:cb)|lst (xs:List Dt)|tup (xs:List Dt)
inductive dj (H:Hp):V->Dt->Prop where
 |aj:dj H .aj .aj
 |bl (b:Bool):dj H (.bl b) (.bl b)
 |int (i:Int):dj H (.int i) (.int i)
 |str (x:cb):dj H (.str x) (.str x)
 |lst {a:ag} {xs:List V} {ds:List Dt} (e:H a=some (.lst xs)) (hl:xs.length=ds.length) (h:∀(i:Nat) (x:V) (d:Dt),xs[i]?=some x->ds[i]?=some d->dj H x d):dj H (.ref a) (.lst ds)
 |tup {a:ag} {xs:List V} {ds:List Dt} (e:H a=some (.tup xs)) (hl:xs.length=ds.length) (h:∀(i:Nat) (x:V) (d:Dt),xs[i]?=some x->ds[i]?=some d->dj H x d):dj H (.ref a) (.tup ds)
mutual
def dm:Dt->Dt->Bool
 | .aj,.aj=>true
 | .bl a,.bl b=>a==b
 | .bl a,.int b=>(if a then 1 else 0)==b
 | .int a,.bl b=>a==(if b then 1 else 0)
 | .int a,.int b=>a==b
 | .str a,.str b=>a==b
 | .lst xs,.lst ys=>gH xs ys
 | .tup xs,.tup ys=>gH xs ys
 |_,_=>false
def gH:List Dt->List Dt->Bool
 | [],[]=>true
 |x::xs,y::ys=>dm x y && gH xs ys
 |_,_=>false
end
mutual
theorem k9:∀d:Dt,dm d d=true
 | .aj=>by simp [dm]
 | .bl b=>by simp [dm]
 | .int i=>by simp [dm]
 | .str x=>by simp [dm]
 | .lst xs=>by simp only [dm];exact jw xs
 | .tup xs=>by simp only [dm];exact jw xs
theorem jw:∀ds:List Dt,gH ds ds=true
 | []=>by simp [gH]
 |d::ds=>by simp only [gH];rw [k9 d,jw ds];rfl
end
theorem fe:∀(xs ys:List Dt),gH xs ys=((io (min xs.length ys.length)).all (fun j=>dm (xs.getD j .aj) (ys.getD j .aj)) && xs.length==ys.length)
 | [],[]=>by simp [gH]
 | [],_::_=>by simp [gH]
 |_::_,[]=>by simp [gH]
 |x::xs,y::ys=>by
          rw [gH,fe xs ys]
          have e:min (x::xs).length (y::ys).length=min xs.length ys.length+1 :=by simp [Nat.succ_min_succ]
          rw [e,List.range_succ_eq_map,List.all_cons,List.all_map]
          have e2:((x::xs).length==(y::ys).length)=(xs.length==ys.length) :=by simp
          rw [e2,Bool.and_assoc]
          rfl
theorem dj.inj {H:Hp} {v:V} {d:Dt} (h:dj H v d):∀{d':Dt},dj H v d'->d=d':=by
 induction h with
 |aj=>intro d' h';cases h';rfl
 |bl b=>intro d' h';cases h';rfl
 |int i=>intro d' h';cases h';rfl
 |str x=>intro d' h';cases h';rfl
 |lst e hl h ih=>
  intro d' h'
  cases h' with
  |lst e' Eu h'=>
   rw [e] at e';cases e'
   congr 1
   refine GG fun i=>?_
   rename_i xs ds eW
   by_cases hi:i<xs.length
   ·rw [ap (by omega),ap (by omega)]
    exact congrArg some (ih i _ _ (ap hi) (ap (by omega)) (h' i _ _ (ap hi) (ap (by omega))))
   ·rw [zn (by omega),zn (by omega)]
  |tup e' Eu h'=>rw [e] at e';cases e'
 |tup e hl h ih=>
  intro d' h'
  cases h' with
  |lst e' Eu h'=>rw [e] at e';cases e'
  |tup e' Eu h'=>
   rw [e] at e';cases e'
   congr 1
   refine GG fun i=>?_
   rename_i xs ds eW
   by_cases hi:i<xs.length
   ·rw [ap (by omega),ap (by omega)]
    exact congrArg some (ih i _ _ (ap hi) (ap (by omega)) (h' i _ _ (ap hi) (ap (by omega))))
   ·rw [zn (by omega),zn (by omega)]
mutual
def i9:Dt->Nat
 | .lst xs=>fg xs+1
 | .tup xs=>fg xs+1
 |_=>0
def fg:List Dt->Nat
 | []=>0
 |x::xs=>max (i9 x) (fg xs)
end
theorem jx:∀{ds:List Dt} {i:Nat} {d:Dt},ds[i]?=some d->i9 d<=fg ds
 | [],_,_,h=>by simp at h
 |x::xs,0,d,h=>by
          simp at h;subst h
          rw [fg];exact Nat.le_max_left _ _
 |x::xs,i+1,d,h=>by
          rw [fg]
          exact sB (jx (i:=i) (by simpa using h)) (Nat.le_max_right _ _)
section
variable {X:Cx} {pins:List (ag×lm)} {σ:St} {H:Hp} {s:ar}
theorem Inv.lists (I:Inv X pins σ H s) {a:ag} {xs:List V} (h:H a=some (.lst xs)):∃its:List am,Vals xs its/\s.heap.IsList a its.toArray :=by
 obtain ⟨its,rv,p,_⟩:=I.list (bB.of h)
 exact ⟨its,rv,p.isList⟩
theorem Inv.tups (I:Inv X pins σ H s) {a:ag} {xs:List V} (h:H a=some (.tup xs)):∃its:List am,Vals xs its/\s.heap.IsTuple a its.toArray :=by
 obtain ⟨its,rv,p,_⟩:=I.tuple (bp.of h)
 exact ⟨its,rv,p⟩
theorem wt (I:Inv X pins σ H s) {x y:V} {d:Dt} (hx:dj H x d):∀{e:Dt} {u v:am} {A:l7},dj H y e->RelV x u->RelV y v->A.units+i9 d<cLine->i8 A s u v (dm d e) :=by
 have lists:=fun {a:ag} {xs:List V} (h:H a=some (.lst xs))=>I.lists h
 have tups:=fun {a:ag} {xs:List V} (h:H a=some (.tup xs))=>I.tups h
 induction hx generalizing y with
 |aj=>
  intro e u v A hy rx ry hu
  have aT:A.units<cLine :=by omega
  cases rx
  cases hy with
  |aj=>cases ry;exact Qb _
  |bl b=>cases ry;exact i8.none_bool _
  |int i=>obtain ⟨t,rfl⟩:=ry;exact i8.none_int _ _
  |str z=>obtain ⟨t,rfl⟩:=ry;exact i8.none_str _ _
  |lst e2 _ _=>cases ry;obtain ⟨_,_,p⟩:=lists e2;exact i8.none_list p aT
  |tup e2 _ _=>cases ry;obtain ⟨_,_,p⟩:=tups e2;exact i8.none_tuple p aT
 |bl a=>
  intro e u v A hy rx ry hu
  have aT:A.units<cLine :=by omega
  cases rx
  cases hy with
  |aj=>cases ry;exact i8.bool_none _
  |bl b=>cases ry;exact i8.bool_bool _ _
  |int i=>obtain ⟨t,rfl⟩:=ry;exact i8.bool_int _ _ _
  |str z=>obtain ⟨t,rfl⟩:=ry;exact i8.bool_str _ _ _
  |lst e2 _ _=>cases ry;obtain ⟨_,_,p⟩:=lists e2;exact i8.bool_list _ p aT
  |tup e2 _ _=>cases ry;obtain ⟨_,_,p⟩:=tups e2;exact i8.bool_tuple _ p aT
 |int a=>
  intro e u v A hy rx ry hu
  have aT:A.units<cLine :=by omega
  obtain ⟨ta,rfl⟩:=rx
  cases hy with
  |aj=>cases ry;exact i8.int_none _ _
  |bl b=>cases ry;exact i8.int_bool _ _ _
  |int i=>obtain ⟨t,rfl⟩:=ry;exact i8.int_int _ _ _ _
  |str z=>obtain ⟨t,rfl⟩:=ry;exact i8.int_str _ _ _ _
  |lst e2 _ _=>cases ry;obtain ⟨_,_,p⟩:=lists e2;exact i8.int_list _ _ p aT
  |tup e2 _ _=>cases ry;obtain ⟨_,_,p⟩:=tups e2;exact i8.int_tuple _ _ p aT
 |str a=>
  intro e u v A hy rx ry hu
  have aT:A.units<cLine :=by omega
  obtain ⟨ta,rfl⟩:=rx
  cases hy with
  |aj=>cases ry;exact i8.str_none _ _
  |bl b=>cases ry;exact i8.str_bool _ _ _
  |int i=>obtain ⟨t,rfl⟩:=ry;exact i8.str_int _ _ _ _
  |str z=>obtain ⟨t,rfl⟩:=ry;exact i8.str_str _ _ _ _
  |lst e2 _ _=>cases ry;obtain ⟨_,_,p⟩:=lists e2;exact i8.str_list _ _ p aT
  |tup e2 _ _=>cases ry;obtain ⟨_,_,p⟩:=tups e2;exact i8.str_tuple _ _ p aT
 |lst e1 jy h1 ih=>
  rename_i a xs ds
  intro e u v A hy rx ry hu
  have aT:A.units<cLine :=by omega
  have Ew:A.units+fg ds+1<cLine :=by rw [i9] at hu;omega
  cases rx
  obtain ⟨its,rv,p⟩:=lists e1
  cases hy with
  |aj=>cases ry;exact i8.list_none p aT
  |bl b=>cases ry;exact i8.list_bool _ p aT
  |int i=>obtain ⟨t,rfl⟩:=ry;exact i8.list_int _ _ p aT
  |str z=>obtain ⟨t,rfl⟩:=ry;exact i8.list_str _ _ p aT
  |lst e2 jz h2=>
   rename_i b ys es
   cases ry
   by_cases d7:a=b
   ·subst d7
    have:=(dj.lst e1 jy h1).inj (dj.lst e2 jz h2)
    cases this
    rw [k9]
    exact Qb _
   ·obtain ⟨dS,jA,p2⟩:=lists e2
    have l1:=rv.length
    have l2:=jA.length
    have at_:∀j (g1:j<its.toArray.size) (g2:j<dS.toArray.size),i8 A.in1 s its.toArray[j] dS.toArray[j] (dm (ds.getD j .aj) (es.getD j .aj)):=fun j g1 g2=>by
     have jB:j<xs.length :=by rw [l1];simpa using g1
     have jC:j<ys.length :=by rw [l2];simpa using g2
     have r1:=cN rv g1
     have r2:=cN jA g2
     rw [db,ap jB] at r1
     rw [db,ap jC] at r2
     have d1:ds[j]?=some ds[j]:=ap (by omega)
     have d2:es[j]?=some es[j]:=ap (by omega)
     rw [db,db,d1,d2]
     have:=jx d1
     exact ih j _ _ (ap jB) d1 (h2 j _ _ (ap jC) d2) r1 r2 (by show A.units+1+_<cLine;omega)
    refine i8.of_refs d7 ?_
    rw [dm,fe]
    by_cases hsz:ds.length=es.length
    ·have q:=kv.lists p p2 (by simp only [ce];omega) aT at_
     have z:(ds.length==es.length)=true :=by simpa using hsz
     rw [z,Bool.and_true,<- hsz,Pd]
     rw [ce,<- l1,jy] at q
     exact q
    ·have z:(ds.length==es.length)=false :=by simpa using hsz
     rw [z,Bool.and_false]
     exact kv.lists_lengths p p2 (by simp only [ce];simpa [bne_iff_ne] using (show its.length≠dS.length by omega)) aT
  |tup e2 jz h2=>cases ry;obtain ⟨_,_,p2⟩:=tups e2;exact i8.list_tuple p p2 aT
 |tup e1 jy h1 ih=>
  rename_i a xs ds
  intro e u v A hy rx ry hu
  have aT:A.units<cLine :=by omega
  have Ew:A.units+fg ds+1<cLine :=by rw [i9] at hu;omega
  cases rx
  obtain ⟨its,rv,p⟩:=tups e1
  cases hy with
  |aj=>cases ry;exact i8.tuple_none p aT
  |bl b=>cases ry;exact i8.tuple_bool _ p aT
  |int i=>obtain ⟨t,rfl⟩:=ry;exact i8.tuple_int _ _ p aT
  |str z=>obtain ⟨t,rfl⟩:=ry;exact i8.tuple_str _ _ p aT
  |lst e2 jz h2=>cases ry;obtain ⟨_,_,p2⟩:=lists e2;exact i8.tuple_list p p2 aT
  |tup e2 jz h2=>
   rename_i b ys es
   cases ry
   by_cases d7:a=b
   ·subst d7
    have:=(dj.tup e1 jy h1).inj (dj.tup e2 jz h2)
    cases this
    rw [k9]
    exact Qb _
   ·obtain ⟨dS,jA,p2⟩:=tups e2
    have l1:=rv.length
    have l2:=jA.length
    have at_:∀j (g1:j<its.toArray.size) (g2:j<dS.toArray.size),i8 A.in1 s its.toArray[j] dS.toArray[j] (dm (ds.getD j .aj) (es.getD j .aj)):=fun j g1 g2=>by
     have jB:j<xs.length :=by rw [l1];simpa using g1
     have jC:j<ys.length :=by rw [l2];simpa using g2
     have r1:=cN rv g1
     have r2:=cN jA g2
     rw [db,ap jB] at r1
     rw [db,ap jC] at r2
     have d1:ds[j]?=some ds[j]:=ap (by omega)
     have d2:es[j]?=some es[j]:=ap (by omega)
     rw [db,db,d1,d2]
     have:=jx d1
     exact ih j _ _ (ap jB) d1 (h2 j _ _ (ap jC) d2) r1 r2 (by show A.units+1+_<cLine;omega)
    refine i8.of_refs d7 ?_
    rw [dm,fe]
    have q:=kv.tuples p p2 aT at_
    rw [ce,ce,<- l1,<- l2,jy,jz] at q
    exact q
end
section
variable {X:Cx} {pins:List (ag×lm)} {σ:St} {H:Hp} {s:ar}
theorem Ez (I:Inv X pins σ H s) {x y:V} {d e:Dt} {u v:am} {A:l7} (hx:dj H x d) (hy:dj H y e) (rx:RelV x u) (ry:RelV y v) (hu:A.units+i9 d<cLine):kv A s u v (dm d e) :=by
 have aT:A.units<cLine :=by omega
 have lists:=fun {a:ag} {xs:List V} (h:H a=some (.lst xs))=>I.lists h
 have tups:=fun {a:ag} {xs:List V} (h:H a=some (.tup xs))=>I.tups h
 cases hx with
 |aj=>
  cases rx
  cases hy with
  |aj=>cases ry;exact kv.none_none
  |bl b=>cases ry;exact kv.none_bool _
  |int b=>obtain ⟨t,rfl⟩:=ry;exact kv.none_int _ _
  |str b=>obtain ⟨t,rfl⟩:=ry;exact kv.none_str _ _
  |lst e2 _ _=>cases ry;obtain ⟨_,_,p⟩:=lists e2;exact kv.none_list p aT
  |tup e2 _ _=>cases ry;obtain ⟨_,_,p⟩:=tups e2;exact kv.none_tuple p aT
 |bl a=>
  cases rx
  cases hy with
  |aj=>cases ry;exact kv.bool_none _
  |bl b=>cases ry;exact kv.bool_bool _ _
  |int b=>obtain ⟨t,rfl⟩:=ry;exact kv.bool_int _ _ _
  |str b=>obtain ⟨t,rfl⟩:=ry;exact kv.bool_str _ _ _
  |lst e2 _ _=>cases ry;obtain ⟨_,_,p⟩:=lists e2;exact kv.bool_list _ p aT
  |tup e2 _ _=>cases ry;obtain ⟨_,_,p⟩:=tups e2;exact kv.bool_tuple _ p aT
 |int a=>
  obtain ⟨ta,rfl⟩:=rx
  cases hy with
  |aj=>cases ry;exact kv.int_none _ _
  |bl b=>cases ry;exact kv.int_bool _ _ _
  |int b=>obtain ⟨t,rfl⟩:=ry;exact kv.int_int _ _ _ _
  |str b=>obtain ⟨t,rfl⟩:=ry;exact kv.int_str _ _ _ _
  |lst e2 _ _=>cases ry;obtain ⟨_,_,p⟩:=lists e2;exact kv.int_list _ _ p aT
  |tup e2 _ _=>cases ry;obtain ⟨_,_,p⟩:=tups e2;exact kv.int_tuple _ _ p aT
 |str a=>
  obtain ⟨ta,rfl⟩:=rx
  cases hy with
  |aj=>cases ry;exact kv.str_none _ _
  |bl b=>cases ry;exact kv.str_bool _ _ _
  |int b=>obtain ⟨t,rfl⟩:=ry;exact kv.str_int _ _ _ _
  |str b=>obtain ⟨t,rfl⟩:=ry;exact kv.str_str _ _ _ _
  |lst e2 _ _=>cases ry;obtain ⟨_,_,p⟩:=lists e2;exact kv.str_list _ _ p aT
  |tup e2 _ _=>cases ry;obtain ⟨_,_,p⟩:=tups e2;exact kv.str_tuple _ _ p aT
 |lst e1 jy h1=>
  rename_i a xs ds
  have Ew:A.units+fg ds+1<cLine :=by rw [i9] at hu;omega
  cases rx
  obtain ⟨its,rv,p⟩:=lists e1
  cases hy with
  |aj=>cases ry;exact kv.list_none p aT
  |bl b=>cases ry;exact kv.list_bool _ p aT
  |int b=>obtain ⟨t,rfl⟩:=ry;exact kv.list_int _ _ p aT
  |str b=>obtain ⟨t,rfl⟩:=ry;exact kv.list_str _ _ p aT
  |lst e2 jz h2=>
   rename_i b ys es
   cases ry
   obtain ⟨dS,jA,p2⟩:=lists e2
   have l1:=rv.length
   have l2:=jA.length
   have at_:∀j (g1:j<its.toArray.size) (g2:j<dS.toArray.size),i8 A.in1 s its.toArray[j] dS.toArray[j] (dm (ds.getD j .aj) (es.getD j .aj)):=fun j g1 g2=>by
    have jB:j<xs.length :=by rw [l1];simpa using g1
    have jC:j<ys.length :=by rw [l2];simpa using g2
    have r1:=cN rv g1
    have r2:=cN jA g2
    rw [db,ap jB] at r1
    rw [db,ap jC] at r2
    have d1:ds[j]?=some ds[j]:=ap (by omega)
    have d2:es[j]?=some es[j]:=ap (by omega)
    rw [db,db,d1,d2]
    have:=jx d1
    exact wt I (h1 j _ _ (ap jB) d1) (h2 j _ _ (ap jC) d2) r1 r2 (by show A.units+1+_<cLine;omega)
   rw [dm,fe]
   by_cases hsz:ds.length=es.length
   ·have q:=kv.lists p p2 (by simp only [ce];omega) aT at_
    have z:(ds.length==es.length)=true :=by simpa using hsz
    rw [z,Bool.and_true,<- hsz,Pd]
    rw [ce,<- l1,jy] at q
    exact q
   ·have z:(ds.length==es.length)=false :=by simpa using hsz
    rw [z,Bool.and_false]
    exact kv.lists_lengths p p2 (by simp only [ce];simpa [bne_iff_ne] using (show its.length≠dS.length by omega)) aT
  |tup e2 jz h2=>cases ry;obtain ⟨_,_,p2⟩:=tups e2;exact kv.list_tuple p p2 aT
 |tup e1 jy h1=>
  rename_i a xs ds
  have Ew:A.units+fg ds+1<cLine :=by rw [i9] at hu;omega
  cases rx
  obtain ⟨its,rv,p⟩:=tups e1
  cases hy with
  |aj=>cases ry;exact kv.tuple_none p aT
  |bl b=>cases ry;exact kv.tuple_bool _ p aT
  |int b=>obtain ⟨t,rfl⟩:=ry;exact kv.tuple_int _ _ p aT
  |str b=>obtain ⟨t,rfl⟩:=ry;exact kv.tuple_str _ _ p aT
  |lst e2 jz h2=>cases ry;obtain ⟨_,_,p2⟩:=lists e2;exact kv.tuple_list p p2 aT
  |tup e2 jz h2=>
   rename_i b ys es
   cases ry
   obtain ⟨dS,jA,p2⟩:=tups e2
   have l1:=rv.length
   have l2:=jA.length
   have at_:∀j (g1:j<its.toArray.size) (g2:j<dS.toArray.size),i8 A.in1 s its.toArray[j] dS.toArray[j] (dm (ds.getD j .aj) (es.getD j .aj)):=fun j g1 g2=>by
    have jB:j<xs.length :=by rw [l1];simpa using g1
    have jC:j<ys.length :=by rw [l2];simpa using g2
    have r1:=cN rv g1
    have r2:=cN jA g2
    rw [db,ap jB] at r1
    rw [db,ap jC] at r2
    have d1:ds[j]?=some ds[j]:=ap (by omega)
    have d2:es[j]?=some es[j]:=ap (by omega)
    rw [db,db,d1,d2]
    have:=jx d1
    exact wt I (h1 j _ _ (ap jB) d1) (h2 j _ _ (ap jC) d2) r1 r2 (by show A.units+1+_<cLine;omega)
   rw [dm,fe]
   have q:=kv.tuples p p2 aT at_
   rw [ce,ce,<- l1,<- l2,jy,jz] at q
   exact q
end
section
variable {X:Cx}
def EA (neg:Bool):R2:=fun x y H Q=>∃d e,dj H x d/\dj H y e/\i9 d<=60/\Q (.bl (if neg then !dm d e else dm d e)) H
theorem EB (hu:X.A.units+64<cLine):OpR X (compareOp .Eq) (EA false) :=by
 intro pins s σ H x y v u Q I rx ry h
 obtain ⟨d,e,hx,hy,hd,q⟩:=h
 exact Ez I hx hy rx ry (by omega) X.prog X.w X.xe _ ⟨.bl _,H,I,rfl,q⟩
end
theorem EC:bootBuiltins "set" = some (.type "set") :=by decide +kernel
theorem oG:bootBuiltins "sorted" = some (.builtin "sorted") :=by decide +kernel
theorem aZ.there {P:gl} {w:ii} {H:Hp} {h:ij} {a:ag} {o:HO} (x:aZ P w H h a o):∃u,h.get? a=some u :=by
 cases o with
 |lst xs=>obtain ⟨_,_,_,_,e⟩:=x;exact ⟨_,e⟩
 |tup xs=>obtain ⟨_,_,_,ob,e,_⟩:=x;exact ⟨_,e⟩
 |dK aD=>obtain ⟨_,_,_,_,o,_,_,e,_⟩:=x;exact ⟨_,e⟩
 |dT aD=>obtain ⟨_,_,_,_,o,_,_,e,_⟩:=x;exact ⟨_,e⟩
 |set S n=>obtain ⟨o,_,_,_,e,_⟩:=x;exact ⟨_,e⟩
 |ins C dx fs=>obtain ⟨_,_,_,e,_⟩:=x;exact ⟨_,e⟩
 |own y=>obtain ⟨_,e⟩:=x;exact ⟨_,e⟩
 |xd fs=>obtain ⟨_,⟨_,_,_,e,_⟩,_⟩:=x;exact ⟨_,e⟩
 |sL lo hi=>obtain ⟨_,_,_,e⟩:=x;exact ⟨_,e⟩
 |dO ob u=>obtain ⟨e,_⟩:=x;exact ⟨_,e⟩
 |bO ps=>exact ⟨_,x⟩
 |lam ps=>exact ⟨_,x⟩
 |met f y=>exact ⟨_,x⟩
 |ext φ=>obtain ⟨_,⟨_,e⟩,_⟩:=x;exact ⟨_,e⟩
def dR (P:gl) (w:ii):ip:=fun outer H s E e s'=>∃(a C t:ag) (B:ij) (H':Hp),e=.ref a/\s'.os=s.os/\Gn s.gens.size s'.gens/\ij.FlyingW B outer a (.ref C) (.ref t) s'.heap /\
 (∀b o,s.heap.get? b=some o->b ∉ dP outer->∃o',B.get? b=some o')/\(∀b u,H' b=some u->∃o',B.get? b=some o')/\Un (dP outer) [] H H' s.heap s'.heap/\cG P w H' s'.heap/\E (.ref C) none H'
section
variable {X:Cx} {pins:List (ag×lm)} {σ:St} {H H1:Hp} {s s1:ar} {B h':ij}
theorem Inv.jD (I:Inv X pins σ H s) {b:ag} (h1:b≠X.env.locals) (h2:b ∉ X.fs):b ∉ dP X.stack:=fun z=>by
 rcases lw.mp (I.gy b z) with q|q
 ·exact h1 q
 ·exact h2 q
theorem Inv.iI (I:Inv X pins σ H s) {b:ag} {o:lm} (e:X.s₀.heap.get? b=some o):b≠X.env.locals:=fun z=>by
 have l:=gc e
 have:=I.ok.above
 rw [<- z] at this
 exact absurd l (Nat.not_lt.mpr this)
theorem Inv.Am (I1:Inv X pins σ H1 s1) (I:Inv X pins σ H s) (c1:∀b o,s1.heap.get? b=some o->b ∉ dP X.stack->∃o',B.get? b=some o') (c2:∀b u,H b=some u->∃o',B.get? b=some o')
  (k:B.StaysIn s.heap) (k':B.StaysIn h') (up:s.heap.UpToSlots h'):Inv X pins σ H {s with heap:=h'}:=by
 have same:∀b o',(∃o2,B.get? b=some o2)->s.heap.get? b=some o'->h'.get? b=some o':=fun b o' ⟨o2,e⟩ q=>by
  have z:=k b o2 e
  rw [q] at z
  cases z
  exact k' b _ e
 refine ⟨I.ok,I.os,I.bare,⟨fun b o q n hb hx=>?_,fun b o q n hb hx=>?_,I.base.free,fun b o q hx=>?_,I.base.tups,I.base.frzs,I.base.tbls⟩,?_,fun x c e=>?_,I.free,I.freeC,fun p hp=>?_,fun a o e=>?_,I.len⟩
 ·exact same b o (c1 b o (I1.base.keep b o q n hb hx) (I.jD (I.iI q) hb)) (I.base.keep b o q n hb hx)
 ·obtain ⟨sl,e⟩:=I.base.slot b o q n hb hx
  obtain ⟨_,o2,e2,nf⟩:=I.funs.mem hb
  rw [e] at e2
  cases e2
  obtain ⟨oo,e4⟩:=up b {o with slots:=sl} e nf
  exact ⟨oo,e4⟩
 ·obtain ⟨o',e⟩:=I.base.there b o q hx
  by_cases hb:b∈X.fs
  ·obtain ⟨_,o2,e2,nf⟩:=I.funs.mem hb
   obtain ⟨sl,e3⟩:=up b _ e2 nf
   exact ⟨_,e3⟩
  ·obtain ⟨o1,q1⟩:=I1.base.there b o q hx
   exact ⟨o',same b o' (c1 b o1 q1 (I.jD (I.iI q) hb)) e⟩
 ·obtain ⟨m,hn,hl⟩:=I.loc
  refine ⟨m,up.ns hn,fun i x v a b c=>?_⟩
  obtain ⟨u,r,l⟩:=hl i x v a b c
  refine ⟨u,r,?_⟩
  rcases l with l|⟨kd,c,ec,o,ho,hd⟩
  ·exact .inl l
  ·obtain ⟨sl,e⟩:=up c o ho fun vs z=>by rw [hd] at z;cases z
   exact .inr ⟨kd,c,ec,_,e,hd⟩
 ·obtain ⟨v,o,ho,hd⟩:=I.cell x c e
  obtain ⟨sl,e⟩:=up c o ho fun vs z=>by rw [hd] at z;cases z
  exact ⟨v,_,e,hd⟩
 ·obtain ⟨p1,p2,p3,p4,p5⟩:=I.pin p hp
  exact ⟨same p.1 p.2 (c1 p.1 p.2 (I1.pin p hp).1 (I.jD p3 p4)) p1,p2,p3,p4,p5⟩
 ·refine (I.hok a o e).bY (fun b u hb q=>?_) (fun _ q=>q) fun _ _ q=>q
  rcases hb with z|z
  ·exact same b u (c2 b o (by rw [z];exact e)) q
  ·exact same b u (c2 b _ z) q
end
section
variable {P:gl} {w:ii} {K:bi} {mg:cb->Option am} {base:ij} {N:List cb} {qual:cb} {scope:At} {f:ag} {cd:am} {A:l7} {outer:List NR} {s0:ar} {H0:Hp} {E:XK}
theorem An:Passes (dR P w) (eL (dR P w) P w K mg base N qual scope f cd A outer s0 H0 E) E :=by
 intro pins σ H s e s' I h
 obtain ⟨a,C,t,B,H',rfl,os,gn,fl,c1,c2,un,hok,q⟩:=h
 have I':=I.pq (ch:=[]) os un hok gn (fun b z=>absurd z (by simp))
 refine wpAny_leaves_onW (cls:=.ref C) (a0:=.ref t) I.ok.frames rfl fl fun h' Ao up=>?_
 have I2:=I.Am I' c1 c2 fl.1 Ao.1 up
 refine ⟨a,C,t,B,H',rfl,I2.os,I2.bare,Ao,fun b o e n=>?_,c2,I2.base,I2.hok,q⟩
 obtain ⟨o1,e1⟩:=I.base.there b o e (fun z=>absurd (show b∈([]:List ag) from z) (by simp))
 exact c1 b o1 e1 (I.jD (I.iI e) n)
def Raises (X:Cx) (E:XK):Prop:=∀(pins:List (ag×lm)) (σ:St) (H:Hp) (s:ar) (C:ag) (h':ij) (a:ag) (vs:List am),Inv X pins σ H s->ij.MadeExcOf s.heap h' a (.ref C) vs->E (.ref C) none H->X.xe (.ref a) {s with heap:=h'}
theorem wu:Raises (eL (dR P w) P w K mg base N qual scope f cd A outer s0 H0 E) E :=by
 intro pins σ H s C h' a vs I hx q
 have c1:∀b o,s.heap.get? b=some o->b ∉ dP (eL (dR P w) P w K mg base N qual scope f cd A outer s0 H0 E).stack->∃o',(OY s.heap (dP (eL (dR P w) P w K mg base N qual scope f cd A outer s0 H0 E).stack)).get? b=some o':=
  fun b o e n=>⟨o,PySem.W.hideAll_get _ e n⟩
 have c2:∀b u,H b=some u->∃o',(OY s.heap (dP (eL (dR P w) P w K mg base N qual scope f cd A outer s0 H0 E).stack)).get? b=some o':=fun b u hu=>by
  obtain ⟨o,e⟩:=(I.hok b u hu).there
  exact c1 b o e fun z=>by rw [I.m4 b z] at hu;cases hu
 have st:(OY s.heap (dP (eL (dR P w) P w K mg base N qual scope f cd A outer s0 H0 E).stack)).StaysIn s.heap:=fun b o e=>PySem.W.of_hideAll _ e
 refine wpAny_leaves_madeW (cls:=.ref C) I.ok.frames rfl st (PySem.W.funFrames_hide I.stack fun env he b hb=>Os.mpr ⟨env,he,hb⟩) hx fun Nr t fl _ _ up=>?_
 have I2:=I.Am I c1 c2 st fl.1 ((ij.UpToSlots.of_keeps hx.keeps).trans up)
 refine ⟨a,C,t,_,H,rfl,I2.os,I2.bare,fl,fun b o e n=>?_,c2,I2.base,I2.hok,q⟩
 obtain ⟨o1,e1⟩:=I.base.there b o e (fun z=>absurd (show b∈([]:List ag) from z) (by simp))
 exact c1 b o1 e1 (I.jD (I.iI e) n)
end
theorem BR {K:bi} {h:ij} {C:ag} {oH:List am} {newId:String} (X:K.In h) (q:PF K C oH newId=true) :
  ∃bm Nn nm qn bs hd sn sub ab col dd k0 k1 k2 k3 k5 mN,h.get? C=some (excClassObj nm qn C Nn bs bm hd sn sub ab col dd k0 k1 k2 k3 k5 newId)/\h.Ns Nn mN/\mN "__init__" = none/\OwnTail h oH bm :=by
 unfold PF at q
 split at q
 case h_2=>cases q
 case h_1 dd cd sl ho=>
  split at q
  case h_2=>cases q
  case h_1 C' bm k0 k1 k2 k3 n k5 hm hs=>
   rw [xw,xw,xw,xw,xw] at q
   obtain ⟨⟨⟨⟨⟨q1,q2⟩,q3⟩,q4⟩,q5⟩,q6⟩:=q
   have e1:C'=C:=beq_iff_eq.mp q1
   have e2:n=newId:=beq_iff_eq.mp q2
   have e3:cd.hasDel=false :=by simpa using q3
   subst e1 e2
   obtain ⟨nm,bs,mro,ns,qn,hd,sn,sub,ab,col,del⟩:=cd
   dsimp only at hm e3 q5 q6
   subst hm e3
   have es:sl=#[k0,k1,k2,k3,some (.builtin n),k5] :=by
    cases sl with
    |mk l=>exact congrArg Array.mk hs
   subst es
   exact ⟨bm,ns,nm,qn,bs,hd,sn,sub,ab,col,dd,k0,k1,k2,k3,k5,_,X _ _ ho,ij.Ns.of_isNs (PySem.W.isNs_of_in X q5),PySem.W.nsMap_none_of_in X q5 (beq_iff_eq.mp q6),PySem.W.tail_of_in X q4⟩
section
variable {X:Cx} {x:cb} {C:ag} {ia:dL} {rest:List dL} {t:TA} {oH:List am} {B newId ql:String} {E:XK} {np aL pos:u4}
def ED (C:ag) (E:XK) (t:TA):TS:=fun _ σ H=>t σ H fun vs H1=>vs.length<=sizeLine/\E (.ref C) none H1
theorem yR (O:PF X.K C oH newId=true) (FB:ExcBaseFacts B newId ql oH) (hc:X.calm=true) (hR:Raises X E) (hg:Gl X x) (hm:X.mg x=some (.ref C)) (ha:PA X (ia::rest) t)
  (d6:(x==("__debug__" : cb))=false :=by decide) (he:starEach (ia::rest) X.env=(false,eval ia X.env)::starEach rest X.env :=by rfl) (dg:(backTo aL (starEach rest X.env)).any (·.1)=false :=by rfl) :
  PS X (.Raise (some (.Call (.Name x np) (ia::rest) [] aL)) none pos) (ED C E t) :=by
 refine ⟨fun pins s σ H D I h=>?_⟩
 obtain ⟨bm,Nn,nm,qn,bs,hd,sn,sub,ab,col,dd,k0,k1,k2,k3,k5,mN,hC,hN,Lc,T⟩:=BR I.ok.mod.kin O
 have hp:(backTo aL (starEach (ia::rest) X.env)).any (·.1)=false :=by
  rw [he]
  exact dg
 have tq:=ha aL pins s σ H _ I h
 rw [he] at tq
 refine wpAny_Raise_call_subT (C:=C) (nm:=nm) (q:=qn) (N:=Nn) (bs:=bs) (bm:=bm) (hdct:=hd) (sn:=sn) (sub:=sub) (ab:=ab) (col:=col) (dd:=dd) (k0:=k0) (k1:=k1) (k2:=k2) (k3:=k3) (k5:=k5) FB (mN:=mN)
  (T.hasType FB.hasBase) (I.ok.hd hc) hp Lc (kh I hg hm ⟨rfl,?_⟩ d6)
 rw [he]
 refine O7 (thn tq fun us s2 ⟨vs,H2,I2,r,l,q⟩=>?_)
 exact ⟨rfl,by rw [<- r.length];exact l,I2.bk _ _ hC,hN.keeps I2.bk,T.keeps I2.bk,fun h' a hx=>hR pins σ H2 s2 C h' a us I2 hx q⟩
end
end L2
namespace L2
open PySem PySem.Spec PyProof.Rows PySem.W Builtin Builtin.ObjectAttr Builtin.Getset_descriptor
def ExcAt (C a:ag) (h:ij):Prop:=∃o vs,h.get? a=some o/\o.cls=.ref C/\o.data=.fields vs
def la (C a:ag):HO:=.ext (ExcAt C a)
theorem ExcAt.bY {C a:ag} {h h':ij} (x:ExcAt C a h) (k:∀o,h.get? a=some o->h'.get? a=some o):ExcAt C a h':=let ⟨o,vs,e,c,d⟩:=x;⟨o,vs,k o e,c,d⟩
theorem BU {P:gl} {w:ii} {H:Hp} {h:ij} {C a:ag} (x:ExcAt C a h):aZ P w H h a (la C a):=⟨x,let ⟨o,_,e,_⟩:=x;⟨o,e⟩,fun _ _ y k=>y.bY k⟩
structure cW (K:Frag) (C:ag):Prop where
 cls:(clsIn K C).isSome=true
 ga:findIn K (.ref C) "__getattribute__" = some (some (.builtin "BaseException.__getattribute__"))
 gt:findIn K (.ref C) "__getattr__" = some none
 cl:findIn K (.ref C) "__class__" = some (some (.builtin "object.__class__"))
 gg:specialIn K (.builtin "object.__class__") "__get__" = some (some (.builtin "getset_descriptor.__get__"))
 tk:takesIn K (.builtin "object.__class__")=some true
 ob:mroIn K C (.type "object")=some true
 be:mroIn K C (.type "BaseException")=some true
section
variable {K:Frag} {C a:ag} {M:Model} {h:ij}
theorem gI (x:ExcAt C a h):Looks M h (typeOf (.ref a)) (.ref C) :=by
 obtain ⟨o,vs,h1,h2,h3⟩:=x
 exact h2▸(Looks.ld h1).andThen .now
theorem yS (X:K.In h) (E:cW K C):Looks M h (find (.ref a) (.ref C) "__class__") (.bind (.builtin "getset_descriptor.__get__") (.builtin "object.__class__")) :=by
 refine (looks_findIn X E.cl).andThen (Looks.andThen (show Looks M h (getOf (some (.builtin "object.__class__"))) (some (.builtin "getset_descriptor.__get__")) from looks_specialIn X E.gg) ?_)
 have l3:Looks M h (dataDescriptor? (some (.builtin "object.__class__")) (some (.builtin "getset_descriptor.__get__"))) (some (.builtin "getset_descriptor.__get__",.builtin "object.__class__")):=(looks_takesIn X E.tk).andThen .now
 exact l3.andThen (Looks.tag .now)
theorem uF (X:K.In h) (E:cW K C):Looks M h (isType (.ref C)) true :=by
 have z:=E.cls
 unfold clsIn at z
 split at z
 case h_2=>cases z
 case h_1 ho=>
  intro A Q E s k q
  unfold isType loadHead
  exact ac (m:=loadPart _ _) (wpAny_loadPart (k _ _ (X _ _ ho)) (ba q))
theorem wx (X:K.In h) (E:cW K C) {tp:ag} {dd:Option ag} {its:List am} {n:Nat} {sl:Array (Option am)} (e:h.get? tp=some ⟨.type "tuple",dd,.seq its.toArray n,sl⟩):(lc C==lc tp)=false :=by
 refine Bool.eq_false_iff.mpr fun q=>?_
 cases lc.inj (beq_iff_eq.mp q)
 have z:=E.cls
 unfold clsIn at z
 split at z
 case h_2=>cases z
 case h_1 ho=>cases (X _ _ ho).symm.trans e
end
section
variable {K:Frag} {C a:ag} {prog:gl} {w:ii} {A:l7} {s:ar} {R:Qo->ar->Prop} {EE:am->ar->Prop}
theorem pd {tp:am} (X:K.In s.heap) (E:cW K C) (x:ExcAt C a s.heap) (q:R (.ok (.ret (.ref C))) s):codeAny (model prog w) A (.call (.builtin "getset_descriptor.__get__") ⟨[.builtin "object.__class__",.ref a,tp],[]⟩) R s :=by
 obtain ⟨hh,g,dr,t,os⟩:=s
 have L0:=gI (M:=model prog w) x
 have L1:=looks_mroIn (M:=model prog w) X E.ob
 have ck:=KF.slot_gs.check (model prog w)
 refine Pe KF.slot_gs.plain KF.entry_gs (ck _ _ _ _ _ _ _ KF.type_class (KF.args_gs _ _ _) ?_)
 unfold ma.«getset_descriptor.__get__» descrGet
 rw [dga_obj]
 refine ac (m:=pure _) (ba ?_)
 unfold descrGetter descrCheckInstance descrNameAndClass
 unfold isInstance
 simp only [KF.owner_class]
 repeat lk
 refine ⟨Code.quiet_builtin _ (by decide +kernel),DD KF.entry_class ?_⟩
 unfold ma.«object.__class__»
 unfold shownTypeOf
 repeat lk
 exact q
theorem qm {nv:am} {Q:Unit->ar->Prop} (X:K.In s.heap) (E:cW K C) (x:ExcAt C a s.heap) (q:Q () s):wpAny (model prog w) A (checkBuiltinCall "BaseException.__getattribute__" ⟨[.ref a,nv],[]⟩) Q EE s :=by
 have e1:builtinKind "BaseException.__getattribute__" = some .slot :=by decide +kernel
 have e2:splitId "BaseException.__getattribute__" = some ("BaseException","__getattribute__") :=by decide +kernel
 have MX:=F.args_bexc_ga (.ref a) nv
 have L0:=gI (M:=model prog w) x
 have L1:=looks_mroIn (M:=model prog w) X E.be
 obtain ⟨hh,g,dr,t,os⟩:=s
 simp only [checkBuiltinCall,e1,e2]
 refine ac ?_
 unfold isInstance
 repeat lk
 exact q
theorem ni {Q:Option am->ar->Prop} (X:K.In s.heap) (E:cW K C) (x:ExcAt C a s.heap) (q:Q (some (.ref C)) {s with toks:=s.toks+1}):wpAny (model prog w) A (getAttr? (.ref a) "__class__") Q EE s :=by
 obtain ⟨hh,g,d,t,os⟩:=s
 have L0:=gI (M:=model prog w) x
 have L1:=looks_findIn (M:=model prog w) X E.ga
 have L2:=looks_findIn (M:=model prog w) X E.gt
 have c9:(onTheHeap (lc C) && OO "BaseException.__getattribute__" == OO "object.__getattribute__")=false :=by
  rw [show (OO "BaseException.__getattribute__" == OO "object.__getattribute__")=false from by decide +kernel]
  rfl
 unfold getAttr? getAttrBy?
 refine ac (wpAny_mkText (ac (m:=(getAttrBy _ _ _).attempt) (Ch ?_)))
 unfold getAttrBy
 refine wl (ac (m:=typeOf _) (L0.at (ac (m:=typeLookup _ _) (L1.at ?_))))
 simp only [c9,ci,if_false]
 unfold getAttrByItsOwn hookBefore
 refine ac (L2.at ?_)
 refine ac (Ch (wl ?_))
 unfold callGetattribute boundAndCalled
 simp only [Oz,ci,if_false]
 refine ac (m:=bindSpecial _ _) (EN (F.attr_ValueError.ga.bind (.ref a)) ?_)
 have L3:=yS (M:=model prog w) (a:=a) X E
 refine Qk (Pe F.attr_ValueError.ga.plain F.entry_bexc_ga (qm X E x ?_))
 unfold ma.«object.__getattribute__»
 iterate 9 lk
 refine ac (m:=attrName _) (ba (ac (m:=typeOf _) (L0.at (ac (m:=find _ _ _) (L3.at ?_)))))
 show wpAny _ _ (holding [OO "object.__class__"] (call (.builtin "getset_descriptor.__get__") [.builtin "object.__class__",.ref a,.ref C])>>=ret) _ _ _
 refine ac (m:=holding _ _) (wl (Qk (pd X E x ?_)))
 exact ba (handed_on rfl (ba q))
end
theorem lb {K:Frag} {C a:ag} (E:cW K C):KitX K (.ref a) (.ref C) (ExcAt C a) where
 ty:=fun _ _ _ x=>gI x
 it:=fun _ _ X _=>uF X E
 ne:=fun _ _ _ _ _ _ X e=>wx X E e
 ca:=fun X x q=>ni X E x q
theorem oI:∀{Ds:List ag} {us:List am},Vals (Ds.map V.ref) us->us=Ds.map lc
 | [],_,.nil=>rfl
 |D::Ds,_,.cons r t=>by
          cases (show _=lc D from r)
          rw [oI t]
          rfl
section
variable {X:Cx}
def Ka (K:Frag):List V->Hp->VK->Prop:=fun xs H Q=>∃a C b,H a=some (la C a)/\cW K C /\
 ((∃D,xs=[.ref a,.ref D]/\kitOne K (.ref C) (.ref D)=some b)\/(∃T,xs=[.ref a,.ty T]/\kitOne K (.ref C) (.type T)=some b)\/∃(tp:ag) (Ds:List ag),xs=[.ref a,.ref tp]/\H tp=some (.tup (Ds.map V.ref))/\kitAny K (.ref C) (Ds.map lc)=some b)/\Q (.bl b) H
theorem yT {K:Frag} (hK:X.K=K):cm X (.builtin "isinstance") (Ka K) :=by
 subst hK
 intro pins s σ H xs us Q I r h
 obtain ⟨a,C,b,ha,E,h,q⟩:=h
 have x:ExcAt C a s.heap:=(I.hok a _ ha).1
 have fin:∀tk,EP X pins σ Q (.bool b) {s with toks:=tk}:=fun tk=>⟨.bl b,H,I.tok tk,rfl,q⟩
 rcases h with ⟨D,rfl,e⟩|⟨T,rfl,e⟩|⟨tp,Ds,rfl,ht,e⟩
 ·obtain ⟨u,w',rfl,r1,r2⟩:=vals2 r
  cases (show u=lc a from r1)
  cases (show w'=lc D from r2)
  exact kia_one (lb E) I.dY x e (fun z=>nomatch z) fin
 ·obtain ⟨u,w',rfl,r1,r2⟩:=vals2 r
  cases (show u=lc a from r1)
  cases (show w'=AM T from r2)
  exact kia_one (lb E) I.dY x e (fun z=>nomatch z) fin
 ·obtain ⟨u,w',rfl,r1,r2⟩:=vals2 r
  cases (show u=lc a from r1)
  cases (show w'=lc tp from r2)
  obtain ⟨_,its,rv,ob,ho,hc,n,hd,_⟩:=I.hok tp _ ht
  have ei:=oI rv
  subst ei
  obtain ⟨c,dd,dt,sl⟩:=ob
  dsimp only at hc hd
  subst hc hd
  exact kia_tup (lb E) I.dY x ho e (fun z=>nomatch z) fin
end
end L2
namespace L2
open PySem PySem.Spec PyProof.Rows PySem.W
def blank (n:Nat):St:=li n none
theorem qo {n i:Nat} {v:V} (h:(blank n)[i]?=some (some v)):False :=by
 unfold blank at h
 rw [AL] at h
 split at h <;> cases h
abbrev Cx.iJ (X:Cx) (T:am->ar->Prop) (pn:List (ag×lm)):Cx:={X with xe:=T,pn:=pn}
abbrev Cx.suite (X:Cx) (a:ag):Cx:={X with A:=X.A.mark (some (.ref a)),calm:=false,xe:=fun _ _=>False}
section
variable {X:Cx} {pins pins':List (ag×lm)} {σ:St} {H:Hp} {s:ar} {T:am->ar->Prop}
theorem Inv.iJ (I:Inv X pins σ H s) (T:am->ar->Prop):Inv (X.iJ T (X.pn++pins)) [] σ H s:=
 ⟨⟨I.ok.mod,I.ok.kind,I.ok.glob,I.ok.blt,I.ok.above,I.ok.inj,I.ok.has,I.ok.cab,I.ok.hd,I.ok.frames,I.ok.stk,I.ok.exf,I.ok.bs,I.ok.bsz,I.ok.noex,I.ok.exfs,I.ok.funs,I.ok.frf⟩,
  I.os,I.bare,I.base,I.loc,I.cell,I.free,I.freeC,fun p hp=>I.pin p (by simpa using hp),I.hok,I.len⟩
theorem Inv.jE (J:Inv (X.iJ T (X.pn++pins)) pins' σ H s):Inv X pins σ H s:=
 ⟨⟨J.ok.mod,J.ok.kind,J.ok.glob,J.ok.blt,J.ok.above,J.ok.inj,J.ok.has,J.ok.cab,J.ok.hd,J.ok.frames,J.ok.stk,J.ok.exf,J.ok.bs,J.ok.bsz,J.ok.noex,J.ok.exfs,J.ok.funs,J.ok.frf⟩,
  J.os,J.bare,J.base,J.loc,J.cell,J.free,J.freeC,fun p hp=>J.pin p (Cn _ hp),J.hok,J.len⟩
theorem Inv.suite (I:Inv X pins σ H s) (a:ag):Inv (X.suite a) pins σ H s:=
 ⟨⟨I.ok.mod,I.ok.kind,I.ok.glob,I.ok.blt,I.ok.above,I.ok.inj,I.ok.has,I.ok.cab,(fun z=>nomatch z),I.ok.frames,I.ok.stk,I.ok.exf,I.ok.bs,I.ok.bsz,I.ok.noex,I.ok.exfs,I.ok.funs,I.ok.frf⟩,
  I.os,I.bare,I.base,I.loc,I.cell,I.free,I.freeC,I.pin,I.hok,I.len⟩
theorem Inv.BV {a:ag} (ok:X.Ok) (J:Inv (X.suite a) pins σ H s):Inv X pins σ H s:=
 ⟨ok,J.os,J.bare,J.base,J.loc,J.cell,J.free,J.freeC,J.pin,J.hok,J.len⟩
theorem Inv.blank (I:Inv X pins σ H s):Inv X pins (blank X.N.length) H s :=by
 refine ⟨I.ok,I.os,I.bare,I.base,?_,I.cell,I.free,I.freeC,I.pin,I.hok,by unfold L2.blank;simp⟩
 obtain ⟨m,hn,_⟩:=I.loc
 exact ⟨m,hn,fun i x v _ e=>(qo e).elim⟩
theorem Inv.lost {h':ij} {m':cb->Option am} {t':Nat} (I:Inv X pins σ H s) (hn:h'.Ns X.env.locals m') (sb:ut X.env.locals s.heap h'):Inv X pins (L2.blank X.N.length) H {s with heap:=h',toks:=t'}:=by
 have mv:∀b o,b≠X.env.locals->s.heap.get? b=some o->h'.get? b=some o:=fun b o n e=>(sb.2 b n).trans e
 refine ⟨I.ok,I.os,I.bare,⟨fun b o q n hb hx=>mv b o (I.iI q) (I.base.keep b o q n hb hx),fun b o q n hb hx=>?_,I.base.free,fun b o q hx=>?_,I.base.tups,I.base.frzs,I.base.tbls⟩,
  ⟨m',hn,fun i x v _ e=>(qo e).elim⟩,fun x c e=>?_,I.free,I.freeC,fun p hp=>?_,fun a o e=>?_,by unfold L2.blank;simp⟩
 ·obtain ⟨sl,e⟩:=I.base.slot b o q n hb hx
  exact ⟨sl,mv b _ (I.iI q) e⟩
 ·obtain ⟨o',e⟩:=I.base.there b o q hx
  exact ⟨o',mv b _ (I.iI q) e⟩
 ·obtain ⟨v,o,ho,hd⟩:=I.cell x c e
  exact ⟨v,o,mv c o (I.nY x c e) ho,hd⟩
 ·obtain ⟨p1,p2,p3,p4,p5⟩:=I.pin p hp
  exact ⟨mv _ _ p3 p1,p2,p3,p4,p5⟩
 ·refine (I.hok a o e).bY (fun b u hb q=>mv b u (fun z=>?_) q) (fun _ q=>q) fun _ _ q=>q
  have fr:=I.free
  rw [<- z] at fr
  rcases hb with y|y
  ·rw [y,e] at fr;cases fr
  ·rw [y] at fr;cases fr
theorem Inv.Ap {a:ag} {o:HO} (I:Inv X pins σ H s) (n0:H a=none) (n1:X.s₀.heap.get? a=none) (n2:a≠X.env.locals) (n3:∀x c,X.env.cells.lookup x=some c->c≠a) (n4:∀p∈X.pn++pins,p.1≠a)
  (ob:aZ X.prog X.w (upd H a o) s.heap a o):Inv X pins σ (upd H a o) s :=by
 have un:∀b u,H b=some u->upd H a o b=some u:=fun b u e=>by rw [af (aY e n0)];exact e
 refine ⟨I.ok,I.os,I.bare,⟨I.base.keep,I.base.slot,fun b u q n hx=>?_,I.base.there,fun b xs e=>un _ _ (I.base.tups b xs e),fun b u v e=>un _ _ (I.base.frzs b u v e),fun b ps e=>?_⟩,I.loc,I.cell,?_,fun x c e=>?_,fun p hp=>?_,fun b u e=>?_,I.len⟩
 ·rw [af (fun z=>by rw [z,n1] at q;cases q)]
  exact I.base.free b u q n hx
 ·obtain ⟨more,z⟩:=I.base.tbls b ps e
  exact ⟨more,un _ _ z⟩
 ·rw [af (BN n2)]
  exact I.free
 ·rw [af (n3 x c e)]
  exact I.freeC x c e
 ·obtain ⟨p1,p2,p3⟩:=I.pin p hp
  exact ⟨p1,by rw [af (n4 p hp)];exact p2,p3⟩
 ·by_cases hb:b=a
  ·subst hb
   rw [aE] at e
   cases e
   exact ob
  ·rw [af hb] at e
   exact (I.hok b u e).bY (fun _ _ _ q=>q) (fun c q=>un _ _ q) fun c xs q=>un _ _ q
end
structure gZ (K:Frag) (C0:ag):Prop where
 ty:typeIn K (.ref C0)=some (.type "type")
 be:subIn K (.ref C0) (.type "BaseException")=some true
 it:(clsIn K C0).isSome=true
theorem wy {K:Frag} {C C0 a:ag} {M:Model} {A:l7} {E:am->ar->Prop} {s:ar} {Q:Bool->ar->Prop} (X:K.In s.heap) (O:gZ K C0) (e:subIn K (.ref C) (.ref C0)=some true) (x:ExcAt C a s.heap) (q:Q true s) :
  wpAny M A (excMatches (.ref a) (.ref C0)) Q E s :=by
 obtain ⟨hh,g,d,t,os⟩:=s
 have L0:=gI (M:=M) x
 have L1:=looks_typeIn (M:=M) X O.ty
 have L2:=looks_subIn (M:=M) X O.be
 have L3:=looks_subIn (M:=M) X e
 have L4:Looks M hh (isSubtype (.type "type") (.type "tuple")) false:=Looks.of_pure tc_notTuple
 have L5:Looks M hh (isType (.ref C0)) true :=by
  have z:=O.it
  unfold clsIn at z
  split at z
  case h_2=>cases z
  case h_1 ho=>
   intro A Q E s k q
   unfold isType loadHead
   exact ac (m:=loadPart _ _) (wpAny_loadPart (k _ _ (X _ _ ho)) (ba q))
 unfold excMatches
 unfold isInstance isExcClass
 repeat lk
 exact q
def EF (K:Frag) (C0:ag) (i n:Nat) (th:TS) (D:Ends):XK:=fun cls _ H'=>∃C,cls=.ref C/\subIn K (.ref C) (.ref C0)=some true/\∀a,H' a=none->
 th {nx:=fun _ H2=>D.nx (blank n) H2,rt:=D.rt,bk:=fun _ H2=>D.bk (blank n) H2,ct:=fun _ H2=>D.ct (blank n) H2} ((blank n).set i (some (.ref a))) (upd H' a (la C a))
def Kb (K:Frag) (C0:ag) (i n:Nat) (tb:XK->TS) (th:TS):TS:=fun D σ H=>tb (EF K C0 i n th D) D σ H
section
variable {X:Cx} {body suite:List r9} {x n:cb} {i:Nat} {np qp pos:u4} {nj:r9} {C0:ag} {tb:XK->TS} {th:TS}
theorem EG (hN:X.N.Nodup) (hi:X.N[i]?=some n) (hl:X.env.scope.names.lookup n=some .local) (ig:X.stack=X.env::X.outer/\X.env.frame=some X.env.locals) (hex:X.ex=[]) (O:gZ X.K C0) (hg:Gl X x) (hm:X.mg x=some (.ref C0))
  (hb:∀(T:am->ar->Prop) (pn:List (ag×lm)) (E:XK),Passes (dR X.prog X.w) (X.iJ T pn) E->dQ (X.iJ T pn) body (tb E)) (hs:∀a:ag,dQ (X.suite a) (nj::suite) th)
  (d6:(x==("__debug__" : cb))=false :=by decide) :
  PS X (.Try body [.ExceptHandler (some (.Name x np)) (some n) (nj::suite) qp] [] [] pos) (Kb X.K C0 i X.N.length tb th) :=by
 refine ⟨fun pins s σ H D I h=>?_⟩
 refine wpAny_Try_except ?_
 have hp:Passes (dR X.prog X.w) (X.iJ (fun e au=>wpAny (model X.prog X.w) X.A (noteFrame e X.env) (fun _ fS=>wpAny (model X.prog X.w) X.A (setFlight e none) (fun _ kZ=>wpAny (model X.prog X.w) X.A (handleBy e X.env [.ExceptHandler (some (.Name x np)) (some n) (nj::suite) qp]) (SP X pins D) X.xe kZ) X.xe fS) X.xe au) (X.pn++pins)) (EF X.K C0 i X.N.length th D) :=by
  intro pins' kJ H1 s1 e s' J1 Ld
  obtain ⟨a,C,t,B,H',rfl,os,gn,fl,c1,c2,un,hok,C',ec,ib,q⟩:=Ld
  cases ec
  have I1:=J1.jE
  have I':=I1.pq (ch:=[]) os un hok gn (fun b z=>absurd z (by simp))
  have fr:X.A.frames=some (X.env::X.outer):=I.ok.frames.trans (congrArg some ig.1)
  have Ao:ij.FlyingW B (X.env::X.outer) a (.ref C) (.ref t) s'.heap:=ig.1▸fl
  refine wpAny_looks_onW fr ig.2 Ao fun h4 held Iw=>?_
  refine wpAny_landsW held fun h5 EH Iy=>?_
  have I5:=I1.Am I' c1 c2 fl.1 EH.1 (Iw.trans Iy)
  have Y5:=I5.suite a
  have Le:ExcAt C a h5:=let ⟨oe,vs,e1,e2,e3,_⟩:=EH.first;⟨oe,vs,e1,e2,e3⟩
  refine wpAny_handleBy_cons (codeAny_handlers_test (kh Y5 hg hm (wy Y5.dY O ib Le ?_) d6)) (fun z=>nomatch z)
  refine codeAny_handlers_suite_as (lands_againW EH fun h6 Iz Lf=>?_)
  have I6:=I1.Am I' c1 c2 fl.1 Iz.1 ((Iw.trans Iy).trans Lf)
  have IA:ExcAt C a h6:=let ⟨oe,vs,e1,e2,e3,_⟩:=Iz.first;⟨oe,vs,e1,e2,e3⟩
  obtain ⟨oe,vs,e1,e2,e3⟩:=id IA
  have Lg:a ∉ dP X.stack:=fun z=>by
   obtain ⟨_,o2,q1,q2⟩:=I6.stack.mem z
   rw [e1] at q1
   cases q1
   exact q2 _ e3
  have nb:∀o,s1.heap.get? a≠some o:=fun o z=>by
   obtain ⟨o',z'⟩:=c1 a o z Lg
   rw [fl.2.1] at z'
   cases z'
  have nH:H' a=none :=by
   cases z:H' a with
   |none=>rfl
   |some u=>
    obtain ⟨o',z'⟩:=c2 a u z
    rw [fl.2.1] at z'
    cases z'
  have nL:a≠X.env.locals:=fun z=>by
   obtain ⟨m,⟨o,es,ep,ho,hd,_⟩,_⟩:=I6.loc
   rw [<- z,e1] at ho
   cases ho
   rw [e3] at hd
   cases hd
  have I7:Inv X pins (blank X.N.length) (upd H' a (la C a)) {s' with heap:=h6}:=I6.blank.Ap nH
   (by
    cases z:X.s₀.heap.get? a with
    |none=>rfl
    |some o=>
     obtain ⟨o1,q1⟩:=I1.base.there a o z (by rw [hex];simp)
     exact (nb _ q1).elim)
   nL
   (fun y c ec z=>by
    obtain ⟨v,o,ho,hd⟩:=I6.cell y c ec
    rw [z,e1] at ho
    cases ho
    rw [e3] at hd
    cases hd)
   (fun p hp z=>by
    have:=(I1.pin p hp).1
    rw [z] at this
    exact (nb _ this).elim)
   (BU IA)
  refine store_ok2 I7 hN hi (.inl hl) (v:=.ref a) rfl (fun s8 I8 _=>?_) (.inr hl)
  refine mf ((hs a).run pins s8 _ _ _ (I8.suite a) (q a nH)) (fun f s9 r=>?_) (fun _ _ z=>z.elim)
  have fin:∀{tu:St} {H9:Hp},Inv (X.suite a) pins tu H9 s9->(∀tv,Inv X pins (blank X.N.length) H9 tv->SP X pins D f tv)->wpAny (model X.prog X.w) X.A (do bindName X.env n .none;unbindBehindTheSuite X.env n qp) (fun _ Kc=>SP X pins D f Kc) X.xe s9:=fun {tu H9} Y9 k=>by
   have I9:=Y9.BV I.ok
   obtain ⟨m,hn,_⟩:=id I9.loc
   exact wpAny_nameGoes hl hn (by rw [I.ok.kind];rfl) fun h' m' pL sb=>k _ (I9.lost pL sb)
  cases f with
  |next=>obtain ⟨tu,H9,Y9,z⟩:=r;exact fin Y9 fun tv J=>⟨_,H9,J,z⟩
  |brk=>obtain ⟨tu,H9,Y9,z⟩:=r;exact fin Y9 fun tv J=>⟨_,H9,J,z⟩
  |cont=>obtain ⟨tu,H9,Y9,z⟩:=r;exact fin Y9 fun tv J=>⟨_,H9,J,z⟩
  |ret u=>obtain ⟨v,tu,H9,Y9,rv,z⟩:=r;exact fin Y9 fun tv J=>⟨v,_,H9,J,rv,z⟩
 have bX:=hb _ (X.pn++pins) _ hp
 refine mf (bX.run [] s σ H D (I.iJ _) h) (fun f s1 q=>?_) (fun e s1 q=>q)
 have q2:SP X pins D f s1 :=by
  cases f with
  |next=>obtain ⟨az,H',J,z⟩:=q;exact ⟨az,H',J.jE,z⟩
  |brk=>obtain ⟨az,H',J,z⟩:=q;exact ⟨az,H',J.jE,z⟩
  |cont=>obtain ⟨az,H',J,z⟩:=q;exact ⟨az,H',J.jE,z⟩
  |ret u=>obtain ⟨v,az,H',J,r,z⟩:=q;exact ⟨v,az,H',J.jE,r,z⟩
 cases f with
 |next=>exact ba q2
 |_=>exact q2
end
theorem G5 {P:gl} {w:ii} {X:Cx}:Passes (dR P w) X (fun _ _ _=>False):=fun _ _ _ _ _ _ _ h=>by
 obtain ⟨_,_,_,_,_,_,_,_,_,_,_,_,_,q⟩:=h
 exact q.elim
theorem ox.wg {P:gl} {w:ii} {K:bi} {mg:cb->Option am} {base:ij} {x qual:cb} {st:r9} {f:ag} {fd:nw} {N ps:List cb} {k:Nat} {sp:Sp} (F:ox K x qual st f fd) (S:a9 N ps (aw st)) (len:∀vs H Q E,sp vs H Q E->vs.length=ps.length)
  (lX:∀(A:l7) (outer:List NR) (s:ar) (H:Hp) (vs:List V) (Q:VK) (E:XK),bP k (A.deeper (envOfC qual (aw st) s.heap.objs.size f fd.code))->sp vs H Q E->
   ∃t,dQ (eL (dR P w) P w K mg base N qual (aw st) f fd.code A outer s H E) (cw st) t/\t {nx:=fun _ H'=>Q .aj H',rt:=Q} (start N vs) H):FnOk P w K mg base (dR P w) (k+1) f fd ps sp :=by
 obtain ⟨oc,od,kV,doc,pm,an,cD,ct,jm,rfl,lk,fK⟩:=F.ex
 exact Ab lk fK S len fun A outer s H vs Q E hr kM=>lX A outer s H vs Q E hr kM
def IB:List am:=[.type "ValueError",.type "Exception",.type "BaseException",.type "object"]
def yU (K:Frag) (C0 C:ag):Bool:=excIn K C IB "ValueError.__new__" && (clsIn K C).isSome && findIn K (.ref C) "__getattribute__" == some (some (.builtin "BaseException.__getattribute__")) && findIn K (.ref C) "__getattr__" == some none &&
 findIn K (.ref C) "__class__" == some (some (.builtin "object.__class__")) && mroIn K C (.type "object")==some true && mroIn K C (.type "BaseException")==some true && subIn K (.ref C) (.ref C0)==some true && kitOne K (.ref C) (.type "ValueError")==some true
def uG (K:Frag) (C0:ag) (cs:List ag):Bool:=cs.all (yU K C0) && (cs.all fun C=>cs.all fun D=>kitOne K (.ref C) (.ref D)==some (decide (C=D))) && specialIn K (.builtin "object.__class__") "__get__" == some (some (.builtin "getset_descriptor.__get__")) && takesIn K (.builtin "object.__class__")==some true &&
 typeIn K (.ref C0)==some (.type "type") && subIn K (.ref C0) (.type "BaseException")==some true && (clsIn K C0).isSome
structure nq (K:Frag) (C0:ag) (cs:List ag):Prop where
 ex:∀C∈cs,excIn K C IB "ValueError.__new__" = true
 cl:∀C∈cs,cW K C
 sub:∀C∈cs,subIn K (.ref C) (.ref C0)=some true
 one:∀C∈cs,∀D∈cs,kitOne K (.ref C) (.ref D)=some (decide (C=D))
 val:∀C∈cs,kitOne K (.ref C) (.type "ValueError")=some true
 top:gZ K C0
theorem BW {K:Frag} {C0:ag} {cs:List ag} (h:uG K C0 cs=true):nq K C0 cs :=by
 unfold uG at h
 simp only [xw] at h
 obtain ⟨⟨⟨⟨⟨⟨h1,h2⟩,h3⟩,h4⟩,h5⟩,h6⟩,h7⟩:=h
 have all:∀C∈cs,yU K C0 C=true:=sK.mp h1
 have part:∀C∈cs,_:=fun C hC=>by
  have z:=all C hC
  unfold yU at z
  simp only [xw] at z
  exact z
 refine ⟨fun C hC=>(part C hC).1.1.1.1.1.1.1.1,fun C hC=>?_,fun C hC=>beq_iff_eq.mp (part C hC).1.2,fun C hC D hD=>beq_iff_eq.mp (sK.mp (sK.mp h2 C hC) D hD),fun C hC=>beq_iff_eq.mp (part C hC).2,⟨beq_iff_eq.mp h5,beq_iff_eq.mp h6,h7⟩⟩
 obtain ⟨⟨⟨⟨⟨⟨⟨⟨_,p1⟩,p2⟩,p3⟩,p4⟩,p5⟩,p6⟩,_⟩,_⟩:=part C hC
 exact ⟨p1,beq_iff_eq.mp p2,beq_iff_eq.mp p3,beq_iff_eq.mp p4,beq_iff_eq.mp h3,beq_iff_eq.mp h4,beq_iff_eq.mp p5,beq_iff_eq.mp p6⟩
theorem nq.any {K:Frag} {C0:ag} {cs:List ag} (E:nq K C0 cs) {C:ag} (hC:C∈cs):∀{Ds:List ag},(∀D∈Ds,D∈cs)->kitAny K (.ref C) (Ds.map lc)=some (decide (C∈Ds))
 | [],_=>by simp [kitAny]
 |D::Ds,h=>by
          rw [wP]
          unfold kitAny
          rw [E.one C hC D (h D kt)]
          by_cases e:C=D
          ·subst e
           simp
          ·have ih:=E.any hC (Ds:=Ds) fun D' hD=>h D' (ff _ hD)
           simp only [e,decide_false,ih,lw,false_or]
end L2
namespace L2
open PySem PySem.Spec PyProof.Rows Builtin.SmallTypes
def eO (k:Bool) (h:ij) (it a:ag) (i:Nat):Prop:=if k=true then h.IsListIter it a i else h.IsTupleIter it a i
def lh (k:Bool) (h:ij) (a:ag) (items:Array am):Prop:=if k=true then h.IsList a items else h.IsTuple a items
theorem eO.at {k:Bool} {h h':ij} {it a:ag} {i:Nat} (x:eO k h it a i) (q:∀o,h.get? it=some o->h'.get? it=some o):eO k h' it a i :=by
 cases k with
 |true=>exact ij.IsListIter.at (h:=h) x q
 |false=>exact ij.IsTupleIter.at (h:=h) x q
theorem eO.obj {k:Bool} {h:ij} {it a:ag} {i:Nat} (x:eO k h it a i):∃o,h.get? it=some o/\∃vs,o.data=.fields vs :=by
 cases k with
 |true=>obtain ⟨o,e,_,d⟩:=(show h.IsListIter it a i from x);exact ⟨o,e,_,d⟩
 |false=>obtain ⟨o,e,_,d⟩:=(show h.IsTupleIter it a i from x);exact ⟨o,e,_,d⟩
section
variable {prog:gl} {w:ii} {A:l7} {E:am->ar->Prop} {s:ar} {it a:ag} {i:Nat} {items:Array am} {x:am} {k:Bool}
theorem yV {Q:Option am->ar->Prop} (hit:s.heap.IsTupleIter it a i) (ha:s.heap.IsTuple a items) (hx:items[i]?=some x)
  (hQ:∀h',h'.IsTupleIter it a (i+1)->ut it s.heap h'->Q (some x) {s with heap:=h'}):wpAny (model prog w) A (callSpecial? (.ref it) "__next__") Q E s :=by
 obtain ⟨o,ho,hc,hd⟩:=id hit
 obtain ⟨ol,qt,_,nl,Aq⟩:=ha
 have sl:=F.slot_tuple_iterator_next
 refine on (name:=i4 "__next__") hit.typeIs sl (rb sl hit.typeIs F.entry_tuple_iterator_next ?_ (F.args_tuple_iterator_next_1 _))
 have nn:¬ ((lc a==u7)=true):=f8
 refine ac (m:=field (.ref it) 0) (wp ho hd (x:=.ref a) rfl ?_)
 rw [if_neg nn]
 refine ac (m:=field (.ref it) 1) (wp ho hd (x:=.int i 0) rfl (ac (m:=seqItems? (.ref a)) (N9 qt Aq ?_)))
 simp only [zd,hx]
 refine ac (m:=setField _ _ _) (N8 ho hd (by simp) (ba ⟨x,rfl,hQ _ ?_ (xy ..)⟩))
 refine ⟨_,v6 _ ho (JJ (xp hd _)),(OF ..).trans hc,?_⟩
 rw [xp hd]
 simp [rawInt]
theorem yW {Q:Option am->ar->Prop} (hh:A.handled=none) (hit:s.heap.IsTupleIter it a i) (ha:s.heap.IsTuple a items) (hx:items[i]?=none)
  (hE:∀h' e,Qg it s.heap h'->(∃o,h'.get? e=some o/\o.cls=.type "StopIteration")->E (.ref e) {s with heap:=h'}):wpAny (model prog w) A (callSpecial? (.ref it) "__next__") Q E s :=by
 obtain ⟨o,ho,hc,hd⟩:=id hit
 obtain ⟨ol,qt,_,nl,Aq⟩:=ha
 have sl:=F.slot_tuple_iterator_next
 refine on (name:=i4 "__next__") hit.typeIs sl (rb sl hit.typeIs F.entry_tuple_iterator_next ?_ (F.args_tuple_iterator_next_1 _))
 have nn:¬ ((lc a==u7)=true):=f8
 refine ac (m:=field (.ref it) 0) (wp ho hd (x:=.ref a) rfl ?_)
 rw [if_neg nn]
 refine ac (m:=field (.ref it) 1) (wp ho hd (x:=.int i 0) rfl (ac (m:=seqItems? (.ref a)) (N9 qt Aq ?_)))
 simp only [zd,hx]
 refine ac (IF (ac (m:=setField _ _ _) (N8 ho hd (by simp) ?_)))
 refine ac (m:=newExc (.type "StopIteration") []) ?_
 unfold newExc newTuple
 refine ac (mT ?_ (by size_fits))
 refine ac (m:=firstArgMember _ _) (EN (a:=u7) (by first|rfl|(simp only [firstArgMember];rfl)) (mT ?_ (by size_fits)))
 refine wpAny_raiseNew_none hh ?_
 exact hE _ _ (((xy ..).extBut.push _).push _) ⟨_,hX _ rfl,rfl⟩
theorem BX {Q:am->ar->Prop} (hit:eO k s.heap it a i) (ha:lh k s.heap a items) (hx:items[i]?=some x)
  (hQ:∀h',eO k h' it a (i+1)->ut it s.heap h'->Q x {s with heap:=h'}):wpAny (model prog w) A (nextOf (.ref it)) Q E s :=by
 cases k with
 |true=>exact wpAny_nextOf_list_item hit ha hx hQ
 |false=>
  unfold nextOf
  exact ac (yV hit ha hx fun h' a b=>ba (hQ h' a b))
theorem BZ {Q:am->ar->Prop} (hh:A.handled=none) (hit:eO k s.heap it a i) (ha:lh k s.heap a items) (hx:items[i]?=none)
  (hE:∀h' e,Qg it s.heap h'->(∃o,h'.get? e=some o/\o.cls=.type "StopIteration")->E (.ref e) {s with heap:=h'}):wpAny (model prog w) A (nextOf (.ref it)) Q E s :=by
 cases k with
 |true=>exact wpAny_nextOf_list_end hh hit ha hx hE
 |false=>
  unfold nextOf
  exact ac (yW hh hit ha hx hE)
end
section
variable {prog:gl} {w:ii} {A:l7} {E:am->ar->Prop} {s:ar} {e it a:ag} {i:Nat} {items:Array am} {x old:am} {k:Bool}
theorem wz {Q:am->ar->Prop} (he:OL s.heap e it i old) (c9:e≠it) (hit:eO k s.heap it a i) (ha:lh k s.heap a items) (hx:items[i]?=some x)
  (hQ:∀h',Qq h' e it ((i:Int)+1) x s.heap.objs.size->eO k h' it a (i+1)->h'.get? s.heap.objs.size=some {cls:=.type "tuple",data:=.seq #[.int i s.toks,x]}->
   (∀b o,b≠e->b≠it->s.heap.get? b=some o->h'.get? b=some o)->Q (.ref s.heap.objs.size) {s with heap:=h',toks:=s.toks+1}) :
  wpAny (model prog w) A (ma.«enumerate.__next__» ⟨[.ref e],[]⟩) (fun fin s'=>∃v,fin=.done (.ret v)/\Q v s') E s :=by
 obtain ⟨hp,g,d,tk,os⟩:=s
 refine ac (m:=field (.ref e) 2) (wp he rfl (x:=.ref it) rfl (ac (m:=nextOf (.ref it)) (BX hit ha hx fun h1 EI (EJ:ut it hp h1)=>?_)))
 have e1:OL h1 e it i old:=(EJ.2 e c9).trans he
 refine ac (m:=field (.ref e) 3) (wp e1 rfl (x:=rawInt i) rfl (ac (m:=field (.ref e) 4) (wp e1 rfl (x:=.none) rfl (ac (m:=mkInt i) (wpAny_mkInt ?_)))))
 refine ac (m:=setField (.ref e) 3 _) (NV e1 (by simp) fun h2 (e2:OL h2 e it ((i:Int)+1) old) (tD:ut e h1 h2)=>?_)
 refine ac (m:=setField (.ref e) 4 .none) (NV e2 (by simp) fun h3 (e3:OL h3 e it ((i:Int)+1) old) (IC:ut e h2 h3)=>?_)
 refine ac (m:=newTuple [.int i tk,x]) (wpAny_newTuple ?_)
 have z3:h3.objs.size=hp.objs.size :=by rw [IC.1,tD.1,EJ.1]
 have el:e<hp.objs.size:=gc he
 have e4:OL (h3.push {cls:=.type "tuple",data:=.seq #[.int i tk,x]}) e it ((i:Int)+1) old:=bn _ e3
 have t4:(h3.push {cls:=.type "tuple",data:=.seq #[.int i tk,x]}).get? hp.objs.size=some {cls:=.type "tuple",data:=.seq #[.int i tk,x]}:=z3▸hX _ rfl
 have up:∀b o,b≠e->h1.get? b=some o->(h3.push {cls:=.type "tuple",data:=.seq #[.int i tk,x]}).get? b=some o:=fun b o n q=>bn _ (IC.extBut b o n (tD.extBut b o n q))
 generalize h3.push {cls:=.type "tuple",data:=.seq #[.int i tk,x]}=h4 at e4 t4 up
 rw [z3]
 refine ac (m:=ownedTupleIsFree (.ref e)) ?_
 unfold ownedTupleIsFree
 refine ac (m:=field (.ref e) 0) (wp e4 rfl (x:=.none) rfl (ba ?_))
 rw [if_pos rfl]
 refine ac (IF (ac (m:=field (.ref e) 5) (wp e4 rfl (x:=old) rfl ?_)))
 refine ac (m:=setField (.ref e) 5 x) (NV e4 (by simp) fun h5 (e5:OL h5 e it ((i:Int)+1) x) (Lh:ut e h4 h5)=>?_)
 refine ac (m:=ownedTupleHandOut (.ref e) _) ?_
 unfold ownedTupleHandOut
 refine ac (NV e5 (by simp) fun h6 (e6:Qq h6 e it ((i:Int)+1) x hp.objs.size) (Li:ut e h5 h6)=>?_)
 refine NV e6 (by simp) fun h7 (e7:Qq h7 e it ((i:Int)+1) x hp.objs.size) (Lj:ut e h6 h7)=>?_
 have EK:∀b o,b≠e->h4.get? b=some o->h7.get? b=some o:=fun b o n q=>Lj.extBut b o n (Li.extBut b o n (Lh.extBut b o n q))
 refine ac (wpAny_letGo (ba ⟨_,rfl,hQ h7 e7 (EI.at fun o q=>EK it o (BN c9) (up it o (BN c9) q)) (EK _ _ (Mn el) t4) fun b o n1 n2 q=>EK b o n1 (up b o n1 ((EJ.2 b n2).trans q))⟩))
theorem wA {Q:Option am->ar->Prop} (he:OL s.heap e it i old) (c9:e≠it) (hit:eO k s.heap it a i) (ha:lh k s.heap a items) (hx:items[i]?=some x)
  (hQ:∀h',Qq h' e it ((i:Int)+1) x s.heap.objs.size->eO k h' it a (i+1)->h'.get? s.heap.objs.size=some {cls:=.type "tuple",data:=.seq #[.int i s.toks,x]}->
   (∀b o,b≠e->b≠it->s.heap.get? b=some o->h'.get? b=some o)->Q (some (.ref s.heap.objs.size)) {s with heap:=h',toks:=s.toks+1}) :
  wpAny (model prog w) A (pyNext (.ref e)) Q E s :=by
 have hT:s.TypeIs (.ref e) "enumerate" := ⟨_,he,rfl⟩
 have sl:=F.slot_enumerate_next
 unfold pyNext
 exact ac (Ch (on (name:=i4 "__next__") hT sl (rb sl hT F.entry_enumerate_next (wz he c9 hit ha hx fun h' a b c d=>ba (hQ h' a b c d)) (F.args_enumerate_next_1 _))))
theorem wB {Q:Option am->ar->Prop} (hh:A.handled=none) (he:OL s.heap e it i old) (hit:eO k s.heap it a i) (ha:lh k s.heap a items) (hx:items[i]?=none)
  (hQ:∀h',Qg it s.heap h'->Q none {s with heap:=h'}):wpAny (model prog w) A (pyNext (.ref e)) Q E s :=by
 have hT:s.TypeIs (.ref e) "enumerate" := ⟨_,he,rfl⟩
 have sl:=F.slot_enumerate_next
 unfold pyNext
 refine ac (Ch (on (name:=i4 "__next__") hT sl (rb sl hT F.entry_enumerate_next ?_ (F.args_enumerate_next_1 _))))
 refine ac (m:=field (.ref e) 2) (wp he rfl (x:=.ref it) rfl (ac (m:=nextOf (.ref it)) (BZ hh hit ha hx fun h' y eb ⟨o,ho,hc⟩=>?_)))
 exact ac (Nd (T := "StopIteration") (b:=true) ⟨o,ho,hc⟩ isSubtype_stop (ba (hQ _ eb)))
end
end L2
namespace L2
open PySem PySem.Spec PyProof.Rows Builtin.SmallTypes AutoSeq1
theorem qu:bootBuiltins "enumerate" = some (.type "enumerate") :=by decide +kernel
section
variable {X:Cx} {pins:List (ag×lm)} {σ:St} {H:Hp} {s:ar} {h':ij}
theorem Inv.tE {t':Nat} {ch:List ag} (I:Inv X pins σ H s) (k:∀b o,b ∉ ch->s.heap.get? b=some o->h'.get? b=some o) (hf:∀b∈ch,cH X pins H b):Inv X pins σ H {s with heap:=h',toks:=t'}:=by
 have vy:∀b u,H b=some u->b ∉ ch:=fun b u e z=>by rw [(hf b z).1] at e;cases e
 refine I.step (g':=s.gens) (d':=s.drawn) (ch:=ch) (fun b hb=>?_) (fun b o _ _ hc e _=>k b o hc e) (fun b o _ _ hc e _=>⟨o.slots,k b o hc e⟩) (fun _ _ _ _ n=>n)
  (fun b o hc e=>⟨o,k b o hc e⟩) (fun _ _ e=>e) (fun _ _ _ e=>e) (fun b ps e=>⟨#[],by rw [e];simp⟩) (fun m hm=>?_) (fun b u e=>?_) I.bare.self
 ·obtain ⟨_,f1,f2,f3,f4,f5⟩:=hf b hb
  exact ⟨f3,f1,f4,f5⟩
 ·obtain ⟨o,es,ep,ho,r⟩:=hm
  exact ⟨o,es,ep,k _ o (fun z=>(hf _ z).2.1 rfl) ho,r⟩
 ·refine (I.hok b u e).bY (fun c v hc q=>k c v ?_ q) (fun _ q=>q) fun _ _ q=>q
  rcases hc with z|z
  ·rw [z];exact vy b u e
  ·exact vy c _ z
theorem Inv.pair {t:ag} {a b:V} {u v:am} {h1:ij} {tk tk0:Nat} (I0:Inv X pins σ H {s with toks:=tk0}) (ht:s.heap.objs.size<=t) (I:Inv X pins σ H {s with heap:=h1,toks:=tk}) (e:h1.get? t=some {cls:=.type "tuple",data:=.seq #[u,v]}) (ru:RelV a u) (rv:RelV b v) :
  Inv X pins σ (upd H t (.tup [a,b])) {s with heap:=h1,toks:=tk}:=by
 have f:=Inv.jj (H':=H) I0 (b:=t) ht (I0.hok.fresh ht)
 refine I.Ap f.1 ?_ f.2.1 f.2.2.2.2.1 f.2.2.2.2.2 ⟨by show 2<=sizeLine;decide,[u,v],.cons ru (.cons rv .nil),⟨_,e,rfl,_,rfl,rfl⟩⟩
 exact ij.get?_none_of_le (sB I0.sz ht)
end
def Sq (k:Bool) (K:bi) (H:Hp) (a:ag) (xs:List V):Prop:=if k=true then bB K H a xs else bp K H a xs
theorem Inv.sq {X:Cx} {pins:List (ag×lm)} {σ:St} {H:Hp} {s:ar} {k:Bool} {a:ag} {xs:List V} (I:Inv X pins σ H s) (h:Sq k X.K H a xs):∃its:List am,Vals xs its/\lh k s.heap a its.toArray :=by
 cases k with
 |true=>obtain ⟨its,rv,p,_⟩:=I.list (show bB X.K H a xs from h);exact ⟨its,rv,p.isList⟩
 |false=>obtain ⟨its,rv,p,_⟩:=I.tuple (show bp X.K H a xs from h);exact ⟨its,rv,p⟩
theorem Inv.EL {X:Cx} {pins:List (ag×lm)} {σ:St} {H:Hp} {s:ar} {k:Bool} {a:ag} {xs ys:List V} (I:Inv X pins σ H s) (h:Sq k X.K H a xs) (h':Sq k X.K H a ys):xs=ys :=by
 cases k with
 |true=>exact I.pM (show bB X.K H a xs from h) h'
 |false=>exact I.ji (show bp X.K H a xs from h) h'
def Ar (k:Bool) (K:bi) (a:ag):It:=
 ⟨fun i H=>∃xs x,Sq k K H a xs/\xs[i]?=some x,fun i H v H'=>∃t x,H t=none/\v=.ref t/\H'=upd H t (.tup [.int (i:Nat),x])/\∀xs,Sq k K H a xs->xs[i]?=some x,fun i H=>∃xs,Sq k K H a xs/\xs.length<=i⟩
theorem wC {P:gl} {w:ii} {K:bi} {elts:List dL} {x1:Nat} {pos:u4} (k:Bool) (a it e:ag) (c9:e≠it) :
  Turn P w K (.Tuple elts x1 pos) (Ar k K a) [e,it] e (fun i h=>(∃old,OL h e it i old)/\eO k h it a i) where
 mem :=by simp
 obj:=fun i h st b hb=>by
  obtain ⟨⟨old,he⟩,hit⟩:=st
  simp only [lw,AN,or_false] at hb
  rcases hb with rfl|rfl
  ·exact ⟨_,he,fun v z=>nomatch z⟩
  ·obtain ⟨o,ho,vs,hd⟩:=hit.obj
   exact ⟨o,ho,fun v z=>by rw [hd] at z;cases z⟩
 keep:=fun i h h' st q=>by
  obtain ⟨⟨old,he⟩,hit⟩:=st
  exact ⟨⟨old,q e (by simp) _ he⟩,hit.at fun o ho=>q it (by simp) o ho⟩
 item :=by
  intro X hP hw hK hc i pins s σ H E I hf st hg
  subst hP hw hK
  obtain ⟨⟨old,he⟩,hit⟩:=st
  obtain ⟨xs,x,hq,hx⟩:=hg
  obtain ⟨its,rv,p⟩:=I.sq hq
  obtain ⟨u,hu,ru⟩:=rv.get hx
  refine wA he c9 hit p (x:=u) (by simpa using hu) fun h1 eo EI t1 kk=>?_
  refine ⟨_,rfl,wpAny_letOwnedTupleGo_enum eo fun h2 e2 (tD:ut e h1 h2)=>?_⟩
  have el:e<s.heap.objs.size:=gc he
  have I2:Inv X pins σ H {s with heap:=h2,toks:=s.toks+1}:=I.tE (ch:=[e,it]) (fun b o hb q=>by
   simp only [lw,AN,or_false,not_or] at hb
   exact (tD.2 b hb.1).trans (kk b o hb.1 hb.2 q)) hf
  have t2:h2.get? s.heap.objs.size=some {cls:=.type "tuple",data:=.seq #[.int i s.toks,u]}:=(tD.2 _ (Mn el)).trans t1
  have hn:H s.heap.objs.size=none:=I.hok.fresh (br _)
  refine ⟨.ref s.heap.objs.size,_,Inv.pair (s:=s) (tk0:=s.toks) I (br _) I2 t2 (a:=.int (i:Nat)) ⟨s.toks,rfl⟩ ru,rfl,⟨_,x,hn,rfl,rfl,fun ys hy=>by rw [I.EL hy hq];exact hx⟩,⟨⟨u,?_⟩,EI.at fun o q=>(tD.2 it (BN c9)).trans q⟩,fun b hb=>?_⟩
  ·have c:((i+1:Nat):Int)=(i:Int)+1 :=by push_cast;rfl
   rw [c]
   exact e2
  ·have l:b≠s.heap.objs.size :=by
    simp only [lw,AN,or_false] at hb
    rcases hb with rfl|rfl
    ·exact l6 el
    ·obtain ⟨o,ho,_⟩:=hit.obj
     exact l6 (gc ho)
   rw [af l]
   exact (hf b hb).1
 done :=by
  intro X hP hw hK hc i pins s σ H E I hf st hg
  subst hP hw hK
  obtain ⟨⟨old,he⟩,hit⟩:=st
  obtain ⟨xs,hq,hx⟩:=hg
  obtain ⟨its,rv,p⟩:=I.sq hq
  have hl:=rv.length
  exact wB (I.ok.hd hc) he hit p (by simp;omega) fun h1 eb=>⟨rfl,I.tE (t':=s.toks) (ch:=[it]) (fun b o hb q=>eb b o (by simpa using hb) q) fun b hb=>hf b (by simp at hb;simp [hb])⟩
 self:=fun _ _ _ _ _ st h=>wpAny_pyIter_enum st.1.choose_spec h
abbrev wD (a:ag):lm:={cls:=.type "tuple_iterator",data:=.fields #[.ref a,.int 0 0]}
abbrev ER (it:ag):lm:={cls:=.type "enumerate",data:=.fields #[.none,.bool false,.ref it,rawInt 0,.none,.none]}
theorem B1 (a:ag) (items:Array am) (n:Nat) (dct:Option ag) (sl:Array (Option am)) :
  Meets (ma.«enumerate.__new__» ⟨[.type "enumerate",.ref a],[]⟩) (fun _ R s=>s.heap.get? a=some {cls:=.type "tuple",dict:=dct,data:=.seq items n,slots:=sl} /\
   R (.ok (.ret (.ref (s.heap.push (wD a)).objs.size))) {s with heap:=(s.heap.push (wD a)).push (ER s.heap.objs.size)}):=
 .of_wp fun prog w A R s h=>by
  obtain ⟨hp,g,d,tk,os⟩:=s
  obtain ⟨hl,h⟩:=h
  have ib:=sub_enumerate
  have hT:ij.IsTuple (ar.heap ⟨hp,g,d,tk,os⟩) a items:=⟨_,hl,rfl,n,rfl⟩
  wp_walk using NW hl
  refine wpAny_stack_any fun st=>ba ?_
  split
  case h_1 c _ _ _ _ _=>cases (c==AM "enumerate") <;> (wp_walk using NW hl,Ps hT;exact ⟨_,rfl,h⟩)
  case h_2=>wp_walk using NW hl,Ps hT;exact ⟨_,rfl,h⟩
section
variable {prog:gl} {w:ii} {A:l7} {E:am->ar->Prop} {s:ar}
theorem uH {a:ag} {items:Array am} {Q:am->ar->Prop} (hT:s.heap.IsTuple a items)
  (h:∀h',OL h' (s.heap.objs.size+1) s.heap.objs.size 0 .none->h'.IsTupleIter s.heap.objs.size a 0->(∀b o,s.heap.get? b=some o->h'.get? b=some o)->Q (.ref (s.heap.objs.size+1)) {s with heap:=h'}) :
  wpAny (model prog w) A (call (.type "enumerate") [.ref a]) Q E s :=by
 obtain ⟨ob,ho,hc,n,hd⟩:=hT
 obtain ⟨c,dd,dt,sl⟩:=ob
 dsimp only at hc hd
 subst hc hd
 refine callType_new F.called_enumerate (by decide) (F.typeCall_enumerate_1 _) (F.newCall_enumerate_1 _) (fun obj=>Pf obj _) F.entry_enumerate_new (B1 a items n dd sl) ⟨ho,?_⟩
 have z:(s.heap.push (wD a)).objs.size=s.heap.objs.size+1:=N6 ..
 have he:((s.heap.push (wD a)).push (ER s.heap.objs.size)).get? (s.heap.objs.size+1)=some (ER s.heap.objs.size):=z▸hX (s.heap.push (wD a)) rfl
 show _/\_
 rw [z]
 exact ⟨⟨_,he,rfl⟩,h _ he ⟨_,bn _ (hX _ rfl),rfl,rfl⟩ fun b o x=>bn _ (bn _ x)⟩
theorem wF {k:Bool} {a:ag} {items:Array am} {Q:am->ar->Prop} (hT:lh k s.heap a items)
  (h:∀h',OL h' (s.heap.objs.size+1) s.heap.objs.size 0 .none->eO k h' s.heap.objs.size a 0->(∀b o,s.heap.get? b=some o->h'.get? b=some o)->Q (.ref (s.heap.objs.size+1)) {s with heap:=h'}) :
  wpAny (model prog w) A (call (.type "enumerate") [.ref a]) Q E s :=by
 cases k with
 |true=>exact call_enumerate_list hT fun h' a b _ c=>h h' a b c
 |false=>exact uH hT h
end
section
variable {X:Cx} {l:dL} {tl:TE} {elts:List dL} {x1:Nat} {tp p pos:u4}
def G6 (k:Bool) (K:bi) (tl:TE):TI:=fun σ H R=>tl σ H fun x H1=>∃a,x=.ref a/\(∃xs,Sq k K H1 a xs)/\R (Ar k K a) H1
theorem B2 (k:Bool) {K:bi} (hK:X.K=K) (hg:Gl X "enumerate") (hm:X.mg "enumerate" = none) (hl:PE X l tl) (hs:starEach [l] X.env=[(false,eval l X.env)] :=by rfl) :
  PI X (.Tuple elts x1 tp) (.Call (.Name "enumerate" p) [l] [] pos) (G6 k K tl) :=by
 subst hK
 intro pins s σ H R I h
 refine Cc (cU I hg hm qu ?_)
 refine u8 ?_ hs rfl
 rw [hs]
 refine EU (thn (hl pins s σ H _ I h) fun v s1 ⟨x,H1,I1,r1,q1⟩=>Gc ?_)
 obtain ⟨a,rfl,⟨xs,hq⟩,q⟩:=q1
 cases (show v=lc a from r1)
 obtain ⟨its,rv,sq⟩:=I1.sq hq
 refine wF sq fun h' he hit kk=>?_
 refine wpAny_pyIter_enum he ?_
 have I2:Inv X pins σ H1 {s1 with heap:=h'}:=I1.kept (t':=s1.toks) kk
 have ne:s1.heap.objs.size+1≠s1.heap.objs.size:=Mn (Oc _)
 refine ⟨_,[s1.heap.objs.size+1,s1.heap.objs.size],_,Ar k X.K a,H1,rfl,I2,wC k a _ _ ne,⟨⟨_,he⟩,hit⟩,fun b hb=>?_,q⟩
 simp only [lw,AN,or_false] at hb
 rcases hb with rfl|rfl
 ·exact I1.jj (FF _) (I1.hok.fresh (FF _))
 ·exact I1.jj (br _) (I1.hok.fresh (br _))
end
def As (J:It) (ys:List (V×V)) (H:Hp):Prop:=∀i,(i<ys.length->J.go i H/\∀x H',J.yld i H x H'->∃t p,H t=none/\x=.ref t/\ys[i]?=some p/\H'=upd H t (.tup [p.1,p.2]))/\(ys.length<=i->J.stop i H)
theorem oJ {k:Bool} {K:bi} {a:ag} {ys:List V} {H:Hp} (h:Sq k K H a ys):As (Ar k K a) ((io ys.length).map fun i=>(V.int (i:Nat),ys.getD i .aj)) H:=fun i=>by
 have el:((io ys.length).map fun i=>(V.int (i:Nat),ys.getD i .aj)).length=ys.length :=by simp
 rw [el]
 refine ⟨fun hi=>⟨⟨ys,ys[i],h,ap hi⟩,fun x H' ⟨t,y,n,e1,e2,e3⟩=>⟨t,(.int (i:Nat),y),n,e1,?_,e2⟩⟩,fun hi=>⟨ys,h,hi⟩⟩
 rw [cr,GS hi]
 have:=e3 ys h
 show some (V.int (i:Nat),ys.getD i .aj)=_
 rw [db,this]
 rfl
end L2
namespace L2
open PySem PySem.Spec PyProof.Rows AutoSeq1
theorem yX (l b:ag) (items EV:Array am) (n n2:Nat) (dd sR:Option ag) (sl oo:Array (Option am)) (h0:items.isEmpty=true) :
  Meets (ma.«tuple.__add__» ⟨[.ref l,.ref b],[]⟩) (fun _ R s=>s.heap.get? l=some {cls:=.type "tuple",dict:=dd,data:=.seq items n,slots:=sl}/\s.heap.get? b=some {cls:=.type "tuple",dict:=sR,data:=.seq EV n2,slots:=oo}/\R (.ok (.ret (.ref b))) s):=
 .of_wp fun prog w A R s h=>by
  obtain ⟨hp,g,d,tk,os⟩:=s
  obtain ⟨hl,hb,h⟩:=h
  have f2:=AutoSeq1.sub_tuple_tuple
  wp_walk using NW hl,NW hb
  exact ⟨_,rfl,h⟩
section
variable {X:Cx}
def G7 (K:bi):R2:=fun x y H Q=>∃a b xs ys,x=.ref a/\y=.ref b/\bp K H a xs/\bp K H b ys/\xs.length+ys.length<=sizeLine/\(xs=[]->Q (.ref b) H)/\(xs≠[]->ys=[]->Q (.ref a) H)/\(xs≠[]->ys≠[]->∀p,H p=none->Q (.ref p) (upd H p (.tup (xs++ys))))
theorem B3 {K:bi} (hK:X.K=K):OpR X (binaryOp .Add) (G7 K) :=by
 subst hK
 intro pins s σ H x y v u Q I rx ry h
 obtain ⟨a,b,xs,ys,rfl,rfl,ha,hb,hz,q0,q1,q2⟩:=h
 by_cases hx:xs=[]
 ·cases rx
  cases ry
  obtain ⟨its,r1,p1,_⟩:=I.tuple ha
  obtain ⟨dS,r2,p2,_⟩:=I.tuple hb
  obtain ⟨⟨cls,dd,data,sl⟩,ho,hc,n,hd⟩:=id p1
  obtain ⟨⟨JO,sR,data2,oo⟩,jn,sS,n2,hd2⟩:=id p2
  dsimp only at hc hd sS hd2
  subst hc hd sS hd2
  exact concat_meets ⟨_,ho,rfl⟩ ⟨_,jn,rfl⟩ PV seq_tuple_add OJ OC (Ot _ _) (yX a b its.toArray dS.toArray n n2 dd sR sl oo (by simp [r1.ki.mpr hx])) ⟨ho,jn,⟨.ref b,H,I,rfl,q0 hx⟩⟩
 ·exact BE pins s σ H _ _ v u Q I rx ry ⟨a,b,xs,ys,rfl,rfl,ha,hb,hx,hz,q1 hx,q2 hx⟩
theorem se {prog:gl} {w:ii} {A:l7} {E:am->ar->Prop} {s:ar} {t sl:ag} {items:Array am} {vl vu:am} {lo hi:Option Int} {Q:am->ar->Prop} (ht:P3 s.heap t items) (hs:s.heap.IsSliceOf sl vl vu .none) (pl:O6 vl lo) (pu:O6 vu hi)
  (hw:HT.aJ items.size 0 lo=0/\HT.aJ items.size items.size hi=items.size) (h:Q (.ref t) s):wpAny (model prog w) A (getItem (.ref t) (.ref sl)) Q E s :=by
 obtain ⟨os,dh,Ad,iY⟩:=id hs
 have sU:s.TypeIs (.ref sl) "slice" := ⟨os,dh,Ad⟩
 have Lk:s.TypeIs (.ref t) "tuple" := ht.typeIs
 unfold getItem
 refine wl ?_
 first|refine ac (ba ?_)|skip
 refine ac (wpAny_sequenceKey ht.typeIs (by decide) ?_)
 have sg:=BB
 refine ac (on (name:=i4 "__getitem__") ht.typeIs sg (rb sg ht.typeIs entry_tuple_getitem ?_ (args_tuple_getitem _ _)))
 refine ac (m:=ma.Tuple.tupleItemsOf (.ref t)) (tupleItemsOf_ ht (ac (MW sU ?_)))
 rw [if_pos (by decide)]
 refine ac (HT.gB hs pl pu ?_)
 rw [hw.1,hw.2]
 show wpAny _ _ (if (((0:Nat):Int)==0 && (1:Int)==1 && (items.size - 0)==items.size)=true then _ else _) _ _ s
 rw [if_pos (by simp)]
 refine ac (m:=ma.Tuple.tupleIsExact (.ref t)) ?_
 unfold ma.Tuple.tupleIsExact
 refine ac (MW Lk (ba ?_))
 rw [if_pos (by decide)]
 exact ac (IF (ba ⟨_,rfl,ba h⟩))
def Kd (K:bi):V->Option Int->Option Int->Hp->VK->Prop:=fun x lo hi H Q=>∃a xs,x=.ref a/\bp K H a xs /\
 ((HT.aJ xs.length 0 lo=0/\HT.aJ xs.length xs.length hi=xs.length)->Q (.ref a) H)/\(¬ (HT.aJ xs.length 0 lo=0/\HT.aJ xs.length xs.length hi=xs.length)->∀p,H p=none->Q (.ref p) (upd H p (.tup (fT xs lo hi))))
theorem B4 {K:bi} (hK:X.K=K):vT X (Kd K) :=by
 subst hK
 intro pins s σ H x v vl vu lo hi sl Q I rx hs pl pu h
 obtain ⟨a,xs,rfl,hx,q1,q2⟩:=h
 by_cases hw:HT.aJ xs.length 0 lo=0/\HT.aJ xs.length xs.length hi=xs.length
 ·cases rx
  obtain ⟨its,r,ht,hz⟩:=I.tuple hx
  have hlen:its.toArray.size=xs.length :=by rw [ce];exact r.length.symm
  exact ⟨"tuple",_,BB.lookup,ht.typeIs,se ht hs pl pu (by rw [hlen];exact hw) ⟨.ref a,H,I,rfl,q1 hw⟩⟩
 ·exact DT pins s σ H _ v vl vu lo hi sl Q I rx hs pl pu ⟨a,xs,rfl,hx,hw,q2 hw⟩
theorem uI {xs:List V} {lo hi:Option Int} (h:HT.aJ xs.length 0 lo=0/\HT.aJ xs.length xs.length hi=xs.length):fT xs lo hi=xs :=by
 unfold fT
 rw [h.1,h.2,List.drop_zero,Nat.sub_zero,OS]
end
end L2
namespace L2
open PySem PySem.Spec PyProof.Rows
section
variable {X:Cx} {st:r9} {ι:Type} {Pre:ι->St->Hp->Prop} {D:ι->Ends}
theorem PS.lU {st:r9} {t:TS} (h:PS X.lU st t):PS X st t:=⟨fun pins s σ H D I hw=>
 mf (h pins s σ H D (I.gz _) hw) (fun _ _ q=>q.e8) fun _ _ z=>ID z⟩
end
structure M1 (X:Cx) (o:dL) (m:cb) (apos:u4) (e:dL) (aL:u4):Prop where
 base:attributeBase o m X.env (eval o X.env)=eval o X.env
 few:((backTo aL (starEach [e] X.env)).all (fun x => !x.1) && (backToKw aL (keywordEach [] X.env)).all (fun x=>x.1.isSome)
  && decide (([e]:List dL).length+([]:List Me).length+(if ([]:List Me).isEmpty then 0 else 1)<30))=true
 line:(apos.endLine==aL.line)=true
 trees:backTo aL (starEach [e] X.env)=[(false,eval e X.env)]
structure M2 (X:Cx) (o:dL) (m:cb) (apos:u4) (e f:dL) (aL:u4):Prop where
 base:attributeBase o m X.env (eval o X.env)=eval o X.env
 few:((backTo aL (starEach [e,f] X.env)).all (fun x => !x.1) && (backToKw aL (keywordEach [] X.env)).all (fun x=>x.1.isSome)
  && decide (([e,f]:List dL).length+([]:List Me).length+(if ([]:List Me).isEmpty then 0 else 1)<30))=true
 line:(apos.endLine==aL.line)=true
 trees:backTo aL (starEach [e,f] X.env)=[(false,eval e X.env),(false,eval f X.env)]
theorem lj {κ:Type} [BEq κ] [LawfulBEq κ]:∀(ks U:List κ),ks.Nodup->(∀k∈ks,k∈U)->ks.length<=U.length
 | [],_,_,_=>l8 _
 |k::ks,U,nd,h=>by
          have hn:=Oj.mp nd
          have hk:=h k kt
          have ih:=lj ks (U.erase k) hn.2 fun x hx=>(List.mem_erase_of_ne (fun e=>hn.1 (by rw [<- e];exact hx))).mpr (h x (ff _ hx))
          rw [List.length_erase_of_mem hk] at ih
          have:=List.length_pos_of_mem hk
          rw [B0]
          omega
def Ln (mask:Nat) (h:Int):OB:={j:=wv h % (mask+1),more:=FS mask (wv h % (mask+1)) - wv h % (mask+1),i:=wv h % (mask+1),perturb:=wv h,dummy:=none}
def qw (mask:Nat) (p:OB):OB:=
 if p.more > 0 then {p with j:=p.j+1,more:=p.more - 1} else
 let (i,perturb):=PH mask p.i p.perturb
 {p with j:=i,more:=FS mask i - i,i,perturb}
def bb (mask:Nat) (h:Int):Nat->OB
 |0=>Ln mask h
 |k+1=>qw mask (bb mask h k)
def aM (mask:Nat) (h:Int):Nat->Nat×Nat
 |0=>(wv h % (mask+1),wv h)
 |T+1=>PH mask (aM mask h T).1 (aM mask h T).2
def bZ (mask i:Nat):Nat:=FS mask i - i
def d8 (mask:Nat) (h:Int):Nat->Nat
 |0=>0
 |T+1=>d8 mask h T+bZ mask (aM mask h T).1+1
theorem B5 (mask i:Nat):bZ mask i<=9 :=by unfold bZ FS;split <;> omega
theorem tF {mask i:Nat} (h:i<=mask):i+bZ mask i<=mask :=by unfold bZ FS;split <;> omega
theorem wG (mask:Nat) (h:Int):∀T,d8 mask h T<=10 * T
 |0=>br _
 |T+1=>by
          have:=wG mask h T
          have:=B5 mask (aM mask h T).1
          show d8 mask h T+_+1<=_
          omega
theorem nu {mask:Nat} {h:Int} {T:Nat} (e:bb mask h (d8 mask h T)={j:=(aM mask h T).1,more:=bZ mask (aM mask h T).1,i:=(aM mask h T).1,perturb:=(aM mask h T).2,dummy:=none}) :
  ∀m,m<=bZ mask (aM mask h T).1->bb mask h (d8 mask h T+m)={j:=(aM mask h T).1+m,more:=bZ mask (aM mask h T).1 - m,i:=(aM mask h T).1,perturb:=(aM mask h T).2,dummy:=none}
 |0,_=>e
 |m+1,hm=>by
          have ih:=nu e m (by omega)
          show qw mask (bb mask h (d8 mask h T+m))=_
          rw [ih]
          unfold qw
          rw [if_pos (show bZ mask (aM mask h T).1 - m > 0 by omega)]
          have e1:bZ mask (aM mask h T).1 - m - 1=bZ mask (aM mask h T).1 - (m+1) :=by omega
          simp only [e1,Nat.add_assoc]
theorem ny {mask:Nat} {h:Int}:∀T,bb mask h (d8 mask h T)={j:=(aM mask h T).1,more:=bZ mask (aM mask h T).1,i:=(aM mask h T).1,perturb:=(aM mask h T).2,dummy:=none}
 |0=>rfl
 |T+1=>by
          have ih:=nu (ny (mask:=mask) (h:=h) T) _ (br _)
          show qw mask (bb mask h (d8 mask h T+bZ mask (aM mask h T).1))=_
          rw [ih]
          unfold qw
          rw [if_neg (by show ¬ (bZ mask (aM mask h T).1 - bZ mask (aM mask h T).1 > 0);omega)]
          rfl
theorem mr {mask:Nat} {h:Int} {T m:Nat} (hm:m<=bZ mask (aM mask h T).1):(bb mask h (d8 mask h T+m)).j=(aM mask h T).1+m :=by rw [nu (ny T) m hm]
theorem qy (mask:Nat) (h:Int):∀k,∃T m,k=d8 mask h T+m/\m<=bZ mask (aM mask h T).1
 |0=>⟨0,0,rfl,l8 _⟩
 |k+1=>by
          obtain ⟨T,m,e,hm⟩:=qy mask h k
          by_cases z:m<bZ mask (aM mask h T).1
          ·exact ⟨T,m+1,by omega,z⟩
          ·refine ⟨T+1,0,?_,l8 _⟩
           show k+1=d8 mask h T+bZ mask (aM mask h T).1+1+0
           omega
theorem tG (mask:Nat) (h:Int):∀k,(bb mask h k).dummy=none
 |0=>rfl
 |k+1=>by
          have ih:=tG mask h k
          show (qw mask (bb mask h k)).dummy=none
          unfold qw
          split <;> exact ih
def qz (mask:Nat):Nat->Nat->Nat
 |0,i=>i
 |m+1,i=>(qz mask m i * 5+1) % (mask+1)
theorem nz {mask:Nat} {h:Int}:∀T,(aM mask h T).1<=mask
 |0=>Nat.lt_succ_iff.mp (Pc _ (Nat.succ_pos _))
 |T+1=>Nat.lt_succ_iff.mp (Pc _ (Nat.succ_pos _))
theorem EW (mask:Nat) (h:Int) (k:Nat):(bb mask h k).j<=mask :=by
 obtain ⟨T,m,rfl,hm⟩:=qy mask h k
 rw [mr hm]
 have:=tF (nz (mask:=mask) (h:=h) T)
 omega
theorem qA {mask:Nat} {h:Int}:∀T,(aM mask h T).2=wv h / 32 ^ T
 |0=>by show wv h=_;simp
 |T+1=>by
          show (aM mask h T).2 / 32=_
          rw [qA T,Nat.div_div_eq_div_mul,Nat.pow_succ]
theorem yY (h:Int):wv h<2 ^ 64 :=by
 unfold wv
 have h1:=Oo h (show (2 ^ 64:Int)≠0 by decide)
 have h2:=Int.emod_lt_of_pos h (show (0:Int)<2 ^ 64 by decide)
 omega
theorem qB {mask:Nat} {h:Int}:∀m,aM mask h (13+m)=(qz mask m (aM mask h 13).1,0)
 |0=>by
          have e:(aM mask h 13).2=0 :=by
           rw [qA]
           have:=yY h
           exact Nat.div_eq_of_lt (Nat.lt_trans this (by decide))
          exact Prod.ext rfl e
 |m+1=>by
          show PH mask (aM mask h (13+m)).1 (aM mask h (13+m)).2=_
          rw [qB m]
          unfold PH
          simp [qz]
def Full (mask:Nat):Prop:=∀i,i<=mask->∀j,j<=mask->∃m,m<=mask/\qz mask m i=j
theorem tH {mask:Nat} (h:((io (mask+1)).all fun i=>(io (mask+1)).all fun j=>(io (mask+1)).any fun m=>qz mask m i==j)=true):Full mask:=fun i hi j hj=>by
 have h1:=sK.mp h i (sw.mpr (by omega))
 have h2:=sK.mp h1 j (sw.mpr (by omega))
 obtain ⟨m,hm,e⟩:=List.any_eq_true.mp h2
 exact ⟨m,by have:=sw.mp hm;omega,by simpa using e⟩
theorem G8:Full 7:=tH (by decide +kernel)
theorem EX:Full 31:=tH (by decide +kernel)
theorem mw {mask:Nat} (F:Full mask) (h:Int) {j:Nat} (hj:j<=mask):∃T,T<=13+mask/\(aM mask h T).1=j :=by
 obtain ⟨m,hm,e⟩:=F _ (nz 13) j hj
 exact ⟨13+m,by omega,by rw [qB];exact e⟩
theorem EY {p:Nat->Prop}:∀{n:Nat},p n->∃k,k<=n/\p k/\∀k',k'<k->¬ p k'
 |n,h=>by
          induction n using P8 with
          |ind n ih=>
           by_cases z:∃k',k'<n/\p k'
           ·obtain ⟨k',hk,hp⟩:=z
            obtain ⟨k,h1,h2,h3⟩:=ih k' hk hp
            exact ⟨k,by omega,h2,h3⟩
           ·exact ⟨n,br _,h,fun k' hk hp=>z ⟨k',hk,hp⟩⟩
theorem EZ {mask:Nat} (F:Full mask) (h:Int) {fY:Nat->Prop} {j:Nat} (hj:j<=mask) (e:¬ fY j):∃K,K<=10 * (13+mask)/\¬ fY (bb mask h K).j/\∀k,k<K->fY (bb mask h k).j :=by
 obtain ⟨T,hT,eT⟩:=mw F h hj
 have e0:¬ fY (bb mask h (d8 mask h T)).j :=by rw [ny,eT];exact e
 obtain ⟨K,h1,h2,h3⟩:=EY (p:=fun k=>¬ fY (bb mask h k).j) e0
 have:=wG mask h T
 exact ⟨K,by omega,h2,fun k hk=>Lu.mp (h3 k hk)⟩
def tI (mask:Nat) (fY:Nat->Prop) (h:Int) (j:Nat):Prop:=∃k,(bb mask h k).j=j/\∀k',k'<k->fY (bb mask h k').j
theorem tI.mono {mask:Nat} {fY E1:Nat->Prop} {h:Int} {j:Nat} (x:tI mask fY h j) (m:∀j,fY j->E1 j):tI mask E1 h j:=let ⟨k,e,f⟩:=x;⟨k,e,fun k' hk=>m _ (f k' hk)⟩
def dU (t:lp) (j:Nat):Prop:=j∈t.place.toList
structure GoodT (w:ii) (t:lp) (es:Array (Int×am)):Prop where
 ok:da w t
 full:Full t.mask
 odd:t.mask % 2=1
 le:∀j∈t.place.toList,j<=t.mask
 sz:t.place.size=es.size
 room:es.size<t.mask
 wk:∀q∈t.place.toList.zip es.toList,tI t.mask (dU t) q.2.1 q.1
theorem jF {w:ii} {t:lp} (h:da w t) {j:Nat}:(∃i,t.slot j=.live i/\t.place[i]?=some j)\/(t.slot j=.empty/\¬ dU t j) :=by
 unfold lp.slot
 dsimp only
 by_cases z:t.place[jp t.place j]?=some j
 ·left
  refine ⟨jp t.place j,?_,z⟩
  rw [if_pos (by rw [z];simp)]
 ·right
  rw [if_neg (by simpa using z),h.dum,sZ]
  refine ⟨by simp,fun m=>?_⟩
  obtain ⟨i,hi,e⟩:=Pg.mp m
  have cI:i<t.place.size :=by simpa using hi
  have e':t.place[i]=j :=by simpa using e
  obtain ⟨b0,b1,b2⟩:=gF j h.ris
  generalize jp t.place j=p at *
  by_cases h1:i<p
  ·have:=b1 i cI h1;omega
  ·by_cases h2:i=p
   ·subst h2;exact z (by rw [qr cI,e'])
   ·have q:=gE h.ris (show p<i by omega) cI
    have:=b2 p (by omega) (br _)
    omega
theorem yZ {w:ii} {t:lp} (h:da w t) {j i:Nat} (e:t.slot j=.live i):t.place[i]?=some j :=by
 rcases jF h (j:=j) with ⟨i',e1,e2⟩|⟨e1,_⟩
 ·rw [e] at e1;cases e1;exact e2
 ·rw [e] at e1;cases e1
theorem qC {w:ii} {t:lp} (h:da w t) {j:Nat} (o:dU t j):∃i,t.slot j=.live i/\t.place[i]?=some j :=by
 rcases jF h (j:=j) with x|⟨_,n⟩
 ·exact x
 ·exact absurd o n
theorem mx {w:ii} {t:lp} (h:da w t) {j:Nat} (o:¬ dU t j):t.slot j=.empty :=by
 rcases jF h (j:=j) with ⟨i,_,e⟩|⟨e,_⟩
 ·exfalso
  exact o (by have:=O3.mpr (OX e);exact this)
 ·exact e
theorem oK {w:ii} {t:lp} (h:da w t) {hashAt:Nat->Int} {hh:Int} {K:Nat} (hK:¬ dU t (bb t.mask hh K).j) (hb:∀k,k<K->dU t (bb t.mask hh k).j):∀(fuel k0:Nat),k0<=K->K - k0<fuel->
  (∃k i,k0<=k/\k<K/\t.slot (bb t.mask hh k).j=.live i/\hashAt i=hh/\(∀k' i',k0<=k'->k'<k->t.slot (bb t.mask hh k').j=.live i'->hashAt i'≠hh)/\PM t hashAt hh fuel (bb t.mask hh k0)=some (.candidate (bb t.mask hh k).j i (bb t.mask hh (k+1)))) \/
  ((∀k' i',k0<=k'->k'<K->t.slot (bb t.mask hh k').j=.live i'->hashAt i'≠hh)/\PM t hashAt hh fuel (bb t.mask hh k0)=some (.empty (bb t.mask hh K).j none))
 |0,k0,_,hf=>by omega
 |fuel+1,k0,hk,hf=>by
          unfold PM
          by_cases e:k0=K
          ·subst e
           right
           refine ⟨fun k' i' a b=>by omega,?_⟩
           rw [mx h hK]
           dsimp only
           rw [tG]
          ·obtain ⟨i,e1,e2⟩:=qC h (hb k0 (by omega))
           rw [e1]
           dsimp only
           by_cases eh:hashAt i=hh
           ·left
            refine ⟨k0,i,br _,by omega,e1,eh,fun k' i' a b=>by omega,?_⟩
            rw [if_pos (by simpa using eh)]
            rfl
           ·rw [if_neg (by simpa using eh)]
            have here:∀i',t.slot (bb t.mask hh k0).j=.live i'->hashAt i'≠hh:=fun i' z=>by rw [e1] at z;cases z;exact eh
            rcases oK h hK hb fuel (k0+1) (by omega) (by omega) with ⟨k,i',a,b,c,d,f,g⟩|⟨f,g⟩
            ·left
             refine ⟨k,i',by omega,b,c,d,fun k' i2 a2 b2=>?_,g⟩
             by_cases z:k'=k0
             ·subst z;exact here i2
             ·exact f k' i2 (by omega) b2
            ·right
             refine ⟨fun k' i2 a2 b2=>?_,g⟩
             by_cases z:k'=k0
             ·subst z;exact here i2
             ·exact f k' i2 (by omega) b2
theorem jG {α:Type} (xs:Array α) (p:Nat) (v:α):(tz xs p v).toList=xs.toList.take p++[v]++xs.toList.drop p :=by
 unfold tz
 simp
 exact EM (by simp)
theorem jH {α:Type} (xs:Array α) (p:Nat) (v:α):(tz xs p v).toList.Perm (v::xs.toList) :=by
 rw [jG,GE]
 have:(v::xs.toList)=v::(xs.toList.take p++xs.toList.drop p) :=by rw [List.take_append_drop]
 rw [this]
 exact List.perm_middle
theorem wH {α β:Type} (xs:List α) (ys:List β) (p:Nat):(xs.take p).zip (ys.take p)=(xs.zip ys).take p :=by rw [Oh,Oh,List.take_zipWith]
theorem wI {α β:Type} (xs:List α) (ys:List β) (p:Nat):(xs.drop p).zip (ys.drop p)=(xs.zip ys).drop p :=by rw [Oh,Oh,List.drop_zipWith]
theorem GoodT.put {w:ii} {t:lp} {es:Array (Int×am)} (g:GoodT w t es) {hh:Int} {x:am} {K:Nat} (hK:¬ dU t (bb t.mask hh K).j) (hb:∀k,k<K->dU t (bb t.mask hh k).j) (hle:(bb t.mask hh K).j<=t.mask) (hr:es.size+1<t.mask) :
  GoodT w (t.put (bb t.mask hh K).j).1 (tz es (t.put (bb t.mask hh K).j).2 (hh,x)) :=by
 have em:=mx g.ok hK
 have ok:=g.ok.put em
 generalize ej:(bb t.mask hh K).j=j at *
 have mem:∀j',j'∈(t.put j).1.place.toList ↔ j'=j\/j'∈t.place.toList:=fun j'=>by
  have:=(jH t.place (jp t.place j) j).mem_iff (a:=j')
  rw [lw] at this
  exact this
 have Lp:jp t.place j<=t.place.toList.length :=by have:=(gF j g.ok.ris).1;simpa using this
 have Nt:jp t.place j<=es.toList.length :=by rw [i0,<- g.sz,<- i0];exact Lp
 have s1:∀{α:Type} (xs:Array α) (p:Nat) (v:α),(tz xs p v).size=xs.size+1:=fun xs p v=>by
  have:=(jH xs p v).length_eq
  rw [i0,B0,i0] at this
  exact this
 refine ⟨ok,g.full,g.odd,fun j' Lq=>?_,?_,?_,fun q hq=>?_⟩
 ·rcases (mem j').mp Lq with rfl|z
  ·exact hle
  ·exact g.le j' z
 ·show (tz t.place (jp t.place j) j).size=_
  rw [s1,s1,g.sz]
 ·rw [s1];exact hr
 ·have zz:(t.put j).1.place.toList.zip (tz es (t.put j).2 (hh,x)).toList=(t.place.toList.zip es.toList).take (jp t.place j)++[(j,(hh,x))]++(t.place.toList.zip es.toList).drop (jp t.place j) :=by
   show (tz t.place (jp t.place j) j).toList.zip (tz es (jp t.place j) (hh,x)).toList=_
   rw [jG,jG,Qc (by simp [g.sz]),Qc (by simp [g.sz]),wH,wI]
   rfl
  rw [zz] at hq
  have ll:∀j',dU t j'->dU (t.put j).1 j':=fun j' z=>(mem j').mpr (.inr z)
  have old:q∈t.place.toList.zip es.toList->tI t.mask (dU (t.put j).1) q.2.1 q.1:=fun z=>(g.wk q z).mono ll
  rcases wT.mp hq with z|z
  ·rcases wT.mp z with z|z
   ·exact old (List.mem_of_mem_take z)
   ·rw [rc.mp z]
    exact ⟨K,ej,fun k' tJ=>ll _ (hb k' tJ)⟩
  ·exact old (List.mem_of_mem_drop z)
def dW (o:Array (Option Nat)) (j:Nat):Prop:=o.getD j none≠none
structure jI (mask:Nat) (o:Array (Option Nat)) (hs:List Int):Prop where
 size:o.size=mask+1
 wk:∀j n,o.getD j none=some n->∃hh,hs[n]?=some hh/\tI mask (dW o) hh j
 inj:∀j j' n,o.getD j none=some n->o.getD j' none=some n->j=j'
 sur:∀n,n<hs.length->∃j,j<=mask/\o.getD j none=some n
theorem iK {o:Array (Option Nat)} {mask j:Nat} (hs:o.size=mask+1) (hj:j<=mask):(o.getD j (some 0)).isNone=true ↔ ¬ dW o j :=by
 unfold dW
 have hl:j<o.size :=by omega
 simp [LG,hl]
theorem oM {mask:Nat} {o:Array (Option Nat)} {hh:Int} (hs:o.size=mask+1):∀(fuel T:Nat),(∀k,k<d8 mask hh T->dW o (bb mask hh k).j)->(∃T',T<=T'/\T'<T+fuel/\¬ dW o (aM mask hh T').1)->
  ∃j k,NY mask o fuel (aM mask hh T).1 (aM mask hh T).2=some j/\(bb mask hh k).j=j/\j<=mask/\¬ dW o j/\∀k',k'<k->dW o (bb mask hh k').j
 |0,T,_,⟨T',a,b,_⟩=>by omega
 |fuel+1,T,hb,⟨T',a,b,c⟩=>by
          have hi:=nz (mask:=mask) (h:=hh) T
          have Nf:=tF hi
          have er:FS mask (aM mask hh T).1+1 - (aM mask hh T).1=bZ mask (aM mask hh T).1+1 :=by
           have:(aM mask hh T).1<=FS mask (aM mask hh T).1 :=by unfold FS;split <;> omega
           unfold bZ
           omega
          unfold NY
          rw [er]
          cases e:(io (bZ mask (aM mask hh T).1+1)).find? (fun k=>(o.getD ((aM mask hh T).1+k) (some 0)).isNone) with
          |some m=>
           rw [List.find?_range_eq_some] at e
           obtain ⟨e1,e2,e3⟩:=e
           have hm:=sw.mp e2
           refine ⟨_,d8 mask hh T+m,rfl,mr (by omega),by omega,(iK hs (by omega)).mp e1,fun k' tJ=>?_⟩
           by_cases z:k'<d8 mask hh T
           ·exact hb k' z
           ·obtain ⟨m',rfl⟩:∃m',k'=d8 mask hh T+m':=⟨k' - d8 mask hh T,by omega⟩
            rw [mr (by omega)]
            have:=e3 m' (by omega)
            refine Lu.mp fun n=>?_
            rw [(iK hs (by omega)).mpr n] at this
            cases this
          |none=>
           dsimp only
           rw [List.find?_eq_none] at e
           have ll:∀m,m<=bZ mask (aM mask hh T).1->dW o ((aM mask hh T).1+m):=fun m hm=>Lu.mp fun n=>e m (sw.mpr (by omega)) ((iK hs (by omega)).mpr n)
           have ne:T'≠T:=fun z=>by
            subst z
            exact c (by have:=ll 0 (by omega);rwa [Nat.add_zero] at this)
           refine oM hs fuel (T+1) (fun k hk=>?_) ⟨T',by omega,by omega,c⟩
           have hk:k<d8 mask hh T+bZ mask (aM mask hh T).1+1:=hk
           by_cases z:k<d8 mask hh T
           ·exact hb k z
           ·obtain ⟨m',rfl⟩:∃m',k=d8 mask hh T+m':=⟨k - d8 mask hh T,by omega⟩
            rw [mr (by omega)]
            exact ll m' (by omega)
theorem jI.room {mask:Nat} {o:Array (Option Nat)} {hs:List Int} (L:jI mask o hs) (h:hs.length<=mask):∃j,j<=mask/\¬ dW o j :=by
 refine LH fun n=>?_
 have all:∀j,j<=mask->dW o j:=fun j hj=>Lu.mp fun z=>n ⟨j,hj,z⟩
 have nd:((io (mask+1)).map fun j=>(o.getD j none).getD 0).Nodup :=by
  rw [List.nodup_iff_pairwise_ne,List.pairwise_map]
  refine Px.imp_of_mem (fun {a b} ha hb d7=>?_) (OK (n:=mask+1))
  have ha:=sw.mp ha
  have hb:=sw.mp hb
  obtain ⟨x,ex⟩:=Ll.mp (all a (by omega))
  obtain ⟨y,ey⟩:=Ll.mp (all b (by omega))
  rw [ex,ey]
  intro z
  have z:x=y:=z
  subst z
  have:=L.inj a b x ex ey
  omega
 have:=lj _ (io hs.length) nd fun x hx=>by
  obtain ⟨j,hj,rfl⟩:=l9.mp hx
  have hj:=sw.mp hj
  obtain ⟨y,ey⟩:=Ll.mp (all j (by omega))
  obtain ⟨hh,e,_⟩:=L.wk j y ey
  rw [ey]
  exact sw.mpr (bv.mp e).1
 rw [c8,Db,Db] at this
 omega
theorem iw {o:Array (Option Nat)} {j j':Nat} {v:Option Nat} (hj:j<o.size):(o.setIfInBounds j v).getD j' none=if j=j' then v else o.getD j' none :=by
 simp only [Array.getD_eq_getD_getElem?,Array.getElem?_setIfInBounds,hj,if_true]
 split <;> rfl
theorem jI.snoc {mask:Nat} {o:Array (Option Nat)} {hs:List Int} {hh:Int} {j k:Nat} (L:jI mask o hs) (e:(bb mask hh k).j=j) (hj:j<=mask) (hf:¬ dW o j) (hb:∀k',k'<k->dW o (bb mask hh k').j):jI mask (o.setIfInBounds j (some hs.length)) (hs++[hh]) :=by
 have hl:j<o.size :=by rw [L.size];omega
 have fr:o.getD j none=none:=Lu.mp hf
 have fY:∀j',dW o j'->dW (o.setIfInBounds j (some hs.length)) j':=fun j' z=>by
  unfold dW
  rw [iw hl]
  split
  ·simp
  ·exact z
 have lt:∀j' n,o.getD j' none=some n->n<hs.length:=fun j' n z=>by
  obtain ⟨h2,e2,_⟩:=L.wk j' n z
  exact (bv.mp e2).1
 refine ⟨by rw [Array.size_setIfInBounds,L.size],fun j' n h=>?_,fun a b n ha bX=>?_,fun n hn=>?_⟩
 ·rw [iw hl] at h
  split at h
  ·rename_i z
   cases h
   subst z
   exact ⟨hh,by simp,k,e,fun k' tJ=>fY _ (hb k' tJ)⟩
  ·obtain ⟨h2,e2,w2⟩:=L.wk j' n h
   exact ⟨h2,by rw [Ol (lt j' n h)];exact e2,w2.mono fY⟩
 ·rw [iw hl] at ha bX
  split at ha
  ·rename_i z
   cases ha
   split at bX
   ·rename_i z2;omega
   ·have:=lt b _ bX;omega
  ·split at bX
   ·cases bX
    have:=lt a _ ha;omega
   ·exact L.inj a b n ha bX
 ·rw [xb,N5] at hn
  by_cases z:n=hs.length
  ·subst z
   exact ⟨j,hj,by rw [iw hl,if_pos rfl]⟩
  ·obtain ⟨j',a,b⟩:=L.sur n (by omega)
   refine ⟨j',a,?_⟩
   rw [iw hl,if_neg fun z2=>by subst z2;rw [fr] at b;cases b]
   exact b
theorem E3 {mask:Nat} (F:Full mask) (hashes:Array Int) (h:hashes.size<=mask):∃o,Qs mask hashes=some o/\jI mask o hashes.toList :=by
 unfold Qs
 rw [<- Array.foldl_toList]
 have hl:hashes.toList.length<=mask :=by rw [i0];exact h
 generalize hashes.toList=L at hl
 have key:∀(rest done:List Int) (o:Array (Option Nat)),done++rest=L->jI mask o done->∃o',rest.foldl (init:=some (o,done.length)) (fun acc h=>do
   let (owner,k) <- acc
   let j <- NY mask owner (Ix mask) (wv h % (mask+1)) (wv h)
   pure (owner.setIfInBounds j (some k),k+1))=some (o',L.length)/\jI mask o' L:=fun rest=>by
  induction rest with
  |nil=>
   intro done o e I
   rw [Do] at e
   subst e
   exact ⟨o,rfl,I⟩
  |cons hh rest ih=>
   intro done o e I
   have hd:done.length+(rest.length+1)=L.length :=by rw [<- e,xb,B0]
   obtain ⟨j0,E4,f0⟩:=I.room (by omega)
   obtain ⟨T',jJ,Lr⟩:=mw F hh E4
   obtain ⟨j,k,e1,e2,e3,e4,e5⟩:=oM (hh:=hh) I.size (Ix mask) 0 (fun k hk=>absurd hk (Qa _)) ⟨T',l8 _,by unfold Ix;omega,by rw [Lr];exact f0⟩
   have e1:NY mask o (Ix mask) (wv hh % (mask+1)) (wv hh)=some j:=e1
   have:=ih (done++[hh]) (o.setIfInBounds j (some done.length)) (by rw [GE];exact e) (I.snoc e2 e3 e4 e5)
   rw [xb,N5] at this
   rw [P7]
   simp only [Option.bind_eq_bind,Option.bind_some,e1,Option.pure_def]
   exact this
 obtain ⟨o',e,I⟩:=key L [] (Qd (mask+1) none) rfl ⟨by simp,fun j n z=>by simp [LG] at z,fun a b n z=>by simp [LG] at z,fun n hn=>by simp at hn⟩
 exact ⟨o',by rw [show (some (Qd (mask+1) none,0):Option (Array (Option Nat)×Nat))=some (Qd (mask+1) none,([]:List Int).length) from rfl,e];rfl,I⟩
theorem tK {α β:Type} {f:α->Option β} {g:α->β}:∀{l:List α},(∀x∈l,f x=some (g x))->l.filterMap f=l.map g
 | [],_=>rfl
 |x::l,h=>by rw [GM,h x kt,wP,tK fun y hy=>h y (ff _ hy)]
theorem B6 {w:ii} {mask:Nat} (F:Full mask) (od:mask % 2=1) {es:Array (Int×am)} (h:es.size<mask) (finger moves:Nat) {led:Bool} (hl:led = !w.params.followText "set-order") (plain:Bool) :
  ∃t order,lp.laid mask finger moves led plain (es.map (·.1))=some (t,order)/\(order.filterMap (es[·]?)).toList.Perm es.toList/\GoodT w t (order.filterMap (es[·]?))/\t.mask=mask :=by
 obtain ⟨o,e,L⟩:=E3 F (es.map (·.1)) (by rw [Array.size_map];omega)
 unfold lp.laid
 rw [e]
 obtain ⟨g,hg⟩:∃g:Nat->Int×am,g=fun n=>(es[n]?).getD (0,.none):=⟨_,rfl⟩
 have ge:∀n,n<es.size->es[n]?=some (g n):=fun n hn=>by rw [hg];simp [hn]
 have lt:∀j n,o.getD j none=some n->n<es.size:=fun j n z=>by
  obtain ⟨hh,e2,_⟩:=L.wk j n z
  have:=(bv.mp e2).1
  simpa using this
 obtain ⟨live,my⟩:∃live,live=(io (mask+1)).filterMap fun j=>(o.getD j none).map (j,·):=⟨_,rfl⟩
 have ml:∀j n,(j,n)∈live ↔ j<=mask/\o.getD j none=some n:=fun j n=>by
  rw [my,Os]
  constructor
  ·rintro ⟨a,ha,e⟩
   obtain ⟨b,hb,e2⟩:=r6.mp e
   cases e2
   exact ⟨by have:=sw.mp ha;omega,hb⟩
  ·rintro ⟨a,b⟩
   exact ⟨j,sw.mpr (by omega),by rw [b];rfl⟩
 have eo:(((live.map (·.2)).toArray.filterMap (es[·]?))).toList=live.map fun q=>g q.2 :=by
  rw [Array.toList_filterMap,List.filterMap_map]
  exact tK fun q hq=>ge _ (lt q.1 q.2 ((ml q.1 q.2).mp hq).2)
 have nd:(live.map (·.2)).Nodup :=by
  have e3:live.map (·.2)=(io (mask+1)).filterMap fun j=>o.getD j none :=by
   rw [my,List.map_filterMap]
   congr 1
   funext j
   cases o.getD j none <;> rfl
  rw [e3,List.nodup_iff_pairwise_ne]
  refine Px.filterMap _ (fun a a' Nu b hb b' bX z=>?_) (OK (n:=mask+1))
  subst z
  have:=L.inj a a' b hb bX
  omega
 have pr:(live.map (·.2)).Perm (io es.size):=(List.perm_ext_iff_of_nodup nd PY).mpr fun n=>by
  rw [l9,sw]
  constructor
  ·rintro ⟨q,hq,rfl⟩
   exact lt q.1 q.2 ((ml q.1 q.2).mp hq).2
  ·intro hn
   obtain ⟨j,a,b⟩:=L.sur n (by simpa using hn)
   exact ⟨(j,n),(ml j n).mpr ⟨a,b⟩,rfl⟩
 have sL:(io es.size).map g=es.toList :=by
  refine GG fun i=>?_
  have e2:es.toList[i]?=es[i]?:=by simp
  rw [cr,e2]
  by_cases hi:i<es.size
  ·rw [GS hi,ge i hi];rfl
  ·rw [zn (by rw [Db];omega),NZ (by omega)];rfl
 have pe:(live.map fun q=>g q.2).Perm es.toList :=by
  rw [<- sL]
  have:=pr.map g
  rw [Oa] at this
  exact this
 have sz:live.length=es.size :=by
  have:=pe.length_eq
  rw [c8,i0] at this
  exact this
 refine ⟨{mask,place:=(live.map (·.1)).toArray,dummies:=#[],finger,led,moves,plain},(live.map (·.2)).toArray,by rw [my];rfl,by rw [eo];exact pe,?_,rfl⟩
 have E5:((live.map (·.2)).toArray.filterMap (es[·]?)).size=es.size :=by rw [<- i0,eo,c8,sz]
 have fY:∀j,dW o j->j∈live.map (·.1):=fun j z=>by
  obtain ⟨n,en⟩:=Ll.mp z
  have hj:j<o.size :=by
   refine LH fun c=>?_
   simp [LG,c] at en
  rw [L.size] at hj
  exact l9.mpr ⟨(j,n),(ml j n).mpr ⟨by omega,en⟩,rfl⟩
 refine ⟨⟨rfl,by rw [my];exact yP (fun j=>o.getD j none) _,hl⟩,F,od,fun j hj=>?_,?_,?_,fun q hq=>?_⟩
 ·rw [Og] at hj
  obtain ⟨q,hq,rfl⟩:=l9.mp hj
  exact ((ml q.1 q.2).mp hq).1
 ·show (live.map (·.1)).toArray.size=_
  rw [E5]
  simp [sz]
 ·rw [E5];exact h
 ·rw [Og,eo] at hq
  have hz:(live.map (·.1)).zip (live.map fun q=>g q.2)=live.map fun q=>(q.1,g q.2) :=by
   clear my ml eo nd pr pe sz E5 fY hq
   induction live with
   |nil=>rfl
   |cons a l ih=>rw [wP,wP,wP,List.zip_cons_cons,ih]
  rw [hz] at hq
  obtain ⟨p,hp,rfl⟩:=l9.mp hq
  have IE:=((ml p.1 p.2).mp hp).2
  obtain ⟨hh,e2,w2⟩:=L.wk p.1 p.2 IE
  have aX:=lt _ _ IE
  have:hh=(g p.2).1 :=by
   rw [OV,Array.getElem?_map,ge _ aX] at e2
   exact (i1 e2).symm
  subst this
  exact w2.mono fun j z=>by show j∈(live.map (·.1)).toArray.toList;rw [Og];exact fY j z
theorem GoodT.y0 {w:ii} {t:lp} {es:Array (Int×am)} (g:GoodT w t es) (b:Bool):GoodT w (if b=true then t else {t with plain:=false}) es :=by
 split
 ·exact g
 ·exact ⟨⟨g.ok.dum,g.ok.ris,g.ok.led⟩,g.full,g.odd,g.le,g.sz,g.room,g.wk⟩
theorem uJ {w:ii} (finger moves:Nat):GoodT w (.fresh finger moves (!w.params.followText "set-order")) #[]:=
 ⟨⟨rfl,by simp [i7,Pq],rfl⟩,G8,(by decide:7 % 2=1),fun j hj=>by simp [Pq] at hj,rfl,by simp [Pq],fun q hq=>by simp [Pq] at hq⟩
theorem GoodT.fits {w:ii} {t:lp} {es:Array (Int×am)} (g:GoodT w t es):t.fits es.size=true :=by
 unfold lp.fits lp.fill
 rw [g.ok.dum]
 have:=g.room
 have:=g.sz
 simp
 omega
section
variable {P:gl} {w:ii} {A:l7} {E:am->ar->Prop} {s:ar} {κ:Type} [DecidableEq κ] {knd:KeyKind P w κ}
theorem mB {ks:List κ} {a:ag} {Q:Bool->ar->Prop} (hk:ET knd s.heap ks a) (h:Q false s):wpAny (model P w) A (ofAClassStatement 8 (.ref a)) Q E s :=by
 have hT:=hk.typeIs
 obtain ⟨o,items,n,ho,_,hd,hi⟩:=hk
 unfold ofAClassStatement
 refine ac (MW hT ?_)
 dsimp only
 rw [if_pos (by decide)]
 refine ac (ba ?_)
 simp only [ES,ci,if_false]
 refine ac (N9 ho hd ?_)
 dsimp only
 refine ac ?_
 rw [<- Array.forIn_toList]
 refine PZ _ (fun rest r s'=>r.1=none/\s'=s/\∀v∈rest,carriedByValue v=true) _ ?_ ?_ _ _ ⟨rfl,rfl,hi.byValue⟩
 ·rintro v rest r s' ⟨hr,rfl,fv⟩
  have hv:=fv v kt
  have e:ofAClassStatement 7 v=pure false :=by
   cases v <;> first|(simp [carriedByValue] at hv;done)|(unfold ofAClassStatement;rfl)
  rw [e]
  refine ac (ba ?_)
  simp only [ci,if_false]
  exact ba ⟨rfl,rfl,fun u aT=>fv u (ff _ aT)⟩
 ·rintro ⟨r1,r2⟩ s' ⟨hr,rfl,_⟩
  simp only at hr
  subst hr
  exact ba h
theorem wJ {ks:List κ} {a:ag} (hk:ET knd s.heap ks a):∀(l:List am) {Q:Bool->ar->Prop},(∀v∈l,∃ks b,v=.ref b/\ET knd s.heap ks b)->Q false s->wpAny (model P w) A (searchCouldBeSeen (.ref a) l) Q E s :=by
 intro l Q hl h
 unfold searchCouldBeSeen
 refine ac ?_
 refine PZ _ (fun rest r s'=>r.1=none/\s'=s/\∀v∈rest,∃ks b,v=.ref b/\ET knd s.heap ks b) _ ?_ ?_ _ _ ⟨rfl,rfl,hl⟩
 ·rintro v rest r s' ⟨hr,rfl,fv⟩
  obtain ⟨Nv,b,rfl,hb⟩:=fv v kt
  have tl:=fun u aT=>fv u (ff _ aT)
  dsimp only
  split
  ·exact ba ⟨rfl,rfl,tl⟩
  ·refine ac (wpAny_eqIsQuiet_tuple hk ?_)
   simp only [ES,ci,if_false]
   refine ac (wpAny_eqIsQuiet_tuple hb ?_)
   simp only [ES,ci,if_false]
   refine ac (mB hk ?_)
   simp only [ci,if_false]
   refine ac (mB hb ?_)
   simp only [ci,if_false]
   exact ba ⟨rfl,rfl,tl⟩
 ·rintro ⟨r1,r2⟩ s' ⟨hr,rfl,_⟩
  simp only at hr
  subst hr
  exact ba h
def wK (knd:KeyKind P w κ) (h:ij) (es:Array (Int×am)):Prop:=∀e∈es.toList,∃ks b,e=(tupleKeyHash knd ks,.ref b)/\ET knd h ks b
def uK (knd:KeyKind P w κ) (h:ij) (es:Array (Int×am)) (ks:List κ):Prop:=∃e∈es.toList,∃b,e.2=.ref b/\ET knd h ks b
theorem oN {a:ag} {o:lm} {es:Array (Int×am)} {ep:Nat} {t:lp} {ks:List κ} {p:ag} {K:Nat} {Q:SetFound->ar->Prop} (hu:A.units<cLine)
  (ho:s.heap.get? a=some o) (hd:o.data=.set es ep t) (g:GoodT w t es) (hk:ET knd s.heap ks p) (ha:wK knd s.heap es)
  (hK:¬ dU t (bb t.mask (tupleKeyHash knd ks) K).j) (hb:∀k,k<K->dU t (bb t.mask (tupleKeyHash knd ks) k).j) (uL:K<10 * Ix t.mask)
  (wL:uK knd s.heap es ks->Q (.there none) s) (lR:¬ uK knd s.heap es ks->Q (.free (bb t.mask (tupleKeyHash knd ks) K).j false) s) :
  ∀(fuel k0:Nat) (pD:Option OB),pD.getD (t.probeStart (tupleKeyHash knd ks))=bb t.mask (tupleKeyHash knd ks) k0->k0<=K->K - k0<fuel->
   (∀k i e,k<k0->t.slot (bb t.mask (tupleKeyHash knd ks) k).j=.live i->es[i]?=some e->∀b,e.2=.ref b->¬ ET knd s.heap ks b)->
   wpAny (model P w) A (setSearchFrom a (.ref p) (tupleKeyHash knd ks) true fuel pD) Q E s
 |0,k0,pD,_,_,hf,_=>by omega
 |fuel+1,k0,pD,ig,E6,hf,Ae=>by
          unfold setSearchFrom
          refine ac (BS ho hd g.fits ?_)
          dsimp only
          have hg:t.gaveWay=false :=by
           unfold lp.gaveWay
           rw [g.odd]
           rfl
          rw [hg]
          simp only [ci,if_false]
          rw [ig]
          have B7:(∀k i e,k<K->t.slot (bb t.mask (tupleKeyHash knd ks) k).j=.live i->es[i]?=some e->∀b,e.2=.ref b->¬ ET knd s.heap ks b)->¬ uK knd s.heap es ks:=fun hn ⟨e,he,b,eb,bX⟩=>by
           obtain ⟨i,hi,ei⟩:=Pg.mp he
           have cI:i<es.size :=by simpa using hi
           have IG:es[i]?=some e :=by rw [qr cI];simpa using ei
           have IH:i<t.place.size :=by rw [g.sz];exact cI
           have hz:(t.place.toList.zip es.toList)[i]?=some (t.place[i],e):=uu.mpr ⟨by simp [IH],by simpa using IG⟩
           obtain ⟨k,e1,e2⟩:=g.wk _ (im hz)
           obtain ⟨E7,b2,rfl,fM⟩:=ha e he
           cases eb
           have:=bX.inj fM
           subst this
           dsimp only at e1 e2
           have Ls:k<K :=by
            refine LH fun z=>?_
            by_cases z2:K<k
            ·exact hK (e2 K z2)
            ·have:k=K :=by omega
             subst this
             exact hK (by rw [e1];show _∈t.place.toList;simp)
           have ll:dU t t.place[i] :=by show _∈t.place.toList;simp
           obtain ⟨i',s1,s2⟩:=qC g.ok ll
           have fu:i'=i :=by
            have hl:=(Oe.mp s2)
            obtain ⟨hl,hv⟩:=hl
            rcases Nat.lt_trichotomy i' i with z|z|z
            ·have:=gE g.ok.ris z IH;omega
            ·exact z
            ·have:=gE g.ok.ris z hl;omega
           subst fu
           exact hn k i' _ Ls (by rw [e1];exact s1) IG _ rfl fM
          rcases oK g.ok hK hb (10 * Ix t.mask) k0 E6 (by omega) with ⟨k,i,c1,c2,c3,c4,c5,c6⟩|⟨c5,c6⟩
          ·unfold Qt
           rw [c6]
           dsimp only
           obtain ⟨j,hj⟩:∃j,j=(bb t.mask (tupleKeyHash knd ks) k).j:=⟨_,rfl⟩
           have pl:=yZ g.ok c3
           have jK:i<es.size :=by rw [<- g.sz];exact (Oe.mp pl).1
           obtain ⟨E7,b2,ee,fM⟩:=ha es[i] (by simp)
           have ei:es[i]?=some (tupleKeyHash knd E7,.ref b2) :=by rw [qr jK,ee]
           have after:wpAny (model P w) A (do
             let some (_,y):=es[i]?|unsupported "internal:set-entry"
             let equal <- holding [y] (eqBool y (.ref p))
             let (c7,_,t') <- setState a
             if true && equal then return .there none
             let some same:=t'.sameMemory t.moves t.mask|unsupported "set.changed-during-lookup:is-the-new-block-at-the-old-address"
             let G9 <- match (if same then t'.slot (bb t.mask (tupleKeyHash knd ks) k).j else .empty) with
              | .live i'=>match c7[i']? with
               |some (_,y')=>do pure (if <- isSame y' y then some i' else none)
               |none=>pure none
              |_=>pure none
             match G9 with
             |none=>rule "set.search.anew";setSearchFrom a (.ref p) (tupleKeyHash knd ks) true fuel none
             |some i'=>if equal then return .there (some i') else setSearchFrom a (.ref p) (tupleKeyHash knd ks) true fuel (some (bb t.mask (tupleKeyHash knd ks) (k+1)))) Q E s :=by
            rw [ei]
            dsimp only
            refine ac (wl (wpAny_eqBool_tuple hu fM hk ?_))
            refine ac (BS ho hd g.fits ?_)
            dsimp only
            by_cases eq:E7=ks
            ·subst eq
             rw [decide_eq_true rfl,if_pos (by decide)]
             exact ba (wL ⟨es[i],by simp,b2,by rw [ee],fM⟩)
            ·rw [decide_eq_false eq,if_neg (by decide)]
             have Lv:t.sameMemory t.moves t.mask=some true :=by unfold lp.sameMemory;rw [if_pos (by simp)]
             rw [Lv]
             simp only [if_true,c3,ei]
             refine ac (wpAny_isSame_ref_self (ac (ba ?_)))
             simp only [if_true,ci,if_false]
             refine oN hu ho hd g hk ha hK hb uL wL lR fuel (k+1) _ rfl (by omega) (by omega) fun k' i' e' h1 h2 h3 b' h4 h5=>?_
             by_cases z:k'<k0
             ·exact Ae k' i' e' z h2 h3 b' h4 h5
             ·by_cases z2:k'=k
              ·subst z2
               rw [c3] at h2;cases h2
               rw [ei] at h3;cases h3
               cases h4
               exact eq (fM.inj h5)
              ·have hh:=c5 k' i' (by omega) (by omega) h2
               obtain ⟨E8,b3,e3,wM⟩:=ha e' (by have:=OX h3;simpa using this)
               subst e3
               cases h4
               have:=h5.inj wM
               subst this
               refine hh ?_
               show ((es[i']?).map (·.1)).getD 0=_
               rw [h3]
               rfl
           split
           ·refine ac (wJ hk _ (fun v hv=>?_) ?_)
            ·obtain ⟨e,he,rfl⟩:=l9.mp hv
             have Lw:e∈es.toList :=by
              have:=O3.mp he
              have:=(Array.mem_filter.mp this).1
              simpa using this
             obtain ⟨E8,b3,e3,wM⟩:=ha e Lw
             subst e3
             exact ⟨E8,b3,rfl,wM⟩
            ·simp only [ci,if_false]
             exact after
           ·exact after
          ·unfold Qt
           rw [c6]
           dsimp only
           refine ba (lR (B7 fun k i e h1 h2 h3 b h4 h5=>?_))
           by_cases z:k<k0
           ·exact Ae k i e z h2 h3 b h4 h5
           ·have hh:=c5 k i (by omega) h1 h2
            obtain ⟨E8,b3,e3,wM⟩:=ha e (by have:=OX h3;simpa using this)
            subst e3
            cases h4
            have:=h5.inj wM
            subst this
            refine hh ?_
            show ((es[i]?).map (·.1)).getD 0=_
            rw [h3]
            rfl
def qD (knd:KeyKind P w κ) (x:List κ×ag):Int×am:=(tupleKeyHash knd x.1,.ref x.2)
def fw (knd:KeyKind P w κ) (h:ij) (a:ag) (xs:List (List κ×ag)):Prop:=
 ∃o es ep t,h.get? a=some o/\o.ExactSet/\o.data=.set es ep t/\es.toList.Perm (xs.map (qD knd))/\(xs.map (·.1)).Nodup/\GoodT w t es/\(t.mask=7\/t.mask=31)/\es.size * 5<t.mask * 3
theorem fw.bY {h h':ij} {a:ag} {xs:List (List κ×ag)} (x:fw knd h a xs) (k:∀o,h.get? a=some o->h'.get? a=some o):fw knd h' a xs:=
 let ⟨o,es,ep,t,e,r⟩:=x;⟨o,es,ep,t,k o e,r⟩
def qE (xs:List (List κ×ag)) (k:List κ) (p:ag):List (List κ×ag):=if k∈xs.map (·.1) then xs else xs++[(k,p)]
theorem nA {ks:List κ} {a:ag} {Q:Bool->ar->Prop} (hk:ET knd s.heap ks a) (h:∀b,Q b s):wpAny (model P w) A (hashByValue 8 (.ref a)) Q E s :=by
 have hT:=hk.typeIs
 obtain ⟨o,items,n,ho,_,hd,hi⟩:=hk
 unfold hashByValue
 refine ac (KB hT F.slot_tuple_hash.lookup ?_)
 dsimp only
 refine ac (N9 ho hd ?_)
 refine ac ?_
 show wpAny _ _ (forIn items _ _) _ _ s
 rw [<- Array.forIn_toList]
 refine PZ _ (fun rest r s'=>s'=s/\∀v∈rest,carriedByValue v=true) _ ?_ ?_ _ _ ⟨rfl,hi.byValue⟩
 ·rintro v rest r s' ⟨rfl,fv⟩
  have hv:=fv v kt
  have e:∃b,hashByValue 7 v=pure b :=by
   cases v <;> first|(simp [carriedByValue] at hv;done)|exact ⟨_,rfl⟩
  obtain ⟨b,e⟩:=e
  rw [e]
  refine ac (ba ?_)
  cases b
  ·simp only [Pr,if_true]
   exact ba (ba (h _))
  ·simp only [ES,ci,if_false]
   exact ba ⟨rfl,fun u aT=>fv u (ff _ aT)⟩
 ·rintro ⟨r1,r2⟩ s' ⟨rfl,_⟩
  cases r1 with
  |none=>exact ba (h _)
  |some v=>exact ba (h _)
theorem wN {h:ij} {a:ag} {o:lm} {es:Array (Int×am)} {ep:Nat} {t:lp} (ho:h.get? a=some o) (hd:o.data=.set es ep t) (c7:Array (Int×am)) (t':lp) :
  (h.update a (Ph c7 t')).get? a=some {o with data:=.set c7 (ep+1) t'}:=by
 have:=v6 (Ph c7 t') ho (by rw [Qr c7 t' hd];rfl)
 rw [Qr c7 t' hd] at this;exact this
theorem mC {h:ij} {a:ag} {o:lm} {es:Array (Int×am)} {ep:Nat} {t:lp} (ho:h.get? a=some o) (hex:o.ExactSet) (hd:o.data=.set es ep t)
  {c7:Array (Int×am)} {t':lp} {xs:List (List κ×ag)} (hp:c7.toList.Perm (xs.map (qD knd))) (hn:(xs.map (·.1)).Nodup) (g:GoodT w t' c7) (hm:t'.mask=7\/t'.mask=31) (hl:c7.size * 5<t'.mask * 3) :
  (h.update a (Ph c7 t')).get? a=some {o with data:=.set c7 (ep+1) t'}/\fw knd (h.update a (Ph c7 t')) a xs :=by
 have hg:(h.update a (Ph c7 t')).get? a=some {o with data:=.set c7 (ep+1) t'}:=by
  have:=v6 (Ph c7 t') ho (by rw [Qr c7 t' hd];rfl)
  rw [Qr c7 t' hd] at this;exact this
 exact ⟨hg,_,c7,ep+1,t',hg,hex,rfl,hp,hn,g,hm,hl⟩
theorem uM {a:ag} {xs:List (List κ×ag)} {ks:List κ} {p:ag} {Q:Bool->ar->Prop} (hu:A.units<cLine) (hS:fw knd s.heap a xs) (hk:ET knd s.heap ks p) (hx:∀x∈xs,ET knd s.heap x.1 x.2) (Ai:xs.length<9)
  (h:∀h',ut a s.heap h'->fw knd h' a (qE xs ks p)->Q (decide (ks ∉ xs.map (·.1))) {s with heap:=h',toks:=s.toks+(ks.length+1)}):wpAny (model P w) A (setAdd a (.ref p)) Q E s :=by
 unfold setAdd
 refine wl (ac (wpAny_pyHash_tuple hu hk ?_))
 obtain ⟨o,es,ep,t,ho,hex,hd,hp,hn,g,hm,hl⟩:=hS
 unfold setAddHashed setAddHashedIn
 refine wl (ac (BS (s:={s with toks:=s.toks+(ks.length+1)}) ho hd g.fits ?_))
 dsimp only
 have hb:byScan (.ref p) es=false:=rfl
 rw [hb]
 simp only [ci,if_false]
 have hlen:es.size=xs.length :=by rw [<- i0,hp.length_eq,c8]
 have ha:wK knd s.heap es:=fun e he=>by
  obtain ⟨x,qF,rfl⟩:=l9.mp (hp.mem_iff.mp he)
  exact ⟨x.1,x.2,rfl,hx x qF⟩
 have has:uK knd s.heap es ks ↔ ks∈xs.map (·.1) :=by
  constructor
  ·rintro ⟨e,he,b,eb,bX⟩
   obtain ⟨x,qF,rfl⟩:=l9.mp (hp.mem_iff.mp he)
   cases eb
   exact l9.mpr ⟨x,qF,(hx x qF).inj bX⟩
  ·intro m
   obtain ⟨x,qF,rfl⟩:=l9.mp m
   exact ⟨_,hp.mem_iff.mpr (l9.mpr ⟨x,qF,rfl⟩),x.2,rfl,hx x qF⟩
 have mD:∃j,j<=t.mask/\¬ dU t j :=by
  refine LH fun n=>?_
  have all:∀j,j<=t.mask->dU t j:=fun j hj=>Lu.mp fun z=>n ⟨j,hj,z⟩
  have:=lj (io (t.mask+1)) t.place.toList PY fun j hj=>all j (by have:=sw.mp hj;omega)
  rw [Db,i0,g.sz] at this
  have:=g.room
  omega
 obtain ⟨j0,E4,f0⟩:=mD
 obtain ⟨K,k1,k2,k3⟩:=EZ g.full (tupleKeyHash knd ks) E4 f0
 have Ke:K<10 * Ix t.mask :=by unfold Ix;omega
 unfold setSearch
 refine ac (oN (s:={s with toks:=s.toks+(ks.length+1)}) hu ho hd g hk ha k2 k3 Ke (fun hh=>?_) (fun hh=>?_) 100000 0 none rfl (l8 _) (by rcases hm with z|z <;> rw [z] at k1 <;> omega) fun k i e z=>absurd z (Qa _))
 ·have tL:=has.mp hh
  have:=h s.heap (ut.refl a s.heap) (by unfold qE;rw [if_pos tL];exact ⟨o,es,ep,t,ho,hex,hd,hp,hn,g,hm,hl⟩)
  rw [decide_eq_false (fun z=>z tL)] at this
  exact ba this
 ·have tL:ks ∉ xs.map (·.1):=fun z=>hh (has.mpr z)
  have Kf:qE xs ks p=xs++[(ks,p)] :=by unfold qE;rw [if_neg tL]
  have key:∀h',ut a s.heap h'->fw knd h' a (xs++[(ks,p)])->Q true {s with heap:=h',toks:=s.toks+(ks.length+1)}:=fun h' sX ja=>by
   have:=h h' sX (by rw [Kf];exact ja)
   rw [decide_eq_true tL] at this
   exact this
  have le:=EW t.mask (tupleKeyHash knd ks) K
  have Lx:(es.size+1) * 5<=t.mask * 3+4 :=by omega
  have g1:=g.put (x:=.ref p) k2 k3 le (by rcases hm with z|z <;> rw [z] at Lx ⊢ <;> omega)
  generalize (bb t.mask (tupleKeyHash knd ks) K).j=j at g1 k2 le
  dsimp only
  refine ac (BS (s:={s with toks:=s.toks+(ks.length+1)}) ho hd g.fits ?_)
  dsimp only
  have uN:(tz es (t.put j).2 (tupleKeyHash knd ks,lc p)).toList.Perm ((xs++[(ks,p)]).map (qD knd)) :=by
   refine (jH es _ _).trans ?_
   rw [AE]
   refine NU.trans (NU.cons _ hp) ?_
   exact (List.perm_append_comm (l₁:=[qD knd (ks,p)]) (l₂:=xs.map (qD knd)))
  have II:((xs++[(ks,p)]).map (·.1)).Nodup :=by
   rw [AE]
   exact List.nodup_append.mpr ⟨hn,by simp,fun a ha b hb=>by rw [wP,O8,rc] at hb;rw [hb];exact fun z=>tL (by rw [<- show a=ks from z];exact ha)⟩
  have tM:(tz es (t.put j).2 (tupleKeyHash knd ks,lc p)).size=es.size+1 :=by
   rw [<- i0,uN.length_eq,c8,xb,N5,hlen]
  have tm:(t.put j).1.mask=t.mask:=rfl
  generalize (t.put j).1=t1 at g1 tm ⊢
  generalize tz es (t.put j).2 (tupleKeyHash knd ks,lc p)=jL at g1 uN tM ⊢
  have fin:∀b:Bool,wpAny (model P w) A (do
    storeSet a jL (if b=true then t1 else {t1 with plain:=false})
    if (!false && (if b=true then t1 else {t1 with plain:=false}).tooFull)=true then setRelay a (lp.grown (es.size+1))
    pure true) Q E {s with toks:=s.toks+(ks.length+1)}:=fun b=>by
   have g2:=g1.y0 b
   have Au:(if b=true then t1 else {t1 with plain:=false}).mask=t.mask :=by split <;> exact tm
   generalize (if b=true then t1 else {t1 with plain:=false})=t2 at g2 Au ⊢
   have fl:t2.fill=es.size+1 :=by unfold lp.fill;rw [g2.ok.dum,g2.sz,tM];rfl
   have big:(1000:Nat)<sizeLine :=by decide
   have IJ:jL.size<=sizeLine :=by rw [tM];omega
   refine ac (wpAny_storeSet_of ho hd ?_ IJ)
   have tf:t2.tooFull=decide ((es.size+1) * 5 ≥ t.mask * 3) :=by unfold lp.tooFull;rw [fl,Au]
   rw [tf]
   by_cases mD:(es.size+1) * 5 ≥ t.mask * 3
   ·rw [decide_eq_true mD]
    have e4:es.size=4/\t.mask=7 :=by rcases hm with z|z <;> rw [z] at mD hl ⊢ <;> omega
    rw [e4.1]
    simp only [Pr,Of,if_true]
    have Av:=wN ho hd jL t2
    unfold setRelay
    refine ac (ac (BS Av rfl g2.fits ?_))
    dsimp only
    have mj:lp.grown (4+1)=20:=rfl
    have IK:lp.sizeAbove 20=32:=rfl
    obtain ⟨t3,order,l1,l2,l3,l4⟩:=B6 EX rfl (es:=jL) (by rw [tM];omega) t2.finger (t2.movedTo 31) g2.ok.led t2.plain
    have Ly:t2.relaid (jL.map (·.1)) 20=some (t3,order) :=by
     unfold lp.relaid
     rw [IK]
     exact l1
    have E9:(order.filterMap (jL[·]?)).size=jL.size :=by rw [<- i0,l2.length_eq,i0]
    rw [mj,IK,if_neg (by omega),Ly]
    refine ac ?_
    show wpAny _ _ (if (order.filterMap (jL[·]?)).size != jL.size then unsupported "internal:set-table-lost-an-element" >>= fun _=>pure (order.filterMap (jL[·]?),t3) else pure (order.filterMap (jL[·]?),t3)) _ _ _
    rw [if_neg (by rw [E9];simp)]
    refine ba ?_
    dsimp only
    refine wpAny_storeSet_of Av rfl ?_ (by rw [E9];exact IJ)
    obtain ⟨_,Lz⟩:=mC (knd:=knd) (xs:=xs++[(ks,p)]) Av hex rfl (l2.trans uN) II l3 (.inr l4) (by rw [E9,tM,l4];omega)
    exact ba (key _ ((xy s.heap a _).trans (xy _ a _)) Lz)
   ·rw [decide_eq_false mD]
    simp only [Bool.and_false,ci,if_false]
    obtain ⟨Av,LA⟩:=mC (knd:=knd) (xs:=xs++[(ks,p)]) ho hex hd uN II g2 (by rw [Au];exact hm) (by rw [tM,Au];omega)
    exact ac (ba (ba (key _ (xy s.heap a _) LA)))
  split
  ·exact ac (nA hk fun b=>fin b)
  ·exact ac (ba (fin true))
end
section
variable {P:gl} {w:ii} {A:l7} {E:am->ar->Prop} {s:ar}
abbrev Aw (xs:List am):Nat->am->Prop:=fun i v=>xs[i]?=some v
theorem B8 {xs:List am} {acc:Array am} (h:ItemsOf (Aw xs) acc xs.length):acc.toList=xs :=by
 obtain ⟨hs,hi⟩:=h
 refine GG fun i=>?_
 have e2:acc.toList[i]?=acc[i]?:=by simp
 rw [e2]
 by_cases hl:i<xs.length
 ·have:=hi i acc[i] (qr (by omega))
  rw [qr (by omega)]
  exact this.symm
 ·rw [NZ (by omega),zn (by omega)]
theorem Ha {I a:ag} {es:Array (Int×am)} {ep:Nat} {t:lp} (hh:A.handled=none) (c9:a≠I) (hd:w.params.followText "set-order" = false->(!t.plain && decide (es.size > 1))=false) :
  WalksS P w A I [I,a] [I] (fun a b=>b=a) ((dB w a ep es).map (·.2)).length (Aw ((dB w a ep es).map (·.2)))
   (fun i s=>gG P w s.heap a es ep t/\∃slot:Nat,cV s.heap I a (.int slot 0) i es.size ep/\(w.params.followText "set-order" = false->jp t.place slot=i)) where
 sub:=fun b hb=>by simp at hb;simp [hb]
 grefl:=fun _=>rfl
 gtrans:=fun _ _ _ h1 h2=>h2.trans h1
 frame:=fun i s h' _ st _ hk=>⟨st.1.bY fun o e=>hk a (by simp) o e,let ⟨slot,h1,h2⟩:=st.2;⟨slot,h1.bY fun o e=>hk I (by simp) o e,h2⟩⟩
 item:=fun i s Q E hi st hQ=>by
  obtain ⟨hE,slot,hit,hb⟩:=st
  have hl:i<(dB w a ep es).length :=by simpa using hi
  have wO:i<es.size :=by rw [<- i0,<- (iH w a ep es).length_eq];exact hl
  have dg:i<t.place.size :=by
   have:=hE.fits
   simp only [lp.fits,xw,beq_iff_eq] at this
   rw [this.1];exact wO
  refine BM (next:=if w.params.followText "set-order" = true then slot else t.place[i]+1) (x:=((dB w a ep es)[i]).2) hit hE hd (fun bX=>?_) (fun bX=>?_) (fun h' y1 hs=>hQ _ _ (by show (List.map _ _)[i]?=_;rw [cr,ap hl];rfl) ⟨hE.bY fun o e=>by rw [hs.2 a c9];exact e,_,y1,fun bX=>?_⟩ ⟨fun b o hb e=>by rw [hs.2 b (fun z=>hb (by simp [z]))];exact e,rfl,rfl,rfl,br _⟩)
  ·rw [if_pos bX]
   have e1:dB w a ep es=(pickOrder (w.params.setOrder a ep) es).toList :=by unfold dB;rw [if_pos bX]
   have e2:(pickOrder (w.params.setOrder a ep) es)[i]?=some (dB w a ep es)[i] :=by
    rw [<- OV,<- e1]
    exact ap hl
   rw [e2]
   rfl
  ·rw [if_neg (by rw [bX];decide),hb bX,qr wO,qr dg]
   have e1:dB w a ep es=es.toList :=by unfold dB;rw [if_neg (by rw [bX];decide)]
   have e2:(dB w a ep es)[i]=es[i] :=by simp [e1]
   rw [e2]
  ·rw [if_neg (by rw [bX];decide)]
   exact uD hE.tab.ris dg
 done:=fun s Q E st hQ=>by
  obtain ⟨hE,slot,hit,hb⟩:=st
  have hl:((dB w a ep es).map (·.2)).length=es.size :=by rw [c8,(iH w a ep es).length_eq,i0]
  rw [hl] at hit hb
  refine BO hh hit hE hd (fun bX=>?_) (fun bX=>?_) (fun h' k=>hQ _ ⟨fun b o hb e=>k b o (fun z=>hb (by simp [z])) e,rfl,rfl,rfl,br _⟩)
  ·have e1:(pickOrder (w.params.setOrder a ep) es)[es.size]?=none :=by
    refine NZ ?_
    rw [<- i0,(oD _ es).length_eq,i0]
    exact br _
   rw [e1]
   rfl
  ·rw [hb bX,NZ (br _)]
 self:=fun i s Q E st hQ=>let ⟨_,slot,hit,_⟩:=st;si_self hit hQ
theorem Fb {I a T:ag} {es:Array (Int×am)} {ep:Nat} {t:lp} {ps:List Nat} (hh:A.handled=none) (c9:a≠I) (Kg:T≠I) (wQ:∀j∈ps,j<es.size) (dg:ps.length=es.size) :
  WalksS P w A I [I,a,T] [I] (fun a b=>b=a) (ps.map fun j=>(es.getD j (0,.none)).2).length (Aw (ps.map fun j=>(es.getD j (0,.none)).2))
   (fun i s=>gG P w s.heap a es ep t/\s.heap.IsTuple T (ps.map fun (i:Nat)=>rawInt i).toArray/\cV s.heap I a (.ref T) i es.size ep) where
 sub:=fun b hb=>by simp at hb;simp [hb]
 grefl:=fun _=>rfl
 gtrans:=fun _ _ _ h1 h2=>h2.trans h1
 frame:=fun i s h' _ st _ hk=>⟨st.1.bY fun o e=>hk a (by simp) o e,st.2.1.at fun o e=>hk T (by simp) o e,st.2.2.bY fun o e=>hk I (by simp) o e⟩
 item:=fun i s Q E hi st hQ=>by
  obtain ⟨hE,hT,hit⟩:=st
  have hl:i<ps.length :=by simpa using hi
  have hj:=wQ _ (Nl hl)
  have hx:es[ps[i]]?=some es[ps[i]]:=qr hj
  have hg:es.getD ps[i] (0,.none)=es[ps[i]] :=by simp [LG,hj]
  refine BP hit hE hT (ap hl) hx fun h' y1 hs=>hQ _ _ (by show (List.map _ _)[i]?=_;rw [cr,ap hl,NT,hg]) ⟨hE.bY fun o e=>by rw [hs.2 a c9];exact e,hT.at fun o e=>by rw [hs.2 T Kg];exact e,y1⟩ ⟨fun b o hb e=>by rw [hs.2 b (fun z=>hb (by simp [z]))];exact e,rfl,rfl,rfl,br _⟩
 done:=fun s Q E st hQ=>by
  obtain ⟨hE,hT,hit⟩:=st
  have hl:(ps.map fun j=>(es.getD j (0,.none)).2).length=ps.length:=c8 _
  rw [hl] at hit
  exact BQ hh hit hE hT (br _) fun h' k=>hQ _ ⟨fun b o hb e=>k b o (fun z=>hb (by simp [z])) e,rfl,rfl,rfl,br _⟩
 self:=fun i s Q E st hQ=>si_self st.2.2 hQ
theorem sf {a:ag} {o:lm} {es:Array (Int×am)} {ep:Nat} {t:lp} {Q:am->ar->Prop} (ho:s.heap.get? a=some o) (hex:o.ExactSet) (hd:o.data=.set es ep t) (hb:es.size<scanBound) (hf:t.fits es.size=true) (ht:da w t)
  (hQ:∀(I:ag) (h':ij) (d':Drawn) (xs:List am) (fp:List ag) (St:Nat->ar->Prop),xs.Perm (es.toList.map (·.2))->(∀b o,s.heap.get? b=some o->h'.get? b=some o)->s.heap.objs.size<=I->(∀b∈fp,b=a\/s.heap.objs.size<=b)->
   (∀A':l7,A'.handled=none->WalksS P w A' I fp [I] (fun a b=>b=a) xs.length (Aw xs) St)->St 0 {s with heap:=h',drawn:=d'}->Q (.ref I) {s with heap:=h',drawn:=d'}):wpAny (model P w) A (pyIter (.ref a)) Q E s :=by
 have sU:s.TypeIs (.ref a) "set" := ⟨o,ho,hex.1⟩
 have hE:gG P w s.heap a es ep t:=⟨⟨o,ho,hex,hd⟩,hf,ht⟩
 have aX:=gc ho
 refine PL sU F.slot_set_iter (rb F.slot_set_iter sU rZ ?_ (F.args_set_iter_1 _))
 unfold ma.«frozenset.__iter__»
 refine ac (m:=ma.Frozenset.slot0 "__iter__" _) (ba ?_)
 unfold ma.Frozenset.sizeOf
 refine ac (ac (NH ho hd hf (ba ?_)))
 refine ac ?_
 unfold setDrawn
 refine ac (BS ho hd hf ?_)
 dsimp only
 refine ac (jv ?_)
 refine ba ?_
 by_cases oO:(!w.params.followText "set-order" && (!t.plain && decide (es.size > 1)))=true
 ·show wpAny _ _ (if (!w.params.followText "set-order" && (!t.plain && decide (es.size > 1)))=true then _ else _) _ _ s
  rw [if_pos oO]
  refine ac (ju _ _ (by simp) fun ps d wQ=>?_)
  have dg:ps.length=es.size :=by rw [wQ.length_eq,Db]
  refine ac (wpAny_newTuple ?_ (by rw [c8,dg];exact fits_of_scanBound hb))
  refine ac (wpAny_setEpoch_of (o:=o) (bn _ ho) hd hf ?_)
  unfold newFields
  refine ac (mT ?_ (by size_fits))
  have hsz:∀u:lm,(s.heap.push u).objs.size=s.heap.objs.size+1:=fun u=>N6 _ _
  have hit:cV ((s.heap.push {cls:=.type "tuple",data:=.seq (ps.map fun (i:Nat)=>rawInt i).toArray}).push {cls:=.type "set_iterator",data:=.fields #[.ref s.heap.objs.size,.int (0:Nat) 0,.ref a,.int es.size 0,.int ep 0]}) (s.heap.push {cls:=.type "tuple",data:=.seq (ps.map fun (i:Nat)=>rawInt i).toArray}).objs.size a (.ref s.heap.objs.size) 0 es.size ep:=⟨_,hX _ rfl,rfl,rfl⟩
  have LC:(ps.map fun j=>(es.getD j (0,.none)).2).Perm (es.toList.map (·.2)) :=by
   refine (wQ.map _).trans ?_
   have:(io es.size).map (fun j=>(es.getD j (0,.none)).2)=es.toList.map (·.2) :=by
    refine List.ext_getElem (by simp) fun n h1 h2=>?_
    have pL:n<es.size :=by simpa using h1
    simp [LG,pL]
   rw [this]
  refine ba ⟨_,rfl,"set_iterator",_,cV.typeIs (s:={s with heap:=_,drawn:=d}) hit,bE.lookup,?_⟩
  refine hQ _ _ d _ [(s.heap.push {cls:=.type "tuple",data:=.seq (ps.map fun (i:Nat)=>rawInt i).toArray}).objs.size,a,s.heap.objs.size] _ LC (fun b o e=>bn _ (bn _ e)) (by rw [hsz];exact FF _) (fun b hb=>?_) (fun A' hA=>Fb (t:=t) (ep:=ep) hA ?_ ?_  (fun j hj=>by simpa using wQ.mem_iff.mp hj) dg) ⟨hE.bY fun o e=>bn _ (bn _ e),⟨_,bn _ (hX _ rfl),rfl,_,rfl⟩,hit⟩
  ·simp only [lw,AN,or_false] at hb
   rcases hb with rfl|rfl|rfl
   ·exact .inr (by rw [hsz];exact FF _)
   ·exact .inl rfl
   ·exact .inr (br _)
  ·rw [hsz];exact l6 (Lo aX)
  ·rw [hsz];exact l6 (Oc _)
 ·show wpAny _ _ (if (!w.params.followText "set-order" && (!t.plain && decide (es.size > 1)))=true then _ else _) _ _ s
  rw [if_neg oO]
  refine ac (ba (ac (wpAny_setEpoch_of ho hd hf ?_)))
  unfold newFields
  refine ac (mT ?_ (by size_fits))
  have hit:cV (s.heap.push {cls:=.type "set_iterator",data:=.fields #[.int (0:Nat) 0,.int (0:Nat) 0,.ref a,.int es.size 0,.int ep 0]}) s.heap.objs.size a (.int (0:Nat) 0) 0 es.size ep:=⟨_,hX _ rfl,rfl,rfl⟩
  refine ba ⟨_,rfl,"set_iterator",_,cV.typeIs (s:={s with heap:=_}) hit,bE.lookup,?_⟩
  refine hQ _ _ s.drawn _ [s.heap.objs.size,a] _ ((iH w a ep es).map (·.2)) (fun b o e=>bn _ e) (br _) (fun b hb=>?_) (fun A' hA=>Ha (t:=t) (ep:=ep) hA (l6 aX)  fun hb=>?_) ⟨hE.bY fun o e=>bn _ e,0,hit,fun _=>uE ht.ris⟩
  ·simp only [lw,AN,or_false] at hb
   rcases hb with rfl|rfl
   ·exact .inr (br _)
   ·exact .inl rfl
  ·rw [hb] at oO
   simpa using oO
theorem qG {a:ag} {o:lm} {es:Array (Int×am)} {ep:Nat} {t:lp} {QL:List am->ar->Prop} (hh:A.handled=none) (ho:s.heap.get? a=some o) (hex:o.ExactSet) (hd:o.data=.set es ep t) (hb:es.size<scanBound) (hf:t.fits es.size=true) (ht:da w t) (hz:es.size<=sizeLine)
  (hQ:∀us h' d' tk,us.Perm (es.toList.map (·.2))->(∀b o,s.heap.get? b=some o->h'.get? b=some o)->QL us {s with heap:=h',drawn:=d',toks:=tk}):wpAny (model P w) A (collect (.ref a)) QL E s :=by
 have aX:a<s.heap.objs.size:=gc ho
 have wR:s.heap.objs.size≠a:=Mn aX
 unfold collect
 refine ac (wpAny_runValue (DD F.entry_proto_collect ?_))
 rw [Cs F.plain_proto_collect _]
 show wpAny _ A.in1 (newList []>>=fun l=>again (.builtin "list.__iadd__" ⟨[l,.ref a],[]⟩)) _ _ s
 refine ac (mT ?_)
 refine ba ⟨KT OG _,DD F.entry_list_iadd ?_⟩
 rw [Cs OG _]
 have tN:(s.heap.push {cls:=.type "list",data:=.seq ([]:List am).toArray}).get? a=some o:=bn _ ho
 have T1:PD {s with heap:=s.heap.push {cls:=.type "list",data:=.seq ([]:List am).toArray}} (.ref a) "set" := ⟨o,tN,hex.1⟩
 show wpAny _ A.in1 (IR (.ref s.heap.objs.size) (.ref a) (.ref s.heap.objs.size)) _ _ _
 unfold IR
 refine ac (MW T1 ?_)
 have h1:No (.ref s.heap.objs.size) (.ref a)=false :=by simp [No,wR]
 have h2:(AM "set" == AM "list")=false :=by decide
 have h3:(AM "set" == AM "tuple")=false :=by decide
 simp only [h1,h2,h3,Bool.or_false,ci,if_false]
 refine ac (sf (s:={s with heap:=s.heap.push {cls:=.type "list",data:=.seq ([]:List am).toArray}}) tN hex hd hb hf ht ?_)
 intro I h' d' xs fp St hp hk hI LD hW ig
 have T2:PD {s with heap:=h',drawn:=d'} (.ref a) "set" := ⟨o,hk a o tN,hex.1⟩
 refine ac (wl (sd T2 ?_))
 show wpAny _ A.in1 (if _=true then _ else _) _ _ _
 rw [if_pos (by kernel_rfl)]
 show wpAny _ A.in1 (rule "list.extend.makes-room" >>= fun _=>ma.List.listTouch (.ref s.heap.objs.size)>>=fun _=>
  again (.builtin "list.extend.loop" ⟨[.ref s.heap.objs.size,.ref I,.ref s.heap.objs.size],[]⟩)) _ _ _
 refine ac (IF ?_)
 have Ax:h'.get? s.heap.objs.size=some {cls:=.type "list",data:=.seq ([]:List am).toArray}:=hk _ _ (hX _ rfl)
 refine ac ?_
 show wpAny _ A.in1 (updateSeq s.heap.objs.size (·.push .none)>>=fun _=>updateSeq s.heap.objs.size (·.pop)) _ _ _
 refine ac (wpAny_updateSeq Ax rfl ?_)
 have Ay:=v6 (Co (·.push u7)) Ax rfl
 refine wpAny_updateSeq Ay rfl ?_
 have Hb:=v6 (Co (·.pop)) Ay rfl
 have IL:∀b o,b≠s.heap.objs.size->h'.get? b=some o->((h'.update s.heap.objs.size (Co (·.push u7))).update s.heap.objs.size (Co (·.pop))).get? b=some o:=
  fun b o hb e=>(wr _ _ (BN hb)).trans ((wr _ _ (BN hb)).trans e)
 have Fc:(s.heap.push {cls:=.type "list",data:=.seq ([]:List am).toArray}).objs.size=s.heap.objs.size+1:=N6 _ _
 have Az:s.heap.objs.size ∉ fp:=fun hm=>by
  rcases LD _ hm with z|z
  ·exact wR z
  ·have z':s.heap.objs.size+1<=s.heap.objs.size :=by rw [<- Fc];exact z
   exact absurd z' (Nat.not_succ_le_self _)
 have W:=hW A.in1.in1 (by simp [hh])
 have hl:xs.length<=sizeLine :=by rw [hp.length_eq,c8,i0];exact hz
 refine ba ⟨KT F.plain_extend_loop _,codeAny_extend_loopS (W.of_in1) hl _ Az _ xs.length 0 _ _ _ rfl (l8 _) (W.frame 0 ({s with heap:=h',drawn:=d'}:ar) _ s.toks ig (br _) fun b hb o e=>IL b o (fun h=>Az (h▸hb)) e) Hb (ItemsOf.nil _) fun s' di c' hm ja nB=>?_⟩
 show wpAny _ A (load s.heap.objs.size>>=_) _ _ s'
 refine ac (wpAny_load ja ?_)
 refine ba ?_
 obtain ⟨h2,g2,d2,Fd,os2⟩:=s'
 have eg:g2=s.gens:=hm.gens
 have ed:d2=d':=hm.drawn
 have eo:os2=s.os:=hm.os
 subst eg;subst ed;subst eo
 refine hQ _ h2 _ Fd (by rw [B8 nB];exact hp) fun b o e=>hm.heap b o ?_ (IL b o (l6 (gc e)) (hk b o (bn _ e)))
 have hb:b<s.heap.objs.size:=gc e
 simp only [lw,AN,or_false,not_or]
 refine ⟨l6 hb,fun z=>?_⟩
 have z':s.heap.objs.size+1<=b :=by rw [<- Fc,z];exact hI
 exact absurd (l5 (Lo hb) z') (KM _)
end
inductive Dv where
 |int (i:Int)|bl (b:Bool)|aj|str (z:cb)|tup (xs:List Dv)|lst (xs:List Dv)|set (ns:List Int)|ptr (a:ag)|exc (C:ag)|bc (ns:List Int)|raw (v:V)|dk (ks:List Key) (ds:List Dv)|dt (ks:List (List Key)) (ds:List Dv)|cf (f:ag) (o:lm) (c:ag) (oc:lm) (vs:List V) (ds:List Dv)
inductive Mo where
 |lst (xs:List Dv)|cy|dk (ks:List Key) (ds:List Dv)|dt (ks:List (List Key)) (ds:List Dv)|ts (ks:List (List Int)) (ds:List Dv)
abbrev Mh:=ag->Option Mo
structure d9 where
 g:List ag
 l:List (ag×cb)
instance:Membership ag d9:=⟨fun t a=>a∈t.g⟩
def AA:HO->Bool
 | .bO _=>true
 | .lam _=>true
 | .dK _=>true
 | .dT _=>true
 |_=>false
def wU:HO->Bool
 | .bO _=>false
 |_=>true
def y2:HO->Bool
 | .dK _=>true
 | .dT _=>true
 |_=>false
theorem Rd.map {H H':Hp} {a:ag} {u:HO} (e:Rd H a u) (k:∀x,H a=some x->H' a=some x):Rd H' a u:=e.imp (k _) fun ⟨o,h⟩=>⟨o,k _ h⟩
theorem Rd.Fe {H H':Hp} {a:ag} {u:HO} (e:Rd H a u) (hu:y2 u=true) (k:∀x,wU x=true->H a=some x->H' a=some x):Rd H' a u:=e.imp (k _ (by cases u <;> first|rfl|cases hu)) fun ⟨o,h⟩=>⟨o,k _ rfl h⟩
theorem Rd.there {H:Hp} {a:ag} {u:HO} (e:Rd H a u):∃x,H a=some x:=e.elim (fun h=>⟨_,h⟩) fun ⟨o,h⟩=>⟨_,h⟩
def Tg (o o':HO):Prop:=(∃ps ir:Array am,o=.bO ps/\o'=.bO ir/\Ov ir.toList)\/(∃ps ir:Array am,o=.lam ps/\o'=.lam ir)\/(y2 o=true/\∃ob,o'=.dO ob o)
theorem Tg.trans {a b c:HO} (x:Tg a b) (y:Tg b c):Tg a c :=by
 rcases x with ⟨p,q,rfl,rfl,t⟩|⟨p,q,rfl,rfl⟩|⟨hd,ob,rfl⟩
 ·rcases y with ⟨p2,q2,e,rfl,t2⟩|⟨p2,q2,e,_⟩|⟨e,_⟩
  ·exact .inl ⟨p,q2,rfl,rfl,t2⟩
  ·cases e
  ·cases e
 ·rcases y with ⟨p2,q2,e,_⟩|⟨p2,q2,e,rfl⟩|⟨e,_⟩
  ·cases e
  ·exact .inr (.inl ⟨p,q2,rfl,rfl⟩)
  ·cases e
 ·rcases y with ⟨p2,q2,e,_⟩|⟨p2,q2,e,_⟩|⟨e,_⟩ <;> cases e
theorem Tg.tab {a b:HO} (x:Tg a b):AA a=true :=by
 rcases x with ⟨p,q,rfl,rfl,_⟩|⟨p,q,rfl,rfl⟩|⟨hd,ob,rfl⟩
 ·rfl
 ·rfl
 ·cases a <;> first|rfl|cases hd
def Kh (H:Hp) (q:cb) (cv:am):Prop:=∃(c:ag) (oc:lm) (u:HO) (vs:Array am) (t:Tok),cv=lc c/\H c=some (.dO oc u)/\oc.data=.fields vs/\vs[1]?=some (Qn q t)
def Lm (H:Hp) (p:ag×cb):Prop:=∃ps:Array am,H p.1=some (.lam ps)/\Ov ps.toList/\∀pos cv,codeAmong pos ps.toList=some cv->Kh H p.2 cv
theorem Lm.keep {H H':Hp} {p:ag×cb} (h:Lm H p) (k1:∀ps,H p.1=some (.lam ps)->H' p.1=some (.lam ps)) (k2:∀c oc u,H c=some (.dO oc u)->H' c=some (.dO oc u)):Lm H' p :=by
 obtain ⟨ps,e,t,c⟩:=h
 refine ⟨ps,k1 _ e,t,fun pos cv q=>?_⟩
 obtain ⟨a,oc,u,vs,tk,e1,e2,r⟩:=c pos cv q
 exact ⟨a,oc,u,vs,tk,e1,k2 _ _ _ e2,r⟩
structure Bz where
 P:gl
 w:ii
 K:bi
 tb:d9
 hid:List ag
def Fz (β:Bz) (M:Mh) (a:ag):Prop:=M a=none/\a ∉ β.hid
def Kl (K:bi) (a:ag) (ns:List Int):Prop:=∃(o:lm) (its:Array am) (n:Nat),K.lookup a=some o/\o.cls=.type "list" /\ o.dict=none/\o.data=.seq its n/\its.size<=sizeLine/\Vals (ns.map V.int) its.toList
inductive Rz (β:Bz) (M:Mh) (H:Hp):V->Dv->Prop where
 |int (i:Int):Rz β M H (.int i) (.int i)
 |bl (b:Bool):Rz β M H (.bl b) (.bl b)
 |aj:Rz β M H .aj .aj
 |str (z:cb):Rz β M H (.str z) (.str z)
 |tup {a:ag} {vs:List V} {ds:List Dv} (m:Fz β M a) (e:H a=some (.tup vs)) (hl:vs.length=ds.length) (h:∀(i:Nat) (v:V) (d:Dv),vs[i]?=some v->ds[i]?=some d->Rz β M H v d):Rz β M H (.ref a) (.tup ds)
 |lst {a:ag} {vs:List V} {ds:List Dv} (m:Fz β M a) (e:H a=some (.lst vs)) (hl:vs.length=ds.length) (h:∀(i:Nat) (v:V) (d:Dv),vs[i]?=some v->ds[i]?=some d->Rz β M H v d):Rz β M H (.ref a) (.lst ds)
 |set {a:ag} {ns:List Int} (m:Fz β M a) (e:H a=some (J7 β.P β.w a ns)):Rz β M H (.ref a) (.set ns)
 |ptr {a:ag} (m:(M a).isSome=true):Rz β M H (.ref a) (.ptr a)
 |exc {a C:ag} (m:Fz β M a) (e:H a=some (la C a)):Rz β M H (.ref a) (.exc C)
 |bc {a:ag} {o:lm} {ns:List Int} (m:Fz β M a) (e:H a=some (.dO o (.lst (ns.map V.int)))):Rz β M H (.ref a) (.bc ns)
 |bU {a:ag} {ns:List Int} (m:Fz β M a) (e:H a=some (.lst (ns.map V.int))):Rz β M H (.ref a) (.bc ns)
 |bV {a:ag} {ns:List Int} (e:Kl β.K a ns):Rz β M H (.ref a) (.bc ns)
 |raw (v:V):Rz β M H v (.raw v)
 |dk {a:ag} {ks:List Key} {vs:List V} {ds:List Dv} (m:Fz β M a) (e:Rd H a (.dK (ks.zip vs))) (hk:ks.length=vs.length) (hl:vs.length=ds.length) (h:∀(i:Nat) (v:V) (d:Dv),vs[i]?=some v->ds[i]?=some d->Rz β M H v d):Rz β M H (.ref a) (.dk ks ds)
 |dt {a:ag} {ks:List (List Key)} {vs:List V} {ds:List Dv} (m:Fz β M a) (e:Rd H a (.dT (ks.zip vs))) (hk:ks.length=vs.length) (hl:vs.length=ds.length) (h:∀(i:Nat) (v:V) (d:Dv),vs[i]?=some v->ds[i]?=some d->Rz β M H v d):Rz β M H (.ref a) (.dt ks ds)
 |cf {f c:ag} {o oc:lm} {u uc:HO} {vs:List V} {ds:List Dv} (m:Fz β M f) (e:H f=some (.dO o u)) (m2:Fz β M c) (e2:H c=some (.dO oc uc)) (hl:vs.length=ds.length) (h:∀(i:Nat) (v:V) (d:Dv),vs[i]?=some v->ds[i]?=some d->Rz β M H v d):Rz β M H (.ref f) (.cf f o c oc vs ds)
structure aG (β:Bz) (M:Mh) (H:Hp) (vs:List V) (ds:List Dv):Prop where
 len:vs.length=ds.length
 at':∀(i:Nat) (v:V) (d:Dv),vs[i]?=some v->ds[i]?=some d->Rz β M H v d
def gJ:V->ag
 | .ref a=>a
 |_=>0
def jb (P:gl) (w:ii) (a:ag) (aD:List (List Int×V)):HO:=.ext fun h=>fw (intKind P w) h a (aD.map fun x=>(x.1,gJ x.2))
def fZ (β:Bz) (M:Mh) (H:Hp) (a:ag):Mo->Prop
 | .lst ds=>∃vs,H a=some (.lst vs)/\aG β M H vs ds
 | .cy=>G4 H a
 | .dk ks ds=>∃vs,H a=some (.dK (ks.zip vs))/\ks.length=vs.length/\aG β M H vs ds
 | .dt ks ds=>∃vs,H a=some (.dT (ks.zip vs))/\ks.length=vs.length/\aG β M H vs ds
 | .ts ks ds=>∃vs,H a=some (jb β.P β.w a (ks.zip vs))/\ks.length=vs.length/\aG β M H vs ds
def lq:HO->Bool
 | .lst _=>true
 | .set _ _=>true
 | .dK _=>true
 | .dT _=>true
 | .ext _=>true
 | .bO _=>true
 |_=>false
def uO (H:Hp) (a:ag):Prop:=∃o,H a=some o/\lq o=true
theorem uO.upd {H:Hp} {a p:ag} {o:HO} (h:uO H a) (d:H p=none\/lq o=true):uO (upd H p o) a :=by
 obtain ⟨u,e,n⟩:=h
 by_cases z:a=p
 ·subst z
  rcases d with d|d
  ·rw [e] at d;cases d
  ·exact ⟨o,aE,d⟩
 ·exact ⟨u,by rw [af z];exact e,n⟩
structure Mz (β:Bz) (M:Mh) (H:Hp):Prop where
 obj:∀a o,M a=some o->fZ β M H a o
 tabs:Ak β.tb.g H
 hids:∀a∈β.hid,uO H a
 apart:∀a o,M a=some o->a ∉ β.hid
 lams:∀p∈β.tb.l,Lm H p
structure Ey (M:Mh) (H:Hp) (M':Mh) (H':Hp):Prop where
 keep:∀b o,M b=none->H b=some o->H' b=some o\/∃o',Tg o o'/\H' b=some o'
 dom:∀a,(M a).isSome=true->(M' a).isSome=true
 new:∀a o,M a=none->H a=some o->M' a=none
structure Ex (β:Bz) (M:Mh) (H:Hp) (M':Mh) (H':Hp):Prop extends Ey M H M' H' where
 mz:Mz β M' H'
section
variable {β:Bz} {M M1 M2:Mh} {H H1 H2:Hp}
theorem Ey.refl:Ey M H M H:=⟨fun _ _ _ h=>.inl h,fun _ h=>h,fun _ _ h _=>h⟩
theorem Ex.refl (m:Mz β M H):Ex β M H M H:=⟨.refl,m⟩
theorem Ey.trans (x:Ey M H M1 H1) (y:Ey M1 H1 M2 H2):Ey M H M2 H2 :=by
 refine ⟨fun b o hm h=>?_,fun a h=>y.dom a (x.dom a h),fun a o hm h=>?_⟩
 ·have jc:=x.new b o hm h
  rcases x.keep b o hm h with q|⟨o1,t,q⟩
  ·exact y.keep b o jc q
  ·rcases y.keep b _ jc q with q2|⟨o2,t2,q2⟩
   ·exact .inr ⟨o1,t,q2⟩
   ·exact .inr ⟨o2,t.trans t2,q2⟩
 ·have jc:=x.new a o hm h
  rcases x.keep a o hm h with q|⟨o1,t,q⟩
  ·exact y.new a _ jc q
  ·exact y.new a _ jc q
theorem Ex.trans (x:Ex β M H M1 H1) (y:Ex β M1 H1 M2 H2):Ex β M H M2 H2:=⟨x.toEy.trans y.toEy,y.mz⟩
theorem Ey.get (x:Ey M H M1 H1) {b:ag} {o:HO} (m:M b=none) (h:H b=some o) (n:AA o=false):H1 b=some o :=by
 rcases x.keep b o m h with q|⟨o',e,_⟩
 ·exact q
 ·rw [e.tab] at n;cases n
theorem Ey.rd (x:Ey M H M1 H1) {b:ag} {u:HO} (m:M b=none) (h:Rd H b u) (hu:y2 u=true):Rd H1 b u :=by
 rcases h with h|⟨o,h⟩
 ·rcases x.keep b u m h with q|⟨o',t,q⟩
  ·exact .inl q
  ·rcases t with ⟨_,_,rfl,_⟩|⟨_,_,rfl,_⟩|⟨_,ob,rfl⟩
   ·cases hu
   ·cases hu
   ·exact .inr ⟨ob,q⟩
 ·exact .inr ⟨o,x.get m h rfl⟩
theorem Ey.gone (x:Ey M H M1 H1) {b:ag} (h:H1 b=none):M b=none->H b=none:=fun m=>by
 cases e:H b with
 |none=>rfl
 |some o=>
  rcases x.keep b o m e with q|⟨_,_,q⟩ <;> (rw [h] at q;cases q)
theorem Rz.ey (x:Ey M H M1 H1) {v:V} {d:Dv} (h:Rz β M H v d):Rz β M1 H1 v d :=by
 induction h with
 |int i=>exact .int i
 |bl b=>exact .bl b
 |aj=>exact .aj
 |str z=>exact .str z
 |tup m e hl h ih=>exact .tup ⟨x.new _ _ m.1 e,m.2⟩ (x.get m.1 e rfl) hl ih
 |lst m e hl h ih=>exact .lst ⟨x.new _ _ m.1 e,m.2⟩ (x.get m.1 e rfl) hl ih
 |dk m e hk hl h ih=>exact .dk ⟨x.new _ _ m.1 e.there.choose_spec,m.2⟩ (x.rd m.1 e rfl) hk hl ih
 |dt m e hk hl h ih=>exact .dt ⟨x.new _ _ m.1 e.there.choose_spec,m.2⟩ (x.rd m.1 e rfl) hk hl ih
 |cf m e m2 e2 hl h ih=>exact .cf ⟨x.new _ _ m.1 e,m.2⟩ (x.get m.1 e rfl) ⟨x.new _ _ m2.1 e2,m2.2⟩ (x.get m2.1 e2 rfl) hl ih
 |set m e=>exact .set ⟨x.new _ _ m.1 e,m.2⟩ (x.get m.1 e rfl)
 |ptr m=>exact .ptr (x.dom _ m)
 |exc m e=>exact .exc ⟨x.new _ _ m.1 e,m.2⟩ (x.get m.1 e rfl)
 |bc m e=>exact .bc ⟨x.new _ _ m.1 e,m.2⟩ (x.get m.1 e rfl)
 |bU m e=>exact .bU ⟨x.new _ _ m.1 e,m.2⟩ (x.get m.1 e rfl)
 |bV e=>exact .bV e
 |raw v=>exact .raw v
theorem Rz.ex (x:Ex β M H M1 H1) {v:V} {d:Dv} (h:Rz β M H v d):Rz β M1 H1 v d:=h.ey x.toEy
theorem aG.ex (x:Ex β M H M1 H1) {vs:List V} {ds:List Dv} (h:aG β M H vs ds):aG β M1 H1 vs ds:=⟨h.len,fun i v d a b=>(h.at' i v d a b).ex x⟩
theorem aG.nil:aG β M H [] []:=⟨rfl,fun i v d h=>by simp at h⟩
theorem aG.cons {v:V} {d:Dv} {vs:List V} {ds:List Dv} (h:Rz β M H v d) (t:aG β M H vs ds):aG β M H (v::vs) (d::ds):=⟨by simp [t.len],fun i x y a b=>by
 cases i with
 |zero=>simp at a b;subst a b;exact h
 |succ i=>rw [Da] at a b;exact t.at' i x y a b⟩
theorem aG.head {v:V} {d:Dv} {vs:List V} {ds:List Dv} (h:aG β M H (v::vs) (d::ds)):Rz β M H v d:=h.at' 0 v d rfl rfl
theorem aG.tail {v:V} {d:Dv} {vs:List V} {ds:List Dv} (h:aG β M H (v::vs) (d::ds)):aG β M H vs ds:=⟨by simpa using h.len,fun i x y a b=>h.at' (i+1) x y (by rw [Da];exact a) (by rw [Da];exact b)⟩
theorem aG.append {vs wV:List V} {ds eW:List Dv} (h:aG β M H vs ds) (t:aG β M H wV eW):aG β M H (vs++wV) (ds++eW):=⟨by simp [h.len,t.len],fun i x y a b=>by
 rw [Pi] at a b
 rw [h.len] at a
 split at b
 ·rename_i z
  rw [if_pos z] at a
  exact h.at' i x y a b
 ·rename_i z
  rw [if_neg z] at a
  exact t.at' _ x y a b⟩
theorem aG.snoc {v:V} {d:Dv} {vs:List V} {ds:List Dv} (t:aG β M H vs ds) (h:Rz β M H v d):aG β M H (vs++[v]) (ds++[d]):=t.append (.cons h .nil)
theorem aG.get {vs:List V} {ds:List Dv} (h:aG β M H vs ds) {i:Nat} {d:Dv} (e:ds[i]?=some d):∃v,vs[i]?=some v/\Rz β M H v d :=by
 have hi:=(bv.mp e).1
 have cI:i<vs.length :=by rw [h.len];exact hi
 exact ⟨vs[i],ap cI,h.at' i _ _ (ap cI) e⟩
theorem aG.get' {vs:List V} {ds:List Dv} (h:aG β M H vs ds) {i:Nat} {v:V} (e:vs[i]?=some v):∃d,ds[i]?=some d/\Rz β M H v d :=by
 have hi:=(bv.mp e).1
 have cI:i<ds.length :=by rw [<- h.len];exact hi
 exact ⟨ds[i],ap cI,h.at' i _ _ e (ap cI)⟩
theorem aG.take {vs:List V} {ds:List Dv} (h:aG β M H vs ds) (n:Nat):aG β M H (vs.take n) (ds.take n):=⟨by simp [h.len],fun i x y a b=>by
 rw [List.getElem?_take] at a b
 split at a
 ·rename_i z;rw [if_pos z] at b;exact h.at' i x y a b
 ·cases a⟩
theorem aG.drop {vs:List V} {ds:List Dv} (h:aG β M H vs ds) (n:Nat):aG β M H (vs.drop n) (ds.drop n):=⟨by simp [h.len],fun i x y a b=>by
 rw [List.getElem?_drop] at a b
 exact h.at' _ x y a b⟩
theorem aG.set {vs:List V} {ds:List Dv} (h:aG β M H vs ds) (n:Nat) {v:V} {d:Dv} (r:Rz β M H v d):aG β M H (vs.set n v) (ds.set n d):=⟨by simp [h.len],fun i x y a b=>by
 rw [PN] at a b
 rw [h.len] at a
 split at a
 ·rename_i z
  rw [if_pos z] at b
  split at a
  ·rename_i z2;rw [if_pos z2] at b;cases a;cases b;exact r
  ·cases a
 ·rename_i z;rw [if_neg z] at b;exact h.at' i x y a b⟩
theorem dn {a:ag} {vs:List V} {ds:List Dv} (m:Fz β M a) (e:H a=some (.tup vs)) (h:aG β M H vs ds):Rz β M H (.ref a) (.tup ds):=.tup m e h.len h.at'
theorem qH {a:ag} {vs:List V} {ds:List Dv} (m:Fz β M a) (e:H a=some (.lst vs)) (h:aG β M H vs ds):Rz β M H (.ref a) (.lst ds):=.lst m e h.len h.at'
theorem bh {v:V} {ds:List Dv} (h:Rz β M H v (.tup ds)):∃a vs,v=.ref a/\Fz β M a/\H a=some (.tup vs)/\aG β M H vs ds :=by
 cases h with
 |tup m e hl h=>exact ⟨_,_,rfl,m,e,hl,h⟩
theorem fN {v:V} {ds:List Dv} (h:Rz β M H v (.lst ds)):∃a vs,v=.ref a/\Fz β M a/\H a=some (.lst vs)/\aG β M H vs ds :=by
 cases h with
 |lst m e hl h=>exact ⟨_,_,rfl,m,e,hl,h⟩
theorem aC {v:V} {i:Int} (h:Rz β M H v (.int i)):v=.int i :=by cases h;rfl
theorem cA {v:V} {b:Bool} (h:Rz β M H v (.bl b)):v=.bl b :=by cases h;rfl
theorem dq {v:V} {z:cb} (h:Rz β M H v (.str z)):v=.str z :=by cases h;rfl
theorem fO {v:V} (h:Rz β M H v .aj):v=.aj :=by cases h;rfl
theorem g5 {v u:V} (h:Rz β M H v (.raw u)):v=u :=by cases h;rfl
theorem bu {v:V} {a:ag} (h:Rz β M H v (.ptr a)):v=.ref a/\(M a).isSome=true :=by cases h with|ptr m=>exact ⟨rfl,m⟩
theorem jM {v:V} {C:ag} (h:Rz β M H v (.exc C)):∃a,v=.ref a/\Fz β M a/\H a=some (la C a) :=by cases h with|exc m e=>exact ⟨_,rfl,m,e⟩
theorem oP {v:V} {ns:List Int} (h:Rz β M H v (.bc ns)):∃a,v=.ref a/\bB β.K H a (ns.map V.int) :=by
 cases h with
 |bc m e=>exact ⟨_,rfl,.inl (.inr ⟨_,e⟩)⟩
 |bU m e=>exact ⟨_,rfl,.inl (.inl e)⟩
 |bV e=>exact ⟨_,rfl,.inr e⟩
def lr:HO->Bool
 | .lst _=>true
 | .dK _=>true
 | .dT _=>true
 | .ext _=>true
 |_=>false
theorem Mz.own (m:Mz β M H) {a:ag} {o:Mo} (e:M a=some o):∃u,H a=some u/\lr u=true :=by
 have q:=m.obj a o e
 cases o with
 |lst ds=>obtain ⟨vs,q,_⟩:=q;exact ⟨_,q,rfl⟩
 |dk ks ds=>obtain ⟨vs,q,_⟩:=q;exact ⟨_,q,rfl⟩
 |dt ks ds=>obtain ⟨vs,q,_⟩:=q;exact ⟨_,q,rfl⟩
 |ts ks ds=>obtain ⟨vs,q,_⟩:=q;exact ⟨_,q,rfl⟩
 |cy=>obtain ⟨_,_,q,_⟩:=q;exact ⟨_,q,rfl⟩
theorem Mz.mE (m:Mz β M H) {a:ag} {u:HO} (h:H a=some u) (n:lr u=false):M a=none :=by
 cases e:M a with
 |none=>rfl
 |some o=>obtain ⟨u',q,w⟩:=m.own e;rw [h] at q;cases q;rw [n] at w;cases w
theorem Mz.Hc (m:Mz β M H) {p:ag} (hp:p∈β.tb):M p=none:=let ⟨_,h,_⟩:=m.tabs p hp;m.mE h rfl
theorem Mz.Ff (m:Mz β M H) {p:ag×cb} (hp:p∈β.tb.l):M p.1=none:=let ⟨_,h,_⟩:=m.lams p hp;m.mE h rfl
theorem Mz.free (m:Mz β M H) {a:ag} (h:H a=none):M a=none :=by
 cases e:M a with
 |none=>rfl
 |some o=>obtain ⟨xs,q,_⟩:=m.own e;rw [h] at q;cases q
theorem Mz.fz (m:Mz β M H) {a:ag} (h:H a=none):Fz β M a:=⟨m.free h,fun z=>by
 obtain ⟨o,e,_⟩:=m.hids a z
 rw [h] at e
 cases e⟩
theorem y3 {p a:ag} {o:HO} (h:∃u,H a=N0 u):∃u,upd H p o a=N0 u :=by
 unfold upd
 split
 ·exact ⟨_,rfl⟩
 ·exact h
theorem Ex.lay (m:Mz β M H) {p:ag} (h:H p=none) (o:HO):Ex β M H M (upd H p o) :=by
 have pre:∀b u,H b=some u->upd H p o b=some u:=fun b u q=>by rw [af (aY q h)];exact q
 have rz:∀{v:V} {d:Dv},Rz β M H v d->Rz β M (upd H p o) v d:=fun r=>by
  induction r with
  |int i=>exact .int i
  |bl b=>exact .bl b
  |aj=>exact .aj
  |str z=>exact .str z
  |tup m e hl h ih=>exact .tup m (pre _ _ e) hl ih
  |lst m e hl h ih=>exact .lst m (pre _ _ e) hl ih
  |dk m e hk hl h ih=>exact .dk m (e.map fun _ h=>pre _ _ h) hk hl ih
  |dt m e hk hl h ih=>exact .dt m (e.map fun _ h=>pre _ _ h) hk hl ih
  |cf m e m2 e2 hl h ih=>exact .cf m (pre _ _ e) m2 (pre _ _ e2) hl ih
  |set m e=>exact .set m (pre _ _ e)
  |ptr m=>exact .ptr m
  |exc m e=>exact .exc m (pre _ _ e)
  |bc m e=>exact .bc m (pre _ _ e)
  |bU m e=>exact .bU m (pre _ _ e)
  |bV e=>exact .bV e
  |raw v=>exact .raw v
 refine ⟨⟨fun b u _ q=>.inl (pre b u q),fun _ h=>h,fun _ _ h _=>h⟩,fun a u e=>?_,fun q hq=>?_,fun a ha=>(m.hids a ha).upd (.inl h),m.apart,fun q hq=>(m.lams q hq).keep (fun _ e=>pre _ _ e) fun _ _ _ e=>pre _ _ e⟩
 ·have z:=m.obj a u e
  cases u with
  |lst ds=>obtain ⟨vs,z,l,r⟩:=z;exact ⟨vs,pre _ _ z,l,fun i v d a b=>rz (r i v d a b)⟩
  |dk ks ds=>obtain ⟨vs,z,hk,l,r⟩:=z;exact ⟨vs,pre _ _ z,hk,l,fun i v d a b=>rz (r i v d a b)⟩
  |dt ks ds=>obtain ⟨vs,z,hk,l,r⟩:=z;exact ⟨vs,pre _ _ z,hk,l,fun i v d a b=>rz (r i v d a b)⟩
  |ts ks ds=>obtain ⟨vs,z,hk,l,r⟩:=z;exact ⟨vs,pre _ _ z,hk,l,fun i v d a b=>rz (r i v d a b)⟩
  |cy=>obtain ⟨c,n,z,r⟩:=z;exact ⟨c,n,pre _ _ z,r⟩
 ·obtain ⟨ps,e,t⟩:=m.tabs q hq
  exact ⟨ps,pre _ _ e,t⟩
theorem Ex.grow (m:Mz β M H) {p:ag} (hp:p∈β.tb) {ps:Array am} (t:Ov ps.toList):Ex β M H M (upd H p (.bO ps)) :=by
 obtain ⟨LI,IM,t0⟩:=m.tabs p hp
 have pre:∀b u,H b=some u->wU u=true->upd H p (.bO ps) b=some u:=fun b u q n=>by
  have:b≠p:=fun z=>by subst z;rw [IM] at q;cases q;cases n
  rw [af this];exact q
 have rz:∀{v:V} {d:Dv},Rz β M H v d->Rz β M (upd H p (.bO ps)) v d:=fun r=>by
  induction r with
  |int i=>exact .int i
  |bl b=>exact .bl b
  |aj=>exact .aj
  |str z=>exact .str z
  |tup m e hl h ih=>exact .tup m (pre _ _ e rfl) hl ih
  |lst m e hl h ih=>exact .lst m (pre _ _ e rfl) hl ih
  |dk m e hk hl h ih=>exact .dk m (e.Fe rfl fun x hx h=>pre _ _ h hx) hk hl ih
  |dt m e hk hl h ih=>exact .dt m (e.Fe rfl fun x hx h=>pre _ _ h hx) hk hl ih
  |cf m e m2 e2 hl h ih=>exact .cf m (pre _ _ e rfl) m2 (pre _ _ e2 rfl) hl ih
  |set m e=>exact .set m (pre _ _ e rfl)
  |ptr m=>exact .ptr m
  |exc m e=>exact .exc m (pre _ _ e rfl)
  |bc m e=>exact .bc m (pre _ _ e rfl)
  |bU m e=>exact .bU m (pre _ _ e rfl)
  |bV e=>exact .bV e
  |raw v=>exact .raw v
 refine ⟨⟨fun b u _ q=>?_,fun _ h=>h,fun _ _ h _=>h⟩,fun a u e=>?_,fun q hq=>?_,fun a ha=>(m.hids a ha).upd (.inr rfl),m.apart,fun q hq=>(m.lams q hq).keep (fun _ e=>pre _ _ e rfl) fun _ _ _ e=>pre _ _ e rfl⟩
 ·by_cases e:b=p
  ·subst e
   rw [IM] at q
   cases q
   exact .inr ⟨_,.inl ⟨LI,ps,rfl,rfl,t⟩,aE⟩
  ·exact .inl (by rw [af e];exact q)
 ·have z:=m.obj a u e
  cases u with
  |lst ds=>obtain ⟨vs,z,l,r⟩:=z;exact ⟨vs,pre _ _ z rfl,l,fun i v d a b=>rz (r i v d a b)⟩
  |dk ks ds=>obtain ⟨vs,z,hk,l,r⟩:=z;exact ⟨vs,pre _ _ z rfl,hk,l,fun i v d a b=>rz (r i v d a b)⟩
  |dt ks ds=>obtain ⟨vs,z,hk,l,r⟩:=z;exact ⟨vs,pre _ _ z rfl,hk,l,fun i v d a b=>rz (r i v d a b)⟩
  |ts ks ds=>obtain ⟨vs,z,hk,l,r⟩:=z;exact ⟨vs,pre _ _ z rfl,hk,l,fun i v d a b=>rz (r i v d a b)⟩
  |cy=>obtain ⟨c,n,z,r⟩:=z;exact ⟨c,n,pre _ _ z rfl,r⟩
 ·by_cases e:q=p
  ·subst e;exact ⟨ps,aE,t⟩
  ·obtain ⟨p2,e2,t2⟩:=m.tabs q hq
   exact ⟨p2,by rw [af e];exact e2,t2⟩
def ay (M:Mh) (a:ag) (o:Mo):Mh:=fun b=>if b=a then N0 o else M b
theorem updM_same {a:ag} {o:Mo}:ay M a o a=N0 o :=by unfold ay;rw [if_pos rfl]
theorem ai {a b:ag} {o:Mo} (h:b≠a):ay M a o b=M b :=by unfold ay;rw [if_neg h]
theorem updM_updM {a:ag} {o u:Mo}:ay (ay M a o) a u=ay M a u :=by funext b;unfold ay;split <;> rfl
theorem gK {p:ag} {o:Mo} {u:HO} (hp:(M p).isSome=true\/H p=none) {v:V} {d:Dv} (h:Rz β M H v d):Rz β (ay M p o) (upd H p u) v d :=by
 have ne:∀a x,M a=none->H a=N0 x->a≠p:=fun a x m e z=>by
  subst z
  rcases hp with q|q
  ·rw [m] at q;cases q
  ·rw [q] at e;cases e
 induction h with
 |int i=>exact .int i
 |bl b=>exact .bl b
 |aj=>exact .aj
 |str z=>exact .str z
 |tup m e hl h ih=>have n:=ne _ _ m.1 e;exact .tup ⟨by rw [ai n];exact m.1,m.2⟩ (by rw [af n];exact e) hl ih
 |lst m e hl h ih=>have n:=ne _ _ m.1 e;exact .lst ⟨by rw [ai n];exact m.1,m.2⟩ (by rw [af n];exact e) hl ih
 |dk m e hk hl h ih=>have n:=ne _ _ m.1 e.there.choose_spec;exact .dk ⟨by rw [ai n];exact m.1,m.2⟩ (e.map fun _ h=>by rw [af n];exact h) hk hl ih
 |dt m e hk hl h ih=>have n:=ne _ _ m.1 e.there.choose_spec;exact .dt ⟨by rw [ai n];exact m.1,m.2⟩ (e.map fun _ h=>by rw [af n];exact h) hk hl ih
 |cf m e m2 e2 hl h ih=>have n:=ne _ _ m.1 e;have n2:=ne _ _ m2.1 e2;exact .cf ⟨by rw [ai n];exact m.1,m.2⟩ (by rw [af n];exact e) ⟨by rw [ai n2];exact m2.1,m2.2⟩ (by rw [af n2];exact e2) hl ih
 |set m e=>have n:=ne _ _ m.1 e;exact .set ⟨by rw [ai n];exact m.1,m.2⟩ (by rw [af n];exact e)
 |ptr m=>
  refine .ptr ?_
  unfold ay
  split
  ·rfl
  ·exact m
 |exc m e=>have n:=ne _ _ m.1 e;exact .exc ⟨by rw [ai n];exact m.1,m.2⟩ (by rw [af n];exact e)
 |bc m e=>have n:=ne _ _ m.1 e;exact .bc ⟨by rw [ai n];exact m.1,m.2⟩ (by rw [af n];exact e)
 |bU m e=>have n:=ne _ _ m.1 e;exact .bU ⟨by rw [ai n];exact m.1,m.2⟩ (by rw [af n];exact e)
 |bV e=>exact .bV e
 |raw v=>exact .raw v
theorem fZ.upd {p:ag} {o':Mo} {u:HO} (hp:(M p).isSome=true\/H p=none) {a:ag} {o:Mo} (ha:a≠p) (z:fZ β M H a o):fZ β (ay M p o') (L2.upd H p u) a o :=by
 cases o with
 |lst ds=>obtain ⟨vs,z,l,r⟩:=z;exact ⟨vs,by rw [af ha];exact z,l,fun i v d a b=>gK hp (r i v d a b)⟩
 |dk ks ds=>obtain ⟨vs,z,hk,l,r⟩:=z;exact ⟨vs,by rw [af ha];exact z,hk,l,fun i v d a b=>gK hp (r i v d a b)⟩
 |dt ks ds=>obtain ⟨vs,z,hk,l,r⟩:=z;exact ⟨vs,by rw [af ha];exact z,hk,l,fun i v d a b=>gK hp (r i v d a b)⟩
 |ts ks ds=>obtain ⟨vs,z,hk,l,r⟩:=z;exact ⟨vs,by rw [af ha];exact z,hk,l,fun i v d a b=>gK hp (r i v d a b)⟩
 |cy=>obtain ⟨c,n,z,r⟩:=z;exact ⟨c,n,by rw [af ha];exact z,r⟩
theorem Ex.lr (m:Mz β M H) {p:ag} {u:HO} {o':Mo} (hp:(M p).isSome=true\/H p=none) (hu:lq u=true) (r:fZ β (ay M p o') (upd H p u) p o'):Ex β M H (ay M p o') (upd H p u) :=by
 have ne:∀a x,M a=none->H a=N0 x->a≠p:=fun a x m e z=>by
  subst z
  rcases hp with q|q
  ·rw [m] at q;cases q
  ·rw [q] at e;cases e
 refine ⟨⟨fun b u hm q=>.inl ?_,fun a h=>?_,fun a o hm h=>?_⟩,fun a o e=>?_,fun q hq=>?_,fun a ha=>(m.hids a ha).upd (.inr hu),fun a o e z=>?_,fun q hq=>?_⟩
 ·rw [af (ne b _ hm q)];exact q
 ·unfold ay
  split
  ·rfl
  ·exact h
 ·rw [ai (ne a _ hm h)];exact hm
 ·by_cases ha:a=p
  ·subst ha
   rw [updM_same] at e
   cases e
   exact r
  ·rw [ai ha] at e
   exact (m.obj a o e).upd hp ha
 ·obtain ⟨ps,e,t⟩:=m.tabs q hq
  exact ⟨ps,by rw [af (ne q _ (m.Hc hq) e)];exact e,t⟩
 ·by_cases ha:a=p
  ·subst ha
   rcases hp with h|h
   ·cases q:M a with
    |none=>rw [q] at h;cases h
    |some u=>exact m.apart a u q z
   ·obtain ⟨u,hu,_⟩:=m.hids a z
    rw [h] at hu
    cases hu
  ·rw [ai ha] at e
   exact m.apart a o e z
 ·exact (m.lams q hq).keep (fun _ e=>by rw [af (ne q.1 _ (m.Ff hq) e)];exact e) fun c _ _ e=>by rw [af (ne c _ (m.mE e rfl) e)];exact e
theorem Ex.own (m:Mz β M H) {p:ag} {vs:List V} {ds:List Dv} (hp:(M p).isSome=true\/H p=none) (r:aG β M H vs ds):Ex β M H (ay M p (.lst ds)) (upd H p (.lst vs)):=
 Ex.lr m hp rfl ⟨vs,aE,r.len,fun i v d a b=>gK hp (r.at' i v d a b)⟩
abbrev Bz.add (β:Bz) (D:ag):Bz:={β with hid:=D::β.hid}
theorem Rz.enter {D:ag} {o:HO} (hD:H D=none) {v:V} {d:Dv} (h:Rz β M H v d):Rz (β.add D) M (upd H D o) v d :=by
 have ne:∀a x,Fz β M a->H a=some x->Fz (β.add D) M a:=fun a x m e=>⟨m.1,by
  intro z
  rcases lw.mp z with z|z
  ·subst z;rw [hD] at e;cases e
  ·exact m.2 z⟩
 have pre:∀a x,H a=some x->upd H D o a=some x:=fun a x e=>by rw [af (aY e hD)];exact e
 induction h with
 |int i=>exact .int i
 |bl b=>exact .bl b
 |aj=>exact .aj
 |str z=>exact .str z
 |tup m e hl h ih=>exact .tup (ne _ _ m e) (pre _ _ e) hl ih
 |lst m e hl h ih=>exact .lst (ne _ _ m e) (pre _ _ e) hl ih
 |dk m e hk hl h ih=>exact .dk (ne _ _ m e.there.choose_spec) (e.map fun _ h=>pre _ _ h) hk hl ih
 |dt m e hk hl h ih=>exact .dt (ne _ _ m e.there.choose_spec) (e.map fun _ h=>pre _ _ h) hk hl ih
 |cf m e m2 e2 hl h ih=>exact .cf (ne _ _ m e) (pre _ _ e) (ne _ _ m2 e2) (pre _ _ e2) hl ih
 |set m e=>exact .set (ne _ _ m e) (pre _ _ e)
 |ptr m=>exact .ptr m
 |exc m e=>exact .exc (ne _ _ m e) (pre _ _ e)
 |bc m e=>exact .bc (ne _ _ m e) (pre _ _ e)
 |bU m e=>exact .bU (ne _ _ m e) (pre _ _ e)
 |bV e=>exact .bV e
 |raw v=>exact .raw v
theorem Rz.sub {bQ:Bz} (hP:bQ.P=β.P) (hw:bQ.w=β.w) (hK:bQ.K=β.K) (hs:∀a,a∈bQ.hid->a∈β.hid) {v:V} {d:Dv} (h:Rz β M H v d):Rz bQ M H v d :=by
 have ne:∀a,Fz β M a->Fz bQ M a:=fun a m=>⟨m.1,fun z=>m.2 (hs a z)⟩
 induction h with
 |int i=>exact .int i
 |bl b=>exact .bl b
 |aj=>exact .aj
 |str z=>exact .str z
 |tup m e hl h ih=>exact .tup (ne _ m) e hl ih
 |lst m e hl h ih=>exact .lst (ne _ m) e hl ih
 |dk m e hk hl h ih=>exact .dk (ne _ m) e hk hl ih
 |dt m e hk hl h ih=>exact .dt (ne _ m) e hk hl ih
 |cf m e m2 e2 hl h ih=>exact .cf (ne _ m) e (ne _ m2) e2 hl ih
 |set m e=>exact .set (ne _ m) (by rw [hP,hw];exact e)
 |ptr m=>exact .ptr m
 |exc m e=>exact .exc (ne _ m) e
 |bc m e=>exact .bc (ne _ m) e
 |bU m e=>exact .bU (ne _ m) e
 |bV e=>exact .bV (by rw [hK];exact e)
 |raw v=>exact .raw v
theorem Mz.sub {bQ:Bz} (hP:bQ.P=β.P) (hw:bQ.w=β.w) (hK:bQ.K=β.K) (ht:bQ.tb=β.tb) (hs:∀a,a∈bQ.hid->a∈β.hid) (m:Mz β M H):Mz bQ M H:=⟨fun a o e=>by
 have z:=m.obj a o e
 cases o with
 |lst ds=>obtain ⟨vs,z,l,r⟩:=z;exact ⟨vs,z,l,fun i v d a b=>(r i v d a b).sub hP hw hK hs⟩
 |dk ks ds=>obtain ⟨vs,z,hk,l,r⟩:=z;exact ⟨vs,z,hk,l,fun i v d a b=>(r i v d a b).sub hP hw hK hs⟩
 |dt ks ds=>obtain ⟨vs,z,hk,l,r⟩:=z;exact ⟨vs,z,hk,l,fun i v d a b=>(r i v d a b).sub hP hw hK hs⟩
 |ts ks ds=>obtain ⟨vs,z,hk,l,r⟩:=z;exact ⟨vs,by rw [hP,hw];exact z,hk,l,fun i v d a b=>(r i v d a b).sub hP hw hK hs⟩
 |cy=>exact z,by rw [ht];exact m.tabs,fun a ha=>m.hids a (hs a ha),fun a o e z=>m.apart a o e (hs a z),by rw [ht];exact m.lams⟩
theorem Mz.enter {D:ag} {o:HO} (hD:H D=none) (ho:lq o=true) (m:Mz β M H):Mz (β.add D) M (upd H D o):=⟨fun a u e=>by
 have pre:∀a x,H a=N0 x->upd H D o a=N0 x:=fun a x e=>by rw [af (aY e hD)];exact e
 have z:=m.obj a u e
 cases u with
 |lst ds=>obtain ⟨vs,z,l,r⟩:=z;exact ⟨vs,pre _ _ z,l,fun i v d a b=>(r i v d a b).enter hD⟩
 |dk ks ds=>obtain ⟨vs,z,hk,l,r⟩:=z;exact ⟨vs,pre _ _ z,hk,l,fun i v d a b=>(r i v d a b).enter hD⟩
 |dt ks ds=>obtain ⟨vs,z,hk,l,r⟩:=z;exact ⟨vs,pre _ _ z,hk,l,fun i v d a b=>(r i v d a b).enter hD⟩
 |ts ks ds=>obtain ⟨vs,z,hk,l,r⟩:=z;exact ⟨vs,pre _ _ z,hk,l,fun i v d a b=>(r i v d a b).enter hD⟩
 |cy=>obtain ⟨c,n,z,r⟩:=z;exact ⟨c,n,pre _ _ z,r⟩,fun p hp=>by
 obtain ⟨ps,e,t⟩:=m.tabs p hp
 exact ⟨ps,by rw [af (aY e hD)];exact e,t⟩,fun a ha=>by
 rcases lw.mp ha with z|z
 ·subst z;exact ⟨_,aE,ho⟩
 ·exact (m.hids a z).upd (.inl hD),fun a o e ha=>by
 rcases lw.mp ha with z|z
 ·subst z;rw [m.free hD] at e;cases e
 ·exact m.apart a o e z,fun q hq=>(m.lams q hq).keep (fun _ e=>by rw [af (aY e hD)];exact e) fun _ _ _ e=>by rw [af (aY e hD)];exact e⟩
theorem Rz.over {D:ag} {o:HO} (hD:D∈β.hid) {v:V} {d:Dv} (h:Rz β M H v d):Rz β M (upd H D o) v d :=by
 have pre:∀a x,Fz β M a->H a=some x->upd H D o a=some x:=fun a x m e=>by
  have n:a≠D:=fun z=>by subst z;exact m.2 hD
  rw [af n];exact e
 induction h with
 |int i=>exact .int i
 |bl b=>exact .bl b
 |aj=>exact .aj
 |str z=>exact .str z
 |tup m e hl h ih=>exact .tup m (pre _ _ m e) hl ih
 |lst m e hl h ih=>exact .lst m (pre _ _ m e) hl ih
 |dk m e hk hl h ih=>exact .dk m (e.map fun _ h=>pre _ _ m h) hk hl ih
 |dt m e hk hl h ih=>exact .dt m (e.map fun _ h=>pre _ _ m h) hk hl ih
 |cf m e m2 e2 hl h ih=>exact .cf m (pre _ _ m e) m2 (pre _ _ m2 e2) hl ih
 |set m e=>exact .set m (pre _ _ m e)
 |ptr m=>exact .ptr m
 |exc m e=>exact .exc m (pre _ _ m e)
 |bc m e=>exact .bc m (pre _ _ m e)
 |bU m e=>exact .bU m (pre _ _ m e)
 |bV e=>exact .bV e
 |raw v=>exact .raw v
theorem Mz.over {D:ag} {o:HO} (hD:D∈β.hid) (ho:lq o=true) (hM:M D=none) (ht:D ∉ β.tb) (m:Mz β M H):Mz β M (upd H D o):=⟨fun a u e=>by
 have na:a≠D:=fun z=>by subst z;rw [hM] at e;cases e
 have z:=m.obj a u e
 cases u with
 |lst ds=>obtain ⟨vs,z,l,r⟩:=z;exact ⟨vs,by rw [af na];exact z,l,fun i v d a b=>(r i v d a b).over hD⟩
 |dk ks ds=>obtain ⟨vs,z,hk,l,r⟩:=z;exact ⟨vs,by rw [af na];exact z,hk,l,fun i v d a b=>(r i v d a b).over hD⟩
 |dt ks ds=>obtain ⟨vs,z,hk,l,r⟩:=z;exact ⟨vs,by rw [af na];exact z,hk,l,fun i v d a b=>(r i v d a b).over hD⟩
 |ts ks ds=>obtain ⟨vs,z,hk,l,r⟩:=z;exact ⟨vs,by rw [af na];exact z,hk,l,fun i v d a b=>(r i v d a b).over hD⟩
 |cy=>obtain ⟨c,n,z,r⟩:=z;exact ⟨c,n,by rw [af na];exact z,r⟩,fun p hp=>by
 obtain ⟨ps,e,t⟩:=m.tabs p hp
 have n:p≠D:=fun z=>by subst z;exact ht hp
 exact ⟨ps,by rw [af n];exact e,t⟩,fun a ha=>(m.hids a ha).upd (.inr ho),m.apart,fun q hq=>by
 obtain ⟨o',e',n⟩:=m.hids D hD
 exact (m.lams q hq).keep (fun _ e=>by rw [af (fun z=>by subst z;rw [e'] at e;cases e;cases n)];exact e) fun c _ _ e=>by rw [af (fun z=>by subst z;rw [e'] at e;cases e;cases n)];exact e⟩
theorem Ey.over {D:ag} {o:HO} (x:Ey M H M1 H1) (hD:H D=none):Ey M H M1 (upd H1 D o):=⟨fun b u m h=>by
 have nb:b≠D:=aY h hD
 rw [af nb]
 exact x.keep b u m h,x.dom,x.new⟩
theorem Mz.Ki {D:ag} (m:Mz β M H) (hD:H D=none):D ∉ β.tb:=fun z=>by
 obtain ⟨_,e,_⟩:=m.tabs D z
 rw [hD] at e
 cases e
structure Bx (β bQ:Bz) (H:Hp):Prop where
 P:bQ.P=β.P
 w:bQ.w=β.w
 K:bQ.K=β.K
 tb:bQ.tb=β.tb
 old:∀a,a∈β.hid->a∈bQ.hid
 new:∀a,a∈bQ.hid->a∈β.hid\/H a=none
theorem Bx.refl:Bx β β H:=⟨rfl,rfl,rfl,rfl,fun _ h=>h,fun _ h=>.inl h⟩
theorem Bx.add {D:ag} (hD:H D=none):Bx β (β.add D) H:=⟨rfl,rfl,rfl,rfl,fun _ h=>ff _ h,fun a h=>by
 rcases lw.mp h with z|z
 ·exact .inr (z▸hD)
 ·exact .inl z⟩
theorem Rz.bx {bQ:Bz} (b:Bx β bQ H) {v:V} {d:Dv} (h:Rz β M H v d):Rz bQ M H v d :=by
 have ne:∀a x,Fz β M a->H a=some x->Fz bQ M a:=fun a x m e=>⟨m.1,fun z=>by
  rcases b.new a z with q|q
  ·exact m.2 q
  ·rw [q] at e;cases e⟩
 induction h with
 |int i=>exact .int i
 |bl b=>exact .bl b
 |aj=>exact .aj
 |str z=>exact .str z
 |tup m e hl h ih=>exact .tup (ne _ _ m e) e hl ih
 |lst m e hl h ih=>exact .lst (ne _ _ m e) e hl ih
 |dk m e hk hl h ih=>exact .dk (ne _ _ m e.there.choose_spec) e hk hl ih
 |dt m e hk hl h ih=>exact .dt (ne _ _ m e.there.choose_spec) e hk hl ih
 |cf m e m2 e2 hl h ih=>exact .cf (ne _ _ m e) e (ne _ _ m2 e2) e2 hl ih
 |set m e=>exact .set (ne _ _ m e) (by rw [b.P,b.w];exact e)
 |ptr m=>exact .ptr m
 |exc m e=>exact .exc (ne _ _ m e) e
 |bc m e=>exact .bc (ne _ _ m e) e
 |bU m e=>exact .bU (ne _ _ m e) e
 |bV e=>exact .bV (by rw [b.K];exact e)
 |raw v=>exact .raw v
end
inductive Pin (M:Mh):Dv->Prop where
 |int (i:Int):Pin M (.int i)
 |bl (b:Bool):Pin M (.bl b)
 |aj:Pin M .aj
 |str (z:cb):Pin M (.str z)
 |tup {ds:List Dv} (h:∀d∈ds,Pin M d):Pin M (.tup ds)
 |lst {ds:List Dv} (h:∀d∈ds,Pin M d):Pin M (.lst ds)
 |set (ns:List Int):Pin M (.set ns)
 |ptr {a:ag} (h:(M a).isSome=true):Pin M (.ptr a)
 |exc (C:ag):Pin M (.exc C)
 |bc (ns:List Int):Pin M (.bc ns)
 |raw (v:V):Pin M (.raw v)
 |dk {ks:List Key} {ds:List Dv} (h:∀d∈ds,Pin M d):Pin M (.dk ks ds)
 |dt {ks:List (List Key)} {ds:List Dv} (h:∀d∈ds,Pin M d):Pin M (.dt ks ds)
 |cf {f c:ag} {o oc:lm} {vs:List V} {ds:List Dv} (h:∀d∈ds,Pin M d):Pin M (.cf f o c oc vs ds)
theorem Rz.pin {β:Bz} {M:Mh} {H:Hp} {v:V} {d:Dv} (h:Rz β M H v d):Pin M d :=by
 induction h with
 |int i=>exact .int i
 |bl b=>exact .bl b
 |aj=>exact .aj
 |str z=>exact .str z
 |tup m e hl h ih=>
  refine .tup fun d hd=>?_
  obtain ⟨i,hi⟩:=ul.mp hd
  have h1:=(bv.mp hi).1
  exact ih i _ d (ap (by omega)) hi
 |lst m e hl h ih=>
  refine .lst fun d hd=>?_
  obtain ⟨i,hi⟩:=ul.mp hd
  have h1:=(bv.mp hi).1
  exact ih i _ d (ap (by omega)) hi
 |dk m e hk hl h ih=>
  refine .dk fun d hd=>?_
  obtain ⟨i,hi⟩:=ul.mp hd
  have h1:=(bv.mp hi).1
  exact ih i _ d (ap (by omega)) hi
 |dt m e hk hl h ih=>
  refine .dt fun d hd=>?_
  obtain ⟨i,hi⟩:=ul.mp hd
  have h1:=(bv.mp hi).1
  exact ih i _ d (ap (by omega)) hi
 |cf m e m2 e2 hl h ih=>
  refine .cf fun d hd=>?_
  obtain ⟨i,hi⟩:=ul.mp hd
  have h1:=(bv.mp hi).1
  exact ih i _ d (ap (by omega)) hi
 |set m e=>exact .set _
 |ptr m=>exact .ptr m
 |exc m e=>exact .exc _
 |bc m e=>exact .bc _
 |bU m e=>exact .bc _
 |bV e=>exact .bc _
 |raw v=>exact .raw v
def Mo.items:Mo->List Dv
 | .lst ds=>ds
 | .dk _ ds=>ds
 | .dt _ ds=>ds
 | .ts _ ds=>ds
 | .cy=>[]
def Wf (M:Mh):Prop:=∀b o,M b=some o->∀d∈o.items,Pin M d
theorem fZ.LJ {β:Bz} {M:Mh} {H:Hp} {a:ag} {o:Mo} (h:fZ β M H a o):∃vs,aG β M H vs o.items :=by
 cases o with
 |lst ds=>obtain ⟨vs,_,rs⟩:=h;exact ⟨vs,rs⟩
 |dk ks ds=>obtain ⟨vs,_,_,rs⟩:=h;exact ⟨vs,rs⟩
 |dt ks ds=>obtain ⟨vs,_,_,rs⟩:=h;exact ⟨vs,rs⟩
 |ts ks ds=>obtain ⟨vs,_,_,rs⟩:=h;exact ⟨vs,rs⟩
 |cy=>exact ⟨[],.nil⟩
theorem Mz.wf {β:Bz} {M:Mh} {H:Hp} (m:Mz β M H):Wf M:=fun b o e d hd=>by
 obtain ⟨vs,rs⟩:=(m.obj b _ e).LJ
 obtain ⟨i,hi⟩:=ul.mp hd
 obtain ⟨v,_,r⟩:=rs.get hi
 exact r.pin
abbrev ax:=List (Option Dv)
abbrev ZK:=Dv->Mh->Prop
abbrev aH:=ax->Mh->ZK->Prop
abbrev cE:=ax->Mh->(Bool->Mh->Prop)->Prop
abbrev du:=ax->Mh->(List Dv->Mh->Prop)->Prop
structure eD where
 nx:ax->Mh->Prop
 rt:ZK
 bk:ax->Mh->Prop:=fun _ _=>False
 ct:ax->Mh->Prop:=fun _ _=>False
abbrev bq:=eD->ax->Mh->Prop
abbrev b7:=Dv->ax->Mh->(ax->Mh->Prop)->Prop
abbrev jN:=List Dv->ax->Mh->(ax->Mh->Prop)->Prop
abbrev fh:=ax->Mh->(List Dv->Mh->Prop)->Prop
structure Gz extends Bz where
 M0:Mh
 H0:Hp
structure Zr (Γ:Gz) (β:Bz) (M:Mh) (ρ:ax) (σ:St) (H:Hp):Prop where
 eP:β.P=Γ.P
 ew:β.w=Γ.w
 eK:β.K=Γ.K
 et:β.tb=Γ.tb
 sub:∀a,a∈Γ.hid->a∈β.hid
 wf:Wf Γ.M0
 ent:Ey Γ.M0 Γ.H0 M H
 mz:Mz β M H
 len:ρ.length=σ.length
 at':∀(i:Nat) (d:Dv),ρ[i]?=some (some d)->∃v,σ[i]?=some (some v)/\Rz β M H v d
section
variable {Γ:Gz} {β:Bz} {M M':Mh} {ρ:ax} {σ:St} {H H':Hp}
theorem Zr.step (z:Zr Γ β M ρ σ H) (x:Ex β M H M' H'):Zr Γ β M' ρ σ H':=⟨z.eP,z.ew,z.eK,z.et,z.sub,z.wf,z.ent.trans x.toEy,x.mz,z.len,fun i d e=>let ⟨v,h,r⟩:=z.at' i d e;⟨v,h,r.ex x⟩⟩
theorem Zr.set (z:Zr Γ β M ρ σ H) (i:Nat) {v:V} {d:Dv} (r:Rz β M H v d):Zr Γ β M (ρ.set i (some d)) (σ.set i (some v)) H:=⟨z.eP,z.ew,z.eK,z.et,z.sub,z.wf,z.ent,z.mz,by simp [z.len],fun j e h=>by
 rw [PN] at h ⊢
 rw [z.len] at h
 split at h
 ·rename_i q
  rw [if_pos q]
  split at h
  ·rename_i q2
   rw [if_pos q2]
   cases h
   exact ⟨v,rfl,r⟩
  ·cases h
 ·rename_i q
  rw [if_neg q]
  exact z.at' j e h⟩
end
def lE (Γ:Gz) (p:aH):TE:=fun σ H Q=>∃(β:Bz) (ρ:ax) (M:Mh) (Q':ZK),Zr Γ β M ρ σ H/\p ρ M Q'/\∀d M' v H',Ex β M H M' H'->Rz β M' H' v d->Q' d M'->Q v H'
def lT (Γ:Gz) (p:cE):TT:=fun σ H Q=>∃(β:Bz) (ρ:ax) (M:Mh) (Q':Bool->Mh->Prop),Zr Γ β M ρ σ H/\p ρ M Q'/\∀b M' H',Ex β M H M' H'->Q' b M'->Q b H'
def lA (Γ:Gz) (p:du):TA:=fun σ H Q=>∃(β:Bz) (ρ:ax) (M:Mh) (Q':List Dv->Mh->Prop),Zr Γ β M ρ σ H/\p ρ M Q'/\∀ds M' vs H',Ex β M H M' H'->aG β M' H' vs ds->Q' ds M'->Q vs H'
structure Ev (β:Bz) (M:Mh) (H:Hp) (M':Mh) (H':Hp):Prop where
 keep:∀b o,M b=none->H b=some o->H' b=some o\/∃o',Tg o o'/\H' b=some o'
 new:∀a o,M a=none->H a=some o->M' a=none
 mz:Mz β M' H'
theorem Ex.ev {β:Bz} {M M':Mh} {H H':Hp} (x:Ex β M H M' H'):Ev β M H M' H':=⟨x.keep,x.new,x.mz⟩
theorem Ev.refl {β:Bz} {M:Mh} {H:Hp} (m:Mz β M H):Ev β M H M H:=(Ex.refl m).ev
theorem Ev.trans {β:Bz} {M M1 M2:Mh} {H H1 H2:Hp} (x:Ev β M H M1 H1) (y:Ev β M1 H1 M2 H2):Ev β M H M2 H2 :=by
 refine ⟨fun b o hm h=>?_,fun a o hm h=>?_,y.mz⟩
 ·have jc:=x.new b o hm h
  rcases x.keep b o hm h with q|⟨o1,t,q⟩
  ·exact y.keep b o jc q
  ·rcases y.keep b _ jc q with q2|⟨o2,t2,q2⟩
   ·exact .inr ⟨o1,t,q2⟩
   ·exact .inr ⟨o2,t.trans t2,q2⟩
 ·have jc:=x.new a o hm h
  rcases x.keep a o hm h with q|⟨o1,t,q⟩
  ·exact y.new a _ jc q
  ·exact y.new a _ jc q
structure uP (Γ:Gz) (β:Bz) (M:Mh) (H:Hp) (D':eD) (D:Ends):Prop where
 nx:∀bg M' az H',Ev β M H M' H'->Zr Γ β M' bg az H'->D'.nx bg M'->D.nx az H'
 rt:∀d M' v H',Ev β M H M' H'->Ey Γ.M0 Γ.H0 M' H'->Rz β M' H' v d->D'.rt d M'->D.rt v H'
 bk:∀bg M' az H',Ev β M H M' H'->Zr Γ β M' bg az H'->D'.bk bg M'->D.bk az H'
 ct:∀bg M' az H',Ev β M H M' H'->Zr Γ β M' bg az H'->D'.ct bg M'->D.ct az H'
theorem uP.step {Γ:Gz} {β:Bz} {M M1:Mh} {H H1:Hp} {D':eD} {D:Ends} (r:uP Γ β M H D' D) (x:Ev β M H M1 H1):uP Γ β M1 H1 D' D:=
 ⟨fun a b c d y=>r.nx a b c d (x.trans y),fun a b c d y=>r.rt a b c d (x.trans y),fun a b c d y=>r.bk a b c d (x.trans y),fun a b c d y=>r.ct a b c d (x.trans y)⟩
def lS (Γ:Gz) (p:bq):TS:=fun D σ H=>∃(β:Bz) (ρ:ax) (M:Mh) (D':eD),Zr Γ β M ρ σ H/\p D' ρ M/\uP Γ β M H D' D
def lG (Γ:Gz) (p:b7):TG:=fun x σ H N=>∃(β:Bz) (d:Dv) (ρ:ax) (M:Mh) (N':ax->Mh->Prop),Zr Γ β M ρ σ H/\Rz β M H x d/\p d ρ M N'/\∀bg M' az H',Ex β M H M' H'->Zr Γ β M' bg az H'->N' bg M'->N az H'
def LK (Γ:Gz) (p:jN):lV:=fun xs σ H N=>∃(β:Bz) (ds:List Dv) (ρ:ax) (M:Mh) (N':ax->Mh->Prop),Zr Γ β M ρ σ H/\aG β M H xs ds/\p ds ρ M N'/\∀bg M' az H',Ex β M H M' H'->Zr Γ β M' bg az H'->N' bg M'->N az H'
def wW (β:Bz) (J:It) (ds:List Dv) (M:Mh) (H:Hp):Prop:=∀bQ M' H',Bx β bQ H->Ey M H M' H'->Mz bQ M' H'->∀i,(i<ds.length->J.go i H'/\∀x jd,J.yld i H' x jd->Ex bQ M' H' M' jd/\∃d,ds[i]?=some d/\Rz bQ M' jd x d)/\(ds.length<=i->J.stop i H')
def lI (Γ:Gz) (p:fh):TI:=fun σ H R=>∃(β:Bz) (ρ:ax) (M:Mh) (R':List Dv->Mh->Prop),Zr Γ β M ρ σ H/\p ρ M R'/\∀ds M' H' J,Ex β M H M' H'->wW β J ds M' H'->R' ds M'->R J H'
abbrev QE (Γ:Gz) (X:Cx) (e:dL) (p:aH):Prop:=PE X e (lE Γ p)
abbrev QT (Γ:Gz) (X:Cx) (e:dL) (p:cE):Prop:=PT X e (lT Γ p)
abbrev QW (Γ:Gz) (X:Cx) (e:dL) (p:cE):Prop:=PW X e (lT Γ p)
abbrev QA (Γ:Gz) (X:Cx) (es:List dL) (p:du):Prop:=PA X es (lA Γ p)
abbrev QS (Γ:Gz) (X:Cx) (s:r9) (p:bq):Prop:=PS X s (lS Γ p)
abbrev ix (Γ:Gz) (X:Cx) (s:List r9) (p:bq):Prop:=dQ X s (lS Γ p)
abbrev QG (Γ:Gz) (X:Cx) (e:dL) (p:b7):Prop:=PG X e (lG Γ p)
abbrev AB (Γ:Gz) (X:Cx) (e:List dL) (p:jN):Prop:=nZ X e (LK Γ p)
abbrev QI (Γ:Gz) (X:Cx) (tg e:dL) (p:fh):Prop:=PI X tg e (lI Γ p)
section
variable {X:Cx}
theorem PE.imp {e:dL} {t t':TE} (h:PE X e t) (i:∀σ H Q,t' σ H Q->t σ H Q):PE X e t':=⟨fun pins s σ H Q I q=>h pins s σ H Q I (i _ _ _ q)⟩
theorem PT.imp {e:dL} {t t':TT} (h:PT X e t) (i:∀σ H Q,t' σ H Q->t σ H Q):PT X e t':=⟨fun pins s σ H Q I q=>h pins s σ H Q I (i _ _ _ q)⟩
theorem PW.imp {e:dL} {t t':TT} (h:PW X e t) (i:∀σ H Q,t' σ H Q->t σ H Q):PW X e t':=fun wh pins s σ H Q I q=>h wh pins s σ H Q I (i _ _ _ q)
theorem PA.imp {e:List dL} {t t':TA} (h:PA X e t) (i:∀σ H Q,t' σ H Q->t σ H Q):PA X e t':=⟨fun pos pins s σ H Q I q=>h pos pins s σ H Q I (i _ _ _ q)⟩
theorem PS.imp {e:r9} {t t':TS} (h:PS X e t) (i:∀D σ H,t' D σ H->t D σ H):PS X e t':=⟨fun pins s σ H D I q=>h pins s σ H D I (i _ _ _ q)⟩
theorem dQ.imp {e:List r9} {t t':TS} (h:dQ X e t) (i:∀D σ H,t' D σ H->t D σ H):dQ X e t':=⟨fun pins s σ H D I q=>h pins s σ H D I (i _ _ _ q)⟩
theorem PG.imp {e:dL} {t t':TG} (h:PG X e t) (i:∀v σ H Q,t' v σ H Q->t v σ H Q):PG X e t':=fun pins s σ H v u Q I r q=>h pins s σ H v u Q I r (i _ _ _ _ q)
theorem nZ.imp {e:List dL} {t t':lV} (h:nZ X e t) (i:∀v σ H Q,t' v σ H Q->t v σ H Q):nZ X e t':=fun pins s σ H v u Q I r q=>h pins s σ H v u Q I r (i _ _ _ _ q)
theorem PI.imp {tg e:dL} {t t':TI} (h:PI X tg e t) (i:∀σ H Q,t' σ H Q->t σ H Q):PI X tg e t':=fun pins s σ H Q I q=>h pins s σ H Q I (i _ _ _ q)
theorem iq.imp {e:List dL} {t t':TT} (h:iq X e t) (i:∀σ H Q,t' σ H Q->t σ H Q):iq X e t':=fun pins s σ H Q I q=>h pins s σ H Q I (i _ _ _ q)
variable {Γ:Gz} {a b c:dL} {pa pb pc:aH} {pos:u4}
def zVar (i:Nat):aH:=fun ρ M Q=>match ρ[i]? with|some (some d)=>Q d M|_=>False
def zC (d:Dv):aH:=fun _ M Q=>Q d M
theorem Fg {i:Nat} {x:cb} (hN:X.N[i]?=some x) (hv:pJ X.env.scope x) (hd:(x==("__debug__" : cb))=false :=by decide) (fK:(x==("__classdict__" : cb))=false :=by decide):QE Γ X (.Name x pos) (zVar i):=
 (C5 hN hv hd fK).imp fun σ H Q ⟨β,ρ,M,Q',z,h,q⟩=>by
  unfold zVar at h
  split at h
  ·rename_i d e
   obtain ⟨v,e2,r⟩:=z.at' i d e
   exact ⟨v,e2,q d M v H (.refl z.mz) r h⟩
  ·exact h.elim
theorem qc {e:dL} {v:V} {d:Dv} (h:PE X e (tC v)) (r:∀β M H,Rz β M H v d):QE Γ X e (zC d):=h.imp fun σ H Q ⟨β,ρ,M,Q',z,h,q⟩=>q d M v H (.refl z.mz) (r β M H) h
theorem ao {i j pos}:QE Γ X (.Constant (.int i) j pos) (zC (.int i)):=qc C6 fun _ _ _=>.int _
theorem fi {b j pos}:QE Γ X (.Constant (.bool b) j pos) (zC (.bl b)):=qc GA fun _ _ _=>.bl _
theorem Fh {j pos}:QE Γ X (.Constant .none j pos) (zC .aj):=qc C7 fun _ _ _=>.aj
theorem qI {x j pos}:QE Γ X (.Constant (.str x) j pos) (zC (.str x)):=qc C8 fun _ _ _=>.str _
theorem y4 {x:cb} {i:Int} {u:am} (hg:Gl X x) (hm:X.mg x=some u) (r:RelV (.int i) u) (hd:(x==("__debug__" : cb))=false :=by decide):QE Γ X (.Name x pos) (zC (.int i)):=qc (sN hg hm r hd) fun _ _ _=>.int _
theorem dv {x:cb} {v:V} {u:am} (hg:Gl X x) (hm:X.mg x=some u) (r:RelV v u) (hd:(x==("__debug__" : cb))=false :=by decide):QE Γ X (.Name x pos) (zC (.raw v)):=qc (sN hg hm r hd) fun _ _ _=>.raw _
theorem iy {x:cb} {v:V} {u:am} (hg:Gl X x) (hm:X.mg x=none) (hv:bootBuiltins x=some u) (r:RelV v u) (hn:x ≠ "__name__" := by decide) (hd:(x==("__debug__" : cb))=false :=by decide):QE Γ X (.Name x pos) (zC (.raw v)):=qc (Bk hg hm hv r hn hd) fun _ _ _=>.raw _
abbrev dw:=Dv->Dv->Mh->ZK->Prop
def oQ (Γ:Gz) (r:R2) (z:dw):Prop:=∀(β:Bz) x y d e M H Q Q',β.P=Γ.P->β.w=Γ.w->β.K=Γ.K->Mz β M H->Rz β M H x d->Rz β M H y e->z d e M Q'->(∀d' M' v H',Ex β M H M' H'->Rz β M' H' v d'->Q' d' M'->Q v H')->r x y H Q
def ef (Γ:Gz) (X:Cx) (f:am->am->Oi am) (z:dw):Prop:=∃r,OpR X f r/\oQ Γ r z
def zOp (z:dw) (pa pb:aH):aH:=fun ρ M Q=>pa ρ M fun d M1=>pb ρ M1 fun e M2=>z d e M2 Q
theorem y6 {r:R2} {z:dw} (hz:oQ Γ r z) {σ:St} {H:Hp} {Q:VK} (h:lE Γ (zOp z pa pb) σ H Q):z9 r (lE Γ pa) (lE Γ pb) σ H Q :=by
 obtain ⟨β,ρ,M,Q',zr,h,q⟩:=h
 exact ⟨β,ρ,M,_,zr,h,fun d M1 v H1 x1 r1 h1=>⟨β,ρ,M1,_,zr.step x1,h1,fun e M2 u H2 x2 r2 h2=>hz β v u d e M2 H2 Q Q' zr.eP zr.ew zr.eK x2.mz (r1.ex x2) r2 h2 fun d' M' v' H' x3 r3 q3=>q _ _ _ _ (x1.trans (x2.trans x3)) r3 q3⟩⟩
theorem aI {op:Operator} {z:dw} (ho:ef Γ X (binaryOp op) z) (ha:QE Γ X a pa) (hb:QE Γ X b pb):QE Γ X (.BinOp a op b pos) (zOp z pa pb) :=by
 obtain ⟨r,h1,h2⟩:=ho
 exact (GK h1 ha hb).imp fun σ H Q h=>y6 h2 h
def zBool (Q:Bool->Mh->Prop):ZK:=fun d M=>match d with | .bl k=>Q k M|_=>False
theorem gL {Q:Bool->Mh->Prop} {d:Dv} {M:Mh} (h:zBool Q d M):∃k,d=.bl k/\Q k M :=by
 unfold zBool at h
 split at h
 ·exact ⟨_,rfl,h⟩
 ·exact h.elim
def zTest (p:aH):cE:=fun ρ M Q=>p ρ M (zBool Q)
theorem qJ {p:aH} {t:TE} (i:∀σ H Q,lE Γ p σ H Q->t σ H Q) {σ:St} {H:Hp} {Q:Bool->Hp->Prop} (h:lT Γ (zTest p) σ H Q):ug t σ H Q :=by
 obtain ⟨β,ρ,M,Q',zr,h,q⟩:=h
 refine i _ _ _ ⟨β,ρ,M,_,zr,h,fun d M1 v H1 x1 r1 h1=>?_⟩
 obtain ⟨k,rfl,h2⟩:=gL h1
 exact ⟨k,cA r1,q k M1 H1 x1 h2⟩
theorem cJ {op:Oy} {z:dw} (ho:ef Γ X (compareOp op) z) (ha:QE Γ X a pa) (hb:QE Γ X b pb) (hm:behindInMarks op b=false):QT Γ X (.Compare a [op] [b] pos) (zTest (zOp z pa pb)) :=by
 obtain ⟨r,h1,h2⟩:=ho
 exact (Bt h1 ha hb hm).imp fun σ H Q h=>qJ (fun _ _ _=>y6 h2) h
theorem fj {e:dL} {p:aH} (h:QE Γ X e p) (he:∀whole,isTrue e X.env whole=(do let v <- whole;standAt e.pos;holding [v] (truthy v)) :=by intro _;rfl):QT Γ X e (zTest p):=
 (C9 h he).imp fun σ H Q h=>qJ (fun _ _ _ h=>h) h
def zChain (z z':dw) (pa pb pc:aH):aH:=fun ρ M Q=>pa ρ M fun x M1=>pb ρ M1 fun y M2=>z x y M2 (zBool fun k M3=>if k=true then pc ρ M3 fun u M4=>z' y u M4 Q else Q (.bl false) M3)
theorem tO {r r':R2} {z z':dw} (hz:oQ Γ r z) (LL:oQ Γ r' z') {σ:St} {H:Hp} {Q:VK} (h:lE Γ (zChain z z' pa pb pc) σ H Q):pQ r r' (lE Γ pa) (lE Γ pb) (lE Γ pc) σ H Q :=by
 obtain ⟨β,ρ,M,Q',zr,h,q⟩:=h
 refine ⟨β,ρ,M,_,zr,h,fun d M1 v H1 x1 r1 h1=>⟨β,ρ,M1,_,zr.step x1,h1,fun e M2 u H2 x2 r2 h2=>hz β v u d e M2 H2 _ _ zr.eP zr.ew zr.eK x2.mz (r1.ex x2) r2 h2 fun d' M3 v' H3 x3 r3 h3=>?_⟩⟩
 obtain ⟨k,rfl,h4⟩:=gL h3
 have Fi:=x1.trans (x2.trans x3)
 refine ⟨k,cA r3,?_⟩
 cases k with
 |true=>
  rw [if_pos rfl] at h4 ⊢
  exact ⟨β,ρ,M3,_,zr.step Fi,h4,fun f M4 g H4 x4 r4 h5=>LL β u g e f M4 H4 _ _ zr.eP zr.ew zr.eK x4.mz ((r2.ex x3).ex x4) r4 h5 fun d5 M5 v5 H5 x5 r5 q5=>q _ _ _ _ (Fi.trans (x4.trans x5)) r5 q5⟩
 |false=>
  rw [if_neg f8] at h4 ⊢
  exact q _ _ _ _ Fi (.bl _) h4
theorem y7 {op gA:Oy} {z z':dw} (ho:ef Γ X (compareOp op) z) (dZ:ef Γ X (compareOp gA) z') (ha:QE Γ X a pa) (hb:QE Γ X b pb) (hc:QE Γ X c pc) (hm:lastMarks [op,gA] [b,c]=false :=by with_unfolding_all rfl) :
  QE Γ X (.Compare a [op,gA] [b,c] pos) (zChain z z' pa pb pc) :=by
 obtain ⟨r,h1,h2⟩:=ho
 obtain ⟨r',Fj,Fl⟩:=dZ
 exact (yt h1 Fj ha hb hc hm).imp fun σ H Q h=>tO h2 Fl h
theorem y8 {op gA:Oy} {z z':dw} (ho:ef Γ X (compareOp op) z) (dZ:ef Γ X (compareOp gA) z') (ha:QE Γ X a pa) (hb:QE Γ X b pb) (hc:QE Γ X c pc) (hm:lastMarks [op,gA] [b,c]=false :=by with_unfolding_all rfl) :
  QT Γ X (.Compare a [op,gA] [b,c] pos) (zTest (zChain z z' pa pb pc)) :=by
 obtain ⟨r,h1,h2⟩:=ho
 obtain ⟨r',Fj,Fl⟩:=dZ
 exact (yu h1 Fj ha hb hc hm).imp fun σ H Q h=>qJ (fun _ _ _=>tO h2 Fl) h
variable {tA vA:cE} {rest:List dL}
def zOr (t u:cE):cE:=fun ρ M Q=>t ρ M fun c M1=>if c=true then Q true M1 else u ρ M1 Q
def zNot (t:cE):cE:=fun ρ M Q=>t ρ M fun c M1=>Q (!c) M1
theorem qK (ha:QT Γ X a tA):QW Γ X (.BoolOp .Or [a] pos) tA:=Dc ha
theorem uQ (ha:QT Γ X a tA) (hb:QW Γ X (.BoolOp .Or (b::rest) pos) vA):QW Γ X (.BoolOp .Or (a::b::rest) pos) (zOr tA vA):=
 (GB ha hb).imp fun σ H Q ⟨β,ρ,M,Q',zr,h,q⟩=>⟨β,ρ,M,_,zr,h,fun k M1 H1 x1 h1=>by
  cases k with
  |false=>rw [if_neg f8] at h1 ⊢;exact ⟨β,ρ,M1,_,zr.step x1,h1,fun k2 M2 H2 x2 h2=>q _ _ _ (x1.trans x2) h2⟩
  |true=>rw [if_pos rfl] at h1 ⊢;exact q _ _ _ x1 h1⟩
theorem iz (ha:QT Γ X a tA):QT Γ X (.UnaryOp .Not a pos) (zNot tA):=(Dd ha).imp fun σ H Q ⟨β,ρ,M,Q',zr,h,q⟩=>⟨β,ρ,M,_,zr,h,fun k M1 H1 x1 h1=>q _ _ _ x1 h1⟩
theorem QW.pt {e:dL} {t:cE} (h:QW Γ X e t):QT Γ X e t:=PW.pt h
def zAndV (pa pb:aH):aH:=fun ρ M Q=>pa ρ M (zBool fun c M1=>if c=true then pb ρ M1 Q else Q (.bl false) M1)
def zNotV (pa:aH):aH:=fun ρ M Q=>pa ρ M (zBool fun c M1=>Q (.bl (!c)) M1)
theorem qM {op} (h:QE Γ X a pa):QE Γ X (.BoolOp op [a] pos) pa:=De h
theorem qN (ha:QE Γ X a pa) (hb:QE Γ X (.BoolOp .And (b::rest) pos) pb):QE Γ X (.BoolOp .And (a::b::rest) pos) (zAndV pa pb):=
 (Dg ha hb).imp fun σ H Q ⟨β,ρ,M,Q',zr,h,q⟩=>⟨β,ρ,M,_,zr,h,fun d M1 v H1 x1 r1 h1=>by
  obtain ⟨k,rfl,h2⟩:=gL h1
  refine ⟨k,cA r1,?_⟩
  cases k with
  |true=>rw [if_pos rfl] at h2 ⊢;exact ⟨β,ρ,M1,_,zr.step x1,h2,fun d2 M2 v2 H2 x2 r2 h2=>q _ _ _ _ (x1.trans x2) r2 h2⟩
  |false=>rw [if_neg f8] at h2 ⊢;exact q _ _ _ _ x1 (.bl _) h2⟩
theorem Fm (ha:QE Γ X a pa):QE Γ X (.UnaryOp .Not a pos) (zNotV pa):=(Dh ha).imp fun σ H Q ⟨β,ρ,M,Q',zr,h,q⟩=>⟨β,ρ,M,_,zr,h,fun d M1 v H1 x1 r1 h1=>by
  obtain ⟨k,rfl,h2⟩:=gL h1
  exact ⟨k,cA r1,q _ _ _ _ x1 (.bl _) h2⟩⟩
def zNil:du:=fun _ M Q=>Q [] M
def zCons (p:aH) (r:du):du:=fun ρ M Q=>p ρ M fun d M1=>r ρ M1 fun ds M2=>Q (d::ds) M2
variable {es:List dL} {za:du}
theorem ae:QA Γ X [] zNil:=DN.imp fun σ H Q ⟨β,ρ,M,Q',zr,h,q⟩=>q [] M [] H (.refl zr.mz) .nil h
theorem aa {e:dL} (ha:QE Γ X e pa) (hr:QA Γ X es za) (hs:starEach (e::es) X.env=(false,eval e X.env)::starEach es X.env :=by rfl):QA Γ X (e::es) (zCons pa za):=
 (Bv ha hr hs).imp fun σ H Q ⟨β,ρ,M,Q',zr,h,q⟩=>⟨β,ρ,M,_,zr,h,fun d M1 v H1 x1 r1 h1=>⟨β,ρ,M1,_,zr.step x1,h1,fun ds M2 vs H2 x2 r2 h2=>q _ _ _ _ (x1.trans x2) (.cons (r1.ex x2) r2) h2⟩⟩
def zTup (p:du):aH:=fun ρ M Q=>p ρ M fun ds M1=>ds.length<=sizeLine/\Q (.tup ds) M1
def zLst (p:du):aH:=fun ρ M Q=>p ρ M fun ds M1=>ds.length<=sizeLine/\Q (.lst ds) M1
def zLstP (p:du):aH:=fun ρ M Q=>p ρ M fun ds M1=>ds.length<=sizeLine/\∀a,M1 a=none->Q (.ptr a) (ay M1 a (.lst ds))
theorem fk {x1} (h:QA Γ X es za):QE Γ X (.Tuple es x1 pos) (zTup za):=(DP h).imp fun σ H Q ⟨β,ρ,M,Q',zr,h,q⟩=>⟨β,ρ,M,_,zr,h,fun ds M1 vs H1 x1 r1 h1=>⟨by rw [r1.len];exact h1.1,fun p hp=>by
  have x2:=Ex.lay x1.mz hp (.tup vs)
  exact q _ _ _ _ (x1.trans x2) (dn (x1.mz.fz hp) aE (r1.ex x2)) h1.2⟩⟩
theorem jO (h:QA Γ X es za):QE Γ X (.List es pos) (zLst za):=(vP h).imp fun σ H Q ⟨β,ρ,M,Q',zr,h,q⟩=>⟨β,ρ,M,_,zr,h,fun ds M1 vs H1 x1 r1 h1=>⟨by rw [r1.len];exact h1.1,fun p hp=>by
  have x2:=Ex.lay x1.mz hp (.lst vs)
  exact q _ _ _ _ (x1.trans x2) (qH (x1.mz.fz hp) aE (r1.ex x2)) h1.2⟩⟩
theorem kj (h:QA Γ X es za):QE Γ X (.List es pos) (zLstP za):=(vP h).imp fun σ H Q ⟨β,ρ,M,Q',zr,h,q⟩=>⟨β,ρ,M,_,zr,h,fun ds M1 vs H1 x1 r1 h1=>⟨by rw [r1.len];exact h1.1,fun p hp=>by
  have x2:=Ex.own x1.mz (.inr hp) r1
  exact q _ _ _ _ (x1.trans x2) (.ptr (by rw [updM_same];rfl)) (h1.2 p (x1.mz.free hp))⟩⟩
abbrev kQ:=List Dv->Mh->ZK->Prop
def AD (Γ:Gz) (r:List V->Hp->VK->Prop) (z:kQ):Prop:=∀(β:Bz) xs ds M H Q Q',β.P=Γ.P->β.w=Γ.w->β.K=Γ.K->Mz β M H->aG β M H xs ds->z ds M Q'->(∀d' M' v H',Ex β M H M' H'->Rz β M' H' v d'->Q' d' M'->Q v H')->r xs H Q
def eE (Γ:Gz) (X:Cx) (f:am) (z:kQ):Prop:=∃r,cm X f r/\AD Γ r z
def zCB (z:kQ) (p:du):aH:=fun ρ M Q=>p ρ M fun ds M1=>z ds M1 Q
theorem Fn {r:List V->Hp->VK->Prop} {z:kQ} (hz:AD Γ r z) {σ:St} {H:Hp} {Q:VK} (h:lE Γ (zCB z za) σ H Q):Ac r (lA Γ za) σ H Q :=by
 obtain ⟨β,ρ,M,Q',zr,h,q⟩:=h
 exact ⟨β,ρ,M,_,zr,h,fun ds M1 vs H1 x1 r1 h1=>hz β vs ds M1 H1 _ _ zr.eP zr.ew zr.eK x1.mz r1 h1 fun d' M' v' H' x2 r2 q2=>q _ _ _ _ (x1.trans x2) r2 q2⟩
variable {st:r9} {IP:List r9} {p p2:bq} {e:dL} {pe:aH}
def zNext:bq:=fun D ρ M=>D.nx ρ M
def zSeq (p q:bq):bq:=fun D ρ M=>p {D with nx:=q D} ρ M
theorem qss_nil:ix Γ X [] zNext:=Bm.imp fun D σ H ⟨β,ρ,M,D',zr,h,r⟩=>r.nx ρ M σ H (.refl zr.mz) zr h
theorem ah (h1:QS Γ X st p) (h2:ix Γ X IP p2):ix Γ X (st::IP) (zSeq p p2):=(yl h1 h2).imp fun D σ H ⟨β,ρ,M,D',zr,h,r⟩=>
 ⟨β,ρ,M,_,zr,h,fun bg M' az H' x fm h'=>⟨β,bg,M',D',fm,h',r.step x⟩,r.rt,r.bk,r.ct⟩
theorem aq (h1:QS Γ X st p):ix Γ X [st] p:=Bn h1
def zDrop (p:aH):bq:=fun D ρ M=>p ρ M fun _ M1=>D.nx ρ M1
theorem fx (he:QE Γ X e pe) (hs:swapsWith e none pos.line X.env=pure false :=by rfl):QS Γ X (.Expr e pos) (zDrop pe):=(Bo he hs).imp fun D σ H ⟨β,ρ,M,D',zr,h,r⟩=>
 ⟨β,ρ,M,_,zr,h,fun d M1 v H1 x1 r1 h1=>r.nx ρ M1 σ H1 x1.ev (zr.step x1) h1⟩
def zRet (p:aH):bq:=fun D ρ M=>p ρ M D.rt
theorem a7 (he:QE Γ X e pe):QS Γ X (.Return (some e) pos) (zRet pe):=(Di he).imp fun D σ H ⟨β,ρ,M,D',zr,h,r⟩=>⟨β,ρ,M,_,zr,h,fun d M' v H' x r1 h1=>r.rt _ _ _ _ x.ev (zr.ent.trans x.toEy) r1 h1⟩
def zIfS (c:cE) (p q:bq):bq:=fun D ρ M=>c ρ M fun b M1=>if b=true then p D ρ M1 else q D ρ M1
theorem cF {as bs:List r9} {pa pb:bq} (hc:QT Γ X c tA) (ha:ix Γ X as pa) (hb:ix Γ X bs pb):QS Γ X (.If c as bs pos) (zIfS tA pa pb):=(GI hc ha hb).imp fun D σ H ⟨β,ρ,M,D',zr,h,r⟩=>
 ⟨β,ρ,M,_,zr,h,fun k M1 H1 x1 h1=>by
  cases k with
  |true=>rw [if_pos rfl] at h1 ⊢;exact ⟨β,ρ,M1,D',zr.step x1,h1,r.step x1.ev⟩
  |false=>rw [if_neg f8] at h1 ⊢;exact ⟨β,ρ,M1,D',zr.step x1,h1,r.step x1.ev⟩⟩
def zgName (i:Nat):b7:=fun d ρ M N=>N (ρ.set i (some d)) M
theorem aS {i:Nat} {x:cb} (hN:X.N.Nodup) (hi:X.N[i]?=some x) (hx:Loc X.env.scope x) (hf:X.fn x=true\/X.env.scope.names.lookup x=some .local :=by first|exact .inl rfl|exact .inr rfl|assumption):QG Γ X (.Name x pos) (zgName i):=
 (Bp hN hi hx hf).imp fun v σ H N ⟨β,d,ρ,M,N',zr,r,h,q⟩=>q _ _ _ _ (.refl zr.mz) (zr.set i r) h
def zgNil:jN:=fun ds ρ M N=>match ds with | []=>N ρ M|_=>False
def zgCons (g:b7) (u:jN):jN:=fun ds ρ M N=>match ds with|d::r=>g d ρ M fun bg M'=>u r bg M' N | []=>False
theorem nC:AB Γ X [] zgNil:=Bq.imp fun vs σ H N ⟨β,ds,ρ,M,N',zr,r,h,q⟩=>by
 unfold zgNil at h
 split at h
 ·have e:vs=[]:=List.length_eq_zero_iff.mp r.len
  exact ⟨e,q _ _ _ _ (.refl zr.mz) zr h⟩
 ·exact h.elim
theorem fy {g:b7} {u:jN} (h1:QG Γ X e g) (h2:AB Γ X es u) (hs:(assignEach (e::es) X.env).map (·.2)=assign e X.env::(assignEach es X.env).map (·.2) :=by rfl):AB Γ X (e::es) (zgCons g u):=
 (yn h1 h2 hs).imp fun vs σ H N ⟨β,ds,ρ,M,N',zr,r,h,q⟩=>by
  unfold zgCons at h
  split at h
  ·rename_i d rest
   cases vs with
   |nil=>exact absurd r.len (by simp)
   |cons v vs=>exact ⟨v,vs,rfl,β,d,ρ,M,_,zr,r.head,h,fun bg M' az H' x fm h'=>⟨β,rest,bg,M',N',fm,r.tail.ex x,h',fun a b c d y=>q a b c d (x.trans y)⟩⟩
  ·exact h.elim
def zgTup (n:Nat) (u:jN):b7:=fun d ρ M N=>match d with | .tup ds=>ds.length=n/\u ds ρ M N|_=>False
theorem qO {k:Nat} {u:jN} {n:Nat} (hc:X.calm=true) (h:AB Γ X es u) (hn:(assignEach es X.env).length=n :=by rfl) (ig:(assignEach es X.env).findIdx? (·.1)=none :=by rfl):QG Γ X (.Tuple es k pos) (zgTup n u):=
 (Dl hc h hn ig).imp fun v σ H N ⟨β,d,ρ,M,N',zr,r,h,q⟩=>by
  unfold zgTup at h
  split at h
  ·obtain ⟨a,vs,rfl,m,e,rs⟩:=bh r
   exact ⟨a,vs,rfl,bp.of e,by rw [rs.len];exact h.1,β,_,ρ,M,N',zr,rs,h.2,q⟩
  ·exact h.elim
def zAsg (p:aH) (g:b7):bq:=fun D ρ M=>p ρ M fun d M1=>g d ρ M1 D.nx
theorem Hd {g:b7} {D:Ends} {σ:St} {H:Hp} (h:lS Γ (zAsg pe g) D σ H):pN (lE Γ pe) (lG Γ g) D σ H :=by
 obtain ⟨β,ρ,M,D',zr,h,r⟩:=h
 exact ⟨β,ρ,M,_,zr,h,fun d M1 v H1 x1 r1 h1=>⟨β,d,ρ,M1,D'.nx,zr.step x1,r1,h1,fun bg M' az H' x fm h'=>r.nx _ _ _ _ (x1.trans x).ev fm h'⟩⟩
theorem iA {tg:dL} {g:b7} (he:QE Γ X e pe) (hg:QG Γ X tg g) (hs:swapsWithSole [tg] e pos.line X.env=pure false :=by rfl) (hw:swappedStores [tg] e X.env=pure none :=by rfl)
  (h1:(assignEach [tg] X.env).map (·.2)=[assign tg X.env] :=by rfl):QS Γ X (.Assign [tg] e pos) (zAsg pe g):=(Dn he hg hs hw h1).imp fun D σ H h=>Hd h
theorem uR {t:TE} (i:∀σ H Q,lE Γ pe σ H Q->t σ H Q) {n:Nat} {D:Ends} {σ:St} {H:Hp} (h:lS Γ (zAsg pe (zgName n)) D σ H):pN t (pv n) D σ H :=by
 obtain ⟨β,ρ,M,D',zr,h,r⟩:=h
 exact i _ _ _ ⟨β,ρ,M,_,zr,h,fun d M1 v H1 x1 r1 h1=>r.nx _ _ _ _ x1.ev ((zr.step x1).set n r1) h1⟩
theorem aQ {i:Nat} {x:cb} {pos':u4} (hN:X.N.Nodup) (hi:X.N[i]?=some x) (hx:Loc X.env.scope x) (he:QE Γ X e pe) (hs:swapsWith e (some (.Name x pos')) pos.line X.env=pure false :=by rfl) (hf:X.fn x=true\/X.env.scope.names.lookup x=some .local :=by first|exact .inl rfl|exact .inr rfl|assumption) :
  QS Γ X (.Assign [.Name x pos'] e pos) (zAsg pe (zgName i)):=(Dp hN hi hx he hs hf).imp fun D σ H h=>uR (fun _ _ _ h=>h) h
end
section
variable {X:Cx} {Γ:Gz} {β:Bz}
def ziTup (p:aH):fh:=fun ρ M R=>p ρ M fun d M1=>match d with | .tup ds=>R ds M1|_=>False
def ziLst (p:aH):fh:=fun ρ M R=>p ρ M fun d M1=>match d with | .lst ds=>R ds M1|_=>False
def cX (lo:Int) (n:Nat):List Dv:=(io n).map fun i=>.int (lo+(i:Nat))
def ziRng1 (p:du):fh:=fun ρ M R=>p ρ M fun ds M1=>match ds with | [.int j] => -(2 ^ 62)<=j/\j<2 ^ 62/\R (cX 0 j.toNat) M1|_=>False
theorem iL {J:It} {vs:List V} {ds:List Dv} {M:Mh} {H:Hp} (r:aG β M H vs ds) (h:∀M' H',Ey M H M' H'->Runs J vs H'):wW β J ds M H:=fun bQ M' H' bx x m i=>by
 have q:=h M' H' x i
 rw [<- r.len]
 refine ⟨fun hi=>⟨(q.1 hi).1,fun v jd y=>?_⟩,q.2⟩
 obtain ⟨e,hv⟩:=(q.1 hi).2 v jd y
 subst e
 obtain ⟨d,hd,rd⟩:=r.get' hv
 exact ⟨.refl m,d,hd,(rd.bx bx).ey x⟩
variable {tg l:dL} {p:aH} {pa:du} {K:bi}
theorem mF (hK:X.K=K) (hl:QE Γ X l p):QI Γ X tg l (ziTup p):=(BL hK hl).imp fun σ H R ⟨β,ρ,M,R',zr,h,q⟩=>⟨β,ρ,M,_,zr,h,fun d M1 v H1 x1 r1 h1=>by
 revert h1
 split
 ·intro h1
  obtain ⟨a,vs,rfl,m,e,rs⟩:=bh r1
  exact ⟨a,rfl,⟨_,bp.of e⟩,q _ _ _ _ x1 (iL rs fun M' H' x=>yN (bp.of (x.get m.1 e rfl))) h1⟩
 ·exact fun h=>h.elim⟩
theorem km (hK:X.K=K) (hl:QE Γ X l p):QI Γ X tg l (ziLst p):=(yO hK hl).imp fun σ H R ⟨β,ρ,M,R',zr,h,q⟩=>⟨β,ρ,M,_,zr,h,fun d M1 v H1 x1 r1 h1=>by
 revert h1
 split
 ·intro h1
  obtain ⟨a,vs,rfl,m,e,rs⟩:=fN r1
  exact ⟨a,rfl,⟨_,bB.of e⟩,q _ _ _ _ x1 (iL rs fun M' H' x=>wj (bB.of (x.get m.1 e rfl))) h1⟩
 ·exact fun h=>h.elim⟩
theorem wX {lo:Int} {n:Nat} {M:Mh} {H:Hp}:aG β M H ((io n).map fun i=>V.int (lo+(i:Nat))) (cX lo n):=⟨by simp [cX],fun i v d a b=>by
 unfold cX at b
 rw [cr] at a b
 cases e:(io n)[i]? with
 |none=>rw [e] at a;cases a
 |some c=>rw [e] at a b;cases a;cases b;exact .int _⟩
theorem cZ {xs:List V} {d:Dv} {M:Mh} {H:Hp} (r:aG β M H xs [d]):∃v,xs=[v]/\Rz β M H v d :=by
 match xs,r with
 | [v],r=>exact ⟨v,rfl,r.head⟩
 | [],r=>exact absurd r.len (by simp)
 |_::_::_,r=>exact absurd r.len (by simp)
theorem fA {xs:List V} {d e:Dv} {M:Mh} {H:Hp} (r:aG β M H xs [d,e]):∃v u,xs=[v,u]/\Rz β M H v d/\Rz β M H u e :=by
 match xs,r with
 | [v,u],r=>exact ⟨v,u,rfl,r.head,r.tail.head⟩
 | [],r=>exact absurd r.len (by simp)
 | [_],r=>exact absurd r.len (by simp)
 |_::_::_::_,r=>exact absurd r.len (by simp)
section
variable {e e1 e2:dL} {pr pos:u4}
theorem Fo {σ:St} {H:Hp} {R:It->Hp->Prop} (h:lI Γ (ziRng1 pa) σ H R):z8 (lA Γ pa) σ H R :=by
 obtain ⟨β,ρ,M,R',zr,h,q⟩:=h
 refine ⟨β,ρ,M,_,zr,h,fun ds M1 vs H1 x1 r1 h1=>?_⟩
 revert h1
 split
 ·rintro ⟨b1,b2,h1⟩
  obtain ⟨v,rfl,r⟩:=cZ r1
  rw [aC r]
  exact ⟨_,rfl,b1,b2,q _ _ _ _ x1 (iL wX fun M' H' x=>uy) h1⟩
 ·exact fun h=>h.elim
end
def zLoop (g:b7) (tb:bq) (D:eD):List Dv->ax->Mh->Prop
 | [],ρ,M=>D.nx ρ M
 |d::ds,ρ,M=>g d ρ M fun ez M2=>tb {D with nx:=zLoop g tb D ds,ct:=zLoop g tb D ds,bk:=D.nx} ez M2
def zFor (zi:fh) (g:b7) (tb:bq):bq:=fun D ρ M=>zi ρ M fun ds M1=>zLoop g tb D ds ρ M1
def zForM (zi:fh) (g:b7) (tb:Mh->bq):bq:=fun D ρ M=>zi ρ M fun ds M1=>zLoop g (tb M1) D ds ρ M1
theorem Zr.root {M:Mh} {ρ:ax} {σ:St} {H:Hp} (z:Zr Γ β M ρ σ H):Zr ⟨β,M,H⟩ β M ρ σ H:=⟨rfl,rfl,rfl,rfl,fun _ h=>h,z.mz.wf,.refl,z.mz,z.len,z.at'⟩
theorem Zr.wY {M M1:Mh} {ρ IQ:ax} {σ kJ:St} {H H1:Hp} (z:Zr Γ β M ρ σ H) (y:Zr ⟨β,M,H⟩ β M1 IQ kJ H1):Zr Γ β M1 IQ kJ H1:=⟨z.eP,z.ew,z.eK,z.et,z.sub,z.wf,z.ent.trans y.ent,y.mz,y.len,y.at'⟩
theorem He {zi:fh} {g:b7} {tb:Mh->bq} {t:TS} (hb:∀aO:Gz,aO.P=Γ.P->aO.w=Γ.w->aO.K=Γ.K->aO.tb=Γ.tb->∀D σ H,lS aO (tb aO.M0) D σ H->t D σ H) {tg:TG} (hg:∀aO:Gz,aO.P=Γ.P->aO.w=Γ.w->aO.K=Γ.K->aO.tb=Γ.tb->∀x σ H N,lG aO g x σ H N->tg x σ H N) {D:Ends} {σ:St} {H:Hp} (h:lS Γ (zForM zi g tb) D σ H):Dy (lI Γ zi) tg t D σ H :=by
 obtain ⟨β,ρ,M,D',zr,h,r⟩:=h
 refine ⟨β,ρ,M,_,zr,h,fun ds M1 H1 J x1 it h1=>?_⟩
 have je:=zr.step x1
 refine ⟨fun i m az H'=>m=ds.length - i/\i<=ds.length/\∃bg M',Zr ⟨β,M1,H1⟩ β M' bg az H'/\zLoop g (tb M1) D' (ds.drop i) bg M',⟨ds.length,rfl,l8 _,ρ,M1,je.root,h1⟩,?_⟩
 rintro i m az H' ⟨rfl,hi,bg,M',fm,h'⟩
 have ev:∀{M2:Mh} {ez:ax} {fL:St} {H2:Hp},Zr ⟨β,M1,H1⟩ β M2 ez fL H2->Ev β M H M2 H2:=fun z=>x1.ev.trans ⟨z.ent.keep,z.ent.new,z.mz⟩
 by_cases aX:i<ds.length
 ·have q:=(it β M' H' .refl fm.ent fm.mz i).1 aX
  refine .inr ⟨q.1,fun fL H2=>∃ez M2,Zr ⟨β,M1,H1⟩ β M2 ez fL H2/\zLoop g (tb M1) D' (ds.drop (i+1)) ez M2,fun fL H2 ⟨ez,M2,LN,h2⟩=>⟨ds.length - (i+1),by omega,rfl,aX,ez,M2,LN,h2⟩,fun v jd y=>?_⟩
  obtain ⟨x2,d,hd,rd⟩:=q.2 v jd y
  have e:ds.drop i=d::ds.drop (i+1) :=by
   rw [LM aX]
   rw [ap aX] at hd
   cases hd
   rfl
  rw [e] at h'
  refine hg ⟨β,M1,H1⟩ zr.eP zr.ew zr.eK zr.et _ _ _ _ ⟨β,d,bg,M',_,fm.step x2,rd,h',fun LO M3 iX H3 x3 LQ h3=>hb ⟨β,M1,H1⟩ zr.eP zr.ew zr.eK zr.et _ _ _ ⟨β,LO,M3,_,LQ,h3,?_⟩⟩
  exact ⟨fun mG M4 wZ H4 x4 jf h4=>⟨mG,M4,jf,h4⟩,fun d4 M4 v4 H4 x4 e4 r4 h4=>r.rt _ _ _ _ (x1.ev.trans ⟨e4.keep,e4.new,x4.mz⟩) (je.ent.trans e4) r4 h4,fun mG M4 wZ H4 x4 jf h4=>r.nx _ _ _ _ (ev jf) (je.wY jf) h4,fun mG M4 wZ H4 x4 jf h4=>⟨mG,M4,jf,h4⟩⟩
 ·have e:i=ds.length :=by omega
  subst e
  rw [OT] at h'
  exact .inl ⟨(it β M' H' .refl fm.ent fm.mz _).2 (br _),r.nx _ _ _ _ (ev fm) (je.wY fm) h'⟩
def LR (Γ:Gz) (p:Mh->bq):TS:=fun D σ H=>∃aO:Gz,aO.P=Γ.P/\aO.w=Γ.w/\aO.K=Γ.K/\aO.tb=Γ.tb/\lS aO (p aO.M0) D σ H
def LU (Γ:Gz) (p:b7):TG:=fun x σ H N=>∃aO:Gz,aO.P=Γ.P/\aO.w=Γ.w/\aO.K=Γ.K/\aO.tb=Γ.tb/\lG aO p x σ H N
theorem B9 {body:List r9} {iter:dL} {zi:fh} {g:b7} {tb:Mh->bq} {pos:u4} (hp:P5 (model X.prog X.w) X.A X.env X.xe) (hc:X.calm=true) (hi:QI Γ X tg iter zi)
  (AF:∀(aO:Gz) (M1:Mh),aO.M0=M1->aO.P=Γ.P->aO.w=Γ.w->aO.K=Γ.K->aO.tb=Γ.tb->QG aO X tg g/\ix aO X body (tb M1))
  (hs:∀x,foldedSetIterable iter X.env x=pure x :=by intro _;rfl):QS Γ X (.For tg iter body [] pos) (zForM zi g tb):=
 (Dz (g:=LU Γ g) (tb:=LR Γ tb) hp hc hi (fun pins s σ H v u Q I r h=>by obtain ⟨aO,e1,e2,e3,e4,h⟩:=h;exact (AF aO _ rfl e1 e2 e3 e4).1 pins s σ H v u Q I r h) ⟨fun pins s σ H D I h=>by obtain ⟨aO,e1,e2,e3,e4,h⟩:=h;exact (AF aO _ rfl e1 e2 e3 e4).2 pins s σ H D I h⟩ hs).imp
  fun D σ H h=>He (fun aO e1 e2 e3 e4 D σ H h=>⟨aO,e1,e2,e3,e4,h⟩) (fun aO e1 e2 e3 e4 x σ H N h=>⟨aO,e1,e2,e3,e4,h⟩) h
theorem cg {body:List r9} {iter:dL} {zi:fh} {g:b7} {tb:bq} {pos:u4} (hp:P5 (model X.prog X.w) X.A X.env X.xe) (hc:X.calm=true) (hi:QI Γ X tg iter zi)
  (AF:∀aO:Gz,aO.P=Γ.P->aO.w=Γ.w->aO.K=Γ.K->aO.tb=Γ.tb->QG aO X tg g/\ix aO X body tb)
  (hs:∀x,foldedSetIterable iter X.env x=pure x :=by intro _;rfl):QS Γ X (.For tg iter body [] pos) (zFor zi g tb):=B9 (tb:=fun _=>tb) hp hc hi (fun aO M1 _ e1 e2 e3 e4=>AF aO e1 e2 e3 e4) hs
theorem cz {a:dL} {p pos:u4} (hg:Gl X "range") (hm:X.mg "range" = none) (ha:QA Γ X [a] pa) (hs:starEach [a] X.env=[(false,eval a X.env)] :=by rfl):QI Γ X tg (.Call (.Name "range" p) [a] [] pos) (ziRng1 pa):=(vE hg hm ha hs).imp fun σ H R h=>Fo h
def w5 (c:cE) (tb:bq):bq:=fun D ρ M=>∃W:Nat->ax->Mh->Prop,(∃m,W m ρ M)/\∀m ρ M,W m ρ M->
 c ρ M fun b M1=>if b=true then tb {D with nx:=fun bg M'=>∃m',m'<m/\W m' bg M',ct:=fun bg M'=>∃m',m'<m/\W m' bg M',bk:=D.nx} ρ M1 else D.nx ρ M1
theorem Ca {c:cE} {tb:bq} {D:Ends} {σ:St} {H:Hp} (h:lS Γ (w5 c tb) D σ H):vB (lT Γ c) (lS Γ tb) D σ H :=by
 obtain ⟨β,ρ,M,D',zr,⟨W,⟨m0,w0⟩,turn⟩,r⟩:=h
 refine ⟨fun m az H'=>∃bg M',Ev β M H M' H'/\Zr Γ β M' bg az H'/\W m bg M',⟨m0,ρ,M,.refl zr.mz,zr,w0⟩,?_⟩
 rintro m az H' ⟨bg,M',x',fm,w'⟩
 refine ⟨β,bg,M',_,fm,turn m bg M' w',fun k M1 H1 x1 h1=>?_⟩
 have w6:=x'.trans x1.ev
 cases k with
 |true=>
  dsimp only at h1 ⊢
  rw [if_pos rfl] at h1 ⊢
  refine ⟨fun fL H2=>∃m',m'<m/\∃ez M2,Ev β M H M2 H2/\Zr Γ β M2 ez fL H2/\W m' ez M2,fun fL H2 h2=>h2,β,bg,M1,_,fm.step x1,h1,?_⟩
  exact ⟨fun mG M4 wZ H4 x4 jf ⟨m',hm,w4⟩=>⟨m',hm,mG,M4,w6.trans x4,jf,w4⟩,fun d4 M4 v4 H4 x4 e4 r4 h4=>r.rt _ _ _ _ (w6.trans x4) e4 r4 h4,fun mG M4 wZ H4 x4 jf h4=>r.nx _ _ _ _ (w6.trans x4) jf h4,fun mG M4 wZ H4 x4 jf ⟨m',hm,w4⟩=>⟨m',hm,mG,M4,w6.trans x4,jf,w4⟩⟩
 |false=>
  dsimp only at h1 ⊢
  rw [if_neg f8] at h1 ⊢
  exact r.nx _ _ _ _ w6 (fm.step x1) h1
theorem y9 {body:List r9} {c:dL} {zc:cE} {tb:bq} {pos:u4} (hp:P5 (model X.prog X.w) X.A X.env X.xe) (hc:QT Γ X c zc) (hb:ix Γ X body tb):QS Γ X (.While c body [] pos) (w5 zc tb):=(yo hp hc hb).imp fun D σ H h=>Ca h
theorem bJ {g:b7} {tb:bq} {D:eD} (J:Nat->ax->Mh->Prop) {ds:List Dv} {ρ:ax} {M:Mh} (h0:J 0 ρ M)
  (hs:∀i d ρ M (N:ax->Mh->Prop),ds[i]?=some d->J i ρ M->(∀bg M',J (i+1) bg M'->N bg M')->g d ρ M fun ez M2=>tb {D with nx:=N,ct:=N,bk:=D.nx} ez M2)
  (hd:∀ρ M,J ds.length ρ M->D.nx ρ M):zLoop g tb D ds ρ M :=by
 have key:∀(n i:Nat) ρ M,n=ds.length - i->i<=ds.length->J i ρ M->zLoop g tb D (ds.drop i) ρ M :=by
  intro n
  induction n with
  |zero=>
   intro i ρ M e hi h
   have:i=ds.length :=by omega
   subst this
   rw [OT]
   exact hd _ _ h
  |succ n ih=>
   intro i ρ M e hi h
   have aX:i<ds.length :=by omega
   rw [LM aX]
   exact hs i _ ρ M _ (ap aX) h fun ρ M h=>ih (i+1) ρ M (by omega) aX h
 exact key _ 0 ρ M rfl (l8 _) h0
end
section
variable {X:Cx} {Γ:Gz} {β:Bz}
def zBlock (tn:Nat) (idx:List Nat) (ρ:ax):ax:=li tn none++idx.map fun i=>(ρ[i]?).join
theorem Zr.block {M:Mh} {ρ:ax} {σ:St} {H:Hp} (z:Zr Γ β M ρ σ H) (tn:Nat) (idx:List Nat):Zr Γ β M (zBlock tn idx ρ) (bR tn idx σ) H:=⟨z.eP,z.ew,z.eK,z.et,z.sub,z.wf,z.ent,z.mz,by simp [zBlock,bR],fun i d e=>by
 unfold zBlock at e
 unfold bR
 rw [Pi] at e ⊢
 rw [N4] at e ⊢
 split at e
 ·rw [AL] at e
  split at e <;> cases e
 ·rename_i hi
  rw [if_neg hi]
  rw [cr] at e ⊢
  cases q:idx[i - tn]? with
  |none=>rw [q] at e;cases e
  |some j=>
   rw [q] at e
   have e2:ρ[j]?=some (some d) :=by
    simp only [NT,LB] at e
    cases q2:ρ[j]? with
    |none=>rw [q2] at e;cases e
    |some o=>rw [q2] at e;simp only [P0] at e;rw [e]
   obtain ⟨v,hv,r⟩:=z.at' j d e2
   exact ⟨v,by simp [hv],r⟩⟩
theorem Zr.enter {M:Mh} {ρ:ax} {σ:St} {H:Hp} {D:ag} {o:HO} (z:Zr Γ β M ρ σ H) (hD:H D=none) (ho:lq o=true):Zr Γ (β.add D) M ρ σ (upd H D o):=
 ⟨z.eP,z.ew,z.eK,z.et,fun a h=>ff _ (z.sub a h),z.wf,z.ent.over (z.ent.gone hD (by
  cases e:Γ.M0 D with
  |none=>rfl
  |some u=>have:=z.ent.dom D (by rw [e];rfl);rw [z.mz.free hD] at this;cases this)),z.mz.enter hD ho,z.len,fun i d e=>let ⟨v,h,r⟩:=z.at' i d e;⟨v,h,r.enter hD⟩⟩
theorem Zr.over {M:Mh} {ρ:ax} {σ:St} {H:Hp} {D:ag} {o:HO} (z:Zr Γ β M ρ σ H) (hD:D∈β.hid) (ho:lq o=true) (hM:M D=none) (ht:D ∉ β.tb) (h0:Γ.H0 D=none):Zr Γ β M ρ σ (upd H D o):=
 ⟨z.eP,z.ew,z.eK,z.et,z.sub,z.wf,z.ent.over h0,z.mz.over hD ho hM ht,z.len,fun i d e=>let ⟨v,h,r⟩:=z.at' i d e;⟨v,h,r.over hD⟩⟩
abbrev tP (Γ:Gz) (X:Cx) (ifs:List dL) (t:cE):Prop:=iq X ifs (lT Γ t)
def zNoIf:cE:=fun _ M Q=>Q true M
theorem kn:tP Γ X [] zNoIf:=BH.imp fun σ H Q ⟨β,ρ,M,Q',zr,h,q⟩=>q true M H (.refl zr.mz) h
theorem Cb {c:dL} {tc:cE} (h:QT Γ X c tc):tP Γ X [c] tc:=BI h
def fU (g:b7) (tt:cE) (te:aH):List Dv->ax->Mh->(List Dv->Mh->Prop)->Prop
 | [],_,M,Q=>Q [] M
 |d::ds,τ,M,Q=>g d τ M fun aB M2=>tt aB M2 fun b M3=>if b=true then te aB M3 fun y M4=>fU g tt te ds aB M4 fun ys M5=>Q (y::ys) M5 else fU g tt te ds aB M3 Q
structure Acc (Γ:Gz) (β:Bz) (D:ag) (M1:Mh) (H1:Hp) (bK:ax) (M:Mh) (τ:St) (H:Hp) (acc:List V) (bA:List Dv):Prop where
 ey:Ey M1 H1 M H
 m:M D=none
 zr:Zr Γ (β.add D) M bK τ H
 at':H D=some (.lst acc)
 rs:aG (β.add D) M H acc bA
 h1:H1 D=none
 h0:Γ.H0 D=none
 nt:D ∉ β.tb
theorem Acc.start {D:ag} {M1:Mh} {H1:Hp} {bK:ax} {τ:St} (zr:Zr Γ β M1 bK τ H1) (hD:H1 D=none):Acc Γ β D M1 H1 bK M1 τ (upd H1 D (.lst [])) [] []:=
 ⟨Ey.refl.over hD,zr.mz.free hD,zr.enter hD rfl,aE,.nil,hD,zr.ent.gone hD (by
  cases e:Γ.M0 D with
  |none=>rfl
  |some u=>have:=zr.ent.dom D (by rw [e];rfl);rw [zr.mz.free hD] at this;cases this),zr.mz.Ki hD⟩
section
variable {D:ag} {M1 M M2:Mh} {H1 H H2:Hp} {bK Fp:ax} {τ aB:St} {acc:List V} {bA:List Dv}
theorem Acc.step (A:Acc Γ β D M1 H1 bK M τ H acc bA) (x:Ex (β.add D) M H M2 H2) (z:Zr Γ (β.add D) M2 Fp aB H2):Acc Γ β D M1 H1 Fp M2 aB H2 acc bA:=
 ⟨A.ey.trans x.toEy,x.new D _ A.m A.at',z,x.get A.m A.at' rfl,A.rs.ex x,A.h1,A.h0,A.nt⟩
theorem Acc.snoc (A:Acc Γ β D M1 H1 bK M τ H acc bA) {y:V} {d:Dv} (r:Rz (β.add D) M H y d):Acc Γ β D M1 H1 bK M τ (upd H D (.lst (acc++[y]))) (acc++[y]) (bA++[d]) :=by
 have hD:D∈(β.add D).hid:=kt
 exact ⟨A.ey.over A.h1,A.m,A.zr.over hD rfl A.m A.nt A.h0,aE,⟨by simp [A.rs.len],fun i v d a b=>((A.rs.snoc r).at' i v d a b).over hD⟩,A.h1,A.h0,A.nt⟩
theorem Acc.fz (A:Acc Γ β D M1 H1 bK M τ H acc bA) (m1:Mz β M1 H1):Fz β M D:=⟨A.m,(m1.fz A.h1).2⟩
theorem Acc.mz (A:Acc Γ β D M1 H1 bK M τ H acc bA):Mz β M H:=Mz.sub (β:=β.add D) (bQ:=β) rfl rfl rfl rfl (fun a h=>ff _ h) A.zr.mz
theorem Acc.items (A:Acc Γ β D M1 H1 bK M τ H acc bA):aG β M H acc bA:=⟨A.rs.len,fun i v d a b=>Rz.sub (β:=β.add D) (bQ:=β) rfl rfl rfl (fun a h=>ff _ h) (A.rs.at' i v d a b)⟩
theorem Acc.ex (A:Acc Γ β D M1 H1 bK M τ H acc bA):Ex β M1 H1 M H:=⟨A.ey,A.mz⟩
end
def zComp (tn:Nat) (idx:List Nat) (zi:fh) (g:b7) (tt:cE) (te:aH):aH:=fun ρ M Q=>zi ρ M fun ds M1=>ds.length<sizeLine/\fU g tt te ds (zBlock tn idx ρ) M1 fun ys M2=>Q (.lst ys) M2
def zCompP (tn:Nat) (idx:List Nat) (zi:fh) (g:b7) (tt:cE) (te:aH):aH:=fun ρ M Q=>zi ρ M fun ds M1=>ds.length<sizeLine/\fU g tt te ds (zBlock tn idx ρ) M1 fun ys M2=>∀a,M2 a=none->Q (.ptr a) (ay M2 a (.lst ys))
variable {zi:fh} {g:b7} {tt:cE} {te:aH} {tn:Nat} {idx:List Nat}
def jP (Γ:Gz) (β:Bz) (D:ag) (M1:Mh) (H1:Hp) (g:b7) (tt:cE) (te:aH) (ds:List Dv) (Q':List Dv->Mh->Prop) (i m:Nat) (τ:St) (H:Hp):Prop:=
 m=ds.length - i/\i<=ds.length/\∃bK M acc bA,Acc Γ β D M1 H1 bK M τ H acc bA/\acc.length<=i/\fU g tt te (ds.drop i) bK M fun ys M2=>Q' (bA++ys) M2
theorem oR {D:ag} {M1:Mh} {H1:Hp} {ds:List Dv} {Q':List Dv->Mh->Prop} {J:It} (it:wW β J ds M1 H1) (hlen:ds.length<sizeLine) {i m:Nat} {τ:St} {H:Hp} (w:jP Γ β D M1 H1 g tt te ds Q' i m τ H)
  {C:V->St->Hp->Prop} (hC:∀y aB H4 acc,H4 D=some (.lst acc)->acc.length<sizeLine->(∃m',m'<m/\jP Γ β D M1 H1 g tt te ds Q' (i+1) m' aB (upd H4 D (.lst (acc++[y]))))->C y aB H4) :
  (J.stop i H/\∃bK M acc bA,Acc Γ β D M1 H1 bK M τ H acc bA/\acc.length<sizeLine/\Q' bA M) \/
  (J.go i H/\∀x H',J.yld i H x H'->lG Γ g x τ H' fun aB H2=>lT Γ tt aB H2 fun b H3=>if b=true then lE Γ te aB H3 fun y H4=>C y aB H4 else ∃m',m'<m/\jP Γ β D M1 H1 g tt te ds Q' (i+1) m' aB H3) :=by
 obtain ⟨rfl,hi,bK,M,acc,bA,A,nB,h⟩:=w
 have q:=it (β.add D) M H (.add A.h1) A.ey A.zr.mz i
 by_cases aX:i<ds.length
 ·refine .inr ⟨(q.1 aX).1,fun x H' y=>?_⟩
  obtain ⟨x2,d,hd,rd⟩:=(q.1 aX).2 x H' y
  have e:ds.drop i=d::ds.drop (i+1) :=by
   rw [LM aX]
   rw [ap aX] at hd
   cases hd
   rfl
  rw [e] at h
  have A2:=A.step x2 (A.zr.step x2)
  refine ⟨β.add D,d,bK,M,_,A2.zr,rd,h,fun iM M3 oS H3 x3 z3 h3=>?_⟩
  have A3:=A2.step x3 z3
  refine ⟨β.add D,iM,M3,_,z3,h3,fun b M4 H4 x4 h4=>?_⟩
  have A4:=A3.step x4 (z3.step x4)
  cases b with
  |false=>
   dsimp only at h4 ⊢
   rw [if_neg f8] at h4 ⊢
   exact ⟨ds.length - (i+1),by omega,rfl,aX,iM,M4,acc,bA,A4,by omega,h4⟩
  |true=>
   dsimp only at h4 ⊢
   rw [if_pos rfl] at h4 ⊢
   refine ⟨β.add D,iM,M4,_,A4.zr,h4,fun yd M5 yv H5 x5 r5 h5=>?_⟩
   have A5:=A4.step x5 (A4.zr.step x5)
   refine hC yv oS H5 acc A5.at' (by omega) ⟨ds.length - (i+1),by omega,rfl,aX,iM,M5,acc++[yv],bA++[yd],A5.snoc r5,by simp;omega,?_⟩
   have e2:(fun ys M2=>Q' (bA++[yd]++ys) M2)=fun ys M2=>Q' (bA++yd::ys) M2 :=by
    funext ys M2
    rw [GE]
    rfl
   rw [e2]
   exact h5
 ·have e:i=ds.length :=by omega
  subst e
  rw [OT] at h
  refine .inl ⟨q.2 (br _),bK,M,acc,bA,A,by omega,?_⟩
  have h':Q' (bA++[]) M:=h
  rwa [Do] at h'
theorem mH {D:ag} {M1:Mh} {H1:Hp} {ds:List Dv} {Q':List Dv->Mh->Prop} {bK:ax} {τ:St} (zr:Zr Γ β M1 bK τ H1) (hD:H1 D=none) (h:fU g tt te ds bK M1 Q'):jP Γ β D M1 H1 g tt te ds Q' 0 ds.length τ (upd H1 D (.lst [])):=
 ⟨rfl,l8 _,bK,M1,[],[],.start zr hD,br _,h⟩
theorem w9 {σ:St} {H:Hp} {Q:VK} (h:lE Γ (zComp tn idx zi g tt te) σ H Q):pB tn idx (lI Γ zi) (lG Γ g) (lT Γ tt) (lE Γ te) σ H Q :=by
 obtain ⟨β,ρ,M,Q',zr,h,q⟩:=h
 refine ⟨β,ρ,M,_,zr,h,fun ds M1 H1 J x1 it ⟨hlen,h1⟩ D hD=>?_⟩
 have je:=zr.step x1
 refine ⟨jP Γ β D M1 H1 g tt te ds fun ys M2=>Q' (.lst ys) M2,⟨_,mH (je.block tn idx) hD h1⟩,fun i m τ H' w=>?_⟩
 rcases oR it hlen w (C:=fun y aB H4=>∃ys m',H4 D=some (.lst ys)/\ys.length<sizeLine/\m'<m/\jP Γ β D M1 H1 g tt te ds (fun ys M2=>Q' (.lst ys) M2) (i+1) m' aB (upd H4 D (.lst (ys++[y])))) (fun y aB H4 acc e hl ⟨m',hm,w'⟩=>⟨acc,m',e,hl,hm,w'⟩) with ⟨hs,bK,M',acc,bA,A,_,hq⟩|z
 ·exact .inl ⟨hs,q _ _ _ _ (x1.trans A.ex) (qH (A.fz je.mz) A.at' A.items) hq⟩
 ·exact .inr z
theorem Cd {σ:St} {H:Hp} {Q:VK} (h:lE Γ (zCompP tn idx zi g tt te) σ H Q):pB tn idx (lI Γ zi) (lG Γ g) (lT Γ tt) (lE Γ te) σ H Q :=by
 obtain ⟨β,ρ,M,Q',zr,h,q⟩:=h
 refine ⟨β,ρ,M,_,zr,h,fun ds M1 H1 J x1 it ⟨hlen,h1⟩ D hD=>?_⟩
 have je:=zr.step x1
 refine ⟨jP Γ β D M1 H1 g tt te ds fun ys M2=>∀a,M2 a=none->Q' (.ptr a) (ay M2 a (.lst ys)),⟨_,mH (je.block tn idx) hD h1⟩,fun i m τ H' w=>?_⟩
 rcases oR it hlen w (C:=fun y aB H4=>∃ys m',H4 D=some (.lst ys)/\ys.length<sizeLine/\m'<m/\jP Γ β D M1 H1 g tt te ds (fun ys M2=>∀a,M2 a=none->Q' (.ptr a) (ay M2 a (.lst ys))) (i+1) m' aB (upd H4 D (.lst (ys++[y])))) (fun y aB H4 acc e hl ⟨m',hm,w'⟩=>⟨acc,m',e,hl,hm,w'⟩) with ⟨hs,bK,M',acc,bA,A,_,hq⟩|z
 ·refine .inl ⟨hs,?_⟩
  have LV:D ∉ β.hid:=(A.fz je.mz).2
  have hM:M' D=none:=A.m
  have mz:Mz β (ay M' D (.lst bA)) H':=by
   have rz:∀{v:V} {d:Dv},Rz (β.add D) M' H' v d->Rz β (ay M' D (.lst bA)) H' v d:=fun r=>by
    have ne:∀a,Fz (β.add D) M' a->Fz β (ay M' D (.lst bA)) a:=fun a f=>⟨by rw [ai (fun z=>f.2 (by rw [z];exact kt))];exact f.1,fun z=>f.2 (ff _ z)⟩
    induction r with
    |int i=>exact .int i
    |bl b=>exact .bl b
    |aj=>exact .aj
    |str z=>exact .str z
    |tup m e hl h ih=>exact .tup (ne _ m) e hl ih
    |lst m e hl h ih=>exact .lst (ne _ m) e hl ih
    |dk m e hk hl h ih=>exact .dk (ne _ m) e hk hl ih
    |dt m e hk hl h ih=>exact .dt (ne _ m) e hk hl ih
    |cf m e m2 e2 hl h ih=>exact .cf (ne _ m) e (ne _ m2) e2 hl ih
    |set m e=>exact .set (ne _ m) e
    |ptr m=>exact .ptr (by unfold ay;split;rfl;exact m)
    |exc m e=>exact .exc (ne _ m) e
    |bc m e=>exact .bc (ne _ m) e
    |bU m e=>exact .bU (ne _ m) e
    |bV e=>exact .bV e
    |raw v=>exact .raw v
   refine ⟨fun a o e=>?_,A.zr.mz.tabs,fun a ha=>A.zr.mz.hids a (ff _ ha),fun a o e z=>?_,A.zr.mz.lams⟩
   by_cases ha:a=D
   ·subst ha
    rw [updM_same] at e
    cases e
    exact ⟨acc,A.at',A.rs.len,fun i v d a b=>rz (A.rs.at' i v d a b)⟩
   ·rw [ai ha] at e
    have z:=A.zr.mz.obj a o e
    cases o with
    |lst ds=>obtain ⟨vs,z,l,r⟩:=z;exact ⟨vs,z,l,fun i v d a b=>rz (r i v d a b)⟩
    |dk ks ds=>obtain ⟨vs,z,hk,l,r⟩:=z;exact ⟨vs,z,hk,l,fun i v d a b=>rz (r i v d a b)⟩
    |dt ks ds=>obtain ⟨vs,z,hk,l,r⟩:=z;exact ⟨vs,z,hk,l,fun i v d a b=>rz (r i v d a b)⟩
    |ts ks ds=>obtain ⟨vs,z,hk,l,r⟩:=z;exact ⟨vs,z,hk,l,fun i v d a b=>rz (r i v d a b)⟩
    |cy=>exact z
   ·by_cases ha:a=D
    ·subst ha;exact LV z
    ·rw [ai ha] at e
     exact A.zr.mz.apart a o e (ff _ z)
  have ey:Ey M1 H1 (ay M' D (.lst bA)) H':=⟨A.ey.keep,fun a h=>by unfold ay;split;rfl;exact A.ey.dom a h,fun a o m e=>by rw [ai (aY e A.h1)];exact A.ey.new a o m e⟩
  exact q _ _ _ _ (x1.trans ⟨ey,mz⟩) (.ptr (by rw [updM_same];rfl)) (hq D hM)
 ·exact .inr z
theorem Kj {P:ag} {zi:fh} {R:It->Hp->Prop} {σ:St} {H:Hp} {ρ:ax} {M:Mh} {R':List Dv->Mh->Prop} (hP:P∈Γ.tb) (zr:Zr Γ β M ρ σ H) (h:zi ρ M R') (q:∀ds M' H' J,Ex β M H M' H'->wW β J ds M' H'->R' ds M'->R J H'):Eg P (lI Γ zi) R σ H :=by
 refine ⟨β,ρ,M,_,zr,h,fun ds M1 H1 J x1 it h1=>?_⟩
 have Ah:P∈β.tb :=by rw [zr.et];exact hP
 refine ⟨x1.mz.tabs P Ah,fun ps t=>?_⟩
 have x2:=Ex.grow x1.mz Ah t
 refine q ds M1 _ J (x1.trans x2) (fun bQ M' H' bx ey mz=>it bQ M' H' ⟨bx.P,bx.w,bx.K,bx.tb,bx.old,fun a ha=>?_⟩ (x2.toEy.trans ey) mz) h1
 rcases bx.new a ha with z|z
 ·exact .inl z
 ·right
  cases e:H1 a with
  |none=>rfl
  |some o=>obtain ⟨u,hu⟩:=y3 (p:=P) (o:=.bO ps) ⟨o,e⟩;rw [z] at hu;cases hu
def g6 (g:b7) (tt:cE) (te:aH):List Dv->ax->Mh->(Bool->Mh->Prop)->Prop
 | [],_,M,Q=>Q true M
 |d::ds,τ,M,Q=>g d τ M fun aB M2=>tt aB M2 fun b M3=>if b=true then te aB M3 (zBool fun c M4=>if c=false then Q false M4 else g6 g tt te ds aB M4 Q) else g6 g tt te ds aB M3 Q
def zAll (tn:Nat) (idx:List Nat) (zi:fh) (g:b7) (tt:cE) (te:aH):aH:=fun ρ M Q=>zi ρ M fun ds M1=>g6 g tt te ds (zBlock tn idx ρ) M1 fun b M2=>Q (.bl b) M2
theorem Hf {P:ag} (hP:P∈Γ.tb) {σ:St} {H:Hp} {Q:VK} (h:lE Γ (zAll tn idx zi g tt te) σ H Q):Ei P tn idx (lI Γ zi) (lG Γ g) (lT Γ tt) (lE Γ te) σ H Q :=by
 obtain ⟨β,ρ,M,Q',zr,h,q⟩:=h
 refine Kj hP zr h fun ds M1 H1 J x1 it h1=>?_
 have je:=zr.step x1
 refine ⟨fun i m τ H'=>m=ds.length - i/\i<=ds.length/\∃bK M',Ex β M1 H1 M' H'/\Zr Γ β M' bK τ H'/\g6 g tt te (ds.drop i) bK M' fun b M2=>Q' (.bl b) M2,⟨_,rfl,l8 _,_,M1,.refl x1.mz,je.block tn idx,h1⟩,?_⟩
 rintro i m τ H' ⟨rfl,hi,bK,M',x',fm,h'⟩
 have qq:=it β M' H' .refl x'.toEy x'.mz i
 by_cases aX:i<ds.length
 ·refine .inr ⟨(qq.1 aX).1,fun x jd y=>?_⟩
  obtain ⟨x2,d,hd,rd⟩:=(qq.1 aX).2 x jd y
  have e:ds.drop i=d::ds.drop (i+1) :=by
   rw [LM aX]
   rw [ap aX] at hd
   cases hd
   rfl
  rw [e] at h'
  refine ⟨β,d,bK,M',_,fm.step x2,rd,h',fun iM M3 oS H3 x3 z3 h3=>⟨β,iM,M3,_,z3,h3,fun b M4 H4 x4 h4=>?_⟩⟩
  have Fq:=x'.trans (x2.trans (x3.trans x4))
  cases b with
  |false=>
   dsimp only at h4 ⊢
   rw [if_neg f8] at h4 ⊢
   exact ⟨ds.length - (i+1),by omega,rfl,aX,iM,M4,Fq,z3.step x4,h4⟩
  |true=>
   dsimp only at h4 ⊢
   rw [if_pos rfl] at h4 ⊢
   refine ⟨β,iM,M4,_,z3.step x4,h4,fun yd M5 yv H5 x5 r5 h5=>?_⟩
   obtain ⟨k,rfl,h6⟩:=gL h5
   refine ⟨k,cA r5,?_⟩
   cases k with
   |false=>
    rw [if_pos rfl] at h6 ⊢
    exact q _ _ _ _ (x1.trans (Fq.trans x5)) (.bl _) h6
   |true=>
    rw [if_neg (by decide)] at h6 ⊢
    exact ⟨ds.length - (i+1),by omega,rfl,aX,iM,M5,Fq.trans x5,(z3.step x4).step x5,h6⟩
 ·have e:i=ds.length :=by omega
  subst e
  rw [OT] at h'
  exact .inl ⟨qq.2 (br _),q _ _ _ _ (x1.trans x') (.bl _) h'⟩
end
section
variable {X:Cx} {Γ:Gz} {β:Bz} {K:bi}
def zII (f:Int->Int->Dv):dw:=fun d e M Q=>match d,e with | .int i,.int j=>Q (f i j) M|_,_=>False
def zIC (C:Int->Int->Prop) (f:Int->Int->Dv):dw:=fun d e M Q=>match d,e with | .int i,.int j=>C i j/\Q (f i j) M|_,_=>False
theorem jQ {g:Int->Int->V} {f:Int->Int->Dv} (h:∀β M H i j,Rz β M H (g i j) (f i j)):oQ Γ (n6 g) (zII f):=fun β x y d e M H Q Q' _ _ _ m rx ry z q=>by
 unfold zII at z
 split at z
 ·exact ⟨_,_,aC rx,aC ry,q _ _ _ _ (.refl m) (h ..) z⟩
 ·exact z.elim
theorem jR {C:Int->Int->Prop} {g:Int->Int->V} {f:Int->Int->Dv} (h:∀β M H i j,Rz β M H (g i j) (f i j)):oQ Γ (rI C g) (zIC C f):=fun β x y d e M H Q Q' _ _ _ m rx ry z q=>by
 unfold zIC at z
 split at z
 ·exact ⟨_,_,aC rx,aC ry,z.1,q _ _ _ _ (.refl m) (h ..) z.2⟩
 ·exact z.elim
theorem eF:ef Γ X (binaryOp .Add) (zII fun i j=>.int (i+j)):=⟨_,DE,jQ fun _ _ _ _ _=>.int _⟩
theorem mI:ef Γ X (binaryOp .Sub) (zII fun i j=>.int (i - j)):=⟨_,DF,jQ fun _ _ _ _ _=>.int _⟩
theorem iN:ef Γ X (binaryOp .Mult) (zIC m6 fun i j=>.int (i * j)):=⟨_,DG,jR fun _ _ _ _ _=>.int _⟩
theorem Fs:ef Γ X (binaryOp .FloorDiv) (zIC pP fun i j=>.int (i / j)):=⟨_,Bs,jR fun _ _ _ _ _=>.int _⟩
theorem g7:ef Γ X (binaryOp .Mod) (zIC (fun _ j=>0<j) fun i j=>.int (i % j)):=⟨_,DH,jR fun _ _ _ _ _=>.int _⟩
theorem AG:ef Γ X (binaryOp .Pow) (zIC DC fun i j=>.int (i ^ j.toNat)):=⟨_,DI,jR fun _ _ _ _ _=>.int _⟩
theorem uS:ef Γ X (compareOp .Lt) (zII fun i j=>.bl (decide (i<j))):=⟨_,GP,jQ fun _ _ _ _ _=>.bl _⟩
theorem zb:ef Γ X (compareOp .LtE) (zII fun i j=>.bl (decide (i<=j))):=⟨_,GQ,jQ fun _ _ _ _ _=>.bl _⟩
theorem Ft:ef Γ X (compareOp .Gt) (zII fun i j=>.bl (decide (j<i))):=⟨_,GR,jQ fun _ _ _ _ _=>.bl _⟩
def scalZ (d e:Dv):Option Bool:=match d with
 | .int i=>(match e with | .int j=>some (decide (i=j)) | .aj=>some false | .str _=>some false|_=>none)
 | .bl i=>(match e with | .bl j=>some (decide (i=j)) | .aj=>some false | .str _=>some false|_=>none)
 | .str i=>(match e with | .str j=>some (decide (i=j)) | .aj=>some false | .int _=>some false | .bl _=>some false|_=>none)
 | .aj=>(match e with | .aj=>some true | .int _=>some false | .bl _=>some false | .str _=>some false|_=>none)
 |_=>none
def zEq:dw:=fun d e M Q=>match scalZ d e with|some b=>Q (.bl b) M|none=>False
def zNe:dw:=fun d e M Q=>match scalZ d e with|some b=>Q (.bl (!b)) M|none=>False
theorem qP {M:Mh} {H:Hp} {x y:V} {d e:Dv} {b:Bool} (rx:Rz β M H x d) (ry:Rz β M H y e) (h:scalZ d e=some b):yr x y=true/\decide (x=y)=b :=by
 unfold scalZ at h
 split at h
 ·rw [aC rx]
  split at h <;> cases h
  ·rw [aC ry];exact ⟨rfl,by simp⟩
  ·rw [fO ry];exact ⟨rfl,by simp⟩
  ·rw [dq ry];exact ⟨rfl,by simp⟩
 ·rw [cA rx]
  split at h <;> cases h
  ·rw [cA ry];exact ⟨rfl,by simp⟩
  ·rw [fO ry];exact ⟨rfl,by simp⟩
  ·rw [dq ry];exact ⟨rfl,by simp⟩
 ·rw [dq rx]
  split at h <;> cases h
  ·rw [dq ry];exact ⟨rfl,by simp⟩
  ·rw [fO ry];exact ⟨rfl,by simp⟩
  ·rw [aC ry];exact ⟨rfl,by simp⟩
  ·rw [cA ry];exact ⟨rfl,by simp⟩
 ·rw [fO rx]
  split at h <;> cases h
  ·rw [fO ry];exact ⟨rfl,by simp⟩
  ·rw [aC ry];exact ⟨rfl,by simp⟩
  ·rw [cA ry];exact ⟨rfl,by simp⟩
  ·rw [dq ry];exact ⟨rfl,by simp⟩
 ·cases h
theorem zf:ef Γ X (compareOp .Eq) zEq:=⟨_,GN,fun β x y d e M H Q Q' _ _ _ m rx ry z q=>by
 unfold zEq at z
 split at z
 ·rename_i b hb
  obtain ⟨h1,h2⟩:=qP rx ry hb
  exact ⟨h1,by rw [h2];exact q _ _ _ _ (.refl m) (.bl _) z⟩
 ·exact z.elim⟩
theorem Kk:ef Γ X (compareOp .NotEq) zNe:=⟨_,GO,fun β x y d e M H Q Q' _ _ _ m rx ry z q=>by
 unfold zNe at z
 split at z
 ·rename_i b hb
  obtain ⟨h1,h2⟩:=qP rx ry hb
  exact ⟨h1,by rw [h2];exact q _ _ _ _ (.refl m) (.bl _) z⟩
 ·exact z.elim⟩
def isNonD:Dv->Option Bool
 | .aj=>some true
 | .raw _=>none
 |_=>some false
def zIsN (neg:Bool):dw:=fun d e M Q=>match e,isNonD d with | .aj,some b=>Q (.bl (if neg then !b else b)) M|_,_=>False
def zSS (C:cb->cb->Prop) (f:cb->cb->Dv):dw:=fun d e M Q=>match d,e with | .str i,.str j=>C i j/\Q (f i j) M|_,_=>False
mutual
def bt:Dv->Option Dt
 | .int i=>some (.int i)
 | .bl b=>some (.bl b)
 | .aj=>some .aj
 | .str z=>some (.str z)
 | .tup ds=>(g8 ds).map .tup
 | .lst ds=>(g8 ds).map .lst
 |_=>none
def g8:List Dv->Option (List Dt)
 | []=>some []
 |d::ds=>match bt d,g8 ds with|some a,some as=>some (a::as)|_,_=>none
end
theorem iO:∀{ds:List Dv} {ts:List Dt},g8 ds=some ts->ds.length=ts.length/\∀(i:Nat) (d:Dv) (t:Dt),ds[i]?=some d->ts[i]?=some t->bt d=some t
 | [],ts,h=>by simp only [g8,LB] at h;subst h;exact ⟨rfl,fun i d t a=>by simp at a⟩
 |d::ds,ts,h=>by
          simp only [g8] at h
          split at h
          ·rename_i a as h1 h2
           cases h
           obtain ⟨hl,q⟩:=iO h2
           refine ⟨by simp [hl],fun i e t x y=>?_⟩
           cases i with
           |zero=>simp at x y;subst x y;exact h1
           |succ i=>rw [Da] at x y;exact q i e t x y
          ·cases h
theorem xa {M:Mh} {H:Hp} {v:V} {d:Dv} (h:Rz β M H v d):∀{t:Dt},bt d=some t->dj H v t :=by
 induction h with
 |int i=>intro t e;simp only [bt,LB] at e;subst e;exact .int i
 |bl b=>intro t e;simp only [bt,LB] at e;subst e;exact .bl b
 |aj=>intro t e;simp only [bt,LB] at e;subst e;exact .aj
 |str z=>intro t e;simp only [bt,LB] at e;subst e;exact .str z
 |tup m e hl h ih=>
  intro t q
  simp only [bt,r6] at q
  obtain ⟨ts,q,rfl⟩:=q
  obtain ⟨l2,at2⟩:=iO q
  refine .tup e (hl.trans l2) fun i x d hx hd=>?_
  have hi:=(bv.mp hd).1
  have:=ap (l:=_) (i:=i) (show i<_ from l2▸hi)
  exact ih i x _ hx this (at2 i _ _ this hd)
 |lst m e hl h ih=>
  intro t q
  simp only [bt,r6] at q
  obtain ⟨ts,q,rfl⟩:=q
  obtain ⟨l2,at2⟩:=iO q
  refine .lst e (hl.trans l2) fun i x d hx hd=>?_
  have hi:=(bv.mp hd).1
  have:=ap (l:=_) (i:=i) (show i<_ from l2▸hi)
  exact ih i x _ hx this (at2 i _ _ this hd)
 |set m e=>intro t q;simp [bt] at q
 |ptr m=>intro t q;simp [bt] at q
 |exc m e=>intro t q;simp [bt] at q
 |bc m e=>intro t q;simp [bt] at q
 |bU m e=>intro t q;simp [bt] at q
 |bV e=>intro t q;simp [bt] at q
 |dk m e hk hl h ih=>intro t q;simp [bt] at q
 |dt m e hk hl h ih=>intro t q;simp [bt] at q
 |cf m e m2 e2 hl h ih=>intro t q;simp [bt] at q
 |raw v=>intro t q;simp [bt] at q
def now (M:Mh):Dv->Dv
 | .ptr a=>match M a with|some (.lst ds)=>.lst ds|_=>.ptr a
 |d=>d
theorem tQ {M:Mh} {H:Hp} {v:V} {d:Dv} (m:Mz β M H) (h:Rz β M H v d) {t:Dt} (e:bt (now M d)=some t):dj H v t :=by
 cases d with
 |ptr a=>
  simp only [now] at e
  obtain ⟨rfl,hs⟩:=bu h
  cases q:M a with
  |none=>rw [q] at hs;cases hs
  |some o=>
   rw [q] at e
   cases o with
   |cy=>simp [bt] at e
   |dk ks es=>simp [bt] at e
   |dt ks es=>simp [bt] at e
   |ts ks es=>simp [bt] at e
   |lst ds=>
    obtain ⟨vs,hv,rs⟩:=m.obj a _ q
    simp only [bt,r6] at e
    obtain ⟨ts,q,rfl⟩:=e
    obtain ⟨l2,at2⟩:=iO q
    refine .lst hv (rs.len.trans l2) fun i x d hx hd=>?_
    have hi:=(bv.mp hd).1
    have:=ap (l:=_) (i:=i) (show i<_ from l2▸hi)
    exact xa (rs.at' i x _ hx this) (at2 i _ _ this hd)
 |_=>exact xa h e
def qQ (neg:Bool):dw:=fun d e M Q=>match bt (now M d),bt (now M e) with|some a,some b=>i9 a<=60/\Q (.bl (if neg then !dm a b else dm a b)) M|_,_=>False
theorem Ce {neg:Bool}:oQ Γ (EA neg) (qQ neg):=fun β x y d e M H Q Q' _ _ _ m rx ry z q=>by
 unfold qQ at z
 split at z
 ·rename_i a b h1 h2
  exact ⟨a,b,tQ m rx h1,tQ m ry h2,z.1,q _ _ _ _ (.refl m) (.bl _) z.2⟩
 ·exact z.elim
theorem AH (hu:X.A.units+64<cLine):ef Γ X (compareOp .Eq) (qQ false):=⟨_,EB hu,Ce⟩
def itemsM (M:Mh):Dv->Option (List Dv)
 | .tup ds=>some ds
 | .lst ds=>some ds
 | .ptr a=>match M a with|some (.lst ds)=>some ds|_=>none
 |_=>none
theorem lu {M:Mh} {H:Hp} {x:V} {d:Dv} {ds:List Dv} (m:Mz β M H) (r:Rz β M H x d) (h:itemsM M d=some ds):∃a vs,x=.ref a/\(H a=some (.lst vs)\/H a=some (.tup vs))/\aG β M H vs ds :=by
 cases d with
 |tup es=>cases h;obtain ⟨a,vs,e,_,h,rs⟩:=bh r;exact ⟨a,vs,e,.inr h,rs⟩
 |lst es=>cases h;obtain ⟨a,vs,e,_,h,rs⟩:=fN r;exact ⟨a,vs,e,.inl h,rs⟩
 |ptr a=>
  obtain ⟨rfl,hs⟩:=bu r
  simp only [itemsM] at h
  split at h
  ·rename_i es q
   cases h
   obtain ⟨vs,hv,rs⟩:=m.obj a _ q
   exact ⟨a,vs,rfl,.inl hv,rs⟩
  ·cases h
 |_=>cases h
theorem Cg {M:Mh} {H:Hp} {vs:List V} {ds:List Dv} (rs:aG β M H vs ds) {i:Int} {d:Dv} (h:cu ds i=some d):∃v,cu vs i=some v/\Rz β M H v d :=by
 unfold cu at h ⊢
 rw [rs.len]
 cases e:fb ds.length i with
 |none=>rw [e] at h;cases h
 |some j=>
  rw [e] at h
  obtain ⟨v,hv,r⟩:=rs.get (i:=j) (d:=d) h
  exact ⟨v,hv,r⟩
def Fu (Γ:Gz) (X:Cx) (z:dw):Prop:=∃r,jo X r/\oQ Γ r z
def zIx:dw:=fun d e M Q=>match e with
 | .int i=>(match d with
  | .str z=>z.length<=sizeLine/\(match cu z.cps.toList i with|some c=>Q (.str ⟨#[c]⟩) M|none=>False)
  |_=>match itemsM M d with|some ds=>(match cu ds i with|some r=>Q r M|none=>False)|none=>False)
 |_=>False
theorem dX (hK:X.K=K):Fu Γ X zIx:=⟨_,sY hK,fun β x y d e M H Q Q' _ _ _ m rx ry z q=>by
 unfold zIx at z
 split at z
 ·rename_i i
  have hy:=aC ry
  split at z
  ·rename_i s
   obtain ⟨hz,z⟩:=z
   split at z
   ·rename_i c hc
    exact .inr (.inr ⟨s,i,c,dq rx,hy,hz,hc,q _ _ _ _ (.refl m) (.str _) z⟩)
   ·exact z.elim
  ·split at z
   ·rename_i ds iY
    obtain ⟨a,vs,rfl,ha,rs⟩:=lu m rx iY
    split at z
    ·rename_i r hr
     obtain ⟨v,hv,rv⟩:=Cg rs hr
     have z':=q _ _ _ _ (.refl m) rv z
     rcases ha with ha|ha
     ·exact .inl ⟨a,vs,i,v,rfl,hy,bB.of ha,hv,z'⟩
     ·exact .inr (.inl ⟨a,vs,i,v,rfl,hy,bp.of ha,hv,z'⟩)
    ·exact z.elim
   ·exact z.elim
 ·exact z.elim⟩
theorem cn {a b:dL} {pa pb:aH} {z:dw} {pos:u4} (hr:Fu Γ X z) (ha:QE Γ X a pa) (hb:QE Γ X b pb) (hs:sV b):QE Γ X (.Subscript a b pos) (zOp z pa pb) :=by
 obtain ⟨r,h1,h2⟩:=hr
 exact (GX h1 ha hb hs).imp fun σ H Q h=>y6 h2 h
def cutD (xs:List Dv) (lo hi:Option Int):List Dv:=(xs.drop (HT.aJ xs.length 0 lo)).take (HT.aJ xs.length xs.length hi - HT.aJ xs.length 0 lo)
abbrev xc:=ax->Mh->(Option Int->Mh->Prop)->Prop
def lO (Γ:Gz) (p:xc):TO:=fun σ H Q=>∃(β:Bz) (ρ:ax) (M:Mh) (Q':Option Int->Mh->Prop),Zr Γ β M ρ σ H/\p ρ M Q'/\∀o M' H',Ex β M H M' H'->Q' o M'->Q o H'
def zoNone:xc:=fun _ M Q=>Q none M
def zoSome (p:aH):xc:=fun ρ M Q=>p ρ M fun d M1=>match d with | .int i=>Q (some i) M1|_=>False
theorem PO.imp {e:Option dL} {t t':TO} (h:PO X e t) (i:∀σ H Q,t' σ H Q->t σ H Q):PO X e t':=fun pins s σ H Q I q=>h pins s σ H Q I (i _ _ _ q)
theorem ko:PO X none (lO Γ zoNone):=PO.imp BC fun σ H Q ⟨β,ρ,M,Q',zr,h,q⟩=>q _ _ _ (.refl zr.mz) h
theorem kr {e:dL} {p:aH} (h:QE Γ X e p):PO X (some e) (lO Γ (zoSome p)):=PO.imp (BD h) fun σ H Q ⟨β,ρ,M,Q',zr,h,q⟩=>⟨β,ρ,M,_,zr,h,fun d M1 v H1 x1 r1 h1=>by
 revert h1
 split
 ·intro h1
  exact ⟨_,aC r1,q _ _ _ x1 h1⟩
 ·exact fun z=>z.elim⟩
abbrev AI:=Dv->Option Int->Option Int->Mh->ZK->Prop
def IU (Γ:Gz) (X:Cx) (z:AI):Prop:=∃r,vT X r/\∀(β:Bz) x d lo hi M H Q Q',β.P=Γ.P->β.w=Γ.w->β.K=Γ.K->Mz β M H->Rz β M H x d->z d lo hi M Q'->(∀d' M' v H',Ex β M H M' H'->Rz β M' H' v d'->Q' d' M'->Q v H')->r x lo hi H Q
def zSl (z:AI) (p:aH) (l h:xc):aH:=fun ρ M Q=>p ρ M fun d M1=>l ρ M1 fun lo M2=>h ρ M2 fun hi M3=>z d lo hi M3 Q
theorem iP {z:AI} {e:dL} {p:aH} {lo hi:Option dL} {l h:xc} {p2 pos:u4} (hr:IU Γ X z) (he:QE Γ X e p) (hl:PO X lo (lO Γ l)) (hu:PO X hi (lO Γ h)):QE Γ X (.Subscript e (.Slice lo hi none p2) pos) (zSl z p l h) :=by
 obtain ⟨r,h1,h2⟩:=hr
 exact (yB h1 he hl hu).imp fun σ H Q ⟨β,ρ,M,Q',zr,h,q⟩=>⟨β,ρ,M,_,zr,h,fun d M1 v H1 x1 r1 h1=>⟨β,ρ,M1,_,zr.step x1,h1,fun o M2 H2 x2 h3=>⟨β,ρ,M2,_,(zr.step x1).step x2,h3,fun o2 M3 H3 x3 h4=>
  h2 β v d o o2 M3 H3 _ _ zr.eP zr.ew zr.eK x3.mz ((r1.ex x2).ex x3) h4 fun d' M' v' H' x4 r4 q4=>q _ _ _ _ (x1.trans (x2.trans (x3.trans x4))) r4 q4⟩⟩⟩
def zSlT:AI:=fun d lo hi M Q=>match d with | .tup ds=>Q (.tup (cutD ds lo hi)) M|_=>False
theorem tR {M:Mh} {H:Hp} {vs:List V} {ds:List Dv} (rs:aG β M H vs ds) (lo hi:Option Int):aG β M H (fT vs lo hi) (cutD ds lo hi) :=by
 unfold fT cutD
 rw [rs.len]
 exact (rs.drop _).take _
theorem pE (hK:X.K=K):IU Γ X zSlT:=⟨_,B4 hK,fun β x d lo hi M H Q Q' _ _ _ m rx z q=>by
 unfold zSlT at z
 split at z
 ·obtain ⟨a,vs,rfl,f,ha,rs⟩:=bh rx
  refine ⟨a,vs,rfl,bp.of ha,fun w=>?_,fun _ p hp=>?_⟩
  ·have e:=uI w
   have r2:=tR rs lo hi
   rw [e] at r2
   exact q _ _ _ _ (.refl m) (dn f ha r2) z
  ·have x2:=Ex.lay m hp (.tup (fT vs lo hi))
   exact q _ _ _ _ x2 (dn (m.fz hp) aE ((tR rs lo hi).ex x2)) z
 ·exact z.elim⟩
def zCatT:dw:=fun d e M Q=>match d,e with | .tup xs,.tup ys=>xs.length+ys.length<=sizeLine/\Q (.tup (xs++ys)) M|_,_=>False
theorem mJ (hK:X.K=K):ef Γ X (binaryOp .Add) zCatT:=⟨_,B3 hK,fun β x y d e M H Q Q' _ _ _ m rx ry z q=>by
 unfold zCatT at z
 split at z
 ·obtain ⟨a,vs,rfl,f,ha,rs⟩:=bh rx
  obtain ⟨b,us,rfl,f2,hb,b8⟩:=bh ry
  refine ⟨a,b,vs,us,rfl,rfl,bp.of ha,bp.of hb,by rw [rs.len,b8.len];exact z.1,fun e=>?_,fun _ e=>?_,fun _ _ p hp=>?_⟩
  ·subst e
   have r3:=rs.append b8
   exact q _ _ _ _ (.refl m) (dn f2 hb r3) z.2
  ·subst e
   have r3:=rs.append b8
   rw [Do] at r3
   exact q _ _ _ _ (.refl m) (dn f ha r3) z.2
  ·have x2:=Ex.lay m hp (.tup (vs++us))
   exact q _ _ _ _ x2 (dn (m.fz hp) aE ((rs.append b8).ex x2)) z.2
 ·exact z.elim⟩
end
section
variable {X:Cx} {Γ:Gz} {β:Bz} {K:bi}
section
variable {x:cb} {p pos:u4} {e:dL} {es:List dL} {za:du} {id T:String} {z:kQ}
theorem aK (hc:eE Γ X (.builtin id) z) (hg:Gl X x) (hm:X.mg x=none) (hv:bootBuiltins x=some (.builtin id)) (ha:QA Γ X (e::es) za) (hn:x ≠ "__name__" := by decide) (d6:(x==("__debug__" : cb))=false :=by decide)
  (he:starEach (e::es) X.env=(false,eval e X.env)::starEach es X.env :=by rfl) (dg:(backTo pos (starEach es X.env)).any (·.1)=false :=by rfl):QE Γ X (.Call (.Name x p) (e::es) [] pos) (zCB z za) :=by
 obtain ⟨r,h1,h2⟩:=hc
 exact (yz h1 hg hm hv ha hn d6 he dg).imp fun σ H Q h=>Fn h2 h
theorem jS (hc:eE Γ X (.type T) z) (hg:Gl X x) (hm:X.mg x=none) (hv:bootBuiltins x=some (.type T)) (ha:QA Γ X (e::es) za) (hn:x ≠ "__name__" := by decide) (d6:(x==("__debug__" : cb))=false :=by decide)
  (he:starEach (e::es) X.env=(false,eval e X.env)::starEach es X.env :=by rfl) (dg:(backTo pos (starEach es X.env)).any (·.1)=false :=by rfl):QE Γ X (.Call (.Name x p) (e::es) [] pos) (zCB z za) :=by
 obtain ⟨r,h1,h2⟩:=hc
 exact (vR h1 hg hm hv ha hn d6 he dg).imp fun σ H Q h=>Fn h2 h
end
def z1 (f:Dv->Mh->ZK->Prop):kQ:=fun ds M Q=>match ds with | [d]=>f d M Q|_=>False
def zLenD (d:Dv) (M:Mh) (Q:ZK):Prop:=match d with
 | .str s=>s.length<=sizeLine/\Q (.int s.length) M
 | .bc ns=>Q (.int ns.length) M
 |_=>match itemsM M d with|some ds=>Q (.int ds.length) M|none=>False
theorem fH (hK:X.K=K) (hG:K=Γ.K):eE Γ X (.builtin "len") (z1 zLenD):=⟨_,wm hK,fun β xs ds M H Q Q' _ _ eK m rs z q=>by
 rw [<- hG] at eK
 unfold z1 at z
 split at z
 ·rename_i d
  obtain ⟨x,rfl,r⟩:=cZ rs
  unfold zLenD at z
  split at z
  ·rename_i s
   have e:=dq r
   subst e
   exact ⟨_,_,rfl,⟨z.1,rfl⟩,q _ _ _ _ (.refl m) (.int _) z.2⟩
  ·rename_i ns
   obtain ⟨a,rfl,h⟩:=oP r
   rw [eK] at h
   exact ⟨_,ns.length,rfl,.inl ⟨_,h,by simp⟩,q _ _ _ _ (.refl m) (.int _) z⟩
  ·split at z
   ·rename_i ds iY
    obtain ⟨a,vs,rfl,ha,b8⟩:=lu m r iY
    have q':=q _ _ (.int ds.length) _ (.refl m) (.int _) z
    rcases ha with ha|ha
    ·exact ⟨_,ds.length,rfl,.inl ⟨vs,bB.of ha,b8.len.symm⟩,q'⟩
    ·exact ⟨_,ds.length,rfl,.inr ⟨vs,bp.of ha,b8.len.symm⟩,q'⟩
   ·exact z.elim
 ·exact z.elim⟩
def z2I (f:Int->Int->Int):kQ:=fun ds M Q=>match ds with | [.int i,.int j]=>Q (.int (f i j)) M|_=>False
theorem Fv (hc:X.calm=true):eE Γ X (.builtin "max") (z2I fun i j=>if j > i then j else i):=⟨_,vL hc,fun β xs ds M H Q Q' _ _ _ m rs z q=>by
 unfold z2I at z
 split at z
 ·obtain ⟨x,y,rfl,r,r'⟩:=fA rs
  rw [aC r,aC r']
  exact ⟨_,_,rfl,q _ _ _ _ (.refl m) (.int _) z⟩
 ·exact z.elim⟩
theorem qR (hc:X.calm=true):eE Γ X (.builtin "min") (z2I fun i j=>if j<i then j else i):=⟨_,vM hc,fun β xs ds M H Q Q' _ _ _ m rs z q=>by
 unfold z2I at z
 split at z
 ·obtain ⟨x,y,rfl,r,r'⟩:=fA rs
  rw [aC r,aC r']
  exact ⟨_,_,rfl,q _ _ _ _ (.refl m) (.int _) z⟩
 ·exact z.elim⟩
def zAbs (d:Dv) (M:Mh) (Q:ZK):Prop:=match d with | .int i=>Q (.int (if i<0 then -i else i)) M|_=>False
theorem Hg:eE Γ X (.builtin "abs") (z1 zAbs):=⟨_,yw,fun β xs ds M H Q Q' _ _ _ m rs z q=>by
 unfold z1 at z
 split at z
 ·obtain ⟨x,rfl,r⟩:=cZ rs
  unfold zAbs at z
  split at z
  ·rw [aC r]
   exact ⟨_,rfl,q _ _ _ _ (.refl m) (.int _) z⟩
  ·exact z.elim
 ·exact z.elim⟩
def zDivmod:kQ:=fun ds M Q=>match ds with | [.int i,.int j]=>pP i j/\Q (.tup [.int (i / j),.int (i % j)]) M|_=>False
theorem zg:eE Γ X (.builtin "divmod") zDivmod:=⟨_,rV,fun β xs ds M H Q Q' _ _ _ m rs z q=>by
 unfold zDivmod at z
 split at z
 ·rename_i i j
  obtain ⟨x,y,rfl,r,r'⟩:=fA rs
  rw [aC r,aC r']
  refine ⟨_,_,rfl,z.1,fun p hp=>?_⟩
  have x2:=Ex.lay m hp (.tup [.int (i / j),.int (i % j)])
  exact q _ _ _ _ x2 (dn (m.fz hp) aE (.cons (.int _) (.cons (.int _) .nil))) z.2
 ·exact z.elim⟩
def zTuple (d:Dv) (M:Mh) (Q:ZK):Prop:=match itemsM M d with|some ds=>Q (.tup ds) M|none=>False
theorem tS (hK:X.K=K):eE Γ X (.type "tuple") (z1 zTuple):=⟨_,ng hK,fun β xs ds M H Q Q' _ _ _ m rs z q=>by
 unfold z1 at z
 split at z
 ·rename_i d
  obtain ⟨x,rfl,r⟩:=cZ rs
  unfold zTuple at z
  split at z
  ·rename_i ds iY
   obtain ⟨a,vs,rfl,ha,b8⟩:=lu m r iY
   refine ⟨a,vs,rfl,?_⟩
   rcases ha with ha|ha
   ·refine .inl ⟨bB.of ha,fun l hl=>?_⟩
    have x2:=Ex.lay m hl (.tup vs)
    exact q _ _ _ _ x2 (dn (m.fz hl) aE (b8.ex x2)) z
   ·refine .inr ⟨bp.of ha,?_⟩
    have f:Fz β M a :=by
     cases d with
     |tup es=>obtain ⟨b,us,e,f,_⟩:=bh r;cases e;exact f
     |lst es=>obtain ⟨b,us,e,f,_⟩:=fN r;cases e;exact f
     |ptr b=>
      obtain ⟨e,hs⟩:=bu r
      cases e
      cases q2:M a with
      |none=>rw [q2] at hs;cases hs
      |some o=>have:=m.mE ha rfl;rw [q2] at this;cases this
     |_=>cases iY
    exact q _ _ _ _ (.refl m) (dn f ha b8) z
  ·exact z.elim
 ·exact z.elim⟩
def uT:List Dv->Option (List Int)
 | []=>some []
 | .int i::ds=>(uT ds).map (i::·)
 |_::_=>none
theorem xf:∀ns:List Int,uT (ns.map Dv.int)=some ns
 | []=>rfl
 |n::ns=>by simp [uT,xf ns]
theorem gM {M:Mh} {H:Hp}:∀{vs:List V} {ns:List Int},aG β M H vs (ns.map Dv.int)->vs=ns.map V.int
 | [],[],_=>rfl
 | [],_::_,r=>absurd r.len (by simp)
 |_::_,[],r=>absurd r.len (by simp)
 |v::vs,n::ns,r=>by
          rw [wP] at r
          rw [wP,aC r.head,gM r.tail]
theorem qS {M:Mh} {H:Hp}:∀{ns:List Int},aG β M H (ns.map V.int) (ns.map Dv.int)
 | []=>.nil
 |n::ns=>.cons (.int _) qS
def isD (T:String) (M:Mh) (d:Dv):Option Bool:=match d with
 | .int _=>some (T == "int") | .bl _=>some (T == "int" || T == "bool") | .aj=>some false | .str _=>some (T == "str") | .tup _=>some (T == "tuple") | .lst _=>some (T == "list") | .ptr a=>(match M a with|some (.lst _)=>some (T == "list")|some .cy=>some (T == "list")|some (.ts _ _)=>none|some _=>some false|none=>none)|_=>none
def nD:List String:=["int","bool","str","tuple","list"]
def zIsInst:kQ:=fun ds M Q=>match ds with | [d,.raw (.ty T)]=>T∈nD/\(match isD T M d with|some b=>Q (.bl b) M|none=>False)|_=>False
theorem Fw {K:bi} {M:Mh} {H:Hp} {x:V} {d:Dv} {T:String} {b:Bool} (m:Mz β M H) (hT:T∈nD) (r:Rz β M H x d) (h:isD T M d=some b):∃t,eJ K H x t/\Pn K t (.type T)=some b :=by
 have jJ:T = "int" \/ T = "bool" \/ T = "str" \/ T = "tuple" \/ T = "list" := by simpa [nD] using hT
 cases r with
 |int i=>cases h;exact ⟨_,.int i,by rcases jJ with rfl|rfl|rfl|rfl|rfl <;> rfl⟩
 |bl i=>cases h;exact ⟨_,.bl i,by rcases jJ with rfl|rfl|rfl|rfl|rfl <;> rfl⟩
 |aj=>cases h;exact ⟨_,.aj,by rcases jJ with rfl|rfl|rfl|rfl|rfl <;> rfl⟩
 |str i=>cases h;exact ⟨_,.str i,by rcases jJ with rfl|rfl|rfl|rfl|rfl <;> rfl⟩
 |tup f e hl q=>cases h;exact ⟨_,.tup e,by rcases jJ with rfl|rfl|rfl|rfl|rfl <;> rfl⟩
 |lst f e hl q=>cases h;exact ⟨_,.lst e,by rcases jJ with rfl|rfl|rfl|rfl|rfl <;> rfl⟩
 |ptr hs=>
  rename_i a
  cases q2:M a with
  |none=>rw [q2] at hs;cases hs
  |some o=>
   simp only [isD,q2] at h
   have q:=m.obj a o q2
   cases o with
   |lst ds=>obtain ⟨vs,e,_⟩:=q;cases h;exact ⟨_,.lst e,by rcases jJ with rfl|rfl|rfl|rfl|rfl <;> rfl⟩
   |cy=>obtain ⟨_,_,e,_⟩:=q;cases h;exact ⟨_,.lst e,by rcases jJ with rfl|rfl|rfl|rfl|rfl <;> rfl⟩
   |dk ks ds=>obtain ⟨vs,e,_⟩:=q;cases h;exact ⟨_,.dK e,by rcases jJ with rfl|rfl|rfl|rfl|rfl <;> rfl⟩
   |dt ks ds=>obtain ⟨vs,e,_⟩:=q;cases h;exact ⟨_,.dT e,by rcases jJ with rfl|rfl|rfl|rfl|rfl <;> rfl⟩
   |ts ks ds=>cases h
 |set f e=>cases h
 |exc f e=>cases h
 |bc f e=>cases h
 |bU f e=>cases h
 |bV e=>cases h
 |raw v=>cases h
 |dk f e _ _ _=>cases h
 |dt f e _ _ _=>cases h
 |cf _ _ _ _ _ _=>cases h
theorem iQ (hK:X.K=K):eE Γ X (.builtin "isinstance") zIsInst:=⟨_,qh hK,fun β xs ds M H Q Q' _ _ _ m rs z q=>by
 unfold zIsInst at z
 split at z
 ·obtain ⟨x,y,rfl,r,r'⟩:=fA rs
  rw [g5 r']
  obtain ⟨hT,z⟩:=z
  split at z
  ·rename_i b hb
   obtain ⟨t,ht,hk⟩:=Fw (K:=K) m hT r hb
   exact ⟨_,_,t,b,rfl,ht,hk,q _ _ _ _ (.refl m) (.bl _) z⟩
  ·exact z.elim
 ·exact z.elim⟩
abbrev tT:=Dv->List Dv->Mh->ZK->Prop
def Fx (Γ:Gz) (X:Cx) (T id:String) (K:bi) (z:tT):Prop:=∃r,Af X id r/\∀(β:Bz) x xs d ds M H Q Q',β.P=Γ.P->β.w=Γ.w->β.K=Γ.K->Mz β M H->Rz β M H x d->aG β M H xs ds->z d ds M Q'->(∀d' M' v H',Ex β M H M' H'->Rz β M' H' v d'->Q' d' M'->Q v H')->r x xs H Q
def tyZ (T:String) (M:Mh):Dv->Prop
 | .ptr a=>match M a with|some (.lst _)=>T = "list" |some .cy=>T = "list" |some (.dk _ _)=>T = "dict" |some (.dt _ _)=>T = "dict" |some (.ts _ _)=>False|none=>False
 | .lst _=>T = "list"
 | .tup _=>T = "tuple"
 | .str _=>T = "str"
 |_=>False
theorem Fy {M:Mh} {H:Hp} {x:V} {d:Dv} {T:String} (m:Mz β M H) (r:Rz β M H x d) (h:tyZ T M d):D1 K T x H :=by
 cases r with
 |str=>exact h
 |lst f e _ _=>exact .inl ⟨h,_,bB.of e⟩
 |tup f e _ _=>exact .inr (.inl ⟨h,.inr ⟨_,e⟩⟩)
 |ptr hs=>
  rename_i a
  cases q2:M a with
  |none=>rw [q2] at hs;cases hs
  |some o=>
   simp only [tyZ,q2] at h
   have q:=m.obj a o q2
   cases o with
   |lst ds=>obtain ⟨vs,e,_⟩:=q;exact .inl ⟨h,_,bB.of e⟩
   |cy=>obtain ⟨_,_,e,_⟩:=q;exact .inl ⟨h,_,bB.of e⟩
   |dk ks ds=>obtain ⟨vs,e,_⟩:=q;exact .inr (.inr (.inl ⟨h,.inl ⟨_,e⟩⟩))
   |dt ks ds=>obtain ⟨vs,e,_⟩:=q;exact .inr (.inr (.inl ⟨h,.inr ⟨_,e⟩⟩))
   |ts ks ds=>exact h.elim
 |_=>exact h.elim
def zBM (T:String) (z:tT) (po:aH) (pa:du):aH:=fun ρ M Q=>po ρ M fun d M1=>tyZ T M1 d/\pa ρ M1 fun ds M2=>z d ds M2 Q
section
variable {o e:dL} {es:List dL} {po:aH} {pa:du} {name:cb} {apos aL:u4} {T id:String} {z:tT}
theorem pF (h:X.K=K) (pat:PlainAttrs T) (slot:Slot T name id) (vV:typeOf (.builtin id)=pure (.type "method_descriptor")) (hm:Fx Γ X T id K z) (ho:QE Γ X o po) (ha:QA Γ X (e::es) pa) (gb:attributeBase o name X.env (eval o X.env)=eval o X.env :=by rfl)
  (iB:((backTo aL (starEach (e::es) X.env)).all (fun x => !x.1) && (backToKw aL (keywordEach [] X.env)).all (fun x=>x.1.isSome)
   && decide ((e::es).length+([]:List Me).length+(if ([]:List Me).isEmpty then 0 else 1)<30))=true :=by rfl)
  (hline:(apos.endLine==aL.line)=true :=by rfl) (hs:starEach (e::es) X.env=(false,eval e X.env)::starEach es X.env :=by rfl) (fc:(backTo aL (starEach es X.env)).any (·.1)=false :=by rfl) :
  QE Γ X (.Call (.Attribute o name apos) (e::es) [] aL) (zBM T z po pa) :=by
 obtain ⟨r,h1,h2⟩:=hm
 exact (Er h pat slot vV h1 ho ha gb iB hline hs fc).imp fun σ H Q ⟨β,ρ,M,Q',zr,h,q⟩=>⟨β,ρ,M,_,zr,h,fun d M1 v H1 x1 r1 ⟨ht,h1⟩=>⟨Fy x1.mz r1 ht,β,ρ,M1,_,zr.step x1,h1,fun ds M2 vs H2 x2 r2 h3=>
  h2 β v vs d ds M2 H2 _ _ zr.eP zr.ew zr.eK x2.mz (r1.ex x2) r2 h3 fun d' M' v' H' x3 r3 q3=>q _ _ _ _ (x1.trans (x2.trans x3)) r3 q3⟩⟩
end
def zAppend:tT:=fun d ds M Q=>match d,ds with | .ptr a,[y]=>(match M a with|some (.lst xs)=>xs.length<sizeLine/\Q .aj (ay M a (.lst (xs++[y])))|_=>False)|_,_=>False
theorem lx:Fx Γ X "list" "list.append" K zAppend:=⟨_,ou,fun β x xs d ds M H Q Q' _ _ _ m r rs z q=>by
 unfold zAppend at z
 split at z
 ·rename_i a y
  split at z
  ·rename_i es he
   obtain ⟨e,hs⟩:=bu r
   obtain ⟨v,e2,rv⟩:=cZ rs
   subst e e2
   obtain ⟨vs,hv,b8⟩:=m.obj a _ he
   refine ⟨a,vs,v,rfl,rfl,hv,by rw [b8.len];exact z.1,?_⟩
   exact q _ _ _ _ (Ex.own m (.inl hs) (b8.snoc rv)) .aj z.2
  ·exact z.elim
 ·exact z.elim⟩
def zPop:tT:=fun d ds M Q=>match d,ds with | .ptr a,[]=>(match M a with|some (.lst xs)=>(match xs[xs.length - 1]? with|some y=>Q y (ay M a (.lst xs.dropLast))|none=>False)|_=>False)|_,_=>False
def zPopAt:tT:=fun d ds M Q=>match d,ds with | .ptr a,[.int i]=>(match M a with|some (.lst xs) => -(2 ^ 63)<=i/\i<2 ^ 63/\(match seqIndex? i xs.length with|some k=>(match xs[k]? with|some y=>Q y (ay M a (.lst (xs.eraseIdx k)))|none=>False)|none=>False)|_=>False)|_,_=>False
theorem aG.eraseIdx {M:Mh} {H:Hp} {vs:List V} {ds:List Dv} (h:aG β M H vs ds) (k:Nat):aG β M H (vs.eraseIdx k) (ds.eraseIdx k) :=by
 rw [NL,NL]
 exact (h.take _).append (h.drop _)
theorem Ci:Fx Γ X "list" "list.pop" K zPopAt:=⟨_,yE,fun β x xs d ds M H Q Q' _ _ _ m r rs z q=>by
 unfold zPopAt at z
 split at z
 ·rename_i a i
  split at z
  ·rename_i es he
   obtain ⟨b1,b2,z⟩:=z
   split at z
   ·rename_i k hk
    split at z
    ·rename_i y hy
     obtain ⟨e,hs⟩:=bu r
     obtain ⟨v0,e2,LW⟩:=cZ rs
     subst e e2
     rw [aC LW]
     obtain ⟨vs,hv,b8⟩:=m.obj a _ he
     obtain ⟨v,LX,rv⟩:=b8.get hy
     refine ⟨a,vs,i,k,v,rfl,rfl,hv,b1,b2,by rw [b8.len];exact hk,LX,?_⟩
     have x2:=Ex.own m (.inl hs) (b8.eraseIdx k)
     exact q _ _ _ _ x2 (rv.ex x2) z
    ·exact z.elim
   ·exact z.elim
  ·exact z.elim
 ·exact z.elim⟩
def zSetI:Dv->Dv->Dv->Mh->(Mh->Prop)->Prop:=fun o i v M N=>match o,i with | .ptr a,.int k=>(match M a with|some (.lst xs)=>(match fb xs.length k with|some j=>N (ay M a (.lst (xs.set j v)))|none=>False)|_=>False)|_,_=>False
def zgSub (po pi:aH):b7:=fun d ρ M N=>po ρ M fun o M1=>pi ρ M1 fun i M2=>zSetI o i d M2 fun M3=>N ρ M3
theorem jT {o i:dL} {po pi:aH} {pos:u4} (ho:QE Γ X o po) (hi:QE Γ X i pi)
  (ha:∀v,assign (.Subscript o i pos) X.env v=(do
   let ov <- holding [v] (eval o X.env)
   let iv <- holding [v,ov] (eval i X.env)
   standAt pos
   holding [v,ov,iv] (setItem ov iv v)
   release [v,ov,iv] []) :=by intro _;rfl):QG Γ X (.Subscript o i pos) (zgSub po pi):=
 (Dm ho hi set_list ha).imp fun v σ H N ⟨β,d,ρ,M,N',zr,r,h,q⟩=>⟨β,ρ,M,_,zr,h,fun od M1 ov H1 x1 r1 h1=>⟨β,ρ,M1,_,zr.step x1,h1,fun Nw M2 iv H2 x2 r2 h2=>by
  unfold zSetI at h2
  split at h2
  ·rename_i a k
   split at h2
   ·rename_i es he
    split at h2
    ·rename_i j hj
     obtain ⟨e,hs⟩:=bu (r1.ex x2)
     subst e
     rw [aC r2]
     obtain ⟨vs,hv,b8⟩:=x2.mz.obj a _ he
     have x3:=Ex.own x2.mz (.inl hs) (b8.set j ((r.ex x1).ex x2))
     exact ⟨a,vs,k,j,rfl,rfl,hv,by rw [b8.len];exact hj,q _ _ _ _ (x1.trans (x2.trans x3)) (((zr.step x1).step x2).step x3) h2⟩
    ·exact h2.elim
   ·exact h2.elim
  ·exact h2.elim⟩⟩
end
end L2
namespace L2
open PySem PySem.Spec PySem.W PyProof.Rows
abbrev ZX:=ag->Mh->Prop
abbrev eA:=List Dv->Mh->ZK->ZX->Prop
def bj (P:gl) (w:ii) (K:bi) (tb:d9) (S:eA):Sp:=fun vs H Q E=>∃(β:Bz) (ds:List Dv) (M:Mh) (Q':ZK) (E':ZX),β.P=P/\β.w=w/\β.K=K/\β.tb=tb/\Mz β M H/\aG β M H vs ds/\S ds M Q' E' /\
 (∀d M' v H',Ex β M H M' H'->Rz β M' H' v d->Q' d M'->Q v H')/\∀C M' H',Ex β M H M' H'->E' C M'->E (.ref C) none H'
theorem Rz.iR {β:Bz} {M0 M:Mh} {H:Hp} (dom:∀a,(M0 a).isSome=true->(M a).isSome=true) {v:V} {d:Dv} (h:Rz β M H v d):Pin M0 d->Rz β M0 H v d :=by
 have ne:∀a,Fz β M a->Fz β M0 a:=fun a m=>⟨(by
  cases e:M0 a with
  |none=>rfl
  |some o=>have:=dom a (by rw [e];rfl);rw [m.1] at this;cases this),m.2⟩
 induction h with
 |int i=>exact fun _=>.int i
 |bl b=>exact fun _=>.bl b
 |aj=>exact fun _=>.aj
 |str z=>exact fun _=>.str z
 |tup m e hl h ih=>
  intro p
  cases p with
  |tup p=>exact .tup (ne _ m) e hl fun i v d a b=>ih i v d a b (p d (im b))
 |lst m e hl h ih=>
  intro p
  cases p with
  |lst p=>exact .lst (ne _ m) e hl fun i v d a b=>ih i v d a b (p d (im b))
 |set m e=>exact fun _=>.set (ne _ m) e
 |ptr m=>intro p;cases p with|ptr p=>exact .ptr p
 |exc m e=>exact fun _=>.exc (ne _ m) e
 |bc m e=>exact fun _=>.bc (ne _ m) e
 |bU m e=>exact fun _=>.bU (ne _ m) e
 |bV e=>exact fun _=>.bV e
 |dk m e hk hl h ih=>
  intro p
  cases p with
  |dk p=>exact .dk (ne _ m) e hk hl fun i v d a b=>ih i v d a b (p d (im b))
 |dt m e hk hl h ih=>
  intro p
  cases p with
  |dt p=>exact .dt (ne _ m) e hk hl fun i v d a b=>ih i v d a b (p d (im b))
 |cf m e m2 e2 hl h ih=>
  intro p
  cases p with
  |cf p=>exact .cf (ne _ m) e (ne _ m2) e2 hl fun i v d a b=>ih i v d a b (p d (im b))
 |raw v=>exact fun _=>.raw v
inductive jg (M0 M:Mh):Dv->Dv->Prop where
 |pin {d:Dv} (h:Pin M0 d):jg M0 M d d
 |ptr {a:ag} {ds eW:List Dv} (h0:M0 a=none) (h:M a=some (.lst ds)) (hl:ds.length=eW.length) (r:∀(i:Nat) (d d':Dv),ds[i]?=some d->eW[i]?=some d'->jg M0 M d d'):jg M0 M (.ptr a) (.lst eW)
 |tup {ds eW:List Dv} (hl:ds.length=eW.length) (r:∀(i:Nat) (d d':Dv),ds[i]?=some d->eW[i]?=some d'->jg M0 M d d'):jg M0 M (.tup ds) (.tup eW)
 |dk {a:ag} {ks:List Key} {ds eW:List Dv} (h0:M0 a=none) (h:M a=some (.dk ks ds)) (hl:ds.length=eW.length) (r:∀(i:Nat) (d d':Dv),ds[i]?=some d->eW[i]?=some d'->jg M0 M d d'):jg M0 M (.ptr a) (.dk ks eW)
 |dt {a:ag} {ks:List (List Key)} {ds eW:List Dv} (h0:M0 a=none) (h:M a=some (.dt ks ds)) (hl:ds.length=eW.length) (r:∀(i:Nat) (d d':Dv),ds[i]?=some d->eW[i]?=some d'->jg M0 M d d'):jg M0 M (.ptr a) (.dt ks eW)
theorem jg.rz {β:Bz} {M0 M:Mh} {H:Hp} (mz:Mz β M H) (dom:∀a,(M0 a).isSome=true->(M a).isSome=true) {d d':Dv} (h:jg M0 M d d'):∀{v:V},Rz β M H v d->Rz β M0 H v d':=by
 induction h with
 |pin h=>exact fun r=>r.iR dom h
 |ptr h0 h hl r ih=>
  intro v r
  obtain ⟨rfl,_⟩:=bu r
  obtain ⟨vs,hv,rs⟩:=mz.obj _ _ h
  refine .lst ⟨h0,mz.apart _ _ h⟩ hv (rs.len.trans hl) fun i v d a b=>?_
  obtain ⟨d0,q,rd⟩:=rs.get' a
  exact ih i d0 d q b rd
 |dk h0 h hl r ih=>
  intro v r
  obtain ⟨rfl,_⟩:=bu r
  obtain ⟨vs,hv,hk,rs⟩:=mz.obj _ _ h
  refine .dk ⟨h0,mz.apart _ _ h⟩ (.inl hv) hk (rs.len.trans hl) fun i v d a b=>?_
  obtain ⟨d0,q,rd⟩:=rs.get' a
  exact ih i d0 d q b rd
 |dt h0 h hl r ih=>
  intro v r
  obtain ⟨rfl,_⟩:=bu r
  obtain ⟨vs,hv,hk,rs⟩:=mz.obj _ _ h
  refine .dt ⟨h0,mz.apart _ _ h⟩ (.inl hv) hk (rs.len.trans hl) fun i v d a b=>?_
  obtain ⟨d0,q,rd⟩:=rs.get' a
  exact ih i d0 d q b rd
 |tup hl r ih=>
  intro v r
  obtain ⟨a,vs,rfl,f,hv,rs⟩:=bh r
  refine .tup ⟨?_,f.2⟩ hv (rs.len.trans hl) fun i v d a b=>?_
  ·cases e:M0 a with
   |none=>rfl
   |some o=>have:=dom a (by rw [e];rfl);rw [f.1] at this;cases this
  ·obtain ⟨d0,q,rd⟩:=rs.get' a
   exact ih i d0 d q b rd
def jU (M0:Mh) (Q:ZK):ZK:=fun d M=>Q d M\/((∀a o,M0 a=some o->M a=some o)/\∃d',jg M0 M d d'/\Q d' M0)
theorem tU {β:Bz} {M0 M:Mh} {H0 H:Hp} {Q':ZK} {Q:VK} (m0:Mz β M0 H0) (q:∀d M' v H',Ex β M0 H0 M' H'->Rz β M' H' v d->Q' d M'->Q v H') {d:Dv} {v:V} (x:Ex β M0 H0 M H) (r:Rz β M H v d) (h:jU M0 Q' d M):Q v H :=by
 rcases h with h|⟨same,d',rv,h⟩
 ·exact q _ _ _ _ x r h
 ·refine q d' M0 v H ⟨⟨x.keep,fun _ h=>h,fun _ _ h _=>h⟩,fun a o e=>?_,x.mz.tabs,x.mz.hids,m0.apart,x.mz.lams⟩ (rv.rz x.mz x.dom r) h
  have z:=x.mz.obj a o (same a o e)
  have z0:=m0.obj a o e
  cases o with
  |lst ds=>
   obtain ⟨vs,z,rs⟩:=z
   obtain ⟨AJ,_,qT⟩:=z0
   refine ⟨vs,z,rs.len,fun i v d a b=>(rs.at' i v d a b).iR x.dom ?_⟩
   obtain ⟨v0,_,r0⟩:=qT.get b
   exact r0.pin
  |dk ks ds=>
   obtain ⟨vs,z,hk,rs⟩:=z
   obtain ⟨AJ,_,_,qT⟩:=z0
   refine ⟨vs,z,hk,rs.len,fun i v d a b=>(rs.at' i v d a b).iR x.dom ?_⟩
   obtain ⟨v0,_,r0⟩:=qT.get b
   exact r0.pin
  |dt ks ds=>
   obtain ⟨vs,z,hk,rs⟩:=z
   obtain ⟨AJ,_,_,qT⟩:=z0
   refine ⟨vs,z,hk,rs.len,fun i v d a b=>(rs.at' i v d a b).iR x.dom ?_⟩
   obtain ⟨v0,_,r0⟩:=qT.get b
   exact r0.pin
  |ts ks ds=>
   obtain ⟨vs,z,hk,rs⟩:=z
   obtain ⟨AJ,_,_,qT⟩:=z0
   refine ⟨vs,z,hk,rs.len,fun i v d a b=>(rs.at' i v d a b).iR x.dom ?_⟩
   obtain ⟨v0,_,r0⟩:=qT.get b
   exact r0.pin
  |cy=>exact z
def zstart (N:List cb) (ds:List Dv):ax:=ds.map some++li (N.length - ds.length) none
theorem qU {Γ:Gz} {N:List cb} {vs:List V} {ds:List Dv} (m:Mz Γ.toBz Γ.M0 Γ.H0) (rs:aG Γ.toBz Γ.M0 Γ.H0 vs ds):Zr Γ Γ.toBz Γ.M0 (zstart N ds) (start N vs) Γ.H0:=⟨rfl,rfl,rfl,rfl,fun _ h=>h,m.wf,.refl,m,by simp [zstart,start,rs.len],fun i d e=>by
 unfold zstart at e
 unfold start
 rw [Pi] at e ⊢
 rw [c8] at e ⊢
 rw [rs.len]
 split at e
 ·rename_i hi
  rw [if_pos hi]
  rw [cr,r6] at e
  obtain ⟨d2,e,e2⟩:=e
  cases e2
  obtain ⟨v,hv,r⟩:=rs.get e
  exact ⟨v,by rw [cr,hv];rfl,r⟩
 ·rw [AL] at e
  split at e <;> cases e⟩
def zEndsOf (M0:Mh) (Q:ZK):eD:={nx:=fun _ M=>jU M0 Q .aj M,rt:=jU M0 Q}
def XR (Γ:Gz) (E':ZX) (E:XK):Prop:=∀C M' H',Ex Γ.toBz Γ.M0 Γ.H0 M' H'->E' C M'->E (.ref C) none H'
section
variable {P:gl} {w:ii} {K:bi} {mg:cb->Option am} {base:ij} {tb:d9} {x:cb} {st:r9} {f:ag} {fd:nw} {N ps:List cb} {k:Nat} {S:eA}
theorem tV (len:∀ds M Q E,S ds M Q E->ds.length=ps.length):∀vs H Q E,bj P w K tb S vs H Q E->vs.length=ps.length:=fun vs H Q E hS=>by
 obtain ⟨β,ds,M,Q',E',_,_,_,_,m,rs,s,_⟩:=hS
 exact rs.len.trans (len _ _ _ _ s)
theorem fV (D:Df K mg x st ps f fd) (sc:a9 N ps (aw st)) (len:∀ds M Q E,S ds M Q E->ds.length=ps.length)
  (body:∀(A:l7) (outer:List NR) (s:ar) (E:XK) (Γ:Gz) (ds:List Dv) (Q':ZK) (E':ZX),P=Γ.P->w=Γ.w->K=Γ.K->tb=Γ.tb->bP k (A.deeper (envOfC x (aw st) s.heap.objs.size f fd.code))->S ds Γ.M0 Q' E'->
   ∃p,ix Γ (eL bC P w K mg base N x (aw st) f fd.code A outer s Γ.H0 E).lU (cw st) p/\p (zEndsOf Γ.M0 Q') (zstart N ds) Γ.M0):FnOk P w K mg base bC (k+1) f fd ps (bj P w K tb S) :=by
 refine D.fn.K8 sc (tV len) fun A outer s H vs Q E hr h=>?_
 obtain ⟨β,ds,M,Q',E',eP,ew,eK,et,m,rs,hS,q,_⟩:=h
 obtain ⟨p,hp,hq⟩:=body A outer s E ⟨β,M,H⟩ ds Q' E' eP.symm ew.symm eK.symm et.symm hr hS
 refine ⟨_,hp,β,zstart N ds,M,zEndsOf M Q',qU (Γ:=⟨β,M,H⟩) m rs,hq,?_⟩
 have fin:∀d M' v H',Ex β M H M' H'->Rz β M' H' v d->jU M Q' d M'->Q v H':=fun d M' v H' x r h=>tU m q x r h
 exact ⟨fun bg M' az H' x zr h=>fin _ _ _ _ ⟨zr.ent,x.mz⟩ .aj h,fun d M' v H' x e r h=>fin _ _ _ _ ⟨e,x.mz⟩ r h,fun _ _ _ _ _ _ h=>h,fun _ _ _ _ _ _ h=>h⟩
end
section
variable {P:gl} {w:ii} {K:bi} {mg:cb->Option am} {base:ij} {tb:d9} {x:cb} {st:r9} {f:ag} {fd:nw} {N ps:List cb} {k:Nat} {S:eA}
theorem uU (D:Df K mg x st ps f fd) (sc:a9 N ps (aw st)) (len:∀ds M Q E,S ds M Q E->ds.length=ps.length)
  (body:∀(A:l7) (outer:List NR) (s:ar) (E:XK) (Γ:Gz) (ds:List Dv) (Q':ZK) (E':ZX),P=Γ.P->w=Γ.w->K=Γ.K->tb=Γ.tb->XR Γ E' E->bP k (A.deeper (envOfC x (aw st) s.heap.objs.size f fd.code))->S ds Γ.M0 Q' E'->
   ∃p,ix Γ (eL (dR P w) P w K mg base N x (aw st) f fd.code A outer s Γ.H0 E) (cw st) p/\p (zEndsOf Γ.M0 Q') (zstart N ds) Γ.M0):FnOk P w K mg base (dR P w) (k+1) f fd ps (bj P w K tb S) :=by
 refine D.fn.wg sc (tV len) fun A outer s H vs Q E hr h=>?_
 obtain ⟨β,ds,M,Q',E',eP,ew,eK,et,m,rs,hS,q,qx⟩:=h
 obtain ⟨p,hp,hq⟩:=body A outer s E ⟨β,M,H⟩ ds Q' E' eP.symm ew.symm eK.symm et.symm qx hr hS
 refine ⟨_,hp,β,zstart N ds,M,zEndsOf M Q',qU (Γ:=⟨β,M,H⟩) m rs,hq,?_⟩
 have fin:∀d M' v H',Ex β M H M' H'->Rz β M' H' v d->jU M Q' d M'->Q v H':=fun d M' v H' x r h=>tU m q x r h
 exact ⟨fun bg M' az H' x zr h=>fin _ _ _ _ ⟨zr.ent,x.mz⟩ .aj h,fun d M' v H' x e r h=>fin _ _ _ _ ⟨e,x.mz⟩ r h,fun _ _ _ _ _ _ h=>h,fun _ _ _ _ _ _ h=>h⟩
end
section
variable {X:Cx} {Γ:Gz} {β:Bz} {K:bi}
def zCall (S:eA) (E':ZX) (za:du):aH:=fun ρ M Q=>za ρ M fun ds M1=>S ds M1 Q E'
theorem XR.none:XR Γ (fun _ _=>False) (fun _ _ _=>False):=fun _ _ _ _ h=>h
theorem xg {M M1 M2:Mh} {H H1 H2:Hp} (ent:Ey M H M1 H1) (sub:∀a,a∈Γ.hid->a∈β.hid) (eP:β.P=Γ.P) (ew:β.w=Γ.w) (eK:β.K=Γ.K) (et:β.tb=Γ.tb) (x:Ex β M1 H1 M2 H2):Ex Γ.toBz M H M2 H2:=⟨ent.trans x.toEy,x.mz.sub eP.symm ew.symm eK.symm et.symm sub⟩
section
variable {CX:ip} {k:Nat} {f:ag} {fd:nw} {ps:List cb} {S:eA} {E:XK} {E':ZX} {x:cb} {p pos:u4} {e:dL} {es:List dL} {za:du} {P:gl} {w:ii} {tb:d9}
theorem FA (hP:P=Γ.P) (hw:w=Γ.w) (hK:K=Γ.K) (ht:tb=Γ.tb) (hE:XR Γ E' E) {σ:St} {H:Hp} {Q:VK} (h:lE Γ (zCall S E' za) σ H Q):Aa (bj P w K tb S) [] E (lA Γ za) σ H Q :=by
 subst hP hw hK ht
 obtain ⟨β,ρ,M,Q',zr,h,q⟩:=h
 refine ⟨β,ρ,M,_,zr,h,fun ds M1 vs H1 x1 r1 h1=>?_⟩
 show bj Γ.P Γ.w Γ.K Γ.tb S (vs++[]) H1 Q E
 rw [Do]
 exact ⟨β,ds,M1,Q',E',zr.eP,zr.ew,zr.eK,zr.et,x1.mz,r1,h1,fun d M2 v H2 x2 r2 h2=>q _ _ _ _ (x1.trans x2) r2 h2,fun C M2 H2 x2 h2=>hE C M2 H2 (xg zr.ent zr.sub zr.eP zr.ew zr.eK zr.et (x1.trans x2)) h2⟩
theorem aN (F:FnOk X.prog X.w X.K X.mg X.base CX k f fd ps (bj P w K tb S)) (hr:bP k X.A) (hg:Gl X x) (hm:X.mg x=some (.ref f)) (hk:N1 X.K (.ref f)=true) (hb:Binds X.K fd ps []) (hx:Passes CX X E) (hP:P=Γ.P) (hw:w=Γ.w) (hK:K=Γ.K) (ht:tb=Γ.tb) (hE:XR Γ E' E)
  (ha:QA Γ X (e::es) za) (d6:(x==("__debug__" : cb))=false :=by decide) (he:starEach (e::es) X.env=(false,eval e X.env)::starEach es X.env :=by rfl) (dg:(backTo pos (starEach es X.env)).any (·.1)=false :=by rfl) :
  QE Γ X (.Call (.Name x p) (e::es) [] pos) (zCall S E' za):=(Bw F hr hg hm hk hb .nil hx ha d6 he dg).imp fun σ H Q h=>FA hP hw hK ht hE h
end
def zRaise (C:ag) (E':ZX) (za:du):bq:=fun _ ρ M=>za ρ M fun ds M1=>ds.length<=sizeLine/\E' C M1
theorem qV {x:cb} {C:ag} {ia:dL} {rest:List dL} {za:du} {oH:List am} {B newId ql:String} {E:XK} {E':ZX} {np aL pos:u4} (O:PF X.K C oH newId=true) (FB:ExcBaseFacts B newId ql oH) (hc:X.calm=true) (hR:Raises X E) (hE:XR Γ E' E) (hg:Gl X x) (hm:X.mg x=some (.ref C)) (ha:QA Γ X (ia::rest) za)
  (d6:(x==("__debug__" : cb))=false :=by decide) (he:starEach (ia::rest) X.env=(false,eval ia X.env)::starEach rest X.env :=by rfl) (dg:(backTo aL (starEach rest X.env)).any (·.1)=false :=by rfl) :
  QS Γ X (.Raise (some (.Call (.Name x np) (ia::rest) [] aL)) none pos) (zRaise C E' za):=(yR O FB hc hR hg hm ha d6 he dg).imp fun D σ H ⟨β,ρ,M,D',zr,h,r⟩=>⟨β,ρ,M,_,zr,h,fun ds M1 vs H1 x1 r1 h1=>
 ⟨by rw [r1.len];exact h1.1,hE C M1 H1 (xg zr.ent zr.sub zr.eP zr.ew zr.eK zr.et x1) h1.2⟩⟩
def zTry (K:bi) (C0:ag) (i n:Nat) (pb:ZX->bq) (ph:bq):bq:=fun D ρ M=>pb (fun C M'=>subIn K (.ref C) (.ref C0)=some true/\ph {D with nx:=fun _ M2=>D.nx (li n none) M2,bk:=fun _ M2=>D.bk (li n none) M2,ct:=fun _ M2=>D.ct (li n none) M2} ((li n none).set i (some (.exc C))) M') D ρ M
theorem FC {body suite:List r9} {x n:cb} {i:Nat} {np qp pos:u4} {nj:r9} {C0:ag} {pb:ZX->bq} {ph:bq} {nn:Nat} (LY:X.N.length=nn) (hN:X.N.Nodup) (hi:X.N[i]?=some n) (hl:X.env.scope.names.lookup n=some .local) (ig:X.stack=X.env::X.outer/\X.env.frame=some X.env.locals) (hex:X.ex=[]) (O:gZ X.K C0) (hg:Gl X x) (hm:X.mg x=some (.ref C0))
  (hb:∀(T:am->ar->Prop) (pn:List (ag×lm)) (E:XK) (E':ZX) (aO:Gz),aO.P=Γ.P->aO.w=Γ.w->aO.K=Γ.K->aO.tb=Γ.tb->Passes (dR X.prog X.w) (X.iJ T pn) E->XR aO E' E->ix aO (X.iJ T pn) body (pb E')) (hs:∀a:ag,ix Γ (X.suite a) (nj::suite) ph)
  (d6:(x==("__debug__" : cb))=false :=by decide) :
  QS Γ X (.Try body [.ExceptHandler (some (.Name x np)) (some n) (nj::suite) qp] [] [] pos) (zTry X.K C0 i nn pb ph) :=by
 subst LY
 refine (EG (tb:=fun E=>fun D σ H=>∃(aO:Gz) (E':ZX),aO.P=Γ.P/\aO.w=Γ.w/\aO.K=Γ.K/\aO.tb=Γ.tb/\XR aO E' E/\lS aO (pb E') D σ H) hN hi hl ig hex O hg hm (fun T pn E hp=>⟨fun pins s σ H D I h=>?_⟩) hs d6).imp fun D σ H ⟨β,ρ,M,D',zr,h,r⟩=>⟨⟨β,M,H⟩,_,zr.eP,zr.ew,zr.eK,zr.et,?_,β,ρ,M,D',⟨rfl,rfl,rfl,rfl,fun _ h=>h,zr.mz.wf,.refl,zr.mz,zr.len,zr.at'⟩,h,?_⟩
 ·obtain ⟨aO,E',e1,e2,e4,e3,hE,h⟩:=h
  exact (hb T pn E E' aO e1 e2 e4 e3 hp hE) pins s σ H D I h
 ·intro C M' H' x' hC
  have x':Ex β M H M' H':=x'
  obtain ⟨ib,LZ⟩:=hC
  refine ⟨C,rfl,ib,fun a ha=>?_⟩
  have x2:=Ex.lay x'.mz ha (la C a)
  have x3:=x'.trans x2
  have bare:∀{M2:Mh} {H2:Hp},Ex β M H M2 H2->Zr Γ β M2 (li X.N.length none) (blank X.N.length) H2:=fun x=>⟨zr.eP,zr.ew,zr.eK,zr.et,zr.sub,zr.wf,zr.ent.trans x.toEy,x.mz,by simp [blank],fun j d e=>by
   rw [AL] at e
   split at e <;> cases e⟩
  refine ⟨β,_,M',_,(bare x3).set i (.exc (x'.mz.fz ha) aE),LZ,?_⟩
  have uV:∀{M2:Mh} {ez:ax} {fL:St} {H2:Hp},Zr Γ β M2 ez fL H2->Zr Γ β M2 (li X.N.length none) (blank X.N.length) H2:=fun z=>⟨z.eP,z.ew,z.eK,z.et,z.sub,z.wf,z.ent,z.mz,by simp [blank],fun j d e=>by
   rw [AL] at e
   split at e <;> cases e⟩
  exact ⟨fun ez M2 fL H2 y z h=>r.nx _ _ _ _ (x3.ev.trans y) (uV z) h,fun d M2 v H2 y e z h=>r.rt _ _ _ _ (x3.ev.trans y) e z h,fun ez M2 fL H2 y z h=>r.bk _ _ _ _ (x3.ev.trans y) (uV z) h,fun ez M2 fL H2 y z h=>r.ct _ _ _ _ (x3.ev.trans y) (uV z) h⟩
 ·have up:∀{bg:ax} {M2:Mh} {az:St} {H2:Hp},Zr ⟨β,M,H⟩ β M2 bg az H2->Zr Γ β M2 bg az H2:=fun z=>⟨zr.eP,zr.ew,zr.eK,zr.et,zr.sub,zr.wf,zr.ent.trans z.ent,z.mz,z.len,z.at'⟩
  exact ⟨fun ez M2 fL H2 y z h=>r.nx _ _ _ _ y (up z) h,fun d M2 v H2 y e z h=>r.rt _ _ _ _ y (zr.ent.trans e) z h,fun ez M2 fL H2 y z h=>r.bk _ _ _ _ y (up z) h,fun ez M2 fL H2 y z h=>r.ct _ _ _ _ y (up z) h⟩
def zIsE (K:bi):kQ:=fun ds M Q=>match ds with
 | [.exc C,.raw (.ref D)]=>cW K C/\(match kitOne K (.ref C) (.ref D) with|some b=>Q (.bl b) M|none=>False)
 | [.exc C,.raw (.ty T)]=>cW K C/\(match kitOne K (.ref C) (.type T) with|some b=>Q (.bl b) M|none=>False)
 | [.exc C,.tup es]=>cW K C/\∃Ds:List ag,es=Ds.map (fun D=>.raw (.ref D))/\(match kitAny K (.ref C) (Ds.map lc) with|some b=>Q (.bl b) M|none=>False)
 |_=>False
theorem uW (hK:X.K=K):eE Γ X (.builtin "isinstance") (zIsE K):=⟨_,yT hK,fun β xs ds M H Q Q' _ _ _ m rs z q=>by
 unfold zIsE at z
 split at z
 ·rename_i C D
  obtain ⟨x,y,rfl,r,r'⟩:=fA rs
  obtain ⟨a,rfl,f,h⟩:=jM r
  have e:=g5 r'
  subst e
  obtain ⟨hC,z⟩:=z
  split at z
  ·rename_i b hb
   exact ⟨a,C,b,h,hC,.inl ⟨D,rfl,hb⟩,q _ _ _ _ (.refl m) (.bl _) z⟩
  ·exact z.elim
 ·rename_i C T
  obtain ⟨x,y,rfl,r,r'⟩:=fA rs
  obtain ⟨a,rfl,f,h⟩:=jM r
  have e:=g5 r'
  subst e
  obtain ⟨hC,z⟩:=z
  split at z
  ·rename_i b hb
   exact ⟨a,C,b,h,hC,.inr (.inl ⟨T,rfl,hb⟩),q _ _ _ _ (.refl m) (.bl _) z⟩
  ·exact z.elim
 ·rename_i C es
  obtain ⟨x,y,rfl,r,r'⟩:=fA rs
  obtain ⟨a,rfl,f,h⟩:=jM r
  obtain ⟨b2,vs,rfl,f2,h2,b8⟩:=bh r'
  obtain ⟨hC,Ds,rfl,z⟩:=z
  split at z
  ·rename_i b hb
   have ev:vs=Ds.map V.ref :=by
    refine GG fun i=>?_
    cases e:vs[i]? with
    |none=>
     have:=LP.mp e
     have l:=b8.len
     simp at l
     rw [cr,LP.mpr (by omega)]
     rfl
    |some v=>
     obtain ⟨d,hd,rd⟩:=b8.get' e
     rw [cr] at hd
     cases e2:Ds[i]? with
     |none=>rw [e2] at hd;cases hd
     |some D=>rw [e2] at hd;cases hd;rw [cr,e2,g5 rd];rfl
   subst ev
   exact ⟨a,C,b,h,hC,.inr (.inr ⟨b2,Ds,rfl,h2,hb⟩),q _ _ _ _ (.refl m) (.bl _) z⟩
  ·exact z.elim
 ·exact z.elim⟩
section
variable {tg elt iter:dL} {ifs:List dL} {scope:At} {pos:u4} {N':List cb} {tn:Nat} {idx:List Nat} {zi:fh} {g:b7} {tt:cE} {te:aH} {c P:ag} {k:Nat}
theorem sh (hc:X.calm=true) (B:aW X.N X.env.scope scope N' tn idx) (hi:QI Γ X tg iter zi)
  (hg:Blk X N' scope fun Y=>QG Γ Y tg g) (ht:Blk X N' scope fun Y=>tP Γ Y ifs tt) (he:Blk X N' scope fun Y=>QE Γ Y elt te)
  (hs:∀x,foldedSetIterable iter X.env x=pure x :=by intro _;rfl):QE Γ X (.ListComp elt [⟨tg,iter,ifs,0⟩] scope pos) (zComp tn idx zi g tt te):=(rX hc B hi hg ht he hs).imp fun σ H Q h=>w9 h
theorem uX {i:Nat} {y:cb} {py jr:u4} (hN:X.N.Nodup) (cI:X.N[i]?=some y) (hy:X.env.scope.names.lookup y=some .local) (hc:X.calm=true) (B:aW X.N X.env.scope scope N' tn idx) (hi:QI Γ X tg iter zi)
  (hg:Blk X N' scope fun Y=>QG Γ Y tg g) (ht:Blk X N' scope fun Y=>tP Γ Y ifs tt) (he:Blk X N' scope fun Y=>QE Γ Y elt te)
  (wa:swapsWith (.ListComp elt [⟨tg,iter,ifs,0⟩] scope pos) (some (.Name y py)) jr.line X.env=pure true :=by rfl)
  (hs:∀x,foldedSetIterable iter X.env x=pure x :=by intro _;rfl):QS Γ X (.Assign [.Name y py] (.ListComp elt [⟨tg,iter,ifs,0⟩] scope pos) jr) (zAsg (zComp tn idx zi g tt te) (zgName i)):=(mh hN cI hy hc B hi hg ht he wa hs).imp fun D σ H h=>uR (fun _ _ _ h=>w9 h) h
theorem si {i:Nat} {y:cb} {py jr:u4} (hN:X.N.Nodup) (cI:X.N[i]?=some y) (hy:X.env.scope.names.lookup y=some .local) (hc:X.calm=true) (B:aW X.N X.env.scope scope N' tn idx) (hi:QI Γ X tg iter zi)
  (hg:Blk X N' scope fun Y=>QG Γ Y tg g) (ht:Blk X N' scope fun Y=>tP Γ Y ifs tt) (he:Blk X N' scope fun Y=>QE Γ Y elt te)
  (wa:swapsWith (.ListComp elt [⟨tg,iter,ifs,0⟩] scope pos) (some (.Name y py)) jr.line X.env=pure true :=by rfl)
  (hs:∀x,foldedSetIterable iter X.env x=pure x :=by intro _;rfl):QS Γ X (.Assign [.Name y py] (.ListComp elt [⟨tg,iter,ifs,0⟩] scope pos) jr) (zAsg (zCompP tn idx zi g tt te) (zgName i)):=(mh hN cI hy hc B hi hg ht he wa hs).imp fun D σ H h=>uR (fun _ _ _ h=>Cd h) h
theorem xh {p qb:u4} (hP:P∈Γ.tb) (hr:bP (k+1) X.A) (hc:X.calm=true) (B:aW X.N X.env.scope scope N' tn idx)
  (h0:scope.names.lookup (".0" : cb)=some .local) (oC:scope.isCoroutine=false) (mi:X.env.code=.ref c) (hd:rf X.base c P) (gY:∃bm ob,Qf X.base mainGlobals X.mg bm ob)
  (Ek:Gl X "all") (hm:X.mg "all" = none) (hi:QI Γ X tg iter zi) (hg:k7 X N' scope k fun Y=>QG Γ Y tg g) (ht:k7 X N' scope k fun Y=>tP Γ Y ifs tt) (he:k7 X N' scope k fun Y=>QE Γ Y elt te)
  (hs:∀x,genFold iter X.env x=pure x :=by intro _;rfl):QE Γ X (.Call (.Name "all" p) [cQ elt tg iter ifs scope qb] [] pos) (zAll tn idx zi g tt te):=(Ej hr hc B h0 oC mi hd gY Ek hm hi hg ht he hs).imp fun σ H Q h=>Hf hP h
end
end
section
variable {X:Cx} {Γ:Gz} {β:Bz} {K:bi}
section
variable {tg elt iter:dL} {ifs:List dL} {scope:At} {pos:u4} {N':List cb} {tn:Nat} {idx:List Nat} {zi:fh} {g:b7} {tt:cE} {te:aH} {c P:ag} {k:Nat}
def AK (g:b7) (tt:cE) (te:aH):List Dv->ax->Mh->(List Int->Mh->Prop)->List Int->Prop
 | [],_,M,Q,acc=>Q acc M
 |d::ds,τ,M,Q,acc=>g d τ M fun aB M2=>tt aB M2 fun b M3=>if b=true then te aB M3 fun y M4=>(match y with | .int k=>acc.length+1<scanBound/\AK g tt te ds aB M4 Q (J8 acc k)|_=>False) else AK g tt te ds aB M3 Q acc
end
def eB (xs ys:List Dv):List Dv:=(xs.zip ys).map fun p=>.tup [p.1,p.2]
def gN (n:Nat):List Dv:=(io n).map fun i=>.int (i:Nat)
theorem oT {J:It} {vs us:List V} {ds es:List Dv} {M:Mh} {H:Hp} (r:aG β M H vs ds) (r2:aG β M H us es) (h:∀M' H',Ey M H M' H'->As J (vs.zip us) H'):wW β J (eB ds es) M H:=fun bQ M' H' bx x m i=>by
 have q:=h M' H' x i
 have hl:(eB ds es).length=(vs.zip us).length :=by simp [eB,r.len,r2.len]
 rw [hl]
 refine ⟨fun hi=>⟨(q.1 hi).1,fun v jd y=>?_⟩,q.2⟩
 obtain ⟨t,p,ht,rfl,hp,rfl⟩:=(q.1 hi).2 v jd y
 rw [uu] at hp
 obtain ⟨d,hd,rd⟩:=r.get' hp.1
 obtain ⟨e,he,re⟩:=r2.get' hp.2
 have x2:=Ex.lay m ht (.tup [p.1,p.2])
 refine ⟨x2,.tup [d,e],?_,dn (m.fz ht) aE (.cons (((rd.bx bx).ey x).ex x2) (.cons (((re.bx bx).ey x).ex x2) .nil))⟩
 unfold eB
 rw [cr,r6]
 exact ⟨(d,e),by rw [uu];exact ⟨hd,he⟩,rfl⟩
theorem enum_zip (vs:List V):((io vs.length).map fun i=>(V.int (i:Nat),vs.getD i .aj))=((io vs.length).map fun i=>V.int (i:Nat)).zip vs :=by
 refine GG fun i=>?_
 by_cases hi:i<vs.length
 ·rw [cr,GS hi]
  symm
  show _=some (V.int (i:Nat),vs.getD i .aj)
  rw [uu,cr,GS hi,db,ap hi]
  exact ⟨rfl,rfl⟩
 ·rw [LP.mpr (by simp;omega),LP.mpr (by simp;omega)]
theorem nE {n:Nat} {M:Mh} {H:Hp}:aG β M H ((io n).map fun i=>V.int (i:Nat)) (gN n):=⟨by simp [gN],fun i v d a b=>by
 unfold gN at b
 rw [cr] at a b
 cases e:(io n)[i]? with
 |none=>rw [e] at a;cases a
 |some c=>rw [e] at a b;cases a;cases b;exact .int _⟩
theorem Sq.IV {H:Hp} {a:ag} {xs:List V} (h:H a=some (.lst xs)):Sq true K H a xs :=by
 unfold Sq
 exact bB.of h
theorem Sq.ofT {H:Hp} {a:ag} {xs:List V} (h:H a=some (.tup xs)):Sq false K H a xs :=by
 unfold Sq
 exact bp.of h
section
variable {elts:List dL} {x1:Nat} {tp p pos:u4} {l l1 l2:dL} {pl p1 p2:aH}
def ziEnumK (k:Bool) (p:aH):fh:=fun ρ M R=>p ρ M fun d M1=>match k,d with|false,.tup ds=>R (eB (gN ds.length) ds) M1|true,.lst ds=>R (eB (gN ds.length) ds) M1|_,_=>False
theorem tW (k:Bool) (hK:X.K=K) (hg:Gl X "enumerate") (hm:X.mg "enumerate" = none) (hl:QE Γ X l pl) (hs:starEach [l] X.env=[(false,eval l X.env)] :=by rfl) :
  QI Γ X (.Tuple elts x1 tp) (.Call (.Name "enumerate" p) [l] [] pos) (ziEnumK k pl):=(B2 k hK hg hm hl hs).imp fun σ H R ⟨β,ρ,M,R',zr,h,q⟩=>⟨β,ρ,M,_,zr,h,fun d M1 v H1 x1 r1 h1=>by
 revert h1
 split
 ·intro h1
  obtain ⟨a,vs,rfl,f,e,rs⟩:=bh r1
  refine ⟨a,rfl,⟨vs,Sq.ofT e⟩,q _ _ _ _ x1 ?_ h1⟩
  rw [<- rs.len]
  exact oT nE rs fun M' H' x=>by rw [<- enum_zip];exact oJ (Sq.ofT (x.get f.1 e rfl))
 ·intro h1
  obtain ⟨a,vs,rfl,f,e,rs⟩:=fN r1
  refine ⟨a,rfl,⟨vs,Sq.IV e⟩,q _ _ _ _ x1 ?_ h1⟩
  rw [<- rs.len]
  exact oT nE rs fun M' H' x=>by rw [<- enum_zip];exact oJ (Sq.IV (x.get f.1 e rfl))
 ·exact fun h=>h.elim⟩
end
def zRangeP (p:aH):aH:=fun ρ M Q=>p ρ M fun d M1=>match d with | .int j => -(2 ^ 24)<=j/\j<=2 ^ 24/\∀a,M1 a=none->Q (.ptr a) (ay M1 a (.lst (gN j.toNat)))|_=>False
section
variable {e:dL} {pe:aH} {p p1 p2 pos:u4}
theorem pf (hc:X.calm=true) (hg:Gl X "list") (hm:X.mg "list" = none) (mj:Gl X "range") (qf:X.mg "range" = none) (he:QE Γ X e pe) (hs:starEach [e] X.env=[(false,eval e X.env)] :=by rfl) :
  QE Γ X (.Call (.Name "list" p) [.Call (.Name "range" p1) [e] [] p2] [] pos) (zRangeP pe):=(qd hc hg hm mj qf he hs).imp fun σ H Q ⟨β,ρ,M,Q',zr,h,q⟩=>⟨β,ρ,M,_,zr,h,fun d M1 v H1 x1 r1 h1=>by
 revert h1
 split
 ·rename_i j
  rintro ⟨b1,b2,h1⟩
  refine ⟨_,aC r1,b1,b2,fun l hl=>?_⟩
  have x2:=Ex.own x1.mz (.inr hl) (nE (n:=j.toNat) (β:=β) (M:=M1) (H:=H1))
  exact q _ _ _ _ (x1.trans x2) (.ptr (by rw [updM_same];rfl)) (h1 l (x1.mz.free hl))
 ·exact fun h=>h.elim⟩
def zNeg (p:aH):aH:=fun ρ M Q=>p ρ M fun d M1=>match d with | .int i=>Q (.int (-i)) M1|_=>False
theorem qW (ha:QE Γ X e pe):QE Γ X (.UnaryOp .USub e pos) (zNeg pe):=(GL DJ ha).imp fun σ H Q ⟨β,ρ,M,Q',zr,h,q⟩=>⟨β,ρ,M,_,zr,h,fun d M1 v H1 x1 r1 h1=>by
 revert h1
 split
 ·intro h1
  exact ⟨_,aC r1,q _ _ _ _ x1 (.int _) h1⟩
 ·exact fun h=>h.elim⟩
end
theorem qv (i:Nat) {x:cb} {pos:u4} (hN:X.N[i]?=some x :=by rfl) (hv:pJ X.env.scope x :=by first|exact mo rfl|exact OM (mo rfl)|exact OM (OM rfl)) (hd:(x==("__debug__" : cb))=false :=by decide)
  (fK:(x==("__classdict__" : cb))=false :=by decide):QE Γ X (.Name x pos) (zVar i):=Fg hN hv hd fK
end
theorem L6 {c:Bool} {A B:Prop} (h:c=true) (a:A):if c=true then A else B :=by rw [if_pos h];exact a
theorem L7 {c:Bool} {A B:Prop} (h:c=false) (b:B):if c=true then A else B :=by rw [h,if_neg f8];exact b
theorem f6 {c:Bool} {A B:Prop} (h1:c=true->A) (h2:c=false->B):if c=true then A else B :=by
 cases c
 ·exact L7 rfl (h2 rfl)
 ·exact L6 rfl (h1 rfl)
theorem nF {g:b7} {te:aH} {M:Mh} (p:Dv->Bool) (I:ax->Prop):∀{ds:List Dv} {τ:ax} {Q:Bool->Mh->Prop},I τ->(∀d∈ds,∀τ,I τ->∀R:ax->ZK,(∀aB,I aB->R aB (.bl (p d)) M)->g d τ M fun aB M2=>te aB M2 (R aB))->Q (ds.all p) M->g6 g zNoIf te ds τ M Q
 | [],τ,Q,_,_,q=>q
 |d::ds,τ,Q,i,h,q=>by
          refine h d kt τ i (fun aB=>zBool fun c M4=>if c=false then Q false M4 else g6 g zNoIf te ds aB M4 Q) fun aB i2=>?_
          show if p d=false then Q false M else g6 g zNoIf te ds aB M Q
          cases e:p d with
          |false=>
           rw [if_pos rfl]
           rw [List.all_cons,e] at q
           exact q
          |true=>
           rw [if_neg (by decide)]
           rw [List.all_cons,e,Of] at q
           exact nF p I i2 (fun d' hd=>h d' (ff _ hd)) q
theorem nG {g:b7} {tt:cE} {te:aH} (t:Dv->Bool) (f:Dv->Dv) (I:ax->Mh->Prop):∀{ds:List Dv} {τ:ax} {M:Mh} {Q:List Dv->Mh->Prop},I τ M->
  (∀d∈ds,∀τ M,I τ M->∀(R0:ax->Mh->Prop) (R:ax->ZK),(t d=true->∀aB M2,I aB M2->R aB (f d) M2)->(t d=false->∀aB M2,I aB M2->R0 aB M2)->g d τ M fun aB M2=>tt aB M2 fun b M3=>if b=true then te aB M3 (R aB) else R0 aB M3)->
  (∀τ M,I τ M->Q ((ds.filter t).map f) M)->fU g tt te ds τ M Q
 | [],τ,M,Q,i,_,q=>q τ M i
 |d::ds,τ,M,Q,i,h,q=>by
          refine h d kt τ M i (fun aB M3=>fU g tt te ds aB M3 Q) (fun aB y M4=>fU g tt te ds aB M4 fun ys M5=>Q (y::ys) M5) (fun e aB M2 i2=>?_) fun e aB M2 i2=>?_
          ·refine nG t f I i2 (fun d' hd=>h d' (ff _ hd)) fun oS M3 i3=>?_
           have:=q oS M3 i3
           rw [List.filter_cons,if_pos e] at this
           exact this
          ·refine nG t f I i2 (fun d' hd=>h d' (ff _ hd)) fun oS M3 i3=>?_
           have:=q oS M3 i3
           rw [List.filter_cons,if_neg (by rw [e];decide)] at this
           exact this
abbrev eI (ns:List Int):Dv:=.tup (ns.map .int)
abbrev eN (aA:List (List Int)):Dv:=.tup (aA.map eI)
abbrev jV (ns:List Int):Dv:=.lst (ns.map .int)
theorem qX:∀ns:List Int,g8 (ns.map Dv.int)=some (ns.map Dt.int)
 | []=>rfl
 |n::ns=>by simp only [wP,g8,bt,qX ns]
theorem qY {n:Nat}:∀{ds:List Dt},(∀d∈ds,i9 d<=n)->fg ds<=n
 | [],_=>by rw [fg];exact l8 _
 |d::ds,h=>by
          rw [fg]
          exact Nat.max_le.mpr ⟨h d kt,qY fun d' hd=>h d' (ff _ hd)⟩
theorem Cj (ns:List Int):fg (ns.map Dt.int)<=0:=qY fun d hd=>by
 obtain ⟨i,_,rfl⟩:=l9.mp hd
 exact br _
theorem gO {M:Mh} (ns:List Int):∀d∈ns.map Dv.int,Pin M d:=fun d hd=>by
 obtain ⟨i,_,rfl⟩:=l9.mp hd
 exact .int i
theorem xi {M:Mh} (ns:List Int):Pin M (eI ns):=.tup (gO ns)
theorem xj {M:Mh} (aA:List (List Int)):Pin M (eN aA):=.tup fun d hd=>by
 obtain ⟨r,_,rfl⟩:=l9.mp hd
 exact xi r
theorem Ck {α β:Type} {f:α->β} {xs:List α} {i:Int} {x:α} (h:cu xs i=some x):cu (xs.map f) i=some (f x) :=by
 unfold cu at h ⊢
 rw [c8]
 cases e:fb xs.length i with
 |none=>rw [e] at h;cases h
 |some j=>rw [e] at h;simp only [Option.bind_some] at h ⊢;rw [cr,h];rfl
theorem xk {α:Type} {xs:List α} {k:Nat} (h:k<xs.length):cu xs ((k:Nat):Int)=some xs[k]:=cY (ap h)
def spLaw (K:bi) (tb:d9):Sp:=fun vs H Q _=>∃(a:ag) (ns:List Int),vs=[.ref a]/\bB K H a (ns.map V.int)/\ns.length<=63/\Ak tb.g H/\(∀p∈tb.l,Lm H p)/\∀H',(∀p∈tb.l,∃ps,H' p.1=some (.lam ps))->Q (.bl true) H'
def FD:eA:=fun ds M Q _=>∃ns:List Int,ds=[.bc ns]/\ns.length<=63/\(∀a,M a=none)/\∀M',Q (.bl true) M'
theorem FE {P:gl} {w:ii} {K:bi} {mg:cb->Option am} {base:ij} {k:Nat} {f:ag} {fd:nw} {x:cb} {tb:d9} (G:FnOk P w K mg base bC k f fd [x] (bj P w K tb FD)):FnOk P w K mg base bC k f fd [x] (spLaw K tb):=
 G.imp fun vs H Q E ⟨a,ns,e,hS,hl,hT,hL,q⟩=>by
  subst e
  have m:Mz ⟨P,w,K,tb,[]⟩ (fun _=>none) H:=⟨(fun a o e=>nomatch e),hT,(fun a ha=>absurd ha (by simp)),(fun a o e=>nomatch e),hL⟩
  refine ⟨⟨P,w,K,tb,[]⟩,[.bc ns],fun _=>none,fun d _=>d=.bl true,fun _ _=>False,rfl,rfl,rfl,rfl,m,.cons ?_ .nil,⟨ns,rfl,hl,fun _=>rfl,fun _=>rfl⟩,fun d M' v H' x r h=>?_,fun _ _ _ _ h=>h.elim⟩
  ·have fz:Fz ⟨P,w,K,tb,[]⟩ (fun _=>none) a:=⟨rfl,by simp⟩
   rcases hS with (h|⟨o,h⟩)|h
   ·exact .bU fz h
   ·exact .bc fz h
   ·exact .bV h
  ·subst h
   rw [cA r]
   exact q H' fun p hp=>let ⟨ps,e,_⟩:=x.mz.lams p hp;⟨ps,e⟩
def Keeps (M0 M:Mh):Prop:=∀a o,M0 a=some o->M a=some o
theorem Keeps.refl {M0:Mh}:Keeps M0 M0:=fun _ _ h=>h
theorem Keeps.upd {M0 M:Mh} {a:ag} {o:Mo} (ha:M0 a=none) (h:Keeps M0 M):Keeps M0 (ay M a o):=fun b u e=>by
 rw [ai (fun z=>by rw [z,ha] at e;cases e)]
 exact h b u e
theorem jW {M0 M:Mh} {Q:ZK} {d:Dv} (h:Keeps M0 M) (p:Pin M0 d) (q:Q d M0):jU M0 Q d M:=.inr ⟨h,d,.pin p,q⟩
theorem xl {M0 M:Mh} {Q:ZK} {a:ag} {ds:List Dv} (h:Keeps M0 M) (h0:M0 a=none) (ha:M a=some (.lst ds)) (p:∀d∈ds,Pin M0 d) (q:Q (.lst ds) M0):jU M0 Q (.ptr a) M:=.inr ⟨h,.lst ds,.ptr h0 ha rfl fun i d d' e e'=>by
 rw [e] at e'
 cases e'
 exact .pin (p d (im e)),q⟩
theorem cO {lo:Int} {n i:Nat} {d:Dv} (h:(cX lo n)[i]?=some d):d=.int (lo+(i:Nat))/\i<n :=by
 unfold cX at h
 rw [cr] at h
 cases e:(io n)[i]? with
 |none=>rw [e] at h;cases h
 |some k=>
  rw [e] at h
  obtain ⟨h1,h2⟩:=bv.mp e
  rw [Pt] at h2
  subst h2
  exact ⟨(i1 h).symm,by simpa using h1⟩
theorem mK {lo:Int} {n:Nat} {d:Dv} (h:d∈cX lo n):∃i:Nat,i<n/\d=.int (lo+(i:Nat)) :=by
 obtain ⟨i,hi⟩:=ul.mp h
 obtain ⟨e,l⟩:=cO hi
 exact ⟨i,l,e⟩
theorem rangeD_len (lo:Int) (n:Nat):(cX lo n).length=n :=by simp [cX]
theorem xm {xs ys:List Dv} {k:Nat} {d:Dv} (h:(eB xs ys)[k]?=some d):∃x y,d=.tup [x,y]/\xs[k]?=some x/\ys[k]?=some y :=by
 unfold eB at h
 rw [cr,r6] at h
 obtain ⟨p,h,rfl⟩:=h
 rw [uu] at h
 exact ⟨p.1,p.2,rfl,h.1,h.2⟩
theorem Cm {n k:Nat} {d:Dv} (h:(gN n)[k]?=some d):d=.int (k:Nat)/\k<n :=by
 unfold gN at h
 rw [cr] at h
 cases e:(io n)[k]? with
 |none=>rw [e] at h;cases h
 |some j=>
  rw [e] at h
  obtain ⟨h1,h2⟩:=bv.mp e
  rw [Pt] at h2
  subst h2
  exact ⟨(i1 h).symm,by simpa using h1⟩
theorem atI_zero {α:Type} {x:α} {xs:List α}:cu (x::xs) 0=some x:=cY (j:=0) rfl
theorem FG {α:Type} {f:α->Dv} {xs:List α} {k:Nat} {d:Dv} (h:(xs.map f)[k]?=some d):∃x,xs[k]?=some x/\d=f x :=by
 rw [cr,r6] at h
 obtain ⟨x,h,e⟩:=h
 exact ⟨x,h,e.symm⟩
theorem pairsD_len (xs ys:List Dv):(eB xs ys).length=min xs.length ys.length :=by simp [eB]
theorem numD_len (n:Nat):(gN n).length=n :=by simp [gN]
theorem tX (xs:List Dv) (lo hi:Option Int):cutD xs lo hi=(xs.drop (HT.aJ xs.length 0 lo)).take (HT.aJ xs.length xs.length hi - HT.aJ xs.length 0 lo):=rfl
theorem tY {n d k:Nat}:HT.aJ n d (some (k:Nat))=min k n :=by
 unfold HT.aJ
 simp only []
 split <;> omega
theorem Cp {xs:List Dv} {k:Nat}:cutD xs none (some (k:Nat))=xs.take k :=by
 rw [tX,tY]
 show (xs.drop 0).take (min k xs.length - 0)=xs.take k
 rw [List.drop_zero,Nat.sub_zero]
 by_cases h:k<=xs.length
 ·rw [Nat.min_eq_left h]
 ·rw [Nat.min_eq_right (by omega),EM (br _),EM (by omega)]
theorem xn {xs:List Dv} {k:Nat}:cutD xs (some (k:Nat)) none=xs.drop k :=by
 rw [tX,tY]
 show (xs.drop (min k xs.length)).take (xs.length - min k xs.length)=xs.drop k
 by_cases h:k<=xs.length
 ·rw [Nat.min_eq_left h,EM (by rw [OQ];omega)]
 ·rw [Nat.min_eq_right (by omega),List.drop_of_length_le (br _),List.drop_of_length_le (by omega)]
  exact List.take_nil
end L2
namespace L2
open PySem PySem.Spec PyProof.Rows
def qZ (N:List cb) (sc scope:At) (N':List cb) (tn:Nat) (idx:List Nat):Prop:=
 scope.kind=.function/\(∀y∈scope.names,(y.2=.cell->scope.names.lookup y.1=some .cell)/\(y.2=.local->scope.names.lookup y.1=some .local)/\(y.2=.free->sc.names.lookup y.1=some .cell\/sc.names.lookup y.1=some .free)) /\
  N'.length=tn+idx.length/\∀p∈idx.zip (N'.drop tn),N[p.1]?=some p.2/\scope.names.lookup p.2=some .free
instance (N:List cb) (sc scope:At) (N':List cb) (tn:Nat) (idx:List Nat):Decidable (qZ N sc scope N' tn idx) :=by unfold qZ;infer_instance
end L2
namespace L2
open PySem PySem.Spec PySem.W PyProof.Rows
section
variable {X:Cx} {Γ:Gz} {β:Bz} {K:bi}
theorem Pin.mono {M M':Mh} {d:Dv} (h:Pin M d):(∀a,(M a).isSome=true->(M' a).isSome=true)->Pin M' d :=by
 intro k
 induction h with
 |int i=>exact .int i
 |bl b=>exact .bl b
 |aj=>exact .aj
 |str z=>exact .str z
 |tup h ih=>exact .tup ih
 |lst h ih=>exact .lst ih
 |dk h ih=>exact .dk ih
 |dt h ih=>exact .dt ih
 |cf h ih=>exact .cf ih
 |set ns=>exact .set ns
 |ptr h=>exact .ptr (k _ h)
 |exc C=>exact .exc C
 |bc ns=>exact .bc ns
 |raw v=>exact .raw v
def cq (M:Mh) (a:ag):Mh:=fun b=>if b=a then none else M b
theorem cR {M:Mh} {a:ag}:cq M a a=none :=by unfold cq;rw [if_pos rfl]
theorem bW {M:Mh} {a b:ag} (h:b≠a):cq M a b=M b :=by unfold cq;rw [if_neg h]
structure FH (M1 M:Mh) (ρ:ax):Prop where
 env:∀(i:Nat) (d:Dv),ρ[i]?=some (some d)->Pin M d
 obj:∀b o,M b=some o->M1 b=some o\/∀d∈o.items,Pin M d
theorem Zr.freeze {M:Mh} {ρ:ax} {σ:St} {H:Hp} {i:Nat} {a:ag} {ds:List Dv} (z:Zr Γ β M ρ σ H) (hi:ρ[i]?=some (some (.ptr a))) (ha:M a=some (.lst ds)) (h0:Γ.M0 a=none) (fr:FH Γ.M0 (cq M a) (ρ.set i (some (.lst ds)))) :
  Zr Γ β (cq M a) (ρ.set i (some (.lst ds))) σ H/\Ev β M H (cq M a) H :=by
 have rz:∀{v:V} {d:Dv},Rz β M H v d->Pin (cq M a) d->Rz β (cq M a) H v d:=fun r p=>r.iR (M0:=cq M a) (fun b hb=>by
  by_cases e:b=a
  ·rw [e,cR] at hb;cases hb
  ·rw [bW e] at hb;exact hb) p
 have IW:i<ρ.length:=(bv.mp hi).1
 have L8:∀d∈ds,Pin (cq M a) d:=fun d hd=>by
  have:=fr.env i (.lst ds) (by rw [OI IW])
  cases this with|lst h=>exact h d hd
 have obj:∀b es,cq M a b=some es->∀d∈es.items,Pin (cq M a) d:=fun b es e d hd=>by
  rcases fr.obj b es e with q|q
  ·refine (z.wf b es q d hd).mono fun c hc=>?_
   have nc:c≠a:=fun w=>by rw [w,h0] at hc;cases hc
   rw [bW nc]
   exact z.ent.dom c hc
  ·exact q d hd
 have mz:Mz β (cq M a) H :=by
  refine ⟨fun b o e=>?_,z.mz.tabs,z.mz.hids,fun b o e=>?_,z.mz.lams⟩
  ·have nb:b≠a:=fun q=>by rw [q,cR] at e;cases e
   have e':M b=some o :=by rw [bW nb] at e;exact e
   have q:=z.mz.obj b o e'
   cases o with
   |lst es=>obtain ⟨vs,hv,rs⟩:=q;exact ⟨vs,hv,rs.len,fun j v d x y=>rz (rs.at' j v d x y) (obj b _ e d (im y))⟩
   |dk ks es=>obtain ⟨vs,hv,hk,rs⟩:=q;exact ⟨vs,hv,hk,rs.len,fun j v d x y=>rz (rs.at' j v d x y) (obj b _ e d (im y))⟩
   |dt ks es=>obtain ⟨vs,hv,hk,rs⟩:=q;exact ⟨vs,hv,hk,rs.len,fun j v d x y=>rz (rs.at' j v d x y) (obj b _ e d (im y))⟩
   |ts ks es=>obtain ⟨vs,hv,hk,rs⟩:=q;exact ⟨vs,hv,hk,rs.len,fun j v d x y=>rz (rs.at' j v d x y) (obj b _ e d (im y))⟩
   |cy=>exact q
  ·have nb:b≠a:=fun q=>by rw [q,cR] at e;cases e
   rw [bW nb] at e
   exact z.mz.apart b o e
 refine ⟨⟨z.eP,z.ew,z.eK,z.et,z.sub,z.wf,⟨z.ent.keep,fun b hb=>?_,fun b o m h=>?_⟩,mz,by simp [z.len],fun j d e=>?_⟩,⟨fun b o _ h=>.inl h,fun b o m h=>?_,mz⟩⟩
 ·have nb:b≠a:=fun q=>by rw [q,h0] at hb;cases hb
  rw [bW nb];exact z.ent.dom b hb
 ·by_cases e:b=a
  ·rw [e,cR]
  ·rw [bW e];exact z.ent.new b o m h
 ·have p:=fr.env j d e
  rw [PN] at e
  split at e
  ·rename_i q
   subst q
   first
    |cases e
    |(rw [if_pos IW] at e;cases e)
   obtain ⟨v,hv,r⟩:=z.at' i _ hi
   obtain ⟨rfl,_⟩:=bu r
   obtain ⟨vs,hl,rs⟩:=z.mz.obj a _ ha
   refine ⟨_,hv,.lst ⟨cR,z.mz.apart a _ ha⟩ hl rs.len fun k v d x y=>rz (rs.at' k v d x y) (L8 d (im y))⟩
  ·obtain ⟨v,hv,r⟩:=z.at' j d e
   exact ⟨v,hv,rz r p⟩
 ·by_cases e:b=a
  ·rw [e,cR]
  ·rw [bW e];exact m
def Km (i:Nat) (M0:Mh) (p:bq):bq:=fun D ρ M=>p D ρ M\/∃a ds,ρ[i]?=some (some (.ptr a))/\M a=some (.lst ds)/\M0 a=none/\FH M0 (cq M a) (ρ.set i (some (.lst ds)))/\p D (ρ.set i (some (.lst ds))) (cq M a)
theorem FI (i:Nat) {M1:Mh} {st:r9} {p:bq} (hM:Γ.M0=M1) (h:QS Γ X st p):QS Γ X st (Km i M1 p):=h.imp fun D σ H ⟨β,ρ,M,D',zr,h,r⟩=>by
 rcases h with h|⟨a,ds,hi,ha,h0,fr,h⟩
 ·exact ⟨β,ρ,M,D',zr,h,r⟩
 ·obtain ⟨z2,e2⟩:=zr.freeze hi ha (by rw [hM];exact h0) (by rw [hM];exact fr)
  exact ⟨β,_,_,D',z2,h,r.step e2⟩
end
end L2
namespace L2
open PySem PySem.Spec PyProof.Rows
theorem xo {P:gl} {w:ii} {K:bi} {mg mb:cb->Option am} {CX:ip} {k:Nat} {fa a:ag} {fd:nw} {x:cb} {sp:Sp} {au:ar} {vs:List am} {ns:List Int} {tabs lts:List ag}
  (KX:K.In au.heap) (pT:au.heap.Ns mainGlobals mg) (hb:au.heap.Ns builtinsNs mb) (L9:∀x:cb,x ≠ "__name__" -> mb x=bootBuiltins x) (uL:au.heap.NoLimit) (hg:au.gens=#[])
  (ha:au.heap.get? a=some {cls:=.type "list",data:=.seq vs.toArray}) (hi:OW vs ns) (hl:ns.length<=sizeLine) (hr:bP k callerA)
  (nI:∀p∈tabs++lts,au.heap.get? p=some (N7 #[])/\isCodeTable au.heap p) (Kn:∀p∈tabs,p ∉ lts) (xq:Pu K=true) (gY:∃bm ob,Qf au.heap mainGlobals mg bm ob)
  (F:∀base:ij,K.In base->base.Ns mainGlobals mg->(∃bm ob,Qf base mainGlobals mg bm ob)->(∀c p,rf au.heap c p->rf base c p)->FnOk P w K mg base CX k fa fd [x] sp)
  (Hh:∀(s:ar) (u:am),PR s fd ⟨[u],[]⟩ [(x,u)])
  (kM:∀H:Hp,(∀p∈tabs,Tb p H)->(∀p∈lts,H p=some (.lam #[]))->bB K H a (ns.map V.int)->sp [.ref a] H (fun v H'=>v=.bl true/\∀p∈lts,∃ps,H' p=some (.lam ps)) fun _ _ _=>False)
  (FJ:∀H e s',CX [] H au (fun _ _ _=>False) e s'->False) :
  codeAny (model P w) callerA (.call (.ref fa) ⟨[.ref a],[]⟩) (fun r s'=>r=.ok (.ret (.bool true))/\OldK au.heap s'.heap/\s'.os=au.os/\Qh s'.gens) au :=by
 have rv:=ow hi
 have Ko:=hi.length
 have jt:a ∉ tabs++lts:=fun z=>by
  have e:=(nI a z).1
  rw [ha] at e
  cases e
 have core:∀H:Hp,(∀b u,H b=some u->(b=a/\∃o xs,u=.dO o (.lst xs))\/(b∈tabs++lts/\(u=.bO #[]/\b∈tabs\/u=.lam #[]/\b∈lts)))->(∀p∈tabs,H p=some (.bO #[]))->(∀p∈lts,H p=some (.lam #[]))->bB K H a (ns.map V.int)->cG P w H au.heap->(H a≠none->K.lookup a=none)->
   codeAny (model P w) callerA (.call (.ref fa) ⟨[.ref a],[]⟩) (fun r s'=>r=.ok (.ret (.bool true))/\OldK au.heap s'.heap/\s'.os=au.os/\Qh s'.gens) au :=by
  intro H hO Ma Mb hS hok hK
  have ku:∀{b:ag} {o:lm},au.heap.get? b=some o->H b=none->(gw au.heap H).get? b=some o:=fun e n=>yj e n
  have no:∀{b:ag} {o:lm},au.heap.get? b=some o->(∀n,o.data≠.seq vs.toArray n)->o≠N7 #[]->H b=none:=fun {b o} e d1 d2=>by
   cases q:H b with
   |none=>rfl
   |some u=>
    rcases hO b u q with ⟨e',_⟩|⟨bX,_⟩
    ·subst e'
     rw [ha] at e;cases e
     exact absurd rfl (d1 _)
    ·rw [(nI b bX).1] at e
     exact absurd (i1 e).symm d2
  have Md:∀{b:ag} {o:lm} {es:Array DictEntry} {ep:Nat},au.heap.get? b=some o->o.data=.dict es ep->H b=none:=fun {b o es ep} e d=>no e (fun n z=>by rw [d] at z;cases z) fun z=>by rw [z] at d;cases d
  have xr:∀{b:ag} {m:cb->Option am},au.heap.Ns b m->(gw au.heap H).Ns b m:=fun {b m} hS=>by obtain ⟨o,es,ep,e,d,r⟩:=hS;exact ⟨o,es,ep,ku e (Md e d),d,r⟩
  have IX:K.In (gw au.heap H):=fun b o e=>ku (KX b o e) (by
   cases q:H b with
   |none=>rfl
   |some u=>
    rcases hO b u q with ⟨e',_⟩|⟨bX,_⟩
    ·subst e'
     rw [hK (by rw [q];simp)] at e;cases e
    ·have e1:=KX b o e
     have e2:=(nI b bX).1
     rw [e1] at e2
     have e3:o=N7 #[]:=i1 e2
     have q2:=sK.mp xq (b,o) (PySem.W.kb_mem e)
     simp only [Bool.or_eq_true,decide_eq_true_eq,beq_iff_eq] at q2
     rcases q2 with (q2|q2)|q2
     ·rw [e3] at q2;exact absurd rfl q2
     ·obtain ⟨mc,⟨oc,es,ep,ho,hd,_⟩,_⟩:=uL
      rw [<- q2,e1] at ho
      cases ho
      rw [e3] at hd;cases hd
     ·obtain ⟨oc,es,ep,ho,hd,_⟩:=id pT
      rw [<- q2,e1] at ho
      cases ho
      rw [e3] at hd;cases hd)
  have hM:Mod K mg (gw au.heap H):=⟨IX,xr pT,⟨mb,xr hb,L9⟩,let ⟨mc,h1,h2⟩:=uL;⟨mc,xr h1,h2⟩⟩
  have hB:∃bm ob,Qf (gw au.heap H) mainGlobals mg bm ob :=by
   obtain ⟨bm,ob,B⟩:=gY
   exact ⟨bm,ob,xr B.ns,B.name,B.ne,ku B.obj (no B.obj (fun n z=>by rw [B.data] at z;cases z) fun z=>by have:=B.data;rw [z] at this;cases this),B.cls,B.dict,B.data⟩
  have hC:∀c p,rf au.heap c p->rf (gw au.heap H) c p:=fun c p ⟨o,wV,file,tf,flags,tg,Mf,text,tt,e1,e2,e3,r⟩=>
   ⟨o,wV,file,tf,flags,tg,Mf,text,tt,ku e1 (no e1 (fun n z=>by rw [e3] at z;cases z) fun z=>by rw [z] at e2;cases e2),e2,e3,r⟩
  have e0:ui P w K mg (gw au.heap H) callerA [] au H:=⟨rfl,hM,fun b o e=>Bi e,Nat.le_of_eq (vv _ _),trivial,fun b hb=>absurd (show b∈([]:List ag) from hb) (by simp),hok,.of_eq hg⟩
  refine O4 ((F _ IX (xr pT) hB hC).run callerA [] au H ⟨[.ref a],[]⟩ [.ref a] [.ref a] _ _ hr e0 (Hh au (.ref a)) (.cons rfl .nil) (kM H (fun p hp=>⟨#[],Ma p hp,trivial⟩) Mb hS)) fun r s' h=>?_
  cases r with
  |error e=>exact (FJ H e s' h).elim
  |ok fl=>
   cases fl with
   |next=>exact ID h
   |brk=>exact ID h
   |cont=>exact ID h
   |ret u=>
    obtain ⟨v,H',os,bare,un,zh,r',q⟩:=h
    obtain ⟨q',qL⟩:=q
    subst q'
    obtain rfl:u=Qj true:=r'
    have all:∀b o,au.heap.get? b=some o->asItWas au.heap s'.heap b o/\∃o',s'.heap.get? b=some o':=fun b o e=>by
     cases q:H b with
     |none=>
      have:=un.keep b o e q (by intro z;exact absurd (show b∈([]:List ag) from z) (by simp)) (by simp)
      exact ⟨.inl this,_,this⟩
     |some u=>
      rcases hO b u q with ⟨_,ob,xs,z⟩|⟨bX,z⟩
      ·subst z
       have z2:=un.frzs b ob _ q
       obtain ⟨e1,_⟩:=hok b _ q
       obtain ⟨e2,_⟩:=zh b _ z2
       rw [e] at e1;cases e1
       exact ⟨.inl e2,_,e2⟩
      ·have e2:∃more,s'.heap.get? b=some {cls:=.none,data:=.fields (#[]++more)}:=by
        rcases z with ⟨z,_⟩|⟨z,fM⟩
        ·subst z
         obtain ⟨more,z2⟩:=un.tbls b #[] q
         exact ⟨more,zh b _ z2⟩
        ·obtain ⟨ps,z2⟩:=qL b fM
         refine ⟨ps,?_⟩
         have:=zh b _ z2
         rw [show (#[]:Array am)++ps=ps by simp]
         exact this
       obtain ⟨more,e2⟩:=e2
       have e1:=(nI b bX).1
       rw [e] at e1
       obtain rfl:o=N7 #[]:=i1 e1
       exact ⟨.inr (.inl ⟨(nI b bX).2,rfl,#[],more,rfl,e2⟩),_,e2⟩
    exact ⟨rfl,⟨fun b o e=>(all b o e).1,fun b o e=>(all b o e).2⟩,os,bare.1⟩
 have FK:∀p∈tabs++lts,∀H:Hp,∀u,(u=.bO #[]/\p∈tabs\/u=.lam #[]/\p∈lts)->aZ P w H au.heap p u:=fun p hp H u hu=>by
  rcases hu with ⟨rfl,_⟩|⟨rfl,_⟩ <;> exact (nI p hp).1
 let T:Hp:=fun b=>if b∈lts then some (.lam #[]) else if b∈tabs then some (.bO #[]) else none
 have T1:∀b u,T b=some u->b∈tabs++lts/\(u=.bO #[]/\b∈tabs\/u=.lam #[]/\b∈lts):=fun b u z=>by
  by_cases h1:b∈lts
  ·have z':=(show T b=_ from if_pos h1).symm.trans z
   cases z'
   exact ⟨lf _ h1,.inr ⟨rfl,h1⟩⟩
  ·by_cases h2:b∈tabs
   ·have z':=(show T b=_ from (if_neg h1).trans (if_pos h2)).symm.trans z
    cases z'
    exact ⟨Cn _ h2,.inl ⟨rfl,h2⟩⟩
   ·have z':=(show T b=_ from (if_neg h1).trans (if_neg h2)).symm.trans z
    cases z'
 have T2:∀p∈tabs,T p=some (.bO #[]):=fun p hp=>(if_neg (Kn p hp)).trans (if_pos hp)
 have T3:∀p∈lts,T p=some (.lam #[]):=fun p hp=>if_pos hp
 have Ta:T a=none:=(if_neg fun z=>jt (lf _ z)).trans (if_neg fun z=>jt (Cn _ z))
 cases hk:K.lookup a with
 |some o=>
  have e:=KX a o hk
  rw [ha] at e
  cases e
  exact core T (fun b u z=>.inr (T1 b u z)) T2 T3 (.inr ⟨_,vs.toArray,_,hk,rfl,rfl,rfl,by rw [ce,Ko];exact hl,by simpa using rv⟩) (fun b u z=>FK b (T1 b u z).1 _ u (T1 b u z).2) fun z=>absurd Ta z
 |none=>
  have na:∀p∈tabs++lts,p≠a:=fun p hp z=>jt (z▸hp)
  refine core (upd T a (.dO {cls:=.type "list",data:=.seq vs.toArray} (.lst (ns.map V.int)))) (fun b u z=>?_) (fun p hp=>by rw [af (na p (Cn _ hp))];exact T2 p hp) (fun p hp=>by rw [af (na p (lf _ hp))];exact T3 p hp) (.inl (.inr ⟨_,aE⟩)) (fun b u z=>?_) fun _=>hk
  ·by_cases hb:b=a
   ·subst hb
    rw [aE] at z
    cases z
    exact .inl ⟨rfl,_,_,rfl⟩
   ·rw [af hb] at z
    exact .inr (T1 b u z)
  ·by_cases hb:b=a
   ·subst hb
    rw [aE] at z
    cases z
    exact ⟨ha,by rw [c8];exact hl,vs,_,rv,ha⟩
   ·rw [af hb] at z
    exact FK b (T1 b u z).1 _ u (T1 b u z).2
def pG (K:bi) (x:cb):Option ag:=match kw K mainGlobals x with
 |some (some (.ref f))=>(match K.lookup f with
  |some ⟨_,_,.func fd,_⟩=>(match fd.code with
   | .ref c=>(match K.lookup c with
    |some ⟨_,_,.fields vs,_⟩=>(match vs[11]? with|some (lc p)=>some p|_=>none)
    |_=>none)
   |_=>none)
  |_=>none)
 |_=>none
abbrev TabOf (mg:cb->Option am) (h:ij) (y:cb) (p:ag):Prop:=∃f o fd c,mg y=some (.ref f)/\h.get? f=some o/\o.data=.func fd/\fd.code=.ref c/\rf h c p
theorem q9 {K:bi} {mg:cb->Option am} {h:ij} {y:cb} {p q:ag} (X:K.In h) (G:h.Ns mainGlobals mg) (t:TabOf mg h y p) (e:pG K y=some q):p=q :=by
 obtain ⟨f,o,fd,c,e1,e2,e3,e4,oc,vs,_,_,_,_,_,_,_,g1,_,g3,g4,_⟩:=t
 unfold pG at e
 split at e
 ·rename_i f' pT
  have:=(AT X G pT).symm.trans e1
  cases this
  split at e
  ·rename_i Nx Ny K9 HP Mg
   have:=(X _ _ Mg).symm.trans e2
   cases this
   cases e3
   rw [e4] at e
   dsimp only at e
   split at e
   ·rename_i a1 a2 wV a3 Mi
    have:=(X _ _ Mi).symm.trans g1
    cases this
    cases g3
    rw [g4] at e
    cases e
    rfl
   ·cases e
  ·cases e
 ·cases e
def nJ (K:bi) (gs ls:List cb):Bool:=gs.all fun x=>ls.all fun y=>match pG K x,pG K y with|some p,some q=>decide (p≠q)|_,_=>false
theorem tZ {α β:Type} {F:α->β->Prop} {l:List α} {m:List β} (h:wn F l m) {b:β} (hb:b∈m):∃a∈l,F a b :=by
 induction h with
 |nil=>simp at hb
 |cons x t ih=>
  rcases lw.mp hb with e|e
  ·subst e;exact ⟨_,kt,x⟩
  ·obtain ⟨a,ha,q⟩:=ih e
   exact ⟨a,ff _ ha,q⟩
theorem zj {K:bi} {mg:cb->Option am} {h:ij} {gs ls:List cb} {tabs lts:List ag} (X:K.In h) (G:h.Ns mainGlobals mg) (d:nJ K gs ls=true) (t1:wn (TabOf mg h) gs tabs) (t2:wn (TabOf mg h) ls lts):∀p∈tabs,p ∉ lts:=fun p hp hq=>by
 obtain ⟨x,hx,tx⟩:=tZ t1 hp
 obtain ⟨y,hy,ty⟩:=tZ t2 hq
 have:=sK.mp (sK.mp d x hx) y hy
 split at this
 ·rename_i p' q' e1 e2
  have a:=q9 X G tx e1
  have b:=q9 X G ty e2
  exact (of_decide_eq_true this) (a.symm.trans b)
 ·cases this
theorem zk {l:Qe} {n k:Nat} {q:gl} {loose:List cb} {XP:(cb->Option am)->ij->Prop} {YP:ii->ij->Prop} {d:DefRec} {K:Qm->bi} {CX:ip} {sp:bi->List ag->List ag->Sp} {x:cb} {i6 xt:List cb}
  (hn:l.most=some n) (Mj:n<=sizeLine) (vY:d.params.defaults=[]) (hr:bP k callerA) (xq:∀w:ii,Pu (K w.params)=true)
  (AO:∀y∈i6++xt,∃r∈recsOf q,r.name=y) (kP:∀w:ii,nJ (K w.params) i6 xt=true)
  (hY:∀(w:ii) (h:ij),YP w h->(K w.params).In h)
  (F:∀(w:ii) (mg:cb->Option am) (fa:ag) (h:ij) (tabs lts:List ag),(K w.params).In h->h.Ns mainGlobals mg->mg d.name=some (.ref fa)->
   wn (TabOf mg h) i6 tabs->wn (TabOf mg h) xt lts->
   ∃fd:nw,(∀(s:ar) (u:am),PR s fd ⟨[u],[]⟩ [(x,u)]) /\
    ∀base:ij,(K w.params).In base->base.Ns mainGlobals mg->(∃bm ob,Qf base mainGlobals mg bm ob)->(∀c p,rf h c p->rf base c p)->FnOk l.prog w (K w.params) mg base CX k fa fd [x] (sp (K w.params) tabs lts))
  (kM:∀(K:bi) (tabs lts:List ag) (H:Hp) (a:ag) (ns:List Int),lts.length=xt.length->ns.length<=n->(∀p∈tabs,Tb p H)->(∀p∈lts,H p=some (.lam #[]))->bB K H a (ns.map V.int)->sp K tabs lts [.ref a] H (fun v H'=>v=.bl true/\∀p∈lts,∃ps,H' p=some (.lam ps)) fun _ _ _=>False)
  (FJ:∀(H:Hp) (s:ar) (e:am) (s':ar),CX [] H s (fun _ _ _=>False) e s'->False) :
  PySem.W.WalkO q loose XP YP l.row.toRowW d [] (fun f vs=>Qi f vs) :=by
 refine Ic.rW hn vY fun w s₀ au mg mb fa o pm cd doc a vs ns G Y ho hd fK vZ yF hints hlen hg=>?_
 have KX:=hY w _ Y
 have tb:∀i6:List cb,(∀y∈i6,∃r∈recsOf q,r.name=y)->∃tabs,wn (TabOf mg au.heap) i6 tabs/\∀p∈tabs,au.heap.get? p=some (N7 #[])/\isCodeTable au.heap p :=by
  intro i6
  induction i6 with
  |nil=>intro _;exact ⟨[],.nil,fun p hp=>absurd hp (by simp)⟩
  |cons y r ih=>
   intro hm
   obtain ⟨tabs,h1,h2⟩:=ih fun z hz=>hm z (ff _ hz)
   obtain ⟨rr,Mk,e⟩:=hm y kt
   obtain ⟨f,o',fd,c,p,a1,a2,a3,a4,a5,a6⟩:=G.T.tab rr Mk
   rw [e] at a1
   refine ⟨p::tabs,.cons ⟨f,o',fd,c,a1,a2,a3,a4,.of a5 a6⟩ h1,fun z hz=>?_⟩
   rcases lw.mp hz with rfl|hz
   ·exact ⟨a6.2,a6.isCodeTable⟩
   ·exact h2 z hz
 obtain ⟨tabs,t1,t2⟩:=tb i6 fun y hy=>AO y (Cn _ hy)
 obtain ⟨lts,u1,u2⟩:=tb xt fun y hy=>AO y (lf _ hy)
 obtain ⟨fd,hb,hF⟩:=F w mg fa _ tabs lts KX G.T.g vZ t1 u1
 exact xo (lts:=lts) KX G.T.g G.T.b G.T.builtins G.T.nolimit hg yF hints (sB hlen Mj) hr (fun p hp=>(wT.mp hp).elim (t2 p) (u2 p)) (zj KX G.T.g (kP w) t1 u1) (xq w) (PySem.W.bmod_of_top G.T) hF hb (fun H hO hL hS=>kM _ tabs lts H a ns (ON u1).symm hlen hO hL hS) fun H e s'=>FJ H au e s'
theorem zl {K:bi} {tabs lts:List ag} {qs:List cb} {H:Hp} {a:ag} {ns:List Int} (hl:lts.length=qs.length) (hn:ns.length<=63) (hT:∀p∈tabs,Tb p H) (hL:∀p∈lts,H p=some (.lam #[])) (hS:bB K H a (ns.map V.int)) :
  spLaw K ⟨tabs,lts.zip qs⟩ [.ref a] H (fun v H'=>v=.bl true/\∀p∈lts,∃ps,H' p=some (.lam ps)) fun _ _ _=>False:=
 ⟨a,ns,rfl,hS,hn,hT,fun p hp=>⟨#[],hL p.1 (O5 hp).1,trivial,fun pos cv e=>nomatch e⟩,fun H' h=>⟨rfl,fun p hp=>by
  obtain ⟨i,hi⟩:=ul.mp hp
  have h1:=(bv.mp hi).1
  exact h (p,qs[i]) (im (i:=i) (uu.mpr ⟨hi,ap (by omega)⟩))⟩⟩
theorem oU {α β:Type} {F:α->β->Prop}:∀{l:List α} {m:List β} {i:Nat} {a:α},wn F l m->l[i]?=some a->∃b,m[i]?=some b/\F a b
 |_,_,_,_,.nil,h=>by simp at h
 |_,_,0,_,.cons x _,h=>by simp at h;subst h;exact ⟨_,rfl,x⟩
 |_,_,i+1,_,.cons _ t,h=>by obtain ⟨b,e,q⟩:=oU (i:=i) t (by simpa using h);exact ⟨b,by simpa using e,q⟩
end L2
namespace L2
open PySem PySem.Spec PySem.W PyProof.Rows
section
variable {X:Cx} {Γ:Gz} {K:bi}
theorem aG.rep {β:Bz} {M:Mh} {H:Hp} {vs:List V} {ds:List Dv} (r:aG β M H vs ds):∀k:Nat,aG β M H (li k vs).flatten (li k ds).flatten
 |0=>⟨rfl,fun i v d h=>by simp at h⟩
 |k+1=>by rw [wb,wb,Go,Go];exact r.append (aG.rep r k)
open Classical in
end
end L2
namespace L2
open PySem PySem.Spec PyProof.Rows
theorem iS {g:b7} {te:aH} (J:List Dv->ax->Mh->Prop):∀{ds acc:List Dv} {τ:ax} {M:Mh} {Q:List Dv->Mh->Prop},J acc τ M->
  (∀i d di τ M,ds[i]?=some d->di.length=acc.length+i->J di τ M->∀R:ax->ZK,(∀y aB M2,J (di++[y]) aB M2->R aB y M2)->g d τ M fun aB M2=>te aB M2 (R aB))->
  (∀ys τ M,ys.length=ds.length->J (acc++ys) τ M->Q ys M)->fU g zNoIf te ds τ M Q
 | [],acc,τ,M,Q,j,_,q=>q [] τ M rfl (by rw [Do];exact j)
 |d::ds,acc,τ,M,Q,j,h,q=>by
          refine h 0 d acc τ M rfl rfl j (fun aB y M4=>fU g zNoIf te ds aB M4 fun ys M5=>Q (y::ys) M5) fun y aB M2 j2=>?_
          refine iS J (acc:=acc++[y]) j2 (fun i d' di bK M' e1 e2 j' R hR=>?_) fun ys oS M3 e3 j3=>?_
          ·exact h (i+1) d' di bK M' e1 (by rw [e2,xb];simp;omega) j' R hR
          ·exact q (y::ys) oS M3 (by simp [e3]) (by rw [GE] at j3;exact j3)
theorem AQ {a1 r:bq} {D:eD} {ρ:ax} {M:Mh} (I:ax->Mh->Prop) (h1:∀N:ax->Mh->Prop,(∀ρ M,I ρ M->N ρ M)->a1 {D with nx:=N} ρ M) (h2:∀ρ M,I ρ M->r D ρ M):(zSeq a1 r) D ρ M:=h1 _ h2
theorem Hi {a1 a2 r:bq} {D:eD} {ρ:ax} {M:Mh} (I:ax->Mh->Prop) (h1:∀N:ax->Mh->Prop,(∀ρ M,I ρ M->N ρ M)->(zSeq a1 a2) {D with nx:=N} ρ M) (h2:∀ρ M,I ρ M->r D ρ M):(zSeq a1 (zSeq a2 r)) D ρ M:=h1 _ h2
theorem Hj {a1 a2 a3 r:bq} {D:eD} {ρ:ax} {M:Mh} (I:ax->Mh->Prop) (h1:∀N:ax->Mh->Prop,(∀ρ M,I ρ M->N ρ M)->(zSeq a1 (zSeq a2 a3)) {D with nx:=N} ρ M) (h2:∀ρ M,I ρ M->r D ρ M):(zSeq a1 (zSeq a2 (zSeq a3 r))) D ρ M:=h1 _ h2
theorem Hk {a1 a2 a3 a4 r:bq} {D:eD} {ρ:ax} {M:Mh} (I:ax->Mh->Prop) (h1:∀N:ax->Mh->Prop,(∀ρ M,I ρ M->N ρ M)->(zSeq a1 (zSeq a2 (zSeq a3 a4))) {D with nx:=N} ρ M) (h2:∀ρ M,I ρ M->r D ρ M):(zSeq a1 (zSeq a2 (zSeq a3 (zSeq a4 r)))) D ρ M:=h1 _ h2
theorem Hl {a1 a2 a3 a4 a5 r:bq} {D:eD} {ρ:ax} {M:Mh} (I:ax->Mh->Prop) (h1:∀N:ax->Mh->Prop,(∀ρ M,I ρ M->N ρ M)->(zSeq a1 (zSeq a2 (zSeq a3 (zSeq a4 a5)))) {D with nx:=N} ρ M) (h2:∀ρ M,I ρ M->r D ρ M):(zSeq a1 (zSeq a2 (zSeq a3 (zSeq a4 (zSeq a5 r))))) D ρ M:=h1 _ h2
section
variable {β:Bz} {M M':Mh} {H H':Hp} {a:ag} {o o' o2 kR:Mo}
theorem Rz.dom (hd:∀a,(M a).isSome=(M' a).isSome) {v:V} {d:Dv} (r:Rz β M H v d):Rz β M' H v d:=
 r.iR (M0:=M') (fun a h=>by rw [hd a];exact h) (r.pin.mono fun a h=>by rw [<- hd a];exact h)
theorem fZ.dom (hd:∀a,(M a).isSome=(M' a).isSome) (h:fZ β M H a o):fZ β M' H a o :=by
 cases o with
 |lst ds=>obtain ⟨vs,h1,rs⟩:=h;exact ⟨vs,h1,rs.len,fun i v d x y=>(rs.at' i v d x y).dom hd⟩
 |cy=>exact h
 |dk ks ds=>obtain ⟨vs,h1,h2,rs⟩:=h;exact ⟨vs,h1,h2,rs.len,fun i v d x y=>(rs.at' i v d x y).dom hd⟩
 |dt ks ds=>obtain ⟨vs,h1,h2,rs⟩:=h;exact ⟨vs,h1,h2,rs.len,fun i v d x y=>(rs.at' i v d x y).dom hd⟩
 |ts ks ds=>obtain ⟨vs,h1,h2,rs⟩:=h;exact ⟨vs,h1,h2,rs.len,fun i v d x y=>(rs.at' i v d x y).dom hd⟩
theorem gq (M:Mh) (a:ag) (o o2:Mo) (b:ag):(ay M a o b).isSome=(ay M a o2 b).isSome :=by
 by_cases e:b=a
 ·subst e;rw [updM_same,updM_same];rfl
 ·rw [ai e,ai e]
theorem g9 {b:ag} (o2:Mo) (h:ay M a o b=none):ay M a o2 b=none :=by
 by_cases e:b=a
 ·subst e;rw [updM_same] at h;cases h
 ·rw [ai e] at h ⊢;exact h
theorem Mz.chg (m:Mz β (ay M a o) H) (h2:fZ β (ay M a o2) H a o2):Mz β (ay M a o2) H :=by
 refine ⟨fun b u e=>?_,m.tabs,m.hids,fun b u e=>?_,m.lams⟩
 ·by_cases z:b=a
  ·subst z;rw [updM_same] at e;cases e;exact h2
  ·rw [ai z] at e
   exact fZ.dom (gq M a o o2) (m.obj b u (by rw [ai z];exact e))
 ·by_cases z:b=a
  ·subst z;exact m.apart b o updM_same
  ·rw [ai z] at e
   exact m.apart b u (by rw [ai z];exact e)
theorem t5 (h:M a=some o):ay M a o=M :=by
 funext b
 by_cases e:b=a
 ·subst e;rw [updM_same,h]
 ·rw [ai e]
theorem Ex.chg (x:Ex β (ay M a o) H (ay M a o') H') (h2:fZ β (ay M a kR) H' a kR):Ex β (ay M a o2) H (ay M a kR) H':=
 ⟨⟨fun b u h e=>x.keep b u (g9 o h) e,fun b h=>by rw [gq M a kR o'];exact x.dom b (by rw [gq M a o o2];exact h),fun b u h e=>g9 kR (x.new b u (g9 o h) e)⟩,x.mz.chg h2⟩
theorem Ex.sealed (hn:M a=none) (x:Ex β M H (ay M a o') H') (h2:fZ β (ay M a kR) H' a kR):Ex β M H (ay M a kR) H':=
 ⟨⟨x.keep,fun b h=>by rw [gq M a kR o'];exact x.dom b h,fun b u h e=>g9 kR (x.new b u h e)⟩,x.mz.chg h2⟩
theorem xu {c m:Int} (z:Mz β (ay M a (.lst [.int c,.int m])) H) (hc:0<=c) (hm:0<=m):fZ β (ay M a .cy) H a .cy :=by
 obtain ⟨vs,h,rs⟩:=z.obj a _ updM_same
 refine ⟨c,m,?_,hc,hm⟩
 have:=gM (ns:=[c,m]) rs
 rw [h,this]
 rfl
theorem FL (z:Mz β (ay M a .cy) H):∃c m:Int,0<=c/\0<=m/\fZ β (ay M a (.lst [.int c,.int m])) H a (.lst [.int c,.int m]) :=by
 obtain ⟨c,m,h,hc,hm⟩:=z.obj a _ updM_same
 exact ⟨c,m,hc,hm,_,h,qS (ns:=[c,m])⟩
end
section
variable {X:Cx} {Γ:Gz} {K:bi}
def zIxS:dw:=fun d e M Q=>match d,e with | .bc ns,.int i=>(match cu ns i with|some x=>Q (.int x) M|none=>False)|_,_=>False
theorem AR (hK:X.K=K) (hG:K=Γ.K):Fu Γ X zIxS:=⟨_,sY hK,fun β x y d e M H Q Q' _ _ eK m rx ry z q=>by
 unfold zIxS at z
 split at z
 ·rename_i ns i
  split at z
  ·rename_i v hv
   obtain ⟨a,rfl,hS⟩:=oP rx
   rw [eK,<- hG] at hS
   exact .inl ⟨a,_,i,.int v,rfl,aC ry,hS,Ck hv,q _ _ _ _ (.refl m) (.int _) z⟩
  ·exact z.elim
 ·exact z.elim⟩
end
def Ml (k:Nat):cb:=⟨#[97+k]⟩
section
variable {κ:Type} [DecidableEq κ]
def Kp (step:κ->Nat->κ) (met:κ) (w:cb) (st:List κ×List cb) (a:Nat):List κ×List cb:=if step met a∈st.1 then st else (st.1++[step met a],st.2++[w++Ml a])
def visit (step:κ->Nat->κ) (met:κ) (w:cb) (n:Nat) (st:List κ×List cb):List κ×List cb:=(io n).foldl (Kp step met w) st
def IY (step:κ->Nat->κ) (n most:Nat):Nat->Nat->List κ×List cb->List κ×List cb
 |0,_,st=>st
 |fuel+1,i,st=>match st.1[i]?,st.2[i]? with
  |some met,some w=>if st.1.length<=most then IY step n most fuel (i+1) (visit step met w n st) else st
  |_,_=>st
def met (step:κ->Nat->κ) (n most N:Nat) (s:κ):List κ×List cb:=IY step n most (N+1) 0 ([s],[""])
end
section
variable {X:Cx} {Γ:Gz}
def zRepP:dw:=fun d e M Q=>match d,e with | .lst ds,.int k=>(-(2 ^ 63)<=k/\k<2 ^ 63/\ds.length * k.toNat<=sizeLine)/\∀a,M a=none->Q (.ptr a) (ay M a (.lst (li k.toNat ds).flatten))|_,_=>False
theorem FN:ef Γ X (binaryOp .Mult) zRepP:=⟨_,D5,fun β x y d e M H Q Q' _ _ _ m rx ry z q=>by
 unfold zRepP at z
 split at z
 ·rename_i ds k
  obtain ⟨a,vs,rfl,f,ha,rs⟩:=fN rx
  obtain ⟨⟨z1,z2,z3⟩,z4⟩:=z
  refine ⟨a,_,vs,rfl,aC ry,ha,z1,z2,by rw [rs.len];exact z3,fun p hp=>?_⟩
  have x2:=Ex.own m (.inr hp) (rs.rep k.toNat)
  exact q _ _ _ _ x2 (.ptr (by rw [updM_same];rfl)) (z4 p (m.free hp))
 ·exact z.elim⟩
end
end L2
namespace L2
open PySem PySem.Spec PySem.W PyProof.Rows
def cK {α:Type} (R:Nat->Int) (n:Nat):KasT α->(α->Prop)->Prop
 | .ret a,Q=>Q a
 | .ask i j k,Q=>i<n/\j<n/\cK R n (k (decide (R i<R j))) Q
theorem eX {α β:Type} {R:Nat->Int} {n:Nat} {f:α->KasT β} {Q:β->Prop}:∀{t:KasT α},cK R n t (fun a=>cK R n (f a) Q)->cK R n (t.bind f) Q
 | .ret _,h=>h
 | .ask _ _ k,h=>⟨h.1,h.2.1,eX (t:=k _) h.2.2⟩
structure Pm (n:Nat) (p:Array Nat):Prop where
 sz:p.size=n
 pm:p.toList.Perm (io n)
theorem Pm.lt {n:Nat} {p:Array Nat} (h:Pm n p) {k:Nat} (hk:k<n):p.getD k 0<n :=by
 have tJ:k<p.size :=by rw [h.sz];exact hk
 have e:p.getD k 0=p[k] :=by simp [LG,tJ]
 rw [e]
 have:p[k]∈p.toList :=by simp
 exact sw.mp (h.pm.mem_iff.mp this)
theorem Pm.of {n:Nat} {p p':Array Nat} (h:Pm n p) (hs:p'.size=p.size) (hp:p'.Perm p):Pm n p':=⟨hs.trans h.sz,(Array.perm_iff_toList_perm.mp hp).trans h.pm⟩
def rk (R:Nat->Int) (p:Array Nat) (k:Nat):Int:=R (p.getD k 0)
theorem fB (p:Array Nat) (k:Nat):p.getD k 0=(p[k]?).getD 0 :=by simp [Array.getD_eq_getD_getElem?]
theorem mL (R:Nat->Int) {p:Array Nat} {i j:Nat} (hj:j<=p.size) (k:Nat):rk R (kas_rev p i j) k=if i<=k/\k<j then rk R p (i+j - 1 - k) else rk R p k :=by
 unfold rk kas_rev
 rw [fB,getElem?_mirror_all hj k]
 split <;> rw [fB]
theorem xx (R:Nat->Int) {p:Array Nat} {src d:Nat} (hs:src<p.size) (hd:d<=src) (k:Nat):rk R (bubble p src d) k=if k=src - d then rk R p src else if src - d<k/\k<=src then rk R p (k - 1) else rk R p k :=by
 unfold rk
 rw [fB,fB p src,fB p (k - 1),fB p k,getElem?_bubble hs d hd k]
 by_cases h1:k=src - d
 ·rw [if_pos h1,if_pos h1]
 ·rw [if_neg h1,if_neg h1]
  by_cases h2:src - d<k/\k<=src
  ·rw [if_pos h2,if_pos h2]
  ·rw [if_neg h2,if_neg h2]
def jX (R:Nat->Int) (p:Array Nat) (m:Nat):Prop:=∀a b,a<=b->b<m->rk R p a<=rk R p b
def kT (R:Nat->Int) (p:Array Nat) (m:Nat):Prop:=∀a b,a<=b->b<m->rk R p b<=rk R p a
section
variable {R:Nat->Int} {n:Nat}
theorem ra {p:Array Nat} (hp:Pm n p) {Q:Nat->Prop}:∀(f m:Nat),jX R p m->1<=m->m+f<=n->(∀m',m<=m'->m'<=m+f->jX R p m'->(m'<m+f->rk R p m'<rk R p (m' - 1))->Q m')->cK R n (kas_asc p f m) Q
 |0,m,ha,h1,hn,q=>q m (br _) (br _) ha (fun h=>absurd h (KM _))
 |f+1,m,ha,h1,hn,q=>by
          refine ⟨hp.lt (by omega),hp.lt (by omega),?_⟩
          show cK R n (if decide (rk R p m<rk R p (m - 1))=true then _ else _) Q
          by_cases h:rk R p m<rk R p (m - 1)
          ·rw [decide_eq_true h,if_pos rfl]
           exact q m (br _) (by omega) ha (fun _=>h)
          ·rw [decide_eq_false h,if_neg f8]
           refine ra hp f (m+1) (fun a b d7 hb=>?_) (by omega) (by omega) fun m' h2 h3 h4 h5=>q m' (by omega) (by omega) h4 (fun z=>h5 (by omega))
           rcases IS b m with z|z
           ·exact ha a b d7 z
           ·have eb:b=m :=by omega
            subst eb
            rcases IS a b with y|y
            ·have:=ha a (b - 1) (by omega) (by omega)
             omega
            ·have:a=b :=by omega
             subst this
             exact Mc _
theorem kT.rev {p:Array Nat} {m i:Nat} (hm:m<=p.size) (h:kT R p m) (he:∀k,i<=k->k<m->rk R p k=rk R p (m - 1)):kT R (kas_rev p i m) m/\∀k,rk R (kas_rev p i m) k=rk R p k :=by
 have e:∀k,rk R (kas_rev p i m) k=rk R p k:=fun k=>by
  rw [mL R hm]
  split
  ·rename_i z
   rw [he (i+m - 1 - k) (by omega) (by omega),he k z.1 z.2]
  ·rfl
 exact ⟨fun a b d7 hb=>by rw [e a,e b];exact h a b d7 hb,e⟩
theorem Pm.rev {p:Array Nat} (h:Pm n p) (i j:Nat):Pm n (kas_rev p i j):=h.of (mirror_size _ _ _ _) (mirror_perm _ _ _ _)
theorem ky {Q:Array Nat×Nat×Nat->Prop}:∀(f:Nat) (p:Array Nat) (m q:Nat),Pm n p->kT R p m->(∀k,m - (q+1)<=k->k<m->rk R p k=rk R p (m - 1))->q+1<=m->m+f<=n->
  (∀p' m' q',Pm n p'->kT R p' m'->(∀k,m' - (q'+1)<=k->k<m'->rk R p' k=rk R p' (m' - 1))->q'+1<=m'->m'<=n->Q (p',m',q'))->cK R n (kas_desc f p m q) Q
 |0,p,m,q,hp,hd,he,hq,hn,k=>k p m q hp hd he hq (by omega)
 |f+1,p,m,q,hp,hd,he,hq,hn,k=>by
          have hsz:=hp.sz
          refine ⟨hp.lt (by omega),hp.lt (by omega),?_⟩
          show cK R n (if decide (rk R p m<rk R p (m - 1))=true then _ else _) Q
          by_cases h:rk R p m<rk R p (m - 1)
          ·rw [decide_eq_true h,if_pos rfl]
           have more:∀p',Pm n p'->(∀k,rk R p' k=rk R p k)->kT R p' (m+1):=fun p' _ e a b d7 hb=>by
            rw [e a,e b]
            rcases IS b m with z|z
            ·exact hd a b d7 z
            ·have eb:b=m :=by omega
             subst eb
             rcases IS a b with y|y
             ·have:=hd a (b - 1) (by omega) (by omega)
              omega
             ·have:a=b :=by omega
              subst this
              exact Mc _
           have one:∀p':Array Nat,∀k,m+1 - (0+1)<=k->k<m+1->rk R p' k=rk R p' (m+1 - 1):=fun p' k h1 h2=>by rw [show k=m by omega];rfl
           by_cases IZ:q > 0
           ·rw [if_pos IZ]
            obtain ⟨_,e⟩:=kT.rev (i:=m - (q+1)) (show m<=p.size by omega) hd he
            exact ky f _ (m+1) 0 (hp.rev _ _) (more _ (hp.rev _ _) e) (one _) (by omega) (by omega) k
           ·rw [if_neg IZ]
            exact ky f p (m+1) 0 hp (more p hp fun _=>rfl) (one p) (by omega) (by omega) k
          ·rw [decide_eq_false h,if_neg f8]
           refine ⟨hp.lt (by omega),hp.lt (by omega),?_⟩
           show cK R n (if decide (rk R p (m - 1)<rk R p m)=true then _ else _) Q
           by_cases h2:rk R p (m - 1)<rk R p m
           ·rw [decide_eq_true h2,if_pos rfl]
            exact k p m q hp hd he hq (by omega)
           ·rw [decide_eq_false h2,if_neg f8]
            have e:rk R p m=rk R p (m - 1) :=by omega
            refine ky f p (m+1) (q+1) hp (fun a b d7 hb=>?_) (fun x h3 h4=>?_) (by omega) (by omega) k
            ·rcases IS b m with z|z
             ·exact hd a b d7 z
             ·have eb:b=m :=by omega
              subst eb
              rcases IS a b with y|y
              ·rw [e];exact hd a (b - 1) (by omega) (by omega)
              ·have:a=b :=by omega
               subst this
               exact Mc _
            ·show rk R p x=rk R p m
             rcases IS x m with z|z
             ·rw [e];exact he x (by omega) z
             ·rw [show x=m by omega]
theorem rg {m:Nat} {p:Array Nat} (hp:Pm n p) (hd:kT R p m) (h1:1<=m) (hm:m<=n) {Q:Nat×Array Nat->Prop} (q:∀m' p',Pm n p'->jX R p' m'->1<=m'->m'<=n->Q (m',p')):cK R n (kas_tail3 m n p) Q :=by
 have hsz:=hp.sz
 refine eX (ra (hp.rev 0 m) (n - m) m (fun a b d7 hb=>?_) h1 (by omega) fun m' h2 h3 h4 _=>q m' _ (hp.rev 0 m) h4 (by omega) (by omega))
 rw [mL R (by omega),mL R (by omega),if_pos ⟨by omega,by omega⟩,if_pos ⟨by omega,by omega⟩]
 exact hd _ _ (by omega) (by omega)
theorem kU {m:Nat} {p:Array Nat} (hp:Pm n p) (hd:kT R p (m+1)) (hm:m+1<=n) {Q:Nat×Array Nat->Prop} (q:∀m' p',Pm n p'->jX R p' m'->1<=m'->m'<=n->Q (m',p')):cK R n (kas_descPart m n p) Q :=by
 refine eX (ky (n - (m+1)) p (m+1) 0 hp hd (fun k h1 h2=>by rw [show k=m by omega];rfl) (by omega) (by omega) fun p' m' q' FO fJ he hq hn=>?_)
 have hsz:=FO.sz
 show cK R n (if q' > 0 then kas_tail3 m' n (kas_rev p' (m' - (q'+1)) m') else kas_tail3 m' n p') Q
 by_cases h:q' > 0
 ·rw [if_pos h]
  exact rg (FO.rev _ _) (kT.rev (by omega) fJ he).1 (by omega) hn q
 ·rw [if_neg h]
  exact rg FO fJ (by omega) hn q
theorem zm {p:Array Nat} (hp:Pm n p) (h1:1<=n) {Q:Nat×Array Nat->Prop} (q:∀m' p',Pm n p'->jX R p' m'->1<=m'->m'<=n->Q (m',p')):cK R n (kas_count n p) Q :=by
 have hsz:=hp.sz
 refine eX (ra hp (n - 1) 1 (fun a b d7 hb=>by rw [show a=b by omega];exact Mc _) (br _) (by omega) fun m h2 h3 h4 h5=>?_)
 by_cases e:m=n
 ·rw [if_pos (by simpa using e)]
  exact q m p hp h4 h2 (by omega)
 ·rw [if_neg (by simpa using e)]
  have aX:=h5 (by omega)
  by_cases hm:m > 1
  ·rw [if_pos hm]
   refine ⟨hp.lt (by omega),hp.lt (by omega),?_⟩
   show cK R n (if decide (rk R p 0<rk R p (m - 1))=true then _ else _) Q
   by_cases h:rk R p 0<rk R p (m - 1)
   ·rw [decide_eq_true h,if_pos rfl]
    exact q m p hp h4 (by omega) (by omega)
   ·rw [decide_eq_false h,if_neg f8]
    have eq:∀k,k<m->rk R p k=rk R p (m - 1):=fun k hk=>by
     have a1:=h4 k (m - 1) (by omega) (by omega)
     have a2:=h4 0 k (by omega) hk
     omega
    have er:∀k,rk R (kas_rev p 0 m) k=rk R p k:=fun k=>by
     rw [mL R (by omega)]
     split
     ·rename_i z
      rw [eq (0+m - 1 - k) (by omega),eq k z.2]
     ·rfl
    refine kU (hp.rev 0 m) (fun a b d7 hb=>?_) (by omega) q
    rw [er,er]
    rcases IS b m with z|z
    ·rw [eq a (by omega),eq b z];exact Mc _
    ·have eb:b=m :=by omega
     subst eb
     rcases IS a b with y|y
     ·rw [eq a y];omega
     ·rw [show a=b by omega];exact Mc _
  ·rw [if_neg hm]
   have em:m=1 :=by omega
   subst em
   refine kU hp (fun a b d7 hb=>?_) (by omega) q
   have aX:rk R p 1<rk R p 0:=aX
   match a,b,d7,hb with
   |0,0,_,_=>exact Mc _
   |0,1,_,_=>omega
   |1,1,_,_=>exact Mc _
   |a,b+2,_,hb=>omega
   |a+2,b,h,hb=>omega
   |1,0,h,_=>omega
theorem ly {p:Array Nat} (hp:Pm n p) {k:Nat} (hk:k<n) (ha:jX R p k) {Q:Nat->Prop}:∀(f l r:Nat),r - l<=f->l<=r->r<=k->(∀a,a<l->rk R p a<=rk R p k)->(∀a,r<=a->a<k->rk R p k<rk R p a)->
  (∀l,l<=k->(∀a,a<l->rk R p a<=rk R p k)->(∀a,l<=a->a<k->rk R p k<rk R p a)->Q l)->cK R n (kas_place p k f l r) Q
 |0,l,r,hf,hl,hr,h1,h2,q=>q l (by omega) h1 (fun a x y=>h2 a (by omega) y)
 |f+1,l,r,hf,hl,hr,h1,h2,q=>by
          unfold kas_place
          by_cases e:l ≥ r
          ·rw [if_pos e]
           exact q l (by omega) h1 (fun a x y=>h2 a (by omega) y)
          ·rw [if_neg e]
           refine ⟨hp.lt hk,hp.lt (by omega),?_⟩
           show cK R n (if decide (rk R p k<rk R p ((l+r) / 2))=true then _ else _) Q
           by_cases h:rk R p k<rk R p ((l+r) / 2)
           ·rw [decide_eq_true h,if_pos rfl]
            refine ly hp hk ha f l ((l+r) / 2) (by omega) (by omega) (by omega) h1 (fun a x y=>?_) q
            have:=ha ((l+r) / 2) a x y
            omega
           ·rw [decide_eq_false h,if_neg f8]
            refine ly hp hk ha f ((l+r) / 2+1) r (by omega) (by omega) hr (fun a x=>?_) h2 q
            have:=ha a ((l+r) / 2) (by omega) (by omega)
            omega
theorem xA {Q:Array Nat->Prop}:∀(f:Nat) (p:Array Nat) (k:Nat),Pm n p->jX R p k->k+f=n->(∀p',Pm n p'->jX R p' n->Q p')->cK R n (kas_bin f p k) Q
 |0,p,k,hp,ha,hn,q=>q p hp (by rw [<- hn];exact ha)
 |f+1,p,k,hp,ha,hn,q=>by
          have hsz:=hp.sz
          refine eX (ly hp (by omega) ha k 0 k (by omega) (by omega) (br _) (fun a h=>by omega) (fun a h1 h2=>by omega) fun l hl h1 h2=>?_)
          refine xA f _ (k+1) (hp.of (bubble_size _ _ _) (bubble_perm _ _ _)) (fun a b d7 hb=>?_) (by omega) q
          have hd:k - (k - l)=l :=by omega
          rw [xx R (by omega) (by omega),xx R (by omega) (by omega),hd]
          by_cases a1:a=l
          ·rw [if_pos a1]
           by_cases b1:b=l
           ·rw [if_pos b1];exact Mc _
           ·rw [if_neg b1,if_pos ⟨by omega,by omega⟩]
            exact Int.le_of_lt (h2 (b - 1) (by omega) (by omega))
          ·rw [if_neg a1]
           by_cases b1:b=l
           ·rw [if_pos b1,if_neg (by omega)]
            exact h1 a (by omega)
           ·rw [if_neg b1]
            by_cases a2:l<a/\a<=k
            ·rw [if_pos a2,if_pos ⟨by omega,by omega⟩]
             exact ha _ _ (by omega) (by omega)
            ·rw [if_neg a2]
             by_cases b2:l<b/\b<=k
             ·rw [if_pos b2]
              exact ha _ _ (by omega) (by omega)
             ·rw [if_neg b2]
              exact ha _ _ d7 (by omega)
theorem Cq (h1:1<=n) {Q:Array Nat->Prop} (q:∀p,Pm n p->jX R p n->Q p):cK R n (kas_sort n) Q :=by
 have h0:Pm n (NE (io n)):=⟨by simp,by simp⟩
 refine eX (zm h0 h1 fun m p hp ha jc KZ=>?_)
 show cK R n (if m<n then kas_bin (n - max m 1) p (max m 1) else .ret p) Q
 have em:max m 1=m :=by omega
 rw [em]
 by_cases h:m<n
 ·rw [if_pos h]
  exact xA _ p m hp ha (by omega) q
 ·rw [if_neg h]
  exact q p hp (by rw [show n=m by omega];exact ha)
end
theorem rh {α:Type} {cmp:Nat->Nat->(Bool->ar->Prop)->ar->Prop} {I:ar->Prop} {R:Nat->Int} {n:Nat} (hc:∀i j C s,i<n->j<n->I s->(∀s',I s'->C (decide (R i<R j)) s')->cmp i j C s):∀(t:KasT α) (Q:α->ar->Prop) (s:ar),I s->cK R n t (fun a=>∀s',I s'->Q a s')->t.kasWp cmp Q s
 | .ret _,Q,s,hI,h=>h s hI
 | .ask i j k,Q,s,hI,h=>hc i j _ s h.1 h.2.1 hI fun s' Mm=>rh hc (k _) Q s' Mm h.2.2
theorem mM:∀a:List Int,HT.lexLt a a=false
 | []=>rfl
 |x::a=>by rw [HT.f9,if_pos rfl];exact mM a
theorem gP:∀{a b c:List Int},HT.lexLt a b=true->HT.lexLt b c=true->HT.lexLt a c=true
 | [],[],_,h,_=>by cases h
 | [],_::_,[],_,h=>by cases h
 | [],_::_,_::_,_,_=>rfl
 |_::_,[],_,h,_=>by cases h
 |_::_,_::_,[],_,h=>by cases h
 |x::a,y::b,z::c,h1,h2=>by
          rw [HT.f9] at h1 h2 ⊢
          by_cases e1:x=y
          ·subst e1
           rw [if_pos rfl] at h1
           by_cases e2:x=z
           ·subst e2
            rw [if_pos rfl] at h2 ⊢
            exact gP h1 h2
           ·rw [if_neg e2] at h2 ⊢
            exact h2
          ·rw [if_neg e1] at h1
           have h1:=of_decide_eq_true h1
           by_cases e2:y=z
           ·subst e2
            rw [if_neg e1]
            exact decide_eq_true h1
           ·rw [if_neg e2] at h2
            have h2:=of_decide_eq_true h2
            rw [if_neg (by omega)]
            exact decide_eq_true (by omega)
theorem mO:∀{a b:List Int},HT.lexLt a b=false->HT.lexLt b a=false->a=b
 | [],[],_,_=>rfl
 | [],_::_,h,_=>by cases h
 |_::_,[],_,h=>by cases h
 |x::a,y::b,h1,h2=>by
          rw [HT.f9] at h1 h2
          by_cases e:x=y
          ·subst e
           rw [if_pos rfl] at h1 h2
           rw [mO h1 h2]
          ·rw [if_neg e] at h1
           rw [if_neg (BN e)] at h2
           have h1:=of_decide_eq_false h1
           have h2:=of_decide_eq_false h2
           exact absurd (show x=y by omega) e
def oV (rows:List (List Int)) (r:List Int):Int:=(rows.countP fun x=>HT.lexLt x r:Nat)
theorem oW {α:Type} {p q:α->Bool} (FP:∀x,p x=true->q x=true):∀{l:List α} {a:α},a∈l->q a=true->p a=false->l.countP p<l.countP q
 |x::l,a,h,hq,hp=>by
          have le:l.countP p<=l.countP q:=List.countP_mono_left fun x _=>FP x
          rcases lw.mp h with rfl|h
          ·rw [List.countP_cons_of_neg (by simp [hp]),List.countP_cons_of_pos hq]
           omega
          ·have ih:=oW FP h hq hp
           rw [List.countP_cons,List.countP_cons]
           by_cases e:p x=true
           ·rw [if_pos e,if_pos (FP x e)];omega
           ·rw [if_neg e]
            split <;> omega
theorem xB {rows:List (List Int)} {a b:List Int} (ha:a∈rows):decide (oV rows a<oV rows b)=HT.lexLt a b :=by
 unfold oV
 cases h:HT.lexLt a b with
 |true=>
  refine decide_eq_true ?_
  have:=oW (p:=fun x=>HT.lexLt x a) (q:=fun x=>HT.lexLt x b) (fun x hx=>gP hx h) ha h (mM a)
  omega
 |false=>
  refine decide_eq_false ?_
  have:rows.countP (fun x=>HT.lexLt x b)<=rows.countP (fun x=>HT.lexLt x a):=List.countP_mono_left fun x _ hx=>by
   cases h2:HT.lexLt b a with
   |true=>exact gP hx h2
   |false=>rw [mO h h2];exact hx
  omega
def eC (h:ij) (v:am) (row:List Int):Prop:=∃b o xs n,v=.ref b/\h.get? b=some o/\o.cls=.type "tuple" /\ o.data=.seq xs n/\OW xs.toList row/\row≠[]
section
variable {prog:gl} {w:ii} {A:l7} {E:am->ar->Prop} {s:ar}
theorem kW {fin:Bool} {Q:Bool->ar->Prop}:∀{us ws:List am} {ns ms:List Int} (i:Nat),OW us ns->OW ws ms->fin=decide (us.length<ws.length)->Q (HT.lexLt ns ms) s->KatLex prog w A true fin Q (us.zip ws) i s
 | [],[],[],[],i,_,_,hf,q=>by
          refine kat_nil ?_
          rw [hf]
          exact q
 | [],y::ws,[],m::ms,i,_,_,hf,q=>by
          refine kat_nil ?_
          rw [hf]
          exact q
 |x::us,[],n::ns,[],i,_,_,hf,q=>by
          refine kat_nil ?_
          rw [hf]
          exact q
 |x::us,y::ws,n::ns,m::ms,i,hu,hw,hf,q=>by
          cases hu with
          |cons _ t hu=>
          cases hw with
          |cons _ t2 hw=>
          rw [HT.f9] at q
          refine kat_cons (PySem.SeqAt.EqAt.int_int n t m t2 prog w _ _ (kat_go (fun e=>kat_yes ?_) (fun e=>kat_no ?_)))
          ·have e:n=m :=by simpa using e
           rw [if_pos e] at q
           exact kW (i+1) hu hw (by rw [hf];simp) q
          ·have e:n≠m :=by simpa using e
           rw [if_neg e] at q
           cases hi:(i==0) with
           |true=>exact oneLt_int q
           |false=>exact kat_one _ _ (PyProof.Rows.lt_int q)
theorem uY {v1 v2:am} {r1 r2:List Int} {Q:Bool->ar->Prop} (h1:eC s.heap v1 r1) (h2:eC s.heap v2 r2) (q:Q (HT.lexLt r1 r2) s):wpAny (model prog w) A (keyLt' (tuples' true) v1 v2) Q E s :=by
 obtain ⟨b,o,xs,n,rfl,ho,hc,hd,hi,_⟩:=h1
 obtain ⟨b2,o2,Nz,n2,rfl,jn,sS,hd2,fu,_⟩:=h2
 exact kat_lt ho hd jn hd2 (kW 0 hi fu (by simp) q)
theorem mP:∀{vs:List am} {rows:List (List Int)},wn (fun v r=>eC s.heap v r) vs rows->∃fs,KatTups s.heap vs fs/\fs.length=vs.length/\∀f∈fs,∃n t,f=.int n t
 | [],[],_=>⟨[],.nil,rfl,fun _ h=>nomatch h⟩
 |v::vs,r::rows,h=>by
          obtain ⟨r',MY,e,hv,ht⟩:=h8 h
          cases e
          obtain ⟨fs,k1,k2,k3⟩:=mP ht
          obtain ⟨b,o,xs,n,rfl,ho,hc,hd,hi,c9⟩:=hv
          obtain ⟨ls⟩:=xs
          cases hi with
          |nil=>exact absurd rfl c9
          |cons m t hi=>exact ⟨_,.cons ho hc hd (f:=.int m t) (by simp) k1,by simp [k2],fun f hf=>by
            rcases lw.mp hf with rfl|hf
            ·exact ⟨_,_,rfl⟩
            ·exact k3 f hf⟩
theorem nK {a:ag} {vs:List am} {rows:List (List Int)} {n:Nat} {P:PySem.Fin->ar->Prop} (ho:s.heap.get? a=some (seqObj "list" vs.toArray n))
  (hr:wn (fun v r=>eC s.heap v r) vs rows) (rj:vs.length<64)
  (h:∀(p:Array Nat),Pm vs.length p->(∀i j,i<=j->j<vs.length->HT.lexLt (rows.getD (p.getD j 0) []) (rows.getD (p.getD i 0) [])=false)->P (.done (.ret .none)) {s with heap:=sortedHeap s.heap a vs (NE (p.toList.map fun i=>vs.getD i u7))}) :
  wpAny (model prog w) A (ma.«list.sort» ⟨[.ref a],[]⟩) P E s :=by
 rw [list_sort_plain]
 have ha:a<s.heap.objs.size:=gc ho
 have Ja:vs.length=rows.length:=ON hr
 refine ac (listItems_at ho rfl ?_)
 refine ac (listUpdate_at ho rfl ?_ (by rw [ce,Fk];omega) (l8 _))
 obtain ⟨e1,tN⟩:∃e1,(s.heap.update a (Co fun _=>(#[]:Array am))).get? a=some (seqObj "list" #[] e1):=⟨_,get?_update_seq ho fun _=>#[]⟩
 refine ac (seqEpoch_at tN rfl ?_)
 refine ac (wpAny_newTuple ?_ (by show vs.length<=_;rw [Fk];omega))
 refine ac (wpAny_newList ?_ (l8 _))
 refine wl ?_
 have xC:(((s.heap.update a (Co fun _=>#[])).push (seqObj "tuple" vs.toArray 0)).push (seqObj "list" #[] 0)).get? a=some (seqObj "list" #[] e1) :=by
  rw [OH _ _ _ (by rw [size_push',OU];exact l6 (Lo ha)),OH _ _ _ (by rw [OU];exact l6 ha)]
  exact tN
 show wpAny (model prog w) A _ P E {s with heap:=((s.heap.update a (Co fun _=>(#[]:Array am))).push (seqObj "tuple" vs.toArray 0)).push (seqObj "list" #[] 0)}
 obtain ⟨hh,FQ⟩:∃hh,hh=((s.heap.update a (Co fun _=>(#[]:Array am))).push (seqObj "tuple" vs.toArray 0)).push (seqObj "list" #[] 0):=⟨_,rfl⟩
 rw [<- FQ] at xC ⊢
 have keep:∀b o,b≠a->s.heap.get? b=some o->hh.get? b=some o:=fun b o hb e=>by
  have aX:=gc e
  rw [FQ,OH _ _ _ (by rw [size_push',OU];exact l6 (Lo aX)),OH _ _ _ (by rw [OU];exact l6 aX),ij.get?_update_ne _ _ _ _ hb]
  exact e
 have tr:∀{v r},eC s.heap v r->eC hh v r:=fun h=>by
  obtain ⟨b,o,xs,n,rfl,dZ,hc,hd,hi⟩:=h
  exact ⟨b,o,xs,n,rfl,keep b o (fun z=>by subst z;rw [ho] at dZ;injection dZ with dZ;subst dZ;injection hc with hc;exact absurd hc (by decide)) dZ,hc,hd,hi⟩
 have oX:wn (fun v r=>eC hh v r) vs rows:=wn.imp' (fun _ _ h=>tr h) hr
 dsimp only
 have hsz:vs.toArray.size=vs.length :=by simp
 have fin:∀p:Array Nat,Pm vs.length p->(∀i j,i<=j->j<vs.length->HT.lexLt (rows.getD (p.getD j 0) []) (rows.getD (p.getD i 0) [])=false)->P (.done (.ret .none)) {s with heap:=hh.update a (Co fun _=>NE (p.toList.map fun i=>vs.getD i u7))}:=fun p h1 h2=>by
  have:=h p h1 h2
  unfold sortedHeap at this
  rw [<- FQ] at this
  exact this
 by_cases h2:vs.toArray.size<2
 ·rw [if_pos h2,if_pos h2]
  refine ac (ba ?_)
  rw [StateT.run_pure]
  refine ac (ba ?_)
  dsimp only
  refine ac (seqEpoch_at xC rfl ?_)
  have eo:((arrOf (SortSt.mk' general' (vs.toArray.zip vs.toArray) #[] 7 none)).map (·.2))=NE ((NE (io vs.length)).toList.map fun i=>vs.getD i u7) :=by
   refine kat_snds (ks:=vs) (vs:=vs) rfl (p:=NE (io vs.length)) ?_
   have e:vs.length=(vs.toArray.zip vs.toArray).size :=by simp
   rw [e]
   exact (kas_range _).symm
  rw [eo]
  refine ac (listUpdate_at xC rfl ?_ (l8 _) (by simp only [ce,c8,Db,Fk];omega))
  simp only [bne_self_eq_false,ci,if_false]
  refine ba (fin (NE (io vs.length)) ⟨by simp,by simp⟩ fun i j qi hj=>?_)
  have:i=j :=by omega
  subst this
  exact mM _
 ·rw [if_neg h2,if_neg h2]
  obtain ⟨fs,k1,k2,k3⟩:=mP (s:={s with heap:=hh}) oX
  refine ac (kat_kind (T:=.type "int") k1 (by omega) (fun v hv=>by obtain ⟨m,t,rfl⟩:=k3 v hv;exact Looks.of_pure rfl) (by decide) ?_)
  have zo:∀i,i<vs.length->∃r,eC hh (vs.getD i u7) (rows.getD i [])/\rows.getD i []∈rows/\r=rows.getD i []:=fun i hi=>by
   have hv:vs[i]?=some (vs.getD i u7) :=by simp [hi]
   obtain ⟨r,er,Eh⟩:=oU oX hv
   have e:rows.getD i []=r :=by simp [er]
   exact ⟨_,by rw [e];exact Eh,by rw [e];exact im er,rfl⟩
  refine ac (mf (kat_run (κ:=tuples' true) (ks:=vs) (vs:=vs) (Q:=fun fX s'=>∃p:Array Nat,Pm vs.length p/\jX (fun i=>oV rows (rows.getD i [])) p vs.length/\arrOf fX=p.map (kas_item (vs.toArray.zip vs.toArray))/\failedOf fX=none/\s'={s with heap:=hh})
   rfl (by omega) rj (G:=fun p s'=>Pm vs.length p/\jX (fun i=>oV rows (rows.getD i [])) p vs.length/\s'={s with heap:=hh}) (fun p' fX s' a1 a2 a3 a4=>⟨p',a4.1,a4.2.1,a2,a3,a4.2.2⟩) ?_) ?_ fun _ _ e=>e)
  ·refine rh (I:=fun s'=>s'={s with heap:=hh}) (R:=fun i=>oV rows (rows.getD i [])) (n:=vs.length) (fun i j C s' hi hj hI hC=>?_) _ _ _ rfl (Cq (by omega) fun p h1 h2 s' i5=>⟨h1,h2,i5⟩)
   subst hI
   obtain ⟨_,t1,m1,_⟩:=zo i hi
   obtain ⟨_,t2,_,_⟩:=zo j hj
   refine uY (s:={s with heap:=hh}) t1 t2 ?_
   rw [<- xB m1]
   exact hC _ rfl
  ·intro r s' hs
   obtain ⟨_,fX⟩:=r
   obtain ⟨p,hp,hA,Jb,hf,rfl⟩:=hs
   dsimp only at Jb hf ⊢
   have Kq:=kat_snds (ks:=vs) (vs:=vs) rfl Jb
   refine ac (seqEpoch_at xC rfl ?_)
   rw [Kq]
   refine ac (listUpdate_at xC rfl ?_ (l8 _) (by rw [ce,c8,i0,hp.sz,Fk];omega))
   rw [hf]
   simp only [bne_self_eq_false,ci,if_false]
   refine ba (fin p hp fun i j qi hj=>?_)
   have AU:=hp.lt hj
   obtain ⟨_,_,m1,_⟩:=zo _ AU
   rw [<- xB m1]
   have:=hA i j qi hj
   refine decide_eq_false ?_
   have this:oV rows (rows.getD (p.getD i 0) [])<=oV rows (rows.getD (p.getD j 0) []):=this
   omega
end
def gi (rs:List (List Int)):List (List Int):=rs.mergeSort fun a b => !HT.lexLt b a
theorem dC (rs:List (List Int)):(gi rs).Perm rs:=List.mergeSort_perm _ _
theorem sj {a b c:List Int} (h1:HT.lexLt b a=false) (h2:HT.lexLt c b=false):HT.lexLt c a=false :=by
 cases h:HT.lexLt c a with
 |false=>rfl
 |true=>
  cases h3:HT.lexLt a b with
  |true=>rw [gP h h3] at h2;cases h2
  |false=>
   have:=mO h3 h1
   subst this
   rw [h] at h2;cases h2
theorem rn (rs:List (List Int)):(gi rs).Pairwise fun a b=>HT.lexLt b a=false :=by
 have:=List.pairwise_mergeSort (le:=fun a b => !HT.lexLt b a) (fun a b c h1 h2=>by
  simp only [Bool.not_eq_true'] at *
  exact sj h1 h2) (fun a b=>by
  cases h:HT.lexLt b a with
  |false=>rfl
  |true=>
   cases h2:HT.lexLt a b with
   |false=>rfl
   |true=>have:=gP h h2;rw [mM] at this;cases this) rs
 exact this.imp fun h=>by simpa using h
theorem rp {ms rs:List (List Int)} (p:ms.Perm rs) (h:ms.Pairwise fun a b=>HT.lexLt b a=false):ms=gi rs:=
 NU.eq_of_pairwise (le:=fun a b=>HT.lexLt b a=false) (fun x y _ _ h1 h2=>mO h2 h1) h (rn rs) (p.trans (dC rs).symm)
section
variable {X:Cx}
def Hm:List V->Hp->VK->Prop:=fun xs H Q=>∃n:Int,xs=[.int n]/\n.natAbs.log2<1920/\Q (.str (i4 (toString n))) H
theorem xD:cm X (.type "str") Hm :=by
 intro pins s σ H xs us Q I r h
 obtain ⟨n,rfl,hn,q⟩:=h
 obtain ⟨u,rfl,t,rfl⟩:=vals1 r
 exact P.str_of_int hn ⟨.str _,H,I.tok _,⟨_,rfl⟩,q⟩
end
section
variable {β:Bz} {Γ:Gz} {X:Cx} {K:bi}
def zStrI (d:Dv) (M:Mh) (Q:ZK):Prop:=match d with | .int n=>n.natAbs.log2<1920/\Q (.str (i4 (toString n))) M|_=>False
theorem FR:eE Γ X (.type "str") (z1 zStrI):=⟨_,xD,fun β xs ds M H Q Q' _ _ _ m rs z q=>by
 unfold z1 at z
 split at z
 ·rename_i d
  obtain ⟨x,rfl,r⟩:=cZ rs
  unfold zStrI at z
  split at z
  ·exact ⟨_,by rw [aC r],z.1,q _ _ _ _ (.refl m) (.str _) z.2⟩
  ·exact z.elim
 ·exact z.elim⟩
end
section
variable {X:Cx} {Γ:Gz}
def FT (_ j:Int):Prop:=0<j/\j.natAbs.log2<9000
theorem zp:OpR X (binaryOp .FloorDiv) (rI FT fun i j=>.int (i / j)):=vJ fun i j _ _ _ _ _ hc q=>by
 have h1:(0:Int)<j:=hc.1
 exact floordiv_int (by omega) (by rw [Od i (by omega)];exact q) (.inl (PyProof.noPylong_of_log2 hc.2))
theorem t6:ef Γ X (binaryOp .FloorDiv) (zIC FT fun i j=>.int (i / j)):=⟨_,zp,jR fun _ _ _ _ _=>.int _⟩
end
section
variable {P:gl} {w:ii} {A:l7} {E:am->ar->Prop} {s:ar}
theorem xE {Q₁:am->ar->Prop} (h:Q₁ (.ref s.heap.objs.size) {s with heap:=s.heap.push (nh w)}) :
  codeAny (model P w) A (.call (.builtin "set.__new__") ⟨[.type "set"],[]⟩) (wants Q₁ E) s :=by
 refine Pa ?_
 show wpAny _ A.in1 (do checkBuiltinCall "set.__new__" ⟨[.type "set"],[]⟩;again (.builtin "set.__new__" ⟨[.type "set"],[]⟩)) _ _ s
 refine ac (EN F.newCall_set_0 (ba ⟨KT F.plain_set_new _,DD F.entry_set_new ?_⟩))
 rw [Cs F.plain_set_new _]
 unfold ma.«set.__new__» ma.Frozenset.newClass
 have ib:=sub_set_self
 obtain ⟨hp,g,d,tk,os⟩:=s
 dsimp only
 wp_walk
 refine Ob (ba ?_)
 dsimp only
 simp only [newObj]
 refine ac (wpAny_alloc (ba ?_))
 exact ba h
theorem uZ {Q:am->ar->Prop} (h:Q (.ref s.heap.objs.size) {s with heap:=s.heap.push (nh w)}):wpAny (model P w) A (call (.type "set") []) Q E s :=by
 obtain ⟨c,tl,Ng⟩:=NG.mro
 have MZ:=NG.made
 have ib:=NG.sub
 refine Qk (Pa ?_)
 show wpAny _ _ (callAny (.type "set") _) _ _ _
 refine ba ⟨Code.quiet_builtin _ (by decide +kernel),DD F.entry_type_call ?_⟩
 rw [l7.under_plain (weight_type_call_type "set" [] []) rfl]
 have h1:=NG.notType
 have h2:=NG.canCreate
 have NA:=F.typeCall_set_0
 repeat (any_goals (first|assumption|wp_step))
 refine O4 (xE (P:=P) (w:=w) (E:=E) (Q₁:=fun obj au=>obj=.ref s.heap.objs.size/\au={s with heap:=s.heap.push (nh w)}) ⟨rfl,rfl⟩) fun r au hr=>?_
 cases r with
 |error e=>exact hr
 |ok fl=>
  cases fl with
  |ret obj=>
   obtain ⟨rfl,rfl⟩:=hr
   have hT:PD {s with heap:=s.heap.push (nh w)} (.ref s.heap.objs.size) "set" := ⟨_,hX _ rfl,rfl⟩
   have wO:=NG.init.lookup
   have NB:=NG.init.bind (.ref s.heap.objs.size)
   repeat (any_goals (first|assumption|wp_step))
   refine O4 (Pe (R:=wants (fun r fS=>r=.none/\Q (.ref s.heap.objs.size) fS) E) NG.init.plain F.entry_set_init (check_set_init hT ?_)) fun Kr fS u0=>?_
   ·unfold ma.«set.__init__» noKeywords
    wp_walk
    exact ⟨rfl,h⟩
   ·cases Kr with
    |error e=>exact u0
    |ok Hn=>
     cases Hn with
     |ret r=>
      obtain ⟨rfl,hq⟩:=u0
      repeat (any_goals (first|assumption|wp_step))
     |_=>exact u0.elim
  |_=>exact hr.elim
theorem Cr {h:ij}:fw (intKind P w) (h.push (nh w)) h.objs.size []:=
 ⟨_,#[],0,_,hX _ rfl,⟨rfl,rfl,rfl⟩,rfl,by simp,by simp,uJ 0 0,.inl rfl,by show 0 * 5<7 * 3;decide⟩
theorem mQ {h:ij} {a:ag} {xs:List (List Int×ag)} (x:fw (intKind P w) h a xs):∃o,h.get? a=some o:=let ⟨o,_,_,_,e,_⟩:=x;⟨o,e⟩
theorem xF {H:Hp} {h:ij} {a:ag} {aD:List (List Int×V)} (x:fw (intKind P w) h a (aD.map fun x=>(x.1,gJ x.2))):aZ P w H h a (jb P w a aD):=⟨x,mQ x,fun h1 h2 y k=>y.bY k⟩
end
theorem rq {X:Cx} {pins:List (ag×lm)} {σ:St} {H:Hp} {s:ar} {a:ag} {aD:List (List Int×V)} (I:Inv X pins σ H s) (h:H a=some (jb X.prog X.w a aD)):fw (intKind X.prog X.w) s.heap a (aD.map fun x=>(x.1,gJ x.2)):=(I.hok a _ h).1
def mR (ks:List (List Int)):Mo:=.ts ks (ks.map eI)
section
variable {X:Cx} {Γ:Gz} {x:cb} {p pos:u4}
def Ct (P:gl) (w:ii):List V->Hp->VK->Prop:=fun xs H Q=>xs=[]/\∀l,H l=none->Q (.ref l) (upd H l (jb P w l []))
theorem sk:cm X (.type "set") (Ct X.prog X.w) :=by
 intro pins s σ H xs us Q I r h
 obtain ⟨rfl,q⟩:=h
 cases r
 have kp:∀b o,s.heap.get? b=some o->(s.heap.push (nh X.w)).get? b=some o:=fun b o e=>bn _ e
 exact uZ ⟨.ref s.heap.objs.size,_,I.laid (t':=s.toks) kp (br _) (xF Cr),rfl,q _ (I.hok.fresh (br _))⟩
def zSetNew:aH:=fun _ M Q=>∀a,M a=none->Q (.ptr a) (ay M a (mR []))
theorem oY (hP:X.prog=Γ.P) (hw:X.w=Γ.w) (hg:Gl X "set") (hm:X.mg "set" = none):QE Γ X (.Call (.Name "set" p) [] [] pos) zSetNew:=
 (uj sk hg hm EC).imp fun σ H Q ⟨β,ρ,M,Q',zr,h,q⟩=>⟨rfl,fun l hl=>by
  have m:=zr.mz
  have fz:=m.fz hl
  have x2:Ex β M H (ay M l (mR [])) (upd H l (jb X.prog X.w l [])):=Ex.lr m (.inr hl) rfl ⟨[],by rw [aE,hP,hw,zr.eP,zr.ew];rfl,rfl,rfl,fun i v d a b=>by simp at a⟩
  exact q _ _ _ _ x2 (.ptr (by rw [updM_same];rfl)) (h l fz.1)⟩
end
def kz (aD:List (List Int×V)) (k:List Int) (v:V):List (List Int×V):=if k∈aD.map (·.1) then aD else aD++[(k,v)]
def TupAt (H:Hp) (q:List Int×V):Prop:=∃b,q.2=.ref b/\H b=some (.tup (q.1.map V.int))
theorem mS {P:gl} {w:ii}:∀{ns:List Int} {its:List am},Vals (ns.map V.int) its->ItemsAre (intKind P w) ns its
 | [],_,h=>by cases h;exact .nil
 |n::ns,_,h=>by
          cases h with
          |cons r h=>
           obtain ⟨t,rfl⟩:=r
           exact .cons (intKind_is _ _ _ _) (mS h)
section
variable {X:Cx} {Γ:Gz}
theorem t7 {pins:List (ag×lm)} {σ:St} {H:Hp} {s:ar} {b:ag} {ns:List Int} (I:Inv X pins σ H s) (h:H b=some (.tup (ns.map V.int))):ET (intKind X.prog X.w) s.heap ns b :=by
 obtain ⟨z,its,r,o,e,c,n,d,_⟩:=I.hok b _ h
 exact ⟨o,its.toArray,n,e,c,d,by simpa using mS r⟩
theorem xG {pins:List (ag×lm)} {σ:St} {H:Hp} {s:ar} {a b:ag} {aD:List (List Int×V)} {k:List Int} {Q:VK} (I:Inv X pins σ H s) (hu:X.A.units+64<cLine) (ha:H a=some (jb X.prog X.w a aD)) (hb:H b=some (.tup (k.map V.int))) (hk:∀q∈aD,TupAt H q) (hl:aD.length<9)
  (q:Q .aj (upd H a (jb X.prog X.w a (kz aD k (.ref b))))):wpAny (model X.prog X.w) X.A (call (.builtin "set.add") [.ref a,.ref b]) (EP X pins σ Q) X.xe s :=by
 have hS:=rq I ha
 obtain ⟨o,es,ep,t,ho,hex,_⟩:=id hS
 have hT:s.TypeIs (.ref a) "set" := ⟨o,ho,hex.1⟩
 refine rb F.slot_set_add hT F.entry_set_add ?_ (F.args_set_add_2 _ _)
 unfold ma.«set.add» ma.Frozenset.oneOther
 simp only [List.isEmpty_nil,bind_assoc]
 unfold ma.Frozenset.addrOf
 refine ac (ba ?_)
 try dsimp only
 refine ac (ba ?_)
 try dsimp only
 refine ac (uM (knd:=intKind X.prog X.w) (by show X.A.units+_<_;omega) hS (t7 I hb) (fun x hx=>?_) (by rw [c8];exact hl) fun h' sX ja=>?_)
 ·obtain ⟨y,hy,rfl⟩:=l9.mp hx
  obtain ⟨c,e,hc⟩:=hk y hy
  rw [e]
  exact t7 I hc
 ·show wpAny _ _ (ret u7) _ _ _
  have Jc:fw (intKind X.prog X.w) h' a ((kz aD k (.ref b)).map fun x=>(x.1,gJ x.2)) :=by
   have e1:(aD.map fun x=>(x.1,gJ x.2)).map (·.1)=aD.map (·.1) :=by rw [Oa];rfl
   unfold qE at ja
   unfold kz
   rw [e1] at ja
   by_cases z:k∈aD.map (·.1)
   ·rw [if_pos z] at ja ⊢;exact ja
   ·rw [if_neg z] at ja ⊢
    rw [AE]
    exact ja
  have I9:=I.write (x:=a) (e:=a) (t':=s.toks+(k.length+1)) (by rw [ha];exact trivial) (.inl rfl) (fun b u hb hu=>(sX.2 b hb).trans hu) (mQ Jc) (xF Jc)
  exact ba ⟨_,rfl,.aj,_,I9,rfl,q⟩
def AV (X:Cx):V->List V->Hp->VK->Prop:=fun x ys H Q=>∃a b aD k,x=.ref a/\ys=[.ref b]/\H a=some (jb X.prog X.w a aD)/\H b=some (.tup (k.map V.int))/\(∀q∈aD,TupAt H q)/\aD.length<9/\Q .aj (upd H a (jb X.prog X.w a (kz aD k (.ref b))))
theorem Cu (hu:X.A.units+64<cLine):Af X "set.add" (AV X) :=by
 intro pins s σ H x ys v us Q I rx ry h
 obtain ⟨a,b,aD,k,rfl,rfl,ha,hb,hk,hl,q⟩:=h
 cases rx
 obtain ⟨u,rfl,r⟩:=ry.one
 cases r
 exact xG I hu ha hb hk hl q
variable {o e:dL} {to:TE} {te:TA} {apos aL:u4} {po:aH} {pa:du}
theorem Cv (hu:X.A.units+64<cLine) (ho:PE X o to) (ha:PA X [e] te) (gb:attributeBase o "add" X.env (eval o X.env)=eval o X.env :=by rfl)
  (iB:((backTo aL (starEach [e] X.env)).all (fun x => !x.1) && (backToKw aL (keywordEach [] X.env)).all (fun x=>x.1.isSome)
   && decide ([e].length+([]:List Me).length+(if ([]:List Me).isEmpty then 0 else 1)<30))=true :=by rfl)
  (hline:(apos.endLine==aL.line)=true :=by rfl) (hs:starEach [e] X.env=(false,eval e X.env)::starEach [] X.env :=by rfl) (fc:(backTo aL (starEach [] X.env)).any (·.1)=false :=by rfl) :
  PE X (.Call (.Attribute o "add" apos) [e] [] aL) (fun σ H Q=>to σ H fun x H1=>(∃a aD,x=.ref a/\H1 a=some (jb X.prog X.w a aD))/\te σ H1 fun ys H2=>AV X x ys H2 Q) :=by
 refine ⟨?_⟩
 intro pins s σ H Q I h
 refine wpAny_Call_method_late gb iB hline rfl (thn (ho pins s σ H _ I h) fun v s1 ⟨x,H1,I1,r1,⟨a,aD,ex,jt⟩,q1⟩=>?_)
 subst ex
 cases r1
 obtain ⟨ob,es,ep,t,sW,hex,_⟩:=rq I1 jt
 refine ⟨"set","set.add",F.plainAttrs_set,F.slot_set_add,F.type_set_add,⟨ob,sW,hex.1⟩,fun c ec=>?_,?_⟩
 ·cases ec;exact ⟨ob,sW,hex.2.1⟩
 ·have hA:=ha aL pins s1 σ H1 _ I1 q1
  rw [hs] at hA ⊢
  refine Calls.callWith_builtin (by show (false || (backTo aL (starEach [] X.env)).any (·.1))=false;rw [fc] <;> rfl) (O7 ?_)
  exact thn hA fun us s2 ⟨vs,H2,I2,r2,q2⟩=>Cu hu pins s2 σ H2 (.ref a) vs (.ref a) us Q I2 rfl r2 q2
def eQ (ks:List (List Int)) (k:List Int):List (List Int):=if k∈ks then ks else ks++[k]
def zAddT (po:aH) (pa:du):aH:=fun ρ M Q=>po ρ M fun d M1=>∃a,d=.ptr a/\(∃ks,M1 a=some (mR ks))/\pa ρ M1 fun es M2=>∃ks k,es=[eI k]/\M2 a=some (mR ks)/\ks.length<9/\Q .aj (ay M2 a (mR (eQ ks k)))
theorem t8 (hP:X.prog=Γ.P) (hw:X.w=Γ.w) (hu:X.A.units+64<cLine) (ho:QE Γ X o po) (ha:QA Γ X [e] pa) (gb:attributeBase o "add" X.env (eval o X.env)=eval o X.env :=by rfl)
  (iB:((backTo aL (starEach [e] X.env)).all (fun x => !x.1) && (backToKw aL (keywordEach [] X.env)).all (fun x=>x.1.isSome)
   && decide ([e].length+([]:List Me).length+(if ([]:List Me).isEmpty then 0 else 1)<30))=true :=by rfl)
  (hline:(apos.endLine==aL.line)=true :=by rfl) (hs:starEach [e] X.env=(false,eval e X.env)::starEach [] X.env :=by rfl) (fc:(backTo aL (starEach [] X.env)).any (·.1)=false :=by rfl) :
  QE Γ X (.Call (.Attribute o "add" apos) [e] [] aL) (zAddT po pa):=
 (Cv hu ho ha gb iB hline hs fc).imp fun σ H Q ⟨β,ρ,M,Q',zr,h,q⟩=>⟨β,ρ,M,_,zr,h,fun d M1 v H1 x1 r1 h1=>by
  obtain ⟨a,rfl,⟨NC,E6⟩,h2⟩:=h1
  obtain ⟨rfl,ND⟩:=bu r1
  have m1:=x1.mz
  obtain ⟨AJ,Mp,_⟩:=m1.obj a _ E6
  refine ⟨⟨a,_,rfl,by rw [hP,hw,<- zr.eP,<- zr.ew];exact Mp⟩,β,ρ,M1,_,zr.step x1,h2,fun es M2 ys H2 x2 r2 h3=>?_⟩
  obtain ⟨ks,k,rfl,Jd,hl,hq⟩:=h3
  have m2:=x2.mz
  obtain ⟨vs,hv,xH,rs⟩:=m2.obj a _ Jd
  obtain ⟨y,rfl,ry⟩:=cZ r2
  obtain ⟨b,us,rfl,_,hb,xI⟩:=bh ry
  have:=gM xI
  subst this
  have each:∀q∈ks.zip vs,TupAt H2 q:=fun q hq=>by
   obtain ⟨i,hi⟩:=ul.mp hq
   obtain ⟨e1,e2⟩:=uu.mp hi
   have:=rs.at' i q.2 (eI q.1) e2 (by rw [cr,e1];rfl)
   obtain ⟨c,us,ec,_,hc,xI⟩:=bh this
   have:=gM xI
   subst this
   exact ⟨c,ec,hc⟩
  refine ⟨a,b,ks.zip vs,k,rfl,rfl,by rw [hP,hw,<- zr.eP,<- zr.ew];exact hv,hb,each,by rw [List.length_zip];omega,?_⟩
  have kf:(ks.zip vs).map (·.1)=ks:=List.map_fst_zip (by omega)
  have AW:(M2 a).isSome=true :=by rw [Jd];rfl
  have x3:Ex β M2 H2 (ay M2 a (mR (eQ ks k))) (upd H2 a (jb X.prog X.w a (kz (ks.zip vs) k (.ref b)))) :=by
   have rl:=rs.len
   rw [c8] at rl
   unfold eQ kz
   rw [kf]
   by_cases z:k∈ks
   ·rw [if_pos z,if_pos z]
    exact Ex.lr m2 (.inl AW) rfl ⟨vs,by rw [aE,hP,hw,zr.eP,zr.ew],xH,rs.len,fun i v d a b=>gK (.inl AW) (rs.at' i v d a b)⟩
   ·rw [if_neg z,if_neg z]
    have b8:aG β M2 H2 (vs++[V.ref b]) ((ks++[k]).map eI) :=by
     rw [AE]
     exact rs.snoc ry
    exact Ex.lr m2 (.inl AW) rfl ⟨vs++[.ref b],by rw [aE,hP,hw,zr.eP,zr.ew,Qc (by omega)];rfl,by simp [xH],b8.len,fun i v d a b=>gK (.inl AW) (b8.at' i v d a b)⟩
  exact q _ _ _ _ (x1.trans (x2.trans x3)) .aj hq⟩
end
section
variable {P:gl} {w:ii} {A:l7} {E:am->ar->Prop} {s:ar}
theorem rA {a:am} {C:List am->List (List Int)->Prop} {Q:am->ar->Prop}
  (Ks:∀QL:List am->ar->Prop,(∀us rows h' d' tk,C us rows->(∀b o,s.heap.get? b=some o->h'.get? b=some o)->QL us {s with heap:=h',drawn:=d',toks:=tk})->wpAny (model P w) A.in1 (collect a) QL E s)
  (hr:∀us rows,C us rows->wn (fun v r=>eC s.heap v r) us rows/\us.length<64)
  (h:∀(us:List am) (rows:List (List Int)) (h1 h':ij) d' tk (is:List Nat) e,C us rows->(∀i∈is,i<us.length)->(is.map fun i=>rows.getD i [])=gi rows->(∀b o,s.heap.get? b=some o->h1.get? b=some o)->(∀b o,h1.get? b=some o->h'.get? b=some o)->h'.get? h1.objs.size=some {cls:=.type "list",data:=.seq (is.map fun i=>us.getD i u7).toArray e}->Q (.ref h1.objs.size) {s with heap:=h',drawn:=d',toks:=tk}) :
  wpAny (model P w) A (call (.builtin "sorted") [a]) Q E s :=by
 refine Calls.call_function_entry kind_sorted plain_sorted entry_sorted (args_sorted1 _) ?_
 unfold ma.«sorted»
 refine ac (m:=checkCount "sorted" 1 1 _) (ba ?_)
 refine ac (Ks _ fun us rows h' d' tk hC hk=>?_)
 obtain ⟨AX,rj⟩:=hr us rows hC
 refine ac (wpAny_newList ?_ (hsz:=sB (Oq rj) (by decide)))
 have vz:(h'.push (seqObj "list" us.toArray 0)).get? h'.objs.size=some (seqObj "list" us.toArray 0):=hX _ rfl
 have oX:wn (fun v r=>eC (h'.push (seqObj "list" us.toArray 0)) v r) us rows:=wn.imp' (fun v r t=>by
  obtain ⟨b,o,xs,n,rfl,ho,z⟩:=t
  exact ⟨b,o,xs,n,rfl,bn _ (hk _ _ ho),z⟩) AX
 have hl:=ON AX
 refine ac (wl (rb slot_list_sort ⟨_,vz,rfl⟩ entry_list_sort (nK vz oX rj fun p hp ha=>⟨_,rfl,?_⟩) (args_list_sort _)))
 refine ba ⟨_,rfl,?_⟩
 obtain ⟨e,he⟩:=sortedHeap_at (out:=NE (p.toList.map fun i=>us.getD i u7)) vz
 refine h us rows h' _ d' _ p.toList e hC (fun i hi=>?_) (rp ?_ ?_) hk (fun b o hb=>?_) he
 ·have:=hp.pm.mem_iff.mp hi
  exact sw.mp this
 ·have q:=hp.pm.map fun i=>rows.getD i []
  refine q.trans (NU.of_eq ?_)
  rw [hl]
  refine List.ext_getElem (by simp) fun i h1 h2=>?_
  simp only [List.getElem_map,Pt]
  rw [db,ap h2]
  rfl
 ·rw [Fa]
  intro i j hi hj qi
  simp only [c8,i0] at hi hj
  have hsz:=hp.sz
  have:=ha i j (Oq qi) (by omega)
  simp only [List.getElem_map,Array.getElem_toList]
  have e1:p.getD i 0=p[i] :=by simp [LG,hi]
  have e2:p.getD j 0=p[j] :=by simp [LG,hj]
  rw [e1,e2] at this
  exact this
 ·have aX:=gc hb
  rw [sortedHeap_old (l6 aX) (by rw [N6];exact Lo aX)]
  exact bn _ hb
end
theorem mU {α β γ:Type} {R:β->γ->Prop} (f:α->β) (g:α->γ):∀{l:List α},(∀x∈l,R (f x) (g x))->wn R (l.map f) (l.map g)
 | [],_=>.nil
 |x::l,h=>.cons (h x kt) (mU f g fun y hy=>h y (ff _ hy))
theorem xJ {α β:Type} (f:α->β):∀{us:List β} {l:List α},us.Perm (l.map f)->∃l':List α,l'.Perm l/\us=l'.map f:=fun {us l} h=>by
 have key:∀(us vs:List β),us.Perm vs->∀l:List α,vs=l.map f->∃l':List α,l'.Perm l/\us=l'.map f:=fun us vs p=>by
  induction p with
  |nil=>intro l e;exact ⟨l,.refl _,e⟩
  |cons x p ih=>
   intro l e
   cases l with
   |nil=>cases e
   |cons a l=>
    cases e
    obtain ⟨l',p',e'⟩:=ih l rfl
    exact ⟨a::l',p'.cons a,by rw [e'];rfl⟩
  |swap x y l0=>
   intro l e
   match l,e with
   |a::b::l,e=>
    cases e
    exact ⟨b::a::l,.swap ..,rfl⟩
  |trans p1 p2 Mq Mr=>
   intro l e
   obtain ⟨l2,q2,e2⟩:=Mr l e
   obtain ⟨l1,q1,e1⟩:=Mq l2 e2
   exact ⟨l1,q1.trans q2,e1⟩
 exact key us _ h l rfl
def Cw (X:Cx):List V->Hp->VK->Prop:=fun xs H Q=>∃p aD,xs=[.ref p]/\H p=some (jb X.prog X.w p aD)/\(∀q∈aD,TupAt H q/\q.1≠[])/\aD.length<64 /\
 ∀l (jY:List (List Int×V)),H l=none->(∀q∈jY,q∈aD)->jY.map (·.1)=gi (aD.map (·.1))->Q (.ref l) (upd H l (.lst (jY.map (·.2))))
section
variable {X:Cx} {Γ:Gz}
theorem sm (hc:X.calm=true):cm X (.builtin "sorted") (Cw X) :=by
 intro pins s σ H xs us Q I r h
 obtain ⟨p,aD,rfl,hp,fv,rj,q⟩:=h
 obtain ⟨u,rfl,rx⟩:=vals1 r
 cases rx
 have hh:=I.ok.hd hc
 have hsz:sizeLine=16777216:=Fk
 obtain ⟨o,es,ep,t,ho,hex,hd,Je,hn,g,hm,hl⟩:=rq I hp
 have hlen:es.size=aD.length :=by rw [<- i0,Je.length_eq,c8,c8]
 have sX:scanBound=4096:=rfl
 have ev:es.toList.map (·.2) |>.Perm (aD.map fun x=>lc (gJ x.2)) :=by
  have:=Je.map (·.2)
  rw [Oa,Oa] at this
  exact this
 refine rA (C:=fun us rows=>∃eY:List (List Int×V),eY.Perm aD/\us=eY.map (fun x=>lc (gJ x.2))/\rows=eY.map (·.1)) (fun QL Ms=>?_) (fun us rows hC=>?_) fun us rows h1 h' d' tk is e hC hi hs k1 k2 he=>?_
 ·refine qG (by simp [hh]) ho hex hd (by omega) g.fits g.ok (by omega) fun us h' d' tk Mt hk=>?_
  obtain ⟨eY,q2,e2⟩:=xJ (fun x:List Int×V=>lc (gJ x.2)) (Mt.trans ev)
  exact Ms us _ h' d' tk ⟨eY,q2,e2,rfl⟩ hk
 ·obtain ⟨eY,q2,rfl,rfl⟩:=hC
  refine ⟨mU _ _ fun x hx=>?_,by rw [c8,q2.length_eq];exact rj⟩
  obtain ⟨⟨b,e,hb⟩,c9⟩:=fv x (q2.mem_iff.mp hx)
  obtain ⟨ts,rt,⟨ob,sW,iZ,n,Mu⟩,_⟩:=I.tuple (.inl (.inl hb))
  rw [e]
  exact ⟨b,ob,_,n,rfl,sW,iZ,Mu,Al rt,c9⟩
 ·obtain ⟨eY,q2,rfl,rfl⟩:=hC
  rw [c8] at hi
  have I1:Inv X pins σ H {s with heap:=h1,drawn:=d'}:=(I.kept (t':=s.toks) k1).k6 ⟨rfl,rfl,I.bare.self⟩
  have t9:=congrArg List.length hs
  rw [c8,(dC _).length_eq,c8,q2.length_eq] at t9
  have gd:∀i∈is,eY[i]?=some (eY.getD i ([],.aj)):=fun i hx=>by
   have:=hi i hx
   rw [db,ap this];rfl
  have mem:∀i∈is,eY.getD i ([],.aj)∈aD:=fun i hx=>q2.mem_iff.mp (im (gd i hx))
  have ob:aZ X.prog X.w (upd H h1.objs.size (.lst ((is.map fun i=>eY.getD i ([],.aj)).map (·.2)))) h' h1.objs.size (.lst ((is.map fun i=>eY.getD i ([],.aj)).map (·.2))) :=by
   refine ⟨by rw [c8,c8];omega,_,e,?_,he⟩
   clear he hs t9
   induction is with
   |nil=>exact .nil
   |cons i is ih=>
    refine .cons ?_ (ih (fun j hj=>hi j (ff _ hj)) (fun j hj=>gd j (ff _ hj)) fun j hj=>mem j (ff _ hj))
    have g1:=gd i kt
    obtain ⟨⟨b,e1,_⟩,_⟩:=fv _ (mem i kt)
    have e2:(eY.map fun x=>lc (gJ x.2)).getD i u7=.ref (gJ (eY.getD i ([],.aj)).2) :=by
     rw [db,cr,g1];rfl
    show RelV (eY.getD i ([],.aj)).2 ((eY.map fun x=>lc (gJ x.2)).getD i u7)
    rw [e2,e1]
    rfl
  have eq1:(is.map fun i=>eY.getD i ([],.aj)).map (·.1)=gi (aD.map (·.1)) :=by
   have e3:(is.map fun i=>eY.getD i ([],.aj)).map (·.1)=is.map fun i=>(eY.map (·.1)).getD i [] :=by
    rw [Oa]
    refine List.map_congr_left fun i hx=>?_
    show (eY.getD i ([],.aj)).1=_
    rw [db (l:=List.map _ _),cr,gd i hx]
    rfl
   rw [e3,hs]
   exact rp ((dC _).trans (q2.map _)) (rn _)
  exact ⟨.ref h1.objs.size,_,I1.laid (t':=tk) k2 (br _) ob,rfl,q _ _ (I1.hok.fresh (br _)) (fun z hz=>by obtain ⟨i,hx,rfl⟩:=l9.mp hz;exact mem i hx) eq1⟩
def zSortTS (d:Dv) (M:Mh) (Q:ZK):Prop:=∃a ks,d=.ptr a/\M a=some (mR ks)/\ks.length<64/\(∀r∈ks,r≠[])/\Q (.lst ((gi ks).map eI)) M
theorem rB (hP:X.prog=Γ.P) (hw:X.w=Γ.w) (hc:X.calm=true):eE Γ X (.builtin "sorted") (z1 zSortTS):=⟨_,sm hc,fun β xs ds M H Q Q' eP ew _ m rs z q=>by
 unfold z1 at z
 split at z
 ·rename_i d
  obtain ⟨x,rfl,r⟩:=cZ rs
  obtain ⟨a,ks,rfl,hM,rj,c9,hq⟩:=z
  obtain ⟨rfl,hs⟩:=bu r
  obtain ⟨vs,hv,xH,b8⟩:=m.obj a _ hM
  have kf:(ks.zip vs).map (·.1)=ks:=List.map_fst_zip (by omega)
  have each:∀q∈ks.zip vs,Rz β M H q.2 (eI q.1):=fun q hq=>by
   obtain ⟨i,hi⟩:=ul.mp hq
   obtain ⟨e1,e2⟩:=uu.mp hi
   exact b8.at' i q.2 (eI q.1) e2 (by rw [cr,e1];rfl)
  refine ⟨a,ks.zip vs,rfl,by rw [hP,hw,<- eP,<- ew];exact hv,fun q hq=>⟨?_,?_⟩,by rw [List.length_zip];omega,fun l jY hl ib i5=>?_⟩
  ·obtain ⟨c,us,ec,_,hc,xI⟩:=bh (each q hq)
   have:=gM xI
   subst this
   exact ⟨c,ec,hc⟩
  ·exact c9 _ (by rw [<- kf];exact l9.mpr ⟨q,hq,rfl⟩)
  ·rw [kf] at i5
   have x2:=Ex.lay m hl (.lst (jY.map (·.2)))
   have rk:aG β M H (jY.map (·.2)) ((jY.map (·.1)).map eI) :=by
    clear i5 x2
    induction jY with
    |nil=>exact .nil
    |cons z l ih=>exact .cons (each z (ib z kt)) (ih fun y hy=>ib y (ff _ hy))
   rw [i5] at rk
   exact q _ _ _ _ x2 (qH (m.fz hl) aE (rk.ex x2)) hq
 ·exact z.elim⟩
end
end L2
namespace L2
open PySem PySem.Spec PySem.W PyProof.Rows
open PySem.AutoSeq1 (wpAny_loadPart')
theorem lz:Slot "reversed" "__init__" "object.__init__" :=
 .of (owner := "object") (n := "__init__") (by rw [FM,ze];kernel_rfl) (by decide +kernel) (by decide +kernel) (by decide +kernel)
  (by first|exact .inl (by decide +kernel)|exact .inr (by decide +kernel)) (by rw [Is];kernel_rfl)
theorem mV:TypeCalled "reversed" "reversed.__new__" "object.__init__" :=
 ⟨by decide +kernel,by decide +kernel,⟨_,_,F.mro_reversed⟩,F.made_reversed,by decide +kernel,by rw [Is];kernel_rfl,lz⟩
theorem cj:Slot "reversed" "__next__" "reversed.__next__" :=
 .of (owner := "reversed") (n := "__next__") (by rw [FM,ze];kernel_rfl) (by decide +kernel) (by decide +kernel) (by decide +kernel)
  (by first|exact .inl (by decide +kernel)|exact .inr (by decide +kernel)) (by rw [Is];kernel_rfl)
theorem gQ:entryFor table "reversed.__next__" = some ma.«reversed.__next__»:=entryFor_of_tree (by kernel_rfl)
theorem u3:typeLookup (.type "tuple") "__reversed__" = pure none :=by rw [FM,ze];kernel_rfl
theorem mW:isSubtype (.type "tuple") (.type "dict")=pure false :=by rw [Is];kernel_rfl
def zq (l:ag) (i:Int):lm:={cls:=.type "reversed",data:=.fields #[.ref l,rawInt i]}
def gR (h:ij) (a l:ag) (i:Int):Prop:=∃o,h.get? a=some o/\o.cls=.type "reversed" /\ o.data=.fields #[.ref l,rawInt i]
theorem gR.at {h h':ij} {a l:ag} {i:Int} (x:gR h a l i) (e:∀o,h.get? a=some o->h'.get? a=some o):gR h' a l i:=let ⟨o,ho,r⟩:=x;⟨o,e _ ho,r⟩
theorem gR.typeIs {s:ar} {a l:ag} {i:Int} (x:gR s.heap a l i):s.TypeIs (.ref a) "reversed" := let ⟨o,ho,hc,_⟩:=x;⟨o,ho,hc⟩
theorem zt (l:ag) (items:Array am) (hz:(items.size:Int)<2 ^ 63) :
  Meets (ma.«reversed.__new__» ⟨[.type "reversed",.ref l],[]⟩) (fun _ R s=>P3 s.heap l items/\∀tk,R (.ok (.ret (.ref s.heap.objs.size))) {s with heap:=s.heap.push (zq l ((items.size:Int) - 1)),toks:=tk}):=
 .of_wp fun prog w A R s h=>by
  obtain ⟨hl,h⟩:=h
  obtain ⟨o,ho,hc,n,hd⟩:=id hl
  have hT:s.TypeIs (.ref l) "tuple" := ⟨o,ho,hc⟩
  unfold ma.«reversed.__new__»
  refine ac (EN (newClass_reversed _) ?_)
  try dsimp only
  refine ac (EN (a:=()) (by first|rfl|kernel_rfl) ?_)
  refine ac (EN (a:=()) (by first|rfl|kernel_rfl) ?_)
  try dsimp only
  refine ac (KB hT u3 ?_)
  try dsimp only
  refine ac ?_
  show wpAny _ _ (isInstance (.ref l) (.type "dict")>>=_) _ _ s
  refine ac (Nd hT mW ?_)
  simp only [ci,if_false]
  refine ac (KB hT F.slot_tuple_getitem.lookup ?_)
  dsimp only
  rw [if_pos (by decide +kernel)]
  refine ba ?_
  simp only [ES,ci,if_false]
  refine ac (len_tuple hl hz ?_)
  refine ac (EN (a:=some ((items.size:Nat):Int)) rfl ?_)
  dsimp only
  refine ac ?_
  show wpAny _ _ (newObj (.type "reversed") (.fields #[.ref l,rawInt ((items.size:Int) - 1)])) _ _ _
  refine mT ?_ (by size_fits)
  exact ba ⟨_,rfl,h _⟩
theorem oZ:Manifest.owners.lookup (String.ofList ['d','e','s','r','e','v','e','r'].reverse)=some Manifest.sig_reversed :=by kernel_rfl
theorem jh (a:am):argsOk "reversed.__next__" ⟨[a],[]⟩ :=by
 unfold argsOk;rw [Py (id := "reversed.__next__") (n:=['_','_','t','x','e','n','_','_']) (o:=['d','e','s','r','e','v','e','r']) (by kernel_rfl) oZ];kernel_rfl
theorem gS:Slot "reversed" "__iter__" "reversed.__iter__" :=
 .of (owner := "reversed") (n := "__iter__") (by rw [FM,ze];kernel_rfl) (by decide +kernel) (by decide +kernel) (by decide +kernel)
  (by first|exact .inl (by decide +kernel)|exact .inr (by decide +kernel)) (by rw [Is];kernel_rfl)
theorem pj (a:am):argsOk "reversed.__iter__" ⟨[a],[]⟩ :=by
 unfold argsOk;rw [Py (id := "reversed.__iter__") (n:=['_','_','r','e','t','i','_','_']) (o:=['d','e','s','r','e','v','e','r']) (by kernel_rfl) oZ];kernel_rfl
theorem so:entryFor table "reversed.__iter__" = some ma.«dict_keyiterator.__iter__»:=
 entryFor_alias (id' := "dict_keyiterator.__iter__") (by kernel_rfl) (by first|rfl|decide +kernel|(unfold String.splitOn;simp +decide [PK])) (by decide +kernel) (by kernel_rfl)
section
variable {P:gl} {w:ii} {A:l7} {E:am->ar->Prop} {s:ar}
theorem xK {l:ag} {items:Array am} {Q:am->ar->Prop} (hl:P3 s.heap l items) (hz:(items.size:Int)<2 ^ 63)
  (h:∀tk,Q (.ref s.heap.objs.size) {s with heap:=s.heap.push (zq l ((items.size:Int) - 1)),toks:=tk}):wpAny (model P w) A (call (.type "reversed") [.ref l]) Q E s:=
 callType_new mV (by decide) (F.typeCall_reversed_1 _) (F.newCall_reversed_1 _) (fun obj=>Pf obj _) F.entry_reversed_new (zt l items hz) ⟨hl,fun tk=>⟨⟨_,hX _ rfl,rfl⟩,h tk⟩⟩
theorem kX {it l:ag} {i:Int} {Q:am->ar->Prop} (hit:gR s.heap it l i) (h:Q (.ref it) s):wpAny (model P w) A (pyIter (.ref it)) Q E s :=by
 refine PL hit.typeIs gS (rb gS hit.typeIs so ?_ (pj _))
 show wpAny _ _ (ret (.ref it)) _ _ s
 exact ba ⟨_,rfl,"reversed",_,hit.typeIs,cj.lookup,h⟩
theorem lB {it l:ag} {i:Nat} {items:Array am} {x:am} {Q:Option am->ar->Prop} (hit:gR s.heap it l (i:Int)) (hl:P3 s.heap l items) (hz:(items.size:Int)<2 ^ 63) (hx:items[i]?=some x)
  (hQ:∀h' tk,gR h' it l ((i:Int) - 1)->ut it s.heap h'->Q (some x) {s with heap:=h',toks:=tk}):wpAny (model P w) A (pyNext (.ref it)) Q E s :=by
 obtain ⟨o,ho,hc,hd⟩:=id hit
 obtain ⟨ol,qt,iZ,nl,Aq⟩:=id hl
 have Mv:s.TypeIs (.ref l) "tuple" := ⟨ol,qt,iZ⟩
 have jK:=(Oe.mp hx).1
 unfold pyNext
 refine ac (Ch (on (name:=i4 "__next__") hit.typeIs cj
  (rb cj hit.typeIs gQ ?_ (jh _))))
 unfold ma.«reversed.__next__»
 refine ac (EN (a:=(lc it,[])) rfl ?_)
 try dsimp only
 refine ac (wp ho hd (x:=.ref l) rfl ?_)
 refine ac (wp ho hd (x:=rawInt (i:Int)) rfl ?_)
 show wpAny _ _ (if (i:Int)<0 then _ else _) _ _ s
 rw [if_neg (by omega)]
 refine ac (KB Mv F.slot_tuple_getitem.lookup ?_)
 simp only [Option.isNone_some,ci,if_false]
 refine ac (wpAny_mkInt ?_)
 have Mw:seqIndex? (i:Int) items.size=some i :=by
  unfold seqIndex?
  simp
  omega
 refine ac (Ch (getItem_tuple (j:=i) hl (by omega) (by omega) Mw hx ?_))
 dsimp only
 refine ac (wp ho hd (x:=rawInt (i:Int)) rfl ?_)
 refine ac (N8 ho hd (by simp) ?_)
 refine ba ⟨x,rfl,ba (hQ _ _ ?_ (xy ..))⟩
 exact ⟨_,v6 _ ho (JJ (xp hd _)),(OF ..).trans hc,by
  rw [xp hd];simp⟩
theorem mX {it l:ag} {Q:Option am->ar->Prop} (hh:A.handled=none) (hit:gR s.heap it l (-1))
  (hQ:∀h',Qg it s.heap h'->Q none {s with heap:=h'}):wpAny (model P w) A (pyNext (.ref it)) Q E s :=by
 obtain ⟨o,ho,hc,hd⟩:=id hit
 unfold pyNext
 refine ac (Ch (on (name:=i4 "__next__") hit.typeIs cj
  (rb cj hit.typeIs gQ ?_ (jh _))))
 unfold ma.«reversed.__next__»
 refine ac (EN (a:=(lc it,[])) rfl ?_)
 try dsimp only
 refine ac (wp ho hd (x:=.ref l) rfl ?_)
 refine ac (wp ho hd (x:=rawInt (-1)) rfl ?_)
 show wpAny _ _ (if (-1:Int)<0 then _ else _) _ _ s
 rw [if_pos (by decide)]
 refine ac (IF ?_)
 refine ac ?_
 show wpAny _ _ (setField (.ref it) 1 (rawInt (-1))>>=fun _=>setField (.ref it) 0 .none) _ _ _
 refine ac (N8 ho hd (by simp) ?_)
 have jn:=v6 (Pz (·.setIfInBounds 1 (rawInt (-1)))) ho (JJ (xp hd _))
 refine N8 jn (xp hd _) (by simp) ?_
 first
 |show wpAny _ _ (newExc (.type "StopIteration") []>>=_) _ _ _
 |(refine ac ?_;show wpAny _ _ (newExc (.type "StopIteration") []>>=_) _ _ _)
 refine ac ?_
 simp only [newExc,newTuple]
 refine ac (mT ?_ (by size_fits))
 refine ac (m:=firstArgMember _ _) (EN (a:=u7) (by first|rfl|(simp only [firstArgMember];rfl)) ?_)
 refine mT ?_ (by size_fits)
 simp only [raiseNew]
 refine ac (wpAny_handled ?_)
 first|rw [show A.in1.handled=none from hh]|rw [hh]
 refine ac (ba (wpAny_throw ?_))
 refine ac (Nd (T := "StopIteration") (b:=true) ⟨_,hX _ rfl,rfl⟩ isSubtype_stop ?_)
 refine ba (hQ _ fun b o hb e=>?_)
 exact bn _ (bn _ ((wr _ _ (fun z=>hb z.symm)).trans ((wr _ _ (fun z=>hb z.symm)).trans e)))
end
section
variable {X:Cx} {tg:dL}
def FU (K:bi) (a n:Nat):It where
 go i H:=∃xs,bp K H a xs/\xs.length=n/\i<n
 yld i H x H':=H'=H/\∀xs,bp K H a xs->xs.length=n->xs.reverse[i]?=some x
 stop i H:=n<=i
theorem xM {P:gl} {w:ii} {K:bi} {tg:dL} (a n:Nat) (it:ag):Turn P w K tg (FU K a n) [it] it (fun i h=>i<=n/\gR h it a ((n:Int) - 1 - (i:Int))) where
 mem :=by simp
 obj:=fun i h st b hb=>by
  have e:b=it :=by simpa using hb
  subst e
  obtain ⟨o,ho,hc,hd⟩:=st.2
  exact ⟨o,ho,fun v z=>by rw [hd] at z;cases z⟩
 keep:=fun i h h' st k=>⟨st.1,st.2.at fun o e=>k it (by simp) o e⟩
 item :=by
  intro X hP hw hK hc i pins s σ H E I hf st hg
  subst hP hw hK
  obtain ⟨xs,hq,hn,hi⟩:=hg
  obtain ⟨its,rv,p,hz⟩:=I.tuple hq
  have hl:=rv.length
  have hsz:sizeLine=16777216:=Fk
  obtain ⟨x,hx⟩:∃x,xs[n - 1 - i]?=some x:=⟨_,ap (by omega)⟩
  obtain ⟨u,hu,ru⟩:=rv.get hx
  obtain ⟨f0,f1,f2,f3,f4,f5⟩:=hf it (by simp)
  have hit:=st.2
  rw [show (n:Int) - 1 - (i:Int)=((n - 1 - i:Nat):Int) by omega] at hit
  refine lB hit p (by simp only [ce];omega) (x:=u) (by simpa using hu) fun h' FV fX sb=>?_
  have I1:Inv X pins σ H {s with heap:=h',toks:=FV}:=I.turned (t':=FV) (fun b o hb e=>(sb.2 b hb).trans e) f0 f1 f3 f4 f5
  obtain ⟨o,e,c,d⟩:=id fX
  refine ⟨u,rfl,pw (s:={s with heap:=h',toks:=FV}) e c d (by decide) ⟨_,H,I1,ru,⟨rfl,fun ys hy NF=>?_⟩,⟨hi,?_⟩,fun b hb=>(hf b hb).1⟩⟩
  ·rw [I.ji hy hq,zw (by omega),hn]
   exact hx
  ·rw [show (n:Int) - 1 - ((i+1:Nat):Int)=((n - 1 - i:Nat):Int) - 1 by omega]
   exact fX
 done :=by
  intro X hP hw hK hc i pins s σ H E I hf st hg
  subst hP hw hK
  have hi:i=n:=Nat.le_antisymm st.1 hg
  obtain ⟨f0,f1,f2,f3,f4,f5⟩:=hf it (by simp)
  have hit:=st.2
  rw [hi,show (n:Int) - 1 - (n:Int) = -1 by omega] at hit
  exact mX (I.ok.hd hc) hit fun h' eb=>⟨rfl,I.turned (t':=s.toks) (fun b o hb e=>eb b o hb e) f0 f1 f3 f4 f5⟩
 self:=fun _ _ _ _ _ st h=>kX st.2 h
def AY (K:bi) (ta:TA):TI:=fun σ H R=>ta σ H fun vs H1=>∃a xs,vs=[.ref a]/\bp K H1 a xs/\R (FU K a xs.length) H1
theorem Cy {a:dL} {ta:TA} {p pos:u4} (hg:Gl X "reversed") (hm:X.mg "reversed" = none) (ha:PA X [a] ta) (hs:starEach [a] X.env=[(false,eval a X.env)] :=by rfl):PI X tg (.Call (.Name "reversed" p) [a] [] pos) (AY X.K ta) :=by
 intro pins s σ H R I h
 refine Call_ (cU I hg hm boot_reversed (u8 (thn (ha pos pins s σ H _ I h) fun us s1 ⟨vs,H1,I1,r1,q1⟩=>?_) hs rfl))
 obtain ⟨l,xs,e,hq,q⟩:=q1
 subst e
 cases r1 with
 |cons r rr=>
  cases rr
  cases r
  obtain ⟨its,rv,pl,hz⟩:=I1.tuple hq
  have hl:=rv.length
  have hsz:sizeLine=16777216:=Fk
  refine xK pl (by simp only [ce];omega) fun tk=>?_
  have st:gR ({s1 with heap:=s1.heap.push (zq l ((its.toArray.size:Int) - 1)),toks:=tk}:ar).heap s1.heap.objs.size l ((its.toArray.size:Int) - 1):=⟨_,hX _ rfl,rfl,rfl⟩
  refine kX st ?_
  refine ⟨s1.heap.objs.size,[s1.heap.objs.size],_,_,H1,rfl,I1.kept (t':=tk) fun b o e=>bn _ e,xM l xs.length _,⟨l8 _,?_⟩,fun b hb=>?_,q⟩
  ·rw [show ((xs.length:Nat):Int) - 1 - ((0:Nat):Int)=(its.toArray.size:Int) - 1 by rw [ce,hl];omega]
   exact st
  ·have e:b=s1.heap.objs.size :=by simpa using hb
   subst e
   exact I1.jj (br _) (I1.hok.fresh (br _))
theorem zu {K:bi} (h:X.K=K) {a:dL} {ta:TA} {p pos:u4} (hg:Gl X "reversed") (hm:X.mg "reversed" = none) (ha:PA X [a] ta) (hs:starEach [a] X.env=[(false,eval a X.env)] :=by rfl):PI X tg (.Call (.Name "reversed" p) [a] [] pos) (AY K ta):=h▸Cy hg hm ha hs
end
section
variable {X:Cx} {Γ:Gz} {β:Bz} {K:bi} {tg:dL}
def ziRevT (za:du):fh:=fun ρ M R=>za ρ M fun es M1=>match es with | [.tup ds]=>R ds.reverse M1|_=>False
theorem Cz {a:dL} {za:du} {p pos:u4} (hK:X.K=K) (hg:Gl X "reversed") (hm:X.mg "reversed" = none) (ha:QA Γ X [a] za) (hs:starEach [a] X.env=[(false,eval a X.env)] :=by rfl):QI Γ X tg (.Call (.Name "reversed" p) [a] [] pos) (ziRevT za):=
 (zu hK hg hm ha hs).imp fun σ H R ⟨β,ρ,M,R',zr,h,q⟩=>⟨β,ρ,M,_,zr,h,fun es M1 vs H1 x1 rs h1=>by
  revert h1
  split
  ·rename_i ds
   intro h1
   obtain ⟨v,rfl,r⟩:=cZ rs
   obtain ⟨a,us,rfl,m,e,b8⟩:=bh r
   refine ⟨a,us,rfl,.inl (.inl e),q _ _ _ _ x1 ?_ h1⟩
   have rr:aG β M1 H1 us.reverse ds.reverse:=⟨by simp [b8.len],fun i v d a b=>by
    have hi:=(bv.mp a).1
    have fu:=(bv.mp b).1
    rw [xz] at hi fu
    rw [zw hi] at a
    rw [zw fu,<- b8.len] at b
    exact b8.at' _ v d a b⟩
   refine iL rr fun M' H' x i=>?_
   have hq:bp K H' a us:=.inl (.inl (x.get m.1 e rfl))
   rw [xz]
   exact ⟨fun hi=>⟨⟨us,hq,rfl,hi⟩,fun y jd ⟨e1,e2⟩=>⟨e1,e2 us hq rfl⟩⟩,fun hi=>hi⟩
  ·exact fun h=>h.elim⟩
end
theorem u5:typeLookup (.type "list_reverseiterator") "__len__" = pure none :=by rw [FM,ze];kernel_rfl
theorem zx:typeLookup (.type "list_reverseiterator") "__length_hint__" = pure (some (.builtin "list_reverseiterator.__length_hint__")) :=by rw [FM,ze];kernel_rfl
theorem rC:isSubtype (.type "list_reverseiterator") (.type "list_reverseiterator")=pure true :=by rw [Is];kernel_rfl
section
variable {P:gl} {w:ii} {A:l7} {E:am->ar->Prop} {s:ar}
theorem sr {a:ag} {Q:Bool->ar->Prop} (hT:s.TypeIs (.ref a) "list_reverseiterator") (h:Q false s):wpAny (model P w) A (IN (.ref a)) Q E s :=by
 unfold IN
 refine ac (KB hT u5 ?_)
 dsimp only
 show wpAny _ _ (if false=true then _ else _) _ _ s
 simp only [ci,if_false,Option.isSome_none]
 refine ac (KB hT zx ?_)
 have e:splitId "list_reverseiterator.__length_hint__" = some ("list_reverseiterator","__length_hint__") :=by kernel_rfl
 dsimp only
 rw [e]
 dsimp only
 refine ac (Nd hT rC ?_)
 simp only [ES,ci,if_false]
 show wpAny _ _ (if _=true then _ else _) _ _ s
 rw [if_pos (by kernel_rfl)]
 rw [if_neg (by decide)]
 exact ba h
theorem su {it l:ag} {items:Array am} {QL:List am->ar->Prop} (hh:A.handled=none) (hit:s.heap.IsRevIter it l ((items.size:Int) - 1)) (hl:s.heap.IsList l items) (c9:l≠it) (hz:items.size<=sizeLine)
  (hQ:∀us h' tk,us.length=items.size->(∀i,i<items.size->us[i]?=items[items.size - 1 - i]?)->(∀b o,b≠it->s.heap.get? b=some o->h'.get? b=some o)->QL us {s with heap:=h',toks:=tk}):wpAny (model P w) A (collect (.ref it)) QL E s :=by
 obtain ⟨oi,Mx,NI,NK⟩:=id hit
 have aX:it<s.heap.objs.size:=gc Mx
 have Kt:l<s.heap.objs.size:=let ⟨_,e,_⟩:=hl;gc e
 have wR:s.heap.objs.size≠it:=Mn aX
 unfold collect
 refine ac (wpAny_runValue (DD F.entry_proto_collect ?_))
 rw [Cs F.plain_proto_collect _]
 show wpAny _ A.in1 (newList []>>=fun l=>again (.builtin "list.__iadd__" ⟨[l,.ref it],[]⟩)) _ _ s
 refine ac (mT ?_)
 refine ba ⟨KT OG _,DD F.entry_list_iadd ?_⟩
 rw [Cs OG _]
 have kp:∀b o,s.heap.get? b=some o->(s.heap.push {cls:=.type "list",data:=.seq ([]:List am).toArray}).get? b=some o:=fun b o e=>bn _ e
 have k8:({s with heap:=s.heap.push {cls:=.type "list",data:=.seq ([]:List am).toArray}}:ar).heap.IsRevIter it l ((items.size:Int) - 1):=hit.at fun o e=>kp it o e
 have jy:({s with heap:=s.heap.push {cls:=.type "list",data:=.seq ([]:List am).toArray}}:ar).heap.IsList l items:=hl.at fun o e=>kp l o e
 show wpAny _ A.in1 (IR (.ref s.heap.objs.size) (.ref it) (.ref s.heap.objs.size)) _ _ _
 unfold IR
 refine ac (MW k8.typeIs ?_)
 have h1:No (.ref s.heap.objs.size) (.ref it)=false :=by simp [No,wR]
 have h2:(AM "list_reverseiterator" == AM "list")=false :=by decide
 have h3:(AM "list_reverseiterator" == AM "tuple")=false :=by decide
 simp only [h1,h2,h3,Bool.or_false,ci,if_false]
 refine ac (wpAny_pyIter_revIter k8 ?_)
 refine ac (wl (sr k8.typeIs ?_))
 show wpAny _ A.in1 (if _=true then _ else _) _ _ _
 rw [if_neg (by show ¬ (_=true);exact Bool.eq_false_iff.mp (by kernel_rfl))]
 show wpAny _ A.in1 (again (.builtin "list.extend.loop" ⟨[.ref s.heap.objs.size,.ref it,.ref s.heap.objs.size],[]⟩)) _ _ _
 have W:=(Walks.listRev (prog:=P) (w:=w) (A:=A.in1.in1) (by simp [hh]) it l c9 items).toS
 have Az:s.heap.objs.size ∉ [it,l] :=by
  simp only [lw,AN,or_false,not_or]
  exact ⟨wR,Mn Kt⟩
 refine ba ⟨KT F.plain_extend_loop _,codeAny_extend_loopS (W.of_in1) hz _ Az _ items.size 0 _ _ _ rfl (l8 _) ⟨l8 _,by simpa using k8,jy⟩ (hX _ rfl) (ItemsOf.nil _) fun s' di c' hm ja nB=>?_⟩
 show wpAny _ A (load s.heap.objs.size>>=_) _ _ s'
 refine ac (wpAny_load ja ?_)
 refine ba ?_
 obtain ⟨h2,g2,d2,Fd,os2⟩:=s'
 have eg:g2=s.gens:=hm.gens
 have ed:d2=s.drawn:=hm.drawn
 have eo:os2=s.os:=hm.os
 subst eg;subst ed;subst eo
 refine hQ _ h2 Fd (by rw [i0];exact nB.1) (fun i hi=>?_) fun b o hb e=>hm.heap b o ?_ (kp b o e)
 ·have Jf:i<di.size :=by rw [nB.1];exact hi
  have:=nB.2 i di[i] (qr Jf)
  have e3:di.toList[i]?=di[i]?:=by simp
  rw [e3,qr Jf]
  exact this.symm
 ·simp only [lw,AN,or_false,not_or]
  exact ⟨l6 (gc e),hb⟩
theorem jZ {Q₁:am->ar->Prop} {QL:List am->ar->Prop} {I:ag} (hT:s.TypeIs (.ref I) "list_reverseiterator")
  (W:wpAny (model P w) A.in1 (collect (.ref I)) QL E s) (hsz:∀us s',QL us s'->us.length<=sizeLine)
  (h:∀us s',QL us s'->Q₁ (.ref s'.heap.objs.size) {s' with heap:=s'.heap.push {cls:=.type "tuple",data:=.seq us.toArray}}) :
  codeAny (model P w) A (.call (.builtin "tuple.__new__") ⟨[.type "tuple",.ref I],[]⟩) (wants Q₁ E) s :=by
 refine Pa ?_
 show wpAny _ A.in1 (do checkBuiltinCall "tuple.__new__" ⟨[.type "tuple",.ref I],[]⟩;again (.builtin "tuple.__new__" ⟨[.type "tuple",.ref I],[]⟩)) _ _ s
 refine ac (EN (F.newCall_tuple_1 _) (ba ⟨KT F.plain_tuple_new _,DD F.entry_tuple_new ?_⟩))
 rw [Cs F.plain_tuple_new _]
 have ib:=sub_tuple_self
 have M6:=init_tuple_lookup
 have NM:=madeHere_tuple
 wp_walk using MW hT,mf W
 ·intro us s' hq
  show wpAny _ _ (Cf us.toArray>>=fun v=>ret v) _ _ _
  unfold Cf
  refine ac (mT ?_ (by show us.toArray.size<=sizeLine;rw [ce];exact hsz us s' hq))
  exact ba (h us s' hq)
 ·exact fun _ _ z=>z
end
theorem zy {xs:List V} {its us:List am} (r:Vals xs its) (hl:us.length=its.length) (h:∀i,i<its.length->us[i]?=its[its.length - 1 - i]?):Vals xs.reverse us :=by
 have e:us=its.reverse :=by
  refine GG fun i=>?_
  by_cases hi:i<its.length
  ·rw [h i hi,zw hi]
  ·rw [zn (by omega),zn (by rw [xz];omega)]
 subst e
 have t9:=r.length
 refine hZ (by rw [xz,xz];omega) fun i v ev=>?_
 have hi:=(bv.mp ev).1
 rw [xz] at hi
 rw [zw hi] at ev
 obtain ⟨u,eu,ru⟩:=r.get ev
 exact ⟨u,by rw [zw (by omega),<- t9];exact eu,ru⟩
section
variable {X:Cx} {Γ:Gz}
theorem sv {e:dL} {te:TE} {p p1 p2 pos:u4} (hc:X.calm=true) (hg:Gl X "tuple") (hm:X.mg "tuple" = none) (mj:Gl X "reversed") (qf:X.mg "reversed" = none) (he:PE X e te) (hs:starEach [e] X.env=[(false,eval e X.env)] :=by rfl) :
  PE X (.Call (.Name "tuple" p) [.Call (.Name "reversed" p1) [e] [] p2] [] pos) (fun σ H Q=>te σ H fun x H1=>∃a xs,x=.ref a/\bB X.K H1 a xs/\∀l,H1 l=none->Q (.ref l) (upd H1 l (.tup xs.reverse))) :=by
 refine ⟨?_⟩
 intro pins s σ H Q I h
 refine Cc (cU I hg hm gD ?_)
 refine u8 ?_ rfl rfl
 show wpAny _ _ (spliced ((false,eval (.Call (.Name "reversed" p1) [e] [] p2) X.env)::[])) _ _ s
 refine EU ?_
 refine Call_ (cU I mj qf boot_reversed (u8 ?_ hs rfl))
 rw [hs]
 refine EU (thn (he pins s σ H _ I h) fun v s1 ⟨x,H1,I1,r1,q1⟩=>Gc ?_)
 obtain ⟨l,xs,rfl,hq,q⟩:=q1
 cases r1
 obtain ⟨its,rv,pl,hz⟩:=I1.list hq
 have hl:=rv.length
 refine call_reversed_list pl.isList ?_
 refine Gc ?_
 have hh:=I1.ok.hd hc
 have aX:l<s1.heap.objs.size:=let ⟨_,e,_⟩:=pl.isList;gc e
 have I2:Inv X pins σ H1 {s1 with heap:=s1.heap.push (revObj l ((its.toArray.size:Int) - 1))}:=I1.kept (t':=s1.toks) fun b o e=>bn _ e
 have hit:({s1 with heap:=s1.heap.push (revObj l ((its.toArray.size:Int) - 1))}:ar).heap.IsRevIter s1.heap.objs.size l ((its.toArray.size:Int) - 1):=⟨_,hX _ rfl,rfl,rfl⟩
 have wO:({s1 with heap:=s1.heap.push (revObj l ((its.toArray.size:Int) - 1))}:ar).heap.IsList l its.toArray:=pl.isList.at fun o e=>bn _ e
 refine callType_codes (Q₁:=fun obj au=>au.TypeIs obj "tuple" /\ EP X pins σ Q obj au) F.called_tuple (F.typeCall_tuple_1 _) F.entry_object_init
  (jZ (QL:=fun us s'=>us.length<=sizeLine/\Inv X pins σ H1 s'/\Vals xs.reverse us) hit.typeIs
   (su (by simp [hh]) hit wO (l6 aX) (by simp only [ce];omega) fun us h' tk e1 e2 k=>?_) (fun us s' q=>q.1) fun us s' ⟨hl,I',rv⟩=>⟨⟨_,hX _ rfl,rfl⟩,?_⟩) fun obj au iF=>?_
 ·simp only [ce] at e1 e2
  refine ⟨by omega,I1.kept (t':=tk) fun b o e=>k b o (l6 (gc e)) (bn _ e),zy rv e1 fun i hi=>?_⟩
  rw [e2 i hi]
  simp
 ·have I3:Inv X pins σ (upd H1 s'.heap.objs.size (.tup xs.reverse)) {s' with heap:=s'.heap.push {cls:=.type "tuple",data:=.seq us.toArray}}:=
   I'.laid (t':=s'.toks) (fun b o e=>bn _ e) (br _) (show aZ X.prog X.w _ _ _ (.tup _) from ⟨by rw [rv.length];exact hl,us,rv,fR.new _ _⟩)
  exact ⟨.ref s'.heap.objs.size,_,I3,rfl,q _ (I'.hok.fresh (br _))⟩
 ·exact ⟨iF.1,Pf obj _,object_init_meets F.called_tuple.init.lookup F.called_tuple.made (by decide) X.prog X.w X.A.in1 _ au ⟨iF.1,rfl,iF.2⟩⟩
def zTupRev (po:aH):aH:=fun ρ M Q=>po ρ M fun d M1=>∃a ds,d=.ptr a/\M1 a=some (.lst ds)/\Q (.tup ds.reverse) M1
theorem sx {K:bi} {e:dL} {po:aH} {p p1 p2 pos:u4} (hK:X.K=K) (hc:X.calm=true) (hg:Gl X "tuple") (hm:X.mg "tuple" = none) (mj:Gl X "reversed") (qf:X.mg "reversed" = none) (he:QE Γ X e po) (hs:starEach [e] X.env=[(false,eval e X.env)] :=by rfl) :
  QE Γ X (.Call (.Name "tuple" p) [.Call (.Name "reversed" p1) [e] [] p2] [] pos) (zTupRev po):=
 (sv hc hg hm mj qf he hs).imp fun σ H Q ⟨β,ρ,M,Q',zr,h,q⟩=>⟨β,ρ,M,_,zr,h,fun d M1 v H1 x1 r1 h1=>by
  obtain ⟨a,ds,rfl,ha,h2⟩:=h1
  obtain ⟨rfl,_⟩:=bu r1
  obtain ⟨vs,hv,rs⟩:=x1.mz.obj a _ ha
  refine ⟨a,vs,rfl,bB.of hv,fun l hl=>?_⟩
  have m:=x1.mz
  have rr:aG (M:=M1) (H:=H1) β vs.reverse ds.reverse:=⟨by simp [rs.len],fun i v d a b=>by
   have hi:=(bv.mp a).1
   have fu:=(bv.mp b).1
   rw [xz] at hi fu
   rw [zw hi] at a
   rw [zw fu,<- rs.len] at b
   exact rs.at' _ v d a b⟩
  have x2:=Ex.lay m hl (.tup vs.reverse)
  exact q _ _ _ _ (x1.trans x2) (dn (m.fz hl) aE (rr.ex x2)) h2⟩
end
end L2
namespace L2
open PySem PySem.Spec PySem.W PyProof.Rows
theorem xN:bootBuiltins "divmod" = some (.builtin "divmod") :=by decide +kernel
section
variable {X:Cx} {Γ:Gz}
theorem CA:HS X .Mult (fun x y H Q=>∃i j:Int,x=.int i/\y=.int j/\m6 i j/\Q (.int (i * j)) H) :=by
 intro pins s σ H x y v u Q I r1 r2 h
 obtain ⟨i,j,e1,e2,hc,q⟩:=h
 subst e1;subst e2
 obtain ⟨t,rfl⟩:=r1
 obtain ⟨t',rfl⟩:=r2
 exact imul_int ⟨.int _,H,I.tok _,⟨_,rfl⟩,q⟩ hc.ok
def zAugM (i:Nat) (p:aH):bq:=fun D ρ M=>∃x:Int,ρ[i]?=some (some (.int x))/\p ρ M fun d M1=>∃y:Int,d=.int y/\m6 x y/\D.nx (ρ.set i (some (.int (x * y)))) M1
theorem CB {i:Nat} {x:cb} {e:dL} {pe:aH} {pos' pos:u4} (hN:X.N.Nodup) (hi:X.N[i]?=some x) (hx:Loc X.env.scope x) (he:QE Γ X e pe) (hf:X.fn x=true\/X.env.scope.names.lookup x=some .local :=by first|exact .inl rfl|exact .inr rfl|assumption) :
  QS Γ X (.AugAssign (.Name x pos') .Mult e pos) (zAugM i pe):=(Dq hN hi hx he CA hf).imp fun D σ H h=>by
 obtain ⟨β,ρ,M,D',zr,⟨x,hx,h⟩,r⟩:=h
 obtain ⟨v,hv,rv⟩:=zr.at' i _ hx
 have:=aC rv
 subst this
 refine ⟨_,hv,β,ρ,M,_,zr,h,fun d M1 v H1 x1 r1 h1=>?_⟩
 obtain ⟨y,rfl,hc,hn⟩:=h1
 have:=aC r1
 subst this
 exact ⟨_,_,rfl,rfl,hc,r.nx _ _ _ _ x1.ev ((zr.step x1).set i (.int _)) hn⟩
end
end L2
open PySem L2 PyProof.Rows
local macro_rules | `(tactic| simp! only [$xs,*] $[$l]?)=>`(tactic| simp only [zVar,zC,zOp,zII,zIC,zEq,zNe,scalZ,zIsN,isNonD,zSS,zTest,zBool,zChain,zOr,zNot,zAndV,zNotV,zNil,zCons,zTup,zLst,zLstP,zCB,z1,zLenD,z2I,zAbs,zDivmod,zTuple,itemsM,zIsInst,isD,zBM,tyZ,zAppend,zPop,zPopAt,zSetI,zgSub,zNext,zSeq,zDrop,zRet,zIfS,zgName,zgNil,zgCons,zgTup,zAsg,zFor,zForM,zComp,zCompP,zAll,zBlock,zCall,zTry,zRaise,zIsE,zstart,zEndsOf,ziTup,ziLst,ziRng1,ziEnumK,zoNone,zoSome,zSl,zSlT,zIx,zRangeP,zNeg,zCatT,zNoIf,zIxS,zRepP,zStrI,zSetNew,zAddT,zSortTS,ziRevT,zTupRev,zAugM,List.getElem?_cons_zero,Da,wP,O8,NS,List.cons_append,B0,P6,wb,List.replicate_zero,List.set_cons_zero,List.set_cons_succ,P0,Nat.reduceAdd,Nat.reduceSub,Nat.sub_self,Nat.zero_add,if_true,if_false,ci,ES,Pr,true_and,and_true,beq_self_eq_true,String.reduceBEq,zLoop,c8,On,updM_same,updM_updM,Do,P1,zd,rangeD_len,pairsD_len,numD_len,Pd,atI_zero,decide_true,decide_false,Bool.not_eq_true,bne_self_eq_false,$xs,*] $[$l]?)
local macro_rules | `(tactic| dsimp! only [$xs,*] $[$l]?)=>`(tactic| simp only [zVar,zC,zOp,zII,zIC,zEq,zNe,scalZ,zIsN,isNonD,zSS,zTest,zBool,zChain,zOr,zNot,zAndV,zNotV,zNil,zCons,zTup,zLst,zLstP,zCB,z1,zLenD,z2I,zAbs,zDivmod,zTuple,itemsM,zIsInst,isD,zBM,tyZ,zAppend,zPop,zPopAt,zSetI,zgSub,zNext,zSeq,zDrop,zRet,zIfS,zgName,zgNil,zgCons,zgTup,zAsg,zFor,zForM,zComp,zCompP,zAll,zBlock,zCall,zTry,zRaise,zIsE,zstart,zEndsOf,ziTup,ziLst,ziRng1,ziEnumK,zoNone,zoSome,zSl,zSlT,zIx,zRangeP,zNeg,zCatT,zNoIf,zIxS,zRepP,zStrI,zSetNew,zAddT,zSortTS,ziRevT,zTupRev,zAugM,List.getElem?_cons_zero,Da,wP,O8,NS,List.cons_append,B0,P6,wb,List.replicate_zero,List.set_cons_zero,List.set_cons_succ,P0,Nat.reduceAdd,Nat.reduceSub,Nat.sub_self,Nat.zero_add,if_true,if_false,ci,ES,Pr,true_and,and_true,beq_self_eq_true,String.reduceBEq,c8,On,updM_same,updM_updM,Do,P1,zd,rangeD_len,pairsD_len,numD_len,Pd,atI_zero,decide_true,decide_false,Bool.not_eq_true,bne_self_eq_false,$xs,*] $[$l]?)
namespace My
open PySem L2 PyProof.Rows
def top (i:Nat):r9:=PySem.Challenge.pw_roadcall_k11_no_signings_number.main.body.getD i (.Pass ⟨0,0,0,0⟩)
abbrev dD:r9:=top 11
abbrev bL:r9:=top 12
abbrev gT:r9:=top 15
abbrev gU:r9:=top 16
abbrev gj:r9:=top 17
abbrev b9:r9:=top 19
abbrev fo:r9:=top 20
abbrev hU:r9:=top 21
abbrev gk:r9:=top 23
abbrev c0:r9:=top 24
abbrev fq:r9:=top 25
abbrev cS:r9:=top 26
abbrev dE:r9:=top 27
abbrev u6:r9:=top 28
section
variable {P:gl} {w:ii} {K:bi} {mg:cb->Option am} {base:ij} {tb:d9} {k:Nat} {f:ag} {fd:nw} {ps:List cb}
theorem cB:a9 ["_law_script","_law_at","_law_cell","_law_mix","_law_k"] ["_law_script","_law_at"] (aw gk):=⟨rfl,rfl,rfl,by decide +kernel,rfl,by decide +kernel,by decide +kernel⟩
theorem cL:a9 ["_law_bag_here","_law_many","_law_digit","_law_number","_law_room"] ["_law_bag_here","_law_many"] (aw c0):=⟨rfl,rfl,rfl,by decide +kernel,rfl,by decide +kernel,by decide +kernel⟩
theorem eG:a9 ["_law_bag_here","_law_many","_law_rest","_law_found","_law_k"] ["_law_bag_here","_law_many"] (aw fq):=⟨rfl,rfl,rfl,by decide +kernel,rfl,by decide +kernel,by decide +kernel⟩
theorem aU:a9 ["_law_bag_here","_law_most","_law_many","_law_fans","_law_kind","_law_lap","_law_order_here","_law_rows","_law_k","_law_goals","_law_fan"] ["_law_bag_here","_law_most"] (aw cS):=⟨rfl,rfl,rfl,by decide +kernel,rfl,by decide +kernel,by decide +kernel⟩
def FW:eA:=fun ds M Q _=>∃(ns:List Int) (t:Int),ds=[.bc ns,.int t]/\ns.length<=63/\0<=t/\t<=63/\∀b,M b=none->Q (.ptr b) (ay M b .cy)
def AZ:eA:=fun ds M Q _=>∃(ns:List Int) (t:Int),ds=[.bc ns,.int t]/\ns.length<=63/\0<=t/\t<=63/\∀b c m,M b=none->0<=c->0<=m->Q (.ptr b) (ay M b (.lst [.int c,.int m]))
theorem u9 (D:Df K mg "_law_bag" gk ["_law_script","_law_at"] f fd) (bl:Bl mg):FnOk P w K mg base bC 1 f fd ["_law_script","_law_at"] (bj P w K tb AZ) :=by
 refine fV D cB (fun ds M Q E hS=>by obtain ⟨ns,t,e,_⟩:=hS;rw [e];rfl) fun A outer s E Γ ds Q' E' hP hw hK ht hr hS=>?_
 obtain ⟨ns,t,e,hl,t0,t1,q⟩:=hS
 refine ⟨_,(ah (aQ (i:=2) cB.nd rfl (mo rfl) ao)
  (ah (cF (cJ uS (qv 1) (aK (fH (K:=K) rfl hK) rfl bl.len_ CS (aa (qv 0) ae)) (de _))
   (aq (aQ (i:=2) cB.nd rfl (mo rfl) (aK Hg rfl bl.abs_ Ep (aa (cn (AR (K:=K) rfl hK) (qv 0) (qv 1) (fun _ _=>rfl)) ae))))
   qss_nil)
  (ah (aQ (i:=3) cB.nd rfl (mo rfl) (aI eF (aI iN ao (qv 1)) ao))
  (ah (cg tw rfl (cz rfl bl.range_ (aa (aK (qR rfl) rfl bl.min_ qg (aa (aK (fH (K:=K) rfl hK) rfl bl.len_ CS (aa (qv 0) ae)) (aa ao ae))) ae)) (fun gV eP ew eK et=>by have hP:=hP.trans eP.symm;have hw:=hw.trans ew.symm;have hK:=hK.trans eK.symm;have ht:=ht.trans et.symm;exact ⟨(aS (i:=4) cB.nd rfl (mo rfl)),(aq (aQ (i:=3) cB.nd rfl (mo rfl) (aI g7 (aI eF (aI eF (aI iN (qv 3) ao) (aI g7 (cn (AR (K:=K) rfl hK) (qv 0) (qv 4) (fun _ _=>rfl)) ao)) (qv 4)) ao)))⟩))
  (ah (cF (cJ uS (qv 2) (aI AG ao ao) (de _))
   (aq (aQ (i:=2) cB.nd rfl (mo rfl) ao))
   qss_nil)
  (aq (a7 (kj (aa (qv 2) (aa (qv 3) ae)))))))))),?_⟩
 subst e
 refine Hk (fun ρ M=>M=Γ.M0/\∃c m x:Int,∃x4,0<=c/\0<=m/\ρ=[some (.bc ns),some (.int t),some (.int c),some (.int m),x4]) (fun N hN=>?_) ?_
 ·refine Hi (fun ρ M=>M=Γ.M0/\∃c:Int,0<=c/\ρ=[some (.bc ns),some (.int t),some (.int c),none,none]) (fun N hN=>?_) ?_
  ·simp! only []
   refine f6 (fun h=>?_) (fun _=>hN _ _ ⟨rfl,0,by omega,rfl⟩)
   have ht:t<(ns.length:Int):=of_decide_eq_true h
   obtain ⟨k,rfl⟩:=OD t0
   rw [xk (show k<ns.length by omega)]
   exact hN _ _ ⟨rfl,_,by split <;> omega,rfl⟩
  rintro ρ M ⟨rfl,c,hc,rfl⟩
  simp! only []
  refine ⟨.inl ⟨by decide,by decide⟩,by split <;> omega,by split <;> omega,?_⟩
  refine bJ (fun i ρ M=>M=Γ.M0/\∃m:Int,∃x4,0<=m/\ρ=[some (.bc ns),some (.int t),some (.int c),some (.int m),x4]) ⟨rfl,_,_,by omega,rfl⟩ (fun i d ρ M N2 hd hJ j1=>?_) (fun ρ M hJ=>?_)
  ·obtain ⟨rfl,m,x4,hm,rfl⟩:=hJ
   obtain ⟨rfl,hi⟩:=cO hd
   have hi:i<ns.length :=by split at hi <;> omega
   simp! only [xk hi]
   exact ⟨.inr ⟨by decide,by decide⟩,by decide,by decide,j1 _ _ ⟨rfl,_,_,Oo _ (by decide),rfl⟩⟩
  ·obtain ⟨rfl,m,x4,hm,rfl⟩:=hJ
   exact hN _ _ ⟨rfl,c,m,0,x4,hc,hm,rfl⟩
 ·rintro ρ M ⟨rfl,c,m,x,x4,hc,hm,rfl⟩
  simp! only []
  exact ⟨⟨by decide,by decide,by decide⟩,f6 (fun _=>⟨by decide,fun a ha=>.inl (q a 0 m ha (by omega) hm)⟩) (fun _=>⟨by decide,fun a ha=>.inl (q a c m ha hc hm)⟩)⟩
theorem Ho (G:FnOk P w K mg base bC k f fd ps (bj P w K tb AZ)):FnOk P w K mg base bC k f fd ps (bj P w K tb FW):=G.imp fun vs H Q E hS=>by
 obtain ⟨β,ds,M,Q',E',eP,ew,eK,et,m,rs,⟨ns,t,e,h1,h2,h3,h⟩,q,qe⟩:=hS
 refine ⟨β,ds,M,fun d M'=>∃b c m,d=.ptr b/\M b=none/\0<=c/\0<=m/\M'=ay M b (.lst [.int c,.int m]),fun _ _=>False,eP,ew,eK,et,m,rs,⟨ns,t,e,h1,h2,h3,fun b c m h4 h5 h6=>⟨b,c,m,rfl,h4,h5,h6,rfl⟩⟩,fun d M' v H' x r hQ=>?_,fun _ _ _ _ h=>h.elim⟩
 obtain ⟨b,c,m',rfl,hb,hc,hm,rfl⟩:=hQ
 have hB:=xu x.mz hc hm
 exact q _ _ _ _ (Ex.sealed hb x hB) (r.dom (gq M b _ _)) (h b hb)
def pH:eA:=fun ds M Q _=>∃(b:ag) (n:Int),ds=[.ptr b,.int n]/\M b=some .cy/\1<=n/\n<10000000000000000000000000000000/\∀d:Nat,(d:Int)<n->Q (.int (d:Nat)) M
def xO:eA:=fun ds M Q _=>∃(b:ag) (n c m:Int),ds=[.ptr b,.int n]/\M b=some (.lst [.int c,.int m])/\0<=c/\0<=m/\1<=n/\n<10000000000000000000000000000000/\∀(d:Nat) (c m:Int),(d:Int)<n->0<=c->0<=m->Q (.int (d:Nat)) (ay M b (.lst [.int c,.int m]))
theorem FX {n:Int} (h1:1<=n) (h2:n<10000000000000000000000000000000):n.natAbs.log2<9000:=
 l5 ((Nat.log2_lt (k:=200) (by omega)).mpr (by omega)) (by decide)
theorem sy (D:Df K mg "_law_take" c0 ["_law_bag_here","_law_many"] f fd):FnOk P w K mg base bC 1 f fd ["_law_bag_here","_law_many"] (bj P w K tb xO) :=by
 refine fV D cL (fun ds M Q E hS=>by obtain ⟨b,n,c,m,e,_⟩:=hS;rw [e];rfl) fun A outer s E Γ ds Q' E' hP hw hK ht hr hS=>?_
 obtain ⟨b,n,c,m,e,hb,hc,hm,n1,n2,q⟩:=hS
 refine ⟨_,(ah (cF (cJ Ft (cn (dX (K:=K) rfl) (qv 0) ao (fun _ _=>rfl)) ao (de _))
   (ah (aQ (i:=2) cL.nd rfl (mo rfl) (aI g7 (cn (dX (K:=K) rfl) (qv 0) ao (fun _ _=>rfl)) (qv 1)))
  (ah (iA (aI t6 (cn (dX (K:=K) rfl) (qv 0) ao (fun _ _=>rfl)) (qv 1)) (jT (qv 0) ao))
  (aq (a7 (qv 2)))))
   qss_nil)
  (ah (aQ (i:=3) cL.nd rfl (mo rfl) ao)
  (ah (aQ (i:=4) cL.nd rfl (mo rfl) ao)
  (ah (y9 tw (cJ uS (qv 4) (qv 1) (de _))
   (ah (iA (aI g7 (aI eF (aI iN (cn (dX (K:=K) rfl) (qv 0) ao (fun _ _=>rfl)) ao) ao) ao) (jT (qv 0) ao))
  (ah (aQ (i:=3) cL.nd rfl (mo rfl) (aI eF (aI iN (qv 3) ao) (aI g7 (aI iN (aI t6 (cn (dX (K:=K) rfl) (qv 0) ao (fun _ _=>rfl)) ao) ao) ao)))
  (aq (aQ (i:=4) cL.nd rfl (mo rfl) (aI iN (qv 4) ao))))))
  (aq (a7 (aI g7 (qv 3) (qv 1)))))))),?_⟩
 subst e
 have MA:∀x y:Int,cu [Dv.int x,Dv.int y] 1=some (.int y):=fun x y=>cY (j:=1) rfl
 have MB:fb 2 0=some 0:=rfl
 have MC:fb 2 1=some 1:=rfl
 have fin:∀{i c m:Int} {M:Mh},0<=c->0<=m->M=ay Γ.M0 b (.lst [.int c,.int m])->jU Γ.M0 Q' (.int (i % n)) M:=fun {i c m M} hc hm e=>by
  obtain ⟨d,hd⟩:=OD (Oo i (show n≠0 by omega))
  have:=Int.emod_lt_of_pos i (show 0<n by omega)
  rw [hd,e]
  exact .inl (q d c m (by omega) hc hm)
 simp! only [hb,MB]
 refine f6 (fun h=>?_) (fun h=>?_)
 ·refine ⟨by omega,⟨by omega,FX n1 n2⟩,fin (Int.ediv_nonneg hc (by omega)) hm rfl⟩
 ·refine ⟨fun k ρ M=>∃num room c m x2,0<=num/\1<=room/\0<=c/\0<=m/\k=(n - room).toNat/\ρ=[some (.ptr b),some (.int n),x2,some (.int num),some (.int room)]/\M=ay Γ.M0 b (.lst [.int c,.int m]),⟨_,0,1,c,m,_,by omega,by omega,hc,hm,rfl,rfl,(t5 hb).symm⟩,?_⟩
  rintro k ρ M ⟨num,room,c,m,x2,h1,h2,hc,hm,rfl,rfl,rfl⟩
  simp! only [MA,MC,updM_same]
  refine f6 (fun h=>?_) (fun h=>⟨by omega,fin hc hm rfl⟩)
  have h:=of_decide_eq_true h
  have m3:0<=(m * 48271+7919) % 2147483647:=Oo _ (by decide)
  have n3:0<=(m * 48271+7919) % 2147483647 / 8 * 69621 % 1073741789:=Oo _ (by decide)
  refine ⟨.inr ⟨by decide,by decide⟩,by decide,.inr ⟨by decide,by decide⟩,⟨by decide,by decide⟩,.inr ⟨by decide,by decide⟩,by decide,.inr ⟨by decide,by decide⟩,_,?_,_,_,c,_,_,?_,?_,hc,m3,rfl,rfl,rfl⟩ <;> omega
theorem FY (G:FnOk P w K mg base bC k f fd ps (bj P w K tb xO)):FnOk P w K mg base bC k f fd ps (bj P w K tb pH):=G.imp fun vs H Q E hS=>by
 obtain ⟨β,ds,M,Q',E',eP,ew,eK,et,m,rs,⟨b,n,e,hb,h1,h2,h⟩,q,qe⟩:=hS
 have eM:=t5 hb
 have d1:∀o a,(M a).isSome=(ay M b o a).isSome:=fun o a=>by have:=gq M b .cy o a;rwa [eM] at this
 rw [<- eM] at m
 obtain ⟨c,m0,hc,hm,hO⟩:=FL m
 refine ⟨β,ds,ay M b (.lst [.int c,.int m0]),fun d M'=>∃(k:Nat) (c' m':Int),d=.int (k:Nat)/\(k:Int)<n/\0<=c'/\0<=m'/\M'=ay M b (.lst [.int c',.int m']),fun _ _=>False,eP,ew,eK,et,m.chg hO,⟨rs.len,fun i v d x y=>(rs.at' i v d x y).dom (d1 _)⟩,⟨b,n,c,m0,e,updM_same,hc,hm,h1,h2,fun d c' m' h3 h4 h5=>⟨d,c',m',rfl,h3,h4,h5,updM_updM⟩⟩,fun d M' v H' x r hQ=>?_,fun _ _ _ _ h=>h.elim⟩
 obtain ⟨k,c',m',rfl,hk,z5,wc,rfl⟩:=hQ
 have hB:=xu x.mz z5 wc
 have x2:=Ex.chg (o2:=.cy) x hB
 rw [eM] at x2
 exact q _ _ _ _ x2 (r.dom fun a=>(d1 _ a).symm) (h k hk)
theorem o3 {α β:Type} (f:α->β):∀(l:List α) (i:Nat),(l.map f).eraseIdx i=(l.eraseIdx i).map f
 | [],_=>rfl
 |_::_,0=>rfl
 |a::l,i+1=>by
          show f a::(l.map f).eraseIdx i=f a::(l.eraseIdx i).map f
          rw [o3 f l i]
theorem dA {α:Type}:∀(l:List α) (i:Nat) (h:i<l.length),(l[i]::l.eraseIdx i).Perm l
 |a::l,0,_=>.refl _
 |a::l,i+1,h=>by
          have h':i<l.length :=by simpa using h
          show (l[i]::a::l.eraseIdx i).Perm (a::l)
          exact (NU.swap a l[i] _).trans ((dA l i h').cons a)
structure cc (n:Nat) (os:List Int):Prop where
 perm:os.Perm ((io n).map fun i:Nat=>(i:Int))
theorem cc.len {n:Nat} {os:List Int} (h:cc n os):os.length=n :=by
 have:=h.perm.length_eq
 simpa using this
theorem cc.mem {n:Nat} {os:List Int} (h:cc n os) {x:Int} (hx:x∈os):0<=x/\x<n :=by
 have:=h.perm.mem_iff.mp hx
 obtain ⟨i,hi,rfl⟩:=l9.mp this
 have:=sw.mp hi
 omega
theorem cc.at {n:Nat} {os:List Int} (h:cc n os) {i:Nat} (hi:i<n):∃x:Int,cu (os.map Dv.int) (i:Int)=some (.int x)/\0<=x/\x<n :=by
 have hl:i<os.length :=by rw [h.len];exact hi
 exact ⟨os[i],cY (by rw [cr,ap hl];rfl),h.mem (Nl hl)⟩
def xP:eA:=fun ds M Q _=>∃(b:ag) (n:Nat),ds=[.ptr b,.int (n:Nat)]/\M b=some .cy/\n<=100/\∀os,cc n os->Q (jV os) M
def A0:eA:=fun ds M Q _=>∃(b:ag) (most:Nat),ds=[.ptr b,.int (most:Nat)]/\M b=some .cy/\1<=most/\most<=9/\∀aA n,iG aA n->aA.length<=most->Q (eN aA) M
theorem CC {n d:Nat} (h:d<n):seqIndex? (d:Int) n=some d:=(m7 (n:=n) (i:=(d:Int)) (j:=d) (by unfold fb;rw [if_pos (by omega),if_pos (by omega)];rfl)).1
theorem rD {f1:ag} {cP:nw} (D:Df K mg "_law_order" fq ["_law_bag_here","_law_many"] f fd)
  (ak:Df K mg "_law_take" c0 ["_law_bag_here","_law_many"] f1 cP) (bo:FnOk P w K mg base bC 1 f1 cP ["_law_bag_here","_law_many"] (bj P w K tb pH)) (bl:Bl mg):FnOk P w K mg base bC 2 f fd ["_law_bag_here","_law_many"] (bj P w K tb xP) :=by
 refine fV D eG (fun ds M Q E hS=>by obtain ⟨b,n,e,_⟩:=hS;rw [e];rfl) fun A outer s E Γ ds Q' E' hP hw hK ht hr hS=>?_
 obtain ⟨b,n,e,hb,hn,q⟩:=hS
 refine ⟨_,(ah (aQ (i:=2) eG.nd rfl (mo rfl) (pf rfl rfl bl.list_ rfl bl.range_ (qv 1)))
  (ah (aQ (i:=3) eG.nd rfl (mo rfl) (kj ae))
  (ah (cg tw rfl (cz rfl bl.range_ (aa (qv 1) ae)) (fun gV eP ew eK et=>by have hP:=hP.trans eP.symm;have hw:=hw.trans ew.symm;have hK:=hK.trans eK.symm;have ht:=ht.trans et.symm;exact ⟨(aS (i:=4) eG.nd rfl (mo rfl)),(aq (fx (pF (K:=K) rfl NO Ow Ox lx (qv 3) (aa (pF (K:=K) rfl NO PySem.F.slot_list_pop PySem.F.type_list_pop Ci (qv 2) (aa (aN bo (hr.mono (by decide)) rfl ak.mg ak.fn.kp ak.bd bz hP hw hK ht XR.none (aa (qv 0) (aa (aK (fH (K:=K) rfl hK) rfl bl.len_ CS (aa (qv 2) ae)) ae))) ae)) ae))))⟩))
  (aq (a7 (qv 3)))))),?_⟩
 subst e
 have big:(1000:Nat)<sizeLine :=by decide
 simp! only []
 refine ⟨by omega,by omega,fun a ha=>⟨by omega,fun c hc=>⟨by omega,by omega,?_⟩⟩⟩
 have A1:c≠a:=fun z=>by rw [z,updM_same] at hc;cases hc
 have FZ:Γ.M0 c=none :=by rw [ai A1] at hc;exact hc
 have MD:b≠a:=fun z=>by rw [z,ha] at hb;cases hb
 have ME:b≠c:=fun z=>by rw [z,FZ] at hb;cases hb
 refine bJ (fun i ρ M=>∃rest got:List Int,(∃x,ρ=[some (.ptr b),some (.int (n:Nat)),some (.ptr a),some (.ptr c),x])/\M a=some (.lst (rest.map .int))/\M c=some (.lst (got.map .int))/\(∀d,d≠a->d≠c->M d=Γ.M0 d)/\got.length=i/\(got++rest).Perm ((io n).map fun i:Nat=>(i:Int)))
  ⟨(io n).map fun i:Nat=>(i:Int),[],⟨_,rfl⟩,by rw [ai (BN A1),updM_same,gN,Oa];rfl,updM_same,fun d h1 h2=>by rw [ai h2,ai h1],rfl,.refl _⟩ (fun i d ρ M N hd hJ hN=>?_) (fun ρ M hJ=>?_)
 ·obtain ⟨rest,got,⟨x,rfl⟩,F0,A6,A7,hg,pm⟩:=hJ
  obtain ⟨rfl,hi⟩:=cO hd
  have hlen:got.length+rest.length=n :=by have:=pm.length_eq;simpa using this
  simp! only [F0,A6]
  refine ⟨b,_,rfl,(by rw [A7 b MD ME];exact hb),by omega,by omega,fun d hd=>?_⟩
  have oO:d<rest.length :=by omega
  simp only [F0,c8,CC oO,cr,ap oO,NT,ai A1,A6]
  refine ⟨by omega,by omega,by omega,hN _ _ ⟨rest.eraseIdx d,got++[rest[d]],⟨_,rfl⟩,by rw [ai (BN A1),updM_same,o3],by rw [updM_same,AE];rfl,fun e h1 h2=>by rw [ai h2,ai h1];exact A7 e h1 h2,by simp [hg],?_⟩⟩
  refine NU.trans ?_ pm
  rw [GE]
  exact NU.append_left got (dA rest d oO)
 ·obtain ⟨rest,got,⟨x,rfl⟩,F0,A6,A7,hg,pm⟩:=hJ
  rw [rangeD_len] at hg
  have hlen:got.length+rest.length=n :=by have:=pm.length_eq;simpa using this
  have AX:rest=[]:=BY (by omega)
  rw [AX,Do] at pm
  exact xl (fun d o e=>by rw [A7 d (fun z=>by rw [z,ha] at e;cases e) (fun z=>by rw [z,FZ] at e;cases e)];exact e) FZ A6 (gO _) (q got ⟨pm⟩)
end
section
variable {P:gl} {w:ii} {K:bi} {mg:cb->Option am} {base:ij} {tb:d9}
def gm (n ways:Nat) (row:List Int):Prop:=row.length=ways/\∀x∈row,0<=x/\x<(n:Int)
structure dF (M0 M:Mh) (r:ag) (as:List ag) (n ways:Nat):Prop where
 kp:Keeps M0 M
 r0:M0 r=none
 rm:M r=some (.lst (as.map .ptr))
 fr:∀a∈as,M0 a=none/\a≠r
 len:as.length=n
 row:∀a∈as,∃row:List Int,M a=some (.lst (row.map .int))/\gm n ways row
 pin:∀b o,M b=some o->M0 b=some o\/b=r\/(∃row:List Int,o=.lst (row.map .int))\/∃bs:List ag,o=.lst (bs.map .ptr)/\∀c∈bs,c≠r/\∃o,M c=some o
theorem dF.qj {M0 M:Mh} {r:ag} {as:List ag} {n ways:Nat} (h:dF M0 M r as n ways) {a:ag} (ha:a∈as) {row:List Int} (o:gm n ways row):dF M0 (ay M a (.lst (row.map .int))) r as n ways :=by
 obtain ⟨f0,f1⟩:=h.fr a ha
 refine ⟨.upd f0 h.kp,h.r0,by rw [ai (BN f1)];exact h.rm,h.fr,h.len,fun c hc=>?_,fun b u e=>?_⟩
 ·by_cases z:c=a
  ·subst z;exact ⟨row,updM_same,o⟩
  ·rw [ai z];exact h.row c hc
 ·by_cases z:b=a
  ·subst z;rw [updM_same] at e;cases e;exact .inr (.inr (.inl ⟨row,rfl⟩))
  ·rw [ai z] at e
   rcases h.pin b u e with q|q|q|⟨bs,q1,q2⟩
   ·exact .inl q
   ·exact .inr (.inl q)
   ·exact .inr (.inr (.inl q))
   ·refine .inr (.inr (.inr ⟨bs,q1,fun c hc=>⟨(q2 c hc).1,?_⟩⟩))
    by_cases z:c=a
    ·subst z;exact ⟨_,updM_same⟩
    ·rw [ai z];exact (q2 c hc).2
theorem dF.put {M0 M:Mh} {r:ag} {as:List ag} {n ways:Nat} (h:dF M0 M r as n ways) {a:ag} (ha:M a=none) {row:List Int} (o:gm n ways row) {i:Nat} (hi:i<n):dF M0 (ay (ay M a (.lst (row.map .int))) r (.lst ((as.map .ptr).set i (.ptr a)))) r (as.set i a) n ways :=by
 have nr:a≠r:=fun z=>by rw [z,h.rm] at ha;cases ha
 have a0:M0 a=none :=by
  cases e:M0 a with
  |none=>rfl
  |some u=>rw [h.kp a u e] at ha;cases ha
 have MF:a ∉ as:=fun z=>by obtain ⟨row,e,_⟩:=h.row a z;rw [ha] at e;cases e
 refine ⟨.upd h.r0 (.upd a0 h.kp),h.r0,by rw [updM_same,List.map_set],fun c hc=>?_,by rw [On];exact h.len,fun c hc=>?_,fun b u e=>?_⟩
 ·rcases Op hc with z|z
  ·exact h.fr c z
  ·rw [z];exact ⟨a0,nr⟩
 ·rcases Op hc with z|z
  ·have n1:=(h.fr c z).2
   have n2:c≠a:=fun e=>MF (e▸z)
   rw [ai n1,ai n2];exact h.row c z
  ·rw [z,ai nr,updM_same];exact ⟨row,rfl,o⟩
 ·by_cases z:b=r
  ·exact .inr (.inl z)
  ·rw [ai z] at e
   by_cases z2:b=a
   ·subst z2;rw [updM_same] at e;cases e;exact .inr (.inr (.inl ⟨row,rfl⟩))
   ·rw [ai z2] at e
    rcases h.pin b u e with q|q|q|⟨bs,q1,q2⟩
    ·exact .inl q
    ·exact .inr (.inl q)
    ·exact .inr (.inr (.inl q))
    ·refine .inr (.inr (.inr ⟨bs,q1,fun c hc=>⟨(q2 c hc).1,?_⟩⟩))
     rw [ai (q2 c hc).1]
     by_cases z:c=a
     ·subst z;exact ⟨_,updM_same⟩
     ·rw [ai z];exact (q2 c hc).2
structure lC (M0 M:Mh):Prop where
 kp:Keeps M0 M
 pin:∀b o,M b=some o->M0 b=some o\/(∃row:List Int,o=.lst (row.map .int))\/∃bs:List ag,o=.lst (bs.map .ptr)/\∀c∈bs,∃o,M c=some o
theorem lC.refl {M0:Mh}:lC M0 M0:=⟨.refl,fun b o e=>.inl e⟩
theorem gp {M0 M:Mh} (h:Keeps M0 M) {a:ag} (ha:M a=none):M0 a=none :=by
 cases e:M0 a with
 |none=>rfl
 |some u=>rw [h a u e] at ha;cases ha
theorem lC.row {M0 M:Mh} (h:lC M0 M) {a:ag} (ha:M a=none) (row:List Int):lC M0 (ay M a (.lst (row.map .int))) :=by
 refine ⟨.upd (gp h.kp ha) h.kp,fun b o e=>?_⟩
 by_cases z:b=a
 ·subst z;rw [updM_same] at e;cases e;exact .inr (.inl ⟨row,rfl⟩)
 ·rw [ai z] at e
  rcases h.pin b o e with q|q|⟨bs,q1,q2⟩
  ·exact .inl q
  ·exact .inr (.inl q)
  ·refine .inr (.inr ⟨bs,q1,fun c hc=>?_⟩)
   by_cases z:c=a
   ·subst z;exact ⟨_,updM_same⟩
   ·rw [ai z];exact q2 c hc
theorem M7 {g:b7} {te:aH} {n:Nat} {M1:Mh} (T:ax->Prop) {ds:List Dv} {τ:ax} {Q:List Dv->Mh->Prop} (h0:T τ) (h:∀d∈ds,∀τ,T τ->∀R:ax->ZK,(∀(x:Int) aB,0<=x->x<(n:Int)->T aB->R aB (.int x) M1)->g d τ M1 fun aB M2=>te aB M2 (R aB)) (q:∀row:List Int,row.length=ds.length->(∀x∈row,0<=x/\x<(n:Int))->Q (row.map .int) M1):fU g zNoIf te ds τ M1 Q :=by
 refine iS (acc:=[]) (fun acc τ M=>∃row:List Int,acc=row.map Dv.int/\(∀x∈row,0<=x/\x<(n:Int))/\T τ/\M=M1) ⟨[],rfl,(fun _ h=>nomatch h),h0,rfl⟩ (fun i d acc τ M hd _ ⟨row,e1,hr,ht,e2⟩ R hR=>?_) (fun ys τ M hl ⟨row,e1,hr,ht,e2⟩=>?_)
 ·subst e1 e2
  refine h d (im hd) τ ht R fun x aB x0 x1 t2=>hR _ _ _ ⟨row++[x],by rw [AE];rfl,fun y hy=>?_,t2,rfl⟩
  rcases wT.mp hy with z|z
  ·exact hr y z
  ·rw [rc] at z;rw [z];exact ⟨x0,x1⟩
 ·rw [NS] at e1
  subst e1 e2
  exact q row (by simpa using hl) hr
def dy (x:Option Dv):Prop:=∀M d,x=some d->Pin M d
theorem dy.none:dy none:=fun _ _ h=>nomatch h
theorem dy.int (i:Int):dy (some (.int i)):=fun _ _ h=>by cases h;exact .int i
theorem dy.lI (ns:List Int):dy (some (jV ns)):=fun _ _ h=>by cases h;exact .lst (gO ns)
theorem nM {n d:Nat} (h:d<n):fb n (d:Int)=some d :=by unfold fb;rw [if_pos (by omega),if_pos (by omega)];rfl
theorem rE (row:List Int) (t:Nat) (x:Int):(row.map Dv.int).set t (.int x)=(row.set t x).map Dv.int :=by rw [List.map_set]
theorem gm.set {n ways:Nat} {row:List Int} (h:gm n ways row) {t:Nat} {x:Int} (x0:0<=x) (x1:x<(n:Int)):gm n ways (row.set t x):=⟨by rw [On];exact h.1,fun y hy=>by
 rcases Op hy with z|z
 ·exact h.2 y z
 ·rw [z];exact ⟨x0,x1⟩⟩
def mY (os:List Int):Dv->Int | .int j=>os.getD j.toNat 0|_=>0
theorem rF {os:List Int} {j:Nat} {x:Int} (h:cu (os.map Dv.int) (j:Int)=some (.int x)):mY os (.int (j:Nat))=x :=by
 by_cases hj:j<os.length
 ·rw [cY (j:=j) (v:=Dv.int os[j]) (by rw [cr,ap hj];rfl)] at h
  cases h
  show os.getD (Int.toNat (j:Int)) 0=_
  rw [zd,db,ap hj];rfl
 ·unfold cu fb at h
  rw [if_pos (by omega),if_neg (by simp;omega)] at h
  cases h
def zA (per i:Nat):Dv->Bool | .int j=>decide (j % (per:Int)=((i:Int)+1) % (per:Int))|_=>false
theorem zB {n per i:Nat} {os:List Int} (dh:cc n os) (p1:1<=per) (pn:per<=n):∃gs:List Int,((cX 0 n).filter (zA per i)).map (fun d=>Dv.int (mY os d))=gs.map Dv.int/\1<=gs.length/\gs.length<=n/\∀x∈gs,0<=x/\x<(n:Int) :=by
 refine ⟨((cX 0 n).filter (zA per i)).map (mY os),by rw [Oa];rfl,?_,?_,fun x hx=>?_⟩
 ·rw [c8]
  refine List.length_pos_of_mem (a:=Dv.int (((i+1) % per:Nat):Int)) (OZ.mpr ⟨?_,?_⟩)
  ·have:(i+1) % per<per:=Pc _ (by omega)
   exact im (i:=(i+1) % per) (by rw [cX,cr,GS (by omega)];simp)
  ·show decide _=true
   rw [decide_eq_true_eq]
   push_cast
   exact Int.emod_emod_of_dvd _ (Int.dvd_refl _)
 ·rw [c8]
  exact sB (List.length_filter_le _ _) (by rw [rangeD_len];exact br _)
 ·obtain ⟨d,hd,rfl⟩:=l9.mp hx
  obtain ⟨j,hj,rfl⟩:=mK (OZ.mp hd).1
  rw [P1]
  obtain ⟨gx,A8,g0,g1⟩:=dh.at hj
  rw [rF A8]
  exact ⟨g0,g1⟩
structure ft (M0 M:Mh) (r:ag) (as:List ag) (n:Nat) (L:Nat->Nat):Prop where
 own:lC M0 M
 r0:M0 r=none
 rm:M r=some (.lst (as.map .ptr))
 fr:∀a∈as,M0 a=none/\a≠r
 nd:as.Nodup
 len:as.length=n
 rows:∀i a,as[i]?=some a->∃row:List Int,M a=some (.lst (row.map .int))/\gm n (L i) row
 ptr:∀b bs,M b=some (.lst (bs.map .ptr))->b=r\/M0 b=some (.lst (bs.map .ptr))\/bs=[]
theorem ft.set {M0 M:Mh} {r:ag} {as:List ag} {n:Nat} {L:Nat->Nat} (h:ft M0 M r as n L) {i:Nat} {a:ag} (ha:as[i]?=some a) {row:List Int} {m:Nat} (o:gm n m row):ft M0 (ay M a (.lst (row.map .int))) r as n fun j=>if j=i then m else L j :=by
 have hm:=im ha
 obtain ⟨f0,f1⟩:=h.fr a hm
 refine ⟨⟨.upd f0 h.own.kp,fun b o e=>?_⟩,h.r0,by rw [ai (BN f1)];exact h.rm,h.fr,h.nd,h.len,fun j c hc=>?_,fun b bs e=>?_⟩
 ·by_cases z:b=a
  ·subst z;rw [updM_same] at e;cases e;exact .inr (.inl ⟨row,rfl⟩)
  ·rw [ai z] at e
   rcases h.own.pin b o e with q|q|⟨bs,q1,q2⟩
   ·exact .inl q
   ·exact .inr (.inl q)
   ·refine .inr (.inr ⟨bs,q1,fun c hc=>?_⟩)
    by_cases z:c=a
    ·subst z;exact ⟨_,updM_same⟩
    ·rw [ai z];exact q2 c hc
 ·by_cases z:j=i
  ·subst z
   rw [ha] at hc;cases hc
   exact ⟨row,updM_same,by rw [if_pos rfl];exact o⟩
  ·have MG:c≠a:=fun e=>z (by
    subst e
    obtain ⟨h1,e1⟩:=bv.mp ha
    obtain ⟨h2,e2⟩:=bv.mp hc
    rcases Nat.lt_trichotomy j i with q|q|q
    ·exact absurd (e2.trans e1.symm) (Fa.mp h.nd j i h2 h1 q)
    ·exact q
    ·exact absurd (e1.trans e2.symm) (Fa.mp h.nd i j h1 h2 q))
   rw [ai MG,if_neg z];exact h.rows j c hc
 ·by_cases z:b=a
  ·subst z
   rw [updM_same] at e
   cases row with
   |nil=>cases bs with
    |nil=>exact .inr (.inr rfl)
    |cons c bs=>simp at e
   |cons x row=>cases bs with
    |nil=>exact .inr (.inr rfl)
    |cons c bs=>simp at e
  ·rw [ai z] at e;exact h.ptr b bs e
theorem ft.full {M0 M:Mh} {r:ag} {as:List ag} {n ways:Nat} {L:Nat->Nat} (h:ft M0 M r as n L) (hL:∀i,i<n->L i=ways):dF M0 M r as n ways :=by
 refine ⟨h.own.kp,h.r0,h.rm,h.fr,h.len,fun a ha=>?_,fun b o e=>?_⟩
 ·obtain ⟨i,hi⟩:=ul.mp ha
  obtain ⟨row,e,o⟩:=h.rows i a hi
  rw [hL i (by rw [<- h.len];exact (bv.mp hi).1)] at o
  exact ⟨row,e,o⟩
 ·rcases h.own.pin b o e with q|q|⟨bs,rfl,q2⟩
  ·exact .inl q
  ·exact .inr (.inr (.inl q))
  ·rcases h.ptr b bs e with z|z|z
   ·exact .inr (.inl z)
   ·exact .inl z
   ·subst z;exact .inr (.inr (.inl ⟨[],rfl⟩))
theorem ft.va {M0 M:Mh} {r:ag} {as:List ag} {n:Nat} {L L':Nat->Nat} (h:ft M0 M r as n L) (e:∀i,i<n->L i=L' i):ft M0 M r as n L':=
 ⟨h.own,h.r0,h.rm,h.fr,h.nd,h.len,fun i a ha=>by
  have:=h.rows i a ha
  rwa [e i (by rw [<- h.len];exact (bv.mp ha).1)] at this,h.ptr⟩
theorem cc.nodup {n:Nat} {os:List Int} (h:cc n os):os.Nodup :=by
 refine h.perm.nodup_iff.mpr ?_
 exact List.pairwise_map.mpr (PY.imp fun h e=>h (by omega))
theorem cc.prev {n:Nat} {os:List Int} (h:cc n os) {k:Nat} (hk:k<n):∃p:Nat,cu (os.map Dv.int) ((k:Int) - 1)=some (.int (p:Nat))/\p<n :=by
 have hl:=h.len
 obtain ⟨j,hj,e⟩:∃j:Nat,j<n/\fb n ((k:Int) - 1)=some j :=by
  unfold fb
  by_cases z:k=0
  ·exact ⟨n - 1,by omega,by rw [if_neg (by omega),if_pos (by omega)];congr 1;omega⟩
  ·exact ⟨k - 1,by omega,by rw [if_pos (by omega),if_pos (by omega)];congr 1;omega⟩
 have AU:j<os.length :=by omega
 obtain ⟨g0,g1⟩:=h.mem (Nl AU)
 refine ⟨os[j].toNat,?_,by omega⟩
 unfold cu
 rw [c8,hl,e]
 show (os.map Dv.int)[j]?=_
 rw [cr,ap AU]
 show some (Dv.int os[j])=_
 congr 2
 omega
theorem CD (x:Int) (k:Nat):(li k [Dv.int x]).flatten=(li k x).map Dv.int :=by
 induction k with
 |zero=>rfl
 |succ k ih=>rw [wb,Go,ih,wb];rfl
theorem vb {f f1 f2:ag} {fd cP fd2:nw} (D:Df K mg "_law_net" cS ["_law_bag_here","_law_most"] f fd)
  (ak:Df K mg "_law_take" c0 ["_law_bag_here","_law_many"] f1 cP) (bo:FnOk P w K mg base bC 1 f1 cP ["_law_bag_here","_law_many"] (bj P w K tb pH))
  (cM:Df K mg "_law_order" fq ["_law_bag_here","_law_many"] f2 fd2) (rG:FnOk P w K mg base bC 2 f2 fd2 ["_law_bag_here","_law_many"] (bj P w K tb xP)) (bl:Bl mg):FnOk P w K mg base bC 3 f fd ["_law_bag_here","_law_most"] (bj P w K tb A0) :=by
 refine fV D aU (fun ds M Q E hS=>by obtain ⟨b,n,e,_⟩:=hS;rw [e];rfl) fun A outer s E Γ ds Q' E' hP hw hK ht hr hS=>?_
 obtain ⟨b,most,e,hb,h1,h9,q⟩:=hS
 refine ⟨_,(ah (aQ (i:=2) aU.nd rfl (mo rfl) (aI eF ao (aN bo (hr.mono (by decide)) rfl ak.mg ak.fn.kp ak.bd bz hP hw hK ht XR.none (aa (qv 0) (aa (qv 1) ae)))))
  (ah (aQ (i:=3) aU.nd rfl (mo rfl) (aI eF ao (aN bo (hr.mono (by decide)) rfl ak.mg ak.fn.kp ak.bd bz hP hw hK ht XR.none (aa (qv 0) (aa ao ae)))))
  (ah (aQ (i:=4) aU.nd rfl (mo rfl) (aN bo (hr.mono (by decide)) rfl ak.mg ak.fn.kp ak.bd bz hP hw hK ht XR.none (aa (qv 0) (aa ao ae))))
  (ah (aQ (i:=5) aU.nd rfl (OM rfl) ao)
  (ah (cF (cJ zf (qv 4) ao (de _))
   (ah (aQ (i:=5) aU.nd rfl (OM rfl) (aK (qR rfl) rfl bl.min_ qg (aa (aI eF ao (aN bo (hr.mono (by decide)) rfl ak.mg ak.fn.kp ak.bd bz hP hw hK ht XR.none (aa (qv 0) (aa ao ae)))) (aa (qv 2) ae))))
  (aq (aQ (i:=2) aU.nd rfl (mo rfl) (aI iN (aI Fs (qv 2) (qv 5)) (qv 5)))))
   qss_nil)
  (ah (aQ (i:=6) aU.nd rfl (OM rfl) (aN rG (hr.mono (by decide)) rfl cM.mg cM.fn.kp cM.bd bz hP hw hK ht XR.none (aa (qv 0) (aa (qv 2) ae))))
  (ah (si (i:=7) aU.nd rfl rfl (N':=["_law_place"]) (tn:=1) (idx:=[]) rfl (show aW ["_law_bag_here","_law_most","_law_many","_law_fans","_law_kind","_law_lap","_law_order_here","_law_rows","_law_k","_law_goals","_law_fan"] (aw cS) _ ["_law_place"] 1 [] from by decide +kernel) (cz rfl bl.range_ (aa (qv 2) ae)) (fun _ _ _ _ _=>(aS (i:=0) (show PQ [("_law_place" : cb)] from by decide +kernel) rfl (mo rfl))) (fun _ _ _ _ _=>kn) (fun _ _ _ _ _=>(kj ae)))
  (ah (cg tw rfl (cz rfl bl.range_ (aa (qv 2) ae)) (fun gV eP ew eK et=>by have hP:=hP.trans eP.symm;have hw:=hw.trans ew.symm;have hK:=hK.trans eK.symm;have ht:=ht.trans et.symm;exact ⟨(aS (i:=8) aU.nd rfl (OM rfl)),(ah (uX (i:=9) aU.nd rfl rfl (N':=["_law_j","_law_order_here","_law_lap","_law_k"]) (tn:=1) (idx:=[6,5,8]) rfl (show aW ["_law_bag_here","_law_most","_law_many","_law_fans","_law_kind","_law_lap","_law_order_here","_law_rows","_law_k","_law_goals","_law_fan"] (aw cS) _ ["_law_j","_law_order_here","_law_lap","_law_k"] 1 [6,5,8] from by decide +kernel) (cz rfl bl.range_ (aa (qv 2) ae)) (fun _ _ _ _ _=>(aS (i:=0) (show PQ [("_law_j" : cb),("_law_order_here" : cb),("_law_lap" : cb),("_law_k" : cb)] from by decide +kernel) rfl (mo rfl))) (fun _ _ _ _ _=>(Cb (cJ zf (aI g7 (qv 0) (qv 2)) (aI g7 (aI eF (qv 3) ao) (qv 2)) (de _)))) (fun _ _ _ _ _=>(cn (dX (K:=K) rfl) (qv 1) (qv 0) (fun _ _=>rfl))))
  (aq (cg tw rfl (cz rfl bl.range_ (aa (qv 3) ae)) (fun gV eP ew eK et=>by have hP:=hP.trans eP.symm;have hw:=hw.trans ew.symm;have hK:=hK.trans eK.symm;have ht:=ht.trans et.symm;exact ⟨(aS (i:=10) aU.nd rfl (mo rfl)),(aq (fx (pF (K:=K) rfl NO Ow Ox lx (cn (dX (K:=K) rfl) (qv 7) (cn (dX (K:=K) rfl) (qv 6) (qv 8) (fun _ _=>rfl)) (fun _ _=>rfl)) (aa (cn (dX (K:=K) rfl) (qv 9) (aN bo (hr.mono (by decide)) rfl ak.mg ak.fn.kp ak.bd bz hP hw hK ht XR.none (aa (qv 0) (aa (aK (fH (K:=K) rfl hK) rfl bl.len_ CS (aa (qv 9) ae)) ae))) (fun _ _=>rfl)) ae))))⟩))))⟩))
  (ah (cF (cJ Ft (qv 4) ao (de _))
   (aq (cg tw rfl (cz rfl bl.range_ (aa (qv 2) ae)) (fun gV eP ew eK et=>by have hP:=hP.trans eP.symm;have hw:=hw.trans ew.symm;have hK:=hK.trans eK.symm;have ht:=ht.trans et.symm;exact ⟨(aS (i:=8) aU.nd rfl (OM rfl)),(aq (iA (cn (dX (K:=K) rfl) (qv 6) (qv 8) (fun _ _=>rfl)) (jT (cn (dX (K:=K) rfl) (qv 7) (cn (dX (K:=K) rfl) (qv 6) (aI mI (qv 8) ao) (fun _ _=>rfl)) (fun _ _=>rfl)) (aN bo (hr.mono (by decide)) rfl ak.mg ak.fn.kp ak.bd bz hP hw hK ht XR.none (aa (qv 0) (aa (qv 3) ae))))))⟩)))
   qss_nil)
  (ah (cF (cJ zf (qv 4) ao (de _))
   (ah (cg tw rfl (cz rfl bl.range_ (aa (qv 2) ae)) (fun gV eP ew eK et=>by have hP:=hP.trans eP.symm;have hw:=hw.trans ew.symm;have hK:=hK.trans eK.symm;have ht:=ht.trans et.symm;exact ⟨(aS (i:=8) aU.nd rfl (OM rfl)),(aq (iA (aI FN (jO (aa (cn (dX (K:=K) rfl) (qv 6) (qv 8) (fun _ _=>rfl)) ae)) (qv 3)) (jT (qv 7) (cn (dX (K:=K) rfl) (qv 6) (aI mI (qv 8) ao) (fun _ _=>rfl)))))⟩))
  (aq (iA (aN bo (hr.mono (by decide)) rfl ak.mg ak.fn.kp ak.bd bz hP hw hK ht XR.none (aa (qv 0) (aa (qv 2) ae))) (jT (cn (dX (K:=K) rfl) (qv 7) ao (fun _ _=>rfl)) ao))))
   qss_nil)
  (aq (FI 7 rfl (a7 (jS (tS (K:=K) rfl) rfl bl.tuple_ gD (aa (sh (N':=["_law_row"]) (tn:=1) (idx:=[]) rfl (show aW ["_law_bag_here","_law_most","_law_many","_law_fans","_law_kind","_law_lap","_law_order_here","_law_rows","_law_k","_law_goals","_law_fan"] (aw cS) _ ["_law_row"] 1 [] from by decide +kernel) (km (K:=K) rfl (qv 7)) (fun _ _ _ _ _=>(aS (i:=0) (show PQ [("_law_row" : cb)] from by decide +kernel) rfl (mo rfl))) (fun _ _ _ _ _=>kn) (fun _ _ _ _ _=>(jS (tS (K:=K) rfl) rfl bl.tuple_ gD (aa (qv 0) ae)))) ae))))))))))))))),?_⟩
 subst e
 have big:(100:Nat)<sizeLine :=by decide
 refine Hl (fun ρ M=>M=Γ.M0/\∃(n ways kind bS:Nat),ρ=[some (.ptr b),some (.int (most:Nat)),some (.int (n:Nat)),some (.int (ways:Nat)),some (.int (kind:Nat)),some (.int (bS:Nat)),none,none,none,none,none]/\1<=n/\n<=most/\(ways=2\/ways=3)/\1<=bS/\bS<=n) (fun N hN=>?_) ?_
 ·simp! only []
  refine ⟨b,_,rfl,hb,by omega,by omega,fun m hm=>?_⟩
  obtain ⟨n,hn⟩:∃n:Nat,(1+(m:Int))=(n:Nat):=⟨1+m,by omega⟩
  have n1:1<=n :=by omega
  have n9:n<=most :=by omega
  simp! only [hn]
  refine ⟨b,_,rfl,hb,by omega,by omega,fun v hv=>?_⟩
  obtain ⟨ways,Hq⟩:∃ways:Nat,(2+(v:Int))=(ways:Nat):=⟨2+v,by omega⟩
  have w2:ways=2\/ways=3 :=by omega
  simp! only [Hq]
  refine ⟨b,_,rfl,hb,by omega,by omega,fun kind px=>?_⟩
  simp! only []
  refine f6 (fun h=>?_) (fun h=>hN _ _ ⟨rfl,n,ways,kind,1,rfl,n1,n9,w2,by omega,n1⟩)
  refine ⟨b,_,rfl,hb,by omega,by omega,fun t ht=>?_⟩
  obtain ⟨bS,Ku,l1,ln⟩:∃bS:Nat,(if (n:Int)<2+(t:Int) then (n:Int) else 2+(t:Int))=(bS:Nat)/\1<=bS/\bS<=n :=by
   by_cases z:(n:Int)<2+(t:Int)
   ·exact ⟨n,by rw [if_pos z],n1,br _⟩
   ·exact ⟨2+t,by rw [if_neg z];omega,by omega,by omega⟩
  simp only [Ku]
  have en:(n:Int) / (bS:Int) * (bS:Int)=((n / bS * bS:Nat):Int) :=by push_cast;rfl
  have d1:n / bS * bS<=n:=Nat.div_mul_le_self n bS
  have d2:bS<=n / bS * bS :=by
   have:1<=n / bS:=Nat.div_pos ln (by omega)
   exact Nat.le_mul_of_pos_left bS this
  rw [en]
  exact ⟨⟨by omega,by omega⟩,.inr ⟨by omega,by omega⟩,hN _ _ ⟨rfl,n / bS * bS,ways,kind,bS,rfl,by omega,by omega,w2,l1,d2⟩⟩
 rintro ρ M ⟨rfl,n,ways,kind,bS,rfl,n1,n9,w2,l1,ln⟩
 refine Hj (fun ρ M=>∃(r:ag) (as:List ag) (os:List Int) (x8 x9 fP:Option Dv),(dy x8/\dy x9/\dy fP)/\ρ=[some (.ptr b),some (.int (most:Nat)),some (.int (n:Nat)),some (.int (ways:Nat)),some (.int (kind:Nat)),some (.int (bS:Nat)),some (jV os),some (.ptr r),x8,x9,fP]/\dF Γ.M0 M r as n ways/\cc n os) (fun N hN=>?_) ?_
 ·simp! only []
  refine ⟨b,n,rfl,hb,by omega,fun os dh=>?_⟩
  have qt:=dh.len
  simp! only []
  refine ⟨by omega,by omega,by omega,iS (acc:=[]) (fun acc τ M=>∃as:List ag,acc=as.map Dv.ptr/\(∃x,τ=[x])/\lC Γ.M0 M/\as.Nodup/\(∀a∈as,Γ.M0 a=none/\M a=some (.lst []))/\∀c (bs:List ag),M c=some (.lst (bs.map .ptr))->Γ.M0 c=some (.lst (bs.map .ptr))\/bs=[]) ⟨[],rfl,⟨_,rfl⟩,.refl,.nil,(fun _ h=>nomatch h),fun c bs e=>.inl e⟩ (fun i d acc τ M hd _ hJ R hR=>?_) (fun ys τ M hl hJ=>?_)⟩
  ·obtain ⟨as,rfl,⟨x,rfl⟩,hO,F1,ha,hp⟩:=hJ
   simp! only []
   refine ⟨by omega,fun a hn=>hR _ _ _ ⟨as++[a],by rw [AE];rfl,⟨_,rfl⟩,hO.row hn [],?_,fun c hc=>?_,fun c bs e=>?_⟩⟩
   ·rw [List.nodup_append]
    refine ⟨F1,by simp,fun x hx y hy e=>?_⟩
    rw [rc] at hy
    subst e hy
    rw [(ha _ hx).2] at hn;cases hn
   ·rcases wT.mp hc with z|z
    ·obtain ⟨q1,q2⟩:=ha c z
     have ne:c≠a:=fun q=>by rw [q,hn] at q2;cases q2
     exact ⟨q1,by rw [ai ne];exact q2⟩
    ·rw [rc] at z
     subst z
     exact ⟨gp hO.kp hn,updM_same⟩
   ·by_cases z:c=a
    ·subst z
     rw [updM_same] at e
     cases bs with
     |nil=>exact .inr rfl
     |cons y bs=>simp at e
    ·rw [ai z] at e;exact hp c bs e
  ·obtain ⟨as,e1,⟨x,rfl⟩,hO,F1,ha,hp⟩:=hJ
   rw [NS] at e1
   subst e1
   intro r oX
   have Kv:as.length=n :=by simpa [rangeD_len] using hl
   have ne:∀{c o},M c=some o->c≠r:=fun e z=>by rw [z,oX] at e;cases e
   have RF:ft Γ.M0 (ay M r (.lst (as.map .ptr))) r as n fun _=>0 :=by
    refine ⟨⟨.upd (gp hO.kp oX) hO.kp,fun c o e=>?_⟩,gp hO.kp oX,updM_same,fun a h=>⟨(ha a h).1,ne (ha a h).2⟩,F1,Kv,fun i a h=>?_,fun c bs e=>?_⟩
    ·by_cases z:c=r
     ·subst z;rw [updM_same] at e;cases e
      exact .inr (.inr ⟨as,rfl,fun a h=>⟨_,by rw [ai (ne (ha a h).2)];exact (ha a h).2⟩⟩)
     ·rw [ai z] at e
      rcases hO.pin c o e with q|q|⟨bs,q1,q2⟩
      ·exact .inl q
      ·exact .inr (.inl q)
      ·refine .inr (.inr ⟨bs,q1,fun y hy=>?_⟩)
       obtain ⟨u,hu⟩:=q2 y hy
       exact ⟨u,by rw [ai (ne hu)];exact hu⟩
    ·have hm:=ha a (im h)
     exact ⟨[],by rw [ai (ne hm.2)];exact hm.2,rfl,fun _ h=>nomatch h⟩
    ·by_cases z:c=r
     ·exact .inl z
     ·rw [ai z] at e;exact .inr (hp c bs e)
   refine ⟨by omega,by omega,?_⟩
   refine bJ (fun i ρ M=>∃x8 x9 fP,(dy x8/\dy x9/\dy fP)/\ρ=[some (.ptr b),some (.int (most:Nat)),some (.int (n:Nat)),some (.int (ways:Nat)),some (.int (kind:Nat)),some (.int (bS:Nat)),some (jV os),some (.ptr r),x8,x9,fP]/\ft Γ.M0 M r as n (fun j=>if ((j:Nat):Int)∈os.take i then ways else 0))
    ⟨_,_,_,⟨.none,.none,.none⟩,rfl,RF.va fun i _=>by simp⟩ (fun i d ρ M N2 hd hJ j1=>?_) (fun ρ M hJ=>?_)
   ·obtain ⟨x8,x9,fP,⟨p8,p9,o4⟩,rfl,RF⟩:=hJ
    obtain ⟨rfl,hi⟩:=cO hd
    have jK:i<os.length :=by omega
    obtain ⟨g0,g1⟩:=dh.mem (Nl jK)
    obtain ⟨pk,F2⟩:=OD g0
    have Jg:pk<n :=by omega
    have jt:cu (os.map Dv.int) ((i:Nat):Int)=some (.int (pk:Nat)):=cY (by rw [cr,ap jK,F2];rfl)
    have F3:pk<as.length :=by omega
    have MH:cu (as.map Dv.ptr) ((pk:Nat):Int)=some (.ptr as[pk]):=cY (by rw [cr,ap F3];rfl)
    have Jh:as[pk]?=some as[pk]:=ap F3
    have Kw:((pk:Nat):Int) ∉ os.take i:=fun z=>by
     obtain ⟨j,hj,e⟩:=Pg.mp z
     rw [List.getElem_take,<- F2] at e
     rw [GT] at hj
     exact Fa.mp dh.nodup j i (by omega) jK (by omega) e
    simp! only []
    refine ⟨by omega,by omega,by omega,nG (zA bS i) (fun d=>.int (mY os d)) (fun τ M'=>(∃x,τ=[x,some (jV os),some (.int (bS:Nat)),some (.int (i:Nat))])/\M'=M) ⟨⟨_,rfl⟩,rfl⟩ (fun d hd τ M' hI R0 R h1 h2=>?_) (fun τ M' hI=>?_)⟩
    ·obtain ⟨⟨x,rfl⟩,rfl⟩:=hI
     obtain ⟨j,hj,rfl⟩:=mK hd
     simp only [P1] at h1 h2 ⊢
     obtain ⟨gx,A8,g0,g1⟩:=dh.at hj
     have hg:mY os (.int (j:Nat))=gx:=rF A8
     simp! only [A8]
     refine ⟨by omega,by omega,f6 (fun h=>?_) (fun h=>?_)⟩
     ·rw [hg] at h1
      exact h1 h _ _ ⟨⟨_,rfl⟩,rfl⟩
     ·exact h2 h _ _ ⟨⟨_,rfl⟩,rfl⟩
    ·obtain ⟨⟨x,rfl⟩,rfl⟩:=hI
     obtain ⟨gs,MI,NN,NP,MJ⟩:=zB (i:=i) dh (per:=bS) (by omega) (by omega)
     rw [MI]
     refine ⟨by omega,by omega,?_⟩
     refine bJ (fun f ρ M=>(∃fP,dy fP/\ρ=[some (.ptr b),some (.int (most:Nat)),some (.int (n:Nat)),some (.int (ways:Nat)),some (.int (kind:Nat)),some (.int (bS:Nat)),some (jV os),some (.ptr r),some (.int (i:Nat)),some (jV gs),fP])/\ft Γ.M0 M r as n (fun j=>if j=pk then f else if ((j:Nat):Int)∈os.take i then ways else 0))
      ⟨⟨_,o4,rfl⟩,RF.va fun j _=>by
       by_cases z:j=pk
       ·subst z;rw [if_neg Kw,if_pos rfl]
       ·rw [if_neg z]⟩ (fun f d ρ M N3 hd hJ MK=>?_) (fun ρ M hJ=>?_)
     ·obtain ⟨⟨fP,o4,rfl⟩,RF⟩:=hJ
      obtain ⟨rfl,hf⟩:=cO hd
      obtain ⟨row,em,ro⟩:=RF.rows pk _ Jh
      rw [if_pos rfl] at ro
      simp! only [jt,RF.rm,MH,em]
      refine ⟨b,_,rfl,RF.own.kp _ _ hb,by omega,by omega,fun t ht=>?_⟩
      have Ji:t<gs.length :=by omega
      simp only [show cu (gs.map Dv.int) (t:Int)=some (.int gs[t]) from cY (by rw [cr,ap Ji];rfl),em,c8,ro.1]
      have ML:=MJ _ (Nl Ji)
      have er:row.map Dv.int++[Dv.int gs[t]]=(row++[gs[t]]).map Dv.int :=by rw [AE];rfl
      rw [er]
      refine ⟨by omega,MK _ _ ⟨⟨_,.int _,rfl⟩,(RF.set Jh (row:=row++[gs[t]]) (m:=f+1) ⟨by rw [xb,ro.1];rfl,fun y hy=>?_⟩).va fun j _=>?_⟩⟩
      ·rcases wT.mp hy with z|z
       ·exact ro.2 y z
       ·rw [rc.mp z];exact ML
      ·by_cases z:j=pk
       ·rw [if_pos z,if_pos z]
       ·rw [if_neg z,if_neg z,if_neg z]
     ·obtain ⟨⟨fP,o4,rfl⟩,RF⟩:=hJ
      rw [rangeD_len] at RF
      refine j1 _ _ ⟨_,_,_,⟨.int _,.lI gs,o4⟩,rfl,RF.va fun j _=>?_⟩
      have nN:((j:Nat):Int)∈os.take (i+1) ↔ ((j:Nat):Int)∈os.take i\/j=pk :=by
       rw [List.take_add_one,wT,ap jK,F2]
       constructor
       ·rintro (z|z)
        ·exact .inl z
        ·have:((j:Nat):Int)=(pk:Nat) :=by simpa using z
         exact .inr (by omega)
       ·rintro (z|z)
        ·exact .inl z
        ·exact .inr (by simp [z])
      by_cases z:j=pk
      ·rw [if_pos z,if_pos (nN.mpr (.inr z))]
      ·rw [if_neg z]
       by_cases y:((j:Nat):Int)∈os.take i
       ·rw [if_pos y,if_pos (nN.mpr (.inl y))]
       ·rw [if_neg y,if_neg (fun q=>(nN.mp q).elim y z)]
   ·obtain ⟨x8,x9,fP,⟨p8,p9,o4⟩,rfl,RF⟩:=hJ
    rw [rangeD_len] at RF
    refine hN _ _ ⟨r,as,os,_,_,_,⟨p8,p9,o4⟩,rfl,RF.full fun j hj=>?_,dh⟩
    rw [EM (by omega),if_pos (dh.perm.mem_iff.mpr (l9.mpr ⟨j,sw.mpr hj,rfl⟩))]
 rintro ρ M ⟨r,as,os,x8,x9,fP,⟨p8,p9,o4⟩,rfl,RM,dh⟩
 have qt:=dh.len
 have F4:∀{as:List ag} {M:Mh} {p:Nat},dF Γ.M0 M r as n ways->p<n->∃a,cu (as.map Dv.ptr) ((p:Nat):Int)=some (.ptr a)/\a∈as:=fun {as M p} RM hp=>by
  have hl:p<as.length :=by rw [RM.len];exact hp
  exact ⟨as[p],cY (by rw [cr,ap hl];rfl),Nl hl⟩
 refine AQ (fun ρ M=>∃(as:List ag) (x8:Option Dv),dy x8/\ρ=[some (.ptr b),some (.int (most:Nat)),some (.int (n:Nat)),some (.int (ways:Nat)),some (.int (kind:Nat)),some (.int (bS:Nat)),some (jV os),some (.ptr r),x8,x9,fP]/\dF Γ.M0 M r as n ways) (fun N hN=>?_) ?_
 ·simp! only []
  refine f6 (fun h=>⟨by omega,by omega,?_⟩) (fun _=>hN _ _ ⟨as,_,p8,rfl,RM⟩)
  refine bJ (fun i ρ M=>∃(as:List ag) (x8:Option Dv),dy x8/\ρ=[some (.ptr b),some (.int (most:Nat)),some (.int (n:Nat)),some (.int (ways:Nat)),some (.int (kind:Nat)),some (.int (bS:Nat)),some (jV os),some (.ptr r),x8,x9,fP]/\dF Γ.M0 M r as n ways) ⟨as,_,p8,rfl,RM⟩ (fun i d ρ M N2 hd hJ j1=>?_) (fun ρ M hJ=>hN _ _ hJ)
  obtain ⟨as,x8,p8,rfl,RM⟩:=hJ
  obtain ⟨rfl,hi⟩:=cO hd
  obtain ⟨p,hp,pn⟩:=dh.prev hi
  obtain ⟨g,hg,g0,g1⟩:=dh.at hi
  obtain ⟨a,ea,ha⟩:=F4 RM pn
  obtain ⟨row,em,ro⟩:=RM.row a ha
  simp! only [hg,hp,RM.rm,ea]
  refine ⟨b,_,rfl,RM.kp _ _ hb,by omega,by omega,fun t ht=>?_⟩
  simp only [em,c8,ro.1,nM (show t<ways by omega)]
  rw [rE]
  exact j1 _ _ ⟨as,_,.int _,rfl,RM.qj ha (ro.set g0 g1)⟩
 rintro ρ M ⟨as,x8,p8,rfl,RM⟩
 refine AQ (fun ρ M=>∃(as:List ag) (x8:Option Dv),dy x8/\ρ=[some (.ptr b),some (.int (most:Nat)),some (.int (n:Nat)),some (.int (ways:Nat)),some (.int (kind:Nat)),some (.int (bS:Nat)),some (jV os),some (.ptr r),x8,x9,fP]/\dF Γ.M0 M r as n ways) (fun N hN=>?_) ?_
 ·simp! only []
  refine f6 (fun h=>⟨by omega,by omega,?_⟩) (fun _=>hN _ _ ⟨as,_,p8,rfl,RM⟩)
  refine bJ (fun i ρ M=>∃(as:List ag) (x8:Option Dv),dy x8/\ρ=[some (.ptr b),some (.int (most:Nat)),some (.int (n:Nat)),some (.int (ways:Nat)),some (.int (kind:Nat)),some (.int (bS:Nat)),some (jV os),some (.ptr r),x8,x9,fP]/\dF Γ.M0 M r as n ways) ⟨as,_,p8,rfl,RM⟩ (fun i d ρ M N2 hd hJ j1=>?_) (fun ρ M hJ=>?_)
  ·obtain ⟨as,x8,p8,rfl,RM⟩:=hJ
   obtain ⟨rfl,hi⟩:=cO hd
   obtain ⟨p,hp,pn⟩:=dh.prev hi
   obtain ⟨g,hg,g0,g1⟩:=dh.at hi
   simp! only [hg,hp]
   refine ⟨by omega,⟨by omega,by omega,by omega⟩,fun a tq=>?_⟩
   have nr:r≠a:=fun z=>by rw [<- z,RM.rm] at tq;cases tq
   rw [CD]
   simp only [ai nr,RM.rm,c8,RM.len,nM pn]
   exact j1 _ _ ⟨_,_,.int _,rfl,RM.put tq ⟨by rw [N4],fun x hx=>by rw [List.eq_of_mem_replicate hx];exact ⟨g0,g1⟩⟩ pn⟩
  ·obtain ⟨as,x8,p8,rfl,RM⟩:=hJ
   obtain ⟨a,ea,ha⟩:=F4 RM (p:=0) (by omega)
   have ea:cu (as.map Dv.ptr) 0=some (.ptr a):=ea
   obtain ⟨row,em,ro⟩:=RM.row a ha
   simp! only []
   refine ⟨b,_,rfl,RM.kp _ _ hb,by omega,by omega,fun t ht=>?_⟩
   simp! only [RM.rm,ea,em,ro.1,show fb ways 0=some 0 from nM (d:=0) (by omega)]
   rw [rE]
   exact hN _ _ ⟨as,_,p8,rfl,RM.qj ha (ro.set (by omega) (by omega))⟩
 rintro ρ M ⟨as,x8,p8,rfl,RM⟩
 have nb:∀{c o},Γ.M0 c=some o->c≠r:=fun e z=>by rw [z,RM.r0] at e;cases e
 have dk:Keeps Γ.M0 (cq M r):=fun c o e=>by rw [bW (nb e)];exact RM.kp c o e
 refine .inr ⟨r,_,rfl,RM.rm,RM.r0,⟨fun j d e=>?_,fun c o e=>?_⟩,?_⟩
 ·match j,e with
  |0,e=>cases e;exact .ptr (by rw [dk _ _ hb];rfl)
  |1,e=>cases e;exact .int _
  |2,e=>cases e;exact .int _
  |3,e=>cases e;exact .int _
  |4,e=>cases e;exact .int _
  |5,e=>cases e;exact .int _
  |6,e=>cases e;exact .lst (gO _)
  |7,e=>cases e;exact .lst fun d hd=>by
                obtain ⟨a,ha,rfl⟩:=l9.mp hd
                obtain ⟨row,em,_⟩:=RM.row a ha
                exact .ptr (by rw [bW (RM.fr a ha).2,em];rfl)
  |8,e=>exact p8 _ _ (i1 e)
  |9,e=>exact p9 _ _ (i1 e)
  |10,e=>exact o4 _ _ (i1 e)
  |j+11,e=>exact nomatch e
 ·have nc:c≠r:=fun z=>by rw [z,cR] at e;cases e
  rw [bW nc] at e
  rcases RM.pin c o e with q|q|⟨row,rfl⟩|⟨bs,rfl,q2⟩
  ·exact .inl q
  ·exact absurd q nc
  ·exact .inr (gO row)
  ·refine .inr fun d hd=>?_
   obtain ⟨a,ha,rfl⟩:=l9.mp hd
   obtain ⟨h1,u,h2⟩:=q2 a ha
   exact .ptr (by rw [bW h1,h2];rfl)
 ·simp! only []
  refine ⟨by rw [RM.len];omega,iS (acc:=[]) (fun acc τ M'=>∃rs:List (List Int),acc=rs.map eI/\(∃x,τ=[x])/\(∀row∈rs,gm n ways row)/\M'=cq M r) ⟨[],rfl,⟨_,rfl⟩,(fun _ h=>nomatch h),rfl⟩ (fun i d acc τ M' hd _ ⟨rs,e1,⟨x,e2⟩,A9,eM⟩ R hR=>?_) (fun ys τ M' hl ⟨rs,e1,⟨x,e2⟩,A9,eM⟩=>?_)⟩
  ·subst e1 e2 eM
   obtain ⟨a,ha,rfl⟩:=FG hd
   have ha:=im ha
   obtain ⟨row,em,ro⟩:=RM.row a ha
   simp! only [bW (RM.fr a ha).2,em]
   refine hR _ _ _ ⟨rs++[row],by rw [AE];rfl,⟨_,rfl⟩,fun c hc=>?_,rfl⟩
   rcases wT.mp hc with z|z
   ·exact A9 c z
   ·rw [rc] at z;rw [z];exact ro
  ·rw [NS] at e1
   subst e1 e2 eM
   have Ja:rs.length=n :=by rw [c8,c8,RM.len] at hl;exact hl
   exact jW dk (xj rs) (q rs ways ⟨by omega,by omega,w2,fun row hr=>⟨(A9 row hr).1,fun g hg=>by rw [Ja];exact (A9 row hr).2 g hg⟩⟩ (by omega))
end
section
variable {P:gl} {w:ii} {K:bi} {mg:cb->Option am} {base:ij} {tb:d9}
theorem sA:a9 ["thing"] ["thing"] (aw dD):=⟨rfl,rfl,rfl,by decide +kernel,rfl,by decide +kernel,by decide +kernel⟩
theorem kG:a9 ["thing","many"] ["thing","many"] (aw bL):=⟨rfl,rfl,rfl,by decide +kernel,rfl,by decide +kernel,by decide +kernel⟩
theorem xQ:a9 ["thing","many","width"] ["thing","many","width"] (aw gT):=⟨rfl,rfl,rfl,by decide +kernel,rfl,by decide +kernel,by decide +kernel⟩
theorem j4:a9 ["thing","many","width"] ["thing"] (aw gU):=⟨rfl,rfl,rfl,by decide +kernel,rfl,by decide +kernel,by decide +kernel⟩
def j5 (d:Dv):Bool:=(isD "int" (fun _=>none) d).isSome
def xR:Dv->Bool | .int _=>true|_=>false
def bw (m:Int):Dv->Bool | .int i=>decide (0<=i) && decide (i<m)|_=>false
def F5:eA:=fun ds M Q _=>∃d,ds=[d]/\j5 d=true/\Q (.bl (xR d)) M
theorem sC {f:ag} {fd:nw} (D:Df K mg "is_whole" dD ["thing"] f fd) (bl:Bl mg):FnOk P w K mg base bC 1 f fd ["thing"] (bj P w K tb F5) :=by
 refine fV D sA (fun ds M Q E hS=>by obtain ⟨d,e,_⟩:=hS;rw [e];rfl) fun A outer s E Γ ds Q' E' hP hw hK ht hr hS=>?_
 obtain ⟨d,e,hk,q⟩:=hS
 refine ⟨_,(aq (a7 (qN (aK (iQ (K:=K) rfl) rfl bl.isinstance_ bT (aa (qv 0) (aa (iy (v:=.ty "int") rfl bl.int_ Em rfl) ae))) (qM (Fm (aK (iQ (K:=K) rfl) rfl bl.isinstance_ bT (aa (qv 0) (aa (iy (v:=.ty "bool") rfl bl.bool_ BK rfl) ae)))))))),?_⟩
 subst e
 cases d <;> first|exact ⟨by decide,⟨by decide,.inl q⟩⟩|exact ⟨by decide,.inl q⟩|exact nomatch hk
def xS:eA:=fun ds M Q _=>∃d m,ds=[d,.int m]/\j5 d=true/\Q (.bl (bw m d)) M
theorem f7 {f f1:ag} {fd cP:nw} (D:Df K mg "is_whole_below" bL ["thing","many"] f fd) (bF:Df K mg "is_whole" dD ["thing"] f1 cP) (bl:Bl mg):FnOk P w K mg base bC 2 f fd ["thing","many"] (bj P w K tb xS) :=by
 have vc:=sC (P:=P) (w:=w) (base:=base) (tb:=tb) bF bl
 refine fV D kG (fun ds M Q E hS=>by obtain ⟨d,m,e,_⟩:=hS;rw [e];rfl) fun A outer s E Γ ds Q' E' hP hw hK ht hr hS=>?_
 obtain ⟨d,m,e,hk,q⟩:=hS
 refine ⟨_,(aq (a7 (qN (aN vc (hr.mono (by decide)) rfl bF.mg bF.fn.kp bF.bd bz hP hw hK ht XR.none (aa (qv 0) ae)) (qM (y7 zb uS ao (qv 0) (qv 1)))))),?_⟩
 subst e
 refine ⟨d,rfl,hk,?_⟩
 cases d with
 |int i=>
  simp! only [xR]
  refine f6 (fun h=>?_) (fun h=>?_)
  ·rw [show bw m (.int i)=decide (i<m) by simp only [bw,h,Of]] at q
   exact .inl q
  ·rw [show bw m (.int i)=false by simp only [bw,h,Oz]] at q
   exact .inl q
 |_=>exact .inl q
def fD (m:Int) (w:Nat):Dv->Bool | .tup ds=>decide (ds.length=w) && ds.all (bw m)|_=>false
def zD:Dv->Bool | .tup ds=>ds.all j5|d=>j5 d
def F6:eA:=fun ds M Q _=>∃d m w,ds=[d,.int m,.int (w:Nat)]/\zD d=true/\Q (.bl (fD m w d)) M
theorem xT {f f1 f2:ag} {fd cP fd2:nw} {iT bf:ag} (D:Df K mg "is_row" gT ["thing","many","width"] f fd) (fE:Aj base fd iT bf) (hp:bf∈tb) (gY:∃bm ob,Qf base mainGlobals mg bm ob)
  (aF:Df K mg "is_whole_below" bL ["thing","many"] f1 cP) (bF:Df K mg "is_whole" dD ["thing"] f2 fd2) (bl:Bl mg):FnOk P w K mg base bC 4 f fd ["thing","many","width"] (bj P w K tb F6) :=by
 have eR:=f7 (P:=P) (w:=w) (base:=base) (tb:=tb) aF bF bl
 refine fV D xQ (fun ds M Q E hS=>by obtain ⟨d,m,n,e,_⟩:=hS;rw [e];rfl) fun A outer s E Γ ds Q' E' hP hw hK ht hr hS=>?_
 obtain ⟨d,m,n,e,hk,q⟩:=hS
 have vd:bf∈Γ.tb:=ht▸hp
 refine ⟨_,(ah (cF (QW.pt (uQ (iz (fj (aK (iQ (K:=K) rfl) rfl bl.isinstance_ bT (aa (qv 0) (aa (iy (v:=.ty "tuple") rfl bl.tuple_ gD rfl) ae))))) (qK (cJ Kk (aK (fH (K:=K) rfl hK) rfl bl.len_ CS (aa (qv 0) ae)) (qv 2) (de _)))))
   (aq (a7 fi))
   qss_nil)
  (aq (a7 (xh (k:=2) (N':=["goal","many"]) (tn:=1) (idx:=[1]) vd (hr.mono (by decide)) rfl (show aW ["thing","many","width"] (aw gT) _ ["goal","many"] 1 [1] from by decide +kernel) rfl rfl fE.code fE.hd gY rfl bl.all_ (mF (K:=K) rfl (qv 0)) (fun _ _ _ _ _ _ _ hr=>(aS (i:=0) (show PQ [("goal" : cb),("many" : cb)] from by decide +kernel) rfl (mo rfl))) (fun _ _ _ _ _ _ _ hr=>kn) (fun _ _ _ _ _ _ _ hr=>(aN eR (hr.mono (by decide)) rfl aF.mg aF.fn.kp aF.bd bz hP hw hK ht XR.none (aa (qv 0) (aa (qv 1) ae)))))))),?_⟩
 subst e
 cases d with
 |tup es=>
  refine ⟨by decide,f6 (c := !decide ((es.length:Int)=(n:Nat))) (fun h=>?_) (fun h=>?_)⟩
  ·rw [show fD m n (.tup es)=false by simp at h;simp [fD];intro z;omega] at q
   exact .inl q
  ·rw [show fD m n (.tup es)=es.all (bw m) by simp at h;simp [fD,show es.length=n by omega]] at q
   refine nF (bw m) (fun τ=>∃x,τ=[x,some (.int m)]) ⟨none,rfl⟩ (fun d hd τ ⟨x,e⟩ R hR=>?_) (.inl q)
   subst e
   exact ⟨d,m,rfl,sK.mp hk d hd,hR _ ⟨_,rfl⟩⟩
 |_=>first|exact ⟨by decide,.inl q⟩|exact nomatch hk
def gW:Dv->Bool | .tup rs=>decide (1<=rs.length/\rs.length<=9) && (rs.all (fD rs.length 2) || rs.all (fD rs.length 3))|_=>false
def ve:Dv->Bool | .tup rs=>rs.all zD|d=>j5 d
def F7:eA:=fun ds M Q _=>∃d,ds=[d]/\ve d=true/\Q (.bl (gW d)) M
theorem xU {f f1 f2 f3:ag} {fd cP fd2 o5:nw} {iT bf rH bG:ag} (D:Df K mg "is_net" gU ["thing"] f fd) (iU:Aj base fd rH bG) (Jg:bG∈tb) (eS:Df K mg "is_row" gT ["thing","many","width"] f3 o5) (fE:Aj base o5 iT bf) (hp:bf∈tb) (gY:∃bm ob,Qf base mainGlobals mg bm ob)
  (aF:Df K mg "is_whole_below" bL ["thing","many"] f1 cP) (bF:Df K mg "is_whole" dD ["thing"] f2 fd2) (bl:Bl mg) {tk:Tok} (fF:mg "MOST_PLACES" = some (.int 9 tk)):FnOk P w K mg base bC 6 f fd ["thing"] (bj P w K tb F7) :=by
 have zE:=xT (P:=P) (w:=w) (tb:=tb) eS fE hp gY aF bF bl
 refine fV D j4 (fun ds M Q E hS=>by obtain ⟨d,e,_⟩:=hS;rw [e];rfl) fun A outer s E Γ ds Q' E' hP hw hK ht hr hS=>?_
 obtain ⟨d,e,hk,q⟩:=hS
 have iV:bG∈Γ.tb:=ht▸Jg
 refine ⟨_,(ah (cF (QW.pt (uQ (iz (fj (aK (iQ (K:=K) rfl) rfl bl.isinstance_ bT (aa (qv 0) (aa (iy (v:=.ty "tuple") rfl bl.tuple_ gD rfl) ae))))) (qK (iz (y8 zb zb ao (aK (fH (K:=K) rfl hK) rfl bl.len_ CS (aa (qv 0) ae)) (y4 (i:=9) rfl fF ⟨_,rfl⟩))))))
   (aq (a7 fi))
   qss_nil)
  (ah (aQ (i:=1) j4.nd rfl (OM rfl) (aK (fH (K:=K) rfl hK) rfl bl.len_ CS (aa (qv 0) ae)))
  (ah (cg tw rfl (mF (K:=K) rfl (fk (aa ao (aa ao ae)))) (fun gV eP ew eK et=>by have hP:=hP.trans eP.symm;have hw:=hw.trans ew.symm;have hK:=hK.trans eK.symm;have ht:=ht.trans et.symm;have iV:=et.symm▸iV;exact ⟨(aS (i:=2) j4.nd rfl (OM rfl)),(aq (cF (fj (xh (k:=4) (N':=["row","many","width"]) (tn:=1) (idx:=[1,2]) iV (hr.mono (by decide)) rfl (show aW ["thing","many","width"] (aw gU) _ ["row","many","width"] 1 [1,2] from by decide +kernel) rfl rfl iU.code iU.hd gY rfl bl.all_ (mF (K:=K) rfl (qv 0)) (fun _ _ _ _ _ _ _ hr=>(aS (i:=0) (show PQ [("row" : cb),("many" : cb),("width" : cb)] from by decide +kernel) rfl (mo rfl))) (fun _ _ _ _ _ _ _ hr=>kn) (fun _ _ _ _ _ _ _ hr=>(aN zE (hr.mono (by decide)) rfl eS.mg eS.fn.kp eS.bd bz hP hw hK ht XR.none (aa (qv 0) (aa (qv 1) (aa (qv 2) ae)))))))
   (aq (a7 fi))
   qss_nil))⟩))
  (aq (a7 fi))))),?_⟩
 subst e
 cases d with
 |tup rs=>
  refine ⟨by decide,?_⟩
  have row:∀(n:Nat) (D:Bool->Mh->Prop),(D (rs.all (fD rs.length n)) Γ.M0)->g6 (zgName 0) zNoIf (zCall F6 (fun _ _=>False) (zCons (zVar 0) (zCons (zVar 1) (zCons (zVar 2) zNil)))) rs [none,some (.int rs.length),some (.int (n:Nat))] Γ.M0 D:=fun n D hD=>by
   refine nF (fD rs.length n) (fun τ=>∃x,τ=[x,some (.int rs.length),some (.int (n:Nat))]) ⟨none,rfl⟩ (fun d hd τ ⟨x,e⟩ R hR=>?_) hD
   subst e
   exact ⟨d,rs.length,n,rfl,sK.mp hk d hd,hR _ ⟨_,rfl⟩⟩
  simp! only []
  refine f6 (fun h1=>f6 (fun h2=>?_) (fun h2=>⟨by decide,?_⟩)) (fun h1=>?_)
  ·rw [show gW (.tup rs)=false by simp at h1 h2;simp [gW];intro z;omega] at q
   exact .inl q
  ·have e:gW (.tup rs)=(rs.all (fD rs.length 2) || rs.all (fD rs.length 3)) :=by
    simp at h1 h2
    simp only [gW]
    rw [decide_eq_true (by omega),Of]
   rw [e] at q
   refine row 2 _ (f6 (fun z=>?_) (fun z=>row 3 _ (f6 (fun z2=>?_) (fun z2=>?_))))
   ·rw [z] at q;exact .inl q
   ·rw [z,z2] at q;exact .inl q
   ·rw [z,z2] at q;exact .inl q
  ·rw [show gW (.tup rs)=false by simp at h1;simp [gW];intro z;omega] at q
   exact .inl q
 |_=>first|exact ⟨by decide,.inl q⟩|exact nomatch hk
theorem sD:a9 ["thing"] ["thing"] (aw gj):=⟨rfl,rfl,rfl,by decide +kernel,rfl,by decide +kernel,by decide +kernel⟩
theorem xV {m:Int} {g:Int} (h:0<=g/\g<m):bw m (.int g)=true :=by simp [bw,h.1,h.2]
theorem CF {aA:List (List Int)} {n:Nat} (o:iG aA n):gW (eN aA)=true :=by
 have hr:∀d∈aA.map eI,fD (aA.map eI).length n d=true:=fun d hd=>by
  obtain ⟨r,hr,rfl⟩:=l9.mp hd
  obtain ⟨h1,h2⟩:=o.row r hr
  simp only [fD,c8]
  rw [decide_eq_true h1,Of,sK]
  intro d hd
  obtain ⟨g,hg,rfl⟩:=l9.mp hd
  exact xV (h2 g hg)
 have ho:=o.one
 have hn:=o.nine
 simp only [gW,eN]
 rw [decide_eq_true (by rw [c8];omega),Of]
 have ha:=sK.mpr hr
 rcases o.wid with rfl|rfl
 ·rw [ha];rfl
 ·rw [ha,Bool.or_true]
theorem CG (aA:List (List Int)):ve (eN aA)=true :=by
 simp only [ve,eN]
 rw [sK]
 intro d hd
 obtain ⟨r,_,rfl⟩:=l9.mp hd
 simp only [zD,eI]
 rw [sK]
 intro d hd
 obtain ⟨g,hg,rfl⟩:=l9.mp hd
 rfl
def Ba (C:ag):eA:=fun ds M Q E=>∃d,ds=[d]/\ve d=true/\(gW d=true->Q .aj M)/\(gW d=false->E C M)
theorem sE {f f1:ag} {fd cP:nw} {C0 C_NoNet:ag} {cs:List ag} (D:Df K mg "need_net" gj ["thing"] f fd) (eU:Df K mg "is_net" gU ["thing"] f1 cP) (lD:FnOk P w K mg base bC 6 f1 cP ["thing"] (bj P w K tb F7))
  (X_:nq K C0 cs) (gr:C_NoNet∈cs) (gu:mg "NoNet" = some (.ref C_NoNet)):FnOk P w K mg base (dR P w) 7 f fd ["thing"] (bj P w K tb (Ba C_NoNet)) :=by
 refine uU D sD (fun ds M Q E hS=>by obtain ⟨d,e,_⟩:=hS;rw [e];rfl) fun A outer s E Γ ds Q' E' hP hw hK ht hE hr hS=>?_
 obtain ⟨d,e,hk,q1,q2⟩:=hS
 refine ⟨_,(aq (cF (iz (fj (aN lD (hr.mono (by decide)) rfl eU.mg eU.fn.kp eU.bd bz hP hw hK ht XR.none (aa (qv 0) ae))))
   (aq (qV (X_.ex _ gr) PySem.F.excBase_ValueError rfl wu hE rfl gu (aa qI ae)))
   qss_nil)),?_⟩
 subst e
 simp! only []
 refine ⟨d,rfl,hk,f6 (fun h=>?_) (fun h=>?_)⟩
 ·exact ⟨by decide,q2 (by simpa using h)⟩
 ·exact .inl (q1 (by simpa using h))
end
section
variable {P:gl} {w:ii} {K:bi} {mg:cb->Option am} {base:ij} {tb:d9}
theorem aV:a9 ["row","found","at","goal","rest"] ["row"] (aw b9):=⟨rfl,rfl,rfl,by decide +kernel,rfl,by decide +kernel,by decide +kernel⟩
def gX (g:Int) (rests f:List (List Int)):List (List Int):=rests.foldl (fun f r=>eQ f (g::r)) f
def outF (A:List Int->List (List Int)) (row:List Int):Nat->List (List Int)
 |0=>[]
 |i+1=>gX (row.getD i 0) (A (row.eraseIdx i)) (outF A row i)
def a8:Nat->List Int->List (List Int)
 |0,_=>[[]]
 |d+1,row=>if row=[] then [[]] else gi (outF (a8 d) row row.length)
def nO:Nat->Nat
 |0=>1
 |n+1=>(n+1) * nO n
theorem zF (ks:List (List Int)) (k:List Int):(eQ ks k).length<=ks.length+1 :=by
 unfold eQ
 split
 ·omega
 ·simp
theorem zG {ks:List (List Int)} {k r:List Int} (h:r∈eQ ks k):r∈ks\/r=k :=by
 unfold eQ at h
 split at h
 ·exact .inl h
 ·rcases wT.mp h with z|z
  ·exact .inl z
  ·exact .inr (rc.mp z)
theorem zH {ks:List (List Int)} {k:List Int}:k∈eQ ks k :=by
 unfold eQ
 split
 ·assumption
 ·simp
theorem xW (g:Int) (rests:List (List Int)) (r:List Int) (f:List (List Int)):gX g (rests++[r]) f=eQ (gX g rests f) (g::r) :=by unfold gX;rw [List.foldl_append];rfl
theorem lF (g:Int):∀(rests f:List (List Int)),(gX g rests f).length<=f.length+rests.length
 | [],f=>br _
 |r::rests,f=>by
          have:=lF g rests (eQ f (g::r))
          have:=zF f (g::r)
          show (gX g rests (eQ f (g::r))).length<=_
          rw [B0]
          omega
theorem ua (g:Int) {n:Nat}:∀{rests f:List (List Int)},(∀r∈rests,r.length=n)->(∀r∈f,r.length=n+1)->∀r∈gX g rests f,r.length=n+1
 | [],f,_,h=>h
 |r::rests,f,h0,h=>ua g (fun x hx=>h0 x (ff _ hx)) (f:=eQ f (g::r)) fun x hx=>(zG hx).elim (h x) fun e=>by rw [e,B0,h0 r kt]
theorem lH {A:List Int->List (List Int)} {row:List Int} {m:Nat} (h:∀i,i<row.length->(A (row.eraseIdx i)).length<=m):∀{i},i<=row.length->(outF A row i).length<=i * m
 |0,_=>l8 _
 |i+1,hi=>by
          have h1:=lH (i:=i) h (by omega)
          have h2:=h i (by omega)
          have h3:=lF (row.getD i 0) (A (row.eraseIdx i)) (outF A row i)
          show (gX _ _ _).length<=_
          rw [Nat.succ_mul]
          omega
theorem nP {A:List Int->List (List Int)} {row:List Int} {n:Nat} (h:∀i,i<row.length->∀r∈A (row.eraseIdx i),r.length=n):∀{i},i<=row.length->∀r∈outF A row i,r.length=n+1
 |0,_=>fun r hr=>nomatch hr
 |i+1,hi=>ua _ (h i (by omega)) (nP h (by omega))
theorem lJ:∀{d:Nat} {row:List Int},row.length<=d->∀r∈a8 d row,r.length=row.length
 |0,row,h,r,hr=>by
          rw [rc.mp hr]
          have:row.length=0 :=by omega
          rw [this];rfl
 |d+1,row,h,r,hr=>by
          unfold a8 at hr
          split at hr
          ·rename_i e
           rw [rc.mp hr,e]
          ·rename_i e
           have hp:0<row.length:=NJ.mpr e
           have:=nP (A:=a8 d) (row:=row) (n:=row.length - 1) (fun i hi r hr=>by
            have el:=EQ hi
            rw [lJ (by omega) r hr,el]) (br _) r ((dC _).mem_iff.mp hr)
           omega
theorem nQ:∀{d:Nat} {row:List Int},row.length<=d->(a8 d row).length<=nO row.length
 |0,row,h=>by
          have:row.length=0 :=by omega
          rw [this];exact br 1
 |d+1,row,h=>by
          unfold a8
          split
          ·rename_i e;rw [e];exact br 1
          ·rename_i e
           obtain ⟨n,hn⟩:∃n,row.length=n+1:=⟨row.length - 1,by have:=NJ.mpr e;omega⟩
           rw [(dC _).length_eq]
           have:=lH (A:=a8 d) (row:=row) (m:=nO n) (fun i hi=>by
            have el:=EQ hi
            have:=nQ (d:=d) (row:=row.eraseIdx i) (by omega)
            rw [el,hn] at this
            exact this) (br _)
           rw [hn] at this ⊢
           exact this
theorem o6 (g:Int):∀{rests f:List (List Int)},f≠[]\/rests≠[]->gX g rests f≠[]
 | [],f,h=>h.elim id fun z=>absurd rfl z
 |r::rests,f,_=>o6 g (f:=eQ f (g::r)) (.inl fun z=>by have:=zH (ks:=f) (k:=g::r);rw [z] at this;cases this)
theorem rJ:∀{d:Nat} {row:List Int},a8 d row≠[]
 |0,row=>fun h=>nomatch h
 |d+1,row=>by
          unfold a8
          split
          ·exact fun h=>nomatch h
          ·rename_i e
           obtain ⟨n,hn⟩:∃n,row.length=n+1:=⟨row.length - 1,by have:=NJ.mpr e;omega⟩
           intro z
           have:=(dC (outF (a8 d) row row.length)).length_eq
           rw [z,hn] at this
           have h0:outF (a8 d) row (n+1)≠[]:=o6 _ (.inr rJ)
           exact h0 (BY this.symm)
theorem ub {row:List Int} {M:Mh} {F:Bool->Mh->Prop} (h:F (decide (row=[])) M):qQ false (.tup (row.map .int)) (.tup []) M (zBool F) :=by
 have e1:bt (now M (.tup (row.map .int)))=some (.tup (row.map Dt.int)) :=by simp only [now,bt,qX,NT]
 have e2:bt (now M (.tup []))=some (.tup []):=rfl
 unfold qQ
 rw [e1,e2]
 refine ⟨by rw [i9];have:=Cj row;omega,?_⟩
 cases row with
 |nil=>exact h
 |cons x r=>exact h
def rK (d:Nat):eA:=fun ds M Q _=>∃row:List Int,ds=[eI row]/\row.length<=d/\row.length<=3/\Q (.lst ((a8 d row).map eI)) M
theorem zI {f:ag} {fd:nw} {k:Nat}:FnOk P w K mg base bC k f fd ["row"] (bj P w K tb fun _ _ _ _=>False):=
 have no:∀{vs H Q E},bj P w K tb (fun _ _ _ _=>False) vs H Q E->False:=fun h=>by obtain ⟨β,ds,M,Q',E',_,_,_,_,m,rs,s,_⟩:=h;exact s
 ⟨fun _ _ _ _ h=>(no h).elim,fun _ _ _ _ _ _ _ _ _ _ _ _ _ h=>(no h).elim⟩
theorem zJ {f:ag} {fd:nw} (D:Df K mg "arrangements" b9 ["row"] f fd) (bl:Bl mg):FnOk P w K mg base bC 1 f fd ["row"] (bj P w K tb (rK 0)) :=by
 have av:=D
 have bM:=zI (P:=P) (w:=w) (K:=K) (mg:=mg) (base:=base) (tb:=tb) (f:=f) (fd:=fd) (k:=0)
 refine fV D aV (fun ds M Q E hS=>by obtain ⟨row,e,_⟩:=hS;rw [e];rfl) fun A outer s E Γ ds Q' E' hP hw hK ht hr hS=>?_
 obtain ⟨row,e,h,_,q⟩:=hS
 refine ⟨_,(ah (cF (cJ (AH hr.units) (qv 0) (fk ae) (de _))
   (aq (a7 (jO (aa (fk ae) ae))))
   qss_nil)
  (ah (aQ (i:=1) aV.nd rfl (mo rfl) (oY hP hw rfl bl.set_))
  (ah (cg tw rfl (tW false (K:=K) rfl rfl bl.enumerate_ (qv 0)) (fun gV eP ew eK et=>by have hP:=hP.trans eP.symm;have hw:=hw.trans ew.symm;have hK:=hK.trans eK.symm;have ht:=ht.trans et.symm;exact ⟨(qO (n:=2) rfl (fy (aS (i:=2) aV.nd rfl (mo rfl)) (fy (aS (i:=3) aV.nd rfl (mo rfl)) nC))),(aq (cg tw rfl (km (K:=K) rfl (aN bM hr rfl av.mg av.fn.kp av.bd bz hP hw hK ht XR.none (aa (aI (mJ (K:=K) rfl) (iP (pE (K:=K) rfl) (qv 0) ko (kr (qv 2))) (iP (pE (K:=K) rfl) (qv 0) (kr (aI eF (qv 2) ao)) ko)) ae))) (fun gV eP ew eK et=>by have hP:=hP.trans eP.symm;have hw:=hw.trans ew.symm;have hK:=hK.trans eK.symm;have ht:=ht.trans et.symm;exact ⟨(aS (i:=4) aV.nd rfl (mo rfl)),(aq (fx (t8 hP hw hr.units (qv 1) (aa (aI (mJ (K:=K) rfl) (fk (aa (qv 3) ae)) (qv 4)) ae))))⟩)))⟩))
  (aq (a7 (aK (rB hP hw rfl) rfl bl.sorted_ oG (aa (qv 1) ae))))))),?_⟩
 subst e
 have hn:row=[]:=BY (by omega)
 subst hn
 simp! only [eI]
 refine ⟨l8 _,ub (row:=[]) ?_⟩
 rw [if_pos (by decide)]
 exact ⟨l8 _,by decide,.inl q⟩
theorem lK {f:ag} {fd:nw} {d k:Nat} (D:Df K mg "arrangements" b9 ["row"] f fd) (bM:FnOk P w K mg base bC k f fd ["row"] (bj P w K tb (rK d))) (bl:Bl mg):FnOk P w K mg base bC (k+1) f fd ["row"] (bj P w K tb (rK (d+1))) :=by
 have av:=D
 refine fV D aV (fun ds M Q E hS=>by obtain ⟨row,e,_⟩:=hS;rw [e];rfl) fun A outer s E Γ ds Q' E' hP hw hK ht hr hS=>?_
 obtain ⟨row,e,h,h3,q⟩:=hS
 refine ⟨_,(ah (cF (cJ (AH hr.units) (qv 0) (fk ae) (de _))
   (aq (a7 (jO (aa (fk ae) ae))))
   qss_nil)
  (ah (aQ (i:=1) aV.nd rfl (mo rfl) (oY hP hw rfl bl.set_))
  (ah (cg tw rfl (tW false (K:=K) rfl rfl bl.enumerate_ (qv 0)) (fun gV eP ew eK et=>by have hP:=hP.trans eP.symm;have hw:=hw.trans ew.symm;have hK:=hK.trans eK.symm;have ht:=ht.trans et.symm;exact ⟨(qO (n:=2) rfl (fy (aS (i:=2) aV.nd rfl (mo rfl)) (fy (aS (i:=3) aV.nd rfl (mo rfl)) nC))),(aq (cg tw rfl (km (K:=K) rfl (aN bM hr rfl av.mg av.fn.kp av.bd bz hP hw hK ht XR.none (aa (aI (mJ (K:=K) rfl) (iP (pE (K:=K) rfl) (qv 0) ko (kr (qv 2))) (iP (pE (K:=K) rfl) (qv 0) (kr (aI eF (qv 2) ao)) ko)) ae))) (fun gV eP ew eK et=>by have hP:=hP.trans eP.symm;have hw:=hw.trans ew.symm;have hK:=hK.trans eK.symm;have ht:=ht.trans et.symm;exact ⟨(aS (i:=4) aV.nd rfl (mo rfl)),(aq (fx (t8 hP hw hr.units (qv 1) (aa (aI (mJ (K:=K) rfl) (fk (aa (qv 3) ae)) (qv 4)) ae))))⟩)))⟩))
  (aq (a7 (aK (rB hP hw rfl) rfl bl.sorted_ oG (aa (qv 1) ae))))))),?_⟩
 subst e
 have big:(1000:Nat)<sizeLine :=by decide
 simp! only [eI]
 refine ⟨l8 _,ub ?_⟩
 refine f6 (fun h0=>?_) (fun h0=>?_)
 ·have h0:=of_decide_eq_true h0
  subst h0
  exact ⟨l8 _,by decide,.inl q⟩
 ·have h0:=of_decide_eq_false h0
  intro a ha
  obtain ⟨n,hn⟩:∃n,row.length=n+1:=⟨row.length - 1,by have:=NJ.mpr h0;omega⟩
  have rL:∀i,i<row.length->(row.eraseIdx i).length=n:=fun i hi=>by rw [EQ hi,hn];rfl
  have fn:nO n<=2 :=by
   rcases (show n=0\/n=1\/n=2 by omega) with rfl|rfl|rfl <;> decide
  have al:∀i,i<row.length->(a8 d (row.eraseIdx i)).length<=nO n:=fun i hi=>by
   have:=nQ (d:=d) (row:=row.eraseIdx i) (by rw [rL i hi];omega)
   rwa [rL i hi] at this
  have ol:∀i,i<=row.length->(outF (a8 d) row i).length<=i * 2:=fun i hi=>sB (lH al hi) (Nat.mul_le_mul_left i fn)
  refine bJ (fun i ρ M=>∃x2 x3 x4,ρ=[some (eI row),some (.ptr a),x2,x3,x4]/\M=ay Γ.M0 a (mR (outF (a8 d) row i))/\i<=row.length) ⟨_,_,_,rfl,rfl,l8 _⟩ (fun i z ρ M N hd hJ hN=>?_) (fun ρ M hJ=>?_)
  ·obtain ⟨x2,x3,x4,rfl,rfl,hi⟩:=hJ
   obtain ⟨x,y,rfl,ex,ey⟩:=xm hd
   obtain ⟨rfl,jK⟩:=Cm ex
   rw [cr] at ey
   obtain ⟨g,hg,rfl⟩:=r6.mp ey
   have MM:row.getD i 0=g :=by rw [db,hg];rfl
   refine ⟨rfl,?_⟩
   have e1:((i:Nat):Int)+1=((i+1:Nat):Int) :=by omega
   have er:(row.map Dv.int).take i++(row.map Dv.int).drop (i+1)=(row.eraseIdx i).map .int :=by rw [NL,AE,List.map_take,List.map_drop]
   have el:=rL i jK
   have sz:((row.map Dv.int).take i).length+((row.map Dv.int).drop (i+1)).length<=3 :=by rw [GT,OQ,c8];omega
   simp! only [eI,e1,Cp,xn]
   refine ⟨by omega,row.eraseIdx i,by rw [er],by omega,by omega,?_⟩
   have rl:∀r∈a8 d (row.eraseIdx i),r.length=n:=fun r hr=>by rw [lJ (by omega) r hr,el]
   have MN:=al i jK
   have Jj:=ol i hi
   have oe:outF (a8 d) row (i+1)=gX g (a8 d (row.eraseIdx i)) (outF (a8 d) row i) :=by rw [<- MM];rfl
   rw [oe] at hN
   generalize a8 d (row.eraseIdx i)=rests at rl MN hN ⊢
   generalize outF (a8 d) row i=f0 at Jj hN ⊢
   refine bJ (fun l ρ M=>∃x4,ρ=[some (eI row),some (.ptr a),some (.int (i:Nat)),some (.int g),x4]/\M=ay Γ.M0 a (mR (gX g (rests.take l) f0))/\l<=rests.length) ⟨_,rfl,rfl,l8 _⟩ (fun l z ρ M N2 hd hJ j1=>?_) (fun ρ M hJ=>?_)
   ·obtain ⟨x4,rfl,rfl,hl⟩:=hJ
    rw [cr] at hd
    obtain ⟨r,hr,rfl⟩:=r6.mp hd
    have t9:=(bv.mp hr).1
    have NQ:=rl r (im hr)
    have bl:=lF g (rests.take l) f0
    rw [GT] at bl
    simp! only [eI]
    refine ⟨a,rfl,⟨_,updM_same⟩,by omega,by omega,_,g::r,rfl,updM_same,by omega,?_⟩
    rw [updM_updM]
    refine j1 _ _ ⟨_,rfl,?_,t9⟩
    rw [List.take_succ,hr,Pv,xW]
   ·obtain ⟨x4,rfl,rfl,hl⟩:=hJ
    rw [c8,OS]
    exact hN _ _ ⟨_,_,_,rfl,rfl,jK⟩
  ·obtain ⟨x2,x3,x4,rfl,rfl,hi⟩:=hJ
   rw [pairsD_len,numD_len,c8,Pd]
   simp! only [eI]
   have Jj:=ol row.length (br _)
   refine ⟨a,_,rfl,updM_same,by omega,fun r hr e=>?_,?_⟩
   ·have:=nP (A:=a8 d) (row:=row) (n:=n) (fun i hi r hr=>by rw [lJ (by rw [rL i hi];omega) r hr,rL i hi]) (br _) r hr
    rw [e] at this
    cases this
   ·have er:a8 (d+1) row=gi (outF (a8 d) row row.length) :=by unfold a8;rw [if_neg h0]
    rw [er] at q
    refine jW (.upd ha .refl) (.lst fun z hz=>?_) q
    obtain ⟨k,_,rfl⟩:=l9.mp hz
    exact xi k
end
section
variable {P:gl} {w:ii} {K:bi} {mg:cb->Option am} {base:ij} {tb:d9} {C_NoNet C_NoNumber:ag}
theorem fI:a9 ["net","many","row"] ["net"] (aw fo):=⟨rfl,rfl,rfl,by decide +kernel,rfl,by decide +kernel,by decide +kernel⟩
theorem dG:a9 ["net","number","rows","row","choices","at"] ["net","number"] (aw hU):=⟨rfl,rfl,rfl,by decide +kernel,rfl,by decide +kernel,by decide +kernel⟩
def cC (row:List Int):Nat:=(a8 3 row).length
def cT (aA:List (List Int)):Nat:=aA.foldl (fun m r=>m * cC r) 1
theorem vf (aA:List (List Int)) (r:List Int):cT (aA++[r])=cT aA * cC r :=by unfold cT;rw [List.foldl_append];rfl
theorem rM (row:List Int):0<cC row:=NJ.mpr rJ
theorem Hr {n:Nat} (h:n<=3):nO n<=6 :=by rcases (show n=0\/n=1\/n=2\/n=3 by omega) with rfl|rfl|rfl|rfl <;> decide
theorem nR {row:List Int} (h:row.length<=3):cC row<=6:=sB (nQ h) (Hr h)
theorem nS {aA:List (List Int)} {n:Nat} (O:iG aA n) {r:List Int} (h:r∈aA):r.length<=3 :=by
 have:=(O.row r h).1
 have:=O.wid
 omega
def zK:eA:=fun ds M Q _=>∃aA n,ds=[eN aA]/\iG aA n/\Q (.int (cT aA:Nat)) M
theorem sF {f f1 f2:ag} {fd cP fd2:nw} (D:Df K mg "signings" fo ["net"] f fd)
  (dH:Df K mg "need_net" gj ["thing"] f1 cP) (iW:FnOk P w K mg base (dR P w) 7 f1 cP ["thing"] (bj P w K tb (Ba C_NoNet)))
  (av:Df K mg "arrangements" b9 ["row"] f2 fd2) (bM:FnOk P w K mg base bC 4 f2 fd2 ["row"] (bj P w K tb (rK 3))) (bl:Bl mg) :
  FnOk P w K mg base (dR P w) 8 f fd ["net"] (bj P w K tb zK) :=by
 refine uU D fI (fun ds M Q E hS=>by obtain ⟨aA,n,e,_⟩:=hS;rw [e];rfl) fun A outer s E Γ ds Q' E' hP hw hK ht hE hr hS=>?_
 obtain ⟨aA,n,e,O,q⟩:=hS
 refine ⟨_,(ah (fx (aN iW (hr.mono (by decide)) rfl dH.mg dH.fn.kp dH.bd An hP hw hK ht hE (aa (qv 0) ae)))
  (ah (aQ (i:=1) fI.nd rfl (mo rfl) ao)
  (ah (PS.lU (cg tw rfl (mF (K:=K) rfl (qv 0)) (fun gV eP ew eK et=>by have hP:=hP.trans eP.symm;have hw:=hw.trans ew.symm;have hK:=hK.trans eK.symm;have ht:=ht.trans et.symm;exact ⟨(aS (i:=2) fI.nd rfl (mo rfl)),(aq (CB (i:=1) fI.nd rfl (mo rfl) (aK (fH (K:=K) rfl hK) rfl bl.len_ CS (aa (aN bM (hr.mono (by decide)) rfl av.mg av.fn.kp av.bd bz hP hw hK ht XR.none (aa (qv 2) ae)) ae))))⟩)))
  (aq (a7 (qv 1)))))),?_⟩
 subst e
 have h9:=O.nine
 have big:(1000:Nat)<sizeLine :=by decide
 refine ⟨_,rfl,CG aA,fun _=>?_,fun h=>by rw [CF O] at h;cases h⟩
 simp! only []
 refine bJ (fun k ρ M=>(∃x2,ρ=[some (eN aA),some (.int (cT (aA.take k):Nat)),x2])/\M=Γ.M0/\k<=aA.length) ⟨⟨_,rfl⟩,rfl,l8 _⟩ (fun k d ρ M N hd hJ hN=>?_) (fun ρ M hJ=>?_)
 ·obtain ⟨⟨x2,rfl⟩,rfl,hk⟩:=hJ
  rw [cr] at hd
  obtain ⟨r,hr,rfl⟩:=r6.mp hd
  have aX:=(bv.mp hr).1
  have h3:=nS O (im hr)
  have c6:=nR h3
  simp! only []
  refine ⟨_,rfl,r,rfl,h3,h3,?_⟩
  refine ⟨(cC r:Nat),by rw [c8];rfl,.inr ⟨by omega,by omega⟩,hN _ _ ⟨⟨some (eI r),?_⟩,rfl,aX⟩⟩
  rw [List.take_succ,hr,Pv,vf,Int.natCast_mul]
 ·obtain ⟨⟨x2,rfl⟩,rfl,hk⟩:=hJ
  rw [c8,OS]
  simp! only []
  exact .inl q
def j6:List (List Int)->Nat->List (List Int)
 | [],_=>[]
 |r::l,m=>(a8 3 r).getD (m % cC r) []::j6 l (m / cC r)
def rN:List (List Int)->Nat->Nat
 | [],m=>m
 |r::l,m=>rN l (m / cC r)
theorem rO (r:List Int):∀(l:List (List Int)) (m:Nat),j6 (l++[r]) m=j6 l m++[(a8 3 r).getD (rN l m % cC r) []]
 | [],m=>rfl
 |a::l,m=>by
          show _::j6 (l++[r]) _=_
          rw [rO r l]
          rfl
theorem rP (r:List Int):∀(l:List (List Int)) (m:Nat),rN (l++[r]) m=rN l m / cC r
 | [],m=>rfl
 |a::l,m=>rP r l _
theorem ud:∀(l:List (List Int)) (m:Nat),(j6 l m).length=l.length
 | [],m=>rfl
 |a::l,m=>congrArg Nat.succ (ud l _)
def Bb (aA:List (List Int)) (m:Nat):List (List Int):=(j6 aA.reverse m).reverse
def Bc (C:ag):eA:=fun ds M Q E=>∃aA n d,ds=[eN aA,d]/\iG aA n/\j5 d=true/\(∀m:Nat,d=.int (m:Nat)->m<cT aA->Q (eN (Bb aA m)) M)/\(bw (cT aA:Nat) d=false->E C M)
theorem vg {f f1 f2 f3:ag} {fd cP fd2 o5:nw} {C0:ag} {cs:List ag} (D:Df K mg "signing" hU ["net","number"] f fd)
  (bH:Df K mg "signings" fo ["net"] f1 cP) (dI:FnOk P w K mg base (dR P w) 8 f1 cP ["net"] (bj P w K tb zK))
  (av:Df K mg "arrangements" b9 ["row"] f2 fd2) (bM:FnOk P w K mg base bC 4 f2 fd2 ["row"] (bj P w K tb (rK 3)))
  (aF:Df K mg "is_whole_below" bL ["thing","many"] f3 o5) (eR:FnOk P w K mg base bC 2 f3 o5 ["thing","many"] (bj P w K tb xS))
  (X_:nq K C0 cs) (bI:C_NoNumber∈cs) (dJ:mg "NoNumber" = some (.ref C_NoNumber)) (bl:Bl mg) :
  FnOk P w K mg base (dR P w) 9 f fd ["net","number"] (bj P w K tb (Bc C_NoNumber)) :=by
 refine uU D dG (fun ds M Q E hS=>by obtain ⟨aA,n,d,e,_⟩:=hS;rw [e];rfl) fun A outer s E Γ ds Q' E' hP hw hK ht hE hr hS=>?_
 obtain ⟨aA,n,d,e,O,hk,q1,q2⟩:=hS
 refine ⟨_,(ah (cF (iz (fj (aN eR (hr.mono (by decide)) rfl aF.mg aF.fn.kp aF.bd bz hP hw hK ht XR.none (aa (qv 1) (aa (aN dI (hr.mono (by decide)) rfl bH.mg bH.fn.kp bH.bd An hP hw hK ht hE (aa (qv 0) ae)) ae)))))
   (aq (qV (X_.ex _ bI) PySem.F.excBase_ValueError rfl wu hE rfl dJ (aa qI ae)))
   qss_nil)
  (ah (aQ (i:=2) dG.nd rfl (mo rfl) (kj ae))
  (ah (PS.lU (cg tw rfl (Cz (K:=K) rfl rfl bl.reversed_ (aa (qv 0) ae)) (fun gV eP ew eK et=>by have hP:=hP.trans eP.symm;have hw:=hw.trans ew.symm;have hK:=hK.trans eK.symm;have ht:=ht.trans et.symm;exact ⟨(aS (i:=3) dG.nd rfl (mo rfl)),(ah (aQ (i:=4) dG.nd rfl (mo rfl) (aN bM (hr.mono (by decide)) rfl av.mg av.fn.kp av.bd bz hP hw hK ht XR.none (aa (qv 3) ae)))
  (ah (iA (aK zg rfl bl.divmod_ xN (aa (qv 1) (aa (aK (fH (K:=K) rfl hK) rfl bl.len_ CS (aa (qv 4) ae)) ae))) (qO (n:=2) rfl (fy (aS (i:=1) dG.nd rfl (mo rfl)) (fy (aS (i:=5) dG.nd rfl (mo rfl)) nC))))
  (aq (fx (pF (K:=K) rfl NO Ow Ox lx (qv 2) (aa (cn (dX (K:=K) rfl) (qv 4) (qv 5) (fun _ _=>rfl)) ae))))))⟩)))
  (aq (a7 (sx (K:=K) rfl rfl rfl bl.tuple_ rfl bl.reversed_ (qv 2))))))),?_⟩
 subst e
 have h9:=O.nine
 have big:(1000:Nat)<sizeLine :=by decide
 simp! only []
 refine ⟨aA,n,rfl,O,d,_,rfl,hk,?_⟩
 cases hb:bw (cT aA:Nat) d with
 |false=>
  simp! only []
  exact ⟨by omega,q2 hb⟩
 |true=>
  obtain ⟨m,rfl,hm⟩:∃m:Nat,d=.int (m:Nat)/\m<cT aA :=by
   cases d with
   |int i=>
    simp only [bw,xw,decide_eq_true_eq] at hb
    exact ⟨i.toNat,by rw [Int.toNat_of_nonneg hb.1],by omega⟩
   |_=>cases hb
  have q1:=q1 m rfl hm
  simp! only []
  refine ⟨l8 _,fun a ha=>?_⟩
  refine bJ (fun k ρ M=>(∃x3 x4 x5,ρ=[some (eN aA),some (.int (rN (aA.reverse.take k) m:Nat)),some (.ptr a),x3,x4,x5])/\M=ay Γ.M0 a (.lst ((j6 (aA.reverse.take k) m).map eI))/\k<=aA.length) ⟨⟨_,_,_,rfl⟩,rfl,l8 _⟩ (fun k z ρ M N hd hJ hN=>?_) (fun ρ M hJ=>?_)
  ·obtain ⟨⟨x3,x4,x5,rfl⟩,rfl,xH⟩:=hJ
   rw [<- List.map_reverse,cr] at hd
   obtain ⟨r,hr,rfl⟩:=r6.mp hd
   have aX:=(bv.mp hr).1
   rw [xz] at aX
   have h3:=nS O (List.mem_reverse.mp (im hr))
   have c6:=nR h3
   have cp:=rM r
   have F8:=Pc (rN (aA.reverse.take k) m) cp
   have tk:=List.take_succ (i:=k) (l:=aA.reverse)
   rw [hr,Pv] at tk
   rw [tk,rO,rP] at hN
   have sl:(j6 (aA.reverse.take k) m).length<=9 :=by rw [ud,GT,xz];omega
   generalize rN (aA.reverse.take k) m=qq at F8 hN ⊢
   generalize j6 (aA.reverse.take k) m=ss at sl hN ⊢
   have jt:cu ((a8 3 r).map eI) ((qq % cC r:Nat):Int)=some (eI ((a8 3 r).getD (qq % cC r) [])) :=by
    refine cY ?_
    have:(a8 3 r)[qq % cC r]?=some ((a8 3 r).getD (qq % cC r) []) :=by rw [db,ap F8];rfl
    rw [cr,this];rfl
   have e1:((qq:Int) / ((a8 3 r).length:Int))=((qq / cC r:Nat):Int) :=by rw [Int.natCast_ediv];rfl
   have e2:((qq:Int) % ((a8 3 r).length:Int))=((qq % cC r:Nat):Int) :=by rw [Int.natCast_emod];rfl
   simp! only []
   refine ⟨r,rfl,h3,h3,?_⟩
   simp! only [e1,e2,jt]
   have cd:pP (qq:Int) ((a8 3 r).length:Int) :=by
    have e:(a8 3 r).length=cC r:=rfl
    rw [e]
    exact ⟨by omega,by omega⟩
   exact ⟨cd,by omega,hN _ _ ⟨⟨_,_,_,rfl⟩,by rw [AE];rfl,aX⟩⟩
  ·obtain ⟨⟨x3,x4,x5,rfl⟩,rfl,xH⟩:=hJ
   have el:(List.map eI aA).reverse.length=aA.reverse.length :=by simp
   rw [el,OS]
   simp! only []
   refine ⟨a,_,rfl,updM_same,?_⟩
   have e:(Dv.tup ((j6 aA.reverse m).map eI).reverse)=eN (Bb aA m) :=by
    show Dv.tup _=Dv.tup ((j6 aA.reverse m).reverse.map eI)
    rw [List.map_reverse]
   rw [e]
   exact jW (.upd ha .refl) (xj _) q1
end
section
variable {P:gl} {w:ii} {K:bi} {mg:cb->Option am} {base:ij} {tb:d9} {C_RoadError C_NoNet C_NoPlace C_NoSign C_NoWord C_NoWhole C_NoNumber C_NoKin C_TooMany:ag} {cs:List ag}
theorem hV:a9 ["_law_net_here","_law_number","e"] ["_law_net_here","_law_number"] (aw dE):=⟨rfl,rfl,rfl,by decide +kernel,rfl,by decide +kernel,by decide +kernel⟩
theorem fQ:a9 ["_law_script","_law_k","_law_bag_here","_law_net_here","_law_whole","_law_more","_law_odd","_law_number"] ["_law_script"] (aw u6):=⟨rfl,rfl,rfl,by decide +kernel,rfl,by decide +kernel,by decide +kernel⟩
def xX:eA:=fun ds M Q _=>∃aA n d,ds=[eN aA,d]/\iG aA n/\j5 d=true/\((∃m:Nat,d=.int (m:Nat)/\m<cT aA)->Q (.bl false) M)/\(bw (cT aA:Nat) d=false->Q (.bl true) M)
theorem nT {f f1:ag} {fd cP:nw} (D:Df K mg "_law_refused" dE ["_law_net_here","_law_number"] f fd)
  (eZ:Df K mg "signing" hU ["net","number"] f1 cP) (j7:FnOk P w K mg base (dR P w) 9 f1 cP ["net","number"] (bj P w K tb (Bc C_NoNumber)))
  (X_:nq K C_RoadError cs) (gr:C_NoNet∈cs) (j8:C_NoPlace∈cs) (lL:C_NoSign∈cs) (lM:C_NoWord∈cs) (j9:C_NoWhole∈cs) (bI:C_NoNumber∈cs) (nU:C_NoKin∈cs) (ka:C_TooMany∈cs)
  (nd:[C_NoNet,C_NoPlace,C_NoSign,C_NoWord,C_NoWhole,C_NoNumber,C_NoKin,C_TooMany].Nodup)
  (ie:mg "RoadError" = some (.ref C_RoadError)) (gu:mg "NoNet" = some (.ref C_NoNet)) (kb:mg "NoPlace" = some (.ref C_NoPlace)) (lN:mg "NoSign" = some (.ref C_NoSign)) (lP:mg "NoWord" = some (.ref C_NoWord)) (kc:mg "NoWhole" = some (.ref C_NoWhole)) (dJ:mg "NoNumber" = some (.ref C_NoNumber)) (nV:mg "NoKin" = some (.ref C_NoKin)) (ke:mg "TooMany" = some (.ref C_TooMany)) (bl:Bl mg) :
  FnOk P w K mg base bC 10 f fd ["_law_net_here","_law_number"] (bj P w K tb xX) :=by
 refine fV D hV (fun ds M Q E hS=>by obtain ⟨aA,n,d,e,_⟩:=hS;rw [e];rfl) fun A outer s E Γ ds Q' E' hP hw hK ht hr hS=>?_
 obtain ⟨aA,n,d,e,O,hk,q1,q2⟩:=hS
 refine ⟨_,(ah (FC (i:=2) (nn:=3) rfl hV.nd rfl rfl ⟨rfl,rfl⟩ rfl X_.top rfl ie (fun T pn EE E2 gV MO MP MQ MR hp MS=>by
   have hP:=hP.trans MO.symm
   have hw:=hw.trans MP.symm
   have hK:=hK.trans MQ.symm
   have ht:=ht.trans MR.symm
   exact (aq (fx (aN j7 (hr.mono (by decide)) rfl eZ.mg eZ.fn.kp eZ.bd hp hP hw hK ht MS (aa (qv 0) (aa (qv 1) ae))))))
   (fun ea=>(ah (cF (fj (aK (uW (K:=K) rfl) rfl bl.isinstance_ bT (aa (qv 2) (aa (fk (aa (dv (v:=.ref C_NoKin) rfl nV rfl) (aa (dv (v:=.ref C_NoNet) rfl gu rfl) (aa (dv (v:=.ref C_NoPlace) rfl kb rfl) (aa (dv (v:=.ref C_NoSign) rfl lN rfl) (aa (dv (v:=.ref C_NoWhole) rfl kc rfl) (aa (dv (v:=.ref C_NoWord) rfl lP rfl) (aa (dv (v:=.ref C_TooMany) rfl ke rfl) ae)))))))) ae))))
   (aq (a7 fi))
   qss_nil)
  (aq (a7 (qN (aK (uW (K:=K) rfl) rfl bl.isinstance_ bT (aa (qv 2) (aa (dv (v:=.ref C_NoNumber) rfl dJ rfl) ae))) (qM (aK (uW (K:=K) rfl) rfl bl.isinstance_ bT (aa (qv 2) (aa (iy (v:=.ty "ValueError") rfl bl.ValueError_ o9 rfl) ae))))))))))
  (aq (a7 fi))),?_⟩
 subst e
 simp! only []
 refine ⟨aA,n,d,rfl,O,hk,fun m e hm=>?_,fun hb=>⟨X_.sub _ bI,?_⟩⟩
 ·exact .inl (q1 ⟨m,e,hm⟩)
 ·have hC:=X_.cl _ bI
  have F9:PySem.W.kitAny K (.ref C_NoNumber) ([C_NoKin,C_NoNet,C_NoPlace,C_NoSign,C_NoWhole,C_NoWord,C_TooMany].map lc)=some false :=by
   rw [X_.any bI (by simp [gr,j8,lL,j9,lM,nU,ka])]
   congr 1
   simp at nd ⊢
   simp [nd,BN]
  simp only [wP,O8] at F9
  refine ⟨by decide,hC,[C_NoKin,C_NoNet,C_NoPlace,C_NoSign,C_NoWhole,C_NoWord,C_TooMany],rfl,?_⟩
  simp! only [F9,X_.one _ bI _ bI,X_.val _ bI]
  exact ⟨hC,hC,.inl (q2 hb)⟩
theorem xY:∀aA:List (List Int),0<cT aA:=fun aA=>by
 have key:∀(l:List (List Int)) (m:Nat),0<m->0<l.foldl (fun m r=>m * cC r) m:=fun l=>by
  induction l with
  |nil=>exact fun m h=>h
  |cons r l ih=>exact fun m h=>ih _ (Nat.mul_pos h (rM r))
 exact key aA 1 (by decide)
theorem zL {aA:List (List Int)} {n:Nat} (O:iG aA n):cT aA<=10077696 :=by
 have key:∀(l:List (List Int)) (m:Nat),(∀r∈l,cC r<=6)->l.foldl (fun m r=>m * cC r) m<=m * 6 ^ l.length:=fun l=>by
  induction l with
  |nil=>intro m _;simp
  |cons r l ih=>
   intro m h
   have h1:=ih (m * cC r) fun x hx=>h x (ff _ hx)
   have h2:=Nat.mul_le_mul_left m (h r kt)
   have h3:=Nat.mul_le_mul_right (6 ^ l.length) h2
   rw [P7,B0,Nat.pow_succ,Nat.mul_comm (6 ^ l.length),<- Nat.mul_assoc]
   exact sB h1 h3
 have h:=key aA 1 fun r hr=>nR (nS O hr)
 have h9:6 ^ aA.length<=6 ^ 9:=Nat.pow_le_pow_right (by decide) O.nine
 have:(6:Nat) ^ 9=10077696 :=by decide
 unfold cT
 omega
theorem Ga {f f1 f2 f3 f4 f5:ag} {fd cP fd2 o5 Jk Jl:nw} (D:Df K mg "law" u6 ["_law_script"] f fd)
  (dM:Df K mg "_law_bag" gk ["_law_script","_law_at"] f1 cP) (vh:FnOk P w K mg base bC 1 f1 cP ["_law_script","_law_at"] (bj P w K tb FW))
  (dN:Df K mg "_law_net" cS ["_law_bag_here","_law_most"] f2 fd2) (vi:FnOk P w K mg base bC 3 f2 fd2 ["_law_bag_here","_law_most"] (bj P w K tb A0))
  (ak:Df K mg "_law_take" c0 ["_law_bag_here","_law_many"] f3 o5) (bo:FnOk P w K mg base bC 1 f3 o5 ["_law_bag_here","_law_many"] (bj P w K tb pH))
  (bH:Df K mg "signings" fo ["net"] f4 Jk) (dI:FnOk P w K mg base (dR P w) 8 f4 Jk ["net"] (bj P w K tb zK))
  (aR:Df K mg "_law_refused" dE ["_law_net_here","_law_number"] f5 Jl) (fG:FnOk P w K mg base bC 10 f5 Jl ["_law_net_here","_law_number"] (bj P w K tb xX)) (bl:Bl mg) :
  FnOk P w K mg base bC 11 f fd ["_law_script"] (bj P w K tb FD) :=by
 refine fV D fQ (fun ds M Q E hS=>by obtain ⟨ns,e,_⟩:=hS;rw [e];rfl) fun A outer s E Γ ds Q' E' hP hw hK ht hr hS=>?_
 obtain ⟨ns,e,hl,hM,q⟩:=hS
 refine ⟨_,(ah (cg tw rfl (cz rfl bl.range_ (aa (aK (Fv rfl) rfl bl.max_ Eo (aa ao (aa (aK (qR rfl) rfl bl.min_ qg (aa ao (aa (aK (fH (K:=K) rfl hK) rfl bl.len_ CS (aa (qv 0) ae)) ae))) ae))) ae)) (fun gV eP ew eK et=>by have hP:=hP.trans eP.symm;have hw:=hw.trans ew.symm;have hK:=hK.trans eK.symm;have ht:=ht.trans et.symm;exact ⟨(aS (i:=1) fQ.nd rfl (mo rfl)),(ah (aQ (i:=2) fQ.nd rfl (mo rfl) (aN vh (hr.mono (by decide)) rfl dM.mg dM.fn.kp dM.bd bz hP hw hK ht XR.none (aa (qv 0) (aa (qv 1) ae))))
  (ah (aQ (i:=3) fQ.nd rfl (mo rfl) (aN vi (hr.mono (by decide)) rfl dN.mg dN.fn.kp dN.bd bz hP hw hK ht XR.none (aa (qv 2) (aa ao ae))))
  (ah (aQ (i:=4) fQ.nd rfl (mo rfl) (aN dI (hr.mono (by decide)) rfl bH.mg bH.fn.kp bH.bd G5 hP hw hK ht XR.none (aa (qv 3) ae)))
  (ah (aQ (i:=5) fQ.nd rfl (mo rfl) (aN bo (hr.mono (by decide)) rfl ak.mg ak.fn.kp ak.bd bz hP hw hK ht XR.none (aa (qv 2) (aa (aI AG ao ao) ae))))
  (ah (aQ (i:=6) fQ.nd rfl (mo rfl) (jO (aa (qv 4) (aa (aI eF (qv 4) (qv 5)) (aa (qW ao) (aa (aI mI (qW ao) (qv 5)) (aa fi (aa fi (aa Fh (aa (jS FR rfl bl.str_ En (aa (aI mI (qv 4) ao) ae)) (aa (jO (aa ao ae)) (aa (fk (aa ao ae)) (aa qI (aa (qW (qv 4)) ae))))))))))))))
  (ah (cg tw rfl (km (K:=K) rfl (qv 6)) (fun gV eP ew eK et=>by have hP:=hP.trans eP.symm;have hw:=hw.trans ew.symm;have hK:=hK.trans eK.symm;have ht:=ht.trans et.symm;exact ⟨(aS (i:=7) fQ.nd rfl (mo rfl)),(aq (cF (iz (fj (aN fG (hr.mono (by decide)) rfl aR.mg aR.fn.kp aR.bd bz hP hw hK ht XR.none (aa (qv 3) (aa (qv 7) ae)))))
   (aq (a7 fi))
   qss_nil))⟩))
  (aq (cF (QW.pt (uQ (fj (aN fG (hr.mono (by decide)) rfl aR.mg aR.fn.kp aR.bd bz hP hw hK ht XR.none (aa (qv 3) (aa (aI mI (qv 4) ao) ae)))) (qK (fj (aN fG (hr.mono (by decide)) rfl aR.mg aR.fn.kp aR.bd bz hP hw hK ht XR.none (aa (qv 3) (aa ao ae)))))))
   (aq (a7 fi))
   qss_nil))))))))⟩))
  (aq (a7 fi))),?_⟩
 subst e
 simp! only []
 refine ⟨by split <;> split <;> omega,by split <;> split <;> omega,?_⟩
 refine bJ (fun k ρ M=>∃x1 x2 x3 x4 x5 x6 x7,ρ=[some (.bc ns),x1,x2,x3,x4,x5,x6,x7]) ⟨_,_,_,_,_,_,_,rfl⟩ (fun k d ρ M N hd hJ hN=>?_) (fun ρ M _=>.inl (q _))
 obtain ⟨x1,x2,x3,x4,x5,x6,x7,rfl⟩:=hJ
 obtain ⟨rfl,hk⟩:=cO hd
 have hk:k<=20 :=by split at hk <;> split at hk <;> omega
 have big:(10000:Nat)<sizeLine :=by decide
 dsimp! only []
 refine ⟨ns,_,rfl,hl,by omega,by omega,fun b hb=>?_⟩
 refine ⟨b,9,rfl,updM_same,by omega,by omega,fun aA n O _=>?_⟩
 dsimp! only []
 refine ⟨aA,n,rfl,O,?_⟩
 have pp:=xY aA
 have pl:=zL O
 obtain ⟨W,hW⟩:∃W,W=cT aA:=⟨_,rfl⟩
 rw [<- hW] at pp pl ⊢
 have MT:(10:Int) ^ Int.toNat 30=1000000000000000000000000000000 :=by decide
 dsimp! only [MT]
 refine ⟨⟨by decide,by decide,by decide⟩,b,_,rfl,updM_same,by omega,by omega,fun more M8=>?_⟩
 have lg:((W:Int) - 1).natAbs.log2<1920 :=by
  by_cases z:((W:Int) - 1).natAbs=0
  ·rw [z];decide
  ·exact l5 ((Nat.log2_lt (k:=24) z).mpr (by omega)) (by decide)
 dsimp only
 refine ⟨lg,by omega,by omega,by omega,?_⟩
 have no:∀i:Int,i<0\/(W:Int)<=i->bw (W:Nat) (.int i)=false:=fun i h=>by
  simp only [bw,Bool.and_eq_false_iff,decide_eq_false_iff_not]
  omega
 refine bJ (fun k2 ρ M2=>(∃x6 x7,ρ=[some (.bc ns),some (.int (k:Nat)),some (.ptr b),some (eN aA),some (.int (W:Nat)),some (.int (more:Nat)),x6,x7])/\M2=ay M b .cy) ⟨⟨_,_,rfl⟩,rfl⟩ (fun k2 d2 ρ M2 N2 hd2 hJ j1=>?_) (fun ρ M2 hJ=>?_)
 ·obtain ⟨⟨x6,x7,rfl⟩,rfl⟩:=hJ
  have nN:=im hd2
  have Bd:j5 d2=true/\bw (W:Nat) d2=false :=by
   simp only [lw,AN,or_false] at nN
   rcases nN with rfl|rfl|rfl|rfl|rfl|rfl|rfl|rfl|rfl|rfl|rfl|rfl
   ·exact ⟨rfl,no _ (by omega)⟩
   ·exact ⟨rfl,no _ (by omega)⟩
   ·exact ⟨rfl,no _ (by omega)⟩
   ·exact ⟨rfl,no _ (by omega)⟩
   ·exact ⟨rfl,rfl⟩
   ·exact ⟨rfl,rfl⟩
   ·exact ⟨rfl,rfl⟩
   ·exact ⟨rfl,rfl⟩
   ·exact ⟨rfl,rfl⟩
   ·exact ⟨rfl,rfl⟩
   ·exact ⟨rfl,rfl⟩
   ·exact ⟨rfl,no _ (by omega)⟩
  dsimp! only []
  refine ⟨aA,n,d2,rfl,O,Bd.1,fun ⟨m,e,hm⟩=>?_,fun _=>?_⟩
  ·have fM:=Bd.2
   rw [e] at fM
   simp only [bw,Bool.and_eq_false_iff,decide_eq_false_iff_not] at fM
   omega
  ·dsimp! only []
   exact j1 _ _ ⟨⟨_,_,rfl⟩,rfl⟩
 ·obtain ⟨⟨x6,x7,rfl⟩,rfl⟩:=hJ
  have yes:∀i:Int,0<=i->i<(W:Int)->bw (W:Nat) (.int i)=true:=fun i h1 h2=>by simp [bw,h1,h2]
  dsimp! only []
  refine ⟨aA,n,_,rfl,O,rfl,fun _=>?_,fun fM=>?_⟩
  ·dsimp! only []
   refine ⟨aA,n,_,rfl,O,rfl,fun _=>?_,fun fM=>?_⟩
   ·dsimp! only []
    exact hN _ _ ⟨_,_,_,_,_,_,_,rfl⟩
   ·rw [<- hW,yes 0 (by omega) (by omega)] at fM;cases fM
  ·rw [<- hW,yes _ (by omega) (by omega)] at fM;cases fM
end
theorem all_mk {l:Qe} {w:ii} {K:bi} {h:ij} {mg:cb->Option am} {fa:ag} {tabs lts:List ag} {C_RoadError C_NoNet C_NoPlace C_NoSign C_NoWord C_NoWhole C_NoNumber C_NoKin C_TooMany:ag} (X:K.In h) (G:h.Ns mainGlobals mg) (MU:mg "law" = some (.ref fa))
  (T:wn (TabOf mg h) ["is_row","is_net"] tabs) (U:wn (TabOf mg h) [] lts)
  (sG:kw K mainGlobals "RoadError" = some (some (.ref C_RoadError)))
  (CH:kw K mainGlobals "NoNet" = some (some (.ref C_NoNet)))
  (xZ:kw K mainGlobals "NoPlace" = some (some (.ref C_NoPlace)))
  (zM:kw K mainGlobals "NoSign" = some (some (.ref C_NoSign)))
  (zN:kw K mainGlobals "NoWord" = some (some (.ref C_NoWord)))
  (ya:kw K mainGlobals "NoWhole" = some (some (.ref C_NoWhole)))
  (vj:kw K mainGlobals "NoNumber" = some (some (.ref C_NoNumber)))
  (CI:kw K mainGlobals "NoKin" = some (some (.ref C_NoKin)))
  (yb:kw K mainGlobals "TooMany" = some (some (.ref C_TooMany)))
  (eb:uG K C_RoadError [C_NoNet,C_NoPlace,C_NoSign,C_NoWord,C_NoWhole,C_NoNumber,C_NoKin,C_TooMany]=true) (MV:[C_NoNet,C_NoPlace,C_NoSign,C_NoWord,C_NoWhole,C_NoNumber,C_NoKin,C_TooMany].Nodup)
  (vk:cx K "is_whole" dD)
  (lQ:cx K "is_whole_below" bL)
  (zO:cx K "is_row" gT)
  (zP:cx K "is_net" gU)
  (vm:cx K "need_net" gj)
  (nW:cx K "arrangements" b9)
  (vn:cx K "signings" fo)
  (yc:cx K "signing" hU)
  (vo:cx K "_law_bag" gk)
  (sH:cx K "_law_take" c0)
  (rQ:cx K "_law_order" fq)
  (vp:cx K "_law_net" cS)
  (nX:cx K "_law_refused" dE)
  (Hs:cx K "law" u6)
  (Ht:kw K mainGlobals "len" = some none)
  (CJ:kw K mainGlobals "range" = some none)
  (Hu:kw K mainGlobals "min" = some none)
  (Hv:kw K mainGlobals "max" = some none)
  (Hw:kw K mainGlobals "abs" = some none)
  (Gb:kw K mainGlobals "list" = some none)
  (CK:kw K mainGlobals "tuple" = some none)
  (Hx:kw K mainGlobals "int" = some none)
  (Hy:kw K mainGlobals "str" = some none)
  (Gd:kw K mainGlobals "bool" = some none)
  (rR:kw K mainGlobals "isinstance" = some none)
  (Hz:kw K mainGlobals "all" = some none)
  (HA:kw K mainGlobals "set" = some none)
  (zQ:kw K mainGlobals "sorted" = some none)
  (HB:kw K mainGlobals "zip" = some none)
  (sI:kw K mainGlobals "enumerate" = some none)
  (HC:kw K mainGlobals "sum" = some none)
  (vq:kw K mainGlobals "reversed" = some none)
  (zR:kw K mainGlobals "divmod" = some none)
  (HD:kw K mainGlobals "any" = some none)
  (rS:kw K mainGlobals "ValueError" = some none)
  (fW:∃tk,kw K mainGlobals "MOST_PLACES" = some (some (.int 9 tk)))
  : ∃fd:nw,(∀(s:ar) (v:am),PR s fd ⟨[v],[]⟩ [("_law_script",v)])/\∀base:ij,K.In base->base.Ns mainGlobals mg->(∃bm ob,Qf base mainGlobals mg bm ob)->(∀c p,rf h c p->rf base c p)->FnOk l.prog w K mg base bC 11 fa fd ["_law_script"] (spLaw K ⟨tabs,lts.zip []⟩) :=by
 obtain ⟨HE,Gi,bF⟩:=vk.df X G ["thing"] fun _ _ _ _ _ _ us hl=>match us,hl with | [_],_=>rfl
 obtain ⟨zS,yg,aF⟩:=lQ.df X G ["thing","many"] fun _ _ _ _ _ _ us hl=>match us,hl with | [_,_],_=>rfl
 obtain ⟨Kx,Jm,eS⟩:=zO.df X G ["thing","many","width"] fun _ _ _ _ _ _ us hl=>match us,hl with | [_,_,_],_=>rfl
 obtain ⟨Ky,Jn,eU⟩:=zP.df X G ["thing"] fun _ _ _ _ _ _ us hl=>match us,hl with | [_],_=>rfl
 obtain ⟨HF,Gj,dH⟩:=vm.df X G ["thing"] fun _ _ _ _ _ _ us hl=>match us,hl with | [_],_=>rfl
 obtain ⟨CL,Be,av⟩:=nW.df X G ["row"] fun _ _ _ _ _ _ us hl=>match us,hl with | [_],_=>rfl
 obtain ⟨HG,Gk,bH⟩:=vn.df X G ["net"] fun _ _ _ _ _ _ us hl=>match us,hl with | [_],_=>rfl
 obtain ⟨Jo,HH,eZ⟩:=yc.df X G ["net","number"] fun _ _ _ _ _ _ us hl=>match us,hl with | [_,_],_=>rfl
 obtain ⟨HI,Gm,dM⟩:=vo.df X G ["_law_script","_law_at"] fun _ _ _ _ _ _ us hl=>match us,hl with | [_,_],_=>rfl
 obtain ⟨Gp,Ge,ak⟩:=sH.df X G ["_law_bag_here","_law_many"] fun _ _ _ _ _ _ us hl=>match us,hl with | [_,_],_=>rfl
 obtain ⟨Gf,CQ,cM⟩:=rQ.df X G ["_law_bag_here","_law_many"] fun _ _ _ _ _ _ us hl=>match us,hl with | [_,_],_=>rfl
 obtain ⟨HJ,Gq,dN⟩:=vp.df X G ["_law_bag_here","_law_most"] fun _ _ _ _ _ _ us hl=>match us,hl with | [_,_],_=>rfl
 obtain ⟨CM,Bf,aR⟩:=nX.df X G ["_law_net_here","_law_number"] fun _ _ _ _ _ _ us hl=>match us,hl with | [_,_],_=>rfl
 obtain ⟨M9,Gg,vt⟩:=Hs.df X G ["_law_script"] fun _ _ _ _ _ _ us hl=>match us,hl with | [_],_=>rfl
 have ie:=AT X G sG
 have gu:=AT X G CH
 have kb:=AT X G xZ
 have lN:=AT X G zM
 have lP:=AT X G zN
 have kc:=AT X G ya
 have dJ:=AT X G vj
 have nV:=AT X G CI
 have ke:=AT X G yb
 have X_:=BW eb
 have gr:C_NoNet∈[C_NoNet,C_NoPlace,C_NoSign,C_NoWord,C_NoWhole,C_NoNumber,C_NoKin,C_TooMany] :=by simp
 have j8:C_NoPlace∈[C_NoNet,C_NoPlace,C_NoSign,C_NoWord,C_NoWhole,C_NoNumber,C_NoKin,C_TooMany] :=by simp
 have lL:C_NoSign∈[C_NoNet,C_NoPlace,C_NoSign,C_NoWord,C_NoWhole,C_NoNumber,C_NoKin,C_TooMany] :=by simp
 have lM:C_NoWord∈[C_NoNet,C_NoPlace,C_NoSign,C_NoWord,C_NoWhole,C_NoNumber,C_NoKin,C_TooMany] :=by simp
 have j9:C_NoWhole∈[C_NoNet,C_NoPlace,C_NoSign,C_NoWord,C_NoWhole,C_NoNumber,C_NoKin,C_TooMany] :=by simp
 have bI:C_NoNumber∈[C_NoNet,C_NoPlace,C_NoSign,C_NoWord,C_NoWhole,C_NoNumber,C_NoKin,C_TooMany] :=by simp
 have nU:C_NoKin∈[C_NoNet,C_NoPlace,C_NoSign,C_NoWord,C_NoWhole,C_NoNumber,C_NoKin,C_TooMany] :=by simp
 have ka:C_TooMany∈[C_NoNet,C_NoPlace,C_NoSign,C_NoWord,C_NoWhole,C_NoNumber,C_NoKin,C_TooMany] :=by simp
 have e:=MU.symm.trans vt.mg
 cases e
 have bl:Bl mg:=⟨lv X G Ht,lv X G CJ,lv X G Hu,lv X G Hv,lv X G Hw,lv X G Gb,lv X G CK,lv X G Hx,lv X G Hy,lv X G Gd,lv X G rR,lv X G Hz,lv X G HA,lv X G zQ,lv X G HB,lv X G sI,lv X G HC,lv X G vq,lv X G zR,lv X G HD,lv X G rS⟩
 obtain ⟨CN,fW⟩:=fW
 have fF:=AT X G fW
 obtain ⟨bf,Jp,rfl,zT,T⟩:=h8 T
 obtain ⟨bG,Jq,rfl,zU,T⟩:=h8 T
 cases T
 cases U
 refine ⟨Gg,fun s v=>vt.bind1 s v (by intros;rfl),fun base _ _ gY tr=>?_⟩
 obtain ⟨iT,fE⟩:=wo eS X zT tr
 obtain ⟨rH,iU⟩:=wo eU X zU tr
 have ye:bf∈(⟨[bf,bG],[]⟩:d9) :=by show _∈[bf,bG];simp
 have yf:bG∈(⟨[bf,bG],[]⟩:d9) :=by show _∈[bf,bG];simp
 have lD:=xU (P:=l.prog) (w:=w) (tb:=(⟨[bf,bG],[]⟩:d9)) eU iU yf eS fE ye gY aF bF bl fF
 have iW:=sE dH eU lD X_ gr gu
 have Gh:=zJ (P:=l.prog) (w:=w) (base:=base) (tb:=(⟨[bf,bG],[]⟩:d9)) av bl
 have Bg:=lK av (lK av (lK av Gh bl) bl) bl
 have dI:=sF bH dH iW av Bg bl
 have CO:=f7 (P:=l.prog) (w:=w) (base:=base) (tb:=(⟨[bf,bG],[]⟩:d9)) aF bF bl
 have j7:=vg eZ bH dI av Bg aF CO X_ bI dJ bl
 have rT:=FY (tb:=(⟨[bf,bG],[]⟩:d9)) (sy (P:=l.prog) (w:=w) (base:=base) ak)
 have HK:=Ho (tb:=(⟨[bf,bG],[]⟩:d9)) (u9 (P:=l.prog) (w:=w) (base:=base) dM bl)
 have CP:=rD cM ak rT bl
 have HL:=vb dN ak rT cM CP bl
 have HM:=nT aR eZ j7 X_ gr j8 lL lM j9 bI nU ka (by simpa using MV) ie gu kb lN lP kc dJ nV ke bl
 exact FE (Ga vt dM HK dN HL ak rT bH dI aR HM bl)
theorem walk {l:Qe} {q:gl} {loose:List cb} {XP:(cb->Option am)->ij->Prop} {YP:ii->ij->Prop} {d:DefRec} {K:Qm->bi} (hn:l.most=some 63) (vY:d.params.defaults=[])
  (xq:∀w:ii,Pu (K w.params)=true) (AO:∀y∈((["is_row","is_net"]:List cb)++([]:List cb)),∃r∈recsOf q,r.name=y) (kP:∀w:ii,nJ (K w.params) ["is_row","is_net"] []=true) (hY:∀(w:ii) (h:ij),YP w h->(K w.params).In h)
  (F:∀(w:ii) (mg:cb->Option am) (fa:ag) (h:ij) (tabs lts:List ag),(K w.params).In h->h.Ns mainGlobals mg->mg d.name=some (.ref fa)->
   wn (TabOf mg h) ["is_row","is_net"] tabs->wn (TabOf mg h) [] lts->
   ∃fd:nw,(∀(s:ar) (u:am),PR s fd ⟨[u],[]⟩ [("_law_script",u)]) /\
    ∀base:ij,(K w.params).In base->base.Ns mainGlobals mg->(∃bm ob,Qf base mainGlobals mg bm ob)->(∀c p,rf h c p->rf base c p)->FnOk l.prog w (K w.params) mg base bC 11 fa fd ["_law_script"] (spLaw (K w.params) ⟨tabs,lts.zip []⟩)) :
  PySem.W.WalkO q loose XP YP l.row.toRowW d [] (fun f vs=>Qi f vs):=
 L2.zk (n:=63) (k:=11) (x := "_law_script") (CX:=bC) (sp:=fun K tabs lts=>spLaw K ⟨tabs,lts.zip []⟩) hn (by decide) vY ⟨rfl,by decide,by decide⟩ xq AO kP hY F (fun _ _ _ _ a ns hl hn hT hL hS=>zl hl hn hT hL hS) fun _ _ _ _ z=>z
end My
open PySem PySem.W PyProof.Rows L2
set_option maxRecDepth 100000 in
set_option maxHeartbeats 0 in
theorem PySem.Challenge.cw_roadcall_k11_no_signings_number_holds : PySem.Challenge.rw_roadcall_k11_no_signings_number.Holds := by
 w_on;o_law
 refine My.Bh (q:=My.kq) (loose:=My.kL) (H:=My.kH) My.left (by rfl) (by rfl) (by rfl) (by rfl) (by first|assumption|decide +kernel) (by decide +kernel) ⟨rfl,rfl,rfl,rfl,rfl,by decide +kernel⟩ ?hw ?hc
 (case hw=>w_witness2)
 refine My.walk (l:=PySem.Challenge.rw_roadcall_k11_no_signings_number) rfl rfl (fun w=>by kernel_rfl) (recs_of (by decide +kernel)) (fun w=>by kernel_rfl) (fun w h Y=>Y) ?F
 intro w mg fa h tabs lts KX G vZ T U
 exact My.all_mk (C_RoadError:=24) (C_NoNet:=37) (C_NoPlace:=49) (C_NoSign:=61) (C_NoWord:=73) (C_NoWhole:=85) (C_NoNumber:=97) (C_NoKin:=109) (C_TooMany:=121) KX G vZ T U
  (by kernel_rfl)
  (by kernel_rfl)
  (by kernel_rfl)
  (by kernel_rfl)
  (by kernel_rfl)
  (by kernel_rfl)
  (by kernel_rfl)
  (by kernel_rfl)
  (by kernel_rfl)
  (by kernel_rfl)
  (by decide)
  (L2.bD (f:=130) (oc:=.type "function") (od:=none) (sl:=#[]) (kV:=.none) (dc:=.none) (pm:=My.vS "roadcall.whole" 335) (an:=none) (cd:=.ref 129) (ct:=.none) (by kernel_rfl) (by kernel_rfl) (by kernel_rfl) (by kernel_rfl))
  (L2.bD (f:=137) (oc:=.type "function") (od:=none) (sl:=#[]) (kV:=.none) (dc:=.none) (pm:=My.vS "roadcall.whole" 335) (an:=none) (cd:=.ref 136) (ct:=.none) (by kernel_rfl) (by kernel_rfl) (by kernel_rfl) (by kernel_rfl))
  (L2.bD (f:=144) (oc:=.type "function") (od:=none) (sl:=#[]) (kV:=.none) (dc:=.none) (pm:=My.vS "roadcall.nets" 352) (an:=none) (cd:=.ref 143) (ct:=.none) (by kernel_rfl) (by kernel_rfl) (by kernel_rfl) (by kernel_rfl))
  (L2.bD (f:=151) (oc:=.type "function") (od:=none) (sl:=#[]) (kV:=.none) (dc:=.none) (pm:=My.vS "roadcall.nets" 352) (an:=none) (cd:=.ref 150) (ct:=.none) (by kernel_rfl) (by kernel_rfl) (by kernel_rfl) (by kernel_rfl))
  (L2.bD (f:=158) (oc:=.type "function") (od:=none) (sl:=#[]) (kV:=.none) (dc:=.none) (pm:=My.vS "roadcall.nets" 352) (an:=none) (cd:=.ref 157) (ct:=.none) (by kernel_rfl) (by kernel_rfl) (by kernel_rfl) (by kernel_rfl))
  (L2.bD (f:=165) (oc:=.type "function") (od:=none) (sl:=#[]) (kV:=.none) (dc:=.none) (pm:=My.vS "roadcall.signings" 382) (an:=none) (cd:=.ref 164) (ct:=.none) (by kernel_rfl) (by kernel_rfl) (by kernel_rfl) (by kernel_rfl))
  (L2.bD (f:=172) (oc:=.type "function") (od:=none) (sl:=#[]) (kV:=.none) (dc:=.none) (pm:=My.vS "roadcall.signings" 382) (an:=none) (cd:=.ref 171) (ct:=.none) (by kernel_rfl) (by kernel_rfl) (by kernel_rfl) (by kernel_rfl))
  (L2.bD (f:=179) (oc:=.type "function") (od:=none) (sl:=#[]) (kV:=.none) (dc:=.none) (pm:=My.vS "roadcall.signings" 382) (an:=none) (cd:=.ref 178) (ct:=.none) (by kernel_rfl) (by kernel_rfl) (by kernel_rfl) (by kernel_rfl))
  (L2.bD (f:=186) (oc:=.type "function") (od:=none) (sl:=#[]) (kV:=.none) (dc:=.none) (pm:=My.vS "law_roadcall_k11_no_signings_number" 416) (an:=none) (cd:=.ref 185) (ct:=.none) (by kernel_rfl) (by kernel_rfl) (by kernel_rfl) (by kernel_rfl))
  (L2.bD (f:=193) (oc:=.type "function") (od:=none) (sl:=#[]) (kV:=.none) (dc:=.none) (pm:=My.vS "law_roadcall_k11_no_signings_number" 416) (an:=none) (cd:=.ref 192) (ct:=.none) (by kernel_rfl) (by kernel_rfl) (by kernel_rfl) (by kernel_rfl))
  (L2.bD (f:=200) (oc:=.type "function") (od:=none) (sl:=#[]) (kV:=.none) (dc:=.none) (pm:=My.vS "law_roadcall_k11_no_signings_number" 416) (an:=none) (cd:=.ref 199) (ct:=.none) (by kernel_rfl) (by kernel_rfl) (by kernel_rfl) (by kernel_rfl))
  (L2.bD (f:=205) (oc:=.type "function") (od:=none) (sl:=#[]) (kV:=.none) (dc:=.none) (pm:=My.vS "law_roadcall_k11_no_signings_number" 416) (an:=none) (cd:=.ref 204) (ct:=.none) (by kernel_rfl) (by kernel_rfl) (by kernel_rfl) (by kernel_rfl))
  (L2.bD (f:=212) (oc:=.type "function") (od:=none) (sl:=#[]) (kV:=.none) (dc:=.none) (pm:=My.vS "law_roadcall_k11_no_signings_number" 416) (an:=none) (cd:=.ref 211) (ct:=.none) (by kernel_rfl) (by kernel_rfl) (by kernel_rfl) (by kernel_rfl))
  (L2.bD (f:=219) (oc:=.type "function") (od:=none) (sl:=#[]) (kV:=.none) (dc:=.none) (pm:=My.vS "law_roadcall_k11_no_signings_number" 416) (an:=none) (cd:=.ref 218) (ct:=.none) (by kernel_rfl) (by kernel_rfl) (by kernel_rfl) (by kernel_rfl))
  (by kernel_rfl)
  (by kernel_rfl)
  (by kernel_rfl)
  (by kernel_rfl)
  (by kernel_rfl)
  (by kernel_rfl)
  (by kernel_rfl)
  (by kernel_rfl)
  (by kernel_rfl)
  (by kernel_rfl)
  (by kernel_rfl)
  (by kernel_rfl)
  (by kernel_rfl)
  (by kernel_rfl)
  (by kernel_rfl)
  (by kernel_rfl)
  (by kernel_rfl)
  (by kernel_rfl)
  (by kernel_rfl)
  (by kernel_rfl)
  (by kernel_rfl)
  ⟨354,by kernel_rfl⟩
