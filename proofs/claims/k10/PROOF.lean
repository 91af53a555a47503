import PyProof.Rows.All
import Wide.All
import OpenK.AllK
import Wide.FinOn
import Lean
import PySem.Challenge.RW_roadcall_k10_signings_counted_and_number
import PyProof.EqAt
import PyProof.EqKinds
import PyProof.TupleCall
import PyProof.NeKinds
import PyProof.EnumMake
import PyProof.EnumFor
import PyProof.ZipIter
import PyProof.Rows.ZipGen
import PyProof.TupleKey
import KE.KLam
import PyProof.DictItems
import KE.KTurnsDict
import KE.KPairComp
import KE.KDictList
import KE.KRevSl
import KE.KRevIter
import PyProof.FitsBits
import PyProof.NoPylong
import PyProof.CallType
import PyProof.TupleOfGen
open PySem renaming wpAny_bind->ac,Value->am,Addr->ap,Shared->ar,wpAny_pure->ba,Str->db,Expr->gl,Program->ii,World->ij,Heap->i0,SetTable->jp,Builtin->l7,Obj->l8,Around->mf,wpAny_newObj_type->mT,wpAny_call_entry->nw,FuncData->rc,wpAny_mono->tw,wpAny_callSpecial?_slot->ut,Paired->wn,Stmt->wp,codeAny_builtin->ww,wpAny_holding->wT,Pos->ze,wpAny_field->AM,Spec->BS,mem_of_lookup->BY,wpAny_truthy_bool->B0,wpAny_setState_of->Ch,seg_bind_wrap->Co,boot_len->CS,wpAny_loadPart'->Do,plainId_quiet->EN,builtinLookup_eq_fast->EQ,Scope->ET,wpAny_rule->FS,wpAny_Call_Name_kw->GM,sizeLine_eq->Is,isSubtype_type->ID,IsTupleKey->IF,wpAny_of_eq->KT,wpAny_standAt->Lo,wpAny_isInstance->LB,wpAny_typeOf->LS,typeLookup_type->Me,wpAny_attempt->NG,wpAny_setEntries_of->NJ,wpAny_passesOwn->OK,wpAny_specialOf->Pe,Keyword->RS,wpAny_askSetting->So,Env->SM,call_meets->SO,codeAny_of_tree->SQ,wpAny_setField_rec->SS,NameKind->SW,codeAny_mono->S2,wpAny_setField->S7,wpAny_seqItems->S8,GenState->Tf,CmpOp->Th,wpAny_forIn_list->Tk,Sem->TH,wpAny_pyIter_tuple->TJ,TriplesOk->TR,wpAny_tupleItemsOf->TV,typeIs_int->TX,wpAny_runValue->TZ,wpAny_storeSet_of->T8,fits_of_scanBound->T9,wpAny_pyIter_slot->Ub,wpAny_setEpoch_of->Uc,IsEnum->Uh,wpAny_execs_nil->Uu,IsPart->Uy,wpAny_updateSeq->UG,codeAny_extend_loopS->UH,ElemsOf->UV,wpAny_fieldsOf->UW,wpAny_newTuple->UX,putSet_of->UZ,signature?_of->U7,wpAny_newList->U9,wpAny_load->Vj,BindsTo->Vm,noFill_tuple_add->Vo,PassesOwn->Vy,seg_again->VA,WalksS->VL,call->VM,Params->VO,Result->VR,IsEnumOut->VT,ItemsOf->VU
open List renaming getElem?_eq_getElem->ag,getElem?_eq_some_iff->br,length_map->cb,getD_eq_getElem?_getD->ce,size_toArray->ci,getElem?_map->cr,mem_cons_of_mem->dL,mem_of_getElem?->im,mem_cons_self->i1,range->i8,mem_map->kt,mem_cons->li,mem_singleton->lp,replicate->lv,mem_append_right->l9,length_append->rf,map_append->r6,mem_iff_getElem?->r9,replicate_succ->sB,length_reverse->sK,mem_range->u4,eq_nil_of_length_eq_zero->wl,all_eq_true->wE,not_mem_nil->wP,mem_append->xb,getElem?_zip_eq_some->xp,length_cons->xw,map_cons->xy,getElem?_eq_none->At,map_map->AL,append_nil->AN,length_range->Cf,getElem?_cons_succ->Cn,length_eraseIdx_of_lt->Cs,getElem_mem->DD,take_length->DO,append_assoc->EM,getElem?_reverse->ES,mem_append_left->FF,length_take->FM,eraseIdx_eq_take_drop_succ->GE,pairwise_iff_getElem->GG,pairwise_singleton->IN,foldl_append->IR,nil_append->IT,getElem?_range->JJ,take_of_length_le->KM,cons_append->LF,take_succ->LM,drop_eq_getElem_cons->LP,reverse_reverse->MW,flatten_cons->Nd,ext_getElem?->Nl,filterMap_cons->NH,length_set->OL,foldl_cons->ON,take_append_drop->Pc,reverse_cons->Ps,Nodup->P3,Perm->Rs,lookup_cons->Sm,toArray->SC,idxOf_lt_length_iff->SG,map_congr_left->SH,length_pos_iff->SI,getElem?_replicate->SJ,getElem?_cons_zero->SK,length_nil->SN,set_cons_zero->SU,set_cons_succ->SV,pairwise_lt_range->SX,nodup_append->S0,length_replicate->S4,length_singleton->S5,length_drop->Ti,mem_reverse->Tn,Pairwise->Tp,toList_toArray->Tt,zip_eq_zipWith->Tu,replicate_zero->Tv,flatMap_append->Tw,nodup_cons->Tx,getElem?_append_left->Tz,mem_or_eq_of_mem_set->TF,mem_filterMap->TK,map_nil->TQ,getElem?_set_self->Uf,drop_length->Ul,map_reverse->Uq,mem_filter->Ut,of_mem_zip->Ux,pairwise_append->UD,mem_iff_getElem->UJ,getElem?_append->UK,zip_cons_cons->U1,getElem_range->U2,getElem_idxOf->U4,pairwise_map->Vh,getElem?_set->Vi,foldl->Vl,ext_getElem->Vq,nodup_range->Vr,zip_append->VD,length->VG
open PySem.Heap renaming get?_push_of_some->bi,get?_push_size->ff,lt_size->gc,get?_update_self->uu,SameBut->v6,get?_update_other->wb,size_push->Ix,get?_push_ne->Ue,size_update->Um,ExtBut->VI
open PySem.W renaming Frag->bn,mg_none_of->ma,nsIn->on,CodeHd->u7,kia_one->EU,fnOf->KB,keepIn->S3,tabObj->S6,mg_of->Tq,codeIn->TW,hideAll->Us,looseW->UQ,kitOne->UU,kb_classed->U3,recOk->U5,excIn->Vb,methodObj->Vf,xlAt->Vn,opening->Vv,instObj->Vx,OpenLaw->VF
open Nat renaming le_refl->bv,zero_le->kv,ne_of_lt->kw,lt_of_lt_of_le->mo,le_trans->sw,lt_succ_of_lt->Cc,le_succ->Fa,ne_of_gt->KF,lt_succ_self->Lu,lt_irrefl->NE,lt_or_ge->OE,min_self->SB,mod_lt->SR,le_of_lt->S1,zero_add->Te,le_of_not_lt->Tj,add_comm->TM,mul_comm->TN,div_eq_of_lt->Uj,succ_mul->UA,pow_le_pow_right->UN,mul_le_mul_left->UP,reduceAdd->Vd,reduceSub->Ve,sub_self->Vt,mod_eq_of_lt->Vu,strongRecOn->Vz,not_lt_zero->VB
open Bool renaming false_eq_true->c8,false_ne_true->hX,not_true->xz,and_eq_true->BB,not_false->NO,true_and->Ts,and_false->TY,not_eq_true->Up,eq_iff_iff->Uv,false_and->UT,or_false->U6
open Array renaming length_toList->io,getElem?_eq_getElem->mv,getElem?_eq_none->Ll,getD->Mc,getElem?_toList->OP,getElem?_eq_some_iff->Tr,mem_of_getElem?->Ur,mem_toList_iff->Uw,replicate->VE
open Option.some renaming inj->i4,injEq->No
open Option renaming map_eq_some_iff->lc,map_some->AS,toList_some->Fk,ne_none_iff_exists'->Pf,some->SZ,join_some->Tl,bind_some->Uk
open PySem.SeqAt renaming RcNeAt->lf,EqAt->lm,RcAt->l5
open PySem.SetTable renaming below->lw,insertAt->wS,bits->AT,grown->LH,runEnd->Mn,turns->NL,Probe->Sc,fresh->UY,leap->Vc,layClean->VV,probe->VW
open Or renaming inl->l6,inr->Td
open PySem.PassesOwn renaming never->qr
open PySem.Around renaming under_plainId->tz
open PySem.Value renaming ref->ul,none->wv,type->zd,isInt_shape->T6,bool->VN,int->VP,str->VQ
open PySem.Str renaming ofString->u8
open Int renaming toNat_natCast->xL,zero_add->OF,le_refl->RI,fdiv_eq_ediv_of_nonneg->To,emod_nonneg->TD,eq_ofNat_of_zero_le->T5,natCast_mul->UL,toNat->U0
open PyProof.Rows renaming callWith_type1->zn,slot_tuple_getitem->Go,IntsAre->OR,listUpdate_at->Va,IsTup->Vw,BMod->VH,AllBare->VJ
open PySem.Builtin.List renaming listExtendWith->zw,listSameRef->GT,listLengthHint->Os,listTooLong->Sk
open PySem.Heap.SameBut renaming update->AC
open PySem.F renaming plainAttrs_list->AE,called_set->BN,plain_list_iadd->IS,slot_list_append->SE,type_list_append->SF,entry_proto_collect->S9,plain_proto_collect->Tc,args_tuple_add_2->TL,entry_tuple_add->T0,entry_list_iadd->Ud,slot_tuple_add->Ug,slot_int_rmul->UB,plain_set_new->UE,slot_set_iter->UF,args_object_init_2->UI,slot_tuple_lt->UM,plain_extend_loop->UO,plain_all_loop->Vp,slot_tuple_mul->Vs
open PySem.Obj renaming mapSeq->Da,data_mapFields->Db,putSet->Op,isFreed_of_fields->Pd,cls_mapFields->Ua,mapFields->U8
open Ne renaming symm->EO
open PySem.NameKind renaming free->Gc
open PySem.Builtin.Tuple renaming tupleExact->GS
open PySem.Calls renaming spliced_cons->LG,spliced_nil->Na,evalArgs_plain->Uz
open False renaming elim->On
open PySem.SetTable.probe renaming go->Pi
open Classical renaming not_not->Po,byContradiction->PP
open PySem.Builtin.Slice renaming slicePlaces->PM,sliceAdjust->TC
open PySem.W.Fast renaming tw821141287760084731->Re
open PySem.Shared renaming TypeIs->SL
open PySem.SetTable.layClean renaming free->SY
open List.Perm renaming eq_of_pairwise->TU
open PyProof.Rows.F renaming plain_set_update_loop->T4
open PySem.SetTable.below renaming go->T7
open PySem.Paired renaming length->Ui
open String renaming reduceBEq->Uo,splitOnAux->Vg
open ForInStep renaming yield->UC
open Sum renaming inl->UR,inr->US
open True renaming intro->Vk
open PySem.SeqAt.EqAt renaming same->VC
open And renaming intro->VS
set_option linter.all false
set_option Elab.async false
set_option maxRecDepth 100000
namespace My
open PySem PyProof.Rows
def kA (s:wp):Arguments:=match s with
 | .FunctionDef _ a _ _ _ _ _ _ _ _=>a
 |_=>{posonlyargs:=[],args:=[],vararg:=none,kwonlyargs:=[],kw_defaults:=[],kwarg:=none,defaults:=[]}
def kB (s:wp):List wp:=match s with
 | .FunctionDef _ _ b _ _ _ _ _ _ _=>b
 |_=>[]
def kS (s:wp):ET:=match s with
 | .FunctionDef _ _ _ _ _ _ sc _ _ _=>sc
 |_=>{kind:=.function,names:=[],isGenerator:=false,isCoroutine:=false}
def vS (x:String) (t:Nat):am:=.str (u8 x) t
def kE (P:VO) (x:String) (t:Nat) (v:am):DictEntry:=⟨PyData.keyHash P (u8 x),vS x t,v⟩
def kF (i:Nat) (x:String) (d m:am) (c:Nat):l8:=let st:=PySem.Challenge.pw_roadcall_k10_signings_counted_and_number.main.body.getD i (.Pass ⟨0,0,0,0⟩);⟨.type "function",none,.func (KB (u8 x) (u8 x) (kA st) (kB st) (kS st) d .none .none m none (.ref c) .none),#[]⟩
def kC (x:String) (t:Nat) (l n f:Int) (a:Nat) (b:Bool) (m:Int) (p:Nat) (u z:am) (q:Nat) (e:Int) (t2:Nat):l8:=⟨.type "code",none,.fields #[vS x t,vS x (t+1),vS "/claim/cut.py" (t+2),.int l 0,.int n 0,.int 0 0,.int 0 0,.int f 0,.ref a,.bool b,.int m 0,.ref p,.none,u,z,.ref q,.int e 0,.int l 0,vS "/claim/cut.py" t2],#[]⟩
def kK (P:VO):bn:=[(2,⟨.none,none,.dict [].toArray 0,#[]⟩),
 (3,⟨.type "dict",none,.dict [kE P "__name__" 165 (vS "law_roadcall_k10_signings_counted_and_number" 330),kE P "__doc__" 166 .none,kE P "__package__" 167 .none,kE P "__loader__" 168 (.builtin "__main__.__loader__#opaque"),kE P "__spec__" 169 .none,kE P "__annotations__" 170 (.ref 6),kE P "__builtins__" 171 (.ref 4),kE P "__file__" 173 (vS "/claim/cut.py" 172),kE P "__cached__" 174 .none,kE P "RoadError" 206 (.ref 24),kE P "NoNet" 222 (.ref 37),kE P "NoNumber" 238 (.ref 49),kE P "is_whole" 247 (.ref 58),kE P "is_whole_below" 255 (.ref 65),kE P "MOST_PLACES" 259 (.int 9 258),kE P "is_row" 269 (.ref 72),kE P "is_net" 278 (.ref 79),kE P "need_net" 285 (.ref 86),kE P "arrangements" 298 (.ref 93),kE P "signings" 307 (.ref 100),kE P "number_of" 317 (.ref 107),kE P "signing" 329 (.ref 114),kE P "_law_bag" 342 (.ref 121),kE P "_law_take" 353 (.ref 128),kE P "_law_order" 364 (.ref 135),kE P "_law_net" 370 (.ref 140),kE P "_law_orders" 376 (.ref 145),kE P "_law_alike_now_and_then" 386 (.ref 152),kE P "_law_all" 392 (.ref 157),kE P "_law_of_number" 398 (.ref 162),kE P "law" 404 (.ref 167)].toArray 31,#[]⟩),
 (23,⟨.type "dict",none,.dict [kE P "__module__" 196 (vS "roadcall.errors" 187),kE P "__firstlineno__" 200 (.int 2 199),kE P "__static_attributes__" 201 (.ref 22),kE P "__weakref__" 203 (.ref 25),kE P "__doc__" 204 .none].toArray 3,#[]⟩),
 (24,⟨.type "type",none,.cls {name:=u8 "RoadError",bases:=[.type "ValueError"],mro:=[.ref 24,.type "ValueError",.type "Exception",.type "BaseException",.type "object"],ns:=23,qualname:=u8 "RoadError",subclasses:=[.ref 37,.ref 49]},#[some (.ref 15),none,some (vS "RoadError" 189),some (vS "RoadError" 197),some (.builtin "ValueError.__new__"),some (.bool true)]⟩),
 (36,⟨.type "dict",none,.dict [kE P "__module__" 214 (vS "roadcall.errors" 187),kE P "__firstlineno__" 218 (.int 4 217),kE P "__static_attributes__" 219 (.ref 35),kE P "__doc__" 220 .none].toArray 2,#[]⟩),
 (37,⟨.type "type",none,.cls {name:=u8 "NoNet",bases:=[.ref 24],mro:=[.ref 37,.ref 24,.type "ValueError",.type "Exception",.type "BaseException",.type "object"],ns:=36,qualname:=u8 "NoNet",subclasses:=[]},#[some (.ref 28),none,some (vS "NoNet" 207),some (vS "NoNet" 215),some (.builtin "ValueError.__new__"),some (.bool true)]⟩),
 (48,⟨.type "dict",none,.dict [kE P "__module__" 230 (vS "roadcall.errors" 187),kE P "__firstlineno__" 234 (.int 6 233),kE P "__static_attributes__" 235 (.ref 47),kE P "__doc__" 236 .none].toArray 2,#[]⟩),
 (49,⟨.type "type",none,.cls {name:=u8 "NoNumber",bases:=[.ref 24],mro:=[.ref 49,.ref 24,.type "ValueError",.type "Exception",.type "BaseException",.type "object"],ns:=48,qualname:=u8 "NoNumber",subclasses:=[]},#[some (.ref 40),none,some (vS "NoNumber" 223),some (vS "NoNumber" 231),some (.builtin "ValueError.__new__"),some (.bool true)]⟩),
 (57,kC "is_whole" 241 9 1 3 52 true 181 53 (.ref 54) (.ref 55) 56 245 246),
 (58,kF 5 "is_whole" .none (vS "roadcall.whole" 239) 57),
 (64,kC "is_whole_below" 248 11 2 3 59 true 181 60 (.ref 61) (.ref 62) 63 253 254),
 (65,kF 6 "is_whole_below" .none (vS "roadcall.whole" 239) 64),
 (71,kC "is_row" 260 15 3 3 66 true 181 67 (.ref 68) (.ref 69) 70 267 268),
 (72,kF 9 "is_row" .none (vS "roadcall.nets" 256) 71),
 (78,kC "is_net" 270 19 1 3 73 true 181 74 (.ref 75) (.ref 76) 77 276 277),
 (79,kF 10 "is_net" .none (vS "roadcall.nets" 256) 78),
 (85,kC "need_net" 279 27 1 3 80 true 181 81 (.ref 82) (.ref 83) 84 283 284),
 (86,kF 11 "need_net" .none (vS "roadcall.nets" 256) 85),
 (92,kC "arrangements" 288 31 1 3 87 true 181 88 (.ref 89) (.ref 90) 91 296 297),
 (93,kF 13 "arrangements" .none (vS "roadcall.signings" 286) 92),
 (99,kC "signings" 299 39 1 3 94 true 181 95 (.ref 96) (.ref 97) 98 305 306),
 (100,kF 14 "signings" .none (vS "roadcall.signings" 286) 99),
 (106,kC "number_of" 308 45 1 3 101 true 181 102 (.ref 103) (.ref 104) 105 315 316),
 (107,kF 15 "number_of" .none (vS "roadcall.signings" 286) 106),
 (113,kC "signing" 318 52 2 3 108 true 181 109 (.ref 110) (.ref 111) 112 327 328),
 (114,kF 16 "signing" .none (vS "roadcall.signings" 286) 113),
 (120,kC "_law_bag" 332 62 2 3 115 true 181 116 (.ref 117) (.ref 118) 119 340 341),
 (121,kF 18 "_law_bag" .none (vS "law_roadcall_k10_signings_counted_and_number" 330) 120),
 (127,kC "_law_take" 343 72 2 3 122 true 181 123 (.ref 124) (.ref 125) 126 351 352),
 (128,kF 19 "_law_take" .none (vS "law_roadcall_k10_signings_counted_and_number" 330) 127),
 (134,kC "_law_order" 354 84 2 3 129 true 181 130 (.ref 131) (.ref 132) 133 362 363),
 (135,kF 20 "_law_order" .none (vS "law_roadcall_k10_signings_counted_and_number" 330) 134),
 (139,kC "_law_net" 365 90 2 3 136 true 181 137 .none .none 138 368 369),
 (140,kF 21 "_law_net" .none (vS "law_roadcall_k10_signings_counted_and_number" 330) 139),
 (144,kC "_law_orders" 371 112 1 3 141 true 181 142 .none .none 143 374 375),
 (145,kF 22 "_law_orders" .none (vS "law_roadcall_k10_signings_counted_and_number" 330) 144),
 (151,kC "_law_alike_now_and_then" 377 123 2 3 146 true 181 147 (.ref 148) (.ref 149) 150 384 385),
 (152,kF 23 "_law_alike_now_and_then" .none (vS "law_roadcall_k10_signings_counted_and_number" 330) 151),
 (156,kC "_law_all" 387 130 1 3 153 true 181 154 .none .none 155 390 391),
 (157,kF 24 "_law_all" .none (vS "law_roadcall_k10_signings_counted_and_number" 330) 156),
 (161,kC "_law_of_number" 393 138 3 3 158 true 181 159 .none .none 160 396 397),
 (162,kF 25 "_law_of_number" .none (vS "law_roadcall_k10_signings_counted_and_number" 330) 161),
 (166,kC "law" 399 145 1 3 163 true 181 164 .none .none 165 402 403),
 (167,kF 26 "law" .none (vS "law_roadcall_k10_signings_counted_and_number" 330) 166)]
def PH:List ap:=[2,3,23,24,36,37,48,49,57,58,64,65,71,72,78,79,85,86,92,93,99,100,106,107,113,114,120,121,127,128,134,135,139,140,144,145,151,152,156,157,161,162,166,167]
def kq:ii:=PySem.W.view PySem.Challenge.pw_roadcall_k10_signings_counted_and_number [1,2,3,5,6,8,9,10,11,13,14,15,16,18,19,20,21,22,23,24,25,26]
def kL:List db:=[]
def kH:PySem.W.Hook:=PySem.W.kHook kK PH fun _=>by kernel_rfl
theorem E3 {r:PySem.W.OpenRow}{q:ii}{loose:List db}{H:PySem.W.Hook}{d:DefRec}{G0:List (db×gl)}{N:Nat}(left:PySem.W.LeftO r.prog q loose (fun s=>Vn q [] s && U5 r.records s) H.obs H.val N)
  (Oc:PySem.W.defOf q r.name=some (d,G0)) (hp:r.prog.theDef r.name=some (d.params,d.body,d.scope)) (hk:PySem.W.kwWritten? d.params.kwonlyargs d.params.kw_defaults=some G0) (PJ:(!r.writes || r.records.isEmpty)=true) (k1:r.wellSaid=true)
  (ok:(PySem.W.chainsOk q && PySem.W.opensWell r.prog && (PySem.W.frees r.toRowW && r.within.isEmpty))=true) (hb:r.prog.bare) (hw:r.toRowW.promised) (call:PySem.W.WalkO q loose (PySem.W.XL q []) H.says r.toRowW d G0 fun f vs=>VM f vs):r.Holds:=
 PySem.W.holds_open left H.of H.keeps (fun s e=>PySem.W.xl_of s (Bool.and_eq_true_iff.mp e).1) PySem.W.XL.keeps Oc hp hk (fun s e=>PySem.W.recFacts_of (Bool.and_eq_true_iff.mp e).2) PJ k1 ok hb hw call
noncomputable def oeQ (p:ii) (w:ij) (N:Nat):Option ar:=((PySem.W.Fast.tw10274390034422433532 PySem.W.Fast.tw14364793385576792824 (Vv p) w N (PySem.W.Fast.tw1435165496053646825 (Vv p)).1 (PySem.W.Fast.tw1435165496053646825 (Vv p)).2).bind (PySem.W.Fast.tw14289696077712309145 p)).bind fun s₀=>match s₀.heap.isNs PySem.mainGlobals && s₀.gens.size==0 with
 |true=>(PySem.W.Fast.tw14082659384304107361 PySem.W.Fast.tw14364793385576792824 p w s₀.heap.objs.size (s₀.heap.nsMap PySem.mainGlobals "__annotations__") N s₀ (PySem.W.topStub p)).bind fun av=>match PySem.W.staticsOk (importedModules p.main.body) s₀.heap av.heap && PySem.W.namesBound p av.heap && PySem.W.gensDone av && PySem.W.laidKept s₀.heap av.heap with
   |true=>some av
   |false=>none
 |false=>none
theorem KZ (p:ii) (w:ij) (N:Nat):PySem.W.openEnds treeTable p w N=oeQ p w N :=by
 unfold oeQ;rw[<- PySem.W.Fast.te10274390034422433532,<- PySem.W.Fast.te14364793385576792824,<- PySem.W.Fast.te1435165496053646825,<- PySem.W.Fast.te14289696077712309145,<- PySem.W.Fast.te14082659384304107361];rfl
noncomputable def nsQ (q:ii):List db:=(PySem.W.Fast.tw3399658132070893891 q).map (·.name)
theorem D0 (q:ii):(recsOf q).map (·.name)=nsQ q :=by unfold nsQ;rw[<- PySem.W.Fast.te3399658132070893891]
noncomputable def c1Q (s:ar):=PySem.W.Fast.tw5160383126252970620 (nsQ kq) (PySem.W.Fast.tw5991557255702980513 kq) [] {s with gens:=#[]}
theorem K0 (s:ar):seen ((recsOf kq).map (·.name)) (ownsOf kq) [] {s with gens:=#[]}=c1Q s :=by unfold c1Q;rw[D0,<- PySem.W.Fast.te5160383126252970620,<- PySem.W.Fast.te5991557255702980513]
def c2 (s:ar):=(s.heap.bltView,s.heap.keysOk (UQ kq kL) ((recsOf kq).map (·.name)) ((litsOf kq).map (·.1)) ((clssOf kq (UQ kq kL)).map (·.name)) && s.heap.accountedOkI (importedModules PySem.Challenge.pw_roadcall_k10_signings_counted_and_number.main.body) && s.heap.isNs mainGlobals && s.heap.isNs builtinsNs && tablesOk kq s.heap && (Vn kq [] s && U5 [] s) && (s.gens.size==0))
noncomputable def c2Q (s:ar):=(s.heap.bltView,PySem.W.Fast.tw10880121769531294198 s.heap (Re kq kL) (nsQ kq) ((PySem.W.Fast.tw7409074990110511671 kq).map (·.1)) ((PySem.W.Fast.tw13664370479719496447 kq (Re kq kL)).map (·.name)) && PySem.W.Fast.tw14722251495701143533 s.heap (importedModules PySem.Challenge.pw_roadcall_k10_signings_counted_and_number.main.body) && s.heap.isNs mainGlobals && s.heap.isNs builtinsNs && PySem.W.Fast.tw10994771534591457954 kq s.heap && (Vn kq [] s && U5 [] s) && (s.gens.size==0))
theorem K1 (s:ar):c2 s=c2Q s :=by unfold c2 c2Q;rw[D0,<- PySem.W.Fast.te10880121769531294198,<- PySem.W.Fast.te821141287760084731,<- PySem.W.Fast.te7409074990110511671,<- PySem.W.Fast.te13664370479719496447,<- PySem.W.Fast.te14722251495701143533,<- PySem.W.Fast.te10994771534591457954]
def c3 (s:ar):=tabsOk kq s
def c5 (s:ar):=plainSeenE kq (UQ kq kL) s
def c4 (s:ar):=(PySem.pinSeenD kq (drecsOf kq) s,plainSeenD kq kL s,PySem.W.wideSeen kq s,PySem.W.clsSeenW kq kL s)
noncomputable def c3Q (s:ar):=PySem.W.Fast.tw479339242167458305 kq s
noncomputable def c5Q (s:ar):=PySem.W.Fast.tw2386780881361962483 kq (Re kq kL) s
noncomputable def c4Q (s:ar):=(PySem.W.Fast.tw16090120013241838585 kq (PySem.W.Fast.tw3247288618530077131 kq) s,PySem.W.Fast.tw11698064438423848299 kq kL s,PySem.W.Fast.tw7317090234206586261 kq s,PySem.W.Fast.tw7369524293546568484 kq kL s)
theorem K2 (s:ar):c3 s=c3Q s :=by unfold c3 c3Q;rw[<- PySem.W.Fast.te479339242167458305]
theorem K3 (s:ar):c5 s=c5Q s :=by unfold c5 c5Q;rw[<- PySem.W.Fast.te2386780881361962483,<- PySem.W.Fast.te821141287760084731]
theorem K4 (s:ar):c4 s=c4Q s :=by unfold c4 c4Q;rw[<- PySem.W.Fast.te16090120013241838585,<- PySem.W.Fast.te3247288618530077131,<- PySem.W.Fast.te11698064438423848299,<- PySem.W.Fast.te7317090234206586261,<- PySem.W.Fast.te7369524293546568484]
set_option maxHeartbeats 0 in
theorem left0 (w:ij):(oeQ PySem.Challenge.pw_roadcall_k10_signings_counted_and_number w 2542).map (fun s=>kH.obs s)=some (kH.val w) :=by kernel_rfl
set_option maxHeartbeats 0 in
theorem left1 (w:ij):(oeQ PySem.Challenge.pw_roadcall_k10_signings_counted_and_number w 2542).map c1Q=some (expectedOf kq) :=by kernel_rfl
set_option maxHeartbeats 0 in
theorem left2 (w:ij):(oeQ PySem.Challenge.pw_roadcall_k10_signings_counted_and_number w 2542).map c2Q=some (bltViewBooted,true) :=by kernel_rfl
set_option maxHeartbeats 0 in
theorem left3 (w:ij):(oeQ PySem.Challenge.pw_roadcall_k10_signings_counted_and_number w 2542).map c3Q=some true :=by kernel_rfl
set_option maxHeartbeats 0 in
theorem left5 (w:ij):(oeQ PySem.Challenge.pw_roadcall_k10_signings_counted_and_number w 2542).map c5Q=some (plainGoodE kq (UQ kq kL)) :=by kernel_rfl
set_option maxHeartbeats 0 in
theorem left4 (w:ij):(oeQ PySem.Challenge.pw_roadcall_k10_signings_counted_and_number w 2542).map c4Q=some (PySem.pinGoodD (drecsOf kq),plainGoodD kq kL,PySem.W.wideGood kq,PySem.W.clsGoodW kq kL) :=by kernel_rfl
theorem left (w:ij):(PySem.W.openEnds treeTable PySem.Challenge.pw_roadcall_k10_signings_counted_and_number w 2542).map (fun s=>(PySem.W.openSeen kq kL (importedModules PySem.Challenge.pw_roadcall_k10_signings_counted_and_number.main.body) (fun s=>Vn kq [] s && U5 [] s) true s,kH.obs s))=some (PySem.W.openGood kq kL,kH.val w) :=by
 rw[KZ];have a0:=left0 w;have a1:=left1 w;have a2:=left2 w;have a3:=left3 w;have a4:=left4 w;have a5:=left5 w;revert a0 a1 a2 a3 a4 a5
 generalize oeQ PySem.Challenge.pw_roadcall_k10_signings_counted_and_number w 2542=o
 cases o with
 |none=>intro a0;cases a0
 |some s=>
  intro a0 a1 a2 a3 a4 a5;have a0:kH.obs s=kH.val w:=i4 a0;have a1:=i4 a1;have a2:=i4 a2;have a3:=i4 a3;have a4:=i4 a4;have a5:=i4 a5;rw[<- K0]at a1;rw[<- K1]at a2;rw[<- K2]at a3;rw[<- K4]at a4;rw[<- K3]at a5;show some ((seen ((recsOf kq).map (·.name)) (ownsOf kq) [] {s with gens:=#[]},(c2 s).1,(c2 s).2,c3 s,(c4 s).1,c5 s,(c4 s).2),kH.obs s)=_
  rw[a0,a1,a2,a3,a4,a5];rfl
end My
namespace L2
open PySem PySem.Spec PyProof.Rows
abbrev Key:=Sum Int db
def D1:Key->am->Bool
 | .inl k,v=>am.isInt k v
 | .inr x,v=>am.isStrOf x v
def Od (w:ij):Key->Int
 | .inl k=>hashInt k
 | .inr x=>hashStr w x
theorem cy:∀{k:Key}{v:am},D1 k v=true->(∃i t,k=UR i/\v=VP i t)\/(∃x t,k=US x/\v=VQ x t)
 | .inl i,v,h=>by
          obtain⟨t,e⟩:=T6 (k:=i) (v:=v) h;exact .inl ⟨i,t,rfl,e⟩
 | .inr x,v,h=>by
          obtain⟨t,e⟩:=am.isStrOf_shape (x:=x) (v:=v) h;exact .inr ⟨x,t,rfl,e⟩
theorem G1 (a b:Int):decide ((UR a:Key)=UR b)=(a==b) :=by
 by_cases e:a=b
 ·subst e;simp
 ·have h:¬ (UR a:Key)=UR b:=fun q=>e (UR.inj q)
  rw[decide_eq_false h];exact(beq_eq_false_iff_ne.mpr e).symm
theorem G2 (a b:db):decide ((US a:Key)=US b)=decide (a=b) :=by
 by_cases e:a=b
 ·subst e;simp
 ·have h:¬ (US a:Key)=US b:=fun q=>e (US.inj q)
  rw[decide_eq_false h,decide_eq_false e]
theorem G3 (a:Int) (b:db):decide ((UR a:Key)=US b)=false:=decide_eq_false (fun q=>nomatch q)
theorem G4 (a:db) (b:Int):decide ((US a:Key)=UR b)=false:=decide_eq_false (fun q=>nomatch q)
def pX (prog:ii) (w:ij):PySem.KeyKind prog w Key where
 is:=D1
 hash:=Od w
 inj:=fun v a b ha hb=>by
  rcases cy ha with ⟨i,t,rfl,rfl⟩|⟨x,t,rfl,rfl⟩
  ·rcases cy hb with ⟨j,u,rfl,e⟩|⟨y,u,rfl,e⟩
   ·injection e with e1 _;rw[e1]
   ·exact nomatch e
  ·rcases cy hb with ⟨j,u,rfl,e⟩|⟨y,u,rfl,e⟩
   ·exact nomatch e
   ·injection e with e1 _;rw[e1]
 byValue:=fun k v h=>by
  rcases cy h with ⟨i,t,rfl,rfl⟩|⟨x,t,rfl,rfl⟩<;>rfl
 pyHash:=fun hv h=>by
  rcases cy hv with ⟨i,t,rfl,rfl⟩|⟨x,t,rfl,rfl⟩
  ·exact wpAny_pyHash_int h
  ·exact wpAny_pyHash_str h
 eqBool:=fun hu hv h=>by
  rcases cy hu with ⟨i,t,rfl,rfl⟩|⟨x,t,rfl,rfl⟩
  ·rcases cy hv with ⟨j,u,rfl,rfl⟩|⟨y,u,rfl,rfl⟩
   ·rw[G1]at h;exact wpAny_eqBool_int h
   ·rw[G3]at h;exact lm.int_str i t y u _ _ _ _ h
  ·rcases cy hv with ⟨j,u,rfl,rfl⟩|⟨y,u,rfl,rfl⟩
   ·rw[G4]at h;exact lm.str_int x t j u _ _ _ _ h
   ·rw[G2]at h;exact wpAny_eqBool_str h
 «strs»:=fun k x t v h=>by
  rcases cy h with ⟨i,u,rfl,e⟩|⟨y,u,rfl,e⟩
  ·exact nomatch e
  ·injection e with e1 _
   subst e1;cases v<;>rfl
inductive V where
 |ai|bl (b:Bool)|int (i:Int)|str (x:db)|iS (b:Array UInt8)|vZ (b:UInt64)|ref (a:ap)|ty (n:String)
 deriving DecidableEq
def RelV:V->am->Prop
 | .ai,u=>u=wv
 | .bl b,u=>u=VN b
 | .int i,u=>∃t,u=VP i t
 | .str x,u=>∃t,u=VQ x t
 | .iS b,u=>∃t,u=am.bytes b t
 | .vZ b,u=>∃t,u=am.float b t
 | .ref a,u=>u=ul a
 | .ty n,u=>u=zd n
abbrev Vals:List V->List am->Prop:=wn RelV
theorem Vals.length {xs:List V}{us:List am}(r:Vals xs us):xs.length=us.length:=Ui r
theorem Vals.get:∀{xs:List V}{us:List am}{i:Nat}{x:V},Vals xs us->xs[i]?=some x->∃u,us[i]?=some u/\RelV x u
 |_,_,_,_,.nil,e=>by simp at e
 |_,_,0,_,.cons r _,e=>by simp at e;subst e;exact⟨_,rfl,r⟩
 |_,_,i+1,x,.cons _ t,e=>by
          obtain⟨u,h1,h2⟩:=Vals.get (i:=i) (x:=x) t (by simpa using e)
          exact⟨u,by simpa using h1,h2⟩
theorem Vals.set {x:V}{u:am}(r:RelV x u):∀{xs:List V}{us:List am}(i:Nat),Vals xs us->Vals (xs.set i x) (us.set i u)
 |_,_,_,.nil=>.nil
 |_,_,0,.cons _ t=>.cons r t
 |_,_,i+1,.cons q t=>.cons q (Vals.set r i t)
theorem Vals.append:∀{xs ys:List V}{us ws:List am},Vals xs us->Vals ys ws->Vals (xs++ys) (us++ws)
 |_,_,_,_,.nil,s=>s
 |_,_,_,_,.cons r t,s=>.cons r (Vals.append t s)
theorem Vals.take:∀{xs:List V}{us:List am}(n:Nat),Vals xs us->Vals (xs.take n) (us.take n)
 |_,_,0,_=>.nil
 |_,_,_+1,.nil=>.nil
 |_,_,n+1,.cons r t=>.cons r (Vals.take n t)
theorem Vals.drop:∀{xs:List V}{us:List am}(n:Nat),Vals xs us->Vals (xs.drop n) (us.drop n)
 |_,_,0,r=>r
 |_,_,_+1,.nil=>.nil
 |_,_,n+1,.cons _ t=>Vals.drop n t
def B1:Option V->Option am->Prop
 |some v,some u=>RelV v u
 |none,none=>True
 |_,_=>False
def KV {κ:Type}:List (κ×V)->List (κ×am)->Prop:=wn fun (p:κ×V) (q:κ×am)=>p.1=q.1/\RelV p.2 q.2
def kV:Key->V
 | .inl i=>.int i
 | .inr x=>.str x
inductive HO where
 |lst (xs:List V)
 |tup (xs:List V)
 |dK (aF:List (Key×V))|dT (aF:List (List Key×V))
 |set (S:Int->Bool) (n:Nat)
 |ins (C dx:ap) (fs:List (db×V))
 |own (x:ap)
 |xd (fs:List (db×V))
 |met (f x:ap)
 |v3 (lo hi:Int)
 |fx (o:l8) (u:HO)
 |cA (ps:Array am)
 |lam (ps:Array am)
 |ext (φ:i0->Prop)
abbrev Hp:=ap->Option HO
def upd (H:Hp) (a:ap) (o:HO):Hp:=fun b=>if b=a then some o else H b
theorem aE {H:Hp}{a:ap}{o:HO}:upd H a o a=some o :=by unfold upd;rw[if_pos rfl]
theorem ak {H:Hp}{a b:ap}{o:HO}(h:b≠a):upd H a o b=H b :=by unfold upd;rw[if_neg h]
theorem K5 {H:Hp}{a b:ap}{o u:HO}(h:H a=some o) (h':H b=some u) (d:o≠u):a≠b :=by
 intro e;subst e;rw[h]at h';exact d (i4 h')
theorem bA {H:Hp}{a b:ap}{o:HO}(h:H a=some o) (h':H b=none):a≠b :=by
 intro e;subst e;rw[h]at h';cases h'
section
variable (P:ii) (w:ij)
def gL (h:i0) (a:ap) (items:Array am):Prop:=∃o,h.get? a=some o/\o.cls=.type "tuple" /\ ∃n,o.data=.seq items n/\o.dict=none
theorem gL.tup {h:i0}{a:ap}{items:Array am}(x:gL h a items):Vw h a items:=let ⟨o,e,c,n,d,_⟩:=x;⟨o,e,c,n,d⟩
theorem gL.lt {h:i0}{a:ap}{items:Array am}(x:gL h a items):a<h.objs.size:=x.tup.lt
theorem gL.new (h:i0) (items:Array am):gL (h.push {cls:=.type "tuple",data:=.seq items}) h.objs.size items:=⟨_,ff _ rfl,rfl,_,rfl,rfl⟩
def bj (H:Hp) (h:i0) (a:ap):HO->Prop
 | .lst xs=>xs.length<=sizeLine/\∃(its:List am) (n:Nat),Vals xs its/\h.get? a=some {cls:=.type "list",data:=.seq its.toArray n}
 | .tup xs=>xs.length<=sizeLine/\∃its:List am,Vals xs its/\gL h a its.toArray
 | .dK aF=>aF.length<=sizeLine/\(a==sysModules)=false/\∃vs,KV aF vs/\h.DictOf (pX P w) a vs
 | .dT aF=>aF.length<=sizeLine/\(a==sysModules)=false/\∃xs:List (List Key×ap×am),
   wn (fun (p:List Key×V) (q:List Key×ap×am)=>p.1=q.1/\H q.2.1=some (.tup (p.1.map kV))/\RelV p.2 q.2.2) aF xs /\
   ∃o es ep,h.get? a=some o/\o.ExactDict/\o.data=.dict es ep/\es.toList=xs.map (entryOfKey (tupleKind (pX P w)))/\(xs.map (·.1)).Nodup
 | .set S n=>h.SetOf (intKind P w) a S n
 | .ins C dx fs=>H dx=some (.own a)/\fs.length<=1000/\dx≠a/\h.get? a=some (Vx C dx) /\
   ∃mA,h.Ns1 dx mA/\(∀f,B1 (fs.lookup f) (mA f))/\PySem.Within mA (fs.map (·.1))
 | .own _=>∃o,h.get? a=some o
 | .xd fs=>∃mA,h.Ns1 a mA/\∀f,B1 (fs.lookup f) (mA f)
 | .v3 lo hi=>∃t u v,h.get? a=some {cls:=.type "range",data:=.fields #[.int lo t,.int hi u,.int 1 v]}
 | .fx o u=>h.get? a=some o/\bj H h a u
 | .cA ps=>h.get? a=some {cls:=.none,data:=.fields ps}
 | .lam ps=>h.get? a=some {cls:=.none,data:=.fields ps}
 | .met f x=>h.get? a=some (Vf (.ref f) (.ref x))
 | .ext φ=>φ h/\(∃o,h.get? a=some o)/\∀h1 h2:i0,φ h1->(∀o,h1.get? a=some o->h2.get? a=some o)->φ h2
def dH (H:Hp) (h:i0):Prop:=∀a o,H a=some o->bj P w H h a o
end
section
variable {P:ii}{w:ij}{H H':Hp}{h h':i0}{a:ap}{o:HO}
theorem bj.lt (x:bj P w H h a o):a<h.objs.size :=by
 cases o with
 |lst xs=>obtain⟨_,_,_,_,e⟩:=x;exact gc e
 |tup xs=>obtain⟨_,_,_,p⟩:=x;exact p.lt
 |dK aF=>obtain⟨_,_,_,_,o,_,_,e,_⟩:=x;exact gc e
 |dT aF=>obtain⟨_,_,_,_,o,_,_,e,_⟩:=x;exact gc e
 |set S n=>obtain⟨o,_,_,_,e,_⟩:=x;exact gc e
 |ins C dx fs=>obtain⟨_,_,_,e,_⟩:=x;exact gc e
 |own y=>obtain⟨_,e⟩:=x;exact gc e
 |xd fs=>obtain⟨_,⟨_,_,_,e,_⟩,_⟩:=x;exact gc e
 |v3 lo hi=>obtain⟨_,_,_,e⟩:=x;exact gc e
 |fx ob u=>obtain⟨e,_⟩:=x;exact gc e
 |cA ps=>exact gc (show h.get? a=some _ from x)
 |lam ps=>exact gc (show h.get? a=some _ from x)
 |met f y=>exact gc (show h.get? a=some _ from x)
 |ext φ=>obtain⟨_,⟨_,e⟩,_⟩:=x;exact gc e
theorem wn.B2 {α β:Type}{F G:α->β->Prop}:∀{l₁:List α}{l₂:List β},wn F l₁ l₂->(∀a b,F a b->G a b)->wn G l₁ l₂
 |_,_,.nil,_=>.nil
 |_,_,.cons r t,f=>.cons (f _ _ r) (wn.B2 t f)
theorem wn.imp' {α β:Type}{F G:α->β->Prop}(f:∀a b,F a b->G a b) {l₁:List α}{l₂:List β}(r:wn F l₁ l₂):wn G l₁ l₂:=wn.B2 r f
theorem bj.bB (x:bj P w H h a o) (k:∀b u,(b=a\/H b=some (.own a))->h.get? b=some u->h'.get? b=some u)
  (ho:∀b,H b=some (.own a)->H' b=some (.own a)) (ht:∀b xs,H b=some (.tup xs)->H' b=some (.tup xs)):bj P w H' h' a o :=by
 induction o with
 |lst xs=>obtain⟨z,its,n,r,e⟩:=x;exact⟨z,its,n,r,k _ _ (.inl rfl) e⟩
 |tup xs=>obtain⟨z,its,r,ob,e,c⟩:=x;exact⟨z,its,r,ob,k _ _ (.inl rfl) e,c⟩
 |dK aF=>obtain⟨z,y,vs,r,ob,es,ep,e,c⟩:=x;exact⟨z,y,vs,r,ob,es,ep,k _ _ (.inl rfl) e,c⟩
 |dT aF=>
  obtain⟨z,y,xs,r,ob,es,ep,e,c⟩:=x;exact⟨z,y,xs,wn.B2 r fun p q z=>⟨z.1,ht _ _ z.2.1,z.2.2⟩,ob,es,ep,k _ _ (.inl rfl) e,c⟩
 |set S n=>obtain⟨ob,es,ep,t,e,c⟩:=x;exact⟨ob,es,ep,t,k _ _ (.inl rfl) e,c⟩
 |ins C dx fs=>
  obtain⟨d,z,ne,e,mA,⟨od,es,ep,e2,c⟩,r⟩:=x;exact⟨ho _ d,z,ne,k _ _ (.inl rfl) e,mA,⟨od,es,ep,k _ _ (.inr d) e2,c⟩,r⟩
 |own y=>obtain⟨ob,e⟩:=x;exact⟨ob,k _ _ (.inl rfl) e⟩
 |xd fs=>obtain⟨mA,⟨od,es,ep,e,c⟩,r⟩:=x;exact⟨mA,⟨od,es,ep,k _ _ (.inl rfl) e,c⟩,r⟩
 |v3 lo hi=>obtain⟨t,u,v,e⟩:=x;exact⟨t,u,v,k _ _ (.inl rfl) e⟩
 |fx ob u ih=>obtain⟨e,q⟩:=x;exact⟨k _ _ (.inl rfl) e,ih q⟩
 |cA ps=>
  have e:h.get? a=some {cls:=.none,data:=.fields ps}:=x;show h'.get? a=some {cls:=.none,data:=.fields ps};exact k a _ (.inl rfl) e
 |lam ps=>
  have e:h.get? a=some {cls:=.none,data:=.fields ps}:=x;show h'.get? a=some {cls:=.none,data:=.fields ps};exact k a _ (.inl rfl) e
 |met f y=>
  have e:h.get? a=some (Vf (.ref f) (.ref y)):=x;show h'.get? a=some (Vf (.ref f) (.ref y));exact k a _ (.inl rfl) e
 |ext φ=>obtain⟨p,⟨o,e⟩,st⟩:=x;exact⟨st _ _ p fun o q=>k _ _ (.inl rfl) q,⟨o,k _ _ (.inl rfl) e⟩,st⟩
theorem dH.lt (x:dH P w H h) (e:H a=some o):a<h.objs.size:=(x a o e).lt
theorem dH.fresh (x:dH P w H h) (e:h.objs.size<=a):H a=none :=by
 cases q:H a with
 |none=>rfl
 |some u=>exact absurd (mo (x.lt q) e) (NE _)
theorem dH.kept (x:dH P w H h) (k:∀b u,h.get? b=some u->h'.get? b=some u):dH P w H h':=fun a o e=>
 (x a o e).bB (fun b u _ q=>k b u q) (fun _ q=>q) fun _ _ q=>q
theorem dH.laid (x:dH P w H h) (k:∀b u,h.get? b=some u->h'.get? b=some u) (hp:h.objs.size<=a) (new:bj P w (upd H a o) h' a o):dH P w (upd H a o) h':=fun b u e=>by
 have hn:=x.fresh hp;by_cases hb:b=a
 ·subst hb;rw[aE]at e;cases e;exact new
 ·rw[ak hb]at e;exact(x b u e).bB (fun c v _ q=>k c v q) (fun c q=>by rw[ak (bA q hn)];exact q) fun c xs q=>by rw[ak (bA q hn)];exact q
end
def Rd (H:Hp) (a:ap) (u:HO):Prop:=H a=some u\/∃o,H a=some (.fx o u)
theorem Rd.ok {P:ii}{w:ij}{H:Hp}{h:i0}{a:ap}{u:HO}(r:Rd H a u) (x:dH P w H h):bj P w H h a u :=by
 rcases r with r|⟨o,r⟩
 ·exact x a u r
 ·obtain⟨_,q⟩:=x a _ r;exact q
def D2:Option HO->Prop
 |some (.lst _)=>True
 |some (.dK _)=>True
 |some (.dT _)=>True
 |some (.set _ _)=>True
 |some (.ins _ _ _)=>True
 |some (.ext _)=>True
 |some (.lam _)=>True
 |_=>False
section
variable {P:ii}{w:ij}{H:Hp}{h h':i0}{x e:ap}{o':HO}
theorem dH.write (ok:dH P w H h) (mu:D2 (H x)) (he:e=x\/H e=some (.own x)) (k:∀b u,b≠e->h.get? b=some u->h'.get? b=some u) (v7:∃u,h'.get? e=some u)
  (new:bj P w (upd H x o') h' x o'):dH P w (upd H x o') h':=fun b u q=>by
 have G5:∀c y,H c=some (.own y)->c≠x:=fun c y r z=>by subst z;rw[r]at mu;exact mu
 have Oe:∀c xs,H c=some (.tup xs)->c≠x:=fun c xs r z=>by subst z;rw[r]at mu;exact mu
 by_cases hb:b=x
 ·subst hb;rw[aE]at q;cases q;exact new
 ·rw[ak hb]at q;by_cases sO:b=e
  ·have q':H b=some (.own x) :=by
    rcases he with z|z
    ·exact absurd (sO.trans z) hb
    ·rw[sO];exact z
   rw[q]at q';cases q';obtain⟨v,hv⟩:=v7;exact⟨v,by rw[sO];exact hv⟩
  ·refine(ok b u q).bB (fun c v hc r=>k c v ?_ r) (fun c r=>by rw[ak (G5 c b r)];exact r) fun c xs r=>by rw[ak (Oe c xs r)];exact r
   rcases hc with rfl|hc
   ·exact sO
   ·rintro rfl;rcases he with z|z
    ·exact G5 c b hc z
    ·rw[hc]at z;cases z;exact hb rfl
end
structure Un (fs ex:List ap) (H H':Hp) (h h':i0):Prop where
 keep:∀b o,h.get? b=some o->H b=none->b ∉ fs->b ∉ ex->h'.get? b=some o
 slot:∀b o,h.get? b=some o->H b=none->b∈fs->b ∉ ex->∃sl,h'.get? b=some {o with slots:=sl}
 free:∀b o,h.get? b=some o->H b=none->b ∉ ex->H' b=none
 there:∀b o,h.get? b=some o->b ∉ ex->∃o',h'.get? b=some o'
 tups:∀b xs,H b=some (.tup xs)->H' b=some (.tup xs)
 frzs:∀b o u,H b=some (.fx o u)->H' b=some (.fx o u)
 tbls:∀b ps,H b=some (.cA ps)->∃more,H' b=some (.cA (ps++more))
section
variable {fs PK ex RY:List ap}{H H1 H2:Hp}{h h1 h2 h':i0}{a x e:ap}{o:HO}
theorem Un.any (u:Un fs ex H H1 h h1) {b:ap}{ob:l8}(q:h.get? b=some ob) (n:H b=none) (hx:b ∉ ex):∃sl,h1.get? b=some {ob with slots:=sl}:=by
 by_cases hb:b∈fs
 ·exact u.slot b ob q n hb hx
 ·exact⟨ob.slots,u.keep b ob q n hb hx⟩
theorem Un.kept (k:∀b u,h.get? b=some u->h'.get? b=some u):Un fs ex H H h h':=
 ⟨fun b ob q _ _ _=>k b ob q,fun b ob q _ _ _=>⟨ob.slots,k b ob q⟩,fun _ _ _ n _=>n,fun b ob q _=>⟨ob,k b ob q⟩,fun _ _ q=>q,fun _ _ _ q=>q,fun _ ps q=>⟨#[],by rw[q];simp⟩⟩
theorem Un.refl:Un fs ex H H h h:=Un.kept fun _ _ q=>q
theorem Un.laid (k:∀b u,h.get? b=some u->h'.get? b=some u) (hp:h.objs.size<=a) (hn:H a=none):Un fs ex H (upd H a o) h h' where
 keep:=fun b u q _ _ _=>k b u q
 slot:=fun b u q _ _ _=>⟨u.slots,k b u q⟩
 free:=fun b u q n _=>by rw[ak (kw (mo (gc q) hp))];exact n
 there:=fun b u q _=>⟨u,k b u q⟩
 tups:=fun b xs q=>by rw[ak (bA q hn)];exact q
 frzs:=fun b u xs q=>by rw[ak (bA q hn)];exact q
 tbls:=fun b ps q=>⟨#[],by rw[ak (bA q hn),q];simp⟩
theorem Un.write (mu:D2 (H x)) (he:e=x\/H e=some (.own x)) (k:∀b u,b≠e->h.get? b=some u->h'.get? b=some u) (v7:∃u,h'.get? e=some u):Un fs ex H (upd H x o) h h':=by
 have hx:∀b,H b=none->b≠x:=fun b n z=>by subst z;rw[n]at mu;exact mu
 have hb:∀b,H b=none->b≠e:=fun b n z=>by
  subst z;rcases he with r|r
  ·exact hx b n r
  ·rw[n]at r;cases r
 have hm:∀b u,H b=some u->¬ D2 (some u)->b≠x:=fun b u q nm z=>by subst z;rw[q]at mu;exact nm mu
 refine⟨fun b u q n _ _=>k b u (hb b n) q,fun b u q n _ _=>⟨u.slots,k b u (hb b n) q⟩,fun b u q n _=>by rw[ak (hx b n)];exact n,fun b u q _=>?_,
  fun b xs q=>by rw[ak (hm b _ q fun z=>z)];exact q,fun b u xs q=>by rw[ak (hm b _ q fun z=>z)];exact q,fun b ps q=>⟨#[],by rw[ak (hm b _ q fun z=>z),q];simp⟩⟩
 by_cases sO:b=e
 ·subst sO;exact v7
 ·exact⟨u,k b u sO q⟩
end
def D3 (h:i0) (H:Hp):List ap:=(i8 h.objs.size).filter fun a=>(H a).isSome
def iT (h:i0) (H:Hp):i0:=Us h (D3 h H)
theorem zb (h:i0) (H:Hp):(iT h H).objs.size=h.objs.size:=PySem.W.hideAll_size _ _
theorem B3 {h:i0}{H:Hp}{b:ap}{o:l8}(e:h.get? b=some o) (n:H b=none):(iT h H).get? b=some o:=
 PySem.W.hideAll_get _ e fun hm=>by
  have q:(H b).isSome=true:=(Ut.mp hm).2;rw[n]at q;simp at q
theorem E4 {h:i0}{H:Hp}{b:ap}{o:l8}(e:(iT h H).get? b=some o):h.get? b=some o/\H b=none :=by
 have e':h.get? b=some o:=PySem.W.of_hideAll (D3 h H) e;refine⟨e',?_⟩;cases q:H b with
 |none=>rfl
 |some x=>
  have hm:b∈D3 h H:=Ut.mpr ⟨u4.mpr (gc e'),by simp[q]⟩
  have z:(iT h H).get? b=none:=PySem.W.hideAll_none (D3 h H) hm;rw[z]at e;cases e
def E5 (g h:i0) (L:ap):List (ap×l8):=(i8 h.objs.size).filterMap fun a=>if a=L\/(g.get? a).isSome=true then none else (h.get? a).map fun o=>(a,o)
def rest (g h:i0) (L d:ap):List (ap×l8):=(E5 g h L).filter fun p=>decide (p.1≠d)
structure Mod (K:bn) (mg:db->Option am) (base:i0):Prop where
 kin:K.In base
 glob:base.Ns mainGlobals mg
 blt:∃mb,base.Ns builtinsNs mb/\∀x:db,x ≠ "__name__" -> mb x=bootBuiltins x
 nolimit:base.NoLimit
structure Cx where
 prog:ii
 w:ij
 K:bn
 mg:db->Option am
 base:i0
 A:mf
 N:List db
 s₀:ar
 H₀:Hp
 env:SM
 outer:List SM
 stack:List SM
 ex:List ap
 fn:db->Bool
 calm:Bool
 pn:List (ap×l8)
 xe:am->ar->Prop
def fD (l:List SM):List ap:=l.filterMap (·.frame)
abbrev Cx.fs (X:Cx):List ap:=fD X.outer
def sP (sc:ET) (x:db):Prop:=sc.names.lookup x=some .local\/sc.names.lookup x=some .cell\/sc.names.lookup x=some .free
def Loc (sc:ET) (x:db):Prop:=sc.names.lookup x=some .local\/sc.names.lookup x=some .cell
def Look (env:SM) (h:i0) (m:db->Option am) (x:db) (u:am):Prop:=
 (env.kindOf x=some .local/\m x=some u)\/((env.kindOf x=some .cell\/env.kindOf x=some .free)/\∃c,env.cells.lookup x=some c/\h.IsCell c (some u))
structure Cx.Ok (X:Cx):Prop where
 mod:Mod X.K X.mg X.base
 kind:X.env.scope.kind=.function
 glob:X.env.globals=mainGlobals
 blt:X.env.builtins=builtinsNs
 above:X.s₀.heap.objs.size<=X.env.locals
 inj:∀x y c,X.env.cells.lookup x=some c->X.env.cells.lookup y=some c->x=y
 has:∀x,(X.env.kindOf x=some .cell\/X.env.kindOf x=some .free)->∃c,X.env.cells.lookup x=some c
 cab:∀x c,X.fn x=true->X.env.cells.lookup x=some c->X.s₀.heap.objs.size<=c
 hd:X.calm=true->X.A.handled=none
 frames:X.A.frames=some X.stack
 stk:X.stack=X.outer\/(X.stack=X.env::X.outer/\X.env.frame=some X.env.locals)
 exf:∀b∈X.ex,b≠X.env.locals/\∀x c,X.env.cells.lookup x=some c->c≠b
 bs:∀b o,X.base.get? b=some o->X.s₀.heap.get? b=some o/\X.H₀ b=none
 bsz:X.base.objs.size<=X.s₀.heap.objs.size
 noex:∀b o,X.base.get? b=some o->b ∉ X.ex
 exfs:∀b∈X.ex,b ∉ X.fs
 funs:X.s₀.heap.FunFrames X.base X.outer
 frf:∀b∈X.fs,X.H₀ b=none
def Gn (n:Nat) (g:Array Tf):Prop:=VJ g/\n<=g.size
theorem Gn.self {n:Nat}{g:Array Tf}(x:Gn n g):Gn g.size g:=⟨x.1,bv _⟩
theorem Gn.trans {n:Nat}{g g':Array Tf}(x:Gn n g) (y:Gn g.size g'):Gn n g':=⟨y.1,sw x.2 y.2⟩
structure Inv (X:Cx) (pins:List (ap×l8)) (σ:List (Option V)) (H:Hp) (s:ar):Prop where
 ok:X.Ok
 os:s.os=X.s₀.os
 bare:Gn X.s₀.gens.size s.gens
 base:Un X.fs X.ex X.H₀ H X.s₀.heap s.heap
 loc:∃m,s.heap.Ns X.env.locals m/\∀(i:Nat) (x:db) (v:V),X.N[i]?=some x->σ[i]?=some (some v)->sP X.env.scope x->∃u,RelV v u/\Look X.env s.heap m x u
 cell:∀x c,X.env.cells.lookup x=some c->∃v,s.heap.IsCell c v
 free:H X.env.locals=none
 freeC:∀x c,X.env.cells.lookup x=some c->H c=none
 pin:∀p∈X.pn++pins,s.heap.get? p.1=some p.2/\H p.1=none/\p.1≠X.env.locals/\p.1 ∉ X.fs/\∀v,p.2.data≠.cell v
 hok:dH X.prog X.w H s.heap
 len:σ.length=X.N.length
section
variable {X:Cx}{pins:List (ap×l8)}{σ:List (Option V)}{H H':Hp}{s:ar}{h':i0}
theorem Cx.Ok.Of (ok:X.Ok) {b:ap}{o:l8}(e:X.base.get? b=some o):b ∉ X.fs:=fun hb=>by
 have:=(ok.funs.mem hb).1;rw[e]at this;cases this
theorem Inv.bs (I:Inv X pins σ H s):∀b o,X.base.get? b=some o->s.heap.get? b=some o/\H b=none:=fun b o e=>
 ⟨I.base.keep b o (I.ok.bs b o e).1 (I.ok.bs b o e).2 (I.ok.Of e) (I.ok.noex b o e),I.base.free b o (I.ok.bs b o e).1 (I.ok.bs b o e).2 (I.ok.noex b o e)⟩
theorem Inv.bk (I:Inv X pins σ H s):∀b o,X.base.get? b=some o->s.heap.get? b=some o:=fun b o e=>(I.bs b o e).1
theorem Inv.mod (I:Inv X pins σ H s):Mod X.K X.mg X.base:=I.ok.mod
theorem Inv.hU (I:Inv X pins σ H s):X.K.In s.heap:=I.ok.mod.kin.keeps I.bk
theorem Inv.nolimit (I:Inv X pins σ H s):s.heap.NoLimit:=I.ok.mod.nolimit.keeps I.bk
theorem Inv.lt (I:Inv X pins σ H s):X.env.locals<s.heap.objs.size:=let ⟨_,hn,_⟩:=I.loc;hn.lt
theorem Inv.sz (I:Inv X pins σ H s):X.s₀.heap.objs.size<=s.heap.objs.size:=sw I.ok.above (S1 I.lt)
theorem Inv.G6 (I:Inv X pins σ H s) {a:ap}(h:s.heap.objs.size<=a):a ∉ X.fs:=fun hb=>by
 obtain⟨_,o,ho,_⟩:=I.ok.funs.mem hb;exact absurd (mo (gc ho) (sw I.sz h)) (NE _)
theorem Inv.sQ (I:Inv X pins σ H s):∀x c,X.env.cells.lookup x=some c->c≠X.env.locals:=fun x c e z=>by
 obtain⟨v,o,ho,hd⟩:=I.cell x c e;obtain⟨m,⟨o',es,ep,eJ,hV,_⟩,_⟩:=I.loc;rw[z,eJ]at ho;cases ho;rw[hV]at hd;cases hd
theorem Inv.funs (I:Inv X pins σ H s):s.heap.FunFrames X.base X.outer :=by
 have all:∀(l:List SM),(∀b∈fD l,b∈X.fs)->X.s₀.heap.FunFrames X.base l->s.heap.FunFrames X.base l :=by
  intro l;induction l with
  |nil=>intro _ _;trivial
  |cons env r ih=>
   intro hs hl;obtain⟨hk,⟨L,o,hf,hn,ho,hd⟩,hr⟩:=hl;have hL:L∈X.fs:=hs L (by unfold fD;rw[NH,hf];exact i1)
   obtain⟨sl,e⟩:=I.base.slot L o ho (I.ok.frf L hL) hL fun z=>I.ok.exfs L z hL
   exact⟨hk,⟨L,_,hf,hn,e,hd⟩,ih (fun b hb=>hs b (by unfold fD;rw[NH,hf];exact dL _ hb)) hr⟩
 exact all X.outer (fun _ hb=>hb) I.ok.funs
theorem Inv.stack (I:Inv X pins σ H s):s.heap.FunFrames X.base X.stack :=by
 rcases I.ok.stk with e|⟨e,hf⟩
 ·rw[e];exact I.funs
 ·rw[e];obtain⟨m,hn,_⟩:=I.loc;refine .cons (by rw[I.ok.kind];decide) hf hn ?_ I.funs
  exact i0.get?_none_of_le (sw I.ok.bsz I.ok.above)
theorem Inv.iU (I:Inv X pins σ H s):∀b∈fD X.stack,b∈X.env.locals::X.fs:=fun b hb=>by
 rcases I.ok.stk with e|⟨e,hf⟩
 ·rw[e]at hb;exact dL _ hb
 ·rw[e]at hb;unfold fD at hb;rw[NH,hf]at hb;exact hb
theorem Inv.pY (I:Inv X pins σ H s):∀b∈fD X.stack,H b=none:=fun b hb=>by
 rcases li.mp (I.iU b hb) with e|hb
 ·rw[e];exact I.free
 ·obtain⟨_,o,ho,_⟩:=I.ok.funs.mem hb;exact I.base.free b o ho (I.ok.frf b hb) fun z=>I.ok.exfs b z hb
theorem Inv.step {g':Array Tf}{t':Nat}{d':Drawn}{ch:List ap}(I:Inv X pins σ H s)
  (ng:∀b∈ch,(b∈X.ex\/X.s₀.heap.objs.size<=b)/\b≠X.env.locals/\(∀x c,X.env.cells.lookup x=some c->c≠b)/\∀p∈X.pn++pins,p.1≠b)
  (keep:∀b o,b≠X.env.locals->b ∉ X.fs->b ∉ ch->s.heap.get? b=some o->H b=none->h'.get? b=some o)
  (slot:∀b o,b≠X.env.locals->b∈X.fs->b ∉ ch->s.heap.get? b=some o->H b=none->∃sl,h'.get? b=some {o with slots:=sl}) (free:∀b o,b ∉ ch->s.heap.get? b=some o->H b=none->H' b=none)
  (there:∀b o,b ∉ ch->s.heap.get? b=some o->∃o',h'.get? b=some o')
  (tups:∀b xs,H b=some (.tup xs)->H' b=some (.tup xs)) (frzs:∀b o u,H b=some (.fx o u)->H' b=some (.fx o u)) (tbls:∀b ps,H b=some (.cA ps)->∃more,H' b=some (.cA (ps++more)))
  (ns:∀m,s.heap.Ns X.env.locals m->h'.Ns X.env.locals m) (hok:dH X.prog X.w H' h') (hg:Gn s.gens.size g') :
  Inv X pins σ H' {s with heap:=h',gens:=g',drawn:=d',toks:=t'}:=by
 have MI:∀b o,X.s₀.heap.get? b=some o->b≠X.env.locals:=fun b o e=>kw (mo (gc e) I.ok.above)
 have D4:∀b o,X.s₀.heap.get? b=some o->b ∉ X.ex->b ∉ ch:=fun b o e hx hb=>by
  rcases (ng b hb).1 with z|z
  ·exact hx z
  ·exact absurd (mo (gc e) z) (NE _)
 have cellK:∀x c,X.env.cells.lookup x=some c->∀v,s.heap.IsCell c v->h'.IsCell c v:=fun x c e v ⟨o,ho,hd⟩=>by
  have zf:c ∉ ch:=fun z=>(ng c z).2.2.1 x c e rfl
  by_cases hc:c∈X.fs
  ·obtain⟨sl,q⟩:=slot c o (I.sQ x c e) hc zf ho (I.freeC x c e);exact⟨_,q,hd⟩
  ·exact⟨o,keep c o (I.sQ x c e) hc zf ho (I.freeC x c e),hd⟩
 refine⟨I.ok,I.os,I.bare.trans hg,⟨fun b o e n hb hx=>?_,fun b o e n hb hx=>?_,fun b o e n hx=>?_,fun b o e hx=>?_,fun b xs e=>tups b xs (I.base.tups b xs e),fun b o xs e=>frzs b o xs (I.base.frzs b o xs e),fun b ps e=>?_⟩,?_,fun x c e=>?_,?_,fun x c e=>?_,fun p hp=>?_,hok,I.len⟩
 ·exact keep b o (MI b o e) hb (D4 b o e hx) (I.base.keep b o e n hb hx) (I.base.free b o e n hx)
 ·obtain⟨sl,e1⟩:=I.base.slot b o e n hb hx;obtain⟨MJ,e2⟩:=slot b _ (MI b o e) hb (D4 b o e hx) e1 (I.base.free b o e n hx);exact⟨MJ,e2⟩
 ·obtain⟨o',e1⟩:=I.base.there b o e hx;exact free b o' (D4 b o e hx) e1 (I.base.free b o e n hx)
 ·obtain⟨o',e1⟩:=I.base.there b o e hx;exact there b o' (D4 b o e hx) e1
 ·obtain⟨m1,e1⟩:=I.base.tbls b ps e;obtain⟨m2,e2⟩:=tbls b _ e1;exact⟨m1++m2,by rw[e2,Array.append_assoc]⟩
 ·obtain⟨m,hn,hl⟩:=I.loc;refine⟨m,ns m hn,fun i x v e1 e2 e3=>?_⟩
  obtain⟨u,r,l⟩:=hl i x v e1 e2 e3;refine⟨u,r,?_⟩;rcases l with l|⟨k,c,e,z⟩
  ·exact .inl l
  ·exact .inr ⟨k,c,e,cellK x c e _ z⟩
 ·obtain⟨v,z⟩:=I.cell x c e;exact⟨v,cellK x c e v z⟩
 ·obtain⟨m,⟨o,_,_,ho,_⟩,_⟩:=I.loc;exact free _ o (fun z=>(ng _ z).2.1 rfl) ho I.free
 ·obtain⟨v,o,ho,hd⟩:=I.cell x c e;exact free c o (fun z=>(ng c z).2.2.1 x c e rfl) ho (I.freeC x c e)
 ·obtain⟨e,n,ne,nf,d⟩:=I.pin p hp;have zf:p.1 ∉ ch:=fun z=>(ng p.1 z).2.2.2 p hp rfl
  exact⟨keep p.1 p.2 ne nf zf e n,free p.1 p.2 zf e n,ne,nf,d⟩
theorem Inv.un {t':Nat}(I:Inv X pins σ H s) (u:Un X.fs [] H H' s.heap h') (hok:dH X.prog X.w H' h'):Inv X pins σ H' {s with heap:=h',toks:=t'}:=by
 obtain⟨m,⟨o,es,ep,ho,r⟩,_⟩:=id I.loc;obtain⟨sl,hL⟩:=u.any ho I.free (by simp)
 exact I.step (g':=s.gens) (d':=s.drawn) (ch:=[]) (fun _ z=>nomatch z) (fun b o _ hb _ e n=>u.keep b o e n hb (by simp)) (fun b o _ hb _ e n=>u.slot b o e n hb (by simp)) (fun b o _ e n=>u.free b o e n (by simp)) (fun b o _ e=>u.there b o e (by simp)) u.tups u.frzs u.tbls (fun m' hm=>by
  obtain⟨o',b6,G7,eJ,r'⟩:=hm;rw[ho]at eJ;cases eJ;exact⟨_,b6,G7,hL,r'⟩) hok I.bare.self
theorem Inv.call {g':Array Tf}{t':Nat}{d':Drawn}{ch:List ap}(I:Inv X pins σ H s) (u:Un (fD X.stack) ch H H' s.heap h') (hok:dH X.prog X.w H' h') (hg:Gn s.gens.size g')
  (ng:∀b∈ch,(b∈X.ex\/X.s₀.heap.objs.size<=b)/\b≠X.env.locals/\(∀x c,X.env.cells.lookup x=some c->c≠b)/\∀p∈X.pn++pins,p.1≠b) :
  Inv X pins σ H' {s with heap:=h',gens:=g',drawn:=d',toks:=t'}:=by
 obtain⟨m,⟨o,es,ep,ho,r⟩,_⟩:=id I.loc;obtain⟨sl,hL⟩:=u.any ho I.free fun z=>(ng _ z).2.1 rfl
 exact I.step (ch:=ch) ng (fun b o hL hb hc e n=>u.keep b o e n (fun z=>(li.mp (I.iU b z)).elim hL hb) hc) (fun b o _ _ hc e n=>u.any e n hc) (fun b o hc e n=>u.free b o e n hc) (fun b o hc e=>u.there b o e hc) u.tups u.frzs u.tbls (fun m' hm=>by
  obtain⟨o',b6,G7,eJ,r'⟩:=hm;rw[ho]at eJ;cases eJ;exact⟨_,b6,G7,hL,r'⟩) hok hg
theorem Inv.turned {t':Nat}{it:ap}(I:Inv X pins σ H s) (k:∀b o,b≠it->s.heap.get? b=some o->h'.get? b=some o) (hn:H it=none) (hL:it≠X.env.locals)
  (h1:it∈X.ex\/X.s₀.heap.objs.size<=it) (h2:∀x c,X.env.cells.lookup x=some c->c≠it) (h3:∀p∈X.pn++pins,p.1≠it):Inv X pins σ H {s with heap:=h',toks:=t'}:=by
 have zg:∀b u,H b=some u->b≠it:=fun b u e z=>by rw[z,hn]at e;cases e
 refine I.step (g':=s.gens) (d':=s.drawn) (ch:=[it]) (fun b hb=>?_) (fun b o _ _ hc e _=>k b o (fun z=>hc (by simp[z])) e) (fun b o _ _ hc e _=>⟨o.slots,k b o (fun z=>hc (by simp[z])) e⟩) (fun _ _ _ _ n=>n)
  (fun b o hc e=>⟨o,k b o (fun z=>hc (by simp[z])) e⟩) (fun _ _ e=>e) (fun _ _ _ e=>e) (fun b ps e=>⟨#[],by rw[e];simp⟩) (fun m hm=>?_) (fun b u e=>?_) I.bare.self
 ·have e:b=it :=by simpa using hb
  subst e;exact⟨h1,hL,h2,h3⟩
 ·obtain⟨o,es,ep,ho,r⟩:=hm;exact⟨o,es,ep,k _ o (EO hL) ho,r⟩
 ·refine(I.hok b u e).bB (fun c v hc q=>k c v ?_ q) (fun _ q=>q) fun _ _ q=>q
  rcases hc with z|z
  ·rw[z];exact zg b u e
  ·exact zg c _ z
theorem Inv.tok (I:Inv X pins σ H s) (t:Nat):Inv X pins σ H {s with toks:=t}:=I.un (h':=s.heap) (t':=t) Un.refl I.hok
theorem Inv.kept {t':Nat}(I:Inv X pins σ H s) (k:∀b u,s.heap.get? b=some u->h'.get? b=some u):Inv X pins σ H {s with heap:=h',toks:=t'}:=I.un (Un.kept k) (I.hok.kept k)
theorem Inv.laid {a:ap}{o:HO}{t':Nat}(I:Inv X pins σ H s) (k:∀b u,s.heap.get? b=some u->h'.get? b=some u) (hp:s.heap.objs.size<=a) (new:bj X.prog X.w (upd H a o) h' a o) :
  Inv X pins σ (upd H a o) {s with heap:=h',toks:=t'}:=I.un (Un.laid k hp (I.hok.fresh hp)) (I.hok.laid k hp new)
theorem Inv.write {x e:ap}{o:HO}{t':Nat}(I:Inv X pins σ H s) (mu:D2 (H x)) (he:e=x\/H e=some (.own x)) (k:∀b u,b≠e->s.heap.get? b=some u->h'.get? b=some u) (v7:∃u,h'.get? e=some u)
  (new:bj X.prog X.w (upd H x o) h' x o):Inv X pins σ (upd H x o) {s with heap:=h',toks:=t'}:=I.un (Un.write mu he k v7) (I.hok.write mu he k v7 new)
theorem Inv.pZ {pins':List (ap×l8)}(I:Inv X pins σ H s) (h:∀p∈pins',s.heap.get? p.1=some p.2/\H p.1=none/\p.1≠X.env.locals/\p.1 ∉ X.fs/\∀v,p.2.data≠.cell v):Inv X pins' σ H s:=
 ⟨I.ok,I.os,I.bare,I.base,I.loc,I.cell,I.free,I.freeC,fun p hp=>(xb.mp hp).elim (fun z=>I.pin p (FF _ z)) (h p),I.hok,I.len⟩
theorem sR {N:List db}(hN:N.Nodup) {i j:Nat}{x:db}(a:N[i]?=some x) (b:N[j]?=some x):i=j :=by
 obtain⟨h1,e1⟩:=br.mp a;obtain⟨h2,e2⟩:=br.mp b;exact(List.getElem_inj hN).mp (e1.trans e2.symm)
theorem store_ok2 {M:Model}{A:mf}{E:am->ar->Prop}{i:Nat}{x:db}{v:V}{u:am}{Q:Unit->ar->Prop}(I:Inv X pins σ H s) (hN:X.N.Nodup) (hi:X.N[i]?=some x) (hx:Loc X.env.scope x) (r:RelV v u)
  (h:∀s',Inv X pins (σ.set i (some v)) H s'->(∃a,v6 a s.heap s'.heap/\(a=X.env.locals\/X.env.cells.lookup x=some a))->Q () s') (hf:X.fn x=true\/X.env.scope.names.lookup x=some .local :=by first|exact .inl rfl|exact .inr rfl|assumption):wpAny M A (storeName X.env x u) Q E s :=by
 obtain⟨m,hn,hl⟩:=id I.loc;have Og:(X.env.scope.kind==.class || (X.env.scope.kind==.module && X.env.locals != X.env.globals))=false :=by rw[I.ok.kind];rfl
 have G8:i<σ.length :=by rw[I.len];exact(br.mp hi).1
 have sQ:=I.sQ;have tracked:∀{a:ap} {h':i0},(∃o,s.heap.get? a=some o/\H a=none)->v6 a s.heap h'->dH X.prog X.w H h':=fun {a h'} ha hs b ob e=>by
  obtain⟨_,_,oG⟩:=ha;refine(I.hok b ob e).bB (fun c w' hc q=>(hs.2 c ?_).trans q) (fun _ q=>q) fun _ _ q=>q
  rintro rfl;rcases hc with rfl|hc
  ·rw[oG]at e;cases e
  ·rw[oG]at hc;cases hc
 rcases hx with hk|hk
 ·refine wpAny_storeName_local hk hn (fun h' sS hs=>?_) Og
  obtain⟨oL,_,_,oH,_⟩:=id hn;refine h _ ⟨I.ok,I.os,I.bare,⟨fun b o e n hb hx=>?_,fun b o e n hb hx=>?_,I.base.free,fun b o e hx=>?_,I.base.tups,I.base.frzs,I.base.tbls⟩,⟨_,sS,fun j y v' e1 e2 e3=>?_⟩,fun y c e=>?_,I.free,I.freeC,fun p hp=>?_,tracked ⟨oL,oH,I.free⟩ hs,by simpa using I.len⟩ ⟨_,hs,.inl rfl⟩
  ·exact(hs.2 b (kw (mo (gc e) I.ok.above))).trans (I.base.keep b o e n hb hx)
  ·obtain⟨sl,e1⟩:=I.base.slot b o e n hb hx;exact⟨sl,(hs.2 b (kw (mo (gc e) I.ok.above))).trans e1⟩
  ·obtain⟨o',e1⟩:=I.base.there b o e hx;exact⟨o',(hs.2 b (kw (mo (gc e) I.ok.above))).trans e1⟩
  ·by_cases hj:j=i
   ·subst hj;rw[hi]at e1;cases e1;rw[Uf G8]at e2;cases e2;exact⟨u,r,.inl ⟨hk,by simp⟩⟩
   ·rw[List.getElem?_set_ne (EO hj)]at e2;obtain⟨u',r',q⟩:=hl j y v' e1 e2 e3;refine⟨u',r',?_⟩;rcases q with ⟨k,e⟩|⟨k,c,e,z⟩
    ·refine .inl ⟨k,?_⟩;have:y≠x:=fun e=>hj (sR hN e1 (e▸hi))
     simp[this,e]
    ·exact .inr ⟨k,c,e,z.sameBut hs (sQ y c e)⟩
  ·obtain⟨w',z⟩:=I.cell y c e;exact⟨w',z.sameBut hs (sQ y c e)⟩
  ·obtain⟨e,n,ne,nf,d⟩:=I.pin p hp;exact⟨(hs.2 p.1 ne).trans e,n,ne,nf,d⟩
 ·have G9:X.fn x=true :=by
   rcases hf with z|z
   ·exact z
   ·rw[z]at hk;cases hk
  obtain⟨c,hc⟩:=I.ok.has x (.inl hk);obtain⟨w',z⟩:=I.cell x c hc;refine wpAny_storeName_cell I.ok.kind hk hc z (fun h' D5 hs=>?_)
  obtain⟨oc,MK,Oh⟩:=id z;refine h {s with heap:=h'} ⟨I.ok,I.os,I.bare,⟨fun b o e n hb hx=>?_,fun b o e n hb hx=>?_,I.base.free,fun b o e hx=>?_,I.base.tups,I.base.frzs,I.base.tbls⟩,⟨m,hn.sameBut hs (EO (sQ x c hc)),fun j y v' e1 e2 e3=>?_⟩,fun y c' e=>?_,I.free,I.freeC,fun p hp=>?_,tracked ⟨oc,MK,I.freeC x c hc⟩ hs,by simpa using I.len⟩ ⟨c,hs,.inr hc⟩
  ·exact(hs.2 b (kw (mo (gc e) (I.ok.cab x c G9 hc)))).trans (I.base.keep b o e n hb hx)
  ·obtain⟨sl,e1⟩:=I.base.slot b o e n hb hx;exact⟨sl,(hs.2 b (kw (mo (gc e) (I.ok.cab x c G9 hc)))).trans e1⟩
  ·obtain⟨o',e1⟩:=I.base.there b o e hx;exact⟨o',(hs.2 b (kw (mo (gc e) (I.ok.cab x c G9 hc)))).trans e1⟩
  ·by_cases hj:j=i
   ·subst hj;rw[hi]at e1;cases e1;rw[Uf G8]at e2;cases e2;exact⟨u,r,.inr ⟨.inl hk,c,hc,D5⟩⟩
   ·rw[List.getElem?_set_ne (EO hj)]at e2;obtain⟨u',r',q⟩:=hl j y v' e1 e2 e3;refine⟨u',r',?_⟩;rcases q with q|⟨k,c',e,z'⟩
    ·exact .inl q
    ·refine .inr ⟨k,c',e,z'.sameBut hs ?_⟩;rintro rfl;exact hj (sR hN e1 (I.ok.inj _ _ _ e hc▸hi))
  ·by_cases ML:c'=c
   ·subst ML;exact⟨_,D5⟩
   ·obtain⟨w2,z2⟩:=I.cell y c' e;exact⟨w2,z2.sameBut hs ML⟩
  ·obtain⟨e,n,ne,nf,d⟩:=I.pin p hp;refine⟨(hs.2 p.1 ?_).trans e,n,ne,nf,d⟩;intro q;rw[q,MK]at e;have q':oc=p.2:=i4 e;exact d w' (by rw[<- q'];exact Oh)
theorem nK {M:Model}{A:mf}{E:am->ar->Prop}{i:Nat}{x:db}{v:V}{u:am}{Q:Unit->ar->Prop}(I:Inv X pins σ H s) (hN:X.N.Nodup) (hi:X.N[i]?=some x) (hx:Loc X.env.scope x) (r:RelV v u)
  (h:∀s',Inv X pins (σ.set i (some v)) H s'->Q () s') (hf:X.fn x=true\/X.env.scope.names.lookup x=some .local :=by first|exact .inl rfl|exact .inr rfl|assumption):wpAny M A (storeName X.env x u) Q E s:=
 store_ok2 I hN hi hx r (fun s' I' _=>h s' I') hf
theorem Inv.xt {s':ar}{ch:List ap}(I:Inv X pins σ H s) (ho:s'.os=s.os) (u:Un (fD X.stack) ch H H' s.heap s'.heap) (hok:dH X.prog X.w H' s'.heap) (hg:Gn s.gens.size s'.gens)
  (ng:∀b∈ch,(b∈X.ex\/X.s₀.heap.objs.size<=b)/\b≠X.env.locals/\(∀x c,X.env.cells.lookup x=some c->c≠b)/\∀p∈X.pn++pins,p.1≠b):Inv X pins σ H' s':=by
 obtain⟨h',g',d',t',o'⟩:=s';have e:o'=s.os:=ho;subst e;exact I.call (g':=g') (t':=t') (d':=d') u hok hg ng
end
abbrev XK:=am->Option ap->Hp->Prop
abbrev St:=List (Option V)
abbrev VK:=V->Hp->Prop
abbrev TE:=St->Hp->VK->Prop
abbrev TT:=St->Hp->(Bool->Hp->Prop)->Prop
abbrev TA:=St->Hp->(List V->Hp->Prop)->Prop
structure Ends where
 nx:St->Hp->Prop
 rt:VK
 bk:St->Hp->Prop:=fun _ _=>False
 ct:St->Hp->Prop:=fun _ _=>False
abbrev TS:=Ends->St->Hp->Prop
def EP (X:Cx) (pins:List (ap×l8)) (σ:St) (Q:VK) (u:am) (s':ar):Prop:=∃v H',Inv X pins σ H' s'/\RelV v u/\Q v H'
def TP (X:Cx) (pins:List (ap×l8)) (σ:St) (Q:Bool->Hp->Prop) (b:Bool) (s':ar):Prop:=∃H',Inv X pins σ H' s'/\Q b H'
def AP (X:Cx) (pins:List (ap×l8)) (σ:St) (Q:List V->Hp->Prop) (us:List am) (s':ar):Prop:=∃vs H',Inv X pins σ H' s'/\Vals vs us/\Q vs H'
def SP (X:Cx) (pins:List (ap×l8)) (D:Ends) (f:Flow) (s':ar):Prop:=
 match f with
 | .next=>∃aG H',Inv X pins aG H' s'/\D.nx aG H'
 | .brk=>∃aG H',Inv X pins aG H' s'/\D.bk aG H'
 | .cont=>∃aG H',Inv X pins aG H' s'/\D.ct aG H'
 | .ret u=>∃v aG H',Inv X pins aG H' s'/\RelV v u/\D.rt v H'
structure PE (X:Cx) (e:gl) (t:TE):Prop where
 run:∀(pins:List (ap×l8)) (s:ar) (σ:St) (H:Hp) (Q:VK),Inv X pins σ H s->t σ H Q->wpAny (model X.prog X.w) X.A (eval e X.env) (EP X pins σ Q) X.xe s
instance {X:Cx} {e:gl} {t:TE}:CoeFun (PE X e t) (fun _=>∀(pins:List (ap×l8)) (s:ar) (σ:St) (H:Hp) (Q:VK),Inv X pins σ H s->t σ H Q->wpAny (model X.prog X.w) X.A (eval e X.env) (EP X pins σ Q) X.xe s):=⟨PE.run⟩
structure PT (X:Cx) (e:gl) (t:TT):Prop where
 run:∀(pins:List (ap×l8)) (s:ar) (σ:St) (H:Hp) (Q:Bool->Hp->Prop),Inv X pins σ H s->t σ H Q->wpAny (model X.prog X.w) X.A (isTrue e X.env (eval e X.env)) (TP X pins σ Q) X.xe s
instance {X:Cx} {e:gl} {t:TT}:CoeFun (PT X e t) (fun _=>∀(pins:List (ap×l8)) (s:ar) (σ:St) (H:Hp) (Q:Bool->Hp->Prop),Inv X pins σ H s->t σ H Q->wpAny (model X.prog X.w) X.A (isTrue e X.env (eval e X.env)) (TP X pins σ Q) X.xe s):=⟨PT.run⟩
def PW (X:Cx) (e:gl) (t:TT):Prop:=
 ∀(whole:TH am) (pins:List (ap×l8)) (s:ar) (σ:St) (H:Hp) (Q:Bool->Hp->Prop),Inv X pins σ H s->t σ H Q->wpAny (model X.prog X.w) X.A (isTrue e X.env whole) (TP X pins σ Q) X.xe s
theorem PW.pt {X:Cx}{e:gl}{t:TT}(h:PW X e t):PT X e t:=⟨h _⟩
structure PA (X:Cx) (es:List gl) (t:TA):Prop where
 run:∀(pos:ze) (pins:List (ap×l8)) (s:ar) (σ:St) (H:Hp) (Q:List V->Hp->Prop),Inv X pins σ H s->t σ H Q->wpAny (model X.prog X.w) X.A (spliced (backTo pos (starEach es X.env))) (AP X pins σ Q) X.xe s
instance {X:Cx} {es:List gl} {t:TA}:CoeFun (PA X es t) (fun _=>∀(pos:ze) (pins:List (ap×l8)) (s:ar) (σ:St) (H:Hp) (Q:List V->Hp->Prop),Inv X pins σ H s->t σ H Q->wpAny (model X.prog X.w) X.A (spliced (backTo pos (starEach es X.env))) (AP X pins σ Q) X.xe s):=⟨PA.run⟩
structure PS (X:Cx) (st:wp) (t:TS):Prop where
 run:∀(pins:List (ap×l8)) (s:ar) (σ:St) (H:Hp) (D:Ends),Inv X pins σ H s->t D σ H->wpAny (model X.prog X.w) X.A (exec st X.env) (SP X pins D) X.xe s
instance {X:Cx} {st:wp} {t:TS}:CoeFun (PS X st t) (fun _=>∀(pins:List (ap×l8)) (s:ar) (σ:St) (H:Hp) (D:Ends),Inv X pins σ H s->t D σ H->wpAny (model X.prog X.w) X.A (exec st X.env) (SP X pins D) X.xe s):=⟨PS.run⟩
structure fZ (X:Cx) (st:List wp) (t:TS):Prop where
 run:∀(pins:List (ap×l8)) (s:ar) (σ:St) (H:Hp) (D:Ends),Inv X pins σ H s->t D σ H->wpAny (model X.prog X.w) X.A (execs st X.env) (SP X pins D) X.xe s
instance {X:Cx} {st:List wp} {t:TS}:CoeFun (fZ X st t) (fun _=>∀(pins:List (ap×l8)) (s:ar) (σ:St) (H:Hp) (D:Ends),Inv X pins σ H s->t D σ H->wpAny (model X.prog X.w) X.A (execs st X.env) (SP X pins D) X.xe s):=⟨fZ.run⟩
theorem thn {α:Type}{t:TH α}{Q Q':α->ar->Prop}{M:Model}{A:mf}{E:am->ar->Prop}{s:ar}(h:wpAny M A t Q E s) (hQ:∀a s,Q a s->Q' a s):wpAny M A t Q' E s:=tw h hQ fun _ _ x=>x
section
variable {X:Cx}
theorem bin {a b:gl}{ta tb:TE}(ha:PE X a ta) (hb:PE X b tb) {pins:List (ap×l8)}{s:ar}{σ:St}{H:Hp}{R:V->V->Hp->Prop}(I:Inv X pins σ H s) (h:ta σ H fun x H1=>tb σ H1 fun y H2=>R x y H2)
  {α:Type} {Q:α->ar->Prop} {f:am->am->TH α}
  (hf:∀v u s2 x y H2,Inv X pins σ H2 s2->RelV x v->RelV y u->R x y H2->wpAny (model X.prog X.w) X.A (f v u) Q X.xe s2) :
  wpAny (model X.prog X.w) X.A (eval a X.env) (fun v av=>wpAny (model X.prog X.w) X.A (eval b X.env) (fun u gM=>wpAny (model X.prog X.w) X.A (f v u) Q X.xe gM) X.xe av) X.xe s :=by
 refine thn (ha pins s σ H _ I h) fun v s1 ⟨x,H1,I1,r1,q1⟩=>?_
 refine thn (hb pins s1 σ H1 _ I1 q1) fun u s2 ⟨y,H2,I2,r2,q2⟩=>?_
 exact hf v u s2 x y H2 I2 r1 r2 q2
def Oi (i:Nat):TE:=fun σ H Q=>∃v,σ[i]?=some (some v)/\Q v H
def tC (v:V):TE:=fun _ H Q=>Q v H
theorem Ha {i:Nat}{x:db}{pos:ze}(hN:X.N[i]?=some x) (hv:sP X.env.scope x) (hd:(x==("__debug__" : db))=false :=by decide) (hZ:(x==("__classdict__" : db))=false :=by decide):PE X (.Name x pos) (Oi i) :=by
 refine⟨?_⟩;intro pins s σ H Q I h;obtain⟨v,e,h⟩:=h;obtain⟨m,hn,hl⟩:=I.loc;obtain⟨u,r,l⟩:=hl i x v hN e hv;have fin:EP X pins σ Q u s:=⟨v,H,I,r,h⟩;rcases l with ⟨hk,hm⟩|⟨hk,c,hc,mP⟩
 ·exact wpAny_Name (wpAny_loadName_local I.ok.kind hk hn hm fin) hd
 ·rcases hk with hk|hk
  ·exact wpAny_Name (wpAny_loadName_cell I.ok.kind hk hc mP fin) hd
  ·exact wpAny_Name (wpAny_loadName_free I.ok.kind hk hc mP fin hZ) hd
theorem Hb {i j pos}:PE X (.Constant (.int i) j pos) (tC (.int i)):=⟨fun _ _ _ H _ I h=>wpAny_Constant_int ⟨.int i,H,I.tok _,⟨_,rfl⟩,h⟩⟩
theorem K6 {b j pos}:PE X (.Constant (.bool b) j pos) (tC (.bl b)):=⟨fun _ _ _ H _ I h=>Constant_bool ⟨.bl b,H,I,rfl,h⟩⟩
theorem Hc {x j pos}:PE X (.Constant (.str x) j pos) (tC (.str x)):=⟨fun _ _ _ H _ I h=>Calls.Constant_str ⟨.str x,H,I.tok _,⟨_,rfl⟩,h⟩⟩
def Gl (X:Cx) (x:db):Prop:=X.env.kindOf x=some .globalImplicit
theorem p0 {E:am->ar->Prop}{pins:List (ap×l8)}{s:ar}{σ:St}{H:Hp}{x:db}{u:am}{pos:ze}{Q:am->ar->Prop}(I:Inv X pins σ H s) (hg:Gl X x) (hm:X.mg x=some u) (h:Q u s)
  (hd:(x==("__debug__" : db))=false :=by decide):wpAny (model X.prog X.w) X.A (eval (.Name x pos) X.env) Q E s:=
 Calls.Name_function_global I.ok.kind hg (Calls.loadGlobal_global (by rw[I.ok.glob];exact I.mod.glob.keeps I.bk) hm h) hd
theorem d6 {E:am->ar->Prop}{pins:List (ap×l8)}{s:ar}{σ:St}{H:Hp}{x:db}{u:am}{pos:ze}{Q:am->ar->Prop}(I:Inv X pins σ H s) (hg:Gl X x) (hm:X.mg x=none) (hv:bootBuiltins x=some u) (h:Q u s)
  (hn:x ≠ "__name__" := by decide) (hd:(x==("__debug__" : db))=false :=by decide):wpAny (model X.prog X.w) X.A (eval (.Name x pos) X.env) Q E s :=by
 obtain⟨mb,h1,h2⟩:=I.mod.blt;exact Calls.Name_function_global I.ok.kind hg (Calls.loadGlobal_builtin (by rw[I.ok.glob];exact I.mod.glob.keeps I.bk) hm (by rw[I.ok.blt];exact h1.keeps I.bk) ((h2 x hn).trans hv) h) hd
theorem E6 {x:db}{v:V}{u:am}{pos:ze}(hg:Gl X x) (hm:X.mg x=some u) (r:RelV v u) (hd:(x==("__debug__" : db))=false :=by decide):PE X (.Name x pos) (tC v):=⟨fun _ _ _ H _ I h=>p0 I hg hm ⟨v,H,I,r,h⟩ hd⟩
theorem E7 {x:db}{v:V}{u:am}{pos:ze}(hg:Gl X x) (hm:X.mg x=none) (hv:bootBuiltins x=some u) (r:RelV v u) (hn:x ≠ "__name__" := by decide) (hd:(x==("__debug__" : db))=false :=by decide):PE X (.Name x pos) (tC v):=⟨fun _ _ _ H _ I h=>d6 I hg hm hv ⟨v,H,I,r,h⟩ hn hd⟩
variable {a b:gl}{ta tb:TE}{pos:ze}
def PC (X:Cx) (op:Th) (a b:gl) (t:TE):Prop:=
 ∀(pins:List (ap×l8)) (s:ar) (σ:St) (H:Hp) (Q:VK),Inv X pins σ H s->t σ H Q->
  wpAny (model X.prog X.w) X.A (eval a X.env) (fun v av=>wpAny (model X.prog X.w) X.A (eval b X.env) (fun u gM=>wpAny (model X.prog X.w) X.A (compareOp op v u) (EP X pins σ Q) X.xe gM) X.xe av) X.xe s
theorem B4 (b:gl) {op:Th}(h:op≠.In) (h2:op≠.NotIn):behindInMarks op b=false :=by
 have e1:(op==Th.In)=false :=by cases op<;>first|rfl|exact absurd rfl h
 have e2:(op==Th.NotIn)=false :=by cases op<;>first|rfl|exact absurd rfl h2
 cases b<;>simp[behindInMarks,e1,e2]
def tB (t:TE):TT:=fun σ H Q=>t σ H fun x H1=>∃c,x=.bl c/\Q c H1
theorem PL {op:Th}{t:TE}(h:PC X op a b t) (h1:behindInMarks op b=false :=by first|exact B4 _ (by decide) (by decide)|rfl):PT X (.Compare a [op] [b] pos) (tB t) :=by
 refine⟨?_⟩;intro pins s σ H Q I hw;refine wpAny_isTrue_Compare1 (thn (h pins s σ H _ I hw) fun v s1 h1=>thn h1 fun u s2 h2=>thn h2 fun c s3 ⟨x,H1,I1,r1,q1⟩=>?_) h1
 obtain⟨d,rfl,q⟩:=q1;cases r1;exact B0 ⟨H1,I1,q⟩
theorem Hd {e:gl}{t:TE}(h:PE X e t) (he:∀whole,isTrue e X.env whole=(do let v <- whole;standAt e.pos;holding [v] (truthy v)) :=by intro _;rfl):PT X e (tB t) :=by
 refine⟨?_⟩;intro pins s σ H Q I hw;refine isTrue_plain (thn (h pins s σ H _ I hw) fun v s1 ⟨x,H1,I1,r1,q1⟩=>?_) (he _)
 obtain⟨d,rfl,q⟩:=q1;cases r1;exact B0 ⟨H1,I1,q⟩
variable {tA oI:TT}{rest:List gl}
def Oj (t u:TT):TT:=fun σ H Q=>t σ H fun c H1=>if c=true then u σ H1 Q else Q false H1
def PN (t u:TT):TT:=fun σ H Q=>t σ H fun c H1=>if c=true then Q true H1 else u σ H1 Q
def Ol (t:TT):TT:=fun σ H Q=>t σ H fun c H1=>Q (!c) H1
theorem E8 (ha:PT X a tA):PW X (.BoolOp .And [a] pos) tA :=by
 intro wh pins s σ H Q I h;refine isTrue_and (thn (ha pins s σ H Q I h) fun c s1 e=>?_)
 cases c with
 |true=>exact isTrue_and_nil e
 |false=>exact e
theorem He (ha:PT X a tA):PW X (.BoolOp .Or [a] pos) tA :=by
 intro wh pins s σ H Q I h;refine isTrue_or (thn (ha pins s σ H Q I h) fun c s1 e=>?_)
 cases c with
 |false=>exact isTrue_or_nil e
 |true=>exact e
theorem Hf (ha:PT X a tA) (hb:PW X (.BoolOp .And (b::rest) pos) oI):PW X (.BoolOp .And (a::b::rest) pos) (Oj tA oI) :=by
 intro wh pins s σ H Q I h;refine isTrue_and (thn (ha pins s σ H _ I h) fun c s1 ⟨H1,I1,q1⟩=>?_)
 cases c with
 |true=>exact hb wh pins s1 σ H1 Q I1 q1
 |false=>exact⟨H1,I1,q1⟩
theorem K7 (ha:PT X a tA) (hb:PW X (.BoolOp .Or (b::rest) pos) oI):PW X (.BoolOp .Or (a::b::rest) pos) (PN tA oI) :=by
 intro wh pins s σ H Q I h;refine isTrue_or (thn (ha pins s σ H _ I h) fun c s1 ⟨H1,I1,q1⟩=>?_)
 cases c with
 |true=>exact⟨H1,I1,q1⟩
 |false=>exact hb wh pins s1 σ H1 Q I1 q1
theorem Hg (ha:PT X a tA):PT X (.UnaryOp .Not a pos) (Ol tA) :=by
 refine⟨?_⟩;intro pins s σ H Q I h;exact isTrue_not (ha pins s σ H (fun c H1=>Q (!c) H1) I h)
def K8 (ta tb:TE):TE:=fun σ H Q=>ta σ H fun x H1=>∃c,x=.bl c/\if c=true then tb σ H1 Q else Q (.bl false) H1
def Om (ta tb:TE):TE:=fun σ H Q=>ta σ H fun x H1=>∃c,x=.bl c/\if c=true then Q (.bl true) H1 else tb σ H1 Q
def K9 (ta:TE):TE:=fun σ H Q=>ta σ H fun x H1=>∃c,x=.bl c/\Q (.bl (!c)) H1
theorem Hh {op}{t:TE}(h:PE X a t):PE X (.BoolOp op [a] pos) t:=⟨fun pins s σ H Q I hw=>BoolOp_one (h pins s σ H Q I hw)⟩
theorem Hi (ha:PE X a ta) (hb:PE X (.BoolOp .And (b::rest) pos) tb):PE X (.BoolOp .And (a::b::rest) pos) (K8 ta tb) :=by
 refine⟨?_⟩;intro pins s σ H Q I h;refine BoolOp_and (thn (ha pins s σ H _ I h) fun v s1 ⟨x,H1,I1,r1,q1⟩=>?_)
 obtain⟨c,rfl,q1⟩:=q1;cases r1;refine B0 ?_;cases c with
 |true=>exact hb pins s1 σ H1 Q I1 q1
 |false=>exact⟨.bl false,H1,I1,rfl,q1⟩
theorem La (ha:PE X a ta) (hb:PE X (.BoolOp .Or (b::rest) pos) tb):PE X (.BoolOp .Or (a::b::rest) pos) (Om ta tb) :=by
 refine⟨?_⟩;intro pins s σ H Q I h;refine BoolOp_or (thn (ha pins s σ H _ I h) fun v s1 ⟨x,H1,I1,r1,q1⟩=>?_)
 obtain⟨c,rfl,q1⟩:=q1;cases r1;refine B0 ?_;cases c with
 |false=>exact hb pins s1 σ H1 Q I1 q1
 |true=>exact⟨.bl true,H1,I1,rfl,q1⟩
theorem Hj (ha:PE X a ta):PE X (.UnaryOp .Not a pos) (K9 ta) :=by
 refine⟨?_⟩;intro pins s σ H Q I h;refine UnaryOp_ (thn (ha pins s σ H _ I h) fun v s1 ⟨x,H1,I1,r1,q1⟩=>?_)
 obtain⟨c,rfl,q1⟩:=q1;cases r1;exact not_of (B0 ⟨.bl (!c),H1,I1,rfl,q1⟩)
end
def bG (K:bn) (H:Hp) (a:ap) (xs:List V):Prop:=
 Rd H a (.lst xs) \/
  ∃(o:l8) (its:Array am) (n:Nat),K.lookup a=some o/\o.cls=.type "list" /\ o.dict=none/\o.data=.seq its n/\its.size<=sizeLine/\Vals xs its.toList
def bC (K:bn) (H:Hp) (a:ap) (xs:List V):Prop:=
 Rd H a (.tup xs) \/
  ∃(o:l8) (its:Array am) (n:Nat),K.lookup a=some o/\o.cls=.type "tuple" /\ o.data=.seq its n/\its.size<=sizeLine/\Vals xs its.toList
def Oo:am->Option V
 | .none=>some .ai
 | .bool b=>some (.bl b)
 | .int i _=>some (.int i)
 | .str x _=>some (.str x)
 | .bytes b _=>some (.iS b)
 | .float b _=>some (.vZ b)
 | .ref a=>some (.ref a)
 | .type n=>some (.ty n)
 |_=>none
theorem RelV.abs {x:V}{u:am}(r:RelV x u):Oo u=some x :=by
 cases x with
 |ai=>cases r;rfl
 |bl _=>cases r;rfl
 |int _=>obtain⟨t,rfl⟩:=r;rfl
 |str _=>obtain⟨t,rfl⟩:=r;rfl
 |iS _=>obtain⟨t,rfl⟩:=r;rfl
 |vZ _=>obtain⟨t,rfl⟩:=r;rfl
 |ref _=>cases r;rfl
 |ty _=>cases r;rfl
theorem RelV.inj {x y:V}{u:am}(r:RelV x u) (q:RelV y u):x=y:=i4 (r.abs.symm.trans q.abs)
theorem Vals.inj:∀{xs ys:List V}{us:List am},Vals xs us->Vals ys us->xs=ys
 |_,_,_,.nil,.nil=>rfl
 |_,_,_,.cons r t,.cons r' t'=>by rw[r.inj r',Vals.inj t t']
section
variable {X:Cx}{pins:List (ap×l8)}{σ:St}{H:Hp}{s:ar}{a:ap}{xs ys:List V}
theorem bG.of {K:bn}(h:H a=some (.lst xs)):bG K H a xs:=.inl (.inl h)
theorem bC.of {K:bn}(h:H a=some (.tup xs)):bC K H a xs:=.inl (.inl h)
theorem Inv.list (I:Inv X pins σ H s) (h:bG X.K H a xs):∃its:List am,Vals xs its/\PlainL s.heap a its.toArray/\xs.length<=sizeLine :=by
 rcases h with h|⟨o,its,n,hk,hc,hd,hs,hz,r⟩
 ·obtain⟨z,its,n,r,e⟩:=h.ok I.hok;exact⟨its,r,⟨_,n,e,rfl,rfl,rfl⟩,z⟩
 ·refine⟨its.toList,r,⟨o,n,I.hU a o hk,hc,hd,by simpa using hs⟩,?_⟩
  have e:=r.length;simp only[io]at e;omega
theorem Inv.tuple (I:Inv X pins σ H s) (h:bC X.K H a xs):∃its:List am,Vals xs its/\Vw s.heap a its.toArray/\xs.length<=sizeLine :=by
 rcases h with h|⟨o,its,n,hk,hc,hs,hz,r⟩
 ·obtain⟨z,its,r,p⟩:=h.ok I.hok;exact⟨its,r,gL.tup p,z⟩
 ·refine⟨its.toList,r,⟨o,I.hU a o hk,hc,n,by simpa using hs⟩,?_⟩
  have e:=r.length;simp only[io]at e;omega
theorem Inv.sT (I:Inv X pins σ H s) (h:bG X.K H a xs) (h':bG X.K H a ys):xs=ys :=by
 obtain⟨its,r,⟨o,n,e,_,_,d⟩,_⟩:=I.list h;obtain⟨its',r',⟨o',n',e',_,_,d'⟩,_⟩:=I.list h';rw[e]at e';cases e';rw[d]at d';injection d' with d1 _
 have:its=its':=by simpa using congrArg Array.toList d1
 subst this;exact r.inj r'
theorem Inv.lq (I:Inv X pins σ H s) (h:bC X.K H a xs) (h':bC X.K H a ys):xs=ys :=by
 obtain⟨its,r,⟨o,e,_,n,d⟩,_⟩:=I.tuple h;obtain⟨its',r',⟨o',e',_,n',d'⟩,_⟩:=I.tuple h';rw[e]at e';cases e';rw[d]at d';injection d' with d1 _
 have:its=its':=by simpa using congrArg Array.toList d1
 subst this;exact r.inj r'
end
abbrev Cx.iV (X:Cx) (E:am->ar->Prop):Cx:={X with xe:=E}
abbrev Cx.nh (X:Cx):Cx:=X.iV fun _ _=>False
theorem Cx.Ok.iV {X:Cx}(ok:X.Ok) (E:am->ar->Prop):(X.iV E).Ok:=
 ⟨ok.mod,ok.kind,ok.glob,ok.blt,ok.above,ok.inj,ok.has,ok.cab,ok.hd,ok.frames,ok.stk,ok.exf,ok.bs,ok.bsz,ok.noex,ok.exfs,ok.funs,ok.frf⟩
theorem Cx.Ok.gp {X:Cx}{E:am->ar->Prop}(ok:(X.iV E).Ok):X.Ok:=
 ⟨ok.mod,ok.kind,ok.glob,ok.blt,ok.above,ok.inj,ok.has,ok.cab,ok.hd,ok.frames,ok.stk,ok.exf,ok.bs,ok.bsz,ok.noex,ok.exfs,ok.funs,ok.frf⟩
section
variable {X:Cx}{pins:List (ap×l8)}{σ:St}{H:Hp}{s:ar}{E:am->ar->Prop}
theorem Inv.iV (I:Inv X pins σ H s) (E:am->ar->Prop):Inv (X.iV E) pins σ H s:=⟨I.ok.iV E,I.os,I.bare,I.base,I.loc,I.cell,I.free,I.freeC,I.pin,I.hok,I.len⟩
theorem Inv.gp (I:Inv (X.iV E) pins σ H s):Inv X pins σ H s:=⟨I.ok.gp,I.os,I.bare,I.base,I.loc,I.cell,I.free,I.freeC,I.pin,I.hok,I.len⟩
theorem SP.gp {D:Ends}{f:Flow}{s':ar}(h:SP (X.iV E) pins D f s'):SP X pins D f s':=by
 cases f with
 |next=>obtain⟨aG,H',I,q⟩:=h;exact⟨aG,H',I.gp,q⟩
 |brk=>obtain⟨aG,H',I,q⟩:=h;exact⟨aG,H',I.gp,q⟩
 |cont=>obtain⟨aG,H',I,q⟩:=h;exact⟨aG,H',I.gp,q⟩
 |ret u=>obtain⟨v,aG,H',I,r,q⟩:=h;exact⟨v,aG,H',I.gp,r,q⟩
theorem fZ.nh {st:List wp}{t:TS}(h:fZ X.nh st t):fZ X st t:=⟨fun pins s σ H D I hw=>
 tw (h pins s σ H D (I.iV _) hw) (fun _ _ q=>q.gp) fun _ _ z=>On z⟩
end
section
variable {X:Cx}{st:wp}{rest:List wp}{t u:TS}{e:gl}{te:TE}{pos:ze}
def Lb:TS:=fun D σ H=>D.nx σ H
def Oq (t u:TS):TS:=fun D σ H=>t {D with nx:=u D} σ H
theorem E9:fZ X [] Lb:=⟨fun _ _ σ H _ I h=>Uu ⟨σ,H,I,h⟩⟩
theorem B5 (h1:PS X st t) (h2:fZ X rest u):fZ X (st::rest) (Oq t u) :=by
 refine⟨?_⟩;intro pins s σ H D I h;refine wpAny_execs_cons (thn (h1 pins s σ H {D with nx:=u D} I h) fun f s1 q=>?_)
 cases f with
 |next=>
  obtain⟨aG,H',I',q⟩:=q;exact h2 pins s1 aG H' D I' q
 |ret v=>exact q
 |brk=>exact q
 |cont=>exact q
theorem Fb (h1:PS X st t):fZ X [st] t :=by
 refine⟨?_⟩;intro pins s σ H D I h;refine wpAny_execs_cons (thn (h1 pins s σ H D I h) fun f s1 q=>?_)
 cases f with
 |next=>exact Uu q
 |ret v=>exact q
 |brk=>exact q
 |cont=>exact q
theorem Inv.quiet {pins:List (ap×l8)}{σ:St}{H:Hp}{s:ar}(I:Inv X pins σ H s):interactive X.env=false :=by simp[interactive,I.ok.kind]
def Lc (te:TE):TS:=fun D σ H=>te σ H fun _ H1=>D.nx σ H1
theorem Fc (he:PE X e te) (hs:swapsWith e none pos.line X.env=pure false :=by rfl):PS X (.Expr e pos) (Lc te) :=by
 refine⟨?_⟩;intro pins s σ H D I h;exact wpAny_Expr_any (thn (he pins s σ H _ I h) fun v s1 ⟨x,H1,I1,r1,q1⟩=>⟨σ,H1,I1,q1⟩) I.quiet hs
def Ot (te:TE):TS:=fun D σ H=>te σ H D.rt
theorem Hk (he:PE X e te):PS X (.Return (some e) pos) (Ot te) :=by
 refine⟨?_⟩;intro pins s σ H D I h;exact wpAny_Return_some (thn (he pins s σ H _ I h) fun v s1 ⟨x,H1,I1,r1,q1⟩=>⟨x,σ,H1,I1,r1,q1⟩)
def Ou (c:TT) (t u:TS):TS:=fun D σ H=>c σ H fun b H1=>if b=true then t D σ H1 else u D σ H1
theorem Ld {c:gl}{a b:List wp}{tc:TT}(hc:PT X c tc) (ha:fZ X a t) (hb:fZ X b u):PS X (.If c a b pos) (Ou tc t u) :=by
 refine⟨?_⟩;intro pins s σ H D I h;refine wpAny_If (thn (hc pins s σ H _ I h) fun d s1 ⟨H1,I1,q1⟩=>?_)
 cases d with
 |true=>exact ha pins s1 σ H1 D I1 q1
 |false=>exact hb pins s1 σ H1 D I1 q1
end
abbrev TG:=V->St->Hp->(St->Hp->Prop)->Prop
abbrev oJ:=List V->St->Hp->(St->Hp->Prop)->Prop
def PG (X:Cx) (target:gl) (t:TG):Prop:=
 ∀(pins:List (ap×l8)) (s:ar) (σ:St) (H:Hp) (v:V) (u:am) (Q:St->Hp->Prop),Inv X pins σ H s->RelV v u->t v σ H Q->
  wpAny (model X.prog X.w) X.A (assign target X.env u) (fun _ s'=>∃aG H',Inv X pins aG H' s'/\Q aG H') X.xe s
def qP (X:Cx) (ts:List gl) (t:oJ):Prop:=
 ∀(pins:List (ap×l8)) (s:ar) (σ:St) (H:Hp) (vs:List V) (us:List am) (Q:St->Hp->Prop),Inv X pins σ H s->Vals vs us->t vs σ H Q->
  wpAny (model X.prog X.w) X.A (assignInOrder ((assignEach ts X.env).map (·.2)) us) (fun _ s'=>∃aG H',Inv X pins aG H' s'/\Q aG H') X.xe s
abbrev B6:=V->V->V->Hp->(Hp->Prop)->Prop
def Hl (X:Cx) (t:B6):Prop:=
 ∀(pins:List (ap×l8)) (s:ar) (σ:St) (H:Hp) (o i v:V) (ov iv u:am) (Q:Hp->Prop),Inv X pins σ H s->RelV o ov->RelV i iv->RelV v u->t o i v H Q->
  wpAny (model X.prog X.w) X.A (setItem ov iv u) (fun _ s'=>∃H',Inv X pins σ H' s'/\Q H') X.xe s
abbrev Hm:=V->V->Hp->VK->Prop
def MM (X:Cx) (op:Operator) (t:Hm):Prop:=
 ∀(pins:List (ap×l8)) (s:ar) (σ:St) (H:Hp) (x y:V) (v u:am) (Q:VK),Inv X pins σ H s->RelV x v->RelV y u->t x y H Q->
  wpAny (model X.prog X.w) X.A (inplaceOp op v u) (EP X pins σ Q) X.xe s
section
variable {X:Cx}{pos:ze}
def sv (i:Nat):TG:=fun v σ H Q=>Q (σ.set i (some v)) H
theorem Fd {i:Nat}{x:db}(hN:X.N.Nodup) (hi:X.N[i]?=some x) (hx:Loc X.env.scope x) (hf:X.fn x=true\/X.env.scope.names.lookup x=some .local :=by first|exact .inl rfl|exact .inr rfl|assumption):PG X (.Name x pos) (sv i) :=by
 intro pins s σ H v u Q I r h;exact wpAny_assign_Name (nK I hN hi hx r (fun s' I'=>⟨_,H,I',h⟩) hf)
def Ov:oJ:=fun vs σ H Q=>vs=[]/\Q σ H
def Le (t:TG) (u:oJ):oJ:=fun vs σ H Q=>∃v r,vs=v::r/\t v σ H fun aG H'=>u r aG H' Q
theorem Fe:qP X [] Ov :=by
 intro pins s σ H vs us Q I r h;obtain⟨e,h⟩:=h;subst e;cases r;exact assignInOrder_nil ⟨σ,H,I,h⟩
theorem B7 {e:gl}{es:List gl}{t:TG}{u:oJ}(h1:PG X e t) (h2:qP X es u)
  (hs:(assignEach (e::es) X.env).map (·.2)=assign e X.env::(assignEach es X.env).map (·.2) :=by rfl):qP X (e::es) (Le t u) :=by
 intro pins s σ H vs us Q I r h;obtain⟨v,vr,e1,h⟩:=h;subst e1;cases r with
 |cons r rr=>
  rw[hs];refine assignInOrder_cons (thn (h1 pins s σ H _ _ _ I r h) fun _ s1 ⟨oK,H1,I1,q1⟩=>?_)
  exact h2 pins s1 oK H1 _ _ Q I1 rr q1
def Ow (K:bn) (n:Nat) (t:oJ):TG:=fun v σ H Q=>∃a xs,v=.ref a/\bC K H a xs/\xs.length=n/\t xs σ H Q
theorem Hn {es:List gl}{k:Nat}{t:oJ}{n:Nat}(hc:X.calm=true) (h:qP X es t)
  (hn:(assignEach es X.env).length=n :=by rfl) (jO:(assignEach es X.env).findIdx? (·.1)=none :=by rfl):PG X (.Tuple es k pos) (Ow X.K n t) :=by
 intro pins s σ H v u Q I r hw;obtain⟨a,xs,e1,hq,hl,hw⟩:=hw;subst e1;cases r;obtain⟨its,rv,ht,hz⟩:=I.tuple hq;refine assign_Tuple_tuple (I.ok.hd hc) ht (by simp[hn,<- hl,rv.length]) jO fun h' hx=>?_
 have I1:Inv X pins σ H {s with heap:=h'}:=I.kept (t':=s.toks) fun b o e=>hx b o (kw (gc e)) e
 exact h pins _ σ H xs _ Q I1 (by simpa using rv) hw
def Ox (to ti:TE) (t:B6):TG:=fun v σ H Q=>to σ H fun o H1=>ti σ H1 fun i H2=>t o i v H2 fun H3=>Q σ H3
theorem Ho {o i:gl}{to ti:TE}{t:B6}(ho:PE X o to) (hi:PE X i ti) (hs:Hl X t)
  (ha:∀v,assign (.Subscript o i pos) X.env v=(do
   let ov <- holding [v] (eval o X.env)
   let iv <- holding [v,ov] (eval i X.env)
   standAt pos
   holding [v,ov,iv] (setItem ov iv v)
   release [v,ov,iv] []) :=by intro _;rfl):PG X (.Subscript o i pos) (Ox to ti t) :=by
 intro pins s σ H v u Q I r h;rw[ha];refine ac (wT (thn (ho pins s σ H _ I h) fun ov s1 ⟨x,H1,I1,r1,q1⟩=>?_))
 refine ac (wT (thn (hi pins s1 σ H1 _ I1 q1) fun iv s2 ⟨y,H2,I2,r2,q2⟩=>?_))
 refine ac (Lo (ac (wT (thn (hs pins s2 σ H2 x y v ov iv u _ I2 r1 r2 r q2) fun _ s3 ⟨H3,I3,q3⟩=>?_))))
 exact wpAny_release ⟨σ,H3,I3,q3⟩
def sU (te:TE) (g:TG):TS:=fun D σ H=>te σ H fun x H1=>g x σ H1 D.nx
theorem Hq {tg e:gl}{te:TE}{g:TG}(he:PE X e te) (hg:PG X tg g) (hs:swapsWithSole [tg] e pos.line X.env=pure false :=by rfl) (hw:swappedStores [tg] e X.env=pure none :=by rfl)
  (h1:(assignEach [tg] X.env).map (·.2)=[assign tg X.env] :=by rfl):PS X (.Assign [tg] e pos) (sU te g) :=by
 refine⟨?_⟩;intro pins s σ H D I h;refine wpAny_Assign_stores (thn (he pins s σ H _ I h) fun v s1 ⟨x,H1,I1,r1,q1⟩=>?_) hs hw
 rw[h1];exact thn (hg pins s1 σ H1 x v _ I1 r1 q1) fun _ s2 q=>q
theorem Hr {i:Nat}{x:db}{e:gl}{te:TE}{pos':ze}(hN:X.N.Nodup) (hi:X.N[i]?=some x) (hx:Loc X.env.scope x) (he:PE X e te) (hs:swapsWith e (some (.Name x pos')) pos.line X.env=pure false :=by rfl) (hf:X.fn x=true\/X.env.scope.names.lookup x=some .local :=by first|exact .inl rfl|exact .inr rfl|assumption) :
  PS X (.Assign [.Name x pos'] e pos) (sU te (sv i)) :=by
 refine⟨?_⟩;intro pins s σ H D I h;refine wpAny_Assign_Name (thn (he pins s σ H _ I h) fun v s1 ⟨y,H1,I1,r1,q1⟩=>?_) hs
 exact nK I1 hN hi hx r1 (fun s2 I2=>⟨_,H1,I2,q1⟩) hf
def Oy (i:Nat) (te:TE) (ti:Hm):TS:=fun D σ H=>∃x,σ[i]?=some (some x)/\te σ H fun y H1=>ti x y H1 fun z H2=>D.nx (σ.set i (some z)) H2
theorem Hs {i:Nat}{x:db}{e:gl}{te:TE}{op:Operator}{ti:Hm}{pos':ze}(hN:X.N.Nodup) (hi:X.N[i]?=some x) (hx:Loc X.env.scope x) (he:PE X e te) (ho:MM X op ti) (hf:X.fn x=true\/X.env.scope.names.lookup x=some .local :=by first|exact .inl rfl|exact .inr rfl|assumption) :
  PS X (.AugAssign (.Name x pos') op e pos) (Oy i te ti) :=by
 refine⟨?_⟩;intro pins s σ H D I h;obtain⟨v,e1,h⟩:=h;obtain⟨m,hn,hl⟩:=I.loc;have PQ:sP X.env.scope x :=by rcases hx with k|k;exact .inl k;exact .inr (.inl k)
 obtain⟨u,r,l⟩:=hl i x v hi e1 PQ;refine wpAny_AugAssign_Name ?_;have go:wpAny (model X.prog X.w) X.A (eval e X.env) (fun w gM=>wpAny (model X.prog X.w) X.A (inplaceOp op u w) (fun r sV=>wpAny (model X.prog X.w) X.A (storeName X.env x r) (fun _=>SP X pins D .next) X.xe sV) X.xe gM) X.xe s :=by
  refine thn (he pins s σ H _ I h) fun w s1 ⟨y,H1,I1,r1,q1⟩=>?_
  refine thn (ho pins s1 σ H1 v y u w _ I1 r r1 q1) fun z s2 ⟨zv,H2,I2,r2,q2⟩=>?_
  exact nK I2 hN hi hx r2 (fun s3 I3=>⟨_,H2,I3,q2⟩) hf
 rcases l with ⟨hk,hm⟩|⟨hk,c,hc,mP⟩
 ·exact wpAny_loadName_local I.ok.kind hk hn hm go
 ·rcases hk with hk|hk
  ·exact wpAny_loadName_cell I.ok.kind hk hc mP go
  ·rcases hx with k|k
   ·have:X.env.scope.names.lookup x=some .free:=hk;rw[k]at this;cases this
   ·have:X.env.scope.names.lookup x=some .free:=hk;rw[k]at this;cases this
def zh (c:TT) (tb:TS):TS:=fun D σ H=>∃W:Nat->St->Hp->Prop,(∃m,W m σ H)/\∀m σ H,W m σ H->
 c σ H fun b H1=>if b=true then ∃N:St->Hp->Prop,(∀aG H',N aG H'->∃m',m'<m/\W m' aG H')/\tb {D with nx:=N,ct:=N,bk:=D.nx} σ H1 else D.nx σ H1
theorem B8 {c:gl}{body:List wp}{tc:TT}{tb:TS}(hp:Vy (model X.prog X.w) X.A X.env X.xe) (hc:PT X c tc) (hb:fZ X body tb):PS X (.While c body [] pos) (zh tc tb) :=by
 refine⟨?_⟩;intro pins s σ H D I h;obtain⟨W,⟨m0,w0⟩,turn⟩:=h;refine wpAny_While (codeAny_whileLoop (fun n s'=>∃aG H',Inv X pins aG H' s'/\W n aG H') ?_ m0 ⟨σ,H,I,w0⟩)
 rintro n s1 ⟨oK,H1,I1,w1⟩;refine OK hp (thn (hc pins s1 oK H1 _ I1 (turn n oK H1 w1)) fun b s2 ⟨H2,I2,q2⟩=>?_)
 cases b with
 |true=>
  obtain⟨N,hN,q2⟩:=q2;rw[if_pos rfl];refine OK hp (thn (hb pins s2 oK H2 _ I2 q2) fun f s3 q3=>?_)
  cases f with
  |next=>
   obtain⟨k4,H3,I3,n3⟩:=q3;obtain⟨m',hm,w3⟩:=hN k4 H3 n3;exact⟨m',hm,k4,H3,I3,w3⟩
  |cont=>
   obtain⟨k4,H3,I3,n3⟩:=q3;obtain⟨m',hm,w3⟩:=hN k4 H3 n3;exact⟨m',hm,k4,H3,I3,w3⟩
  |brk=>exact q3
  |ret v=>exact q3
 |false=>
  rw[if_neg hX];exact Uu ⟨oK,H2,I2,q2⟩
end
structure It where
 go:Nat->Hp->Prop
 yld:Nat->Hp->V->Hp->Prop
 stop:Nat->Hp->Prop
def dI (X:Cx) (pins:List (ap×l8)) (H:Hp) (b:ap):Prop:=
 H b=none/\b≠X.env.locals/\b ∉ X.fs/\(b∈X.ex\/X.s₀.heap.objs.size<=b)/\(∀x c,X.env.cells.lookup x=some c->c≠b)/\∀p∈X.pn++pins,p.1≠b
theorem Inv.lr {X:Cx}{pins:List (ap×l8)}{σ:St}{H H':Hp}{s:ar}{b:ap}(I:Inv X pins σ H s) (hb:s.heap.objs.size<=b) (hn:H' b=none):dI X pins H' b :=by
 refine⟨hn,KF (mo I.lt hb),I.G6 hb,.inr (sw I.sz hb),fun x c e z=>?_,fun p hp z=>?_⟩
 ·obtain⟨v,q⟩:=I.cell x c e;exact absurd (mo q.lt (by rw[z];exact hb)) (NE _)
 ·exact absurd (mo (gc (I.pin p hp).1) (by rw[z];exact hb)) (NE _)
structure Turn (P:ii) (w:ij) (K:bn) (tg:gl) (J:It) (fp:List ap) (it:ap) (tn:Nat->i0->Prop):Prop where
 mem:it∈fp
 obj:∀i h,tn i h->∀b∈fp,∃o,h.get? b=some o/\∀v,o.data≠.cell v
 keep:∀i h h',tn i h->(∀b∈fp,∀o,h.get? b=some o->h'.get? b=some o)->tn i h'
 item:∀(X:Cx),X.prog=P->X.w=w->X.K=K->X.calm=true->∀(i:Nat) (pins:List (ap×l8)) (s:ar) (σ:St) (H:Hp) (E:am->ar->Prop),Inv X pins σ H s->(∀b∈fp,dI X pins H b)->tn i s.heap->J.go i H->
  wpAny (model P w) X.A (pyNext (.ref it)) (fun r s1=>∃u,r=some u /\
   wpAny (model P w) X.A (letOwnedTupleGo tg (.ref it) u) (fun _ s2=>∃x H',Inv X pins σ H' s2/\RelV x u/\J.yld i H x H'/\tn (i+1) s2.heap/\∀b∈fp,H' b=none) E s1) E s
 done:∀(X:Cx),X.prog=P->X.w=w->X.K=K->X.calm=true->∀(i:Nat) (pins:List (ap×l8)) (s:ar) (σ:St) (H:Hp) (E:am->ar->Prop),Inv X pins σ H s->(∀b∈fp,dI X pins H b)->tn i s.heap->J.stop i H->
  wpAny (model P w) X.A (pyNext (.ref it)) (fun r s1=>r=none/\Inv X pins σ H s1) E s
 self:∀(A:mf) (i:Nat) (s:ar) (Q:am->ar->Prop) (E:am->ar->Prop),tn i s.heap->Q (.ref it) s->wpAny (model P w) A (pyIter (.ref it)) Q E s
abbrev TI:=St->Hp->(It->Hp->Prop)->Prop
def MN (X:Cx) (pins:List (ap×l8)) (σ:St) (tg:gl) (R:It->Hp->Prop) (zj:am) (s2:ar):Prop:=
 ∃(it:ap) (fp:List ap) (tn:Nat->i0->Prop) (J:It) (H':Hp),zj=.ref it/\Inv X pins σ H' s2/\Turn X.prog X.w X.K tg J fp it tn/\tn 0 s2.heap/\(∀b∈fp,dI X pins H' b)/\R J H'
def PI (X:Cx) (tg iter:gl) (wi:TI):Prop:=
 ∀(pins:List (ap×l8)) (s:ar) (σ:St) (H:Hp) (R:It->Hp->Prop),Inv X pins σ H s->wi σ H R->
  wpAny (model X.prog X.w) X.A (eval iter X.env) (fun v s1=>wpAny (model X.prog X.w) X.A (pyIter v) (MN X pins σ tg R) X.xe s1) X.xe s
theorem sx {M:Model}{A:mf}{E:am->ar->Prop}{s:ar}{tg:gl}{it:ap}{u:am}{o:l8}{n:String}{vs:Array am}{Q:Unit->ar->Prop}(ho:s.heap.get? it=some o) (hc:o.cls=.type n) (hd:o.data=.fields vs)
  (hn:["enumerate","zip","dict_itemiterator","dict_reverseitemiterator","odict_iterator","itertools.zip_longest","itertools.pairwise"].contains n=false) (hQ:Q () s):wpAny M A (letOwnedTupleGo tg (.ref it) u) Q E s :=by
 unfold letOwnedTupleGo;cases tg<;>first
  |exact ba hQ
  |(cases u<;>first
    |exact ba hQ
    |(refine ac (Vj ho ?_)
      rw[hc,hd];show wpAny M A (if (["enumerate","zip","dict_itemiterator","dict_reverseitemiterator","odict_iterator","itertools.zip_longest","itertools.pairwise"].contains n && vs[0]?==some (rawInt _))=true then _ else _) Q E s
      rw[if_neg (by intro h;rw[hn,UT]at h;cases h)]
      exact ba hQ))
def Ht (K:bn) (a:ap):It:=
 ⟨fun i H=>∃xs x,bG K H a xs/\xs[i]?=some x,fun i H x H'=>H'=H/\∀xs,bG K H a xs->xs[i]?=some x,fun i H=>∃xs,bG K H a xs/\xs.length<=i⟩
def Hu (K:bn) (a:ap):It:=
 ⟨fun i H=>∃xs x,bC K H a xs/\xs[i]?=some x,fun i H x H'=>H'=H/\∀xs,bC K H a xs->xs[i]?=some x,fun i H=>∃xs,bC K H a xs/\xs.length<=i⟩
def D6 (lo:Int) (n:Nat):It:=⟨fun i _=>i<n,fun i H x H'=>H'=H/\x=.int (lo+i),fun i _=>n<=i⟩
theorem zk {P:ii}{w:ij}{K:bn}{tg:gl}(a it:ap):Turn P w K tg (Ht K a) [it] it (fun i h=>h.IsListIter it a i) where
 mem :=by simp
 obj:=fun i h st b hb=>by
  have e:b=it :=by simpa using hb
  subst e;obtain⟨o,e,c,d⟩:=st;exact⟨o,e,fun v z=>by rw[d]at z;cases z⟩
 keep:=fun i h h' st k=>st.at fun o e=>k it (by simp) o e
 item :=by
  intro X hP hw hK hc i pins s σ H E I hf st hg;subst hP hw hK;obtain⟨xs,x,hq,hx⟩:=hg;obtain⟨its,rv,p,hz⟩:=I.list hq;obtain⟨u,hu,ru⟩:=rv.get hx;obtain⟨f0,f1,f2,f3,f4,f5⟩:=hf it (by simp)
  refine wpAny_pyNext_list_item st p.isList (x:=u) (by simpa using hu) fun h' iA sb=>?_
  have I1:Inv X pins σ H {s with heap:=h'}:=I.turned (t':=s.toks) (fun b o hb e=>(sb.2 b hb).trans e) f0 f1 f3 f4 f5
  obtain⟨o,e,c,d⟩:=id iA;exact⟨u,rfl,sx (s:={s with heap:=h'}) e c d (by decide) ⟨x,H,I1,ru,⟨rfl,fun ys hy=>by rw[I.sT hy hq];exact hx⟩,iA,fun b hb=>(hf b hb).1⟩⟩
 done :=by
  intro X hP hw hK hc i pins s σ H E I hf st hg;subst hP hw hK;obtain⟨xs,hq,hx⟩:=hg;obtain⟨its,rv,p,hz⟩:=I.list hq;obtain⟨f0,f1,f2,f3,f4,f5⟩:=hf it (by simp)
  have hl:=rv.length;exact wpAny_pyNext_list_end (I.ok.hd hc) st p.isList (by simp;omega) fun h' eb=>⟨rfl,I.turned (t':=s.toks) (fun b o hb e=>eb b o hb e) f0 f1 f3 f4 f5⟩
 self:=fun _ _ _ _ _ st h=>wpAny_pyIter_listiter st h
theorem xu {P:ii}{w:ij}{K:bn}{tg:gl}(a it:ap):Turn P w K tg (Hu K a) [it] it (fun i h=>h.IsTupleIter it a i) where
 mem :=by simp
 obj:=fun i h st b hb=>by
  have e:b=it :=by simpa using hb
  subst e;obtain⟨o,e,c,d⟩:=st;exact⟨o,e,fun v z=>by rw[d]at z;cases z⟩
 keep:=fun i h h' st k=>st.at fun o e=>k it (by simp) o e
 item :=by
  intro X hP hw hK hc i pins s σ H E I hf st hg;subst hP hw hK;obtain⟨xs,x,hq,hx⟩:=hg;obtain⟨its,rv,p,hz⟩:=I.tuple hq;obtain⟨u,hu,ru⟩:=rv.get hx;obtain⟨f0,f1,f2,f3,f4,f5⟩:=hf it (by simp)
  refine wpAny_pyNext_tuple_item st (show s.heap.IsTuple a its.toArray from p) (x:=u) (by simpa using hu) fun h' iA sb=>?_
  have I1:Inv X pins σ H {s with heap:=h'}:=I.turned (t':=s.toks) (fun b o hb e=>(sb.2 b hb).trans e) f0 f1 f3 f4 f5
  obtain⟨o,e,c,d⟩:=id iA;exact⟨u,rfl,sx (s:={s with heap:=h'}) e c d (by decide) ⟨x,H,I1,ru,⟨rfl,fun ys hy=>by rw[I.lq hy hq];exact hx⟩,iA,fun b hb=>(hf b hb).1⟩⟩
 done :=by
  intro X hP hw hK hc i pins s σ H E I hf st hg;subst hP hw hK;obtain⟨xs,hq,hx⟩:=hg;obtain⟨its,rv,p,hz⟩:=I.tuple hq;obtain⟨f0,f1,f2,f3,f4,f5⟩:=hf it (by simp)
  have hl:=rv.length;exact wpAny_pyNext_tuple_end (I.ok.hd hc) st (show s.heap.IsTuple a its.toArray from p) (by simp;omega) fun h' eb=>⟨rfl,I.turned (t':=s.toks) (fun b o hb e=>eb b o hb e) f0 f1 f3 f4 f5⟩
 self:=fun _ _ _ _ _ st h=>wpAny_pyIter_tupleiter st h
theorem xx {P:ii}{w:ij}{K:bn}{tg:gl}(it:ap) (lo:Int) (n:Nat):Turn P w K tg (D6 lo n) [it] it (fun i h=>IsRangeIter h it (lo+(i:Nat) * 1) ((n:Int) - (i:Nat)) 1) where
 mem :=by simp
 obj:=fun i h st b hb=>by
  have e:b=it :=by simpa using hb
  subst e;exact⟨_,st,fun v z=>by
   have z':Data.fields _=Data.cell v:=z;cases z'⟩
 keep:=fun i h h' st k=>k it (by simp) _ st
 item :=by
  intro X hP hw hK hc i pins s σ H E I hf st hg;subst hP hw hK;obtain⟨f0,f1,f2,f3,f4,f5⟩:=hf it (by simp)
  have W:=Walks.range (prog:=X.prog) (w:=X.w) (I.ok.hd hc) it lo 1 n;refine W.item i s _ _ hg st fun v h' tk hv iA kk=>?_
  obtain⟨t,rfl⟩:=hv;have I1:Inv X pins σ H {s with heap:=h',toks:=tk}:=I.turned (fun b o hb e=>kk b o (by simpa using hb) e) f0 f1 f3 f4 f5
  refine⟨_,rfl,sx (s:={s with heap:=h',toks:=tk}) (n := "range_iterator") iA rfl rfl (by decide) ⟨.int (lo+i),H,I1,⟨t,?_⟩,⟨rfl,rfl⟩,iA,fun b hb=>(hf b hb).1⟩⟩
  rw[Int.mul_one]
 done :=by
  intro X hP hw hK hc i pins s σ H E I hf st hg;subst hP hw hK;obtain⟨f0,f1,f2,f3,f4,f5⟩:=hf it (by simp)
  exact wpAny_pyNext_range_end (I.ok.hd hc) st (by have:n<=i:=hg;omega) fun h' eb=>⟨rfl,I.turned (t':=s.toks) (fun b o hb e=>eb b o hb e) f0 f1 f3 f4 f5⟩
 self:=fun _ _ _ _ _ st h=>wpAny_pyIter_rangeiter st h
section
variable {X:Cx}{tg:gl}
def D7 (K:bn) (tl:TE):TI:=fun σ H R=>tl σ H fun x H1=>∃a,x=.ref a/\(∃xs,bG K H1 a xs)/\R (Ht K a) H1
def Hv (K:bn) (tl:TE):TI:=fun σ H R=>tl σ H fun x H1=>∃a,x=.ref a/\(∃xs,bC K H1 a xs)/\R (Hu K a) H1
theorem Ff {l:gl}{tl:TE}(hl:PE X l tl):PI X tg l (D7 X.K tl) :=by
 intro pins s σ H R I h;refine thn (hl pins s σ H _ I h) fun v s1 ⟨x,H1,I1,r1,q1⟩=>?_
 obtain⟨a,e,⟨xs,hq⟩,q⟩:=q1;subst e;cases r1;obtain⟨its,rv,p,hz⟩:=I1.list hq;refine wpAny_pyIter_list p.isList ?_;refine⟨s1.heap.objs.size,[s1.heap.objs.size],_,_,H1,rfl,I1.kept (t':=s1.toks) fun b o e=>bi _ e,zk a _,⟨_,ff _ rfl,rfl,rfl⟩,fun b hb=>?_,q⟩
 have e:b=s1.heap.objs.size :=by simpa using hb
 subst e;exact I1.lr (bv _) (I1.hok.fresh (bv _))
theorem Hw {l:gl}{tl:TE}(hl:PE X l tl):PI X tg l (Hv X.K tl) :=by
 intro pins s σ H R I h;refine thn (hl pins s σ H _ I h) fun v s1 ⟨x,H1,I1,r1,q1⟩=>?_
 obtain⟨a,e,⟨xs,hq⟩,q⟩:=q1;subst e;cases r1;obtain⟨its,rv,p,hz⟩:=I1.tuple hq;refine TJ (show s1.heap.IsTuple a its.toArray from p) ?_;refine⟨s1.heap.objs.size,[s1.heap.objs.size],_,_,H1,rfl,I1.kept (t':=s1.toks) fun b o e=>bi _ e,xu a _,⟨_,ff _ rfl,rfl,rfl⟩,fun b hb=>?_,q⟩
 have e:b=s1.heap.objs.size :=by simpa using hb
 subst e;exact I1.lr (bv _) (I1.hok.fresh (bv _))
theorem B9 {pins:List (ap×l8)}{σ:St}{H:Hp}{s:ar}{R:It->Hp->Prop}{E:am->ar->Prop}{lo hi:Int}{t u v:Tok}{tk:Nat}(I:Inv X pins σ H s) (h1 : -(2 ^ 62)<=lo) (h2:lo<2 ^ 62) (h3 : -(2 ^ 62)<=hi) (h4:hi<2 ^ 62)
  (q:R (D6 lo (hi - lo).toNat) H):wpAny (model X.prog X.w) X.A (pyIter (.ref s.heap.objs.size)) (MN X pins σ tg R) E {s with heap:=s.heap.push {cls:=.type "range",data:=.fields #[.int lo t,.int hi u,.int 1 v]},toks:=tk}:=by
 refine wpAny_pyIter_range (IsRange.new ..) (small_one h1 h2 h3 h4) ?_;have I1:Inv X pins σ H {s with heap:=s.heap.push {cls:=.type "range",data:=.fields #[.int lo t,.int hi u,.int 1 v]},toks:=tk}:=I.kept fun b o e=>bi _ e
 refine⟨(s.heap.push {cls:=.type "range",data:=.fields #[.int lo t,.int hi u,.int 1 v]}).objs.size,[(s.heap.push {cls:=.type "range",data:=.fields #[.int lo t,.int hi u,.int 1 v]}).objs.size],_,_,H,rfl,
  I1.kept (t':=tk) fun b o e=>bi _ e,xx _ lo (hi - lo).toNat,?_,fun b hb=>?_,q⟩
 ·have e1:lo+((0:Nat):Int) * 1=lo :=by simp
  have e2:(((hi - lo).toNat:Nat):Int) - ((0:Nat):Int)=l7.Range.rangeSize lo hi 1 :=by rw[rangeSize_one];split<;>omega
  show IsRangeIter _ _ (lo+((0:Nat):Int) * 1) ((((hi - lo).toNat:Nat):Int) - ((0:Nat):Int)) 1;rw[e1,e2];exact ff _ rfl
 ·have e:b=(s.heap.push {cls:=.type "range",data:=.fields #[.int lo t,.int hi u,.int 1 v]}).objs.size :=by simpa using hb
  subst e;exact I1.lr (bv _) (I1.hok.fresh (bv _))
def D8 (ta:TA):TI:=fun σ H R=>ta σ H fun vs H1=>∃j:Int,vs=[.int j] /\ -(2 ^ 62)<=j/\j<2 ^ 62/\R (D6 0 j.toNat) H1
theorem zl {a:gl}{ta:TA}{p pos:ze}(hg:Gl X "range") (hm:X.mg "range" = none) (ha:PA X [a] ta) (hs:starEach [a] X.env=[(false,eval a X.env)] :=by rfl):PI X tg (.Call (.Name "range" p) [a] [] pos) (D8 ta) :=by
 intro pins s σ H R I h;refine Call_ (d6 I hg hm boot_range (zn (thn (ha pos pins s σ H _ I h) fun us s1 ⟨vs,H1,I1,r1,q1⟩=>?_) hs rfl))
 obtain⟨j,e,q1,q2,q⟩:=q1;subst e;cases r1 with
 |cons r rr=>
  cases rr;obtain⟨t,rfl⟩:=r;exact call_range_1 (B9 I1 (by omega) (by omega) q1 q2 (by simpa using q))
def Hx (wi:TI) (g:TG) (tb:TS):TS:=fun D σ H=>wi σ H fun J H1=>∃W:Nat->Nat->St->Hp->Prop,(∃m,W 0 m σ H1)/\∀i m σ H,W i m σ H->
 (J.stop i H/\D.nx σ H)\/(J.go i H/\∃N:St->Hp->Prop,(∀aG H',N aG H'->∃m',m'<m/\W (i+1) m' aG H')/\∀x H',J.yld i H x H'->g x σ H' fun oM H2=>tb {D with nx:=N,ct:=N,bk:=D.nx} oM H2)
def jP (fp:List ap) (h:i0):List (ap×l8):=fp.filterMap fun b=>(h.get? b).map fun o=>(b,o)
theorem fc {fp:List ap}{h:i0}{b:ap}{o:l8}(hb:b∈fp) (e:h.get? b=some o):(b,o)∈jP fp h:=TK.mpr ⟨b,hb,by rw[e];rfl⟩
theorem zm {fp:List ap}{h:i0}{p:ap×l8}(hp:p∈jP fp h):p.1∈fp/\h.get? p.1=some p.2 :=by
 obtain⟨b,hb,e⟩:=TK.mp hp;cases q:h.get? b with
 |none=>rw[q]at e;cases e
 |some o=>
  rw[q]at e;have e':(b,o)=p:=i4 e;subst e';exact⟨hb,q⟩
theorem Inv.pinned {pins:List (ap×l8)}{σ:St}{H:Hp}{s:ar}{fp:List ap}(I:Inv X pins σ H s) (hf:∀b∈fp,dI X pins H b) (ho:∀b∈fp,∃o,s.heap.get? b=some o/\∀v,o.data≠.cell v):Inv X (pins++jP fp s.heap) σ H s:=
 I.pZ fun p hp=>(xb.mp hp).elim (fun z=>I.pin p (l9 _ z)) fun z=>by
  obtain⟨hb,e⟩:=zm z;obtain⟨f0,f1,f2,_⟩:=hf p.1 hb;obtain⟨o,e',d⟩:=ho p.1 hb;rw[e]at e';cases e';exact⟨e,f0,f1,f2,d⟩
theorem Inv.fP {pins pl:List (ap×l8)}{σ:St}{H:Hp}{s:ar}(I:Inv X (pins++pl) σ H s):Inv X pins σ H s:=I.pZ fun p hp=>I.pin p (l9 _ (FF _ hp))
theorem Hy {iter:gl}{body:List wp}{wi:TI}{g:TG}{tb:TS}{pos:ze}(hp:Vy (model X.prog X.w) X.A X.env X.xe) (hc:X.calm=true) (hi:PI X tg iter wi) (hg:PG X tg g) (hb:fZ X body tb)
  (hs:∀x,foldedSetIterable iter X.env x=pure x :=by intro _;rfl):PS X (.For tg iter body [] pos) (Hx wi g tb) :=by
 refine⟨?_⟩;intro pins s σ H D I h;refine wpAny_For (thn (hi pins s σ H _ I h) fun v s1 h1=>thn h1 fun zj s2 h2=>?_) hs
 obtain⟨it,fp,tn,J,H2,e,I2,T,sW,f2,W,⟨m0,w0⟩,turn⟩:=h2;subst e;have stat:∀{H':Hp},(∀b∈fp,H' b=none)->∀b∈fp,dI X pins H' b:=fun hn b hb=>⟨hn b hb,(f2 b hb).2⟩
 refine codeAny_forLoop_any (fun n s'=>∃i aG H',Inv X pins aG H' s'/\tn i s'.heap/\(∀b∈fp,H' b=none)/\W i n aG H') ?_ m0 ⟨0,σ,H2,I2,sW,fun b hb=>(f2 b hb).1,w0⟩
 rintro n s3 ⟨i,k4,H3,I3,qQ,zo,w3⟩;rcases turn i n k4 H3 w3 with ⟨stop,qn⟩|⟨go,N,hN,step⟩
 ·refine OK hp (thn (T.done X rfl rfl rfl hc i pins s3 k4 H3 X.xe I3 (stat zo) qQ stop) fun r s4 ⟨hr,I4⟩=>?_)
  subst hr;exact Uu ⟨k4,H3,I4,qn⟩
 ·refine OK hp (thn (T.item X rfl rfl rfl hc i pins s3 k4 H3 X.xe I3 (stat zo) qQ go) fun r s4 ⟨u,hr,h4⟩=>?_)
  subst hr;refine OK hp (thn h4 fun _ s5 ⟨x,H5,I5,r5,y5,lu,zp⟩=>?_)
  have zq:=I5.pinned (stat zp) (T.obj _ _ lu);refine OK hp (thn (hg _ s5 k4 H5 x u _ zq r5 (step x H5 y5)) fun _ s6 ⟨PR,H6,I6,q6⟩=>?_)
  refine OK hp (thn (hb _ s6 PR H6 _ I6 q6) fun f s7 q7=>?_)
  have again:∀{lx:St} {H7:Hp},Inv X (pins++jP fp s5.heap) lx H7 s7->N lx H7->∃m,m<n/\∃i aG H',Inv X pins aG H' s7/\tn i s7.heap/\(∀b∈fp,H' b=none)/\W i m aG H':=fun {lx H7} I7 n7=>by
   obtain⟨m',hm,w7⟩:=hN lx H7 n7;refine⟨m',hm,i+1,lx,H7,I7.fP,T.keep _ _ _ lu fun b hb o e=>(I7.pin (b,o) (l9 _ (l9 _ (fc hb e)))).1,fun b hb=>?_,w7⟩
   obtain⟨o,e,d⟩:=T.obj _ _ lu b hb;exact(I7.pin (b,o) (l9 _ (l9 _ (fc hb e)))).2.1
  cases f with
  |next=>obtain⟨lx,H7,I7,n7⟩:=q7;exact again I7 n7
  |cont=>obtain⟨lx,H7,I7,n7⟩:=q7;exact again I7 n7
  |brk=>obtain⟨lx,H7,I7,q7⟩:=q7;exact⟨lx,H7,I7.fP,q7⟩
  |ret v=>obtain⟨x7,lx,H7,I7,r7,q7⟩:=q7;exact⟨x7,lx,H7,I7.fP,r7,q7⟩
end
abbrev R2:=V->V->Hp->VK->Prop
def OpR (X:Cx) (f:am->am->TH am) (r:R2):Prop:=
 ∀(pins:List (ap×l8)) (s:ar) (σ:St) (H:Hp) (x y:V) (v u:am) (Q:VK),Inv X pins σ H s->RelV x v->RelV y u->r x y H Q->
  wpAny (model X.prog X.w) X.A (f v u) (EP X pins σ Q) X.xe s
def bV (X:Cx) (f:am) (r:List V->Hp->VK->Prop):Prop:=
 ∀(pins:List (ap×l8)) (s:ar) (σ:St) (H:Hp) (xs:List V) (us:List am) (Q:VK),Inv X pins σ H s->Vals xs us->r xs H Q->
  wpAny (model X.prog X.w) X.A (call f us) (EP X pins σ Q) X.xe s
def Oz (X:Cx) (r:V->Hp->(Bool->Hp->Prop)->Prop):Prop:=
 ∀(pins:List (ap×l8)) (s:ar) (σ:St) (H:Hp) (x:V) (v:am) (Q:Bool->Hp->Prop),Inv X pins σ H s->RelV x v->r x H Q->
  wpAny (model X.prog X.w) X.A (truthy v) (TP X pins σ Q) X.xe s
def zt (r:R2) (ta tb:TE):TE:=fun σ H Q=>ta σ H fun x H1=>tb σ H1 fun y H2=>r x y H2 Q
def rI (C:Int->Int->Prop) (g:Int->Int->V):R2:=fun x y H Q=>∃i j,x=.int i/\y=.int j/\C i j/\Q (g i j) H
def qR (g:Int->Int->V):R2:=fun x y H Q=>∃i j,x=.int i/\y=.int j/\Q (g i j) H
section
variable {X:Cx}{a b c:gl}{ta tb tc:TE}{pos:ze}
theorem Ca (ha:PE X a ta) (hb:PE X b tb) {pins:List (ap×l8)}{s:ar}{σ:St}{H:Hp}{R:V->V->Hp->Prop}(I:Inv X pins σ H s)
  (h:ta σ H fun x H1=>tb σ H1 fun y H2=>R x y H2) {Q:am->ar->Prop} {f:am->am->TH am}
  (hf:∀v u s2 x y H2,Inv X pins σ H2 s2->RelV x v->RelV y u->R x y H2->wpAny (model X.prog X.w) X.A (f v u) Q X.xe s2) :
  wpAny (model X.prog X.w) X.A (eval a X.env) (fun v av=>wpAny (model X.prog X.w) X.A (eval b X.env) (fun u gM=>wpAny (model X.prog X.w) X.A (f v u) Q X.xe gM) X.xe av) X.xe s :=by
 refine thn (ha pins s σ H _ I h) fun v s1 ⟨x,H1,I1,r1,q1⟩=>?_
 refine thn (hb pins s1 σ H1 _ I1 q1) fun u s2 ⟨y,H2,I2,r2,q2⟩=>?_
 exact hf v u s2 x y H2 I2 r1 r2 q2
theorem Lf {op:Operator}{r:R2}(ho:OpR X (binaryOp op) r) (ha:PE X a ta) (hb:PE X b tb):PE X (.BinOp a op b pos) (zt r ta tb) :=by
 refine⟨?_⟩;intro pins s σ H Q I h;exact wpAny_BinOp (Ca ha hb I h fun v u s2 x y H2 I2 rx ry q=>ho pins s2 σ H2 x y v u Q I2 rx ry q)
theorem zu {f:am->am->TH am}{C:Int->Int->Prop}{g:Int->Int->Int}
  (rule:∀(i j:Int) (t u:Tok) (s:ar) (Q:am->ar->Prop) (E:am->ar->Prop),C i j->Q (.int (g i j) s.toks) {s with toks:=s.toks+1}->wpAny (model X.prog X.w) X.A (f (.int i t) (.int j u)) Q E s) :
  OpR X f (rI C fun i j=>.int (g i j)) :=by
 intro pins s σ H x y v u Q I rx ry h;obtain⟨i,j,rfl,rfl,hc,q⟩:=h;obtain⟨t,rfl⟩:=rx;obtain⟨t',rfl⟩:=ry;exact rule i j t t' s _ _ hc ⟨.int (g i j),H,I.tok _,⟨_,rfl⟩,q⟩
theorem Hz {f:am->am->TH am}{g:Int->Int->Int}
  (rule:∀(i j:Int) (t u:Tok) (s:ar) (Q:am->ar->Prop) (E:am->ar->Prop),Q (.int (g i j) s.toks) {s with toks:=s.toks+1}->wpAny (model X.prog X.w) X.A (f (.int i t) (.int j u)) Q E s) :
  OpR X f (qR fun i j=>.int (g i j)) :=by
 intro pins s σ H x y v u Q I rx ry h;obtain⟨i,j,rfl,rfl,q⟩:=h;obtain⟨t,rfl⟩:=rx;obtain⟨t',rfl⟩:=ry;exact rule i j t t' s _ _ ⟨.int (g i j),H,I.tok _,⟨_,rfl⟩,q⟩
theorem Cb {f:am->am->TH am}{g:Int->Int->Bool}
  (rule:∀(i j:Int) (t u:Tok) (s:ar) (Q:am->ar->Prop) (E:am->ar->Prop),Q (.bool (g i j)) s->wpAny (model X.prog X.w) X.A (f (.int i t) (.int j u)) Q E s) :
  OpR X f (qR fun i j=>.bl (g i j)) :=by
 intro pins s σ H x y v u Q I rx ry h;obtain⟨i,j,rfl,rfl,q⟩:=h;obtain⟨t,rfl⟩:=rx;obtain⟨t',rfl⟩:=ry;exact rule i j t t' s _ _ ⟨.bl (g i j),H,I,rfl,q⟩
def sX (i j:Int):Prop:=0<j/\j<1073741824
def HA (i j:Int):Prop:=0<=j/\j<=1000000/\i.natAbs<2 ^ 64
def p7 (i j:Int):Prop:=(-(2 ^ 64)<i/\i<2 ^ 64)\/(-(2 ^ 64)<j/\j<2 ^ 64)
theorem p7.ok {i j:Int}(h:p7 i j):IntMulOk i j :=by
 rcases h with ⟨h1,h2⟩|⟨h1,h2⟩
 ·exact .of_left (intBits_le_64 h1 h2)
 ·exact .of_right (intBits_le_64 h1 h2)
theorem HB:OpR X (binaryOp .Add) (qR fun i j=>.int (i+j)):=Hz fun _ _ _ _ _ _ _ q=>add_int q
theorem HC:OpR X (binaryOp .Sub) (qR fun i j=>.int (i - j)):=Hz fun _ _ _ _ _ _ _ q=>sub_int q
theorem HD:OpR X (binaryOp .Mult) (rI p7 fun i j=>.int (i * j)):=zu fun _ _ _ _ _ _ _ hc q=>mul_int q hc.ok
theorem Fg:OpR X (binaryOp .FloorDiv) (rI sX fun i j=>.int (i / j)):=zu fun i j _ _ _ _ _ hc q=>by
 have h1:(0:Int)<j:=hc.1;have h2:j<1073741824:=hc.2;exact floordiv_int (by omega) (by rw[To i (by omega)];exact q) (.inl (PyProof.noPylong_small (by omega)))
theorem HE:OpR X (binaryOp .Mod) (rI (fun _ j=>0<j) fun i j=>.int (i % j)):=zu fun i j _ _ _ _ _ hc q=>by
 have h1:(0:Int)<j:=hc;exact mod_int' (by omega) (by rw[Int.fmod_eq_emod_of_nonneg i (by omega)];exact q)
theorem HF:OpR X (binaryOp .Pow) (rI HA fun i j=>.int (i ^ j.toNat)):=zu fun _ _ _ _ _ _ _ hc q=>pow_int_small hc.1 hc.2.1 hc.2.2 q
end
def Cd:V->V->Bool
 | .ai,.ai=>true | .ai,.int _=>true | .int _,.ai=>true | .ai,.bl _=>true | .bl _,.ai=>true | .ai,.str _=>true | .str _,.ai=>true
 | .int _,.int _=>true | .bl _,.bl _=>true | .str _,.str _=>true | .iS _,.iS _=>true
 | .int _,.str _=>true | .str _,.int _=>true | .bl _,.str _=>true | .str _,.bl _=>true
 |_,_=>false
def PU:R2:=fun x y H Q=>Cd x y=true/\Q (.bl (decide (x=y))) H
def PV:R2:=fun x y H Q=>Cd x y=true/\Q (.bl (!decide (x=y))) H
theorem v8 {i j:Int}:decide (V.int i=V.int j)=(i==j) :=by
 rw[Uv];simp
theorem zx {i j:Bool}:decide (V.bl i=V.bl j)=(i==j) :=by
 rw[Uv];simp
theorem wa {i j:db}:decide (V.str i=V.str j)=(i==j) :=by
 rw[Uv];simp
theorem wc {i j:Array UInt8}:decide (V.iS i=V.iS j)=(i.toList==j.toList) :=by
 rw[Uv];cases i;cases j;simp
section
variable {X:Cx}{a b c:gl}{ta tb tc:TE}{pos:ze}
theorem aV {pins:List (ap×l8)}{σ:St}{H:Hp}{s:ar}{Q:VK}{k k':Bool}(I:Inv X pins σ H s) (q:Q (.bl k) H) (e:k=k'):EP X pins σ Q (.bool k') s :=by
 subst e;exact⟨.bl k,H,I,rfl,q⟩
theorem Lg:OpR X (compareOp .Eq) PU :=by
 intro pins s σ H x y v u Q I rx ry h;obtain⟨hs,q⟩:=h;cases x with
 |ai=>
  cases rx;cases y with
  |ai=>cases ry;exact PySem.EqNone.eq_none_none (aV I q (by simp))
  |bl j=>cases ry;exact PySem.EqNone.eq_none_bool (aV I q (by simp))
  |int j=>obtain⟨t',rfl⟩:=ry;exact PySem.EqNone.eq_none_int (aV I q (by simp))
  |str j=>obtain⟨t',rfl⟩:=ry;exact PySem.EqNone.eq_none_str (aV I q (by simp))
  |_=>exact absurd (show false=true from hs) hX
 |bl i=>
  cases rx;cases y with
  |ai=>cases ry;exact PySem.EqNone.eq_bool_none (aV I q (by simp))
  |bl j=>cases ry;exact eq_bool (aV I q zx)
  |str j=>obtain⟨t',rfl⟩:=ry;exact PySem.EqMixed.eq_bool_str (aV I q (by simp))
  |_=>exact absurd (show false=true from hs) hX
 |int i=>
  obtain⟨t,rfl⟩:=rx;cases y with
  |ai=>cases ry;exact PySem.EqNone.eq_int_none (aV I q (by simp))
  |int j=>obtain⟨t',rfl⟩:=ry;exact eq_int (aV I q v8)
  |str j=>obtain⟨t',rfl⟩:=ry;exact PySem.EqMixed.eq_int_str (aV I q (by simp))
  |_=>exact absurd (show false=true from hs) hX
 |str i=>
  obtain⟨t,rfl⟩:=rx;cases y with
  |ai=>cases ry;exact PySem.EqNone.eq_str_none (aV I q (by simp))
  |bl j=>cases ry;exact PySem.EqMixed.eq_str_bool (aV I q (by simp))
  |int j=>obtain⟨t',rfl⟩:=ry;exact PySem.EqMixed.eq_str_int (aV I q (by simp))
  |str j=>obtain⟨t',rfl⟩:=ry;exact eq_str (aV I q wa)
  |_=>exact absurd (show false=true from hs) hX
 |iS i=>
  obtain⟨t,rfl⟩:=rx;cases y with
  |iS j=>obtain⟨t',rfl⟩:=ry;exact PySem.W.eq_bytes (aV I q wc)
  |_=>exact absurd (show false=true from hs) hX
 |_=>cases y<;>exact absurd (show false=true from hs) hX
theorem Lh:OpR X (compareOp .NotEq) PV :=by
 intro pins s σ H x y v u Q I rx ry h;obtain⟨hs,q⟩:=h;cases x with
 |ai=>
  cases rx;cases y with
  |ai=>cases ry;exact PySem.EqNone.ne_none_none (aV I q (by simp))
  |bl j=>cases ry;exact PySem.EqNone.ne_none_bool (aV I q (by simp))
  |int j=>obtain⟨t',rfl⟩:=ry;exact PySem.EqNone.ne_none_int (aV I q (by simp))
  |str j=>obtain⟨t',rfl⟩:=ry;exact PySem.EqNone.ne_none_str (aV I q (by simp))
  |_=>exact absurd (show false=true from hs) hX
 |bl i=>
  cases rx;cases y with
  |ai=>cases ry;exact PySem.EqNone.ne_bool_none (aV I q (by simp))
  |bl j=>cases ry;exact ne_bool (aV I q (congrArg not zx))
  |str j=>obtain⟨t',rfl⟩:=ry;exact PySem.EqMixed.ne_bool_str (aV I q (by simp))
  |_=>exact absurd (show false=true from hs) hX
 |int i=>
  obtain⟨t,rfl⟩:=rx;cases y with
  |ai=>cases ry;exact PySem.EqNone.ne_int_none (aV I q (by simp))
  |int j=>obtain⟨t',rfl⟩:=ry;exact ne_int (aV I q (congrArg not v8))
  |str j=>obtain⟨t',rfl⟩:=ry;exact PySem.EqMixed.ne_int_str (aV I q (by simp))
  |_=>exact absurd (show false=true from hs) hX
 |str i=>
  obtain⟨t,rfl⟩:=rx;cases y with
  |ai=>cases ry;exact PySem.EqNone.ne_str_none (aV I q (by simp))
  |bl j=>cases ry;exact PySem.EqMixed.ne_str_bool (aV I q (by simp))
  |int j=>obtain⟨t',rfl⟩:=ry;exact PySem.EqMixed.ne_str_int (aV I q (by simp))
  |str j=>obtain⟨t',rfl⟩:=ry;exact ne_str (aV I q (congrArg not wa))
  |_=>exact absurd (show false=true from hs) hX
 |iS i=>
  obtain⟨t,rfl⟩:=rx;cases y with
  |iS j=>obtain⟨t',rfl⟩:=ry;exact PySem.W.ne_bytes (aV I q (congrArg not wc))
  |_=>exact absurd (show false=true from hs) hX
 |_=>cases y<;>exact absurd (show false=true from hs) hX
theorem Li:OpR X (compareOp .Lt) (qR fun i j=>.bl (decide (i<j))):=Cb fun _ _ _ _ _ _ _ q=>lt_int q
theorem Lj:OpR X (compareOp .LtE) (qR fun i j=>.bl (decide (i<=j))):=Cb fun _ _ _ _ _ _ _ q=>le_int q
theorem Lk:OpR X (compareOp .Gt) (qR fun i j=>.bl (decide (j<i))):=Cb fun _ _ _ _ _ _ _ q=>gt_int q
theorem bM (b:gl) {op:Th}(h:op≠.In :=by decide) (h2:op≠.NotIn :=by decide):behindInMarks op b=false :=by
 have e1:(op==Th.In)=false :=by cases op<;>first|rfl|exact absurd rfl h
 have e2:(op==Th.NotIn)=false :=by cases op<;>first|rfl|exact absurd rfl h2
 cases b<;>simp[behindInMarks,e1,e2]
theorem Fh {op:Th}{r:R2}(ho:OpR X (compareOp op) r) (ha:PE X a ta) (hb:PE X b tb) (hm:behindInMarks op b=false):PE X (.Compare a [op] [b] pos) (zt r ta tb) :=by
 refine⟨?_⟩;intro pins s σ H Q I h;exact wpAny_Compare1 (Ca ha hb I h fun v u s2 x y H2 I2 rx ry q=>ho pins s2 σ H2 x y v u Q I2 rx ry q) hm
def xA (t:TE):TT:=fun σ H Q=>t σ H fun x H'=>∃k,x=.bl k/\Q k H'
theorem Fi {op:Th}{r:R2}(ho:OpR X (compareOp op) r) (ha:PE X a ta) (hb:PE X b tb) (hm:behindInMarks op b=false):PT X (.Compare a [op] [b] pos) (xA (zt r ta tb)) :=by
 refine⟨?_⟩;intro pins s σ H Q I h;refine wpAny_isTrue_Compare1 (thn (ha pins s σ H _ I h) fun v s1 ⟨x,H1,I1,r1,q1⟩=>thn (hb pins s1 σ H1 _ I1 q1) fun u s2 ⟨y,H2,I2,r2,q2⟩=>
  thn (ho pins s2 σ H2 x y v u _ I2 r1 r2 q2) fun c s3 ⟨z,H3,I3,r3,k,e,q3⟩=>?_) hm
 subst e;cases r3;exact B0 ⟨H3,I3,q3⟩
def sY (r r':R2) (ta tb tc:TE):TE:=fun σ H Q=>ta σ H fun x H1=>tb σ H1 fun y H2=>r x y H2 fun z H3=>∃k,z=.bl k /\
 (if k=true then tc σ H3 fun w' H4=>r' y w' H4 Q else Q (.bl false) H3)
theorem Ce {op iW:Th}{r r':R2}(ho:OpR X (compareOp op) r) (eJ:OpR X (compareOp iW) r') (ha:PE X a ta) (hb:PE X b tb) (hc:PE X c tc)
  (hm:lastMarks [op,iW] [b,c]=false :=by with_unfolding_all rfl):PE X (.Compare a [op,iW] [b,c] pos) (sY r r' ta tb tc) :=by
 refine⟨?_⟩;intro pins s σ H Q I h;refine Compare_chain (thn (ha pins s σ H _ I h) fun v s1 ⟨x,H1,I1,r1,q1⟩=>chain_link (thn (hb pins s1 σ H1 _ I1 q1) fun u s2 ⟨y,H2,I2,r2,q2⟩=>
  thn (ho pins s2 σ H2 x y v u _ I2 r1 r2 q2) fun d s3 ⟨z,H3,I3,r3,k,e,q3⟩=>?_)) hm
 subst e;cases r3;refine B0 ?_;cases k with
 |false=>exact ite_ff ⟨.bl false,H3,I3,rfl,q3⟩
 |true=>exact ite_tt (chain_last (thn (hc pins s3 σ H3 _ I3 q3) fun w' s4 ⟨z',H4,I4,r4,q4⟩=>eJ pins s4 σ H4 y z' u w' Q I4 r2 r4 q4))
theorem Cg {op iW:Th}{r r':R2}(ho:OpR X (compareOp op) r) (eJ:OpR X (compareOp iW) r') (ha:PE X a ta) (hb:PE X b tb) (hc:PE X c tc)
  (hm:lastMarks [op,iW] [b,c]=false :=by with_unfolding_all rfl):PT X (.Compare a [op,iW] [b,c] pos) (xA (sY r r' ta tb tc)) :=by
 refine⟨?_⟩;intro pins s σ H Q I h;refine isTrue_chain (thn (ha pins s σ H _ I h) fun v s1 ⟨x,H1,I1,r1,q1⟩=>test_link (thn (hb pins s1 σ H1 _ I1 q1) fun u s2 ⟨y,H2,I2,r2,q2⟩=>
  thn (ho pins s2 σ H2 x y v u _ I2 r1 r2 q2) fun d s3 ⟨z,H3,I3,r3,k,e,q3⟩=>?_)) hm
 subst e;cases r3;refine B0 ?_;cases k with
 |false=>
  obtain⟨k',e',q'⟩:=q3;cases e';exact ite_ff ⟨H3,I3,q'⟩
 |true=>
  refine ite_tt (test_last (thn (hc pins s3 σ H3 _ I3 q3) fun w' s4 ⟨z',H4,I4,r4,q4⟩=>thn (eJ pins s4 σ H4 y z' u w' _ I4 r2 r4 q4) fun d' s5 ⟨z2,H5,I5,r5,k2,e2,q5⟩=>?_))
  subst e2;cases r5;exact B0 ⟨H5,I5,q5⟩
def OA (K:bn) (x:V) (H:Hp) (k:Bool):Prop:=
 match x with
 | .ai=>k=false
 | .bl b=>k=b
 | .int i=>k=(i != 0)
 | .str y=>y.length<=sizeLine/\k=((y.length:Int) != 0)
 | .iS y=>y.size<=sizeLine/\k=((y.size:Int) != 0)
 | .ref p=>(∃xs,bG K H p xs/\k = !xs.isEmpty)\/(∃xs,bC K H p xs/\k = !xs.isEmpty)\/∃aF,H p=some (.dK aF)/\k = !aF.isEmpty
 |_=>False
theorem xB {κ:Type}{aF:List (κ×V)}{vs:List (κ×am)}(r:KV aF vs):(!vs.isEmpty) = !aF.isEmpty :=by
 cases r<;>rfl
theorem oN {xs:List V}{its:List am}(r:Vals xs its):(!its.toArray.isEmpty) = !xs.isEmpty :=by
 cases r<;>simp
theorem jQ:(sizeLine:Nat)<2 ^ 63 :=by rw[Is];decide
theorem PX:Oz X (fun x H Q=>∃k,OA X.K x H k/\Q k H) :=by
 intro pins s σ H x v Q I rx h;obtain⟨k,e,q⟩:=h;have hl:=jQ;have hs:sizeLine=16777216:=Is;cases x with
 |ai=>
  cases rx;have e':k=false:=e;subst e';exact truthy_none ⟨H,I,q⟩
 |bl b=>
  cases rx;have e':k=b:=e;subst e';exact B0 ⟨H,I,q⟩
 |int i=>
  obtain⟨t,rfl⟩:=rx;have e':k=(i != 0):=e;subst e';exact PySem.P.truthy_int ⟨H,I,q⟩
 |str y=>
  obtain⟨t,rfl⟩:=rx;obtain⟨hy,e'⟩:y.length<=sizeLine/\k=((y.length:Int) != 0):=e;subst e';exact PySem.P.truthy_str (by omega) ⟨H,I.tok _,q⟩
 |iS y=>
  obtain⟨t,rfl⟩:=rx;obtain⟨hy,e'⟩:y.size<=sizeLine/\k=((y.size:Int) != 0):=e;subst e';exact PySem.W.truthy_bytes (by omega) ⟨H,I.tok _,q⟩
 |ref p=>
  cases rx;have e':(∃xs,bG X.K H p xs/\k = !xs.isEmpty)\/(∃xs,bC X.K H p xs/\k = !xs.isEmpty)\/∃aF,H p=some (.dK aF)/\k = !aF.isEmpty:=e;rcases e' with ⟨xs,hx,e'⟩|⟨xs,hx,e'⟩|⟨aF,hx,e'⟩
  ·subst e';obtain⟨its,r,pl,hz⟩:=I.list hx;have hlen:=r.length;exact wpAny_truthy_list pl.isList (by simp only[ci];omega) ⟨H,I.tok _,by rw[oN r];exact q⟩
  ·subst e';obtain⟨its,r,pl,hz⟩:=I.tuple hx;have hlen:=r.length;exact truthy_tuple pl (by simp only[ci];omega) ⟨H,I.tok _,by rw[oN r];exact q⟩
  ·subst e';obtain⟨hz,hS,vs,r,m⟩:aF.length<=sizeLine/\(p==sysModules)=false/\∃vs,KV aF vs/\s.heap.DictOf (pX X.prog X.w) p vs:=I.hok p _ hx;have hlen:aF.length=vs.length:=Ui r;exact wpAny_truthy_dict hS m (by omega) ⟨H,I.tok _,by rw[xB r];exact q⟩
 |_=>exact(show False from e).elim
theorem vals1 {x:V}{us:List am}(r:Vals [x] us):∃u,us=[u]/\RelV x u :=by
 cases r with
 |cons r1 r2=>cases r2;exact⟨_,rfl,r1⟩
theorem vals2 {x y:V}{us:List am}(r:Vals [x,y] us):∃u w',us=[u,w']/\RelV x u/\RelV y w':=by
 cases r with
 |cons r1 r2=>
  cases r2 with
  |cons r3 r4=>cases r4;exact⟨_,_,rfl,r1,r3⟩
theorem Ci:bV X (.builtin "abs") (fun xs H Q=>∃i,xs=[.int i]/\Q (.int (if i<0 then -i else i)) H) :=by
 intro pins s σ H xs us Q I r h;obtain⟨i,rfl,q⟩:=h;obtain⟨u,rfl,t,rfl⟩:=vals1 r;exact call_abs_int fun u tk=>⟨.int (if i<0 then -i else i),H,I.tok _,⟨_,rfl⟩,q⟩
theorem zy (hc:X.calm=true):bV X (.builtin "max") (fun xs H Q=>∃i j,xs=[.int i,.int j]/\Q (.int (if j > i then j else i)) H) :=by
 intro pins s σ H xs us Q I r h;obtain⟨i,j,rfl,q⟩:=h;obtain⟨u,w',rfl,⟨t,rfl⟩,⟨t',rfl⟩⟩:=vals2 r;refine max_two_ints (I.ok.hd hc) fun h' tk k=>⟨_,H,I.kept k,?_,q⟩
 by_cases hj:j > i
 ·rw[if_pos hj,if_pos hj];exact⟨_,rfl⟩
 ·rw[if_neg hj,if_neg hj];exact⟨_,rfl⟩
theorem zA (hc:X.calm=true):bV X (.builtin "min") (fun xs H Q=>∃i j,xs=[.int i,.int j]/\Q (.int (if j<i then j else i)) H) :=by
 intro pins s σ H xs us Q I r h;obtain⟨i,j,rfl,q⟩:=h;obtain⟨u,w',rfl,⟨t,rfl⟩,⟨t',rfl⟩⟩:=vals2 r;refine min_two_ints (I.ok.hd hc) fun h' tk k=>⟨_,H,I.kept k,?_,q⟩
 by_cases hj:j<i
 ·rw[if_pos hj,if_pos hj];exact⟨_,rfl⟩
 ·rw[if_neg hj,if_neg hj];exact⟨_,rfl⟩
theorem zB:bV X (.type "int") (fun xs H Q=>(∃i,xs=[.int i]/\Q (.int i) H)\/∃k,xs=[.bl k]/\Q (.int (if k then 1 else 0)) H) :=by
 intro pins s σ H xs us Q I r h;rcases h with ⟨i,rfl,q⟩|⟨k,rfl,q⟩
 ·obtain⟨u,rfl,t,rfl⟩:=vals1 r;exact call_int_int ⟨.int i,H,I,⟨_,rfl⟩,q⟩
 ·obtain⟨u,rfl,r1⟩:=vals1 r;cases r1;exact call_int_bool ⟨.int (if k then 1 else 0),H,I.tok _,⟨_,rfl⟩,q⟩
def HG (K:bn) (x:V) (H:Hp) (n:Nat):Prop:=
 match x with
 | .str y=>y.length<=sizeLine/\n=y.length
 | .iS y=>y.size<=sizeLine/\n=y.size
 | .ref p=>(∃xs,bG K H p xs/\n=xs.length)\/∃xs,bC K H p xs/\n=xs.length
 |_=>False
theorem Cj:bV X (.builtin "len") (fun xs H Q=>∃x n,xs=[x]/\HG X.K x H n/\Q (.int n) H) :=by
 intro pins s σ H xs us Q I r h;obtain⟨x,n,rfl,e,q⟩:=h;obtain⟨u,rfl,rx⟩:=vals1 r;have hl:=jQ;have hs:sizeLine=16777216:=Is;cases x with
 |str y=>
  obtain⟨t,rfl⟩:=rx;obtain⟨hy,e'⟩:y.length<=sizeLine/\n=y.length:=e;subst e';exact len_str (by omega) ⟨.int _,H,I.tok _,⟨_,rfl⟩,q⟩
 |iS y=>
  obtain⟨t,rfl⟩:=rx;obtain⟨hy,e'⟩:y.size<=sizeLine/\n=y.size:=e;subst e';exact PySem.W.len_bytes (by omega) ⟨.int _,H,I.tok _,⟨_,rfl⟩,q⟩
 |ref p=>
  cases rx;have e':(∃xs,bG X.K H p xs/\n=xs.length)\/∃xs,bC X.K H p xs/\n=xs.length:=e;rcases e' with ⟨xs,hx,e'⟩|⟨xs,hx,e'⟩
  ·subst e';obtain⟨its,r',pl,hz⟩:=I.list hx;have hlen:=r'.length;exact Calls.call_len_list pl.isList (by simp only[ci];omega) ⟨.int xs.length,H,I.tok _,⟨_,by simp only[ci];rw[hlen]⟩,q⟩
  ·subst e';obtain⟨its,r',pl,hz⟩:=I.tuple hx;have hlen:=r'.length;exact len_tuple pl (by simp only[ci];omega) ⟨.int xs.length,H,I.tok _,⟨_,by simp only[ci];rw[hlen]⟩,q⟩
 |_=>exact(show False from e).elim
theorem vt:bV X (.builtin "divmod") (fun xs H Q=>∃i j,xs=[.int i,.int j]/\sX i j/\∀p,H p=none->Q (.ref p) (upd H p (.tup [.int (i / j),.int (i % j)]))) :=by
 intro pins s σ H xs us Q I r h;obtain⟨i,j,rfl,⟨h1,h2⟩,q⟩:=h;obtain⟨u,w',rfl,⟨t,rfl⟩,⟨t',rfl⟩⟩:=vals2 r;refine divmod_int (by omega) ?_ (.inl (PyProof.noPylong_small (by omega)))
 rw[To i (by omega),Int.fmod_eq_emod_of_nonneg i (by omega)]
 have hn:H s.heap.objs.size=none:=I.hok.fresh (bv _);refine⟨.ref s.heap.objs.size,_,?_,rfl,q _ hn⟩;refine I.laid (fun b o e=>bi _ e) (bv _) ⟨by simp only[xw,SN];rw[Is];decide,[.int (i / j) s.toks,.int (i % j) (s.toks+1)],.cons ⟨_,rfl⟩ (.cons ⟨_,rfl⟩ .nil),?_⟩
 exact⟨_,ff s.heap rfl,rfl,0,rfl,rfl⟩
end
structure Ck (h:i0) (x dx C:ap) (mA:db->Option am):Prop where
 obj:h.get? x=some (Vx C dx)
 ns:h.Ns1 dx mA
 ne:dx≠x
theorem zD {h:i0}{dx:ap}{mA:db->Option am}(n:h.Ns1 dx mA):∃od,h.get? dx=some od/\∀name,PySem.W.lookIn name od=some (mA name) :=by
 obtain⟨o,es,ep,ho,hd,hk,_,hm⟩:=n;refine⟨o,ho,fun name=>?_⟩
 have e:=hm name;unfold nsFind findBy at e;rw[<- Array.find?_toList]at e;unfold PySem.W.lookIn;rw[hd];dsimp only;split
 ·rename_i y q;rw[q]at e;exact congrArg some e
 ·rename_i q;rw[q]at e;have a:es.toList.any (·.refKey)=false :=by
   rw[List.any_eq_false];intro y hy;obtain⟨z,t,xC⟩:=hk y (Uw.mp hy);simp[DictEntry.refKey,xC]
  have a':¬ es.toList.any (·.refKey)=true :=by rw[a];exact hX
  rw[if_neg a'];exact congrArg some e
theorem Ck.look {h:i0}{x dx C:ap}{mA:db->Option am}(I:Ck h x dx C mA):∃od,PySem.W.InstAt h x (Vx C dx) C (some od)/\∀name,PySem.W.lookIn name od=some (mA name):=
 let ⟨od,ho,hl⟩:=zD I.ns
 ⟨od,⟨I.obj,rfl,rfl,ho⟩,hl⟩
section
variable {P:ii}{w:ij}{H H':Hp}{h h':i0}{a C dx:ap}{fs PK:List (db×V)}
theorem Fj (hok:dH P w H h) (e:H a=some (.ins C dx fs)):∃mA,Ck h a dx C mA/\(∀f,B1 (fs.lookup f) (mA f))/\PySem.Within mA (fs.map (·.1))/\fs.length<=1000/\H dx=some (.own a) :=by
 obtain⟨d,z,ne,ob,mA,n,r,q⟩:=(show bj P w H h a (.ins C dx fs) from hok a _ e);exact⟨mA,⟨ob,n,ne⟩,r,q,z,d⟩
end
structure HH (K:bn) (C:ap):Prop where
 pg:PySem.W.plainGet K C db.empty=true
 hd:PySem.W.hasDictIn K C=true
 po:PySem.W.plainOver K C=true
 sa:PySem.W.findIn K (.ref C) "__setattr__" = some (some (.builtin "object.__setattr__"))
theorem HH.get {K:bn}{C:ap}(c:HH K C) (f:db):PySem.W.plainGet K C f=true:=c.pg
section
variable {X:Cx}{pins:List (ap×l8)}{σ:St}{H:Hp}{s:ar}{A:mf}{E:am->ar->Prop}{Q:am->ar->Prop}{c:am}{b:Bool}
inductive fQ (K:bn) (H:Hp):V->am->Prop where
 |ai:fQ K H .ai (.type "NoneType")
 |bl (x:Bool):fQ K H (.bl x) (.type "bool")
 |int (i:Int):fQ K H (.int i) (.type "int")
 |str (x:db):fQ K H (.str x) (.type "str")
 |vZ (x:UInt64):fQ K H (.vZ x) (.type "float")
 |lst {a:ap} {xs:List V} (e:H a=some (.lst xs)):fQ K H (.ref a) (.type "list")
 |fx {a:ap} {o:l8} {xs:List V} (e:H a=some (.fx o (.lst xs))):fQ K H (.ref a) (.type "list")
 |tup {a:ap} {xs:List V} (e:H a=some (.tup xs)):fQ K H (.ref a) (.type "tuple")
 |dK {a:ap} {aF:List (Key×V)} (e:H a=some (.dK aF)):fQ K H (.ref a) (.type "dict")
 |dT {a:ap} {aF:List (List Key×V)} (e:H a=some (.dT aF)):fQ K H (.ref a) (.type "dict")
 |ins {a C dx:ap} {fs:List (db×V)} (e:H a=some (.ins C dx fs)) (cl:HH K C) (ha:PySem.W.findIn K (.ref C) "__class__" = some (some (.builtin "object.__class__")))
   (hn:PySem.W.specialIn K (.builtin "object.__class__") "__get__" = some (some (.builtin "getset_descriptor.__get__"))) (MO:PySem.W.takesIn K (.builtin "object.__class__")=some true)
   (hm:PySem.W.mroIn K C (.type "object")=some true):fQ K H (.ref a) (.ref C)
theorem zE {x:V}{u t:am}(I:Inv X pins σ H s) (rx:RelV x u) (ty:fQ X.K H x t) (e:UU X.K t c=some b) (h:∀tk,Q (.bool b) {s with toks:=tk}) :
  wpAny (model X.prog X.w) A (call (.builtin "isinstance") [u,c]) Q E s :=by
 cases ty with
 |ai=>cases (show u=wv from rx);exact EU PySem.W.kitx_none I.hU Vk e (fun z=>nomatch z) h
 |bl y=>cases (show u=VN y from rx);exact EU PySem.W.kitx_bool I.hU Vk e (fun z=>nomatch z) h
 |int i=>obtain⟨t,q⟩:=(show ∃t,u=VP i t from rx);cases q;exact EU PySem.W.kitx_int I.hU Vk e (fun z=>nomatch z) h
 |str y=>obtain⟨t,q⟩:=(show ∃t,u=VQ y t from rx);cases q;exact EU PySem.W.kitx_str I.hU Vk e (fun z=>nomatch z) h
 |vZ y=>obtain⟨t,q⟩:=(show ∃t,u=am.float y t from rx);cases q;exact EU PySem.W.kitx_float I.hU Vk e (fun z=>nomatch z) h
 | @lst a xs ea=>
  cases (show u=ul a from rx);obtain⟨_,_,n,_,h1⟩:=(show bj X.prog X.w H s.heap a (.lst xs) from I.hok a _ ea);exact EU PySem.W.kitx_list I.hU ⟨_,h1,rfl⟩ e (fun z=>nomatch z) h
 | @fx a ob xs ea=>
  cases (show u=ul a from rx);obtain⟨_,_,_,n,_,h1⟩:=(show bj X.prog X.w H s.heap a (.fx ob (.lst xs)) from I.hok a _ ea);exact EU PySem.W.kitx_list I.hU ⟨_,h1,rfl⟩ e (fun z=>nomatch z) h
 | @tup a xs ea=>
  cases (show u=ul a from rx);obtain⟨_,_,_,p⟩:=(show bj X.prog X.w H s.heap a (.tup xs) from I.hok a _ ea);obtain⟨o,h1,h2,_⟩:=p;exact EU PySem.W.kitx_tuple I.hU ⟨o,h1,h2⟩ e (fun z=>nomatch z) h
 | @dK a aF ea=>
  cases (show u=ul a from rx);obtain⟨_,_,vs,_,p⟩:=(show bj X.prog X.w H s.heap a (.dK aF) from I.hok a _ ea);obtain⟨o,es,ep,h1,h2,_⟩:=p;exact EU PySem.W.kitx_dict I.hU ⟨o,h1,h2.1⟩ e (fun z=>nomatch z) h
 | @dT a aF ea=>
  cases (show u=ul a from rx);obtain⟨_,_,xs,_,o,es,ep,h1,h2,_⟩:=(show bj X.prog X.w H s.heap a (.dT aF) from I.hok a _ ea);exact EU PySem.W.kitx_dict I.hU ⟨o,h1,h2.1⟩ e (fun z=>nomatch z) h
 | @ins a C dx fs ea cl ha hn MO hm=>
  cases (show u=ul a from rx);obtain⟨mA,O,_⟩:=Fj I.hok ea;obtain⟨od,J,_⟩:=O.look;exact EU (PySem.W.kitx_own (cl.get _) cl.hd ha hn MO hm) I.hU J e (fun z=>nomatch z) h
end
structure cB (k:Nat) (A:mf):Prop where
 hd:A.handled=none
 dp:A.depth+3 * k+5<recursionLimit
 un:A.units+16 * k+200<cLine
theorem cB.mono {j k:Nat}{A:mf}(r:cB k A) (h:j<=k):cB j A:=⟨r.hd,by have:=r.dp;omega,by have:=r.un;omega⟩
theorem cB.deeper {k:Nat}{A:mf}(r:cB (k+1) A) (env:SM):cB k (A.deeper env):=
 ⟨r.hd,by have:=r.dp;show A.depth+1+3 * k+5<_;omega,by have:=r.un;show A.units+3+16 * k+200<_;omega⟩
theorem cB.depth {k:Nat}{A:mf}(r:cB k A):A.depth<recursionLimit :=by have:=r.dp;omega
theorem cB.units {k:Nat}{A:mf}(r:cB k A):A.units+64<cLine :=by have:=r.un;omega
def HI:TA:=fun _ H Q=>Q [] H
def Ln (ta:TE) (tr:TA):TA:=fun σ H Q=>ta σ H fun x H1=>tr σ H1 fun xs H2=>Q (x::xs) H2
section
variable {X:Cx}{e:gl}{es:List gl}{te:TE}{t:TA}{pos:ze}
theorem HJ:PA X [] HI:=⟨fun _ _ _ _ H Q I h=>Na ⟨[],H,I,.nil,h⟩⟩
theorem Fl (ha:PE X e te) (hr:PA X es t) (hs:starEach (e::es) X.env=(false,eval e X.env)::starEach es X.env :=by rfl):PA X (e::es) (Ln te t) :=by
 refine⟨?_⟩;intro pos pins s σ H Q I h;rw[hs];show wpAny _ _ (spliced ((false,eval e X.env)::backTo pos (starEach es X.env))) _ _ s;refine LG (thn (ha pins s σ H _ I h) fun u s1 ⟨x,H1,I1,r1,q1⟩=>?_)
 exact thn (hr pos pins s1 σ H1 _ I1 q1) fun us s2 ⟨xs,H2,I2,r2,q2⟩=>⟨x::xs,H2,I2,.cons r1 r2,q2⟩
def OB (t:TA):TE:=fun σ H Q=>t σ H fun xs H1=>xs.length<=sizeLine/\∀p,H1 p=none->Q (.ref p) (upd H1 p (.tup xs))
def OC (t:TA):TE:=fun σ H Q=>t σ H fun xs H1=>xs.length<=sizeLine/\∀p,H1 p=none->Q (.ref p) (upd H1 p (.lst xs))
theorem HK {x1}(h:PA X es t):PE X (.Tuple es x1 pos) (OB t) :=by
 refine⟨?_⟩;intro pins s σ H Q I hq;refine wpAny_Tuple_spliced (thn (h pos pins s σ H _ I hq) fun us s1 ⟨xs,H1,I1,r,z,q⟩=>⟨by rw[<- r.length];exact z,?_⟩)
 have hf:H1 s1.heap.objs.size=none:=I1.hok.fresh (bv _);refine⟨.ref s1.heap.objs.size,upd H1 s1.heap.objs.size (.tup xs),I1.laid (t':=s1.toks) (fun b u e=>bi _ e) (bv _) ?_,rfl,q _ hf⟩
 exact⟨z,us,r,⟨_,ff _ rfl,rfl,_,rfl,rfl⟩⟩
theorem zF (h:PA X es t):PE X (.List es pos) (OC t) :=by
 refine⟨?_⟩;intro pins s σ H Q I hq;refine wpAny_List_spliced (thn (h pos pins s σ H _ I hq) fun us s1 ⟨xs,H1,I1,r,z,q⟩=>⟨by rw[<- r.length];exact z,?_⟩)
 have hf:H1 s1.heap.objs.size=none:=I1.hok.fresh (bv _);refine⟨.ref s1.heap.objs.size,upd H1 s1.heap.objs.size (.lst xs),I1.laid (t':=s1.toks) (fun b u e=>bi _ e) (bv _) ?_,rfl,q _ hf⟩
 exact⟨z,us,0,r,ff _ rfl⟩
end
abbrev Sp:=List V->Hp->VK->XK->Prop
abbrev jR:=List SM->Hp->ar->XK->am->ar->Prop
structure xD (P:ii) (w:ij) (K:bn) (mg:db->Option am) (base:i0) (A:mf) (outer:List SM) (s:ar) (H:Hp):Prop where
 frames:A.frames=some outer
 mod:Mod K mg base
 bs:∀b o,base.get? b=some o->s.heap.get? b=some o/\H b=none
 bsz:base.objs.size<=s.heap.objs.size
 funs:s.heap.FunFrames base outer
 frf:∀b∈fD outer,H b=none
 hok:dH P w H s.heap
 bare:VJ s.gens
def CE (outer:List SM) (P:ii) (w:ij) (H:Hp) (s:ar) (Q:VK) (u:am) (s':ar):Prop:=
 ∃v H',s'.os=s.os/\Gn s.gens.size s'.gens/\Un (fD outer) [] H H' s.heap s'.heap/\dH P w H' s'.heap/\RelV v u/\Q v H'
def CR (CX:jR) (outer:List SM) (P:ii) (w:ij) (H:Hp) (s:ar) (Q:VK) (E:XK) (r:VR) (s':ar):Prop:=
 match r with
 | .ok (.ret u)=>CE outer P w H s Q u s'
 | .ok _=>False
 | .error e=>CX outer H s E e s'
structure FnOk (P:ii) (w:ij) (K:bn) (mg:db->Option am) (base:i0) (CX:jR) (k:Nat) (f:ap) (fd:rc) (ps:List db) (sp:Sp):Prop where
 len:∀vs H Q E,sp vs H Q E->vs.length=ps.length
 run:∀(A:mf) (outer:List SM) (s:ar) (H:Hp) (args:Args) (us:List am) (vs:List V) (Q:VK) (E:XK),cB k A->xD P w K mg base A outer s H->Vm s fd args (ps.zip us)->Vals vs us->sp vs H Q E->
  codeAny (model P w) A (.call (.ref f) args) (CR CX outer P w H s Q E) s
theorem FnOk.imp {P:ii}{w:ij}{K:bn}{mg:db->Option am}{base:i0}{CX:jR}{k:Nat}{f:ap}{fd:rc}{ps:List db}{sp MP:Sp}(F:FnOk P w K mg base CX k f fd ps sp)
  (h:∀vs H Q E,MP vs H Q E->sp vs H Q E):FnOk P w K mg base CX k f fd ps MP:=
 ⟨fun vs H Q E q=>F.len vs H Q E (h _ _ _ _ q),fun A outer s H args us vs Q E hr he hb hv hs=>F.run A outer s H args us vs Q E hr he hb hv (h _ _ _ _ hs)⟩
section
variable {X:Cx}{pins:List (ap×l8)}{σ:St}{H:Hp}{s s':ar}
theorem Inv.OD (I:Inv X pins σ H s):xD X.prog X.w X.K X.mg X.base X.A X.stack s H:=
 ⟨I.ok.frames,I.ok.mod,I.bs,sw I.ok.bsz I.sz,I.stack,I.pY,I.hok,I.bare.1⟩
theorem Inv.after {Q:VK}{u:am}(I:Inv X pins σ H s) (h:CE X.stack X.prog X.w H s Q u s'):EP X pins σ Q u s':=by
 obtain⟨v,H',os,bare,un,hok,r,q⟩:=h;obtain⟨hh,g,d,t,D9⟩:=s';obtain rfl:D9=s.os:=os;exact⟨v,H',I.call (h':=hh) (g':=g) (d':=d) (t':=t) (ch:=[]) un hok bare (fun b z=>absurd z (by simp)),r,q⟩
end
def Ea (sp:Sp) (qS:List V) (E:XK) (t:TA):TE:=fun σ H Q=>t σ H fun vs H1=>sp (vs++qS) H1 Q E
def Binds (K:bn) (fd:rc) (ps:List db) (ds:List am):Prop:=
 ∀(s:ar) (us:List am),K.In s.heap->(us++ds).length=ps.length->Vm s fd ⟨us,[]⟩ (ps.zip (us++ds))
theorem Binds.all {K:bn}{fd:rc}{ps:List db}(h:∀us:List am,us.length=ps.length->bindArgs fd ⟨us,[]⟩=pure (ps.zip us)):Binds K fd ps []:=fun s us _ hl=>by
 rw[AN]at hl ⊢;exact .of_eq (h us hl)
def Passes (CX:jR) (X:Cx) (E:XK):Prop:=∀(pins:List (ap×l8)) (σ:St) (H:Hp) (s:ar) (e:am) (s':ar),Inv X pins σ H s->CX X.stack H s E e s'->X.xe e s'
section
variable {X:Cx}{CX:jR}{k:Nat}{f C:ap}{fd:rc}{ps:List db}{sp:Sp}{qS:List V}{ds:List am}{E:XK}{x m:db}{p pos apos:ze}{e o:gl}{es:List gl}{ta:TE}{t:TA}
theorem HL {pins:List (ap×l8)}{σ:St}{H:Hp}{s:ar}{Q:VK}{us:List am}{vs:List V}(F:FnOk X.prog X.w X.K X.mg X.base CX k f fd ps sp) (hr:cB k X.A) (hb:Binds X.K fd ps ds) (hd:Vals qS ds) (hx:Passes CX X E)
  (I:Inv X pins σ H s) (r:Vals vs us) (h:sp (vs++qS) H Q E):wpAny (model X.prog X.w) X.A (call (.ref f) us) (EP X pins σ Q) X.xe s :=by
 have r2:Vals (vs++qS) (us++ds):=r.append hd;have hl:(us++ds).length=ps.length :=by rw[<- r2.length];exact F.len _ _ _ _ h
 refine wpAny_call (S2 (F.run X.A X.stack s H ⟨us,[]⟩ (us++ds) (vs++qS) Q E hr I.OD (hb s us I.hU hl) r2 h) fun r s' hq=>?_)
 cases r with
 |error e=>exact hx pins σ H s e s' I hq
 |ok fl=>
  cases fl with
  |ret u=>exact I.after hq
  |next=>exact On hq
  |brk=>exact On hq
  |cont=>exact On hq
theorem Fm (F:FnOk X.prog X.w X.K X.mg X.base CX k f fd ps sp) (hr:cB k X.A) (hg:Gl X x) (hm:X.mg x=some (.ref f)) (hk:S3 X.K (.ref f)=true) (hb:Binds X.K fd ps ds) (hd:Vals qS ds) (hx:Passes CX X E)
  (ha:PA X (e::es) t) (fE:(x==("__debug__" : db))=false :=by decide) (he:starEach (e::es) X.env=(false,eval e X.env)::starEach es X.env :=by rfl) (cY:(backTo pos (starEach es X.env)).any (·.1)=false :=by rfl) :
  PE X (.Call (.Name x p) (e::es) [] pos) (Ea sp qS E t) :=by
 refine⟨?_⟩;intro pins s σ H Q I h;refine GM (p0 I hg hm ?_ fE);refine PySem.W.callWith_K (h₀:=X.base) I.ok.mod.kin hk (thn (ha pos pins s σ H _ I h) fun us s1 ⟨vs,H1,I1,r,q⟩=>⟨I1.hU,?_⟩) he cY
 exact HL F hr hb hd hx I1 r q
end
structure aZ (N P:List db) (sc:ET):Prop where
 kind:sc.kind=.function
 co:sc.isCoroutine=false
 gen:sc.isGenerator=false
 nd:N.Nodup
 pre:N.take P.length=P
 par:∀x∈P,sc.names.lookup x=some .local\/sc.names.lookup x=some .cell
 nofree:∀y∈sc.names,y.2≠.free
theorem qT {kindOf:db->Option SW}{x:db}:∀{binds:List (db×am)}{m:db->Option am},(∀v,(x,v) ∉ binds)->bindL kindOf binds m x=m x
 | [],_,_=>rfl
 |(n,v)::r,m,h=>by
          unfold bindL;rw[qT fun w hw=>h w (dL _ hw)]
          split
          ·have:x≠n :=by rintro rfl;exact h v i1
           simp[this]
          ·rfl
theorem qU {kindOf:db->Option SW}{x:db}:∀{binds:List (db×am)}{m:db->Option am},(∀v,(x,v) ∉ binds)->bindC kindOf binds m x=m x
 | [],_,_=>rfl
 |(n,v)::r,m,h=>by
          unfold bindC;rw[qU fun w hw=>h w (dL _ hw)]
          split
          ·rfl
          ·have:x≠n :=by rintro rfl;exact h v i1
           simp[this]
theorem qV {kindOf:db->Option SW}{x:db}{v:am}:∀{P:List db}{vs:List am}{i:Nat}{m:db->Option am},P.Nodup->P[i]?=some x->vs[i]?=some v->kindOf x=some .local->
  bindL kindOf (P.zip vs) m x=some v
 | [],_,_,_,_,h,_,_=>by simp at h
 |_::_,[],_,_,_,_,h,_=>by simp at h
 |p::P,w::vs,0,m,nd,h1,h2,hk=>by
          simp at h1 h2;subst h1;subst h2;show bindL kindOf ((p,w)::P.zip vs) m p=_;unfold bindL;rw[qT fun v hv=>(Tx.mp nd).1 (Ux hv).1,if_pos hk]
          simp
 |p::P,w::vs,i+1,m,nd,h1,h2,hk=>by
          show bindL kindOf ((p,w)::P.zip vs) m x=_;unfold bindL;exact qV (i:=i) (Tx.mp nd).2 (by simpa using h1) (by simpa using h2) hk
theorem qW {kindOf:db->Option SW}{x:db}{v:am}:∀{P:List db}{vs:List am}{i:Nat}{m:db->Option am},P.Nodup->P[i]?=some x->vs[i]?=some v->kindOf x≠some .local->
  bindC kindOf (P.zip vs) m x=some v
 | [],_,_,_,_,h,_,_=>by simp at h
 |_::_,[],_,_,_,_,h,_=>by simp at h
 |p::P,w::vs,0,m,nd,h1,h2,hk=>by
          simp at h1 h2;subst h1;subst h2;show bindC kindOf ((p,w)::P.zip vs) m p=_;unfold bindC;rw[qU fun v hv=>(Tx.mp nd).1 (Ux hv).1,if_neg hk]
          simp
 |p::P,w::vs,i+1,m,nd,h1,h2,hk=>by
          show bindC kindOf ((p,w)::P.zip vs) m x=_;unfold bindC;exact qW (i:=i) (Tx.mp nd).2 (by simpa using h1) (by simpa using h2) hk
def start (N:List db) (vs:List V):St:=vs.map some++lv (N.length - vs.length) none
def fR (CX:jR) (P:ii) (w:ij) (K:bn) (mg:db->Option am) (base:i0) (N:List db) (qual:db) (scope:ET) (f:ap) (cd:am) (A:mf) (outer:List SM) (s:ar) (H:Hp) (E:XK):Cx where
 prog:=P
 w:=w
 K:=K
 mg:=mg
 base:=base
 A:=A.deeper (envOfC qual scope s.heap.objs.size f cd)
 N:=N
 s₀:=s
 H₀:=H
 env:=envOfC qual scope s.heap.objs.size f cd
 outer:=outer
 stack:=envOfC qual scope s.heap.objs.size f cd::outer
 ex:=[]
 calm:=true
 fn:=fun _=>true
 pn:=[]
 xe:=fun e s'=>wpAny (model P w) (A.deeper (envOfC qual scope s.heap.objs.size f cd)) (leaving (envOfC qual scope s.heap.objs.size f cd) e) (fun _ cH=>CX outer H s E e cH) (fun e' cH=>CX outer H s E e' cH) s'
theorem sZ {sc:ET}{n:Nat}{x:db}(h:sc.names.lookup x=some .cell):∃c,(cellsFrom n sc.names []).lookup x=some c :=by
 have q:=PySem.W.cellsFrom_some sc.names n [] (.inl h);exact Option.isSome_iff_exists.mp q
theorem zG {CX:jR}{P:ii}{w:ij}{K:bn}{mg:db->Option am}{base:i0}{N ps:List db}{qual:db}{scope:ET}{f:ap}{cd:am}{A:mf}{outer:List SM}{s s1:ar}{H:Hp}{E:XK}{us:List am}{vs:List V}
  (S:aZ N ps scope) (hd:A.handled=none) (e0:xD P w K mg base A outer s H) (hl:vs.length=ps.length) (r:Vals vs us)
  (x:InCallC s s.heap.objs.size (bindL (envOfC qual scope s.heap.objs.size f cd).kindOf (ps.zip us) fun _=>none) (cellsFrom (s.heap.objs.size+1) scope.names []) (bindC (envOfC qual scope s.heap.objs.size f cd).kindOf (ps.zip us) fun _=>none) s1) :
  Inv (fR CX P w K mg base N qual scope f cd A outer s H E) [] (start N vs) H s1 :=by
 have cY:ps.length<=N.length :=by have:=congrArg VG S.pre;rw[FM]at this;omega
 obtain⟨h1,tk,rfl,hk⟩:=x.done;have HM:∀b:ap,b ∉ (fR CX P w K mg base N qual scope f cd A outer s H E).ex:=fun b z=>absurd (show b∈([]:List ap) from z) (by simp)
 refine⟨⟨e0.mod,S.kind,rfl,rfl,bv _,fun y z c h1 h2=>?_,fun y hy=>?_,fun y c _ h=>?_,fun _=>hd,mf.frames_deeper e0.frames,.inr ⟨rfl,rfl⟩,fun b z=>absurd z (HM b),e0.bs,e0.bsz,fun b _ _=>HM b,fun b z=>absurd z (HM b),e0.funs,e0.frf⟩,
  rfl,⟨e0.bare,bv _⟩,Un.kept hk,⟨_,x.toInCall.ns,fun i y v h1 h2 h3=>?_⟩,fun y c h=>⟨_,x.cell y c h⟩,e0.hok.fresh (bv _),fun y c h=>?_,fun p hp=>absurd (show p∈([]:List (ap×l8)) from hp) (by simp),e0.hok.kept hk,?_⟩
 ·exact name_of_addr x.apart (BY h1) (BY h2)
 ·have hy:scope.names.lookup y=some .cell\/scope.names.lookup y=some .free:=hy;rcases hy with hy|hy
  ·exact sZ hy
  ·exact absurd rfl (S.nofree _ (BY hy))
 ·exact S1 (x.above y c (BY h))
 ·have hi:i<vs.length :=by
   unfold start at h2;by_cases hi:i<vs.length
   ·exact hi
   ·rw[List.getElem?_append_right (by simpa using hi)]at h2
    rw[SJ]at h2;split at h2<;>cases h2
  have ha:vs[i]?=some v :=by
   unfold start at h2;rw[Tz (by simpa using hi),cr]at h2
   cases e:vs[i]? with
   |none=>rw[e]at h2;cases h2
   |some a=>rw[e]at h2;cases h2;rfl
  obtain⟨u,hu,rv⟩:=r.get ha;have hp:ps[i]?=some y :=by
   rw[<- S.pre,List.getElem?_take_of_lt (by omega)];exact h1
  have MQ:ps.Nodup :=by rw[<- S.pre];exact S.nd.sublist (List.take_sublist _ _)
  refine⟨u,rv,?_⟩;rcases S.par y (im hp) with k|k
  ·exact .inl ⟨k,qV MQ hp hu k⟩
  ·obtain⟨c,e⟩:=sZ (n:=s.heap.objs.size+1) k;refine .inr ⟨.inl k,c,e,?_⟩;have q:=x.cell y c e;rw[qW MQ hp hu (by show scope.names.lookup y≠_;rw[k];decide)]at q
   exact q
 ·exact e0.hok.fresh (S1 (x.above y c (BY h)))
 ·unfold start;show _=N.length;rw[rf,cb,S4];omega
theorem Eb {CX:jR}{P:ii}{w:ij}{K:bn}{mg:db->Option am}{base:i0}{k:Nat}{f:ap}{name qual:db}{params:Arguments}{body:List wp}{scope:ET}{dV kV doc pm dE ct oc:am}{an od:Option ap}
  {jv:Array (Option am)} {N ps:List db} {sp:Sp} (lk:K.lookup f=some ⟨oc,od,.func (KB name qual params body scope dV kV doc pm an dE ct),jv⟩) (hZ:TW K dE qual=true) (S:aZ N ps scope)
  (len:∀vs H Q E,sp vs H Q E->vs.length=ps.length)
  (oO:∀(A:mf) (outer:List SM) (s:ar) (H:Hp) (vs:List V) (Q:VK) (E:XK),cB k (A.deeper (envOfC qual scope s.heap.objs.size f dE))->sp vs H Q E->
   ∃t,fZ (fR CX P w K mg base N qual scope f dE A outer s H E) body t/\t {nx:=fun _ H'=>Q .ai H',rt:=Q} (start N vs) H) :
  FnOk P w K mg base CX (k+1) f (KB name qual params body scope dV kV doc pm an dE ct) ps sp :=by
 refine⟨len,fun A outer s H args us vs Q E hr e0 hb r ni=>?_⟩
 have hl:=len _ _ _ _ ni;have KX:K.In s.heap:=e0.mod.kin.keeps fun b o e=>(e0.bs b o e).1
 have lim:s.heap.NoLimit:=e0.mod.nolimit.keeps fun b o e=>(e0.bs b o e).1
 have sy:∀y∈ps.zip us,scope.names.lookup y.1=some .local\/(scope.names.lookup y.1=some .cell/\((cellsFrom (s.heap.objs.size+1) scope.names []).lookup y.1).isSome=true):=fun⟨n,v⟩ hy=>by
  rcases S.par n (Ux hy).1 with q|q
  ·exact .inl q
  ·exact .inr ⟨q,PySem.W.cellsFrom_some _ _ _ (.inl q)⟩
 refine codeAny_call_function hr.depth (KX _ _ lk) rfl S.co S.gen rfl (PySem.W.codeRec_of KX hZ) (hb _ _ _ _ ?_);refine wpAny_newFunctionEnv_cells S.kind sy fun env he s1 x=>?_
 subst he;refine⟨lim.keeps x.toInCall.keep,codeAny_func ?_⟩;obtain⟨t,ht,hq⟩:=oO A outer s H vs Q E (hr.deeper _) ni;have I:Inv (fR CX P w K mg base N qual scope f dE A outer s H E) [] (start N vs) H s1:=zG S hr.hd e0 hl r x;refine tw (ht [] s1 (start N vs) H _ I hq) (fun fl s' hs=>?_) fun e s' hs=>hs
 have fin:∀{aG:St} {H':Hp} {v:V} {u:am},Inv (fR CX P w K mg base N qual scope f dE A outer s H E) [] aG H' s'->RelV v u->Q v H'->CE outer P w H s Q u s':=
  fun {aG H' v u} J rv q=>⟨v,H',J.os,J.bare,J.base,J.hok,rv,q⟩
 cases fl with
 |ret u=>
  obtain⟨v,aG,H',J,rv,q⟩:=hs;exact fin J rv q
 |next=>
  obtain⟨aG,H',J,q⟩:=hs;exact fin (v:=V.ai) (u:=wv) J rfl q
 |brk=>
  obtain⟨_,_,_,q⟩:=hs;exact On q
 |cont=>
  obtain⟨_,_,_,q⟩:=hs;exact On q
section
variable {X:Cx}{x:db}{p pos:ze}{e:gl}{es:List gl}{t:TA}{id T:String}{r:List V->Hp->VK->Prop}
def Ec (r:List V->Hp->VK->Prop) (t:TA):TE:=fun σ H Q=>t σ H fun vs H1=>r vs H1 Q
theorem Cm (hc:bV X (.builtin id) r) (hg:Gl X x) (hm:X.mg x=none) (hv:bootBuiltins x=some (.builtin id)) (ha:PA X (e::es) t) (hn:x ≠ "__name__" := by decide) (fE:(x==("__debug__" : db))=false :=by decide)
  (he:starEach (e::es) X.env=(false,eval e X.env)::starEach es X.env :=by rfl) (cY:(backTo pos (starEach es X.env)).any (·.1)=false :=by rfl):PE X (.Call (.Name x p) (e::es) [] pos) (Ec r t) :=by
 refine⟨?_⟩;intro pins s σ H Q I h;refine GM (d6 I hg hm hv ?_ hn fE);exact PyProof.Rows.callWith_builtin1 (thn (ha pos pins s σ H _ I h) fun us s1 ⟨vs,H1,I1,r1,q1⟩=>hc pins s1 σ H1 vs us Q I1 r1 q1) he cY
theorem zH (hc:bV X (.type T) r) (hg:Gl X x) (hm:X.mg x=none) (hv:bootBuiltins x=some (.type T)) (ha:PA X (e::es) t) (hn:x ≠ "__name__" := by decide) (fE:(x==("__debug__" : db))=false :=by decide)
  (he:starEach (e::es) X.env=(false,eval e X.env)::starEach es X.env :=by rfl) (cY:(backTo pos (starEach es X.env)).any (·.1)=false :=by rfl):PE X (.Call (.Name x p) (e::es) [] pos) (Ec r t) :=by
 refine⟨?_⟩;intro pins s σ H Q I h;refine GM (d6 I hg hm hv ?_ hn fE);exact zn (thn (ha pos pins s σ H _ I h) fun us s1 ⟨vs,H1,I1,r1,q1⟩=>hc pins s1 σ H1 vs us Q I1 r1 q1) he cY
theorem xE (hc:bV X (.type T) r) (hg:Gl X x) (hm:X.mg x=none) (hv:bootBuiltins x=some (.type T)) (hn:x ≠ "__name__" := by decide) (fE:(x==("__debug__" : db))=false :=by decide) :
  PE X (.Call (.Name x p) [] [] pos) (Ec r HI) :=by
 refine⟨?_⟩;intro pins s σ H Q I h;refine GM (d6 I hg hm hv ?_ hn fE);exact PyProof.Rows.callWith_type0 (hc pins s σ H [] [] Q I .nil h)
end
end L2
namespace HT
open PySem PyProof.Rows
def lexLt:List Int->List Int->Bool
 | [],[]=>false
 | [],_::_=>true
 |_::_,[]=>false
 |x::xs,y::ys=>if x=y then lexLt xs ys else decide (x<y)
theorem du (x y:Int) (xs ys:List Int):lexLt (x::xs) (y::ys)=if x=y then lexLt xs ys else decide (x<y):=rfl
section
variable {prog:ii}{w:ij}{A:mf}{E:am->ar->Prop}{s:ar}
theorem Fn {t b:ap}{vs ws:List am}{Q:am->ar->Prop}(ht:Vw s.heap t vs.toArray) (hb:Vw s.heap b ws.toArray) (hv:vs≠[])
  (h1:ws=[]->Q (.ref t) s) (h2:ws≠[]->Q (.ref s.heap.objs.size) {s with heap:=s.heap.push {cls:=.type "tuple",data:=.seq (vs++ws).toArray}})
  (hsz:vs.length+ws.length<=sizeLine):wpAny (model prog w) A (binaryOp .Add (.ref t) (.ref b)) Q E s :=by
 obtain⟨⟨cls,dd,data,sl⟩,ho,hc,n,hd⟩:=id ht;obtain⟨⟨OG,wd,data2,qX⟩,ly,we,n2,hd2⟩:=id hb;simp only at hc hd we hd2;subst hc hd we hd2;have e:vs.toArray++ws.toArray=(vs++ws).toArray :=by simp
 by_cases hw:ws=[]
 ·exact concat_meets ⟨_,ho,rfl⟩ ⟨_,ly,rfl⟩ Vo seq_tuple_add Ug T0 (TL _ _)
   (tuple_addW1 t b vs.toArray ws.toArray n n2 dd wd sl qX (by simpa using hv) (by simp[hw])) ⟨ho,ly,h1 hw⟩
 ·refine concat_meets ⟨_,ho,rfl⟩ ⟨_,ly,rfl⟩ Vo seq_tuple_add Ug T0 (TL _ _)
   (tuple_addW2 t b vs.toArray ws.toArray n n2 dd wd sl qX (by simpa using hv) (by simpa using hw) (by rw[ci,ci];exact hsz)) ⟨ho,ly,?_⟩
  rw[e];exact h2 hw
def aP (n d:Nat):Option Int->Nat
 |none=>d
 |some v=>if v<0 then (v+(n:Int)).toNat else min v.toNat n
theorem HN (n d:Nat) (hd:d<=n) (o:Option Int):aP n d o<=n :=by
 cases o with
 |none=>exact hd
 |some v=>
  show (if v<0 then (v+(n:Int)).toNat else min v.toNat n)<=n
  by_cases hv:v<0
  ·rw[if_pos hv];omega
  ·rw[if_neg hv];exact Nat.min_le_right _ _
theorem wg (v:Int) (n d:Nat):(if v<0 then max (v+(n:Int)) 0 else min v (n:Int))=((aP n d (some v):Nat):Int) :=by
 show (if v<0 then max (v+(n:Int)) 0 else min v (n:Int))=(((if v<0 then (v+(n:Int)).toNat else min v.toNat n):Nat):Int)
 by_cases hv:v<0
 ·simp only[if_pos hv];omega
 ·simp only[if_neg hv];omega
theorem xF (lo hi:Option Int) (n:Nat):TC lo hi 1 (n:Int)=(((aP n 0 lo:Nat):Int),((aP n n hi:Nat):Int)) :=by
 have h1:¬ ((1:Int)<0) :=by omega
 unfold TC;simp only[h1,if_false];refine Prod.ext ?_ ?_
 ·cases lo with
  |none=>rfl
  |some v=>exact wg v n 0
 ·cases hi with
  |none=>rfl
  |some v=>exact wg v n n
theorem xG (i j:Nat):PM (i:Int) (j:Int) 1=j - i :=by
 unfold PM;have h1:(1:Int) > 0 :=by omega
 simp only[h1,if_true,Int.ediv_one];split<;>omega
theorem oP {v:am}{o:Option Int}{Q:Option Int->ar->Prop}(p:Uy v o) (h:Q o s):wpAny (model prog w) A (l7.Slice.slicePartIndex v) Q E s :=by
 cases p with
 |none=>exact slicePart_none h
 |int i t=>exact slicePart_int h
theorem iX {sl:ap}{vl vu:am}{lo hi:Option Int}{n:Nat}{Q:Int×Int×Nat->ar->Prop}(hs:s.heap.IsSliceOf sl vl vu .none) (pl:Uy vl lo) (pu:Uy vu hi)
  (h:Q (((aP n 0 lo:Nat):Int),1,aP n n hi - aP n 0 lo) s):wpAny (model prog w) A (l7.Slice.sliceApplied (.ref sl) (pure (n:Int))) Q E s :=by
 obtain⟨os,eR,Ed,jw⟩:=id hs;unfold l7.Slice.sliceApplied l7.Slice.sliceFields;refine ac (ac (AM eR jw (x:=vl) rfl (ac (AM eR jw (x:=vu) rfl (ac (AM eR jw (x:=.none) rfl (ba ?_)))))));refine ac (slicePart_none ?_);show wpAny _ _ (if ((1:Int)==0)=true then _ else _) _ _ s
 rw[if_neg (by decide)]
 refine ac (oP pl (ac (oP pu (ac (ba ?_)))));show wpAny _ _ (match TC lo hi 1 (n:Int) with|(lo,hi)=>pure (lo,(1:Int),PM lo hi 1)) _ _ s
 rw[xF lo hi n];show wpAny _ _ (pure (((aP n 0 lo:Nat):Int),(1:Int),PM ((aP n 0 lo:Nat):Int) ((aP n n hi:Nat):Int) 1)) _ _ s;rw[xG];exact ba h
theorem Cp (xs:Array am) (i k:Nat):((i8 k).filterMap fun (m:Nat)=>xs[((i:Int)+(m:Int) * 1).toNat]?).toArray=((xs.toList.drop i).take k).toArray :=by
 have e:(fun (m:Nat)=>xs[((i:Int)+(m:Int) * 1).toNat]?)=fun m=>xs[i+m]?:=by
  funext m
  have:((i:Int)+(m:Int) * 1).toNat=i+m :=by omega
  rw[this]
 rw[e];have:=pick_run xs i k;rw[List.filterMap_map]at this;have e2:((fun x=>xs[x]?) ∘ fun x=>i+x)=fun m=>xs[i+m]?:=rfl
 rw[e2]at this;rw[this]
theorem m8 {t sl:ap}{items:Array am}{vl vu:am}{lo hi:Option Int}{Q:am->ar->Prop}(ht:Vw s.heap t items) (hs:s.heap.IsSliceOf sl vl vu .none) (pl:Uy vl lo) (pu:Uy vu hi)
  (hw:¬ (aP items.size 0 lo=0/\aP items.size items.size hi=items.size))
  (h:Q (.ref s.heap.objs.size) {s with heap:=s.heap.push {cls:=.type "tuple",data:=.seq ((items.toList.drop (aP items.size 0 lo)).take (aP items.size items.size hi - aP items.size 0 lo)).toArray}})
  (hsz:items.size<=sizeLine):wpAny (model prog w) A (getItem (.ref t) (.ref sl)) Q E s :=by
 have sA:sizeOk (.seq ((items.toList.drop (aP items.size 0 lo)).take (aP items.size items.size hi - aP items.size 0 lo)).toArray) :=by
  show ((items.toList.drop (aP items.size 0 lo)).take (aP items.size items.size hi - aP items.size 0 lo)).toArray.size<=sizeLine;rw[ci,FM,Ti,io];omega
 have hj:aP items.size items.size hi<=items.size:=HN _ _ (bv _) hi;obtain⟨os,eR,Ed,jw⟩:=id hs;have oQ:s.TypeIs (.ref sl) "slice" := ⟨os,eR,Ed⟩
 unfold getItem;try with_reducible refine wT ?_
 first|refine ac (ba ?_)|skip
 refine ac (wpAny_sequenceKey ht.typeIs (by decide) ?_)
 refine ac (ut (name:=u8 "__getitem__") ht.typeIs Go
  (nw Go ht.typeIs entry_tuple_getitem ?_ (args_tuple_getitem _ _)))
 show wpAny _ _ (l7.Tuple.tupleItemsOf (.ref t)>>=_) _ _ s;refine ac (tupleItemsOf_ ht ?_);refine ac (LS oQ ?_);rw[if_pos (by decide)]
 refine ac (iX hs pl pu ?_);have nj:¬ ((((aP items.size 0 lo:Nat):Int)==0 && (1:Int)==1 && (aP items.size items.size hi - aP items.size 0 lo)==items.size)=true) :=by
  intro q;rw[BB,BB]at q;have q1:((aP items.size 0 lo:Nat):Int)=0:=eq_of_beq q.1.1;have q2:aP items.size items.size hi - aP items.size 0 lo=items.size:=eq_of_beq q.2;exact hw ⟨by omega,by omega⟩
 show wpAny _ _ (if (((aP items.size 0 lo:Nat):Int)==0 && (1:Int)==1 && (aP items.size items.size hi - aP items.size 0 lo)==items.size)=true then _ else _) _ _ s
 rw[if_neg nj,Cp];first
  |exact ac (m:=GS _) (mT (ba ⟨_,rfl,ba h⟩) sA)
  |exact ac (m:=GS _) (mT (ac (ba (ba ⟨_,rfl,ba h⟩))) sA)
  |exact ac (ac (m:=GS _) (mT (ba (ba ⟨_,rfl,ba h⟩)) sA))
  |exact ac (ac (m:=GS _) (mT (ba ⟨_,rfl,ba h⟩) sA))
end
end HT
namespace L2
open PySem PySem.Spec PyProof.Rows
abbrev TO:=St->Hp->(Option Int->Hp->Prop)->Prop
def PO (X:Cx) (e:Option gl) (t:TO):Prop:=
 ∀(pins:List (ap×l8)) (s:ar) (σ:St) (H:Hp) (Q:Option Int->Hp->Prop),Inv X pins σ H s->t σ H Q->
  wpAny (model X.prog X.w) X.A (evalPart e X.env) (fun u s'=>∃o H',Inv X pins σ H' s'/\Uy u o/\Q o H') X.xe s
def Fo:TO:=fun _ H Q=>Q none H
def Lp (t:TE):TO:=fun σ H Q=>t σ H fun x H1=>∃i,x=.int i/\Q (some i) H1
section
variable {X:Cx}{e:gl}{te:TE}{lo hi:Option gl}{tl th:TO}{pos p2:ze}
theorem Fp:PO X none Fo :=by
 intro pins s σ H Q I h;rw[evalPart_none];exact ba ⟨none,H,I,.none,h⟩
theorem Fq (h:PE X e te):PO X (some e) (Lp te) :=by
 intro pins s σ H Q I hw;rw[evalPart_some];refine thn (h pins s σ H _ I hw) fun u s1 ⟨x,H1,I1,r1,q1⟩=>?_
 obtain⟨i,rfl,q⟩:=q1;obtain⟨t,rfl⟩:=r1;exact⟨some i,H1,I1,.int i t,q⟩
def zI (X:Cx) (r:V->Option Int->Option Int->Hp->VK->Prop):Prop:=
 ∀(pins:List (ap×l8)) (s:ar) (σ:St) (H:Hp) (x:V) (v vl vu:am) (lo hi:Option Int) (sl:ap) (Q:VK),Inv X pins σ H s->RelV x v->s.heap.IsSliceOf sl vl vu .none->Uy vl lo->Uy vu hi->r x lo hi H Q->
  ∃T id,typeLookup (.type T) "__getitem__" = pure (some (.builtin id))/\s.TypeIs v T/\wpAny (model X.prog X.w) X.A (getItem v (.ref sl)) (EP X pins σ Q) X.xe s
def PY (r:V->Option Int->Option Int->Hp->VK->Prop) (te:TE) (tl th:TO):TE:=fun σ H Q=>te σ H fun x H1=>tl σ H1 fun l H2=>th σ H2 fun u H3=>r x l u H3 Q
theorem Cq {r:V->Option Int->Option Int->Hp->VK->Prop}(hr:zI X r) (he:PE X e te) (hl:PO X lo tl) (hu:PO X hi th):PE X (.Subscript e (.Slice lo hi none p2) pos) (PY r te tl th) :=by
 refine⟨?_⟩;intro pins s σ H Q I h;refine Subscript_ (thn (he pins s σ H _ I h) fun v s1 ⟨x,H1,I1,r1,q1⟩=>?_)
 refine wpAny_Slice (thn (hl pins s1 σ H1 _ I1 q1) fun vl s2 ⟨l,H2,I2,pl,q2⟩=>thn (hu pins s2 σ H2 _ I2 q2) fun vu s3 ⟨u,H3,I3,pu,q3⟩=>?_)
 rw[evalPart_none];refine ba ?_;have I4:Inv X pins σ H3 {s3 with heap:=s3.heap.push {cls:=.type "slice",data:=.fields #[vl,vu,.none]}}:=I3.kept (t':=s3.toks) fun b ob q=>bi _ q
 obtain⟨T,id,hT,ht,hg⟩:=hr pins {s3 with heap:=s3.heap.push {cls:=.type "slice",data:=.fields #[vl,vu,.none]}} σ H3 x v vl vu l u s3.heap.objs.size Q I4 r1 (i0.IsSliceOf.new ..) pl pu q3
 show wpAny (model X.prog X.w) X.A (subscriptTail e (.Slice lo hi none p2) v (.ref s3.heap.objs.size)) (EP X pins σ Q) X.xe {s3 with heap:=s3.heap.push {cls:=.type "slice",data:=.fields #[vl,vu,.none]}}
 exact tail_any (ops:=[.ref s3.heap.objs.size,v]) ht hT hg (by with_unfolding_all rfl)
def ix (xs:List V) (lo hi:Option Int):List V:=(xs.drop (HT.aP xs.length 0 lo)).take (HT.aP xs.length xs.length hi - HT.aP xs.length 0 lo)
theorem nq (xs:List V) (lo hi:Option Int):(ix xs lo hi).length<=xs.length :=by
 unfold ix;rw[FM,Ti];omega
def OH (K:bn):V->Option Int->Option Int->Hp->VK->Prop:=fun x lo hi H Q=>∃a xs,x=.ref a/\bC K H a xs /\
 ¬ (HT.aP xs.length 0 lo=0/\HT.aP xs.length xs.length hi=xs.length)/\∀p,H p=none->Q (.ref p) (upd H p (.tup (ix xs lo hi)))
theorem HP:zI X (OH X.K) :=by
 intro pins s σ H x v vl vu lo hi sl Q I rx hs pl pu h;obtain⟨a,xs,rfl,hx,hw,q⟩:=h;cases rx;obtain⟨its,r,ht,hz⟩:=I.tuple hx;have hlen:its.toArray.size=xs.length :=by rw[ci];exact r.length.symm
 refine⟨"tuple",_,Go.lookup,ht.typeIs,?_⟩
 refine HT.m8 ht hs pl pu (by rw[hlen];exact hw) ?_ (by rw[hlen];exact hz)
 rw[hlen];refine⟨.ref s.heap.objs.size,_,I.laid (t':=s.toks) (o:=.tup (ix xs lo hi)) (fun b ob q=>bi _ q) (bv _) ?_,rfl,q _ (I.hok.fresh (bv _))⟩
 exact⟨sw (nq xs lo hi) hz,_,(r.drop (HT.aP xs.length 0 lo)).take (HT.aP xs.length xs.length hi - HT.aP xs.length 0 lo),gL.new _ _⟩
def Lq (K:bn):R2:=fun x y H Q=>∃a b xs ys,x=.ref a/\y=.ref b/\bC K H a xs/\bC K H b ys/\xs≠[]/\xs.length+ys.length<=sizeLine /\
 (ys=[]->Q (.ref a) H)/\(ys≠[]->∀p,H p=none->Q (.ref p) (upd H p (.tup (xs++ys))))
theorem Vals.jS {xs:List V}{us:List am}(r:Vals xs us):us=[] ↔ xs=[] :=by
 cases r with
 |nil=>simp
 |cons _ _=>simp
theorem Fs:OpR X (binaryOp .Add) (Lq X.K) :=by
 intro pins s σ H x y v u Q I rx ry h;obtain⟨a,b,xs,ys,rfl,rfl,ha,hb,hx,hz,q1,q2⟩:=h;cases rx;cases ry;obtain⟨its,r1,p1,_⟩:=I.tuple ha;obtain⟨b8,r2,p2,_⟩:=I.tuple hb;refine HT.Fn p1 p2 (fun z=>hx (r1.jS.mp z)) (fun z=>⟨.ref a,H,I,rfl,q1 (r2.jS.mp z)⟩) (fun z=>?_) (by rw[<- r1.length,<- r2.length];exact hz)
 refine⟨.ref s.heap.objs.size,_,I.laid (t':=s.toks) (o:=.tup (xs++ys)) (fun b ob q=>bi _ q) (bv _) ?_,rfl,q2 (fun w=>z (r2.jS.mpr w)) _ (I.hok.fresh (bv _))⟩
 exact⟨by rw[rf];exact hz,_,r1.append r2,gL.new _ _⟩
end
def gq (n:Nat) (i:Int):Option Nat:=if 0<=i then (if i<n then some i.toNat else none) else if -(n:Int)<=i then some (i+n).toNat else none
def cZ {α:Type}(xs:List α) (i:Int):Option α:=(gq xs.length i).bind fun j=>xs[j]?
theorem qa {n:Nat}{i:Int}{j:Nat}(h:gq n i=some j):seqIndex? i n=some j/\j<n /\ -(n:Int)<=i/\i<n :=by
 unfold gq at h;by_cases h0:0<=i
 ·rw[if_pos h0]at h;by_cases h1:i<n
  ·rw[if_pos h1]at h;have e:i.toNat=j:=i4 h;exact⟨by rw[seqIndex_of h0 h1,e],by omega,by omega,h1⟩
  ·rw[if_neg h1]at h;cases h
 ·rw[if_neg h0]at h;by_cases h1 : -(n:Int)<=i
  ·rw[if_pos h1]at h;have e:(i+n).toNat=j:=i4 h;exact⟨by rw[seqIndex_neg (by omega) h1,e],by omega,h1,by omega⟩
  ·rw[if_neg h1]at h;cases h
theorem qb {α:Type}{xs:List α}{i:Int}{v:α}(h:cZ xs i=some v):∃j,seqIndex? i xs.length=some j/\xs[j]?=some v/\j<xs.length /\ -(xs.length:Int)<=i/\i<xs.length :=by
 unfold cZ at h;cases e:gq xs.length i with
 |none=>rw[e]at h;cases h
 |some j=>
  rw[e]at h;obtain⟨h1,h2,h3,h4⟩:=qa e;exact⟨j,h1,h,h2,h3,h4⟩
theorem eA {α:Type}{xs:List α}{j:Nat}{v:α}(h:xs[j]?=some v):cZ xs (j:Int)=some v :=by
 have hj:j<xs.length:=(br.mp h).1;have e:gq xs.length (j:Int)=some j :=by
  unfold gq;rw[if_pos (by omega),if_pos (by omega)];simp
 unfold cZ;rw[e];exact h
def wj (b:gl):Prop:=∀o i,subscripted b false o i=operate [o,i] (getItem o i)
def lz (X:Cx) (r:R2):Prop:=
 ∀(value slice:gl) (pins:List (ap×l8)) (s:ar) (σ:St) (H:Hp) (x y:V) (v u:am) (Q:VK),Inv X pins σ H s->RelV x v->RelV y u->r x y H Q->
  subscripted slice false v u=operate [v,u] (getItem v u)->wpAny (model X.prog X.w) X.A (subscriptTail value slice v u) (EP X pins σ Q) X.xe s
def zJ (X:Cx) (id:String) (r:V->List V->Hp->VK->Prop):Prop:=
 ∀(pins:List (ap×l8)) (s:ar) (σ:St) (H:Hp) (x:V) (xs:List V) (v:am) (us:List am) (Q:VK),Inv X pins σ H s->RelV x v->Vals xs us->r x xs H Q->
  wpAny (model X.prog X.w) X.A (call (.builtin id) (v::us)) (EP X pins σ Q) X.xe s
section
variable {X:Cx}{a b:gl}{ta tb:TE}{pos:ze}
theorem lz.or {r r':R2}(h:lz X r) (h':lz X r'):lz X (fun x y H Q=>r x y H Q\/r' x y H Q) :=by
 intro value slice pins s σ H x y v u Q I rx ry q hs;rcases q with q|q
 ·exact h value slice pins s σ H x y v u Q I rx ry q hs
 ·exact h' value slice pins s σ H x y v u Q I rx ry q hs
theorem Lr {r:R2}(hr:lz X r) (ha:PE X a ta) (hb:PE X b tb) (hs:wj b):PE X (.Subscript a b pos) (zt r ta tb) :=by
 refine⟨?_⟩;intro pins s σ H Q I h;exact Subscript_ (Ca ha hb I h fun v u s2 x y H2 I2 rx ry q=>hr a b pins s2 σ H2 x y v u Q I2 rx ry q (hs _ _))
def HQ (K:bn):R2:=fun x y H Q=>∃p xs i v,x=.ref p/\y=.int i/\bG K H p xs/\cZ xs i=some v/\Q v H
def HR (K:bn):R2:=fun x y H Q=>∃p xs i v,x=.ref p/\y=.int i/\bC K H p xs/\cZ xs i=some v/\Q v H
def HS:R2:=fun x y H Q=>∃z i c,x=.str z/\y=.int i/\z.length<=sizeLine/\cZ z.cps.toList i=some c/\Q (.str ⟨#[c]⟩) H
theorem Ft:lz X (HQ X.K) :=by
 intro value slice pins s σ H x y v u Q I rx ry h hs;obtain⟨p,xs,i,z,rfl,rfl,hq,he,q⟩:=h;cases rx;obtain⟨t,rfl⟩:=ry;obtain⟨its,r,pl,hz⟩:=I.list hq;obtain⟨j,h1,h2,h3,h4,h5⟩:=qb he;obtain⟨w,ew,zK⟩:=r.get h2;have hl:=r.length;have hn:=jQ;have fin:EP X pins σ Q w s:=⟨z,H,I,zK,q⟩;by_cases h0:0<=i
 ·have hj:i.toNat=j :=by
   rw[seqIndex_of h0 h5]at h1;exact i4 h1
  exact item_listR pl.isList h0 (by omega) (by rw[hj];simpa using ew) fin hs
 ·have hj:(i+(its.toArray.size:Int)).toNat=j :=by
   rw[seqIndex_neg (by omega) h4]at h1
   rw[ci,<- hl];exact i4 h1
  exact subscriptTail_builtinR (x:=w) pl.isList.typeIs slot_list_getitem.lookup
   (wpAny_getItem_list_neg (Q:=fun r s'=>r=w/\EP X pins σ Q r s') pl.isList (by omega) (by rw[ci]<;>omega) (by omega) (by rw[hj];simpa using ew) ⟨rfl,fin⟩) hs
theorem HU:lz X (HR X.K) :=by
 intro value slice pins s σ H x y v u Q I rx ry h hs;obtain⟨p,xs,i,z,rfl,rfl,hq,he,q⟩:=h;cases rx;obtain⟨t,rfl⟩:=ry;obtain⟨its,r,pl,hz⟩:=I.tuple hq;obtain⟨j,h1,h2,h3,h4,h5⟩:=qb he;obtain⟨w,ew,zK⟩:=r.get h2;have hl:=r.length;have hn:=jQ;have fin:EP X pins σ Q w s:=⟨z,H,I,zK,q⟩;exact subscriptTail_builtinR (x:=w) pl.typeIs slot_tuple_getitem.lookup
  (getItem_tuple (j:=j) (Q:=fun r s'=>r=w/\EP X pins σ Q r s') pl (by omega) (by omega) (by rw[ci,<- hl];exact h1) (by simpa using ew) ⟨rfl,fin⟩) hs
theorem HV:lz X HS :=by
 intro value slice pins s σ H x y v u Q I rx ry h hs;obtain⟨z,i,c,rfl,rfl,hz,he,q⟩:=h;obtain⟨t,rfl⟩:=rx;obtain⟨t',rfl⟩:=ry;obtain⟨j,h1,h2,h3,h4,h5⟩:=qb he;have hl:z.cps.toList.length=z.length :=by simp[db.length]
 rw[hl]at h1 h4 h5;have hn:=jQ;exact tail_any (typeIs_str s z t) slot_str_getitem.lookup (getItem_str (c:=c) (by
  have e1:decide (i < -(2 ^ 63:Int))=false:=decide_eq_false (by omega)
  have e2:decide (i ≥ 2 ^ 63)=false:=decide_eq_false (by omega)
  rw[e1,e2,U6]) (by rw[h1];simpa using h2) ⟨.str ⟨#[c]⟩,H,I.tok _,⟨_,rfl⟩,q⟩) hs
def MR (K:bn):R2:=fun x y H Q=>HQ K x y H Q\/HR K x y H Q\/HS x y H Q
theorem HW:lz X (MR X.K):=Ft.or (HU.or HV)
theorem xH (its:List am) (n j:Nat) (u:am):Da (·.setIfInBounds j u) {cls:=.type "list",data:=.seq its.toArray n}={cls:=.type "list",data:=.seq (its.set j u).toArray n}:=by
 simp[Da]
theorem Inv.lst {pins:List (ap×l8)}{σ:St}{H:Hp}{s:ar}{p:ap}{xs:List V}(I:Inv X pins σ H s) (h:H p=some (.lst xs)) :
  ∃(its:List am) (n:Nat),Vals xs its/\s.heap.get? p=some {cls:=.type "list",data:=.seq its.toArray n}/\xs.length<=sizeLine :=by
 obtain⟨z,its,n,r,e⟩:=I.hok p _ h;exact⟨its,n,r,e,z⟩
theorem Inv.HX {pins:List (ap×l8)}{σ:St}{H:Hp}{s:ar}{p:ap}{xs ys:List V}{its its':List am}{n n':Nat}{f:l8->l8}(I:Inv X pins σ H s) (h:H p=some (.lst xs))
  (ho:s.heap.get? p=some {cls:=.type "list",data:=.seq its.toArray n}) (hf:f {cls:=.type "list",data:=.seq its.toArray n}={cls:=.type "list",data:=.seq its'.toArray n'}) (r:Vals ys its') (hz:ys.length<=sizeLine) (t:Nat) :
  Inv X pins σ (upd H p (.lst ys)) {s with heap:=s.heap.update p f,toks:=t}:=by
 have e:(s.heap.update p f).get? p=some {cls:=.type "list",data:=.seq its'.toArray n'}:=by
  rw[uu f ho (by rw[hf]<;>rfl),hf]
 refine I.write (x:=p) (e:=p) (by rw[h];trivial) (.inl rfl) (fun b u hb q=>(wb _ _ (EO hb)).trans q) ⟨_,e⟩ ?_
 exact⟨hz,its',n',r,e⟩
def Ls:V->V->V->Hp->(Hp->Prop)->Prop:=fun o i v H Q=>∃p xs k j,o=.ref p/\i=.int k/\H p=some (.lst xs)/\gq xs.length k=some j/\Q (upd H p (.lst (xs.set j v)))
theorem set_list:Hl X Ls :=by
 intro pins s σ H o i v ov iv u Q I ro ri rv h;obtain⟨p,xs,k,j,rfl,rfl,hp,hj,q⟩:=h;cases ro;obtain⟨t,rfl⟩:=ri;obtain⟨its,n,r,ho,hz⟩:=I.lst hp;obtain⟨h1,h2,h3,h4⟩:=qa hj;have hl:=r.length;have hn:=jQ;have I':Inv X pins σ (upd H p (.lst (xs.set j v))) {s with heap:=s.heap.update p (Da (·.setIfInBounds j u))}:=
  I.HX hp ho (xH its n j u) (r.set rv j) (by rw[OL];exact hz) s.toks
 by_cases h0:0<=k
 ·have hk:k.toNat=j :=by
   rw[seqIndex_of h0 h4]at h1;exact i4 h1
  exact PySem.W.ki_setAt ho h0 (by omega) (by rw[ci,<- hl];exact h4) (by rw[hk];exact⟨_,I',q⟩)
 ·have hk:(k+(its.toArray.size:Int)).toNat=j :=by
   rw[seqIndex_neg (by omega) h3]at h1
   rw[ci,<- hl];exact i4 h1
  exact PySem.W.ki_setBack ho (by omega) (by rw[ci,<- hl];exact h3) (by omega) (by rw[hk];exact⟨_,I',q⟩)
theorem td (lo hi:Option Int) (n:Nat):(sliceBounds lo hi none n).1=((HT.aP n 0 lo:Nat):Int)/\(sliceBounds lo hi none n).2.1=((HT.aP n n hi:Nat):Int)/\(sliceBounds lo hi none n).2.2=1 :=by
 refine⟨?_,?_,rfl⟩
 ·cases lo with
  |none=>simp[sliceBounds,HT.aP]
  |some i=>
   simp only[sliceBounds,HT.aP,Option.getD_none,show (1:Int) > 0 by decide,if_true]
   by_cases h:i<0
   ·simp only[h,if_true]<;>omega
   ·simp only[h,if_false]<;>omega
 ·cases hi with
  |none=>simp[sliceBounds,HT.aP]
  |some i=>
   simp only[sliceBounds,HT.aP,Option.getD_none,show (1:Int) > 0 by decide,if_true]
   by_cases h:i<0
   ·simp only[h,if_true]<;>omega
   ·simp only[h,if_false]<;>omega
theorem sd (its:List am) (lo hi:Option Int):slicePick its.toArray lo hi none=((its.drop (HT.aP its.length 0 lo)).take (HT.aP its.length its.length hi - HT.aP its.length 0 lo)).toArray :=by
 obtain⟨h1,h2,h3⟩:=td lo hi its.toArray.size;unfold slicePick;rw[h1,h2,h3];simp only[sliceRange_one,pick_run,ci]<;>rfl
def OI (K:bn):V->Option Int->Option Int->Hp->VK->Prop:=fun x lo hi H Q=>∃a xs,x=.ref a/\bG K H a xs/\∀p,H p=none->Q (.ref p) (upd H p (.lst (ix xs lo hi)))
theorem PF:zI X (OI X.K) :=by
 intro pins s σ H x v vl vu lo hi sl Q I rx hs pl pu h;obtain⟨a,xs,rfl,hx,q⟩:=h;cases rx;obtain⟨its,r,ht,hz⟩:=I.list hx;have hlen:=r.length;refine⟨"list",_,slot_list_getitem.lookup,ht.isList.typeIs,?_⟩
 refine wpAny_getItem_list_slice ht.isList hs pl pu .none (by simp) ?_ (by rw[ci]<;>omega)
 rw[sd,<- hlen];refine⟨.ref s.heap.objs.size,_,I.laid (t':=s.toks) (o:=.lst (ix xs lo hi)) (fun b ob q=>bi _ q) (bv _) ?_,rfl,q _ (I.hok.fresh (bv _))⟩
 exact⟨sw (nq xs lo hi) hz,_,0,(r.drop (HT.aP xs.length 0 lo)).take (HT.aP xs.length xs.length hi - HT.aP xs.length 0 lo),ff _ rfl⟩
theorem tj:bV X (.type "list") (fun xs H Q=>∃p ys,xs=[.ref p]/\(bG X.K H p ys\/bC X.K H p ys)/\∀l,H l=none->Q (.ref l) (upd H l (.lst ys))) :=by
 intro pins s σ H xs us Q I r h;obtain⟨p,ys,rfl,hq,q⟩:=h;obtain⟨u,rfl,rx⟩:=vals1 r;cases rx;have fin:∀(its:List am),Vals ys its->ys.length<=sizeLine->∀(h':i0) (c':Nat),(∀b o',s.heap.get? b=some o'->h'.get? b=some o')->
   h'.get? s.heap.objs.size=some {cls:=.type "list",dict:=none,data:=.seq its.toArray c',slots:=#[]}->EP X pins σ Q (.ref s.heap.objs.size) {s with heap:=h'}:=fun its r' hz h' c' kp e=>
  ⟨.ref s.heap.objs.size,_,I.laid (t':=s.toks) kp (bv _) (show bj X.prog X.w _ h' _ (.lst ys) from ⟨hz,its,c',r',e⟩),rfl,q _ (I.hok.fresh (bv _))⟩
 rcases hq with hq|hq
 ·obtain⟨its,r',pl,hz⟩:=I.list hq;have hlen:=r'.length;obtain⟨o,ho,hc,n,hd⟩:=pl.isList;exact call_list_seq p (.inl rfl) ho hc hd (fun h' c' kp e=>fin its r' hz h' c' kp e) (by simp only[ci]<;>omega)
 ·obtain⟨its,r',pl,hz⟩:=I.tuple hq;have hlen:=r'.length;obtain⟨o,ho,hc,n,hd⟩:=pl;exact call_list_seq p (.inr rfl) ho hc hd (fun h' c' kp e=>fin its r' hz h' c' kp e) (by simp only[ci]<;>omega)
theorem se:bV X (.type "tuple") (fun xs H Q=>∃p ys,xs=[.ref p]/\((bG X.K H p ys/\∀l,H l=none->Q (.ref l) (upd H l (.tup ys)))\/(bC X.K H p ys/\Q (.ref p) H))) :=by
 intro pins s σ H xs us Q I r h;obtain⟨p,ys,rfl,h⟩:=h;obtain⟨u,rfl,rx⟩:=vals1 r;cases rx;rcases h with ⟨hq,q⟩|⟨hq,q⟩
 ·obtain⟨its,r',pl,hz⟩:=I.list hq;have hlen:=r'.length;refine call_tuple_list pl.isList (fun h' kp=>?_) (by simp only[ci]<;>omega)
  have I1:Inv X pins σ H {s with heap:=h'}:=I.kept (t':=s.toks) kp
  have I2:Inv X pins σ (upd H h'.objs.size (.tup ys)) {s with heap:=h'.push {cls:=.type "tuple",data:=.seq its.toArray}}:=
   I1.laid (t':=s.toks) (fun b o e=>bi _ e) (bv _) (show bj X.prog X.w _ _ _ (.tup ys) from ⟨hz,its,r',gL.new _ _⟩)
  exact⟨.ref h'.objs.size,_,I2,rfl,q _ (I1.hok.fresh (bv _))⟩
 ·obtain⟨its,r',pl,hz⟩:=I.tuple hq;exact call_tuple_same pl ⟨.ref p,H,I,rfl,q⟩
def HY (K:bn) (T:String) (x:V) (H:Hp):Prop:=match x with
 | .str _=>T = "str"
 | .int _=>T = "int"
 | .ref p=>(T = "list" /\ ∃xs,bG K H p xs)\/(T = "tuple" /\ ((∃o,K.lookup p=some o/\o.cls=.type "tuple" /\ o.dict=none)\/∃xs,H p=some (.tup xs))) \/
   (T = "dict" /\ ((∃aF,H p=some (.dK aF))\/∃aF,H p=some (.dT aF)))\/(T = "set" /\ ∃S n,H p=some (.set S n))
 |_=>False
theorem HZ {pins:List (ap×l8)}{σ:St}{H:Hp}{s:ar}{T:String}{x:V}{v:am}(I:Inv X pins σ H s) (r:RelV x v) (ty:HY X.K T x H) :
  s.TypeIs v T/\∀a,v=.ref a->∃ob,s.heap.get? a=some ob/\ob.dict=none :=by
 cases x with
 |str z=>
  obtain⟨t,rfl⟩:=r;cases (show T = "str" from ty)
  exact⟨typeIs_str s z t,fun _ e=>nomatch e⟩
 |int i=>
  obtain⟨t,rfl⟩:=r;cases (show T = "int" from ty)
  exact⟨TX s i t,fun _ e=>nomatch e⟩
 |ref p=>
  cases r;rcases ty with ⟨rfl,xs,hq⟩|⟨rfl,⟨o,hk,hc,hd⟩|⟨xs,hk⟩⟩|⟨rfl,hk⟩|⟨rfl,S,n,hk⟩
  ·obtain⟨its,_,pl,_⟩:=I.list hq;refine⟨pl.isList.typeIs,fun a e=>?_⟩
   cases e;obtain⟨o,n,e,c,hd,_⟩:=pl;exact⟨o,e,hd⟩
  ·refine⟨⟨o,I.hU p o hk,hc⟩,fun a e=>?_⟩
   cases e;exact⟨o,I.hU _ o hk,hd⟩
  ·obtain⟨_,its,_,o,e,c,n,d,hd⟩:=I.hok p _ hk;refine⟨⟨o,e,c⟩,fun a e2=>?_⟩
   cases e2;exact⟨o,e,hd⟩
  ·have z:∃o,s.heap.get? p=some o/\o.ExactDict :=by
    rcases hk with ⟨aF,hk⟩|⟨aF,hk⟩
    ·obtain⟨_,_,_,_,o,_,_,e,ex,_⟩:=I.hok p _ hk;exact⟨o,e,ex⟩
    ·obtain⟨_,_,_,_,o,_,_,e,ex,_⟩:=I.hok p _ hk;exact⟨o,e,ex⟩
   obtain⟨o,e,ex⟩:=z;refine⟨⟨o,e,ex.1⟩,fun a e2=>?_⟩
   cases e2;exact⟨o,e,ex.2.1⟩
  ·obtain⟨o,_,_,_,e,ex,_⟩:=I.hok p _ hk;refine⟨⟨o,e,ex.1⟩,fun a e2=>?_⟩
   cases e2;exact⟨o,e,ex.2.1⟩
 |_=>exact On ty
def MS (K:bn) (T:String) (r:V->List V->Hp->VK->Prop) (to:TE) (t:TA):TE:=fun σ H Q=>to σ H fun x H1=>HY K T x H1/\t σ H1 fun xs H2=>r x xs H2 Q
variable {o e:gl}{es:List gl}{to:TE}{t:TA}{name:db}{apos aR:ze}{T id:String}{r:V->List V->Hp->VK->Prop}
theorem Lv (pa:PlainAttrs T) (slot:Slot T name id) (zL:typeOf (.builtin id)=pure (.type "method_descriptor")) (hm:zJ X id r) (ho:PE X o to) (ha:PA X (e::es) t)
  (iG:attributeBase o name X.env (eval o X.env)=eval o X.env :=by rfl)
  (kg:((backTo aR (starEach (e::es) X.env)).all (fun x => !x.1) && (backToKw aR (keywordEach [] X.env)).all (fun x=>x.1.isSome)
   && decide ((e::es).length+([]:List RS).length+(if ([]:List RS).isEmpty then 0 else 1)<30))=true :=by rfl)
  (hline:(apos.endLine==aR.line)=true :=by rfl) (hs:starEach (e::es) X.env=(false,eval e X.env)::starEach es X.env :=by rfl) (gr:(backTo aR (starEach es X.env)).any (·.1)=false :=by rfl) :
  PE X (.Call (.Attribute o name apos) (e::es) [] aR) (MS X.K T r to t) :=by
 refine⟨?_⟩;intro pins s σ H Q I h;refine wpAny_Call_method_late iG kg hline rfl (thn (ho pins s σ H _ I h) fun v s1 ⟨x,H1,I1,r1,ty,q1⟩=>?_)
 obtain⟨h1,h2⟩:=HZ I1 r1 ty;refine⟨T,id,pa,slot,zL,h1,h2,?_⟩;have hA:=ha aR pins s1 σ H1 _ I1 q1;rw[hs]at hA ⊢;refine Calls.callWith_builtin (by show (false || (backTo aR (starEach es X.env)).any (·.1))=false;rw[gr]<;>rfl) (Uz ?_)
 exact thn hA fun us s2 ⟨vs,H2,I2,r2,q2⟩=>hm pins s2 σ H2 x vs v us Q I2 r1 r2 q2
end
def Ee (X:Cx) (id:String) (r:V->List V->Hp->VK->Prop):Prop:=
 ∀(pins:List (ap×l8)) (s:ar) (σ:St) (H:Hp) (x:V) (xs:List V) (v:am) (us:List am) (Q:VK),Inv X pins σ H s->RelV x v->Vals xs us->r x xs H Q->
  wpAny (model X.prog X.w) X.A (call (.builtin id) (v::us)) (EP X pins σ Q) X.xe s
theorem Vals.one:∀{x:V}{us:List am},Vals [x] us->∃u,us=[u]/\RelV x u
 |_,_,.cons r .nil=>⟨_,rfl,r⟩
theorem Vals.eraseIdx:∀{xs:List V}{us:List am}(i:Nat),Vals xs us->Vals (xs.eraseIdx i) (us.eraseIdx i)
 |_,_,_,.nil=>.nil
 |_,_,0,.cons _ t=>t
 |_,_,i+1,.cons r t=>.cons r (Vals.eraseIdx i t)
theorem Vals.rep {xs:List V}{us:List am}(h:Vals xs us):∀k:Nat,Vals (lv k xs).flatten (lv k us).flatten
 |0=>.nil
 |k+1=>by
          rw[sB,sB,Nd,Nd];exact Vals.append h (Vals.rep h k)
theorem lB {α:Type}:∀(l:List α) (i:Nat),(l.eraseIdx i).length<=l.length
 | [],_=>bv _
 |_::_,0=>Fa _
 |_::r,i+1=>Nat.succ_le_succ (lB r i)
theorem foldl_rep (its:List am):∀(k:Nat) (acc:List am),
  Vl (fun x1 x2=>x1++x2) acc.toArray (lv k its.toArray)=(acc++(lv k its).flatten).toArray
 |0,acc=>by simp
 |k+1,acc=>by
          have e:acc.toArray++its.toArray=(acc++its).toArray :=by simp
          have e2:(acc++its)++(lv k its).flatten=acc++(lv (k+1) its).flatten :=by
           rw[sB,Nd,EM]
          rw[<- e2,<- foldl_rep its k (acc++its),<- e,sB,ON]
section
variable {X:Cx}{pins:List (ap×l8)}{σ:St}{H:Hp}{s:ar}{l b:ap}{xs ys zs:List V}
theorem Inv.xI {its its':List am}{n:Nat}{f:Array am->Array am}{t':Nat}(I:Inv X pins σ H s) (hH:H l=some (.lst xs))
  (e:s.heap.get? l=some {cls:=.type "list",data:=.seq its.toArray n}) (hf:f its.toArray=its'.toArray) (hv:Vals ys its') (hz:ys.length<=sizeLine) :
  Inv X pins σ (upd H l (.lst ys)) {s with heap:=s.heap.update l (Da f),toks:=t'}:=by
 have q:=PySem.IsL.update e f;rw[hf]at q;refine I.write (x:=l) (e:=l) (by rw[hH];exact trivial) (.inl rfl) (fun b' u hb hu=>(wb s.heap (Da f) (EO hb)).trans hu) ⟨_,q⟩ ?_
 exact⟨hz,its',_,hv,q⟩
theorem Inv.OJ {its:List am}{t':Nat}(I:Inv X pins σ H s) (hv:Vals ys its) (hz:ys.length<=sizeLine) :
  Inv X pins σ (upd H s.heap.objs.size (.lst ys)) {s with heap:=s.heap.push {cls:=.type "list",data:=.seq its.toArray},toks:=t'}:=
 I.laid (fun _ _ q=>bi _ q) (bv _) ⟨hz,its,0,hv,ff _ rfl⟩
theorem Inv.fresh (I:Inv X pins σ H s):H s.heap.objs.size=none:=I.hok.fresh (bv _)
theorem Inv.nL (I:Inv X pins σ H s) (hH:H l=some (.lst xs)):xs.length<=sizeLine/\∃(its:List am) (n:Nat),Vals xs its/\xs.length=its.length/\s.heap.get? l=some {cls:=.type "list",data:=.seq its.toArray n}:=by
 obtain⟨z,its,n,r,e⟩:=I.hok l _ hH;exact⟨z,its,n,r,r.length,e⟩
theorem tq {n:Nat}(h:n<=sizeLine):Sk n=false :=by
 unfold Sk;exact decide_eq_false (by omega)
end
section
variable {X:Cx}
def Fu:V->List V->Hp->VK->Prop:=fun x vs H Q=>∃l xs y,x=.ref l/\vs=[y]/\H l=some (.lst xs)/\xs.length<sizeLine/\Q .ai (upd H l (.lst (xs++[y])))
theorem qY:Ee X "list.append" Fu :=by
 intro pins s σ H x vs v us Q I rx rv h;obtain⟨l,xs,y,rfl,rfl,hH,hz,q⟩:=h;cases rx;obtain⟨u,rfl,ru⟩:=rv.one;obtain⟨z,its,n,r,hl,e⟩:=I.nL hH;refine SO F.slot_list_append ⟨_,e,rfl⟩ F.entry_list_append (F.args_list_append_2 _ _) (PySem.list_append l its.toArray n u (by rw[ci];omega)) ⟨e,?_⟩
 refine⟨.ai,_,I.xI (its':=its++[u]) hH e (by simp) (r.append (.cons ru .nil)) ?_,rfl,q⟩
 rw[rf,S5];omega
def Fv:V->List V->Hp->VK->Prop:=fun x vs H Q=>∃l b xs zs,x=.ref l/\vs=[.ref b]/\H l=some (.lst xs)/\H b=some (.lst zs)/\xs.length+zs.length<=sizeLine/\Q .ai (upd H l (.lst (xs++zs)))
theorem zM:Ee X "list.extend" Fv :=by
 intro pins s σ H x vs v us Q I rx rv h;obtain⟨l,b,xs,zs,rfl,rfl,hH,hB,hz,q⟩:=h;cases rx;obtain⟨u,rfl,ru⟩:=rv.one;cases ru;obtain⟨z,its,n,r,hl,e⟩:=I.nL hH;obtain⟨z2,b8,n2,r2,gu,e2⟩:=I.nL hB;have hsz:its.toArray.size+b8.toArray.size<=sizeLine :=by rw[ci,ci];omega
 have xJ:¬ (!its.toArray.isEmpty && Sk (its.toArray.size+b8.toArray.size))=true :=by
  rw[tq hsz,TY];exact hX
 refine SO F.slot_list_extend ⟨_,e,rfl⟩ F.entry_list_extend (F.args_list_extend_2 _ _)
  (AutoSeq1.list_extend_list_list_0 l its.toArray n b b8.toArray n2 xJ (by rw[ci];omega) (by omega)) ⟨e,e2,?_⟩
 refine⟨.ai,_,I.xI (its':=its++b8) hH e (by simp) (r.append r2) ?_,rfl,q⟩
 rw[rf];omega
def Ia:V->List V->Hp->VK->Prop:=fun x vs H Q=>∃l xs i k y,x=.ref l/\vs=[.int i]/\H l=some (.lst xs) /\ -(2 ^ 63)<=i/\i<2 ^ 63/\seqIndex? i xs.length=some k/\xs[k]?=some y/\Q y (upd H l (.lst (xs.eraseIdx k)))
theorem Cr:Ee X "list.pop" Ia :=by
 intro pins s σ H x vs v us Q I rx rv h;obtain⟨l,xs,i,k,y,rfl,rfl,hH,h1,h2,hk,hy,q⟩:=h;cases rx;obtain⟨u,rfl,ru⟩:=rv.one;obtain⟨t,rfl⟩:=ru;obtain⟨z,its,n,r,hl,e⟩:=I.nL hH;obtain⟨w,hw,zK⟩:=r.get hy;refine SO F.slot_list_pop ⟨_,e,rfl⟩ F.entry_list_pop (F.args_list_pop_2 _ _)
  (MeetsSeq.list_pop_at l its.toArray n i t k w (fitsIndex_both h1 h2) (by rw[ci,<- hl];exact hk) (by rw[<- OP];exact hw) (by rw[ci];omega)) ⟨e,?_⟩
 refine⟨y,_,I.xI (its':=its.eraseIdx k) hH e ?_ (r.eraseIdx k) ?_,zK,q⟩
 ·show its.toArray.eraseIdxIfInBounds k=(its.eraseIdx k).toArray;rw[List.eraseIdxIfInBounds_toArray]
 ·have:=lB xs k;omega
def OO:R2:=fun x y H Q=>∃l k xs,x=.ref l/\y=.int k/\H l=some (.lst xs) /\ -(2 ^ 63)<=k/\k<2 ^ 63/\xs.length * k.toNat<=sizeLine /\
 ∀p,H p=none->Q (.ref p) (upd H p (.lst (lv k.toNat xs).flatten))
theorem len_rep {α:Type}(xs:List α) (k:Nat):(lv k xs).flatten.length=k * xs.length :=by
 induction k with
 |zero=>simp
 |succ k ih=>rw[sB,Nd,rf,ih,UA,TM]
theorem Ib:OpR X (binaryOp .Mult) OO :=by
 intro pins s σ H x y v u Q I rx ry h;obtain⟨l,k,xs,rfl,rfl,hH,h1,h2,hz,q⟩:=h;cases rx;obtain⟨t,rfl⟩:=ry;obtain⟨z,its,n,r,hl,e⟩:=I.nL hH;have hlen:its.toArray.size * k.toNat<=sizeLine :=by rw[ci,<- hl];exact hz
 have OQ:¬ its.toArray.size * k.toNat > (2 ^ 63 - 1) / 8 :=by
  have:(sizeLine:Nat)<=(2 ^ 63 - 1) / 8 :=by decide
  omega
 have OS:¬ (!Builtin.List.listFitsIndex k)=true :=by
  rw[fitsIndex_both h1 h2];exact hX
 have xJ:¬ Sk (its.toArray.size * k.toNat)=true :=by
  rw[tq hlen];exact hX
 have OT:Vl (fun x1 x2=>x1++x2) #[] (lv (if its.toArray.isEmpty=true then 0 else k.toNat) its.toArray)=(lv k.toNat its).flatten.toArray :=by
  have f0:∀m:Nat,Vl (fun x1 x2=>x1++x2) #[] (lv m its.toArray)=(lv m its).flatten.toArray:=fun m=>by
   have:=foldl_rep its m [];rw[IT]at this;exact this
  rw[f0];cases its with
  |nil=>simp
  |cons a r'=>rw[if_neg (by simp)]
 refine wpAny_binaryOp_repeat_ref (T := "list") (U := "int") (by decide) ⟨_,e,rfl⟩ (fun s'=>TX s' k t) noFill_list_mul F.fills_int_mul UB repeat_list F.slot_int_index.lookup
  (SO UB (TX s k t) F.entry_int_rmul (F.args_int_rmul_2 _ _) (int___rmul___int_list k t l its.toArray n)
   ⟨e,rfl,⟨_,e,rfl⟩,SO F.slot_list_mul ⟨_,e,rfl⟩ F.entry_list_mul (F.args_list_mul_2 _ _) (AutoListH.list___mul___list_int_3 l its.toArray n k t OS OQ xJ) ⟨e,?_⟩⟩)
 rw[OT];exact⟨.ref _,_,I.OJ (t':=s.toks) (r.rep k.toNat) (by rw[len_rep,TN];exact hz),rfl,q _ I.fresh⟩
end
end L2
namespace MT
open PySem PySem.W PySem.Calls PyProof.Rows
theorem oR {P:VO}{h:i0}:∀(ns:List Int) (vs:List am),WellAll P h vs (ns.map WData.int)->OR vs ns :=by
 intro ns;induction ns with
 |nil=>
  intro vs w;rw[TQ]at w;cases w;exact .nil
 |cons n ns ih=>
  intro vs w;rw[xy]at w;cases w with
  |cons a b=>
   cases a;exact .cons _ _ (ih _ b)
theorem zN {l:OpenLaw}{n:Nat}(hn:l.most=some n) {P:VO}{h:i0}{args:List WData}{vals:List am}
  (xK:l.row.toRowW.claim.pre args=true) (Ic:WellAll P h vals args) :
  ∃a vs ns,vals=[ul a]/\args=[WData.list (ns.map WData.int)]/\h.get? a=some {cls:=.type "list",data:=.seq vs.toArray}/\OR vs ns/\ns.length<=n :=by
 have PZ:WShape.hasAll [] args [.list .int]=true:=(pre_splitW xK).1;have hc:l.pre.holds [] {args:=args}=true:=(pre_splitW xK).2;obtain⟨d,r,rfl,h1,h2⟩:=hasAllW_cons PZ;obtain rfl:=hasAllW_nil h2;obtain⟨xs,rfl,h3⟩:=hasW_list h1;obtain⟨ns,rfl⟩:=items_int h3;have hlen:ns.length<=n :=by
  unfold OpenLaw.pre at hc;have h4:(WTm.not (.lt (.lit (.int (n:Int))) (.len (.arg 0)))).holds [] {args:=[.list (ns.map .int)]}=true :=by
   have h4:=(holds_andW hc).1;rw[hn]at h4;exact h4
  have h5:=condW_of h4 (w_not (w_lt w_lit (w_len_list (w_arg rfl))));rw[cb]at h5;refine Tj fun q=>?_
  have q':(n:Int)<((ns.length:Nat):Int) :=by omega
  first
   |(rw[decide_eq_true q']at h5;exact absurd h5 (by decide))
   |(simp at h5;omega)
 cases Ic with
 |cons w1 w2=>
  cases w2;cases w1 with
  |list ho gN=>exact⟨_,_,ns,rfl,rfl,ho,oR ns _ gN,hlen⟩
theorem zO (l:OpenLaw) (args:List WData):l.row.toRowW.claim.post args (.bool true) args=true:=
 postW_of (r:=l.row.toRowW) (X:=(true==true))
  (show WShape.has [] (.bool true) .bool=true by first|rfl|decide|simp[WShape.has,WShape.arms,WShape.armsAll])
  (show (WTm.eq .res (.lit (.bool true))).value [] {args:=args,res:=some (.bool true),after:=args}=some (.bool (true==true)) from w_eq_bool (w_res rfl) w_lit) rfl
theorem vv {l:OpenLaw}{n:Nat}{q:ii}{loose:List db}{XP:(db->Option am)->i0->Prop}{YP:ij->i0->Prop}{d:DefRec}
  (hn:l.most=some n) (zP:d.params.defaults=[])
  (call:∀(w:ij) (s₀ av:ar) (mg mb:db->Option am) (fa:ap) (o:l8) (pm cd doc:am) (a:ap) (vs:List am) (ns:List Int),
   Ground q loose [] XP w s₀ mg mb av.heap->YP w av.heap->
   av.heap.get? fa=some o->o.data=.func (docDef d.name d.params d.body d.scope pm cd doc)->av.heap.CodeRec cd d.name->mg d.name=some (.ref fa)->
   av.heap.get? a=some {cls:=.type "list",data:=.seq vs.toArray}->OR vs ns->ns.length<=n->av.gens=#[]->
   codeAny (model l.prog w) callerA (.call (.ref fa) ⟨[.ref a],[]⟩) (fun r s'=>r=.ok (.ret (.bool true))/\OldK av.heap s'.heap/\s'.os=av.os/\VJ s'.gens) av) :
  WalkO q loose XP YP l.row.toRowW d [] (fun f vs=>VM f vs) :=by
 intro w s₀ av mg mb G Y fa o pm cd doc dV kV ho hd hZ hD zQ hg args vals as xK RQ RZ Ic R1;obtain rfl:dV=.none:=Dflts.none hD zP;obtain rfl:kV=.none:=Dflts.noKw hD;obtain⟨a,vs,ns,rfl,rfl,Ct,hints,hlen⟩:=zN hn xK Ic;refine enter_call (S2 (call w s₀ av mg mb fa o pm cd doc a vs ns G Y ho (fd_plain hd) hZ zQ Ct hints hlen hg) fun r s' hq=>?_)
 obtain⟨rfl,h2,h3,h4⟩:=hq;exact⟨.inl ⟨.bool true,.bool true,[],rfl,fun _=>rfl,.bool true,zO l _,fun _=>⟨Tp.nil,fun _ hm=>(nomatch hm)⟩⟩,h2,h3,h4⟩
end MT
namespace L2
open PySem PySem.Spec PyProof.Rows
theorem qZ:∀{vs:List am}{ns:List Int},OR vs ns->Vals (ns.map V.int) vs
 |_,_,.nil=>.nil
 |_,_,.cons n t h=>.cons ⟨t,rfl⟩ (qZ h)
def gb (s:wp):Arguments:=match s with
 | .FunctionDef _ a _ _ _ _ _ _ _ _=>a
 |_=>{posonlyargs:=[],args:=[],vararg:=none,kwonlyargs:=[],kw_defaults:=[],kwarg:=none,defaults:=[]}
def dq (s:wp):List wp:=match s with
 | .FunctionDef _ _ b _ _ _ _ _ _ _=>b
 |_=>[]
def au (s:wp):ET:=match s with
 | .FunctionDef _ _ _ _ _ _ sc _ _ _=>sc
 |_=>{kind:=.function,names:=[],isGenerator:=false,isCoroutine:=false}
abbrev bF:jR:=fun _ _ _ _ _ _=>False
abbrev E0:XK:=fun _ _ _=>False
theorem bE {X:Cx}:Passes bF X E0:=fun _ _ _ _ _ _ _ h=>h.elim
structure q9 (K:bn) (x qual:db) (st:wp) (f:ap) (fd:rc):Prop where
 ex:∃(oc:am) (od:Option ap) (kV doc pm:am) (an:Option ap) (dE ct:am) (jv:Array (Option am)),
  fd=KB x qual (gb st) (dq st) (au st) .none kV doc pm an dE ct/\K.lookup f=some ⟨oc,od,.func fd,jv⟩/\TW K dE qual=true
 kp:S3 K (.ref f)=true
section
variable {P:ii}{w:ij}{K:bn}{mg:db->Option am}{base:i0}
theorem q9.binds {x qual:db}{st:wp}{f:ap}{fd:rc}{ps:List db}(F:q9 K x qual st f fd)
  (h:∀(kV doc pm:am) (an:Option ap) (dE ct:am) (us:List am),us.length=ps.length->bindArgs (KB x qual (gb st) (dq st) (au st) .none kV doc pm an dE ct) ⟨us,[]⟩=pure (ps.zip us)):Binds K fd ps [] :=by
 obtain⟨oc,od,kV,doc,pm,an,dE,ct,jv,rfl,lk,hZ⟩:=F.ex;exact .all (h kV doc pm an dE ct)
theorem Ie {x qual:db}{st:wp}{f:ap}{oc:am}{od an:Option ap}{jv:Array (Option am)}{kV doc pm dE ct:am}(l:K.lookup f=some ⟨oc,od,.func (KB x qual (gb st) (dq st) (au st) .none kV doc pm an dE ct),jv⟩)
  (c:TW K dE qual=true) (k:S3 K (.ref f)=true):q9 K x qual st f (KB x qual (gb st) (dq st) (au st) .none kV doc pm an dE ct):=⟨⟨oc,od,kV,doc,pm,an,dE,ct,jv,rfl,l,c⟩,k⟩
end
end L2
set_option maxHeartbeats 4000000
namespace L2
open PySem PySem.Spec PyProof.Rows
theorem kh {env:SM}:∀(names:List (db×SW)) (acc:List (db×ap)),(∀n,(n,Gc)∈names->∃c,env.cells.lookup n=some c)->
  (∀n c,acc.lookup n=some c->env.cells.lookup n=some c)->
  ∃cl,(forIn names acc fun x r=>if (x.2==Gc)=true then (do let a <- cellOf env x.1;pure (UC ((x.1,a)::r))) else pure (UC r):TH (List (db×ap)))=pure cl /\
   (∀n c,cl.lookup n=some c->env.cells.lookup n=some c)/\(∀n,(n,Gc)∈names->∃c,cl.lookup n=some c)/\(∀n c,acc.lookup n=some c->∃c',cl.lookup n=some c')
 | [],acc,_,h2=>⟨acc,rfl,h2,fun n h=>by simp at h,fun n c h=>⟨c,h⟩⟩
 |(n,k)::r,acc,h1,h2=>by
          rw[List.forIn_cons];cases hk:(k==Gc) with
          |true=>
           have ek:k=Gc :=by simpa using hk
           subst ek;obtain⟨c,hc⟩:=h1 n i1;have e1:cellOf env n=pure c :=by unfold cellOf;rw[hc]
           obtain⟨cl,e,a1,a2,a3⟩:=kh r ((n,c)::acc) (fun m hm=>h1 m (dL _ hm)) (fun m c' hm=>by
            rw[Sm]at hm;cases hb:m==n with
            |true=>
             rw[hb]at hm;have e2:m=n :=by simpa using hb
             rw[e2,hc];exact hm
            |false=>rw[hb]at hm;exact h2 m c' hm)
           refine⟨cl,?_,a1,fun m hm=>?_,fun m c' hm=>?_⟩
           ·simp only[if_true,e1];exact e
           ·rcases li.mp hm with z|z
            ·cases z;exact a3 n c (by rw[Sm];simp)
            ·exact a2 m z
           ·by_cases hb:m=n
            ·subst hb;exact a3 m c (by rw[Sm];simp)
            ·exact a3 m c' (by
              rw[Sm];have:(m==n)=false :=by simpa using hb
              rw[this];exact hm)
          |false=>
           obtain⟨cl,e,a1,a2,a3⟩:=kh r acc (fun m hm=>h1 m (dL _ hm)) h2
           refine⟨cl,?_,a1,fun m hm=>?_,a3⟩
           ·simp only[c8,if_false];exact e
           ·rcases li.mp hm with z|z
            ·cases z;simp at hk
            ·exact a2 m z
theorem ki {scope:ET}{env:SM}(h:∀n,(n,Gc)∈scope.names->∃c,env.cells.lookup n=some c) :
  ∃cl,closureFor scope env=pure cl/\(∀n c,cl.lookup n=some c->env.cells.lookup n=some c)/\(∀n,(n,Gc)∈scope.names->∃c,cl.lookup n=some c) :=by
 obtain⟨cl,e,a1,a2,_⟩:=kh (env:=env) scope.names [] h (fun n c hn=>by simp at hn)
 refine⟨cl,?_,a1,a2⟩;simp only[closureFor];rw[e];rfl
def cxBlock (X:Cx) (N':List db) (env':SM) (A':mf) (stack':List SM) (s:ar) (H:Hp) (ex:List ap):Cx:=
 {X with N:=N',s₀:=s,H₀:=H,env:=env',A:=A',outer:=X.stack,stack:=stack',ex:=ex,fn:=fun _=>false,pn:=[],xe:=fun _ _=>False}
theorem rg {X:Cx}{pins:List (ap×l8)}{σ aG:St}{H H':Hp}{s:ar}{N':List db}{env':SM}{A':mf}{stack':List SM}{ex:List ap}{h1:i0}{m0:db->Option am}{g':Array Tf}{tk:Nat}
  (I:Inv X pins σ H s) (sy:env'.scope.kind=.function) (Lw:env'.globals=X.env.globals) (OU:env'.builtins=X.env.builtins)
  (eL:∀n c,env'.cells.lookup n=some c->X.env.cells.lookup n=some c)
  (Ig:∀x,(env'.kindOf x=some .cell\/env'.kindOf x=some .free)->∃c,env'.cells.lookup x=some c)
  (hh:X.calm=true->A'.handled=none) (tu:A'.frames=some stack') (OV:stack'=X.stack\/(stack'=env'::X.stack/\env'.frame=some env'.locals))
  (hC:s.heap.objs.size<=env'.locals) (hf:∀b∈ex,dI X pins H b) (OW:∀b∈ex,b<s.heap.objs.size)
  (MU:Un (fD X.stack) ex H H' s.heap h1) (hok:dH X.prog X.w H' h1) (Ih:H' env'.locals=none) (Ef:∀b o,s.heap.get? b=some o->h1.get? b=some o) (jx:h1.Ns env'.locals m0)
  (Ii:∀(i:Nat) (x:db) (v:V),N'[i]?=some x->aG[i]?=some (some v)->sP env'.scope x->(env'.kindOf x=some .cell\/env'.kindOf x=some .free)/\sP X.env.scope x/\(X.env.kindOf x=some .cell\/X.env.kindOf x=some .free)/\∃j:Nat,X.N[j]?=some x/\σ[j]?=some (some v))
  (hlen:aG.length=N'.length) (hg:Gn s.gens.size g'):Inv (cxBlock X N' env' A' stack' s H ex) [] aG H' {s with heap:=h1,gens:=g',toks:=tk}:=by
 have MV:∀b∈ex,∀x c,X.env.cells.lookup x=some c->c≠b:=fun b hb=>(hf b hb).2.2.2.2.1
 refine⟨⟨I.ok.mod,sy,Lw.trans I.ok.glob,OU.trans I.ok.blt,hC,fun x y c a b=>I.ok.inj x y c (eL x c a) (eL y c b),Ig,fun _ _ z=>(nomatch z),hh,tu,OV,fun b hb=>⟨kw (mo (OW b hb) hC),fun x c e=>MV b hb x c (eL x c e)⟩,
   I.bs,sw I.ok.bsz I.sz,fun b o e hb=>?_,fun b hb z=>?_,I.stack,I.pY⟩,rfl,hg,MU,⟨m0,jx,fun i x v e1 e2 e3=>?_⟩,fun x c e=>?_,Ih,fun x c e=>?_,fun p hp=>absurd (show p∈([]:List (ap×l8)) from hp) (by simp),hok,hlen⟩
 ·rcases (hf b hb).2.2.2.1 with z|z
  ·exact I.ok.noex b o e z
  ·exact absurd (mo (gc e) (sw I.ok.bsz z)) (NE _)
 ·rcases li.mp (I.iU b z) with q|q
  ·exact(hf b hb).2.1 q
  ·exact(hf b hb).2.2.1 q
 ·obtain⟨k1,vx,k2,j,n1,n2⟩:=Ii i x v e1 e2 e3;obtain⟨m,hn,hl⟩:=I.loc;obtain⟨u,r,l⟩:=hl j x v n1 n2 vx;refine⟨u,r,.inr ⟨k1,?_⟩⟩;obtain⟨c',MX⟩:=Ig x k1;rcases l with ⟨kl,_⟩|⟨_,c,ec,z⟩
  ·rcases k2 with q|q<;>(rw[kl]at q;cases q)
  ·have:c'=c:=i4 ((eL x c' MX).symm.trans ec);subst this;exact⟨c',MX,z.keeps Ef⟩
 ·obtain⟨v,z⟩:=I.cell x c (eL x c e);exact⟨v,z.keeps Ef⟩
 ·obtain⟨v,o,ho,hd⟩:=I.cell x c (eL x c e);exact MU.free c o ho (I.freeC x c (eL x c e)) fun z=>MV c z x c (eL x c e) rfl
theorem lookup_map2 {c:db->SW->SW}:∀{names:List (db×SW)}{x:db},(names.map fun (p:db×SW)=>(p.1,c p.1 p.2)).lookup x=(names.lookup x).map (c x)
 | [],x=>rfl
 |(n,k')::r,x=>by
          have ih:=@lookup_map2 c r x;rw[xy,Sm,Sm];cases hx:x==n with
          |true=>
           have e:x=n :=by simpa using hx
           subst e;rfl
          |false=>exact ih
theorem lC {scope:ET}{env:SM}(x:db):(relabel scope env).names.lookup x=(scope.names.lookup x).map fun k=>if (k==.free && env.scope.kind==.function && env.kindOf x==some .cell)=true then .cell else k :=by
 have e:(relabel scope env).names=scope.names.map fun p=>(p.1,(fun n k=>if (k==Gc && env.scope.kind==.function && env.kindOf n==some .cell)=true then SW.cell else k) p.1 p.2) :=by
  unfold relabel;dsimp only;congr 1
  funext p
  obtain⟨n,k⟩:=p;dsimp only;split<;>rfl
 rw[e];exact lookup_map2 (c:=fun n k=>if (k==Gc && env.scope.kind==.function && env.kindOf n==some .cell)=true then SW.cell else k)
def aT (N:List db) (sc scope:ET) (N':List db) (tn:Nat) (idx:List Nat):Prop:=
 scope.kind=.function/\(∀y∈scope.names,y.2≠.cell/\(y.2=.local->scope.names.lookup y.1=some .local)/\(y.2=.free->sc.names.lookup y.1=some .cell\/sc.names.lookup y.1=some .free)) /\
  N'.length=tn+idx.length/\∀p∈idx.zip (N'.drop tn),N[p.1]?=some p.2/\scope.names.lookup p.2=some .free
instance (N:List db) (sc scope:ET) (N':List db) (tn:Nat) (idx:List Nat):Decidable (aT N sc scope N' tn idx) :=by unfold aT;infer_instance
def cI (tn:Nat) (idx:List Nat) (σ:St):St:=lv tn none++idx.map fun i=>(σ[i]?).join
theorem aT.at {N:List db}{sc scope:ET}{N':List db}{tn:Nat}{idx:List Nat}(B:aT N sc scope N' tn idx) {σ:St}{i:Nat}{x:db}{v:V}(h1:N'[i]?=some x) (h2:(cI tn idx σ)[i]?=some (some v)) :
  scope.names.lookup x=some .free/\∃j:Nat,N[j]?=some x/\σ[j]?=some (some v) :=by
 obtain⟨_,_,b3,b4⟩:=B;unfold cI at h2;by_cases hi:i<tn
 ·rw[Tz (by simpa using hi),SJ,if_pos hi]at h2
  cases h2
 ·rw[List.getElem?_append_right (by simpa using hi),S4,cr]at h2
  cases e:idx[i - tn]? with
  |none=>rw[e]at h2;cases h2
  |some k=>
   rw[e]at h2;have h3:(σ[k]?).join=some v:=i4 h2;have e2:(N'.drop tn)[i - tn]?=some x :=by
    rw[List.getElem?_drop];have:tn+(i - tn)=i :=by omega
    rw[this];exact h1
   have m:(k,x)∈idx.zip (N'.drop tn) :=by
    refine im (i:=i - tn) ?_;rw[xp];exact⟨e,e2⟩
   obtain⟨a,b⟩:=b4 _ m;refine⟨b,k,a,?_⟩;cases q:σ[k]? with
   |none=>rw[q]at h3;cases h3
   |some w=>rw[q]at h3;exact congrArg some h3
theorem aT.len {N:List db}{sc scope:ET}{N':List db}{tn:Nat}{idx:List Nat}(B:aT N sc scope N' tn idx) (σ:St):(cI tn idx σ).length=N'.length :=by
 rw[B.2.2.1];unfold cI;simp
section
variable {X:Cx}
def jT (X:Cx) (ifs:List gl) (tt:TT):Prop:=
 ∀(pins:List (ap×l8)) (s:ar) (σ:St) (H:Hp) (Q:Bool->Hp->Prop),Inv X pins σ H s->tt σ H Q->
  wpAny (model X.prog X.w) X.A (forIn ifs true fun c r=>if r=true then do let ok <- isTrue c X.env (eval c X.env);pure (UC ok) else pure (UC r)) (TP X pins σ Q) X.xe s
def Lx:TT:=fun _ H Q=>Q true H
theorem Fw:jT X [] Lx:=fun _ _ _ H _ I h=>wpAny_tests_nil ⟨H,I,h⟩
theorem Fx {c:gl}{tc:TT}(h:PT X c tc):jT X [c] tc:=fun pins s σ H Q I q=>wpAny_tests_one (h pins s σ H Q I q)
abbrev zR (X:Cx) (N':List db) (scope:ET) (cl:List (db×ap)) (C:ap) (s:ar) (H:Hp) (fp:List ap):Cx:=cxBlock X N' (compEnvC scope cl C X.env) X.A X.stack s H fp
abbrev Blk (X:Cx) (N':List db) (scope:ET) (P:Cx->Prop):Prop:=∀(cl:List (db×ap)) (C:ap) (s:ar) (H:Hp) (fp:List ap),P (zR X N' scope cl C s H fp)
end
abbrev TB:=St->Hp->(St->Hp->Prop)->Prop
def PB (X:Cx) (b:TH Unit) (t:TB):Prop:=∀(pins:List (ap×l8)) (s:ar) (σ:St) (H:Hp) (Q:St->Hp->Prop),Inv X pins σ H s->t σ H Q->wpAny (model X.prog X.w) X.A b (fun _ s'=>∃aG H',Inv X pins aG H' s'/\Q aG H') X.xe s
def xM (J:It) (g:TG) (tt:TT) (tb:TB) (QE:St->Hp->Prop) (W:Nat->Nat->St->Hp->Prop):Prop:=∀i m τ H,W i m τ H->
 (J.stop i H/\QE τ H)\/(J.go i H/\∀x H',J.yld i H x H'->g x τ H' fun aA H2=>tt aA H2 fun b H3=>if b=true then tb aA H3 fun P0 H4=>∃m',m'<m/\W (i+1) m' P0 H4 else ∃m',m'<m/\W (i+1) m' aA H3)
def xN (e tg iter:gl) (ifs:List gl) (d:Nat) (it acc:am) (env:SM) (body:TH Unit):TH Fin:=do
 standAt iter.pos
 match <- pyNext it with
 |none=>pure (.done .next)
 |some v=>
  letOwnedTupleGo tg it v
  assign tg env v
  let mut ok:=true
  for c in ifs do
   if ok then ok <- isTrue c env (eval c env)
  if ok then body
  again (.compLoop e d it acc env)
section
variable {Y:Cx}{e tg iter:gl}{ifs:List gl}{dp:Nat}{it:ap}{acc:am}{body:TH Unit}{fp:List ap}{cT:Nat->i0->Prop}{J:It}{g:TG}{tt:TT}{tb:TB}{QE:St->Hp->Prop}{W:Nat->Nat->St->Hp->Prop}{R:VR->ar->Prop}{pins:List (ap×l8)}{τ:St}{H:Hp}{s:ar}{m0:Nat}
structure Cu (Y:Cx) (e tg iter:gl) (ifs:List gl) (dp:Nat) (acc:am) (body:TH Unit):Prop where
 q:∀it,(Code.compLoop e dp it acc Y.env).quiet=true
 den:∀it Q E s,wpAny (model Y.prog Y.w) Y.A ((compTurn e dp it acc Y.env).onRaise (fun x=>do noteFrame x Y.env;theTreesLotGoes x)) Q E s->wpAny (model Y.prog Y.w) (Y.A.under (.compLoop e dp it acc Y.env)) ((model Y.prog Y.w).den (.compLoop e dp it acc Y.env)) Q E s
 turn:∀it,compTurn e dp it acc Y.env=xN e tg iter ifs dp it acc Y.env body
 denS:∀it Q E s,wpAny (model Y.prog Y.w) Y.A ((compStart e dp it acc Y.env).onRaise (fun x=>do noteFrame x Y.env;standAt theWindowsPlace)) Q E s->wpAny (model Y.prog Y.w) (Y.A.under (.compStart e dp it acc Y.env)) ((model Y.prog Y.w).den (.compStart e dp it acc Y.env)) Q E s
 cl:(clausesOf e)[dp]?=some ⟨tg,iter,ifs,0⟩
theorem zS (hc:Y.calm=true) (tv:∀x s,Y.xe x s->False) (C:Cu Y e tg iter ifs dp acc body) (hg:PG Y tg g) (ht:jT Y ifs tt) (hb:PB Y body tb) (T:Turn Y.prog Y.w Y.K tg J fp it cT) (turn:xM J g tt tb QE W)
  (I:Inv Y pins τ H s) (st:cT 0 s.heap) (f:∀b∈fp,dI Y pins H b) (w0:W 0 m0 τ H) (hR:∀cc H' s',Inv Y pins cc H' s'->QE cc H'->R (.ok .next) s') :
  codeAny (model Y.prog Y.w) Y.A (.compLoop e dp (.ref it) acc Y.env) R s :=by
 have stat:∀{H':Hp},(∀b∈fp,H' b=none)->∀b∈fp,dI Y pins H' b:=fun hn b hb=>⟨hn b hb,(f b hb).2⟩
 refine codeAny_loop (C.q _) (fun n s'=>∃i τ H',Inv Y pins τ H' s'/\cT i s'.heap/\(∀b∈fp,H' b=none)/\W i n τ H') (fun n s hI=>?_) m0 ⟨0,τ,H,I,st,fun b hb=>(f b hb).1,w0⟩
 refine C.den _ _ _ _ (wpAny_noted ?_);rw[C.turn];unfold xN;obtain⟨i,τ,H3,I3,qQ,zo,w3⟩:=hI;rcases turn i n τ H3 w3 with ⟨stop,qn⟩|⟨go,step⟩
 ·refine ac (Lo (ac (tw (T.done Y rfl rfl rfl hc i pins s τ H3 (fun _ _=>False) I3 (stat zo) qQ stop) (fun r s4 ⟨hr,I4⟩=>?_) fun _ _ z=>z.elim)))
  subst hr;exact ba (hR _ _ _ I4 qn)
 ·refine ac (Lo (ac (tw (T.item Y rfl rfl rfl hc i pins s τ H3 (fun _ _=>False) I3 (stat zo) qQ go) (fun r s4 ⟨u,hr,h4⟩=>?_) fun _ _ z=>z.elim)))
  subst hr;refine ac (tw h4 (fun _ s5 ⟨x,H5,I5,r5,y5,lu,zp⟩=>?_) fun _ _ z=>z.elim)
  have zq:=I5.pinned (stat zp) (T.obj _ _ lu);have again:∀{tD:St} {H7:Hp} {s7:ar},Inv Y (pins++jP fp s5.heap) tD H7 s7->(∃m',m'<n/\W (i+1) m' tD H7)->
    ∃m,m<n/\∃i τ H',Inv Y pins τ H' s7/\cT i s7.heap/\(∀b∈fp,H' b=none)/\W i m τ H':=fun {tD H7 s7} I7 n7=>by
   obtain⟨m',hm,w7⟩:=n7;refine⟨m',hm,i+1,tD,H7,I7.fP,T.keep _ _ _ lu fun b hb o e=>(I7.pin (b,o) (l9 _ (l9 _ (fc hb e)))).1,fun b hb=>?_,w7⟩
   obtain⟨o,e,d⟩:=T.obj _ _ lu b hb;exact(I7.pin (b,o) (l9 _ (l9 _ (fc hb e)))).2.1
  refine ac (tw (hg _ s5 τ H5 x u _ zq r5 (step x H5 y5)) (fun _ s6 ⟨rh,H6,I6,q6⟩=>?_) fun _ _ z=>(tv _ _ z).elim)
  refine ac (tw (ht _ s6 rh H6 _ I6 q6) (fun ok s7 ⟨H7,I7,q7⟩=>?_) fun _ _ z=>(tv _ _ z).elim)
  cases ok with
  |false=>exact ba ⟨rfl,again I7 q7⟩
  |true=>
   refine ac (tw (hb _ s7 rh H7 _ I7 q7) (fun _ s8 ⟨R3,H8,I8,q8⟩=>?_) fun _ _ z=>(tv _ _ z).elim)
   exact ba ⟨rfl,again I8 q8⟩
theorem xO (C:Cu Y e tg iter ifs dp acc body) (T:Turn Y.prog Y.w Y.K tg J fp it cT) (st:cT 0 s.heap)
  (h:codeAny (model Y.prog Y.w) Y.A (.compLoop e dp (.ref it) acc Y.env) R s):codeAny (model Y.prog Y.w) Y.A (.compStart e dp (.ref it) acc Y.env) R s :=by
 refine SQ (C.denS _ _ _ _ (wpAny_notedAt ?_));unfold compStart;rw[C.cl];show wpAny _ _ (ask>>=_) _ _ s;refine ac (So (wpAny_ite ?_));split
 ·first
   |exact ac (ba (ba (VS rfl h)))
   |exact ba (VS rfl h)
 ·have h2:wpAny (model Y.prog Y.w) Y.A (pyIter (.ref it)) (fun zT s'=>codeAny (model Y.prog Y.w) Y.A (.compLoop e dp zT acc Y.env) R s') (notedBy (model Y.prog Y.w) Y.A Y.env fun x s'=>R (.error x) s') s:=T.self _ 0 _ _ _ st h
  first
   |exact ac (FS (ac (Lo (ac (tw h2 (fun zT s' h'=>ba (VS (C.q zT) h')) fun _ _ x=>x)))))
   |(refine ac (FS ?_);show wpAny _ _ (standAt iter.pos>>=_) _ _ s;exact ac (Lo (ac (tw h2 (fun zT s' h'=>ba (VS (C.q zT) h')) fun _ _ x=>x))))
end
section
variable {Y:Cx}
def tE (D:ap) (te:TE):TB:=fun τ H Q=>te τ H fun y H4=>∃ys,H4 D=some (.lst ys)/\ys.length<sizeLine/\Q τ (upd H4 D (.lst (ys++[y])))
theorem Fy {elt:gl}{te:TE}{D:ap}(h:PE Y elt te):PB Y (do let _ <- call (.builtin "list.append") [.ref D,<- eval elt Y.env]) (tE D te) :=by
 intro pins s τ H Q I q;refine ac (tw (h pins s τ H _ I q) (fun yv s8 ⟨y,H8,I8,r8,q8⟩=>?_) fun _ _ z=>z)
 obtain⟨ys,hD,hsz,w8⟩:=q8;refine ac (tw (qY (X:=Y) _ s8 τ H8 (.ref D) [y] (.ref D) [yv] (fun v H9=>v=.ai/\H9=upd H8 D (.lst (ys++[y]))) I8 rfl (.cons r8 .nil) ⟨_,ys,y,rfl,rfl,hD,hsz,rfl,rfl⟩) (fun rv s9 ⟨v9,H9,I9,_,_,e9⟩=>?_) fun _ _ z=>z)
 subst e9;exact ba ⟨τ,_,I9,w8⟩
end
section
variable {X:Cx}
theorem compG_core {pins:List (ap×l8)}{σ:St}{H2:Hp}{s2:ar}{e tg iter:gl}{ifs:List gl}{scope:ET}{N':List db}{tn:Nat}{idx:List Nat}{g:TG}{tt:TT}{tb:ap->TB}{body:am->SM->TH Unit}{it:ap}{fp:List ap}{cT:Nat->i0->Prop}{J:It}
  {cl:List (db×ap)} {E:am->ar->Prop} {RR:am->ap->VR->ar->Prop} {Q:VK} {mk:TH am} {O0:HO} {o0:l8}
  (P1:∀(Q:am->ar->Prop),Q (.ref s2.heap.objs.size) {s2 with heap:=s2.heap.push o0}->wpAny (model X.prog X.w) X.A mk Q E s2) (tu:o0.isFreed=false)
  (nu:∀(H:Hp) (h1:i0),h1.get? s2.heap.objs.size=some o0->bj X.prog X.w H h1 s2.heap.objs.size O0)
  (hc:X.calm=true) (B:aT X.N X.env.scope scope N' tn idx)
  (hC:∀(D:ap),Blk X N' scope fun Y=>Cu Y e tg iter ifs 0 (.ref D) (body (.ref D) Y.env))
  (hg:Blk X N' scope fun Y=>PG Y tg g) (ht:Blk X N' scope fun Y=>jT Y ifs tt) (hb:∀D,Blk X N' scope fun Y=>PB Y (body (.ref D) Y.env) (tb D))
  (I:Inv X pins σ H2 s2) (T:Turn X.prog X.w X.K tg J fp it cT) (st:cT 0 s2.heap) (f2:∀b∈fp,dI X pins H2 b)
  (iY:∀n c,cl.lookup n=some c->X.env.cells.lookup n=some c) (kj:∀n,(n,Gc)∈scope.names->∃c,cl.lookup n=some c)
  (hq:∀D,H2 D=none->∃W:Nat->Nat->St->Hp->Prop,(∃m,W 0 m (cI tn idx σ) (upd H2 D O0))/\xM J g tt (tb D) (fun _ H'=>Q (.ref D) H') W)
  (Ij:∀D C m s' H',Inv X pins σ H' s'->dI X pins H' C->s'.heap.Ns C m->Q (.ref D) H'->RR (.ref D) C (.ok .next) s') :
  wpAny (model X.prog X.w) X.A mk (fun acc sV=>wpAny (model X.prog X.w) X.A (newFunctionEnv scope X.env.globals cl [] X.env.qual none .none (some X.env)) (fun tF Cv=>
   codeAny (model X.prog X.w) X.A (.compStart e 0 (.ref it) acc {tF with scope:=relabel scope X.env}) (RR acc tF.locals) Cv) E sV) E s2 :=by
 obtain⟨b1,b2,b3,b4⟩:=id B;refine P1 _ (wpAny_newFunctionEnv (fun y hy=>(b2 y hy).1) (by intro y hy;simp at hy) (fun km tG oS=>?_) b1)
 dsimp only at tG oS ⊢;generalize hG:s2.heap.push o0=G at tG oS ⊢
 have Ik:G.objs.size=s2.heap.objs.size+1 :=by rw[<- hG,Ix]
 have MY:s2.heap.objs.size≠G.objs.size :=by rw[Ik];exact kw (Lu _)
 have Cw:s2.heap.objs.size<=G.objs.size :=by rw[Ik];exact Fa _
 have below:∀b,b<s2.heap.objs.size->b≠G.objs.size:=fun b hb=>by rw[Ik];exact kw (Cc hb)
 have old:∀b o,s2.heap.get? b=some o->km.get? b=some o:=fun b o e=>oS.extBut b o (below b (gc e)) (bi _ (hG▸bi _ e))
 have P2:km.get? s2.heap.objs.size=some o0:=oS.extBut _ _ MY (bi _ (hG▸ff _ tu));have MZ:H2 s2.heap.objs.size=none:=I.hok.fresh (bv _);have Ih:upd H2 s2.heap.objs.size O0 G.objs.size=none :=by rw[ak (EO MY)];exact I.hok.fresh Cw
 have OX:dH X.prog X.w (upd H2 s2.heap.objs.size O0) km:=I.hok.laid old (bv _) (nu _ _ P2);have tH:∀b∈fp,b<s2.heap.objs.size:=fun b hb=>let ⟨o,e,_⟩:=T.obj _ _ st b hb;gc e
 obtain⟨W,⟨m0,w0⟩,turn⟩:=hq s2.heap.objs.size MZ;have I1:Inv (zR X N' scope cl G.objs.size s2 H2 fp) [] (cI tn idx σ) (upd H2 s2.heap.objs.size O0) {s2 with heap:=km,toks:=s2.toks+([]:List (db×am)).length}:=by
  refine rg (g':=s2.gens) (m0:=fun x=>([]:List (db×am)).reverse.lookup x) I b1 rfl rfl iY (fun x hx=>?_) (fun z=>I.ok.hd z) I.ok.frames (.inl rfl) Cw f2 tH (Un.laid old (bv _) MZ) OX Ih old tG (fun i x v e1 e2 e3=>?_) (B.len σ) I.bare.self
  ·have gv:(relabel scope X.env).names.lookup x=some .cell\/(relabel scope X.env).names.lookup x=some .free:=hx;rw[lC]at gv;cases q:scope.names.lookup x with
   |none=>rw[q]at gv;rcases gv with z|z<;>cases z
   |some k0=>
    have hm:=BY q;rw[q]at gv;by_cases hk:k0=.free
    ·subst hk;exact kj x hm
    ·have nk:(k0==Gc)=false :=by simpa using hk
     have nc:=(b2 _ hm).1;simp only[AS,nk,UT,c8,if_false]at gv;rcases gv with z|z
     ·exact absurd (i4 z) nc
     ·exact absurd (i4 z) hk
  ·obtain⟨fr,j,e4,e5⟩:=B.at e1 e2;have kx:=(b2 _ (BY fr)).2.2 rfl;refine⟨?_,.inr kx,kx,j,e4,e5⟩;show (relabel scope X.env).names.lookup x=some .cell\/(relabel scope X.env).names.lookup x=some .free;rw[lC,fr];simp only[AS];split
   ·exact .inl rfl
   ·exact .inr rfl
 have stat:∀b∈fp,dI (zR X N' scope cl G.objs.size s2 H2 fp) [] (upd H2 s2.heap.objs.size O0) b:=fun b hb=>by
  refine⟨by rw[ak (kw (tH b hb))];exact(f2 b hb).1,below b (tH b hb),fun z=>?_,.inl hb,fun x c e=>(f2 b hb).2.2.2.2.1 x c (iY x c e),fun p hp=>absurd (show p∈([]:List (ap×l8)) from hp) (by simp)⟩
  rcases li.mp (I.iU b z) with q|q
  ·exact(f2 b hb).2.1 q
  ·exact(f2 b hb).2.2.1 q
 have M6:cT 0 km:=T.keep _ _ _ st fun b _ o e=>old b o e
 refine xO (Y:=zR X N' scope cl G.objs.size s2 H2 fp) (hC _ cl G.objs.size s2 H2 fp) T M6 (zS (Y:=zR X N' scope cl G.objs.size s2 H2 fp) hc (fun _ _ z=>z) (hC _ cl G.objs.size s2 H2 fp) (hg cl G.objs.size s2 H2 fp) (ht cl G.objs.size s2 H2 fp) (hb _ cl G.objs.size s2 H2 fp) T turn I1 M6 stat w0 fun cc H' s' I4 qn=>?_)
 have J2:Inv X pins σ H' s':=I.xt I4.os I4.base I4.hok I4.bare fun b hb=>⟨(f2 b hb).2.2.2.1,(f2 b hb).2.1,(f2 b hb).2.2.2.2.1,(f2 b hb).2.2.2.2.2⟩
 obtain⟨mm,hm,_⟩:=I4.loc;exact Ij _ _ mm s' H' J2 (I.lr Cw I4.free) hm qn
def sC (J:It) (g:TG) (tt:TT) (te:TE) (D:ap) (Q:VK) (W:Nat->Nat->St->Hp->Prop):Prop:=∀i m τ H,W i m τ H->
 (J.stop i H/\Q (.ref D) H)\/(J.go i H/\∀x H',J.yld i H x H'->g x τ H' fun aA H2=>tt aA H2 fun b H3=>if b=true then te aA H3 fun y H4=>∃ys m',H4 D=some (.lst ys)/\ys.length<sizeLine/\m'<m/\W (i+1) m' aA (upd H4 D (.lst (ys++[y]))) else ∃m',m'<m/\W (i+1) m' aA H3)
def sD (tn:Nat) (idx:List Nat) (wi:TI) (g:TG) (tt:TT) (te:TE):TE:=fun σ H Q=>wi σ H fun J H1=>∀D,H1 D=none->∃W:Nat->Nat->St->Hp->Prop,(∃m,W 0 m (cI tn idx σ) (upd H1 D (.lst [])))/\sC J g tt te D Q W
theorem xP {J:It}{g:TG}{tt:TT}{te:TE}{D:ap}{Q:VK}{W:Nat->Nat->St->Hp->Prop}(h:sC J g tt te D Q W):xM J g tt (tE D te) (fun _ H=>Q (.ref D) H) W :=by
 simp only[sC,exists_and_left]at h;exact h
theorem Cy (elt tg iter:gl) (ifs:List gl) (scope:ET) (pos:ze) (it acc:am) (env:SM) :
  compTurn (.ListComp elt [⟨tg,iter,ifs,0⟩] scope pos) 0 it acc env=xN (.ListComp elt [⟨tg,iter,ifs,0⟩] scope pos) tg iter ifs 0 it acc env (do let _ <- call (.builtin "list.append") [acc,<- eval elt env]) :=by
 rfl
theorem rj {pins:List (ap×l8)}{σ:St}{H2:Hp}{s2:ar}{tg elt iter:gl}{ifs:List gl}{scope:ET}{pos:ze}{N':List db}{tn:Nat}{idx:List Nat}{g:TG}{tt:TT}{te:TE}{it:ap}{fp:List ap}{cT:Nat->i0->Prop}{J:It}
  {cl:List (db×ap)} {E:am->ar->Prop} {RR:am->ap->VR->ar->Prop} {Q:VK}
  (hc:X.calm=true) (B:aT X.N X.env.scope scope N' tn idx)
  (hg:Blk X N' scope fun Y=>PG Y tg g) (ht:Blk X N' scope fun Y=>jT Y ifs tt) (he:Blk X N' scope fun Y=>PE Y elt te)
  (I:Inv X pins σ H2 s2) (T:Turn X.prog X.w X.K tg J fp it cT) (st:cT 0 s2.heap) (f2:∀b∈fp,dI X pins H2 b)
  (iY:∀n c,cl.lookup n=some c->X.env.cells.lookup n=some c) (kj:∀n,(n,Gc)∈scope.names->∃c,cl.lookup n=some c)
  (hq:∀D,H2 D=none->∃W:Nat->Nat->St->Hp->Prop,(∃m,W 0 m (cI tn idx σ) (upd H2 D (.lst [])))/\sC J g tt te D Q W)
  (Ij:∀D C m s' H',Inv X pins σ H' s'->dI X pins H' C->s'.heap.Ns C m->Q (.ref D) H'->RR (.ref D) C (.ok .next) s') :
  wpAny (model X.prog X.w) X.A (newList []) (fun acc sV=>wpAny (model X.prog X.w) X.A (newFunctionEnv scope X.env.globals cl [] X.env.qual none .none (some X.env)) (fun tF Cv=>
   codeAny (model X.prog X.w) X.A (.compStart (.ListComp elt [⟨tg,iter,ifs,0⟩] scope pos) 0 (.ref it) acc {tF with scope:=relabel scope X.env}) (RR acc tF.locals) Cv) E sV) E s2:=
 compG_core (body:=fun acc env=>do let _ <- call (.builtin "list.append") [acc,<- eval elt env]) (tb:=fun D=>tE D te) (O0:=.lst []) (o0:={cls:=.type "list",dict:=none,data:=.seq ([]:List am).toArray})
  (fun Q q=>mT q) rfl (fun H h1 hd=>⟨kv _,[],0,.nil,hd⟩) hc B (fun D cl C s H fp=>⟨fun _=>rfl,fun _ _ _ _ h=>h,fun _=>Cy ..,fun _ _ _ _ h=>h,rfl⟩) hg ht (fun D cl C s H fp=>Fy (he cl C s H fp))
  I T st f2 iY kj (fun D hD=>let ⟨W,w0,t⟩:=hq D hD;⟨W,w0,xP t⟩) Ij
variable {tg elt iter:gl}{ifs:List gl}{scope:ET}{pos:ze}{N':List db}{tn:Nat}{idx:List Nat}{wi:TI}{g:TG}{tt:TT}{te:TE}
theorem dI.turn {pins:List (ap×l8)}{σ:St}{H:Hp}{s:ar}{C:ap}{h':i0}(f:dI X pins H C) (I:Inv X pins σ H s) (hs:v6 C s.heap h'):Inv X pins σ H {s with heap:=h'}:=
 I.turned (t':=s.toks) (fun b o hb e=>(hs.2 b hb).trans e) f.1 f.2.1 f.2.2.2.1 f.2.2.2.2.1 f.2.2.2.2.2
theorem vw (hc:X.calm=true) (B:aT X.N X.env.scope scope N' tn idx) (hi:PI X tg iter wi)
  (hg:Blk X N' scope fun Y=>PG Y tg g) (ht:Blk X N' scope fun Y=>jT Y ifs tt) (he:Blk X N' scope fun Y=>PE Y elt te)
  (hs:∀x,foldedSetIterable iter X.env x=pure x :=by intro _;rfl):PE X (.ListComp elt [⟨tg,iter,ifs,0⟩] scope pos) (sD tn idx wi g tt te) :=by
 refine⟨?_⟩;intro pins s σ H Q I h;obtain⟨cl,oT,iY,kj⟩:=ki (scope:=scope) (env:=X.env) fun n hn=>I.ok.has n ((B.2.1 _ hn).2.2 rfl)
 rw[eval_ListComp];refine wpAny_comprehension_free (use:=none) rfl hs oT B.1 (fun y hy=>(B.2.1 y hy).2.1) (tw (hi pins s σ H _ I h) (fun xv s1 h1=>tw h1 (fun zj s2 h2=>?_) fun _ _ z=>z) fun _ _ z=>z)
 obtain⟨it,fp,cT,J,H2,e,I2,T,sW,f2,q2⟩:=h2;subst e;refine rj (RR:=fun acc C=>compPost (model X.prog X.w) X.A X.xe none (EP X pins σ Q) acc C) hc B hg ht he I2 T sW f2 iY kj q2 fun D C m s' H' J2 fC hm q=>?_
 exact⟨m,hm,fun h' jy=>⟨.ref D,H',fC.turn J2 jy,rfl,q⟩⟩
theorem oU {i:Nat}{y:db}{py lD:ze}(hN:X.N.Nodup) (dh:X.N[i]?=some y) (hy:X.env.scope.names.lookup y=some .local) (hc:X.calm=true) (B:aT X.N X.env.scope scope N' tn idx) (hi:PI X tg iter wi)
  (hg:Blk X N' scope fun Y=>PG Y tg g) (ht:Blk X N' scope fun Y=>jT Y ifs tt) (he:Blk X N' scope fun Y=>PE Y elt te)
  (zU:swapsWith (.ListComp elt [⟨tg,iter,ifs,0⟩] scope pos) (some (.Name y py)) lD.line X.env=pure true :=by rfl)
  (hs:∀x,foldedSetIterable iter X.env x=pure x :=by intro _;rfl):PS X (.Assign [.Name y py] (.ListComp elt [⟨tg,iter,ifs,0⟩] scope pos) lD) (sU (sD tn idx wi g tt te) (sv i)) :=by
 refine⟨?_⟩;intro pins s σ H D I h;obtain⟨cl,oT,iY,kj⟩:=ki (scope:=scope) (env:=X.env) fun n hn=>I.ok.has n ((B.2.1 _ hn).2.2 rfl)
 rw[exec_Assign_Name_used _ _ _ _ zU];refine ac (Lo (ac ?_));show wpAny _ X.A (do let _ <- comprehension (.ListComp elt [⟨tg,iter,ifs,0⟩] scope pos) scope X.env _ (newList []) false (eval iter X.env) (some (assign (.Name y py) X.env))) _ _ s;refine ac (tw (wpAny_comprehension_free (use:=some (assign (.Name y py) X.env)) (Q:=fun _ s'=>SP X pins D .next s') rfl hs oT B.1 (fun y hy=>(B.2.1 y hy).2.1)
  (tw (hi pins s σ H _ I h) (fun xv s1 h1=>tw h1 (fun zj s2 h2=>?_) fun _ _ z=>z) fun _ _ z=>z)) (fun _ s' hq=>ba (ba hq)) fun _ _ z=>z)
 obtain⟨it,fp,cT,J,H2,e,I2,T,sW,f2,q2⟩:=h2;subst e;refine rj (RR:=fun acc C=>compPost (model X.prog X.w) X.A X.xe (some (assign (.Name y py) X.env)) (fun _ s'=>SP X pins D .next s') acc C) hc B hg ht he I2 T sW f2 iY kj q2 fun E C m s' H' J2 fC hm q=>?_
 show wpAny _ X.A (assign (.Name y py) X.env (.ref E)) _ _ s';refine wpAny_assign_Name (store_ok2 J2 hN dh (.inl hy) (v:=.ref E) rfl (fun s3 J3 ⟨a,iZ,ha⟩=>?_) (.inr hy))
 have cf:C≠a :=by
  rcases ha with z|z
  ·rw[z];exact fC.2.1
  ·exact fun w=>fC.2.2.2.2.1 _ _ z w.symm
 exact⟨m,hm.sameBut iZ cf,fun h' jy=>⟨_,H',fC.turn J3 jy,q⟩⟩
end
def Tb (P:ap) (H:Hp):Prop:=∃ps,H P=some (.cA ps)/\TR ps.toList
section
variable {X:Cx}{pins:List (ap×l8)}{σ:St}{H:Hp}{s:ar}{P:ap}{ps more:Array am}{h':i0}
theorem Inv.grown (I:Inv X pins σ H s) (hP:H P=some (.cA ps)) (k:∀b o,b≠P->s.heap.get? b=some o->h'.get? b=some o) (n:h'.get? P=some {cls:=.none,data:=.fields (ps++more)}) (t':Nat) :
  Inv X pins σ (upd H P (.cA (ps++more))) {s with heap:=h',toks:=t'}:=by
 have ne:∀b u,H b=some u->u≠.cA ps->b≠P:=fun b u e d=>K5 e hP d
 have nn:∀b,H b=none->b≠P:=fun b e z=>by rw[z,hP]at e;cases e
 refine I.un ⟨fun b o e q _ _=>k b o (nn b q) e,fun b o e q _ _=>⟨o.slots,k b o (nn b q) e⟩,fun b o e q _=>by rw[ak (nn b q)];exact q,fun b o e _=>?_,fun b xs e=>by rw[ak (ne b _ e (by intro z;cases z))];exact e,
  fun b o u e=>by rw[ak (ne b _ e (by intro z;cases z))];exact e,fun b qs e=>?_⟩ fun b u e=>?_
 ·by_cases hb:b=P
  ·subst hb;exact⟨_,n⟩
  ·exact⟨o,k b o hb e⟩
 ·by_cases hb:b=P
  ·subst hb;rw[hP]at e;cases e;exact⟨more,aE⟩
  ·exact⟨#[],by rw[ak hb,e];simp⟩
 ·by_cases hb:b=P
  ·subst hb;rw[aE]at e;cases e;exact n
  ·rw[ak hb]at e;refine(I.hok b u e).bB (fun c v hc q=>k c v ?_ q) (fun c q=>?_) fun c xs q=>?_
   ·rcases hc with z|z
    ·rw[z];exact hb
    ·exact ne c _ z (by intro w;cases w)
   ·rw[ak (ne c _ q (by intro w;cases w))];exact q
   ·rw[ak (ne c _ q (by intro w;cases w))];exact q
theorem qd {c:ap}{pos:ze}{qn:db}{scope:ET}{Q:am->ar->Prop}{A:mf}{E:am->ar->Prop}(I:Inv X pins σ H s) (hc:X.env.code=.ref c) (hd:u7 X.base c P) (hP:H P=some (.cA ps)) (ht:TR ps.toList)
  (h:∀code jU s',TR jU.toList->Inv X pins σ (upd H P (.cA jU)) s'->(∀b o,b≠P->s.heap.get? b=some o->s'.heap.get? b=some o)->s'.gens=s.gens->Q code s'):wpAny (model X.prog X.w) A (genexprCode X.env pos qn scope) Q E s :=by
 have M7:s.heap.get? P=some (S6 ps):=I.hok P _ hP;have hV:=hd.keeps I.bk;have ic:=hV.code M7 ht;cases q:codeAmong pos ps.toList with
 |some c'=>
  refine wpAny_genexprCode_hit hc ic q (h c' ps s ht ?_ (fun _ _ _ e=>e) rfl)
  have e:upd H P (.cA ps)=H :=by
   funext b
   by_cases hb:b=P
   ·subst hb;rw[aE,hP]
   ·rw[ak hb]
  rw[e];exact I
 |none=>
  refine wpAny_genexprCodeX hc ic (hV.tab M7) q fun c' h' tk ex h1 h2 R4 _ ta _=>?_
  obtain⟨_,Eg⟩:=ta;have tr:TR (ps++#[rawInt pos.line,rawInt pos.col,ul c']).toList :=by
   rw[Array.toList_append];exact TriplesOk_snoc _ _ _ _ ht
  exact h _ _ _ tr (I.grown hP (fun b o hb e=>ex b o hb e) Eg tk) (fun b o hb e=>ex b o hb e) rfl
end
def nM (s cH:ar):Prop:=cH.heap=s.heap/\cH.os=s.os/\Gn s.gens.size cH.gens
theorem Inv.lF {X:Cx}{pins:List (ap×l8)}{σ:St}{H:Hp}{s cH:ar}(I:Inv X pins σ H s) (o:nM s cH):Inv X pins σ H cH :=by
 obtain⟨h,g,d,t,os⟩:=s;obtain⟨h',g',d',t',D9⟩:=cH;obtain⟨e1,e2,e3⟩:=o;cases e1;cases e2;exact⟨I.ok,I.os,I.bare.trans e3,I.base,I.loc,I.cell,I.free,I.freeC,I.pin,I.hok,I.len⟩
section
variable {Y:Cx}{A2:mf}{tg elt iter:gl}{ifs:List gl}{scope:ET}{pos:ze}{it:ap}{fp:List ap}{cT:Nat->i0->Prop}{J:It}{g:TG}{tt:TT}{te:TE}{pp:List (ap×l8)}{R:GenEnd}{Yp:Protocol}
def Il (J:It) (g:TG) (tt:TT) (te:TE) (stopAt:Bool) (Z:Bool->Hp->Prop) (W:Nat->Nat->St->Hp->Prop):Prop:=∀i m τ H,W i m τ H->
 (J.stop i H/\Z (!stopAt) H)\/(J.go i H/\∀x H',J.yld i H x H'->g x τ H' fun aA H2=>tt aA H2 fun b H3=>if b=true then te aA H3 fun y H4=>∃c,y=.bl c/\(if c=stopAt then Z stopAt H4 else ∃m',m'<m/\W (i+1) m' aA H4) else ∃m',m'<m/\W (i+1) m' aA H3)
theorem Cz (hA:Y.A=A2.over (.compLoop (.GeneratorExp elt [⟨tg,iter,ifs,0⟩] scope pos) 0 (.ref it) .none Y.env) []) (tv:Y.xe=fun _ _=>False) (hc:Y.calm=true) (rn:Y.env.scope.isCoroutine=false)
  (T:Turn Y.prog Y.w Y.K tg J fp it cT) (hg:PG Y tg g) (ht:jT Y ifs tt) (he:PE Y elt te) (stat:∀{H':Hp},(∀b∈fp,H' b=none)->∀b∈fp,dI Y pp H' b)
  {W:Nat->Nat->St->Hp->Prop} {Z:Bool->Hp->Prop} {stopAt:Bool} (turn:Il J g tt te stopAt Z W)
  (hR:∀n s₀ av τ H,Inv Y pp τ H av->Z (!stopAt) H->R n s₀ (.ok .next) av)
  (hY:∀n s₀ s tI c τ H,Inv Y pp τ H s->(c=stopAt->Z stopAt H)->(c≠stopAt->∀cH,nM s cH->tI (.send .none) cH)->Yp n s₀ (.bool c) s tI) :
  ∀(m n i:Nat) (τ:St) (H:Hp) (s s₀:ar),m<n->W i m τ H->Inv Y pp τ H s->cT i s.heap->(∀b∈fp,H b=none)->
   Seg (model Y.prog Y.w) A2 R Yp n s₀ (.compLoop (.GeneratorExp elt [⟨tg,iter,ifs,0⟩] scope pos) 0 (.ref it) .none Y.env)
    ((model Y.prog Y.w).den (.compLoop (.GeneratorExp elt [⟨tg,iter,ifs,0⟩] scope pos) 0 (.ref it) .none Y.env)) [] s :=by
 intro m;induction m using Vz with
 |ind m ih=>
  intro n i τ H s s₀ P4 w I st fr;show Seg _ A2 _ _ _ s₀ _ ((compTurn (.GeneratorExp elt [⟨tg,iter,ifs,0⟩] scope pos) 0 (.ref it) .none Y.env).onRaise (leaving Y.env)) [] s;rw[compTurn_gen,TH.onRaise_eq_wrap];rcases turn i m τ H w with ⟨stop,qn⟩|⟨go,step⟩
  ·refine Co (Lo ?_);have d:=T.done Y rfl rfl rfl hc i pp s τ H (fun _ _=>False) I (stat fr) st stop
   rw[hA]at d;refine Co (tw d (fun r s1 ⟨hr,I1⟩=>?_) fun _ _ z=>z.elim)
   subst hr;exact seg_end (.ok .next) (hR _ _ _ _ _ I1 qn)
  ·refine Co (Lo ?_);have d:=T.item Y rfl rfl rfl hc i pp s τ H (fun _ _=>False) I (stat fr) st go
   rw[hA]at d;refine Co (tw d (fun r s4 ⟨u,hr,h4⟩=>?_) fun _ _ z=>z.elim)
   subst hr;refine Co (tw h4 (fun _ s5 ⟨x,H5,I5,r5,y5,lu,zp⟩=>?_) fun _ _ z=>z.elim)
   have zq:=I5.pinned (stat zp) (T.obj _ _ lu);have back:∀{tD:St} {H7:Hp} {s7:ar},Inv Y (pp++jP fp s5.heap) tD H7 s7->cT (i+1) s7.heap/\∀b∈fp,H7 b=none:=fun {tD H7 s7} I7=>by
    refine⟨T.keep _ _ _ lu fun b hb o e=>(I7.pin (b,o) (l9 _ (l9 _ (fc hb e)))).1,fun b hb=>?_⟩
    obtain⟨o,e,d⟩:=T.obj _ _ lu b hb;exact(I7.pin (b,o) (l9 _ (l9 _ (fc hb e)))).2.1
   have d2:=hg _ s5 τ H5 x u _ zq r5 (step x H5 y5);rw[hA,tv]at d2;refine Co (tw d2 (fun _ s6 ⟨rh,H6,I6,q6⟩=>?_) fun _ _ z=>z.elim)
   have d3:=ht _ s6 rh H6 _ I6 q6;rw[hA,tv]at d3;refine Co (tw d3 (fun ok s7 ⟨H7,I7,q7⟩=>?_) fun _ _ z=>z.elim)
   have hy:∀v,yieldOut Y.env v=yieldValue v:=fun v=>by simp only[yieldOut,rn,c8,if_false]
   cases ok with
   |false=>
    simp only[c8,if_false]at q7 ⊢;obtain⟨m',zV,w7⟩:=q7;exact VA rfl (ih m' zV n (i+1) rh H7 s7 s₀ (by omega) w7 I7.fP (back I7).1 (back I7).2)
   |true=>
    simp only[if_true]at q7 ⊢;simp only[hy];rw[TH.bind_eq_wrap',TH.bind_eq_wrap',TH.wrap_wrap,TH.wrap_wrap];have d4:=he _ s7 rh H7 _ I7 q7;rw[hA,tv]at d4;refine seg_wrap (tw d4 (fun yv s8 ⟨y,H8,I8,r8,q8⟩=>?_) fun _ _ z=>z.elim)
    obtain⟨c,ey,q8⟩:=q8;subst ey;cases (show yv=VN c from r8);obtain⟨n,rfl⟩:∃n',n=n'+1:=⟨n - 1,by omega⟩
    refine seg_at (seg_yield rfl rfl rfl (hY _ _ _ _ c rh H8 I8.fP (fun e=>by rw[if_pos e]at q8;exact q8) fun e cH ok=>?_))
    rw[if_neg e]at q8;obtain⟨m',zV,w8⟩:=q8;have I9:=I8.lF ok;exact VA rfl (ih m' zV n (i+1) rh H8 cH cH (by omega) w8 I9.fP (back I9).1 (back I9).2)
end
abbrev dU (elt tg iter:gl) (ifs:List gl) (scope:ET) (pos:ze):gl:=.GeneratorExp elt [⟨tg,iter,ifs,0⟩] scope pos
abbrev Im (X:Cx) (N':List db) (scope:ET) (cl:List (db×ap)) (C:ap) (code:am) (A':mf) (s:ar) (H:Hp) (fp:List ap):Cx:=
 cxBlock X N' (genEnv scope cl C code builtinsNs X.env) A' (genEnv scope cl C code builtinsNs X.env::X.stack) s H fp
abbrev nN (X:Cx) (N':List db) (scope:ET) (k:Nat) (P:Cx->Prop):Prop:=∀(cl:List (db×ap)) (C:ap) (code:am) (A':mf) (s:ar) (H:Hp) (fp:List ap),cB k A'->P (Im X N' scope cl C code A' s H fp)
structure OY (X:Cx) (pins:List (ap×l8)) (σ:St) (N':List db) (scope:ET) (tn:Nat) (idx:List Nat) (k:Nat) (elt tg iter:gl) (ifs:List gl) (pos:ze) (J:It) (H3:Hp) (a:ap) (s5:ar)
  (Y:Cx) (it:ap) (fp:List ap) (cT:Nat->i0->Prop) (g:Nat) (pp:List (ap×l8)):Prop where
 inv:Inv Y pp (cI tn idx σ) H3 s5
 isg:∀{τ:St} {H':Hp} {s':ar},Inv Y pp τ H' s'->s'.heap.IsGen a g
 st:s5.gens[g]?=some (.fresh (.compStart (dU elt tg iter ifs scope pos) 0 (.ref it) .none Y.env))
 T:Turn Y.prog Y.w Y.K tg J fp it cT
 tn0:cT 0 s5.heap
 fr:∀b∈fp,H3 b=none
 stat:∀{H':Hp},(∀b∈fp,H' b=none)->∀b∈fp,dI Y pp H' b
 out:∀{τ:St} {H':Hp} {s':ar},Inv Y pp τ H' s'->Inv X pins σ H' s'
 A:Y.A=X.A.in4.in1.over (.compLoop (dU elt tg iter ifs scope pos) 0 (.ref it) .none Y.env) []
 xe:Y.xe=fun _ _=>False
 calm:Y.calm=true
 co:Y.env.scope.isCoroutine=false
 gsz:∀{τ:St} {H':Hp} {s':ar},Inv Y pp τ H' s'->g<s'.gens.size
 blk:∀P:Cx->Prop,nN X N' scope k P->P Y
 prog:Y.prog=X.prog
 w:Y.w=X.w
section
variable {X:Cx}{tg elt iter:gl}{ifs:List gl}{scope:ET}{pos:ze}{N':List db}{tn:Nat}{idx:List Nat}{wi:TI}{g:TG}{tt:TT}{te:TE}{c P:ap}{k:Nat}
def Io (P:ap) (wi:TI) (R:It->Hp->Prop):St->Hp->Prop:=fun σ H=>wi σ H fun J H1=>Tb P H1/\∀ps,TR ps.toList->R J (upd H1 P (.cA ps))
theorem CA {pins:List (ap×l8)}{s:ar}{σ:St}{H:Hp}{QQ:am->ar->Prop}{R:It->Hp->Prop}(hr:cB (k+1) X.A) (hc:X.calm=true) (B:aT X.N X.env.scope scope N' tn idx)
  (h0:scope.names.lookup (".0" : db)=some .local) (rn:scope.isCoroutine=false) (oV:X.env.code=.ref c) (hd:u7 X.base c P) (jz:∃bm ob,VH X.base mainGlobals X.mg bm ob)
  (hi:PI X tg iter wi) (hs:∀x,genFold iter X.env x=pure x) (I:Inv X pins σ H s) (h:Io P wi R σ H)
  (q:∀J H3 a s5 Y it fp cT gn pp,OY X pins σ N' scope tn idx k elt tg iter ifs pos J H3 a s5 Y it fp cT gn pp->R J H3->QQ (.ref a) s5) :
  wpAny (model X.prog X.w) X.A (eval (dU elt tg iter ifs scope pos) X.env) QQ X.xe s :=by
 obtain⟨cl,oT,iY,kj⟩:=ki (scope:=scope) (env:=X.env) fun n hn=>I.ok.has n ((B.2.1 _ hn).2.2 rfl)
 refine wpAny_GeneratorExp_make rn oT (fun y hy=>(B.2.1 y hy).1) h0 B.1 hr.depth (thn (hi pins s σ H _ I h) fun xv s1 h1=>thn h1 fun zj s2 h2=>?_) hs
 obtain⟨it,fp,cT,J,H2,e,I2,T,sW,f2,⟨ps,hP,zW⟩,q2⟩:=h2;subst e;refine⟨I2.nolimit,qd I2 oV hd hP zW fun code jU s3 Ip I3 kp R5=>?_⟩
 obtain⟨bm,ob,bmod⟩:=jz;have tJ:=bmod.keeps I3.bk;refine wpAny_builtinsFor (by rw[I3.ok.glob];exact tJ.ns) tJ.name tJ.ne tJ.obj tJ.cls tJ.dict tJ.data ?_
 intro h' sS jy;have M8:∀b∈fp,b≠P:=fun b hb z=>by have:=(f2 b hb).1;rw[z,hP]at this;cases this
 have qQ:cT 0 s3.heap:=T.keep _ _ _ sW fun b hb o e=>kp b o (M8 b hb) e
 have tH:∀b∈fp,b<s3.heap.objs.size:=fun b hb=>let ⟨o,e,_⟩:=T.obj _ _ qQ b hb;gc e
 have f3:∀b∈fp,dI X pins (upd H2 P (.cA jU)) b:=fun b hb=>⟨by rw[ak (M8 b hb)];exact(f2 b hb).1,(f2 b hb).2⟩
 have hsz:h'.objs.size=s3.heap.objs.size+1 :=by rw[jy.1,Ix]
 have Ly:∀b o,s3.heap.get? b=some o->h'.get? b=some o:=fun b o e=>jy.extBut b o (kw (gc e)) (bi _ e)
 have M9:Gn s3.gens.size (s3.gens.push (.fresh (.compStart (dU elt tg iter ifs scope pos) 0 (.ref it) .none (genEnv scope cl s3.heap.objs.size code builtinsNs X.env)))):=⟨VJ.push I3.bare.1 rfl,by rw[Array.size_push];exact Fa _⟩
 have Nb:Inv X pins σ (upd H2 P (.cA jU)) {s3 with gens:=s3.gens.push (.fresh (.compStart (dU elt tg iter ifs scope pos) 0 (.ref it) .none (genEnv scope cl s3.heap.objs.size code builtinsNs X.env)))}:=I3.lF ⟨rfl,rfl,M9⟩
 have hA:(X.A.in4.in1.over (.compLoop (dU elt tg iter ifs scope pos) 0 (.ref it) .none (genEnv scope cl s3.heap.objs.size code builtinsNs X.env)) []).frames=some (genEnv scope cl s3.heap.objs.size code builtinsNs X.env::X.stack) :=by
  show pushEnvs [_] (pushEnvs [] X.A.frames)=_;rw[I.ok.frames];rfl
 have mQ:cB k (X.A.in4.in1.over (.compLoop (dU elt tg iter ifs scope pos) 0 (.ref it) .none (genEnv scope cl s3.heap.objs.size code builtinsNs X.env)) []) :=by
  refine⟨hr.hd,?_,?_⟩
  ·show X.A.depth+0+1+3 * k+5<recursionLimit;have:=hr.dp;omega
  ·show X.A.units+1+1+1+1+1+0+3+16 * k+200<cLine;have:=hr.un;omega
 generalize tK:({cls:=.type "generator",data:=.fields #[.int s3.gens.size 0,.str "<genexpr>" (s3.toks+1),.str (X.env.qual ++ "<genexpr>") (s3.toks+1+1)]}:l8)=nv
 have sE:∀b o,s3.heap.get? b=some o->(h'.push nv).get? b=some o:=fun b o e=>bi _ (Ly b o e)
 have OZ:nv.isFreed=false :=by rw[<- tK];rfl
 have P5:(h'.push nv).get? h'.objs.size=some nv:=ff _ OZ;have P6:h'.objs.size≠s3.heap.objs.size :=by rw[hsz];exact Nat.succ_ne_self _
 have P7:upd H2 P (.cA jU) h'.objs.size=none:=I3.hok.fresh (by rw[hsz];exact Fa _)
 have I5:=rg (X:=X) (N':=N') (A':=X.A.in4.in1.over (.compLoop (dU elt tg iter ifs scope pos) 0 (.ref it) .none (genEnv scope cl s3.heap.objs.size code builtinsNs X.env)) []) (env':=genEnv scope cl s3.heap.objs.size code builtinsNs X.env) (stack':=genEnv scope cl s3.heap.objs.size code builtinsNs X.env::X.stack) (ex:=fp) (h1:=h'.push nv) (m0:=fun y=>if y = ".0" then some (.ref it) else none)
  (g':=s3.gens.push (.fresh (.compStart (dU elt tg iter ifs scope pos) 0 (.ref it) .none (genEnv scope cl s3.heap.objs.size code builtinsNs X.env)))) (tk:=s3.toks+1+1+1) (aG:=cI tn idx σ) Nb B.1 rfl I3.ok.blt.symm iY (fun x hx=>by
   have gv:scope.names.lookup x=some .cell\/scope.names.lookup x=some .free:=hx;rcases gv with z|z
   ·exact absurd rfl ((B.2.1 _ (BY z)).1)
   ·exact kj x (BY z)) (fun z=>I.ok.hd z) hA (.inr ⟨rfl,rfl⟩) (bv _) f3 tH (Un.kept sE) (I3.hok.kept sE) (I3.hok.fresh (bv _)) sE (sS.push _) (fun i x v e1 e2 e3=>by
   obtain⟨fr,j,e4,e5⟩:=B.at e1 e2;have kx:=(B.2.1 _ (BY fr)).2.2 rfl;exact⟨.inr fr,.inr kx,kx,j,e4,e5⟩) (B.len σ) (Gn.self M9)
 have P8:h'.objs.size ∉ fD X.stack:=fun z=>by
  rcases li.mp (I3.iU _ z) with q|q
  ·exact KF (mo I3.lt (by rw[hsz];exact Fa _)) q
  ·exact I3.G6 (by rw[hsz];exact Fa _) q
 have mP:∀v,nv.data≠.cell v :=by rw[<- tK];intro v z;cases z
 have I6:=I5.pZ (pins':=[(h'.objs.size,nv)]) (fun p hp=>by
  rcases lp.mp hp with rfl
  exact⟨P5,P7,P6,P8,mP⟩)
 refine q J _ _ _ (Im X N' scope cl s3.heap.objs.size code _ _ _ fp) it fp cT s3.gens.size [(h'.objs.size,nv)] ⟨I6,fun {τ H' s'} J'=>?_,?_,T,T.keep _ _ _ qQ fun b _ o e=>sE b o e,fun b hb=>(f3 b hb).1,fun {H'} hn b hb=>?_,fun {τ H' s'} J'=>?_,rfl,rfl,hc,rn,fun {τ H' s'} J'=>?_,fun Pp hb=>hb cl _ code _ _ _ fp mQ,rfl,rfl⟩ (q2 jU Ip)
 ·have:=(J'.pin (h'.objs.size,nv) (l9 _ (lp.mpr rfl))).1;exact⟨nv,_,_,this,by rw[<- tK],by rw[<- tK],by rw[<- tK]⟩
 ·exact Array.getElem?_push_size ..
 ·refine⟨hn b hb,kw (tH b hb),fun z=>?_,.inl hb,fun x c e=>(f2 b hb).2.2.2.2.1 x c (iY x c e),fun p hp z=>?_⟩
  ·rcases li.mp (I2.iU b z) with q|q
   ·exact(f2 b hb).2.1 q
   ·exact(f2 b hb).2.2.1 q
  ·rcases lp.mp hp with rfl
   have z':h'.objs.size=b:=z;have:=tH b hb;rw[<- z',hsz]at this;exact absurd this (Nat.not_lt.mpr (Fa _))
 ·exact Nb.xt J'.os J'.base J'.hok J'.bare fun b hb=>⟨(f3 b hb).2.2.2.1,(f3 b hb).2.1,(f3 b hb).2.2.2.2.1,(f3 b hb).2.2.2.2.2⟩
 ·have:=J'.bare.2;have e:(Im X N' scope cl s3.heap.objs.size code (X.A.in4.in1.over (.compLoop (dU elt tg iter ifs scope pos) 0 (.ref it) .none (genEnv scope cl s3.heap.objs.size code builtinsNs X.env)) []) {s3 with gens:=s3.gens.push (.fresh (.compStart (dU elt tg iter ifs scope pos) 0 (.ref it) .none (genEnv scope cl s3.heap.objs.size code builtinsNs X.env)))} (upd H2 P (.cA jU)) fp).s₀.gens.size=s3.gens.size+1 :=by
   show (s3.gens.push _).size=_;rw[Array.size_push]
  rw[e]at this;omega
theorem CB {prog:ii}{w:ij}{A:mf}{a:ap}{R':VR->ar->Prop}(In:Nat->ar->Prop)
  (turn:∀n s,In n s->wpAny (model prog w) A.in1 (pyNext (.ref a)) (fun r s1=>match r with
   |none=>R' (.ok (.ret (.bool true))) s1
   |some v=>∃c,v=.bool c/\if c=true then ∃m,m<n/\In m s1 else R' (.ok (.ret (.bool false))) s1) (fun e s'=>R' (.error e) s') s) :
  ∀(n:Nat) (s:ar),In n s->codeAny (model prog w) A (.builtin "all.loop" ⟨[.ref a],[]⟩) R' s :=by
 intro n;induction n using Vz with
 |ind n ih=>
  intro s h;refine ww F.entry_all_loop ?_;rw[tz Vp _];show wpAny _ A.in1 (pyNext (.ref a)>>=_) _ _ s;refine ac (tw (turn n s h) (fun r s1 q=>?_) fun _ _ z=>z)
  cases r with
  |none=>exact ac (FS (ba q))
  |some v=>
   obtain⟨c,e,q⟩:=q;subst e;refine ac (wT (B0 ?_));refine ac (wpAny_letGo ?_);cases c with
   |true=>
    simp only[if_true]at q ⊢;obtain⟨m,hm,hI⟩:=q;exact ba ⟨EN Vp _,ih m hm s1 hI⟩
   |false=>
    simp only[c8,if_false]at q ⊢;exact ac (FS (ba q))
theorem lH {s:ar}{g:Nat}{x:Tf}{n:Nat}(h:Gn n s.gens) (hx:x.bare=true):Gn s.gens.size (s.setGen g x).gens :=by
 refine⟨fun y hy=>?_,?_⟩
 ·have h8:y∈s.gens.setIfInBounds g x:=hy;rcases Array.mem_or_eq_of_mem_setIfInBounds h8 with z|z
  ·exact h.1 y z
  ·rw[z];exact hx
 ·show s.gens.size<=(s.gens.setIfInBounds g x).size;rw[Array.size_setIfInBounds];exact bv _
theorem zX {s:ar}{g:Nat}{x:Tf}(h:g<s.gens.size):(s.setGen g x).gens[g]?=some x :=by
 show (s.gens.setIfInBounds g x)[g]?=_;rw[Array.getElem?_setIfInBounds_self];simp[h]
theorem zY {Y:Cx}{A2:mf}{R:GenEnd}{Yp:Protocol}{n:Nat}{s₀ s:ar}{it:ap}{J:It}{fp:List ap}{cT:Nat->i0->Prop}(T:Turn Y.prog Y.w Y.K tg J fp it cT) {i:Nat}(st:cT i s.heap)
  (loop:Seg (model Y.prog Y.w) A2 R Yp n s₀ (.compLoop (dU elt tg iter ifs scope pos) 0 (.ref it) .none Y.env) ((model Y.prog Y.w).den (.compLoop (dU elt tg iter ifs scope pos) 0 (.ref it) .none Y.env)) [] s) :
  Seg (model Y.prog Y.w) A2 R Yp n s₀ (.compStart (dU elt tg iter ifs scope pos) 0 (.ref it) .none Y.env) ((model Y.prog Y.w).den (.compStart (dU elt tg iter ifs scope pos) 0 (.ref it) .none Y.env)) [] s :=by
 show Seg _ A2 _ _ _ s₀ _ ((compStart (dU elt tg iter ifs scope pos) 0 (.ref it) .none Y.env).onRaise (leaving Y.env)) [] s;unfold compStart;rw[TH.onRaise_eq_wrap];show Seg _ A2 _ _ _ s₀ _ ((ask>>=_).wrap _ _ _ _) [] s;refine Co (So ?_);split
 ·exact VA rfl loop
 ·first
   |exact Co (FS (Co (Lo (Co (T.self _ i s _ _ st (VA rfl loop))))))
   |(refine Co (FS ?_);show Seg _ A2 _ _ _ s₀ _ ((standAt iter.pos>>=_).wrap _ _ _ _) [] s;exact Co (Lo (Co (T.self _ i s _ _ st (VA rfl loop)))))
def Iq (P:ap) (tn:Nat) (idx:List Nat) (wi:TI) (g:TG) (tt:TT) (te:TE):TE:=fun σ H Q=>Io P wi (fun J H1=>∃W:Nat->Nat->St->Hp->Prop,(∃m,W 0 m (cI tn idx σ) H1)/\Il J g tt te false (fun b H2=>Q (.bl b) H2) W) σ H
theorem Ir {p tL:ze}(hr:cB (k+1) X.A) (hc:X.calm=true) (B:aT X.N X.env.scope scope N' tn idx)
  (h0:scope.names.lookup (".0" : db)=some .local) (rn:scope.isCoroutine=false) (oV:X.env.code=.ref c) (hd:u7 X.base c P) (jz:∃bm ob,VH X.base mainGlobals X.mg bm ob)
  (Iu:Gl X "all") (hm:X.mg "all" = none) (hi:PI X tg iter wi) (hg:nN X N' scope k fun Y=>PG Y tg g) (ht:nN X N' scope k fun Y=>jT Y ifs tt) (he:nN X N' scope k fun Y=>PE Y elt te)
  (hs:∀x,genFold iter X.env x=pure x :=by intro _;rfl):PE X (.Call (.Name "all" p) [dU elt tg iter ifs scope tL] [] pos) (Iq P tn idx wi g tt te) :=by
 refine⟨?_⟩;intro pins s σ H Q I h;refine GM (d6 I Iu hm PyProof.Rows.boot_all ?_);refine PyProof.Rows.callWith_builtin1 ?_ rfl rfl;show wpAny _ _ (spliced ((false,eval (dU elt tg iter ifs scope tL) X.env)::[])) _ _ s;refine LG (CA hr hc B h0 rn oV hd jz hi hs I h ?_);intro J H3 a s5 Y it fp cT gn pp G ⟨W,⟨m0,w0⟩,turn⟩;refine Na ?_;refine call_function_tree F.kind_all F.plain_all F.entry_all (F.args_all1 _) ?_;unfold l7.«all»;refine ac (m:=oneArg "all" _) (ba ?_)
 refine ac (wpAny_pyIter_gen (G.isg G.inv) ?_);refine ba ⟨EN Vp _,?_⟩;have Iv:=Cz (A2:=X.A.in4.in1) (pp:=pp) (R:=fun n s₀ r av=>r=.ok .next/\∃τ H,Inv Y pp τ H av/\Q (.bl true) H)
  (Yp:=fun n s₀ v s tI=>∃c τ H,v=.bool c/\Inv Y pp τ H s/\(c=false->Q (.bl false) H)/\(c≠false->∀cH,nM s cH->tI (.send .none) cH)) G.A G.xe G.calm G.co G.T (G.blk _ hg) (G.blk _ ht) (G.blk _ he) G.stat turn
  (fun n s₀ av τ H J z=>⟨rfl,τ,H,J,z⟩) (fun n s₀ s tI c τ H J z1 z2=>⟨c,τ,H,rfl,J,z1,z2⟩)
 have hP:=G.prog;have hW:=G.w;rw[hP,hW]at Iv;refine CB (A:=X.A) (fun n s=>(∃τ H,Inv Y pp τ H s)/\∃gs,s.gens[gn]?=some gs/\∀cH,nM s cH->gs.Goes (model X.prog X.w) X.A.in4.in1 (fun n s₀ r av=>r=.ok .next/\∃τ H,Inv Y pp τ H av/\Q (.bl true) H)
  (fun n s₀ v s tI=>∃c τ H,v=.bool c/\Inv Y pp τ H s/\(c=false->Q (.bl false) H)/\(c≠false->∀cH,nM s cH->tI (.send .none) cH)) n (.send .none) cH) ?_ (m0+1) s5 ?_
 ·rintro n s6 ⟨⟨τ,H6,I6⟩,gs,P9,tK⟩;have RT:=G.gsz I6;refine wpAny_of_in1 (wpAny_of_in1 (wpAny_of_in1 ?_));show wpAny (model X.prog X.w) X.A.in4 (pyNext (.ref a)) _ _ s6;refine wpAny_pyNext_genexpQ (A:=X.A.in4) (P:=fun n s₀ av=>∃τ H,Inv Y pp τ H av/\Q (.bl true) H) hr.hd I6.nolimit hr.depth (G.isg I6) P9 (tK _ ⟨rfl,rfl,lH I6.bare rfl⟩) (fun v s1 Nc hb hv=>?_) (fun s1 hp h' hk=>?_)
  ·obtain⟨c,Nf,H1,e,I1,z1,z2⟩:=hv;subst e;refine⟨c,rfl,?_⟩;have zZ:nM s1 (s1.setGen gn Nc):=⟨rfl,rfl,lH I1.bare hb⟩;cases c with
   |false=>
    rw[if_neg hX];exact⟨.bl false,H1,G.out (I1.lF zZ),rfl,z1 rfl⟩
   |true=>
    rw[if_pos rfl];have z3:=z2 (by decide)
    cases n with
    |zero=>exact(z3 s1 ⟨rfl,rfl,I1.bare.self⟩).elim
    |succ m=>
     refine⟨m,Lu _,⟨Nf,H1,I1.lF zZ⟩,Nc,zX (G.gsz I1),fun cH o=>z3 cH ⟨o.1,o.2.1,?_⟩⟩
     exact zZ.2.2.trans o.2.2
  ·obtain⟨Nf,H1,I1,z1⟩:=hp;have I2:=I1.kept (t':=s1.toks) hk;have Iw:nM {s1 with heap:=h'} {s1.setGen gn .finished with heap:=h'}:=⟨rfl,rfl,lH (s:=s1) I1.bare rfl⟩
   exact⟨.bl true,H1,G.out (I2.lF Iw),rfl,z1⟩
 ·refine⟨⟨_,_,G.inv⟩,_,G.st,fun cH o=>⟨rfl,?_⟩⟩
  have I7:=G.inv.lF o;have Ng:cT 0 cH.heap :=by rw[o.1];exact G.tn0
  have q:=zY (iter:=iter) (ifs:=ifs) (scope:=scope) (pos:=tL) (elt:=elt) G.T Ng (by rw[hP,hW];exact Iv m0 (m0+1) 0 _ _ cH cH (Lu _) w0 I7 Ng G.fr)
  rw[hP,hW]at q;exact q
end
section
variable {X:Cx}{tg l:gl}{tl:TE}
theorem b7 {xs:List V}{us:List am}(r:Vals xs us) {j:Nat}(h:j<us.toArray.size):RelV (xs.getD j .ai) us.toArray[j] :=by
 have hl:=r.length;have hj:j<xs.length :=by simpa[hl] using h
 obtain⟨u,e,q⟩:=r.get (i:=j) (x:=xs[j]) (ag hj);have e2:us.toArray[j]=u :=by
  rw[br]at e;obtain⟨h',e⟩:=e;simpa using e
 rw[e2,ce,ag hj];exact q
theorem vy:bV X (.builtin "isinstance") (fun xs H Q=>∃x T t b,xs=[x,.ty T]/\fQ X.K H x t/\UU X.K t (.type T)=some b/\Q (.bl b) H) :=by
 intro pins s σ H xs us Q I r h;obtain⟨x,T,t,b,rfl,ty,e,q⟩:=h;obtain⟨u,w',rfl,r1,r2⟩:=vals2 r;cases (show w'=zd T from r2);exact zE I r1 ty e fun tk=>⟨.bl b,H,I.tok tk,rfl,q⟩
theorem jL:∀{xs:List V}{us:List am},xs.length=us.length->(∀(i:Nat) (v:V),xs[i]?=some v->∃u,us[i]?=some u/\RelV v u)->Vals xs us
 | [],[],_,_=>.nil
 | [],_::_,h,_=>by simp at h
 |_::_,[],h,_=>by simp at h
 |x::xs,u::us,h,g=>by
          obtain⟨u',e,r⟩:=g 0 x rfl;have e':u=u':=by simpa using e
          subst e';exact .cons r (jL (by simpa using h) fun i v hv=>by
           obtain⟨w,e2,r2⟩:=g (i+1) v (by simpa using hv)
           exact⟨w,by simpa using e2,r2⟩)
theorem tM {e:gl}{te:TE}{p p1 p2 pos:ze}(hc:X.calm=true) (hg:Gl X "list") (hm:X.mg "list" = none) (oW:Gl X "range") (tN:X.mg "range" = none) (he:PE X e te) (hs:starEach [e] X.env=[(false,eval e X.env)] :=by rfl) :
  PE X (.Call (.Name "list" p) [.Call (.Name "range" p1) [e] [] p2] [] pos) (fun σ H Q=>te σ H fun x H1=>∃j:Int,x=.int j /\ -(2 ^ 24)<=j/\j<=2 ^ 24/\∀l,H1 l=none->Q (.ref l) (upd H1 l (.lst ((i8 j.toNat).map fun i=>V.int (i:Nat))))) :=by
 refine⟨?_⟩;intro pins s σ H Q I h;refine GM (d6 I hg hm (by decide +kernel:bootBuiltins "list" = some (.type "list")) ?_)
 refine zn ?_ rfl rfl;show wpAny _ _ (spliced ((false,eval (.Call (.Name "range" p1) [e] [] p2) X.env)::[])) _ _ s
 refine LG ?_;refine Call_ (d6 I oW tN boot_range (zn ?_ hs rfl));rw[hs];refine LG (thn (he pins s σ H _ I h) fun v s1 ⟨x,H1,I1,r1,q1⟩=>Na ?_)
 obtain⟨j,rfl,b1,b2,q⟩:=q1;obtain⟨t,rfl⟩:=r1;refine call_range_1 ?_;refine Na ?_;refine call_list_range (n:=j.toNat) (I1.ok.hd hc) (IsRange.new ..) (small_one (by omega) (by omega) (by omega) (by omega)) (by rw[PyProof.Rows.rangeSize_nat];simp) (by omega) fun h' tk eF c' hk hS hit=>?_
 have I2:Inv X pins σ H1 {s1 with heap:=s1.heap.push {cls:=.type "range",data:=.fields #[.int 0 s1.toks,.int j t,.int 1 (s1.toks+1)]},toks:=s1.toks+1+1}:=I1.kept fun b o e=>bi _ e
 obtain⟨hsz,gw⟩:=hit;have rv:Vals ((i8 j.toNat).map fun i=>V.int (i:Nat)) eF.toList :=by
  refine jL (by simpa using hsz.symm) fun i v e=>?_
  rw[cr]at e;cases q2:(i8 j.toNat)[i]? with
  |none=>rw[q2]at e;cases e
  |some k=>
   rw[q2]at e;have ek:k=i :=by
    obtain⟨_,e3⟩:=br.mp q2;simpa using e3.symm
   have hi:i<eF.size :=by
    have:=(br.mp q2).1;rw[Cf]at this;omega
   obtain⟨t2,e4⟩:=gw i eF[i] (by simp[hi])
   refine⟨eF[i],by simp[hi],?_⟩
   rw[e4];have e5:v=V.int (k:Nat):=(i4 e).symm;rw[e5,ek];exact⟨t2,by simp⟩
 have ob:bj X.prog X.w (upd H1 (s1.heap.push {cls:=.type "range",data:=.fields #[.int 0 s1.toks,.int j t,.int 1 (s1.toks+1)]}).objs.size (.lst ((i8 j.toNat).map fun i=>V.int (i:Nat)))) h' (s1.heap.push {cls:=.type "range",data:=.fields #[.int 0 s1.toks,.int j t,.int 1 (s1.toks+1)]}).objs.size (.lst ((i8 j.toNat).map fun i=>V.int (i:Nat))) :=by
  refine⟨?_,eF.toList,c',rv,by simpa using hS⟩
  rw[cb,Cf];exact sw (show j.toNat<=2 ^ 24 by omega) (by decide)
 exact⟨.ref _,_,I2.laid (t':=tk) hk (bv _) ob,rfl,q _ (I2.hok.fresh (bv _))⟩
end
theorem z5:bootBuiltins "int" = some (.type "int") :=by decide +kernel
theorem FA:bootBuiltins "bool" = some (.type "bool") :=by decide +kernel
theorem fS:bootBuiltins "tuple" = some (.type "tuple") :=by decide +kernel
theorem FC:bootBuiltins "list" = some (.type "list") :=by decide +kernel
theorem tO:bootBuiltins "min" = some (.builtin "min") :=by decide +kernel
theorem Iy:bootBuiltins "max" = some (.builtin "max") :=by decide +kernel
theorem Iz:bootBuiltins "abs" = some (.builtin "abs") :=by decide +kernel
theorem d7:bootBuiltins "isinstance" = some (.builtin "isinstance") :=by decide +kernel
structure Bl (mg:db->Option am):Prop where
 len_:mg "len" = none
 range_:mg "range" = none
 min_:mg "min" = none
 max_:mg "max" = none
 abs_:mg "abs" = none
 list_:mg "list" = none
 tuple_:mg "tuple" = none
 int_:mg "int" = none
 str_:mg "str" = none
 bool_:mg "bool" = none
 isinstance_:mg "isinstance" = none
 all_:mg "all" = none
 set_:mg "set" = none
 sorted_:mg "sorted" = none
 zip_:mg "zip" = none
 enumerate_:mg "enumerate" = none
 sum_:mg "sum" = none
 reversed_:mg "reversed" = none
 divmod_:mg "divmod" = none
 any_:mg "any" = none
 ValueError_:mg "ValueError" = none
structure Df (K:bn) (mg:db->Option am) (x:db) (st:wp) (ps:List db) (f:ap) (fd:rc):Prop where
 fn:q9 K x x st f fd
 bd:Binds K fd ps []
 mg:mg x=some (.ref f)
structure Eh (base:i0) (fd:rc) (c P:ap):Prop where
 code:fd.code=.ref c
 hd:u7 base c P
section
variable {P:ii}{w:ij}{K:bn}{mg:db->Option am}{base:i0}
theorem q9.Qa {x qual:db}{st:wp}{f:ap}{fd:rc}{N ps:List db}{k:Nat}{sp:Sp}(F:q9 K x qual st f fd) (S:aZ N ps (au st)) (len:∀vs H Q E,sp vs H Q E->vs.length=ps.length)
  (oO:∀(A:mf) (outer:List SM) (s:ar) (H:Hp) (vs:List V) (Q:VK) (E:XK),cB k (A.deeper (envOfC qual (au st) s.heap.objs.size f fd.code))->sp vs H Q E->
   ∃t,fZ (fR bF P w K mg base N qual (au st) f fd.code A outer s H E).nh (dq st) t/\t {nx:=fun _ H'=>Q .ai H',rt:=Q} (start N vs) H):FnOk P w K mg base bF (k+1) f fd ps sp :=by
 obtain⟨oc,od,kV,doc,pm,an,dE,ct,jv,rfl,lk,hZ⟩:=F.ex;refine Eb lk hZ S len fun A outer s H vs Q E hr ni=>?_
 obtain⟨t,h,q⟩:=oO A outer s H vs Q E hr ni;exact⟨t,h.nh,q⟩
end
def R6:V->Bool | .int _=>true|_=>false
def below (m:Int):V->Bool | .int i=>decide (0<=i) && decide (i<m)|_=>false
structure cO (net:List (List Int)) (w:Nat):Prop where
 one:1<=net.length
 nine:net.length<=9
 wid:w=2\/w=3
 row:∀r∈net,r.length=w/\∀g∈r,0<=g/\g<(net.length:Int)
theorem iH {α β:Type}{F:α->β->Prop}:∀{xs:List α}{ys:List β}{i:Nat}{y:β},wn F xs ys->ys[i]?=some y->∃x,xs[i]?=some x/\F x y
 |_,_,_,_,.nil,e=>by simp at e
 |_,_,0,_,.cons f _,e=>by simp at e;subst e;exact⟨_,rfl,f⟩
 |_,_,i+1,y,.cons _ t,e=>by
          obtain⟨x,h1,h2⟩:=iH (i:=i) (y:=y) t (by simpa using e)
          exact⟨x,by simpa using h1,h2⟩
def Ei (tb:List ap) (H:Hp):Prop:=∀p∈tb,Tb p H
def Lz (H:Hp) (b:ap):Prop:=∃c m:Int,H b=some (.lst [.int c,.int m])/\0<=c/\0<=m
def Runs (J:It) (ys:List V) (H:Hp):Prop:=∀i,(i<ys.length->J.go i H/\∀x H',J.yld i H x H'->H'=H/\ys[i]?=some x)/\(ys.length<=i->J.stop i H)
theorem CC {K:bn}{a:ap}{ys:List V}{H:Hp}(h:bC K H a ys):Runs (Hu K a) ys H:=fun i=>
 ⟨fun hi=>⟨⟨ys,ys[i],h,ag hi⟩,fun x H' y=>⟨y.1,y.2 ys h⟩⟩,fun hi=>⟨ys,h,hi⟩⟩
theorem z6 {K:bn}{a:ap}{ys:List V}{H:Hp}(h:bG K H a ys):Runs (Ht K a) ys H:=fun i=>
 ⟨fun hi=>⟨⟨ys,ys[i],h,ag hi⟩,fun x H' y=>⟨y.1,y.2 ys h⟩⟩,fun hi=>⟨ys,h,hi⟩⟩
theorem xQ {lo:Int}{n:Nat}{H:Hp}:Runs (D6 lo n) ((i8 n).map fun i=>V.int (lo+(i:Nat))) H:=fun i=>by
 have el:((i8 n).map fun i=>V.int (lo+(i:Nat))).length=n :=by simp
 rw[el];refine⟨fun hi=>⟨hi,fun x H' y=>?_⟩,fun hi=>hi⟩
 obtain⟨e1,e2⟩:=y;refine⟨e1,?_⟩;rw[e2,cr,JJ hi];rfl
section
variable {X:Cx}{K:bn}
theorem wm (h:X.K=K):lz X (MR K):=h▸HW
theorem z7 (h:X.K=K):bV X (.builtin "len") (fun xs H Q=>∃x n,xs=[x]/\HG K x H n/\Q (.int n) H):=h▸Cj
theorem sf (h:X.K=K):bV X (.type "list") (fun xs H Q=>∃p ys,xs=[.ref p]/\(bG K H p ys\/bC K H p ys)/\∀l,H l=none->Q (.ref l) (upd H l (.lst ys))):=h▸tj
theorem qf (h:X.K=K):bV X (.type "tuple") (fun xs H Q=>∃p ys,xs=[.ref p]/\((bG K H p ys/\∀l,H l=none->Q (.ref l) (upd H l (.tup ys)))\/(bC K H p ys/\Q (.ref p) H))):=h▸se
theorem tP (h:X.K=K):bV X (.builtin "isinstance") (fun xs H Q=>∃x T t b,xs=[x,.ty T]/\fQ K H x t/\UU K t (.type T)=some b/\Q (.bl b) H):=h▸vy
theorem CD {tg l:gl}{tl:TE}(h:X.K=K) (hl:PE X l tl):PI X tg l (D7 K tl):=h▸Ff hl
theorem FD {tg l:gl}{tl:TE}(h:X.K=K) (hl:PE X l tl):PI X tg l (Hv K tl):=h▸Hw hl
variable {o e:gl}{es:List gl}{to:TE}{t:TA}{name:db}{apos aR:ze}{T id:String}{r:V->List V->Hp->VK->Prop}
theorem IA (h:X.K=K) (pa:PlainAttrs T) (slot:Slot T name id) (zL:typeOf (.builtin id)=pure (.type "method_descriptor")) (hm:zJ X id r) (ho:PE X o to) (ha:PA X (e::es) t) (iG:attributeBase o name X.env (eval o X.env)=eval o X.env :=by rfl)
  (kg:((backTo aR (starEach (e::es) X.env)).all (fun x => !x.1) && (backToKw aR (keywordEach [] X.env)).all (fun x=>x.1.isSome)
   && decide ((e::es).length+([]:List RS).length+(if ([]:List RS).isEmpty then 0 else 1)<30))=true :=by rfl)
  (hline:(apos.endLine==aR.line)=true :=by rfl) (hs:starEach (e::es) X.env=(false,eval e X.env)::starEach es X.env :=by rfl) (gr:(backTo aR (starEach es X.env)).any (·.1)=false :=by rfl) :
  PE X (.Call (.Attribute o name apos) (e::es) [] aR) (MS K T r to t):=h▸Lv pa slot zL hm ho ha iG kg hline hs gr
end
abbrev cz (K:bn) (x:db) (st:wp):Prop:=
 ∃(f:ap) (oc:am) (od:Option ap) (sl:Array (Option am)) (kV dc pm:am) (an:Option ap) (cd ct:am),
  on K mainGlobals x=some (some (.ref f))/\K.lookup f=some ⟨oc,od,.func (KB x x (gb st) (dq st) (au st) .none kV dc pm an cd ct),sl⟩/\TW K cd x=true/\S3 K (.ref f)=true
theorem bu {K:bn}{x:db}{st:wp}{f:ap}{oc:am}{od:Option ap}{sl:Array (Option am)}{kV dc pm:am}{an:Option ap}{cd ct:am}(a:on K mainGlobals x=some (some (.ref f)))
  (l:K.lookup f=some ⟨oc,od,.func (KB x x (gb st) (dq st) (au st) .none kV dc pm an cd ct),sl⟩) (c:TW K cd x=true) (k:S3 K (.ref f)=true):cz K x st:=⟨f,oc,od,sl,kV,dc,pm,an,cd,ct,a,l,c,k⟩
section
variable {K:bn}{mg:db->Option am}{h base:i0}
theorem cz.df {x:db}{st:wp}(d:cz K x st) (X:K.In h) (G:h.Ns mainGlobals mg) (ps:List db)
  (hb:∀(kV doc pm:am) (an:Option ap) (dE ct:am) (us:List am),us.length=ps.length->bindArgs (KB x x (gb st) (dq st) (au st) .none kV doc pm an dE ct) ⟨us,[]⟩=pure (ps.zip us)) :
  ∃f fd,Df K mg x st ps f fd :=by
 obtain⟨f,oc,od,sl,kV,dc,pm,an,cd,ct,a,l,c,k⟩:=d;have F:=Ie (st:=st) l c k;exact⟨f,_,F,F.binds hb,Tq X G a⟩
theorem z8 {x:db}{st:wp}{ps:List db}{f p:ap}{fd:rc}(D:Df K mg x st ps f fd) (X:K.In h)
  (t:∃f o fd c,mg x=some (.ref f)/\h.get? f=some o/\o.data=.func fd/\fd.code=.ref c/\u7 h c p) (tr:∀c p,u7 h c p->u7 base c p):∃c,Eh base fd c p :=by
 obtain⟨f',o,Qb,c,e1,e2,e3,e4,e5⟩:=t;obtain⟨oc,od,kV,doc,pm,an,dE,ct,jv,rfl,lk,hZ⟩:=D.fn.ex;have e:=D.mg.symm.trans e1;cases e;have q:=(X _ _ lk).symm.trans e2;cases q;cases e3;exact⟨c,e4,tr _ _ e5⟩
theorem Df.bind1 {x y:db}{st:wp}{f:ap}{fd:rc}(D:Df K mg x st [y] f fd) (s:ar) (v:am)
  (hb:∀(kV doc pm:am) (an:Option ap) (dE ct:am) (u:am),bindArgs (KB x x (gb st) (dq st) (au st) .none kV doc pm an dE ct) ⟨[u],[]⟩=pure [(y,u)]):Vm s fd ⟨[v],[]⟩ [(y,v)] :=by
 obtain⟨oc,od,kV,doc,pm,an,dE,ct,jv,rfl,lk,hZ⟩:=D.fn.ex;exact .of_eq (hb kV doc pm an dE ct v)
theorem cU {α β:Type}{F:α->β->Prop}{a:α}{r:List α}{t:List β}(h:wn F (a::r) t):∃b t',t=b::t'/\F a b/\wn F r t':=by
 cases h with
 |cons x y=>exact⟨_,_,rfl,x,y⟩
theorem recs_of {q:ii}{k6:List db}(h:(k6.all fun y=>(recsOf q).any fun r=>decide (r.name=y))=true):∀y∈k6,∃r∈recsOf q,r.name=y:=fun y hy=>by
 have:=wE.mp h y hy;obtain⟨r,hr,e⟩:=List.any_eq_true.mp this;exact⟨r,hr,of_decide_eq_true e⟩
end
def jA (xs:Array Nat):Prop:=xs.toList.Pairwise (· < ·)
theorem i5 {xs:Array Nat}(h:jA xs) {i j:Nat}(tQ:i<j) (hj:j<xs.size):xs[i]<xs[j] :=by
 have:=GG.mp h i j (by simpa using Nat.lt_trans tQ hj) (by simpa using hj) tQ
 simpa using this
theorem below_go {xs:Array Nat}{v:Nat}(h:jA xs):∀(fuel lo hi:Nat),hi - lo<=fuel->lo<=hi->hi<=xs.size->(∀i (dh:i<xs.size),i<lo->xs[i]<v)->(∀i (dh:i<xs.size),hi<=i->v<=xs[i])->
  T7 xs v fuel lo hi<=xs.size/\(∀i (dh:i<xs.size),i<T7 xs v fuel lo hi->xs[i]<v)/\∀i (dh:i<xs.size),T7 xs v fuel lo hi<=i->v<=xs[i]
 |0,lo,hi,hf,h1,h2,ha,hb=>by
          have e:lo=hi :=by omega
          subst e;exact⟨h2,ha,hb⟩
 |fuel+1,lo,hi,hf,h1,h2,ha,hb=>by
          unfold T7;by_cases aQ:lo<hi
          ·rw[if_pos aQ];dsimp only;have hm:(lo+hi) / 2<xs.size :=by omega
           have e:xs.getD ((lo+hi) / 2) v=xs[(lo+hi) / 2] :=by simp[Mc,hm]
           rw[e];by_cases hc:xs[(lo+hi) / 2]<v
           ·rw[if_pos hc];refine below_go h fuel _ _ (by omega) (by omega) h2 (fun i dh hl=>?_) hb
            by_cases ei:i=(lo+hi) / 2
            ·subst ei;exact hc
            ·exact Nat.lt_trans (i5 h (show i<(lo+hi) / 2 by omega) hm) hc
           ·rw[if_neg hc];refine below_go h fuel _ _ (by omega) (by omega) (by omega) ha (fun i dh hl=>?_)
            by_cases ei:i=(lo+hi) / 2
            ·subst ei;exact Tj hc
            ·exact sw (Tj hc) (S1 (i5 h (show (lo+hi) / 2<i by omega) dh))
          ·rw[if_neg aQ];have e:lo=hi :=by omega
           subst e;exact⟨h2,ha,hb⟩
theorem i6 {xs:Array Nat}(v:Nat) (h:jA xs):lw xs v<=xs.size/\(∀i (dh:i<xs.size),i<lw xs v->xs[i]<v)/\∀i (dh:i<xs.size),lw xs v<=i->v<=xs[i]:=
 below_go h _ _ _ (by omega) (kv _) (bv _) (fun i _ z=>absurd z (VB _)) (fun i z z'=>absurd z (Nat.not_lt.mpr z'))
theorem xR {xs:Array Nat}{v:Nat}(h:jA xs) (hn:xs[lw xs v]?≠some v):jA (wS xs (lw xs v) v) :=by
 obtain⟨b0,b1,b2⟩:=i6 v h;generalize lw xs v=p at *
 unfold jA wS;have e:((xs.extract 0 p).push v++xs.extract p xs.size).toList=xs.toList.take p++[v]++xs.toList.drop p :=by
  simp;exact KM (by simp)
 rw[e];have hl:∀y∈xs.toList.take p,y<v:=fun y hy=>by
  obtain⟨i,hi,rfl⟩:=List.mem_take_iff_getElem.mp hy;have gK:i<p/\i<xs.size :=by simpa[Nat.lt_min] using hi
  simpa using b1 i gK.2 gK.1
 have hr:∀y∈xs.toList.drop p,v<y:=fun y hy=>by
  obtain⟨i,hi,rfl⟩:=List.mem_drop_iff_getElem.mp hy;have gK:p+i<xs.size :=by rw[TM];simpa using hi
  have h1:v<=xs[p+i]:=b2 (p+i) gK (Nat.le_add_right _ _);have h2:v≠xs[p+i]:=fun z=>by
   by_cases Qc:i=0
   ·subst Qc;exact hn (by rw[Nat.add_zero]at gK;rw[mv gK];simpa using z.symm)
   ·have q:=i5 h (show p<p+i by omega) gK
    have q2:=b2 p (by omega) (bv _)
    omega
  have:xs.toList[p+i]'(by simpa using gK)=xs[p+i] :=by simp
  rw[this];omega
 have hp:=Pc p xs.toList;have Qd:(xs.toList.take p++xs.toList.drop p).Pairwise (· < ·) :=by rw[hp];exact h
 obtain⟨q1,q2,q3⟩:=UD.mp Qd;refine UD.mpr ⟨UD.mpr ⟨q1,IN _ _,fun a ha b hb=>?_⟩,q2,fun a ha b hb=>?_⟩
 ·rw[lp]at hb;subst hb;exact hl a ha
 ·rcases xb.mp ha with ha|ha
  ·exact q3 a ha b hb
  ·rw[lp]at ha;subst ha;exact hr b hb
structure a8 (w:ij) (t:jp):Prop where
 dum:t.dummies=#[]
 ris:jA t.place
 led:t.led = !w.params.followText "set-order"
theorem z9 (n:Nat):jA (Array.range n) :=by
 unfold jA;rw[Array.toList_range];exact SX
theorem a8.standIn {w:ij}{t:jp}(h:a8 w t) (n:Nat):a8 w (t.standIn n):=⟨rfl,z9 n,h.led⟩
theorem a8.orStandIn {w:ij}{t:jp}(h:a8 w t) (n:Nat):a8 w (t.orStandIn n) :=by
 unfold jp.orStandIn;split
 ·exact h
 ·exact h.standIn n
theorem qg (j:Nat):jp.has #[] j=false :=by
 unfold jp.has;have:(#[]:Array Nat)[lw #[] j]?=none :=by simp
 rw[this];rfl
theorem tR {w:ij}{t:jp}(h:a8 w t) {hashAt:Nat->Int}{hh:Int}{j:Nat}{d:Option Nat}:∀(fuel:Nat) (p:Sc),p.dummy=none->Pi t hashAt hh fuel p=some (.empty j d)->t.slot j=.empty/\d=none
 |0,p,_,e=>by simp[Pi]at e
 |fuel+1,p,hp,e=>by
          unfold Pi at e;have O1:∀p:Sc,(t.advance p).dummy=p.dummy:=fun p=>by
           unfold jp.advance;split<;>rfl
          cases hs:t.slot p.j with
          |empty=>
           rw[hs]at e;have e':=i4 e;injection e' with e1 e2
           exact⟨by rw[<- e1];exact hs,by rw[<- e2];exact hp⟩
          |dummy=>
           exfalso
           unfold jp.slot at hs;dsimp only at hs;rw[h.dum,qg]at hs;split at hs<;>simp at hs
          |live i=>
           rw[hs]at e;dsimp only at e;split at e
           ·simp at e
           ·exact tR h fuel _ (by rw[O1];exact hp) e
theorem xS {w:ij}{t:jp}(h:a8 w t) {j:Nat}(e:t.slot j=.empty):t.place[lw t.place j]?≠some j:=fun z=>by
 unfold jp.slot at e;dsimp only at e;rw[z]at e;simp at e
theorem a8.put {w:ij}{t:jp}(h:a8 w t) {j:Nat}(e:t.slot j=.empty):a8 w (t.put j).1 :=by
 unfold jp.put;refine⟨?_,xR h.ris (xS h e),h.led⟩;show (if jp.has t.dummies j then _ else t.dummies)=#[]
 rw[h.dum,qg];rfl
theorem a8.layNew {w:ij}{t:jp}(h:a8 w t) (es:Array (Int×am)) (hh:Int) (x:am):a8 w (layNew t es hh x).2.1 :=by
 unfold PySem.layNew;split
 ·rename_i slot nO hf;unfold jp.freeSlot at hf;refine(a8.put h ?_).orStandIn _;split at hf
  ·rename_i j dummy hp;obtain⟨e1,e2⟩:=tR h _ _ rfl hp;subst e2;have:=i4 hf;injection this with z1 _
   rw[<- z1];exact e1
  ·cases hf
 ·exact h.standIn _
theorem tS {α:Type}(f:Nat->Option α) (n:Nat):jA (((i8 n).filterMap fun j=>(f j).map (j,·)).map (·.1)).toArray :=by
 unfold jA;have e:(((i8 n).filterMap fun j=>(f j).map (j,·)).map (·.1)).toArray.toList=(i8 n).filter fun j=>(f j).isSome :=by
  rw[Tt];induction i8 n with
  |nil=>rfl
  |cons a l ih=>
   cases hf:f a with
   |none=>simp[NH,hf,ih]
   |some b=>simp[NH,hf,ih]
 rw[e];exact Tp.filter _ SX
theorem a8.LA {w:ij}{t:jp}(h:a8 w t) (es:Array (Int×am)) (wanted:Nat):a8 w (relayAll t es wanted).2.1 :=by
 unfold relayAll;split
 ·rename_i t' order hr;dsimp only;split
  ·unfold jp.relaid jp.laid at hr;simp only[Option.bind_eq_bind,Option.bind_eq_some_iff,Option.pure_def]at hr;obtain⟨owner,_,hr⟩:=hr;have:=i4 hr;injection this with z1 _
   subst z1;exact⟨rfl,tS (fun j=>owner.getD j none) _,h.led⟩
  ·exact h.standIn _
 ·exact h.standIn _
theorem a8.nP {w:ij}{t:jp}(h:a8 w t) (b:Bool):a8 w (if b=true then t else {t with plain:=false}) :=by
 split
 ·exact h
 ·exact⟨h.dum,h.ris,h.led⟩
def dA (e:Int×am):Int:=match e.2 with | .int i _=>i|_=>0
def b9 (P:ii) (w:ij) (h:i0) (a:ap) (ns:List Int):Prop:=
 ∃o es ep t,h.get? a=some o/\o.ExactSet/\o.data=.set es ep t/\UV (intKind P w) es.toList/\(es.toList.map dA).Perm ns/\ns.Nodup/\es.size<scanBound/\t.fits es.size=true/\a8 w t
theorem b9.bB {P:ii}{w:ij}{h h':i0}{a:ap}{ns:List Int}(x:b9 P w h a ns) (k:∀o,h.get? a=some o->h'.get? a=some o):b9 P w h' a ns:=
 let ⟨o,es,ep,t,e,r⟩:=x;⟨o,es,ep,t,k o e,r⟩
def nQ (P:ii) (w:ij) (a:ap) (ns:List Int):HO:=.ext fun h=>b9 P w h a ns
def dJ (ns:List Int) (m:Int):List Int:=if m∈ns then ns else ns++[m]
theorem vz {P:ii}{w:ij}{es:List (Int×am)}(h:UV (intKind P w) es) {k:Int}:(∃e∈es,(intKind P w).is k e.2=true) ↔ k∈es.map dA :=by
 constructor
 ·rintro⟨e,he,hk⟩;obtain⟨t,e2⟩:=T6 (k:=k) (v:=e.2) hk;exact kt.mpr ⟨e,he,by unfold dA;rw[e2]⟩
 ·intro hm;obtain⟨e,he,q⟩:=kt.mp hm;obtain⟨⟨k',jV,_⟩,_⟩:=h e he;obtain⟨t,e2⟩:=T6 (k:=k') (v:=e.2) jV;have:k'=k :=by rw[<- q];unfold dA;rw[e2]
  exact⟨e,he,this▸jV⟩
section
variable {P:ii}{w:ij}{A:mf}{E:am->ar->Prop}{s:ar}
theorem oX {h:i0}{a:ap}{o:l8}{es:Array (Int×am)}{ep:Nat}{t:jp}(ho:h.get? a=some o) (hex:o.ExactSet) (hd:o.data=.set es ep t)
  {b6:Array (Int×am)} {t':jp} {ns:List Int} (jB:UV (intKind P w) b6.toList) (hp:(b6.toList.map dA).Perm ns) (hn:ns.Nodup) (hb:b6.size<scanBound) (hf:t'.fits b6.size=true) (ht:a8 w t') :
  (h.update a (Op b6 t')).get? a=some {o with data:=.set b6 (ep+1) t'}/\b9 P w (h.update a (Op b6 t')) a ns :=by
 have hg:(h.update a (Op b6 t')).get? a=some {o with data:=.set b6 (ep+1) t'}:=by
  have:=uu (Op b6 t') ho (by rw[UZ b6 t' hd];rfl)
  rw[UZ b6 t' hd]at this;exact this
 exact⟨hg,_,b6,ep+1,t',hg,hex,rfl,jB,hp,hn,hb,hf,ht⟩
theorem tT {g:Bool->TH Unit}(hg:∀(b:Bool) (av:ar) (Q':Unit->ar->Prop),Q' () av->wpAny (model P w) A (g b) Q' E av)
  {a:ap} {o:l8} {es:Array (Int×am)} {ep:Nat} {t:jp} (ho:s.heap.get? a=some o) (hex:o.ExactSet) (hd:o.data=.set es ep t)
  {cg:Array (Int×am)} {t2:jp} {ns:List Int} (tU:UV (intKind P w) cg.toList) (tV:(cg.toList.map dA).Perm ns) (hn:ns.Nodup)
  (wo:cg.size<scanBound) (Qe:t2.fits cg.size=true) (Nh:a8 w t2) {nO:Bool} {R:Option Bool->ar->Prop}
  (h:∀h',v6 a s.heap h'->b9 P w h' a ns->R (some true) {s with heap:=h'}) :
  wpAny (model P w) A (do
    storeSet a cg t2
    if (!nO && t2.tooFull)=true then do
      g (relayAll t2 cg (LH cg.size)).2.2
      storeSet a (relayAll t2 cg (LH cg.size)).1 (relayAll t2 cg (LH cg.size)).2.1
      pure (some true)
     else pure (some true)) R E s :=by
 refine ac (T8 ho hd ?_ (T9 wo));obtain⟨oY,tW⟩:=oX (P:=P) (w:=w) ho hex hd tU tV hn wo Qe Nh;have IB:=AC s.heap a (Op cg t2);split
 ·have hp:=relayAll_perm t2 cg (LH cg.size);have tu:=relayAll_fits t2 cg (LH cg.size);have zW:=Nh.LA cg (LH cg.size);generalize relayAll t2 cg (LH cg.size)=Rl at hp tu zW ⊢
  obtain⟨Ni,t3,RH⟩:=Rl;dsimp only at hp tu zW ⊢;have hsz:Ni.size=cg.size :=by rw[<- io,hp.length_eq,io]
  have lJ:Ni.size<scanBound :=by rw[hsz];exact wo
  refine ac (hg _ _ _ (ac (T8 oY rfl ?_ (T9 lJ))));obtain⟨_,wq⟩:=oX (P:=P) (w:=w) oY hex rfl (tU.perm hp) ((hp.map dA).trans tV) hn lJ tu zW;exact ba (h _ (IB.trans (AC _ a _)) wq)
 ·exact ba (h _ IB tW)
theorem Aa {a:ap}{ns:List Int}{m:Int}{tk:Tok}{Q:Bool->ar->Prop}(hS:b9 P w s.heap a ns) (mQ:ns.length+1<scanBound)
  (h:∀h',v6 a s.heap h'->b9 P w h' a (dJ ns m)->Q (decide (m ∉ ns)) {s with heap:=h',toks:=s.toks+1}):wpAny (model P w) A (setAdd a (.int m tk)) Q E s :=by
 unfold setAdd;refine wT (ac ((intKind P w).pyHash (k:=m) (intKind_is _ _ _ _) ?_));have xC:(intKind P w).is m (.int m tk)=true:=intKind_is _ _ _ _;obtain⟨o,es,ep,t,ho,hex,hd,jB,hp,hn,hb,hf,ht⟩:=hS;have qh:∀k,(∃e∈es.toList,(intKind P w).is k e.2=true) ↔ k∈ns:=fun k=>(vz jB).trans hp.mem_iff
 have hlen:es.size=ns.length :=by rw[<- io,<- hp.length_eq,cb]
 unfold setAddHashed setAddHashedIn;refine wT (ac (Ch (s:={s with toks:=s.toks+1}) ho hd hf ?_))
 dsimp only;rw[byScan_of (x:=.int m tk) rfl hb jB];simp only[↓reduceIte];unfold setAddByScan;refine ac (ac (FS (ac (wpAny_setScan_of xC ho hd hf jB ?_))));cases hr:List.findIdx? (fun e=>(intKind P w).is m e.2) es.toList with
 |some j=>
  dsimp only;obtain⟨hj,Qf,_⟩:=List.findIdx?_eq_some_iff_getElem.mp hr;have hm:m∈ns:=(qh m).mp ⟨es.toList[j],DD hj,Qf⟩;have:=h s.heap (v6.refl a s.heap) (by unfold dJ;rw[if_pos hm];exact⟨o,es,ep,t,ho,hex,hd,jB,hp,hn,hb,hf,ht⟩)
  rw[decide_eq_false (fun z=>z hm)]at this
  exact ba (ba this)
 |none=>
  dsimp only;have hm:m ∉ ns:=fun z=>by
   obtain⟨e,he,q⟩:=(qh m).mpr z;have:=List.findIdx?_eq_none_iff.mp hr e he;rw[q]at this;cases this
  have mR:=layNew_perm t es ((intKind P w).hash m) (.int m tk);have oZ:=layNew_fits t es ((intKind P w).hash m) (.int m tk);have i7:=ht.layNew es ((intKind P w).hash m) (.int m tk);generalize layNew t es ((intKind P w).hash m) (.int m tk)=L at mR oZ i7 ⊢
  obtain⟨cg,t1,nO,RU⟩:=L;dsimp only at mR oZ i7 ⊢;rw[Array.toList_push]at mR;have tU:UV (intKind P w) cg.toList:=(jB.push xC rfl).perm mR;have xT:dJ ns m=ns++[m] :=by unfold dJ;rw[if_neg hm]
  have tV:(cg.toList.map dA).Perm (dJ ns m) :=by
   rw[xT];refine(mR.map dA).trans ?_;rw[r6];exact Rs.append hp (.refl _)
  have Ej:(dJ ns m).Nodup :=by
   rw[xT];exact S0.mpr ⟨hn,by simp,fun a ha b hb=>by rw[lp]at hb;rw[hb];exact fun z=>hm (z▸ha)⟩
  have wo:cg.size<scanBound :=by rw[<- io,mR.length_eq,rf,io,hlen];simpa using mQ
  have IC:∀(b:Bool) (av:ar) (Q':Unit->ar->Prop),Q' () av->wpAny (model P w) A (match b with|true=>rule "set.scan.the-table-gave-way" |false=>pure ()) Q' E av:=
   fun b av Q' hq=>by cases b<;>first|exact ba hq|exact FS hq
  have IE:∀h',v6 a s.heap h'->b9 P w h' a (dJ ns m)->Q true {s with heap:=h',toks:=s.toks+1}:=by
   intro h' iZ dQ;have:=h h' iZ dQ;rw[decide_eq_true hm]at this;exact this
  refine ac (IC _ _ _ ?_);split
  ·refine ac ?_;rw[hashByValue_scannable 8 (x:=.int m tk) rfl];refine ba (tT (P:=P) (w:=w) (s:={s with toks:=s.toks+1}) IC ho hex hd tU tV Ej wo ?_ (i7.nP _) fun h' iZ dQ=>ba (IE h' iZ dQ))
   split
   ·exact oZ
   ·exact jp.fits_plain_off oZ
  ·refine ac (ba ?_);simp only[↓reduceIte];exact tT (P:=P) (w:=w) (s:={s with toks:=s.toks+1}) IC ho hex hd tU tV Ej wo oZ i7 fun h' iZ dQ=>ba (IE h' iZ dQ)
theorem xU {ns:List Int}(h:ns.Nodup) (m:Int):(dJ ns m).Nodup :=by
 unfold dJ;split
 ·exact h
 ·rename_i hm;exact S0.mpr ⟨h,by simp,fun a ha b hb=>by rw[lp]at hb;rw[hb];exact fun z=>hm (z▸ha)⟩
theorem CF {ns:List Int}{m k:Int}:k∈dJ ns m ↔ k∈ns\/k=m :=by
 unfold dJ;split
 ·rename_i hm;exact⟨.inl,fun h=>h.elim id fun e=>e▸hm⟩
 ·simp
theorem CG {ns:List Int}{m:Int}:(dJ ns m).length<=ns.length+1 :=by
 unfold dJ;split
 ·omega
 ·simp
end
def cC (ns:List Int):List Int:=ns.foldl dJ []
theorem Ab (ns:List Int) (m:Int):cC (ns++[m])=dJ (cC ns) m :=by
 unfold cC;rw[IR];rfl
theorem xV (ns:List Int):(cC ns).Nodup :=by
 unfold cC;have:∀(l acc:List Int),acc.Nodup->(l.foldl dJ acc).Nodup:=fun l=>by
  induction l with
  |nil=>exact fun acc h=>h
  |cons a l ih=>exact fun acc h=>ih _ (xU h a)
 exact this ns [] .nil
theorem tX {ns:List Int}{k:Int}:k∈cC ns ↔ k∈ns :=by
 unfold cC;have:∀(l acc:List Int),k∈l.foldl dJ acc ↔ k∈acc\/k∈l:=fun l=>by
  induction l with
  |nil=>intro acc;simp
  |cons a l ih=>
   intro acc;rw[ON,ih,CF,li];constructor
   ·rintro ((h|h)|h)
    ·exact .inl h
    ·exact .inr (.inl h)
    ·exact .inr (.inr h)
   ·rintro (h|h|h)
    ·exact .inl (.inl h)
    ·exact .inl (.inr h)
    ·exact .inr h
 rw[this];simp
theorem nR (ns:List Int):(cC ns).length<=ns.length :=by
 unfold cC;have:∀(l acc:List Int),(l.foldl dJ acc).length<=acc.length+l.length:=fun l=>by
  induction l with
  |nil=>intro acc;simp
  |cons a l ih=>
   intro acc;rw[ON,xw];have h1:=ih (dJ acc a);have h2:=@CG acc a;omega
 simpa using this ns []
section
variable {P:ii}{w:ij}{A:mf}{R:VR->ar->Prop}{I:ap}{fp wr:List ap}{G:Array Tf->Array Tf->Prop}{n:Nat}{St:Nat->ar->Prop}
theorem CH {vs:List Int}{Pv:Nat->am->Prop}(W:VL P w A.in1 I fp wr G vs.length Pv St) (S:ap) (k7:S ∉ fp) (CI:∀(i:Nat) (v:am),Pv i v->∃m t,vs[i]?=some m/\v=.int m t) (hb:vs.length+1<scanBound) :
  ∀(k i:Nat) (s:ar),vs.length - i=k->i<=vs.length->St i s->b9 P w s.heap S (cC (vs.take i))->
   (∀s',Moved (S::wr) G s s'->b9 P w s'.heap S (cC vs)->R (.ok (.ret .none)) s')->
   codeAny (model P w) A (.builtin "set.update.loop" ⟨[.ref S,.ref I],[]⟩) R s :=by
 have Nj:S ∉ wr:=fun h=>k7 (W.sub _ h)
 have i9:∀b∈wr,b∈S::wr:=fun b hb=>dL _ hb
 intro k;induction k with
 |zero=>
  intro i s hk hi jO hS hR;have Ek:i=vs.length :=by omega
  subst Ek;refine ww F.entry_set_update_loop ?_;rw[tz T4 _];show wpAny _ A.in1 (pyNext (.ref I)>>=_) _ _ s;refine ac (W.done s _ _ jO fun s' hm=>?_)
  rw[DO]at hS;exact ba (hR s' (hm.mono i9) (hS.bB fun o e=>hm.heap S _ Nj e))
 |succ k ih=>
  intro i s hk hi jO hS hR;have aQ:i<vs.length :=by omega
  refine ww F.entry_set_update_loop ?_;rw[tz T4 _];show wpAny _ A.in1 (pyNext (.ref I)>>=_) _ _ s;refine ac (W.item i s _ _ aQ jO fun v s' hP O2 hm=>?_)
  obtain⟨m,t,jC,rfl⟩:=CI i v hP;have dQ:b9 P w s'.heap S (cC (vs.take i)):=hS.bB fun o e=>hm.heap S _ Nj e
  show wpAny _ A.in1 (holding [VP m t] (setAdd S (.int m t))>>=_) _ _ s';have mQ:(cC (vs.take i)).length+1<scanBound :=by
   have h1:=nR (vs.take i);rw[FM]at h1;omega
  refine ac (wT (Aa dQ mQ fun h' iZ wq=>?_))
  have Qg:b9 P w h' S (cC (vs.take (i+1))) :=by
   rw[List.take_add_one,jC];show b9 P w h' S (cC (vs.take i++[m]));rw[Ab];exact wq
  refine ba ⟨EN T4 _,ih (i+1) _ (by omega) aQ (W.frame _ s' _ _ O2 (Fa _) fun b hb o e=>?_) Qg fun cH O3 O4=>?_⟩
  ·rw[iZ.2 b (fun h:b=S=>k7 (by rw[<- h];exact hb))];exact e
  ·refine hR cH (Moved.trans W.gtrans ((hm.mono i9).then_heap (Fa _) fun b o hb e=>?_) O3) O4
   rw[iZ.2 b (fun h:b=S=>hb (by rw[h];exact i1))];exact e
end
theorem sub_tuple_set:isSubtype (.type "tuple") (.type "set")=pure false :=by rw[ID];kernel_rfl
theorem qi:isSubtype (.type "tuple") (.type "frozenset")=pure false :=by rw[ID];kernel_rfl
section
variable {P:ii}{w:ij}{A:mf}{E:am->ar->Prop}{s:ar}
abbrev dW (w:ij):l8:={cls:=.type "set",dict:=none,data:=.set #[] 0 (.fresh 0 0 (!w.params.followText "set-order"))}
theorem FE {h:i0}:b9 P w (h.push (dW w)) h.objs.size []:=⟨_,#[],0,_,ff _ rfl,⟨rfl,rfl,rfl⟩,rfl,fun e he=>by simp at he,by simp,by simp,by decide,by rfl,rfl,Tp.nil,rfl⟩
theorem CJ (a:am) {Q₁:am->ar->Prop}(h:Q₁ (.ref s.heap.objs.size) {s with heap:=s.heap.push (dW w)}) :
  codeAny (model P w) A (.call (.builtin "set.__new__") ⟨[.type "set",a],[]⟩) (wants Q₁ E) s :=by
 refine SQ ?_;show wpAny _ A.in1 (do checkBuiltinCall "set.__new__" ⟨[.type "set",a],[]⟩;again (.builtin "set.__new__" ⟨[.type "set",a],[]⟩)) _ _ s
 refine ac (KT (F.newCall_set_1 a) (ba ⟨EN UE _,ww F.entry_set_new ?_⟩));rw[tz UE _];unfold l7.«set.__new__» l7.Frozenset.newClass;have i9:=sub_set_self;obtain⟨hp,g,d,tk,os⟩:=s;dsimp only;wp_walk
 refine So (ba ?_);dsimp only;simp only[newObj];refine ac (wpAny_alloc (ba ?_));exact ba h
theorem b9.typeIs {h:i0}{a:ap}{ns:List Int}{s:ar}(x:b9 P w s.heap a ns):s.TypeIs (.ref a) "set" := let ⟨o,_,_,_,ho,hex,_⟩:=x;⟨o,ho,hex.1⟩
theorem lK {T:String}{l:ap}{itob:l8}{vs:List Int}{Pv:Nat->am->Prop}{St:ap->Nat->i0->Prop}{Q:am->ar->Prop}(hh:A.handled=none)
  (hl:∃o,s.heap.get? l=some o) (hT:∀s1:ar,(∀o,s.heap.get? l=some o->s1.heap.get? l=some o)->s1.TypeIs (.ref l) T) (h1:isSubtype (.type T) (.type "set")=pure false) (h2:isSubtype (.type T) (.type "frozenset")=pure false) (h3:(zd T==zd "dict")=false)
  (hit:∀(A':mf) (s1:ar) (Q':am->ar->Prop) (E':am->ar->Prop),(∀o,s.heap.get? l=some o->s1.heap.get? l=some o)->Q' (.ref s1.heap.objs.size) {s1 with heap:=s1.heap.push itob}->wpAny (model P w) A' (pyIter (.ref l)) Q' E' s1)
  (hW:∀(A':mf) (I:ap),A'.handled=none->l≠I->Walks P w A' I [I,l] [I] vs.length Pv (St I)) (Qh:∀h1:i0,(∀o,s.heap.get? l=some o->h1.get? l=some o)->St h1.objs.size 0 (h1.push itob))
  (CI:∀(i:Nat) (v:am),Pv i v->∃m t,vs[i]?=some m/\v=.int m t) (hb:vs.length+1<scanBound)
  (h:∀(h':i0) (tk:Nat),b9 P w h' s.heap.objs.size (cC vs)->(∀b o,s.heap.get? b=some o->h'.get? b=some o)->Q (.ref s.heap.objs.size) {s with heap:=h',toks:=tk}) :
  wpAny (model P w) A (call (.type "set") [.ref l]) Q E s :=by
 obtain⟨c,tl,O5⟩:=BN.mro;have LC:=BN.made;have i9:=BN.sub;refine wpAny_call (SQ ?_);show wpAny _ _ (callAny (.type "set") _) _ _ _
 refine ba ⟨Code.quiet_builtin _ (by decide +kernel),ww F.entry_type_call ?_⟩
 rw[mf.under_plain (weight_type_call_type "set" [.ref l] []) rfl]
 have k1:=BN.notType;have k2:=BN.canCreate;have Qi:=F.typeCall_set_1 (.ref l);repeat (any_goals (first|assumption|wp_step))
 refine S2 (CJ (P:=P) (w:=w) (.ref l) (E:=E) (Q₁:=fun obj av=>obj=.ref s.heap.objs.size/\av={s with heap:=s.heap.push (dW w)}) ⟨rfl,rfl⟩) fun r av hr=>?_
 cases r with
 |error e=>exact hr
 |ok fl=>
  cases fl with
  |ret obj=>
   obtain⟨rfl,rfl⟩:=hr;have hS:(s.heap.push (dW w)).get? s.heap.objs.size=some {cls:=.type "set",dict:=none,data:=.set #[] 0 (.fresh 0 0 (!w.params.followText "set-order"))}:=ff _ rfl
   have Qj:SL {s with heap:=s.heap.push (dW w)} (.ref s.heap.objs.size) "set" := ⟨_,hS,rfl⟩
   have kp:∀b o,s.heap.get? b=some o->(s.heap.push (dW w)).get? b=some o:=fun b o e=>bi _ e
   have sz:(s.heap.push (dW w)).objs.size=s.heap.objs.size+1 :=by rw[Ix]
   have lL:=BN.init.lookup;have Qk:=BN.init.bind (.ref s.heap.objs.size);repeat (any_goals (first|assumption|wp_step))
   refine S2 (codeAny_call_builtin (R:=wants (fun r gM=>r=.none/\∃h' tk,gM={s with heap:=h',toks:=tk}/\b9 P w h' s.heap.objs.size (cC vs) /\
     (∀b o,s.heap.get? b=some o->h'.get? b=some o)) E) BN.init.plain F.entry_set_init (check_set_init_1 Qj ?_)) fun CK gM kn=>?_
   ·have Nk:=hT {s with heap:=s.heap.push (dW w)} (fun o e=>kp l o e)
    unfold l7.«set.__init__» noKeywords l7.Frozenset.updateFrom;generalize Ql:pyIter=PI
    wp_walk
    subst Ql;obtain⟨ol,lM⟩:=hl;have Nm:l<s.heap.objs.size:=gc lM;refine hit _ {s with heap:=s.heap.push (dW w)} _ _ (fun o e=>kp l o e) ?_
    refine ac (TZ ?_);have Qm:A.in1.in1.in1.handled=none :=by simp[hh]
    have O6:l≠(s.heap.push (dW w)).objs.size :=by rw[sz];exact kw (Cc Nm)
    have k7:s.heap.objs.size ∉ [(s.heap.push (dW w)).objs.size,l] :=by
     rw[sz];simp only[li,wP,or_false,not_or];exact⟨kw (Lu _),KF Nm⟩
    refine CH ((hW _ (s.heap.push (dW w)).objs.size Qm O6).toS) s.heap.objs.size k7 CI hb (vs.length - 0) 0 _ (by omega) (kv _) (Qh (s.heap.push (dW w)) fun o e=>kp l o e) (FE.bB fun o e=>bi _ e) ?_
    intro s' hm dQ;obtain⟨h',g',d',Ac,D9⟩:=s';have eg:g'=s.gens:=hm.gens;have ed:d'=s.drawn:=hm.drawn;have eo:D9=s.os:=hm.os;subst eg;subst ed;subst eo;show wpAny _ _ _ _ _ _;refine ba ?_;show wpAny _ _ (ret wv) _ _ _;refine ba ⟨rfl,h',Ac,rfl,dQ,fun b o e=>?_⟩
    have Np:b<s.heap.objs.size:=gc e;refine hm.heap b o ?_ (bi _ (kp b o e));simp only[li,wP,or_false,not_or];exact⟨kw Np,by rw[sz];exact kw (Cc Np)⟩
   ·cases CK with
    |error e=>exact kn
    |ok xW=>
     cases xW with
     |ret r=>
      obtain⟨rfl,h',tk,rfl,dQ,jV⟩:=kn;repeat (any_goals (first|assumption|wp_step))
      exact h _ _ dQ jV
     |_=>exact kn.elim
  |_=>exact hr.elim
end
theorem Ad:Manifest.owners.lookup (String.ofList ['r','o','t','a','r','e','t','i','_','t','e','s'].reverse)=some Manifest.sig_set_iterator :=by kernel_rfl
theorem bH:Slot "set_iterator" "__next__" "set_iterator.__next__" :=
 .of (owner := "set_iterator") (n := "__next__") (by rw[Me,EQ];kernel_rfl) (by decide +kernel) (by decide +kernel) (by decide +kernel)
  (by first|exact .inl (by decide +kernel)|exact .inr (by decide +kernel)) (by rw[ID];kernel_rfl)
theorem iI:entryFor table "set_iterator.__next__" = some l7.«set_iterator.__next__»:=entryFor_of_tree (by kernel_rfl)
theorem iJ (a:am):argsOk "set_iterator.__next__" ⟨[a],[]⟩ :=by
 unfold argsOk;rw[U7 (id := "set_iterator.__next__") (n:=['_','_','t','x','e','n','_','_']) (o:=['r','o','t','a','r','e','t','i','_','t','e','s']) (by kernel_rfl) Ad];kernel_rfl
theorem o3:Slot "set_iterator" "__iter__" "set_iterator.__iter__" :=
 .of (owner := "set_iterator") (n := "__iter__") (by rw[Me,EQ];kernel_rfl) (by decide +kernel) (by decide +kernel) (by decide +kernel)
  (by first|exact .inl (by decide +kernel)|exact .inr (by decide +kernel)) (by rw[ID];kernel_rfl)
theorem xX:entryFor table "set_iterator.__iter__" = some l7.«dict_keyiterator.__iter__»:=
 entryFor_alias (id' := "dict_keyiterator.__iter__") (by kernel_rfl) (by first|rfl|decide +kernel|(unfold String.splitOn;simp +decide [Vg])) (by decide +kernel) (by kernel_rfl)
theorem xY (a:am):argsOk "set_iterator.__iter__" ⟨[a],[]⟩ :=by
 unfold argsOk;rw[U7 (id := "set_iterator.__iter__") (n:=['_','_','r','e','t','i','_','_']) (o:=['r','o','t','a','r','e','t','i','_','t','e','s']) (by kernel_rfl) Ad];kernel_rfl
theorem ny:entryFor table "set.__iter__" = some l7.«frozenset.__iter__»:=
 entryFor_alias (id' := "frozenset.__iter__") (by kernel_rfl) (by first|rfl|decide +kernel|(unfold String.splitOn;simp +decide [Vg])) (by decide +kernel) (by kernel_rfl)
def c7 (h:i0) (I a:ap) (first:am) (i n ep:Nat):Prop:=∃o,h.get? I=some o/\o.cls=.type "set_iterator" /\ o.data=.fields #[first,.int i 0,.ref a,.int n 0,.int ep 0]
theorem c7.typeIs {s:ar}{I a:ap}{first:am}{i n ep:Nat}(x:c7 s.heap I a first i n ep):s.TypeIs (.ref I) "set_iterator" := let ⟨o,ho,hc,_⟩:=x;⟨o,ho,hc⟩
theorem dv {α:Type}:∀{l:List α}{i:Nat}(h:i<l.length),(l[i]::l.eraseIdx i).Perm l
 | [],i,h=>by simp at h
 |x::l,0,h=>.refl _
 |x::l,i+1,h=>by
          rw[List.eraseIdx_cons_succ,List.getElem_cons_succ];exact(Rs.swap _ _ _).trans (.cons _ (dv (by simpa using h)))
section
variable {P:ii}{w:ij}{A:mf}{E:am->ar->Prop}{s:ar}
theorem wp_choose {src:Source}{n:Nat}{Q:Nat->ar->Prop}(hn:n≠0) (h:∀i d,i<n->Q i {s with drawn:=d}):wpAny (model P w) A (choose src n) Q E s:=fun Γ p _=>by
 refine⟨hn,?_⟩;exact h _ _ (SR _ (Nat.pos_of_ne_zero hn))
theorem ja {α:Type}:∀(n:Nat) (xs:List α) {s:ar}{Q:List α->ar->Prop},n=xs.length->(∀ys d,ys.Perm xs->Q ys {s with drawn:=d})->wpAny (model P w) A (drawOrder n xs) Q E s
 |0,xs,s,Q,hn,h=>by
          have:xs=[]:=wl hn.symm;subst this;exact ba (h [] s.drawn .nil)
 |n+1,[],s,Q,hn,h=>by simp at hn
 |n+1,x::xs,s,Q,hn,h=>by
          show wpAny _ _ (choose .order (x::xs).length>>=_) _ _ s;refine ac (wp_choose (by simp) fun i d hi=>?_)
          have e:(x::xs)[i]?=some (x::xs)[i]:=ag hi;rw[e];dsimp only;refine ac (ja n _ (by rw[Cs hi];simp at hn ⊢;omega) fun ys d' hp=>ba (h _ _ ?_))
          exact(Rs.cons _ hp).trans (dv hi)
structure gy (P:ii) (w:ij) (h:i0) (a:ap) (es:Array (Int×am)) (ep:Nat) (t:jp):Prop where
 at_:∃o,h.get? a=some o/\o.ExactSet/\o.data=.set es ep t
 fits:t.fits es.size=true
 tab:a8 w t
theorem wt {α:Type}(next:Nat->Nat):∀(fuel k:Nat) (left:List α) (out:Array α),fuel=left.length->(pickOrder.go next fuel k left out).toList.Perm (out.toList++left)
 |0,k,left,out,h=>by
          have:left=[]:=wl h.symm;subst this;simp[pickOrder.go]
 |fuel+1,k,left,out,h=>by
          unfold pickOrder.go;have hl:next k % left.length<left.length:=SR _ (by omega)
          rw[ag hl];dsimp only;refine(wt next fuel (k+1) _ _ (by rw[Cs hl];omega)).trans ?_
          rw[Array.toList_push,EM];exact Rs.append_left _ (dv hl)
theorem lN {α:Type}(next:Nat->Nat) (xs:Array α):(pickOrder next xs).toList.Perm xs.toList :=by
 unfold pickOrder;exact(wt next xs.size 0 xs.toList #[] (by simp)).trans (by simp)
theorem jD {Q:Bool->ar->Prop}(h:Q (w.params.followText "set-order") s):wpAny (model P w) A setsByText Q E s :=by
 unfold setsByText;exact ac (So (ba h))
theorem o4 {a:ap}{es:Array (Int×am)}{ep:Nat}{t:jp}{slot given:Nat}{Q:Option (am×Nat)->ar->Prop}(hE:gy P w s.heap a es ep t)
  (hd:w.params.followText "set-order" = false->(!t.plain && decide (es.size > 1))=false)
  (h1:w.params.followText "set-order" = true->Q ((pickOrder (w.params.setOrder a ep) es)[given]?.map fun e=>(e.2,slot)) s)
  (h2:w.params.followText "set-order" = false->Q (match es[lw t.place slot]?,t.place[lw t.place slot]? with|some (_,x),some j=>some (x,j+1)|_,_=>none) s) :
  wpAny (model P w) A (setNext a slot given ep) Q E s :=by
 obtain⟨⟨o,ho,hex,nz⟩,hf,ht⟩:=hE;unfold setNext;refine ac (Ch ho nz hf ?_);dsimp only;refine ac (jD ?_);cases hb:w.params.followText "set-order" with
 |true=>
  simp only[if_true,bne_self_eq_false,c8,if_false];unfold setWalk;refine ac (ac (Ch ho nz hf ?_));dsimp only;refine ac (jD ?_);rw[hb];simp only[if_true];refine ac (So (ba (ba ?_)));exact h1 hb
 |false=>
  simp only[c8,if_false];have hV:=hd hb;have O7:t.led=true :=by rw[ht.led,hb];rfl
  show wpAny _ _ (if (!t.plain && decide (es.size > 1))=true then _ else _) _ _ s
  rw[hV];simp only[c8,if_false];refine ac ?_;show wpAny _ _ (if (!t.led && !es.isEmpty)=true then _ else _) _ _ s
  rw[O7];simp only[xz,UT,c8,if_false];exact ba (ba (h2 hb))
theorem c7.IG {h:i0}{I a:ap}{first x:am}{i n ep:Nat}(hit:c7 h I a first i n ep):c7 (h.update I (U8 (·.setIfInBounds 0 x))) I a x i n ep :=by
 obtain⟨o,ho,hc,hd⟩:=hit;exact⟨_,uu _ ho (Pd (Db hd _)),(Ua ..).trans hc,by rw[Db hd];simp⟩
theorem c7.tY {h:i0}{I a:ap}{first:am}{i n ep:Nat}(hit:c7 h I a first i n ep):c7 (h.update I (U8 (·.setIfInBounds 1 (rawInt ((i:Int)+1))))) I a first (i+1) n ep :=by
 obtain⟨o,ho,hc,hd⟩:=hit;exact⟨_,uu _ ho (Pd (Db hd _)),(Ua ..).trans hc,by rw[Db hd];simp[rawInt]⟩
theorem jW {I a:ap}{first x:am}{i n ep k:Nat}{Q:Unit->ar->Prop}(hk:k<5) (hit:c7 s.heap I a first i n ep) (h:Q () {s with heap:=s.heap.update I (U8 (·.setIfInBounds k x))}):wpAny (model P w) A (setField (.ref I) k x) Q E s :=by
 obtain⟨o,ho,hc,hd⟩:=hit;exact S7 ho hd (by simpa using hk) h
theorem wu {Q:Fin->ar->Prop}(hh:A.handled=none) (h:∀e h',s.TypeIs e "StopIteration" \/ True->(∀b o,s.heap.get? b=some o->h'.get? b=some o)->SL {s with heap:=h'} e "StopIteration" -> E e {s with heap:=h'}) :
  wpAny (model P w) A (newExc (.type "StopIteration") []>>=fun e=>raiseNew e) Q E s :=by
 refine ac ?_;simp only[newExc,newTuple];refine ac (mT ?_ (by size_fits))
 refine ac (m:=firstArgMember _ _) (KT (a:=wv) (by first|rfl|(simp only[firstArgMember];rfl)) ?_)
 refine mT ?_ (by size_fits)
 simp only[raiseNew];refine ac (wpAny_handled ?_);rw[hh];refine ac (ba (wpAny_throw ?_));exact h _ _ (.inr trivial) (fun b o e=>bi _ (bi _ e)) ⟨_,ff _ rfl,rfl⟩
theorem tZ {Q:Option am->ar->Prop}{e:am}(hT:s.TypeIs e "StopIteration") (h:Q none s):wpAny (model P w) A (do let b <- isInstance e (.type "StopIteration");if b=true then pure none else throw e) Q E s:=
 ac (LB (T := "StopIteration") (b:=true) hT isSubtype_stop (ba h))
theorem wx {I a:ap}{slot i ep next:Nat}{es:Array (Int×am)}{t:jp}{x:am}{Q:Option am->ar->Prop}(hit:c7 s.heap I a (.int slot 0) i es.size ep) (hE:gy P w s.heap a es ep t)
  (hd:w.params.followText "set-order" = false->(!t.plain && decide (es.size > 1))=false)
  (h1:w.params.followText "set-order" = true->(pickOrder (w.params.setOrder a ep) es)[i]?.map (fun e=>(e.2,slot))=some (x,next))
  (h2:w.params.followText "set-order" = false->(match es[lw t.place slot]?,t.place[lw t.place slot]? with|some (_,x),some j=>some (x,j+1)|_,_=>none)=some (x,next))
  (hQ:∀h',c7 h' I a (.int next 0) (i+1) es.size ep->v6 I s.heap h'->Q (some x) {s with heap:=h'}):wpAny (model P w) A (pyNext (.ref I)) Q E s :=by
 obtain⟨o,ho,hc,hV⟩:=id hit;obtain⟨oa,k8,CL,k9⟩:=hE.at_;unfold pyNext;refine ac (NG (ut (name:=u8 "__next__") hit.typeIs bH (nw bH hit.typeIs iI ?_ (iJ _))))
 unfold l7.«set_iterator.__next__»;refine ac (m:=slotArgs "__next__" 0 _) (ba ?_)
 dsimp only;refine ac (UW ho hV ?_);dsimp only;refine ac (NJ k8 k9 hE.fits ?_);simp only[bne_self_eq_false,c8,if_false,xL];have fin:∀r,r=some (x,next)->wpAny (model P w) A.in1 (match r with
    |some (x,next)=>do
     setField (ul I) 0 (rawInt next)
     setField (ul I) 1 (rawInt (↑i+1))
     ret x
    |none=>do
     setField (ul I) 2 wv
     let __do_lift <- newExc (zd "StopIteration") []
     raiseNew __do_lift) (fun fin s'=>∃v,fin=Fin.done (Flow.ret v)/\wpAny (model P w) A (pure (some v)) Q E s') (fun e s'=>wpAny (model P w) A (do
     let __do_lift <- isInstance e (zd "StopIteration")
     if __do_lift=true then pure none else throw e) Q E s') s:=fun r hr=>by
  subst hr;dsimp only;refine ac (jW (by decide) hit ?_)
  have nS:=hit.IG (x:=rawInt next);refine ac (jW (by decide) nS ?_)
  exact ba ⟨x,rfl,ba (hQ _ nS.tY ((AC ..).trans (AC ..)))⟩
 exact ac (o4 hE hd (fun hb=>fin _ (h1 hb)) (fun hb=>fin _ (h2 hb)))
theorem wy {I a:ap}{slot i ep:Nat}{es:Array (Int×am)}{t:jp}{Q:Option am->ar->Prop}(hh:A.handled=none) (hit:c7 s.heap I a (.int slot 0) i es.size ep) (hE:gy P w s.heap a es ep t)
  (hd:w.params.followText "set-order" = false->(!t.plain && decide (es.size > 1))=false)
  (h1:w.params.followText "set-order" = true->(pickOrder (w.params.setOrder a ep) es)[i]?.map (fun e=>(e.2,slot))=none)
  (h2:w.params.followText "set-order" = false->(match es[lw t.place slot]?,t.place[lw t.place slot]? with|some (_,x),some j=>some (x,j+1)|_,_=>none)=none)
  (hQ:∀h',(∀b o,b≠I->s.heap.get? b=some o->h'.get? b=some o)->Q none {s with heap:=h'}):wpAny (model P w) A (pyNext (.ref I)) Q E s :=by
 obtain⟨o,ho,hc,hV⟩:=id hit;obtain⟨oa,k8,CL,k9⟩:=hE.at_;unfold pyNext;refine ac (NG (ut (name:=u8 "__next__") hit.typeIs bH (nw bH hit.typeIs iI ?_ (iJ _))))
 unfold l7.«set_iterator.__next__»;refine ac (m:=slotArgs "__next__" 0 _) (ba ?_)
 dsimp only;refine ac (UW ho hV ?_);dsimp only;refine ac (NJ k8 k9 hE.fits ?_);simp only[bne_self_eq_false,c8,if_false,xL];have fin:∀r:Option (am×Nat),r=none->wpAny (model P w) A.in1 (match r with
    |some (x,next)=>do
     setField (ul I) 0 (rawInt next)
     setField (ul I) 1 (rawInt (↑i+1))
     ret x
    |none=>do
     setField (ul I) 2 wv
     let __do_lift <- newExc (zd "StopIteration") []
     raiseNew __do_lift) (fun fin s'=>∃v,fin=Fin.done (Flow.ret v)/\wpAny (model P w) A (pure (some v)) Q E s') (fun e s'=>wpAny (model P w) A (do
     let __do_lift <- isInstance e (zd "StopIteration")
     if __do_lift=true then pure none else throw e) Q E s') s:=fun r hr=>by
  subst hr;dsimp only;refine ac (jW (by decide) hit ?_)
  exact wu hh fun e h' _ k hT=>tZ hT (hQ h' fun b o hb q=>k b o ((wb _ _ (EO hb)).trans q))
 exact ac (o4 hE hd (fun hb=>fin _ (h1 hb)) (fun hb=>fin _ (h2 hb)))
theorem wz {I a T:ap}{i ep j:Nat}{es:Array (Int×am)}{t:jp}{ps:List Nat}{x:Int×am}{Q:Option am->ar->Prop}(hit:c7 s.heap I a (.ref T) i es.size ep) (hE:gy P w s.heap a es ep t)
  (hT:s.heap.IsTuple T (ps.map fun (i:Nat)=>rawInt i).toArray) (hj:ps[i]?=some j) (hx:es[j]?=some x)
  (hQ:∀h',c7 h' I a (.ref T) (i+1) es.size ep->v6 I s.heap h'->Q (some x.2) {s with heap:=h'}):wpAny (model P w) A (pyNext (.ref I)) Q E s :=by
 obtain⟨o,ho,hc,hV⟩:=id hit;obtain⟨oa,k8,CL,k9⟩:=hE.at_;unfold pyNext;refine ac (NG (ut (name:=u8 "__next__") hit.typeIs bH (nw bH hit.typeIs iI ?_ (iJ _))))
 unfold l7.«set_iterator.__next__»;refine ac (m:=slotArgs "__next__" 0 _) (ba ?_)
 dsimp only;refine ac (UW ho hV ?_);dsimp only;refine ac (NJ k8 k9 hE.fits ?_);simp only[bne_self_eq_false,c8,if_false,xL];obtain⟨ot,IH,_,nt,nz⟩:=hT;refine ac (S8 IH nz ?_);have e:(ps.map fun (i:Nat)=>rawInt i).toArray[i]?=some (rawInt j) :=by simp[hj]
 dsimp only;rw[e];show wpAny _ _ (setNextDrawn a (U0 (j:Int)) ep>>=_) _ _ s;rw[xL];refine ac ?_;unfold setNextDrawn;refine ac (Ch k8 k9 hE.fits ?_);simp only[bne_self_eq_false,c8,if_false,hx];refine ba ?_;refine ac (jW (by decide) hit ?_)
 exact ba ⟨x.2,rfl,ba (hQ _ hit.tY (AC ..))⟩
theorem wA {I a T:ap}{i ep:Nat}{es:Array (Int×am)}{t:jp}{ps:List Nat}{Q:Option am->ar->Prop}(hh:A.handled=none) (hit:c7 s.heap I a (.ref T) i es.size ep) (hE:gy P w s.heap a es ep t)
  (hT:s.heap.IsTuple T (ps.map fun (i:Nat)=>rawInt i).toArray) (hj:ps.length<=i)
  (hQ:∀h',(∀b o,b≠I->s.heap.get? b=some o->h'.get? b=some o)->Q none {s with heap:=h'}):wpAny (model P w) A (pyNext (.ref I)) Q E s :=by
 obtain⟨o,ho,hc,hV⟩:=id hit;obtain⟨oa,k8,CL,k9⟩:=hE.at_;unfold pyNext;refine ac (NG (ut (name:=u8 "__next__") hit.typeIs bH (nw bH hit.typeIs iI ?_ (iJ _))))
 unfold l7.«set_iterator.__next__»;refine ac (m:=slotArgs "__next__" 0 _) (ba ?_)
 dsimp only;refine ac (UW ho hV ?_);dsimp only;refine ac (NJ k8 k9 hE.fits ?_);simp only[bne_self_eq_false,c8,if_false,xL];obtain⟨ot,IH,_,nt,nz⟩:=hT;refine ac (S8 IH nz ?_);have e:(ps.map fun (i:Nat)=>rawInt i).toArray[i]?=none :=by simp[hj]
 dsimp only;rw[e];dsimp only;refine ac (jW (by decide) hit ?_)
 refine ac (jW (by decide) (hit.IG (x:=rawInt 0)) ?_)
 exact wu hh fun e h' _ k hT=>tZ hT (hQ h' fun b o hb q=>k b o ((wb _ _ (EO hb)).trans ((wb _ _ (EO hb)).trans q)))
end
theorem c7.bB {h h':i0}{I a:ap}{first:am}{i n ep:Nat}(x:c7 h I a first i n ep) (k:∀o,h.get? I=some o->h'.get? I=some o):c7 h' I a first i n ep:=let ⟨o,ho,r⟩:=x;⟨o,k o ho,r⟩
theorem gy.bB {P:ii}{w:ij}{h h':i0}{a:ap}{es:Array (Int×am)}{ep:Nat}{t:jp}(x:gy P w h a es ep t) (k:∀o,h.get? a=some o->h'.get? a=some o):gy P w h' a es ep t:=
 ⟨let ⟨o,ho,r⟩:=x.at_;⟨o,k o ho,r⟩,x.fits,x.tab⟩
theorem o5 {xs:Array Nat}(h:jA xs) {i:Nat}(hi:i<xs.size):lw xs (xs[i]+1)=i+1 :=by
 obtain⟨b0,b1,b2⟩:=i6 (xs[i]+1) h;generalize lw xs (xs[i]+1)=p at *
 have h1:i<p :=by
  refine Nat.lt_of_not_le fun hp=>?_
  have:=b2 i hi hp;omega
 refine Nat.le_antisymm (Tj fun hp=>?_) h1
 have Nq:i+1<xs.size :=by omega
 have q:=b1 (i+1) Nq hp;have q2:=i5 h (show i<i+1 by omega) Nq
 omega
theorem o6 {xs:Array Nat}(h:jA xs):lw xs 0=0 :=by
 obtain⟨b0,b1,b2⟩:=i6 0 h;generalize lw xs 0=p at *
 by_cases hp:p=0
 ·exact hp
 ·have:=b1 0 (by omega) (by omega)
  omega
section
variable {P:ii}{w:ij}{A:mf}{E:am->ar->Prop}{s:ar}
theorem si_self {I a:ap}{first:am}{i n ep:Nat}{Q:am->ar->Prop}(hit:c7 s.heap I a first i n ep) (h:Q (.ref I) s):wpAny (model P w) A (pyIter (.ref I)) Q E s :=by
 refine Ub hit.typeIs o3 (nw o3 hit.typeIs xX ?_ (xY _));show wpAny _ _ (ret (.ref I)) _ _ s;exact ba ⟨_,rfl,"set_iterator",_,hit.typeIs,bH.lookup,h⟩
theorem t5 {es:List (Int×am)}(h:UV (intKind P w) es) {e:Int×am}(he:e∈es):∃t,e.2=.int (dA e) t :=by
 obtain⟨⟨k',jV,_⟩,_⟩:=h e he;obtain⟨t,e2⟩:=T6 (k:=k') (v:=e.2) jV;exact⟨t,by unfold dA;rw[e2]⟩
abbrev Ae (xs:List Int):Nat->am->Prop:=fun i v=>∃m t,xs[i]?=some m/\v=.int m t
def bS (w:ij) (a:ap) (ep:Nat) (es:Array (Int×am)):List (Int×am):=if w.params.followText "set-order" = true then (pickOrder (w.params.setOrder a ep) es).toList else es.toList
theorem dX (w:ij) (a:ap) (ep:Nat) (es:Array (Int×am)):(bS w a ep es).Perm es.toList :=by
 unfold bS;split
 ·exact lN _ _
 ·exact .refl _
theorem CM {I a:ap}{es:Array (Int×am)}{ep:Nat}{t:jp}(hh:A.handled=none) (cf:a≠I) (jB:UV (intKind P w) es.toList) (hd:w.params.followText "set-order" = false->(!t.plain && decide (es.size > 1))=false) :
  VL P w A I [I,a] [I] (fun a b=>b=a) ((bS w a ep es).map dA).length (Ae ((bS w a ep es).map dA))
   (fun i s=>gy P w s.heap a es ep t/\∃slot:Nat,c7 s.heap I a (.int slot 0) i es.size ep/\(w.params.followText "set-order" = false->lw t.place slot=i)) where
 sub:=fun b hb=>by simp at hb;simp[hb]
 grefl:=fun _=>rfl
 gtrans:=fun _ _ _ h1 h2=>h2.trans h1
 frame:=fun i s h' _ st _ hk=>⟨st.1.bB fun o e=>hk a (by simp) o e,let ⟨slot,h1,h2⟩:=st.2;⟨slot,h1.bB fun o e=>hk I (by simp) o e,h2⟩⟩
 item:=fun i s Q E hi st hQ=>by
  obtain⟨hE,slot,hit,hb⟩:=st;have hl:i<(bS w a ep es).length :=by simpa using hi
  have lL:i<es.size :=by rw[<- io,<- (dX w a ep es).length_eq];exact hl
  obtain⟨tk,he⟩:=t5 (P:=P) (w:=w) jB ((dX w a ep es).mem_iff.mp (DD hl));have cY:i<t.place.size :=by
   have:=hE.fits;simp only[jp.fits,BB,beq_iff_eq]at this;rw[this.1];exact lL
  refine wx (next:=if w.params.followText "set-order" = true then slot else t.place[i]+1) (x:=((bS w a ep es)[i]).2) hit hE hd (fun bJ=>?_) (fun bJ=>?_) (fun h' nT hs=>hQ _ _ ⟨_,tk,by rw[cr,ag hl];rfl,he⟩ ⟨hE.bB fun o e=>by rw[hs.2 a cf];exact e,_,nT,fun bJ=>?_⟩ ⟨fun b o hb e=>by rw[hs.2 b (fun z=>hb (by simp[z]))];exact e,rfl,rfl,rfl,bv _⟩)
  ·rw[if_pos bJ];have e1:bS w a ep es=(pickOrder (w.params.setOrder a ep) es).toList :=by unfold bS;rw[if_pos bJ]
   have e2:(pickOrder (w.params.setOrder a ep) es)[i]?=some (bS w a ep es)[i] :=by
    rw[<- OP,<- e1];exact ag hl
   rw[e2];rfl
  ·rw[if_neg (by rw[bJ];decide),hb bJ,mv lL,mv cY]
   have e1:bS w a ep es=es.toList :=by unfold bS;rw[if_neg (by rw[bJ];decide)]
   have e2:(bS w a ep es)[i]=es[i] :=by simp[e1]
   rw[e2]
  ·rw[if_neg (by rw[bJ];decide)]
   exact o5 hE.tab.ris cY
 done:=fun s Q E st hQ=>by
  obtain⟨hE,slot,hit,hb⟩:=st;have hl:((bS w a ep es).map dA).length=es.size :=by rw[cb,(dX w a ep es).length_eq,io]
  rw[hl]at hit hb;refine wy hh hit hE hd (fun bJ=>?_) (fun bJ=>?_) (fun h' k=>hQ _ ⟨fun b o hb e=>k b o (fun z=>hb (by simp[z])) e,rfl,rfl,rfl,bv _⟩)
  ·have e1:(pickOrder (w.params.setOrder a ep) es)[es.size]?=none :=by
    refine Ll ?_;rw[<- io,(lN _ es).length_eq,io];exact bv _
   rw[e1];rfl
  ·rw[hb bJ,Ll (bv _)]
 self:=fun i s Q E st hQ=>let ⟨_,slot,hit,_⟩:=st;si_self hit hQ
theorem xZ {I a T:ap}{es:Array (Int×am)}{ep:Nat}{t:jp}{ps:List Nat}(hh:A.handled=none) (cf:a≠I) (CN:T≠I) (jB:UV (intKind P w) es.toList) (lP:∀j∈ps,j<es.size) (cY:ps.length=es.size) :
  VL P w A I [I,a,T] [I] (fun a b=>b=a) (ps.map fun j=>dA (es.getD j (0,.none))).length (Ae (ps.map fun j=>dA (es.getD j (0,.none))))
   (fun i s=>gy P w s.heap a es ep t/\s.heap.IsTuple T (ps.map fun (i:Nat)=>rawInt i).toArray/\c7 s.heap I a (.ref T) i es.size ep) where
 sub:=fun b hb=>by simp at hb;simp[hb]
 grefl:=fun _=>rfl
 gtrans:=fun _ _ _ h1 h2=>h2.trans h1
 frame:=fun i s h' _ st _ hk=>⟨st.1.bB fun o e=>hk a (by simp) o e,st.2.1.at fun o e=>hk T (by simp) o e,st.2.2.bB fun o e=>hk I (by simp) o e⟩
 item:=fun i s Q E hi st hQ=>by
  obtain⟨hE,hT,hit⟩:=st;have hl:i<ps.length :=by simpa using hi
  have hj:=lP _ (DD hl);have hx:es[ps[i]]?=some es[ps[i]]:=mv hj;have hg:es.getD ps[i] (0,.none)=es[ps[i]] :=by simp[Mc,hj]
  obtain⟨tk,he⟩:=t5 (P:=P) (w:=w) jB (show es[ps[i]]∈es.toList by simp)
  refine wz hit hE hT (ag hl) hx fun h' nT hs=>hQ _ _ ⟨_,tk,by rw[cr,ag hl];rfl,by dsimp only;rw[hg];exact he⟩ ⟨hE.bB fun o e=>by rw[hs.2 a cf];exact e,hT.at fun o e=>by rw[hs.2 T CN];exact e,nT⟩ ⟨fun b o hb e=>by rw[hs.2 b (fun z=>hb (by simp[z]))];exact e,rfl,rfl,rfl,bv _⟩
 done:=fun s Q E st hQ=>by
  obtain⟨hE,hT,hit⟩:=st;have hl:(ps.map fun j=>dA (es.getD j (0,.none))).length=ps.length:=cb _
  rw[hl]at hit;exact wA hh hit hE hT (bv _) fun h' k=>hQ _ ⟨fun b o hb e=>k b o (fun z=>hb (by simp[z])) e,rfl,rfl,rfl,bv _⟩
 self:=fun i s Q E st hQ=>si_self st.2.2 hQ
theorem ya {a:ap}{ns:List Int}{Q:am->ar->Prop}(hS:b9 P w s.heap a ns)
  (hQ:∀(I:ap) (h':i0) (d':Drawn) (xs:List Int) (fp:List ap) (St:Nat->ar->Prop),xs.Perm ns->(∀b o,s.heap.get? b=some o->h'.get? b=some o)->s.heap.objs.size<=I->(∀b∈fp,b=a\/s.heap.objs.size<=b)->
   (∀A':mf,A'.handled=none->VL P w A' I fp [I] (fun a b=>b=a) xs.length (Ae xs) St)->St 0 {s with heap:=h',drawn:=d'}->Q (.ref I) {s with heap:=h',drawn:=d'}):wpAny (model P w) A (pyIter (.ref a)) Q E s :=by
 have oQ:=hS.typeIs (h:=s.heap);obtain⟨o,es,ep,t,ho,hex,hd,jB,hp,hn,hb,hf,ht⟩:=hS;have hE:gy P w s.heap a es ep t:=⟨⟨o,ho,hex,hd⟩,hf,ht⟩;have aQ:=gc ho;refine Ub oQ UF (nw UF oQ ny ?_ (F.args_set_iter_1 _));unfold l7.«frozenset.__iter__»;refine ac (m:=l7.Frozenset.slot0 "__iter__" _) (ba ?_)
 unfold l7.Frozenset.sizeOf;refine ac (ac (NJ ho hd hf (ba ?_)));refine ac ?_;unfold setDrawn;refine ac (Ch ho hd hf ?_);dsimp only;refine ac (jD ?_);refine ba ?_;by_cases jX:(!w.params.followText "set-order" && (!t.plain && decide (es.size > 1)))=true
 ·show wpAny _ _ (if (!w.params.followText "set-order" && (!t.plain && decide (es.size > 1)))=true then _ else _) _ _ s
  rw[if_pos jX];refine ac (ja _ _ (by simp) fun ps d lP=>?_)
  have cY:ps.length=es.size :=by rw[lP.length_eq,Cf]
  refine ac (UX ?_ (by rw[cb,cY];exact T9 hb))
  refine ac (Uc (o:=o) (bi _ ho) hd hf ?_);unfold newFields;refine ac (mT ?_ (by size_fits))
  have hsz:∀u:l8,(s.heap.push u).objs.size=s.heap.objs.size+1:=fun u=>Ix _ _
  have hit:c7 ((s.heap.push {cls:=.type "tuple",data:=.seq (ps.map fun (i:Nat)=>rawInt i).toArray}).push {cls:=.type "set_iterator",data:=.fields #[.ref s.heap.objs.size,.int (0:Nat) 0,.ref a,.int es.size 0,.int ep 0]}) (s.heap.push {cls:=.type "tuple",data:=.seq (ps.map fun (i:Nat)=>rawInt i).toArray}).objs.size a (.ref s.heap.objs.size) 0 es.size ep:=⟨_,ff _ rfl,rfl,rfl⟩
  have II:(ps.map fun j=>dA (es.getD j (0,.none))).Perm ns :=by
   refine((lP.map _).trans ?_).trans hp;have:(i8 es.size).map (fun j=>dA (es.getD j (0,.none)))=es.toList.map dA :=by
    refine Vq (by simp) fun n h1 h2=>?_
    have sS:n<es.size :=by simpa using h1
    simp[Mc,sS]
   rw[this]
  refine ba ⟨_,rfl,"set_iterator",_,c7.typeIs (s:={s with heap:=_,drawn:=d}) hit,bH.lookup,?_⟩
  refine hQ _ _ d _ [(s.heap.push {cls:=.type "tuple",data:=.seq (ps.map fun (i:Nat)=>rawInt i).toArray}).objs.size,a,s.heap.objs.size] _ II (fun b o e=>bi _ (bi _ e)) (by rw[hsz];exact Fa _) (fun b hb=>?_) (fun A' hA=>xZ (t:=t) (ep:=ep) hA ?_ ?_ jB (fun j hj=>by simpa using lP.mem_iff.mp hj) cY) ⟨hE.bB fun o e=>bi _ (bi _ e),⟨_,bi _ (ff _ rfl),rfl,_,rfl⟩,hit⟩
  ·simp only[li,wP,or_false]at hb;rcases hb with rfl|rfl|rfl
   ·exact .inr (by rw[hsz];exact Fa _)
   ·exact .inl rfl
   ·exact .inr (bv _)
  ·rw[hsz];exact kw (Cc aQ)
  ·rw[hsz];exact kw (Lu _)
 ·show wpAny _ _ (if (!w.params.followText "set-order" && (!t.plain && decide (es.size > 1)))=true then _ else _) _ _ s
  rw[if_neg jX];refine ac (ba (ac (Uc ho hd hf ?_)));unfold newFields;refine ac (mT ?_ (by size_fits))
  have hit:c7 (s.heap.push {cls:=.type "set_iterator",data:=.fields #[.int (0:Nat) 0,.int (0:Nat) 0,.ref a,.int es.size 0,.int ep 0]}) s.heap.objs.size a (.int (0:Nat) 0) 0 es.size ep:=⟨_,ff _ rfl,rfl,rfl⟩
  refine ba ⟨_,rfl,"set_iterator",_,c7.typeIs (s:={s with heap:=_}) hit,bH.lookup,?_⟩
  refine hQ _ _ s.drawn _ [s.heap.objs.size,a] _ (((dX w a ep es).map dA).trans hp) (fun b o e=>bi _ e) (bv _) (fun b hb=>?_) (fun A' hA=>CM (t:=t) (ep:=ep) hA (kw aQ) jB fun hb=>?_) ⟨hE.bB fun o e=>bi _ e,0,hit,fun _=>o6 ht.ris⟩
  ·simp only[li,wP,or_false]at hb;rcases hb with rfl|rfl
   ·exact .inr (bv _)
   ·exact .inl rfl
  ·rw[hb]at jX;simpa using jX
theorem nA {a:ap}{Q:Bool->ar->Prop}(hT:s.TypeIs (.ref a) "set") (h:Q false s):wpAny (model P w) A (Os (.ref a)) Q E s :=by
 unfold Os;refine ac (Pe hT F.slot_set_len.lookup ?_);have e:splitId "set.__len__" = some ("set","__len__") :=by kernel_rfl
 dsimp only;rw[e];dsimp only;refine ac (LB hT sub_set_self ?_);simp only[xz,c8,if_false];show wpAny _ _ (if _=true then _ else _) _ _ s
 rw[if_pos (by kernel_rfl)]
 exact ac (LS hT (ba h))
theorem ints_of {xs:List Int}{acc:Array am}(h:VU (Ae xs) acc xs.length):OR acc.toList xs :=by
 obtain⟨hs,hi⟩:=h;have:∀(vs:List am) (xs:List Int),vs.length=xs.length->(∀(j:Nat) (v:am),vs[j]?=some v->Ae xs j v)->OR vs xs :=by
  intro vs;induction vs with
  |nil=>intro xs hl _;cases xs with|nil=>exact .nil|cons x xs=>simp at hl
  |cons v vs ih=>
   intro xs hl hg;cases xs with
   |nil=>simp at hl
   |cons x xs=>
    obtain⟨m,t,e1,rfl⟩:=hg 0 v rfl;have e2:x=m :=by simpa using e1
    subst e2;refine .cons _ _ (ih xs (by simpa using hl) fun j u hu=>?_)
    obtain⟨m',t',e3,e4⟩:=hg (j+1) u (by simpa using hu)
    exact⟨m',t',by simpa using e3,e4⟩
 exact this acc.toList xs (by simpa using hs) fun j v hv=>hi j v (by rw[<- OP];exact hv)
theorem vA {a:ap}{ns:List Int}{QL:List am->ar->Prop}(hh:A.handled=none) (hS:b9 P w s.heap a ns) (hz:ns.length<=sizeLine)
  (hQ:∀us xs h' d' tk,OR us xs->xs.Perm ns->(∀b o,s.heap.get? b=some o->h'.get? b=some o)->QL us {s with heap:=h',drawn:=d',toks:=tk}):wpAny (model P w) A (collect (.ref a)) QL E s :=by
 have aQ:a<s.heap.objs.size:=let ⟨_,_,_,_,ho,_⟩:=hS;gc ho;have rp:s.heap.objs.size≠a:=KF aQ;unfold collect;refine ac (TZ (ww S9 ?_));rw[tz Tc _];show wpAny _ A.in1 (newList []>>=fun l=>again (.builtin "list.__iadd__" ⟨[l,.ref a],[]⟩)) _ _ s
 refine ac (mT ?_);refine ba ⟨EN IS _,ww Ud ?_⟩;rw[tz IS _];have tW:b9 P w (s.heap.push {cls:=.type "list",data:=.seq ([]:List am).toArray}) a ns:=hS.bB fun o e=>bi _ e
 have T1:SL {s with heap:=s.heap.push {cls:=.type "list",data:=.seq ([]:List am).toArray}} (.ref a) "set" := b9.typeIs (P:=P) (w:=w) (h:=s.heap) (s:={s with heap:=_}) tW
 show wpAny _ A.in1 (zw (.ref s.heap.objs.size) (.ref a) (.ref s.heap.objs.size)) _ _ _;unfold zw;refine ac (LS T1 ?_);have h1:GT (.ref s.heap.objs.size) (.ref a)=false :=by simp[GT,rp]
 have h2:(zd "set" == zd "list")=false :=by decide
 have h3:(zd "set" == zd "tuple")=false :=by decide
 simp only[h1,h2,h3,U6,c8,if_false];refine ac (ya (s:={s with heap:=s.heap.push {cls:=.type "list",data:=.seq ([]:List am).toArray}}) tW ?_)
 intro I h' d' xs fp St hp hk hI IJ hW jO;have T2:SL {s with heap:=h',drawn:=d'} (.ref a) "set" := b9.typeIs (P:=P) (w:=w) (h:=s.heap) (s:={s with heap:=_,drawn:=d'}) (tW.bB fun o e=>hk a o e)
 refine ac (wT (nA T2 ?_));show wpAny _ A.in1 (if _=true then _ else _) _ _ _
 rw[if_pos (by kernel_rfl)]
 show wpAny _ A.in1 (rule "list.extend.makes-room" >>= fun _=>l7.List.listTouch (.ref s.heap.objs.size)>>=fun _=>
  again (.builtin "list.extend.loop" ⟨[.ref s.heap.objs.size,.ref I,.ref s.heap.objs.size],[]⟩)) _ _ _
 refine ac (FS ?_);have o7:h'.get? s.heap.objs.size=some {cls:=.type "list",data:=.seq ([]:List am).toArray}:=hk _ _ (ff _ rfl)
 refine ac ?_;show wpAny _ A.in1 (updateSeq s.heap.objs.size (·.push .none)>>=fun _=>updateSeq s.heap.objs.size (·.pop)) _ _ _
 refine ac (UG o7 rfl ?_);have o8:=uu (Da (·.push wv)) o7 rfl;refine UG o8 rfl ?_;have yb:=uu (Da (·.pop)) o8 rfl;have oth:∀b o,b≠s.heap.objs.size->h'.get? b=some o->((h'.update s.heap.objs.size (Da (·.push wv))).update s.heap.objs.size (Da (·.pop))).get? b=some o:=
  fun b o hb e=>(wb _ _ (EO hb)).trans ((wb _ _ (EO hb)).trans e)
 have t6:(s.heap.push {cls:=.type "list",data:=.seq ([]:List am).toArray}).objs.size=s.heap.objs.size+1:=Ix _ _
 have k7:s.heap.objs.size ∉ fp:=fun hm=>by
  rcases IJ _ hm with z|z
  ·exact rp z
  ·have z':s.heap.objs.size+1<=s.heap.objs.size :=by rw[<- t6];exact z
   exact absurd z' (Nat.not_succ_le_self _)
 have W:=hW A.in1.in1 (by simp[hh])
 have hl:xs.length<=sizeLine :=by rw[hp.length_eq];exact hz
 refine ba ⟨EN UO _,UH (W.of_in1) hl _ k7 _ xs.length 0 _ _ _ rfl (kv _) (W.frame 0 ({s with heap:=h',drawn:=d'}:ar) _ s.toks jO (bv _) fun b hb o e=>oth b o (fun h=>k7 (h▸hb)) e) yb (VU.nil _) fun s' eF c' hm dQ lQ=>?_⟩
 show wpAny _ A (load s.heap.objs.size>>=_) _ _ s';refine ac (Vj dQ ?_);refine ba ?_;obtain⟨h2,g2,d2,Af,os2⟩:=s';have eg:g2=s.gens:=hm.gens;have ed:d2=d':=hm.drawn;have eo:os2=s.os:=hm.os;subst eg;subst ed;subst eo;refine hQ _ xs h2 _ Af (ints_of lQ) hp fun b o e=>hm.heap b o ?_ (oth b o (kw (gc e)) (hk b o (bi _ e)))
 have hb:b<s.heap.objs.size:=gc e;simp only[li,wP,or_false,not_or];refine⟨kw hb,fun z=>?_⟩
 have z':s.heap.objs.size+1<=b :=by rw[<- t6,z];exact hI
 exact absurd (mo (Cc hb) z') (NE _)
end
def sortI (ns:List Int):List Int:=ns.mergeSort fun a b=>decide (a<=b)
theorem sortI_perm (ns:List Int):(sortI ns).Perm ns:=List.mergeSort_perm _ _
theorem nU (ns:List Int):(sortI ns).Pairwise (·<=·) :=by
 have:=List.pairwise_mergeSort (le:=fun a b:Int=>decide (a<=b)) (fun a b c h1 h2=>by simp only[decide_eq_true_eq]at *;omega) (fun a b=>by simp only[Bool.or_eq_true,decide_eq_true_eq];omega) ns
 exact this.imp fun h=>by simpa using h
theorem vB {a b:List Int}(p:a.Perm b) (ha:a.Pairwise (·<=·)) (hb:b.Pairwise (·<=·)):a=b:=TU (le:=(·<=·)) (fun x y _ _ h1 h2=>Int.le_antisymm h1 h2) ha hb p
theorem t7 {ms ns:List Int}(p:ms.Perm ns) (h:ms.Pairwise (·<=·)):ms=sortI ns:=vB (p.trans (sortI_perm ns).symm) h (nU ns)
theorem sF:∀{ns:List Int}{us:List am},Vals (ns.map V.int) us->OR us ns
 | [],_,.nil=>.nil
 |n::ns,_,.cons r t=>by
          obtain⟨k,rfl⟩:=r;exact .cons _ _ (sF t)
theorem lR:∀{ns:List Int}{us:List am},OR us ns->Vals (ns.map V.int) us
 |_,_,.nil=>.nil
 |_,_,.cons n t r=>.cons ⟨t,rfl⟩ (lR r)
section
variable {P:ii}{w:ij}{A:mf}{E:am->ar->Prop}{s:ar}
theorem nB {T:String}{l:ap}{vs:List am}{Q:List am->ar->Prop}{o:l8}{n:Nat}(ho:s.heap.get? l=some o) (hc:o.cls=.type T) (hd:o.data=.seq vs.toArray n) (hT:T = "list" \/ T = "tuple")
  (h:∀h',(∀b o,s.heap.get? b=some o->h'.get? b=some o)->Q vs {s with heap:=h'}) (hsz:vs.length<=sizeLine):wpAny (model P w) A (collect (.ref l)) Q E s :=by
 unfold collect;refine ac (TZ (ww S9 ?_));rw[tz Tc _];show wpAny _ A.in1 (newList []>>=fun l'=>again (.builtin "list.__iadd__" ⟨[l',.ref l],[]⟩)) _ _ s
 refine ac (U9 (ba ⟨EN IS _,ww Ud ?_⟩));rw[tz IS _];show wpAny _ A.in1 (zw (.ref s.heap.objs.size) (.ref l) (.ref s.heap.objs.size)) _ _ {s with heap:=s.heap.push (seqObj "list" #[] 0)}
 unfold zw;have eJ:(s.heap.push (seqObj "list" #[] 0)).get? l=some o:=bi _ ho
 refine ac (LS (T:=T) ⟨o,eJ,hc⟩ ?_);rw[if_pos (by rcases hT with rfl|rfl<;>simp)]
 refine ac (listItems_at eJ hd ?_);refine ac (listItems_at (xs:=#[]) (n:=0) (ff _ rfl) rfl ?_);rw[if_neg (by simp)]
 refine ac (Va (xs:=#[]) (n:=0) (ff _ rfl) rfl ?_ (kv _) (by show (#[]++vs.toArray).size<=sizeLine+1;simp only[Array.size_append,ci,SN];omega))
 refine ba ?_;show wpAny (model P w) A (load s.heap.objs.size>>=_) Q E _;refine ac (Vj (get?_update_seq (ff _ rfl) _) ?_);show wpAny _ _ (pure ((#[]:Array am)++vs.toArray).toList) Q E _;rw[show ((#[]:Array am)++vs.toArray).toList=vs by simp]
 exact ba (h _ fun b o e=>(wb _ _ (KF (gc e))).trans (bi _ e))
theorem yc {a:am}{ns:List Int}{Q:am->ar->Prop}(CO:∀QL:List am->ar->Prop,(∀us xs h' d' tk,OR us xs->xs.Perm ns->(∀b o,s.heap.get? b=some o->h'.get? b=some o)->QL us {s with heap:=h',drawn:=d',toks:=tk})->wpAny (model P w) A.in1 (collect a) QL E s) (lU:ns.length<64)
  (h:∀(h1 h':i0) d' tk (us:List am) e,OR us (sortI ns)->(∀b o,s.heap.get? b=some o->h1.get? b=some o)->(∀b o,h1.get? b=some o->h'.get? b=some o)->h'.get? h1.objs.size=some {cls:=.type "list",data:=.seq us.toArray e}->Q (.ref h1.objs.size) {s with heap:=h',drawn:=d',toks:=tk}) :
  wpAny (model P w) A (call (.builtin "sorted") [a]) Q E s :=by
 refine Calls.call_function_entry kind_sorted plain_sorted entry_sorted (args_sorted1 _) ?_;unfold l7.«sorted»;refine ac (m:=checkCount "sorted" 1 1 _) (ba ?_)
 refine ac (CO _ fun us xs h' d' tk hI hp hk=>?_)
 have IK:us.length<64 :=by
  have:us.length=xs.length:=(lR hI).length.symm.trans (cb _);rw[this,hp.length_eq];exact lU
 refine ac (U9 ?_ (hsz:=sw (S1 IK) (by decide)))
 have oH:(h'.push (seqObj "list" us.toArray 0)).get? h'.objs.size=some (seqObj "list" us.toArray 0):=ff _ rfl
 refine ac (wT (nw slot_list_sort ⟨_,oH,rfl⟩ entry_list_sort (list_sort_tree oH hI IK fun out R7 a1 a2 a3=>⟨_,rfl,?_⟩) (args_list_sort _)))
 refine ba ⟨_,rfl,?_⟩;obtain⟨e,he⟩:=sortedHeap_at (out:=out) oH;refine h h' _ d' tk out.toList e (by rw[<- t7 (a2.trans hp) a3];exact a1) hk (fun b o hb=>?_) (by simpa using he)
 have aQ:=gc hb;rw[sortedHeap_old (kw aQ) (by rw[Ix];exact Cc aQ)]
 exact bi _ hb
end
theorem ye {P:ii}{w:ij}{h:i0}{a:ap}{ns:List Int}(x:b9 P w h a ns):∃o,h.get? a=some o:=let ⟨o,_,_,_,e,_⟩:=x;⟨o,e⟩
theorem FG {P:ii}{w:ij}{H:Hp}{h:i0}{a:ap}{ns:List Int}(x:b9 P w h a ns):bj P w H h a (nQ P w a ns):=⟨x,ye x,fun h1 h2 y k=>y.bB k⟩
theorem FH {X:Cx}{pins:List (ap×l8)}{σ:St}{H:Hp}{s:ar}{a:ap}{ns:List Int}(I:Inv X pins σ H s) (h:H a=some (nQ X.prog X.w a ns)):b9 X.prog X.w s.heap a ns:=(I.hok a _ h).1
inductive Dt where
 |ai|bl (b:Bool)|int (i:Int)|str (x:db)|lst (xs:List Dt)|tup (xs:List Dt)
inductive di (H:Hp):V->Dt->Prop where
 |ai:di H .ai .ai
 |bl (b:Bool):di H (.bl b) (.bl b)
 |int (i:Int):di H (.int i) (.int i)
 |str (x:db):di H (.str x) (.str x)
 |lst {a:ap} {xs:List V} {ds:List Dt} (e:H a=some (.lst xs)) (hl:xs.length=ds.length) (h:∀(i:Nat) (x:V) (d:Dt),xs[i]?=some x->ds[i]?=some d->di H x d):di H (.ref a) (.lst ds)
 |tup {a:ap} {xs:List V} {ds:List Dt} (e:H a=some (.tup xs)) (hl:xs.length=ds.length) (h:∀(i:Nat) (x:V) (d:Dt),xs[i]?=some x->ds[i]?=some d->di H x d):di H (.ref a) (.tup ds)
mutual
def cw:Dt->Dt->Bool
 | .ai,.ai=>true
 | .bl a,.bl b=>a==b
 | .bl a,.int b=>(if a then 1 else 0)==b
 | .int a,.bl b=>a==(if b then 1 else 0)
 | .int a,.int b=>a==b
 | .str a,.str b=>a==b
 | .lst xs,.lst ys=>eS xs ys
 | .tup xs,.tup ys=>eS xs ys
 |_,_=>false
def eS:List Dt->List Dt->Bool
 | [],[]=>true
 |x::xs,y::ys=>cw x y && eS xs ys
 |_,_=>false
end
mutual
theorem ko:∀d:Dt,cw d d=true
 | .ai=>by simp[cw]
 | .bl b=>by simp[cw]
 | .int i=>by simp[cw]
 | .str x=>by simp[cw]
 | .lst xs=>by simp only[cw];exact lV xs
 | .tup xs=>by simp only[cw];exact lV xs
theorem lV:∀ds:List Dt,eS ds ds=true
 | []=>by simp[eS]
 |d::ds=>by simp only[eS];rw[ko d,lV ds];rfl
end
theorem dY:∀(xs ys:List Dt),eS xs ys=((i8 (min xs.length ys.length)).all (fun j=>cw (xs.getD j .ai) (ys.getD j .ai)) && xs.length==ys.length)
 | [],[]=>by simp[eS]
 | [],_::_=>by simp[eS]
 |_::_,[]=>by simp[eS]
 |x::xs,y::ys=>by
          rw[eS,dY xs ys];have e:min (x::xs).length (y::ys).length=min xs.length ys.length+1 :=by simp[Nat.succ_min_succ]
          rw[e,List.range_succ_eq_map,List.all_cons,List.all_map];have e2:((x::xs).length==(y::ys).length)=(xs.length==ys.length) :=by simp
          rw[e2,Bool.and_assoc];rfl
theorem di.inj {H:Hp}{v:V}{d:Dt}(h:di H v d):∀{d':Dt},di H v d'->d=d':=by
 induction h with
 |ai=>intro d' h';cases h';rfl
 |bl b=>intro d' h';cases h';rfl
 |int i=>intro d' h';cases h';rfl
 |str x=>intro d' h';cases h';rfl
 |lst e hl h ih=>
  intro d' h';cases h' with
  |lst e' IL h'=>
   rw[e]at e';cases e';congr 1
   refine Nl fun i=>?_
   rename_i xs ds gf;by_cases hi:i<xs.length
   ·rw[ag (by omega),ag (by omega)]
    exact congrArg some (ih i _ _ (ag hi) (ag (by omega)) (h' i _ _ (ag hi) (ag (by omega))))
   ·rw[At (by omega),At (by omega)]
  |tup e' IL h'=>rw[e]at e';cases e'
 |tup e hl h ih=>
  intro d' h';cases h' with
  |lst e' IL h'=>rw[e]at e';cases e'
  |tup e' IL h'=>
   rw[e]at e';cases e';congr 1
   refine Nl fun i=>?_
   rename_i xs ds gf;by_cases hi:i<xs.length
   ·rw[ag (by omega),ag (by omega)]
    exact congrArg some (ih i _ _ (ag hi) (ag (by omega)) (h' i _ _ (ag hi) (ag (by omega))))
   ·rw[At (by omega),At (by omega)]
mutual
def dF:Dt->Nat
 | .lst xs=>eU xs+1
 | .tup xs=>eU xs+1
 |_=>0
def eU:List Dt->Nat
 | []=>0
 |x::xs=>max (dF x) (eU xs)
end
theorem jb:∀{ds:List Dt}{i:Nat}{d:Dt},ds[i]?=some d->dF d<=eU ds
 | [],_,_,h=>by simp at h
 |x::xs,0,d,h=>by
          simp at h;subst h;rw[eU];exact Nat.le_max_left _ _
 |x::xs,i+1,d,h=>by
          rw[eU];exact sw (jb (i:=i) (by simpa using h)) (Nat.le_max_right _ _)
section
variable {X:Cx}{pins:List (ap×l8)}{σ:St}{H:Hp}{s:ar}
theorem Inv.lists (I:Inv X pins σ H s) {a:ap}{xs:List V}(h:H a=some (.lst xs)):∃its:List am,Vals xs its/\s.heap.IsList a its.toArray :=by
 obtain⟨its,rv,p,_⟩:=I.list (bG.of h);exact⟨its,rv,p.isList⟩
theorem Inv.tups (I:Inv X pins σ H s) {a:ap}{xs:List V}(h:H a=some (.tup xs)):∃its:List am,Vals xs its/\s.heap.IsTuple a its.toArray :=by
 obtain⟨its,rv,p,_⟩:=I.tuple (bC.of h);exact⟨its,rv,p⟩
theorem lW (I:Inv X pins σ H s) {x y:V}{d:Dt}(hx:di H x d):∀{e:Dt}{u v:am}{A:mf},di H y e->RelV x u->RelV y v->A.units+dF d<cLine->lm A s u v (cw d e) :=by
 have lists:=fun {a:ap} {xs:List V} (h:H a=some (.lst xs))=>I.lists h
 have tups:=fun {a:ap} {xs:List V} (h:H a=some (.tup xs))=>I.tups h
 induction hx generalizing y with
 |ai=>
  intro e u v A hy rx ry hu;have aL:A.units<cLine :=by omega
  cases rx;cases hy with
  |ai=>cases ry;exact VC _
  |bl b=>cases ry;exact lm.none_bool _
  |int i=>obtain⟨t,rfl⟩:=ry;exact lm.none_int _ _
  |str z=>obtain⟨t,rfl⟩:=ry;exact lm.none_str _ _
  |lst e2 _ _=>cases ry;obtain⟨_,_,p⟩:=lists e2;exact lm.none_list p aL
  |tup e2 _ _=>cases ry;obtain⟨_,_,p⟩:=tups e2;exact lm.none_tuple p aL
 |bl a=>
  intro e u v A hy rx ry hu;have aL:A.units<cLine :=by omega
  cases rx;cases hy with
  |ai=>cases ry;exact lm.bool_none _
  |bl b=>cases ry;exact lm.bool_bool _ _
  |int i=>obtain⟨t,rfl⟩:=ry;exact lm.bool_int _ _ _
  |str z=>obtain⟨t,rfl⟩:=ry;exact lm.bool_str _ _ _
  |lst e2 _ _=>cases ry;obtain⟨_,_,p⟩:=lists e2;exact lm.bool_list _ p aL
  |tup e2 _ _=>cases ry;obtain⟨_,_,p⟩:=tups e2;exact lm.bool_tuple _ p aL
 |int a=>
  intro e u v A hy rx ry hu;have aL:A.units<cLine :=by omega
  obtain⟨ta,rfl⟩:=rx;cases hy with
  |ai=>cases ry;exact lm.int_none _ _
  |bl b=>cases ry;exact lm.int_bool _ _ _
  |int i=>obtain⟨t,rfl⟩:=ry;exact lm.int_int _ _ _ _
  |str z=>obtain⟨t,rfl⟩:=ry;exact lm.int_str _ _ _ _
  |lst e2 _ _=>cases ry;obtain⟨_,_,p⟩:=lists e2;exact lm.int_list _ _ p aL
  |tup e2 _ _=>cases ry;obtain⟨_,_,p⟩:=tups e2;exact lm.int_tuple _ _ p aL
 |str a=>
  intro e u v A hy rx ry hu;have aL:A.units<cLine :=by omega
  obtain⟨ta,rfl⟩:=rx;cases hy with
  |ai=>cases ry;exact lm.str_none _ _
  |bl b=>cases ry;exact lm.str_bool _ _ _
  |int i=>obtain⟨t,rfl⟩:=ry;exact lm.str_int _ _ _ _
  |str z=>obtain⟨t,rfl⟩:=ry;exact lm.str_str _ _ _ _
  |lst e2 _ _=>cases ry;obtain⟨_,_,p⟩:=lists e2;exact lm.str_list _ _ p aL
  |tup e2 _ _=>cases ry;obtain⟨_,_,p⟩:=tups e2;exact lm.str_tuple _ _ p aL
 |lst e1 jc h1 ih=>
  rename_i a xs ds;intro e u v A hy rx ry hu;have aL:A.units<cLine :=by omega
  have Ag:A.units+eU ds+1<cLine :=by rw[dF]at hu;omega
  cases rx;obtain⟨its,rv,p⟩:=lists e1;cases hy with
  |ai=>cases ry;exact lm.list_none p aL
  |bl b=>cases ry;exact lm.list_bool _ p aL
  |int i=>obtain⟨t,rfl⟩:=ry;exact lm.list_int _ _ p aL
  |str z=>obtain⟨t,rfl⟩:=ry;exact lm.list_str _ _ p aL
  |lst e2 gu h2=>
   rename_i b ys es;cases ry;by_cases fF:a=b
   ·subst fF;have:=(di.lst e1 jc h1).inj (di.lst e2 gu h2);cases this;rw[ko];exact VC _
   ·obtain⟨b8,ia,p2⟩:=lists e2;have l1:=rv.length;have l2:=ia.length;have at_:∀j (g1:j<its.toArray.size) (g2:j<b8.toArray.size),lm A.in1 s its.toArray[j] b8.toArray[j] (cw (ds.getD j .ai) (es.getD j .ai)):=fun j g1 g2=>by
     have ib:j<xs.length :=by rw[l1];simpa using g1
     have ie:j<ys.length :=by rw[l2];simpa using g2
     have r1:=b7 rv g1;have r2:=b7 ia g2;rw[ce,ag ib]at r1;rw[ce,ag ie]at r2;have d1:ds[j]?=some ds[j]:=ag (by omega)
     have d2:es[j]?=some es[j]:=ag (by omega)
     rw[ce,ce,d1,d2];have:=jb d1;exact ih j _ _ (ag ib) d1 (h2 j _ _ (ag ie) d2) r1 r2 (by show A.units+1+_<cLine;omega)
    refine lm.of_refs fF ?_;rw[cw,dY];by_cases hsz:ds.length=es.length
    ·have q:=l5.lists p p2 (by simp only[ci];omega) aL at_
     have z:(ds.length==es.length)=true :=by simpa using hsz
     rw[z,Bool.and_true,<- hsz,SB];rw[ci,<- l1,jc]at q;exact q
    ·have z:(ds.length==es.length)=false :=by simpa using hsz
     rw[z,TY];exact l5.lists_lengths p p2 (by simp only[ci];simpa[bne_iff_ne] using (show its.length≠b8.length by omega)) aL
  |tup e2 gu h2=>cases ry;obtain⟨_,_,p2⟩:=tups e2;exact lm.list_tuple p p2 aL
 |tup e1 jc h1 ih=>
  rename_i a xs ds;intro e u v A hy rx ry hu;have aL:A.units<cLine :=by omega
  have Ag:A.units+eU ds+1<cLine :=by rw[dF]at hu;omega
  cases rx;obtain⟨its,rv,p⟩:=tups e1;cases hy with
  |ai=>cases ry;exact lm.tuple_none p aL
  |bl b=>cases ry;exact lm.tuple_bool _ p aL
  |int i=>obtain⟨t,rfl⟩:=ry;exact lm.tuple_int _ _ p aL
  |str z=>obtain⟨t,rfl⟩:=ry;exact lm.tuple_str _ _ p aL
  |lst e2 gu h2=>cases ry;obtain⟨_,_,p2⟩:=lists e2;exact lm.tuple_list p p2 aL
  |tup e2 gu h2=>
   rename_i b ys es;cases ry;by_cases fF:a=b
   ·subst fF;have:=(di.tup e1 jc h1).inj (di.tup e2 gu h2);cases this;rw[ko];exact VC _
   ·obtain⟨b8,ia,p2⟩:=tups e2;have l1:=rv.length;have l2:=ia.length;have at_:∀j (g1:j<its.toArray.size) (g2:j<b8.toArray.size),lm A.in1 s its.toArray[j] b8.toArray[j] (cw (ds.getD j .ai) (es.getD j .ai)):=fun j g1 g2=>by
     have ib:j<xs.length :=by rw[l1];simpa using g1
     have ie:j<ys.length :=by rw[l2];simpa using g2
     have r1:=b7 rv g1;have r2:=b7 ia g2;rw[ce,ag ib]at r1;rw[ce,ag ie]at r2;have d1:ds[j]?=some ds[j]:=ag (by omega)
     have d2:es[j]?=some es[j]:=ag (by omega)
     rw[ce,ce,d1,d2];have:=jb d1;exact ih j _ _ (ag ib) d1 (h2 j _ _ (ag ie) d2) r1 r2 (by show A.units+1+_<cLine;omega)
    refine lm.of_refs fF ?_;rw[cw,dY];have q:=l5.tuples p p2 aL at_;rw[ci,ci,<- l1,<- l2,jc,gu]at q;exact q
theorem IM (I:Inv X pins σ H s) {x y:V}{d e:Dt}{u v:am}{A:mf}(hx:di H x d) (hy:di H y e) (rx:RelV x u) (ry:RelV y v) (hu:A.units+dF d<cLine):l5 A s u v (cw d e) :=by
 have aL:A.units<cLine :=by omega
 have lists:=fun {a:ap} {xs:List V} (h:H a=some (.lst xs))=>I.lists h
 have tups:=fun {a:ap} {xs:List V} (h:H a=some (.tup xs))=>I.tups h
 cases hx with
 |ai=>
  cases rx;cases hy with
  |ai=>cases ry;exact l5.none_none
  |bl b=>cases ry;exact l5.none_bool _
  |int b=>obtain⟨t,rfl⟩:=ry;exact l5.none_int _ _
  |str b=>obtain⟨t,rfl⟩:=ry;exact l5.none_str _ _
  |lst e2 _ _=>cases ry;obtain⟨_,_,p⟩:=lists e2;exact l5.none_list p aL
  |tup e2 _ _=>cases ry;obtain⟨_,_,p⟩:=tups e2;exact l5.none_tuple p aL
 |bl a=>
  cases rx;cases hy with
  |ai=>cases ry;exact l5.bool_none _
  |bl b=>cases ry;exact l5.bool_bool _ _
  |int b=>obtain⟨t,rfl⟩:=ry;exact l5.bool_int _ _ _
  |str b=>obtain⟨t,rfl⟩:=ry;exact l5.bool_str _ _ _
  |lst e2 _ _=>cases ry;obtain⟨_,_,p⟩:=lists e2;exact l5.bool_list _ p aL
  |tup e2 _ _=>cases ry;obtain⟨_,_,p⟩:=tups e2;exact l5.bool_tuple _ p aL
 |int a=>
  obtain⟨ta,rfl⟩:=rx;cases hy with
  |ai=>cases ry;exact l5.int_none _ _
  |bl b=>cases ry;exact l5.int_bool _ _ _
  |int b=>obtain⟨t,rfl⟩:=ry;exact l5.int_int _ _ _ _
  |str b=>obtain⟨t,rfl⟩:=ry;exact l5.int_str _ _ _ _
  |lst e2 _ _=>cases ry;obtain⟨_,_,p⟩:=lists e2;exact l5.int_list _ _ p aL
  |tup e2 _ _=>cases ry;obtain⟨_,_,p⟩:=tups e2;exact l5.int_tuple _ _ p aL
 |str a=>
  obtain⟨ta,rfl⟩:=rx;cases hy with
  |ai=>cases ry;exact l5.str_none _ _
  |bl b=>cases ry;exact l5.str_bool _ _ _
  |int b=>obtain⟨t,rfl⟩:=ry;exact l5.str_int _ _ _ _
  |str b=>obtain⟨t,rfl⟩:=ry;exact l5.str_str _ _ _ _
  |lst e2 _ _=>cases ry;obtain⟨_,_,p⟩:=lists e2;exact l5.str_list _ _ p aL
  |tup e2 _ _=>cases ry;obtain⟨_,_,p⟩:=tups e2;exact l5.str_tuple _ _ p aL
 |lst e1 jc h1=>
  rename_i a xs ds;have Ag:A.units+eU ds+1<cLine :=by rw[dF]at hu;omega
  cases rx;obtain⟨its,rv,p⟩:=lists e1;cases hy with
  |ai=>cases ry;exact l5.list_none p aL
  |bl b=>cases ry;exact l5.list_bool _ p aL
  |int b=>obtain⟨t,rfl⟩:=ry;exact l5.list_int _ _ p aL
  |str b=>obtain⟨t,rfl⟩:=ry;exact l5.list_str _ _ p aL
  |lst e2 gu h2=>
   rename_i b ys es;cases ry;obtain⟨b8,ia,p2⟩:=lists e2;have l1:=rv.length;have l2:=ia.length;have at_:∀j (g1:j<its.toArray.size) (g2:j<b8.toArray.size),lm A.in1 s its.toArray[j] b8.toArray[j] (cw (ds.getD j .ai) (es.getD j .ai)):=fun j g1 g2=>by
    have ib:j<xs.length :=by rw[l1];simpa using g1
    have ie:j<ys.length :=by rw[l2];simpa using g2
    have r1:=b7 rv g1;have r2:=b7 ia g2;rw[ce,ag ib]at r1;rw[ce,ag ie]at r2;have d1:ds[j]?=some ds[j]:=ag (by omega)
    have d2:es[j]?=some es[j]:=ag (by omega)
    rw[ce,ce,d1,d2];have:=jb d1;exact lW I (h1 j _ _ (ag ib) d1) (h2 j _ _ (ag ie) d2) r1 r2 (by show A.units+1+_<cLine;omega)
   rw[cw,dY];by_cases hsz:ds.length=es.length
   ·have q:=l5.lists p p2 (by simp only[ci];omega) aL at_
    have z:(ds.length==es.length)=true :=by simpa using hsz
    rw[z,Bool.and_true,<- hsz,SB];rw[ci,<- l1,jc]at q;exact q
   ·have z:(ds.length==es.length)=false :=by simpa using hsz
    rw[z,TY];exact l5.lists_lengths p p2 (by simp only[ci];simpa[bne_iff_ne] using (show its.length≠b8.length by omega)) aL
  |tup e2 gu h2=>cases ry;obtain⟨_,_,p2⟩:=tups e2;exact l5.list_tuple p p2 aL
 |tup e1 jc h1=>
  rename_i a xs ds;have Ag:A.units+eU ds+1<cLine :=by rw[dF]at hu;omega
  cases rx;obtain⟨its,rv,p⟩:=tups e1;cases hy with
  |ai=>cases ry;exact l5.tuple_none p aL
  |bl b=>cases ry;exact l5.tuple_bool _ p aL
  |int b=>obtain⟨t,rfl⟩:=ry;exact l5.tuple_int _ _ p aL
  |str b=>obtain⟨t,rfl⟩:=ry;exact l5.tuple_str _ _ p aL
  |lst e2 gu h2=>cases ry;obtain⟨_,_,p2⟩:=lists e2;exact l5.tuple_list p p2 aL
  |tup e2 gu h2=>
   rename_i b ys es;cases ry;obtain⟨b8,ia,p2⟩:=tups e2;have l1:=rv.length;have l2:=ia.length;have at_:∀j (g1:j<its.toArray.size) (g2:j<b8.toArray.size),lm A.in1 s its.toArray[j] b8.toArray[j] (cw (ds.getD j .ai) (es.getD j .ai)):=fun j g1 g2=>by
    have ib:j<xs.length :=by rw[l1];simpa using g1
    have ie:j<ys.length :=by rw[l2];simpa using g2
    have r1:=b7 rv g1;have r2:=b7 ia g2;rw[ce,ag ib]at r1;rw[ce,ag ie]at r2;have d1:ds[j]?=some ds[j]:=ag (by omega)
    have d2:es[j]?=some es[j]:=ag (by omega)
    rw[ce,ce,d1,d2];have:=jb d1;exact lW I (h1 j _ _ (ag ib) d1) (h2 j _ _ (ag ie) d2) r1 r2 (by show A.units+1+_<cLine;omega)
   rw[cw,dY];have q:=l5.tuples p p2 aL at_;rw[ci,ci,<- l1,<- l2,jc,gu]at q;exact q
theorem IP (I:Inv X pins σ H s) {x y:V}{d e:Dt}{u v:am}{A:mf}(hx:di H x d) (hy:di H y e) (rx:RelV x u) (ry:RelV y v) (hu:A.units+dF d<cLine):lf A s u v (!(cw d e)) :=by
 have aL:A.units<cLine :=by omega
 have lists:=fun {a:ap} {xs:List V} (h:H a=some (.lst xs))=>I.lists h
 have tups:=fun {a:ap} {xs:List V} (h:H a=some (.tup xs))=>I.tups h
 cases hx with
 |ai=>
  cases rx;cases hy with
  |ai=>cases ry;exact lf.none_none
  |bl b=>cases ry;exact lf.none_bool _
  |int b=>obtain⟨t,rfl⟩:=ry;exact lf.none_int _ _
  |str b=>obtain⟨t,rfl⟩:=ry;exact lf.none_str _ _
  |lst e2 _ _=>cases ry;obtain⟨_,_,p⟩:=lists e2;exact lf.none_list p aL
  |tup e2 _ _=>cases ry;obtain⟨_,_,p⟩:=tups e2;exact lf.none_tuple p aL
 |bl a=>
  cases rx;cases hy with
  |ai=>cases ry;exact lf.bool_none _
  |bl b=>cases ry;exact lf.bool_bool _ _
  |int b=>obtain⟨t,rfl⟩:=ry;exact lf.bool_int _ _ _
  |str b=>obtain⟨t,rfl⟩:=ry;exact lf.bool_str _ _ _
  |lst e2 _ _=>cases ry;obtain⟨_,_,p⟩:=lists e2;exact lf.bool_list _ p aL
  |tup e2 _ _=>cases ry;obtain⟨_,_,p⟩:=tups e2;exact lf.bool_tuple _ p aL
 |int a=>
  obtain⟨ta,rfl⟩:=rx;cases hy with
  |ai=>cases ry;exact lf.int_none _ _
  |bl b=>cases ry;exact lf.int_bool _ _ _
  |int b=>obtain⟨t,rfl⟩:=ry;exact lf.int_int _ _ _ _
  |str b=>obtain⟨t,rfl⟩:=ry;exact lf.int_str _ _ _ _
  |lst e2 _ _=>cases ry;obtain⟨_,_,p⟩:=lists e2;exact lf.int_list _ _ p aL
  |tup e2 _ _=>cases ry;obtain⟨_,_,p⟩:=tups e2;exact lf.int_tuple _ _ p aL
 |str a=>
  obtain⟨ta,rfl⟩:=rx;cases hy with
  |ai=>cases ry;exact lf.str_none _ _
  |bl b=>cases ry;exact lf.str_bool _ _ _
  |int b=>obtain⟨t,rfl⟩:=ry;exact lf.str_int _ _ _ _
  |str b=>obtain⟨t,rfl⟩:=ry;exact lf.str_str _ _ _ _
  |lst e2 _ _=>cases ry;obtain⟨_,_,p⟩:=lists e2;exact lf.str_list _ _ p aL
  |tup e2 _ _=>cases ry;obtain⟨_,_,p⟩:=tups e2;exact lf.str_tuple _ _ p aL
 |lst e1 jc h1=>
  rename_i a xs ds;have Ag:A.units+eU ds+1<cLine :=by rw[dF]at hu;omega
  cases rx;obtain⟨its,rv,p⟩:=lists e1;cases hy with
  |ai=>cases ry;exact lf.list_none p aL
  |bl b=>cases ry;exact lf.list_bool _ p aL
  |int b=>obtain⟨t,rfl⟩:=ry;exact lf.list_int _ _ p aL
  |str b=>obtain⟨t,rfl⟩:=ry;exact lf.list_str _ _ p aL
  |lst e2 gu h2=>
   rename_i b ys es;cases ry;obtain⟨b8,ia,p2⟩:=lists e2;have l1:=rv.length;have l2:=ia.length;have at_:∀j (g1:j<its.toArray.size) (g2:j<b8.toArray.size),lm A.in1 s its.toArray[j] b8.toArray[j] (cw (ds.getD j .ai) (es.getD j .ai)):=fun j g1 g2=>by
    have ib:j<xs.length :=by rw[l1];simpa using g1
    have ie:j<ys.length :=by rw[l2];simpa using g2
    have r1:=b7 rv g1;have r2:=b7 ia g2;rw[ce,ag ib]at r1;rw[ce,ag ie]at r2;have d1:ds[j]?=some ds[j]:=ag (by omega)
    have d2:es[j]?=some es[j]:=ag (by omega)
    rw[ce,ce,d1,d2];have:=jb d1;exact lW I (h1 j _ _ (ag ib) d1) (h2 j _ _ (ag ie) d2) r1 r2 (by show A.units+1+_<cLine;omega)
   rw[cw,dY];by_cases hsz:ds.length=es.length
   ·have q:=lf.lists p p2 (by simp only[ci];omega) aL at_
    have z:(ds.length==es.length)=true :=by simpa using hsz
    rw[z,Bool.and_true,<- hsz,SB];rw[ci,<- l1,jc]at q;exact q
   ·have z:(ds.length==es.length)=false :=by simpa using hsz
    rw[z,TY];exact lf.lists_lengths p p2 (by simp only[ci];simpa[bne_iff_ne] using (show its.length≠b8.length by omega)) aL
  |tup e2 gu h2=>cases ry;obtain⟨_,_,p2⟩:=tups e2;exact lf.list_tuple p p2 aL
 |tup e1 jc h1=>
  rename_i a xs ds;have Ag:A.units+eU ds+1<cLine :=by rw[dF]at hu;omega
  cases rx;obtain⟨its,rv,p⟩:=tups e1;cases hy with
  |ai=>cases ry;exact lf.tuple_none p aL
  |bl b=>cases ry;exact lf.tuple_bool _ p aL
  |int b=>obtain⟨t,rfl⟩:=ry;exact lf.tuple_int _ _ p aL
  |str b=>obtain⟨t,rfl⟩:=ry;exact lf.tuple_str _ _ p aL
  |lst e2 gu h2=>cases ry;obtain⟨_,_,p2⟩:=lists e2;exact lf.tuple_list p p2 aL
  |tup e2 gu h2=>
   rename_i b ys es;cases ry;obtain⟨b8,ia,p2⟩:=tups e2;have l1:=rv.length;have l2:=ia.length;have at_:∀j (g1:j<its.toArray.size) (g2:j<b8.toArray.size),lm A.in1 s its.toArray[j] b8.toArray[j] (cw (ds.getD j .ai) (es.getD j .ai)):=fun j g1 g2=>by
    have ib:j<xs.length :=by rw[l1];simpa using g1
    have ie:j<ys.length :=by rw[l2];simpa using g2
    have r1:=b7 rv g1;have r2:=b7 ia g2;rw[ce,ag ib]at r1;rw[ce,ag ie]at r2;have d1:ds[j]?=some ds[j]:=ag (by omega)
    have d2:es[j]?=some es[j]:=ag (by omega)
    rw[ce,ce,d1,d2];have:=jb d1;exact lW I (h1 j _ _ (ag ib) d1) (h2 j _ _ (ag ie) d2) r1 r2 (by show A.units+1+_<cLine;omega)
   rw[cw,dY];have q:=lf.tuples p p2 aL at_;rw[ci,ci,<- l1,<- l2,jc,gu]at q;exact q
end
section
variable {X:Cx}
def CP (neg:Bool):R2:=fun x y H Q=>∃d e,di H x d/\di H y e/\dF d<=60/\Q (.bl (if neg then !cw d e else cw d e)) H
theorem IQ (hu:X.A.units+64<cLine):OpR X (compareOp .Eq) (CP false) :=by
 intro pins s σ H x y v u Q I rx ry h;obtain⟨d,e,hx,hy,hd,q⟩:=h;exact IM I hx hy rx ry (by omega) X.prog X.w X.xe _ ⟨.bl _,H,I,rfl,q⟩
theorem IU (hu:X.A.units+64<cLine):OpR X (compareOp .NotEq) (CP true) :=by
 intro pins s σ H x y v u Q I rx ry h;obtain⟨d,e,hx,hy,hd,q⟩:=h;exact IP I hx hy rx ry (by omega) X.prog X.w X.xe _ ⟨.bl _,H,I,rfl,q⟩
end
theorem Ah:bootBuiltins "set" = some (.type "set") :=by decide +kernel
theorem jE:bootBuiltins "sorted" = some (.builtin "sorted") :=by decide +kernel
section
variable {X:Cx}
def Ai (K:bn) (H:Hp) (p:ap) (ns:List Int):Prop:=bG K H p (ns.map V.int)\/bC K H p (ns.map V.int)
def t8 (P:ii) (w:ij) (K:bn):List V->Hp->VK->Prop:=fun xs H Q=>∃p ns,xs=[.ref p]/\Ai K H p ns/\ns.length+1<scanBound/\∀l,H l=none->Q (.ref l) (upd H l (nQ P w l (cC ns)))
theorem t9 {ns:List Int}{us:List am}(r:Vals (ns.map V.int) us):∀(i:Nat) (v:am),us.toArray[i]?=some v->∃m t,ns[i]?=some m/\v=.int m t:=fun i v h=>by
 have hl:=r.length;have h':us[i]?=some v :=by simpa using h
 have hi:i<us.length:=(br.mp h').1;have dh:i<ns.length :=by rw[cb]at hl;omega
 obtain⟨u,e,q⟩:=r.get (i:=i) (x:=V.int ns[i]) (by rw[cr,ag dh];rfl)
 rw[h']at e;cases e;obtain⟨t,rfl⟩:=q;exact⟨_,t,ag dh,rfl⟩
theorem Aj (hc:X.calm=true):bV X (.type "set") (t8 X.prog X.w X.K) :=by
 intro pins s σ H xs us Q I r h;obtain⟨p,ns,rfl,hq,hb,q⟩:=h;obtain⟨u,rfl,rx⟩:=vals1 r;cases rx;have fin:∀(h':i0) (tk:Nat),b9 X.prog X.w h' s.heap.objs.size (cC ns)->(∀b o,s.heap.get? b=some o->h'.get? b=some o)->EP X pins σ Q (.ref s.heap.objs.size) {s with heap:=h',toks:=tk}:=fun h' tk hM hk=>
  ⟨.ref s.heap.objs.size,_,I.laid (t':=tk) hk (bv _) (FG hM),rfl,q _ (I.hok.fresh (bv _))⟩
 have hh:=I.ok.hd hc;rcases hq with hq|hq
 ·obtain⟨its,rv,pl,hz⟩:=I.list hq;have hl:its.toArray.size=ns.length :=by rw[ci,<- rv.length,cb]
  obtain⟨o,ho,eL,n,hd⟩:=pl.isList;refine lK (T := "list") (vs:=ns) (itob:={cls:=.type "list_iterator",data:=.fields #[.ref p,.int 0 0]}) (Pv:=fun i v=>its.toArray[i]?=some v) (St:=fun I i h=>h.IsListIter I p i/\h.IsList p its.toArray) hh ⟨o,ho⟩ (fun s1 k=>⟨o,k o ho,eL⟩) F.sub_list_set F.sub_list_frozenset (by decide)
   (fun A' s1 Q' E' k IV=>wpAny_pyIter_list ⟨o,k o ho,eL,n,hd⟩ IV) (fun A' I' hA cf=>hl▸Walks.list hA I' p cf its.toArray) (fun h1 k=>⟨⟨_,ff _ rfl,rfl,rfl⟩,⟨o,bi _ (k o ho),eL,n,hd⟩⟩) (t9 rv) hb fin
 ·obtain⟨its,rv,pl,hz⟩:=I.tuple hq;have hl:its.toArray.size=ns.length :=by rw[ci,<- rv.length,cb]
  obtain⟨o,ho,eL,n,hd⟩:=pl;refine lK (T := "tuple") (vs:=ns) (itob:={cls:=.type "tuple_iterator",data:=.fields #[.ref p,.int 0 0]}) (Pv:=fun i v=>its.toArray[i]?=some v) (St:=fun I i h=>h.IsTupleIter I p i/\h.IsTuple p its.toArray) hh ⟨o,ho⟩ (fun s1 k=>⟨o,k o ho,eL⟩) sub_tuple_set qi (by decide)
   (fun A' s1 Q' E' k IV=>TJ ⟨o,k o ho,eL,n,hd⟩ IV) (fun A' I' hA cf=>hl▸Walks.tuple hA I' p cf its.toArray) (fun h1 k=>⟨⟨_,ff _ rfl,rfl,rfl⟩,⟨o,bi _ (k o ho),eL,n,hd⟩⟩) (t9 rv) hb fin
def wB (P:ii) (w:ij) (K:bn):List V->Hp->VK->Prop:=fun xs H Q=>∃p ns,xs=[.ref p]/\(H p=some (nQ P w p ns)\/Ai K H p ns)/\ns.length<64/\∀l,H l=none->Q (.ref l) (upd H l (.lst ((sortI ns).map V.int)))
theorem ua (hc:X.calm=true):bV X (.builtin "sorted") (wB X.prog X.w X.K) :=by
 intro pins s σ H xs us Q I r h;obtain⟨p,ns,rfl,hq,lU,q⟩:=h;obtain⟨u,rfl,rx⟩:=vals1 r;cases rx;have hh:=I.ok.hd hc;refine yc (ns:=ns) (fun QL Ak=>?_) lU (fun h1 h' d' tk us e hI k1 k2 he=>?_)
 ·rcases hq with hq|hq|hq
  ·exact vA (by simp[hh]) (FH I hq) (by have:sizeLine=16777216:=Is;omega) Ak
  ·obtain⟨its,rv,pl,hz⟩:=I.list hq;have hl:=rv.length;obtain⟨o,ho,eL,n,hd⟩:=pl.isList;exact nB ho eL hd (.inl rfl) (fun h' k=>Ak its ns h' s.drawn s.toks (sF rv) (.refl _) k) (by omega)
  ·obtain⟨its,rv,pl,hz⟩:=I.tuple hq;have hl:=rv.length;obtain⟨o,ho,eL,n,hd⟩:=pl;exact nB ho eL hd (.inr rfl) (fun h' k=>Ak its ns h' s.drawn s.toks (sF rv) (.refl _) k) (by omega)
 ·have I1:Inv X pins σ H {s with heap:=h1,drawn:=d'}:=(I.kept (t':=s.toks) k1).lF ⟨rfl,rfl,I.bare.self⟩
  have hsz:sizeLine=16777216:=Is;have ob:bj X.prog X.w (upd H h1.objs.size (.lst ((sortI ns).map V.int))) h' h1.objs.size (.lst ((sortI ns).map V.int)):=⟨by rw[cb,(sortI_perm ns).length_eq];omega,us,e,lR hI,he⟩
  exact⟨.ref h1.objs.size,_,I1.laid (t':=tk) k2 (bv _) ob,rfl,q _ (I1.hok.fresh (bv _))⟩
theorem yf {K:bn}(h:X.K=K) (hc:X.calm=true):bV X (.type "set") (t8 X.prog X.w K):=h▸Aj hc
end
theorem bj.there {P:ii}{w:ij}{H:Hp}{h:i0}{a:ap}{o:HO}(x:bj P w H h a o):∃u,h.get? a=some u :=by
 cases o with
 |lst xs=>obtain⟨_,_,_,_,e⟩:=x;exact⟨_,e⟩
 |tup xs=>obtain⟨_,_,_,ob,e,_⟩:=x;exact⟨_,e⟩
 |dK aF=>obtain⟨_,_,_,_,o,_,_,e,_⟩:=x;exact⟨_,e⟩
 |dT aF=>obtain⟨_,_,_,_,o,_,_,e,_⟩:=x;exact⟨_,e⟩
 |set S n=>obtain⟨o,_,_,_,e,_⟩:=x;exact⟨_,e⟩
 |ins C dx fs=>obtain⟨_,_,_,e,_⟩:=x;exact⟨_,e⟩
 |own y=>obtain⟨_,e⟩:=x;exact⟨_,e⟩
 |xd fs=>obtain⟨_,⟨_,_,_,e,_⟩,_⟩:=x;exact⟨_,e⟩
 |v3 lo hi=>obtain⟨_,_,_,e⟩:=x;exact⟨_,e⟩
 |fx ob u=>obtain⟨e,_⟩:=x;exact⟨_,e⟩
 |cA ps=>exact⟨_,x⟩
 |lam ps=>exact⟨_,x⟩
 |met f y=>exact⟨_,x⟩
 |ext φ=>obtain⟨_,⟨_,e⟩,_⟩:=x;exact⟨_,e⟩
def d8 (P:ii) (w:ij):jR:=fun outer H s E e s'=>∃(a C t:ap) (B:i0) (H':Hp),e=.ref a/\s'.os=s.os/\Gn s.gens.size s'.gens/\i0.FlyingW B outer a (.ref C) (.ref t) s'.heap /\
 (∀b o,s.heap.get? b=some o->b ∉ fD outer->∃o',B.get? b=some o')/\(∀b u,H' b=some u->∃o',B.get? b=some o')/\Un (fD outer) [] H H' s.heap s'.heap/\dH P w H' s'.heap/\E (.ref C) none H'
section
variable {X:Cx}{pins:List (ap×l8)}{σ:St}{H H1:Hp}{s s1:ar}{B h':i0}
theorem Inv.lX (I:Inv X pins σ H s) {b:ap}(h1:b≠X.env.locals) (h2:b ∉ X.fs):b ∉ fD X.stack:=fun z=>by
 rcases li.mp (I.iU b z) with q|q
 ·exact h1 q
 ·exact h2 q
theorem Inv.sG (I:Inv X pins σ H s) {b:ap}{o:l8}(e:X.s₀.heap.get? b=some o):b≠X.env.locals:=fun z=>by
 have l:=gc e;have:=I.ok.above;rw[<- z]at this;exact absurd l (Nat.not_lt.mpr this)
theorem Inv.Nr (I1:Inv X pins σ H1 s1) (I:Inv X pins σ H s) (c1:∀b o,s1.heap.get? b=some o->b ∉ fD X.stack->∃o',B.get? b=some o') (c2:∀b u,H b=some u->∃o',B.get? b=some o')
  (k:B.StaysIn s.heap) (k':B.StaysIn h') (up:s.heap.UpToSlots h'):Inv X pins σ H {s with heap:=h'}:=by
 have same:∀b o',(∃o2,B.get? b=some o2)->s.heap.get? b=some o'->h'.get? b=some o':=fun b o' ⟨o2,e⟩ q=>by
  have z:=k b o2 e;rw[q]at z;cases z;exact k' b _ e
 refine⟨I.ok,I.os,I.bare,⟨fun b o q n hb hx=>?_,fun b o q n hb hx=>?_,I.base.free,fun b o q hx=>?_,I.base.tups,I.base.frzs,I.base.tbls⟩,?_,fun x c e=>?_,I.free,I.freeC,fun p hp=>?_,fun a o e=>?_,I.len⟩
 ·exact same b o (c1 b o (I1.base.keep b o q n hb hx) (I.lX (I.sG q) hb)) (I.base.keep b o q n hb hx)
 ·obtain⟨sl,e⟩:=I.base.slot b o q n hb hx;obtain⟨_,o2,e2,nf⟩:=I.funs.mem hb;rw[e]at e2;cases e2;obtain⟨qX,e4⟩:=up b {o with slots:=sl} e nf
  exact⟨qX,e4⟩
 ·obtain⟨o',e⟩:=I.base.there b o q hx;by_cases hb:b∈X.fs
  ·obtain⟨_,o2,e2,nf⟩:=I.funs.mem hb;obtain⟨sl,e3⟩:=up b _ e2 nf;exact⟨_,e3⟩
  ·obtain⟨o1,q1⟩:=I1.base.there b o q hx;exact⟨o',same b o' (c1 b o1 q1 (I.lX (I.sG q) hb)) e⟩
 ·obtain⟨m,hn,hl⟩:=I.loc;refine⟨m,up.ns hn,fun i x v a b c=>?_⟩
  obtain⟨u,r,l⟩:=hl i x v a b c;refine⟨u,r,?_⟩;rcases l with l|⟨kd,c,ec,o,ho,hd⟩
  ·exact .inl l
  ·obtain⟨sl,e⟩:=up c o ho fun vs z=>by rw[hd]at z;cases z
   exact .inr ⟨kd,c,ec,_,e,hd⟩
 ·obtain⟨v,o,ho,hd⟩:=I.cell x c e;obtain⟨sl,e⟩:=up c o ho fun vs z=>by rw[hd]at z;cases z
  exact⟨v,_,e,hd⟩
 ·obtain⟨p1,p2,p3,p4,p5⟩:=I.pin p hp;exact⟨same p.1 p.2 (c1 p.1 p.2 (I1.pin p hp).1 (I.lX p3 p4)) p1,p2,p3,p4,p5⟩
 ·refine(I.hok a o e).bB (fun b u hb q=>?_) (fun _ q=>q) fun _ _ q=>q
  rcases hb with z|z
  ·exact same b u (c2 b o (by rw[z];exact e)) q
  ·exact same b u (c2 b _ z) q
end
section
variable {P:ii}{w:ij}{K:bn}{mg:db->Option am}{base:i0}{N:List db}{qual:db}{scope:ET}{f:ap}{cd:am}{A:mf}{outer:List SM}{s0:ar}{H0:Hp}{E:XK}
theorem yg:Passes (d8 P w) (fR (d8 P w) P w K mg base N qual scope f cd A outer s0 H0 E) E :=by
 intro pins σ H s e s' I h;obtain⟨a,C,t,B,H',rfl,os,gn,fl,c1,c2,un,hok,q⟩:=h;have I':=I.xt (ch:=[]) os un hok gn (fun b z=>absurd z (by simp))
 refine wpAny_leaves_onW (cls:=.ref C) (a0:=.ref t) I.ok.frames rfl fl fun h' Nt up=>?_
 have I2:=I.Nr I' c1 c2 fl.1 Nt.1 up;refine⟨a,C,t,B,H',rfl,I2.os,I2.bare,Nt,fun b o e n=>?_,c2,I2.base,I2.hok,q⟩
 obtain⟨o1,e1⟩:=I.base.there b o e (fun z=>absurd (show b∈([]:List ap) from z) (by simp))
 exact c1 b o1 e1 (I.lX (I.sG e) n)
def Raises (X:Cx) (E:XK):Prop:=∀(pins:List (ap×l8)) (σ:St) (H:Hp) (s:ar) (C:ap) (h':i0) (a:ap) (vs:List am),Inv X pins σ H s->i0.MadeExcOf s.heap h' a (.ref C) vs->E (.ref C) none H->X.xe (.ref a) {s with heap:=h'}
theorem Al:Raises (fR (d8 P w) P w K mg base N qual scope f cd A outer s0 H0 E) E :=by
 intro pins σ H s C h' a vs I hx q;have c1:∀b o,s.heap.get? b=some o->b ∉ fD (fR (d8 P w) P w K mg base N qual scope f cd A outer s0 H0 E).stack->∃o',(Us s.heap (fD (fR (d8 P w) P w K mg base N qual scope f cd A outer s0 H0 E).stack)).get? b=some o':=
  fun b o e n=>⟨o,PySem.W.hideAll_get _ e n⟩
 have c2:∀b u,H b=some u->∃o',(Us s.heap (fD (fR (d8 P w) P w K mg base N qual scope f cd A outer s0 H0 E).stack)).get? b=some o':=fun b u hu=>by
  obtain⟨o,e⟩:=(I.hok b u hu).there;exact c1 b o e fun z=>by rw[I.pY b z]at hu;cases hu
 have st:(Us s.heap (fD (fR (d8 P w) P w K mg base N qual scope f cd A outer s0 H0 E).stack)).StaysIn s.heap:=fun b o e=>PySem.W.of_hideAll _ e
 refine wpAny_leaves_madeW (cls:=.ref C) I.ok.frames rfl st (PySem.W.funFrames_hide I.stack fun env he b hb=>TK.mpr ⟨env,he,hb⟩) hx fun R8 t fl _ _ up=>?_
 have I2:=I.Nr I c1 c2 st fl.1 ((i0.UpToSlots.of_keeps hx.keeps).trans up);refine⟨a,C,t,_,H,rfl,I2.os,I2.bare,fl,fun b o e n=>?_,c2,I2.base,I2.hok,q⟩
 obtain⟨o1,e1⟩:=I.base.there b o e (fun z=>absurd (show b∈([]:List ap) from z) (by simp))
 exact c1 b o1 e1 (I.lX (I.sG e) n)
end
theorem FI {K:bn}{h:i0}{C:ap}{rq:List am}{newId:String}(X:K.In h) (q:Vb K C rq newId=true) :
  ∃bm Nn nm qn bs hd sn sub ab col dd k0 k1 k2 k3 k5 mN,h.get? C=some (excClassObj nm qn C Nn bs bm hd sn sub ab col dd k0 k1 k2 k3 k5 newId)/\h.Ns Nn mN/\mN "__init__" = none/\OwnTail h rq bm :=by
 unfold Vb at q;split at q;case h_2=>cases q
 case h_1 dd cd sl ho=>
  split at q;case h_2=>cases q
  case h_1 C' bm k0 k1 k2 k3 n k5 hm hs=>
   rw[BB,BB,BB,BB,BB]at q;obtain⟨⟨⟨⟨⟨q1,q2⟩,q3⟩,q4⟩,q5⟩,q6⟩:=q;have e1:C'=C:=beq_iff_eq.mp q1;have e2:n=newId:=beq_iff_eq.mp q2;have e3:cd.hasDel=false :=by simpa using q3
   subst e1 e2;obtain⟨nm,bs,mro,ns,qn,hd,sn,sub,ab,col,del⟩:=cd;dsimp only at hm e3 q5 q6;subst hm e3;have es:sl=#[k0,k1,k2,k3,some (.builtin n),k5] :=by
    cases sl with
    |mk l=>exact congrArg Array.mk hs
   subst es;exact⟨bm,ns,nm,qn,bs,hd,sn,sub,ab,col,dd,k0,k1,k2,k3,k5,_,X _ _ ho,i0.Ns.of_isNs (PySem.W.isNs_of_in X q5),PySem.W.nsMap_none_of_in X q5 (beq_iff_eq.mp q6),PySem.W.tail_of_in X q4⟩
section
variable {X:Cx}{x:db}{C:ap}{jM:gl}{rest:List gl}{t:TA}{rq:List am}{B newId ub:String}{E:XK}{np aR pos:ze}
def IW (C:ap) (E:XK) (t:TA):TS:=fun _ σ H=>t σ H fun vs H1=>vs.length<=sizeLine/\E (.ref C) none H1
theorem CQ (O:Vb X.K C rq newId=true) (FB:ExcBaseFacts B newId ub rq) (hc:X.calm=true) (hR:Raises X E) (hg:Gl X x) (hm:X.mg x=some (.ref C)) (ha:PA X (jM::rest) t)
  (fE:(x==("__debug__" : db))=false :=by decide) (he:starEach (jM::rest) X.env=(false,eval jM X.env)::starEach rest X.env :=by rfl) (cY:(backTo aR (starEach rest X.env)).any (·.1)=false :=by rfl) :
  PS X (.Raise (some (.Call (.Name x np) (jM::rest) [] aR)) none pos) (IW C E t) :=by
 refine⟨fun pins s σ H D I h=>?_⟩
 obtain⟨bm,Nn,nm,qn,bs,hd,sn,sub,ab,col,dd,k0,k1,k2,k3,k5,mN,hC,hN,Qn,T⟩:=FI I.ok.mod.kin O;have hp:(backTo aR (starEach (jM::rest) X.env)).any (·.1)=false :=by
  rw[he];exact cY
 have rA:=ha aR pins s σ H _ I h;rw[he]at rA;refine wpAny_Raise_call_subT (C:=C) (nm:=nm) (q:=qn) (N:=Nn) (bs:=bs) (bm:=bm) (hdct:=hd) (sn:=sn) (sub:=sub) (ab:=ab) (col:=col) (dd:=dd) (k0:=k0) (k1:=k1) (k2:=k2) (k3:=k3) (k5:=k5) FB (mN:=mN)
  (T.hasType FB.hasBase) (I.ok.hd hc) hp Qn (p0 I hg hm ⟨rfl,?_⟩ fE)
 rw[he];refine Uz (thn rA fun us s2 ⟨vs,H2,I2,r,l,q⟩=>?_)
 exact⟨rfl,by rw[<- r.length];exact l,I2.bk _ _ hC,hN.keeps I2.bk,T.keeps I2.bk,fun h' a hx=>hR pins σ H2 s2 C h' a us I2 hx q⟩
end
end L2
namespace L2
open PySem PySem.Spec PyProof.Rows PySem.W Builtin Builtin.ObjectAttr Builtin.Getset_descriptor
def ExcAt (C a:ap) (h:i0):Prop:=∃o vs,h.get? a=some o/\o.cls=.ref C/\o.data=.fields vs
def O8 (C a:ap):HO:=.ext (ExcAt C a)
structure IX (K:Frag) (C:ap):Prop where
 cls:(clsIn K C).isSome=true
 ga:findIn K (.ref C) "__getattribute__" = some (some (.builtin "BaseException.__getattribute__"))
 gt:findIn K (.ref C) "__getattr__" = some none
 cl:findIn K (.ref C) "__class__" = some (some (.builtin "object.__class__"))
 gg:specialIn K (.builtin "object.__class__") "__get__" = some (some (.builtin "getset_descriptor.__get__"))
 tk:takesIn K (.builtin "object.__class__")=some true
 ob:mroIn K C (.type "object")=some true
 be:mroIn K C (.type "BaseException")=some true
end L2
namespace L2
open PySem PySem.Spec PyProof.Rows PySem.W
section
variable {X:Cx}{pins pins':List (ap×l8)}{σ:St}{H:Hp}{s:ar}{T:am->ar->Prop}
theorem Inv.LD {a:ap}{o:HO}(I:Inv X pins σ H s) (n0:H a=none) (n1:X.s₀.heap.get? a=none) (n2:a≠X.env.locals) (n3:∀x c,X.env.cells.lookup x=some c->c≠a) (n4:∀p∈X.pn++pins,p.1≠a)
  (ob:bj X.prog X.w (upd H a o) s.heap a o):Inv X pins σ (upd H a o) s :=by
 have un:∀b u,H b=some u->upd H a o b=some u:=fun b u e=>by rw[ak (bA e n0)];exact e
 refine⟨I.ok,I.os,I.bare,⟨I.base.keep,I.base.slot,fun b u q n hx=>?_,I.base.there,fun b xs e=>un _ _ (I.base.tups b xs e),fun b u v e=>un _ _ (I.base.frzs b u v e),fun b ps e=>?_⟩,I.loc,I.cell,?_,fun x c e=>?_,fun p hp=>?_,fun b u e=>?_,I.len⟩
 ·rw[ak (fun z=>by rw[z,n1]at q;cases q)]
  exact I.base.free b u q n hx
 ·obtain⟨more,z⟩:=I.base.tbls b ps e;exact⟨more,un _ _ z⟩
 ·rw[ak (EO n2)];exact I.free
 ·rw[ak (n3 x c e)];exact I.freeC x c e
 ·obtain⟨p1,p2,p3⟩:=I.pin p hp;exact⟨p1,by rw[ak (n4 p hp)];exact p2,p3⟩
 ·by_cases hb:b=a
  ·subst hb;rw[aE]at e;cases e;exact ob
  ·rw[ak hb]at e;exact(I.hok b u e).bB (fun _ _ _ q=>q) (fun c q=>un _ _ q) fun c xs q=>un _ _ q
end
structure Am (K:Frag) (C0:ap):Prop where
 ty:typeIn K (.ref C0)=some (.type "type")
 be:subIn K (.ref C0) (.type "BaseException")=some true
 it:(clsIn K C0).isSome=true
theorem jF {P:ii}{w:ij}{X:Cx}:Passes (d8 P w) X (fun _ _ _=>False):=fun _ _ _ _ _ _ _ h=>by
 obtain⟨_,_,_,_,_,_,_,_,_,_,_,_,_,q⟩:=h;exact q.elim
theorem q9.zZ {P:ii}{w:ij}{K:bn}{mg:db->Option am}{base:i0}{x qual:db}{st:wp}{f:ap}{fd:rc}{N ps:List db}{k:Nat}{sp:Sp}(F:q9 K x qual st f fd) (S:aZ N ps (au st)) (len:∀vs H Q E,sp vs H Q E->vs.length=ps.length)
  (oO:∀(A:mf) (outer:List SM) (s:ar) (H:Hp) (vs:List V) (Q:VK) (E:XK),cB k (A.deeper (envOfC qual (au st) s.heap.objs.size f fd.code))->sp vs H Q E->
   ∃t,fZ (fR (d8 P w) P w K mg base N qual (au st) f fd.code A outer s H E) (dq st) t/\t {nx:=fun _ H'=>Q .ai H',rt:=Q} (start N vs) H):FnOk P w K mg base (d8 P w) (k+1) f fd ps sp :=by
 obtain⟨oc,od,kV,doc,pm,an,dE,ct,jv,rfl,lk,hZ⟩:=F.ex;exact Eb lk hZ S len fun A outer s H vs Q E hr ni=>oO A outer s H vs Q E hr ni
def Nu:List am:=[.type "ValueError",.type "Exception",.type "BaseException",.type "object"]
def CT (K:Frag) (C0 C:ap):Bool:=excIn K C Nu "ValueError.__new__" && (clsIn K C).isSome && findIn K (.ref C) "__getattribute__" == some (some (.builtin "BaseException.__getattribute__")) && findIn K (.ref C) "__getattr__" == some none &&
 findIn K (.ref C) "__class__" == some (some (.builtin "object.__class__")) && mroIn K C (.type "object")==some true && mroIn K C (.type "BaseException")==some true && subIn K (.ref C) (.ref C0)==some true && kitOne K (.ref C) (.type "ValueError")==some true
def yh (K:Frag) (C0:ap) (cs:List ap):Bool:=cs.all (CT K C0) && (cs.all fun C=>cs.all fun D=>kitOne K (.ref C) (.ref D)==some (decide (C=D))) && specialIn K (.builtin "object.__class__") "__get__" == some (some (.builtin "getset_descriptor.__get__")) && takesIn K (.builtin "object.__class__")==some true &&
 typeIn K (.ref C0)==some (.type "type") && subIn K (.ref C0) (.type "BaseException")==some true && (clsIn K C0).isSome
structure CU (K:Frag) (C0:ap) (cs:List ap):Prop where
 ex:∀C∈cs,excIn K C Nu "ValueError.__new__" = true
 cl:∀C∈cs,IX K C
 sub:∀C∈cs,subIn K (.ref C) (.ref C0)=some true
 one:∀C∈cs,∀D∈cs,kitOne K (.ref C) (.ref D)=some (decide (C=D))
 val:∀C∈cs,kitOne K (.ref C) (.type "ValueError")=some true
 top:Am K C0
theorem FJ {K:Frag}{C0:ap}{cs:List ap}(h:yh K C0 cs=true):CU K C0 cs :=by
 unfold yh at h;simp only[BB]at h;obtain⟨⟨⟨⟨⟨⟨h1,h2⟩,h3⟩,h4⟩,h5⟩,h6⟩,h7⟩:=h;have all:∀C∈cs,CT K C0 C=true:=wE.mp h1;have part:∀C∈cs,_:=fun C hC=>by
  have z:=all C hC;unfold CT at z;simp only[BB]at z;exact z
 refine⟨fun C hC=>(part C hC).1.1.1.1.1.1.1.1,fun C hC=>?_,fun C hC=>beq_iff_eq.mp (part C hC).1.2,fun C hC D hD=>beq_iff_eq.mp (wE.mp (wE.mp h2 C hC) D hD),fun C hC=>beq_iff_eq.mp (part C hC).2,⟨beq_iff_eq.mp h5,beq_iff_eq.mp h6,h7⟩⟩
 obtain⟨⟨⟨⟨⟨⟨⟨⟨_,p1⟩,p2⟩,p3⟩,p4⟩,p5⟩,p6⟩,_⟩,_⟩:=part C hC;exact⟨p1,beq_iff_eq.mp p2,beq_iff_eq.mp p3,beq_iff_eq.mp p4,beq_iff_eq.mp h3,beq_iff_eq.mp h4,beq_iff_eq.mp p5,beq_iff_eq.mp p6⟩
end L2
namespace L2
open PySem PySem.Spec PyProof.Rows Builtin.SmallTypes
def fT (k:Bool) (h:i0) (it a:ap) (i:Nat):Prop:=if k=true then h.IsListIter it a i else h.IsTupleIter it a i
def nV (k:Bool) (h:i0) (a:ap) (items:Array am):Prop:=if k=true then h.IsList a items else h.IsTuple a items
theorem fT.at {k:Bool}{h h':i0}{it a:ap}{i:Nat}(x:fT k h it a i) (q:∀o,h.get? it=some o->h'.get? it=some o):fT k h' it a i :=by
 cases k with
 |true=>exact i0.IsListIter.at (h:=h) x q
 |false=>exact i0.IsTupleIter.at (h:=h) x q
theorem fT.obj {k:Bool}{h:i0}{it a:ap}{i:Nat}(x:fT k h it a i):∃o,h.get? it=some o/\∃vs,o.data=.fields vs :=by
 cases k with
 |true=>obtain⟨o,e,_,d⟩:=(show h.IsListIter it a i from x);exact⟨o,e,_,d⟩
 |false=>obtain⟨o,e,_,d⟩:=(show h.IsTupleIter it a i from x);exact⟨o,e,_,d⟩
section
variable {prog:ii}{w:ij}{A:mf}{E:am->ar->Prop}{s:ar}{it a:ap}{i:Nat}{items:Array am}{x:am}{k:Bool}
theorem CV {Q:Option am->ar->Prop}(hit:s.heap.IsTupleIter it a i) (ha:s.heap.IsTuple a items) (hx:items[i]?=some x)
  (hQ:∀h',h'.IsTupleIter it a (i+1)->v6 it s.heap h'->Q (some x) {s with heap:=h'}):wpAny (model prog w) A (callSpecial? (.ref it) "__next__") Q E s :=by
 obtain⟨o,ho,hc,hd⟩:=id hit;obtain⟨ol,lM,_,nl,An⟩:=ha;have sl:=F.slot_tuple_iterator_next;refine ut (name:=u8 "__next__") hit.typeIs sl (nw sl hit.typeIs F.entry_tuple_iterator_next ?_ (F.args_tuple_iterator_next_1 _))
 have nn:¬ ((ul a==wv)=true):=hX;refine ac (m:=field (.ref it) 0) (AM ho hd (x:=.ref a) rfl ?_);rw[if_neg nn];refine ac (m:=field (.ref it) 1) (AM ho hd (x:=.int i 0) rfl (ac (m:=seqItems? (.ref a)) (S8 lM An ?_)));simp only[xL,hx];refine ac (m:=setField _ _ _) (S7 ho hd (by simp) (ba ⟨x,rfl,hQ _ ?_ (AC ..)⟩))
 refine⟨_,uu _ ho (Pd (Db hd _)),(Ua ..).trans hc,?_⟩;rw[Db hd];simp[rawInt]
theorem CW {Q:Option am->ar->Prop}(hh:A.handled=none) (hit:s.heap.IsTupleIter it a i) (ha:s.heap.IsTuple a items) (hx:items[i]?=none)
  (hE:∀h' e,VI it s.heap h'->(∃o,h'.get? e=some o/\o.cls=.type "StopIteration")->E (.ref e) {s with heap:=h'}):wpAny (model prog w) A (callSpecial? (.ref it) "__next__") Q E s :=by
 obtain⟨o,ho,hc,hd⟩:=id hit;obtain⟨ol,lM,_,nl,An⟩:=ha;have sl:=F.slot_tuple_iterator_next;refine ut (name:=u8 "__next__") hit.typeIs sl (nw sl hit.typeIs F.entry_tuple_iterator_next ?_ (F.args_tuple_iterator_next_1 _))
 have nn:¬ ((ul a==wv)=true):=hX;refine ac (m:=field (.ref it) 0) (AM ho hd (x:=.ref a) rfl ?_);rw[if_neg nn];refine ac (m:=field (.ref it) 1) (AM ho hd (x:=.int i 0) rfl (ac (m:=seqItems? (.ref a)) (S8 lM An ?_)));simp only[xL,hx];refine ac (FS (ac (m:=setField _ _ _) (S7 ho hd (by simp) ?_)))
 refine ac (m:=newExc (.type "StopIteration") []) ?_
 unfold newExc newTuple;refine ac (mT ?_ (by size_fits))
 refine ac (m:=firstArgMember _ _) (KT (a:=wv) (by first|rfl|(simp only[firstArgMember];rfl)) (mT ?_ (by size_fits)))
 refine wpAny_raiseNew_none hh ?_;exact hE _ _ (((AC ..).extBut.push _).push _) ⟨_,ff _ rfl,rfl⟩
theorem FK {Q:am->ar->Prop}(hit:fT k s.heap it a i) (ha:nV k s.heap a items) (hx:items[i]?=some x)
  (hQ:∀h',fT k h' it a (i+1)->v6 it s.heap h'->Q x {s with heap:=h'}):wpAny (model prog w) A (nextOf (.ref it)) Q E s :=by
 cases k with
 |true=>exact wpAny_nextOf_list_item hit ha hx hQ
 |false=>
  unfold nextOf;exact ac (CV hit ha hx fun h' a b=>ba (hQ h' a b))
theorem FL {Q:am->ar->Prop}(hh:A.handled=none) (hit:fT k s.heap it a i) (ha:nV k s.heap a items) (hx:items[i]?=none)
  (hE:∀h' e,VI it s.heap h'->(∃o,h'.get? e=some o/\o.cls=.type "StopIteration")->E (.ref e) {s with heap:=h'}):wpAny (model prog w) A (nextOf (.ref it)) Q E s :=by
 cases k with
 |true=>exact wpAny_nextOf_list_end hh hit ha hx hE
 |false=>
  unfold nextOf;exact ac (CW hh hit ha hx hE)
end
section
variable {prog:ii}{w:ij}{A:mf}{E:am->ar->Prop}{s:ar}{e it a:ap}{i:Nat}{items:Array am}{x old:am}{k:Bool}
theorem Ao {Q:am->ar->Prop}(he:Uh s.heap e it i old) (cf:e≠it) (hit:fT k s.heap it a i) (ha:nV k s.heap a items) (hx:items[i]?=some x)
  (hQ:∀h',VT h' e it ((i:Int)+1) x s.heap.objs.size->fT k h' it a (i+1)->h'.get? s.heap.objs.size=some {cls:=.type "tuple",data:=.seq #[.int i s.toks,x]}->
   (∀b o,b≠e->b≠it->s.heap.get? b=some o->h'.get? b=some o)->Q (.ref s.heap.objs.size) {s with heap:=h',toks:=s.toks+1}) :
  wpAny (model prog w) A (l7.«enumerate.__next__» ⟨[.ref e],[]⟩) (fun fin s'=>∃v,fin=.done (.ret v)/\Q v s') E s :=by
 obtain⟨hp,g,d,tk,os⟩:=s;refine ac (m:=field (.ref e) 2) (AM he rfl (x:=.ref it) rfl (ac (m:=nextOf (.ref it)) (FK hit ha hx fun h1 IY (IZ:v6 it hp h1)=>?_)))
 have e1:Uh h1 e it i old:=(IZ.2 e cf).trans he;refine ac (m:=field (.ref e) 3) (AM e1 rfl (x:=rawInt i) rfl (ac (m:=field (.ref e) 4) (AM e1 rfl (x:=.none) rfl (ac (m:=mkInt i) (wpAny_mkInt ?_)))));refine ac (m:=setField (.ref e) 3 _) (SS e1 (by simp) fun h2 (e2:Uh h2 e it ((i:Int)+1) old) (wC:v6 e h1 h2)=>?_)
 refine ac (m:=setField (.ref e) 4 .none) (SS e2 (by simp) fun h3 (e3:Uh h3 e it ((i:Int)+1) old) (Nv:v6 e h2 h3)=>?_)
 refine ac (m:=newTuple [.int i tk,x]) (UX ?_);have z3:h3.objs.size=hp.objs.size :=by rw[Nv.1,wC.1,IZ.1]
 have el:e<hp.objs.size:=gc he;have e4:Uh (h3.push {cls:=.type "tuple",data:=.seq #[.int i tk,x]}) e it ((i:Int)+1) old:=bi _ e3
 have t4:(h3.push {cls:=.type "tuple",data:=.seq #[.int i tk,x]}).get? hp.objs.size=some {cls:=.type "tuple",data:=.seq #[.int i tk,x]}:=z3▸ff _ rfl
 have up:∀b o,b≠e->h1.get? b=some o->(h3.push {cls:=.type "tuple",data:=.seq #[.int i tk,x]}).get? b=some o:=fun b o n q=>bi _ (Nv.extBut b o n (wC.extBut b o n q))
 generalize h3.push {cls:=.type "tuple",data:=.seq #[.int i tk,x]}=h4 at e4 t4 up
 rw[z3];refine ac (m:=ownedTupleIsFree (.ref e)) ?_;unfold ownedTupleIsFree;refine ac (m:=field (.ref e) 0) (AM e4 rfl (x:=.none) rfl (ba ?_));rw[if_pos rfl];refine ac (FS (ac (m:=field (.ref e) 5) (AM e4 rfl (x:=old) rfl ?_)));refine ac (m:=setField (.ref e) 5 x) (SS e4 (by simp) fun h5 (e5:Uh h5 e it ((i:Int)+1) x) (Qo:v6 e h4 h5)=>?_)
 refine ac (m:=ownedTupleHandOut (.ref e) _) ?_;unfold ownedTupleHandOut;refine ac (SS e5 (by simp) fun h6 (e6:VT h6 e it ((i:Int)+1) x hp.objs.size) (Qp:v6 e h5 h6)=>?_)
 refine SS e6 (by simp) fun h7 (e7:VT h7 e it ((i:Int)+1) x hp.objs.size) (Qq:v6 e h6 h7)=>?_
 have Ja:∀b o,b≠e->h4.get? b=some o->h7.get? b=some o:=fun b o n q=>Qq.extBut b o n (Qp.extBut b o n (Qo.extBut b o n q))
 refine ac (wpAny_letGo (ba ⟨_,rfl,hQ h7 e7 (IY.at fun o q=>Ja it o (EO cf) (up it o (EO cf) q)) (Ja _ _ (KF el) t4) fun b o n1 n2 q=>Ja b o n1 (up b o n1 ((IZ.2 b n2).trans q))⟩))
theorem Ap {Q:Option am->ar->Prop}(he:Uh s.heap e it i old) (cf:e≠it) (hit:fT k s.heap it a i) (ha:nV k s.heap a items) (hx:items[i]?=some x)
  (hQ:∀h',VT h' e it ((i:Int)+1) x s.heap.objs.size->fT k h' it a (i+1)->h'.get? s.heap.objs.size=some {cls:=.type "tuple",data:=.seq #[.int i s.toks,x]}->
   (∀b o,b≠e->b≠it->s.heap.get? b=some o->h'.get? b=some o)->Q (some (.ref s.heap.objs.size)) {s with heap:=h',toks:=s.toks+1}) :
  wpAny (model prog w) A (pyNext (.ref e)) Q E s :=by
 have hT:s.TypeIs (.ref e) "enumerate" := ⟨_,he,rfl⟩
 have sl:=F.slot_enumerate_next;unfold pyNext;exact ac (NG (ut (name:=u8 "__next__") hT sl (nw sl hT F.entry_enumerate_next (Ao he cf hit ha hx fun h' a b c d=>ba (hQ h' a b c d)) (F.args_enumerate_next_1 _))))
theorem Aq {Q:Option am->ar->Prop}(hh:A.handled=none) (he:Uh s.heap e it i old) (hit:fT k s.heap it a i) (ha:nV k s.heap a items) (hx:items[i]?=none)
  (hQ:∀h',VI it s.heap h'->Q none {s with heap:=h'}):wpAny (model prog w) A (pyNext (.ref e)) Q E s :=by
 have hT:s.TypeIs (.ref e) "enumerate" := ⟨_,he,rfl⟩
 have sl:=F.slot_enumerate_next;unfold pyNext;refine ac (NG (ut (name:=u8 "__next__") hT sl (nw sl hT F.entry_enumerate_next ?_ (F.args_enumerate_next_1 _))))
 refine ac (m:=field (.ref e) 2) (AM he rfl (x:=.ref it) rfl (ac (m:=nextOf (.ref it)) (FL hh hit ha hx fun h' y eb ⟨o,ho,hc⟩=>?_)))
 exact ac (LB (T := "StopIteration") (b:=true) ⟨o,ho,hc⟩ isSubtype_stop (ba (hQ _ eb)))
end
end L2
namespace L2
open PySem PySem.Spec PyProof.Rows Builtin.SmallTypes AutoSeq1
theorem ud:bootBuiltins "enumerate" = some (.type "enumerate") :=by decide +kernel
section
variable {X:Cx}{pins:List (ap×l8)}{σ:St}{H:Hp}{s:ar}{h':i0}
theorem Inv.wD {t':Nat}{ch:List ap}(I:Inv X pins σ H s) (k:∀b o,b ∉ ch->s.heap.get? b=some o->h'.get? b=some o) (hf:∀b∈ch,dI X pins H b):Inv X pins σ H {s with heap:=h',toks:=t'}:=by
 have zg:∀b u,H b=some u->b ∉ ch:=fun b u e z=>by rw[(hf b z).1]at e;cases e
 refine I.step (g':=s.gens) (d':=s.drawn) (ch:=ch) (fun b hb=>?_) (fun b o _ _ hc e _=>k b o hc e) (fun b o _ _ hc e _=>⟨o.slots,k b o hc e⟩) (fun _ _ _ _ n=>n)
  (fun b o hc e=>⟨o,k b o hc e⟩) (fun _ _ e=>e) (fun _ _ _ e=>e) (fun b ps e=>⟨#[],by rw[e];simp⟩) (fun m hm=>?_) (fun b u e=>?_) I.bare.self
 ·obtain⟨_,f1,f2,f3,f4,f5⟩:=hf b hb;exact⟨f3,f1,f4,f5⟩
 ·obtain⟨o,es,ep,ho,r⟩:=hm;exact⟨o,es,ep,k _ o (fun z=>(hf _ z).2.1 rfl) ho,r⟩
 ·refine(I.hok b u e).bB (fun c v hc q=>k c v ?_ q) (fun _ q=>q) fun _ _ q=>q
  rcases hc with z|z
  ·rw[z];exact zg b u e
  ·exact zg c _ z
theorem Inv.pair {t:ap}{a b:V}{u v:am}{h1:i0}{tk tk0:Nat}(I0:Inv X pins σ H {s with toks:=tk0}) (ht:s.heap.objs.size<=t) (I:Inv X pins σ H {s with heap:=h1,toks:=tk}) (e:h1.get? t=some {cls:=.type "tuple",data:=.seq #[u,v]}) (ru:RelV a u) (rv:RelV b v) :
  Inv X pins σ (upd H t (.tup [a,b])) {s with heap:=h1,toks:=tk}:=by
 have f:=Inv.lr (H':=H) I0 (b:=t) ht (I0.hok.fresh ht);refine I.LD f.1 ?_ f.2.1 f.2.2.2.2.1 f.2.2.2.2.2 ⟨by show 2<=sizeLine;decide,[u,v],.cons ru (.cons rv .nil),⟨_,e,rfl,_,rfl,rfl⟩⟩
 exact i0.get?_none_of_le (sw I0.sz ht)
end
def Sq (k:Bool) (K:bn) (H:Hp) (a:ap) (xs:List V):Prop:=if k=true then bG K H a xs else bC K H a xs
theorem Inv.sq {X:Cx}{pins:List (ap×l8)}{σ:St}{H:Hp}{s:ar}{k:Bool}{a:ap}{xs:List V}(I:Inv X pins σ H s) (h:Sq k X.K H a xs):∃its:List am,Vals xs its/\nV k s.heap a its.toArray :=by
 cases k with
 |true=>obtain⟨its,rv,p,_⟩:=I.list (show bG X.K H a xs from h);exact⟨its,rv,p.isList⟩
 |false=>obtain⟨its,rv,p,_⟩:=I.tuple (show bC X.K H a xs from h);exact⟨its,rv,p⟩
theorem Inv.Jb {X:Cx}{pins:List (ap×l8)}{σ:St}{H:Hp}{s:ar}{k:Bool}{a:ap}{xs ys:List V}(I:Inv X pins σ H s) (h:Sq k X.K H a xs) (h':Sq k X.K H a ys):xs=ys :=by
 cases k with
 |true=>exact I.sT (show bG X.K H a xs from h) h'
 |false=>exact I.lq (show bC X.K H a xs from h) h'
def El (k:Bool) (K:bn) (a:ap):It:=
 ⟨fun i H=>∃xs x,Sq k K H a xs/\xs[i]?=some x,fun i H v H'=>∃t x,H t=none/\v=.ref t/\H'=upd H t (.tup [.int (i:Nat),x])/\∀xs,Sq k K H a xs->xs[i]?=some x,fun i H=>∃xs,Sq k K H a xs/\xs.length<=i⟩
theorem Ar {P:ii}{w:ij}{K:bn}{elts:List gl}{x1:Nat}{pos:ze}(k:Bool) (a it e:ap) (cf:e≠it) :
  Turn P w K (.Tuple elts x1 pos) (El k K a) [e,it] e (fun i h=>(∃old,Uh h e it i old)/\fT k h it a i) where
 mem :=by simp
 obj:=fun i h st b hb=>by
  obtain⟨⟨old,he⟩,hit⟩:=st;simp only[li,wP,or_false]at hb;rcases hb with rfl|rfl
  ·exact⟨_,he,fun v z=>nomatch z⟩
  ·obtain⟨o,ho,vs,hd⟩:=hit.obj;exact⟨o,ho,fun v z=>by rw[hd]at z;cases z⟩
 keep:=fun i h h' st q=>by
  obtain⟨⟨old,he⟩,hit⟩:=st;exact⟨⟨old,q e (by simp) _ he⟩,hit.at fun o ho=>q it (by simp) o ho⟩
 item :=by
  intro X hP hw hK hc i pins s σ H E I hf st hg;subst hP hw hK;obtain⟨⟨old,he⟩,hit⟩:=st;obtain⟨xs,x,hq,hx⟩:=hg;obtain⟨its,rv,p⟩:=I.sq hq;obtain⟨u,hu,ru⟩:=rv.get hx;refine Ap he cf hit p (x:=u) (by simpa using hu) fun h1 eo IY t1 kk=>?_
  refine⟨_,rfl,wpAny_letOwnedTupleGo_enum eo fun h2 e2 (wC:v6 e h1 h2)=>?_⟩
  have el:e<s.heap.objs.size:=gc he;have I2:Inv X pins σ H {s with heap:=h2,toks:=s.toks+1}:=I.wD (ch:=[e,it]) (fun b o hb q=>by
   simp only[li,wP,or_false,not_or]at hb;exact(wC.2 b hb.1).trans (kk b o hb.1 hb.2 q)) hf
  have t2:h2.get? s.heap.objs.size=some {cls:=.type "tuple",data:=.seq #[.int i s.toks,u]}:=(wC.2 _ (KF el)).trans t1
  have hn:H s.heap.objs.size=none:=I.hok.fresh (bv _);refine⟨.ref s.heap.objs.size,_,Inv.pair (s:=s) (tk0:=s.toks) I (bv _) I2 t2 (a:=.int (i:Nat)) ⟨s.toks,rfl⟩ ru,rfl,⟨_,x,hn,rfl,rfl,fun ys hy=>by rw[I.Jb hy hq];exact hx⟩,⟨⟨u,?_⟩,IY.at fun o q=>(wC.2 it (EO cf)).trans q⟩,fun b hb=>?_⟩
  ·have c:((i+1:Nat):Int)=(i:Int)+1 :=by push_cast;rfl
   rw[c];exact e2
  ·have l:b≠s.heap.objs.size :=by
    simp only[li,wP,or_false]at hb;rcases hb with rfl|rfl
    ·exact kw el
    ·obtain⟨o,ho,_⟩:=hit.obj;exact kw (gc ho)
   rw[ak l];exact(hf b hb).1
 done :=by
  intro X hP hw hK hc i pins s σ H E I hf st hg;subst hP hw hK;obtain⟨⟨old,he⟩,hit⟩:=st;obtain⟨xs,hq,hx⟩:=hg;obtain⟨its,rv,p⟩:=I.sq hq;have hl:=rv.length;exact Aq (I.ok.hd hc) he hit p (by simp;omega) fun h1 eb=>⟨rfl,I.wD (t':=s.toks) (ch:=[it]) (fun b o hb q=>eb b o (by simpa using hb) q) fun b hb=>hf b (by simp at hb;simp[hb])⟩
 self:=fun _ _ _ _ _ st h=>wpAny_pyIter_enum st.1.choose_spec h
abbrev As (a:ap):l8:={cls:=.type "tuple_iterator",data:=.fields #[.ref a,.int 0 0]}
abbrev Jc (it:ap):l8:={cls:=.type "enumerate",data:=.fields #[.none,.bool false,.ref it,rawInt 0,.none,.none]}
theorem FN (a:ap) (items:Array am) (n:Nat) (dct:Option ap) (sl:Array (Option am)) :
  Meets (l7.«enumerate.__new__» ⟨[.type "enumerate",.ref a],[]⟩) (fun _ R s=>s.heap.get? a=some {cls:=.type "tuple",dict:=dct,data:=.seq items n,slots:=sl} /\
   R (.ok (.ret (.ref (s.heap.push (As a)).objs.size))) {s with heap:=(s.heap.push (As a)).push (Jc s.heap.objs.size)}):=
 .of_wp fun prog w A R s h=>by
  obtain⟨hp,g,d,tk,os⟩:=s;obtain⟨hl,h⟩:=h;have i9:=sub_enumerate;have hT:i0.IsTuple (ar.heap ⟨hp,g,d,tk,os⟩) a items:=⟨_,hl,rfl,n,rfl⟩;wp_walk using Do hl
  refine wpAny_stack_any fun st=>ba ?_
  split;case h_1 c _ _ _ _ _=>cases (c==zd "enumerate")<;>(wp_walk using Do hl,TJ hT;exact⟨_,rfl,h⟩)
  case h_2=>wp_walk using Do hl,TJ hT;exact⟨_,rfl,h⟩
section
variable {prog:ii}{w:ij}{A:mf}{E:am->ar->Prop}{s:ar}
theorem yi {a:ap}{items:Array am}{Q:am->ar->Prop}(hT:s.heap.IsTuple a items)
  (h:∀h',Uh h' (s.heap.objs.size+1) s.heap.objs.size 0 .none->h'.IsTupleIter s.heap.objs.size a 0->(∀b o,s.heap.get? b=some o->h'.get? b=some o)->Q (.ref (s.heap.objs.size+1)) {s with heap:=h'}) :
  wpAny (model prog w) A (call (.type "enumerate") [.ref a]) Q E s :=by
 obtain⟨ob,ho,hc,n,hd⟩:=hT;obtain⟨c,dd,dt,sl⟩:=ob;dsimp only at hc hd;subst hc hd;refine callType_new F.called_enumerate (by decide) (F.typeCall_enumerate_1 _) (F.newCall_enumerate_1 _) (fun obj=>UI obj _) F.entry_enumerate_new (FN a items n dd sl) ⟨ho,?_⟩
 have z:(s.heap.push (As a)).objs.size=s.heap.objs.size+1:=Ix ..;have he:((s.heap.push (As a)).push (Jc s.heap.objs.size)).get? (s.heap.objs.size+1)=some (Jc s.heap.objs.size):=z▸ff (s.heap.push (As a)) rfl;show _/\_;rw[z];exact⟨⟨_,he,rfl⟩,h _ he ⟨_,bi _ (ff _ rfl),rfl,rfl⟩ fun b o x=>bi _ (bi _ x)⟩
theorem Au {k:Bool}{a:ap}{items:Array am}{Q:am->ar->Prop}(hT:nV k s.heap a items)
  (h:∀h',Uh h' (s.heap.objs.size+1) s.heap.objs.size 0 .none->fT k h' s.heap.objs.size a 0->(∀b o,s.heap.get? b=some o->h'.get? b=some o)->Q (.ref (s.heap.objs.size+1)) {s with heap:=h'}) :
  wpAny (model prog w) A (call (.type "enumerate") [.ref a]) Q E s :=by
 cases k with
 |true=>exact call_enumerate_list hT fun h' a b _ c=>h h' a b c
 |false=>exact yi hT h
end
section
variable {X:Cx}{l:gl}{tl:TE}{elts:List gl}{x1:Nat}{tp p pos:ze}
def LI (k:Bool) (K:bn) (tl:TE):TI:=fun σ H R=>tl σ H fun x H1=>∃a,x=.ref a/\(∃xs,Sq k K H1 a xs)/\R (El k K a) H1
theorem FO (k:Bool) {K:bn}(hK:X.K=K) (hg:Gl X "enumerate") (hm:X.mg "enumerate" = none) (hl:PE X l tl) (hs:starEach [l] X.env=[(false,eval l X.env)] :=by rfl) :
  PI X (.Tuple elts x1 tp) (.Call (.Name "enumerate" p) [l] [] pos) (LI k K tl) :=by
 subst hK;intro pins s σ H R I h;refine GM (d6 I hg hm ud ?_);refine zn ?_ hs rfl;rw[hs];refine LG (thn (hl pins s σ H _ I h) fun v s1 ⟨x,H1,I1,r1,q1⟩=>Na ?_)
 obtain⟨a,rfl,⟨xs,hq⟩,q⟩:=q1;cases (show v=ul a from r1);obtain⟨its,rv,sq⟩:=I1.sq hq;refine Au sq fun h' he hit kk=>?_
 refine wpAny_pyIter_enum he ?_;have I2:Inv X pins σ H1 {s1 with heap:=h'}:=I1.kept (t':=s1.toks) kk
 have ne:s1.heap.objs.size+1≠s1.heap.objs.size:=KF (Lu _);refine⟨_,[s1.heap.objs.size+1,s1.heap.objs.size],_,El k X.K a,H1,rfl,I2,Ar k a _ _ ne,⟨⟨_,he⟩,hit⟩,fun b hb=>?_,q⟩
 simp only[li,wP,or_false]at hb;rcases hb with rfl|rfl
 ·exact I1.lr (Fa _) (I1.hok.fresh (Fa _))
 ·exact I1.lr (bv _) (I1.hok.fresh (bv _))
end
def Em (J:It) (ys:List (V×V)) (H:Hp):Prop:=∀i,(i<ys.length->J.go i H/\∀x H',J.yld i H x H'->∃t p,H t=none/\x=.ref t/\ys[i]?=some p/\H'=upd H t (.tup [p.1,p.2]))/\(ys.length<=i->J.stop i H)
theorem rB {k:Bool}{K:bn}{a:ap}{ys:List V}{H:Hp}(h:Sq k K H a ys):Em (El k K a) ((i8 ys.length).map fun i=>(V.int (i:Nat),ys.getD i .ai)) H:=fun i=>by
 have el:((i8 ys.length).map fun i=>(V.int (i:Nat),ys.getD i .ai)).length=ys.length :=by simp
 rw[el];refine⟨fun hi=>⟨⟨ys,ys[i],h,ag hi⟩,fun x H' ⟨t,y,n,e1,e2,e3⟩=>⟨t,(.int (i:Nat),y),n,e1,?_,e2⟩⟩,fun hi=>⟨ys,h,hi⟩⟩
 rw[cr,JJ hi];have:=e3 ys h;show some (V.int (i:Nat),ys.getD i .ai)=_;rw[ce,this];rfl
end L2
namespace L2
open PySem PySem.Spec PyProof.Rows AutoSeq1
theorem CY (l b:ap) (items Jd:Array am) (n n2:Nat) (dd wd:Option ap) (sl qX:Array (Option am)) (h0:items.isEmpty=true) :
  Meets (l7.«tuple.__add__» ⟨[.ref l,.ref b],[]⟩) (fun _ R s=>s.heap.get? l=some {cls:=.type "tuple",dict:=dd,data:=.seq items n,slots:=sl}/\s.heap.get? b=some {cls:=.type "tuple",dict:=wd,data:=.seq Jd n2,slots:=qX}/\R (.ok (.ret (.ref b))) s):=
 .of_wp fun prog w A R s h=>by
  obtain⟨hp,g,d,tk,os⟩:=s;obtain⟨hl,hb,h⟩:=h;have f2:=AutoSeq1.sub_tuple_tuple;wp_walk using Do hl,Do hb
  exact⟨_,rfl,h⟩
section
variable {X:Cx}
def LJ (K:bn):R2:=fun x y H Q=>∃a b xs ys,x=.ref a/\y=.ref b/\bC K H a xs/\bC K H b ys/\xs.length+ys.length<=sizeLine/\(xs=[]->Q (.ref b) H)/\(xs≠[]->ys=[]->Q (.ref a) H)/\(xs≠[]->ys≠[]->∀p,H p=none->Q (.ref p) (upd H p (.tup (xs++ys))))
theorem FP {K:bn}(hK:X.K=K):OpR X (binaryOp .Add) (LJ K) :=by
 subst hK;intro pins s σ H x y v u Q I rx ry h;obtain⟨a,b,xs,ys,rfl,rfl,ha,hb,hz,q0,q1,q2⟩:=h;by_cases hx:xs=[]
 ·cases rx;cases ry;obtain⟨its,r1,p1,_⟩:=I.tuple ha;obtain⟨b8,r2,p2,_⟩:=I.tuple hb;obtain⟨⟨cls,dd,data,sl⟩,ho,hc,n,hd⟩:=id p1;obtain⟨⟨OG,wd,data2,qX⟩,ly,we,n2,hd2⟩:=id p2;dsimp only at hc hd we hd2;subst hc hd we hd2;exact concat_meets ⟨_,ho,rfl⟩ ⟨_,ly,rfl⟩ Vo seq_tuple_add Ug T0 (TL _ _) (CY a b its.toArray b8.toArray n n2 dd wd sl qX (by simp[r1.jS.mpr hx])) ⟨ho,ly,⟨.ref b,H,I,rfl,q0 hx⟩⟩
 ·exact Fs pins s σ H _ _ v u Q I rx ry ⟨a,b,xs,ys,rfl,rfl,ha,hb,hx,hz,q1 hx,q2 hx⟩
theorem vC {prog:ii}{w:ij}{A:mf}{E:am->ar->Prop}{s:ar}{t sl:ap}{items:Array am}{vl vu:am}{lo hi:Option Int}{Q:am->ar->Prop}(ht:Vw s.heap t items) (hs:s.heap.IsSliceOf sl vl vu .none) (pl:Uy vl lo) (pu:Uy vu hi)
  (hw:HT.aP items.size 0 lo=0/\HT.aP items.size items.size hi=items.size) (h:Q (.ref t) s):wpAny (model prog w) A (getItem (.ref t) (.ref sl)) Q E s :=by
 obtain⟨os,eR,Ed,jw⟩:=id hs;have oQ:s.TypeIs (.ref sl) "slice" := ⟨os,eR,Ed⟩
 have Qr:s.TypeIs (.ref t) "tuple" := ht.typeIs
 unfold getItem;refine wT ?_;first|refine ac (ba ?_)|skip
 refine ac (wpAny_sequenceKey ht.typeIs (by decide) ?_)
 have sg:=Go;refine ac (ut (name:=u8 "__getitem__") ht.typeIs sg (nw sg ht.typeIs entry_tuple_getitem ?_ (args_tuple_getitem _ _)))
 refine ac (m:=l7.Tuple.tupleItemsOf (.ref t)) (tupleItemsOf_ ht (ac (LS oQ ?_)));rw[if_pos (by decide)]
 refine ac (HT.iX hs pl pu ?_);rw[hw.1,hw.2];show wpAny _ _ (if (((0:Nat):Int)==0 && (1:Int)==1 && (items.size - 0)==items.size)=true then _ else _) _ _ s
 rw[if_pos (by simp)]
 refine ac (m:=l7.Tuple.tupleIsExact (.ref t)) ?_;unfold l7.Tuple.tupleIsExact;refine ac (LS Qr (ba ?_));rw[if_pos (by decide)]
 exact ac (FS (ba ⟨_,rfl,ba h⟩))
def O9 (K:bn):V->Option Int->Option Int->Hp->VK->Prop:=fun x lo hi H Q=>∃a xs,x=.ref a/\bC K H a xs /\
 ((HT.aP xs.length 0 lo=0/\HT.aP xs.length xs.length hi=xs.length)->Q (.ref a) H)/\(¬ (HT.aP xs.length 0 lo=0/\HT.aP xs.length xs.length hi=xs.length)->∀p,H p=none->Q (.ref p) (upd H p (.tup (ix xs lo hi))))
theorem FQ {K:bn}(hK:X.K=K):zI X (O9 K) :=by
 subst hK;intro pins s σ H x v vl vu lo hi sl Q I rx hs pl pu h;obtain⟨a,xs,rfl,hx,q1,q2⟩:=h;by_cases hw:HT.aP xs.length 0 lo=0/\HT.aP xs.length xs.length hi=xs.length
 ·cases rx;obtain⟨its,r,ht,hz⟩:=I.tuple hx;have hlen:its.toArray.size=xs.length :=by rw[ci];exact r.length.symm
  exact⟨"tuple",_,Go.lookup,ht.typeIs,vC ht hs pl pu (by rw[hlen];exact hw) ⟨.ref a,H,I,rfl,q1 hw⟩⟩
 ·exact HP pins s σ H _ v vl vu lo hi sl Q I rx hs pl pu ⟨a,xs,rfl,hx,hw,q2 hw⟩
theorem yj {xs:List V}{lo hi:Option Int}(h:HT.aP xs.length 0 lo=0/\HT.aP xs.length xs.length hi=xs.length):ix xs lo hi=xs :=by
 unfold ix;rw[h.1,h.2,List.drop_zero,Nat.sub_zero,DO]
end
end L2
namespace L2
open PySem PySem.Spec PyProof.Rows
section
variable {X:Cx}{st:wp}{ι:Type}{Pre:ι->St->Hp->Prop}{D:ι->Ends}
theorem sh {P:ii}{w:ij}{K:bn}(hP:X.prog=P) (hw:X.w=w) (h:X.K=K) (hc:X.calm=true):bV X (.builtin "sorted") (wB P w K) :=by
 subst hP hw h;exact ua hc
theorem PS.nh {st:wp}{t:TS}(h:PS X.nh st t):PS X st t:=⟨fun pins s σ H D I hw=>
 tw (h pins s σ H D (I.iV _) hw) (fun _ _ q=>q.gp) fun _ _ z=>On z⟩
end
structure M1 (X:Cx) (o:gl) (m:db) (apos:ze) (e:gl) (aR:ze):Prop where
 base:attributeBase o m X.env (eval o X.env)=eval o X.env
 few:((backTo aR (starEach [e] X.env)).all (fun x => !x.1) && (backToKw aR (keywordEach [] X.env)).all (fun x=>x.1.isSome)
  && decide (([e]:List gl).length+([]:List RS).length+(if ([]:List RS).isEmpty then 0 else 1)<30))=true
 line:(apos.endLine==aR.line)=true
 trees:backTo aR (starEach [e] X.env)=[(false,eval e X.env)]
structure M2 (X:Cx) (o:gl) (m:db) (apos:ze) (e f:gl) (aR:ze):Prop where
 base:attributeBase o m X.env (eval o X.env)=eval o X.env
 few:((backTo aR (starEach [e,f] X.env)).all (fun x => !x.1) && (backToKw aR (keywordEach [] X.env)).all (fun x=>x.1.isSome)
  && decide (([e,f]:List gl).length+([]:List RS).length+(if ([]:List RS).isEmpty then 0 else 1)<30))=true
 line:(apos.endLine==aR.line)=true
 trees:backTo aR (starEach [e,f] X.env)=[(false,eval e X.env),(false,eval f X.env)]
theorem nW {κ:Type} [BEq κ] [LawfulBEq κ]:∀(ks U:List κ),ks.Nodup->(∀k∈ks,k∈U)->ks.length<=U.length
 | [],_,_,_=>kv _
 |k::ks,U,nd,h=>by
          have hn:=Tx.mp nd;have hk:=h k i1;have ih:=nW ks (U.erase k) hn.2 fun x hx=>(List.mem_erase_of_ne (fun e=>hn.1 (by rw[<- e];exact hx))).mpr (h x (dL _ hx))
          rw[List.length_erase_of_mem hk]at ih;have:=List.length_pos_of_mem hk;rw[xw];omega
def Qs (mask:Nat) (h:Int):Sc:={j:=AT h % (mask+1),more:=Mn mask (AT h % (mask+1)) - AT h % (mask+1),i:=AT h % (mask+1),perturb:=AT h,dummy:=none}
def ue (mask:Nat) (p:Sc):Sc:=
 if p.more > 0 then {p with j:=p.j+1,more:=p.more - 1} else
 let (i,perturb):=Vc mask p.i p.perturb
 {p with j:=i,more:=Mn mask i - i,i,perturb}
def bD (mask:Nat) (h:Int):Nat->Sc
 |0=>Qs mask h
 |k+1=>ue mask (bD mask h k)
def aS (mask:Nat) (h:Int):Nat->Nat×Nat
 |0=>(AT h % (mask+1),AT h)
 |T+1=>Vc mask (aS mask h T).1 (aS mask h T).2
def cP (mask i:Nat):Nat:=Mn mask i - i
def fG (mask:Nat) (h:Int):Nat->Nat
 |0=>0
 |T+1=>fG mask h T+cP mask (aS mask h T).1+1
theorem FR (mask i:Nat):cP mask i<=9 :=by unfold cP Mn;split<;>omega
theorem wF {mask i:Nat}(h:i<=mask):i+cP mask i<=mask :=by unfold cP Mn;split<;>omega
theorem Av (mask:Nat) (h:Int):∀T,fG mask h T<=10 * T
 |0=>bv _
 |T+1=>by
          have:=Av mask h T;have:=FR mask (aS mask h T).1;show fG mask h T+_+1<=_;omega
theorem qj {mask:Nat}{h:Int}{T:Nat}(e:bD mask h (fG mask h T)={j:=(aS mask h T).1,more:=cP mask (aS mask h T).1,i:=(aS mask h T).1,perturb:=(aS mask h T).2,dummy:=none}) :
  ∀m,m<=cP mask (aS mask h T).1->bD mask h (fG mask h T+m)={j:=(aS mask h T).1+m,more:=cP mask (aS mask h T).1 - m,i:=(aS mask h T).1,perturb:=(aS mask h T).2,dummy:=none}
 |0,_=>e
 |m+1,hm=>by
          have ih:=qj e m (by omega)
          show ue mask (bD mask h (fG mask h T+m))=_;rw[ih];unfold ue;rw[if_pos (show cP mask (aS mask h T).1 - m > 0 by omega)]
          have e1:cP mask (aS mask h T).1 - m - 1=cP mask (aS mask h T).1 - (m+1) :=by omega
          simp only[e1,Nat.add_assoc]
theorem qk {mask:Nat}{h:Int}:∀T,bD mask h (fG mask h T)={j:=(aS mask h T).1,more:=cP mask (aS mask h T).1,i:=(aS mask h T).1,perturb:=(aS mask h T).2,dummy:=none}
 |0=>rfl
 |T+1=>by
          have ih:=qj (qk (mask:=mask) (h:=h) T) _ (bv _);show ue mask (bD mask h (fG mask h T+cP mask (aS mask h T).1))=_;rw[ih];unfold ue;rw[if_neg (by show ¬ (cP mask (aS mask h T).1 - cP mask (aS mask h T).1 > 0);omega)]
          rfl
theorem o9 {mask:Nat}{h:Int}{T m:Nat}(hm:m<=cP mask (aS mask h T).1):(bD mask h (fG mask h T+m)).j=(aS mask h T).1+m :=by rw[qj (qk T) m hm]
theorem uf (mask:Nat) (h:Int):∀k,∃T m,k=fG mask h T+m/\m<=cP mask (aS mask h T).1
 |0=>⟨0,0,rfl,kv _⟩
 |k+1=>by
          obtain⟨T,m,e,hm⟩:=uf mask h k;by_cases z:m<cP mask (aS mask h T).1
          ·exact⟨T,m+1,by omega,z⟩
          ·refine⟨T+1,0,?_,kv _⟩;show k+1=fG mask h T+cP mask (aS mask h T).1+1+0;omega
theorem wG (mask:Nat) (h:Int):∀k,(bD mask h k).dummy=none
 |0=>rfl
 |k+1=>by
          have ih:=wG mask h k;show (ue mask (bD mask h k)).dummy=none;unfold ue;split<;>exact ih
def ug (mask:Nat):Nat->Nat->Nat
 |0,i=>i
 |m+1,i=>(ug mask m i * 5+1) % (mask+1)
theorem ql {mask:Nat}{h:Int}:∀T,(aS mask h T).1<=mask
 |0=>Nat.lt_succ_iff.mp (SR _ (Nat.succ_pos _))
 |T+1=>Nat.lt_succ_iff.mp (SR _ (Nat.succ_pos _))
theorem Je (mask:Nat) (h:Int) (k:Nat):(bD mask h k).j<=mask :=by
 obtain⟨T,m,rfl,hm⟩:=uf mask h k;rw[o9 hm];have:=wF (ql (mask:=mask) (h:=h) T);omega
theorem uh {mask:Nat}{h:Int}:∀T,(aS mask h T).2=AT h / 32 ^ T
 |0=>by show AT h=_;simp
 |T+1=>by
          show (aS mask h T).2 / 32=_;rw[uh T,Nat.div_div_eq_div_mul,Nat.pow_succ]
theorem CZ (h:Int):AT h<2 ^ 64 :=by
 unfold AT;have h1:=TD h (show (2 ^ 64:Int)≠0 by decide)
 have h2:=Int.emod_lt_of_pos h (show (0:Int)<2 ^ 64 by decide)
 omega
theorem ui {mask:Nat}{h:Int}:∀m,aS mask h (13+m)=(ug mask m (aS mask h 13).1,0)
 |0=>by
          have e:(aS mask h 13).2=0 :=by
           rw[uh];have:=CZ h;exact Uj (Nat.lt_trans this (by decide))
          exact Prod.ext rfl e
 |m+1=>by
          show Vc mask (aS mask h (13+m)).1 (aS mask h (13+m)).2=_;rw[ui m];unfold Vc;simp[ug]
def Full (mask:Nat):Prop:=∀i,i<=mask->∀j,j<=mask->∃m,m<=mask/\ug mask m i=j
theorem wH {mask:Nat}(h:((i8 (mask+1)).all fun i=>(i8 (mask+1)).all fun j=>(i8 (mask+1)).any fun m=>ug mask m i==j)=true):Full mask:=fun i hi j hj=>by
 have h1:=wE.mp h i (u4.mpr (by omega))
 have h2:=wE.mp h1 j (u4.mpr (by omega))
 obtain⟨m,hm,e⟩:=List.any_eq_true.mp h2;exact⟨m,by have:=u4.mp hm;omega,by simpa using e⟩
theorem LK:Full 7:=wH (by decide +kernel)
theorem Jf:Full 31:=wH (by decide +kernel)
theorem pd {mask:Nat}(F:Full mask) (h:Int) {j:Nat}(hj:j<=mask):∃T,T<=13+mask/\(aS mask h T).1=j :=by
 obtain⟨m,hm,e⟩:=F _ (ql 13) j hj;exact⟨13+m,by omega,by rw[ui];exact e⟩
theorem Jg {p:Nat->Prop}:∀{n:Nat},p n->∃k,k<=n/\p k/\∀k',k'<k->¬ p k'
 |n,h=>by
          induction n using Vz with
          |ind n ih=>
           by_cases z:∃k',k'<n/\p k'
           ·obtain⟨k',hk,hp⟩:=z;obtain⟨k,h1,h2,h3⟩:=ih k' hk hp;exact⟨k,by omega,h2,h3⟩
           ·exact⟨n,bv _,h,fun k' hk hp=>z ⟨k',hk,hp⟩⟩
theorem Jh {mask:Nat}(F:Full mask) (h:Int) {iB:Nat->Prop}{j:Nat}(hj:j<=mask) (e:¬ iB j):∃K,K<=10 * (13+mask)/\¬ iB (bD mask h K).j/\∀k,k<K->iB (bD mask h k).j :=by
 obtain⟨T,hT,eT⟩:=pd F h hj;have e0:¬ iB (bD mask h (fG mask h T)).j :=by rw[qk,eT];exact e
 obtain⟨K,h1,h2,h3⟩:=Jg (p:=fun k=>¬ iB (bD mask h k).j) e0
 have:=Av mask h T;exact⟨K,by omega,h2,fun k hk=>Po.mp (h3 k hk)⟩
def wI (mask:Nat) (iB:Nat->Prop) (h:Int) (j:Nat):Prop:=∃k,(bD mask h k).j=j/\∀k',k'<k->iB (bD mask h k').j
theorem wI.mono {mask:Nat}{iB Ji:Nat->Prop}{h:Int}{j:Nat}(x:wI mask iB h j) (m:∀j,iB j->Ji j):wI mask Ji h j:=let ⟨k,e,f⟩:=x;⟨k,e,fun k' hk=>m _ (f k' hk)⟩
def fy (t:jp) (j:Nat):Prop:=j∈t.place.toList
structure GoodT (w:ij) (t:jp) (es:Array (Int×am)):Prop where
 ok:a8 w t
 full:Full t.mask
 odd:t.mask % 2=1
 le:∀j∈t.place.toList,j<=t.mask
 sz:t.place.size=es.size
 room:es.size<t.mask
 wk:∀q∈t.place.toList.zip es.toList,wI t.mask (fy t) q.2.1 q.1
theorem lY {w:ij}{t:jp}(h:a8 w t) {j:Nat}:(∃i,t.slot j=.live i/\t.place[i]?=some j)\/(t.slot j=.empty/\¬ fy t j) :=by
 unfold jp.slot;dsimp only;by_cases z:t.place[lw t.place j]?=some j
 ·left;refine⟨lw t.place j,?_,z⟩;rw[if_pos (by rw[z];simp)]
 ·right;rw[if_neg (by simpa using z),h.dum,qg]
  refine⟨by simp,fun m=>?_⟩
  obtain⟨i,hi,e⟩:=UJ.mp m;have dh:i<t.place.size :=by simpa using hi
  have e':t.place[i]=j :=by simpa using e
  obtain⟨b0,b1,b2⟩:=i6 j h.ris;generalize lw t.place j=p at *
  by_cases h1:i<p
  ·have:=b1 i dh h1;omega
  ·by_cases h2:i=p
   ·subst h2;exact z (by rw[mv dh,e'])
   ·have q:=i5 h.ris (show p<i by omega) dh
    have:=b2 p (by omega) (bv _)
    omega
theorem C1 {w:ij}{t:jp}(h:a8 w t) {j i:Nat}(e:t.slot j=.live i):t.place[i]?=some j :=by
 rcases lY h (j:=j) with ⟨i',e1,e2⟩|⟨e1,_⟩
 ·rw[e]at e1;cases e1;exact e2
 ·rw[e]at e1;cases e1
theorem uj {w:ij}{t:jp}(h:a8 w t) {j:Nat}(o:fy t j):∃i,t.slot j=.live i/\t.place[i]?=some j :=by
 rcases lY h (j:=j) with x|⟨_,n⟩
 ·exact x
 ·exact absurd o n
theorem pf {w:ij}{t:jp}(h:a8 w t) {j:Nat}(o:¬ fy t j):t.slot j=.empty :=by
 rcases lY h (j:=j) with ⟨i,_,e⟩|⟨e,_⟩
 ·exfalso
  exact o (by have:=Uw.mpr (Ur e);exact this)
 ·exact e
theorem rC {w:ij}{t:jp}(h:a8 w t) {hashAt:Nat->Int}{hh:Int}{K:Nat}(hK:¬ fy t (bD t.mask hh K).j) (hb:∀k,k<K->fy t (bD t.mask hh k).j):∀(fuel k0:Nat),k0<=K->K - k0<fuel->
  (∃k i,k0<=k/\k<K/\t.slot (bD t.mask hh k).j=.live i/\hashAt i=hh/\(∀k' i',k0<=k'->k'<k->t.slot (bD t.mask hh k').j=.live i'->hashAt i'≠hh)/\Pi t hashAt hh fuel (bD t.mask hh k0)=some (.candidate (bD t.mask hh k).j i (bD t.mask hh (k+1)))) \/
  ((∀k' i',k0<=k'->k'<K->t.slot (bD t.mask hh k').j=.live i'->hashAt i'≠hh)/\Pi t hashAt hh fuel (bD t.mask hh k0)=some (.empty (bD t.mask hh K).j none))
 |0,k0,_,hf=>by omega
 |fuel+1,k0,hk,hf=>by
          unfold Pi;by_cases e:k0=K
          ·subst e;right;refine⟨fun k' i' a b=>by omega,?_⟩
           rw[pf h hK];dsimp only;rw[wG]
          ·obtain⟨i,e1,e2⟩:=uj h (hb k0 (by omega))
           rw[e1];dsimp only;by_cases eh:hashAt i=hh
           ·left;refine⟨k0,i,bv _,by omega,e1,eh,fun k' i' a b=>by omega,?_⟩
            rw[if_pos (by simpa using eh)]
            rfl
           ·rw[if_neg (by simpa using eh)]
            have here:∀i',t.slot (bD t.mask hh k0).j=.live i'->hashAt i'≠hh:=fun i' z=>by rw[e1]at z;cases z;exact eh
            rcases rC h hK hb fuel (k0+1) (by omega) (by omega) with ⟨k,i',a,b,c,d,f,g⟩|⟨f,g⟩
            ·left;refine⟨k,i',by omega,b,c,d,fun k' i2 a2 b2=>?_,g⟩
             by_cases z:k'=k0
             ·subst z;exact here i2
             ·exact f k' i2 (by omega) b2
            ·right;refine⟨fun k' i2 a2 b2=>?_,g⟩
             by_cases z:k'=k0
             ·subst z;exact here i2
             ·exact f k' i2 (by omega) b2
theorem lZ {α:Type}(xs:Array α) (p:Nat) (v:α):(wS xs p v).toList=xs.toList.take p++[v]++xs.toList.drop p :=by
 unfold wS;simp;exact KM (by simp)
theorem md {α:Type}(xs:Array α) (p:Nat) (v:α):(wS xs p v).toList.Perm (v::xs.toList) :=by
 rw[lZ,EM];have:(v::xs.toList)=v::(xs.toList.take p++xs.toList.drop p) :=by rw[Pc]
 rw[this];exact List.perm_middle
theorem Aw {α β:Type}(xs:List α) (ys:List β) (p:Nat):(xs.take p).zip (ys.take p)=(xs.zip ys).take p :=by rw[Tu,Tu,List.take_zipWith]
theorem Ax {α β:Type}(xs:List α) (ys:List β) (p:Nat):(xs.drop p).zip (ys.drop p)=(xs.zip ys).drop p :=by rw[Tu,Tu,List.drop_zipWith]
theorem GoodT.put {w:ij}{t:jp}{es:Array (Int×am)}(g:GoodT w t es) {hh:Int}{x:am}{K:Nat}(hK:¬ fy t (bD t.mask hh K).j) (hb:∀k,k<K->fy t (bD t.mask hh k).j) (hle:(bD t.mask hh K).j<=t.mask) (hr:es.size+1<t.mask) :
  GoodT w (t.put (bD t.mask hh K).j).1 (wS es (t.put (bD t.mask hh K).j).2 (hh,x)) :=by
 have em:=pf g.ok hK;have ok:=g.ok.put em;generalize ej:(bD t.mask hh K).j=j at *
 have mem:∀j',j'∈(t.put j).1.place.toList ↔ j'=j\/j'∈t.place.toList:=fun j'=>by
  have:=(md t.place (lw t.place j) j).mem_iff (a:=j');rw[li]at this;exact this
 have Qt:lw t.place j<=t.place.toList.length :=by have:=(i6 j g.ok.ris).1;simpa using this
 have R9:lw t.place j<=es.toList.length :=by rw[io,<- g.sz,<- io];exact Qt
 have s1:∀{α:Type} (xs:Array α) (p:Nat) (v:α),(wS xs p v).size=xs.size+1:=fun xs p v=>by
  have:=(md xs p v).length_eq;rw[io,xw,io]at this;exact this
 refine⟨ok,g.full,g.odd,fun j' Qu=>?_,?_,?_,fun q hq=>?_⟩
 ·rcases (mem j').mp Qu with rfl|z
  ·exact hle
  ·exact g.le j' z
 ·show (wS t.place (lw t.place j) j).size=_;rw[s1,s1,g.sz]
 ·rw[s1];exact hr
 ·have zz:(t.put j).1.place.toList.zip (wS es (t.put j).2 (hh,x)).toList=(t.place.toList.zip es.toList).take (lw t.place j)++[(j,(hh,x))]++(t.place.toList.zip es.toList).drop (lw t.place j) :=by
   show (wS t.place (lw t.place j) j).toList.zip (wS es (lw t.place j) (hh,x)).toList=_;rw[lZ,lZ,VD (by simp[g.sz]),VD (by simp[g.sz]),Aw,Ax]
   rfl
  rw[zz]at hq;have nX:∀j',fy t j'->fy (t.put j).1 j':=fun j' z=>(mem j').mpr (.inr z)
  have old:q∈t.place.toList.zip es.toList->wI t.mask (fy (t.put j).1) q.2.1 q.1:=fun z=>(g.wk q z).mono nX
  rcases xb.mp hq with z|z
  ·rcases xb.mp z with z|z
   ·exact old (List.mem_of_mem_take z)
   ·rw[lp.mp z];exact⟨K,ej,fun k' jV=>nX _ (hb k' jV)⟩
  ·exact old (List.mem_of_mem_drop z)
def fA (o:Array (Option Nat)) (j:Nat):Prop:=o.getD j none≠none
structure me (mask:Nat) (o:Array (Option Nat)) (hs:List Int):Prop where
 size:o.size=mask+1
 wk:∀j n,o.getD j none=some n->∃hh,hs[n]?=some hh/\wI mask (fA o) hh j
 inj:∀j j' n,o.getD j none=some n->o.getD j' none=some n->j=j'
 sur:∀n,n<hs.length->∃j,j<=mask/\o.getD j none=some n
theorem kr {o:Array (Option Nat)}{mask j:Nat}(hs:o.size=mask+1) (hj:j<=mask):(o.getD j (some 0)).isNone=true ↔ ¬ fA o j :=by
 unfold fA;have hl:j<o.size :=by omega
 simp[Mc,hl]
theorem rD {mask:Nat}{o:Array (Option Nat)}{hh:Int}(hs:o.size=mask+1):∀(fuel T:Nat),(∀k,k<fG mask hh T->fA o (bD mask hh k).j)->(∃T',T<=T'/\T'<T+fuel/\¬ fA o (aS mask hh T').1)->
  ∃j k,SY mask o fuel (aS mask hh T).1 (aS mask hh T).2=some j/\(bD mask hh k).j=j/\j<=mask/\¬ fA o j/\∀k',k'<k->fA o (bD mask hh k').j
 |0,T,_,⟨T',a,b,_⟩=>by omega
 |fuel+1,T,hb,⟨T',a,b,c⟩=>by
          have hi:=ql (mask:=mask) (h:=hh) T;have RV:=wF hi;have er:Mn mask (aS mask hh T).1+1 - (aS mask hh T).1=cP mask (aS mask hh T).1+1 :=by
           have:(aS mask hh T).1<=Mn mask (aS mask hh T).1 :=by unfold Mn;split<;>omega
           unfold cP;omega
          unfold SY;rw[er];cases e:(i8 (cP mask (aS mask hh T).1+1)).find? (fun k=>(o.getD ((aS mask hh T).1+k) (some 0)).isNone) with
          |some m=>
           rw[List.find?_range_eq_some]at e;obtain⟨e1,e2,e3⟩:=e;have hm:=u4.mp e2;refine⟨_,fG mask hh T+m,rfl,o9 (by omega),by omega,(kr hs (by omega)).mp e1,fun k' jV=>?_⟩
           by_cases z:k'<fG mask hh T
           ·exact hb k' z
           ·obtain⟨m',rfl⟩:∃m',k'=fG mask hh T+m':=⟨k' - fG mask hh T,by omega⟩
            rw[o9 (by omega)]
            have:=e3 m' (by omega)
            refine Po.mp fun n=>?_
            rw[(kr hs (by omega)).mpr n]at this
            cases this
          |none=>
           dsimp only;rw[List.find?_eq_none]at e;have nX:∀m,m<=cP mask (aS mask hh T).1->fA o ((aS mask hh T).1+m):=fun m hm=>Po.mp fun n=>e m (u4.mpr (by omega)) ((kr hs (by omega)).mpr n)
           have ne:T'≠T:=fun z=>by
            subst z;exact c (by have:=nX 0 (by omega);rwa [Nat.add_zero]at this)
           refine rD hs fuel (T+1) (fun k hk=>?_) ⟨T',by omega,by omega,c⟩
           have hk:k<fG mask hh T+cP mask (aS mask hh T).1+1:=hk;by_cases z:k<fG mask hh T
           ·exact hb k z
           ·obtain⟨m',rfl⟩:∃m',k=fG mask hh T+m':=⟨k - fG mask hh T,by omega⟩
            rw[o9 (by omega)]
            exact nX m' (by omega)
theorem me.room {mask:Nat}{o:Array (Option Nat)}{hs:List Int}(L:me mask o hs) (h:hs.length<=mask):∃j,j<=mask/\¬ fA o j :=by
 refine PP fun n=>?_
 have all:∀j,j<=mask->fA o j:=fun j hj=>Po.mp fun z=>n ⟨j,hj,z⟩
 have nd:((i8 (mask+1)).map fun j=>(o.getD j none).getD 0).Nodup :=by
  rw[List.nodup_iff_pairwise_ne,Vh];refine Tp.imp_of_mem (fun {a b} ha hb fF=>?_) (SX (n:=mask+1))
  have ha:=u4.mp ha;have hb:=u4.mp hb;obtain⟨x,ex⟩:=Pf.mp (all a (by omega))
  obtain⟨y,ey⟩:=Pf.mp (all b (by omega))
  rw[ex,ey];intro z;have z:x=y:=z;subst z;have:=L.inj a b x ex ey;omega
 have:=nW _ (i8 hs.length) nd fun x hx=>by
  obtain⟨j,hj,rfl⟩:=kt.mp hx;have hj:=u4.mp hj;obtain⟨y,ey⟩:=Pf.mp (all j (by omega))
  obtain⟨hh,e,_⟩:=L.wk j y ey;rw[ey];exact u4.mpr (br.mp e).1
 rw[cb,Cf,Cf]at this;omega
theorem jY {o:Array (Option Nat)}{j j':Nat}{v:Option Nat}(hj:j<o.size):(o.setIfInBounds j v).getD j' none=if j=j' then v else o.getD j' none :=by
 simp only[Array.getD_eq_getD_getElem?,Array.getElem?_setIfInBounds,hj,if_true];split<;>rfl
theorem me.snoc {mask:Nat}{o:Array (Option Nat)}{hs:List Int}{hh:Int}{j k:Nat}(L:me mask o hs) (e:(bD mask hh k).j=j) (hj:j<=mask) (hf:¬ fA o j) (hb:∀k',k'<k->fA o (bD mask hh k').j):me mask (o.setIfInBounds j (some hs.length)) (hs++[hh]) :=by
 have hl:j<o.size :=by rw[L.size];omega
 have fr:o.getD j none=none:=Po.mp hf;have iB:∀j',fA o j'->fA (o.setIfInBounds j (some hs.length)) j':=fun j' z=>by
  unfold fA;rw[jY hl];split
  ·simp
  ·exact z
 have lt:∀j' n,o.getD j' none=some n->n<hs.length:=fun j' n z=>by
  obtain⟨h2,e2,_⟩:=L.wk j' n z;exact(br.mp e2).1
 refine⟨by rw[Array.size_setIfInBounds,L.size],fun j' n h=>?_,fun a b n ha bJ=>?_,fun n hn=>?_⟩
 ·rw[jY hl]at h;split at h
  ·rename_i z;cases h;subst z;exact⟨hh,by simp,k,e,fun k' jV=>iB _ (hb k' jV)⟩
  ·obtain⟨h2,e2,w2⟩:=L.wk j' n h;exact⟨h2,by rw[Tz (lt j' n h)];exact e2,w2.mono iB⟩
 ·rw[jY hl]at ha bJ;split at ha
  ·rename_i z;cases ha;split at bJ
   ·rename_i z2;omega
   ·have:=lt b _ bJ;omega
  ·split at bJ
   ·cases bJ;have:=lt a _ ha;omega
   ·exact L.inj a b n ha bJ
 ·rw[rf,S5]at hn;by_cases z:n=hs.length
  ·subst z;exact⟨j,hj,by rw[jY hl,if_pos rfl]⟩
  ·obtain⟨j',a,b⟩:=L.sur n (by omega)
   refine⟨j',a,?_⟩;rw[jY hl,if_neg fun z2=>by subst z2;rw[fr]at b;cases b]
   exact b
theorem Jj {mask:Nat}(F:Full mask) (hashes:Array Int) (h:hashes.size<=mask):∃o,VV mask hashes=some o/\me mask o hashes.toList :=by
 unfold VV;rw[<- Array.foldl_toList];have hl:hashes.toList.length<=mask :=by rw[io];exact h
 generalize hashes.toList=L at hl
 have key:∀(rest done:List Int) (o:Array (Option Nat)),done++rest=L->me mask o done->∃o',rest.foldl (init:=some (o,done.length)) (fun acc h=>do
   let (owner,k) <- acc
   let j <- SY mask owner (NL mask) (AT h % (mask+1)) (AT h)
   pure (owner.setIfInBounds j (some k),k+1))=some (o',L.length)/\me mask o' L:=fun rest=>by
  induction rest with
  |nil=>
   intro done o e I;rw[AN]at e;subst e;exact⟨o,rfl,I⟩
  |cons hh rest ih=>
   intro done o e I;have hd:done.length+(rest.length+1)=L.length :=by rw[<- e,rf,xw]
   obtain⟨j0,Jk,f0⟩:=I.room (by omega)
   obtain⟨T',mh,Qv⟩:=pd F hh Jk;obtain⟨j,k,e1,e2,e3,e4,e5⟩:=rD (hh:=hh) I.size (NL mask) 0 (fun k hk=>absurd hk (VB _)) ⟨T',kv _,by unfold NL;omega,by rw[Qv];exact f0⟩
   have e1:SY mask o (NL mask) (AT hh % (mask+1)) (AT hh)=some j:=e1;have:=ih (done++[hh]) (o.setIfInBounds j (some done.length)) (by rw[EM];exact e) (I.snoc e2 e3 e4 e5)
   rw[rf,S5]at this;rw[ON];simp only[Option.bind_eq_bind,Uk,e1,Option.pure_def];exact this
 obtain⟨o',e,I⟩:=key L [] (VE (mask+1) none) rfl ⟨by simp,fun j n z=>by simp[Mc]at z,fun a b n z=>by simp[Mc]at z,fun n hn=>by simp at hn⟩
 exact⟨o',by rw[show (some (VE (mask+1) none,0):Option (Array (Option Nat)×Nat))=some (VE (mask+1) none,([]:List Int).length) from rfl,e];rfl,I⟩
theorem wJ {α β:Type}{f:α->Option β}{g:α->β}:∀{l:List α},(∀x∈l,f x=some (g x))->l.filterMap f=l.map g
 | [],_=>rfl
 |x::l,h=>by rw[NH,h x i1,xy,wJ fun y hy=>h y (dL _ hy)]
theorem FT {w:ij}{mask:Nat}(F:Full mask) (od:mask % 2=1) {es:Array (Int×am)}(h:es.size<mask) (finger moves:Nat) {led:Bool}(hl:led = !w.params.followText "set-order") (plain:Bool) :
  ∃t order,jp.laid mask finger moves led plain (es.map (·.1))=some (t,order)/\(order.filterMap (es[·]?)).toList.Perm es.toList/\GoodT w t (order.filterMap (es[·]?))/\t.mask=mask :=by
 obtain⟨o,e,L⟩:=Jj F (es.map (·.1)) (by rw[Array.size_map];omega)
 unfold jp.laid;rw[e];obtain⟨g,hg⟩:∃g:Nat->Int×am,g=fun n=>(es[n]?).getD (0,.none):=⟨_,rfl⟩
 have ge:∀n,n<es.size->es[n]?=some (g n):=fun n hn=>by rw[hg];simp[hn]
 have lt:∀j n,o.getD j none=some n->n<es.size:=fun j n z=>by
  obtain⟨hh,e2,_⟩:=L.wk j n z;have:=(br.mp e2).1;simpa using this
 obtain⟨live,ph⟩:∃live,live=(i8 (mask+1)).filterMap fun j=>(o.getD j none).map (j,·):=⟨_,rfl⟩
 have ml:∀j n,(j,n)∈live ↔ j<=mask/\o.getD j none=some n:=fun j n=>by
  rw[ph,TK];constructor
  ·rintro⟨a,ha,e⟩;obtain⟨b,hb,e2⟩:=lc.mp e;cases e2;exact⟨by have:=u4.mp ha;omega,hb⟩
  ·rintro⟨a,b⟩;exact⟨j,u4.mpr (by omega),by rw[b];rfl⟩
 have eo:(((live.map (·.2)).toArray.filterMap (es[·]?))).toList=live.map fun q=>g q.2 :=by
  rw[Array.toList_filterMap,List.filterMap_map];exact wJ fun q hq=>ge _ (lt q.1 q.2 ((ml q.1 q.2).mp hq).2)
 have nd:(live.map (·.2)).Nodup :=by
  have e3:live.map (·.2)=(i8 (mask+1)).filterMap fun j=>o.getD j none :=by
   rw[ph,List.map_filterMap];congr 1
   funext j
   cases o.getD j none<;>rfl
  rw[e3,List.nodup_iff_pairwise_ne];refine Tp.filterMap _ (fun a a' Sa b hb b' bJ z=>?_) (SX (n:=mask+1))
  subst z;have:=L.inj a a' b hb bJ;omega
 have pr:(live.map (·.2)).Perm (i8 es.size):=(List.perm_ext_iff_of_nodup nd Vr).mpr fun n=>by
  rw[kt,u4];constructor
  ·rintro⟨q,hq,rfl⟩;exact lt q.1 q.2 ((ml q.1 q.2).mp hq).2
  ·intro hn;obtain⟨j,a,b⟩:=L.sur n (by simpa using hn)
   exact⟨(j,n),(ml j n).mpr ⟨a,b⟩,rfl⟩
 have v3:(i8 es.size).map g=es.toList :=by
  refine Nl fun i=>?_
  have e2:es.toList[i]?=es[i]?:=by simp
  rw[cr,e2];by_cases hi:i<es.size
  ·rw[JJ hi,ge i hi];rfl
  ·rw[At (by rw[Cf];omega),Ll (by omega)];rfl
 have pe:(live.map fun q=>g q.2).Perm es.toList :=by
  rw[<- v3];have:=pr.map g;rw[AL]at this;exact this
 have sz:live.length=es.size :=by
  have:=pe.length_eq;rw[cb,io]at this;exact this
 refine⟨{mask,place:=(live.map (·.1)).toArray,dummies:=#[],finger,led,moves,plain},(live.map (·.2)).toArray,by rw[ph];rfl,by rw[eo];exact pe,?_,rfl⟩
 have Jl:((live.map (·.2)).toArray.filterMap (es[·]?)).size=es.size :=by rw[<- io,eo,cb,sz]
 have iB:∀j,fA o j->j∈live.map (·.1):=fun j z=>by
  obtain⟨n,en⟩:=Pf.mp z;have hj:j<o.size :=by
   refine PP fun c=>?_
   simp[Mc,c]at en
  rw[L.size]at hj;exact kt.mpr ⟨(j,n),(ml j n).mpr ⟨by omega,en⟩,rfl⟩
 refine⟨⟨rfl,by rw[ph];exact tS (fun j=>o.getD j none) _,hl⟩,F,od,fun j hj=>?_,?_,?_,fun q hq=>?_⟩
 ·rw[Tt]at hj;obtain⟨q,hq,rfl⟩:=kt.mp hj;exact((ml q.1 q.2).mp hq).1
 ·show (live.map (·.1)).toArray.size=_;rw[Jl];simp[sz]
 ·rw[Jl];exact h
 ·rw[Tt,eo]at hq;have hz:(live.map (·.1)).zip (live.map fun q=>g q.2)=live.map fun q=>(q.1,g q.2) :=by
   clear ph ml eo nd pr pe sz Jl iB hq
   induction live with
   |nil=>rfl
   |cons a l ih=>rw[xy,xy,xy,U1,ih]
  rw[hz]at hq;obtain⟨p,hp,rfl⟩:=kt.mp hq;have Nw:=((ml p.1 p.2).mp hp).2;obtain⟨hh,e2,w2⟩:=L.wk p.1 p.2 Nw;have aQ:=lt _ _ Nw;have:hh=(g p.2).1 :=by
   rw[OP,Array.getElem?_map,ge _ aQ]at e2;exact(i4 e2).symm
  subst this;exact w2.mono fun j z=>by show j∈(live.map (·.1)).toArray.toList;rw[Tt];exact iB j z
theorem GoodT.nP {w:ij}{t:jp}{es:Array (Int×am)}(g:GoodT w t es) (b:Bool):GoodT w (if b=true then t else {t with plain:=false}) es :=by
 split
 ·exact g
 ·exact⟨⟨g.ok.dum,g.ok.ris,g.ok.led⟩,g.full,g.odd,g.le,g.sz,g.room,g.wk⟩
theorem yk {w:ij}(finger moves:Nat):GoodT w (.fresh finger moves (!w.params.followText "set-order")) #[]:=
 ⟨⟨rfl,by simp[jA,UY],rfl⟩,LK,(by decide:7 % 2=1),fun j hj=>by simp[UY]at hj,rfl,by simp[UY],fun q hq=>by simp[UY]at hq⟩
theorem GoodT.fits {w:ij}{t:jp}{es:Array (Int×am)}(g:GoodT w t es):t.fits es.size=true :=by
 unfold jp.fits jp.fill;rw[g.ok.dum];have:=g.room;have:=g.sz;simp;omega
section
variable {P:ii}{w:ij}{A:mf}{E:am->ar->Prop}{s:ar}{κ:Type} [DecidableEq κ] {knd:KeyKind P w κ}
theorem pj {ks:List κ}{a:ap}{Q:Bool->ar->Prop}(hk:IF knd s.heap ks a) (h:Q false s):wpAny (model P w) A (ofAClassStatement 8 (.ref a)) Q E s :=by
 have hT:=hk.typeIs;obtain⟨o,items,n,ho,_,hd,hi⟩:=hk;unfold ofAClassStatement;refine ac (LS hT ?_);dsimp only;rw[if_pos (by decide)]
 refine ac (ba ?_);simp only[xz,c8,if_false];refine ac (S8 ho hd ?_);dsimp only;refine ac ?_;rw[<- Array.forIn_toList];refine Tk _ (fun rest r s'=>r.1=none/\s'=s/\∀v∈rest,carriedByValue v=true) _ ?_ ?_ _ _ ⟨rfl,rfl,hi.byValue⟩
 ·rintro v rest r s' ⟨hr,rfl,gN⟩;have hv:=gN v i1;have e:ofAClassStatement 7 v=pure false :=by
   cases v<;>first|(simp[carriedByValue]at hv;done)|(unfold ofAClassStatement;rfl)
  rw[e];refine ac (ba ?_);simp only[c8,if_false];exact ba ⟨rfl,rfl,fun u aL=>gN u (dL _ aL)⟩
 ·rintro⟨r1,r2⟩ s' ⟨hr,rfl,_⟩;simp only at hr;subst hr;exact ba h
theorem Ay {ks:List κ}{a:ap}(hk:IF knd s.heap ks a):∀(l:List am) {Q:Bool->ar->Prop},(∀v∈l,∃ks b,v=.ref b/\IF knd s.heap ks b)->Q false s->wpAny (model P w) A (searchCouldBeSeen (.ref a) l) Q E s :=by
 intro l Q hl h;unfold searchCouldBeSeen;refine ac ?_;refine Tk _ (fun rest r s'=>r.1=none/\s'=s/\∀v∈rest,∃ks b,v=.ref b/\IF knd s.heap ks b) _ ?_ ?_ _ _ ⟨rfl,rfl,hl⟩
 ·rintro v rest r s' ⟨hr,rfl,gN⟩;obtain⟨Sb,b,rfl,hb⟩:=gN v i1;have tl:=fun u aL=>gN u (dL _ aL)
  dsimp only;split
  ·exact ba ⟨rfl,rfl,tl⟩
  ·refine ac (wpAny_eqIsQuiet_tuple hk ?_);simp only[xz,c8,if_false];refine ac (wpAny_eqIsQuiet_tuple hb ?_);simp only[xz,c8,if_false];refine ac (pj hk ?_);simp only[c8,if_false];refine ac (pj hb ?_);simp only[c8,if_false];exact ba ⟨rfl,rfl,tl⟩
 ·rintro⟨r1,r2⟩ s' ⟨hr,rfl,_⟩;simp only at hr;subst hr;exact ba h
def Az (knd:KeyKind P w κ) (h:i0) (es:Array (Int×am)):Prop:=∀e∈es.toList,∃ks b,e=(tupleKeyHash knd ks,.ref b)/\IF knd h ks b
def yl (knd:KeyKind P w κ) (h:i0) (es:Array (Int×am)) (ks:List κ):Prop:=∃e∈es.toList,∃b,e.2=.ref b/\IF knd h ks b
theorem rE {a:ap}{o:l8}{es:Array (Int×am)}{ep:Nat}{t:jp}{ks:List κ}{p:ap}{K:Nat}{Q:SetFound->ar->Prop}(hu:A.units<cLine)
  (ho:s.heap.get? a=some o) (hd:o.data=.set es ep t) (g:GoodT w t es) (hk:IF knd s.heap ks p) (ha:Az knd s.heap es)
  (hK:¬ fy t (bD t.mask (tupleKeyHash knd ks) K).j) (hb:∀k,k<K->fy t (bD t.mask (tupleKeyHash knd ks) k).j) (ym:K<10 * NL t.mask)
  (AA:yl knd s.heap es ks->Q (.there none) s) (oG:¬ yl knd s.heap es ks->Q (.free (bD t.mask (tupleKeyHash knd ks) K).j false) s) :
  ∀(fuel k0:Nat) (sH:Option Sc),sH.getD (t.probeStart (tupleKeyHash knd ks))=bD t.mask (tupleKeyHash knd ks) k0->k0<=K->K - k0<fuel->
   (∀k i e,k<k0->t.slot (bD t.mask (tupleKeyHash knd ks) k).j=.live i->es[i]?=some e->∀b,e.2=.ref b->¬ IF knd s.heap ks b)->
   wpAny (model P w) A (setSearchFrom a (.ref p) (tupleKeyHash knd ks) true fuel sH) Q E s
 |0,k0,sH,_,_,hf,_=>by omega
 |fuel+1,k0,sH,jO,Jm,hf,nj=>by
          unfold setSearchFrom;refine ac (Ch ho hd g.fits ?_);dsimp only;have hg:t.gaveWay=false :=by
           unfold jp.gaveWay;rw[g.odd];rfl
          rw[hg];simp only[c8,if_false];rw[jO];have FU:(∀k i e,k<K->t.slot (bD t.mask (tupleKeyHash knd ks) k).j=.live i->es[i]?=some e->∀b,e.2=.ref b->¬ IF knd s.heap ks b)->¬ yl knd s.heap es ks:=fun hn ⟨e,he,b,eb,bJ⟩=>by
           obtain⟨i,hi,ei⟩:=UJ.mp he;have dh:i<es.size :=by simpa using hi
           have Nx:es[i]?=some e :=by rw[mv dh];simpa using ei
           have Ny:i<t.place.size :=by rw[g.sz];exact dh
           have hz:(t.place.toList.zip es.toList)[i]?=some (t.place[i],e):=xp.mpr ⟨by simp[Ny],by simpa using Nx⟩
           obtain⟨k,e1,e2⟩:=g.wk _ (im hz);obtain⟨Jn,b2,rfl,lJ⟩:=ha e he;cases eb;have:=bJ.inj lJ;subst this;dsimp only at e1 e2;have Qw:k<K :=by
            refine PP fun z=>?_
            by_cases z2:K<k
            ·exact hK (e2 K z2)
            ·have:k=K :=by omega
             subst this;exact hK (by rw[e1];show _∈t.place.toList;simp)
           have nX:fy t t.place[i] :=by show _∈t.place.toList;simp
           obtain⟨i',s1,s2⟩:=uj g.ok nX;have gK:i'=i :=by
            have hl:=(Tr.mp s2);obtain⟨hl,hv⟩:=hl;rcases Nat.lt_trichotomy i' i with z|z|z
            ·have:=i5 g.ok.ris z Ny;omega
            ·exact z
            ·have:=i5 g.ok.ris z hl;omega
           subst gK;exact hn k i' _ Qw (by rw[e1];exact s1) Nx _ rfl lJ
          rcases rC g.ok hK hb (10 * NL t.mask) k0 Jm (by omega) with ⟨k,i,c1,c2,c3,c4,c5,c6⟩|⟨c5,c6⟩
          ·unfold VW;rw[c6];dsimp only;obtain⟨j,hj⟩:∃j,j=(bD t.mask (tupleKeyHash knd ks) k).j:=⟨_,rfl⟩;have pl:=C1 g.ok c3;have ig:i<es.size :=by rw[<- g.sz];exact(Tr.mp pl).1
           obtain⟨Jn,b2,ee,lJ⟩:=ha es[i] (by simp)
           have ei:es[i]?=some (tupleKeyHash knd Jn,.ref b2) :=by rw[mv ig,ee]
           have after:wpAny (model P w) A (do
             let some (_,y):=es[i]?|unsupported "internal:set-entry"
             let equal <- holding [y] (eqBool y (.ref p))
             let (b6,_,t') <- setState a
             if true && equal then return .there none
             let some same:=t'.sameMemory t.moves t.mask|unsupported "set.changed-during-lookup:is-the-new-block-at-the-old-address"
             let LL <- match (if same then t'.slot (bD t.mask (tupleKeyHash knd ks) k).j else .empty) with
              | .live i'=>match b6[i']? with
               |some (_,y')=>do pure (if <- isSame y' y then some i' else none)
               |none=>pure none
              |_=>pure none
             match LL with
             |none=>rule "set.search.anew";setSearchFrom a (.ref p) (tupleKeyHash knd ks) true fuel none
             |some i'=>if equal then return .there (some i') else setSearchFrom a (.ref p) (tupleKeyHash knd ks) true fuel (some (bD t.mask (tupleKeyHash knd ks) (k+1)))) Q E s :=by
            rw[ei];dsimp only;refine ac (wT (wpAny_eqBool_tuple hu lJ hk ?_));refine ac (Ch ho hd g.fits ?_);dsimp only;by_cases eq:Jn=ks
            ·subst eq;rw[decide_eq_true rfl,if_pos (by decide)]
             exact ba (AA ⟨es[i],by simp,b2,by rw[ee],lJ⟩)
            ·rw[decide_eq_false eq,if_neg (by decide)]
             have Qx:t.sameMemory t.moves t.mask=some true :=by unfold jp.sameMemory;rw[if_pos (by simp)]
             rw[Qx];simp only[if_true,c3,ei];refine ac (wpAny_isSame_ref_self (ac (ba ?_)));simp only[if_true,c8,if_false];refine rE hu ho hd g hk ha hK hb ym AA oG fuel (k+1) _ rfl (by omega) (by omega) fun k' i' e' h1 h2 h3 b' h4 h5=>?_
             by_cases z:k'<k0
             ·exact nj k' i' e' z h2 h3 b' h4 h5
             ·by_cases z2:k'=k
              ·subst z2;rw[c3]at h2;cases h2;rw[ei]at h3;cases h3;cases h4;exact eq (lJ.inj h5)
              ·have hh:=c5 k' i' (by omega) (by omega) h2
               obtain⟨Jo,b3,e3,AB⟩:=ha e' (by have:=Ur h3;simpa using this)
               subst e3;cases h4;have:=h5.inj AB;subst this;refine hh ?_;show ((es[i']?).map (·.1)).getD 0=_;rw[h3];rfl
           split
           ·refine ac (Ay hk _ (fun v hv=>?_) ?_)
            ·obtain⟨e,he,rfl⟩:=kt.mp hv;have Qy:e∈es.toList :=by
              have:=Uw.mp he;have:=(Array.mem_filter.mp this).1;simpa using this
             obtain⟨Jo,b3,e3,AB⟩:=ha e Qy;subst e3;exact⟨Jo,b3,rfl,AB⟩
            ·simp only[c8,if_false];exact after
           ·exact after
          ·unfold VW;rw[c6];dsimp only;refine ba (oG (FU fun k i e h1 h2 h3 b h4 h5=>?_))
           by_cases z:k<k0
           ·exact nj k i e z h2 h3 b h4 h5
           ·have hh:=c5 k i (by omega) h1 h2
            obtain⟨Jo,b3,e3,AB⟩:=ha e (by have:=Ur h3;simpa using this)
            subst e3;cases h4;have:=h5.inj AB;subst this;refine hh ?_;show ((es[i]?).map (·.1)).getD 0=_;rw[h3];rfl
def uk (knd:KeyKind P w κ) (x:List κ×ap):Int×am:=(tupleKeyHash knd x.1,.ref x.2)
def gO (knd:KeyKind P w κ) (h:i0) (a:ap) (xs:List (List κ×ap)):Prop:=
 ∃o es ep t,h.get? a=some o/\o.ExactSet/\o.data=.set es ep t/\es.toList.Perm (xs.map (uk knd))/\(xs.map (·.1)).Nodup/\GoodT w t es/\(t.mask=7\/t.mask=31)/\es.size * 5<t.mask * 3
theorem gO.bB {h h':i0}{a:ap}{xs:List (List κ×ap)}(x:gO knd h a xs) (k:∀o,h.get? a=some o->h'.get? a=some o):gO knd h' a xs:=
 let ⟨o,es,ep,t,e,r⟩:=x;⟨o,es,ep,t,k o e,r⟩
def um (xs:List (List κ×ap)) (k:List κ) (p:ap):List (List κ×ap):=if k∈xs.map (·.1) then xs else xs++[(k,p)]
theorem qm {ks:List κ}{a:ap}{Q:Bool->ar->Prop}(hk:IF knd s.heap ks a) (h:∀b,Q b s):wpAny (model P w) A (hashByValue 8 (.ref a)) Q E s :=by
 have hT:=hk.typeIs;obtain⟨o,items,n,ho,_,hd,hi⟩:=hk;unfold hashByValue;refine ac (Pe hT F.slot_tuple_hash.lookup ?_);dsimp only;refine ac (S8 ho hd ?_);refine ac ?_;show wpAny _ _ (forIn items _ _) _ _ s;rw[<- Array.forIn_toList];refine Tk _ (fun rest r s'=>s'=s/\∀v∈rest,carriedByValue v=true) _ ?_ ?_ _ _ ⟨rfl,hi.byValue⟩
 ·rintro v rest r s' ⟨rfl,gN⟩;have hv:=gN v i1;have e:∃b,hashByValue 7 v=pure b :=by
   cases v<;>first|(simp[carriedByValue]at hv;done)|exact⟨_,rfl⟩
  obtain⟨b,e⟩:=e;rw[e];refine ac (ba ?_);cases b
  ·simp only[NO,if_true];exact ba (ba (h _))
  ·simp only[xz,c8,if_false];exact ba ⟨rfl,fun u aL=>gN u (dL _ aL)⟩
 ·rintro⟨r1,r2⟩ s' ⟨rfl,_⟩;cases r1 with
  |none=>exact ba (h _)
  |some v=>exact ba (h _)
theorem AD {h:i0}{a:ap}{o:l8}{es:Array (Int×am)}{ep:Nat}{t:jp}(ho:h.get? a=some o) (hd:o.data=.set es ep t) (b6:Array (Int×am)) (t':jp) :
  (h.update a (Op b6 t')).get? a=some {o with data:=.set b6 (ep+1) t'}:=by
 have:=uu (Op b6 t') ho (by rw[UZ b6 t' hd];rfl)
 rw[UZ b6 t' hd]at this;exact this
theorem pq {h:i0}{a:ap}{o:l8}{es:Array (Int×am)}{ep:Nat}{t:jp}(ho:h.get? a=some o) (hex:o.ExactSet) (hd:o.data=.set es ep t)
  {b6:Array (Int×am)} {t':jp} {xs:List (List κ×ap)} (hp:b6.toList.Perm (xs.map (uk knd))) (hn:(xs.map (·.1)).Nodup) (g:GoodT w t' b6) (hm:t'.mask=7\/t'.mask=31) (hl:b6.size * 5<t'.mask * 3) :
  (h.update a (Op b6 t')).get? a=some {o with data:=.set b6 (ep+1) t'}/\gO knd (h.update a (Op b6 t')) a xs :=by
 have hg:(h.update a (Op b6 t')).get? a=some {o with data:=.set b6 (ep+1) t'}:=by
  have:=uu (Op b6 t') ho (by rw[UZ b6 t' hd];rfl)
  rw[UZ b6 t' hd]at this;exact this
 exact⟨hg,_,b6,ep+1,t',hg,hex,rfl,hp,hn,g,hm,hl⟩
theorem yn {a:ap}{xs:List (List κ×ap)}{ks:List κ}{p:ap}{Q:Bool->ar->Prop}(hu:A.units<cLine) (hS:gO knd s.heap a xs) (hk:IF knd s.heap ks p) (hx:∀x∈xs,IF knd s.heap x.1 x.2) (mQ:xs.length<9)
  (h:∀h',v6 a s.heap h'->gO knd h' a (um xs ks p)->Q (decide (ks ∉ xs.map (·.1))) {s with heap:=h',toks:=s.toks+(ks.length+1)}):wpAny (model P w) A (setAdd a (.ref p)) Q E s :=by
 unfold setAdd;refine wT (ac (wpAny_pyHash_tuple hu hk ?_));obtain⟨o,es,ep,t,ho,hex,hd,hp,hn,g,hm,hl⟩:=hS;unfold setAddHashed setAddHashedIn;refine wT (ac (Ch (s:={s with toks:=s.toks+(ks.length+1)}) ho hd g.fits ?_))
 dsimp only;have hb:byScan (.ref p) es=false:=rfl;rw[hb];simp only[c8,if_false];have hlen:es.size=xs.length :=by rw[<- io,hp.length_eq,cb]
 have ha:Az knd s.heap es:=fun e he=>by
  obtain⟨x,pv,rfl⟩:=kt.mp (hp.mem_iff.mp he);exact⟨x.1,x.2,rfl,hx x pv⟩
 have has:yl knd s.heap es ks ↔ ks∈xs.map (·.1) :=by
  constructor
  ·rintro⟨e,he,b,eb,bJ⟩;obtain⟨x,pv,rfl⟩:=kt.mp (hp.mem_iff.mp he);cases eb;exact kt.mpr ⟨x,pv,(hx x pv).inj bJ⟩
  ·intro m;obtain⟨x,pv,rfl⟩:=kt.mp m;exact⟨_,hp.mem_iff.mpr (kt.mpr ⟨x,pv,rfl⟩),x.2,rfl,hx x pv⟩
 have pw:∃j,j<=t.mask/\¬ fy t j :=by
  refine PP fun n=>?_
  have all:∀j,j<=t.mask->fy t j:=fun j hj=>Po.mp fun z=>n ⟨j,hj,z⟩
  have:=nW (i8 (t.mask+1)) t.place.toList Vr fun j hj=>all j (by have:=u4.mp hj;omega)
  rw[Cf,io,g.sz]at this;have:=g.room;omega
 obtain⟨j0,Jk,f0⟩:=pw;obtain⟨K,k1,k2,k3⟩:=Jh g.full (tupleKeyHash knd ks) Jk f0;have Pa:K<10 * NL t.mask :=by unfold NL;omega
 unfold setSearch;refine ac (rE (s:={s with toks:=s.toks+(ks.length+1)}) hu ho hd g hk ha k2 k3 Pa (fun hh=>?_) (fun hh=>?_) 100000 0 none rfl (kv _) (by rcases hm with z|z<;>rw[z]at k1<;>omega) fun k i e z=>absurd z (VB _))
 ·have px:=has.mp hh;have:=h s.heap (v6.refl a s.heap) (by unfold um;rw[if_pos px];exact⟨o,es,ep,t,ho,hex,hd,hp,hn,g,hm,hl⟩)
  rw[decide_eq_false (fun z=>z px)]at this
  exact ba this
 ·have px:ks ∉ xs.map (·.1):=fun z=>hh (has.mpr z)
  have xT:um xs ks p=xs++[(ks,p)] :=by unfold um;rw[if_neg px]
  have key:∀h',v6 a s.heap h'->gO knd h' a (xs++[(ks,p)])->Q true {s with heap:=h',toks:=s.toks+(ks.length+1)}:=fun h' iZ dQ=>by
   have:=h h' iZ (by rw[xT];exact dQ)
   rw[decide_eq_true px]at this;exact this
  have le:=Je t.mask (tupleKeyHash knd ks) K;have Qz:(es.size+1) * 5<=t.mask * 3+4 :=by omega
  have g1:=g.put (x:=.ref p) k2 k3 le (by rcases hm with z|z<;>rw[z]at Qz ⊢<;>omega)
  generalize (bD t.mask (tupleKeyHash knd ks) K).j=j at g1 k2 le
  dsimp only;refine ac (Ch (s:={s with toks:=s.toks+(ks.length+1)}) ho hd g.fits ?_)
  dsimp only;have yo:(wS es (t.put j).2 (tupleKeyHash knd ks,ul p)).toList.Perm ((xs++[(ks,p)]).map (uk knd)) :=by
   refine(md es _ _).trans ?_;rw[r6];refine Rs.trans (Rs.cons _ hp) ?_;exact(List.perm_append_comm (l₁:=[uk knd (ks,p)]) (l₂:=xs.map (uk knd)))
  have Nz:((xs++[(ks,p)]).map (·.1)).Nodup :=by
   rw[r6];exact S0.mpr ⟨hn,by simp,fun a ha b hb=>by rw[xy,TQ,lp]at hb;rw[hb];exact fun z=>px (by rw[<- show a=ks from z];exact ha)⟩
  have wK:(wS es (t.put j).2 (tupleKeyHash knd ks,ul p)).size=es.size+1 :=by
   rw[<- io,yo.length_eq,cb,rf,S5,hlen]
  have tm:(t.put j).1.mask=t.mask:=rfl;generalize (t.put j).1=t1 at g1 tm ⊢
  generalize wS es (t.put j).2 (tupleKeyHash knd ks,ul p)=cg at g1 yo wK ⊢
  have fin:∀b:Bool,wpAny (model P w) A (do
    storeSet a cg (if b=true then t1 else {t1 with plain:=false})
    if (!false && (if b=true then t1 else {t1 with plain:=false}).tooFull)=true then setRelay a (LH (es.size+1))
    pure true) Q E {s with toks:=s.toks+(ks.length+1)}:=fun b=>by
   have g2:=g1.nP b;have En:(if b=true then t1 else {t1 with plain:=false}).mask=t.mask :=by split<;>exact tm
   generalize (if b=true then t1 else {t1 with plain:=false})=t2 at g2 En ⊢
   have fl:t2.fill=es.size+1 :=by unfold jp.fill;rw[g2.ok.dum,g2.sz,wK];rfl
   have big:(1000:Nat)<sizeLine :=by decide
   have Jp:cg.size<=sizeLine :=by rw[wK];omega
   refine ac (T8 ho hd ?_ Jp);have tf:t2.tooFull=decide ((es.size+1) * 5 ≥ t.mask * 3) :=by unfold jp.tooFull;rw[fl,En]
   rw[tf];by_cases pw:(es.size+1) * 5 ≥ t.mask * 3
   ·rw[decide_eq_true pw];have e4:es.size=4/\t.mask=7 :=by rcases hm with z|z<;>rw[z]at pw hl ⊢<;>omega
    rw[e4.1];simp only[NO,Ts,if_true];have Eo:=AD ho hd cg t2;unfold setRelay;refine ac (ac (Ch Eo rfl g2.fits ?_));dsimp only;have oW:LH (4+1)=20:=rfl;have NA:jp.sizeAbove 20=32:=rfl;obtain⟨t3,order,l1,l2,l3,l4⟩:=FT Jf rfl (es:=cg) (by rw[wK];omega) t2.finger (t2.movedTo 31) g2.ok.led t2.plain
    have QB:t2.relaid (cg.map (·.1)) 20=some (t3,order) :=by
     unfold jp.relaid;rw[NA];exact l1
    have Jq:(order.filterMap (cg[·]?)).size=cg.size :=by rw[<- io,l2.length_eq,io]
    rw[oW,NA,if_neg (by omega),QB]
    refine ac ?_;show wpAny _ _ (if (order.filterMap (cg[·]?)).size != cg.size then unsupported "internal:set-table-lost-an-element" >>= fun _=>pure (order.filterMap (cg[·]?),t3) else pure (order.filterMap (cg[·]?),t3)) _ _ _
    rw[if_neg (by rw[Jq];simp)]
    refine ba ?_;dsimp only;refine T8 Eo rfl ?_ (by rw[Jq];exact Jp)
    obtain⟨_,QC⟩:=pq (knd:=knd) (xs:=xs++[(ks,p)]) Eo hex rfl (l2.trans yo) Nz l3 (.inr l4) (by rw[Jq,wK,l4];omega)
    exact ba (key _ ((AC s.heap a _).trans (AC _ a _)) QC)
   ·rw[decide_eq_false pw];simp only[TY,c8,if_false];obtain⟨Eo,tW⟩:=pq (knd:=knd) (xs:=xs++[(ks,p)]) ho hex hd yo Nz g2 (by rw[En];exact hm) (by rw[wK,En];omega)
    exact ac (ba (ba (key _ (AC s.heap a _) tW)))
  split
  ·exact ac (qm hk fun b=>fin b)
  ·exact ac (ba (fin true))
end
section
variable {P:ii}{w:ij}{A:mf}{E:am->ar->Prop}{s:ar}
abbrev Ep (xs:List am):Nat->am->Prop:=fun i v=>xs[i]?=some v
theorem FV {xs:List am}{acc:Array am}(h:VU (Ep xs) acc xs.length):acc.toList=xs :=by
 obtain⟨hs,hi⟩:=h;refine Nl fun i=>?_
 have e2:acc.toList[i]?=acc[i]?:=by simp
 rw[e2];by_cases hl:i<xs.length
 ·have:=hi i acc[i] (mv (by omega))
  rw[mv (by omega)]
  exact this.symm
 ·rw[Ll (by omega),At (by omega)]
theorem LN {I a:ap}{es:Array (Int×am)}{ep:Nat}{t:jp}(hh:A.handled=none) (cf:a≠I) (hd:w.params.followText "set-order" = false->(!t.plain && decide (es.size > 1))=false) :
  VL P w A I [I,a] [I] (fun a b=>b=a) ((bS w a ep es).map (·.2)).length (Ep ((bS w a ep es).map (·.2)))
   (fun i s=>gy P w s.heap a es ep t/\∃slot:Nat,c7 s.heap I a (.int slot 0) i es.size ep/\(w.params.followText "set-order" = false->lw t.place slot=i)) where
 sub:=fun b hb=>by simp at hb;simp[hb]
 grefl:=fun _=>rfl
 gtrans:=fun _ _ _ h1 h2=>h2.trans h1
 frame:=fun i s h' _ st _ hk=>⟨st.1.bB fun o e=>hk a (by simp) o e,let ⟨slot,h1,h2⟩:=st.2;⟨slot,h1.bB fun o e=>hk I (by simp) o e,h2⟩⟩
 item:=fun i s Q E hi st hQ=>by
  obtain⟨hE,slot,hit,hb⟩:=st;have hl:i<(bS w a ep es).length :=by simpa using hi
  have lL:i<es.size :=by rw[<- io,<- (dX w a ep es).length_eq];exact hl
  have cY:i<t.place.size :=by
   have:=hE.fits;simp only[jp.fits,BB,beq_iff_eq]at this;rw[this.1];exact lL
  refine wx (next:=if w.params.followText "set-order" = true then slot else t.place[i]+1) (x:=((bS w a ep es)[i]).2) hit hE hd (fun bJ=>?_) (fun bJ=>?_) (fun h' nT hs=>hQ _ _ (by show (List.map _ _)[i]?=_;rw[cr,ag hl];rfl) ⟨hE.bB fun o e=>by rw[hs.2 a cf];exact e,_,nT,fun bJ=>?_⟩ ⟨fun b o hb e=>by rw[hs.2 b (fun z=>hb (by simp[z]))];exact e,rfl,rfl,rfl,bv _⟩)
  ·rw[if_pos bJ];have e1:bS w a ep es=(pickOrder (w.params.setOrder a ep) es).toList :=by unfold bS;rw[if_pos bJ]
   have e2:(pickOrder (w.params.setOrder a ep) es)[i]?=some (bS w a ep es)[i] :=by
    rw[<- OP,<- e1];exact ag hl
   rw[e2];rfl
  ·rw[if_neg (by rw[bJ];decide),hb bJ,mv lL,mv cY]
   have e1:bS w a ep es=es.toList :=by unfold bS;rw[if_neg (by rw[bJ];decide)]
   have e2:(bS w a ep es)[i]=es[i] :=by simp[e1]
   rw[e2]
  ·rw[if_neg (by rw[bJ];decide)]
   exact o5 hE.tab.ris cY
 done:=fun s Q E st hQ=>by
  obtain⟨hE,slot,hit,hb⟩:=st;have hl:((bS w a ep es).map (·.2)).length=es.size :=by rw[cb,(dX w a ep es).length_eq,io]
  rw[hl]at hit hb;refine wy hh hit hE hd (fun bJ=>?_) (fun bJ=>?_) (fun h' k=>hQ _ ⟨fun b o hb e=>k b o (fun z=>hb (by simp[z])) e,rfl,rfl,rfl,bv _⟩)
  ·have e1:(pickOrder (w.params.setOrder a ep) es)[es.size]?=none :=by
    refine Ll ?_;rw[<- io,(lN _ es).length_eq,io];exact bv _
   rw[e1];rfl
  ·rw[hb bJ,Ll (bv _)]
 self:=fun i s Q E st hQ=>let ⟨_,slot,hit,_⟩:=st;si_self hit hQ
theorem Jr {I a T:ap}{es:Array (Int×am)}{ep:Nat}{t:jp}{ps:List Nat}(hh:A.handled=none) (cf:a≠I) (CN:T≠I) (lP:∀j∈ps,j<es.size) (cY:ps.length=es.size) :
  VL P w A I [I,a,T] [I] (fun a b=>b=a) (ps.map fun j=>(es.getD j (0,.none)).2).length (Ep (ps.map fun j=>(es.getD j (0,.none)).2))
   (fun i s=>gy P w s.heap a es ep t/\s.heap.IsTuple T (ps.map fun (i:Nat)=>rawInt i).toArray/\c7 s.heap I a (.ref T) i es.size ep) where
 sub:=fun b hb=>by simp at hb;simp[hb]
 grefl:=fun _=>rfl
 gtrans:=fun _ _ _ h1 h2=>h2.trans h1
 frame:=fun i s h' _ st _ hk=>⟨st.1.bB fun o e=>hk a (by simp) o e,st.2.1.at fun o e=>hk T (by simp) o e,st.2.2.bB fun o e=>hk I (by simp) o e⟩
 item:=fun i s Q E hi st hQ=>by
  obtain⟨hE,hT,hit⟩:=st;have hl:i<ps.length :=by simpa using hi
  have hj:=lP _ (DD hl);have hx:es[ps[i]]?=some es[ps[i]]:=mv hj;have hg:es.getD ps[i] (0,.none)=es[ps[i]] :=by simp[Mc,hj]
  refine wz hit hE hT (ag hl) hx fun h' nT hs=>hQ _ _ (by show (List.map _ _)[i]?=_;rw[cr,ag hl,AS,hg]) ⟨hE.bB fun o e=>by rw[hs.2 a cf];exact e,hT.at fun o e=>by rw[hs.2 T CN];exact e,nT⟩ ⟨fun b o hb e=>by rw[hs.2 b (fun z=>hb (by simp[z]))];exact e,rfl,rfl,rfl,bv _⟩
 done:=fun s Q E st hQ=>by
  obtain⟨hE,hT,hit⟩:=st;have hl:(ps.map fun j=>(es.getD j (0,.none)).2).length=ps.length:=cb _
  rw[hl]at hit;exact wA hh hit hE hT (bv _) fun h' k=>hQ _ ⟨fun b o hb e=>k b o (fun z=>hb (by simp[z])) e,rfl,rfl,rfl,bv _⟩
 self:=fun i s Q E st hQ=>si_self st.2.2 hQ
theorem vD {a:ap}{o:l8}{es:Array (Int×am)}{ep:Nat}{t:jp}{Q:am->ar->Prop}(ho:s.heap.get? a=some o) (hex:o.ExactSet) (hd:o.data=.set es ep t) (hb:es.size<scanBound) (hf:t.fits es.size=true) (ht:a8 w t)
  (hQ:∀(I:ap) (h':i0) (d':Drawn) (xs:List am) (fp:List ap) (St:Nat->ar->Prop),xs.Perm (es.toList.map (·.2))->(∀b o,s.heap.get? b=some o->h'.get? b=some o)->s.heap.objs.size<=I->(∀b∈fp,b=a\/s.heap.objs.size<=b)->
   (∀A':mf,A'.handled=none->VL P w A' I fp [I] (fun a b=>b=a) xs.length (Ep xs) St)->St 0 {s with heap:=h',drawn:=d'}->Q (.ref I) {s with heap:=h',drawn:=d'}):wpAny (model P w) A (pyIter (.ref a)) Q E s :=by
 have oQ:s.TypeIs (.ref a) "set" := ⟨o,ho,hex.1⟩
 have hE:gy P w s.heap a es ep t:=⟨⟨o,ho,hex,hd⟩,hf,ht⟩;have aQ:=gc ho;refine Ub oQ UF (nw UF oQ ny ?_ (F.args_set_iter_1 _));unfold l7.«frozenset.__iter__»;refine ac (m:=l7.Frozenset.slot0 "__iter__" _) (ba ?_)
 unfold l7.Frozenset.sizeOf;refine ac (ac (NJ ho hd hf (ba ?_)));refine ac ?_;unfold setDrawn;refine ac (Ch ho hd hf ?_);dsimp only;refine ac (jD ?_);refine ba ?_;by_cases jX:(!w.params.followText "set-order" && (!t.plain && decide (es.size > 1)))=true
 ·show wpAny _ _ (if (!w.params.followText "set-order" && (!t.plain && decide (es.size > 1)))=true then _ else _) _ _ s
  rw[if_pos jX];refine ac (ja _ _ (by simp) fun ps d lP=>?_)
  have cY:ps.length=es.size :=by rw[lP.length_eq,Cf]
  refine ac (UX ?_ (by rw[cb,cY];exact T9 hb))
  refine ac (Uc (o:=o) (bi _ ho) hd hf ?_);unfold newFields;refine ac (mT ?_ (by size_fits))
  have hsz:∀u:l8,(s.heap.push u).objs.size=s.heap.objs.size+1:=fun u=>Ix _ _
  have hit:c7 ((s.heap.push {cls:=.type "tuple",data:=.seq (ps.map fun (i:Nat)=>rawInt i).toArray}).push {cls:=.type "set_iterator",data:=.fields #[.ref s.heap.objs.size,.int (0:Nat) 0,.ref a,.int es.size 0,.int ep 0]}) (s.heap.push {cls:=.type "tuple",data:=.seq (ps.map fun (i:Nat)=>rawInt i).toArray}).objs.size a (.ref s.heap.objs.size) 0 es.size ep:=⟨_,ff _ rfl,rfl,rfl⟩
  have II:(ps.map fun j=>(es.getD j (0,.none)).2).Perm (es.toList.map (·.2)) :=by
   refine(lP.map _).trans ?_;have:(i8 es.size).map (fun j=>(es.getD j (0,.none)).2)=es.toList.map (·.2) :=by
    refine Vq (by simp) fun n h1 h2=>?_
    have sS:n<es.size :=by simpa using h1
    simp[Mc,sS]
   rw[this]
  refine ba ⟨_,rfl,"set_iterator",_,c7.typeIs (s:={s with heap:=_,drawn:=d}) hit,bH.lookup,?_⟩
  refine hQ _ _ d _ [(s.heap.push {cls:=.type "tuple",data:=.seq (ps.map fun (i:Nat)=>rawInt i).toArray}).objs.size,a,s.heap.objs.size] _ II (fun b o e=>bi _ (bi _ e)) (by rw[hsz];exact Fa _) (fun b hb=>?_) (fun A' hA=>Jr (t:=t) (ep:=ep) hA ?_ ?_  (fun j hj=>by simpa using lP.mem_iff.mp hj) cY) ⟨hE.bB fun o e=>bi _ (bi _ e),⟨_,bi _ (ff _ rfl),rfl,_,rfl⟩,hit⟩
  ·simp only[li,wP,or_false]at hb;rcases hb with rfl|rfl|rfl
   ·exact .inr (by rw[hsz];exact Fa _)
   ·exact .inl rfl
   ·exact .inr (bv _)
  ·rw[hsz];exact kw (Cc aQ)
  ·rw[hsz];exact kw (Lu _)
 ·show wpAny _ _ (if (!w.params.followText "set-order" && (!t.plain && decide (es.size > 1)))=true then _ else _) _ _ s
  rw[if_neg jX];refine ac (ba (ac (Uc ho hd hf ?_)));unfold newFields;refine ac (mT ?_ (by size_fits))
  have hit:c7 (s.heap.push {cls:=.type "set_iterator",data:=.fields #[.int (0:Nat) 0,.int (0:Nat) 0,.ref a,.int es.size 0,.int ep 0]}) s.heap.objs.size a (.int (0:Nat) 0) 0 es.size ep:=⟨_,ff _ rfl,rfl,rfl⟩
  refine ba ⟨_,rfl,"set_iterator",_,c7.typeIs (s:={s with heap:=_}) hit,bH.lookup,?_⟩
  refine hQ _ _ s.drawn _ [s.heap.objs.size,a] _ ((dX w a ep es).map (·.2)) (fun b o e=>bi _ e) (bv _) (fun b hb=>?_) (fun A' hA=>LN (t:=t) (ep:=ep) hA (kw aQ)  fun hb=>?_) ⟨hE.bB fun o e=>bi _ e,0,hit,fun _=>o6 ht.ris⟩
  ·simp only[li,wP,or_false]at hb;rcases hb with rfl|rfl
   ·exact .inr (bv _)
   ·exact .inl rfl
  ·rw[hb]at jX;simpa using jX
theorem uo {a:ap}{o:l8}{es:Array (Int×am)}{ep:Nat}{t:jp}{QL:List am->ar->Prop}(hh:A.handled=none) (ho:s.heap.get? a=some o) (hex:o.ExactSet) (hd:o.data=.set es ep t) (hb:es.size<scanBound) (hf:t.fits es.size=true) (ht:a8 w t) (hz:es.size<=sizeLine)
  (hQ:∀us h' d' tk,us.Perm (es.toList.map (·.2))->(∀b o,s.heap.get? b=some o->h'.get? b=some o)->QL us {s with heap:=h',drawn:=d',toks:=tk}):wpAny (model P w) A (collect (.ref a)) QL E s :=by
 have aQ:a<s.heap.objs.size:=gc ho;have rp:s.heap.objs.size≠a:=KF aQ;unfold collect;refine ac (TZ (ww S9 ?_));rw[tz Tc _];show wpAny _ A.in1 (newList []>>=fun l=>again (.builtin "list.__iadd__" ⟨[l,.ref a],[]⟩)) _ _ s
 refine ac (mT ?_);refine ba ⟨EN IS _,ww Ud ?_⟩;rw[tz IS _];have oY:(s.heap.push {cls:=.type "list",data:=.seq ([]:List am).toArray}).get? a=some o:=bi _ ho
 have T1:SL {s with heap:=s.heap.push {cls:=.type "list",data:=.seq ([]:List am).toArray}} (.ref a) "set" := ⟨o,oY,hex.1⟩
 show wpAny _ A.in1 (zw (.ref s.heap.objs.size) (.ref a) (.ref s.heap.objs.size)) _ _ _;unfold zw;refine ac (LS T1 ?_);have h1:GT (.ref s.heap.objs.size) (.ref a)=false :=by simp[GT,rp]
 have h2:(zd "set" == zd "list")=false :=by decide
 have h3:(zd "set" == zd "tuple")=false :=by decide
 simp only[h1,h2,h3,U6,c8,if_false];refine ac (vD (s:={s with heap:=s.heap.push {cls:=.type "list",data:=.seq ([]:List am).toArray}}) oY hex hd hb hf ht ?_)
 intro I h' d' xs fp St hp hk hI IJ hW jO;have T2:SL {s with heap:=h',drawn:=d'} (.ref a) "set" := ⟨o,hk a o oY,hex.1⟩
 refine ac (wT (nA T2 ?_));show wpAny _ A.in1 (if _=true then _ else _) _ _ _
 rw[if_pos (by kernel_rfl)]
 show wpAny _ A.in1 (rule "list.extend.makes-room" >>= fun _=>l7.List.listTouch (.ref s.heap.objs.size)>>=fun _=>
  again (.builtin "list.extend.loop" ⟨[.ref s.heap.objs.size,.ref I,.ref s.heap.objs.size],[]⟩)) _ _ _
 refine ac (FS ?_);have o7:h'.get? s.heap.objs.size=some {cls:=.type "list",data:=.seq ([]:List am).toArray}:=hk _ _ (ff _ rfl)
 refine ac ?_;show wpAny _ A.in1 (updateSeq s.heap.objs.size (·.push .none)>>=fun _=>updateSeq s.heap.objs.size (·.pop)) _ _ _
 refine ac (UG o7 rfl ?_);have o8:=uu (Da (·.push wv)) o7 rfl;refine UG o8 rfl ?_;have yb:=uu (Da (·.pop)) o8 rfl;have oth:∀b o,b≠s.heap.objs.size->h'.get? b=some o->((h'.update s.heap.objs.size (Da (·.push wv))).update s.heap.objs.size (Da (·.pop))).get? b=some o:=
  fun b o hb e=>(wb _ _ (EO hb)).trans ((wb _ _ (EO hb)).trans e)
 have t6:(s.heap.push {cls:=.type "list",data:=.seq ([]:List am).toArray}).objs.size=s.heap.objs.size+1:=Ix _ _
 have k7:s.heap.objs.size ∉ fp:=fun hm=>by
  rcases IJ _ hm with z|z
  ·exact rp z
  ·have z':s.heap.objs.size+1<=s.heap.objs.size :=by rw[<- t6];exact z
   exact absurd z' (Nat.not_succ_le_self _)
 have W:=hW A.in1.in1 (by simp[hh])
 have hl:xs.length<=sizeLine :=by rw[hp.length_eq,cb,io];exact hz
 refine ba ⟨EN UO _,UH (W.of_in1) hl _ k7 _ xs.length 0 _ _ _ rfl (kv _) (W.frame 0 ({s with heap:=h',drawn:=d'}:ar) _ s.toks jO (bv _) fun b hb o e=>oth b o (fun h=>k7 (h▸hb)) e) yb (VU.nil _) fun s' eF c' hm dQ lQ=>?_⟩
 show wpAny _ A (load s.heap.objs.size>>=_) _ _ s';refine ac (Vj dQ ?_);refine ba ?_;obtain⟨h2,g2,d2,Af,os2⟩:=s';have eg:g2=s.gens:=hm.gens;have ed:d2=d':=hm.drawn;have eo:os2=s.os:=hm.os;subst eg;subst ed;subst eo;refine hQ _ h2 _ Af (by rw[FV lQ];exact hp) fun b o e=>hm.heap b o ?_ (oth b o (kw (gc e)) (hk b o (bi _ e)))
 have hb:b<s.heap.objs.size:=gc e;simp only[li,wP,or_false,not_or];refine⟨kw hb,fun z=>?_⟩
 have z':s.heap.objs.size+1<=b :=by rw[<- t6,z];exact hI
 exact absurd (mo (Cc hb) z') (NE _)
end
inductive Dv where
 |int (i:Int)|bl (b:Bool)|ai|str (z:db)|tup (xs:List Dv)|lst (xs:List Dv)|set (ns:List Int)|ptr (a:ap)|exc (C:ap)|bo (ns:List Int)|raw (v:V)|dk (ks:List Key) (ds:List Dv)|dt (ks:List (List Key)) (ds:List Dv)|c9 (f:ap) (o:l8) (c:ap) (oc:l8) (vs:List V) (ds:List Dv)
inductive Mo where
 |lst (xs:List Dv)|dj|dk (ks:List Key) (ds:List Dv)|dt (ks:List (List Key)) (ds:List Dv)|ts (ks:List (List Int)) (ds:List Dv)
abbrev Mh:=ap->Option Mo
structure dR where
 g:List ap
 l:List (ap×db)
instance:Membership ap dR:=⟨fun t a=>a∈t.g⟩
def Er:HO->Bool
 | .cA _=>true
 | .lam _=>true
 | .dK _=>true
 | .dT _=>true
 |_=>false
def AF:HO->Bool
 | .cA _=>false
 |_=>true
def C2:HO->Bool
 | .dK _=>true
 | .dT _=>true
 |_=>false
theorem Rd.map {H H':Hp}{a:ap}{u:HO}(e:Rd H a u) (k:∀x,H a=some x->H' a=some x):Rd H' a u:=e.imp (k _) fun⟨o,h⟩=>⟨o,k _ h⟩
theorem Rd.Js {H H':Hp}{a:ap}{u:HO}(e:Rd H a u) (hu:C2 u=true) (k:∀x,AF x=true->H a=some x->H' a=some x):Rd H' a u:=e.imp (k _ (by cases u<;>first|rfl|cases hu)) fun⟨o,h⟩=>⟨o,k _ rfl h⟩
theorem Rd.there {H:Hp}{a:ap}{u:HO}(e:Rd H a u):∃x,H a=some x:=e.elim (fun h=>⟨_,h⟩) fun⟨o,h⟩=>⟨_,h⟩
def Tg (o o':HO):Prop:=(∃ps jU:Array am,o=.cA ps/\o'=.cA jU/\TR jU.toList)\/(∃ps jU:Array am,o=.lam ps/\o'=.lam jU)\/(C2 o=true/\∃ob,o'=.fx ob o)
theorem Tg.trans {a b c:HO}(x:Tg a b) (y:Tg b c):Tg a c :=by
 rcases x with ⟨p,q,rfl,rfl,t⟩|⟨p,q,rfl,rfl⟩|⟨hd,ob,rfl⟩
 ·rcases y with ⟨p2,q2,e,rfl,t2⟩|⟨p2,q2,e,_⟩|⟨e,_⟩
  ·exact .inl ⟨p,q2,rfl,rfl,t2⟩
  ·cases e
  ·cases e
 ·rcases y with ⟨p2,q2,e,_⟩|⟨p2,q2,e,rfl⟩|⟨e,_⟩
  ·cases e
  ·exact .inr (.inl ⟨p,q2,rfl,rfl⟩)
  ·cases e
 ·rcases y with ⟨p2,q2,e,_⟩|⟨p2,q2,e,_⟩|⟨e,_⟩<;>cases e
theorem Tg.tab {a b:HO}(x:Tg a b):Er a=true :=by
 rcases x with ⟨p,q,rfl,rfl,_⟩|⟨p,q,rfl,rfl⟩|⟨hd,ob,rfl⟩
 ·rfl
 ·rfl
 ·cases a<;>first|rfl|cases hd
def Pb (H:Hp) (q:db) (cv:am):Prop:=∃(c:ap) (oc:l8) (u:HO) (vs:Array am) (t:Tok),cv=ul c/\H c=some (.fx oc u)/\oc.data=.fields vs/\vs[1]?=some (VQ q t)
def Lm (H:Hp) (p:ap×db):Prop:=∃ps:Array am,H p.1=some (.lam ps)/\TR ps.toList/\∀pos cv,codeAmong pos ps.toList=some cv->Pb H p.2 cv
theorem Lm.keep {H H':Hp}{p:ap×db}(h:Lm H p) (k1:∀ps,H p.1=some (.lam ps)->H' p.1=some (.lam ps)) (k2:∀c oc u,H c=some (.fx oc u)->H' c=some (.fx oc u)):Lm H' p :=by
 obtain⟨ps,e,t,c⟩:=h;refine⟨ps,k1 _ e,t,fun pos cv q=>?_⟩
 obtain⟨a,oc,u,vs,tk,e1,e2,r⟩:=c pos cv q;exact⟨a,oc,u,vs,tk,e1,k2 _ _ _ e2,r⟩
structure Bz where
 P:ii
 w:ij
 K:bn
 tb:dR
 hid:List ap
def Fz (β:Bz) (M:Mh) (a:ap):Prop:=M a=none/\a ∉ β.hid
def Kl (K:bn) (a:ap) (ns:List Int):Prop:=∃(o:l8) (its:Array am) (n:Nat),K.lookup a=some o/\o.cls=.type "list" /\ o.dict=none/\o.data=.seq its n/\its.size<=sizeLine/\Vals (ns.map V.int) its.toList
inductive Rz (β:Bz) (M:Mh) (H:Hp):V->Dv->Prop where
 |int (i:Int):Rz β M H (.int i) (.int i)
 |bl (b:Bool):Rz β M H (.bl b) (.bl b)
 |ai:Rz β M H .ai .ai
 |str (z:db):Rz β M H (.str z) (.str z)
 |tup {a:ap} {vs:List V} {ds:List Dv} (m:Fz β M a) (e:H a=some (.tup vs)) (hl:vs.length=ds.length) (h:∀(i:Nat) (v:V) (d:Dv),vs[i]?=some v->ds[i]?=some d->Rz β M H v d):Rz β M H (.ref a) (.tup ds)
 |lst {a:ap} {vs:List V} {ds:List Dv} (m:Fz β M a) (e:H a=some (.lst vs)) (hl:vs.length=ds.length) (h:∀(i:Nat) (v:V) (d:Dv),vs[i]?=some v->ds[i]?=some d->Rz β M H v d):Rz β M H (.ref a) (.lst ds)
 |set {a:ap} {ns:List Int} (m:Fz β M a) (e:H a=some (nQ β.P β.w a ns)):Rz β M H (.ref a) (.set ns)
 |ptr {a:ap} (m:(M a).isSome=true):Rz β M H (.ref a) (.ptr a)
 |exc {a C:ap} (m:Fz β M a) (e:H a=some (O8 C a)):Rz β M H (.ref a) (.exc C)
 |bo {a:ap} {o:l8} {ns:List Int} (m:Fz β M a) (e:H a=some (.fx o (.lst (ns.map V.int)))):Rz β M H (.ref a) (.bo ns)
 |cK {a:ap} {ns:List Int} (m:Fz β M a) (e:H a=some (.lst (ns.map V.int))):Rz β M H (.ref a) (.bo ns)
 |cL {a:ap} {ns:List Int} (e:Kl β.K a ns):Rz β M H (.ref a) (.bo ns)
 |raw (v:V):Rz β M H v (.raw v)
 |dk {a:ap} {ks:List Key} {vs:List V} {ds:List Dv} (m:Fz β M a) (e:Rd H a (.dK (ks.zip vs))) (hk:ks.length=vs.length) (hl:vs.length=ds.length) (h:∀(i:Nat) (v:V) (d:Dv),vs[i]?=some v->ds[i]?=some d->Rz β M H v d):Rz β M H (.ref a) (.dk ks ds)
 |dt {a:ap} {ks:List (List Key)} {vs:List V} {ds:List Dv} (m:Fz β M a) (e:Rd H a (.dT (ks.zip vs))) (hk:ks.length=vs.length) (hl:vs.length=ds.length) (h:∀(i:Nat) (v:V) (d:Dv),vs[i]?=some v->ds[i]?=some d->Rz β M H v d):Rz β M H (.ref a) (.dt ks ds)
 |c9 {f c:ap} {o oc:l8} {u uc:HO} {vs:List V} {ds:List Dv} (m:Fz β M f) (e:H f=some (.fx o u)) (m2:Fz β M c) (e2:H c=some (.fx oc uc)) (hl:vs.length=ds.length) (h:∀(i:Nat) (v:V) (d:Dv),vs[i]?=some v->ds[i]?=some d->Rz β M H v d):Rz β M H (.ref f) (.c9 f o c oc vs ds)
structure aJ (β:Bz) (M:Mh) (H:Hp) (vs:List V) (ds:List Dv):Prop where
 len:vs.length=ds.length
 at':∀(i:Nat) (v:V) (d:Dv),vs[i]?=some v->ds[i]?=some d->Rz β M H v d
def jd:V->ap
 | .ref a=>a
 |_=>0
def la (P:ii) (w:ij) (a:ap) (aF:List (List Int×V)):HO:=.ext fun h=>gO (intKind P w) h a (aF.map fun x=>(x.1,jd x.2))
def iC (β:Bz) (M:Mh) (H:Hp) (a:ap):Mo->Prop
 | .lst ds=>∃vs,H a=some (.lst vs)/\aJ β M H vs ds
 | .dj=>Lz H a
 | .dk ks ds=>∃vs,H a=some (.dK (ks.zip vs))/\ks.length=vs.length/\aJ β M H vs ds
 | .dt ks ds=>∃vs,H a=some (.dT (ks.zip vs))/\ks.length=vs.length/\aJ β M H vs ds
 | .ts ks ds=>∃vs,H a=some (la β.P β.w a (ks.zip vs))/\ks.length=vs.length/\aJ β M H vs ds
def nY:HO->Bool
 | .lst _=>true
 | .set _ _=>true
 | .dK _=>true
 | .dT _=>true
 | .ext _=>true
 | .cA _=>true
 |_=>false
def yp (H:Hp) (a:ap):Prop:=∃o,H a=some o/\nY o=true
theorem yp.upd {H:Hp}{a p:ap}{o:HO}(h:yp H a) (d:H p=none\/nY o=true):yp (upd H p o) a :=by
 obtain⟨u,e,n⟩:=h;by_cases z:a=p
 ·subst z;rcases d with d|d
  ·rw[e]at d;cases d
  ·exact⟨o,aE,d⟩
 ·exact⟨u,by rw[ak z];exact e,n⟩
structure Mz (β:Bz) (M:Mh) (H:Hp):Prop where
 obj:∀a o,M a=some o->iC β M H a o
 tabs:Ei β.tb.g H
 hids:∀a∈β.hid,yp H a
 apart:∀a o,M a=some o->a ∉ β.hid
 lams:∀p∈β.tb.l,Lm H p
structure Ey (M:Mh) (H:Hp) (M':Mh) (H':Hp):Prop where
 keep:∀b o,M b=none->H b=some o->H' b=some o\/∃o',Tg o o'/\H' b=some o'
 dom:∀a,(M a).isSome=true->(M' a).isSome=true
 new:∀a o,M a=none->H a=some o->M' a=none
structure Ex (β:Bz) (M:Mh) (H:Hp) (M':Mh) (H':Hp):Prop extends Ey M H M' H' where
 mz:Mz β M' H'
section
variable {β:Bz}{M M1 M2:Mh}{H H1 H2:Hp}
theorem Ey.refl:Ey M H M H:=⟨fun _ _ _ h=>.inl h,fun _ h=>h,fun _ _ h _=>h⟩
theorem Ex.refl (m:Mz β M H):Ex β M H M H:=⟨.refl,m⟩
theorem Ey.trans (x:Ey M H M1 H1) (y:Ey M1 H1 M2 H2):Ey M H M2 H2 :=by
 refine⟨fun b o hm h=>?_,fun a h=>y.dom a (x.dom a h),fun a o hm h=>?_⟩
 ·have jC:=x.new b o hm h;rcases x.keep b o hm h with q|⟨o1,t,q⟩
  ·exact y.keep b o jC q
  ·rcases y.keep b _ jC q with q2|⟨o2,t2,q2⟩
   ·exact .inr ⟨o1,t,q2⟩
   ·exact .inr ⟨o2,t.trans t2,q2⟩
 ·have jC:=x.new a o hm h;rcases x.keep a o hm h with q|⟨o1,t,q⟩
  ·exact y.new a _ jC q
  ·exact y.new a _ jC q
theorem Ex.trans (x:Ex β M H M1 H1) (y:Ex β M1 H1 M2 H2):Ex β M H M2 H2:=⟨x.toEy.trans y.toEy,y.mz⟩
theorem Ey.get (x:Ey M H M1 H1) {b:ap}{o:HO}(m:M b=none) (h:H b=some o) (n:Er o=false):H1 b=some o :=by
 rcases x.keep b o m h with q|⟨o',e,_⟩
 ·exact q
 ·rw[e.tab]at n;cases n
theorem Ey.rd (x:Ey M H M1 H1) {b:ap}{u:HO}(m:M b=none) (h:Rd H b u) (hu:C2 u=true):Rd H1 b u :=by
 rcases h with h|⟨o,h⟩
 ·rcases x.keep b u m h with q|⟨o',t,q⟩
  ·exact .inl q
  ·rcases t with ⟨_,_,rfl,_⟩|⟨_,_,rfl,_⟩|⟨_,ob,rfl⟩
   ·cases hu
   ·cases hu
   ·exact .inr ⟨ob,q⟩
 ·exact .inr ⟨o,x.get m h rfl⟩
theorem Ey.gone (x:Ey M H M1 H1) {b:ap}(h:H1 b=none):M b=none->H b=none:=fun m=>by
 cases e:H b with
 |none=>rfl
 |some o=>
  rcases x.keep b o m e with q|⟨_,_,q⟩<;>(rw[h]at q;cases q)
theorem Rz.ey (x:Ey M H M1 H1) {v:V}{d:Dv}(h:Rz β M H v d):Rz β M1 H1 v d :=by
 induction h with
 |int i=>exact .int i
 |bl b=>exact .bl b
 |ai=>exact .ai
 |str z=>exact .str z
 |tup m e hl h ih=>exact .tup ⟨x.new _ _ m.1 e,m.2⟩ (x.get m.1 e rfl) hl ih
 |lst m e hl h ih=>exact .lst ⟨x.new _ _ m.1 e,m.2⟩ (x.get m.1 e rfl) hl ih
 |dk m e hk hl h ih=>exact .dk ⟨x.new _ _ m.1 e.there.choose_spec,m.2⟩ (x.rd m.1 e rfl) hk hl ih
 |dt m e hk hl h ih=>exact .dt ⟨x.new _ _ m.1 e.there.choose_spec,m.2⟩ (x.rd m.1 e rfl) hk hl ih
 |c9 m e m2 e2 hl h ih=>exact .c9 ⟨x.new _ _ m.1 e,m.2⟩ (x.get m.1 e rfl) ⟨x.new _ _ m2.1 e2,m2.2⟩ (x.get m2.1 e2 rfl) hl ih
 |set m e=>exact .set ⟨x.new _ _ m.1 e,m.2⟩ (x.get m.1 e rfl)
 |ptr m=>exact .ptr (x.dom _ m)
 |exc m e=>exact .exc ⟨x.new _ _ m.1 e,m.2⟩ (x.get m.1 e rfl)
 |bo m e=>exact .bo ⟨x.new _ _ m.1 e,m.2⟩ (x.get m.1 e rfl)
 |cK m e=>exact .cK ⟨x.new _ _ m.1 e,m.2⟩ (x.get m.1 e rfl)
 |cL e=>exact .cL e
 |raw v=>exact .raw v
theorem Rz.ex (x:Ex β M H M1 H1) {v:V}{d:Dv}(h:Rz β M H v d):Rz β M1 H1 v d:=h.ey x.toEy
theorem aJ.ex (x:Ex β M H M1 H1) {vs:List V}{ds:List Dv}(h:aJ β M H vs ds):aJ β M1 H1 vs ds:=⟨h.len,fun i v d a b=>(h.at' i v d a b).ex x⟩
theorem aJ.nil:aJ β M H [] []:=⟨rfl,fun i v d h=>by simp at h⟩
theorem aJ.cons {v:V}{d:Dv}{vs:List V}{ds:List Dv}(h:Rz β M H v d) (t:aJ β M H vs ds):aJ β M H (v::vs) (d::ds):=⟨by simp[t.len],fun i x y a b=>by
 cases i with
 |zero=>simp at a b;subst a b;exact h
 |succ i=>rw[Cn]at a b;exact t.at' i x y a b⟩
theorem aJ.head {v:V}{d:Dv}{vs:List V}{ds:List Dv}(h:aJ β M H (v::vs) (d::ds)):Rz β M H v d:=h.at' 0 v d rfl rfl
theorem aJ.tail {v:V}{d:Dv}{vs:List V}{ds:List Dv}(h:aJ β M H (v::vs) (d::ds)):aJ β M H vs ds:=⟨by simpa using h.len,fun i x y a b=>h.at' (i+1) x y (by rw[Cn];exact a) (by rw[Cn];exact b)⟩
theorem aJ.append {vs AG:List V}{ds gf:List Dv}(h:aJ β M H vs ds) (t:aJ β M H AG gf):aJ β M H (vs++AG) (ds++gf):=⟨by simp[h.len,t.len],fun i x y a b=>by
 rw[UK]at a b;rw[h.len]at a;split at b
 ·rename_i z;rw[if_pos z]at a;exact h.at' i x y a b
 ·rename_i z;rw[if_neg z]at a;exact t.at' _ x y a b⟩
theorem aJ.snoc {v:V}{d:Dv}{vs:List V}{ds:List Dv}(t:aJ β M H vs ds) (h:Rz β M H v d):aJ β M H (vs++[v]) (ds++[d]):=t.append (.cons h .nil)
theorem aJ.get {vs:List V}{ds:List Dv}(h:aJ β M H vs ds) {i:Nat}{d:Dv}(e:ds[i]?=some d):∃v,vs[i]?=some v/\Rz β M H v d :=by
 have hi:=(br.mp e).1;have dh:i<vs.length :=by rw[h.len];exact hi
 exact⟨vs[i],ag dh,h.at' i _ _ (ag dh) e⟩
theorem aJ.get' {vs:List V}{ds:List Dv}(h:aJ β M H vs ds) {i:Nat}{v:V}(e:vs[i]?=some v):∃d,ds[i]?=some d/\Rz β M H v d :=by
 have hi:=(br.mp e).1;have dh:i<ds.length :=by rw[<- h.len];exact hi
 exact⟨ds[i],ag dh,h.at' i _ _ e (ag dh)⟩
theorem aJ.take {vs:List V}{ds:List Dv}(h:aJ β M H vs ds) (n:Nat):aJ β M H (vs.take n) (ds.take n):=⟨by simp[h.len],fun i x y a b=>by
 rw[List.getElem?_take]at a b;split at a
 ·rename_i z;rw[if_pos z]at b;exact h.at' i x y a b
 ·cases a⟩
theorem aJ.drop {vs:List V}{ds:List Dv}(h:aJ β M H vs ds) (n:Nat):aJ β M H (vs.drop n) (ds.drop n):=⟨by simp[h.len],fun i x y a b=>by
 rw[List.getElem?_drop]at a b;exact h.at' _ x y a b⟩
theorem aJ.set {vs:List V}{ds:List Dv}(h:aJ β M H vs ds) (n:Nat) {v:V}{d:Dv}(r:Rz β M H v d):aJ β M H (vs.set n v) (ds.set n d):=⟨by simp[h.len],fun i x y a b=>by
 rw[Vi]at a b;rw[h.len]at a;split at a
 ·rename_i z;rw[if_pos z]at b;split at a
  ·rename_i z2;rw[if_pos z2]at b;cases a;cases b;exact r
  ·cases a
 ·rename_i z;rw[if_neg z]at b;exact h.at' i x y a b⟩
theorem d9 {a:ap}{vs:List V}{ds:List Dv}(m:Fz β M a) (e:H a=some (.tup vs)) (h:aJ β M H vs ds):Rz β M H (.ref a) (.tup ds):=.tup m e h.len h.at'
theorem pz {a:ap}{vs:List V}{ds:List Dv}(m:Fz β M a) (e:H a=some (.lst vs)) (h:aJ β M H vs ds):Rz β M H (.ref a) (.lst ds):=.lst m e h.len h.at'
theorem bg {v:V}{ds:List Dv}(h:Rz β M H v (.tup ds)):∃a vs,v=.ref a/\Fz β M a/\H a=some (.tup vs)/\aJ β M H vs ds :=by
 cases h with
 |tup m e hl h=>exact⟨_,_,rfl,m,e,hl,h⟩
theorem gh {v:V}{ds:List Dv}(h:Rz β M H v (.lst ds)):∃a vs,v=.ref a/\Fz β M a/\H a=some (.lst vs)/\aJ β M H vs ds :=by
 cases h with
 |lst m e hl h=>exact⟨_,_,rfl,m,e,hl,h⟩
theorem aC {v:V}{i:Int}(h:Rz β M H v (.int i)):v=.int i :=by cases h;rfl
theorem cM {v:V}{b:Bool}(h:Rz β M H v (.bl b)):v=.bl b :=by cases h;rfl
theorem eV {v:V}{z:db}(h:Rz β M H v (.str z)):v=.str z :=by cases h;rfl
theorem ik {v:V}(h:Rz β M H v .ai):v=.ai :=by cases h;rfl
theorem AH {v u:V}(h:Rz β M H v (.raw u)):v=u :=by cases h;rfl
theorem bq {v:V}{a:ap}(h:Rz β M H v (.ptr a)):v=.ref a/\(M a).isSome=true :=by cases h with|ptr m=>exact⟨rfl,m⟩
theorem AI {v:V}{ns:List Int}(h:Rz β M H v (.set ns)):∃a,v=.ref a/\Fz β M a/\H a=some (nQ β.P β.w a ns) :=by cases h with|set m e=>exact⟨_,rfl,m,e⟩
theorem rF {v:V}{ns:List Int}(h:Rz β M H v (.bo ns)):∃a,v=.ref a/\bG β.K H a (ns.map V.int) :=by
 cases h with
 |bo m e=>exact⟨_,rfl,.inl (.inr ⟨_,e⟩)⟩
 |cK m e=>exact⟨_,rfl,.inl (.inl e)⟩
 |cL e=>exact⟨_,rfl,.inr e⟩
def nZ:HO->Bool
 | .lst _=>true
 | .dK _=>true
 | .dT _=>true
 | .ext _=>true
 |_=>false
theorem Mz.own (m:Mz β M H) {a:ap}{o:Mo}(e:M a=some o):∃u,H a=some u/\nZ u=true :=by
 have q:=m.obj a o e;cases o with
 |lst ds=>obtain⟨vs,q,_⟩:=q;exact⟨_,q,rfl⟩
 |dk ks ds=>obtain⟨vs,q,_⟩:=q;exact⟨_,q,rfl⟩
 |dt ks ds=>obtain⟨vs,q,_⟩:=q;exact⟨_,q,rfl⟩
 |ts ks ds=>obtain⟨vs,q,_⟩:=q;exact⟨_,q,rfl⟩
 |dj=>obtain⟨_,_,q,_⟩:=q;exact⟨_,q,rfl⟩
theorem Mz.mi (m:Mz β M H) {a:ap}{u:HO}(h:H a=some u) (n:nZ u=false):M a=none :=by
 cases e:M a with
 |none=>rfl
 |some o=>obtain⟨u',q,w⟩:=m.own e;rw[h]at q;cases q;rw[n]at w;cases w
theorem Mz.LO (m:Mz β M H) {p:ap}(hp:p∈β.tb):M p=none:=let ⟨_,h,_⟩:=m.tabs p hp;m.mi h rfl
theorem Mz.Jt (m:Mz β M H) {p:ap×db}(hp:p∈β.tb.l):M p.1=none:=let ⟨_,h,_⟩:=m.lams p hp;m.mi h rfl
theorem Mz.free (m:Mz β M H) {a:ap}(h:H a=none):M a=none :=by
 cases e:M a with
 |none=>rfl
 |some o=>obtain⟨xs,q,_⟩:=m.own e;rw[h]at q;cases q
theorem Mz.fz (m:Mz β M H) {a:ap}(h:H a=none):Fz β M a:=⟨m.free h,fun z=>by
 obtain⟨o,e,_⟩:=m.hids a z;rw[h]at e;cases e⟩
theorem C3 {p a:ap}{o:HO}(h:∃u,H a=SZ u):∃u,upd H p o a=SZ u :=by
 unfold upd;split
 ·exact⟨_,rfl⟩
 ·exact h
theorem Ex.lay (m:Mz β M H) {p:ap}(h:H p=none) (o:HO):Ex β M H M (upd H p o) :=by
 have pre:∀b u,H b=some u->upd H p o b=some u:=fun b u q=>by rw[ak (bA q h)];exact q
 have rz:∀{v:V} {d:Dv},Rz β M H v d->Rz β M (upd H p o) v d:=fun r=>by
  induction r with
  |int i=>exact .int i
  |bl b=>exact .bl b
  |ai=>exact .ai
  |str z=>exact .str z
  |tup m e hl h ih=>exact .tup m (pre _ _ e) hl ih
  |lst m e hl h ih=>exact .lst m (pre _ _ e) hl ih
  |dk m e hk hl h ih=>exact .dk m (e.map fun _ h=>pre _ _ h) hk hl ih
  |dt m e hk hl h ih=>exact .dt m (e.map fun _ h=>pre _ _ h) hk hl ih
  |c9 m e m2 e2 hl h ih=>exact .c9 m (pre _ _ e) m2 (pre _ _ e2) hl ih
  |set m e=>exact .set m (pre _ _ e)
  |ptr m=>exact .ptr m
  |exc m e=>exact .exc m (pre _ _ e)
  |bo m e=>exact .bo m (pre _ _ e)
  |cK m e=>exact .cK m (pre _ _ e)
  |cL e=>exact .cL e
  |raw v=>exact .raw v
 refine⟨⟨fun b u _ q=>.inl (pre b u q),fun _ h=>h,fun _ _ h _=>h⟩,fun a u e=>?_,fun q hq=>?_,fun a ha=>(m.hids a ha).upd (.inl h),m.apart,fun q hq=>(m.lams q hq).keep (fun _ e=>pre _ _ e) fun _ _ _ e=>pre _ _ e⟩
 ·have z:=m.obj a u e;cases u with
  |lst ds=>obtain⟨vs,z,l,r⟩:=z;exact⟨vs,pre _ _ z,l,fun i v d a b=>rz (r i v d a b)⟩
  |dk ks ds=>obtain⟨vs,z,hk,l,r⟩:=z;exact⟨vs,pre _ _ z,hk,l,fun i v d a b=>rz (r i v d a b)⟩
  |dt ks ds=>obtain⟨vs,z,hk,l,r⟩:=z;exact⟨vs,pre _ _ z,hk,l,fun i v d a b=>rz (r i v d a b)⟩
  |ts ks ds=>obtain⟨vs,z,hk,l,r⟩:=z;exact⟨vs,pre _ _ z,hk,l,fun i v d a b=>rz (r i v d a b)⟩
  |dj=>obtain⟨c,n,z,r⟩:=z;exact⟨c,n,pre _ _ z,r⟩
 ·obtain⟨ps,e,t⟩:=m.tabs q hq;exact⟨ps,pre _ _ e,t⟩
theorem Ex.grow (m:Mz β M H) {p:ap}(hp:p∈β.tb) {ps:Array am}(t:TR ps.toList):Ex β M H M (upd H p (.cA ps)) :=by
 obtain⟨QD,NB,t0⟩:=m.tabs p hp;have pre:∀b u,H b=some u->AF u=true->upd H p (.cA ps) b=some u:=fun b u q n=>by
  have:b≠p:=fun z=>by subst z;rw[NB]at q;cases q;cases n
  rw[ak this];exact q
 have rz:∀{v:V} {d:Dv},Rz β M H v d->Rz β M (upd H p (.cA ps)) v d:=fun r=>by
  induction r with
  |int i=>exact .int i
  |bl b=>exact .bl b
  |ai=>exact .ai
  |str z=>exact .str z
  |tup m e hl h ih=>exact .tup m (pre _ _ e rfl) hl ih
  |lst m e hl h ih=>exact .lst m (pre _ _ e rfl) hl ih
  |dk m e hk hl h ih=>exact .dk m (e.Js rfl fun x hx h=>pre _ _ h hx) hk hl ih
  |dt m e hk hl h ih=>exact .dt m (e.Js rfl fun x hx h=>pre _ _ h hx) hk hl ih
  |c9 m e m2 e2 hl h ih=>exact .c9 m (pre _ _ e rfl) m2 (pre _ _ e2 rfl) hl ih
  |set m e=>exact .set m (pre _ _ e rfl)
  |ptr m=>exact .ptr m
  |exc m e=>exact .exc m (pre _ _ e rfl)
  |bo m e=>exact .bo m (pre _ _ e rfl)
  |cK m e=>exact .cK m (pre _ _ e rfl)
  |cL e=>exact .cL e
  |raw v=>exact .raw v
 refine⟨⟨fun b u _ q=>?_,fun _ h=>h,fun _ _ h _=>h⟩,fun a u e=>?_,fun q hq=>?_,fun a ha=>(m.hids a ha).upd (.inr rfl),m.apart,fun q hq=>(m.lams q hq).keep (fun _ e=>pre _ _ e rfl) fun _ _ _ e=>pre _ _ e rfl⟩
 ·by_cases e:b=p
  ·subst e;rw[NB]at q;cases q;exact .inr ⟨_,.inl ⟨QD,ps,rfl,rfl,t⟩,aE⟩
  ·exact .inl (by rw[ak e];exact q)
 ·have z:=m.obj a u e;cases u with
  |lst ds=>obtain⟨vs,z,l,r⟩:=z;exact⟨vs,pre _ _ z rfl,l,fun i v d a b=>rz (r i v d a b)⟩
  |dk ks ds=>obtain⟨vs,z,hk,l,r⟩:=z;exact⟨vs,pre _ _ z rfl,hk,l,fun i v d a b=>rz (r i v d a b)⟩
  |dt ks ds=>obtain⟨vs,z,hk,l,r⟩:=z;exact⟨vs,pre _ _ z rfl,hk,l,fun i v d a b=>rz (r i v d a b)⟩
  |ts ks ds=>obtain⟨vs,z,hk,l,r⟩:=z;exact⟨vs,pre _ _ z rfl,hk,l,fun i v d a b=>rz (r i v d a b)⟩
  |dj=>obtain⟨c,n,z,r⟩:=z;exact⟨c,n,pre _ _ z rfl,r⟩
 ·by_cases e:q=p
  ·subst e;exact⟨ps,aE,t⟩
  ·obtain⟨p2,e2,t2⟩:=m.tabs q hq;exact⟨p2,by rw[ak e];exact e2,t2⟩
def aw (M:Mh) (a:ap) (o:Mo):Mh:=fun b=>if b=a then SZ o else M b
theorem updM_same {a:ap}{o:Mo}:aw M a o a=SZ o :=by unfold aw;rw[if_pos rfl]
theorem aj {a b:ap}{o:Mo}(h:b≠a):aw M a o b=M b :=by unfold aw;rw[if_neg h]
theorem updM_updM {a:ap}{o u:Mo}:aw (aw M a o) a u=aw M a u :=by funext b;unfold aw;split<;>rfl
theorem je {p:ap}{o:Mo}{u:HO}(hp:(M p).isSome=true\/H p=none) {v:V}{d:Dv}(h:Rz β M H v d):Rz β (aw M p o) (upd H p u) v d :=by
 have ne:∀a x,M a=none->H a=SZ x->a≠p:=fun a x m e z=>by
  subst z;rcases hp with q|q
  ·rw[m]at q;cases q
  ·rw[q]at e;cases e
 induction h with
 |int i=>exact .int i
 |bl b=>exact .bl b
 |ai=>exact .ai
 |str z=>exact .str z
 |tup m e hl h ih=>have n:=ne _ _ m.1 e;exact .tup ⟨by rw[aj n];exact m.1,m.2⟩ (by rw[ak n];exact e) hl ih
 |lst m e hl h ih=>have n:=ne _ _ m.1 e;exact .lst ⟨by rw[aj n];exact m.1,m.2⟩ (by rw[ak n];exact e) hl ih
 |dk m e hk hl h ih=>have n:=ne _ _ m.1 e.there.choose_spec;exact .dk ⟨by rw[aj n];exact m.1,m.2⟩ (e.map fun _ h=>by rw[ak n];exact h) hk hl ih
 |dt m e hk hl h ih=>have n:=ne _ _ m.1 e.there.choose_spec;exact .dt ⟨by rw[aj n];exact m.1,m.2⟩ (e.map fun _ h=>by rw[ak n];exact h) hk hl ih
 |c9 m e m2 e2 hl h ih=>have n:=ne _ _ m.1 e;have n2:=ne _ _ m2.1 e2;exact .c9 ⟨by rw[aj n];exact m.1,m.2⟩ (by rw[ak n];exact e) ⟨by rw[aj n2];exact m2.1,m2.2⟩ (by rw[ak n2];exact e2) hl ih
 |set m e=>have n:=ne _ _ m.1 e;exact .set ⟨by rw[aj n];exact m.1,m.2⟩ (by rw[ak n];exact e)
 |ptr m=>
  refine .ptr ?_;unfold aw;split
  ·rfl
  ·exact m
 |exc m e=>have n:=ne _ _ m.1 e;exact .exc ⟨by rw[aj n];exact m.1,m.2⟩ (by rw[ak n];exact e)
 |bo m e=>have n:=ne _ _ m.1 e;exact .bo ⟨by rw[aj n];exact m.1,m.2⟩ (by rw[ak n];exact e)
 |cK m e=>have n:=ne _ _ m.1 e;exact .cK ⟨by rw[aj n];exact m.1,m.2⟩ (by rw[ak n];exact e)
 |cL e=>exact .cL e
 |raw v=>exact .raw v
theorem iC.upd {p:ap}{o':Mo}{u:HO}(hp:(M p).isSome=true\/H p=none) {a:ap}{o:Mo}(ha:a≠p) (z:iC β M H a o):iC β (aw M p o') (L2.upd H p u) a o :=by
 cases o with
 |lst ds=>obtain⟨vs,z,l,r⟩:=z;exact⟨vs,by rw[ak ha];exact z,l,fun i v d a b=>je hp (r i v d a b)⟩
 |dk ks ds=>obtain⟨vs,z,hk,l,r⟩:=z;exact⟨vs,by rw[ak ha];exact z,hk,l,fun i v d a b=>je hp (r i v d a b)⟩
 |dt ks ds=>obtain⟨vs,z,hk,l,r⟩:=z;exact⟨vs,by rw[ak ha];exact z,hk,l,fun i v d a b=>je hp (r i v d a b)⟩
 |ts ks ds=>obtain⟨vs,z,hk,l,r⟩:=z;exact⟨vs,by rw[ak ha];exact z,hk,l,fun i v d a b=>je hp (r i v d a b)⟩
 |dj=>obtain⟨c,n,z,r⟩:=z;exact⟨c,n,by rw[ak ha];exact z,r⟩
theorem Ex.nZ (m:Mz β M H) {p:ap}{u:HO}{o':Mo}(hp:(M p).isSome=true\/H p=none) (hu:nY u=true) (r:iC β (aw M p o') (upd H p u) p o'):Ex β M H (aw M p o') (upd H p u) :=by
 have ne:∀a x,M a=none->H a=SZ x->a≠p:=fun a x m e z=>by
  subst z;rcases hp with q|q
  ·rw[m]at q;cases q
  ·rw[q]at e;cases e
 refine⟨⟨fun b u hm q=>.inl ?_,fun a h=>?_,fun a o hm h=>?_⟩,fun a o e=>?_,fun q hq=>?_,fun a ha=>(m.hids a ha).upd (.inr hu),fun a o e z=>?_,fun q hq=>?_⟩
 ·rw[ak (ne b _ hm q)];exact q
 ·unfold aw;split
  ·rfl
  ·exact h
 ·rw[aj (ne a _ hm h)];exact hm
 ·by_cases ha:a=p
  ·subst ha;rw[updM_same]at e;cases e;exact r
  ·rw[aj ha]at e;exact(m.obj a o e).upd hp ha
 ·obtain⟨ps,e,t⟩:=m.tabs q hq;exact⟨ps,by rw[ak (ne q _ (m.LO hq) e)];exact e,t⟩
 ·by_cases ha:a=p
  ·subst ha;rcases hp with h|h
   ·cases q:M a with
    |none=>rw[q]at h;cases h
    |some u=>exact m.apart a u q z
   ·obtain⟨u,hu,_⟩:=m.hids a z;rw[h]at hu;cases hu
  ·rw[aj ha]at e;exact m.apart a o e z
 ·exact(m.lams q hq).keep (fun _ e=>by rw[ak (ne q.1 _ (m.Jt hq) e)];exact e) fun c _ _ e=>by rw[ak (ne c _ (m.mi e rfl) e)];exact e
theorem Ex.own (m:Mz β M H) {p:ap}{vs:List V}{ds:List Dv}(hp:(M p).isSome=true\/H p=none) (r:aJ β M H vs ds):Ex β M H (aw M p (.lst ds)) (upd H p (.lst vs)):=
 Ex.nZ m hp rfl ⟨vs,aE,r.len,fun i v d a b=>je hp (r.at' i v d a b)⟩
abbrev Bz.add (β:Bz) (D:ap):Bz:={β with hid:=D::β.hid}
theorem Rz.enter {D:ap}{o:HO}(hD:H D=none) {v:V}{d:Dv}(h:Rz β M H v d):Rz (β.add D) M (upd H D o) v d :=by
 have ne:∀a x,Fz β M a->H a=some x->Fz (β.add D) M a:=fun a x m e=>⟨m.1,by
  intro z;rcases li.mp z with z|z
  ·subst z;rw[hD]at e;cases e
  ·exact m.2 z⟩
 have pre:∀a x,H a=some x->upd H D o a=some x:=fun a x e=>by rw[ak (bA e hD)];exact e
 induction h with
 |int i=>exact .int i
 |bl b=>exact .bl b
 |ai=>exact .ai
 |str z=>exact .str z
 |tup m e hl h ih=>exact .tup (ne _ _ m e) (pre _ _ e) hl ih
 |lst m e hl h ih=>exact .lst (ne _ _ m e) (pre _ _ e) hl ih
 |dk m e hk hl h ih=>exact .dk (ne _ _ m e.there.choose_spec) (e.map fun _ h=>pre _ _ h) hk hl ih
 |dt m e hk hl h ih=>exact .dt (ne _ _ m e.there.choose_spec) (e.map fun _ h=>pre _ _ h) hk hl ih
 |c9 m e m2 e2 hl h ih=>exact .c9 (ne _ _ m e) (pre _ _ e) (ne _ _ m2 e2) (pre _ _ e2) hl ih
 |set m e=>exact .set (ne _ _ m e) (pre _ _ e)
 |ptr m=>exact .ptr m
 |exc m e=>exact .exc (ne _ _ m e) (pre _ _ e)
 |bo m e=>exact .bo (ne _ _ m e) (pre _ _ e)
 |cK m e=>exact .cK (ne _ _ m e) (pre _ _ e)
 |cL e=>exact .cL e
 |raw v=>exact .raw v
theorem Rz.sub {cD:Bz}(hP:cD.P=β.P) (hw:cD.w=β.w) (hK:cD.K=β.K) (hs:∀a,a∈cD.hid->a∈β.hid) {v:V}{d:Dv}(h:Rz β M H v d):Rz cD M H v d :=by
 have ne:∀a,Fz β M a->Fz cD M a:=fun a m=>⟨m.1,fun z=>m.2 (hs a z)⟩
 induction h with
 |int i=>exact .int i
 |bl b=>exact .bl b
 |ai=>exact .ai
 |str z=>exact .str z
 |tup m e hl h ih=>exact .tup (ne _ m) e hl ih
 |lst m e hl h ih=>exact .lst (ne _ m) e hl ih
 |dk m e hk hl h ih=>exact .dk (ne _ m) e hk hl ih
 |dt m e hk hl h ih=>exact .dt (ne _ m) e hk hl ih
 |c9 m e m2 e2 hl h ih=>exact .c9 (ne _ m) e (ne _ m2) e2 hl ih
 |set m e=>exact .set (ne _ m) (by rw[hP,hw];exact e)
 |ptr m=>exact .ptr m
 |exc m e=>exact .exc (ne _ m) e
 |bo m e=>exact .bo (ne _ m) e
 |cK m e=>exact .cK (ne _ m) e
 |cL e=>exact .cL (by rw[hK];exact e)
 |raw v=>exact .raw v
theorem Mz.sub {cD:Bz}(hP:cD.P=β.P) (hw:cD.w=β.w) (hK:cD.K=β.K) (ht:cD.tb=β.tb) (hs:∀a,a∈cD.hid->a∈β.hid) (m:Mz β M H):Mz cD M H:=⟨fun a o e=>by
 have z:=m.obj a o e;cases o with
 |lst ds=>obtain⟨vs,z,l,r⟩:=z;exact⟨vs,z,l,fun i v d a b=>(r i v d a b).sub hP hw hK hs⟩
 |dk ks ds=>obtain⟨vs,z,hk,l,r⟩:=z;exact⟨vs,z,hk,l,fun i v d a b=>(r i v d a b).sub hP hw hK hs⟩
 |dt ks ds=>obtain⟨vs,z,hk,l,r⟩:=z;exact⟨vs,z,hk,l,fun i v d a b=>(r i v d a b).sub hP hw hK hs⟩
 |ts ks ds=>obtain⟨vs,z,hk,l,r⟩:=z;exact⟨vs,by rw[hP,hw];exact z,hk,l,fun i v d a b=>(r i v d a b).sub hP hw hK hs⟩
 |dj=>exact z,by rw[ht];exact m.tabs,fun a ha=>m.hids a (hs a ha),fun a o e z=>m.apart a o e (hs a z),by rw[ht];exact m.lams⟩
theorem Mz.enter {D:ap}{o:HO}(hD:H D=none) (ho:nY o=true) (m:Mz β M H):Mz (β.add D) M (upd H D o):=⟨fun a u e=>by
 have pre:∀a x,H a=SZ x->upd H D o a=SZ x:=fun a x e=>by rw[ak (bA e hD)];exact e
 have z:=m.obj a u e;cases u with
 |lst ds=>obtain⟨vs,z,l,r⟩:=z;exact⟨vs,pre _ _ z,l,fun i v d a b=>(r i v d a b).enter hD⟩
 |dk ks ds=>obtain⟨vs,z,hk,l,r⟩:=z;exact⟨vs,pre _ _ z,hk,l,fun i v d a b=>(r i v d a b).enter hD⟩
 |dt ks ds=>obtain⟨vs,z,hk,l,r⟩:=z;exact⟨vs,pre _ _ z,hk,l,fun i v d a b=>(r i v d a b).enter hD⟩
 |ts ks ds=>obtain⟨vs,z,hk,l,r⟩:=z;exact⟨vs,pre _ _ z,hk,l,fun i v d a b=>(r i v d a b).enter hD⟩
 |dj=>obtain⟨c,n,z,r⟩:=z;exact⟨c,n,pre _ _ z,r⟩,fun p hp=>by
 obtain⟨ps,e,t⟩:=m.tabs p hp;exact⟨ps,by rw[ak (bA e hD)];exact e,t⟩,fun a ha=>by
 rcases li.mp ha with z|z
 ·subst z;exact⟨_,aE,ho⟩
 ·exact(m.hids a z).upd (.inl hD),fun a o e ha=>by
 rcases li.mp ha with z|z
 ·subst z;rw[m.free hD]at e;cases e
 ·exact m.apart a o e z,fun q hq=>(m.lams q hq).keep (fun _ e=>by rw[ak (bA e hD)];exact e) fun _ _ _ e=>by rw[ak (bA e hD)];exact e⟩
theorem Rz.over {D:ap}{o:HO}(hD:D∈β.hid) {v:V}{d:Dv}(h:Rz β M H v d):Rz β M (upd H D o) v d :=by
 have pre:∀a x,Fz β M a->H a=some x->upd H D o a=some x:=fun a x m e=>by
  have n:a≠D:=fun z=>by subst z;exact m.2 hD
  rw[ak n];exact e
 induction h with
 |int i=>exact .int i
 |bl b=>exact .bl b
 |ai=>exact .ai
 |str z=>exact .str z
 |tup m e hl h ih=>exact .tup m (pre _ _ m e) hl ih
 |lst m e hl h ih=>exact .lst m (pre _ _ m e) hl ih
 |dk m e hk hl h ih=>exact .dk m (e.map fun _ h=>pre _ _ m h) hk hl ih
 |dt m e hk hl h ih=>exact .dt m (e.map fun _ h=>pre _ _ m h) hk hl ih
 |c9 m e m2 e2 hl h ih=>exact .c9 m (pre _ _ m e) m2 (pre _ _ m2 e2) hl ih
 |set m e=>exact .set m (pre _ _ m e)
 |ptr m=>exact .ptr m
 |exc m e=>exact .exc m (pre _ _ m e)
 |bo m e=>exact .bo m (pre _ _ m e)
 |cK m e=>exact .cK m (pre _ _ m e)
 |cL e=>exact .cL e
 |raw v=>exact .raw v
theorem Mz.over {D:ap}{o:HO}(hD:D∈β.hid) (ho:nY o=true) (hM:M D=none) (ht:D ∉ β.tb) (m:Mz β M H):Mz β M (upd H D o):=⟨fun a u e=>by
 have na:a≠D:=fun z=>by subst z;rw[hM]at e;cases e
 have z:=m.obj a u e;cases u with
 |lst ds=>obtain⟨vs,z,l,r⟩:=z;exact⟨vs,by rw[ak na];exact z,l,fun i v d a b=>(r i v d a b).over hD⟩
 |dk ks ds=>obtain⟨vs,z,hk,l,r⟩:=z;exact⟨vs,by rw[ak na];exact z,hk,l,fun i v d a b=>(r i v d a b).over hD⟩
 |dt ks ds=>obtain⟨vs,z,hk,l,r⟩:=z;exact⟨vs,by rw[ak na];exact z,hk,l,fun i v d a b=>(r i v d a b).over hD⟩
 |ts ks ds=>obtain⟨vs,z,hk,l,r⟩:=z;exact⟨vs,by rw[ak na];exact z,hk,l,fun i v d a b=>(r i v d a b).over hD⟩
 |dj=>obtain⟨c,n,z,r⟩:=z;exact⟨c,n,by rw[ak na];exact z,r⟩,fun p hp=>by
 obtain⟨ps,e,t⟩:=m.tabs p hp;have n:p≠D:=fun z=>by subst z;exact ht hp
 exact⟨ps,by rw[ak n];exact e,t⟩,fun a ha=>(m.hids a ha).upd (.inr ho),m.apart,fun q hq=>by
 obtain⟨o',e',n⟩:=m.hids D hD;exact(m.lams q hq).keep (fun _ e=>by rw[ak (fun z=>by subst z;rw[e']at e;cases e;cases n)];exact e) fun c _ _ e=>by rw[ak (fun z=>by subst z;rw[e']at e;cases e;cases n)];exact e⟩
theorem Ey.over {D:ap}{o:HO}(x:Ey M H M1 H1) (hD:H D=none):Ey M H M1 (upd H1 D o):=⟨fun b u m h=>by
 have nb:b≠D:=bA h hD;rw[ak nb];exact x.keep b u m h,x.dom,x.new⟩
theorem Mz.Pg {D:ap}(m:Mz β M H) (hD:H D=none):D ∉ β.tb:=fun z=>by
 obtain⟨_,e,_⟩:=m.tabs D z;rw[hD]at e;cases e
structure Bx (β cD:Bz) (H:Hp):Prop where
 P:cD.P=β.P
 w:cD.w=β.w
 K:cD.K=β.K
 tb:cD.tb=β.tb
 old:∀a,a∈β.hid->a∈cD.hid
 new:∀a,a∈cD.hid->a∈β.hid\/H a=none
theorem Bx.refl:Bx β β H:=⟨rfl,rfl,rfl,rfl,fun _ h=>h,fun _ h=>.inl h⟩
theorem Bx.add {D:ap}(hD:H D=none):Bx β (β.add D) H:=⟨rfl,rfl,rfl,rfl,fun _ h=>dL _ h,fun a h=>by
 rcases li.mp h with z|z
 ·exact .inr (z▸hD)
 ·exact .inl z⟩
theorem Rz.bx {cD:Bz}(b:Bx β cD H) {v:V}{d:Dv}(h:Rz β M H v d):Rz cD M H v d :=by
 have ne:∀a x,Fz β M a->H a=some x->Fz cD M a:=fun a x m e=>⟨m.1,fun z=>by
  rcases b.new a z with q|q
  ·exact m.2 q
  ·rw[q]at e;cases e⟩
 induction h with
 |int i=>exact .int i
 |bl b=>exact .bl b
 |ai=>exact .ai
 |str z=>exact .str z
 |tup m e hl h ih=>exact .tup (ne _ _ m e) e hl ih
 |lst m e hl h ih=>exact .lst (ne _ _ m e) e hl ih
 |dk m e hk hl h ih=>exact .dk (ne _ _ m e.there.choose_spec) e hk hl ih
 |dt m e hk hl h ih=>exact .dt (ne _ _ m e.there.choose_spec) e hk hl ih
 |c9 m e m2 e2 hl h ih=>exact .c9 (ne _ _ m e) e (ne _ _ m2 e2) e2 hl ih
 |set m e=>exact .set (ne _ _ m e) (by rw[b.P,b.w];exact e)
 |ptr m=>exact .ptr m
 |exc m e=>exact .exc (ne _ _ m e) e
 |bo m e=>exact .bo (ne _ _ m e) e
 |cK m e=>exact .cK (ne _ _ m e) e
 |cL e=>exact .cL (by rw[b.K];exact e)
 |raw v=>exact .raw v
end
inductive Pin (M:Mh):Dv->Prop where
 |int (i:Int):Pin M (.int i)
 |bl (b:Bool):Pin M (.bl b)
 |ai:Pin M .ai
 |str (z:db):Pin M (.str z)
 |tup {ds:List Dv} (h:∀d∈ds,Pin M d):Pin M (.tup ds)
 |lst {ds:List Dv} (h:∀d∈ds,Pin M d):Pin M (.lst ds)
 |set (ns:List Int):Pin M (.set ns)
 |ptr {a:ap} (h:(M a).isSome=true):Pin M (.ptr a)
 |exc (C:ap):Pin M (.exc C)
 |bo (ns:List Int):Pin M (.bo ns)
 |raw (v:V):Pin M (.raw v)
 |dk {ks:List Key} {ds:List Dv} (h:∀d∈ds,Pin M d):Pin M (.dk ks ds)
 |dt {ks:List (List Key)} {ds:List Dv} (h:∀d∈ds,Pin M d):Pin M (.dt ks ds)
 |c9 {f c:ap} {o oc:l8} {vs:List V} {ds:List Dv} (h:∀d∈ds,Pin M d):Pin M (.c9 f o c oc vs ds)
theorem Rz.pin {β:Bz}{M:Mh}{H:Hp}{v:V}{d:Dv}(h:Rz β M H v d):Pin M d :=by
 induction h with
 |int i=>exact .int i
 |bl b=>exact .bl b
 |ai=>exact .ai
 |str z=>exact .str z
 |tup m e hl h ih=>
  refine .tup fun d hd=>?_
  obtain⟨i,hi⟩:=r9.mp hd;have h1:=(br.mp hi).1;exact ih i _ d (ag (by omega)) hi
 |lst m e hl h ih=>
  refine .lst fun d hd=>?_
  obtain⟨i,hi⟩:=r9.mp hd;have h1:=(br.mp hi).1;exact ih i _ d (ag (by omega)) hi
 |dk m e hk hl h ih=>
  refine .dk fun d hd=>?_
  obtain⟨i,hi⟩:=r9.mp hd;have h1:=(br.mp hi).1;exact ih i _ d (ag (by omega)) hi
 |dt m e hk hl h ih=>
  refine .dt fun d hd=>?_
  obtain⟨i,hi⟩:=r9.mp hd;have h1:=(br.mp hi).1;exact ih i _ d (ag (by omega)) hi
 |c9 m e m2 e2 hl h ih=>
  refine .c9 fun d hd=>?_
  obtain⟨i,hi⟩:=r9.mp hd;have h1:=(br.mp hi).1;exact ih i _ d (ag (by omega)) hi
 |set m e=>exact .set _
 |ptr m=>exact .ptr m
 |exc m e=>exact .exc _
 |bo m e=>exact .bo _
 |cK m e=>exact .bo _
 |cL e=>exact .bo _
 |raw v=>exact .raw v
def Mo.items:Mo->List Dv
 | .lst ds=>ds
 | .dk _ ds=>ds
 | .dt _ ds=>ds
 | .ts _ ds=>ds
 | .dj=>[]
def Wf (M:Mh):Prop:=∀b o,M b=some o->∀d∈o.items,Pin M d
theorem iC.QF {β:Bz}{M:Mh}{H:Hp}{a:ap}{o:Mo}(h:iC β M H a o):∃vs,aJ β M H vs o.items :=by
 cases o with
 |lst ds=>obtain⟨vs,_,rs⟩:=h;exact⟨vs,rs⟩
 |dk ks ds=>obtain⟨vs,_,_,rs⟩:=h;exact⟨vs,rs⟩
 |dt ks ds=>obtain⟨vs,_,_,rs⟩:=h;exact⟨vs,rs⟩
 |ts ks ds=>obtain⟨vs,_,_,rs⟩:=h;exact⟨vs,rs⟩
 |dj=>exact⟨[],.nil⟩
theorem Mz.wf {β:Bz}{M:Mh}{H:Hp}(m:Mz β M H):Wf M:=fun b o e d hd=>by
 obtain⟨vs,rs⟩:=(m.obj b _ e).QF;obtain⟨i,hi⟩:=r9.mp hd;obtain⟨v,_,r⟩:=rs.get hi;exact r.pin
abbrev az:=List (Option Dv)
abbrev ZK:=Dv->Mh->Prop
abbrev aM:=az->Mh->ZK->Prop
abbrev dn:=az->Mh->(Bool->Mh->Prop)->Prop
abbrev eW:=az->Mh->(List Dv->Mh->Prop)->Prop
structure fL where
 nx:az->Mh->Prop
 rt:ZK
 bk:az->Mh->Prop:=fun _ _=>False
 ct:az->Mh->Prop:=fun _ _=>False
abbrev cj:=fL->az->Mh->Prop
abbrev cN:=Dv->az->Mh->(az->Mh->Prop)->Prop
abbrev mj:=List Dv->az->Mh->(az->Mh->Prop)->Prop
abbrev gz:=az->Mh->(List Dv->Mh->Prop)->Prop
structure Gz extends Bz where
 M0:Mh
 H0:Hp
structure Zr (Γ:Gz) (β:Bz) (M:Mh) (ρ:az) (σ:St) (H:Hp):Prop where
 eP:β.P=Γ.P
 ew:β.w=Γ.w
 eK:β.K=Γ.K
 et:β.tb=Γ.tb
 sub:∀a,a∈Γ.hid->a∈β.hid
 wf:Wf Γ.M0
 ent:Ey Γ.M0 Γ.H0 M H
 mz:Mz β M H
 len:ρ.length=σ.length
 at':∀(i:Nat) (d:Dv),ρ[i]?=some (some d)->∃v,σ[i]?=some (some v)/\Rz β M H v d
section
variable {Γ:Gz}{β:Bz}{M M':Mh}{ρ:az}{σ:St}{H H':Hp}
theorem Zr.step (z:Zr Γ β M ρ σ H) (x:Ex β M H M' H'):Zr Γ β M' ρ σ H':=⟨z.eP,z.ew,z.eK,z.et,z.sub,z.wf,z.ent.trans x.toEy,x.mz,z.len,fun i d e=>let ⟨v,h,r⟩:=z.at' i d e;⟨v,h,r.ex x⟩⟩
theorem Zr.set (z:Zr Γ β M ρ σ H) (i:Nat) {v:V}{d:Dv}(r:Rz β M H v d):Zr Γ β M (ρ.set i (some d)) (σ.set i (some v)) H:=⟨z.eP,z.ew,z.eK,z.et,z.sub,z.wf,z.ent,z.mz,by simp[z.len],fun j e h=>by
 rw[Vi]at h ⊢;rw[z.len]at h;split at h
 ·rename_i q;rw[if_pos q];split at h
  ·rename_i q2;rw[if_pos q2];cases h;exact⟨v,rfl,r⟩
  ·cases h
 ·rename_i q;rw[if_neg q];exact z.at' j e h⟩
end
def lE (Γ:Gz) (p:aM):TE:=fun σ H Q=>∃(β:Bz) (ρ:az) (M:Mh) (Q':ZK),Zr Γ β M ρ σ H/\p ρ M Q'/\∀d M' v H',Ex β M H M' H'->Rz β M' H' v d->Q' d M'->Q v H'
def lT (Γ:Gz) (p:dn):TT:=fun σ H Q=>∃(β:Bz) (ρ:az) (M:Mh) (Q':Bool->Mh->Prop),Zr Γ β M ρ σ H/\p ρ M Q'/\∀b M' H',Ex β M H M' H'->Q' b M'->Q b H'
def lA (Γ:Gz) (p:eW):TA:=fun σ H Q=>∃(β:Bz) (ρ:az) (M:Mh) (Q':List Dv->Mh->Prop),Zr Γ β M ρ σ H/\p ρ M Q'/\∀ds M' vs H',Ex β M H M' H'->aJ β M' H' vs ds->Q' ds M'->Q vs H'
structure Ev (β:Bz) (M:Mh) (H:Hp) (M':Mh) (H':Hp):Prop where
 keep:∀b o,M b=none->H b=some o->H' b=some o\/∃o',Tg o o'/\H' b=some o'
 new:∀a o,M a=none->H a=some o->M' a=none
 mz:Mz β M' H'
theorem Ex.ev {β:Bz}{M M':Mh}{H H':Hp}(x:Ex β M H M' H'):Ev β M H M' H':=⟨x.keep,x.new,x.mz⟩
theorem Ev.refl {β:Bz}{M:Mh}{H:Hp}(m:Mz β M H):Ev β M H M H:=(Ex.refl m).ev
theorem Ev.trans {β:Bz}{M M1 M2:Mh}{H H1 H2:Hp}(x:Ev β M H M1 H1) (y:Ev β M1 H1 M2 H2):Ev β M H M2 H2 :=by
 refine⟨fun b o hm h=>?_,fun a o hm h=>?_,y.mz⟩
 ·have jC:=x.new b o hm h;rcases x.keep b o hm h with q|⟨o1,t,q⟩
  ·exact y.keep b o jC q
  ·rcases y.keep b _ jC q with q2|⟨o2,t2,q2⟩
   ·exact .inr ⟨o1,t,q2⟩
   ·exact .inr ⟨o2,t.trans t2,q2⟩
 ·have jC:=x.new a o hm h;rcases x.keep a o hm h with q|⟨o1,t,q⟩
  ·exact y.new a _ jC q
  ·exact y.new a _ jC q
structure yq (Γ:Gz) (β:Bz) (M:Mh) (H:Hp) (D':fL) (D:Ends):Prop where
 nx:∀bP M' aG H',Ev β M H M' H'->Zr Γ β M' bP aG H'->D'.nx bP M'->D.nx aG H'
 rt:∀d M' v H',Ev β M H M' H'->Ey Γ.M0 Γ.H0 M' H'->Rz β M' H' v d->D'.rt d M'->D.rt v H'
 bk:∀bP M' aG H',Ev β M H M' H'->Zr Γ β M' bP aG H'->D'.bk bP M'->D.bk aG H'
 ct:∀bP M' aG H',Ev β M H M' H'->Zr Γ β M' bP aG H'->D'.ct bP M'->D.ct aG H'
theorem yq.step {Γ:Gz}{β:Bz}{M M1:Mh}{H H1:Hp}{D':fL}{D:Ends}(r:yq Γ β M H D' D) (x:Ev β M H M1 H1):yq Γ β M1 H1 D' D:=
 ⟨fun a b c d y=>r.nx a b c d (x.trans y),fun a b c d y=>r.rt a b c d (x.trans y),fun a b c d y=>r.bk a b c d (x.trans y),fun a b c d y=>r.ct a b c d (x.trans y)⟩
def lS (Γ:Gz) (p:cj):TS:=fun D σ H=>∃(β:Bz) (ρ:az) (M:Mh) (D':fL),Zr Γ β M ρ σ H/\p D' ρ M/\yq Γ β M H D' D
def lG (Γ:Gz) (p:cN):TG:=fun x σ H N=>∃(β:Bz) (d:Dv) (ρ:az) (M:Mh) (N':az->Mh->Prop),Zr Γ β M ρ σ H/\Rz β M H x d/\p d ρ M N'/\∀bP M' aG H',Ex β M H M' H'->Zr Γ β M' bP aG H'->N' bP M'->N aG H'
def QH (Γ:Gz) (p:mj):oJ:=fun xs σ H N=>∃(β:Bz) (ds:List Dv) (ρ:az) (M:Mh) (N':az->Mh->Prop),Zr Γ β M ρ σ H/\aJ β M H xs ds/\p ds ρ M N'/\∀bP M' aG H',Ex β M H M' H'->Zr Γ β M' bP aG H'->N' bP M'->N aG H'
def AJ (β:Bz) (J:It) (ds:List Dv) (M:Mh) (H:Hp):Prop:=∀cD M' H',Bx β cD H->Ey M H M' H'->Mz cD M' H'->∀i,(i<ds.length->J.go i H'/\∀x lb,J.yld i H' x lb->Ex cD M' H' M' lb/\∃d,ds[i]?=some d/\Rz cD M' lb x d)/\(ds.length<=i->J.stop i H')
def lI (Γ:Gz) (p:gz):TI:=fun σ H R=>∃(β:Bz) (ρ:az) (M:Mh) (R':List Dv->Mh->Prop),Zr Γ β M ρ σ H/\p ρ M R'/\∀ds M' H' J,Ex β M H M' H'->AJ β J ds M' H'->R' ds M'->R J H'
abbrev QE (Γ:Gz) (X:Cx) (e:gl) (p:aM):Prop:=PE X e (lE Γ p)
abbrev QT (Γ:Gz) (X:Cx) (e:gl) (p:dn):Prop:=PT X e (lT Γ p)
abbrev QW (Γ:Gz) (X:Cx) (e:gl) (p:dn):Prop:=PW X e (lT Γ p)
abbrev QA (Γ:Gz) (X:Cx) (es:List gl) (p:eW):Prop:=PA X es (lA Γ p)
abbrev QS (Γ:Gz) (X:Cx) (s:wp) (p:cj):Prop:=PS X s (lS Γ p)
abbrev mn (Γ:Gz) (X:Cx) (s:List wp) (p:cj):Prop:=fZ X s (lS Γ p)
abbrev QG (Γ:Gz) (X:Cx) (e:gl) (p:cN):Prop:=PG X e (lG Γ p)
abbrev Es (Γ:Gz) (X:Cx) (e:List gl) (p:mj):Prop:=qP X e (QH Γ p)
abbrev QI (Γ:Gz) (X:Cx) (tg e:gl) (p:gz):Prop:=PI X tg e (lI Γ p)
section
variable {X:Cx}
theorem PE.imp {e:gl}{t t':TE}(h:PE X e t) (i:∀σ H Q,t' σ H Q->t σ H Q):PE X e t':=⟨fun pins s σ H Q I q=>h pins s σ H Q I (i _ _ _ q)⟩
theorem PT.imp {e:gl}{t t':TT}(h:PT X e t) (i:∀σ H Q,t' σ H Q->t σ H Q):PT X e t':=⟨fun pins s σ H Q I q=>h pins s σ H Q I (i _ _ _ q)⟩
theorem PW.imp {e:gl}{t t':TT}(h:PW X e t) (i:∀σ H Q,t' σ H Q->t σ H Q):PW X e t':=fun wh pins s σ H Q I q=>h wh pins s σ H Q I (i _ _ _ q)
theorem PA.imp {e:List gl}{t t':TA}(h:PA X e t) (i:∀σ H Q,t' σ H Q->t σ H Q):PA X e t':=⟨fun pos pins s σ H Q I q=>h pos pins s σ H Q I (i _ _ _ q)⟩
theorem PS.imp {e:wp}{t t':TS}(h:PS X e t) (i:∀D σ H,t' D σ H->t D σ H):PS X e t':=⟨fun pins s σ H D I q=>h pins s σ H D I (i _ _ _ q)⟩
theorem fZ.imp {e:List wp}{t t':TS}(h:fZ X e t) (i:∀D σ H,t' D σ H->t D σ H):fZ X e t':=⟨fun pins s σ H D I q=>h pins s σ H D I (i _ _ _ q)⟩
theorem PG.imp {e:gl}{t t':TG}(h:PG X e t) (i:∀v σ H Q,t' v σ H Q->t v σ H Q):PG X e t':=fun pins s σ H v u Q I r q=>h pins s σ H v u Q I r (i _ _ _ _ q)
theorem qP.imp {e:List gl}{t t':oJ}(h:qP X e t) (i:∀v σ H Q,t' v σ H Q->t v σ H Q):qP X e t':=fun pins s σ H v u Q I r q=>h pins s σ H v u Q I r (i _ _ _ _ q)
theorem PI.imp {tg e:gl}{t t':TI}(h:PI X tg e t) (i:∀σ H Q,t' σ H Q->t σ H Q):PI X tg e t':=fun pins s σ H Q I q=>h pins s σ H Q I (i _ _ _ q)
theorem jT.imp {e:List gl}{t t':TT}(h:jT X e t) (i:∀σ H Q,t' σ H Q->t σ H Q):jT X e t':=fun pins s σ H Q I q=>h pins s σ H Q I (i _ _ _ q)
variable {Γ:Gz}{a b c:gl}{pa pb pc:aM}{pos:ze}
def zVar (i:Nat):aM:=fun ρ M Q=>match ρ[i]? with|some (some d)=>Q d M|_=>False
def zC (d:Dv):aM:=fun _ M Q=>Q d M
theorem Ju {i:Nat}{x:db}(hN:X.N[i]?=some x) (hv:sP X.env.scope x) (hd:(x==("__debug__" : db))=false :=by decide) (hZ:(x==("__classdict__" : db))=false :=by decide):QE Γ X (.Name x pos) (zVar i):=
 (Ha hN hv hd hZ).imp fun σ H Q ⟨β,ρ,M,Q',z,h,q⟩=>by
  unfold zVar at h;split at h
  ·rename_i d e;obtain⟨v,e2,r⟩:=z.at' i d e;exact⟨v,e2,q d M v H (.refl z.mz) r h⟩
  ·exact h.elim
theorem qc {e:gl}{v:V}{d:Dv}(h:PE X e (tC v)) (r:∀β M H,Rz β M H v d):QE Γ X e (zC d):=h.imp fun σ H Q ⟨β,ρ,M,Q',z,h,q⟩=>q d M v H (.refl z.mz) (r β M H) h
theorem aq {i j pos}:QE Γ X (.Constant (.int i) j pos) (zC (.int i)):=qc Hb fun _ _ _=>.int _
theorem g7 {b j pos}:QE Γ X (.Constant (.bool b) j pos) (zC (.bl b)):=qc K6 fun _ _ _=>.bl _
theorem AK {x j pos}:QE Γ X (.Constant (.str x) j pos) (zC (.str x)):=qc Hc fun _ _ _=>.str _
theorem C4 {x:db}{i:Int}{u:am}(hg:Gl X x) (hm:X.mg x=some u) (r:RelV (.int i) u) (hd:(x==("__debug__" : db))=false :=by decide):QE Γ X (.Name x pos) (zC (.int i)):=qc (E6 hg hm r hd) fun _ _ _=>.int _
theorem jZ {x:db}{v:V}{u:am}(hg:Gl X x) (hm:X.mg x=none) (hv:bootBuiltins x=some u) (r:RelV v u) (hn:x ≠ "__name__" := by decide) (hd:(x==("__debug__" : db))=false :=by decide):QE Γ X (.Name x pos) (zC (.raw v)):=qc (E7 hg hm hv r hn hd) fun _ _ _=>.raw _
abbrev dM:=Dv->Dv->Mh->ZK->Prop
def rG (Γ:Gz) (r:R2) (z:dM):Prop:=∀(β:Bz) x y d e M H Q Q',β.P=Γ.P->β.w=Γ.w->β.K=Γ.K->Mz β M H->Rz β M H x d->Rz β M H y e->z d e M Q'->(∀d' M' v H',Ex β M H M' H'->Rz β M' H' v d'->Q' d' M'->Q v H')->r x y H Q
def ef (Γ:Gz) (X:Cx) (f:am->am->TH am) (z:dM):Prop:=∃r,OpR X f r/\rG Γ r z
def zOp (z:dM) (pa pb:aM):aM:=fun ρ M Q=>pa ρ M fun d M1=>pb ρ M1 fun e M2=>z d e M2 Q
theorem yr {r:R2}{z:dM}(hz:rG Γ r z) {σ:St}{H:Hp}{Q:VK}(h:lE Γ (zOp z pa pb) σ H Q):zt r (lE Γ pa) (lE Γ pb) σ H Q :=by
 obtain⟨β,ρ,M,Q',zr,h,q⟩:=h;exact⟨β,ρ,M,_,zr,h,fun d M1 v H1 x1 r1 h1=>⟨β,ρ,M1,_,zr.step x1,h1,fun e M2 u H2 x2 r2 h2=>hz β v u d e M2 H2 Q Q' zr.eP zr.ew zr.eK x2.mz (r1.ex x2) r2 h2 fun d' M' v' H' x3 r3 q3=>q _ _ _ _ (x1.trans (x2.trans x3)) r3 q3⟩⟩
theorem aN {op:Operator}{z:dM}(ho:ef Γ X (binaryOp op) z) (ha:QE Γ X a pa) (hb:QE Γ X b pb):QE Γ X (.BinOp a op b pos) (zOp z pa pb) :=by
 obtain⟨r,h1,h2⟩:=ho;exact(Lf h1 ha hb).imp fun σ H Q h=>yr h2 h
theorem qo {op:Th}{z:dM}(ho:ef Γ X (compareOp op) z) (ha:QE Γ X a pa) (hb:QE Γ X b pb) (hm:behindInMarks op b=false):QE Γ X (.Compare a [op] [b] pos) (zOp z pa pb) :=by
 obtain⟨r,h1,h2⟩:=ho;exact(Fh h1 ha hb hm).imp fun σ H Q h=>yr h2 h
def zBool (Q:Bool->Mh->Prop):ZK:=fun d M=>match d with | .bl k=>Q k M|_=>False
theorem gP {Q:Bool->Mh->Prop}{d:Dv}{M:Mh}(h:zBool Q d M):∃k,d=.bl k/\Q k M :=by
 unfold zBool at h;split at h
 ·exact⟨_,rfl,h⟩
 ·exact h.elim
def zTest (p:aM):dn:=fun ρ M Q=>p ρ M (zBool Q)
theorem uq {p:aM}{t:TE}(i:∀σ H Q,lE Γ p σ H Q->t σ H Q) {σ:St}{H:Hp}{Q:Bool->Hp->Prop}(h:lT Γ (zTest p) σ H Q):xA t σ H Q :=by
 obtain⟨β,ρ,M,Q',zr,h,q⟩:=h;refine i _ _ _ ⟨β,ρ,M,_,zr,h,fun d M1 v H1 x1 r1 h1=>?_⟩
 obtain⟨k,rfl,h2⟩:=gP h1;exact⟨k,cM r1,q k M1 H1 x1 h2⟩
theorem bL {op:Th}{z:dM}(ho:ef Γ X (compareOp op) z) (ha:QE Γ X a pa) (hb:QE Γ X b pb) (hm:behindInMarks op b=false):QT Γ X (.Compare a [op] [b] pos) (zTest (zOp z pa pb)) :=by
 obtain⟨r,h1,h2⟩:=ho;exact(Fi h1 ha hb hm).imp fun σ H Q h=>uq (fun _ _ _=>yr h2) h
theorem jf {e:gl}{p:aM}(h:QE Γ X e p) (he:∀whole,isTrue e X.env whole=(do let v <- whole;standAt e.pos;holding [v] (truthy v)) :=by intro _;rfl):QT Γ X e (zTest p):=
 (Hd h he).imp fun σ H Q h=>uq (fun _ _ _ h=>h) h
def zChain (z z':dM) (pa pb pc:aM):aM:=fun ρ M Q=>pa ρ M fun x M1=>pb ρ M1 fun y M2=>z x y M2 (zBool fun k M3=>if k=true then pc ρ M3 fun u M4=>z' y u M4 Q else Q (.bl false) M3)
theorem wL {r r':R2}{z z':dM}(hz:rG Γ r z) (QJ:rG Γ r' z') {σ:St}{H:Hp}{Q:VK}(h:lE Γ (zChain z z' pa pb pc) σ H Q):sY r r' (lE Γ pa) (lE Γ pb) (lE Γ pc) σ H Q :=by
 obtain⟨β,ρ,M,Q',zr,h,q⟩:=h;refine⟨β,ρ,M,_,zr,h,fun d M1 v H1 x1 r1 h1=>⟨β,ρ,M1,_,zr.step x1,h1,fun e M2 u H2 x2 r2 h2=>hz β v u d e M2 H2 _ _ zr.eP zr.ew zr.eK x2.mz (r1.ex x2) r2 h2 fun d' M3 v' H3 x3 r3 h3=>?_⟩⟩
 obtain⟨k,rfl,h4⟩:=gP h3;have Jv:=x1.trans (x2.trans x3);refine⟨k,cM r3,?_⟩;cases k with
 |true=>
  rw[if_pos rfl]at h4 ⊢;exact⟨β,ρ,M3,_,zr.step Jv,h4,fun f M4 g H4 x4 r4 h5=>QJ β u g e f M4 H4 _ _ zr.eP zr.ew zr.eK x4.mz ((r2.ex x3).ex x4) r4 h5 fun d5 M5 v5 H5 x5 r5 q5=>q _ _ _ _ (Jv.trans (x4.trans x5)) r5 q5⟩
 |false=>
  rw[if_neg hX]at h4 ⊢;exact q _ _ _ _ Jv (.bl _) h4
theorem C5 {op iW:Th}{z z':dM}(ho:ef Γ X (compareOp op) z) (eJ:ef Γ X (compareOp iW) z') (ha:QE Γ X a pa) (hb:QE Γ X b pb) (hc:QE Γ X c pc) (hm:lastMarks [op,iW] [b,c]=false :=by with_unfolding_all rfl) :
  QE Γ X (.Compare a [op,iW] [b,c] pos) (zChain z z' pa pb pc) :=by
 obtain⟨r,h1,h2⟩:=ho;obtain⟨r',Jw,Jx⟩:=eJ;exact(Ce h1 Jw ha hb hc hm).imp fun σ H Q h=>wL h2 Jx h
theorem C6 {op iW:Th}{z z':dM}(ho:ef Γ X (compareOp op) z) (eJ:ef Γ X (compareOp iW) z') (ha:QE Γ X a pa) (hb:QE Γ X b pb) (hc:QE Γ X c pc) (hm:lastMarks [op,iW] [b,c]=false :=by with_unfolding_all rfl) :
  QT Γ X (.Compare a [op,iW] [b,c] pos) (zTest (zChain z z' pa pb pc)) :=by
 obtain⟨r,h1,h2⟩:=ho;obtain⟨r',Jw,Jx⟩:=eJ;exact(Cg h1 Jw ha hb hc hm).imp fun σ H Q h=>uq (fun _ _ _=>wL h2 Jx) h
variable {tA oI:dn}{rest:List gl}
def zAnd (t u:dn):dn:=fun ρ M Q=>t ρ M fun c M1=>if c=true then u ρ M1 Q else Q false M1
def zOr (t u:dn):dn:=fun ρ M Q=>t ρ M fun c M1=>if c=true then Q true M1 else u ρ M1 Q
def zNot (t:dn):dn:=fun ρ M Q=>t ρ M fun c M1=>Q (!c) M1
theorem FW (ha:QT Γ X a tA):QW Γ X (.BoolOp .And [a] pos) tA:=E8 ha
theorem mq (ha:QT Γ X a tA):QW Γ X (.BoolOp .Or [a] pos) tA:=He ha
theorem Jy (ha:QT Γ X a tA) (hb:QW Γ X (.BoolOp .And (b::rest) pos) oI):QW Γ X (.BoolOp .And (a::b::rest) pos) (zAnd tA oI):=
 (Hf ha hb).imp fun σ H Q ⟨β,ρ,M,Q',zr,h,q⟩=>⟨β,ρ,M,_,zr,h,fun k M1 H1 x1 h1=>by
  cases k with
  |true=>rw[if_pos rfl]at h1 ⊢;exact⟨β,ρ,M1,_,zr.step x1,h1,fun k2 M2 H2 x2 h2=>q _ _ _ (x1.trans x2) h2⟩
  |false=>rw[if_neg hX]at h1 ⊢;exact q _ _ _ x1 h1⟩
theorem pA (ha:QT Γ X a tA) (hb:QW Γ X (.BoolOp .Or (b::rest) pos) oI):QW Γ X (.BoolOp .Or (a::b::rest) pos) (zOr tA oI):=
 (K7 ha hb).imp fun σ H Q ⟨β,ρ,M,Q',zr,h,q⟩=>⟨β,ρ,M,_,zr,h,fun k M1 H1 x1 h1=>by
  cases k with
  |false=>rw[if_neg hX]at h1 ⊢;exact⟨β,ρ,M1,_,zr.step x1,h1,fun k2 M2 H2 x2 h2=>q _ _ _ (x1.trans x2) h2⟩
  |true=>rw[if_pos rfl]at h1 ⊢;exact q _ _ _ x1 h1⟩
theorem jg (ha:QT Γ X a tA):QT Γ X (.UnaryOp .Not a pos) (zNot tA):=(Hg ha).imp fun σ H Q ⟨β,ρ,M,Q',zr,h,q⟩=>⟨β,ρ,M,_,zr,h,fun k M1 H1 x1 h1=>q _ _ _ x1 h1⟩
theorem QW.pt {e:gl}{t:dn}(h:QW Γ X e t):QT Γ X e t:=PW.pt h
def zAndV (pa pb:aM):aM:=fun ρ M Q=>pa ρ M (zBool fun c M1=>if c=true then pb ρ M1 Q else Q (.bl false) M1)
def zOrV (pa pb:aM):aM:=fun ρ M Q=>pa ρ M (zBool fun c M1=>if c=true then Q (.bl true) M1 else pb ρ M1 Q)
def zNotV (pa:aM):aM:=fun ρ M Q=>pa ρ M (zBool fun c M1=>Q (.bl (!c)) M1)
theorem ur {op}(h:QE Γ X a pa):QE Γ X (.BoolOp op [a] pos) pa:=Hh h
theorem AO (ha:QE Γ X a pa) (hb:QE Γ X (.BoolOp .And (b::rest) pos) pb):QE Γ X (.BoolOp .And (a::b::rest) pos) (zAndV pa pb):=
 (Hi ha hb).imp fun σ H Q ⟨β,ρ,M,Q',zr,h,q⟩=>⟨β,ρ,M,_,zr,h,fun d M1 v H1 x1 r1 h1=>by
  obtain⟨k,rfl,h2⟩:=gP h1;refine⟨k,cM r1,?_⟩;cases k with
  |true=>rw[if_pos rfl]at h2 ⊢;exact⟨β,ρ,M1,_,zr.step x1,h2,fun d2 M2 v2 H2 x2 r2 h2=>q _ _ _ _ (x1.trans x2) r2 h2⟩
  |false=>rw[if_neg hX]at h2 ⊢;exact q _ _ _ _ x1 (.bl _) h2⟩
theorem LQ (ha:QE Γ X a pa) (hb:QE Γ X (.BoolOp .Or (b::rest) pos) pb):QE Γ X (.BoolOp .Or (a::b::rest) pos) (zOrV pa pb):=
 (La ha hb).imp fun σ H Q ⟨β,ρ,M,Q',zr,h,q⟩=>⟨β,ρ,M,_,zr,h,fun d M1 v H1 x1 r1 h1=>by
  obtain⟨k,rfl,h2⟩:=gP h1;refine⟨k,cM r1,?_⟩;cases k with
  |false=>rw[if_neg hX]at h2 ⊢;exact⟨β,ρ,M1,_,zr.step x1,h2,fun d2 M2 v2 H2 x2 r2 h2=>q _ _ _ _ (x1.trans x2) r2 h2⟩
  |true=>rw[if_pos rfl]at h2 ⊢;exact q _ _ _ _ x1 (.bl _) h2⟩
theorem Jz (ha:QE Γ X a pa):QE Γ X (.UnaryOp .Not a pos) (zNotV pa):=(Hj ha).imp fun σ H Q ⟨β,ρ,M,Q',zr,h,q⟩=>⟨β,ρ,M,_,zr,h,fun d M1 v H1 x1 r1 h1=>by
  obtain⟨k,rfl,h2⟩:=gP h1;exact⟨k,cM r1,q _ _ _ _ x1 (.bl _) h2⟩⟩
def zNil:eW:=fun _ M Q=>Q [] M
def zCons (p:aM) (r:eW):eW:=fun ρ M Q=>p ρ M fun d M1=>r ρ M1 fun ds M2=>Q (d::ds) M2
variable {es:List gl}{za:eW}
theorem ae:QA Γ X [] zNil:=HJ.imp fun σ H Q ⟨β,ρ,M,Q',zr,h,q⟩=>q [] M [] H (.refl zr.mz) .nil h
theorem aa {e:gl}(ha:QE Γ X e pa) (hr:QA Γ X es za) (hs:starEach (e::es) X.env=(false,eval e X.env)::starEach es X.env :=by rfl):QA Γ X (e::es) (zCons pa za):=
 (Fl ha hr hs).imp fun σ H Q ⟨β,ρ,M,Q',zr,h,q⟩=>⟨β,ρ,M,_,zr,h,fun d M1 v H1 x1 r1 h1=>⟨β,ρ,M1,_,zr.step x1,h1,fun ds M2 vs H2 x2 r2 h2=>q _ _ _ _ (x1.trans x2) (.cons (r1.ex x2) r2) h2⟩⟩
def zTup (p:eW):aM:=fun ρ M Q=>p ρ M fun ds M1=>ds.length<=sizeLine/\Q (.tup ds) M1
def zLst (p:eW):aM:=fun ρ M Q=>p ρ M fun ds M1=>ds.length<=sizeLine/\Q (.lst ds) M1
def zLstP (p:eW):aM:=fun ρ M Q=>p ρ M fun ds M1=>ds.length<=sizeLine/\∀a,M1 a=none->Q (.ptr a) (aw M1 a (.lst ds))
theorem il {x1}(h:QA Γ X es za):QE Γ X (.Tuple es x1 pos) (zTup za):=(HK h).imp fun σ H Q ⟨β,ρ,M,Q',zr,h,q⟩=>⟨β,ρ,M,_,zr,h,fun ds M1 vs H1 x1 r1 h1=>⟨by rw[r1.len];exact h1.1,fun p hp=>by
  have x2:=Ex.lay x1.mz hp (.tup vs);exact q _ _ _ _ (x1.trans x2) (d9 (x1.mz.fz hp) aE (r1.ex x2)) h1.2⟩⟩
theorem j1 (h:QA Γ X es za):QE Γ X (.List es pos) (zLst za):=(zF h).imp fun σ H Q ⟨β,ρ,M,Q',zr,h,q⟩=>⟨β,ρ,M,_,zr,h,fun ds M1 vs H1 x1 r1 h1=>⟨by rw[r1.len];exact h1.1,fun p hp=>by
  have x2:=Ex.lay x1.mz hp (.lst vs);exact q _ _ _ _ (x1.trans x2) (pz (x1.mz.fz hp) aE (r1.ex x2)) h1.2⟩⟩
theorem gQ (h:QA Γ X es za):QE Γ X (.List es pos) (zLstP za):=(zF h).imp fun σ H Q ⟨β,ρ,M,Q',zr,h,q⟩=>⟨β,ρ,M,_,zr,h,fun ds M1 vs H1 x1 r1 h1=>⟨by rw[r1.len];exact h1.1,fun p hp=>by
  have x2:=Ex.own x1.mz (.inr hp) r1;exact q _ _ _ _ (x1.trans x2) (.ptr (by rw[updM_same];rfl)) (h1.2 p (x1.mz.free hp))⟩⟩
abbrev pB:=List Dv->Mh->ZK->Prop
def Et (Γ:Gz) (r:List V->Hp->VK->Prop) (z:pB):Prop:=∀(β:Bz) xs ds M H Q Q',β.P=Γ.P->β.w=Γ.w->β.K=Γ.K->Mz β M H->aJ β M H xs ds->z ds M Q'->(∀d' M' v H',Ex β M H M' H'->Rz β M' H' v d'->Q' d' M'->Q v H')->r xs H Q
def eO (Γ:Gz) (X:Cx) (f:am) (z:pB):Prop:=∃r,bV X f r/\Et Γ r z
def zCB (z:pB) (p:eW):aM:=fun ρ M Q=>p ρ M fun ds M1=>z ds M1 Q
theorem JA {r:List V->Hp->VK->Prop}{z:pB}(hz:Et Γ r z) {σ:St}{H:Hp}{Q:VK}(h:lE Γ (zCB z za) σ H Q):Ec r (lA Γ za) σ H Q :=by
 obtain⟨β,ρ,M,Q',zr,h,q⟩:=h;exact⟨β,ρ,M,_,zr,h,fun ds M1 vs H1 x1 r1 h1=>hz β vs ds M1 H1 _ _ zr.eP zr.ew zr.eK x1.mz r1 h1 fun d' M' v' H' x2 r2 q2=>q _ _ _ _ (x1.trans x2) r2 q2⟩
variable {st:wp}{NC:List wp}{p p2:cj}{e:gl}{pe:aM}
def zNext:cj:=fun D ρ M=>D.nx ρ M
def zSeq (p q:cj):cj:=fun D ρ M=>p {D with nx:=q D} ρ M
theorem qss_nil:mn Γ X [] zNext:=E9.imp fun D σ H ⟨β,ρ,M,D',zr,h,r⟩=>r.nx ρ M σ H (.refl zr.mz) zr h
theorem af (h1:QS Γ X st p) (h2:mn Γ X NC p2):mn Γ X (st::NC) (zSeq p p2):=(B5 h1 h2).imp fun D σ H ⟨β,ρ,M,D',zr,h,r⟩=>
 ⟨β,ρ,M,_,zr,h,fun bP M' aG H' x gA h'=>⟨β,bP,M',D',gA,h',r.step x⟩,r.rt,r.bk,r.ct⟩
theorem ao (h1:QS Γ X st p):mn Γ X [st] p:=Fb h1
def zDrop (p:aM):cj:=fun D ρ M=>p ρ M fun _ M1=>D.nx ρ M1
theorem eB (he:QE Γ X e pe) (hs:swapsWith e none pos.line X.env=pure false :=by rfl):QS Γ X (.Expr e pos) (zDrop pe):=(Fc he hs).imp fun D σ H ⟨β,ρ,M,D',zr,h,r⟩=>
 ⟨β,ρ,M,_,zr,h,fun d M1 v H1 x1 r1 h1=>r.nx ρ M1 σ H1 x1.ev (zr.step x1) h1⟩
def zRet (p:aM):cj:=fun D ρ M=>p ρ M D.rt
theorem bb (he:QE Γ X e pe):QS Γ X (.Return (some e) pos) (zRet pe):=(Hk he).imp fun D σ H ⟨β,ρ,M,D',zr,h,r⟩=>⟨β,ρ,M,_,zr,h,fun d M' v H' x r1 h1=>r.rt _ _ _ _ x.ev (zr.ent.trans x.toEy) r1 h1⟩
def zIfS (c:dn) (p q:cj):cj:=fun D ρ M=>c ρ M fun b M1=>if b=true then p D ρ M1 else q D ρ M1
theorem dg {as bs:List wp}{pa pb:cj}(hc:QT Γ X c tA) (ha:mn Γ X as pa) (hb:mn Γ X bs pb):QS Γ X (.If c as bs pos) (zIfS tA pa pb):=(Ld hc ha hb).imp fun D σ H ⟨β,ρ,M,D',zr,h,r⟩=>
 ⟨β,ρ,M,_,zr,h,fun k M1 H1 x1 h1=>by
  cases k with
  |true=>rw[if_pos rfl]at h1 ⊢;exact⟨β,ρ,M1,D',zr.step x1,h1,r.step x1.ev⟩
  |false=>rw[if_neg hX]at h1 ⊢;exact⟨β,ρ,M1,D',zr.step x1,h1,r.step x1.ev⟩⟩
def zgName (i:Nat):cN:=fun d ρ M N=>N (ρ.set i (some d)) M
theorem aH {i:Nat}{x:db}(hN:X.N.Nodup) (hi:X.N[i]?=some x) (hx:Loc X.env.scope x) (hf:X.fn x=true\/X.env.scope.names.lookup x=some .local :=by first|exact .inl rfl|exact .inr rfl|assumption):QG Γ X (.Name x pos) (zgName i):=
 (Fd hN hi hx hf).imp fun v σ H N ⟨β,d,ρ,M,N',zr,r,h,q⟩=>q _ _ _ _ (.refl zr.mz) (zr.set i r) h
def zgNil:mj:=fun ds ρ M N=>match ds with | []=>N ρ M|_=>False
def zgCons (g:cN) (u:mj):mj:=fun ds ρ M N=>match ds with|d::r=>g d ρ M fun bP M'=>u r bP M' N | []=>False
theorem wM:Es Γ X [] zgNil:=Fe.imp fun vs σ H N ⟨β,ds,ρ,M,N',zr,r,h,q⟩=>by
 unfold zgNil at h;split at h
 ·have e:vs=[]:=List.length_eq_zero_iff.mp r.len;exact⟨e,q _ _ _ _ (.refl zr.mz) zr h⟩
 ·exact h.elim
theorem ku {g:cN}{u:mj}(h1:QG Γ X e g) (h2:Es Γ X es u) (hs:(assignEach (e::es) X.env).map (·.2)=assign e X.env::(assignEach es X.env).map (·.2) :=by rfl):Es Γ X (e::es) (zgCons g u):=
 (B7 h1 h2 hs).imp fun vs σ H N ⟨β,ds,ρ,M,N',zr,r,h,q⟩=>by
  unfold zgCons at h;split at h
  ·rename_i d rest;cases vs with
   |nil=>exact absurd r.len (by simp)
   |cons v vs=>exact⟨v,vs,rfl,β,d,ρ,M,_,zr,r.head,h,fun bP M' aG H' x gA h'=>⟨β,rest,bP,M',N',gA,r.tail.ex x,h',fun a b c d y=>q a b c d (x.trans y)⟩⟩
  ·exact h.elim
def zgTup (n:Nat) (u:mj):cN:=fun d ρ M N=>match d with | .tup ds=>ds.length=n/\u ds ρ M N|_=>False
theorem AQ {k:Nat}{u:mj}{n:Nat}(hc:X.calm=true) (h:Es Γ X es u) (hn:(assignEach es X.env).length=n :=by rfl) (jO:(assignEach es X.env).findIdx? (·.1)=none :=by rfl):QG Γ X (.Tuple es k pos) (zgTup n u):=
 (Hn hc h hn jO).imp fun v σ H N ⟨β,d,ρ,M,N',zr,r,h,q⟩=>by
  unfold zgTup at h;split at h
  ·obtain⟨a,vs,rfl,m,e,rs⟩:=bg r;exact⟨a,vs,rfl,bC.of e,by rw[rs.len];exact h.1,β,_,ρ,M,N',zr,rs,h.2,q⟩
  ·exact h.elim
def zAsg (p:aM) (g:cN):cj:=fun D ρ M=>p ρ M fun d M1=>g d ρ M1 D.nx
theorem LR {g:cN}{D:Ends}{σ:St}{H:Hp}(h:lS Γ (zAsg pe g) D σ H):sU (lE Γ pe) (lG Γ g) D σ H :=by
 obtain⟨β,ρ,M,D',zr,h,r⟩:=h;exact⟨β,ρ,M,_,zr,h,fun d M1 v H1 x1 r1 h1=>⟨β,d,ρ,M1,D'.nx,zr.step x1,r1,h1,fun bP M' aG H' x gA h'=>r.nx _ _ _ _ (x1.trans x).ev gA h'⟩⟩
theorem j4 {tg:gl}{g:cN}(he:QE Γ X e pe) (hg:QG Γ X tg g) (hs:swapsWithSole [tg] e pos.line X.env=pure false :=by rfl) (hw:swappedStores [tg] e X.env=pure none :=by rfl)
  (h1:(assignEach [tg] X.env).map (·.2)=[assign tg X.env] :=by rfl):QS Γ X (.Assign [tg] e pos) (zAsg pe g):=(Hq he hg hs hw h1).imp fun D σ H h=>LR h
theorem yt {t:TE}(i:∀σ H Q,lE Γ pe σ H Q->t σ H Q) {n:Nat}{D:Ends}{σ:St}{H:Hp}(h:lS Γ (zAsg pe (zgName n)) D σ H):sU t (sv n) D σ H :=by
 obtain⟨β,ρ,M,D',zr,h,r⟩:=h;exact i _ _ _ ⟨β,ρ,M,_,zr,h,fun d M1 v H1 x1 r1 h1=>r.nx _ _ _ _ x1.ev ((zr.step x1).set n r1) h1⟩
theorem aD {i:Nat}{x:db}{pos':ze}(hN:X.N.Nodup) (hi:X.N[i]?=some x) (hx:Loc X.env.scope x) (he:QE Γ X e pe) (hs:swapsWith e (some (.Name x pos')) pos.line X.env=pure false :=by rfl) (hf:X.fn x=true\/X.env.scope.names.lookup x=some .local :=by first|exact .inl rfl|exact .inr rfl|assumption) :
  QS Γ X (.Assign [.Name x pos'] e pos) (zAsg pe (zgName i)):=(Hr hN hi hx he hs hf).imp fun D σ H h=>yt (fun _ _ _ h=>h) h
end
section
variable {X:Cx}{Γ:Gz}{β:Bz}
def ziTup (p:aM):gz:=fun ρ M R=>p ρ M fun d M1=>match d with | .tup ds=>R ds M1|_=>False
def ziLst (p:aM):gz:=fun ρ M R=>p ρ M fun d M1=>match d with | .lst ds=>R ds M1|_=>False
def dw (lo:Int) (n:Nat):List Dv:=(i8 n).map fun i=>.int (lo+(i:Nat))
def ziRng1 (p:eW):gz:=fun ρ M R=>p ρ M fun ds M1=>match ds with | [.int j] => -(2 ^ 62)<=j/\j<2 ^ 62/\R (dw 0 j.toNat) M1|_=>False
theorem ky {J:It}{vs:List V}{ds:List Dv}{M:Mh}{H:Hp}(r:aJ β M H vs ds) (h:∀M' H',Ey M H M' H'->Runs J vs H'):AJ β J ds M H:=fun cD M' H' bx x m i=>by
 have q:=h M' H' x i;rw[<- r.len];refine⟨fun hi=>⟨(q.1 hi).1,fun v lb y=>?_⟩,q.2⟩
 obtain⟨e,hv⟩:=(q.1 hi).2 v lb y;subst e;obtain⟨d,hd,rd⟩:=r.get' hv;exact⟨.refl m,d,hd,(rd.bx bx).ey x⟩
variable {tg l:gl}{p:aM}{pa:eW}{K:bn}
theorem eX (hK:X.K=K) (hl:QE Γ X l p):QI Γ X tg l (ziTup p):=(FD hK hl).imp fun σ H R ⟨β,ρ,M,R',zr,h,q⟩=>⟨β,ρ,M,_,zr,h,fun d M1 v H1 x1 r1 h1=>by
 revert h1
 split
 ·intro h1;obtain⟨a,vs,rfl,m,e,rs⟩:=bg r1;exact⟨a,rfl,⟨_,bC.of e⟩,q _ _ _ _ x1 (ky rs fun M' H' x=>CC (bC.of (x.get m.1 e rfl))) h1⟩
 ·exact fun h=>h.elim⟩
theorem gR (hK:X.K=K) (hl:QE Γ X l p):QI Γ X tg l (ziLst p):=(CD hK hl).imp fun σ H R ⟨β,ρ,M,R',zr,h,q⟩=>⟨β,ρ,M,_,zr,h,fun d M1 v H1 x1 r1 h1=>by
 revert h1
 split
 ·intro h1;obtain⟨a,vs,rfl,m,e,rs⟩:=gh r1;exact⟨a,rfl,⟨_,bG.of e⟩,q _ _ _ _ x1 (ky rs fun M' H' x=>z6 (bG.of (x.get m.1 e rfl))) h1⟩
 ·exact fun h=>h.elim⟩
theorem AR {lo:Int}{n:Nat}{M:Mh}{H:Hp}:aJ β M H ((i8 n).map fun i=>V.int (lo+(i:Nat))) (dw lo n):=⟨by simp[dw],fun i v d a b=>by
 unfold dw at b;rw[cr]at a b;cases e:(i8 n)[i]? with
 |none=>rw[e]at a;cases a
 |some c=>rw[e]at a b;cases a;cases b;exact .int _⟩
theorem b5 {xs:List V}{d:Dv}{M:Mh}{H:Hp}(r:aJ β M H xs [d]):∃v,xs=[v]/\Rz β M H v d :=by
 match xs,r with
 | [v],r=>exact⟨v,rfl,r.head⟩
 | [],r=>exact absurd r.len (by simp)
 |_::_::_,r=>exact absurd r.len (by simp)
theorem mS {xs:List V}{d e:Dv}{M:Mh}{H:Hp}(r:aJ β M H xs [d,e]):∃v u,xs=[v,u]/\Rz β M H v d/\Rz β M H u e :=by
 match xs,r with
 | [v,u],r=>exact⟨v,u,rfl,r.head,r.tail.head⟩
 | [],r=>exact absurd r.len (by simp)
 | [_],r=>exact absurd r.len (by simp)
 |_::_::_::_,r=>exact absurd r.len (by simp)
section
variable {e e1 e2:gl}{pr pos:ze}
theorem JB {σ:St}{H:Hp}{R:It->Hp->Prop}(h:lI Γ (ziRng1 pa) σ H R):D8 (lA Γ pa) σ H R :=by
 obtain⟨β,ρ,M,R',zr,h,q⟩:=h;refine⟨β,ρ,M,_,zr,h,fun ds M1 vs H1 x1 r1 h1=>?_⟩
 revert h1
 split
 ·rintro⟨b1,b2,h1⟩;obtain⟨v,rfl,r⟩:=b5 r1;rw[aC r];exact⟨_,rfl,b1,b2,q _ _ _ _ x1 (ky AR fun M' H' x=>xQ) h1⟩
 ·exact fun h=>h.elim
end
def zLoop (g:cN) (tb:cj) (D:fL):List Dv->az->Mh->Prop
 | [],ρ,M=>D.nx ρ M
 |d::ds,ρ,M=>g d ρ M fun j5 M2=>tb {D with nx:=zLoop g tb D ds,ct:=zLoop g tb D ds,bk:=D.nx} j5 M2
def zFor (zi:gz) (g:cN) (tb:cj):cj:=fun D ρ M=>zi ρ M fun ds M1=>zLoop g tb D ds ρ M1
def zForM (zi:gz) (g:cN) (tb:Mh->cj):cj:=fun D ρ M=>zi ρ M fun ds M1=>zLoop g (tb M1) D ds ρ M1
theorem Zr.root {M:Mh}{ρ:az}{σ:St}{H:Hp}(z:Zr Γ β M ρ σ H):Zr ⟨β,M,H⟩ β M ρ σ H:=⟨rfl,rfl,rfl,rfl,fun _ h=>h,z.mz.wf,.refl,z.mz,z.len,z.at'⟩
theorem Zr.AU {M M1:Mh}{ρ ND:az}{σ oK:St}{H H1:Hp}(z:Zr Γ β M ρ σ H) (y:Zr ⟨β,M,H⟩ β M1 ND oK H1):Zr Γ β M1 ND oK H1:=⟨z.eP,z.ew,z.eK,z.et,z.sub,z.wf,z.ent.trans y.ent,y.mz,y.len,y.at'⟩
theorem LU {zi:gz}{g:cN}{tb:Mh->cj}{t:TS}(hb:∀bt:Gz,bt.P=Γ.P->bt.w=Γ.w->bt.K=Γ.K->bt.tb=Γ.tb->∀D σ H,lS bt (tb bt.M0) D σ H->t D σ H) {tg:TG}(hg:∀bt:Gz,bt.P=Γ.P->bt.w=Γ.w->bt.K=Γ.K->bt.tb=Γ.tb->∀x σ H N,lG bt g x σ H N->tg x σ H N) {D:Ends}{σ:St}{H:Hp}(h:lS Γ (zForM zi g tb) D σ H):Hx (lI Γ zi) tg t D σ H :=by
 obtain⟨β,ρ,M,D',zr,h,r⟩:=h;refine⟨β,ρ,M,_,zr,h,fun ds M1 H1 J x1 it h1=>?_⟩
 have lg:=zr.step x1;refine⟨fun i m aG H'=>m=ds.length - i/\i<=ds.length/\∃bP M',Zr ⟨β,M1,H1⟩ β M' bP aG H'/\zLoop g (tb M1) D' (ds.drop i) bP M',⟨ds.length,rfl,kv _,ρ,M1,lg.root,h1⟩,?_⟩
 rintro i m aG H' ⟨rfl,hi,bP,M',gA,h'⟩;have ev:∀{M2:Mh} {j5:az} {oM:St} {H2:Hp},Zr ⟨β,M1,H1⟩ β M2 j5 oM H2->Ev β M H M2 H2:=fun z=>x1.ev.trans ⟨z.ent.keep,z.ent.new,z.mz⟩
 by_cases aQ:i<ds.length
 ·have q:=(it β M' H' .refl gA.ent gA.mz i).1 aQ;refine .inr ⟨q.1,fun oM H2=>∃j5 M2,Zr ⟨β,M1,H1⟩ β M2 j5 oM H2/\zLoop g (tb M1) D' (ds.drop (i+1)) j5 M2,fun oM H2 ⟨j5,M2,QK,h2⟩=>⟨ds.length - (i+1),by omega,rfl,aQ,j5,M2,QK,h2⟩,fun v lb y=>?_⟩
  obtain⟨x2,d,hd,rd⟩:=q.2 v lb y;have e:ds.drop i=d::ds.drop (i+1) :=by
   rw[LP aQ];rw[ag aQ]at hd;cases hd;rfl
  rw[e]at h';refine hg ⟨β,M1,H1⟩ zr.eP zr.ew zr.eK zr.et _ _ _ _ ⟨β,d,bP,M',_,gA.step x2,rd,h',fun QM M3 k4 H3 x3 QN h3=>hb ⟨β,M1,H1⟩ zr.eP zr.ew zr.eK zr.et _ _ _ ⟨β,QM,M3,_,QN,h3,?_⟩⟩
  exact⟨fun pC M4 AV H4 x4 lh h4=>⟨pC,M4,lh,h4⟩,fun d4 M4 v4 H4 x4 e4 r4 h4=>r.rt _ _ _ _ (x1.ev.trans ⟨e4.keep,e4.new,x4.mz⟩) (lg.ent.trans e4) r4 h4,fun pC M4 AV H4 x4 lh h4=>r.nx _ _ _ _ (ev lh) (lg.AU lh) h4,fun pC M4 AV H4 x4 lh h4=>⟨pC,M4,lh,h4⟩⟩
 ·have e:i=ds.length :=by omega
  subst e;rw[Ul]at h';exact .inl ⟨(it β M' H' .refl gA.ent gA.mz _).2 (bv _),r.nx _ _ _ _ (ev gA) (lg.AU gA) h'⟩
def QO (Γ:Gz) (p:Mh->cj):TS:=fun D σ H=>∃bt:Gz,bt.P=Γ.P/\bt.w=Γ.w/\bt.K=Γ.K/\bt.tb=Γ.tb/\lS bt (p bt.M0) D σ H
def QP (Γ:Gz) (p:cN):TG:=fun x σ H N=>∃bt:Gz,bt.P=Γ.P/\bt.w=Γ.w/\bt.K=Γ.K/\bt.tb=Γ.tb/\lG bt p x σ H N
theorem qp {body:List wp}{iter:gl}{zi:gz}{g:cN}{tb:Mh->cj}{pos:ze}(hp:Vy (model X.prog X.w) X.A X.env X.xe) (hc:X.calm=true) (hi:QI Γ X tg iter zi)
  (Eu:∀(bt:Gz) (M1:Mh),bt.M0=M1->bt.P=Γ.P->bt.w=Γ.w->bt.K=Γ.K->bt.tb=Γ.tb->QG bt X tg g/\mn bt X body (tb M1))
  (hs:∀x,foldedSetIterable iter X.env x=pure x :=by intro _;rfl):QS Γ X (.For tg iter body [] pos) (zForM zi g tb):=
 (Hy (g:=QP Γ g) (tb:=QO Γ tb) hp hc hi (fun pins s σ H v u Q I r h=>by obtain⟨bt,e1,e2,e3,e4,h⟩:=h;exact(Eu bt _ rfl e1 e2 e3 e4).1 pins s σ H v u Q I r h) ⟨fun pins s σ H D I h=>by obtain⟨bt,e1,e2,e3,e4,h⟩:=h;exact(Eu bt _ rfl e1 e2 e3 e4).2 pins s σ H D I h⟩ hs).imp
  fun D σ H h=>LU (fun bt e1 e2 e3 e4 D σ H h=>⟨bt,e1,e2,e3,e4,h⟩) (fun bt e1 e2 e3 e4 x σ H N h=>⟨bt,e1,e2,e3,e4,h⟩) h
theorem bW {body:List wp}{iter:gl}{zi:gz}{g:cN}{tb:cj}{pos:ze}(hp:Vy (model X.prog X.w) X.A X.env X.xe) (hc:X.calm=true) (hi:QI Γ X tg iter zi)
  (Eu:∀bt:Gz,bt.P=Γ.P->bt.w=Γ.w->bt.K=Γ.K->bt.tb=Γ.tb->QG bt X tg g/\mn bt X body tb)
  (hs:∀x,foldedSetIterable iter X.env x=pure x :=by intro _;rfl):QS Γ X (.For tg iter body [] pos) (zFor zi g tb):=qp (tb:=fun _=>tb) hp hc hi (fun bt M1 _ e1 e2 e3 e4=>Eu bt e1 e2 e3 e4) hs
theorem cE {a:gl}{p pos:ze}(hg:Gl X "range") (hm:X.mg "range" = none) (ha:QA Γ X [a] pa) (hs:starEach [a] X.env=[(false,eval a X.env)] :=by rfl):QI Γ X tg (.Call (.Name "range" p) [a] [] pos) (ziRng1 pa):=(zl hg hm ha hs).imp fun σ H R h=>JB h
def AW (c:dn) (tb:cj):cj:=fun D ρ M=>∃W:Nat->az->Mh->Prop,(∃m,W m ρ M)/\∀m ρ M,W m ρ M->
 c ρ M fun b M1=>if b=true then tb {D with nx:=fun bP M'=>∃m',m'<m/\W m' bP M',ct:=fun bP M'=>∃m',m'<m/\W m' bP M',bk:=D.nx} ρ M1 else D.nx ρ M1
theorem FX {c:dn}{tb:cj}{D:Ends}{σ:St}{H:Hp}(h:lS Γ (AW c tb) D σ H):zh (lT Γ c) (lS Γ tb) D σ H :=by
 obtain⟨β,ρ,M,D',zr,⟨W,⟨m0,w0⟩,turn⟩,r⟩:=h;refine⟨fun m aG H'=>∃bP M',Ev β M H M' H'/\Zr Γ β M' bP aG H'/\W m bP M',⟨m0,ρ,M,.refl zr.mz,zr,w0⟩,?_⟩
 rintro m aG H' ⟨bP,M',x',gA,w'⟩;refine⟨β,bP,M',_,gA,turn m bP M' w',fun k M1 H1 x1 h1=>?_⟩
 have AX:=x'.trans x1.ev;cases k with
 |true=>
  dsimp only at h1 ⊢;rw[if_pos rfl]at h1 ⊢;refine⟨fun oM H2=>∃m',m'<m/\∃j5 M2,Ev β M H M2 H2/\Zr Γ β M2 j5 oM H2/\W m' j5 M2,fun oM H2 h2=>h2,β,bP,M1,_,gA.step x1,h1,?_⟩
  exact⟨fun pC M4 AV H4 x4 lh ⟨m',hm,w4⟩=>⟨m',hm,pC,M4,AX.trans x4,lh,w4⟩,fun d4 M4 v4 H4 x4 e4 r4 h4=>r.rt _ _ _ _ (AX.trans x4) e4 r4 h4,fun pC M4 AV H4 x4 lh h4=>r.nx _ _ _ _ (AX.trans x4) lh h4,fun pC M4 AV H4 x4 lh ⟨m',hm,w4⟩=>⟨m',hm,pC,M4,AX.trans x4,lh,w4⟩⟩
 |false=>
  dsimp only at h1 ⊢;rw[if_neg hX]at h1 ⊢;exact r.nx _ _ _ _ AX (gA.step x1) h1
theorem C7 {body:List wp}{c:gl}{zc:dn}{tb:cj}{pos:ze}(hp:Vy (model X.prog X.w) X.A X.env X.xe) (hc:QT Γ X c zc) (hb:mn Γ X body tb):QS Γ X (.While c body [] pos) (AW zc tb):=(B8 hp hc hb).imp fun D σ H h=>FX h
theorem aU {g:cN}{tb:cj}{D:fL}(J:Nat->az->Mh->Prop) {ds:List Dv}{ρ:az}{M:Mh}(h0:J 0 ρ M)
  (hs:∀i d ρ M (N:az->Mh->Prop),ds[i]?=some d->J i ρ M->(∀bP M',J (i+1) bP M'->N bP M')->g d ρ M fun j5 M2=>tb {D with nx:=N,ct:=N,bk:=D.nx} j5 M2)
  (hd:∀ρ M,J ds.length ρ M->D.nx ρ M):zLoop g tb D ds ρ M :=by
 have key:∀(n i:Nat) ρ M,n=ds.length - i->i<=ds.length->J i ρ M->zLoop g tb D (ds.drop i) ρ M :=by
  intro n;induction n with
  |zero=>
   intro i ρ M e hi h;have:i=ds.length :=by omega
   subst this;rw[Ul];exact hd _ _ h
  |succ n ih=>
   intro i ρ M e hi h;have aQ:i<ds.length :=by omega
   rw[LP aQ];exact hs i _ ρ M _ (ag aQ) h fun ρ M h=>ih (i+1) ρ M (by omega) aQ h
 exact key _ 0 ρ M rfl (kv _) h0
end
section
variable {X:Cx}{Γ:Gz}{β:Bz}
def zBlock (tn:Nat) (idx:List Nat) (ρ:az):az:=lv tn none++idx.map fun i=>(ρ[i]?).join
theorem Zr.block {M:Mh}{ρ:az}{σ:St}{H:Hp}(z:Zr Γ β M ρ σ H) (tn:Nat) (idx:List Nat):Zr Γ β M (zBlock tn idx ρ) (cI tn idx σ) H:=⟨z.eP,z.ew,z.eK,z.et,z.sub,z.wf,z.ent,z.mz,by simp[zBlock,cI],fun i d e=>by
 unfold zBlock at e;unfold cI;rw[UK]at e ⊢;rw[S4]at e ⊢;split at e
 ·rw[SJ]at e;split at e<;>cases e
 ·rename_i hi;rw[if_neg hi];rw[cr]at e ⊢;cases q:idx[i - tn]? with
  |none=>rw[q]at e;cases e
  |some j=>
   rw[q]at e;have e2:ρ[j]?=some (some d) :=by
    simp only[AS,No]at e;cases q2:ρ[j]? with
    |none=>rw[q2]at e;cases e
    |some o=>rw[q2]at e;simp only[Tl]at e;rw[e]
   obtain⟨v,hv,r⟩:=z.at' j d e2;exact⟨v,by simp[hv],r⟩⟩
theorem Zr.enter {M:Mh}{ρ:az}{σ:St}{H:Hp}{D:ap}{o:HO}(z:Zr Γ β M ρ σ H) (hD:H D=none) (ho:nY o=true):Zr Γ (β.add D) M ρ σ (upd H D o):=
 ⟨z.eP,z.ew,z.eK,z.et,fun a h=>dL _ (z.sub a h),z.wf,z.ent.over (z.ent.gone hD (by
  cases e:Γ.M0 D with
  |none=>rfl
  |some u=>have:=z.ent.dom D (by rw[e];rfl);rw[z.mz.free hD]at this;cases this)),z.mz.enter hD ho,z.len,fun i d e=>let ⟨v,h,r⟩:=z.at' i d e;⟨v,h,r.enter hD⟩⟩
theorem Zr.over {M:Mh}{ρ:az}{σ:St}{H:Hp}{D:ap}{o:HO}(z:Zr Γ β M ρ σ H) (hD:D∈β.hid) (ho:nY o=true) (hM:M D=none) (ht:D ∉ β.tb) (h0:Γ.H0 D=none):Zr Γ β M ρ σ (upd H D o):=
 ⟨z.eP,z.ew,z.eK,z.et,z.sub,z.wf,z.ent.over h0,z.mz.over hD ho hM ht,z.len,fun i d e=>let ⟨v,h,r⟩:=z.at' i d e;⟨v,h,r.over hD⟩⟩
abbrev wN (Γ:Gz) (X:Cx) (ifs:List gl) (t:dn):Prop:=jT X ifs (lT Γ t)
def zNoIf:dn:=fun _ M Q=>Q true M
theorem fe:wN Γ X [] zNoIf:=Fw.imp fun σ H Q ⟨β,ρ,M,Q',zr,h,q⟩=>q true M H (.refl zr.mz) h
theorem FY {c:gl}{tc:dn}(h:QT Γ X c tc):wN Γ X [c] tc:=Fx h
def fU (g:cN) (tt:dn) (te:aM):List Dv->az->Mh->(List Dv->Mh->Prop)->Prop
 | [],_,M,Q=>Q [] M
 |d::ds,τ,M,Q=>g d τ M fun aA M2=>tt aA M2 fun b M3=>if b=true then te aA M3 fun y M4=>fU g tt te ds aA M4 fun ys M5=>Q (y::ys) M5 else fU g tt te ds aA M3 Q
structure Acc (Γ:Gz) (β:Bz) (D:ap) (M1:Mh) (H1:Hp) (cc:az) (M:Mh) (τ:St) (H:Hp) (acc:List V) (bU:List Dv):Prop where
 ey:Ey M1 H1 M H
 m:M D=none
 zr:Zr Γ (β.add D) M cc τ H
 at':H D=some (.lst acc)
 rs:aJ (β.add D) M H acc bU
 h1:H1 D=none
 h0:Γ.H0 D=none
 nt:D ∉ β.tb
theorem Acc.start {D:ap}{M1:Mh}{H1:Hp}{cc:az}{τ:St}(zr:Zr Γ β M1 cc τ H1) (hD:H1 D=none):Acc Γ β D M1 H1 cc M1 τ (upd H1 D (.lst [])) [] []:=
 ⟨Ey.refl.over hD,zr.mz.free hD,zr.enter hD rfl,aE,.nil,hD,zr.ent.gone hD (by
  cases e:Γ.M0 D with
  |none=>rfl
  |some u=>have:=zr.ent.dom D (by rw[e];rfl);rw[zr.mz.free hD]at this;cases this),zr.mz.Pg hD⟩
section
variable {D:ap}{M1 M M2:Mh}{H1 H H2:Hp}{cc JC:az}{τ aA:St}{acc:List V}{bU:List Dv}
theorem Acc.step (A:Acc Γ β D M1 H1 cc M τ H acc bU) (x:Ex (β.add D) M H M2 H2) (z:Zr Γ (β.add D) M2 JC aA H2):Acc Γ β D M1 H1 JC M2 aA H2 acc bU:=
 ⟨A.ey.trans x.toEy,x.new D _ A.m A.at',z,x.get A.m A.at' rfl,A.rs.ex x,A.h1,A.h0,A.nt⟩
theorem Acc.snoc (A:Acc Γ β D M1 H1 cc M τ H acc bU) {y:V}{d:Dv}(r:Rz (β.add D) M H y d):Acc Γ β D M1 H1 cc M τ (upd H D (.lst (acc++[y]))) (acc++[y]) (bU++[d]) :=by
 have hD:D∈(β.add D).hid:=i1;exact⟨A.ey.over A.h1,A.m,A.zr.over hD rfl A.m A.nt A.h0,aE,⟨by simp[A.rs.len],fun i v d a b=>((A.rs.snoc r).at' i v d a b).over hD⟩,A.h1,A.h0,A.nt⟩
theorem Acc.fz (A:Acc Γ β D M1 H1 cc M τ H acc bU) (m1:Mz β M1 H1):Fz β M D:=⟨A.m,(m1.fz A.h1).2⟩
theorem Acc.mz (A:Acc Γ β D M1 H1 cc M τ H acc bU):Mz β M H:=Mz.sub (β:=β.add D) (cD:=β) rfl rfl rfl rfl (fun a h=>dL _ h) A.zr.mz
theorem Acc.items (A:Acc Γ β D M1 H1 cc M τ H acc bU):aJ β M H acc bU:=⟨A.rs.len,fun i v d a b=>Rz.sub (β:=β.add D) (cD:=β) rfl rfl rfl (fun a h=>dL _ h) (A.rs.at' i v d a b)⟩
theorem Acc.ex (A:Acc Γ β D M1 H1 cc M τ H acc bU):Ex β M1 H1 M H:=⟨A.ey,A.mz⟩
end
def zComp (tn:Nat) (idx:List Nat) (zi:gz) (g:cN) (tt:dn) (te:aM):aM:=fun ρ M Q=>zi ρ M fun ds M1=>ds.length<sizeLine/\fU g tt te ds (zBlock tn idx ρ) M1 fun ys M2=>Q (.lst ys) M2
def zCompP (tn:Nat) (idx:List Nat) (zi:gz) (g:cN) (tt:dn) (te:aM):aM:=fun ρ M Q=>zi ρ M fun ds M1=>ds.length<sizeLine/\fU g tt te ds (zBlock tn idx ρ) M1 fun ys M2=>∀a,M2 a=none->Q (.ptr a) (aw M2 a (.lst ys))
variable {zi:gz}{g:cN}{tt:dn}{te:aM}{tn:Nat}{idx:List Nat}
def mr (Γ:Gz) (β:Bz) (D:ap) (M1:Mh) (H1:Hp) (g:cN) (tt:dn) (te:aM) (ds:List Dv) (Q':List Dv->Mh->Prop) (i m:Nat) (τ:St) (H:Hp):Prop:=
 m=ds.length - i/\i<=ds.length/\∃cc M acc bU,Acc Γ β D M1 H1 cc M τ H acc bU/\acc.length<=i/\fU g tt te (ds.drop i) cc M fun ys M2=>Q' (bU++ys) M2
theorem rH {D:ap}{M1:Mh}{H1:Hp}{ds:List Dv}{Q':List Dv->Mh->Prop}{J:It}(it:AJ β J ds M1 H1) (hlen:ds.length<sizeLine) {i m:Nat}{τ:St}{H:Hp}(w:mr Γ β D M1 H1 g tt te ds Q' i m τ H)
  {C:V->St->Hp->Prop} (hC:∀y aA H4 acc,H4 D=some (.lst acc)->acc.length<sizeLine->(∃m',m'<m/\mr Γ β D M1 H1 g tt te ds Q' (i+1) m' aA (upd H4 D (.lst (acc++[y]))))->C y aA H4) :
  (J.stop i H/\∃cc M acc bU,Acc Γ β D M1 H1 cc M τ H acc bU/\acc.length<sizeLine/\Q' bU M) \/
  (J.go i H/\∀x H',J.yld i H x H'->lG Γ g x τ H' fun aA H2=>lT Γ tt aA H2 fun b H3=>if b=true then lE Γ te aA H3 fun y H4=>C y aA H4 else ∃m',m'<m/\mr Γ β D M1 H1 g tt te ds Q' (i+1) m' aA H3) :=by
 obtain⟨rfl,hi,cc,M,acc,bU,A,lQ,h⟩:=w;have q:=it (β.add D) M H (.add A.h1) A.ey A.zr.mz i;by_cases aQ:i<ds.length
 ·refine .inr ⟨(q.1 aQ).1,fun x H' y=>?_⟩
  obtain⟨x2,d,hd,rd⟩:=(q.1 aQ).2 x H' y;have e:ds.drop i=d::ds.drop (i+1) :=by
   rw[LP aQ];rw[ag aQ]at hd;cases hd;rfl
  rw[e]at h;have A2:=A.step x2 (A.zr.step x2);refine⟨β.add D,d,cc,M,_,A2.zr,rd,h,fun kz M3 nC H3 x3 z3 h3=>?_⟩
  have A3:=A2.step x3 z3;refine⟨β.add D,kz,M3,_,z3,h3,fun b M4 H4 x4 h4=>?_⟩
  have A4:=A3.step x4 (z3.step x4);cases b with
  |false=>
   dsimp only at h4 ⊢;rw[if_neg hX]at h4 ⊢;exact⟨ds.length - (i+1),by omega,rfl,aQ,kz,M4,acc,bU,A4,by omega,h4⟩
  |true=>
   dsimp only at h4 ⊢;rw[if_pos rfl]at h4 ⊢;refine⟨β.add D,kz,M4,_,A4.zr,h4,fun yd M5 yv H5 x5 r5 h5=>?_⟩
   have A5:=A4.step x5 (A4.zr.step x5);refine hC yv nC H5 acc A5.at' (by omega) ⟨ds.length - (i+1),by omega,rfl,aQ,kz,M5,acc++[yv],bU++[yd],A5.snoc r5,by simp;omega,?_⟩
   have e2:(fun ys M2=>Q' (bU++[yd]++ys) M2)=fun ys M2=>Q' (bU++yd::ys) M2 :=by
    funext ys M2
    rw[EM];rfl
   rw[e2];exact h5
 ·have e:i=ds.length :=by omega
  subst e;rw[Ul]at h;refine .inl ⟨q.2 (bv _),cc,M,acc,bU,A,by omega,?_⟩
  have h':Q' (bU++[]) M:=h;rwa [AN]at h'
theorem pD {D:ap}{M1:Mh}{H1:Hp}{ds:List Dv}{Q':List Dv->Mh->Prop}{cc:az}{τ:St}(zr:Zr Γ β M1 cc τ H1) (hD:H1 D=none) (h:fU g tt te ds cc M1 Q'):mr Γ β D M1 H1 g tt te ds Q' 0 ds.length τ (upd H1 D (.lst [])):=
 ⟨rfl,kv _,cc,M1,[],[],.start zr hD,bv _,h⟩
theorem AY {σ:St}{H:Hp}{Q:VK}(h:lE Γ (zComp tn idx zi g tt te) σ H Q):sD tn idx (lI Γ zi) (lG Γ g) (lT Γ tt) (lE Γ te) σ H Q :=by
 obtain⟨β,ρ,M,Q',zr,h,q⟩:=h;refine⟨β,ρ,M,_,zr,h,fun ds M1 H1 J x1 it ⟨hlen,h1⟩ D hD=>?_⟩
 have lg:=zr.step x1;refine⟨mr Γ β D M1 H1 g tt te ds fun ys M2=>Q' (.lst ys) M2,⟨_,pD (lg.block tn idx) hD h1⟩,fun i m τ H' w=>?_⟩
 rcases rH it hlen w (C:=fun y aA H4=>∃ys m',H4 D=some (.lst ys)/\ys.length<sizeLine/\m'<m/\mr Γ β D M1 H1 g tt te ds (fun ys M2=>Q' (.lst ys) M2) (i+1) m' aA (upd H4 D (.lst (ys++[y])))) (fun y aA H4 acc e hl ⟨m',hm,w'⟩=>⟨acc,m',e,hl,hm,w'⟩) with ⟨hs,cc,M',acc,bU,A,_,hq⟩|z
 ·exact .inl ⟨hs,q _ _ _ _ (x1.trans A.ex) (pz (A.fz lg.mz) A.at' A.items) hq⟩
 ·exact .inr z
theorem FZ {σ:St}{H:Hp}{Q:VK}(h:lE Γ (zCompP tn idx zi g tt te) σ H Q):sD tn idx (lI Γ zi) (lG Γ g) (lT Γ tt) (lE Γ te) σ H Q :=by
 obtain⟨β,ρ,M,Q',zr,h,q⟩:=h;refine⟨β,ρ,M,_,zr,h,fun ds M1 H1 J x1 it ⟨hlen,h1⟩ D hD=>?_⟩
 have lg:=zr.step x1;refine⟨mr Γ β D M1 H1 g tt te ds fun ys M2=>∀a,M2 a=none->Q' (.ptr a) (aw M2 a (.lst ys)),⟨_,pD (lg.block tn idx) hD h1⟩,fun i m τ H' w=>?_⟩
 rcases rH it hlen w (C:=fun y aA H4=>∃ys m',H4 D=some (.lst ys)/\ys.length<sizeLine/\m'<m/\mr Γ β D M1 H1 g tt te ds (fun ys M2=>∀a,M2 a=none->Q' (.ptr a) (aw M2 a (.lst ys))) (i+1) m' aA (upd H4 D (.lst (ys++[y])))) (fun y aA H4 acc e hl ⟨m',hm,w'⟩=>⟨acc,m',e,hl,hm,w'⟩) with ⟨hs,cc,M',acc,bU,A,_,hq⟩|z
 ·refine .inl ⟨hs,?_⟩;have QR:D ∉ β.hid:=(A.fz lg.mz).2;have hM:M' D=none:=A.m;have mz:Mz β (aw M' D (.lst bU)) H':=by
   have rz:∀{v:V} {d:Dv},Rz (β.add D) M' H' v d->Rz β (aw M' D (.lst bU)) H' v d:=fun r=>by
    have ne:∀a,Fz (β.add D) M' a->Fz β (aw M' D (.lst bU)) a:=fun a f=>⟨by rw[aj (fun z=>f.2 (by rw[z];exact i1))];exact f.1,fun z=>f.2 (dL _ z)⟩
    induction r with
    |int i=>exact .int i
    |bl b=>exact .bl b
    |ai=>exact .ai
    |str z=>exact .str z
    |tup m e hl h ih=>exact .tup (ne _ m) e hl ih
    |lst m e hl h ih=>exact .lst (ne _ m) e hl ih
    |dk m e hk hl h ih=>exact .dk (ne _ m) e hk hl ih
    |dt m e hk hl h ih=>exact .dt (ne _ m) e hk hl ih
    |c9 m e m2 e2 hl h ih=>exact .c9 (ne _ m) e (ne _ m2) e2 hl ih
    |set m e=>exact .set (ne _ m) e
    |ptr m=>exact .ptr (by unfold aw;split;rfl;exact m)
    |exc m e=>exact .exc (ne _ m) e
    |bo m e=>exact .bo (ne _ m) e
    |cK m e=>exact .cK (ne _ m) e
    |cL e=>exact .cL e
    |raw v=>exact .raw v
   refine⟨fun a o e=>?_,A.zr.mz.tabs,fun a ha=>A.zr.mz.hids a (dL _ ha),fun a o e z=>?_,A.zr.mz.lams⟩
   by_cases ha:a=D
   ·subst ha;rw[updM_same]at e;cases e;exact⟨acc,A.at',A.rs.len,fun i v d a b=>rz (A.rs.at' i v d a b)⟩
   ·rw[aj ha]at e;have z:=A.zr.mz.obj a o e;cases o with
    |lst ds=>obtain⟨vs,z,l,r⟩:=z;exact⟨vs,z,l,fun i v d a b=>rz (r i v d a b)⟩
    |dk ks ds=>obtain⟨vs,z,hk,l,r⟩:=z;exact⟨vs,z,hk,l,fun i v d a b=>rz (r i v d a b)⟩
    |dt ks ds=>obtain⟨vs,z,hk,l,r⟩:=z;exact⟨vs,z,hk,l,fun i v d a b=>rz (r i v d a b)⟩
    |ts ks ds=>obtain⟨vs,z,hk,l,r⟩:=z;exact⟨vs,z,hk,l,fun i v d a b=>rz (r i v d a b)⟩
    |dj=>exact z
   ·by_cases ha:a=D
    ·subst ha;exact QR z
    ·rw[aj ha]at e;exact A.zr.mz.apart a o e (dL _ z)
  have ey:Ey M1 H1 (aw M' D (.lst bU)) H':=⟨A.ey.keep,fun a h=>by unfold aw;split;rfl;exact A.ey.dom a h,fun a o m e=>by rw[aj (bA e A.h1)];exact A.ey.new a o m e⟩
  exact q _ _ _ _ (x1.trans ⟨ey,mz⟩) (.ptr (by rw[updM_same];rfl)) (hq D hM)
 ·exact .inr z
theorem Ph {P:ap}{zi:gz}{R:It->Hp->Prop}{σ:St}{H:Hp}{ρ:az}{M:Mh}{R':List Dv->Mh->Prop}(hP:P∈Γ.tb) (zr:Zr Γ β M ρ σ H) (h:zi ρ M R') (q:∀ds M' H' J,Ex β M H M' H'->AJ β J ds M' H'->R' ds M'->R J H'):Io P (lI Γ zi) R σ H :=by
 refine⟨β,ρ,M,_,zr,h,fun ds M1 H1 J x1 it h1=>?_⟩
 have Eg:P∈β.tb :=by rw[zr.et];exact hP
 refine⟨x1.mz.tabs P Eg,fun ps t=>?_⟩
 have x2:=Ex.grow x1.mz Eg t;refine q ds M1 _ J (x1.trans x2) (fun cD M' H' bx ey mz=>it cD M' H' ⟨bx.P,bx.w,bx.K,bx.tb,bx.old,fun a ha=>?_⟩ (x2.toEy.trans ey) mz) h1
 rcases bx.new a ha with z|z
 ·exact .inl z
 ·right;cases e:H1 a with
  |none=>rfl
  |some o=>obtain⟨u,hu⟩:=C3 (p:=P) (o:=.cA ps) ⟨o,e⟩;rw[z]at hu;cases hu
def jG (g:cN) (tt:dn) (te:aM):List Dv->az->Mh->(Bool->Mh->Prop)->Prop
 | [],_,M,Q=>Q true M
 |d::ds,τ,M,Q=>g d τ M fun aA M2=>tt aA M2 fun b M3=>if b=true then te aA M3 (zBool fun c M4=>if c=false then Q false M4 else jG g tt te ds aA M4 Q) else jG g tt te ds aA M3 Q
def zAll (tn:Nat) (idx:List Nat) (zi:gz) (g:cN) (tt:dn) (te:aM):aM:=fun ρ M Q=>zi ρ M fun ds M1=>jG g tt te ds (zBlock tn idx ρ) M1 fun b M2=>Q (.bl b) M2
theorem LV {P:ap}(hP:P∈Γ.tb) {σ:St}{H:Hp}{Q:VK}(h:lE Γ (zAll tn idx zi g tt te) σ H Q):Iq P tn idx (lI Γ zi) (lG Γ g) (lT Γ tt) (lE Γ te) σ H Q :=by
 obtain⟨β,ρ,M,Q',zr,h,q⟩:=h;refine Ph hP zr h fun ds M1 H1 J x1 it h1=>?_
 have lg:=zr.step x1;refine⟨fun i m τ H'=>m=ds.length - i/\i<=ds.length/\∃cc M',Ex β M1 H1 M' H'/\Zr Γ β M' cc τ H'/\jG g tt te (ds.drop i) cc M' fun b M2=>Q' (.bl b) M2,⟨_,rfl,kv _,_,M1,.refl x1.mz,lg.block tn idx,h1⟩,?_⟩
 rintro i m τ H' ⟨rfl,hi,cc,M',x',gA,h'⟩;have qq:=it β M' H' .refl x'.toEy x'.mz i;by_cases aQ:i<ds.length
 ·refine .inr ⟨(qq.1 aQ).1,fun x lb y=>?_⟩
  obtain⟨x2,d,hd,rd⟩:=(qq.1 aQ).2 x lb y;have e:ds.drop i=d::ds.drop (i+1) :=by
   rw[LP aQ];rw[ag aQ]at hd;cases hd;rfl
  rw[e]at h';refine⟨β,d,cc,M',_,gA.step x2,rd,h',fun kz M3 nC H3 x3 z3 h3=>⟨β,kz,M3,_,z3,h3,fun b M4 H4 x4 h4=>?_⟩⟩
  have JD:=x'.trans (x2.trans (x3.trans x4));cases b with
  |false=>
   dsimp only at h4 ⊢;rw[if_neg hX]at h4 ⊢;exact⟨ds.length - (i+1),by omega,rfl,aQ,kz,M4,JD,z3.step x4,h4⟩
  |true=>
   dsimp only at h4 ⊢;rw[if_pos rfl]at h4 ⊢;refine⟨β,kz,M4,_,z3.step x4,h4,fun yd M5 yv H5 x5 r5 h5=>?_⟩
   obtain⟨k,rfl,h6⟩:=gP h5;refine⟨k,cM r5,?_⟩;cases k with
   |false=>
    rw[if_pos rfl]at h6 ⊢;exact q _ _ _ _ (x1.trans (JD.trans x5)) (.bl _) h6
   |true=>
    rw[if_neg (by decide)]at h6 ⊢
    exact⟨ds.length - (i+1),by omega,rfl,aQ,kz,M5,JD.trans x5,(z3.step x4).step x5,h6⟩
 ·have e:i=ds.length :=by omega
  subst e;rw[Ul]at h';exact .inl ⟨qq.2 (bv _),q _ _ _ _ (x1.trans x') (.bl _) h'⟩
end
section
variable {X:Cx}{Γ:Gz}{β:Bz}{K:bn}
def zII (f:Int->Int->Dv):dM:=fun d e M Q=>match d,e with | .int i,.int j=>Q (f i j) M|_,_=>False
def zIC (C:Int->Int->Prop) (f:Int->Int->Dv):dM:=fun d e M Q=>match d,e with | .int i,.int j=>C i j/\Q (f i j) M|_,_=>False
theorem mw {g:Int->Int->V}{f:Int->Int->Dv}(h:∀β M H i j,Rz β M H (g i j) (f i j)):rG Γ (qR g) (zII f):=fun β x y d e M H Q Q' _ _ _ m rx ry z q=>by
 unfold zII at z;split at z
 ·exact⟨_,_,aC rx,aC ry,q _ _ _ _ (.refl m) (h ..) z⟩
 ·exact z.elim
theorem mx {C:Int->Int->Prop}{g:Int->Int->V}{f:Int->Int->Dv}(h:∀β M H i j,Rz β M H (g i j) (f i j)):rG Γ (rI C g) (zIC C f):=fun β x y d e M H Q Q' _ _ _ m rx ry z q=>by
 unfold zIC at z;split at z
 ·exact⟨_,_,aC rx,aC ry,z.1,q _ _ _ _ (.refl m) (h ..) z.2⟩
 ·exact z.elim
theorem gB:ef Γ X (binaryOp .Add) (zII fun i j=>.int (i+j)):=⟨_,HB,mw fun _ _ _ _ _=>.int _⟩
theorem pE:ef Γ X (binaryOp .Sub) (zII fun i j=>.int (i - j)):=⟨_,HC,mw fun _ _ _ _ _=>.int _⟩
theorem iK:ef Γ X (binaryOp .Mult) (zIC p7 fun i j=>.int (i * j)):=⟨_,HD,mx fun _ _ _ _ _=>.int _⟩
theorem JE:ef Γ X (binaryOp .FloorDiv) (zIC sX fun i j=>.int (i / j)):=⟨_,Fg,mx fun _ _ _ _ _=>.int _⟩
theorem jH:ef Γ X (binaryOp .Mod) (zIC (fun _ j=>0<j) fun i j=>.int (i % j)):=⟨_,HE,mx fun _ _ _ _ _=>.int _⟩
theorem LW:ef Γ X (binaryOp .Pow) (zIC HA fun i j=>.int (i ^ j.toNat)):=⟨_,HF,mx fun _ _ _ _ _=>.int _⟩
theorem uv:ef Γ X (compareOp .Lt) (zII fun i j=>.bl (decide (i<j))):=⟨_,Li,mw fun _ _ _ _ _=>.bl _⟩
theorem C8:ef Γ X (compareOp .LtE) (zII fun i j=>.bl (decide (i<=j))):=⟨_,Lj,mw fun _ _ _ _ _=>.bl _⟩
theorem JF:ef Γ X (compareOp .Gt) (zII fun i j=>.bl (decide (j<i))):=⟨_,Lk,mw fun _ _ _ _ _=>.bl _⟩
def scalZ (d e:Dv):Option Bool:=match d with
 | .int i=>(match e with | .int j=>some (decide (i=j)) | .ai=>some false | .str _=>some false|_=>none)
 | .bl i=>(match e with | .bl j=>some (decide (i=j)) | .ai=>some false | .str _=>some false|_=>none)
 | .str i=>(match e with | .str j=>some (decide (i=j)) | .ai=>some false | .int _=>some false | .bl _=>some false|_=>none)
 | .ai=>(match e with | .ai=>some true | .int _=>some false | .bl _=>some false | .str _=>some false|_=>none)
 |_=>none
def zEq:dM:=fun d e M Q=>match scalZ d e with|some b=>Q (.bl b) M|none=>False
def zNe:dM:=fun d e M Q=>match scalZ d e with|some b=>Q (.bl (!b)) M|none=>False
theorem uw {M:Mh}{H:Hp}{x y:V}{d e:Dv}{b:Bool}(rx:Rz β M H x d) (ry:Rz β M H y e) (h:scalZ d e=some b):Cd x y=true/\decide (x=y)=b :=by
 unfold scalZ at h;split at h
 ·rw[aC rx];split at h<;>cases h
  ·rw[aC ry];exact⟨rfl,by simp⟩
  ·rw[ik ry];exact⟨rfl,by simp⟩
  ·rw[eV ry];exact⟨rfl,by simp⟩
 ·rw[cM rx];split at h<;>cases h
  ·rw[cM ry];exact⟨rfl,by simp⟩
  ·rw[ik ry];exact⟨rfl,by simp⟩
  ·rw[eV ry];exact⟨rfl,by simp⟩
 ·rw[eV rx];split at h<;>cases h
  ·rw[eV ry];exact⟨rfl,by simp⟩
  ·rw[ik ry];exact⟨rfl,by simp⟩
  ·rw[aC ry];exact⟨rfl,by simp⟩
  ·rw[cM ry];exact⟨rfl,by simp⟩
 ·rw[ik rx];split at h<;>cases h
  ·rw[ik ry];exact⟨rfl,by simp⟩
  ·rw[aC ry];exact⟨rfl,by simp⟩
  ·rw[cM ry];exact⟨rfl,by simp⟩
  ·rw[eV ry];exact⟨rfl,by simp⟩
 ·cases h
theorem qt:ef Γ X (compareOp .Eq) zEq:=⟨_,Lg,fun β x y d e M H Q Q' _ _ _ m rx ry z q=>by
 unfold zEq at z;split at z
 ·rename_i b hb;obtain⟨h1,h2⟩:=uw rx ry hb;exact⟨h1,by rw[h2];exact q _ _ _ _ (.refl m) (.bl _) z⟩
 ·exact z.elim⟩
theorem yu:ef Γ X (compareOp .NotEq) zNe:=⟨_,Lh,fun β x y d e M H Q Q' _ _ _ m rx ry z q=>by
 unfold zNe at z;split at z
 ·rename_i b hb;obtain⟨h1,h2⟩:=uw rx ry hb;exact⟨h1,by rw[h2];exact q _ _ _ _ (.refl m) (.bl _) z⟩
 ·exact z.elim⟩
def isNonD:Dv->Option Bool
 | .ai=>some true
 | .raw _=>none
 |_=>some false
def zIsN (neg:Bool):dM:=fun d e M Q=>match e,isNonD d with | .ai,some b=>Q (.bl (if neg then !b else b)) M|_,_=>False
def zSS (C:db->db->Prop) (f:db->db->Dv):dM:=fun d e M Q=>match d,e with | .str i,.str j=>C i j/\Q (f i j) M|_,_=>False
mutual
def aW:Dv->Option Dt
 | .int i=>some (.int i)
 | .bl b=>some (.bl b)
 | .ai=>some .ai
 | .str z=>some (.str z)
 | .tup ds=>(fM ds).map .tup
 | .lst ds=>(fM ds).map .lst
 |_=>none
def fM:List Dv->Option (List Dt)
 | []=>some []
 |d::ds=>match aW d,fM ds with|some a,some as=>some (a::as)|_,_=>none
end
theorem kD:∀{ds:List Dv}{ts:List Dt},fM ds=some ts->ds.length=ts.length/\∀(i:Nat) (d:Dv) (t:Dt),ds[i]?=some d->ts[i]?=some t->aW d=some t
 | [],ts,h=>by simp only[fM,No]at h;subst h;exact⟨rfl,fun i d t a=>by simp at a⟩
 |d::ds,ts,h=>by
          simp only[fM]at h;split at h
          ·rename_i a as h1 h2;cases h;obtain⟨hl,q⟩:=kD h2;refine⟨by simp[hl],fun i e t x y=>?_⟩
           cases i with
           |zero=>simp at x y;subst x y;exact h1
           |succ i=>rw[Cn]at x y;exact q i e t x y
          ·cases h
theorem AZ {M:Mh}{H:Hp}{v:V}{d:Dv}(h:Rz β M H v d):∀{t:Dt},aW d=some t->di H v t :=by
 induction h with
 |int i=>intro t e;simp only[aW,No]at e;subst e;exact .int i
 |bl b=>intro t e;simp only[aW,No]at e;subst e;exact .bl b
 |ai=>intro t e;simp only[aW,No]at e;subst e;exact .ai
 |str z=>intro t e;simp only[aW,No]at e;subst e;exact .str z
 |tup m e hl h ih=>
  intro t q;simp only[aW,lc]at q;obtain⟨ts,q,rfl⟩:=q;obtain⟨l2,at2⟩:=kD q;refine .tup e (hl.trans l2) fun i x d hx hd=>?_
  have hi:=(br.mp hd).1;have:=ag (l:=_) (i:=i) (show i<_ from l2▸hi);exact ih i x _ hx this (at2 i _ _ this hd)
 |lst m e hl h ih=>
  intro t q;simp only[aW,lc]at q;obtain⟨ts,q,rfl⟩:=q;obtain⟨l2,at2⟩:=kD q;refine .lst e (hl.trans l2) fun i x d hx hd=>?_
  have hi:=(br.mp hd).1;have:=ag (l:=_) (i:=i) (show i<_ from l2▸hi);exact ih i x _ hx this (at2 i _ _ this hd)
 |set m e=>intro t q;simp[aW]at q
 |ptr m=>intro t q;simp[aW]at q
 |exc m e=>intro t q;simp[aW]at q
 |bo m e=>intro t q;simp[aW]at q
 |cK m e=>intro t q;simp[aW]at q
 |cL e=>intro t q;simp[aW]at q
 |dk m e hk hl h ih=>intro t q;simp[aW]at q
 |dt m e hk hl h ih=>intro t q;simp[aW]at q
 |c9 m e m2 e2 hl h ih=>intro t q;simp[aW]at q
 |raw v=>intro t q;simp[aW]at q
def now (M:Mh):Dv->Dv
 | .ptr a=>match M a with|some (.lst ds)=>.lst ds|_=>.ptr a
 |d=>d
theorem mU {M:Mh}{H:Hp}{v:V}{d:Dv}(m:Mz β M H) (h:Rz β M H v d) {t:Dt}(e:aW (now M d)=some t):di H v t :=by
 cases d with
 |ptr a=>
  simp only[now]at e;obtain⟨rfl,hs⟩:=bq h;cases q:M a with
  |none=>rw[q]at hs;cases hs
  |some o=>
   rw[q]at e;cases o with
   |dj=>simp[aW]at e
   |dk ks es=>simp[aW]at e
   |dt ks es=>simp[aW]at e
   |ts ks es=>simp[aW]at e
   |lst ds=>
    obtain⟨vs,hv,rs⟩:=m.obj a _ q;simp only[aW,lc]at e;obtain⟨ts,q,rfl⟩:=e;obtain⟨l2,at2⟩:=kD q;refine .lst hv (rs.len.trans l2) fun i x d hx hd=>?_
    have hi:=(br.mp hd).1;have:=ag (l:=_) (i:=i) (show i<_ from l2▸hi);exact AZ (rs.at' i x _ hx this) (at2 i _ _ this hd)
 |_=>exact AZ h e
def my (neg:Bool):dM:=fun d e M Q=>match aW (now M d),aW (now M e) with|some a,some b=>dF a<=60/\Q (.bl (if neg then !cw a b else cw a b)) M|_,_=>False
theorem wO {neg:Bool}:rG Γ (CP neg) (my neg):=fun β x y d e M H Q Q' _ _ _ m rx ry z q=>by
 unfold my at z;split at z
 ·rename_i a b h1 h2;exact⟨a,b,mU m rx h1,mU m ry h2,z.1,q _ _ _ _ (.refl m) (.bl _) z.2⟩
 ·exact z.elim
theorem LX (hu:X.A.units+64<cLine):ef Γ X (compareOp .Eq) (my false):=⟨_,IQ hu,wO⟩
theorem yw (hu:X.A.units+64<cLine):ef Γ X (compareOp .NotEq) (my true):=⟨_,IU hu,wO⟩
def itemsM (M:Mh):Dv->Option (List Dv)
 | .tup ds=>some ds
 | .lst ds=>some ds
 | .ptr a=>match M a with|some (.lst ds)=>some ds|_=>none
 |_=>none
theorem gS {M:Mh}{H:Hp}{x:V}{d:Dv}{ds:List Dv}(m:Mz β M H) (r:Rz β M H x d) (h:itemsM M d=some ds):∃a vs,x=.ref a/\(H a=some (.lst vs)\/H a=some (.tup vs))/\aJ β M H vs ds :=by
 cases d with
 |tup es=>cases h;obtain⟨a,vs,e,_,h,rs⟩:=bg r;exact⟨a,vs,e,.inr h,rs⟩
 |lst es=>cases h;obtain⟨a,vs,e,_,h,rs⟩:=gh r;exact⟨a,vs,e,.inl h,rs⟩
 |ptr a=>
  obtain⟨rfl,hs⟩:=bq r;simp only[itemsM]at h;split at h
  ·rename_i es q;cases h;obtain⟨vs,hv,rs⟩:=m.obj a _ q;exact⟨a,vs,rfl,.inl hv,rs⟩
  ·cases h
 |_=>cases h
theorem F0 {M:Mh}{H:Hp}{vs:List V}{ds:List Dv}(rs:aJ β M H vs ds) {i:Int}{d:Dv}(h:cZ ds i=some d):∃v,cZ vs i=some v/\Rz β M H v d :=by
 unfold cZ at h ⊢;rw[rs.len];cases e:gq ds.length i with
 |none=>rw[e]at h;cases h
 |some j=>
  rw[e]at h;obtain⟨v,hv,r⟩:=rs.get (i:=j) (d:=d) h;exact⟨v,hv,r⟩
def JG (Γ:Gz) (X:Cx) (z:dM):Prop:=∃r,lz X r/\rG Γ r z
def zIx:dM:=fun d e M Q=>match e with
 | .int i=>(match d with
  | .str z=>z.length<=sizeLine/\(match cZ z.cps.toList i with|some c=>Q (.str ⟨#[c]⟩) M|none=>False)
  |_=>match itemsM M d with|some ds=>(match cZ ds i with|some r=>Q r M|none=>False)|none=>False)
 |_=>False
theorem eY (hK:X.K=K):JG Γ X zIx:=⟨_,wm hK,fun β x y d e M H Q Q' _ _ _ m rx ry z q=>by
 unfold zIx at z;split at z
 ·rename_i i;have hy:=aC ry;split at z
  ·rename_i s;obtain⟨hz,z⟩:=z;split at z
   ·rename_i c hc;exact .inr (.inr ⟨s,i,c,eV rx,hy,hz,hc,q _ _ _ _ (.refl m) (.str _) z⟩)
   ·exact z.elim
  ·split at z
   ·rename_i ds jw;obtain⟨a,vs,rfl,ha,rs⟩:=gS m rx jw;split at z
    ·rename_i r hr;obtain⟨v,hv,rv⟩:=F0 rs hr;have z':=q _ _ _ _ (.refl m) rv z;rcases ha with ha|ha
     ·exact .inl ⟨a,vs,i,v,rfl,hy,bG.of ha,hv,z'⟩
     ·exact .inr (.inl ⟨a,vs,i,v,rfl,hy,bC.of ha,hv,z'⟩)
    ·exact z.elim
   ·exact z.elim
 ·exact z.elim⟩
theorem cQ {a b:gl}{pa pb:aM}{z:dM}{pos:ze}(hr:JG Γ X z) (ha:QE Γ X a pa) (hb:QE Γ X b pb) (hs:wj b):QE Γ X (.Subscript a b pos) (zOp z pa pb) :=by
 obtain⟨r,h1,h2⟩:=hr;exact(Lr h1 ha hb hs).imp fun σ H Q h=>yr h2 h
def cutD (xs:List Dv) (lo hi:Option Int):List Dv:=(xs.drop (HT.aP xs.length 0 lo)).take (HT.aP xs.length xs.length hi - HT.aP xs.length 0 lo)
abbrev A0:=az->Mh->(Option Int->Mh->Prop)->Prop
def lO (Γ:Gz) (p:A0):TO:=fun σ H Q=>∃(β:Bz) (ρ:az) (M:Mh) (Q':Option Int->Mh->Prop),Zr Γ β M ρ σ H/\p ρ M Q'/\∀o M' H',Ex β M H M' H'->Q' o M'->Q o H'
def zoNone:A0:=fun _ M Q=>Q none M
def zoSome (p:aM):A0:=fun ρ M Q=>p ρ M fun d M1=>match d with | .int i=>Q (some i) M1|_=>False
theorem PO.imp {e:Option gl}{t t':TO}(h:PO X e t) (i:∀σ H Q,t' σ H Q->t σ H Q):PO X e t':=fun pins s σ H Q I q=>h pins s σ H Q I (i _ _ _ q)
theorem mV:PO X none (lO Γ zoNone):=PO.imp Fp fun σ H Q ⟨β,ρ,M,Q',zr,h,q⟩=>q _ _ _ (.refl zr.mz) h
theorem mW {e:gl}{p:aM}(h:QE Γ X e p):PO X (some e) (lO Γ (zoSome p)):=PO.imp (Fq h) fun σ H Q ⟨β,ρ,M,Q',zr,h,q⟩=>⟨β,ρ,M,_,zr,h,fun d M1 v H1 x1 r1 h1=>by
 revert h1
 split
 ·intro h1;exact⟨_,aC r1,q _ _ _ x1 h1⟩
 ·exact fun z=>z.elim⟩
abbrev Ew:=Dv->Option Int->Option Int->Mh->ZK->Prop
def NF (Γ:Gz) (X:Cx) (z:Ew):Prop:=∃r,zI X r/\∀(β:Bz) x d lo hi M H Q Q',β.P=Γ.P->β.w=Γ.w->β.K=Γ.K->Mz β M H->Rz β M H x d->z d lo hi M Q'->(∀d' M' v H',Ex β M H M' H'->Rz β M' H' v d'->Q' d' M'->Q v H')->r x lo hi H Q
def zSl (z:Ew) (p:aM) (l h:A0):aM:=fun ρ M Q=>p ρ M fun d M1=>l ρ M1 fun lo M2=>h ρ M2 fun hi M3=>z d lo hi M3 Q
theorem kG {z:Ew}{e:gl}{p:aM}{lo hi:Option gl}{l h:A0}{p2 pos:ze}(hr:NF Γ X z) (he:QE Γ X e p) (hl:PO X lo (lO Γ l)) (hu:PO X hi (lO Γ h)):QE Γ X (.Subscript e (.Slice lo hi none p2) pos) (zSl z p l h) :=by
 obtain⟨r,h1,h2⟩:=hr;exact(Cq h1 he hl hu).imp fun σ H Q ⟨β,ρ,M,Q',zr,h,q⟩=>⟨β,ρ,M,_,zr,h,fun d M1 v H1 x1 r1 h1=>⟨β,ρ,M1,_,zr.step x1,h1,fun o M2 H2 x2 h3=>⟨β,ρ,M2,_,(zr.step x1).step x2,h3,fun o2 M3 H3 x3 h4=>
  h2 β v d o o2 M3 H3 _ _ zr.eP zr.ew zr.eK x3.mz ((r1.ex x2).ex x3) h4 fun d' M' v' H' x4 r4 q4=>q _ _ _ _ (x1.trans (x2.trans (x3.trans x4))) r4 q4⟩⟩⟩
def zSlT:Ew:=fun d lo hi M Q=>match d with | .tup ds=>Q (.tup (cutD ds lo hi)) M|_=>False
theorem wQ {M:Mh}{H:Hp}{vs:List V}{ds:List Dv}(rs:aJ β M H vs ds) (lo hi:Option Int):aJ β M H (ix vs lo hi) (cutD ds lo hi) :=by
 unfold ix cutD;rw[rs.len];exact(rs.drop _).take _
theorem sI (hK:X.K=K):NF Γ X zSlT:=⟨_,FQ hK,fun β x d lo hi M H Q Q' _ _ _ m rx z q=>by
 unfold zSlT at z;split at z
 ·obtain⟨a,vs,rfl,f,ha,rs⟩:=bg rx;refine⟨a,vs,rfl,bC.of ha,fun w=>?_,fun _ p hp=>?_⟩
  ·have e:=yj w;have r2:=wQ rs lo hi;rw[e]at r2;exact q _ _ _ _ (.refl m) (d9 f ha r2) z
  ·have x2:=Ex.lay m hp (.tup (ix vs lo hi));exact q _ _ _ _ x2 (d9 (m.fz hp) aE ((wQ rs lo hi).ex x2)) z
 ·exact z.elim⟩
def zCatT:dM:=fun d e M Q=>match d,e with | .tup xs,.tup ys=>xs.length+ys.length<=sizeLine/\Q (.tup (xs++ys)) M|_,_=>False
theorem mB (hK:X.K=K):ef Γ X (binaryOp .Add) zCatT:=⟨_,FP hK,fun β x y d e M H Q Q' _ _ _ m rx ry z q=>by
 unfold zCatT at z;split at z
 ·obtain⟨a,vs,rfl,f,ha,rs⟩:=bg rx;obtain⟨b,us,rfl,f2,hb,cx⟩:=bg ry;refine⟨a,b,vs,us,rfl,rfl,bC.of ha,bC.of hb,by rw[rs.len,cx.len];exact z.1,fun e=>?_,fun _ e=>?_,fun _ _ p hp=>?_⟩
  ·subst e;have r3:=rs.append cx;exact q _ _ _ _ (.refl m) (d9 f2 hb r3) z.2
  ·subst e;have r3:=rs.append cx;rw[AN]at r3;exact q _ _ _ _ (.refl m) (d9 f ha r3) z.2
  ·have x2:=Ex.lay m hp (.tup (vs++us));exact q _ _ _ _ x2 (d9 (m.fz hp) aE ((rs.append cx).ex x2)) z.2
 ·exact z.elim⟩
section
variable {x:db}{p pos:ze}{e:gl}{es:List gl}{za:eW}{id T:String}{z:pB}
theorem aK (hc:eO Γ X (.builtin id) z) (hg:Gl X x) (hm:X.mg x=none) (hv:bootBuiltins x=some (.builtin id)) (ha:QA Γ X (e::es) za) (hn:x ≠ "__name__" := by decide) (fE:(x==("__debug__" : db))=false :=by decide)
  (he:starEach (e::es) X.env=(false,eval e X.env)::starEach es X.env :=by rfl) (cY:(backTo pos (starEach es X.env)).any (·.1)=false :=by rfl):QE Γ X (.Call (.Name x p) (e::es) [] pos) (zCB z za) :=by
 obtain⟨r,h1,h2⟩:=hc;exact(Cm h1 hg hm hv ha hn fE he cY).imp fun σ H Q h=>JA h2 h
theorem gi (hc:eO Γ X (.type T) z) (hg:Gl X x) (hm:X.mg x=none) (hv:bootBuiltins x=some (.type T)) (ha:QA Γ X (e::es) za) (hn:x ≠ "__name__" := by decide) (fE:(x==("__debug__" : db))=false :=by decide)
  (he:starEach (e::es) X.env=(false,eval e X.env)::starEach es X.env :=by rfl) (cY:(backTo pos (starEach es X.env)).any (·.1)=false :=by rfl):QE Γ X (.Call (.Name x p) (e::es) [] pos) (zCB z za) :=by
 obtain⟨r,h1,h2⟩:=hc;exact(zH h1 hg hm hv ha hn fE he cY).imp fun σ H Q h=>JA h2 h
end
def z1 (f:Dv->Mh->ZK->Prop):pB:=fun ds M Q=>match ds with | [d]=>f d M Q|_=>False
def zLenD (d:Dv) (M:Mh) (Q:ZK):Prop:=match d with
 | .str s=>s.length<=sizeLine/\Q (.int s.length) M
 | .bo ns=>Q (.int ns.length) M
 |_=>match itemsM M d with|some ds=>Q (.int ds.length) M|none=>False
theorem fg (hK:X.K=K) (hG:K=Γ.K):eO Γ X (.builtin "len") (z1 zLenD):=⟨_,z7 hK,fun β xs ds M H Q Q' _ _ eK m rs z q=>by
 rw[<- hG]at eK;unfold z1 at z;split at z
 ·rename_i d;obtain⟨x,rfl,r⟩:=b5 rs;unfold zLenD at z;split at z
  ·rename_i s;have e:=eV r;subst e;exact⟨_,_,rfl,⟨z.1,rfl⟩,q _ _ _ _ (.refl m) (.int _) z.2⟩
  ·rename_i ns;obtain⟨a,rfl,h⟩:=rF r;rw[eK]at h;exact⟨_,ns.length,rfl,.inl ⟨_,h,by simp⟩,q _ _ _ _ (.refl m) (.int _) z⟩
  ·split at z
   ·rename_i ds jw;obtain⟨a,vs,rfl,ha,cx⟩:=gS m r jw;have q':=q _ _ (.int ds.length) _ (.refl m) (.int _) z;rcases ha with ha|ha
    ·exact⟨_,ds.length,rfl,.inl ⟨vs,bG.of ha,cx.len.symm⟩,q'⟩
    ·exact⟨_,ds.length,rfl,.inr ⟨vs,bC.of ha,cx.len.symm⟩,q'⟩
   ·exact z.elim
 ·exact z.elim⟩
def z2I (f:Int->Int->Int):pB:=fun ds M Q=>match ds with | [.int i,.int j]=>Q (.int (f i j)) M|_=>False
theorem JH (hc:X.calm=true):eO Γ X (.builtin "max") (z2I fun i j=>if j > i then j else i):=⟨_,zy hc,fun β xs ds M H Q Q' _ _ _ m rs z q=>by
 unfold z2I at z;split at z
 ·obtain⟨x,y,rfl,r,r'⟩:=mS rs;rw[aC r,aC r'];exact⟨_,_,rfl,q _ _ _ _ (.refl m) (.int _) z⟩
 ·exact z.elim⟩
theorem ux (hc:X.calm=true):eO Γ X (.builtin "min") (z2I fun i j=>if j<i then j else i):=⟨_,zA hc,fun β xs ds M H Q Q' _ _ _ m rs z q=>by
 unfold z2I at z;split at z
 ·obtain⟨x,y,rfl,r,r'⟩:=mS rs;rw[aC r,aC r'];exact⟨_,_,rfl,q _ _ _ _ (.refl m) (.int _) z⟩
 ·exact z.elim⟩
def zAbs (d:Dv) (M:Mh) (Q:ZK):Prop:=match d with | .int i=>Q (.int (if i<0 then -i else i)) M|_=>False
theorem LY:eO Γ X (.builtin "abs") (z1 zAbs):=⟨_,Ci,fun β xs ds M H Q Q' _ _ _ m rs z q=>by
 unfold z1 at z;split at z
 ·obtain⟨x,rfl,r⟩:=b5 rs;unfold zAbs at z;split at z
  ·rw[aC r];exact⟨_,rfl,q _ _ _ _ (.refl m) (.int _) z⟩
  ·exact z.elim
 ·exact z.elim⟩
def zDivmod:pB:=fun ds M Q=>match ds with | [.int i,.int j]=>sX i j/\Q (.tup [.int (i / j),.int (i % j)]) M|_=>False
theorem C9:eO Γ X (.builtin "divmod") zDivmod:=⟨_,vt,fun β xs ds M H Q Q' _ _ _ m rs z q=>by
 unfold zDivmod at z;split at z
 ·rename_i i j;obtain⟨x,y,rfl,r,r'⟩:=mS rs;rw[aC r,aC r'];refine⟨_,_,rfl,z.1,fun p hp=>?_⟩
  have x2:=Ex.lay m hp (.tup [.int (i / j),.int (i % j)]);exact q _ _ _ _ x2 (d9 (m.fz hp) aE (.cons (.int _) (.cons (.int _) .nil))) z.2
 ·exact z.elim⟩
def zInt (d:Dv) (M:Mh) (Q:ZK):Prop:=match d with | .int i=>Q (.int i) M | .bl k=>Q (.int (if k then 1 else 0)) M|_=>False
theorem JI:eO Γ X (.type "int") (z1 zInt):=⟨_,zB,fun β xs ds M H Q Q' _ _ _ m rs z q=>by
 unfold z1 at z;split at z
 ·obtain⟨x,rfl,r⟩:=b5 rs;unfold zInt at z;split at z
  ·rw[aC r];exact .inl ⟨_,rfl,q _ _ _ _ (.refl m) (.int _) z⟩
  ·rw[cM r];exact .inr ⟨_,rfl,q _ _ _ _ (.refl m) (.int _) z⟩
  ·exact z.elim
 ·exact z.elim⟩
def zListP (d:Dv) (M:Mh) (Q:ZK):Prop:=match itemsM M d with|some ds=>∀a,M a=none->Q (.ptr a) (aw M a (.lst ds))|none=>False
theorem F1 (hK:X.K=K):eO Γ X (.type "list") (z1 zListP):=⟨_,sf hK,fun β xs ds M H Q Q' _ _ _ m rs z q=>by
 unfold z1 at z;split at z
 ·obtain⟨x,rfl,r⟩:=b5 rs;unfold zListP at z;split at z
  ·rename_i ds jw;obtain⟨a,vs,rfl,ha,cx⟩:=gS m r jw;refine⟨a,vs,rfl,ha.imp bG.of bC.of,fun l hl=>?_⟩
   have x2:=Ex.own m (.inr hl) cx;exact q _ _ _ _ x2 (.ptr (by rw[updM_same];rfl)) (z l (m.free hl))
  ·exact z.elim
 ·exact z.elim⟩
def zTuple (d:Dv) (M:Mh) (Q:ZK):Prop:=match itemsM M d with|some ds=>Q (.tup ds) M|none=>False
theorem qu (hK:X.K=K):eO Γ X (.type "tuple") (z1 zTuple):=⟨_,qf hK,fun β xs ds M H Q Q' _ _ _ m rs z q=>by
 unfold z1 at z;split at z
 ·rename_i d;obtain⟨x,rfl,r⟩:=b5 rs;unfold zTuple at z;split at z
  ·rename_i ds jw;obtain⟨a,vs,rfl,ha,cx⟩:=gS m r jw;refine⟨a,vs,rfl,?_⟩;rcases ha with ha|ha
   ·refine .inl ⟨bG.of ha,fun l hl=>?_⟩
    have x2:=Ex.lay m hl (.tup vs);exact q _ _ _ _ x2 (d9 (m.fz hl) aE (cx.ex x2)) z
   ·refine .inr ⟨bC.of ha,?_⟩;have f:Fz β M a :=by
     cases d with
     |tup es=>obtain⟨b,us,e,f,_⟩:=bg r;cases e;exact f
     |lst es=>obtain⟨b,us,e,f,_⟩:=gh r;cases e;exact f
     |ptr b=>
      obtain⟨e,hs⟩:=bq r;cases e;cases q2:M a with
      |none=>rw[q2]at hs;cases hs
      |some o=>have:=m.mi ha rfl;rw[q2]at this;cases this
     |_=>cases jw
    exact q _ _ _ _ (.refl m) (d9 f ha cx) z
  ·exact z.elim
 ·exact z.elim⟩
def fh:List Dv->Option (List Int)
 | []=>some []
 | .int i::ds=>(fh ds).map (i::·)
 |_::_=>none
theorem uy:∀{ds:List Dv}{ns:List Int},fh ds=some ns->ds=ns.map Dv.int
 | [],ns,h=>by simp only[fh,No]at h;subst h;rfl
 |d::ds,ns,h=>by
          cases d with
          |int i=>
           simp only[fh,lc]at h;obtain⟨ms,h,rfl⟩:=h;rw[uy h];rfl
          |_=>simp[fh]at h
theorem ip:∀ns:List Int,fh (ns.map Dv.int)=some ns
 | []=>rfl
 |n::ns=>by simp[fh,ip ns]
theorem eZ {M:Mh}{H:Hp}:∀{vs:List V}{ns:List Int},aJ β M H vs (ns.map Dv.int)->vs=ns.map V.int
 | [],[],_=>rfl
 | [],_::_,r=>absurd r.len (by simp)
 |_::_,[],r=>absurd r.len (by simp)
 |v::vs,n::ns,r=>by
          rw[xy]at r;rw[xy,aC r.head,eZ r.tail]
theorem n5 {M:Mh}{H:Hp}:∀{ns:List Int},aJ β M H (ns.map V.int) (ns.map Dv.int)
 | []=>.nil
 |n::ns=>.cons (.int _) n5
def intsM (M:Mh) (d:Dv):Option (List Int):=match d with | .set ns=>some ns|_=>(itemsM M d).bind fh
def zSorted (d:Dv) (M:Mh) (Q:ZK):Prop:=match intsM M d with|some ns=>ns.length<64/\Q (.lst ((sortI ns).map .int)) M|none=>False
theorem rJ {M:Mh}{H:Hp}{x:V}{d:Dv}{ns:List Int}(m:Mz β M H) (r:Rz β M H x d) (h:(itemsM M d).bind fh=some ns):∃a,x=.ref a/\(H a=some (.lst (ns.map V.int))\/H a=some (.tup (ns.map V.int))) :=by
 cases e:itemsM M d with
 |none=>rw[e]at h;cases h
 |some ds=>
  rw[e]at h;obtain⟨a,vs,rfl,ha,rs⟩:=gS m r e;have e2:=uy (ns:=ns) h;subst e2;have:=eZ rs;subst this;exact⟨a,rfl,ha⟩
theorem n6 (hP:X.prog=Γ.P) (hw:X.w=Γ.w) (hK:X.K=K) (hc:X.calm=true):eO Γ X (.builtin "sorted") (z1 zSorted):=⟨_,sh hP hw hK hc,fun β xs ds M H Q Q' eP ew _ m rs z q=>by
 unfold z1 at z;split at z
 ·rename_i d;obtain⟨x,rfl,r⟩:=b5 rs;unfold zSorted at z;split at z
  ·rename_i ns jx;have fin:∀l,H l=none->Q (.ref l) (upd H l (.lst ((sortI ns).map V.int))):=fun l hl=>by
    have x2:=Ex.lay m hl (.lst ((sortI ns).map V.int));exact q _ _ _ _ x2 (pz (m.fz hl) aE n5) z.2
   unfold intsM at jx;split at jx
   ·cases jx;obtain⟨a,rfl,f,h⟩:=AI r;rw[eP,ew]at h;exact⟨a,_,rfl,.inl h,z.1,fin⟩
   ·obtain⟨a,rfl,ha⟩:=rJ m r jx;exact⟨a,_,rfl,.inr (ha.imp bG.of bC.of),z.1,fin⟩
  ·exact z.elim
 ·exact z.elim⟩
def zSet (d:Dv) (M:Mh) (Q:ZK):Prop:=match (itemsM M d).bind fh with|some ns=>ns.length+1<scanBound/\Q (.set (cC ns)) M|none=>False
theorem LZ (hP:X.prog=Γ.P) (hw:X.w=Γ.w) (hK:X.K=K) (hc:X.calm=true):eO Γ X (.type "set") (z1 zSet) :=by
 refine⟨t8 Γ.P Γ.w K,by rw[<- hP,<- hw];exact yf hK hc,fun β xs ds M H Q Q' eP ew _ m rs z q=>?_⟩
 unfold z1 at z;split at z
 ·rename_i d;obtain⟨x,rfl,r⟩:=b5 rs;unfold zSet at z;split at z
  ·rename_i ns jx;obtain⟨a,rfl,ha⟩:=rJ m r jx;refine⟨a,ns,rfl,ha.imp bG.of bC.of,z.1,fun l hl=>?_⟩
   have x2:=Ex.lay m hl (nQ Γ.P Γ.w l (cC ns));exact q _ _ _ _ x2 (.set (m.fz hl) (by rw[eP,ew];exact aE)) z.2
  ·exact z.elim
 ·exact z.elim
def isD (T:String) (M:Mh) (d:Dv):Option Bool:=match d with
 | .int _=>some (T == "int") | .bl _=>some (T == "int" || T == "bool") | .ai=>some false | .str _=>some (T == "str") | .tup _=>some (T == "tuple") | .lst _=>some (T == "list") | .ptr a=>(match M a with|some (.lst _)=>some (T == "list")|some .dj=>some (T == "list")|some (.ts _ _)=>none|some _=>some false|none=>none)|_=>none
def qw:List String:=["int","bool","str","tuple","list"]
def zIsInst:pB:=fun ds M Q=>match ds with | [d,.raw (.ty T)]=>T∈qw/\(match isD T M d with|some b=>Q (.bl b) M|none=>False)|_=>False
theorem JK {K:bn}{M:Mh}{H:Hp}{x:V}{d:Dv}{T:String}{b:Bool}(m:Mz β M H) (hT:T∈qw) (r:Rz β M H x d) (h:isD T M d=some b):∃t,fQ K H x t/\UU K t (.type T)=some b :=by
 have mh:T = "int" \/ T = "bool" \/ T = "str" \/ T = "tuple" \/ T = "list" := by simpa[qw] using hT
 cases r with
 |int i=>cases h;exact⟨_,.int i,by rcases mh with rfl|rfl|rfl|rfl|rfl<;>rfl⟩
 |bl i=>cases h;exact⟨_,.bl i,by rcases mh with rfl|rfl|rfl|rfl|rfl<;>rfl⟩
 |ai=>cases h;exact⟨_,.ai,by rcases mh with rfl|rfl|rfl|rfl|rfl<;>rfl⟩
 |str i=>cases h;exact⟨_,.str i,by rcases mh with rfl|rfl|rfl|rfl|rfl<;>rfl⟩
 |tup f e hl q=>cases h;exact⟨_,.tup e,by rcases mh with rfl|rfl|rfl|rfl|rfl<;>rfl⟩
 |lst f e hl q=>cases h;exact⟨_,.lst e,by rcases mh with rfl|rfl|rfl|rfl|rfl<;>rfl⟩
 |ptr hs=>
  rename_i a;cases q2:M a with
  |none=>rw[q2]at hs;cases hs
  |some o=>
   simp only[isD,q2]at h;have q:=m.obj a o q2;cases o with
   |lst ds=>obtain⟨vs,e,_⟩:=q;cases h;exact⟨_,.lst e,by rcases mh with rfl|rfl|rfl|rfl|rfl<;>rfl⟩
   |dj=>obtain⟨_,_,e,_⟩:=q;cases h;exact⟨_,.lst e,by rcases mh with rfl|rfl|rfl|rfl|rfl<;>rfl⟩
   |dk ks ds=>obtain⟨vs,e,_⟩:=q;cases h;exact⟨_,.dK e,by rcases mh with rfl|rfl|rfl|rfl|rfl<;>rfl⟩
   |dt ks ds=>obtain⟨vs,e,_⟩:=q;cases h;exact⟨_,.dT e,by rcases mh with rfl|rfl|rfl|rfl|rfl<;>rfl⟩
   |ts ks ds=>cases h
 |set f e=>cases h
 |exc f e=>cases h
 |bo f e=>cases h
 |cK f e=>cases h
 |cL e=>cases h
 |raw v=>cases h
 |dk f e _ _ _=>cases h
 |dt f e _ _ _=>cases h
 |c9 _ _ _ _ _ _=>cases h
theorem jh (hK:X.K=K):eO Γ X (.builtin "isinstance") zIsInst:=⟨_,tP hK,fun β xs ds M H Q Q' _ _ _ m rs z q=>by
 unfold zIsInst at z;split at z
 ·obtain⟨x,y,rfl,r,r'⟩:=mS rs;rw[AH r'];obtain⟨hT,z⟩:=z;split at z
  ·rename_i b hb;obtain⟨t,ht,hk⟩:=JK (K:=K) m hT r hb;exact⟨_,_,t,b,rfl,ht,hk,q _ _ _ _ (.refl m) (.bl _) z⟩
  ·exact z.elim
 ·exact z.elim⟩
abbrev pF:=Dv->List Dv->Mh->ZK->Prop
def wR (Γ:Gz) (X:Cx) (T id:String) (K:bn) (z:pF):Prop:=∃r,zJ X id r/\∀(β:Bz) x xs d ds M H Q Q',β.P=Γ.P->β.w=Γ.w->β.K=Γ.K->Mz β M H->Rz β M H x d->aJ β M H xs ds->z d ds M Q'->(∀d' M' v H',Ex β M H M' H'->Rz β M' H' v d'->Q' d' M'->Q v H')->r x xs H Q
def tyZ (T:String) (M:Mh):Dv->Prop
 | .ptr a=>match M a with|some (.lst _)=>T = "list" |some .dj=>T = "list" |some (.dk _ _)=>T = "dict" |some (.dt _ _)=>T = "dict" |some (.ts _ _)=>False|none=>False
 | .lst _=>T = "list"
 | .tup _=>T = "tuple"
 | .str _=>T = "str"
 |_=>False
theorem JL {M:Mh}{H:Hp}{x:V}{d:Dv}{T:String}(m:Mz β M H) (r:Rz β M H x d) (h:tyZ T M d):HY K T x H :=by
 cases r with
 |str=>exact h
 |lst f e _ _=>exact .inl ⟨h,_,bG.of e⟩
 |tup f e _ _=>exact .inr (.inl ⟨h,.inr ⟨_,e⟩⟩)
 |ptr hs=>
  rename_i a;cases q2:M a with
  |none=>rw[q2]at hs;cases hs
  |some o=>
   simp only[tyZ,q2]at h;have q:=m.obj a o q2;cases o with
   |lst ds=>obtain⟨vs,e,_⟩:=q;exact .inl ⟨h,_,bG.of e⟩
   |dj=>obtain⟨_,_,e,_⟩:=q;exact .inl ⟨h,_,bG.of e⟩
   |dk ks ds=>obtain⟨vs,e,_⟩:=q;exact .inr (.inr (.inl ⟨h,.inl ⟨_,e⟩⟩))
   |dt ks ds=>obtain⟨vs,e,_⟩:=q;exact .inr (.inr (.inl ⟨h,.inr ⟨_,e⟩⟩))
   |ts ks ds=>exact h.elim
 |_=>exact h.elim
def zBM (T:String) (z:pF) (po:aM) (pa:eW):aM:=fun ρ M Q=>po ρ M fun d M1=>tyZ T M1 d/\pa ρ M1 fun ds M2=>z d ds M2 Q
section
variable {o e:gl}{es:List gl}{po:aM}{pa:eW}{name:db}{apos aR:ze}{T id:String}{z:pF}
theorem iL (h:X.K=K) (pat:PlainAttrs T) (slot:Slot T name id) (zL:typeOf (.builtin id)=pure (.type "method_descriptor")) (hm:wR Γ X T id K z) (ho:QE Γ X o po) (ha:QA Γ X (e::es) pa) (iG:attributeBase o name X.env (eval o X.env)=eval o X.env :=by rfl)
  (kg:((backTo aR (starEach (e::es) X.env)).all (fun x => !x.1) && (backToKw aR (keywordEach [] X.env)).all (fun x=>x.1.isSome)
   && decide ((e::es).length+([]:List RS).length+(if ([]:List RS).isEmpty then 0 else 1)<30))=true :=by rfl)
  (hline:(apos.endLine==aR.line)=true :=by rfl) (hs:starEach (e::es) X.env=(false,eval e X.env)::starEach es X.env :=by rfl) (gr:(backTo aR (starEach es X.env)).any (·.1)=false :=by rfl) :
  QE Γ X (.Call (.Attribute o name apos) (e::es) [] aR) (zBM T z po pa) :=by
 obtain⟨r,h1,h2⟩:=hm;exact(IA h pat slot zL h1 ho ha iG kg hline hs gr).imp fun σ H Q ⟨β,ρ,M,Q',zr,h,q⟩=>⟨β,ρ,M,_,zr,h,fun d M1 v H1 x1 r1 ⟨ht,h1⟩=>⟨JL x1.mz r1 ht,β,ρ,M1,_,zr.step x1,h1,fun ds M2 vs H2 x2 r2 h3=>
  h2 β v vs d ds M2 H2 _ _ zr.eP zr.ew zr.eK x2.mz (r1.ex x2) r2 h3 fun d' M' v' H' x3 r3 q3=>q _ _ _ _ (x1.trans (x2.trans x3)) r3 q3⟩⟩
end
def zAppend:pF:=fun d ds M Q=>match d,ds with | .ptr a,[y]=>(match M a with|some (.lst xs)=>xs.length<sizeLine/\Q .ai (aw M a (.lst (xs++[y])))|_=>False)|_,_=>False
theorem kI:wR Γ X "list" "list.append" K zAppend:=⟨_,qY,fun β x xs d ds M H Q Q' _ _ _ m r rs z q=>by
 unfold zAppend at z;split at z
 ·rename_i a y;split at z
  ·rename_i es he;obtain⟨e,hs⟩:=bq r;obtain⟨v,e2,rv⟩:=b5 rs;subst e e2;obtain⟨vs,hv,cx⟩:=m.obj a _ he;refine⟨a,vs,v,rfl,rfl,hv,by rw[cx.len];exact z.1,?_⟩
   exact q _ _ _ _ (Ex.own m (.inl hs) (cx.snoc rv)) .ai z.2
  ·exact z.elim
 ·exact z.elim⟩
def zExtend:pF:=fun d ds M Q=>match d,ds with | .ptr a,[y]=>(match M a,itemsM M y with|some (.lst xs),some ys=>(∀t,y≠.tup t)/\xs.length+ys.length<=sizeLine/\Q .ai (aw M a (.lst (xs++ys)))|_,_=>False)|_,_=>False
theorem uz:wR Γ X "list" "list.extend" K zExtend:=⟨_,zM,fun β x xs d ds M H Q Q' _ _ _ m r rs z q=>by
 unfold zExtend at z;split at z
 ·rename_i a y;split at z
  ·rename_i es ys he hy;obtain⟨e,hs⟩:=bq r;obtain⟨v,e2,rv⟩:=b5 rs;subst e e2;obtain⟨vs,hv,cx⟩:=m.obj a _ he;obtain⟨b,us,rfl,hb,NI⟩:=gS m rv hy;have bJ:H b=some (.lst us) :=by
    rcases hb with hb|hb
    ·exact hb
    ·exfalso
     cases y with
     |tup t=>exact z.1 t rfl
     |lst t=>obtain⟨c,_,e,_,h,_⟩:=gh rv;cases e;rw[hb]at h;cases h
     |ptr c=>
      obtain⟨e,hs⟩:=bq rv;cases e;cases q2:M b with
      |none=>rw[q2]at hs;cases hs
      |some o=>have:=m.mi hb rfl;rw[q2]at this;cases this
     |_=>cases hy
   refine⟨a,b,vs,us,rfl,rfl,hv,bJ,by rw[cx.len,NI.len];exact z.2.1,?_⟩
   exact q _ _ _ _ (Ex.own m (.inl hs) (cx.append NI)) .ai z.2.2
  ·exact z.elim
 ·exact z.elim⟩
def zPop:pF:=fun d ds M Q=>match d,ds with | .ptr a,[]=>(match M a with|some (.lst xs)=>(match xs[xs.length - 1]? with|some y=>Q y (aw M a (.lst xs.dropLast))|none=>False)|_=>False)|_,_=>False
def zPopAt:pF:=fun d ds M Q=>match d,ds with | .ptr a,[.int i]=>(match M a with|some (.lst xs) => -(2 ^ 63)<=i/\i<2 ^ 63/\(match seqIndex? i xs.length with|some k=>(match xs[k]? with|some y=>Q y (aw M a (.lst (xs.eraseIdx k)))|none=>False)|none=>False)|_=>False)|_,_=>False
theorem aJ.eraseIdx {M:Mh}{H:Hp}{vs:List V}{ds:List Dv}(h:aJ β M H vs ds) (k:Nat):aJ β M H (vs.eraseIdx k) (ds.eraseIdx k) :=by
 rw[GE,GE];exact(h.take _).append (h.drop _)
theorem F2:wR Γ X "list" "list.pop" K zPopAt:=⟨_,Cr,fun β x xs d ds M H Q Q' _ _ _ m r rs z q=>by
 unfold zPopAt at z;split at z
 ·rename_i a i;split at z
  ·rename_i es he;obtain⟨b1,b2,z⟩:=z;split at z
   ·rename_i k hk;split at z
    ·rename_i y hy;obtain⟨e,hs⟩:=bq r;obtain⟨v0,e2,JM⟩:=b5 rs;subst e e2;rw[aC JM];obtain⟨vs,hv,cx⟩:=m.obj a _ he;obtain⟨v,QU,rv⟩:=cx.get hy;refine⟨a,vs,i,k,v,rfl,rfl,hv,b1,b2,by rw[cx.len];exact hk,QU,?_⟩
     have x2:=Ex.own m (.inl hs) (cx.eraseIdx k);exact q _ _ _ _ x2 (rv.ex x2) z
    ·exact z.elim
   ·exact z.elim
  ·exact z.elim
 ·exact z.elim⟩
def zSetI:Dv->Dv->Dv->Mh->(Mh->Prop)->Prop:=fun o i v M N=>match o,i with | .ptr a,.int k=>(match M a with|some (.lst xs)=>(match gq xs.length k with|some j=>N (aw M a (.lst (xs.set j v)))|none=>False)|_=>False)|_,_=>False
def zgSub (po pi:aM):cN:=fun d ρ M N=>po ρ M fun o M1=>pi ρ M1 fun i M2=>zSetI o i d M2 fun M3=>N ρ M3
theorem mC {o i:gl}{po pi:aM}{pos:ze}(ho:QE Γ X o po) (hi:QE Γ X i pi)
  (ha:∀v,assign (.Subscript o i pos) X.env v=(do
   let ov <- holding [v] (eval o X.env)
   let iv <- holding [v,ov] (eval i X.env)
   standAt pos
   holding [v,ov,iv] (setItem ov iv v)
   release [v,ov,iv] []) :=by intro _;rfl):QG Γ X (.Subscript o i pos) (zgSub po pi):=
 (Ho ho hi set_list ha).imp fun v σ H N ⟨β,d,ρ,M,N',zr,r,h,q⟩=>⟨β,ρ,M,_,zr,h,fun od M1 ov H1 x1 r1 h1=>⟨β,ρ,M1,_,zr.step x1,h1,fun Sd M2 iv H2 x2 r2 h2=>by
  unfold zSetI at h2;split at h2
  ·rename_i a k;split at h2
   ·rename_i es he;split at h2
    ·rename_i j hj;obtain⟨e,hs⟩:=bq (r1.ex x2);subst e;rw[aC r2];obtain⟨vs,hv,cx⟩:=x2.mz.obj a _ he;have x3:=Ex.own x2.mz (.inl hs) (cx.set j ((r.ex x1).ex x2));exact⟨a,vs,k,j,rfl,rfl,hv,by rw[cx.len];exact hj,q _ _ _ _ (x1.trans (x2.trans x3)) (((zr.step x1).step x2).step x3) h2⟩
    ·exact h2.elim
   ·exact h2.elim
  ·exact h2.elim⟩⟩
end
end L2
namespace L2
open PySem PySem.Spec PySem.W PyProof.Rows
abbrev ZX:=ap->Mh->Prop
abbrev ez:=List Dv->Mh->ZK->ZX->Prop
def aX (P:ii) (w:ij) (K:bn) (tb:dR) (S:ez):Sp:=fun vs H Q E=>∃(β:Bz) (ds:List Dv) (M:Mh) (Q':ZK) (E':ZX),β.P=P/\β.w=w/\β.K=K/\β.tb=tb/\Mz β M H/\aJ β M H vs ds/\S ds M Q' E' /\
 (∀d M' v H',Ex β M H M' H'->Rz β M' H' v d->Q' d M'->Q v H')/\∀C M' H',Ex β M H M' H'->E' C M'->E (.ref C) none H'
theorem Rz.kJ {β:Bz}{M0 M:Mh}{H:Hp}(dom:∀a,(M0 a).isSome=true->(M a).isSome=true) {v:V}{d:Dv}(h:Rz β M H v d):Pin M0 d->Rz β M0 H v d :=by
 have ne:∀a,Fz β M a->Fz β M0 a:=fun a m=>⟨(by
  cases e:M0 a with
  |none=>rfl
  |some o=>have:=dom a (by rw[e];rfl);rw[m.1]at this;cases this),m.2⟩
 induction h with
 |int i=>exact fun _=>.int i
 |bl b=>exact fun _=>.bl b
 |ai=>exact fun _=>.ai
 |str z=>exact fun _=>.str z
 |tup m e hl h ih=>
  intro p;cases p with
  |tup p=>exact .tup (ne _ m) e hl fun i v d a b=>ih i v d a b (p d (im b))
 |lst m e hl h ih=>
  intro p;cases p with
  |lst p=>exact .lst (ne _ m) e hl fun i v d a b=>ih i v d a b (p d (im b))
 |set m e=>exact fun _=>.set (ne _ m) e
 |ptr m=>intro p;cases p with|ptr p=>exact .ptr p
 |exc m e=>exact fun _=>.exc (ne _ m) e
 |bo m e=>exact fun _=>.bo (ne _ m) e
 |cK m e=>exact fun _=>.cK (ne _ m) e
 |cL e=>exact fun _=>.cL e
 |dk m e hk hl h ih=>
  intro p;cases p with
  |dk p=>exact .dk (ne _ m) e hk hl fun i v d a b=>ih i v d a b (p d (im b))
 |dt m e hk hl h ih=>
  intro p;cases p with
  |dt p=>exact .dt (ne _ m) e hk hl fun i v d a b=>ih i v d a b (p d (im b))
 |c9 m e m2 e2 hl h ih=>
  intro p;cases p with
  |c9 p=>exact .c9 (ne _ m) e (ne _ m2) e2 hl fun i v d a b=>ih i v d a b (p d (im b))
 |raw v=>exact fun _=>.raw v
inductive lj (M0 M:Mh):Dv->Dv->Prop where
 |pin {d:Dv} (h:Pin M0 d):lj M0 M d d
 |ptr {a:ap} {ds gf:List Dv} (h0:M0 a=none) (h:M a=some (.lst ds)) (hl:ds.length=gf.length) (r:∀(i:Nat) (d d':Dv),ds[i]?=some d->gf[i]?=some d'->lj M0 M d d'):lj M0 M (.ptr a) (.lst gf)
 |tup {ds gf:List Dv} (hl:ds.length=gf.length) (r:∀(i:Nat) (d d':Dv),ds[i]?=some d->gf[i]?=some d'->lj M0 M d d'):lj M0 M (.tup ds) (.tup gf)
 |dk {a:ap} {ks:List Key} {ds gf:List Dv} (h0:M0 a=none) (h:M a=some (.dk ks ds)) (hl:ds.length=gf.length) (r:∀(i:Nat) (d d':Dv),ds[i]?=some d->gf[i]?=some d'->lj M0 M d d'):lj M0 M (.ptr a) (.dk ks gf)
 |dt {a:ap} {ks:List (List Key)} {ds gf:List Dv} (h0:M0 a=none) (h:M a=some (.dt ks ds)) (hl:ds.length=gf.length) (r:∀(i:Nat) (d d':Dv),ds[i]?=some d->gf[i]?=some d'->lj M0 M d d'):lj M0 M (.ptr a) (.dt ks gf)
theorem lj.rz {β:Bz}{M0 M:Mh}{H:Hp}(mz:Mz β M H) (dom:∀a,(M0 a).isSome=true->(M a).isSome=true) {d d':Dv}(h:lj M0 M d d'):∀{v:V},Rz β M H v d->Rz β M0 H v d':=by
 induction h with
 |pin h=>exact fun r=>r.kJ dom h
 |ptr h0 h hl r ih=>
  intro v r;obtain⟨rfl,_⟩:=bq r;obtain⟨vs,hv,rs⟩:=mz.obj _ _ h;refine .lst ⟨h0,mz.apart _ _ h⟩ hv (rs.len.trans hl) fun i v d a b=>?_
  obtain⟨d0,q,rd⟩:=rs.get' a;exact ih i d0 d q b rd
 |dk h0 h hl r ih=>
  intro v r;obtain⟨rfl,_⟩:=bq r;obtain⟨vs,hv,hk,rs⟩:=mz.obj _ _ h;refine .dk ⟨h0,mz.apart _ _ h⟩ (.inl hv) hk (rs.len.trans hl) fun i v d a b=>?_
  obtain⟨d0,q,rd⟩:=rs.get' a;exact ih i d0 d q b rd
 |dt h0 h hl r ih=>
  intro v r;obtain⟨rfl,_⟩:=bq r;obtain⟨vs,hv,hk,rs⟩:=mz.obj _ _ h;refine .dt ⟨h0,mz.apart _ _ h⟩ (.inl hv) hk (rs.len.trans hl) fun i v d a b=>?_
  obtain⟨d0,q,rd⟩:=rs.get' a;exact ih i d0 d q b rd
 |tup hl r ih=>
  intro v r;obtain⟨a,vs,rfl,f,hv,rs⟩:=bg r;refine .tup ⟨?_,f.2⟩ hv (rs.len.trans hl) fun i v d a b=>?_
  ·cases e:M0 a with
   |none=>rfl
   |some o=>have:=dom a (by rw[e];rfl);rw[f.1]at this;cases this
  ·obtain⟨d0,q,rd⟩:=rs.get' a;exact ih i d0 d q b rd
def mD (M0:Mh) (Q:ZK):ZK:=fun d M=>Q d M\/((∀a o,M0 a=some o->M a=some o)/\∃d',lj M0 M d d'/\Q d' M0)
theorem wU {β:Bz}{M0 M:Mh}{H0 H:Hp}{Q':ZK}{Q:VK}(m0:Mz β M0 H0) (q:∀d M' v H',Ex β M0 H0 M' H'->Rz β M' H' v d->Q' d M'->Q v H') {d:Dv}{v:V}(x:Ex β M0 H0 M H) (r:Rz β M H v d) (h:mD M0 Q' d M):Q v H :=by
 rcases h with h|⟨same,d',rv,h⟩
 ·exact q _ _ _ _ x r h
 ·refine q d' M0 v H ⟨⟨x.keep,fun _ h=>h,fun _ _ h _=>h⟩,fun a o e=>?_,x.mz.tabs,x.mz.hids,m0.apart,x.mz.lams⟩ (rv.rz x.mz x.dom r) h
  have z:=x.mz.obj a o (same a o e);have z0:=m0.obj a o e;cases o with
  |lst ds=>
   obtain⟨vs,z,rs⟩:=z;obtain⟨Ez,_,uA⟩:=z0;refine⟨vs,z,rs.len,fun i v d a b=>(rs.at' i v d a b).kJ x.dom ?_⟩
   obtain⟨v0,_,r0⟩:=uA.get b;exact r0.pin
  |dk ks ds=>
   obtain⟨vs,z,hk,rs⟩:=z;obtain⟨Ez,_,_,uA⟩:=z0;refine⟨vs,z,hk,rs.len,fun i v d a b=>(rs.at' i v d a b).kJ x.dom ?_⟩
   obtain⟨v0,_,r0⟩:=uA.get b;exact r0.pin
  |dt ks ds=>
   obtain⟨vs,z,hk,rs⟩:=z;obtain⟨Ez,_,_,uA⟩:=z0;refine⟨vs,z,hk,rs.len,fun i v d a b=>(rs.at' i v d a b).kJ x.dom ?_⟩
   obtain⟨v0,_,r0⟩:=uA.get b;exact r0.pin
  |ts ks ds=>
   obtain⟨vs,z,hk,rs⟩:=z;obtain⟨Ez,_,_,uA⟩:=z0;refine⟨vs,z,hk,rs.len,fun i v d a b=>(rs.at' i v d a b).kJ x.dom ?_⟩
   obtain⟨v0,_,r0⟩:=uA.get b;exact r0.pin
  |dj=>exact z
def zstart (N:List db) (ds:List Dv):az:=ds.map some++lv (N.length - ds.length) none
theorem uB {Γ:Gz}{N:List db}{vs:List V}{ds:List Dv}(m:Mz Γ.toBz Γ.M0 Γ.H0) (rs:aJ Γ.toBz Γ.M0 Γ.H0 vs ds):Zr Γ Γ.toBz Γ.M0 (zstart N ds) (start N vs) Γ.H0:=⟨rfl,rfl,rfl,rfl,fun _ h=>h,m.wf,.refl,m,by simp[zstart,start,rs.len],fun i d e=>by
 unfold zstart at e;unfold start;rw[UK]at e ⊢;rw[cb]at e ⊢;rw[rs.len];split at e
 ·rename_i hi;rw[if_pos hi];rw[cr,lc]at e;obtain⟨d2,e,e2⟩:=e;cases e2;obtain⟨v,hv,r⟩:=rs.get e;exact⟨v,by rw[cr,hv];rfl,r⟩
 ·rw[SJ]at e;split at e<;>cases e⟩
def zEndsOf (M0:Mh) (Q:ZK):fL:={nx:=fun _ M=>mD M0 Q .ai M,rt:=mD M0 Q}
def XR (Γ:Gz) (E':ZX) (E:XK):Prop:=∀C M' H',Ex Γ.toBz Γ.M0 Γ.H0 M' H'->E' C M'->E (.ref C) none H'
section
variable {P:ii}{w:ij}{K:bn}{mg:db->Option am}{base:i0}{tb:dR}{x:db}{st:wp}{f:ap}{fd:rc}{N ps:List db}{k:Nat}{S:ez}
theorem wV (len:∀ds M Q E,S ds M Q E->ds.length=ps.length):∀vs H Q E,aX P w K tb S vs H Q E->vs.length=ps.length:=fun vs H Q E hS=>by
 obtain⟨β,ds,M,Q',E',_,_,_,_,m,rs,s,_⟩:=hS;exact rs.len.trans (len _ _ _ _ s)
theorem gC (D:Df K mg x st ps f fd) (sc:aZ N ps (au st)) (len:∀ds M Q E,S ds M Q E->ds.length=ps.length)
  (body:∀(A:mf) (outer:List SM) (s:ar) (E:XK) (Γ:Gz) (ds:List Dv) (Q':ZK) (E':ZX),P=Γ.P->w=Γ.w->K=Γ.K->tb=Γ.tb->cB k (A.deeper (envOfC x (au st) s.heap.objs.size f fd.code))->S ds Γ.M0 Q' E'->
   ∃p,mn Γ (fR bF P w K mg base N x (au st) f fd.code A outer s Γ.H0 E).nh (dq st) p/\p (zEndsOf Γ.M0 Q') (zstart N ds) Γ.M0):FnOk P w K mg base bF (k+1) f fd ps (aX P w K tb S) :=by
 refine D.fn.Qa sc (wV len) fun A outer s H vs Q E hr h=>?_
 obtain⟨β,ds,M,Q',E',eP,ew,eK,et,m,rs,hS,q,_⟩:=h;obtain⟨p,hp,hq⟩:=body A outer s E ⟨β,M,H⟩ ds Q' E' eP.symm ew.symm eK.symm et.symm hr hS;refine⟨_,hp,β,zstart N ds,M,zEndsOf M Q',uB (Γ:=⟨β,M,H⟩) m rs,hq,?_⟩;have fin:∀d M' v H',Ex β M H M' H'->Rz β M' H' v d->mD M Q' d M'->Q v H':=fun d M' v H' x r h=>wU m q x r h
 exact⟨fun bP M' aG H' x zr h=>fin _ _ _ _ ⟨zr.ent,x.mz⟩ .ai h,fun d M' v H' x e r h=>fin _ _ _ _ ⟨e,x.mz⟩ r h,fun _ _ _ _ _ _ h=>h,fun _ _ _ _ _ _ h=>h⟩
theorem sJ (D:Df K mg x st ps f fd) (sc:aZ N ps (au st)) (len:∀ds M Q E,S ds M Q E->ds.length=ps.length)
  (body:∀(A:mf) (outer:List SM) (s:ar) (E:XK) (Γ:Gz) (ds:List Dv) (Q':ZK) (E':ZX),P=Γ.P->w=Γ.w->K=Γ.K->tb=Γ.tb->XR Γ E' E->cB k (A.deeper (envOfC x (au st) s.heap.objs.size f fd.code))->S ds Γ.M0 Q' E'->
   ∃p,mn Γ (fR (d8 P w) P w K mg base N x (au st) f fd.code A outer s Γ.H0 E) (dq st) p/\p (zEndsOf Γ.M0 Q') (zstart N ds) Γ.M0):FnOk P w K mg base (d8 P w) (k+1) f fd ps (aX P w K tb S) :=by
 refine D.fn.zZ sc (wV len) fun A outer s H vs Q E hr h=>?_
 obtain⟨β,ds,M,Q',E',eP,ew,eK,et,m,rs,hS,q,qx⟩:=h;obtain⟨p,hp,hq⟩:=body A outer s E ⟨β,M,H⟩ ds Q' E' eP.symm ew.symm eK.symm et.symm qx hr hS;refine⟨_,hp,β,zstart N ds,M,zEndsOf M Q',uB (Γ:=⟨β,M,H⟩) m rs,hq,?_⟩;have fin:∀d M' v H',Ex β M H M' H'->Rz β M' H' v d->mD M Q' d M'->Q v H':=fun d M' v H' x r h=>wU m q x r h
 exact⟨fun bP M' aG H' x zr h=>fin _ _ _ _ ⟨zr.ent,x.mz⟩ .ai h,fun d M' v H' x e r h=>fin _ _ _ _ ⟨e,x.mz⟩ r h,fun _ _ _ _ _ _ h=>h,fun _ _ _ _ _ _ h=>h⟩
end
section
variable {X:Cx}{Γ:Gz}{β:Bz}{K:bn}
def zCall (S:ez) (E':ZX) (za:eW):aM:=fun ρ M Q=>za ρ M fun ds M1=>S ds M1 Q E'
theorem XR.none:XR Γ (fun _ _=>False) (fun _ _ _=>False):=fun _ _ _ _ h=>h
theorem A1 {M M1 M2:Mh}{H H1 H2:Hp}(ent:Ey M H M1 H1) (sub:∀a,a∈Γ.hid->a∈β.hid) (eP:β.P=Γ.P) (ew:β.w=Γ.w) (eK:β.K=Γ.K) (et:β.tb=Γ.tb) (x:Ex β M1 H1 M2 H2):Ex Γ.toBz M H M2 H2:=⟨ent.trans x.toEy,x.mz.sub eP.symm ew.symm eK.symm et.symm sub⟩
section
variable {CX:jR}{k:Nat}{f:ap}{fd:rc}{ps:List db}{S:ez}{E:XK}{E':ZX}{x:db}{p pos:ze}{e:gl}{es:List gl}{za:eW}{P:ii}{w:ij}{tb:dR}
theorem JN (hP:P=Γ.P) (hw:w=Γ.w) (hK:K=Γ.K) (ht:tb=Γ.tb) (hE:XR Γ E' E) {σ:St}{H:Hp}{Q:VK}(h:lE Γ (zCall S E' za) σ H Q):Ea (aX P w K tb S) [] E (lA Γ za) σ H Q :=by
 subst hP hw hK ht;obtain⟨β,ρ,M,Q',zr,h,q⟩:=h;refine⟨β,ρ,M,_,zr,h,fun ds M1 vs H1 x1 r1 h1=>?_⟩
 show aX Γ.P Γ.w Γ.K Γ.tb S (vs++[]) H1 Q E;rw[AN];exact⟨β,ds,M1,Q',E',zr.eP,zr.ew,zr.eK,zr.et,x1.mz,r1,h1,fun d M2 v H2 x2 r2 h2=>q _ _ _ _ (x1.trans x2) r2 h2,fun C M2 H2 x2 h2=>hE C M2 H2 (A1 zr.ent zr.sub zr.eP zr.ew zr.eK zr.et (x1.trans x2)) h2⟩
theorem aB (F:FnOk X.prog X.w X.K X.mg X.base CX k f fd ps (aX P w K tb S)) (hr:cB k X.A) (hg:Gl X x) (hm:X.mg x=some (.ref f)) (hk:S3 X.K (.ref f)=true) (hb:Binds X.K fd ps []) (hx:Passes CX X E) (hP:P=Γ.P) (hw:w=Γ.w) (hK:K=Γ.K) (ht:tb=Γ.tb) (hE:XR Γ E' E)
  (ha:QA Γ X (e::es) za) (fE:(x==("__debug__" : db))=false :=by decide) (he:starEach (e::es) X.env=(false,eval e X.env)::starEach es X.env :=by rfl) (cY:(backTo pos (starEach es X.env)).any (·.1)=false :=by rfl) :
  QE Γ X (.Call (.Name x p) (e::es) [] pos) (zCall S E' za):=(Fm F hr hg hm hk hb .nil hx ha fE he cY).imp fun σ H Q h=>JN hP hw hK ht hE h
end
def zRaise (C:ap) (E':ZX) (za:eW):cj:=fun _ ρ M=>za ρ M fun ds M1=>ds.length<=sizeLine/\E' C M1
theorem uC {x:db}{C:ap}{jM:gl}{rest:List gl}{za:eW}{rq:List am}{B newId ub:String}{E:XK}{E':ZX}{np aR pos:ze}(O:Vb X.K C rq newId=true) (FB:ExcBaseFacts B newId ub rq) (hc:X.calm=true) (hR:Raises X E) (hE:XR Γ E' E) (hg:Gl X x) (hm:X.mg x=some (.ref C)) (ha:QA Γ X (jM::rest) za)
  (fE:(x==("__debug__" : db))=false :=by decide) (he:starEach (jM::rest) X.env=(false,eval jM X.env)::starEach rest X.env :=by rfl) (cY:(backTo aR (starEach rest X.env)).any (·.1)=false :=by rfl) :
  QS Γ X (.Raise (some (.Call (.Name x np) (jM::rest) [] aR)) none pos) (zRaise C E' za):=(CQ O FB hc hR hg hm ha fE he cY).imp fun D σ H ⟨β,ρ,M,D',zr,h,r⟩=>⟨β,ρ,M,_,zr,h,fun ds M1 vs H1 x1 r1 h1=>
 ⟨by rw[r1.len];exact h1.1,hE C M1 H1 (A1 zr.ent zr.sub zr.eP zr.ew zr.eK zr.et x1) h1.2⟩⟩
section
variable {tg elt iter:gl}{ifs:List gl}{scope:ET}{pos:ze}{N':List db}{tn:Nat}{idx:List Nat}{zi:gz}{g:cN}{tt:dn}{te:aM}{c P:ap}{k:Nat}
theorem eC (hc:X.calm=true) (B:aT X.N X.env.scope scope N' tn idx) (hi:QI Γ X tg iter zi)
  (hg:Blk X N' scope fun Y=>QG Γ Y tg g) (ht:Blk X N' scope fun Y=>wN Γ Y ifs tt) (he:Blk X N' scope fun Y=>QE Γ Y elt te)
  (hs:∀x,foldedSetIterable iter X.env x=pure x :=by intro _;rfl):QE Γ X (.ListComp elt [⟨tg,iter,ifs,0⟩] scope pos) (zComp tn idx zi g tt te):=(vw hc B hi hg ht he hs).imp fun σ H Q h=>AY h
theorem yx {i:Nat}{y:db}{py lD:ze}(hN:X.N.Nodup) (dh:X.N[i]?=some y) (hy:X.env.scope.names.lookup y=some .local) (hc:X.calm=true) (B:aT X.N X.env.scope scope N' tn idx) (hi:QI Γ X tg iter zi)
  (hg:Blk X N' scope fun Y=>QG Γ Y tg g) (ht:Blk X N' scope fun Y=>wN Γ Y ifs tt) (he:Blk X N' scope fun Y=>QE Γ Y elt te)
  (zU:swapsWith (.ListComp elt [⟨tg,iter,ifs,0⟩] scope pos) (some (.Name y py)) lD.line X.env=pure true :=by rfl)
  (hs:∀x,foldedSetIterable iter X.env x=pure x :=by intro _;rfl):QS Γ X (.Assign [.Name y py] (.ListComp elt [⟨tg,iter,ifs,0⟩] scope pos) lD) (zAsg (zComp tn idx zi g tt te) (zgName i)):=(oU hN dh hy hc B hi hg ht he zU hs).imp fun D σ H h=>yt (fun _ _ _ h=>AY h) h
theorem vE {i:Nat}{y:db}{py lD:ze}(hN:X.N.Nodup) (dh:X.N[i]?=some y) (hy:X.env.scope.names.lookup y=some .local) (hc:X.calm=true) (B:aT X.N X.env.scope scope N' tn idx) (hi:QI Γ X tg iter zi)
  (hg:Blk X N' scope fun Y=>QG Γ Y tg g) (ht:Blk X N' scope fun Y=>wN Γ Y ifs tt) (he:Blk X N' scope fun Y=>QE Γ Y elt te)
  (zU:swapsWith (.ListComp elt [⟨tg,iter,ifs,0⟩] scope pos) (some (.Name y py)) lD.line X.env=pure true :=by rfl)
  (hs:∀x,foldedSetIterable iter X.env x=pure x :=by intro _;rfl):QS Γ X (.Assign [.Name y py] (.ListComp elt [⟨tg,iter,ifs,0⟩] scope pos) lD) (zAsg (zCompP tn idx zi g tt te) (zgName i)):=(oU hN dh hy hc B hi hg ht he zU hs).imp fun D σ H h=>yt (fun _ _ _ h=>FZ h) h
theorem A6 {p tL:ze}(hP:P∈Γ.tb) (hr:cB (k+1) X.A) (hc:X.calm=true) (B:aT X.N X.env.scope scope N' tn idx)
  (h0:scope.names.lookup (".0" : db)=some .local) (rn:scope.isCoroutine=false) (oV:X.env.code=.ref c) (hd:u7 X.base c P) (jz:∃bm ob,VH X.base mainGlobals X.mg bm ob)
  (Iu:Gl X "all") (hm:X.mg "all" = none) (hi:QI Γ X tg iter zi) (hg:nN X N' scope k fun Y=>QG Γ Y tg g) (ht:nN X N' scope k fun Y=>wN Γ Y ifs tt) (he:nN X N' scope k fun Y=>QE Γ Y elt te)
  (hs:∀x,genFold iter X.env x=pure x :=by intro _;rfl):QE Γ X (.Call (.Name "all" p) [dU elt tg iter ifs scope tL] [] pos) (zAll tn idx zi g tt te):=(Ir hr hc B h0 rn oV hd jz Iu hm hi hg ht he hs).imp fun σ H Q h=>LV hP h
end
end
section
variable {X:Cx}{Γ:Gz}{β:Bz}{K:bn}
section
variable {tg elt iter:gl}{ifs:List gl}{scope:ET}{pos:ze}{N':List db}{tn:Nat}{idx:List Nat}{zi:gz}{g:cN}{tt:dn}{te:aM}{c P:ap}{k:Nat}
def EA (g:cN) (tt:dn) (te:aM):List Dv->az->Mh->(List Int->Mh->Prop)->List Int->Prop
 | [],_,M,Q,acc=>Q acc M
 |d::ds,τ,M,Q,acc=>g d τ M fun aA M2=>tt aA M2 fun b M3=>if b=true then te aA M3 fun y M4=>(match y with | .int k=>acc.length+1<scanBound/\EA g tt te ds aA M4 Q (dJ acc k)|_=>False) else EA g tt te ds aA M3 Q acc
end
def fH (xs ys:List Dv):List Dv:=(xs.zip ys).map fun p=>.tup [p.1,p.2]
def ji (n:Nat):List Dv:=(i8 n).map fun i=>.int (i:Nat)
theorem rK {J:It}{vs us:List V}{ds es:List Dv}{M:Mh}{H:Hp}(r:aJ β M H vs ds) (r2:aJ β M H us es) (h:∀M' H',Ey M H M' H'->Em J (vs.zip us) H'):AJ β J (fH ds es) M H:=fun cD M' H' bx x m i=>by
 have q:=h M' H' x i;have hl:(fH ds es).length=(vs.zip us).length :=by simp[fH,r.len,r2.len]
 rw[hl];refine⟨fun hi=>⟨(q.1 hi).1,fun v lb y=>?_⟩,q.2⟩
 obtain⟨t,p,ht,rfl,hp,rfl⟩:=(q.1 hi).2 v lb y;rw[xp]at hp;obtain⟨d,hd,rd⟩:=r.get' hp.1;obtain⟨e,he,re⟩:=r2.get' hp.2;have x2:=Ex.lay m ht (.tup [p.1,p.2]);refine⟨x2,.tup [d,e],?_,d9 (m.fz ht) aE (.cons (((rd.bx bx).ey x).ex x2) (.cons (((re.bx bx).ey x).ex x2) .nil))⟩;unfold fH;rw[cr,lc];exact⟨(d,e),by rw[xp];exact⟨hd,he⟩,rfl⟩
theorem enum_zip (vs:List V):((i8 vs.length).map fun i=>(V.int (i:Nat),vs.getD i .ai))=((i8 vs.length).map fun i=>V.int (i:Nat)).zip vs :=by
 refine Nl fun i=>?_
 by_cases hi:i<vs.length
 ·rw[cr,JJ hi];symm
  show _=some (V.int (i:Nat),vs.getD i .ai);rw[xp,cr,JJ hi,ce,ag hi];exact⟨rfl,rfl⟩
 ·rw[List.getElem?_eq_none_iff.mpr (by simp;omega),List.getElem?_eq_none_iff.mpr (by simp;omega)]
theorem qy {n:Nat}{M:Mh}{H:Hp}:aJ β M H ((i8 n).map fun i=>V.int (i:Nat)) (ji n):=⟨by simp[ji],fun i v d a b=>by
 unfold ji at b;rw[cr]at a b;cases e:(i8 n)[i]? with
 |none=>rw[e]at a;cases a
 |some c=>rw[e]at a b;cases a;cases b;exact .int _⟩
theorem Sq.NK {H:Hp}{a:ap}{xs:List V}(h:H a=some (.lst xs)):Sq true K H a xs :=by
 unfold Sq;exact bG.of h
theorem Sq.ofT {H:Hp}{a:ap}{xs:List V}(h:H a=some (.tup xs)):Sq false K H a xs :=by
 unfold Sq;exact bC.of h
section
variable {elts:List gl}{x1:Nat}{tp p pos:ze}{l l1 l2:gl}{pl p1 p2:aM}
def ziEnumK (k:Bool) (p:aM):gz:=fun ρ M R=>p ρ M fun d M1=>match k,d with|false,.tup ds=>R (fH (ji ds.length) ds) M1|true,.lst ds=>R (fH (ji ds.length) ds) M1|_,_=>False
theorem F3 (k:Bool) (hK:X.K=K) (hg:Gl X "enumerate") (hm:X.mg "enumerate" = none) (hl:QE Γ X l pl) (hs:starEach [l] X.env=[(false,eval l X.env)] :=by rfl) :
  QI Γ X (.Tuple elts x1 tp) (.Call (.Name "enumerate" p) [l] [] pos) (ziEnumK k pl):=(FO k hK hg hm hl hs).imp fun σ H R ⟨β,ρ,M,R',zr,h,q⟩=>⟨β,ρ,M,_,zr,h,fun d M1 v H1 x1 r1 h1=>by
 revert h1
 split
 ·intro h1;obtain⟨a,vs,rfl,f,e,rs⟩:=bg r1;refine⟨a,rfl,⟨vs,Sq.ofT e⟩,q _ _ _ _ x1 ?_ h1⟩;rw[<- rs.len];exact rK qy rs fun M' H' x=>by rw[<- enum_zip];exact rB (Sq.ofT (x.get f.1 e rfl))
 ·intro h1;obtain⟨a,vs,rfl,f,e,rs⟩:=gh r1;refine⟨a,rfl,⟨vs,Sq.NK e⟩,q _ _ _ _ x1 ?_ h1⟩;rw[<- rs.len];exact rK qy rs fun M' H' x=>by rw[<- enum_zip];exact rB (Sq.NK (x.get f.1 e rfl))
 ·exact fun h=>h.elim⟩
end
def zRangeP (p:aM):aM:=fun ρ M Q=>p ρ M fun d M1=>match d with | .int j => -(2 ^ 24)<=j/\j<=2 ^ 24/\∀a,M1 a=none->Q (.ptr a) (aw M1 a (.lst (ji j.toNat)))|_=>False
section
variable {e:gl}{pe:aM}{p p1 p2 pos:ze}
theorem si (hc:X.calm=true) (hg:Gl X "list") (hm:X.mg "list" = none) (oW:Gl X "range") (tN:X.mg "range" = none) (he:QE Γ X e pe) (hs:starEach [e] X.env=[(false,eval e X.env)] :=by rfl) :
  QE Γ X (.Call (.Name "list" p) [.Call (.Name "range" p1) [e] [] p2] [] pos) (zRangeP pe):=(tM hc hg hm oW tN he hs).imp fun σ H Q ⟨β,ρ,M,Q',zr,h,q⟩=>⟨β,ρ,M,_,zr,h,fun d M1 v H1 x1 r1 h1=>by
 revert h1
 split
 ·rename_i j;rintro⟨b1,b2,h1⟩;refine⟨_,aC r1,b1,b2,fun l hl=>?_⟩
  have x2:=Ex.own x1.mz (.inr hl) (qy (n:=j.toNat) (β:=β) (M:=M1) (H:=H1));exact q _ _ _ _ (x1.trans x2) (.ptr (by rw[updM_same];rfl)) (h1 l (x1.mz.free hl))
 ·exact fun h=>h.elim⟩
end
theorem qv (i:Nat) {x:db}{pos:ze}(hN:X.N[i]?=some x :=by rfl) (hv:sP X.env.scope x :=by first|exact l6 rfl|exact Td (l6 rfl)|exact Td (Td rfl)) (hd:(x==("__debug__" : db))=false :=by decide)
  (hZ:(x==("__classdict__" : db))=false :=by decide):QE Γ X (.Name x pos) (zVar i):=Ju hN hv hd hZ
end
theorem QV {c:Bool}{A B:Prop}(h:c=true) (a:A):if c=true then A else B :=by rw[if_pos h];exact a
theorem QX {c:Bool}{A B:Prop}(h:c=false) (b:B):if c=true then A else B :=by rw[h,if_neg hX];exact b
theorem gD {c:Bool}{A B:Prop}(h1:c=true->A) (h2:c=false->B):if c=true then A else B :=by
 cases c
 ·exact QX rfl (h2 rfl)
 ·exact QV rfl (h1 rfl)
theorem qz {g:cN}{te:aM}{M:Mh}(p:Dv->Bool) (I:az->Prop):∀{ds:List Dv}{τ:az}{Q:Bool->Mh->Prop},I τ->(∀d∈ds,∀τ,I τ->∀R:az->ZK,(∀aA,I aA->R aA (.bl (p d)) M)->g d τ M fun aA M2=>te aA M2 (R aA))->Q (ds.all p) M->jG g zNoIf te ds τ M Q
 | [],τ,Q,_,_,q=>q
 |d::ds,τ,Q,i,h,q=>by
          refine h d i1 τ i (fun aA=>zBool fun c M4=>if c=false then Q false M4 else jG g zNoIf te ds aA M4 Q) fun aA i2=>?_
          show if p d=false then Q false M else jG g zNoIf te ds aA M Q
          cases e:p d with
          |false=>
           rw[if_pos rfl];rw[List.all_cons,e]at q;exact q
          |true=>
           rw[if_neg (by decide)]
           rw[List.all_cons,e,Ts]at q;exact qz p I i2 (fun d' hd=>h d' (dL _ hd)) q
theorem j6 {g:cN}{te:aM}(f:Dv->Dv) (I:az->Mh->Prop):∀{ds:List Dv}{τ:az}{M:Mh}{Q:List Dv->Mh->Prop},I τ M->(∀d∈ds,∀τ M,I τ M->∀R:az->ZK,(∀aA M2,I aA M2->R aA (f d) M2)->g d τ M fun aA M2=>te aA M2 (R aA))->(∀τ M,I τ M->Q (ds.map f) M)->fU g zNoIf te ds τ M Q
 | [],τ,M,Q,i,_,q=>q τ M i
 |d::ds,τ,M,Q,i,h,q=>by
          refine h d i1 τ M i (fun aA y M4=>fU g zNoIf te ds aA M4 fun ys M5=>Q (y::ys) M5) fun aA M2 i2=>?_
          exact j6 f I i2 (fun d' hd=>h d' (dL _ hd)) fun nC M3 i3=>q nC M3 i3
theorem qA {g:cN}{tt:dn}{te:aM}(t:Dv->Bool) (f:Dv->Dv) (I:az->Mh->Prop):∀{ds:List Dv}{τ:az}{M:Mh}{Q:List Dv->Mh->Prop},I τ M->
  (∀d∈ds,∀τ M,I τ M->∀(R0:az->Mh->Prop) (R:az->ZK),(t d=true->∀aA M2,I aA M2->R aA (f d) M2)->(t d=false->∀aA M2,I aA M2->R0 aA M2)->g d τ M fun aA M2=>tt aA M2 fun b M3=>if b=true then te aA M3 (R aA) else R0 aA M3)->
  (∀τ M,I τ M->Q ((ds.filter t).map f) M)->fU g tt te ds τ M Q
 | [],τ,M,Q,i,_,q=>q τ M i
 |d::ds,τ,M,Q,i,h,q=>by
          refine h d i1 τ M i (fun aA M3=>fU g tt te ds aA M3 Q) (fun aA y M4=>fU g tt te ds aA M4 fun ys M5=>Q (y::ys) M5) (fun e aA M2 i2=>?_) fun e aA M2 i2=>?_
          ·refine qA t f I i2 (fun d' hd=>h d' (dL _ hd)) fun nC M3 i3=>?_
           have:=q nC M3 i3;rw[List.filter_cons,if_pos e]at this;exact this
          ·refine qA t f I i2 (fun d' hd=>h d' (dL _ hd)) fun nC M3 i3=>?_
           have:=q nC M3 i3;rw[List.filter_cons,if_neg (by rw[e];decide)]at this
           exact this
abbrev eI (ns:List Int):Dv:=.tup (ns.map .int)
abbrev eN (net:List (List Int)):Dv:=.tup (net.map eI)
abbrev fI (ns:List Int):Dv:=.lst (ns.map .int)
theorem kM:∀ns:List Int,fM (ns.map Dv.int)=some (ns.map Dt.int)
 | []=>rfl
 |n::ns=>by simp only[xy,fM,aW,kM ns]
theorem yy (ns:List Int):aW (eI ns)=some (.tup (ns.map Dt.int)) :=by simp only[eI,aW,kM,AS]
theorem j7 {α:Type}{f:α->Dv}{g:α->Dt}(h:∀x,aW (f x)=some (g x)):∀xs:List α,fM (xs.map f)=some (xs.map g)
 | []=>rfl
 |x::xs=>by simp only[xy,fM,h x,j7 h xs]
def rL (net:List (List Int)):Dt:=.tup (net.map fun r=>.tup (r.map Dt.int))
theorem EB (net:List (List Int)):aW (eN net)=some (rL net) :=by
 simp only[eN,aW,j7 yy net,AS,rL]
theorem pG:∀xs ys:List Int,eS (xs.map Dt.int) (ys.map Dt.int)=decide (xs=ys)
 | [],[]=>by simp[eS]
 | [],_::_=>by simp[eS]
 |_::_,[]=>by simp[eS]
 |x::xs,y::ys=>by
          rw[xy,xy,eS,pG xs ys,cw];by_cases h1:x=y<;>by_cases h2:xs=ys<;>simp[h1,h2]
theorem jj {n:Nat}:∀{ds:List Dt},(∀d∈ds,dF d<=n)->eU ds<=n
 | [],_=>by rw[eU];exact kv _
 |d::ds,h=>by
          rw[eU];exact Nat.max_le.mpr ⟨h d i1,jj fun d' hd=>h d' (dL _ hd)⟩
theorem mX (ns:List Int):eU (ns.map Dt.int)<=0:=jj fun d hd=>by
 obtain⟨i,_,rfl⟩:=kt.mp hd;exact bv _
theorem wW (net:List (List Int)):dF (rL net)<=2 :=by
 unfold rL;rw[dF];have:eU (net.map fun r=>Dt.tup (r.map Dt.int))<=1:=jj fun d hd=>by
  obtain⟨r,_,rfl⟩:=kt.mp hd;rw[dF];have:=mX r;omega
 omega
theorem gT {M:Mh}(ns:List Int):∀d∈ns.map Dv.int,Pin M d:=fun d hd=>by
 obtain⟨i,_,rfl⟩:=kt.mp hd;exact .int i
theorem j8 {M:Mh}(ns:List Int):Pin M (eI ns):=.tup (gT ns)
theorem j9 {M:Mh}(net:List (List Int)):Pin M (eN net):=.tup fun d hd=>by
 obtain⟨r,_,rfl⟩:=kt.mp hd;exact j8 r
theorem F4 {α β:Type}{f:α->β}{xs:List α}{i:Int}{x:α}(h:cZ xs i=some x):cZ (xs.map f) i=some (f x) :=by
 unfold cZ at h ⊢;rw[cb];cases e:gq xs.length i with
 |none=>rw[e]at h;cases h
 |some j=>rw[e]at h;simp only[Uk]at h ⊢;rw[cr,h];rfl
theorem A7 {α:Type}{xs:List α}{k:Nat}(h:k<xs.length):cZ xs ((k:Nat):Int)=some xs[k]:=eA (ag h)
def spLaw (K:bn) (tb:dR):Sp:=fun vs H Q _=>∃(a:ap) (ns:List Int),vs=[.ref a]/\bG K H a (ns.map V.int)/\ns.length<=63/\Ei tb.g H/\(∀p∈tb.l,Lm H p)/\∀H',(∀p∈tb.l,∃ps,H' p.1=some (.lam ps))->Q (.bl true) H'
def JO:ez:=fun ds M Q _=>∃ns:List Int,ds=[.bo ns]/\ns.length<=63/\(∀a,M a=none)/\∀M',Q (.bl true) M'
theorem JP {P:ii}{w:ij}{K:bn}{mg:db->Option am}{base:i0}{k:Nat}{f:ap}{fd:rc}{x:db}{tb:dR}(G:FnOk P w K mg base bF k f fd [x] (aX P w K tb JO)):FnOk P w K mg base bF k f fd [x] (spLaw K tb):=
 G.imp fun vs H Q E ⟨a,ns,e,hS,hl,hT,hL,q⟩=>by
  subst e;have m:Mz ⟨P,w,K,tb,[]⟩ (fun _=>none) H:=⟨(fun a o e=>nomatch e),hT,(fun a ha=>absurd ha (by simp)),(fun a o e=>nomatch e),hL⟩
  refine⟨⟨P,w,K,tb,[]⟩,[.bo ns],fun _=>none,fun d _=>d=.bl true,fun _ _=>False,rfl,rfl,rfl,rfl,m,.cons ?_ .nil,⟨ns,rfl,hl,fun _=>rfl,fun _=>rfl⟩,fun d M' v H' x r h=>?_,fun _ _ _ _ h=>h.elim⟩
  ·have fz:Fz ⟨P,w,K,tb,[]⟩ (fun _=>none) a:=⟨rfl,by simp⟩
   rcases hS with (h|⟨o,h⟩)|h
   ·exact .cK fz h
   ·exact .bo fz h
   ·exact .cL h
  ·subst h;rw[cM r];exact q H' fun p hp=>let ⟨ps,e,_⟩:=x.mz.lams p hp;⟨ps,e⟩
def Keeps (M0 M:Mh):Prop:=∀a o,M0 a=some o->M a=some o
theorem Keeps.refl {M0:Mh}:Keeps M0 M0:=fun _ _ h=>h
theorem Keeps.upd {M0 M:Mh}{a:ap}{o:Mo}(ha:M0 a=none) (h:Keeps M0 M):Keeps M0 (aw M a o):=fun b u e=>by
 rw[aj (fun z=>by rw[z,ha]at e;cases e)]
 exact h b u e
theorem iq {M0 M:Mh}{Q:ZK}{d:Dv}(h:Keeps M0 M) (p:Pin M0 d) (q:Q d M0):mD M0 Q d M:=.inr ⟨h,d,.pin p,q⟩
theorem A8 {M0 M:Mh}{Q:ZK}{a:ap}{ds:List Dv}(h:Keeps M0 M) (h0:M0 a=none) (ha:M a=some (.lst ds)) (p:∀d∈ds,Pin M0 d) (q:Q (.lst ds) M0):mD M0 Q (.ptr a) M:=.inr ⟨h,.lst ds,.ptr h0 ha rfl fun i d d' e e'=>by
 rw[e]at e';cases e';exact .pin (p d (im e)),q⟩
theorem cV {lo:Int}{n i:Nat}{d:Dv}(h:(dw lo n)[i]?=some d):d=.int (lo+(i:Nat))/\i<n :=by
 unfold dw at h;rw[cr]at h;cases e:(i8 n)[i]? with
 |none=>rw[e]at h;cases h
 |some k=>
  rw[e]at h;obtain⟨h1,h2⟩:=br.mp e;rw[U2]at h2;subst h2;exact⟨(i4 h).symm,by simpa using h1⟩
theorem pH {lo:Int}{n:Nat}{d:Dv}(h:d∈dw lo n):∃i:Nat,i<n/\d=.int (lo+(i:Nat)) :=by
 obtain⟨i,hi⟩:=r9.mp h;obtain⟨e,l⟩:=cV hi;exact⟨i,l,e⟩
theorem rangeD_len (lo:Int) (n:Nat):(dw lo n).length=n :=by simp[dw]
theorem A9 {xs ys:List Dv}{k:Nat}{d:Dv}(h:(fH xs ys)[k]?=some d):∃x y,d=.tup [x,y]/\xs[k]?=some x/\ys[k]?=some y :=by
 unfold fH at h;rw[cr,lc]at h;obtain⟨p,h,rfl⟩:=h;rw[xp]at h;exact⟨p.1,p.2,rfl,h.1,h.2⟩
theorem F5 {n k:Nat}{d:Dv}(h:(ji n)[k]?=some d):d=.int (k:Nat)/\k<n :=by
 unfold ji at h;rw[cr]at h;cases e:(i8 n)[k]? with
 |none=>rw[e]at h;cases h
 |some j=>
  rw[e]at h;obtain⟨h1,h2⟩:=br.mp e;rw[U2]at h2;subst h2;exact⟨(i4 h).symm,by simpa using h1⟩
theorem atI_zero {α:Type}{x:α}{xs:List α}:cZ (x::xs) 0=some x:=eA (j:=0) rfl
theorem JQ {α:Type}{f:α->Dv}{xs:List α}{k:Nat}{d:Dv}(h:(xs.map f)[k]?=some d):∃x,xs[k]?=some x/\d=f x :=by
 rw[cr,lc]at h;obtain⟨x,h,e⟩:=h;exact⟨x,h,e.symm⟩
theorem pairsD_len (xs ys:List Dv):(fH xs ys).length=min xs.length ys.length :=by simp[fH]
theorem numD_len (n:Nat):(ji n).length=n :=by simp[ji]
theorem wX (xs:List Dv) (lo hi:Option Int):cutD xs lo hi=(xs.drop (HT.aP xs.length 0 lo)).take (HT.aP xs.length xs.length hi - HT.aP xs.length 0 lo):=rfl
theorem wY {n d k:Nat}:HT.aP n d (some (k:Nat))=min k n :=by
 unfold HT.aP;simp only[];split<;>omega
theorem wZ {xs:List Dv}{k:Nat}:cutD xs none (some (k:Nat))=xs.take k :=by
 rw[wX,wY];show (xs.drop 0).take (min k xs.length - 0)=xs.take k;rw[List.drop_zero,Nat.sub_zero];by_cases h:k<=xs.length
 ·rw[Nat.min_eq_left h]
 ·rw[Nat.min_eq_right (by omega),KM (bv _),KM (by omega)]
theorem rM {xs:List Dv}{k:Nat}:cutD xs (some (k:Nat)) none=xs.drop k :=by
 rw[wX,wY];show (xs.drop (min k xs.length)).take (xs.length - min k xs.length)=xs.drop k;by_cases h:k<=xs.length
 ·rw[Nat.min_eq_left h,KM (by rw[Ti];omega)]
 ·rw[Nat.min_eq_right (by omega),List.drop_of_length_le (bv _),List.drop_of_length_le (by omega)]
  exact List.take_nil
end L2
namespace L2
open PySem PySem.Spec PyProof.Rows
def uD (N:List db) (sc scope:ET) (N':List db) (tn:Nat) (idx:List Nat):Prop:=
 scope.kind=.function/\(∀y∈scope.names,(y.2=.cell->scope.names.lookup y.1=some .cell)/\(y.2=.local->scope.names.lookup y.1=some .local)/\(y.2=.free->sc.names.lookup y.1=some .cell\/sc.names.lookup y.1=some .free)) /\
  N'.length=tn+idx.length/\∀p∈idx.zip (N'.drop tn),N[p.1]?=some p.2/\scope.names.lookup p.2=some .free
instance (N:List db) (sc scope:ET) (N':List db) (tn:Nat) (idx:List Nat):Decidable (uD N sc scope N' tn idx) :=by unfold uD;infer_instance
end L2
namespace L2
open PySem PySem.Spec PySem.W PyProof.Rows
section
variable {X:Cx}{Γ:Gz}{β:Bz}{K:bn}
theorem Pin.mono {M M':Mh}{d:Dv}(h:Pin M d):(∀a,(M a).isSome=true->(M' a).isSome=true)->Pin M' d :=by
 intro k;induction h with
 |int i=>exact .int i
 |bl b=>exact .bl b
 |ai=>exact .ai
 |str z=>exact .str z
 |tup h ih=>exact .tup ih
 |lst h ih=>exact .lst ih
 |dk h ih=>exact .dk ih
 |dt h ih=>exact .dt ih
 |c9 h ih=>exact .c9 ih
 |set ns=>exact .set ns
 |ptr h=>exact .ptr (k _ h)
 |exc C=>exact .exc C
 |bo ns=>exact .bo ns
 |raw v=>exact .raw v
def bX (M:Mh) (a:ap):Mh:=fun b=>if b=a then none else M b
theorem dy {M:Mh}{a:ap}:bX M a a=none :=by unfold bX;rw[if_pos rfl]
theorem bK {M:Mh}{a b:ap}(h:b≠a):bX M a b=M b :=by unfold bX;rw[if_neg h]
theorem yz {M:Mh}{a:ap}{o:Mo}(h:M a=none):bX (aw M a o) a=M :=by
 funext b
 unfold bX aw;by_cases e:b=a
 ·rw[if_pos e,e,h]
 ·rw[if_neg e,if_neg e]
structure JR (M1 M:Mh) (ρ:az):Prop where
 env:∀(i:Nat) (d:Dv),ρ[i]?=some (some d)->Pin M d
 obj:∀b o,M b=some o->M1 b=some o\/∀d∈o.items,Pin M d
theorem Zr.freeze {M:Mh}{ρ:az}{σ:St}{H:Hp}{i:Nat}{a:ap}{ds:List Dv}(z:Zr Γ β M ρ σ H) (hi:ρ[i]?=some (some (.ptr a))) (ha:M a=some (.lst ds)) (h0:Γ.M0 a=none) (fr:JR Γ.M0 (bX M a) (ρ.set i (some (.lst ds)))) :
  Zr Γ β (bX M a) (ρ.set i (some (.lst ds))) σ H/\Ev β M H (bX M a) H :=by
 have rz:∀{v:V} {d:Dv},Rz β M H v d->Pin (bX M a) d->Rz β (bX M a) H v d:=fun r p=>r.kJ (M0:=bX M a) (fun b hb=>by
  by_cases e:b=a
  ·rw[e,dy]at hb;cases hb
  ·rw[bK e]at hb;exact hb) p
 have Ek:i<ρ.length:=(br.mp hi).1;have QY:∀d∈ds,Pin (bX M a) d:=fun d hd=>by
  have:=fr.env i (.lst ds) (by rw[Uf Ek])
  cases this with|lst h=>exact h d hd
 have obj:∀b es,bX M a b=some es->∀d∈es.items,Pin (bX M a) d:=fun b es e d hd=>by
  rcases fr.obj b es e with q|q
  ·refine(z.wf b es q d hd).mono fun c hc=>?_
   have nc:c≠a:=fun w=>by rw[w,h0]at hc;cases hc
   rw[bK nc];exact z.ent.dom c hc
  ·exact q d hd
 have mz:Mz β (bX M a) H :=by
  refine⟨fun b o e=>?_,z.mz.tabs,z.mz.hids,fun b o e=>?_,z.mz.lams⟩
  ·have nb:b≠a:=fun q=>by rw[q,dy]at e;cases e
   have e':M b=some o :=by rw[bK nb]at e;exact e
   have q:=z.mz.obj b o e';cases o with
   |lst es=>obtain⟨vs,hv,rs⟩:=q;exact⟨vs,hv,rs.len,fun j v d x y=>rz (rs.at' j v d x y) (obj b _ e d (im y))⟩
   |dk ks es=>obtain⟨vs,hv,hk,rs⟩:=q;exact⟨vs,hv,hk,rs.len,fun j v d x y=>rz (rs.at' j v d x y) (obj b _ e d (im y))⟩
   |dt ks es=>obtain⟨vs,hv,hk,rs⟩:=q;exact⟨vs,hv,hk,rs.len,fun j v d x y=>rz (rs.at' j v d x y) (obj b _ e d (im y))⟩
   |ts ks es=>obtain⟨vs,hv,hk,rs⟩:=q;exact⟨vs,hv,hk,rs.len,fun j v d x y=>rz (rs.at' j v d x y) (obj b _ e d (im y))⟩
   |dj=>exact q
  ·have nb:b≠a:=fun q=>by rw[q,dy]at e;cases e
   rw[bK nb]at e;exact z.mz.apart b o e
 refine⟨⟨z.eP,z.ew,z.eK,z.et,z.sub,z.wf,⟨z.ent.keep,fun b hb=>?_,fun b o m h=>?_⟩,mz,by simp[z.len],fun j d e=>?_⟩,⟨fun b o _ h=>.inl h,fun b o m h=>?_,mz⟩⟩
 ·have nb:b≠a:=fun q=>by rw[q,h0]at hb;cases hb
  rw[bK nb];exact z.ent.dom b hb
 ·by_cases e:b=a
  ·rw[e,dy]
  ·rw[bK e];exact z.ent.new b o m h
 ·have p:=fr.env j d e;rw[Vi]at e;split at e
  ·rename_i q;subst q;first
    |cases e
    |(rw[if_pos Ek]at e;cases e)
   obtain⟨v,hv,r⟩:=z.at' i _ hi;obtain⟨rfl,_⟩:=bq r;obtain⟨vs,hl,rs⟩:=z.mz.obj a _ ha;refine⟨_,hv,.lst ⟨dy,z.mz.apart a _ ha⟩ hl rs.len fun k v d x y=>rz (rs.at' k v d x y) (QY d (im y))⟩
  ·obtain⟨v,hv,r⟩:=z.at' j d e;exact⟨v,hv,rz r p⟩
 ·by_cases e:b=a
  ·rw[e,dy]
  ·rw[bK e];exact m
def Pj (i:Nat) (M0:Mh) (p:cj):cj:=fun D ρ M=>p D ρ M\/∃a ds,ρ[i]?=some (some (.ptr a))/\M a=some (.lst ds)/\M0 a=none/\JR M0 (bX M a) (ρ.set i (some (.lst ds)))/\p D (ρ.set i (some (.lst ds))) (bX M a)
theorem uE (i:Nat) {M1:Mh}{st:wp}{p:cj}(hM:Γ.M0=M1) (h:QS Γ X st p):QS Γ X st (Pj i M1 p):=h.imp fun D σ H ⟨β,ρ,M,D',zr,h,r⟩=>by
 rcases h with h|⟨a,ds,hi,ha,h0,fr,h⟩
 ·exact⟨β,ρ,M,D',zr,h,r⟩
 ·obtain⟨z2,e2⟩:=zr.freeze hi ha (by rw[hM];exact h0) (by rw[hM];exact fr)
  exact⟨β,_,_,D',z2,h,r.step e2⟩
end
end L2
namespace L2
open PySem PySem.Spec PyProof.Rows
theorem Ba {P:ii}{w:ij}{K:bn}{mg mb:db->Option am}{CX:jR}{k:Nat}{fa a:ap}{fd:rc}{x:db}{sp:Sp}{av:ar}{vs:List am}{ns:List Int}{tabs lts:List ap}
  (KX:K.In av.heap) (jx:av.heap.Ns mainGlobals mg) (hb:av.heap.Ns builtinsNs mb) (QZ:∀x:db,x ≠ "__name__" -> mb x=bootBuiltins x) (ym:av.heap.NoLimit) (hg:av.gens=#[])
  (ha:av.heap.get? a=some {cls:=.type "list",data:=.seq vs.toArray}) (hi:OR vs ns) (hl:ns.length<=sizeLine) (hr:cB k callerA)
  (i7:∀p∈tabs++lts,av.heap.get? p=some (S6 #[])/\isCodeTable av.heap p) (Pk:∀p∈tabs,p ∉ lts) (Bb:U3 K=true) (jz:∃bm ob,VH av.heap mainGlobals mg bm ob)
  (F:∀base:i0,K.In base->base.Ns mainGlobals mg->(∃bm ob,VH base mainGlobals mg bm ob)->(∀c p,u7 av.heap c p->u7 base c p)->FnOk P w K mg base CX k fa fd [x] sp)
  (L0:∀(s:ar) (u:am),Vm s fd ⟨[u],[]⟩ [(x,u)])
  (ni:∀H:Hp,(∀p∈tabs,Tb p H)->(∀p∈lts,H p=some (.lam #[]))->bG K H a (ns.map V.int)->sp [.ref a] H (fun v H'=>v=.bl true/\∀p∈lts,∃ps,H' p=some (.lam ps)) fun _ _ _=>False)
  (JS:∀H e s',CX [] H av (fun _ _ _=>False) e s'->False) :
  codeAny (model P w) callerA (.call (.ref fa) ⟨[.ref a],[]⟩) (fun r s'=>r=.ok (.ret (.bool true))/\OldK av.heap s'.heap/\s'.os=av.os/\VJ s'.gens) av :=by
 have rv:=qZ hi;have Pl:=hi.length;have gw:a ∉ tabs++lts:=fun z=>by
  have e:=(i7 a z).1;rw[ha]at e;cases e
 have core:∀H:Hp,(∀b u,H b=some u->(b=a/\∃o xs,u=.fx o (.lst xs))\/(b∈tabs++lts/\(u=.cA #[]/\b∈tabs\/u=.lam #[]/\b∈lts)))->(∀p∈tabs,H p=some (.cA #[]))->(∀p∈lts,H p=some (.lam #[]))->bG K H a (ns.map V.int)->dH P w H av.heap->(H a≠none->K.lookup a=none)->
   codeAny (model P w) callerA (.call (.ref fa) ⟨[.ref a],[]⟩) (fun r s'=>r=.ok (.ret (.bool true))/\OldK av.heap s'.heap/\s'.os=av.os/\VJ s'.gens) av :=by
  intro H hO Bc Q0 hS hok hK;have mY:∀{b:ap} {o:l8},av.heap.get? b=some o->H b=none->(iT av.heap H).get? b=some o:=fun e n=>B3 e n
  have no:∀{b:ap} {o:l8},av.heap.get? b=some o->(∀n,o.data≠.seq vs.toArray n)->o≠S6 #[]->H b=none:=fun {b o} e d1 d2=>by
   cases q:H b with
   |none=>rfl
   |some u=>
    rcases hO b u q with ⟨e',_⟩|⟨bJ,_⟩
    ·subst e';rw[ha]at e;cases e;exact absurd rfl (d1 _)
    ·rw[(i7 b bJ).1]at e;exact absurd (i4 e).symm d2
  have Q1:∀{b:ap} {o:l8} {es:Array DictEntry} {ep:Nat},av.heap.get? b=some o->o.data=.dict es ep->H b=none:=fun {b o es ep} e d=>no e (fun n z=>by rw[d]at z;cases z) fun z=>by rw[z]at d;cases d
  have Bd:∀{b:ap} {m:db->Option am},av.heap.Ns b m->(iT av.heap H).Ns b m:=fun {b m} hS=>by obtain⟨o,es,ep,e,d,r⟩:=hS;exact⟨o,es,ep,mY e (Q1 e d),d,r⟩
  have NM:K.In (iT av.heap H):=fun b o e=>mY (KX b o e) (by
   cases q:H b with
   |none=>rfl
   |some u=>
    rcases hO b u q with ⟨e',_⟩|⟨bJ,_⟩
    ·subst e';rw[hK (by rw[q];simp)]at e;cases e
    ·have e1:=KX b o e;have e2:=(i7 b bJ).1;rw[e1]at e2;have e3:o=S6 #[]:=i4 e2;have q2:=wE.mp Bb (b,o) (PySem.W.kb_mem e);simp only[Bool.or_eq_true,decide_eq_true_eq,beq_iff_eq]at q2;rcases q2 with (q2|q2)|q2
     ·rw[e3]at q2;exact absurd rfl q2
     ·obtain⟨mc,⟨oc,es,ep,ho,hd,_⟩,_⟩:=ym;rw[<- q2,e1]at ho;cases ho;rw[e3]at hd;cases hd
     ·obtain⟨oc,es,ep,ho,hd,_⟩:=id jx;rw[<- q2,e1]at ho;cases ho;rw[e3]at hd;cases hd)
  have hM:Mod K mg (iT av.heap H):=⟨NM,Bd jx,⟨mb,Bd hb,QZ⟩,let ⟨mc,h1,h2⟩:=ym;⟨mc,Bd h1,h2⟩⟩;have hB:∃bm ob,VH (iT av.heap H) mainGlobals mg bm ob :=by
   obtain⟨bm,ob,B⟩:=jz;exact⟨bm,ob,Bd B.ns,B.name,B.ne,mY B.obj (no B.obj (fun n z=>by rw[B.data]at z;cases z) fun z=>by have:=B.data;rw[z]at this;cases this),B.cls,B.dict,B.data⟩
  have hC:∀c p,u7 av.heap c p->u7 (iT av.heap H) c p:=fun c p ⟨o,AG,file,tf,flags,tg,Q2,text,tt,e1,e2,e3,r⟩=>
   ⟨o,AG,file,tf,flags,tg,Q2,text,tt,mY e1 (no e1 (fun n z=>by rw[e3]at z;cases z) fun z=>by rw[z]at e2;cases e2),e2,e3,r⟩
  have e0:xD P w K mg (iT av.heap H) callerA [] av H:=⟨rfl,hM,fun b o e=>E4 e,Nat.le_of_eq (zb _ _),trivial,fun b hb=>absurd (show b∈([]:List ap) from hb) (by simp),hok,.of_eq hg⟩
  refine S2 ((F _ NM (Bd jx) hB hC).run callerA [] av H ⟨[.ref a],[]⟩ [.ref a] [.ref a] _ _ hr e0 (L0 av (.ref a)) (.cons rfl .nil) (ni H (fun p hp=>⟨#[],Bc p hp,trivial⟩) Q0 hS)) fun r s' h=>?_
  cases r with
  |error e=>exact(JS H e s' h).elim
  |ok fl=>
   cases fl with
   |next=>exact On h
   |brk=>exact On h
   |cont=>exact On h
   |ret u=>
    obtain⟨v,H',os,bare,un,Dc,r',q⟩:=h;obtain⟨q',qL⟩:=q;subst q';obtain rfl:u=VN true:=r';have all:∀b o,av.heap.get? b=some o->asItWas av.heap s'.heap b o/\∃o',s'.heap.get? b=some o':=fun b o e=>by
     cases q:H b with
     |none=>
      have:=un.keep b o e q (by intro z;exact absurd (show b∈([]:List ap) from z) (by simp)) (by simp)
      exact⟨.inl this,_,this⟩
     |some u=>
      rcases hO b u q with ⟨_,ob,xs,z⟩|⟨bJ,z⟩
      ·subst z;have z2:=un.frzs b ob _ q;obtain⟨e1,_⟩:=hok b _ q;obtain⟨e2,_⟩:=Dc b _ z2;rw[e]at e1;cases e1;exact⟨.inl e2,_,e2⟩
      ·have e2:∃more,s'.heap.get? b=some {cls:=.none,data:=.fields (#[]++more)}:=by
        rcases z with ⟨z,_⟩|⟨z,lJ⟩
        ·subst z;obtain⟨more,z2⟩:=un.tbls b #[] q;exact⟨more,Dc b _ z2⟩
        ·obtain⟨ps,z2⟩:=qL b lJ;refine⟨ps,?_⟩;have:=Dc b _ z2;rw[show (#[]:Array am)++ps=ps by simp]
         exact this
       obtain⟨more,e2⟩:=e2;have e1:=(i7 b bJ).1;rw[e]at e1;obtain rfl:o=S6 #[]:=i4 e1;exact⟨.inr (.inl ⟨(i7 b bJ).2,rfl,#[],more,rfl,e2⟩),_,e2⟩
    exact⟨rfl,⟨fun b o e=>(all b o e).1,fun b o e=>(all b o e).2⟩,os,bare.1⟩
 have JT:∀p∈tabs++lts,∀H:Hp,∀u,(u=.cA #[]/\p∈tabs\/u=.lam #[]/\p∈lts)->bj P w H av.heap p u:=fun p hp H u hu=>by
  rcases hu with ⟨rfl,_⟩|⟨rfl,_⟩<;>exact(i7 p hp).1
 let T:Hp:=fun b=>if b∈lts then some (.lam #[]) else if b∈tabs then some (.cA #[]) else none
 have T1:∀b u,T b=some u->b∈tabs++lts/\(u=.cA #[]/\b∈tabs\/u=.lam #[]/\b∈lts):=fun b u z=>by
  by_cases h1:b∈lts
  ·have z':=(show T b=_ from if_pos h1).symm.trans z;cases z';exact⟨l9 _ h1,.inr ⟨rfl,h1⟩⟩
  ·by_cases h2:b∈tabs
   ·have z':=(show T b=_ from (if_neg h1).trans (if_pos h2)).symm.trans z;cases z';exact⟨FF _ h2,.inl ⟨rfl,h2⟩⟩
   ·have z':=(show T b=_ from (if_neg h1).trans (if_neg h2)).symm.trans z;cases z'
 have T2:∀p∈tabs,T p=some (.cA #[]):=fun p hp=>(if_neg (Pk p hp)).trans (if_pos hp)
 have T3:∀p∈lts,T p=some (.lam #[]):=fun p hp=>if_pos hp
 have Ta:T a=none:=(if_neg fun z=>gw (l9 _ z)).trans (if_neg fun z=>gw (FF _ z))
 cases hk:K.lookup a with
 |some o=>
  have e:=KX a o hk;rw[ha]at e;cases e;exact core T (fun b u z=>.inr (T1 b u z)) T2 T3 (.inr ⟨_,vs.toArray,_,hk,rfl,rfl,rfl,by rw[ci,Pl];exact hl,by simpa using rv⟩) (fun b u z=>JT b (T1 b u z).1 _ u (T1 b u z).2) fun z=>absurd Ta z
 |none=>
  have na:∀p∈tabs++lts,p≠a:=fun p hp z=>gw (z▸hp)
  refine core (upd T a (.fx {cls:=.type "list",data:=.seq vs.toArray} (.lst (ns.map V.int)))) (fun b u z=>?_) (fun p hp=>by rw[ak (na p (FF _ hp))];exact T2 p hp) (fun p hp=>by rw[ak (na p (l9 _ hp))];exact T3 p hp) (.inl (.inr ⟨_,aE⟩)) (fun b u z=>?_) fun _=>hk
  ·by_cases hb:b=a
   ·subst hb;rw[aE]at z;cases z;exact .inl ⟨rfl,_,_,rfl⟩
   ·rw[ak hb]at z;exact .inr (T1 b u z)
  ·by_cases hb:b=a
   ·subst hb;rw[aE]at z;cases z;exact⟨ha,by rw[cb];exact hl,vs,_,rv,ha⟩
   ·rw[ak hb]at z;exact JT b (T1 b u z).1 _ u (T1 b u z).2
def sL (K:bn) (x:db):Option ap:=match on K mainGlobals x with
 |some (some (.ref f))=>(match K.lookup f with
  |some ⟨_,_,.func fd,_⟩=>(match fd.code with
   | .ref c=>(match K.lookup c with
    |some ⟨_,_,.fields vs,_⟩=>(match vs[11]? with|some (ul p)=>some p|_=>none)
    |_=>none)
   |_=>none)
  |_=>none)
 |_=>none
abbrev TabOf (mg:db->Option am) (h:i0) (y:db) (p:ap):Prop:=∃f o fd c,mg y=some (.ref f)/\h.get? f=some o/\o.data=.func fd/\fd.code=.ref c/\u7 h c p
theorem uF {K:bn}{mg:db->Option am}{h:i0}{y:db}{p q:ap}(X:K.In h) (G:h.Ns mainGlobals mg) (t:TabOf mg h y p) (e:sL K y=some q):p=q :=by
 obtain⟨f,o,fd,c,e1,e2,e3,e4,oc,vs,_,_,_,_,_,_,_,g1,_,g3,g4,_⟩:=t;unfold sL at e;split at e
 ·rename_i f' jx;have:=(Tq X G jx).symm.trans e1;cases this;split at e
  ·rename_i Se Sf Qb MJ Q3;have:=(X _ _ Q3).symm.trans e2;cases this;cases e3;rw[e4]at e;dsimp only at e;split at e
   ·rename_i a1 a2 AG a3 Q4;have:=(X _ _ Q4).symm.trans g1;cases this;cases g3;rw[g4]at e;cases e;rfl
   ·cases e
  ·cases e
 ·cases e
def qB (K:bn) (gs ls:List db):Bool:=gs.all fun x=>ls.all fun y=>match sL K x,sL K y with|some p,some q=>decide (p≠q)|_,_=>false
theorem w5 {α β:Type}{F:α->β->Prop}{l:List α}{m:List β}(h:wn F l m) {b:β}(hb:b∈m):∃a∈l,F a b :=by
 induction h with
 |nil=>simp at hb
 |cons x t ih=>
  rcases li.mp hb with e|e
  ·subst e;exact⟨_,i1,x⟩
  ·obtain⟨a,ha,q⟩:=ih e;exact⟨a,dL _ ha,q⟩
theorem Dd {K:bn}{mg:db->Option am}{h:i0}{gs ls:List db}{tabs lts:List ap}(X:K.In h) (G:h.Ns mainGlobals mg) (d:qB K gs ls=true) (t1:wn (TabOf mg h) gs tabs) (t2:wn (TabOf mg h) ls lts):∀p∈tabs,p ∉ lts:=fun p hp hq=>by
 obtain⟨x,hx,tx⟩:=w5 t1 hp;obtain⟨y,hy,ty⟩:=w5 t2 hq;have:=wE.mp (wE.mp d x hx) y hy;split at this
 ·rename_i p' q' e1 e2;have a:=uF X G tx e1;have b:=uF X G ty e2;exact(of_decide_eq_true this) (a.symm.trans b)
 ·cases this
theorem De {l:VF}{n k:Nat}{q:ii}{loose:List db}{XP:(db->Option am)->i0->Prop}{YP:ij->i0->Prop}{d:DefRec}{K:VO->bn}{CX:jR}{sp:bn->List ap->List ap->Sp}{x:db}{k6 Be:List db}
  (hn:l.most=some n) (w6:n<=sizeLine) (zP:d.params.defaults=[]) (hr:cB k callerA) (Bb:∀w:ij,U3 (K w.params)=true)
  (EC:∀y∈k6++Be,∃r∈recsOf q,r.name=y) (nz:∀w:ij,qB (K w.params) k6 Be=true)
  (hY:∀(w:ij) (h:i0),YP w h->(K w.params).In h)
  (F:∀(w:ij) (mg:db->Option am) (fa:ap) (h:i0) (tabs lts:List ap),(K w.params).In h->h.Ns mainGlobals mg->mg d.name=some (.ref fa)->
   wn (TabOf mg h) k6 tabs->wn (TabOf mg h) Be lts->
   ∃fd:rc,(∀(s:ar) (u:am),Vm s fd ⟨[u],[]⟩ [(x,u)]) /\
    ∀base:i0,(K w.params).In base->base.Ns mainGlobals mg->(∃bm ob,VH base mainGlobals mg bm ob)->(∀c p,u7 h c p->u7 base c p)->FnOk l.prog w (K w.params) mg base CX k fa fd [x] (sp (K w.params) tabs lts))
  (ni:∀(K:bn) (tabs lts:List ap) (H:Hp) (a:ap) (ns:List Int),lts.length=Be.length->ns.length<=n->(∀p∈tabs,Tb p H)->(∀p∈lts,H p=some (.lam #[]))->bG K H a (ns.map V.int)->sp K tabs lts [.ref a] H (fun v H'=>v=.bl true/\∀p∈lts,∃ps,H' p=some (.lam ps)) fun _ _ _=>False)
  (JS:∀(H:Hp) (s:ar) (e:am) (s':ar),CX [] H s (fun _ _ _=>False) e s'->False) :
  PySem.W.WalkO q loose XP YP l.row.toRowW d [] (fun f vs=>VM f vs) :=by
 refine MT.vv hn zP fun w s₀ av mg mb fa o pm cd doc a vs ns G Y ho hd hZ zQ Ct hints hlen hg=>?_
 have KX:=hY w _ Y;have tb:∀k6:List db,(∀y∈k6,∃r∈recsOf q,r.name=y)->∃tabs,wn (TabOf mg av.heap) k6 tabs/\∀p∈tabs,av.heap.get? p=some (S6 #[])/\isCodeTable av.heap p :=by
  intro k6;induction k6 with
  |nil=>intro _;exact⟨[],.nil,fun p hp=>absurd hp (by simp)⟩
  |cons y r ih=>
   intro hm;obtain⟨tabs,h1,h2⟩:=ih fun z hz=>hm z (dL _ hz)
   obtain⟨rr,Q5,e⟩:=hm y i1;obtain⟨f,o',fd,c,p,a1,a2,a3,a4,a5,a6⟩:=G.T.tab rr Q5;rw[e]at a1;refine⟨p::tabs,.cons ⟨f,o',fd,c,a1,a2,a3,a4,.of a5 a6⟩ h1,fun z hz=>?_⟩
   rcases li.mp hz with rfl|hz
   ·exact⟨a6.2,a6.isCodeTable⟩
   ·exact h2 z hz
 obtain⟨tabs,t1,t2⟩:=tb k6 fun y hy=>EC y (FF _ hy)
 obtain⟨lts,u1,u2⟩:=tb Be fun y hy=>EC y (l9 _ hy)
 obtain⟨fd,hb,hF⟩:=F w mg fa _ tabs lts KX G.T.g zQ t1 u1;exact Ba (lts:=lts) KX G.T.g G.T.b G.T.builtins G.T.nolimit hg Ct hints (sw hlen w6) hr (fun p hp=>(xb.mp hp).elim (t2 p) (u2 p)) (Dd KX G.T.g (nz w) t1 u1) (Bb w) (PySem.W.bmod_of_top G.T) hF hb (fun H hO hL hS=>ni _ tabs lts H a ns (Ui u1).symm hlen hO hL hS) fun H e s'=>JS H av e s'
theorem Dg {K:bn}{tabs lts:List ap}{qs:List db}{H:Hp}{a:ap}{ns:List Int}(hl:lts.length=qs.length) (hn:ns.length<=63) (hT:∀p∈tabs,Tb p H) (hL:∀p∈lts,H p=some (.lam #[])) (hS:bG K H a (ns.map V.int)) :
  spLaw K ⟨tabs,lts.zip qs⟩ [.ref a] H (fun v H'=>v=.bl true/\∀p∈lts,∃ps,H' p=some (.lam ps)) fun _ _ _=>False:=
 ⟨a,ns,rfl,hS,hn,hT,fun p hp=>⟨#[],hL p.1 (Ux hp).1,trivial,fun pos cv e=>nomatch e⟩,fun H' h=>⟨rfl,fun p hp=>by
  obtain⟨i,hi⟩:=r9.mp hp;have h1:=(br.mp hi).1;exact h (p,qs[i]) (im (i:=i) (xp.mpr ⟨hi,ag (by omega)⟩))⟩⟩
theorem rN {α β:Type}{F:α->β->Prop}:∀{l:List α}{m:List β}{i:Nat}{a:α},wn F l m->l[i]?=some a->∃b,m[i]?=some b/\F a b
 |_,_,_,_,.nil,h=>by simp at h
 |_,_,0,_,.cons x _,h=>by simp at h;subst h;exact⟨_,rfl,x⟩
 |_,_,i+1,_,.cons _ t,h=>by obtain⟨b,e,q⟩:=rN (i:=i) t (by simpa using h);exact⟨b,by simpa using e,q⟩
end L2
namespace L2
open PySem PySem.Spec PySem.W PyProof.Rows
theorem Dh:fillsNumberSlot (.type "tuple") "mul" = pure false:=
 PySem.fillsNumberSlot_seq (r:=some (.builtin "tuple.__rmul__")) Vs.lookup (by decide +kernel) F.slot_tuple_rmul.lookup (by decide +kernel)
theorem L1:seqRepeat? (.type "tuple")=pure (some (.builtin "tuple.__mul__")) :=by
 unfold seqRepeat?;rw[PySem.seqSlot_of (T := "tuple") (name := "__mul__") (id := "tuple.__mul__") Vs.lookup (by decide +kernel),PySem.seqSlot_of (T := "tuple") (name := "__rmul__") (id := "tuple.__rmul__") F.slot_tuple_rmul.lookup (by decide +kernel)]
 rfl
theorem L3 (a:Int) (t:Tok) (l:ap) (items:Array am) (n:Nat) (sl:Array (Option am)) :
  Meets (l7.«int.__rmul__» ⟨[.int a t,.ref l],[]⟩) (fun _ R s=>s.heap.get? l=some {cls:=.type "tuple",dict:=none,data:=.seq items n,slots:=sl}/\R (.ok (.ret am.notImplemented)) s):=
 .of_wp fun prog w A R s h=>by obtain⟨hp,g,d,tk,os⟩:=s;obtain⟨hl,h⟩:=h;wp_walk;exact⟨_,rfl,h⟩
theorem rO (its:List am) (m:Nat):Vl (fun x1 x2=>x1++x2) #[] (lv m its.toArray)=(lv m its).flatten.toArray :=by
 have:=foldl_rep its m [];rw[IT]at this;exact this
theorem Pn (l:ap) (its:List am) (n:Nat) (sl:Array (Option am)) (x:Int) (u:Tok) (h1:2<=x) (h2:x<1000) (cf:its≠[]) (hz:its.length * x.toNat<=10000) :
  Meets (l7.«tuple.__mul__» ⟨[.ref l,.int x u],[]⟩) (fun _ R s=>s.heap.get? l=some {cls:=.type "tuple",dict:=none,data:=.seq its.toArray n,slots:=sl} /\
   R (.ok (.ret (ul s.heap.objs.size))) {s with heap:=s.heap.push {cls:=zd "tuple",data:=Data.seq (lv x.toNat its).flatten.toArray},toks:=s.toks}):=
 .of_wp fun prog w A R s h=>by
  obtain⟨hp,g,d,tk,os⟩:=s;obtain⟨hl,h⟩:=h;have f1:=PySem.AutoSeq1.idx_int;have hs:its.toArray.size=its.length :=by simp
  have w6:its.toArray.isEmpty=false :=by cases its with|nil=>exact absurd rfl cf|cons a b=>rfl
  have e:((its.length * x.toNat:Nat):Int)=(its.toArray.size:Int) * x :=by rw[hs,UL,Int.toNat_of_nonneg (by omega)]
  have c0:¬ (decide (x < -(2 ^ 63)) || decide (x ≥ 2 ^ 63))=true :=by simp;omega
  have c1:¬ (its.toArray.isEmpty || x==1)=true :=by rw[w6];simp;omega
  have c2:¬ (decide (x<=0) || its.toArray.isEmpty)=true :=by rw[w6];simp;omega
  have c3:¬ (its.toArray.size:Int) * x > (2 ^ 63 - 1) / 8 :=by rw[<- e];omega
  have c4:¬ l7.Tuple.tupleTooMany ((its.toArray.size:Int) * x)=true :=by rw[<- e];unfold l7.Tuple.tupleTooMany;simp only[decide_eq_true_eq,show sizeLine=16777216 from rfl];omega
  have c5:¬ (Vl (fun x1 x2=>x1++x2) #[] (lv x.toNat its.toArray)).size > sizeLine :=by
   rw[rO,ci,len_rep,TN,show sizeLine=16777216 from rfl];omega
  wp_walk using Do hl
  rw[if_neg c0];wp_walk using Do hl
  rw[if_neg c1];wp_walk using Do hl
  rw[if_neg c2];wp_walk using Do hl
  rw[if_neg c3];wp_walk using Do hl
  rw[if_neg c4];wp_walk using Do hl
  rw[rO];exact⟨_,rfl,h⟩
section
variable {X:Cx}{Γ:Gz}{K:bn}
def L4:R2:=fun x y H Q=>∃l k xs,x=.ref l/\y=.int k/\H l=some (.tup xs)/\xs≠[]/\2<=k/\k<1000/\xs.length * k.toNat<=10000/\∀p,H p=none->Q (.ref p) (upd H p (.tup (lv k.toNat xs).flatten))
theorem F6:OpR X (binaryOp .Mult) L4 :=by
 intro pins s σ H x y v u Q I rx ry h;obtain⟨l,k,xs,rfl,rfl,hH,cf,h1,h2,hz,q⟩:=h;cases rx;obtain⟨t,rfl⟩:=ry;obtain⟨z,its,r,o,e,c,n,d,hd⟩:=I.hok l _ hH;obtain⟨oc,od,RJ,jv⟩:=o;simp only at c d hd;subst c d hd;have hl:=r.length;refine wpAny_binaryOp_repeat_ref (T := "tuple") (U := "int") (by decide) ⟨_,e,rfl⟩ (fun s'=>TX s' k t) Dh F.fills_int_mul UB L1 F.slot_int_index.lookup
  (SO UB (TX s k t) F.entry_int_rmul (F.args_int_rmul_2 _ _) (L3 k t l its.toArray n jv)
   ⟨e,rfl,⟨_,e,rfl⟩,SO Vs ⟨_,e,rfl⟩ F.entry_tuple_mul (F.args_tuple_mul_2 _ _) (Pn l its n jv k t h1 h2 (fun w=>cf (r.jS.mp w)) (by rw[<- hl];exact hz)) ⟨e,?_⟩⟩)
 refine⟨.ref s.heap.objs.size,_,I.laid (t':=s.toks) (o:=.tup (lv k.toNat xs).flatten) (fun b ob q=>bi _ q) (bv _) ?_,rfl,q _ (I.hok.fresh (bv _))⟩
 exact⟨by rw[len_rep,TN,show sizeLine=16777216 from rfl];omega,_,r.rep k.toNat,gL.new _ _⟩
def zRepT:dM:=fun d e M Q=>match d,e with | .tup ds,.int k=>(ds≠[]/\2<=k/\k<1000/\ds.length * k.toNat<=10000)/\Q (.tup (lv k.toNat ds).flatten) M|_,_=>False
theorem aJ.rep {β:Bz}{M:Mh}{H:Hp}{vs:List V}{ds:List Dv}(r:aJ β M H vs ds):∀k:Nat,aJ β M H (lv k vs).flatten (lv k ds).flatten
 |0=>⟨rfl,fun i v d h=>by simp at h⟩
 |k+1=>by rw[sB,sB,Nd,Nd];exact r.append (aJ.rep r k)
theorem JU:ef Γ X (binaryOp .Mult) zRepT:=⟨_,F6,fun β x y d e M H Q Q' _ _ _ m rx ry z q=>by
 unfold zRepT at z;split at z
 ·rename_i ds k;obtain⟨a,vs,rfl,f,ha,rs⟩:=bg rx;obtain⟨⟨z0,z1,z2,z3⟩,z4⟩:=z;refine⟨a,_,vs,rfl,aC ry,ha,fun w=>z0 (by have:=rs.len;rw[w]at this;exact wl this.symm),z1,z2,by rw[rs.len];exact z3,fun p hp=>?_⟩
  have x2:=Ex.lay m hp (.tup (lv k.toNat vs).flatten);exact q _ _ _ _ x2 (d9 (m.fz hp) aE ((rs.rep _).ex x2)) z4
 ·exact z.elim⟩
def zRepL:dM:=fun d e M Q=>match d,e with | .lst ds,.int k=>(-(2 ^ 63)<=k/\k<2 ^ 63/\ds.length * k.toNat<=sizeLine)/\Q (.lst (lv k.toNat ds).flatten) M|_,_=>False
open Classical in
theorem F7 {pins:List (ap×l8)}{σ:St}{H:Hp}{s:ar}(I:Inv X pins σ H s) {x:V}{v:am}{d:Dt}{xs:List V}{ds:List Dt}{its:List am}(rx:RelV x v) (hx:di H x d) (rv:Vals xs its) (hl:xs.length=ds.length)
  (gw:∀(i:Nat) (v:V) (t:Dt),xs[i]?=some v->ds[i]?=some t->di H v t) (Bf:∀t∈ds,dF t<=60) (hu:X.A.units+64<cLine) :
  ∃e:am->Bool,(∀y∈its,lm X.A.in1 s y v (e y))/\∀(i:Nat) (y:am) (t:Dt),its[i]?=some y->ds[i]?=some t->e y=cw t d :=by
 have lL:=rv.length;let e:am->Bool:=fun y=>decide (∃(i:Nat) (t:Dt),its[i]?=some y/\ds[i]?=some t/\cw t d=true)
 have key:∀(i:Nat) (y:am) (t:Dt),its[i]?=some y->ds[i]?=some t->e y=cw t d:=fun i y t hi ht=>by
  cases hE:cw t d with
  |true=>exact decide_eq_true ⟨i,t,hi,ht,hE⟩
  |false=>
   refine decide_eq_false fun⟨j,t',hj,Q6,he⟩=>?_
   obtain⟨a,ha,ra⟩:=iH rv hi;obtain⟨b,hb,rb⟩:=iH rv hj;have Q7:=ra.inj rb;subst Q7;have:=(gw i a t ha ht).inj (gw j a t' hb Q6);subst this;rw[he]at hE;cases hE
 refine⟨e,fun y hy=>?_,key⟩
 obtain⟨i,hi⟩:=r9.mp hy;obtain⟨a,ha,ra⟩:=iH rv hi;have ig:i<ds.length :=by
  have:=(br.mp ha).1;omega
 have ht:=ag ig;rw[key i y _ hi ht];refine lW I (gw i a _ ha ht) hx ra rx ?_;have:=Bf _ (DD ig);have:X.A.in1.units=X.A.units+1:=rfl;omega
def qC (ts:List Dt) (d:Dt) (j:Nat):Prop:=(∃t,ts[j]?=some t/\cw t d=true)/\∀m t,m<j->ts[m]?=some t->cw t d=false
def F8:V->List V->Hp->VK->Prop:=fun x vs H Q=>∃(p:ap) (xs:List V) (v:V) (d:Dt) (ds:List Dt) (j:Nat),x=.ref p/\vs=[v]/\H p=some (.lst xs)/\di H v d/\xs.length=ds.length/\(∀(i:Nat) (v:V) (t:Dt),xs[i]?=some v->ds[i]?=some t->di H v t) /\
 (∀t∈ds,dF t<=60)/\qC ds d j/\j<16777216/\Q (.int (j:Nat)) H
theorem Bg (hu:X.A.units+64<cLine):zJ X "list.index" F8 :=by
 intro pins s σ H x vs v us Q I rx rv h;obtain⟨p,xs,v1,d,ds,j,rfl,rfl,hp,hx,hl,gw,Bf,⟨⟨t,ht,hE⟩,nj⟩,hj,q⟩:=h;cases rx;obtain⟨u,rfl,ru⟩:=rv.one;obtain⟨z,its,n,r,lL,e⟩:=I.nL hp;obtain⟨ee,he,key⟩:=F7 I ru hx r hl gw Bf hu;have hr:=r.length;have mE:j<its.length :=by
  have:=(br.mp ht).1;omega
 refine SO F.slot_list_index ⟨_,e,rfl⟩ F.entry_list_index (F.args_list_index_2 _ _) (SeqAt.list_indexAt p its.toArray n _ _ _ ee j (by simpa using mE) (by omega) ?_ fun m hm JV=>?_) ⟨e,fun y hy=>he y (by simpa using hy),⟨.int _,H,I.tok _,⟨_,rfl⟩,q⟩⟩
 ·rw[key j _ t (by simp[mE]) ht];exact hE
 ·have Bh:m<its.length :=by simpa using hm
  have NN:m<ds.length :=by omega
  rw[key m _ _ (by simp[Bh]) (ag NN)]
  exact nj m _ JV (ag NN)
def mZ:pF:=fun d ds M Q=>match now M d,ds with
 | .lst xs,[y]=>(match aW (now M y),fM xs with|some a,some ts=>(∀t∈ts,dF t<=60)/\∃j,qC ts a j/\j<16777216/\Q (.int (j:Nat)) M|_,_=>False)
 |_,_=>False
theorem Di (hu:X.A.units+64<cLine):wR Γ X "list" "list.index" K mZ:=⟨_,Bg hu,fun β x xs d ds M H Q Q' _ _ _ m r rs z q=>by
 unfold mZ at z;split at z
 ·rename_i Q8 y h2;split at z
  ·rename_i a ts h1 Q9;obtain⟨v,e2,rv⟩:=b5 rs;subst e2;obtain⟨Bf,j,hF,hj,hq⟩:=z;have hy:di H x (.lst ts):=mU m r (by rw[h2];simp only[aW,Q9,AS])
   cases hy with
   |lst e hl gw=>exact⟨_,_,v,a,ts,j,rfl,rfl,e,mU m rv h1,hl,gw,Bf,hF,hj,q _ _ _ _ (.refl m) (.int _) hq⟩
  ·exact z.elim
 ·exact z.elim⟩
end
end L2
namespace L2
open PySem PySem.Spec PyProof.Rows
theorem kN {g:cN}{te:aM}(J:List Dv->az->Mh->Prop):∀{ds acc:List Dv}{τ:az}{M:Mh}{Q:List Dv->Mh->Prop},J acc τ M->
  (∀i d eF τ M,ds[i]?=some d->eF.length=acc.length+i->J eF τ M->∀R:az->ZK,(∀y aA M2,J (eF++[y]) aA M2->R aA y M2)->g d τ M fun aA M2=>te aA M2 (R aA))->
  (∀ys τ M,ys.length=ds.length->J (acc++ys) τ M->Q ys M)->fU g zNoIf te ds τ M Q
 | [],acc,τ,M,Q,j,_,q=>q [] τ M rfl (by rw[AN];exact j)
 |d::ds,acc,τ,M,Q,j,h,q=>by
          refine h 0 d acc τ M rfl rfl j (fun aA y M4=>fU g zNoIf te ds aA M4 fun ys M5=>Q (y::ys) M5) fun y aA M2 j2=>?_
          refine kN J (acc:=acc++[y]) j2 (fun i d' eF cc M' e1 e2 j' R hR=>?_) fun ys nC M3 e3 j3=>?_
          ·exact h (i+1) d' eF cc M' e1 (by rw[e2,rf];simp;omega) j' R hR
          ·exact q (y::ys) nC M3 (by simp[e3]) (by rw[EM]at j3;exact j3)
theorem ED {a1 r:cj}{D:fL}{ρ:az}{M:Mh}(I:az->Mh->Prop) (h1:∀N:az->Mh->Prop,(∀ρ M,I ρ M->N ρ M)->a1 {D with nx:=N} ρ M) (h2:∀ρ M,I ρ M->r D ρ M):(zSeq a1 r) D ρ M:=h1 _ h2
theorem yA {a1 a2 r:cj}{D:fL}{ρ:az}{M:Mh}(I:az->Mh->Prop) (h1:∀N:az->Mh->Prop,(∀ρ M,I ρ M->N ρ M)->(zSeq a1 a2) {D with nx:=N} ρ M) (h2:∀ρ M,I ρ M->r D ρ M):(zSeq a1 (zSeq a2 r)) D ρ M:=h1 _ h2
theorem L5 {a1 a2 a3 r:cj}{D:fL}{ρ:az}{M:Mh}(I:az->Mh->Prop) (h1:∀N:az->Mh->Prop,(∀ρ M,I ρ M->N ρ M)->(zSeq a1 (zSeq a2 a3)) {D with nx:=N} ρ M) (h2:∀ρ M,I ρ M->r D ρ M):(zSeq a1 (zSeq a2 (zSeq a3 r))) D ρ M:=h1 _ h2
theorem L6 {a1 a2 a3 a4 r:cj}{D:fL}{ρ:az}{M:Mh}(I:az->Mh->Prop) (h1:∀N:az->Mh->Prop,(∀ρ M,I ρ M->N ρ M)->(zSeq a1 (zSeq a2 (zSeq a3 a4))) {D with nx:=N} ρ M) (h2:∀ρ M,I ρ M->r D ρ M):(zSeq a1 (zSeq a2 (zSeq a3 (zSeq a4 r)))) D ρ M:=h1 _ h2
theorem L7 {a1 a2 a3 a4 a5 r:cj}{D:fL}{ρ:az}{M:Mh}(I:az->Mh->Prop) (h1:∀N:az->Mh->Prop,(∀ρ M,I ρ M->N ρ M)->(zSeq a1 (zSeq a2 (zSeq a3 (zSeq a4 a5)))) {D with nx:=N} ρ M) (h2:∀ρ M,I ρ M->r D ρ M):(zSeq a1 (zSeq a2 (zSeq a3 (zSeq a4 (zSeq a5 r))))) D ρ M:=h1 _ h2
section
variable {β:Bz}{M M':Mh}{H H':Hp}{a:ap}{o o' o2 nD:Mo}
theorem Rz.dom (hd:∀a,(M a).isSome=(M' a).isSome) {v:V}{d:Dv}(r:Rz β M H v d):Rz β M' H v d:=
 r.kJ (M0:=M') (fun a h=>by rw[hd a];exact h) (r.pin.mono fun a h=>by rw[<- hd a];exact h)
theorem iC.dom (hd:∀a,(M a).isSome=(M' a).isSome) (h:iC β M H a o):iC β M' H a o :=by
 cases o with
 |lst ds=>obtain⟨vs,h1,rs⟩:=h;exact⟨vs,h1,rs.len,fun i v d x y=>(rs.at' i v d x y).dom hd⟩
 |dj=>exact h
 |dk ks ds=>obtain⟨vs,h1,h2,rs⟩:=h;exact⟨vs,h1,h2,rs.len,fun i v d x y=>(rs.at' i v d x y).dom hd⟩
 |dt ks ds=>obtain⟨vs,h1,h2,rs⟩:=h;exact⟨vs,h1,h2,rs.len,fun i v d x y=>(rs.at' i v d x y).dom hd⟩
 |ts ks ds=>obtain⟨vs,h1,h2,rs⟩:=h;exact⟨vs,h1,h2,rs.len,fun i v d x y=>(rs.at' i v d x y).dom hd⟩
theorem iQ (M:Mh) (a:ap) (o o2:Mo) (b:ap):(aw M a o b).isSome=(aw M a o2 b).isSome :=by
 by_cases e:b=a
 ·subst e;rw[updM_same,updM_same];rfl
 ·rw[aj e,aj e]
theorem jI {b:ap}(o2:Mo) (h:aw M a o b=none):aw M a o2 b=none :=by
 by_cases e:b=a
 ·subst e;rw[updM_same]at h;cases h
 ·rw[aj e]at h ⊢;exact h
theorem Mz.chg (m:Mz β (aw M a o) H) (h2:iC β (aw M a o2) H a o2):Mz β (aw M a o2) H :=by
 refine⟨fun b u e=>?_,m.tabs,m.hids,fun b u e=>?_,m.lams⟩
 ·by_cases z:b=a
  ·subst z;rw[updM_same]at e;cases e;exact h2
  ·rw[aj z]at e;exact iC.dom (iQ M a o o2) (m.obj b u (by rw[aj z];exact e))
 ·by_cases z:b=a
  ·subst z;exact m.apart b o updM_same
  ·rw[aj z]at e;exact m.apart b u (by rw[aj z];exact e)
theorem w9 (h:M a=some o):aw M a o=M :=by
 funext b
 by_cases e:b=a
 ·subst e;rw[updM_same,h]
 ·rw[aj e]
theorem Ex.chg (x:Ex β (aw M a o) H (aw M a o') H') (h2:iC β (aw M a nD) H' a nD):Ex β (aw M a o2) H (aw M a nD) H':=
 ⟨⟨fun b u h e=>x.keep b u (jI o h) e,fun b h=>by rw[iQ M a nD o'];exact x.dom b (by rw[iQ M a o o2];exact h),fun b u h e=>jI nD (x.new b u (jI o h) e)⟩,x.mz.chg h2⟩
theorem Ex.sealed (hn:M a=none) (x:Ex β M H (aw M a o') H') (h2:iC β (aw M a nD) H' a nD):Ex β M H (aw M a nD) H':=
 ⟨⟨x.keep,fun b h=>by rw[iQ M a nD o'];exact x.dom b h,fun b u h e=>jI nD (x.new b u h e)⟩,x.mz.chg h2⟩
theorem Bi {c m:Int}(z:Mz β (aw M a (.lst [.int c,.int m])) H) (hc:0<=c) (hm:0<=m):iC β (aw M a .dj) H a .dj :=by
 obtain⟨vs,h,rs⟩:=z.obj a _ updM_same;refine⟨c,m,?_,hc,hm⟩;have:=eZ (ns:=[c,m]) rs;rw[h,this];rfl
theorem JW (z:Mz β (aw M a .dj) H):∃c m:Int,0<=c/\0<=m/\iC β (aw M a (.lst [.int c,.int m])) H a (.lst [.int c,.int m]) :=by
 obtain⟨c,m,h,hc,hm⟩:=z.obj a _ updM_same;exact⟨c,m,hc,hm,_,h,n5 (ns:=[c,m])⟩
end
section
variable {X:Cx}{Γ:Gz}{K:bn}
def zIxS:dM:=fun d e M Q=>match d,e with | .bo ns,.int i=>(match cZ ns i with|some x=>Q (.int x) M|none=>False)|_,_=>False
theorem EE (hK:X.K=K) (hG:K=Γ.K):JG Γ X zIxS:=⟨_,wm hK,fun β x y d e M H Q Q' _ _ eK m rx ry z q=>by
 unfold zIxS at z;split at z
 ·rename_i ns i;split at z
  ·rename_i v hv;obtain⟨a,rfl,hS⟩:=rF rx;rw[eK,<- hG]at hS;exact .inl ⟨a,_,i,.int v,rfl,aC ry,hS,F4 hv,q _ _ _ _ (.refl m) (.int _) z⟩
  ·exact z.elim
 ·exact z.elim⟩
end
def Ra (k:Nat):db:=⟨#[97+k]⟩
section
variable {κ:Type} [DecidableEq κ]
def Pq (step:κ->Nat->κ) (met:κ) (w:db) (st:List κ×List db) (a:Nat):List κ×List db:=if step met a∈st.1 then st else (st.1++[step met a],st.2++[w++Ra a])
def visit (step:κ->Nat->κ) (met:κ) (w:db) (n:Nat) (st:List κ×List db):List κ×List db:=(i8 n).foldl (Pq step met w) st
def NP (step:κ->Nat->κ) (n most:Nat):Nat->Nat->List κ×List db->List κ×List db
 |0,_,st=>st
 |fuel+1,i,st=>match st.1[i]?,st.2[i]? with
  |some met,some w=>if st.1.length<=most then NP step n most fuel (i+1) (visit step met w n st) else st
  |_,_=>st
def met (step:κ->Nat->κ) (n most N:Nat) (s:κ):List κ×List db:=NP step n most (N+1) 0 ([s],[""])
end
section
variable {X:Cx}{Γ:Gz}
def zRepP:dM:=fun d e M Q=>match d,e with | .lst ds,.int k=>(-(2 ^ 63)<=k/\k<2 ^ 63/\ds.length * k.toNat<=sizeLine)/\∀a,M a=none->Q (.ptr a) (aw M a (.lst (lv k.toNat ds).flatten))|_,_=>False
theorem JX:ef Γ X (binaryOp .Mult) zRepP:=⟨_,Ib,fun β x y d e M H Q Q' _ _ _ m rx ry z q=>by
 unfold zRepP at z;split at z
 ·rename_i ds k;obtain⟨a,vs,rfl,f,ha,rs⟩:=gh rx;obtain⟨⟨z1,z2,z3⟩,z4⟩:=z;refine⟨a,_,vs,rfl,aC ry,ha,z1,z2,by rw[rs.len];exact z3,fun p hp=>?_⟩
  have x2:=Ex.own m (.inr hp) (rs.rep k.toNat);exact q _ _ _ _ x2 (.ptr (by rw[updM_same];rfl)) (z4 p (m.free hp))
 ·exact z.elim⟩
end
end L2
namespace L2
open PySem PySem.Spec PySem.W PyProof.Rows
def dN {α:Type}(R:Nat->Int) (n:Nat):KasT α->(α->Prop)->Prop
 | .ret a,Q=>Q a
 | .ask i j k,Q=>i<n/\j<n/\dN R n (k (decide (R i<R j))) Q
theorem gj {α β:Type}{R:Nat->Int}{n:Nat}{f:α->KasT β}{Q:β->Prop}:∀{t:KasT α},dN R n t (fun a=>dN R n (f a) Q)->dN R n (t.bind f) Q
 | .ret _,h=>h
 | .ask _ _ k,h=>⟨h.1,h.2.1,gj (t:=k _) h.2.2⟩
structure Pm (n:Nat) (p:Array Nat):Prop where
 sz:p.size=n
 pm:p.toList.Perm (i8 n)
theorem Pm.lt {n:Nat}{p:Array Nat}(h:Pm n p) {k:Nat}(hk:k<n):p.getD k 0<n :=by
 have jV:k<p.size :=by rw[h.sz];exact hk
 have e:p.getD k 0=p[k] :=by simp[Mc,jV]
 rw[e];have:p[k]∈p.toList :=by simp
 exact u4.mp (h.pm.mem_iff.mp this)
theorem Pm.of {n:Nat}{p p':Array Nat}(h:Pm n p) (hs:p'.size=p.size) (hp:p'.Perm p):Pm n p':=⟨hs.trans h.sz,(Array.perm_iff_toList_perm.mp hp).trans h.pm⟩
def rk (R:Nat->Int) (p:Array Nat) (k:Nat):Int:=R (p.getD k 0)
theorem gU (p:Array Nat) (k:Nat):p.getD k 0=(p[k]?).getD 0 :=by simp[Array.getD_eq_getD_getElem?]
theorem pI (R:Nat->Int) {p:Array Nat}{i j:Nat}(hj:j<=p.size) (k:Nat):rk R (kas_rev p i j) k=if i<=k/\k<j then rk R p (i+j - 1 - k) else rk R p k :=by
 unfold rk kas_rev;rw[gU,getElem?_mirror_all hj k];split<;>rw[gU]
theorem Bj (R:Nat->Int) {p:Array Nat}{src d:Nat}(hs:src<p.size) (hd:d<=src) (k:Nat):rk R (bubble p src d) k=if k=src - d then rk R p src else if src - d<k/\k<=src then rk R p (k - 1) else rk R p k :=by
 unfold rk;rw[gU,gU p src,gU p (k - 1),gU p k,getElem?_bubble hs d hd k];by_cases h1:k=src - d
 ·rw[if_pos h1,if_pos h1]
 ·rw[if_neg h1,if_neg h1];by_cases h2:src - d<k/\k<=src
  ·rw[if_pos h2,if_pos h2]
  ·rw[if_neg h2,if_neg h2]
def mF (R:Nat->Int) (p:Array Nat) (m:Nat):Prop:=∀a b,a<=b->b<m->rk R p a<=rk R p b
def nE (R:Nat->Int) (p:Array Nat) (m:Nat):Prop:=∀a b,a<=b->b<m->rk R p b<=rk R p a
section
variable {R:Nat->Int}{n:Nat}
theorem uG {p:Array Nat}(hp:Pm n p) {Q:Nat->Prop}:∀(f m:Nat),mF R p m->1<=m->m+f<=n->(∀m',m<=m'->m'<=m+f->mF R p m'->(m'<m+f->rk R p m'<rk R p (m' - 1))->Q m')->dN R n (kas_asc p f m) Q
 |0,m,ha,h1,hn,q=>q m (bv _) (bv _) ha (fun h=>absurd h (NE _))
 |f+1,m,ha,h1,hn,q=>by
          refine⟨hp.lt (by omega),hp.lt (by omega),?_⟩
          show dN R n (if decide (rk R p m<rk R p (m - 1))=true then _ else _) Q
          by_cases h:rk R p m<rk R p (m - 1)
          ·rw[decide_eq_true h,if_pos rfl];exact q m (bv _) (by omega) ha (fun _=>h)
          ·rw[decide_eq_false h,if_neg hX];refine uG hp f (m+1) (fun a b fF hb=>?_) (by omega) (by omega) fun m' h2 h3 h4 h5=>q m' (by omega) (by omega) h4 (fun z=>h5 (by omega))
           rcases OE b m with z|z
           ·exact ha a b fF z
           ·have eb:b=m :=by omega
            subst eb;rcases OE a b with y|y
            ·have:=ha a (b - 1) (by omega) (by omega)
             omega
            ·have:a=b :=by omega
             subst this;exact RI _
theorem nE.rev {p:Array Nat}{m i:Nat}(hm:m<=p.size) (h:nE R p m) (he:∀k,i<=k->k<m->rk R p k=rk R p (m - 1)):nE R (kas_rev p i m) m/\∀k,rk R (kas_rev p i m) k=rk R p k :=by
 have e:∀k,rk R (kas_rev p i m) k=rk R p k:=fun k=>by
  rw[pI R hm];split
  ·rename_i z;rw[he (i+m - 1 - k) (by omega) (by omega),he k z.1 z.2]
  ·rfl
 exact⟨fun a b fF hb=>by rw[e a,e b];exact h a b fF hb,e⟩
theorem Pm.rev {p:Array Nat}(h:Pm n p) (i j:Nat):Pm n (kas_rev p i j):=h.of (mirror_size _ _ _ _) (mirror_perm _ _ _ _)
theorem m4 {Q:Array Nat×Nat×Nat->Prop}:∀(f:Nat) (p:Array Nat) (m q:Nat),Pm n p->nE R p m->(∀k,m - (q+1)<=k->k<m->rk R p k=rk R p (m - 1))->q+1<=m->m+f<=n->
  (∀p' m' q',Pm n p'->nE R p' m'->(∀k,m' - (q'+1)<=k->k<m'->rk R p' k=rk R p' (m' - 1))->q'+1<=m'->m'<=n->Q (p',m',q'))->dN R n (kas_desc f p m q) Q
 |0,p,m,q,hp,hd,he,hq,hn,k=>k p m q hp hd he hq (by omega)
 |f+1,p,m,q,hp,hd,he,hq,hn,k=>by
          have hsz:=hp.sz;refine⟨hp.lt (by omega),hp.lt (by omega),?_⟩
          show dN R n (if decide (rk R p m<rk R p (m - 1))=true then _ else _) Q
          by_cases h:rk R p m<rk R p (m - 1)
          ·rw[decide_eq_true h,if_pos rfl];have more:∀p',Pm n p'->(∀k,rk R p' k=rk R p k)->nE R p' (m+1):=fun p' _ e a b fF hb=>by
            rw[e a,e b];rcases OE b m with z|z
            ·exact hd a b fF z
            ·have eb:b=m :=by omega
             subst eb;rcases OE a b with y|y
             ·have:=hd a (b - 1) (by omega) (by omega)
              omega
             ·have:a=b :=by omega
              subst this;exact RI _
           have one:∀p':Array Nat,∀k,m+1 - (0+1)<=k->k<m+1->rk R p' k=rk R p' (m+1 - 1):=fun p' k h1 h2=>by rw[show k=m by omega];rfl
           by_cases NQ:q > 0
           ·rw[if_pos NQ];obtain⟨_,e⟩:=nE.rev (i:=m - (q+1)) (show m<=p.size by omega) hd he
            exact m4 f _ (m+1) 0 (hp.rev _ _) (more _ (hp.rev _ _) e) (one _) (by omega) (by omega) k
           ·rw[if_neg NQ];exact m4 f p (m+1) 0 hp (more p hp fun _=>rfl) (one p) (by omega) (by omega) k
          ·rw[decide_eq_false h,if_neg hX];refine⟨hp.lt (by omega),hp.lt (by omega),?_⟩
           show dN R n (if decide (rk R p (m - 1)<rk R p m)=true then _ else _) Q
           by_cases h2:rk R p (m - 1)<rk R p m
           ·rw[decide_eq_true h2,if_pos rfl];exact k p m q hp hd he hq (by omega)
           ·rw[decide_eq_false h2,if_neg hX];have e:rk R p m=rk R p (m - 1) :=by omega
            refine m4 f p (m+1) (q+1) hp (fun a b fF hb=>?_) (fun x h3 h4=>?_) (by omega) (by omega) k
            ·rcases OE b m with z|z
             ·exact hd a b fF z
             ·have eb:b=m :=by omega
              subst eb;rcases OE a b with y|y
              ·rw[e];exact hd a (b - 1) (by omega) (by omega)
              ·have:a=b :=by omega
               subst this;exact RI _
            ·show rk R p x=rk R p m;rcases OE x m with z|z
             ·rw[e];exact he x (by omega) z
             ·rw[show x=m by omega]
theorem uH {m:Nat}{p:Array Nat}(hp:Pm n p) (hd:nE R p m) (h1:1<=m) (hm:m<=n) {Q:Nat×Array Nat->Prop}(q:∀m' p',Pm n p'->mF R p' m'->1<=m'->m'<=n->Q (m',p')):dN R n (kas_tail3 m n p) Q :=by
 have hsz:=hp.sz;refine gj (uG (hp.rev 0 m) (n - m) m (fun a b fF hb=>?_) h1 (by omega) fun m' h2 h3 h4 _=>q m' _ (hp.rev 0 m) h4 (by omega) (by omega))
 rw[pI R (by omega),pI R (by omega),if_pos ⟨by omega,by omega⟩,if_pos ⟨by omega,by omega⟩]
 exact hd _ _ (by omega) (by omega)
theorem nF {m:Nat}{p:Array Nat}(hp:Pm n p) (hd:nE R p (m+1)) (hm:m+1<=n) {Q:Nat×Array Nat->Prop}(q:∀m' p',Pm n p'->mF R p' m'->1<=m'->m'<=n->Q (m',p')):dN R n (kas_descPart m n p) Q :=by
 refine gj (m4 (n - (m+1)) p (m+1) 0 hp hd (fun k h1 h2=>by rw[show k=m by omega];rfl) (by omega) (by omega) fun p' m' q' JY hV he hq hn=>?_)
 have hsz:=JY.sz;show dN R n (if q' > 0 then kas_tail3 m' n (kas_rev p' (m' - (q'+1)) m') else kas_tail3 m' n p') Q
 by_cases h:q' > 0
 ·rw[if_pos h];exact uH (JY.rev _ _) (nE.rev (by omega) hV he).1 (by omega) hn q
 ·rw[if_neg h];exact uH JY hV (by omega) hn q
theorem Dj {p:Array Nat}(hp:Pm n p) (h1:1<=n) {Q:Nat×Array Nat->Prop}(q:∀m' p',Pm n p'->mF R p' m'->1<=m'->m'<=n->Q (m',p')):dN R n (kas_count n p) Q :=by
 have hsz:=hp.sz;refine gj (uG hp (n - 1) 1 (fun a b fF hb=>by rw[show a=b by omega];exact RI _) (bv _) (by omega) fun m h2 h3 h4 h5=>?_)
 by_cases e:m=n
 ·rw[if_pos (by simpa using e)]
  exact q m p hp h4 h2 (by omega)
 ·rw[if_neg (by simpa using e)]
  have aQ:=h5 (by omega)
  by_cases hm:m > 1
  ·rw[if_pos hm];refine⟨hp.lt (by omega),hp.lt (by omega),?_⟩
   show dN R n (if decide (rk R p 0<rk R p (m - 1))=true then _ else _) Q
   by_cases h:rk R p 0<rk R p (m - 1)
   ·rw[decide_eq_true h,if_pos rfl];exact q m p hp h4 (by omega) (by omega)
   ·rw[decide_eq_false h,if_neg hX];have eq:∀k,k<m->rk R p k=rk R p (m - 1):=fun k hk=>by
     have a1:=h4 k (m - 1) (by omega) (by omega)
     have a2:=h4 0 k (by omega) hk
     omega
    have er:∀k,rk R (kas_rev p 0 m) k=rk R p k:=fun k=>by
     rw[pI R (by omega)]
     split
     ·rename_i z;rw[eq (0+m - 1 - k) (by omega),eq k z.2]
     ·rfl
    refine nF (hp.rev 0 m) (fun a b fF hb=>?_) (by omega) q
    rw[er,er];rcases OE b m with z|z
    ·rw[eq a (by omega),eq b z];exact RI _
    ·have eb:b=m :=by omega
     subst eb;rcases OE a b with y|y
     ·rw[eq a y];omega
     ·rw[show a=b by omega];exact RI _
  ·rw[if_neg hm];have em:m=1 :=by omega
   subst em;refine nF hp (fun a b fF hb=>?_) (by omega) q
   have aQ:rk R p 1<rk R p 0:=aQ;match a,b,fF,hb with
   |0,0,_,_=>exact RI _
   |0,1,_,_=>omega
   |1,1,_,_=>exact RI _
   |a,b+2,_,hb=>omega
   |a+2,b,h,hb=>omega
   |1,0,h,_=>omega
theorem n8 {p:Array Nat}(hp:Pm n p) {k:Nat}(hk:k<n) (ha:mF R p k) {Q:Nat->Prop}:∀(f l r:Nat),r - l<=f->l<=r->r<=k->(∀a,a<l->rk R p a<=rk R p k)->(∀a,r<=a->a<k->rk R p k<rk R p a)->
  (∀l,l<=k->(∀a,a<l->rk R p a<=rk R p k)->(∀a,l<=a->a<k->rk R p k<rk R p a)->Q l)->dN R n (kas_place p k f l r) Q
 |0,l,r,hf,hl,hr,h1,h2,q=>q l (by omega) h1 (fun a x y=>h2 a (by omega) y)
 |f+1,l,r,hf,hl,hr,h1,h2,q=>by
          unfold kas_place;by_cases e:l ≥ r
          ·rw[if_pos e];exact q l (by omega) h1 (fun a x y=>h2 a (by omega) y)
          ·rw[if_neg e];refine⟨hp.lt hk,hp.lt (by omega),?_⟩
           show dN R n (if decide (rk R p k<rk R p ((l+r) / 2))=true then _ else _) Q
           by_cases h:rk R p k<rk R p ((l+r) / 2)
           ·rw[decide_eq_true h,if_pos rfl];refine n8 hp hk ha f l ((l+r) / 2) (by omega) (by omega) (by omega) h1 (fun a x y=>?_) q
            have:=ha ((l+r) / 2) a x y;omega
           ·rw[decide_eq_false h,if_neg hX];refine n8 hp hk ha f ((l+r) / 2+1) r (by omega) (by omega) hr (fun a x=>?_) h2 q
            have:=ha a ((l+r) / 2) (by omega) (by omega)
            omega
theorem Bk {Q:Array Nat->Prop}:∀(f:Nat) (p:Array Nat) (k:Nat),Pm n p->mF R p k->k+f=n->(∀p',Pm n p'->mF R p' n->Q p')->dN R n (kas_bin f p k) Q
 |0,p,k,hp,ha,hn,q=>q p hp (by rw[<- hn];exact ha)
 |f+1,p,k,hp,ha,hn,q=>by
          have hsz:=hp.sz;refine gj (n8 hp (by omega) ha k 0 k (by omega) (by omega) (bv _) (fun a h=>by omega) (fun a h1 h2=>by omega) fun l hl h1 h2=>?_)
          refine Bk f _ (k+1) (hp.of (bubble_size _ _ _) (bubble_perm _ _ _)) (fun a b fF hb=>?_) (by omega) q
          have hd:k - (k - l)=l :=by omega
          rw[Bj R (by omega) (by omega),Bj R (by omega) (by omega),hd]
          by_cases a1:a=l
          ·rw[if_pos a1];by_cases b1:b=l
           ·rw[if_pos b1];exact RI _
           ·rw[if_neg b1,if_pos ⟨by omega,by omega⟩]
            exact Int.le_of_lt (h2 (b - 1) (by omega) (by omega))
          ·rw[if_neg a1];by_cases b1:b=l
           ·rw[if_pos b1,if_neg (by omega)]
            exact h1 a (by omega)
           ·rw[if_neg b1];by_cases a2:l<a/\a<=k
            ·rw[if_pos a2,if_pos ⟨by omega,by omega⟩]
             exact ha _ _ (by omega) (by omega)
            ·rw[if_neg a2];by_cases b2:l<b/\b<=k
             ·rw[if_pos b2];exact ha _ _ (by omega) (by omega)
             ·rw[if_neg b2];exact ha _ _ fF (by omega)
theorem F9 (h1:1<=n) {Q:Array Nat->Prop}(q:∀p,Pm n p->mF R p n->Q p):dN R n (kas_sort n) Q :=by
 have h0:Pm n (SC (i8 n)):=⟨by simp,by simp⟩
 refine gj (Dj h0 h1 fun m p hp ha jC P4=>?_)
 show dN R n (if m<n then kas_bin (n - max m 1) p (max m 1) else .ret p) Q
 have em:max m 1=m :=by omega
 rw[em];by_cases h:m<n
 ·rw[if_pos h];exact Bk _ p m hp ha (by omega) q
 ·rw[if_neg h];exact q p hp (by rw[show n=m by omega];exact ha)
end
theorem uI {α:Type}{cmp:Nat->Nat->(Bool->ar->Prop)->ar->Prop}{I:ar->Prop}{R:Nat->Int}{n:Nat}(hc:∀i j C s,i<n->j<n->I s->(∀s',I s'->C (decide (R i<R j)) s')->cmp i j C s):∀(t:KasT α) (Q:α->ar->Prop) (s:ar),I s->dN R n t (fun a=>∀s',I s'->Q a s')->t.kasWp cmp Q s
 | .ret _,Q,s,hI,h=>h s hI
 | .ask i j k,Q,s,hI,h=>hc i j _ s h.1 h.2.1 hI fun s' Rb=>uI hc (k _) Q s' Rb h.2.2
theorem jk:∀a:List Int,HT.lexLt a a=false
 | []=>rfl
 |x::a=>by rw[HT.du,if_pos rfl];exact jk a
theorem gV:∀{a b c:List Int},HT.lexLt a b=true->HT.lexLt b c=true->HT.lexLt a c=true
 | [],[],_,h,_=>by cases h
 | [],_::_,[],_,h=>by cases h
 | [],_::_,_::_,_,_=>rfl
 |_::_,[],_,h,_=>by cases h
 |_::_,_::_,[],_,h=>by cases h
 |x::a,y::b,z::c,h1,h2=>by
          rw[HT.du]at h1 h2 ⊢;by_cases e1:x=y
          ·subst e1;rw[if_pos rfl]at h1;by_cases e2:x=z
           ·subst e2;rw[if_pos rfl]at h2 ⊢;exact gV h1 h2
           ·rw[if_neg e2]at h2 ⊢;exact h2
          ·rw[if_neg e1]at h1;have h1:=of_decide_eq_true h1;by_cases e2:y=z
           ·subst e2;rw[if_neg e1];exact decide_eq_true h1
           ·rw[if_neg e2]at h2;have h2:=of_decide_eq_true h2;rw[if_neg (by omega)]
            exact decide_eq_true (by omega)
theorem ka:∀{a b:List Int},HT.lexLt a b=false->HT.lexLt b a=false->a=b
 | [],[],_,_=>rfl
 | [],_::_,h,_=>by cases h
 |_::_,[],_,h=>by cases h
 |x::a,y::b,h1,h2=>by
          rw[HT.du]at h1 h2;by_cases e:x=y
          ·subst e;rw[if_pos rfl]at h1 h2;rw[ka h1 h2]
          ·rw[if_neg e]at h1;rw[if_neg (EO e)]at h2;have h1:=of_decide_eq_false h1;have h2:=of_decide_eq_false h2;exact absurd (show x=y by omega) e
def rP (rows:List (List Int)) (r:List Int):Int:=(rows.countP fun x=>HT.lexLt x r:Nat)
theorem rQ {α:Type}{p q:α->Bool}(JZ:∀x,p x=true->q x=true):∀{l:List α}{a:α},a∈l->q a=true->p a=false->l.countP p<l.countP q
 |x::l,a,h,hq,hp=>by
          have le:l.countP p<=l.countP q:=List.countP_mono_left fun x _=>JZ x
          rcases li.mp h with rfl|h
          ·rw[List.countP_cons_of_neg (by simp[hp]),List.countP_cons_of_pos hq]
           omega
          ·have ih:=rQ JZ h hq hp;rw[List.countP_cons,List.countP_cons];by_cases e:p x=true
           ·rw[if_pos e,if_pos (JZ x e)];omega
           ·rw[if_neg e];split<;>omega
theorem Bm {rows:List (List Int)}{a b:List Int}(ha:a∈rows):decide (rP rows a<rP rows b)=HT.lexLt a b :=by
 unfold rP;cases h:HT.lexLt a b with
 |true=>
  refine decide_eq_true ?_;have:=rQ (p:=fun x=>HT.lexLt x a) (q:=fun x=>HT.lexLt x b) (fun x hx=>gV hx h) ha h (jk a)
  omega
 |false=>
  refine decide_eq_false ?_;have:rows.countP (fun x=>HT.lexLt x b)<=rows.countP (fun x=>HT.lexLt x a):=List.countP_mono_left fun x _ hx=>by
   cases h2:HT.lexLt b a with
   |true=>exact gV hx h2
   |false=>rw[ka h h2];exact hx
  omega
def fJ (h:i0) (v:am) (row:List Int):Prop:=∃b o xs n,v=.ref b/\h.get? b=some o/\o.cls=.type "tuple" /\ o.data=.seq xs n/\OR xs.toList row/\row≠[]
section
variable {prog:ii}{w:ij}{A:mf}{E:am->ar->Prop}{s:ar}
theorem nG {fin:Bool}{Q:Bool->ar->Prop}:∀{us ws:List am}{ns ms:List Int}(i:Nat),OR us ns->OR ws ms->fin=decide (us.length<ws.length)->Q (HT.lexLt ns ms) s->KatLex prog w A true fin Q (us.zip ws) i s
 | [],[],[],[],i,_,_,hf,q=>by
          refine kat_nil ?_;rw[hf];exact q
 | [],y::ws,[],m::ms,i,_,_,hf,q=>by
          refine kat_nil ?_;rw[hf];exact q
 |x::us,[],n::ns,[],i,_,_,hf,q=>by
          refine kat_nil ?_;rw[hf];exact q
 |x::us,y::ws,n::ns,m::ms,i,hu,hw,hf,q=>by
          cases hu with
          |cons _ t hu=>
          cases hw with
          |cons _ t2 hw=>
          rw[HT.du]at q;refine kat_cons (PySem.SeqAt.EqAt.int_int n t m t2 prog w _ _ (kat_go (fun e=>kat_yes ?_) (fun e=>kat_no ?_)))
          ·have e:n=m :=by simpa using e
           rw[if_pos e]at q;exact nG (i+1) hu hw (by rw[hf];simp) q
          ·have e:n≠m :=by simpa using e
           rw[if_neg e]at q;cases hi:(i==0) with
           |true=>exact oneLt_int q
           |false=>exact kat_one _ _ (PyProof.Rows.lt_int q)
theorem yB {v1 v2:am}{r1 r2:List Int}{Q:Bool->ar->Prop}(h1:fJ s.heap v1 r1) (h2:fJ s.heap v2 r2) (q:Q (HT.lexLt r1 r2) s):wpAny (model prog w) A (keyLt' (tuples' true) v1 v2) Q E s :=by
 obtain⟨b,o,xs,n,rfl,ho,hc,hd,hi,_⟩:=h1;obtain⟨b2,o2,Q8,n2,rfl,ly,we,hd2,gK,_⟩:=h2;exact kat_lt ho hd ly hd2 (nG 0 hi gK (by simp) q)
theorem pJ:∀{vs:List am}{rows:List (List Int)},wn (fun v r=>fJ s.heap v r) vs rows->∃fs,KatTups s.heap vs fs/\fs.length=vs.length/\∀f∈fs,∃n t,f=.int n t
 | [],[],_=>⟨[],.nil,rfl,fun _ h=>nomatch h⟩
 |v::vs,r::rows,h=>by
          obtain⟨r',RK,e,hv,ht⟩:=cU h;cases e;obtain⟨fs,k1,k2,k3⟩:=pJ ht;obtain⟨b,o,xs,n,rfl,ho,hc,hd,hi,cf⟩:=hv;obtain⟨ls⟩:=xs;cases hi with
          |nil=>exact absurd rfl cf
          |cons m t hi=>exact⟨_,.cons ho hc hd (f:=.int m t) (by simp) k1,by simp[k2],fun f hf=>by
            rcases li.mp hf with rfl|hf
            ·exact⟨_,_,rfl⟩
            ·exact k3 f hf⟩
theorem qD {a:ap}{vs:List am}{rows:List (List Int)}{n:Nat}{P:PySem.Fin->ar->Prop}(ho:s.heap.get? a=some (seqObj "list" vs.toArray n))
  (hr:wn (fun v r=>fJ s.heap v r) vs rows) (lU:vs.length<64)
  (h:∀(p:Array Nat),Pm vs.length p->(∀i j,i<=j->j<vs.length->HT.lexLt (rows.getD (p.getD j 0) []) (rows.getD (p.getD i 0) [])=false)->P (.done (.ret .none)) {s with heap:=sortedHeap s.heap a vs (SC (p.toList.map fun i=>vs.getD i wv))}) :
  wpAny (model prog w) A (l7.«list.sort» ⟨[.ref a],[]⟩) P E s :=by
 rw[list_sort_plain];have ha:a<s.heap.objs.size:=gc ho;have J0:vs.length=rows.length:=Ui hr;refine ac (listItems_at ho rfl ?_);refine ac (Va ho rfl ?_ (by rw[ci,Is];omega) (kv _))
 obtain⟨e1,oY⟩:∃e1,(s.heap.update a (Da fun _=>(#[]:Array am))).get? a=some (seqObj "list" #[] e1):=⟨_,get?_update_seq ho fun _=>#[]⟩
 refine ac (seqEpoch_at oY rfl ?_);refine ac (UX ?_ (by show vs.length<=_;rw[Is];omega))
 refine ac (U9 ?_ (kv _));refine wT ?_;have Bn:(((s.heap.update a (Da fun _=>#[])).push (seqObj "tuple" vs.toArray 0)).push (seqObj "list" #[] 0)).get? a=some (seqObj "list" #[] e1) :=by
  rw[Ue _ _ _ (by rw[size_push',Um];exact kw (Cc ha)),Ue _ _ _ (by rw[Um];exact kw ha)]
  exact oY
 show wpAny (model prog w) A _ P E {s with heap:=((s.heap.update a (Da fun _=>(#[]:Array am))).push (seqObj "tuple" vs.toArray 0)).push (seqObj "list" #[] 0)}
 obtain⟨hh,J1⟩:∃hh,hh=((s.heap.update a (Da fun _=>(#[]:Array am))).push (seqObj "tuple" vs.toArray 0)).push (seqObj "list" #[] 0):=⟨_,rfl⟩
 rw[<- J1]at Bn ⊢;have keep:∀b o,b≠a->s.heap.get? b=some o->hh.get? b=some o:=fun b o hb e=>by
  have aQ:=gc e;rw[J1,Ue _ _ _ (by rw[size_push',Um];exact kw (Cc aQ)),Ue _ _ _ (by rw[Um];exact kw aQ),i0.get?_update_ne _ _ _ _ hb]
  exact e
 have tr:∀{v r},fJ s.heap v r->fJ hh v r:=fun h=>by
  obtain⟨b,o,xs,n,rfl,eJ,hc,hd,hi⟩:=h;exact⟨b,o,xs,n,rfl,keep b o (fun z=>by subst z;rw[ho]at eJ;injection eJ with eJ;subst eJ;injection hc with hc;exact absurd hc (by decide)) eJ,hc,hd,hi⟩
 have rR:wn (fun v r=>fJ hh v r) vs rows:=wn.imp' (fun _ _ h=>tr h) hr
 dsimp only;have hsz:vs.toArray.size=vs.length :=by simp
 have fin:∀p:Array Nat,Pm vs.length p->(∀i j,i<=j->j<vs.length->HT.lexLt (rows.getD (p.getD j 0) []) (rows.getD (p.getD i 0) [])=false)->P (.done (.ret .none)) {s with heap:=hh.update a (Da fun _=>SC (p.toList.map fun i=>vs.getD i wv))}:=fun p h1 h2=>by
  have:=h p h1 h2;unfold sortedHeap at this;rw[<- J1]at this;exact this
 by_cases h2:vs.toArray.size<2
 ·rw[if_pos h2,if_pos h2];refine ac (ba ?_);rw[StateT.run_pure];refine ac (ba ?_);dsimp only;refine ac (seqEpoch_at Bn rfl ?_);have eo:((arrOf (SortSt.mk' general' (vs.toArray.zip vs.toArray) #[] 7 none)).map (·.2))=SC ((SC (i8 vs.length)).toList.map fun i=>vs.getD i wv) :=by
   refine kat_snds (ks:=vs) (vs:=vs) rfl (p:=SC (i8 vs.length)) ?_;have e:vs.length=(vs.toArray.zip vs.toArray).size :=by simp
   rw[e];exact(kas_range _).symm
  rw[eo];refine ac (Va Bn rfl ?_ (kv _) (by simp only[ci,cb,Cf,Is];omega))
  simp only[bne_self_eq_false,c8,if_false];refine ba (fin (SC (i8 vs.length)) ⟨by simp,by simp⟩ fun i j tQ hj=>?_)
  have:i=j :=by omega
  subst this;exact jk _
 ·rw[if_neg h2,if_neg h2];obtain⟨fs,k1,k2,k3⟩:=pJ (s:={s with heap:=hh}) rR
  refine ac (kat_kind (T:=.type "int") k1 (by omega) (fun v hv=>by obtain⟨m,t,rfl⟩:=k3 v hv;exact Looks.of_pure rfl) (by decide) ?_)
  have Dk:∀i,i<vs.length->∃r,fJ hh (vs.getD i wv) (rows.getD i [])/\rows.getD i []∈rows/\r=rows.getD i []:=fun i hi=>by
   have hv:vs[i]?=some (vs.getD i wv) :=by simp[hi]
   obtain⟨r,er,Ip⟩:=rN rR hv;have e:rows.getD i []=r :=by simp[er]
   exact⟨_,by rw[e];exact Ip,by rw[e];exact im er,rfl⟩
  refine ac (tw (kat_run (κ:=tuples' true) (ks:=vs) (vs:=vs) (Q:=fun iA s'=>∃p:Array Nat,Pm vs.length p/\mF (fun i=>rP rows (rows.getD i [])) p vs.length/\arrOf iA=p.map (kas_item (vs.toArray.zip vs.toArray))/\failedOf iA=none/\s'={s with heap:=hh})
   rfl (by omega) lU (G:=fun p s'=>Pm vs.length p/\mF (fun i=>rP rows (rows.getD i [])) p vs.length/\s'={s with heap:=hh}) (fun p' iA s' a1 a2 a3 a4=>⟨p',a4.1,a4.2.1,a2,a3,a4.2.2⟩) ?_) ?_ fun _ _ e=>e)
  ·refine uI (I:=fun s'=>s'={s with heap:=hh}) (R:=fun i=>rP rows (rows.getD i [])) (n:=vs.length) (fun i j C s' hi hj hI hC=>?_) _ _ _ rfl (F9 (by omega) fun p h1 h2 s' jy=>⟨h1,h2,jy⟩)
   subst hI;obtain⟨_,t1,m1,_⟩:=Dk i hi;obtain⟨_,t2,_,_⟩:=Dk j hj;refine yB (s:={s with heap:=hh}) t1 t2 ?_
   rw[<- Bm m1];exact hC _ rfl
  ·intro r s' hs;obtain⟨_,iA⟩:=r;obtain⟨p,hp,hA,NR,hf,rfl⟩:=hs;dsimp only at NR hf ⊢;have Pr:=kat_snds (ks:=vs) (vs:=vs) rfl NR;refine ac (seqEpoch_at Bn rfl ?_);rw[Pr];refine ac (Va Bn rfl ?_ (kv _) (by rw[ci,cb,io,hp.sz,Is];omega))
   rw[hf];simp only[bne_self_eq_false,c8,if_false];refine ba (fin p hp fun i j tQ hj=>?_)
   have mE:=hp.lt hj;obtain⟨_,_,m1,_⟩:=Dk _ mE;rw[<- Bm m1];have:=hA i j tQ hj;refine decide_eq_false ?_;have this:rP rows (rows.getD (p.getD i 0) [])<=rP rows (rows.getD (p.getD j 0) []):=this;omega
end
def iM (rs:List (List Int)):List (List Int):=rs.mergeSort fun a b => !HT.lexLt b a
theorem cR (rs:List (List Int)):(iM rs).Perm rs:=List.mergeSort_perm _ _
theorem vF {a b c:List Int}(h1:HT.lexLt b a=false) (h2:HT.lexLt c b=false):HT.lexLt c a=false :=by
 cases h:HT.lexLt c a with
 |false=>rfl
 |true=>
  cases h3:HT.lexLt a b with
  |true=>rw[gV h h3]at h2;cases h2
  |false=>
   have:=ka h3 h1;subst this;rw[h]at h2;cases h2
theorem og (rs:List (List Int)):(iM rs).Pairwise fun a b=>HT.lexLt b a=false :=by
 have:=List.pairwise_mergeSort (le:=fun a b => !HT.lexLt b a) (fun a b c h1 h2=>by
  simp only[Bool.not_eq_true']at *;exact vF h1 h2) (fun a b=>by
  cases h:HT.lexLt b a with
  |false=>rfl
  |true=>
   cases h2:HT.lexLt a b with
   |false=>rfl
   |true=>have:=gV h h2;rw[jk]at this;cases this) rs
 exact this.imp fun h=>by simpa using h
theorem uJ {ms rs:List (List Int)}(p:ms.Perm rs) (h:ms.Pairwise fun a b=>HT.lexLt b a=false):ms=iM rs:=
 TU (le:=fun a b=>HT.lexLt b a=false) (fun x y _ _ h1 h2=>ka h2 h1) h (og rs) (p.trans (cR rs).symm)
section
variable {X:Cx}{Γ:Gz}
def J4 (_ j:Int):Prop:=0<j/\j.natAbs.log2<9000
theorem Dl:OpR X (binaryOp .FloorDiv) (rI J4 fun i j=>.int (i / j)):=zu fun i j _ _ _ _ _ hc q=>by
 have h1:(0:Int)<j:=hc.1;exact floordiv_int (by omega) (by rw[To i (by omega)];exact q) (.inl (PyProof.noPylong_of_log2 hc.2))
theorem xa:ef Γ X (binaryOp .FloorDiv) (zIC J4 fun i j=>.int (i / j)):=⟨_,Dl,mx fun _ _ _ _ _=>.int _⟩
end
section
variable {P:ii}{w:ij}{A:mf}{E:am->ar->Prop}{s:ar}
theorem Bo {Q₁:am->ar->Prop}(h:Q₁ (.ref s.heap.objs.size) {s with heap:=s.heap.push (dW w)}) :
  codeAny (model P w) A (.call (.builtin "set.__new__") ⟨[.type "set"],[]⟩) (wants Q₁ E) s :=by
 refine SQ ?_;show wpAny _ A.in1 (do checkBuiltinCall "set.__new__" ⟨[.type "set"],[]⟩;again (.builtin "set.__new__" ⟨[.type "set"],[]⟩)) _ _ s
 refine ac (KT F.newCall_set_0 (ba ⟨EN UE _,ww F.entry_set_new ?_⟩));rw[tz UE _];unfold l7.«set.__new__» l7.Frozenset.newClass;have i9:=sub_set_self;obtain⟨hp,g,d,tk,os⟩:=s;dsimp only;wp_walk
 refine So (ba ?_);dsimp only;simp only[newObj];refine ac (wpAny_alloc (ba ?_));exact ba h
theorem yC {Q:am->ar->Prop}(h:Q (.ref s.heap.objs.size) {s with heap:=s.heap.push (dW w)}):wpAny (model P w) A (call (.type "set") []) Q E s :=by
 obtain⟨c,tl,O5⟩:=BN.mro;have LC:=BN.made;have i9:=BN.sub;refine wpAny_call (SQ ?_);show wpAny _ _ (callAny (.type "set") _) _ _ _
 refine ba ⟨Code.quiet_builtin _ (by decide +kernel),ww F.entry_type_call ?_⟩
 rw[mf.under_plain (weight_type_call_type "set" [] []) rfl]
 have h1:=BN.notType;have h2:=BN.canCreate;have Qi:=F.typeCall_set_0;repeat (any_goals (first|assumption|wp_step))
 refine S2 (Bo (P:=P) (w:=w) (E:=E) (Q₁:=fun obj av=>obj=.ref s.heap.objs.size/\av={s with heap:=s.heap.push (dW w)}) ⟨rfl,rfl⟩) fun r av hr=>?_
 cases r with
 |error e=>exact hr
 |ok fl=>
  cases fl with
  |ret obj=>
   obtain⟨rfl,rfl⟩:=hr;have hT:SL {s with heap:=s.heap.push (dW w)} (.ref s.heap.objs.size) "set" := ⟨_,ff _ rfl,rfl⟩
   have lL:=BN.init.lookup;have Qk:=BN.init.bind (.ref s.heap.objs.size);repeat (any_goals (first|assumption|wp_step))
   refine S2 (codeAny_call_builtin (R:=wants (fun r gM=>r=.none/\Q (.ref s.heap.objs.size) gM) E) BN.init.plain F.entry_set_init (check_set_init hT ?_)) fun CK gM kn=>?_
   ·unfold l7.«set.__init__» noKeywords;wp_walk
    exact⟨rfl,h⟩
   ·cases CK with
    |error e=>exact kn
    |ok xW=>
     cases xW with
     |ret r=>
      obtain⟨rfl,hq⟩:=kn;repeat (any_goals (first|assumption|wp_step))
     |_=>exact kn.elim
  |_=>exact hr.elim
theorem Ga {h:i0}:gO (intKind P w) (h.push (dW w)) h.objs.size []:=
 ⟨_,#[],0,_,ff _ rfl,⟨rfl,rfl,rfl⟩,rfl,by simp,by simp,yk 0 0,.inl rfl,by show 0 * 5<7 * 3;decide⟩
theorem pK {h:i0}{a:ap}{xs:List (List Int×ap)}(x:gO (intKind P w) h a xs):∃o,h.get? a=some o:=let ⟨o,_,_,_,e,_⟩:=x;⟨o,e⟩
theorem Bp {H:Hp}{h:i0}{a:ap}{aF:List (List Int×V)}(x:gO (intKind P w) h a (aF.map fun x=>(x.1,jd x.2))):bj P w H h a (la P w a aF):=⟨x,pK x,fun h1 h2 y k=>y.bB k⟩
end
theorem uK {X:Cx}{pins:List (ap×l8)}{σ:St}{H:Hp}{s:ar}{a:ap}{aF:List (List Int×V)}(I:Inv X pins σ H s) (h:H a=some (la X.prog X.w a aF)):gO (intKind X.prog X.w) s.heap a (aF.map fun x=>(x.1,jd x.2)):=(I.hok a _ h).1
def pL (ks:List (List Int)):Mo:=.ts ks (ks.map eI)
section
variable {X:Cx}{Γ:Gz}{x:db}{p pos:ze}
def Gb (P:ii) (w:ij):List V->Hp->VK->Prop:=fun xs H Q=>xs=[]/\∀l,H l=none->Q (.ref l) (upd H l (la P w l []))
theorem vG:bV X (.type "set") (Gb X.prog X.w) :=by
 intro pins s σ H xs us Q I r h;obtain⟨rfl,q⟩:=h;cases r;have kp:∀b o,s.heap.get? b=some o->(s.heap.push (dW X.w)).get? b=some o:=fun b o e=>bi _ e
 exact yC ⟨.ref s.heap.objs.size,_,I.laid (t':=s.toks) kp (bv _) (Bp Ga),rfl,q _ (I.hok.fresh (bv _))⟩
def zSetNew:aM:=fun _ M Q=>∀a,M a=none->Q (.ptr a) (aw M a (pL []))
theorem Bq (hP:X.prog=Γ.P) (hw:X.w=Γ.w) (hg:Gl X "set") (hm:X.mg "set" = none):QE Γ X (.Call (.Name "set" p) [] [] pos) zSetNew:=
 (xE vG hg hm Ah).imp fun σ H Q ⟨β,ρ,M,Q',zr,h,q⟩=>⟨rfl,fun l hl=>by
  have m:=zr.mz;have fz:=m.fz hl;have x2:Ex β M H (aw M l (pL [])) (upd H l (la X.prog X.w l [])):=Ex.nZ m (.inr hl) rfl ⟨[],by rw[aE,hP,hw,zr.eP,zr.ew];rfl,rfl,rfl,fun i v d a b=>by simp at a⟩
  exact q _ _ _ _ x2 (.ptr (by rw[updM_same];rfl)) (h l fz.1)⟩
end
def m5 (aF:List (List Int×V)) (k:List Int) (v:V):List (List Int×V):=if k∈aF.map (·.1) then aF else aF++[(k,v)]
def TupAt (H:Hp) (q:List Int×V):Prop:=∃b,q.2=.ref b/\H b=some (.tup (q.1.map V.int))
theorem kO {P:ii}{w:ij}:∀{ns:List Int}{its:List am},Vals (ns.map V.int) its->ItemsAre (intKind P w) ns its
 | [],_,h=>by cases h;exact .nil
 |n::ns,_,h=>by
          cases h with
          |cons r h=>
           obtain⟨t,rfl⟩:=r;exact .cons (intKind_is _ _ _ _) (kO h)
section
variable {X:Cx}{Γ:Gz}
theorem xc {pins:List (ap×l8)}{σ:St}{H:Hp}{s:ar}{b:ap}{ns:List Int}(I:Inv X pins σ H s) (h:H b=some (.tup (ns.map V.int))):IF (intKind X.prog X.w) s.heap ns b :=by
 obtain⟨z,its,r,o,e,c,n,d,_⟩:=I.hok b _ h;exact⟨o,its.toArray,n,e,c,d,by simpa using kO r⟩
theorem Br {pins:List (ap×l8)}{σ:St}{H:Hp}{s:ar}{a b:ap}{aF:List (List Int×V)}{k:List Int}{Q:VK}(I:Inv X pins σ H s) (hu:X.A.units+64<cLine) (ha:H a=some (la X.prog X.w a aF)) (hb:H b=some (.tup (k.map V.int))) (hk:∀q∈aF,TupAt H q) (hl:aF.length<9)
  (q:Q .ai (upd H a (la X.prog X.w a (m5 aF k (.ref b))))):wpAny (model X.prog X.w) X.A (call (.builtin "set.add") [.ref a,.ref b]) (EP X pins σ Q) X.xe s :=by
 have hS:=uK I ha;obtain⟨o,es,ep,t,ho,hex,_⟩:=id hS;have hT:s.TypeIs (.ref a) "set" := ⟨o,ho,hex.1⟩
 refine nw F.slot_set_add hT F.entry_set_add ?_ (F.args_set_add_2 _ _);unfold l7.«set.add» l7.Frozenset.oneOther;simp only[List.isEmpty_nil,bind_assoc];unfold l7.Frozenset.addrOf;refine ac (ba ?_);try dsimp only
 refine ac (ba ?_);try dsimp only
 refine ac (yn (knd:=intKind X.prog X.w) (by show X.A.units+_<_;omega) hS (xc I hb) (fun x hx=>?_) (by rw[cb];exact hl) fun h' iZ dQ=>?_)
 ·obtain⟨y,hy,rfl⟩:=kt.mp hx;obtain⟨c,e,hc⟩:=hk y hy;rw[e];exact xc I hc
 ·show wpAny _ _ (ret wv) _ _ _;have wq:gO (intKind X.prog X.w) h' a ((m5 aF k (.ref b)).map fun x=>(x.1,jd x.2)) :=by
   have e1:(aF.map fun x=>(x.1,jd x.2)).map (·.1)=aF.map (·.1) :=by rw[AL];rfl
   unfold um at dQ;unfold m5;rw[e1]at dQ;by_cases z:k∈aF.map (·.1)
   ·rw[if_pos z]at dQ ⊢;exact dQ
   ·rw[if_neg z]at dQ ⊢;rw[r6];exact dQ
  have I9:=I.write (x:=a) (e:=a) (t':=s.toks+(k.length+1)) (by rw[ha];exact trivial) (.inl rfl) (fun b u hb hu=>(iZ.2 b hb).trans hu) (pK wq) (Bp wq)
  exact ba ⟨_,rfl,.ai,_,I9,rfl,q⟩
def EF (X:Cx):V->List V->Hp->VK->Prop:=fun x ys H Q=>∃a b aF k,x=.ref a/\ys=[.ref b]/\H a=some (la X.prog X.w a aF)/\H b=some (.tup (k.map V.int))/\(∀q∈aF,TupAt H q)/\aF.length<9/\Q .ai (upd H a (la X.prog X.w a (m5 aF k (.ref b))))
theorem Gd (hu:X.A.units+64<cLine):zJ X "set.add" (EF X) :=by
 intro pins s σ H x ys v us Q I rx ry h;obtain⟨a,b,aF,k,rfl,rfl,ha,hb,hk,hl,q⟩:=h;cases rx;obtain⟨u,rfl,r⟩:=ry.one;cases r;exact Br I hu ha hb hk hl q
variable {o e:gl}{to:TE}{te:TA}{apos aR:ze}{po:aM}{pa:eW}
theorem Ge (hu:X.A.units+64<cLine) (ho:PE X o to) (ha:PA X [e] te) (iG:attributeBase o "add" X.env (eval o X.env)=eval o X.env :=by rfl)
  (kg:((backTo aR (starEach [e] X.env)).all (fun x => !x.1) && (backToKw aR (keywordEach [] X.env)).all (fun x=>x.1.isSome)
   && decide ([e].length+([]:List RS).length+(if ([]:List RS).isEmpty then 0 else 1)<30))=true :=by rfl)
  (hline:(apos.endLine==aR.line)=true :=by rfl) (hs:starEach [e] X.env=(false,eval e X.env)::starEach [] X.env :=by rfl) (gr:(backTo aR (starEach [] X.env)).any (·.1)=false :=by rfl) :
  PE X (.Call (.Attribute o "add" apos) [e] [] aR) (fun σ H Q=>to σ H fun x H1=>(∃a aF,x=.ref a/\H1 a=some (la X.prog X.w a aF))/\te σ H1 fun ys H2=>EF X x ys H2 Q) :=by
 refine⟨?_⟩;intro pins s σ H Q I h;refine wpAny_Call_method_late iG kg hline rfl (thn (ho pins s σ H _ I h) fun v s1 ⟨x,H1,I1,r1,⟨a,aF,ex,gw⟩,q1⟩=>?_)
 subst ex;cases r1;obtain⟨ob,es,ep,t,nu,hex,_⟩:=uK I1 gw;refine⟨"set","set.add",F.plainAttrs_set,F.slot_set_add,F.type_set_add,⟨ob,nu,hex.1⟩,fun c ec=>?_,?_⟩
 ·cases ec;exact⟨ob,nu,hex.2.1⟩
 ·have hA:=ha aR pins s1 σ H1 _ I1 q1;rw[hs]at hA ⊢;refine Calls.callWith_builtin (by show (false || (backTo aR (starEach [] X.env)).any (·.1))=false;rw[gr]<;>rfl) (Uz ?_)
  exact thn hA fun us s2 ⟨vs,H2,I2,r2,q2⟩=>Gd hu pins s2 σ H2 (.ref a) vs (.ref a) us Q I2 rfl r2 q2
def da (ks:List (List Int)) (k:List Int):List (List Int):=if k∈ks then ks else ks++[k]
def zAddT (po:aM) (pa:eW):aM:=fun ρ M Q=>po ρ M fun d M1=>∃a,d=.ptr a/\(∃ks,M1 a=some (pL ks))/\pa ρ M1 fun es M2=>∃ks k,es=[eI k]/\M2 a=some (pL ks)/\ks.length<9/\Q .ai (aw M2 a (pL (da ks k)))
theorem Gf (hP:X.prog=Γ.P) (hw:X.w=Γ.w) (hu:X.A.units+64<cLine) (ho:QE Γ X o po) (ha:QA Γ X [e] pa) (iG:attributeBase o "add" X.env (eval o X.env)=eval o X.env :=by rfl)
  (kg:((backTo aR (starEach [e] X.env)).all (fun x => !x.1) && (backToKw aR (keywordEach [] X.env)).all (fun x=>x.1.isSome)
   && decide ([e].length+([]:List RS).length+(if ([]:List RS).isEmpty then 0 else 1)<30))=true :=by rfl)
  (hline:(apos.endLine==aR.line)=true :=by rfl) (hs:starEach [e] X.env=(false,eval e X.env)::starEach [] X.env :=by rfl) (gr:(backTo aR (starEach [] X.env)).any (·.1)=false :=by rfl) :
  QE Γ X (.Call (.Attribute o "add" apos) [e] [] aR) (zAddT po pa):=
 (Ge hu ho ha iG kg hline hs gr).imp fun σ H Q ⟨β,ρ,M,Q',zr,h,q⟩=>⟨β,ρ,M,_,zr,h,fun d M1 v H1 x1 r1 h1=>by
  obtain⟨a,rfl,⟨Sg,Jm⟩,h2⟩:=h1;obtain⟨rfl,Sh⟩:=bq r1;have m1:=x1.mz;obtain⟨Ez,Rc,_⟩:=m1.obj a _ Jm;refine⟨⟨a,_,rfl,by rw[hP,hw,<- zr.eP,<- zr.ew];exact Rc⟩,β,ρ,M1,_,zr.step x1,h2,fun es M2 ys H2 x2 r2 h3=>?_⟩
  obtain⟨ks,k,rfl,NS,hl,hq⟩:=h3;have m2:=x2.mz;obtain⟨vs,hv,uL,rs⟩:=m2.obj a _ NS;obtain⟨y,rfl,ry⟩:=b5 r2;obtain⟨b,us,rfl,_,hb,uM⟩:=bg ry;have:=eZ uM;subst this;have each:∀q∈ks.zip vs,TupAt H2 q:=fun q hq=>by
   obtain⟨i,hi⟩:=r9.mp hq;obtain⟨e1,e2⟩:=xp.mp hi;have:=rs.at' i q.2 (eI q.1) e2 (by rw[cr,e1];rfl)
   obtain⟨c,us,ec,_,hc,uM⟩:=bg this;have:=eZ uM;subst this;exact⟨c,ec,hc⟩
  refine⟨a,b,ks.zip vs,k,rfl,rfl,by rw[hP,hw,<- zr.eP,<- zr.ew];exact hv,hb,each,by rw[List.length_zip];omega,?_⟩
  have kf:(ks.zip vs).map (·.1)=ks:=List.map_fst_zip (by omega)
  have EG:(M2 a).isSome=true :=by rw[NS];rfl
  have x3:Ex β M2 H2 (aw M2 a (pL (da ks k))) (upd H2 a (la X.prog X.w a (m5 (ks.zip vs) k (.ref b)))) :=by
   have rl:=rs.len;rw[cb]at rl;unfold da m5;rw[kf];by_cases z:k∈ks
   ·rw[if_pos z,if_pos z];exact Ex.nZ m2 (.inl EG) rfl ⟨vs,by rw[aE,hP,hw,zr.eP,zr.ew],uL,rs.len,fun i v d a b=>je (.inl EG) (rs.at' i v d a b)⟩
   ·rw[if_neg z,if_neg z];have cx:aJ β M2 H2 (vs++[V.ref b]) ((ks++[k]).map eI) :=by
     rw[r6];exact rs.snoc ry
    exact Ex.nZ m2 (.inl EG) rfl ⟨vs++[.ref b],by rw[aE,hP,hw,zr.eP,zr.ew,VD (by omega)];rfl,by simp[uL],cx.len,fun i v d a b=>je (.inl EG) (cx.at' i v d a b)⟩
  exact q _ _ _ _ (x1.trans (x2.trans x3)) .ai hq⟩
end
section
variable {P:ii}{w:ij}{A:mf}{E:am->ar->Prop}{s:ar}
theorem uN {a:am}{C:List am->List (List Int)->Prop}{Q:am->ar->Prop}
  (CO:∀QL:List am->ar->Prop,(∀us rows h' d' tk,C us rows->(∀b o,s.heap.get? b=some o->h'.get? b=some o)->QL us {s with heap:=h',drawn:=d',toks:=tk})->wpAny (model P w) A.in1 (collect a) QL E s)
  (hr:∀us rows,C us rows->wn (fun v r=>fJ s.heap v r) us rows/\us.length<64)
  (h:∀(us:List am) (rows:List (List Int)) (h1 h':i0) d' tk (is:List Nat) e,C us rows->(∀i∈is,i<us.length)->(is.map fun i=>rows.getD i [])=iM rows->(∀b o,s.heap.get? b=some o->h1.get? b=some o)->(∀b o,h1.get? b=some o->h'.get? b=some o)->h'.get? h1.objs.size=some {cls:=.type "list",data:=.seq (is.map fun i=>us.getD i wv).toArray e}->Q (.ref h1.objs.size) {s with heap:=h',drawn:=d',toks:=tk}) :
  wpAny (model P w) A (call (.builtin "sorted") [a]) Q E s :=by
 refine Calls.call_function_entry kind_sorted plain_sorted entry_sorted (args_sorted1 _) ?_;unfold l7.«sorted»;refine ac (m:=checkCount "sorted" 1 1 _) (ba ?_)
 refine ac (CO _ fun us rows h' d' tk hC hk=>?_)
 obtain⟨EH,lU⟩:=hr us rows hC;refine ac (U9 ?_ (hsz:=sw (S1 lU) (by decide)))
 have oH:(h'.push (seqObj "list" us.toArray 0)).get? h'.objs.size=some (seqObj "list" us.toArray 0):=ff _ rfl
 have rR:wn (fun v r=>fJ (h'.push (seqObj "list" us.toArray 0)) v r) us rows:=wn.imp' (fun v r t=>by
  obtain⟨b,o,xs,n,rfl,ho,z⟩:=t;exact⟨b,o,xs,n,rfl,bi _ (hk _ _ ho),z⟩) EH
 have hl:=Ui EH;refine ac (wT (nw slot_list_sort ⟨_,oH,rfl⟩ entry_list_sort (qD oH rR lU fun p hp ha=>⟨_,rfl,?_⟩) (args_list_sort _)))
 refine ba ⟨_,rfl,?_⟩;obtain⟨e,he⟩:=sortedHeap_at (out:=SC (p.toList.map fun i=>us.getD i wv)) oH
 refine h us rows h' _ d' _ p.toList e hC (fun i hi=>?_) (uJ ?_ ?_) hk (fun b o hb=>?_) he
 ·have:=hp.pm.mem_iff.mp hi;exact u4.mp this
 ·have q:=hp.pm.map fun i=>rows.getD i []
  refine q.trans (Rs.of_eq ?_);rw[hl];refine Vq (by simp) fun i h1 h2=>?_
  simp only[List.getElem_map,U2];rw[ce,ag h2];rfl
 ·rw[GG];intro i j hi hj tQ;simp only[cb,io]at hi hj;have hsz:=hp.sz;have:=ha i j (S1 tQ) (by omega)
  simp only[List.getElem_map,Array.getElem_toList];have e1:p.getD i 0=p[i] :=by simp[Mc,hi]
  have e2:p.getD j 0=p[j] :=by simp[Mc,hj]
  rw[e1,e2]at this;exact this
 ·have aQ:=gc hb;rw[sortedHeap_old (kw aQ) (by rw[Ix];exact Cc aQ)]
  exact bi _ hb
end
theorem pM {α β γ:Type}{R:β->γ->Prop}(f:α->β) (g:α->γ):∀{l:List α},(∀x∈l,R (f x) (g x))->wn R (l.map f) (l.map g)
 | [],_=>.nil
 |x::l,h=>.cons (h x i1) (pM f g fun y hy=>h y (dL _ hy))
theorem Bs {α β:Type}(f:α->β):∀{us:List β}{l:List α},us.Perm (l.map f)->∃l':List α,l'.Perm l/\us=l'.map f:=fun {us l} h=>by
 have key:∀(us vs:List β),us.Perm vs->∀l:List α,vs=l.map f->∃l':List α,l'.Perm l/\us=l'.map f:=fun us vs p=>by
  induction p with
  |nil=>intro l e;exact⟨l,.refl _,e⟩
  |cons x p ih=>
   intro l e;cases l with
   |nil=>cases e
   |cons a l=>
    cases e;obtain⟨l',p',e'⟩:=ih l rfl;exact⟨a::l',p'.cons a,by rw[e'];rfl⟩
  |swap x y l0=>
   intro l e;match l,e with
   |a::b::l,e=>
    cases e;exact⟨b::a::l,.swap ..,rfl⟩
  |trans p1 p2 Rf Rg=>
   intro l e;obtain⟨l2,q2,e2⟩:=Rg l e;obtain⟨l1,q1,e1⟩:=Rf l2 e2;exact⟨l1,q1.trans q2,e1⟩
 exact key us _ h l rfl
def Gg (X:Cx):List V->Hp->VK->Prop:=fun xs H Q=>∃p aF,xs=[.ref p]/\H p=some (la X.prog X.w p aF)/\(∀q∈aF,TupAt H q/\q.1≠[])/\aF.length<64 /\
 ∀l (mG:List (List Int×V)),H l=none->(∀q∈mG,q∈aF)->mG.map (·.1)=iM (aF.map (·.1))->Q (.ref l) (upd H l (.lst (mG.map (·.2))))
section
variable {X:Cx}{Γ:Gz}
theorem vH (hc:X.calm=true):bV X (.builtin "sorted") (Gg X) :=by
 intro pins s σ H xs us Q I r h;obtain⟨p,aF,rfl,hp,gN,lU,q⟩:=h;obtain⟨u,rfl,rx⟩:=vals1 r;cases rx;have hh:=I.ok.hd hc;have hsz:sizeLine=16777216:=Is;obtain⟨o,es,ep,t,ho,hex,hd,Bt,hn,g,hm,hl⟩:=uK I hp;have hlen:es.size=aF.length :=by rw[<- io,Bt.length_eq,cb,cb]
 have iZ:scanBound=4096:=rfl;have ev:es.toList.map (·.2) |>.Perm (aF.map fun x=>ul (jd x.2)) :=by
  have:=Bt.map (·.2);rw[AL,AL]at this;exact this
 refine uN (C:=fun us rows=>∃gk:List (List Int×V),gk.Perm aF/\us=gk.map (fun x=>ul (jd x.2))/\rows=gk.map (·.1)) (fun QL Ak=>?_) (fun us rows hC=>?_) fun us rows h1 h' d' tk is e hC hi hs k1 k2 he=>?_
 ·refine uo (by simp[hh]) ho hex hd (by omega) g.fits g.ok (by omega) fun us h' d' tk Rh hk=>?_
  obtain⟨gk,q2,e2⟩:=Bs (fun x:List Int×V=>ul (jd x.2)) (Rh.trans ev)
  exact Ak us _ h' d' tk ⟨gk,q2,e2,rfl⟩ hk
 ·obtain⟨gk,q2,rfl,rfl⟩:=hC;refine⟨pM _ _ fun x hx=>?_,by rw[cb,q2.length_eq];exact lU⟩
  obtain⟨⟨b,e,hb⟩,cf⟩:=gN x (q2.mem_iff.mp hx);obtain⟨ts,rt,⟨ob,nu,eL,n,Ri⟩,_⟩:=I.tuple (.inl (.inl hb));rw[e];exact⟨b,ob,_,n,rfl,nu,eL,Ri,sF rt,cf⟩
 ·obtain⟨gk,q2,rfl,rfl⟩:=hC;rw[cb]at hi;have I1:Inv X pins σ H {s with heap:=h1,drawn:=d'}:=(I.kept (t':=s.toks) k1).lF ⟨rfl,rfl,I.bare.self⟩
  have xf:=congrArg VG hs;rw[cb,(cR _).length_eq,cb,q2.length_eq]at xf;have gd:∀i∈is,gk[i]?=some (gk.getD i ([],.ai)):=fun i hx=>by
   have:=hi i hx;rw[ce,ag this];rfl
  have mem:∀i∈is,gk.getD i ([],.ai)∈aF:=fun i hx=>q2.mem_iff.mp (im (gd i hx))
  have ob:bj X.prog X.w (upd H h1.objs.size (.lst ((is.map fun i=>gk.getD i ([],.ai)).map (·.2)))) h' h1.objs.size (.lst ((is.map fun i=>gk.getD i ([],.ai)).map (·.2))) :=by
   refine⟨by rw[cb,cb];omega,_,e,?_,he⟩
   clear he hs xf
   induction is with
   |nil=>exact .nil
   |cons i is ih=>
    refine .cons ?_ (ih (fun j hj=>hi j (dL _ hj)) (fun j hj=>gd j (dL _ hj)) fun j hj=>mem j (dL _ hj))
    have g1:=gd i i1;obtain⟨⟨b,e1,_⟩,_⟩:=gN _ (mem i i1);have e2:(gk.map fun x=>ul (jd x.2)).getD i wv=.ref (jd (gk.getD i ([],.ai)).2) :=by
     rw[ce,cr,g1];rfl
    show RelV (gk.getD i ([],.ai)).2 ((gk.map fun x=>ul (jd x.2)).getD i wv)
    rw[e2,e1];rfl
  have eq1:(is.map fun i=>gk.getD i ([],.ai)).map (·.1)=iM (aF.map (·.1)) :=by
   have e3:(is.map fun i=>gk.getD i ([],.ai)).map (·.1)=is.map fun i=>(gk.map (·.1)).getD i [] :=by
    rw[AL];refine SH fun i hx=>?_
    show (gk.getD i ([],.ai)).1=_;rw[ce (l:=List.map _ _),cr,gd i hx];rfl
   rw[e3,hs];exact uJ ((cR _).trans (q2.map _)) (og _)
  exact⟨.ref h1.objs.size,_,I1.laid (t':=tk) k2 (bv _) ob,rfl,q _ _ (I1.hok.fresh (bv _)) (fun z hz=>by obtain⟨i,hx,rfl⟩:=kt.mp hz;exact mem i hx) eq1⟩
def zSortTS (d:Dv) (M:Mh) (Q:ZK):Prop:=∃a ks,d=.ptr a/\M a=some (pL ks)/\ks.length<64/\(∀r∈ks,r≠[])/\Q (.lst ((iM ks).map eI)) M
theorem Dm (hP:X.prog=Γ.P) (hw:X.w=Γ.w) (hc:X.calm=true):eO Γ X (.builtin "sorted") (z1 zSortTS):=⟨_,vH hc,fun β xs ds M H Q Q' eP ew _ m rs z q=>by
 unfold z1 at z;split at z
 ·rename_i d;obtain⟨x,rfl,r⟩:=b5 rs;obtain⟨a,ks,rfl,hM,lU,cf,hq⟩:=z;obtain⟨rfl,hs⟩:=bq r;obtain⟨vs,hv,uL,cx⟩:=m.obj a _ hM;have kf:(ks.zip vs).map (·.1)=ks:=List.map_fst_zip (by omega)
  have each:∀q∈ks.zip vs,Rz β M H q.2 (eI q.1):=fun q hq=>by
   obtain⟨i,hi⟩:=r9.mp hq;obtain⟨e1,e2⟩:=xp.mp hi;exact cx.at' i q.2 (eI q.1) e2 (by rw[cr,e1];rfl)
  refine⟨a,ks.zip vs,rfl,by rw[hP,hw,<- eP,<- ew];exact hv,fun q hq=>⟨?_,?_⟩,by rw[List.length_zip];omega,fun l mG hl i9 jy=>?_⟩
  ·obtain⟨c,us,ec,_,hc,uM⟩:=bg (each q hq);have:=eZ uM;subst this;exact⟨c,ec,hc⟩
  ·exact cf _ (by rw[<- kf];exact kt.mpr ⟨q,hq,rfl⟩)
  ·rw[kf]at jy;have x2:=Ex.lay m hl (.lst (mG.map (·.2)));have rk:aJ β M H (mG.map (·.2)) ((mG.map (·.1)).map eI) :=by
    clear jy x2
    induction mG with
    |nil=>exact .nil
    |cons z l ih=>exact .cons (each z (i9 z i1)) (ih fun y hy=>i9 y (dL _ hy))
   rw[jy]at rk;exact q _ _ _ _ x2 (pz (m.fz hl) aE (rk.ex x2)) hq
 ·exact z.elim⟩
end
end L2
namespace L2
open PySem PySem.Spec PySem.W PyProof.Rows
open PySem.AutoSeq1 (wpAny_loadPart')
theorem oh:Slot "reversed" "__init__" "object.__init__" :=
 .of (owner := "object") (n := "__init__") (by rw[Me,EQ];kernel_rfl) (by decide +kernel) (by decide +kernel) (by decide +kernel)
  (by first|exact .inl (by decide +kernel)|exact .inr (by decide +kernel)) (by rw[ID];kernel_rfl)
theorem pN:TypeCalled "reversed" "reversed.__new__" "object.__init__" :=
 ⟨by decide +kernel,by decide +kernel,⟨_,_,F.mro_reversed⟩,F.made_reversed,by decide +kernel,by rw[ID];kernel_rfl,oh⟩
theorem de:Slot "reversed" "__next__" "reversed.__next__" :=
 .of (owner := "reversed") (n := "__next__") (by rw[Me,EQ];kernel_rfl) (by decide +kernel) (by decide +kernel) (by decide +kernel)
  (by first|exact .inl (by decide +kernel)|exact .inr (by decide +kernel)) (by rw[ID];kernel_rfl)
theorem jl:entryFor table "reversed.__next__" = some l7.«reversed.__next__»:=entryFor_of_tree (by kernel_rfl)
theorem yD:typeLookup (.type "tuple") "__reversed__" = pure none :=by rw[Me,EQ];kernel_rfl
theorem pO:isSubtype (.type "tuple") (.type "dict")=pure false :=by rw[ID];kernel_rfl
def Dn (l:ap) (i:Int):l8:={cls:=.type "reversed",data:=.fields #[.ref l,rawInt i]}
def jm (h:i0) (a l:ap) (i:Int):Prop:=∃o,h.get? a=some o/\o.cls=.type "reversed" /\ o.data=.fields #[.ref l,rawInt i]
theorem jm.at {h h':i0}{a l:ap}{i:Int}(x:jm h a l i) (e:∀o,h.get? a=some o->h'.get? a=some o):jm h' a l i:=let ⟨o,ho,r⟩:=x;⟨o,e _ ho,r⟩
theorem jm.typeIs {s:ar}{a l:ap}{i:Int}(x:jm s.heap a l i):s.TypeIs (.ref a) "reversed" := let ⟨o,ho,hc,_⟩:=x;⟨o,ho,hc⟩
theorem Dp (l:ap) (items:Array am) (hz:(items.size:Int)<2 ^ 63) :
  Meets (l7.«reversed.__new__» ⟨[.type "reversed",.ref l],[]⟩) (fun _ R s=>Vw s.heap l items/\∀tk,R (.ok (.ret (.ref s.heap.objs.size))) {s with heap:=s.heap.push (Dn l ((items.size:Int) - 1)),toks:=tk}):=
 .of_wp fun prog w A R s h=>by
  obtain⟨hl,h⟩:=h;obtain⟨o,ho,hc,n,hd⟩:=id hl;have hT:s.TypeIs (.ref l) "tuple" := ⟨o,ho,hc⟩
  unfold l7.«reversed.__new__»;refine ac (KT (newClass_reversed _) ?_);try dsimp only
  refine ac (KT (a:=()) (by first|rfl|kernel_rfl) ?_)
  refine ac (KT (a:=()) (by first|rfl|kernel_rfl) ?_)
  try dsimp only
  refine ac (Pe hT yD ?_);try dsimp only
  refine ac ?_;show wpAny _ _ (isInstance (.ref l) (.type "dict")>>=_) _ _ s
  refine ac (LB hT pO ?_);simp only[c8,if_false];refine ac (Pe hT F.slot_tuple_getitem.lookup ?_);dsimp only;rw[if_pos (by decide +kernel)]
  refine ba ?_;simp only[xz,c8,if_false];refine ac (len_tuple hl hz ?_);refine ac (KT (a:=some ((items.size:Nat):Int)) rfl ?_);dsimp only;refine ac ?_;show wpAny _ _ (newObj (.type "reversed") (.fields #[.ref l,rawInt ((items.size:Int) - 1)])) _ _ _
  refine mT ?_ (by size_fits)
  exact ba ⟨_,rfl,h _⟩
theorem rS:Manifest.owners.lookup (String.ofList ['d','e','s','r','e','v','e','r'].reverse)=some Manifest.sig_reversed :=by kernel_rfl
theorem ll (a:am):argsOk "reversed.__next__" ⟨[a],[]⟩ :=by
 unfold argsOk;rw[U7 (id := "reversed.__next__") (n:=['_','_','t','x','e','n','_','_']) (o:=['d','e','s','r','e','v','e','r']) (by kernel_rfl) rS];kernel_rfl
theorem jn:Slot "reversed" "__iter__" "reversed.__iter__" :=
 .of (owner := "reversed") (n := "__iter__") (by rw[Me,EQ];kernel_rfl) (by decide +kernel) (by decide +kernel) (by decide +kernel)
  (by first|exact .inl (by decide +kernel)|exact .inr (by decide +kernel)) (by rw[ID];kernel_rfl)
theorem sj (a:am):argsOk "reversed.__iter__" ⟨[a],[]⟩ :=by
 unfold argsOk;rw[U7 (id := "reversed.__iter__") (n:=['_','_','r','e','t','i','_','_']) (o:=['d','e','s','r','e','v','e','r']) (by kernel_rfl) rS];kernel_rfl
theorem vI:entryFor table "reversed.__iter__" = some l7.«dict_keyiterator.__iter__»:=
 entryFor_alias (id' := "dict_keyiterator.__iter__") (by kernel_rfl) (by first|rfl|decide +kernel|(unfold String.splitOn;simp +decide [Vg])) (by decide +kernel) (by kernel_rfl)
section
variable {P:ii}{w:ij}{A:mf}{E:am->ar->Prop}{s:ar}
theorem Bu {l:ap}{items:Array am}{Q:am->ar->Prop}(hl:Vw s.heap l items) (hz:(items.size:Int)<2 ^ 63)
  (h:∀tk,Q (.ref s.heap.objs.size) {s with heap:=s.heap.push (Dn l ((items.size:Int) - 1)),toks:=tk}):wpAny (model P w) A (call (.type "reversed") [.ref l]) Q E s:=
 callType_new pN (by decide) (F.typeCall_reversed_1 _) (F.newCall_reversed_1 _) (fun obj=>UI obj _) F.entry_reversed_new (Dp l items hz) ⟨hl,fun tk=>⟨⟨_,ff _ rfl,rfl⟩,h tk⟩⟩
theorem nH {it l:ap}{i:Int}{Q:am->ar->Prop}(hit:jm s.heap it l i) (h:Q (.ref it) s):wpAny (model P w) A (pyIter (.ref it)) Q E s :=by
 refine Ub hit.typeIs jn (nw jn hit.typeIs vI ?_ (sj _));show wpAny _ _ (ret (.ref it)) _ _ s;exact ba ⟨_,rfl,"reversed",_,hit.typeIs,de.lookup,h⟩
theorem oj {it l:ap}{i:Nat}{items:Array am}{x:am}{Q:Option am->ar->Prop}(hit:jm s.heap it l (i:Int)) (hl:Vw s.heap l items) (hz:(items.size:Int)<2 ^ 63) (hx:items[i]?=some x)
  (hQ:∀h' tk,jm h' it l ((i:Int) - 1)->v6 it s.heap h'->Q (some x) {s with heap:=h',toks:=tk}):wpAny (model P w) A (pyNext (.ref it)) Q E s :=by
 obtain⟨o,ho,hc,hd⟩:=id hit;obtain⟨ol,lM,eL,nl,An⟩:=id hl;have Nk:s.TypeIs (.ref l) "tuple" := ⟨ol,lM,eL⟩
 have ig:=(Tr.mp hx).1;unfold pyNext;refine ac (NG (ut (name:=u8 "__next__") hit.typeIs de
  (nw de hit.typeIs jl ?_ (ll _))))
 unfold l7.«reversed.__next__»;refine ac (KT (a:=(ul it,[])) rfl ?_);try dsimp only
 refine ac (AM ho hd (x:=.ref l) rfl ?_);refine ac (AM ho hd (x:=rawInt (i:Int)) rfl ?_);show wpAny _ _ (if (i:Int)<0 then _ else _) _ _ s
 rw[if_neg (by omega)]
 refine ac (Pe Nk F.slot_tuple_getitem.lookup ?_);simp only[Option.isNone_some,c8,if_false];refine ac (wpAny_mkInt ?_);have Rj:seqIndex? (i:Int) items.size=some i :=by
  unfold seqIndex?;simp;omega
 refine ac (NG (getItem_tuple (j:=i) hl (by omega) (by omega) Rj hx ?_))
 dsimp only;refine ac (AM ho hd (x:=rawInt (i:Int)) rfl ?_);refine ac (S7 ho hd (by simp) ?_)
 refine ba ⟨x,rfl,ba (hQ _ _ ?_ (AC ..))⟩;exact⟨_,uu _ ho (Pd (Db hd _)),(Ua ..).trans hc,by
  rw[Db hd];simp⟩
theorem pP {it l:ap}{Q:Option am->ar->Prop}(hh:A.handled=none) (hit:jm s.heap it l (-1))
  (hQ:∀h',VI it s.heap h'->Q none {s with heap:=h'}):wpAny (model P w) A (pyNext (.ref it)) Q E s :=by
 obtain⟨o,ho,hc,hd⟩:=id hit;unfold pyNext;refine ac (NG (ut (name:=u8 "__next__") hit.typeIs de
  (nw de hit.typeIs jl ?_ (ll _))))
 unfold l7.«reversed.__next__»;refine ac (KT (a:=(ul it,[])) rfl ?_);try dsimp only
 refine ac (AM ho hd (x:=.ref l) rfl ?_);refine ac (AM ho hd (x:=rawInt (-1)) rfl ?_);show wpAny _ _ (if (-1:Int)<0 then _ else _) _ _ s
 rw[if_pos (by decide)]
 refine ac (FS ?_);refine ac ?_;show wpAny _ _ (setField (.ref it) 1 (rawInt (-1))>>=fun _=>setField (.ref it) 0 .none) _ _ _
 refine ac (S7 ho hd (by simp) ?_)
 have ly:=uu (U8 (·.setIfInBounds 1 (rawInt (-1)))) ho (Pd (Db hd _));refine S7 ly (Db hd _) (by simp) ?_
 first
 |show wpAny _ _ (newExc (.type "StopIteration") []>>=_) _ _ _
 |(refine ac ?_;show wpAny _ _ (newExc (.type "StopIteration") []>>=_) _ _ _)
 refine ac ?_;simp only[newExc,newTuple];refine ac (mT ?_ (by size_fits))
 refine ac (m:=firstArgMember _ _) (KT (a:=wv) (by first|rfl|(simp only[firstArgMember];rfl)) ?_)
 refine mT ?_ (by size_fits)
 simp only[raiseNew];refine ac (wpAny_handled ?_);first|rw[show A.in1.handled=none from hh]|rw[hh]
 refine ac (ba (wpAny_throw ?_));refine ac (LB (T := "StopIteration") (b:=true) ⟨_,ff _ rfl,rfl⟩ isSubtype_stop ?_)
 refine ba (hQ _ fun b o hb e=>?_)
 exact bi _ (bi _ ((wb _ _ (fun z=>hb z.symm)).trans ((wb _ _ (fun z=>hb z.symm)).trans e)))
end
section
variable {X:Cx}{tg:gl}
def J5 (K:bn) (a n:Nat):It where
 go i H:=∃xs,bC K H a xs/\xs.length=n/\i<n
 yld i H x H':=H'=H/\∀xs,bC K H a xs->xs.length=n->xs.reverse[i]?=some x
 stop i H:=n<=i
theorem Bv {P:ii}{w:ij}{K:bn}{tg:gl}(a n:Nat) (it:ap):Turn P w K tg (J5 K a n) [it] it (fun i h=>i<=n/\jm h it a ((n:Int) - 1 - (i:Int))) where
 mem :=by simp
 obj:=fun i h st b hb=>by
  have e:b=it :=by simpa using hb
  subst e;obtain⟨o,ho,hc,hd⟩:=st.2;exact⟨o,ho,fun v z=>by rw[hd]at z;cases z⟩
 keep:=fun i h h' st k=>⟨st.1,st.2.at fun o e=>k it (by simp) o e⟩
 item :=by
  intro X hP hw hK hc i pins s σ H E I hf st hg;subst hP hw hK;obtain⟨xs,hq,hn,hi⟩:=hg;obtain⟨its,rv,p,hz⟩:=I.tuple hq;have hl:=rv.length;have hsz:sizeLine=16777216:=Is;obtain⟨x,hx⟩:∃x,xs[n - 1 - i]?=some x:=⟨_,ag (by omega)⟩
  obtain⟨u,hu,ru⟩:=rv.get hx;obtain⟨f0,f1,f2,f3,f4,f5⟩:=hf it (by simp)
  have hit:=st.2;rw[show (n:Int) - 1 - (i:Int)=((n - 1 - i:Nat):Int) by omega]at hit
  refine oj hit p (by simp only[ci];omega) (x:=u) (by simpa using hu) fun h' Ac iA sb=>?_
  have I1:Inv X pins σ H {s with heap:=h',toks:=Ac}:=I.turned (t':=Ac) (fun b o hb e=>(sb.2 b hb).trans e) f0 f1 f3 f4 f5
  obtain⟨o,e,c,d⟩:=id iA;refine⟨u,rfl,sx (s:={s with heap:=h',toks:=Ac}) e c d (by decide) ⟨_,H,I1,ru,⟨rfl,fun ys hy Si=>?_⟩,⟨hi,?_⟩,fun b hb=>(hf b hb).1⟩⟩
  ·rw[I.lq hy hq,ES (by omega),hn]
   exact hx
  ·rw[show (n:Int) - 1 - ((i+1:Nat):Int)=((n - 1 - i:Nat):Int) - 1 by omega]
   exact iA
 done :=by
  intro X hP hw hK hc i pins s σ H E I hf st hg;subst hP hw hK;have hi:i=n:=Nat.le_antisymm st.1 hg;obtain⟨f0,f1,f2,f3,f4,f5⟩:=hf it (by simp)
  have hit:=st.2;rw[hi,show (n:Int) - 1 - (n:Int) = -1 by omega]at hit
  exact pP (I.ok.hd hc) hit fun h' eb=>⟨rfl,I.turned (t':=s.toks) (fun b o hb e=>eb b o hb e) f0 f1 f3 f4 f5⟩
 self:=fun _ _ _ _ _ st h=>nH st.2 h
def EI (K:bn) (ta:TA):TI:=fun σ H R=>ta σ H fun vs H1=>∃a xs,vs=[.ref a]/\bC K H1 a xs/\R (J5 K a xs.length) H1
theorem Gh {a:gl}{ta:TA}{p pos:ze}(hg:Gl X "reversed") (hm:X.mg "reversed" = none) (ha:PA X [a] ta) (hs:starEach [a] X.env=[(false,eval a X.env)] :=by rfl):PI X tg (.Call (.Name "reversed" p) [a] [] pos) (EI X.K ta) :=by
 intro pins s σ H R I h;refine Call_ (d6 I hg hm boot_reversed (zn (thn (ha pos pins s σ H _ I h) fun us s1 ⟨vs,H1,I1,r1,q1⟩=>?_) hs rfl))
 obtain⟨l,xs,e,hq,q⟩:=q1;subst e;cases r1 with
 |cons r rr=>
  cases rr;cases r;obtain⟨its,rv,pl,hz⟩:=I1.tuple hq;have hl:=rv.length;have hsz:sizeLine=16777216:=Is;refine Bu pl (by simp only[ci];omega) fun tk=>?_
  have st:jm ({s1 with heap:=s1.heap.push (Dn l ((its.toArray.size:Int) - 1)),toks:=tk}:ar).heap s1.heap.objs.size l ((its.toArray.size:Int) - 1):=⟨_,ff _ rfl,rfl,rfl⟩
  refine nH st ?_;refine⟨s1.heap.objs.size,[s1.heap.objs.size],_,_,H1,rfl,I1.kept (t':=tk) fun b o e=>bi _ e,Bv l xs.length _,⟨kv _,?_⟩,fun b hb=>?_,q⟩
  ·rw[show ((xs.length:Nat):Int) - 1 - ((0:Nat):Int)=(its.toArray.size:Int) - 1 by rw[ci,hl];omega]
   exact st
  ·have e:b=s1.heap.objs.size :=by simpa using hb
   subst e;exact I1.lr (bv _) (I1.hok.fresh (bv _))
theorem Dq {K:bn}(h:X.K=K) {a:gl}{ta:TA}{p pos:ze}(hg:Gl X "reversed") (hm:X.mg "reversed" = none) (ha:PA X [a] ta) (hs:starEach [a] X.env=[(false,eval a X.env)] :=by rfl):PI X tg (.Call (.Name "reversed" p) [a] [] pos) (EI K ta):=h▸Gh hg hm ha hs
end
section
variable {X:Cx}{Γ:Gz}{β:Bz}{K:bn}{tg:gl}
def ziRevT (za:eW):gz:=fun ρ M R=>za ρ M fun es M1=>match es with | [.tup ds]=>R ds.reverse M1|_=>False
theorem Gi {a:gl}{za:eW}{p pos:ze}(hK:X.K=K) (hg:Gl X "reversed") (hm:X.mg "reversed" = none) (ha:QA Γ X [a] za) (hs:starEach [a] X.env=[(false,eval a X.env)] :=by rfl):QI Γ X tg (.Call (.Name "reversed" p) [a] [] pos) (ziRevT za):=
 (Dq hK hg hm ha hs).imp fun σ H R ⟨β,ρ,M,R',zr,h,q⟩=>⟨β,ρ,M,_,zr,h,fun es M1 vs H1 x1 rs h1=>by
  revert h1
  split
  ·rename_i ds;intro h1;obtain⟨v,rfl,r⟩:=b5 rs;obtain⟨a,us,rfl,m,e,cx⟩:=bg r;refine⟨a,us,rfl,.inl (.inl e),q _ _ _ _ x1 ?_ h1⟩;have rr:aJ β M1 H1 us.reverse ds.reverse:=⟨by simp[cx.len],fun i v d a b=>by
    have hi:=(br.mp a).1;have gK:=(br.mp b).1;rw[sK]at hi gK;rw[ES hi]at a;rw[ES gK,<- cx.len]at b;exact cx.at' _ v d a b⟩
   refine ky rr fun M' H' x i=>?_
   have hq:bC K H' a us:=.inl (.inl (x.get m.1 e rfl));rw[sK];exact⟨fun hi=>⟨⟨us,hq,rfl,hi⟩,fun y lb ⟨e1,e2⟩=>⟨e1,e2 us hq rfl⟩⟩,fun hi=>hi⟩
  ·exact fun h=>h.elim⟩
end
theorem yE:typeLookup (.type "list_reverseiterator") "__len__" = pure none :=by rw[Me,EQ];kernel_rfl
theorem Dr:typeLookup (.type "list_reverseiterator") "__length_hint__" = pure (some (.builtin "list_reverseiterator.__length_hint__")) :=by rw[Me,EQ];kernel_rfl
theorem uO:isSubtype (.type "list_reverseiterator") (.type "list_reverseiterator")=pure true :=by rw[ID];kernel_rfl
section
variable {P:ii}{w:ij}{A:mf}{E:am->ar->Prop}{s:ar}
theorem vJ {a:ap}{Q:Bool->ar->Prop}(hT:s.TypeIs (.ref a) "list_reverseiterator") (h:Q false s):wpAny (model P w) A (Os (.ref a)) Q E s :=by
 unfold Os;refine ac (Pe hT yE ?_);dsimp only;show wpAny _ _ (if false=true then _ else _) _ _ s
 simp only[c8,if_false,Option.isSome_none];refine ac (Pe hT Dr ?_);have e:splitId "list_reverseiterator.__length_hint__" = some ("list_reverseiterator","__length_hint__") :=by kernel_rfl
 dsimp only;rw[e];dsimp only;refine ac (LB hT uO ?_);simp only[xz,c8,if_false];show wpAny _ _ (if _=true then _ else _) _ _ s
 rw[if_pos (by kernel_rfl)]
 rw[if_neg (by decide)]
 exact ba h
theorem vK {it l:ap}{items:Array am}{QL:List am->ar->Prop}(hh:A.handled=none) (hit:s.heap.IsRevIter it l ((items.size:Int) - 1)) (hl:s.heap.IsList l items) (cf:l≠it) (hz:items.size<=sizeLine)
  (hQ:∀us h' tk,us.length=items.size->(∀i,i<items.size->us[i]?=items[items.size - 1 - i]?)->(∀b o,b≠it->s.heap.get? b=some o->h'.get? b=some o)->QL us {s with heap:=h',toks:=tk}):wpAny (model P w) A (collect (.ref it)) QL E s :=by
 obtain⟨oi,Rk,Sj,Sl⟩:=id hit;have aQ:it<s.heap.objs.size:=gc Rk;have Pt:l<s.heap.objs.size:=let ⟨_,e,_⟩:=hl;gc e;have rp:s.heap.objs.size≠it:=KF aQ;unfold collect;refine ac (TZ (ww S9 ?_));rw[tz Tc _];show wpAny _ A.in1 (newList []>>=fun l=>again (.builtin "list.__iadd__" ⟨[l,.ref it],[]⟩)) _ _ s
 refine ac (mT ?_);refine ba ⟨EN IS _,ww Ud ?_⟩;rw[tz IS _];have kp:∀b o,s.heap.get? b=some o->(s.heap.push {cls:=.type "list",data:=.seq ([]:List am).toArray}).get? b=some o:=fun b o e=>bi _ e
 have nS:({s with heap:=s.heap.push {cls:=.type "list",data:=.seq ([]:List am).toArray}}:ar).heap.IsRevIter it l ((items.size:Int) - 1):=hit.at fun o e=>kp it o e
 have jc:({s with heap:=s.heap.push {cls:=.type "list",data:=.seq ([]:List am).toArray}}:ar).heap.IsList l items:=hl.at fun o e=>kp l o e
 show wpAny _ A.in1 (zw (.ref s.heap.objs.size) (.ref it) (.ref s.heap.objs.size)) _ _ _;unfold zw;refine ac (LS nS.typeIs ?_);have h1:GT (.ref s.heap.objs.size) (.ref it)=false :=by simp[GT,rp]
 have h2:(zd "list_reverseiterator" == zd "list")=false :=by decide
 have h3:(zd "list_reverseiterator" == zd "tuple")=false :=by decide
 simp only[h1,h2,h3,U6,c8,if_false];refine ac (wpAny_pyIter_revIter nS ?_);refine ac (wT (vJ nS.typeIs ?_));show wpAny _ A.in1 (if _=true then _ else _) _ _ _
 rw[if_neg (by show ¬ (_=true);exact Bool.eq_false_iff.mp (by kernel_rfl))]
 show wpAny _ A.in1 (again (.builtin "list.extend.loop" ⟨[.ref s.heap.objs.size,.ref it,.ref s.heap.objs.size],[]⟩)) _ _ _
 have W:=(Walks.listRev (prog:=P) (w:=w) (A:=A.in1.in1) (by simp[hh]) it l cf items).toS
 have k7:s.heap.objs.size ∉ [it,l] :=by
  simp only[li,wP,or_false,not_or];exact⟨rp,KF Pt⟩
 refine ba ⟨EN UO _,UH (W.of_in1) hz _ k7 _ items.size 0 _ _ _ rfl (kv _) ⟨kv _,by simpa using nS,jc⟩ (ff _ rfl) (VU.nil _) fun s' eF c' hm dQ lQ=>?_⟩
 show wpAny _ A (load s.heap.objs.size>>=_) _ _ s';refine ac (Vj dQ ?_);refine ba ?_;obtain⟨h2,g2,d2,Af,os2⟩:=s';have eg:g2=s.gens:=hm.gens;have ed:d2=s.drawn:=hm.drawn;have eo:os2=s.os:=hm.os;subst eg;subst ed;subst eo;refine hQ _ h2 Af (by rw[io];exact lQ.1) (fun i hi=>?_) fun b o hb e=>hm.heap b o ?_ (kp b o e)
 ·have xg:i<eF.size :=by rw[lQ.1];exact hi
  have:=lQ.2 i eF[i] (mv xg);have e3:eF.toList[i]?=eF[i]?:=by simp
  rw[e3,mv xg];exact this.symm
 ·simp only[li,wP,or_false,not_or];exact⟨kw (gc e),hb⟩
theorem mH {Q₁:am->ar->Prop}{QL:List am->ar->Prop}{I:ap}(hT:s.TypeIs (.ref I) "list_reverseiterator")
  (W:wpAny (model P w) A.in1 (collect (.ref I)) QL E s) (hsz:∀us s',QL us s'->us.length<=sizeLine)
  (h:∀us s',QL us s'->Q₁ (.ref s'.heap.objs.size) {s' with heap:=s'.heap.push {cls:=.type "tuple",data:=.seq us.toArray}}) :
  codeAny (model P w) A (.call (.builtin "tuple.__new__") ⟨[.type "tuple",.ref I],[]⟩) (wants Q₁ E) s :=by
 refine SQ ?_;show wpAny _ A.in1 (do checkBuiltinCall "tuple.__new__" ⟨[.type "tuple",.ref I],[]⟩;again (.builtin "tuple.__new__" ⟨[.type "tuple",.ref I],[]⟩)) _ _ s
 refine ac (KT (F.newCall_tuple_1 _) (ba ⟨EN F.plain_tuple_new _,ww F.entry_tuple_new ?_⟩));rw[tz F.plain_tuple_new _];have i9:=sub_tuple_self;have RL:=init_tuple_lookup;have Sn:=madeHere_tuple;wp_walk using LS hT,tw W
 ·intro us s' hq;show wpAny _ _ (GS us.toArray>>=fun v=>ret v) _ _ _
  unfold GS;refine ac (mT ?_ (by show us.toArray.size<=sizeLine;rw[ci];exact hsz us s' hq))
  exact ba (h us s' hq)
 ·exact fun _ _ z=>z
end
theorem Ds {xs:List V}{its us:List am}(r:Vals xs its) (hl:us.length=its.length) (h:∀i,i<its.length->us[i]?=its[its.length - 1 - i]?):Vals xs.reverse us :=by
 have e:us=its.reverse :=by
  refine Nl fun i=>?_
  by_cases hi:i<its.length
  ·rw[h i hi,ES hi]
  ·rw[At (by omega),At (by rw[sK];omega)]
 subst e;have xf:=r.length;refine jL (by rw[sK,sK];omega) fun i v ev=>?_
 have hi:=(br.mp ev).1;rw[sK]at hi;rw[ES hi]at ev;obtain⟨u,eu,ru⟩:=r.get ev;exact⟨u,by rw[ES (by omega),<- xf];exact eu,ru⟩
section
variable {X:Cx}{Γ:Gz}
theorem vL {e:gl}{te:TE}{p p1 p2 pos:ze}(hc:X.calm=true) (hg:Gl X "tuple") (hm:X.mg "tuple" = none) (oW:Gl X "reversed") (tN:X.mg "reversed" = none) (he:PE X e te) (hs:starEach [e] X.env=[(false,eval e X.env)] :=by rfl) :
  PE X (.Call (.Name "tuple" p) [.Call (.Name "reversed" p1) [e] [] p2] [] pos) (fun σ H Q=>te σ H fun x H1=>∃a xs,x=.ref a/\bG X.K H1 a xs/\∀l,H1 l=none->Q (.ref l) (upd H1 l (.tup xs.reverse))) :=by
 refine⟨?_⟩;intro pins s σ H Q I h;refine GM (d6 I hg hm fS ?_);refine zn ?_ rfl rfl;show wpAny _ _ (spliced ((false,eval (.Call (.Name "reversed" p1) [e] [] p2) X.env)::[])) _ _ s
 refine LG ?_;refine Call_ (d6 I oW tN boot_reversed (zn ?_ hs rfl));rw[hs];refine LG (thn (he pins s σ H _ I h) fun v s1 ⟨x,H1,I1,r1,q1⟩=>Na ?_)
 obtain⟨l,xs,rfl,hq,q⟩:=q1;cases r1;obtain⟨its,rv,pl,hz⟩:=I1.list hq;have hl:=rv.length;refine call_reversed_list pl.isList ?_;refine Na ?_;have hh:=I1.ok.hd hc;have aQ:l<s1.heap.objs.size:=let ⟨_,e,_⟩:=pl.isList;gc e;have I2:Inv X pins σ H1 {s1 with heap:=s1.heap.push (revObj l ((its.toArray.size:Int) - 1))}:=I1.kept (t':=s1.toks) fun b o e=>bi _ e
 have hit:({s1 with heap:=s1.heap.push (revObj l ((its.toArray.size:Int) - 1))}:ar).heap.IsRevIter s1.heap.objs.size l ((its.toArray.size:Int) - 1):=⟨_,ff _ rfl,rfl,rfl⟩
 have lL:({s1 with heap:=s1.heap.push (revObj l ((its.toArray.size:Int) - 1))}:ar).heap.IsList l its.toArray:=pl.isList.at fun o e=>bi _ e
 refine callType_codes (Q₁:=fun obj av=>av.TypeIs obj "tuple" /\ EP X pins σ Q obj av) F.called_tuple (F.typeCall_tuple_1 _) F.entry_object_init
  (mH (QL:=fun us s'=>us.length<=sizeLine/\Inv X pins σ H1 s'/\Vals xs.reverse us) hit.typeIs
   (vK (by simp[hh]) hit lL (kw aQ) (by simp only[ci];omega) fun us h' tk e1 e2 k=>?_) (fun us s' q=>q.1) fun us s' ⟨hl,I',rv⟩=>⟨⟨_,ff _ rfl,rfl⟩,?_⟩) fun obj av km=>?_
 ·simp only[ci]at e1 e2;refine⟨by omega,I1.kept (t':=tk) fun b o e=>k b o (kw (gc e)) (bi _ e),Ds rv e1 fun i hi=>?_⟩
  rw[e2 i hi];simp
 ·have I3:Inv X pins σ (upd H1 s'.heap.objs.size (.tup xs.reverse)) {s' with heap:=s'.heap.push {cls:=.type "tuple",data:=.seq us.toArray}}:=
   I'.laid (t':=s'.toks) (fun b o e=>bi _ e) (bv _) (show bj X.prog X.w _ _ _ (.tup _) from ⟨by rw[rv.length];exact hl,us,rv,gL.new _ _⟩)
  exact⟨.ref s'.heap.objs.size,_,I3,rfl,q _ (I'.hok.fresh (bv _))⟩
 ·exact⟨km.1,UI obj _,object_init_meets F.called_tuple.init.lookup F.called_tuple.made (by decide) X.prog X.w X.A.in1 _ av ⟨km.1,rfl,km.2⟩⟩
def zTupRev (po:aM):aM:=fun ρ M Q=>po ρ M fun d M1=>∃a ds,d=.ptr a/\M1 a=some (.lst ds)/\Q (.tup ds.reverse) M1
theorem vM {K:bn}{e:gl}{po:aM}{p p1 p2 pos:ze}(hK:X.K=K) (hc:X.calm=true) (hg:Gl X "tuple") (hm:X.mg "tuple" = none) (oW:Gl X "reversed") (tN:X.mg "reversed" = none) (he:QE Γ X e po) (hs:starEach [e] X.env=[(false,eval e X.env)] :=by rfl) :
  QE Γ X (.Call (.Name "tuple" p) [.Call (.Name "reversed" p1) [e] [] p2] [] pos) (zTupRev po):=
 (vL hc hg hm oW tN he hs).imp fun σ H Q ⟨β,ρ,M,Q',zr,h,q⟩=>⟨β,ρ,M,_,zr,h,fun d M1 v H1 x1 r1 h1=>by
  obtain⟨a,ds,rfl,ha,h2⟩:=h1;obtain⟨rfl,_⟩:=bq r1;obtain⟨vs,hv,rs⟩:=x1.mz.obj a _ ha;refine⟨a,vs,rfl,bG.of hv,fun l hl=>?_⟩
  have m:=x1.mz;have rr:aJ (M:=M1) (H:=H1) β vs.reverse ds.reverse:=⟨by simp[rs.len],fun i v d a b=>by
   have hi:=(br.mp a).1;have gK:=(br.mp b).1;rw[sK]at hi gK;rw[ES hi]at a;rw[ES gK,<- rs.len]at b;exact rs.at' _ v d a b⟩
  have x2:=Ex.lay m hl (.tup vs.reverse);exact q _ _ _ _ (x1.trans x2) (d9 (m.fz hl) aE (rr.ex x2)) h2⟩
end
end L2
namespace L2
open PySem PySem.Spec PySem.W PyProof.Rows
theorem Bw:bootBuiltins "divmod" = some (.builtin "divmod") :=by decide +kernel
section
variable {X:Cx}{Γ:Gz}
theorem Gj:MM X .Mult (fun x y H Q=>∃i j:Int,x=.int i/\y=.int j/\p7 i j/\Q (.int (i * j)) H) :=by
 intro pins s σ H x y v u Q I r1 r2 h;obtain⟨i,j,e1,e2,hc,q⟩:=h;subst e1;subst e2;obtain⟨t,rfl⟩:=r1;obtain⟨t',rfl⟩:=r2;exact imul_int ⟨.int _,H,I.tok _,⟨_,rfl⟩,q⟩ hc.ok
def zAugM (i:Nat) (p:aM):cj:=fun D ρ M=>∃x:Int,ρ[i]?=some (some (.int x))/\p ρ M fun d M1=>∃y:Int,d=.int y/\p7 x y/\D.nx (ρ.set i (some (.int (x * y)))) M1
theorem Gk {i:Nat}{x:db}{e:gl}{pe:aM}{pos' pos:ze}(hN:X.N.Nodup) (hi:X.N[i]?=some x) (hx:Loc X.env.scope x) (he:QE Γ X e pe) (hf:X.fn x=true\/X.env.scope.names.lookup x=some .local :=by first|exact .inl rfl|exact .inr rfl|assumption) :
  QS Γ X (.AugAssign (.Name x pos') .Mult e pos) (zAugM i pe):=(Hs hN hi hx he Gj hf).imp fun D σ H h=>by
 obtain⟨β,ρ,M,D',zr,⟨x,hx,h⟩,r⟩:=h;obtain⟨v,hv,rv⟩:=zr.at' i _ hx;have:=aC rv;subst this;refine⟨_,hv,β,ρ,M,_,zr,h,fun d M1 v H1 x1 r1 h1=>?_⟩
 obtain⟨y,rfl,hc,hn⟩:=h1;have:=aC r1;subst this;exact⟨_,_,rfl,rfl,hc,r.nx _ _ _ _ x1.ev ((zr.step x1).set i (.int _)) hn⟩
end
section
variable {X:Cx}{Γ:Gz}{K:bn}
theorem yF {α β:Type}(f:α->β) (l:List α) (i:Nat):(l.map f).eraseIdx i=(l.eraseIdx i).map f :=by
 rw[GE,GE,r6,List.map_take,List.map_drop]
theorem mI {ns:List Int}:∀{its:List am},Vals (ns.map V.int) its->∀(m:Nat) (hm:m<its.length),∃t n,its[m]=.int n t/\ns[m]?=some n:=fun {its} r m hm=>by
 have hl:=r.length;rw[cb]at hl;have px:m<ns.length :=by omega
 obtain⟨u,hu,ru⟩:=r.get (show (ns.map V.int)[m]?=some (.int ns[m]) by rw[cr,ag px];rfl)
 obtain⟨t,rfl⟩:=ru;rw[ag hm]at hu;exact⟨t,ns[m],i4 hu,ag px⟩
def L8:V->List V->Hp->VK->Prop:=fun x vs H Q=>∃(l:ap) (ns:List Int) (i:Int) (j:Nat),x=.ref l/\vs=[.int i]/\H l=some (.lst (ns.map V.int))/\j<ns.length/\ns[j]?=some i/\(∀m,m<j->ns[m]?≠some i)/\Q .ai (upd H l (.lst ((ns.eraseIdx j).map V.int)))
theorem Gm:Ee X "list.remove" L8 :=by
 intro pins s σ H x vs v us Q I rx rv h;obtain⟨l,ns,i,j,rfl,rfl,hH,hj,hi,nj,q⟩:=h;cases rx;obtain⟨u,rfl,ru⟩:=rv.one;obtain⟨t,rfl⟩:=ru;obtain⟨z,its,n,r,hl,e⟩:=I.nL hH;rw[cb]at hl;have lt:∀{m},m<its.toArray.size->m<its.length:=fun h=>by rw[ci]at h;exact h
 refine SO F.slot_list_remove ⟨_,e,rfl⟩ F.entry_list_remove (F.args_list_remove_2 _ _)
  (MeetsSeq.list_remove l its.toArray n (.int i t) (fun y=>match y with | .int k _=>k==i|_=>false) (fun y hy=>?_) j (by rw[ci];omega) ?_ (fun m hm JV=>?_) (by rw[ci,<- hl];rw[cb]at z;exact z)) ⟨e,?_⟩
 ·have h8:y∈its :=by simpa using hy
  obtain⟨m,hm,rfl⟩:=List.getElem_of_mem h8;obtain⟨t',k,ek,_⟩:=mI r m hm;rw[ek];exact MeetsSeq.EqGives.int k i t' t
 ·obtain⟨t',k,ek,e2⟩:=mI r j (by omega)
  have:its.toArray[j]'(by rw[ci];omega)=.int k t':=by simpa using ek
  rw[this];rw[hi]at e2;cases e2;exact beq_self_eq_true i
 ·obtain⟨t',k,ek,e2⟩:=mI r m (lt hm);have:its.toArray[m]=.int k t':=by simpa using ek
  rw[this];have:=nj m JV;rw[e2]at this;show (k==i)=false;exact beq_eq_false_iff_ne.mpr fun h=>this (by rw[h])
 ·refine⟨.ai,_,I.xI (its':=its.eraseIdx j) hH e ?_ (by rw[<- yF];exact r.eraseIdx j) ?_,rfl,q⟩
  ·show its.toArray.eraseIdxIfInBounds j=(its.eraseIdx j).toArray;rw[List.eraseIdxIfInBounds_toArray]
  ·have:=lB ns j;rw[cb]at z ⊢;omega
def zRemI:pF:=fun d ds M Q=>match d,ds with | .ptr a,[.int i]=>(match M a with|some (.lst xs)=>∃(ns:List Int) (j:Nat),xs=ns.map .int/\j<ns.length/\ns[j]?=some i/\(∀m,m<j->ns[m]?≠some i)/\Q .ai (aw M a (.lst ((ns.eraseIdx j).map .int)))|_=>False)|_,_=>False
theorem J6:wR Γ X "list" "list.remove" K zRemI:=⟨_,Gm,fun β x xs d ds M H Q Q' _ _ _ m r rs z q=>by
 unfold zRemI at z;split at z
 ·rename_i a i;split at z
  ·rename_i es he;obtain⟨ns,j,rfl,hj,hi,nj,z⟩:=z;obtain⟨e,hs⟩:=bq r;obtain⟨v0,e2,JM⟩:=b5 rs;subst e e2;obtain⟨vs,hv,cx⟩:=m.obj a _ he;rw[eZ cx]at hv;rw[aC JM];refine⟨a,ns,i,j,rfl,rfl,hv,hj,hi,nj,?_⟩;have ri:aJ β M H ((ns.eraseIdx j).map V.int) ((ns.eraseIdx j).map Dv.int):=⟨by simp,fun k v d a b=>by
    rw[cr]at a b;cases e:(ns.eraseIdx j)[k]? with
    |none=>rw[e]at a;cases a
    |some c=>rw[e]at a b;cases a;cases b;exact .int c⟩
   exact q _ _ _ _ (Ex.own m (.inl hs) ri) .ai z
  ·exact z.elim
 ·exact z.elim⟩
end
def eG:List (List Int)->List (List Int)->Bool
 | [],[]=>false
 | [],_::_=>true
 |_::_,[]=>false
 |x::a,y::b=>if x=y then eG a b else HT.lexLt x y
section
variable {prog:ii}{w:ij}{A:mf}{E:am->ar->Prop}{s:ar}
def IsT (h:i0) (x:List Int) (a:ap):Prop:=∃o items n,h.get? a=some o/\o.cls=.type "tuple" /\ o.data=.seq items n/\Vals (x.map V.int) items.toList
theorem IsT.typeIs {x:List Int}{a:ap}(h:IsT s.heap x a):s.TypeIs (.ref a) "tuple" := let ⟨o,_,_,e,c,_⟩:=h;⟨o,e,c⟩
theorem IsT.key {x:List Int}{a:ap}(h:IsT s.heap x a):IF (intKind prog w) s.heap x a:=let ⟨o,items,n,e,c,d,r⟩:=h;⟨o,items,n,e,c,d,kO r⟩
theorem sk {x y:List Int}{a b:ap}{P:PySem.Fin->ar->Prop}(hx:IsT s.heap x a) (hy:IsT s.heap y b) (h:P (.done (.ret (.bool (HT.lexLt x y)))) s) :
  wpAny (model prog w) A (l7.«tuple.__lt__» ⟨[.ref a,.ref b],[]⟩) P E s :=by
 have Bc:=hy.typeIs;obtain⟨oa,xs,na,k8,_,k9,xg⟩:=hx;obtain⟨ob,ys,nb,nu,_,fE,J7⟩:=hy;show wpAny _ _ (isInstance (.ref b) (.type "tuple")>>=_) _ _ s
 refine ac (LB Bc isSubtype_tuple_tuple ?_);simp only[xz,c8,if_false];refine ac (TV k8 k9 ?_);refine ac (TV nu fE ?_);refine ac ?_;refine Tk _
  (fun rest r s'=>r.1=none/\s'=s/\∃(x' y':List Int) (kb jJ:List am),rest=List.zip kb jJ/\Vals (x'.map V.int) kb/\Vals (y'.map V.int) jJ/\HT.lexLt x' y'=HT.lexLt x y/\decide (kb.length<jJ.length)=decide (xs.size<ys.size))
  _ ?_ ?_ _ _ ⟨rfl,rfl,x,y,xs.toList,ys.toList,rfl,xg,J7,rfl,by simp⟩
 ·rintro⟨u,v⟩ rest r s' ⟨hr,rfl,x',y',kb,jJ,hz,gv,h8,fB,hlen⟩;cases x' with
  |nil=>cases gv;simp at hz
  |cons k1 EJ=>
   cases gv with
   | @cons _ u' _ us h1 Du=>
   cases y' with
   |nil=>cases h8;simp at hz
   |cons k2 EK=>
    cases h8 with
    | @cons _ v' _ ws h2 Dw=>
    simp only[U1,List.cons.injEq,Prod.mk.injEq]at hz;obtain⟨⟨rfl,rfl⟩,rfl⟩:=hz;obtain⟨t1,rfl⟩:=h1;obtain⟨t2,rfl⟩:=h2;rw[HT.du]at fB;refine ac (wpAny_eqBool_int ?_);by_cases hk:k1=k2
    ·subst hk;rw[beq_self_eq_true];rw[if_pos rfl]at fB;simp only[xz,c8,if_false];exact ba ⟨rfl,rfl,EJ,EK,_,_,rfl,Du,Dw,fB,by simpa using hlen⟩
    ·rw[beq_eq_false_iff_ne.mpr hk];rw[if_neg hk]at fB;simp only[NO,if_true];rw[<- fB]at h;refine ac (FS (ac (richCompare_gives (op:=.Lt) (TX s' _ t1) (TX s' _ t2) F.slot_int_lt F.entry_int_lt (F.args_int_lt_2 _ _) (gives_int_lt _ _ t1 t2) (fun x=>nomatch x) ?_)))
     exact ac (ba (ba (ba h)))
 ·rintro⟨r1,r2⟩ s' ⟨hr,rfl,x',y',kb,jJ,hz,gv,h8,fB,hlen⟩;simp only at hr;subst hr;refine ba ?_;have Dx:decide (xs.size<ys.size)=HT.lexLt x y :=by
   rw[<- fB,<- hlen];cases x' with
   |nil=>
    cases gv;cases y' with
    |nil=>cases h8;rfl
    |cons _ _=>cases h8;rfl
   |cons _ _=>
    cases gv;cases y' with
    |nil=>cases h8;rfl
    |cons _ _=>cases h8;simp at hz
  show P (.done (.ret (.bool (decide (xs.size<ys.size))))) s';rw[Dx];exact h
def uP (h:i0) (x:List (List Int)) (a:ap):Prop:=∃o items n,h.get? a=some o/\o.cls=.type "tuple" /\ o.data=.seq items n/\wn (fun v r=>∃b,v=.ref b/\IsT h r b) items.toList x
theorem uP.typeIs {x:List (List Int)}{a:ap}(h:uP s.heap x a):s.TypeIs (.ref a) "tuple" := let ⟨o,_,_,e,c,_⟩:=h;⟨o,e,c⟩
theorem Gp {x y:List Int}{a b:ap}{Q:am->ar->Prop}(hu:A.units<cLine) (hx:IsT s.heap x a) (hy:IsT s.heap y b) (h:Q (.bool (HT.lexLt x y)) s):wpAny (model prog w) A (richCompare .Lt (.ref a) (.ref b)) Q E s:=
 wpAny_richCompare_same_room (op:=.Lt) hx.typeIs hy.typeIs UM (nw UM hx.typeIs F.entry_tuple_lt (sk hx hy ⟨_,rfl,(fun e=>nomatch e),h⟩) (F.args_tuple_lt_2 _ _)) hu
theorem sm {x y:List (List Int)}{a b:ap}{P:PySem.Fin->ar->Prop}(hu:A.units<cLine) (hx:uP s.heap x a) (hy:uP s.heap y b) (h:P (.done (.ret (.bool (eG x y)))) s) :
  wpAny (model prog w) A (l7.«tuple.__lt__» ⟨[.ref a,.ref b],[]⟩) P E s :=by
 have Bc:=hy.typeIs;obtain⟨oa,xs,na,k8,_,k9,xg⟩:=hx;obtain⟨ob,ys,nb,nu,_,fE,J7⟩:=hy;show wpAny _ _ (isInstance (.ref b) (.type "tuple")>>=_) _ _ s
 refine ac (LB Bc isSubtype_tuple_tuple ?_);simp only[xz,c8,if_false];refine ac (TV k8 k9 ?_);refine ac (TV nu fE ?_);refine ac ?_;refine Tk _
  (fun rest r s'=>r.1=none/\s'=s/\∃(x' y':List (List Int)) (kb jJ:List am),rest=List.zip kb jJ/\wn (fun v r=>∃b,v=.ref b/\IsT s.heap r b) kb x'/\wn (fun v r=>∃b,v=.ref b/\IsT s.heap r b) jJ y'/\eG x' y'=eG x y/\decide (kb.length<jJ.length)=decide (xs.size<ys.size))
  _ ?_ ?_ _ _ ⟨rfl,rfl,x,y,xs.toList,ys.toList,rfl,xg,J7,rfl,by simp⟩
 ·rintro⟨u,v⟩ rest r s' ⟨hr,rfl,x',y',kb,jJ,hz,gv,h8,fB,hlen⟩;cases kb with
  |nil=>simp at hz
  |cons u' us=>
   obtain⟨k1,EJ,rfl,⟨a1,rfl,h1⟩,Du⟩:=cU gv;cases jJ with
   |nil=>simp at hz
   |cons v' ws=>
    obtain⟨k2,EK,rfl,⟨a2,rfl,h2⟩,Dw⟩:=cU h8;simp only[U1,List.cons.injEq,Prod.mk.injEq]at hz;obtain⟨⟨rfl,rfl⟩,rfl⟩:=hz;have fB:(if k1=k2 then eG EJ EK else HT.lexLt k1 k2)=_:=fB
    refine ac (wpAny_eqBool_tuple hu h1.key h2.key ?_);by_cases hk:k1=k2
    ·subst hk;rw[decide_eq_true rfl];rw[if_pos rfl]at fB;simp only[xz,c8,if_false];exact ba ⟨rfl,rfl,EJ,EK,_,_,rfl,Du,Dw,fB,by simpa using hlen⟩
    ·rw[decide_eq_false hk];rw[if_neg hk]at fB;simp only[NO,if_true];rw[<- fB]at h;refine ac (FS (ac (Gp hu h1 h2 ?_)));exact ac (ba (ba (ba h)))
 ·rintro⟨r1,r2⟩ s' ⟨hr,rfl,x',y',kb,jJ,hz,gv,h8,fB,hlen⟩;simp only at hr;subst hr;refine ba ?_;have Dx:decide (xs.size<ys.size)=eG x y :=by
   rw[<- fB,<- hlen];cases kb with
   |nil=>
    cases gv;cases jJ with
    |nil=>cases h8;rfl
    |cons _ _=>obtain⟨_,_,rfl,_⟩:=cU h8;rfl
   |cons _ _=>
    obtain⟨_,_,rfl,_⟩:=cU gv;cases jJ with
    |nil=>cases h8;rfl
    |cons _ _=>simp at hz
  show P (.done (.ret (.bool (decide (xs.size<ys.size))))) s';rw[Dx];exact h
end
section
variable {X:Cx}{Γ:Gz}
def uQ (H:Hp) (v:V) (r:List Int):Prop:=∃b,v=.ref b/\H b=some (.tup (r.map V.int))
theorem J8 {pins:List (ap×l8)}{σ:St}{H:Hp}{s:ar}{b:ap}{ns:List Int}(I:Inv X pins σ H s) (h:H b=some (.tup (ns.map V.int))):IsT s.heap ns b :=by
 obtain⟨z,its,r,o,e,c,n,d,_⟩:=I.hok b _ h;exact⟨o,its.toArray,n,e,c,d,by simpa using r⟩
def Pu:R2:=fun x y H Q=>∃a b vs us rs ts,x=.ref a/\y=.ref b/\H a=some (.tup vs)/\H b=some (.tup us)/\wn (uQ H) vs rs/\wn (uQ H) us ts/\Q (.bl (eG rs ts)) H
theorem xh {pins:List (ap×l8)}{σ:St}{H:Hp}{s:ar}{b:ap}{vs:List V}{rs:List (List Int)}(I:Inv X pins σ H s) (h:H b=some (.tup vs)) (p:wn (uQ H) vs rs):uP s.heap rs b :=by
 obtain⟨z,its,r,o,e,c,n,d,_⟩:=I.hok b _ h;refine⟨o,its.toArray,n,e,c,d,?_⟩;have key:∀{vs:List V} {its:List am} {rs:List (List Int)},Vals vs its->wn (uQ H) vs rs->wn (fun v r=>∃b,v=.ref b/\IsT s.heap r b) its rs :=by
  intro vs;induction vs with
  |nil=>intro its rs h1 h2;cases h1;cases h2;exact .nil
  |cons v vs ih=>
   intro its rs h1 h2;cases h1 with
   |cons r1 h1=>
    obtain⟨r,Sr,rfl,⟨b,rfl,hb⟩,h3⟩:=cU h2;cases r1;exact .cons ⟨b,rfl,J8 I hb⟩ (ih h1 h3)
 simpa using key r p
theorem J9 (hu:X.A.units+64<cLine):OpR X (compareOp .Lt) Pu :=by
 intro pins s σ H x y v u Q I rx ry h;obtain⟨a,b,vs,us,rs,ts,rfl,rfl,ha,hb,p1,p2,q⟩:=h;cases rx;cases ry;have h1:=xh I ha p1;have h2:=xh I hb p2;show wpAny _ _ (richCompare .Lt (.ref a) (.ref b)) _ _ _;exact wpAny_richCompare_same_room (op:=.Lt) h1.typeIs h2.typeIs UM (nw UM h1.typeIs F.entry_tuple_lt (sm (by show X.A.units+_<_;omega) h1 h2 ⟨_,rfl,(fun e=>nomatch e),.bl _,H,I,rfl,q⟩) (F.args_tuple_lt_2 _ _)) (by omega)
def zLtN:dM:=fun d e M Q=>∃rs ts,d=eN rs/\e=eN ts/\Q (.bl (eG rs ts)) M
theorem om {β:Bz}{M:Mh}{H:Hp}:∀{vs:List V}{rs:List (List Int)},aJ β M H vs (rs.map eI)->wn (uQ H) vs rs
 | [],[],_=>.nil
 | [],_::_,h=>by have:=h.len;simp at this
 |_::_,[],h=>by have:=h.len;simp at this
 |v::vs,r::rs,h=>by
          obtain⟨b,us,rfl,_,hb,uM⟩:=bg h.head;have:=eZ uM;subst this;exact .cons ⟨b,rfl,hb⟩ (om h.tail)
theorem L9 (hu:X.A.units+64<cLine):ef Γ X (compareOp .Lt) zLtN:=⟨_,J9 hu,fun β x y d e M H Q Q' _ _ _ m rx ry z q=>by
 obtain⟨rs,ts,rfl,rfl,z⟩:=z;obtain⟨a,vs,rfl,_,ha,r1⟩:=bg rx;obtain⟨b,us,rfl,_,hb,r2⟩:=bg ry;exact⟨a,b,vs,us,rs,ts,rfl,rfl,ha,hb,om r1,om r2,q _ _ _ _ (.refl m) (.bl _) z⟩⟩
end
end L2
open PySem L2 PyProof.Rows
local macro_rules | `(tactic| simp! only[$xs,*] $[$l]?)=>`(tactic| simp only[zVar,zC,zOp,zII,zIC,zEq,zNe,scalZ,zIsN,isNonD,zSS,zTest,zBool,zChain,zAnd,zOr,zNot,zAndV,zOrV,zNotV,zNil,zCons,zTup,zLst,zLstP,zCB,z1,zLenD,z2I,zAbs,zDivmod,zInt,zListP,zTuple,zSorted,zSet,intsM,itemsM,zIsInst,isD,zBM,tyZ,zAppend,zExtend,zPop,zPopAt,zSetI,zgSub,zNext,zSeq,zDrop,zRet,zIfS,zgName,zgNil,zgCons,zgTup,zAsg,zFor,zForM,zComp,zCompP,zAll,zBlock,zCall,zRaise,zstart,zEndsOf,ziTup,ziLst,ziRng1,ziEnumK,zoNone,zoSome,zSl,zSlT,zIx,zRangeP,zCatT,zNoIf,zRepT,zRepL,zIxS,zRepP,zSetNew,zAddT,zSortTS,ziRevT,zTupRev,zAugM,zRemI,zLtN,SK,Cn,xy,TQ,IT,LF,xw,SN,sB,Tv,SU,SV,Tl,Vd,Ve,Vt,Te,if_true,if_false,c8,xz,NO,true_and,and_true,beq_self_eq_true,Uo,zLoop,cb,OL,updM_same,updM_updM,AN,OF,xL,rangeD_len,pairsD_len,numD_len,SB,atI_zero,decide_true,decide_false,Up,bne_self_eq_false,$xs,*] $[$l]?)
local macro_rules | `(tactic| dsimp! only[$xs,*] $[$l]?)=>`(tactic| simp only[zVar,zC,zOp,zII,zIC,zEq,zNe,scalZ,zIsN,isNonD,zSS,zTest,zBool,zChain,zAnd,zOr,zNot,zAndV,zOrV,zNotV,zNil,zCons,zTup,zLst,zLstP,zCB,z1,zLenD,z2I,zAbs,zDivmod,zInt,zListP,zTuple,zSorted,zSet,intsM,itemsM,zIsInst,isD,zBM,tyZ,zAppend,zExtend,zPop,zPopAt,zSetI,zgSub,zNext,zSeq,zDrop,zRet,zIfS,zgName,zgNil,zgCons,zgTup,zAsg,zFor,zForM,zComp,zCompP,zAll,zBlock,zCall,zRaise,zstart,zEndsOf,ziTup,ziLst,ziRng1,ziEnumK,zoNone,zoSome,zSl,zSlT,zIx,zRangeP,zCatT,zNoIf,zRepT,zRepL,zIxS,zRepP,zSetNew,zAddT,zSortTS,ziRevT,zTupRev,zAugM,zRemI,zLtN,SK,Cn,xy,TQ,IT,LF,xw,SN,sB,Tv,SU,SV,Tl,Vd,Ve,Vt,Te,if_true,if_false,c8,xz,NO,true_and,and_true,beq_self_eq_true,Uo,cb,OL,updM_same,updM_updM,AN,OF,xL,rangeD_len,pairsD_len,numD_len,SB,atI_zero,decide_true,decide_false,Up,bne_self_eq_false,$xs,*] $[$l]?)
namespace My
open PySem L2 PyProof.Rows
def top (i:Nat):wp:=PySem.Challenge.pw_roadcall_k10_signings_counted_and_number.main.body.getD i (.Pass ⟨0,0,0,0⟩)
abbrev fi:wp:=top 5
abbrev ck:wp:=top 6
abbrev jo:wp:=top 9
abbrev jq:wp:=top 10
abbrev gE:wp:=top 11
abbrev cW:wp:=top 13
abbrev fj:wp:=top 14
abbrev fK:wp:=top 15
abbrev ir:wp:=top 16
abbrev iN:wp:=top 18
abbrev dB:wp:=top 19
abbrev gF:wp:=top 20
abbrev dZ:wp:=top 21
abbrev dr:wp:=top 22
abbrev bT:wp:=top 23
abbrev gG:wp:=top 24
abbrev cm:wp:=top 25
abbrev sM:wp:=top 26
end My
local macro_rules | `(tactic| simp! only[$xs,*] $[$l]?)=>`(tactic| simp only[zVar,zC,zOp,zII,zIC,zEq,zNe,scalZ,zTest,zBool,zChain,zAnd,zOr,zNot,zAndV,zOrV,zNotV,zNil,zCons,zTup,zLst,zLstP,zCB,z1,zLenD,z2I,zAbs,zDivmod,zInt,zListP,zTuple,zSorted,zSet,intsM,itemsM,zIsInst,isD,zBM,tyZ,zAppend,zExtend,zPopAt,zSetI,zgSub,zNext,zSeq,zDrop,zRet,zIfS,zgName,zgNil,zgCons,zgTup,zAsg,zFor,zForM,zComp,zCompP,zAll,zBlock,zCall,zRaise,zstart,zEndsOf,ziTup,ziLst,ziRng1,ziEnumK,zoNone,zoSome,zSl,zSlT,zIx,zRangeP,zCatT,zNoIf,zRepT,zIxS,zRepP,zSetNew,zAddT,zSortTS,ziRevT,zTupRev,zAugM,zRemI,zLtN,SK,Cn,xy,TQ,IT,LF,xw,SN,sB,Tv,SU,SV,Tl,Vd,Ve,Vt,Te,if_true,if_false,c8,xz,NO,true_and,and_true,beq_self_eq_true,Uo,zLoop,cb,OL,updM_same,updM_updM,AN,OF,xL,rangeD_len,pairsD_len,numD_len,SB,atI_zero,decide_true,decide_false,Up,bne_self_eq_false,$xs,*] $[$l]?)
local macro_rules | `(tactic| dsimp! only[$xs,*] $[$l]?)=>`(tactic| simp only[zVar,zC,zOp,zII,zIC,zEq,zNe,scalZ,zTest,zBool,zChain,zAnd,zOr,zNot,zAndV,zOrV,zNotV,zNil,zCons,zTup,zLst,zLstP,zCB,z1,zLenD,z2I,zAbs,zDivmod,zInt,zListP,zTuple,zSorted,zSet,intsM,itemsM,zIsInst,isD,zBM,tyZ,zAppend,zExtend,zPopAt,zSetI,zgSub,zNext,zSeq,zDrop,zRet,zIfS,zgName,zgNil,zgCons,zgTup,zAsg,zFor,zForM,zComp,zCompP,zAll,zBlock,zCall,zRaise,zstart,zEndsOf,ziTup,ziLst,ziRng1,ziEnumK,zoNone,zoSome,zSl,zSlT,zIx,zRangeP,zCatT,zNoIf,zRepT,zIxS,zRepP,zSetNew,zAddT,zSortTS,ziRevT,zTupRev,zAugM,zRemI,zLtN,SK,Cn,xy,TQ,IT,LF,xw,SN,sB,Tv,SU,SV,Tl,Vd,Ve,Vt,Te,if_true,if_false,c8,xz,NO,true_and,and_true,beq_self_eq_true,Uo,cb,OL,updM_same,updM_updM,AN,OF,xL,rangeD_len,pairsD_len,numD_len,SB,atI_zero,decide_true,decide_false,Up,bne_self_eq_false,$xs,*] $[$l]?)
namespace My
open PySem L2 PyProof.Rows
section
variable {P:ii}{w:ij}{K:bn}{mg:db->Option am}{base:i0}{tb:dR}{k:Nat}{f:ap}{fd:rc}{ps:List db}
theorem dC:aZ ["_law_script","_law_at","_law_cell","_law_mix","_law_k"] ["_law_script","_law_at"] (au iN):=⟨rfl,rfl,rfl,by decide +kernel,rfl,by decide +kernel,by decide +kernel⟩
theorem dO:aZ ["_law_bag_here","_law_many","_law_digit","_law_number","_law_room"] ["_law_bag_here","_law_many"] (au dB):=⟨rfl,rfl,rfl,by decide +kernel,rfl,by decide +kernel,by decide +kernel⟩
theorem fN:aZ ["_law_bag_here","_law_many","_law_rest","_law_found","_law_k"] ["_law_bag_here","_law_many"] (au gF):=⟨rfl,rfl,rfl,by decide +kernel,rfl,by decide +kernel,by decide +kernel⟩
theorem bc:aZ ["_law_bag_here","_law_most","_law_many","_law_fans","_law_kind","_law_lap","_law_order_here","_law_rows","_law_k","_law_goals","_law_fan"] ["_law_bag_here","_law_most"] (au dZ):=⟨rfl,rfl,rfl,by decide +kernel,rfl,by decide +kernel,by decide +kernel⟩
def Ka:ez:=fun ds M Q _=>∃(ns:List Int) (t:Int),ds=[.bo ns,.int t]/\ns.length<=63/\0<=t/\t<=63/\∀b,M b=none->Q (.ptr b) (aw M b .dj)
def EL:ez:=fun ds M Q _=>∃(ns:List Int) (t:Int),ds=[.bo ns,.int t]/\ns.length<=63/\0<=t/\t<=63/\∀b c m,M b=none->0<=c->0<=m->Q (.ptr b) (aw M b (.lst [.int c,.int m]))
theorem yG (D:Df K mg "_law_bag" iN ["_law_script","_law_at"] f fd) (bl:Bl mg):FnOk P w K mg base bF 1 f fd ["_law_script","_law_at"] (aX P w K tb EL) :=by
 refine gC D dC (fun ds M Q E hS=>by obtain⟨ns,t,e,_⟩:=hS;rw[e];rfl) fun A outer s E Γ ds Q' E' hP hw hK ht hr hS=>?_
 obtain⟨ns,t,e,hl,t0,t1,q⟩:=hS;refine⟨_,(af (aD (i:=2) dC.nd rfl (l6 rfl) aq)
  (af (dg (bL uv (qv 1) (aK (fg (K:=K) rfl hK) rfl bl.len_ CS (aa (qv 0) ae)) (bM _))
   (ao (aD (i:=2) dC.nd rfl (l6 rfl) (aK LY rfl bl.abs_ Iz (aa (cQ (EE (K:=K) rfl hK) (qv 0) (qv 1) (fun _ _=>rfl)) ae))))
   qss_nil)
  (af (aD (i:=3) dC.nd rfl (l6 rfl) (aN gB (aN iK aq (qv 1)) aq))
  (af (bW qr rfl (cE rfl bl.range_ (aa (aK (ux rfl) rfl bl.min_ tO (aa (aK (fg (K:=K) rfl hK) rfl bl.len_ CS (aa (qv 0) ae)) (aa aq ae))) ae)) (fun gm eP ew eK et=>by have hP:=hP.trans eP.symm;have hw:=hw.trans ew.symm;have hK:=hK.trans eK.symm;have ht:=ht.trans et.symm;exact⟨(aH (i:=4) dC.nd rfl (l6 rfl)),(ao (aD (i:=3) dC.nd rfl (l6 rfl) (aN jH (aN gB (aN gB (aN iK (qv 3) aq) (aN jH (cQ (EE (K:=K) rfl hK) (qv 0) (qv 4) (fun _ _=>rfl)) aq)) (qv 4)) aq)))⟩))
  (af (dg (bL uv (qv 2) (aN LW aq aq) (bM _))
   (ao (aD (i:=2) dC.nd rfl (l6 rfl) aq))
   qss_nil)
  (ao (bb (gQ (aa (qv 2) (aa (qv 3) ae)))))))))),?_⟩
 subst e;refine L6 (fun ρ M=>M=Γ.M0/\∃c m x:Int,∃x4,0<=c/\0<=m/\ρ=[some (.bo ns),some (.int t),some (.int c),some (.int m),x4]) (fun N hN=>?_) ?_
 ·refine yA (fun ρ M=>M=Γ.M0/\∃c:Int,0<=c/\ρ=[some (.bo ns),some (.int t),some (.int c),none,none]) (fun N hN=>?_) ?_
  ·simp! only[];refine gD (fun h=>?_) (fun _=>hN _ _ ⟨rfl,0,by omega,rfl⟩)
   have ht:t<(ns.length:Int):=of_decide_eq_true h;obtain⟨k,rfl⟩:=T5 t0;rw[A7 (show k<ns.length by omega)]
   exact hN _ _ ⟨rfl,_,by split<;>omega,rfl⟩
  rintro ρ M ⟨rfl,c,hc,rfl⟩;simp! only[];refine⟨.inl ⟨by decide,by decide⟩,by split<;>omega,by split<;>omega,?_⟩
  refine aU (fun i ρ M=>M=Γ.M0/\∃m:Int,∃x4,0<=m/\ρ=[some (.bo ns),some (.int t),some (.int c),some (.int m),x4]) ⟨rfl,_,_,by omega,rfl⟩ (fun i d ρ M N2 hd hJ iu=>?_) (fun ρ M hJ=>?_)
  ·obtain⟨rfl,m,x4,hm,rfl⟩:=hJ;obtain⟨rfl,hi⟩:=cV hd;have hi:i<ns.length :=by split at hi<;>omega
   simp! only[A7 hi];exact⟨.inr ⟨by decide,by decide⟩,by decide,by decide,iu _ _ ⟨rfl,_,_,TD _ (by decide),rfl⟩⟩
  ·obtain⟨rfl,m,x4,hm,rfl⟩:=hJ;exact hN _ _ ⟨rfl,c,m,0,x4,hc,hm,rfl⟩
 ·rintro ρ M ⟨rfl,c,m,x,x4,hc,hm,rfl⟩;simp! only[];exact⟨⟨by decide,by decide,by decide⟩,gD (fun _=>⟨by decide,fun a ha=>.inl (q a 0 m ha (by omega) hm)⟩) (fun _=>⟨by decide,fun a ha=>.inl (q a c m ha hc hm)⟩)⟩
theorem Ma (G:FnOk P w K mg base bF k f fd ps (aX P w K tb EL)):FnOk P w K mg base bF k f fd ps (aX P w K tb Ka):=G.imp fun vs H Q E hS=>by
 obtain⟨β,ds,M,Q',E',eP,ew,eK,et,m,rs,⟨ns,t,e,h1,h2,h3,h⟩,q,qe⟩:=hS;refine⟨β,ds,M,fun d M'=>∃b c m,d=.ptr b/\M b=none/\0<=c/\0<=m/\M'=aw M b (.lst [.int c,.int m]),fun _ _=>False,eP,ew,eK,et,m,rs,⟨ns,t,e,h1,h2,h3,fun b c m h4 h5 h6=>⟨b,c,m,rfl,h4,h5,h6,rfl⟩⟩,fun d M' v H' x r hQ=>?_,fun _ _ _ _ h=>h.elim⟩
 obtain⟨b,c,m',rfl,hb,hc,hm,rfl⟩:=hQ;have hB:=Bi x.mz hc hm;exact q _ _ _ _ (Ex.sealed hb x hB) (r.dom (iQ M b _ _)) (h b hb)
def pQ:ez:=fun ds M Q _=>∃(b:ap) (n:Int),ds=[.ptr b,.int n]/\M b=some .dj/\1<=n/\n<10000000000000000000000000000000/\∀d:Nat,(d:Int)<n->Q (.int (d:Nat)) M
def By:ez:=fun ds M Q _=>∃(b:ap) (n c m:Int),ds=[.ptr b,.int n]/\M b=some (.lst [.int c,.int m])/\0<=c/\0<=m/\1<=n/\n<10000000000000000000000000000000/\∀(d:Nat) (c m:Int),(d:Int)<n->0<=c->0<=m->Q (.int (d:Nat)) (aw M b (.lst [.int c,.int m]))
theorem Kb {n:Int}(h1:1<=n) (h2:n<10000000000000000000000000000000):n.natAbs.log2<9000:=
 mo ((Nat.log2_lt (k:=200) (by omega)).mpr (by omega)) (by decide)
theorem vN (D:Df K mg "_law_take" dB ["_law_bag_here","_law_many"] f fd):FnOk P w K mg base bF 1 f fd ["_law_bag_here","_law_many"] (aX P w K tb By) :=by
 refine gC D dO (fun ds M Q E hS=>by obtain⟨b,n,c,m,e,_⟩:=hS;rw[e];rfl) fun A outer s E Γ ds Q' E' hP hw hK ht hr hS=>?_
 obtain⟨b,n,c,m,e,hb,hc,hm,n1,n2,q⟩:=hS;refine⟨_,(af (dg (bL JF (cQ (eY (K:=K) rfl) (qv 0) aq (fun _ _=>rfl)) aq (bM _))
   (af (aD (i:=2) dO.nd rfl (l6 rfl) (aN jH (cQ (eY (K:=K) rfl) (qv 0) aq (fun _ _=>rfl)) (qv 1)))
  (af (j4 (aN xa (cQ (eY (K:=K) rfl) (qv 0) aq (fun _ _=>rfl)) (qv 1)) (mC (qv 0) aq))
  (ao (bb (qv 2)))))
   qss_nil)
  (af (aD (i:=3) dO.nd rfl (l6 rfl) aq)
  (af (aD (i:=4) dO.nd rfl (l6 rfl) aq)
  (af (C7 qr (bL uv (qv 4) (qv 1) (bM _))
   (af (j4 (aN jH (aN gB (aN iK (cQ (eY (K:=K) rfl) (qv 0) aq (fun _ _=>rfl)) aq) aq) aq) (mC (qv 0) aq))
  (af (aD (i:=3) dO.nd rfl (l6 rfl) (aN gB (aN iK (qv 3) aq) (aN jH (aN iK (aN xa (cQ (eY (K:=K) rfl) (qv 0) aq (fun _ _=>rfl)) aq) aq) aq)))
  (ao (aD (i:=4) dO.nd rfl (l6 rfl) (aN iK (qv 4) aq))))))
  (ao (bb (aN jH (qv 3) (qv 1)))))))),?_⟩
 subst e;have Rm:∀x y:Int,cZ [Dv.int x,Dv.int y] 1=some (.int y):=fun x y=>eA (j:=1) rfl
 have Rn:gq 2 0=some 0:=rfl;have Ro:gq 2 1=some 1:=rfl;have fin:∀{i c m:Int} {M:Mh},0<=c->0<=m->M=aw Γ.M0 b (.lst [.int c,.int m])->mD Γ.M0 Q' (.int (i % n)) M:=fun {i c m M} hc hm e=>by
  obtain⟨d,hd⟩:=T5 (TD i (show n≠0 by omega))
  have:=Int.emod_lt_of_pos i (show 0<n by omega)
  rw[hd,e];exact .inl (q d c m (by omega) hc hm)
 simp! only[hb,Rn];refine gD (fun h=>?_) (fun h=>?_)
 ·refine⟨by omega,⟨by omega,Kb n1 n2⟩,fin (Int.ediv_nonneg hc (by omega)) hm rfl⟩
 ·refine⟨fun k ρ M=>∃num room c m x2,0<=num/\1<=room/\0<=c/\0<=m/\k=(n - room).toNat/\ρ=[some (.ptr b),some (.int n),x2,some (.int num),some (.int room)]/\M=aw Γ.M0 b (.lst [.int c,.int m]),⟨_,0,1,c,m,_,by omega,by omega,hc,hm,rfl,rfl,(w9 hb).symm⟩,?_⟩
  rintro k ρ M ⟨num,room,c,m,x2,h1,h2,hc,hm,rfl,rfl,rfl⟩;simp! only[Rm,Ro,updM_same];refine gD (fun h=>?_) (fun h=>⟨by omega,fin hc hm rfl⟩)
  have h:=of_decide_eq_true h;have m3:0<=(m * 48271+7919) % 2147483647:=TD _ (by decide)
  have n3:0<=(m * 48271+7919) % 2147483647 / 8 * 69621 % 1073741789:=TD _ (by decide)
  refine⟨.inr ⟨by decide,by decide⟩,by decide,.inr ⟨by decide,by decide⟩,⟨by decide,by decide⟩,.inr ⟨by decide,by decide⟩,by decide,.inr ⟨by decide,by decide⟩,_,?_,_,_,c,_,_,?_,?_,hc,m3,rfl,rfl,rfl⟩<;>omega
theorem Kc (G:FnOk P w K mg base bF k f fd ps (aX P w K tb By)):FnOk P w K mg base bF k f fd ps (aX P w K tb pQ):=G.imp fun vs H Q E hS=>by
 obtain⟨β,ds,M,Q',E',eP,ew,eK,et,m,rs,⟨b,n,e,hb,h1,h2,h⟩,q,qe⟩:=hS;have eM:=w9 hb;have d1:∀o a,(M a).isSome=(aw M b o a).isSome:=fun o a=>by have:=iQ M b .dj o a;rwa [eM]at this
 rw[<- eM]at m;obtain⟨c,m0,hc,hm,hO⟩:=JW m;refine⟨β,ds,aw M b (.lst [.int c,.int m0]),fun d M'=>∃(k:Nat) (c' m':Int),d=.int (k:Nat)/\(k:Int)<n/\0<=c'/\0<=m'/\M'=aw M b (.lst [.int c',.int m']),fun _ _=>False,eP,ew,eK,et,m.chg hO,⟨rs.len,fun i v d x y=>(rs.at' i v d x y).dom (d1 _)⟩,⟨b,n,c,m0,e,updM_same,hc,hm,h1,h2,fun d c' m' h3 h4 h5=>⟨d,c',m',rfl,h3,h4,h5,updM_updM⟩⟩,fun d M' v H' x r hQ=>?_,fun _ _ _ _ h=>h.elim⟩
 obtain⟨k,c',m',rfl,hk,D5,zV,rfl⟩:=hQ;have hB:=Bi x.mz D5 zV;have x2:=Ex.chg (o2:=.dj) x hB;rw[eM]at x2;exact q _ _ _ _ x2 (r.dom fun a=>(d1 _ a).symm) (h k hk)
theorem rT {α β:Type}(f:α->β):∀(l:List α) (i:Nat),(l.map f).eraseIdx i=(l.eraseIdx i).map f
 | [],_=>rfl
 |_::_,0=>rfl
 |a::l,i+1=>by
          show f a::(l.map f).eraseIdx i=f a::(l.eraseIdx i).map f;rw[rT f l i]
theorem dv {α:Type}:∀(l:List α) (i:Nat) (h:i<l.length),(l[i]::l.eraseIdx i).Perm l
 |a::l,0,_=>.refl _
 |a::l,i+1,h=>by
          have h':i<l.length :=by simpa using h
          show (l[i]::a::l.eraseIdx i).Perm (a::l);exact(Rs.swap a l[i] _).trans ((dv l i h').cons a)
structure cX (n:Nat) (os:List Int):Prop where
 perm:os.Perm ((i8 n).map fun i:Nat=>(i:Int))
theorem cX.len {n:Nat}{os:List Int}(h:cX n os):os.length=n :=by
 have:=h.perm.length_eq;simpa using this
theorem cX.mem {n:Nat}{os:List Int}(h:cX n os) {x:Int}(hx:x∈os):0<=x/\x<n :=by
 have:=h.perm.mem_iff.mp hx;obtain⟨i,hi,rfl⟩:=kt.mp this;have:=u4.mp hi;omega
theorem cX.at {n:Nat}{os:List Int}(h:cX n os) {i:Nat}(hi:i<n):∃x:Int,cZ (os.map Dv.int) (i:Int)=some (.int x)/\0<=x/\x<n :=by
 have hl:i<os.length :=by rw[h.len];exact hi
 exact⟨os[i],eA (by rw[cr,ag hl];rfl),h.mem (DD hl)⟩
def BA:ez:=fun ds M Q _=>∃(b:ap) (n:Nat),ds=[.ptr b,.int (n:Nat)]/\M b=some .dj/\n<=100/\∀os,cX n os->Q (fI os) M
def ER:ez:=fun ds M Q _=>∃(b:ap) (most:Nat),ds=[.ptr b,.int (most:Nat)]/\M b=some .dj/\1<=most/\most<=9/\∀net n,cO net n->net.length<=most->Q (eN net) M
theorem Gq {n d:Nat}(h:d<n):seqIndex? (d:Int) n=some d:=(qa (n:=n) (i:=(d:Int)) (j:=d) (by unfold gq;rw[if_pos (by omega),if_pos (by omega)];rfl)).1
theorem uR {f1:ap}{cF:rc}(D:Df K mg "_law_order" gF ["_law_bag_here","_law_many"] f fd)
  (ah:Df K mg "_law_take" dB ["_law_bag_here","_law_many"] f1 cF) (bf:FnOk P w K mg base bF 1 f1 cF ["_law_bag_here","_law_many"] (aX P w K tb pQ)) (bl:Bl mg):FnOk P w K mg base bF 2 f fd ["_law_bag_here","_law_many"] (aX P w K tb BA) :=by
 refine gC D fN (fun ds M Q E hS=>by obtain⟨b,n,e,_⟩:=hS;rw[e];rfl) fun A outer s E Γ ds Q' E' hP hw hK ht hr hS=>?_
 obtain⟨b,n,e,hb,hn,q⟩:=hS;refine⟨_,(af (aD (i:=2) fN.nd rfl (l6 rfl) (si rfl rfl bl.list_ rfl bl.range_ (qv 1)))
  (af (aD (i:=3) fN.nd rfl (l6 rfl) (gQ ae))
  (af (bW qr rfl (cE rfl bl.range_ (aa (qv 1) ae)) (fun gm eP ew eK et=>by have hP:=hP.trans eP.symm;have hw:=hw.trans ew.symm;have hK:=hK.trans eK.symm;have ht:=ht.trans et.symm;exact⟨(aH (i:=4) fN.nd rfl (l6 rfl)),(ao (eB (iL (K:=K) rfl AE SE SF kI (qv 3) (aa (iL (K:=K) rfl AE PySem.F.slot_list_pop PySem.F.type_list_pop F2 (qv 2) (aa (aB bf (hr.mono (by decide)) rfl ah.mg ah.fn.kp ah.bd bE hP hw hK ht XR.none (aa (qv 0) (aa (aK (fg (K:=K) rfl hK) rfl bl.len_ CS (aa (qv 2) ae)) ae))) ae)) ae))))⟩))
  (ao (bb (qv 3)))))),?_⟩
 subst e;have big:(1000:Nat)<sizeLine :=by decide
 simp! only[];refine⟨by omega,by omega,fun a ha=>⟨by omega,fun c hc=>⟨by omega,by omega,?_⟩⟩⟩
 have EV:c≠a:=fun z=>by rw[z,updM_same]at hc;cases hc
 have Kd:Γ.M0 c=none :=by rw[aj EV]at hc;exact hc
 have Ke:b≠a:=fun z=>by rw[z,ha]at hb;cases hb
 have Rp:b≠c:=fun z=>by rw[z,Kd]at hb;cases hb
 refine aU (fun i ρ M=>∃rest got:List Int,(∃x,ρ=[some (.ptr b),some (.int (n:Nat)),some (.ptr a),some (.ptr c),x])/\M a=some (.lst (rest.map .int))/\M c=some (.lst (got.map .int))/\(∀d,d≠a->d≠c->M d=Γ.M0 d)/\got.length=i/\(got++rest).Perm ((i8 n).map fun i:Nat=>(i:Int)))
  ⟨(i8 n).map fun i:Nat=>(i:Int),[],⟨_,rfl⟩,by rw[aj (EO EV),updM_same,ji,AL];rfl,updM_same,fun d h1 h2=>by rw[aj h2,aj h1],rfl,.refl _⟩ (fun i d ρ M N hd hJ hN=>?_) (fun ρ M hJ=>?_)
 ·obtain⟨rest,got,⟨x,rfl⟩,pR,EW,EX,hg,pm⟩:=hJ;obtain⟨rfl,hi⟩:=cV hd;have hlen:got.length+rest.length=n :=by have:=pm.length_eq;simpa using this
  simp! only[pR,EW];refine⟨b,_,rfl,(by rw[EX b Ke Rp];exact hb),by omega,by omega,fun d hd=>?_⟩
  have jX:d<rest.length :=by omega
  simp only[pR,cb,Gq jX,cr,ag jX,AS,aj EV,EW];refine⟨by omega,by omega,by omega,hN _ _ ⟨rest.eraseIdx d,got++[rest[d]],⟨_,rfl⟩,by rw[aj (EO EV),updM_same,rT],by rw[updM_same,r6];rfl,fun e h1 h2=>by rw[aj h2,aj h1];exact EX e h1 h2,by simp[hg],?_⟩⟩
  refine Rs.trans ?_ pm;rw[EM];exact Rs.append_left got (dv rest d jX)
 ·obtain⟨rest,got,⟨x,rfl⟩,pR,EW,EX,hg,pm⟩:=hJ;rw[rangeD_len]at hg;have hlen:got.length+rest.length=n :=by have:=pm.length_eq;simpa using this
  have EH:rest=[]:=wl (by omega)
  rw[EH,AN]at pm;exact A8 (fun d o e=>by rw[EX d (fun z=>by rw[z,ha]at e;cases e) (fun z=>by rw[z,Kd]at e;cases e)];exact e) Kd EW (gT _) (q got ⟨pm⟩)
end
section
variable {P:ii}{w:ij}{K:bn}{mg:db->Option am}{base:i0}{tb:dR}
def fO (n ways:Nat) (row:List Int):Prop:=row.length=ways/\∀x∈row,0<=x/\x<(n:Int)
structure fk (M0 M:Mh) (r:ap) (as:List ap) (n ways:Nat):Prop where
 kp:Keeps M0 M
 r0:M0 r=none
 rm:M r=some (.lst (as.map .ptr))
 fr:∀a∈as,M0 a=none/\a≠r
 len:as.length=n
 row:∀a∈as,∃row:List Int,M a=some (.lst (row.map .int))/\fO n ways row
 pin:∀b o,M b=some o->M0 b=some o\/b=r\/(∃row:List Int,o=.lst (row.map .int))\/∃bs:List ap,o=.lst (bs.map .ptr)/\∀c∈bs,c≠r/\∃o,M c=some o
theorem fk.tY {M0 M:Mh}{r:ap}{as:List ap}{n ways:Nat}(h:fk M0 M r as n ways) {a:ap}(ha:a∈as) {row:List Int}(o:fO n ways row):fk M0 (aw M a (.lst (row.map .int))) r as n ways :=by
 obtain⟨f0,f1⟩:=h.fr a ha;refine⟨.upd f0 h.kp,h.r0,by rw[aj (EO f1)];exact h.rm,h.fr,h.len,fun c hc=>?_,fun b u e=>?_⟩
 ·by_cases z:c=a
  ·subst z;exact⟨row,updM_same,o⟩
  ·rw[aj z];exact h.row c hc
 ·by_cases z:b=a
  ·subst z;rw[updM_same]at e;cases e;exact .inr (.inr (.inl ⟨row,rfl⟩))
  ·rw[aj z]at e;rcases h.pin b u e with q|q|q|⟨bs,q1,q2⟩
   ·exact .inl q
   ·exact .inr (.inl q)
   ·exact .inr (.inr (.inl q))
   ·refine .inr (.inr (.inr ⟨bs,q1,fun c hc=>⟨(q2 c hc).1,?_⟩⟩))
    by_cases z:c=a
    ·subst z;exact⟨_,updM_same⟩
    ·rw[aj z];exact(q2 c hc).2
theorem fk.put {M0 M:Mh}{r:ap}{as:List ap}{n ways:Nat}(h:fk M0 M r as n ways) {a:ap}(ha:M a=none) {row:List Int}(o:fO n ways row) {i:Nat}(hi:i<n):fk M0 (aw (aw M a (.lst (row.map .int))) r (.lst ((as.map .ptr).set i (.ptr a)))) r (as.set i a) n ways :=by
 have nr:a≠r:=fun z=>by rw[z,h.rm]at ha;cases ha
 have a0:M0 a=none :=by
  cases e:M0 a with
  |none=>rfl
  |some u=>rw[h.kp a u e]at ha;cases ha
 have Rq:a ∉ as:=fun z=>by obtain⟨row,e,_⟩:=h.row a z;rw[ha]at e;cases e
 refine⟨.upd h.r0 (.upd a0 h.kp),h.r0,by rw[updM_same,List.map_set],fun c hc=>?_,by rw[OL];exact h.len,fun c hc=>?_,fun b u e=>?_⟩
 ·rcases TF hc with z|z
  ·exact h.fr c z
  ·rw[z];exact⟨a0,nr⟩
 ·rcases TF hc with z|z
  ·have n1:=(h.fr c z).2;have n2:c≠a:=fun e=>Rq (e▸z)
   rw[aj n1,aj n2];exact h.row c z
  ·rw[z,aj nr,updM_same];exact⟨row,rfl,o⟩
 ·by_cases z:b=r
  ·exact .inr (.inl z)
  ·rw[aj z]at e;by_cases z2:b=a
   ·subst z2;rw[updM_same]at e;cases e;exact .inr (.inr (.inl ⟨row,rfl⟩))
   ·rw[aj z2]at e;rcases h.pin b u e with q|q|q|⟨bs,q1,q2⟩
    ·exact .inl q
    ·exact .inr (.inl q)
    ·exact .inr (.inr (.inl q))
    ·refine .inr (.inr (.inr ⟨bs,q1,fun c hc=>⟨(q2 c hc).1,?_⟩⟩))
     rw[aj (q2 c hc).1];by_cases z:c=a
     ·subst z;exact⟨_,updM_same⟩
     ·rw[aj z];exact(q2 c hc).2
structure oo (M0 M:Mh):Prop where
 kp:Keeps M0 M
 pin:∀b o,M b=some o->M0 b=some o\/(∃row:List Int,o=.lst (row.map .int))\/∃bs:List ap,o=.lst (bs.map .ptr)/\∀c∈bs,∃o,M c=some o
theorem oo.refl {M0:Mh}:oo M0 M0:=⟨.refl,fun b o e=>.inl e⟩
theorem fm {M0 M:Mh}(h:Keeps M0 M) {a:ap}(ha:M a=none):M0 a=none :=by
 cases e:M0 a with
 |none=>rfl
 |some u=>rw[h a u e]at ha;cases ha
theorem oo.row {M0 M:Mh}(h:oo M0 M) {a:ap}(ha:M a=none) (row:List Int):oo M0 (aw M a (.lst (row.map .int))) :=by
 refine⟨.upd (fm h.kp ha) h.kp,fun b o e=>?_⟩
 by_cases z:b=a
 ·subst z;rw[updM_same]at e;cases e;exact .inr (.inl ⟨row,rfl⟩)
 ·rw[aj z]at e;rcases h.pin b o e with q|q|⟨bs,q1,q2⟩
  ·exact .inl q
  ·exact .inr (.inl q)
  ·refine .inr (.inr ⟨bs,q1,fun c hc=>?_⟩)
   by_cases z:c=a
   ·subst z;exact⟨_,updM_same⟩
   ·rw[aj z];exact q2 c hc
theorem RN {g:cN}{te:aM}{n:Nat}{M1:Mh}(T:az->Prop) {ds:List Dv}{τ:az}{Q:List Dv->Mh->Prop}(h0:T τ) (h:∀d∈ds,∀τ,T τ->∀R:az->ZK,(∀(x:Int) aA,0<=x->x<(n:Int)->T aA->R aA (.int x) M1)->g d τ M1 fun aA M2=>te aA M2 (R aA)) (q:∀row:List Int,row.length=ds.length->(∀x∈row,0<=x/\x<(n:Int))->Q (row.map .int) M1):fU g zNoIf te ds τ M1 Q :=by
 refine kN (acc:=[]) (fun acc τ M=>∃row:List Int,acc=row.map Dv.int/\(∀x∈row,0<=x/\x<(n:Int))/\T τ/\M=M1) ⟨[],rfl,(fun _ h=>nomatch h),h0,rfl⟩ (fun i d acc τ M hd _ ⟨row,e1,hr,ht,e2⟩ R hR=>?_) (fun ys τ M hl ⟨row,e1,hr,ht,e2⟩=>?_)
 ·subst e1 e2;refine h d (im hd) τ ht R fun x aA x0 x1 t2=>hR _ _ _ ⟨row++[x],by rw[r6];rfl,fun y hy=>?_,t2,rfl⟩
  rcases xb.mp hy with z|z
  ·exact hr y z
  ·rw[lp]at z;rw[z];exact⟨x0,x1⟩
 ·rw[IT]at e1;subst e1 e2;exact q row (by simpa using hl) hr
def cn (x:Option Dv):Prop:=∀M d,x=some d->Pin M d
theorem cn.none:cn none:=fun _ _ h=>nomatch h
theorem cn.int (i:Int):cn (some (.int i)):=fun _ _ h=>by cases h;exact .int i
theorem cn.lI (ns:List Int):cn (some (fI ns)):=fun _ _ h=>by cases h;exact .lst (gT ns)
theorem qE {n d:Nat}(h:d<n):gq n (d:Int)=some d :=by unfold gq;rw[if_pos (by omega),if_pos (by omega)];rfl
theorem uS (row:List Int) (t:Nat) (x:Int):(row.map Dv.int).set t (.int x)=(row.set t x).map Dv.int :=by rw[List.map_set]
theorem fO.set {n ways:Nat}{row:List Int}(h:fO n ways row) {t:Nat}{x:Int}(x0:0<=x) (x1:x<(n:Int)):fO n ways (row.set t x):=⟨by rw[OL];exact h.1,fun y hy=>by
 rcases TF hy with z|z
 ·exact h.2 y z
 ·rw[z];exact⟨x0,x1⟩⟩
def pS (os:List Int):Dv->Int | .int j=>os.getD j.toNat 0|_=>0
theorem uT {os:List Int}{j:Nat}{x:Int}(h:cZ (os.map Dv.int) (j:Int)=some (.int x)):pS os (.int (j:Nat))=x :=by
 by_cases hj:j<os.length
 ·rw[eA (j:=j) (v:=Dv.int os[j]) (by rw[cr,ag hj];rfl)]at h
  cases h;show os.getD (U0 (j:Int)) 0=_;rw[xL,ce,ag hj];rfl
 ·unfold cZ gq at h;rw[if_pos (by omega),if_neg (by simp;omega)]at h
  cases h
def Dy (per i:Nat):Dv->Bool | .int j=>decide (j % (per:Int)=((i:Int)+1) % (per:Int))|_=>false
theorem Dz {n per i:Nat}{os:List Int}(eR:cX n os) (p1:1<=per) (pn:per<=n):∃gs:List Int,((dw 0 n).filter (Dy per i)).map (fun d=>Dv.int (pS os d))=gs.map Dv.int/\1<=gs.length/\gs.length<=n/\∀x∈gs,0<=x/\x<(n:Int) :=by
 refine⟨((dw 0 n).filter (Dy per i)).map (pS os),by rw[AL];rfl,?_,?_,fun x hx=>?_⟩
 ·rw[cb];refine List.length_pos_of_mem (a:=Dv.int (((i+1) % per:Nat):Int)) (Ut.mpr ⟨?_,?_⟩)
  ·have:(i+1) % per<per:=SR _ (by omega)
   exact im (i:=(i+1) % per) (by rw[dw,cr,JJ (by omega)];simp)
  ·show decide _=true;rw[decide_eq_true_eq];push_cast
   exact Int.emod_emod_of_dvd _ (Int.dvd_refl _)
 ·rw[cb];exact sw (List.length_filter_le _ _) (by rw[rangeD_len];exact bv _)
 ·obtain⟨d,hd,rfl⟩:=kt.mp hx;obtain⟨j,hj,rfl⟩:=pH (Ut.mp hd).1;rw[OF];obtain⟨gx,EY,g0,g1⟩:=eR.at hj;rw[uT EY];exact⟨g0,g1⟩
structure gH (M0 M:Mh) (r:ap) (as:List ap) (n:Nat) (L:Nat->Nat):Prop where
 own:oo M0 M
 r0:M0 r=none
 rm:M r=some (.lst (as.map .ptr))
 fr:∀a∈as,M0 a=none/\a≠r
 nd:as.Nodup
 len:as.length=n
 rows:∀i a,as[i]?=some a->∃row:List Int,M a=some (.lst (row.map .int))/\fO n (L i) row
 ptr:∀b bs,M b=some (.lst (bs.map .ptr))->b=r\/M0 b=some (.lst (bs.map .ptr))\/bs=[]
theorem gH.set {M0 M:Mh}{r:ap}{as:List ap}{n:Nat}{L:Nat->Nat}(h:gH M0 M r as n L) {i:Nat}{a:ap}(ha:as[i]?=some a) {row:List Int}{m:Nat}(o:fO n m row):gH M0 (aw M a (.lst (row.map .int))) r as n fun j=>if j=i then m else L j :=by
 have hm:=im ha;obtain⟨f0,f1⟩:=h.fr a hm;refine⟨⟨.upd f0 h.own.kp,fun b o e=>?_⟩,h.r0,by rw[aj (EO f1)];exact h.rm,h.fr,h.nd,h.len,fun j c hc=>?_,fun b bs e=>?_⟩
 ·by_cases z:b=a
  ·subst z;rw[updM_same]at e;cases e;exact .inr (.inl ⟨row,rfl⟩)
  ·rw[aj z]at e;rcases h.own.pin b o e with q|q|⟨bs,q1,q2⟩
   ·exact .inl q
   ·exact .inr (.inl q)
   ·refine .inr (.inr ⟨bs,q1,fun c hc=>?_⟩)
    by_cases z:c=a
    ·subst z;exact⟨_,updM_same⟩
    ·rw[aj z];exact q2 c hc
 ·by_cases z:j=i
  ·subst z;rw[ha]at hc;cases hc;exact⟨row,updM_same,by rw[if_pos rfl];exact o⟩
  ·have Rr:c≠a:=fun e=>z (by
    subst e;obtain⟨h1,e1⟩:=br.mp ha;obtain⟨h2,e2⟩:=br.mp hc;rcases Nat.lt_trichotomy j i with q|q|q
    ·exact absurd (e2.trans e1.symm) (GG.mp h.nd j i h2 h1 q)
    ·exact q
    ·exact absurd (e1.trans e2.symm) (GG.mp h.nd i j h1 h2 q))
   rw[aj Rr,if_neg z];exact h.rows j c hc
 ·by_cases z:b=a
  ·subst z;rw[updM_same]at e;cases row with
   |nil=>cases bs with
    |nil=>exact .inr (.inr rfl)
    |cons c bs=>simp at e
   |cons x row=>cases bs with
    |nil=>exact .inr (.inr rfl)
    |cons c bs=>simp at e
  ·rw[aj z]at e;exact h.ptr b bs e
theorem gH.full {M0 M:Mh}{r:ap}{as:List ap}{n ways:Nat}{L:Nat->Nat}(h:gH M0 M r as n L) (hL:∀i,i<n->L i=ways):fk M0 M r as n ways :=by
 refine⟨h.own.kp,h.r0,h.rm,h.fr,h.len,fun a ha=>?_,fun b o e=>?_⟩
 ·obtain⟨i,hi⟩:=r9.mp ha;obtain⟨row,e,o⟩:=h.rows i a hi;rw[hL i (by rw[<- h.len];exact(br.mp hi).1)]at o
  exact⟨row,e,o⟩
 ·rcases h.own.pin b o e with q|q|⟨bs,rfl,q2⟩
  ·exact .inl q
  ·exact .inr (.inr (.inl q))
  ·rcases h.ptr b bs e with z|z|z
   ·exact .inr (.inl z)
   ·exact .inl z
   ·subst z;exact .inr (.inr (.inl ⟨[],rfl⟩))
theorem gH.yH {M0 M:Mh}{r:ap}{as:List ap}{n:Nat}{L L':Nat->Nat}(h:gH M0 M r as n L) (e:∀i,i<n->L i=L' i):gH M0 M r as n L':=
 ⟨h.own,h.r0,h.rm,h.fr,h.nd,h.len,fun i a ha=>by
  have:=h.rows i a ha;rwa [e i (by rw[<- h.len];exact(br.mp ha).1)]at this,h.ptr⟩
theorem cX.nodup {n:Nat}{os:List Int}(h:cX n os):os.Nodup :=by
 refine h.perm.nodup_iff.mpr ?_;exact Vh.mpr (Vr.imp fun h e=>h (by omega))
theorem cX.prev {n:Nat}{os:List Int}(h:cX n os) {k:Nat}(hk:k<n):∃p:Nat,cZ (os.map Dv.int) ((k:Int) - 1)=some (.int (p:Nat))/\p<n :=by
 have hl:=h.len;obtain⟨j,hj,e⟩:∃j:Nat,j<n/\gq n ((k:Int) - 1)=some j :=by
  unfold gq;by_cases z:k=0
  ·exact⟨n - 1,by omega,by rw[if_neg (by omega),if_pos (by omega)];congr 1;omega⟩
  ·exact⟨k - 1,by omega,by rw[if_pos (by omega),if_pos (by omega)];congr 1;omega⟩
 have mE:j<os.length :=by omega
 obtain⟨g0,g1⟩:=h.mem (DD mE);refine⟨os[j].toNat,?_,by omega⟩
 unfold cZ;rw[cb,hl,e];show (os.map Dv.int)[j]?=_;rw[cr,ag mE];show some (Dv.int os[j])=_;congr 2
 omega
theorem Gr (x:Int) (k:Nat):(lv k [Dv.int x]).flatten=(lv k x).map Dv.int :=by
 induction k with
 |zero=>rfl
 |succ k ih=>rw[sB,Nd,ih,sB];rfl
theorem yI {f f1 f2:ap}{fd cF fd2:rc}(D:Df K mg "_law_net" dZ ["_law_bag_here","_law_most"] f fd)
  (ah:Df K mg "_law_take" dB ["_law_bag_here","_law_many"] f1 cF) (bf:FnOk P w K mg base bF 1 f1 cF ["_law_bag_here","_law_many"] (aX P w K tb pQ))
  (dP:Df K mg "_law_order" gF ["_law_bag_here","_law_many"] f2 fd2) (uU:FnOk P w K mg base bF 2 f2 fd2 ["_law_bag_here","_law_many"] (aX P w K tb BA)) (bl:Bl mg):FnOk P w K mg base bF 3 f fd ["_law_bag_here","_law_most"] (aX P w K tb ER) :=by
 refine gC D bc (fun ds M Q E hS=>by obtain⟨b,n,e,_⟩:=hS;rw[e];rfl) fun A outer s E Γ ds Q' E' hP hw hK ht hr hS=>?_
 obtain⟨b,most,e,hb,h1,h9,q⟩:=hS;refine⟨_,(af (aD (i:=2) bc.nd rfl (l6 rfl) (aN gB aq (aB bf (hr.mono (by decide)) rfl ah.mg ah.fn.kp ah.bd bE hP hw hK ht XR.none (aa (qv 0) (aa (qv 1) ae)))))
  (af (aD (i:=3) bc.nd rfl (l6 rfl) (aN gB aq (aB bf (hr.mono (by decide)) rfl ah.mg ah.fn.kp ah.bd bE hP hw hK ht XR.none (aa (qv 0) (aa aq ae)))))
  (af (aD (i:=4) bc.nd rfl (l6 rfl) (aB bf (hr.mono (by decide)) rfl ah.mg ah.fn.kp ah.bd bE hP hw hK ht XR.none (aa (qv 0) (aa aq ae))))
  (af (aD (i:=5) bc.nd rfl (Td rfl) aq)
  (af (dg (bL qt (qv 4) aq (bM _))
   (af (aD (i:=5) bc.nd rfl (Td rfl) (aK (ux rfl) rfl bl.min_ tO (aa (aN gB aq (aB bf (hr.mono (by decide)) rfl ah.mg ah.fn.kp ah.bd bE hP hw hK ht XR.none (aa (qv 0) (aa aq ae)))) (aa (qv 2) ae))))
  (ao (aD (i:=2) bc.nd rfl (l6 rfl) (aN iK (aN JE (qv 2) (qv 5)) (qv 5)))))
   qss_nil)
  (af (aD (i:=6) bc.nd rfl (Td rfl) (aB uU (hr.mono (by decide)) rfl dP.mg dP.fn.kp dP.bd bE hP hw hK ht XR.none (aa (qv 0) (aa (qv 2) ae))))
  (af (vE (i:=7) bc.nd rfl rfl (N':=["_law_place"]) (tn:=1) (idx:=[]) rfl (show aT ["_law_bag_here","_law_most","_law_many","_law_fans","_law_kind","_law_lap","_law_order_here","_law_rows","_law_k","_law_goals","_law_fan"] (au dZ) _ ["_law_place"] 1 [] from by decide +kernel) (cE rfl bl.range_ (aa (qv 2) ae)) (fun _ _ _ _ _=>(aH (i:=0) (show P3 [("_law_place" : db)] from by decide +kernel) rfl (l6 rfl))) (fun _ _ _ _ _=>fe) (fun _ _ _ _ _=>(gQ ae)))
  (af (bW qr rfl (cE rfl bl.range_ (aa (qv 2) ae)) (fun gm eP ew eK et=>by have hP:=hP.trans eP.symm;have hw:=hw.trans ew.symm;have hK:=hK.trans eK.symm;have ht:=ht.trans et.symm;exact⟨(aH (i:=8) bc.nd rfl (Td rfl)),(af (yx (i:=9) bc.nd rfl rfl (N':=["_law_j","_law_order_here","_law_lap","_law_k"]) (tn:=1) (idx:=[6,5,8]) rfl (show aT ["_law_bag_here","_law_most","_law_many","_law_fans","_law_kind","_law_lap","_law_order_here","_law_rows","_law_k","_law_goals","_law_fan"] (au dZ) _ ["_law_j","_law_order_here","_law_lap","_law_k"] 1 [6,5,8] from by decide +kernel) (cE rfl bl.range_ (aa (qv 2) ae)) (fun _ _ _ _ _=>(aH (i:=0) (show P3 [("_law_j" : db),("_law_order_here" : db),("_law_lap" : db),("_law_k" : db)] from by decide +kernel) rfl (l6 rfl))) (fun _ _ _ _ _=>(FY (bL qt (aN jH (qv 0) (qv 2)) (aN jH (aN gB (qv 3) aq) (qv 2)) (bM _)))) (fun _ _ _ _ _=>(cQ (eY (K:=K) rfl) (qv 1) (qv 0) (fun _ _=>rfl))))
  (ao (bW qr rfl (cE rfl bl.range_ (aa (qv 3) ae)) (fun gm eP ew eK et=>by have hP:=hP.trans eP.symm;have hw:=hw.trans ew.symm;have hK:=hK.trans eK.symm;have ht:=ht.trans et.symm;exact⟨(aH (i:=10) bc.nd rfl (l6 rfl)),(ao (eB (iL (K:=K) rfl AE SE SF kI (cQ (eY (K:=K) rfl) (qv 7) (cQ (eY (K:=K) rfl) (qv 6) (qv 8) (fun _ _=>rfl)) (fun _ _=>rfl)) (aa (cQ (eY (K:=K) rfl) (qv 9) (aB bf (hr.mono (by decide)) rfl ah.mg ah.fn.kp ah.bd bE hP hw hK ht XR.none (aa (qv 0) (aa (aK (fg (K:=K) rfl hK) rfl bl.len_ CS (aa (qv 9) ae)) ae))) (fun _ _=>rfl)) ae))))⟩))))⟩))
  (af (dg (bL JF (qv 4) aq (bM _))
   (ao (bW qr rfl (cE rfl bl.range_ (aa (qv 2) ae)) (fun gm eP ew eK et=>by have hP:=hP.trans eP.symm;have hw:=hw.trans ew.symm;have hK:=hK.trans eK.symm;have ht:=ht.trans et.symm;exact⟨(aH (i:=8) bc.nd rfl (Td rfl)),(ao (j4 (cQ (eY (K:=K) rfl) (qv 6) (qv 8) (fun _ _=>rfl)) (mC (cQ (eY (K:=K) rfl) (qv 7) (cQ (eY (K:=K) rfl) (qv 6) (aN pE (qv 8) aq) (fun _ _=>rfl)) (fun _ _=>rfl)) (aB bf (hr.mono (by decide)) rfl ah.mg ah.fn.kp ah.bd bE hP hw hK ht XR.none (aa (qv 0) (aa (qv 3) ae))))))⟩)))
   qss_nil)
  (af (dg (bL qt (qv 4) aq (bM _))
   (af (bW qr rfl (cE rfl bl.range_ (aa (qv 2) ae)) (fun gm eP ew eK et=>by have hP:=hP.trans eP.symm;have hw:=hw.trans ew.symm;have hK:=hK.trans eK.symm;have ht:=ht.trans et.symm;exact⟨(aH (i:=8) bc.nd rfl (Td rfl)),(ao (j4 (aN JX (j1 (aa (cQ (eY (K:=K) rfl) (qv 6) (qv 8) (fun _ _=>rfl)) ae)) (qv 3)) (mC (qv 7) (cQ (eY (K:=K) rfl) (qv 6) (aN pE (qv 8) aq) (fun _ _=>rfl)))))⟩))
  (ao (j4 (aB bf (hr.mono (by decide)) rfl ah.mg ah.fn.kp ah.bd bE hP hw hK ht XR.none (aa (qv 0) (aa (qv 2) ae))) (mC (cQ (eY (K:=K) rfl) (qv 7) aq (fun _ _=>rfl)) aq))))
   qss_nil)
  (ao (uE 7 rfl (bb (gi (qu (K:=K) rfl) rfl bl.tuple_ fS (aa (eC (N':=["_law_row"]) (tn:=1) (idx:=[]) rfl (show aT ["_law_bag_here","_law_most","_law_many","_law_fans","_law_kind","_law_lap","_law_order_here","_law_rows","_law_k","_law_goals","_law_fan"] (au dZ) _ ["_law_row"] 1 [] from by decide +kernel) (gR (K:=K) rfl (qv 7)) (fun _ _ _ _ _=>(aH (i:=0) (show P3 [("_law_row" : db)] from by decide +kernel) rfl (l6 rfl))) (fun _ _ _ _ _=>fe) (fun _ _ _ _ _=>(gi (qu (K:=K) rfl) rfl bl.tuple_ fS (aa (qv 0) ae)))) ae))))))))))))))),?_⟩
 subst e;have big:(100:Nat)<sizeLine :=by decide
 refine L7 (fun ρ M=>M=Γ.M0/\∃(n ways kind cJ:Nat),ρ=[some (.ptr b),some (.int (most:Nat)),some (.int (n:Nat)),some (.int (ways:Nat)),some (.int (kind:Nat)),some (.int (cJ:Nat)),none,none,none,none,none]/\1<=n/\n<=most/\(ways=2\/ways=3)/\1<=cJ/\cJ<=n) (fun N hN=>?_) ?_
 ·simp! only[];refine⟨b,_,rfl,hb,by omega,by omega,fun m hm=>?_⟩
  obtain⟨n,hn⟩:∃n:Nat,(1+(m:Int))=(n:Nat):=⟨1+m,by omega⟩
  have n1:1<=n :=by omega
  have n9:n<=most :=by omega
  simp! only[hn];refine⟨b,_,rfl,hb,by omega,by omega,fun v hv=>?_⟩
  obtain⟨ways,Mb⟩:∃ways:Nat,(2+(v:Int))=(ways:Nat):=⟨2+v,by omega⟩
  have w2:ways=2\/ways=3 :=by omega
  simp! only[Mb];refine⟨b,_,rfl,hb,by omega,by omega,fun kind sy=>?_⟩
  simp! only[];refine gD (fun h=>?_) (fun h=>hN _ _ ⟨rfl,n,ways,kind,1,rfl,n1,n9,w2,by omega,n1⟩)
  refine⟨b,_,rfl,hb,by omega,by omega,fun t ht=>?_⟩
  obtain⟨cJ,Pw,l1,ln⟩:∃cJ:Nat,(if (n:Int)<2+(t:Int) then (n:Int) else 2+(t:Int))=(cJ:Nat)/\1<=cJ/\cJ<=n :=by
   by_cases z:(n:Int)<2+(t:Int)
   ·exact⟨n,by rw[if_pos z],n1,bv _⟩
   ·exact⟨2+t,by rw[if_neg z];omega,by omega,by omega⟩
  simp only[Pw];have en:(n:Int) / (cJ:Int) * (cJ:Int)=((n / cJ * cJ:Nat):Int) :=by push_cast;rfl
  have d1:n / cJ * cJ<=n:=Nat.div_mul_le_self n cJ;have d2:cJ<=n / cJ * cJ :=by
   have:1<=n / cJ:=Nat.div_pos ln (by omega)
   exact Nat.le_mul_of_pos_left cJ this
  rw[en];exact⟨⟨by omega,by omega⟩,.inr ⟨by omega,by omega⟩,hN _ _ ⟨rfl,n / cJ * cJ,ways,kind,cJ,rfl,by omega,by omega,w2,l1,d2⟩⟩
 rintro ρ M ⟨rfl,n,ways,kind,cJ,rfl,n1,n9,w2,l1,ln⟩;refine L5 (fun ρ M=>∃(r:ap) (as:List ap) (os:List Int) (x8 x9 iw:Option Dv),(cn x8/\cn x9/\cn iw)/\ρ=[some (.ptr b),some (.int (most:Nat)),some (.int (n:Nat)),some (.int (ways:Nat)),some (.int (kind:Nat)),some (.int (cJ:Nat)),some (fI os),some (.ptr r),x8,x9,iw]/\fk Γ.M0 M r as n ways/\cX n os) (fun N hN=>?_) ?_
 ·simp! only[];refine⟨b,n,rfl,hb,by omega,fun os eR=>?_⟩
  have lM:=eR.len;simp! only[];refine⟨by omega,by omega,by omega,kN (acc:=[]) (fun acc τ M=>∃as:List ap,acc=as.map Dv.ptr/\(∃x,τ=[x])/\oo Γ.M0 M/\as.Nodup/\(∀a∈as,Γ.M0 a=none/\M a=some (.lst []))/\∀c (bs:List ap),M c=some (.lst (bs.map .ptr))->Γ.M0 c=some (.lst (bs.map .ptr))\/bs=[]) ⟨[],rfl,⟨_,rfl⟩,.refl,.nil,(fun _ h=>nomatch h),fun c bs e=>.inl e⟩ (fun i d acc τ M hd _ hJ R hR=>?_) (fun ys τ M hl hJ=>?_)⟩
  ·obtain⟨as,rfl,⟨x,rfl⟩,hO,Kf,ha,hp⟩:=hJ;simp! only[];refine⟨by omega,fun a hn=>hR _ _ _ ⟨as++[a],by rw[r6];rfl,⟨_,rfl⟩,hO.row hn [],?_,fun c hc=>?_,fun c bs e=>?_⟩⟩
   ·rw[S0];refine⟨Kf,by simp,fun x hx y hy e=>?_⟩
    rw[lp]at hy;subst e hy;rw[(ha _ hx).2]at hn;cases hn
   ·rcases xb.mp hc with z|z
    ·obtain⟨q1,q2⟩:=ha c z;have ne:c≠a:=fun q=>by rw[q,hn]at q2;cases q2
     exact⟨q1,by rw[aj ne];exact q2⟩
    ·rw[lp]at z;subst z;exact⟨fm hO.kp hn,updM_same⟩
   ·by_cases z:c=a
    ·subst z;rw[updM_same]at e;cases bs with
     |nil=>exact .inr rfl
     |cons y bs=>simp at e
    ·rw[aj z]at e;exact hp c bs e
  ·obtain⟨as,e1,⟨x,rfl⟩,hO,Kf,ha,hp⟩:=hJ;rw[IT]at e1;subst e1;intro r rR;have Px:as.length=n :=by simpa[rangeD_len] using hl
   have ne:∀{c o},M c=some o->c≠r:=fun e z=>by rw[z,rR]at e;cases e
   have RF:gH Γ.M0 (aw M r (.lst (as.map .ptr))) r as n fun _=>0 :=by
    refine⟨⟨.upd (fm hO.kp rR) hO.kp,fun c o e=>?_⟩,fm hO.kp rR,updM_same,fun a h=>⟨(ha a h).1,ne (ha a h).2⟩,Kf,Px,fun i a h=>?_,fun c bs e=>?_⟩
    ·by_cases z:c=r
     ·subst z;rw[updM_same]at e;cases e;exact .inr (.inr ⟨as,rfl,fun a h=>⟨_,by rw[aj (ne (ha a h).2)];exact(ha a h).2⟩⟩)
     ·rw[aj z]at e;rcases hO.pin c o e with q|q|⟨bs,q1,q2⟩
      ·exact .inl q
      ·exact .inr (.inl q)
      ·refine .inr (.inr ⟨bs,q1,fun y hy=>?_⟩)
       obtain⟨u,hu⟩:=q2 y hy;exact⟨u,by rw[aj (ne hu)];exact hu⟩
    ·have hm:=ha a (im h);exact⟨[],by rw[aj (ne hm.2)];exact hm.2,rfl,fun _ h=>nomatch h⟩
    ·by_cases z:c=r
     ·exact .inl z
     ·rw[aj z]at e;exact .inr (hp c bs e)
   refine⟨by omega,by omega,?_⟩
   refine aU (fun i ρ M=>∃x8 x9 iw,(cn x8/\cn x9/\cn iw)/\ρ=[some (.ptr b),some (.int (most:Nat)),some (.int (n:Nat)),some (.int (ways:Nat)),some (.int (kind:Nat)),some (.int (cJ:Nat)),some (fI os),some (.ptr r),x8,x9,iw]/\gH Γ.M0 M r as n (fun j=>if ((j:Nat):Int)∈os.take i then ways else 0))
    ⟨_,_,_,⟨.none,.none,.none⟩,rfl,RF.yH fun i _=>by simp⟩ (fun i d ρ M N2 hd hJ iu=>?_) (fun ρ M hJ=>?_)
   ·obtain⟨x8,x9,iw,⟨p8,p9,rU⟩,rfl,RF⟩:=hJ;obtain⟨rfl,hi⟩:=cV hd;have ig:i<os.length :=by omega
    obtain⟨g0,g1⟩:=eR.mem (DD ig);obtain⟨pk,BC⟩:=T5 g0;have NT:pk<n :=by omega
    have gw:cZ (os.map Dv.int) ((i:Nat):Int)=some (.int (pk:Nat)):=eA (by rw[cr,ag ig,BC];rfl)
    have Kg:pk<as.length :=by omega
    have Rt:cZ (as.map Dv.ptr) ((pk:Nat):Int)=some (.ptr as[pk]):=eA (by rw[cr,ag Kg];rfl)
    have NU:as[pk]?=some as[pk]:=ag Kg;have Py:((pk:Nat):Int) ∉ os.take i:=fun z=>by
     obtain⟨j,hj,e⟩:=UJ.mp z;rw[List.getElem_take,<- BC]at e;rw[FM]at hj;exact GG.mp eR.nodup j i (by omega) ig (by omega) e
    simp! only[];refine⟨by omega,by omega,by omega,qA (Dy cJ i) (fun d=>.int (pS os d)) (fun τ M'=>(∃x,τ=[x,some (fI os),some (.int (cJ:Nat)),some (.int (i:Nat))])/\M'=M) ⟨⟨_,rfl⟩,rfl⟩ (fun d hd τ M' hI R0 R h1 h2=>?_) (fun τ M' hI=>?_)⟩
    ·obtain⟨⟨x,rfl⟩,rfl⟩:=hI;obtain⟨j,hj,rfl⟩:=pH hd;simp only[OF]at h1 h2 ⊢;obtain⟨gx,EY,g0,g1⟩:=eR.at hj;have hg:pS os (.int (j:Nat))=gx:=uT EY;simp! only[EY];refine⟨by omega,by omega,gD (fun h=>?_) (fun h=>?_)⟩
     ·rw[hg]at h1;exact h1 h _ _ ⟨⟨_,rfl⟩,rfl⟩
     ·exact h2 h _ _ ⟨⟨_,rfl⟩,rfl⟩
    ·obtain⟨⟨x,rfl⟩,rfl⟩:=hI;obtain⟨gs,Ru,Ss,Su,Rv⟩:=Dz (i:=i) eR (per:=cJ) (by omega) (by omega)
     rw[Ru];refine⟨by omega,by omega,?_⟩
     refine aU (fun f ρ M=>(∃iw,cn iw/\ρ=[some (.ptr b),some (.int (most:Nat)),some (.int (n:Nat)),some (.int (ways:Nat)),some (.int (kind:Nat)),some (.int (cJ:Nat)),some (fI os),some (.ptr r),some (.int (i:Nat)),some (fI gs),iw])/\gH Γ.M0 M r as n (fun j=>if j=pk then f else if ((j:Nat):Int)∈os.take i then ways else 0))
      ⟨⟨_,rU,rfl⟩,RF.yH fun j _=>by
       by_cases z:j=pk
       ·subst z;rw[if_neg Py,if_pos rfl]
       ·rw[if_neg z]⟩ (fun f d ρ M N3 hd hJ uV=>?_) (fun ρ M hJ=>?_)
     ·obtain⟨⟨iw,rU,rfl⟩,RF⟩:=hJ;obtain⟨rfl,hf⟩:=cV hd;obtain⟨row,em,ro⟩:=RF.rows pk _ NU;rw[if_pos rfl]at ro;simp! only[gw,RF.rm,Rt,em];refine⟨b,_,rfl,RF.own.kp _ _ hb,by omega,by omega,fun t ht=>?_⟩
      have Kh:t<gs.length :=by omega
      simp only[show cZ (gs.map Dv.int) (t:Int)=some (.int gs[t]) from eA (by rw[cr,ag Kh];rfl),em,cb,ro.1]
      have Rw:=Rv _ (DD Kh);have er:row.map Dv.int++[Dv.int gs[t]]=(row++[gs[t]]).map Dv.int :=by rw[r6];rfl
      rw[er];refine⟨by omega,uV _ _ ⟨⟨_,.int _,rfl⟩,(RF.set NU (row:=row++[gs[t]]) (m:=f+1) ⟨by rw[rf,ro.1];rfl,fun y hy=>?_⟩).yH fun j _=>?_⟩⟩
      ·rcases xb.mp hy with z|z
       ·exact ro.2 y z
       ·rw[lp.mp z];exact Rw
      ·by_cases z:j=pk
       ·rw[if_pos z,if_pos z]
       ·rw[if_neg z,if_neg z,if_neg z]
     ·obtain⟨⟨iw,rU,rfl⟩,RF⟩:=hJ;rw[rangeD_len]at RF;refine iu _ _ ⟨_,_,_,⟨.int _,.lI gs,rU⟩,rfl,RF.yH fun j _=>?_⟩
      have qh:((j:Nat):Int)∈os.take (i+1) ↔ ((j:Nat):Int)∈os.take i\/j=pk :=by
       rw[List.take_add_one,xb,ag ig,BC];constructor
       ·rintro (z|z)
        ·exact .inl z
        ·have:((j:Nat):Int)=(pk:Nat) :=by simpa using z
         exact .inr (by omega)
       ·rintro (z|z)
        ·exact .inl z
        ·exact .inr (by simp[z])
      by_cases z:j=pk
      ·rw[if_pos z,if_pos (qh.mpr (.inr z))]
      ·rw[if_neg z];by_cases y:((j:Nat):Int)∈os.take i
       ·rw[if_pos y,if_pos (qh.mpr (.inl y))]
       ·rw[if_neg y,if_neg (fun q=>(qh.mp q).elim y z)]
   ·obtain⟨x8,x9,iw,⟨p8,p9,rU⟩,rfl,RF⟩:=hJ;rw[rangeD_len]at RF;refine hN _ _ ⟨r,as,os,_,_,_,⟨p8,p9,rU⟩,rfl,RF.full fun j hj=>?_,eR⟩
    rw[KM (by omega),if_pos (eR.perm.mem_iff.mpr (kt.mpr ⟨j,u4.mpr hj,rfl⟩))]
 rintro ρ M ⟨r,as,os,x8,x9,iw,⟨p8,p9,rU⟩,rfl,RM,eR⟩;have lM:=eR.len;have Ki:∀{as:List ap} {M:Mh} {p:Nat},fk Γ.M0 M r as n ways->p<n->∃a,cZ (as.map Dv.ptr) ((p:Nat):Int)=some (.ptr a)/\a∈as:=fun {as M p} RM hp=>by
  have hl:p<as.length :=by rw[RM.len];exact hp
  exact⟨as[p],eA (by rw[cr,ag hl];rfl),DD hl⟩
 refine ED (fun ρ M=>∃(as:List ap) (x8:Option Dv),cn x8/\ρ=[some (.ptr b),some (.int (most:Nat)),some (.int (n:Nat)),some (.int (ways:Nat)),some (.int (kind:Nat)),some (.int (cJ:Nat)),some (fI os),some (.ptr r),x8,x9,iw]/\fk Γ.M0 M r as n ways) (fun N hN=>?_) ?_
 ·simp! only[];refine gD (fun h=>⟨by omega,by omega,?_⟩) (fun _=>hN _ _ ⟨as,_,p8,rfl,RM⟩)
  refine aU (fun i ρ M=>∃(as:List ap) (x8:Option Dv),cn x8/\ρ=[some (.ptr b),some (.int (most:Nat)),some (.int (n:Nat)),some (.int (ways:Nat)),some (.int (kind:Nat)),some (.int (cJ:Nat)),some (fI os),some (.ptr r),x8,x9,iw]/\fk Γ.M0 M r as n ways) ⟨as,_,p8,rfl,RM⟩ (fun i d ρ M N2 hd hJ iu=>?_) (fun ρ M hJ=>hN _ _ hJ)
  obtain⟨as,x8,p8,rfl,RM⟩:=hJ;obtain⟨rfl,hi⟩:=cV hd;obtain⟨p,hp,pn⟩:=eR.prev hi;obtain⟨g,hg,g0,g1⟩:=eR.at hi;obtain⟨a,ea,ha⟩:=Ki RM pn;obtain⟨row,em,ro⟩:=RM.row a ha;simp! only[hg,hp,RM.rm,ea];refine⟨b,_,rfl,RM.kp _ _ hb,by omega,by omega,fun t ht=>?_⟩
  simp only[em,cb,ro.1,qE (show t<ways by omega)]
  rw[uS];exact iu _ _ ⟨as,_,.int _,rfl,RM.tY ha (ro.set g0 g1)⟩
 rintro ρ M ⟨as,x8,p8,rfl,RM⟩;refine ED (fun ρ M=>∃(as:List ap) (x8:Option Dv),cn x8/\ρ=[some (.ptr b),some (.int (most:Nat)),some (.int (n:Nat)),some (.int (ways:Nat)),some (.int (kind:Nat)),some (.int (cJ:Nat)),some (fI os),some (.ptr r),x8,x9,iw]/\fk Γ.M0 M r as n ways) (fun N hN=>?_) ?_
 ·simp! only[];refine gD (fun h=>⟨by omega,by omega,?_⟩) (fun _=>hN _ _ ⟨as,_,p8,rfl,RM⟩)
  refine aU (fun i ρ M=>∃(as:List ap) (x8:Option Dv),cn x8/\ρ=[some (.ptr b),some (.int (most:Nat)),some (.int (n:Nat)),some (.int (ways:Nat)),some (.int (kind:Nat)),some (.int (cJ:Nat)),some (fI os),some (.ptr r),x8,x9,iw]/\fk Γ.M0 M r as n ways) ⟨as,_,p8,rfl,RM⟩ (fun i d ρ M N2 hd hJ iu=>?_) (fun ρ M hJ=>?_)
  ·obtain⟨as,x8,p8,rfl,RM⟩:=hJ;obtain⟨rfl,hi⟩:=cV hd;obtain⟨p,hp,pn⟩:=eR.prev hi;obtain⟨g,hg,g0,g1⟩:=eR.at hi;simp! only[hg,hp];refine⟨by omega,⟨by omega,by omega,by omega⟩,fun a rA=>?_⟩
   have nr:r≠a:=fun z=>by rw[<- z,RM.rm]at rA;cases rA
   rw[Gr];simp only[aj nr,RM.rm,cb,RM.len,qE pn];exact iu _ _ ⟨_,_,.int _,rfl,RM.put rA ⟨by rw[S4],fun x hx=>by rw[List.eq_of_mem_replicate hx];exact⟨g0,g1⟩⟩ pn⟩
  ·obtain⟨as,x8,p8,rfl,RM⟩:=hJ;obtain⟨a,ea,ha⟩:=Ki RM (p:=0) (by omega)
   have ea:cZ (as.map Dv.ptr) 0=some (.ptr a):=ea;obtain⟨row,em,ro⟩:=RM.row a ha;simp! only[];refine⟨b,_,rfl,RM.kp _ _ hb,by omega,by omega,fun t ht=>?_⟩
   simp! only[RM.rm,ea,em,ro.1,show gq ways 0=some 0 from qE (d:=0) (by omega)]
   rw[uS];exact hN _ _ ⟨as,_,p8,rfl,RM.tY ha (ro.set (by omega) (by omega))⟩
 rintro ρ M ⟨as,x8,p8,rfl,RM⟩;have nb:∀{c o},Γ.M0 c=some o->c≠r:=fun e z=>by rw[z,RM.r0]at e;cases e
 have dk:Keeps Γ.M0 (bX M r):=fun c o e=>by rw[bK (nb e)];exact RM.kp c o e
 refine .inr ⟨r,_,rfl,RM.rm,RM.r0,⟨fun j d e=>?_,fun c o e=>?_⟩,?_⟩
 ·match j,e with
  |0,e=>cases e;exact .ptr (by rw[dk _ _ hb];rfl)
  |1,e=>cases e;exact .int _
  |2,e=>cases e;exact .int _
  |3,e=>cases e;exact .int _
  |4,e=>cases e;exact .int _
  |5,e=>cases e;exact .int _
  |6,e=>cases e;exact .lst (gT _)
  |7,e=>cases e;exact .lst fun d hd=>by
                obtain⟨a,ha,rfl⟩:=kt.mp hd;obtain⟨row,em,_⟩:=RM.row a ha;exact .ptr (by rw[bK (RM.fr a ha).2,em];rfl)
  |8,e=>exact p8 _ _ (i4 e)
  |9,e=>exact p9 _ _ (i4 e)
  |10,e=>exact rU _ _ (i4 e)
  |j+11,e=>exact nomatch e
 ·have nc:c≠r:=fun z=>by rw[z,dy]at e;cases e
  rw[bK nc]at e;rcases RM.pin c o e with q|q|⟨row,rfl⟩|⟨bs,rfl,q2⟩
  ·exact .inl q
  ·exact absurd q nc
  ·exact .inr (gT row)
  ·refine .inr fun d hd=>?_
   obtain⟨a,ha,rfl⟩:=kt.mp hd;obtain⟨h1,u,h2⟩:=q2 a ha;exact .ptr (by rw[bK h1,h2];rfl)
 ·simp! only[];refine⟨by rw[RM.len];omega,kN (acc:=[]) (fun acc τ M'=>∃rs:List (List Int),acc=rs.map eI/\(∃x,τ=[x])/\(∀row∈rs,fO n ways row)/\M'=bX M r) ⟨[],rfl,⟨_,rfl⟩,(fun _ h=>nomatch h),rfl⟩ (fun i d acc τ M' hd _ ⟨rs,e1,⟨x,e2⟩,EZ,eM⟩ R hR=>?_) (fun ys τ M' hl ⟨rs,e1,⟨x,e2⟩,EZ,eM⟩=>?_)⟩
  ·subst e1 e2 eM;obtain⟨a,ha,rfl⟩:=JQ hd;have ha:=im ha;obtain⟨row,em,ro⟩:=RM.row a ha;simp! only[bK (RM.fr a ha).2,em];refine hR _ _ _ ⟨rs++[row],by rw[r6];rfl,⟨_,rfl⟩,fun c hc=>?_,rfl⟩
   rcases xb.mp hc with z|z
   ·exact EZ c z
   ·rw[lp]at z;rw[z];exact ro
  ·rw[IT]at e1;subst e1 e2 eM;have J0:rs.length=n :=by rw[cb,cb,RM.len]at hl;exact hl
   exact iq dk (j9 rs) (q rs ways ⟨by omega,by omega,w2,fun row hr=>⟨(EZ row hr).1,fun g hg=>by rw[J0];exact(EZ row hr).2 g hg⟩⟩ (by omega))
theorem vO:aZ ["thing"] ["thing"] (au fi):=⟨rfl,rfl,rfl,by decide +kernel,rfl,by decide +kernel,by decide +kernel⟩
theorem m9:aZ ["thing","many"] ["thing","many"] (au ck):=⟨rfl,rfl,rfl,by decide +kernel,rfl,by decide +kernel,by decide +kernel⟩
theorem BD:aZ ["thing","many","width"] ["thing","many","width"] (au jo):=⟨rfl,rfl,rfl,by decide +kernel,rfl,by decide +kernel,by decide +kernel⟩
theorem mJ:aZ ["thing","many","width"] ["thing"] (au jq):=⟨rfl,rfl,rfl,by decide +kernel,rfl,by decide +kernel,by decide +kernel⟩
def qF (d:Dv):Bool:=(isD "int" (fun _=>none) d).isSome
def BE:Dv->Bool | .int _=>true|_=>false
def cG (m:Int):Dv->Bool | .int i=>decide (0<=i) && decide (i<m)|_=>false
def Kj:ez:=fun ds M Q _=>∃d,ds=[d]/\qF d=true/\Q (.bl (BE d)) M
theorem vP {f:ap}{fd:rc}(D:Df K mg "is_whole" fi ["thing"] f fd) (bl:Bl mg):FnOk P w K mg base bF 1 f fd ["thing"] (aX P w K tb Kj) :=by
 refine gC D vO (fun ds M Q E hS=>by obtain⟨d,e,_⟩:=hS;rw[e];rfl) fun A outer s E Γ ds Q' E' hP hw hK ht hr hS=>?_
 obtain⟨d,e,hk,q⟩:=hS;refine⟨_,(ao (bb (AO (aK (jh (K:=K) rfl) rfl bl.isinstance_ d7 (aa (qv 0) (aa (jZ (v:=.ty "int") rfl bl.int_ z5 rfl) ae))) (ur (Jz (aK (jh (K:=K) rfl) rfl bl.isinstance_ d7 (aa (qv 0) (aa (jZ (v:=.ty "bool") rfl bl.bool_ FA rfl) ae)))))))),?_⟩
 subst e;cases d<;>first|exact⟨by decide,⟨by decide,.inl q⟩⟩|exact⟨by decide,.inl q⟩|exact nomatch hk
def BF:ez:=fun ds M Q _=>∃d m,ds=[d,.int m]/\qF d=true/\Q (.bl (cG m d)) M
theorem iD {f f1:ap}{fd cF:rc}(D:Df K mg "is_whole_below" ck ["thing","many"] f fd) (bY:Df K mg "is_whole" fi ["thing"] f1 cF) (bl:Bl mg):FnOk P w K mg base bF 2 f fd ["thing","many"] (aX P w K tb BF) :=by
 have yJ:=vP (P:=P) (w:=w) (base:=base) (tb:=tb) bY bl;refine gC D m9 (fun ds M Q E hS=>by obtain⟨d,m,e,_⟩:=hS;rw[e];rfl) fun A outer s E Γ ds Q' E' hP hw hK ht hr hS=>?_
 obtain⟨d,m,e,hk,q⟩:=hS;refine⟨_,(ao (bb (AO (aB yJ (hr.mono (by decide)) rfl bY.mg bY.fn.kp bY.bd bE hP hw hK ht XR.none (aa (qv 0) ae)) (ur (C5 C8 uv aq (qv 0) (qv 1)))))),?_⟩
 subst e;refine⟨d,rfl,hk,?_⟩;cases d with
 |int i=>
  simp! only[BE];refine gD (fun h=>?_) (fun h=>?_)
  ·rw[show cG m (.int i)=decide (i<m) by simp only[cG,h,Ts]]at q
   exact .inl q
  ·rw[show cG m (.int i)=false by simp only[cG,h,UT]]at q
   exact .inl q
 |_=>exact .inl q
def gW (m:Int) (w:Nat):Dv->Bool | .tup ds=>decide (ds.length=w) && ds.all (cG m)|_=>false
def DA:Dv->Bool | .tup ds=>ds.all qF|d=>qF d
def Kk:ez:=fun ds M Q _=>∃d m w,ds=[d,.int m,.int (w:Nat)]/\DA d=true/\Q (.bl (gW m w d)) M
theorem BG {f f1 f2:ap}{fd cF fd2:rc}{kP bz:ap}(D:Df K mg "is_row" jo ["thing","many","width"] f fd) (gX:Eh base fd kP bz) (hp:bz∈tb) (jz:∃bm ob,VH base mainGlobals mg bm ob)
  (aI:Df K mg "is_whole_below" ck ["thing","many"] f1 cF) (bY:Df K mg "is_whole" fi ["thing"] f2 fd2) (bl:Bl mg):FnOk P w K mg base bF 4 f fd ["thing","many","width"] (aX P w K tb Kk) :=by
 have fV:=iD (P:=P) (w:=w) (base:=base) (tb:=tb) aI bY bl;refine gC D BD (fun ds M Q E hS=>by obtain⟨d,m,n,e,_⟩:=hS;rw[e];rfl) fun A outer s E Γ ds Q' E' hP hw hK ht hr hS=>?_
 obtain⟨d,m,n,e,hk,q⟩:=hS;have yK:bz∈Γ.tb:=ht▸hp;refine⟨_,(af (dg (QW.pt (pA (jg (jf (aK (jh (K:=K) rfl) rfl bl.isinstance_ d7 (aa (qv 0) (aa (jZ (v:=.ty "tuple") rfl bl.tuple_ fS rfl) ae))))) (mq (bL yu (aK (fg (K:=K) rfl hK) rfl bl.len_ CS (aa (qv 0) ae)) (qv 2) (bM _)))))
   (ao (bb g7))
   qss_nil)
  (ao (bb (A6 (k:=2) (N':=["goal","many"]) (tn:=1) (idx:=[1]) yK (hr.mono (by decide)) rfl (show aT ["thing","many","width"] (au jo) _ ["goal","many"] 1 [1] from by decide +kernel) rfl rfl gX.code gX.hd jz rfl bl.all_ (eX (K:=K) rfl (qv 0)) (fun _ _ _ _ _ _ _ hr=>(aH (i:=0) (show P3 [("goal" : db),("many" : db)] from by decide +kernel) rfl (l6 rfl))) (fun _ _ _ _ _ _ _ hr=>fe) (fun _ _ _ _ _ _ _ hr=>(aB fV (hr.mono (by decide)) rfl aI.mg aI.fn.kp aI.bd bE hP hw hK ht XR.none (aa (qv 0) (aa (qv 1) ae)))))))),?_⟩
 subst e;cases d with
 |tup es=>
  refine⟨by decide,gD (c := !decide ((es.length:Int)=(n:Nat))) (fun h=>?_) (fun h=>?_)⟩
  ·rw[show gW m n (.tup es)=false by simp at h;simp[gW];intro z;omega]at q
   exact .inl q
  ·rw[show gW m n (.tup es)=es.all (cG m) by simp at h;simp[gW,show es.length=n by omega]]at q
   refine qz (cG m) (fun τ=>∃x,τ=[x,some (.int m)]) ⟨none,rfl⟩ (fun d hd τ ⟨x,e⟩ R hR=>?_) (.inl q)
   subst e;exact⟨d,m,rfl,wE.mp hk d hd,hR _ ⟨_,rfl⟩⟩
 |_=>first|exact⟨by decide,.inl q⟩|exact nomatch hk
def jr:Dv->Bool | .tup rs=>decide (1<=rs.length/\rs.length<=9) && (rs.all (gW rs.length 2) || rs.all (gW rs.length 3))|_=>false
def yL:Dv->Bool | .tup rs=>rs.all DA|d=>qF d
def Km:ez:=fun ds M Q _=>∃d,ds=[d]/\yL d=true/\Q (.bl (jr d)) M
theorem BH {f f1 f2 f3:ap}{fd cF fd2 mK:rc}{kP bz uW bQ:ap}(D:Df K mg "is_net" jq ["thing"] f fd) (kQ:Eh base fd uW bQ) (NT:bQ∈tb) (fW:Df K mg "is_row" jo ["thing","many","width"] f3 mK) (gX:Eh base mK kP bz) (hp:bz∈tb) (jz:∃bm ob,VH base mainGlobals mg bm ob)
  (aI:Df K mg "is_whole_below" ck ["thing","many"] f1 cF) (bY:Df K mg "is_whole" fi ["thing"] f2 fd2) (bl:Bl mg) {tk:Tok} (gY:mg "MOST_PLACES" = some (.int 9 tk)):FnOk P w K mg base bF 6 f fd ["thing"] (aX P w K tb Km) :=by
 have DB:=BG (P:=P) (w:=w) (tb:=tb) fW gX hp jz aI bY bl;refine gC D mJ (fun ds M Q E hS=>by obtain⟨d,e,_⟩:=hS;rw[e];rfl) fun A outer s E Γ ds Q' E' hP hw hK ht hr hS=>?_
 obtain⟨d,e,hk,q⟩:=hS;have kR:bQ∈Γ.tb:=ht▸NT;refine⟨_,(af (dg (QW.pt (pA (jg (jf (aK (jh (K:=K) rfl) rfl bl.isinstance_ d7 (aa (qv 0) (aa (jZ (v:=.ty "tuple") rfl bl.tuple_ fS rfl) ae))))) (mq (jg (C6 C8 C8 aq (aK (fg (K:=K) rfl hK) rfl bl.len_ CS (aa (qv 0) ae)) (C4 (i:=9) rfl gY ⟨_,rfl⟩))))))
   (ao (bb g7))
   qss_nil)
  (af (aD (i:=1) mJ.nd rfl (Td rfl) (aK (fg (K:=K) rfl hK) rfl bl.len_ CS (aa (qv 0) ae)))
  (af (bW qr rfl (eX (K:=K) rfl (il (aa aq (aa aq ae)))) (fun gm eP ew eK et=>by have hP:=hP.trans eP.symm;have hw:=hw.trans ew.symm;have hK:=hK.trans eK.symm;have ht:=ht.trans et.symm;have kR:=et.symm▸kR;exact⟨(aH (i:=2) mJ.nd rfl (Td rfl)),(ao (dg (jf (A6 (k:=4) (N':=["row","many","width"]) (tn:=1) (idx:=[1,2]) kR (hr.mono (by decide)) rfl (show aT ["thing","many","width"] (au jq) _ ["row","many","width"] 1 [1,2] from by decide +kernel) rfl rfl kQ.code kQ.hd jz rfl bl.all_ (eX (K:=K) rfl (qv 0)) (fun _ _ _ _ _ _ _ hr=>(aH (i:=0) (show P3 [("row" : db),("many" : db),("width" : db)] from by decide +kernel) rfl (l6 rfl))) (fun _ _ _ _ _ _ _ hr=>fe) (fun _ _ _ _ _ _ _ hr=>(aB DB (hr.mono (by decide)) rfl fW.mg fW.fn.kp fW.bd bE hP hw hK ht XR.none (aa (qv 0) (aa (qv 1) (aa (qv 2) ae)))))))
   (ao (bb g7))
   qss_nil))⟩))
  (ao (bb g7))))),?_⟩
 subst e;cases d with
 |tup rs=>
  refine⟨by decide,?_⟩
  have row:∀(n:Nat) (D:Bool->Mh->Prop),(D (rs.all (gW rs.length n)) Γ.M0)->jG (zgName 0) zNoIf (zCall Kk (fun _ _=>False) (zCons (zVar 0) (zCons (zVar 1) (zCons (zVar 2) zNil)))) rs [none,some (.int rs.length),some (.int (n:Nat))] Γ.M0 D:=fun n D hD=>by
   refine qz (gW rs.length n) (fun τ=>∃x,τ=[x,some (.int rs.length),some (.int (n:Nat))]) ⟨none,rfl⟩ (fun d hd τ ⟨x,e⟩ R hR=>?_) hD
   subst e;exact⟨d,rs.length,n,rfl,wE.mp hk d hd,hR _ ⟨_,rfl⟩⟩
  simp! only[];refine gD (fun h1=>gD (fun h2=>?_) (fun h2=>⟨by decide,?_⟩)) (fun h1=>?_)
  ·rw[show jr (.tup rs)=false by simp at h1 h2;simp[jr];intro z;omega]at q
   exact .inl q
  ·have e:jr (.tup rs)=(rs.all (gW rs.length 2) || rs.all (gW rs.length 3)) :=by
    simp at h1 h2;simp only[jr];rw[decide_eq_true (by omega),Ts]
   rw[e]at q;refine row 2 _ (gD (fun z=>?_) (fun z=>row 3 _ (gD (fun z2=>?_) (fun z2=>?_))))
   ·rw[z]at q;exact .inl q
   ·rw[z,z2]at q;exact .inl q
   ·rw[z,z2]at q;exact .inl q
  ·rw[show jr (.tup rs)=false by simp at h1;simp[jr];intro z;omega]at q
   exact .inl q
 |_=>first|exact⟨by decide,.inl q⟩|exact nomatch hk
theorem vQ:aZ ["thing"] ["thing"] (au gE):=⟨rfl,rfl,rfl,by decide +kernel,rfl,by decide +kernel,by decide +kernel⟩
theorem BI {m:Int}{g:Int}(h:0<=g/\g<m):cG m (.int g)=true :=by simp[cG,h.1,h.2]
theorem xi {net:List (List Int)}{n:Nat}(o:cO net n):jr (eN net)=true :=by
 have hr:∀d∈net.map eI,gW (net.map eI).length n d=true:=fun d hd=>by
  obtain⟨r,hr,rfl⟩:=kt.mp hd;obtain⟨h1,h2⟩:=o.row r hr;simp only[gW,cb];rw[decide_eq_true h1,Ts,wE];intro d hd;obtain⟨g,hg,rfl⟩:=kt.mp hd;exact BI (h2 g hg)
 have ho:=o.one;have hn:=o.nine;simp only[jr,eN];rw[decide_eq_true (by rw[cb];omega),Ts]
 have ha:=wE.mpr hr;rcases o.wid with rfl|rfl
 ·rw[ha];rfl
 ·rw[ha,Bool.or_true]
theorem xj (net:List (List Int)):yL (eN net)=true :=by
 simp only[yL,eN];rw[wE];intro d hd;obtain⟨r,_,rfl⟩:=kt.mp hd;simp only[DA,eI];rw[wE];intro d hd;obtain⟨g,hg,rfl⟩:=kt.mp hd;rfl
def yM (C:ap):ez:=fun ds M Q E=>∃d,ds=[d]/\yL d=true/\(jr d=true->Q .ai M)/\(jr d=false->E C M)
theorem vR {f f1:ap}{fd cF:rc}{C0 C_NoNet:ap}{cs:List ap}(D:Df K mg "need_net" gE ["thing"] f fd) (fX:Df K mg "is_net" jq ["thing"] f1 cF) (oq:FnOk P w K mg base bF 6 f1 cF ["thing"] (aX P w K tb Km))
  (X_:CU K C0 cs) (qG:C_NoNet∈cs) (qH:mg "NoNet" = some (.ref C_NoNet)):FnOk P w K mg base (d8 P w) 7 f fd ["thing"] (aX P w K tb (yM C_NoNet)) :=by
 refine sJ D vQ (fun ds M Q E hS=>by obtain⟨d,e,_⟩:=hS;rw[e];rfl) fun A outer s E Γ ds Q' E' hP hw hK ht hE hr hS=>?_
 obtain⟨d,e,hk,q1,q2⟩:=hS;refine⟨_,(ao (dg (jg (jf (aB oq (hr.mono (by decide)) rfl fX.mg fX.fn.kp fX.bd bE hP hw hK ht XR.none (aa (qv 0) ae))))
   (ao (uC (X_.ex _ qG) PySem.F.excBase_ValueError rfl Al hE rfl qH (aa AK ae)))
   qss_nil)),?_⟩
 subst e;simp! only[];refine⟨d,rfl,hk,gD (fun h=>?_) (fun h=>?_)⟩
 ·exact⟨by decide,q2 (by simpa using h)⟩
 ·exact .inl (q1 (by simpa using h))
theorem dz:aZ ["row","found","at","goal","rest"] ["row"] (au cW):=⟨rfl,rfl,rfl,by decide +kernel,rfl,by decide +kernel,by decide +kernel⟩
def fY (g:Int) (rests f:List (List Int)):List (List Int):=rests.foldl (fun f r=>da f (g::r)) f
def outF (A:List Int->List (List Int)) (row:List Int):Nat->List (List Int)
 |0=>[]
 |i+1=>fY (row.getD i 0) (A (row.eraseIdx i)) (outF A row i)
def ay:Nat->List Int->List (List Int)
 |0,_=>[[]]
 |d+1,row=>if row=[] then [[]] else iM (outF (ay d) row row.length)
def qI:Nat->Nat
 |0=>1
 |n+1=>(n+1) * qI n
theorem DC (ks:List (List Int)) (k:List Int):(da ks k).length<=ks.length+1 :=by
 unfold da;split
 ·omega
 ·simp
theorem uX {ks:List (List Int)}{k r:List Int}(h:r∈da ks k):r∈ks\/r=k :=by
 unfold da at h;split at h
 ·exact .inl h
 ·rcases xb.mp h with z|z
  ·exact .inl z
  ·exact .inr (lp.mp z)
theorem uY {ks:List (List Int)}{k:List Int}:k∈da ks k :=by
 unfold da;split
 ·assumption
 ·simp
theorem BJ (g:Int) (rests:List (List Int)) (r:List Int) (f:List (List Int)):fY g (rests++[r]) f=da (fY g rests f) (g::r) :=by unfold fY;rw[IR];rfl
theorem ou (g:Int):∀(rests f:List (List Int)),(fY g rests f).length<=f.length+rests.length
 | [],f=>bv _
 |r::rests,f=>by
          have:=ou g rests (da f (g::r));have:=DC f (g::r);show (fY g rests (da f (g::r))).length<=_;rw[xw];omega
theorem xk (g:Int) {n:Nat}:∀{rests f:List (List Int)},(∀r∈rests,r.length=n)->(∀r∈f,r.length=n+1)->∀r∈fY g rests f,r.length=n+1
 | [],f,_,h=>h
 |r::rests,f,h0,h=>xk g (fun x hx=>h0 x (dL _ hx)) (f:=da f (g::r)) fun x hx=>(uX hx).elim (h x) fun e=>by rw[e,xw,h0 r i1]
theorem ow {A:List Int->List (List Int)}{row:List Int}{m:Nat}(h:∀i,i<row.length->(A (row.eraseIdx i)).length<=m):∀{i},i<=row.length->(outF A row i).length<=i * m
 |0,_=>kv _
 |i+1,hi=>by
          have h1:=ow (i:=i) h (by omega)
          have h2:=h i (by omega)
          have h3:=ou (row.getD i 0) (A (row.eraseIdx i)) (outF A row i);show (fY _ _ _).length<=_;rw[UA];omega
theorem qJ {A:List Int->List (List Int)}{row:List Int}{n:Nat}(h:∀i,i<row.length->∀r∈A (row.eraseIdx i),r.length=n):∀{i},i<=row.length->∀r∈outF A row i,r.length=n+1
 |0,_=>fun r hr=>nomatch hr
 |i+1,hi=>xk _ (h i (by omega)) (qJ h (by omega))
theorem kT:∀{d:Nat}{row:List Int},row.length<=d->∀r∈ay d row,r.length=row.length
 |0,row,h,r,hr=>by
          rw[lp.mp hr];have:row.length=0 :=by omega
          rw[this];rfl
 |d+1,row,h,r,hr=>by
          unfold ay at hr;split at hr
          ·rename_i e;rw[lp.mp hr,e]
          ·rename_i e;have hp:0<row.length:=SI.mpr e;have:=qJ (A:=ay d) (row:=row) (n:=row.length - 1) (fun i hi r hr=>by
            have el:=Cs hi;rw[kT (by omega) r hr,el]) (bv _) r ((cR _).mem_iff.mp hr)
           omega
theorem qK:∀{d:Nat}{row:List Int},row.length<=d->(ay d row).length<=qI row.length
 |0,row,h=>by
          have:row.length=0 :=by omega
          rw[this];exact bv 1
 |d+1,row,h=>by
          unfold ay;split
          ·rename_i e;rw[e];exact bv 1
          ·rename_i e;obtain⟨n,hn⟩:∃n,row.length=n+1:=⟨row.length - 1,by have:=SI.mpr e;omega⟩
           rw[(cR _).length_eq];have:=ow (A:=ay d) (row:=row) (m:=qI n) (fun i hi=>by
            have el:=Cs hi;have:=qK (d:=d) (row:=row.eraseIdx i) (by omega)
            rw[el,hn]at this;exact this) (bv _)
           rw[hn]at this ⊢;exact this
theorem rV (g:Int):∀{rests f:List (List Int)},f≠[]\/rests≠[]->fY g rests f≠[]
 | [],f,h=>h.elim id fun z=>absurd rfl z
 |r::rests,f,_=>rV g (f:=da f (g::r)) (.inl fun z=>by have:=uY (ks:=f) (k:=g::r);rw[z]at this;cases this)
theorem uZ:∀{d:Nat}{row:List Int},ay d row≠[]
 |0,row=>fun h=>nomatch h
 |d+1,row=>by
          unfold ay;split
          ·exact fun h=>nomatch h
          ·rename_i e;obtain⟨n,hn⟩:∃n,row.length=n+1:=⟨row.length - 1,by have:=SI.mpr e;omega⟩
           intro z;have:=(cR (outF (ay d) row row.length)).length_eq;rw[z,hn]at this;have h0:outF (ay d) row (n+1)≠[]:=rV _ (.inr uZ);exact h0 (wl this.symm)
theorem Gs {row:List Int}{M:Mh}{F:Bool->Mh->Prop}(h:F (decide (row=[])) M):my false (.tup (row.map .int)) (.tup []) M (zBool F) :=by
 have e1:aW (now M (.tup (row.map .int)))=some (.tup (row.map Dt.int)) :=by simp only[now,aW,kM,AS]
 have e2:aW (now M (.tup []))=some (.tup []):=rfl;unfold my;rw[e1,e2];refine⟨by rw[dF];have:=mX row;omega,?_⟩
 cases row with
 |nil=>exact h
 |cons x r=>exact h
def ox:Nat->ez
 |0=>fun _ _ _ _=>False
 |d+1=>fun ds M Q _=>∃row:List Int,ds=[eI row]/\row.length<=d/\row.length<=3/\Q (.lst ((ay d row).map eI)) M
theorem DE {f:ap}{fd:rc}{k:Nat}:FnOk P w K mg base bF k f fd ["row"] (aX P w K tb (ox 0)):=
 have no:∀{vs H Q E},aX P w K tb (ox 0) vs H Q E->False:=fun h=>by obtain⟨β,ds,M,Q',E',_,_,_,_,m,rs,s,_⟩:=h;exact s
 ⟨fun _ _ _ _ h=>(no h).elim,fun _ _ _ _ _ _ _ _ _ _ _ _ _ h=>(no h).elim⟩
theorem kU {f:ap}{fd:rc}{d k:Nat}(D:Df K mg "arrangements" cW ["row"] f fd) (cq:FnOk P w K mg base bF k f fd ["row"] (aX P w K tb (ox d))) (bl:Bl mg):FnOk P w K mg base bF (k+1) f fd ["row"] (aX P w K tb (ox (d+1))) :=by
 have ax:=D;refine gC D dz (fun ds M Q E hS=>by obtain⟨row,e,_⟩:=hS;rw[e];rfl) fun A outer s E Γ ds Q' E' hP hw hK ht hr hS=>?_
 obtain⟨row,e,h,h3,q⟩:=hS;refine⟨_,(af (dg (bL (LX hr.units) (qv 0) (il ae) (bM _))
   (ao (bb (j1 (aa (il ae) ae))))
   qss_nil)
  (af (aD (i:=1) dz.nd rfl (l6 rfl) (Bq hP hw rfl bl.set_))
  (af (bW qr rfl (F3 false (K:=K) rfl rfl bl.enumerate_ (qv 0)) (fun gm eP ew eK et=>by have hP:=hP.trans eP.symm;have hw:=hw.trans ew.symm;have hK:=hK.trans eK.symm;have ht:=ht.trans et.symm;exact⟨(AQ (n:=2) rfl (ku (aH (i:=2) dz.nd rfl (l6 rfl)) (ku (aH (i:=3) dz.nd rfl (l6 rfl)) wM))),(ao (bW qr rfl (gR (K:=K) rfl (aB cq hr rfl ax.mg ax.fn.kp ax.bd bE hP hw hK ht XR.none (aa (aN (mB (K:=K) rfl) (kG (sI (K:=K) rfl) (qv 0) mV (mW (qv 2))) (kG (sI (K:=K) rfl) (qv 0) (mW (aN gB (qv 2) aq)) mV)) ae))) (fun gm eP ew eK et=>by have hP:=hP.trans eP.symm;have hw:=hw.trans ew.symm;have hK:=hK.trans eK.symm;have ht:=ht.trans et.symm;exact⟨(aH (i:=4) dz.nd rfl (l6 rfl)),(ao (eB (Gf hP hw hr.units (qv 1) (aa (aN (mB (K:=K) rfl) (il (aa (qv 3) ae)) (qv 4)) ae))))⟩)))⟩))
  (ao (bb (aK (Dm hP hw rfl) rfl bl.sorted_ jE (aa (qv 1) ae))))))),?_⟩
 subst e;have big:(1000:Nat)<sizeLine :=by decide
 simp! only[eI];refine⟨kv _,Gs ?_⟩;refine gD (fun h0=>?_) (fun h0=>?_)
 ·have h0:=of_decide_eq_true h0;subst h0;have e0:ay d []=[[]] :=by cases d<;>rfl
  rw[e0]at q;exact⟨kv _,by decide,.inl q⟩
 ·have h0:=of_decide_eq_false h0;obtain⟨n,hn⟩:∃n,row.length=n+1:=⟨row.length - 1,by have:=SI.mpr h0;omega⟩
  obtain⟨d,rfl⟩:∃e,d=e+1:=⟨d - 1,by omega⟩
  intro a ha;have u0:∀i,i<row.length->(row.eraseIdx i).length=n:=fun i hi=>by rw[Cs hi,hn];rfl
  have fn:qI n<=2 :=by
   rcases (show n=0\/n=1\/n=2 by omega) with rfl|rfl|rfl<;>decide
  have al:∀i,i<row.length->(ay d (row.eraseIdx i)).length<=qI n:=fun i hi=>by
   have:=qK (d:=d) (row:=row.eraseIdx i) (by rw[u0 i hi];omega)
   rwa [u0 i hi]at this
  have ol:∀i,i<=row.length->(outF (ay d) row i).length<=i * 2:=fun i hi=>sw (ow al hi) (UP i fn)
  refine aU (fun i ρ M=>∃x2 x3 x4,ρ=[some (eI row),some (.ptr a),x2,x3,x4]/\M=aw Γ.M0 a (pL (outF (ay d) row i))/\i<=row.length) ⟨_,_,_,rfl,rfl,kv _⟩ (fun i z ρ M N hd hJ hN=>?_) (fun ρ M hJ=>?_)
  ·obtain⟨x2,x3,x4,rfl,rfl,hi⟩:=hJ;obtain⟨x,y,rfl,ex,ey⟩:=A9 hd;obtain⟨rfl,ig⟩:=F5 ex;rw[cr]at ey;obtain⟨g,hg,rfl⟩:=lc.mp ey;have Rx:row.getD i 0=g :=by rw[ce,hg];rfl
   refine⟨rfl,?_⟩;have e1:((i:Nat):Int)+1=((i+1:Nat):Int) :=by omega
   have er:(row.map Dv.int).take i++(row.map Dv.int).drop (i+1)=(row.eraseIdx i).map .int :=by rw[GE,r6,List.map_take,List.map_drop]
   have el:=u0 i ig;have sz:((row.map Dv.int).take i).length+((row.map Dv.int).drop (i+1)).length<=3 :=by rw[FM,Ti,cb];omega
   simp! only[eI,e1,wZ,rM];refine⟨by omega,row.eraseIdx i,by rw[er],by omega,by omega,?_⟩
   have rl:∀r∈ay d (row.eraseIdx i),r.length=n:=fun r hr=>by rw[kT (by omega) r hr,el]
   have Ry:=al i ig;have NV:=ol i hi;have oe:outF (ay d) row (i+1)=fY g (ay d (row.eraseIdx i)) (outF (ay d) row i) :=by rw[<- Rx];rfl
   rw[oe]at hN;generalize ay d (row.eraseIdx i)=rests at rl Ry hN ⊢
   generalize outF (ay d) row i=f0 at NV hN ⊢
   refine aU (fun l ρ M=>∃x4,ρ=[some (eI row),some (.ptr a),some (.int (i:Nat)),some (.int g),x4]/\M=aw Γ.M0 a (pL (fY g (rests.take l) f0))/\l<=rests.length) ⟨_,rfl,rfl,kv _⟩ (fun l z ρ M N2 hd hJ iu=>?_) (fun ρ M hJ=>?_)
   ·obtain⟨x4,rfl,rfl,hl⟩:=hJ;rw[cr]at hd;obtain⟨r,hr,rfl⟩:=lc.mp hd;have xf:=(br.mp hr).1;have Sv:=rl r (im hr);have bl:=ou g (rests.take l) f0;rw[FM]at bl;simp! only[eI];refine⟨a,rfl,⟨_,updM_same⟩,by omega,by omega,_,g::r,rfl,updM_same,by omega,?_⟩
    rw[updM_updM];refine iu _ _ ⟨_,rfl,?_,xf⟩;rw[LM,hr,Fk,BJ]
   ·obtain⟨x4,rfl,rfl,hl⟩:=hJ;rw[cb,DO];exact hN _ _ ⟨_,_,_,rfl,rfl,ig⟩
  ·obtain⟨x2,x3,x4,rfl,rfl,hi⟩:=hJ;rw[pairsD_len,numD_len,cb,SB];simp! only[eI];have NV:=ol row.length (bv _);refine⟨a,_,rfl,updM_same,by omega,fun r hr e=>?_,?_⟩
   ·have:=qJ (A:=ay d) (row:=row) (n:=n) (fun i hi r hr=>by rw[kT (by rw[u0 i hi];omega) r hr,u0 i hi]) (bv _) r hr
    rw[e]at this;cases this
   ·have er:ay (d+1) row=iM (outF (ay d) row row.length) :=by unfold ay;rw[if_neg h0]
    rw[er]at q;refine iq (.upd ha .refl) (.lst fun z hz=>?_) q
    obtain⟨k,_,rfl⟩:=kt.mp hz;exact j8 k
end
section
variable {P:ii}{w:ij}{K:bn}{mg:db->Option am}{base:i0}{tb:dR}{C_NoNet C_NoNumber:ap}
theorem g8:aZ ["net","many","row"] ["net"] (au fj):=⟨rfl,rfl,rfl,by decide +kernel,rfl,by decide +kernel,by decide +kernel⟩
theorem fo:aZ ["net","number","rows","row","choices","at"] ["net","number"] (au ir):=⟨rfl,rfl,rfl,by decide +kernel,rfl,by decide +kernel,by decide +kernel⟩
def aY (row:List Int):Nat:=(ay 3 row).length
def aO (net:List (List Int)):Nat:=net.foldl (fun m r=>m * aY r) 1
theorem gI (net:List (List Int)) (r:List Int):aO (net++[r])=aO net * aY r :=by unfold aO;rw[IR];rfl
theorem gZ (row:List Int):0<aY row:=SI.mpr uZ
theorem Md {n:Nat}(h:n<=3):qI n<=6 :=by rcases (show n=0\/n=1\/n=2\/n=3 by omega) with rfl|rfl|rfl|rfl<;>decide
theorem iR {row:List Int}(h:row.length<=3):aY row<=6:=sw (qK h) (Md h)
theorem eD {net:List (List Int)}{n:Nat}(O:cO net n) {r:List Int}(h:r∈net):r.length<=3 :=by
 have:=(O.row r h).1;have:=O.wid;omega
def yN:ez:=fun ds M Q _=>∃net n,ds=[eN net]/\cO net n/\Q (.int (aO net:Nat)) M
theorem vT {f f1 f2:ap}{fd cF fd2:rc}(D:Df K mg "signings" fj ["net"] f fd)
  (bZ:Df K mg "need_net" gE ["thing"] f1 cF) (fq:FnOk P w K mg base (d8 P w) 7 f1 cF ["thing"] (aX P w K tb (yM C_NoNet)))
  (ax:Df K mg "arrangements" cW ["row"] f2 fd2) (cq:FnOk P w K mg base bF 4 f2 fd2 ["row"] (aX P w K tb (ox 4))) (bl:Bl mg) :
  FnOk P w K mg base (d8 P w) 8 f fd ["net"] (aX P w K tb yN) :=by
 refine sJ D g8 (fun ds M Q E hS=>by obtain⟨net,n,e,_⟩:=hS;rw[e];rfl) fun A outer s E Γ ds Q' E' hP hw hK ht hE hr hS=>?_
 obtain⟨net,n,e,O,q⟩:=hS;refine⟨_,(af (eB (aB fq (hr.mono (by decide)) rfl bZ.mg bZ.fn.kp bZ.bd yg hP hw hK ht hE (aa (qv 0) ae)))
  (af (aD (i:=1) g8.nd rfl (l6 rfl) aq)
  (af (PS.nh (bW qr rfl (eX (K:=K) rfl (qv 0)) (fun gm eP ew eK et=>by have hP:=hP.trans eP.symm;have hw:=hw.trans ew.symm;have hK:=hK.trans eK.symm;have ht:=ht.trans et.symm;exact⟨(aH (i:=2) g8.nd rfl (l6 rfl)),(ao (Gk (i:=1) g8.nd rfl (l6 rfl) (aK (fg (K:=K) rfl hK) rfl bl.len_ CS (aa (aB cq (hr.mono (by decide)) rfl ax.mg ax.fn.kp ax.bd bE hP hw hK ht XR.none (aa (qv 2) ae)) ae))))⟩)))
  (ao (bb (qv 1)))))),?_⟩
 subst e;have h9:=O.nine;have big:(1000:Nat)<sizeLine :=by decide
 refine⟨_,rfl,xj net,fun _=>?_,fun h=>by rw[xi O]at h;cases h⟩
 simp! only[];refine aU (fun k ρ M=>(∃x2,ρ=[some (eN net),some (.int (aO (net.take k):Nat)),x2])/\M=Γ.M0/\k<=net.length) ⟨⟨_,rfl⟩,rfl,kv _⟩ (fun k d ρ M N hd hJ hN=>?_) (fun ρ M hJ=>?_)
 ·obtain⟨⟨x2,rfl⟩,rfl,hk⟩:=hJ;rw[cr]at hd;obtain⟨r,hr,rfl⟩:=lc.mp hd;have aQ:=(br.mp hr).1;have h3:=eD O (im hr);have c6:=iR h3;simp! only[];refine⟨_,rfl,r,rfl,h3,h3,?_⟩;refine⟨(aY r:Nat),by rw[cb];rfl,.inr ⟨by omega,by omega⟩,hN _ _ ⟨⟨some (eI r),?_⟩,rfl,aQ⟩⟩
  rw[LM,hr,Fk,gI,UL]
 ·obtain⟨⟨x2,rfl⟩,rfl,hk⟩:=hJ;rw[cb,DO];simp! only[];exact .inl q
def iE:List (List Int)->Nat->List (List Int)
 | [],_=>[]
 |r::l,m=>(ay 3 r).getD (m % aY r) []::iE l (m / aY r)
def u3:List (List Int)->Nat->Nat
 | [],m=>m
 |r::l,m=>u3 l (m / aY r)
theorem u5 (r:List Int):∀(l:List (List Int)) (m:Nat),iE (l++[r]) m=iE l m++[(ay 3 r).getD (u3 l m % aY r) []]
 | [],m=>rfl
 |a::l,m=>by
          show _::iE (l++[r]) _=_;rw[u5 r l];rfl
theorem u6 (r:List Int):∀(l:List (List Int)) (m:Nat),u3 (l++[r]) m=u3 l m / aY r
 | [],m=>rfl
 |a::l,m=>u6 r l _
theorem m6:∀(l:List (List Int)) (m:Nat),(iE l m).length=l.length
 | [],m=>rfl
 |a::l,m=>congrArg Nat.succ (m6 l _)
def bI (net:List (List Int)) (m:Nat):List (List Int):=(iE net.reverse m).reverse
def yO (C:ap):ez:=fun ds M Q E=>∃net n d,ds=[eN net,d]/\cO net n/\qF d=true/\(∀m:Nat,d=.int (m:Nat)->m<aO net->Q (eN (bI net m)) M)/\(cG (aO net:Nat) d=false->E C M)
theorem yP {f f1 f2 f3:ap}{fd cF fd2 mK:rc}{C0:ap}{cs:List ap}(D:Df K mg "signing" ir ["net","number"] f fd)
  (a9:Df K mg "signings" fj ["net"] f1 cF) (cS:FnOk P w K mg base (d8 P w) 8 f1 cF ["net"] (aX P w K tb yN))
  (ax:Df K mg "arrangements" cW ["row"] f2 fd2) (cq:FnOk P w K mg base bF 4 f2 fd2 ["row"] (aX P w K tb (ox 4)))
  (aI:Df K mg "is_whole_below" ck ["thing","many"] f3 mK) (fV:FnOk P w K mg base bF 2 f3 mK ["thing","many"] (aX P w K tb BF))
  (X_:CU K C0 cs) (kW:C_NoNumber∈cs) (kX:mg "NoNumber" = some (.ref C_NoNumber)) (bl:Bl mg) :
  FnOk P w K mg base (d8 P w) 9 f fd ["net","number"] (aX P w K tb (yO C_NoNumber)) :=by
 refine sJ D fo (fun ds M Q E hS=>by obtain⟨net,n,d,e,_⟩:=hS;rw[e];rfl) fun A outer s E Γ ds Q' E' hP hw hK ht hE hr hS=>?_
 obtain⟨net,n,d,e,O,hk,q1,q2⟩:=hS;refine⟨_,(af (dg (jg (jf (aB fV (hr.mono (by decide)) rfl aI.mg aI.fn.kp aI.bd bE hP hw hK ht XR.none (aa (qv 1) (aa (aB cS (hr.mono (by decide)) rfl a9.mg a9.fn.kp a9.bd yg hP hw hK ht hE (aa (qv 0) ae)) ae)))))
   (ao (uC (X_.ex _ kW) PySem.F.excBase_ValueError rfl Al hE rfl kX (aa AK ae)))
   qss_nil)
  (af (aD (i:=2) fo.nd rfl (l6 rfl) (gQ ae))
  (af (PS.nh (bW qr rfl (Gi (K:=K) rfl rfl bl.reversed_ (aa (qv 0) ae)) (fun gm eP ew eK et=>by have hP:=hP.trans eP.symm;have hw:=hw.trans ew.symm;have hK:=hK.trans eK.symm;have ht:=ht.trans et.symm;exact⟨(aH (i:=3) fo.nd rfl (l6 rfl)),(af (aD (i:=4) fo.nd rfl (l6 rfl) (aB cq (hr.mono (by decide)) rfl ax.mg ax.fn.kp ax.bd bE hP hw hK ht XR.none (aa (qv 3) ae)))
  (af (j4 (aK C9 rfl bl.divmod_ Bw (aa (qv 1) (aa (aK (fg (K:=K) rfl hK) rfl bl.len_ CS (aa (qv 4) ae)) ae))) (AQ (n:=2) rfl (ku (aH (i:=1) fo.nd rfl (l6 rfl)) (ku (aH (i:=5) fo.nd rfl (l6 rfl)) wM))))
  (ao (eB (iL (K:=K) rfl AE SE SF kI (qv 2) (aa (cQ (eY (K:=K) rfl) (qv 4) (qv 5) (fun _ _=>rfl)) ae))))))⟩)))
  (ao (bb (vM (K:=K) rfl rfl rfl bl.tuple_ rfl bl.reversed_ (qv 2))))))),?_⟩
 subst e;have h9:=O.nine;have big:(1000:Nat)<sizeLine :=by decide
 simp! only[];refine⟨net,n,rfl,O,d,_,rfl,hk,?_⟩;cases hb:cG (aO net:Nat) d with
 |false=>
  simp! only[];exact⟨by omega,q2 hb⟩
 |true=>
  obtain⟨m,rfl,hm⟩:∃m:Nat,d=.int (m:Nat)/\m<aO net :=by
   cases d with
   |int i=>
    simp only[cG,BB,decide_eq_true_eq]at hb;exact⟨i.toNat,by rw[Int.toNat_of_nonneg hb.1],by omega⟩
   |_=>cases hb
  have q1:=q1 m rfl hm;simp! only[];refine⟨kv _,fun a ha=>?_⟩
  refine aU (fun k ρ M=>(∃x3 x4 x5,ρ=[some (eN net),some (.int (u3 (net.reverse.take k) m:Nat)),some (.ptr a),x3,x4,x5])/\M=aw Γ.M0 a (.lst ((iE (net.reverse.take k) m).map eI))/\k<=net.length) ⟨⟨_,_,_,rfl⟩,rfl,kv _⟩ (fun k z ρ M N hd hJ hN=>?_) (fun ρ M hJ=>?_)
  ·obtain⟨⟨x3,x4,x5,rfl⟩,rfl,uL⟩:=hJ;rw[<- Uq,cr]at hd;obtain⟨r,hr,rfl⟩:=lc.mp hd;have aQ:=(br.mp hr).1;rw[sK]at aQ;have h3:=eD O (Tn.mp (im hr));have c6:=iR h3;have cp:=gZ r;have Kn:=SR (u3 (net.reverse.take k) m) cp;have tk:=LM (i:=k) (l:=net.reverse);rw[hr,Fk]at tk;rw[tk,u5,u6]at hN;have sl:(iE (net.reverse.take k) m).length<=9 :=by rw[m6,FM,sK];omega
   generalize u3 (net.reverse.take k) m=qq at Kn hN ⊢
   generalize iE (net.reverse.take k) m=ss at sl hN ⊢
   have gw:cZ ((ay 3 r).map eI) ((qq % aY r:Nat):Int)=some (eI ((ay 3 r).getD (qq % aY r) [])) :=by
    refine eA ?_;have:(ay 3 r)[qq % aY r]?=some ((ay 3 r).getD (qq % aY r) []) :=by rw[ce,ag Kn];rfl
    rw[cr,this];rfl
   have e1:((qq:Int) / ((ay 3 r).length:Int))=((qq / aY r:Nat):Int) :=by rw[Int.natCast_ediv];rfl
   have e2:((qq:Int) % ((ay 3 r).length:Int))=((qq % aY r:Nat):Int) :=by rw[Int.natCast_emod];rfl
   simp! only[];refine⟨r,rfl,h3,h3,?_⟩;simp! only[e1,e2,gw];have cd:sX (qq:Int) ((ay 3 r).length:Int) :=by
    have e:(ay 3 r).length=aY r:=rfl;rw[e];exact⟨by omega,by omega⟩
   exact⟨cd,by omega,hN _ _ ⟨⟨_,_,_,rfl⟩,by rw[r6];rfl,aQ⟩⟩
  ·obtain⟨⟨x3,x4,x5,rfl⟩,rfl,uL⟩:=hJ;have el:(List.map eI net).reverse.length=net.reverse.length :=by simp
   rw[el,DO];simp! only[];refine⟨a,_,rfl,updM_same,?_⟩;have e:(Dv.tup ((iE net.reverse m).map eI).reverse)=eN (bI net m) :=by
    show Dv.tup _=Dv.tup ((iE net.reverse m).reverse.map eI);rw[Uq]
   rw[e];exact iq (.upd ha .refl) (j9 _) q1
end
section
theorem oy (g:Int):∀{rests f:List (List Int)}{r:List Int},r∈f->r∈fY g rests f
 | [],f,r,h=>h
 |x::rests,f,r,h=>oy g (f:=da f (g::x)) (by unfold da;split;exact h;exact FF _ h)
theorem u9 (g:Int):∀{rests f:List (List Int)}{r:List Int},r∈rests->g::r∈fY g rests f
 |x::rests,f,r,h=>by
          rcases li.mp h with rfl|h
          ·exact oy g (rests:=rests) (f:=da f (g::r)) uY
          ·exact u9 g (rests:=rests) (f:=da f (g::x)) h
theorem va {A:List Int->List (List Int)}{row:List Int}:∀{i j:Nat}{r:List Int},j<i->r∈A (row.eraseIdx j)->row.getD j 0::r∈outF A row i
 |i+1,j,r,hj,h=>by
          by_cases e:j=i
          ·subst e;exact u9 _ h
          ·exact oy _ (va (by omega) h)
theorem g5:∀{d:Nat}{row r:List Int},row.length<=d->r.Perm row->r∈ay d row
 |0,row,r,h,p=>by
          have e:row=[]:=wl (by omega)
          subst e;rw[List.perm_nil.mp p];exact lp.mpr rfl
 |d+1,row,r,h,p=>by
          unfold ay;split
          ·rename_i e;subst e;rw[List.perm_nil.mp p];exact lp.mpr rfl
          ·rename_i e;cases r with
           |nil=>exact absurd (List.nil_perm.mp p) e
           |cons x r=>
            obtain⟨j,hj⟩:=r9.mp (p.mem_iff.mp i1);have hl:=(br.mp hj).1;have ex:row.getD j 0=x :=by rw[ce,hj];rfl
            have eg:row[j]=x :=by have:=ag hl;rw[hj]at this;exact(i4 this).symm
            have pe:(x::row.eraseIdx j).Perm row :=by
             rw[<- eg];exact dv row j hl
            have pr:r.Perm (row.eraseIdx j):=(List.perm_cons x).mp (p.trans pe.symm);have el:=Cs hl;refine(cR _).mem_iff.mpr ?_;rw[<- ex];exact va hl (g5 (by omega) pr)
end
section
theorem rW (g:Int):∀{rests f:List (List Int)}{r:List Int},r∈fY g rests f->r∈f\/∃t∈rests,r=g::t
 | [],f,r,h=>.inl h
 |x::rests,f,r,h=>by
          rcases rW g (rests:=rests) (f:=da f (g::x)) h with h|⟨t,ht,e⟩
          ·rcases uX h with h|h
           ·exact .inl h
           ·exact .inr ⟨x,i1,h⟩
          ·exact .inr ⟨t,dL _ ht,e⟩
theorem rX {A:List Int->List (List Int)}{row:List Int}:∀{i:Nat}{r:List Int},r∈outF A row i->∃j,j<i/\∃t∈A (row.eraseIdx j),r=row.getD j 0::t
 |0,r,h=>nomatch h
 |i+1,r,h=>by
          rcases rW _ h with h|⟨t,ht,e⟩
          ·obtain⟨j,hj,q⟩:=rX h;exact⟨j,by omega,q⟩
          ·exact⟨i,by omega,t,ht,e⟩
theorem kc:∀{d:Nat}{row r:List Int},row.length<=d->r∈ay d row->r.Perm row
 |0,row,r,h,hr=>by
          have e:row=[]:=wl (by omega)
          subst e;rw[lp.mp hr]
 |d+1,row,r,h,hr=>by
          unfold ay at hr;split at hr
          ·rename_i e;subst e;rw[lp.mp hr]
          ·rename_i e;obtain⟨j,hj,t,ht,rfl⟩:=rX ((cR _).mem_iff.mp hr);have el:=Cs hj;have ih:=kc (by omega) ht
           have ex:row.getD j 0=row[j] :=by rw[ce,ag hj];rfl
           rw[ex];exact(Rs.cons _ ih).trans (dv row j hj)
theorem Gu {ks:List (List Int)}{k:List Int}(h:ks.Nodup):(da ks k).Nodup :=by
 unfold da;split
 ·exact h
 ·rename_i n;refine S0.mpr ⟨h,by simp,fun a ha b hb e=>n ?_⟩
  rw[<- lp.mp hb,<- e];exact ha
theorem xl (g:Int):∀{rests f:List (List Int)},f.Nodup->(fY g rests f).Nodup
 | [],f,h=>h
 |x::rests,f,h=>xl g (rests:=rests) (f:=da f (g::x)) (Gu h)
theorem xm {A:List Int->List (List Int)}{row:List Int}:∀{i:Nat},(outF A row i).Nodup
 |0=>List.nodup_nil
 |i+1=>xl _ xm
theorem BK:∀{d:Nat}{row:List Int},(ay d row).Nodup
 |0,row=>IN _ _
 |d+1,row=>by
          unfold ay;split
          ·exact IN _ _
          ·exact(cR _).nodup_iff.mpr xm
theorem Ko:∀{d:Nat}{row:List Int},(ay d row).Pairwise fun a b=>HT.lexLt b a=false
 |0,row=>IN _ _
 |d+1,row=>by
          unfold ay;split
          ·exact IN _ _
          ·exact og _
theorem Mf {a b:List Int}(h:HT.lexLt b a=false) (n:a≠b):HT.lexLt a b=true :=by
 cases e:HT.lexLt a b with
 |true=>rfl
 |false=>exact absurd (ka e h) n
theorem xn {a b:List Int}(h:HT.lexLt a b=true):HT.lexLt b a=false :=by
 cases e:HT.lexLt b a with
 |false=>rfl
 |true=>have:=gV h e;rw[jk]at this;cases this
abbrev StrT (l:List (List Int)):Prop:=l.Pairwise fun a b=>HT.lexLt a b=true
theorem m7 {d:Nat}{row:List Int}:StrT (ay d row):=(Ko.and BK).imp fun⟨h,n⟩=>Mf h n
theorem StrT.nd {l:List (List Int)}(h:StrT l):l.Nodup:=h.imp fun h e=>by rw[e,jk]at h;cases h
theorem srt_eq {a b:List (List Int)}(ha:StrT a) (hb:StrT b) (h:∀r,r∈a ↔ r∈b):a=b:=
 TU (le:=fun a b=>HT.lexLt b a=false) (fun x y _ _ h1 h2=>ka h2 h1) (ha.imp fun h=>xn h) (hb.imp fun h=>xn h) ((List.perm_ext_iff_of_nodup ha.nd hb.nd).mpr h)
theorem vb {d:Nat}{row r:List Int}(h:row.length<=d) (p:r.Perm row):ay d r=ay d row:=
 srt_eq m7 m7 fun x=>⟨fun hx=>g5 h ((kc (by rw[p.length_eq];exact h) hx).trans p),fun hx=>g5 (by rw[p.length_eq];exact h) ((kc h hx).trans p.symm)⟩
def dG (row part:List Int):List Int:=part.foldl (fun r p=>r.erase p) row
def eQ (row part:List Int):List (List Int):=(sortI (cC (dG row part))).map fun p=>part++[p]
def dD (row:List Int):Nat->List (List Int)
 |0=>[[]]
 |k+1=>(dD row k).flatMap (eQ row)
theorem ke:∀{r t row:List Int},(r++t).Perm row->(dG row r).Perm t
 | [],t,row,h=>h.symm
 |p::r,t,row,h=>by
          have hp:p∈row:=h.mem_iff.mp (by simp)
          have h2:(r++t).Perm (row.erase p):=(List.perm_cons p).mp (h.trans (List.perm_cons_erase hp));exact ke (r:=r) h2
theorem kY {row part r:List Int}:r∈eQ row part ↔ ∃p∈dG row part,r=part++[p] :=by
 unfold eQ;rw[kt];exact⟨fun⟨p,hp,e⟩=>⟨p,tX.mp ((sortI_perm _).mem_iff.mp hp),e.symm⟩,fun⟨p,hp,e⟩=>⟨p,(sortI_perm _).mem_iff.mpr (tX.mpr hp),e.symm⟩⟩
theorem g6 {row:List Int}:∀{k:Nat}{r:List Int},r∈dD row k ↔ r.length=k/\∃t,(r++t).Perm row
 |0,r=>by
          constructor
          ·intro h;rw[lp.mp h];exact⟨rfl,row,.refl _⟩
          ·rintro⟨h,_⟩;rw[wl h];exact lp.mpr rfl
 |k+1,r=>by
          show r∈(dD row k).flatMap _ ↔ _;rw[List.mem_flatMap];constructor
          ·rintro⟨part,hp,hr⟩;obtain⟨p,RA,rfl⟩:=kY.mp hr;obtain⟨hl,t,ht⟩:=g6.mp hp;have RB:=(ke ht).mem_iff.mp RA;refine⟨by simp[hl],t.erase p,?_⟩
           rw[EM];exact((List.perm_cons_erase RB).symm.append_left part).trans ht
          ·rintro⟨hl,t,ht⟩;have cf:r≠[]:=fun e=>by rw[e]at hl;cases hl
           have e:=List.dropLast_concat_getLast cf;rw[<- e,EM]at ht;refine⟨r.dropLast,g6.mpr ⟨by rw[List.length_dropLast];omega,_,ht⟩,kY.mpr ⟨r.getLast cf,(ke ht).mem_iff.mpr (by simp),e.symm⟩⟩
theorem Kp (c:List Int) {a b:List Int}:HT.lexLt (c++a) (c++b)=HT.lexLt a b :=by
 induction c with
 |nil=>rfl
 |cons x c ih=>rw[LF,LF,HT.du,if_pos rfl];exact ih
theorem BL:∀{a b c d:List Int},HT.lexLt a b=true->a.length=b.length->HT.lexLt (a++c) (b++d)=true
 | [],[],_,_,h,_=>by cases h
 | [],_::_,_,_,_,hl=>by cases hl
 |_::_,[],_,_,_,hl=>by cases hl
 |x::a,y::b,c,d,h,hl=>by
          rw[LF,LF];rw[HT.du]at h ⊢;by_cases e:x=y
          ·rw[if_pos e]at h ⊢;exact BL h (by simpa using hl)
          ·rw[if_neg e]at h ⊢;exact h
theorem DF (ns:List Int):(sortI (cC ns)).Pairwise fun a b=>a<b :=by
 have nd:(sortI (cC ns)).Nodup:=(sortI_perm _).nodup_iff.mpr (xV ns);exact((nU _).and nd).imp fun⟨h,n⟩=>by have:_≠_:=n;omega
theorem xo {row:List Int}:∀{k:Nat},StrT (dD row k)
 |0=>IN _ _
 |k+1=>by
          show StrT ((dD row k).flatMap _);refine List.pairwise_flatMap.mpr ⟨fun part _=>?_,?_⟩
          ·unfold eQ;refine Vh.mpr ((DF _).imp fun {p q} h=>?_)
           rw[Kp,HT.du,if_neg (by omega)]
           exact decide_eq_true h
          ·have hs:=xo (row:=row) (k:=k);refine Tp.imp_of_mem (fun {a b} ha hb h x hx y hy=>?_) hs
           obtain⟨p,_,rfl⟩:=kY.mp hx;obtain⟨q,_,rfl⟩:=kY.mp hy;exact BL h (by rw[(g6.mp ha).1,(g6.mp hb).1])
theorem Gv {d:Nat}{row:List Int}(h:row.length<=d):dD row row.length=ay d row:=
 srt_eq xo m7 fun r=>by
  rw[g6];constructor
  ·rintro⟨hl,t,ht⟩;have:t.length=0 :=by have:=ht.length_eq;rw[rf]at this;omega
   rw[wl this,AN]at ht;exact g5 h ht
  ·intro hr;have p:=kc h hr;exact⟨p.length_eq,[],by rw[AN];exact p⟩
def js:List (List (List Int))->Nat->List (List Int)
 | [],_=>[]
 |c::cs,m=>c.getD (m % c.length) []::js cs (m / c.length)
def encC:List (List (List Int))->List (List Int)->Nat
 |c::cs,x::xs=>c.idxOf x+c.length * encC cs xs
 |_,_=>0
def g9:List (List (List Int))->Nat
 | []=>1
 |c::cs=>c.length * g9 cs
def DG:List (List (List Int))->List (List Int)->Prop
 | [],[]=>True
 |c::cs,x::xs=>x∈c/\DG cs xs
 |_,_=>False
theorem BM {c:List (List Int)}{i:Nat}(h:i<c.length):c.getD i []∈c :=by
 rw[ce,ag h];exact DD h
theorem Gw {c:List (List Int)}(nd:c.Nodup) {i:Nat}(h:i<c.length):c.idxOf (c.getD i [])=i :=by
 rw[ce,ag h];show c.idxOf c[i]=i;exact nd.idxOf_getElem i h
theorem xq:∀{cs:List (List (List Int))},(∀c∈cs,0<c.length/\c.Nodup)->∀{m:Nat},m<g9 cs->encC cs (js cs m)=m
 | [],_,m,h=>by have:m<1:=h;show 0=m;omega
 |c::cs,h,m,hm=>by
          obtain⟨h0,nd⟩:=h c i1;show c.idxOf (c.getD (m % c.length) [])+c.length * encC cs (js cs (m / c.length))=m;rw[Gw nd (SR _ h0),xq (fun x hx=>h x (dL _ hx)) (Nat.div_lt_of_lt_mul hm)]
          exact Nat.mod_add_div m c.length
theorem dec_enc:∀{cs:List (List (List Int))}{xs:List (List Int)},DG cs xs->js cs (encC cs xs)=xs/\encC cs xs<g9 cs
 | [],[],_=>⟨rfl,Nat.one_pos⟩
 | [],_::_,h=>h.elim
 |_::_,[],h=>h.elim
 |c::cs,x::xs,⟨h1,h2⟩=>by
          obtain⟨e1,e2⟩:=dec_enc h2;have hi:=SG.mpr h1;have hc:0<c.length :=by omega
          refine⟨?_,?_⟩
          ·show c.getD ((c.idxOf x+c.length * encC cs xs) % c.length) []::js cs ((c.idxOf x+c.length * encC cs xs) / c.length)=x::xs;rw[Nat.add_mul_mod_self_left,Vu hi,Nat.add_mul_div_left _ _ hc,Uj hi,Te,e1,ce,ag hi];show c[c.idxOf x]::xs=_;rw[U4]
          ·show c.idxOf x+c.length * encC cs xs<c.length * g9 cs;calc c.idxOf x+c.length * encC cs xs<c.length+c.length * encC cs xs :=by omega
            _=c.length * (encC cs xs+1) :=by rw[Nat.mul_add,Nat.mul_one,TM]
            _<=c.length * g9 cs:=UP _ e2
theorem Gx (p:List (List Int)) {x y:List Int}:eG (p++[x]) (p++[y])=HT.lexLt x y :=by
 induction p with
 |nil=>
  show (if x=y then eG [] [] else _)=_
  by_cases e:x=y
  ·rw[if_pos e,e,jk];rfl
  ·rw[if_neg e]
 |cons z p ih=>
  show (if z=z then eG (p++[x]) (p++[y]) else _)=_
  rw[if_pos rfl];exact ih
theorem BO:∀{p q:List (List Int)}{x y:List Int},eG p q=true->p.length=q.length->eG (p++[x]) (q++[y])=true
 | [],[],_,_,h,_=>by cases h
 | [],_::_,_,_,_,hl=>by cases hl
 |_::_,[],_,_,_,hl=>by cases hl
 |z::p,v::q,x,y,h,hl=>by
          have h:(if z=v then eG p q else HT.lexLt z v)=true:=h
          show (if z=v then eG (p++[x]) (q++[y]) else HT.lexLt z v)=true
          by_cases e:z=v
          ·rw[if_pos e]at h ⊢;exact BO h (by simpa using hl)
          ·rw[if_neg e]at h ⊢;exact h
theorem qM:∀{cs:List (List (List Int))}{m:Nat},(js cs m).length=cs.length
 | [],_=>rfl
 |c::cs,m=>congrArg Nat.succ qM
theorem dec_lt:∀{cs:List (List (List Int))},(∀c∈cs,StrT c)->∀{m:Nat},m+1<g9 cs->eG (js cs m).reverse (js cs (m+1)).reverse=true
 | [],_,m,h=>by have:m+1<1:=h;omega
 |c::cs,hs,m,hm=>by
          have hc:0<c.length :=by
           have:m+1<c.length * g9 cs:=hm;rcases Nat.eq_zero_or_pos c.length with z|z
           ·rw[z,Nat.zero_mul]at this;omega
           ·exact z
          have jy:∀x∈cs,StrT x:=fun x hx=>hs x (dL _ hx)
          have Bh:=SR m hc;have hd:=Nat.mod_add_div m c.length;show eG (c.getD (m % c.length) []::js cs (m / c.length)).reverse (c.getD ((m+1) % c.length) []::js cs ((m+1) / c.length)).reverse=true;rw[Ps,Ps];by_cases h:m % c.length+1<c.length
          ·have e:m+1=(m % c.length+1)+c.length * (m / c.length) :=by omega
           have e1:(m+1) % c.length=m % c.length+1 :=by
            conv=>lhs;rw[e]
            rw[Nat.add_mul_mod_self_left,Vu h]
           have e2:(m+1) / c.length=m / c.length :=by
            conv=>lhs;rw[e]
            rw[Nat.add_mul_div_left _ _ hc,Uj h,Te]
           rw[e1,e2,Gx,ce,ce,ag Bh,ag h];exact GG.mp (hs c i1) _ _ Bh h (Lu _)
          ·have e:m+1=c.length * (m / c.length+1) :=by rw[Nat.mul_add,Nat.mul_one];omega
           have e2:(m+1) / c.length=m / c.length+1 :=by
            conv=>lhs;rw[e]
            exact Nat.mul_div_cancel_left _ hc
           rw[e2];refine BO (dec_lt jy ?_) (by rw[sK,sK,qM,qM])
           have:c.length * (m / c.length+1)<c.length * g9 cs :=by rw[<- e];exact hm
           exact Nat.lt_of_mul_lt_mul_left this
theorem mL:∀(l:List (List Int)) (m:Nat),iE l m=js (l.map (ay 3)) m
 | [],m=>rfl
 |r::l,m=>congrArg _ (mL l _)
theorem vc (l:List (List Int)):aO l.reverse=g9 (l.map (ay 3)) :=by
 induction l with
 |nil=>rfl
 |cons r l ih=>
  rw[Ps,gI,ih,TN];rfl
theorem jK (net:List (List Int)):aO net=g9 (net.reverse.map (ay 3)) :=by
 have:=vc net.reverse;rw[MW]at this;exact this
def jt (net:List (List Int)):Nat:=net.foldl (fun n r=>n * aY r+(ay 3 r).idxOf r) 0
theorem xr (l:List (List Int)):jt l.reverse=encC (l.map (ay 3)) l :=by
 induction l with
 |nil=>rfl
 |cons r l ih=>
  unfold jt at ih ⊢;rw[Ps,IR,ih];show encC (l.map (ay 3)) l * aY r+(ay 3 r).idxOf r=(ay 3 r).idxOf r+(ay 3 r).length * encC (l.map (ay 3)) l;rw[TM,TN];rfl
theorem DH (net:List (List Int)) (r:List Int):jt (net++[r])=jt net * aY r+(ay 3 r).idxOf r :=by unfold jt;rw[IR];rfl
def eH (net:List (List Int)):List (List (List Int)):=net.foldl (fun fs r=>fs.flatMap fun p=>(ay 3 r).map fun o=>p++[o]) [[]]
theorem rY (net:List (List Int)) (r:List Int):eH (net++[r])=(eH net).flatMap fun p=>(ay 3 r).map fun o=>p++[o] :=by unfold eH;rw[IR];rfl
theorem rZ (c:Nat):∀p,i8 (p * c)=(i8 p).flatMap fun q=>(i8 c).map fun i=>q * c+i
 |0=>by rw[Nat.zero_mul];rfl
 |p+1=>by
          rw[List.range_succ,Tw,<- rZ c p,UA,List.range_add];simp
theorem DI (l:List (List Int)):eH l.reverse=(i8 (aO l.reverse)).map (bI l.reverse) :=by
 induction l with
 |nil=>rfl
 |cons r l ih=>
  rw[Ps,rY,gI,ih,rZ,List.map_flatMap,List.flatMap_map];congr 1
  funext q
  have hc:=gZ r;have e:(ay 3 r)=(i8 (aY r)).map fun i=>(ay 3 r).getD i [] :=by
   apply Nl;intro i;rw[cr];by_cases h:i<(ay 3 r).length
   ·rw[JJ (show i<aY r from h),ag h,AS,ce,ag h];rfl
   ·rw[At (by omega),At (by rw[Cf];exact Tj h)];rfl
  conv=>lhs;rw[e]
  rw[AL,AL];refine SH fun i hi=>?_
  have hi:=u4.mp hi;show bI l.reverse q++[(ay 3 r).getD i []]=bI (l.reverse++[r]) (q * aY r+i);unfold bI;rw[List.reverse_append,MW];show _=(iE (r::l) (q * aY r+i)).reverse;show _=((ay 3 r).getD ((q * aY r+i) % aY r) []::iE l ((q * aY r+i) / aY r)).reverse;rw[TM,Nat.add_mul_mod_self_right,Vu hi,Nat.add_mul_div_right _ _ hc,Uj hi,Te,Ps]
theorem mM (net:List (List Int)):eH net=(i8 (aO net)).map (bI net) :=by
 have:=DI net.reverse;rw[MW]at this;exact this
end
section
variable {P:ii}{w:ij}{K:bn}{mg:db->Option am}{base:i0}{tb:dR}{C_NoNet:ap}
theorem e8:aZ ["net","number","row","choices"] ["net"] (au fK):=⟨rfl,rfl,rfl,by decide +kernel,rfl,by decide +kernel,by decide +kernel⟩
theorem bO:aZ ["_law_bag_here","_law_net_here","_law_made","_law_row"] ["_law_bag_here","_law_net_here"] (au bT):=⟨rfl,rfl,rfl,by decide +kernel,rfl,by decide +kernel,by decide +kernel⟩
def pT (rs:List (List Int)):List Dt:=rs.map fun r=>Dt.tup (r.map Dt.int)
theorem Gy (rs:List (List Int)):fM (rs.map eI)=some (pT rs):=j7 yy rs
theorem vd (x y:List Int):cw (.tup (x.map Dt.int)) (.tup (y.map Dt.int))=decide (x=y) :=by
 show eS _ _=_;exact pG x y
theorem BP {rs:List (List Int)}{r:List Int}(h:r∈rs):qC (pT rs) (.tup (r.map Dt.int)) (rs.idxOf r) :=by
 have hl:=SG.mpr h;refine⟨⟨.tup (r.map Dt.int),?_,by rw[vd];exact decide_eq_true rfl⟩,fun m t hm ht=>?_⟩
 ·unfold pT;rw[cr,ag hl,U4];rfl
 ·unfold pT at ht;rw[cr]at ht;obtain⟨x,hx,rfl⟩:=lc.mp ht;rw[vd];refine decide_eq_false fun e=>?_
  subst e;obtain⟨Bh,hx⟩:=br.mp hx;have hh:=List.not_of_lt_findIdx (p:=(·==x)) (xs:=rs) hm;rw[hx]at hh;simp at hh
theorem vU {rs:List (List Int)}{r:List Int}{M:Mh}{Q:ZK}(h:r∈rs) (hl:rs.length<=1000) (h3:∀x∈rs,x.length<=3) (q:Q (.int (rs.idxOf r:Nat)) M):mZ (.lst (rs.map eI)) [eI r] M Q :=by
 unfold mZ;have e1:now M (.lst (rs.map eI))=.lst (rs.map eI):=rfl;have e2:now M (eI r)=eI r:=rfl;have hi:=SG.mpr h;simp only[e1,e2,yy,Gy];refine⟨fun t ht=>?_,_,BP h,by omega,q⟩
 obtain⟨x,_,rfl⟩:=kt.mp ht;rw[dF];have:=mX x;omega
def DJ:ez:=fun ds M Q _=>∃net n,ds=[eN net]/\cO net n/\Q (.int (jt net:Nat)) M
theorem ve {f f1 f2:ap}{fd cF fd2:rc}(D:Df K mg "number_of" fK ["net"] f fd)
  (bZ:Df K mg "need_net" gE ["thing"] f1 cF) (fq:FnOk P w K mg base (d8 P w) 7 f1 cF ["thing"] (aX P w K tb (yM C_NoNet)))
  (ax:Df K mg "arrangements" cW ["row"] f2 fd2) (cq:FnOk P w K mg base bF 4 f2 fd2 ["row"] (aX P w K tb (ox 4))) (bl:Bl mg) :
  FnOk P w K mg base (d8 P w) 8 f fd ["net"] (aX P w K tb DJ) :=by
 refine sJ D e8 (fun ds M Q E hS=>by obtain⟨net,n,e,_⟩:=hS;rw[e];rfl) fun A outer s E Γ ds Q' E' hP hw hK ht hE hr hS=>?_
 obtain⟨net,n,e,O,q⟩:=hS;refine⟨_,(af (eB (aB fq (hr.mono (by decide)) rfl bZ.mg bZ.fn.kp bZ.bd yg hP hw hK ht hE (aa (qv 0) ae)))
  (af (aD (i:=1) e8.nd rfl (l6 rfl) aq)
  (af (PS.nh (bW qr rfl (eX (K:=K) rfl (qv 0)) (fun gm eP ew eK et=>by have hP:=hP.trans eP.symm;have hw:=hw.trans ew.symm;have hK:=hK.trans eK.symm;have ht:=ht.trans et.symm;exact⟨(aH (i:=2) e8.nd rfl (l6 rfl)),(af (aD (i:=3) e8.nd rfl (l6 rfl) (aB cq (hr.mono (by decide)) rfl ax.mg ax.fn.kp ax.bd bE hP hw hK ht XR.none (aa (qv 2) ae)))
  (ao (aD (i:=1) e8.nd rfl (l6 rfl) (aN gB (aN iK (qv 1) (aK (fg (K:=K) rfl hK) rfl bl.len_ CS (aa (qv 3) ae))) (iL (K:=K) rfl AE PySem.F.slot_list_index PySem.F.type_list_index (Di hr.units) (qv 3) (aa (qv 2) ae))))))⟩)))
  (ao (bb (qv 1)))))),?_⟩
 subst e;have h9:=O.nine;have big:(1000:Nat)<sizeLine :=by decide
 refine⟨_,rfl,xj net,fun _=>?_,fun h=>by rw[xi O]at h;cases h⟩
 simp! only[];refine aU (fun k ρ M=>(∃x2 x3,ρ=[some (eN net),some (.int (jt (net.take k):Nat)),x2,x3])/\M=Γ.M0/\k<=net.length) ⟨⟨_,_,rfl⟩,rfl,kv _⟩ (fun k d ρ M N hd hJ hN=>?_) (fun ρ M hJ=>?_)
 ·obtain⟨⟨x2,x3,rfl⟩,rfl,hk⟩:=hJ;rw[cr]at hd;obtain⟨r,hr,rfl⟩:=lc.mp hd;have aQ:=(br.mp hr).1;have h3:=eD O (im hr);have c6:=iR h3;simp! only[];refine⟨r,rfl,h3,h3,?_⟩;simp! only[];have NW:(ay 3 r).length<=6:=c6;have hm:r∈ay 3 r:=g5 h3 (.refl r);refine⟨.inr ⟨by omega,by omega⟩,vU hm (by omega) (fun x hx=>by rw[kT h3 x hx];exact h3) (hN _ _ ⟨⟨some (eI r),some (.lst ((ay 3 r).map eI)),?_⟩,rfl,aQ⟩)⟩
  rw[LM,hr,Fk,DH,Int.natCast_add,UL];rfl
 ·obtain⟨⟨x2,x3,rfl⟩,rfl,hk⟩:=hJ;rw[cb,DO];simp! only[];exact .inl q
def oz (r:List Int):List Int:=r.take 1++r.take 1++r.drop 2
theorem GA {r:List Int}(h:2<=r.length):(oz r).length=r.length :=by unfold oz;simp;omega
theorem GB {r:List Int}{x:Int}(h:x∈oz r):x∈r :=by
 unfold oz at h;rcases xb.mp h with h|h
 ·rcases xb.mp h with h|h<;>exact List.mem_of_mem_take h
 ·exact List.mem_of_mem_drop h
def Kq:ez:=fun ds M Q _=>∃b net n,ds=[.ptr b,eN net]/\M b=some .dj/\cO net n/\∀yQ,cO yQ n->Q (eN yQ) M
theorem vf {f f1:ap}{fd cF:rc}(D:Df K mg "_law_alike_now_and_then" bT ["_law_bag_here","_law_net_here"] f fd)
  (ah:Df K mg "_law_take" dB ["_law_bag_here","_law_many"] f1 cF) (bf:FnOk P w K mg base bF 1 f1 cF ["_law_bag_here","_law_many"] (aX P w K tb pQ)) (bl:Bl mg) :
  FnOk P w K mg base bF 2 f fd ["_law_bag_here","_law_net_here"] (aX P w K tb Kq) :=by
 refine gC D bO (fun ds M Q E hS=>by obtain⟨b,net,n,e,_⟩:=hS;rw[e];rfl) fun A outer s E Γ ds Q' E' hP hw hK ht hr hS=>?_
 obtain⟨b,net,n,e,hb,O,q⟩:=hS;refine⟨_,(af (aD (i:=2) bO.nd rfl (l6 rfl) (gQ ae))
  (af (bW qr rfl (eX (K:=K) rfl (qv 1)) (fun gm eP ew eK et=>by have hP:=hP.trans eP.symm;have hw:=hw.trans ew.symm;have hK:=hK.trans eK.symm;have ht:=ht.trans et.symm;exact⟨(aH (i:=3) bO.nd rfl (l6 rfl)),(af (dg (bL qt (aB bf (hr.mono (by decide)) rfl ah.mg ah.fn.kp ah.bd bE hP hw hK ht XR.none (aa (qv 0) (aa aq ae))) aq (bM _))
   (ao (aD (i:=3) bO.nd rfl (l6 rfl) (aN (mB (K:=K) rfl) (aN JU (kG (sI (K:=K) rfl) (qv 3) mV (mW aq)) aq) (kG (sI (K:=K) rfl) (qv 3) (mW aq) mV))))
   qss_nil)
  (ao (eB (iL (K:=K) rfl AE SE SF kI (qv 2) (aa (qv 3) ae)))))⟩))
  (ao (bb (gi (qu (K:=K) rfl) rfl bl.tuple_ fS (aa (qv 2) ae)))))),?_⟩
 subst e;have h9:=O.nine;have Sw:=O.wid;have big:(1000:Nat)<sizeLine :=by decide
 simp! only[];refine⟨by omega,fun a ha=>?_⟩
 have Ke:b≠a:=fun z=>by rw[z,ha]at hb;cases hb
 refine aU (fun k ρ M=>∃rs x3,rs.length=k/\k<=net.length/\(∀r∈rs,fO net.length n r)/\ρ=[some (.ptr b),some (eN net),some (.ptr a),x3]/\M=aw Γ.M0 a (.lst (rs.map eI))) ⟨[],_,rfl,kv _,(fun _ h=>nomatch h),rfl,rfl⟩ (fun k d ρ M N hd hJ hN=>?_) (fun ρ M hJ=>?_)
 ·obtain⟨rs,x3,hl,hk,Kr,rfl,rfl⟩:=hJ;rw[cr]at hd;obtain⟨r,hr,rfl⟩:=lc.mp hd;have aQ:=(br.mp hr).1;have vg:=O.row r (im hr);have add:∀r',fO net.length n r'->N [some (.ptr b),some (eN net),some (.ptr a),some (eI r')] (aw Γ.M0 a (.lst (rs.map eI++[eI r']))):=fun r' h=>by
   have:=hN [some (.ptr b),some (eN net),some (.ptr a),some (eI r')] (aw Γ.M0 a (.lst ((rs++[r']).map eI))) ⟨rs++[r'],_,by simp[hl],aQ,fun x hx=>by
    rcases xb.mp hx with z|z
    ·exact Kr x z
    ·rw[lp.mp z];exact h,rfl,rfl⟩
   rw[r6]at this;exact this
  simp! only[];refine⟨b,_,rfl,by rw[aj Ke];exact hb,by omega,by omega,fun t ht=>?_⟩
  have h1:L2.cutD (r.map Dv.int) none (some 1)=(r.take 1).map .int :=by rw[show (some (1:Int))=some ((1:Nat):Int) from rfl,wZ,List.map_take]
  have h2:L2.cutD (r.map Dv.int) (some 2) none=(r.drop 2).map .int :=by rw[show (some (2:Int))=some ((2:Nat):Int) from rfl,rM,List.map_drop]
  have gu:2<=r.length :=by have:=vg.1;omega
  have Sx:r.length<=3 :=by have:=vg.1;omega
  have ea:(lv (U0 2) ((r.take 1).map Dv.int)).flatten++(r.drop 2).map Dv.int=(oz r).map .int :=by
   unfold oz;rw[r6,r6,show U0 2=2 from rfl];simp[sB]
  simp! only[h1,h2,ea];have Iw:fO net.length n (oz r):=⟨by rw[GA gu];exact vg.1,fun x hx=>vg.2 x (GB hx)⟩
  refine gD (fun h=>?_) (fun h=>?_)
  ·have l1:(r.take 1).length=1 :=by rw[FM];omega
   have l2:(lv (U0 2) ((r.take 1).map Dv.int)).flatten.length=2 :=by
    rw[show U0 2=2 from rfl];simp[sB];omega
   refine⟨⟨fun z=>?_,by decide,by decide,?_⟩,?_,by omega,add _ Iw⟩
   ·have:=congrArg VG z;rw[cb,l1]at this;cases this
   ·rw[l1];decide
   ·rw[l2,Ti];omega
  ·exact⟨by omega,add _ vg⟩
 ·obtain⟨rs,x3,hl,hk,Kr,rfl,rfl⟩:=hJ;rw[cb]at hl;simp! only[];exact iq (.upd ha .refl) (j9 rs) (q rs ⟨by rw[hl];exact O.one,by rw[hl];exact O.nine,O.wid,fun r hr=>by rw[hl];exact Kr r hr⟩)
end
section
variable {P:ii}{w:ij}{K:bn}{mg:db->Option am}{base:i0}{tb:dR}
theorem bR:aZ ["_law_row","_law_found","_law_k","_law_longer","_law_part","_law_rest","_law_place"] ["_law_row"] (au dr):=⟨rfl,rfl,rfl,by decide +kernel,rfl,by decide +kernel,by decide +kernel⟩
theorem eE:aZ ["_law_net_here","_law_found","_law_row","_law_longer","_law_part"] ["_law_net_here"] (au gG):=⟨rfl,rfl,rfl,by decide +kernel,rfl,by decide +kernel,by decide +kernel⟩
theorem yR (row part:List Int) (p:Int):dG row (part++[p])=(dG row part).erase p :=by unfold dG;rw[IR];rfl
theorem vh {row r:List Int}{k:Nat}(h:r∈dD row k):(dG row r).length+k=row.length :=by
 obtain⟨hl,t,ht⟩:=g6.mp h;have:=(ke ht).length_eq;have:=ht.length_eq;rw[rf]at this;omega
theorem vi {row part:List Int}:(eQ row part).length<=(dG row part).length :=by
 unfold eQ;rw[cb,(sortI_perm _).length_eq];exact nR _
theorem qN {row:List Int}(h3:row.length<=3):∀k,(dD row k).length<=3 ^ k
 |0=>bv 1
 |k+1=>by
          have ih:=qN h3 k;show ((dD row k).flatMap _).length<=_;have key:∀l:List (List Int),(∀p∈l,p∈dD row k)->(l.flatMap (eQ row)).length<=l.length * 3:=fun l=>by
           induction l with
           |nil=>intro _;exact kv _
           |cons p l ih=>
            intro h;have h1:=ih fun x hx=>h x (dL _ hx)
            have h2:=vi (row:=row) (part:=p);have h4:=vh (h p i1);rw[List.flatMap_cons,rf,xw,UA];omega
          have:=key _ fun p hp=>hp
          rw[Nat.pow_succ];omega
theorem DK {ns:List Int}{i:Int}(h:i∈ns):∃j,j<ns.length/\ns[j]?=some i/\(∀m,m<j->ns[m]?≠some i)/\ns.eraseIdx j=ns.erase i :=by
 have hl:=SG.mpr h;refine⟨ns.idxOf i,hl,?_,fun m hm e=>?_,(List.erase_eq_eraseIdx_of_idxOf rfl).symm⟩
 ·rw[ag hl,U4]
 ·have hh:=List.not_of_lt_findIdx (p:=(·==i)) (xs:=ns) hm;obtain⟨_,e⟩:=br.mp e;rw[e]at hh;simp at hh
structure ju (M0 M:Mh) (a:ap):Prop where
 kp:Keeps M0 M
 a0:M0 a=none
 oth:∀c o,M c=some o->M0 c=some o\/c=a\/∃ns:List Int,o=.lst (ns.map .int)
theorem ju.int {M0 M:Mh}{a c:ap}(h:ju M0 M a) (hc:M0 c=none) (ns:List Int):ju M0 (aw M c (.lst (ns.map .int))) a :=by
 refine⟨.upd hc h.kp,h.a0,fun d o e=>?_⟩
 by_cases z:d=c
 ·subst z;rw[updM_same]at e;cases e;exact .inr (.inr ⟨ns,rfl⟩)
 ·rw[aj z]at e;exact h.oth d o e
theorem ju.own {M0 M:Mh}{a:ap}(h:ju M0 M a) (o:Mo):ju M0 (aw M a o) a :=by
 refine⟨.upd h.a0 h.kp,h.a0,fun d u e=>?_⟩
 by_cases z:d=a
 ·exact .inr (.inl z)
 ·rw[aj z]at e;exact h.oth d u e
structure yS (M0 M:Mh):Prop where
 kp:Keeps M0 M
 oth:∀c o,M c=some o->M0 c=some o\/∃ns:List Int,o=.lst (ns.map .int)
theorem yS.new {M0 M:Mh}(h:yS M0 M) {a:ap}(ha:M a=none) (o:Mo):ju M0 (aw M a o) a:=
 ju.own ⟨h.kp,fm h.kp ha,fun c o e=>(h.oth c o e).imp id .inr⟩ o
theorem ju.drop {M0 M:Mh}{a:ap}(h:ju M0 M a):yS M0 (bX M a) :=by
 have na:∀{c o},M0 c=some o->c≠a:=fun e z=>by rw[z,h.a0]at e;cases e
 refine⟨fun c o e=>by rw[bK (na e)];exact h.kp c o e,fun c o e=>?_⟩
 have nc:c≠a:=fun z=>by rw[z,dy]at e;cases e
 rw[bK nc]at e;rcases h.oth c o e with q|q|q
 ·exact .inl q
 ·exact absurd q nc
 ·exact .inr q
theorem oA {M:Mh}(rs:List (List Int)):Pin M (.lst (rs.map eI)):=.lst fun d hd=>by
 obtain⟨r,_,rfl⟩:=kt.mp hd;exact j8 r
theorem cn.eI (r:List Int):cn (some (eI r)):=fun M _ h=>by cases h;exact j8 r
def Ks (M:Mh) (a:ap) (x:Option Dv):Prop:=x=none\/∃c o,x=some (.ptr c)/\c≠a/\M c=some o
def Kt (part:List Int):Dv->Dv
 | .int x=>eI (part++[x])
 |d=>d
theorem GC (row part:List Int):((sortI (cC (dG row part))).map Dv.int).map (Kt part)=(eQ row part).map eI :=by
 unfold eQ;rw[AL,AL];rfl
def DL:ez:=fun ds M Q _=>∃row:List Int,ds=[eI row]/\row.length<=3/\Q (.lst ((ay 3 row).map eI)) M
theorem so {f:ap}{fd:rc}(D:Df K mg "_law_orders" dr ["_law_row"] f fd) (bl:Bl mg) :
  FnOk P w K mg base bF 1 f fd ["_law_row"] (aX P w K tb DL) :=by
 refine gC D bR (fun ds M Q E hS=>by obtain⟨row,e,_⟩:=hS;rw[e];rfl) fun A outer s E Γ ds Q' E' hP hw hK ht hr hS=>?_
 obtain⟨row,e,h3,q⟩:=hS;refine⟨_,(af (aD (i:=1) bR.nd rfl (l6 rfl) (j1 (aa (il ae) ae)))
  (af (qp qr rfl (cE rfl bl.range_ (aa (aK (fg (K:=K) rfl hK) rfl bl.len_ CS (aa (qv 0) ae)) ae)) (fun gm M1 hM eP ew eK et=>by have hP:=hP.trans eP.symm;have hw:=hw.trans ew.symm;have hK:=hK.trans eK.symm;have ht:=ht.trans et.symm;exact⟨(aH (i:=2) bR.nd rfl (l6 rfl)),(af (aD (i:=3) bR.nd rfl (l6 rfl) (gQ ae))
  (af (bW qr rfl (gR (K:=K) rfl (qv 1)) (fun gm eP ew eK et=>by have hP:=hP.trans eP.symm;have hw:=hw.trans ew.symm;have hK:=hK.trans eK.symm;have ht:=ht.trans et.symm;exact⟨(aH (i:=4) bR.nd rfl (Td rfl)),(af (aD (i:=5) bR.nd rfl (l6 rfl) (gi (F1 (K:=K) rfl) rfl bl.list_ FC (aa (qv 0) ae)))
  (af (bW qr rfl (eX (K:=K) rfl (qv 4)) (fun gm eP ew eK et=>by have hP:=hP.trans eP.symm;have hw:=hw.trans ew.symm;have hK:=hK.trans eK.symm;have ht:=ht.trans et.symm;exact⟨(aH (i:=6) bR.nd rfl (l6 rfl)),(ao (eB (iL (K:=K) rfl AE PySem.F.slot_list_remove PySem.F.type_list_remove J6 (qv 5) (aa (qv 6) ae))))⟩))
  (ao (eB (iL (K:=K) rfl AE PySem.F.slot_list_extend PySem.F.type_list_extend uz (qv 3) (aa (eC (N':=["_law_place","_law_part"]) (tn:=1) (idx:=[4]) rfl (show aT ["_law_row","_law_found","_law_k","_law_longer","_law_part","_law_rest","_law_place"] (au dr) _ ["_law_place","_law_part"] 1 [4] from by decide +kernel) (gR (K:=K) rfl (aK (n6 hP hw (K:=K) rfl rfl) rfl bl.sorted_ jE (aa (gi (LZ hP hw (K:=K) rfl rfl) rfl bl.set_ Ah (aa (qv 5) ae)) ae))) (fun _ _ _ _ _=>(aH (i:=0) (show P3 [("_law_place" : db),("_law_part" : db)] from by decide +kernel) rfl (l6 rfl))) (fun _ _ _ _ _=>fe) (fun _ _ _ _ _=>(aN (mB (K:=K) rfl) (qv 1) (il (aa (qv 0) ae))))) ae))))))⟩))
  (ao (uE 3 hM (aD (i:=1) bR.nd rfl (l6 rfl) (qv 3))))))⟩))
  (ao (bb (qv 1))))),?_⟩
 subst e;have big:(1000:Nat)<sizeLine :=by decide
 simp! only[];refine⟨kv _,by omega,by omega,by omega,?_⟩
 refine aU (fun k ρ M=>∃x2 x3 x4 x5 x6,ρ=[some (eI row),some (.lst ((dD row k).map eI)),x2,x3,x4,x5,x6]/\k<=row.length/\yS Γ.M0 M/\cn x4/\(∀a,M a=none->Ks M a x5)/\cn x6) ⟨_,_,_,_,_,rfl,kv _,⟨.refl,fun c o e=>.inl e⟩,.none,fun _ _=>.inl rfl,.none⟩ (fun k d ρ M N hd hJ hN=>?_) (fun ρ M hJ=>?_)
 ·obtain⟨x2,x3,x4,x5,x6,rfl,hk,J,p4,p5,p6⟩:=hJ;obtain⟨rfl,uL⟩:=cV hd;simp! only[];refine⟨kv _,fun a ha=>?_⟩
  have J:=J.new ha (.lst []);have a0:=J.a0;have lM:=qN h3 k;have RW:(dD row k).length<=27:=sw lM (by have:3 ^ k<=3 ^ 3:=UN (by decide) (by omega);exact this)
  refine aU (fun j ρ M=>∃x4 x5 x6,ρ=[some (eI row),some (.lst ((dD row k).map eI)),some (.int (k:Nat)),some (.ptr a),x4,x5,x6]/\j<=(dD row k).length/\M a=some (.lst ((((dD row k).take j).flatMap (eQ row)).map eI))/\ju Γ.M0 M a/\cn x4/\Ks M a x5/\cn x6) ⟨_,_,_,rfl,kv _,updM_same,J,p4,?_,p6⟩ (fun j d ρ M N2 hd hJ iu=>?_) (fun ρ M hJ=>?_)
  ·rcases p5 a ha with h|⟨c,o,h1,h2,h5⟩
   ·exact .inl h
   ·exact .inr ⟨c,o,h1,h2,by rw[aj h2];exact h5⟩
  ·obtain⟨x4,x5,x6,rfl,hj,pR,J,p4,p5,p6⟩:=hJ;rw[cr]at hd;obtain⟨part,yT,rfl⟩:=lc.mp hd;have mE:=(br.mp yT).1;have Bt:=im yT;obtain⟨cY,t,ht⟩:=g6.mp Bt;simp! only[];intro c hc;have ca:c≠a:=fun z=>by rw[z,pR]at hc;cases hc
   have c0:=fm J.kp hc;refine aU (fun i ρ M2=>(∃x6,cn x6/\ρ=[some (eI row),some (.lst ((dD row k).map eI)),some (.int (k:Nat)),some (.ptr a),some (eI part),some (.ptr c),x6])/\M2=aw M c (.lst ((dG row (part.take i)).map .int))/\i<=part.length) ⟨⟨_,p6,rfl⟩,rfl,kv _⟩ (fun i d ρ M2 N3 hd hJ uV=>?_) (fun ρ M2 hJ=>?_)
   ·obtain⟨⟨x6,p6,rfl⟩,rfl,hi⟩:=hJ;rw[cr]at hd;obtain⟨x,hx,rfl⟩:=lc.mp hd;have ig:=(br.mp hx).1;have pv:x∈dG row (part.take i) :=by
     have e:part=part.take i++part.drop i:=(Pc i part).symm;rw[e,EM]at ht;refine(ke ht).mem_iff.mpr (FF _ ?_);rw[LP ig];obtain⟨_,hx⟩:=br.mp hx;rw[hx];exact i1
    obtain⟨j2,e1,e2,e3,e4⟩:=DK pv;simp! only[];refine⟨_,j2,rfl,e1,e2,e3,uV _ _ ⟨⟨_,.int _,rfl⟩,?_,ig⟩⟩;rw[e4,LM,hx,Fk,yR]
   ·obtain⟨⟨x6,p6,rfl⟩,rfl,hi⟩:=hJ;rw[cb,DO];have J0:=vh Bt;have An:=nR (dG row part);have Ku:aw M c (.lst ((dG row part).map .int)) a=some (.lst ((((dD row k).take j).flatMap (eQ row)).map eI)) :=by rw[aj (EO ca)];exact pR
    simp! only[Ku,ip,Uk];have Jp:=(sortI_perm (cC (dG row part))).length_eq;refine⟨Nat.lt_of_le_of_lt (show _<=100 by omega) (by decide),by omega,by omega,j6 (Kt part) (fun τ M2=>(∃x,τ=[x,some (eI part)])/\M2=aw M c (.lst ((dG row part).map .int))) ⟨⟨_,rfl⟩,rfl⟩ (fun d hd τ M2 hI R hR=>?_) (fun τ M2 hI=>?_)⟩
    ·obtain⟨⟨x,rfl⟩,rfl⟩:=hI;obtain⟨x,_,rfl⟩:=kt.mp hd;have hR:=hR [some (.int x),some (eI part)] _ ⟨⟨_,rfl⟩,rfl⟩;have e:Kt part (.int x)=.tup (part.map .int++[.int x]) :=by
      show Dv.tup ((part++[x]).map Dv.int)=_;rw[r6];rfl
     rw[e]at hR;simp! only[eI];exact⟨by omega,by omega,hR⟩
    ·obtain⟨⟨x,rfl⟩,rfl⟩:=hI;rw[GC];have Sy:=vi (row:=row) (part:=part);have Kh:(((dD row k).take j).flatMap (eQ row)).length<=81 :=by
      have:=qN h3 (k+1);have e:dD row (k+1)=((dD row k).take j).flatMap (eQ row)++((dD row k).drop j).flatMap (eQ row) :=by
       rw[<- Tw,Pc];rfl
      have e2:=congrArg VG e;rw[rf]at e2;have:3 ^ (k+1)<=3 ^ 4:=UN (by decide) (by omega)
      have:3 ^ 4=81 :=by decide
      omega
     simp only[Ku];refine⟨(fun t e=>by cases e),by rw[cb,cb];omega,iu _ _ ⟨_,_,_,rfl,mE,?_,(J.int c0 _).own _,cn.eI part,.inr ⟨c,.lst ((dG row part).map .int),rfl,ca,by rw[aj ca,updM_same]⟩,p6⟩⟩
     rw[updM_same,LM,yT,Fk,Tw,r6];simp
  ·obtain⟨x4,x5,x6,rfl,hj,pR,J,p4,p5,p6⟩:=hJ;rw[cb,DO]at pR;have na:∀{c o},Γ.M0 c=some o->c≠a:=fun e z=>by rw[z,J.a0]at e;cases e
   refine .inr ⟨a,_,rfl,pR,J.a0,⟨fun j d e=>?_,fun c o e=>?_⟩,?_⟩
   ·match j,e with
    |0,e=>cases e;exact j8 row
    |1,e=>cases e;exact oA _
    |2,e=>cases e;exact .int _
    |3,e=>cases e;exact oA _
    |4,e=>exact p4 _ _ (i4 e)
    |5,e=>
     rcases p5 with rfl|⟨c,o,rfl,h1,h2⟩
     ·exact nomatch e
     ·cases e;exact .ptr (by rw[bK h1,h2];rfl)
    |6,e=>exact p6 _ _ (i4 e)
    |j+7,e=>exact nomatch e
   ·rcases J.drop.oth c o e with h|⟨ns,rfl⟩
    ·exact .inl h
    ·exact .inr (gT ns)
   ·simp! only[];refine hN _ _ ⟨_,_,_,_,_,rfl,uL,J.drop,p4,fun a' rA=>?_,p6⟩
    rcases p5 with h|⟨c,o,h1,h2,h5⟩
    ·exact .inl h
    ·have h6:bX M a c=some o :=by rw[bK h2];exact h5
     exact .inr ⟨c,o,h1,(fun z=>by rw[z,rA]at h6;cases h6),h6⟩
 ·obtain⟨x2,x3,x4,x5,x6,rfl,hk,J,p4,p5,p6⟩:=hJ;rw[rangeD_len,Gv h3];simp! only[];exact iq J.kp (oA _) q
theorem nI (a b:List (List Int)):aO (a++b)=aO a * aO b :=by
 have key:∀(l:List (List Int)) (m:Nat),l.foldl (fun m r=>m * aY r) m=m * l.foldl (fun m r=>m * aY r) 1:=fun l=>by
  induction l with
  |nil=>exact fun m=>(Nat.mul_one m).symm
  |cons r l ih=>intro m;rw[ON,ON,ih (m * aY r),ih (1 * aY r),Nat.one_mul,Nat.mul_assoc]
 unfold aO;rw[IR,key]
theorem pU (net:List (List Int)):0<aO net :=by
 induction net with
 |nil=>exact Nat.one_pos
 |cons r l ih=>
  have:=nI [r] l;rw[List.singleton_append]at this;rw[this];refine Nat.mul_pos ?_ ih;show 0<1 * aY r;rw[Nat.one_mul];exact gZ r
theorem yU {net:List (List Int)}:∀k,aO (net.take k)<=aO net:=fun k=>by
 have e:=nI (net.take k) (net.drop k);rw[Pc]at e;have:=pU (net.drop k);rw[e];exact Nat.le_mul_of_pos_right _ this
def Kv (p:List (List Int)):Dv->Dv
 | .tup ds=>.tup (p.map eI++[.tup ds])
 |d=>d
theorem GD (p:List (List Int)) (os:List (List Int)):(os.map eI).map (Kv p)=(os.map fun o=>p++[o]).map eN :=by
 rw[AL,AL];refine SH fun o _=>?_
 show Dv.tup (p.map eI++[eI o])=Dv.tup ((p++[o]).map eI);rw[r6];rfl
theorem vj {M:Mh}(ns:List (List (List Int))):Pin M (.lst (ns.map eN)):=.lst fun d hd=>by
 obtain⟨r,_,rfl⟩:=kt.mp hd;exact j9 r
def E1:ez:=fun ds M Q _=>∃net n,ds=[eN net]/\cO net n/\aO net<65/\Q (.lst ((eH net).map eN)) M
theorem DM (net:List (List Int)):(eH net).length=aO net :=by rw[mM,cb,Cf]
theorem yV {f f1:ap}{fd cF:rc}(D:Df K mg "_law_all" gG ["_law_net_here"] f fd)
  (bp:Df K mg "_law_orders" dr ["_law_row"] f1 cF) (iy:FnOk P w K mg base bF 1 f1 cF ["_law_row"] (aX P w K tb DL)) (bl:Bl mg) :
  FnOk P w K mg base bF 2 f fd ["_law_net_here"] (aX P w K tb E1) :=by
 refine gC D eE (fun ds M Q E hS=>by obtain⟨net,n,e,_⟩:=hS;rw[e];rfl) fun A outer s E Γ ds Q' E' hP hw hK ht hr hS=>?_
 obtain⟨net,n,e,O,Sz,q⟩:=hS;refine⟨_,(af (aD (i:=1) eE.nd rfl (l6 rfl) (j1 (aa (il ae) ae)))
  (af (qp qr rfl (eX (K:=K) rfl (qv 0)) (fun gm M1 hM eP ew eK et=>by have hP:=hP.trans eP.symm;have hw:=hw.trans ew.symm;have hK:=hK.trans eK.symm;have ht:=ht.trans et.symm;exact⟨(aH (i:=2) eE.nd rfl (l6 rfl)),(af (aD (i:=3) eE.nd rfl (l6 rfl) (gQ ae))
  (af (bW qr rfl (gR (K:=K) rfl (qv 1)) (fun gm eP ew eK et=>by have hP:=hP.trans eP.symm;have hw:=hw.trans ew.symm;have hK:=hK.trans eK.symm;have ht:=ht.trans et.symm;exact⟨(aH (i:=4) eE.nd rfl (Td rfl)),(ao (eB (iL (K:=K) rfl AE PySem.F.slot_list_extend PySem.F.type_list_extend uz (qv 3) (aa (eC (N':=["_law_order_here","_law_part"]) (tn:=1) (idx:=[4]) rfl (show aT ["_law_net_here","_law_found","_law_row","_law_longer","_law_part"] (au gG) _ ["_law_order_here","_law_part"] 1 [4] from by decide +kernel) (gR (K:=K) rfl (aB iy (hr.mono (by decide)) rfl bp.mg bp.fn.kp bp.bd bE hP hw hK ht XR.none (aa (qv 2) ae))) (fun _ _ _ _ _=>(aH (i:=0) (show P3 [("_law_order_here" : db),("_law_part" : db)] from by decide +kernel) rfl (l6 rfl))) (fun _ _ _ _ _=>fe) (fun _ _ _ _ _=>(aN (mB (K:=K) rfl) (qv 1) (il (aa (qv 0) ae))))) ae))))⟩))
  (ao (uE 3 hM (aD (i:=1) eE.nd rfl (l6 rfl) (qv 3))))))⟩))
  (ao (bb (qv 1))))),?_⟩
 subst e;have h9:=O.nine;have big:(1000:Nat)<sizeLine :=by decide
 simp! only[];refine⟨kv _,by omega,?_⟩
 refine aU (fun k ρ M=>(∃x2 x3 x4,cn x4/\ρ=[some (eN net),some (.lst ((eH (net.take k)).map eN)),x2,x3,x4])/\M=Γ.M0/\k<=net.length) ⟨⟨_,_,_,.none,rfl⟩,rfl,kv _⟩ (fun k d ρ M N hd hJ hN=>?_) (fun ρ M hJ=>?_)
 ·obtain⟨⟨x2,x3,x4,p4,rfl⟩,rfl,hk⟩:=hJ;rw[cr]at hd;obtain⟨r,hr,rfl⟩:=lc.mp hd;have aQ:=(br.mp hr).1;have h3:=eD O (im hr);have et:net.take (k+1)=net.take k++[r] :=by rw[LM,hr,Fk]
  have tV:=yU (net:=net) (k+1);rw[et,gI]at tV;have RC:=DM (net.take k);have c0:=gZ r;have BC:(eH (net.take k)).length * aY r<=64 :=by rw[RC];omega
  have RX:(eH (net.take k)).length<=64:=sw (Nat.le_mul_of_pos_right _ c0) BC;have c6:=iR h3;have NW:(ay 3 r).length<=6:=c6;simp! only[];refine⟨kv _,fun a ha=>?_⟩
  refine aU (fun j ρ M=>(∃x4,cn x4/\ρ=[some (eN net),some (.lst ((eH (net.take k)).map eN)),some (eI r),some (.ptr a),x4])/\j<=(eH (net.take k)).length/\M=aw Γ.M0 a (.lst ((((eH (net.take k)).take j).flatMap fun p=>(ay 3 r).map fun o=>p++[o]).map eN))) ⟨⟨_,p4,rfl⟩,kv _,rfl⟩ (fun j d ρ M N2 hd hJ iu=>?_) (fun ρ M hJ=>?_)
  ·obtain⟨⟨x4,p4,rfl⟩,hj,rfl⟩:=hJ;rw[cr]at hd;obtain⟨p,hp,rfl⟩:=lc.mp hd;have mE:=(br.mp hp).1;have RO:p.length=k :=by
    have:=im hp;rw[mM,kt]at this;obtain⟨m,_,rfl⟩:=this;unfold bI;rw[sK,m6,sK,FM];omega
   simp! only[];refine⟨r,rfl,h3,?_⟩;simp! only[];refine⟨by omega,j6 (Kv p) (fun τ M2=>(∃x,τ=[x,some (eN p)])/\M2=aw Γ.M0 a (.lst ((((eH (net.take k)).take j).flatMap fun p=>(ay 3 r).map fun o=>p++[o]).map eN))) ⟨⟨_,rfl⟩,rfl⟩ (fun d hd τ M2 hI R hR=>?_) (fun τ M2 hI=>?_)⟩
   ·obtain⟨⟨x,rfl⟩,rfl⟩:=hI;obtain⟨o,_,rfl⟩:=kt.mp hd;have hR:=hR [some (eI o),some (eN p)] _ ⟨⟨_,rfl⟩,rfl⟩;have e:Kv p (eI o)=.tup (p.map eI++[eI o]):=rfl;rw[e]at hR;simp! only[eN];exact⟨by omega,by omega,hR⟩
   ·obtain⟨⟨x,rfl⟩,rfl⟩:=hI;rw[GD];have fl:∀l:List (List (List Int)),(l.flatMap fun p=>(ay 3 r).map fun o=>p++[o]).length=l.length * aY r:=fun l=>by
     induction l with
     |nil=>exact(Nat.zero_mul _).symm
     |cons p l ih=>rw[List.flatMap_cons,rf,ih,cb,xw,UA,TM];rfl
    have ft:=fl ((eH (net.take k)).take j);have fb:((eH (net.take k)).take j).length * aY r<=(eH (net.take k)).length * aY r:=Nat.mul_le_mul_right _ (List.length_take_le' _ _);simp only[updM_same];refine⟨(fun t e=>by cases e),by rw[cb,cb,cb];omega,iu _ _ ⟨⟨some (eN p),fun M _ h=>by cases h;exact j9 p,rfl⟩,mE,?_⟩⟩
    rw[updM_updM,LM,hp,Fk,Tw,r6];simp
  ·obtain⟨⟨x4,p4,rfl⟩,hj,rfl⟩:=hJ;rw[cb,DO,<- rY,<- et];have dm:bX (aw Γ.M0 a (.lst ((eH (net.take (k+1))).map eN))) a=Γ.M0:=yz ha;refine .inr ⟨a,_,rfl,updM_same,ha,⟨fun j d e=>?_,fun c o e=>?_⟩,?_⟩
   ·rw[dm];match j,e with
    |0,e=>cases e;exact j9 net
    |1,e=>cases e;exact vj _
    |2,e=>cases e;exact j8 r
    |3,e=>cases e;exact vj _
    |4,e=>exact p4 _ _ (i4 e)
    |j+5,e=>exact nomatch e
   ·rw[dm]at e;exact .inl e
   ·rw[dm];simp! only[];exact hN _ _ ⟨⟨_,_,_,p4,rfl⟩,rfl,aQ⟩
 ·obtain⟨⟨x2,x3,x4,p4,rfl⟩,rfl,hk⟩:=hJ;rw[cb,DO];simp! only[];exact .inl q
end
section
theorem pV {β:Type}(F:List Int->β) (hF:∀x r:List Int,r.length<=3->x.Perm r->F x=F r):∀(l:List (List Int)) (m:Nat),(∀r∈l,r.length<=3)->(iE l m).map F=l.map F
 | [],m,_=>rfl
 |r::l,m,h=>by
          show F ((ay 3 r).getD (m % aY r) [])::(iE l (m / aY r)).map F=F r::l.map F;rw[pV F hF l _ fun x hx=>h x (dL _ hx),hF _ r (h r i1) (kc (h r i1) (BM (c:=ay 3 r) (i:=m % aY r) (SR _ (gZ r))))]
theorem made_map {β:Type}(F:List Int->β) (hF:∀x r:List Int,r.length<=3->x.Perm r->F x=F r) {net:List (List Int)}(m:Nat) (h:∀r∈net,r.length<=3):(bI net m).map F=net.map F :=by
 unfold bI;rw[Uq,pV F hF _ _ fun r hr=>h r (Tn.mp hr),Uq,MW]
theorem oB {net:List (List Int)}{m:Nat}:(bI net m).length=net.length :=by unfold bI;rw[sK,m6,sK]
theorem kZ {net:List (List Int)}{n:Nat}(O:cO net n):∀r∈net,r.length<=3:=fun _ h=>eD O h
theorem GF {net:List (List Int)}{n:Nat}(O:cO net n) (m:Nat):cO (bI net m) n :=by
 refine⟨by rw[oB];exact O.one,by rw[oB];exact O.nine,O.wid,fun x hx=>?_⟩
 have e:=made_map (fun r=>(r.length=n/\∀y∈r,0<=y/\y<(net.length:Int))) (fun x r _ p=>by
  rw[p.length_eq];refine propext ⟨fun⟨a,b⟩=>⟨a,fun y hy=>b y (p.mem_iff.mpr hy)⟩,fun⟨a,b⟩=>⟨a,fun y hy=>b y (p.mem_iff.mp hy)⟩⟩) m (kZ O)
 rw[oB];have hm:=List.mem_map_of_mem (f:=fun r=>(r.length=n/\∀y∈r,0<=y/\y<(net.length:Int))) hx
 rw[e,kt]at hm;obtain⟨r,hr,er⟩:=hm;rw[<- er];exact O.row r hr
theorem DN (l:List (List Int)):∀c∈l.map (ay 3),0<c.length/\c.Nodup:=fun c hc=>by
 obtain⟨r,_,rfl⟩:=kt.mp hc;exact⟨gZ r,BK⟩
theorem DP {net:List (List Int)}{n:Nat}(O:cO net n) {m:Nat}(hm:m<aO net):jt (bI net m)=m :=by
 unfold bI;rw[xr,pV (ay 3) (fun x r h p=>vb h p) _ _ fun r hr=>eD O (Tn.mp hr),mL]
 rw[jK]at hm;exact xq (DN _) hm
theorem BQ {net:List (List Int)}{n:Nat}(O:cO net n) (m:Nat):aO (bI net m)=aO net :=by
 unfold bI;rw[vc,pV (ay 3) (fun x r h p=>vb h p) _ _ fun r hr=>eD O (Tn.mp hr),<- jK]
theorem vk:∀{l:List (List Int)},(∀r∈l,r.length<=3)->DG (l.map (ay 3)) l
 | [],_=>trivial
 |r::l,h=>⟨g5 (h r i1) (.refl r),vk fun x hx=>h x (dL _ hx)⟩
theorem DQ {net:List (List Int)}{n:Nat}(O:cO net n):bI net (jt net)=net/\jt net<aO net :=by
 have e:=xr net.reverse;rw[MW]at e;obtain⟨h1,h2⟩:=dec_enc (vk (l:=net.reverse) fun r hr=>eD O (Tn.mp hr))
 rw[<- e]at h1 h2;refine⟨?_,by rw[jK];exact h2⟩
 unfold bI;rw[mL,h1,MW]
theorem GH {net:List (List Int)}{m:Nat}(hm:m+1<aO net):eG (bI net m) (bI net (m+1))=true :=by
 unfold bI;rw[mL,mL];rw[jK]at hm;exact dec_lt (fun c hc=>by obtain⟨r,_,rfl⟩:=kt.mp hc;exact m7) hm
theorem BR {net:List (List Int)}{n:Nat}(O:cO net n) (m:Nat):(bI net m).map sortI=net.map sortI:=
 made_map sortI (fun x r _ p=>t7 ((sortI_perm x).trans p) (nU x)) m (kZ O)
end
section
variable {P:ii}{w:ij}{K:bn}{mg:db->Option am}{base:i0}{tb:dR}{C_NoNumber:ap}
theorem iF:aZ ["_law_net_here","_law_number","_law_whole","_law_made"] ["_law_net_here","_law_number","_law_whole"] (au cm):=⟨rfl,rfl,rfl,by decide +kernel,rfl,by decide +kernel,by decide +kernel⟩
theorem mO {d:Dv}{t:Dt}{M:Mh}{Q:ZK}(h:aW (now M d)=some t) (hp:dF t<=60) (q:Q (.bl false) M):my true d d M Q :=by
 unfold my;rw[h];refine⟨hp,?_⟩;rw[ko];exact q
def Kw:Dv->Dv
 | .tup ds=>fI (sortI ((fh ds).getD []))
 |d=>d
theorem GI (rs:List (List Int)):(rs.map eI).map Kw=(rs.map sortI).map fI :=by
 rw[AL,AL];refine SH fun r _=>?_
 show fI (sortI ((fh (r.map Dv.int)).getD []))=fI (sortI r);rw[ip];rfl
theorem Kx (rs:List (List Int)):aW (.lst (rs.map fI))=some (.lst (rs.map fun r=>Dt.lst (r.map Dt.int))) :=by
 simp only[aW,j7 (f:=fI) (g:=fun r=>Dt.lst (r.map Dt.int)) (fun ns=>by simp only[fI,aW,kM,AS]) rs,AS]
theorem Ky (rs:List (List Int)):dF (.lst (rs.map fun r=>Dt.lst (r.map Dt.int)))<=60 :=by
 rw[dF];have:=jj (n:=1) (ds:=rs.map fun r=>Dt.lst (r.map Dt.int)) fun d hd=>by
  obtain⟨x,_,rfl⟩:=kt.mp hd;rw[dF];have:=mX x;omega
 omega
theorem nJ {rs:List (List Int)}(h:∀r∈rs,r.length<=3) {M:Mh}{Q:List Dv->Mh->Prop}(q:Q ((rs.map sortI).map fI) M):fU (zgName 0) zNoIf (zCB (z1 zSorted) (zCons (zVar 0) zNil)) (rs.map eI) [none] M Q :=by
 refine j6 Kw (fun τ M'=>(∃x,τ=[x])/\M'=M) ⟨⟨_,rfl⟩,rfl⟩ (fun d hd τ M' hI R hR=>?_) (fun τ M' hI=>?_)
 ·obtain⟨⟨x,rfl⟩,rfl⟩:=hI;obtain⟨r,hr,rfl⟩:=kt.mp hd;have h3:=h r hr;have hR:=hR [some (eI r)] M' ⟨⟨_,rfl⟩,rfl⟩;have e:Kw (eI r)=fI (sortI r) :=by show fI (sortI ((fh (r.map Dv.int)).getD []))=_;rw[ip];rfl
  rw[e]at hR;simp! only[ip,Uk];exact⟨by omega,hR⟩
 ·obtain⟨⟨x,rfl⟩,rfl⟩:=hI;rw[GI];exact q
def Kz:ez:=fun ds M Q _=>∃net n m,ds=[eN net,.int (m:Nat),.int (aO net:Nat)]/\cO net n/\m<aO net/\Q (.bl true) M
theorem oC {f f1 f2 f3:ap}{fd cF fd2 mK:rc}(D:Df K mg "_law_of_number" cm ["_law_net_here","_law_number","_law_whole"] f fd)
  (bh:Df K mg "signing" ir ["net","number"] f1 cF) (dS:FnOk P w K mg base (d8 P w) 9 f1 cF ["net","number"] (aX P w K tb (yO C_NoNumber)))
  (bN:Df K mg "number_of" fK ["net"] f2 fd2) (jN:FnOk P w K mg base (d8 P w) 8 f2 fd2 ["net"] (aX P w K tb DJ))
  (a9:Df K mg "signings" fj ["net"] f3 mK) (cS:FnOk P w K mg base (d8 P w) 8 f3 mK ["net"] (aX P w K tb yN)) (bl:Bl mg) :
  FnOk P w K mg base bF 10 f fd ["_law_net_here","_law_number","_law_whole"] (aX P w K tb Kz) :=by
 refine gC D iF (fun ds M Q E hS=>by obtain⟨net,n,m,e,_⟩:=hS;rw[e];rfl) fun A outer s E Γ ds Q' E' hP hw hK ht hr hS=>?_
 obtain⟨net,n,m,e,O,hm,q⟩:=hS;refine⟨_,(af (aD (i:=3) iF.nd rfl (l6 rfl) (aB dS (hr.mono (by decide)) rfl bh.mg bh.fn.kp bh.bd jF hP hw hK ht XR.none (aa (qv 0) (aa (qv 1) ae))))
  (af (dg (QW.pt (pA (bL yu (aB jN (hr.mono (by decide)) rfl bN.mg bN.fn.kp bN.bd jF hP hw hK ht XR.none (aa (qv 3) ae)) (qv 1) (bM _)) (mq (bL (yw hr.units) (eC (N':=["_law_row"]) (tn:=1) (idx:=[]) rfl (show aT ["_law_net_here","_law_number","_law_whole","_law_made"] (au cm) _ ["_law_row"] 1 [] from by decide +kernel) (eX (K:=K) rfl (qv 3)) (fun _ _ _ _ _=>(aH (i:=0) (show P3 [("_law_row" : db)] from by decide +kernel) rfl (l6 rfl))) (fun _ _ _ _ _=>fe) (fun _ _ _ _ _=>(aK (n6 hP hw (K:=K) rfl rfl) rfl bl.sorted_ jE (aa (qv 0) ae)))) (eC (N':=["_law_row"]) (tn:=1) (idx:=[]) rfl (show aT ["_law_net_here","_law_number","_law_whole","_law_made"] (au cm) _ ["_law_row"] 1 [] from by decide +kernel) (eX (K:=K) rfl (qv 0)) (fun _ _ _ _ _=>(aH (i:=0) (show P3 [("_law_row" : db)] from by decide +kernel) rfl (l6 rfl))) (fun _ _ _ _ _=>fe) (fun _ _ _ _ _=>(aK (n6 hP hw (K:=K) rfl rfl) rfl bl.sorted_ jE (aa (qv 0) ae)))) (bM _)))))
   (ao (bb g7))
   qss_nil)
  (af (dg (QW.pt (pA (jg (jf (aK (jh (K:=K) rfl) rfl bl.isinstance_ d7 (aa (qv 3) (aa (jZ (v:=.ty "tuple") rfl bl.tuple_ fS rfl) ae))))) (mq (bL yu (aB cS (hr.mono (by decide)) rfl a9.mg a9.fn.kp a9.bd jF hP hw hK ht XR.none (aa (qv 3) ae)) (qv 2) (bM _)))))
   (ao (bb g7))
   qss_nil)
  (ao (bb (LQ (qo qt (qv 1) aq (bM _)) (ur (qo (L9 hr.units) (aB dS (hr.mono (by decide)) rfl bh.mg bh.fn.kp bh.bd jF hP hw hK ht XR.none (aa (qv 0) (aa (aN pE (qv 1) aq) ae))) (qv 3) (bM _))))))))),?_⟩
 subst e;have h9:=O.nine;have big:(1000:Nat)<sizeLine :=by decide
 have OM:=GF O m;have SA:=OM.nine;have bw:∀i:Nat,i<aO net->cG (aO net:Nat) (.int (i:Nat))=false->False:=fun i hi hb=>by
  simp only[cG,Bool.and_eq_false_iff,decide_eq_false_iff_not]at hb;omega
 simp! only[];refine⟨net,n,_,rfl,O,rfl,fun m' e _=>?_,fun hb=>bw m hm hb⟩
 have e:m=m':=by have:=Dv.int.inj e;omega
 subst e;simp! only[];refine⟨_,n,rfl,OM,?_⟩;rw[DP O hm];simp! only[];refine⟨by omega,nJ (kZ OM) ⟨by omega,nJ (kZ O) ?_⟩⟩
 rw[BR O m];refine mO (Kx _) (Ky _) ?_;simp only[zBool,c8,if_false];refine⟨by decide,_,n,rfl,OM,?_⟩
 rw[BQ O];simp! only[xz,c8,if_false];refine gD (fun h=>.inl q) (fun h=>?_)
 have h:=of_decide_eq_false h;obtain⟨k,rfl⟩:∃k,m=k+1:=⟨m - 1,by omega⟩
 refine⟨net,n,_,rfl,O,rfl,fun m' e _=>?_,fun hb=>?_⟩
 ·have e:k=m':=by have:=Dv.int.inj e;omega
  subst e;exact⟨_,_,rfl,rfl,by rw[GH hm];exact .inl q⟩
 ·have e:((k+1:Nat):Int) - 1=(k:Nat) :=by omega
  rw[e]at hb;exact(bw k (by omega) hb).elim
theorem gJ:aZ ["_law_script","_law_k","_law_bag_here","_law_net_here","_law_whole","_law_row","_law_number","_law_one"] ["_law_script"] (au sM):=⟨rfl,rfl,rfl,by decide +kernel,rfl,by decide +kernel,by decide +kernel⟩
theorem DR {net:List (List Int)}{n:Nat}(O:cO net n):aO net<=10077696 :=by
 have key:∀(l:List (List Int)) (m:Nat),(∀r∈l,aY r<=6)->l.foldl (fun m r=>m * aY r) m<=m * 6 ^ l.length:=fun l=>by
  induction l with
  |nil=>intro m _;simp
  |cons r l ih=>
   intro m h;have h1:=ih (m * aY r) fun x hx=>h x (dL _ hx)
   have h2:=UP m (h r i1);have h3:=Nat.mul_le_mul_right (6 ^ l.length) h2;rw[ON,xw,Nat.pow_succ,TN (6 ^ l.length),<- Nat.mul_assoc];exact sw h1 h3
 have h:=key net 1 fun r hr=>iR (eD O hr)
 have h9:6 ^ net.length<=6 ^ 9:=UN (by decide) O.nine
 have:(6:Nat) ^ 9=10077696 :=by decide
 unfold aO;omega
def NX (net:List (List Int)):Dv->Dv
 | .int m=>eN (bI net m.toNat)
 |d=>d
theorem GJ (net:List (List Int)) (k:Nat):(dw 0 k).map (NX net)=((i8 k).map (bI net)).map eN :=by
 unfold dw;rw[AL,AL];refine SH fun i _=>?_
 show eN (bI net ((0:Int)+(i:Int)).toNat)=eN (bI net i);rw[OF,xL]
theorem GK (ns:List (List (List Int))):aW (.lst (ns.map eN))=some (.lst (ns.map rL)) :=by
 simp only[aW,j7 (f:=eN) (g:=rL) EB ns,AS]
theorem GL (ns:List (List (List Int))):dF (.lst (ns.map rL))<=60 :=by
 rw[dF];have:=jj (n:=2) (ds:=ns.map rL) fun d hd=>by
  obtain⟨x,_,rfl⟩:=kt.mp hd;exact wW x
 omega
theorem KA {f f1 f2 f3 f4 f5 f6 f7 f8 f9 NY:ap}{fd cF fd2 mK NZ N0 N1 N4 N5 N6 KC:rc}(D:Df K mg "law" sM ["_law_script"] f fd)
  (fu:Df K mg "_law_bag" iN ["_law_script","_law_at"] f1 cF) (yW:FnOk P w K mg base bF 1 f1 cF ["_law_script","_law_at"] (aX P w K tb Ka))
  (fv:Df K mg "_law_net" dZ ["_law_bag_here","_law_most"] f2 fd2) (yX:FnOk P w K mg base bF 3 f2 fd2 ["_law_bag_here","_law_most"] (aX P w K tb ER))
  (ah:Df K mg "_law_take" dB ["_law_bag_here","_law_many"] f3 mK) (bf:FnOk P w K mg base bF 1 f3 mK ["_law_bag_here","_law_many"] (aX P w K tb pQ))
  (a7:Df K mg "_law_alike_now_and_then" bT ["_law_bag_here","_law_net_here"] f4 NZ) (iO:FnOk P w K mg base bF 2 f4 NZ ["_law_bag_here","_law_net_here"] (aX P w K tb Kq))
  (bp:Df K mg "_law_orders" dr ["_law_row"] f5 N0) (iy:FnOk P w K mg base bF 1 f5 N0 ["_law_row"] (aX P w K tb DL))
  (a9:Df K mg "signings" fj ["net"] f6 N1) (cS:FnOk P w K mg base (d8 P w) 8 f6 N1 ["net"] (aX P w K tb yN))
  (bh:Df K mg "signing" ir ["net","number"] f7 N4) (dS:FnOk P w K mg base (d8 P w) 9 f7 N4 ["net","number"] (aX P w K tb (yO C_NoNumber)))
  (bN:Df K mg "number_of" fK ["net"] f8 N5) (jN:FnOk P w K mg base (d8 P w) 8 f8 N5 ["net"] (aX P w K tb DJ))
  (cu:Df K mg "_law_of_number" cm ["_law_net_here","_law_number","_law_whole"] f9 N6) (oD:FnOk P w K mg base bF 10 f9 N6 ["_law_net_here","_law_number","_law_whole"] (aX P w K tb Kz))
  (fw:Df K mg "_law_all" gG ["_law_net_here"] NY KC) (yY:FnOk P w K mg base bF 2 NY KC ["_law_net_here"] (aX P w K tb E1)) (bl:Bl mg) :
  FnOk P w K mg base bF 11 f fd ["_law_script"] (aX P w K tb JO) :=by
 refine gC D gJ (fun ds M Q E hS=>by obtain⟨ns,e,_⟩:=hS;rw[e];rfl) fun A outer s E Γ ds Q' E' hP hw hK ht hr hS=>?_
 obtain⟨ns,e,hl,hM,q⟩:=hS;refine⟨_,(af (bW qr rfl (cE rfl bl.range_ (aa (aK (JH rfl) rfl bl.max_ Iy (aa aq (aa (aK (ux rfl) rfl bl.min_ tO (aa aq (aa (aK (fg (K:=K) rfl hK) rfl bl.len_ CS (aa (qv 0) ae)) ae))) ae))) ae)) (fun gm eP ew eK et=>by have hP:=hP.trans eP.symm;have hw:=hw.trans ew.symm;have hK:=hK.trans eK.symm;have ht:=ht.trans et.symm;exact⟨(aH (i:=1) gJ.nd rfl (l6 rfl)),(af (aD (i:=2) gJ.nd rfl (l6 rfl) (aB yW (hr.mono (by decide)) rfl fu.mg fu.fn.kp fu.bd bE hP hw hK ht XR.none (aa (qv 0) (aa (qv 1) ae))))
  (af (aD (i:=3) gJ.nd rfl (Td rfl) (aB iO (hr.mono (by decide)) rfl a7.mg a7.fn.kp a7.bd bE hP hw hK ht XR.none (aa (qv 2) (aa (aB yX (hr.mono (by decide)) rfl fv.mg fv.fn.kp fv.bd bE hP hw hK ht XR.none (aa (qv 2) (aa aq ae))) ae))))
  (af (aD (i:=4) gJ.nd rfl (l6 rfl) aq)
  (af (bW qr rfl (eX (K:=K) rfl (qv 3)) (fun gm eP ew eK et=>by have hP:=hP.trans eP.symm;have hw:=hw.trans ew.symm;have hK:=hK.trans eK.symm;have ht:=ht.trans et.symm;exact⟨(aH (i:=5) gJ.nd rfl (l6 rfl)),(ao (aD (i:=4) gJ.nd rfl (l6 rfl) (aN iK (qv 4) (aK (fg (K:=K) rfl hK) rfl bl.len_ CS (aa (aB iy (hr.mono (by decide)) rfl bp.mg bp.fn.kp bp.bd bE hP hw hK ht XR.none (aa (qv 5) ae)) ae)))))⟩))
  (af (dg (QW.pt (pA (bL yu (aB cS (hr.mono (by decide)) rfl a9.mg a9.fn.kp a9.bd jF hP hw hK ht XR.none (aa (qv 3) ae)) (qv 4) (bM _)) (mq (bL (yw hr.units) (aB dS (hr.mono (by decide)) rfl bh.mg bh.fn.kp bh.bd jF hP hw hK ht XR.none (aa (qv 3) (aa (aB jN (hr.mono (by decide)) rfl bN.mg bN.fn.kp bN.bd jF hP hw hK ht XR.none (aa (qv 3) ae)) ae))) (qv 3) (bM _)))))
   (ao (bb g7))
   qss_nil)
  (af (aD (i:=6) gJ.nd rfl (l6 rfl) (cQ (eY (K:=K) rfl) (j1 (aa (aB bf (hr.mono (by decide)) rfl ah.mg ah.fn.kp ah.bd bE hP hw hK ht XR.none (aa (qv 2) (aa (qv 4) ae))) (aa (aN pE (qv 4) aq) ae))) (gi JI rfl bl.int_ z5 (aa (qo qt (aB bf (hr.mono (by decide)) rfl ah.mg ah.fn.kp ah.bd bE hP hw hK ht XR.none (aa (qv 2) (aa aq ae))) aq (bM _)) ae)) (fun _ _=>rfl)))
  (af (bW qr rfl (gR (K:=K) rfl (j1 (aa (qv 6) (aa aq (aa (aN pE (qv 4) aq) ae))))) (fun gm eP ew eK et=>by have hP:=hP.trans eP.symm;have hw:=hw.trans ew.symm;have hK:=hK.trans eK.symm;have ht:=ht.trans et.symm;exact⟨(aH (i:=7) gJ.nd rfl (l6 rfl)),(ao (dg (jg (jf (aB oD (hr.mono (by decide)) rfl cu.mg cu.fn.kp cu.bd bE hP hw hK ht XR.none (aa (qv 3) (aa (qv 7) (aa (qv 4) ae))))))
   (ao (bb g7))
   qss_nil))⟩))
  (ao (dg (QW.pt (Jy (bL uv (qv 4) aq (bM _)) (FW (bL (yw hr.units) (eC (N':=["_law_one","_law_net_here"]) (tn:=1) (idx:=[3]) rfl (show aT ["_law_script","_law_k","_law_bag_here","_law_net_here","_law_whole","_law_row","_law_number","_law_one"] (au sM) _ ["_law_one","_law_net_here"] 1 [3] from by decide +kernel) (cE rfl bl.range_ (aa (qv 4) ae)) (fun _ _ _ _ _=>(aH (i:=0) (show P3 [("_law_one" : db),("_law_net_here" : db)] from by decide +kernel) rfl (l6 rfl))) (fun _ _ _ _ _=>fe) (fun _ _ _ _ _=>(aB dS (hr.mono (by decide)) rfl bh.mg bh.fn.kp bh.bd jF hP hw hK ht XR.none (aa (qv 1) (aa (qv 0) ae))))) (aB yY (hr.mono (by decide)) rfl fw.mg fw.fn.kp fw.bd bE hP hw hK ht XR.none (aa (qv 3) ae)) (bM _)))))
   (ao (bb g7))
   qss_nil)))))))))⟩))
  (ao (bb g7))),?_⟩
 subst e;simp! only[];refine⟨by split<;>split<;>omega,by split<;>split<;>omega,?_⟩
 refine aU (fun k ρ M=>∃x1 x2 x3 x4 x5 x6 x7,ρ=[some (.bo ns),x1,x2,x3,x4,x5,x6,x7]) ⟨_,_,_,_,_,_,_,rfl⟩ (fun k d ρ M N hd hJ hN=>?_) (fun ρ M _=>.inl (q _))
 obtain⟨x1,x2,x3,x4,x5,x6,x7,rfl⟩:=hJ;obtain⟨rfl,hk⟩:=cV hd;have hk:k<=20 :=by split at hk<;>split at hk<;>omega
 have big:(10000:Nat)<sizeLine :=by decide
 simp only[zgName,SU,SV,OF];refine yA (fun ρ M=>∃(b:ap) (net:List (List Int)) (n:Nat),cO net n/\M b=some .dj/\ρ=[some (.bo ns),some (.int (k:Nat)),some (.ptr b),some (eN net),x4,x5,x6,x7]) (fun N2 iu=>?_) ?_
 ·dsimp! only[];refine⟨ns,_,rfl,hl,by omega,by omega,fun b hb=>?_⟩
  refine⟨b,9,rfl,updM_same,by omega,by omega,fun net n O _=>?_⟩
  exact⟨b,net,n,rfl,updM_same,O,fun yQ O'=>iu _ _ ⟨b,yQ,n,O',updM_same,rfl⟩⟩
 rintro ρ M ⟨b,net,n,O,hb,rfl⟩;have h9:=O.nine;have hp:=pU net;have hle:=DR O;refine yA (fun ρ M2=>M2=M/\∃x5,ρ=[some (.bo ns),some (.int (k:Nat)),some (.ptr b),some (eN net),some (.int (aO net:Nat)),x5,x6,x7]) (fun N2 iu=>?_) ?_
 ·dsimp! only[];refine aU (fun j ρ M2=>M2=M/\(∃x5,ρ=[some (.bo ns),some (.int (k:Nat)),some (.ptr b),some (eN net),some (.int (aO (net.take j):Nat)),x5,x6,x7])/\j<=net.length) ⟨rfl,⟨_,rfl⟩,kv _⟩ (fun j d ρ M2 N3 hd hJ uV=>?_) (fun ρ M2 hJ=>?_)
  ·obtain⟨rfl,⟨x5,rfl⟩,hj⟩:=hJ;rw[cr]at hd;obtain⟨r,hr,rfl⟩:=lc.mp hd;have aQ:=(br.mp hr).1;have h3:=eD O (im hr);have c6:=iR h3;have NW:(ay 3 r).length<=6:=c6;dsimp! only[];refine⟨r,rfl,h3,?_⟩;dsimp! only[];refine⟨.inr ⟨by omega,by omega⟩,uV _ _ ⟨rfl,⟨some (eI r),?_⟩,aQ⟩⟩
   rw[LM,hr,Fk,gI,UL];rfl
  ·obtain⟨rfl,⟨x5,rfl⟩,hj⟩:=hJ;rw[cb,DO];exact iu _ _ ⟨rfl,_,rfl⟩
 rintro ρ M2 ⟨rfl,x5,rfl⟩;have bw:∀i:Nat,i<aO net->cG (aO net:Nat) (.int (i:Nat))=false->False:=fun i hi hb=>by
  simp only[cG,Bool.and_eq_false_iff,decide_eq_false_iff_not]at hb;omega
 dsimp! only[];refine⟨net,n,rfl,O,?_⟩;dsimp! only[];refine⟨net,n,rfl,O,?_⟩;obtain⟨Ej,w6⟩:=DQ O;refine⟨net,n,_,rfl,O,rfl,fun m e _=>?_,fun hb=>bw _ w6 hb⟩
 have e:jt net=m :=by have:=Dv.int.inj e;omega
 subst e;rw[Ej];refine mO (EB net) (sw (wW net) (by decide)) ?_
 simp only[zBool,c8,if_false];refine⟨b,_,rfl,hb,by omega,by omega,fun t ht=>?_⟩
 refine⟨by decide,b,_,rfl,hb,by omega,by omega,fun u hu=>?_⟩
 obtain⟨m0,em,RD⟩:∃m0:Nat,cZ [Dv.int (t:Nat),.int ((aO net:Nat) - 1)] (if decide ((u:Int)=1)=true then 1 else 0)=some (.int (m0:Nat))/\m0<aO net :=by
  by_cases h:(u:Int)=1
  ·rw[if_pos (decide_eq_true h)];refine⟨aO net - 1,?_,by omega⟩
   show some (Dv.int ((aO net:Nat) - 1))=_;rw[Int.natCast_sub hp];rfl
  ·rw[if_neg (by rw[decide_eq_false h];exact hX)]
   exact⟨t,rfl,by omega⟩
 dsimp! only[em];refine⟨by decide,aU (fun j ρ M3=>M3=M2/\∃x7,ρ=[some (.bo ns),some (.int (k:Nat)),some (.ptr b),some (eN net),some (.int (aO net:Nat)),x5,some (.int (m0:Nat)),x7]) ⟨rfl,_,rfl⟩ (fun j d ρ M3 N3 hd hJ uV=>?_) (fun ρ M3 hJ=>?_)⟩
 ·obtain⟨rfl,x7,rfl⟩:=hJ;obtain⟨m,rfl,hm⟩:∃m:Nat,d=.int (m:Nat)/\m<aO net :=by
   have:=im hd;simp only[li,wP,or_false]at this;rcases this with rfl|rfl|rfl
   ·exact⟨m0,rfl,RD⟩
   ·exact⟨0,rfl,hp⟩
   ·exact⟨aO net - 1,by rw[Int.natCast_sub hp];rfl,by omega⟩
  dsimp! only[];refine⟨net,n,m,rfl,O,hm,?_⟩;dsimp! only[];exact uV _ _ ⟨rfl,_,rfl⟩
 ·obtain⟨rfl,x7,rfl⟩:=hJ;dsimp! only[];refine gD (fun h=>?_) (fun h=>hN _ _ ⟨_,_,_,_,_,_,_,rfl⟩)
  have h:=of_decide_eq_true h;refine⟨by omega,by omega,by omega,j6 (NX net) (fun τ M4=>(∃x,τ=[x,some (eN net)])/\M4=M3) ⟨⟨_,rfl⟩,rfl⟩ (fun d hd τ M4 hI R hR=>?_) (fun τ M4 hI=>?_)⟩
  ·obtain⟨⟨x,rfl⟩,rfl⟩:=hI;obtain⟨j,hj⟩:=r9.mp hd;obtain⟨rfl,RE⟩:=cV hj;dsimp! only[];refine⟨net,n,_,rfl,O,rfl,fun m e _=>?_,fun hb=>(bw j RE hb).elim⟩
   have e:j=m :=by have:=Dv.int.inj e;omega
   subst e;have:=hR [some (.int (j:Nat)),some (eN net)] M4 ⟨⟨_,rfl⟩,rfl⟩;rw[OF]at this;exact this
  ·obtain⟨⟨x,rfl⟩,rfl⟩:=hI;refine⟨net,n,rfl,O,by omega,?_⟩
   rw[GJ,<- mM];refine mO (GK _) (GL _) ?_;simp only[zBool,c8,if_false];exact hN _ _ ⟨_,_,_,_,_,_,_,rfl⟩
end
theorem all_mk {l:VF}{w:ij}{K:bn}{h:i0}{mg:db->Option am}{fa:ap}{tabs lts:List ap}{C_RoadError C_NoNet C_NoNumber:ap}(X:K.In h) (G:h.Ns mainGlobals mg) (RG:mg "law" = some (.ref fa))
  (T:wn (TabOf mg h) ["is_row","is_net"] tabs) (U:wn (TabOf mg h) [] lts)
  (vV:on K mainGlobals "RoadError" = some (some (.ref C_RoadError)))
  (GN:on K mainGlobals "NoNet" = some (some (.ref C_NoNet)))
  (yZ:on K mainGlobals "NoNumber" = some (some (.ref C_NoNumber)))
  (eb:yh K C_RoadError [C_NoNet,C_NoNumber]=true) (SD:[C_NoNet,C_NoNumber].Nodup)
  (y0:cz K "is_whole" fi)
  (oE:cz K "is_whole_below" ck)
  (DS:cz K "is_row" jo)
  (DT:cz K "is_net" jq)
  (y1:cz K "need_net" gE)
  (qO:cz K "arrangements" cW)
  (y2:cz K "signings" fj)
  (vW:cz K "number_of" fK)
  (BU:cz K "signing" ir)
  (y3:cz K "_law_bag" iN)
  (vX:cz K "_law_take" dB)
  (vm:cz K "_law_order" gF)
  (y4:cz K "_law_net" dZ)
  (sr:cz K "_law_orders" dr)
  (iP:cz K "_law_alike_now_and_then" bT)
  (y6:cz K "_law_all" gG)
  (oF:cz K "_law_of_number" cm)
  (Mg:cz K "law" sM)
  (Mi:on K mainGlobals "len" = some none)
  (GO:on K mainGlobals "range" = some none)
  (Mj:on K mainGlobals "min" = some none)
  (Mk:on K mainGlobals "max" = some none)
  (Ml:on K mainGlobals "abs" = some none)
  (KD:on K mainGlobals "list" = some none)
  (GP:on K mainGlobals "tuple" = some none)
  (Mm:on K mainGlobals "int" = some none)
  (Mp:on K mainGlobals "str" = some none)
  (KG:on K mainGlobals "bool" = some none)
  (vn:on K mainGlobals "isinstance" = some none)
  (Mq:on K mainGlobals "all" = some none)
  (Mr:on K mainGlobals "set" = some none)
  (DU:on K mainGlobals "sorted" = some none)
  (Ms:on K mainGlobals "zip" = some none)
  (vY:on K mainGlobals "enumerate" = some none)
  (Mt:on K mainGlobals "sum" = some none)
  (y7:on K mainGlobals "reversed" = some none)
  (DV:on K mainGlobals "divmod" = some none)
  (Mu:on K mainGlobals "any" = some none)
  (vo:on K mainGlobals "ValueError" = some none)
  (iz:∃tk,on K mainGlobals "MOST_PLACES" = some (some (.int 9 tk)))
  : ∃fd:rc,(∀(s:ar) (v:am),Vm s fd ⟨[v],[]⟩ [("_law_script",v)])/\∀base:i0,K.In base->base.Ns mainGlobals mg->(∃bm ob,VH base mainGlobals mg bm ob)->(∀c p,u7 h c p->u7 base c p)->FnOk l.prog w K mg base bF 11 fa fd ["_law_script"] (spLaw K ⟨tabs,lts.zip []⟩) :=by
 obtain⟨Mv,KN,bY⟩:=y0.df X G ["thing"] fun _ _ _ _ _ _ us hl=>match us,hl with | [_],_=>rfl
 obtain⟨DW,BX,aI⟩:=oE.df X G ["thing","many"] fun _ _ _ _ _ _ us hl=>match us,hl with | [_,_],_=>rfl
 obtain⟨Pz,N7,fW⟩:=DS.df X G ["thing","many","width"] fun _ _ _ _ _ _ us hl=>match us,hl with | [_,_,_],_=>rfl
 obtain⟨PD,N8,fX⟩:=DT.df X G ["thing"] fun _ _ _ _ _ _ us hl=>match us,hl with | [_],_=>rfl
 obtain⟨Mw,KO,bZ⟩:=y1.df X G ["thing"] fun _ _ _ _ _ _ us hl=>match us,hl with | [_],_=>rfl
 obtain⟨GQ,E2,ax⟩:=qO.df X G ["row"] fun _ _ _ _ _ _ us hl=>match us,hl with | [_],_=>rfl
 obtain⟨Mx,KP,a9⟩:=y2.df X G ["net"] fun _ _ _ _ _ _ us hl=>match us,hl with | [_],_=>rfl
 obtain⟨KQ,KH,bN⟩:=vW.df X G ["net"] fun _ _ _ _ _ _ us hl=>match us,hl with | [_],_=>rfl
 obtain⟨N9,MA,bh⟩:=BU.df X G ["net","number"] fun _ _ _ _ _ _ us hl=>match us,hl with | [_,_],_=>rfl
 obtain⟨MB,KR,fu⟩:=y3.df X G ["_law_script","_law_at"] fun _ _ _ _ _ _ us hl=>match us,hl with | [_,_],_=>rfl
 obtain⟨KS,KI,ah⟩:=vX.df X G ["_law_bag_here","_law_many"] fun _ _ _ _ _ _ us hl=>match us,hl with | [_,_],_=>rfl
 obtain⟨KJ,GY,dP⟩:=vm.df X G ["_law_bag_here","_law_many"] fun _ _ _ _ _ _ us hl=>match us,hl with | [_,_],_=>rfl
 obtain⟨MC,KU,fv⟩:=y4.df X G ["_law_bag_here","_law_most"] fun _ _ _ _ _ _ us hl=>match us,hl with | [_,_],_=>rfl
 obtain⟨GZ,GR,bp⟩:=sr.df X G ["_law_row"] fun _ _ _ _ _ _ us hl=>match us,hl with | [_],_=>rfl
 obtain⟨sN,su,a7⟩:=iP.df X G ["_law_bag_here","_law_net_here"] fun _ _ _ _ _ _ us hl=>match us,hl with | [_,_],_=>rfl
 obtain⟨MD,KW,fw⟩:=y6.df X G ["_law_net_here"] fun _ _ _ _ _ _ us hl=>match us,hl with | [_],_=>rfl
 obtain⟨DX,BZ,cu⟩:=oF.df X G ["_law_net_here","_law_number","_law_whole"] fun _ _ _ _ _ _ us hl=>match us,hl with | [_,_,_],_=>rfl
 obtain⟨RP,KL,y8⟩:=Mg.df X G ["_law_script"] fun _ _ _ _ _ _ us hl=>match us,hl with | [_],_=>rfl
 have KY:=Tq X G vV;have qH:=Tq X G GN;have kX:=Tq X G yZ;have X_:=FJ eb;have qG:C_NoNet∈[C_NoNet,C_NoNumber] :=by simp
 have kW:C_NoNumber∈[C_NoNet,C_NoNumber] :=by simp
 have e:=RG.symm.trans y8.mg;cases e;have bl:Bl mg:=⟨ma X G Mi,ma X G GO,ma X G Mj,ma X G Mk,ma X G Ml,ma X G KD,ma X G GP,ma X G Mm,ma X G Mp,ma X G KG,ma X G vn,ma X G Mq,ma X G Mr,ma X G DU,ma X G Ms,ma X G vY,ma X G Mt,ma X G y7,ma X G DV,ma X G Mu,ma X G vo⟩;obtain⟨GU,iz⟩:=iz;have gY:=Tq X G iz;obtain⟨bz,Oa,rfl,DY,T⟩:=cU T;obtain⟨bQ,Ob,rfl,DZ,T⟩:=cU T;cases T;cases U;refine⟨KL,fun s v=>y8.bind1 s v (by intros;rfl),fun base _ _ jz tr=>?_⟩
 obtain⟨kP,gX⟩:=z8 fW X DY tr;obtain⟨uW,kQ⟩:=z8 fX X DZ tr;have BV:bz∈(⟨[bz,bQ],[]⟩:dR) :=by show _∈[bz,bQ];simp
 have BW:bQ∈(⟨[bz,bQ],[]⟩:dR) :=by show _∈[bz,bQ];simp
 have oq:=BH (P:=l.prog) (w:=w) (tb:=(⟨[bz,bQ],[]⟩:dR)) fX kQ BW fW gX BV jz aI bY bl gY;have fq:=vR bZ fX oq X_ qG qH;have y9:=kU ax (kU ax (kU ax (kU (P:=l.prog) (w:=w) (base:=base) (tb:=(⟨[bz,bQ],[]⟩:dR)) (d:=0) (k:=0) ax DE bl) bl) bl) bl;have cS:=vT a9 bZ fq ax y9 bl;have vp:=ve bN bZ fq ax y9 bl;have GV:=iD (P:=l.prog) (w:=w) (base:=base) (tb:=(⟨[bz,bQ],[]⟩:dR)) aI bY bl;have dS:=yP bh a9 cS ax y9 aI GV X_ kW kX bl;have pW:=Kc (tb:=(⟨[bz,bQ],[]⟩:dR)) (vN (P:=l.prog) (w:=w) (base:=base) ah);have ME:=Ma (tb:=(⟨[bz,bQ],[]⟩:dR)) (yG (P:=l.prog) (w:=w) (base:=base) fu bl);have GW:=uR dP ah pW bl;have MF:=yI fv ah pW dP GW bl;have GX:=vf a7 ah pW bl;have vq:=so (P:=l.prog) (w:=w) (base:=base) (tb:=(⟨[bz,bQ],[]⟩:dR)) bp bl;have MG:=yV fw bp vq bl;have MH:=oC cu bh dS bN vp a9 cS bl;exact JP (KA y8 fu ME fv MF ah pW a7 GX bp vq a9 cS bh dS bN vp cu MH fw MG bl)
theorem walk {l:VF}{q:ii}{loose:List db}{XP:(db->Option am)->i0->Prop}{YP:ij->i0->Prop}{d:DefRec}{K:VO->bn}(hn:l.most=some 63) (zP:d.params.defaults=[])
  (Bb:∀w:ij,U3 (K w.params)=true) (EC:∀y∈((["is_row","is_net"]:List db)++([]:List db)),∃r∈recsOf q,r.name=y) (nz:∀w:ij,qB (K w.params) ["is_row","is_net"] []=true) (hY:∀(w:ij) (h:i0),YP w h->(K w.params).In h)
  (F:∀(w:ij) (mg:db->Option am) (fa:ap) (h:i0) (tabs lts:List ap),(K w.params).In h->h.Ns mainGlobals mg->mg d.name=some (.ref fa)->
   wn (TabOf mg h) ["is_row","is_net"] tabs->wn (TabOf mg h) [] lts->
   ∃fd:rc,(∀(s:ar) (u:am),Vm s fd ⟨[u],[]⟩ [("_law_script",u)]) /\
    ∀base:i0,(K w.params).In base->base.Ns mainGlobals mg->(∃bm ob,VH base mainGlobals mg bm ob)->(∀c p,u7 h c p->u7 base c p)->FnOk l.prog w (K w.params) mg base bF 11 fa fd ["_law_script"] (spLaw (K w.params) ⟨tabs,lts.zip []⟩)) :
  PySem.W.WalkO q loose XP YP l.row.toRowW d [] (fun f vs=>VM f vs):=
 L2.De (n:=63) (k:=11) (x := "_law_script") (CX:=bF) (sp:=fun K tabs lts=>spLaw K ⟨tabs,lts.zip []⟩) hn (by decide) zP ⟨rfl,by decide,by decide⟩ Bb EC nz hY F (fun _ _ _ _ a ns hl hn hT hL hS=>Dg hl hn hT hL hS) fun _ _ _ _ z=>z
end My
open PySem PySem.W PyProof.Rows L2
set_option maxRecDepth 100000 in
set_option maxHeartbeats 0 in
theorem PySem.Challenge.cw_roadcall_k10_signings_counted_and_number_holds : PySem.Challenge.rw_roadcall_k10_signings_counted_and_number.Holds := by
 w_on;o_law
 refine My.E3 (q:=My.kq) (loose:=My.kL) (H:=My.kH) My.left (by rfl) (by rfl) (by rfl) (by rfl) (by first|assumption|decide +kernel) (by decide +kernel) ⟨rfl,rfl,rfl,rfl,rfl,by decide +kernel⟩ ?hw ?hc
 (case hw=>w_witness2)
 refine My.walk (l:=PySem.Challenge.rw_roadcall_k10_signings_counted_and_number) rfl rfl (fun w=>by kernel_rfl) (recs_of (by decide +kernel)) (fun w=>by kernel_rfl) (fun w h Y=>Y) ?F
 intro w mg fa h tabs lts KX G zQ T U;exact My.all_mk (C_RoadError:=24) (C_NoNet:=37) (C_NoNumber:=49) KX G zQ T U
  (by kernel_rfl)
  (by kernel_rfl)
  (by kernel_rfl)
  (by kernel_rfl)
  (by decide)
  (L2.bu (f:=58) (oc:=.type "function") (od:=none) (sl:=#[]) (kV:=.none) (dc:=.none) (pm:=My.vS "roadcall.whole" 239) (an:=none) (cd:=.ref 57) (ct:=.none) (by kernel_rfl) (by kernel_rfl) (by kernel_rfl) (by kernel_rfl))
  (L2.bu (f:=65) (oc:=.type "function") (od:=none) (sl:=#[]) (kV:=.none) (dc:=.none) (pm:=My.vS "roadcall.whole" 239) (an:=none) (cd:=.ref 64) (ct:=.none) (by kernel_rfl) (by kernel_rfl) (by kernel_rfl) (by kernel_rfl))
  (L2.bu (f:=72) (oc:=.type "function") (od:=none) (sl:=#[]) (kV:=.none) (dc:=.none) (pm:=My.vS "roadcall.nets" 256) (an:=none) (cd:=.ref 71) (ct:=.none) (by kernel_rfl) (by kernel_rfl) (by kernel_rfl) (by kernel_rfl))
  (L2.bu (f:=79) (oc:=.type "function") (od:=none) (sl:=#[]) (kV:=.none) (dc:=.none) (pm:=My.vS "roadcall.nets" 256) (an:=none) (cd:=.ref 78) (ct:=.none) (by kernel_rfl) (by kernel_rfl) (by kernel_rfl) (by kernel_rfl))
  (L2.bu (f:=86) (oc:=.type "function") (od:=none) (sl:=#[]) (kV:=.none) (dc:=.none) (pm:=My.vS "roadcall.nets" 256) (an:=none) (cd:=.ref 85) (ct:=.none) (by kernel_rfl) (by kernel_rfl) (by kernel_rfl) (by kernel_rfl))
  (L2.bu (f:=93) (oc:=.type "function") (od:=none) (sl:=#[]) (kV:=.none) (dc:=.none) (pm:=My.vS "roadcall.signings" 286) (an:=none) (cd:=.ref 92) (ct:=.none) (by kernel_rfl) (by kernel_rfl) (by kernel_rfl) (by kernel_rfl))
  (L2.bu (f:=100) (oc:=.type "function") (od:=none) (sl:=#[]) (kV:=.none) (dc:=.none) (pm:=My.vS "roadcall.signings" 286) (an:=none) (cd:=.ref 99) (ct:=.none) (by kernel_rfl) (by kernel_rfl) (by kernel_rfl) (by kernel_rfl))
  (L2.bu (f:=107) (oc:=.type "function") (od:=none) (sl:=#[]) (kV:=.none) (dc:=.none) (pm:=My.vS "roadcall.signings" 286) (an:=none) (cd:=.ref 106) (ct:=.none) (by kernel_rfl) (by kernel_rfl) (by kernel_rfl) (by kernel_rfl))
  (L2.bu (f:=114) (oc:=.type "function") (od:=none) (sl:=#[]) (kV:=.none) (dc:=.none) (pm:=My.vS "roadcall.signings" 286) (an:=none) (cd:=.ref 113) (ct:=.none) (by kernel_rfl) (by kernel_rfl) (by kernel_rfl) (by kernel_rfl))
  (L2.bu (f:=121) (oc:=.type "function") (od:=none) (sl:=#[]) (kV:=.none) (dc:=.none) (pm:=My.vS "law_roadcall_k10_signings_counted_and_number" 330) (an:=none) (cd:=.ref 120) (ct:=.none) (by kernel_rfl) (by kernel_rfl) (by kernel_rfl) (by kernel_rfl))
  (L2.bu (f:=128) (oc:=.type "function") (od:=none) (sl:=#[]) (kV:=.none) (dc:=.none) (pm:=My.vS "law_roadcall_k10_signings_counted_and_number" 330) (an:=none) (cd:=.ref 127) (ct:=.none) (by kernel_rfl) (by kernel_rfl) (by kernel_rfl) (by kernel_rfl))
  (L2.bu (f:=135) (oc:=.type "function") (od:=none) (sl:=#[]) (kV:=.none) (dc:=.none) (pm:=My.vS "law_roadcall_k10_signings_counted_and_number" 330) (an:=none) (cd:=.ref 134) (ct:=.none) (by kernel_rfl) (by kernel_rfl) (by kernel_rfl) (by kernel_rfl))
  (L2.bu (f:=140) (oc:=.type "function") (od:=none) (sl:=#[]) (kV:=.none) (dc:=.none) (pm:=My.vS "law_roadcall_k10_signings_counted_and_number" 330) (an:=none) (cd:=.ref 139) (ct:=.none) (by kernel_rfl) (by kernel_rfl) (by kernel_rfl) (by kernel_rfl))
  (L2.bu (f:=145) (oc:=.type "function") (od:=none) (sl:=#[]) (kV:=.none) (dc:=.none) (pm:=My.vS "law_roadcall_k10_signings_counted_and_number" 330) (an:=none) (cd:=.ref 144) (ct:=.none) (by kernel_rfl) (by kernel_rfl) (by kernel_rfl) (by kernel_rfl))
  (L2.bu (f:=152) (oc:=.type "function") (od:=none) (sl:=#[]) (kV:=.none) (dc:=.none) (pm:=My.vS "law_roadcall_k10_signings_counted_and_number" 330) (an:=none) (cd:=.ref 151) (ct:=.none) (by kernel_rfl) (by kernel_rfl) (by kernel_rfl) (by kernel_rfl))
  (L2.bu (f:=157) (oc:=.type "function") (od:=none) (sl:=#[]) (kV:=.none) (dc:=.none) (pm:=My.vS "law_roadcall_k10_signings_counted_and_number" 330) (an:=none) (cd:=.ref 156) (ct:=.none) (by kernel_rfl) (by kernel_rfl) (by kernel_rfl) (by kernel_rfl))
  (L2.bu (f:=162) (oc:=.type "function") (od:=none) (sl:=#[]) (kV:=.none) (dc:=.none) (pm:=My.vS "law_roadcall_k10_signings_counted_and_number" 330) (an:=none) (cd:=.ref 161) (ct:=.none) (by kernel_rfl) (by kernel_rfl) (by kernel_rfl) (by kernel_rfl))
  (L2.bu (f:=167) (oc:=.type "function") (od:=none) (sl:=#[]) (kV:=.none) (dc:=.none) (pm:=My.vS "law_roadcall_k10_signings_counted_and_number" 330) (an:=none) (cd:=.ref 166) (ct:=.none) (by kernel_rfl) (by kernel_rfl) (by kernel_rfl) (by kernel_rfl))
  (by kernel_rfl)
  (by kernel_rfl)
  (by kernel_rfl)
  (by kernel_rfl)
  (by kernel_rfl)
  (by kernel_rfl)
  (by kernel_rfl)
  (by kernel_rfl)
  (by kernel_rfl)
  (by kernel_rfl)
  (by kernel_rfl)
  (by kernel_rfl)
  (by kernel_rfl)
  (by kernel_rfl)
  (by kernel_rfl)
  (by kernel_rfl)
  (by kernel_rfl)
  (by kernel_rfl)
  (by kernel_rfl)
  (by kernel_rfl)
  (by kernel_rfl)
  ⟨258,by kernel_rfl⟩
