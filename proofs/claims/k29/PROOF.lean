import PyProof.Rows.All
import Wide.All
import OpenK.AllK
import Wide.FinOn
import Lean
import PySem.Challenge.RW_roadcall_k29_classes
import PyProof.EqAt
import PyProof.EqKinds
import PyProof.TupleCall
import PyProof.NeKinds
import PyProof.EnumMake
import PyProof.EnumFor
import PyProof.ZipIter
import PyProof.Rows.ZipGen
import KE.KLam
import PyProof.DictItems
import KE.KTurnsDict
import KE.KPairComp
import KE.KDictList
import KE.KRevSl
open List renaming getElem?_eq_getElem->ac,getD_eq_getElem?_getD->bi,getElem?_eq_some_iff->bn,length_map->cb,mem_of_getElem?->ci,size_toArray->cr,getElem?_map->c8,mem_cons_of_mem->db,mem_cons_self->ff,range->hX,mem_cons->io,mem_map->i8,mem_singleton->jp,mem_iff_getElem?->lc,mem_append_right->lf,mem_append->l6,length_append->mf,map_append->mo,Nodup->mv,map_cons->nw,getElem_mem->r9,mem_append_left->ss,mem_range->ul,all_eq_true->wb,map_map->wv,not_mem_nil->wT,getElem?_append_left->ze,getElem?_zip_eq_some->zn,getElem?_range->AC,getElem?_append_right->AN,lookup_cons->BS,replicate->BY,length_singleton->Cc,length_cons->Db,drop_eq_getElem_cons->EO,getElem?_cons_succ->Fa,mem_filter->Fk,append_nil->FM,length_filter_le->IN,nil_append->IS,length_range->JJ,nodup_append->KB,append_assoc->KF,getElem?_replicate->Ll,flatMap_append->Lo,take_succ->Lu,any_eq_true->NH,take_length->NJ,drop_length->NO,filter_cons->On,toArray->Op,map->Os,filterMap_cons->OE,map_congr_left->OK,nodup_cons->OR,Perm->Pc,length_zip->Pd,find?_cons->Pe,getElem_range->Pf,set_cons_zero->Po,set_cons_succ->Ps,take_of_length_le->PP,eq_nil_of_length_eq_zero->RI,filter_congr->Sk,length_replicate->So,getElem?_eq_none->SI,length_take_le'->Tl,length_set->TD,length_nil->TW,mem_or_eq_of_mem_set->Uf,filter_map->UF,map_nil->UV,prefix_append->Wp,getElem?_cons_zero->Wu,getElem?_set->Wz,getElem?_set_self->WB,pairwise_lt_range->WD,cons_append->WL,of_mem_zip->WR,forIn_cons->WU,pairwise_append->WW,getElem?_append->WZ,getD_cons_zero->W1,getD_cons_succ->W2,mem_filterMap->Xc,getElem?_drop->Xd,zip_cons_cons->Xf,pairwise_cons->Xh,Pairwise->Xj,any_cons->Xq,reverse_cons->Xt,ext_getElem?->Xx,getElem?_inj->Xy,length_take->XC,ext_getElem->XD,getElem_map->XG,mem_flatMap->XH,map_reverse->XI,mem_reverse->XJ,range_succ->XZ,prefix_rfl->X0
open PySem renaming Addr->ag,wpAny_bind->al,Value->ap,Shared->ar,Str->br,wpAny_pure->ca,Expr->dL,Program->gc,Heap->ij,World->i0,wpAny_mono->lm,Obj->l3,FuncData->l5,Around->l8,SetTable->rc,boot_len->rf,Stmt->tz,Pos->ut,Builtin->uu,Scope->wl,mem_of_lookup->wn,Paired->wp,wpAny_callSpecial?_slot->wP,wpAny_call_entry->xb,wpAny_truthy_bool->xL,wpAny_newObj_type->zd,wpAny_field->zw,wpAny_holding->At,wpAny_standAt->AM,seg_bind_wrap->AT,wpAny_setField_rec->BB,wpAny_comprehension_free->Cf,Spec->CS,wpAny_rule->EN,wpAny_seqItems->ET,IsPair->EU,codeAny_builtin->FS,wpAny_Call_Name_kw->IF,Env->IR,plainId_quiet->KM,sizeLine_eq->LF,tupleKind_room_in1->LP,wpAny_passesOwn->Mc,wpAny_attempt->MW,Keyword->No,NameKind->NG,wpAny_setEntries_of->OF,wpAny_pyIter_tuple->OP,GenState->PM,Sem->Rs,wpAny_pyIter_list->RS,wpAny_setState_of->Sc,CmpOp->SO,PlainAttrs->SS,wpAny_askSetting->SZ,IsZip->T0,TriplesOk->VT,wpAny_assign_Name->Ww,IsEnum->WE,wpAny_isInstance->WJ,exec_Assign_Name_used->WM,wpAny_execs_nil->WP,codeAny_mono->WQ,wpAny_updateSeq_pair->WX,call_meetsIn->WY,ElemsOf->W7,isSubtype_type->W8,wpAny_fieldsOf->W9,wpAny_newTuple->Xa,wpAny_letGo->Xb,call_function_tree->Xe,wpAny_newList->Xm,wpAny_onRaise->Xp,slot_list_getitem->Xs,fits_of_scanBound->Xv,BindsTo->XA,PassesOwn->XS,codeAny_of_tree->XT,seg_again->XU,wpAny_loadPart'->XW,pushCells_keeps->XX,wpAny_of_eq->X2,Result->X4,call->X5,Slot->X6,call_meets->X7,ZipApart->X9,Params->Ya,IsEnumOut->Yc
open PySem.W renaming Frag->ba,mg_none_of->ma,nsIn->qr,CodeHd->u7,kia_one->Co,fnOf->Gc,keepIn->Sm,tabObj->SC,codeIn->Wr,mg_of->WF,hideAll->WO,looseW->W3,kitOne->W5,kb_classed->Xg,recOk->Xi,excIn->Xo,methodObj->Xr,xlAt->XB,opening->XM,instObj->XQ,OpenLaw->XY
open PySem.Heap renaming get?_push_of_some->bv,get?_push_size->en,lt_size->ii,SameBut->v6,size_push->ww,get?_update_other->BN,get?_update_self->B0,get?_push_ne->WA,size_update->WK
open Nat renaming le_refl->ce,ne_of_lt->kw,le_trans->ln,zero_le->lw,lt_of_lt_of_le->l7,lt_succ_of_lt->xp,lt_irrefl->Do,le_succ->DO,lt_succ_self->EQ,ne_of_gt->Go,min_self->GE,zero_add->IT,le_of_lt->LG,lt_or_ge->LS,lt_of_le_of_lt->Pi,le_add_right->Tk,not_lt_zero->TM,lt_trans->Wn,sub_self->Wo,le_of_not_lt->WH,mod_lt->X8
open Bool renaming false_ne_true->im,false_eq_true->l9,eq_iff_iff->FF,and_eq_true->Ix,false_and->Wq,true_and->WG,and_false->W6,not_true->Xl
open Option.some renaming inj->i4,injEq->EM
open Option renaming map_eq_some_iff->kt,map_some->Cs,some->Re,bind_eq_some_iff->Ws,join_some->XE,bind_some->XF
open Or renaming inl->li,inr->xy
open PySem.SeqAt renaming RcNeAt->lp,EqAt->lv,RcAt->l4
open PySem.Value renaming ref->mT,none->xz,type->GM,bool->SL,isInt_shape->Wv,int->XN,str->XO
open PySem.PassesOwn renaming never->sw
open Int renaming eq_ofNat_of_zero_le->sB,toNat_natCast->tw,zero_add->DD,le_refl->GG,emod_nonneg->W0
open List.cons renaming inj->sK
open Array renaming length_toList->u4,getElem?_eq_getElem->Nd,getElem?_toList->SB,getD->WV
open PySem.SetTable renaming below->u8,grown->NE
open Ne renaming symm->wE
open PySem.F renaming plainAttrs_list->wS,slot_list_append->Ch,type_list_append->Cn,slot_dict_get->Mn,called_set->NL,entry_dict_get->P3,plain_list_iadd->Wy,plain_all_loop->WI
open PySem.Str renaming ofString->xw
open PySem.Heap.SameBut renaming update->AE
open PyProof.Rows renaming callWith_type1->AL,IntsAre->Me,listUpdate_at->Xn,BMod->X1,AllBare->X3
open PySem.NameKind renaming free->AS,cell->ON
open PySem.Around renaming under_plainId->Da
open PySem.Obj renaming mapSeq->ES,data_mapFields->LH,isFreed_of_fields->WN,cls_mapFields->Xw,putSet->Xz
open PySem.Paired renaming length->GS
open True renaming intro->GT
open PySem.Calls renaming spliced_cons->ID,spliced_nil->Na,callWith_builtin->WC,evalArgs_plain->WS
open False renaming elim->LB
open PySem.Builtin.List renaming listExtendWith->LM,listTooLong->US
open PySem.W.Fast renaming tw821141287760084731->Nl
open Sum renaming inl->OL,inr->W4
open PyProof.Rows.F renaming plain_set_update_loop->Wt
open PySem.SetTable.below renaming go->Wx
open ForInStep renaming yield->WT
open PySem.Shared renaming TypeIs->Xk
open PySem.SetTable.probe renaming go->Xu
open PySem.SeqAt.EqAt renaming same->XV
open And renaming intro->Yb
set_option linter.all false
set_option Elab.async false
set_option maxRecDepth 100000
namespace My
open PySem PyProof.Rows
def kA (s:tz):Arguments:=match s with
 | .FunctionDef _ a _ _ _ _ _ _ _ _=>a
 |_=>{posonlyargs:=[],args:=[],vararg:=none,kwonlyargs:=[],kw_defaults:=[],kwarg:=none,defaults:=[]}
def kB (s:tz):List tz:=match s with
 | .FunctionDef _ _ b _ _ _ _ _ _ _=>b
 |_=>[]
def kS (s:tz):wl:=match s with
 | .FunctionDef _ _ _ _ _ _ sc _ _ _=>sc
 |_=>{kind:=.function,names:=[],isGenerator:=false,isCoroutine:=false}
def vS (x:String) (t:Nat):ap:=.str (xw x) t
def kE (P:Ya) (x:String) (t:Nat) (v:ap):DictEntry:=⟨PyData.keyHash P (xw x),vS x t,v⟩
def kF (i:Nat) (x:String) (d m:ap) (c:Nat):l3:=let st:=PySem.Challenge.pw_roadcall_k29_classes.main.body.getD i (.Pass ⟨0,0,0,0⟩);⟨.type "function",none,.func (Gc (xw x) (xw x) (kA st) (kB st) (kS st) d .none .none m none (.ref c) .none),#[]⟩
def kC (x:String) (t:Nat) (l n f:Int) (a:Nat) (b:Bool) (m:Int) (p:Nat) (u z:ap) (q:Nat) (e:Int) (t2:Nat):l3:=⟨.type "code",none,.fields #[vS x t,vS x (t+1),vS "/claim/cut.py" (t+2),.int l 0,.int n 0,.int 0 0,.int 0 0,.int f 0,.ref a,.bool b,.int m 0,.ref p,.none,u,z,.ref q,.int e 0,.int l 0,vS "/claim/cut.py" t2],#[]⟩
def kK (P:Ya):ba:=[(2,⟨.none,none,.dict [].toArray 0,#[]⟩),
 (3,⟨.type "dict",none,.dict [kE P "__name__" 165 (vS "law_roadcall_k29_classes" 324),kE P "__doc__" 166 .none,kE P "__package__" 167 .none,kE P "__loader__" 168 (.builtin "__main__.__loader__#opaque"),kE P "__spec__" 169 .none,kE P "__annotations__" 170 (.ref 6),kE P "__builtins__" 171 (.ref 4),kE P "__file__" 173 (vS "/claim/cut.py" 172),kE P "__cached__" 174 .none,kE P "RoadError" 206 (.ref 24),kE P "NoNet" 222 (.ref 37),kE P "is_whole" 231 (.ref 46),kE P "is_whole_below" 239 (.ref 53),kE P "MOST_PLACES" 243 (.int 9 242),kE P "is_row" 253 (.ref 60),kE P "is_net" 262 (.ref 67),kE P "need_net" 269 (.ref 74),kE P "all_pairs" 277 (.ref 79),kE P "in_order" 285 (.ref 86),kE P "coming_pairs" 297 (.ref 93),kE P "led_to_some" 303 (.ref 98),kE P "never_called" 309 (.ref 103),kE P "stable_pairs" 317 (.ref 108),kE P "classes" 323 (.ref 113),kE P "_law_bag" 336 (.ref 120),kE P "_law_take" 347 (.ref 127),kE P "_law_order" 353 (.ref 132),kE P "_law_net" 359 (.ref 137),kE P "_law_like" 365 (.ref 142),kE P "_law_pairs" 371 (.ref 147),kE P "_law_goals" 377 (.ref 152),kE P "_law_led" 388 (.ref 159),kE P "_law_is_called" 394 (.ref 164),kE P "_law_stable" 400 (.ref 169),kE P "_law_classes" 406 (.ref 174),kE P "_law_joined" 412 (.ref 179),kE P "_law_kept" 418 (.ref 184),kE P "law" 429 (.ref 191)].toArray 38,#[]⟩),
 (23,⟨.type "dict",none,.dict [kE P "__module__" 196 (vS "roadcall.errors" 187),kE P "__firstlineno__" 200 (.int 2 199),kE P "__static_attributes__" 201 (.ref 22),kE P "__weakref__" 203 (.ref 25),kE P "__doc__" 204 .none].toArray 3,#[]⟩),
 (24,⟨.type "type",none,.cls {name:=xw "RoadError",bases:=[.type "ValueError"],mro:=[.ref 24,.type "ValueError",.type "Exception",.type "BaseException",.type "object"],ns:=23,qualname:=xw "RoadError",subclasses:=[.ref 37]},#[some (.ref 15),none,some (vS "RoadError" 189),some (vS "RoadError" 197),some (.builtin "ValueError.__new__"),some (.bool true)]⟩),
 (36,⟨.type "dict",none,.dict [kE P "__module__" 214 (vS "roadcall.errors" 187),kE P "__firstlineno__" 218 (.int 4 217),kE P "__static_attributes__" 219 (.ref 35),kE P "__doc__" 220 .none].toArray 2,#[]⟩),
 (37,⟨.type "type",none,.cls {name:=xw "NoNet",bases:=[.ref 24],mro:=[.ref 37,.ref 24,.type "ValueError",.type "Exception",.type "BaseException",.type "object"],ns:=36,qualname:=xw "NoNet",subclasses:=[]},#[some (.ref 28),none,some (vS "NoNet" 207),some (vS "NoNet" 215),some (.builtin "ValueError.__new__"),some (.bool true)]⟩),
 (45,kC "is_whole" 225 7 1 3 40 true 181 41 (.ref 42) (.ref 43) 44 229 230),
 (46,kF 4 "is_whole" .none (vS "roadcall.whole" 223) 45),
 (52,kC "is_whole_below" 232 9 2 3 47 true 181 48 (.ref 49) (.ref 50) 51 237 238),
 (53,kF 5 "is_whole_below" .none (vS "roadcall.whole" 223) 52),
 (59,kC "is_row" 244 13 3 3 54 true 181 55 (.ref 56) (.ref 57) 58 251 252),
 (60,kF 8 "is_row" .none (vS "roadcall.nets" 240) 59),
 (66,kC "is_net" 254 17 1 3 61 true 181 62 (.ref 63) (.ref 64) 65 260 261),
 (67,kF 9 "is_net" .none (vS "roadcall.nets" 240) 66),
 (73,kC "need_net" 263 25 1 3 68 true 181 69 (.ref 70) (.ref 71) 72 267 268),
 (74,kF 10 "need_net" .none (vS "roadcall.nets" 240) 73),
 (78,kC "all_pairs" 272 29 1 3 75 true 181 76 .none .none 77 275 276),
 (79,kF 12 "all_pairs" .none (vS "roadcall.pairs" 270) 78),
 (85,kC "in_order" 278 32 2 3 80 true 181 81 (.ref 82) (.ref 83) 84 283 284),
 (86,kF 13 "in_order" .none (vS "roadcall.pairs" 270) 85),
 (92,kC "coming_pairs" 286 34 1 3 87 true 181 88 (.ref 89) (.ref 90) 91 295 296),
 (93,kF 14 "coming_pairs" .none (vS "roadcall.pairs" 270) 92),
 (97,kC "led_to_some" 298 40 2 3 94 true 181 95 .none .none 96 301 302),
 (98,kF 15 "led_to_some" .none (vS "roadcall.pairs" 270) 97),
 (102,kC "never_called" 304 50 1 3 99 true 181 100 .none .none 101 307 308),
 (103,kF 16 "never_called" .none (vS "roadcall.pairs" 270) 102),
 (107,kC "stable_pairs" 312 56 1 3 104 true 181 105 .none .none 106 315 316),
 (108,kF 18 "stable_pairs" .none (vS "roadcall.stable" 310) 107),
 (112,kC "classes" 318 60 1 3 109 true 181 110 .none .none 111 321 322),
 (113,kF 19 "classes" .none (vS "roadcall.stable" 310) 112),
 (119,kC "_law_bag" 326 69 2 3 114 true 181 115 (.ref 116) (.ref 117) 118 334 335),
 (120,kF 21 "_law_bag" .none (vS "law_roadcall_k29_classes" 324) 119),
 (126,kC "_law_take" 337 79 2 3 121 true 181 122 (.ref 123) (.ref 124) 125 345 346),
 (127,kF 22 "_law_take" .none (vS "law_roadcall_k29_classes" 324) 126),
 (131,kC "_law_order" 348 91 2 3 128 true 181 129 .none .none 130 351 352),
 (132,kF 23 "_law_order" .none (vS "law_roadcall_k29_classes" 324) 131),
 (136,kC "_law_net" 354 94 2 3 133 true 181 134 .none .none 135 357 358),
 (137,kF 24 "_law_net" .none (vS "law_roadcall_k29_classes" 324) 136),
 (141,kC "_law_like" 360 117 2 3 138 true 181 139 .none .none 140 363 364),
 (142,kF 25 "_law_like" .none (vS "law_roadcall_k29_classes" 324) 141),
 (146,kC "_law_pairs" 366 127 1 3 143 true 181 144 .none .none 145 369 370),
 (147,kF 26 "_law_pairs" .none (vS "law_roadcall_k29_classes" 324) 146),
 (151,kC "_law_goals" 372 132 2 3 148 true 181 149 .none .none 150 375 376),
 (152,kF 27 "_law_goals" .none (vS "law_roadcall_k29_classes" 324) 151),
 (158,kC "_law_led" 378 134 2 3 153 true 181 154 (.ref 155) (.ref 156) 157 386 387),
 (159,kF 28 "_law_led" .none (vS "law_roadcall_k29_classes" 324) 158),
 (163,kC "_law_is_called" 389 143 2 3 160 true 181 161 .none .none 162 392 393),
 (164,kF 29 "_law_is_called" .none (vS "law_roadcall_k29_classes" 324) 163),
 (168,kC "_law_stable" 395 148 1 3 165 true 181 166 .none .none 167 398 399),
 (169,kF 30 "_law_stable" .none (vS "law_roadcall_k29_classes" 324) 168),
 (173,kC "_law_classes" 401 152 1 3 170 true 181 171 .none .none 172 404 405),
 (174,kF 31 "_law_classes" .none (vS "law_roadcall_k29_classes" 324) 173),
 (178,kC "_law_joined" 407 160 2 3 175 true 181 176 .none .none 177 410 411),
 (179,kF 32 "_law_joined" .none (vS "law_roadcall_k29_classes" 324) 178),
 (183,kC "_law_kept" 413 167 2 3 180 true 181 181 .none .none 182 416 417),
 (184,kF 33 "_law_kept" .none (vS "law_roadcall_k29_classes" 324) 183),
 (190,kC "law" 419 177 1 3 185 true 181 186 (.ref 187) (.ref 188) 189 427 428),
 (191,kF 34 "law" .none (vS "law_roadcall_k29_classes" 324) 190)]
def TH:List ag:=[2,3,23,24,36,37,45,46,52,53,59,60,66,67,73,74,78,79,85,86,92,93,97,98,102,103,107,108,112,113,119,120,126,127,131,132,136,137,141,142,146,147,151,152,158,159,163,164,168,169,173,174,178,179,183,184,190,191]
def kq:gc:=PySem.W.view PySem.Challenge.pw_roadcall_k29_classes [1,2,4,5,7,8,9,10,12,13,14,15,16,18,19,21,22,23,24,25,26,27,28,29,30,31,32,33,34]
def kL:List br:=[]
def kH:PySem.W.Hook:=PySem.W.kHook kK TH fun _=>by kernel_rfl
theorem IC {r:PySem.W.OpenRow} {q:gc} {loose:List br} {H:PySem.W.Hook} {d:DefRec} {KD:List (br×dL)} {N:Nat} (left:PySem.W.LeftO r.prog q loose (fun s=>XB q [] s && Xi r.records s) H.obs H.val N)
  (Sg:PySem.W.defOf q r.name=some (d,KD)) (hp:r.prog.theDef r.name=some (d.params,d.body,d.scope)) (hk:PySem.W.kwWritten? d.params.kwonlyargs d.params.kw_defaults=some KD) (TJ:(!r.writes || r.records.isEmpty)=true) (k1:r.wellSaid=true)
  (ok:(PySem.W.chainsOk q && PySem.W.opensWell r.prog && (PySem.W.frees r.toRowW && r.within.isEmpty))=true) (hb:r.prog.bare) (hw:r.toRowW.promised) (call:PySem.W.WalkO q loose (PySem.W.XL q []) H.says r.toRowW d KD fun f vs=>X5 f vs):r.Holds:=
 PySem.W.holds_open left H.of H.keeps (fun s e=>PySem.W.xl_of s (Bool.and_eq_true_iff.mp e).1) PySem.W.XL.keeps Sg hp hk (fun s e=>PySem.W.recFacts_of (Bool.and_eq_true_iff.mp e).2) TJ k1 ok hb hw call
noncomputable def oeQ (p:gc) (w:i0) (N:Nat):Option ar:=((PySem.W.Fast.tw10274390034422433532 PySem.W.Fast.tw14364793385576792824 (XM p) w N (PySem.W.Fast.tw1435165496053646825 (XM p)).1 (PySem.W.Fast.tw1435165496053646825 (XM p)).2).bind (PySem.W.Fast.tw14289696077712309145 p)).bind fun s₀=>match s₀.heap.isNs PySem.mainGlobals && s₀.gens.size==0 with
 |true=>(PySem.W.Fast.tw14082659384304107361 PySem.W.Fast.tw14364793385576792824 p w s₀.heap.objs.size (s₀.heap.nsMap PySem.mainGlobals "__annotations__") N s₀ (PySem.W.topStub p)).bind fun aD=>match PySem.W.staticsOk (importedModules p.main.body) s₀.heap aD.heap && PySem.W.namesBound p aD.heap && PySem.W.gensDone aD && PySem.W.laidKept s₀.heap aD.heap with
   |true=>some aD
   |false=>none
 |false=>none
theorem OX (p:gc) (w:i0) (N:Nat):PySem.W.openEnds treeTable p w N=oeQ p w N :=by
 unfold oeQ
 rw [<- PySem.W.Fast.te10274390034422433532,<- PySem.W.Fast.te14364793385576792824,<- PySem.W.Fast.te1435165496053646825,<- PySem.W.Fast.te14289696077712309145,<- PySem.W.Fast.te14082659384304107361]
 rfl
noncomputable def nsQ (q:gc):List br:=(PySem.W.Fast.tw3399658132070893891 q).map (·.name)
theorem Hg (q:gc):(recsOf q).map (·.name)=nsQ q :=by unfold nsQ;rw [<- PySem.W.Fast.te3399658132070893891]
noncomputable def c1Q (s:ar):=PySem.W.Fast.tw5160383126252970620 (nsQ kq) (PySem.W.Fast.tw5991557255702980513 kq) [] {s with gens:=#[]}
theorem OY (s:ar):seen ((recsOf kq).map (·.name)) (ownsOf kq) [] {s with gens:=#[]}=c1Q s :=by unfold c1Q;rw [Hg,<- PySem.W.Fast.te5160383126252970620,<- PySem.W.Fast.te5991557255702980513]
def c2 (s:ar):=(s.heap.bltView,s.heap.keysOk (W3 kq kL) ((recsOf kq).map (·.name)) ((litsOf kq).map (·.1)) ((clssOf kq (W3 kq kL)).map (·.name)) && s.heap.accountedOkI (importedModules PySem.Challenge.pw_roadcall_k29_classes.main.body) && s.heap.isNs mainGlobals && s.heap.isNs builtinsNs && tablesOk kq s.heap && (XB kq [] s && Xi [] s) && (s.gens.size==0))
noncomputable def c2Q (s:ar):=(s.heap.bltView,PySem.W.Fast.tw10880121769531294198 s.heap (Nl kq kL) (nsQ kq) ((PySem.W.Fast.tw7409074990110511671 kq).map (·.1)) ((PySem.W.Fast.tw13664370479719496447 kq (Nl kq kL)).map (·.name)) && PySem.W.Fast.tw14722251495701143533 s.heap (importedModules PySem.Challenge.pw_roadcall_k29_classes.main.body) && s.heap.isNs mainGlobals && s.heap.isNs builtinsNs && PySem.W.Fast.tw10994771534591457954 kq s.heap && (XB kq [] s && Xi [] s) && (s.gens.size==0))
theorem OZ (s:ar):c2 s=c2Q s :=by unfold c2 c2Q;rw [Hg,<- PySem.W.Fast.te10880121769531294198,<- PySem.W.Fast.te821141287760084731,<- PySem.W.Fast.te7409074990110511671,<- PySem.W.Fast.te13664370479719496447,<- PySem.W.Fast.te14722251495701143533,<- PySem.W.Fast.te10994771534591457954]
def c3 (s:ar):=tabsOk kq s
def c5 (s:ar):=plainSeenE kq (W3 kq kL) s
def c4 (s:ar):=(PySem.pinSeenD kq (drecsOf kq) s,plainSeenD kq kL s,PySem.W.wideSeen kq s,PySem.W.clsSeenW kq kL s)
noncomputable def c3Q (s:ar):=PySem.W.Fast.tw479339242167458305 kq s
noncomputable def c5Q (s:ar):=PySem.W.Fast.tw2386780881361962483 kq (Nl kq kL) s
noncomputable def c4Q (s:ar):=(PySem.W.Fast.tw16090120013241838585 kq (PySem.W.Fast.tw3247288618530077131 kq) s,PySem.W.Fast.tw11698064438423848299 kq kL s,PySem.W.Fast.tw7317090234206586261 kq s,PySem.W.Fast.tw7369524293546568484 kq kL s)
theorem O1 (s:ar):c3 s=c3Q s :=by unfold c3 c3Q;rw [<- PySem.W.Fast.te479339242167458305]
theorem O2 (s:ar):c5 s=c5Q s :=by unfold c5 c5Q;rw [<- PySem.W.Fast.te2386780881361962483,<- PySem.W.Fast.te821141287760084731]
theorem O3 (s:ar):c4 s=c4Q s :=by unfold c4 c4Q;rw [<- PySem.W.Fast.te16090120013241838585,<- PySem.W.Fast.te3247288618530077131,<- PySem.W.Fast.te11698064438423848299,<- PySem.W.Fast.te7317090234206586261,<- PySem.W.Fast.te7369524293546568484]
set_option maxHeartbeats 0 in
theorem left0 (w:i0):(oeQ PySem.Challenge.pw_roadcall_k29_classes w 2524).map (fun s=>kH.obs s)=some (kH.val w) :=by kernel_rfl
set_option maxHeartbeats 0 in
theorem left1 (w:i0):(oeQ PySem.Challenge.pw_roadcall_k29_classes w 2524).map c1Q=some (expectedOf kq) :=by kernel_rfl
set_option maxHeartbeats 0 in
theorem left2 (w:i0):(oeQ PySem.Challenge.pw_roadcall_k29_classes w 2524).map c2Q=some (bltViewBooted,true) :=by kernel_rfl
set_option maxHeartbeats 0 in
theorem left3 (w:i0):(oeQ PySem.Challenge.pw_roadcall_k29_classes w 2524).map c3Q=some true :=by kernel_rfl
set_option maxHeartbeats 0 in
theorem left5 (w:i0):(oeQ PySem.Challenge.pw_roadcall_k29_classes w 2524).map c5Q=some (plainGoodE kq (W3 kq kL)) :=by kernel_rfl
set_option maxHeartbeats 0 in
theorem left4 (w:i0):(oeQ PySem.Challenge.pw_roadcall_k29_classes w 2524).map c4Q=some (PySem.pinGoodD (drecsOf kq),plainGoodD kq kL,PySem.W.wideGood kq,PySem.W.clsGoodW kq kL) :=by kernel_rfl
theorem left (w:i0):(PySem.W.openEnds treeTable PySem.Challenge.pw_roadcall_k29_classes w 2524).map (fun s=>(PySem.W.openSeen kq kL (importedModules PySem.Challenge.pw_roadcall_k29_classes.main.body) (fun s=>XB kq [] s && Xi [] s) true s,kH.obs s))=some (PySem.W.openGood kq kL,kH.val w) :=by
 rw [OX]
 have a0:=left0 w
 have a1:=left1 w
 have a2:=left2 w
 have a3:=left3 w
 have a4:=left4 w
 have a5:=left5 w
 revert a0 a1 a2 a3 a4 a5
 generalize oeQ PySem.Challenge.pw_roadcall_k29_classes w 2524=o
 cases o with
 |none=>intro a0;cases a0
 |some s=>
  intro a0 a1 a2 a3 a4 a5
  have a0:kH.obs s=kH.val w:=i4 a0
  have a1:=i4 a1
  have a2:=i4 a2
  have a3:=i4 a3
  have a4:=i4 a4
  have a5:=i4 a5
  rw [<- OY] at a1
  rw [<- OZ] at a2
  rw [<- O1] at a3
  rw [<- O3] at a4
  rw [<- O2] at a5
  show some ((seen ((recsOf kq).map (·.name)) (ownsOf kq) [] {s with gens:=#[]},(c2 s).1,(c2 s).2,c3 s,(c4 s).1,c5 s,(c4 s).2),kH.obs s)=_
  rw [a0,a1,a2,a3,a4,a5]
  rfl
end My
namespace L2
open PySem PySem.Spec PyProof.Rows
abbrev Key:=Sum Int br
def px:Key->ap->Bool
 | .inl k,v=>ap.isInt k v
 | .inr x,v=>ap.isStrOf x v
def Sh (w:i0):Key->Int
 | .inl k=>hashInt k
 | .inr x=>hashStr w x
theorem dj:∀{k:Key} {v:ap},px k v=true->(∃i t,k=OL i/\v=XN i t)\/(∃x t,k=W4 x/\v=XO x t)
 | .inl i,v,h=>by
          obtain ⟨t,e⟩:=Wv (k:=i) (v:=v) h
          exact .inl ⟨i,t,rfl,e⟩
 | .inr x,v,h=>by
          obtain ⟨t,e⟩:=ap.isStrOf_shape (x:=x) (v:=v) h
          exact .inr ⟨x,t,rfl,e⟩
theorem BZ (i:Int) (t:Tok):px (.inl i) (.int i t)=true :=by simp [px,ap.isInt]
theorem B1 (x:br) (t:Tok):px (.inr x) (.str x t)=true :=by simp [px,ap.isStrOf]
theorem KG (a b:Int):decide ((OL a:Key)=OL b)=(a==b) :=by
 by_cases e:a=b
 ·subst e;simp
 ·have h:¬ (OL a:Key)=OL b:=fun q=>e (OL.inj q)
  rw [decide_eq_false h]
  exact (beq_eq_false_iff_ne.mpr e).symm
theorem KH (a b:br):decide ((W4 a:Key)=W4 b)=decide (a=b) :=by
 by_cases e:a=b
 ·subst e;simp
 ·have h:¬ (W4 a:Key)=W4 b:=fun q=>e (W4.inj q)
  rw [decide_eq_false h,decide_eq_false e]
theorem KI (a:Int) (b:br):decide ((OL a:Key)=W4 b)=false:=decide_eq_false (fun q=>nomatch q)
theorem KJ (a:br) (b:Int):decide ((W4 a:Key)=OL b)=false:=decide_eq_false (fun q=>nomatch q)
def bO (prog:gc) (w:i0):PySem.KeyKind prog w Key where
 is:=px
 hash:=Sh w
 inj:=fun v a b ha hb=>by
  rcases dj ha with ⟨i,t,rfl,rfl⟩|⟨x,t,rfl,rfl⟩
  ·rcases dj hb with ⟨j,u,rfl,e⟩|⟨y,u,rfl,e⟩
   ·injection e with e1 _;rw [e1]
   ·exact nomatch e
  ·rcases dj hb with ⟨j,u,rfl,e⟩|⟨y,u,rfl,e⟩
   ·exact nomatch e
   ·injection e with e1 _;rw [e1]
 byValue:=fun k v h=>by
  rcases dj h with ⟨i,t,rfl,rfl⟩|⟨x,t,rfl,rfl⟩ <;> rfl
 pyHash:=fun hv h=>by
  rcases dj hv with ⟨i,t,rfl,rfl⟩|⟨x,t,rfl,rfl⟩
  ·exact wpAny_pyHash_int h
  ·exact wpAny_pyHash_str h
 eqBool:=fun hu hv h=>by
  rcases dj hu with ⟨i,t,rfl,rfl⟩|⟨x,t,rfl,rfl⟩
  ·rcases dj hv with ⟨j,u,rfl,rfl⟩|⟨y,u,rfl,rfl⟩
   ·rw [KG] at h;exact wpAny_eqBool_int h
   ·rw [KI] at h;exact lv.int_str i t y u _ _ _ _ h
  ·rcases dj hv with ⟨j,u,rfl,rfl⟩|⟨y,u,rfl,rfl⟩
   ·rw [KJ] at h;exact lv.str_int x t j u _ _ _ _ h
   ·rw [KH] at h;exact wpAny_eqBool_str h
 «strs»:=fun k x t v h=>by
  rcases dj h with ⟨i,u,rfl,e⟩|⟨y,u,rfl,e⟩
  ·exact nomatch e
  ·injection e with e1 _
   subst e1
   cases v <;> rfl
theorem yD (prog:gc) (w:i0) (i:Int) (t:Tok):(bO prog w).is (.inl i) (.int i t)=true:=BZ i t
theorem yE (prog:gc) (w:i0) (x:br) (t:Tok):(bO prog w).is (.inr x) (.str x t)=true:=B1 x t
inductive V where
 |au|bl (b:Bool)|int (i:Int)|str (x:br)|kn (b:Array UInt8)|zj (b:UInt64)|ref (a:ag)|ty (n:String)
 deriving DecidableEq
def RelV:V->ap->Prop
 | .au,u=>u=xz
 | .bl b,u=>u=SL b
 | .int i,u=>∃t,u=XN i t
 | .str x,u=>∃t,u=XO x t
 | .kn b,u=>∃t,u=ap.bytes b t
 | .zj b,u=>∃t,u=ap.float b t
 | .ref a,u=>u=mT a
 | .ty n,u=>u=GM n
abbrev Vals:List V->List ap->Prop:=wp RelV
theorem Vals.length {xs:List V} {us:List ap} (r:Vals xs us):xs.length=us.length:=GS r
theorem Vals.get:∀{xs:List V} {us:List ap} {i:Nat} {x:V},Vals xs us->xs[i]?=some x->∃u,us[i]?=some u/\RelV x u
 |_,_,_,_,.nil,e=>by simp at e
 |_,_,0,_,.cons r _,e=>by simp at e;subst e;exact ⟨_,rfl,r⟩
 |_,_,i+1,x,.cons _ t,e=>by
          obtain ⟨u,h1,h2⟩:=Vals.get (i:=i) (x:=x) t (by simpa using e)
          exact ⟨u,by simpa using h1,h2⟩
theorem Vals.set {x:V} {u:ap} (r:RelV x u):∀{xs:List V} {us:List ap} (i:Nat),Vals xs us->Vals (xs.set i x) (us.set i u)
 |_,_,_,.nil=>.nil
 |_,_,0,.cons _ t=>.cons r t
 |_,_,i+1,.cons q t=>.cons q (Vals.set r i t)
theorem Vals.append:∀{xs ys:List V} {us ws:List ap},Vals xs us->Vals ys ws->Vals (xs++ys) (us++ws)
 |_,_,_,_,.nil,s=>s
 |_,_,_,_,.cons r t,s=>.cons r (Vals.append t s)
theorem Vals.take:∀{xs:List V} {us:List ap} (n:Nat),Vals xs us->Vals (xs.take n) (us.take n)
 |_,_,0,_=>.nil
 |_,_,_+1,.nil=>.nil
 |_,_,n+1,.cons r t=>.cons r (Vals.take n t)
theorem Vals.drop:∀{xs:List V} {us:List ap} (n:Nat),Vals xs us->Vals (xs.drop n) (us.drop n)
 |_,_,0,r=>r
 |_,_,_+1,.nil=>.nil
 |_,_,n+1,.cons _ t=>Vals.drop n t
def jl:Option V->Option ap->Prop
 |some v,some u=>RelV v u
 |none,none=>True
 |_,_=>False
def KV {κ:Type}:List (κ×V)->List (κ×ap)->Prop:=wp fun (p:κ×V) (q:κ×ap)=>p.1=q.1/\RelV p.2 q.2
def kV:Key->V
 | .inl i=>.int i
 | .inr x=>.str x
inductive HO where
 |lst (xs:List V)
 |tup (xs:List V)
 |dK (av:List (Key×V))|dT (av:List (List Key×V))
 |set (S:Int->Bool) (n:Nat)
 |ins (C dx:ag) (fs:List (br×V))
 |own (x:ag)
 |xd (fs:List (br×V))
 |met (f x:ag)
 |Hh (lo hi:Int)
 |gG (o:l3) (u:HO)
 |dy (ps:Array ap)
 |lam (ps:Array ap)
 |ext (φ:ij->Prop)
abbrev Hp:=ag->Option HO
def upd (H:Hp) (a:ag) (o:HO):Hp:=fun b=>if b=a then some o else H b
theorem aK {H:Hp} {a:ag} {o:HO}:upd H a o a=some o :=by unfold upd;rw [if_pos rfl]
theorem aj {H:Hp} {a b:ag} {o:HO} (h:b≠a):upd H a o b=H b :=by unfold upd;rw [if_neg h]
theorem qX {H:Hp} {a b:ag} {o u:HO} (h:H a=some o) (h':H b=some u) (d:o≠u):a≠b :=by
 intro e;subst e;rw [h] at h';exact d (i4 h')
theorem bB {H:Hp} {a b:ag} {o:HO} (h:H a=some o) (h':H b=none):a≠b :=by
 intro e;subst e;rw [h] at h';cases h'
section
variable (P:gc) (w:i0)
def mP (h:ij) (a:ag) (items:Array ap):Prop:=∃o,h.get? a=some o/\o.cls=.type "tuple" /\ ∃n,o.data=.seq items n/\o.dict=none
theorem mP.tup {h:ij} {a:ag} {items:Array ap} (x:mP h a items):IsTup h a items:=let ⟨o,e,c,n,d,_⟩:=x;⟨o,e,c,n,d⟩
theorem mP.lt {h:ij} {a:ag} {items:Array ap} (x:mP h a items):a<h.objs.size:=x.tup.lt
theorem mP.new (h:ij) (items:Array ap):mP (h.push {cls:=.type "tuple",data:=.seq items}) h.objs.size items:=⟨_,en _ rfl,rfl,_,rfl,rfl⟩
def ObjOk (H:Hp) (h:ij) (a:ag):HO->Prop
 | .lst xs=>xs.length<=sizeLine/\∃(its:List ap) (n:Nat),Vals xs its/\h.get? a=some {cls:=.type "list",data:=.seq its.toArray n}
 | .tup xs=>xs.length<=sizeLine/\∃its:List ap,Vals xs its/\mP h a its.toArray
 | .dK av=>av.length<=sizeLine/\(a==sysModules)=false/\∃vs,KV av vs/\h.DictOf (bO P w) a vs
 | .dT av=>av.length<=sizeLine/\(a==sysModules)=false/\∃xs:List (List Key×ag×ap),
   wp (fun (p:List Key×V) (q:List Key×ag×ap)=>p.1=q.1/\H q.2.1=some (.tup (p.1.map kV))/\RelV p.2 q.2.2) av xs /\
   ∃o es ep,h.get? a=some o/\o.ExactDict/\o.data=.dict es ep/\es.toList=xs.map (entryOfKey (tupleKind (bO P w)))/\(xs.map (·.1)).Nodup
 | .set S n=>h.SetOf (intKind P w) a S n
 | .ins C dx fs=>H dx=some (.own a)/\fs.length<=1000/\dx≠a/\h.get? a=some (XQ C dx) /\
   ∃mA,h.Ns1 dx mA/\(∀f,jl (fs.lookup f) (mA f))/\PySem.Within mA (fs.map (·.1))
 | .own _=>∃o,h.get? a=some o
 | .xd fs=>∃mA,h.Ns1 a mA/\∀f,jl (fs.lookup f) (mA f)
 | .Hh lo hi=>∃t u v,h.get? a=some {cls:=.type "range",data:=.fields #[.int lo t,.int hi u,.int 1 v]}
 | .gG o u=>h.get? a=some o/\ObjOk H h a u
 | .dy ps=>h.get? a=some {cls:=.none,data:=.fields ps}
 | .lam ps=>h.get? a=some {cls:=.none,data:=.fields ps}
 | .met f x=>h.get? a=some (Xr (.ref f) (.ref x))
 | .ext φ=>φ h/\(∃o,h.get? a=some o)/\∀h1 h2:ij,φ h1->(∀o,h1.get? a=some o->h2.get? a=some o)->φ h2
def dz (H:Hp) (h:ij):Prop:=∀a o,H a=some o->ObjOk P w H h a o
end
section
variable {P:gc} {w:i0} {H H':Hp} {h h':ij} {a:ag} {o:HO}
theorem ObjOk.lt (x:ObjOk P w H h a o):a<h.objs.size :=by
 cases o with
 |lst xs=>obtain ⟨_,_,_,_,e⟩:=x;exact ii e
 |tup xs=>obtain ⟨_,_,_,p⟩:=x;exact p.lt
 |dK av=>obtain ⟨_,_,_,_,o,_,_,e,_⟩:=x;exact ii e
 |dT av=>obtain ⟨_,_,_,_,o,_,_,e,_⟩:=x;exact ii e
 |set S n=>obtain ⟨o,_,_,_,e,_⟩:=x;exact ii e
 |ins C dx fs=>obtain ⟨_,_,_,e,_⟩:=x;exact ii e
 |own y=>obtain ⟨_,e⟩:=x;exact ii e
 |xd fs=>obtain ⟨_,⟨_,_,_,e,_⟩,_⟩:=x;exact ii e
 |Hh lo hi=>obtain ⟨_,_,_,e⟩:=x;exact ii e
 |gG ob u=>obtain ⟨e,_⟩:=x;exact ii e
 |dy ps=>exact ii (show h.get? a=some _ from x)
 |lam ps=>exact ii (show h.get? a=some _ from x)
 |met f y=>exact ii (show h.get? a=some _ from x)
 |ext φ=>obtain ⟨_,⟨_,e⟩,_⟩:=x;exact ii e
theorem wp.Ao {α β:Type} {F G:α->β->Prop}:∀{vY:List α} {l₂:List β},wp F vY l₂->(∀a b,F a b->G a b)->wp G vY l₂
 |_,_,.nil,_=>.nil
 |_,_,.cons r t,f=>.cons (f _ _ r) (wp.Ao t f)
theorem wp.imp' {α β:Type} {F G:α->β->Prop} (f:∀a b,F a b->G a b) {vY:List α} {l₂:List β} (r:wp F vY l₂):wp G vY l₂:=wp.Ao r f
theorem ObjOk.dA (x:ObjOk P w H h a o) (k:∀b u,(b=a\/H b=some (.own a))->h.get? b=some u->h'.get? b=some u)
  (ho:∀b,H b=some (.own a)->H' b=some (.own a)) (ht:∀b xs,H b=some (.tup xs)->H' b=some (.tup xs)):ObjOk P w H' h' a o :=by
 induction o with
 |lst xs=>obtain ⟨z,its,n,r,e⟩:=x;exact ⟨z,its,n,r,k _ _ (.inl rfl) e⟩
 |tup xs=>obtain ⟨z,its,r,ob,e,c⟩:=x;exact ⟨z,its,r,ob,k _ _ (.inl rfl) e,c⟩
 |dK av=>obtain ⟨z,y,vs,r,ob,es,ep,e,c⟩:=x;exact ⟨z,y,vs,r,ob,es,ep,k _ _ (.inl rfl) e,c⟩
 |dT av=>
  obtain ⟨z,y,xs,r,ob,es,ep,e,c⟩:=x
  exact ⟨z,y,xs,wp.Ao r fun p q z=>⟨z.1,ht _ _ z.2.1,z.2.2⟩,ob,es,ep,k _ _ (.inl rfl) e,c⟩
 |set S n=>obtain ⟨ob,es,ep,t,e,c⟩:=x;exact ⟨ob,es,ep,t,k _ _ (.inl rfl) e,c⟩
 |ins C dx fs=>
  obtain ⟨d,z,ne,e,mA,⟨od,es,ep,e2,c⟩,r⟩:=x
  exact ⟨ho _ d,z,ne,k _ _ (.inl rfl) e,mA,⟨od,es,ep,k _ _ (.inr d) e2,c⟩,r⟩
 |own y=>obtain ⟨ob,e⟩:=x;exact ⟨ob,k _ _ (.inl rfl) e⟩
 |xd fs=>obtain ⟨mA,⟨od,es,ep,e,c⟩,r⟩:=x;exact ⟨mA,⟨od,es,ep,k _ _ (.inl rfl) e,c⟩,r⟩
 |Hh lo hi=>obtain ⟨t,u,v,e⟩:=x;exact ⟨t,u,v,k _ _ (.inl rfl) e⟩
 |gG ob u ih=>obtain ⟨e,q⟩:=x;exact ⟨k _ _ (.inl rfl) e,ih q⟩
 |dy ps=>
  have e:h.get? a=some {cls:=.none,data:=.fields ps}:=x
  show h'.get? a=some {cls:=.none,data:=.fields ps}
  exact k a _ (.inl rfl) e
 |lam ps=>
  have e:h.get? a=some {cls:=.none,data:=.fields ps}:=x
  show h'.get? a=some {cls:=.none,data:=.fields ps}
  exact k a _ (.inl rfl) e
 |met f y=>
  have e:h.get? a=some (Xr (.ref f) (.ref y)):=x
  show h'.get? a=some (Xr (.ref f) (.ref y))
  exact k a _ (.inl rfl) e
 |ext φ=>obtain ⟨p,⟨o,e⟩,st⟩:=x;exact ⟨st _ _ p fun o q=>k _ _ (.inl rfl) q,⟨o,k _ _ (.inl rfl) e⟩,st⟩
theorem dz.lt (x:dz P w H h) (e:H a=some o):a<h.objs.size:=(x a o e).lt
theorem dz.fresh (x:dz P w H h) (e:h.objs.size<=a):H a=none :=by
 cases q:H a with
 |none=>rfl
 |some u=>exact absurd (l7 (x.lt q) e) (Do _)
theorem dz.kept (x:dz P w H h) (k:∀b u,h.get? b=some u->h'.get? b=some u):dz P w H h':=fun a o e=>
 (x a o e).dA (fun b u _ q=>k b u q) (fun _ q=>q) fun _ _ q=>q
theorem dz.laid (x:dz P w H h) (k:∀b u,h.get? b=some u->h'.get? b=some u) (hp:h.objs.size<=a) (new:ObjOk P w (upd H a o) h' a o):dz P w (upd H a o) h':=fun b u e=>by
 have hn:=x.fresh hp
 by_cases hb:b=a
 ·subst hb;rw [aK] at e;cases e;exact new
 ·rw [aj hb] at e
  exact (x b u e).dA (fun c v _ q=>k c v q) (fun c q=>by rw [aj (bB q hn)];exact q) fun c xs q=>by rw [aj (bB q hn)];exact q
end
def Rd (H:Hp) (a:ag) (u:HO):Prop:=H a=some u\/∃o,H a=some (.gG o u)
theorem Rd.ok {P:gc} {w:i0} {H:Hp} {h:ij} {a:ag} {u:HO} (r:Rd H a u) (x:dz P w H h):ObjOk P w H h a u :=by
 rcases r with r|⟨o,r⟩
 ·exact x a u r
 ·obtain ⟨_,q⟩:=x a _ r
  exact q
def B2:Option HO->Prop
 |some (.lst _)=>True
 |some (.dK _)=>True
 |some (.dT _)=>True
 |some (.set _ _)=>True
 |some (.ins _ _ _)=>True
 |some (.ext _)=>True
 |some (.lam _)=>True
 |_=>False
section
variable {P:gc} {w:i0} {H:Hp} {h h':ij} {x e:ag} {o':HO}
theorem dz.write (ok:dz P w H h) (mu:B2 (H x)) (he:e=x\/H e=some (.own x)) (k:∀b u,b≠e->h.get? b=some u->h'.get? b=some u) (zk:∃u,h'.get? e=some u)
  (new:ObjOk P w (upd H x o') h' x o'):dz P w (upd H x o') h':=fun b u q=>by
 have KL:∀c y,H c=some (.own y)->c≠x:=fun c y r z=>by subst z;rw [r] at mu;exact mu
 have Si:∀c xs,H c=some (.tup xs)->c≠x:=fun c xs r z=>by subst z;rw [r] at mu;exact mu
 by_cases hb:b=x
 ·subst hb;rw [aK] at q;cases q;exact new
 ·rw [aj hb] at q
  by_cases vZ:b=e
  ·have q':H b=some (.own x) :=by
    rcases he with z|z
    ·exact absurd (vZ.trans z) hb
    ·rw [vZ];exact z
   rw [q] at q';cases q'
   obtain ⟨v,hv⟩:=zk
   exact ⟨v,by rw [vZ];exact hv⟩
  ·refine (ok b u q).dA (fun c v hc r=>k c v ?_ r) (fun c r=>by rw [aj (KL c b r)];exact r) fun c xs r=>by rw [aj (Si c xs r)];exact r
   rcases hc with rfl|hc
   ·exact vZ
   ·rintro rfl
    rcases he with z|z
    ·exact KL c b hc z
    ·rw [hc] at z;cases z;exact hb rfl
end
structure Un (fs ex:List ag) (H H':Hp) (h h':ij):Prop where
 keep:∀b o,h.get? b=some o->H b=none->b ∉ fs->b ∉ ex->h'.get? b=some o
 slot:∀b o,h.get? b=some o->H b=none->b∈fs->b ∉ ex->∃sl,h'.get? b=some {o with slots:=sl}
 free:∀b o,h.get? b=some o->H b=none->b ∉ ex->H' b=none
 there:∀b o,h.get? b=some o->b ∉ ex->∃o',h'.get? b=some o'
 tups:∀b xs,H b=some (.tup xs)->H' b=some (.tup xs)
 frzs:∀b o u,H b=some (.gG o u)->H' b=some (.gG o u)
 tbls:∀b ps,H b=some (.dy ps)->∃more,H' b=some (.dy (ps++more))
section
variable {fs TK ex VS:List ag} {H H1 H2:Hp} {h h1 h2 h':ij} {a x e:ag} {o:HO}
theorem Un.any (u:Un fs ex H H1 h h1) {b:ag} {ob:l3} (q:h.get? b=some ob) (n:H b=none) (hx:b ∉ ex):∃sl,h1.get? b=some {ob with slots:=sl}:=by
 by_cases hb:b∈fs
 ·exact u.slot b ob q n hb hx
 ·exact ⟨ob.slots,u.keep b ob q n hb hx⟩
theorem Un.kept (k:∀b u,h.get? b=some u->h'.get? b=some u):Un fs ex H H h h':=
 ⟨fun b ob q _ _ _=>k b ob q,fun b ob q _ _ _=>⟨ob.slots,k b ob q⟩,fun _ _ _ n _=>n,fun b ob q _=>⟨ob,k b ob q⟩,fun _ _ q=>q,fun _ _ _ q=>q,fun _ ps q=>⟨#[],by rw [q];simp⟩⟩
theorem Un.refl:Un fs ex H H h h:=Un.kept fun _ _ q=>q
theorem Un.laid (k:∀b u,h.get? b=some u->h'.get? b=some u) (hp:h.objs.size<=a) (hn:H a=none):Un fs ex H (upd H a o) h h' where
 keep:=fun b u q _ _ _=>k b u q
 slot:=fun b u q _ _ _=>⟨u.slots,k b u q⟩
 free:=fun b u q n _=>by rw [aj (kw (l7 (ii q) hp))];exact n
 there:=fun b u q _=>⟨u,k b u q⟩
 tups:=fun b xs q=>by rw [aj (bB q hn)];exact q
 frzs:=fun b u xs q=>by rw [aj (bB q hn)];exact q
 tbls:=fun b ps q=>⟨#[],by rw [aj (bB q hn),q];simp⟩
theorem Un.write (mu:B2 (H x)) (he:e=x\/H e=some (.own x)) (k:∀b u,b≠e->h.get? b=some u->h'.get? b=some u) (zk:∃u,h'.get? e=some u):Un fs ex H (upd H x o) h h':=by
 have hx:∀b,H b=none->b≠x:=fun b n z=>by subst z;rw [n] at mu;exact mu
 have hb:∀b,H b=none->b≠e:=fun b n z=>by
  subst z
  rcases he with r|r
  ·exact hx b n r
  ·rw [n] at r;cases r
 have hm:∀b u,H b=some u->¬ B2 (some u)->b≠x:=fun b u q nm z=>by subst z;rw [q] at mu;exact nm mu
 refine ⟨fun b u q n _ _=>k b u (hb b n) q,fun b u q n _ _=>⟨u.slots,k b u (hb b n) q⟩,fun b u q n _=>by rw [aj (hx b n)];exact n,fun b u q _=>?_,
  fun b xs q=>by rw [aj (hm b _ q fun z=>z)];exact q,fun b u xs q=>by rw [aj (hm b _ q fun z=>z)];exact q,fun b ps q=>⟨#[],by rw [aj (hm b _ q fun z=>z),q];simp⟩⟩
 by_cases vZ:b=e
 ·subst vZ;exact zk
 ·exact ⟨u,k b u vZ q⟩
end
def Hi (h:ij) (H:Hp):List ag:=(hX h.objs.size).filter fun a=>(H a).isSome
def ko (h:ij) (H:Hp):ij:=WO h (Hi h H)
theorem B3 (h:ij) (H:Hp):(ko h H).objs.size=h.objs.size:=PySem.W.hideAll_size _ _
theorem Fb {h:ij} {H:Hp} {b:ag} {o:l3} (e:h.get? b=some o) (n:H b=none):(ko h H).get? b=some o:=
 PySem.W.hideAll_get _ e fun hm=>by
  have q:(H b).isSome=true:=(Fk.mp hm).2
  rw [n] at q;simp at q
theorem IE {h:ij} {H:Hp} {b:ag} {o:l3} (e:(ko h H).get? b=some o):h.get? b=some o/\H b=none :=by
 have e':h.get? b=some o:=PySem.W.of_hideAll (Hi h H) e
 refine ⟨e',?_⟩
 cases q:H b with
 |none=>rfl
 |some x=>
  have hm:b∈Hi h H:=Fk.mpr ⟨ul.mpr (ii e'),by simp [q]⟩
  have z:(ko h H).get? b=none:=PySem.W.hideAll_none (Hi h H) hm
  rw [z] at e;cases e
def IG (g h:ij) (L:ag):List (ag×l3):=(hX h.objs.size).filterMap fun a=>if a=L\/(g.get? a).isSome=true then none else (h.get? a).map fun o=>(a,o)
def rest (g h:ij) (L d:ag):List (ag×l3):=(IG g h L).filter fun p=>decide (p.1≠d)
structure Mod (K:ba) (mg:br->Option ap) (base:ij):Prop where
 kin:K.In base
 glob:base.Ns mainGlobals mg
 blt:∃mb,base.Ns builtinsNs mb/\∀x:br,x ≠ "__name__" -> mb x=bootBuiltins x
 nolimit:base.NoLimit
structure Cx where
 prog:gc
 w:i0
 K:ba
 mg:br->Option ap
 base:ij
 A:l8
 N:List br
 s₀:ar
 H₀:Hp
 env:IR
 outer:List IR
 stack:List IR
 ex:List ag
 fn:br->Bool
 calm:Bool
 pn:List (ag×l3)
 xe:ap->ar->Prop
def gH (l:List IR):List ag:=l.filterMap (·.frame)
abbrev Cx.fs (X:Cx):List ag:=gH X.outer
def ua (sc:wl) (x:br):Prop:=sc.names.lookup x=some .local\/sc.names.lookup x=some .cell\/sc.names.lookup x=some .free
def Loc (sc:wl) (x:br):Prop:=sc.names.lookup x=some .local\/sc.names.lookup x=some .cell
def Look (env:IR) (h:ij) (m:br->Option ap) (x:br) (u:ap):Prop:=
 (env.kindOf x=some .local/\m x=some u)\/((env.kindOf x=some .cell\/env.kindOf x=some .free)/\∃c,env.cells.lookup x=some c/\h.IsCell c (some u))
structure Cx.Ok (X:Cx):Prop where
 mod:Mod X.K X.mg X.base
 kind:X.env.scope.kind=.function
 glob:X.env.globals=mainGlobals
 blt:X.env.builtins=builtinsNs
 above:X.s₀.heap.objs.size<=X.env.locals
 inj:∀x y c,X.env.cells.lookup x=some c->X.env.cells.lookup y=some c->x=y
 has:∀x,(X.env.kindOf x=some .cell\/X.env.kindOf x=some .free)->∃c,X.env.cells.lookup x=some c
 cab:∀x c,X.fn x=true->X.env.cells.lookup x=some c->X.s₀.heap.objs.size<=c
 hd:X.calm=true->X.A.handled=none
 frames:X.A.frames=some X.stack
 stk:X.stack=X.outer\/(X.stack=X.env::X.outer/\X.env.frame=some X.env.locals)
 exf:∀b∈X.ex,b≠X.env.locals/\∀x c,X.env.cells.lookup x=some c->c≠b
 bs:∀b o,X.base.get? b=some o->X.s₀.heap.get? b=some o/\X.H₀ b=none
 bsz:X.base.objs.size<=X.s₀.heap.objs.size
 noex:∀b o,X.base.get? b=some o->b ∉ X.ex
 exfs:∀b∈X.ex,b ∉ X.fs
 funs:X.s₀.heap.FunFrames X.base X.outer
 frf:∀b∈X.fs,X.H₀ b=none
def Gn (n:Nat) (g:Array PM):Prop:=X3 g/\n<=g.size
theorem Gn.self {n:Nat} {g:Array PM} (x:Gn n g):Gn g.size g:=⟨x.1,ce _⟩
theorem Gn.trans {n:Nat} {g g':Array PM} (x:Gn n g) (y:Gn g.size g'):Gn n g':=⟨y.1,ln x.2 y.2⟩
structure Inv (X:Cx) (pins:List (ag×l3)) (σ:List (Option V)) (H:Hp) (s:ar):Prop where
 ok:X.Ok
 os:s.os=X.s₀.os
 bare:Gn X.s₀.gens.size s.gens
 base:Un X.fs X.ex X.H₀ H X.s₀.heap s.heap
 loc:∃m,s.heap.Ns X.env.locals m/\∀(i:Nat) (x:br) (v:V),X.N[i]?=some x->σ[i]?=some (some v)->ua X.env.scope x->∃u,RelV v u/\Look X.env s.heap m x u
 cell:∀x c,X.env.cells.lookup x=some c->∃v,s.heap.IsCell c v
 free:H X.env.locals=none
 freeC:∀x c,X.env.cells.lookup x=some c->H c=none
 pin:∀p∈X.pn++pins,s.heap.get? p.1=some p.2/\H p.1=none/\p.1≠X.env.locals/\p.1 ∉ X.fs/\∀v,p.2.data≠.cell v
 hok:dz X.prog X.w H s.heap
 len:σ.length=X.N.length
section
variable {X:Cx} {pins:List (ag×l3)} {σ:List (Option V)} {H H':Hp} {s:ar} {h':ij}
theorem Cx.Ok.Sj (ok:X.Ok) {b:ag} {o:l3} (e:X.base.get? b=some o):b ∉ X.fs:=fun hb=>by
 have:=(ok.funs.mem hb).1
 rw [e] at this;cases this
theorem Inv.bs (I:Inv X pins σ H s):∀b o,X.base.get? b=some o->s.heap.get? b=some o/\H b=none:=fun b o e=>
 ⟨I.base.keep b o (I.ok.bs b o e).1 (I.ok.bs b o e).2 (I.ok.Sj e) (I.ok.noex b o e),I.base.free b o (I.ok.bs b o e).1 (I.ok.bs b o e).2 (I.ok.noex b o e)⟩
theorem Inv.bk (I:Inv X pins σ H s):∀b o,X.base.get? b=some o->s.heap.get? b=some o:=fun b o e=>(I.bs b o e).1
theorem Inv.mod (I:Inv X pins σ H s):Mod X.K X.mg X.base:=I.ok.mod
theorem Inv.jH (I:Inv X pins σ H s):X.K.In s.heap:=I.ok.mod.kin.keeps I.bk
theorem Inv.nolimit (I:Inv X pins σ H s):s.heap.NoLimit:=I.ok.mod.nolimit.keeps I.bk
theorem Inv.lt (I:Inv X pins σ H s):X.env.locals<s.heap.objs.size:=let ⟨_,hn,_⟩:=I.loc;hn.lt
theorem Inv.sz (I:Inv X pins σ H s):X.s₀.heap.objs.size<=s.heap.objs.size:=ln I.ok.above (LG I.lt)
theorem Inv.KN (I:Inv X pins σ H s) {a:ag} (h:s.heap.objs.size<=a):a ∉ X.fs:=fun hb=>by
 obtain ⟨_,o,ho,_⟩:=I.ok.funs.mem hb
 exact absurd (l7 (ii ho) (ln I.sz h)) (Do _)
theorem Inv.v3 (I:Inv X pins σ H s):∀x c,X.env.cells.lookup x=some c->c≠X.env.locals:=fun x c e z=>by
 obtain ⟨v,o,ho,hd⟩:=I.cell x c e
 obtain ⟨m,⟨o',es,ep,fV,jI,_⟩,_⟩:=I.loc
 rw [z,fV] at ho;cases ho;rw [jI] at hd;cases hd
theorem Inv.funs (I:Inv X pins σ H s):s.heap.FunFrames X.base X.outer :=by
 have all:∀(l:List IR),(∀b∈gH l,b∈X.fs)->X.s₀.heap.FunFrames X.base l->s.heap.FunFrames X.base l :=by
  intro l
  induction l with
  |nil=>intro _ _;trivial
  |cons env r ih=>
   intro hs hl
   obtain ⟨hk,⟨L,o,hf,hn,ho,hd⟩,hr⟩:=hl
   have hL:L∈X.fs:=hs L (by unfold gH;rw [OE,hf];exact ff)
   obtain ⟨sl,e⟩:=I.base.slot L o ho (I.ok.frf L hL) hL fun z=>I.ok.exfs L z hL
   exact ⟨hk,⟨L,_,hf,hn,e,hd⟩,ih (fun b hb=>hs b (by unfold gH;rw [OE,hf];exact db _ hb)) hr⟩
 exact all X.outer (fun _ hb=>hb) I.ok.funs
theorem Inv.stack (I:Inv X pins σ H s):s.heap.FunFrames X.base X.stack :=by
 rcases I.ok.stk with e|⟨e,hf⟩
 ·rw [e];exact I.funs
 ·rw [e]
  obtain ⟨m,hn,_⟩:=I.loc
  refine .cons (by rw [I.ok.kind];decide) hf hn ?_ I.funs
  exact ij.get?_none_of_le (ln I.ok.bsz I.ok.above)
theorem Inv.iN (I:Inv X pins σ H s):∀b∈gH X.stack,b∈X.env.locals::X.fs:=fun b hb=>by
 rcases I.ok.stk with e|⟨e,hf⟩
 ·rw [e] at hb;exact db _ hb
 ·rw [e] at hb
  unfold gH at hb
  rw [OE,hf] at hb
  exact hb
theorem Inv.pz (I:Inv X pins σ H s):∀b∈gH X.stack,H b=none:=fun b hb=>by
 rcases io.mp (I.iN b hb) with e|hb
 ·rw [e];exact I.free
 ·obtain ⟨_,o,ho,_⟩:=I.ok.funs.mem hb
  exact I.base.free b o ho (I.ok.frf b hb) fun z=>I.ok.exfs b z hb
theorem Inv.step {g':Array PM} {t':Nat} {d':Drawn} {ch:List ag} (I:Inv X pins σ H s)
  (pT:∀b∈ch,(b∈X.ex\/X.s₀.heap.objs.size<=b)/\b≠X.env.locals/\(∀x c,X.env.cells.lookup x=some c->c≠b)/\∀p∈X.pn++pins,p.1≠b)
  (keep:∀b o,b≠X.env.locals->b ∉ X.fs->b ∉ ch->s.heap.get? b=some o->H b=none->h'.get? b=some o)
  (slot:∀b o,b≠X.env.locals->b∈X.fs->b ∉ ch->s.heap.get? b=some o->H b=none->∃sl,h'.get? b=some {o with slots:=sl}) (free:∀b o,b ∉ ch->s.heap.get? b=some o->H b=none->H' b=none)
  (there:∀b o,b ∉ ch->s.heap.get? b=some o->∃o',h'.get? b=some o')
  (tups:∀b xs,H b=some (.tup xs)->H' b=some (.tup xs)) (frzs:∀b o u,H b=some (.gG o u)->H' b=some (.gG o u)) (tbls:∀b ps,H b=some (.dy ps)->∃more,H' b=some (.dy (ps++more)))
  (ns:∀m,s.heap.Ns X.env.locals m->h'.Ns X.env.locals m) (hok:dz X.prog X.w H' h') (hg:Gn s.gens.size g') :
  Inv X pins σ H' {s with heap:=h',gens:=g',drawn:=d',toks:=t'}:=by
 have QD:∀b o,X.s₀.heap.get? b=some o->b≠X.env.locals:=fun b o e=>kw (l7 (ii e) I.ok.above)
 have Hj:∀b o,X.s₀.heap.get? b=some o->b ∉ X.ex->b ∉ ch:=fun b o e hx hb=>by
  rcases (pT b hb).1 with z|z
  ·exact hx z
  ·exact absurd (l7 (ii e) z) (Do _)
 have cellK:∀x c,X.env.cells.lookup x=some c->∀v,s.heap.IsCell c v->h'.IsCell c v:=fun x c e v ⟨o,ho,hd⟩=>by
  have B4:c ∉ ch:=fun z=>(pT c z).2.2.1 x c e rfl
  by_cases hc:c∈X.fs
  ·obtain ⟨sl,q⟩:=slot c o (I.v3 x c e) hc B4 ho (I.freeC x c e)
   exact ⟨_,q,hd⟩
  ·exact ⟨o,keep c o (I.v3 x c e) hc B4 ho (I.freeC x c e),hd⟩
 refine ⟨I.ok,I.os,I.bare.trans hg,⟨fun b o e n hb hx=>?_,fun b o e n hb hx=>?_,fun b o e n hx=>?_,fun b o e hx=>?_,fun b xs e=>tups b xs (I.base.tups b xs e),fun b o xs e=>frzs b o xs (I.base.frzs b o xs e),fun b ps e=>?_⟩,?_,fun x c e=>?_,?_,fun x c e=>?_,fun p hp=>?_,hok,I.len⟩
 ·exact keep b o (QD b o e) hb (Hj b o e hx) (I.base.keep b o e n hb hx) (I.base.free b o e n hx)
 ·obtain ⟨sl,e1⟩:=I.base.slot b o e n hb hx
  obtain ⟨QF,e2⟩:=slot b _ (QD b o e) hb (Hj b o e hx) e1 (I.base.free b o e n hx)
  exact ⟨QF,e2⟩
 ·obtain ⟨o',e1⟩:=I.base.there b o e hx
  exact free b o' (Hj b o e hx) e1 (I.base.free b o e n hx)
 ·obtain ⟨o',e1⟩:=I.base.there b o e hx
  exact there b o' (Hj b o e hx) e1
 ·obtain ⟨m1,e1⟩:=I.base.tbls b ps e
  obtain ⟨m2,e2⟩:=tbls b _ e1
  exact ⟨m1++m2,by rw [e2,Array.append_assoc]⟩
 ·obtain ⟨m,hn,hl⟩:=I.loc
  refine ⟨m,ns m hn,fun i x v e1 e2 e3=>?_⟩
  obtain ⟨u,r,l⟩:=hl i x v e1 e2 e3
  refine ⟨u,r,?_⟩
  rcases l with l|⟨k,c,e,z⟩
  ·exact .inl l
  ·exact .inr ⟨k,c,e,cellK x c e _ z⟩
 ·obtain ⟨v,z⟩:=I.cell x c e
  exact ⟨v,cellK x c e v z⟩
 ·obtain ⟨m,⟨o,_,_,ho,_⟩,_⟩:=I.loc
  exact free _ o (fun z=>(pT _ z).2.1 rfl) ho I.free
 ·obtain ⟨v,o,ho,hd⟩:=I.cell x c e
  exact free c o (fun z=>(pT c z).2.2.1 x c e rfl) ho (I.freeC x c e)
 ·obtain ⟨e,n,ne,nf,d⟩:=I.pin p hp
  have B4:p.1 ∉ ch:=fun z=>(pT p.1 z).2.2.2 p hp rfl
  exact ⟨keep p.1 p.2 ne nf B4 e n,free p.1 p.2 B4 e n,ne,nf,d⟩
theorem Inv.un {t':Nat} (I:Inv X pins σ H s) (u:Un X.fs [] H H' s.heap h') (hok:dz X.prog X.w H' h'):Inv X pins σ H' {s with heap:=h',toks:=t'}:=by
 obtain ⟨m,⟨o,es,ep,ho,r⟩,_⟩:=id I.loc
 obtain ⟨sl,hL⟩:=u.any ho I.free (by simp)
 exact I.step (g':=s.gens) (d':=s.drawn) (ch:=[]) (fun _ z=>nomatch z) (fun b o _ hb _ e n=>u.keep b o e n hb (by simp)) (fun b o _ hb _ e n=>u.slot b o e n hb (by simp)) (fun b o _ e n=>u.free b o e n (by simp)) (fun b o _ e=>u.there b o e (by simp)) u.tups u.frzs u.tbls (fun m' hm=>by
  obtain ⟨o',jJ,KO,fV,r'⟩:=hm
  rw [ho] at fV;cases fV
  exact ⟨_,jJ,KO,hL,r'⟩) hok I.bare.self
theorem Inv.call {g':Array PM} {t':Nat} {d':Drawn} {ch:List ag} (I:Inv X pins σ H s) (u:Un (gH X.stack) ch H H' s.heap h') (hok:dz X.prog X.w H' h') (hg:Gn s.gens.size g')
  (pT:∀b∈ch,(b∈X.ex\/X.s₀.heap.objs.size<=b)/\b≠X.env.locals/\(∀x c,X.env.cells.lookup x=some c->c≠b)/\∀p∈X.pn++pins,p.1≠b) :
  Inv X pins σ H' {s with heap:=h',gens:=g',drawn:=d',toks:=t'}:=by
 obtain ⟨m,⟨o,es,ep,ho,r⟩,_⟩:=id I.loc
 obtain ⟨sl,hL⟩:=u.any ho I.free fun z=>(pT _ z).2.1 rfl
 exact I.step (ch:=ch) pT (fun b o hL hb hc e n=>u.keep b o e n (fun z=>(io.mp (I.iN b z)).elim hL hb) hc) (fun b o _ _ hc e n=>u.any e n hc) (fun b o hc e n=>u.free b o e n hc) (fun b o hc e=>u.there b o e hc) u.tups u.frzs u.tbls (fun m' hm=>by
  obtain ⟨o',jJ,KO,fV,r'⟩:=hm
  rw [ho] at fV;cases fV
  exact ⟨_,jJ,KO,hL,r'⟩) hok hg
theorem Inv.turned {t':Nat} {it:ag} (I:Inv X pins σ H s) (k:∀b o,b≠it->s.heap.get? b=some o->h'.get? b=some o) (hn:H it=none) (hL:it≠X.env.locals)
  (h1:it∈X.ex\/X.s₀.heap.objs.size<=it) (h2:∀x c,X.env.cells.lookup x=some c->c≠it) (h3:∀p∈X.pn++pins,p.1≠it):Inv X pins σ H {s with heap:=h',toks:=t'}:=by
 have B5:∀b u,H b=some u->b≠it:=fun b u e z=>by rw [z,hn] at e;cases e
 refine I.step (g':=s.gens) (d':=s.drawn) (ch:=[it]) (fun b hb=>?_) (fun b o _ _ hc e _=>k b o (fun z=>hc (by simp [z])) e) (fun b o _ _ hc e _=>⟨o.slots,k b o (fun z=>hc (by simp [z])) e⟩) (fun _ _ _ _ n=>n)
  (fun b o hc e=>⟨o,k b o (fun z=>hc (by simp [z])) e⟩) (fun _ _ e=>e) (fun _ _ _ e=>e) (fun b ps e=>⟨#[],by rw [e];simp⟩) (fun m hm=>?_) (fun b u e=>?_) I.bare.self
 ·have e:b=it :=by simpa using hb
  subst e
  exact ⟨h1,hL,h2,h3⟩
 ·obtain ⟨o,es,ep,ho,r⟩:=hm
  exact ⟨o,es,ep,k _ o (wE hL) ho,r⟩
 ·refine (I.hok b u e).dA (fun c v hc q=>k c v ?_ q) (fun _ q=>q) fun _ _ q=>q
  rcases hc with z|z
  ·rw [z];exact B5 b u e
  ·exact B5 c _ z
theorem Inv.tok (I:Inv X pins σ H s) (t:Nat):Inv X pins σ H {s with toks:=t}:=I.un (h':=s.heap) (t':=t) Un.refl I.hok
theorem Inv.kept {t':Nat} (I:Inv X pins σ H s) (k:∀b u,s.heap.get? b=some u->h'.get? b=some u):Inv X pins σ H {s with heap:=h',toks:=t'}:=I.un (Un.kept k) (I.hok.kept k)
theorem Inv.laid {a:ag} {o:HO} {t':Nat} (I:Inv X pins σ H s) (k:∀b u,s.heap.get? b=some u->h'.get? b=some u) (hp:s.heap.objs.size<=a) (new:ObjOk X.prog X.w (upd H a o) h' a o) :
  Inv X pins σ (upd H a o) {s with heap:=h',toks:=t'}:=I.un (Un.laid k hp (I.hok.fresh hp)) (I.hok.laid k hp new)
theorem Inv.write {x e:ag} {o:HO} {t':Nat} (I:Inv X pins σ H s) (mu:B2 (H x)) (he:e=x\/H e=some (.own x)) (k:∀b u,b≠e->s.heap.get? b=some u->h'.get? b=some u) (zk:∃u,h'.get? e=some u)
  (new:ObjOk X.prog X.w (upd H x o) h' x o):Inv X pins σ (upd H x o) {s with heap:=h',toks:=t'}:=I.un (Un.write mu he k zk) (I.hok.write mu he k zk new)
theorem Inv.sU {pins':List (ag×l3)} (I:Inv X pins σ H s) (h:∀p∈pins',s.heap.get? p.1=some p.2/\H p.1=none/\p.1≠X.env.locals/\p.1 ∉ X.fs/\∀v,p.2.data≠.cell v):Inv X pins' σ H s:=
 ⟨I.ok,I.os,I.bare,I.base,I.loc,I.cell,I.free,I.freeC,fun p hp=>(l6.mp hp).elim (fun z=>I.pin p (ss _ z)) (h p),I.hok,I.len⟩
theorem v7 {N:List br} (hN:N.Nodup) {i j:Nat} {x:br} (a:N[i]?=some x) (b:N[j]?=some x):i=j :=by
 obtain ⟨h1,e1⟩:=bn.mp a
 obtain ⟨h2,e2⟩:=bn.mp b
 exact (List.getElem_inj hN).mp (e1.trans e2.symm)
theorem store_ok2 {M:Model} {A:l8} {E:ap->ar->Prop} {i:Nat} {x:br} {v:V} {u:ap} {Q:Unit->ar->Prop} (I:Inv X pins σ H s) (hN:X.N.Nodup) (hi:X.N[i]?=some x) (hx:Loc X.env.scope x) (r:RelV v u)
  (h:∀s',Inv X pins (σ.set i (some v)) H s'->(∃a,v6 a s.heap s'.heap/\(a=X.env.locals\/X.env.cells.lookup x=some a))->Q () s') (hf:X.fn x=true\/X.env.scope.names.lookup x=some .local :=by first|exact .inl rfl|exact .inr rfl|assumption):wpAny M A (storeName X.env x u) Q E s :=by
 obtain ⟨m,hn,hl⟩:=id I.loc
 have Sl:(X.env.scope.kind==.class || (X.env.scope.kind==.module && X.env.locals != X.env.globals))=false :=by rw [I.ok.kind];rfl
 have KP:i<σ.length :=by rw [I.len];exact (bn.mp hi).1
 have v3:=I.v3
 have tracked:∀{a:ag} {h':ij},(∃o,s.heap.get? a=some o/\H a=none)->v6 a s.heap h'->dz X.prog X.w H h':=fun {a h'} ha hs b ob e=>by
  obtain ⟨_,_,Hk⟩:=ha
  refine (I.hok b ob e).dA (fun c w' hc q=>(hs.2 c ?_).trans q) (fun _ q=>q) fun _ _ q=>q
  rintro rfl
  rcases hc with rfl|hc
  ·rw [Hk] at e;cases e
  ·rw [Hk] at hc;cases hc
 rcases hx with hk|hk
 ·refine wpAny_storeName_local hk hn (fun h' B6 hs=>?_) Sl
  obtain ⟨oL,_,_,qY,_⟩:=id hn
  refine h _ ⟨I.ok,I.os,I.bare,⟨fun b o e n hb hx=>?_,fun b o e n hb hx=>?_,I.base.free,fun b o e hx=>?_,I.base.tups,I.base.frzs,I.base.tbls⟩,⟨_,B6,fun j y v' e1 e2 e3=>?_⟩,fun y c e=>?_,I.free,I.freeC,fun p hp=>?_,tracked ⟨oL,qY,I.free⟩ hs,by simpa using I.len⟩ ⟨_,hs,.inl rfl⟩
  ·exact (hs.2 b (kw (l7 (ii e) I.ok.above))).trans (I.base.keep b o e n hb hx)
  ·obtain ⟨sl,e1⟩:=I.base.slot b o e n hb hx
   exact ⟨sl,(hs.2 b (kw (l7 (ii e) I.ok.above))).trans e1⟩
  ·obtain ⟨o',e1⟩:=I.base.there b o e hx
   exact ⟨o',(hs.2 b (kw (l7 (ii e) I.ok.above))).trans e1⟩
  ·by_cases hj:j=i
   ·subst hj
    rw [hi] at e1;cases e1
    rw [WB KP] at e2
    cases e2
    exact ⟨u,r,.inl ⟨hk,by simp⟩⟩
   ·rw [List.getElem?_set_ne (wE hj)] at e2
    obtain ⟨u',r',q⟩:=hl j y v' e1 e2 e3
    refine ⟨u',r',?_⟩
    rcases q with ⟨k,e⟩|⟨k,c,e,z⟩
    ·refine .inl ⟨k,?_⟩
     have:y≠x:=fun e=>hj (v7 hN e1 (e▸hi))
     simp [this,e]
    ·exact .inr ⟨k,c,e,z.sameBut hs (v3 y c e)⟩
  ·obtain ⟨w',z⟩:=I.cell y c e
   exact ⟨w',z.sameBut hs (v3 y c e)⟩
  ·obtain ⟨e,n,ne,nf,d⟩:=I.pin p hp
   exact ⟨(hs.2 p.1 ne).trans e,n,ne,nf,d⟩
 ·have KQ:X.fn x=true :=by
   rcases hf with z|z
   ·exact z
   ·rw [z] at hk;cases hk
  obtain ⟨c,hc⟩:=I.ok.has x (.inl hk)
  obtain ⟨w',z⟩:=I.cell x c hc
  refine wpAny_storeName_cell I.ok.kind hk hc z (fun h' v8 hs=>?_)
  obtain ⟨oc,QH,Sn⟩:=id z
  refine h {s with heap:=h'} ⟨I.ok,I.os,I.bare,⟨fun b o e n hb hx=>?_,fun b o e n hb hx=>?_,I.base.free,fun b o e hx=>?_,I.base.tups,I.base.frzs,I.base.tbls⟩,⟨m,hn.sameBut hs (wE (v3 x c hc)),fun j y v' e1 e2 e3=>?_⟩,fun y c' e=>?_,I.free,I.freeC,fun p hp=>?_,tracked ⟨oc,QH,I.freeC x c hc⟩ hs,by simpa using I.len⟩ ⟨c,hs,.inr hc⟩
  ·exact (hs.2 b (kw (l7 (ii e) (I.ok.cab x c KQ hc)))).trans (I.base.keep b o e n hb hx)
  ·obtain ⟨sl,e1⟩:=I.base.slot b o e n hb hx
   exact ⟨sl,(hs.2 b (kw (l7 (ii e) (I.ok.cab x c KQ hc)))).trans e1⟩
  ·obtain ⟨o',e1⟩:=I.base.there b o e hx
   exact ⟨o',(hs.2 b (kw (l7 (ii e) (I.ok.cab x c KQ hc)))).trans e1⟩
  ·by_cases hj:j=i
   ·subst hj
    rw [hi] at e1;cases e1
    rw [WB KP] at e2
    cases e2
    exact ⟨u,r,.inr ⟨.inl hk,c,hc,v8⟩⟩
   ·rw [List.getElem?_set_ne (wE hj)] at e2
    obtain ⟨u',r',q⟩:=hl j y v' e1 e2 e3
    refine ⟨u',r',?_⟩
    rcases q with q|⟨k,c',e,z'⟩
    ·exact .inl q
    ·refine .inr ⟨k,c',e,z'.sameBut hs ?_⟩
     rintro rfl
     exact hj (v7 hN e1 (I.ok.inj _ _ _ e hc▸hi))
  ·by_cases QJ:c'=c
   ·subst QJ;exact ⟨_,v8⟩
   ·obtain ⟨w2,z2⟩:=I.cell y c' e
    exact ⟨w2,z2.sameBut hs QJ⟩
  ·obtain ⟨e,n,ne,nf,d⟩:=I.pin p hp
   refine ⟨(hs.2 p.1 ?_).trans e,n,ne,nf,d⟩
   intro q
   rw [q,QH] at e
   have q':oc=p.2:=i4 e
   exact d w' (by rw [<- q'];exact Sn)
theorem wa {M:Model} {A:l8} {E:ap->ar->Prop} {i:Nat} {x:br} {v:V} {u:ap} {Q:Unit->ar->Prop} (I:Inv X pins σ H s) (hN:X.N.Nodup) (hi:X.N[i]?=some x) (hx:Loc X.env.scope x) (r:RelV v u)
  (h:∀s',Inv X pins (σ.set i (some v)) H s'->Q () s') (hf:X.fn x=true\/X.env.scope.names.lookup x=some .local :=by first|exact .inl rfl|exact .inr rfl|assumption):wpAny M A (storeName X.env x u) Q E s:=
 store_ok2 I hN hi hx r (fun s' I' _=>h s' I') hf
theorem Inv.vG {s':ar} {ch:List ag} (I:Inv X pins σ H s) (ho:s'.os=s.os) (u:Un (gH X.stack) ch H H' s.heap s'.heap) (hok:dz X.prog X.w H' s'.heap) (hg:Gn s.gens.size s'.gens)
  (pT:∀b∈ch,(b∈X.ex\/X.s₀.heap.objs.size<=b)/\b≠X.env.locals/\(∀x c,X.env.cells.lookup x=some c->c≠b)/\∀p∈X.pn++pins,p.1≠b):Inv X pins σ H' s':=by
 obtain ⟨h',g',d',t',o'⟩:=s'
 have e:o'=s.os:=ho
 subst e
 exact I.call (g':=g') (t':=t') (d':=d') u hok hg pT
end
abbrev XK:=ap->Option ag->Hp->Prop
abbrev St:=List (Option V)
abbrev VK:=V->Hp->Prop
abbrev TE:=St->Hp->VK->Prop
abbrev TT:=St->Hp->(Bool->Hp->Prop)->Prop
abbrev TA:=St->Hp->(List V->Hp->Prop)->Prop
structure Ends where
 nx:St->Hp->Prop
 rt:VK
 bk:St->Hp->Prop:=fun _ _=>False
 ct:St->Hp->Prop:=fun _ _=>False
abbrev TS:=Ends->St->Hp->Prop
def EP (X:Cx) (pins:List (ag×l3)) (σ:St) (Q:VK) (u:ap) (s':ar):Prop:=∃v H',Inv X pins σ H' s'/\RelV v u/\Q v H'
def TP (X:Cx) (pins:List (ag×l3)) (σ:St) (Q:Bool->Hp->Prop) (b:Bool) (s':ar):Prop:=∃H',Inv X pins σ H' s'/\Q b H'
def AP (X:Cx) (pins:List (ag×l3)) (σ:St) (Q:List V->Hp->Prop) (us:List ap) (s':ar):Prop:=∃vs H',Inv X pins σ H' s'/\Vals vs us/\Q vs H'
def SP (X:Cx) (pins:List (ag×l3)) (D:Ends) (f:Flow) (s':ar):Prop:=
 match f with
 | .next=>∃aO H',Inv X pins aO H' s'/\D.nx aO H'
 | .brk=>∃aO H',Inv X pins aO H' s'/\D.bk aO H'
 | .cont=>∃aO H',Inv X pins aO H' s'/\D.ct aO H'
 | .ret u=>∃v aO H',Inv X pins aO H' s'/\RelV v u/\D.rt v H'
structure PE (X:Cx) (e:dL) (t:TE):Prop where
 run:∀(pins:List (ag×l3)) (s:ar) (σ:St) (H:Hp) (Q:VK),Inv X pins σ H s->t σ H Q->wpAny (model X.prog X.w) X.A (eval e X.env) (EP X pins σ Q) X.xe s
instance {X:Cx} {e:dL} {t:TE}:CoeFun (PE X e t) (fun _=>∀(pins:List (ag×l3)) (s:ar) (σ:St) (H:Hp) (Q:VK),Inv X pins σ H s->t σ H Q->wpAny (model X.prog X.w) X.A (eval e X.env) (EP X pins σ Q) X.xe s):=⟨PE.run⟩
structure PT (X:Cx) (e:dL) (t:TT):Prop where
 run:∀(pins:List (ag×l3)) (s:ar) (σ:St) (H:Hp) (Q:Bool->Hp->Prop),Inv X pins σ H s->t σ H Q->wpAny (model X.prog X.w) X.A (isTrue e X.env (eval e X.env)) (TP X pins σ Q) X.xe s
instance {X:Cx} {e:dL} {t:TT}:CoeFun (PT X e t) (fun _=>∀(pins:List (ag×l3)) (s:ar) (σ:St) (H:Hp) (Q:Bool->Hp->Prop),Inv X pins σ H s->t σ H Q->wpAny (model X.prog X.w) X.A (isTrue e X.env (eval e X.env)) (TP X pins σ Q) X.xe s):=⟨PT.run⟩
def PW (X:Cx) (e:dL) (t:TT):Prop:=
 ∀(whole:Rs ap) (pins:List (ag×l3)) (s:ar) (σ:St) (H:Hp) (Q:Bool->Hp->Prop),Inv X pins σ H s->t σ H Q->wpAny (model X.prog X.w) X.A (isTrue e X.env whole) (TP X pins σ Q) X.xe s
theorem PW.pt {X:Cx} {e:dL} {t:TT} (h:PW X e t):PT X e t:=⟨h _⟩
structure PA (X:Cx) (es:List dL) (t:TA):Prop where
 run:∀(pos:ut) (pins:List (ag×l3)) (s:ar) (σ:St) (H:Hp) (Q:List V->Hp->Prop),Inv X pins σ H s->t σ H Q->wpAny (model X.prog X.w) X.A (spliced (backTo pos (starEach es X.env))) (AP X pins σ Q) X.xe s
instance {X:Cx} {es:List dL} {t:TA}:CoeFun (PA X es t) (fun _=>∀(pos:ut) (pins:List (ag×l3)) (s:ar) (σ:St) (H:Hp) (Q:List V->Hp->Prop),Inv X pins σ H s->t σ H Q->wpAny (model X.prog X.w) X.A (spliced (backTo pos (starEach es X.env))) (AP X pins σ Q) X.xe s):=⟨PA.run⟩
structure PS (X:Cx) (st:tz) (t:TS):Prop where
 run:∀(pins:List (ag×l3)) (s:ar) (σ:St) (H:Hp) (D:Ends),Inv X pins σ H s->t D σ H->wpAny (model X.prog X.w) X.A (exec st X.env) (SP X pins D) X.xe s
instance {X:Cx} {st:tz} {t:TS}:CoeFun (PS X st t) (fun _=>∀(pins:List (ag×l3)) (s:ar) (σ:St) (H:Hp) (D:Ends),Inv X pins σ H s->t D σ H->wpAny (model X.prog X.w) X.A (exec st X.env) (SP X pins D) X.xe s):=⟨PS.run⟩
structure iB (X:Cx) (st:List tz) (t:TS):Prop where
 run:∀(pins:List (ag×l3)) (s:ar) (σ:St) (H:Hp) (D:Ends),Inv X pins σ H s->t D σ H->wpAny (model X.prog X.w) X.A (execs st X.env) (SP X pins D) X.xe s
instance {X:Cx} {st:List tz} {t:TS}:CoeFun (iB X st t) (fun _=>∀(pins:List (ag×l3)) (s:ar) (σ:St) (H:Hp) (D:Ends),Inv X pins σ H s->t D σ H->wpAny (model X.prog X.w) X.A (execs st X.env) (SP X pins D) X.xe s):=⟨iB.run⟩
theorem thn {α:Type} {t:Rs α} {Q Q':α->ar->Prop} {M:Model} {A:l8} {E:ap->ar->Prop} {s:ar} (h:wpAny M A t Q E s) (hQ:∀a s,Q a s->Q' a s):wpAny M A t Q' E s:=lm h hQ fun _ _ x=>x
section
variable {X:Cx}
theorem bin {a b:dL} {ta tb:TE} (ha:PE X a ta) (hb:PE X b tb) {pins:List (ag×l3)} {s:ar} {σ:St} {H:Hp} {R:V->V->Hp->Prop} (I:Inv X pins σ H s) (h:ta σ H fun x H1=>tb σ H1 fun y H2=>R x y H2)
  {α:Type} {Q:α->ar->Prop} {f:ap->ap->Rs α}
  (hf:∀v u s2 x y H2,Inv X pins σ H2 s2->RelV x v->RelV y u->R x y H2->wpAny (model X.prog X.w) X.A (f v u) Q X.xe s2) :
  wpAny (model X.prog X.w) X.A (eval a X.env) (fun v aD=>wpAny (model X.prog X.w) X.A (eval b X.env) (fun u jm=>wpAny (model X.prog X.w) X.A (f v u) Q X.xe jm) X.xe aD) X.xe s :=by
 refine thn (ha pins s σ H _ I h) fun v s1 ⟨x,H1,I1,r1,q1⟩=>?_
 refine thn (hb pins s1 σ H1 _ I1 q1) fun u s2 ⟨y,H2,I2,r2,q2⟩=>?_
 exact hf v u s2 x y H2 I2 r1 r2 q2
def KR (i:Nat):TE:=fun σ H Q=>∃v,σ[i]?=some (some v)/\Q v H
def tC (v:V):TE:=fun _ H Q=>Q v H
theorem B7 {i:Nat} {x:br} {pos:ut} (hN:X.N[i]?=some x) (hv:ua X.env.scope x) (hd:(x==("__debug__" : br))=false :=by decide) (iO:(x==("__classdict__" : br))=false :=by decide):PE X (.Name x pos) (KR i) :=by
 refine ⟨?_⟩
 intro pins s σ H Q I h
 obtain ⟨v,e,h⟩:=h
 obtain ⟨m,hn,hl⟩:=I.loc
 obtain ⟨u,r,l⟩:=hl i x v hN e hv
 have fin:EP X pins σ Q u s:=⟨v,H,I,r,h⟩
 rcases l with ⟨hk,hm⟩|⟨hk,c,hc,vH⟩
 ·exact wpAny_Name (wpAny_loadName_local I.ok.kind hk hn hm fin) hd
 ·rcases hk with hk|hk
  ·exact wpAny_Name (wpAny_loadName_cell I.ok.kind hk hc vH fin) hd
  ·exact wpAny_Name (wpAny_loadName_free I.ok.kind hk hc vH fin iO) hd
theorem KS {i j pos}:PE X (.Constant (.int i) j pos) (tC (.int i)):=⟨fun _ _ _ H _ I h=>wpAny_Constant_int ⟨.int i,H,I.tok _,⟨_,rfl⟩,h⟩⟩
theorem O4 {b j pos}:PE X (.Constant (.bool b) j pos) (tC (.bl b)):=⟨fun _ _ _ H _ I h=>Constant_bool ⟨.bl b,H,I,rfl,h⟩⟩
theorem KU {j pos}:PE X (.Constant .none j pos) (tC .au):=⟨fun _ _ _ H _ I h=>Constant_none ⟨.au,H,I,rfl,h⟩⟩
theorem KW {x j pos}:PE X (.Constant (.str x) j pos) (tC (.str x)):=⟨fun _ _ _ H _ I h=>Calls.Constant_str ⟨.str x,H,I.tok _,⟨_,rfl⟩,h⟩⟩
def Gl (X:Cx) (x:br):Prop:=X.env.kindOf x=some .globalImplicit
theorem sV {E:ap->ar->Prop} {pins:List (ag×l3)} {s:ar} {σ:St} {H:Hp} {x:br} {u:ap} {pos:ut} {Q:ap->ar->Prop} (I:Inv X pins σ H s) (hg:Gl X x) (hm:X.mg x=some u) (h:Q u s)
  (hd:(x==("__debug__" : br))=false :=by decide):wpAny (model X.prog X.w) X.A (eval (.Name x pos) X.env) Q E s:=
 Calls.Name_function_global I.ok.kind hg (Calls.loadGlobal_global (by rw [I.ok.glob];exact I.mod.glob.keeps I.bk) hm h) hd
theorem gQ {E:ap->ar->Prop} {pins:List (ag×l3)} {s:ar} {σ:St} {H:Hp} {x:br} {u:ap} {pos:ut} {Q:ap->ar->Prop} (I:Inv X pins σ H s) (hg:Gl X x) (hm:X.mg x=none) (hv:bootBuiltins x=some u) (h:Q u s)
  (hn:x ≠ "__name__" := by decide) (hd:(x==("__debug__" : br))=false :=by decide):wpAny (model X.prog X.w) X.A (eval (.Name x pos) X.env) Q E s :=by
 obtain ⟨mb,h1,h2⟩:=I.mod.blt
 exact Calls.Name_function_global I.ok.kind hg (Calls.loadGlobal_builtin (by rw [I.ok.glob];exact I.mod.glob.keeps I.bk) hm (by rw [I.ok.blt];exact h1.keeps I.bk) ((h2 x hn).trans hv) h) hd
theorem IH {x:br} {v:V} {u:ap} {pos:ut} (hg:Gl X x) (hm:X.mg x=some u) (r:RelV v u) (hd:(x==("__debug__" : br))=false :=by decide):PE X (.Name x pos) (tC v):=⟨fun _ _ _ H _ I h=>sV I hg hm ⟨v,H,I,r,h⟩ hd⟩
theorem II {x:br} {v:V} {u:ap} {pos:ut} (hg:Gl X x) (hm:X.mg x=none) (hv:bootBuiltins x=some u) (r:RelV v u) (hn:x ≠ "__name__" := by decide) (hd:(x==("__debug__" : br))=false :=by decide):PE X (.Name x pos) (tC v):=⟨fun _ _ _ H _ I h=>gQ I hg hm hv ⟨v,H,I,r,h⟩ hn hd⟩
variable {a b:dL} {ta tb:TE} {pos:ut}
def PC (X:Cx) (op:SO) (a b:dL) (t:TE):Prop:=
 ∀(pins:List (ag×l3)) (s:ar) (σ:St) (H:Hp) (Q:VK),Inv X pins σ H s->t σ H Q->
  wpAny (model X.prog X.w) X.A (eval a X.env) (fun v aD=>wpAny (model X.prog X.w) X.A (eval b X.env) (fun u jm=>wpAny (model X.prog X.w) X.A (compareOp op v u) (EP X pins σ Q) X.xe jm) X.xe aD) X.xe s
theorem Fc (b:dL) {op:SO} (h:op≠.In) (h2:op≠.NotIn):behindInMarks op b=false :=by
 have e1:(op==SO.In)=false :=by cases op <;> first|rfl|exact absurd rfl h
 have e2:(op==SO.NotIn)=false :=by cases op <;> first|rfl|exact absurd rfl h2
 cases b <;> simp [behindInMarks,e1,e2]
def tB (t:TE):TT:=fun σ H Q=>t σ H fun x H1=>∃c,x=.bl c/\Q c H1
theorem TL {op:SO} {t:TE} (h:PC X op a b t) (h1:behindInMarks op b=false :=by first|exact Fc _ (by decide) (by decide)|rfl):PT X (.Compare a [op] [b] pos) (tB t) :=by
 refine ⟨?_⟩
 intro pins s σ H Q I hw
 refine wpAny_isTrue_Compare1 (thn (h pins s σ H _ I hw) fun v s1 h1=>thn h1 fun u s2 h2=>thn h2 fun c s3 ⟨x,H1,I1,r1,q1⟩=>?_) h1
 obtain ⟨d,rfl,q⟩:=q1
 cases r1
 exact xL ⟨H1,I1,q⟩
theorem KY {e:dL} {t:TE} (h:PE X e t) (he:∀whole,isTrue e X.env whole=(do let v <- whole;standAt e.pos;holding [v] (truthy v)) :=by intro _;rfl):PT X e (tB t) :=by
 refine ⟨?_⟩
 intro pins s σ H Q I hw
 refine isTrue_plain (thn (h pins s σ H _ I hw) fun v s1 ⟨x,H1,I1,r1,q1⟩=>?_) (he _)
 obtain ⟨d,rfl,q⟩:=q1
 cases r1
 exact xL ⟨H1,I1,q⟩
variable {tA qZ:TT} {rest:List dL}
def Sr (t u:TT):TT:=fun σ H Q=>t σ H fun c H1=>if c=true then u σ H1 Q else Q false H1
def TN (t u:TT):TT:=fun σ H Q=>t σ H fun c H1=>if c=true then Q true H1 else u σ H1 Q
def Ss (t:TT):TT:=fun σ H Q=>t σ H fun c H1=>Q (!c) H1
theorem IJ (ha:PT X a tA):PW X (.BoolOp .And [a] pos) tA :=by
 intro wh pins s σ H Q I h
 refine isTrue_and (thn (ha pins s σ H Q I h) fun c s1 e=>?_)
 cases c with
 |true=>exact isTrue_and_nil e
 |false=>exact e
theorem KZ (ha:PT X a tA):PW X (.BoolOp .Or [a] pos) tA :=by
 intro wh pins s σ H Q I h
 refine isTrue_or (thn (ha pins s σ H Q I h) fun c s1 e=>?_)
 cases c with
 |false=>exact isTrue_or_nil e
 |true=>exact e
theorem K0 (ha:PT X a tA) (hb:PW X (.BoolOp .And (b::rest) pos) qZ):PW X (.BoolOp .And (a::b::rest) pos) (Sr tA qZ) :=by
 intro wh pins s σ H Q I h
 refine isTrue_and (thn (ha pins s σ H _ I h) fun c s1 ⟨H1,I1,q1⟩=>?_)
 cases c with
 |true=>exact hb wh pins s1 σ H1 Q I1 q1
 |false=>exact ⟨H1,I1,q1⟩
theorem O5 (ha:PT X a tA) (hb:PW X (.BoolOp .Or (b::rest) pos) qZ):PW X (.BoolOp .Or (a::b::rest) pos) (TN tA qZ) :=by
 intro wh pins s σ H Q I h
 refine isTrue_or (thn (ha pins s σ H _ I h) fun c s1 ⟨H1,I1,q1⟩=>?_)
 cases c with
 |true=>exact ⟨H1,I1,q1⟩
 |false=>exact hb wh pins s1 σ H1 Q I1 q1
theorem K1 (ha:PT X a tA):PT X (.UnaryOp .Not a pos) (Ss tA) :=by
 refine ⟨?_⟩
 intro pins s σ H Q I h
 exact isTrue_not (ha pins s σ H (fun c H1=>Q (!c) H1) I h)
def O6 (ta tb:TE):TE:=fun σ H Q=>ta σ H fun x H1=>∃c,x=.bl c/\if c=true then tb σ H1 Q else Q (.bl false) H1
def O7 (ta:TE):TE:=fun σ H Q=>ta σ H fun x H1=>∃c,x=.bl c/\Q (.bl (!c)) H1
theorem K2 {op} {t:TE} (h:PE X a t):PE X (.BoolOp op [a] pos) t:=⟨fun pins s σ H Q I hw=>BoolOp_one (h pins s σ H Q I hw)⟩
theorem K3 (ha:PE X a ta) (hb:PE X (.BoolOp .And (b::rest) pos) tb):PE X (.BoolOp .And (a::b::rest) pos) (O6 ta tb) :=by
 refine ⟨?_⟩
 intro pins s σ H Q I h
 refine BoolOp_and (thn (ha pins s σ H _ I h) fun v s1 ⟨x,H1,I1,r1,q1⟩=>?_)
 obtain ⟨c,rfl,q1⟩:=q1
 cases r1
 refine xL ?_
 cases c with
 |true=>exact hb pins s1 σ H1 Q I1 q1
 |false=>exact ⟨.bl false,H1,I1,rfl,q1⟩
theorem K4 (ha:PE X a ta):PE X (.UnaryOp .Not a pos) (O7 ta) :=by
 refine ⟨?_⟩
 intro pins s σ H Q I h
 refine UnaryOp_ (thn (ha pins s σ H _ I h) fun v s1 ⟨x,H1,I1,r1,q1⟩=>?_)
 obtain ⟨c,rfl,q1⟩:=q1
 cases r1
 exact not_of (xL ⟨.bl (!c),H1,I1,rfl,q1⟩)
def TQ (t:TT) (ta tb:TE):TE:=fun σ H Q=>t σ H fun c H1=>if c=true then ta σ H1 Q else tb σ H1 Q
theorem Fd {c:dL} (hc:PT X c tA) (ha:PE X a ta) (hb:PE X b tb):PE X (.IfExp c a b pos) (TQ tA ta tb) :=by
 refine ⟨?_⟩
 intro pins s σ H Q I h
 refine wpAny_IfExp (thn (hc pins s σ H _ I h) fun d s1 ⟨H1,I1,q1⟩=>?_)
 cases d with
 |true=>exact ha pins s1 σ H1 Q I1 q1
 |false=>exact hb pins s1 σ H1 Q I1 q1
end
def bH (K:ba) (H:Hp) (a:ag) (xs:List V):Prop:=
 Rd H a (.lst xs) \/
  ∃(o:l3) (its:Array ap) (n:Nat),K.lookup a=some o/\o.cls=.type "list" /\ o.dict=none/\o.data=.seq its n/\its.size<=sizeLine/\Vals xs its.toList
def dh (K:ba) (H:Hp) (a:ag) (xs:List V):Prop:=
 Rd H a (.tup xs) \/
  ∃(o:l3) (its:Array ap) (n:Nat),K.lookup a=some o/\o.cls=.type "tuple" /\ o.data=.seq its n/\its.size<=sizeLine/\Vals xs its.toList
def Su:ap->Option V
 | .none=>some .au
 | .bool b=>some (.bl b)
 | .int i _=>some (.int i)
 | .str x _=>some (.str x)
 | .bytes b _=>some (.kn b)
 | .float b _=>some (.zj b)
 | .ref a=>some (.ref a)
 | .type n=>some (.ty n)
 |_=>none
theorem RelV.abs {x:V} {u:ap} (r:RelV x u):Su u=some x :=by
 cases x with
 |au=>cases r;rfl
 |bl _=>cases r;rfl
 |int _=>obtain ⟨t,rfl⟩:=r;rfl
 |str _=>obtain ⟨t,rfl⟩:=r;rfl
 |kn _=>obtain ⟨t,rfl⟩:=r;rfl
 |zj _=>obtain ⟨t,rfl⟩:=r;rfl
 |ref _=>cases r;rfl
 |ty _=>cases r;rfl
theorem RelV.inj {x y:V} {u:ap} (r:RelV x u) (q:RelV y u):x=y:=i4 (r.abs.symm.trans q.abs)
theorem Vals.inj:∀{xs ys:List V} {us:List ap},Vals xs us->Vals ys us->xs=ys
 |_,_,_,.nil,.nil=>rfl
 |_,_,_,.cons r t,.cons r' t'=>by rw [r.inj r',Vals.inj t t']
section
variable {X:Cx} {pins:List (ag×l3)} {σ:St} {H:Hp} {s:ar} {a:ag} {xs ys:List V}
theorem bH.of {K:ba} (h:H a=some (.lst xs)):bH K H a xs:=.inl (.inl h)
theorem dh.of {K:ba} (h:H a=some (.tup xs)):dh K H a xs:=.inl (.inl h)
theorem Inv.list (I:Inv X pins σ H s) (h:bH X.K H a xs):∃its:List ap,Vals xs its/\PlainL s.heap a its.toArray/\xs.length<=sizeLine :=by
 rcases h with h|⟨o,its,n,hk,hc,hd,hs,hz,r⟩
 ·obtain ⟨z,its,n,r,e⟩:=h.ok I.hok
  exact ⟨its,r,⟨_,n,e,rfl,rfl,rfl⟩,z⟩
 ·refine ⟨its.toList,r,⟨o,n,I.jH a o hk,hc,hd,by simpa using hs⟩,?_⟩
  have e:=r.length
  simp only [u4] at e
  omega
theorem Inv.tuple (I:Inv X pins σ H s) (h:dh X.K H a xs):∃its:List ap,Vals xs its/\IsTup s.heap a its.toArray/\xs.length<=sizeLine :=by
 rcases h with h|⟨o,its,n,hk,hc,hs,hz,r⟩
 ·obtain ⟨z,its,r,p⟩:=h.ok I.hok
  exact ⟨its,r,mP.tup p,z⟩
 ·refine ⟨its.toList,r,⟨o,I.jH a o hk,hc,n,by simpa using hs⟩,?_⟩
  have e:=r.length
  simp only [u4] at e
  omega
theorem Inv.wc (I:Inv X pins σ H s) (h:bH X.K H a xs) (h':bH X.K H a ys):xs=ys :=by
 obtain ⟨its,r,⟨o,n,e,_,_,d⟩,_⟩:=I.list h
 obtain ⟨its',r',⟨o',n',e',_,_,d'⟩,_⟩:=I.list h'
 rw [e] at e';cases e'
 rw [d] at d'
 injection d' with d1 _
 have:its=its':=by simpa using congrArg Array.toList d1
 subst this
 exact r.inj r'
theorem Inv.ub (I:Inv X pins σ H s) (h:dh X.K H a xs) (h':dh X.K H a ys):xs=ys :=by
 obtain ⟨its,r,⟨o,e,_,n,d⟩,_⟩:=I.tuple h
 obtain ⟨its',r',⟨o',e',_,n',d'⟩,_⟩:=I.tuple h'
 rw [e] at e';cases e'
 rw [d] at d'
 injection d' with d1 _
 have:its=its':=by simpa using congrArg Array.toList d1
 subst this
 exact r.inj r'
end
abbrev Cx.kr (X:Cx) (E:ap->ar->Prop):Cx:={X with xe:=E}
abbrev Cx.ud (X:Cx):Cx:=X.kr fun _ _=>False
theorem Cx.Ok.kr {X:Cx} (ok:X.Ok) (E:ap->ar->Prop):(X.kr E).Ok:=
 ⟨ok.mod,ok.kind,ok.glob,ok.blt,ok.above,ok.inj,ok.has,ok.cab,ok.hd,ok.frames,ok.stk,ok.exf,ok.bs,ok.bsz,ok.noex,ok.exfs,ok.funs,ok.frf⟩
theorem Cx.Ok.iP {X:Cx} {E:ap->ar->Prop} (ok:(X.kr E).Ok):X.Ok:=
 ⟨ok.mod,ok.kind,ok.glob,ok.blt,ok.above,ok.inj,ok.has,ok.cab,ok.hd,ok.frames,ok.stk,ok.exf,ok.bs,ok.bsz,ok.noex,ok.exfs,ok.funs,ok.frf⟩
section
variable {X:Cx} {pins:List (ag×l3)} {σ:St} {H:Hp} {s:ar} {E:ap->ar->Prop}
theorem Inv.kr (I:Inv X pins σ H s) (E:ap->ar->Prop):Inv (X.kr E) pins σ H s:=⟨I.ok.kr E,I.os,I.bare,I.base,I.loc,I.cell,I.free,I.freeC,I.pin,I.hok,I.len⟩
theorem Inv.iP (I:Inv (X.kr E) pins σ H s):Inv X pins σ H s:=⟨I.ok.iP,I.os,I.bare,I.base,I.loc,I.cell,I.free,I.freeC,I.pin,I.hok,I.len⟩
theorem SP.iP {D:Ends} {f:Flow} {s':ar} (h:SP (X.kr E) pins D f s'):SP X pins D f s':=by
 cases f with
 |next=>obtain ⟨aO,H',I,q⟩:=h;exact ⟨aO,H',I.iP,q⟩
 |brk=>obtain ⟨aO,H',I,q⟩:=h;exact ⟨aO,H',I.iP,q⟩
 |cont=>obtain ⟨aO,H',I,q⟩:=h;exact ⟨aO,H',I.iP,q⟩
 |ret u=>obtain ⟨v,aO,H',I,r,q⟩:=h;exact ⟨v,aO,H',I.iP,r,q⟩
theorem iB.ud {st:List tz} {t:TS} (h:iB X.ud st t):iB X st t:=⟨fun pins s σ H D I hw=>
 lm (h pins s σ H D (I.kr _) hw) (fun _ _ q=>q.iP) fun _ _ z=>LB z⟩
end
section
variable {X:Cx} {st:tz} {rest:List tz} {t u:TS} {e:dL} {te:TE} {pos:ut}
def O8:TS:=fun D σ H=>D.nx σ H
def Sv (t u:TS):TS:=fun D σ H=>t {D with nx:=u D} σ H
theorem IK:iB X [] O8:=⟨fun _ _ σ H _ I h=>WP ⟨σ,H,I,h⟩⟩
theorem Fe (h1:PS X st t) (h2:iB X rest u):iB X (st::rest) (Sv t u) :=by
 refine ⟨?_⟩
 intro pins s σ H D I h
 refine wpAny_execs_cons (thn (h1 pins s σ H {D with nx:=u D} I h) fun f s1 q=>?_)
 cases f with
 |next=>
  obtain ⟨aO,H',I',q⟩:=q
  exact h2 pins s1 aO H' D I' q
 |ret v=>exact q
 |brk=>exact q
 |cont=>exact q
theorem IL (h1:PS X st t):iB X [st] t :=by
 refine ⟨?_⟩
 intro pins s σ H D I h
 refine wpAny_execs_cons (thn (h1 pins s σ H D I h) fun f s1 q=>?_)
 cases f with
 |next=>exact WP q
 |ret v=>exact q
 |brk=>exact q
 |cont=>exact q
theorem Inv.quiet {pins:List (ag×l3)} {σ:St} {H:Hp} {s:ar} (I:Inv X pins σ H s):interactive X.env=false :=by simp [interactive,I.ok.kind]
def O9 (te:TE):TS:=fun D σ H=>te σ H fun _ H1=>D.nx σ H1
theorem IM (he:PE X e te) (hs:swapsWith e none pos.line X.env=pure false :=by rfl):PS X (.Expr e pos) (O9 te) :=by
 refine ⟨?_⟩
 intro pins s σ H D I h
 exact wpAny_Expr_any (thn (he pins s σ H _ I h) fun v s1 ⟨x,H1,I1,r1,q1⟩=>⟨σ,H1,I1,q1⟩) I.quiet hs
def Sw (te:TE):TS:=fun D σ H=>te σ H D.rt
theorem K5 (he:PE X e te):PS X (.Return (some e) pos) (Sw te) :=by
 refine ⟨?_⟩
 intro pins s σ H D I h
 exact wpAny_Return_some (thn (he pins s σ H _ I h) fun v s1 ⟨x,H1,I1,r1,q1⟩=>⟨x,σ,H1,I1,r1,q1⟩)
def Sx (c:TT) (t u:TS):TS:=fun D σ H=>c σ H fun b H1=>if b=true then t D σ H1 else u D σ H1
theorem Pa {c:dL} {a b:List tz} {tc:TT} (hc:PT X c tc) (ha:iB X a t) (hb:iB X b u):PS X (.If c a b pos) (Sx tc t u) :=by
 refine ⟨?_⟩
 intro pins s σ H D I h
 refine wpAny_If (thn (hc pins s σ H _ I h) fun d s1 ⟨H1,I1,q1⟩=>?_)
 cases d with
 |true=>exact ha pins s1 σ H1 D I1 q1
 |false=>exact hb pins s1 σ H1 D I1 q1
end
abbrev TG:=V->St->Hp->(St->Hp->Prop)->Prop
abbrev q9:=List V->St->Hp->(St->Hp->Prop)->Prop
def PG (X:Cx) (target:dL) (t:TG):Prop:=
 ∀(pins:List (ag×l3)) (s:ar) (σ:St) (H:Hp) (v:V) (u:ap) (Q:St->Hp->Prop),Inv X pins σ H s->RelV v u->t v σ H Q->
  wpAny (model X.prog X.w) X.A (assign target X.env u) (fun _ s'=>∃aO H',Inv X pins aO H' s'/\Q aO H') X.xe s
def ue (X:Cx) (ts:List dL) (t:q9):Prop:=
 ∀(pins:List (ag×l3)) (s:ar) (σ:St) (H:Hp) (vs:List V) (us:List ap) (Q:St->Hp->Prop),Inv X pins σ H s->Vals vs us->t vs σ H Q->
  wpAny (model X.prog X.w) X.A (assignInOrder ((assignEach ts X.env).map (·.2)) us) (fun _ s'=>∃aO H',Inv X pins aO H' s'/\Q aO H') X.xe s
abbrev Ff:=V->V->V->Hp->(Hp->Prop)->Prop
def K6 (X:Cx) (t:Ff):Prop:=
 ∀(pins:List (ag×l3)) (s:ar) (σ:St) (H:Hp) (o i v:V) (ov iv u:ap) (Q:Hp->Prop),Inv X pins σ H s->RelV o ov->RelV i iv->RelV v u->t o i v H Q->
  wpAny (model X.prog X.w) X.A (setItem ov iv u) (fun _ s'=>∃H',Inv X pins σ H' s'/\Q H') X.xe s
section
variable {X:Cx} {pos:ut}
def mQ (i:Nat):TG:=fun v σ H Q=>Q (σ.set i (some v)) H
theorem IP {i:Nat} {x:br} (hN:X.N.Nodup) (hi:X.N[i]?=some x) (hx:Loc X.env.scope x) (hf:X.fn x=true\/X.env.scope.names.lookup x=some .local :=by first|exact .inl rfl|exact .inr rfl|assumption):PG X (.Name x pos) (mQ i) :=by
 intro pins s σ H v u Q I r h
 exact Ww (wa I hN hi hx r (fun s' I'=>⟨_,H,I',h⟩) hf)
def Sy:q9:=fun vs σ H Q=>vs=[]/\Q σ H
def Pb (t:TG) (u:q9):q9:=fun vs σ H Q=>∃v r,vs=v::r/\t v σ H fun aO H'=>u r aO H' Q
theorem IQ:ue X [] Sy :=by
 intro pins s σ H vs us Q I r h
 obtain ⟨e,h⟩:=h
 subst e
 cases r
 exact assignInOrder_nil ⟨σ,H,I,h⟩
theorem Fg {e:dL} {es:List dL} {t:TG} {u:q9} (h1:PG X e t) (h2:ue X es u)
  (hs:(assignEach (e::es) X.env).map (·.2)=assign e X.env::(assignEach es X.env).map (·.2) :=by rfl):ue X (e::es) (Pb t u) :=by
 intro pins s σ H vs us Q I r h
 obtain ⟨v,vr,e1,h⟩:=h
 subst e1
 cases r with
 |cons r rr=>
  rw [hs]
  refine assignInOrder_cons (thn (h1 pins s σ H _ _ _ I r h) fun _ s1 ⟨rg,H1,I1,q1⟩=>?_)
  exact h2 pins s1 rg H1 _ _ Q I1 rr q1
def Sz (K:ba) (n:Nat) (t:q9):TG:=fun v σ H Q=>∃a xs,v=.ref a/\dh K H a xs/\xs.length=n/\t xs σ H Q
theorem K7 {es:List dL} {k:Nat} {t:q9} {n:Nat} (hc:X.calm=true) (h:ue X es t)
  (hn:(assignEach es X.env).length=n :=by rfl) (jY:(assignEach es X.env).findIdx? (·.1)=none :=by rfl):PG X (.Tuple es k pos) (Sz X.K n t) :=by
 intro pins s σ H v u Q I r hw
 obtain ⟨a,xs,e1,hq,hl,hw⟩:=hw
 subst e1
 cases r
 obtain ⟨its,rv,ht,hz⟩:=I.tuple hq
 refine assign_Tuple_tuple (I.ok.hd hc) ht (by simp [hn,<- hl,rv.length]) jY fun h' hx=>?_
 have I1:Inv X pins σ H {s with heap:=h'}:=I.kept (t':=s.toks) fun b o e=>hx b o (kw (ii e)) e
 exact h pins _ σ H xs _ Q I1 (by simpa using rv) hw
def SA (to ti:TE) (t:Ff):TG:=fun v σ H Q=>to σ H fun o H1=>ti σ H1 fun i H2=>t o i v H2 fun H3=>Q σ H3
theorem K8 {o i:dL} {to ti:TE} {t:Ff} (ho:PE X o to) (hi:PE X i ti) (hs:K6 X t)
  (ha:∀v,assign (.Subscript o i pos) X.env v=(do
   let ov <- holding [v] (eval o X.env)
   let iv <- holding [v,ov] (eval i X.env)
   standAt pos
   holding [v,ov,iv] (setItem ov iv v)
   release [v,ov,iv] []) :=by intro _;rfl):PG X (.Subscript o i pos) (SA to ti t) :=by
 intro pins s σ H v u Q I r h
 rw [ha]
 refine al (At (thn (ho pins s σ H _ I h) fun ov s1 ⟨x,H1,I1,r1,q1⟩=>?_))
 refine al (At (thn (hi pins s1 σ H1 _ I1 q1) fun iv s2 ⟨y,H2,I2,r2,q2⟩=>?_))
 refine al (AM (al (At (thn (hs pins s2 σ H2 x y v ov iv u _ I2 r1 r2 r q2) fun _ s3 ⟨H3,I3,q3⟩=>?_))))
 exact wpAny_release ⟨σ,H3,I3,q3⟩
def qt (te:TE) (g:TG):TS:=fun D σ H=>te σ H fun x H1=>g x σ H1 D.nx
theorem K9 {tg e:dL} {te:TE} {g:TG} (he:PE X e te) (hg:PG X tg g) (hs:swapsWithSole [tg] e pos.line X.env=pure false :=by rfl) (hw:swappedStores [tg] e X.env=pure none :=by rfl)
  (h1:(assignEach [tg] X.env).map (·.2)=[assign tg X.env] :=by rfl):PS X (.Assign [tg] e pos) (qt te g) :=by
 refine ⟨?_⟩
 intro pins s σ H D I h
 refine wpAny_Assign_stores (thn (he pins s σ H _ I h) fun v s1 ⟨x,H1,I1,r1,q1⟩=>?_) hs hw
 rw [h1]
 exact thn (hg pins s1 σ H1 x v _ I1 r1 q1) fun _ s2 q=>q
theorem La {i:Nat} {x:br} {e:dL} {te:TE} {pos':ut} (hN:X.N.Nodup) (hi:X.N[i]?=some x) (hx:Loc X.env.scope x) (he:PE X e te) (hs:swapsWith e (some (.Name x pos')) pos.line X.env=pure false :=by rfl) (hf:X.fn x=true\/X.env.scope.names.lookup x=some .local :=by first|exact .inl rfl|exact .inr rfl|assumption) :
  PS X (.Assign [.Name x pos'] e pos) (qt te (mQ i)) :=by
 refine ⟨?_⟩
 intro pins s σ H D I h
 refine wpAny_Assign_Name (thn (he pins s σ H _ I h) fun v s1 ⟨y,H1,I1,r1,q1⟩=>?_) hs
 exact wa I1 hN hi hx r1 (fun s2 I2=>⟨_,H1,I2,q1⟩) hf
end
section
variable {X:Cx} {pos:ut}
def B8 (c:TT) (tb:TS):TS:=fun D σ H=>∃W:Nat->St->Hp->Prop,(∃m,W m σ H)/\∀m σ H,W m σ H->
 c σ H fun b H1=>if b=true then ∃N:St->Hp->Prop,(∀aO H',N aO H'->∃m',m'<m/\W m' aO H')/\tb {D with nx:=N,ct:=N,bk:=D.nx} σ H1 else D.nx σ H1
theorem Fh {c:dL} {body:List tz} {tc:TT} {tb:TS} (hp:XS (model X.prog X.w) X.A X.env X.xe) (hc:PT X c tc) (hb:iB X body tb):PS X (.While c body [] pos) (B8 tc tb) :=by
 refine ⟨?_⟩
 intro pins s σ H D I h
 obtain ⟨W,⟨m0,w0⟩,turn⟩:=h
 refine wpAny_While (codeAny_whileLoop (fun n s'=>∃aO H',Inv X pins aO H' s'/\W n aO H') ?_ m0 ⟨σ,H,I,w0⟩)
 rintro n s1 ⟨rg,H1,I1,w1⟩
 refine Mc hp (thn (hc pins s1 rg H1 _ I1 (turn n rg H1 w1)) fun b s2 ⟨H2,I2,q2⟩=>?_)
 cases b with
 |true=>
  obtain ⟨N,hN,q2⟩:=q2
  rw [if_pos rfl]
  refine Mc hp (thn (hb pins s2 rg H2 _ I2 q2) fun f s3 q3=>?_)
  cases f with
  |next=>
   obtain ⟨nI,H3,I3,n3⟩:=q3
   obtain ⟨m',hm,w3⟩:=hN nI H3 n3
   exact ⟨m',hm,nI,H3,I3,w3⟩
  |cont=>
   obtain ⟨nI,H3,I3,n3⟩:=q3
   obtain ⟨m',hm,w3⟩:=hN nI H3 n3
   exact ⟨m',hm,nI,H3,I3,w3⟩
  |brk=>exact q3
  |ret v=>exact q3
 |false=>
  rw [if_neg im]
  exact WP ⟨rg,H2,I2,q2⟩
end
structure It where
 go:Nat->Hp->Prop
 yld:Nat->Hp->V->Hp->Prop
 stop:Nat->Hp->Prop
def dS (X:Cx) (pins:List (ag×l3)) (H:Hp) (b:ag):Prop:=
 H b=none/\b≠X.env.locals/\b ∉ X.fs/\(b∈X.ex\/X.s₀.heap.objs.size<=b)/\(∀x c,X.env.cells.lookup x=some c->c≠b)/\∀p∈X.pn++pins,p.1≠b
theorem Inv.mR {X:Cx} {pins:List (ag×l3)} {σ:St} {H H':Hp} {s:ar} {b:ag} (I:Inv X pins σ H s) (hb:s.heap.objs.size<=b) (hn:H' b=none):dS X pins H' b :=by
 refine ⟨hn,Go (l7 I.lt hb),I.KN hb,.inr (ln I.sz hb),fun x c e z=>?_,fun p hp z=>?_⟩
 ·obtain ⟨v,q⟩:=I.cell x c e
  exact absurd (l7 q.lt (by rw [z];exact hb)) (Do _)
 ·exact absurd (l7 (ii (I.pin p hp).1) (by rw [z];exact hb)) (Do _)
structure Turn (P:gc) (w:i0) (K:ba) (tg:dL) (J:It) (fp:List ag) (it:ag) (tn:Nat->ij->Prop):Prop where
 mem:it∈fp
 obj:∀i h,tn i h->∀b∈fp,∃o,h.get? b=some o/\∀v,o.data≠.cell v
 keep:∀i h h',tn i h->(∀b∈fp,∀o,h.get? b=some o->h'.get? b=some o)->tn i h'
 item:∀(X:Cx),X.prog=P->X.w=w->X.K=K->X.calm=true->∀(i:Nat) (pins:List (ag×l3)) (s:ar) (σ:St) (H:Hp) (E:ap->ar->Prop),Inv X pins σ H s->(∀b∈fp,dS X pins H b)->tn i s.heap->J.go i H->
  wpAny (model P w) X.A (pyNext (.ref it)) (fun r s1=>∃u,r=some u /\
   wpAny (model P w) X.A (letOwnedTupleGo tg (.ref it) u) (fun _ s2=>∃x H',Inv X pins σ H' s2/\RelV x u/\J.yld i H x H'/\tn (i+1) s2.heap/\∀b∈fp,H' b=none) E s1) E s
 done:∀(X:Cx),X.prog=P->X.w=w->X.K=K->X.calm=true->∀(i:Nat) (pins:List (ag×l3)) (s:ar) (σ:St) (H:Hp) (E:ap->ar->Prop),Inv X pins σ H s->(∀b∈fp,dS X pins H b)->tn i s.heap->J.stop i H->
  wpAny (model P w) X.A (pyNext (.ref it)) (fun r s1=>r=none/\Inv X pins σ H s1) E s
 self:∀(A:l8) (i:Nat) (s:ar) (Q:ap->ar->Prop) (E:ap->ar->Prop),tn i s.heap->Q (.ref it) s->wpAny (model P w) A (pyIter (.ref it)) Q E s
abbrev TI:=St->Hp->(It->Hp->Prop)->Prop
def QK (X:Cx) (pins:List (ag×l3)) (σ:St) (tg:dL) (R:It->Hp->Prop) (nT:ap) (s2:ar):Prop:=
 ∃(it:ag) (fp:List ag) (tn:Nat->ij->Prop) (J:It) (H':Hp),nT=.ref it/\Inv X pins σ H' s2/\Turn X.prog X.w X.K tg J fp it tn/\tn 0 s2.heap/\(∀b∈fp,dS X pins H' b)/\R J H'
def PI (X:Cx) (tg iter:dL) (wi:TI):Prop:=
 ∀(pins:List (ag×l3)) (s:ar) (σ:St) (H:Hp) (R:It->Hp->Prop),Inv X pins σ H s->wi σ H R->
  wpAny (model X.prog X.w) X.A (eval iter X.env) (fun v s1=>wpAny (model X.prog X.w) X.A (pyIter v) (QK X pins σ tg R) X.xe s1) X.xe s
theorem Ap {M:Model} {A:l8} {E:ap->ar->Prop} {s:ar} {tg:dL} {it:ag} {u:ap} {o:l3} {n:String} {vs:Array ap} {Q:Unit->ar->Prop} (ho:s.heap.get? it=some o) (hc:o.cls=.type n) (hd:o.data=.fields vs)
  (hn:["enumerate","zip","dict_itemiterator","dict_reverseitemiterator","odict_iterator","itertools.zip_longest","itertools.pairwise"].contains n=false) (hQ:Q () s):wpAny M A (letOwnedTupleGo tg (.ref it) u) Q E s :=by
 unfold letOwnedTupleGo
 cases tg <;> first
  |exact ca hQ
  |(cases u <;> first
    |exact ca hQ
    |(refine al (wpAny_load ho ?_)
      rw [hc,hd]
      show wpAny M A (if (["enumerate","zip","dict_itemiterator","dict_reverseitemiterator","odict_iterator","itertools.zip_longest","itertools.pairwise"].contains n && vs[0]?==some (rawInt _))=true then _ else _) Q E s
      rw [if_neg (by intro h;rw [hn,Wq] at h;cases h)]
      exact ca hQ))
def Lb (K:ba) (a:ag):It:=
 ⟨fun i H=>∃xs x,bH K H a xs/\xs[i]?=some x,fun i H x H'=>H'=H/\∀xs,bH K H a xs->xs[i]?=some x,fun i H=>∃xs,bH K H a xs/\xs.length<=i⟩
def Lc (K:ba) (a:ag):It:=
 ⟨fun i H=>∃xs x,dh K H a xs/\xs[i]?=some x,fun i H x H'=>H'=H/\∀xs,dh K H a xs->xs[i]?=some x,fun i H=>∃xs,dh K H a xs/\xs.length<=i⟩
def B9 (lo:Int) (n:Nat):It:=⟨fun i _=>i<n,fun i H x H'=>H'=H/\x=.int (lo+i),fun i _=>n<=i⟩
theorem Ca {P:gc} {w:i0} {K:ba} {tg:dL} (a it:ag):Turn P w K tg (Lb K a) [it] it (fun i h=>h.IsListIter it a i) where
 mem :=by simp
 obj:=fun i h st b hb=>by
  have e:b=it :=by simpa using hb
  subst e
  obtain ⟨o,e,c,d⟩:=st
  exact ⟨o,e,fun v z=>by rw [d] at z;cases z⟩
 keep:=fun i h h' st k=>st.at fun o e=>k it (by simp) o e
 item :=by
  intro X hP hw hK hc i pins s σ H E I hf st hg
  subst hP hw hK
  obtain ⟨xs,x,hq,hx⟩:=hg
  obtain ⟨its,rv,p,hz⟩:=I.list hq
  obtain ⟨u,hu,ru⟩:=rv.get hx
  obtain ⟨f0,f1,f2,f3,f4,f5⟩:=hf it (by simp)
  refine wpAny_pyNext_list_item st p.isList (x:=u) (by simpa using hu) fun h' mq sb=>?_
  have I1:Inv X pins σ H {s with heap:=h'}:=I.turned (t':=s.toks) (fun b o hb e=>(sb.2 b hb).trans e) f0 f1 f3 f4 f5
  obtain ⟨o,e,c,d⟩:=id mq
  exact ⟨u,rfl,Ap (s:={s with heap:=h'}) e c d (by decide) ⟨x,H,I1,ru,⟨rfl,fun ys hy=>by rw [I.wc hy hq];exact hx⟩,mq,fun b hb=>(hf b hb).1⟩⟩
 done :=by
  intro X hP hw hK hc i pins s σ H E I hf st hg
  subst hP hw hK
  obtain ⟨xs,hq,hx⟩:=hg
  obtain ⟨its,rv,p,hz⟩:=I.list hq
  obtain ⟨f0,f1,f2,f3,f4,f5⟩:=hf it (by simp)
  have hl:=rv.length
  exact wpAny_pyNext_list_end (I.ok.hd hc) st p.isList (by simp;omega) fun h' eb=>⟨rfl,I.turned (t':=s.toks) (fun b o hb e=>eb b o hb e) f0 f1 f3 f4 f5⟩
 self:=fun _ _ _ _ _ st h=>wpAny_pyIter_listiter st h
theorem Aq {P:gc} {w:i0} {K:ba} {tg:dL} (a it:ag):Turn P w K tg (Lc K a) [it] it (fun i h=>h.IsTupleIter it a i) where
 mem :=by simp
 obj:=fun i h st b hb=>by
  have e:b=it :=by simpa using hb
  subst e
  obtain ⟨o,e,c,d⟩:=st
  exact ⟨o,e,fun v z=>by rw [d] at z;cases z⟩
 keep:=fun i h h' st k=>st.at fun o e=>k it (by simp) o e
 item :=by
  intro X hP hw hK hc i pins s σ H E I hf st hg
  subst hP hw hK
  obtain ⟨xs,x,hq,hx⟩:=hg
  obtain ⟨its,rv,p,hz⟩:=I.tuple hq
  obtain ⟨u,hu,ru⟩:=rv.get hx
  obtain ⟨f0,f1,f2,f3,f4,f5⟩:=hf it (by simp)
  refine wpAny_pyNext_tuple_item st (show s.heap.IsTuple a its.toArray from p) (x:=u) (by simpa using hu) fun h' mq sb=>?_
  have I1:Inv X pins σ H {s with heap:=h'}:=I.turned (t':=s.toks) (fun b o hb e=>(sb.2 b hb).trans e) f0 f1 f3 f4 f5
  obtain ⟨o,e,c,d⟩:=id mq
  exact ⟨u,rfl,Ap (s:={s with heap:=h'}) e c d (by decide) ⟨x,H,I1,ru,⟨rfl,fun ys hy=>by rw [I.ub hy hq];exact hx⟩,mq,fun b hb=>(hf b hb).1⟩⟩
 done :=by
  intro X hP hw hK hc i pins s σ H E I hf st hg
  subst hP hw hK
  obtain ⟨xs,hq,hx⟩:=hg
  obtain ⟨its,rv,p,hz⟩:=I.tuple hq
  obtain ⟨f0,f1,f2,f3,f4,f5⟩:=hf it (by simp)
  have hl:=rv.length
  exact wpAny_pyNext_tuple_end (I.ok.hd hc) st (show s.heap.IsTuple a its.toArray from p) (by simp;omega) fun h' eb=>⟨rfl,I.turned (t':=s.toks) (fun b o hb e=>eb b o hb e) f0 f1 f3 f4 f5⟩
 self:=fun _ _ _ _ _ st h=>wpAny_pyIter_tupleiter st h
theorem Ar {P:gc} {w:i0} {K:ba} {tg:dL} (it:ag) (lo:Int) (n:Nat):Turn P w K tg (B9 lo n) [it] it (fun i h=>IsRangeIter h it (lo+(i:Nat) * 1) ((n:Int) - (i:Nat)) 1) where
 mem :=by simp
 obj:=fun i h st b hb=>by
  have e:b=it :=by simpa using hb
  subst e
  exact ⟨_,st,fun v z=>by
   have z':Data.fields _=Data.cell v:=z
   cases z'⟩
 keep:=fun i h h' st k=>k it (by simp) _ st
 item :=by
  intro X hP hw hK hc i pins s σ H E I hf st hg
  subst hP hw hK
  obtain ⟨f0,f1,f2,f3,f4,f5⟩:=hf it (by simp)
  have W:=Walks.range (prog:=X.prog) (w:=X.w) (I.ok.hd hc) it lo 1 n
  refine W.item i s _ _ hg st fun v h' tk hv mq kk=>?_
  obtain ⟨t,rfl⟩:=hv
  have I1:Inv X pins σ H {s with heap:=h',toks:=tk}:=I.turned (fun b o hb e=>kk b o (by simpa using hb) e) f0 f1 f3 f4 f5
  refine ⟨_,rfl,Ap (s:={s with heap:=h',toks:=tk}) (n := "range_iterator") mq rfl rfl (by decide) ⟨.int (lo+i),H,I1,⟨t,?_⟩,⟨rfl,rfl⟩,mq,fun b hb=>(hf b hb).1⟩⟩
  rw [Int.mul_one]
 done :=by
  intro X hP hw hK hc i pins s σ H E I hf st hg
  subst hP hw hK
  obtain ⟨f0,f1,f2,f3,f4,f5⟩:=hf it (by simp)
  exact wpAny_pyNext_range_end (I.ok.hd hc) st (by have:n<=i:=hg;omega) fun h' eb=>⟨rfl,I.turned (t':=s.toks) (fun b o hb e=>eb b o hb e) f0 f1 f3 f4 f5⟩
 self:=fun _ _ _ _ _ st h=>wpAny_pyIter_rangeiter st h
section
variable {X:Cx} {tg:dL}
def Hl (K:ba) (tl:TE):TI:=fun σ H R=>tl σ H fun x H1=>∃a,x=.ref a/\(∃xs,bH K H1 a xs)/\R (Lb K a) H1
def Ld (K:ba) (tl:TE):TI:=fun σ H R=>tl σ H fun x H1=>∃a,x=.ref a/\(∃xs,dh K H1 a xs)/\R (Lc K a) H1
theorem IU {l:dL} {tl:TE} (hl:PE X l tl):PI X tg l (Hl X.K tl) :=by
 intro pins s σ H R I h
 refine thn (hl pins s σ H _ I h) fun v s1 ⟨x,H1,I1,r1,q1⟩=>?_
 obtain ⟨a,e,⟨xs,hq⟩,q⟩:=q1
 subst e
 cases r1
 obtain ⟨its,rv,p,hz⟩:=I1.list hq
 refine RS p.isList ?_
 refine ⟨s1.heap.objs.size,[s1.heap.objs.size],_,_,H1,rfl,I1.kept (t':=s1.toks) fun b o e=>bv _ e,Ca a _,⟨_,en _ rfl,rfl,rfl⟩,fun b hb=>?_,q⟩
 have e:b=s1.heap.objs.size :=by simpa using hb
 subst e
 exact I1.mR (ce _) (I1.hok.fresh (ce _))
theorem Le {l:dL} {tl:TE} (hl:PE X l tl):PI X tg l (Ld X.K tl) :=by
 intro pins s σ H R I h
 refine thn (hl pins s σ H _ I h) fun v s1 ⟨x,H1,I1,r1,q1⟩=>?_
 obtain ⟨a,e,⟨xs,hq⟩,q⟩:=q1
 subst e
 cases r1
 obtain ⟨its,rv,p,hz⟩:=I1.tuple hq
 refine OP (show s1.heap.IsTuple a its.toArray from p) ?_
 refine ⟨s1.heap.objs.size,[s1.heap.objs.size],_,_,H1,rfl,I1.kept (t':=s1.toks) fun b o e=>bv _ e,Aq a _,⟨_,en _ rfl,rfl,rfl⟩,fun b hb=>?_,q⟩
 have e:b=s1.heap.objs.size :=by simpa using hb
 subst e
 exact I1.mR (ce _) (I1.hok.fresh (ce _))
theorem wd {pins:List (ag×l3)} {σ:St} {H:Hp} {s:ar} {R:It->Hp->Prop} {E:ap->ar->Prop} {lo hi:Int} {t u v:Tok} {tk:Nat} (I:Inv X pins σ H s) (h1 : -(2 ^ 62)<=lo) (h2:lo<2 ^ 62) (h3 : -(2 ^ 62)<=hi) (h4:hi<2 ^ 62)
  (q:R (B9 lo (hi - lo).toNat) H):wpAny (model X.prog X.w) X.A (pyIter (.ref s.heap.objs.size)) (QK X pins σ tg R) E {s with heap:=s.heap.push {cls:=.type "range",data:=.fields #[.int lo t,.int hi u,.int 1 v]},toks:=tk}:=by
 refine wpAny_pyIter_range (IsRange.new ..) (small_one h1 h2 h3 h4) ?_
 have I1:Inv X pins σ H {s with heap:=s.heap.push {cls:=.type "range",data:=.fields #[.int lo t,.int hi u,.int 1 v]},toks:=tk}:=I.kept fun b o e=>bv _ e
 refine ⟨(s.heap.push {cls:=.type "range",data:=.fields #[.int lo t,.int hi u,.int 1 v]}).objs.size,[(s.heap.push {cls:=.type "range",data:=.fields #[.int lo t,.int hi u,.int 1 v]}).objs.size],_,_,H,rfl,
  I1.kept (t':=tk) fun b o e=>bv _ e,Ar _ lo (hi - lo).toNat,?_,fun b hb=>?_,q⟩
 ·have e1:lo+((0:Nat):Int) * 1=lo :=by simp
  have e2:(((hi - lo).toNat:Nat):Int) - ((0:Nat):Int)=uu.Range.rangeSize lo hi 1 :=by rw [rangeSize_one];split <;> omega
  show IsRangeIter _ _ (lo+((0:Nat):Int) * 1) ((((hi - lo).toNat:Nat):Int) - ((0:Nat):Int)) 1
  rw [e1,e2]
  exact en _ rfl
 ·have e:b=(s.heap.push {cls:=.type "range",data:=.fields #[.int lo t,.int hi u,.int 1 v]}).objs.size :=by simpa using hb
  subst e
  exact I1.mR (ce _) (I1.hok.fresh (ce _))
def Hm (ta:TA):TI:=fun σ H R=>ta σ H fun vs H1=>∃j:Int,vs=[.int j] /\ -(2 ^ 62)<=j/\j<2 ^ 62/\R (B9 0 j.toNat) H1
def Hn (ta:TA):TI:=fun σ H R=>ta σ H fun vs H1=>∃i j:Int,vs=[.int i,.int j]/\(-(2 ^ 62)<=i/\i<2 ^ 62 /\ -(2 ^ 62)<=j/\j<2 ^ 62)/\R (B9 i (j - i).toNat) H1
theorem Cb {a:dL} {ta:TA} {p pos:ut} (hg:Gl X "range") (hm:X.mg "range" = none) (ha:PA X [a] ta) (hs:starEach [a] X.env=[(false,eval a X.env)] :=by rfl):PI X tg (.Call (.Name "range" p) [a] [] pos) (Hm ta) :=by
 intro pins s σ H R I h
 refine Call_ (gQ I hg hm boot_range (AL (thn (ha pos pins s σ H _ I h) fun us s1 ⟨vs,H1,I1,r1,q1⟩=>?_) hs rfl))
 obtain ⟨j,e,q1,q2,q⟩:=q1
 subst e
 cases r1 with
 |cons r rr=>
  cases rr
  obtain ⟨t,rfl⟩:=r
  exact call_range_1 (wd I1 (by omega) (by omega) q1 q2 (by simpa using q))
theorem uf {a b:dL} {ta:TA} {p pos:ut} (hg:Gl X "range") (hm:X.mg "range" = none) (ha:PA X [a,b] ta) (hs:starEach [a,b] X.env=[(false,eval a X.env),(false,eval b X.env)] :=by rfl) (ky:starEach [b] X.env=[(false,eval b X.env)] :=by rfl) :
  PI X tg (.Call (.Name "range" p) [a,b] [] pos) (Hn ta) :=by
 intro pins s σ H R I h
 refine Call_ (gQ I hg hm boot_range (AL (thn (ha pos pins s σ H _ I h) fun us s1 ⟨vs,H1,I1,r1,q1⟩=>?_) (by rw [hs,ky]) (by rw [ky];rfl)))
 obtain ⟨i,j,e,⟨q1,q2,q3,q4⟩,q⟩:=q1
 subst e
 cases r1 with
 |cons r rr=>
  cases rr with
  |cons r' rr=>
   cases rr
   obtain ⟨t,rfl⟩:=r
   obtain ⟨t',rfl⟩:=r'
   exact call_range_2 (wd I1 q1 q2 q3 q4 q)
def Lf (wi:TI) (g:TG) (tb:TS):TS:=fun D σ H=>wi σ H fun J H1=>∃W:Nat->Nat->St->Hp->Prop,(∃m,W 0 m σ H1)/\∀i m σ H,W i m σ H->
 (J.stop i H/\D.nx σ H)\/(J.go i H/\∃N:St->Hp->Prop,(∀aO H',N aO H'->∃m',m'<m/\W (i+1) m' aO H')/\∀x H',J.yld i H x H'->g x σ H' fun rh H2=>tb {D with nx:=N,ct:=N,bk:=D.nx} rh H2)
def mr (fp:List ag) (h:ij):List (ag×l3):=fp.filterMap fun b=>(h.get? b).map fun o=>(b,o)
theorem gq {fp:List ag} {h:ij} {b:ag} {o:l3} (hb:b∈fp) (e:h.get? b=some o):(b,o)∈mr fp h:=Xc.mpr ⟨b,hb,by rw [e];rfl⟩
theorem Cd {fp:List ag} {h:ij} {p:ag×l3} (hp:p∈mr fp h):p.1∈fp/\h.get? p.1=some p.2 :=by
 obtain ⟨b,hb,e⟩:=Xc.mp hp
 cases q:h.get? b with
 |none=>rw [q] at e;cases e
 |some o=>
  rw [q] at e
  have e':(b,o)=p:=i4 e
  subst e'
  exact ⟨hb,q⟩
theorem Inv.pinned {pins:List (ag×l3)} {σ:St} {H:Hp} {s:ar} {fp:List ag} (I:Inv X pins σ H s) (hf:∀b∈fp,dS X pins H b) (ho:∀b∈fp,∃o,s.heap.get? b=some o/\∀v,o.data≠.cell v):Inv X (pins++mr fp s.heap) σ H s:=
 I.sU fun p hp=>(l6.mp hp).elim (fun z=>I.pin p (lf _ z)) fun z=>by
  obtain ⟨hb,e⟩:=Cd z
  obtain ⟨f0,f1,f2,_⟩:=hf p.1 hb
  obtain ⟨o,e',d⟩:=ho p.1 hb
  rw [e] at e';cases e'
  exact ⟨e,f0,f1,f2,d⟩
theorem Inv.ib {pins pl:List (ag×l3)} {σ:St} {H:Hp} {s:ar} (I:Inv X (pins++pl) σ H s):Inv X pins σ H s:=I.sU fun p hp=>I.pin p (lf _ (ss _ hp))
theorem Lg {iter:dL} {body:List tz} {wi:TI} {g:TG} {tb:TS} {pos:ut} (hp:XS (model X.prog X.w) X.A X.env X.xe) (hc:X.calm=true) (hi:PI X tg iter wi) (hg:PG X tg g) (hb:iB X body tb)
  (hs:∀x,foldedSetIterable iter X.env x=pure x :=by intro _;rfl):PS X (.For tg iter body [] pos) (Lf wi g tb) :=by
 refine ⟨?_⟩
 intro pins s σ H D I h
 refine wpAny_For (thn (hi pins s σ H _ I h) fun v s1 h1=>thn h1 fun nT s2 h2=>?_) hs
 obtain ⟨it,fp,tn,J,H2,e,I2,T,iC,f2,W,⟨m0,w0⟩,turn⟩:=h2
 subst e
 have stat:∀{H':Hp},(∀b∈fp,H' b=none)->∀b∈fp,dS X pins H' b:=fun hn b hb=>⟨hn b hb,(f2 b hb).2⟩
 refine codeAny_forLoop_any (fun n s'=>∃i aO H',Inv X pins aO H' s'/\tn i s'.heap/\(∀b∈fp,H' b=none)/\W i n aO H') ?_ m0 ⟨0,σ,H2,I2,iC,fun b hb=>(f2 b hb).1,w0⟩
 rintro n s3 ⟨i,nI,H3,I3,ug,Ce,w3⟩
 rcases turn i n nI H3 w3 with ⟨stop,qn⟩|⟨go,N,hN,step⟩
 ·refine Mc hp (thn (T.done X rfl rfl rfl hc i pins s3 nI H3 X.xe I3 (stat Ce) ug stop) fun r s4 ⟨hr,I4⟩=>?_)
  subst hr
  exact WP ⟨nI,H3,I4,qn⟩
 ·refine Mc hp (thn (T.item X rfl rfl rfl hc i pins s3 nI H3 X.xe I3 (stat Ce) ug go) fun r s4 ⟨u,hr,h4⟩=>?_)
  subst hr
  refine Mc hp (thn h4 fun _ s5 ⟨x,H5,I5,r5,y5,nU,Cg⟩=>?_)
  have Ci:=I5.pinned (stat Cg) (T.obj _ _ nU)
  refine Mc hp (thn (hg _ s5 nI H5 x u _ Ci r5 (step x H5 y5)) fun _ s6 ⟨TR,H6,I6,q6⟩=>?_)
  refine Mc hp (thn (hb _ s6 TR H6 _ I6 q6) fun f s7 q7=>?_)
  have again:∀{nV:St} {H7:Hp},Inv X (pins++mr fp s5.heap) nV H7 s7->N nV H7->∃m,m<n/\∃i aO H',Inv X pins aO H' s7/\tn i s7.heap/\(∀b∈fp,H' b=none)/\W i m aO H':=fun {nV H7} I7 n7=>by
   obtain ⟨m',hm,w7⟩:=hN nV H7 n7
   refine ⟨m',hm,i+1,nV,H7,I7.ib,T.keep _ _ _ nU fun b hb o e=>(I7.pin (b,o) (lf _ (lf _ (gq hb e)))).1,fun b hb=>?_,w7⟩
   obtain ⟨o,e,d⟩:=T.obj _ _ nU b hb
   exact (I7.pin (b,o) (lf _ (lf _ (gq hb e)))).2.1
  cases f with
  |next=>obtain ⟨nV,H7,I7,n7⟩:=q7;exact again I7 n7
  |cont=>obtain ⟨nV,H7,I7,n7⟩:=q7;exact again I7 n7
  |brk=>obtain ⟨nV,H7,I7,q7⟩:=q7;exact ⟨nV,H7,I7.ib,q7⟩
  |ret v=>obtain ⟨x7,nV,H7,I7,r7,q7⟩:=q7;exact ⟨x7,nV,H7,I7.ib,r7,q7⟩
end
abbrev R2:=V->V->Hp->VK->Prop
def OpR (X:Cx) (f:ap->ap->Rs ap) (r:R2):Prop:=
 ∀(pins:List (ag×l3)) (s:ar) (σ:St) (H:Hp) (x y:V) (v u:ap) (Q:VK),Inv X pins σ H s->RelV x v->RelV y u->r x y H Q->
  wpAny (model X.prog X.w) X.A (f v u) (EP X pins σ Q) X.xe s
def UnR (X:Cx) (f:ap->Rs ap) (r:V->Hp->VK->Prop):Prop:=
 ∀(pins:List (ag×l3)) (s:ar) (σ:St) (H:Hp) (x:V) (v:ap) (Q:VK),Inv X pins σ H s->RelV x v->r x H Q->
  wpAny (model X.prog X.w) X.A (f v) (EP X pins σ Q) X.xe s
def cq (X:Cx) (f:ap) (r:List V->Hp->VK->Prop):Prop:=
 ∀(pins:List (ag×l3)) (s:ar) (σ:St) (H:Hp) (xs:List V) (us:List ap) (Q:VK),Inv X pins σ H s->Vals xs us->r xs H Q->
  wpAny (model X.prog X.w) X.A (call f us) (EP X pins σ Q) X.xe s
def SD (X:Cx) (r:V->Hp->(Bool->Hp->Prop)->Prop):Prop:=
 ∀(pins:List (ag×l3)) (s:ar) (σ:St) (H:Hp) (x:V) (v:ap) (Q:Bool->Hp->Prop),Inv X pins σ H s->RelV x v->r x H Q->
  wpAny (model X.prog X.w) X.A (truthy v) (TP X pins σ Q) X.xe s
def Cj (r:R2) (ta tb:TE):TE:=fun σ H Q=>ta σ H fun x H1=>tb σ H1 fun y H2=>r x y H2 Q
def TU (r:V->Hp->VK->Prop) (ta:TE):TE:=fun σ H Q=>ta σ H fun x H1=>r x H1 Q
def rI (C:Int->Int->Prop) (g:Int->Int->V):R2:=fun x y H Q=>∃i j,x=.int i/\y=.int j/\C i j/\Q (g i j) H
def uh (g:Int->Int->V):R2:=fun x y H Q=>∃i j,x=.int i/\y=.int j/\Q (g i j) H
def rU (g:Int->V):V->Hp->VK->Prop:=fun x H Q=>∃i,x=.int i/\Q (g i) H
section
variable {X:Cx} {a b c:dL} {ta tb tc:TE} {pos:ut}
theorem Fi (ha:PE X a ta) (hb:PE X b tb) {pins:List (ag×l3)} {s:ar} {σ:St} {H:Hp} {R:V->V->Hp->Prop} (I:Inv X pins σ H s)
  (h:ta σ H fun x H1=>tb σ H1 fun y H2=>R x y H2) {Q:ap->ar->Prop} {f:ap->ap->Rs ap}
  (hf:∀v u s2 x y H2,Inv X pins σ H2 s2->RelV x v->RelV y u->R x y H2->wpAny (model X.prog X.w) X.A (f v u) Q X.xe s2) :
  wpAny (model X.prog X.w) X.A (eval a X.env) (fun v aD=>wpAny (model X.prog X.w) X.A (eval b X.env) (fun u jm=>wpAny (model X.prog X.w) X.A (f v u) Q X.xe jm) X.xe aD) X.xe s :=by
 refine thn (ha pins s σ H _ I h) fun v s1 ⟨x,H1,I1,r1,q1⟩=>?_
 refine thn (hb pins s1 σ H1 _ I1 q1) fun u s2 ⟨y,H2,I2,r2,q2⟩=>?_
 exact hf v u s2 x y H2 I2 r1 r2 q2
theorem Pg {op:Operator} {r:R2} (ho:OpR X (binaryOp op) r) (ha:PE X a ta) (hb:PE X b tb):PE X (.BinOp a op b pos) (Cj r ta tb) :=by
 refine ⟨?_⟩
 intro pins s σ H Q I h
 exact wpAny_BinOp (Fi ha hb I h fun v u s2 x y H2 I2 rx ry q=>ho pins s2 σ H2 x y v u Q I2 rx ry q)
theorem Ph {op:UnaryOp} {r:V->Hp->VK->Prop} (ho:UnR X (unaryOp op) r) (ha:PE X a ta):PE X (.UnaryOp op a pos) (TU r ta) :=by
 refine ⟨?_⟩
 intro pins s σ H Q I h
 exact UnaryOp_ (thn (ha pins s σ H _ I h) fun v s1 ⟨x,H1,I1,r1,q1⟩=>ho pins s1 σ H1 x v Q I1 r1 q1)
theorem Ho {f:ap->ap->Rs ap} {C:Int->Int->Prop} {g:Int->Int->Int}
  (rule:∀(i j:Int) (t u:Tok) (s:ar) (Q:ap->ar->Prop) (E:ap->ar->Prop),C i j->Q (.int (g i j) s.toks) {s with toks:=s.toks+1}->wpAny (model X.prog X.w) X.A (f (.int i t) (.int j u)) Q E s) :
  OpR X f (rI C fun i j=>.int (g i j)) :=by
 intro pins s σ H x y v u Q I rx ry h
 obtain ⟨i,j,rfl,rfl,hc,q⟩:=h
 obtain ⟨t,rfl⟩:=rx
 obtain ⟨t',rfl⟩:=ry
 exact rule i j t t' s _ _ hc ⟨.int (g i j),H,I.tok _,⟨_,rfl⟩,q⟩
theorem Lh {f:ap->ap->Rs ap} {g:Int->Int->Int}
  (rule:∀(i j:Int) (t u:Tok) (s:ar) (Q:ap->ar->Prop) (E:ap->ar->Prop),Q (.int (g i j) s.toks) {s with toks:=s.toks+1}->wpAny (model X.prog X.w) X.A (f (.int i t) (.int j u)) Q E s) :
  OpR X f (uh fun i j=>.int (g i j)) :=by
 intro pins s σ H x y v u Q I rx ry h
 obtain ⟨i,j,rfl,rfl,q⟩:=h
 obtain ⟨t,rfl⟩:=rx
 obtain ⟨t',rfl⟩:=ry
 exact rule i j t t' s _ _ ⟨.int (g i j),H,I.tok _,⟨_,rfl⟩,q⟩
theorem Fj {f:ap->ap->Rs ap} {g:Int->Int->Bool}
  (rule:∀(i j:Int) (t u:Tok) (s:ar) (Q:ap->ar->Prop) (E:ap->ar->Prop),Q (.bool (g i j)) s->wpAny (model X.prog X.w) X.A (f (.int i t) (.int j u)) Q E s) :
  OpR X f (uh fun i j=>.bl (g i j)) :=by
 intro pins s σ H x y v u Q I rx ry h
 obtain ⟨i,j,rfl,rfl,q⟩:=h
 obtain ⟨t,rfl⟩:=rx
 obtain ⟨t',rfl⟩:=ry
 exact rule i j t t' s _ _ ⟨.bl (g i j),H,I,rfl,q⟩
def Li (i j:Int):Prop:=0<j/\j<1073741824
def Lj (i j:Int):Prop:=0<=j/\j<=1000000/\i.natAbs<2 ^ 64
def As (i j:Int):Prop:=(-(2 ^ 64)<i/\i<2 ^ 64)\/(-(2 ^ 64)<j/\j<2 ^ 64)
theorem As.ok {i j:Int} (h:As i j):IntMulOk i j :=by
 rcases h with ⟨h1,h2⟩|⟨h1,h2⟩
 ·exact .of_left (intBits_le_64 h1 h2)
 ·exact .of_right (intBits_le_64 h1 h2)
theorem Lk:OpR X (binaryOp .Add) (uh fun i j=>.int (i+j)):=Lh fun _ _ _ _ _ _ _ q=>add_int q
theorem Ln:OpR X (binaryOp .Sub) (uh fun i j=>.int (i - j)):=Lh fun _ _ _ _ _ _ _ q=>sub_int q
theorem Lp:OpR X (binaryOp .Mult) (rI As fun i j=>.int (i * j)):=Ho fun _ _ _ _ _ _ _ hc q=>mul_int q hc.ok
theorem IV:OpR X (binaryOp .FloorDiv) (rI Li fun i j=>.int (i / j)):=Ho fun i j _ _ _ _ _ hc q=>by
 have h1:(0:Int)<j:=hc.1
 have h2:j<1073741824:=hc.2
 exact floordiv_int (by omega) (by rw [Int.fdiv_eq_ediv_of_nonneg i (by omega)];exact q) (.inl (PyProof.noPylong_small (by omega)))
theorem Lq:OpR X (binaryOp .Mod) (rI (fun _ j=>0<j) fun i j=>.int (i % j)):=Ho fun i j _ _ _ _ _ hc q=>by
 have h1:(0:Int)<j:=hc
 exact mod_int' (by omega) (by rw [Int.fmod_eq_emod_of_nonneg i (by omega)];exact q)
theorem Lr:OpR X (binaryOp .Pow) (rI Lj fun i j=>.int (i ^ j.toNat)):=Ho fun _ _ _ _ _ _ _ hc q=>pow_int_small hc.1 hc.2.1 hc.2.2 q
theorem TV {f:ap->Rs ap} {g:Int->Int}
  (rule:∀(i:Int) (t:Tok) (s:ar) (Q:ap->ar->Prop) (E:ap->ar->Prop),Q (.int (g i) s.toks) {s with toks:=s.toks+1}->wpAny (model X.prog X.w) X.A (f (.int i t)) Q E s) :
  UnR X f (rU fun i=>.int (g i)) :=by
 intro pins s σ H x v Q I rx h
 obtain ⟨i,rfl,q⟩:=h
 obtain ⟨t,rfl⟩:=rx
 exact rule i t s _ _ ⟨.int (g i),H,I.tok _,⟨_,rfl⟩,q⟩
theorem Ls:UnR X (unaryOp .USub) (rU fun i=>.int (-i)):=TV fun _ _ _ _ _ q=>neg_int q
end
def Fl:V->V->Bool
 | .au,.au=>true | .au,.int _=>true | .int _,.au=>true | .au,.bl _=>true | .bl _,.au=>true | .au,.str _=>true | .str _,.au=>true
 | .int _,.int _=>true | .bl _,.bl _=>true | .str _,.str _=>true | .kn _,.kn _=>true
 | .int _,.str _=>true | .str _,.int _=>true | .bl _,.str _=>true | .str _,.bl _=>true
 |_,_=>false
def TX:R2:=fun x y H Q=>Fl x y=true/\Q (.bl (decide (x=y))) H
def TY:R2:=fun x y H Q=>Fl x y=true/\Q (.bl (!decide (x=y))) H
theorem zm {i j:Int}:decide (V.int i=V.int j)=(i==j) :=by
 rw [FF]
 simp
theorem Ck {i j:Bool}:decide (V.bl i=V.bl j)=(i==j) :=by
 rw [FF]
 simp
theorem zp {i j:br}:decide (V.str i=V.str j)=(i==j) :=by
 rw [FF]
 simp
theorem zq {i j:Array UInt8}:decide (V.kn i=V.kn j)=(i.toList==j.toList) :=by
 rw [FF]
 cases i
 cases j
 simp
section
variable {X:Cx} {a b c:dL} {ta tb tc:TE} {pos:ut}
theorem bj {pins:List (ag×l3)} {σ:St} {H:Hp} {s:ar} {Q:VK} {k k':Bool} (I:Inv X pins σ H s) (q:Q (.bl k) H) (e:k=k'):EP X pins σ Q (.bool k') s :=by
 subst e
 exact ⟨.bl k,H,I,rfl,q⟩
theorem Pj:OpR X (compareOp .Eq) TX :=by
 intro pins s σ H x y v u Q I rx ry h
 obtain ⟨hs,q⟩:=h
 cases x with
 |au=>
  cases rx
  cases y with
  |au=>cases ry;exact PySem.EqNone.eq_none_none (bj I q (by simp))
  |bl j=>cases ry;exact PySem.EqNone.eq_none_bool (bj I q (by simp))
  |int j=>obtain ⟨t',rfl⟩:=ry;exact PySem.EqNone.eq_none_int (bj I q (by simp))
  |str j=>obtain ⟨t',rfl⟩:=ry;exact PySem.EqNone.eq_none_str (bj I q (by simp))
  |_=>exact absurd (show false=true from hs) im
 |bl i=>
  cases rx
  cases y with
  |au=>cases ry;exact PySem.EqNone.eq_bool_none (bj I q (by simp))
  |bl j=>cases ry;exact eq_bool (bj I q Ck)
  |str j=>obtain ⟨t',rfl⟩:=ry;exact PySem.EqMixed.eq_bool_str (bj I q (by simp))
  |_=>exact absurd (show false=true from hs) im
 |int i=>
  obtain ⟨t,rfl⟩:=rx
  cases y with
  |au=>cases ry;exact PySem.EqNone.eq_int_none (bj I q (by simp))
  |int j=>obtain ⟨t',rfl⟩:=ry;exact eq_int (bj I q zm)
  |str j=>obtain ⟨t',rfl⟩:=ry;exact PySem.EqMixed.eq_int_str (bj I q (by simp))
  |_=>exact absurd (show false=true from hs) im
 |str i=>
  obtain ⟨t,rfl⟩:=rx
  cases y with
  |au=>cases ry;exact PySem.EqNone.eq_str_none (bj I q (by simp))
  |bl j=>cases ry;exact PySem.EqMixed.eq_str_bool (bj I q (by simp))
  |int j=>obtain ⟨t',rfl⟩:=ry;exact PySem.EqMixed.eq_str_int (bj I q (by simp))
  |str j=>obtain ⟨t',rfl⟩:=ry;exact eq_str (bj I q zp)
  |_=>exact absurd (show false=true from hs) im
 |kn i=>
  obtain ⟨t,rfl⟩:=rx
  cases y with
  |kn j=>obtain ⟨t',rfl⟩:=ry;exact PySem.W.eq_bytes (bj I q zq)
  |_=>exact absurd (show false=true from hs) im
 |_=>cases y <;> exact absurd (show false=true from hs) im
theorem Pk:OpR X (compareOp .NotEq) TY :=by
 intro pins s σ H x y v u Q I rx ry h
 obtain ⟨hs,q⟩:=h
 cases x with
 |au=>
  cases rx
  cases y with
  |au=>cases ry;exact PySem.EqNone.ne_none_none (bj I q (by simp))
  |bl j=>cases ry;exact PySem.EqNone.ne_none_bool (bj I q (by simp))
  |int j=>obtain ⟨t',rfl⟩:=ry;exact PySem.EqNone.ne_none_int (bj I q (by simp))
  |str j=>obtain ⟨t',rfl⟩:=ry;exact PySem.EqNone.ne_none_str (bj I q (by simp))
  |_=>exact absurd (show false=true from hs) im
 |bl i=>
  cases rx
  cases y with
  |au=>cases ry;exact PySem.EqNone.ne_bool_none (bj I q (by simp))
  |bl j=>cases ry;exact ne_bool (bj I q (congrArg not Ck))
  |str j=>obtain ⟨t',rfl⟩:=ry;exact PySem.EqMixed.ne_bool_str (bj I q (by simp))
  |_=>exact absurd (show false=true from hs) im
 |int i=>
  obtain ⟨t,rfl⟩:=rx
  cases y with
  |au=>cases ry;exact PySem.EqNone.ne_int_none (bj I q (by simp))
  |int j=>obtain ⟨t',rfl⟩:=ry;exact ne_int (bj I q (congrArg not zm))
  |str j=>obtain ⟨t',rfl⟩:=ry;exact PySem.EqMixed.ne_int_str (bj I q (by simp))
  |_=>exact absurd (show false=true from hs) im
 |str i=>
  obtain ⟨t,rfl⟩:=rx
  cases y with
  |au=>cases ry;exact PySem.EqNone.ne_str_none (bj I q (by simp))
  |bl j=>cases ry;exact PySem.EqMixed.ne_str_bool (bj I q (by simp))
  |int j=>obtain ⟨t',rfl⟩:=ry;exact PySem.EqMixed.ne_str_int (bj I q (by simp))
  |str j=>obtain ⟨t',rfl⟩:=ry;exact ne_str (bj I q (congrArg not zp))
  |_=>exact absurd (show false=true from hs) im
 |kn i=>
  obtain ⟨t,rfl⟩:=rx
  cases y with
  |kn j=>obtain ⟨t',rfl⟩:=ry;exact PySem.W.ne_bytes (bj I q (congrArg not zq))
  |_=>exact absurd (show false=true from hs) im
 |_=>cases y <;> exact absurd (show false=true from hs) im
theorem Pl:OpR X (compareOp .Lt) (uh fun i j=>.bl (decide (i<j))):=Fj fun _ _ _ _ _ _ _ q=>lt_int q
theorem Pn:OpR X (compareOp .LtE) (uh fun i j=>.bl (decide (i<=j))):=Fj fun _ _ _ _ _ _ _ q=>le_int q
theorem Pq:OpR X (compareOp .Gt) (uh fun i j=>.bl (decide (j<i))):=Fj fun _ _ _ _ _ _ _ q=>gt_int q
theorem Lv:OpR X (compareOp .Is) (fun x y H Q=>y=.au/\Q (.bl (decide (x=.au))) H) :=by
 intro pins s σ H x y v u Q I rx ry h
 obtain ⟨rfl,q⟩:=h
 cases ry
 refine is_none_gen (bj I q ?_)
 cases x <;> first
  |(cases rx;rfl)
  |(obtain ⟨t,rfl⟩:=rx;rfl)
theorem aR (b:dL) {op:SO} (h:op≠.In :=by decide) (h2:op≠.NotIn :=by decide):behindInMarks op b=false :=by
 have e1:(op==SO.In)=false :=by cases op <;> first|rfl|exact absurd rfl h
 have e2:(op==SO.NotIn)=false :=by cases op <;> first|rfl|exact absurd rfl h2
 cases b <;> simp [behindInMarks,e1,e2]
theorem IW {op:SO} {r:R2} (ho:OpR X (compareOp op) r) (ha:PE X a ta) (hb:PE X b tb) (hm:behindInMarks op b=false):PE X (.Compare a [op] [b] pos) (Cj r ta tb) :=by
 refine ⟨?_⟩
 intro pins s σ H Q I h
 exact wpAny_Compare1 (Fi ha hb I h fun v u s2 x y H2 I2 rx ry q=>ho pins s2 σ H2 x y v u Q I2 rx ry q) hm
def Au (t:TE):TT:=fun σ H Q=>t σ H fun x H'=>∃k,x=.bl k/\Q k H'
theorem IX {op:SO} {r:R2} (ho:OpR X (compareOp op) r) (ha:PE X a ta) (hb:PE X b tb) (hm:behindInMarks op b=false):PT X (.Compare a [op] [b] pos) (Au (Cj r ta tb)) :=by
 refine ⟨?_⟩
 intro pins s σ H Q I h
 refine wpAny_isTrue_Compare1 (thn (ha pins s σ H _ I h) fun v s1 ⟨x,H1,I1,r1,q1⟩=>thn (hb pins s1 σ H1 _ I1 q1) fun u s2 ⟨y,H2,I2,r2,q2⟩=>
  thn (ho pins s2 σ H2 x y v u _ I2 r1 r2 q2) fun c s3 ⟨z,H3,I3,r3,k,e,q3⟩=>?_) hm
 subst e
 cases r3
 exact xL ⟨H3,I3,q3⟩
def we (r r':R2) (ta tb tc:TE):TE:=fun σ H Q=>ta σ H fun x H1=>tb σ H1 fun y H2=>r x y H2 fun z H3=>∃k,z=.bl k /\
 (if k=true then tc σ H3 fun w' H4=>r' y w' H4 Q else Q (.bl false) H3)
theorem Fm {op kz:SO} {r r':R2} (ho:OpR X (compareOp op) r) (fV:OpR X (compareOp kz) r') (ha:PE X a ta) (hb:PE X b tb) (hc:PE X c tc)
  (hm:lastMarks [op,kz] [b,c]=false :=by with_unfolding_all rfl):PE X (.Compare a [op,kz] [b,c] pos) (we r r' ta tb tc) :=by
 refine ⟨?_⟩
 intro pins s σ H Q I h
 refine Compare_chain (thn (ha pins s σ H _ I h) fun v s1 ⟨x,H1,I1,r1,q1⟩=>chain_link (thn (hb pins s1 σ H1 _ I1 q1) fun u s2 ⟨y,H2,I2,r2,q2⟩=>
  thn (ho pins s2 σ H2 x y v u _ I2 r1 r2 q2) fun d s3 ⟨z,H3,I3,r3,k,e,q3⟩=>?_)) hm
 subst e
 cases r3
 refine xL ?_
 cases k with
 |false=>exact ite_ff ⟨.bl false,H3,I3,rfl,q3⟩
 |true=>exact ite_tt (chain_last (thn (hc pins s3 σ H3 _ I3 q3) fun w' s4 ⟨z',H4,I4,r4,q4⟩=>fV pins s4 σ H4 y z' u w' Q I4 r2 r4 q4))
theorem Fn {op kz:SO} {r r':R2} (ho:OpR X (compareOp op) r) (fV:OpR X (compareOp kz) r') (ha:PE X a ta) (hb:PE X b tb) (hc:PE X c tc)
  (hm:lastMarks [op,kz] [b,c]=false :=by with_unfolding_all rfl):PT X (.Compare a [op,kz] [b,c] pos) (Au (we r r' ta tb tc)) :=by
 refine ⟨?_⟩
 intro pins s σ H Q I h
 refine isTrue_chain (thn (ha pins s σ H _ I h) fun v s1 ⟨x,H1,I1,r1,q1⟩=>test_link (thn (hb pins s1 σ H1 _ I1 q1) fun u s2 ⟨y,H2,I2,r2,q2⟩=>
  thn (ho pins s2 σ H2 x y v u _ I2 r1 r2 q2) fun d s3 ⟨z,H3,I3,r3,k,e,q3⟩=>?_)) hm
 subst e
 cases r3
 refine xL ?_
 cases k with
 |false=>
  obtain ⟨k',e',q'⟩:=q3
  cases e'
  exact ite_ff ⟨H3,I3,q'⟩
 |true=>
  refine ite_tt (test_last (thn (hc pins s3 σ H3 _ I3 q3) fun w' s4 ⟨z',H4,I4,r4,q4⟩=>thn (fV pins s4 σ H4 y z' u w' _ I4 r2 r4 q4) fun d' s5 ⟨z2,H5,I5,r5,k2,e2,q5⟩=>?_))
  subst e2
  cases r5
  exact xL ⟨H5,I5,q5⟩
def Fo (K:ba) (x:V) (H:Hp) (k:Bool):Prop:=
 match x with
 | .au=>k=false
 | .bl b=>k=b
 | .int i=>k=(i != 0)
 | .str y=>y.length<=sizeLine/\k=((y.length:Int) != 0)
 | .kn y=>y.size<=sizeLine/\k=((y.size:Int) != 0)
 | .ref p=>(∃xs,bH K H p xs/\k = !xs.isEmpty)\/(∃xs,dh K H p xs/\k = !xs.isEmpty)\/∃av,H p=some (.dK av)/\k = !av.isEmpty
 |_=>False
theorem Av {κ:Type} {av:List (κ×V)} {vs:List (κ×ap)} (r:KV av vs):(!vs.isEmpty) = !av.isEmpty :=by
 cases r <;> rfl
theorem rj {xs:List V} {its:List ap} (r:Vals xs its):(!its.toArray.isEmpty) = !xs.isEmpty :=by
 cases r <;> simp
theorem mw:(sizeLine:Nat)<2 ^ 63 :=by rw [LF];decide
theorem Lw:SD X (fun x H Q=>∃k,Fo X.K x H k/\Q k H) :=by
 intro pins s σ H x v Q I rx h
 obtain ⟨k,e,q⟩:=h
 have hl:=mw
 have hs:sizeLine=16777216:=LF
 cases x with
 |au=>
  cases rx
  have e':k=false:=e
  subst e'
  exact truthy_none ⟨H,I,q⟩
 |bl b=>
  cases rx
  have e':k=b:=e
  subst e'
  exact xL ⟨H,I,q⟩
 |int i=>
  obtain ⟨t,rfl⟩:=rx
  have e':k=(i != 0):=e
  subst e'
  exact PySem.P.truthy_int ⟨H,I,q⟩
 |str y=>
  obtain ⟨t,rfl⟩:=rx
  obtain ⟨hy,e'⟩:y.length<=sizeLine/\k=((y.length:Int) != 0):=e
  subst e'
  exact PySem.P.truthy_str (by omega) ⟨H,I.tok _,q⟩
 |kn y=>
  obtain ⟨t,rfl⟩:=rx
  obtain ⟨hy,e'⟩:y.size<=sizeLine/\k=((y.size:Int) != 0):=e
  subst e'
  exact PySem.W.truthy_bytes (by omega) ⟨H,I.tok _,q⟩
 |ref p=>
  cases rx
  have e':(∃xs,bH X.K H p xs/\k = !xs.isEmpty)\/(∃xs,dh X.K H p xs/\k = !xs.isEmpty)\/∃av,H p=some (.dK av)/\k = !av.isEmpty:=e
  rcases e' with ⟨xs,hx,e'⟩|⟨xs,hx,e'⟩|⟨av,hx,e'⟩
  ·subst e'
   obtain ⟨its,r,pl,hz⟩:=I.list hx
   have hlen:=r.length
   exact wpAny_truthy_list pl.isList (by simp only [cr];omega) ⟨H,I.tok _,by rw [rj r];exact q⟩
  ·subst e'
   obtain ⟨its,r,pl,hz⟩:=I.tuple hx
   have hlen:=r.length
   exact truthy_tuple pl (by simp only [cr];omega) ⟨H,I.tok _,by rw [rj r];exact q⟩
  ·subst e'
   obtain ⟨hz,hS,vs,r,m⟩:av.length<=sizeLine/\(p==sysModules)=false/\∃vs,KV av vs/\s.heap.DictOf (bO X.prog X.w) p vs:=I.hok p _ hx
   have hlen:av.length=vs.length:=GS r
   exact wpAny_truthy_dict hS m (by omega) ⟨H,I.tok _,by rw [Av r];exact q⟩
 |_=>exact (show False from e).elim
theorem Fp (ha:PE X a ta) (he:∀whole,isTrue a X.env whole=(do let v <- whole;standAt a.pos;holding [v] (truthy v))) :
  PT X a (fun σ H Q=>ta σ H fun x H'=>∃k,Fo X.K x H' k/\Q k H') :=by
 refine ⟨?_⟩
 intro pins s σ H Q I h
 exact isTrue_plain (thn (ha pins s σ H _ I h) fun v s1 ⟨x,H1,I1,r1,q1⟩=>Lw pins s1 σ H1 x v Q I1 r1 q1) (he _)
theorem vals1 {x:V} {us:List ap} (r:Vals [x] us):∃u,us=[u]/\RelV x u :=by
 cases r with
 |cons r1 r2=>cases r2;exact ⟨_,rfl,r1⟩
theorem vals2 {x y:V} {us:List ap} (r:Vals [x,y] us):∃u w',us=[u,w']/\RelV x u/\RelV y w':=by
 cases r with
 |cons r1 r2=>
  cases r2 with
  |cons r3 r4=>cases r4;exact ⟨_,_,rfl,r1,r3⟩
theorem Fq:cq X (.builtin "abs") (fun xs H Q=>∃i,xs=[.int i]/\Q (.int (if i<0 then -i else i)) H) :=by
 intro pins s σ H xs us Q I r h
 obtain ⟨i,rfl,q⟩:=h
 obtain ⟨u,rfl,t,rfl⟩:=vals1 r
 exact call_abs_int fun u tk=>⟨.int (if i<0 then -i else i),H,I.tok _,⟨_,rfl⟩,q⟩
theorem Cm (hc:X.calm=true):cq X (.builtin "max") (fun xs H Q=>∃i j,xs=[.int i,.int j]/\Q (.int (if j > i then j else i)) H) :=by
 intro pins s σ H xs us Q I r h
 obtain ⟨i,j,rfl,q⟩:=h
 obtain ⟨u,w',rfl,⟨t,rfl⟩,⟨t',rfl⟩⟩:=vals2 r
 refine max_two_ints (I.ok.hd hc) fun h' tk k=>⟨_,H,I.kept k,?_,q⟩
 by_cases hj:j > i
 ·rw [if_pos hj,if_pos hj];exact ⟨_,rfl⟩
 ·rw [if_neg hj,if_neg hj];exact ⟨_,rfl⟩
theorem Cp (hc:X.calm=true):cq X (.builtin "min") (fun xs H Q=>∃i j,xs=[.int i,.int j]/\Q (.int (if j<i then j else i)) H) :=by
 intro pins s σ H xs us Q I r h
 obtain ⟨i,j,rfl,q⟩:=h
 obtain ⟨u,w',rfl,⟨t,rfl⟩,⟨t',rfl⟩⟩:=vals2 r
 refine min_two_ints (I.ok.hd hc) fun h' tk k=>⟨_,H,I.kept k,?_,q⟩
 by_cases hj:j<i
 ·rw [if_pos hj,if_pos hj];exact ⟨_,rfl⟩
 ·rw [if_neg hj,if_neg hj];exact ⟨_,rfl⟩
theorem Cq:cq X (.type "int") (fun xs H Q=>(∃i,xs=[.int i]/\Q (.int i) H)\/∃k,xs=[.bl k]/\Q (.int (if k then 1 else 0)) H) :=by
 intro pins s σ H xs us Q I r h
 rcases h with ⟨i,rfl,q⟩|⟨k,rfl,q⟩
 ·obtain ⟨u,rfl,t,rfl⟩:=vals1 r
  exact call_int_int ⟨.int i,H,I,⟨_,rfl⟩,q⟩
 ·obtain ⟨u,rfl,r1⟩:=vals1 r
  cases r1
  exact call_int_bool ⟨.int (if k then 1 else 0),H,I.tok _,⟨_,rfl⟩,q⟩
def Lx (K:ba) (x:V) (H:Hp) (n:Nat):Prop:=
 match x with
 | .str y=>y.length<=sizeLine/\n=y.length
 | .kn y=>y.size<=sizeLine/\n=y.size
 | .ref p=>(∃xs,bH K H p xs/\n=xs.length)\/∃xs,dh K H p xs/\n=xs.length
 |_=>False
theorem Fs:cq X (.builtin "len") (fun xs H Q=>∃x n,xs=[x]/\Lx X.K x H n/\Q (.int n) H) :=by
 intro pins s σ H xs us Q I r h
 obtain ⟨x,n,rfl,e,q⟩:=h
 obtain ⟨u,rfl,rx⟩:=vals1 r
 have hl:=mw
 have hs:sizeLine=16777216:=LF
 cases x with
 |str y=>
  obtain ⟨t,rfl⟩:=rx
  obtain ⟨hy,e'⟩:y.length<=sizeLine/\n=y.length:=e
  subst e'
  exact len_str (by omega) ⟨.int _,H,I.tok _,⟨_,rfl⟩,q⟩
 |kn y=>
  obtain ⟨t,rfl⟩:=rx
  obtain ⟨hy,e'⟩:y.size<=sizeLine/\n=y.size:=e
  subst e'
  exact PySem.W.len_bytes (by omega) ⟨.int _,H,I.tok _,⟨_,rfl⟩,q⟩
 |ref p=>
  cases rx
  have e':(∃xs,bH X.K H p xs/\n=xs.length)\/∃xs,dh X.K H p xs/\n=xs.length:=e
  rcases e' with ⟨xs,hx,e'⟩|⟨xs,hx,e'⟩
  ·subst e'
   obtain ⟨its,r',pl,hz⟩:=I.list hx
   have hlen:=r'.length
   exact Calls.call_len_list pl.isList (by simp only [cr];omega) ⟨.int xs.length,H,I.tok _,⟨_,by simp only [cr];rw [hlen]⟩,q⟩
  ·subst e'
   obtain ⟨its,r',pl,hz⟩:=I.tuple hx
   have hlen:=r'.length
   exact len_tuple pl (by simp only [cr];omega) ⟨.int xs.length,H,I.tok _,⟨_,by simp only [cr];rw [hlen]⟩,q⟩
 |_=>exact (show False from e).elim
end
structure Ft (h:ij) (x dx C:ag) (mA:br->Option ap):Prop where
 obj:h.get? x=some (XQ C dx)
 ns:h.Ns1 dx mA
 ne:dx≠x
theorem Cr {h:ij} {dx:ag} {mA:br->Option ap} (n:h.Ns1 dx mA):∃od,h.get? dx=some od/\∀name,PySem.W.lookIn name od=some (mA name) :=by
 obtain ⟨o,es,ep,ho,hd,hk,_,hm⟩:=n
 refine ⟨o,ho,fun name=>?_⟩
 have e:=hm name
 unfold nsFind findBy at e
 rw [<- Array.find?_toList] at e
 unfold PySem.W.lookIn
 rw [hd]
 dsimp only
 split
 ·rename_i y q
  rw [q] at e
  exact congrArg some e
 ·rename_i q
  rw [q] at e
  have a:es.toList.any (·.refKey)=false :=by
   rw [List.any_eq_false]
   intro y hy
   obtain ⟨z,t,md⟩:=hk y (Array.mem_toList_iff.mp hy)
   simp [DictEntry.refKey,md]
  have a':¬ es.toList.any (·.refKey)=true :=by rw [a];exact im
  rw [if_neg a']
  exact congrArg some e
theorem Ft.look {h:ij} {x dx C:ag} {mA:br->Option ap} (I:Ft h x dx C mA):∃od,PySem.W.InstAt h x (XQ C dx) C (some od)/\∀name,PySem.W.lookIn name od=some (mA name):=
 let ⟨od,ho,hl⟩:=Cr I.ns
 ⟨od,⟨I.obj,rfl,rfl,ho⟩,hl⟩
theorem jl.some_of {v:V} {o:Option ap} (r:jl (some v) o):∃u,o=some u/\RelV v u :=by
 cases o with
 |none=>exact (show False from r).elim
 |some u=>exact ⟨u,rfl,r⟩
section
variable {P:gc} {w:i0} {H H':Hp} {h h':ij} {a C dx:ag} {fs TK:List (br×V)}
theorem IY (hok:dz P w H h) (e:H a=some (.ins C dx fs)):∃mA,Ft h a dx C mA/\(∀f,jl (fs.lookup f) (mA f))/\PySem.Within mA (fs.map (·.1))/\fs.length<=1000/\H dx=some (.own a) :=by
 obtain ⟨d,z,ne,ob,mA,n,r,q⟩:=(show ObjOk P w H h a (.ins C dx fs) from hok a _ e)
 exact ⟨mA,⟨ob,n,ne⟩,r,q,z,d⟩
end
structure Ly (K:ba) (C:ag):Prop where
 pg:PySem.W.plainGet K C br.empty=true
 hd:PySem.W.hasDictIn K C=true
 po:PySem.W.plainOver K C=true
 sa:PySem.W.findIn K (.ref C) "__setattr__" = some (some (.builtin "object.__setattr__"))
theorem Ly.get {K:ba} {C:ag} (c:Ly K C) (f:br):PySem.W.plainGet K C f=true:=c.pg
section
variable {X:Cx} {pins:List (ag×l3)} {σ:St} {H:Hp} {s:ar} {A:l8} {E:ap->ar->Prop} {Q:ap->ar->Prop} {c:ap} {b:Bool}
inductive ie (K:ba) (H:Hp):V->ap->Prop where
 |au:ie K H .au (.type "NoneType")
 |bl (x:Bool):ie K H (.bl x) (.type "bool")
 |int (i:Int):ie K H (.int i) (.type "int")
 |str (x:br):ie K H (.str x) (.type "str")
 |zj (x:UInt64):ie K H (.zj x) (.type "float")
 |lst {a:ag} {xs:List V} (e:H a=some (.lst xs)):ie K H (.ref a) (.type "list")
 |gG {a:ag} {o:l3} {xs:List V} (e:H a=some (.gG o (.lst xs))):ie K H (.ref a) (.type "list")
 |tup {a:ag} {xs:List V} (e:H a=some (.tup xs)):ie K H (.ref a) (.type "tuple")
 |dK {a:ag} {av:List (Key×V)} (e:H a=some (.dK av)):ie K H (.ref a) (.type "dict")
 |dT {a:ag} {av:List (List Key×V)} (e:H a=some (.dT av)):ie K H (.ref a) (.type "dict")
 |ins {a C dx:ag} {fs:List (br×V)} (e:H a=some (.ins C dx fs)) (cl:Ly K C) (ha:PySem.W.findIn K (.ref C) "__class__" = some (some (.builtin "object.__class__")))
   (hn:PySem.W.specialIn K (.builtin "object.__class__") "__get__" = some (some (.builtin "getset_descriptor.__get__"))) (QM:PySem.W.takesIn K (.builtin "object.__class__")=some true)
   (hm:PySem.W.mroIn K C (.type "object")=some true):ie K H (.ref a) (.ref C)
theorem Ct {x:V} {u t:ap} (I:Inv X pins σ H s) (rx:RelV x u) (ty:ie X.K H x t) (e:W5 X.K t c=some b) (h:∀tk,Q (.bool b) {s with toks:=tk}) :
  wpAny (model X.prog X.w) A (call (.builtin "isinstance") [u,c]) Q E s :=by
 cases ty with
 |au=>cases (show u=xz from rx);exact Co PySem.W.kitx_none I.jH GT e (fun z=>nomatch z) h
 |bl y=>cases (show u=SL y from rx);exact Co PySem.W.kitx_bool I.jH GT e (fun z=>nomatch z) h
 |int i=>obtain ⟨t,q⟩:=(show ∃t,u=XN i t from rx);cases q;exact Co PySem.W.kitx_int I.jH GT e (fun z=>nomatch z) h
 |str y=>obtain ⟨t,q⟩:=(show ∃t,u=XO y t from rx);cases q;exact Co PySem.W.kitx_str I.jH GT e (fun z=>nomatch z) h
 |zj y=>obtain ⟨t,q⟩:=(show ∃t,u=ap.float y t from rx);cases q;exact Co PySem.W.kitx_float I.jH GT e (fun z=>nomatch z) h
 | @lst a xs ea=>
  cases (show u=mT a from rx)
  obtain ⟨_,_,n,_,h1⟩:=(show ObjOk X.prog X.w H s.heap a (.lst xs) from I.hok a _ ea)
  exact Co PySem.W.kitx_list I.jH ⟨_,h1,rfl⟩ e (fun z=>nomatch z) h
 | @gG a ob xs ea=>
  cases (show u=mT a from rx)
  obtain ⟨_,_,_,n,_,h1⟩:=(show ObjOk X.prog X.w H s.heap a (.gG ob (.lst xs)) from I.hok a _ ea)
  exact Co PySem.W.kitx_list I.jH ⟨_,h1,rfl⟩ e (fun z=>nomatch z) h
 | @tup a xs ea=>
  cases (show u=mT a from rx)
  obtain ⟨_,_,_,p⟩:=(show ObjOk X.prog X.w H s.heap a (.tup xs) from I.hok a _ ea)
  obtain ⟨o,h1,h2,_⟩:=p
  exact Co PySem.W.kitx_tuple I.jH ⟨o,h1,h2⟩ e (fun z=>nomatch z) h
 | @dK a av ea=>
  cases (show u=mT a from rx)
  obtain ⟨_,_,vs,_,p⟩:=(show ObjOk X.prog X.w H s.heap a (.dK av) from I.hok a _ ea)
  obtain ⟨o,es,ep,h1,h2,_⟩:=p
  exact Co PySem.W.kitx_dict I.jH ⟨o,h1,h2.1⟩ e (fun z=>nomatch z) h
 | @dT a av ea=>
  cases (show u=mT a from rx)
  obtain ⟨_,_,xs,_,o,es,ep,h1,h2,_⟩:=(show ObjOk X.prog X.w H s.heap a (.dT av) from I.hok a _ ea)
  exact Co PySem.W.kitx_dict I.jH ⟨o,h1,h2.1⟩ e (fun z=>nomatch z) h
 | @ins a C dx fs ea cl ha hn QM hm=>
  cases (show u=mT a from rx)
  obtain ⟨mA,O,_⟩:=IY I.hok ea
  obtain ⟨od,J,_⟩:=O.look
  exact Co (PySem.W.kitx_own (cl.get _) cl.hd ha hn QM hm) I.jH J e (fun z=>nomatch z) h
end
structure dB (k:Nat) (A:l8):Prop where
 hd:A.handled=none
 dp:A.depth+3 * k+5<recursionLimit
 un:A.units+16 * k+200<cLine
theorem dB.mono {j k:Nat} {A:l8} (r:dB k A) (h:j<=k):dB j A:=⟨r.hd,by have:=r.dp;omega,by have:=r.un;omega⟩
theorem dB.deeper {k:Nat} {A:l8} (r:dB (k+1) A) (env:IR):dB k (A.deeper env):=
 ⟨r.hd,by have:=r.dp;show A.depth+1+3 * k+5<_;omega,by have:=r.un;show A.units+3+16 * k+200<_;omega⟩
theorem dB.depth {k:Nat} {A:l8} (r:dB k A):A.depth<recursionLimit :=by have:=r.dp;omega
theorem dB.units {k:Nat} {A:l8} (r:dB k A):A.units+64<cLine :=by have:=r.un;omega
def SE:TA:=fun _ H Q=>Q [] H
def Pr (ta:TE) (tr:TA):TA:=fun σ H Q=>ta σ H fun x H1=>tr σ H1 fun xs H2=>Q (x::xs) H2
section
variable {X:Cx} {e:dL} {es:List dL} {te:TE} {t:TA} {pos:ut}
theorem Lz:PA X [] SE:=⟨fun _ _ _ _ H Q I h=>Na ⟨[],H,I,.nil,h⟩⟩
theorem IZ (ha:PE X e te) (hr:PA X es t) (hs:starEach (e::es) X.env=(false,eval e X.env)::starEach es X.env :=by rfl):PA X (e::es) (Pr te t) :=by
 refine ⟨?_⟩
 intro pos pins s σ H Q I h
 rw [hs]
 show wpAny _ _ (spliced ((false,eval e X.env)::backTo pos (starEach es X.env))) _ _ s
 refine ID (thn (ha pins s σ H _ I h) fun u s1 ⟨x,H1,I1,r1,q1⟩=>?_)
 exact thn (hr pos pins s1 σ H1 _ I1 q1) fun us s2 ⟨xs,H2,I2,r2,q2⟩=>⟨x::xs,H2,I2,.cons r1 r2,q2⟩
def SF (t:TA):TE:=fun σ H Q=>t σ H fun xs H1=>xs.length<=sizeLine/\∀p,H1 p=none->Q (.ref p) (upd H1 p (.tup xs))
def SG (t:TA):TE:=fun σ H Q=>t σ H fun xs H1=>xs.length<=sizeLine/\∀p,H1 p=none->Q (.ref p) (upd H1 p (.lst xs))
theorem LA {x1} (h:PA X es t):PE X (.Tuple es x1 pos) (SF t) :=by
 refine ⟨?_⟩
 intro pins s σ H Q I hq
 refine wpAny_Tuple_spliced (thn (h pos pins s σ H _ I hq) fun us s1 ⟨xs,H1,I1,r,z,q⟩=>⟨by rw [<- r.length];exact z,?_⟩)
 have hf:H1 s1.heap.objs.size=none:=I1.hok.fresh (ce _)
 refine ⟨.ref s1.heap.objs.size,upd H1 s1.heap.objs.size (.tup xs),I1.laid (t':=s1.toks) (fun b u e=>bv _ e) (ce _) ?_,rfl,q _ hf⟩
 exact ⟨z,us,r,⟨_,en _ rfl,rfl,_,rfl,rfl⟩⟩
theorem Cu (h:PA X es t):PE X (.List es pos) (SG t) :=by
 refine ⟨?_⟩
 intro pins s σ H Q I hq
 refine wpAny_List_spliced (thn (h pos pins s σ H _ I hq) fun us s1 ⟨xs,H1,I1,r,z,q⟩=>⟨by rw [<- r.length];exact z,?_⟩)
 have hf:H1 s1.heap.objs.size=none:=I1.hok.fresh (ce _)
 refine ⟨.ref s1.heap.objs.size,upd H1 s1.heap.objs.size (.lst xs),I1.laid (t':=s1.toks) (fun b u e=>bv _ e) (ce _) ?_,rfl,q _ hf⟩
 exact ⟨z,us,0,r,en _ rfl⟩
end
abbrev Sp:=List V->Hp->VK->XK->Prop
abbrev lz:=List IR->Hp->ar->XK->ap->ar->Prop
structure Aw (P:gc) (w:i0) (K:ba) (mg:br->Option ap) (base:ij) (A:l8) (outer:List IR) (s:ar) (H:Hp):Prop where
 frames:A.frames=some outer
 mod:Mod K mg base
 bs:∀b o,base.get? b=some o->s.heap.get? b=some o/\H b=none
 bsz:base.objs.size<=s.heap.objs.size
 funs:s.heap.FunFrames base outer
 frf:∀b∈gH outer,H b=none
 hok:dz P w H s.heap
 bare:X3 s.gens
def CE (outer:List IR) (P:gc) (w:i0) (H:Hp) (s:ar) (Q:VK) (u:ap) (s':ar):Prop:=
 ∃v H',s'.os=s.os/\Gn s.gens.size s'.gens/\Un (gH outer) [] H H' s.heap s'.heap/\dz P w H' s'.heap/\RelV v u/\Q v H'
def CR (CX:lz) (outer:List IR) (P:gc) (w:i0) (H:Hp) (s:ar) (Q:VK) (E:XK) (r:X4) (s':ar):Prop:=
 match r with
 | .ok (.ret u)=>CE outer P w H s Q u s'
 | .ok _=>False
 | .error e=>CX outer H s E e s'
structure FnOk (P:gc) (w:i0) (K:ba) (mg:br->Option ap) (base:ij) (CX:lz) (k:Nat) (f:ag) (fd:l5) (ps:List br) (sp:Sp):Prop where
 len:∀vs H Q E,sp vs H Q E->vs.length=ps.length
 run:∀(A:l8) (outer:List IR) (s:ar) (H:Hp) (args:Args) (us:List ap) (vs:List V) (Q:VK) (E:XK),dB k A->Aw P w K mg base A outer s H->XA s fd args (ps.zip us)->Vals vs us->sp vs H Q E->
  codeAny (model P w) A (.call (.ref f) args) (CR CX outer P w H s Q E) s
theorem FnOk.imp {P:gc} {w:i0} {K:ba} {mg:br->Option ap} {base:ij} {CX:lz} {k:Nat} {f:ag} {fd:l5} {ps:List br} {sp QN:Sp} (F:FnOk P w K mg base CX k f fd ps sp)
  (h:∀vs H Q E,QN vs H Q E->sp vs H Q E):FnOk P w K mg base CX k f fd ps QN:=
 ⟨fun vs H Q E q=>F.len vs H Q E (h _ _ _ _ q),fun A outer s H args us vs Q E hr he hb hv hs=>F.run A outer s H args us vs Q E hr he hb hv (h _ _ _ _ hs)⟩
section
variable {X:Cx} {pins:List (ag×l3)} {σ:St} {H:Hp} {s s':ar}
theorem Inv.SH (I:Inv X pins σ H s):Aw X.prog X.w X.K X.mg X.base X.A X.stack s H:=
 ⟨I.ok.frames,I.ok.mod,I.bs,ln I.ok.bsz I.sz,I.stack,I.pz,I.hok,I.bare.1⟩
theorem Inv.after {Q:VK} {u:ap} (I:Inv X pins σ H s) (h:CE X.stack X.prog X.w H s Q u s'):EP X pins σ Q u s':=by
 obtain ⟨v,H',os,bare,un,hok,r,q⟩:=h
 obtain ⟨hh,g,d,t,Hq⟩:=s'
 obtain rfl:Hq=s.os:=os
 exact ⟨v,H',I.call (h':=hh) (g':=g) (d':=d) (t':=t) (ch:=[]) un hok bare (fun b z=>absurd z (by simp)),r,q⟩
end
def Hr (sp:Sp) (ui:List V) (E:XK) (t:TA):TE:=fun σ H Q=>t σ H fun vs H1=>sp (vs++ui) H1 Q E
def Binds (K:ba) (fd:l5) (ps:List br) (ds:List ap):Prop:=
 ∀(s:ar) (us:List ap),K.In s.heap->(us++ds).length=ps.length->XA s fd ⟨us,[]⟩ (ps.zip (us++ds))
theorem Binds.all {K:ba} {fd:l5} {ps:List br} (h:∀us:List ap,us.length=ps.length->bindArgs fd ⟨us,[]⟩=pure (ps.zip us)):Binds K fd ps []:=fun s us _ hl=>by
 rw [FM] at hl ⊢
 exact .of_eq (h us hl)
def Passes (CX:lz) (X:Cx) (E:XK):Prop:=∀(pins:List (ag×l3)) (σ:St) (H:Hp) (s:ar) (e:ap) (s':ar),Inv X pins σ H s->CX X.stack H s E e s'->X.xe e s'
section
variable {X:Cx} {CX:lz} {k:Nat} {f C:ag} {fd:l5} {ps:List br} {sp:Sp} {ui:List V} {ds:List ap} {E:XK} {x m:br} {p pos apos:ut} {e o:dL} {es:List dL} {ta:TE} {t:TA}
theorem LC {pins:List (ag×l3)} {σ:St} {H:Hp} {s:ar} {Q:VK} {us:List ap} {vs:List V} (F:FnOk X.prog X.w X.K X.mg X.base CX k f fd ps sp) (hr:dB k X.A) (hb:Binds X.K fd ps ds) (hd:Vals ui ds) (hx:Passes CX X E)
  (I:Inv X pins σ H s) (r:Vals vs us) (h:sp (vs++ui) H Q E):wpAny (model X.prog X.w) X.A (call (.ref f) us) (EP X pins σ Q) X.xe s :=by
 have r2:Vals (vs++ui) (us++ds):=r.append hd
 have hl:(us++ds).length=ps.length :=by rw [<- r2.length];exact F.len _ _ _ _ h
 refine wpAny_call (WQ (F.run X.A X.stack s H ⟨us,[]⟩ (us++ds) (vs++ui) Q E hr I.SH (hb s us I.jH hl) r2 h) fun r s' hq=>?_)
 cases r with
 |error e=>exact hx pins σ H s e s' I hq
 |ok fl=>
  cases fl with
  |ret u=>exact I.after hq
  |next=>exact LB hq
  |brk=>exact LB hq
  |cont=>exact LB hq
theorem Ja (F:FnOk X.prog X.w X.K X.mg X.base CX k f fd ps sp) (hr:dB k X.A) (hg:Gl X x) (hm:X.mg x=some (.ref f)) (hk:Sm X.K (.ref f)=true) (hb:Binds X.K fd ps ds) (hd:Vals ui ds) (hx:Passes CX X E)
  (ha:PA X (e::es) t) (kD:(x==("__debug__" : br))=false :=by decide) (he:starEach (e::es) X.env=(false,eval e X.env)::starEach es X.env :=by rfl) (eL:(backTo pos (starEach es X.env)).any (·.1)=false :=by rfl) :
  PE X (.Call (.Name x p) (e::es) [] pos) (Hr sp ui E t) :=by
 refine ⟨?_⟩
 intro pins s σ H Q I h
 refine IF (sV I hg hm ?_ kD)
 refine PySem.W.callWith_K (h₀:=X.base) I.ok.mod.kin hk (thn (ha pos pins s σ H _ I h) fun us s1 ⟨vs,H1,I1,r,q⟩=>⟨I1.jH,?_⟩) he eL
 exact LC F hr hb hd hx I1 r q
end
structure aT (N P:List br) (sc:wl):Prop where
 kind:sc.kind=.function
 co:sc.isCoroutine=false
 gen:sc.isGenerator=false
 nd:N.Nodup
 pre:N.take P.length=P
 par:∀x∈P,sc.names.lookup x=some .local\/sc.names.lookup x=some .cell
 nofree:∀y∈sc.names,y.2≠.free
theorem uj {kindOf:br->Option NG} {x:br}:∀{binds:List (br×ap)} {m:br->Option ap},(∀v,(x,v) ∉ binds)->bindL kindOf binds m x=m x
 | [],_,_=>rfl
 |(n,v)::r,m,h=>by
          unfold bindL
          rw [uj fun w hw=>h w (db _ hw)]
          split
          ·have:x≠n :=by rintro rfl;exact h v ff
           simp [this]
          ·rfl
theorem uk {kindOf:br->Option NG} {x:br}:∀{binds:List (br×ap)} {m:br->Option ap},(∀v,(x,v) ∉ binds)->bindC kindOf binds m x=m x
 | [],_,_=>rfl
 |(n,v)::r,m,h=>by
          unfold bindC
          rw [uk fun w hw=>h w (db _ hw)]
          split
          ·rfl
          ·have:x≠n :=by rintro rfl;exact h v ff
           simp [this]
theorem um {kindOf:br->Option NG} {x:br} {v:ap}:∀{P:List br} {vs:List ap} {i:Nat} {m:br->Option ap},P.Nodup->P[i]?=some x->vs[i]?=some v->kindOf x=some .local->
  bindL kindOf (P.zip vs) m x=some v
 | [],_,_,_,_,h,_,_=>by simp at h
 |_::_,[],_,_,_,_,h,_=>by simp at h
 |p::P,w::vs,0,m,nd,h1,h2,hk=>by
          simp at h1 h2;subst h1;subst h2
          show bindL kindOf ((p,w)::P.zip vs) m p=_
          unfold bindL
          rw [uj fun v hv=>(OR.mp nd).1 (WR hv).1,if_pos hk]
          simp
 |p::P,w::vs,i+1,m,nd,h1,h2,hk=>by
          show bindL kindOf ((p,w)::P.zip vs) m x=_
          unfold bindL
          exact um (i:=i) (OR.mp nd).2 (by simpa using h1) (by simpa using h2) hk
theorem uo {kindOf:br->Option NG} {x:br} {v:ap}:∀{P:List br} {vs:List ap} {i:Nat} {m:br->Option ap},P.Nodup->P[i]?=some x->vs[i]?=some v->kindOf x≠some .local->
  bindC kindOf (P.zip vs) m x=some v
 | [],_,_,_,_,h,_,_=>by simp at h
 |_::_,[],_,_,_,_,h,_=>by simp at h
 |p::P,w::vs,0,m,nd,h1,h2,hk=>by
          simp at h1 h2;subst h1;subst h2
          show bindC kindOf ((p,w)::P.zip vs) m p=_
          unfold bindC
          rw [uk fun v hv=>(OR.mp nd).1 (WR hv).1,if_neg hk]
          simp
 |p::P,w::vs,i+1,m,nd,h1,h2,hk=>by
          show bindC kindOf ((p,w)::P.zip vs) m x=_
          unfold bindC
          exact uo (i:=i) (OR.mp nd).2 (by simpa using h1) (by simpa using h2) hk
def start (N:List br) (vs:List V):St:=vs.map some++BY (N.length - vs.length) none
def ig (CX:lz) (P:gc) (w:i0) (K:ba) (mg:br->Option ap) (base:ij) (N:List br) (qual:br) (scope:wl) (f:ag) (cd:ap) (A:l8) (outer:List IR) (s:ar) (H:Hp) (E:XK):Cx where
 prog:=P
 w:=w
 K:=K
 mg:=mg
 base:=base
 A:=A.deeper (envOfC qual scope s.heap.objs.size f cd)
 N:=N
 s₀:=s
 H₀:=H
 env:=envOfC qual scope s.heap.objs.size f cd
 outer:=outer
 stack:=envOfC qual scope s.heap.objs.size f cd::outer
 ex:=[]
 calm:=true
 fn:=fun _=>true
 pn:=[]
 xe:=fun e s'=>wpAny (model P w) (A.deeper (envOfC qual scope s.heap.objs.size f cd)) (leaving (envOfC qual scope s.heap.objs.size f cd) e) (fun _ dH=>CX outer H s E e dH) (fun e' dH=>CX outer H s E e' dH) s'
theorem wg {sc:wl} {n:Nat} {x:br} (h:sc.names.lookup x=some .cell):∃c,(cellsFrom n sc.names []).lookup x=some c :=by
 have q:=PySem.W.cellsFrom_some sc.names n [] (.inl h)
 exact Option.isSome_iff_exists.mp q
theorem Cv {CX:lz} {P:gc} {w:i0} {K:ba} {mg:br->Option ap} {base:ij} {N ps:List br} {qual:br} {scope:wl} {f:ag} {cd:ap} {A:l8} {outer:List IR} {s s1:ar} {H:Hp} {E:XK} {us:List ap} {vs:List V}
  (S:aT N ps scope) (hd:A.handled=none) (e0:Aw P w K mg base A outer s H) (hl:vs.length=ps.length) (r:Vals vs us)
  (x:InCallC s s.heap.objs.size (bindL (envOfC qual scope s.heap.objs.size f cd).kindOf (ps.zip us) fun _=>none) (cellsFrom (s.heap.objs.size+1) scope.names []) (bindC (envOfC qual scope s.heap.objs.size f cd).kindOf (ps.zip us) fun _=>none) s1) :
  Inv (ig CX P w K mg base N qual scope f cd A outer s H E) [] (start N vs) H s1 :=by
 have eL:ps.length<=N.length :=by have:=congrArg List.length S.pre;rw [XC] at this;omega
 obtain ⟨h1,tk,rfl,hk⟩:=x.done
 have LD:∀b:ag,b ∉ (ig CX P w K mg base N qual scope f cd A outer s H E).ex:=fun b z=>absurd (show b∈([]:List ag) from z) (by simp)
 refine ⟨⟨e0.mod,S.kind,rfl,rfl,ce _,fun y z c h1 h2=>?_,fun y hy=>?_,fun y c _ h=>?_,fun _=>hd,l8.frames_deeper e0.frames,.inr ⟨rfl,rfl⟩,fun b z=>absurd z (LD b),e0.bs,e0.bsz,fun b _ _=>LD b,fun b z=>absurd z (LD b),e0.funs,e0.frf⟩,
  rfl,⟨e0.bare,ce _⟩,Un.kept hk,⟨_,x.toInCall.ns,fun i y v h1 h2 h3=>?_⟩,fun y c h=>⟨_,x.cell y c h⟩,e0.hok.fresh (ce _),fun y c h=>?_,fun p hp=>absurd (show p∈([]:List (ag×l3)) from hp) (by simp),e0.hok.kept hk,?_⟩
 ·exact name_of_addr x.apart (wn h1) (wn h2)
 ·have hy:scope.names.lookup y=some .cell\/scope.names.lookup y=some .free:=hy
  rcases hy with hy|hy
  ·exact wg hy
  ·exact absurd rfl (S.nofree _ (wn hy))
 ·exact LG (x.above y c (wn h))
 ·have hi:i<vs.length :=by
   unfold start at h2
   by_cases hi:i<vs.length
   ·exact hi
   ·rw [AN (by simpa using hi)] at h2
    rw [Ll] at h2
    split at h2 <;> cases h2
  have ha:vs[i]?=some v :=by
   unfold start at h2
   rw [ze (by simpa using hi),c8] at h2
   cases e:vs[i]? with
   |none=>rw [e] at h2;cases h2
   |some a=>rw [e] at h2;cases h2;rfl
  obtain ⟨u,hu,rv⟩:=r.get ha
  have hp:ps[i]?=some y :=by
   rw [<- S.pre,List.getElem?_take_of_lt (by omega)];exact h1
  have QO:ps.Nodup :=by rw [<- S.pre];exact S.nd.sublist (List.take_sublist _ _)
  refine ⟨u,rv,?_⟩
  rcases S.par y (ci hp) with k|k
  ·exact .inl ⟨k,um QO hp hu k⟩
  ·obtain ⟨c,e⟩:=wg (n:=s.heap.objs.size+1) k
   refine .inr ⟨.inl k,c,e,?_⟩
   have q:=x.cell y c e
   rw [uo QO hp hu (by show scope.names.lookup y≠_;rw [k];decide)] at q
   exact q
 ·exact e0.hok.fresh (LG (x.above y c (wn h)))
 ·unfold start
  show _=N.length
  rw [mf,cb,So]
  omega
theorem Hs {CX:lz} {P:gc} {w:i0} {K:ba} {mg:br->Option ap} {base:ij} {k:Nat} {f:ag} {name qual:br} {params:Arguments} {body:List tz} {scope:wl} {dV kV doc pm eZ ct oc:ap} {an od:Option ag}
  {nW:Array (Option ap)} {N ps:List br} {sp:Sp} (lk:K.lookup f=some ⟨oc,od,.func (Gc name qual params body scope dV kV doc pm an eZ ct),nW⟩) (iO:Wr K eZ qual=true) (S:aT N ps scope)
  (len:∀vs H Q E,sp vs H Q E->vs.length=ps.length)
  (rl:∀(A:l8) (outer:List IR) (s:ar) (H:Hp) (vs:List V) (Q:VK) (E:XK),dB k (A.deeper (envOfC qual scope s.heap.objs.size f eZ))->sp vs H Q E->
   ∃t,iB (ig CX P w K mg base N qual scope f eZ A outer s H E) body t/\t {nx:=fun _ H'=>Q .au H',rt:=Q} (start N vs) H) :
  FnOk P w K mg base CX (k+1) f (Gc name qual params body scope dV kV doc pm an eZ ct) ps sp :=by
 refine ⟨len,fun A outer s H args us vs Q E hr e0 hb r pU=>?_⟩
 have hl:=len _ _ _ _ pU
 have KX:K.In s.heap:=e0.mod.kin.keeps fun b o e=>(e0.bs b o e).1
 have lim:s.heap.NoLimit:=e0.mod.nolimit.keeps fun b o e=>(e0.bs b o e).1
 have pA:∀y∈ps.zip us,scope.names.lookup y.1=some .local\/(scope.names.lookup y.1=some .cell/\((cellsFrom (s.heap.objs.size+1) scope.names []).lookup y.1).isSome=true):=fun ⟨n,v⟩ hy=>by
  rcases S.par n (WR hy).1 with q|q
  ·exact .inl q
  ·exact .inr ⟨q,PySem.W.cellsFrom_some _ _ _ (.inl q)⟩
 refine codeAny_call_function hr.depth (KX _ _ lk) rfl S.co S.gen rfl (PySem.W.codeRec_of KX iO) (hb _ _ _ _ ?_)
 refine wpAny_newFunctionEnv_cells S.kind pA fun env he s1 x=>?_
 subst he
 refine ⟨lim.keeps x.toInCall.keep,codeAny_func ?_⟩
 obtain ⟨t,ht,hq⟩:=rl A outer s H vs Q E (hr.deeper _) pU
 have I:Inv (ig CX P w K mg base N qual scope f eZ A outer s H E) [] (start N vs) H s1:=Cv S hr.hd e0 hl r x
 refine lm (ht [] s1 (start N vs) H _ I hq) (fun fl s' hs=>?_) fun e s' hs=>hs
 have fin:∀{aO:St} {H':Hp} {v:V} {u:ap},Inv (ig CX P w K mg base N qual scope f eZ A outer s H E) [] aO H' s'->RelV v u->Q v H'->CE outer P w H s Q u s':=
  fun {aO H' v u} J rv q=>⟨v,H',J.os,J.bare,J.base,J.hok,rv,q⟩
 cases fl with
 |ret u=>
  obtain ⟨v,aO,H',J,rv,q⟩:=hs
  exact fin J rv q
 |next=>
  obtain ⟨aO,H',J,q⟩:=hs
  exact fin (v:=V.au) (u:=xz) J rfl q
 |brk=>
  obtain ⟨_,_,_,q⟩:=hs
  exact LB q
 |cont=>
  obtain ⟨_,_,_,q⟩:=hs
  exact LB q
section
variable {X:Cx} {x:br} {p pos:ut} {e:dL} {es:List dL} {t:TA} {id T:String} {r:List V->Hp->VK->Prop}
def LI (r:List V->Hp->VK->Prop) (t:TA):TE:=fun σ H Q=>t σ H fun vs H1=>r vs H1 Q
theorem Fu (hc:cq X (.builtin id) r) (hg:Gl X x) (hm:X.mg x=none) (hv:bootBuiltins x=some (.builtin id)) (ha:PA X (e::es) t) (hn:x ≠ "__name__" := by decide) (kD:(x==("__debug__" : br))=false :=by decide)
  (he:starEach (e::es) X.env=(false,eval e X.env)::starEach es X.env :=by rfl) (eL:(backTo pos (starEach es X.env)).any (·.1)=false :=by rfl):PE X (.Call (.Name x p) (e::es) [] pos) (LI r t) :=by
 refine ⟨?_⟩
 intro pins s σ H Q I h
 refine IF (gQ I hg hm hv ?_ hn kD)
 exact PyProof.Rows.callWith_builtin1 (thn (ha pos pins s σ H _ I h) fun us s1 ⟨vs,H1,I1,r1,q1⟩=>hc pins s1 σ H1 vs us Q I1 r1 q1) he eL
theorem Cw (hc:cq X (.type T) r) (hg:Gl X x) (hm:X.mg x=none) (hv:bootBuiltins x=some (.type T)) (ha:PA X (e::es) t) (hn:x ≠ "__name__" := by decide) (kD:(x==("__debug__" : br))=false :=by decide)
  (he:starEach (e::es) X.env=(false,eval e X.env)::starEach es X.env :=by rfl) (eL:(backTo pos (starEach es X.env)).any (·.1)=false :=by rfl):PE X (.Call (.Name x p) (e::es) [] pos) (LI r t) :=by
 refine ⟨?_⟩
 intro pins s σ H Q I h
 refine IF (gQ I hg hm hv ?_ hn kD)
 exact AL (thn (ha pos pins s σ H _ I h) fun us s1 ⟨vs,H1,I1,r1,q1⟩=>hc pins s1 σ H1 vs us Q I1 r1 q1) he eL
end
end L2
namespace HT
open PySem PyProof.Rows
def lexLt:List Int->List Int->Bool
 | [],[]=>false
 | [],_::_=>true
 |_::_,[]=>false
 |x::xs,y::ys=>if x=y then lexLt xs ys else decide (x<y)
theorem j5 (x y:Int) (xs ys:List Int):lexLt (x::xs) (y::ys)=if x=y then lexLt xs ys else decide (x<y):=rfl
section
variable {prog:gc} {w:i0} {A:l8} {E:ap->ar->Prop} {s:ar}
def kG (n d:Nat):Option Int->Nat
 |none=>d
 |some v=>if v<0 then (v+(n:Int)).toNat else min v.toNat n
end
end HT
namespace L2
open PySem PySem.Spec PyProof.Rows
abbrev TO:=St->Hp->(Option Int->Hp->Prop)->Prop
def PO (X:Cx) (e:Option dL) (t:TO):Prop:=
 ∀(pins:List (ag×l3)) (s:ar) (σ:St) (H:Hp) (Q:Option Int->Hp->Prop),Inv X pins σ H s->t σ H Q->
  wpAny (model X.prog X.w) X.A (evalPart e X.env) (fun u s'=>∃o H',Inv X pins σ H' s'/\IsPart u o/\Q o H') X.xe s
def Jb:TO:=fun _ H Q=>Q none H
def Ht (t:TE):TO:=fun σ H Q=>t σ H fun x H1=>∃i,x=.int i/\Q (some i) H1
section
variable {X:Cx} {e:dL} {te:TE} {lo hi:Option dL} {tl th:TO} {pos p2:ut}
theorem zt:PO X none Jb :=by
 intro pins s σ H Q I h
 rw [evalPart_none]
 exact ca ⟨none,H,I,.none,h⟩
theorem Jc (h:PE X e te):PO X (some e) (Ht te) :=by
 intro pins s σ H Q I hw
 rw [evalPart_some]
 refine thn (h pins s σ H _ I hw) fun u s1 ⟨x,H1,I1,r1,q1⟩=>?_
 obtain ⟨i,rfl,q⟩:=q1
 obtain ⟨t,rfl⟩:=r1
 exact ⟨some i,H1,I1,.int i t,q⟩
def TZ (X:Cx) (r:V->Option Int->Option Int->Hp->VK->Prop):Prop:=
 ∀(pins:List (ag×l3)) (s:ar) (σ:St) (H:Hp) (x:V) (v vl vu:ap) (lo hi:Option Int) (sl:ag) (Q:VK),Inv X pins σ H s->RelV x v->s.heap.IsSliceOf sl vl vu .none->IsPart vl lo->IsPart vu hi->r x lo hi H Q->
  ∃T id,typeLookup (.type T) "__getitem__" = pure (some (.builtin id))/\s.TypeIs v T/\wpAny (model X.prog X.w) X.A (getItem v (.ref sl)) (EP X pins σ Q) X.xe s
def Ax (xs:List V) (lo hi:Option Int):List V:=(xs.drop (HT.kG xs.length 0 lo)).take (HT.kG xs.length xs.length hi - HT.kG xs.length 0 lo)
theorem yF (xs:List V) (lo hi:Option Int):(Ax xs lo hi).length<=xs.length :=by
 unfold Ax
 rw [XC,List.length_drop]
 omega
end
def jK (n:Nat) (i:Int):Option Nat:=if 0<=i then (if i<n then some i.toNat else none) else if -(n:Int)<=i then some (i+n).toNat else none
def cY {α:Type} (xs:List α) (i:Int):Option α:=(jK xs.length i).bind fun j=>xs[j]?
theorem sW {n:Nat} {i:Int} {j:Nat} (h:jK n i=some j):seqIndex? i n=some j/\j<n /\ -(n:Int)<=i/\i<n :=by
 unfold jK at h
 by_cases h0:0<=i
 ·rw [if_pos h0] at h
  by_cases h1:i<n
  ·rw [if_pos h1] at h
   have e:i.toNat=j:=i4 h
   exact ⟨by rw [seqIndex_of h0 h1,e],by omega,by omega,h1⟩
  ·rw [if_neg h1] at h;cases h
 ·rw [if_neg h0] at h
  by_cases h1 : -(n:Int)<=i
  ·rw [if_pos h1] at h
   have e:(i+n).toNat=j:=i4 h
   exact ⟨by rw [seqIndex_neg (by omega) h1,e],by omega,h1,by omega⟩
  ·rw [if_neg h1] at h;cases h
theorem sX {α:Type} {xs:List α} {i:Int} {v:α} (h:cY xs i=some v):∃j,seqIndex? i xs.length=some j/\xs[j]?=some v/\j<xs.length /\ -(xs.length:Int)<=i/\i<xs.length :=by
 unfold cY at h
 cases e:jK xs.length i with
 |none=>rw [e] at h;cases h
 |some j=>
  rw [e] at h
  obtain ⟨h1,h2,h3,h4⟩:=sW e
  exact ⟨j,h1,h,h2,h3,h4⟩
theorem ez {α:Type} {xs:List α} {j:Nat} {v:α} (h:xs[j]?=some v):cY xs (j:Int)=some v :=by
 have hj:j<xs.length:=(bn.mp h).1
 have e:jK xs.length (j:Int)=some j :=by
  unfold jK
  rw [if_pos (by omega),if_pos (by omega)];simp
 unfold cY;rw [e];exact h
def zu (b:dL):Prop:=∀o i,subscripted b false o i=operate [o,i] (getItem o i)
def nX (X:Cx) (r:R2):Prop:=
 ∀(value slice:dL) (pins:List (ag×l3)) (s:ar) (σ:St) (H:Hp) (x y:V) (v u:ap) (Q:VK),Inv X pins σ H s->RelV x v->RelV y u->r x y H Q->
  subscripted slice false v u=operate [v,u] (getItem v u)->wpAny (model X.prog X.w) X.A (subscriptTail value slice v u) (EP X pins σ Q) X.xe s
def wj (X:Cx) (id:String) (r:V->List V->Hp->VK->Prop):Prop:=
 ∀(pins:List (ag×l3)) (s:ar) (σ:St) (H:Hp) (x:V) (xs:List V) (v:ap) (us:List ap) (Q:VK),Inv X pins σ H s->RelV x v->Vals xs us->r x xs H Q->
  wpAny (model X.prog X.w) X.A (call (.builtin id) (v::us)) (EP X pins σ Q) X.xe s
section
variable {X:Cx} {a b:dL} {ta tb:TE} {pos:ut}
theorem nX.or {r r':R2} (h:nX X r) (h':nX X r'):nX X (fun x y H Q=>r x y H Q\/r' x y H Q) :=by
 intro value slice pins s σ H x y v u Q I rx ry q hs
 rcases q with q|q
 ·exact h value slice pins s σ H x y v u Q I rx ry q hs
 ·exact h' value slice pins s σ H x y v u Q I rx ry q hs
theorem Pt {r:R2} (hr:nX X r) (ha:PE X a ta) (hb:PE X b tb) (hs:zu b):PE X (.Subscript a b pos) (Cj r ta tb) :=by
 refine ⟨?_⟩
 intro pins s σ H Q I h
 exact Subscript_ (Fi ha hb I h fun v u s2 x y H2 I2 rx ry q=>hr a b pins s2 σ H2 x y v u Q I2 rx ry q (hs _ _))
def LJ (K:ba):R2:=fun x y H Q=>∃p xs i v,x=.ref p/\y=.int i/\bH K H p xs/\cY xs i=some v/\Q v H
def LK (K:ba):R2:=fun x y H Q=>∃p xs i v,x=.ref p/\y=.int i/\dh K H p xs/\cY xs i=some v/\Q v H
def LL:R2:=fun x y H Q=>∃z i c,x=.str z/\y=.int i/\z.length<=sizeLine/\cY z.cps.toList i=some c/\Q (.str ⟨#[c]⟩) H
theorem Jd:nX X (LJ X.K) :=by
 intro value slice pins s σ H x y v u Q I rx ry h hs
 obtain ⟨p,xs,i,z,rfl,rfl,hq,he,q⟩:=h
 cases rx
 obtain ⟨t,rfl⟩:=ry
 obtain ⟨its,r,pl,hz⟩:=I.list hq
 obtain ⟨j,h1,h2,h3,h4,h5⟩:=sX he
 obtain ⟨w,ew,f9⟩:=r.get h2
 have hl:=r.length
 have hn:=mw
 have fin:EP X pins σ Q w s:=⟨z,H,I,f9,q⟩
 by_cases h0:0<=i
 ·have hj:i.toNat=j :=by
   rw [seqIndex_of h0 h5] at h1
   exact i4 h1
  exact item_listR pl.isList h0 (by omega) (by rw [hj];simpa using ew) fin hs
 ·have hj:(i+(its.toArray.size:Int)).toNat=j :=by
   rw [seqIndex_neg (by omega) h4] at h1
   rw [cr,<- hl]
   exact i4 h1
  exact subscriptTail_builtinR (x:=w) pl.isList.typeIs Xs.lookup
   (wpAny_getItem_list_neg (Q:=fun r s'=>r=w/\EP X pins σ Q r s') pl.isList (by omega) (by rw [cr] <;> omega) (by omega) (by rw [hj];simpa using ew) ⟨rfl,fin⟩) hs
theorem LN:nX X (LK X.K) :=by
 intro value slice pins s σ H x y v u Q I rx ry h hs
 obtain ⟨p,xs,i,z,rfl,rfl,hq,he,q⟩:=h
 cases rx
 obtain ⟨t,rfl⟩:=ry
 obtain ⟨its,r,pl,hz⟩:=I.tuple hq
 obtain ⟨j,h1,h2,h3,h4,h5⟩:=sX he
 obtain ⟨w,ew,f9⟩:=r.get h2
 have hl:=r.length
 have hn:=mw
 have fin:EP X pins σ Q w s:=⟨z,H,I,f9,q⟩
 exact subscriptTail_builtinR (x:=w) pl.typeIs slot_tuple_getitem.lookup
  (getItem_tuple (j:=j) (Q:=fun r s'=>r=w/\EP X pins σ Q r s') pl (by omega) (by omega) (by rw [cr,<- hl];exact h1) (by simpa using ew) ⟨rfl,fin⟩) hs
theorem LO:nX X LL :=by
 intro value slice pins s σ H x y v u Q I rx ry h hs
 obtain ⟨z,i,c,rfl,rfl,hz,he,q⟩:=h
 obtain ⟨t,rfl⟩:=rx
 obtain ⟨t',rfl⟩:=ry
 obtain ⟨j,h1,h2,h3,h4,h5⟩:=sX he
 have hl:z.cps.toList.length=z.length :=by simp [br.length]
 rw [hl] at h1 h4 h5
 have hn:=mw
 exact tail_any (typeIs_str s z t) slot_str_getitem.lookup (getItem_str (c:=c) (by
  have e1:decide (i < -(2 ^ 63:Int))=false:=decide_eq_false (by omega)
  have e2:decide (i ≥ 2 ^ 63)=false:=decide_eq_false (by omega)
  rw [e1,e2,Bool.or_false]) (by rw [h1];simpa using h2) ⟨.str ⟨#[c]⟩,H,I.tok _,⟨_,rfl⟩,q⟩) hs
def QP (K:ba):R2:=fun x y H Q=>LJ K x y H Q\/LK K x y H Q\/LL x y H Q
theorem LQ:nX X (QP X.K):=Jd.or (LN.or LO)
theorem Ay (its:List ap) (n j:Nat) (u:ap):ES (·.setIfInBounds j u) {cls:=.type "list",data:=.seq its.toArray n}={cls:=.type "list",data:=.seq (its.set j u).toArray n}:=by
 simp [ES]
theorem Inv.lst {pins:List (ag×l3)} {σ:St} {H:Hp} {s:ar} {p:ag} {xs:List V} (I:Inv X pins σ H s) (h:H p=some (.lst xs)) :
  ∃(its:List ap) (n:Nat),Vals xs its/\s.heap.get? p=some {cls:=.type "list",data:=.seq its.toArray n}/\xs.length<=sizeLine :=by
 obtain ⟨z,its,n,r,e⟩:=I.hok p _ h
 exact ⟨its,n,r,e,z⟩
theorem Inv.LR {pins:List (ag×l3)} {σ:St} {H:Hp} {s:ar} {p:ag} {xs ys:List V} {its its':List ap} {n n':Nat} {f:l3->l3} (I:Inv X pins σ H s) (h:H p=some (.lst xs))
  (ho:s.heap.get? p=some {cls:=.type "list",data:=.seq its.toArray n}) (hf:f {cls:=.type "list",data:=.seq its.toArray n}={cls:=.type "list",data:=.seq its'.toArray n'}) (r:Vals ys its') (hz:ys.length<=sizeLine) (t:Nat) :
  Inv X pins σ (upd H p (.lst ys)) {s with heap:=s.heap.update p f,toks:=t}:=by
 have e:(s.heap.update p f).get? p=some {cls:=.type "list",data:=.seq its'.toArray n'}:=by
  rw [B0 f ho (by rw [hf] <;> rfl),hf]
 refine I.write (x:=p) (e:=p) (by rw [h];trivial) (.inl rfl) (fun b u hb q=>(BN _ _ (wE hb)).trans q) ⟨_,e⟩ ?_
 exact ⟨hz,its',n',r,e⟩
def Pu:V->V->V->Hp->(Hp->Prop)->Prop:=fun o i v H Q=>∃p xs k j,o=.ref p/\i=.int k/\H p=some (.lst xs)/\jK xs.length k=some j/\Q (upd H p (.lst (xs.set j v)))
theorem set_list:K6 X Pu :=by
 intro pins s σ H o i v ov iv u Q I ro ri rv h
 obtain ⟨p,xs,k,j,rfl,rfl,hp,hj,q⟩:=h
 cases ro
 obtain ⟨t,rfl⟩:=ri
 obtain ⟨its,n,r,ho,hz⟩:=I.lst hp
 obtain ⟨h1,h2,h3,h4⟩:=sW hj
 have hl:=r.length
 have hn:=mw
 have I':Inv X pins σ (upd H p (.lst (xs.set j v))) {s with heap:=s.heap.update p (ES (·.setIfInBounds j u))}:=
  I.LR hp ho (Ay its n j u) (r.set rv j) (by rw [TD];exact hz) s.toks
 by_cases h0:0<=k
 ·have hk:k.toNat=j :=by
   rw [seqIndex_of h0 h4] at h1
   exact i4 h1
  exact PySem.W.ki_setAt ho h0 (by omega) (by rw [cr,<- hl];exact h4) (by rw [hk];exact ⟨_,I',q⟩)
 ·have hk:(k+(its.toArray.size:Int)).toNat=j :=by
   rw [seqIndex_neg (by omega) h3] at h1
   rw [cr,<- hl]
   exact i4 h1
  exact PySem.W.ki_setBack ho (by omega) (by rw [cr,<- hl];exact h3) (by omega) (by rw [hk];exact ⟨_,I',q⟩)
theorem wk (lo hi:Option Int) (n:Nat):(sliceBounds lo hi none n).1=((HT.kG n 0 lo:Nat):Int)/\(sliceBounds lo hi none n).2.1=((HT.kG n n hi:Nat):Int)/\(sliceBounds lo hi none n).2.2=1 :=by
 refine ⟨?_,?_,rfl⟩
 ·cases lo with
  |none=>simp [sliceBounds,HT.kG]
  |some i=>
   simp only [sliceBounds,HT.kG,Option.getD_none,show (1:Int) > 0 by decide,if_true]
   by_cases h:i<0
   ·simp only [h,if_true] <;> omega
   ·simp only [h,if_false] <;> omega
 ·cases hi with
  |none=>simp [sliceBounds,HT.kG]
  |some i=>
   simp only [sliceBounds,HT.kG,Option.getD_none,show (1:Int) > 0 by decide,if_true]
   by_cases h:i<0
   ·simp only [h,if_true] <;> omega
   ·simp only [h,if_false] <;> omega
theorem vn (its:List ap) (lo hi:Option Int):slicePick its.toArray lo hi none=((its.drop (HT.kG its.length 0 lo)).take (HT.kG its.length its.length hi - HT.kG its.length 0 lo)).toArray :=by
 obtain ⟨h1,h2,h3⟩:=wk lo hi its.toArray.size
 unfold slicePick
 rw [h1,h2,h3]
 simp only [sliceRange_one,pick_run,cr] <;> rfl
def SJ (K:ba):V->Option Int->Option Int->Hp->VK->Prop:=fun x lo hi H Q=>∃a xs,x=.ref a/\bH K H a xs/\∀p,H p=none->Q (.ref p) (upd H p (.lst (Ax xs lo hi)))
theorem TF:TZ X (SJ X.K) :=by
 intro pins s σ H x v vl vu lo hi sl Q I rx hs pl pu h
 obtain ⟨a,xs,rfl,hx,q⟩:=h
 cases rx
 obtain ⟨its,r,ht,hz⟩:=I.list hx
 have hlen:=r.length
 refine ⟨"list",_,Xs.lookup,ht.isList.typeIs,?_⟩
 refine wpAny_getItem_list_slice ht.isList hs pl pu .none (by simp) ?_ (by rw [cr] <;> omega)
 rw [vn,<- hlen]
 refine ⟨.ref s.heap.objs.size,_,I.laid (t':=s.toks) (o:=.lst (Ax xs lo hi)) (fun b ob q=>bv _ q) (ce _) ?_,rfl,q _ (I.hok.fresh (ce _))⟩
 exact ⟨ln (yF xs lo hi) hz,_,0,(r.drop (HT.kG xs.length 0 lo)).take (HT.kG xs.length xs.length hi - HT.kG xs.length 0 lo),en _ rfl⟩
theorem wm:cq X (.type "list") (fun xs H Q=>∃p ys,xs=[.ref p]/\(bH X.K H p ys\/dh X.K H p ys)/\∀l,H l=none->Q (.ref l) (upd H l (.lst ys))) :=by
 intro pins s σ H xs us Q I r h
 obtain ⟨p,ys,rfl,hq,q⟩:=h
 obtain ⟨u,rfl,rx⟩:=vals1 r
 cases rx
 have fin:∀(its:List ap),Vals ys its->ys.length<=sizeLine->∀(h':ij) (c':Nat),(∀b o',s.heap.get? b=some o'->h'.get? b=some o')->
   h'.get? s.heap.objs.size=some {cls:=.type "list",dict:=none,data:=.seq its.toArray c',slots:=#[]}->EP X pins σ Q (.ref s.heap.objs.size) {s with heap:=h'}:=fun its r' hz h' c' kp e=>
  ⟨.ref s.heap.objs.size,_,I.laid (t':=s.toks) kp (ce _) (show ObjOk X.prog X.w _ h' _ (.lst ys) from ⟨hz,its,c',r',e⟩),rfl,q _ (I.hok.fresh (ce _))⟩
 rcases hq with hq|hq
 ·obtain ⟨its,r',pl,hz⟩:=I.list hq
  have hlen:=r'.length
  obtain ⟨o,ho,hc,n,hd⟩:=pl.isList
  exact call_list_seq p (.inl rfl) ho hc hd (fun h' c' kp e=>fin its r' hz h' c' kp e) (by simp only [cr] <;> omega)
 ·obtain ⟨its,r',pl,hz⟩:=I.tuple hq
  have hlen:=r'.length
  obtain ⟨o,ho,hc,n,hd⟩:=pl
  exact call_list_seq p (.inr rfl) ho hc hd (fun h' c' kp e=>fin its r' hz h' c' kp e) (by simp only [cr] <;> omega)
theorem vo:cq X (.type "tuple") (fun xs H Q=>∃p ys,xs=[.ref p]/\((bH X.K H p ys/\∀l,H l=none->Q (.ref l) (upd H l (.tup ys)))\/(dh X.K H p ys/\Q (.ref p) H))) :=by
 intro pins s σ H xs us Q I r h
 obtain ⟨p,ys,rfl,h⟩:=h
 obtain ⟨u,rfl,rx⟩:=vals1 r
 cases rx
 rcases h with ⟨hq,q⟩|⟨hq,q⟩
 ·obtain ⟨its,r',pl,hz⟩:=I.list hq
  have hlen:=r'.length
  refine call_tuple_list pl.isList (fun h' kp=>?_) (by simp only [cr] <;> omega)
  have I1:Inv X pins σ H {s with heap:=h'}:=I.kept (t':=s.toks) kp
  have I2:Inv X pins σ (upd H h'.objs.size (.tup ys)) {s with heap:=h'.push {cls:=.type "tuple",data:=.seq its.toArray}}:=
   I1.laid (t':=s.toks) (fun b o e=>bv _ e) (ce _) (show ObjOk X.prog X.w _ _ _ (.tup ys) from ⟨hz,its,r',mP.new _ _⟩)
  exact ⟨.ref h'.objs.size,_,I2,rfl,q _ (I1.hok.fresh (ce _))⟩
 ·obtain ⟨its,r',pl,hz⟩:=I.tuple hq
  exact call_tuple_same pl ⟨.ref p,H,I,rfl,q⟩
def Hu (K:ba) (T:String) (x:V) (H:Hp):Prop:=match x with
 | .str _=>T = "str"
 | .int _=>T = "int"
 | .ref p=>(T = "list" /\ ∃xs,bH K H p xs)\/(T = "tuple" /\ ((∃o,K.lookup p=some o/\o.cls=.type "tuple" /\ o.dict=none)\/∃xs,H p=some (.tup xs))) \/
   (T = "dict" /\ ((∃av,H p=some (.dK av))\/∃av,H p=some (.dT av)))\/(T = "set" /\ ∃S n,H p=some (.set S n))
 |_=>False
theorem Cy {pins:List (ag×l3)} {σ:St} {H:Hp} {s:ar} {T:String} {x:V} {v:ap} (I:Inv X pins σ H s) (r:RelV x v) (ty:Hu X.K T x H) :
  s.TypeIs v T/\∀a,v=.ref a->∃ob,s.heap.get? a=some ob/\ob.dict=none :=by
 cases x with
 |str z=>
  obtain ⟨t,rfl⟩:=r
  cases (show T = "str" from ty)
  exact ⟨typeIs_str s z t,fun _ e=>nomatch e⟩
 |int i=>
  obtain ⟨t,rfl⟩:=r
  cases (show T = "int" from ty)
  exact ⟨typeIs_int s i t,fun _ e=>nomatch e⟩
 |ref p=>
  cases r
  rcases ty with ⟨rfl,xs,hq⟩|⟨rfl,⟨o,hk,hc,hd⟩|⟨xs,hk⟩⟩|⟨rfl,hk⟩|⟨rfl,S,n,hk⟩
  ·obtain ⟨its,_,pl,_⟩:=I.list hq
   refine ⟨pl.isList.typeIs,fun a e=>?_⟩
   cases e
   obtain ⟨o,n,e,c,hd,_⟩:=pl
   exact ⟨o,e,hd⟩
  ·refine ⟨⟨o,I.jH p o hk,hc⟩,fun a e=>?_⟩
   cases e
   exact ⟨o,I.jH _ o hk,hd⟩
  ·obtain ⟨_,its,_,o,e,c,n,d,hd⟩:=I.hok p _ hk
   refine ⟨⟨o,e,c⟩,fun a e2=>?_⟩
   cases e2
   exact ⟨o,e,hd⟩
  ·have z:∃o,s.heap.get? p=some o/\o.ExactDict :=by
    rcases hk with ⟨av,hk⟩|⟨av,hk⟩
    ·obtain ⟨_,_,_,_,o,_,_,e,ex,_⟩:=I.hok p _ hk
     exact ⟨o,e,ex⟩
    ·obtain ⟨_,_,_,_,o,_,_,e,ex,_⟩:=I.hok p _ hk
     exact ⟨o,e,ex⟩
   obtain ⟨o,e,ex⟩:=z
   refine ⟨⟨o,e,ex.1⟩,fun a e2=>?_⟩
   cases e2
   exact ⟨o,e,ex.2.1⟩
  ·obtain ⟨o,_,_,_,e,ex,_⟩:=I.hok p _ hk
   refine ⟨⟨o,e,ex.1⟩,fun a e2=>?_⟩
   cases e2
   exact ⟨o,e,ex.2.1⟩
 |_=>exact LB ty
def LU (K:ba) (T:String) (r:V->List V->Hp->VK->Prop) (to:TE):TE:=fun σ H Q=>to σ H fun x H1=>Hu K T x H1/\r x [] H1 Q
def QR (K:ba) (T:String) (r:V->List V->Hp->VK->Prop) (to:TE) (t:TA):TE:=fun σ H Q=>to σ H fun x H1=>Hu K T x H1/\t σ H1 fun xs H2=>r x xs H2 Q
variable {o e:dL} {es:List dL} {to:TE} {t:TA} {name:br} {apos aU:ut} {T id:String} {r:V->List V->Hp->VK->Prop}
theorem LV (pa:SS T) (slot:X6 T name id) (kI:typeOf (.builtin id)=pure (.type "method_descriptor")) (hm:wj X id r) (ho:PE X o to)
  (fD:attributeBase o name X.env (eval o X.env)=eval o X.env :=by rfl) (hline:(apos.endLine==aU.line)=true :=by rfl):PE X (.Call (.Attribute o name apos) [] [] aU) (LU X.K T r to) :=by
 refine ⟨?_⟩
 intro pins s σ H Q I h
 refine wpAny_Call_method0_late fD hline (thn (ho pins s σ H _ I h) fun v s1 ⟨x,H1,I1,r1,ty,q1⟩=>?_)
 obtain ⟨h1,h2⟩:=Cy I1 r1 ty
 exact ⟨T,id,pa,slot,kI,h1,h2,WC rfl (PySem.evalArgs_none (hm pins s1 σ H1 x [] v [] Q I1 r1 .nil q1))⟩
theorem Pw (pa:SS T) (slot:X6 T name id) (kI:typeOf (.builtin id)=pure (.type "method_descriptor")) (hm:wj X id r) (ho:PE X o to) (ha:PA X (e::es) t)
  (fD:attributeBase o name X.env (eval o X.env)=eval o X.env :=by rfl)
  (mS:((backTo aU (starEach (e::es) X.env)).all (fun x => !x.1) && (backToKw aU (keywordEach [] X.env)).all (fun x=>x.1.isSome)
   && decide ((e::es).length+([]:List No).length+(if ([]:List No).isEmpty then 0 else 1)<30))=true :=by rfl)
  (hline:(apos.endLine==aU.line)=true :=by rfl) (hs:starEach (e::es) X.env=(false,eval e X.env)::starEach es X.env :=by rfl) (iQ:(backTo aU (starEach es X.env)).any (·.1)=false :=by rfl) :
  PE X (.Call (.Attribute o name apos) (e::es) [] aU) (QR X.K T r to t) :=by
 refine ⟨?_⟩
 intro pins s σ H Q I h
 refine wpAny_Call_method_late fD mS hline rfl (thn (ho pins s σ H _ I h) fun v s1 ⟨x,H1,I1,r1,ty,q1⟩=>?_)
 obtain ⟨h1,h2⟩:=Cy I1 r1 ty
 refine ⟨T,id,pa,slot,kI,h1,h2,?_⟩
 have hA:=ha aU pins s1 σ H1 _ I1 q1
 rw [hs] at hA ⊢
 refine WC (by show (false || (backTo aU (starEach es X.env)).any (·.1))=false;rw [iQ] <;> rfl) (WS ?_)
 exact thn hA fun us s2 ⟨vs,H2,I2,r2,q2⟩=>hm pins s2 σ H2 x vs v us Q I2 r1 r2 q2
end
def Hv (X:Cx) (id:String) (r:V->List V->Hp->VK->Prop):Prop:=
 ∀(pins:List (ag×l3)) (s:ar) (σ:St) (H:Hp) (x:V) (xs:List V) (v:ap) (us:List ap) (Q:VK),Inv X pins σ H s->RelV x v->Vals xs us->r x xs H Q->
  wpAny (model X.prog X.w) X.A (call (.builtin id) (v::us)) (EP X pins σ Q) X.xe s
theorem Vals.one:∀{x:V} {us:List ap},Vals [x] us->∃u,us=[u]/\RelV x u
 |_,_,.cons r .nil=>⟨_,rfl,r⟩
theorem Vals.zero:∀{us:List ap},Vals [] us->us=[]
 |_,.nil=>rfl
theorem Vals.dropLast {xs:List V} {us:List ap} (h:Vals xs us):Vals xs.dropLast us.dropLast :=by
 induction h with
 |nil=>exact .nil
 |cons r t ih=>
  cases t with
  |nil=>exact .nil
  |cons q t'=>exact .cons r ih
theorem Vals.eraseIdx:∀{xs:List V} {us:List ap} (i:Nat),Vals xs us->Vals (xs.eraseIdx i) (us.eraseIdx i)
 |_,_,_,.nil=>.nil
 |_,_,0,.cons _ t=>t
 |_,_,i+1,.cons r t=>.cons r (Vals.eraseIdx i t)
theorem Vals.reverse {xs:List V} {us:List ap} (h:Vals xs us):Vals xs.reverse us.reverse :=by
 induction h with
 |nil=>exact .nil
 |cons r t ih=>rw [Xt,Xt];exact Vals.append ih (.cons r .nil)
theorem Az {α:Type} (l:List α):l.eraseIdx (l.length - 1)=l.dropLast :=by
 induction l with
 |nil=>rfl
 |cons a r ih=>
  cases r with
  |nil=>rfl
  |cons b r=>
   have e:(a::b::r).length - 1=((b::r).length - 1)+1 :=by
    have h1:(a::b::r).length=r.length+2:=rfl
    have h2:(b::r).length=r.length+1:=rfl
    omega
   rw [e,List.eraseIdx_cons_succ,ih]
   all_goals rfl
theorem uq {α:Type}:∀(l:List α) (i:Nat),(l.eraseIdx i).length<=l.length
 | [],_=>ce _
 |_::_,0=>DO _
 |_::r,i+1=>Nat.succ_le_succ (uq r i)
section
variable {X:Cx} {pins:List (ag×l3)} {σ:St} {H:Hp} {s:ar} {l b:ag} {xs ys zs:List V}
theorem Inv.AA {its its':List ap} {n:Nat} {f:Array ap->Array ap} {t':Nat} (I:Inv X pins σ H s) (hH:H l=some (.lst xs))
  (e:s.heap.get? l=some {cls:=.type "list",data:=.seq its.toArray n}) (hf:f its.toArray=its'.toArray) (hv:Vals ys its') (hz:ys.length<=sizeLine) :
  Inv X pins σ (upd H l (.lst ys)) {s with heap:=s.heap.update l (ES f),toks:=t'}:=by
 have q:=PySem.IsL.update e f
 rw [hf] at q
 refine I.write (x:=l) (e:=l) (by rw [hH];exact trivial) (.inl rfl) (fun b' u hb hu=>(BN s.heap (ES f) (wE hb)).trans hu) ⟨_,q⟩ ?_
 exact ⟨hz,its',_,hv,q⟩
theorem Inv.SK {its:List ap} {t':Nat} (I:Inv X pins σ H s) (hv:Vals ys its) (hz:ys.length<=sizeLine) :
  Inv X pins σ (upd H s.heap.objs.size (.lst ys)) {s with heap:=s.heap.push {cls:=.type "list",data:=.seq its.toArray},toks:=t'}:=
 I.laid (fun _ _ q=>bv _ q) (ce _) ⟨hz,its,0,hv,en _ rfl⟩
theorem Inv.fresh (I:Inv X pins σ H s):H s.heap.objs.size=none:=I.hok.fresh (ce _)
theorem Inv.qu (I:Inv X pins σ H s) (hH:H l=some (.lst xs)):xs.length<=sizeLine/\∃(its:List ap) (n:Nat),Vals xs its/\xs.length=its.length/\s.heap.get? l=some {cls:=.type "list",data:=.seq its.toArray n}:=by
 obtain ⟨z,its,n,r,e⟩:=I.hok l _ hH
 exact ⟨z,its,n,r,r.length,e⟩
theorem Fv {n:Nat} (h:n<=sizeLine):US n=false :=by
 unfold US
 exact decide_eq_false (by omega)
end
section
variable {X:Cx}
def Je:V->List V->Hp->VK->Prop:=fun x vs H Q=>∃l xs y,x=.ref l/\vs=[y]/\H l=some (.lst xs)/\xs.length<sizeLine/\Q .au (upd H l (.lst (xs++[y])))
theorem ur:Hv X "list.append" Je :=by
 intro pins s σ H x vs v us Q I rx rv h
 obtain ⟨l,xs,y,rfl,rfl,hH,hz,q⟩:=h
 cases rx
 obtain ⟨u,rfl,ru⟩:=rv.one
 obtain ⟨z,its,n,r,hl,e⟩:=I.qu hH
 refine X7 F.slot_list_append ⟨_,e,rfl⟩ F.entry_list_append (F.args_list_append_2 _ _) (PySem.list_append l its.toArray n u (by rw [cr];omega)) ⟨e,?_⟩
 refine ⟨.au,_,I.AA (its':=its++[u]) hH e (by simp) (r.append (.cons ru .nil)) ?_,rfl,q⟩
 rw [mf,Cc]
 omega
def Jf:V->List V->Hp->VK->Prop:=fun x vs H Q=>∃l b xs zs,x=.ref l/\vs=[.ref b]/\H l=some (.lst xs)/\H b=some (.lst zs)/\xs.length+zs.length<=sizeLine/\Q .au (upd H l (.lst (xs++zs)))
theorem Cz:Hv X "list.extend" Jf :=by
 intro pins s σ H x vs v us Q I rx rv h
 obtain ⟨l,b,xs,zs,rfl,rfl,hH,hB,hz,q⟩:=h
 cases rx
 obtain ⟨u,rfl,ru⟩:=rv.one
 cases ru
 obtain ⟨z,its,n,r,hl,e⟩:=I.qu hH
 obtain ⟨z2,cA,n2,r2,iR,e2⟩:=I.qu hB
 have hsz:its.toArray.size+cA.toArray.size<=sizeLine :=by rw [cr,cr];omega
 have Px:¬ (!its.toArray.isEmpty && US (its.toArray.size+cA.toArray.size))=true :=by
  rw [Fv hsz,W6]
  exact im
 refine X7 F.slot_list_extend ⟨_,e,rfl⟩ F.entry_list_extend (F.args_list_extend_2 _ _)
  (AutoSeq1.list_extend_list_list_0 l its.toArray n b cA.toArray n2 Px (by rw [cr];omega) (by omega)) ⟨e,e2,?_⟩
 refine ⟨.au,_,I.AA (its':=its++cA) hH e (by simp) (r.append r2) ?_,rfl,q⟩
 rw [mf]
 omega
def SN:V->List V->Hp->VK->Prop:=fun x vs H Q=>∃l xs y,x=.ref l/\vs=[]/\H l=some (.lst xs)/\xs[xs.length - 1]?=some y/\Q y (upd H l (.lst xs.dropLast))
theorem LX:Hv X "list.pop" SN :=by
 intro pins s σ H x vs v us Q I rx rv h
 obtain ⟨l,xs,y,rfl,rfl,hH,hy,q⟩:=h
 cases rx
 have T4:=rv.zero
 subst T4
 obtain ⟨z,its,n,r,hl,e⟩:=I.qu hH
 obtain ⟨u,hu,ru⟩:=r.get hy
 have LY:its.toArray[its.toArray.size - 1]?=some u :=by
  show its.toArray[its.length - 1]?=some u
  rw [<- SB,<- hl]
  exact hu
 refine X7 F.slot_list_pop ⟨_,e,rfl⟩ F.entry_list_pop (F.args_list_pop_1 _) (MeetsSeq.list_pop_last l its.toArray n u LY (by rw [cr];omega)) ⟨e,?_⟩
 refine ⟨y,_,I.AA (its':=its.dropLast) hH e ?_ r.dropLast ?_,ru,q⟩
 ·show its.toArray.eraseIdxIfInBounds (its.toArray.size - 1)=its.dropLast.toArray
  rw [cr,List.eraseIdxIfInBounds_toArray,Az]
 ·rw [List.length_dropLast]
  omega
def LZ:V->List V->Hp->VK->Prop:=fun x vs H Q=>∃l xs i k y,x=.ref l/\vs=[.int i]/\H l=some (.lst xs) /\ -(2 ^ 63)<=i/\i<2 ^ 63/\seqIndex? i xs.length=some k/\xs[k]?=some y/\Q y (upd H l (.lst (xs.eraseIdx k)))
theorem Fw:Hv X "list.pop" LZ :=by
 intro pins s σ H x vs v us Q I rx rv h
 obtain ⟨l,xs,i,k,y,rfl,rfl,hH,h1,h2,hk,hy,q⟩:=h
 cases rx
 obtain ⟨u,rfl,ru⟩:=rv.one
 obtain ⟨t,rfl⟩:=ru
 obtain ⟨z,its,n,r,hl,e⟩:=I.qu hH
 obtain ⟨w,hw,f9⟩:=r.get hy
 refine X7 F.slot_list_pop ⟨_,e,rfl⟩ F.entry_list_pop (F.args_list_pop_2 _ _)
  (MeetsSeq.list_pop_at l its.toArray n i t k w (fitsIndex_both h1 h2) (by rw [cr,<- hl];exact hk) (by rw [<- SB];exact hw) (by rw [cr];omega)) ⟨e,?_⟩
 refine ⟨y,_,I.AA (its':=its.eraseIdx k) hH e ?_ (r.eraseIdx k) ?_,f9,q⟩
 ·show its.toArray.eraseIdxIfInBounds k=(its.eraseIdx k).toArray
  rw [List.eraseIdxIfInBounds_toArray]
 ·have:=uq xs k
  omega
def SQ:R2:=fun x y H Q=>∃l b xs zs,x=.ref l/\y=.ref b/\H l=some (.lst xs)/\H b=some (.lst zs)/\xs.length+zs.length<=sizeLine/\∀p,H p=none->Q (.ref p) (upd H p (.lst (xs++zs)))
theorem L0:OpR X (binaryOp .Add) SQ :=by
 intro pins s σ H x y v u Q I rx ry h
 obtain ⟨l,b,xs,zs,rfl,rfl,hH,hB,hz,q⟩:=h
 cases rx
 cases ry
 obtain ⟨z,its,n,r,hl,e⟩:=I.qu hH
 obtain ⟨z2,cA,n2,r2,iR,e2⟩:=I.qu hB
 refine PySem.P.add_list e e2 ?_ (by rw [cr,cr];omega)
 have ea:its.toArray++cA.toArray=(its++cA).toArray :=by simp
 rw [ea]
 exact ⟨.ref _,_,I.SK (t':=s.toks) (r.append r2) (by rw [mf];omega),rfl,q _ I.fresh⟩
end
end L2
namespace QU
open PySem PySem.W PySem.Calls PyProof.Rows
theorem rn {P:Ya} {h:ij}:∀(ns:List Int) (vs:List ap),WellAll P h vs (ns.map WData.int)->Me vs ns :=by
 intro ns
 induction ns with
 |nil=>
  intro vs w
  rw [UV] at w
  cases w
  exact .nil
 |cons n ns ih=>
  intro vs w
  rw [nw] at w
  cases w with
  |cons a b=>
   cases a
   exact .cons _ _ (ih _ b)
theorem CA {l:OpenLaw} {n:Nat} (hn:l.most=some n) {P:Ya} {h:ij} {args:List WData} {vals:List ap}
  (AB:l.row.toRowW.claim.pre args=true) (L1:WellAll P h vals args) :
  ∃a vs ns,vals=[mT a]/\args=[WData.list (ns.map WData.int)]/\h.get? a=some {cls:=.type "list",data:=.seq vs.toArray}/\Me vs ns/\ns.length<=n :=by
 have T5:WShape.hasAll [] args [.list .int]=true:=(pre_splitW AB).1
 have hc:l.pre.holds [] {args:=args}=true:=(pre_splitW AB).2
 obtain ⟨d,r,rfl,h1,h2⟩:=hasAllW_cons T5
 obtain rfl:=hasAllW_nil h2
 obtain ⟨xs,rfl,h3⟩:=hasW_list h1
 obtain ⟨ns,rfl⟩:=items_int h3
 have hlen:ns.length<=n :=by
  unfold OpenLaw.pre at hc
  have h4:(WTm.not (.lt (.lit (.int (n:Int))) (.len (.arg 0)))).holds [] {args:=[.list (ns.map .int)]}=true :=by
   have h4:=(holds_andW hc).1
   rw [hn] at h4
   exact h4
  have h5:=condW_of h4 (w_not (w_lt w_lit (w_len_list (w_arg rfl))))
  rw [cb] at h5
  refine WH fun q=>?_
  have q':(n:Int)<((ns.length:Nat):Int) :=by omega
  first
   |(rw [decide_eq_true q'] at h5;exact absurd h5 (by decide))
   |(simp at h5;omega)
 cases L1 with
 |cons w1 w2=>
  cases w2
  cases w1 with
  |list ho SR=>exact ⟨_,_,ns,rfl,rfl,ho,rn ns _ SR,hlen⟩
theorem CB (l:OpenLaw) (args:List WData):l.row.toRowW.claim.post args (.bool true) args=true:=
 postW_of (r:=l.row.toRowW) (X:=(true==true))
  (show WShape.has [] (.bool true) .bool=true by first|rfl|decide|simp [WShape.has,WShape.arms,WShape.armsAll])
  (show (WTm.eq .res (.lit (.bool true))).value [] {args:=args,res:=some (.bool true),after:=args}=some (.bool (true==true)) from w_eq_bool (w_res rfl) w_lit) rfl
theorem yG {l:OpenLaw} {n:Nat} {q:gc} {loose:List br} {XP:(br->Option ap)->ij->Prop} {YP:i0->ij->Prop} {d:DefRec}
  (hn:l.most=some n) (CC:d.params.defaults=[])
  (call:∀(w:i0) (s₀ aD:ar) (mg mb:br->Option ap) (fa:ag) (o:l3) (pm cd doc:ap) (a:ag) (vs:List ap) (ns:List Int),
   Ground q loose [] XP w s₀ mg mb aD.heap->YP w aD.heap->
   aD.heap.get? fa=some o->o.data=.func (docDef d.name d.params d.body d.scope pm cd doc)->aD.heap.CodeRec cd d.name->mg d.name=some (.ref fa)->
   aD.heap.get? a=some {cls:=.type "list",data:=.seq vs.toArray}->Me vs ns->ns.length<=n->aD.gens=#[]->
   codeAny (model l.prog w) callerA (.call (.ref fa) ⟨[.ref a],[]⟩) (fun r s'=>r=.ok (.ret (.bool true))/\OldK aD.heap s'.heap/\s'.os=aD.os/\X3 s'.gens) aD) :
  WalkO q loose XP YP l.row.toRowW d [] (fun f vs=>X5 f vs) :=by
 intro w s₀ aD mg mb G Y fa o pm cd doc dV kV ho hd iO hD CD hg args vals as AB VM VU L1 VV
 obtain rfl:dV=.none:=Dflts.none hD CC
 obtain rfl:kV=.none:=Dflts.noKw hD
 obtain ⟨a,vs,ns,rfl,rfl,Fx,hints,hlen⟩:=CA hn AB L1
 refine enter_call (WQ (call w s₀ aD mg mb fa o pm cd doc a vs ns G Y ho (fd_plain hd) iO CD Fx hints hlen hg) fun r s' hq=>?_)
 obtain ⟨rfl,h2,h3,h4⟩:=hq
 exact ⟨.inl ⟨.bool true,.bool true,[],rfl,fun _=>rfl,.bool true,CB l _,fun _=>⟨Xj.nil,fun _ hm=>(nomatch hm)⟩⟩,h2,h3,h4⟩
end QU
namespace L2
open PySem PySem.Spec PyProof.Rows
theorem uv:∀{vs:List ap} {ns:List Int},Me vs ns->Vals (ns.map V.int) vs
 |_,_,.nil=>.nil
 |_,_,.cons n t h=>.cons ⟨t,rfl⟩ (uv h)
def iD (s:tz):Arguments:=match s with
 | .FunctionDef _ a _ _ _ _ _ _ _ _=>a
 |_=>{posonlyargs:=[],args:=[],vararg:=none,kwonlyargs:=[],kw_defaults:=[],kwarg:=none,defaults:=[]}
def eA (s:tz):List tz:=match s with
 | .FunctionDef _ _ b _ _ _ _ _ _ _=>b
 |_=>[]
def ai (s:tz):wl:=match s with
 | .FunctionDef _ _ _ _ _ _ sc _ _ _=>sc
 |_=>{kind:=.function,names:=[],isGenerator:=false,isCoroutine:=false}
abbrev bg:lz:=fun _ _ _ _ _ _=>False
abbrev E0:XK:=fun _ _ _=>False
theorem aZ {X:Cx}:Passes bg X E0:=fun _ _ _ _ _ _ _ h=>h.elim
structure uw (K:ba) (x qual:br) (st:tz) (f:ag) (fd:l5):Prop where
 ex:∃(oc:ap) (od:Option ag) (kV doc pm:ap) (an:Option ag) (eZ ct:ap) (nW:Array (Option ap)),
  fd=Gc x qual (iD st) (eA st) (ai st) .none kV doc pm an eZ ct/\K.lookup f=some ⟨oc,od,.func fd,nW⟩/\Wr K eZ qual=true
 kp:Sm K (.ref f)=true
section
variable {P:gc} {w:i0} {K:ba} {mg:br->Option ap} {base:ij}
theorem uw.binds {x qual:br} {st:tz} {f:ag} {fd:l5} {ps:List br} (F:uw K x qual st f fd)
  (h:∀(kV doc pm:ap) (an:Option ag) (eZ ct:ap) (us:List ap),us.length=ps.length->bindArgs (Gc x qual (iD st) (eA st) (ai st) .none kV doc pm an eZ ct) ⟨us,[]⟩=pure (ps.zip us)):Binds K fd ps [] :=by
 obtain ⟨oc,od,kV,doc,pm,an,eZ,ct,nW,rfl,lk,iO⟩:=F.ex
 exact .all (h kV doc pm an eZ ct)
theorem L4 {x qual:br} {st:tz} {f:ag} {oc:ap} {od an:Option ag} {nW:Array (Option ap)} {kV doc pm eZ ct:ap} (l:K.lookup f=some ⟨oc,od,.func (Gc x qual (iD st) (eA st) (ai st) .none kV doc pm an eZ ct),nW⟩)
  (c:Wr K eZ qual=true) (k:Sm K (.ref f)=true):uw K x qual st f (Gc x qual (iD st) (eA st) (ai st) .none kV doc pm an eZ ct):=⟨⟨oc,od,kV,doc,pm,an,eZ,ct,nW,rfl,l,c⟩,k⟩
end
section
variable {X:Cx}
theorem pv (i:Nat) {x:br} {pos:ut} (hN:X.N[i]?=some x :=by rfl) (hv:ua X.env.scope x :=by first|exact li rfl|exact xy (li rfl)|exact xy (xy rfl)) (hd:(x==("__debug__" : br))=false :=by decide)
  (iO:(x==("__classdict__" : br))=false :=by decide):PE X (.Name x pos) (KR i):=B7 hN hv hd iO
end
end L2
set_option maxHeartbeats 4000000
namespace L2
open PySem PySem.Spec PyProof.Rows
theorem mU {env:IR}:∀(names:List (br×NG)) (acc:List (br×ag)),(∀n,(n,AS)∈names->∃c,env.cells.lookup n=some c)->
  (∀n c,acc.lookup n=some c->env.cells.lookup n=some c)->
  ∃cl,(forIn names acc fun x r=>if (x.2==AS)=true then (do let a <- cellOf env x.1;pure (WT ((x.1,a)::r))) else pure (WT r):Rs (List (br×ag)))=pure cl /\
   (∀n c,cl.lookup n=some c->env.cells.lookup n=some c)/\(∀n,(n,AS)∈names->∃c,cl.lookup n=some c)/\(∀n c,acc.lookup n=some c->∃c',cl.lookup n=some c')
 | [],acc,_,h2=>⟨acc,rfl,h2,fun n h=>by simp at h,fun n c h=>⟨c,h⟩⟩
 |(n,k)::r,acc,h1,h2=>by
          rw [WU]
          cases hk:(k==AS) with
          |true=>
           have ek:k=AS :=by simpa using hk
           subst ek
           obtain ⟨c,hc⟩:=h1 n ff
           have e1:cellOf env n=pure c :=by unfold cellOf;rw [hc]
           obtain ⟨cl,e,a1,a2,a3⟩:=mU r ((n,c)::acc) (fun m hm=>h1 m (db _ hm)) (fun m c' hm=>by
            rw [BS] at hm
            cases hb:m==n with
            |true=>
             rw [hb] at hm
             have e2:m=n :=by simpa using hb
             rw [e2,hc];exact hm
            |false=>rw [hb] at hm;exact h2 m c' hm)
           refine ⟨cl,?_,a1,fun m hm=>?_,fun m c' hm=>?_⟩
           ·simp only [if_true,e1]
            exact e
           ·rcases io.mp hm with z|z
            ·cases z
             exact a3 n c (by rw [BS];simp)
            ·exact a2 m z
           ·by_cases hb:m=n
            ·subst hb
             exact a3 m c (by rw [BS];simp)
            ·exact a3 m c' (by
              rw [BS]
              have:(m==n)=false :=by simpa using hb
              rw [this];exact hm)
          |false=>
           obtain ⟨cl,e,a1,a2,a3⟩:=mU r acc (fun m hm=>h1 m (db _ hm)) h2
           refine ⟨cl,?_,a1,fun m hm=>?_,a3⟩
           ·simp only [l9,if_false]
            exact e
           ·rcases io.mp hm with z|z
            ·cases z;simp at hk
            ·exact a2 m z
theorem eO {scope:wl} {env:IR} (h:∀n,(n,AS)∈scope.names->∃c,env.cells.lookup n=some c) :
  ∃cl,closureFor scope env=pure cl/\(∀n c,cl.lookup n=some c->env.cells.lookup n=some c)/\(∀n,(n,AS)∈scope.names->∃c,cl.lookup n=some c) :=by
 obtain ⟨cl,e,a1,a2,_⟩:=mU (env:=env) scope.names [] h (fun n c hn=>by simp at hn)
 refine ⟨cl,?_,a1,a2⟩
 simp only [closureFor]
 rw [e]
 rfl
def cxBlock (X:Cx) (N':List br) (env':IR) (A':l8) (stack':List IR) (s:ar) (H:Hp) (ex:List ag):Cx:=
 {X with N:=N',s₀:=s,H₀:=H,env:=env',A:=A',outer:=X.stack,stack:=stack',ex:=ex,fn:=fun _=>false,pn:=[],xe:=fun _ _=>False}
theorem ux {X:Cx} {pins:List (ag×l3)} {σ aO:St} {H H':Hp} {s:ar} {N':List br} {env':IR} {A':l8} {stack':List IR} {ex:List ag} {h1:ij} {m0:br->Option ap} {g':Array PM} {tk:Nat}
  (I:Inv X pins σ H s) (pA:env'.scope.kind=.function) (Py:env'.globals=X.env.globals) (SU:env'.builtins=X.env.builtins)
  (cE:∀n c,env'.cells.lookup n=some c->X.env.cells.lookup n=some c)
  (wo:∀x,(env'.kindOf x=some .cell\/env'.kindOf x=some .free)->∃c,env'.cells.lookup x=some c)
  (hh:X.calm=true->A'.handled=none) (wq:A'.frames=some stack') (SV:stack'=X.stack\/(stack'=env'::X.stack/\env'.frame=some env'.locals))
  (hC:s.heap.objs.size<=env'.locals) (hf:∀b∈ex,dS X pins H b) (AD:∀b∈ex,b<s.heap.objs.size)
  (CF:Un (gH X.stack) ex H H' s.heap h1) (hok:dz X.prog X.w H' h1) (wt:H' env'.locals=none) (rp:∀b o,s.heap.get? b=some o->h1.get? b=some o) (jZ:h1.Ns env'.locals m0)
  (wu:∀(i:Nat) (x:br) (v:V),N'[i]?=some x->aO[i]?=some (some v)->ua env'.scope x->(env'.kindOf x=some .cell\/env'.kindOf x=some .free)/\ua X.env.scope x/\(X.env.kindOf x=some .cell\/X.env.kindOf x=some .free)/\∃j:Nat,X.N[j]?=some x/\σ[j]?=some (some v))
  (hlen:aO.length=N'.length) (hg:Gn s.gens.size g'):Inv (cxBlock X N' env' A' stack' s H ex) [] aO H' {s with heap:=h1,gens:=g',toks:=tk}:=by
 have CG:∀b∈ex,∀x c,X.env.cells.lookup x=some c->c≠b:=fun b hb=>(hf b hb).2.2.2.2.1
 refine ⟨⟨I.ok.mod,pA,Py.trans I.ok.glob,SU.trans I.ok.blt,hC,fun x y c a b=>I.ok.inj x y c (cE x c a) (cE y c b),wo,fun _ _ z=>(nomatch z),hh,wq,SV,fun b hb=>⟨kw (l7 (AD b hb) hC),fun x c e=>CG b hb x c (cE x c e)⟩,
   I.bs,ln I.ok.bsz I.sz,fun b o e hb=>?_,fun b hb z=>?_,I.stack,I.pz⟩,rfl,hg,CF,⟨m0,jZ,fun i x v e1 e2 e3=>?_⟩,fun x c e=>?_,wt,fun x c e=>?_,fun p hp=>absurd (show p∈([]:List (ag×l3)) from hp) (by simp),hok,hlen⟩
 ·rcases (hf b hb).2.2.2.1 with z|z
  ·exact I.ok.noex b o e z
  ·exact absurd (l7 (ii e) (ln I.ok.bsz z)) (Do _)
 ·rcases io.mp (I.iN b z) with q|q
  ·exact (hf b hb).2.1 q
  ·exact (hf b hb).2.2.1 q
 ·obtain ⟨k1,vx,k2,j,n1,n2⟩:=wu i x v e1 e2 e3
  obtain ⟨m,hn,hl⟩:=I.loc
  obtain ⟨u,r,l⟩:=hl j x v n1 n2 vx
  refine ⟨u,r,.inr ⟨k1,?_⟩⟩
  obtain ⟨c',CH⟩:=wo x k1
  rcases l with ⟨kl,_⟩|⟨_,c,ec,z⟩
  ·rcases k2 with q|q <;> (rw [kl] at q;cases q)
  ·have:c'=c:=i4 ((cE x c' CH).symm.trans ec)
   subst this
   exact ⟨c',CH,z.keeps rp⟩
 ·obtain ⟨v,z⟩:=I.cell x c (cE x c e)
  exact ⟨v,z.keeps rp⟩
 ·obtain ⟨v,o,ho,hd⟩:=I.cell x c (cE x c e)
  exact CF.free c o ho (I.freeC x c (cE x c e)) fun z=>CG c z x c (cE x c e) rfl
theorem lookup_map2 {c:br->NG->NG}:∀{names:List (br×NG)} {x:br},(names.map fun (p:br×NG)=>(p.1,c p.1 p.2)).lookup x=(names.lookup x).map (c x)
 | [],x=>rfl
 |(n,k')::r,x=>by
          have ih:=@lookup_map2 c r x
          rw [nw,BS,BS]
          cases hx:x==n with
          |true=>
           have e:x=n :=by simpa using hx
           subst e
           rfl
          |false=>exact ih
theorem gb {scope:wl} {env:IR} (x:br):(relabel scope env).names.lookup x=(scope.names.lookup x).map fun k=>if (k==.free && env.scope.kind==.function && env.kindOf x==some .cell)=true then .cell else k :=by
 have e:(relabel scope env).names=scope.names.map fun p=>(p.1,(fun n k=>if (k==AS && env.scope.kind==.function && env.kindOf n==some .cell)=true then ON else k) p.1 p.2) :=by
  unfold relabel
  dsimp only
  congr 1
  funext p
  obtain ⟨n,k⟩:=p
  dsimp only
  split <;> rfl
 rw [e]
 exact lookup_map2 (c:=fun n k=>if (k==AS && env.scope.kind==.function && env.kindOf n==some .cell)=true then ON else k)
def ay (N:List br) (sc scope:wl) (N':List br) (tn:Nat) (idx:List Nat):Prop:=
 scope.kind=.function/\(∀y∈scope.names,y.2≠.cell/\(y.2=.local->scope.names.lookup y.1=some .local)/\(y.2=.free->sc.names.lookup y.1=some .cell\/sc.names.lookup y.1=some .free)) /\
  N'.length=tn+idx.length/\∀p∈idx.zip (N'.drop tn),N[p.1]?=some p.2/\scope.names.lookup p.2=some .free
instance (N:List br) (sc scope:wl) (N':List br) (tn:Nat) (idx:List Nat):Decidable (ay N sc scope N' tn idx) :=by unfold ay;infer_instance
def bK (tn:Nat) (idx:List Nat) (σ:St):St:=BY tn none++idx.map fun i=>(σ[i]?).join
theorem ay.at {N:List br} {sc scope:wl} {N':List br} {tn:Nat} {idx:List Nat} (B:ay N sc scope N' tn idx) {σ:St} {i:Nat} {x:br} {v:V} (h1:N'[i]?=some x) (h2:(bK tn idx σ)[i]?=some (some v)) :
  scope.names.lookup x=some .free/\∃j:Nat,N[j]?=some x/\σ[j]?=some (some v) :=by
 obtain ⟨_,_,b3,b4⟩:=B
 unfold bK at h2
 by_cases hi:i<tn
 ·rw [ze (by simpa using hi),Ll,if_pos hi] at h2
  cases h2
 ·rw [AN (by simpa using hi),So,c8] at h2
  cases e:idx[i - tn]? with
  |none=>rw [e] at h2;cases h2
  |some k=>
   rw [e] at h2
   have h3:(σ[k]?).join=some v:=i4 h2
   have e2:(N'.drop tn)[i - tn]?=some x :=by
    rw [Xd]
    have:tn+(i - tn)=i :=by omega
    rw [this];exact h1
   have m:(k,x)∈idx.zip (N'.drop tn) :=by
    refine ci (i:=i - tn) ?_
    rw [zn]
    exact ⟨e,e2⟩
   obtain ⟨a,b⟩:=b4 _ m
   refine ⟨b,k,a,?_⟩
   cases q:σ[k]? with
   |none=>rw [q] at h3;cases h3
   |some w=>rw [q] at h3;exact congrArg some h3
theorem ay.len {N:List br} {sc scope:wl} {N':List br} {tn:Nat} {idx:List Nat} (B:ay N sc scope N' tn idx) (σ:St):(bK tn idx σ).length=N'.length :=by
 rw [B.2.2.1]
 unfold bK
 simp
section
variable {X:Cx}
def gR (X:Cx) (ifs:List dL) (tt:TT):Prop:=
 ∀(pins:List (ag×l3)) (s:ar) (σ:St) (H:Hp) (Q:Bool->Hp->Prop),Inv X pins σ H s->tt σ H Q->
  wpAny (model X.prog X.w) X.A (forIn ifs true fun c r=>if r=true then do let ok <- isTrue c X.env (eval c X.env);pure (WT ok) else pure (WT r)) (TP X pins σ Q) X.xe s
def Pz:TT:=fun _ H Q=>Q true H
theorem Jg:gR X [] Pz:=fun _ _ _ H _ I h=>wpAny_tests_nil ⟨H,I,h⟩
theorem Jh {c:dL} {tc:TT} (h:PT X c tc):gR X [c] tc:=fun pins s σ H Q I q=>wpAny_tests_one (h pins s σ H Q I q)
abbrev zv (X:Cx) (N':List br) (scope:wl) (cl:List (br×ag)) (C:ag) (s:ar) (H:Hp) (fp:List ag):Cx:=cxBlock X N' (compEnvC scope cl C X.env) X.A X.stack s H fp
abbrev Blk (X:Cx) (N':List br) (scope:wl) (P:Cx->Prop):Prop:=∀(cl:List (br×ag)) (C:ag) (s:ar) (H:Hp) (fp:List ag),P (zv X N' scope cl C s H fp)
end
abbrev TB:=St->Hp->(St->Hp->Prop)->Prop
def PB (X:Cx) (b:Rs Unit) (t:TB):Prop:=∀(pins:List (ag×l3)) (s:ar) (σ:St) (H:Hp) (Q:St->Hp->Prop),Inv X pins σ H s->t σ H Q->wpAny (model X.prog X.w) X.A b (fun _ s'=>∃aO H',Inv X pins aO H' s'/\Q aO H') X.xe s
def tLoop (J:It) (g:TG) (tt:TT) (tb:TB) (QE:St->Hp->Prop) (W:Nat->Nat->St->Hp->Prop):Prop:=∀i m τ H,W i m τ H->
 (J.stop i H/\QE τ H)\/(J.go i H/\∀x H',J.yld i H x H'->g x τ H' fun aA H2=>tt aA H2 fun b H3=>if b=true then tb aA H3 fun L5 H4=>∃m',m'<m/\W (i+1) m' L5 H4 else ∃m',m'<m/\W (i+1) m' aA H3)
def rq (e cW:dL) (d:Nat) (acc:ap) (env:IR):Rs Unit:=do
 let x <- eval cW env
 standAt cW.pos
 let x <- foldedSetIterable cW env x
 let it <- holding [x] (pyIter x)
 let _ <- runOwn (.compStart e d it acc env) env
def turnB (e tg iter:dL) (ifs:List dL) (d:Nat) (it acc:ap) (env:IR) (body:Rs Unit):Rs Fin:=do
 standAt iter.pos
 match <- pyNext it with
 |none=>pure (.done .next)
 |some v=>
  letOwnedTupleGo tg it v
  assign tg env v
  let mut ok:=true
  for c in ifs do
   if ok then ok <- isTrue c env (eval c env)
  if ok then body
  again (.compLoop e d it acc env)
section
variable {Y:Cx} {e tg iter:dL} {ifs:List dL} {dp:Nat} {it:ag} {acc:ap} {body:Rs Unit} {fp:List ag} {cy:Nat->ij->Prop} {J:It} {g:TG} {tt:TT} {tb:TB} {QE:St->Hp->Prop} {W:Nat->Nat->St->Hp->Prop} {R:X4->ar->Prop} {pins:List (ag×l3)} {τ:St} {H:Hp} {s:ar} {m0:Nat}
structure wx (Y:Cx) (e tg iter:dL) (ifs:List dL) (dp:Nat) (acc:ap) (body:Rs Unit):Prop where
 q:∀it,(Code.compLoop e dp it acc Y.env).quiet=true
 den:∀it Q E s,wpAny (model Y.prog Y.w) Y.A ((compTurn e dp it acc Y.env).onRaise (fun x=>do noteFrame x Y.env;theTreesLotGoes x)) Q E s->wpAny (model Y.prog Y.w) (Y.A.under (.compLoop e dp it acc Y.env)) ((model Y.prog Y.w).den (.compLoop e dp it acc Y.env)) Q E s
 turn:∀it,compTurn e dp it acc Y.env=turnB e tg iter ifs dp it acc Y.env body
 denS:∀it Q E s,wpAny (model Y.prog Y.w) Y.A ((compStart e dp it acc Y.env).onRaise (fun x=>do noteFrame x Y.env;standAt theWindowsPlace)) Q E s->wpAny (model Y.prog Y.w) (Y.A.under (.compStart e dp it acc Y.env)) ((model Y.prog Y.w).den (.compStart e dp it acc Y.env)) Q E s
 cl:(clausesOf e)[dp]?=some ⟨tg,iter,ifs,0⟩
theorem nY (hc:Y.calm=true) (rA:∀x s,Y.xe x s->False) (C:wx Y e tg iter ifs dp acc body) (hg:PG Y tg g) (ht:gR Y ifs tt) (hb:PB Y body tb) (T:Turn Y.prog Y.w Y.K tg J fp it cy) (turn:tLoop J g tt tb QE W)
  (I:Inv Y pins τ H s) (st:cy 0 s.heap) (f:∀b∈fp,dS Y pins H b) (w0:W 0 m0 τ H) (hR:∀aV H' s',Inv Y pins aV H' s'->QE aV H'->R (.ok .next) s') :
  codeAny (model Y.prog Y.w) Y.A (.compLoop e dp (.ref it) acc Y.env) R s :=by
 have stat:∀{H':Hp},(∀b∈fp,H' b=none)->∀b∈fp,dS Y pins H' b:=fun hn b hb=>⟨hn b hb,(f b hb).2⟩
 refine codeAny_loop (C.q _) (fun n s'=>∃i τ H',Inv Y pins τ H' s'/\cy i s'.heap/\(∀b∈fp,H' b=none)/\W i n τ H') (fun n s hI=>?_) m0 ⟨0,τ,H,I,st,fun b hb=>(f b hb).1,w0⟩
 refine C.den _ _ _ _ (wpAny_noted ?_)
 rw [C.turn]
 unfold turnB
 obtain ⟨i,τ,H3,I3,ug,Ce,w3⟩:=hI
 rcases turn i n τ H3 w3 with ⟨stop,qn⟩|⟨go,step⟩
 ·refine al (AM (al (lm (T.done Y rfl rfl rfl hc i pins s τ H3 (fun _ _=>False) I3 (stat Ce) ug stop) (fun r s4 ⟨hr,I4⟩=>?_) fun _ _ z=>z.elim)))
  subst hr
  exact ca (hR _ _ _ I4 qn)
 ·refine al (AM (al (lm (T.item Y rfl rfl rfl hc i pins s τ H3 (fun _ _=>False) I3 (stat Ce) ug go) (fun r s4 ⟨u,hr,h4⟩=>?_) fun _ _ z=>z.elim)))
  subst hr
  refine al (lm h4 (fun _ s5 ⟨x,H5,I5,r5,y5,nU,Cg⟩=>?_) fun _ _ z=>z.elim)
  have Ci:=I5.pinned (stat Cg) (T.obj _ _ nU)
  have again:∀{wy:St} {H7:Hp} {s7:ar},Inv Y (pins++mr fp s5.heap) wy H7 s7->(∃m',m'<n/\W (i+1) m' wy H7)->
    ∃m,m<n/\∃i τ H',Inv Y pins τ H' s7/\cy i s7.heap/\(∀b∈fp,H' b=none)/\W i m τ H':=fun {wy H7 s7} I7 n7=>by
   obtain ⟨m',hm,w7⟩:=n7
   refine ⟨m',hm,i+1,wy,H7,I7.ib,T.keep _ _ _ nU fun b hb o e=>(I7.pin (b,o) (lf _ (lf _ (gq hb e)))).1,fun b hb=>?_,w7⟩
   obtain ⟨o,e,d⟩:=T.obj _ _ nU b hb
   exact (I7.pin (b,o) (lf _ (lf _ (gq hb e)))).2.1
  refine al (lm (hg _ s5 τ H5 x u _ Ci r5 (step x H5 y5)) (fun _ s6 ⟨uy,H6,I6,q6⟩=>?_) fun _ _ z=>(rA _ _ z).elim)
  refine al (lm (ht _ s6 uy H6 _ I6 q6) (fun ok s7 ⟨H7,I7,q7⟩=>?_) fun _ _ z=>(rA _ _ z).elim)
  cases ok with
  |false=>exact ca ⟨rfl,again I7 q7⟩
  |true=>
   refine al (lm (hb _ s7 uy H7 _ I7 q7) (fun _ s8 ⟨VW,H8,I8,q8⟩=>?_) fun _ _ z=>(rA _ _ z).elim)
   exact ca ⟨rfl,again I8 q8⟩
theorem mV (C:wx Y e tg iter ifs dp acc body) (T:Turn Y.prog Y.w Y.K tg J fp it cy) (st:cy 0 s.heap)
  (h:codeAny (model Y.prog Y.w) Y.A (.compLoop e dp (.ref it) acc Y.env) R s):codeAny (model Y.prog Y.w) Y.A (.compStart e dp (.ref it) acc Y.env) R s :=by
 refine XT (C.denS _ _ _ _ (wpAny_notedAt ?_))
 unfold compStart
 rw [C.cl]
 show wpAny _ _ (ask>>=_) _ _ s
 refine al (SZ (wpAny_ite ?_))
 split
 ·first
   |exact al (ca (ca (Yb rfl h)))
   |exact ca (Yb rfl h)
 ·have h2:wpAny (model Y.prog Y.w) Y.A (pyIter (.ref it)) (fun CI s'=>codeAny (model Y.prog Y.w) Y.A (.compLoop e dp CI acc Y.env) R s') (notedBy (model Y.prog Y.w) Y.A Y.env fun x s'=>R (.error x) s') s:=T.self _ 0 _ _ _ st h
  first
   |exact al (EN (al (AM (al (lm h2 (fun CI s' h'=>ca (Yb (C.q CI) h')) fun _ _ x=>x)))))
   |(refine al (EN ?_);show wpAny _ _ (standAt iter.pos>>=_) _ _ s;exact al (AM (al (lm h2 (fun CI s' h'=>ca (Yb (C.q CI) h')) fun _ _ x=>x))))
end
section
variable {Y:Cx}
def mx (D:ag) (te:TE):TB:=fun τ H Q=>te τ H fun y H4=>∃ys,H4 D=some (.lst ys)/\ys.length<sizeLine/\Q τ (upd H4 D (.lst (ys++[y])))
theorem sY {elt:dL} {te:TE} {D:ag} (h:PE Y elt te):PB Y (do let _ <- call (.builtin "list.append") [.ref D,<- eval elt Y.env]) (mx D te) :=by
 intro pins s τ H Q I q
 refine al (lm (h pins s τ H _ I q) (fun yv s8 ⟨y,H8,I8,r8,q8⟩=>?_) fun _ _ z=>z)
 obtain ⟨ys,hD,hsz,w8⟩:=q8
 refine al (lm (ur (X:=Y) _ s8 τ H8 (.ref D) [y] (.ref D) [yv] (fun v H9=>v=.au/\H9=upd H8 D (.lst (ys++[y]))) I8 rfl (.cons r8 .nil) ⟨_,ys,y,rfl,rfl,hD,hsz,rfl,rfl⟩) (fun rv s9 ⟨v9,H9,I9,_,_,e9⟩=>?_) fun _ _ z=>z)
 subst e9
 exact ca ⟨τ,_,I9,w8⟩
end
section
variable {X:Cx}
theorem compG_core {pins:List (ag×l3)} {σ:St} {H2:Hp} {s2:ar} {e tg iter:dL} {ifs:List dL} {scope:wl} {N':List br} {tn:Nat} {idx:List Nat} {g:TG} {tt:TT} {tb:ag->TB} {body:ap->IR->Rs Unit} {it:ag} {fp:List ag} {cy:Nat->ij->Prop} {J:It}
  {cl:List (br×ag)} {E:ap->ar->Prop} {RR:ap->ag->X4->ar->Prop} {Q:VK} {mk:Rs ap} {O0:HO} {o0:l3}
  (T6:∀(Q:ap->ar->Prop),Q (.ref s2.heap.objs.size) {s2 with heap:=s2.heap.push o0}->wpAny (model X.prog X.w) X.A mk Q E s2) (wq:o0.isFreed=false)
  (L6:∀(H:Hp) (h1:ij),h1.get? s2.heap.objs.size=some o0->ObjOk X.prog X.w H h1 s2.heap.objs.size O0)
  (hc:X.calm=true) (B:ay X.N X.env.scope scope N' tn idx)
  (hC:∀(D:ag),Blk X N' scope fun Y=>wx Y e tg iter ifs 0 (.ref D) (body (.ref D) Y.env))
  (hg:Blk X N' scope fun Y=>PG Y tg g) (ht:Blk X N' scope fun Y=>gR Y ifs tt) (hb:∀D,Blk X N' scope fun Y=>PB Y (body (.ref D) Y.env) (tb D))
  (I:Inv X pins σ H2 s2) (T:Turn X.prog X.w X.K tg J fp it cy) (st:cy 0 s2.heap) (f2:∀b∈fp,dS X pins H2 b)
  (c9:∀n c,cl.lookup n=some c->X.env.cells.lookup n=some c) (eS:∀n,(n,AS)∈scope.names->∃c,cl.lookup n=some c)
  (hq:∀D,H2 D=none->∃W:Nat->Nat->St->Hp->Prop,(∃m,W 0 m (bK tn idx σ) (upd H2 D O0))/\tLoop J g tt (tb D) (fun _ H'=>Q (.ref D) H') W)
  (CJ:∀D C m s' H',Inv X pins σ H' s'->dS X pins H' C->s'.heap.Ns C m->Q (.ref D) H'->RR (.ref D) C (.ok .next) s') :
  wpAny (model X.prog X.w) X.A mk (fun acc nZ=>wpAny (model X.prog X.w) X.A (newFunctionEnv scope X.env.globals cl [] X.env.qual none .none (some X.env)) (fun n5 wz=>
   codeAny (model X.prog X.w) X.A (.compStart e 0 (.ref it) acc {n5 with scope:=relabel scope X.env}) (RR acc n5.locals) wz) E nZ) E s2 :=by
 obtain ⟨b1,b2,b3,b4⟩:=id B
 refine T6 _ (wpAny_newFunctionEnv (fun y hy=>(b2 y hy).1) (by intro y hy;simp at hy) (fun gL n6 rB=>?_) b1)
 dsimp only at n6 rB ⊢
 generalize hG:s2.heap.push o0=G at n6 rB ⊢
 have L7:G.objs.size=s2.heap.objs.size+1 :=by rw [<- hG,ww]
 have Hw:s2.heap.objs.size≠G.objs.size :=by rw [L7];exact kw (EQ _)
 have mW:s2.heap.objs.size<=G.objs.size :=by rw [L7];exact DO _
 have below:∀b,b<s2.heap.objs.size->b≠G.objs.size:=fun b hb=>by rw [L7];exact kw (xp hb)
 have old:∀b o,s2.heap.get? b=some o->gL.get? b=some o:=fun b o e=>rB.extBut b o (below b (ii e)) (bv _ (hG▸bv _ e))
 have L8:gL.get? s2.heap.objs.size=some o0:=rB.extBut _ _ Hw (bv _ (hG▸en _ wq))
 have CK:H2 s2.heap.objs.size=none:=I.hok.fresh (ce _)
 have wt:upd H2 s2.heap.objs.size O0 G.objs.size=none :=by rw [aj (wE Hw)];exact I.hok.fresh mW
 have Fy:dz X.prog X.w (upd H2 s2.heap.objs.size O0) gL:=I.hok.laid old (ce _) (L6 _ _ L8)
 have nJ:∀b∈fp,b<s2.heap.objs.size:=fun b hb=>let ⟨o,e,_⟩:=T.obj _ _ st b hb;ii e
 obtain ⟨W,⟨m0,w0⟩,turn⟩:=hq s2.heap.objs.size CK
 have I1:Inv (zv X N' scope cl G.objs.size s2 H2 fp) [] (bK tn idx σ) (upd H2 s2.heap.objs.size O0) {s2 with heap:=gL,toks:=s2.toks+([]:List (br×ap)).length}:=by
  refine ux (g':=s2.gens) (m0:=fun x=>([]:List (br×ap)).reverse.lookup x) I b1 rfl rfl c9 (fun x hx=>?_) (fun z=>I.ok.hd z) I.ok.frames (.inl rfl) mW f2 nJ (Un.laid old (ce _) CK) Fy wt old n6 (fun i x v e1 e2 e3=>?_) (B.len σ) I.bare.self
  ·have n8:(relabel scope X.env).names.lookup x=some .cell\/(relabel scope X.env).names.lookup x=some .free:=hx
   rw [gb] at n8
   cases q:scope.names.lookup x with
   |none=>rw [q] at n8;rcases n8 with z|z <;> cases z
   |some k0=>
    have hm:=wn q
    rw [q] at n8
    by_cases hk:k0=.free
    ·subst hk;exact eS x hm
    ·have nk:(k0==AS)=false :=by simpa using hk
     have nc:=(b2 _ hm).1
     simp only [Cs,nk,Wq,l9,if_false] at n8
     rcases n8 with z|z
     ·exact absurd (i4 z) nc
     ·exact absurd (i4 z) hk
  ·obtain ⟨fr,j,e4,e5⟩:=B.at e1 e2
   have kx:=(b2 _ (wn fr)).2.2 rfl
   refine ⟨?_,.inr kx,kx,j,e4,e5⟩
   show (relabel scope X.env).names.lookup x=some .cell\/(relabel scope X.env).names.lookup x=some .free
   rw [gb,fr]
   simp only [Cs]
   split
   ·exact .inl rfl
   ·exact .inr rfl
 have stat:∀b∈fp,dS (zv X N' scope cl G.objs.size s2 H2 fp) [] (upd H2 s2.heap.objs.size O0) b:=fun b hb=>by
  refine ⟨by rw [aj (kw (nJ b hb))];exact (f2 b hb).1,below b (nJ b hb),fun z=>?_,.inl hb,fun x c e=>(f2 b hb).2.2.2.2.1 x c (c9 x c e),fun p hp=>absurd (show p∈([]:List (ag×l3)) from hp) (by simp)⟩
  rcases io.mp (I.iN b z) with q|q
  ·exact (f2 b hb).2.1 q
  ·exact (f2 b hb).2.2.1 q
 have CL:cy 0 gL:=T.keep _ _ _ st fun b _ o e=>old b o e
 refine mV (Y:=zv X N' scope cl G.objs.size s2 H2 fp) (hC _ cl G.objs.size s2 H2 fp) T CL (nY (Y:=zv X N' scope cl G.objs.size s2 H2 fp) hc (fun _ _ z=>z) (hC _ cl G.objs.size s2 H2 fp) (hg cl G.objs.size s2 H2 fp) (ht cl G.objs.size s2 H2 fp) (hb _ cl G.objs.size s2 H2 fp) T turn I1 CL stat w0 fun aV H' s' I4 qn=>?_)
 have J2:Inv X pins σ H' s':=I.vG I4.os I4.base I4.hok I4.bare fun b hb=>⟨(f2 b hb).2.2.2.1,(f2 b hb).2.1,(f2 b hb).2.2.2.2.1,(f2 b hb).2.2.2.2.2⟩
 obtain ⟨mm,hm,_⟩:=I4.loc
 exact CJ _ _ mm s' H' J2 (I.mR mW I4.free) hm qn
end
section
variable {X:Cx}
def rC (J:It) (g:TG) (tt:TT) (te:TE) (D:ag) (Q:VK) (W:Nat->Nat->St->Hp->Prop):Prop:=∀i m τ H,W i m τ H->
 (J.stop i H/\Q (.ref D) H)\/(J.go i H/\∀x H',J.yld i H x H'->g x τ H' fun aA H2=>tt aA H2 fun b H3=>if b=true then te aA H3 fun y H4=>∃ys m',H4 D=some (.lst ys)/\ys.length<sizeLine/\m'<m/\W (i+1) m' aA (upd H4 D (.lst (ys++[y]))) else ∃m',m'<m/\W (i+1) m' aA H3)
def pB (tn:Nat) (idx:List Nat) (wi:TI) (g:TG) (tt:TT) (te:TE):TE:=fun σ H Q=>wi σ H fun J H1=>∀D,H1 D=none->∃W:Nat->Nat->St->Hp->Prop,(∃m,W 0 m (bK tn idx σ) (upd H1 D (.lst [])))/\rC J g tt te D Q W
theorem rD {J:It} {g:TG} {tt:TT} {te:TE} {D:ag} {Q:VK} {W:Nat->Nat->St->Hp->Prop} (h:rC J g tt te D Q W):tLoop J g tt (mx D te) (fun _ H=>Q (.ref D) H) W :=by
 simp only [rC,exists_and_left] at h
 exact h
theorem wA (elt tg iter:dL) (ifs:List dL) (scope:wl) (pos:ut) (it acc:ap) (env:IR) :
  compTurn (.ListComp elt [⟨tg,iter,ifs,0⟩] scope pos) 0 it acc env=turnB (.ListComp elt [⟨tg,iter,ifs,0⟩] scope pos) tg iter ifs 0 it acc env (do let _ <- call (.builtin "list.append") [acc,<- eval elt env]) :=by
 rfl
theorem uz {pins:List (ag×l3)} {σ:St} {H2:Hp} {s2:ar} {tg elt iter:dL} {ifs:List dL} {scope:wl} {pos:ut} {N':List br} {tn:Nat} {idx:List Nat} {g:TG} {tt:TT} {te:TE} {it:ag} {fp:List ag} {cy:Nat->ij->Prop} {J:It}
  {cl:List (br×ag)} {E:ap->ar->Prop} {RR:ap->ag->X4->ar->Prop} {Q:VK}
  (hc:X.calm=true) (B:ay X.N X.env.scope scope N' tn idx)
  (hg:Blk X N' scope fun Y=>PG Y tg g) (ht:Blk X N' scope fun Y=>gR Y ifs tt) (he:Blk X N' scope fun Y=>PE Y elt te)
  (I:Inv X pins σ H2 s2) (T:Turn X.prog X.w X.K tg J fp it cy) (st:cy 0 s2.heap) (f2:∀b∈fp,dS X pins H2 b)
  (c9:∀n c,cl.lookup n=some c->X.env.cells.lookup n=some c) (eS:∀n,(n,AS)∈scope.names->∃c,cl.lookup n=some c)
  (hq:∀D,H2 D=none->∃W:Nat->Nat->St->Hp->Prop,(∃m,W 0 m (bK tn idx σ) (upd H2 D (.lst [])))/\rC J g tt te D Q W)
  (CJ:∀D C m s' H',Inv X pins σ H' s'->dS X pins H' C->s'.heap.Ns C m->Q (.ref D) H'->RR (.ref D) C (.ok .next) s') :
  wpAny (model X.prog X.w) X.A (newList []) (fun acc nZ=>wpAny (model X.prog X.w) X.A (newFunctionEnv scope X.env.globals cl [] X.env.qual none .none (some X.env)) (fun n5 wz=>
   codeAny (model X.prog X.w) X.A (.compStart (.ListComp elt [⟨tg,iter,ifs,0⟩] scope pos) 0 (.ref it) acc {n5 with scope:=relabel scope X.env}) (RR acc n5.locals) wz) E nZ) E s2:=
 compG_core (body:=fun acc env=>do let _ <- call (.builtin "list.append") [acc,<- eval elt env]) (tb:=fun D=>mx D te) (O0:=.lst []) (o0:={cls:=.type "list",dict:=none,data:=.seq ([]:List ap).toArray})
  (fun Q q=>zd q) rfl (fun H h1 hd=>⟨lw _,[],0,.nil,hd⟩) hc B (fun D cl C s H fp=>⟨fun _=>rfl,fun _ _ _ _ h=>h,fun _=>wA ..,fun _ _ _ _ h=>h,rfl⟩) hg ht (fun D cl C s H fp=>sY (he cl C s H fp))
  I T st f2 c9 eS (fun D hD=>let ⟨W,w0,t⟩:=hq D hD;⟨W,w0,rD t⟩) CJ
variable {tg elt iter:dL} {ifs:List dL} {scope:wl} {pos:ut} {N':List br} {tn:Nat} {idx:List Nat} {wi:TI} {g:TG} {tt:TT} {te:TE}
theorem dS.turn {pins:List (ag×l3)} {σ:St} {H:Hp} {s:ar} {C:ag} {h':ij} (f:dS X pins H C) (I:Inv X pins σ H s) (hs:v6 C s.heap h'):Inv X pins σ H {s with heap:=h'}:=
 I.turned (t':=s.toks) (fun b o hb e=>(hs.2 b hb).trans e) f.1 f.2.1 f.2.2.2.1 f.2.2.2.2.1 f.2.2.2.2.2
theorem pV (hc:X.calm=true) (B:ay X.N X.env.scope scope N' tn idx) (hi:PI X tg iter wi)
  (hg:Blk X N' scope fun Y=>PG Y tg g) (ht:Blk X N' scope fun Y=>gR Y ifs tt) (he:Blk X N' scope fun Y=>PE Y elt te)
  (hs:∀x,foldedSetIterable iter X.env x=pure x :=by intro _;rfl):PE X (.ListComp elt [⟨tg,iter,ifs,0⟩] scope pos) (pB tn idx wi g tt te) :=by
 refine ⟨?_⟩
 intro pins s σ H Q I h
 obtain ⟨cl,fE,c9,eS⟩:=eO (scope:=scope) (env:=X.env) fun n hn=>I.ok.has n ((B.2.1 _ hn).2.2 rfl)
 rw [eval_ListComp]
 refine Cf (use:=none) rfl hs fE B.1 (fun y hy=>(B.2.1 y hy).2.1) (lm (hi pins s σ H _ I h) (fun xv s1 h1=>lm h1 (fun nT s2 h2=>?_) fun _ _ z=>z) fun _ _ z=>z)
 obtain ⟨it,fp,cy,J,H2,e,I2,T,iC,f2,q2⟩:=h2
 subst e
 refine uz (RR:=fun acc C=>compPost (model X.prog X.w) X.A X.xe none (EP X pins σ Q) acc C) hc B hg ht he I2 T iC f2 c9 eS q2 fun D C m s' H' J2 fC hm q=>?_
 exact ⟨m,hm,fun h' iE=>⟨.ref D,H',fC.turn J2 iE,rfl,q⟩⟩
theorem rE {i:Nat} {y:br} {py fh:ut} (hN:X.N.Nodup) (cp:X.N[i]?=some y) (hy:X.env.scope.names.lookup y=some .local) (hc:X.calm=true) (B:ay X.N X.env.scope scope N' tn idx) (hi:PI X tg iter wi)
  (hg:Blk X N' scope fun Y=>PG Y tg g) (ht:Blk X N' scope fun Y=>gR Y ifs tt) (he:Blk X N' scope fun Y=>PE Y elt te)
  (my:swapsWith (.ListComp elt [⟨tg,iter,ifs,0⟩] scope pos) (some (.Name y py)) fh.line X.env=pure true :=by rfl)
  (hs:∀x,foldedSetIterable iter X.env x=pure x :=by intro _;rfl):PS X (.Assign [.Name y py] (.ListComp elt [⟨tg,iter,ifs,0⟩] scope pos) fh) (qt (pB tn idx wi g tt te) (mQ i)) :=by
 refine ⟨?_⟩
 intro pins s σ H D I h
 obtain ⟨cl,fE,c9,eS⟩:=eO (scope:=scope) (env:=X.env) fun n hn=>I.ok.has n ((B.2.1 _ hn).2.2 rfl)
 rw [WM _ _ _ _ my]
 refine al (AM (al ?_))
 show wpAny _ X.A (do let _ <- comprehension (.ListComp elt [⟨tg,iter,ifs,0⟩] scope pos) scope X.env _ (newList []) false (eval iter X.env) (some (assign (.Name y py) X.env))) _ _ s
 refine al (lm (Cf (use:=some (assign (.Name y py) X.env)) (Q:=fun _ s'=>SP X pins D .next s') rfl hs fE B.1 (fun y hy=>(B.2.1 y hy).2.1)
  (lm (hi pins s σ H _ I h) (fun xv s1 h1=>lm h1 (fun nT s2 h2=>?_) fun _ _ z=>z) fun _ _ z=>z)) (fun _ s' hq=>ca (ca hq)) fun _ _ z=>z)
 obtain ⟨it,fp,cy,J,H2,e,I2,T,iC,f2,q2⟩:=h2
 subst e
 refine uz (RR:=fun acc C=>compPost (model X.prog X.w) X.A X.xe (some (assign (.Name y py) X.env)) (fun _ s'=>SP X pins D .next s') acc C) hc B hg ht he I2 T iC f2 c9 eS q2 fun E C m s' H' J2 fC hm q=>?_
 show wpAny _ X.A (assign (.Name y py) X.env (.ref E)) _ _ s'
 refine Ww (store_ok2 J2 hN cp (.inl hy) (v:=.ref E) rfl (fun s3 J3 ⟨a,lB,ha⟩=>?_) (.inr hy))
 have e8:C≠a :=by
  rcases ha with z|z
  ·rw [z];exact fC.2.1
  ·exact fun w=>fC.2.2.2.2.1 _ _ z w.symm
 exact ⟨m,hm.sameBut lB e8,fun h' iE=>⟨_,H',fC.turn J3 iE,q⟩⟩
end
def Tb (P:ag) (H:Hp):Prop:=∃ps,H P=some (.dy ps)/\VT ps.toList
section
variable {X:Cx} {pins:List (ag×l3)} {σ:St} {H:Hp} {s:ar} {P:ag} {ps more:Array ap} {h':ij}
theorem Inv.grown (I:Inv X pins σ H s) (hP:H P=some (.dy ps)) (k:∀b o,b≠P->s.heap.get? b=some o->h'.get? b=some o) (n:h'.get? P=some {cls:=.none,data:=.fields (ps++more)}) (t':Nat) :
  Inv X pins σ (upd H P (.dy (ps++more))) {s with heap:=h',toks:=t'}:=by
 have ne:∀b u,H b=some u->u≠.dy ps->b≠P:=fun b u e d=>qX e hP d
 have nn:∀b,H b=none->b≠P:=fun b e z=>by rw [z,hP] at e;cases e
 refine I.un ⟨fun b o e q _ _=>k b o (nn b q) e,fun b o e q _ _=>⟨o.slots,k b o (nn b q) e⟩,fun b o e q _=>by rw [aj (nn b q)];exact q,fun b o e _=>?_,fun b xs e=>by rw [aj (ne b _ e (by intro z;cases z))];exact e,
  fun b o u e=>by rw [aj (ne b _ e (by intro z;cases z))];exact e,fun b qs e=>?_⟩ fun b u e=>?_
 ·by_cases hb:b=P
  ·subst hb;exact ⟨_,n⟩
  ·exact ⟨o,k b o hb e⟩
 ·by_cases hb:b=P
  ·subst hb
   rw [hP] at e;cases e
   exact ⟨more,aK⟩
  ·exact ⟨#[],by rw [aj hb,e];simp⟩
 ·by_cases hb:b=P
  ·subst hb
   rw [aK] at e;cases e
   exact n
  ·rw [aj hb] at e
   refine (I.hok b u e).dA (fun c v hc q=>k c v ?_ q) (fun c q=>?_) fun c xs q=>?_
   ·rcases hc with z|z
    ·rw [z];exact hb
    ·exact ne c _ z (by intro w;cases w)
   ·rw [aj (ne c _ q (by intro w;cases w))];exact q
   ·rw [aj (ne c _ q (by intro w;cases w))];exact q
theorem sZ {c:ag} {pos:ut} {qn:br} {scope:wl} {Q:ap->ar->Prop} {A:l8} {E:ap->ar->Prop} (I:Inv X pins σ H s) (hc:X.env.code=.ref c) (hd:u7 X.base c P) (hP:H P=some (.dy ps)) (ht:VT ps.toList)
  (h:∀code mB s',VT mB.toList->Inv X pins σ (upd H P (.dy mB)) s'->(∀b o,b≠P->s.heap.get? b=some o->s'.heap.get? b=some o)->s'.gens=s.gens->Q code s'):wpAny (model X.prog X.w) A (genexprCode X.env pos qn scope) Q E s :=by
 have QV:s.heap.get? P=some (SC ps):=I.hok P _ hP
 have jI:=hd.keeps I.bk
 have ic:=jI.code QV ht
 cases q:codeAmong pos ps.toList with
 |some c'=>
  refine wpAny_genexprCode_hit hc ic q (h c' ps s ht ?_ (fun _ _ _ e=>e) rfl)
  have e:upd H P (.dy ps)=H :=by
   funext b
   by_cases hb:b=P
   ·subst hb;rw [aK,hP]
   ·rw [aj hb]
  rw [e];exact I
 |none=>
  refine wpAny_genexprCodeX hc ic (jI.tab QV) q fun c' h' tk ex h1 h2 VX _ ta _=>?_
  obtain ⟨_,Hx⟩:=ta
  have tr:VT (ps++#[rawInt pos.line,rawInt pos.col,mT c']).toList :=by
   rw [Array.toList_append]
   exact TriplesOk_snoc _ _ _ _ ht
  exact h _ _ _ tr (I.grown hP (fun b o hb e=>ex b o hb e) Hx tk) (fun b o hb e=>ex b o hb e) rfl
end
def qw (s dH:ar):Prop:=dH.heap=s.heap/\dH.os=s.os/\Gn s.gens.size dH.gens
theorem Inv.oe {X:Cx} {pins:List (ag×l3)} {σ:St} {H:Hp} {s dH:ar} (I:Inv X pins σ H s) (o:qw s dH):Inv X pins σ H dH :=by
 obtain ⟨h,g,d,t,os⟩:=s
 obtain ⟨h',g',d',t',Hq⟩:=dH
 obtain ⟨e1,e2,e3⟩:=o
 cases e1
 cases e2
 exact ⟨I.ok,I.os,I.bare.trans e3,I.base,I.loc,I.cell,I.free,I.freeC,I.pin,I.hok,I.len⟩
section
variable {Y:Cx} {A2:l8} {tg elt iter:dL} {ifs:List dL} {scope:wl} {pos:ut} {it:ag} {fp:List ag} {cy:Nat->ij->Prop} {J:It} {g:TG} {tt:TT} {te:TE} {pp:List (ag×l3)} {R:GenEnd} {Yp:Protocol}
def L9 (J:It) (g:TG) (tt:TT) (te:TE) (stopAt:Bool) (Z:Bool->Hp->Prop) (W:Nat->Nat->St->Hp->Prop):Prop:=∀i m τ H,W i m τ H->
 (J.stop i H/\Z (!stopAt) H)\/(J.go i H/\∀x H',J.yld i H x H'->g x τ H' fun aA H2=>tt aA H2 fun b H3=>if b=true then te aA H3 fun y H4=>∃c,y=.bl c/\(if c=stopAt then Z stopAt H4 else ∃m',m'<m/\W (i+1) m' aA H4) else ∃m',m'<m/\W (i+1) m' aA H3)
theorem FA (hA:Y.A=A2.over (.compLoop (.GeneratorExp elt [⟨tg,iter,ifs,0⟩] scope pos) 0 (.ref it) .none Y.env) []) (rA:Y.xe=fun _ _=>False) (hc:Y.calm=true) (uA:Y.env.scope.isCoroutine=false)
  (T:Turn Y.prog Y.w Y.K tg J fp it cy) (hg:PG Y tg g) (ht:gR Y ifs tt) (he:PE Y elt te) (stat:∀{H':Hp},(∀b∈fp,H' b=none)->∀b∈fp,dS Y pp H' b)
  {W:Nat->Nat->St->Hp->Prop} {Z:Bool->Hp->Prop} {stopAt:Bool} (turn:L9 J g tt te stopAt Z W)
  (hR:∀n s₀ aD τ H,Inv Y pp τ H aD->Z (!stopAt) H->R n s₀ (.ok .next) aD)
  (hY:∀n s₀ s wB c τ H,Inv Y pp τ H s->(c=stopAt->Z stopAt H)->(c≠stopAt->∀dH,qw s dH->wB (.send .none) dH)->Yp n s₀ (.bool c) s wB) :
  ∀(m n i:Nat) (τ:St) (H:Hp) (s s₀:ar),m<n->W i m τ H->Inv Y pp τ H s->cy i s.heap->(∀b∈fp,H b=none)->
   Seg (model Y.prog Y.w) A2 R Yp n s₀ (.compLoop (.GeneratorExp elt [⟨tg,iter,ifs,0⟩] scope pos) 0 (.ref it) .none Y.env)
    ((model Y.prog Y.w).den (.compLoop (.GeneratorExp elt [⟨tg,iter,ifs,0⟩] scope pos) 0 (.ref it) .none Y.env)) [] s :=by
 intro m
 induction m using Nat.strongRecOn with
 |ind m ih=>
  intro n i τ H s s₀ T7 w I st fr
  show Seg _ A2 _ _ _ s₀ _ ((compTurn (.GeneratorExp elt [⟨tg,iter,ifs,0⟩] scope pos) 0 (.ref it) .none Y.env).onRaise (leaving Y.env)) [] s
  rw [compTurn_gen,Rs.onRaise_eq_wrap]
  rcases turn i m τ H w with ⟨stop,qn⟩|⟨go,step⟩
  ·refine AT (AM ?_)
   have d:=T.done Y rfl rfl rfl hc i pp s τ H (fun _ _=>False) I (stat fr) st stop
   rw [hA] at d
   refine AT (lm d (fun r s1 ⟨hr,I1⟩=>?_) fun _ _ z=>z.elim)
   subst hr
   exact seg_end (.ok .next) (hR _ _ _ _ _ I1 qn)
  ·refine AT (AM ?_)
   have d:=T.item Y rfl rfl rfl hc i pp s τ H (fun _ _=>False) I (stat fr) st go
   rw [hA] at d
   refine AT (lm d (fun r s4 ⟨u,hr,h4⟩=>?_) fun _ _ z=>z.elim)
   subst hr
   refine AT (lm h4 (fun _ s5 ⟨x,H5,I5,r5,y5,nU,Cg⟩=>?_) fun _ _ z=>z.elim)
   have Ci:=I5.pinned (stat Cg) (T.obj _ _ nU)
   have back:∀{wy:St} {H7:Hp} {s7:ar},Inv Y (pp++mr fp s5.heap) wy H7 s7->cy (i+1) s7.heap/\∀b∈fp,H7 b=none:=fun {wy H7 s7} I7=>by
    refine ⟨T.keep _ _ _ nU fun b hb o e=>(I7.pin (b,o) (lf _ (lf _ (gq hb e)))).1,fun b hb=>?_⟩
    obtain ⟨o,e,d⟩:=T.obj _ _ nU b hb
    exact (I7.pin (b,o) (lf _ (lf _ (gq hb e)))).2.1
   have d2:=hg _ s5 τ H5 x u _ Ci r5 (step x H5 y5)
   rw [hA,rA] at d2
   refine AT (lm d2 (fun _ s6 ⟨uy,H6,I6,q6⟩=>?_) fun _ _ z=>z.elim)
   have d3:=ht _ s6 uy H6 _ I6 q6
   rw [hA,rA] at d3
   refine AT (lm d3 (fun ok s7 ⟨H7,I7,q7⟩=>?_) fun _ _ z=>z.elim)
   have hy:∀v,yieldOut Y.env v=yieldValue v:=fun v=>by simp only [yieldOut,uA,l9,if_false]
   cases ok with
   |false=>
    simp only [l9,if_false] at q7 ⊢
    obtain ⟨m',wC,w7⟩:=q7
    exact XU rfl (ih m' wC n (i+1) uy H7 s7 s₀ (by omega) w7 I7.ib (back I7).1 (back I7).2)
   |true=>
    simp only [if_true] at q7 ⊢
    simp only [hy]
    rw [Rs.bind_eq_wrap',Rs.bind_eq_wrap',Rs.wrap_wrap,Rs.wrap_wrap]
    have d4:=he _ s7 uy H7 _ I7 q7
    rw [hA,rA] at d4
    refine seg_wrap (lm d4 (fun yv s8 ⟨y,H8,I8,r8,q8⟩=>?_) fun _ _ z=>z.elim)
    obtain ⟨c,ey,q8⟩:=q8
    subst ey
    cases (show yv=SL c from r8)
    obtain ⟨n,rfl⟩:∃n',n=n'+1:=⟨n - 1,by omega⟩
    refine seg_at (seg_yield rfl rfl rfl (hY _ _ _ _ c uy H8 I8.ib (fun e=>by rw [if_pos e] at q8;exact q8) fun e dH ok=>?_))
    rw [if_neg e] at q8
    obtain ⟨m',wC,w8⟩:=q8
    have I9:=I8.oe ok
    exact XU rfl (ih m' wC n (i+1) uy H8 dH dH (by omega) w8 I9.ib (back I9).1 (back I9).2)
end
abbrev fF (elt tg iter:dL) (ifs:List dL) (scope:wl) (pos:ut):dL:=.GeneratorExp elt [⟨tg,iter,ifs,0⟩] scope pos
abbrev Ma (X:Cx) (N':List br) (scope:wl) (cl:List (br×ag)) (C:ag) (code:ap) (A':l8) (s:ar) (H:Hp) (fp:List ag):Cx:=
 cxBlock X N' (genEnv scope cl C code builtinsNs X.env) A' (genEnv scope cl C code builtinsNs X.env::X.stack) s H fp
abbrev qy (X:Cx) (N':List br) (scope:wl) (k:Nat) (P:Cx->Prop):Prop:=∀(cl:List (br×ag)) (C:ag) (code:ap) (A':l8) (s:ar) (H:Hp) (fp:List ag),dB k A'->P (Ma X N' scope cl C code A' s H fp)
structure SW (X:Cx) (pins:List (ag×l3)) (σ:St) (N':List br) (scope:wl) (tn:Nat) (idx:List Nat) (k:Nat) (elt tg iter:dL) (ifs:List dL) (pos:ut) (J:It) (H3:Hp) (a:ag) (s5:ar)
  (Y:Cx) (it:ag) (fp:List ag) (cy:Nat->ij->Prop) (g:Nat) (pp:List (ag×l3)):Prop where
 inv:Inv Y pp (bK tn idx σ) H3 s5
 isg:∀{τ:St} {H':Hp} {s':ar},Inv Y pp τ H' s'->s'.heap.IsGen a g
 st:s5.gens[g]?=some (.fresh (.compStart (fF elt tg iter ifs scope pos) 0 (.ref it) .none Y.env))
 T:Turn Y.prog Y.w Y.K tg J fp it cy
 tn0:cy 0 s5.heap
 fr:∀b∈fp,H3 b=none
 stat:∀{H':Hp},(∀b∈fp,H' b=none)->∀b∈fp,dS Y pp H' b
 out:∀{τ:St} {H':Hp} {s':ar},Inv Y pp τ H' s'->Inv X pins σ H' s'
 A:Y.A=X.A.in4.in1.over (.compLoop (fF elt tg iter ifs scope pos) 0 (.ref it) .none Y.env) []
 xe:Y.xe=fun _ _=>False
 calm:Y.calm=true
 co:Y.env.scope.isCoroutine=false
 gsz:∀{τ:St} {H':Hp} {s':ar},Inv Y pp τ H' s'->g<s'.gens.size
 blk:∀P:Cx->Prop,qy X N' scope k P->P Y
 prog:Y.prog=X.prog
 w:Y.w=X.w
section
variable {X:Cx} {tg elt iter:dL} {ifs:List dL} {scope:wl} {pos:ut} {N':List br} {tn:Nat} {idx:List Nat} {wi:TI} {g:TG} {tt:TT} {te:TE} {c P:ag} {k:Nat}
def Mb (P:ag) (wi:TI) (R:It->Hp->Prop):St->Hp->Prop:=fun σ H=>wi σ H fun J H1=>Tb P H1/\∀ps,VT ps.toList->R J (upd H1 P (.dy ps))
theorem FC {pins:List (ag×l3)} {s:ar} {σ:St} {H:Hp} {QQ:ap->ar->Prop} {R:It->Hp->Prop} (hr:dB (k+1) X.A) (hc:X.calm=true) (B:ay X.N X.env.scope scope N' tn idx)
  (h0:scope.names.lookup (".0" : br)=some .local) (uA:scope.isCoroutine=false) (rF:X.env.code=.ref c) (hd:u7 X.base c P) (jg:∃bm ob,X1 X.base mainGlobals X.mg bm ob)
  (hi:PI X tg iter wi) (hs:∀x,genFold iter X.env x=pure x) (I:Inv X pins σ H s) (h:Mb P wi R σ H)
  (q:∀J H3 a s5 Y it fp cy gn pp,SW X pins σ N' scope tn idx k elt tg iter ifs pos J H3 a s5 Y it fp cy gn pp->R J H3->QQ (.ref a) s5) :
  wpAny (model X.prog X.w) X.A (eval (fF elt tg iter ifs scope pos) X.env) QQ X.xe s :=by
 obtain ⟨cl,fE,c9,eS⟩:=eO (scope:=scope) (env:=X.env) fun n hn=>I.ok.has n ((B.2.1 _ hn).2.2 rfl)
 refine wpAny_GeneratorExp_make uA fE (fun y hy=>(B.2.1 y hy).1) h0 B.1 hr.depth (thn (hi pins s σ H _ I h) fun xv s1 h1=>thn h1 fun nT s2 h2=>?_) hs
 obtain ⟨it,fp,cy,J,H2,e,I2,T,iC,f2,⟨ps,hP,CM⟩,q2⟩:=h2
 subst e
 refine ⟨I2.nolimit,sZ I2 rF hd hP CM fun code mB s3 Md I3 kp VY=>?_⟩
 obtain ⟨bm,ob,bmod⟩:=jg
 have wD:=bmod.keeps I3.bk
 refine wpAny_builtinsFor (by rw [I3.ok.glob];exact wD.ns) wD.name wD.ne wD.obj wD.cls wD.dict wD.data ?_
 intro h' B6 iE
 have QX:∀b∈fp,b≠P:=fun b hb z=>by have:=(f2 b hb).1;rw [z,hP] at this;cases this
 have ug:cy 0 s3.heap:=T.keep _ _ _ iC fun b hb o e=>kp b o (QX b hb) e
 have nJ:∀b∈fp,b<s3.heap.objs.size:=fun b hb=>let ⟨o,e,_⟩:=T.obj _ _ ug b hb;ii e
 have f3:∀b∈fp,dS X pins (upd H2 P (.dy mB)) b:=fun b hb=>⟨by rw [aj (QX b hb)];exact (f2 b hb).1,(f2 b hb).2⟩
 have hsz:h'.objs.size=s3.heap.objs.size+1 :=by rw [iE.1,ww]
 have PD:∀b o,s3.heap.get? b=some o->h'.get? b=some o:=fun b o e=>iE.extBut b o (kw (ii e)) (bv _ e)
 have QY:Gn s3.gens.size (s3.gens.push (.fresh (.compStart (fF elt tg iter ifs scope pos) 0 (.ref it) .none (genEnv scope cl s3.heap.objs.size code builtinsNs X.env)))):=⟨X3.push I3.bare.1 rfl,by rw [Array.size_push];exact DO _⟩
 have QZ:Inv X pins σ (upd H2 P (.dy mB)) {s3 with gens:=s3.gens.push (.fresh (.compStart (fF elt tg iter ifs scope pos) 0 (.ref it) .none (genEnv scope cl s3.heap.objs.size code builtinsNs X.env)))}:=I3.oe ⟨rfl,rfl,QY⟩
 have hA:(X.A.in4.in1.over (.compLoop (fF elt tg iter ifs scope pos) 0 (.ref it) .none (genEnv scope cl s3.heap.objs.size code builtinsNs X.env)) []).frames=some (genEnv scope cl s3.heap.objs.size code builtinsNs X.env::X.stack) :=by
  show pushEnvs [_] (pushEnvs [] X.A.frames)=_
  rw [I.ok.frames];rfl
 have rG:dB k (X.A.in4.in1.over (.compLoop (fF elt tg iter ifs scope pos) 0 (.ref it) .none (genEnv scope cl s3.heap.objs.size code builtinsNs X.env)) []) :=by
  refine ⟨hr.hd,?_,?_⟩
  ·show X.A.depth+0+1+3 * k+5<recursionLimit
   have:=hr.dp
   omega
  ·show X.A.units+1+1+1+1+1+0+3+16 * k+200<cLine
   have:=hr.un
   omega
 generalize wF:({cls:=.type "generator",data:=.fields #[.int s3.gens.size 0,.str "<genexpr>" (s3.toks+1),.str (X.env.qual ++ "<genexpr>") (s3.toks+1+1)]}:l3)=pW
 have vI:∀b o,s3.heap.get? b=some o->(h'.push pW).get? b=some o:=fun b o e=>bv _ (PD b o e)
 have SX:pW.isFreed=false :=by rw [<- wF];rfl
 have T8:(h'.push pW).get? h'.objs.size=some pW:=en _ SX
 have T9:h'.objs.size≠s3.heap.objs.size :=by rw [hsz];exact Nat.succ_ne_self _
 have Ua:upd H2 P (.dy mB) h'.objs.size=none:=I3.hok.fresh (by rw [hsz];exact DO _)
 have I5:=ux (X:=X) (N':=N') (A':=X.A.in4.in1.over (.compLoop (fF elt tg iter ifs scope pos) 0 (.ref it) .none (genEnv scope cl s3.heap.objs.size code builtinsNs X.env)) []) (env':=genEnv scope cl s3.heap.objs.size code builtinsNs X.env) (stack':=genEnv scope cl s3.heap.objs.size code builtinsNs X.env::X.stack) (ex:=fp) (h1:=h'.push pW) (m0:=fun y=>if y = ".0" then some (.ref it) else none)
  (g':=s3.gens.push (.fresh (.compStart (fF elt tg iter ifs scope pos) 0 (.ref it) .none (genEnv scope cl s3.heap.objs.size code builtinsNs X.env)))) (tk:=s3.toks+1+1+1) (aO:=bK tn idx σ) QZ B.1 rfl I3.ok.blt.symm c9 (fun x hx=>by
   have n8:scope.names.lookup x=some .cell\/scope.names.lookup x=some .free:=hx
   rcases n8 with z|z
   ·exact absurd rfl ((B.2.1 _ (wn z)).1)
   ·exact eS x (wn z)) (fun z=>I.ok.hd z) hA (.inr ⟨rfl,rfl⟩) (ce _) f3 nJ (Un.kept vI) (I3.hok.kept vI) (I3.hok.fresh (ce _)) vI (B6.push _) (fun i x v e1 e2 e3=>by
   obtain ⟨fr,j,e4,e5⟩:=B.at e1 e2
   have kx:=(B.2.1 _ (wn fr)).2.2 rfl
   exact ⟨.inr fr,.inr kx,kx,j,e4,e5⟩) (B.len σ) (Gn.self QY)
 have Ub:h'.objs.size ∉ gH X.stack:=fun z=>by
  rcases io.mp (I3.iN _ z) with q|q
  ·exact Go (l7 I3.lt (by rw [hsz];exact DO _)) q
  ·exact I3.KN (by rw [hsz];exact DO _) q
 have vH:∀v,pW.data≠.cell v :=by rw [<- wF];intro v z;cases z
 have I6:=I5.sU (pins':=[(h'.objs.size,pW)]) (fun p hp=>by
  rcases jp.mp hp with rfl
  exact ⟨T8,Ua,T9,Ub,vH⟩)
 refine q J _ _ _ (Ma X N' scope cl s3.heap.objs.size code _ _ _ fp) it fp cy s3.gens.size [(h'.objs.size,pW)] ⟨I6,fun {τ H' s'} J'=>?_,?_,T,T.keep _ _ _ ug fun b _ o e=>vI b o e,fun b hb=>(f3 b hb).1,fun {H'} hn b hb=>?_,fun {τ H' s'} J'=>?_,rfl,rfl,hc,uA,fun {τ H' s'} J'=>?_,fun Pp hb=>hb cl _ code _ _ _ fp rG,rfl,rfl⟩ (q2 mB Md)
 ·have:=(J'.pin (h'.objs.size,pW) (lf _ (jp.mpr rfl))).1
  exact ⟨pW,_,_,this,by rw [<- wF],by rw [<- wF],by rw [<- wF]⟩
 ·exact Array.getElem?_push_size ..
 ·refine ⟨hn b hb,kw (nJ b hb),fun z=>?_,.inl hb,fun x c e=>(f2 b hb).2.2.2.2.1 x c (c9 x c e),fun p hp z=>?_⟩
  ·rcases io.mp (I2.iN b z) with q|q
   ·exact (f2 b hb).2.1 q
   ·exact (f2 b hb).2.2.1 q
  ·rcases jp.mp hp with rfl
   have z':h'.objs.size=b:=z
   have:=nJ b hb
   rw [<- z',hsz] at this
   exact absurd this (Nat.not_lt.mpr (DO _))
 ·exact QZ.vG J'.os J'.base J'.hok J'.bare fun b hb=>⟨(f3 b hb).2.2.2.1,(f3 b hb).2.1,(f3 b hb).2.2.2.2.1,(f3 b hb).2.2.2.2.2⟩
 ·have:=J'.bare.2
  have e:(Ma X N' scope cl s3.heap.objs.size code (X.A.in4.in1.over (.compLoop (fF elt tg iter ifs scope pos) 0 (.ref it) .none (genEnv scope cl s3.heap.objs.size code builtinsNs X.env)) []) {s3 with gens:=s3.gens.push (.fresh (.compStart (fF elt tg iter ifs scope pos) 0 (.ref it) .none (genEnv scope cl s3.heap.objs.size code builtinsNs X.env)))} (upd H2 P (.dy mB)) fp).s₀.gens.size=s3.gens.size+1 :=by
   show (s3.gens.push _).size=_
   rw [Array.size_push]
  rw [e] at this
  omega
theorem FD {prog:gc} {w:i0} {A:l8} {a:ag} {R':X4->ar->Prop} (In:Nat->ar->Prop)
  (turn:∀n s,In n s->wpAny (model prog w) A.in1 (pyNext (.ref a)) (fun r s1=>match r with
   |none=>R' (.ok (.ret (.bool true))) s1
   |some v=>∃c,v=.bool c/\if c=true then ∃m,m<n/\In m s1 else R' (.ok (.ret (.bool false))) s1) (fun e s'=>R' (.error e) s') s) :
  ∀(n:Nat) (s:ar),In n s->codeAny (model prog w) A (.builtin "all.loop" ⟨[.ref a],[]⟩) R' s :=by
 intro n
 induction n using Nat.strongRecOn with
 |ind n ih=>
  intro s h
  refine FS F.entry_all_loop ?_
  rw [Da WI _]
  show wpAny _ A.in1 (pyNext (.ref a)>>=_) _ _ s
  refine al (lm (turn n s h) (fun r s1 q=>?_) fun _ _ z=>z)
  cases r with
  |none=>exact al (EN (ca q))
  |some v=>
   obtain ⟨c,e,q⟩:=q
   subst e
   refine al (At (xL ?_))
   refine al (Xb ?_)
   cases c with
   |true=>
    simp only [if_true] at q ⊢
    obtain ⟨m,hm,hI⟩:=q
    exact ca ⟨KM WI _,ih m hm s1 hI⟩
   |false=>
    simp only [l9,if_false] at q ⊢
    exact al (EN (ca q))
theorem og {s:ar} {g:Nat} {x:PM} {n:Nat} (h:Gn n s.gens) (hx:x.bare=true):Gn s.gens.size (s.setGen g x).gens :=by
 refine ⟨fun y hy=>?_,?_⟩
 ·have LY:y∈s.gens.setIfInBounds g x:=hy
  rcases Array.mem_or_eq_of_mem_setIfInBounds LY with z|z
  ·exact h.1 y z
  ·rw [z];exact hx
 ·show s.gens.size<=(s.gens.setIfInBounds g x).size
  rw [Array.size_setIfInBounds]
  exact ce _
theorem CN {s:ar} {g:Nat} {x:PM} (h:g<s.gens.size):(s.setGen g x).gens[g]?=some x :=by
 show (s.gens.setIfInBounds g x)[g]?=_
 rw [Array.getElem?_setIfInBounds_self]
 simp [h]
theorem CO {Y:Cx} {A2:l8} {R:GenEnd} {Yp:Protocol} {n:Nat} {s₀ s:ar} {it:ag} {J:It} {fp:List ag} {cy:Nat->ij->Prop} (T:Turn Y.prog Y.w Y.K tg J fp it cy) {i:Nat} (st:cy i s.heap)
  (loop:Seg (model Y.prog Y.w) A2 R Yp n s₀ (.compLoop (fF elt tg iter ifs scope pos) 0 (.ref it) .none Y.env) ((model Y.prog Y.w).den (.compLoop (fF elt tg iter ifs scope pos) 0 (.ref it) .none Y.env)) [] s) :
  Seg (model Y.prog Y.w) A2 R Yp n s₀ (.compStart (fF elt tg iter ifs scope pos) 0 (.ref it) .none Y.env) ((model Y.prog Y.w).den (.compStart (fF elt tg iter ifs scope pos) 0 (.ref it) .none Y.env)) [] s :=by
 show Seg _ A2 _ _ _ s₀ _ ((compStart (fF elt tg iter ifs scope pos) 0 (.ref it) .none Y.env).onRaise (leaving Y.env)) [] s
 unfold compStart
 rw [Rs.onRaise_eq_wrap]
 show Seg _ A2 _ _ _ s₀ _ ((ask>>=_).wrap _ _ _ _) [] s
 refine AT (SZ ?_)
 split
 ·exact XU rfl loop
 ·first
   |exact AT (EN (AT (AM (AT (T.self _ i s _ _ st (XU rfl loop))))))
   |(refine AT (EN ?_);show Seg _ A2 _ _ _ s₀ _ ((standAt iter.pos>>=_).wrap _ _ _ _) [] s;exact AT (AM (AT (T.self _ i s _ _ st (XU rfl loop)))))
def Mf (P:ag) (tn:Nat) (idx:List Nat) (wi:TI) (g:TG) (tt:TT) (te:TE):TE:=fun σ H Q=>Mb P wi (fun J H1=>∃W:Nat->Nat->St->Hp->Prop,(∃m,W 0 m (bK tn idx σ) H1)/\L9 J g tt te false (fun b H2=>Q (.bl b) H2) W) σ H
theorem Mg {p wG:ut} (hr:dB (k+1) X.A) (hc:X.calm=true) (B:ay X.N X.env.scope scope N' tn idx)
  (h0:scope.names.lookup (".0" : br)=some .local) (uA:scope.isCoroutine=false) (rF:X.env.code=.ref c) (hd:u7 X.base c P) (jg:∃bm ob,X1 X.base mainGlobals X.mg bm ob)
  (uB:Gl X "all") (hm:X.mg "all" = none) (hi:PI X tg iter wi) (hg:qy X N' scope k fun Y=>PG Y tg g) (ht:qy X N' scope k fun Y=>gR Y ifs tt) (he:qy X N' scope k fun Y=>PE Y elt te)
  (hs:∀x,genFold iter X.env x=pure x :=by intro _;rfl):PE X (.Call (.Name "all" p) [fF elt tg iter ifs scope wG] [] pos) (Mf P tn idx wi g tt te) :=by
 refine ⟨?_⟩
 intro pins s σ H Q I h
 refine IF (gQ I uB hm PyProof.Rows.boot_all ?_)
 refine PyProof.Rows.callWith_builtin1 ?_ rfl rfl
 show wpAny _ _ (spliced ((false,eval (fF elt tg iter ifs scope wG) X.env)::[])) _ _ s
 refine ID (FC hr hc B h0 uA rF hd jg hi hs I h ?_)
 intro J H3 a s5 Y it fp cy gn pp G ⟨W,⟨m0,w0⟩,turn⟩
 refine Na ?_
 refine Xe F.kind_all F.plain_all F.entry_all (F.args_all1 _) ?_
 unfold uu.«all»
 refine al (m:=oneArg "all" _) (ca ?_)
 refine al (wpAny_pyIter_gen (G.isg G.inv) ?_)
 refine ca ⟨KM WI _,?_⟩
 have Mi:=FA (A2:=X.A.in4.in1) (pp:=pp) (R:=fun n s₀ r aD=>r=.ok .next/\∃τ H,Inv Y pp τ H aD/\Q (.bl true) H)
  (Yp:=fun n s₀ v s wB=>∃c τ H,v=.bool c/\Inv Y pp τ H s/\(c=false->Q (.bl false) H)/\(c≠false->∀dH,qw s dH->wB (.send .none) dH)) G.A G.xe G.calm G.co G.T (G.blk _ hg) (G.blk _ ht) (G.blk _ he) G.stat turn
  (fun n s₀ aD τ H J z=>⟨rfl,τ,H,J,z⟩) (fun n s₀ s wB c τ H J z1 z2=>⟨c,τ,H,rfl,J,z1,z2⟩)
 have hP:=G.prog
 have hW:=G.w
 rw [hP,hW] at Mi
 refine FD (A:=X.A) (fun n s=>(∃τ H,Inv Y pp τ H s)/\∃gs,s.gens[gn]?=some gs/\∀dH,qw s dH->gs.Goes (model X.prog X.w) X.A.in4.in1 (fun n s₀ r aD=>r=.ok .next/\∃τ H,Inv Y pp τ H aD/\Q (.bl true) H)
  (fun n s₀ v s wB=>∃c τ H,v=.bool c/\Inv Y pp τ H s/\(c=false->Q (.bl false) H)/\(c≠false->∀dH,qw s dH->wB (.send .none) dH)) n (.send .none) dH) ?_ (m0+1) s5 ?_
 ·rintro n s6 ⟨⟨τ,H6,I6⟩,gs,Uc,wF⟩
  have VN:=G.gsz I6
  refine wpAny_of_in1 (wpAny_of_in1 (wpAny_of_in1 ?_))
  show wpAny (model X.prog X.w) X.A.in4 (pyNext (.ref a)) _ _ s6
  refine wpAny_pyNext_genexpQ (A:=X.A.in4) (P:=fun n s₀ aD=>∃τ H,Inv Y pp τ H aD/\Q (.bl true) H) hr.hd I6.nolimit hr.depth (G.isg I6) Uc (wF _ ⟨rfl,rfl,og I6.bare rfl⟩) (fun v s1 Q0 hb hv=>?_) (fun s1 hp h' hk=>?_)
  ·obtain ⟨c,Q3,H1,e,I1,z1,z2⟩:=hv
   subst e
   refine ⟨c,rfl,?_⟩
   have CP:qw s1 (s1.setGen gn Q0):=⟨rfl,rfl,og I1.bare hb⟩
   cases c with
   |false=>
    rw [if_neg im]
    exact ⟨.bl false,H1,G.out (I1.oe CP),rfl,z1 rfl⟩
   |true=>
    rw [if_pos rfl]
    have z3:=z2 (by decide)
    cases n with
    |zero=>exact (z3 s1 ⟨rfl,rfl,I1.bare.self⟩).elim
    |succ m=>
     refine ⟨m,EQ _,⟨Q3,H1,I1.oe CP⟩,Q0,CN (G.gsz I1),fun dH o=>z3 dH ⟨o.1,o.2.1,?_⟩⟩
     exact CP.2.2.trans o.2.2
  ·obtain ⟨Q3,H1,I1,z1⟩:=hp
   have I2:=I1.kept (t':=s1.toks) hk
   have Ud:qw {s1 with heap:=h'} {s1.setGen gn .finished with heap:=h'}:=⟨rfl,rfl,og (s:=s1) I1.bare rfl⟩
   exact ⟨.bl true,H1,G.out (I2.oe Ud),rfl,z1⟩
 ·refine ⟨⟨_,_,G.inv⟩,_,G.st,fun dH o=>⟨rfl,?_⟩⟩
  have I7:=G.inv.oe o
  have Q4:cy 0 dH.heap :=by rw [o.1];exact G.tn0
  have q:=CO (iter:=iter) (ifs:=ifs) (scope:=scope) (pos:=wG) (elt:=elt) G.T Q4 (by rw [hP,hW];exact Mi m0 (m0+1) 0 _ _ dH dH (EQ _) w0 I7 Q4 G.fr)
  rw [hP,hW] at q
  exact q
end
section
variable {X:Cx} {tg l:dL} {tl:TE}
theorem cO {xs:List V} {us:List ap} (r:Vals xs us) {j:Nat} (h:j<us.toArray.size):RelV (xs.getD j .au) us.toArray[j] :=by
 have hl:=r.length
 have hj:j<xs.length :=by simpa [hl] using h
 obtain ⟨u,e,q⟩:=r.get (i:=j) (x:=xs[j]) (ac hj)
 have e2:us.toArray[j]=u :=by
  rw [bn] at e
  obtain ⟨h',e⟩:=e
  simpa using e
 rw [e2,bi,ac hj]
 exact q
theorem yH:cq X (.builtin "isinstance") (fun xs H Q=>∃x T t b,xs=[x,.ty T]/\ie X.K H x t/\W5 X.K t (.type T)=some b/\Q (.bl b) H) :=by
 intro pins s σ H xs us Q I r h
 obtain ⟨x,T,t,b,rfl,ty,e,q⟩:=h
 obtain ⟨u,w',rfl,r1,r2⟩:=vals2 r
 cases (show w'=GM T from r2)
 exact Ct I r1 ty e fun tk=>⟨.bl b,H,I.tok tk,rfl,q⟩
theorem pX:∀{xs:List V} {us:List ap},xs.length=us.length->(∀(i:Nat) (v:V),xs[i]?=some v->∃u,us[i]?=some u/\RelV v u)->Vals xs us
 | [],[],_,_=>.nil
 | [],_::_,h,_=>by simp at h
 |_::_,[],h,_=>by simp at h
 |x::xs,u::us,h,g=>by
          obtain ⟨u',e,r⟩:=g 0 x rfl
          have e':u=u':=by simpa using e
          subst e'
          exact .cons r (pX (by simpa using h) fun i v hv=>by
           obtain ⟨w,e2,r2⟩:=g (i+1) v (by simpa using hv)
           exact ⟨w,by simpa using e2,r2⟩)
theorem oh {e:dL} {te:TE} {p p1 p2 pos:ut} (hc:X.calm=true) (hg:Gl X "list") (hm:X.mg "list" = none) (CQ:Gl X "range") (CT:X.mg "range" = none) (he:PE X e te) (hs:starEach [e] X.env=[(false,eval e X.env)] :=by rfl) :
  PE X (.Call (.Name "list" p) [.Call (.Name "range" p1) [e] [] p2] [] pos) (fun σ H Q=>te σ H fun x H1=>∃j:Int,x=.int j /\ -(2 ^ 24)<=j/\j<=2 ^ 24/\∀l,H1 l=none->Q (.ref l) (upd H1 l (.lst ((hX j.toNat).map fun i=>V.int (i:Nat))))) :=by
 refine ⟨?_⟩
 intro pins s σ H Q I h
 refine IF (gQ I hg hm (by decide +kernel:bootBuiltins "list" = some (.type "list")) ?_)
 refine AL ?_ rfl rfl
 show wpAny _ _ (spliced ((false,eval (.Call (.Name "range" p1) [e] [] p2) X.env)::[])) _ _ s
 refine ID ?_
 refine Call_ (gQ I CQ CT boot_range (AL ?_ hs rfl))
 rw [hs]
 refine ID (thn (he pins s σ H _ I h) fun v s1 ⟨x,H1,I1,r1,q1⟩=>Na ?_)
 obtain ⟨j,rfl,b1,b2,q⟩:=q1
 obtain ⟨t,rfl⟩:=r1
 refine call_range_1 ?_
 refine Na ?_
 refine call_list_range (n:=j.toNat) (I1.ok.hd hc) (IsRange.new ..) (small_one (by omega) (by omega) (by omega) (by omega)) (by rw [PyProof.Rows.rangeSize_nat];simp) (by omega) fun h' tk gM c' hk hS hit=>?_
 have I2:Inv X pins σ H1 {s1 with heap:=s1.heap.push {cls:=.type "range",data:=.fields #[.int 0 s1.toks,.int j t,.int 1 (s1.toks+1)]},toks:=s1.toks+1+1}:=I1.kept fun b o e=>bv _ e
 obtain ⟨hsz,kJ⟩:=hit
 have rv:Vals ((hX j.toNat).map fun i=>V.int (i:Nat)) gM.toList :=by
  refine pX (by simpa using hsz.symm) fun i v e=>?_
  rw [c8] at e
  cases q2:(hX j.toNat)[i]? with
  |none=>rw [q2] at e;cases e
  |some k=>
   rw [q2] at e
   have ek:k=i :=by
    obtain ⟨_,e3⟩:=bn.mp q2
    simpa using e3.symm
   have hi:i<gM.size :=by
    have:=(bn.mp q2).1
    rw [JJ] at this
    omega
   obtain ⟨t2,e4⟩:=kJ i gM[i] (by simp [hi])
   refine ⟨gM[i],by simp [hi],?_⟩
   rw [e4]
   have e5:v=V.int (k:Nat):=(i4 e).symm
   rw [e5,ek]
   exact ⟨t2,by simp⟩
 have ob:ObjOk X.prog X.w (upd H1 (s1.heap.push {cls:=.type "range",data:=.fields #[.int 0 s1.toks,.int j t,.int 1 (s1.toks+1)]}).objs.size (.lst ((hX j.toNat).map fun i=>V.int (i:Nat)))) h' (s1.heap.push {cls:=.type "range",data:=.fields #[.int 0 s1.toks,.int j t,.int 1 (s1.toks+1)]}).objs.size (.lst ((hX j.toNat).map fun i=>V.int (i:Nat))) :=by
  refine ⟨?_,gM.toList,c',rv,by simpa using hS⟩
  rw [cb,JJ]
  exact ln (show j.toNat<=2 ^ 24 by omega) (by decide)
 exact ⟨.ref _,_,I2.laid (t':=tk) hk (ce _) ob,rfl,q _ (I2.hok.fresh (ce _))⟩
end
theorem rH:bootBuiltins "int" = some (.type "int") :=by decide +kernel
theorem rJ:bootBuiltins "str" = some (.type "str") :=by decide +kernel
theorem tj:bootBuiltins "bool" = some (.type "bool") :=by decide +kernel
theorem eU:bootBuiltins "tuple" = some (.type "tuple") :=by decide +kernel
theorem jn:bootBuiltins "list" = some (.type "list") :=by decide +kernel
theorem oi:bootBuiltins "min" = some (.builtin "min") :=by decide +kernel
theorem rK:bootBuiltins "max" = some (.builtin "max") :=by decide +kernel
theorem Mj:bootBuiltins "abs" = some (.builtin "abs") :=by decide +kernel
theorem aF:bootBuiltins "isinstance" = some (.builtin "isinstance") :=by decide +kernel
structure Bl (mg:br->Option ap):Prop where
 len_:mg "len" = none
 range_:mg "range" = none
 min_:mg "min" = none
 max_:mg "max" = none
 abs_:mg "abs" = none
 list_:mg "list" = none
 tuple_:mg "tuple" = none
 int_:mg "int" = none
 str_:mg "str" = none
 bool_:mg "bool" = none
 isinstance_:mg "isinstance" = none
 all_:mg "all" = none
 set_:mg "set" = none
 sorted_:mg "sorted" = none
 zip_:mg "zip" = none
 enumerate_:mg "enumerate" = none
 sum_:mg "sum" = none
 reversed_:mg "reversed" = none
 divmod_:mg "divmod" = none
 any_:mg "any" = none
 ValueError_:mg "ValueError" = none
structure Df (K:ba) (mg:br->Option ap) (x:br) (st:tz) (ps:List br) (f:ag) (fd:l5):Prop where
 fn:uw K x x st f fd
 bd:Binds K fd ps []
 mg:mg x=some (.ref f)
structure Hy (base:ij) (fd:l5) (c P:ag):Prop where
 code:fd.code=.ref c
 hd:u7 base c P
section
variable {P:gc} {w:i0} {K:ba} {mg:br->Option ap} {base:ij}
theorem uw.Ue {x qual:br} {st:tz} {f:ag} {fd:l5} {N ps:List br} {k:Nat} {sp:Sp} (F:uw K x qual st f fd) (S:aT N ps (ai st)) (len:∀vs H Q E,sp vs H Q E->vs.length=ps.length)
  (rl:∀(A:l8) (outer:List IR) (s:ar) (H:Hp) (vs:List V) (Q:VK) (E:XK),dB k (A.deeper (envOfC qual (ai st) s.heap.objs.size f fd.code))->sp vs H Q E->
   ∃t,iB (ig bg P w K mg base N qual (ai st) f fd.code A outer s H E).ud (eA st) t/\t {nx:=fun _ H'=>Q .au H',rt:=Q} (start N vs) H):FnOk P w K mg base bg (k+1) f fd ps sp :=by
 obtain ⟨oc,od,kV,doc,pm,an,eZ,ct,nW,rfl,lk,iO⟩:=F.ex
 refine Hs lk iO S len fun A outer s H vs Q E hr pU=>?_
 obtain ⟨t,h,q⟩:=rl A outer s H vs Q E hr pU
 exact ⟨t,h.ud,q⟩
end
def VZ:V->Bool | .int _=>true|_=>false
def below (m:Int):V->Bool | .int i=>decide (0<=i) && decide (i<m)|_=>false
structure a9 (net:List (List Int)) (w:Nat):Prop where
 one:1<=net.length
 nine:net.length<=9
 wid:w=2\/w=3
 row:∀r∈net,r.length=w/\∀g∈r,0<=g/\g<(net.length:Int)
theorem j6 {α β:Type} {F:α->β->Prop}:∀{xs:List α} {ys:List β} {i:Nat} {y:β},wp F xs ys->ys[i]?=some y->∃x,xs[i]?=some x/\F x y
 |_,_,_,_,.nil,e=>by simp at e
 |_,_,0,_,.cons f _,e=>by simp at e;subst e;exact ⟨_,rfl,f⟩
 |_,_,i+1,y,.cons _ t,e=>by
          obtain ⟨x,h1,h2⟩:=j6 (i:=i) (y:=y) t (by simpa using e)
          exact ⟨x,by simpa using h1,h2⟩
def Hz (tb:List ag) (H:Hp):Prop:=∀p∈tb,Tb p H
def PF (H:Hp) (b:ag):Prop:=∃c m:Int,H b=some (.lst [.int c,.int m])/\0<=c/\0<=m
def Runs (J:It) (ys:List V) (H:Hp):Prop:=∀i,(i<ys.length->J.go i H/\∀x H',J.yld i H x H'->H'=H/\ys[i]?=some x)/\(ys.length<=i->J.stop i H)
theorem FE {K:ba} {a:ag} {ys:List V} {H:Hp} (h:dh K H a ys):Runs (Lc K a) ys H:=fun i=>
 ⟨fun hi=>⟨⟨ys,ys[i],h,ac hi⟩,fun x H' y=>⟨y.1,y.2 ys h⟩⟩,fun hi=>⟨ys,h,hi⟩⟩
theorem CU {K:ba} {a:ag} {ys:List V} {H:Hp} (h:bH K H a ys):Runs (Lb K a) ys H:=fun i=>
 ⟨fun hi=>⟨⟨ys,ys[i],h,ac hi⟩,fun x H' y=>⟨y.1,y.2 ys h⟩⟩,fun hi=>⟨ys,h,hi⟩⟩
theorem mX {lo:Int} {n:Nat} {H:Hp}:Runs (B9 lo n) ((hX n).map fun i=>V.int (lo+(i:Nat))) H:=fun i=>by
 have el:((hX n).map fun i=>V.int (lo+(i:Nat))).length=n :=by simp
 rw [el]
 refine ⟨fun hi=>⟨hi,fun x H' y=>?_⟩,fun hi=>hi⟩
 obtain ⟨e1,e2⟩:=y
 refine ⟨e1,?_⟩
 rw [e2,c8,AC hi]
 rfl
section
variable {X:Cx} {K:ba}
theorem zx (h:X.K=K):nX X (QP K):=h▸LQ
theorem CV (h:X.K=K):cq X (.builtin "len") (fun xs H Q=>∃x n,xs=[x]/\Lx K x H n/\Q (.int n) H):=h▸Fs
theorem vp (h:X.K=K):cq X (.type "list") (fun xs H Q=>∃p ys,xs=[.ref p]/\(bH K H p ys\/dh K H p ys)/\∀l,H l=none->Q (.ref l) (upd H l (.lst ys))):=h▸wm
theorem tm (h:X.K=K):cq X (.type "tuple") (fun xs H Q=>∃p ys,xs=[.ref p]/\((bH K H p ys/\∀l,H l=none->Q (.ref l) (upd H l (.tup ys)))\/(dh K H p ys/\Q (.ref p) H))):=h▸vo
theorem wH (h:X.K=K):cq X (.builtin "isinstance") (fun xs H Q=>∃x T t b,xs=[x,.ty T]/\ie K H x t/\W5 K t (.type T)=some b/\Q (.bl b) H):=h▸yH
theorem FG {tg l:dL} {tl:TE} (h:X.K=K) (hl:PE X l tl):PI X tg l (Hl K tl):=h▸IU hl
theorem Ji {tg l:dL} {tl:TE} (h:X.K=K) (hl:PE X l tl):PI X tg l (Ld K tl):=h▸Le hl
variable {o e:dL} {es:List dL} {to:TE} {t:TA} {name:br} {apos aU:ut} {T id:String} {r:V->List V->Hp->VK->Prop}
theorem Jj (h:X.K=K) (pa:SS T) (slot:X6 T name id) (kI:typeOf (.builtin id)=pure (.type "method_descriptor")) (hm:wj X id r) (ho:PE X o to) (fD:attributeBase o name X.env (eval o X.env)=eval o X.env :=by rfl) (hline:(apos.endLine==aU.line)=true :=by rfl) :
  PE X (.Call (.Attribute o name apos) [] [] aU) (LU K T r to):=h▸LV pa slot kI hm ho fD hline
theorem Mk (h:X.K=K) (pa:SS T) (slot:X6 T name id) (kI:typeOf (.builtin id)=pure (.type "method_descriptor")) (hm:wj X id r) (ho:PE X o to) (ha:PA X (e::es) t) (fD:attributeBase o name X.env (eval o X.env)=eval o X.env :=by rfl)
  (mS:((backTo aU (starEach (e::es) X.env)).all (fun x => !x.1) && (backToKw aU (keywordEach [] X.env)).all (fun x=>x.1.isSome)
   && decide ((e::es).length+([]:List No).length+(if ([]:List No).isEmpty then 0 else 1)<30))=true :=by rfl)
  (hline:(apos.endLine==aU.line)=true :=by rfl) (hs:starEach (e::es) X.env=(false,eval e X.env)::starEach es X.env :=by rfl) (iQ:(backTo aU (starEach es X.env)).any (·.1)=false :=by rfl) :
  PE X (.Call (.Attribute o name apos) (e::es) [] aU) (QR K T r to t):=h▸Pw pa slot kI hm ho ha fD mS hline hs iQ
end
abbrev bV (K:ba) (x:br) (st:tz):Prop:=
 ∃(f:ag) (oc:ap) (od:Option ag) (sl:Array (Option ap)) (kV dc pm:ap) (an:Option ag) (cd ct:ap),
  qr K mainGlobals x=some (some (.ref f))/\K.lookup f=some ⟨oc,od,.func (Gc x x (iD st) (eA st) (ai st) .none kV dc pm an cd ct),sl⟩/\Wr K cd x=true/\Sm K (.ref f)=true
theorem aY {K:ba} {x:br} {st:tz} {f:ag} {oc:ap} {od:Option ag} {sl:Array (Option ap)} {kV dc pm:ap} {an:Option ag} {cd ct:ap} (a:qr K mainGlobals x=some (some (.ref f)))
  (l:K.lookup f=some ⟨oc,od,.func (Gc x x (iD st) (eA st) (ai st) .none kV dc pm an cd ct),sl⟩) (c:Wr K cd x=true) (k:Sm K (.ref f)=true):bV K x st:=⟨f,oc,od,sl,kV,dc,pm,an,cd,ct,a,l,c,k⟩
section
variable {K:ba} {mg:br->Option ap} {h base:ij}
theorem bV.df {x:br} {st:tz} (d:bV K x st) (X:K.In h) (G:h.Ns mainGlobals mg) (ps:List br)
  (hb:∀(kV doc pm:ap) (an:Option ag) (eZ ct:ap) (us:List ap),us.length=ps.length->bindArgs (Gc x x (iD st) (eA st) (ai st) .none kV doc pm an eZ ct) ⟨us,[]⟩=pure (ps.zip us)) :
  ∃f fd,Df K mg x st ps f fd :=by
 obtain ⟨f,oc,od,sl,kV,dc,pm,an,cd,ct,a,l,c,k⟩:=d
 have F:=L4 (st:=st) l c k
 exact ⟨f,_,F,F.binds hb,WF X G a⟩
theorem CW {x:br} {st:tz} {ps:List br} {f p:ag} {fd:l5} (D:Df K mg x st ps f fd) (X:K.In h)
  (t:∃f o fd c,mg x=some (.ref f)/\h.get? f=some o/\o.data=.func fd/\fd.code=.ref c/\u7 h c p) (tr:∀c p,u7 h c p->u7 base c p):∃c,Hy base fd c p :=by
 obtain ⟨f',o,Ug,c,e1,e2,e3,e4,e5⟩:=t
 obtain ⟨oc,od,kV,doc,pm,an,eZ,ct,nW,rfl,lk,iO⟩:=D.fn.ex
 have e:=D.mg.symm.trans e1
 cases e
 have q:=(X _ _ lk).symm.trans e2
 cases q
 cases e3
 exact ⟨c,e4,tr _ _ e5⟩
theorem Df.bind1 {x y:br} {st:tz} {f:ag} {fd:l5} (D:Df K mg x st [y] f fd) (s:ar) (v:ap)
  (hb:∀(kV doc pm:ap) (an:Option ag) (eZ ct:ap) (u:ap),bindArgs (Gc x x (iD st) (eA st) (ai st) .none kV doc pm an eZ ct) ⟨[u],[]⟩=pure [(y,u)]):XA s fd ⟨[v],[]⟩ [(y,v)] :=by
 obtain ⟨oc,od,kV,doc,pm,an,eZ,ct,nW,rfl,lk,iO⟩:=D.fn.ex
 exact .of_eq (hb kV doc pm an eZ ct v)
theorem jC {α β:Type} {F:α->β->Prop} {a:α} {r:List α} {t:List β} (h:wp F (a::r) t):∃b t',t=b::t'/\F a b/\wp F r t':=by
 cases h with
 |cons x y=>exact ⟨_,_,rfl,x,y⟩
theorem recs_of {q:gc} {nK:List br} (h:(nK.all fun y=>(recsOf q).any fun r=>decide (r.name=y))=true):∀y∈nK,∃r∈recsOf q,r.name=y:=fun y hy=>by
 have:=wb.mp h y hy
 obtain ⟨r,hr,e⟩:=NH.mp this
 exact ⟨r,hr,of_decide_eq_true e⟩
end
def mC (xs:Array Nat):Prop:=xs.toList.Pairwise (· < ·)
theorem rL {xs:Array Nat} (h:mC xs) {i j:Nat} (wI:i<j) (hj:j<xs.size):xs[i]<xs[j] :=by
 have:=List.pairwise_iff_getElem.mp h i j (by simpa using Wn wI hj) (by simpa using hj) wI
 simpa using this
theorem below_go {xs:Array Nat} {v:Nat} (h:mC xs):∀(fuel lo hi:Nat),hi - lo<=fuel->lo<=hi->hi<=xs.size->(∀i (cp:i<xs.size),i<lo->xs[i]<v)->(∀i (cp:i<xs.size),hi<=i->v<=xs[i])->
  Wx xs v fuel lo hi<=xs.size/\(∀i (cp:i<xs.size),i<Wx xs v fuel lo hi->xs[i]<v)/\∀i (cp:i<xs.size),Wx xs v fuel lo hi<=i->v<=xs[i]
 |0,lo,hi,hf,h1,h2,ha,hb=>by
          have e:lo=hi :=by omega
          subst e
          exact ⟨h2,ha,hb⟩
 |fuel+1,lo,hi,hf,h1,h2,ha,hb=>by
          unfold Wx
          by_cases bb:lo<hi
          ·rw [if_pos bb]
           dsimp only
           have hm:(lo+hi) / 2<xs.size :=by omega
           have e:xs.getD ((lo+hi) / 2) v=xs[(lo+hi) / 2] :=by simp [WV,hm]
           rw [e]
           by_cases hc:xs[(lo+hi) / 2]<v
           ·rw [if_pos hc]
            refine below_go h fuel _ _ (by omega) (by omega) h2 (fun i cp hl=>?_) hb
            by_cases ei:i=(lo+hi) / 2
            ·subst ei;exact hc
            ·exact Wn (rL h (show i<(lo+hi) / 2 by omega) hm) hc
           ·rw [if_neg hc]
            refine below_go h fuel _ _ (by omega) (by omega) (by omega) ha (fun i cp hl=>?_)
            by_cases ei:i=(lo+hi) / 2
            ·subst ei;exact WH hc
            ·exact ln (WH hc) (LG (rL h (show (lo+hi) / 2<i by omega) cp))
          ·rw [if_neg bb]
           have e:lo=hi :=by omega
           subst e
           exact ⟨h2,ha,hb⟩
theorem qz {xs:Array Nat} (v:Nat) (h:mC xs):u8 xs v<=xs.size/\(∀i (cp:i<xs.size),i<u8 xs v->xs[i]<v)/\∀i (cp:i<xs.size),u8 xs v<=i->v<=xs[i]:=
 below_go h _ _ _ (by omega) (lw _) (ce _) (fun i _ z=>absurd z (TM _)) (fun i z z'=>absurd z (Nat.not_lt.mpr z'))
theorem AF {xs:Array Nat} {v:Nat} (h:mC xs) (hn:xs[u8 xs v]?≠some v):mC (rc.insertAt xs (u8 xs v) v) :=by
 obtain ⟨b0,b1,b2⟩:=qz v h
 generalize u8 xs v=p at *
 unfold mC rc.insertAt
 have e:((xs.extract 0 p).push v++xs.extract p xs.size).toList=xs.toList.take p++[v]++xs.toList.drop p :=by
  simp
  exact PP (by simp)
 rw [e]
 have hl:∀y∈xs.toList.take p,y<v:=fun y hy=>by
  obtain ⟨i,hi,rfl⟩:=List.mem_take_iff_getElem.mp hy
  have cZ:i<p/\i<xs.size :=by simpa [Nat.lt_min] using hi
  simpa using b1 i cZ.2 cZ.1
 have hr:∀y∈xs.toList.drop p,v<y:=fun y hy=>by
  obtain ⟨i,hi,rfl⟩:=List.mem_drop_iff_getElem.mp hy
  have cZ:p+i<xs.size :=by rw [Nat.add_comm];simpa using hi
  have h1:v<=xs[p+i]:=b2 (p+i) cZ (Tk _ _)
  have h2:v≠xs[p+i]:=fun z=>by
   by_cases Uh:i=0
   ·subst Uh
    exact hn (by rw [Nat.add_zero] at cZ;rw [Nd cZ];simpa using z.symm)
   ·have q:=rL h (show p<p+i by omega) cZ
    have q2:=b2 p (by omega) (ce _)
    omega
  have:xs.toList[p+i]'(by simpa using cZ)=xs[p+i] :=by simp
  rw [this]
  omega
 have hp:=List.take_append_drop p xs.toList
 have Ui:(xs.toList.take p++xs.toList.drop p).Pairwise (· < ·) :=by rw [hp];exact h
 obtain ⟨q1,q2,q3⟩:=WW.mp Ui
 refine WW.mpr ⟨WW.mpr ⟨q1,List.pairwise_singleton _ _,fun a ha b hb=>?_⟩,q2,fun a ha b hb=>?_⟩
 ·rw [jp] at hb;subst hb;exact hl a ha
 ·rcases l6.mp ha with ha|ha
  ·exact q3 a ha b hb
  ·rw [jp] at ha;subst ha;exact hr b hb
structure cu (w:i0) (t:rc):Prop where
 dum:t.dummies=#[]
 ris:mC t.place
 led:t.led = !w.params.followText "set-order"
theorem CY (n:Nat):mC (Array.range n) :=by
 unfold mC
 rw [Array.toList_range]
 exact WD
theorem cu.standIn {w:i0} {t:rc} (h:cu w t) (n:Nat):cu w (t.standIn n):=⟨rfl,CY n,h.led⟩
theorem cu.orStandIn {w:i0} {t:rc} (h:cu w t) (n:Nat):cu w (t.orStandIn n) :=by
 unfold rc.orStandIn
 split
 ·exact h
 ·exact h.standIn n
theorem zy (j:Nat):rc.has #[] j=false :=by
 unfold rc.has
 have:(#[]:Array Nat)[u8 #[] j]?=none :=by simp
 rw [this]
 rfl
theorem wJ {w:i0} {t:rc} (h:cu w t) {hashAt:Nat->Int} {hh:Int} {j:Nat} {d:Option Nat}:∀(fuel:Nat) (p:rc.Probe),p.dummy=none->Xu t hashAt hh fuel p=some (.empty j d)->t.slot j=.empty/\d=none
 |0,p,_,e=>by simp [Xu] at e
 |fuel+1,p,hp,e=>by
          unfold Xu at e
          have SY:∀p:rc.Probe,(t.advance p).dummy=p.dummy:=fun p=>by
           unfold rc.advance
           split <;> rfl
          cases hs:t.slot p.j with
          |empty=>
           rw [hs] at e
           have e':=i4 e
           injection e' with e1 e2
           exact ⟨by rw [<- e1];exact hs,by rw [<- e2];exact hp⟩
          |dummy=>
           exfalso
           unfold rc.slot at hs
           dsimp only at hs
           rw [h.dum,zy] at hs
           split at hs <;> simp at hs
          |live i=>
           rw [hs] at e
           dsimp only at e
           split at e
           ·simp at e
           ·exact wJ h fuel _ (by rw [SY];exact hp) e
theorem AG {w:i0} {t:rc} (h:cu w t) {j:Nat} (e:t.slot j=.empty):t.place[u8 t.place j]?≠some j:=fun z=>by
 unfold rc.slot at e
 dsimp only at e
 rw [z] at e
 simp at e
theorem cu.put {w:i0} {t:rc} (h:cu w t) {j:Nat} (e:t.slot j=.empty):cu w (t.put j).1 :=by
 unfold rc.put
 refine ⟨?_,AF h.ris (AG h e),h.led⟩
 show (if rc.has t.dummies j then _ else t.dummies)=#[]
 rw [h.dum,zy]
 rfl
theorem cu.layNew {w:i0} {t:rc} (h:cu w t) (es:Array (Int×ap)) (hh:Int) (x:ap):cu w (layNew t es hh x).2.1 :=by
 unfold PySem.layNew
 split
 ·rename_i slot qA hf
  unfold rc.freeSlot at hf
  refine (cu.put h ?_).orStandIn _
  split at hf
  ·rename_i j dummy hp
   obtain ⟨e1,e2⟩:=wJ h _ _ rfl hp
   subst e2
   have:=i4 hf
   injection this with z1 _
   rw [<- z1]
   exact e1
  ·cases hf
 ·exact h.standIn _
theorem FH {α:Type} (f:Nat->Option α) (n:Nat):mC (((hX n).filterMap fun j=>(f j).map (j,·)).map (·.1)).toArray :=by
 unfold mC
 have e:(((hX n).filterMap fun j=>(f j).map (j,·)).map (·.1)).toArray.toList=(hX n).filter fun j=>(f j).isSome :=by
  rw [List.toList_toArray]
  induction hX n with
  |nil=>rfl
  |cons a l ih=>
   cases hf:f a with
   |none=>simp [OE,hf,ih]
   |some b=>simp [OE,hf,ih]
 rw [e]
 exact Xj.filter _ WD
theorem cu.PH {w:i0} {t:rc} (h:cu w t) (es:Array (Int×ap)) (wanted:Nat):cu w (relayAll t es wanted).2.1 :=by
 unfold relayAll
 split
 ·rename_i t' order hr
  dsimp only
  split
  ·unfold rc.relaid rc.laid at hr
   simp only [Option.bind_eq_bind,Ws,Option.pure_def] at hr
   obtain ⟨owner,_,hr⟩:=hr
   have:=i4 hr
   injection this with z1 _
   subst z1
   exact ⟨rfl,FH (fun j=>owner.getD j none) _,h.led⟩
  ·exact h.standIn _
 ·exact h.standIn _
theorem cu.FI {w:i0} {t:rc} (h:cu w t) (b:Bool):cu w (if b=true then t else {t with plain:=false}) :=by
 split
 ·exact h
 ·exact ⟨h.dum,h.ris,h.led⟩
def eV (e:Int×ap):Int:=match e.2 with | .int i _=>i|_=>0
def cS (P:gc) (w:i0) (h:ij) (a:ag) (ns:List Int):Prop:=
 ∃o es ep t,h.get? a=some o/\o.ExactSet/\o.data=.set es ep t/\W7 (intKind P w) es.toList/\(es.toList.map eV).Perm ns/\ns.Nodup/\es.size<scanBound/\t.fits es.size=true/\cu w t
theorem cS.dA {P:gc} {w:i0} {h h':ij} {a:ag} {ns:List Int} (x:cS P w h a ns) (k:∀o,h.get? a=some o->h'.get? a=some o):cS P w h' a ns:=
 let ⟨o,es,ep,t,e,r⟩:=x;⟨o,es,ep,t,k o e,r⟩
def oj (P:gc) (w:i0) (a:ag) (ns:List Int):HO:=.ext fun h=>cS P w h a ns
def fi (ns:List Int) (m:Int):List Int:=if m∈ns then ns else ns++[m]
theorem yI {P:gc} {w:i0} {es:List (Int×ap)} (h:W7 (intKind P w) es) {k:Int}:(∃e∈es,(intKind P w).is k e.2=true) ↔ k∈es.map eV :=by
 constructor
 ·rintro ⟨e,he,hk⟩
  obtain ⟨t,e2⟩:=Wv (k:=k) (v:=e.2) hk
  exact i8.mpr ⟨e,he,by unfold eV;rw [e2]⟩
 ·intro hm
  obtain ⟨e,he,q⟩:=i8.mp hm
  obtain ⟨⟨k',jL,_⟩,_⟩:=h e he
  obtain ⟨t,e2⟩:=Wv (k:=k') (v:=e.2) jL
  have:k'=k :=by rw [<- q];unfold eV;rw [e2]
  exact ⟨e,he,this▸jL⟩
section
variable {P:gc} {w:i0} {A:l8} {E:ap->ar->Prop} {s:ar}
theorem rM {h:ij} {a:ag} {o:l3} {es:Array (Int×ap)} {ep:Nat} {t:rc} (ho:h.get? a=some o) (hex:o.ExactSet) (hd:o.data=.set es ep t)
  {jJ:Array (Int×ap)} {t':rc} {ns:List Int} (kM:W7 (intKind P w) jJ.toList) (hp:(jJ.toList.map eV).Perm ns) (hn:ns.Nodup) (hb:jJ.size<scanBound) (hf:t'.fits jJ.size=true) (ht:cu w t') :
  (h.update a (Xz jJ t')).get? a=some {o with data:=.set jJ (ep+1) t'}/\cS P w (h.update a (Xz jJ t')) a ns :=by
 have hg:(h.update a (Xz jJ t')).get? a=some {o with data:=.set jJ (ep+1) t'}:=by
  have:=B0 (Xz jJ t') ho (by rw [putSet_of jJ t' hd];rfl)
  rw [putSet_of jJ t' hd] at this;exact this
 exact ⟨hg,_,jJ,ep+1,t',hg,hex,rfl,kM,hp,hn,hb,hf,ht⟩
theorem wK {g:Bool->Rs Unit} (hg:∀(b:Bool) (aD:ar) (Q':Unit->ar->Prop),Q' () aD->wpAny (model P w) A (g b) Q' E aD)
  {a:ag} {o:l3} {es:Array (Int×ap)} {ep:Nat} {t:rc} (ho:s.heap.get? a=some o) (hex:o.ExactSet) (hd:o.data=.set es ep t)
  {fL:Array (Int×ap)} {t2:rc} {ns:List Int} (wL:W7 (intKind P w) fL.toList) (CZ:(fL.toList.map eV).Perm ns) (hn:ns.Nodup)
  (rN:fL.size<scanBound) (uC:t2.fits fL.size=true) (zz:cu w t2) {qA:Bool} {R:Option Bool->ar->Prop}
  (h:∀h',v6 a s.heap h'->cS P w h' a ns->R (some true) {s with heap:=h'}) :
  wpAny (model P w) A (do
    storeSet a fL t2
    if (!qA && t2.tooFull)=true then do
      g (relayAll t2 fL (NE fL.size)).2.2
      storeSet a (relayAll t2 fL (NE fL.size)).1 (relayAll t2 fL (NE fL.size)).2.1
      pure (some true)
     else pure (some true)) R E s :=by
 refine al (wpAny_storeSet_of ho hd ?_ (Xv rN))
 obtain ⟨C2,C3⟩:=rM (P:=P) (w:=w) ho hex hd wL CZ hn rN uC zz
 have Ml:=AE s.heap a (Xz fL t2)
 split
 ·have hp:=relayAll_perm t2 fL (NE fL.size)
  have wq:=relayAll_fits t2 fL (NE fL.size)
  have CM:=zz.PH fL (NE fL.size)
  generalize relayAll t2 fL (NE fL.size)=Rl at hp wq CM ⊢
  obtain ⟨pY,t3,VI⟩:=Rl
  dsimp only at hp wq CM ⊢
  have hsz:pY.size=fL.size :=by rw [<- u4,hp.length_eq,u4]
  have zA:pY.size<scanBound :=by rw [hsz];exact rN
  refine al (hg _ _ _ (al (wpAny_storeSet_of C2 rfl ?_ (Xv zA))))
  obtain ⟨_,uD⟩:=rM (P:=P) (w:=w) C2 hex rfl (wL.perm hp) ((hp.map eV).trans CZ) hn zA wq CM
  exact ca (h _ (Ml.trans (AE _ a _)) uD)
 ·exact ca (h _ Ml C3)
theorem C4 {a:ag} {ns:List Int} {m:Int} {tk:Tok} {Q:Bool->ar->Prop} (hS:cS P w s.heap a ns) (rG:ns.length+1<scanBound)
  (h:∀h',v6 a s.heap h'->cS P w h' a (fi ns m)->Q (decide (m ∉ ns)) {s with heap:=h',toks:=s.toks+1}):wpAny (model P w) A (setAdd a (.int m tk)) Q E s :=by
 unfold setAdd
 refine At (al ((intKind P w).pyHash (k:=m) (intKind_is _ _ _ _) ?_))
 have md:(intKind P w).is m (.int m tk)=true:=intKind_is _ _ _ _
 obtain ⟨o,es,ep,t,ho,hex,hd,kM,hp,hn,hb,hf,ht⟩:=hS
 have Mm:∀k,(∃e∈es.toList,(intKind P w).is k e.2=true) ↔ k∈ns:=fun k=>(yI kM).trans hp.mem_iff
 have hlen:es.size=ns.length :=by rw [<- u4,<- hp.length_eq,cb]
 unfold setAddHashed setAddHashedIn
 refine At (al (Sc (s:={s with toks:=s.toks+1}) ho hd hf ?_))
 dsimp only
 rw [byScan_of (x:=.int m tk) rfl hb kM]
 simp only [↓reduceIte]
 unfold setAddByScan
 refine al (al (EN (al (wpAny_setScan_of md ho hd hf kM ?_))))
 cases hr:List.findIdx? (fun e=>(intKind P w).is m e.2) es.toList with
 |some j=>
  dsimp only
  obtain ⟨hj,Mp,_⟩:=List.findIdx?_eq_some_iff_getElem.mp hr
  have hm:m∈ns:=(Mm m).mp ⟨es.toList[j],r9 hj,Mp⟩
  have:=h s.heap (v6.refl a s.heap) (by unfold fi;rw [if_pos hm];exact ⟨o,es,ep,t,ho,hex,hd,kM,hp,hn,hb,hf,ht⟩)
  rw [decide_eq_false (fun z=>z hm)] at this
  exact ca (ca this)
 |none=>
  dsimp only
  have hm:m ∉ ns:=fun z=>by
   obtain ⟨e,he,q⟩:=(Mm m).mpr z
   have:=List.findIdx?_eq_none_iff.mp hr e he
   rw [q] at this;cases this
  have pC:=layNew_perm t es ((intKind P w).hash m) (.int m tk)
  have rO:=layNew_fits t es ((intKind P w).hash m) (.int m tk)
  have kN:=ht.layNew es ((intKind P w).hash m) (.int m tk)
  generalize layNew t es ((intKind P w).hash m) (.int m tk)=L at pC rO kN ⊢
  obtain ⟨fL,t1,qA,VO⟩:=L
  dsimp only at pC rO kN ⊢
  rw [Array.toList_push] at pC
  have wL:W7 (intKind P w) fL.toList:=(kM.push md rfl).perm pC
  have Mq:fi ns m=ns++[m] :=by unfold fi;rw [if_neg hm]
  have CZ:(fL.toList.map eV).Perm (fi ns m) :=by
   rw [Mq]
   refine (pC.map eV).trans ?_
   rw [mo]
   exact Pc.append hp (.refl _)
  have Q5:(fi ns m).Nodup :=by
   rw [Mq]
   exact KB.mpr ⟨hn,by simp,fun a ha b hb=>by rw [jp] at hb;rw [hb];exact fun z=>hm (z▸ha)⟩
  have rN:fL.size<scanBound :=by rw [<- u4,pC.length_eq,mf,u4,hlen];simpa using rG
  have Mr:∀(b:Bool) (aD:ar) (Q':Unit->ar->Prop),Q' () aD->wpAny (model P w) A (match b with|true=>rule "set.scan.the-table-gave-way" |false=>pure ()) Q' E aD:=
   fun b aD Q' hq=>by cases b <;> first|exact ca hq|exact EN hq
  have om:∀h',v6 a s.heap h'->cS P w h' a (fi ns m)->Q true {s with heap:=h',toks:=s.toks+1}:=by
   intro h' lB mD
   have:=h h' lB mD
   rw [decide_eq_true hm] at this
   exact this
  refine al (Mr _ _ _ ?_)
  split
  ·refine al ?_
   rw [hashByValue_scannable 8 (x:=.int m tk) rfl]
   refine ca (wK (P:=P) (w:=w) (s:={s with toks:=s.toks+1}) Mr ho hex hd wL CZ Q5 rN ?_ (kN.FI _) fun h' lB mD=>ca (om h' lB mD))
   split
   ·exact rO
   ·exact rc.fits_plain_off rO
  ·refine al (ca ?_)
   simp only [↓reduceIte]
   exact wK (P:=P) (w:=w) (s:={s with toks:=s.toks+1}) Mr ho hex hd wL CZ Q5 rN rO kN fun h' lB mD=>ca (om h' lB mD)
theorem AH {ns:List Int} (h:ns.Nodup) (m:Int):(fi ns m).Nodup :=by
 unfold fi
 split
 ·exact h
 ·rename_i hm
  exact KB.mpr ⟨h,by simp,fun a ha b hb=>by rw [jp] at hb;rw [hb];exact fun z=>hm (z▸ha)⟩
theorem FJ {ns:List Int} {m k:Int}:k∈fi ns m ↔ k∈ns\/k=m :=by
 unfold fi
 split
 ·rename_i hm
  exact ⟨.inl,fun h=>h.elim id fun e=>e▸hm⟩
 ·simp
theorem FK {ns:List Int} {m:Int}:(fi ns m).length<=ns.length+1 :=by
 unfold fi
 split
 ·omega
 ·simp
end
def cG (ns:List Int):List Int:=ns.foldl fi []
theorem C5 (ns:List Int) (m:Int):cG (ns++[m])=fi (cG ns) m :=by
 unfold cG
 rw [List.foldl_append]
 rfl
theorem rP (ns:List Int):(cG ns).Nodup :=by
 unfold cG
 have:∀(l acc:List Int),acc.Nodup->(l.foldl fi acc).Nodup:=fun l=>by
  induction l with
  |nil=>exact fun acc h=>h
  |cons a l ih=>exact fun acc h=>ih _ (AH h a)
 exact this ns [] .nil
theorem wM {ns:List Int} {k:Int}:k∈cG ns ↔ k∈ns :=by
 unfold cG
 have:∀(l acc:List Int),k∈l.foldl fi acc ↔ k∈acc\/k∈l:=fun l=>by
  induction l with
  |nil=>intro acc;simp
  |cons a l ih=>
   intro acc
   rw [List.foldl_cons,ih,FJ,io]
   constructor
   ·rintro ((h|h)|h)
    ·exact .inl h
    ·exact .inr (.inl h)
    ·exact .inr (.inr h)
   ·rintro (h|h|h)
    ·exact .inl (.inl h)
    ·exact .inl (.inr h)
    ·exact .inr h
 rw [this]
 simp
theorem FL (ns:List Int):(cG ns).length<=ns.length :=by
 unfold cG
 have:∀(l acc:List Int),(l.foldl fi acc).length<=acc.length+l.length:=fun l=>by
  induction l with
  |nil=>intro acc;simp
  |cons a l ih=>
   intro acc
   rw [List.foldl_cons,Db]
   have h1:=ih (fi acc a)
   have h2:=@FK acc a
   omega
 simpa using this ns []
section
variable {P:gc} {w:i0} {A:l8} {R:X4->ar->Prop} {I:ag} {fp wr:List ag} {G:Array PM->Array PM->Prop} {n:Nat} {St:Nat->ar->Prop}
theorem FN {vs:List Int} {Pv:Nat->ap->Prop} (W:WalksS P w A.in1 I fp wr G vs.length Pv St) (S:ag) (wN:S ∉ fp) (FO:∀(i:Nat) (v:ap),Pv i v->∃m t,vs[i]?=some m/\v=.int m t) (hb:vs.length+1<scanBound) :
  ∀(k i:Nat) (s:ar),vs.length - i=k->i<=vs.length->St i s->cS P w s.heap S (cG (vs.take i))->
   (∀s',Moved (S::wr) G s s'->cS P w s'.heap S (cG vs)->R (.ok (.ret .none)) s')->
   codeAny (model P w) A (.builtin "set.update.loop" ⟨[.ref S,.ref I],[]⟩) R s :=by
 have Q6:S ∉ wr:=fun h=>wN (W.sub _ h)
 have tq:∀b∈wr,b∈S::wr:=fun b hb=>db _ hb
 intro k
 induction k with
 |zero=>
  intro i s hk hi jY hS hR
  have jM:i=vs.length :=by omega
  subst jM
  refine FS F.entry_set_update_loop ?_
  rw [Da Wt _]
  show wpAny _ A.in1 (pyNext (.ref I)>>=_) _ _ s
  refine al (W.done s _ _ jY fun s' hm=>?_)
  rw [NJ] at hS
  exact ca (hR s' (hm.mono tq) (hS.dA fun o e=>hm.heap S _ Q6 e))
 |succ k ih=>
  intro i s hk hi jY hS hR
  have bb:i<vs.length :=by omega
  refine FS F.entry_set_update_loop ?_
  rw [Da Wt _]
  show wpAny _ A.in1 (pyNext (.ref I)>>=_) _ _ s
  refine al (W.item i s _ _ bb jY fun v s' hP S1 hm=>?_)
  obtain ⟨m,t,lC,rfl⟩:=FO i v hP
  have mD:cS P w s'.heap S (cG (vs.take i)):=hS.dA fun o e=>hm.heap S _ Q6 e
  show wpAny _ A.in1 (holding [XN m t] (setAdd S (.int m t))>>=_) _ _ s'
  have rG:(cG (vs.take i)).length+1<scanBound :=by
   have h1:=FL (vs.take i)
   rw [XC] at h1
   omega
  refine al (At (C4 mD rG fun h' lB uD=>?_))
  have Uj:cS P w h' S (cG (vs.take (i+1))) :=by
   rw [List.take_add_one,lC]
   show cS P w h' S (cG (vs.take i++[m]))
   rw [C5]
   exact uD
  refine ca ⟨KM Wt _,ih (i+1) _ (by omega) bb (W.frame _ s' _ _ S1 (DO _) fun b hb o e=>?_) Uj fun dH S3 S4=>?_⟩
  ·rw [lB.2 b (fun h:b=S=>wN (by rw [<- h];exact hb))];exact e
  ·refine hR dH (Moved.trans W.gtrans ((hm.mono tq).then_heap (DO _) fun b o hb e=>?_) S3) S4
   rw [lB.2 b (fun h:b=S=>hb (by rw [h];exact ff))];exact e
end
theorem sub_tuple_set:isSubtype (.type "tuple") (.type "set")=pure false :=by rw [W8];kernel_rfl
theorem tu:isSubtype (.type "tuple") (.type "frozenset")=pure false :=by rw [W8];kernel_rfl
section
variable {P:gc} {w:i0} {A:l8} {E:ap->ar->Prop} {s:ar}
abbrev jo (w:i0):l3:={cls:=.type "set",dict:=none,data:=.set #[] 0 (.fresh 0 0 (!w.params.followText "set-order"))}
theorem Jk {h:ij}:cS P w (h.push (jo w)) h.objs.size []:=⟨_,#[],0,_,en _ rfl,⟨rfl,rfl,rfl⟩,rfl,fun e he=>by simp at he,by simp,by simp,by decide,by rfl,rfl,Xj.nil,rfl⟩
theorem FP (a:ap) {Q₁:ap->ar->Prop} (h:Q₁ (.ref s.heap.objs.size) {s with heap:=s.heap.push (jo w)}) :
  codeAny (model P w) A (.call (.builtin "set.__new__") ⟨[.type "set",a],[]⟩) (wants Q₁ E) s :=by
 refine XT ?_
 show wpAny _ A.in1 (do checkBuiltinCall "set.__new__" ⟨[.type "set",a],[]⟩;again (.builtin "set.__new__" ⟨[.type "set",a],[]⟩)) _ _ s
 refine al (X2 (F.newCall_set_1 a) (ca ⟨KM F.plain_set_new _,FS F.entry_set_new ?_⟩))
 rw [Da F.plain_set_new _]
 unfold uu.«set.__new__» uu.Frozenset.newClass
 have tq:=sub_set_self
 obtain ⟨hp,g,d,tk,os⟩:=s
 dsimp only
 wp_walk
 refine SZ (ca ?_)
 dsimp only
 simp only [newObj]
 refine al (wpAny_alloc (ca ?_))
 exact ca h
theorem cS.typeIs {h:ij} {a:ag} {ns:List Int} {s:ar} (x:cS P w s.heap a ns):s.TypeIs (.ref a) "set" := let ⟨o,_,_,_,ho,hex,_⟩:=x;⟨o,ho,hex.1⟩
theorem oo {T:String} {l:ag} {itob:l3} {vs:List Int} {Pv:Nat->ap->Prop} {St:ag->Nat->ij->Prop} {Q:ap->ar->Prop} (hh:A.handled=none)
  (hl:∃o,s.heap.get? l=some o) (hT:∀s1:ar,(∀o,s.heap.get? l=some o->s1.heap.get? l=some o)->s1.TypeIs (.ref l) T) (h1:isSubtype (.type T) (.type "set")=pure false) (h2:isSubtype (.type T) (.type "frozenset")=pure false) (h3:(GM T==GM "dict")=false)
  (hit:∀(A':l8) (s1:ar) (Q':ap->ar->Prop) (E':ap->ar->Prop),(∀o,s.heap.get? l=some o->s1.heap.get? l=some o)->Q' (.ref s1.heap.objs.size) {s1 with heap:=s1.heap.push itob}->wpAny (model P w) A' (pyIter (.ref l)) Q' E' s1)
  (hW:∀(A':l8) (I:ag),A'.handled=none->l≠I->Walks P w A' I [I,l] [I] vs.length Pv (St I)) (Uk:∀h1:ij,(∀o,s.heap.get? l=some o->h1.get? l=some o)->St h1.objs.size 0 (h1.push itob))
  (FO:∀(i:Nat) (v:ap),Pv i v->∃m t,vs[i]?=some m/\v=.int m t) (hb:vs.length+1<scanBound)
  (h:∀(h':ij) (tk:Nat),cS P w h' s.heap.objs.size (cG vs)->(∀b o,s.heap.get? b=some o->h'.get? b=some o)->Q (.ref s.heap.objs.size) {s with heap:=h',toks:=tk}) :
  wpAny (model P w) A (call (.type "set") [.ref l]) Q E s :=by
 obtain ⟨c,tl,VP⟩:=NL.mro
 have VJ:=NL.made
 have tq:=NL.sub
 refine wpAny_call (XT ?_)
 show wpAny _ _ (callAny (.type "set") _) _ _ _
 refine ca ⟨Code.quiet_builtin _ (by decide +kernel),FS F.entry_type_call ?_⟩
 rw [l8.under_plain (weight_type_call_type "set" [.ref l] []) rfl]
 have k1:=NL.notType
 have k2:=NL.canCreate
 have V0:=F.typeCall_set_1 (.ref l)
 repeat (any_goals (first|assumption|wp_step))
 refine WQ (FP (P:=P) (w:=w) (.ref l) (E:=E) (Q₁:=fun obj aD=>obj=.ref s.heap.objs.size/\aD={s with heap:=s.heap.push (jo w)}) ⟨rfl,rfl⟩) fun r aD hr=>?_
 cases r with
 |error e=>exact hr
 |ok fl=>
  cases fl with
  |ret obj=>
   obtain ⟨rfl,rfl⟩:=hr
   have hS:(s.heap.push (jo w)).get? s.heap.objs.size=some {cls:=.type "set",dict:=none,data:=.set #[] 0 (.fresh 0 0 (!w.params.followText "set-order"))}:=en _ rfl
   have Ul:Xk {s with heap:=s.heap.push (jo w)} (.ref s.heap.objs.size) "set" := ⟨_,hS,rfl⟩
   have kp:∀b o,s.heap.get? b=some o->(s.heap.push (jo w)).get? b=some o:=fun b o e=>bv _ e
   have sz:(s.heap.push (jo w)).objs.size=s.heap.objs.size+1 :=by rw [ww]
   have nL:=NL.init.lookup
   have V1:=NL.init.bind (.ref s.heap.objs.size)
   repeat (any_goals (first|assumption|wp_step))
   refine WQ (codeAny_call_builtin (R:=wants (fun r jm=>r=.none/\∃h' tk,jm={s with heap:=h',toks:=tk}/\cS P w h' s.heap.objs.size (cG vs) /\
     (∀b o,s.heap.get? b=some o->h'.get? b=some o)) E) NL.init.plain F.entry_set_init (check_set_init_1 Ul ?_)) fun S5 jm AI=>?_
   ·have V2:=hT {s with heap:=s.heap.push (jo w)} (fun o e=>kp l o e)
    unfold uu.«set.__init__» noKeywords uu.Frozenset.updateFrom
    generalize Um:pyIter=PI
    wp_walk
    subst Um
    obtain ⟨ol,wO⟩:=hl
    have Q7:l<s.heap.objs.size:=ii wO
    refine hit _ {s with heap:=s.heap.push (jo w)} _ _ (fun o e=>kp l o e) ?_
    refine al (wpAny_runValue ?_)
    have Uo:A.in1.in1.in1.handled=none :=by simp [hh]
    have S6:l≠(s.heap.push (jo w)).objs.size :=by rw [sz];exact kw (xp Q7)
    have wN:s.heap.objs.size ∉ [(s.heap.push (jo w)).objs.size,l] :=by
     rw [sz];simp only [io,wT,or_false,not_or]
     exact ⟨kw (EQ _),Go Q7⟩
    refine FN ((hW _ (s.heap.push (jo w)).objs.size Uo S6).toS) s.heap.objs.size wN FO hb (vs.length - 0) 0 _ (by omega) (lw _) (Uk (s.heap.push (jo w)) fun o e=>kp l o e) (Jk.dA fun o e=>bv _ e) ?_
    intro s' hm mD
    obtain ⟨h',g',d',Up,Hq⟩:=s'
    have eg:g'=s.gens:=hm.gens
    have ed:d'=s.drawn:=hm.drawn
    have eo:Hq=s.os:=hm.os
    subst eg;subst ed;subst eo
    show wpAny _ _ _ _ _ _
    refine ca ?_
    show wpAny _ _ (ret xz) _ _ _
    refine ca ⟨rfl,h',Up,rfl,mD,fun b o e=>?_⟩
    have pZ:b<s.heap.objs.size:=ii e
    refine hm.heap b o ?_ (bv _ (kp b o e))
    simp only [io,wT,or_false,not_or]
    exact ⟨kw pZ,by rw [sz];exact kw (xp pZ)⟩
   ·cases S5 with
    |error e=>exact AI
    |ok PJ=>
     cases PJ with
     |ret r=>
      obtain ⟨rfl,h',tk,rfl,mD,jL⟩:=AI
      repeat (any_goals (first|assumption|wp_step))
      exact h _ _ mD jL
     |_=>exact AI.elim
  |_=>exact hr.elim
end
theorem C6:Manifest.owners.lookup (String.ofList ['r','o','t','a','r','e','t','i','_','t','e','s'].reverse)=some Manifest.sig_set_iterator :=by kernel_rfl
theorem cH:X6 "set_iterator" "__next__" "set_iterator.__next__" :=
 .of (owner := "set_iterator") (n := "__next__") (by rw [typeLookup_type,builtinLookup_eq_fast];kernel_rfl) (by decide +kernel) (by decide +kernel) (by decide +kernel)
  (by first|exact .inl (by decide +kernel)|exact .inr (by decide +kernel)) (by rw [W8];kernel_rfl)
theorem j7:entryFor table "set_iterator.__next__" = some uu.«set_iterator.__next__»:=entryFor_of_tree (by kernel_rfl)
theorem j8 (a:ap):argsOk "set_iterator.__next__" ⟨[a],[]⟩ :=by
 unfold argsOk;rw [signature?_of (id := "set_iterator.__next__") (n:=['_','_','t','x','e','n','_','_']) (o:=['r','o','t','a','r','e','t','i','_','t','e','s']) (by kernel_rfl) C6];kernel_rfl
theorem rQ:X6 "set_iterator" "__iter__" "set_iterator.__iter__" :=
 .of (owner := "set_iterator") (n := "__iter__") (by rw [typeLookup_type,builtinLookup_eq_fast];kernel_rfl) (by decide +kernel) (by decide +kernel) (by decide +kernel)
  (by first|exact .inl (by decide +kernel)|exact .inr (by decide +kernel)) (by rw [W8];kernel_rfl)
theorem AJ:entryFor table "set_iterator.__iter__" = some uu.«dict_keyiterator.__iter__»:=
 entryFor_alias (id' := "dict_keyiterator.__iter__") (by kernel_rfl) (by first|rfl|decide +kernel|(unfold String.splitOn;simp +decide [String.splitOnAux])) (by decide +kernel) (by kernel_rfl)
theorem AK (a:ap):argsOk "set_iterator.__iter__" ⟨[a],[]⟩ :=by
 unfold argsOk;rw [signature?_of (id := "set_iterator.__iter__") (n:=['_','_','r','e','t','i','_','_']) (o:=['r','o','t','a','r','e','t','i','_','t','e','s']) (by kernel_rfl) C6];kernel_rfl
theorem yJ:entryFor table "set.__iter__" = some uu.«frozenset.__iter__»:=
 entryFor_alias (id' := "frozenset.__iter__") (by kernel_rfl) (by first|rfl|decide +kernel|(unfold String.splitOn;simp +decide [String.splitOnAux])) (by decide +kernel) (by kernel_rfl)
def fM (h:ij) (I a:ag) (first:ap) (i n ep:Nat):Prop:=∃o,h.get? I=some o/\o.cls=.type "set_iterator" /\ o.data=.fields #[first,.int i 0,.ref a,.int n 0,.int ep 0]
theorem fM.typeIs {s:ar} {I a:ag} {first:ap} {i n ep:Nat} (x:fM s.heap I a first i n ep):s.TypeIs (.ref I) "set_iterator" := let ⟨o,ho,hc,_⟩:=x;⟨o,ho,hc⟩
theorem gr {α:Type}:∀{l:List α} {i:Nat} (h:i<l.length),(l[i]::l.eraseIdx i).Perm l
 | [],i,h=>by simp at h
 |x::l,0,h=>.refl _
 |x::l,i+1,h=>by
          rw [List.eraseIdx_cons_succ,List.getElem_cons_succ]
          exact (Pc.swap _ _ _).trans (.cons _ (gr (by simpa using h)))
section
variable {P:gc} {w:i0} {A:l8} {E:ap->ar->Prop} {s:ar}
theorem wp_choose {src:Source} {n:Nat} {Q:Nat->ar->Prop} (hn:n≠0) (h:∀i d,i<n->Q i {s with drawn:=d}):wpAny (model P w) A (choose src n) Q E s:=fun Γ p _=>by
 refine ⟨hn,?_⟩
 exact h _ _ (X8 _ (Nat.pos_of_ne_zero hn))
theorem oq {α:Type}:∀(n:Nat) (xs:List α) {s:ar} {Q:List α->ar->Prop},n=xs.length->(∀ys d,ys.Perm xs->Q ys {s with drawn:=d})->wpAny (model P w) A (drawOrder n xs) Q E s
 |0,xs,s,Q,hn,h=>by
          have:xs=[]:=RI hn.symm
          subst this
          exact ca (h [] s.drawn .nil)
 |n+1,[],s,Q,hn,h=>by simp at hn
 |n+1,x::xs,s,Q,hn,h=>by
          show wpAny _ _ (choose .order (x::xs).length>>=_) _ _ s
          refine al (wp_choose (by simp) fun i d hi=>?_)
          have e:(x::xs)[i]?=some (x::xs)[i]:=ac hi
          rw [e]
          dsimp only
          refine al (oq n _ (by rw [List.length_eraseIdx_of_lt hi];simp at hn ⊢;omega) fun ys d' hp=>ca (h _ _ ?_))
          exact (Pc.cons _ hp).trans (gr hi)
end
section
variable {P:gc} {w:i0} {A:l8} {E:ap->ar->Prop} {s:ar}
structure kO (P:gc) (w:i0) (h:ij) (a:ag) (es:Array (Int×ap)) (ep:Nat) (t:rc):Prop where
 at_:∃o,h.get? a=some o/\o.ExactSet/\o.data=.set es ep t
 fits:t.fits es.size=true
 tab:cu w t
theorem zB {α:Type} (next:Nat->Nat):∀(fuel k:Nat) (left:List α) (out:Array α),fuel=left.length->(pickOrder.go next fuel k left out).toList.Perm (out.toList++left)
 |0,k,left,out,h=>by
          have:left=[]:=RI h.symm
          subst this
          simp [pickOrder.go]
 |fuel+1,k,left,out,h=>by
          unfold pickOrder.go
          have hl:next k % left.length<left.length:=X8 _ (by omega)
          rw [ac hl]
          dsimp only
          refine (zB next fuel (k+1) _ _ (by rw [List.length_eraseIdx_of_lt hl];omega)).trans ?_
          rw [Array.toList_push,KF]
          exact Pc.append_left _ (gr hl)
theorem uE {α:Type} (next:Nat->Nat) (xs:Array α):(pickOrder next xs).toList.Perm xs.toList :=by
 unfold pickOrder
 exact (zB next xs.size 0 xs.toList #[] (by simp)).trans (by simp)
theorem ou {Q:Bool->ar->Prop} (h:Q (w.params.followText "set-order") s):wpAny (model P w) A setsByText Q E s :=by
 unfold setsByText
 exact al (SZ (ca h))
theorem rR {a:ag} {es:Array (Int×ap)} {ep:Nat} {t:rc} {slot given:Nat} {Q:Option (ap×Nat)->ar->Prop} (hE:kO P w s.heap a es ep t)
  (hd:w.params.followText "set-order" = false->(!t.plain && decide (es.size > 1))=false)
  (h1:w.params.followText "set-order" = true->Q ((pickOrder (w.params.setOrder a ep) es)[given]?.map fun e=>(e.2,slot)) s)
  (h2:w.params.followText "set-order" = false->Q (match es[u8 t.place slot]?,t.place[u8 t.place slot]? with|some (_,x),some j=>some (x,j+1)|_,_=>none) s) :
  wpAny (model P w) A (setNext a slot given ep) Q E s :=by
 obtain ⟨⟨o,ho,hex,p0⟩,hf,ht⟩:=hE
 unfold setNext
 refine al (Sc ho p0 hf ?_)
 dsimp only
 refine al (ou ?_)
 cases hb:w.params.followText "set-order" with
 |true=>
  simp only [if_true,bne_self_eq_false,l9,if_false]
  unfold setWalk
  refine al (al (Sc ho p0 hf ?_))
  dsimp only
  refine al (ou ?_)
  rw [hb]
  simp only [if_true]
  refine al (SZ (ca (ca ?_)))
  exact h1 hb
 |false=>
  simp only [l9,if_false]
  have jI:=hd hb
  have S7:t.led=true :=by rw [ht.led,hb];rfl
  show wpAny _ _ (if (!t.plain && decide (es.size > 1))=true then _ else _) _ _ s
  rw [jI]
  simp only [l9,if_false]
  refine al ?_
  show wpAny _ _ (if (!t.led && !es.isEmpty)=true then _ else _) _ _ s
  rw [S7]
  simp only [Xl,Wq,l9,if_false]
  exact ca (ca (h2 hb))
end
section
variable {P:gc} {w:i0} {A:l8} {E:ap->ar->Prop} {s:ar}
theorem fM.Ms {h:ij} {I a:ag} {first x:ap} {i n ep:Nat} (hit:fM h I a first i n ep):fM (h.update I (l3.mapFields (·.setIfInBounds 0 x))) I a x i n ep :=by
 obtain ⟨o,ho,hc,hd⟩:=hit
 exact ⟨_,B0 _ ho (WN (LH hd _)),(Xw ..).trans hc,by rw [LH hd];simp⟩
theorem fM.wQ {h:ij} {I a:ag} {first:ap} {i n ep:Nat} (hit:fM h I a first i n ep):fM (h.update I (l3.mapFields (·.setIfInBounds 1 (rawInt ((i:Int)+1))))) I a first (i+1) n ep :=by
 obtain ⟨o,ho,hc,hd⟩:=hit
 exact ⟨_,B0 _ ho (WN (LH hd _)),(Xw ..).trans hc,by rw [LH hd];simp [rawInt]⟩
theorem mE {I a:ag} {first x:ap} {i n ep k:Nat} {Q:Unit->ar->Prop} (hk:k<5) (hit:fM s.heap I a first i n ep) (h:Q () {s with heap:=s.heap.update I (l3.mapFields (·.setIfInBounds k x))}):wpAny (model P w) A (setField (.ref I) k x) Q E s :=by
 obtain ⟨o,ho,hc,hd⟩:=hit
 exact wpAny_setField ho hd (by simpa using hk) h
theorem zD {Q:Fin->ar->Prop} (hh:A.handled=none) (h:∀e h',s.TypeIs e "StopIteration" \/ True->(∀b o,s.heap.get? b=some o->h'.get? b=some o)->Xk {s with heap:=h'} e "StopIteration" -> E e {s with heap:=h'}) :
  wpAny (model P w) A (newExc (.type "StopIteration") []>>=fun e=>raiseNew e) Q E s :=by
 refine al ?_
 simp only [newExc,newTuple]
 refine al (zd ?_ (by size_fits))
 refine al (m:=firstArgMember _ _) (X2 (a:=xz) (by first|rfl|(simp only [firstArgMember];rfl)) ?_)
 refine zd ?_ (by size_fits)
 simp only [raiseNew]
 refine al (wpAny_handled ?_)
 rw [hh]
 refine al (ca (wpAny_throw ?_))
 exact h _ _ (.inr trivial) (fun b o e=>bv _ (bv _ e)) ⟨_,en _ rfl,rfl⟩
theorem wR {Q:Option ap->ar->Prop} {e:ap} (hT:s.TypeIs e "StopIteration") (h:Q none s):wpAny (model P w) A (do let b <- isInstance e (.type "StopIteration");if b=true then pure none else throw e) Q E s:=
 al (WJ (T := "StopIteration") (b:=true) hT isSubtype_stop (ca h))
theorem Jl {I a:ag} {slot i ep next:Nat} {es:Array (Int×ap)} {t:rc} {x:ap} {Q:Option ap->ar->Prop} (hit:fM s.heap I a (.int slot 0) i es.size ep) (hE:kO P w s.heap a es ep t)
  (hd:w.params.followText "set-order" = false->(!t.plain && decide (es.size > 1))=false)
  (h1:w.params.followText "set-order" = true->(pickOrder (w.params.setOrder a ep) es)[i]?.map (fun e=>(e.2,slot))=some (x,next))
  (h2:w.params.followText "set-order" = false->(match es[u8 t.place slot]?,t.place[u8 t.place slot]? with|some (_,x),some j=>some (x,j+1)|_,_=>none)=some (x,next))
  (hQ:∀h',fM h' I a (.int next 0) (i+1) es.size ep->v6 I s.heap h'->Q (some x) {s with heap:=h'}):wpAny (model P w) A (pyNext (.ref I)) Q E s :=by
 obtain ⟨o,ho,hc,jI⟩:=id hit
 obtain ⟨oa,uF,FQ,uG⟩:=hE.at_
 unfold pyNext
 refine al (MW (wP (name:=xw "__next__") hit.typeIs cH (xb cH hit.typeIs j7 ?_ (j8 _))))
 unfold uu.«set_iterator.__next__»
 refine al (m:=slotArgs "__next__" 0 _) (ca ?_)
 dsimp only
 refine al (W9 ho jI ?_)
 dsimp only
 refine al (OF uF uG hE.fits ?_)
 simp only [bne_self_eq_false,l9,if_false,tw]
 have fin:∀r,r=some (x,next)->wpAny (model P w) A.in1 (match r with
    |some (x,next)=>do
     setField (mT I) 0 (rawInt next)
     setField (mT I) 1 (rawInt (↑i+1))
     ret x
    |none=>do
     setField (mT I) 2 xz
     let __do_lift <- newExc (GM "StopIteration") []
     raiseNew __do_lift) (fun fin s'=>∃v,fin=Fin.done (Flow.ret v)/\wpAny (model P w) A (pure (some v)) Q E s') (fun e s'=>wpAny (model P w) A (do
     let __do_lift <- isInstance e (GM "StopIteration")
     if __do_lift=true then pure none else throw e) Q E s') s:=fun r hr=>by
  subst hr
  dsimp only
  refine al (mE (by decide) hit ?_)
  have Mt:=hit.Ms (x:=rawInt next)
  refine al (mE (by decide) Mt ?_)
  exact ca ⟨x,rfl,ca (hQ _ Mt.wQ ((AE ..).trans (AE ..)))⟩
 exact al (rR hE hd (fun hb=>fin _ (h1 hb)) (fun hb=>fin _ (h2 hb)))
theorem Jm {I a:ag} {slot i ep:Nat} {es:Array (Int×ap)} {t:rc} {Q:Option ap->ar->Prop} (hh:A.handled=none) (hit:fM s.heap I a (.int slot 0) i es.size ep) (hE:kO P w s.heap a es ep t)
  (hd:w.params.followText "set-order" = false->(!t.plain && decide (es.size > 1))=false)
  (h1:w.params.followText "set-order" = true->(pickOrder (w.params.setOrder a ep) es)[i]?.map (fun e=>(e.2,slot))=none)
  (h2:w.params.followText "set-order" = false->(match es[u8 t.place slot]?,t.place[u8 t.place slot]? with|some (_,x),some j=>some (x,j+1)|_,_=>none)=none)
  (hQ:∀h',(∀b o,b≠I->s.heap.get? b=some o->h'.get? b=some o)->Q none {s with heap:=h'}):wpAny (model P w) A (pyNext (.ref I)) Q E s :=by
 obtain ⟨o,ho,hc,jI⟩:=id hit
 obtain ⟨oa,uF,FQ,uG⟩:=hE.at_
 unfold pyNext
 refine al (MW (wP (name:=xw "__next__") hit.typeIs cH (xb cH hit.typeIs j7 ?_ (j8 _))))
 unfold uu.«set_iterator.__next__»
 refine al (m:=slotArgs "__next__" 0 _) (ca ?_)
 dsimp only
 refine al (W9 ho jI ?_)
 dsimp only
 refine al (OF uF uG hE.fits ?_)
 simp only [bne_self_eq_false,l9,if_false,tw]
 have fin:∀r:Option (ap×Nat),r=none->wpAny (model P w) A.in1 (match r with
    |some (x,next)=>do
     setField (mT I) 0 (rawInt next)
     setField (mT I) 1 (rawInt (↑i+1))
     ret x
    |none=>do
     setField (mT I) 2 xz
     let __do_lift <- newExc (GM "StopIteration") []
     raiseNew __do_lift) (fun fin s'=>∃v,fin=Fin.done (Flow.ret v)/\wpAny (model P w) A (pure (some v)) Q E s') (fun e s'=>wpAny (model P w) A (do
     let __do_lift <- isInstance e (GM "StopIteration")
     if __do_lift=true then pure none else throw e) Q E s') s:=fun r hr=>by
  subst hr
  dsimp only
  refine al (mE (by decide) hit ?_)
  exact zD hh fun e h' _ k hT=>wR hT (hQ h' fun b o hb q=>k b o ((BN _ _ (wE hb)).trans q))
 exact al (rR hE hd (fun hb=>fin _ (h1 hb)) (fun hb=>fin _ (h2 hb)))
theorem Jn {I a T:ag} {i ep j:Nat} {es:Array (Int×ap)} {t:rc} {ps:List Nat} {x:Int×ap} {Q:Option ap->ar->Prop} (hit:fM s.heap I a (.ref T) i es.size ep) (hE:kO P w s.heap a es ep t)
  (hT:s.heap.IsTuple T (ps.map fun (i:Nat)=>rawInt i).toArray) (hj:ps[i]?=some j) (hx:es[j]?=some x)
  (hQ:∀h',fM h' I a (.ref T) (i+1) es.size ep->v6 I s.heap h'->Q (some x.2) {s with heap:=h'}):wpAny (model P w) A (pyNext (.ref I)) Q E s :=by
 obtain ⟨o,ho,hc,jI⟩:=id hit
 obtain ⟨oa,uF,FQ,uG⟩:=hE.at_
 unfold pyNext
 refine al (MW (wP (name:=xw "__next__") hit.typeIs cH (xb cH hit.typeIs j7 ?_ (j8 _))))
 unfold uu.«set_iterator.__next__»
 refine al (m:=slotArgs "__next__" 0 _) (ca ?_)
 dsimp only
 refine al (W9 ho jI ?_)
 dsimp only
 refine al (OF uF uG hE.fits ?_)
 simp only [bne_self_eq_false,l9,if_false,tw]
 obtain ⟨ot,Mu,_,nt,p0⟩:=hT
 refine al (ET Mu p0 ?_)
 have e:(ps.map fun (i:Nat)=>rawInt i).toArray[i]?=some (rawInt j) :=by simp [hj]
 dsimp only
 rw [e]
 show wpAny _ _ (setNextDrawn a (Int.toNat (j:Int)) ep>>=_) _ _ s
 rw [tw]
 refine al ?_
 unfold setNextDrawn
 refine al (Sc uF uG hE.fits ?_)
 simp only [bne_self_eq_false,l9,if_false,hx]
 refine ca ?_
 refine al (mE (by decide) hit ?_)
 exact ca ⟨x.2,rfl,ca (hQ _ hit.wQ (AE ..))⟩
theorem Jo {I a T:ag} {i ep:Nat} {es:Array (Int×ap)} {t:rc} {ps:List Nat} {Q:Option ap->ar->Prop} (hh:A.handled=none) (hit:fM s.heap I a (.ref T) i es.size ep) (hE:kO P w s.heap a es ep t)
  (hT:s.heap.IsTuple T (ps.map fun (i:Nat)=>rawInt i).toArray) (hj:ps.length<=i)
  (hQ:∀h',(∀b o,b≠I->s.heap.get? b=some o->h'.get? b=some o)->Q none {s with heap:=h'}):wpAny (model P w) A (pyNext (.ref I)) Q E s :=by
 obtain ⟨o,ho,hc,jI⟩:=id hit
 obtain ⟨oa,uF,FQ,uG⟩:=hE.at_
 unfold pyNext
 refine al (MW (wP (name:=xw "__next__") hit.typeIs cH (xb cH hit.typeIs j7 ?_ (j8 _))))
 unfold uu.«set_iterator.__next__»
 refine al (m:=slotArgs "__next__" 0 _) (ca ?_)
 dsimp only
 refine al (W9 ho jI ?_)
 dsimp only
 refine al (OF uF uG hE.fits ?_)
 simp only [bne_self_eq_false,l9,if_false,tw]
 obtain ⟨ot,Mu,_,nt,p0⟩:=hT
 refine al (ET Mu p0 ?_)
 have e:(ps.map fun (i:Nat)=>rawInt i).toArray[i]?=none :=by simp [hj]
 dsimp only
 rw [e]
 dsimp only
 refine al (mE (by decide) hit ?_)
 refine al (mE (by decide) (hit.Ms (x:=rawInt 0)) ?_)
 exact zD hh fun e h' _ k hT=>wR hT (hQ h' fun b o hb q=>k b o ((BN _ _ (wE hb)).trans ((BN _ _ (wE hb)).trans q)))
end
theorem fM.dA {h h':ij} {I a:ag} {first:ap} {i n ep:Nat} (x:fM h I a first i n ep) (k:∀o,h.get? I=some o->h'.get? I=some o):fM h' I a first i n ep:=let ⟨o,ho,r⟩:=x;⟨o,k o ho,r⟩
theorem kO.dA {P:gc} {w:i0} {h h':ij} {a:ag} {es:Array (Int×ap)} {ep:Nat} {t:rc} (x:kO P w h a es ep t) (k:∀o,h.get? a=some o->h'.get? a=some o):kO P w h' a es ep t:=
 ⟨let ⟨o,ho,r⟩:=x.at_;⟨o,k o ho,r⟩,x.fits,x.tab⟩
theorem AO {xs:Array Nat} (h:mC xs) {i:Nat} (hi:i<xs.size):u8 xs (xs[i]+1)=i+1 :=by
 obtain ⟨b0,b1,b2⟩:=qz (xs[i]+1) h
 generalize u8 xs (xs[i]+1)=p at *
 have h1:i<p :=by
  refine Nat.lt_of_not_le fun hp=>?_
  have:=b2 i hi hp
  omega
 refine Nat.le_antisymm (WH fun hp=>?_) h1
 have Q8:i+1<xs.size :=by omega
 have q:=b1 (i+1) Q8 hp
 have q2:=rL h (show i<i+1 by omega) Q8
 omega
theorem AQ {xs:Array Nat} (h:mC xs):u8 xs 0=0 :=by
 obtain ⟨b0,b1,b2⟩:=qz 0 h
 generalize u8 xs 0=p at *
 by_cases hp:p=0
 ·exact hp
 ·have:=b1 0 (by omega) (by omega)
  omega
section
variable {P:gc} {w:i0} {A:l8} {E:ap->ar->Prop} {s:ar}
theorem si_self {I a:ag} {first:ap} {i n ep:Nat} {Q:ap->ar->Prop} (hit:fM s.heap I a first i n ep) (h:Q (.ref I) s):wpAny (model P w) A (pyIter (.ref I)) Q E s :=by
 refine wpAny_pyIter_slot hit.typeIs rQ (xb rQ hit.typeIs AJ ?_ (AK _))
 show wpAny _ _ (ret (.ref I)) _ _ s
 exact ca ⟨_,rfl,"set_iterator",_,hit.typeIs,cH.lookup,h⟩
theorem wU {es:List (Int×ap)} (h:W7 (intKind P w) es) {e:Int×ap} (he:e∈es):∃t,e.2=.int (eV e) t :=by
 obtain ⟨⟨k',jL,_⟩,_⟩:=h e he
 obtain ⟨t,e2⟩:=Wv (k:=k') (v:=e.2) jL
 exact ⟨t,by unfold eV;rw [e2]⟩
abbrev C7 (xs:List Int):Nat->ap->Prop:=fun i v=>∃m t,xs[i]?=some m/\v=.int m t
def gu (w:i0) (a:ag) (ep:Nat) (es:Array (Int×ap)):List (Int×ap):=if w.params.followText "set-order" = true then (pickOrder (w.params.setOrder a ep) es).toList else es.toList
theorem j9 (w:i0) (a:ag) (ep:Nat) (es:Array (Int×ap)):(gu w a ep es).Perm es.toList :=by
 unfold gu
 split
 ·exact uE _ _
 ·exact .refl _
theorem FR {I a:ag} {es:Array (Int×ap)} {ep:Nat} {t:rc} (hh:A.handled=none) (e8:a≠I) (kM:W7 (intKind P w) es.toList) (hd:w.params.followText "set-order" = false->(!t.plain && decide (es.size > 1))=false) :
  WalksS P w A I [I,a] [I] (fun a b=>b=a) ((gu w a ep es).map eV).length (C7 ((gu w a ep es).map eV))
   (fun i s=>kO P w s.heap a es ep t/\∃slot:Nat,fM s.heap I a (.int slot 0) i es.size ep/\(w.params.followText "set-order" = false->u8 t.place slot=i)) where
 sub:=fun b hb=>by simp at hb;simp [hb]
 grefl:=fun _=>rfl
 gtrans:=fun _ _ _ h1 h2=>h2.trans h1
 frame:=fun i s h' _ st _ hk=>⟨st.1.dA fun o e=>hk a (by simp) o e,let ⟨slot,h1,h2⟩:=st.2;⟨slot,h1.dA fun o e=>hk I (by simp) o e,h2⟩⟩
 item:=fun i s Q E hi st hQ=>by
  obtain ⟨hE,slot,hit,hb⟩:=st
  have hl:i<(gu w a ep es).length :=by simpa using hi
  have nL:i<es.size :=by rw [<- u4,<- (j9 w a ep es).length_eq];exact hl
  obtain ⟨tk,he⟩:=wU (P:=P) (w:=w) kM ((j9 w a ep es).mem_iff.mp (r9 hl))
  have eL:i<t.place.size :=by
   have:=hE.fits
   simp only [rc.fits,Ix,beq_iff_eq] at this
   rw [this.1];exact nL
  refine Jl (next:=if w.params.followText "set-order" = true then slot else t.place[i]+1) (x:=((gu w a ep es)[i]).2) hit hE hd (fun cF=>?_) (fun cF=>?_) (fun h' FT hs=>hQ _ _ ⟨_,tk,by rw [c8,ac hl];rfl,he⟩ ⟨hE.dA fun o e=>by rw [hs.2 a e8];exact e,_,FT,fun cF=>?_⟩ ⟨fun b o hb e=>by rw [hs.2 b (fun z=>hb (by simp [z]))];exact e,rfl,rfl,rfl,ce _⟩)
  ·rw [if_pos cF]
   have e1:gu w a ep es=(pickOrder (w.params.setOrder a ep) es).toList :=by unfold gu;rw [if_pos cF]
   have e2:(pickOrder (w.params.setOrder a ep) es)[i]?=some (gu w a ep es)[i] :=by
    rw [<- SB,<- e1]
    exact ac hl
   rw [e2]
   rfl
  ·rw [if_neg (by rw [cF];decide),hb cF,Nd nL,Nd eL]
   have e1:gu w a ep es=es.toList :=by unfold gu;rw [if_neg (by rw [cF];decide)]
   have e2:(gu w a ep es)[i]=es[i] :=by simp [e1]
   rw [e2]
  ·rw [if_neg (by rw [cF];decide)]
   exact AO hE.tab.ris eL
 done:=fun s Q E st hQ=>by
  obtain ⟨hE,slot,hit,hb⟩:=st
  have hl:((gu w a ep es).map eV).length=es.size :=by rw [cb,(j9 w a ep es).length_eq,u4]
  rw [hl] at hit hb
  refine Jm hh hit hE hd (fun cF=>?_) (fun cF=>?_) (fun h' k=>hQ _ ⟨fun b o hb e=>k b o (fun z=>hb (by simp [z])) e,rfl,rfl,rfl,ce _⟩)
  ·have e1:(pickOrder (w.params.setOrder a ep) es)[es.size]?=none :=by
    refine Array.getElem?_eq_none ?_
    rw [<- u4,(uE _ es).length_eq,u4]
    exact ce _
   rw [e1]
   rfl
  ·rw [hb cF,Array.getElem?_eq_none (ce _)]
 self:=fun i s Q E st hQ=>let ⟨_,slot,hit,_⟩:=st;si_self hit hQ
theorem AR {I a T:ag} {es:Array (Int×ap)} {ep:Nat} {t:rc} {ps:List Nat} (hh:A.handled=none) (e8:a≠I) (S8:T≠I) (kM:W7 (intKind P w) es.toList) (C8:∀j∈ps,j<es.size) (eL:ps.length=es.size) :
  WalksS P w A I [I,a,T] [I] (fun a b=>b=a) (ps.map fun j=>eV (es.getD j (0,.none))).length (C7 (ps.map fun j=>eV (es.getD j (0,.none))))
   (fun i s=>kO P w s.heap a es ep t/\s.heap.IsTuple T (ps.map fun (i:Nat)=>rawInt i).toArray/\fM s.heap I a (.ref T) i es.size ep) where
 sub:=fun b hb=>by simp at hb;simp [hb]
 grefl:=fun _=>rfl
 gtrans:=fun _ _ _ h1 h2=>h2.trans h1
 frame:=fun i s h' _ st _ hk=>⟨st.1.dA fun o e=>hk a (by simp) o e,st.2.1.at fun o e=>hk T (by simp) o e,st.2.2.dA fun o e=>hk I (by simp) o e⟩
 item:=fun i s Q E hi st hQ=>by
  obtain ⟨hE,hT,hit⟩:=st
  have hl:i<ps.length :=by simpa using hi
  have hj:=C8 _ (r9 hl)
  have hx:es[ps[i]]?=some es[ps[i]]:=Nd hj
  have hg:es.getD ps[i] (0,.none)=es[ps[i]] :=by simp [WV,hj]
  obtain ⟨tk,he⟩:=wU (P:=P) (w:=w) kM (show es[ps[i]]∈es.toList by simp)
  refine Jn hit hE hT (ac hl) hx fun h' FT hs=>hQ _ _ ⟨_,tk,by rw [c8,ac hl];rfl,by dsimp only;rw [hg];exact he⟩ ⟨hE.dA fun o e=>by rw [hs.2 a e8];exact e,hT.at fun o e=>by rw [hs.2 T S8];exact e,FT⟩ ⟨fun b o hb e=>by rw [hs.2 b (fun z=>hb (by simp [z]))];exact e,rfl,rfl,rfl,ce _⟩
 done:=fun s Q E st hQ=>by
  obtain ⟨hE,hT,hit⟩:=st
  have hl:(ps.map fun j=>eV (es.getD j (0,.none))).length=ps.length:=cb _
  rw [hl] at hit
  exact Jo hh hit hE hT (ce _) fun h' k=>hQ _ ⟨fun b o hb e=>k b o (fun z=>hb (by simp [z])) e,rfl,rfl,rfl,ce _⟩
 self:=fun i s Q E st hQ=>si_self st.2.2 hQ
theorem AU {a:ag} {ns:List Int} {Q:ap->ar->Prop} (hS:cS P w s.heap a ns)
  (hQ:∀(I:ag) (h':ij) (d':Drawn) (xs:List Int) (fp:List ag) (St:Nat->ar->Prop),xs.Perm ns->(∀b o,s.heap.get? b=some o->h'.get? b=some o)->s.heap.objs.size<=I->(∀b∈fp,b=a\/s.heap.objs.size<=b)->
   (∀A':l8,A'.handled=none->WalksS P w A' I fp [I] (fun a b=>b=a) xs.length (C7 xs) St)->St 0 {s with heap:=h',drawn:=d'}->Q (.ref I) {s with heap:=h',drawn:=d'}):wpAny (model P w) A (pyIter (.ref a)) Q E s :=by
 have Q9:=hS.typeIs (h:=s.heap)
 obtain ⟨o,es,ep,t,ho,hex,hd,kM,hp,hn,hb,hf,ht⟩:=hS
 have hE:kO P w s.heap a es ep t:=⟨⟨o,ho,hex,hd⟩,hf,ht⟩
 have bb:=ii ho
 refine wpAny_pyIter_slot Q9 F.slot_set_iter (xb F.slot_set_iter Q9 yJ ?_ (F.args_set_iter_1 _))
 unfold uu.«frozenset.__iter__»
 refine al (m:=uu.Frozenset.slot0 "__iter__" _) (ca ?_)
 unfold uu.Frozenset.sizeOf
 refine al (al (OF ho hd hf (ca ?_)))
 refine al ?_
 unfold setDrawn
 refine al (Sc ho hd hf ?_)
 dsimp only
 refine al (ou ?_)
 refine ca ?_
 by_cases uH:(!w.params.followText "set-order" && (!t.plain && decide (es.size > 1)))=true
 ·show wpAny _ _ (if (!w.params.followText "set-order" && (!t.plain && decide (es.size > 1)))=true then _ else _) _ _ s
  rw [if_pos uH]
  refine al (oq _ _ (by simp) fun ps d C8=>?_)
  have eL:ps.length=es.size :=by rw [C8.length_eq,JJ]
  refine al (Xa ?_ (by rw [cb,eL];exact Xv hb))
  refine al (wpAny_setEpoch_of (o:=o) (bv _ ho) hd hf ?_)
  unfold newFields
  refine al (zd ?_ (by size_fits))
  have hsz:∀u:l3,(s.heap.push u).objs.size=s.heap.objs.size+1:=fun u=>ww _ _
  have hit:fM ((s.heap.push {cls:=.type "tuple",data:=.seq (ps.map fun (i:Nat)=>rawInt i).toArray}).push {cls:=.type "set_iterator",data:=.fields #[.ref s.heap.objs.size,.int (0:Nat) 0,.ref a,.int es.size 0,.int ep 0]}) (s.heap.push {cls:=.type "tuple",data:=.seq (ps.map fun (i:Nat)=>rawInt i).toArray}).objs.size a (.ref s.heap.objs.size) 0 es.size ep:=⟨_,en _ rfl,rfl,rfl⟩
  have Uq:(ps.map fun j=>eV (es.getD j (0,.none))).Perm ns :=by
   refine ((C8.map _).trans ?_).trans hp
   have:(hX es.size).map (fun j=>eV (es.getD j (0,.none)))=es.toList.map eV :=by
    refine XD (by simp) fun n h1 h2=>?_
    have B6:n<es.size :=by simpa using h1
    simp [WV,B6]
   rw [this]
  refine ca ⟨_,rfl,"set_iterator",_,fM.typeIs (s:={s with heap:=_,drawn:=d}) hit,cH.lookup,?_⟩
  refine hQ _ _ d _ [(s.heap.push {cls:=.type "tuple",data:=.seq (ps.map fun (i:Nat)=>rawInt i).toArray}).objs.size,a,s.heap.objs.size] _ Uq (fun b o e=>bv _ (bv _ e)) (by rw [hsz];exact DO _) (fun b hb=>?_) (fun A' hA=>AR (t:=t) (ep:=ep) hA ?_ ?_ kM (fun j hj=>by simpa using C8.mem_iff.mp hj) eL) ⟨hE.dA fun o e=>bv _ (bv _ e),⟨_,bv _ (en _ rfl),rfl,_,rfl⟩,hit⟩
  ·simp only [io,wT,or_false] at hb
   rcases hb with rfl|rfl|rfl
   ·exact .inr (by rw [hsz];exact DO _)
   ·exact .inl rfl
   ·exact .inr (ce _)
  ·rw [hsz];exact kw (xp bb)
  ·rw [hsz];exact kw (EQ _)
 ·show wpAny _ _ (if (!w.params.followText "set-order" && (!t.plain && decide (es.size > 1)))=true then _ else _) _ _ s
  rw [if_neg uH]
  refine al (ca (al (wpAny_setEpoch_of ho hd hf ?_)))
  unfold newFields
  refine al (zd ?_ (by size_fits))
  have hit:fM (s.heap.push {cls:=.type "set_iterator",data:=.fields #[.int (0:Nat) 0,.int (0:Nat) 0,.ref a,.int es.size 0,.int ep 0]}) s.heap.objs.size a (.int (0:Nat) 0) 0 es.size ep:=⟨_,en _ rfl,rfl,rfl⟩
  refine ca ⟨_,rfl,"set_iterator",_,fM.typeIs (s:={s with heap:=_}) hit,cH.lookup,?_⟩
  refine hQ _ _ s.drawn _ [s.heap.objs.size,a] _ (((j9 w a ep es).map eV).trans hp) (fun b o e=>bv _ e) (ce _) (fun b hb=>?_) (fun A' hA=>FR (t:=t) (ep:=ep) hA (kw bb) kM fun hb=>?_) ⟨hE.dA fun o e=>bv _ e,0,hit,fun _=>AQ ht.ris⟩
  ·simp only [io,wT,or_false] at hb
   rcases hb with rfl|rfl
   ·exact .inr (ce _)
   ·exact .inl rfl
  ·rw [hb] at uH
   simpa using uH
end
section
variable {P:gc} {w:i0} {A:l8} {E:ap->ar->Prop} {s:ar}
theorem yK {a:ag} {Q:Bool->ar->Prop} (hT:s.TypeIs (.ref a) "set") (h:Q false s):wpAny (model P w) A (uu.List.listLengthHint (.ref a)) Q E s :=by
 unfold uu.List.listLengthHint
 refine al (wpAny_specialOf hT F.slot_set_len.lookup ?_)
 have e:splitId "set.__len__" = some ("set","__len__") :=by kernel_rfl
 dsimp only
 rw [e]
 dsimp only
 refine al (WJ hT sub_set_self ?_)
 simp only [Xl,l9,if_false]
 show wpAny _ _ (if _=true then _ else _) _ _ s
 rw [if_pos (by kernel_rfl)]
 exact al (wpAny_typeOf hT (ca h))
theorem ints_of {xs:List Int} {acc:Array ap} (h:ItemsOf (C7 xs) acc xs.length):Me acc.toList xs :=by
 obtain ⟨hs,hi⟩:=h
 have:∀(vs:List ap) (xs:List Int),vs.length=xs.length->(∀(j:Nat) (v:ap),vs[j]?=some v->C7 xs j v)->Me vs xs :=by
  intro vs
  induction vs with
  |nil=>intro xs hl _;cases xs with|nil=>exact .nil|cons x xs=>simp at hl
  |cons v vs ih=>
   intro xs hl hg
   cases xs with
   |nil=>simp at hl
   |cons x xs=>
    obtain ⟨m,t,e1,rfl⟩:=hg 0 v rfl
    have e2:x=m :=by simpa using e1
    subst e2
    refine .cons _ _ (ih xs (by simpa using hl) fun j u hu=>?_)
    obtain ⟨m',t',e3,e4⟩:=hg (j+1) u (by simpa using hu)
    exact ⟨m',t',by simpa using e3,e4⟩
 exact this acc.toList xs (by simpa using hs) fun j v hv=>hi j v (by rw [<- SB];exact hv)
theorem yL {a:ag} {ns:List Int} {QL:List ap->ar->Prop} (hh:A.handled=none) (hS:cS P w s.heap a ns) (hz:ns.length<=sizeLine)
  (hQ:∀us xs h' d' tk,Me us xs->xs.Perm ns->(∀b o,s.heap.get? b=some o->h'.get? b=some o)->QL us {s with heap:=h',drawn:=d',toks:=tk}):wpAny (model P w) A (collect (.ref a)) QL E s :=by
 have bb:a<s.heap.objs.size:=let ⟨_,_,_,_,ho,_⟩:=hS;ii ho
 have Ra:s.heap.objs.size≠a:=Go bb
 unfold collect
 refine al (wpAny_runValue (FS F.entry_proto_collect ?_))
 rw [Da F.plain_proto_collect _]
 show wpAny _ A.in1 (newList []>>=fun l=>again (.builtin "list.__iadd__" ⟨[l,.ref a],[]⟩)) _ _ s
 refine al (zd ?_)
 refine ca ⟨KM Wy _,FS F.entry_list_iadd ?_⟩
 rw [Da Wy _]
 have C3:cS P w (s.heap.push {cls:=.type "list",data:=.seq ([]:List ap).toArray}) a ns:=hS.dA fun o e=>bv _ e
 have T1:Xk {s with heap:=s.heap.push {cls:=.type "list",data:=.seq ([]:List ap).toArray}} (.ref a) "set" := cS.typeIs (P:=P) (w:=w) (h:=s.heap) (s:={s with heap:=_}) C3
 show wpAny _ A.in1 (LM (.ref s.heap.objs.size) (.ref a) (.ref s.heap.objs.size)) _ _ _
 unfold LM
 refine al (wpAny_typeOf T1 ?_)
 have h1:uu.List.listSameRef (.ref s.heap.objs.size) (.ref a)=false :=by simp [uu.List.listSameRef,Ra]
 have h2:(GM "set" == GM "list")=false :=by decide
 have h3:(GM "set" == GM "tuple")=false :=by decide
 simp only [h1,h2,h3,Bool.or_false,l9,if_false]
 refine al (AU (s:={s with heap:=s.heap.push {cls:=.type "list",data:=.seq ([]:List ap).toArray}}) C3 ?_)
 intro I h' d' xs fp St hp hk hI Ur hW jY
 have T2:Xk {s with heap:=h',drawn:=d'} (.ref a) "set" := cS.typeIs (P:=P) (w:=w) (h:=s.heap) (s:={s with heap:=_,drawn:=d'}) (C3.dA fun o e=>hk a o e)
 refine al (At (yK T2 ?_))
 show wpAny _ A.in1 (if _=true then _ else _) _ _ _
 rw [if_pos (by kernel_rfl)]
 show wpAny _ A.in1 (rule "list.extend.makes-room" >>= fun _=>uu.List.listTouch (.ref s.heap.objs.size)>>=fun _=>
  again (.builtin "list.extend.loop" ⟨[.ref s.heap.objs.size,.ref I,.ref s.heap.objs.size],[]⟩)) _ _ _
 refine al (EN ?_)
 have HA:h'.get? s.heap.objs.size=some {cls:=.type "list",data:=.seq ([]:List ap).toArray}:=hk _ _ (en _ rfl)
 refine al ?_
 show wpAny _ A.in1 (updateSeq s.heap.objs.size (·.push .none)>>=fun _=>updateSeq s.heap.objs.size (·.pop)) _ _ _
 refine al (wpAny_updateSeq HA rfl ?_)
 have HB:=B0 (ES (·.push xz)) HA rfl
 refine wpAny_updateSeq HB rfl ?_
 have PK:=B0 (ES (·.pop)) HB rfl
 have oth:∀b o,b≠s.heap.objs.size->h'.get? b=some o->((h'.update s.heap.objs.size (ES (·.push xz))).update s.heap.objs.size (ES (·.pop))).get? b=some o:=
  fun b o hb e=>(BN _ _ (wE hb)).trans ((BN _ _ (wE hb)).trans e)
 have Mv:(s.heap.push {cls:=.type "list",data:=.seq ([]:List ap).toArray}).objs.size=s.heap.objs.size+1:=ww _ _
 have wN:s.heap.objs.size ∉ fp:=fun hm=>by
  rcases Ur _ hm with z|z
  ·exact Ra z
  ·have z':s.heap.objs.size+1<=s.heap.objs.size :=by rw [<- Mv];exact z
   exact absurd z' (Nat.not_succ_le_self _)
 have W:=hW A.in1.in1 (by simp [hh])
 have hl:xs.length<=sizeLine :=by rw [hp.length_eq];exact hz
 refine ca ⟨KM F.plain_extend_loop _,codeAny_extend_loopS (W.of_in1) hl _ wN _ xs.length 0 _ _ _ rfl (lw _) (W.frame 0 ({s with heap:=h',drawn:=d'}:ar) _ s.toks jY (ce _) fun b hb o e=>oth b o (fun h=>wN (h▸hb)) e) PK (ItemsOf.nil _) fun s' gM c' hm mD Mw=>?_⟩
 show wpAny _ A (load s.heap.objs.size>>=_) _ _ s'
 refine al (wpAny_load mD ?_)
 refine ca ?_
 obtain ⟨h2,g2,d2,Us,os2⟩:=s'
 have eg:g2=s.gens:=hm.gens
 have ed:d2=d':=hm.drawn
 have eo:os2=s.os:=hm.os
 subst eg;subst ed;subst eo
 refine hQ _ xs h2 _ Us (ints_of Mw) hp fun b o e=>hm.heap b o ?_ (oth b o (kw (ii e)) (hk b o (bv _ e)))
 have hb:b<s.heap.objs.size:=ii e
 simp only [io,wT,or_false,not_or]
 refine ⟨kw hb,fun z=>?_⟩
 have z':s.heap.objs.size+1<=b :=by rw [<- Mv,z];exact hI
 exact absurd (l7 (xp hb) z') (Do _)
end
def sortI (ns:List Int):List Int:=ns.mergeSort fun a b=>decide (a<=b)
theorem sortI_perm (ns:List Int):(sortI ns).Perm ns:=List.mergeSort_perm _ _
theorem wV (ns:List Int):(sortI ns).Pairwise (·<=·) :=by
 have:=List.pairwise_mergeSort (le:=fun a b:Int=>decide (a<=b)) (fun a b c h1 h2=>by simp only [decide_eq_true_eq] at *;omega) (fun a b=>by simp only [Bool.or_eq_true,decide_eq_true_eq];omega) ns
 exact this.imp fun h=>by simpa using h
theorem yM {a b:List Int} (p:a.Perm b) (ha:a.Pairwise (·<=·)) (hb:b.Pairwise (·<=·)):a=b:=Pc.eq_of_pairwise (le:=(·<=·)) (fun x y _ _ h1 h2=>Int.le_antisymm h1 h2) ha hb p
theorem FU {ms ns:List Int} (p:ms.Perm ns) (h:ms.Pairwise (·<=·)):ms=sortI ns:=yM (p.trans (sortI_perm ns).symm) h (wV ns)
theorem vJ:∀{ns:List Int} {us:List ap},Vals (ns.map V.int) us->Me us ns
 | [],_,.nil=>.nil
 |n::ns,_,.cons r t=>by
          obtain ⟨k,rfl⟩:=r
          exact .cons _ _ (vJ t)
theorem ow:∀{ns:List Int} {us:List ap},Me us ns->Vals (ns.map V.int) us
 |_,_,.nil=>.nil
 |_,_,.cons n t r=>.cons ⟨t,rfl⟩ (ow r)
section
variable {P:gc} {w:i0} {A:l8} {E:ap->ar->Prop} {s:ar}
theorem jD {T:String} {l:ag} {vs:List ap} {Q:List ap->ar->Prop} {o:l3} {n:Nat} (ho:s.heap.get? l=some o) (hc:o.cls=.type T) (hd:o.data=.seq vs.toArray n) (hT:T = "list" \/ T = "tuple")
  (h:∀h',(∀b o,s.heap.get? b=some o->h'.get? b=some o)->Q vs {s with heap:=h'}) (hsz:vs.length<=sizeLine):wpAny (model P w) A (collect (.ref l)) Q E s :=by
 unfold collect
 refine al (wpAny_runValue (FS F.entry_proto_collect ?_))
 rw [Da F.plain_proto_collect _]
 show wpAny _ A.in1 (newList []>>=fun l'=>again (.builtin "list.__iadd__" ⟨[l',.ref l],[]⟩)) _ _ s
 refine al (Xm (ca ⟨KM Wy _,FS F.entry_list_iadd ?_⟩))
 rw [Da Wy _]
 show wpAny _ A.in1 (LM (.ref s.heap.objs.size) (.ref l) (.ref s.heap.objs.size)) _ _ {s with heap:=s.heap.push (seqObj "list" #[] 0)}
 unfold LM
 have fV:(s.heap.push (seqObj "list" #[] 0)).get? l=some o:=bv _ ho
 refine al (wpAny_typeOf (T:=T) ⟨o,fV,hc⟩ ?_)
 rw [if_pos (by rcases hT with rfl|rfl <;> simp)]
 refine al (listItems_at fV hd ?_)
 refine al (listItems_at (xs:=#[]) (n:=0) (en _ rfl) rfl ?_)
 rw [if_neg (by simp)]
 refine al (Xn (xs:=#[]) (n:=0) (en _ rfl) rfl ?_ (lw _) (by show (#[]++vs.toArray).size<=sizeLine+1;simp only [Array.size_append,cr,TW];omega))
 refine ca ?_
 show wpAny (model P w) A (load s.heap.objs.size>>=_) Q E _
 refine al (wpAny_load (get?_update_seq (en _ rfl) _) ?_)
 show wpAny _ _ (pure ((#[]:Array ap)++vs.toArray).toList) Q E _
 rw [show ((#[]:Array ap)++vs.toArray).toList=vs by simp]
 exact ca (h _ fun b o e=>(BN _ _ (Go (ii e))).trans (bv _ e))
theorem AV {a:ap} {ns:List Int} {Q:ap->ar->Prop} (FV:∀QL:List ap->ar->Prop,(∀us xs h' d' tk,Me us xs->xs.Perm ns->(∀b o,s.heap.get? b=some o->h'.get? b=some o)->QL us {s with heap:=h',drawn:=d',toks:=tk})->wpAny (model P w) A.in1 (collect a) QL E s) (rS:ns.length<64)
  (h:∀(h1 h':ij) d' tk (us:List ap) e,Me us (sortI ns)->(∀b o,s.heap.get? b=some o->h1.get? b=some o)->(∀b o,h1.get? b=some o->h'.get? b=some o)->h'.get? h1.objs.size=some {cls:=.type "list",data:=.seq us.toArray e}->Q (.ref h1.objs.size) {s with heap:=h',drawn:=d',toks:=tk}) :
  wpAny (model P w) A (call (.builtin "sorted") [a]) Q E s :=by
 refine Calls.call_function_entry kind_sorted plain_sorted entry_sorted (args_sorted1 _) ?_
 unfold uu.«sorted»
 refine al (m:=checkCount "sorted" 1 1 _) (ca ?_)
 refine al (FV _ fun us xs h' d' tk hI hp hk=>?_)
 have Mx:us.length<64 :=by
  have:us.length=xs.length:=(ow hI).length.symm.trans (cb _)
  rw [this,hp.length_eq]
  exact rS
 refine al (Xm ?_ (hsz:=ln (LG Mx) (by decide)))
 have qY:(h'.push (seqObj "list" us.toArray 0)).get? h'.objs.size=some (seqObj "list" us.toArray 0):=en _ rfl
 refine al (At (xb slot_list_sort ⟨_,qY,rfl⟩ entry_list_sort (list_sort_tree qY hI Mx fun out V3 a1 a2 a3=>⟨_,rfl,?_⟩) (args_list_sort _)))
 refine ca ⟨_,rfl,?_⟩
 obtain ⟨e,he⟩:=sortedHeap_at (out:=out) qY
 refine h h' _ d' tk out.toList e (by rw [<- FU (a2.trans hp) a3];exact a1) hk (fun b o hb=>?_) (by simpa using he)
 have bb:=ii hb
 rw [sortedHeap_old (kw bb) (by rw [ww];exact xp bb)]
 exact bv _ hb
end
theorem AW {P:gc} {w:i0} {h:ij} {a:ag} {ns:List Int} (x:cS P w h a ns):∃o,h.get? a=some o:=let ⟨o,_,_,_,e,_⟩:=x;⟨o,e⟩
theorem Jp {P:gc} {w:i0} {H:Hp} {h:ij} {a:ag} {ns:List Int} (x:cS P w h a ns):ObjOk P w H h a (oj P w a ns):=⟨x,AW x,fun h1 h2 y k=>y.dA k⟩
theorem zE {X:Cx} {pins:List (ag×l3)} {σ:St} {H:Hp} {s:ar} {a:ag} {ns:List Int} (I:Inv X pins σ H s) (h:H a=some (oj X.prog X.w a ns)):cS X.prog X.w s.heap a ns:=(I.hok a _ h).1
inductive Dt where
 |au|bl (b:Bool)|int (i:Int)|str (x:br)|lst (xs:List Dt)|tup (xs:List Dt)
inductive dZ (H:Hp):V->Dt->Prop where
 |au:dZ H .au .au
 |bl (b:Bool):dZ H (.bl b) (.bl b)
 |int (i:Int):dZ H (.int i) (.int i)
 |str (x:br):dZ H (.str x) (.str x)
 |lst {a:ag} {xs:List V} {ds:List Dt} (e:H a=some (.lst xs)) (hl:xs.length=ds.length) (h:∀(i:Nat) (x:V) (d:Dt),xs[i]?=some x->ds[i]?=some d->dZ H x d):dZ H (.ref a) (.lst ds)
 |tup {a:ag} {xs:List V} {ds:List Dt} (e:H a=some (.tup xs)) (hl:xs.length=ds.length) (h:∀(i:Nat) (x:V) (d:Dt),xs[i]?=some x->ds[i]?=some d->dZ H x d):dZ H (.ref a) (.tup ds)
mutual
def cB:Dt->Dt->Bool
 | .au,.au=>true
 | .bl a,.bl b=>a==b
 | .bl a,.int b=>(if a then 1 else 0)==b
 | .int a,.bl b=>a==(if b then 1 else 0)
 | .int a,.int b=>a==b
 | .str a,.str b=>a==b
 | .lst xs,.lst ys=>gN xs ys
 | .tup xs,.tup ys=>gN xs ys
 |_,_=>false
def gN:List Dt->List Dt->Bool
 | [],[]=>true
 |x::xs,y::ys=>cB x y && gN xs ys
 |_,_=>false
end
mutual
theorem kQ:∀d:Dt,cB d d=true
 | .au=>by simp [cB]
 | .bl b=>by simp [cB]
 | .int i=>by simp [cB]
 | .str x=>by simp [cB]
 | .lst xs=>by simp only [cB];exact ox xs
 | .tup xs=>by simp only [cB];exact ox xs
theorem ox:∀ds:List Dt,gN ds ds=true
 | []=>by simp [gN]
 |d::ds=>by simp only [gN];rw [kQ d,ox ds];rfl
end
theorem fG:∀(xs ys:List Dt),gN xs ys=((hX (min xs.length ys.length)).all (fun j=>cB (xs.getD j .au) (ys.getD j .au)) && xs.length==ys.length)
 | [],[]=>by simp [gN]
 | [],_::_=>by simp [gN]
 |_::_,[]=>by simp [gN]
 |x::xs,y::ys=>by
          rw [gN,fG xs ys]
          have e:min (x::xs).length (y::ys).length=min xs.length ys.length+1 :=by simp [Nat.succ_min_succ]
          rw [e,List.range_succ_eq_map,List.all_cons,List.all_map]
          have e2:((x::xs).length==(y::ys).length)=(xs.length==ys.length) :=by simp
          rw [e2,Bool.and_assoc]
          rfl
theorem dZ.inj {H:Hp} {v:V} {d:Dt} (h:dZ H v d):∀{d':Dt},dZ H v d'->d=d':=by
 induction h with
 |au=>intro d' h';cases h';rfl
 |bl b=>intro d' h';cases h';rfl
 |int i=>intro d' h';cases h';rfl
 |str x=>intro d' h';cases h';rfl
 |lst e hl h ih=>
  intro d' h'
  cases h' with
  |lst e' MA h'=>
   rw [e] at e';cases e'
   congr 1
   refine Xx fun i=>?_
   rename_i xs ds ds'
   by_cases hi:i<xs.length
   ·rw [ac (by omega),ac (by omega)]
    exact congrArg some (ih i _ _ (ac hi) (ac (by omega)) (h' i _ _ (ac hi) (ac (by omega))))
   ·rw [SI (by omega),SI (by omega)]
  |tup e' MA h'=>rw [e] at e';cases e'
 |tup e hl h ih=>
  intro d' h'
  cases h' with
  |lst e' MA h'=>rw [e] at e';cases e'
  |tup e' MA h'=>
   rw [e] at e';cases e'
   congr 1
   refine Xx fun i=>?_
   rename_i xs ds ds'
   by_cases hi:i<xs.length
   ·rw [ac (by omega),ac (by omega)]
    exact congrArg some (ih i _ _ (ac hi) (ac (by omega)) (h' i _ _ (ac hi) (ac (by omega))))
   ·rw [SI (by omega),SI (by omega)]
mutual
def fW:Dt->Nat
 | .lst xs=>gO xs+1
 | .tup xs=>gO xs+1
 |_=>0
def gO:List Dt->Nat
 | []=>0
 |x::xs=>max (fW x) (gO xs)
end
theorem kR:∀{ds:List Dt} {i:Nat} {d:Dt},ds[i]?=some d->fW d<=gO ds
 | [],_,_,h=>by simp at h
 |x::xs,0,d,h=>by
          simp at h;subst h
          rw [gO];exact Nat.le_max_left _ _
 |x::xs,i+1,d,h=>by
          rw [gO]
          exact ln (kR (i:=i) (by simpa using h)) (Nat.le_max_right _ _)
section
variable {X:Cx} {pins:List (ag×l3)} {σ:St} {H:Hp} {s:ar}
theorem Inv.lists (I:Inv X pins σ H s) {a:ag} {xs:List V} (h:H a=some (.lst xs)):∃its:List ap,Vals xs its/\s.heap.IsList a its.toArray :=by
 obtain ⟨its,rv,p,_⟩:=I.list (bH.of h)
 exact ⟨its,rv,p.isList⟩
theorem Inv.tups (I:Inv X pins σ H s) {a:ag} {xs:List V} (h:H a=some (.tup xs)):∃its:List ap,Vals xs its/\s.heap.IsTuple a its.toArray :=by
 obtain ⟨its,rv,p,_⟩:=I.tuple (dh.of h)
 exact ⟨its,rv,p⟩
theorem oy (I:Inv X pins σ H s) {x y:V} {d:Dt} (hx:dZ H x d):∀{e:Dt} {u v:ap} {A:l8},dZ H y e->RelV x u->RelV y v->A.units+fW d<cLine->lv A s u v (cB d e) :=by
 have lists:=fun {a:ag} {xs:List V} (h:H a=some (.lst xs))=>I.lists h
 have tups:=fun {a:ag} {xs:List V} (h:H a=some (.tup xs))=>I.tups h
 induction hx generalizing y with
 |au=>
  intro e u v A hy rx ry hu
  have bc:A.units<cLine :=by omega
  cases rx
  cases hy with
  |au=>cases ry;exact XV _
  |bl b=>cases ry;exact lv.none_bool _
  |int i=>obtain ⟨t,rfl⟩:=ry;exact lv.none_int _ _
  |str z=>obtain ⟨t,rfl⟩:=ry;exact lv.none_str _ _
  |lst e2 _ _=>cases ry;obtain ⟨_,_,p⟩:=lists e2;exact lv.none_list p bc
  |tup e2 _ _=>cases ry;obtain ⟨_,_,p⟩:=tups e2;exact lv.none_tuple p bc
 |bl a=>
  intro e u v A hy rx ry hu
  have bc:A.units<cLine :=by omega
  cases rx
  cases hy with
  |au=>cases ry;exact lv.bool_none _
  |bl b=>cases ry;exact lv.bool_bool _ _
  |int i=>obtain ⟨t,rfl⟩:=ry;exact lv.bool_int _ _ _
  |str z=>obtain ⟨t,rfl⟩:=ry;exact lv.bool_str _ _ _
  |lst e2 _ _=>cases ry;obtain ⟨_,_,p⟩:=lists e2;exact lv.bool_list _ p bc
  |tup e2 _ _=>cases ry;obtain ⟨_,_,p⟩:=tups e2;exact lv.bool_tuple _ p bc
 |int a=>
  intro e u v A hy rx ry hu
  have bc:A.units<cLine :=by omega
  obtain ⟨ta,rfl⟩:=rx
  cases hy with
  |au=>cases ry;exact lv.int_none _ _
  |bl b=>cases ry;exact lv.int_bool _ _ _
  |int i=>obtain ⟨t,rfl⟩:=ry;exact lv.int_int _ _ _ _
  |str z=>obtain ⟨t,rfl⟩:=ry;exact lv.int_str _ _ _ _
  |lst e2 _ _=>cases ry;obtain ⟨_,_,p⟩:=lists e2;exact lv.int_list _ _ p bc
  |tup e2 _ _=>cases ry;obtain ⟨_,_,p⟩:=tups e2;exact lv.int_tuple _ _ p bc
 |str a=>
  intro e u v A hy rx ry hu
  have bc:A.units<cLine :=by omega
  obtain ⟨ta,rfl⟩:=rx
  cases hy with
  |au=>cases ry;exact lv.str_none _ _
  |bl b=>cases ry;exact lv.str_bool _ _ _
  |int i=>obtain ⟨t,rfl⟩:=ry;exact lv.str_int _ _ _ _
  |str z=>obtain ⟨t,rfl⟩:=ry;exact lv.str_str _ _ _ _
  |lst e2 _ _=>cases ry;obtain ⟨_,_,p⟩:=lists e2;exact lv.str_list _ _ p bc
  |tup e2 _ _=>cases ry;obtain ⟨_,_,p⟩:=tups e2;exact lv.str_tuple _ _ p bc
 |lst e1 lD h1 ih=>
  rename_i a xs ds
  intro e u v A hy rx ry hu
  have bc:A.units<cLine :=by omega
  have wW:A.units+gO ds+1<cLine :=by rw [fW] at hu;omega
  cases rx
  obtain ⟨its,rv,p⟩:=lists e1
  cases hy with
  |au=>cases ry;exact lv.list_none p bc
  |bl b=>cases ry;exact lv.list_bool _ p bc
  |int i=>obtain ⟨t,rfl⟩:=ry;exact lv.list_int _ _ p bc
  |str z=>obtain ⟨t,rfl⟩:=ry;exact lv.list_str _ _ p bc
  |lst e2 iR h2=>
   rename_i b ys es
   cases ry
   by_cases dC:a=b
   ·subst dC
    have:=(dZ.lst e1 lD h1).inj (dZ.lst e2 iR h2)
    cases this
    rw [kQ]
    exact XV _
   ·obtain ⟨cA,gI,p2⟩:=lists e2
    have l1:=rv.length
    have l2:=gI.length
    have at_:∀j (g1:j<its.toArray.size) (g2:j<cA.toArray.size),lv A.in1 s its.toArray[j] cA.toArray[j] (cB (ds.getD j .au) (es.getD j .au)):=fun j g1 g2=>by
     have jN:j<xs.length :=by rw [l1];simpa using g1
     have jO:j<ys.length :=by rw [l2];simpa using g2
     have r1:=cO rv g1
     have r2:=cO gI g2
     rw [bi,ac jN] at r1
     rw [bi,ac jO] at r2
     have d1:ds[j]?=some ds[j]:=ac (by omega)
     have d2:es[j]?=some es[j]:=ac (by omega)
     rw [bi,bi,d1,d2]
     have:=kR d1
     exact ih j _ _ (ac jN) d1 (h2 j _ _ (ac jO) d2) r1 r2 (by show A.units+1+_<cLine;omega)
    refine lv.of_refs dC ?_
    rw [cB,fG]
    by_cases hsz:ds.length=es.length
    ·have q:=l4.lists p p2 (by simp only [cr];omega) bc at_
     have z:(ds.length==es.length)=true :=by simpa using hsz
     rw [z,Bool.and_true,<- hsz,GE]
     rw [cr,<- l1,lD] at q
     exact q
    ·have z:(ds.length==es.length)=false :=by simpa using hsz
     rw [z,W6]
     exact l4.lists_lengths p p2 (by simp only [cr];simpa [bne_iff_ne] using (show its.length≠cA.length by omega)) bc
  |tup e2 iR h2=>cases ry;obtain ⟨_,_,p2⟩:=tups e2;exact lv.list_tuple p p2 bc
 |tup e1 lD h1 ih=>
  rename_i a xs ds
  intro e u v A hy rx ry hu
  have bc:A.units<cLine :=by omega
  have wW:A.units+gO ds+1<cLine :=by rw [fW] at hu;omega
  cases rx
  obtain ⟨its,rv,p⟩:=tups e1
  cases hy with
  |au=>cases ry;exact lv.tuple_none p bc
  |bl b=>cases ry;exact lv.tuple_bool _ p bc
  |int i=>obtain ⟨t,rfl⟩:=ry;exact lv.tuple_int _ _ p bc
  |str z=>obtain ⟨t,rfl⟩:=ry;exact lv.tuple_str _ _ p bc
  |lst e2 iR h2=>cases ry;obtain ⟨_,_,p2⟩:=lists e2;exact lv.tuple_list p p2 bc
  |tup e2 iR h2=>
   rename_i b ys es
   cases ry
   by_cases dC:a=b
   ·subst dC
    have:=(dZ.tup e1 lD h1).inj (dZ.tup e2 iR h2)
    cases this
    rw [kQ]
    exact XV _
   ·obtain ⟨cA,gI,p2⟩:=tups e2
    have l1:=rv.length
    have l2:=gI.length
    have at_:∀j (g1:j<its.toArray.size) (g2:j<cA.toArray.size),lv A.in1 s its.toArray[j] cA.toArray[j] (cB (ds.getD j .au) (es.getD j .au)):=fun j g1 g2=>by
     have jN:j<xs.length :=by rw [l1];simpa using g1
     have jO:j<ys.length :=by rw [l2];simpa using g2
     have r1:=cO rv g1
     have r2:=cO gI g2
     rw [bi,ac jN] at r1
     rw [bi,ac jO] at r2
     have d1:ds[j]?=some ds[j]:=ac (by omega)
     have d2:es[j]?=some es[j]:=ac (by omega)
     rw [bi,bi,d1,d2]
     have:=kR d1
     exact ih j _ _ (ac jN) d1 (h2 j _ _ (ac jO) d2) r1 r2 (by show A.units+1+_<cLine;omega)
    refine lv.of_refs dC ?_
    rw [cB,fG]
    have q:=l4.tuples p p2 bc at_
    rw [cr,cr,<- l1,<- l2,lD,iR] at q
    exact q
end
section
variable {X:Cx} {pins:List (ag×l3)} {σ:St} {H:Hp} {s:ar}
theorem MB (I:Inv X pins σ H s) {x y:V} {d e:Dt} {u v:ap} {A:l8} (hx:dZ H x d) (hy:dZ H y e) (rx:RelV x u) (ry:RelV y v) (hu:A.units+fW d<cLine):l4 A s u v (cB d e) :=by
 have bc:A.units<cLine :=by omega
 have lists:=fun {a:ag} {xs:List V} (h:H a=some (.lst xs))=>I.lists h
 have tups:=fun {a:ag} {xs:List V} (h:H a=some (.tup xs))=>I.tups h
 cases hx with
 |au=>
  cases rx
  cases hy with
  |au=>cases ry;exact l4.none_none
  |bl b=>cases ry;exact l4.none_bool _
  |int b=>obtain ⟨t,rfl⟩:=ry;exact l4.none_int _ _
  |str b=>obtain ⟨t,rfl⟩:=ry;exact l4.none_str _ _
  |lst e2 _ _=>cases ry;obtain ⟨_,_,p⟩:=lists e2;exact l4.none_list p bc
  |tup e2 _ _=>cases ry;obtain ⟨_,_,p⟩:=tups e2;exact l4.none_tuple p bc
 |bl a=>
  cases rx
  cases hy with
  |au=>cases ry;exact l4.bool_none _
  |bl b=>cases ry;exact l4.bool_bool _ _
  |int b=>obtain ⟨t,rfl⟩:=ry;exact l4.bool_int _ _ _
  |str b=>obtain ⟨t,rfl⟩:=ry;exact l4.bool_str _ _ _
  |lst e2 _ _=>cases ry;obtain ⟨_,_,p⟩:=lists e2;exact l4.bool_list _ p bc
  |tup e2 _ _=>cases ry;obtain ⟨_,_,p⟩:=tups e2;exact l4.bool_tuple _ p bc
 |int a=>
  obtain ⟨ta,rfl⟩:=rx
  cases hy with
  |au=>cases ry;exact l4.int_none _ _
  |bl b=>cases ry;exact l4.int_bool _ _ _
  |int b=>obtain ⟨t,rfl⟩:=ry;exact l4.int_int _ _ _ _
  |str b=>obtain ⟨t,rfl⟩:=ry;exact l4.int_str _ _ _ _
  |lst e2 _ _=>cases ry;obtain ⟨_,_,p⟩:=lists e2;exact l4.int_list _ _ p bc
  |tup e2 _ _=>cases ry;obtain ⟨_,_,p⟩:=tups e2;exact l4.int_tuple _ _ p bc
 |str a=>
  obtain ⟨ta,rfl⟩:=rx
  cases hy with
  |au=>cases ry;exact l4.str_none _ _
  |bl b=>cases ry;exact l4.str_bool _ _ _
  |int b=>obtain ⟨t,rfl⟩:=ry;exact l4.str_int _ _ _ _
  |str b=>obtain ⟨t,rfl⟩:=ry;exact l4.str_str _ _ _ _
  |lst e2 _ _=>cases ry;obtain ⟨_,_,p⟩:=lists e2;exact l4.str_list _ _ p bc
  |tup e2 _ _=>cases ry;obtain ⟨_,_,p⟩:=tups e2;exact l4.str_tuple _ _ p bc
 |lst e1 lD h1=>
  rename_i a xs ds
  have wW:A.units+gO ds+1<cLine :=by rw [fW] at hu;omega
  cases rx
  obtain ⟨its,rv,p⟩:=lists e1
  cases hy with
  |au=>cases ry;exact l4.list_none p bc
  |bl b=>cases ry;exact l4.list_bool _ p bc
  |int b=>obtain ⟨t,rfl⟩:=ry;exact l4.list_int _ _ p bc
  |str b=>obtain ⟨t,rfl⟩:=ry;exact l4.list_str _ _ p bc
  |lst e2 iR h2=>
   rename_i b ys es
   cases ry
   obtain ⟨cA,gI,p2⟩:=lists e2
   have l1:=rv.length
   have l2:=gI.length
   have at_:∀j (g1:j<its.toArray.size) (g2:j<cA.toArray.size),lv A.in1 s its.toArray[j] cA.toArray[j] (cB (ds.getD j .au) (es.getD j .au)):=fun j g1 g2=>by
    have jN:j<xs.length :=by rw [l1];simpa using g1
    have jO:j<ys.length :=by rw [l2];simpa using g2
    have r1:=cO rv g1
    have r2:=cO gI g2
    rw [bi,ac jN] at r1
    rw [bi,ac jO] at r2
    have d1:ds[j]?=some ds[j]:=ac (by omega)
    have d2:es[j]?=some es[j]:=ac (by omega)
    rw [bi,bi,d1,d2]
    have:=kR d1
    exact oy I (h1 j _ _ (ac jN) d1) (h2 j _ _ (ac jO) d2) r1 r2 (by show A.units+1+_<cLine;omega)
   rw [cB,fG]
   by_cases hsz:ds.length=es.length
   ·have q:=l4.lists p p2 (by simp only [cr];omega) bc at_
    have z:(ds.length==es.length)=true :=by simpa using hsz
    rw [z,Bool.and_true,<- hsz,GE]
    rw [cr,<- l1,lD] at q
    exact q
   ·have z:(ds.length==es.length)=false :=by simpa using hsz
    rw [z,W6]
    exact l4.lists_lengths p p2 (by simp only [cr];simpa [bne_iff_ne] using (show its.length≠cA.length by omega)) bc
  |tup e2 iR h2=>cases ry;obtain ⟨_,_,p2⟩:=tups e2;exact l4.list_tuple p p2 bc
 |tup e1 lD h1=>
  rename_i a xs ds
  have wW:A.units+gO ds+1<cLine :=by rw [fW] at hu;omega
  cases rx
  obtain ⟨its,rv,p⟩:=tups e1
  cases hy with
  |au=>cases ry;exact l4.tuple_none p bc
  |bl b=>cases ry;exact l4.tuple_bool _ p bc
  |int b=>obtain ⟨t,rfl⟩:=ry;exact l4.tuple_int _ _ p bc
  |str b=>obtain ⟨t,rfl⟩:=ry;exact l4.tuple_str _ _ p bc
  |lst e2 iR h2=>cases ry;obtain ⟨_,_,p2⟩:=lists e2;exact l4.tuple_list p p2 bc
  |tup e2 iR h2=>
   rename_i b ys es
   cases ry
   obtain ⟨cA,gI,p2⟩:=tups e2
   have l1:=rv.length
   have l2:=gI.length
   have at_:∀j (g1:j<its.toArray.size) (g2:j<cA.toArray.size),lv A.in1 s its.toArray[j] cA.toArray[j] (cB (ds.getD j .au) (es.getD j .au)):=fun j g1 g2=>by
    have jN:j<xs.length :=by rw [l1];simpa using g1
    have jO:j<ys.length :=by rw [l2];simpa using g2
    have r1:=cO rv g1
    have r2:=cO gI g2
    rw [bi,ac jN] at r1
    rw [bi,ac jO] at r2
    have d1:ds[j]?=some ds[j]:=ac (by omega)
    have d2:es[j]?=some es[j]:=ac (by omega)
    rw [bi,bi,d1,d2]
    have:=kR d1
    exact oy I (h1 j _ _ (ac jN) d1) (h2 j _ _ (ac jO) d2) r1 r2 (by show A.units+1+_<cLine;omega)
   rw [cB,fG]
   have q:=l4.tuples p p2 bc at_
   rw [cr,cr,<- l1,<- l2,lD,iR] at q
   exact q
theorem MC (I:Inv X pins σ H s) {x y:V} {d e:Dt} {u v:ap} {A:l8} (hx:dZ H x d) (hy:dZ H y e) (rx:RelV x u) (ry:RelV y v) (hu:A.units+fW d<cLine):lp A s u v (!(cB d e)) :=by
 have bc:A.units<cLine :=by omega
 have lists:=fun {a:ag} {xs:List V} (h:H a=some (.lst xs))=>I.lists h
 have tups:=fun {a:ag} {xs:List V} (h:H a=some (.tup xs))=>I.tups h
 cases hx with
 |au=>
  cases rx
  cases hy with
  |au=>cases ry;exact lp.none_none
  |bl b=>cases ry;exact lp.none_bool _
  |int b=>obtain ⟨t,rfl⟩:=ry;exact lp.none_int _ _
  |str b=>obtain ⟨t,rfl⟩:=ry;exact lp.none_str _ _
  |lst e2 _ _=>cases ry;obtain ⟨_,_,p⟩:=lists e2;exact lp.none_list p bc
  |tup e2 _ _=>cases ry;obtain ⟨_,_,p⟩:=tups e2;exact lp.none_tuple p bc
 |bl a=>
  cases rx
  cases hy with
  |au=>cases ry;exact lp.bool_none _
  |bl b=>cases ry;exact lp.bool_bool _ _
  |int b=>obtain ⟨t,rfl⟩:=ry;exact lp.bool_int _ _ _
  |str b=>obtain ⟨t,rfl⟩:=ry;exact lp.bool_str _ _ _
  |lst e2 _ _=>cases ry;obtain ⟨_,_,p⟩:=lists e2;exact lp.bool_list _ p bc
  |tup e2 _ _=>cases ry;obtain ⟨_,_,p⟩:=tups e2;exact lp.bool_tuple _ p bc
 |int a=>
  obtain ⟨ta,rfl⟩:=rx
  cases hy with
  |au=>cases ry;exact lp.int_none _ _
  |bl b=>cases ry;exact lp.int_bool _ _ _
  |int b=>obtain ⟨t,rfl⟩:=ry;exact lp.int_int _ _ _ _
  |str b=>obtain ⟨t,rfl⟩:=ry;exact lp.int_str _ _ _ _
  |lst e2 _ _=>cases ry;obtain ⟨_,_,p⟩:=lists e2;exact lp.int_list _ _ p bc
  |tup e2 _ _=>cases ry;obtain ⟨_,_,p⟩:=tups e2;exact lp.int_tuple _ _ p bc
 |str a=>
  obtain ⟨ta,rfl⟩:=rx
  cases hy with
  |au=>cases ry;exact lp.str_none _ _
  |bl b=>cases ry;exact lp.str_bool _ _ _
  |int b=>obtain ⟨t,rfl⟩:=ry;exact lp.str_int _ _ _ _
  |str b=>obtain ⟨t,rfl⟩:=ry;exact lp.str_str _ _ _ _
  |lst e2 _ _=>cases ry;obtain ⟨_,_,p⟩:=lists e2;exact lp.str_list _ _ p bc
  |tup e2 _ _=>cases ry;obtain ⟨_,_,p⟩:=tups e2;exact lp.str_tuple _ _ p bc
 |lst e1 lD h1=>
  rename_i a xs ds
  have wW:A.units+gO ds+1<cLine :=by rw [fW] at hu;omega
  cases rx
  obtain ⟨its,rv,p⟩:=lists e1
  cases hy with
  |au=>cases ry;exact lp.list_none p bc
  |bl b=>cases ry;exact lp.list_bool _ p bc
  |int b=>obtain ⟨t,rfl⟩:=ry;exact lp.list_int _ _ p bc
  |str b=>obtain ⟨t,rfl⟩:=ry;exact lp.list_str _ _ p bc
  |lst e2 iR h2=>
   rename_i b ys es
   cases ry
   obtain ⟨cA,gI,p2⟩:=lists e2
   have l1:=rv.length
   have l2:=gI.length
   have at_:∀j (g1:j<its.toArray.size) (g2:j<cA.toArray.size),lv A.in1 s its.toArray[j] cA.toArray[j] (cB (ds.getD j .au) (es.getD j .au)):=fun j g1 g2=>by
    have jN:j<xs.length :=by rw [l1];simpa using g1
    have jO:j<ys.length :=by rw [l2];simpa using g2
    have r1:=cO rv g1
    have r2:=cO gI g2
    rw [bi,ac jN] at r1
    rw [bi,ac jO] at r2
    have d1:ds[j]?=some ds[j]:=ac (by omega)
    have d2:es[j]?=some es[j]:=ac (by omega)
    rw [bi,bi,d1,d2]
    have:=kR d1
    exact oy I (h1 j _ _ (ac jN) d1) (h2 j _ _ (ac jO) d2) r1 r2 (by show A.units+1+_<cLine;omega)
   rw [cB,fG]
   by_cases hsz:ds.length=es.length
   ·have q:=lp.lists p p2 (by simp only [cr];omega) bc at_
    have z:(ds.length==es.length)=true :=by simpa using hsz
    rw [z,Bool.and_true,<- hsz,GE]
    rw [cr,<- l1,lD] at q
    exact q
   ·have z:(ds.length==es.length)=false :=by simpa using hsz
    rw [z,W6]
    exact lp.lists_lengths p p2 (by simp only [cr];simpa [bne_iff_ne] using (show its.length≠cA.length by omega)) bc
  |tup e2 iR h2=>cases ry;obtain ⟨_,_,p2⟩:=tups e2;exact lp.list_tuple p p2 bc
 |tup e1 lD h1=>
  rename_i a xs ds
  have wW:A.units+gO ds+1<cLine :=by rw [fW] at hu;omega
  cases rx
  obtain ⟨its,rv,p⟩:=tups e1
  cases hy with
  |au=>cases ry;exact lp.tuple_none p bc
  |bl b=>cases ry;exact lp.tuple_bool _ p bc
  |int b=>obtain ⟨t,rfl⟩:=ry;exact lp.tuple_int _ _ p bc
  |str b=>obtain ⟨t,rfl⟩:=ry;exact lp.tuple_str _ _ p bc
  |lst e2 iR h2=>cases ry;obtain ⟨_,_,p2⟩:=lists e2;exact lp.tuple_list p p2 bc
  |tup e2 iR h2=>
   rename_i b ys es
   cases ry
   obtain ⟨cA,gI,p2⟩:=tups e2
   have l1:=rv.length
   have l2:=gI.length
   have at_:∀j (g1:j<its.toArray.size) (g2:j<cA.toArray.size),lv A.in1 s its.toArray[j] cA.toArray[j] (cB (ds.getD j .au) (es.getD j .au)):=fun j g1 g2=>by
    have jN:j<xs.length :=by rw [l1];simpa using g1
    have jO:j<ys.length :=by rw [l2];simpa using g2
    have r1:=cO rv g1
    have r2:=cO gI g2
    rw [bi,ac jN] at r1
    rw [bi,ac jO] at r2
    have d1:ds[j]?=some ds[j]:=ac (by omega)
    have d2:es[j]?=some es[j]:=ac (by omega)
    rw [bi,bi,d1,d2]
    have:=kR d1
    exact oy I (h1 j _ _ (ac jN) d1) (h2 j _ _ (ac jO) d2) r1 r2 (by show A.units+1+_<cLine;omega)
   rw [cB,fG]
   have q:=lp.tuples p p2 bc at_
   rw [cr,cr,<- l1,<- l2,lD,iR] at q
   exact q
end
section
variable {X:Cx}
def FW (neg:Bool):R2:=fun x y H Q=>∃d e,dZ H x d/\dZ H y e/\fW d<=60/\Q (.bl (if neg then !cB d e else cB d e)) H
theorem MD (hu:X.A.units+64<cLine):OpR X (compareOp .Eq) (FW false) :=by
 intro pins s σ H x y v u Q I rx ry h
 obtain ⟨d,e,hx,hy,hd,q⟩:=h
 exact MB I hx hy rx ry (by omega) X.prog X.w X.xe _ ⟨.bl _,H,I,rfl,q⟩
theorem ME (hu:X.A.units+64<cLine):OpR X (compareOp .NotEq) (FW true) :=by
 intro pins s σ H x y v u Q I rx ry h
 obtain ⟨d,e,hx,hy,hd,q⟩:=h
 exact MC I hx hy rx ry (by omega) X.prog X.w X.xe _ ⟨.bl _,H,I,rfl,q⟩
end
theorem C9:bootBuiltins "set" = some (.type "set") :=by decide +kernel
theorem uI:bootBuiltins "sorted" = some (.builtin "sorted") :=by decide +kernel
section
variable {X:Cx}
def Dc (K:ba) (H:Hp) (p:ag) (ns:List Int):Prop:=bH K H p (ns.map V.int)\/dh K H p (ns.map V.int)
def wX (P:gc) (w:i0) (K:ba):List V->Hp->VK->Prop:=fun xs H Q=>∃p ns,xs=[.ref p]/\Dc K H p ns/\ns.length+1<scanBound/\∀l,H l=none->Q (.ref l) (upd H l (oj P w l (cG ns)))
theorem wY {ns:List Int} {us:List ap} (r:Vals (ns.map V.int) us):∀(i:Nat) (v:ap),us.toArray[i]?=some v->∃m t,ns[i]?=some m/\v=.int m t:=fun i v h=>by
 have hl:=r.length
 have h':us[i]?=some v :=by simpa using h
 have hi:i<us.length:=(bn.mp h').1
 have cp:i<ns.length :=by rw [cb] at hl;omega
 obtain ⟨u,e,q⟩:=r.get (i:=i) (x:=V.int ns[i]) (by rw [c8,ac cp];rfl)
 rw [h'] at e;cases e
 obtain ⟨t,rfl⟩:=q
 exact ⟨_,t,ac cp,rfl⟩
theorem Dd (hc:X.calm=true):cq X (.type "set") (wX X.prog X.w X.K) :=by
 intro pins s σ H xs us Q I r h
 obtain ⟨p,ns,rfl,hq,hb,q⟩:=h
 obtain ⟨u,rfl,rx⟩:=vals1 r
 cases rx
 have fin:∀(h':ij) (tk:Nat),cS X.prog X.w h' s.heap.objs.size (cG ns)->(∀b o,s.heap.get? b=some o->h'.get? b=some o)->EP X pins σ Q (.ref s.heap.objs.size) {s with heap:=h',toks:=tk}:=fun h' tk hM hk=>
  ⟨.ref s.heap.objs.size,_,I.laid (t':=tk) hk (ce _) (Jp hM),rfl,q _ (I.hok.fresh (ce _))⟩
 have hh:=I.ok.hd hc
 rcases hq with hq|hq
 ·obtain ⟨its,rv,pl,hz⟩:=I.list hq
  have hl:its.toArray.size=ns.length :=by rw [cr,<- rv.length,cb]
  obtain ⟨o,ho,cE,n,hd⟩:=pl.isList
  refine oo (T := "list") (vs:=ns) (itob:={cls:=.type "list_iterator",data:=.fields #[.ref p,.int 0 0]}) (Pv:=fun i v=>its.toArray[i]?=some v) (St:=fun I i h=>h.IsListIter I p i/\h.IsList p its.toArray) hh ⟨o,ho⟩ (fun s1 k=>⟨o,k o ho,cE⟩) F.sub_list_set F.sub_list_frozenset (by decide)
   (fun A' s1 Q' E' k wZ=>RS ⟨o,k o ho,cE,n,hd⟩ wZ) (fun A' I' hA e8=>hl▸Walks.list hA I' p e8 its.toArray) (fun h1 k=>⟨⟨_,en _ rfl,rfl,rfl⟩,⟨o,bv _ (k o ho),cE,n,hd⟩⟩) (wY rv) hb fin
 ·obtain ⟨its,rv,pl,hz⟩:=I.tuple hq
  have hl:its.toArray.size=ns.length :=by rw [cr,<- rv.length,cb]
  obtain ⟨o,ho,cE,n,hd⟩:=pl
  refine oo (T := "tuple") (vs:=ns) (itob:={cls:=.type "tuple_iterator",data:=.fields #[.ref p,.int 0 0]}) (Pv:=fun i v=>its.toArray[i]?=some v) (St:=fun I i h=>h.IsTupleIter I p i/\h.IsTuple p its.toArray) hh ⟨o,ho⟩ (fun s1 k=>⟨o,k o ho,cE⟩) sub_tuple_set tu (by decide)
   (fun A' s1 Q' E' k wZ=>OP ⟨o,k o ho,cE,n,hd⟩ wZ) (fun A' I' hA e8=>hl▸Walks.tuple hA I' p e8 its.toArray) (fun h1 k=>⟨⟨_,en _ rfl,rfl,rfl⟩,⟨o,bv _ (k o ho),cE,n,hd⟩⟩) (wY rv) hb fin
def HC (P:gc) (w:i0):List V->Hp->VK->Prop:=fun xs H Q=>∃p ns,xs=[.ref p]/\H p=some (oj P w p ns)/\Q (.int ns.length) H
theorem De:cq X (.builtin "len") (HC X.prog X.w) :=by
 intro pins s σ H xs us Q I r h
 obtain ⟨p,ns,rfl,hp,q⟩:=h
 obtain ⟨u,rfl,rx⟩:=vals1 r
 cases rx
 obtain ⟨o,es,ep,t,ho,hex,hd,kM,w5,hn,hb,hf,ht⟩:=zE I hp
 have hlen:es.size=ns.length :=by rw [<- u4,<- w5.length_eq,cb]
 have cF:es.size<4096:=hb
 refine call_len_set ho hex hd hf (by omega) ⟨.int ns.length,H,I.tok _,⟨_,by rw [hlen]⟩,q⟩
def zF (P:gc) (w:i0) (K:ba):List V->Hp->VK->Prop:=fun xs H Q=>∃p ns,xs=[.ref p]/\(H p=some (oj P w p ns)\/Dc K H p ns)/\ns.length<64/\∀l,H l=none->Q (.ref l) (upd H l (.lst ((sortI ns).map V.int)))
theorem w6 (hc:X.calm=true):cq X (.builtin "sorted") (zF X.prog X.w X.K) :=by
 intro pins s σ H xs us Q I r h
 obtain ⟨p,ns,rfl,hq,rS,q⟩:=h
 obtain ⟨u,rfl,rx⟩:=vals1 r
 cases rx
 have hh:=I.ok.hd hc
 refine AV (ns:=ns) (fun QL w9=>?_) rS (fun h1 h' d' tk us e hI k1 k2 he=>?_)
 ·rcases hq with hq|hq|hq
  ·exact yL (by simp [hh]) (zE I hq) (by have:sizeLine=16777216:=LF;omega) w9
  ·obtain ⟨its,rv,pl,hz⟩:=I.list hq
   have hl:=rv.length
   obtain ⟨o,ho,cE,n,hd⟩:=pl.isList
   exact jD ho cE hd (.inl rfl) (fun h' k=>w9 its ns h' s.drawn s.toks (vJ rv) (.refl _) k) (by omega)
  ·obtain ⟨its,rv,pl,hz⟩:=I.tuple hq
   have hl:=rv.length
   obtain ⟨o,ho,cE,n,hd⟩:=pl
   exact jD ho cE hd (.inr rfl) (fun h' k=>w9 its ns h' s.drawn s.toks (vJ rv) (.refl _) k) (by omega)
 ·have I1:Inv X pins σ H {s with heap:=h1,drawn:=d'}:=(I.kept (t':=s.toks) k1).oe ⟨rfl,rfl,I.bare.self⟩
  have hsz:sizeLine=16777216:=LF
  have ob:ObjOk X.prog X.w (upd H h1.objs.size (.lst ((sortI ns).map V.int))) h' h1.objs.size (.lst ((sortI ns).map V.int)):=⟨by rw [cb,(sortI_perm ns).length_eq];omega,us,e,ow hI,he⟩
  exact ⟨.ref h1.objs.size,_,I1.laid (t':=tk) k2 (ce _) ob,rfl,q _ (I1.hok.fresh (ce _))⟩
end
section
variable {X:Cx}
theorem AX {K:ba} (h:X.K=K) (hc:X.calm=true):cq X (.type "set") (wX X.prog X.w K):=h▸Dd hc
end
theorem xa:bootBuiltins "all" = some (.builtin "all"):=PyProof.Rows.boot_all
section
variable {X:Cx}
def HD (K:ba):List V->Hp->VK->Prop:=fun xs H Q=>∃(p:ag) (bs:List Bool),xs=[.ref p]/\bH K H p (bs.map V.bl)/\Q (.bl (bs.all id)) H
theorem Dg (hc:X.calm=true):cq X (.builtin "all") (HD X.K) :=by
 intro pins s σ H xs us Q I r h
 obtain ⟨p,bs,rfl,hq,q⟩:=h
 obtain ⟨u,rfl,rx⟩:=vals1 r
 cases rx
 have hh:=I.ok.hd hc
 obtain ⟨its,rv,pl,hz⟩:=I.list hq
 have hl:its.toArray.size=bs.length :=by rw [cr,<- rv.length,cb]
 have nL:s.heap.IsList p its.toArray:=pl.isList
 have bb:p<s.heap.objs.size:=let ⟨o,ho,_⟩:=nL;ii ho
 have at_:∀(i:Nat) (v:ap),its.toArray[i]?=some v->v=.bool (bs.getD i false):=fun i v hv=>by
  have h':its[i]?=some v :=by simpa using hv
  have hi:i<its.length:=(bn.mp h').1
  have cp:i<bs.length :=by rw [cr] at hl;omega
  obtain ⟨u,e,q2⟩:=rv.get (i:=i) (x:=V.bl bs[i]) (by rw [c8,ac cp];rfl)
  rw [h'] at e;cases e
  rw [bi,ac cp]
  exact q2
 refine Xe F.kind_all F.plain_all F.entry_all (F.args_all1 _) ?_
 unfold uu.«all»
 refine al (m:=oneArg "all" _) (ca ?_)
 refine al (RS nL ?_)
 have W:=Walks.list (prog:=X.prog) (w:=X.w) (A:=X.A.in1) (by simp [hh]) s.heap.objs.size p (kw bb) its.toArray
 refine ca ⟨KM WI _,codeAny_all_loop W (fun i=>bs.getD i false) ?_ its.toArray.size 0 _ rfl (lw _) ⟨⟨_,en _ rfl,rfl,rfl⟩,nL.push _⟩ fun h' tk hk=>?_⟩
 ·intro i v s' Q' E' hv wZ
  have:=at_ i v hv
  subst this
  exact xL wZ
 ·have e:((hX its.toArray.size).drop 0).all (fun i=>bs.getD i false)=bs.all id :=by
   rw [List.drop_zero,hl]
   refine FF.mpr ?_
   rw [wb,wb]
   constructor
   ·intro hx b hb
    obtain ⟨i,hi⟩:=List.getElem?_of_mem hb
    have cZ:=(bn.mp hi).1
    have:=hx i (by rw [ul];exact cZ)
    rw [bi,hi] at this
    exact this
   ·intro hx i hi
    rw [ul] at hi
    rw [bi,ac hi]
    exact hx _ (r9 hi)
  have I2:Inv X pins σ H {s with heap:=h',toks:=tk}:=I.kept fun b o eb=>hk b o (by simp only [jp];exact kw (ii eb)) (bv _ eb)
  refine ⟨.bl (bs.all id),H,I2,?_,q⟩
  show SL _=SL _
  rw [e]
theorem AY {K:ba} (h:X.K=K) (hc:X.calm=true):cq X (.builtin "all") (HD K):=h▸Dg hc
end
theorem ObjOk.there {P:gc} {w:i0} {H:Hp} {h:ij} {a:ag} {o:HO} (x:ObjOk P w H h a o):∃u,h.get? a=some u :=by
 cases o with
 |lst xs=>obtain ⟨_,_,_,_,e⟩:=x;exact ⟨_,e⟩
 |tup xs=>obtain ⟨_,_,_,ob,e,_⟩:=x;exact ⟨_,e⟩
 |dK av=>obtain ⟨_,_,_,_,o,_,_,e,_⟩:=x;exact ⟨_,e⟩
 |dT av=>obtain ⟨_,_,_,_,o,_,_,e,_⟩:=x;exact ⟨_,e⟩
 |set S n=>obtain ⟨o,_,_,_,e,_⟩:=x;exact ⟨_,e⟩
 |ins C dx fs=>obtain ⟨_,_,_,e,_⟩:=x;exact ⟨_,e⟩
 |own y=>obtain ⟨_,e⟩:=x;exact ⟨_,e⟩
 |xd fs=>obtain ⟨_,⟨_,_,_,e,_⟩,_⟩:=x;exact ⟨_,e⟩
 |Hh lo hi=>obtain ⟨_,_,_,e⟩:=x;exact ⟨_,e⟩
 |gG ob u=>obtain ⟨e,_⟩:=x;exact ⟨_,e⟩
 |dy ps=>exact ⟨_,x⟩
 |lam ps=>exact ⟨_,x⟩
 |met f y=>exact ⟨_,x⟩
 |ext φ=>obtain ⟨_,⟨_,e⟩,_⟩:=x;exact ⟨_,e⟩
def fX (P:gc) (w:i0):lz:=fun outer H s E e s'=>∃(a C t:ag) (B:ij) (H':Hp),e=.ref a/\s'.os=s.os/\Gn s.gens.size s'.gens/\ij.FlyingW B outer a (.ref C) (.ref t) s'.heap /\
 (∀b o,s.heap.get? b=some o->b ∉ gH outer->∃o',B.get? b=some o')/\(∀b u,H' b=some u->∃o',B.get? b=some o')/\Un (gH outer) [] H H' s.heap s'.heap/\dz P w H' s'.heap/\E (.ref C) none H'
section
variable {X:Cx} {pins:List (ag×l3)} {σ:St} {H H1:Hp} {s s1:ar} {B h':ij}
theorem Inv.oz (I:Inv X pins σ H s) {b:ag} (h1:b≠X.env.locals) (h2:b ∉ X.fs):b ∉ gH X.stack:=fun z=>by
 rcases io.mp (I.iN b z) with q|q
 ·exact h1 q
 ·exact h2 q
theorem Inv.vK (I:Inv X pins σ H s) {b:ag} {o:l3} (e:X.s₀.heap.get? b=some o):b≠X.env.locals:=fun z=>by
 have l:=ii e
 have:=I.ok.above
 rw [<- z] at this
 exact absurd l (Nat.not_lt.mpr this)
theorem Inv.Rb (I1:Inv X pins σ H1 s1) (I:Inv X pins σ H s) (c1:∀b o,s1.heap.get? b=some o->b ∉ gH X.stack->∃o',B.get? b=some o') (c2:∀b u,H b=some u->∃o',B.get? b=some o')
  (k:B.StaysIn s.heap) (k':B.StaysIn h') (up:s.heap.UpToSlots h'):Inv X pins σ H {s with heap:=h'}:=by
 have same:∀b o',(∃o2,B.get? b=some o2)->s.heap.get? b=some o'->h'.get? b=some o':=fun b o' ⟨o2,e⟩ q=>by
  have z:=k b o2 e
  rw [q] at z
  cases z
  exact k' b _ e
 refine ⟨I.ok,I.os,I.bare,⟨fun b o q n hb hx=>?_,fun b o q n hb hx=>?_,I.base.free,fun b o q hx=>?_,I.base.tups,I.base.frzs,I.base.tbls⟩,?_,fun x c e=>?_,I.free,I.freeC,fun p hp=>?_,fun a o e=>?_,I.len⟩
 ·exact same b o (c1 b o (I1.base.keep b o q n hb hx) (I.oz (I.vK q) hb)) (I.base.keep b o q n hb hx)
 ·obtain ⟨sl,e⟩:=I.base.slot b o q n hb hx
  obtain ⟨_,o2,e2,nf⟩:=I.funs.mem hb
  rw [e] at e2
  cases e2
  obtain ⟨Ut,e4⟩:=up b {o with slots:=sl} e nf
  exact ⟨Ut,e4⟩
 ·obtain ⟨o',e⟩:=I.base.there b o q hx
  by_cases hb:b∈X.fs
  ·obtain ⟨_,o2,e2,nf⟩:=I.funs.mem hb
   obtain ⟨sl,e3⟩:=up b _ e2 nf
   exact ⟨_,e3⟩
  ·obtain ⟨o1,q1⟩:=I1.base.there b o q hx
   exact ⟨o',same b o' (c1 b o1 q1 (I.oz (I.vK q) hb)) e⟩
 ·obtain ⟨m,hn,hl⟩:=I.loc
  refine ⟨m,up.ns hn,fun i x v a b c=>?_⟩
  obtain ⟨u,r,l⟩:=hl i x v a b c
  refine ⟨u,r,?_⟩
  rcases l with l|⟨kd,c,ec,o,ho,hd⟩
  ·exact .inl l
  ·obtain ⟨sl,e⟩:=up c o ho fun vs z=>by rw [hd] at z;cases z
   exact .inr ⟨kd,c,ec,_,e,hd⟩
 ·obtain ⟨v,o,ho,hd⟩:=I.cell x c e
  obtain ⟨sl,e⟩:=up c o ho fun vs z=>by rw [hd] at z;cases z
  exact ⟨v,_,e,hd⟩
 ·obtain ⟨p1,p2,p3,p4,p5⟩:=I.pin p hp
  exact ⟨same p.1 p.2 (c1 p.1 p.2 (I1.pin p hp).1 (I.oz p3 p4)) p1,p2,p3,p4,p5⟩
 ·refine (I.hok a o e).dA (fun b u hb q=>?_) (fun _ q=>q) fun _ _ q=>q
  rcases hb with z|z
  ·exact same b u (c2 b o (by rw [z];exact e)) q
  ·exact same b u (c2 b _ z) q
end
section
variable {P:gc} {w:i0} {K:ba} {mg:br->Option ap} {base:ij} {N:List br} {qual:br} {scope:wl} {f:ag} {cd:ap} {A:l8} {outer:List IR} {s0:ar} {H0:Hp} {E:XK}
theorem AZ:Passes (fX P w) (ig (fX P w) P w K mg base N qual scope f cd A outer s0 H0 E) E :=by
 intro pins σ H s e s' I h
 obtain ⟨a,C,t,B,H',rfl,os,gn,fl,c1,c2,un,hok,q⟩:=h
 have I':=I.vG (ch:=[]) os un hok gn (fun b z=>absurd z (by simp))
 refine wpAny_leaves_onW (cls:=.ref C) (a0:=.ref t) I.ok.frames rfl fl fun h' Rc up=>?_
 have I2:=I.Rb I' c1 c2 fl.1 Rc.1 up
 refine ⟨a,C,t,B,H',rfl,I2.os,I2.bare,Rc,fun b o e n=>?_,c2,I2.base,I2.hok,q⟩
 obtain ⟨o1,e1⟩:=I.base.there b o e (fun z=>absurd (show b∈([]:List ag) from z) (by simp))
 exact c1 b o1 e1 (I.oz (I.vK e) n)
def Raises (X:Cx) (E:XK):Prop:=∀(pins:List (ag×l3)) (σ:St) (H:Hp) (s:ar) (C:ag) (h':ij) (a:ag) (vs:List ap),Inv X pins σ H s->ij.MadeExcOf s.heap h' a (.ref C) vs->E (.ref C) none H->X.xe (.ref a) {s with heap:=h'}
theorem MF:Raises (ig (fX P w) P w K mg base N qual scope f cd A outer s0 H0 E) E :=by
 intro pins σ H s C h' a vs I hx q
 have c1:∀b o,s.heap.get? b=some o->b ∉ gH (ig (fX P w) P w K mg base N qual scope f cd A outer s0 H0 E).stack->∃o',(WO s.heap (gH (ig (fX P w) P w K mg base N qual scope f cd A outer s0 H0 E).stack)).get? b=some o':=
  fun b o e n=>⟨o,PySem.W.hideAll_get _ e n⟩
 have c2:∀b u,H b=some u->∃o',(WO s.heap (gH (ig (fX P w) P w K mg base N qual scope f cd A outer s0 H0 E).stack)).get? b=some o':=fun b u hu=>by
  obtain ⟨o,e⟩:=(I.hok b u hu).there
  exact c1 b o e fun z=>by rw [I.pz b z] at hu;cases hu
 have st:(WO s.heap (gH (ig (fX P w) P w K mg base N qual scope f cd A outer s0 H0 E).stack)).StaysIn s.heap:=fun b o e=>PySem.W.of_hideAll _ e
 refine wpAny_leaves_madeW (cls:=.ref C) I.ok.frames rfl st (PySem.W.funFrames_hide I.stack fun env he b hb=>Xc.mpr ⟨env,he,hb⟩) hx fun V4 t fl _ _ up=>?_
 have I2:=I.Rb I c1 c2 st fl.1 ((ij.UpToSlots.of_keeps hx.keeps).trans up)
 refine ⟨a,C,t,_,H,rfl,I2.os,I2.bare,fl,fun b o e n=>?_,c2,I2.base,I2.hok,q⟩
 obtain ⟨o1,e1⟩:=I.base.there b o e (fun z=>absurd (show b∈([]:List ag) from z) (by simp))
 exact c1 b o1 e1 (I.oz (I.vK e) n)
end
theorem Jq {K:ba} {h:ij} {C:ag} {uJ:List ap} {newId:String} (X:K.In h) (q:Xo K C uJ newId=true) :
  ∃bm Nn nm qn bs hd sn sub ab col dd k0 k1 k2 k3 k5 mN,h.get? C=some (excClassObj nm qn C Nn bs bm hd sn sub ab col dd k0 k1 k2 k3 k5 newId)/\h.Ns Nn mN/\mN "__init__" = none/\OwnTail h uJ bm :=by
 unfold Xo at q
 split at q
 case h_2=>cases q
 case h_1 dd cd sl ho=>
  split at q
  case h_2=>cases q
  case h_1 C' bm k0 k1 k2 k3 n k5 hm hs=>
   rw [Ix,Ix,Ix,Ix,Ix] at q
   obtain ⟨⟨⟨⟨⟨q1,q2⟩,q3⟩,q4⟩,q5⟩,q6⟩:=q
   have e1:C'=C:=beq_iff_eq.mp q1
   have e2:n=newId:=beq_iff_eq.mp q2
   have e3:cd.hasDel=false :=by simpa using q3
   subst e1 e2
   obtain ⟨nm,bs,mro,ns,qn,hd,sn,sub,ab,col,del⟩:=cd
   dsimp only at hm e3 q5 q6
   subst hm e3
   have es:sl=#[k0,k1,k2,k3,some (.builtin n),k5] :=by
    cases sl with
    |mk l=>exact congrArg Array.mk hs
   subst es
   exact ⟨bm,ns,nm,qn,bs,hd,sn,sub,ab,col,dd,k0,k1,k2,k3,k5,_,X _ _ ho,ij.Ns.of_isNs (PySem.W.isNs_of_in X q5),PySem.W.nsMap_none_of_in X q5 (beq_iff_eq.mp q6),PySem.W.tail_of_in X q4⟩
section
variable {X:Cx} {x:br} {C:ag} {me:dL} {rest:List dL} {t:TA} {uJ:List ap} {B newId xc:String} {E:XK} {np aU pos:ut}
def MG (C:ag) (E:XK) (t:TA):TS:=fun _ σ H=>t σ H fun vs H1=>vs.length<=sizeLine/\E (.ref C) none H1
theorem FX (O:Xo X.K C uJ newId=true) (FB:ExcBaseFacts B newId xc uJ) (hc:X.calm=true) (hR:Raises X E) (hg:Gl X x) (hm:X.mg x=some (.ref C)) (ha:PA X (me::rest) t)
  (kD:(x==("__debug__" : br))=false :=by decide) (he:starEach (me::rest) X.env=(false,eval me X.env)::starEach rest X.env :=by rfl) (eL:(backTo aU (starEach rest X.env)).any (·.1)=false :=by rfl) :
  PS X (.Raise (some (.Call (.Name x np) (me::rest) [] aU)) none pos) (MG C E t) :=by
 refine ⟨fun pins s σ H D I h=>?_⟩
 obtain ⟨bm,Nn,nm,qn,bs,hd,sn,sub,ab,col,dd,k0,k1,k2,k3,k5,mN,hC,hN,Uu,T⟩:=Jq I.ok.mod.kin O
 have hp:(backTo aU (starEach (me::rest) X.env)).any (·.1)=false :=by
  rw [he]
  exact eL
 have lF:=ha aU pins s σ H _ I h
 rw [he] at lF
 refine wpAny_Raise_call_subT (C:=C) (nm:=nm) (q:=qn) (N:=Nn) (bs:=bs) (bm:=bm) (hdct:=hd) (sn:=sn) (sub:=sub) (ab:=ab) (col:=col) (dd:=dd) (k0:=k0) (k1:=k1) (k2:=k2) (k3:=k3) (k5:=k5) FB (mN:=mN)
  (T.hasType FB.hasBase) (I.ok.hd hc) hp Uu (sV I hg hm ⟨rfl,?_⟩ kD)
 rw [he]
 refine WS (thn lF fun us s2 ⟨vs,H2,I2,r,l,q⟩=>?_)
 exact ⟨rfl,by rw [<- r.length];exact l,I2.bk _ _ hC,hN.keeps I2.bk,T.keeps I2.bk,fun h' a hx=>hR pins σ H2 s2 C h' a us I2 hx q⟩
end
end L2
namespace L2
open PySem PySem.Spec PyProof.Rows PySem.W Builtin Builtin.ObjectAttr Builtin.Getset_descriptor
def ExcAt (C a:ag) (h:ij):Prop:=∃o vs,h.get? a=some o/\o.cls=.ref C/\o.data=.fields vs
def S9 (C a:ag):HO:=.ext (ExcAt C a)
structure MH (K:Frag) (C:ag):Prop where
 cls:(clsIn K C).isSome=true
 ga:findIn K (.ref C) "__getattribute__" = some (some (.builtin "BaseException.__getattribute__"))
 gt:findIn K (.ref C) "__getattr__" = some none
 cl:findIn K (.ref C) "__class__" = some (some (.builtin "object.__class__"))
 gg:specialIn K (.builtin "object.__class__") "__get__" = some (some (.builtin "getset_descriptor.__get__"))
 tk:takesIn K (.builtin "object.__class__")=some true
 ob:mroIn K C (.type "object")=some true
 be:mroIn K C (.type "BaseException")=some true
end L2
namespace L2
open PySem PySem.Spec PyProof.Rows PySem.W
section
variable {X:Cx} {pins pins':List (ag×l3)} {σ:St} {H:Hp} {s:ar} {T:ap->ar->Prop}
theorem Inv.PL {a:ag} {o:HO} (I:Inv X pins σ H s) (n0:H a=none) (n1:X.s₀.heap.get? a=none) (n2:a≠X.env.locals) (n3:∀x c,X.env.cells.lookup x=some c->c≠a) (n4:∀p∈X.pn++pins,p.1≠a)
  (ob:ObjOk X.prog X.w (upd H a o) s.heap a o):Inv X pins σ (upd H a o) s :=by
 have un:∀b u,H b=some u->upd H a o b=some u:=fun b u e=>by rw [aj (bB e n0)];exact e
 refine ⟨I.ok,I.os,I.bare,⟨I.base.keep,I.base.slot,fun b u q n hx=>?_,I.base.there,fun b xs e=>un _ _ (I.base.tups b xs e),fun b u v e=>un _ _ (I.base.frzs b u v e),fun b ps e=>?_⟩,I.loc,I.cell,?_,fun x c e=>?_,fun p hp=>?_,fun b u e=>?_,I.len⟩
 ·rw [aj (fun z=>by rw [z,n1] at q;cases q)]
  exact I.base.free b u q n hx
 ·obtain ⟨more,z⟩:=I.base.tbls b ps e
  exact ⟨more,un _ _ z⟩
 ·rw [aj (wE n2)]
  exact I.free
 ·rw [aj (n3 x c e)]
  exact I.freeC x c e
 ·obtain ⟨p1,p2,p3⟩:=I.pin p hp
  exact ⟨p1,by rw [aj (n4 p hp)];exact p2,p3⟩
 ·by_cases hb:b=a
  ·subst hb
   rw [aK] at e
   cases e
   exact ob
  ·rw [aj hb] at e
   exact (I.hok b u e).dA (fun _ _ _ q=>q) (fun c q=>un _ _ q) fun c xs q=>un _ _ q
end
structure Dh (K:Frag) (C0:ag):Prop where
 ty:typeIn K (.ref C0)=some (.type "type")
 be:subIn K (.ref C0) (.type "BaseException")=some true
 it:(clsIn K C0).isSome=true
theorem A0 {P:gc} {w:i0} {X:Cx}:Passes (fX P w) X (fun _ _ _=>False):=fun _ _ _ _ _ _ _ h=>by
 obtain ⟨_,_,_,_,_,_,_,_,_,_,_,_,_,q⟩:=h
 exact q.elim
theorem uw.CP {P:gc} {w:i0} {K:ba} {mg:br->Option ap} {base:ij} {x qual:br} {st:tz} {f:ag} {fd:l5} {N ps:List br} {k:Nat} {sp:Sp} (F:uw K x qual st f fd) (S:aT N ps (ai st)) (len:∀vs H Q E,sp vs H Q E->vs.length=ps.length)
  (rl:∀(A:l8) (outer:List IR) (s:ar) (H:Hp) (vs:List V) (Q:VK) (E:XK),dB k (A.deeper (envOfC qual (ai st) s.heap.objs.size f fd.code))->sp vs H Q E->
   ∃t,iB (ig (fX P w) P w K mg base N qual (ai st) f fd.code A outer s H E) (eA st) t/\t {nx:=fun _ H'=>Q .au H',rt:=Q} (start N vs) H):FnOk P w K mg base (fX P w) (k+1) f fd ps sp :=by
 obtain ⟨oc,od,kV,doc,pm,an,eZ,ct,nW,rfl,lk,iO⟩:=F.ex
 exact Hs lk iO S len fun A outer s H vs Q E hr pU=>rl A outer s H vs Q E hr pU
def Rf:List ap:=[.type "ValueError",.type "Exception",.type "BaseException",.type "object"]
def FY (K:Frag) (C0 C:ag):Bool:=excIn K C Rf "ValueError.__new__" && (clsIn K C).isSome && findIn K (.ref C) "__getattribute__" == some (some (.builtin "BaseException.__getattribute__")) && findIn K (.ref C) "__getattr__" == some none &&
 findIn K (.ref C) "__class__" == some (some (.builtin "object.__class__")) && mroIn K C (.type "object")==some true && mroIn K C (.type "BaseException")==some true && subIn K (.ref C) (.ref C0)==some true && kitOne K (.ref C) (.type "ValueError")==some true
def A1 (K:Frag) (C0:ag) (cs:List ag):Bool:=cs.all (FY K C0) && (cs.all fun C=>cs.all fun D=>kitOne K (.ref C) (.ref D)==some (decide (C=D))) && specialIn K (.builtin "object.__class__") "__get__" == some (some (.builtin "getset_descriptor.__get__")) && takesIn K (.builtin "object.__class__")==some true &&
 typeIn K (.ref C0)==some (.type "type") && subIn K (.ref C0) (.type "BaseException")==some true && (clsIn K C0).isSome
structure MI (K:Frag) (C0:ag) (cs:List ag):Prop where
 ex:∀C∈cs,excIn K C Rf "ValueError.__new__" = true
 cl:∀C∈cs,MH K C
 sub:∀C∈cs,subIn K (.ref C) (.ref C0)=some true
 one:∀C∈cs,∀D∈cs,kitOne K (.ref C) (.ref D)=some (decide (C=D))
 val:∀C∈cs,kitOne K (.ref C) (.type "ValueError")=some true
 top:Dh K C0
theorem Jr {K:Frag} {C0:ag} {cs:List ag} (h:A1 K C0 cs=true):MI K C0 cs :=by
 unfold A1 at h
 simp only [Ix] at h
 obtain ⟨⟨⟨⟨⟨⟨h1,h2⟩,h3⟩,h4⟩,h5⟩,h6⟩,h7⟩:=h
 have all:∀C∈cs,FY K C0 C=true:=wb.mp h1
 have part:∀C∈cs,_:=fun C hC=>by
  have z:=all C hC
  unfold FY at z
  simp only [Ix] at z
  exact z
 refine ⟨fun C hC=>(part C hC).1.1.1.1.1.1.1.1,fun C hC=>?_,fun C hC=>beq_iff_eq.mp (part C hC).1.2,fun C hC D hD=>beq_iff_eq.mp (wb.mp (wb.mp h2 C hC) D hD),fun C hC=>beq_iff_eq.mp (part C hC).2,⟨beq_iff_eq.mp h5,beq_iff_eq.mp h6,h7⟩⟩
 obtain ⟨⟨⟨⟨⟨⟨⟨⟨_,p1⟩,p2⟩,p3⟩,p4⟩,p5⟩,p6⟩,_⟩,_⟩:=part C hC
 exact ⟨p1,beq_iff_eq.mp p2,beq_iff_eq.mp p3,beq_iff_eq.mp p4,beq_iff_eq.mp h3,beq_iff_eq.mp h4,beq_iff_eq.mp p5,beq_iff_eq.mp p6⟩
end L2
namespace L2
open PySem PySem.Spec PyProof.Rows Builtin.SmallTypes
def SqIt (k:Bool) (h:ij) (it a:ag) (i:Nat):Prop:=if k=true then h.IsListIter it a i else h.IsTupleIter it a i
def cT (k:Bool) (h:ij) (a:ag) (items:Array ap):Prop:=if k=true then h.IsList a items else h.IsTuple a items
theorem SqIt.at {k:Bool} {h h':ij} {it a:ag} {i:Nat} (x:SqIt k h it a i) (q:∀o,h.get? it=some o->h'.get? it=some o):SqIt k h' it a i :=by
 cases k with
 |true=>exact ij.IsListIter.at (h:=h) x q
 |false=>exact ij.IsTupleIter.at (h:=h) x q
theorem SqIt.obj {k:Bool} {h:ij} {it a:ag} {i:Nat} (x:SqIt k h it a i):∃o,h.get? it=some o/\∃vs,o.data=.fields vs :=by
 cases k with
 |true=>obtain ⟨o,e,_,d⟩:=(show h.IsListIter it a i from x);exact ⟨o,e,_,d⟩
 |false=>obtain ⟨o,e,_,d⟩:=(show h.IsTupleIter it a i from x);exact ⟨o,e,_,d⟩
theorem cT.obj {k:Bool} {h:ij} {a:ag} {items:Array ap} (x:cT k h a items):∃o n,h.get? a=some o/\o.data=.seq items n :=by
 cases k with
 |true=>obtain ⟨o,e,_,n,d⟩:=(show h.IsList a items from x);exact ⟨o,n,e,d⟩
 |false=>obtain ⟨o,e,_,n,d⟩:=(show h.IsTuple a items from x);exact ⟨o,n,e,d⟩
theorem cT.at {k:Bool} {h h':ij} {a:ag} {items:Array ap} (x:cT k h a items) (q:∀o,h.get? a=some o->h'.get? a=some o):cT k h' a items :=by
 cases k with
 |true=>exact ij.IsList.at (h:=h) x q
 |false=>exact ij.IsTuple.at (h:=h) x q
section
variable {prog:gc} {w:i0} {A:l8} {E:ap->ar->Prop} {s:ar} {it a:ag} {i:Nat} {items:Array ap} {x:ap} {k:Bool}
theorem FZ {Q:Option ap->ar->Prop} (hit:s.heap.IsTupleIter it a i) (ha:s.heap.IsTuple a items) (hx:items[i]?=some x)
  (hQ:∀h',h'.IsTupleIter it a (i+1)->v6 it s.heap h'->Q (some x) {s with heap:=h'}):wpAny (model prog w) A (callSpecial? (.ref it) "__next__") Q E s :=by
 obtain ⟨o,ho,hc,hd⟩:=id hit
 obtain ⟨ol,wO,_,nl,HE⟩:=ha
 have sl:=F.slot_tuple_iterator_next
 refine wP (name:=xw "__next__") hit.typeIs sl (xb sl hit.typeIs F.entry_tuple_iterator_next ?_ (F.args_tuple_iterator_next_1 _))
 have nn:¬ ((mT a==xz)=true):=im
 refine al (m:=field (.ref it) 0) (zw ho hd (x:=.ref a) rfl ?_)
 rw [if_neg nn]
 refine al (m:=field (.ref it) 1) (zw ho hd (x:=.int i 0) rfl (al (m:=seqItems? (.ref a)) (ET wO HE ?_)))
 simp only [tw,hx]
 refine al (m:=setField _ _ _) (wpAny_setField ho hd (by simp) (ca ⟨x,rfl,hQ _ ?_ (AE ..)⟩))
 refine ⟨_,B0 _ ho (WN (LH hd _)),(Xw ..).trans hc,?_⟩
 rw [LH hd]
 simp [rawInt]
theorem F0 {Q:Option ap->ar->Prop} (hh:A.handled=none) (hit:s.heap.IsTupleIter it a i) (ha:s.heap.IsTuple a items) (hx:items[i]?=none)
  (hE:∀h' e,ij.ExtBut it s.heap h'->(∃o,h'.get? e=some o/\o.cls=.type "StopIteration")->E (.ref e) {s with heap:=h'}):wpAny (model prog w) A (callSpecial? (.ref it) "__next__") Q E s :=by
 obtain ⟨o,ho,hc,hd⟩:=id hit
 obtain ⟨ol,wO,_,nl,HE⟩:=ha
 have sl:=F.slot_tuple_iterator_next
 refine wP (name:=xw "__next__") hit.typeIs sl (xb sl hit.typeIs F.entry_tuple_iterator_next ?_ (F.args_tuple_iterator_next_1 _))
 have nn:¬ ((mT a==xz)=true):=im
 refine al (m:=field (.ref it) 0) (zw ho hd (x:=.ref a) rfl ?_)
 rw [if_neg nn]
 refine al (m:=field (.ref it) 1) (zw ho hd (x:=.int i 0) rfl (al (m:=seqItems? (.ref a)) (ET wO HE ?_)))
 simp only [tw,hx]
 refine al (EN (al (m:=setField _ _ _) (wpAny_setField ho hd (by simp) ?_)))
 refine al (m:=newExc (.type "StopIteration") []) ?_
 unfold newExc newTuple
 refine al (zd ?_ (by size_fits))
 refine al (m:=firstArgMember _ _) (X2 (a:=xz) (by first|rfl|(simp only [firstArgMember];rfl)) (zd ?_ (by size_fits)))
 refine wpAny_raiseNew_none hh ?_
 exact hE _ _ (((AE ..).extBut.push _).push _) ⟨_,en _ rfl,rfl⟩
theorem pD {Q:ap->ar->Prop} (hit:SqIt k s.heap it a i) (ha:cT k s.heap a items) (hx:items[i]?=some x)
  (hQ:∀h',SqIt k h' it a (i+1)->v6 it s.heap h'->Q x {s with heap:=h'}):wpAny (model prog w) A (nextOf (.ref it)) Q E s :=by
 cases k with
 |true=>exact wpAny_nextOf_list_item hit ha hx hQ
 |false=>
  unfold nextOf
  exact al (FZ hit ha hx fun h' a b=>ca (hQ h' a b))
theorem tD {Q:ap->ar->Prop} (hh:A.handled=none) (hit:SqIt k s.heap it a i) (ha:cT k s.heap a items) (hx:items[i]?=none)
  (hE:∀h' e,ij.ExtBut it s.heap h'->(∃o,h'.get? e=some o/\o.cls=.type "StopIteration")->E (.ref e) {s with heap:=h'}):wpAny (model prog w) A (nextOf (.ref it)) Q E s :=by
 cases k with
 |true=>exact wpAny_nextOf_list_end hh hit ha hx hE
 |false=>
  unfold nextOf
  exact al (F0 hh hit ha hx hE)
end
section
variable {prog:gc} {w:i0} {A:l8} {E:ap->ar->Prop} {s:ar} {e it a:ag} {i:Nat} {items:Array ap} {x old:ap} {k:Bool}
theorem Di {Q:ap->ar->Prop} (he:WE s.heap e it i old) (e8:e≠it) (hit:SqIt k s.heap it a i) (ha:cT k s.heap a items) (hx:items[i]?=some x)
  (hQ:∀h',Yc h' e it ((i:Int)+1) x s.heap.objs.size->SqIt k h' it a (i+1)->h'.get? s.heap.objs.size=some {cls:=.type "tuple",data:=.seq #[.int i s.toks,x]}->
   (∀b o,b≠e->b≠it->s.heap.get? b=some o->h'.get? b=some o)->Q (.ref s.heap.objs.size) {s with heap:=h',toks:=s.toks+1}) :
  wpAny (model prog w) A (uu.«enumerate.__next__» ⟨[.ref e],[]⟩) (fun fin s'=>∃v,fin=.done (.ret v)/\Q v s') E s :=by
 obtain ⟨hp,g,d,tk,os⟩:=s
 refine al (m:=field (.ref e) 2) (zw he rfl (x:=.ref it) rfl (al (m:=nextOf (.ref it)) (pD hit ha hx fun h1 Dj (gS:v6 it hp h1)=>?_)))
 have e1:WE h1 e it i old:=(gS.2 e e8).trans he
 refine al (m:=field (.ref e) 3) (zw e1 rfl (x:=rawInt i) rfl (al (m:=field (.ref e) 4) (zw e1 rfl (x:=.none) rfl (al (m:=mkInt i) (wpAny_mkInt ?_)))))
 refine al (m:=setField (.ref e) 3 _) (BB e1 (by simp) fun h2 (e2:WE h2 e it ((i:Int)+1) old) (fy:v6 e h1 h2)=>?_)
 refine al (m:=setField (.ref e) 4 .none) (BB e2 (by simp) fun h3 (e3:WE h3 e it ((i:Int)+1) old) (lH:v6 e h2 h3)=>?_)
 refine al (m:=newTuple [.int i tk,x]) (Xa ?_)
 have z3:h3.objs.size=hp.objs.size :=by rw [lH.1,fy.1,gS.1]
 have el:e<hp.objs.size:=ii he
 have e4:WE (h3.push {cls:=.type "tuple",data:=.seq #[.int i tk,x]}) e it ((i:Int)+1) old:=bv _ e3
 have t4:(h3.push {cls:=.type "tuple",data:=.seq #[.int i tk,x]}).get? hp.objs.size=some {cls:=.type "tuple",data:=.seq #[.int i tk,x]}:=z3▸en _ rfl
 have up:∀b o,b≠e->h1.get? b=some o->(h3.push {cls:=.type "tuple",data:=.seq #[.int i tk,x]}).get? b=some o:=fun b o n q=>bv _ (lH.extBut b o n (fy.extBut b o n q))
 generalize h3.push {cls:=.type "tuple",data:=.seq #[.int i tk,x]}=h4 at e4 t4 up
 rw [z3]
 refine al (m:=ownedTupleIsFree (.ref e)) ?_
 unfold ownedTupleIsFree
 refine al (m:=field (.ref e) 0) (zw e4 rfl (x:=.none) rfl (ca ?_))
 rw [if_pos rfl]
 refine al (EN (al (m:=field (.ref e) 5) (zw e4 rfl (x:=old) rfl ?_)))
 refine al (m:=setField (.ref e) 5 x) (BB e4 (by simp) fun h5 (e5:WE h5 e it ((i:Int)+1) x) (xf:v6 e h4 h5)=>?_)
 refine al (m:=ownedTupleHandOut (.ref e) _) ?_
 unfold ownedTupleHandOut
 refine al (BB e5 (by simp) fun h6 (e6:Yc h6 e it ((i:Int)+1) x hp.objs.size) (Uv:v6 e h5 h6)=>?_)
 refine BB e6 (by simp) fun h7 (e7:Yc h7 e it ((i:Int)+1) x hp.objs.size) (HF:v6 e h6 h7)=>?_
 have MJ:∀b o,b≠e->h4.get? b=some o->h7.get? b=some o:=fun b o n q=>HF.extBut b o n (Uv.extBut b o n (xf.extBut b o n q))
 refine al (Xb (ca ⟨_,rfl,hQ h7 e7 (Dj.at fun o q=>MJ it o (wE e8) (up it o (wE e8) q)) (MJ _ _ (Go el) t4) fun b o n1 n2 q=>MJ b o n1 (up b o n1 ((gS.2 b n2).trans q))⟩))
theorem Dk {Q:Option ap->ar->Prop} (he:WE s.heap e it i old) (e8:e≠it) (hit:SqIt k s.heap it a i) (ha:cT k s.heap a items) (hx:items[i]?=some x)
  (hQ:∀h',Yc h' e it ((i:Int)+1) x s.heap.objs.size->SqIt k h' it a (i+1)->h'.get? s.heap.objs.size=some {cls:=.type "tuple",data:=.seq #[.int i s.toks,x]}->
   (∀b o,b≠e->b≠it->s.heap.get? b=some o->h'.get? b=some o)->Q (some (.ref s.heap.objs.size)) {s with heap:=h',toks:=s.toks+1}) :
  wpAny (model prog w) A (pyNext (.ref e)) Q E s :=by
 have hT:s.TypeIs (.ref e) "enumerate" := ⟨_,he,rfl⟩
 have sl:=F.slot_enumerate_next
 unfold pyNext
 exact al (MW (wP (name:=xw "__next__") hT sl (xb sl hT F.entry_enumerate_next (Di he e8 hit ha hx fun h' a b c d=>ca (hQ h' a b c d)) (F.args_enumerate_next_1 _))))
theorem Dl {Q:Option ap->ar->Prop} (hh:A.handled=none) (he:WE s.heap e it i old) (hit:SqIt k s.heap it a i) (ha:cT k s.heap a items) (hx:items[i]?=none)
  (hQ:∀h',ij.ExtBut it s.heap h'->Q none {s with heap:=h'}):wpAny (model prog w) A (pyNext (.ref e)) Q E s :=by
 have hT:s.TypeIs (.ref e) "enumerate" := ⟨_,he,rfl⟩
 have sl:=F.slot_enumerate_next
 unfold pyNext
 refine al (MW (wP (name:=xw "__next__") hT sl (xb sl hT F.entry_enumerate_next ?_ (F.args_enumerate_next_1 _))))
 refine al (m:=field (.ref e) 2) (zw he rfl (x:=.ref it) rfl (al (m:=nextOf (.ref it)) (tD hh hit ha hx fun h' y eb ⟨o,ho,hc⟩=>?_)))
 exact al (WJ (T := "StopIteration") (b:=true) ⟨o,ho,hc⟩ isSubtype_stop (ca (hQ _ eb)))
end
end L2
namespace L2
open PySem PySem.Spec PyProof.Rows Builtin.SmallTypes AutoSeq1
theorem xg:bootBuiltins "enumerate" = some (.type "enumerate") :=by decide +kernel
theorem MK:bootBuiltins "zip" = some (.type "zip") :=by decide +kernel
section
variable {X:Cx} {pins:List (ag×l3)} {σ:St} {H:Hp} {s:ar} {h':ij}
theorem Inv.pE {t':Nat} {ch:List ag} (I:Inv X pins σ H s) (k:∀b o,b ∉ ch->s.heap.get? b=some o->h'.get? b=some o) (hf:∀b∈ch,dS X pins H b):Inv X pins σ H {s with heap:=h',toks:=t'}:=by
 have B5:∀b u,H b=some u->b ∉ ch:=fun b u e z=>by rw [(hf b z).1] at e;cases e
 refine I.step (g':=s.gens) (d':=s.drawn) (ch:=ch) (fun b hb=>?_) (fun b o _ _ hc e _=>k b o hc e) (fun b o _ _ hc e _=>⟨o.slots,k b o hc e⟩) (fun _ _ _ _ n=>n)
  (fun b o hc e=>⟨o,k b o hc e⟩) (fun _ _ e=>e) (fun _ _ _ e=>e) (fun b ps e=>⟨#[],by rw [e];simp⟩) (fun m hm=>?_) (fun b u e=>?_) I.bare.self
 ·obtain ⟨_,f1,f2,f3,f4,f5⟩:=hf b hb
  exact ⟨f3,f1,f4,f5⟩
 ·obtain ⟨o,es,ep,ho,r⟩:=hm
  exact ⟨o,es,ep,k _ o (fun z=>(hf _ z).2.1 rfl) ho,r⟩
 ·refine (I.hok b u e).dA (fun c v hc q=>k c v ?_ q) (fun _ q=>q) fun _ _ q=>q
  rcases hc with z|z
  ·rw [z];exact B5 b u e
  ·exact B5 c _ z
theorem Inv.pair {t:ag} {a b:V} {u v:ap} {h1:ij} {tk tk0:Nat} (I0:Inv X pins σ H {s with toks:=tk0}) (ht:s.heap.objs.size<=t) (I:Inv X pins σ H {s with heap:=h1,toks:=tk}) (e:h1.get? t=some {cls:=.type "tuple",data:=.seq #[u,v]}) (ru:RelV a u) (rv:RelV b v) :
  Inv X pins σ (upd H t (.tup [a,b])) {s with heap:=h1,toks:=tk}:=by
 have f:=Inv.mR (H':=H) I0 (b:=t) ht (I0.hok.fresh ht)
 refine I.PL f.1 ?_ f.2.1 f.2.2.2.2.1 f.2.2.2.2.2 ⟨by show 2<=sizeLine;decide,[u,v],.cons ru (.cons rv .nil),⟨_,e,rfl,_,rfl,rfl⟩⟩
 exact ij.get?_none_of_le (ln I0.sz ht)
end
def Sq (k:Bool) (K:ba) (H:Hp) (a:ag) (xs:List V):Prop:=if k=true then bH K H a xs else dh K H a xs
theorem Inv.sq {X:Cx} {pins:List (ag×l3)} {σ:St} {H:Hp} {s:ar} {k:Bool} {a:ag} {xs:List V} (I:Inv X pins σ H s) (h:Sq k X.K H a xs):∃its:List ap,Vals xs its/\cT k s.heap a its.toArray :=by
 cases k with
 |true=>obtain ⟨its,rv,p,_⟩:=I.list (show bH X.K H a xs from h);exact ⟨its,rv,p.isList⟩
 |false=>obtain ⟨its,rv,p,_⟩:=I.tuple (show dh X.K H a xs from h);exact ⟨its,rv,p⟩
theorem Inv.xh {X:Cx} {pins:List (ag×l3)} {σ:St} {H:Hp} {s:ar} {k:Bool} {a:ag} {xs ys:List V} (I:Inv X pins σ H s) (h:Sq k X.K H a xs) (h':Sq k X.K H a ys):xs=ys :=by
 cases k with
 |true=>exact I.wc (show bH X.K H a xs from h) h'
 |false=>exact I.ub (show dh X.K H a xs from h) h'
def HG (k:Bool) (K:ba) (a:ag):It:=
 ⟨fun i H=>∃xs x,Sq k K H a xs/\xs[i]?=some x,fun i H v H'=>∃t x,H t=none/\v=.ref t/\H'=upd H t (.tup [.int (i:Nat),x])/\∀xs,Sq k K H a xs->xs[i]?=some x,fun i H=>∃xs,Sq k K H a xs/\xs.length<=i⟩
theorem Dm {P:gc} {w:i0} {K:ba} {elts:List dL} {x1:Nat} {pos:ut} (k:Bool) (a it e:ag) (e8:e≠it) :
  Turn P w K (.Tuple elts x1 pos) (HG k K a) [e,it] e (fun i h=>(∃old,WE h e it i old)/\SqIt k h it a i) where
 mem :=by simp
 obj:=fun i h st b hb=>by
  obtain ⟨⟨old,he⟩,hit⟩:=st
  simp only [io,wT,or_false] at hb
  rcases hb with rfl|rfl
  ·exact ⟨_,he,fun v z=>nomatch z⟩
  ·obtain ⟨o,ho,vs,hd⟩:=hit.obj
   exact ⟨o,ho,fun v z=>by rw [hd] at z;cases z⟩
 keep:=fun i h h' st q=>by
  obtain ⟨⟨old,he⟩,hit⟩:=st
  exact ⟨⟨old,q e (by simp) _ he⟩,hit.at fun o ho=>q it (by simp) o ho⟩
 item :=by
  intro X hP hw hK hc i pins s σ H E I hf st hg
  subst hP hw hK
  obtain ⟨⟨old,he⟩,hit⟩:=st
  obtain ⟨xs,x,hq,hx⟩:=hg
  obtain ⟨its,rv,p⟩:=I.sq hq
  obtain ⟨u,hu,ru⟩:=rv.get hx
  refine Dk he e8 hit p (x:=u) (by simpa using hu) fun h1 eo Dj t1 kk=>?_
  refine ⟨_,rfl,wpAny_letOwnedTupleGo_enum eo fun h2 e2 (fy:v6 e h1 h2)=>?_⟩
  have el:e<s.heap.objs.size:=ii he
  have I2:Inv X pins σ H {s with heap:=h2,toks:=s.toks+1}:=I.pE (ch:=[e,it]) (fun b o hb q=>by
   simp only [io,wT,or_false,not_or] at hb
   exact (fy.2 b hb.1).trans (kk b o hb.1 hb.2 q)) hf
  have t2:h2.get? s.heap.objs.size=some {cls:=.type "tuple",data:=.seq #[.int i s.toks,u]}:=(fy.2 _ (Go el)).trans t1
  have hn:H s.heap.objs.size=none:=I.hok.fresh (ce _)
  refine ⟨.ref s.heap.objs.size,_,Inv.pair (s:=s) (tk0:=s.toks) I (ce _) I2 t2 (a:=.int (i:Nat)) ⟨s.toks,rfl⟩ ru,rfl,⟨_,x,hn,rfl,rfl,fun ys hy=>by rw [I.xh hy hq];exact hx⟩,⟨⟨u,?_⟩,Dj.at fun o q=>(fy.2 it (wE e8)).trans q⟩,fun b hb=>?_⟩
  ·have c:((i+1:Nat):Int)=(i:Int)+1 :=by push_cast;rfl
   rw [c]
   exact e2
  ·have l:b≠s.heap.objs.size :=by
    simp only [io,wT,or_false] at hb
    rcases hb with rfl|rfl
    ·exact kw el
    ·obtain ⟨o,ho,_⟩:=hit.obj
     exact kw (ii ho)
   rw [aj l]
   exact (hf b hb).1
 done :=by
  intro X hP hw hK hc i pins s σ H E I hf st hg
  subst hP hw hK
  obtain ⟨⟨old,he⟩,hit⟩:=st
  obtain ⟨xs,hq,hx⟩:=hg
  obtain ⟨its,rv,p⟩:=I.sq hq
  have hl:=rv.length
  exact Dl (I.ok.hd hc) he hit p (by simp;omega) fun h1 eb=>⟨rfl,I.pE (t':=s.toks) (ch:=[it]) (fun b o hb q=>eb b o (by simpa using hb) q) fun b hb=>hf b (by simp at hb;simp [hb])⟩
 self:=fun _ _ _ _ _ st h=>wpAny_pyIter_enum st.1.choose_spec h
abbrev Dn (a:ag):l3:={cls:=.type "tuple_iterator",data:=.fields #[.ref a,.int 0 0]}
abbrev ML (it:ag):l3:={cls:=.type "enumerate",data:=.fields #[.none,.bool false,.ref it,rawInt 0,.none,.none]}
theorem Js (a:ag) (items:Array ap) (n:Nat) (dct:Option ag) (sl:Array (Option ap)) :
  Meets (uu.«enumerate.__new__» ⟨[.type "enumerate",.ref a],[]⟩) (fun _ R s=>s.heap.get? a=some {cls:=.type "tuple",dict:=dct,data:=.seq items n,slots:=sl} /\
   R (.ok (.ret (.ref (s.heap.push (Dn a)).objs.size))) {s with heap:=(s.heap.push (Dn a)).push (ML s.heap.objs.size)}):=
 .of_wp fun prog w A R s h=>by
  obtain ⟨hp,g,d,tk,os⟩:=s
  obtain ⟨hl,h⟩:=h
  have tq:=sub_enumerate
  have hT:ij.IsTuple (ar.heap ⟨hp,g,d,tk,os⟩) a items:=⟨_,hl,rfl,n,rfl⟩
  wp_walk using XW hl
  refine wpAny_stack_any fun st=>ca ?_
  split
  case h_1 c _ _ _ _ _=>cases (c==GM "enumerate") <;> (wp_walk using XW hl,OP hT;exact ⟨_,rfl,h⟩)
  case h_2=>wp_walk using XW hl,OP hT;exact ⟨_,rfl,h⟩
section
variable {prog:gc} {w:i0} {A:l8} {E:ap->ar->Prop} {s:ar}
theorem A7 {a:ag} {items:Array ap} {Q:ap->ar->Prop} (hT:s.heap.IsTuple a items)
  (h:∀h',WE h' (s.heap.objs.size+1) s.heap.objs.size 0 .none->h'.IsTupleIter s.heap.objs.size a 0->(∀b o,s.heap.get? b=some o->h'.get? b=some o)->Q (.ref (s.heap.objs.size+1)) {s with heap:=h'}) :
  wpAny (model prog w) A (call (.type "enumerate") [.ref a]) Q E s :=by
 obtain ⟨ob,ho,hc,n,hd⟩:=hT
 obtain ⟨c,dd,dt,sl⟩:=ob
 dsimp only at hc hd
 subst hc hd
 refine callType_new F.called_enumerate (by decide) (F.typeCall_enumerate_1 _) (F.newCall_enumerate_1 _) (fun obj=>F.args_object_init_2 obj _) F.entry_enumerate_new (Js a items n dd sl) ⟨ho,?_⟩
 have z:(s.heap.push (Dn a)).objs.size=s.heap.objs.size+1:=ww ..
 have he:((s.heap.push (Dn a)).push (ML s.heap.objs.size)).get? (s.heap.objs.size+1)=some (ML s.heap.objs.size):=z▸en (s.heap.push (Dn a)) rfl
 show _/\_
 rw [z]
 exact ⟨⟨_,he,rfl⟩,h _ he ⟨_,bv _ (en _ rfl),rfl,rfl⟩ fun b o x=>bv _ (bv _ x)⟩
theorem Dp {k:Bool} {a:ag} {items:Array ap} {Q:ap->ar->Prop} (hT:cT k s.heap a items)
  (h:∀h',WE h' (s.heap.objs.size+1) s.heap.objs.size 0 .none->SqIt k h' s.heap.objs.size a 0->(∀b o,s.heap.get? b=some o->h'.get? b=some o)->Q (.ref (s.heap.objs.size+1)) {s with heap:=h'}) :
  wpAny (model prog w) A (call (.type "enumerate") [.ref a]) Q E s :=by
 cases k with
 |true=>exact call_enumerate_list hT fun h' a b _ c=>h h' a b c
 |false=>exact A7 hT h
end
section
variable {X:Cx} {l:dL} {tl:TE} {elts:List dL} {x1:Nat} {tp p pos:ut}
def PN (k:Bool) (K:ba) (tl:TE):TI:=fun σ H R=>tl σ H fun x H1=>∃a,x=.ref a/\(∃xs,Sq k K H1 a xs)/\R (HG k K a) H1
theorem Jt (k:Bool) {K:ba} (hK:X.K=K) (hg:Gl X "enumerate") (hm:X.mg "enumerate" = none) (hl:PE X l tl) (hs:starEach [l] X.env=[(false,eval l X.env)] :=by rfl) :
  PI X (.Tuple elts x1 tp) (.Call (.Name "enumerate" p) [l] [] pos) (PN k K tl) :=by
 subst hK
 intro pins s σ H R I h
 refine IF (gQ I hg hm xg ?_)
 refine AL ?_ hs rfl
 rw [hs]
 refine ID (thn (hl pins s σ H _ I h) fun v s1 ⟨x,H1,I1,r1,q1⟩=>Na ?_)
 obtain ⟨a,rfl,⟨xs,hq⟩,q⟩:=q1
 cases (show v=mT a from r1)
 obtain ⟨its,rv,sq⟩:=I1.sq hq
 refine Dp sq fun h' he hit kk=>?_
 refine wpAny_pyIter_enum he ?_
 have I2:Inv X pins σ H1 {s1 with heap:=h'}:=I1.kept (t':=s1.toks) kk
 have ne:s1.heap.objs.size+1≠s1.heap.objs.size:=Go (EQ _)
 refine ⟨_,[s1.heap.objs.size+1,s1.heap.objs.size],_,HG k X.K a,H1,rfl,I2,Dm k a _ _ ne,⟨⟨_,he⟩,hit⟩,fun b hb=>?_,q⟩
 simp only [io,wT,or_false] at hb
 rcases hb with rfl|rfl
 ·exact I1.mR (DO _) (I1.hok.fresh (DO _))
 ·exact I1.mR (ce _) (I1.hok.fresh (ce _))
end
def A8 (J:It) (ys:List (V×V)) (H:Hp):Prop:=∀i,(i<ys.length->J.go i H/\∀x H',J.yld i H x H'->∃t p,H t=none/\x=.ref t/\ys[i]?=some p/\H'=upd H t (.tup [p.1,p.2]))/\(ys.length<=i->J.stop i H)
theorem uK {k:Bool} {K:ba} {a:ag} {ys:List V} {H:Hp} (h:Sq k K H a ys):A8 (HG k K a) ((hX ys.length).map fun i=>(V.int (i:Nat),ys.getD i .au)) H:=fun i=>by
 have el:((hX ys.length).map fun i=>(V.int (i:Nat),ys.getD i .au)).length=ys.length :=by simp
 rw [el]
 refine ⟨fun hi=>⟨⟨ys,ys[i],h,ac hi⟩,fun x H' ⟨t,y,n,e1,e2,e3⟩=>⟨t,(.int (i:Nat),y),n,e1,?_,e2⟩⟩,fun hi=>⟨ys,h,hi⟩⟩
 rw [c8,AC hi]
 have:=e3 ys h
 show some (V.int (i:Nat),ys.getD i .au)=_
 rw [bi,this]
 rfl
section
variable {prog:gc} {w:i0} {A:l8} {E:ap->ar->Prop} {s:ar} {z TI TO i1 i2 l1 l2:ag} {n1 n2:Nat} {xs ys:Array ap} {x y a b:ap} {k1 k2:Bool}
theorem F1 {Q:ap->ar->Prop} (D:X9 z TI TO i1 i2 l1 l2) (hz:T0 s.heap z TI TO .none) (iS:EU s.heap TI (.ref i1) (.ref i2)) (jh:EU s.heap TO a b)
  (h1:SqIt k1 s.heap i1 l1 n1) (h2:SqIt k2 s.heap i2 l2 n2) (q1:cT k1 s.heap l1 xs) (q2:cT k2 s.heap l2 ys) (hx:xs[n1]?=some x) (hy:ys[n2]?=some y)
  (hQ:∀h',T0 h' z TI TO (rawInt s.heap.objs.size)->EU h' TO x y->SqIt k1 h' i1 l1 (n1+1)->SqIt k2 h' i2 l2 (n2+1)->EU h' s.heap.objs.size x y->
   (∀c o,c≠z->c≠TO->c≠i1->c≠i2->s.heap.get? c=some o->h'.get? c=some o)->Q (.ref s.heap.objs.size) {s with heap:=h'}) :
  wpAny (model prog w) A (uu.«zip.__next__» ⟨[.ref z],[]⟩) (fun fin s'=>∃v,fin=.done (.ret v)/\Q v s') E s :=by
 refine al (m:=field (.ref z) 2) (zw hz rfl (x:=.bool false) rfl (al (m:=field (.ref z) 3) (zw hz rfl (x:=.ref TI) rfl (al (m:=seqItems? (.ref TI)) (ET iS rfl ?_)))))
 refine al (m:=ownedTupleIsFree (.ref z)) ?_
 unfold ownedTupleIsFree
 refine al (m:=field (.ref z) 0) (zw hz rfl (x:=.none) rfl (ca ?_))
 rw [if_pos rfl]
 refine al (EN (al (m:=field (.ref z) 4) (zw hz rfl (x:=.ref TO) rfl (al (m:=setField (.ref z) 0 .ellipsis) (BB hz (by simp) fun g1 (z1:T0 g1 z TI TO .ellipsis) gS=>?_)))))
 refine al ?_
 simp only [List.zipIdx_cons,List.zipIdx_nil,WU,List.forIn_nil]
 refine al (al (Xp ?_))
 refine al (m:=nextOf (.ref i1)) (pD (h1.at fun o e=>gS.extBut _ o D.i1z e) (q1.at fun o e=>gS.extBut _ o D.l1z e) hx fun g2 HH fy=>ca ?_)
 have o2:EU g2 TO a b:=fy.extBut _ _ D.TOi1 (gS.extBut _ _ D.TOz jh)
 refine al (ET o2 rfl (al (WX o2 fun g3 (o3:EU g3 TO x b) lH=>al (Xb (ca ?_)))))
 refine al (al (Xp ?_))
 refine al (m:=nextOf (.ref i2)) (pD (h2.at fun o e=>lH.extBut _ o D.TOi2.symm (fy.extBut _ o D.i12.symm (gS.extBut _ o D.i2z e))) (q2.at fun o e=>lH.extBut _ o D.l2TO (fy.extBut _ o D.l2i1 (gS.extBut _ o D.l2z e))) hy fun g4 Uw Dq=>ca ?_)
 have o4:EU g4 TO x b:=Dq.extBut _ _ D.TOi2 o3
 refine al (ET o4 rfl (al (WX o4 fun g5 (o5:EU g5 TO x y) xf=>al (Xb (ca (ca ?_))))))
 refine al (ET o5 rfl (al (Xa ?_)))
 have sz:g5.objs.size=s.heap.objs.size :=by rw [xf.1,Dq.1,lH.1,fy.1,gS.1]
 have z5:T0 g5 z TI TO .ellipsis:=xf.extBut _ _ D.TOz.symm (Dq.extBut _ _ D.i2z.symm (lH.extBut _ _ D.TOz.symm (fy.extBut _ _ D.i1z.symm z1)))
 have k5:∀c o,c≠z->c≠TO->c≠i1->c≠i2->s.heap.get? c=some o->g5.get? c=some o:=fun c o c1 c2 c3 c4 e=>xf.extBut _ _ c2 (Dq.extBut _ _ c4 (lH.extBut _ _ c2 (fy.extBut _ _ c3 (gS.extBut _ _ c1 e))))
 have zl:z<g5.objs.size:=ii z5
 refine al (m:=ownedTupleHandOut (.ref z) _) ?_
 unfold ownedTupleHandOut
 have z6:T0 (g5.push {cls:=.type "tuple",data:=.seq #[x,y]}) z TI TO .ellipsis:=bv _ z5
 refine al (BB z6 (by simp) fun g7 (z7:T0 g7 z TI TO (rawInt g5.objs.size)) HF=>?_)
 refine BB z7 (by simp) fun g8 (z8:T0 g8 z TI TO (rawInt g5.objs.size)) Rg=>?_
 have up:∀c o,c≠z->g5.get? c=some o->g8.get? c=some o:=fun c o c1 e=>Rg.extBut _ _ c1 (HF.extBut _ _ c1 (bv _ e))
 have t8:EU g8 g5.objs.size x y:=Rg.extBut _ _ (Go zl) (HF.extBut _ _ (Go zl) (en _ rfl))
 rw [sz] at z8 t8
 refine ca ⟨_,rfl,?_⟩
 show Q (.ref g5.objs.size) _
 rw [sz]
 exact hQ g8 z8 (up _ _ D.TOz o5) (HH.at fun o e=>up _ o D.i1z (xf.extBut _ o D.TOi1.symm (Dq.extBut _ o D.i12 (lH.extBut _ o D.TOi1.symm e)))) (Uw.at fun o e=>up _ o D.i2z (xf.extBut _ o D.TOi2.symm e)) t8
  fun c o c1 c2 c3 c4 e=>up c o c1 (k5 c o c1 c2 c3 c4 e)
theorem Ju {Q:Fin->ar->Prop} (hh:A.handled=none) (D:X9 z TI TO i1 i2 l1 l2) (hz:T0 s.heap z TI TO .none) (iS:EU s.heap TI (.ref i1) (.ref i2)) (jh:EU s.heap TO a b)
  (h1:SqIt k1 s.heap i1 l1 n1) (h2:SqIt k2 s.heap i2 l2 n2) (q1:cT k1 s.heap l1 xs) (q2:cT k2 s.heap l2 ys) (om:xs[n1]?=none\/ys[n2]?=none)
  (hE:∀h' e,(∀c o,c≠z->c≠TO->c≠i1->c≠i2->s.heap.get? c=some o->h'.get? c=some o)->(∃o,h'.get? e=some o/\o.cls=.type "StopIteration")->E (.ref e) {s with heap:=h'}) :
  wpAny (model prog w) A (uu.«zip.__next__» ⟨[.ref z],[]⟩) Q E s :=by
 refine al (m:=field (.ref z) 2) (zw hz rfl (x:=.bool false) rfl (al (m:=field (.ref z) 3) (zw hz rfl (x:=.ref TI) rfl (al (m:=seqItems? (.ref TI)) (ET iS rfl ?_)))))
 refine al (m:=ownedTupleIsFree (.ref z)) ?_
 unfold ownedTupleIsFree
 refine al (m:=field (.ref z) 0) (zw hz rfl (x:=.none) rfl (ca ?_))
 rw [if_pos rfl]
 refine al (EN (al (m:=field (.ref z) 4) (zw hz rfl (x:=.ref TO) rfl (al (m:=setField (.ref z) 0 .ellipsis) (BB hz (by simp) fun g1 (z1:T0 g1 z TI TO .ellipsis) gS=>?_)))))
 refine al ?_
 simp only [List.zipIdx_cons,List.zipIdx_nil,WU,List.forIn_nil]
 refine al (al (Xp ?_))
 have stop:∀(g:ij) (e:ag),T0 g z TI TO .ellipsis->(∃o,g.get? e=some o/\o.cls=.type "StopIteration")->(∀c o,c≠z->c≠TO->c≠i1->c≠i2->s.heap.get? c=some o->g.get? c=some o)->
   wpAny (model prog w) A (setField (.ref z) 0 .none) (fun _ s'=>E (.ref e) s') E {s with heap:=g}:=fun g e zg ⟨o,ho,hc⟩ kk=>by
  have ne:e≠z:=fun q=>by subst q;rw [zg] at ho;cases ho;simp at hc
  exact BB zg (by simp) fun g' _ Rh=>hE g' e (fun c o c1 c2 c3 c4 q=>Rh.extBut _ _ c1 (kk c o c1 c2 c3 c4 q)) ⟨o,Rh.extBut _ _ ne ho,hc⟩
 cases hx:xs[n1]? with
 |none=>
  refine al (m:=nextOf (.ref i1)) (tD hh (h1.at fun o e=>gS.extBut _ o D.i1z e) (q1.at fun o e=>gS.extBut _ o D.l1z e) hx fun g2 e eb he=>?_)
  exact stop g2 e (eb _ _ D.i1z.symm z1) he fun c o c1 c2 c3 c4 q=>eb _ _ c3 (gS.extBut _ _ c1 q)
 |some x=>
  have hy:ys[n2]?=none:=om.elim (fun q=>by rw [hx] at q;cases q) id
  refine al (m:=nextOf (.ref i1)) (pD (h1.at fun o e=>gS.extBut _ o D.i1z e) (q1.at fun o e=>gS.extBut _ o D.l1z e) hx fun g2 HH fy=>ca ?_)
  have o2:EU g2 TO a b:=fy.extBut _ _ D.TOi1 (gS.extBut _ _ D.TOz jh)
  refine al (ET o2 rfl (al (WX o2 fun g3 (o3:EU g3 TO x b) lH=>al (Xb (ca ?_)))))
  refine al (al (Xp ?_))
  refine al (m:=nextOf (.ref i2)) (tD hh (h2.at fun o e=>lH.extBut _ o D.TOi2.symm (fy.extBut _ o D.i12.symm (gS.extBut _ o D.i2z e))) (q2.at fun o e=>lH.extBut _ o D.l2TO (fy.extBut _ o D.l2i1 (gS.extBut _ o D.l2z e))) hy fun g4 e eb he=>?_)
  exact stop g4 e (eb _ _ D.i2z.symm (lH.extBut _ _ D.TOz.symm (fy.extBut _ _ D.i1z.symm z1))) he fun c o c1 c2 c3 c4 q=>eb _ _ c4 (lH.extBut _ _ c2 (fy.extBut _ _ c3 (gS.extBut _ _ c1 q)))
theorem F2 {Q:Option ap->ar->Prop} (D:X9 z TI TO i1 i2 l1 l2) (hz:T0 s.heap z TI TO .none) (iS:EU s.heap TI (.ref i1) (.ref i2)) (jh:EU s.heap TO a b)
  (h1:SqIt k1 s.heap i1 l1 n1) (h2:SqIt k2 s.heap i2 l2 n2) (q1:cT k1 s.heap l1 xs) (q2:cT k2 s.heap l2 ys) (hx:xs[n1]?=some x) (hy:ys[n2]?=some y)
  (hQ:∀h',T0 h' z TI TO (rawInt s.heap.objs.size)->EU h' TO x y->SqIt k1 h' i1 l1 (n1+1)->SqIt k2 h' i2 l2 (n2+1)->EU h' s.heap.objs.size x y->
   (∀c o,c≠z->c≠TO->c≠i1->c≠i2->s.heap.get? c=some o->h'.get? c=some o)->Q (some (.ref s.heap.objs.size)) {s with heap:=h'}):wpAny (model prog w) A (pyNext (.ref z)) Q E s :=by
 have hT:s.TypeIs (.ref z) "zip" := ⟨_,hz,rfl⟩
 have sl:=F.slot_zip_next
 unfold pyNext
 exact al (MW (wP (name:=xw "__next__") hT sl (xb sl hT F.entry_zip_next (F1 D hz iS jh h1 h2 q1 q2 hx hy fun h' b1 b2 b3 b4 b5 b6=>ca (hQ h' b1 b2 b3 b4 b5 b6)) (F.args_zip_next_1 _))))
theorem F3 {Q:Option ap->ar->Prop} (hh:A.handled=none) (D:X9 z TI TO i1 i2 l1 l2) (hz:T0 s.heap z TI TO .none) (iS:EU s.heap TI (.ref i1) (.ref i2)) (jh:EU s.heap TO a b)
  (h1:SqIt k1 s.heap i1 l1 n1) (h2:SqIt k2 s.heap i2 l2 n2) (q1:cT k1 s.heap l1 xs) (q2:cT k2 s.heap l2 ys) (om:xs[n1]?=none\/ys[n2]?=none)
  (hQ:∀h',(∀c o,c≠z->c≠TO->c≠i1->c≠i2->s.heap.get? c=some o->h'.get? c=some o)->Q none {s with heap:=h'}):wpAny (model prog w) A (pyNext (.ref z)) Q E s :=by
 have hT:s.TypeIs (.ref z) "zip" := ⟨_,hz,rfl⟩
 have sl:=F.slot_zip_next
 unfold pyNext
 refine al (MW (wP (name:=xw "__next__") hT sl (xb sl hT F.entry_zip_next (Ju hh D hz iS jh h1 h2 q1 q2 om fun h' e kk ⟨o,ho,hc⟩=>?_) (F.args_zip_next_1 _))))
 exact al (WJ (T := "StopIteration") (b:=true) ⟨o,ho,hc⟩ isSubtype_stop (ca (hQ _ kk)))
end
def HI (k1 k2:Bool) (K:ba) (a1 a2:ag):It:=
 ⟨fun i H=>∃xs ys x y,Sq k1 K H a1 xs/\Sq k2 K H a2 ys/\xs[i]?=some x/\ys[i]?=some y,fun i H v H'=>∃t x y,H t=none/\v=.ref t/\H'=upd H t (.tup [x,y])/\(∀xs,Sq k1 K H a1 xs->xs[i]?=some x)/\∀ys,Sq k2 K H a2 ys->ys[i]?=some y,
  fun i H=>∃xs ys,Sq k1 K H a1 xs/\Sq k2 K H a2 ys/\(xs.length<=i\/ys.length<=i)⟩
theorem F4 {P:gc} {w:i0} {K:ba} {elts:List dL} {x1:Nat} {pos:ut} (k1 k2:Bool) (z TI TO i1 i2 l1 l2:ag) (D:X9 z TI TO i1 i2 l1 l2) :
  Turn P w K (.Tuple elts x1 pos) (HI k1 k2 K l1 l2) [z,TI,TO,i1,i2] z (fun i h=>T0 h z TI TO .none/\EU h TI (.ref i1) (.ref i2)/\(∃a b,EU h TO a b)/\SqIt k1 h i1 l1 i/\SqIt k2 h i2 l2 i) where
 mem :=by simp
 obj:=fun i h st b hb=>by
  obtain ⟨hz,iS,⟨a,c,jh⟩,h1,h2⟩:=st
  simp only [io,wT,or_false] at hb
  rcases hb with rfl|rfl|rfl|rfl|rfl
  ·exact ⟨_,hz,fun v q=>nomatch q⟩
  ·exact ⟨_,iS,fun v q=>nomatch q⟩
  ·exact ⟨_,jh,fun v q=>nomatch q⟩
  ·obtain ⟨o,ho,vs,hd⟩:=h1.obj
   exact ⟨o,ho,fun v q=>by rw [hd] at q;cases q⟩
  ·obtain ⟨o,ho,vs,hd⟩:=h2.obj
   exact ⟨o,ho,fun v q=>by rw [hd] at q;cases q⟩
 keep:=fun i h h' st q=>by
  obtain ⟨hz,iS,⟨a,c,jh⟩,h1,h2⟩:=st
  exact ⟨q z (by simp) _ hz,q TI (by simp) _ iS,⟨a,c,q TO (by simp) _ jh⟩,h1.at fun o ho=>q i1 (by simp) o ho,h2.at fun o ho=>q i2 (by simp) o ho⟩
 item :=by
  intro X hP hw hK hc i pins s σ H E I hf st hg
  subst hP hw hK
  obtain ⟨hz,iS,⟨a,c,jh⟩,h1,h2⟩:=st
  obtain ⟨xs,ys,x,y,zG,zH,hx,hy⟩:=hg
  obtain ⟨MM,HJ,p1⟩:=I.sq zG
  obtain ⟨u1,wW,Ux⟩:=HJ.get hx
  obtain ⟨cA,gI,p2⟩:=I.sq zH
  obtain ⟨u2,Uy,Uz⟩:=gI.get hy
  refine F2 D hz iS jh h1 h2 p1 p2 (x:=u1) (y:=u2) (by simpa using wW) (by simpa using Uy) fun g1 zo UA Dj HH t1 kk=>?_
  refine ⟨_,rfl,wpAny_letOwnedTupleGo_zip zo fun g2 z2 (fy:v6 z g1 g2)=>?_⟩
  have zl:z<s.heap.objs.size:=ii hz
  have I2:Inv X pins σ H {s with heap:=g2}:=I.pE (t':=s.toks) (ch:=[z,TO,i1,i2]) (fun b o hb q=>by
   simp only [io,wT,or_false,not_or] at hb
   exact (fy.2 b hb.1).trans (kk b o hb.1 hb.2.1 hb.2.2.1 hb.2.2.2 q)) fun b hb=>hf b (by simp at hb ⊢;rcases hb with h|h|h|h <;> simp [h])
  have hn:H s.heap.objs.size=none:=I.hok.fresh (ce _)
  refine ⟨.ref s.heap.objs.size,_,Inv.pair (s:=s) (tk0:=s.toks) (tk:=s.toks) I (ce _) I2 ((fy.2 _ (Go zl)).trans t1) Ux Uz,rfl,⟨_,x,y,hn,rfl,rfl,fun zs hs=>by rw [I.xh hs zG];exact hx,fun zs hs=>by rw [I.xh hs zH];exact hy⟩,
   ⟨z2,(fy.2 _ D.TIz).trans (kk _ _ D.TIz D.TITO D.TIi1 D.TIi2 iS),⟨u1,u2,(fy.2 _ D.TOz).trans UA⟩,Dj.at fun o q=>(fy.2 _ D.i1z).trans q,HH.at fun o q=>(fy.2 _ D.i2z).trans q⟩,fun b hb=>?_⟩
  have l:b≠s.heap.objs.size :=by
   have ex:∃o,s.heap.get? b=some o :=by
    simp only [io,wT,or_false] at hb
    rcases hb with rfl|rfl|rfl|rfl|rfl
    ·exact ⟨_,hz⟩
    ·exact ⟨_,iS⟩
    ·exact ⟨_,jh⟩
    ·obtain ⟨o,ho,_⟩:=h1.obj
     exact ⟨o,ho⟩
    ·obtain ⟨o,ho,_⟩:=h2.obj
     exact ⟨o,ho⟩
   obtain ⟨o,ho⟩:=ex
   exact kw (ii ho)
  rw [aj l]
  exact (hf b hb).1
 done :=by
  intro X hP hw hK hc i pins s σ H E I hf st hg
  subst hP hw hK
  obtain ⟨hz,iS,⟨a,c,jh⟩,h1,h2⟩:=st
  obtain ⟨xs,ys,zG,zH,hx⟩:=hg
  obtain ⟨MM,HJ,p1⟩:=I.sq zG
  obtain ⟨cA,gI,p2⟩:=I.sq zH
  have lD:=HJ.length
  have iR:=gI.length
  exact F3 (I.ok.hd hc) D hz iS jh h1 h2 p1 p2 (by rcases hx with h|h;exact .inl (by simp;omega);exact .inr (by simp;omega)) fun g1 kk=>⟨rfl,I.pE (t':=s.toks) (ch:=[z,TO,i1,i2]) (fun b o hb q=>by
   simp only [io,wT,or_false,not_or] at hb
   exact kk b o hb.1 hb.2.1 hb.2.2.1 hb.2.2.2 q) fun b hb=>hf b (by simp at hb ⊢;rcases hb with h|h|h|h <;> simp [h])⟩
 self:=fun _ _ _ _ _ st h=>wpAny_pyIter_zip st.1 h
abbrev uL (k:Bool) (a:ag):l3:={cls:=.type (if k=true then "list_iterator" else "tuple_iterator"),data:=.fields #[.ref a,.int 0 0]}
theorem uM {prog:gc} {w:i0} {A:l8} {E:ap->ar->Prop} {s:ar} {k:Bool} {a:ag} {items:Array ap} {Q:ap->ar->Prop} (h:cT k s.heap a items) (hQ:Q (.ref s.heap.objs.size) {s with heap:=s.heap.push (uL k a)}) :
  wpAny (model prog w) A (pyIter (.ref a)) Q E s :=by
 cases k with
 |true=>exact RS h hQ
 |false=>exact OP h hQ
theorem Dr {k:Bool} {a it:ag} {h:ij} (e:h.get? it=some (uL k a)):SqIt k h it a 0 :=by
 cases k with
 |true=>exact ⟨_,e,rfl,rfl⟩
 |false=>exact ⟨_,e,rfl,rfl⟩
abbrev HK (k1 k2:Bool) (h:ij) (a1 a2:ag):ij:=(h.push (uL k1 a1)).push (uL k2 a2)
abbrev HL (k1 k2:Bool) (h:ij) (a1 a2:ag):ij:=(HK k1 k2 h a1 a2).push {cls:=.type "tuple",data:=.seq #[.ref h.objs.size,.ref (h.push (uL k1 a1)).objs.size]}
abbrev HM (k1 k2:Bool) (h:ij) (a1 a2:ag):ij:=(HL k1 k2 h a1 a2).push {cls:=.type "tuple",data:=.seq #[.none,.none]}
abbrev zI (k1 k2:Bool) (h:ij) (a1 a2:ag):ij:=(HM k1 k2 h a1 a2).push {cls:=.type "zip",data:=.fields #[.none,.bool false,.bool false,.ref (HK k1 k2 h a1 a2).objs.size,.ref (HL k1 k2 h a1 a2).objs.size]}
theorem MN (k1 k2:Bool) (a1 a2:ag) (xs ys:Array ap) :
  Meets (uu.«zip.__new__» ⟨[.type "zip",.ref a1,.ref a2],[]⟩) (fun _ R s=>cT k1 s.heap a1 xs/\cT k2 s.heap a2 ys/\R (.ok (.ret (.ref (HM k1 k2 s.heap a1 a2).objs.size))) {s with heap:=zI k1 k2 s.heap a1 a2}):=
 .of_wp fun prog w A R s h=>by
  obtain ⟨hp,g,d,tk,os⟩:=s
  obtain ⟨q1,q2,h⟩:=h
  have tq:=sub_zip
  have Q1:cT k1 (ar.heap ⟨hp,g,d,tk,os⟩) a1 xs:=q1
  have Q2:cT k2 (ar.heap ⟨hp.push (uL k1 a1),g,d,tk,os⟩) a2 ys:=cT.at (h:=hp) q2 fun o e=>bv _ e
  wp_walk using uM Q1,uM Q2
  exact ⟨_,rfl,h⟩
section
variable {prog:gc} {w:i0} {A:l8} {E:ap->ar->Prop} {s:ar} {k1 k2:Bool} {a1 a2:ag} {xs ys:Array ap}
theorem Jv {Q:ap->ar->Prop} (q1:cT k1 s.heap a1 xs) (q2:cT k2 s.heap a2 ys)
  (h:∀h',T0 h' (s.heap.objs.size+4) (s.heap.objs.size+2) (s.heap.objs.size+3) .none->EU h' (s.heap.objs.size+2) (.ref s.heap.objs.size) (.ref (s.heap.objs.size+1))->EU h' (s.heap.objs.size+3) .none .none->
   SqIt k1 h' s.heap.objs.size a1 0->SqIt k2 h' (s.heap.objs.size+1) a2 0->(∀c o,s.heap.get? c=some o->h'.get? c=some o)->Q (.ref (s.heap.objs.size+4)) {s with heap:=h'}) :
  wpAny (model prog w) A (call (.type "zip") [.ref a1,.ref a2]) Q E s :=by
 refine callType_new F.called_zip (by decide) (F.typeCall_zip_2 _ _) (F.newCall_zip_2 _ _) (fun obj=>F.args_object_init_3 obj _ _) F.entry_zip_new (MN k1 k2 a1 a2 xs ys) ⟨q1,q2,?_⟩
 have p:∀{g:ij} {o o':l3} {b:ag},g.get? b=some o->(g.push o').get? b=some o:=fun e=>bv _ e
 have e1:(s.heap.push (uL k1 a1)).objs.size=s.heap.objs.size+1:=ww ..
 have e2:(HK k1 k2 s.heap a1 a2).objs.size=s.heap.objs.size+2 :=by rw [ww,e1]
 have e3:(HL k1 k2 s.heap a1 a2).objs.size=s.heap.objs.size+3 :=by rw [ww,e2]
 have e4:(HM k1 k2 s.heap a1 a2).objs.size=s.heap.objs.size+4 :=by rw [ww,e3]
 have g5:(zI k1 k2 s.heap a1 a2).get? (HM k1 k2 s.heap a1 a2).objs.size=some _:=en _ rfl
 have g4:(zI k1 k2 s.heap a1 a2).get? (HL k1 k2 s.heap a1 a2).objs.size=some _:=p (en _ rfl)
 have g3:(zI k1 k2 s.heap a1 a2).get? (HK k1 k2 s.heap a1 a2).objs.size=some _:=p (p (en _ rfl))
 have g2:(zI k1 k2 s.heap a1 a2).get? (s.heap.push (uL k1 a1)).objs.size=some _:=p (p (p (en _ rfl)))
 have g1:(zI k1 k2 s.heap a1 a2).get? s.heap.objs.size=some _:=p (p (p (p (en _ rfl))))
 show _/\_
 rw [e2,e3,e4] at g5
 rw [e1,e2] at g3
 rw [e3] at g4
 rw [e1] at g2
 rw [e4]
 exact ⟨⟨_,g5,rfl⟩,h _ g5 g3 g4 (Dr g1) (Dr g2) fun c o q=>p (p (p (p (p q))))⟩
end
section
variable {X:Cx} {l1 l2:dL} {t1 t2:TE} {elts:List dL} {x1:Nat} {tp p pos:ut}
def Tc (k1 k2:Bool) (K:ba) (t1 t2:TE):TI:=fun σ H R=>t1 σ H fun x H1=>t2 σ H1 fun y H2=>∃a1 a2,x=.ref a1/\y=.ref a2/\(∃xs,Sq k1 K H2 a1 xs)/\(∃ys,Sq k2 K H2 a2 ys)/\R (HI k1 k2 K a1 a2) H2
theorem MO (k1 k2:Bool) {K:ba} (hK:X.K=K) (hg:Gl X "zip") (hm:X.mg "zip" = none) (h1:PE X l1 t1) (h2:PE X l2 t2) (hs:starEach [l1,l2] X.env=(false,eval l1 X.env)::starEach [l2] X.env :=by rfl) (ky:starEach [l2] X.env=[(false,eval l2 X.env)] :=by rfl) :
  PI X (.Tuple elts x1 tp) (.Call (.Name "zip" p) [l1,l2] [] pos) (Tc k1 k2 K t1 t2) :=by
 subst hK
 intro pins s σ H R I h
 refine IF (gQ I hg hm MK ?_)
 refine AL ?_ hs (by rw [ky];rfl)
 rw [hs,ky]
 refine ID (thn (h1 pins s σ H _ I h) fun v s1 ⟨x,H1,I1,r1,q1⟩=>ID (thn (h2 pins s1 σ H1 _ I1 q1) fun u s2 ⟨y,H2,I2,r2,q2⟩=>Na ?_))
 obtain ⟨a1,a2,rfl,rfl,⟨xs,zG⟩,⟨ys,zH⟩,q⟩:=q2
 cases (show v=mT a1 from r1)
 cases (show u=mT a2 from r2)
 obtain ⟨MM,HJ,Ri⟩:=I2.sq zG
 obtain ⟨cA,gI,Rj⟩:=I2.sq zH
 refine Jv Ri Rj fun h' hz iS jh i1 i2 kk=>?_
 refine wpAny_pyIter_zip hz ?_
 have I3:Inv X pins σ H2 {s2 with heap:=h'}:=I2.kept (t':=s2.toks) kk
 have UB:a1<s2.heap.objs.size:=let ⟨o,n,ho,_⟩:=Ri.obj;ii ho
 have UC:a2<s2.heap.objs.size:=let ⟨o,n,ho,_⟩:=Rj.obj;ii ho
 refine ⟨_,[s2.heap.objs.size+4,s2.heap.objs.size+2,s2.heap.objs.size+3,s2.heap.objs.size,s2.heap.objs.size+1],_,HI k1 k2 X.K a1 a2,H2,rfl,I3,F4 k1 k2 _ _ _ _ _ a1 a2 (zipApart_new UB UC),⟨hz,iS,⟨_,_,jh⟩,i1,i2⟩,fun b hb=>?_,q⟩
 have ge:s2.heap.objs.size<=b :=by
  simp only [io,wT,or_false] at hb
  rcases hb with rfl|rfl|rfl|rfl|rfl
  ·exact Tk _ _
  ·exact Tk _ _
  ·exact Tk _ _
  ·exact ce _
  ·exact Tk _ _
 exact I2.mR ge (I2.hok.fresh ge)
end
theorem F5 {k1 k2:Bool} {K:ba} {a1 a2:ag} {xs ys:List V} {H:Hp} (h1:Sq k1 K H a1 xs) (h2:Sq k2 K H a2 ys):A8 (HI k1 k2 K a1 a2) (xs.zip ys) H:=fun i=>by
 refine ⟨fun hi=>?_,fun hi=>?_⟩
 ·have cp:=hi
  rw [Pd] at cp
  have i1:i<xs.length :=by omega
  have i2:i<ys.length :=by omega
  refine ⟨⟨xs,ys,xs[i],ys[i],h1,h2,ac i1,ac i2⟩,fun v H' ⟨t,x,y,n,e1,e2,e3,e4⟩=>⟨t,(x,y),n,e1,?_,e2⟩⟩
  rw [zn]
  exact ⟨e3 xs h1,e4 ys h2⟩
 ·rw [Pd] at hi
  exact ⟨xs,ys,h1,h2,by omega⟩
end L2
namespace L2
open PySem PySem.Spec PyProof.Rows
section
variable {X:Cx} {st:tz} {ι:Type} {Pre:ι->St->Hp->Prop} {D:ι->Ends}
theorem vq {P:gc} {w:i0} {K:ba} (hP:X.prog=P) (hw:X.w=w) (h:X.K=K) (hc:X.calm=true):cq X (.builtin "sorted") (zF P w K) :=by
 subst hP hw h
 exact w6 hc
theorem PS.ud {st:tz} {t:TS} (h:PS X.ud st t):PS X st t:=⟨fun pins s σ H D I hw=>
 lm (h pins s σ H D (I.kr _) hw) (fun _ _ q=>q.iP) fun _ _ z=>LB z⟩
end
section
variable {κ:Type} [DecidableEq κ]
def fT (av:List (κ×V)) (k:κ):Option V:=(av.find? fun kv=>decide (kv.1=k)).map (·.2)
def putK (av:List (κ×V)) (k:κ) (v:V):List (κ×V):=
 if (av.any fun kv=>decide (kv.1=k))=true then av.map (fun kv=>if kv.1=k then (kv.1,v) else kv) else av++[(k,v)]
theorem mY {p:κ×V} {r:List (κ×V)} {k:κ} (e:p.1=k):fT (p::r) k=some p.2 :=by simp [fT,Pe,e]
theorem mZ {p:κ×V} {r:List (κ×V)} {k:κ} (e:¬ p.1=k):fT (p::r) k=fT r k :=by simp [fT,Pe,e]
theorem qB (k:κ):∀av:List (κ×V),(av.any fun kv=>decide (kv.1=k))=(fT av k).isSome
 | []=>rfl
 |p::r=>by
          rw [Xq]
          by_cases e:p.1=k
          ·simp only [mY e,decide_eq_true e,Bool.true_or,Option.isSome_some]
          ·rw [mZ e,decide_eq_false e,Bool.false_or];exact qB k r
theorem gT (av:List (κ×V)) (k:κ) (v:V):(putK av k v).length<=av.length+1 :=by
 unfold putK
 split
 ·rw [cb];omega
 ·rw [mf,Db,TW];omega
theorem jl.oA {o:Option V} {u:Option ap} (r:jl o u):o.isSome=u.isSome :=by
 cases o with
 |none=>cases u with
  |none=>rfl
  |some _=>exact (show False from r).elim
 |some _=>cases u with
  |none=>exact (show False from r).elim
  |some _=>rfl
theorem jl.getD {o:Option V} {u:Option ap} {d:V} {d':ap} (r:jl o u) (rd:RelV d d'):RelV (o.getD d) (u.getD d') :=by
 cases o with
 |none=>cases u with
  |none=>exact rd
  |some _=>exact (show False from r).elim
 |some _=>cases u with
  |none=>exact (show False from r).elim
  |some _=>exact r
theorem KV.val {av:List (κ×V)} {vs:List (κ×ap)} (r:KV av vs) (k:κ):jl (fT av k) (valueAt vs k) :=by
 unfold KV at r
 induction r with
 |nil=>exact GT
 | @cons p q ps qs h t ih=>
  obtain ⟨h1,h2⟩:=h
  by_cases e:p.1=k
  ·have e':q.1=k:=h1.symm.trans e
   have b:valueAt (q::qs) k=some q.2 :=by simp [valueAt,Pe,e']
   rw [mY e,b];exact h2
  ·have e':¬ q.1=k:=fun z=>e (h1.trans z)
   have b:valueAt (q::qs) k=valueAt qs k :=by simp [valueAt,Pe,e']
   rw [mZ e,b];exact ih
theorem KV.any {av:List (κ×V)} {vs:List (κ×ap)} (r:KV av vs) (k:κ):(av.any fun kv=>decide (kv.1=k))=vs.any fun kv=>decide (kv.1=k) :=by
 unfold KV at r
 induction r with
 |nil=>rfl
 |cons h t ih=>rw [Xq,Xq,ih,h.1]
theorem KV.repl {av:List (κ×V)} {vs:List (κ×ap)} (r:KV av vs) (k:κ) {y:V} {u:ap} (ry:RelV y u) :
  KV (av.map fun kv=>if kv.1=k then (kv.1,y) else kv) (vs.map fun kv=>if kv.1=k then (kv.1,u) else kv) :=by
 unfold KV at r ⊢
 induction r with
 |nil=>exact .nil
 | @cons p q ps qs h t ih=>
  rw [nw,nw]
  refine .cons ?_ ih
  obtain ⟨h1,h2⟩:=h
  by_cases e:p.1=k
  ·rw [if_pos e,if_pos (h1.symm.trans e)];exact ⟨h1,ry⟩
  ·rw [if_neg e,if_neg (fun z=>e (h1.trans z))];exact ⟨h1,h2⟩
theorem KV.put {av:List (κ×V)} {vs:List (κ×ap)} (r:KV av vs) (k:κ) {y:V} {u:ap} (ry:RelV y u):KV (putK av k y) (stored vs k u) :=by
 unfold putK stored
 rw [r.any k]
 by_cases e:(vs.any fun kv=>decide (kv.1=k))=true
 ·rw [if_pos e,if_pos e];exact r.repl k ry
 ·rw [if_neg e,if_neg e];exact wp.snoc r ⟨rfl,ry⟩
theorem KV.length {av:List (κ×V)} {vs:List (κ×ap)} (r:KV av vs):av.length=vs.length:=GS r
end
theorem m4 {P:gc} {w:i0} {k:Key} {u:ap} (r:RelV (kV k) u):(bO P w).is k u=true :=by
 cases k with
 |inl i=>obtain ⟨t,e⟩:=(show ∃t,u=XN i t from r);subst e;exact yD P w i t
 |inr x=>obtain ⟨t,e⟩:=(show ∃t,u=XO x t from r);subst e;exact yE P w x t
theorem uN {P:gc} {w:i0}:∀{ks:List Key} {us:List ap},Vals (ks.map kV) us->ItemsAre (bO P w) ks us
 | [],_,r=>by rw [UV] at r;cases r;exact .nil
 |k::ks,_,r=>by
          rw [nw] at r
          cases r with
          |cons h t=>exact .cons (m4 h) (uN t)
abbrev KT (H:Hp):List (List Key×V)->List (List Key×ag×ap)->Prop:=wp fun p q=>p.1=q.1/\H q.2.1=some (.tup (p.1.map kV))/\RelV p.2 q.2.2
theorem KT.val {H:Hp} {av:List (List Key×V)} {xs:List (List Key×ag×ap)} (r:KT H av xs) (k:List Key):jl (fT av k) ((atKey xs k).map (·.2)) :=by
 induction r with
 |nil=>exact GT
 | @cons p q ps qs h t ih=>
  obtain ⟨h1,_,h2⟩:=h
  by_cases e:p.1=k
  ·have e':q.1=k:=h1.symm.trans e
   have b:atKey (q::qs) k=some q.2 :=by simp [atKey,Pe,e']
   rw [mY e,b];exact h2
  ·have e':¬ q.1=k:=fun z=>e (h1.trans z)
   have b:atKey (q::qs) k=atKey qs k :=by simp [atKey,Pe,e']
   rw [mZ e,b];exact ih
theorem KT.repl {H:Hp} {av:List (List Key×V)} {xs:List (List Key×ag×ap)} (r:KT H av xs) (k:List Key) {y:V} {u:ap} (ry:RelV y u) :
  KT H (av.map fun kv=>if kv.1=k then (kv.1,y) else kv) (xs.map (putAt k u)) :=by
 induction r with
 |nil=>exact .nil
 | @cons p q ps qs h t ih=>
  rw [nw,nw]
  refine .cons ?_ ih
  obtain ⟨h1,h2,h3⟩:=h
  unfold putAt
  by_cases e:p.1=k
  ·rw [if_pos e,if_pos (h1.symm.trans e)];exact ⟨h1,h2,ry⟩
  ·rw [if_neg e,if_neg (fun z=>e (h1.trans z))];exact ⟨h1,h2,h3⟩
theorem KT.put {H:Hp} {av:List (List Key×V)} {xs:List (List Key×ag×ap)} (r:KT H av xs) (k:List Key) {b:ag} {y:V} {u:ap} (hb:H b=some (.tup (k.map kV))) (ry:RelV y u) :
  KT H (putK av k y) (storedH xs k b u) :=by
 have e:(av.any fun kv=>decide (kv.1=k))=(atKey xs k).isSome :=by
  rw [qB,(r.val k).oA,Option.isSome_map]
 unfold putK storedH
 rw [e]
 by_cases q:(atKey xs k).isSome=true
 ·rw [if_pos q,if_pos q];exact r.repl k ry
 ·rw [if_neg q,if_neg q];exact wp.snoc r ⟨rfl,hb,ry⟩
theorem KT.keeps {H H':Hp} {av:List (List Key×V)} {xs:List (List Key×ag×ap)} (r:KT H av xs) (ht:∀b ys,H b=some (.tup ys)->H' b=some (.tup ys)):KT H' av xs:=
 wp.Ao r fun _ _ z=>⟨z.1,ht _ _ z.2.1,z.2.2⟩
section
variable {P:gc} {w:i0} {H:Hp} {h:ij} {a:ag}
theorem HN {u:HO} (ok:dz P w H h) (e:Rd H a u):ObjOk P w H h a u:=e.ok ok
theorem m5 {av:List (Key×V)} (ok:dz P w H h) (e:Rd H a (.dK av)):av.length<=sizeLine/\(a==sysModules)=false/\∃vs,KV av vs/\h.DictOf (bO P w) a vs:=
 show ObjOk P w H h a (.dK av) from HN ok e
theorem HP {av:List (Key×V)} (ok:dz P w H h) (e:H a=some (.dK av)):av.length<=sizeLine/\(a==sysModules)=false/\∃vs,KV av vs/\h.DictOf (bO P w) a vs:=m5 ok (.inl e)
theorem iT {ks:List Key} (ok:dz P w H h) (e:H a=some (.tup (ks.map kV))):(tupleKind (bO P w)).is h ks a :=by
 obtain ⟨_,its,r,o,h1,h2,n,h3,_⟩:=(show ObjOk P w H h a (.tup (ks.map kV)) from ok a _ e)
 exact ⟨o,its.toArray,n,h1,h2,h3,by simpa using uN r⟩
theorem m6 {av:List (List Key×V)} (ok:dz P w H h) (e:Rd H a (.dT av)):av.length<=sizeLine/\(a==sysModules)=false /\
  ∃xs,KT H av xs/\h.DictOfH (tupleKind (bO P w)) a xs :=by
 obtain ⟨z,y,xs,r,o,es,ep,h1,h2,h3,h4,h5⟩:=(show ObjOk P w H h a (.dT av) from HN ok e)
 refine ⟨z,y,xs,r,o,es,ep,h1,h2,h3,h4,fun x hx=>?_,h5⟩
 have all:∀{l:List (List Key×V)} {m:List (List Key×ag×ap)},KT H l m->∀x∈m,(tupleKind (bO P w)).is h x.1 x.2.1 :=by
  intro l m q
  induction q with
  |nil=>intro x hx;exact nomatch hx
  | @cons p q ps qs hq t ih=>
   intro x hx
   rcases io.mp hx with e|hx
   ·subst e
    exact iT ok (by rw [<- hq.1];exact hq.2.1)
   ·exact ih x hx
 exact all r x hx
theorem vL {av:List (List Key×V)} (ok:dz P w H h) (e:H a=some (.dT av)):av.length<=sizeLine/\(a==sysModules)=false /\
  ∃xs,KT H av xs/\h.DictOfH (tupleKind (bO P w)) a xs:=m6 ok (.inl e)
end
def mh (H:Hp) (a:ag) (y:V) (r:Option V):Prop:=
 (∃av k,Rd H a (.dK av)/\y=kV k/\r=fT av k)\/∃av k b,Rd H a (.dT av)/\y=.ref b/\H b=some (.tup (k.map kV))/\r=fT av k
def A9 (H:Hp) (a:ag) (y v:V) (H':Hp):Prop:=
 (∃av k,H a=some (.dK av)/\y=kV k/\av.length<sizeLine/\H'=upd H a (.dK (putK av k v))) \/
 ∃av k b,H a=some (.dT av)/\y=.ref b/\H b=some (.tup (k.map kV))/\av.length<sizeLine/\H'=upd H a (.dT (putK av k v))
section
variable {X:Cx} {pins:List (ag×l3)} {σ:St} {H:Hp} {s:ar} {a:ag} {y v:V} {u r:ap} {o:Option V} {A:l8} {E:ap->ar->Prop}
theorem Inv.big (I:Inv X pins σ H s):sysModules<s.heap.objs.size :=by
 have h:mainGlobals<s.heap.objs.size:=(I.mod.glob.keeps I.bk).lt
 exact Wn (by decide) h
theorem Ds {Q:ap->ar->Prop} (hu:A.units+1<cLine) (I:Inv X pins σ H s) (g:mh H a y (some v)) (ry:RelV y u) (h:∀w' s',Inv X pins σ H s'->RelV v w'->Q w' s') :
  wpAny (model X.prog X.w) A (getItem (.ref a) u) Q E s :=by
 rcases g with ⟨av,k,e,ey,l⟩|⟨av,k,b,e,ey,eb,l⟩
 ·subst ey
  obtain ⟨z,hd,vs,rel,dd⟩:=m5 I.hok e
  obtain ⟨w',hw,f9⟩:=jl.some_of (v:=v) (o:=valueAt vs k) (by rw [l];exact rel.val k)
  exact wpAny_getItem_of (m4 ry) dd.mapOf hw (h w' _ (I.tok _) f9)
 ·subst ey
  cases (show u=mT b from ry)
  obtain ⟨z,hd,xs,rel,dd⟩:=m6 I.hok e
  obtain ⟨w',hw,f9⟩:=jl.some_of (v:=v) (o:=(atKey xs k).map (·.2)) (by rw [l];exact rel.val k)
  obtain ⟨p,hp,UD⟩:=kt.mp hw
  refine wpAny_getItem_heap (LP hu) (iT I.hok eb) dd hp ?_
  rw [UD]
  exact h w' _ (I.tok _) f9
theorem Jw {Q:ap->ar->Prop} (hu:A.units+1<cLine) (I:Inv X pins σ H s) (g:mh H a y o) (ry:RelV y u) (h:∀s',Inv X pins σ H s'->Q (.bool (!o.isSome)) s') :
  wpAny (model X.prog X.w) A (compareOp .NotIn u (.ref a)) Q E s :=by
 rcases g with ⟨av,k,e,ey,l⟩|⟨av,k,b,e,ey,eb,l⟩
 ·subst ey
  obtain ⟨z,hd,vs,rel,dd⟩:=m5 I.hok e
  refine wpAny_notIn_of (m4 ry) hd dd.mapOf ?_
  rw [<- (rel.val k).oA,<- l]
  exact h _ (I.tok _)
 ·subst ey
  cases (show u=mT b from ry)
  obtain ⟨z,hd,xs,rel,dd⟩:=m6 I.hok e
  refine wpAny_notIn_heap (LP hu) (iT I.hok eb) hd dd ?_
  have q:=(rel.val k).oA
  rw [Option.isSome_map] at q
  rw [<- q,<- l]
  exact h _ (I.tok _)
theorem kh {h':ij} {t':Nat} {ob:HO} (I:Inv X pins σ H s) (mu:B2 (H a)) (hs:v6 a s.heap h') (he:∃q,h'.get? a=some q) (new:ObjOk X.prog X.w (upd H a ob) h' a ob) :
  Inv X pins σ (upd H a ob) {s with heap:=h',toks:=t'}:=
 I.write (x:=a) (e:=a) mu (.inl rfl) (fun b q hb z=>(hs.2 b hb).trans z) he new
theorem Du {P:gc} {w:i0} {H':Hp} {h':ij} {av:List (Key×V)} {vs:List (Key×ap)} (z:av.length<=sizeLine) (hd:(a==sysModules)=false) (rel:KV av vs) (dd:h'.DictOf (bO P w) a vs) :
  ObjOk P w H' h' a (.dK av):=⟨z,hd,vs,rel,dd⟩
theorem Dw {H':Hp} {Q:Unit->ar->Prop} (hu:A.units+1<cLine) (I:Inv X pins σ H s) (g:A9 H a y v H') (ry:RelV y u) (rv:RelV v r) (h:∀s',Inv X pins σ H' s'->Q () s') :
  wpAny (model X.prog X.w) A (setItem (.ref a) u r) Q E s :=by
 rcases g with ⟨av,k,e,ey,l,eH⟩|⟨av,k,b,e,ey,eb,l,eH⟩
 ·subst ey eH
  obtain ⟨z,hd,vs,rel,dd⟩:=HP I.hok e
  have hz:vs.length<=sizeLine :=by rw [<- rel.length];exact z
  have hl:(putK av k v).length<=sizeLine :=by have:=gT av k v;omega
  refine wpAny_setItem_pairs (hsz:=hz) (m4 ry) dd fun h' mF hs=>h _ ?_
  have he:∃q,h'.get? a=some q:=let ⟨q,_,_,hq,_⟩:=mF;⟨q,hq⟩
  exact kh I (by rw [e];exact GT) hs he (Du hl hd (rel.put k rv) mF)
 ·subst ey eH
  cases (show u=mT b from ry)
  obtain ⟨z,hd,xs,rel,dd⟩:=vL I.hok e
  have hz:xs.length<=sizeLine :=by rw [<- GS rel];exact z
  have hl:(putK av k v).length<=sizeLine :=by have:=gT av k v;omega
  refine wpAny_setItem_heap (hsz:=hz) (LP hu) (iT I.hok eb) dd fun h' mF hs=>h _ ?_
  obtain ⟨q,es,ep,hq,h2,h3,h4,_,h5⟩:=mF
  refine kh I (by rw [e];exact GT) hs ⟨q,hq⟩ ⟨hl,hd,_,(rel.put k eb rv).keeps fun c ys ec=>?_,q,es,ep,hq,h2,h3,h4,h5⟩
  rw [aj (qX ec e (fun z=>nomatch z))]
  exact ec
end
def F6 (i:dL):Prop:=∀ov iv,subscripted i false ov iv=operate [ov,iv] (getItem ov iv)
theorem Jx {prog:gc} {w:i0} {A:l8} {E:ap->ar->Prop} {s:ar} {env:IR} {value slice:dL} {pos:ut} {T id:String} {Q:ap->ar->Prop}
  (hl:typeLookup (.type T) "__getitem__" = pure (some (.builtin id))) (hs:F6 slice)
  (h:wpAny (model prog w) A (eval value env) (fun o aD=>wpAny (model prog w) A (eval slice env) (fun i jm=>jm.TypeIs o T/\wpAny (model prog w) A (getItem o i) Q E jm) E aD) E s) :
  wpAny (model prog w) A (eval (.Subscript value slice pos) env) Q E s :=by
 refine Subscript_ (lm h (fun o aD gL=>lm gL (fun i jm F7=>?_) fun _ _ x=>x) fun _ _ x=>x)
 obtain ⟨hT,F7⟩:=F7
 unfold subscriptTail
 refine al ?_
 rw [getitemInPython_of_ne hT.not_modules]
 refine al (wpAny_specialOf hT hl ?_)
 have fin:wpAny (model prog w) A (subscripted slice false o i) (fun r nZ=>wpAny (model prog w) A (letTemporaryGo value o r>>=fun _=>pure r) Q E nZ) E jm :=by
  rw [hs o i]
  exact wpAny_operating (lm F7 (fun r nZ Td=>al (wpAny_letTemporaryGo (ca Td))) fun _ _ x=>x)
 first
  |exact ca (al fin)
  |exact al (ca (al fin))
  |exact al fin
theorem yN {X:Cx} {pins:List (ag×l3)} {σ:St} {H:Hp} {s:ar} {a:ag} {y:V} {o:Option V} (I:Inv X pins σ H s) (g:mh H a y o):s.TypeIs (.ref a) "dict" := by
 rcases g with ⟨av,k,e,_,_⟩|⟨av,k,b,e,_,_,_⟩
 ·obtain ⟨_,_,vs,_,dd⟩:=m5 I.hok e
  exact dd.typeIs
 ·obtain ⟨_,_,xs,_,dd⟩:=m6 I.hok e
  exact dd.typeIs
def PQ (td ty:TE):TE:=fun σ H Q=>td σ H fun x H1=>ty σ H1 fun y H2=>∃a v,x=.ref a/\mh H2 a y (some v)/\Q v H2
def PR (td ty tv:TE):TS:=fun D σ H=>tv σ H fun v H1=>td σ H1 fun x H2=>ty σ H2 fun y H3=>∃a H4,x=.ref a/\A9 H3 a y v H4/\D.nx σ H4
section
variable {X:Cx} {o i e value:dL} {pos pos' VQ:ut} {td ty tv:TE}
theorem Jy (hu:X.A.units+1<cLine) (ho:PE X o td) (hi:PE X i ty) (hs:F6 i):PE X (.Subscript o i pos) (PQ td ty) :=by
 refine ⟨?_⟩
 intro pins s σ H Q I h
 refine Jx PySem.F.slot_dict_getitem.lookup hs (thn (ho pins s σ H _ I h) fun u s1 ⟨x,H1,I1,rx,q1⟩=>thn (hi pins s1 σ H1 _ I1 q1) fun iv s2 ⟨y,H2,I2,ry,a,v,ex,g,q2⟩=>?_)
 subst ex
 obtain rfl:u=mT a:=rx
 exact ⟨yN I2 g,Ds hu I2 g ry fun w' s3 I3 f9=>⟨v,H2,I3,f9,q2⟩⟩
theorem Jz (hu:X.A.units+1<cLine) (ho:PE X o td) (hi:PE X i ty) (hv:PE X value tv) (hs:swapsWith value (some (.Subscript o i pos')) pos.line X.env=pure false) :
  PS X (.Assign [.Subscript o i pos'] value pos) (PR td ty tv) :=by
 refine ⟨?_⟩
 intro pins s σ H D I h
 refine wpAny_Assign_Subscript (thn (hv pins s σ H _ I h) fun r s1 ⟨v,H1,I1,rv,q1⟩=>thn (ho pins s1 σ H1 _ I1 q1) fun u s2 ⟨x,H2,I2,rx,q2⟩=>thn (hi pins s2 σ H2 _ I2 q2) fun iv s3 ⟨y,H3,I3,ry,a,H4,ex,g,q3⟩=>?_) hs
 subst ex
 obtain rfl:u=mT a:=rx
 exact Dw hu I3 g ry rv fun s4 I4=>⟨σ,H4,I4,q3⟩
end
theorem F8 {P:gc} {w:i0} {H:Hp} (h:ij) (hb:sysModules<h.objs.size):ObjOk P w H (h.push {cls:=.type "dict",data:=.dict #[]}) h.objs.size (.dK []):=
 ⟨lw _,beq_eq_false_iff_ne.mpr (wE (kw hb)),[],.nil,ij.DictOf.new h⟩
theorem xi {P:gc} {w:i0} {H:Hp} (h:ij) (hb:sysModules<h.objs.size):ObjOk P w H (h.push {cls:=.type "dict",data:=.dict #[]}) h.objs.size (.dT []):=
 ⟨lw _,beq_eq_false_iff_ne.mpr (wE (kw hb)),[],.nil,_,#[],0,en _ rfl,⟨rfl,rfl,rfl⟩,rfl,rfl,List.nodup_nil⟩
def MP:TE:=fun _ H Q=>∀p,H p=none->Q (.ref p) (upd H p (.dK []))
def MQ:TE:=fun _ H Q=>∀p,H p=none->Q (.ref p) (upd H p (.dT []))
section
variable {X:Cx} {pos:ut}
theorem F9:PE X (.Dict [] [] pos) MP:=⟨fun pins s σ H Q I h=>
 wpAny_Dict_empty ⟨.ref s.heap.objs.size,_,I.laid (a:=s.heap.objs.size) (o:=.dK []) (t':=s.toks) (fun _ _ q=>bv _ q) (ce _) (F8 s.heap I.big),rfl,h _ (I.hok.fresh (ce _))⟩⟩
theorem Ga:PE X (.Dict [] [] pos) MQ:=⟨fun pins s σ H Q I h=>
 wpAny_Dict_empty ⟨.ref s.heap.objs.size,_,I.laid (a:=s.heap.objs.size) (o:=.dT []) (t':=s.toks) (fun _ _ q=>bv _ q) (ce _) (xi s.heap I.big),rfl,h _ (I.hok.fresh (ce _))⟩⟩
end
structure M1 (X:Cx) (o:dL) (m:br) (apos:ut) (e:dL) (aU:ut):Prop where
 base:attributeBase o m X.env (eval o X.env)=eval o X.env
 few:((backTo aU (starEach [e] X.env)).all (fun x => !x.1) && (backToKw aU (keywordEach [] X.env)).all (fun x=>x.1.isSome)
  && decide (([e]:List dL).length+([]:List No).length+(if ([]:List No).isEmpty then 0 else 1)<30))=true
 line:(apos.endLine==aU.line)=true
 trees:backTo aU (starEach [e] X.env)=[(false,eval e X.env)]
structure M2 (X:Cx) (o:dL) (m:br) (apos:ut) (e f:dL) (aU:ut):Prop where
 base:attributeBase o m X.env (eval o X.env)=eval o X.env
 few:((backTo aU (starEach [e,f] X.env)).all (fun x => !x.1) && (backToKw aU (keywordEach [] X.env)).all (fun x=>x.1.isSome)
  && decide (([e,f]:List dL).length+([]:List No).length+(if ([]:List No).isEmpty then 0 else 1)<30))=true
 line:(apos.endLine==aU.line)=true
 trees:backTo aU (starEach [e,f] X.env)=[(false,eval e X.env),(false,eval f X.env)]
section
variable {X:Cx} {pins:List (ag×l3)} {σ:St} {H:Hp} {s:ar} {a:ag} {y d:V} {u r:ap} {o:Option V} {A:l8} {E:ap->ar->Prop}
theorem MR {Q:ap->ar->Prop} (hu:A.units+1<cLine) (I:Inv X pins σ H s) (g:mh H a y o) (ry:RelV y u) (h:∀w' s',Inv X pins σ H s'->RelV (o.getD .au) w'->Q w' s') :
  wpAny (model X.prog X.w) A (call (.builtin "dict.get") [.ref a,u]) Q E s :=by
 rcases g with ⟨av,k,e,ey,l⟩|⟨av,k,b,e,ey,eb,l⟩
 ·subst ey
  obtain ⟨z,hd,vs,rel,dd⟩:=m5 I.hok e
  refine WY Mn dd.typeIs P3 (PySem.F.args_dict_get_2 _ _) (meets_dict_get (bO X.prog X.w) a (m4 ry) hd) ⟨_,dd.mapOf,h _ _ (I.tok _) ?_⟩
  rw [l]
  exact (rel.val k).getD rfl
 ·subst ey
  cases (show u=mT b from ry)
  obtain ⟨z,hd,xs,rel,dd⟩:=m6 I.hok e
  refine WY Mn dd.typeIs P3 (PySem.F.args_dict_get_2 _ _) (meetsH_dict_get (tupleKind (bO X.prog X.w)) a b hd) ⟨LP hu,k,xs,iT I.hok eb,dd,h _ _ (I.tok _) ?_⟩
  rw [l]
  exact (rel.val k).getD rfl
theorem MS {Q:ap->ar->Prop} (hu:A.units+1<cLine) (I:Inv X pins σ H s) (g:mh H a y o) (ry:RelV y u) (rd:RelV d r) (h:∀w' s',Inv X pins σ H s'->RelV (o.getD d) w'->Q w' s') :
  wpAny (model X.prog X.w) A (call (.builtin "dict.get") [.ref a,u,r]) Q E s :=by
 rcases g with ⟨av,k,e,ey,l⟩|⟨av,k,b,e,ey,eb,l⟩
 ·subst ey
  obtain ⟨z,hd,vs,rel,dd⟩:=m5 I.hok e
  refine WY Mn dd.typeIs P3 (PySem.F.args_dict_get_3 _ _ _) (meets_dict_get_default (bO X.prog X.w) a (m4 ry) hd r) ⟨_,dd.mapOf,h _ _ (I.tok _) ?_⟩
  rw [l]
  exact (rel.val k).getD rd
 ·subst ey
  cases (show u=mT b from ry)
  obtain ⟨z,hd,xs,rel,dd⟩:=m6 I.hok e
  refine WY Mn dd.typeIs P3 (PySem.F.args_dict_get_3 _ _ _) (meetsH_dict_get_default (tupleKind (bO X.prog X.w)) a b hd r) ⟨LP hu,k,xs,iT I.hok eb,dd,h _ _ (I.tok _) ?_⟩
  rw [l]
  exact (rel.val k).getD rd
end
inductive Dv where
 |int (i:Int)|bl (b:Bool)|au|str (z:br)|tup (xs:List Dv)|lst (xs:List Dv)|set (ns:List Int)|ptr (a:ag)|exc (C:ag)|bI (ns:List Int)|raw (v:V)|dk (ks:List Key) (ds:List Dv)|dt (ks:List (List Key)) (ds:List Dv)|dI (f:ag) (o:l3) (c:ag) (oc:l3) (vs:List V) (ds:List Dv)
inductive Mo where
 |lst (xs:List Dv)|dJ|dk (ks:List Key) (ds:List Dv)|dt (ks:List (List Key)) (ds:List Dv)
abbrev Mh:=ag->Option Mo
structure di where
 g:List ag
 l:List (ag×br)
instance:Membership ag di:=⟨fun t a=>a∈t.g⟩
def HQ:HO->Bool
 | .dy _=>true
 | .lam _=>true
 | .dK _=>true
 | .dT _=>true
 |_=>false
def Dx:HO->Bool
 | .dy _=>false
 |_=>true
def Ba:HO->Bool
 | .dK _=>true
 | .dT _=>true
 |_=>false
theorem Rd.map {H H':Hp} {a:ag} {u:HO} (e:Rd H a u) (k:∀x,H a=some x->H' a=some x):Rd H' a u:=e.imp (k _) fun ⟨o,h⟩=>⟨o,k _ h⟩
theorem Rd.MT {H H':Hp} {a:ag} {u:HO} (e:Rd H a u) (hu:Ba u=true) (k:∀x,Dx x=true->H a=some x->H' a=some x):Rd H' a u:=e.imp (k _ (by cases u <;> first|rfl|cases hu)) fun ⟨o,h⟩=>⟨o,k _ rfl h⟩
theorem Rd.there {H:Hp} {a:ag} {u:HO} (e:Rd H a u):∃x,H a=some x:=e.elim (fun h=>⟨_,h⟩) fun ⟨o,h⟩=>⟨_,h⟩
def Tg (o o':HO):Prop:=(∃ps mB:Array ap,o=.dy ps/\o'=.dy mB/\VT mB.toList)\/(∃ps mB:Array ap,o=.lam ps/\o'=.lam mB)\/(Ba o=true/\∃ob,o'=.gG ob o)
theorem Tg.trans {a b c:HO} (x:Tg a b) (y:Tg b c):Tg a c :=by
 rcases x with ⟨p,q,rfl,rfl,t⟩|⟨p,q,rfl,rfl⟩|⟨hd,ob,rfl⟩
 ·rcases y with ⟨p2,q2,e,rfl,t2⟩|⟨p2,q2,e,_⟩|⟨e,_⟩
  ·exact .inl ⟨p,q2,rfl,rfl,t2⟩
  ·cases e
  ·cases e
 ·rcases y with ⟨p2,q2,e,_⟩|⟨p2,q2,e,rfl⟩|⟨e,_⟩
  ·cases e
  ·exact .inr (.inl ⟨p,q2,rfl,rfl⟩)
  ·cases e
 ·rcases y with ⟨p2,q2,e,_⟩|⟨p2,q2,e,_⟩|⟨e,_⟩ <;> cases e
theorem Tg.tab {a b:HO} (x:Tg a b):HQ a=true :=by
 rcases x with ⟨p,q,rfl,rfl,_⟩|⟨p,q,rfl,rfl⟩|⟨hd,ob,rfl⟩
 ·rfl
 ·rfl
 ·cases a <;> first|rfl|cases hd
def Te (H:Hp) (q:br) (cv:ap):Prop:=∃(c:ag) (oc:l3) (u:HO) (vs:Array ap) (t:Tok),cv=mT c/\H c=some (.gG oc u)/\oc.data=.fields vs/\vs[1]?=some (XO q t)
def Lm (H:Hp) (p:ag×br):Prop:=∃ps:Array ap,H p.1=some (.lam ps)/\VT ps.toList/\∀pos cv,codeAmong pos ps.toList=some cv->Te H p.2 cv
theorem Lm.keep {H H':Hp} {p:ag×br} (h:Lm H p) (k1:∀ps,H p.1=some (.lam ps)->H' p.1=some (.lam ps)) (k2:∀c oc u,H c=some (.gG oc u)->H' c=some (.gG oc u)):Lm H' p :=by
 obtain ⟨ps,e,t,c⟩:=h
 refine ⟨ps,k1 _ e,t,fun pos cv q=>?_⟩
 obtain ⟨a,oc,u,vs,tk,e1,e2,r⟩:=c pos cv q
 exact ⟨a,oc,u,vs,tk,e1,k2 _ _ _ e2,r⟩
structure Bz where
 P:gc
 w:i0
 K:ba
 tb:di
 hid:List ag
def Fz (β:Bz) (M:Mh) (a:ag):Prop:=M a=none/\a ∉ β.hid
def Kl (K:ba) (a:ag) (ns:List Int):Prop:=∃(o:l3) (its:Array ap) (n:Nat),K.lookup a=some o/\o.cls=.type "list" /\ o.dict=none/\o.data=.seq its n/\its.size<=sizeLine/\Vals (ns.map V.int) its.toList
inductive Rz (β:Bz) (M:Mh) (H:Hp):V->Dv->Prop where
 |int (i:Int):Rz β M H (.int i) (.int i)
 |bl (b:Bool):Rz β M H (.bl b) (.bl b)
 |au:Rz β M H .au .au
 |str (z:br):Rz β M H (.str z) (.str z)
 |tup {a:ag} {vs:List V} {ds:List Dv} (m:Fz β M a) (e:H a=some (.tup vs)) (hl:vs.length=ds.length) (h:∀(i:Nat) (v:V) (d:Dv),vs[i]?=some v->ds[i]?=some d->Rz β M H v d):Rz β M H (.ref a) (.tup ds)
 |lst {a:ag} {vs:List V} {ds:List Dv} (m:Fz β M a) (e:H a=some (.lst vs)) (hl:vs.length=ds.length) (h:∀(i:Nat) (v:V) (d:Dv),vs[i]?=some v->ds[i]?=some d->Rz β M H v d):Rz β M H (.ref a) (.lst ds)
 |set {a:ag} {ns:List Int} (m:Fz β M a) (e:H a=some (oj β.P β.w a ns)):Rz β M H (.ref a) (.set ns)
 |ptr {a:ag} (m:(M a).isSome=true):Rz β M H (.ref a) (.ptr a)
 |exc {a C:ag} (m:Fz β M a) (e:H a=some (S9 C a)):Rz β M H (.ref a) (.exc C)
 |bI {a:ag} {o:l3} {ns:List Int} (m:Fz β M a) (e:H a=some (.gG o (.lst (ns.map V.int)))):Rz β M H (.ref a) (.bI ns)
 |cU {a:ag} {ns:List Int} (m:Fz β M a) (e:H a=some (.lst (ns.map V.int))):Rz β M H (.ref a) (.bI ns)
 |cV {a:ag} {ns:List Int} (e:Kl β.K a ns):Rz β M H (.ref a) (.bI ns)
 |raw (v:V):Rz β M H v (.raw v)
 |dk {a:ag} {ks:List Key} {vs:List V} {ds:List Dv} (m:Fz β M a) (e:Rd H a (.dK (ks.zip vs))) (hk:ks.length=vs.length) (hl:vs.length=ds.length) (h:∀(i:Nat) (v:V) (d:Dv),vs[i]?=some v->ds[i]?=some d->Rz β M H v d):Rz β M H (.ref a) (.dk ks ds)
 |dt {a:ag} {ks:List (List Key)} {vs:List V} {ds:List Dv} (m:Fz β M a) (e:Rd H a (.dT (ks.zip vs))) (hk:ks.length=vs.length) (hl:vs.length=ds.length) (h:∀(i:Nat) (v:V) (d:Dv),vs[i]?=some v->ds[i]?=some d->Rz β M H v d):Rz β M H (.ref a) (.dt ks ds)
 |dI {f c:ag} {o oc:l3} {u uc:HO} {vs:List V} {ds:List Dv} (m:Fz β M f) (e:H f=some (.gG o u)) (m2:Fz β M c) (e2:H c=some (.gG oc uc)) (hl:vs.length=ds.length) (h:∀(i:Nat) (v:V) (d:Dv),vs[i]?=some v->ds[i]?=some d->Rz β M H v d):Rz β M H (.ref f) (.dI f o c oc vs ds)
structure aL (β:Bz) (M:Mh) (H:Hp) (vs:List V) (ds:List Dv):Prop where
 len:vs.length=ds.length
 at':∀(i:Nat) (v:V) (d:Dv),vs[i]?=some v->ds[i]?=some d->Rz β M H v d
def jP (β:Bz) (M:Mh) (H:Hp) (a:ag):Mo->Prop
 | .lst ds=>∃vs,H a=some (.lst vs)/\aL β M H vs ds
 | .dJ=>PF H a
 | .dk ks ds=>∃vs,H a=some (.dK (ks.zip vs))/\ks.length=vs.length/\aL β M H vs ds
 | .dt ks ds=>∃vs,H a=some (.dT (ks.zip vs))/\ks.length=vs.length/\aL β M H vs ds
def oB:HO->Bool
 | .lst _=>true
 | .set _ _=>true
 | .dK _=>true
 | .dT _=>true
 | .ext _=>true
 | .dy _=>true
 |_=>false
def Bb (H:Hp) (a:ag):Prop:=∃o,H a=some o/\oB o=true
theorem Bb.upd {H:Hp} {a p:ag} {o:HO} (h:Bb H a) (d:H p=none\/oB o=true):Bb (upd H p o) a :=by
 obtain ⟨u,e,n⟩:=h
 by_cases z:a=p
 ·subst z
  rcases d with d|d
  ·rw [e] at d;cases d
  ·exact ⟨o,aK,d⟩
 ·exact ⟨u,by rw [aj z];exact e,n⟩
structure Mz (β:Bz) (M:Mh) (H:Hp):Prop where
 obj:∀a o,M a=some o->jP β M H a o
 tabs:Hz β.tb.g H
 hids:∀a∈β.hid,Bb H a
 apart:∀a o,M a=some o->a ∉ β.hid
 lams:∀p∈β.tb.l,Lm H p
structure Ey (M:Mh) (H:Hp) (M':Mh) (H':Hp):Prop where
 keep:∀b o,M b=none->H b=some o->H' b=some o\/∃o',Tg o o'/\H' b=some o'
 dom:∀a,(M a).isSome=true->(M' a).isSome=true
 new:∀a o,M a=none->H a=some o->M' a=none
structure Ex (β:Bz) (M:Mh) (H:Hp) (M':Mh) (H':Hp):Prop extends Ey M H M' H' where
 mz:Mz β M' H'
section
variable {β:Bz} {M M1 M2:Mh} {H H1 H2:Hp}
theorem Ey.refl:Ey M H M H:=⟨fun _ _ _ h=>.inl h,fun _ h=>h,fun _ _ h _=>h⟩
theorem Ex.refl (m:Mz β M H):Ex β M H M H:=⟨.refl,m⟩
theorem Ey.trans (x:Ey M H M1 H1) (y:Ey M1 H1 M2 H2):Ey M H M2 H2 :=by
 refine ⟨fun b o hm h=>?_,fun a h=>y.dom a (x.dom a h),fun a o hm h=>?_⟩
 ·have lC:=x.new b o hm h
  rcases x.keep b o hm h with q|⟨o1,t,q⟩
  ·exact y.keep b o lC q
  ·rcases y.keep b _ lC q with q2|⟨o2,t2,q2⟩
   ·exact .inr ⟨o1,t,q2⟩
   ·exact .inr ⟨o2,t.trans t2,q2⟩
 ·have lC:=x.new a o hm h
  rcases x.keep a o hm h with q|⟨o1,t,q⟩
  ·exact y.new a _ lC q
  ·exact y.new a _ lC q
theorem Ex.trans (x:Ex β M H M1 H1) (y:Ex β M1 H1 M2 H2):Ex β M H M2 H2:=⟨x.toEy.trans y.toEy,y.mz⟩
theorem Ey.get (x:Ey M H M1 H1) {b:ag} {o:HO} (m:M b=none) (h:H b=some o) (n:HQ o=false):H1 b=some o :=by
 rcases x.keep b o m h with q|⟨o',e,_⟩
 ·exact q
 ·rw [e.tab] at n;cases n
theorem Ey.rd (x:Ey M H M1 H1) {b:ag} {u:HO} (m:M b=none) (h:Rd H b u) (hu:Ba u=true):Rd H1 b u :=by
 rcases h with h|⟨o,h⟩
 ·rcases x.keep b u m h with q|⟨o',t,q⟩
  ·exact .inl q
  ·rcases t with ⟨_,_,rfl,_⟩|⟨_,_,rfl,_⟩|⟨_,ob,rfl⟩
   ·cases hu
   ·cases hu
   ·exact .inr ⟨ob,q⟩
 ·exact .inr ⟨o,x.get m h rfl⟩
theorem Ey.gone (x:Ey M H M1 H1) {b:ag} (h:H1 b=none):M b=none->H b=none:=fun m=>by
 cases e:H b with
 |none=>rfl
 |some o=>
  rcases x.keep b o m e with q|⟨_,_,q⟩ <;> (rw [h] at q;cases q)
theorem Rz.ey (x:Ey M H M1 H1) {v:V} {d:Dv} (h:Rz β M H v d):Rz β M1 H1 v d :=by
 induction h with
 |int i=>exact .int i
 |bl b=>exact .bl b
 |au=>exact .au
 |str z=>exact .str z
 |tup m e hl h ih=>exact .tup ⟨x.new _ _ m.1 e,m.2⟩ (x.get m.1 e rfl) hl ih
 |lst m e hl h ih=>exact .lst ⟨x.new _ _ m.1 e,m.2⟩ (x.get m.1 e rfl) hl ih
 |dk m e hk hl h ih=>exact .dk ⟨x.new _ _ m.1 e.there.choose_spec,m.2⟩ (x.rd m.1 e rfl) hk hl ih
 |dt m e hk hl h ih=>exact .dt ⟨x.new _ _ m.1 e.there.choose_spec,m.2⟩ (x.rd m.1 e rfl) hk hl ih
 |dI m e m2 e2 hl h ih=>exact .dI ⟨x.new _ _ m.1 e,m.2⟩ (x.get m.1 e rfl) ⟨x.new _ _ m2.1 e2,m2.2⟩ (x.get m2.1 e2 rfl) hl ih
 |set m e=>exact .set ⟨x.new _ _ m.1 e,m.2⟩ (x.get m.1 e rfl)
 |ptr m=>exact .ptr (x.dom _ m)
 |exc m e=>exact .exc ⟨x.new _ _ m.1 e,m.2⟩ (x.get m.1 e rfl)
 |bI m e=>exact .bI ⟨x.new _ _ m.1 e,m.2⟩ (x.get m.1 e rfl)
 |cU m e=>exact .cU ⟨x.new _ _ m.1 e,m.2⟩ (x.get m.1 e rfl)
 |cV e=>exact .cV e
 |raw v=>exact .raw v
theorem Rz.ex (x:Ex β M H M1 H1) {v:V} {d:Dv} (h:Rz β M H v d):Rz β M1 H1 v d:=h.ey x.toEy
theorem aL.ex (x:Ex β M H M1 H1) {vs:List V} {ds:List Dv} (h:aL β M H vs ds):aL β M1 H1 vs ds:=⟨h.len,fun i v d a b=>(h.at' i v d a b).ex x⟩
theorem aL.nil:aL β M H [] []:=⟨rfl,fun i v d h=>by simp at h⟩
theorem aL.cons {v:V} {d:Dv} {vs:List V} {ds:List Dv} (h:Rz β M H v d) (t:aL β M H vs ds):aL β M H (v::vs) (d::ds):=⟨by simp [t.len],fun i x y a b=>by
 cases i with
 |zero=>simp at a b;subst a b;exact h
 |succ i=>rw [Fa] at a b;exact t.at' i x y a b⟩
theorem aL.head {v:V} {d:Dv} {vs:List V} {ds:List Dv} (h:aL β M H (v::vs) (d::ds)):Rz β M H v d:=h.at' 0 v d rfl rfl
theorem aL.tail {v:V} {d:Dv} {vs:List V} {ds:List Dv} (h:aL β M H (v::vs) (d::ds)):aL β M H vs ds:=⟨by simpa using h.len,fun i x y a b=>h.at' (i+1) x y (by rw [Fa];exact a) (by rw [Fa];exact b)⟩
theorem aL.append {vs Dy:List V} {ds ds':List Dv} (h:aL β M H vs ds) (t:aL β M H Dy ds'):aL β M H (vs++Dy) (ds++ds'):=⟨by simp [h.len,t.len],fun i x y a b=>by
 rw [WZ] at a b
 rw [h.len] at a
 split at b
 ·rename_i z
  rw [if_pos z] at a
  exact h.at' i x y a b
 ·rename_i z
  rw [if_neg z] at a
  exact t.at' _ x y a b⟩
theorem aL.snoc {v:V} {d:Dv} {vs:List V} {ds:List Dv} (t:aL β M H vs ds) (h:Rz β M H v d):aL β M H (vs++[v]) (ds++[d]):=t.append (.cons h .nil)
theorem aL.get {vs:List V} {ds:List Dv} (h:aL β M H vs ds) {i:Nat} {d:Dv} (e:ds[i]?=some d):∃v,vs[i]?=some v/\Rz β M H v d :=by
 have hi:=(bn.mp e).1
 have cp:i<vs.length :=by rw [h.len];exact hi
 exact ⟨vs[i],ac cp,h.at' i _ _ (ac cp) e⟩
theorem aL.get' {vs:List V} {ds:List Dv} (h:aL β M H vs ds) {i:Nat} {v:V} (e:vs[i]?=some v):∃d,ds[i]?=some d/\Rz β M H v d :=by
 have hi:=(bn.mp e).1
 have cp:i<ds.length :=by rw [<- h.len];exact hi
 exact ⟨ds[i],ac cp,h.at' i _ _ e (ac cp)⟩
theorem aL.take {vs:List V} {ds:List Dv} (h:aL β M H vs ds) (n:Nat):aL β M H (vs.take n) (ds.take n):=⟨by simp [h.len],fun i x y a b=>by
 rw [List.getElem?_take] at a b
 split at a
 ·rename_i z;rw [if_pos z] at b;exact h.at' i x y a b
 ·cases a⟩
theorem aL.drop {vs:List V} {ds:List Dv} (h:aL β M H vs ds) (n:Nat):aL β M H (vs.drop n) (ds.drop n):=⟨by simp [h.len],fun i x y a b=>by
 rw [Xd] at a b
 exact h.at' _ x y a b⟩
theorem aL.set {vs:List V} {ds:List Dv} (h:aL β M H vs ds) (n:Nat) {v:V} {d:Dv} (r:Rz β M H v d):aL β M H (vs.set n v) (ds.set n d):=⟨by simp [h.len],fun i x y a b=>by
 rw [Wz] at a b
 rw [h.len] at a
 split at a
 ·rename_i z
  rw [if_pos z] at b
  split at a
  ·rename_i z2;rw [if_pos z2] at b;cases a;cases b;exact r
  ·cases a
 ·rename_i z;rw [if_neg z] at b;exact h.at' i x y a b⟩
theorem rT {a:ag} {vs:List V} {ds:List Dv} (m:Fz β M a) (e:H a=some (.tup vs)) (h:aL β M H vs ds):Rz β M H (.ref a) (.tup ds):=.tup m e h.len h.at'
theorem kT {a:ag} {vs:List V} {ds:List Dv} (m:Fz β M a) (e:H a=some (.lst vs)) (h:aL β M H vs ds):Rz β M H (.ref a) (.lst ds):=.lst m e h.len h.at'
theorem cC {v:V} {ds:List Dv} (h:Rz β M H v (.tup ds)):∃a vs,v=.ref a/\Fz β M a/\H a=some (.tup vs)/\aL β M H vs ds :=by
 cases h with
 |tup m e hl h=>exact ⟨_,_,rfl,m,e,hl,h⟩
theorem dD {v:V} {ds:List Dv} (h:Rz β M H v (.lst ds)):∃a vs,v=.ref a/\Fz β M a/\H a=some (.lst vs)/\aL β M H vs ds :=by
 cases h with
 |lst m e hl h=>exact ⟨_,_,rfl,m,e,hl,h⟩
theorem aM {v:V} {i:Int} (h:Rz β M H v (.int i)):v=.int i :=by cases h;rfl
theorem dP {v:V} {b:Bool} (h:Rz β M H v (.bl b)):v=.bl b :=by cases h;rfl
theorem fA {v:V} {z:br} (h:Rz β M H v (.str z)):v=.str z :=by cases h;rfl
theorem iF {v:V} (h:Rz β M H v .au):v=.au :=by cases h;rfl
theorem Dz {v u:V} (h:Rz β M H v (.raw u)):v=u :=by cases h;rfl
theorem bJ {v:V} {a:ag} (h:Rz β M H v (.ptr a)):v=.ref a/\(M a).isSome=true :=by cases h with|ptr m=>exact ⟨rfl,m⟩
theorem uO {v:V} {ns:List Int} (h:Rz β M H v (.set ns)):∃a,v=.ref a/\Fz β M a/\H a=some (oj β.P β.w a ns) :=by cases h with|set m e=>exact ⟨_,rfl,m,e⟩
theorem uP {v:V} {ns:List Int} (h:Rz β M H v (.bI ns)):∃a,v=.ref a/\bH β.K H a (ns.map V.int) :=by
 cases h with
 |bI m e=>exact ⟨_,rfl,.inl (.inr ⟨_,e⟩)⟩
 |cU m e=>exact ⟨_,rfl,.inl (.inl e)⟩
 |cV e=>exact ⟨_,rfl,.inr e⟩
def tE:HO->Bool
 | .lst _=>true
 | .dK _=>true
 | .dT _=>true
 |_=>false
theorem Mz.own (m:Mz β M H) {a:ag} {o:Mo} (e:M a=some o):∃u,H a=some u/\tE u=true :=by
 have q:=m.obj a o e
 cases o with
 |lst ds=>obtain ⟨vs,q,_⟩:=q;exact ⟨_,q,rfl⟩
 |dk ks ds=>obtain ⟨vs,q,_⟩:=q;exact ⟨_,q,rfl⟩
 |dt ks ds=>obtain ⟨vs,q,_⟩:=q;exact ⟨_,q,rfl⟩
 |dJ=>obtain ⟨_,_,q,_⟩:=q;exact ⟨_,q,rfl⟩
theorem Mz.oC (m:Mz β M H) {a:ag} {u:HO} (h:H a=some u) (n:tE u=false):M a=none :=by
 cases e:M a with
 |none=>rfl
 |some o=>obtain ⟨u',q,w⟩:=m.own e;rw [h] at q;cases q;rw [n] at w;cases w
theorem Mz.PU (m:Mz β M H) {p:ag} (hp:p∈β.tb):M p=none:=let ⟨_,h,_⟩:=m.tabs p hp;m.oC h rfl
theorem Mz.MU (m:Mz β M H) {p:ag×br} (hp:p∈β.tb.l):M p.1=none:=let ⟨_,h,_⟩:=m.lams p hp;m.oC h rfl
theorem Mz.free (m:Mz β M H) {a:ag} (h:H a=none):M a=none :=by
 cases e:M a with
 |none=>rfl
 |some o=>obtain ⟨xs,q,_⟩:=m.own e;rw [h] at q;cases q
theorem Mz.fz (m:Mz β M H) {a:ag} (h:H a=none):Fz β M a:=⟨m.free h,fun z=>by
 obtain ⟨o,e,_⟩:=m.hids a z
 rw [h] at e
 cases e⟩
theorem Gb {p a:ag} {o:HO} (h:∃u,H a=Re u):∃u,upd H p o a=Re u :=by
 unfold upd
 split
 ·exact ⟨_,rfl⟩
 ·exact h
theorem Ex.lay (m:Mz β M H) {p:ag} (h:H p=none) (o:HO):Ex β M H M (upd H p o) :=by
 have pre:∀b u,H b=some u->upd H p o b=some u:=fun b u q=>by rw [aj (bB q h)];exact q
 have rz:∀{v:V} {d:Dv},Rz β M H v d->Rz β M (upd H p o) v d:=fun r=>by
  induction r with
  |int i=>exact .int i
  |bl b=>exact .bl b
  |au=>exact .au
  |str z=>exact .str z
  |tup m e hl h ih=>exact .tup m (pre _ _ e) hl ih
  |lst m e hl h ih=>exact .lst m (pre _ _ e) hl ih
  |dk m e hk hl h ih=>exact .dk m (e.map fun _ h=>pre _ _ h) hk hl ih
  |dt m e hk hl h ih=>exact .dt m (e.map fun _ h=>pre _ _ h) hk hl ih
  |dI m e m2 e2 hl h ih=>exact .dI m (pre _ _ e) m2 (pre _ _ e2) hl ih
  |set m e=>exact .set m (pre _ _ e)
  |ptr m=>exact .ptr m
  |exc m e=>exact .exc m (pre _ _ e)
  |bI m e=>exact .bI m (pre _ _ e)
  |cU m e=>exact .cU m (pre _ _ e)
  |cV e=>exact .cV e
  |raw v=>exact .raw v
 refine ⟨⟨fun b u _ q=>.inl (pre b u q),fun _ h=>h,fun _ _ h _=>h⟩,fun a u e=>?_,fun q hq=>?_,fun a ha=>(m.hids a ha).upd (.inl h),m.apart,fun q hq=>(m.lams q hq).keep (fun _ e=>pre _ _ e) fun _ _ _ e=>pre _ _ e⟩
 ·have z:=m.obj a u e
  cases u with
  |lst ds=>obtain ⟨vs,z,l,r⟩:=z;exact ⟨vs,pre _ _ z,l,fun i v d a b=>rz (r i v d a b)⟩
  |dk ks ds=>obtain ⟨vs,z,hk,l,r⟩:=z;exact ⟨vs,pre _ _ z,hk,l,fun i v d a b=>rz (r i v d a b)⟩
  |dt ks ds=>obtain ⟨vs,z,hk,l,r⟩:=z;exact ⟨vs,pre _ _ z,hk,l,fun i v d a b=>rz (r i v d a b)⟩
  |dJ=>obtain ⟨c,n,z,r⟩:=z;exact ⟨c,n,pre _ _ z,r⟩
 ·obtain ⟨ps,e,t⟩:=m.tabs q hq
  exact ⟨ps,pre _ _ e,t⟩
theorem Ex.grow (m:Mz β M H) {p:ag} (hp:p∈β.tb) {ps:Array ap} (t:VT ps.toList):Ex β M H M (upd H p (.dy ps)) :=by
 obtain ⟨UE,Rk,t0⟩:=m.tabs p hp
 have pre:∀b u,H b=some u->Dx u=true->upd H p (.dy ps) b=some u:=fun b u q n=>by
  have:b≠p:=fun z=>by subst z;rw [Rk] at q;cases q;cases n
  rw [aj this];exact q
 have rz:∀{v:V} {d:Dv},Rz β M H v d->Rz β M (upd H p (.dy ps)) v d:=fun r=>by
  induction r with
  |int i=>exact .int i
  |bl b=>exact .bl b
  |au=>exact .au
  |str z=>exact .str z
  |tup m e hl h ih=>exact .tup m (pre _ _ e rfl) hl ih
  |lst m e hl h ih=>exact .lst m (pre _ _ e rfl) hl ih
  |dk m e hk hl h ih=>exact .dk m (e.MT rfl fun x hx h=>pre _ _ h hx) hk hl ih
  |dt m e hk hl h ih=>exact .dt m (e.MT rfl fun x hx h=>pre _ _ h hx) hk hl ih
  |dI m e m2 e2 hl h ih=>exact .dI m (pre _ _ e rfl) m2 (pre _ _ e2 rfl) hl ih
  |set m e=>exact .set m (pre _ _ e rfl)
  |ptr m=>exact .ptr m
  |exc m e=>exact .exc m (pre _ _ e rfl)
  |bI m e=>exact .bI m (pre _ _ e rfl)
  |cU m e=>exact .cU m (pre _ _ e rfl)
  |cV e=>exact .cV e
  |raw v=>exact .raw v
 refine ⟨⟨fun b u _ q=>?_,fun _ h=>h,fun _ _ h _=>h⟩,fun a u e=>?_,fun q hq=>?_,fun a ha=>(m.hids a ha).upd (.inr rfl),m.apart,fun q hq=>(m.lams q hq).keep (fun _ e=>pre _ _ e rfl) fun _ _ _ e=>pre _ _ e rfl⟩
 ·by_cases e:b=p
  ·subst e
   rw [Rk] at q
   cases q
   exact .inr ⟨_,.inl ⟨UE,ps,rfl,rfl,t⟩,aK⟩
  ·exact .inl (by rw [aj e];exact q)
 ·have z:=m.obj a u e
  cases u with
  |lst ds=>obtain ⟨vs,z,l,r⟩:=z;exact ⟨vs,pre _ _ z rfl,l,fun i v d a b=>rz (r i v d a b)⟩
  |dk ks ds=>obtain ⟨vs,z,hk,l,r⟩:=z;exact ⟨vs,pre _ _ z rfl,hk,l,fun i v d a b=>rz (r i v d a b)⟩
  |dt ks ds=>obtain ⟨vs,z,hk,l,r⟩:=z;exact ⟨vs,pre _ _ z rfl,hk,l,fun i v d a b=>rz (r i v d a b)⟩
  |dJ=>obtain ⟨c,n,z,r⟩:=z;exact ⟨c,n,pre _ _ z rfl,r⟩
 ·by_cases e:q=p
  ·subst e;exact ⟨ps,aK,t⟩
  ·obtain ⟨p2,e2,t2⟩:=m.tabs q hq
   exact ⟨p2,by rw [aj e];exact e2,t2⟩
def aw (M:Mh) (a:ag) (o:Mo):Mh:=fun b=>if b=a then Re o else M b
theorem updM_same {a:ag} {o:Mo}:aw M a o a=Re o :=by unfold aw;rw [if_pos rfl]
theorem ah {a b:ag} {o:Mo} (h:b≠a):aw M a o b=M b :=by unfold aw;rw [if_neg h]
theorem updM_updM {a:ag} {o u:Mo}:aw (aw M a o) a u=aw M a u :=by funext b;unfold aw;split <;> rfl
theorem mG {p:ag} {o:Mo} {u:HO} (hp:(M p).isSome=true\/H p=none) {v:V} {d:Dv} (h:Rz β M H v d):Rz β (aw M p o) (upd H p u) v d :=by
 have ne:∀a x,M a=none->H a=Re x->a≠p:=fun a x m e z=>by
  subst z
  rcases hp with q|q
  ·rw [m] at q;cases q
  ·rw [q] at e;cases e
 induction h with
 |int i=>exact .int i
 |bl b=>exact .bl b
 |au=>exact .au
 |str z=>exact .str z
 |tup m e hl h ih=>have n:=ne _ _ m.1 e;exact .tup ⟨by rw [ah n];exact m.1,m.2⟩ (by rw [aj n];exact e) hl ih
 |lst m e hl h ih=>have n:=ne _ _ m.1 e;exact .lst ⟨by rw [ah n];exact m.1,m.2⟩ (by rw [aj n];exact e) hl ih
 |dk m e hk hl h ih=>have n:=ne _ _ m.1 e.there.choose_spec;exact .dk ⟨by rw [ah n];exact m.1,m.2⟩ (e.map fun _ h=>by rw [aj n];exact h) hk hl ih
 |dt m e hk hl h ih=>have n:=ne _ _ m.1 e.there.choose_spec;exact .dt ⟨by rw [ah n];exact m.1,m.2⟩ (e.map fun _ h=>by rw [aj n];exact h) hk hl ih
 |dI m e m2 e2 hl h ih=>have n:=ne _ _ m.1 e;have n2:=ne _ _ m2.1 e2;exact .dI ⟨by rw [ah n];exact m.1,m.2⟩ (by rw [aj n];exact e) ⟨by rw [ah n2];exact m2.1,m2.2⟩ (by rw [aj n2];exact e2) hl ih
 |set m e=>have n:=ne _ _ m.1 e;exact .set ⟨by rw [ah n];exact m.1,m.2⟩ (by rw [aj n];exact e)
 |ptr m=>
  refine .ptr ?_
  unfold aw
  split
  ·rfl
  ·exact m
 |exc m e=>have n:=ne _ _ m.1 e;exact .exc ⟨by rw [ah n];exact m.1,m.2⟩ (by rw [aj n];exact e)
 |bI m e=>have n:=ne _ _ m.1 e;exact .bI ⟨by rw [ah n];exact m.1,m.2⟩ (by rw [aj n];exact e)
 |cU m e=>have n:=ne _ _ m.1 e;exact .cU ⟨by rw [ah n];exact m.1,m.2⟩ (by rw [aj n];exact e)
 |cV e=>exact .cV e
 |raw v=>exact .raw v
theorem jP.upd {p:ag} {o':Mo} {u:HO} (hp:(M p).isSome=true\/H p=none) {a:ag} {o:Mo} (ha:a≠p) (z:jP β M H a o):jP β (aw M p o') (L2.upd H p u) a o :=by
 cases o with
 |lst ds=>obtain ⟨vs,z,l,r⟩:=z;exact ⟨vs,by rw [aj ha];exact z,l,fun i v d a b=>mG hp (r i v d a b)⟩
 |dk ks ds=>obtain ⟨vs,z,hk,l,r⟩:=z;exact ⟨vs,by rw [aj ha];exact z,hk,l,fun i v d a b=>mG hp (r i v d a b)⟩
 |dt ks ds=>obtain ⟨vs,z,hk,l,r⟩:=z;exact ⟨vs,by rw [aj ha];exact z,hk,l,fun i v d a b=>mG hp (r i v d a b)⟩
 |dJ=>obtain ⟨c,n,z,r⟩:=z;exact ⟨c,n,by rw [aj ha];exact z,r⟩
theorem Ex.tE (m:Mz β M H) {p:ag} {u:HO} {o':Mo} (hp:(M p).isSome=true\/H p=none) (hu:oB u=true) (r:jP β (aw M p o') (upd H p u) p o'):Ex β M H (aw M p o') (upd H p u) :=by
 have ne:∀a x,M a=none->H a=Re x->a≠p:=fun a x m e z=>by
  subst z
  rcases hp with q|q
  ·rw [m] at q;cases q
  ·rw [q] at e;cases e
 refine ⟨⟨fun b u hm q=>.inl ?_,fun a h=>?_,fun a o hm h=>?_⟩,fun a o e=>?_,fun q hq=>?_,fun a ha=>(m.hids a ha).upd (.inr hu),fun a o e z=>?_,fun q hq=>?_⟩
 ·rw [aj (ne b _ hm q)];exact q
 ·unfold aw
  split
  ·rfl
  ·exact h
 ·rw [ah (ne a _ hm h)];exact hm
 ·by_cases ha:a=p
  ·subst ha
   rw [updM_same] at e
   cases e
   exact r
  ·rw [ah ha] at e
   exact (m.obj a o e).upd hp ha
 ·obtain ⟨ps,e,t⟩:=m.tabs q hq
  exact ⟨ps,by rw [aj (ne q _ (m.PU hq) e)];exact e,t⟩
 ·by_cases ha:a=p
  ·subst ha
   rcases hp with h|h
   ·cases q:M a with
    |none=>rw [q] at h;cases h
    |some u=>exact m.apart a u q z
   ·obtain ⟨u,hu,_⟩:=m.hids a z
    rw [h] at hu
    cases hu
  ·rw [ah ha] at e
   exact m.apart a o e z
 ·exact (m.lams q hq).keep (fun _ e=>by rw [aj (ne q.1 _ (m.MU hq) e)];exact e) fun c _ _ e=>by rw [aj (ne c _ (m.oC e rfl) e)];exact e
theorem Ex.own (m:Mz β M H) {p:ag} {vs:List V} {ds:List Dv} (hp:(M p).isSome=true\/H p=none) (r:aL β M H vs ds):Ex β M H (aw M p (.lst ds)) (upd H p (.lst vs)):=
 Ex.tE m hp rfl ⟨vs,aK,r.len,fun i v d a b=>mG hp (r.at' i v d a b)⟩
theorem Ex.MV (m:Mz β M H) {p:ag} {ks:List Key} {vs:List V} {ds:List Dv} (hp:(M p).isSome=true\/H p=none) (hk:ks.length=vs.length) (r:aL β M H vs ds):Ex β M H (aw M p (.dk ks ds)) (upd H p (.dK (ks.zip vs))):=
 Ex.tE m hp rfl ⟨vs,aK,hk,r.len,fun i v d a b=>mG hp (r.at' i v d a b)⟩
theorem Ex.Gd (m:Mz β M H) {p:ag} {ks:List (List Key)} {vs:List V} {ds:List Dv} (hp:(M p).isSome=true\/H p=none) (hk:ks.length=vs.length) (r:aL β M H vs ds):Ex β M H (aw M p (.dt ks ds)) (upd H p (.dT (ks.zip vs))):=
 Ex.tE m hp rfl ⟨vs,aK,hk,r.len,fun i v d a b=>mG hp (r.at' i v d a b)⟩
abbrev Bz.add (β:Bz) (D:ag):Bz:={β with hid:=D::β.hid}
theorem Rz.enter {D:ag} {o:HO} (hD:H D=none) {v:V} {d:Dv} (h:Rz β M H v d):Rz (β.add D) M (upd H D o) v d :=by
 have ne:∀a x,Fz β M a->H a=some x->Fz (β.add D) M a:=fun a x m e=>⟨m.1,by
  intro z
  rcases io.mp z with z|z
  ·subst z;rw [hD] at e;cases e
  ·exact m.2 z⟩
 have pre:∀a x,H a=some x->upd H D o a=some x:=fun a x e=>by rw [aj (bB e hD)];exact e
 induction h with
 |int i=>exact .int i
 |bl b=>exact .bl b
 |au=>exact .au
 |str z=>exact .str z
 |tup m e hl h ih=>exact .tup (ne _ _ m e) (pre _ _ e) hl ih
 |lst m e hl h ih=>exact .lst (ne _ _ m e) (pre _ _ e) hl ih
 |dk m e hk hl h ih=>exact .dk (ne _ _ m e.there.choose_spec) (e.map fun _ h=>pre _ _ h) hk hl ih
 |dt m e hk hl h ih=>exact .dt (ne _ _ m e.there.choose_spec) (e.map fun _ h=>pre _ _ h) hk hl ih
 |dI m e m2 e2 hl h ih=>exact .dI (ne _ _ m e) (pre _ _ e) (ne _ _ m2 e2) (pre _ _ e2) hl ih
 |set m e=>exact .set (ne _ _ m e) (pre _ _ e)
 |ptr m=>exact .ptr m
 |exc m e=>exact .exc (ne _ _ m e) (pre _ _ e)
 |bI m e=>exact .bI (ne _ _ m e) (pre _ _ e)
 |cU m e=>exact .cU (ne _ _ m e) (pre _ _ e)
 |cV e=>exact .cV e
 |raw v=>exact .raw v
theorem Rz.sub {dE:Bz} (hP:dE.P=β.P) (hw:dE.w=β.w) (hK:dE.K=β.K) (hs:∀a,a∈dE.hid->a∈β.hid) {v:V} {d:Dv} (h:Rz β M H v d):Rz dE M H v d :=by
 have ne:∀a,Fz β M a->Fz dE M a:=fun a m=>⟨m.1,fun z=>m.2 (hs a z)⟩
 induction h with
 |int i=>exact .int i
 |bl b=>exact .bl b
 |au=>exact .au
 |str z=>exact .str z
 |tup m e hl h ih=>exact .tup (ne _ m) e hl ih
 |lst m e hl h ih=>exact .lst (ne _ m) e hl ih
 |dk m e hk hl h ih=>exact .dk (ne _ m) e hk hl ih
 |dt m e hk hl h ih=>exact .dt (ne _ m) e hk hl ih
 |dI m e m2 e2 hl h ih=>exact .dI (ne _ m) e (ne _ m2) e2 hl ih
 |set m e=>exact .set (ne _ m) (by rw [hP,hw];exact e)
 |ptr m=>exact .ptr m
 |exc m e=>exact .exc (ne _ m) e
 |bI m e=>exact .bI (ne _ m) e
 |cU m e=>exact .cU (ne _ m) e
 |cV e=>exact .cV (by rw [hK];exact e)
 |raw v=>exact .raw v
theorem Mz.sub {dE:Bz} (hP:dE.P=β.P) (hw:dE.w=β.w) (hK:dE.K=β.K) (ht:dE.tb=β.tb) (hs:∀a,a∈dE.hid->a∈β.hid) (m:Mz β M H):Mz dE M H:=⟨fun a o e=>by
 have z:=m.obj a o e
 cases o with
 |lst ds=>obtain ⟨vs,z,l,r⟩:=z;exact ⟨vs,z,l,fun i v d a b=>(r i v d a b).sub hP hw hK hs⟩
 |dk ks ds=>obtain ⟨vs,z,hk,l,r⟩:=z;exact ⟨vs,z,hk,l,fun i v d a b=>(r i v d a b).sub hP hw hK hs⟩
 |dt ks ds=>obtain ⟨vs,z,hk,l,r⟩:=z;exact ⟨vs,z,hk,l,fun i v d a b=>(r i v d a b).sub hP hw hK hs⟩
 |dJ=>exact z,by rw [ht];exact m.tabs,fun a ha=>m.hids a (hs a ha),fun a o e z=>m.apart a o e (hs a z),by rw [ht];exact m.lams⟩
theorem Mz.enter {D:ag} {o:HO} (hD:H D=none) (ho:oB o=true) (m:Mz β M H):Mz (β.add D) M (upd H D o):=⟨fun a u e=>by
 have pre:∀a x,H a=Re x->upd H D o a=Re x:=fun a x e=>by rw [aj (bB e hD)];exact e
 have z:=m.obj a u e
 cases u with
 |lst ds=>obtain ⟨vs,z,l,r⟩:=z;exact ⟨vs,pre _ _ z,l,fun i v d a b=>(r i v d a b).enter hD⟩
 |dk ks ds=>obtain ⟨vs,z,hk,l,r⟩:=z;exact ⟨vs,pre _ _ z,hk,l,fun i v d a b=>(r i v d a b).enter hD⟩
 |dt ks ds=>obtain ⟨vs,z,hk,l,r⟩:=z;exact ⟨vs,pre _ _ z,hk,l,fun i v d a b=>(r i v d a b).enter hD⟩
 |dJ=>obtain ⟨c,n,z,r⟩:=z;exact ⟨c,n,pre _ _ z,r⟩,fun p hp=>by
 obtain ⟨ps,e,t⟩:=m.tabs p hp
 exact ⟨ps,by rw [aj (bB e hD)];exact e,t⟩,fun a ha=>by
 rcases io.mp ha with z|z
 ·subst z;exact ⟨_,aK,ho⟩
 ·exact (m.hids a z).upd (.inl hD),fun a o e ha=>by
 rcases io.mp ha with z|z
 ·subst z;rw [m.free hD] at e;cases e
 ·exact m.apart a o e z,fun q hq=>(m.lams q hq).keep (fun _ e=>by rw [aj (bB e hD)];exact e) fun _ _ _ e=>by rw [aj (bB e hD)];exact e⟩
theorem Rz.over {D:ag} {o:HO} (hD:D∈β.hid) {v:V} {d:Dv} (h:Rz β M H v d):Rz β M (upd H D o) v d :=by
 have pre:∀a x,Fz β M a->H a=some x->upd H D o a=some x:=fun a x m e=>by
  have n:a≠D:=fun z=>by subst z;exact m.2 hD
  rw [aj n];exact e
 induction h with
 |int i=>exact .int i
 |bl b=>exact .bl b
 |au=>exact .au
 |str z=>exact .str z
 |tup m e hl h ih=>exact .tup m (pre _ _ m e) hl ih
 |lst m e hl h ih=>exact .lst m (pre _ _ m e) hl ih
 |dk m e hk hl h ih=>exact .dk m (e.map fun _ h=>pre _ _ m h) hk hl ih
 |dt m e hk hl h ih=>exact .dt m (e.map fun _ h=>pre _ _ m h) hk hl ih
 |dI m e m2 e2 hl h ih=>exact .dI m (pre _ _ m e) m2 (pre _ _ m2 e2) hl ih
 |set m e=>exact .set m (pre _ _ m e)
 |ptr m=>exact .ptr m
 |exc m e=>exact .exc m (pre _ _ m e)
 |bI m e=>exact .bI m (pre _ _ m e)
 |cU m e=>exact .cU m (pre _ _ m e)
 |cV e=>exact .cV e
 |raw v=>exact .raw v
theorem Mz.over {D:ag} {o:HO} (hD:D∈β.hid) (ho:oB o=true) (hM:M D=none) (ht:D ∉ β.tb) (m:Mz β M H):Mz β M (upd H D o):=⟨fun a u e=>by
 have na:a≠D:=fun z=>by subst z;rw [hM] at e;cases e
 have z:=m.obj a u e
 cases u with
 |lst ds=>obtain ⟨vs,z,l,r⟩:=z;exact ⟨vs,by rw [aj na];exact z,l,fun i v d a b=>(r i v d a b).over hD⟩
 |dk ks ds=>obtain ⟨vs,z,hk,l,r⟩:=z;exact ⟨vs,by rw [aj na];exact z,hk,l,fun i v d a b=>(r i v d a b).over hD⟩
 |dt ks ds=>obtain ⟨vs,z,hk,l,r⟩:=z;exact ⟨vs,by rw [aj na];exact z,hk,l,fun i v d a b=>(r i v d a b).over hD⟩
 |dJ=>obtain ⟨c,n,z,r⟩:=z;exact ⟨c,n,by rw [aj na];exact z,r⟩,fun p hp=>by
 obtain ⟨ps,e,t⟩:=m.tabs p hp
 have n:p≠D:=fun z=>by subst z;exact ht hp
 exact ⟨ps,by rw [aj n];exact e,t⟩,fun a ha=>(m.hids a ha).upd (.inr ho),m.apart,fun q hq=>by
 obtain ⟨o',e',n⟩:=m.hids D hD
 exact (m.lams q hq).keep (fun _ e=>by rw [aj (fun z=>by subst z;rw [e'] at e;cases e;cases n)];exact e) fun c _ _ e=>by rw [aj (fun z=>by subst z;rw [e'] at e;cases e;cases n)];exact e⟩
theorem Ey.over {D:ag} {o:HO} (x:Ey M H M1 H1) (hD:H D=none):Ey M H M1 (upd H1 D o):=⟨fun b u m h=>by
 have nb:b≠D:=bB h hD
 rw [aj nb]
 exact x.keep b u m h,x.dom,x.new⟩
theorem Mz.Ge {D:ag} (m:Mz β M H) (hD:H D=none):D ∉ β.tb:=fun z=>by
 obtain ⟨_,e,_⟩:=m.tabs D z
 rw [hD] at e
 cases e
structure Bx (β dE:Bz) (H:Hp):Prop where
 P:dE.P=β.P
 w:dE.w=β.w
 K:dE.K=β.K
 tb:dE.tb=β.tb
 old:∀a,a∈β.hid->a∈dE.hid
 new:∀a,a∈dE.hid->a∈β.hid\/H a=none
theorem Bx.refl:Bx β β H:=⟨rfl,rfl,rfl,rfl,fun _ h=>h,fun _ h=>.inl h⟩
theorem Bx.add {D:ag} (hD:H D=none):Bx β (β.add D) H:=⟨rfl,rfl,rfl,rfl,fun _ h=>db _ h,fun a h=>by
 rcases io.mp h with z|z
 ·exact .inr (z▸hD)
 ·exact .inl z⟩
theorem Rz.bx {dE:Bz} (b:Bx β dE H) {v:V} {d:Dv} (h:Rz β M H v d):Rz dE M H v d :=by
 have ne:∀a x,Fz β M a->H a=some x->Fz dE M a:=fun a x m e=>⟨m.1,fun z=>by
  rcases b.new a z with q|q
  ·exact m.2 q
  ·rw [q] at e;cases e⟩
 induction h with
 |int i=>exact .int i
 |bl b=>exact .bl b
 |au=>exact .au
 |str z=>exact .str z
 |tup m e hl h ih=>exact .tup (ne _ _ m e) e hl ih
 |lst m e hl h ih=>exact .lst (ne _ _ m e) e hl ih
 |dk m e hk hl h ih=>exact .dk (ne _ _ m e.there.choose_spec) e hk hl ih
 |dt m e hk hl h ih=>exact .dt (ne _ _ m e.there.choose_spec) e hk hl ih
 |dI m e m2 e2 hl h ih=>exact .dI (ne _ _ m e) e (ne _ _ m2 e2) e2 hl ih
 |set m e=>exact .set (ne _ _ m e) (by rw [b.P,b.w];exact e)
 |ptr m=>exact .ptr m
 |exc m e=>exact .exc (ne _ _ m e) e
 |bI m e=>exact .bI (ne _ _ m e) e
 |cU m e=>exact .cU (ne _ _ m e) e
 |cV e=>exact .cV (by rw [b.K];exact e)
 |raw v=>exact .raw v
end
inductive Pin (M:Mh):Dv->Prop where
 |int (i:Int):Pin M (.int i)
 |bl (b:Bool):Pin M (.bl b)
 |au:Pin M .au
 |str (z:br):Pin M (.str z)
 |tup {ds:List Dv} (h:∀d∈ds,Pin M d):Pin M (.tup ds)
 |lst {ds:List Dv} (h:∀d∈ds,Pin M d):Pin M (.lst ds)
 |set (ns:List Int):Pin M (.set ns)
 |ptr {a:ag} (h:(M a).isSome=true):Pin M (.ptr a)
 |exc (C:ag):Pin M (.exc C)
 |bI (ns:List Int):Pin M (.bI ns)
 |raw (v:V):Pin M (.raw v)
 |dk {ks:List Key} {ds:List Dv} (h:∀d∈ds,Pin M d):Pin M (.dk ks ds)
 |dt {ks:List (List Key)} {ds:List Dv} (h:∀d∈ds,Pin M d):Pin M (.dt ks ds)
 |dI {f c:ag} {o oc:l3} {vs:List V} {ds:List Dv} (h:∀d∈ds,Pin M d):Pin M (.dI f o c oc vs ds)
theorem Rz.pin {β:Bz} {M:Mh} {H:Hp} {v:V} {d:Dv} (h:Rz β M H v d):Pin M d :=by
 induction h with
 |int i=>exact .int i
 |bl b=>exact .bl b
 |au=>exact .au
 |str z=>exact .str z
 |tup m e hl h ih=>
  refine .tup fun d hd=>?_
  obtain ⟨i,hi⟩:=lc.mp hd
  have h1:=(bn.mp hi).1
  exact ih i _ d (ac (by omega)) hi
 |lst m e hl h ih=>
  refine .lst fun d hd=>?_
  obtain ⟨i,hi⟩:=lc.mp hd
  have h1:=(bn.mp hi).1
  exact ih i _ d (ac (by omega)) hi
 |dk m e hk hl h ih=>
  refine .dk fun d hd=>?_
  obtain ⟨i,hi⟩:=lc.mp hd
  have h1:=(bn.mp hi).1
  exact ih i _ d (ac (by omega)) hi
 |dt m e hk hl h ih=>
  refine .dt fun d hd=>?_
  obtain ⟨i,hi⟩:=lc.mp hd
  have h1:=(bn.mp hi).1
  exact ih i _ d (ac (by omega)) hi
 |dI m e m2 e2 hl h ih=>
  refine .dI fun d hd=>?_
  obtain ⟨i,hi⟩:=lc.mp hd
  have h1:=(bn.mp hi).1
  exact ih i _ d (ac (by omega)) hi
 |set m e=>exact .set _
 |ptr m=>exact .ptr m
 |exc m e=>exact .exc _
 |bI m e=>exact .bI _
 |cU m e=>exact .bI _
 |cV e=>exact .bI _
 |raw v=>exact .raw v
def Mo.items:Mo->List Dv
 | .lst ds=>ds
 | .dk _ ds=>ds
 | .dt _ ds=>ds
 | .dJ=>[]
def Wf (M:Mh):Prop:=∀b o,M b=some o->∀d∈o.items,Pin M d
theorem jP.UG {β:Bz} {M:Mh} {H:Hp} {a:ag} {o:Mo} (h:jP β M H a o):∃vs,aL β M H vs o.items :=by
 cases o with
 |lst ds=>obtain ⟨vs,_,rs⟩:=h;exact ⟨vs,rs⟩
 |dk ks ds=>obtain ⟨vs,_,_,rs⟩:=h;exact ⟨vs,rs⟩
 |dt ks ds=>obtain ⟨vs,_,_,rs⟩:=h;exact ⟨vs,rs⟩
 |dJ=>exact ⟨[],.nil⟩
theorem Mz.wf {β:Bz} {M:Mh} {H:Hp} (m:Mz β M H):Wf M:=fun b o e d hd=>by
 obtain ⟨vs,rs⟩:=(m.obj b _ e).UG
 obtain ⟨i,hi⟩:=lc.mp hd
 obtain ⟨v,_,r⟩:=rs.get hi
 exact r.pin
abbrev aC:=List (Option Dv)
abbrev ZK:=Dv->Mh->Prop
abbrev aI:=aC->Mh->ZK->Prop
abbrev b7:=aC->Mh->(Bool->Mh->Prop)->Prop
abbrev gd:=aC->Mh->(List Dv->Mh->Prop)->Prop
structure g6 where
 nx:aC->Mh->Prop
 rt:ZK
 bk:aC->Mh->Prop:=fun _ _=>False
 ct:aC->Mh->Prop:=fun _ _=>False
abbrev cP:=g6->aC->Mh->Prop
abbrev b9:=Dv->aC->Mh->(aC->Mh->Prop)->Prop
abbrev oE:=List Dv->aC->Mh->(aC->Mh->Prop)->Prop
abbrev dM:=aC->Mh->(List Dv->Mh->Prop)->Prop
structure Gz extends Bz where
 M0:Mh
 H0:Hp
structure Zr (Γ:Gz) (β:Bz) (M:Mh) (ρ:aC) (σ:St) (H:Hp):Prop where
 eP:β.P=Γ.P
 ew:β.w=Γ.w
 eK:β.K=Γ.K
 et:β.tb=Γ.tb
 sub:∀a,a∈Γ.hid->a∈β.hid
 wf:Wf Γ.M0
 ent:Ey Γ.M0 Γ.H0 M H
 mz:Mz β M H
 len:ρ.length=σ.length
 at':∀(i:Nat) (d:Dv),ρ[i]?=some (some d)->∃v,σ[i]?=some (some v)/\Rz β M H v d
section
variable {Γ:Gz} {β:Bz} {M M':Mh} {ρ:aC} {σ:St} {H H':Hp}
theorem Zr.step (z:Zr Γ β M ρ σ H) (x:Ex β M H M' H'):Zr Γ β M' ρ σ H':=⟨z.eP,z.ew,z.eK,z.et,z.sub,z.wf,z.ent.trans x.toEy,x.mz,z.len,fun i d e=>let ⟨v,h,r⟩:=z.at' i d e;⟨v,h,r.ex x⟩⟩
theorem Zr.set (z:Zr Γ β M ρ σ H) (i:Nat) {v:V} {d:Dv} (r:Rz β M H v d):Zr Γ β M (ρ.set i (some d)) (σ.set i (some v)) H:=⟨z.eP,z.ew,z.eK,z.et,z.sub,z.wf,z.ent,z.mz,by simp [z.len],fun j e h=>by
 rw [Wz] at h ⊢
 rw [z.len] at h
 split at h
 ·rename_i q
  rw [if_pos q]
  split at h
  ·rename_i q2
   rw [if_pos q2]
   cases h
   exact ⟨v,rfl,r⟩
  ·cases h
 ·rename_i q
  rw [if_neg q]
  exact z.at' j e h⟩
end
def lE (Γ:Gz) (p:aI):TE:=fun σ H Q=>∃(β:Bz) (ρ:aC) (M:Mh) (Q':ZK),Zr Γ β M ρ σ H/\p ρ M Q'/\∀d M' v H',Ex β M H M' H'->Rz β M' H' v d->Q' d M'->Q v H'
def lT (Γ:Gz) (p:b7):TT:=fun σ H Q=>∃(β:Bz) (ρ:aC) (M:Mh) (Q':Bool->Mh->Prop),Zr Γ β M ρ σ H/\p ρ M Q'/\∀b M' H',Ex β M H M' H'->Q' b M'->Q b H'
def lA (Γ:Gz) (p:gd):TA:=fun σ H Q=>∃(β:Bz) (ρ:aC) (M:Mh) (Q':List Dv->Mh->Prop),Zr Γ β M ρ σ H/\p ρ M Q'/\∀ds M' vs H',Ex β M H M' H'->aL β M' H' vs ds->Q' ds M'->Q vs H'
structure Ev (β:Bz) (M:Mh) (H:Hp) (M':Mh) (H':Hp):Prop where
 keep:∀b o,M b=none->H b=some o->H' b=some o\/∃o',Tg o o'/\H' b=some o'
 new:∀a o,M a=none->H a=some o->M' a=none
 mz:Mz β M' H'
theorem Ex.ev {β:Bz} {M M':Mh} {H H':Hp} (x:Ex β M H M' H'):Ev β M H M' H':=⟨x.keep,x.new,x.mz⟩
theorem Ev.refl {β:Bz} {M:Mh} {H:Hp} (m:Mz β M H):Ev β M H M H:=(Ex.refl m).ev
theorem Ev.trans {β:Bz} {M M1 M2:Mh} {H H1 H2:Hp} (x:Ev β M H M1 H1) (y:Ev β M1 H1 M2 H2):Ev β M H M2 H2 :=by
 refine ⟨fun b o hm h=>?_,fun a o hm h=>?_,y.mz⟩
 ·have lC:=x.new b o hm h
  rcases x.keep b o hm h with q|⟨o1,t,q⟩
  ·exact y.keep b o lC q
  ·rcases y.keep b _ lC q with q2|⟨o2,t2,q2⟩
   ·exact .inr ⟨o1,t,q2⟩
   ·exact .inr ⟨o2,t.trans t2,q2⟩
 ·have lC:=x.new a o hm h
  rcases x.keep a o hm h with q|⟨o1,t,q⟩
  ·exact y.new a _ lC q
  ·exact y.new a _ lC q
structure Bc (Γ:Gz) (β:Bz) (M:Mh) (H:Hp) (D':g6) (D:Ends):Prop where
 nx:∀cz M' aO H',Ev β M H M' H'->Zr Γ β M' cz aO H'->D'.nx cz M'->D.nx aO H'
 rt:∀d M' v H',Ev β M H M' H'->Ey Γ.M0 Γ.H0 M' H'->Rz β M' H' v d->D'.rt d M'->D.rt v H'
 bk:∀cz M' aO H',Ev β M H M' H'->Zr Γ β M' cz aO H'->D'.bk cz M'->D.bk aO H'
 ct:∀cz M' aO H',Ev β M H M' H'->Zr Γ β M' cz aO H'->D'.ct cz M'->D.ct aO H'
theorem Bc.step {Γ:Gz} {β:Bz} {M M1:Mh} {H H1:Hp} {D':g6} {D:Ends} (r:Bc Γ β M H D' D) (x:Ev β M H M1 H1):Bc Γ β M1 H1 D' D:=
 ⟨fun a b c d y=>r.nx a b c d (x.trans y),fun a b c d y=>r.rt a b c d (x.trans y),fun a b c d y=>r.bk a b c d (x.trans y),fun a b c d y=>r.ct a b c d (x.trans y)⟩
def lS (Γ:Gz) (p:cP):TS:=fun D σ H=>∃(β:Bz) (ρ:aC) (M:Mh) (D':g6),Zr Γ β M ρ σ H/\p D' ρ M/\Bc Γ β M H D' D
def lG (Γ:Gz) (p:b9):TG:=fun x σ H N=>∃(β:Bz) (d:Dv) (ρ:aC) (M:Mh) (N':aC->Mh->Prop),Zr Γ β M ρ σ H/\Rz β M H x d/\p d ρ M N'/\∀cz M' aO H',Ex β M H M' H'->Zr Γ β M' cz aO H'->N' cz M'->N aO H'
def UH (Γ:Gz) (p:oE):q9:=fun xs σ H N=>∃(β:Bz) (ds:List Dv) (ρ:aC) (M:Mh) (N':aC->Mh->Prop),Zr Γ β M ρ σ H/\aL β M H xs ds/\p ds ρ M N'/\∀cz M' aO H',Ex β M H M' H'->Zr Γ β M' cz aO H'->N' cz M'->N aO H'
def DA (β:Bz) (J:It) (ds:List Dv) (M:Mh) (H:Hp):Prop:=∀dE M' H',Bx β dE H->Ey M H M' H'->Mz dE M' H'->∀i,(i<ds.length->J.go i H'/\∀x ji,J.yld i H' x ji->Ex dE M' H' M' ji/\∃d,ds[i]?=some d/\Rz dE M' ji x d)/\(ds.length<=i->J.stop i H')
def lI (Γ:Gz) (p:dM):TI:=fun σ H R=>∃(β:Bz) (ρ:aC) (M:Mh) (R':List Dv->Mh->Prop),Zr Γ β M ρ σ H/\p ρ M R'/\∀ds M' H' J,Ex β M H M' H'->DA β J ds M' H'->R' ds M'->R J H'
abbrev QE (Γ:Gz) (X:Cx) (e:dL) (p:aI):Prop:=PE X e (lE Γ p)
abbrev QT (Γ:Gz) (X:Cx) (e:dL) (p:b7):Prop:=PT X e (lT Γ p)
abbrev QW (Γ:Gz) (X:Cx) (e:dL) (p:b7):Prop:=PW X e (lT Γ p)
abbrev QA (Γ:Gz) (X:Cx) (es:List dL) (p:gd):Prop:=PA X es (lA Γ p)
abbrev QS (Γ:Gz) (X:Cx) (s:tz) (p:cP):Prop:=PS X s (lS Γ p)
abbrev oF (Γ:Gz) (X:Cx) (s:List tz) (p:cP):Prop:=iB X s (lS Γ p)
abbrev QG (Γ:Gz) (X:Cx) (e:dL) (p:b9):Prop:=PG X e (lG Γ p)
abbrev HR (Γ:Gz) (X:Cx) (e:List dL) (p:oE):Prop:=ue X e (UH Γ p)
abbrev QI (Γ:Gz) (X:Cx) (tg e:dL) (p:dM):Prop:=PI X tg e (lI Γ p)
section
variable {X:Cx}
theorem PE.imp {e:dL} {t t':TE} (h:PE X e t) (i:∀σ H Q,t' σ H Q->t σ H Q):PE X e t':=⟨fun pins s σ H Q I q=>h pins s σ H Q I (i _ _ _ q)⟩
theorem PT.imp {e:dL} {t t':TT} (h:PT X e t) (i:∀σ H Q,t' σ H Q->t σ H Q):PT X e t':=⟨fun pins s σ H Q I q=>h pins s σ H Q I (i _ _ _ q)⟩
theorem PW.imp {e:dL} {t t':TT} (h:PW X e t) (i:∀σ H Q,t' σ H Q->t σ H Q):PW X e t':=fun wh pins s σ H Q I q=>h wh pins s σ H Q I (i _ _ _ q)
theorem PA.imp {e:List dL} {t t':TA} (h:PA X e t) (i:∀σ H Q,t' σ H Q->t σ H Q):PA X e t':=⟨fun pos pins s σ H Q I q=>h pos pins s σ H Q I (i _ _ _ q)⟩
theorem PS.imp {e:tz} {t t':TS} (h:PS X e t) (i:∀D σ H,t' D σ H->t D σ H):PS X e t':=⟨fun pins s σ H D I q=>h pins s σ H D I (i _ _ _ q)⟩
theorem iB.imp {e:List tz} {t t':TS} (h:iB X e t) (i:∀D σ H,t' D σ H->t D σ H):iB X e t':=⟨fun pins s σ H D I q=>h pins s σ H D I (i _ _ _ q)⟩
theorem PG.imp {e:dL} {t t':TG} (h:PG X e t) (i:∀v σ H Q,t' v σ H Q->t v σ H Q):PG X e t':=fun pins s σ H v u Q I r q=>h pins s σ H v u Q I r (i _ _ _ _ q)
theorem ue.imp {e:List dL} {t t':q9} (h:ue X e t) (i:∀v σ H Q,t' v σ H Q->t v σ H Q):ue X e t':=fun pins s σ H v u Q I r q=>h pins s σ H v u Q I r (i _ _ _ _ q)
theorem PI.imp {tg e:dL} {t t':TI} (h:PI X tg e t) (i:∀σ H Q,t' σ H Q->t σ H Q):PI X tg e t':=fun pins s σ H Q I q=>h pins s σ H Q I (i _ _ _ q)
theorem gR.imp {e:List dL} {t t':TT} (h:gR X e t) (i:∀σ H Q,t' σ H Q->t σ H Q):gR X e t':=fun pins s σ H Q I q=>h pins s σ H Q I (i _ _ _ q)
variable {Γ:Gz} {a b c:dL} {pa pb pc:aI} {pos:ut}
def zVar (i:Nat):aI:=fun ρ M Q=>match ρ[i]? with|some (some d)=>Q d M|_=>False
def zC (d:Dv):aI:=fun _ M Q=>Q d M
theorem MX {i:Nat} {x:br} (hN:X.N[i]?=some x) (hv:ua X.env.scope x) (hd:(x==("__debug__" : br))=false :=by decide) (iO:(x==("__classdict__" : br))=false :=by decide):QE Γ X (.Name x pos) (zVar i):=
 (B7 hN hv hd iO).imp fun σ H Q ⟨β,ρ,M,Q',z,h,q⟩=>by
  unfold zVar at h
  split at h
  ·rename_i d e
   obtain ⟨v,e2,r⟩:=z.at' i d e
   exact ⟨v,e2,q d M v H (.refl z.mz) r h⟩
  ·exact h.elim
theorem qc {e:dL} {v:V} {d:Dv} (h:PE X e (tC v)) (r:∀β M H,Rz β M H v d):QE Γ X e (zC d):=h.imp fun σ H Q ⟨β,ρ,M,Q',z,h,q⟩=>q d M v H (.refl z.mz) (r β M H) h
theorem aB {i j pos}:QE Γ X (.Constant (.int i) j pos) (zC (.int i)):=qc KS fun _ _ _=>.int _
theorem fe {b j pos}:QE Γ X (.Constant (.bool b) j pos) (zC (.bl b)):=qc O4 fun _ _ _=>.bl _
theorem rV {j pos}:QE Γ X (.Constant .none j pos) (zC .au):=qc KU fun _ _ _=>.au
theorem MY {x j pos}:QE Γ X (.Constant (.str x) j pos) (zC (.str x)):=qc KW fun _ _ _=>.str _
theorem Gf {x:br} {i:Int} {u:ap} (hg:Gl X x) (hm:X.mg x=some u) (r:RelV (.int i) u) (hd:(x==("__debug__" : br))=false :=by decide):QE Γ X (.Name x pos) (zC (.int i)):=qc (IH hg hm r hd) fun _ _ _=>.int _
theorem bw {x:br} {v:V} {u:ap} (hg:Gl X x) (hm:X.mg x=none) (hv:bootBuiltins x=some u) (r:RelV v u) (hn:x ≠ "__name__" := by decide) (hd:(x==("__debug__" : br))=false :=by decide):QE Γ X (.Name x pos) (zC (.raw v)):=qc (II hg hm hv r hn hd) fun _ _ _=>.raw _
abbrev fB:=Dv->Dv->Mh->ZK->Prop
def p8 (Γ:Gz) (r:R2) (z:fB):Prop:=∀(β:Bz) x y d e M H Q Q',β.P=Γ.P->β.w=Γ.w->β.K=Γ.K->Mz β M H->Rz β M H x d->Rz β M H y e->z d e M Q'->(∀d' M' v H',Ex β M H M' H'->Rz β M' H' v d'->Q' d' M'->Q v H')->r x y H Q
def fN (Γ:Gz) (X:Cx) (f:ap->ap->Rs ap) (z:fB):Prop:=∃r,OpR X f r/\p8 Γ r z
def zOp (z:fB) (pa pb:aI):aI:=fun ρ M Q=>pa ρ M fun d M1=>pb ρ M1 fun e M2=>z d e M2 Q
theorem Bd {r:R2} {z:fB} (hz:p8 Γ r z) {σ:St} {H:Hp} {Q:VK} (h:lE Γ (zOp z pa pb) σ H Q):Cj r (lE Γ pa) (lE Γ pb) σ H Q :=by
 obtain ⟨β,ρ,M,Q',zr,h,q⟩:=h
 exact ⟨β,ρ,M,_,zr,h,fun d M1 v H1 x1 r1 h1=>⟨β,ρ,M1,_,zr.step x1,h1,fun e M2 u H2 x2 r2 h2=>hz β v u d e M2 H2 Q Q' zr.eP zr.ew zr.eK x2.mz (r1.ex x2) r2 h2 fun d' M' v' H' x3 r3 q3=>q _ _ _ _ (x1.trans (x2.trans x3)) r3 q3⟩⟩
theorem bF {op:Operator} {z:fB} (ho:fN Γ X (binaryOp op) z) (ha:QE Γ X a pa) (hb:QE Γ X b pb):QE Γ X (.BinOp a op b pos) (zOp z pa pb) :=by
 obtain ⟨r,h1,h2⟩:=ho
 exact (Pg h1 ha hb).imp fun σ H Q h=>Bd h2 h
theorem fj {op:SO} {z:fB} (ho:fN Γ X (compareOp op) z) (ha:QE Γ X a pa) (hb:QE Γ X b pb) (hm:behindInMarks op b=false):QE Γ X (.Compare a [op] [b] pos) (zOp z pa pb) :=by
 obtain ⟨r,h1,h2⟩:=ho
 exact (IW h1 ha hb hm).imp fun σ H Q h=>Bd h2 h
def zBool (Q:Bool->Mh->Prop):ZK:=fun d M=>match d with | .bl k=>Q k M|_=>False
theorem kU {Q:Bool->Mh->Prop} {d:Dv} {M:Mh} (h:zBool Q d M):∃k,d=.bl k/\Q k M :=by
 unfold zBool at h
 split at h
 ·exact ⟨_,rfl,h⟩
 ·exact h.elim
def zTest (p:aI):b7:=fun ρ M Q=>p ρ M (zBool Q)
theorem xj {p:aI} {t:TE} (i:∀σ H Q,lE Γ p σ H Q->t σ H Q) {σ:St} {H:Hp} {Q:Bool->Hp->Prop} (h:lT Γ (zTest p) σ H Q):Au t σ H Q :=by
 obtain ⟨β,ρ,M,Q',zr,h,q⟩:=h
 refine i _ _ _ ⟨β,ρ,M,_,zr,h,fun d M1 v H1 x1 r1 h1=>?_⟩
 obtain ⟨k,rfl,h2⟩:=kU h1
 exact ⟨k,dP r1,q k M1 H1 x1 h2⟩
theorem aQ {op:SO} {z:fB} (ho:fN Γ X (compareOp op) z) (ha:QE Γ X a pa) (hb:QE Γ X b pb) (hm:behindInMarks op b=false):QT Γ X (.Compare a [op] [b] pos) (zTest (zOp z pa pb)) :=by
 obtain ⟨r,h1,h2⟩:=ho
 exact (IX h1 ha hb hm).imp fun σ H Q h=>xj (fun _ _ _=>Bd h2) h
theorem dQ {e:dL} {p:aI} (h:QE Γ X e p) (he:∀whole,isTrue e X.env whole=(do let v <- whole;standAt e.pos;holding [v] (truthy v)) :=by intro _;rfl):QT Γ X e (zTest p):=
 (KY h he).imp fun σ H Q h=>xj (fun _ _ _ h=>h) h
def zChain (z z':fB) (pa pb pc:aI):aI:=fun ρ M Q=>pa ρ M fun x M1=>pb ρ M1 fun y M2=>z x y M2 (zBool fun k M3=>if k=true then pc ρ M3 fun u M4=>z' y u M4 Q else Q (.bl false) M3)
theorem zJ {r r':R2} {z z':fB} (hz:p8 Γ r z) (UI:p8 Γ r' z') {σ:St} {H:Hp} {Q:VK} (h:lE Γ (zChain z z' pa pb pc) σ H Q):we r r' (lE Γ pa) (lE Γ pb) (lE Γ pc) σ H Q :=by
 obtain ⟨β,ρ,M,Q',zr,h,q⟩:=h
 refine ⟨β,ρ,M,_,zr,h,fun d M1 v H1 x1 r1 h1=>⟨β,ρ,M1,_,zr.step x1,h1,fun e M2 u H2 x2 r2 h2=>hz β v u d e M2 H2 _ _ zr.eP zr.ew zr.eK x2.mz (r1.ex x2) r2 h2 fun d' M3 v' H3 x3 r3 h3=>?_⟩⟩
 obtain ⟨k,rfl,h4⟩:=kU h3
 have kW:=x1.trans (x2.trans x3)
 refine ⟨k,dP r3,?_⟩
 cases k with
 |true=>
  rw [if_pos rfl] at h4 ⊢
  exact ⟨β,ρ,M3,_,zr.step kW,h4,fun f M4 g H4 x4 r4 h5=>UI β u g e f M4 H4 _ _ zr.eP zr.ew zr.eK x4.mz ((r2.ex x3).ex x4) r4 h5 fun d5 M5 v5 H5 x5 r5 q5=>q _ _ _ _ (kW.trans (x4.trans x5)) r5 q5⟩
 |false=>
  rw [if_neg im] at h4 ⊢
  exact q _ _ _ _ kW (.bl _) h4
theorem Gg {op kz:SO} {z z':fB} (ho:fN Γ X (compareOp op) z) (fV:fN Γ X (compareOp kz) z') (ha:QE Γ X a pa) (hb:QE Γ X b pb) (hc:QE Γ X c pc) (hm:lastMarks [op,kz] [b,c]=false :=by with_unfolding_all rfl) :
  QE Γ X (.Compare a [op,kz] [b,c] pos) (zChain z z' pa pb pc) :=by
 obtain ⟨r,h1,h2⟩:=ho
 obtain ⟨r',MZ,M7⟩:=fV
 exact (Fm h1 MZ ha hb hc hm).imp fun σ H Q h=>zJ h2 M7 h
theorem xk {op kz:SO} {z z':fB} (ho:fN Γ X (compareOp op) z) (fV:fN Γ X (compareOp kz) z') (ha:QE Γ X a pa) (hb:QE Γ X b pb) (hc:QE Γ X c pc) (hm:lastMarks [op,kz] [b,c]=false :=by with_unfolding_all rfl) :
  QT Γ X (.Compare a [op,kz] [b,c] pos) (zTest (zChain z z' pa pb pc)) :=by
 obtain ⟨r,h1,h2⟩:=ho
 obtain ⟨r',MZ,M7⟩:=fV
 exact (Fn h1 MZ ha hb hc hm).imp fun σ H Q h=>xj (fun _ _ _=>zJ h2 M7) h
variable {tA qZ:b7} {rest:List dL}
def zAnd (t u:b7):b7:=fun ρ M Q=>t ρ M fun c M1=>if c=true then u ρ M1 Q else Q false M1
def zOr (t u:b7):b7:=fun ρ M Q=>t ρ M fun c M1=>if c=true then Q true M1 else u ρ M1 Q
def zNot (t:b7):b7:=fun ρ M Q=>t ρ M fun c M1=>Q (!c) M1
theorem zK (ha:QT Γ X a tA):QW Γ X (.BoolOp .And [a] pos) tA:=IJ ha
theorem gU (ha:QT Γ X a tA):QW Γ X (.BoolOp .Or [a] pos) tA:=KZ ha
theorem DB (ha:QT Γ X a tA) (hb:QW Γ X (.BoolOp .And (b::rest) pos) qZ):QW Γ X (.BoolOp .And (a::b::rest) pos) (zAnd tA qZ):=
 (K0 ha hb).imp fun σ H Q ⟨β,ρ,M,Q',zr,h,q⟩=>⟨β,ρ,M,_,zr,h,fun k M1 H1 x1 h1=>by
  cases k with
  |true=>rw [if_pos rfl] at h1 ⊢;exact ⟨β,ρ,M1,_,zr.step x1,h1,fun k2 M2 H2 x2 h2=>q _ _ _ (x1.trans x2) h2⟩
  |false=>rw [if_neg im] at h1 ⊢;exact q _ _ _ x1 h1⟩
theorem jE (ha:QT Γ X a tA) (hb:QW Γ X (.BoolOp .Or (b::rest) pos) qZ):QW Γ X (.BoolOp .Or (a::b::rest) pos) (zOr tA qZ):=
 (O5 ha hb).imp fun σ H Q ⟨β,ρ,M,Q',zr,h,q⟩=>⟨β,ρ,M,_,zr,h,fun k M1 H1 x1 h1=>by
  cases k with
  |false=>rw [if_neg im] at h1 ⊢;exact ⟨β,ρ,M1,_,zr.step x1,h1,fun k2 M2 H2 x2 h2=>q _ _ _ (x1.trans x2) h2⟩
  |true=>rw [if_pos rfl] at h1 ⊢;exact q _ _ _ x1 h1⟩
theorem kX (ha:QT Γ X a tA):QT Γ X (.UnaryOp .Not a pos) (zNot tA):=(K1 ha).imp fun σ H Q ⟨β,ρ,M,Q',zr,h,q⟩=>⟨β,ρ,M,_,zr,h,fun k M1 H1 x1 h1=>q _ _ _ x1 h1⟩
theorem QW.pt {e:dL} {t:b7} (h:QW Γ X e t):QT Γ X e t:=PW.pt h
def zAndV (pa pb:aI):aI:=fun ρ M Q=>pa ρ M (zBool fun c M1=>if c=true then pb ρ M1 Q else Q (.bl false) M1)
def zNotV (pa:aI):aI:=fun ρ M Q=>pa ρ M (zBool fun c M1=>Q (.bl (!c)) M1)
theorem jQ {op} (h:QE Γ X a pa):QE Γ X (.BoolOp op [a] pos) pa:=K2 h
theorem gV (ha:QE Γ X a pa) (hb:QE Γ X (.BoolOp .And (b::rest) pos) pb):QE Γ X (.BoolOp .And (a::b::rest) pos) (zAndV pa pb):=
 (K3 ha hb).imp fun σ H Q ⟨β,ρ,M,Q',zr,h,q⟩=>⟨β,ρ,M,_,zr,h,fun d M1 v H1 x1 r1 h1=>by
  obtain ⟨k,rfl,h2⟩:=kU h1
  refine ⟨k,dP r1,?_⟩
  cases k with
  |true=>rw [if_pos rfl] at h2 ⊢;exact ⟨β,ρ,M1,_,zr.step x1,h2,fun d2 M2 v2 H2 x2 r2 h2=>q _ _ _ _ (x1.trans x2) r2 h2⟩
  |false=>rw [if_neg im] at h2 ⊢;exact q _ _ _ _ x1 (.bl _) h2⟩
theorem xl (ha:QE Γ X a pa):QE Γ X (.UnaryOp .Not a pos) (zNotV pa):=(K4 ha).imp fun σ H Q ⟨β,ρ,M,Q',zr,h,q⟩=>⟨β,ρ,M,_,zr,h,fun d M1 v H1 x1 r1 h1=>by
  obtain ⟨k,rfl,h2⟩:=kU h1
  exact ⟨k,dP r1,q _ _ _ _ x1 (.bl _) h2⟩⟩
def zIfE (t:b7) (pa pb:aI):aI:=fun ρ M Q=>t ρ M fun c M1=>if c=true then pa ρ M1 Q else pb ρ M1 Q
theorem Gh (hc:QT Γ X c tA) (ha:QE Γ X a pa) (hb:QE Γ X b pb):QE Γ X (.IfExp c a b pos) (zIfE tA pa pb):=
 (Fd hc ha hb).imp fun σ H Q ⟨β,ρ,M,Q',zr,h,q⟩=>⟨β,ρ,M,_,zr,h,fun k M1 H1 x1 h1=>by
  cases k with
  |true=>rw [if_pos rfl] at h1 ⊢;exact ⟨β,ρ,M1,_,zr.step x1,h1,fun d2 M2 v2 H2 x2 r2 h2=>q _ _ _ _ (x1.trans x2) r2 h2⟩
  |false=>rw [if_neg im] at h1 ⊢;exact ⟨β,ρ,M1,_,zr.step x1,h1,fun d2 M2 v2 H2 x2 r2 h2=>q _ _ _ _ (x1.trans x2) r2 h2⟩⟩
def zNil:gd:=fun _ M Q=>Q [] M
def zCons (p:aI) (r:gd):gd:=fun ρ M Q=>p ρ M fun d M1=>r ρ M1 fun ds M2=>Q (d::ds) M2
variable {es:List dL} {za:gd}
theorem ae:QA Γ X [] zNil:=Lz.imp fun σ H Q ⟨β,ρ,M,Q',zr,h,q⟩=>q [] M [] H (.refl zr.mz) .nil h
theorem aa {e:dL} (ha:QE Γ X e pa) (hr:QA Γ X es za) (hs:starEach (e::es) X.env=(false,eval e X.env)::starEach es X.env :=by rfl):QA Γ X (e::es) (zCons pa za):=
 (IZ ha hr hs).imp fun σ H Q ⟨β,ρ,M,Q',zr,h,q⟩=>⟨β,ρ,M,_,zr,h,fun d M1 v H1 x1 r1 h1=>⟨β,ρ,M1,_,zr.step x1,h1,fun ds M2 vs H2 x2 r2 h2=>q _ _ _ _ (x1.trans x2) (.cons (r1.ex x2) r2) h2⟩⟩
def zTup (p:gd):aI:=fun ρ M Q=>p ρ M fun ds M1=>ds.length<=sizeLine/\Q (.tup ds) M1
def zLst (p:gd):aI:=fun ρ M Q=>p ρ M fun ds M1=>ds.length<=sizeLine/\Q (.lst ds) M1
def zLstP (p:gd):aI:=fun ρ M Q=>p ρ M fun ds M1=>ds.length<=sizeLine/\∀a,M1 a=none->Q (.ptr a) (aw M1 a (.lst ds))
theorem iU {x1} (h:QA Γ X es za):QE Γ X (.Tuple es x1 pos) (zTup za):=(LA h).imp fun σ H Q ⟨β,ρ,M,Q',zr,h,q⟩=>⟨β,ρ,M,_,zr,h,fun ds M1 vs H1 x1 r1 h1=>⟨by rw [r1.len];exact h1.1,fun p hp=>by
  have x2:=Ex.lay x1.mz hp (.tup vs)
  exact q _ _ _ _ (x1.trans x2) (rT (x1.mz.fz hp) aK (r1.ex x2)) h1.2⟩⟩
theorem oG (h:QA Γ X es za):QE Γ X (.List es pos) (zLst za):=(Cu h).imp fun σ H Q ⟨β,ρ,M,Q',zr,h,q⟩=>⟨β,ρ,M,_,zr,h,fun ds M1 vs H1 x1 r1 h1=>⟨by rw [r1.len];exact h1.1,fun p hp=>by
  have x2:=Ex.lay x1.mz hp (.lst vs)
  exact q _ _ _ _ (x1.trans x2) (kT (x1.mz.fz hp) aK (r1.ex x2)) h1.2⟩⟩
theorem ki (h:QA Γ X es za):QE Γ X (.List es pos) (zLstP za):=(Cu h).imp fun σ H Q ⟨β,ρ,M,Q',zr,h,q⟩=>⟨β,ρ,M,_,zr,h,fun ds M1 vs H1 x1 r1 h1=>⟨by rw [r1.len];exact h1.1,fun p hp=>by
  have x2:=Ex.own x1.mz (.inr hp) r1
  exact q _ _ _ _ (x1.trans x2) (.ptr (by rw [updM_same];rfl)) (h1.2 p (x1.mz.free hp))⟩⟩
abbrev uQ:=List Dv->Mh->ZK->Prop
def HS (Γ:Gz) (r:List V->Hp->VK->Prop) (z:uQ):Prop:=∀(β:Bz) xs ds M H Q Q',β.P=Γ.P->β.w=Γ.w->β.K=Γ.K->Mz β M H->aL β M H xs ds->z ds M Q'->(∀d' M' v H',Ex β M H M' H'->Rz β M' H' v d'->Q' d' M'->Q v H')->r xs H Q
def fg (Γ:Gz) (X:Cx) (f:ap) (z:uQ):Prop:=∃r,cq X f r/\HS Γ r z
def zCB (z:uQ) (p:gd):aI:=fun ρ M Q=>p ρ M fun ds M1=>z ds M1 Q
theorem M8 {r:List V->Hp->VK->Prop} {z:uQ} (hz:HS Γ r z) {σ:St} {H:Hp} {Q:VK} (h:lE Γ (zCB z za) σ H Q):LI r (lA Γ za) σ H Q :=by
 obtain ⟨β,ρ,M,Q',zr,h,q⟩:=h
 exact ⟨β,ρ,M,_,zr,h,fun ds M1 vs H1 x1 r1 h1=>hz β vs ds M1 H1 _ _ zr.eP zr.ew zr.eK x1.mz r1 h1 fun d' M' v' H' x2 r2 q2=>q _ _ _ _ (x1.trans x2) r2 q2⟩
variable {st:tz} {Rm:List tz} {p p2:cP} {e:dL} {pe:aI}
def zNext:cP:=fun D ρ M=>D.nx ρ M
def zSeq (p q:cP):cP:=fun D ρ M=>p {D with nx:=q D} ρ M
theorem qss_nil:oF Γ X [] zNext:=IK.imp fun D σ H ⟨β,ρ,M,D',zr,h,r⟩=>r.nx ρ M σ H (.refl zr.mz) zr h
theorem af (h1:QS Γ X st p) (h2:oF Γ X Rm p2):oF Γ X (st::Rm) (zSeq p p2):=(Fe h1 h2).imp fun D σ H ⟨β,ρ,M,D',zr,h,r⟩=>
 ⟨β,ρ,M,_,zr,h,fun cz M' aO H' x iV h'=>⟨β,cz,M',D',iV,h',r.step x⟩,r.rt,r.bk,r.ct⟩
theorem ao (h1:QS Γ X st p):oF Γ X [st] p:=IL h1
def zDrop (p:aI):cP:=fun D ρ M=>p ρ M fun _ M1=>D.nx ρ M1
theorem gv (he:QE Γ X e pe) (hs:swapsWith e none pos.line X.env=pure false :=by rfl):QS Γ X (.Expr e pos) (zDrop pe):=(IM he hs).imp fun D σ H ⟨β,ρ,M,D',zr,h,r⟩=>
 ⟨β,ρ,M,_,zr,h,fun d M1 v H1 x1 r1 h1=>r.nx ρ M1 σ H1 x1.ev (zr.step x1) h1⟩
def zRet (p:aI):cP:=fun D ρ M=>p ρ M D.rt
theorem aN (he:QE Γ X e pe):QS Γ X (.Return (some e) pos) (zRet pe):=(K5 he).imp fun D σ H ⟨β,ρ,M,D',zr,h,r⟩=>⟨β,ρ,M,_,zr,h,fun d M' v H' x r1 h1=>r.rt _ _ _ _ x.ev (zr.ent.trans x.toEy) r1 h1⟩
def zIfS (c:b7) (p q:cP):cP:=fun D ρ M=>c ρ M fun b M1=>if b=true then p D ρ M1 else q D ρ M1
theorem bW {as bs:List tz} {pa pb:cP} (hc:QT Γ X c tA) (ha:oF Γ X as pa) (hb:oF Γ X bs pb):QS Γ X (.If c as bs pos) (zIfS tA pa pb):=(Pa hc ha hb).imp fun D σ H ⟨β,ρ,M,D',zr,h,r⟩=>
 ⟨β,ρ,M,_,zr,h,fun k M1 H1 x1 h1=>by
  cases k with
  |true=>rw [if_pos rfl] at h1 ⊢;exact ⟨β,ρ,M1,D',zr.step x1,h1,r.step x1.ev⟩
  |false=>rw [if_neg im] at h1 ⊢;exact ⟨β,ρ,M1,D',zr.step x1,h1,r.step x1.ev⟩⟩
def zNever:cP:=fun _ _ _=>False
def zgName (i:Nat):b9:=fun d ρ M N=>N (ρ.set i (some d)) M
theorem az {i:Nat} {x:br} (hN:X.N.Nodup) (hi:X.N[i]?=some x) (hx:Loc X.env.scope x) (hf:X.fn x=true\/X.env.scope.names.lookup x=some .local :=by first|exact .inl rfl|exact .inr rfl|assumption):QG Γ X (.Name x pos) (zgName i):=
 (IP hN hi hx hf).imp fun v σ H N ⟨β,d,ρ,M,N',zr,r,h,q⟩=>q _ _ _ _ (.refl zr.mz) (zr.set i r) h
def zgNil:oE:=fun ds ρ M N=>match ds with | []=>N ρ M|_=>False
def zgCons (g:b9) (u:oE):oE:=fun ds ρ M N=>match ds with|d::r=>g d ρ M fun cz M'=>u r cz M' N | []=>False
theorem gw:HR Γ X [] zgNil:=IQ.imp fun vs σ H N ⟨β,ds,ρ,M,N',zr,r,h,q⟩=>by
 unfold zgNil at h
 split at h
 ·have e:vs=[]:=List.length_eq_zero_iff.mp r.len
  exact ⟨e,q _ _ _ _ (.refl zr.mz) zr h⟩
 ·exact h.elim
theorem bT {g:b9} {u:oE} (h1:QG Γ X e g) (h2:HR Γ X es u) (hs:(assignEach (e::es) X.env).map (·.2)=assign e X.env::(assignEach es X.env).map (·.2) :=by rfl):HR Γ X (e::es) (zgCons g u):=
 (Fg h1 h2 hs).imp fun vs σ H N ⟨β,ds,ρ,M,N',zr,r,h,q⟩=>by
  unfold zgCons at h
  split at h
  ·rename_i d rest
   cases vs with
   |nil=>exact absurd r.len (by simp)
   |cons v vs=>exact ⟨v,vs,rfl,β,d,ρ,M,_,zr,r.head,h,fun cz M' aO H' x iV h'=>⟨β,rest,cz,M',N',iV,r.tail.ex x,h',fun a b c d y=>q a b c d (x.trans y)⟩⟩
  ·exact h.elim
def zgTup (n:Nat) (u:oE):b9:=fun d ρ M N=>match d with | .tup ds=>ds.length=n/\u ds ρ M N|_=>False
theorem iW {k:Nat} {u:oE} {n:Nat} (hc:X.calm=true) (h:HR Γ X es u) (hn:(assignEach es X.env).length=n :=by rfl) (jY:(assignEach es X.env).findIdx? (·.1)=none :=by rfl):QG Γ X (.Tuple es k pos) (zgTup n u):=
 (K7 hc h hn jY).imp fun v σ H N ⟨β,d,ρ,M,N',zr,r,h,q⟩=>by
  unfold zgTup at h
  split at h
  ·obtain ⟨a,vs,rfl,m,e,rs⟩:=cC r
   exact ⟨a,vs,rfl,dh.of e,by rw [rs.len];exact h.1,β,_,ρ,M,N',zr,rs,h.2,q⟩
  ·exact h.elim
def zAsg (p:aI) (g:b9):cP:=fun D ρ M=>p ρ M fun d M1=>g d ρ M1 D.nx
theorem PV {g:b9} {D:Ends} {σ:St} {H:Hp} (h:lS Γ (zAsg pe g) D σ H):qt (lE Γ pe) (lG Γ g) D σ H :=by
 obtain ⟨β,ρ,M,D',zr,h,r⟩:=h
 exact ⟨β,ρ,M,_,zr,h,fun d M1 v H1 x1 r1 h1=>⟨β,d,ρ,M1,D'.nx,zr.step x1,r1,h1,fun cz M' aO H' x iV h'=>r.nx _ _ _ _ (x1.trans x).ev iV h'⟩⟩
theorem mH {tg:dL} {g:b9} (he:QE Γ X e pe) (hg:QG Γ X tg g) (hs:swapsWithSole [tg] e pos.line X.env=pure false :=by rfl) (hw:swappedStores [tg] e X.env=pure none :=by rfl)
  (h1:(assignEach [tg] X.env).map (·.2)=[assign tg X.env] :=by rfl):QS Γ X (.Assign [tg] e pos) (zAsg pe g):=(K9 he hg hs hw h1).imp fun D σ H h=>PV h
theorem rW {t:TE} (i:∀σ H Q,lE Γ pe σ H Q->t σ H Q) {n:Nat} {D:Ends} {σ:St} {H:Hp} (h:lS Γ (zAsg pe (zgName n)) D σ H):qt t (mQ n) D σ H :=by
 obtain ⟨β,ρ,M,D',zr,h,r⟩:=h
 exact i _ _ _ ⟨β,ρ,M,_,zr,h,fun d M1 v H1 x1 r1 h1=>r.nx _ _ _ _ x1.ev ((zr.step x1).set n r1) h1⟩
theorem aJ {i:Nat} {x:br} {pos':ut} (hN:X.N.Nodup) (hi:X.N[i]?=some x) (hx:Loc X.env.scope x) (he:QE Γ X e pe) (hs:swapsWith e (some (.Name x pos')) pos.line X.env=pure false :=by rfl) (hf:X.fn x=true\/X.env.scope.names.lookup x=some .local :=by first|exact .inl rfl|exact .inr rfl|assumption) :
  QS Γ X (.Assign [.Name x pos'] e pos) (zAsg pe (zgName i)):=(La hN hi hx he hs hf).imp fun D σ H h=>rW (fun _ _ _ h=>h) h
end
section
variable {X:Cx} {Γ:Gz} {β:Bz}
def ziTup (p:aI):dM:=fun ρ M R=>p ρ M fun d M1=>match d with | .tup ds=>R ds M1|_=>False
def ziLst (p:aI):dM:=fun ρ M R=>p ρ M fun d M1=>match d with | .lst ds=>R ds M1|_=>False
def cD (lo:Int) (n:Nat):List Dv:=(hX n).map fun i=>.int (lo+(i:Nat))
def ziRng1 (p:gd):dM:=fun ρ M R=>p ρ M fun ds M1=>match ds with | [.int j] => -(2 ^ 62)<=j/\j<2 ^ 62/\R (cD 0 j.toNat) M1|_=>False
def ziRng2 (p:gd):dM:=fun ρ M R=>p ρ M fun ds M1=>match ds with | [.int i,.int j]=>(-(2 ^ 62)<=i/\i<2 ^ 62 /\ -(2 ^ 62)<=j/\j<2 ^ 62)/\R (cD i (j - i).toNat) M1|_=>False
theorem m7 {J:It} {vs:List V} {ds:List Dv} {M:Mh} {H:Hp} (r:aL β M H vs ds) (h:∀M' H',Ey M H M' H'->Runs J vs H'):DA β J ds M H:=fun dE M' H' bx x m i=>by
 have q:=h M' H' x i
 rw [<- r.len]
 refine ⟨fun hi=>⟨(q.1 hi).1,fun v ji y=>?_⟩,q.2⟩
 obtain ⟨e,hv⟩:=(q.1 hi).2 v ji y
 subst e
 obtain ⟨d,hd,rd⟩:=r.get' hv
 exact ⟨.refl m,d,hd,(rd.bx bx).ey x⟩
variable {tg l:dL} {p:aI} {pa:gd} {K:ba}
theorem xm (hK:X.K=K) (hl:QE Γ X l p):QI Γ X tg l (ziTup p):=(Ji hK hl).imp fun σ H R ⟨β,ρ,M,R',zr,h,q⟩=>⟨β,ρ,M,_,zr,h,fun d M1 v H1 x1 r1 h1=>by
 revert h1
 split
 ·intro h1
  obtain ⟨a,vs,rfl,m,e,rs⟩:=cC r1
  exact ⟨a,rfl,⟨_,dh.of e⟩,q _ _ _ _ x1 (m7 rs fun M' H' x=>FE (dh.of (x.get m.1 e rfl))) h1⟩
 ·exact fun h=>h.elim⟩
theorem cj (hK:X.K=K) (hl:QE Γ X l p):QI Γ X tg l (ziLst p):=(FG hK hl).imp fun σ H R ⟨β,ρ,M,R',zr,h,q⟩=>⟨β,ρ,M,_,zr,h,fun d M1 v H1 x1 r1 h1=>by
 revert h1
 split
 ·intro h1
  obtain ⟨a,vs,rfl,m,e,rs⟩:=dD r1
  exact ⟨a,rfl,⟨_,bH.of e⟩,q _ _ _ _ x1 (m7 rs fun M' H' x=>CU (bH.of (x.get m.1 e rfl))) h1⟩
 ·exact fun h=>h.elim⟩
theorem oH {lo:Int} {n:Nat} {M:Mh} {H:Hp}:aL β M H ((hX n).map fun i=>V.int (lo+(i:Nat))) (cD lo n):=⟨by simp [cD],fun i v d a b=>by
 unfold cD at b
 rw [c8] at a b
 cases e:(hX n)[i]? with
 |none=>rw [e] at a;cases a
 |some c=>rw [e] at a b;cases a;cases b;exact .int _⟩
theorem cN {xs:List V} {d:Dv} {M:Mh} {H:Hp} (r:aL β M H xs [d]):∃v,xs=[v]/\Rz β M H v d :=by
 match xs,r with
 | [v],r=>exact ⟨v,rfl,r.head⟩
 | [],r=>exact absurd r.len (by simp)
 |_::_::_,r=>exact absurd r.len (by simp)
theorem jq {xs:List V} {d e:Dv} {M:Mh} {H:Hp} (r:aL β M H xs [d,e]):∃v u,xs=[v,u]/\Rz β M H v d/\Rz β M H u e :=by
 match xs,r with
 | [v,u],r=>exact ⟨v,u,rfl,r.head,r.tail.head⟩
 | [],r=>exact absurd r.len (by simp)
 | [_],r=>exact absurd r.len (by simp)
 |_::_::_::_,r=>exact absurd r.len (by simp)
section
variable {e e1 e2:dL} {pr pos:ut}
theorem M9 {σ:St} {H:Hp} {R:It->Hp->Prop} (h:lI Γ (ziRng1 pa) σ H R):Hm (lA Γ pa) σ H R :=by
 obtain ⟨β,ρ,M,R',zr,h,q⟩:=h
 refine ⟨β,ρ,M,_,zr,h,fun ds M1 vs H1 x1 r1 h1=>?_⟩
 revert h1
 split
 ·rintro ⟨b1,b2,h1⟩
  obtain ⟨v,rfl,r⟩:=cN r1
  rw [aM r]
  exact ⟨_,rfl,b1,b2,q _ _ _ _ x1 (m7 oH fun M' H' x=>mX) h1⟩
 ·exact fun h=>h.elim
theorem Nb {σ:St} {H:Hp} {R:It->Hp->Prop} (h:lI Γ (ziRng2 pa) σ H R):Hn (lA Γ pa) σ H R :=by
 obtain ⟨β,ρ,M,R',zr,h,q⟩:=h
 refine ⟨β,ρ,M,_,zr,h,fun ds M1 vs H1 x1 r1 h1=>?_⟩
 revert h1
 split
 ·rintro ⟨b1,h1⟩
  obtain ⟨v,u,rfl,r,r'⟩:=jq r1
  rw [aM r,aM r']
  exact ⟨_,_,rfl,b1,q _ _ _ _ x1 (m7 oH fun M' H' x=>mX) h1⟩
 ·exact fun h=>h.elim
end
def zLoop (g:b9) (tb:cP) (D:g6):List Dv->aC->Mh->Prop
 | [],ρ,M=>D.nx ρ M
 |d::ds,ρ,M=>g d ρ M fun mI M2=>tb {D with nx:=zLoop g tb D ds,ct:=zLoop g tb D ds,bk:=D.nx} mI M2
def zFor (zi:dM) (g:b9) (tb:cP):cP:=fun D ρ M=>zi ρ M fun ds M1=>zLoop g tb D ds ρ M1
def zForM (zi:dM) (g:b9) (tb:Mh->cP):cP:=fun D ρ M=>zi ρ M fun ds M1=>zLoop g (tb M1) D ds ρ M1
theorem Zr.root {M:Mh} {ρ:aC} {σ:St} {H:Hp} (z:Zr Γ β M ρ σ H):Zr ⟨β,M,H⟩ β M ρ σ H:=⟨rfl,rfl,rfl,rfl,fun _ h=>h,z.mz.wf,.refl,z.mz,z.len,z.at'⟩
theorem Zr.DC {M M1:Mh} {ρ Rn:aC} {σ rg:St} {H H1:Hp} (z:Zr Γ β M ρ σ H) (y:Zr ⟨β,M,H⟩ β M1 Rn rg H1):Zr Γ β M1 Rn rg H1:=⟨z.eP,z.ew,z.eK,z.et,z.sub,z.wf,z.ent.trans y.ent,y.mz,y.len,y.at'⟩
theorem PX {zi:dM} {g:b9} {tb:Mh->cP} {t:TS} (hb:∀bP:Gz,bP.P=Γ.P->bP.w=Γ.w->bP.K=Γ.K->bP.tb=Γ.tb->∀D σ H,lS bP (tb bP.M0) D σ H->t D σ H) {tg:TG} (hg:∀bP:Gz,bP.P=Γ.P->bP.w=Γ.w->bP.K=Γ.K->bP.tb=Γ.tb->∀x σ H N,lG bP g x σ H N->tg x σ H N) {D:Ends} {σ:St} {H:Hp} (h:lS Γ (zForM zi g tb) D σ H):Lf (lI Γ zi) tg t D σ H :=by
 obtain ⟨β,ρ,M,D',zr,h,r⟩:=h
 refine ⟨β,ρ,M,_,zr,h,fun ds M1 H1 J x1 it h1=>?_⟩
 have jj:=zr.step x1
 refine ⟨fun i m aO H'=>m=ds.length - i/\i<=ds.length/\∃cz M',Zr ⟨β,M1,H1⟩ β M' cz aO H'/\zLoop g (tb M1) D' (ds.drop i) cz M',⟨ds.length,rfl,lw _,ρ,M1,jj.root,h1⟩,?_⟩
 rintro i m aO H' ⟨rfl,hi,cz,M',iV,h'⟩
 have ev:∀{M2:Mh} {mI:aC} {rh:St} {H2:Hp},Zr ⟨β,M1,H1⟩ β M2 mI rh H2->Ev β M H M2 H2:=fun z=>x1.ev.trans ⟨z.ent.keep,z.ent.new,z.mz⟩
 by_cases bb:i<ds.length
 ·have q:=(it β M' H' .refl iV.ent iV.mz i).1 bb
  refine .inr ⟨q.1,fun rh H2=>∃mI M2,Zr ⟨β,M1,H1⟩ β M2 mI rh H2/\zLoop g (tb M1) D' (ds.drop (i+1)) mI M2,fun rh H2 ⟨mI,M2,UJ,h2⟩=>⟨ds.length - (i+1),by omega,rfl,bb,mI,M2,UJ,h2⟩,fun v ji y=>?_⟩
  obtain ⟨x2,d,hd,rd⟩:=q.2 v ji y
  have e:ds.drop i=d::ds.drop (i+1) :=by
   rw [EO bb]
   rw [ac bb] at hd
   cases hd
   rfl
  rw [e] at h'
  refine hg ⟨β,M1,H1⟩ zr.eP zr.ew zr.eK zr.et _ _ _ _ ⟨β,d,cz,M',_,iV.step x2,rd,h',fun UK M3 nI H3 x3 UL h3=>hb ⟨β,M1,H1⟩ zr.eP zr.ew zr.eK zr.et _ _ _ ⟨β,UK,M3,_,UL,h3,?_⟩⟩
  exact ⟨fun rX M4 DE H4 x4 nM h4=>⟨rX,M4,nM,h4⟩,fun d4 M4 v4 H4 x4 e4 r4 h4=>r.rt _ _ _ _ (x1.ev.trans ⟨e4.keep,e4.new,x4.mz⟩) (jj.ent.trans e4) r4 h4,fun rX M4 DE H4 x4 nM h4=>r.nx _ _ _ _ (ev nM) (jj.DC nM) h4,fun rX M4 DE H4 x4 nM h4=>⟨rX,M4,nM,h4⟩⟩
 ·have e:i=ds.length :=by omega
  subst e
  rw [NO] at h'
  exact .inl ⟨(it β M' H' .refl iV.ent iV.mz _).2 (ce _),r.nx _ _ _ _ (ev iV) (jj.DC iV) h'⟩
def UM (Γ:Gz) (p:Mh->cP):TS:=fun D σ H=>∃bP:Gz,bP.P=Γ.P/\bP.w=Γ.w/\bP.K=Γ.K/\bP.tb=Γ.tb/\lS bP (p bP.M0) D σ H
def UN (Γ:Gz) (p:b9):TG:=fun x σ H N=>∃bP:Gz,bP.P=Γ.P/\bP.w=Γ.w/\bP.K=Γ.K/\bP.tb=Γ.tb/\lG bP p x σ H N
theorem zL {body:List tz} {iter:dL} {zi:dM} {g:b9} {tb:Mh->cP} {pos:ut} (hp:XS (model X.prog X.w) X.A X.env X.xe) (hc:X.calm=true) (hi:QI Γ X tg iter zi)
  (HU:∀(bP:Gz) (M1:Mh),bP.M0=M1->bP.P=Γ.P->bP.w=Γ.w->bP.K=Γ.K->bP.tb=Γ.tb->QG bP X tg g/\oF bP X body (tb M1))
  (hs:∀x,foldedSetIterable iter X.env x=pure x :=by intro _;rfl):QS Γ X (.For tg iter body [] pos) (zForM zi g tb):=
 (Lg (g:=UN Γ g) (tb:=UM Γ tb) hp hc hi (fun pins s σ H v u Q I r h=>by obtain ⟨bP,e1,e2,e3,e4,h⟩:=h;exact (HU bP _ rfl e1 e2 e3 e4).1 pins s σ H v u Q I r h) ⟨fun pins s σ H D I h=>by obtain ⟨bP,e1,e2,e3,e4,h⟩:=h;exact (HU bP _ rfl e1 e2 e3 e4).2 pins s σ H D I h⟩ hs).imp
  fun D σ H h=>PX (fun bP e1 e2 e3 e4 D σ H h=>⟨bP,e1,e2,e3,e4,h⟩) (fun bP e1 e2 e3 e4 x σ H N h=>⟨bP,e1,e2,e3,e4,h⟩) h
theorem dR {body:List tz} {iter:dL} {zi:dM} {g:b9} {tb:cP} {pos:ut} (hp:XS (model X.prog X.w) X.A X.env X.xe) (hc:X.calm=true) (hi:QI Γ X tg iter zi)
  (HU:∀bP:Gz,bP.P=Γ.P->bP.w=Γ.w->bP.K=Γ.K->bP.tb=Γ.tb->QG bP X tg g/\oF bP X body tb)
  (hs:∀x,foldedSetIterable iter X.env x=pure x :=by intro _;rfl):QS Γ X (.For tg iter body [] pos) (zFor zi g tb):=zL (tb:=fun _=>tb) hp hc hi (fun bP M1 _ e1 e2 e3 e4=>HU bP e1 e2 e3 e4) hs
theorem bu {a:dL} {p pos:ut} (hg:Gl X "range") (hm:X.mg "range" = none) (ha:QA Γ X [a] pa) (hs:starEach [a] X.env=[(false,eval a X.env)] :=by rfl):QI Γ X tg (.Call (.Name "range" p) [a] [] pos) (ziRng1 pa):=(Cb hg hm ha hs).imp fun σ H R h=>M9 h
theorem DF {a b:dL} {p pos:ut} (hg:Gl X "range") (hm:X.mg "range" = none) (ha:QA Γ X [a,b] pa) (hs:starEach [a,b] X.env=[(false,eval a X.env),(false,eval b X.env)] :=by rfl) (ky:starEach [b] X.env=[(false,eval b X.env)] :=by rfl) :
  QI Γ X tg (.Call (.Name "range" p) [a,b] [] pos) (ziRng2 pa):=(uf hg hm ha hs ky).imp fun σ H R h=>Nb h
def DG (c:b7) (tb:cP):cP:=fun D ρ M=>∃W:Nat->aC->Mh->Prop,(∃m,W m ρ M)/\∀m ρ M,W m ρ M->
 c ρ M fun b M1=>if b=true then tb {D with nx:=fun cz M'=>∃m',m'<m/\W m' cz M',ct:=fun cz M'=>∃m',m'<m/\W m' cz M',bk:=D.nx} ρ M1 else D.nx ρ M1
theorem JA {c:b7} {tb:cP} {D:Ends} {σ:St} {H:Hp} (h:lS Γ (DG c tb) D σ H):B8 (lT Γ c) (lS Γ tb) D σ H :=by
 obtain ⟨β,ρ,M,D',zr,⟨W,⟨m0,w0⟩,turn⟩,r⟩:=h
 refine ⟨fun m aO H'=>∃cz M',Ev β M H M' H'/\Zr Γ β M' cz aO H'/\W m cz M',⟨m0,ρ,M,.refl zr.mz,zr,w0⟩,?_⟩
 rintro m aO H' ⟨cz,M',x',iV,w'⟩
 refine ⟨β,cz,M',_,iV,turn m cz M' w',fun k M1 H1 x1 h1=>?_⟩
 have DH:=x'.trans x1.ev
 cases k with
 |true=>
  dsimp only at h1 ⊢
  rw [if_pos rfl] at h1 ⊢
  refine ⟨fun rh H2=>∃m',m'<m/\∃mI M2,Ev β M H M2 H2/\Zr Γ β M2 mI rh H2/\W m' mI M2,fun rh H2 h2=>h2,β,cz,M1,_,iV.step x1,h1,?_⟩
  exact ⟨fun rX M4 DE H4 x4 nM ⟨m',hm,w4⟩=>⟨m',hm,rX,M4,DH.trans x4,nM,w4⟩,fun d4 M4 v4 H4 x4 e4 r4 h4=>r.rt _ _ _ _ (DH.trans x4) e4 r4 h4,fun rX M4 DE H4 x4 nM h4=>r.nx _ _ _ _ (DH.trans x4) nM h4,fun rX M4 DE H4 x4 nM ⟨m',hm,w4⟩=>⟨m',hm,rX,M4,DH.trans x4,nM,w4⟩⟩
 |false=>
  dsimp only at h1 ⊢
  rw [if_neg im] at h1 ⊢
  exact r.nx _ _ _ _ DH (iV.step x1) h1
theorem qC {body:List tz} {c:dL} {zc:b7} {tb:cP} {pos:ut} (hp:XS (model X.prog X.w) X.A X.env X.xe) (hc:QT Γ X c zc) (hb:oF Γ X body tb):QS Γ X (.While c body [] pos) (DG zc tb):=(Fh hp hc hb).imp fun D σ H h=>JA h
theorem bQ {g:b9} {tb:cP} {D:g6} (J:Nat->aC->Mh->Prop) {ds:List Dv} {ρ:aC} {M:Mh} (h0:J 0 ρ M)
  (hs:∀i d ρ M (N:aC->Mh->Prop),ds[i]?=some d->J i ρ M->(∀cz M',J (i+1) cz M'->N cz M')->g d ρ M fun mI M2=>tb {D with nx:=N,ct:=N,bk:=D.nx} mI M2)
  (hd:∀ρ M,J ds.length ρ M->D.nx ρ M):zLoop g tb D ds ρ M :=by
 have key:∀(n i:Nat) ρ M,n=ds.length - i->i<=ds.length->J i ρ M->zLoop g tb D (ds.drop i) ρ M :=by
  intro n
  induction n with
  |zero=>
   intro i ρ M e hi h
   have:i=ds.length :=by omega
   subst this
   rw [NO]
   exact hd _ _ h
  |succ n ih=>
   intro i ρ M e hi h
   have bb:i<ds.length :=by omega
   rw [EO bb]
   exact hs i _ ρ M _ (ac bb) h fun ρ M h=>ih (i+1) ρ M (by omega) bb h
 exact key _ 0 ρ M rfl (lw _) h0
end
section
variable {X:Cx} {Γ:Gz} {β:Bz}
def zBlock (tn:Nat) (idx:List Nat) (ρ:aC):aC:=BY tn none++idx.map fun i=>(ρ[i]?).join
theorem Zr.block {M:Mh} {ρ:aC} {σ:St} {H:Hp} (z:Zr Γ β M ρ σ H) (tn:Nat) (idx:List Nat):Zr Γ β M (zBlock tn idx ρ) (bK tn idx σ) H:=⟨z.eP,z.ew,z.eK,z.et,z.sub,z.wf,z.ent,z.mz,by simp [zBlock,bK],fun i d e=>by
 unfold zBlock at e
 unfold bK
 rw [WZ] at e ⊢
 rw [So] at e ⊢
 split at e
 ·rw [Ll] at e
  split at e <;> cases e
 ·rename_i hi
  rw [if_neg hi]
  rw [c8] at e ⊢
  cases q:idx[i - tn]? with
  |none=>rw [q] at e;cases e
  |some j=>
   rw [q] at e
   have e2:ρ[j]?=some (some d) :=by
    simp only [Cs,EM] at e
    cases q2:ρ[j]? with
    |none=>rw [q2] at e;cases e
    |some o=>rw [q2] at e;simp only [XE] at e;rw [e]
   obtain ⟨v,hv,r⟩:=z.at' j d e2
   exact ⟨v,by simp [hv],r⟩⟩
theorem Zr.enter {M:Mh} {ρ:aC} {σ:St} {H:Hp} {D:ag} {o:HO} (z:Zr Γ β M ρ σ H) (hD:H D=none) (ho:oB o=true):Zr Γ (β.add D) M ρ σ (upd H D o):=
 ⟨z.eP,z.ew,z.eK,z.et,fun a h=>db _ (z.sub a h),z.wf,z.ent.over (z.ent.gone hD (by
  cases e:Γ.M0 D with
  |none=>rfl
  |some u=>have:=z.ent.dom D (by rw [e];rfl);rw [z.mz.free hD] at this;cases this)),z.mz.enter hD ho,z.len,fun i d e=>let ⟨v,h,r⟩:=z.at' i d e;⟨v,h,r.enter hD⟩⟩
theorem Zr.over {M:Mh} {ρ:aC} {σ:St} {H:Hp} {D:ag} {o:HO} (z:Zr Γ β M ρ σ H) (hD:D∈β.hid) (ho:oB o=true) (hM:M D=none) (ht:D ∉ β.tb) (h0:Γ.H0 D=none):Zr Γ β M ρ σ (upd H D o):=
 ⟨z.eP,z.ew,z.eK,z.et,z.sub,z.wf,z.ent.over h0,z.mz.over hD ho hM ht,z.len,fun i d e=>let ⟨v,h,r⟩:=z.at' i d e;⟨v,h,r.over hD⟩⟩
abbrev mJ (Γ:Gz) (X:Cx) (ifs:List dL) (t:b7):Prop:=gR X ifs (lT Γ t)
def zNoIf:b7:=fun _ M Q=>Q true M
theorem bz:mJ Γ X [] zNoIf:=Jg.imp fun σ H Q ⟨β,ρ,M,Q',zr,h,q⟩=>q true M H (.refl zr.mz) h
theorem iG {c:dL} {tc:b7} (h:QT Γ X c tc):mJ Γ X [c] tc:=Jh h
def ik (g:b9) (tt:b7) (te:aI):List Dv->aC->Mh->(List Dv->Mh->Prop)->Prop
 | [],_,M,Q=>Q [] M
 |d::ds,τ,M,Q=>g d τ M fun aA M2=>tt aA M2 fun b M3=>if b=true then te aA M3 fun y M4=>ik g tt te ds aA M4 fun ys M5=>Q (y::ys) M5 else ik g tt te ds aA M3 Q
structure Acc (Γ:Gz) (β:Bz) (D:ag) (M1:Mh) (H1:Hp) (aV:aC) (M:Mh) (τ:St) (H:Hp) (acc:List V) (aP:List Dv):Prop where
 ey:Ey M1 H1 M H
 m:M D=none
 zr:Zr Γ (β.add D) M aV τ H
 at':H D=some (.lst acc)
 rs:aL (β.add D) M H acc aP
 h1:H1 D=none
 h0:Γ.H0 D=none
 nt:D ∉ β.tb
theorem Acc.start {D:ag} {M1:Mh} {H1:Hp} {aV:aC} {τ:St} (zr:Zr Γ β M1 aV τ H1) (hD:H1 D=none):Acc Γ β D M1 H1 aV M1 τ (upd H1 D (.lst [])) [] []:=
 ⟨Ey.refl.over hD,zr.mz.free hD,zr.enter hD rfl,aK,.nil,hD,zr.ent.gone hD (by
  cases e:Γ.M0 D with
  |none=>rfl
  |some u=>have:=zr.ent.dom D (by rw [e];rfl);rw [zr.mz.free hD] at this;cases this),zr.mz.Ge hD⟩
section
variable {D:ag} {M1 M M2:Mh} {H1 H H2:Hp} {aV xn:aC} {τ aA:St} {acc:List V} {aP:List Dv}
theorem Acc.step (A:Acc Γ β D M1 H1 aV M τ H acc aP) (x:Ex (β.add D) M H M2 H2) (z:Zr Γ (β.add D) M2 xn aA H2):Acc Γ β D M1 H1 xn M2 aA H2 acc aP:=
 ⟨A.ey.trans x.toEy,x.new D _ A.m A.at',z,x.get A.m A.at' rfl,A.rs.ex x,A.h1,A.h0,A.nt⟩
theorem Acc.snoc (A:Acc Γ β D M1 H1 aV M τ H acc aP) {y:V} {d:Dv} (r:Rz (β.add D) M H y d):Acc Γ β D M1 H1 aV M τ (upd H D (.lst (acc++[y]))) (acc++[y]) (aP++[d]) :=by
 have hD:D∈(β.add D).hid:=ff
 exact ⟨A.ey.over A.h1,A.m,A.zr.over hD rfl A.m A.nt A.h0,aK,⟨by simp [A.rs.len],fun i v d a b=>((A.rs.snoc r).at' i v d a b).over hD⟩,A.h1,A.h0,A.nt⟩
theorem Acc.fz (A:Acc Γ β D M1 H1 aV M τ H acc aP) (m1:Mz β M1 H1):Fz β M D:=⟨A.m,(m1.fz A.h1).2⟩
theorem Acc.mz (A:Acc Γ β D M1 H1 aV M τ H acc aP):Mz β M H:=Mz.sub (β:=β.add D) (dE:=β) rfl rfl rfl rfl (fun a h=>db _ h) A.zr.mz
theorem Acc.items (A:Acc Γ β D M1 H1 aV M τ H acc aP):aL β M H acc aP:=⟨A.rs.len,fun i v d a b=>Rz.sub (β:=β.add D) (dE:=β) rfl rfl rfl (fun a h=>db _ h) (A.rs.at' i v d a b)⟩
theorem Acc.ex (A:Acc Γ β D M1 H1 aV M τ H acc aP):Ex β M1 H1 M H:=⟨A.ey,A.mz⟩
end
def zComp (tn:Nat) (idx:List Nat) (zi:dM) (g:b9) (tt:b7) (te:aI):aI:=fun ρ M Q=>zi ρ M fun ds M1=>ds.length<sizeLine/\ik g tt te ds (zBlock tn idx ρ) M1 fun ys M2=>Q (.lst ys) M2
def zCompP (tn:Nat) (idx:List Nat) (zi:dM) (g:b9) (tt:b7) (te:aI):aI:=fun ρ M Q=>zi ρ M fun ds M1=>ds.length<sizeLine/\ik g tt te ds (zBlock tn idx ρ) M1 fun ys M2=>∀a,M2 a=none->Q (.ptr a) (aw M2 a (.lst ys))
variable {zi:dM} {g:b9} {tt:b7} {te:aI} {tn:Nat} {idx:List Nat}
def oI (Γ:Gz) (β:Bz) (D:ag) (M1:Mh) (H1:Hp) (g:b9) (tt:b7) (te:aI) (ds:List Dv) (Q':List Dv->Mh->Prop) (i m:Nat) (τ:St) (H:Hp):Prop:=
 m=ds.length - i/\i<=ds.length/\∃aV M acc aP,Acc Γ β D M1 H1 aV M τ H acc aP/\acc.length<=i/\ik g tt te (ds.drop i) aV M fun ys M2=>Q' (aP++ys) M2
theorem uR {D:ag} {M1:Mh} {H1:Hp} {ds:List Dv} {Q':List Dv->Mh->Prop} {J:It} (it:DA β J ds M1 H1) (hlen:ds.length<sizeLine) {i m:Nat} {τ:St} {H:Hp} (w:oI Γ β D M1 H1 g tt te ds Q' i m τ H)
  {C:V->St->Hp->Prop} (hC:∀y aA H4 acc,H4 D=some (.lst acc)->acc.length<sizeLine->(∃m',m'<m/\oI Γ β D M1 H1 g tt te ds Q' (i+1) m' aA (upd H4 D (.lst (acc++[y]))))->C y aA H4) :
  (J.stop i H/\∃aV M acc aP,Acc Γ β D M1 H1 aV M τ H acc aP/\acc.length<sizeLine/\Q' aP M) \/
  (J.go i H/\∀x H',J.yld i H x H'->lG Γ g x τ H' fun aA H2=>lT Γ tt aA H2 fun b H3=>if b=true then lE Γ te aA H3 fun y H4=>C y aA H4 else ∃m',m'<m/\oI Γ β D M1 H1 g tt te ds Q' (i+1) m' aA H3) :=by
 obtain ⟨rfl,hi,aV,M,acc,aP,A,Mw,h⟩:=w
 have q:=it (β.add D) M H (.add A.h1) A.ey A.zr.mz i
 by_cases bb:i<ds.length
 ·refine .inr ⟨(q.1 bb).1,fun x H' y=>?_⟩
  obtain ⟨x2,d,hd,rd⟩:=(q.1 bb).2 x H' y
  have e:ds.drop i=d::ds.drop (i+1) :=by
   rw [EO bb]
   rw [ac bb] at hd
   cases hd
   rfl
  rw [e] at h
  have A2:=A.step x2 (A.zr.step x2)
  refine ⟨β.add D,d,aV,M,_,A2.zr,rd,h,fun fU M3 nN H3 x3 z3 h3=>?_⟩
  have A3:=A2.step x3 z3
  refine ⟨β.add D,fU,M3,_,z3,h3,fun b M4 H4 x4 h4=>?_⟩
  have A4:=A3.step x4 (z3.step x4)
  cases b with
  |false=>
   dsimp only at h4 ⊢
   rw [if_neg im] at h4 ⊢
   exact ⟨ds.length - (i+1),by omega,rfl,bb,fU,M4,acc,aP,A4,by omega,h4⟩
  |true=>
   dsimp only at h4 ⊢
   rw [if_pos rfl] at h4 ⊢
   refine ⟨β.add D,fU,M4,_,A4.zr,h4,fun yd M5 yv H5 x5 r5 h5=>?_⟩
   have A5:=A4.step x5 (A4.zr.step x5)
   refine hC yv nN H5 acc A5.at' (by omega) ⟨ds.length - (i+1),by omega,rfl,bb,fU,M5,acc++[yv],aP++[yd],A5.snoc r5,by simp;omega,?_⟩
   have e2:(fun ys M2=>Q' (aP++[yd]++ys) M2)=fun ys M2=>Q' (aP++yd::ys) M2 :=by
    funext ys M2
    rw [KF]
    rfl
   rw [e2]
   exact h5
 ·have e:i=ds.length :=by omega
  subst e
  rw [NO] at h
  refine .inl ⟨q.2 (ce _),aV,M,acc,aP,A,by omega,?_⟩
  have h':Q' (aP++[]) M:=h
  rwa [FM] at h'
theorem rY {D:ag} {M1:Mh} {H1:Hp} {ds:List Dv} {Q':List Dv->Mh->Prop} {aV:aC} {τ:St} (zr:Zr Γ β M1 aV τ H1) (hD:H1 D=none) (h:ik g tt te ds aV M1 Q'):oI Γ β D M1 H1 g tt te ds Q' 0 ds.length τ (upd H1 D (.lst [])):=
 ⟨rfl,lw _,aV,M1,[],[],.start zr hD,ce _,h⟩
theorem xo {σ:St} {H:Hp} {Q:VK} (h:lE Γ (zComp tn idx zi g tt te) σ H Q):pB tn idx (lI Γ zi) (lG Γ g) (lT Γ tt) (lE Γ te) σ H Q :=by
 obtain ⟨β,ρ,M,Q',zr,h,q⟩:=h
 refine ⟨β,ρ,M,_,zr,h,fun ds M1 H1 J x1 it ⟨hlen,h1⟩ D hD=>?_⟩
 have jj:=zr.step x1
 refine ⟨oI Γ β D M1 H1 g tt te ds fun ys M2=>Q' (.lst ys) M2,⟨_,rY (jj.block tn idx) hD h1⟩,fun i m τ H' w=>?_⟩
 rcases uR it hlen w (C:=fun y aA H4=>∃ys m',H4 D=some (.lst ys)/\ys.length<sizeLine/\m'<m/\oI Γ β D M1 H1 g tt te ds (fun ys M2=>Q' (.lst ys) M2) (i+1) m' aA (upd H4 D (.lst (ys++[y])))) (fun y aA H4 acc e hl ⟨m',hm,w'⟩=>⟨acc,m',e,hl,hm,w'⟩) with ⟨hs,aV,M',acc,aP,A,_,hq⟩|z
 ·exact .inl ⟨hs,q _ _ _ _ (x1.trans A.ex) (kT (A.fz jj.mz) A.at' A.items) hq⟩
 ·exact .inr z
theorem tF {σ:St} {H:Hp} {Q:VK} (h:lE Γ (zCompP tn idx zi g tt te) σ H Q):pB tn idx (lI Γ zi) (lG Γ g) (lT Γ tt) (lE Γ te) σ H Q :=by
 obtain ⟨β,ρ,M,Q',zr,h,q⟩:=h
 refine ⟨β,ρ,M,_,zr,h,fun ds M1 H1 J x1 it ⟨hlen,h1⟩ D hD=>?_⟩
 have jj:=zr.step x1
 refine ⟨oI Γ β D M1 H1 g tt te ds fun ys M2=>∀a,M2 a=none->Q' (.ptr a) (aw M2 a (.lst ys)),⟨_,rY (jj.block tn idx) hD h1⟩,fun i m τ H' w=>?_⟩
 rcases uR it hlen w (C:=fun y aA H4=>∃ys m',H4 D=some (.lst ys)/\ys.length<sizeLine/\m'<m/\oI Γ β D M1 H1 g tt te ds (fun ys M2=>∀a,M2 a=none->Q' (.ptr a) (aw M2 a (.lst ys))) (i+1) m' aA (upd H4 D (.lst (ys++[y])))) (fun y aA H4 acc e hl ⟨m',hm,w'⟩=>⟨acc,m',e,hl,hm,w'⟩) with ⟨hs,aV,M',acc,aP,A,_,hq⟩|z
 ·refine .inl ⟨hs,?_⟩
  have UO:D ∉ β.hid:=(A.fz jj.mz).2
  have hM:M' D=none:=A.m
  have mz:Mz β (aw M' D (.lst aP)) H':=by
   have rz:∀{v:V} {d:Dv},Rz (β.add D) M' H' v d->Rz β (aw M' D (.lst aP)) H' v d:=fun r=>by
    have ne:∀a,Fz (β.add D) M' a->Fz β (aw M' D (.lst aP)) a:=fun a f=>⟨by rw [ah (fun z=>f.2 (by rw [z];exact ff))];exact f.1,fun z=>f.2 (db _ z)⟩
    induction r with
    |int i=>exact .int i
    |bl b=>exact .bl b
    |au=>exact .au
    |str z=>exact .str z
    |tup m e hl h ih=>exact .tup (ne _ m) e hl ih
    |lst m e hl h ih=>exact .lst (ne _ m) e hl ih
    |dk m e hk hl h ih=>exact .dk (ne _ m) e hk hl ih
    |dt m e hk hl h ih=>exact .dt (ne _ m) e hk hl ih
    |dI m e m2 e2 hl h ih=>exact .dI (ne _ m) e (ne _ m2) e2 hl ih
    |set m e=>exact .set (ne _ m) e
    |ptr m=>exact .ptr (by unfold aw;split;rfl;exact m)
    |exc m e=>exact .exc (ne _ m) e
    |bI m e=>exact .bI (ne _ m) e
    |cU m e=>exact .cU (ne _ m) e
    |cV e=>exact .cV e
    |raw v=>exact .raw v
   refine ⟨fun a o e=>?_,A.zr.mz.tabs,fun a ha=>A.zr.mz.hids a (db _ ha),fun a o e z=>?_,A.zr.mz.lams⟩
   by_cases ha:a=D
   ·subst ha
    rw [updM_same] at e
    cases e
    exact ⟨acc,A.at',A.rs.len,fun i v d a b=>rz (A.rs.at' i v d a b)⟩
   ·rw [ah ha] at e
    have z:=A.zr.mz.obj a o e
    cases o with
    |lst ds=>obtain ⟨vs,z,l,r⟩:=z;exact ⟨vs,z,l,fun i v d a b=>rz (r i v d a b)⟩
    |dk ks ds=>obtain ⟨vs,z,hk,l,r⟩:=z;exact ⟨vs,z,hk,l,fun i v d a b=>rz (r i v d a b)⟩
    |dt ks ds=>obtain ⟨vs,z,hk,l,r⟩:=z;exact ⟨vs,z,hk,l,fun i v d a b=>rz (r i v d a b)⟩
    |dJ=>exact z
   ·by_cases ha:a=D
    ·subst ha;exact UO z
    ·rw [ah ha] at e
     exact A.zr.mz.apart a o e (db _ z)
  have ey:Ey M1 H1 (aw M' D (.lst aP)) H':=⟨A.ey.keep,fun a h=>by unfold aw;split;rfl;exact A.ey.dom a h,fun a o m e=>by rw [ah (bB e A.h1)];exact A.ey.new a o m e⟩
  exact q _ _ _ _ (x1.trans ⟨ey,mz⟩) (.ptr (by rw [updM_same];rfl)) (hq D hM)
 ·exact .inr z
theorem Tf {P:ag} {zi:dM} {R:It->Hp->Prop} {σ:St} {H:Hp} {ρ:aC} {M:Mh} {R':List Dv->Mh->Prop} (hP:P∈Γ.tb) (zr:Zr Γ β M ρ σ H) (h:zi ρ M R') (q:∀ds M' H' J,Ex β M H M' H'->DA β J ds M' H'->R' ds M'->R J H'):Mb P (lI Γ zi) R σ H :=by
 refine ⟨β,ρ,M,_,zr,h,fun ds M1 H1 J x1 it h1=>?_⟩
 have Hx:P∈β.tb :=by rw [zr.et];exact hP
 refine ⟨x1.mz.tabs P Hx,fun ps t=>?_⟩
 have x2:=Ex.grow x1.mz Hx t
 refine q ds M1 _ J (x1.trans x2) (fun dE M' H' bx ey mz=>it dE M' H' ⟨bx.P,bx.w,bx.K,bx.tb,bx.old,fun a ha=>?_⟩ (x2.toEy.trans ey) mz) h1
 rcases bx.new a ha with z|z
 ·exact .inl z
 ·right
  cases e:H1 a with
  |none=>rfl
  |some o=>obtain ⟨u,hu⟩:=Gb (p:=P) (o:=.dy ps) ⟨o,e⟩;rw [z] at hu;cases hu
def lJ (g:b9) (tt:b7) (te:aI):List Dv->aC->Mh->(Bool->Mh->Prop)->Prop
 | [],_,M,Q=>Q true M
 |d::ds,τ,M,Q=>g d τ M fun aA M2=>tt aA M2 fun b M3=>if b=true then te aA M3 (zBool fun c M4=>if c=false then Q false M4 else lJ g tt te ds aA M4 Q) else lJ g tt te ds aA M3 Q
def zAll (tn:Nat) (idx:List Nat) (zi:dM) (g:b9) (tt:b7) (te:aI):aI:=fun ρ M Q=>zi ρ M fun ds M1=>lJ g tt te ds (zBlock tn idx ρ) M1 fun b M2=>Q (.bl b) M2
theorem PY {P:ag} (hP:P∈Γ.tb) {σ:St} {H:Hp} {Q:VK} (h:lE Γ (zAll tn idx zi g tt te) σ H Q):Mf P tn idx (lI Γ zi) (lG Γ g) (lT Γ tt) (lE Γ te) σ H Q :=by
 obtain ⟨β,ρ,M,Q',zr,h,q⟩:=h
 refine Tf hP zr h fun ds M1 H1 J x1 it h1=>?_
 have jj:=zr.step x1
 refine ⟨fun i m τ H'=>m=ds.length - i/\i<=ds.length/\∃aV M',Ex β M1 H1 M' H'/\Zr Γ β M' aV τ H'/\lJ g tt te (ds.drop i) aV M' fun b M2=>Q' (.bl b) M2,⟨_,rfl,lw _,_,M1,.refl x1.mz,jj.block tn idx,h1⟩,?_⟩
 rintro i m τ H' ⟨rfl,hi,aV,M',x',iV,h'⟩
 have qq:=it β M' H' .refl x'.toEy x'.mz i
 by_cases bb:i<ds.length
 ·refine .inr ⟨(qq.1 bb).1,fun x ji y=>?_⟩
  obtain ⟨x2,d,hd,rd⟩:=(qq.1 bb).2 x ji y
  have e:ds.drop i=d::ds.drop (i+1) :=by
   rw [EO bb]
   rw [ac bb] at hd
   cases hd
   rfl
  rw [e] at h'
  refine ⟨β,d,aV,M',_,iV.step x2,rd,h',fun fU M3 nN H3 x3 z3 h3=>⟨β,fU,M3,_,z3,h3,fun b M4 H4 x4 h4=>?_⟩⟩
  have Nc:=x'.trans (x2.trans (x3.trans x4))
  cases b with
  |false=>
   dsimp only at h4 ⊢
   rw [if_neg im] at h4 ⊢
   exact ⟨ds.length - (i+1),by omega,rfl,bb,fU,M4,Nc,z3.step x4,h4⟩
  |true=>
   dsimp only at h4 ⊢
   rw [if_pos rfl] at h4 ⊢
   refine ⟨β,fU,M4,_,z3.step x4,h4,fun yd M5 yv H5 x5 r5 h5=>?_⟩
   obtain ⟨k,rfl,h6⟩:=kU h5
   refine ⟨k,dP r5,?_⟩
   cases k with
   |false=>
    rw [if_pos rfl] at h6 ⊢
    exact q _ _ _ _ (x1.trans (Nc.trans x5)) (.bl _) h6
   |true=>
    rw [if_neg (by decide)] at h6 ⊢
    exact ⟨ds.length - (i+1),by omega,rfl,bb,fU,M5,Nc.trans x5,(z3.step x4).step x5,h6⟩
 ·have e:i=ds.length :=by omega
  subst e
  rw [NO] at h'
  exact .inl ⟨qq.2 (ce _),q _ _ _ _ (x1.trans x') (.bl _) h'⟩
end
section
variable {X:Cx} {Γ:Gz} {β:Bz} {K:ba}
def zII (f:Int->Int->Dv):fB:=fun d e M Q=>match d,e with | .int i,.int j=>Q (f i j) M|_,_=>False
def zIC (C:Int->Int->Prop) (f:Int->Int->Dv):fB:=fun d e M Q=>match d,e with | .int i,.int j=>C i j/\Q (f i j) M|_,_=>False
theorem oJ {g:Int->Int->V} {f:Int->Int->Dv} (h:∀β M H i j,Rz β M H (g i j) (f i j)):p8 Γ (uh g) (zII f):=fun β x y d e M H Q Q' _ _ _ m rx ry z q=>by
 unfold zII at z
 split at z
 ·exact ⟨_,_,aM rx,aM ry,q _ _ _ _ (.refl m) (h ..) z⟩
 ·exact z.elim
theorem rZ {C:Int->Int->Prop} {g:Int->Int->V} {f:Int->Int->Dv} (h:∀β M H i j,Rz β M H (g i j) (f i j)):p8 Γ (rI C g) (zIC C f):=fun β x y d e M H Q Q' _ _ _ m rx ry z q=>by
 unfold zIC at z
 split at z
 ·exact ⟨_,_,aM rx,aM ry,z.1,q _ _ _ _ (.refl m) (h ..) z.2⟩
 ·exact z.elim
theorem g9:fN Γ X (binaryOp .Add) (zII fun i j=>.int (i+j)):=⟨_,Lk,oJ fun _ _ _ _ _=>.int _⟩
theorem PZ:fN Γ X (binaryOp .Sub) (zII fun i j=>.int (i - j)):=⟨_,Ln,oJ fun _ _ _ _ _=>.int _⟩
theorem pF:fN Γ X (binaryOp .Mult) (zIC As fun i j=>.int (i * j)):=⟨_,Lp,rZ fun _ _ _ _ _=>.int _⟩
theorem DI:fN Γ X (binaryOp .FloorDiv) (zIC Li fun i j=>.int (i / j)):=⟨_,IV,rZ fun _ _ _ _ _=>.int _⟩
theorem ka:fN Γ X (binaryOp .Mod) (zIC (fun _ j=>0<j) fun i j=>.int (i % j)):=⟨_,Lq,rZ fun _ _ _ _ _=>.int _⟩
theorem P0:fN Γ X (binaryOp .Pow) (zIC Lj fun i j=>.int (i ^ j.toNat)):=⟨_,Lr,rZ fun _ _ _ _ _=>.int _⟩
theorem m8:fN Γ X (compareOp .Lt) (zII fun i j=>.bl (decide (i<j))):=⟨_,Pl,oJ fun _ _ _ _ _=>.bl _⟩
theorem Gi:fN Γ X (compareOp .LtE) (zII fun i j=>.bl (decide (i<=j))):=⟨_,Pn,oJ fun _ _ _ _ _=>.bl _⟩
theorem Nf:fN Γ X (compareOp .Gt) (zII fun i j=>.bl (decide (j<i))):=⟨_,Pq,oJ fun _ _ _ _ _=>.bl _⟩
def scalZ (d e:Dv):Option Bool:=match d with
 | .int i=>(match e with | .int j=>some (decide (i=j)) | .au=>some false | .str _=>some false|_=>none)
 | .bl i=>(match e with | .bl j=>some (decide (i=j)) | .au=>some false | .str _=>some false|_=>none)
 | .str i=>(match e with | .str j=>some (decide (i=j)) | .au=>some false | .int _=>some false | .bl _=>some false|_=>none)
 | .au=>(match e with | .au=>some true | .int _=>some false | .bl _=>some false | .str _=>some false|_=>none)
 |_=>none
def zEq:fB:=fun d e M Q=>match scalZ d e with|some b=>Q (.bl b) M|none=>False
def zNe:fB:=fun d e M Q=>match scalZ d e with|some b=>Q (.bl (!b)) M|none=>False
theorem xq {M:Mh} {H:Hp} {x y:V} {d e:Dv} {b:Bool} (rx:Rz β M H x d) (ry:Rz β M H y e) (h:scalZ d e=some b):Fl x y=true/\decide (x=y)=b :=by
 unfold scalZ at h
 split at h
 ·rw [aM rx]
  split at h <;> cases h
  ·rw [aM ry];exact ⟨rfl,by simp⟩
  ·rw [iF ry];exact ⟨rfl,by simp⟩
  ·rw [fA ry];exact ⟨rfl,by simp⟩
 ·rw [dP rx]
  split at h <;> cases h
  ·rw [dP ry];exact ⟨rfl,by simp⟩
  ·rw [iF ry];exact ⟨rfl,by simp⟩
  ·rw [fA ry];exact ⟨rfl,by simp⟩
 ·rw [fA rx]
  split at h <;> cases h
  ·rw [fA ry];exact ⟨rfl,by simp⟩
  ·rw [iF ry];exact ⟨rfl,by simp⟩
  ·rw [aM ry];exact ⟨rfl,by simp⟩
  ·rw [dP ry];exact ⟨rfl,by simp⟩
 ·rw [iF rx]
  split at h <;> cases h
  ·rw [iF ry];exact ⟨rfl,by simp⟩
  ·rw [aM ry];exact ⟨rfl,by simp⟩
  ·rw [dP ry];exact ⟨rfl,by simp⟩
  ·rw [fA ry];exact ⟨rfl,by simp⟩
 ·cases h
theorem il:fN Γ X (compareOp .Eq) zEq:=⟨_,Pj,fun β x y d e M H Q Q' _ _ _ m rx ry z q=>by
 unfold zEq at z
 split at z
 ·rename_i b hb
  obtain ⟨h1,h2⟩:=xq rx ry hb
  exact ⟨h1,by rw [h2];exact q _ _ _ _ (.refl m) (.bl _) z⟩
 ·exact z.elim⟩
theorem xr:fN Γ X (compareOp .NotEq) zNe:=⟨_,Pk,fun β x y d e M H Q Q' _ _ _ m rx ry z q=>by
 unfold zNe at z
 split at z
 ·rename_i b hb
  obtain ⟨h1,h2⟩:=xq rx ry hb
  exact ⟨h1,by rw [h2];exact q _ _ _ _ (.refl m) (.bl _) z⟩
 ·exact z.elim⟩
def isNonD:Dv->Option Bool
 | .au=>some true
 | .raw _=>none
 |_=>some false
theorem DJ {M:Mh} {H:Hp} {x:V} {d:Dv} {b:Bool} (r:Rz β M H x d) (h:isNonD d=some b):decide (x=.au)=b :=by
 cases r <;> simp [isNonD] at h ⊢ <;> exact h
def zIsN (neg:Bool):fB:=fun d e M Q=>match e,isNonD d with | .au,some b=>Q (.bl (if neg then !b else b)) M|_,_=>False
theorem vM:fN Γ X (compareOp .Is) (zIsN false):=⟨_,Lv,fun β x y d e M H Q Q' _ _ _ m rx ry z q=>by
 unfold zIsN at z
 split at z
 ·rename_i b hb
  exact ⟨iF ry,by rw [DJ rx hb];exact q _ _ _ _ (.refl m) (.bl _) z⟩
 ·exact z.elim⟩
def zSS (C:br->br->Prop) (f:br->br->Dv):fB:=fun d e M Q=>match d,e with | .str i,.str j=>C i j/\Q (f i j) M|_,_=>False
mutual
def bL:Dv->Option Dt
 | .int i=>some (.int i)
 | .bl b=>some (.bl b)
 | .au=>some .au
 | .str z=>some (.str z)
 | .tup ds=>(hU ds).map .tup
 | .lst ds=>(hU ds).map .lst
 |_=>none
def hU:List Dv->Option (List Dt)
 | []=>some []
 |d::ds=>match bL d,hU ds with|some a,some as=>some (a::as)|_,_=>none
end
theorem m9:∀{ds:List Dv} {ts:List Dt},hU ds=some ts->ds.length=ts.length/\∀(i:Nat) (d:Dv) (t:Dt),ds[i]?=some d->ts[i]?=some t->bL d=some t
 | [],ts,h=>by simp only [hU,EM] at h;subst h;exact ⟨rfl,fun i d t a=>by simp at a⟩
 |d::ds,ts,h=>by
          simp only [hU] at h
          split at h
          ·rename_i a as h1 h2
           cases h
           obtain ⟨hl,q⟩:=m9 h2
           refine ⟨by simp [hl],fun i e t x y=>?_⟩
           cases i with
           |zero=>simp at x y;subst x y;exact h1
           |succ i=>rw [Fa] at x y;exact q i e t x y
          ·cases h
theorem DK {M:Mh} {H:Hp} {v:V} {d:Dv} (h:Rz β M H v d):∀{t:Dt},bL d=some t->dZ H v t :=by
 induction h with
 |int i=>intro t e;simp only [bL,EM] at e;subst e;exact .int i
 |bl b=>intro t e;simp only [bL,EM] at e;subst e;exact .bl b
 |au=>intro t e;simp only [bL,EM] at e;subst e;exact .au
 |str z=>intro t e;simp only [bL,EM] at e;subst e;exact .str z
 |tup m e hl h ih=>
  intro t q
  simp only [bL,kt] at q
  obtain ⟨ts,q,rfl⟩:=q
  obtain ⟨l2,at2⟩:=m9 q
  refine .tup e (hl.trans l2) fun i x d hx hd=>?_
  have hi:=(bn.mp hd).1
  have:=ac (l:=_) (i:=i) (show i<_ from l2▸hi)
  exact ih i x _ hx this (at2 i _ _ this hd)
 |lst m e hl h ih=>
  intro t q
  simp only [bL,kt] at q
  obtain ⟨ts,q,rfl⟩:=q
  obtain ⟨l2,at2⟩:=m9 q
  refine .lst e (hl.trans l2) fun i x d hx hd=>?_
  have hi:=(bn.mp hd).1
  have:=ac (l:=_) (i:=i) (show i<_ from l2▸hi)
  exact ih i x _ hx this (at2 i _ _ this hd)
 |set m e=>intro t q;simp [bL] at q
 |ptr m=>intro t q;simp [bL] at q
 |exc m e=>intro t q;simp [bL] at q
 |bI m e=>intro t q;simp [bL] at q
 |cU m e=>intro t q;simp [bL] at q
 |cV e=>intro t q;simp [bL] at q
 |dk m e hk hl h ih=>intro t q;simp [bL] at q
 |dt m e hk hl h ih=>intro t q;simp [bL] at q
 |dI m e m2 e2 hl h ih=>intro t q;simp [bL] at q
 |raw v=>intro t q;simp [bL] at q
def now (M:Mh):Dv->Dv
 | .ptr a=>match M a with|some (.lst ds)=>.lst ds|_=>.ptr a
 |d=>d
theorem pG {M:Mh} {H:Hp} {v:V} {d:Dv} (m:Mz β M H) (h:Rz β M H v d) {t:Dt} (e:bL (now M d)=some t):dZ H v t :=by
 cases d with
 |ptr a=>
  simp only [now] at e
  obtain ⟨rfl,hs⟩:=bJ h
  cases q:M a with
  |none=>rw [q] at hs;cases hs
  |some o=>
   rw [q] at e
   cases o with
   |dJ=>simp [bL] at e
   |dk ks es=>simp [bL] at e
   |dt ks es=>simp [bL] at e
   |lst ds=>
    obtain ⟨vs,hv,rs⟩:=m.obj a _ q
    simp only [bL,kt] at e
    obtain ⟨ts,q,rfl⟩:=e
    obtain ⟨l2,at2⟩:=m9 q
    refine .lst hv (rs.len.trans l2) fun i x d hx hd=>?_
    have hi:=(bn.mp hd).1
    have:=ac (l:=_) (i:=i) (show i<_ from l2▸hi)
    exact DK (rs.at' i x _ hx this) (at2 i _ _ this hd)
 |_=>exact DK h e
def mi (neg:Bool):fB:=fun d e M Q=>match bL (now M d),bL (now M e) with|some a,some b=>fW a<=60/\Q (.bl (if neg then !cB a b else cB a b)) M|_,_=>False
theorem zM {neg:Bool}:p8 Γ (FW neg) (mi neg):=fun β x y d e M H Q Q' _ _ _ m rx ry z q=>by
 unfold mi at z
 split at z
 ·rename_i a b h1 h2
  exact ⟨a,b,pG m rx h1,pG m ry h2,z.1,q _ _ _ _ (.refl m) (.bl _) z.2⟩
 ·exact z.elim
theorem sd (hu:X.A.units+64<cLine):fN Γ X (compareOp .Eq) (mi false):=⟨_,MD hu,zM⟩
theorem P1 (hu:X.A.units+64<cLine):fN Γ X (compareOp .NotEq) (mi true):=⟨_,ME hu,zM⟩
def itemsM (M:Mh):Dv->Option (List Dv)
 | .tup ds=>some ds
 | .lst ds=>some ds
 | .ptr a=>match M a with|some (.lst ds)=>some ds|_=>none
 |_=>none
theorem ip {M:Mh} {H:Hp} {x:V} {d:Dv} {ds:List Dv} (m:Mz β M H) (r:Rz β M H x d) (h:itemsM M d=some ds):∃a vs,x=.ref a/\(H a=some (.lst vs)\/H a=some (.tup vs))/\aL β M H vs ds :=by
 cases d with
 |tup es=>cases h;obtain ⟨a,vs,e,_,h,rs⟩:=cC r;exact ⟨a,vs,e,.inr h,rs⟩
 |lst es=>cases h;obtain ⟨a,vs,e,_,h,rs⟩:=dD r;exact ⟨a,vs,e,.inl h,rs⟩
 |ptr a=>
  obtain ⟨rfl,hs⟩:=bJ r
  simp only [itemsM] at h
  split at h
  ·rename_i es q
   cases h
   obtain ⟨vs,hv,rs⟩:=m.obj a _ q
   exact ⟨a,vs,rfl,.inl hv,rs⟩
  ·cases h
 |_=>cases h
theorem JB {M:Mh} {H:Hp} {vs:List V} {ds:List Dv} (rs:aL β M H vs ds) {i:Int} {d:Dv} (h:cY ds i=some d):∃v,cY vs i=some v/\Rz β M H v d :=by
 unfold cY at h ⊢
 rw [rs.len]
 cases e:jK ds.length i with
 |none=>rw [e] at h;cases h
 |some j=>
  rw [e] at h
  obtain ⟨v,hv,r⟩:=rs.get (i:=j) (d:=d) h
  exact ⟨v,hv,r⟩
def Ng (Γ:Gz) (X:Cx) (z:fB):Prop:=∃r,nX X r/\p8 Γ r z
def zIx:fB:=fun d e M Q=>match e with
 | .int i=>(match d with
  | .str z=>z.length<=sizeLine/\(match cY z.cps.toList i with|some c=>Q (.str ⟨#[c]⟩) M|none=>False)
  |_=>match itemsM M d with|some ds=>(match cY ds i with|some r=>Q r M|none=>False)|none=>False)
 |_=>False
theorem ck (hK:X.K=K):Ng Γ X zIx:=⟨_,zx hK,fun β x y d e M H Q Q' _ _ _ m rx ry z q=>by
 unfold zIx at z
 split at z
 ·rename_i i
  have hy:=aM ry
  split at z
  ·rename_i s
   obtain ⟨hz,z⟩:=z
   split at z
   ·rename_i c hc
    exact .inr (.inr ⟨s,i,c,fA rx,hy,hz,hc,q _ _ _ _ (.refl m) (.str _) z⟩)
   ·exact z.elim
  ·split at z
   ·rename_i ds qa
    obtain ⟨a,vs,rfl,ha,rs⟩:=ip m rx qa
    split at z
    ·rename_i r hr
     obtain ⟨v,hv,rv⟩:=JB rs hr
     have z':=q _ _ _ _ (.refl m) rv z
     rcases ha with ha|ha
     ·exact .inl ⟨a,vs,i,v,rfl,hy,bH.of ha,hv,z'⟩
     ·exact .inr (.inl ⟨a,vs,i,v,rfl,hy,dh.of ha,hv,z'⟩)
    ·exact z.elim
   ·exact z.elim
 ·exact z.elim⟩
theorem bq {a b:dL} {pa pb:aI} {z:fB} {pos:ut} (hr:Ng Γ X z) (ha:QE Γ X a pa) (hb:QE Γ X b pb) (hs:zu b):QE Γ X (.Subscript a b pos) (zOp z pa pb) :=by
 obtain ⟨r,h1,h2⟩:=hr
 exact (Pt h1 ha hb hs).imp fun σ H Q h=>Bd h2 h
end
section
variable {X:Cx} {Γ:Gz} {β:Bz} {K:ba}
section
variable {x:br} {p pos:ut} {e:dL} {es:List dL} {za:gd} {id T:String} {z:uQ}
theorem aq (hc:fg Γ X (.builtin id) z) (hg:Gl X x) (hm:X.mg x=none) (hv:bootBuiltins x=some (.builtin id)) (ha:QA Γ X (e::es) za) (hn:x ≠ "__name__" := by decide) (kD:(x==("__debug__" : br))=false :=by decide)
  (he:starEach (e::es) X.env=(false,eval e X.env)::starEach es X.env :=by rfl) (eL:(backTo pos (starEach es X.env)).any (·.1)=false :=by rfl):QE Γ X (.Call (.Name x p) (e::es) [] pos) (zCB z za) :=by
 obtain ⟨r,h1,h2⟩:=hc
 exact (Fu h1 hg hm hv ha hn kD he eL).imp fun σ H Q h=>M8 h2 h
theorem iH (hc:fg Γ X (.type T) z) (hg:Gl X x) (hm:X.mg x=none) (hv:bootBuiltins x=some (.type T)) (ha:QA Γ X (e::es) za) (hn:x ≠ "__name__" := by decide) (kD:(x==("__debug__" : br))=false :=by decide)
  (he:starEach (e::es) X.env=(false,eval e X.env)::starEach es X.env :=by rfl) (eL:(backTo pos (starEach es X.env)).any (·.1)=false :=by rfl):QE Γ X (.Call (.Name x p) (e::es) [] pos) (zCB z za) :=by
 obtain ⟨r,h1,h2⟩:=hc
 exact (Cw h1 hg hm hv ha hn kD he eL).imp fun σ H Q h=>M8 h2 h
end
def z1 (f:Dv->Mh->ZK->Prop):uQ:=fun ds M Q=>match ds with | [d]=>f d M Q|_=>False
def zLenD (d:Dv) (M:Mh) (Q:ZK):Prop:=match d with
 | .str s=>s.length<=sizeLine/\Q (.int s.length) M
 | .bI ns=>Q (.int ns.length) M
 |_=>match itemsM M d with|some ds=>Q (.int ds.length) M|none=>False
theorem dm (hK:X.K=K) (hG:K=Γ.K):fg Γ X (.builtin "len") (z1 zLenD):=⟨_,CV hK,fun β xs ds M H Q Q' _ _ eK m rs z q=>by
 rw [<- hG] at eK
 unfold z1 at z
 split at z
 ·rename_i d
  obtain ⟨x,rfl,r⟩:=cN rs
  unfold zLenD at z
  split at z
  ·rename_i s
   have e:=fA r
   subst e
   exact ⟨_,_,rfl,⟨z.1,rfl⟩,q _ _ _ _ (.refl m) (.int _) z.2⟩
  ·rename_i ns
   obtain ⟨a,rfl,h⟩:=uP r
   rw [eK] at h
   exact ⟨_,ns.length,rfl,.inl ⟨_,h,by simp⟩,q _ _ _ _ (.refl m) (.int _) z⟩
  ·split at z
   ·rename_i ds qa
    obtain ⟨a,vs,rfl,ha,c6⟩:=ip m r qa
    have q':=q _ _ (.int ds.length) _ (.refl m) (.int _) z
    rcases ha with ha|ha
    ·exact ⟨_,ds.length,rfl,.inl ⟨vs,bH.of ha,c6.len.symm⟩,q'⟩
    ·exact ⟨_,ds.length,rfl,.inr ⟨vs,dh.of ha,c6.len.symm⟩,q'⟩
   ·exact z.elim
 ·exact z.elim⟩
def z2I (f:Int->Int->Int):uQ:=fun ds M Q=>match ds with | [.int i,.int j]=>Q (.int (f i j)) M|_=>False
theorem se (hc:X.calm=true):fg Γ X (.builtin "max") (z2I fun i j=>if j > i then j else i):=⟨_,Cm hc,fun β xs ds M H Q Q' _ _ _ m rs z q=>by
 unfold z2I at z
 split at z
 ·obtain ⟨x,y,rfl,r,r'⟩:=jq rs
  rw [aM r,aM r']
  exact ⟨_,_,rfl,q _ _ _ _ (.refl m) (.int _) z⟩
 ·exact z.elim⟩
theorem oK (hc:X.calm=true):fg Γ X (.builtin "min") (z2I fun i j=>if j<i then j else i):=⟨_,Cp hc,fun β xs ds M H Q Q' _ _ _ m rs z q=>by
 unfold z2I at z
 split at z
 ·obtain ⟨x,y,rfl,r,r'⟩:=jq rs
  rw [aM r,aM r']
  exact ⟨_,_,rfl,q _ _ _ _ (.refl m) (.int _) z⟩
 ·exact z.elim⟩
def zAbs (d:Dv) (M:Mh) (Q:ZK):Prop:=match d with | .int i=>Q (.int (if i<0 then -i else i)) M|_=>False
theorem P2:fg Γ X (.builtin "abs") (z1 zAbs):=⟨_,Fq,fun β xs ds M H Q Q' _ _ _ m rs z q=>by
 unfold z1 at z
 split at z
 ·obtain ⟨x,rfl,r⟩:=cN rs
  unfold zAbs at z
  split at z
  ·rw [aM r]
   exact ⟨_,rfl,q _ _ _ _ (.refl m) (.int _) z⟩
  ·exact z.elim
 ·exact z.elim⟩
def zInt (d:Dv) (M:Mh) (Q:ZK):Prop:=match d with | .int i=>Q (.int i) M | .bl k=>Q (.int (if k then 1 else 0)) M|_=>False
theorem Nh:fg Γ X (.type "int") (z1 zInt):=⟨_,Cq,fun β xs ds M H Q Q' _ _ _ m rs z q=>by
 unfold z1 at z
 split at z
 ·obtain ⟨x,rfl,r⟩:=cN rs
  unfold zInt at z
  split at z
  ·rw [aM r]
   exact .inl ⟨_,rfl,q _ _ _ _ (.refl m) (.int _) z⟩
  ·rw [dP r]
   exact .inr ⟨_,rfl,q _ _ _ _ (.refl m) (.int _) z⟩
  ·exact z.elim
 ·exact z.elim⟩
def zListP (d:Dv) (M:Mh) (Q:ZK):Prop:=match itemsM M d with|some ds=>∀a,M a=none->Q (.ptr a) (aw M a (.lst ds))|none=>False
theorem JC (hK:X.K=K):fg Γ X (.type "list") (z1 zListP):=⟨_,vp hK,fun β xs ds M H Q Q' _ _ _ m rs z q=>by
 unfold z1 at z
 split at z
 ·obtain ⟨x,rfl,r⟩:=cN rs
  unfold zListP at z
  split at z
  ·rename_i ds qa
   obtain ⟨a,vs,rfl,ha,c6⟩:=ip m r qa
   refine ⟨a,vs,rfl,ha.imp bH.of dh.of,fun l hl=>?_⟩
   have x2:=Ex.own m (.inr hl) c6
   exact q _ _ _ _ x2 (.ptr (by rw [updM_same];rfl)) (z l (m.free hl))
  ·exact z.elim
 ·exact z.elim⟩
def zTuple (d:Dv) (M:Mh) (Q:ZK):Prop:=match itemsM M d with|some ds=>Q (.tup ds) M|none=>False
theorem zN (hK:X.K=K):fg Γ X (.type "tuple") (z1 zTuple):=⟨_,tm hK,fun β xs ds M H Q Q' _ _ _ m rs z q=>by
 unfold z1 at z
 split at z
 ·rename_i d
  obtain ⟨x,rfl,r⟩:=cN rs
  unfold zTuple at z
  split at z
  ·rename_i ds qa
   obtain ⟨a,vs,rfl,ha,c6⟩:=ip m r qa
   refine ⟨a,vs,rfl,?_⟩
   rcases ha with ha|ha
   ·refine .inl ⟨bH.of ha,fun l hl=>?_⟩
    have x2:=Ex.lay m hl (.tup vs)
    exact q _ _ _ _ x2 (rT (m.fz hl) aK (c6.ex x2)) z
   ·refine .inr ⟨dh.of ha,?_⟩
    have f:Fz β M a :=by
     cases d with
     |tup es=>obtain ⟨b,us,e,f,_⟩:=cC r;cases e;exact f
     |lst es=>obtain ⟨b,us,e,f,_⟩:=dD r;cases e;exact f
     |ptr b=>
      obtain ⟨e,hs⟩:=bJ r
      cases e
      cases q2:M a with
      |none=>rw [q2] at hs;cases hs
      |some o=>have:=m.oC ha rfl;rw [q2] at this;cases this
     |_=>cases qa
    exact q _ _ _ _ (.refl m) (rT f ha c6) z
  ·exact z.elim
 ·exact z.elim⟩
def iX:List Dv->Option (List Int)
 | []=>some []
 | .int i::ds=>(iX ds).map (i::·)
 |_::_=>none
theorem qD:∀{ds:List Dv} {ns:List Int},iX ds=some ns->ds=ns.map Dv.int
 | [],ns,h=>by simp only [iX,EM] at h;subst h;rfl
 |d::ds,ns,h=>by
          cases d with
          |int i=>
           simp only [iX,kt] at h
           obtain ⟨ms,h,rfl⟩:=h
           rw [qD h]
           rfl
          |_=>simp [iX] at h
theorem lK:∀ns:List Int,iX (ns.map Dv.int)=some ns
 | []=>rfl
 |n::ns=>by simp [iX,lK ns]
theorem kY {M:Mh} {H:Hp}:∀{vs:List V} {ns:List Int},aL β M H vs (ns.map Dv.int)->vs=ns.map V.int
 | [],[],_=>rfl
 | [],_::_,r=>absurd r.len (by simp)
 |_::_,[],r=>absurd r.len (by simp)
 |v::vs,n::ns,r=>by
          rw [nw] at r
          rw [nw,aM r.head,kY r.tail]
theorem ng {M:Mh} {H:Hp}:∀{ns:List Int},aL β M H (ns.map V.int) (ns.map Dv.int)
 | []=>.nil
 |n::ns=>.cons (.int _) ng
def intsM (M:Mh) (d:Dv):Option (List Int):=match d with | .set ns=>some ns|_=>(itemsM M d).bind iX
def zSorted (d:Dv) (M:Mh) (Q:ZK):Prop:=match intsM M d with|some ns=>ns.length<64/\Q (.lst ((sortI ns).map .int)) M|none=>False
theorem uS {M:Mh} {H:Hp} {x:V} {d:Dv} {ns:List Int} (m:Mz β M H) (r:Rz β M H x d) (h:(itemsM M d).bind iX=some ns):∃a,x=.ref a/\(H a=some (.lst (ns.map V.int))\/H a=some (.tup (ns.map V.int))) :=by
 cases e:itemsM M d with
 |none=>rw [e] at h;cases h
 |some ds=>
  rw [e] at h
  obtain ⟨a,vs,rfl,ha,rs⟩:=ip m r e
  have e2:=qD (ns:=ns) h
  subst e2
  have:=kY rs
  subst this
  exact ⟨a,rfl,ha⟩
theorem Gj (hP:X.prog=Γ.P) (hw:X.w=Γ.w) (hK:X.K=K) (hc:X.calm=true):fg Γ X (.builtin "sorted") (z1 zSorted):=⟨_,vq hP hw hK hc,fun β xs ds M H Q Q' eP ew _ m rs z q=>by
 unfold z1 at z
 split at z
 ·rename_i d
  obtain ⟨x,rfl,r⟩:=cN rs
  unfold zSorted at z
  split at z
  ·rename_i ns jZ
   have fin:∀l,H l=none->Q (.ref l) (upd H l (.lst ((sortI ns).map V.int))):=fun l hl=>by
    have x2:=Ex.lay m hl (.lst ((sortI ns).map V.int))
    exact q _ _ _ _ x2 (kT (m.fz hl) aK ng) z.2
   unfold intsM at jZ
   split at jZ
   ·cases jZ
    obtain ⟨a,rfl,f,h⟩:=uO r
    rw [eP,ew] at h
    exact ⟨a,_,rfl,.inl h,z.1,fin⟩
   ·obtain ⟨a,rfl,ha⟩:=uS m r jZ
    exact ⟨a,_,rfl,.inr (ha.imp bH.of dh.of),z.1,fin⟩
  ·exact z.elim
 ·exact z.elim⟩
def zSet (d:Dv) (M:Mh) (Q:ZK):Prop:=match (itemsM M d).bind iX with|some ns=>ns.length+1<scanBound/\Q (.set (cG ns)) M|none=>False
theorem HV (hP:X.prog=Γ.P) (hw:X.w=Γ.w) (hK:X.K=K) (hc:X.calm=true):fg Γ X (.type "set") (z1 zSet) :=by
 refine ⟨wX Γ.P Γ.w K,by rw [<- hP,<- hw];exact AX hK hc,fun β xs ds M H Q Q' eP ew _ m rs z q=>?_⟩
 unfold z1 at z
 split at z
 ·rename_i d
  obtain ⟨x,rfl,r⟩:=cN rs
  unfold zSet at z
  split at z
  ·rename_i ns jZ
   obtain ⟨a,rfl,ha⟩:=uS m r jZ
   refine ⟨a,ns,rfl,ha.imp bH.of dh.of,z.1,fun l hl=>?_⟩
   have x2:=Ex.lay m hl (oj Γ.P Γ.w l (cG ns))
   exact q _ _ _ _ x2 (.set (m.fz hl) (by rw [eP,ew];exact aK)) z.2
  ·exact z.elim
 ·exact z.elim
def zLenS (d:Dv) (M:Mh) (Q:ZK):Prop:=match d with | .set ns=>Q (.int ns.length) M|_=>False
theorem Ni (hP:X.prog=Γ.P) (hw:X.w=Γ.w):fg Γ X (.builtin "len") (z1 zLenS) :=by
 refine ⟨HC Γ.P Γ.w,by rw [<- hP,<- hw];exact De,fun β xs ds M H Q Q' eP ew _ m rs z q=>?_⟩
 unfold z1 at z
 split at z
 ·obtain ⟨x,rfl,r⟩:=cN rs
  unfold zLenS at z
  split at z
  ·obtain ⟨a,rfl,f,h⟩:=uO r
   rw [eP,ew] at h
   exact ⟨a,_,rfl,h,q _ _ _ _ (.refl m) (.int _) z⟩
  ·exact z.elim
 ·exact z.elim
def isD (T:String) (M:Mh) (d:Dv):Option Bool:=match d with
 | .int _=>some (T == "int") | .bl _=>some (T == "int" || T == "bool") | .au=>some false | .str _=>some (T == "str") | .tup _=>some (T == "tuple") | .lst _=>some (T == "list") | .ptr a=>(match M a with|some (.lst _)=>some (T == "list")|some .dJ=>some (T == "list")|some _=>some false|none=>none)|_=>none
def tG:List String:=["int","bool","str","tuple","list"]
def zIsInst:uQ:=fun ds M Q=>match ds with | [d,.raw (.ty T)]=>T∈tG/\(match isD T M d with|some b=>Q (.bl b) M|none=>False)|_=>False
theorem Nj {K:ba} {M:Mh} {H:Hp} {x:V} {d:Dv} {T:String} {b:Bool} (m:Mz β M H) (hT:T∈tG) (r:Rz β M H x d) (h:isD T M d=some b):∃t,ie K H x t/\W5 K t (.type T)=some b :=by
 have qb:T = "int" \/ T = "bool" \/ T = "str" \/ T = "tuple" \/ T = "list" := by simpa [tG] using hT
 cases r with
 |int i=>cases h;exact ⟨_,.int i,by rcases qb with rfl|rfl|rfl|rfl|rfl <;> rfl⟩
 |bl i=>cases h;exact ⟨_,.bl i,by rcases qb with rfl|rfl|rfl|rfl|rfl <;> rfl⟩
 |au=>cases h;exact ⟨_,.au,by rcases qb with rfl|rfl|rfl|rfl|rfl <;> rfl⟩
 |str i=>cases h;exact ⟨_,.str i,by rcases qb with rfl|rfl|rfl|rfl|rfl <;> rfl⟩
 |tup f e hl q=>cases h;exact ⟨_,.tup e,by rcases qb with rfl|rfl|rfl|rfl|rfl <;> rfl⟩
 |lst f e hl q=>cases h;exact ⟨_,.lst e,by rcases qb with rfl|rfl|rfl|rfl|rfl <;> rfl⟩
 |ptr hs=>
  rename_i a
  cases q2:M a with
  |none=>rw [q2] at hs;cases hs
  |some o=>
   simp only [isD,q2] at h
   have q:=m.obj a o q2
   cases o with
   |lst ds=>obtain ⟨vs,e,_⟩:=q;cases h;exact ⟨_,.lst e,by rcases qb with rfl|rfl|rfl|rfl|rfl <;> rfl⟩
   |dJ=>obtain ⟨_,_,e,_⟩:=q;cases h;exact ⟨_,.lst e,by rcases qb with rfl|rfl|rfl|rfl|rfl <;> rfl⟩
   |dk ks ds=>obtain ⟨vs,e,_⟩:=q;cases h;exact ⟨_,.dK e,by rcases qb with rfl|rfl|rfl|rfl|rfl <;> rfl⟩
   |dt ks ds=>obtain ⟨vs,e,_⟩:=q;cases h;exact ⟨_,.dT e,by rcases qb with rfl|rfl|rfl|rfl|rfl <;> rfl⟩
 |set f e=>cases h
 |exc f e=>cases h
 |bI f e=>cases h
 |cU f e=>cases h
 |cV e=>cases h
 |raw v=>cases h
 |dk f e _ _ _=>cases h
 |dt f e _ _ _=>cases h
 |dI _ _ _ _ _ _=>cases h
theorem bf (hK:X.K=K):fg Γ X (.builtin "isinstance") zIsInst:=⟨_,wH hK,fun β xs ds M H Q Q' _ _ _ m rs z q=>by
 unfold zIsInst at z
 split at z
 ·obtain ⟨x,y,rfl,r,r'⟩:=jq rs
  rw [Dz r']
  obtain ⟨hT,z⟩:=z
  split at z
  ·rename_i b hb
   obtain ⟨t,ht,hk⟩:=Nj (K:=K) m hT r hb
   exact ⟨_,_,t,b,rfl,ht,hk,q _ _ _ _ (.refl m) (.bl _) z⟩
  ·exact z.elim
 ·exact z.elim⟩
abbrev oM:=Dv->List Dv->Mh->ZK->Prop
def sf (Γ:Gz) (X:Cx) (T id:String) (K:ba) (z:oM):Prop:=∃r,wj X id r/\∀(β:Bz) x xs d ds M H Q Q',β.P=Γ.P->β.w=Γ.w->β.K=Γ.K->Mz β M H->Rz β M H x d->aL β M H xs ds->z d ds M Q'->(∀d' M' v H',Ex β M H M' H'->Rz β M' H' v d'->Q' d' M'->Q v H')->r x xs H Q
def tyZ (T:String) (M:Mh):Dv->Prop
 | .ptr a=>match M a with|some (.lst _)=>T = "list" |some .dJ=>T = "list" |some (.dk _ _)=>T = "dict" |some (.dt _ _)=>T = "dict" |none=>False
 | .lst _=>T = "list"
 | .tup _=>T = "tuple"
 | .str _=>T = "str"
 |_=>False
theorem DL {M:Mh} {H:Hp} {x:V} {d:Dv} {T:String} (m:Mz β M H) (r:Rz β M H x d) (h:tyZ T M d):Hu K T x H :=by
 cases r with
 |str=>exact h
 |lst f e _ _=>exact .inl ⟨h,_,bH.of e⟩
 |tup f e _ _=>exact .inr (.inl ⟨h,.inr ⟨_,e⟩⟩)
 |ptr hs=>
  rename_i a
  cases q2:M a with
  |none=>rw [q2] at hs;cases hs
  |some o=>
   simp only [tyZ,q2] at h
   have q:=m.obj a o q2
   cases o with
   |lst ds=>obtain ⟨vs,e,_⟩:=q;exact .inl ⟨h,_,bH.of e⟩
   |dJ=>obtain ⟨_,_,e,_⟩:=q;exact .inl ⟨h,_,bH.of e⟩
   |dk ks ds=>obtain ⟨vs,e,_⟩:=q;exact .inr (.inr (.inl ⟨h,.inl ⟨_,e⟩⟩))
   |dt ks ds=>obtain ⟨vs,e,_⟩:=q;exact .inr (.inr (.inl ⟨h,.inr ⟨_,e⟩⟩))
 |_=>exact h.elim
def zBM (T:String) (z:oM) (po:aI) (pa:gd):aI:=fun ρ M Q=>po ρ M fun d M1=>tyZ T M1 d/\pa ρ M1 fun ds M2=>z d ds M2 Q
section
variable {o e:dL} {es:List dL} {po:aI} {pa:gd} {name:br} {apos aU:ut} {T id:String} {z:oM}
theorem jF (h:X.K=K) (pat:SS T) (slot:X6 T name id) (kI:typeOf (.builtin id)=pure (.type "method_descriptor")) (hm:sf Γ X T id K z) (ho:QE Γ X o po) (ha:QA Γ X (e::es) pa) (fD:attributeBase o name X.env (eval o X.env)=eval o X.env :=by rfl)
  (mS:((backTo aU (starEach (e::es) X.env)).all (fun x => !x.1) && (backToKw aU (keywordEach [] X.env)).all (fun x=>x.1.isSome)
   && decide ((e::es).length+([]:List No).length+(if ([]:List No).isEmpty then 0 else 1)<30))=true :=by rfl)
  (hline:(apos.endLine==aU.line)=true :=by rfl) (hs:starEach (e::es) X.env=(false,eval e X.env)::starEach es X.env :=by rfl) (iQ:(backTo aU (starEach es X.env)).any (·.1)=false :=by rfl) :
  QE Γ X (.Call (.Attribute o name apos) (e::es) [] aU) (zBM T z po pa) :=by
 obtain ⟨r,h1,h2⟩:=hm
 exact (Mk h pat slot kI h1 ho ha fD mS hline hs iQ).imp fun σ H Q ⟨β,ρ,M,Q',zr,h,q⟩=>⟨β,ρ,M,_,zr,h,fun d M1 v H1 x1 r1 ⟨ht,h1⟩=>⟨DL x1.mz r1 ht,β,ρ,M1,_,zr.step x1,h1,fun ds M2 vs H2 x2 r2 h3=>
  h2 β v vs d ds M2 H2 _ _ zr.eP zr.ew zr.eK x2.mz (r1.ex x2) r2 h3 fun d' M' v' H' x3 r3 q3=>q _ _ _ _ (x1.trans (x2.trans x3)) r3 q3⟩⟩
theorem Nk (h:X.K=K) (pat:SS T) (slot:X6 T name id) (kI:typeOf (.builtin id)=pure (.type "method_descriptor")) (hm:sf Γ X T id K z) (ho:QE Γ X o po) (fD:attributeBase o name X.env (eval o X.env)=eval o X.env :=by rfl) (hline:(apos.endLine==aU.line)=true :=by rfl) :
  QE Γ X (.Call (.Attribute o name apos) [] [] aU) (zBM T z po zNil) :=by
 obtain ⟨r,h1,h2⟩:=hm
 exact (Jj h pat slot kI h1 ho fD hline).imp fun σ H Q ⟨β,ρ,M,Q',zr,h,q⟩=>⟨β,ρ,M,_,zr,h,fun d M1 v H1 x1 r1 ⟨ht,h1⟩=>⟨DL x1.mz r1 ht,
  h2 β v [] d [] M1 H1 _ _ zr.eP zr.ew zr.eK x1.mz r1 .nil h1 fun d' M' v' H' x3 r3 q3=>q _ _ _ _ (x1.trans x3) r3 q3⟩⟩
end
def zAppend:oM:=fun d ds M Q=>match d,ds with | .ptr a,[y]=>(match M a with|some (.lst xs)=>xs.length<sizeLine/\Q .au (aw M a (.lst (xs++[y])))|_=>False)|_,_=>False
theorem iq:sf Γ X "list" "list.append" K zAppend:=⟨_,ur,fun β x xs d ds M H Q Q' _ _ _ m r rs z q=>by
 unfold zAppend at z
 split at z
 ·rename_i a y
  split at z
  ·rename_i es he
   obtain ⟨e,hs⟩:=bJ r
   obtain ⟨v,e2,rv⟩:=cN rs
   subst e e2
   obtain ⟨vs,hv,c6⟩:=m.obj a _ he
   refine ⟨a,vs,v,rfl,rfl,hv,by rw [c6.len];exact z.1,?_⟩
   exact q _ _ _ _ (Ex.own m (.inl hs) (c6.snoc rv)) .au z.2
  ·exact z.elim
 ·exact z.elim⟩
def zExtend:oM:=fun d ds M Q=>match d,ds with | .ptr a,[y]=>(match M a,itemsM M y with|some (.lst xs),some ys=>(∀t,y≠.tup t)/\xs.length+ys.length<=sizeLine/\Q .au (aw M a (.lst (xs++ys)))|_,_=>False)|_,_=>False
theorem Gk:sf Γ X "list" "list.extend" K zExtend:=⟨_,Cz,fun β x xs d ds M H Q Q' _ _ _ m r rs z q=>by
 unfold zExtend at z
 split at z
 ·rename_i a y
  split at z
  ·rename_i es ys he hy
   obtain ⟨e,hs⟩:=bJ r
   obtain ⟨v,e2,rv⟩:=cN rs
   subst e e2
   obtain ⟨vs,hv,c6⟩:=m.obj a _ he
   obtain ⟨b,us,rfl,hb,Ro⟩:=ip m rv hy
   have cF:H b=some (.lst us) :=by
    rcases hb with hb|hb
    ·exact hb
    ·exfalso
     cases y with
     |tup t=>exact z.1 t rfl
     |lst t=>obtain ⟨c,_,e,_,h,_⟩:=dD rv;cases e;rw [hb] at h;cases h
     |ptr c=>
      obtain ⟨e,hs⟩:=bJ rv
      cases e
      cases q2:M b with
      |none=>rw [q2] at hs;cases hs
      |some o=>have:=m.oC hb rfl;rw [q2] at this;cases this
     |_=>cases hy
   refine ⟨a,b,vs,us,rfl,rfl,hv,cF,by rw [c6.len,Ro.len];exact z.2.1,?_⟩
   exact q _ _ _ _ (Ex.own m (.inl hs) (c6.append Ro)) .au z.2.2
  ·exact z.elim
 ·exact z.elim⟩
def zPop:oM:=fun d ds M Q=>match d,ds with | .ptr a,[]=>(match M a with|some (.lst xs)=>(match xs[xs.length - 1]? with|some y=>Q y (aw M a (.lst xs.dropLast))|none=>False)|_=>False)|_,_=>False
theorem aL.dropLast {M:Mh} {H:Hp} {vs:List V} {ds:List Dv} (h:aL β M H vs ds):aL β M H vs.dropLast ds.dropLast :=by
 rw [List.dropLast_eq_take,List.dropLast_eq_take,h.len]
 exact h.take _
theorem P4:sf Γ X "list" "list.pop" K zPop:=⟨_,LX,fun β x xs d ds M H Q Q' _ _ _ m r rs z q=>by
 unfold zPop at z
 split at z
 ·rename_i a
  split at z
  ·rename_i es he
   split at z
   ·rename_i y hy
    obtain ⟨e,hs⟩:=bJ r
    have e2:xs=[]:=List.length_eq_zero_iff.mp rs.len
    subst e e2
    obtain ⟨vs,hv,c6⟩:=m.obj a _ he
    obtain ⟨v,HW,rv⟩:=c6.get hy
    rw [<- c6.len] at HW
    refine ⟨a,vs,v,rfl,rfl,hv,HW,?_⟩
    have x2:=Ex.own m (.inl hs) c6.dropLast
    exact q _ _ _ _ x2 (rv.ex x2) z
   ·exact z.elim
  ·exact z.elim
 ·exact z.elim⟩
def zPopAt:oM:=fun d ds M Q=>match d,ds with | .ptr a,[.int i]=>(match M a with|some (.lst xs) => -(2 ^ 63)<=i/\i<2 ^ 63/\(match seqIndex? i xs.length with|some k=>(match xs[k]? with|some y=>Q y (aw M a (.lst (xs.eraseIdx k)))|none=>False)|none=>False)|_=>False)|_,_=>False
theorem aL.eraseIdx {M:Mh} {H:Hp} {vs:List V} {ds:List Dv} (h:aL β M H vs ds) (k:Nat):aL β M H (vs.eraseIdx k) (ds.eraseIdx k) :=by
 rw [List.eraseIdx_eq_take_drop_succ,List.eraseIdx_eq_take_drop_succ]
 exact (h.take _).append (h.drop _)
theorem JD:sf Γ X "list" "list.pop" K zPopAt:=⟨_,Fw,fun β x xs d ds M H Q Q' _ _ _ m r rs z q=>by
 unfold zPopAt at z
 split at z
 ·rename_i a i
  split at z
  ·rename_i es he
   obtain ⟨b1,b2,z⟩:=z
   split at z
   ·rename_i k hk
    split at z
    ·rename_i y hy
     obtain ⟨e,hs⟩:=bJ r
     obtain ⟨v0,e2,UP⟩:=cN rs
     subst e e2
     rw [aM UP]
     obtain ⟨vs,hv,c6⟩:=m.obj a _ he
     obtain ⟨v,HW,rv⟩:=c6.get hy
     refine ⟨a,vs,i,k,v,rfl,rfl,hv,b1,b2,by rw [c6.len];exact hk,HW,?_⟩
     have x2:=Ex.own m (.inl hs) (c6.eraseIdx k)
     exact q _ _ _ _ x2 (rv.ex x2) z
    ·exact z.elim
   ·exact z.elim
  ·exact z.elim
 ·exact z.elim⟩
def zSetI:Dv->Dv->Dv->Mh->(Mh->Prop)->Prop:=fun o i v M N=>match o,i with | .ptr a,.int k=>(match M a with|some (.lst xs)=>(match jK xs.length k with|some j=>N (aw M a (.lst (xs.set j v)))|none=>False)|_=>False)|_,_=>False
def zgSub (po pi:aI):b9:=fun d ρ M N=>po ρ M fun o M1=>pi ρ M1 fun i M2=>zSetI o i d M2 fun M3=>N ρ M3
theorem mK {o i:dL} {po pi:aI} {pos:ut} (ho:QE Γ X o po) (hi:QE Γ X i pi)
  (ha:∀v,assign (.Subscript o i pos) X.env v=(do
   let ov <- holding [v] (eval o X.env)
   let iv <- holding [v,ov] (eval i X.env)
   standAt pos
   holding [v,ov,iv] (setItem ov iv v)
   release [v,ov,iv] []) :=by intro _;rfl):QG Γ X (.Subscript o i pos) (zgSub po pi):=
 (K8 ho hi set_list ha).imp fun v σ H N ⟨β,d,ρ,M,N',zr,r,h,q⟩=>⟨β,ρ,M,_,zr,h,fun od M1 ov H1 x1 r1 h1=>⟨β,ρ,M1,_,zr.step x1,h1,fun V5 M2 iv H2 x2 r2 h2=>by
  unfold zSetI at h2
  split at h2
  ·rename_i a k
   split at h2
   ·rename_i es he
    split at h2
    ·rename_i j hj
     obtain ⟨e,hs⟩:=bJ (r1.ex x2)
     subst e
     rw [aM r2]
     obtain ⟨vs,hv,c6⟩:=x2.mz.obj a _ he
     have x3:=Ex.own x2.mz (.inl hs) (c6.set j ((r.ex x1).ex x2))
     exact ⟨a,vs,k,j,rfl,rfl,hv,by rw [c6.len];exact hj,q _ _ _ _ (x1.trans (x2.trans x3)) (((zr.step x1).step x2).step x3) h2⟩
    ·exact h2.elim
   ·exact h2.elim
  ·exact h2.elim⟩⟩
end
end L2
namespace L2
open PySem PySem.Spec PySem.W PyProof.Rows
abbrev ZX:=ag->Mh->Prop
abbrev cQ:=List Dv->Mh->ZK->ZX->Prop
def aS (P:gc) (w:i0) (K:ba) (tb:di) (S:cQ):Sp:=fun vs H Q E=>∃(β:Bz) (ds:List Dv) (M:Mh) (Q':ZK) (E':ZX),β.P=P/\β.w=w/\β.K=K/\β.tb=tb/\Mz β M H/\aL β M H vs ds/\S ds M Q' E' /\
 (∀d M' v H',Ex β M H M' H'->Rz β M' H' v d->Q' d M'->Q v H')/\∀C M' H',Ex β M H M' H'->E' C M'->E (.ref C) none H'
theorem Rz.nh {β:Bz} {M0 M:Mh} {H:Hp} (dom:∀a,(M0 a).isSome=true->(M a).isSome=true) {v:V} {d:Dv} (h:Rz β M H v d):Pin M0 d->Rz β M0 H v d :=by
 have ne:∀a,Fz β M a->Fz β M0 a:=fun a m=>⟨(by
  cases e:M0 a with
  |none=>rfl
  |some o=>have:=dom a (by rw [e];rfl);rw [m.1] at this;cases this),m.2⟩
 induction h with
 |int i=>exact fun _=>.int i
 |bl b=>exact fun _=>.bl b
 |au=>exact fun _=>.au
 |str z=>exact fun _=>.str z
 |tup m e hl h ih=>
  intro p
  cases p with
  |tup p=>exact .tup (ne _ m) e hl fun i v d a b=>ih i v d a b (p d (ci b))
 |lst m e hl h ih=>
  intro p
  cases p with
  |lst p=>exact .lst (ne _ m) e hl fun i v d a b=>ih i v d a b (p d (ci b))
 |set m e=>exact fun _=>.set (ne _ m) e
 |ptr m=>intro p;cases p with|ptr p=>exact .ptr p
 |exc m e=>exact fun _=>.exc (ne _ m) e
 |bI m e=>exact fun _=>.bI (ne _ m) e
 |cU m e=>exact fun _=>.cU (ne _ m) e
 |cV e=>exact fun _=>.cV e
 |dk m e hk hl h ih=>
  intro p
  cases p with
  |dk p=>exact .dk (ne _ m) e hk hl fun i v d a b=>ih i v d a b (p d (ci b))
 |dt m e hk hl h ih=>
  intro p
  cases p with
  |dt p=>exact .dt (ne _ m) e hk hl fun i v d a b=>ih i v d a b (p d (ci b))
 |dI m e m2 e2 hl h ih=>
  intro p
  cases p with
  |dI p=>exact .dI (ne _ m) e (ne _ m2) e2 hl fun i v d a b=>ih i v d a b (p d (ci b))
 |raw v=>exact fun _=>.raw v
inductive nO (M0 M:Mh):Dv->Dv->Prop where
 |pin {d:Dv} (h:Pin M0 d):nO M0 M d d
 |ptr {a:ag} {ds ds':List Dv} (h0:M0 a=none) (h:M a=some (.lst ds)) (hl:ds.length=ds'.length) (r:∀(i:Nat) (d d':Dv),ds[i]?=some d->ds'[i]?=some d'->nO M0 M d d'):nO M0 M (.ptr a) (.lst ds')
 |tup {ds ds':List Dv} (hl:ds.length=ds'.length) (r:∀(i:Nat) (d d':Dv),ds[i]?=some d->ds'[i]?=some d'->nO M0 M d d'):nO M0 M (.tup ds) (.tup ds')
 |dk {a:ag} {ks:List Key} {ds ds':List Dv} (h0:M0 a=none) (h:M a=some (.dk ks ds)) (hl:ds.length=ds'.length) (r:∀(i:Nat) (d d':Dv),ds[i]?=some d->ds'[i]?=some d'->nO M0 M d d'):nO M0 M (.ptr a) (.dk ks ds')
 |dt {a:ag} {ks:List (List Key)} {ds ds':List Dv} (h0:M0 a=none) (h:M a=some (.dt ks ds)) (hl:ds.length=ds'.length) (r:∀(i:Nat) (d d':Dv),ds[i]?=some d->ds'[i]?=some d'->nO M0 M d d'):nO M0 M (.ptr a) (.dt ks ds')
theorem nO.rz {β:Bz} {M0 M:Mh} {H:Hp} (mz:Mz β M H) (dom:∀a,(M0 a).isSome=true->(M a).isSome=true) {d d':Dv} (h:nO M0 M d d'):∀{v:V},Rz β M H v d->Rz β M0 H v d':=by
 induction h with
 |pin h=>exact fun r=>r.nh dom h
 |ptr h0 h hl r ih=>
  intro v r
  obtain ⟨rfl,_⟩:=bJ r
  obtain ⟨vs,hv,rs⟩:=mz.obj _ _ h
  refine .lst ⟨h0,mz.apart _ _ h⟩ hv (rs.len.trans hl) fun i v d a b=>?_
  obtain ⟨d0,q,rd⟩:=rs.get' a
  exact ih i d0 d q b rd
 |dk h0 h hl r ih=>
  intro v r
  obtain ⟨rfl,_⟩:=bJ r
  obtain ⟨vs,hv,hk,rs⟩:=mz.obj _ _ h
  refine .dk ⟨h0,mz.apart _ _ h⟩ (.inl hv) hk (rs.len.trans hl) fun i v d a b=>?_
  obtain ⟨d0,q,rd⟩:=rs.get' a
  exact ih i d0 d q b rd
 |dt h0 h hl r ih=>
  intro v r
  obtain ⟨rfl,_⟩:=bJ r
  obtain ⟨vs,hv,hk,rs⟩:=mz.obj _ _ h
  refine .dt ⟨h0,mz.apart _ _ h⟩ (.inl hv) hk (rs.len.trans hl) fun i v d a b=>?_
  obtain ⟨d0,q,rd⟩:=rs.get' a
  exact ih i d0 d q b rd
 |tup hl r ih=>
  intro v r
  obtain ⟨a,vs,rfl,f,hv,rs⟩:=cC r
  refine .tup ⟨?_,f.2⟩ hv (rs.len.trans hl) fun i v d a b=>?_
  ·cases e:M0 a with
   |none=>rfl
   |some o=>have:=dom a (by rw [e];rfl);rw [f.1] at this;cases this
  ·obtain ⟨d0,q,rd⟩:=rs.get' a
   exact ih i d0 d q b rd
def mj (M0:Mh) (Q:ZK):ZK:=fun d M=>Q d M\/((∀a o,M0 a=some o->M a=some o)/\∃d',nO M0 M d d'/\Q d' M0)
theorem zO {β:Bz} {M0 M:Mh} {H0 H:Hp} {Q':ZK} {Q:VK} (m0:Mz β M0 H0) (q:∀d M' v H',Ex β M0 H0 M' H'->Rz β M' H' v d->Q' d M'->Q v H') {d:Dv} {v:V} (x:Ex β M0 H0 M H) (r:Rz β M H v d) (h:mj M0 Q' d M):Q v H :=by
 rcases h with h|⟨same,d',rv,h⟩
 ·exact q _ _ _ _ x r h
 ·refine q d' M0 v H ⟨⟨x.keep,fun _ h=>h,fun _ _ h _=>h⟩,fun a o e=>?_,x.mz.tabs,x.mz.hids,m0.apart,x.mz.lams⟩ (rv.rz x.mz x.dom r) h
  have z:=x.mz.obj a o (same a o e)
  have z0:=m0.obj a o e
  cases o with
  |lst ds=>
   obtain ⟨vs,z,rs⟩:=z
   obtain ⟨Rp,_,DM⟩:=z0
   refine ⟨vs,z,rs.len,fun i v d a b=>(rs.at' i v d a b).nh x.dom ?_⟩
   obtain ⟨v0,_,r0⟩:=DM.get b
   exact r0.pin
  |dk ks ds=>
   obtain ⟨vs,z,hk,rs⟩:=z
   obtain ⟨Rp,_,_,DM⟩:=z0
   refine ⟨vs,z,hk,rs.len,fun i v d a b=>(rs.at' i v d a b).nh x.dom ?_⟩
   obtain ⟨v0,_,r0⟩:=DM.get b
   exact r0.pin
  |dt ks ds=>
   obtain ⟨vs,z,hk,rs⟩:=z
   obtain ⟨Rp,_,_,DM⟩:=z0
   refine ⟨vs,z,hk,rs.len,fun i v d a b=>(rs.at' i v d a b).nh x.dom ?_⟩
   obtain ⟨v0,_,r0⟩:=DM.get b
   exact r0.pin
  |dJ=>exact z
def zstart (N:List br) (ds:List Dv):aC:=ds.map some++BY (N.length - ds.length) none
theorem xt {Γ:Gz} {N:List br} {vs:List V} {ds:List Dv} (m:Mz Γ.toBz Γ.M0 Γ.H0) (rs:aL Γ.toBz Γ.M0 Γ.H0 vs ds):Zr Γ Γ.toBz Γ.M0 (zstart N ds) (start N vs) Γ.H0:=⟨rfl,rfl,rfl,rfl,fun _ h=>h,m.wf,.refl,m,by simp [zstart,start,rs.len],fun i d e=>by
 unfold zstart at e
 unfold start
 rw [WZ] at e ⊢
 rw [cb] at e ⊢
 rw [rs.len]
 split at e
 ·rename_i hi
  rw [if_pos hi]
  rw [c8,kt] at e
  obtain ⟨d2,e,e2⟩:=e
  cases e2
  obtain ⟨v,hv,r⟩:=rs.get e
  exact ⟨v,by rw [c8,hv];rfl,r⟩
 ·rw [Ll] at e
  split at e <;> cases e⟩
def zEndsOf (M0:Mh) (Q:ZK):g6:={nx:=fun _ M=>mj M0 Q .au M,rt:=mj M0 Q}
def XR (Γ:Gz) (E':ZX) (E:XK):Prop:=∀C M' H',Ex Γ.toBz Γ.M0 Γ.H0 M' H'->E' C M'->E (.ref C) none H'
section
variable {P:gc} {w:i0} {K:ba} {mg:br->Option ap} {base:ij} {tb:di} {x:br} {st:tz} {f:ag} {fd:l5} {N ps:List br} {k:Nat} {S:cQ}
theorem zP (len:∀ds M Q E,S ds M Q E->ds.length=ps.length):∀vs H Q E,aS P w K tb S vs H Q E->vs.length=ps.length:=fun vs H Q E hS=>by
 obtain ⟨β,ds,M,Q',E',_,_,_,_,m,rs,s,_⟩:=hS
 exact rs.len.trans (len _ _ _ _ s)
theorem d6 (D:Df K mg x st ps f fd) (sc:aT N ps (ai st)) (len:∀ds M Q E,S ds M Q E->ds.length=ps.length)
  (body:∀(A:l8) (outer:List IR) (s:ar) (E:XK) (Γ:Gz) (ds:List Dv) (Q':ZK) (E':ZX),P=Γ.P->w=Γ.w->K=Γ.K->tb=Γ.tb->dB k (A.deeper (envOfC x (ai st) s.heap.objs.size f fd.code))->S ds Γ.M0 Q' E'->
   ∃p,oF Γ (ig bg P w K mg base N x (ai st) f fd.code A outer s Γ.H0 E).ud (eA st) p/\p (zEndsOf Γ.M0 Q') (zstart N ds) Γ.M0):FnOk P w K mg base bg (k+1) f fd ps (aS P w K tb S) :=by
 refine D.fn.Ue sc (zP len) fun A outer s H vs Q E hr h=>?_
 obtain ⟨β,ds,M,Q',E',eP,ew,eK,et,m,rs,hS,q,_⟩:=h
 obtain ⟨p,hp,hq⟩:=body A outer s E ⟨β,M,H⟩ ds Q' E' eP.symm ew.symm eK.symm et.symm hr hS
 refine ⟨_,hp,β,zstart N ds,M,zEndsOf M Q',xt (Γ:=⟨β,M,H⟩) m rs,hq,?_⟩
 have fin:∀d M' v H',Ex β M H M' H'->Rz β M' H' v d->mj M Q' d M'->Q v H':=fun d M' v H' x r h=>zO m q x r h
 exact ⟨fun cz M' aO H' x zr h=>fin _ _ _ _ ⟨zr.ent,x.mz⟩ .au h,fun d M' v H' x e r h=>fin _ _ _ _ ⟨e,x.mz⟩ r h,fun _ _ _ _ _ _ h=>h,fun _ _ _ _ _ _ h=>h⟩
end
section
variable {P:gc} {w:i0} {K:ba} {mg:br->Option ap} {base:ij} {tb:di} {x:br} {st:tz} {f:ag} {fd:l5} {N ps:List br} {k:Nat} {S:cQ}
theorem vN (D:Df K mg x st ps f fd) (sc:aT N ps (ai st)) (len:∀ds M Q E,S ds M Q E->ds.length=ps.length)
  (body:∀(A:l8) (outer:List IR) (s:ar) (E:XK) (Γ:Gz) (ds:List Dv) (Q':ZK) (E':ZX),P=Γ.P->w=Γ.w->K=Γ.K->tb=Γ.tb->XR Γ E' E->dB k (A.deeper (envOfC x (ai st) s.heap.objs.size f fd.code))->S ds Γ.M0 Q' E'->
   ∃p,oF Γ (ig (fX P w) P w K mg base N x (ai st) f fd.code A outer s Γ.H0 E) (eA st) p/\p (zEndsOf Γ.M0 Q') (zstart N ds) Γ.M0):FnOk P w K mg base (fX P w) (k+1) f fd ps (aS P w K tb S) :=by
 refine D.fn.CP sc (zP len) fun A outer s H vs Q E hr h=>?_
 obtain ⟨β,ds,M,Q',E',eP,ew,eK,et,m,rs,hS,q,qx⟩:=h
 obtain ⟨p,hp,hq⟩:=body A outer s E ⟨β,M,H⟩ ds Q' E' eP.symm ew.symm eK.symm et.symm qx hr hS
 refine ⟨_,hp,β,zstart N ds,M,zEndsOf M Q',xt (Γ:=⟨β,M,H⟩) m rs,hq,?_⟩
 have fin:∀d M' v H',Ex β M H M' H'->Rz β M' H' v d->mj M Q' d M'->Q v H':=fun d M' v H' x r h=>zO m q x r h
 exact ⟨fun cz M' aO H' x zr h=>fin _ _ _ _ ⟨zr.ent,x.mz⟩ .au h,fun d M' v H' x e r h=>fin _ _ _ _ ⟨e,x.mz⟩ r h,fun _ _ _ _ _ _ h=>h,fun _ _ _ _ _ _ h=>h⟩
end
section
variable {X:Cx} {Γ:Gz} {β:Bz} {K:ba}
def zCall (S:cQ) (E':ZX) (za:gd):aI:=fun ρ M Q=>za ρ M fun ds M1=>S ds M1 Q E'
theorem XR.none:XR Γ (fun _ _=>False) (fun _ _ _=>False):=fun _ _ _ _ h=>h
theorem DN {M M1 M2:Mh} {H H1 H2:Hp} (ent:Ey M H M1 H1) (sub:∀a,a∈Γ.hid->a∈β.hid) (eP:β.P=Γ.P) (ew:β.w=Γ.w) (eK:β.K=Γ.K) (et:β.tb=Γ.tb) (x:Ex β M1 H1 M2 H2):Ex Γ.toBz M H M2 H2:=⟨ent.trans x.toEy,x.mz.sub eP.symm ew.symm eK.symm et.symm sub⟩
section
variable {CX:lz} {k:Nat} {f:ag} {fd:l5} {ps:List br} {S:cQ} {E:XK} {E':ZX} {x:br} {p pos:ut} {e:dL} {es:List dL} {za:gd} {P:gc} {w:i0} {tb:di}
theorem Nm (hP:P=Γ.P) (hw:w=Γ.w) (hK:K=Γ.K) (ht:tb=Γ.tb) (hE:XR Γ E' E) {σ:St} {H:Hp} {Q:VK} (h:lE Γ (zCall S E' za) σ H Q):Hr (aS P w K tb S) [] E (lA Γ za) σ H Q :=by
 subst hP hw hK ht
 obtain ⟨β,ρ,M,Q',zr,h,q⟩:=h
 refine ⟨β,ρ,M,_,zr,h,fun ds M1 vs H1 x1 r1 h1=>?_⟩
 show aS Γ.P Γ.w Γ.K Γ.tb S (vs++[]) H1 Q E
 rw [FM]
 exact ⟨β,ds,M1,Q',E',zr.eP,zr.ew,zr.eK,zr.et,x1.mz,r1,h1,fun d M2 v H2 x2 r2 h2=>q _ _ _ _ (x1.trans x2) r2 h2,fun C M2 H2 x2 h2=>hE C M2 H2 (DN zr.ent zr.sub zr.eP zr.ew zr.eK zr.et (x1.trans x2)) h2⟩
theorem aE (F:FnOk X.prog X.w X.K X.mg X.base CX k f fd ps (aS P w K tb S)) (hr:dB k X.A) (hg:Gl X x) (hm:X.mg x=some (.ref f)) (hk:Sm X.K (.ref f)=true) (hb:Binds X.K fd ps []) (hx:Passes CX X E) (hP:P=Γ.P) (hw:w=Γ.w) (hK:K=Γ.K) (ht:tb=Γ.tb) (hE:XR Γ E' E)
  (ha:QA Γ X (e::es) za) (kD:(x==("__debug__" : br))=false :=by decide) (he:starEach (e::es) X.env=(false,eval e X.env)::starEach es X.env :=by rfl) (eL:(backTo pos (starEach es X.env)).any (·.1)=false :=by rfl) :
  QE Γ X (.Call (.Name x p) (e::es) [] pos) (zCall S E' za):=(Ja F hr hg hm hk hb .nil hx ha kD he eL).imp fun σ H Q h=>Nm hP hw hK ht hE h
end
def zRaise (C:ag) (E':ZX) (za:gd):cP:=fun _ ρ M=>za ρ M fun ds M1=>ds.length<=sizeLine/\E' C M1
theorem Gm {x:br} {C:ag} {me:dL} {rest:List dL} {za:gd} {uJ:List ap} {B newId xc:String} {E:XK} {E':ZX} {np aU pos:ut} (O:Xo X.K C uJ newId=true) (FB:ExcBaseFacts B newId xc uJ) (hc:X.calm=true) (hR:Raises X E) (hE:XR Γ E' E) (hg:Gl X x) (hm:X.mg x=some (.ref C)) (ha:QA Γ X (me::rest) za)
  (kD:(x==("__debug__" : br))=false :=by decide) (he:starEach (me::rest) X.env=(false,eval me X.env)::starEach rest X.env :=by rfl) (eL:(backTo aU (starEach rest X.env)).any (·.1)=false :=by rfl) :
  QS Γ X (.Raise (some (.Call (.Name x np) (me::rest) [] aU)) none pos) (zRaise C E' za):=(FX O FB hc hR hg hm ha kD he eL).imp fun D σ H ⟨β,ρ,M,D',zr,h,r⟩=>⟨β,ρ,M,_,zr,h,fun ds M1 vs H1 x1 r1 h1=>
 ⟨by rw [r1.len];exact h1.1,hE C M1 H1 (DN zr.ent zr.sub zr.eP zr.ew zr.eK zr.et x1) h1.2⟩⟩
section
variable {tg elt iter:dL} {ifs:List dL} {scope:wl} {pos:ut} {N':List br} {tn:Nat} {idx:List Nat} {zi:dM} {g:b9} {tt:b7} {te:aI} {c P:ag} {k:Nat}
theorem bh (hc:X.calm=true) (B:ay X.N X.env.scope scope N' tn idx) (hi:QI Γ X tg iter zi)
  (hg:Blk X N' scope fun Y=>QG Γ Y tg g) (ht:Blk X N' scope fun Y=>mJ Γ Y ifs tt) (he:Blk X N' scope fun Y=>QE Γ Y elt te)
  (hs:∀x,foldedSetIterable iter X.env x=pure x :=by intro _;rfl):QE Γ X (.ListComp elt [⟨tg,iter,ifs,0⟩] scope pos) (zComp tn idx zi g tt te):=(pV hc B hi hg ht he hs).imp fun σ H Q h=>xo h
theorem iY (hc:X.calm=true) (B:ay X.N X.env.scope scope N' tn idx) (hi:QI Γ X tg iter zi)
  (hg:Blk X N' scope fun Y=>QG Γ Y tg g) (ht:Blk X N' scope fun Y=>mJ Γ Y ifs tt) (he:Blk X N' scope fun Y=>QE Γ Y elt te)
  (hs:∀x,foldedSetIterable iter X.env x=pure x :=by intro _;rfl):QE Γ X (.ListComp elt [⟨tg,iter,ifs,0⟩] scope pos) (zCompP tn idx zi g tt te):=(pV hc B hi hg ht he hs).imp fun σ H Q h=>tF h
theorem sg {i:Nat} {y:br} {py fh:ut} (hN:X.N.Nodup) (cp:X.N[i]?=some y) (hy:X.env.scope.names.lookup y=some .local) (hc:X.calm=true) (B:ay X.N X.env.scope scope N' tn idx) (hi:QI Γ X tg iter zi)
  (hg:Blk X N' scope fun Y=>QG Γ Y tg g) (ht:Blk X N' scope fun Y=>mJ Γ Y ifs tt) (he:Blk X N' scope fun Y=>QE Γ Y elt te)
  (my:swapsWith (.ListComp elt [⟨tg,iter,ifs,0⟩] scope pos) (some (.Name y py)) fh.line X.env=pure true :=by rfl)
  (hs:∀x,foldedSetIterable iter X.env x=pure x :=by intro _;rfl):QS Γ X (.Assign [.Name y py] (.ListComp elt [⟨tg,iter,ifs,0⟩] scope pos) fh) (zAsg (zComp tn idx zi g tt te) (zgName i)):=(rE hN cp hy hc B hi hg ht he my hs).imp fun D σ H h=>rW (fun _ _ _ h=>xo h) h
theorem qd {i:Nat} {y:br} {py fh:ut} (hN:X.N.Nodup) (cp:X.N[i]?=some y) (hy:X.env.scope.names.lookup y=some .local) (hc:X.calm=true) (B:ay X.N X.env.scope scope N' tn idx) (hi:QI Γ X tg iter zi)
  (hg:Blk X N' scope fun Y=>QG Γ Y tg g) (ht:Blk X N' scope fun Y=>mJ Γ Y ifs tt) (he:Blk X N' scope fun Y=>QE Γ Y elt te)
  (my:swapsWith (.ListComp elt [⟨tg,iter,ifs,0⟩] scope pos) (some (.Name y py)) fh.line X.env=pure true :=by rfl)
  (hs:∀x,foldedSetIterable iter X.env x=pure x :=by intro _;rfl):QS Γ X (.Assign [.Name y py] (.ListComp elt [⟨tg,iter,ifs,0⟩] scope pos) fh) (zAsg (zCompP tn idx zi g tt te) (zgName i)):=(rE hN cp hy hc B hi hg ht he my hs).imp fun D σ H h=>rW (fun _ _ _ h=>tF h) h
theorem DP {p wG:ut} (hP:P∈Γ.tb) (hr:dB (k+1) X.A) (hc:X.calm=true) (B:ay X.N X.env.scope scope N' tn idx)
  (h0:scope.names.lookup (".0" : br)=some .local) (uA:scope.isCoroutine=false) (rF:X.env.code=.ref c) (hd:u7 X.base c P) (jg:∃bm ob,X1 X.base mainGlobals X.mg bm ob)
  (uB:Gl X "all") (hm:X.mg "all" = none) (hi:QI Γ X tg iter zi) (hg:qy X N' scope k fun Y=>QG Γ Y tg g) (ht:qy X N' scope k fun Y=>mJ Γ Y ifs tt) (he:qy X N' scope k fun Y=>QE Γ Y elt te)
  (hs:∀x,genFold iter X.env x=pure x :=by intro _;rfl):QE Γ X (.Call (.Name "all" p) [fF elt tg iter ifs scope wG] [] pos) (zAll tn idx zi g tt te):=(Mg hr hc B h0 uA rF hd jg uB hm hi hg ht he hs).imp fun σ H Q h=>PY hP h
end
end
section
variable {X:Cx} {Γ:Gz} {β:Bz} {K:ba}
section
variable {tg elt iter:dL} {ifs:List dL} {scope:wl} {pos:ut} {N':List br} {tn:Nat} {idx:List Nat} {zi:dM} {g:b9} {tt:b7} {te:aI} {c P:ag} {k:Nat}
def HX (g:b9) (tt:b7) (te:aI):List Dv->aC->Mh->(List Int->Mh->Prop)->List Int->Prop
 | [],_,M,Q,acc=>Q acc M
 |d::ds,τ,M,Q,acc=>g d τ M fun aA M2=>tt aA M2 fun b M3=>if b=true then te aA M3 fun y M4=>(match y with | .int k=>acc.length+1<scanBound/\HX g tt te ds aA M4 Q (fi acc k)|_=>False) else HX g tt te ds aA M3 Q acc
end
def bX (xs ys:List Dv):List Dv:=(xs.zip ys).map fun p=>.tup [p.1,p.2]
def gf (n:Nat):List Dv:=(hX n).map fun i=>.int (i:Nat)
theorem oN {J:It} {vs us:List V} {ds es:List Dv} {M:Mh} {H:Hp} (r:aL β M H vs ds) (r2:aL β M H us es) (h:∀M' H',Ey M H M' H'->A8 J (vs.zip us) H'):DA β J (bX ds es) M H:=fun dE M' H' bx x m i=>by
 have q:=h M' H' x i
 have hl:(bX ds es).length=(vs.zip us).length :=by simp [bX,r.len,r2.len]
 rw [hl]
 refine ⟨fun hi=>⟨(q.1 hi).1,fun v ji y=>?_⟩,q.2⟩
 obtain ⟨t,p,ht,rfl,hp,rfl⟩:=(q.1 hi).2 v ji y
 rw [zn] at hp
 obtain ⟨d,hd,rd⟩:=r.get' hp.1
 obtain ⟨e,he,re⟩:=r2.get' hp.2
 have x2:=Ex.lay m ht (.tup [p.1,p.2])
 refine ⟨x2,.tup [d,e],?_,rT (m.fz ht) aK (.cons (((rd.bx bx).ey x).ex x2) (.cons (((re.bx bx).ey x).ex x2) .nil))⟩
 unfold bX
 rw [c8,kt]
 exact ⟨(d,e),by rw [zn];exact ⟨hd,he⟩,rfl⟩
theorem enum_zip (vs:List V):((hX vs.length).map fun i=>(V.int (i:Nat),vs.getD i .au))=((hX vs.length).map fun i=>V.int (i:Nat)).zip vs :=by
 refine Xx fun i=>?_
 by_cases hi:i<vs.length
 ·rw [c8,AC hi]
  symm
  show _=some (V.int (i:Nat),vs.getD i .au)
  rw [zn,c8,AC hi,bi,ac hi]
  exact ⟨rfl,rfl⟩
 ·rw [List.getElem?_eq_none_iff.mpr (by simp;omega),List.getElem?_eq_none_iff.mpr (by simp;omega)]
theorem pH {n:Nat} {M:Mh} {H:Hp}:aL β M H ((hX n).map fun i=>V.int (i:Nat)) (gf n):=⟨by simp [gf],fun i v d a b=>by
 unfold gf at b
 rw [c8] at a b
 cases e:(hX n)[i]? with
 |none=>rw [e] at a;cases a
 |some c=>rw [e] at a b;cases a;cases b;exact .int _⟩
theorem Sq.Np {H:Hp} {a:ag} {xs:List V} (h:H a=some (.lst xs)):Sq true K H a xs :=by
 unfold Sq
 exact bH.of h
theorem Sq.ofT {H:Hp} {a:ag} {xs:List V} (h:H a=some (.tup xs)):Sq false K H a xs :=by
 unfold Sq
 exact dh.of h
section
variable {elts:List dL} {x1:Nat} {tp p pos:ut} {l l1 l2:dL} {pl p1 p2:aI}
def ziEnumK (k:Bool) (p:aI):dM:=fun ρ M R=>p ρ M fun d M1=>match k,d with|false,.tup ds=>R (bX (gf ds.length) ds) M1|true,.lst ds=>R (bX (gf ds.length) ds) M1|_,_=>False
theorem zQ (k:Bool) (hK:X.K=K) (hg:Gl X "enumerate") (hm:X.mg "enumerate" = none) (hl:QE Γ X l pl) (hs:starEach [l] X.env=[(false,eval l X.env)] :=by rfl) :
  QI Γ X (.Tuple elts x1 tp) (.Call (.Name "enumerate" p) [l] [] pos) (ziEnumK k pl):=(Jt k hK hg hm hl hs).imp fun σ H R ⟨β,ρ,M,R',zr,h,q⟩=>⟨β,ρ,M,_,zr,h,fun d M1 v H1 x1 r1 h1=>by
 revert h1
 split
 ·intro h1
  obtain ⟨a,vs,rfl,f,e,rs⟩:=cC r1
  refine ⟨a,rfl,⟨vs,Sq.ofT e⟩,q _ _ _ _ x1 ?_ h1⟩
  rw [<- rs.len]
  exact oN pH rs fun M' H' x=>by rw [<- enum_zip];exact uK (Sq.ofT (x.get f.1 e rfl))
 ·intro h1
  obtain ⟨a,vs,rfl,f,e,rs⟩:=dD r1
  refine ⟨a,rfl,⟨vs,Sq.Np e⟩,q _ _ _ _ x1 ?_ h1⟩
  rw [<- rs.len]
  exact oN pH rs fun M' H' x=>by rw [<- enum_zip];exact uK (Sq.Np (x.get f.1 e rfl))
 ·exact fun h=>h.elim⟩
def seqK (k:Bool) (d:Dv) (R:List Dv->Prop):Prop:=match k,d with|false,.tup ds=>R ds|true,.lst ds=>R ds|_,_=>False
theorem zR {k:Bool} {M:Mh} {H:Hp} {v:V} {d:Dv} {R:List Dv->Prop} (r:Rz β M H v d) (h:seqK k d R):∃a vs ds,v=.ref a/\R ds/\aL β M H vs ds/\∀M' H',Ey M H M' H'->Sq k K H' a vs :=by
 unfold seqK at h
 split at h
 ·obtain ⟨a,vs,rfl,f,e,rs⟩:=cC r
  exact ⟨a,vs,_,rfl,h,rs,fun M' H' x=>Sq.ofT (x.get f.1 e rfl)⟩
 ·obtain ⟨a,vs,rfl,f,e,rs⟩:=dD r
  exact ⟨a,vs,_,rfl,h,rs,fun M' H' x=>Sq.Np (x.get f.1 e rfl)⟩
 ·exact h.elim
def ziZip (k1 k2:Bool) (p1 p2:aI):dM:=fun ρ M R=>p1 ρ M fun d M1=>p2 ρ M1 fun e M2=>seqK k1 d fun xs=>seqK k2 e fun ys=>R (bX xs ys) M2
theorem mL (k1 k2:Bool) (hK:X.K=K) (hg:Gl X "zip") (hm:X.mg "zip" = none) (h1:QE Γ X l1 p1) (h2:QE Γ X l2 p2) (hs:starEach [l1,l2] X.env=(false,eval l1 X.env)::starEach [l2] X.env :=by rfl) (ky:starEach [l2] X.env=[(false,eval l2 X.env)] :=by rfl) :
  QI Γ X (.Tuple elts x1 tp) (.Call (.Name "zip" p) [l1,l2] [] pos) (ziZip k1 k2 p1 p2):=(MO k1 k2 hK hg hm h1 h2 hs ky).imp fun σ H R ⟨β,ρ,M,R',zr,h,q⟩=>⟨β,ρ,M,_,zr,h,fun d M1 v H1 x1 r1 h1=>⟨β,ρ,M1,_,zr.step x1,h1,fun e M2 u H2 x2 r2 h2=>by
 obtain ⟨a,vs,ds,rfl,h3,rs,s1⟩:=zR (K:=K) (r1.ex x2) h2
 obtain ⟨b,us,es,rfl,h4,c6,s2⟩:=zR (K:=K) r2 h3
 exact ⟨a,b,rfl,rfl,⟨vs,s1 _ _ .refl⟩,⟨us,s2 _ _ .refl⟩,q _ _ _ _ (x1.trans x2) (oN rs c6 fun M' H' x=>F5 (s1 _ _ x) (s2 _ _ x)) h4⟩⟩⟩
end
def zRangeL (p:aI):aI:=fun ρ M Q=>p ρ M fun d M1=>match d with | .int j => -(2 ^ 24)<=j/\j<=2 ^ 24/\Q (.lst (gf j.toNat)) M1|_=>False
def zRangeP (p:aI):aI:=fun ρ M Q=>p ρ M fun d M1=>match d with | .int j => -(2 ^ 24)<=j/\j<=2 ^ 24/\∀a,M1 a=none->Q (.ptr a) (aw M1 a (.lst (gf j.toNat)))|_=>False
section
variable {e:dL} {pe:aI} {p p1 p2 pos:ut}
theorem xu (hc:X.calm=true) (hg:Gl X "list") (hm:X.mg "list" = none) (CQ:Gl X "range") (CT:X.mg "range" = none) (he:QE Γ X e pe) (hs:starEach [e] X.env=[(false,eval e X.env)] :=by rfl) :
  QE Γ X (.Call (.Name "list" p) [.Call (.Name "range" p1) [e] [] p2] [] pos) (zRangeL pe):=(oh hc hg hm CQ CT he hs).imp fun σ H Q ⟨β,ρ,M,Q',zr,h,q⟩=>⟨β,ρ,M,_,zr,h,fun d M1 v H1 x1 r1 h1=>by
 revert h1
 split
 ·rintro ⟨b1,b2,h1⟩
  refine ⟨_,aM r1,b1,b2,fun l hl=>?_⟩
  exact q _ _ _ _ (x1.trans (Ex.lay x1.mz hl _)) (kT (x1.mz.fz hl) aK pH) h1
 ·exact fun h=>h.elim⟩
theorem vt (hc:X.calm=true) (hg:Gl X "list") (hm:X.mg "list" = none) (CQ:Gl X "range") (CT:X.mg "range" = none) (he:QE Γ X e pe) (hs:starEach [e] X.env=[(false,eval e X.env)] :=by rfl) :
  QE Γ X (.Call (.Name "list" p) [.Call (.Name "range" p1) [e] [] p2] [] pos) (zRangeP pe):=(oh hc hg hm CQ CT he hs).imp fun σ H Q ⟨β,ρ,M,Q',zr,h,q⟩=>⟨β,ρ,M,_,zr,h,fun d M1 v H1 x1 r1 h1=>by
 revert h1
 split
 ·rename_i j
  rintro ⟨b1,b2,h1⟩
  refine ⟨_,aM r1,b1,b2,fun l hl=>?_⟩
  have x2:=Ex.own x1.mz (.inr hl) (pH (n:=j.toNat) (β:=β) (M:=M1) (H:=H1))
  exact q _ _ _ _ (x1.trans x2) (.ptr (by rw [updM_same];rfl)) (h1 l (x1.mz.free hl))
 ·exact fun h=>h.elim⟩
def zNeg (p:aI):aI:=fun ρ M Q=>p ρ M fun d M1=>match d with | .int i=>Q (.int (-i)) M1|_=>False
theorem Nq (ha:QE Γ X e pe):QE Γ X (.UnaryOp .USub e pos) (zNeg pe):=(Ph Ls ha).imp fun σ H Q ⟨β,ρ,M,Q',zr,h,q⟩=>⟨β,ρ,M,_,zr,h,fun d M1 v H1 x1 r1 h1=>by
 revert h1
 split
 ·intro h1
  exact ⟨_,aM r1,q _ _ _ _ x1 (.int _) h1⟩
 ·exact fun h=>h.elim⟩
def truD (M:Mh):Dv->Option Bool
 | .bl b=>some b
 | .au=>some false
 | .int i=>some (i != 0)
 | .str z=>if z.length<=sizeLine then some ((z.length:Int) != 0) else none
 | .tup ds=>some (!ds.isEmpty)
 | .lst ds=>some (!ds.isEmpty)
 | .ptr a=>match M a with|some (.lst ds)=>some (!ds.isEmpty)|_=>none
 |_=>none
def zTruth (p:aI):b7:=fun ρ M Q=>p ρ M fun d M1=>match truD M1 d with|some b=>Q b M1|none=>False
theorem aL.isEmpty {M:Mh} {H:Hp} {vs:List V} {ds:List Dv} (h:aL β M H vs ds):vs.isEmpty=ds.isEmpty :=by
 have:=h.len
 cases vs <;> cases ds <;> simp_all
theorem JE {M:Mh} {H:Hp} {v:V} {d:Dv} {b:Bool} (m:Mz β M H) (r:Rz β M H v d) (h:truD M d=some b):Fo K v H b :=by
 cases r with
 |int i=>cases h;exact rfl
 |bl i=>cases h;exact rfl
 |au=>cases h;exact rfl
 |str z=>
  simp only [truD] at h
  split at h
  ·rename_i hz
   cases h
   exact ⟨hz,rfl⟩
  ·cases h
 |tup f e hl q=>cases h;exact .inr (.inl ⟨_,dh.of e,by rw [aL.isEmpty ⟨hl,q⟩]⟩)
 |lst f e hl q=>cases h;exact .inl ⟨_,bH.of e,by rw [aL.isEmpty ⟨hl,q⟩]⟩
 |ptr hs=>
  simp only [truD] at h
  split at h
  ·rename_i ds qa
   cases h
   obtain ⟨vs,hv,rs⟩:=m.obj _ _ qa
   exact .inl ⟨_,bH.of hv,by rw [rs.isEmpty]⟩
  ·cases h
 |set f e=>cases h
 |exc f e=>cases h
 |bI f e=>cases h
 |cU f e=>cases h
 |cV e=>cases h
 |raw v=>cases h
 |dk f e _ _ _=>cases h
 |dt f e _ _ _=>cases h
 |dI _ _ _ _ _ _=>cases h
theorem Gp (ha:QE Γ X e pe) (he:∀whole,isTrue e X.env whole=(do let v <- whole;standAt e.pos;holding [v] (truthy v)) :=by intro _;rfl):QT Γ X e (zTruth pe):=(Fp ha he).imp fun σ H Q ⟨β,ρ,M,Q',zr,h,q⟩=>⟨β,ρ,M,_,zr,h,fun d M1 v H1 x1 r1 h1=>by
 revert h1
 split
 ·rename_i b hb
  intro h1
  exact ⟨b,JE x1.mz r1 hb,q _ _ _ x1 h1⟩
 ·exact fun h=>h.elim⟩
end
theorem qv (i:Nat) {x:br} {pos:ut} (hN:X.N[i]?=some x :=by rfl) (hv:ua X.env.scope x :=by first|exact li rfl|exact xy (li rfl)|exact xy (xy rfl)) (hd:(x==("__debug__" : br))=false :=by decide)
  (iO:(x==("__classdict__" : br))=false :=by decide):QE Γ X (.Name x pos) (zVar i):=MX hN hv hd iO
end
theorem UQ {c:Bool} {A B:Prop} (h:c=true) (a:A):if c=true then A else B :=by rw [if_pos h];exact a
theorem UR {c:Bool} {A B:Prop} (h:c=false) (b:B):if c=true then A else B :=by rw [h,if_neg im];exact b
theorem fb {c:Bool} {A B:Prop} (h1:c=true->A) (h2:c=false->B):if c=true then A else B :=by
 cases c
 ·exact UR rfl (h2 rfl)
 ·exact UQ rfl (h1 rfl)
theorem tH {g:b9} {te:aI} {M:Mh} (p:Dv->Bool) (I:aC->Prop):∀{ds:List Dv} {τ:aC} {Q:Bool->Mh->Prop},I τ->(∀d∈ds,∀τ,I τ->∀R:aC->ZK,(∀aA,I aA->R aA (.bl (p d)) M)->g d τ M fun aA M2=>te aA M2 (R aA))->Q (ds.all p) M->lJ g zNoIf te ds τ M Q
 | [],τ,Q,_,_,q=>q
 |d::ds,τ,Q,i,h,q=>by
          refine h d ff τ i (fun aA=>zBool fun c M4=>if c=false then Q false M4 else lJ g zNoIf te ds aA M4 Q) fun aA i2=>?_
          show if p d=false then Q false M else lJ g zNoIf te ds aA M Q
          cases e:p d with
          |false=>
           rw [if_pos rfl]
           rw [List.all_cons,e] at q
           exact q
          |true=>
           rw [if_neg (by decide)]
           rw [List.all_cons,e,WG] at q
           exact tH p I i2 (fun d' hd=>h d' (db _ hd)) q
theorem fk {g:b9} {te:aI} (f:Dv->Dv) (I:aC->Mh->Prop):∀{ds:List Dv} {τ:aC} {M:Mh} {Q:List Dv->Mh->Prop},I τ M->(∀d∈ds,∀τ M,I τ M->∀R:aC->ZK,(∀aA M2,I aA M2->R aA (f d) M2)->g d τ M fun aA M2=>te aA M2 (R aA))->(∀τ M,I τ M->Q (ds.map f) M)->ik g zNoIf te ds τ M Q
 | [],τ,M,Q,i,_,q=>q τ M i
 |d::ds,τ,M,Q,i,h,q=>by
          refine h d ff τ M i (fun aA y M4=>ik g zNoIf te ds aA M4 fun ys M5=>Q (y::ys) M5) fun aA M2 i2=>?_
          exact fk f I i2 (fun d' hd=>h d' (db _ hd)) fun nN M3 i3=>q nN M3 i3
theorem tI {g:b9} {tt:b7} {te:aI} (t:Dv->Bool) (f:Dv->Dv) (I:aC->Mh->Prop):∀{ds:List Dv} {τ:aC} {M:Mh} {Q:List Dv->Mh->Prop},I τ M->
  (∀d∈ds,∀τ M,I τ M->∀(R0:aC->Mh->Prop) (R:aC->ZK),(t d=true->∀aA M2,I aA M2->R aA (f d) M2)->(t d=false->∀aA M2,I aA M2->R0 aA M2)->g d τ M fun aA M2=>tt aA M2 fun b M3=>if b=true then te aA M3 (R aA) else R0 aA M3)->
  (∀τ M,I τ M->Q ((ds.filter t).map f) M)->ik g tt te ds τ M Q
 | [],τ,M,Q,i,_,q=>q τ M i
 |d::ds,τ,M,Q,i,h,q=>by
          refine h d ff τ M i (fun aA M3=>ik g tt te ds aA M3 Q) (fun aA y M4=>ik g tt te ds aA M4 fun ys M5=>Q (y::ys) M5) (fun e aA M2 i2=>?_) fun e aA M2 i2=>?_
          ·refine tI t f I i2 (fun d' hd=>h d' (db _ hd)) fun nN M3 i3=>?_
           have:=q nN M3 i3
           rw [On,if_pos e] at this
           exact this
          ·refine tI t f I i2 (fun d' hd=>h d' (db _ hd)) fun nN M3 i3=>?_
           have:=q nN M3 i3
           rw [On,if_neg (by rw [e];decide)] at this
           exact this
abbrev eI (ns:List Int):Dv:=.tup (ns.map .int)
abbrev eN (net:List (List Int)):Dv:=.tup (net.map eI)
abbrev b8 (ns:List Int):Dv:=.lst (ns.map .int)
theorem qE:∀ns:List Int,hU (ns.map Dv.int)=some (ns.map Dt.int)
 | []=>rfl
 |n::ns=>by simp only [nw,hU,bL,qE ns]
theorem Be (ns:List Int):bL (eI ns)=some (.tup (ns.map Dt.int)) :=by simp only [eI,bL,qE,Cs]
theorem tJ {α:Type} {f:α->Dv} {g:α->Dt} (h:∀x,bL (f x)=some (g x)):∀xs:List α,hU (xs.map f)=some (xs.map g)
 | []=>rfl
 |x::xs=>by simp only [nw,hU,h x,tJ h xs]
theorem sh:∀xs ys:List Int,gN (xs.map Dt.int) (ys.map Dt.int)=decide (xs=ys)
 | [],[]=>by simp [gN]
 | [],_::_=>by simp [gN]
 |_::_,[]=>by simp [gN]
 |x::xs,y::ys=>by
          rw [nw,nw,gN,sh xs ys,cB]
          by_cases h1:x=y <;> by_cases h2:xs=ys <;> simp [h1,h2]
theorem qF {n:Nat}:∀{ds:List Dt},(∀d∈ds,fW d<=n)->gO ds<=n
 | [],_=>by rw [gO];exact lw _
 |d::ds,h=>by
          rw [gO]
          exact Nat.max_le.mpr ⟨h d ff,qF fun d' hd=>h d' (db _ hd)⟩
theorem tK (ns:List Int):gO (ns.map Dt.int)<=0:=qF fun d hd=>by
 obtain ⟨i,_,rfl⟩:=i8.mp hd
 exact ce _
theorem fH {M:Mh} (ns:List Int):∀d∈ns.map Dv.int,Pin M d:=fun d hd=>by
 obtain ⟨i,_,rfl⟩:=i8.mp hd
 exact .int i
theorem oO {M:Mh} (ns:List Int):Pin M (eI ns):=.tup (fH ns)
theorem DQ {M:Mh} (net:List (List Int)):Pin M (eN net):=.tup fun d hd=>by
 obtain ⟨r,_,rfl⟩:=i8.mp hd
 exact oO r
theorem JF {α β:Type} {f:α->β} {xs:List α} {i:Int} {x:α} (h:cY xs i=some x):cY (xs.map f) i=some (f x) :=by
 unfold cY at h ⊢
 rw [cb]
 cases e:jK xs.length i with
 |none=>rw [e] at h;cases h
 |some j=>rw [e] at h;simp only [XF] at h ⊢;rw [c8,h];rfl
theorem DR {α:Type} {xs:List α} {k:Nat} (h:k<xs.length):cY xs ((k:Nat):Int)=some xs[k]:=ez (ac h)
def spLaw (K:ba) (tb:di):Sp:=fun vs H Q _=>∃(a:ag) (ns:List Int),vs=[.ref a]/\bH K H a (ns.map V.int)/\ns.length<=63/\Hz tb.g H/\(∀p∈tb.l,Lm H p)/\∀H',(∀p∈tb.l,∃ps,H' p.1=some (.lam ps))->Q (.bl true) H'
def Nr:cQ:=fun ds M Q _=>∃ns:List Int,ds=[.bI ns]/\ns.length<=63/\(∀a,M a=none)/\∀M',Q (.bl true) M'
theorem Nt {P:gc} {w:i0} {K:ba} {mg:br->Option ap} {base:ij} {k:Nat} {f:ag} {fd:l5} {x:br} {tb:di} (G:FnOk P w K mg base bg k f fd [x] (aS P w K tb Nr)):FnOk P w K mg base bg k f fd [x] (spLaw K tb):=
 G.imp fun vs H Q E ⟨a,ns,e,hS,hl,hT,hL,q⟩=>by
  subst e
  have m:Mz ⟨P,w,K,tb,[]⟩ (fun _=>none) H:=⟨(fun a o e=>nomatch e),hT,(fun a ha=>absurd ha (by simp)),(fun a o e=>nomatch e),hL⟩
  refine ⟨⟨P,w,K,tb,[]⟩,[.bI ns],fun _=>none,fun d _=>d=.bl true,fun _ _=>False,rfl,rfl,rfl,rfl,m,.cons ?_ .nil,⟨ns,rfl,hl,fun _=>rfl,fun _=>rfl⟩,fun d M' v H' x r h=>?_,fun _ _ _ _ h=>h.elim⟩
  ·have fz:Fz ⟨P,w,K,tb,[]⟩ (fun _=>none) a:=⟨rfl,by simp⟩
   rcases hS with (h|⟨o,h⟩)|h
   ·exact .cU fz h
   ·exact .bI fz h
   ·exact .cV h
  ·subst h
   rw [dP r]
   exact q H' fun p hp=>let ⟨ps,e,_⟩:=x.mz.lams p hp;⟨ps,e⟩
def Keeps (M0 M:Mh):Prop:=∀a o,M0 a=some o->M a=some o
theorem Keeps.refl {M0:Mh}:Keeps M0 M0:=fun _ _ h=>h
theorem Keeps.upd {M0 M:Mh} {a:ag} {o:Mo} (ha:M0 a=none) (h:Keeps M0 M):Keeps M0 (aw M a o):=fun b u e=>by
 rw [ah (fun z=>by rw [z,ha] at e;cases e)]
 exact h b u e
theorem lL {M0 M:Mh} {Q:ZK} {d:Dv} (h:Keeps M0 M) (p:Pin M0 d) (q:Q d M0):mj M0 Q d M:=.inr ⟨h,d,.pin p,q⟩
theorem oP {M0 M:Mh} {Q:ZK} {a:ag} {ds:List Dv} (h:Keeps M0 M) (h0:M0 a=none) (ha:M a=some (.lst ds)) (p:∀d∈ds,Pin M0 d) (q:Q (.lst ds) M0):mj M0 Q (.ptr a) M:=.inr ⟨h,.lst ds,.ptr h0 ha rfl fun i d d' e e'=>by
 rw [e] at e'
 cases e'
 exact .pin (p d (ci e)),q⟩
theorem bR {lo:Int} {n i:Nat} {d:Dv} (h:(cD lo n)[i]?=some d):d=.int (lo+(i:Nat))/\i<n :=by
 unfold cD at h
 rw [c8] at h
 cases e:(hX n)[i]? with
 |none=>rw [e] at h;cases h
 |some k=>
  rw [e] at h
  obtain ⟨h1,h2⟩:=bn.mp e
  rw [Pf] at h2
  subst h2
  exact ⟨(i4 h).symm,by simpa using h1⟩
theorem si {lo:Int} {n:Nat} {d:Dv} (h:d∈cD lo n):∃i:Nat,i<n/\d=.int (lo+(i:Nat)) :=by
 obtain ⟨i,hi⟩:=lc.mp h
 obtain ⟨e,l⟩:=bR hi
 exact ⟨i,l,e⟩
theorem rangeD_len (lo:Int) (n:Nat):(cD lo n).length=n :=by simp [cD]
theorem fI {tt:b7} (t:Dv->Bool) {τ:aC}:∀{ds:List Dv} {x:Option Dv} {M:Mh} {Q:List Dv->Mh->Prop},(∀d∈ds,∀R:Bool->Mh->Prop,R (t d) M->tt (some d::τ) M R)->Q (ds.filter t) M->ik (zgName 0) tt (zVar 0) ds (x::τ) M Q
 | [],x,M,Q,_,q=>q
 |d::ds,x,M,Q,h,q=>by
          refine h d ff _ ?_
          cases e:t d with
          |true=>
           rw [On,if_pos e] at q
           exact fI t (Q:=fun ys M5=>Q (d::ys) M5) (fun d' hd=>h d' (db _ hd)) q
          |false=>
           rw [On,if_neg (by rw [e];decide)] at q
           exact fI t (fun d' hd=>h d' (db _ hd)) q
theorem iI {xs ys:List Dv} {k:Nat} {d:Dv} (h:(bX xs ys)[k]?=some d):∃x y,d=.tup [x,y]/\xs[k]?=some x/\ys[k]?=some y :=by
 unfold bX at h
 rw [c8,kt] at h
 obtain ⟨p,h,rfl⟩:=h
 rw [zn] at h
 exact ⟨p.1,p.2,rfl,h.1,h.2⟩
theorem JG {n k:Nat} {d:Dv} (h:(gf n)[k]?=some d):d=.int (k:Nat)/\k<n :=by
 unfold gf at h
 rw [c8] at h
 cases e:(hX n)[k]? with
 |none=>rw [e] at h;cases h
 |some j=>
  rw [e] at h
  obtain ⟨h1,h2⟩:=bn.mp e
  rw [Pf] at h2
  subst h2
  exact ⟨(i4 h).symm,by simpa using h1⟩
theorem JH {ds:List Dv} {k:Nat} {d:Dv} (h:(bX (gf ds.length) ds)[k]?=some d):∃x,d=.tup [.int (k:Nat),x]/\ds[k]?=some x :=by
 obtain ⟨x,y,rfl,h1,h2⟩:=iI h
 obtain ⟨rfl,_⟩:=JG h1
 exact ⟨y,rfl,h2⟩
theorem atI_zero {α:Type} {x:α} {xs:List α}:cY (x::xs) 0=some x:=ez (j:=0) rfl
theorem iZ {α:Type} {f:α->Dv} {xs:List α} {k:Nat} {d:Dv} (h:(xs.map f)[k]?=some d):∃x,xs[k]?=some x/\d=f x :=by
 rw [c8,kt] at h
 obtain ⟨x,h,e⟩:=h
 exact ⟨x,h,e.symm⟩
theorem pairsD_len (xs ys:List Dv):(bX xs ys).length=min xs.length ys.length :=by simp [bX]
end L2
namespace L2
open PySem PySem.Spec PyProof.Rows
theorem DS {M:Model} {A:l8} {E:ap->ar->Prop} {s:ar} {scope:wl} {globals:ag} {cl:List (br×ag)} {qual:br} {env:IR} {Q:IR->ar->Prop}
  (h:Q (newEnv scope s.heap.objs.size globals (cellsFrom (s.heap.objs.size+1) scope.names cl) qual none .none (some env) builtinsNs) {s with heap:=pushCells (s.heap.push {cls:=.type "dict",data:=.dict #[]}) scope.names}) :
  wpAny M A (newFunctionEnv scope globals cl [] qual none .none (some env)) Q E s :=by
 simp only [newFunctionEnv,Option.isSome_some,if_true]
 refine al (wpAny_alloc ?_)
 refine al (wpAny_layCells _ (fun name kind cells=>by cases UT:kind==ON <;> simp [UT]) _ _ _ _ ?_)
 rw [show ({s with heap:=s.heap.push {cls:=.type "dict",data:=.dict #[]}}:ar).heap.objs.size=s.heap.objs.size+1 from ww ..]
 exact ca h
theorem kZ:∀(names:List (br×NG)) (h:ij) (cl:List (br×ag)) (x:br) (c:ag),(cellsFrom h.objs.size names cl).lookup x=some c->
  ((x,ON)∈names/\h.objs.size<=c/\(pushCells h names).IsCell c none)\/((∀k,(x,k)∈names->k≠.cell)/\cl.lookup x=some c)
 | [],h,cl,x,c,e=>.inr ⟨fun k z=>by simp at z,e⟩
 |(n,k)::r,h,cl,x,c,e=>by
          unfold cellsFrom at e
          unfold pushCells
          split at e
          ·rename_i hk
           have jL:k=.cell :=by simpa using hk
           subst jL
           rw [if_pos hk]
           have sz:(h.push {cls:=.type "cell",data:=.cell none}).objs.size=h.objs.size+1:=ww ..
           rw [<- sz] at e
           rcases kZ r _ _ x c e with ⟨a,b,d⟩|⟨a,b⟩
           ·exact .inl ⟨db _ a,by omega,d⟩
           ·rw [BS] at b
            cases hx:x==n with
            |true=>
             rw [hx] at b
             cases b
             have e2:x=n :=by simpa using hx
             subst e2
             exact .inl ⟨ff,ce _,⟨_,XX r _ _ _ (en _ rfl),rfl⟩⟩
            |false=>
             rw [hx] at b
             refine .inr ⟨fun k2 z=>?_,b⟩
             rcases io.mp z with q|q
             ·cases q;simp at hx
             ·exact a k2 q
          ·rename_i hk
           rw [if_neg hk]
           rcases kZ r h cl x c e with ⟨a,b,d⟩|⟨a,b⟩
           ·exact .inl ⟨db _ a,b,d⟩
           ·refine .inr ⟨fun k2 z=>?_,b⟩
            rcases io.mp z with q|q
            ·cases q;intro z;subst z;exact hk rfl
            ·exact a k2 q
theorem cells_apart:∀(names:List (br×NG)) (h:ij) (cl:List (br×ag)) (x y:br) (c:ag),(∀n c,cl.lookup n=some c->c<h.objs.size)->(∀x y c,cl.lookup x=some c->cl.lookup y=some c->x=y)->(cellsFrom h.objs.size names cl).lookup x=some c->(cellsFrom h.objs.size names cl).lookup y=some c->x=y
 | [],h,cl,x,y,c,_,inj,e,e'=>inj x y c e e'
 |(n,k)::r,h,cl,x,y,c,lt,inj,e,e'=>by
          unfold cellsFrom at e e'
          split at e
          ·rename_i hk
           rw [if_pos hk] at e'
           have sz:(h.push {cls:=.type "cell",data:=.cell none}).objs.size=h.objs.size+1:=ww ..
           rw [<- sz] at e e'
           refine cells_apart r _ _ x y c (fun m d z=>?_) (fun x y d a b=>?_) e e'
           ·rw [sz]
            rw [BS] at z
            cases hm:m==n with
            |true=>rw [hm] at z;cases z;exact EQ _
            |false=>rw [hm] at z;exact xp (lt m d z)
           ·rw [BS] at a b
            have old:∀z,cl.lookup z=some h.objs.size->False:=fun z q=>absurd (lt _ _ q) (Do _)
            cases hx:x==n with
            |true=>
             rw [hx] at a
             cases a
             cases hy:y==n with
             |true=>rw [show x=n by simpa using hx,show y=n by simpa using hy]
             |false=>rw [hy] at b;exact (old y b).elim
            |false=>
             rw [hx] at a
             cases hy:y==n with
             |true=>rw [hy] at b;cases b;exact (old x a).elim
             |false=>rw [hy] at b;exact inj x y d a b
          ·rename_i hk
           rw [if_neg hk] at e'
           exact cells_apart r h cl x y c lt inj e e'
theorem lM:∀(names:List (br×NG)) (n:Nat) (cl:List (br×ag)) (x:br),((x,ON)∈names\/∃c,cl.lookup x=some c)->∃c,(cellsFrom n names cl).lookup x=some c
 | [],n,cl,x,h=>by
          rcases h with h|h
          ·simp at h
          ·exact h
 |(y,k)::r,n,cl,x,h=>by
          unfold cellsFrom
          split
          ·rename_i hk
           refine lM r _ _ x ?_
           by_cases e:x=y
           ·subst e
            exact .inr ⟨n,by rw [BS];simp⟩
           ·rcases h with h|⟨c,h⟩
            ·rcases io.mp h with q|q
             ·cases q;exact absurd rfl e
             ·exact .inl q
            ·exact .inr ⟨c,by rw [BS,show (x==y)=false by simpa using e];exact h⟩
          ·rename_i hk
           refine lM r _ _ x ?_
           rcases h with h|h
           ·rcases io.mp h with q|q
            ·cases q;exact absurd rfl hk
            ·exact .inl q
           ·exact .inr h
theorem Bf {X:Cx} {pins:List (ag×l3)} {σ:St} {H:Hp} {s:ar} (I:Inv X pins σ H s) {x:br} {c:ag} (h:X.env.cells.lookup x=some c):c<s.heap.objs.size :=by
 obtain ⟨v,o,ho,_⟩:=I.cell x c h
 exact ii ho
abbrev DT (X:Cx) (N':List br) (scope:wl) (cl:List (br×ag)) (C:ag) (s:ar) (H:Hp) (fp:List ag) (own:br->Bool):Cx:={zv X N' scope cl C s H fp with fn:=own}
def da (N:List br) (sc scope:wl) (N':List br) (tn:Nat) (idx:List Nat):Prop:=
 scope.kind=.function/\(∀y∈scope.names,(y.2=.cell->scope.names.lookup y.1=some .cell)/\(y.2=.local->scope.names.lookup y.1=some .local)/\(y.2=.free->sc.names.lookup y.1=some .cell\/sc.names.lookup y.1=some .free)) /\
  N'.length=tn+idx.length/\∀p∈idx.zip (N'.drop tn),N[p.1]?=some p.2/\scope.names.lookup p.2=some .free
instance (N:List br) (sc scope:wl) (N':List br) (tn:Nat) (idx:List Nat):Decidable (da N sc scope N' tn idx) :=by unfold da;infer_instance
theorem da.at {N:List br} {sc scope:wl} {N':List br} {tn:Nat} {idx:List Nat} (B:da N sc scope N' tn idx) {σ:St} {i:Nat} {x:br} {v:V} (h1:N'[i]?=some x) (h2:(bK tn idx σ)[i]?=some (some v)) :
  scope.names.lookup x=some .free/\∃j:Nat,N[j]?=some x/\σ[j]?=some (some v) :=by
 obtain ⟨_,_,b3,b4⟩:=B
 unfold bK at h2
 by_cases hi:i<tn
 ·rw [ze (by simpa using hi),Ll,if_pos hi] at h2
  cases h2
 ·rw [AN (by simpa using hi),So,c8] at h2
  cases e:idx[i - tn]? with
  |none=>rw [e] at h2;cases h2
  |some k=>
   rw [e] at h2
   have h3:(σ[k]?).join=some v:=i4 h2
   have e2:(N'.drop tn)[i - tn]?=some x :=by
    rw [Xd]
    have:tn+(i - tn)=i :=by omega
    rw [this];exact h1
   have m:(k,x)∈idx.zip (N'.drop tn) :=by
    refine ci (i:=i - tn) ?_
    rw [zn]
    exact ⟨e,e2⟩
   obtain ⟨a,b⟩:=b4 _ m
   refine ⟨b,k,a,?_⟩
   cases q:σ[k]? with
   |none=>rw [q] at h3;cases h3
   |some w=>rw [q] at h3;exact congrArg some h3
theorem da.len {N:List br} {sc scope:wl} {N':List br} {tn:Nat} {idx:List Nat} (B:da N sc scope N' tn idx) (σ:St):(bK tn idx σ).length=N'.length :=by
 rw [B.2.2.1]
 unfold bK
 simp
def gP (scope:wl) (x:br):Bool:=scope.names.lookup x==some .cell
abbrev ir (X:Cx) (N':List br) (scope:wl) (P:Cx->Prop):Prop:=∀(cl:List (br×ag)) (C:ag) (s:ar) (H:Hp) (fp:List ag),P (DT X N' scope cl C s H fp (gP scope))
theorem Bg {X:Cx} {pins:List (ag×l3)} {σ aO:St} {H H':Hp} {s:ar} {N':List br} {scope:wl} {cs:List (br×ag)} {C:ag} {ex:List ag} {h1:ij} {m0:br->Option ap} {g':Array PM} {tk:Nat}
  (I:Inv X pins σ H s) (pA:scope.kind=.function)
  (cE:∀n c,cs.lookup n=some c->(gP scope n=true/\C<c/\h1.IsCell c none/\H' c=none)\/(gP scope n=false/\X.env.cells.lookup n=some c))
  (Th:∀x y c,cs.lookup x=some c->cs.lookup y=some c->x=y)
  (wo:∀x,((relabel scope X.env).names.lookup x=some .cell\/(relabel scope X.env).names.lookup x=some .free)->∃c,cs.lookup x=some c)
  (hC:s.heap.objs.size<=C) (hf:∀b∈ex,dS X pins H b) (AD:∀b∈ex,b<s.heap.objs.size)
  (CF:Un (gH X.stack) ex H H' s.heap h1) (hok:dz X.prog X.w H' h1) (wt:H' C=none) (rp:∀b o,s.heap.get? b=some o->h1.get? b=some o) (jZ:h1.Ns C m0)
  (wu:∀(i:Nat) (x:br) (v:V),N'[i]?=some x->aO[i]?=some (some v)->gP scope x=false/\((relabel scope X.env).names.lookup x=some .cell\/(relabel scope X.env).names.lookup x=some .free)/\ua X.env.scope x/\(X.env.kindOf x=some .cell\/X.env.kindOf x=some .free)/\∃j:Nat,X.N[j]?=some x/\σ[j]?=some (some v))
  (hlen:aO.length=N'.length) (hg:Gn s.gens.size g'):Inv (DT X N' scope cs C s H ex (gP scope)) [] aO H' {s with heap:=h1,gens:=g',toks:=tk}:=by
 have CG:∀b∈ex,∀x c,X.env.cells.lookup x=some c->c≠b:=fun b hb=>(hf b hb).2.2.2.2.1
 have UU:∀b∈ex,∀x c,cs.lookup x=some c->c≠b:=fun b hb x c e z=>by
  rcases cE x c e with ⟨_,q,_⟩|⟨_,q⟩
  ·subst z;exact absurd (Wn (Pi hC q) (AD _ hb)) (Do _)
  ·exact CG b hb x c q z
 refine ⟨⟨I.ok.mod,pA,I.ok.glob,I.ok.blt,hC,Th,wo,fun x c hx e=>?_,fun z=>I.ok.hd z,I.ok.frames,.inl rfl,fun b hb=>⟨kw (l7 (AD b hb) hC),fun x c e=>UU b hb x c e⟩,
   I.bs,ln I.ok.bsz I.sz,fun b o e hb=>?_,fun b hb z=>?_,I.stack,I.pz⟩,rfl,hg,CF,⟨m0,jZ,fun i x v e1 e2 e3=>?_⟩,fun x c e=>?_,wt,fun x c e=>?_,fun p hp=>absurd (show p∈([]:List (ag×l3)) from hp) (by simp),hok,hlen⟩
 ·rcases cE x c e with ⟨_,q,_⟩|⟨q,_⟩
  ·exact LG (Pi hC q)
  ·have n8:gP scope x=true:=hx
   rw [q] at n8;cases n8
 ·rcases (hf b hb).2.2.2.1 with z|z
  ·exact I.ok.noex b o e z
  ·exact absurd (l7 (ii e) (ln I.ok.bsz z)) (Do _)
 ·rcases io.mp (I.iN b z) with q|q
  ·exact (hf b hb).2.1 q
  ·exact (hf b hb).2.2.1 q
 ·obtain ⟨k0,k1,vx,k2,j,n1,n2⟩:=wu i x v e1 e2
  obtain ⟨m,hn,hl⟩:=I.loc
  obtain ⟨u,r,l⟩:=hl j x v n1 n2 vx
  refine ⟨u,r,.inr ⟨k1,?_⟩⟩
  obtain ⟨c',CH⟩:=wo x k1
  rcases l with ⟨kl,_⟩|⟨_,c,ec,z⟩
  ·rcases k2 with q|q <;> (rw [kl] at q;cases q)
  ·rcases cE x c' CH with ⟨q,_⟩|⟨_,q⟩
   ·rw [k0] at q;cases q
   ·have:c'=c:=i4 (q.symm.trans ec)
    subst this
    exact ⟨c',CH,z.keeps rp⟩
 ·rcases cE x c e with ⟨_,_,q,_⟩|⟨_,q⟩
  ·exact ⟨_,q⟩
  ·obtain ⟨v,z⟩:=I.cell x c q
   exact ⟨v,z.keeps rp⟩
 ·rcases cE x c e with ⟨_,_,_,q⟩|⟨_,q⟩
  ·exact q
  ·obtain ⟨v,o,ho,hd⟩:=I.cell x c q
   exact CF.free c o ho (I.freeC x c q) fun z=>CG c z x c q rfl
section
variable {X:Cx}
theorem sj {pins:List (ag×l3)} {σ:St} {H2:Hp} {s2:ar} {tg elt iter:dL} {ifs:List dL} {scope:wl} {pos:ut} {N':List br} {tn:Nat} {idx:List Nat} {g:TG} {tt:TT} {te:TE} {it:ag} {fp:List ag} {cy:Nat->ij->Prop} {J:It}
  {cl:List (br×ag)} {E:ap->ar->Prop} {RR:ap->ag->X4->ar->Prop} {Q:VK}
  (hc:X.calm=true) (B:da X.N X.env.scope scope N' tn idx)
  (hg:ir X N' scope fun Y=>PG Y tg g) (ht:ir X N' scope fun Y=>gR Y ifs tt) (he:ir X N' scope fun Y=>PE Y elt te)
  (I:Inv X pins σ H2 s2) (T:Turn X.prog X.w X.K tg J fp it cy) (st:cy 0 s2.heap) (f2:∀b∈fp,dS X pins H2 b)
  (c9:∀n c,cl.lookup n=some c->X.env.cells.lookup n=some c) (eS:∀n,(n,AS)∈scope.names->∃c,cl.lookup n=some c)
  (hq:∀D,H2 D=none->∃W:Nat->Nat->St->Hp->Prop,(∃m,W 0 m (bK tn idx σ) (upd H2 D (.lst [])))/\rC J g tt te D Q W)
  (CJ:∀D C m s' H',Inv X pins σ H' s'->dS X pins H' C->s'.heap.Ns C m->Q (.ref D) H'->RR (.ref D) C (.ok .next) s') :
  wpAny (model X.prog X.w) X.A (newList []) (fun acc nZ=>wpAny (model X.prog X.w) X.A (newFunctionEnv scope X.env.globals cl [] X.env.qual none .none (some X.env)) (fun n5 wz=>
   codeAny (model X.prog X.w) X.A (.compStart (.ListComp elt [⟨tg,iter,ifs,0⟩] scope pos) 0 (.ref it) acc {n5 with scope:=relabel scope X.env}) (RR acc n5.locals) wz) E nZ) E s2 :=by
 obtain ⟨b1,b2,b3,b4⟩:=id B
 refine zd (DS ?_)
 dsimp only
 generalize hG:s2.heap.push {cls:=.type "list",dict:=none,data:=.seq ([]:List ap).toArray}=G
 have hC:G.objs.size=s2.heap.objs.size+1 :=by rw [<- hG,ww]
 generalize Nu:pushCells (G.push {cls:=.type "dict",data:=.dict #[]}) scope.names=gL
 have n6:gL.Ns G.objs.size fun _=>none :=by rw [<- Nu];exact (ij.Ns.new G (.type "dict")).keeps (XX _ _)
 have Rq:∀b o,G.get? b=some o->gL.get? b=some o:=fun b o e=>by rw [<- Nu];exact XX _ _ b o (bv _ e)
 have Hw:s2.heap.objs.size≠G.objs.size :=by rw [hC];exact kw (EQ _)
 have mW:s2.heap.objs.size<=G.objs.size :=by rw [hC];exact DO _
 have below:∀b,b<s2.heap.objs.size->b≠G.objs.size:=fun b hb=>by rw [hC];exact kw (xp hb)
 have old:∀b o,s2.heap.get? b=some o->gL.get? b=some o:=fun b o e=>Rq b o (hG▸bv _ e)
 have L8:gL.get? s2.heap.objs.size=some {cls:=.type "list",data:=.seq ([]:List ap).toArray}:=Rq _ _ (hG▸en _ rfl)
 generalize zS:cellsFrom (G.objs.size+1) scope.names cl=cs
 have HY:(G.push {cls:=.type "dict",data:=.dict #[]}).objs.size=G.objs.size+1:=ww ..
 have Nv:∀x,(x,ON)∈scope.names->gP scope x=true:=fun x hx=>by
  unfold gP
  rw [(b2 _ hx).1 rfl]
  rfl
 have JI:∀x,(∀k,(x,k)∈scope.names->k≠ON)->gP scope x=false:=fun x hx=>by
  unfold gP
  cases q:scope.names.lookup x with
  |none=>rfl
  |some k=>have:=hx k (wn q);simpa using this
 have look:∀x c,cs.lookup x=some c->(gP scope x=true/\G.objs.size<c/\gL.IsCell c none)\/(gP scope x=false/\cl.lookup x=some c):=fun x c e=>by
  rw [<- zS,<- HY] at e
  rcases kZ scope.names _ cl x c e with ⟨a,b,d⟩|⟨a,b⟩
  ·rw [Nu] at d
   rw [HY] at b
   exact .inl ⟨Nv x a,b,d⟩
  ·exact .inr ⟨JI x a,b⟩
 have inj:∀x y c,cs.lookup x=some c->cs.lookup y=some c->x=y:=fun x y c e e'=>by
  rw [<- zS,<- HY] at e e'
  refine cells_apart scope.names _ cl x y c (fun n d z=>?_) (fun x y d a b=>I.ok.inj x y d (c9 x d a) (c9 y d b)) e e'
  rw [HY,hC]
  exact xp (xp (Bf I (c9 n d z)))
 have CK:H2 s2.heap.objs.size=none:=I.hok.fresh (ce _)
 have wt:upd H2 s2.heap.objs.size (.lst []) G.objs.size=none :=by rw [aj (wE Hw)];exact I.hok.fresh mW
 have Fy:dz X.prog X.w (upd H2 s2.heap.objs.size (.lst [])) gL:=I.hok.laid old (ce _) ⟨lw _,[],0,.nil,L8⟩
 have nJ:∀b∈fp,b<s2.heap.objs.size:=fun b hb=>let ⟨o,e,_⟩:=T.obj _ _ st b hb;ii e
 obtain ⟨W,⟨m0,w0⟩,turn⟩:=hq s2.heap.objs.size CK
 have I1:Inv (DT X N' scope cs G.objs.size s2 H2 fp (gP scope)) [] (bK tn idx σ) (upd H2 s2.heap.objs.size (.lst [])) {s2 with heap:=gL,toks:=s2.toks}:=by
  refine Bg (g':=s2.gens) (m0:=fun _=>none) I b1 (fun n c e=>?_) inj (fun x hx=>?_) mW f2 nJ (Un.laid old (ce _) CK) Fy wt old n6 (fun i x v e1 e2=>?_) (B.len σ) I.bare.self
  ·rcases look n c e with ⟨o,a,b⟩|⟨o,a⟩
   ·refine .inl ⟨o,a,b,?_⟩
    have:c≠s2.heap.objs.size:=fun z=>by rw [z,hC] at a;exact absurd (Wn a (EQ _)) (fun h=>by omega)
    rw [aj this]
    exact I.hok.fresh (LG (Pi mW a))
   ·exact .inr ⟨o,c9 n c a⟩
  ·rw [gb] at hx
   rw [<- zS]
   cases q:scope.names.lookup x with
   |none=>rw [q] at hx;rcases hx with z|z <;> cases z
   |some k0=>
    have hm:=wn q
    rw [q] at hx
    by_cases hk:k0=.free
    ·subst hk;exact lM _ _ _ _ (.inr (eS x hm))
    ·have nk:(k0==AS)=false :=by simpa using hk
     simp only [Cs,nk,Wq,l9,if_false] at hx
     rcases hx with z|z
     ·have e0:k0=.cell:=i4 z
      subst e0
      exact lM _ _ _ _ (.inl hm)
     ·exact absurd (i4 z) hk
  ·obtain ⟨fr,j,e4,e5⟩:=B.at e1 e2
   have kx:=(b2 _ (wn fr)).2.2 rfl
   refine ⟨by unfold gP;rw [fr];rfl,?_,.inr kx,kx,j,e4,e5⟩
   rw [gb,fr]
   simp only [Cs]
   split
   ·exact .inl rfl
   ·exact .inr rfl
 have stat:∀{H':Hp},(∀b∈fp,H' b=none)->∀b∈fp,dS (DT X N' scope cs G.objs.size s2 H2 fp (gP scope)) [] H' b:=fun hn b hb=>by
  refine ⟨hn b hb,below b (nJ b hb),fun z=>?_,.inl hb,(fun x c e=>by
   rcases look x c e with ⟨_,a,_⟩|⟨_,a⟩
   ·exact fun z=>absurd (Wn (Pi mW (z▸a)) (nJ b hb)) (Do _)
   ·exact (f2 b hb).2.2.2.2.1 x c (c9 x c a)),fun p hp=>absurd (show p∈([]:List (ag×l3)) from hp) (by simp)⟩
  rcases io.mp (I.iN b z) with q|q
  ·exact (f2 b hb).2.1 q
  ·exact (f2 b hb).2.2.1 q
 have C1:wx (DT X N' scope cs G.objs.size s2 H2 fp (gP scope)) (.ListComp elt [⟨tg,iter,ifs,0⟩] scope pos) tg iter ifs 0 (.ref s2.heap.objs.size) _:=⟨fun _=>rfl,fun _ _ _ _ h=>h,fun _=>wA ..,fun _ _ _ _ h=>h,rfl⟩
 have CL:cy 0 gL:=T.keep _ _ _ st fun b _ o e=>old b o e
 refine mV C1 T CL (nY hc (fun _ _ z=>z) C1 (hg cs G.objs.size s2 H2 fp) (ht cs G.objs.size s2 H2 fp) (sY (he cs G.objs.size s2 H2 fp)) T (rD turn) I1 CL (stat fun b hb=>by rw [aj (kw (nJ b hb))];exact (f2 b hb).1) w0 fun aV H' s' I4 qn=>?_)
 have J2:Inv X pins σ H' s':=I.vG I4.os I4.base I4.hok I4.bare fun b hb=>⟨(f2 b hb).2.2.2.1,(f2 b hb).2.1,(f2 b hb).2.2.2.2.1,(f2 b hb).2.2.2.2.2⟩
 obtain ⟨mm,hm,_⟩:=I4.loc
 exact CJ _ _ mm s' H' J2 (I.mR mW I4.free) hm qn
variable {tg elt iter:dL} {ifs:List dL} {scope:wl} {pos:ut} {N':List br} {tn:Nat} {idx:List Nat} {wi:TI} {g:TG} {tt:TT} {te:TE}
theorem xx (hc:X.calm=true) (B:da X.N X.env.scope scope N' tn idx) (hi:PI X tg iter wi)
  (hg:ir X N' scope fun Y=>PG Y tg g) (ht:ir X N' scope fun Y=>gR Y ifs tt) (he:ir X N' scope fun Y=>PE Y elt te)
  (hs:∀x,foldedSetIterable iter X.env x=pure x :=by intro _;rfl):PE X (.ListComp elt [⟨tg,iter,ifs,0⟩] scope pos) (pB tn idx wi g tt te) :=by
 refine ⟨?_⟩
 intro pins s σ H Q I h
 obtain ⟨cl,fE,c9,eS⟩:=eO (scope:=scope) (env:=X.env) fun n hn=>I.ok.has n ((B.2.1 _ hn).2.2 rfl)
 rw [eval_ListComp]
 refine Cf (use:=none) rfl hs fE B.1 (fun y hy=>(B.2.1 y hy).2.1) (lm (hi pins s σ H _ I h) (fun xv s1 h1=>lm h1 (fun nT s2 h2=>?_) fun _ _ z=>z) fun _ _ z=>z)
 obtain ⟨it,fp,cy,J,H2,e,I2,T,iC,f2,q2⟩:=h2
 subst e
 refine sj (RR:=fun acc C=>compPost (model X.prog X.w) X.A X.xe none (EP X pins σ Q) acc C) hc B hg ht he I2 T iC f2 c9 eS q2 fun D C m s' H' J2 fC hm q=>?_
 exact ⟨m,hm,fun h' iE=>⟨.ref D,H',fC.turn J2 iE,rfl,q⟩⟩
variable {Γ:Gz}
theorem xA {zi:dM} {g:b9} {tt:b7} {te:aI} (hc:X.calm=true) (B:da X.N X.env.scope scope N' tn idx) (hi:QI Γ X tg iter zi)
  (hg:ir X N' scope fun Y=>QG Γ Y tg g) (ht:ir X N' scope fun Y=>mJ Γ Y ifs tt) (he:ir X N' scope fun Y=>QE Γ Y elt te)
  (hs:∀x,foldedSetIterable iter X.env x=pure x :=by intro _;rfl):QE Γ X (.ListComp elt [⟨tg,iter,ifs,0⟩] scope pos) (zComp tn idx zi g tt te):=(xx hc B hi hg ht he hs).imp fun σ H Q h=>xo h
theorem yO {i:Nat} {y:br} {py fh:ut} (hN:X.N.Nodup) (cp:X.N[i]?=some y) (hy:X.env.scope.names.lookup y=some .local) (hc:X.calm=true) (B:da X.N X.env.scope scope N' tn idx) (hi:PI X tg iter wi)
  (hg:ir X N' scope fun Y=>PG Y tg g) (ht:ir X N' scope fun Y=>gR Y ifs tt) (he:ir X N' scope fun Y=>PE Y elt te)
  (my:swapsWith (.ListComp elt [⟨tg,iter,ifs,0⟩] scope pos) (some (.Name y py)) fh.line X.env=pure true :=by rfl)
  (hs:∀x,foldedSetIterable iter X.env x=pure x :=by intro _;rfl):PS X (.Assign [.Name y py] (.ListComp elt [⟨tg,iter,ifs,0⟩] scope pos) fh) (qt (pB tn idx wi g tt te) (mQ i)) :=by
 refine ⟨?_⟩
 intro pins s σ H D I h
 obtain ⟨cl,fE,c9,eS⟩:=eO (scope:=scope) (env:=X.env) fun n hn=>I.ok.has n ((B.2.1 _ hn).2.2 rfl)
 rw [WM _ _ _ _ my]
 refine al (AM (al ?_))
 show wpAny _ X.A (do let _ <- comprehension (.ListComp elt [⟨tg,iter,ifs,0⟩] scope pos) scope X.env _ (newList []) false (eval iter X.env) (some (assign (.Name y py) X.env))) _ _ s
 refine al (lm (Cf (use:=some (assign (.Name y py) X.env)) (Q:=fun _ s'=>SP X pins D .next s') rfl hs fE B.1 (fun y hy=>(B.2.1 y hy).2.1)
  (lm (hi pins s σ H _ I h) (fun xv s1 h1=>lm h1 (fun nT s2 h2=>?_) fun _ _ z=>z) fun _ _ z=>z)) (fun _ s' hq=>ca (ca hq)) fun _ _ z=>z)
 obtain ⟨it,fp,cy,J,H2,e,I2,T,iC,f2,q2⟩:=h2
 subst e
 refine sj (RR:=fun acc C=>compPost (model X.prog X.w) X.A X.xe (some (assign (.Name y py) X.env)) (fun _ s'=>SP X pins D .next s') acc C) hc B hg ht he I2 T iC f2 c9 eS q2 fun E C m s' H' J2 fC hm q=>?_
 show wpAny _ X.A (assign (.Name y py) X.env (.ref E)) _ _ s'
 refine Ww (store_ok2 J2 hN cp (.inl hy) (v:=.ref E) rfl (fun s3 J3 ⟨a,lB,ha⟩=>?_) (.inr hy))
 have e8:C≠a :=by
  rcases ha with z|z
  ·rw [z];exact fC.2.1
  ·exact fun w=>fC.2.2.2.2.1 _ _ z w.symm
 exact ⟨m,hm.sameBut lB e8,fun h' iE=>⟨_,H',fC.turn J3 iE,q⟩⟩
end
theorem Gq {scope:wl} {env:IR} {x:br} (h:scope.names.lookup x=some .cell\/scope.names.lookup x=some .free):(relabel scope env).names.lookup x=some .cell\/(relabel scope env).names.lookup x=some .free :=by
 rw [gb]
 rcases h with h|h
 ·rw [h];exact .inl rfl
 ·rw [h]
  simp only [Cs]
  split
  ·exact .inl rfl
  ·exact .inr rfl
theorem ay.rel {N:List br} {sc scope:wl} {env:IR} {N':List br} {tn:Nat} {idx:List Nat} (B:ay N sc scope N' tn idx):ay N (relabel sc env) scope N' tn idx:=
 ⟨B.1,fun y hy=>⟨(B.2.1 y hy).1,(B.2.1 y hy).2.1,fun z=>Gq ((B.2.1 y hy).2.2 z)⟩,B.2.2.1,B.2.2.2⟩
end L2
namespace L2
open PySem PySem.Spec PySem.W PyProof.Rows
section
variable {X:Cx} {Γ:Gz} {β:Bz} {K:ba}
def boolsD:List Dv->Option (List Bool)
 | []=>some []
 | .bl b::ds=>(boolsD ds).map (b::·)
 |_::_=>none
theorem oQ:∀{ds:List Dv} {bs:List Bool},boolsD ds=some bs->ds=bs.map Dv.bl
 | [],bs,h=>by simp only [boolsD,EM] at h;subst h;rfl
 |d::ds,bs,h=>by
          cases d with
          |bl b=>
           simp only [boolsD,kt] at h
           obtain ⟨ms,h,rfl⟩:=h
           rw [oQ h]
           rfl
          |_=>simp [boolsD] at h
theorem kb:∀bs:List Bool,boolsD (bs.map Dv.bl)=some bs
 | []=>rfl
 |n::ns=>by simp [boolsD,kb ns]
theorem oR {M:Mh} {H:Hp}:∀{vs:List V} {bs:List Bool},aL β M H vs (bs.map Dv.bl)->vs=bs.map V.bl
 | [],[],_=>rfl
 | [],_::_,r=>absurd r.len (by simp)
 |_::_,[],r=>absurd r.len (by simp)
 |v::vs,n::ns,r=>by
          rw [nw] at r
          rw [nw,dP r.head,oR r.tail]
def zAllB (d:Dv) (M:Mh) (Q:ZK):Prop:=match d with | .lst ds=>(match boolsD ds with|some bs=>Q (.bl (bs.all id)) M|none=>False)|_=>False
theorem xB (hK:X.K=K) (hc:X.calm=true):fg Γ X (.builtin "all") (z1 zAllB):=⟨_,AY hK hc,fun β xs ds M H Q Q' _ _ _ m rs z q=>by
 unfold z1 at z
 split at z
 ·obtain ⟨x,rfl,r⟩:=cN rs
  unfold zAllB at z
  split at z
  ·split at z
   ·rename_i bs DU
    obtain ⟨a,vs,rfl,f,ha,c6⟩:=dD r
    have e:=oQ DU
    subst e
    have:=oR c6
    subst this
    exact ⟨a,bs,rfl,bH.of ha,q _ _ _ _ (.refl m) (.bl _) z⟩
   ·exact z.elim
  ·exact z.elim
 ·exact z.elim⟩
theorem Pin.mono {M M':Mh} {d:Dv} (h:Pin M d):(∀a,(M a).isSome=true->(M' a).isSome=true)->Pin M' d :=by
 intro k
 induction h with
 |int i=>exact .int i
 |bl b=>exact .bl b
 |au=>exact .au
 |str z=>exact .str z
 |tup h ih=>exact .tup ih
 |lst h ih=>exact .lst ih
 |dk h ih=>exact .dk ih
 |dt h ih=>exact .dt ih
 |dI h ih=>exact .dI ih
 |set ns=>exact .set ns
 |ptr h=>exact .ptr (k _ h)
 |exc C=>exact .exc C
 |bI ns=>exact .bI ns
 |raw v=>exact .raw v
def cI (M:Mh) (a:ag):Mh:=fun b=>if b=a then none else M b
theorem dn {M:Mh} {a:ag}:cI M a a=none :=by unfold cI;rw [if_pos rfl]
theorem bU {M:Mh} {a b:ag} (h:b≠a):cI M a b=M b :=by unfold cI;rw [if_neg h]
structure Froz (M1 M:Mh) (ρ:aC):Prop where
 env:∀(i:Nat) (d:Dv),ρ[i]?=some (some d)->Pin M d
 obj:∀b o,M b=some o->M1 b=some o\/∀d∈o.items,Pin M d
theorem Zr.freeze {M:Mh} {ρ:aC} {σ:St} {H:Hp} {i:Nat} {a:ag} {ds:List Dv} (z:Zr Γ β M ρ σ H) (hi:ρ[i]?=some (some (.ptr a))) (ha:M a=some (.lst ds)) (h0:Γ.M0 a=none) (fr:Froz Γ.M0 (cI M a) (ρ.set i (some (.lst ds)))) :
  Zr Γ β (cI M a) (ρ.set i (some (.lst ds))) σ H/\Ev β M H (cI M a) H :=by
 have rz:∀{v:V} {d:Dv},Rz β M H v d->Pin (cI M a) d->Rz β (cI M a) H v d:=fun r p=>r.nh (M0:=cI M a) (fun b hb=>by
  by_cases e:b=a
  ·rw [e,dn] at hb;cases hb
  ·rw [bU e] at hb;exact hb) p
 have jM:i<ρ.length:=(bn.mp hi).1
 have UW:∀d∈ds,Pin (cI M a) d:=fun d hd=>by
  have:=fr.env i (.lst ds) (by rw [WB jM])
  cases this with|lst h=>exact h d hd
 have obj:∀b es,cI M a b=some es->∀d∈es.items,Pin (cI M a) d:=fun b es e d hd=>by
  rcases fr.obj b es e with q|q
  ·refine (z.wf b es q d hd).mono fun c hc=>?_
   have nc:c≠a:=fun w=>by rw [w,h0] at hc;cases hc
   rw [bU nc]
   exact z.ent.dom c hc
  ·exact q d hd
 have mz:Mz β (cI M a) H :=by
  refine ⟨fun b o e=>?_,z.mz.tabs,z.mz.hids,fun b o e=>?_,z.mz.lams⟩
  ·have nb:b≠a:=fun q=>by rw [q,dn] at e;cases e
   have e':M b=some o :=by rw [bU nb] at e;exact e
   have q:=z.mz.obj b o e'
   cases o with
   |lst es=>obtain ⟨vs,hv,rs⟩:=q;exact ⟨vs,hv,rs.len,fun j v d x y=>rz (rs.at' j v d x y) (obj b _ e d (ci y))⟩
   |dk ks es=>obtain ⟨vs,hv,hk,rs⟩:=q;exact ⟨vs,hv,hk,rs.len,fun j v d x y=>rz (rs.at' j v d x y) (obj b _ e d (ci y))⟩
   |dt ks es=>obtain ⟨vs,hv,hk,rs⟩:=q;exact ⟨vs,hv,hk,rs.len,fun j v d x y=>rz (rs.at' j v d x y) (obj b _ e d (ci y))⟩
   |dJ=>exact q
  ·have nb:b≠a:=fun q=>by rw [q,dn] at e;cases e
   rw [bU nb] at e
   exact z.mz.apart b o e
 refine ⟨⟨z.eP,z.ew,z.eK,z.et,z.sub,z.wf,⟨z.ent.keep,fun b hb=>?_,fun b o m h=>?_⟩,mz,by simp [z.len],fun j d e=>?_⟩,⟨fun b o _ h=>.inl h,fun b o m h=>?_,mz⟩⟩
 ·have nb:b≠a:=fun q=>by rw [q,h0] at hb;cases hb
  rw [bU nb];exact z.ent.dom b hb
 ·by_cases e:b=a
  ·rw [e,dn]
  ·rw [bU e];exact z.ent.new b o m h
 ·have p:=fr.env j d e
  rw [Wz] at e
  split at e
  ·rename_i q
   subst q
   first
    |cases e
    |(rw [if_pos jM] at e;cases e)
   obtain ⟨v,hv,r⟩:=z.at' i _ hi
   obtain ⟨rfl,_⟩:=bJ r
   obtain ⟨vs,hl,rs⟩:=z.mz.obj a _ ha
   refine ⟨_,hv,.lst ⟨dn,z.mz.apart a _ ha⟩ hl rs.len fun k v d x y=>rz (rs.at' k v d x y) (UW d (ci y))⟩
  ·obtain ⟨v,hv,r⟩:=z.at' j d e
   exact ⟨v,hv,rz r p⟩
 ·by_cases e:b=a
  ·rw [e,dn]
  ·rw [bU e];exact m
def Ti (i:Nat) (M0:Mh) (p:cP):cP:=fun D ρ M=>p D ρ M\/∃a ds,ρ[i]?=some (some (.ptr a))/\M a=some (.lst ds)/\M0 a=none/\Froz M0 (cI M a) (ρ.set i (some (.lst ds)))/\p D (ρ.set i (some (.lst ds))) (cI M a)
theorem DV (i:Nat) {M1:Mh} {st:tz} {p:cP} (hM:Γ.M0=M1) (h:QS Γ X st p):QS Γ X st (Ti i M1 p):=h.imp fun D σ H ⟨β,ρ,M,D',zr,h,r⟩=>by
 rcases h with h|⟨a,ds,hi,ha,h0,fr,h⟩
 ·exact ⟨β,ρ,M,D',zr,h,r⟩
 ·obtain ⟨z2,e2⟩:=zr.freeze hi ha (by rw [hM];exact h0) (by rw [hM];exact fr)
  exact ⟨β,_,_,D',z2,h,r.step e2⟩
end
section
variable {X:Cx} {Γ:Gz} {β:Bz}
inductive nP:Dv->Prop where
 |int (i:Int):nP (.int i)
 |bl (b:Bool):nP (.bl b)
 |au:nP .au
 |str (z:br):nP (.str z)
 |ptr (a:ag):nP (.ptr a)
 |tup {ds:List Dv} (h:∀d∈ds,nP d):nP (.tup ds)
theorem Rz.grow {M:Mh} {H:Hp} {a:ag} {us:List V} (ha:H a=some (.lst us)) {v:V} {d:Dv} (h:Rz β (cI M a) H v d):nP d->Rz β M H v d :=by
 induction h with
 |int i=>exact fun _=>.int i
 |bl b=>exact fun _=>.bl b
 |au=>exact fun _=>.au
 |str z=>exact fun _=>.str z
 | @tup p vs ds m e hl h ih=>
  intro n
  cases n with
  |tup n=>
   have hp:p≠a:=fun z=>by rw [z,ha] at e;cases e
   exact .tup ⟨by have:=m.1;rw [bU hp] at this;exact this,m.2⟩ e hl fun i v d x y=>ih i v d x y (n d (ci y))
 | @ptr p m=>
  intro _
  refine .ptr ?_
  by_cases z:p=a
  ·rw [z,dn] at m;cases m
  ·rw [bU z] at m;exact m
 |_=>intro n;cases n
def Gr (neg:Bool):R2:=fun x y H Q=>∃(p:ag) (xs:List V) (d:Dt) (ds:List Dt),y=.ref p/\H p=some (.lst xs)/\dZ H x d/\xs.length=ds.length/\(∀(i:Nat) (v:V) (t:Dt),xs[i]?=some v->ds[i]?=some t->dZ H v t) /\
 (∀t∈ds,fW t<=60)/\Q (.bl (if neg then !(ds.any fun t=>cB t d) else ds.any fun t=>cB t d)) H
open Classical in
theorem DW {pins:List (ag×l3)} {σ:St} {H:Hp} {s:ar} (I:Inv X pins σ H s) {x:V} {v:ap} {d:Dt} {xs:List V} {ds:List Dt} {its:List ap} (rx:RelV x v) (hx:dZ H x d) (rv:Vals xs its) (hl:xs.length=ds.length)
  (kJ:∀(i:Nat) (v:V) (t:Dt),xs[i]?=some v->ds[i]?=some t->dZ H v t) (DX:∀t∈ds,fW t<=60) (hu:X.A.units+64<cLine) :
  ∃e:ap->Bool,(∀y∈its,lv X.A.in1 s y v (e y))/\its.any e=ds.any fun t=>cB t d :=by
 have nL:=rv.length
 let e:ap->Bool:=fun y=>decide (∃(i:Nat) (t:Dt),its[i]?=some y/\ds[i]?=some t/\cB t d=true)
 have key:∀(i:Nat) (y:ap) (t:Dt),its[i]?=some y->ds[i]?=some t->e y=cB t d:=fun i y t hi ht=>by
  cases hE:cB t d with
  |true=>exact decide_eq_true ⟨i,t,hi,ht,hE⟩
  |false=>
   refine decide_eq_false fun ⟨j,t',hj,UX,he⟩=>?_
   obtain ⟨a,ha,ra⟩:=j6 rv hi
   obtain ⟨b,hb,rb⟩:=j6 rv hj
   have UY:=ra.inj rb
   subst UY
   have:=(kJ i a t ha ht).inj (kJ j a t' hb UX)
   subst this
   rw [he] at hE
   cases hE
 refine ⟨e,fun y hy=>?_,?_⟩
 ·obtain ⟨i,hi⟩:=lc.mp hy
  obtain ⟨a,ha,ra⟩:=j6 rv hi
  have i5:i<ds.length :=by
   have:=(bn.mp ha).1
   omega
  have ht:=ac i5
  rw [key i y _ hi ht]
  refine oy I (kJ i a _ ha ht) hx ra rx ?_
  have:=DX _ (r9 i5)
  have:X.A.in1.units=X.A.units+1:=rfl
  omega
 ·rw [FF,NH,NH]
  constructor
  ·rintro ⟨y,hy,he⟩
   obtain ⟨i,t,_,ht,h⟩:=of_decide_eq_true he
   exact ⟨t,ci ht,h⟩
  ·rintro ⟨t,ht,h⟩
   obtain ⟨i,hi⟩:=lc.mp ht
   have i5:i<its.length :=by
    have:=(bn.mp hi).1
    omega
   exact ⟨_,r9 i5,by rw [key i _ t (ac i5) hi];exact h⟩
theorem Nw (hu:X.A.units+64<cLine):OpR X (compareOp .In) (Gr false) :=by
 intro pins s σ H x y v u Q I rx ry h
 obtain ⟨p,xs,d,ds,rfl,hp,hx,hl,kJ,DX,q⟩:=h
 cases ry
 obtain ⟨its,rv,pl⟩:=I.lists hp
 obtain ⟨e,he,Gs⟩:=DW I rx hx rv hl kJ DX hu
 refine SeqAt.in_listAt e pl (fun y hy=>he y (by simpa using hy)) ⟨.bl _,H,I,rfl,?_⟩
 rw [show its.toArray.any e=its.any e by simp,Gs]
 exact q
theorem DY (hu:X.A.units+64<cLine):OpR X (compareOp .NotIn) (Gr true) :=by
 intro pins s σ H x y v u Q I rx ry h
 obtain ⟨p,xs,d,ds,rfl,hp,hx,hl,kJ,DX,q⟩:=h
 cases ry
 obtain ⟨its,rv,pl⟩:=I.lists hp
 obtain ⟨e,he,Gs⟩:=DW I rx hx rv hl kJ DX hu
 refine SeqAt.notIn_listAt e pl (fun y hy=>he y (by simpa using hy)) ⟨.bl _,H,I,rfl,?_⟩
 rw [show its.toArray.any e=its.any e by simp,Gs]
 exact q
def oS (neg:Bool):fB:=fun d e M Q=>match bL (now M d),(now M e) with
 |some a,.lst ds=>(match hU ds with|some ts=>(∀t∈ts,fW t<=60)/\Q (.bl (if neg then !(ts.any fun t=>cB t a) else ts.any fun t=>cB t a)) M|none=>False)
 |_,_=>False
theorem zT {neg:Bool}:p8 Γ (Gr neg) (oS neg):=fun β x y d e M H Q Q' _ _ _ m rx ry z q=>by
 unfold oS at z
 split at z
 ·rename_i a ds h1 h2
  split at z
  ·rename_i ts UZ
   have hy:dZ H y (.lst ts):=pG m ry (by rw [h2];simp only [bL,UZ,Cs])
   have hx:dZ H x a:=pG m rx h1
   cases hy with
   |lst e hl kJ=>exact ⟨_,_,a,ts,rfl,e,hx,hl,kJ,z.1,q _ _ _ _ (.refl m) (.bl _) z.2⟩
  ·exact z.elim
 ·exact z.elim
theorem Bh (hu:X.A.units+64<cLine):fN Γ X (compareOp .In) (oS false):=⟨_,Nw hu,zT⟩
theorem Gu (hu:X.A.units+64<cLine):fN Γ X (compareOp .NotIn) (oS true):=⟨_,DY hu,zT⟩
end
end L2
namespace L2
open PySem PySem.Spec PyProof.Rows
section
variable {κ:Type} [DecidableEq κ] {α:Type}
def look:List κ->List α->κ->Option α
 |k::ks,d::ds,x=>if k=x then some d else look ks ds x
 |_,_,_=>none
def hV:List κ->List α->κ->α->List α
 |k::ks,d::ds,x,y=>(if k=x then y else d)::hV ks ds x y
 |_,_,_,_=>[]
def putL (ks:List κ) (k:κ):List κ:=if k∈ks then ks else ks++[k]
def dF (ks:List κ) (ds:List α) (k:κ) (d:α):List α:=if k∈ks then hV ks ds k d else ds++[d]
theorem jR {x:κ}:∀{ks:List κ} {ds:List α},ks.length=ds.length->(look ks ds x=none ↔ x ∉ ks)
 | [],[],_=>by simp [look]
 |k::ks,d::ds,h=>by
          have ih:=jR (x:=x) (ks:=ks) (ds:=ds) (by simpa using h)
          unfold look
          by_cases e:k=x
          ·simp [e]
          ·rw [if_neg e,ih,io]
           constructor
           ·rintro a (b|b)
            ·exact e b.symm
            ·exact a b
           ·exact fun a b=>a (.inr b)
 | [],_::_,h=>by simp at h
 |_::_,[],h=>by simp at h
theorem jr (x:κ):∀(ks:List κ) (vs:List V),fT (ks.zip vs) x=look ks vs x
 | [],vs=>by cases vs <;> rfl
 |_::_,[]=>rfl
 |k::ks,v::vs=>by
          rw [Xf]
          unfold look
          by_cases e:k=x
          ·rw [if_pos e];exact mY (p:=(k,v)) e
          ·rw [if_neg e,mZ (p:=(k,v)) e];exact jr x ks vs
theorem xC (x:κ):∀(ks:List κ) (ds:List α) {d:α},look ks ds x=some d->∃i:Nat,ks[i]?=some x/\ds[i]?=some d/\∀{β:Type} (es:List β),look ks es x=es[i]?
 | [],ds,d,h=>by cases ds <;> cases h
 |_::_,[],d,h=>by cases h
 |k::ks,e::ds,d,h=>by
          unfold look at h
          by_cases q:k=x
          ·rw [if_pos q] at h
           cases h
           refine ⟨0,by rw [q];rfl,rfl,fun es=>?_⟩
           cases es with
           |nil=>rfl
           |cons a es=>unfold look;rw [if_pos q];rfl
          ·rw [if_neg q] at h
           obtain ⟨i,a,b,c⟩:=xC x ks ds h
           refine ⟨i+1,a,b,fun es=>?_⟩
           cases es with
           |nil=>rfl
           |cons y es=>unfold look;rw [if_neg q,c es];rfl
theorem k6 (x:κ):∀(ks:List κ) (ds:List α) {β:Type} (es:List β),ds.length=es.length->look ks ds x=none->look ks es x=none
 | [],ds,_,es,_,_=>by cases es <;> rfl
 |_::_,[],_,es,h,_=>by cases es with
  |nil=>rfl
  |cons _ _=>simp at h
 |k::ks,d::ds,_,[],h,_=>by simp at h
 |k::ks,d::ds,_,e::es,h,q=>by
          unfold look at q ⊢
          by_cases z:k=x
          ·rw [if_pos z] at q;cases q
          ·rw [if_neg z] at q ⊢
           exact k6 x ks ds es (by simpa using h) q
theorem uT (x:κ) (y:α):∀(ks:List κ) (ds:List α),ks.length=ds.length->(hV ks ds x y).length=ds.length
 | [],[],_=>rfl
 |k::ks,d::ds,h=>by unfold hV;rw [Db,uT x y ks ds (by simpa using h)];rfl
 | [],_::_,h=>by simp at h
 |_::_,[],h=>by simp at h
theorem k7 {ks:List κ} {ds:List α} (h:ks.length=ds.length) (k:κ) (d:α):(putL ks k).length=(dF ks ds k d).length :=by
 unfold putL dF
 split
 ·rw [uT _ _ _ _ h,h]
 ·simp [h]
theorem uU (x:κ) (y:V):∀(ks:List κ) (vs:List V),ks.length=vs.length->(ks.zip vs).map (fun kv=>if kv.1=x then (kv.1,y) else kv)=ks.zip (hV ks vs x y)
 | [],[],_=>rfl
 |k::ks,d::ds,h=>by
          unfold hV
          rw [Xf,Xf,nw,uU x y ks ds (by simpa using h)]
          congr 1
          dsimp only
          split <;> rfl
 | [],_::_,h=>by simp at h
 |_::_,[],h=>by simp at h
theorem pI {ks:List κ} {vs:List V} (h:ks.length=vs.length) (k:κ) (v:V):putK (ks.zip vs) k v=(putL ks k).zip (dF ks vs k v) :=by
 have e:((ks.zip vs).any fun kv=>decide (kv.1=k))=decide (k∈ks) :=by
  rw [qB,jr]
  cases q:look ks vs k with
  |none=>exact (decide_eq_false ((jR h).mp q)).symm
  |some x=>
   have hm:k∈ks:=Classical.byContradiction fun z=>by rw [(jR h).mpr z] at q;cases q
   rw [decide_eq_true hm];rfl
 unfold putK putL dF
 rw [e]
 by_cases q:k∈ks
 ·rw [if_pos (decide_eq_true q),if_pos q,if_pos q]
  exact uU k v ks vs h
 ·rw [if_neg (by rw [decide_eq_false q];exact im),if_neg q,if_neg q,List.zip_append h]
  rfl
theorem JK (ks:List κ) (k:κ):(putL ks k).length<=ks.length+1 :=by
 unfold putL
 split
 ·omega
 ·simp
end
section
variable {β:Bz} {M:Mh} {H:Hp} {κ:Type} [DecidableEq κ]
theorem uV (x:κ) {v:V} {d:Dv} (r:Rz β M H v d):∀(ks:List κ) (vs:List V) (ds:List Dv),aL β M H vs ds->aL β M H (hV ks vs x v) (hV ks ds x d)
 | [],_,_,_=>by
          unfold hV;exact .nil
 |_::_,[],[],_=>.nil
 |_::_,[],_::_,h=>absurd h.len (by simp)
 |_::_,_::_,[],h=>absurd h.len (by simp)
 |k::ks,u::vs,e::ds,h=>by
          unfold hV
          refine .cons ?_ (uV x r ks vs ds h.tail)
          split
          ·exact r
          ·exact h.head
theorem k8 (x:κ) {v:V} {d:Dv} (r:Rz β M H v d) {ks:List κ} {vs:List V} {ds:List Dv} (h:aL β M H vs ds):aL β M H (dF ks vs x v) (dF ks ds x d) :=by
 unfold dF
 split
 ·exact uV x r ks vs ds h
 ·exact h.snoc r
theorem qG {ks:List κ} {vs:List V} {ds:List Dv} (rs:aL β M H vs ds) {x:κ} {o:Option Dv} (h:look ks ds x=o):∃ov,fT (ks.zip vs) x=ov/\ov.isSome=o.isSome/\∀r,o=some r->∃v,ov=some v/\Rz β M H v r :=by
 rw [jr]
 cases o with
 |none=>exact ⟨none,k6 x ks ds vs rs.len.symm h,rfl,fun r e=>nomatch e⟩
 |some r=>
  obtain ⟨i,a,b,c⟩:=xC x ks ds h
  obtain ⟨v,hv,rv⟩:=rs.get b
  exact ⟨some v,(c vs).trans hv,rfl,fun r' e=>by cases e;exact ⟨v,rfl,rv⟩⟩
end
def keyD:Dv->Option Key
 | .int i=>some (.inl i)
 | .str z=>some (.inr z)
 |_=>none
def fY:List Dv->Option (List Key)
 | []=>some []
 |d::ds=>match keyD d,fY ds with|some k,some ks=>some (k::ks)|_,_=>none
theorem sk:∀(ns:List Int),fY (ns.map Dv.int)=some (ns.map OL)
 | []=>rfl
 |n::ns=>by rw [nw,fY,sk ns];rfl
def nowK (M:Mh):Dv->Dv
 | .ptr a=>match M a with|some (.dk ks ds)=>.dk ks ds|some (.dt ks ds)=>.dt ks ds|_=>.ptr a
 |d=>d
def lookD (M:Mh) (d e:Dv):Option (Option Dv):=match nowK M d with
 | .dk ks ds=>(match keyD e with|some k=>some (look ks ds k)|none=>none)
 | .dt ks ds=>(match e with | .tup es=>(match fY es with|some k=>some (look ks ds k)|none=>none)|_=>none)
 |_=>none
section
variable {X:Cx} {Γ:Gz} {β:Bz} {K:ba} {M:Mh} {H:Hp}
theorem tL {y:V} {e:Dv} {k:Key} (r:Rz β M H y e) (h:keyD e=some k):y=kV k :=by
 cases e with
 |int i=>cases h;exact aM r
 |str z=>cases h;exact fA r
 |_=>cases h
theorem js:∀{es:List Dv} {ks:List Key} {vs:List V},aL β M H vs es->fY es=some ks->vs=ks.map kV
 | [],ks,vs,rs,h=>by
          cases h
          cases vs with
          |nil=>rfl
          |cons _ _=>exact absurd rs.len (by simp)
 |e::es,ks,[],rs,h=>absurd rs.len (by simp)
 |e::es,ks,v::vs,rs,h=>by
          unfold fY at h
          split at h
          ·rename_i k V6 h1 h2
           cases h
           rw [nw,tL rs.head h1,js rs.tail h2]
          ·cases h
theorem tM (m:Mz β M H) {x:V} {d:Dv} (r:Rz β M H x d):(∀ks ds,nowK M d=.dk ks ds->∃a vs,x=.ref a/\Rd H a (.dK (ks.zip vs))/\ks.length=vs.length/\aL β M H vs ds) /\
  (∀ks ds,nowK M d=.dt ks ds->∃a vs,x=.ref a/\Rd H a (.dT (ks.zip vs))/\ks.length=vs.length/\aL β M H vs ds) :=by
 cases r with
 |dk f e hk hl h=>exact ⟨fun ks ds q=>(by cases q;exact ⟨_,_,rfl,e,hk,hl,h⟩),fun ks ds q=>by cases q⟩
 |dt f e hk hl h=>exact ⟨fun ks ds q=>(by cases q),fun ks ds q=>by cases q;exact ⟨_,_,rfl,e,hk,hl,h⟩⟩
 | @ptr a hs=>
  simp only [nowK]
  cases q2:M a with
  |none=>rw [q2] at hs;cases hs
  |some o=>
   have q:=m.obj a o q2
   cases o with
   |dk ks ds=>obtain ⟨vs,e,hk,rs⟩:=q;exact ⟨fun ks ds q=>(by cases q;exact ⟨_,_,rfl,.inl e,hk,rs⟩),fun ks ds q=>by cases q⟩
   |dt ks ds=>obtain ⟨vs,e,hk,rs⟩:=q;exact ⟨fun ks ds q=>(by cases q),fun ks ds q=>by cases q;exact ⟨_,_,rfl,.inl e,hk,rs⟩⟩
   |_=>exact ⟨fun ks ds q=>(by cases q),fun ks ds q=>by cases q⟩
 |_=>exact ⟨fun ks ds q=>(by cases q),fun ks ds q=>(by cases q)⟩
theorem ni (m:Mz β M H) {x y:V} {d e:Dv} {o:Option Dv} (r:Rz β M H x d) (re:Rz β M H y e) (h:lookD M d e=some o):∃a ov,x=.ref a/\mh H a y ov/\ov.isSome=o.isSome/\∀r,o=some r->∃v,ov=some v/\Rz β M H v r :=by
 unfold lookD at h
 obtain ⟨h1,h2⟩:=tM m r
 split at h
 ·rename_i ks ds q
  obtain ⟨a,vs,rfl,ha,hk,rs⟩:=h1 ks ds q
  split at h
  ·rename_i k sm
   rw [tL re sm]
   obtain ⟨ov,e1,e2,e3⟩:=qG rs (i4 h)
   subst e1
   exact ⟨a,_,rfl,.inl ⟨_,k,ha,rfl,rfl⟩,e2,e3⟩
  ·cases h
 ·rename_i ks ds q
  obtain ⟨a,vs,rfl,ha,hk,rs⟩:=h2 ks ds q
  split at h
  ·split at h
   ·rename_i k sm
    obtain ⟨b,us,rfl,_,hb,ru⟩:=cC re
    rw [js ru sm] at hb
    obtain ⟨ov,e1,e2,e3⟩:=qG rs (i4 h)
    subst e1
    exact ⟨a,_,rfl,.inr ⟨_,k,b,ha,rfl,hb,rfl⟩,e2,e3⟩
   ·cases h
  ·cases h
 ·cases h
def zGetR:fB:=fun d e M Q=>match lookD M d e with|some (some r)=>Q r M|_=>False
theorem JL {a b:dL} {pa pb:aI} {pos:ut} (hu:X.A.units+64<cLine) (ha:QE Γ X a pa) (hb:QE Γ X b pb) (hs:F6 b):QE Γ X (.Subscript a b pos) (zOp zGetR pa pb):=
 (Jy (by omega) ha hb hs).imp fun σ H Q ⟨β,ρ,M,Q',zr,h,q⟩=>⟨β,ρ,M,_,zr,h,fun d M1 v H1 x1 r1 h1=>⟨β,ρ,M1,_,zr.step x1,h1,fun e M2 u H2 x2 r2 h2=>by
  unfold zGetR at h2
  split at h2
  ·rename_i r hl
   obtain ⟨a,ov,rfl,g,_,e3⟩:=ni x2.mz (r1.ex x2) r2 hl
   obtain ⟨w,rfl,f9⟩:=e3 r rfl
   exact ⟨a,w,rfl,g,q _ _ _ _ (x1.trans x2) f9 h2⟩
  ·exact h2.elim⟩⟩
def zDIn (neg:Bool):fB:=fun e d M Q=>match lookD M d e with|some o=>Q (.bl (if neg then !o.isSome else o.isSome)) M|none=>False
def Nx (neg:Bool):R2:=fun y x H Q=>∃a o,x=.ref a/\mh H a y o/\Q (.bl (if neg then !o.isSome else o.isSome)) H
theorem JM {neg:Bool}:p8 Γ (Nx neg) (zDIn neg):=fun β x y d e M H Q Q' _ _ _ m rx ry z q=>by
 unfold zDIn at z
 split at z
 ·rename_i o hl
  obtain ⟨a,ov,rfl,g,e2,_⟩:=ni m ry rx hl
  refine ⟨a,ov,rfl,g,?_⟩
  rw [e2]
  exact q _ _ _ _ (.refl m) (.bl _) z
 ·exact z.elim
theorem qH (hu:X.A.units+64<cLine):fN Γ X (compareOp .NotIn) (zDIn true):=⟨Nx true,fun pins s σ H x y v u Q I rx ry ⟨a,o,e,g,q⟩=>by
 subst e
 cases (show u=mT a from ry)
 exact Jw (by omega) I g rx fun s3 I3=>⟨.bl (!o.isSome),H,I3,rfl,q⟩,JM⟩
def zMGet:oM:=fun d ds M Q=>match ds with
 | [e]=>(match lookD M d e with|some o=>Q (o.getD .au) M|none=>False)
 | [e,z]=>(match lookD M d e with|some o=>Q (o.getD z) M|none=>False)
 |_=>False
def P5:V->List V->Hp->VK->Prop:=fun x xs H Q=>(∃a y o,x=.ref a/\xs=[y]/\mh H a y o/\Q (o.getD .au) H)\/∃a y z o,x=.ref a/\xs=[y,z]/\mh H a y o/\Q (o.getD z) H
theorem Ny (hu:X.A.units+64<cLine):sf Γ X "dict" "dict.get" K zMGet:=⟨P5,fun pins s σ H x xs v us Q I rx rs h=>by
 rcases h with ⟨a,y,o,rfl,rfl,g,q⟩|⟨a,y,z,o,rfl,rfl,g,q⟩
 ·cases (show v=mT a from rx)
  cases rs with
  |cons r1 rs=>cases rs;exact MR (by omega) I g r1 fun w' s3 I3 f9=>⟨_,H,I3,f9,q⟩
 ·cases (show v=mT a from rx)
  cases rs with
  |cons r1 rs=>cases rs with
   |cons r2 rs=>cases rs;exact MS (by omega) I g r1 r2 fun w' s3 I3 f9=>⟨_,H,I3,f9,q⟩,fun β x xs d ds M H Q Q' _ _ _ m rx rs z q=>by
 unfold zMGet at z
 split at z
 ·split at z
  ·rename_i o hl
   obtain ⟨y,rfl,ry⟩:=cN rs
   obtain ⟨a,ov,rfl,g,e2,e3⟩:=ni m rx ry hl
   refine .inl ⟨a,y,ov,rfl,rfl,g,?_⟩
   cases o with
   |none=>cases ov with
    |none=>exact q _ _ _ _ (.refl m) .au z
    |some _=>cases e2
   |some r=>
    obtain ⟨w,rfl,f9⟩:=e3 r rfl
    exact q _ _ _ _ (.refl m) f9 z
  ·exact z.elim
 ·split at z
  ·rename_i o hl
   obtain ⟨y,u,rfl,ry,ru⟩:=jq rs
   obtain ⟨a,ov,rfl,g,e2,e3⟩:=ni m rx ry hl
   refine .inr ⟨a,y,u,ov,rfl,rfl,g,?_⟩
   cases o with
   |none=>cases ov with
    |none=>exact q _ _ _ _ (.refl m) ru z
    |some _=>cases e2
   |some r=>
    obtain ⟨w,rfl,f9⟩:=e3 r rfl
    exact q _ _ _ _ (.refl m) f9 z
  ·exact z.elim
 ·exact z.elim⟩
end
section
variable {β:Bz} {M:Mh} {H:Hp} {D:ag} {o':Mo} {u:HO}
theorem JN {v:V} {d:Dv} (r:Rz (β.add D) M H v d):Rz β (aw M D o') (upd H D u) v d :=by
 have na:∀a,Fz (β.add D) M a->a≠D:=fun a f z=>f.2 (by rw [z];exact ff)
 have ne:∀a,Fz (β.add D) M a->Fz β (aw M D o') a:=fun a f=>⟨by rw [ah (na a f)];exact f.1,fun z=>f.2 (db _ z)⟩
 have pre:∀a x,Fz (β.add D) M a->H a=some x->upd H D u a=some x:=fun a x f e=>by rw [aj (na a f)];exact e
 induction r with
 |int i=>exact .int i
 |bl b=>exact .bl b
 |au=>exact .au
 |str z=>exact .str z
 |tup m e hl h ih=>exact .tup (ne _ m) (pre _ _ m e) hl ih
 |lst m e hl h ih=>exact .lst (ne _ m) (pre _ _ m e) hl ih
 |dk m e hk hl h ih=>exact .dk (ne _ m) (e.map fun _ h=>pre _ _ m h) hk hl ih
 |dt m e hk hl h ih=>exact .dt (ne _ m) (e.map fun _ h=>pre _ _ m h) hk hl ih
 |dI m e m2 e2 hl h ih=>exact .dI (ne _ m) (pre _ _ m e) (ne _ m2) (pre _ _ m2 e2) hl ih
 |set m e=>exact .set (ne _ m) (pre _ _ m e)
 |ptr m=>exact .ptr (by unfold aw;split;rfl;exact m)
 |exc m e=>exact .exc (ne _ m) (pre _ _ m e)
 |bI m e=>exact .bI (ne _ m) (pre _ _ m e)
 |cU m e=>exact .cU (ne _ m) (pre _ _ m e)
 |cV e=>exact .cV e
 |raw v=>exact .raw v
theorem k9 {vs:List V} {ds:List Dv} (r:aL (β.add D) M H vs ds):aL β (aw M D o') (upd H D u) vs ds:=⟨r.len,fun i v d a b=>JN (r.at' i v d a b)⟩
theorem Ex.DZ {M2:Mh} {H2:Hp} {o:HO} (x:Ex β M H M2 H2) (hD:D∈β.hid) (m:M D=none) (h:H D=some o) (ho:Ba o=true):H2 D=some o :=by
 rcases x.keep D o m h with q|⟨o',t,q⟩
 ·exact q
 ·rcases t with ⟨_,_,rfl,_⟩|⟨_,_,rfl,_⟩|⟨_,ob,rfl⟩
  ·cases ho
  ·cases ho
  ·obtain ⟨w,e,n⟩:=x.mz.hids D hD
   rw [q] at e;cases e;cases n
theorem Mz.Nz (m:Mz (β.add D) M H) (hM:M D=none) (hD:D ∉ β.hid) (nt:D ∉ β.tb) (hu:oB u=true) (r:jP β (aw M D o') (upd H D u) D o'):Mz β (aw M D o') (upd H D u) :=by
 obtain ⟨oD,eD,nD⟩:=m.hids D ff
 refine ⟨fun a o e=>?_,fun q hq=>?_,fun a ha=>(m.hids a (db _ ha)).upd (.inr hu),fun a o e z=>?_,fun q hq=>?_⟩
 ·by_cases ha:a=D
  ·subst ha
   rw [updM_same] at e
   cases e
   exact r
  ·rw [ah ha] at e
   have z:=m.obj a o e
   cases o with
   |lst ds=>obtain ⟨vs,z,rs⟩:=z;exact ⟨vs,by rw [aj ha];exact z,k9 rs⟩
   |dk ks ds=>obtain ⟨vs,z,hk,rs⟩:=z;exact ⟨vs,by rw [aj ha];exact z,hk,k9 rs⟩
   |dt ks ds=>obtain ⟨vs,z,hk,rs⟩:=z;exact ⟨vs,by rw [aj ha];exact z,hk,k9 rs⟩
   |dJ=>obtain ⟨c,n,z,q⟩:=z;exact ⟨c,n,by rw [aj ha];exact z,q⟩
 ·obtain ⟨ps,e,t⟩:=m.tabs q hq
  exact ⟨ps,by rw [aj (show q≠D from fun z=>nt (by rw [<- z];exact hq))];exact e,t⟩
 ·by_cases ha:a=D
  ·exact hD (ha▸z)
  ·rw [ah ha] at e
   exact m.apart a o e (db _ z)
 ·exact (m.lams q hq).keep (fun _ e=>by rw [aj (fun z=>by subst z;rw [eD] at e;cases e;cases nD)];exact e) fun c _ _ e=>by rw [aj (fun z=>by subst z;rw [eD] at e;cases e;cases nD)];exact e
end
section
variable {X:Cx} {pos:ut}
def JO (tk tv:TE):TE:=fun σ H Q=>∀p,H p=none->tk σ (upd H p (.dT [])) fun x H1=>tv σ H1 fun y H2=>H2 p=some (.dT [])/\∃b k,x=.ref b/\H2 b=some (.tup (k.map kV))/\Q (.ref p) (upd H2 p (.dT [(k,y)]))
theorem D0 {k v:dL} {tk tv:TE} (hu:X.A.units+1<cLine) (hk:PE X k tk) (hv:PE X v tv):PE X (.Dict [some k] [v] pos) (JO tk tv) :=by
 refine ⟨?_⟩
 intro pins s σ H Q I q
 have hn:=I.hok.fresh (ce s.heap.objs.size)
 have I1:=I.laid (a:=s.heap.objs.size) (o:=.dT []) (h':=s.heap.push {cls:=.type "dict",data:=.dict #[]}) (t':=s.toks) (fun _ _ q=>bv _ q) (ce _) (xi s.heap I.big)
 refine wpAny_Dict_any rfl rfl (by simp) (by simp) (pairTrees_cons_walk (thn (hk pins _ σ _ _ I1 (q _ hn)) fun w1 s2 ⟨x,H1,I2,rx,q1⟩=>thn (hv pins s2 σ H1 _ I2 q1) fun w2 s3 ⟨y,H2,I3,ry,hp,b,ks,ex,hb,q2⟩=>pairTrees_nil_walk ?_))
 subst ex
 cases (show w1=mT b from rx)
 unfold storeAll
 rw [WU]
 obtain ⟨z,hd,xs,rel,dd⟩:=vL I3.hok hp
 cases rel
 refine al (al (wpAny_dictSet_heap (knd:=tupleKind (bO X.prog X.w)) (by show X.A.units<cLine;omega) (iT I3.hok hb) dd (fun h' mF hs=>ca ?_) (by simp)))
 dsimp only
 rw [List.forIn_nil]
 refine ca ⟨.ref s.heap.objs.size,_,?_,rfl,q2⟩
 obtain ⟨o,es,ep,ho,h2,h3,h4,h5,h6⟩:=mF
 have he:storedH ([]:List (List Key×ag×ap)) ks b w2=[(ks,b,w2)]:=rfl
 rw [he] at h4 h6
 refine kh I3 (by rw [hp];exact GT) hs ⟨o,ho⟩ ⟨by show 1<=sizeLine;decide,hd,[(ks,b,w2)],.cons ⟨rfl,?_,ry⟩ .nil,o,es,ep,ho,h2,h3,h4,h6⟩
 rw [aj (qX hb hp (by intro z;cases z))]
 exact hb
end
section
variable {X:Cx} {Γ:Gz} {β:Bz} {K:ba}
def zDNewK:aI:=fun _ M Q=>∀a,M a=none->Q (.ptr a) (aw M a (.dk [] []))
def zDNewT:aI:=fun _ M Q=>∀a,M a=none->Q (.ptr a) (aw M a (.dt [] []))
theorem Gv {pos:ut}:QE Γ X (.Dict [] [] pos) zDNewK:=F9.imp fun σ H Q ⟨β,ρ,M,Q',zr,h,q⟩ p hp=>
 q _ _ _ _ (Ex.MV (ks:=[]) (vs:=[]) (ds:=[]) zr.mz (.inr hp) rfl .nil) (.ptr (by rw [updM_same];rfl)) (h p (zr.mz.free hp))
theorem Gw {pos:ut}:QE Γ X (.Dict [] [] pos) zDNewT:=Ga.imp fun σ H Q ⟨β,ρ,M,Q',zr,h,q⟩ p hp=>
 q _ _ _ _ (Ex.Gd (ks:=[]) (vs:=[]) (ds:=[]) zr.mz (.inr hp) rfl .nil) (.ptr (by rw [updM_same];rfl)) (h p (zr.mz.free hp))
def zDisp1K (pk pv:aI):aI:=fun ρ M Q=>pk ρ M fun e M1=>pv ρ M1 fun v M2=>match keyD e with|some k=>∀a,M2 a=none->Q (.ptr a) (aw M2 a (.dk [k] [v]))|none=>False
def zDisp1T (pk pv:aI):aI:=fun ρ M Q=>pk ρ M fun e M1=>pv ρ M1 fun v M2=>match e with | .tup es=>(match fY es with|some k=>∀a,M2 a=none->Q (.ptr a) (aw M2 a (.dt [k] [v]))|none=>False)|_=>False
theorem JP {M M2:Mh} {H H2:Hp} {D:ag} {o:HO} {o':Mo} {u:HO} (hD:H D=none) (x:Ex (β.add D) M (upd H D o) M2 H2) (mz:Mz β (aw M2 D o') (upd H2 D u)):Ex β M H (aw M2 D o') (upd H2 D u) :=by
 have ey:Ey M H M2 (upd H2 D u):=((Ey.refl (M:=M) (H:=H)).over (o:=o) hD |>.trans x.toEy).over hD
 exact ⟨⟨ey.keep,fun a h=>by unfold aw;split;rfl;exact ey.dom a h,fun a w m e=>by rw [ah (bB e hD)];exact ey.new a w m e⟩,mz⟩
theorem Rr {k v:dL} {pk pv:aI} {pos:ut} (hu:X.A.units+64<cLine) (hk:QE Γ X k pk) (hv:QE Γ X v pv):QE Γ X (.Dict [some k] [v] pos) (zDisp1T pk pv):=
 (D0 (by omega) hk hv).imp fun σ H Q ⟨β,ρ,M,Q',zr,h,q⟩ p hp=>by
  have z1:=zr.enter hp (o:=.dT []) rfl
  refine ⟨β.add p,ρ,M,_,z1,h,fun e M1 y H1 x1 r1 h1=>⟨β.add p,ρ,M1,_,z1.step x1,h1,fun d M2 w H2 x2 r2 h2=>?_⟩⟩
  have fc:=x1.trans x2
  have Rt:M p=none:=zr.mz.free hp
  have e2:H2 p=some (.dT []):=fc.DZ ff Rt aK rfl
  have Ru:M2 p=none:=fc.new p _ Rt aK
  refine ⟨e2,?_⟩
  split at h2
  ·split at h2
   ·rename_i es kk U0
    obtain ⟨b,us,rfl,_,hb,ru⟩:=cC (r1.ex x2)
    rw [js ru U0] at hb
    refine ⟨b,kk,rfl,hb,?_⟩
    refine q _ _ _ _ (JP (o':=.dt [kk] [d]) (u:=.dT ([kk].zip [w])) hp fc (fc.mz.Nz Ru (zr.mz.fz hp).2 (zr.mz.Ge hp) rfl ⟨[w],aK,rfl,k9 (.cons r2 .nil)⟩)) (.ptr (by rw [updM_same];rfl)) (h2 p Ru)
   ·exact h2.elim
  ·exact h2.elim
def zDPut (pd pk pv:aI):cP:=fun D ρ M=>pv ρ M fun v M1=>pd ρ M1 fun d M2=>pk ρ M2 fun e M3=>match d with
 | .ptr a=>(match M3 a with
  |some (.dk ks ds)=>(match keyD e with|some k=>ks.length<sizeLine/\D.nx ρ (aw M3 a (.dk (putL ks k) (dF ks ds k v)))|none=>False)
  |some (.dt ks ds)=>(match e with | .tup es=>(match fY es with|some k=>ks.length<sizeLine/\D.nx ρ (aw M3 a (.dt (putL ks k) (dF ks ds k v)))|none=>False)|_=>False)
  |_=>False)
 |_=>False
theorem zU {o i value:dL} {pd pk pv:aI} {pos pos':ut} (hu:X.A.units+64<cLine) (ho:QE Γ X o pd) (hi:QE Γ X i pk) (hv:QE Γ X value pv) (hs:swapsWith value (some (.Subscript o i pos')) pos.line X.env=pure false :=by rfl) :
  QS Γ X (.Assign [.Subscript o i pos'] value pos) (zDPut pd pk pv):=(Jz (by omega) ho hi hv hs).imp fun D σ H ⟨β,ρ,M,D',zr,h,r⟩=>⟨β,ρ,M,_,zr,h,fun v M1 vv H1 x1 r1 h1=>⟨β,ρ,M1,_,zr.step x1,h1,fun d M2 dv H2 x2 r2 h2=>
   ⟨β,ρ,M2,_,(zr.step x1).step x2,h2,fun e M3 ev H3 x3 r3 h3=>by
 have z3:=((zr.step x1).step x2).step x3
 have kW:=x1.trans (x2.trans x3)
 have rv:=(r1.ex x2).ex x3
 split at h3
 ·rename_i a
  obtain ⟨rfl,hs⟩:=bJ r2
  split at h3
  ·rename_i ks ds hM
   obtain ⟨vs,ha,hk,rs⟩:=x3.mz.obj a _ hM
   split at h3
   ·rename_i k sm
    obtain ⟨hl,h3⟩:=h3
    have hp:(M3 a).isSome=true :=by rw [hM];rfl
    have x4:Ex β M3 H3 (aw M3 a (.dk (putL ks k) (dF ks ds k v))) (upd H3 a (.dK ((putL ks k).zip (dF ks vs k vv)))):=Ex.MV x3.mz (.inl hp) (k7 hk k vv) (k8 k rv rs)
    refine ⟨a,_,rfl,.inl ⟨_,k,ha,tL r3 sm,by rw [Pd,<- hk,GE];exact hl,rfl⟩,?_⟩
    rw [pI hk]
    exact r.nx _ _ _ _ (kW.trans x4).ev (z3.step x4) h3
   ·exact h3.elim
  ·rename_i ks ds hM
   obtain ⟨vs,ha,hk,rs⟩:=x3.mz.obj a _ hM
   split at h3
   ·split at h3
    ·rename_i k sm
     obtain ⟨hl,h3⟩:=h3
     obtain ⟨b,us,rfl,_,hb,ru⟩:=cC r3
     rw [js ru sm] at hb
     have hp:(M3 a).isSome=true :=by rw [hM];rfl
     have x4:Ex β M3 H3 (aw M3 a (.dt (putL ks k) (dF ks ds k v))) (upd H3 a (.dT ((putL ks k).zip (dF ks vs k vv)))):=Ex.Gd x3.mz (.inl hp) (k7 hk k vv) (k8 k rv rs)
     refine ⟨a,_,rfl,.inr ⟨_,k,b,ha,rfl,hb,by rw [Pd,<- hk,GE];exact hl,rfl⟩,?_⟩
     rw [pI hk]
     exact r.nx _ _ _ _ (kW.trans x4).ev (z3.step x4) h3
    ·exact h3.elim
   ·exact h3.elim
  ·exact h3.elim
 ·exact h3.elim⟩⟩⟩
end
theorem D1 {P:gc} {w:i0} {K:ba} {mg mb:br->Option ap} {CX:lz} {k:Nat} {fa a:ag} {fd:l5} {x:br} {sp:Sp} {aD:ar} {vs:List ap} {ns:List Int} {tabs lts:List ag}
  (KX:K.In aD.heap) (jZ:aD.heap.Ns mainGlobals mg) (hb:aD.heap.Ns builtinsNs mb) (U1:∀x:br,x ≠ "__name__" -> mb x=bootBuiltins x) (NA:aD.heap.NoLimit) (hg:aD.gens=#[])
  (ha:aD.heap.get? a=some {cls:=.type "list",data:=.seq vs.toArray}) (hi:Me vs ns) (hl:ns.length<=sizeLine) (hr:dB k callerA)
  (kN:∀p∈tabs++lts,aD.heap.get? p=some (SC #[])/\isCodeTable aD.heap p) (Tj:∀p∈tabs,p ∉ lts) (D2:Xg K=true) (jg:∃bm ob,X1 aD.heap mainGlobals mg bm ob)
  (F:∀base:ij,K.In base->base.Ns mainGlobals mg->(∃bm ob,X1 base mainGlobals mg bm ob)->(∀c p,u7 aD.heap c p->u7 base c p)->FnOk P w K mg base CX k fa fd [x] sp)
  (P6:∀(s:ar) (u:ap),XA s fd ⟨[u],[]⟩ [(x,u)])
  (pU:∀H:Hp,(∀p∈tabs,Tb p H)->(∀p∈lts,H p=some (.lam #[]))->bH K H a (ns.map V.int)->sp [.ref a] H (fun v H'=>v=.bl true/\∀p∈lts,∃ps,H' p=some (.lam ps)) fun _ _ _=>False)
  (NB:∀H e s',CX [] H aD (fun _ _ _=>False) e s'->False) :
  codeAny (model P w) callerA (.call (.ref fa) ⟨[.ref a],[]⟩) (fun r s'=>r=.ok (.ret (.bool true))/\OldK aD.heap s'.heap/\s'.os=aD.os/\X3 s'.gens) aD :=by
 have rv:=uv hi
 have Tn:=hi.length
 have kJ:a ∉ tabs++lts:=fun z=>by
  have e:=(kN a z).1
  rw [ha] at e
  cases e
 have core:∀H:Hp,(∀b u,H b=some u->(b=a/\∃o xs,u=.gG o (.lst xs))\/(b∈tabs++lts/\(u=.dy #[]/\b∈tabs\/u=.lam #[]/\b∈lts)))->(∀p∈tabs,H p=some (.dy #[]))->(∀p∈lts,H p=some (.lam #[]))->bH K H a (ns.map V.int)->dz P w H aD.heap->(H a≠none->K.lookup a=none)->
   codeAny (model P w) callerA (.call (.ref fa) ⟨[.ref a],[]⟩) (fun r s'=>r=.ok (.ret (.bool true))/\OldK aD.heap s'.heap/\s'.os=aD.os/\X3 s'.gens) aD :=by
  intro H hO U2 U3 hS hok hK
  have pJ:∀{b:ag} {o:l3},aD.heap.get? b=some o->H b=none->(ko aD.heap H).get? b=some o:=fun e n=>Fb e n
  have no:∀{b:ag} {o:l3},aD.heap.get? b=some o->(∀n,o.data≠.seq vs.toArray n)->o≠SC #[]->H b=none:=fun {b o} e d1 d2=>by
   cases q:H b with
   |none=>rfl
   |some u=>
    rcases hO b u q with ⟨e',_⟩|⟨cF,_⟩
    ·subst e'
     rw [ha] at e;cases e
     exact absurd rfl (d1 _)
    ·rw [(kN b cF).1] at e
     exact absurd (i4 e).symm d2
  have U4:∀{b:ag} {o:l3} {es:Array DictEntry} {ep:Nat},aD.heap.get? b=some o->o.data=.dict es ep->H b=none:=fun {b o es ep} e d=>no e (fun n z=>by rw [d] at z;cases z) fun z=>by rw [z] at d;cases d
  have D3:∀{b:ag} {m:br->Option ap},aD.heap.Ns b m->(ko aD.heap H).Ns b m:=fun {b m} hS=>by obtain ⟨o,es,ep,e,d,r⟩:=hS;exact ⟨o,es,ep,pJ e (U4 e d),d,r⟩
  have Rv:K.In (ko aD.heap H):=fun b o e=>pJ (KX b o e) (by
   cases q:H b with
   |none=>rfl
   |some u=>
    rcases hO b u q with ⟨e',_⟩|⟨cF,_⟩
    ·subst e'
     rw [hK (by rw [q];simp)] at e;cases e
    ·have e1:=KX b o e
     have e2:=(kN b cF).1
     rw [e1] at e2
     have e3:o=SC #[]:=i4 e2
     have q2:=wb.mp D2 (b,o) (PySem.W.kb_mem e)
     simp only [Bool.or_eq_true,decide_eq_true_eq,beq_iff_eq] at q2
     rcases q2 with (q2|q2)|q2
     ·rw [e3] at q2;exact absurd rfl q2
     ·obtain ⟨mc,⟨oc,es,ep,ho,hd,_⟩,_⟩:=NA
      rw [<- q2,e1] at ho
      cases ho
      rw [e3] at hd;cases hd
     ·obtain ⟨oc,es,ep,ho,hd,_⟩:=id jZ
      rw [<- q2,e1] at ho
      cases ho
      rw [e3] at hd;cases hd)
  have hM:Mod K mg (ko aD.heap H):=⟨Rv,D3 jZ,⟨mb,D3 hb,U1⟩,let ⟨mc,h1,h2⟩:=NA;⟨mc,D3 h1,h2⟩⟩
  have hB:∃bm ob,X1 (ko aD.heap H) mainGlobals mg bm ob :=by
   obtain ⟨bm,ob,B⟩:=jg
   exact ⟨bm,ob,D3 B.ns,B.name,B.ne,pJ B.obj (no B.obj (fun n z=>by rw [B.data] at z;cases z) fun z=>by have:=B.data;rw [z] at this;cases this),B.cls,B.dict,B.data⟩
  have hC:∀c p,u7 aD.heap c p->u7 (ko aD.heap H) c p:=fun c p ⟨o,Dy,file,tf,flags,tg,U5,text,tt,e1,e2,e3,r⟩=>
   ⟨o,Dy,file,tf,flags,tg,U5,text,tt,pJ e1 (no e1 (fun n z=>by rw [e3] at z;cases z) fun z=>by rw [z] at e2;cases e2),e2,e3,r⟩
  have e0:Aw P w K mg (ko aD.heap H) callerA [] aD H:=⟨rfl,hM,fun b o e=>IE e,Nat.le_of_eq (B3 _ _),trivial,fun b hb=>absurd (show b∈([]:List ag) from hb) (by simp),hok,.of_eq hg⟩
  refine WQ ((F _ Rv (D3 jZ) hB hC).run callerA [] aD H ⟨[.ref a],[]⟩ [.ref a] [.ref a] _ _ hr e0 (P6 aD (.ref a)) (.cons rfl .nil) (pU H (fun p hp=>⟨#[],U2 p hp,trivial⟩) U3 hS)) fun r s' h=>?_
  cases r with
  |error e=>exact (NB H e s' h).elim
  |ok fl=>
   cases fl with
   |next=>exact LB h
   |brk=>exact LB h
   |cont=>exact LB h
   |ret u=>
    obtain ⟨v,H',os,bare,un,Gx,r',q⟩:=h
    obtain ⟨q',qL⟩:=q
    subst q'
    obtain rfl:u=SL true:=r'
    have all:∀b o,aD.heap.get? b=some o->asItWas aD.heap s'.heap b o/\∃o',s'.heap.get? b=some o':=fun b o e=>by
     cases q:H b with
     |none=>
      have:=un.keep b o e q (by intro z;exact absurd (show b∈([]:List ag) from z) (by simp)) (by simp)
      exact ⟨.inl this,_,this⟩
     |some u=>
      rcases hO b u q with ⟨_,ob,xs,z⟩|⟨cF,z⟩
      ·subst z
       have z2:=un.frzs b ob _ q
       obtain ⟨e1,_⟩:=hok b _ q
       obtain ⟨e2,_⟩:=Gx b _ z2
       rw [e] at e1;cases e1
       exact ⟨.inl e2,_,e2⟩
      ·have e2:∃more,s'.heap.get? b=some {cls:=.none,data:=.fields (#[]++more)}:=by
        rcases z with ⟨z,_⟩|⟨z,zA⟩
        ·subst z
         obtain ⟨more,z2⟩:=un.tbls b #[] q
         exact ⟨more,Gx b _ z2⟩
        ·obtain ⟨ps,z2⟩:=qL b zA
         refine ⟨ps,?_⟩
         have:=Gx b _ z2
         rw [show (#[]:Array ap)++ps=ps by simp]
         exact this
       obtain ⟨more,e2⟩:=e2
       have e1:=(kN b cF).1
       rw [e] at e1
       obtain rfl:o=SC #[]:=i4 e1
       exact ⟨.inr (.inl ⟨(kN b cF).2,rfl,#[],more,rfl,e2⟩),_,e2⟩
    exact ⟨rfl,⟨fun b o e=>(all b o e).1,fun b o e=>(all b o e).2⟩,os,bare.1⟩
 have NC:∀p∈tabs++lts,∀H:Hp,∀u,(u=.dy #[]/\p∈tabs\/u=.lam #[]/\p∈lts)->ObjOk P w H aD.heap p u:=fun p hp H u hu=>by
  rcases hu with ⟨rfl,_⟩|⟨rfl,_⟩ <;> exact (kN p hp).1
 let T:Hp:=fun b=>if b∈lts then some (.lam #[]) else if b∈tabs then some (.dy #[]) else none
 have T1:∀b u,T b=some u->b∈tabs++lts/\(u=.dy #[]/\b∈tabs\/u=.lam #[]/\b∈lts):=fun b u z=>by
  by_cases h1:b∈lts
  ·have z':=(show T b=_ from if_pos h1).symm.trans z
   cases z'
   exact ⟨lf _ h1,.inr ⟨rfl,h1⟩⟩
  ·by_cases h2:b∈tabs
   ·have z':=(show T b=_ from (if_neg h1).trans (if_pos h2)).symm.trans z
    cases z'
    exact ⟨ss _ h2,.inl ⟨rfl,h2⟩⟩
   ·have z':=(show T b=_ from (if_neg h1).trans (if_neg h2)).symm.trans z
    cases z'
 have T2:∀p∈tabs,T p=some (.dy #[]):=fun p hp=>(if_neg (Tj p hp)).trans (if_pos hp)
 have T3:∀p∈lts,T p=some (.lam #[]):=fun p hp=>if_pos hp
 have Ta:T a=none:=(if_neg fun z=>kJ (lf _ z)).trans (if_neg fun z=>kJ (ss _ z))
 cases hk:K.lookup a with
 |some o=>
  have e:=KX a o hk
  rw [ha] at e
  cases e
  exact core T (fun b u z=>.inr (T1 b u z)) T2 T3 (.inr ⟨_,vs.toArray,_,hk,rfl,rfl,rfl,by rw [cr,Tn];exact hl,by simpa using rv⟩) (fun b u z=>NC b (T1 b u z).1 _ u (T1 b u z).2) fun z=>absurd Ta z
 |none=>
  have na:∀p∈tabs++lts,p≠a:=fun p hp z=>kJ (z▸hp)
  refine core (upd T a (.gG {cls:=.type "list",data:=.seq vs.toArray} (.lst (ns.map V.int)))) (fun b u z=>?_) (fun p hp=>by rw [aj (na p (ss _ hp))];exact T2 p hp) (fun p hp=>by rw [aj (na p (lf _ hp))];exact T3 p hp) (.inl (.inr ⟨_,aK⟩)) (fun b u z=>?_) fun _=>hk
  ·by_cases hb:b=a
   ·subst hb
    rw [aK] at z
    cases z
    exact .inl ⟨rfl,_,_,rfl⟩
   ·rw [aj hb] at z
    exact .inr (T1 b u z)
  ·by_cases hb:b=a
   ·subst hb
    rw [aK] at z
    cases z
    exact ⟨ha,by rw [cb];exact hl,vs,_,rv,ha⟩
   ·rw [aj hb] at z
    exact NC b (T1 b u z).1 _ u (T1 b u z).2
def vO (K:ba) (x:br):Option ag:=match qr K mainGlobals x with
 |some (some (.ref f))=>(match K.lookup f with
  |some ⟨_,_,.func fd,_⟩=>(match fd.code with
   | .ref c=>(match K.lookup c with
    |some ⟨_,_,.fields vs,_⟩=>(match vs[11]? with|some (mT p)=>some p|_=>none)
    |_=>none)
   |_=>none)
  |_=>none)
 |_=>none
abbrev TabOf (mg:br->Option ap) (h:ij) (y:br) (p:ag):Prop:=∃f o fd c,mg y=some (.ref f)/\h.get? f=some o/\o.data=.func fd/\fd.code=.ref c/\u7 h c p
theorem xD {K:ba} {mg:br->Option ap} {h:ij} {y:br} {p q:ag} (X:K.In h) (G:h.Ns mainGlobals mg) (t:TabOf mg h y p) (e:vO K y=some q):p=q :=by
 obtain ⟨f,o,fd,c,e1,e2,e3,e4,oc,vs,_,_,_,_,_,_,_,g1,_,g3,g4,_⟩:=t
 unfold vO at e
 split at e
 ·rename_i f' jZ
  have:=(WF X G jZ).symm.trans e1
  cases this
  split at e
  ·rename_i V7 V8 Ug QF lN
   have:=(X _ _ lN).symm.trans e2
   cases this
   cases e3
   rw [e4] at e
   dsimp only at e
   split at e
   ·rename_i a1 a2 Dy a3 U6
    have:=(X _ _ U6).symm.trans g1
    cases this
    cases g3
    rw [g4] at e
    cases e
    rfl
   ·cases e
  ·cases e
 ·cases e
def tN (K:ba) (gs ls:List br):Bool:=gs.all fun x=>ls.all fun y=>match vO K x,vO K y with|some p,some q=>decide (p≠q)|_,_=>false
theorem zV {α β:Type} {F:α->β->Prop} {l:List α} {m:List β} (h:wp F l m) {b:β} (hb:b∈m):∃a∈l,F a b :=by
 induction h with
 |nil=>simp at hb
 |cons x t ih=>
  rcases io.mp hb with e|e
  ·subst e;exact ⟨_,ff,x⟩
  ·obtain ⟨a,ha,q⟩:=ih e
   exact ⟨a,db _ ha,q⟩
theorem Gy {K:ba} {mg:br->Option ap} {h:ij} {gs ls:List br} {tabs lts:List ag} (X:K.In h) (G:h.Ns mainGlobals mg) (d:tN K gs ls=true) (t1:wp (TabOf mg h) gs tabs) (t2:wp (TabOf mg h) ls lts):∀p∈tabs,p ∉ lts:=fun p hp hq=>by
 obtain ⟨x,hx,tx⟩:=zV t1 hp
 obtain ⟨y,hy,ty⟩:=zV t2 hq
 have:=wb.mp (wb.mp d x hx) y hy
 split at this
 ·rename_i p' q' e1 e2
  have a:=xD X G tx e1
  have b:=xD X G ty e2
  exact (of_decide_eq_true this) (a.symm.trans b)
 ·cases this
theorem GA {l:XY} {n k:Nat} {q:gc} {loose:List br} {XP:(br->Option ap)->ij->Prop} {YP:i0->ij->Prop} {d:DefRec} {K:Ya->ba} {CX:lz} {sp:ba->List ag->List ag->Sp} {x:br} {nK D4:List br}
  (hn:l.most=some n) (U7:n<=sizeLine) (CC:d.params.defaults=[]) (hr:dB k callerA) (D2:∀w:i0,Xg (K w.params)=true)
  (HZ:∀y∈nK++D4,∃r∈recsOf q,r.name=y) (p0:∀w:i0,tN (K w.params) nK D4=true)
  (hY:∀(w:i0) (h:ij),YP w h->(K w.params).In h)
  (F:∀(w:i0) (mg:br->Option ap) (fa:ag) (h:ij) (tabs lts:List ag),(K w.params).In h->h.Ns mainGlobals mg->mg d.name=some (.ref fa)->
   wp (TabOf mg h) nK tabs->wp (TabOf mg h) D4 lts->
   ∃fd:l5,(∀(s:ar) (u:ap),XA s fd ⟨[u],[]⟩ [(x,u)]) /\
    ∀base:ij,(K w.params).In base->base.Ns mainGlobals mg->(∃bm ob,X1 base mainGlobals mg bm ob)->(∀c p,u7 h c p->u7 base c p)->FnOk l.prog w (K w.params) mg base CX k fa fd [x] (sp (K w.params) tabs lts))
  (pU:∀(K:ba) (tabs lts:List ag) (H:Hp) (a:ag) (ns:List Int),lts.length=D4.length->ns.length<=n->(∀p∈tabs,Tb p H)->(∀p∈lts,H p=some (.lam #[]))->bH K H a (ns.map V.int)->sp K tabs lts [.ref a] H (fun v H'=>v=.bl true/\∀p∈lts,∃ps,H' p=some (.lam ps)) fun _ _ _=>False)
  (NB:∀(H:Hp) (s:ar) (e:ap) (s':ar),CX [] H s (fun _ _ _=>False) e s'->False) :
  PySem.W.WalkO q loose XP YP l.row.toRowW d [] (fun f vs=>X5 f vs) :=by
 refine QU.yG hn CC fun w s₀ aD mg mb fa o pm cd doc a vs ns G Y ho hd iO CD Fx hints hlen hg=>?_
 have KX:=hY w _ Y
 have tb:∀nK:List br,(∀y∈nK,∃r∈recsOf q,r.name=y)->∃tabs,wp (TabOf mg aD.heap) nK tabs/\∀p∈tabs,aD.heap.get? p=some (SC #[])/\isCodeTable aD.heap p :=by
  intro nK
  induction nK with
  |nil=>intro _;exact ⟨[],.nil,fun p hp=>absurd hp (by simp)⟩
  |cons y r ih=>
   intro hm
   obtain ⟨tabs,h1,h2⟩:=ih fun z hz=>hm z (db _ hz)
   obtain ⟨rr,U8,e⟩:=hm y ff
   obtain ⟨f,o',fd,c,p,a1,a2,a3,a4,a5,a6⟩:=G.T.tab rr U8
   rw [e] at a1
   refine ⟨p::tabs,.cons ⟨f,o',fd,c,a1,a2,a3,a4,.of a5 a6⟩ h1,fun z hz=>?_⟩
   rcases io.mp hz with rfl|hz
   ·exact ⟨a6.2,a6.isCodeTable⟩
   ·exact h2 z hz
 obtain ⟨tabs,t1,t2⟩:=tb nK fun y hy=>HZ y (ss _ hy)
 obtain ⟨lts,u1,u2⟩:=tb D4 fun y hy=>HZ y (lf _ hy)
 obtain ⟨fd,hb,hF⟩:=F w mg fa _ tabs lts KX G.T.g CD t1 u1
 exact D1 (lts:=lts) KX G.T.g G.T.b G.T.builtins G.T.nolimit hg Fx hints (ln hlen U7) hr (fun p hp=>(l6.mp hp).elim (t2 p) (u2 p)) (Gy KX G.T.g (p0 w) t1 u1) (D2 w) (PySem.W.bmod_of_top G.T) hF hb (fun H hO hL hS=>pU _ tabs lts H a ns (GS u1).symm hlen hO hL hS) fun H e s'=>NB H aD e s'
theorem GB {K:ba} {tabs lts:List ag} {qs:List br} {H:Hp} {a:ag} {ns:List Int} (hl:lts.length=qs.length) (hn:ns.length<=63) (hT:∀p∈tabs,Tb p H) (hL:∀p∈lts,H p=some (.lam #[])) (hS:bH K H a (ns.map V.int)) :
  spLaw K ⟨tabs,lts.zip qs⟩ [.ref a] H (fun v H'=>v=.bl true/\∀p∈lts,∃ps,H' p=some (.lam ps)) fun _ _ _=>False:=
 ⟨a,ns,rfl,hS,hn,hT,fun p hp=>⟨#[],hL p.1 (WR hp).1,trivial,fun pos cv e=>nomatch e⟩,fun H' h=>⟨rfl,fun p hp=>by
  obtain ⟨i,hi⟩:=lc.mp hp
  have h1:=(bn.mp hi).1
  exact h (p,qs[i]) (ci (i:=i) (zn.mpr ⟨hi,ac (by omega)⟩))⟩⟩
theorem uW {α β:Type} {F:α->β->Prop}:∀{l:List α} {m:List β} {i:Nat} {a:α},wp F l m->l[i]?=some a->∃b,m[i]?=some b/\F a b
 |_,_,_,_,.nil,h=>by simp at h
 |_,_,0,_,.cons x _,h=>by simp at h;subst h;exact ⟨_,rfl,x⟩
 |_,_,i+1,_,.cons _ t,h=>by obtain ⟨b,e,q⟩:=uW (i:=i) t (by simpa using h);exact ⟨b,by simpa using e,q⟩
section
variable {Γ:Gz} {X:Cx} {K:ba}
def zCatLP:fB:=fun d e M Q=>match d,e with | .lst ds,.lst es=>ds.length+es.length<=sizeLine/\∀a,M a=none->Q (.ptr a) (aw M a (.lst (ds++es)))|_,_=>False
theorem JQ (hK:X.K=K):fN Γ X (binaryOp .Add) zCatLP:=⟨_,L0,fun β x y d e M H Q Q' _ _ _ m rx ry z q=>by
 unfold zCatLP at z
 split at z
 ·obtain ⟨a,vs,rfl,f,ha,rs⟩:=dD rx
  obtain ⟨b,us,rfl,f2,hb,c6⟩:=dD ry
  refine ⟨a,b,vs,us,rfl,rfl,ha,hb,by rw [rs.len,c6.len];exact z.1,fun p hp=>?_⟩
  have x2:=Ex.own m (.inr hp) (rs.append c6)
  exact q _ _ _ _ x2 (.ptr (by rw [updM_same];rfl)) (z.2 p (m.free hp))
 ·exact z.elim⟩
end
theorem iu {g:b9} {te:aI} (J:List Dv->aC->Mh->Prop):∀{ds acc:List Dv} {τ:aC} {M:Mh} {Q:List Dv->Mh->Prop},J acc τ M->
  (∀i d gM τ M,ds[i]?=some d->gM.length=acc.length+i->J gM τ M->∀R:aC->ZK,(∀y aA M2,J (gM++[y]) aA M2->R aA y M2)->g d τ M fun aA M2=>te aA M2 (R aA))->
  (∀ys τ M,ys.length=ds.length->J (acc++ys) τ M->Q ys M)->ik g zNoIf te ds τ M Q
 | [],acc,τ,M,Q,j,_,q=>q [] τ M rfl (by rw [FM];exact j)
 |d::ds,acc,τ,M,Q,j,h,q=>by
          refine h 0 d acc τ M rfl rfl j (fun aA y M4=>ik g zNoIf te ds aA M4 fun ys M5=>Q (y::ys) M5) fun y aA M2 j2=>?_
          refine iu J (acc:=acc++[y]) j2 (fun i d' gM aV M' e1 e2 j' R hR=>?_) fun ys nN M3 e3 j3=>?_
          ·exact h (i+1) d' gM aV M' e1 (by rw [e2,mf];simp;omega) j' R hR
          ·exact q (y::ys) nN M3 (by simp [e3]) (by rw [KF] at j3;exact j3)
section
variable {X:Cx} {Γ:Gz} {tg elt iter:dL} {ifs:List dL} {scope:wl} {pos:ut} {N':List br} {tn:Nat} {idx:List Nat}
theorem xE {zi:dM} {g:b9} {tt:b7} {te:aI} {i:Nat} {y:br} {py fh:ut} (hN:X.N.Nodup) (cp:X.N[i]?=some y) (hy:X.env.scope.names.lookup y=some .local) (hc:X.calm=true) (B:da X.N X.env.scope scope N' tn idx) (hi:QI Γ X tg iter zi)
  (hg:ir X N' scope fun Y=>QG Γ Y tg g) (ht:ir X N' scope fun Y=>mJ Γ Y ifs tt) (he:ir X N' scope fun Y=>QE Γ Y elt te)
  (my:swapsWith (.ListComp elt [⟨tg,iter,ifs,0⟩] scope pos) (some (.Name y py)) fh.line X.env=pure true :=by rfl)
  (hs:∀x,foldedSetIterable iter X.env x=pure x :=by intro _;rfl):QS Γ X (.Assign [.Name y py] (.ListComp elt [⟨tg,iter,ifs,0⟩] scope pos) fh) (zAsg (zCompP tn idx zi g tt te) (zgName i)):=(yO hN cp hy hc B hi hg ht he my hs).imp fun D σ H h=>rW (fun _ _ _ h=>tF h) h
end
theorem nj {a1 r:cP} {D:g6} {ρ:aC} {M:Mh} (I:aC->Mh->Prop) (h1:∀N:aC->Mh->Prop,(∀ρ M,I ρ M->N ρ M)->a1 {D with nx:=N} ρ M) (h2:∀ρ M,I ρ M->r D ρ M):(zSeq a1 r) D ρ M:=h1 _ h2
theorem P7 {a1 a2 r:cP} {D:g6} {ρ:aC} {M:Mh} (I:aC->Mh->Prop) (h1:∀N:aC->Mh->Prop,(∀ρ M,I ρ M->N ρ M)->(zSeq a1 a2) {D with nx:=N} ρ M) (h2:∀ρ M,I ρ M->r D ρ M):(zSeq a1 (zSeq a2 r)) D ρ M:=h1 _ h2
theorem P8 {a1 a2 a3 r:cP} {D:g6} {ρ:aC} {M:Mh} (I:aC->Mh->Prop) (h1:∀N:aC->Mh->Prop,(∀ρ M,I ρ M->N ρ M)->(zSeq a1 (zSeq a2 a3)) {D with nx:=N} ρ M) (h2:∀ρ M,I ρ M->r D ρ M):(zSeq a1 (zSeq a2 (zSeq a3 r))) D ρ M:=h1 _ h2
theorem P9 {a1 a2 a3 a4 r:cP} {D:g6} {ρ:aC} {M:Mh} (I:aC->Mh->Prop) (h1:∀N:aC->Mh->Prop,(∀ρ M,I ρ M->N ρ M)->(zSeq a1 (zSeq a2 (zSeq a3 a4))) {D with nx:=N} ρ M) (h2:∀ρ M,I ρ M->r D ρ M):(zSeq a1 (zSeq a2 (zSeq a3 (zSeq a4 r)))) D ρ M:=h1 _ h2
theorem Qa {a1 a2 a3 a4 a5 a6 a7 a8 r:cP} {D:g6} {ρ:aC} {M:Mh} (I:aC->Mh->Prop) (h1:∀N:aC->Mh->Prop,(∀ρ M,I ρ M->N ρ M)->(zSeq a1 (zSeq a2 (zSeq a3 (zSeq a4 (zSeq a5 (zSeq a6 (zSeq a7 a8))))))) {D with nx:=N} ρ M) (h2:∀ρ M,I ρ M->r D ρ M):(zSeq a1 (zSeq a2 (zSeq a3 (zSeq a4 (zSeq a5 (zSeq a6 (zSeq a7 (zSeq a8 r)))))))) D ρ M:=h1 _ h2
section
variable {β:Bz} {M M':Mh} {H H':Hp} {a:ag} {o o' o2 qf:Mo}
theorem Rz.dom (hd:∀a,(M a).isSome=(M' a).isSome) {v:V} {d:Dv} (r:Rz β M H v d):Rz β M' H v d:=
 r.nh (M0:=M') (fun a h=>by rw [hd a];exact h) (r.pin.mono fun a h=>by rw [<- hd a];exact h)
theorem jP.dom (hd:∀a,(M a).isSome=(M' a).isSome) (h:jP β M H a o):jP β M' H a o :=by
 cases o with
 |lst ds=>obtain ⟨vs,h1,rs⟩:=h;exact ⟨vs,h1,rs.len,fun i v d x y=>(rs.at' i v d x y).dom hd⟩
 |dJ=>exact h
 |dk ks ds=>obtain ⟨vs,h1,h2,rs⟩:=h;exact ⟨vs,h1,h2,rs.len,fun i v d x y=>(rs.at' i v d x y).dom hd⟩
 |dt ks ds=>obtain ⟨vs,h1,h2,rs⟩:=h;exact ⟨vs,h1,h2,rs.len,fun i v d x y=>(rs.at' i v d x y).dom hd⟩
theorem kj (M:Mh) (a:ag) (o o2:Mo) (b:ag):(aw M a o b).isSome=(aw M a o2 b).isSome :=by
 by_cases e:b=a
 ·subst e;rw [updM_same,updM_same];rfl
 ·rw [ah e,ah e]
theorem lO {b:ag} (o2:Mo) (h:aw M a o b=none):aw M a o2 b=none :=by
 by_cases e:b=a
 ·subst e;rw [updM_same] at h;cases h
 ·rw [ah e] at h ⊢;exact h
theorem Mz.chg (m:Mz β (aw M a o) H) (h2:jP β (aw M a o2) H a o2):Mz β (aw M a o2) H :=by
 refine ⟨fun b u e=>?_,m.tabs,m.hids,fun b u e=>?_,m.lams⟩
 ·by_cases z:b=a
  ·subst z;rw [updM_same] at e;cases e;exact h2
  ·rw [ah z] at e
   exact jP.dom (kj M a o o2) (m.obj b u (by rw [ah z];exact e))
 ·by_cases z:b=a
  ·subst z;exact m.apart b o updM_same
  ·rw [ah z] at e
   exact m.apart b u (by rw [ah z];exact e)
theorem zW (h:M a=some o):aw M a o=M :=by
 funext b
 by_cases e:b=a
 ·subst e;rw [updM_same,h]
 ·rw [ah e]
theorem Ex.chg (x:Ex β (aw M a o) H (aw M a o') H') (h2:jP β (aw M a qf) H' a qf):Ex β (aw M a o2) H (aw M a qf) H':=
 ⟨⟨fun b u h e=>x.keep b u (lO o h) e,fun b h=>by rw [kj M a qf o'];exact x.dom b (by rw [kj M a o o2];exact h),fun b u h e=>lO qf (x.new b u (lO o h) e)⟩,x.mz.chg h2⟩
theorem Ex.sealed (hn:M a=none) (x:Ex β M H (aw M a o') H') (h2:jP β (aw M a qf) H' a qf):Ex β M H (aw M a qf) H':=
 ⟨⟨x.keep,fun b h=>by rw [kj M a qf o'];exact x.dom b h,fun b u h e=>lO qf (x.new b u h e)⟩,x.mz.chg h2⟩
theorem D5 {c m:Int} (z:Mz β (aw M a (.lst [.int c,.int m])) H) (hc:0<=c) (hm:0<=m):jP β (aw M a .dJ) H a .dJ :=by
 obtain ⟨vs,h,rs⟩:=z.obj a _ updM_same
 refine ⟨c,m,?_,hc,hm⟩
 have:=kY (ns:=[c,m]) rs
 rw [h,this]
 rfl
theorem ND (z:Mz β (aw M a .dJ) H):∃c m:Int,0<=c/\0<=m/\jP β (aw M a (.lst [.int c,.int m])) H a (.lst [.int c,.int m]) :=by
 obtain ⟨c,m,h,hc,hm⟩:=z.obj a _ updM_same
 exact ⟨c,m,hc,hm,_,h,ng (ns:=[c,m])⟩
end
section
variable {X:Cx} {Γ:Gz} {K:ba}
def zIxS:fB:=fun d e M Q=>match d,e with | .bI ns,.int i=>(match cY ns i with|some x=>Q (.int x) M|none=>False)|_,_=>False
theorem Ia (hK:X.K=K) (hG:K=Γ.K):Ng Γ X zIxS:=⟨_,zx hK,fun β x y d e M H Q Q' _ _ eK m rx ry z q=>by
 unfold zIxS at z
 split at z
 ·rename_i ns i
  split at z
  ·rename_i v hv
   obtain ⟨a,rfl,hS⟩:=uP rx
   rw [eK,<- hG] at hS
   exact .inl ⟨a,_,i,.int v,rfl,aM ry,hS,JF hv,q _ _ _ _ (.refl m) (.int _) z⟩
  ·exact z.elim
 ·exact z.elim⟩
end
def U9 (k:Nat):br:=⟨#[97+k]⟩
section
variable {κ:Type} [DecidableEq κ]
theorem hZ:∀(ks U:List κ),ks.Nodup->(∀k∈ks,k∈U)->ks.length<=U.length
 | [],_,_,_=>lw _
 |k::ks,U,nd,h=>by
          have hn:=OR.mp nd
          have hk:=h k ff
          have ih:=hZ ks (U.erase k) hn.2 fun x hx=>(List.mem_erase_of_ne (fun e=>hn.1 (by rw [<- e];exact hx))).mpr (h x (db _ hx))
          rw [List.length_erase_of_mem hk] at ih
          have:=List.length_pos_of_mem hk
          rw [Db]
          omega
def To (step:κ->Nat->κ) (met:κ) (w:br) (st:List κ×List br) (a:Nat):List κ×List br:=if step met a∈st.1 then st else (st.1++[step met a],st.2++[w++U9 a])
def visit (step:κ->Nat->κ) (met:κ) (w:br) (n:Nat) (st:List κ×List br):List κ×List br:=(hX n).foldl (To step met w) st
def Rw (step:κ->Nat->κ) (n most:Nat):Nat->Nat->List κ×List br->List κ×List br
 |0,_,st=>st
 |fuel+1,i,st=>match st.1[i]?,st.2[i]? with
  |some met,some w=>if st.1.length<=most then Rw step n most fuel (i+1) (visit step met w n st) else st
  |_,_=>st
def met (step:κ->Nat->κ) (n most N:Nat) (s:κ):List κ×List br:=Rw step n most (N+1) 0 ([s],[""])
theorem zX {α:Type} {ks:List κ} {ds:List α} {k:κ} {d:α} (h:k ∉ ks):putL ks k=ks++[k]/\dF ks ds k d=ds++[d] :=by
 unfold putL dF
 rw [if_neg h,if_neg h]
 exact ⟨rfl,rfl⟩
theorem qg {Va:Type} {f:κ->Va} (hf:∀a b,f a=f b->a=b) {x:κ} {ks:List κ}:f x∈ks.map f ↔ x∈ks :=by
 constructor
 ·intro h
  obtain ⟨y,hy,e⟩:=i8.mp h
  rw [<- hf _ _ e];exact hy
 ·exact fun h=>List.mem_map_of_mem h
end
def Tp (p q:dM):dM:=fun ρ M R=>p ρ M R\/q ρ M R
theorem Ib {Γ:Gz} {X:Cx} {tg e:dL} {p q:dM} (h1:QI Γ X tg e p) (h2:QI Γ X tg e q):QI Γ X tg e (Tp p q):=fun pins s σ H R I h=>by
 obtain ⟨β,ρ,M,R',zr,hp|hq,k⟩:=h
 ·exact h1 pins s σ H R I ⟨β,ρ,M,R',zr,hp,k⟩
 ·exact h2 pins s σ H R I ⟨β,ρ,M,R',zr,hq,k⟩
def cw (M:Mh):List ag->Mh
 | []=>M
 |c::S=>cI (cw M S) c
theorem iw {M:Mh} {b:ag}:∀{S:List ag},b∈S->cw M S b=none
 |c::S,h=>by
          show cI _ c b=none
          by_cases e:b=c
          ·rw [e,dn]
          ·rw [bU e]
           rcases io.mp h with z|z
           ·exact absurd z e
           ·exact iw z
theorem iJ {M:Mh} {b:ag}:∀{S:List ag},b ∉ S->cw M S b=M b
 | [],_=>rfl
 |c::S,h=>by
          show cI _ c b=_
          rw [bU (fun e=>h (by rw [e];exact ff))]
          exact iJ fun z=>h (db _ z)
theorem so {M:Mh} {b:ag} {S:List ag} (h:M b=none):cw M S b=none :=by
 by_cases e:b∈S
 ·exact iw e
 ·rw [iJ e];exact h
theorem kc {M:Mh} {b:ag} {o:Mo} {S:List ag} (h:cw M S b=some o):b ∉ S/\M b=some o :=by
 by_cases e:b∈S
 ·rw [iw e] at h;cases h
 ·rw [iJ e] at h;exact ⟨e,h⟩
section
variable {X:Cx} {Γ:Gz} {β:Bz}
theorem Rz.vP {M:Mh} {H:Hp} {v:V} {d:Dv} (n:nP d):∀{S:List ag},(∀c∈S,∃us,H c=some (.lst us))->Rz β (cw M S) H v d->Rz β M H v d
 | [],_,h=>h
 |c::S,hS,h=>by
          obtain ⟨us,hc⟩:=hS c ff
          exact Rz.vP n (fun x hx=>hS x (db _ hx)) (Rz.grow hc h n)
theorem Bi {M:Mh} {ρ:aC} {σ:St} {H:Hp} {i:Nat} {a:ag} {bs:List ag} {rs:List (List Int)} (z:Zr Γ β M ρ σ H) (hi:ρ[i]?=some (some (.ptr a))) (ha:M a=some (.lst (bs.map .ptr))) (hlen:bs.length=rs.length) (hb:∀(j:Nat) (b:ag) (r:List Int),bs[j]?=some b->rs[j]?=some r->M b=some (.lst (r.map .int))) (h0:Γ.M0 a=none) (pZ:∀b∈bs,Γ.M0 b=none)
  (fr:Froz Γ.M0 (cw M (a::bs)) (ρ.set i (some (.lst (rs.map b8))))) (hn:∀b o,M b=some o->b ∉ a::bs->∀d∈o.items,nP d) :
  Zr Γ β (cw M (a::bs)) (ρ.set i (some (.lst (rs.map b8)))) σ H/\∀H2,Ex β (cw M (a::bs)) H (cw M (a::bs)) H2->Ex β M H M H2/\∀c∈a::bs,∃us,H2 c=some (.lst us) :=by
 have jM:i<ρ.length:=(bn.mp hi).1
 have mb:∀b∈bs,∃r:List Int,M b=some (.lst (r.map .int)):=fun b jg=>by
  obtain ⟨j,hj⟩:=lc.mp jg
  have zY:j<rs.length :=by rw [<- hlen];exact (bn.mp hj).1
  exact ⟨rs[j],hb j b _ hj (ac zY)⟩
 have S0:∀c∈a::bs,Γ.M0 c=none:=fun c hc=>by
  rcases io.mp hc with e|e
  ·rw [e];exact h0
  ·exact pZ c e
 have SM:∀c∈a::bs,∃ds,M c=some (.lst ds):=fun c hc=>by
  rcases io.mp hc with e|e
  ·rw [e];exact ⟨_,ha⟩
  ·obtain ⟨r,hr⟩:=mb c e;exact ⟨_,hr⟩
 have Tq:∀c,(cw M (a::bs) c).isSome=true->(M c).isSome=true:=fun c hc=>by
  cases e:cw M (a::bs) c with
  |none=>rw [e] at hc;cases hc
  |some o=>rw [(kc e).2];rfl
 have rz:∀{v:V} {d:Dv},Rz β M H v d->Pin (cw M (a::bs)) d->Rz β (cw M (a::bs)) H v d:=fun r p=>r.nh (M0:=cw M (a::bs)) Tq p
 have obj:∀b es,cw M (a::bs) b=some es->∀d∈es.items,Pin (cw M (a::bs)) d:=fun b es e d hd=>by
  rcases fr.obj b es e with w|w
  ·refine (z.wf b es w d hd).mono fun c hc=>?_
   have nc:c ∉ a::bs:=fun y=>by rw [S0 c y] at hc;cases hc
   rw [iJ nc]
   exact z.ent.dom c hc
  ·exact w d hd
 have mz:Mz β (cw M (a::bs)) H :=by
  refine ⟨fun b o e=>?_,z.mz.tabs,z.mz.hids,fun b o e=>z.mz.apart b o (kc e).2,z.mz.lams⟩
  have w:=z.mz.obj b o (kc e).2
  cases o with
  |lst es=>obtain ⟨vs,hv,rs⟩:=w;exact ⟨vs,hv,rs.len,fun j v d x y=>rz (rs.at' j v d x y) (obj b _ e d (ci y))⟩
  |dk ks es=>obtain ⟨vs,hv,hk,rs⟩:=w;exact ⟨vs,hv,hk,rs.len,fun j v d x y=>rz (rs.at' j v d x y) (obj b _ e d (ci y))⟩
  |dt ks es=>obtain ⟨vs,hv,hk,rs⟩:=w;exact ⟨vs,hv,hk,rs.len,fun j v d x y=>rz (rs.at' j v d x y) (obj b _ e d (ci y))⟩
  |dJ=>exact w
 obtain ⟨vs,Ic,Rx⟩:=z.mz.obj a _ ha
 have ra:Rz β (cw M (a::bs)) H (.ref a) (.lst (rs.map b8)) :=by
  refine .lst ⟨iw ff,z.mz.apart a _ ha⟩ Ic (by rw [Rx.len,cb,cb,hlen]) fun j v d x y=>?_
  rw [c8,kt] at y
  obtain ⟨r,hr,rfl⟩:=y
  have Ry:j<bs.length :=by rw [hlen];exact (bn.mp hr).1
  have RA:=ac Ry
  have r1:=Rx.at' j v (.ptr bs[j]) x (by rw [c8,RA];rfl)
  obtain ⟨rfl,_⟩:=bJ r1
  have jg:=r9 Ry
  have zZ:=hb j _ r RA hr
  obtain ⟨us,hu,ru⟩:=z.mz.obj _ _ zZ
  have eu:=kY ru
  subst eu
  exact .lst ⟨iw (db _ jg),z.mz.apart _ _ zZ⟩ hu (by simp) fun k v d x y=>ng.at' k v d x y
 have z2:Zr Γ β (cw M (a::bs)) (ρ.set i (some (.lst (rs.map b8)))) σ H :=by
  refine ⟨z.eP,z.ew,z.eK,z.et,z.sub,z.wf,⟨z.ent.keep,fun b cF=>?_,fun b o m h=>so (z.ent.new b o m h)⟩,mz,by simp [z.len],fun j d e=>?_⟩
  ·have nb:b ∉ a::bs:=fun y=>by rw [S0 b y] at cF;cases cF
   rw [iJ nb];exact z.ent.dom b cF
  ·have pj:=fr.env j d e
   rw [Wz] at e
   split at e
   ·rename_i w
    subst w
    first
     |cases e
     |(rw [if_pos jM] at e;cases e)
    obtain ⟨v,hv,r⟩:=z.at' i _ hi
    obtain ⟨rfl,_⟩:=bJ r
    exact ⟨_,hv,ra⟩
   ·obtain ⟨v,hv,r⟩:=z.at' j d e
    exact ⟨v,hv,rz r pj⟩
 refine ⟨z2,fun H2 x=>?_⟩
 have uD:∀c∈a::bs,∃us,H2 c=some (.lst us):=fun c hc=>by
  obtain ⟨ds,hd⟩:=SM c hc
  obtain ⟨us,hu,_⟩:=z.mz.obj c _ hd
  exact ⟨us,x.get (iw hc) hu rfl⟩
 have ey:Ey M H M H2:=⟨fun b o cF ho=>x.keep b o (so cF) ho,fun _ h=>h,fun _ _ h _=>h⟩
 refine ⟨⟨ey,⟨fun b o cF=>?_,x.mz.tabs,x.mz.hids,z.mz.apart,x.mz.lams⟩⟩,uD⟩
 by_cases z4:b∈a::bs
 ·obtain ⟨ds,hd⟩:=SM b z4
  rw [hd] at cF
  cases cF
  obtain ⟨us,hu,ru⟩:=z.mz.obj b _ hd
  exact ⟨us,x.get (iw z4) hu rfl,ru.len,fun i v d p q=>(ru.at' i v d p q).ey ey⟩
 ·have w:=x.mz.obj b o (by rw [iJ z4];exact cF)
  cases o with
  |dJ=>exact w
  |lst ds=>
   obtain ⟨us,hu,ru⟩:=w
   exact ⟨us,hu,ru.len,fun i v d p q=>(ru.at' i v d p q).vP (hn b _ cF z4 d (ci q)) uD⟩
  |dk ks ds=>
   obtain ⟨us,hu,hk,ru⟩:=w
   exact ⟨us,hu,hk,ru.len,fun i v d p q=>(ru.at' i v d p q).vP (hn b _ cF z4 d (ci q)) uD⟩
  |dt ks ds=>
   obtain ⟨us,hu,hk,ru⟩:=w
   exact ⟨us,hu,hk,ru.len,fun i v d p q=>(ru.at' i v d p q).vP (hn b _ cF z4 d (ci q)) uD⟩
def JR (i:Nat) (M0:Mh) (p:b7):b7:=fun ρ M Q=>∃(a:ag) (bs:List ag) (rs:List (List Int)),ρ[i]?=some (some (.ptr a))/\M a=some (.lst (bs.map .ptr))/\bs.length=rs.length/\(∀(j:Nat) (b:ag) (r:List Int),bs[j]?=some b->rs[j]?=some r->M b=some (.lst (r.map .int)))/\M0 a=none/\(∀b∈bs,M0 b=none) /\
 Froz M0 (cw M (a::bs)) (ρ.set i (some (.lst (rs.map b8))))/\(∀b o,M b=some o->b ∉ a::bs->∀d∈o.items,nP d) /\
 p (ρ.set i (some (.lst (rs.map b8)))) (cw M (a::bs)) fun d M2=>M2=cw M (a::bs)/\Q d M
theorem GC (i:Nat) {M1:Mh} {e:dL} {p:b7} (hM:Γ.M0=M1) (h:QT Γ X e p):QT Γ X e (JR i M1 p):=h.imp fun σ H Q hS=>by
 obtain ⟨β,ρ,M,Q',z,⟨a,bs,rs,hi,ha,hlen,hb,h0,pZ,fr,hn,hp⟩,q⟩:=hS
 subst hM
 obtain ⟨z2,back⟩:=Bi z hi ha hlen hb h0 pZ fr hn
 refine ⟨β,_,_,_,z2,hp,fun d M2 H2 x hq=>?_⟩
 obtain ⟨e,hq⟩:=hq
 subst e
 exact q d M H2 (back H2 x).1 hq
end
end L2
namespace L2
open PySem PySem.Spec PySem.W PyProof.Rows
section
variable {prog:gc} {w:i0} {K:Type} [DecidableEq K] {knd:HeapKind prog w K} {A:l8} {E:ap->ar->Prop} {s:ar}
theorem JS {d a:ag} {xs:List (K×ag×ap)} {k:K} {v:ap} {Q:ap->ar->Prop} (hu:knd.room A) (md:knd.is s.heap k a) (hm:s.heap.DictOfH knd d xs)
  (h1:∀y,(atKey xs k).map (·.2)=some y->Q y {s with toks:=s.toks+knd.draws k})
  (h2:(atKey xs k).map (·.2)=none->∀h',h'.DictOfH knd d (storedH xs k a v)->v6 d s.heap h'->Q v {s with heap:=h',toks:=s.toks+knd.draws k})
  (hsz:xs.length<=sizeLine):wpAny (model prog w) A (dictSetDefault d (.ref a) v) Q E s :=by
 obtain ⟨o,es,ep,ho,hc,hd,he,RB,hn⟩:=hm
 unfold dictSetDefault
 try with_reducible refine At ?_
 refine al (knd.pyHash hu md ?_)
 refine al (wpAny_dictFind_heap (s:={s with toks:=s.toks+knd.draws k}) hu md ho hd he RB hn ?_ ?_)
 ·intro xF
  have Tr:k ∉ xs.map (·.1):=not_mem_keys_of_get xF
  have sr:=atKey_none_of_get xF
  refine al (EN (al (wpAny_updateDictKeys (hz :=by have e:=size_of_entries he;omega) (s:={s with toks:=s.toks+knd.draws k}) ho hd (ca (h2 (by rw [sr];rfl) _ ⟨_,_,ep+1,B0 _ ho (l3.isFreed_of_dict (l3.data_mapDictKeys hd _)),
   hc.mapDictKeys _,l3.data_mapDictKeys hd _,?_,?_,?_⟩ (AE ..))))))
  ·rw [storedH_new sr]
   simp [he,entryOfKey]
  ·rw [storedH_new sr]
   intro x hx
   rcases l6.mp hx with hx|hx
   ·exact knd.keeps (RB x hx) ho hd (AE ..)
   ·simp only [jp] at hx
    subst hx
    exact knd.keeps md ho hd (AE ..)
  ·rw [storedH_new sr]
   rw [mo,KB]
   refine ⟨hn,by simp,?_⟩
   intro x hx y hy
   simp only [nw,UV,jp] at hy
   subst hy
   exact fun e=>Tr (e▸hx)
 ·intro j p hj
  have sr:=atKey_of_get hn hj
  refine al (wpAny_dictEntries (s:={s with toks:=s.toks+knd.draws k}) ho hd ?_)
  rw [entry_at he j,hj]
  exact al (EN (ca (h1 _ (by rw [sr];rfl))))
theorem vw (knd:HeapKind prog w K) (d a:ag) (hd:(d==sysModules)=false) (dflt:ap) :
  MeetsIn prog w (uu.«dict.setdefault» ⟨[.ref d,.ref a,dflt],[]⟩) (fun A R s=>knd.room A.in1/\∃k xs,knd.is s.heap k a/\s.heap.DictOfH knd d xs/\xs.length<=sizeLine /\
   (∀v,(atKey xs k).map (·.2)=some v->R (.ok (.ret v)) {s with toks:=s.toks+knd.draws k}) /\
   ((atKey xs k).map (·.2)=none->∀h',h'.DictOfH knd d (storedH xs k a dflt)->v6 d s.heap h'->R (.ok (.ret dflt)) {s with heap:=h',toks:=s.toks+knd.draws k})):=
 .of_wp fun A R s hh=>by
  obtain ⟨hu,k,xs,md,hm,hz,h1,h2⟩:=hh
  unfold uu.«dict.setdefault»
  refine al ?_
  unfold uu.Dict.keyAndDefault
  refine al (wpAny_notOrdered_dict hm.typeIs ?_)
  show wpAny _ _ (pure (d,mT a,some dflt)) _ _ s
  refine ca ?_
  show wpAny _ _ (if (d==sysModules)=true then _ else (dictSetDefault d (mT a) dflt>>=_)) _ _ s
  rw [if_neg (by rw [hd];exact im)]
  exact al (JS hu md hm (fun v hv=>ca ⟨v,rfl,h1 v hv⟩) (fun hn h' wC iE=>ca ⟨dflt,rfl,h2 hn h' wC iE⟩) hz)
end
section
variable {X:Cx} {pins:List (ag×l3)} {σ:St} {H:Hp} {s:ar} {a b:ag} {A:l8} {E:ap->ar->Prop}
theorem xG {av:List (List Key×V)} {k:List Key} {d:V} {r:ap} {Q:ap->ar->Prop} (hu:A.units+1<cLine) (I:Inv X pins σ H s) (e:H a=some (.dT av)) (eb:H b=some (.tup (k.map kV))) (l:av.length<sizeLine) (rd:RelV d r)
  (h1:∀v,fT av k=some v->∀w' s',Inv X pins σ H s'->RelV v w'->Q w' s') (h2:fT av k=none->∀s',Inv X pins σ (upd H a (.dT (putK av k d))) s'->Q r s') :
  wpAny (model X.prog X.w) A (call (.builtin "dict.setdefault") [.ref a,.ref b,r]) Q E s :=by
 obtain ⟨z,hd,xs,rel,dd⟩:=vL I.hok e
 have hz:xs.length<=sizeLine :=by rw [<- GS rel];exact z
 have hl:(putK av k d).length<=sizeLine :=by have:=gT av k d;omega
 have rv:=rel.val k
 refine WY PySem.F.slot_dict_setdefault dd.typeIs PySem.F.entry_dict_setdefault (PySem.F.args_dict_setdefault_3 _ _ _) (vw (tupleKind (bO X.prog X.w)) a b hd r) ⟨LP hu,k,xs,iT I.hok eb,dd,hz,fun y hy=>?_,fun hn h' mF hs=>?_⟩
 ·rw [hy] at rv
  cases hv:fT av k with
  |none=>rw [hv] at rv;exact rv.elim
  |some v=>rw [hv] at rv;exact h1 v hv _ _ (I.tok _) rv
 ·rw [hn] at rv
  cases hv:fT av k with
  |some v=>rw [hv] at rv;exact rv.elim
  |none=>
   obtain ⟨q,es,ep,hq,g2,g3,g4,_,g5⟩:=mF
   refine h2 hv _ (kh I (by rw [e];exact GT) hs ⟨q,hq⟩ ⟨hl,hd,_,(rel.put k eb rd).keeps fun c ys ec=>?_,q,es,ep,hq,g2,g3,g4,g5⟩)
   rw [aj (qX ec e (fun z=>nomatch z))]
   exact ec
end
def JT:V->List V->Hp->VK->Prop:=fun x xs H Q=>∃a b k av d,x=.ref a/\xs=[.ref b,d]/\H a=some (.dT av)/\H b=some (.tup (k.map kV))/\av.length<sizeLine/\(∀v,fT av k=some v->Q v H)/\(fT av k=none->Q d (upd H a (.dT (putK av k d))))
theorem D6 {X:Cx} (hu:X.A.units+64<cLine):wj X "dict.setdefault" JT :=by
 intro pins s σ H x xs v us Q I rx rs h
 obtain ⟨a,b,k,av,d,rfl,rfl,e,eb,l,h1,h2⟩:=h
 cases (show v=mT a from rx)
 cases rs with
 |cons r1 rs=>cases rs with
  |cons r2 rs=>
   cases rs
   rename_i u1 u2
   cases (show u1=mT b from r1)
   exact xG (by omega) I e eb l r2 (fun v hv w' s' I' f9=>⟨v,H,I',f9,h1 v hv⟩) fun hn s' I'=>⟨d,_,I',r2,h2 hn⟩
def zSetDef:oM:=fun d ds M Q=>match d,ds with
 | .ptr a,[.tup es,x]=>(match M a,fY es with|some (.dt ks vs),some k=>ks.length<sizeLine/\(match look ks vs k with|some r=>Q r M|none=>Q x (aw M a (.dt (ks++[k]) (vs++[x]))))|_,_=>False)
 |_,_=>False
theorem GD {Γ:Gz} {X:Cx} {K:ba} (hu:X.A.units+64<cLine):sf Γ X "dict" "dict.setdefault" K zSetDef:=⟨_,D6 hu,fun β x xs d ds M H Q Q' eP ew eK m r rs z q=>by
 unfold zSetDef at z
 split at z
 ·rename_i a es y
  obtain ⟨rfl,hs⟩:=bJ r
  obtain ⟨x1,x2,rfl,r1,r2⟩:=jq rs
  split at z
  ·rename_i ks vs k hM hk
   obtain ⟨us,ha,hl,Ie⟩:=m.obj a _ hM
   obtain ⟨b,ws,rfl,_,hb,rb⟩:=cC r1
   rw [js rb hk] at hb
   obtain ⟨z1,z2⟩:=z
   refine ⟨a,b,k,_,x2,rfl,rfl,ha,hb,by rw [Pd,<- hl,GE];exact z1,fun v hv=>?_,fun hn=>?_⟩
   ·rw [jr] at hv
    cases lN:look ks vs k with
    |none=>rw [k6 k ks vs us Ie.len.symm lN] at hv;cases hv
    |some r0=>
     obtain ⟨ov,e1,e2,e3⟩:=qG Ie lN
     rw [jr,hv] at e1
     subst e1
     obtain ⟨v',ev,NF⟩:=e3 r0 rfl
     cases ev
     simp only [lN] at z2
     exact q _ _ _ _ (.refl m) NF z2
   ·rw [jr] at hn
    have Ig:k ∉ ks:=(jR hl).mp hn
    have lN:look ks vs k=none:=(jR (hl.trans Ie.len)).mpr Ig
    simp only [lN] at z2
    have hp:(M a).isSome=true :=by rw [hM];rfl
    have x4:Ex β M H (aw M a (.dt (putL ks k) (dF ks vs k y))) (upd H a (.dT ((putL ks k).zip (dF ks us k x2)))):=Ex.Gd m (.inl hp) (k7 hl k x2) (k8 k r2 Ie)
    rw [pI hl]
    rw [show putL ks k=ks++[k] from if_neg Ig,show dF ks vs k y=vs++[y] from if_neg Ig] at x4
    rw [show putL ks k=ks++[k] from if_neg Ig]
    exact q _ _ _ _ x4 (r2.ex x4) z2
  ·exact z.elim
 ·exact z.elim⟩
def fm {α:Type} (R:Nat->Int) (n:Nat):KasT α->(α->Prop)->Prop
 | .ret a,Q=>Q a
 | .ask i j k,Q=>i<n/\j<n/\fm R n (k (decide (R i<R j))) Q
theorem iK {α β:Type} {R:Nat->Int} {n:Nat} {f:α->KasT β} {Q:β->Prop}:∀{t:KasT α},fm R n t (fun a=>fm R n (f a) Q)->fm R n (t.bind f) Q
 | .ret _,h=>h
 | .ask _ _ k,h=>⟨h.1,h.2.1,iK (t:=k _) h.2.2⟩
structure Pm (n:Nat) (p:Array Nat):Prop where
 sz:p.size=n
 pm:p.toList.Perm (hX n)
theorem Pm.lt {n:Nat} {p:Array Nat} (h:Pm n p) {k:Nat} (hk:k<n):p.getD k 0<n :=by
 have jL:k<p.size :=by rw [h.sz];exact hk
 have e:p.getD k 0=p[k] :=by simp [WV,jL]
 rw [e]
 have:p[k]∈p.toList :=by simp
 exact ul.mp (h.pm.mem_iff.mp this)
theorem Pm.of {n:Nat} {p p':Array Nat} (h:Pm n p) (hs:p'.size=p.size) (hp:p'.Perm p):Pm n p':=⟨hs.trans h.sz,(Array.perm_iff_toList_perm.mp hp).trans h.pm⟩
def rk (R:Nat->Int) (p:Array Nat) (k:Nat):Int:=R (p.getD k 0)
theorem jt (p:Array Nat) (k:Nat):p.getD k 0=(p[k]?).getD 0 :=by simp [Array.getD_eq_getD_getElem?]
theorem su (R:Nat->Int) {p:Array Nat} {i j:Nat} (hj:j<=p.size) (k:Nat):rk R (kas_rev p i j) k=if i<=k/\k<j then rk R p (i+j - 1 - k) else rk R p k :=by
 unfold rk kas_rev
 rw [jt,getElem?_mirror_all hj k]
 split <;> rw [jt]
theorem D7 (R:Nat->Int) {p:Array Nat} {src d:Nat} (hs:src<p.size) (hd:d<=src) (k:Nat):rk R (bubble p src d) k=if k=src - d then rk R p src else if src - d<k/\k<=src then rk R p (k - 1) else rk R p k :=by
 unfold rk
 rw [jt,jt p src,jt p (k - 1),jt p k,getElem?_bubble hs d hd k]
 by_cases h1:k=src - d
 ·rw [if_pos h1,if_pos h1]
 ·rw [if_neg h1,if_neg h1]
  by_cases h2:src - d<k/\k<=src
  ·rw [if_pos h2,if_pos h2]
  ·rw [if_neg h2,if_neg h2]
def oT (R:Nat->Int) (p:Array Nat) (m:Nat):Prop:=∀a b,a<=b->b<m->rk R p a<=rk R p b
def qh (R:Nat->Int) (p:Array Nat) (m:Nat):Prop:=∀a b,a<=b->b<m->rk R p b<=rk R p a
section
variable {R:Nat->Int} {n:Nat}
theorem xH {p:Array Nat} (hp:Pm n p) {Q:Nat->Prop}:∀(f m:Nat),oT R p m->1<=m->m+f<=n->(∀m',m<=m'->m'<=m+f->oT R p m'->(m'<m+f->rk R p m'<rk R p (m' - 1))->Q m')->fm R n (kas_asc p f m) Q
 |0,m,ha,h1,hn,q=>q m (ce _) (ce _) ha (fun h=>absurd h (Do _))
 |f+1,m,ha,h1,hn,q=>by
          refine ⟨hp.lt (by omega),hp.lt (by omega),?_⟩
          show fm R n (if decide (rk R p m<rk R p (m - 1))=true then _ else _) Q
          by_cases h:rk R p m<rk R p (m - 1)
          ·rw [decide_eq_true h,if_pos rfl]
           exact q m (ce _) (by omega) ha (fun _=>h)
          ·rw [decide_eq_false h,if_neg im]
           refine xH hp f (m+1) (fun a b dC hb=>?_) (by omega) (by omega) fun m' h2 h3 h4 h5=>q m' (by omega) (by omega) h4 (fun z=>h5 (by omega))
           rcases LS b m with z|z
           ·exact ha a b dC z
           ·have eb:b=m :=by omega
            subst eb
            rcases LS a b with y|y
            ·have:=ha a (b - 1) (by omega) (by omega)
             omega
            ·have:a=b :=by omega
             subst this
             exact GG _
theorem qh.rev {p:Array Nat} {m i:Nat} (hm:m<=p.size) (h:qh R p m) (he:∀k,i<=k->k<m->rk R p k=rk R p (m - 1)):qh R (kas_rev p i m) m/\∀k,rk R (kas_rev p i m) k=rk R p k :=by
 have e:∀k,rk R (kas_rev p i m) k=rk R p k:=fun k=>by
  rw [su R hm]
  split
  ·rename_i z
   rw [he (i+m - 1 - k) (by omega) (by omega),he k z.1 z.2]
  ·rfl
 exact ⟨fun a b dC hb=>by rw [e a,e b];exact h a b dC hb,e⟩
theorem Pm.rev {p:Array Nat} (h:Pm n p) (i j:Nat):Pm n (kas_rev p i j):=h.of (mirror_size _ _ _ _) (mirror_perm _ _ _ _)
theorem pK {Q:Array Nat×Nat×Nat->Prop}:∀(f:Nat) (p:Array Nat) (m q:Nat),Pm n p->qh R p m->(∀k,m - (q+1)<=k->k<m->rk R p k=rk R p (m - 1))->q+1<=m->m+f<=n->
  (∀p' m' q',Pm n p'->qh R p' m'->(∀k,m' - (q'+1)<=k->k<m'->rk R p' k=rk R p' (m' - 1))->q'+1<=m'->m'<=n->Q (p',m',q'))->fm R n (kas_desc f p m q) Q
 |0,p,m,q,hp,hd,he,hq,hn,k=>k p m q hp hd he hq (by omega)
 |f+1,p,m,q,hp,hd,he,hq,hn,k=>by
          have hsz:=hp.sz
          refine ⟨hp.lt (by omega),hp.lt (by omega),?_⟩
          show fm R n (if decide (rk R p m<rk R p (m - 1))=true then _ else _) Q
          by_cases h:rk R p m<rk R p (m - 1)
          ·rw [decide_eq_true h,if_pos rfl]
           have more:∀p',Pm n p'->(∀k,rk R p' k=rk R p k)->qh R p' (m+1):=fun p' _ e a b dC hb=>by
            rw [e a,e b]
            rcases LS b m with z|z
            ·exact hd a b dC z
            ·have eb:b=m :=by omega
             subst eb
             rcases LS a b with y|y
             ·have:=hd a (b - 1) (by omega) (by omega)
              omega
             ·have:a=b :=by omega
              subst this
              exact GG _
           have one:∀p':Array Nat,∀k,m+1 - (0+1)<=k->k<m+1->rk R p' k=rk R p' (m+1 - 1):=fun p' k h1 h2=>by rw [show k=m by omega];rfl
           by_cases RC:q > 0
           ·rw [if_pos RC]
            obtain ⟨_,e⟩:=qh.rev (i:=m - (q+1)) (show m<=p.size by omega) hd he
            exact pK f _ (m+1) 0 (hp.rev _ _) (more _ (hp.rev _ _) e) (one _) (by omega) (by omega) k
           ·rw [if_neg RC]
            exact pK f p (m+1) 0 hp (more p hp fun _=>rfl) (one p) (by omega) (by omega) k
          ·rw [decide_eq_false h,if_neg im]
           refine ⟨hp.lt (by omega),hp.lt (by omega),?_⟩
           show fm R n (if decide (rk R p (m - 1)<rk R p m)=true then _ else _) Q
           by_cases h2:rk R p (m - 1)<rk R p m
           ·rw [decide_eq_true h2,if_pos rfl]
            exact k p m q hp hd he hq (by omega)
           ·rw [decide_eq_false h2,if_neg im]
            have e:rk R p m=rk R p (m - 1) :=by omega
            refine pK f p (m+1) (q+1) hp (fun a b dC hb=>?_) (fun x h3 h4=>?_) (by omega) (by omega) k
            ·rcases LS b m with z|z
             ·exact hd a b dC z
             ·have eb:b=m :=by omega
              subst eb
              rcases LS a b with y|y
              ·rw [e];exact hd a (b - 1) (by omega) (by omega)
              ·have:a=b :=by omega
               subst this
               exact GG _
            ·show rk R p x=rk R p m
             rcases LS x m with z|z
             ·rw [e];exact he x (by omega) z
             ·rw [show x=m by omega]
theorem xI {m:Nat} {p:Array Nat} (hp:Pm n p) (hd:qh R p m) (h1:1<=m) (hm:m<=n) {Q:Nat×Array Nat->Prop} (q:∀m' p',Pm n p'->oT R p' m'->1<=m'->m'<=n->Q (m',p')):fm R n (kas_tail3 m n p) Q :=by
 have hsz:=hp.sz
 refine iK (xH (hp.rev 0 m) (n - m) m (fun a b dC hb=>?_) h1 (by omega) fun m' h2 h3 h4 _=>q m' _ (hp.rev 0 m) h4 (by omega) (by omega))
 rw [su R (by omega),su R (by omega),if_pos ⟨by omega,by omega⟩,if_pos ⟨by omega,by omega⟩]
 exact hd _ _ (by omega) (by omega)
theorem qi {m:Nat} {p:Array Nat} (hp:Pm n p) (hd:qh R p (m+1)) (hm:m+1<=n) {Q:Nat×Array Nat->Prop} (q:∀m' p',Pm n p'->oT R p' m'->1<=m'->m'<=n->Q (m',p')):fm R n (kas_descPart m n p) Q :=by
 refine iK (pK (n - (m+1)) p (m+1) 0 hp hd (fun k h1 h2=>by rw [show k=m by omega];rfl) (by omega) (by omega) fun p' m' q' uX jI he hq hn=>?_)
 have hsz:=uX.sz
 show fm R n (if q' > 0 then kas_tail3 m' n (kas_rev p' (m' - (q'+1)) m') else kas_tail3 m' n p') Q
 by_cases h:q' > 0
 ·rw [if_pos h]
  exact xI (uX.rev _ _) (qh.rev (by omega) jI he).1 (by omega) hn q
 ·rw [if_neg h]
  exact xI uX jI (by omega) hn q
theorem GF {p:Array Nat} (hp:Pm n p) (h1:1<=n) {Q:Nat×Array Nat->Prop} (q:∀m' p',Pm n p'->oT R p' m'->1<=m'->m'<=n->Q (m',p')):fm R n (kas_count n p) Q :=by
 have hsz:=hp.sz
 refine iK (xH hp (n - 1) 1 (fun a b dC hb=>by rw [show a=b by omega];exact GG _) (ce _) (by omega) fun m h2 h3 h4 h5=>?_)
 by_cases e:m=n
 ·rw [if_pos (by simpa using e)]
  exact q m p hp h4 h2 (by omega)
 ·rw [if_neg (by simpa using e)]
  have bb:=h5 (by omega)
  by_cases hm:m > 1
  ·rw [if_pos hm]
   refine ⟨hp.lt (by omega),hp.lt (by omega),?_⟩
   show fm R n (if decide (rk R p 0<rk R p (m - 1))=true then _ else _) Q
   by_cases h:rk R p 0<rk R p (m - 1)
   ·rw [decide_eq_true h,if_pos rfl]
    exact q m p hp h4 (by omega) (by omega)
   ·rw [decide_eq_false h,if_neg im]
    have eq:∀k,k<m->rk R p k=rk R p (m - 1):=fun k hk=>by
     have a1:=h4 k (m - 1) (by omega) (by omega)
     have a2:=h4 0 k (by omega) hk
     omega
    have er:∀k,rk R (kas_rev p 0 m) k=rk R p k:=fun k=>by
     rw [su R (by omega)]
     split
     ·rename_i z
      rw [eq (0+m - 1 - k) (by omega),eq k z.2]
     ·rfl
    refine qi (hp.rev 0 m) (fun a b dC hb=>?_) (by omega) q
    rw [er,er]
    rcases LS b m with z|z
    ·rw [eq a (by omega),eq b z];exact GG _
    ·have eb:b=m :=by omega
     subst eb
     rcases LS a b with y|y
     ·rw [eq a y];omega
     ·rw [show a=b by omega];exact GG _
  ·rw [if_neg hm]
   have em:m=1 :=by omega
   subst em
   refine qi hp (fun a b dC hb=>?_) (by omega) q
   have bb:rk R p 1<rk R p 0:=bb
   match a,b,dC,hb with
   |0,0,_,_=>exact GG _
   |0,1,_,_=>omega
   |1,1,_,_=>exact GG _
   |a,b+2,_,hb=>omega
   |a+2,b,h,hb=>omega
   |1,0,h,_=>omega
theorem qI {p:Array Nat} (hp:Pm n p) {k:Nat} (hk:k<n) (ha:oT R p k) {Q:Nat->Prop}:∀(f l r:Nat),r - l<=f->l<=r->r<=k->(∀a,a<l->rk R p a<=rk R p k)->(∀a,r<=a->a<k->rk R p k<rk R p a)->
  (∀l,l<=k->(∀a,a<l->rk R p a<=rk R p k)->(∀a,l<=a->a<k->rk R p k<rk R p a)->Q l)->fm R n (kas_place p k f l r) Q
 |0,l,r,hf,hl,hr,h1,h2,q=>q l (by omega) h1 (fun a x y=>h2 a (by omega) y)
 |f+1,l,r,hf,hl,hr,h1,h2,q=>by
          unfold kas_place
          by_cases e:l ≥ r
          ·rw [if_pos e]
           exact q l (by omega) h1 (fun a x y=>h2 a (by omega) y)
          ·rw [if_neg e]
           refine ⟨hp.lt hk,hp.lt (by omega),?_⟩
           show fm R n (if decide (rk R p k<rk R p ((l+r) / 2))=true then _ else _) Q
           by_cases h:rk R p k<rk R p ((l+r) / 2)
           ·rw [decide_eq_true h,if_pos rfl]
            refine qI hp hk ha f l ((l+r) / 2) (by omega) (by omega) (by omega) h1 (fun a x y=>?_) q
            have:=ha ((l+r) / 2) a x y
            omega
           ·rw [decide_eq_false h,if_neg im]
            refine qI hp hk ha f ((l+r) / 2+1) r (by omega) (by omega) hr (fun a x=>?_) h2 q
            have:=ha a ((l+r) / 2) (by omega) (by omega)
            omega
theorem D8 {Q:Array Nat->Prop}:∀(f:Nat) (p:Array Nat) (k:Nat),Pm n p->oT R p k->k+f=n->(∀p',Pm n p'->oT R p' n->Q p')->fm R n (kas_bin f p k) Q
 |0,p,k,hp,ha,hn,q=>q p hp (by rw [<- hn];exact ha)
 |f+1,p,k,hp,ha,hn,q=>by
          have hsz:=hp.sz
          refine iK (qI hp (by omega) ha k 0 k (by omega) (by omega) (ce _) (fun a h=>by omega) (fun a h1 h2=>by omega) fun l hl h1 h2=>?_)
          refine D8 f _ (k+1) (hp.of (bubble_size _ _ _) (bubble_perm _ _ _)) (fun a b dC hb=>?_) (by omega) q
          have hd:k - (k - l)=l :=by omega
          rw [D7 R (by omega) (by omega),D7 R (by omega) (by omega),hd]
          by_cases a1:a=l
          ·rw [if_pos a1]
           by_cases b1:b=l
           ·rw [if_pos b1];exact GG _
           ·rw [if_neg b1,if_pos ⟨by omega,by omega⟩]
            exact Int.le_of_lt (h2 (b - 1) (by omega) (by omega))
          ·rw [if_neg a1]
           by_cases b1:b=l
           ·rw [if_pos b1,if_neg (by omega)]
            exact h1 a (by omega)
           ·rw [if_neg b1]
            by_cases a2:l<a/\a<=k
            ·rw [if_pos a2,if_pos ⟨by omega,by omega⟩]
             exact ha _ _ (by omega) (by omega)
            ·rw [if_neg a2]
             by_cases b2:l<b/\b<=k
             ·rw [if_pos b2]
              exact ha _ _ (by omega) (by omega)
             ·rw [if_neg b2]
              exact ha _ _ dC (by omega)
theorem JU (h1:1<=n) {Q:Array Nat->Prop} (q:∀p,Pm n p->oT R p n->Q p):fm R n (kas_sort n) Q :=by
 have h0:Pm n (Op (hX n)):=⟨by simp,by simp⟩
 refine iK (GF h0 h1 fun m p hp ha lC T7=>?_)
 show fm R n (if m<n then kas_bin (n - max m 1) p (max m 1) else .ret p) Q
 have em:max m 1=m :=by omega
 rw [em]
 by_cases h:m<n
 ·rw [if_pos h]
  exact D8 _ p m hp ha (by omega) q
 ·rw [if_neg h]
  exact q p hp (by rw [show n=m by omega];exact ha)
end
theorem xJ {α:Type} {cmp:Nat->Nat->(Bool->ar->Prop)->ar->Prop} {I:ar->Prop} {R:Nat->Int} {n:Nat} (hc:∀i j C s,i<n->j<n->I s->(∀s',I s'->C (decide (R i<R j)) s')->cmp i j C s):∀(t:KasT α) (Q:α->ar->Prop) (s:ar),I s->fm R n t (fun a=>∀s',I s'->Q a s')->t.kasWp cmp Q s
 | .ret _,Q,s,hI,h=>h s hI
 | .ask i j k,Q,s,hI,h=>hc i j _ s h.1 h.2.1 hI fun s' Vb=>xJ hc (k _) Q s' Vb h.2.2
theorem sv:∀a:List Int,HT.lexLt a a=false
 | []=>rfl
 |x::a=>by rw [HT.j5,if_pos rfl];exact sv a
theorem lg:∀{a b c:List Int},HT.lexLt a b=true->HT.lexLt b c=true->HT.lexLt a c=true
 | [],[],_,h,_=>by cases h
 | [],_::_,[],_,h=>by cases h
 | [],_::_,_::_,_,_=>rfl
 |_::_,[],_,h,_=>by cases h
 |_::_,_::_,[],_,h=>by cases h
 |x::a,y::b,z::c,h1,h2=>by
          rw [HT.j5] at h1 h2 ⊢
          by_cases e1:x=y
          ·subst e1
           rw [if_pos rfl] at h1
           by_cases e2:x=z
           ·subst e2
            rw [if_pos rfl] at h2 ⊢
            exact lg h1 h2
           ·rw [if_neg e2] at h2 ⊢
            exact h2
          ·rw [if_neg e1] at h1
           have h1:=of_decide_eq_true h1
           by_cases e2:y=z
           ·subst e2
            rw [if_neg e1]
            exact decide_eq_true h1
           ·rw [if_neg e2] at h2
            have h2:=of_decide_eq_true h2
            rw [if_neg (by omega)]
            exact decide_eq_true (by omega)
theorem sx:∀{a b:List Int},HT.lexLt a b=false->HT.lexLt b a=false->a=b
 | [],[],_,_=>rfl
 | [],_::_,h,_=>by cases h
 |_::_,[],_,h=>by cases h
 |x::a,y::b,h1,h2=>by
          rw [HT.j5] at h1 h2
          by_cases e:x=y
          ·subst e
           rw [if_pos rfl] at h1 h2
           rw [sx h1 h2]
          ·rw [if_neg e] at h1
           rw [if_neg (wE e)] at h2
           have h1:=of_decide_eq_false h1
           have h2:=of_decide_eq_false h2
           exact absurd (show x=y by omega) e
def uY (rows:List (List Int)) (r:List Int):Int:=(rows.countP fun x=>HT.lexLt x r:Nat)
theorem uZ {α:Type} {p q:α->Bool} (NI:∀x,p x=true->q x=true):∀{l:List α} {a:α},a∈l->q a=true->p a=false->l.countP p<l.countP q
 |x::l,a,h,hq,hp=>by
          have le:l.countP p<=l.countP q:=List.countP_mono_left fun x _=>NI x
          rcases io.mp h with rfl|h
          ·rw [List.countP_cons_of_neg (by simp [hp]),List.countP_cons_of_pos hq]
           omega
          ·have ih:=uZ NI h hq hp
           rw [List.countP_cons,List.countP_cons]
           by_cases e:p x=true
           ·rw [if_pos e,if_pos (NI x e)];omega
           ·rw [if_neg e]
            split <;> omega
theorem D9 {rows:List (List Int)} {a b:List Int} (ha:a∈rows):decide (uY rows a<uY rows b)=HT.lexLt a b :=by
 unfold uY
 cases h:HT.lexLt a b with
 |true=>
  refine decide_eq_true ?_
  have:=uZ (p:=fun x=>HT.lexLt x a) (q:=fun x=>HT.lexLt x b) (fun x hx=>lg hx h) ha h (sv a)
  omega
 |false=>
  refine decide_eq_false ?_
  have:rows.countP (fun x=>HT.lexLt x b)<=rows.countP (fun x=>HT.lexLt x a):=List.countP_mono_left fun x _ hx=>by
   cases h2:HT.lexLt b a with
   |true=>exact lg hx h2
   |false=>rw [sx h h2];exact hx
  omega
def gh (h:ij) (v:ap) (row:List Int):Prop:=∃b o xs n,v=.ref b/\h.get? b=some o/\o.cls=.type "tuple" /\ o.data=.seq xs n/\Me xs.toList row/\row≠[]
section
variable {prog:gc} {w:i0} {A:l8} {E:ap->ar->Prop} {s:ar}
theorem qj {fin:Bool} {Q:Bool->ar->Prop}:∀{us ws:List ap} {ns ms:List Int} (i:Nat),Me us ns->Me ws ms->fin=decide (us.length<ws.length)->Q (HT.lexLt ns ms) s->KatLex prog w A true fin Q (us.zip ws) i s
 | [],[],[],[],i,_,_,hf,q=>by
          refine kat_nil ?_
          rw [hf]
          exact q
 | [],y::ws,[],m::ms,i,_,_,hf,q=>by
          refine kat_nil ?_
          rw [hf]
          exact q
 |x::us,[],n::ns,[],i,_,_,hf,q=>by
          refine kat_nil ?_
          rw [hf]
          exact q
 |x::us,y::ws,n::ns,m::ms,i,hu,hw,hf,q=>by
          cases hu with
          |cons _ t hu=>
          cases hw with
          |cons _ t2 hw=>
          rw [HT.j5] at q
          refine kat_cons (PySem.SeqAt.EqAt.int_int n t m t2 prog w _ _ (kat_go (fun e=>kat_yes ?_) (fun e=>kat_no ?_)))
          ·have e:n=m :=by simpa using e
           rw [if_pos e] at q
           exact qj (i+1) hu hw (by rw [hf];simp) q
          ·have e:n≠m :=by simpa using e
           rw [if_neg e] at q
           cases hi:(i==0) with
           |true=>exact oneLt_int q
           |false=>exact kat_one _ _ (PyProof.Rows.lt_int q)
theorem Bj {v1 v2:ap} {r1 r2:List Int} {Q:Bool->ar->Prop} (h1:gh s.heap v1 r1) (h2:gh s.heap v2 r2) (q:Q (HT.lexLt r1 r2) s):wpAny (model prog w) A (keyLt' (tuples' true) v1 v2) Q E s :=by
 obtain ⟨b,o,xs,n,rfl,ho,hc,hd,hi,_⟩:=h1
 obtain ⟨b2,o2,V9,n2,rfl,Vc,Ea,hd2,cZ,_⟩:=h2
 exact kat_lt ho hd Vc hd2 (qj 0 hi cZ (by simp) q)
theorem sy:∀{vs:List ap} {rows:List (List Int)},wp (fun v r=>gh s.heap v r) vs rows->∃fs,KatTups s.heap vs fs/\fs.length=vs.length/\∀f∈fs,∃n t,f=.int n t
 | [],[],_=>⟨[],.nil,rfl,fun _ h=>nomatch h⟩
 |v::vs,r::rows,h=>by
          obtain ⟨r',Qb,e,hv,ht⟩:=jC h
          cases e
          obtain ⟨fs,k1,k2,k3⟩:=sy ht
          obtain ⟨b,o,xs,n,rfl,ho,hc,hd,hi,e8⟩:=hv
          obtain ⟨ls⟩:=xs
          cases hi with
          |nil=>exact absurd rfl e8
          |cons m t hi=>exact ⟨_,.cons ho hc hd (f:=.int m t) (by simp) k1,by simp [k2],fun f hf=>by
            rcases io.mp hf with rfl|hf
            ·exact ⟨_,_,rfl⟩
            ·exact k3 f hf⟩
theorem tO {a:ag} {vs:List ap} {rows:List (List Int)} {n:Nat} {P:PySem.Fin->ar->Prop} (ho:s.heap.get? a=some (seqObj "list" vs.toArray n))
  (hr:wp (fun v r=>gh s.heap v r) vs rows) (rS:vs.length<64)
  (h:∀(p:Array Nat),Pm vs.length p->(∀i j,i<=j->j<vs.length->HT.lexLt (rows.getD (p.getD j 0) []) (rows.getD (p.getD i 0) [])=false)->P (.done (.ret .none)) {s with heap:=sortedHeap s.heap a vs (Op (p.toList.map fun i=>vs.getD i xz))}) :
  wpAny (model prog w) A (uu.«list.sort» ⟨[.ref a],[]⟩) P E s :=by
 rw [list_sort_plain]
 have ha:a<s.heap.objs.size:=ii ho
 have RD:vs.length=rows.length:=GS hr
 refine al (listItems_at ho rfl ?_)
 refine al (Xn ho rfl ?_ (by rw [cr,LF];omega) (lw _))
 obtain ⟨e1,C2⟩:∃e1,(s.heap.update a (ES fun _=>(#[]:Array ap))).get? a=some (seqObj "list" #[] e1):=⟨_,get?_update_seq ho fun _=>#[]⟩
 refine al (seqEpoch_at C2 rfl ?_)
 refine al (Xa ?_ (by show vs.length<=_;rw [LF];omega))
 refine al (Xm ?_ (lw _))
 refine At ?_
 have Eb:(((s.heap.update a (ES fun _=>#[])).push (seqObj "tuple" vs.toArray 0)).push (seqObj "list" #[] 0)).get? a=some (seqObj "list" #[] e1) :=by
  rw [WA _ _ _ (by rw [size_push',WK];exact kw (xp ha)),WA _ _ _ (by rw [WK];exact kw ha)]
  exact C2
 show wpAny (model prog w) A _ P E {s with heap:=((s.heap.update a (ES fun _=>(#[]:Array ap))).push (seqObj "tuple" vs.toArray 0)).push (seqObj "list" #[] 0)}
 obtain ⟨hh,NK⟩:∃hh,hh=((s.heap.update a (ES fun _=>(#[]:Array ap))).push (seqObj "tuple" vs.toArray 0)).push (seqObj "list" #[] 0):=⟨_,rfl⟩
 rw [<- NK] at Eb ⊢
 have keep:∀b o,b≠a->s.heap.get? b=some o->hh.get? b=some o:=fun b o hb e=>by
  have bb:=ii e
  rw [NK,WA _ _ _ (by rw [size_push',WK];exact kw (xp bb)),WA _ _ _ (by rw [WK];exact kw bb),ij.get?_update_ne _ _ _ _ hb]
  exact e
 have tr:∀{v r},gh s.heap v r->gh hh v r:=fun h=>by
  obtain ⟨b,o,xs,n,rfl,fV,hc,hd,hi⟩:=h
  exact ⟨b,o,xs,n,rfl,keep b o (fun z=>by subst z;rw [ho] at fV;injection fV with fV;subst fV;injection hc with hc;exact absurd hc (by decide)) fV,hc,hd,hi⟩
 have z9:wp (fun v r=>gh hh v r) vs rows:=wp.imp' (fun _ _ h=>tr h) hr
 dsimp only
 have hsz:vs.toArray.size=vs.length :=by simp
 have fin:∀p:Array Nat,Pm vs.length p->(∀i j,i<=j->j<vs.length->HT.lexLt (rows.getD (p.getD j 0) []) (rows.getD (p.getD i 0) [])=false)->P (.done (.ret .none)) {s with heap:=hh.update a (ES fun _=>Op (p.toList.map fun i=>vs.getD i xz))}:=fun p h1 h2=>by
  have:=h p h1 h2
  unfold sortedHeap at this
  rw [<- NK] at this
  exact this
 by_cases h2:vs.toArray.size<2
 ·rw [if_pos h2,if_pos h2]
  refine al (ca ?_)
  rw [StateT.run_pure]
  refine al (ca ?_)
  dsimp only
  refine al (seqEpoch_at Eb rfl ?_)
  have eo:((arrOf (SortSt.mk' general' (vs.toArray.zip vs.toArray) #[] 7 none)).map (·.2))=Op ((Op (hX vs.length)).toList.map fun i=>vs.getD i xz) :=by
   refine kat_snds (ks:=vs) (vs:=vs) rfl (p:=Op (hX vs.length)) ?_
   have e:vs.length=(vs.toArray.zip vs.toArray).size :=by simp
   rw [e]
   exact (kas_range _).symm
  rw [eo]
  refine al (Xn Eb rfl ?_ (lw _) (by simp only [cr,cb,JJ,LF];omega))
  simp only [bne_self_eq_false,l9,if_false]
  refine ca (fin (Op (hX vs.length)) ⟨by simp,by simp⟩ fun i j wI hj=>?_)
  have:i=j :=by omega
  subst this
  exact sv _
 ·rw [if_neg h2,if_neg h2]
  obtain ⟨fs,k1,k2,k3⟩:=sy (s:={s with heap:=hh}) z9
  refine al (kat_kind (T:=.type "int") k1 (by omega) (fun v hv=>by obtain ⟨m,t,rfl⟩:=k3 v hv;exact Looks.of_pure rfl) (by decide) ?_)
  have GH:∀i,i<vs.length->∃r,gh hh (vs.getD i xz) (rows.getD i [])/\rows.getD i []∈rows/\r=rows.getD i []:=fun i hi=>by
   have hv:vs[i]?=some (vs.getD i xz) :=by simp [hi]
   obtain ⟨r,er,Md⟩:=uW z9 hv
   have e:rows.getD i []=r :=by simp [er]
   exact ⟨_,by rw [e];exact Md,by rw [e];exact ci er,rfl⟩
  refine al (lm (kat_run (κ:=tuples' true) (ks:=vs) (vs:=vs) (Q:=fun mq s'=>∃p:Array Nat,Pm vs.length p/\oT (fun i=>uY rows (rows.getD i [])) p vs.length/\arrOf mq=p.map (kas_item (vs.toArray.zip vs.toArray))/\failedOf mq=none/\s'={s with heap:=hh})
   rfl (by omega) rS (G:=fun p s'=>Pm vs.length p/\oT (fun i=>uY rows (rows.getD i [])) p vs.length/\s'={s with heap:=hh}) (fun p' mq s' a1 a2 a3 a4=>⟨p',a4.1,a4.2.1,a2,a3,a4.2.2⟩) ?_) ?_ fun _ _ e=>e)
  ·refine xJ (I:=fun s'=>s'={s with heap:=hh}) (R:=fun i=>uY rows (rows.getD i [])) (n:=vs.length) (fun i j C s' hi hj hI hC=>?_) _ _ _ rfl (JU (by omega) fun p h1 h2 s' iE=>⟨h1,h2,iE⟩)
   subst hI
   obtain ⟨_,t1,m1,_⟩:=GH i hi
   obtain ⟨_,t2,_,_⟩:=GH j hj
   refine Bj (s:={s with heap:=hh}) t1 t2 ?_
   rw [<- D9 m1]
   exact hC _ rfl
  ·intro r s' hs
   obtain ⟨_,mq⟩:=r
   obtain ⟨p,hp,hA,RE,hf,rfl⟩:=hs
   dsimp only at RE hf ⊢
   have Ts:=kat_snds (ks:=vs) (vs:=vs) rfl RE
   refine al (seqEpoch_at Eb rfl ?_)
   rw [Ts]
   refine al (Xn Eb rfl ?_ (lw _) (by rw [cr,cb,u4,hp.sz,LF];omega))
   rw [hf]
   simp only [bne_self_eq_false,l9,if_false]
   refine ca (fin p hp fun i j wI hj=>?_)
   have zY:=hp.lt hj
   obtain ⟨_,_,m1,_⟩:=GH _ zY
   rw [<- D9 m1]
   have:=hA i j wI hj
   refine decide_eq_false ?_
   have this:uY rows (rows.getD (p.getD i 0) [])<=uY rows (rows.getD (p.getD j 0) []):=this
   omega
end
def lP (rs:List (List Int)):List (List Int):=rs.mergeSort fun a b => !HT.lexLt b a
theorem sA (rs:List (List Int)):(lP rs).Perm rs:=List.mergeSort_perm _ _
theorem yP {a b c:List Int} (h1:HT.lexLt b a=false) (h2:HT.lexLt c b=false):HT.lexLt c a=false :=by
 cases h:HT.lexLt c a with
 |false=>rfl
 |true=>
  cases h3:HT.lexLt a b with
  |true=>rw [lg h h3] at h2;cases h2
  |false=>
   have:=sx h3 h1
   subst this
   rw [h] at h2;cases h2
theorem GI (rs:List (List Int)):(lP rs).Pairwise fun a b=>HT.lexLt b a=false :=by
 have:=List.pairwise_mergeSort (le:=fun a b => !HT.lexLt b a) (fun a b c h1 h2=>by
  simp only [Bool.not_eq_true'] at *
  exact yP h1 h2) (fun a b=>by
  cases h:HT.lexLt b a with
  |false=>rfl
  |true=>
   cases h2:HT.lexLt a b with
   |false=>rfl
   |true=>have:=lg h h2;rw [sv] at this;cases this) rs
 exact this.imp fun h=>by simpa using h
theorem xK {ms rs:List (List Int)} (p:ms.Perm rs) (h:ms.Pairwise fun a b=>HT.lexLt b a=false):ms=lP rs:=
 Pc.eq_of_pairwise (le:=fun a b=>HT.lexLt b a=false) (fun x y _ _ h1 h2=>sx h2 h1) h (GI rs) (p.trans (sA rs).symm)
def GJ (H:Hp) (v:V) (r:List Int):Prop:=∃a,v=.ref a/\H a=some (.tup (r.map V.int))/\r≠[]
def NM (K:ba):List V->Hp->VK->Prop:=fun xs H Q=>∃p vs rows,xs=[.ref p]/\(H p=some (.lst vs)\/H p=some (.tup vs))/\wp (GJ H) vs rows/\vs.length<64/\∀l (is:List Nat),H l=none->(∀i∈is,i<vs.length)->(is.map fun i=>rows.getD i [])=lP rows->Q (.ref l) (upd H l (.lst (is.map fun i=>vs.getD i .au)))
section
variable {X:Cx} {P:gc} {w:i0} {A:l8} {E:ap->ar->Prop} {s:ar}
theorem yQ {a:ap} {us:List ap} {rows:List (List Int)} {Q:ap->ar->Prop} (FV:∀QL:List ap->ar->Prop,(∀h',(∀b o,s.heap.get? b=some o->h'.get? b=some o)->QL us {s with heap:=h'})->wpAny (model P w) A.in1 (collect a) QL E s)
  (hr:wp (fun v r=>gh s.heap v r) us rows) (rS:us.length<64)
  (h:∀(h1 h':ij) (is:List Nat) e,(∀i∈is,i<us.length)->(is.map fun i=>rows.getD i [])=lP rows->(∀b o,s.heap.get? b=some o->h1.get? b=some o)->(∀b o,h1.get? b=some o->h'.get? b=some o)->h'.get? h1.objs.size=some {cls:=.type "list",data:=.seq (is.map fun i=>us.getD i xz).toArray e}->Q (.ref h1.objs.size) {s with heap:=h'}) :
  wpAny (model P w) A (call (.builtin "sorted") [a]) Q E s :=by
 refine Calls.call_function_entry kind_sorted plain_sorted entry_sorted (args_sorted1 _) ?_
 unfold uu.«sorted»
 refine al (m:=checkCount "sorted" 1 1 _) (ca ?_)
 refine al (FV _ fun h' hk=>?_)
 refine al (Xm ?_ (hsz:=ln (LG rS) (by decide)))
 have qY:(h'.push (seqObj "list" us.toArray 0)).get? h'.objs.size=some (seqObj "list" us.toArray 0):=en _ rfl
 have z9:wp (fun v r=>gh (h'.push (seqObj "list" us.toArray 0)) v r) us rows:=wp.imp' (fun v r t=>by
  obtain ⟨b,o,xs,n,rfl,ho,z⟩:=t
  exact ⟨b,o,xs,n,rfl,bv _ (hk _ _ ho),z⟩) hr
 have hl:=GS hr
 refine al (At (xb slot_list_sort ⟨_,qY,rfl⟩ entry_list_sort (tO qY z9 rS fun p hp ha=>⟨_,rfl,?_⟩) (args_list_sort _)))
 refine ca ⟨_,rfl,?_⟩
 obtain ⟨e,he⟩:=sortedHeap_at (out:=Op (p.toList.map fun i=>us.getD i xz)) qY
 refine h h' _ p.toList e (fun i hi=>?_) (xK ?_ ?_) hk (fun b o hb=>?_) he
 ·have:=hp.pm.mem_iff.mp hi
  exact ul.mp this
 ·have q:=hp.pm.map fun i=>rows.getD i []
  refine q.trans (Pc.of_eq ?_)
  rw [hl]
  refine XD (by simp) fun i h1 h2=>?_
  simp only [XG,Pf]
  rw [bi,ac h2]
  rfl
 ·rw [List.pairwise_iff_getElem]
  intro i j hi hj wI
  simp only [cb,u4] at hi hj
  have hsz:=hp.sz
  have:=ha i j (LG wI) (by omega)
  simp only [XG,Array.getElem_toList]
  have e1:p.getD i 0=p[i] :=by simp [WV,hi]
  have e2:p.getD j 0=p[j] :=by simp [WV,hj]
  rw [e1,e2] at this
  exact this
 ·have bb:=ii hb
  rw [sortedHeap_old (kw bb) (by rw [ww];exact xp bb)]
  exact bv _ hb
theorem Bk {vs:List V} {us:List ap} (r:Vals vs us) (is:List Nat) (h:∀i∈is,i<vs.length):Vals (is.map fun i=>vs.getD i .au) (is.map fun i=>us.getD i xz) :=by
 induction is with
 |nil=>exact .nil
 |cons i is ih=>
  refine .cons ?_ (ih fun j hj=>h j (db _ hj))
  have hi:=h i (ff ..)
  have e:vs[i]?=some (vs.getD i .au) :=by simp [hi]
  have hl:=r.length
  have e2:us[i]?=some (us.getD i xz) :=by simp [show i<us.length by omega]
  obtain ⟨u,e3,q⟩:=r.get e
  rw [e2] at e3
  cases e3
  exact q
theorem Bm {K:ba} (hK:X.K=K):cq X (.builtin "sorted") (NM K) :=by
 subst hK
 intro pins s σ H xs us Q I r h
 obtain ⟨p,vs,rows,rfl,hq,hr,rS,q⟩:=h
 obtain ⟨u,rfl,rx⟩:=vals1 r
 cases rx
 have hsz:sizeLine=16777216:=LF
 have tr:∀{vs:List V} {its:List ap} {rows:List (List Int)},Vals vs its->wp (GJ H) vs rows->wp (fun v r=>gh s.heap v r) its rows :=by
  intro vs
  induction vs with
  |nil=>intro its rows rv hr;cases rv;cases hr;exact .nil
  |cons v vs ih=>
   intro its rows rv hr
   cases rv with
   |cons r1 NF=>
   obtain ⟨rr,Qb,rfl,hv,ht⟩:=jC hr
   obtain ⟨a,rfl,ha,e8⟩:=hv
   cases r1
   obtain ⟨ts,rt,⟨o,ho,cE,n,hd⟩,_⟩:=I.tuple (.inl (.inl ha))
   exact .cons ⟨a,o,_,n,rfl,ho,cE,hd,vJ rt,e8⟩ (ih NF ht)
 obtain ⟨its,rv,Qc⟩:∃its:List ap,Vals vs its/\∀QL:List ap->ar->Prop,(∀h',(∀b o,s.heap.get? b=some o->h'.get? b=some o)->QL its {s with heap:=h'})->wpAny (model X.prog X.w) X.A.in1 (collect (.ref p)) QL X.xe s :=by
  rcases hq with hq|hq
  ·obtain ⟨its,rv,pl,hz⟩:=I.list (.inl (.inl hq))
   have hl:=rv.length
   obtain ⟨o,ho,cE,n,hd⟩:=pl.isList
   exact ⟨its,rv,fun QL w9=>jD ho cE hd (.inl rfl) (fun h' k=>w9 h' k) (by omega)⟩
  ·obtain ⟨its,rv,pl,hz⟩:=I.tuple (.inl (.inl hq))
   have hl:=rv.length
   obtain ⟨o,ho,cE,n,hd⟩:=pl
   exact ⟨its,rv,fun QL w9=>jD ho cE hd (.inr rfl) (fun h' k=>w9 h' k) (by omega)⟩
 have hl:=rv.length
 refine yQ Qc (tr rv hr) (by omega) (fun h1 h' is e hi hs k1 k2 he=>?_)
 have I1:Inv X pins σ H {s with heap:=h1}:=(I.kept (t':=s.toks) k1).oe ⟨rfl,rfl,I.bare.self⟩
 have cp:∀i∈is,i<vs.length:=fun i h=>by have:=hi i h;omega
 have Wa:is.length=rows.length :=by
  have:=congrArg List.length hs
  rw [cb,(sA rows).length_eq] at this
  exact this
 have Wb:=GS hr
 have ob:ObjOk X.prog X.w (upd H h1.objs.size (.lst (is.map fun i=>vs.getD i .au))) h' h1.objs.size (.lst (is.map fun i=>vs.getD i .au)):=⟨by rw [cb];omega,_,e,Bk rv is cp,he⟩
 exact ⟨.ref h1.objs.size,_,I1.laid (t':=s.toks) k2 (ce _) ob,rfl,q _ is (I1.hok.fresh (ce _)) cp hs⟩
end
def rowD?:Dv->Option (List Int)
 | .tup ds=>iX ds
 |_=>none
def lQ:List Dv->Option (List (List Int))
 | []=>some []
 |d::ds=>(rowD? d).bind fun r=>(lQ ds).map (r::·)
theorem u0:∀rs:List (List Int),lQ (rs.map eI)=some rs
 | []=>rfl
 |r::rs=>by simp [lQ,rowD?,lK,u0 rs]
theorem xM:∀{ds:List Dv} {rs:List (List Int)},lQ ds=some rs->ds=rs.map eI
 | [],rs,h=>by simp only [lQ,EM] at h;subst h;rfl
 |d::ds,rs,h=>by
          simp only [lQ,Ws,kt] at h
          obtain ⟨r,hr,RF,h,rfl⟩:=h
          cases d with
          |tup es=>rw [xM h,qD (ns:=r) hr];rfl
          |_=>simp [rowD?] at hr
def zSortT (d:Dv) (M:Mh) (Q:ZK):Prop:=match (itemsM M d).bind lQ with|some rs=>rs.length<64/\(∀r∈rs,r≠[])/\Q (.lst ((lP rs).map eI)) M|none=>False
theorem Aa {β:Bz} {M:Mh} {H:Hp}:∀{vs:List V} {rs:List (List Int)},aL β M H vs (rs.map eI)->(∀r∈rs,r≠[])->wp (GJ H) vs rs
 | [],[],_,_=>.nil
 | [],_::_,r,_=>absurd r.len (by simp)
 |_::_,[],r,_=>absurd r.len (by simp)
 |v::vs,x::rs,r,h=>by
          rw [nw] at r
          obtain ⟨a,us,rfl,_,ha,hu⟩:=cC r.head
          have:=kY hu
          subst this
          exact .cons ⟨a,rfl,ha,h x (ff ..)⟩ (Aa r.tail fun y hy=>h y (db _ hy))
theorem xN {β:Bz} {M:Mh} {H:Hp} {vs:List V} {rs:List (List Int)} (h:aL β M H vs (rs.map eI)):∀is:List Nat,(∀i∈is,i<vs.length)->aL β M H (is.map fun i=>vs.getD i .au) ((is.map fun i=>rs.getD i []).map eI)
 | [],_=>.nil
 |i::is,hi=>by
          have h1:=hi i (ff ..)
          have hl:=h.len
          rw [cb] at hl
          refine .cons (h.at' i _ _ (by simp [h1]) ?_) (xN h is fun j hj=>hi j (db _ hj))
          simp [show i<rs.length by omega]
theorem JV {Γ:Gz} {X:Cx} {K:ba} (hK:X.K=K):fg Γ X (.builtin "sorted") (z1 zSortT):=⟨_,Bm hK,fun β xs ds M H Q Q' eP ew _ m rs z q=>by
 unfold z1 at z
 split at z
 ·rename_i d
  obtain ⟨x,rfl,r⟩:=cN rs
  unfold zSortT at z
  split at z
  ·rename_i rows Qd
   obtain ⟨ds,e1,e2⟩:=Ws.mp Qd
   obtain ⟨a,vs,rfl,ha,c6⟩:=ip m r e1
   have:=xM e2
   subst this
   have RG:=c6.len
   rw [cb] at RG
   refine ⟨a,vs,rows,rfl,ha,Aa c6 z.2.1,by rw [RG];exact z.1,fun l is hl hi hs=>?_⟩
   have x2:=Ex.lay m hl (.lst (is.map fun i=>vs.getD i .au))
   refine q _ _ _ _ x2 (kT (m.fz hl) aK ((?_:aL β M H _ _).ex x2)) z.2.2
   rw [<- hs]
   exact xN c6 is hi
  ·exact z.elim
 ·exact z.elim⟩
end L2
namespace L2
open PySem PySem.Spec PyProof.Rows
theorem GK (elt tg iter j0 cW:dL) (ifs i6:List dL) (scope:wl) (pos:ut) (it acc:ap) (env:IR) :
  compTurn (.ListComp elt [⟨tg,iter,ifs,0⟩,⟨j0,cW,i6,0⟩] scope pos) 0 it acc env =
   turnB (.ListComp elt [⟨tg,iter,ifs,0⟩,⟨j0,cW,i6,0⟩] scope pos) tg iter ifs 0 it acc env (rq (.ListComp elt [⟨tg,iter,ifs,0⟩,⟨j0,cW,i6,0⟩] scope pos) cW 1 acc env) :=by
 unfold turnB rq
 simp only [bind_assoc]
 rfl
theorem Ec (elt tg iter j0 cW:dL) (ifs i6:List dL) (scope:wl) (pos:ut) (it acc:ap) (env:IR) :
  compTurn (.ListComp elt [⟨tg,iter,ifs,0⟩,⟨j0,cW,i6,0⟩] scope pos) 1 it acc env =
   turnB (.ListComp elt [⟨tg,iter,ifs,0⟩,⟨j0,cW,i6,0⟩] scope pos) j0 cW i6 1 it acc env (do let _ <- call (.builtin "list.append") [acc,<- eval elt env]) :=by
 rfl
theorem u3 (k v tg iter:dL) (ifs:List dL) (scope:wl) (pos:ut) (it:ap) (D:ag) (env:IR) :
  compTurn (.DictComp k v [⟨tg,iter,ifs,0⟩] scope pos) 0 it (.ref D) env =
   turnB (.DictComp k v [⟨tg,iter,ifs,0⟩] scope pos) tg iter ifs 0 it (.ref D) env (do
    let kv <- eval k env
    let vv <- holding [kv] (eval v env)
    standAt {k.pos with endLine:=v.pos.endLine,endCol:=v.pos.endCol}
    holding [kv,vv] (dictSet D kv vv)) :=by
 rfl
section
variable {Y:Cx}
def sC (wi:TI) (g:TG) (tt:TT) (tb:TB):TB:=fun τ H Q=>wi τ H fun J H1=>∃W:Nat->Nat->St->Hp->Prop,(∃m,W 0 m τ H1)/\tLoop J g tt tb Q W
theorem JW {e tg iter:dL} {ifs:List dL} {dp:Nat} {acc:ap} {body:Rs Unit} {wi:TI} {g:TG} {tt:TT} {tb:TB} (hc:Y.calm=true) (rA:∀x s,Y.xe x s->False) (C:wx Y e tg iter ifs dp acc body)
  (hi:PI Y tg iter wi) (hg:PG Y tg g) (ht:gR Y ifs tt) (hb:PB Y body tb) (hs:∀x,foldedSetIterable iter Y.env x=pure x):PB Y (rq e iter dp acc Y.env) (sC wi g tt tb) :=by
 intro pins s τ H Q I q
 unfold rq
 refine al (lm (hi pins s τ H _ I q) (fun xv s1 h1=>?_) fun _ _ z=>z)
 refine al (AM (al (X2 (hs xv) (al (At (lm h1 (fun nT s2 h2=>?_) fun _ _ z=>z))))))
 obtain ⟨it,fp,cy,J,H2,e2,I2,T,iC,f2,W,⟨m0,w0⟩,turn⟩:=h2
 subst e2
 refine al (wpAny_runOwn (h:=none) ?_)
 exact mV C T iC (nY hc rA C hg ht hb T turn I2 iC f2 w0 fun aV H' s' I' q'=>ca ⟨aV,H',I',q'⟩)
end
section
variable {X:Cx} {pins:List (ag×l3)} {σ:St} {H:Hp} {s:ar} {a:ag} {y v:V} {u r:ap} {A:l8} {E:ap->ar->Prop}
theorem Ed {H':Hp} {Q:Unit->ar->Prop} (hu:A.units+1<cLine) (I:Inv X pins σ H s) (g:A9 H a y v H') (ry:RelV y u) (rv:RelV v r) (h:∀s',Inv X pins σ H' s'->Q () s') :
  wpAny (model X.prog X.w) A (dictSet a u r) Q E s :=by
 rcases g with ⟨av,k,e,ey,l,eH⟩|⟨av,k,b,e,ey,eb,l,eH⟩
 ·subst ey eH
  obtain ⟨z,hd,vs,rel,dd⟩:=HP I.hok e
  have hz:vs.length<=sizeLine :=by rw [<- rel.length];exact z
  have hl:(putK av k v).length<=sizeLine :=by have:=gT av k v;omega
  refine wpAny_dictSet_pairs (hsz:=hz) (m4 ry) dd fun h' mF hs=>h _ ?_
  have he:∃q,h'.get? a=some q:=let ⟨q,_,_,hq,_⟩:=mF;⟨q,hq⟩
  exact kh I (by rw [e];exact GT) hs he (Du hl hd (rel.put k rv) mF)
 ·subst ey eH
  cases (show u=mT b from ry)
  obtain ⟨z,hd,xs,rel,dd⟩:=vL I.hok e
  have hz:xs.length<=sizeLine :=by rw [<- GS rel];exact z
  have hl:(putK av k v).length<=sizeLine :=by have:=gT av k v;omega
  refine wpAny_dictSet_heap (hsz:=hz) (show (tupleKind (bO X.prog X.w)).room A from Nat.lt_of_succ_lt hu) (iT I.hok eb) dd fun h' mF hs=>h _ ?_
  obtain ⟨q,es,ep,hq,h2,h3,h4,_,h5⟩:=mF
  refine kh I (by rw [e];exact GT) hs ⟨q,hq⟩ ⟨hl,hd,_,(rel.put k eb rv).keeps fun c ys ec=>?_,q,es,ep,hq,h2,h3,h4,h5⟩
  rw [aj (qX ec e (fun z=>nomatch z))]
  exact ec
end
section
variable {X:Cx}
def vQ (k v:dL) (D:ag) (env:IR):Rs Unit:=do
 let kv <- eval k env
 let vv <- holding [kv] (eval v env)
 standAt {k.pos with endLine:=v.pos.endLine,endCol:=v.pos.endCol}
 holding [kv,vv] (dictSet D kv vv)
def vR (D:ag) (tk tv:TE):TB:=fun τ H Q=>tk τ H fun y H1=>tv τ H1 fun v H2=>∃H3,A9 H2 D y v H3/\Q τ H3
theorem Ee {Y:Cx} {k v:dL} {tk tv:TE} {D:ag} (hu:Y.A.units+1<cLine) (hk:PE Y k tk) (hv:PE Y v tv):PB Y (vQ k v D Y.env) (vR D tk tv) :=by
 intro pins s τ H Q I q
 unfold vQ
 refine al (lm (hk pins s τ H _ I q) (fun kv s1 ⟨y,H1,I1,r1,q1⟩=>?_) fun _ _ z=>z)
 refine al (At (lm (hv pins s1 τ H1 _ I1 q1) (fun vv s2 ⟨x,H2,I2,r2,q2⟩=>?_) fun _ _ z=>z))
 obtain ⟨H3,g,q3⟩:=q2
 exact al (AM (At (Ed hu I2 g r1 r2 fun s' I3=>⟨τ,H3,I3,q3⟩)))
def Ab (tn:Nat) (idx:List Nat) (wi:TI) (g:TG) (tt:TT) (Ef:TI) (g2:TG) (nQ:TT) (te:TE):TE:=fun σ H Q=>wi σ H fun J H1=>∀D,H1 D=none->∃W:Nat->Nat->St->Hp->Prop,(∃m,W 0 m (bK tn idx σ) (upd H1 D (.lst []))) /\
 tLoop J g tt (sC Ef g2 nQ (mx D te)) (fun _ H'=>Q (.ref D) H') W
def xO (tup:Bool) (tn:Nat) (idx:List Nat) (wi:TI) (g:TG) (tt:TT) (tk tv:TE):TE:=fun σ H Q=>wi σ H fun J H1=>∀D,H1 D=none->∃W:Nat->Nat->St->Hp->Prop,(∃m,W 0 m (bK tn idx σ) (upd H1 D (if tup=true then .dT [] else .dK []))) /\
 tLoop J g tt (vR D tk tv) (fun _ H'=>Q (.ref D) H') W
variable {tg elt iter j0 cW k v:dL} {ifs i6:List dL} {scope:wl} {pos:ut} {N':List br} {tn:Nat} {idx:List Nat} {wi Ef:TI} {g g2:TG} {tt nQ:TT} {te tk tv:TE}
theorem xP (hc:X.calm=true) (B:ay X.N X.env.scope scope N' tn idx) (hi:PI X tg iter wi)
  (hg:Blk X N' scope fun Y=>PG Y tg g) (ht:Blk X N' scope fun Y=>gR Y ifs tt) (cZ:Blk X N' scope fun Y=>PI Y j0 cW Ef) (NN:Blk X N' scope fun Y=>PG Y j0 g2) (zz:Blk X N' scope fun Y=>gR Y i6 nQ) (he:Blk X N' scope fun Y=>PE Y elt te)
  (hs:∀x,foldedSetIterable iter X.env x=pure x :=by intro _;rfl) (ky:∀env x,foldedSetIterable cW env x=pure x :=by intro _ _;rfl):PE X (.ListComp elt [⟨tg,iter,ifs,0⟩,⟨j0,cW,i6,0⟩] scope pos) (Ab tn idx wi g tt Ef g2 nQ te) :=by
 refine ⟨?_⟩
 intro pins s σ H Q I h
 obtain ⟨cl,fE,c9,eS⟩:=eO (scope:=scope) (env:=X.env) fun n hn=>I.ok.has n ((B.2.1 _ hn).2.2 rfl)
 rw [eval_ListComp]
 refine Cf (use:=none) rfl hs fE B.1 (fun y hy=>(B.2.1 y hy).2.1) (lm (hi pins s σ H _ I h) (fun xv s1 h1=>lm h1 (fun nT s2 h2=>?_) fun _ _ z=>z) fun _ _ z=>z)
 obtain ⟨it,fp,cy,J,H2,e,I2,T,iC,f2,q2⟩:=h2
 subst e
 refine compG_core (RR:=fun acc C=>compPost (model X.prog X.w) X.A X.xe none (EP X pins σ Q) acc C) (body:=fun acc env=>rq (.ListComp elt [⟨tg,iter,ifs,0⟩,⟨j0,cW,i6,0⟩] scope pos) cW 1 acc env) (tb:=fun D=>sC Ef g2 nQ (mx D te)) (O0:=.lst []) (o0:={cls:=.type "list",dict:=none,data:=.seq ([]:List ap).toArray})
  (fun Q q=>zd q) rfl (fun H h1 hd=>⟨lw _,[],0,.nil,hd⟩) hc B (fun D cl C s H fp=>⟨fun _=>rfl,fun _ _ _ _ h=>h,fun _=>GK ..,fun _ _ _ _ h=>h,rfl⟩) hg ht (fun D cl C s H fp=>JW hc (fun _ _ z=>z) ⟨fun _=>rfl,fun _ _ _ _ h=>h,fun _=>Ec ..,fun _ _ _ _ h=>h,rfl⟩ (cZ cl C s H fp) (NN cl C s H fp) (zz cl C s H fp) (sY (he cl C s H fp)) (ky _))
  I2 T iC f2 c9 eS q2 fun D C m s' H' J2 fC hm q=>?_
 exact ⟨m,hm,fun h' iE=>⟨.ref D,H',fC.turn J2 iE,rfl,q⟩⟩
theorem sD {P:gc} {w:i0} {H:Hp} {h:ij} {a:ag} (tup:Bool) (hb:sysModules<a) (e:h.get? a=some {cls:=.type "dict",data:=.dict #[]}):ObjOk P w H h a (if tup=true then .dT [] else .dK []) :=by
 have ne:(a==sysModules)=false:=beq_eq_false_iff_ne.mpr (wE (kw hb))
 cases tup with
 |true=>exact ⟨lw _,ne,[],.nil,_,#[],0,e,⟨rfl,rfl,rfl⟩,rfl,rfl,List.nodup_nil⟩
 |false=>exact ⟨lw _,ne,[],.nil,_,#[],0,e,⟨rfl,rfl,rfl⟩,rfl,(fun _ he=>by simp at he),Pairs.nil,List.nodup_nil⟩
theorem yR (tup:Bool) (hu:X.A.units+1<cLine) (hc:X.calm=true) (B:ay X.N X.env.scope scope N' tn idx) (hi:PI X tg iter wi)
  (hg:Blk X N' scope fun Y=>PG Y tg g) (ht:Blk X N' scope fun Y=>gR Y ifs tt) (hk:Blk X N' scope fun Y=>PE Y k tk) (hv:Blk X N' scope fun Y=>PE Y v tv)
  (hs:∀x,foldedSetIterable iter X.env x=pure x :=by intro _;rfl):PE X (.DictComp k v [⟨tg,iter,ifs,0⟩] scope pos) (xO tup tn idx wi g tt tk tv) :=by
 refine ⟨?_⟩
 intro pins s σ H Q I h
 obtain ⟨cl,fE,c9,eS⟩:=eO (scope:=scope) (env:=X.env) fun n hn=>I.ok.has n ((B.2.1 _ hn).2.2 rfl)
 rw [arm_eval_DictComp]
 refine Cf (use:=none) rfl hs fE B.1 (fun y hy=>(B.2.1 y hy).2.1) (lm (hi pins s σ H _ I h) (fun xv s1 h1=>lm h1 (fun nT s2 h2=>?_) fun _ _ z=>z) fun _ _ z=>z)
 obtain ⟨it,fp,cy,J,H2,e,I2,T,iC,f2,q2⟩:=h2
 subst e
 refine compG_core (RR:=fun acc C=>compPost (model X.prog X.w) X.A X.xe none (EP X pins σ Q) acc C) (body:=fun acc env=>match acc with | .ref D=>vQ k v D env|_=>pure ()) (tb:=fun D=>vR D tk tv) (O0:=if tup=true then .dT [] else .dK []) (o0:={cls:=.type "dict",data:=.dict #[]})
  (fun Q q=>zd q) rfl (fun H h1 hd=>sD tup I2.big hd) hc B (fun D cl C s H fp=>⟨fun _=>rfl,fun _ _ _ _ h=>h,fun _=>u3 ..,fun _ _ _ _ h=>h,rfl⟩) hg ht (fun D cl C s H fp=>Ee hu (hk cl C s H fp) (hv cl C s H fp))
  I2 T iC f2 c9 eS q2 fun D C m s' H' J2 fC hm q=>?_
 exact ⟨m,hm,fun h' iE=>⟨.ref D,H',fC.turn J2 iE,rfl,q⟩⟩
theorem Bn {i:Nat} {y:br} {py fh:ut} (tup:Bool) (hu:X.A.units+1<cLine) (hN:X.N.Nodup) (cp:X.N[i]?=some y) (hy:X.env.scope.names.lookup y=some .local) (hc:X.calm=true) (B:ay X.N X.env.scope scope N' tn idx) (hi:PI X tg iter wi)
  (hg:Blk X N' scope fun Y=>PG Y tg g) (ht:Blk X N' scope fun Y=>gR Y ifs tt) (hk:Blk X N' scope fun Y=>PE Y k tk) (hv:Blk X N' scope fun Y=>PE Y v tv)
  (my:swapsWith (.DictComp k v [⟨tg,iter,ifs,0⟩] scope pos) (some (.Name y py)) fh.line X.env=pure true :=by rfl)
  (hs:∀x,foldedSetIterable iter X.env x=pure x :=by intro _;rfl):PS X (.Assign [.Name y py] (.DictComp k v [⟨tg,iter,ifs,0⟩] scope pos) fh) (qt (xO tup tn idx wi g tt tk tv) (mQ i)) :=by
 refine ⟨?_⟩
 intro pins s σ H D I h
 obtain ⟨cl,fE,c9,eS⟩:=eO (scope:=scope) (env:=X.env) fun n hn=>I.ok.has n ((B.2.1 _ hn).2.2 rfl)
 rw [WM _ _ _ _ my]
 refine al (AM (al ?_))
 show wpAny _ X.A (do let _ <- comprehension (.DictComp k v [⟨tg,iter,ifs,0⟩] scope pos) scope X.env _ newDict false (eval iter X.env) (some (assign (.Name y py) X.env))) _ _ s
 refine al (lm (Cf (use:=some (assign (.Name y py) X.env)) (Q:=fun _ s'=>SP X pins D .next s') rfl hs fE B.1 (fun y hy=>(B.2.1 y hy).2.1)
  (lm (hi pins s σ H _ I h) (fun xv s1 h1=>lm h1 (fun nT s2 h2=>?_) fun _ _ z=>z) fun _ _ z=>z)) (fun _ s' hq=>ca (ca hq)) fun _ _ z=>z)
 obtain ⟨it,fp,cy,J,H2,e,I2,T,iC,f2,q2⟩:=h2
 subst e
 refine compG_core (Q:=fun x H1=>mQ i x σ H1 D.nx) (RR:=fun acc C=>compPost (model X.prog X.w) X.A X.xe (some (assign (.Name y py) X.env)) (fun _ s'=>SP X pins D .next s') acc C) (body:=fun acc env=>match acc with | .ref D=>vQ k v D env|_=>pure ()) (tb:=fun D=>vR D tk tv) (O0:=if tup=true then .dT [] else .dK []) (o0:={cls:=.type "dict",data:=.dict #[]})
  (fun Q q=>zd q) rfl (fun H h1 hd=>sD tup I2.big hd) hc B (fun D cl C s H fp=>⟨fun _=>rfl,fun _ _ _ _ h=>h,fun _=>u3 ..,fun _ _ _ _ h=>h,rfl⟩) hg ht (fun D cl C s H fp=>Ee hu (hk cl C s H fp) (hv cl C s H fp))
  I2 T iC f2 c9 eS q2 fun E C m s' H' J2 fC hm q=>?_
 show wpAny _ X.A (assign (.Name y py) X.env (.ref E)) _ _ s'
 refine Ww (store_ok2 J2 hN cp (.inl hy) (v:=.ref E) rfl (fun s3 J3 ⟨a,lB,ha⟩=>?_) (.inr hy))
 have e8:C≠a :=by
  rcases ha with z|z
  ·rw [z];exact fC.2.1
  ·exact fun w=>fC.2.2.2.2.1 _ _ z w.symm
 exact ⟨m,hm.sameBut lB e8,fun h' iE=>⟨_,H',fC.turn J3 iE,q⟩⟩
end
abbrev oU:=List Dv->aC->Mh->(List Dv->aC->Mh->Prop)->Prop
def zlOne (te:aI):oU:=fun acc τ M Q=>te τ M fun y M'=>acc.length<sizeLine/\Q (acc++[y]) τ M'
def lh (g:b9) (tt:b7) (lb:oU):List Dv->oU
 | [],acc,τ,M,Q=>Q acc τ M
 |d::ds,acc,τ,M,Q=>g d τ M fun aA M2=>tt aA M2 fun b M3=>if b=true then lb acc aA M3 fun nq L5 M4=>lh g tt lb ds nq L5 M4 Q else lh g tt lb ds acc aA M3 Q
def zlNest (zi:dM) (g:b9) (tt:b7) (lb:oU):oU:=fun acc τ M Q=>zi τ M fun es M1=>lh g tt lb es acc τ M1 Q
theorem xQ {g:b9} {lb:oU} (I:Nat->List Dv->aC->Mh->Prop):∀{ds:List Dv} {i:Nat} {acc:List Dv} {τ:aC} {M:Mh} {Q:List Dv->aC->Mh->Prop},I i acc τ M->
  (∀j d acc τ M,ds[j]?=some d->I (i+j) acc τ M->∀R:List Dv->aC->Mh->Prop,(∀nq aA M2,I (i+j+1) nq aA M2->R nq aA M2)->g d τ M fun aA M2=>lb acc aA M2 R)->
  (∀acc τ M,I (i+ds.length) acc τ M->Q acc τ M)->lh g zNoIf lb ds acc τ M Q
 | [],i,acc,τ,M,Q,h,_,q=>q acc τ M h
 |d::ds,i,acc,τ,M,Q,h,hs,q=>by
          refine hs 0 d acc τ M rfl h (fun nq aA M2=>lh g zNoIf lb ds nq aA M2 Q) fun nq aA M2 h2=>?_
          refine xQ I (i:=i+1) h2 (fun j d acc τ M hd hI R hR=>hs (j+1) d acc τ M hd (by rw [show i+(j+1)=i+1+j by omega];exact hI) R fun nq aA M2 h3=>hR nq aA M2 (by rw [show i+1+j+1=i+(j+1)+1 by omega];exact h3)) fun acc τ M h3=>q acc τ M (by rw [Db,show i+(ds.length+1)=i+1+ds.length by omega];exact h3)
def Vd (J:It) (ds:List Dv):Prop:=∃vs:List V,vs.length=ds.length/\(∀(β:Bz) M H,aL β M H vs ds)/\∀H,Runs J vs H
def NP (Γ:Gz) (p:dM):TI:=fun σ H R=>∃(β:Bz) (ρ:aC) (M:Mh) (R':List Dv->Mh->Prop),Zr Γ β M ρ σ H/\p ρ M R'/\∀ds M' H' J,Ex β M H M' H'->Vd J ds->R' ds M'->R J H'
abbrev QIr (Γ:Gz) (X:Cx) (tg e:dL) (p:dM):Prop:=PI X tg e (NP Γ p)
section
variable {Γ:Gz} {β:Bz} {g:b9} {tt:b7} {D:ag} {M1:Mh} {H1:Hp}
def Ih (Γ:Gz) (β:Bz) (D:ag) (M1:Mh) (H1:Hp) (lb:oU) (tb:TB):Prop:=∀(aV:aC) (M:Mh) (τ:St) (H:Hp) (acc:List V) (aP:List Dv) (N:St->Hp->Prop) (N':List Dv->aC->Mh->Prop),Acc Γ β D M1 H1 aV M τ H acc aP->lb aP aV M N'->
 (∀vT Bo M' aA H' gM,Acc Γ β D M1 H1 Bo M' aA H' gM vT->N' vT Bo M'->N aA H')->tb τ H N
def LW (Γ:Gz) (β:Bz) (D:ag) (M1:Mh) (H1:Hp) (g:b9) (tt:b7) (lb:oU) (ds:List Dv) (N':List Dv->aC->Mh->Prop) (i m:Nat) (τ:St) (H:Hp):Prop:=
 m=ds.length - i/\i<=ds.length/\∃aV M acc aP,Acc Γ β D M1 H1 aV M τ H acc aP/\lh g tt lb (ds.drop i) aP aV M N'
theorem Ac {lb:oU} {tb:TB} {ds:List Dv} {N':List Dv->aC->Mh->Prop} {J:It} {QE:St->Hp->Prop}
  (it:∀aV M τ H acc aP,Acc Γ β D M1 H1 aV M τ H acc aP->∀i,(i<ds.length->J.go i H/\∀x ji,J.yld i H x ji->Ex (β.add D) M H M ji/\∃d,ds[i]?=some d/\Rz (β.add D) M ji x d)/\(ds.length<=i->J.stop i H))
  (NQ:Ih Γ β D M1 H1 lb tb) (om:∀aV M τ H acc aP,Acc Γ β D M1 H1 aV M τ H acc aP->N' aP aV M->QE τ H) :
  tLoop J (lG Γ g) (lT Γ tt) tb QE (LW Γ β D M1 H1 g tt lb ds N') :=by
 rintro i m τ H ⟨rfl,hi,aV,M,acc,aP,A,h⟩
 have q:=it _ _ _ _ _ _ A i
 by_cases bb:i<ds.length
 ·refine .inr ⟨(q.1 bb).1,fun x H' y=>?_⟩
  obtain ⟨x2,d,hd,rd⟩:=(q.1 bb).2 x H' y
  have e:ds.drop i=d::ds.drop (i+1) :=by
   rw [EO bb]
   rw [ac bb] at hd
   cases hd
   rfl
  rw [e] at h
  have A2:=A.step x2 (A.zr.step x2)
  refine ⟨β.add D,d,aV,M,_,A2.zr,rd,h,fun fU M3 nN H3 x3 z3 h3=>?_⟩
  have A3:=A2.step x3 z3
  refine ⟨β.add D,fU,M3,_,z3,h3,fun b M4 H4 x4 h4=>?_⟩
  have A4:=A3.step x4 (z3.step x4)
  cases b with
  |false=>
   dsimp only at h4 ⊢
   rw [if_neg im] at h4 ⊢
   exact ⟨ds.length - (i+1),by omega,rfl,bb,fU,M4,acc,aP,A4,h4⟩
  |true=>
   dsimp only at h4 ⊢
   rw [if_pos rfl] at h4 ⊢
   exact NQ _ _ _ _ _ _ _ _ A4 h4 fun vT Bo M' aA H' gM A5 h5=>⟨ds.length - (i+1),by omega,rfl,bb,Bo,M',gM,vT,A5,h5⟩
 ·have e:i=ds.length :=by omega
  subst e
  rw [NO] at h
  exact .inl ⟨q.2 (ce _),om _ _ _ _ _ _ A h⟩
theorem JX {te:aI}:Ih Γ β D M1 H1 (zlOne te) (mx D (lE Γ te)):=fun aV M τ H acc aP N N' A h hN=>by
 refine ⟨β.add D,aV,M,_,A.zr,h,fun d M5 v H5 x5 r5 ⟨hl,h5⟩=>?_⟩
 have A5:=A.step x5 (A.zr.step x5)
 exact ⟨acc,A5.at',by rw [A.rs.len];exact hl,hN _ _ _ _ _ _ (A5.snoc r5) h5⟩
theorem GL {zi:dM} {lb:oU} {tb:TB} (NQ:Ih Γ β D M1 H1 lb tb):Ih Γ β D M1 H1 (zlNest zi g tt lb) (sC (NP Γ zi) (lG Γ g) (lT Γ tt) tb):=fun aV M τ H acc aP N N' A h hN=>by
 refine ⟨β.add D,aV,M,_,A.zr,h,fun ds M2 H2 J x2 ⟨vs,hl,hr,hR⟩ h2=>?_⟩
 have A2:=A.step x2 (A.zr.step x2)
 refine ⟨LW Γ β D M1 H1 g tt lb ds N',⟨_,rfl,lw _,_,_,_,_,A2,h2⟩,Ac (fun aV M τ H acc aP A i=>?_) NQ fun aV M τ H acc aP A h=>hN _ _ _ _ _ _ A h⟩
 have q:=hR H i
 rw [hl] at q
 refine ⟨fun hi=>⟨(q.1 hi).1,fun v ji y=>?_⟩,q.2⟩
 obtain ⟨e,hv⟩:=(q.1 hi).2 v ji y
 subst e
 obtain ⟨d,hd,rd⟩:=(hr (β.add D) M ji).get' hv
 exact ⟨.refl A.zr.mz,d,hd,rd⟩
def zComp2 (tn:Nat) (idx:List Nat) (zi:dM) (g:b9) (tt:b7) (lb:oU):aI:=fun ρ M Q=>zi ρ M fun ds M1=>lh g tt lb ds [] (zBlock tn idx ρ) M1 fun ys _ M2=>Q (.lst ys) M2
theorem JY {tn:Nat} {idx:List Nat} {zi Ad:dM} {g2:b9} {nQ:b7} {te:aI} {σ:St} {H:Hp} {Q:VK} (h:lE Γ (zComp2 tn idx zi g tt (zlNest Ad g2 nQ (zlOne te))) σ H Q):Ab tn idx (lI Γ zi) (lG Γ g) (lT Γ tt) (NP Γ Ad) (lG Γ g2) (lT Γ nQ) (lE Γ te) σ H Q :=by
 obtain ⟨β,ρ,M,Q',zr,h,q⟩:=h
 refine ⟨β,ρ,M,_,zr,h,fun ds M1 H1 J x1 it h1 D hD=>?_⟩
 have jj:=zr.step x1
 refine ⟨LW Γ β D M1 H1 g tt (zlNest Ad g2 nQ (zlOne te)) ds fun ys _ M2=>Q' (.lst ys) M2,⟨_,rfl,lw _,_,_,_,_,.start (jj.block tn idx) hD,h1⟩,Ac (fun aV M τ H acc aP A i=>it (β.add D) M H (.add A.h1) A.ey A.zr.mz i) (GL JX) fun aV M τ H acc aP A h=>?_⟩
 exact q _ _ _ _ (x1.trans A.ex) (kT (A.fz jj.mz) A.at' A.items) h
end
section
variable {X:Cx} {Γ:Gz} {tg elt iter j0 cW:dL} {ifs i6:List dL} {scope:wl} {pos:ut} {N':List br} {tn:Nat} {idx:List Nat} {zi Ad:dM} {g g2:b9} {tt nQ:b7} {te:aI}
theorem xR (hc:X.calm=true) (B:ay X.N X.env.scope scope N' tn idx) (hi:QI Γ X tg iter zi)
  (hg:Blk X N' scope fun Y=>QG Γ Y tg g) (ht:Blk X N' scope fun Y=>mJ Γ Y ifs tt) (cZ:Blk X N' scope fun Y=>QIr Γ Y j0 cW Ad) (NN:Blk X N' scope fun Y=>QG Γ Y j0 g2) (zz:Blk X N' scope fun Y=>mJ Γ Y i6 nQ) (he:Blk X N' scope fun Y=>QE Γ Y elt te)
  (hs:∀x,foldedSetIterable iter X.env x=pure x :=by intro _;rfl) (ky:∀env x,foldedSetIterable cW env x=pure x :=by intro _ _;rfl):QE Γ X (.ListComp elt [⟨tg,iter,ifs,0⟩,⟨j0,cW,i6,0⟩] scope pos) (zComp2 tn idx zi g tt (zlNest Ad g2 nQ (zlOne te))):=
 (xP hc B hi hg ht cZ NN zz he hs ky).imp fun σ H Q h=>JY h
theorem Bp {pa:gd} {tg a b:dL} {p pos:ut} (hg:Gl X "range") (hm:X.mg "range" = none) (ha:QA Γ X [a,b] pa) (hs:starEach [a,b] X.env=[(false,eval a X.env),(false,eval b X.env)] :=by rfl) (ky:starEach [b] X.env=[(false,eval b X.env)] :=by rfl) :
  QIr Γ X tg (.Call (.Name "range" p) [a,b] [] pos) (ziRng2 pa):=(uf hg hm ha hs ky).imp fun σ H R h=>by
 obtain ⟨β,ρ,M,R',zr,h,q⟩:=h
 refine ⟨β,ρ,M,_,zr,h,fun ds M1 vs H1 x1 r1 h1=>?_⟩
 revert h1
 split
 ·rintro ⟨b1,h1⟩
  obtain ⟨v,u,rfl,r,r'⟩:=jq r1
  rw [aM r,aM r']
  exact ⟨_,_,rfl,b1,q _ _ _ _ x1 ⟨_,by simp [cD],fun _ _ _=>oH,fun _=>mX⟩ h1⟩
 ·exact fun h=>h.elim
end
def pL (g:b9) (tt:b7) (tk tv:aI):List Dv->List (List Key)->List Dv->aC->Mh->(List (List Key)->List Dv->Mh->Prop)->Prop
 | [],ks,es,_,M,Q=>Q ks es M
 |d::ds,ks,es,τ,M,Q=>g d τ M fun aA M2=>tt aA M2 fun b M3=>if b=true then tk aA M3 fun k M4=>tv aA M4 fun v M5=>ks.length<sizeLine/\(match k with
  | .tup xs=>(match fY xs with|some k=>pL g tt tk tv ds (putL ks k) (dF ks es k v) aA M5 Q|none=>False)
  |_=>False) else pL g tt tk tv ds ks es aA M3 Q
def zCompDT (tn:Nat) (idx:List Nat) (zi:dM) (g:b9) (tt:b7) (tk tv:aI):aI:=fun ρ M Q=>zi ρ M fun ds M1=>pL g tt tk tv ds [] [] (zBlock tn idx ρ) M1 fun ks es M2=>∀a,M2 a=none->Q (.ptr a) (aw M2 a (.dt ks es))
theorem Eg {g:b9} {tk tv:aI} (I:Nat->List (List Key)->List Dv->aC->Mh->Prop):∀{ds:List Dv} {i:Nat} {ks:List (List Key)} {es:List Dv} {τ:aC} {M:Mh} {Q:List (List Key)->List Dv->Mh->Prop},I i ks es τ M->
  (∀j d ks es τ M,ds[j]?=some d->I (i+j) ks es τ M->∀R:List (List Key)->List Dv->aC->Mh->Prop,(∀fZ pY aA M2,I (i+j+1) fZ pY aA M2->R fZ pY aA M2)->g d τ M fun aA M2=>tk aA M2 fun k M4=>tv aA M4 fun v M5=>ks.length<sizeLine/\(match k with
   | .tup xs=>(match fY xs with|some k=>R (putL ks k) (dF ks es k v) aA M5|none=>False)
   |_=>False))->
  (∀ks es τ M,I (i+ds.length) ks es τ M->Q ks es M)->pL g zNoIf tk tv ds ks es τ M Q
 | [],i,ks,es,τ,M,Q,h,_,q=>q ks es τ M h
 |d::ds,i,ks,es,τ,M,Q,h,hs,q=>by
          refine hs 0 d ks es τ M rfl h (fun fZ pY aA M2=>pL g zNoIf tk tv ds fZ pY aA M2 Q) fun fZ pY aA M2 h2=>?_
          refine Eg I (i:=i+1) h2 (fun j d ks es τ M hd hI R hR=>hs (j+1) d ks es τ M hd (by rw [show i+(j+1)=i+1+j by omega];exact hI) R fun fZ pY aA M2 h3=>hR fZ pY aA M2 (by rw [show i+1+j+1=i+(j+1)+1 by omega];exact h3)) fun ks es τ M h3=>q ks es τ M (by rw [Db,show i+(ds.length+1)=i+1+ds.length by omega];exact h3)
structure lj (Γ:Gz) (β:Bz) (D:ag) (M1:Mh) (H1:Hp) (aV:aC) (M:Mh) (τ:St) (H:Hp) (ks:List (List Key)) (acc:List V) (aP:List Dv):Prop where
 ey:Ey M1 H1 M H
 m:M D=none
 zr:Zr Γ (β.add D) M aV τ H
 at':H D=some (.dT (ks.zip acc))
 hk:ks.length=acc.length
 rs:aL (β.add D) M H acc aP
 h1:H1 D=none
 h0:Γ.H0 D=none
 nt:D ∉ β.tb
section
variable {Γ:Gz} {β:Bz} {D:ag} {M1 M M2:Mh} {H1 H H2:Hp} {aV xn:aC} {τ aA:St} {ks:List (List Key)} {acc:List V} {aP:List Dv}
theorem lj.start (zr:Zr Γ β M1 aV τ H1) (hD:H1 D=none):lj Γ β D M1 H1 aV M1 τ (upd H1 D (.dT [])) [] [] []:=
 ⟨Ey.refl.over hD,zr.mz.free hD,zr.enter hD rfl,aK,rfl,.nil,hD,zr.ent.gone hD (by
  cases e:Γ.M0 D with
  |none=>rfl
  |some u=>have:=zr.ent.dom D (by rw [e];rfl);rw [zr.mz.free hD] at this;cases this),zr.mz.Ge hD⟩
theorem lj.step (A:lj Γ β D M1 H1 aV M τ H ks acc aP) (x:Ex (β.add D) M H M2 H2) (z:Zr Γ (β.add D) M2 xn aA H2):lj Γ β D M1 H1 xn M2 aA H2 ks acc aP:=
 ⟨A.ey.trans x.toEy,x.new D _ A.m A.at',z,x.DZ ff A.m A.at' rfl,A.hk,A.rs.ex x,A.h1,A.h0,A.nt⟩
theorem lj.put (A:lj Γ β D M1 H1 aV M τ H ks acc aP) {k:List Key} {y:V} {d:Dv} (r:Rz (β.add D) M H y d):lj Γ β D M1 H1 aV M τ (upd H D (.dT ((putL ks k).zip (dF ks acc k y)))) (putL ks k) (dF ks acc k y) (dF ks aP k d) :=by
 have hD:D∈(β.add D).hid:=ff
 exact ⟨A.ey.over A.h1,A.m,A.zr.over hD rfl A.m A.nt A.h0,aK,k7 A.hk k y,⟨(k8 k r A.rs).len,fun i v d a b=>((k8 k r A.rs).at' i v d a b).over hD⟩,A.h1,A.h0,A.nt⟩
theorem Eh {H:Hp} {a:ag} {o:HO} (h:H a=some o):upd H a o=H :=by
 funext b
 by_cases e:b=a
 ·rw [e,aK,h]
 ·rw [aj e]
theorem lj.own (A:lj Γ β D M1 H1 aV M τ H ks acc aP) (m1:Mz β M1 H1):Ex β M1 H1 (aw M D (.dt ks aP)) H :=by
 have mz:Mz β (aw M D (.dt ks aP)) (upd H D (.dT (ks.zip acc))):=A.zr.mz.Nz A.m (m1.fz A.h1).2 A.nt rfl ⟨acc,aK,A.hk,k9 A.rs⟩
 rw [Eh A.at'] at mz
 exact ⟨⟨A.ey.keep,fun a h=>by unfold aw;split;rfl;exact A.ey.dom a h,fun a w m e=>by rw [ah (bB e A.h1)];exact A.ey.new a w m e⟩,mz⟩
end
section
variable {Γ:Gz} {β:Bz} {g:b9} {tt:b7} {tk tv:aI} {zi:dM} {tn:Nat} {idx:List Nat}
theorem xS {σ:St} {H:Hp} {Q:VK} (h:lE Γ (zCompDT tn idx zi g tt tk tv) σ H Q):xO true tn idx (lI Γ zi) (lG Γ g) (lT Γ tt) (lE Γ tk) (lE Γ tv) σ H Q :=by
 obtain ⟨β,ρ,M,Q',zr,h,q⟩:=h
 refine ⟨β,ρ,M,_,zr,h,fun ds M1 H1 J x1 it h1 D hD=>?_⟩
 have jj:=zr.step x1
 refine ⟨fun i m τ H=>m=ds.length - i/\i<=ds.length/\∃aV M ks acc aP,lj Γ β D M1 H1 aV M τ H ks acc aP/\pL g tt tk tv (ds.drop i) ks aP aV M fun ks es M2=>∀a,M2 a=none->Q' (.ptr a) (aw M2 a (.dt ks es)),⟨_,rfl,lw _,_,_,_,_,_,.start (jj.block tn idx) hD,h1⟩,?_⟩
 rintro i m τ H ⟨rfl,hi,aV,M,ks,acc,aP,A,h⟩
 have q2:=it (β.add D) M H (.add A.h1) A.ey A.zr.mz i
 by_cases bb:i<ds.length
 ·refine .inr ⟨(q2.1 bb).1,fun x H' y=>?_⟩
  obtain ⟨x2,d,hd,rd⟩:=(q2.1 bb).2 x H' y
  have e:ds.drop i=d::ds.drop (i+1) :=by
   rw [EO bb]
   rw [ac bb] at hd
   cases hd
   rfl
  rw [e] at h
  have A2:=A.step x2 (A.zr.step x2)
  refine ⟨β.add D,d,aV,M,_,A2.zr,rd,h,fun fU M3 nN H3 x3 z3 h3=>?_⟩
  have A3:=A2.step x3 z3
  refine ⟨β.add D,fU,M3,_,z3,h3,fun b M4 H4 x4 h4=>?_⟩
  have A4:=A3.step x4 (z3.step x4)
  cases b with
  |false=>
   dsimp only at h4 ⊢
   rw [if_neg im] at h4 ⊢
   exact ⟨ds.length - (i+1),by omega,rfl,bb,fU,M4,ks,acc,aP,A4,h4⟩
  |true=>
   dsimp only at h4 ⊢
   rw [if_pos rfl] at h4 ⊢
   refine ⟨β.add D,fU,M4,_,A4.zr,h4,fun kd M5 kv H5 x5 r5 h5=>⟨β.add D,fU,M5,_,A4.zr.step x5,h5,fun vd M6 vv H6 x6 r6 h6=>?_⟩⟩
   have A6:=(A4.step x5 (A4.zr.step x5)).step x6 ((A4.zr.step x5).step x6)
   obtain ⟨hl,h6⟩:=h6
   split at h6
   ·split at h6
    ·rename_i k sm
     obtain ⟨b,us,rfl,_,hb,ru⟩:=cC (r5.ex x6)
     rw [js ru sm] at hb
     have Ae:(ks.zip acc).length<sizeLine :=by rw [Pd,<- A6.hk,GE];exact hl
     have e4:putK (ks.zip acc) k vv=(putL ks k).zip (dF ks acc k vv):=pI A6.hk k vv
     exact ⟨_,.inr ⟨_,k,b,A6.at',rfl,hb,Ae,rfl⟩,ds.length - (i+1),by omega,rfl,bb,fU,M6,_,_,_,e4▸A6.put r6,h6⟩
    ·exact h6.elim
   ·exact h6.elim
 ·have e:i=ds.length :=by omega
  subst e
  rw [NO] at h
  exact .inl ⟨q2.2 (ce _),q _ _ _ _ (x1.trans (A.own jj.mz)) (.ptr (by rw [updM_same];rfl)) (h D A.m)⟩
variable {X:Cx} {tg k v iter:dL} {ifs:List dL} {scope:wl} {pos:ut} {N':List br}
theorem NR (hu:X.A.units+64<cLine) (hc:X.calm=true) (B:ay X.N X.env.scope scope N' tn idx) (hi:QI Γ X tg iter zi)
  (hg:Blk X N' scope fun Y=>QG Γ Y tg g) (ht:Blk X N' scope fun Y=>mJ Γ Y ifs tt) (hk:Blk X N' scope fun Y=>QE Γ Y k tk) (hv:Blk X N' scope fun Y=>QE Γ Y v tv)
  (hs:∀x,foldedSetIterable iter X.env x=pure x :=by intro _;rfl):QE Γ X (.DictComp k v [⟨tg,iter,ifs,0⟩] scope pos) (zCompDT tn idx zi g tt tk tv):=
 (yR true (by omega) hc B hi hg ht hk hv hs).imp fun σ H Q h=>xS h
theorem yS {i:Nat} {y:br} {py fh:ut} (hu:X.A.units+64<cLine) (hN:X.N.Nodup) (cp:X.N[i]?=some y) (hy:X.env.scope.names.lookup y=some .local) (hc:X.calm=true) (B:ay X.N X.env.scope scope N' tn idx) (hi:QI Γ X tg iter zi)
  (hg:Blk X N' scope fun Y=>QG Γ Y tg g) (ht:Blk X N' scope fun Y=>mJ Γ Y ifs tt) (hk:Blk X N' scope fun Y=>QE Γ Y k tk) (hv:Blk X N' scope fun Y=>QE Γ Y v tv)
  (my:swapsWith (.DictComp k v [⟨tg,iter,ifs,0⟩] scope pos) (some (.Name y py)) fh.line X.env=pure true :=by rfl)
  (hs:∀x,foldedSetIterable iter X.env x=pure x :=by intro _;rfl):QS Γ X (.Assign [.Name y py] (.DictComp k v [⟨tg,iter,ifs,0⟩] scope pos) fh) (zAsg (zCompDT tn idx zi g tt tk tv) (zgName i)):=
 (Bn true (by omega) hN cp hy hc B hi hg ht hk hv my hs).imp fun D σ H h=>rW (fun _ _ _ h=>xS h) h
end
section
variable {X:Cx} {Γ:Gz} {K:ba}
def GN (x:V) (H:Hp):Prop:=∃p,x=.ref p/\((∃av,Rd H p (.dK av))\/∃av,Rd H p (.dT av))
def Tt (r:V->List V->Hp->VK->Prop) (to:TE) (t:TA):TE:=fun σ H Q=>to σ H fun x H1=>GN x H1/\t σ H1 fun xs H2=>r x xs H2 Q
theorem JZ {pins:List (ag×l3)} {σ:St} {H:Hp} {s:ar} {x:V} {v:ap} (I:Inv X pins σ H s) (r:RelV x v) (ty:GN x H):s.TypeIs v "dict" /\ ∀a,v=.ref a->∃ob,s.heap.get? a=some ob/\ob.dict=none :=by
 obtain ⟨p,rfl,hk⟩:=ty
 cases (show v=mT p from r)
 rcases hk with ⟨av,hk⟩|⟨av,hk⟩
 ·obtain ⟨_,_,_,_,o,_,_,e,ex,_⟩:=m5 I.hok hk
  exact ⟨⟨o,e,ex.1⟩,fun a e2=>by cases e2;exact ⟨o,e,ex.2.1⟩⟩
 ·obtain ⟨_,_,_,_,o,_,_,e,ex,_⟩:=m6 I.hok hk
  exact ⟨⟨o,e,ex.1⟩,fun a e2=>by cases e2;exact ⟨o,e,ex.2.1⟩⟩
variable {o e:dL} {es:List dL} {to:TE} {t:TA} {name:br} {apos aU:ut} {id:String} {r:V->List V->Hp->VK->Prop}
theorem NS (pa:SS "dict") (slot:X6 "dict" name id) (kI:typeOf (.builtin id)=pure (.type "method_descriptor")) (hm:wj X id r) (ho:PE X o to) (ha:PA X (e::es) t)
  (fD:attributeBase o name X.env (eval o X.env)=eval o X.env :=by rfl)
  (mS:((backTo aU (starEach (e::es) X.env)).all (fun x => !x.1) && (backToKw aU (keywordEach [] X.env)).all (fun x=>x.1.isSome) && decide ((e::es).length+([]:List No).length+(if ([]:List No).isEmpty then 0 else 1)<30))=true :=by rfl)
  (hline:(apos.endLine==aU.line)=true :=by rfl) (hs:starEach (e::es) X.env=(false,eval e X.env)::starEach es X.env :=by rfl) (iQ:(backTo aU (starEach es X.env)).any (·.1)=false :=by rfl) :
  PE X (.Call (.Attribute o name apos) (e::es) [] aU) (Tt r to t) :=by
 refine ⟨?_⟩
 intro pins s σ H Q I h
 refine wpAny_Call_method_late fD mS hline rfl (thn (ho pins s σ H _ I h) fun v s1 ⟨x,H1,I1,r1,ty,q1⟩=>?_)
 obtain ⟨h1,h2⟩:=JZ I1 r1 ty
 refine ⟨"dict",id,pa,slot,kI,h1,h2,?_⟩
 have hA:=ha aU pins s1 σ H1 _ I1 q1
 rw [hs] at hA ⊢
 refine WC (by show (false || (backTo aU (starEach es X.env)).any (·.1))=false;rw [iQ] <;> rfl) (WS ?_)
 exact thn hA fun us s2 ⟨vs,H2,I2,r2,q2⟩=>hm pins s2 σ H2 x vs v us Q I2 r1 r2 q2
def tyD (M:Mh) (d:Dv):Prop:=match nowK M d with | .dk _ _=>True | .dt _ _=>True|_=>False
def zBMD (z:oM) (po:aI) (pa:gd):aI:=fun ρ M Q=>po ρ M fun d M1=>tyD M1 d/\pa ρ M1 fun ds M2=>z d ds M2 Q
theorem NT {β:Bz} {M:Mh} {H:Hp} {x:V} {d:Dv} (m:Mz β M H) (r:Rz β M H x d) (h:tyD M d):GN x H :=by
 unfold tyD at h
 split at h
 ·rename_i ks ds hk
  obtain ⟨a,vs,rfl,ha,_⟩:=(tM m r).1 _ _ hk
  exact ⟨a,rfl,.inl ⟨_,ha⟩⟩
 ·rename_i ks ds hk
  obtain ⟨a,vs,rfl,ha,_⟩:=(tM m r).2 _ _ hk
  exact ⟨a,rfl,.inr ⟨_,ha⟩⟩
 ·exact h.elim
variable {po:aI} {pa:gd} {z:oM}
theorem NU (pat:SS "dict") (slot:X6 "dict" name id) (kI:typeOf (.builtin id)=pure (.type "method_descriptor")) (hm:sf Γ X "dict" id K z) (ho:QE Γ X o po) (ha:QA Γ X (e::es) pa) (fD:attributeBase o name X.env (eval o X.env)=eval o X.env :=by rfl)
  (mS:((backTo aU (starEach (e::es) X.env)).all (fun x => !x.1) && (backToKw aU (keywordEach [] X.env)).all (fun x=>x.1.isSome) && decide ((e::es).length+([]:List No).length+(if ([]:List No).isEmpty then 0 else 1)<30))=true :=by rfl)
  (hline:(apos.endLine==aU.line)=true :=by rfl) (hs:starEach (e::es) X.env=(false,eval e X.env)::starEach es X.env :=by rfl) (iQ:(backTo aU (starEach es X.env)).any (·.1)=false :=by rfl) :
  QE Γ X (.Call (.Attribute o name apos) (e::es) [] aU) (zBMD z po pa) :=by
 obtain ⟨r,h1,h2⟩:=hm
 exact (NS pat slot kI h1 ho ha fD mS hline hs iQ).imp fun σ H Q ⟨β,ρ,M,Q',zr,h,q⟩=>⟨β,ρ,M,_,zr,h,fun d M1 v H1 x1 r1 ⟨ht,h1⟩=>⟨NT x1.mz r1 ht,β,ρ,M1,_,zr.step x1,h1,fun ds M2 vs H2 x2 r2 h3=>
  h2 β v vs d ds M2 H2 _ _ zr.eP zr.ew zr.eK x2.mz (r1.ex x2) r2 h3 fun d' M' v' H' x3 r3 q3=>q _ _ _ _ (x1.trans (x2.trans x3)) r3 q3⟩⟩
end
section
variable {X:Cx}
def Ii (K:ba):List V->Hp->VK->Prop:=fun xs H Q=>∃(p:ag) (bs:List Bool),xs=[.ref p]/\bH K H p (bs.map V.bl)/\Q (.bl (bs.any id)) H
theorem Ei (hc:X.calm=true):cq X (.builtin "any") (Ii X.K) :=by
 intro pins s σ H xs us Q I r h
 obtain ⟨p,bs,rfl,hq,q⟩:=h
 obtain ⟨u,rfl,rx⟩:=vals1 r
 cases rx
 have hh:=I.ok.hd hc
 obtain ⟨its,rv,pl,hz⟩:=I.list hq
 have hl:its.toArray.size=bs.length :=by rw [cr,<- rv.length,cb]
 have nL:s.heap.IsList p its.toArray:=pl.isList
 have bb:p<s.heap.objs.size:=let ⟨o,ho,_⟩:=nL;ii ho
 have at_:∀(i:Nat) (v:ap),its.toArray[i]?=some v->v=.bool (bs.getD i false):=fun i v hv=>by
  have h':its[i]?=some v :=by simpa using hv
  have hi:i<its.length:=(bn.mp h').1
  have cp:i<bs.length :=by rw [cr] at hl;omega
  obtain ⟨u,e,q2⟩:=rv.get (i:=i) (x:=V.bl bs[i]) (by rw [c8,ac cp];rfl)
  rw [h'] at e;cases e
  rw [bi,ac cp]
  exact q2
 refine Xe F.kind_any F.plain_any F.entry_any (F.args_any1 _) ?_
 unfold uu.«any»
 refine al (m:=oneArg "any" _) (ca ?_)
 refine al (RS nL ?_)
 have W:=Walks.list (prog:=X.prog) (w:=X.w) (A:=X.A.in1) (by simp [hh]) s.heap.objs.size p (kw bb) its.toArray
 refine ca ⟨KM F.plain_any_loop _,codeAny_any_loop W (fun i=>bs.getD i false) ?_ its.toArray.size 0 _ rfl (lw _) ⟨⟨_,en _ rfl,rfl,rfl⟩,nL.push _⟩ fun h' tk hk=>?_⟩
 ·intro i v s' Q' E' hv wZ
  have:=at_ i v hv
  subst this
  exact xL wZ
 ·have e:((hX its.toArray.size).drop 0).any (fun i=>bs.getD i false)=bs.any id :=by
   rw [List.drop_zero,hl]
   refine FF.mpr ?_
   rw [NH,NH]
   constructor
   ·rintro ⟨i,hi,hx⟩
    rw [ul] at hi
    rw [bi,ac hi] at hx
    exact ⟨_,r9 hi,hx⟩
   ·rintro ⟨b,hb,hx⟩
    obtain ⟨i,hi⟩:=List.getElem?_of_mem hb
    have cZ:=(bn.mp hi).1
    refine ⟨i,by rw [ul];exact cZ,?_⟩
    rw [bi,hi]
    exact hx
  have I2:Inv X pins σ H {s with heap:=h',toks:=tk}:=I.kept fun b o eb=>hk b o (by simp only [jp];exact kw (ii eb)) (bv _ eb)
  refine ⟨.bl (bs.any id),H,I2,?_,q⟩
  show SL _=SL _
  rw [e]
end
section
variable {X:Cx} {Γ:Gz} {K:ba}
theorem Bq {K:ba} (h:X.K=K) (hc:X.calm=true):cq X (.builtin "any") (Ii K):=h▸Ei hc
def zAnyB (d:Dv) (M:Mh) (Q:ZK):Prop:=match d with | .lst ds=>(match boolsD ds with|some bs=>Q (.bl (bs.any id)) M|none=>False)|_=>False
theorem NV (hK:X.K=K) (hc:X.calm=true):fg Γ X (.builtin "any") (z1 zAnyB):=⟨_,Bq hK hc,fun β xs ds M H Q Q' _ _ _ m rs z q=>by
 unfold z1 at z
 split at z
 ·obtain ⟨x,rfl,r⟩:=cN rs
  unfold zAnyB at z
  split at z
  ·split at z
   ·rename_i bs DU
    obtain ⟨a,vs,rfl,f,ha,c6⟩:=dD r
    have e:=oQ DU
    subst e
    have:=oR c6
    subst this
    exact ⟨a,bs,rfl,bH.of ha,q _ _ _ _ (.refl m) (.bl _) z⟩
   ·exact z.elim
  ·exact z.elim
 ·exact z.elim⟩
theorem NW:bootBuiltins "any" = some (.builtin "any"):=PyProof.Rows.boot_any
end
end L2
namespace L2
open PySem PySem.Spec PySem.W PyProof.Rows
section
variable {X:Cx} {e st:dL} {te ts:TE} {p2 pos:ut}
def NX (K:ba) (te ts:TE):TE:=fun σ H Q=>te σ H fun x H1=>Ht ts σ H1 fun o H2=>o=some (-1)/\∃a xs,x=.ref a/\bH K H2 a xs/\∀p,H2 p=none->Q (.ref p) (upd H2 p (.lst xs.reverse))
theorem NY (he:PE X e te) (jY:PE X st ts):PE X (.Subscript e (.Slice none none (some st) p2) pos) (NX X.K te ts) :=by
 refine ⟨?_⟩
 intro pins s σ H Q I h
 refine Subscript_ (thn (he pins s σ H _ I h) fun v s1 ⟨x,H1,I1,r1,q1⟩=>?_)
 refine wpAny_Slice (thn (zt pins s1 σ H1 (fun o H=>o=none/\H=H1) I1 ⟨rfl,rfl⟩) fun vl s2 ⟨l,H2,I2,pl,el,eH⟩=>?_)
 subst el eH
 refine thn (zt pins s2 σ H2 (fun o H=>o=none/\H=H2) I2 ⟨rfl,rfl⟩) fun vu s3 ⟨u,H3,I3,pu,eu,eH⟩=>?_
 subst eu eH
 refine thn (Jc jY pins s3 σ H3 (fun o H=>o=some (-1)/\∃a xs,x=.ref a/\bH X.K H a xs/\∀p,H p=none->Q (.ref p) (upd H p (.lst xs.reverse))) I3 q1) fun vs s4 ⟨o,H4,I4,ps,eo,a,xs,ex,hx,q⟩=>?_
 subst eo ex
 cases r1
 have I5:Inv X pins σ H4 {s4 with heap:=s4.heap.push {cls:=.type "slice",data:=.fields #[vl,vu,vs]}}:=I4.kept (t':=s4.toks) fun b ob q=>bv _ q
 obtain ⟨its,r,ht,hz⟩:=I5.list hx
 have hlen:=r.length
 show wpAny (model X.prog X.w) X.A (subscriptTail e (.Slice none none (some st) p2) (.ref a) (.ref s4.heap.objs.size)) (EP X pins σ Q) X.xe {s4 with heap:=s4.heap.push {cls:=.type "slice",data:=.fields #[vl,vu,vs]}}
 refine tail_any (ops:=[.ref a,.ref s4.heap.objs.size]) ht.isList.typeIs Xs.lookup ?_ (by with_unfolding_all rfl)
 refine wpAny_getItem_list_slice ht.isList (ij.IsSliceOf.new ..) pl pu ps (by decide) ?_ (by rw [cr] <;> omega)
 rw [krv_pick]
 refine ⟨.ref _,_,I5.laid (t':=s4.toks) (o:=.lst xs.reverse) (fun b ob q=>bv _ q) (ce _) ?_,rfl,q _ (I5.hok.fresh (ce _))⟩
 exact ⟨by rw [List.length_reverse];exact hz,_,0,r.reverse,en _ rfl⟩
theorem J0 {K:ba} (h:X.K=K) (he:PE X e te) (jY:PE X st ts):PE X (.Subscript e (.Slice none none (some st) p2) pos) (NX K te ts):=h▸NY he jY
end
section
variable {X:Cx} {Γ:Gz} {K:ba} {e st:dL} {p ps:aI} {p2 pos:ut}
def zRev (p ps:aI):aI:=fun ρ M Q=>p ρ M fun d M1=>ps ρ M1 fun o M2=>o=.int (-1)/\(match d with | .lst ds=>Q (.lst ds.reverse) M2|_=>False)
theorem NZ (hK:X.K=K) (he:QE Γ X e p) (jY:QE Γ X st ps):QE Γ X (.Subscript e (.Slice none none (some st) p2) pos) (zRev p ps):=
 (J0 hK he jY).imp fun σ H Q ⟨β,ρ,M,Q',zr,h,q⟩=>⟨β,ρ,M,_,zr,h,fun d M1 v H1 x1 r1 h1=>⟨β,ρ,M1,_,zr.step x1,h1,fun o M2 u H2 x2 r2 ⟨e,h2⟩=>by
  subst e
  refine ⟨-1,aM r2,rfl,?_⟩
  cases d with
  |lst ds=>
   obtain ⟨a,vs,rfl,f,ha,rs⟩:=dD (r1.ex x2)
   refine ⟨a,vs,rfl,bH.of ha,fun p hp=>?_⟩
   have x3:=Ex.lay x2.mz hp (.lst vs.reverse)
   have RF:aL β M2 H2 vs.reverse ds.reverse:=⟨by simp [rs.len],fun i v d a b=>by
    have hi:=(bn.mp a).1
    have cZ:=(bn.mp b).1
    rw [List.length_reverse] at hi cZ
    rw [List.getElem?_reverse hi] at a
    rw [List.getElem?_reverse cZ,<- rs.len] at b
    exact rs.at' _ v d a b⟩
   exact q _ _ _ _ (x1.trans (x2.trans x3)) (kT (x2.mz.fz hp) aK (RF.ex x3)) h2
  |_=>exact h2.elim⟩⟩
end
end L2
open PySem L2 PyProof.Rows
local macro_rules | `(tactic| simp! only [$xs,*] $[$l]?)=>`(tactic| simp only [zVar,zC,zOp,zII,zIC,zEq,zNe,scalZ,zIsN,isNonD,zSS,zTest,zBool,zChain,zAnd,zOr,zNot,zAndV,zNotV,zIfE,zNil,zCons,zTup,zLst,zLstP,zCB,z1,zLenD,z2I,zAbs,zInt,zListP,zTuple,zSorted,zSet,zLenS,intsM,itemsM,zIsInst,isD,zBM,tyZ,zAppend,zExtend,zPop,zPopAt,zSetI,zgSub,zNext,zSeq,zDrop,zRet,zIfS,zgName,zgNil,zgCons,zgTup,zAsg,zFor,zForM,zComp,zCompP,zAll,zBlock,zCall,zRaise,zstart,zEndsOf,ziTup,ziLst,ziRng1,ziRng2,ziEnumK,ziZip,seqK,zIx,zRangeL,zRangeP,zNeg,zTruth,truD,zNoIf,zAllB,zGetR,zDIn,zMGet,lookD,nowK,keyD,zDNewK,zDNewT,zDisp1K,zDisp1T,zDPut,zCatLP,zIxS,zNever,boolsD,zSetDef,zSortT,zBMD,tyD,zComp2,zlOne,zlNest,zCompDT,zAnyB,zRev,Wu,Fa,nw,UV,IS,WL,Db,TW,List.replicate_succ,List.replicate_zero,Po,Ps,XE,Nat.reduceAdd,Nat.reduceSub,Wo,IT,if_true,if_false,l9,Xl,Bool.not_false,true_and,and_true,beq_self_eq_true,String.reduceBEq,zLoop,cb,TD,updM_same,updM_updM,FM,DD,tw,rangeD_len,pairsD_len,GE,atI_zero,decide_true,decide_false,Bool.not_eq_true,bne_self_eq_false,$xs,*] $[$l]?)
local macro_rules | `(tactic| dsimp! only [$xs,*] $[$l]?)=>`(tactic| simp only [zVar,zC,zOp,zII,zIC,zEq,zNe,scalZ,zIsN,isNonD,zSS,zTest,zBool,zChain,zAnd,zOr,zNot,zAndV,zNotV,zIfE,zNil,zCons,zTup,zLst,zLstP,zCB,z1,zLenD,z2I,zAbs,zInt,zListP,zTuple,zSorted,zSet,zLenS,intsM,itemsM,zIsInst,isD,zBM,tyZ,zAppend,zExtend,zPop,zPopAt,zSetI,zgSub,zNext,zSeq,zDrop,zRet,zIfS,zgName,zgNil,zgCons,zgTup,zAsg,zFor,zForM,zComp,zCompP,zAll,zBlock,zCall,zRaise,zstart,zEndsOf,ziTup,ziLst,ziRng1,ziRng2,ziEnumK,ziZip,seqK,zIx,zRangeL,zRangeP,zNeg,zTruth,truD,zNoIf,zAllB,zGetR,zDIn,zMGet,lookD,nowK,keyD,zDNewK,zDNewT,zDisp1K,zDisp1T,zDPut,zCatLP,zIxS,zNever,boolsD,zSetDef,zSortT,zBMD,tyD,zComp2,zlOne,zlNest,zCompDT,zAnyB,zRev,Wu,Fa,nw,UV,IS,WL,Db,TW,List.replicate_succ,List.replicate_zero,Po,Ps,XE,Nat.reduceAdd,Nat.reduceSub,Wo,IT,if_true,if_false,l9,Xl,Bool.not_false,true_and,and_true,beq_self_eq_true,String.reduceBEq,cb,TD,updM_same,updM_updM,FM,DD,tw,rangeD_len,pairsD_len,GE,atI_zero,decide_true,decide_false,Bool.not_eq_true,bne_self_eq_false,$xs,*] $[$l]?)
namespace My
open PySem L2 PyProof.Rows
def top (i:Nat):tz:=PySem.Challenge.pw_roadcall_k29_classes.main.body.getD i (.Pass ⟨0,0,0,0⟩)
abbrev gz:tz:=top 4
abbrev d7:tz:=top 5
abbrev ll:tz:=top 8
abbrev lq:tz:=top 9
abbrev ke:tz:=top 10
abbrev eW:tz:=top 12
abbrev i7:tz:=top 13
abbrev fo:tz:=top 14
abbrev eB:tz:=top 15
abbrev dU:tz:=top 16
abbrev dW:tz:=top 18
abbrev jS:tz:=top 19
abbrev kf:tz:=top 21
abbrev gW:tz:=top 22
abbrev gi:tz:=top 23
abbrev cJ:tz:=top 24
abbrev eX:tz:=top 25
abbrev gj:tz:=top 26
abbrev fq:tz:=top 27
abbrev i9:tz:=top 28
abbrev d8:tz:=top 29
abbrev eC:tz:=top 30
abbrev ft:tz:=top 31
abbrev eE:tz:=top 32
abbrev gX:tz:=top 33
abbrev Br:tz:=top 34
section
variable {P:gc} {w:i0} {K:ba} {mg:br->Option ap} {base:ij} {tb:di} {k:Nat} {f:ag} {fd:l5} {ps:List br}
theorem eY:aT ["_law_script","_law_at","_law_cell","_law_mix","_law_k"] ["_law_script","_law_at"] (ai kf):=⟨rfl,rfl,rfl,by decide +kernel,rfl,by decide +kernel,by decide +kernel⟩
theorem fu:aT ["_law_bag_here","_law_many","_law_digit","_law_number","_law_room"] ["_law_bag_here","_law_many"] (ai gW):=⟨rfl,rfl,rfl,by decide +kernel,rfl,by decide +kernel,by decide +kernel⟩
theorem nR:aT ["_law_bag_here","_law_many","_law_free"] ["_law_bag_here","_law_many"] (ai gi):=⟨rfl,rfl,rfl,by decide +kernel,rfl,by decide +kernel,by decide +kernel⟩
theorem bG:aT ["_law_bag_here","_law_most","_law_many","_law_ways","_law_kind","_law_rows","_law_order_here","_law_period","_law_stays","_law_k","_law_place","_law_onward","_law_goals_here","_law_turns"] ["_law_bag_here","_law_most"] (ai cJ):=⟨rfl,rfl,rfl,by decide +kernel,rfl,by decide +kernel,by decide +kernel⟩
def N0:cQ:=fun ds M Q _=>∃(ns:List Int) (t:Int),ds=[.bI ns,.int t]/\ns.length<=63/\0<=t/\t<=63/\∀b,M b=none->Q (.ptr b) (aw M b .dJ)
def Ij:cQ:=fun ds M Q _=>∃(ns:List Int) (t:Int),ds=[.bI ns,.int t]/\ns.length<=63/\0<=t/\t<=63/\∀b c m,M b=none->0<=c->0<=m->Q (.ptr b) (aw M b (.lst [.int c,.int m]))
theorem Bs (D:Df K mg "_law_bag" kf ["_law_script","_law_at"] f fd) (bl:Bl mg):FnOk P w K mg base bg 1 f fd ["_law_script","_law_at"] (aS P w K tb Ij) :=by
 refine d6 D eY (fun ds M Q E hS=>by obtain ⟨ns,t,e,_⟩:=hS;rw [e];rfl) fun A outer s E Γ ds Q' E' hP hw hK ht hr hS=>?_
 obtain ⟨ns,t,e,hl,t0,t1,q⟩:=hS
 refine ⟨_,(af (aJ (i:=2) eY.nd rfl (li rfl) aB)
  (af (bW (aQ m8 (qv 1) (aq (dm (K:=K) rfl hK) rfl bl.len_ rf (aa (qv 0) ae)) (aR _))
   (ao (aJ (i:=2) eY.nd rfl (li rfl) (aq P2 rfl bl.abs_ Mj (aa (bq (Ia (K:=K) rfl hK) (qv 0) (qv 1) (fun _ _=>rfl)) ae))))
   qss_nil)
  (af (aJ (i:=3) eY.nd rfl (li rfl) (bF g9 (bF pF aB (qv 1)) aB))
  (af (dR sw rfl (bu rfl bl.range_ (aa (aq (oK rfl) rfl bl.min_ oi (aa (aq (dm (K:=K) rfl hK) rfl bl.len_ rf (aa (qv 0) ae)) (aa aB ae))) ae)) (fun j1 eP ew eK et=>by have hP:=hP.trans eP.symm;have hw:=hw.trans ew.symm;have hK:=hK.trans eK.symm;have ht:=ht.trans et.symm;exact ⟨(az (i:=4) eY.nd rfl (li rfl)),(ao (aJ (i:=3) eY.nd rfl (li rfl) (bF ka (bF g9 (bF g9 (bF pF (qv 3) aB) (bF ka (bq (Ia (K:=K) rfl hK) (qv 0) (qv 4) (fun _ _=>rfl)) aB)) (qv 4)) aB)))⟩))
  (af (bW (aQ m8 (qv 2) (bF P0 aB aB) (aR _))
   (ao (aJ (i:=2) eY.nd rfl (li rfl) aB))
   qss_nil)
  (ao (aN (ki (aa (qv 2) (aa (qv 3) ae)))))))))),?_⟩
 subst e
 refine P9 (fun ρ M=>M=Γ.M0/\∃c m x:Int,∃x4,0<=c/\0<=m/\ρ=[some (.bI ns),some (.int t),some (.int c),some (.int m),x4]) (fun N hN=>?_) ?_
 ·refine P7 (fun ρ M=>M=Γ.M0/\∃c:Int,0<=c/\ρ=[some (.bI ns),some (.int t),some (.int c),none,none]) (fun N hN=>?_) ?_
  ·simp! only []
   refine fb (fun h=>?_) (fun _=>hN _ _ ⟨rfl,0,by omega,rfl⟩)
   have ht:t<(ns.length:Int):=of_decide_eq_true h
   obtain ⟨k,rfl⟩:=sB t0
   rw [DR (show k<ns.length by omega)]
   exact hN _ _ ⟨rfl,_,by split <;> omega,rfl⟩
  rintro ρ M ⟨rfl,c,hc,rfl⟩
  simp! only []
  refine ⟨.inl ⟨by decide,by decide⟩,by split <;> omega,by split <;> omega,?_⟩
  refine bQ (fun i ρ M=>M=Γ.M0/\∃m:Int,∃x4,0<=m/\ρ=[some (.bI ns),some (.int t),some (.int c),some (.int m),x4]) ⟨rfl,_,_,by omega,rfl⟩ (fun i d ρ M N2 hd hJ jT=>?_) (fun ρ M hJ=>?_)
  ·obtain ⟨rfl,m,x4,hm,rfl⟩:=hJ
   obtain ⟨rfl,hi⟩:=bR hd
   have hi:i<ns.length :=by split at hi <;> omega
   simp! only [DR hi]
   exact ⟨.inr ⟨by decide,by decide⟩,by decide,by decide,jT _ _ ⟨rfl,_,_,W0 _ (by decide),rfl⟩⟩
  ·obtain ⟨rfl,m,x4,hm,rfl⟩:=hJ
   exact hN _ _ ⟨rfl,c,m,0,x4,hc,hm,rfl⟩
 ·rintro ρ M ⟨rfl,c,m,x,x4,hc,hm,rfl⟩
  simp! only []
  exact ⟨⟨by decide,by decide,by decide⟩,fb (fun _=>⟨by decide,fun a ha=>.inl (q a 0 m ha (by omega) hm)⟩) (fun _=>⟨by decide,fun a ha=>.inl (q a c m ha hc hm)⟩)⟩
theorem Qe (G:FnOk P w K mg base bg k f fd ps (aS P w K tb Ij)):FnOk P w K mg base bg k f fd ps (aS P w K tb N0):=G.imp fun vs H Q E hS=>by
 obtain ⟨β,ds,M,Q',E',eP,ew,eK,et,m,rs,⟨ns,t,e,h1,h2,h3,h⟩,q,qe⟩:=hS
 refine ⟨β,ds,M,fun d M'=>∃b c m,d=.ptr b/\M b=none/\0<=c/\0<=m/\M'=aw M b (.lst [.int c,.int m]),fun _ _=>False,eP,ew,eK,et,m,rs,⟨ns,t,e,h1,h2,h3,fun b c m h4 h5 h6=>⟨b,c,m,rfl,h4,h5,h6,rfl⟩⟩,fun d M' v H' x r hQ=>?_,fun _ _ _ _ h=>h.elim⟩
 obtain ⟨b,c,m',rfl,hb,hc,hm,rfl⟩:=hQ
 have hB:=D5 x.mz hc hm
 exact q _ _ _ _ (Ex.sealed hb x hB) (r.dom (kj M b _ _)) (h b hb)
def sE:cQ:=fun ds M Q _=>∃(b:ag) (n:Int),ds=[.ptr b,.int n]/\M b=some .dJ/\1<=n/\n<1073741824/\∀d:Nat,(d:Int)<n->Q (.int (d:Nat)) M
def Ej:cQ:=fun ds M Q _=>∃(b:ag) (n c m:Int),ds=[.ptr b,.int n]/\M b=some (.lst [.int c,.int m])/\0<=c/\0<=m/\1<=n/\n<1073741824/\∀(d:Nat) (c m:Int),(d:Int)<n->0<=c->0<=m->Q (.int (d:Nat)) (aw M b (.lst [.int c,.int m]))
theorem yT (D:Df K mg "_law_take" gW ["_law_bag_here","_law_many"] f fd):FnOk P w K mg base bg 1 f fd ["_law_bag_here","_law_many"] (aS P w K tb Ej) :=by
 refine d6 D fu (fun ds M Q E hS=>by obtain ⟨b,n,c,m,e,_⟩:=hS;rw [e];rfl) fun A outer s E Γ ds Q' E' hP hw hK ht hr hS=>?_
 obtain ⟨b,n,c,m,e,hb,hc,hm,n1,n2,q⟩:=hS
 refine ⟨_,(af (bW (aQ Nf (bq (ck (K:=K) rfl) (qv 0) aB (fun _ _=>rfl)) aB (aR _))
   (af (aJ (i:=2) fu.nd rfl (li rfl) (bF ka (bq (ck (K:=K) rfl) (qv 0) aB (fun _ _=>rfl)) (qv 1)))
  (af (mH (bF DI (bq (ck (K:=K) rfl) (qv 0) aB (fun _ _=>rfl)) (qv 1)) (mK (qv 0) aB))
  (ao (aN (qv 2)))))
   qss_nil)
  (af (aJ (i:=3) fu.nd rfl (li rfl) aB)
  (af (aJ (i:=4) fu.nd rfl (li rfl) aB)
  (af (qC sw (aQ m8 (qv 4) (qv 1) (aR _))
   (af (mH (bF ka (bF g9 (bF pF (bq (ck (K:=K) rfl) (qv 0) aB (fun _ _=>rfl)) aB) aB) aB) (mK (qv 0) aB))
  (af (aJ (i:=3) fu.nd rfl (li rfl) (bF g9 (bF pF (qv 3) aB) (bF ka (bF pF (bF DI (bq (ck (K:=K) rfl) (qv 0) aB (fun _ _=>rfl)) aB) aB) aB)))
  (ao (aJ (i:=4) fu.nd rfl (li rfl) (bF pF (qv 4) aB))))))
  (ao (aN (bF ka (qv 3) (qv 1)))))))),?_⟩
 subst e
 have Ve:∀x y:Int,cY [Dv.int x,Dv.int y] 1=some (.int y):=fun x y=>ez (j:=1) rfl
 have Vf:jK 2 0=some 0:=rfl
 have Vg:jK 2 1=some 1:=rfl
 have fin:∀{i c m:Int} {M:Mh},0<=c->0<=m->M=aw Γ.M0 b (.lst [.int c,.int m])->mj Γ.M0 Q' (.int (i % n)) M:=fun {i c m M} hc hm e=>by
  obtain ⟨d,hd⟩:=sB (W0 i (show n≠0 by omega))
  have:=Int.emod_lt_of_pos i (show 0<n by omega)
  rw [hd,e]
  exact .inl (q d c m (by omega) hc hm)
 simp! only [hb,Vf]
 refine fb (fun h=>?_) (fun h=>?_)
 ·refine ⟨by omega,⟨by omega,n2⟩,fin (Int.ediv_nonneg hc (by omega)) hm rfl⟩
 ·refine ⟨fun k ρ M=>∃num room c m x2,0<=num/\1<=room/\0<=c/\0<=m/\k=(n - room).toNat/\ρ=[some (.ptr b),some (.int n),x2,some (.int num),some (.int room)]/\M=aw Γ.M0 b (.lst [.int c,.int m]),⟨_,0,1,c,m,_,by omega,by omega,hc,hm,rfl,rfl,(zW hb).symm⟩,?_⟩
  rintro k ρ M ⟨num,room,c,m,x2,h1,h2,hc,hm,rfl,rfl,rfl⟩
  simp! only [Ve,Vg,updM_same]
  refine fb (fun h=>?_) (fun h=>⟨by omega,fin hc hm rfl⟩)
  have h:=of_decide_eq_true h
  have m3:0<=(m * 48271+7919) % 2147483647:=W0 _ (by decide)
  have n3:0<=(m * 48271+7919) % 2147483647 / 8 * 69621 % 1073741789:=W0 _ (by decide)
  refine ⟨.inr ⟨by decide,by decide⟩,by decide,.inr ⟨by decide,by decide⟩,⟨by decide,by decide⟩,.inr ⟨by decide,by decide⟩,by decide,.inr ⟨by decide,by decide⟩,_,?_,_,_,c,_,_,?_,?_,hc,m3,rfl,rfl,rfl⟩ <;> omega
theorem N1 (G:FnOk P w K mg base bg k f fd ps (aS P w K tb Ej)):FnOk P w K mg base bg k f fd ps (aS P w K tb sE):=G.imp fun vs H Q E hS=>by
 obtain ⟨β,ds,M,Q',E',eP,ew,eK,et,m,rs,⟨b,n,e,hb,h1,h2,h⟩,q,qe⟩:=hS
 have eM:=zW hb
 have d1:∀o a,(M a).isSome=(aw M b o a).isSome:=fun o a=>by have:=kj M b .dJ o a;rwa [eM] at this
 rw [<- eM] at m
 obtain ⟨c,m0,hc,hm,hO⟩:=ND m
 refine ⟨β,ds,aw M b (.lst [.int c,.int m0]),fun d M'=>∃(k:Nat) (c' m':Int),d=.int (k:Nat)/\(k:Int)<n/\0<=c'/\0<=m'/\M'=aw M b (.lst [.int c',.int m']),fun _ _=>False,eP,ew,eK,et,m.chg hO,⟨rs.len,fun i v d x y=>(rs.at' i v d x y).dom (d1 _)⟩,⟨b,n,c,m0,e,updM_same,hc,hm,h1,h2,fun d c' m' h3 h4 h5=>⟨d,c',m',rfl,h3,h4,h5,updM_updM⟩⟩,fun d M' v H' x r hQ=>?_,fun _ _ _ _ h=>h.elim⟩
 obtain ⟨k,c',m',rfl,hk,v8,wC,rfl⟩:=hQ
 have hB:=D5 x.mz v8 wC
 have x2:=Ex.chg (o2:=.dJ) x hB
 rw [eM] at x2
 exact q _ _ _ _ x2 (r.dom fun a=>(d1 _ a).symm) (h k hk)
theorem u5 {α β:Type} (f:α->β):∀(l:List α) (i:Nat),(l.map f).eraseIdx i=(l.eraseIdx i).map f
 | [],_=>rfl
 |_::_,0=>rfl
 |a::l,i+1=>by
          show f a::(l.map f).eraseIdx i=f a::(l.eraseIdx i).map f
          rw [u5 f l i]
theorem gr {α:Type}:∀(l:List α) (i:Nat) (h:i<l.length),(l[i]::l.eraseIdx i).Perm l
 |a::l,0,_=>.refl _
 |a::l,i+1,h=>by
          have h':i<l.length :=by simpa using h
          show (l[i]::a::l.eraseIdx i).Perm (a::l)
          exact (Pc.swap a l[i] _).trans ((gr l i h').cons a)
structure fO (n:Nat) (os:List Int):Prop where
 perm:os.Perm ((hX n).map fun i:Nat=>(i:Int))
theorem fO.len {n:Nat} {os:List Int} (h:fO n os):os.length=n :=by
 have:=h.perm.length_eq
 simpa using this
theorem fO.mem {n:Nat} {os:List Int} (h:fO n os) {x:Int} (hx:x∈os):0<=x/\x<n :=by
 have:=h.perm.mem_iff.mp hx
 obtain ⟨i,hi,rfl⟩:=i8.mp this
 have:=ul.mp hi
 omega
theorem fO.at {n:Nat} {os:List Int} (h:fO n os) {i:Nat} (hi:i<n):∃x:Int,cY (os.map Dv.int) (i:Int)=some (.int x)/\0<=x/\x<n :=by
 have hl:i<os.length :=by rw [h.len];exact hi
 exact ⟨os[i],ez (by rw [c8,ac hl];rfl),h.mem (r9 hl)⟩
def Ek:cQ:=fun ds M Q _=>∃(b:ag) (n:Nat),ds=[.ptr b,.int (n:Nat)]/\M b=some .dJ/\n<=100/\∀os,fO n os->Q (b8 os) M
def Ik:cQ:=fun ds M Q _=>∃(b:ag) (most:Nat),ds=[.ptr b,.int (most:Nat)]/\M b=some .dJ/\1<=most/\most<=9/\∀net n,a9 net n->net.length<=most->Q (eN net) M
theorem J1 {n d:Nat} (h:d<n):seqIndex? (d:Int) n=some d:=(sW (n:=n) (i:=(d:Int)) (j:=d) (by unfold jK;rw [if_pos (by omega),if_pos (by omega)];rfl)).1
theorem xT {f1:ag} {cR:l5} (D:Df K mg "_law_order" gi ["_law_bag_here","_law_many"] f fd)
  (ax:Df K mg "_law_take" gW ["_law_bag_here","_law_many"] f1 cR) (cg:FnOk P w K mg base bg 1 f1 cR ["_law_bag_here","_law_many"] (aS P w K tb sE)) (bl:Bl mg):FnOk P w K mg base bg 2 f fd ["_law_bag_here","_law_many"] (aS P w K tb Ek) :=by
 refine d6 D nR (fun ds M Q E hS=>by obtain ⟨b,n,e,_⟩:=hS;rw [e];rfl) fun A outer s E Γ ds Q' E' hP hw hK ht hr hS=>?_
 obtain ⟨b,n,e,hb,hn,q⟩:=hS
 refine ⟨_,(af (aJ (i:=2) nR.nd rfl (xy rfl) (vt rfl rfl bl.list_ rfl bl.range_ (qv 1)))
  (ao (aN (bh (N':=["_law_k","_law_free","_law_bag_here","_law_many"]) (tn:=1) (idx:=[2,0,1]) rfl (show ay ["_law_bag_here","_law_many","_law_free"] (ai gi) _ ["_law_k","_law_free","_law_bag_here","_law_many"] 1 [2,0,1] from by decide +kernel) (bu rfl bl.range_ (aa (qv 1) ae)) (fun _ _ _ _ _=>(az (i:=0) (show mv [("_law_k" : br),("_law_free" : br),("_law_bag_here" : br),("_law_many" : br)] from by decide +kernel) rfl (li rfl))) (fun _ _ _ _ _=>bz) (fun _ _ _ _ _=>(jF (K:=K) rfl wS PySem.F.slot_list_pop PySem.F.type_list_pop JD (qv 1) (aa (aE cg (hr.mono (by decide)) rfl ax.mg ax.fn.kp ax.bd aZ hP hw hK ht XR.none (aa (qv 2) (aa (bF PZ (qv 3) (qv 0)) ae))) ae))))))),?_⟩
 subst e
 simp! only []
 refine ⟨by omega,by omega,fun a ha=>⟨by omega,by omega,?_⟩⟩
 have N3:b≠a:=fun z=>by rw [z,ha] at hb;cases hb
 refine ⟨Pi hn (by decide),iu (acc:=[]) (fun acc τ M=>∃rest got:List Int,acc=got.map Dv.int/\(∃x,τ=[x,some (.ptr a),some (.ptr b),some (.int (n:Nat))])/\M a=some (.lst (rest.map .int))/\(∀c,c≠a->M c=Γ.M0 c)/\(got++rest).Perm ((hX n).map fun i:Nat=>(i:Int))) ⟨(hX n).map fun i:Nat=>(i:Int),[],rfl,⟨_,rfl⟩,by rw [updM_same,gf,wv];rfl,fun c hc=>ah hc,.refl _⟩ (fun i d acc τ M hd hl ⟨rest,got,e1,⟨x,e2⟩,h1,h2,h3⟩ R hR=>?_) (fun ys τ M hl ⟨rest,got,e1,⟨x,e2⟩,h1,h2,h3⟩=>?_)⟩
 ·subst e1 e2
  obtain ⟨rfl,hi⟩:=bR hd
  have hlen:got.length+rest.length=n :=by have:=h3.length_eq;simpa using this
  have hl:got.length=i :=by simpa using hl
  simp! only []
  refine ⟨by rw [h1];trivial,b,_,rfl,(by rw [h2 b N3];exact hb),by omega,by omega,fun d hd=>?_⟩
  have uH:d<rest.length :=by omega
  simp only [h1,cb,J1 uH,c8,ac uH,Cs]
  refine ⟨by omega,by omega,hR _ _ _ ⟨rest.eraseIdx d,got++[rest[d]],by rw [mo];rfl,⟨_,rfl⟩,by rw [updM_same,u5],fun c hc=>by rw [ah hc];exact h2 c hc,?_⟩⟩
  refine Pc.trans ?_ h3
  rw [KF]
  exact Pc.append_left got (gr rest d uH)
 ·simp only [IS] at e1
  subst e1
  have hlen:got.length+rest.length=n :=by have:=h3.length_eq;simpa using this
  have hl:got.length=n :=by simpa [rangeD_len] using hl
  have u6:rest=[]:=RI (by omega)
  rw [u6,FM] at h3
  exact lL (fun c o e=>by rw [h2 c (fun z=>by rw [z,ha] at e;cases e)];exact e) (.lst (fH _)) (q got ⟨h3⟩)
end
section
variable {P:gc} {w:i0} {K:ba} {mg:br->Option ap} {base:ij} {tb:di}
def gA (n ways:Nat) (row:List Int):Prop:=row.length=ways/\∀x∈row,0<=x/\x<(n:Int)
structure dN (M0 M:Mh) (r:ag) (as:List ag) (n ways:Nat):Prop where
 kp:Keeps M0 M
 r0:M0 r=none
 rm:M r=some (.lst (as.map .ptr))
 fr:∀a∈as,M0 a=none/\a≠r
 len:as.length=n
 row:∀a∈as,∃row:List Int,M a=some (.lst (row.map .int))/\gA n ways row
 pin:∀b o,M b=some o->M0 b=some o\/b=r\/(∃row:List Int,o=.lst (row.map .int))\/∃bs:List ag,o=.lst (bs.map .ptr)/\∀c∈bs,c≠r/\∃o,M c=some o
theorem dN.wQ {M0 M:Mh} {r:ag} {as:List ag} {n ways:Nat} (h:dN M0 M r as n ways) {a:ag} (ha:a∈as) {row:List Int} (o:gA n ways row):dN M0 (aw M a (.lst (row.map .int))) r as n ways :=by
 obtain ⟨f0,f1⟩:=h.fr a ha
 refine ⟨.upd f0 h.kp,h.r0,by rw [ah (wE f1)];exact h.rm,h.fr,h.len,fun c hc=>?_,fun b u e=>?_⟩
 ·by_cases z:c=a
  ·subst z;exact ⟨row,updM_same,o⟩
  ·rw [ah z];exact h.row c hc
 ·by_cases z:b=a
  ·subst z;rw [updM_same] at e;cases e;exact .inr (.inr (.inl ⟨row,rfl⟩))
  ·rw [ah z] at e
   rcases h.pin b u e with q|q|q|⟨bs,q1,q2⟩
   ·exact .inl q
   ·exact .inr (.inl q)
   ·exact .inr (.inr (.inl q))
   ·refine .inr (.inr (.inr ⟨bs,q1,fun c hc=>⟨(q2 c hc).1,?_⟩⟩))
    by_cases z:c=a
    ·subst z;exact ⟨_,updM_same⟩
    ·rw [ah z];exact (q2 c hc).2
theorem dN.put {M0 M:Mh} {r:ag} {as:List ag} {n ways:Nat} (h:dN M0 M r as n ways) {a:ag} (ha:M a=none) {row:List Int} (o:gA n ways row) {i:Nat} (hi:i<n):dN M0 (aw (aw M a (.lst (row.map .int))) r (.lst ((as.map .ptr).set i (.ptr a)))) r (as.set i a) n ways :=by
 have nr:a≠r:=fun z=>by rw [z,h.rm] at ha;cases ha
 have a0:M0 a=none :=by
  cases e:M0 a with
  |none=>rfl
  |some u=>rw [h.kp a u e] at ha;cases ha
 have Vh:a ∉ as:=fun z=>by obtain ⟨row,e,_⟩:=h.row a z;rw [ha] at e;cases e
 refine ⟨.upd h.r0 (.upd a0 h.kp),h.r0,by rw [updM_same,List.map_set],fun c hc=>?_,by rw [TD];exact h.len,fun c hc=>?_,fun b u e=>?_⟩
 ·rcases Uf hc with z|z
  ·exact h.fr c z
  ·rw [z];exact ⟨a0,nr⟩
 ·rcases Uf hc with z|z
  ·have n1:=(h.fr c z).2
   have n2:c≠a:=fun e=>Vh (e▸z)
   rw [ah n1,ah n2];exact h.row c z
  ·rw [z,ah nr,updM_same];exact ⟨row,rfl,o⟩
 ·by_cases z:b=r
  ·exact .inr (.inl z)
  ·rw [ah z] at e
   by_cases z2:b=a
   ·subst z2;rw [updM_same] at e;cases e;exact .inr (.inr (.inl ⟨row,rfl⟩))
   ·rw [ah z2] at e
    rcases h.pin b u e with q|q|q|⟨bs,q1,q2⟩
    ·exact .inl q
    ·exact .inr (.inl q)
    ·exact .inr (.inr (.inl q))
    ·refine .inr (.inr (.inr ⟨bs,q1,fun c hc=>⟨(q2 c hc).1,?_⟩⟩))
     rw [ah (q2 c hc).1]
     by_cases z:c=a
     ·subst z;exact ⟨_,updM_same⟩
     ·rw [ah z];exact (q2 c hc).2
structure lr (M0 M:Mh):Prop where
 kp:Keeps M0 M
 pin:∀b o,M b=some o->M0 b=some o\/(∃row:List Int,o=.lst (row.map .int))\/∃bs:List ag,o=.lst (bs.map .ptr)/\∀c∈bs,∃o,M c=some o
theorem lr.refl {M0:Mh}:lr M0 M0:=⟨.refl,fun b o e=>.inl e⟩
theorem kg {M0 M:Mh} (h:Keeps M0 M) {a:ag} (ha:M a=none):M0 a=none :=by
 cases e:M0 a with
 |none=>rfl
 |some u=>rw [h a u e] at ha;cases ha
theorem lr.row {M0 M:Mh} (h:lr M0 M) {a:ag} (ha:M a=none) (row:List Int):lr M0 (aw M a (.lst (row.map .int))) :=by
 refine ⟨.upd (kg h.kp ha) h.kp,fun b o e=>?_⟩
 by_cases z:b=a
 ·subst z;rw [updM_same] at e;cases e;exact .inr (.inl ⟨row,rfl⟩)
 ·rw [ah z] at e
  rcases h.pin b o e with q|q|⟨bs,q1,q2⟩
  ·exact .inl q
  ·exact .inr (.inl q)
  ·refine .inr (.inr ⟨bs,q1,fun c hc=>?_⟩)
   by_cases z:c=a
   ·subst z;exact ⟨_,updM_same⟩
   ·rw [ah z];exact q2 c hc
theorem dN.own {M0 M:Mh} {r:ag} {as:List ag} {n ways:Nat} (h:dN M0 M r as n ways):lr M0 M:=⟨h.kp,fun b o e=>by
 rcases h.pin b o e with q|q|q|⟨bs,q1,q2⟩
 ·exact .inl q
 ·subst q;rw [h.rm] at e;cases e
  exact .inr (.inr ⟨as,rfl,fun c hc=>let ⟨row,e,_⟩:=h.row c hc;⟨_,e⟩⟩)
 ·exact .inr (.inl q)
 ·exact .inr (.inr ⟨bs,q1,fun c hc=>(q2 c hc).2⟩)⟩
theorem dN.mk' {M0 M:Mh} {r:ag} {as:List ag} {n ways:Nat} (h:lr M0 M) (hr:M r=none) (hl:as.length=n) (ha:∀a∈as,M0 a=none/\∃row:List Int,M a=some (.lst (row.map .int))/\gA n ways row):dN M0 (aw M r (.lst (as.map .ptr))) r as n ways :=by
 have ne:∀{c o},M c=some o->c≠r:=fun e z=>by rw [z,hr] at e;cases e
 refine ⟨.upd (kg h.kp hr) h.kp,kg h.kp hr,updM_same,fun a h=>?_,hl,fun a h=>?_,fun b o e=>?_⟩
 ·obtain ⟨h0,row,e,_⟩:=ha a h
  exact ⟨h0,ne e⟩
 ·obtain ⟨h0,row,e,o⟩:=ha a h
  exact ⟨row,by rw [ah (ne e)];exact e,o⟩
 ·by_cases z:b=r
  ·exact .inr (.inl z)
  ·rw [ah z] at e
   rcases h.pin b o e with q|q|⟨bs,q1,q2⟩
   ·exact .inl q
   ·exact .inr (.inr (.inl q))
   ·refine .inr (.inr (.inr ⟨bs,q1,fun c hc=>?_⟩))
    obtain ⟨u,e⟩:=q2 c hc
    exact ⟨ne e,u,by rw [ah (ne e)];exact e⟩
theorem vU {g:b9} {te:aI} {n:Nat} {M1:Mh} (T:aC->Prop) {ds:List Dv} {τ:aC} {Q:List Dv->Mh->Prop} (h0:T τ) (h:∀d∈ds,∀τ,T τ->∀R:aC->ZK,(∀(x:Int) aA,0<=x->x<(n:Int)->T aA->R aA (.int x) M1)->g d τ M1 fun aA M2=>te aA M2 (R aA)) (q:∀row:List Int,row.length=ds.length->(∀x∈row,0<=x/\x<(n:Int))->Q (row.map .int) M1):ik g zNoIf te ds τ M1 Q :=by
 refine iu (acc:=[]) (fun acc τ M=>∃row:List Int,acc=row.map Dv.int/\(∀x∈row,0<=x/\x<(n:Int))/\T τ/\M=M1) ⟨[],rfl,(fun _ h=>nomatch h),h0,rfl⟩ (fun i d acc τ M hd _ ⟨row,e1,hr,ht,e2⟩ R hR=>?_) (fun ys τ M hl ⟨row,e1,hr,ht,e2⟩=>?_)
 ·subst e1 e2
  refine h d (ci hd) τ ht R fun x aA x0 x1 t2=>hR _ _ _ ⟨row++[x],by rw [mo];rfl,fun y hy=>?_,t2,rfl⟩
  rcases l6.mp hy with z|z
  ·exact hr y z
  ·rw [jp] at z;rw [z];exact ⟨x0,x1⟩
 ·rw [IS] at e1
  subst e1 e2
  exact q row (by simpa using hl) hr
def fv (x:Option Dv):Prop:=∀M d,x=some d->Pin M d
theorem fv.none:fv none:=fun _ _ h=>nomatch h
theorem fv.int (i:Int):fv (some (.int i)):=fun _ _ h=>by cases h;exact .int i
theorem fv.lI (ns:List Int):fv (some (b8 ns)):=fun _ _ h=>by cases h;exact .lst (fH ns)
theorem u9 {M0 M:Mh} {as:List ag} {n ways:Nat} {T:Prop} (hO:lr M0 M) (ha:∀a∈as,M0 a=none/\∃row:List Int,M a=some (.lst (row.map .int))/\gA n ways row) {a:ag} (h:M a=none) {row:List Int} (o:gA n ways row) (t:T) :
  ∃RH:List ag,as.map Dv.ptr++[Dv.ptr a]=RH.map Dv.ptr/\T/\lr M0 (aw M a (.lst (row.map .int)))/\∀c∈RH,M0 c=none/\∃Bt:List Int,aw M a (.lst (row.map .int)) c=some (.lst (Bt.map .int))/\gA n ways Bt :=by
 refine ⟨as++[a],by rw [mo];rfl,t,hO.row h row,fun c hc=>?_⟩
 rcases l6.mp hc with z|z
 ·obtain ⟨h0,Bt,e,o'⟩:=ha c z
  have ne:c≠a:=fun q=>by rw [q,h] at e;cases e
  exact ⟨h0,Bt,by rw [ah ne];exact e,o'⟩
 ·rw [jp] at z
  subst z
  exact ⟨kg hO.kp h,row,updM_same,o⟩
theorem pM {n d:Nat} (h:d<n):jK n (d:Int)=some d :=by unfold jK;rw [if_pos (by omega),if_pos (by omega)];rfl
theorem xU (row:List Int) (t:Nat) (x:Int):(row.map Dv.int).set t (.int x)=(row.set t x).map Dv.int :=by rw [List.map_set]
theorem gA.set {n ways:Nat} {row:List Int} (h:gA n ways row) {t:Nat} {x:Int} (x0:0<=x) (x1:x<(n:Int)):gA n ways (row.set t x):=⟨by rw [TD];exact h.1,fun y hy=>by
 rcases Uf hy with z|z
 ·exact h.2 y z
 ·rw [z];exact ⟨x0,x1⟩⟩
def sF (os:List Int):Dv->Int | .int j=>os.getD j.toNat 0|_=>0
theorem xV {os:List Int} {j:Nat} {x:Int} (h:cY (os.map Dv.int) (j:Int)=some (.int x)):sF os (.int (j:Nat))=x :=by
 by_cases hj:j<os.length
 ·rw [ez (j:=j) (v:=Dv.int os[j]) (by rw [c8,ac hj];rfl)] at h
  cases h
  show os.getD (Int.toNat (j:Int)) 0=_
  rw [tw,bi,ac hj];rfl
 ·unfold cY jK at h
  rw [if_pos (by omega),if_neg (by simp;omega)] at h
  cases h
def GO (per i:Nat):Dv->Bool | .int j=>decide (j % (per:Int)=((i:Int)+1) % (per:Int))|_=>false
theorem GP {n per i:Nat} {os:List Int} (oV:fO n os) (p1:1<=per) (pn:per<=n):∃gs:List Int,((cD 0 n).filter (GO per i)).map (fun d=>Dv.int (sF os d))=gs.map Dv.int/\1<=gs.length/\gs.length<=n/\∀x∈gs,0<=x/\x<(n:Int) :=by
 refine ⟨((cD 0 n).filter (GO per i)).map (sF os),by rw [wv];rfl,?_,?_,fun x hx=>?_⟩
 ·rw [cb]
  refine List.length_pos_of_mem (a:=Dv.int (((i+1) % per:Nat):Int)) (Fk.mpr ⟨?_,?_⟩)
  ·have:(i+1) % per<per:=X8 _ (by omega)
   exact ci (i:=(i+1) % per) (by rw [cD,c8,AC (by omega)];simp)
  ·show decide _=true
   rw [decide_eq_true_eq]
   push_cast
   exact Int.emod_emod_of_dvd _ (Int.dvd_refl _)
 ·rw [cb]
  exact ln (IN _ _) (by rw [rangeD_len];exact ce _)
 ·obtain ⟨d,hd,rfl⟩:=i8.mp hx
  obtain ⟨j,hj,rfl⟩:=si (Fk.mp hd).1
  rw [DD]
  obtain ⟨gx,lR,g0,g1⟩:=oV.at hj
  rw [xV lR]
  exact ⟨g0,g1⟩
theorem Bu {f f1 f2:ag} {fd cR fd2:l5} (D:Df K mg "_law_net" cJ ["_law_bag_here","_law_most"] f fd)
  (ax:Df K mg "_law_take" gW ["_law_bag_here","_law_many"] f1 cR) (cg:FnOk P w K mg base bg 1 f1 cR ["_law_bag_here","_law_many"] (aS P w K tb sE))
  (cK:Df K mg "_law_order" gi ["_law_bag_here","_law_many"] f2 fd2) (oW:FnOk P w K mg base bg 2 f2 fd2 ["_law_bag_here","_law_many"] (aS P w K tb Ek)) (bl:Bl mg):FnOk P w K mg base bg 3 f fd ["_law_bag_here","_law_most"] (aS P w K tb Ik) :=by
 refine d6 D bG (fun ds M Q E hS=>by obtain ⟨b,n,e,_⟩:=hS;rw [e];rfl) fun A outer s E Γ ds Q' E' hP hw hK ht hr hS=>?_
 obtain ⟨b,most,e,hb,h1,h9,q⟩:=hS
 refine ⟨_,(af (aJ (i:=2) bG.nd rfl (xy rfl) (bF g9 aB (aE cg (hr.mono (by decide)) rfl ax.mg ax.fn.kp ax.bd aZ hP hw hK ht XR.none (aa (qv 0) (aa (qv 1) ae)))))
  (af (aJ (i:=3) bG.nd rfl (xy rfl) (bF g9 aB (aE cg (hr.mono (by decide)) rfl ax.mg ax.fn.kp ax.bd aZ hP hw hK ht XR.none (aa (qv 0) (aa aB ae)))))
  (af (aJ (i:=4) bG.nd rfl (li rfl) (aE cg (hr.mono (by decide)) rfl ax.mg ax.fn.kp ax.bd aZ hP hw hK ht XR.none (aa (qv 0) (aa aB ae))))
  (af (qd (i:=5) bG.nd rfl rfl (N':=["_law_place","_law_bag_here","_law_many","_law_ways"]) (tn:=1) (idx:=[0,2,3]) rfl (show ay ["_law_bag_here","_law_most","_law_many","_law_ways","_law_kind","_law_rows","_law_order_here","_law_period","_law_stays","_law_k","_law_place","_law_onward","_law_goals_here","_law_turns"] (ai cJ) _ ["_law_place","_law_bag_here","_law_many","_law_ways"] 1 [0,2,3] from by decide +kernel) (bu rfl bl.range_ (aa (qv 2) ae)) (fun _ _ _ _ _=>(az (i:=0) (show mv [("_law_place" : br),("_law_bag_here" : br),("_law_many" : br),("_law_ways" : br)] from by decide +kernel) rfl (li rfl))) (fun _ _ _ _ _=>bz) (fun _ _ _ _ _=>(iY (N':=["_law_road","_law_bag_here","_law_many"]) (tn:=1) (idx:=[1,2]) rfl (ay.rel (show ay ["_law_place","_law_bag_here","_law_many","_law_ways"] _ _ ["_law_road","_law_bag_here","_law_many"] 1 [1,2] from by decide +kernel)) (bu rfl bl.range_ (aa (qv 3) ae)) (fun _ _ _ _ _=>(az (i:=0) (show mv [("_law_road" : br),("_law_bag_here" : br),("_law_many" : br)] from by decide +kernel) rfl (li rfl))) (fun _ _ _ _ _=>bz) (fun _ _ _ _ _=>(aE cg (hr.mono (by decide)) rfl ax.mg ax.fn.kp ax.bd aZ hP hw hK ht XR.none (aa (qv 1) (aa (qv 2) ae)))))))
  (af (aJ (i:=6) bG.nd rfl (xy rfl) (aE oW (hr.mono (by decide)) rfl cK.mg cK.fn.kp cK.bd aZ hP hw hK ht XR.none (aa (qv 0) (aa (qv 2) ae))))
  (af (aJ (i:=7) bG.nd rfl (xy rfl) (bF g9 aB (aE cg (hr.mono (by decide)) rfl ax.mg ax.fn.kp ax.bd aZ hP hw hK ht XR.none (aa (qv 0) (aa (qv 2) ae)))))
  (af (aJ (i:=8) bG.nd rfl (xy rfl) (aE cg (hr.mono (by decide)) rfl ax.mg ax.fn.kp ax.bd aZ hP hw hK ht XR.none (aa (qv 0) (aa aB ae))))
  (af (dR sw rfl (zQ true (K:=K) rfl rfl bl.enumerate_ (qv 6)) (fun j1 eP ew eK et=>by have hP:=hP.trans eP.symm;have hw:=hw.trans ew.symm;have hK:=hK.trans eK.symm;have ht:=ht.trans et.symm;exact ⟨(iW (n:=2) rfl (bT (az (i:=9) bG.nd rfl (xy rfl)) (bT (az (i:=10) bG.nd rfl (xy rfl)) gw))),(af (aJ (i:=11) bG.nd rfl (xy rfl) (bq (ck (K:=K) rfl) (qv 6) (bF ka (bF g9 (qv 9) aB) (qv 2)) (fun _ _=>rfl)))
  (af (bW (xk m8 m8 aB (qv 4) aB)
   (ao (mH (qv 11) (mK (bq (ck (K:=K) rfl) (qv 5) (qv 10) (fun _ _=>rfl)) (aE cg (hr.mono (by decide)) rfl ax.mg ax.fn.kp ax.bd aZ hP hw hK ht XR.none (aa (qv 0) (aa (qv 3) ae))))))
   qss_nil)
  (af (bW (aQ il (qv 4) aB (aR _))
   (af (aJ (i:=12) bG.nd rfl (xy rfl) (bh (N':=["_law_j","_law_order_here","_law_period","_law_k"]) (tn:=1) (idx:=[6,7,9]) rfl (show ay ["_law_bag_here","_law_most","_law_many","_law_ways","_law_kind","_law_rows","_law_order_here","_law_period","_law_stays","_law_k","_law_place","_law_onward","_law_goals_here","_law_turns"] (ai cJ) _ ["_law_j","_law_order_here","_law_period","_law_k"] 1 [6,7,9] from by decide +kernel) (bu rfl bl.range_ (aa (qv 2) ae)) (fun _ _ _ _ _=>(az (i:=0) (show mv [("_law_j" : br),("_law_order_here" : br),("_law_period" : br),("_law_k" : br)] from by decide +kernel) rfl (li rfl))) (fun _ _ _ _ _=>(iG (aQ il (bF ka (qv 0) (qv 2)) (bF ka (bF g9 (qv 3) aB) (qv 2)) (aR _)))) (fun _ _ _ _ _=>(bq (ck (K:=K) rfl) (qv 1) (qv 0) (fun _ _=>rfl)))))
  (ao (mH (iY (N':=["_law_road","_law_goals_here","_law_bag_here"]) (tn:=1) (idx:=[12,0]) rfl (show ay ["_law_bag_here","_law_most","_law_many","_law_ways","_law_kind","_law_rows","_law_order_here","_law_period","_law_stays","_law_k","_law_place","_law_onward","_law_goals_here","_law_turns"] (ai cJ) _ ["_law_road","_law_goals_here","_law_bag_here"] 1 [12,0] from by decide +kernel) (bu rfl bl.range_ (aa (qv 3) ae)) (fun _ _ _ _ _=>(az (i:=0) (show mv [("_law_road" : br),("_law_goals_here" : br),("_law_bag_here" : br)] from by decide +kernel) rfl (li rfl))) (fun _ _ _ _ _=>bz) (fun _ _ _ _ _=>(bq (ck (K:=K) rfl) (qv 1) (aE cg (hr.mono (by decide)) rfl ax.mg ax.fn.kp ax.bd aZ hP hw hK ht XR.none (aa (qv 2) (aa (aq (dm (K:=K) rfl hK) rfl bl.len_ rf (aa (qv 1) ae)) ae))) (fun _ _=>rfl)))) (mK (qv 5) (qv 10)))))
   qss_nil)
  (ao (bW (aQ il (qv 4) aB (aR _))
   (ao (mH (bF (JQ (K:=K) rfl) (oG (aa (qv 11) ae)) (bh (N':=["_law_road","_law_stays","_law_onward","_law_place"]) (tn:=1) (idx:=[8,11,10]) rfl (show ay ["_law_bag_here","_law_most","_law_many","_law_ways","_law_kind","_law_rows","_law_order_here","_law_period","_law_stays","_law_k","_law_place","_law_onward","_law_goals_here","_law_turns"] (ai cJ) _ ["_law_road","_law_stays","_law_onward","_law_place"] 1 [8,11,10] from by decide +kernel) (DF rfl bl.range_ (aa aB (aa (qv 3) ae))) (fun _ _ _ _ _=>(az (i:=0) (show mv [("_law_road" : br),("_law_stays" : br),("_law_onward" : br),("_law_place" : br)] from by decide +kernel) rfl (li rfl))) (fun _ _ _ _ _=>bz) (fun _ _ _ _ _=>(bq (ck (K:=K) rfl) (oG (aa (qv 2) (aa (qv 3) ae))) (qv 1) (fun _ _=>rfl))))) (mK (qv 5) (qv 10))))
   qss_nil)))))⟩))
  (af (bW (aQ il (qv 4) aB (aR _))
   (af (aJ (i:=13) bG.nd rfl (xy rfl) (bh (N':=["_law_road","_law_bag_here","_law_many"]) (tn:=1) (idx:=[0,2]) rfl (show ay ["_law_bag_here","_law_most","_law_many","_law_ways","_law_kind","_law_rows","_law_order_here","_law_period","_law_stays","_law_k","_law_place","_law_onward","_law_goals_here","_law_turns"] (ai cJ) _ ["_law_road","_law_bag_here","_law_many"] 1 [0,2] from by decide +kernel) (bu rfl bl.range_ (aa (qv 3) ae)) (fun _ _ _ _ _=>(az (i:=0) (show mv [("_law_road" : br),("_law_bag_here" : br),("_law_many" : br)] from by decide +kernel) rfl (li rfl))) (fun _ _ _ _ _=>bz) (fun _ _ _ _ _=>(aE oW (hr.mono (by decide)) rfl cK.mg cK.fn.kp cK.bd aZ hP hw hK ht XR.none (aa (qv 1) (aa (qv 2) ae))))))
  (ao (xE (i:=5) bG.nd rfl rfl (N':=["_law_place","_law_turns"]) (tn:=1) (idx:=[13]) rfl (show da ["_law_bag_here","_law_most","_law_many","_law_ways","_law_kind","_law_rows","_law_order_here","_law_period","_law_stays","_law_k","_law_place","_law_onward","_law_goals_here","_law_turns"] (ai cJ) _ ["_law_place","_law_turns"] 1 [13] from by decide +kernel) (bu rfl bl.range_ (aa (qv 2) ae)) (fun _ _ _ _ _=>(az (i:=0) (show mv [("_law_place" : br),("_law_turns" : br)] from by decide +kernel) rfl (xy rfl))) (fun _ _ _ _ _=>bz) (fun _ _ _ _ _=>(iY (N':=["_law_turn","_law_place"]) (tn:=1) (idx:=[0]) rfl (ay.rel (show ay ["_law_place","_law_turns"] _ _ ["_law_turn","_law_place"] 1 [0] from by decide +kernel)) (cj (K:=K) rfl (qv 1)) (fun _ _ _ _ _=>(az (i:=0) (show mv [("_law_turn" : br),("_law_place" : br)] from by decide +kernel) rfl (li rfl))) (fun _ _ _ _ _=>bz) (fun _ _ _ _ _=>(bq (ck (K:=K) rfl) (qv 0) (qv 1) (fun _ _=>rfl))))))))
   qss_nil)
  (af (bW (QW.pt (jE (aQ il (qv 4) aB (aR _)) (gU (QW.pt (DB (aQ il (qv 4) aB (aR _)) (zK (aQ il (qv 8) aB (aR _))))))))
   (ao (mH (aE cg (hr.mono (by decide)) rfl ax.mg ax.fn.kp ax.bd aZ hP hw hK ht XR.none (aa (qv 0) (aa (qv 2) ae))) (mK (bq (ck (K:=K) rfl) (qv 5) (bq (ck (K:=K) rfl) (qv 6) aB (fun _ _=>rfl)) (fun _ _=>rfl)) (aE cg (hr.mono (by decide)) rfl ax.mg ax.fn.kp ax.bd aZ hP hw hK ht XR.none (aa (qv 0) (aa (qv 3) ae))))))
   qss_nil)
  (ao (DV 5 rfl (aN (iH (zN (K:=K) rfl) rfl bl.tuple_ eU (aa (bh (N':=["_law_row"]) (tn:=1) (idx:=[]) rfl (show ay ["_law_bag_here","_law_most","_law_many","_law_ways","_law_kind","_law_rows","_law_order_here","_law_period","_law_stays","_law_k","_law_place","_law_onward","_law_goals_here","_law_turns"] (ai cJ) _ ["_law_row"] 1 [] from by decide +kernel) (cj (K:=K) rfl (qv 5)) (fun _ _ _ _ _=>(az (i:=0) (show mv [("_law_row" : br)] from by decide +kernel) rfl (li rfl))) (fun _ _ _ _ _=>bz) (fun _ _ _ _ _=>(iH (zN (K:=K) rfl) rfl bl.tuple_ eU (aa (qv 0) ae)))) ae))))))))))))))),?_⟩
 subst e
 have big:(100:Nat)<sizeLine :=by decide
 refine Qa (fun ρ M=>∃(n ways kind stays:Nat) (r:ag) (as:List ag) (os:List Int) (x7 x9 oX oY fc:Option Dv),(fv x7/\fv x9/\fv oX/\fv oY/\fv fc)/\ρ=[some (.ptr b),some (.int (most:Nat)),some (.int (n:Nat)),some (.int (ways:Nat)),some (.int (kind:Nat)),some (.ptr r),some (b8 os),x7,some (.int (stays:Nat)),x9,oX,oY,fc,none]/\dN Γ.M0 M r as n ways/\fO n os/\1<=n/\n<=most/\(ways=2\/ways=3)) (fun N hN=>?_) ?_
 ·simp! only []
  refine ⟨b,_,rfl,hb,by omega,by omega,fun m hm=>?_⟩
  obtain ⟨n,hn⟩:∃n:Nat,(1+(m:Int))=(n:Nat):=⟨1+m,by omega⟩
  have n1:1<=n :=by omega
  have n9:n<=most :=by omega
  simp! only [hn]
  refine ⟨b,_,rfl,hb,by omega,by omega,fun v hv=>?_⟩
  obtain ⟨ways,Qf⟩:∃ways:Nat,(2+(v:Int))=(ways:Nat):=⟨2+v,by omega⟩
  have w2:ways=2\/ways=3 :=by omega
  simp! only [Qf]
  refine ⟨b,_,rfl,hb,by omega,by omega,fun kind pA=>?_⟩
  simp! only []
  refine ⟨by omega,by omega,by omega,?_⟩
  refine iu (acc:=[]) (fun acc τ M=>∃as:List ag,acc=as.map Dv.ptr/\(∃x,τ=[x,some (.ptr b),some (.int (n:Nat)),some (.int (ways:Nat))])/\lr Γ.M0 M/\∀a∈as,Γ.M0 a=none/\∃row:List Int,M a=some (.lst (row.map .int))/\gA n ways row) ⟨[],rfl,⟨_,rfl⟩,.refl,fun _ h=>nomatch h⟩ (fun i d acc τ M hd _ ⟨as,e1,⟨x,e2⟩,hO,ha⟩ R hR=>?_) (fun ys τ M hl ⟨as,e1,⟨x,e2⟩,hO,ha⟩=>?_)
  ·subst e1 e2
   simp! only []
   refine ⟨by omega,by omega,by omega,vU (n:=n) (fun τ=>∃y,τ=[y,some (.ptr b),some (.int (n:Nat))]) ⟨_,rfl⟩ (fun d hd τ ⟨y,e⟩ R2 qk=>?_) (fun row hl qJ a lF=>?_)⟩
   ·subst e
    simp! only []
    exact ⟨b,_,rfl,hO.kp _ _ hb,by omega,by omega,fun d hd=>qk _ _ (by omega) (by omega) ⟨_,rfl⟩⟩
   ·exact hR _ _ _ (u9 hO ha lF ⟨by simpa [rangeD_len] using hl,qJ⟩ ⟨_,rfl⟩)
  ·rw [IS] at e1
   subst e1 e2
   intro r z9
   have RM:=dN.mk' (n:=n) (ways:=ways) hO z9 (by simpa [rangeD_len] using hl) ha
   refine ⟨b,n,rfl,RM.kp _ _ hb,by omega,fun os oV=>?_⟩
   simp! only []
   refine ⟨b,_,rfl,RM.kp _ _ hb,by omega,by omega,fun pe Wc=>?_⟩
   simp! only []
   refine ⟨b,_,rfl,RM.kp _ _ hb,by omega,by omega,fun stays jY=>?_⟩
   obtain ⟨per,Tu⟩:∃per:Nat,(1+(pe:Int))=(per:Nat):=⟨1+pe,by omega⟩
   simp! only [Tu]
   have wO:=oV.len
   refine bQ (fun i ρ M=>∃(as:List ag) (x9 oX oY fc:Option Dv),(fv x9/\fv oX/\fv oY/\fv fc)/\ρ=[some (.ptr b),some (.int (most:Nat)),some (.int (n:Nat)),some (.int (ways:Nat)),some (.int (kind:Nat)),some (.ptr r),some (b8 os),some (.int (per:Nat)),some (.int (stays:Nat)),x9,oX,oY,fc,none]/\dN Γ.M0 M r as n ways)
    ⟨as,_,_,_,_,⟨.none,.none,.none,.none⟩,rfl,RM⟩ (fun i d ρ M N2 hd ⟨as,x9,oX,oY,fc,⟨p9,Il,Im,lU⟩,e1,RM⟩ jT=>?_) (fun ρ M ⟨as,x9,oX,oY,fc,⟨p9,Il,Im,lU⟩,e1,RM⟩=>?_)
   ·subst e1
    have hd:(bX (gf (os.map Dv.int).length) (os.map Dv.int))[i]?=some d :=by rw [cb];exact hd
    obtain ⟨y,rfl,hy⟩:=JH hd
    obtain ⟨place,eL,rfl⟩:=iZ hy
    have hi:i<n :=by have:=(bn.mp eL).1;omega
    obtain ⟨RJ,Vi⟩:=oV.mem (ci eL)
    obtain ⟨pk,rfl⟩:=sB RJ
    have El:pk<n :=by omega
    have Tv:((i:Int)+1) % (n:Int)=(((i+1) % n:Nat):Int) :=by push_cast;rfl
    obtain ⟨on,Vj,Io,N4⟩:=oV.at (i:=(i+1) % n) (X8 _ (by omega))
    obtain ⟨Af,rfl⟩:=sB Io
    have step:∀{as:List ag} {M:Mh},dN Γ.M0 M r as n ways->∃a,cY (as.map Dv.ptr) ((pk:Nat):Int)=some (.ptr a)/\a∈as:=fun {as M} RM=>by
     have hl:pk<as.length :=by rw [RM.len];exact El
     exact ⟨as[pk],ez (by rw [c8,ac hl];rfl),r9 hl⟩
    simp only [zgTup,zgCons,zgNil,zgName,Po,Ps,Db,TW,Nat.reduceAdd,Wu]
    refine ⟨trivial,?_⟩
    refine nj (fun ρ M=>∃(as:List ag) (fc:Option Dv),fv fc/\ρ=[some (.ptr b),some (.int (most:Nat)),some (.int (n:Nat)),some (.int (ways:Nat)),some (.int (kind:Nat)),some (.ptr r),some (b8 os),some (.int (per:Nat)),some (.int (stays:Nat)),some (.int (i:Nat)),some (.int (pk:Nat)),some (.int (Af:Nat)),fc,none]/\dN Γ.M0 M r as n ways) (fun N hN=>?_) ?_
    ·simp! only [Tv,Vj]
     exact ⟨by omega,hN _ _ ⟨as,_,lU,rfl,RM⟩⟩
    rintro ρ M ⟨as,fc,lU,rfl,RM⟩
    refine nj (fun ρ M=>∃(as:List ag) (fc:Option Dv),fv fc/\ρ=[some (.ptr b),some (.int (most:Nat)),some (.int (n:Nat)),some (.int (ways:Nat)),some (.int (kind:Nat)),some (.ptr r),some (b8 os),some (.int (per:Nat)),some (.int (stays:Nat)),some (.int (i:Nat)),some (.int (pk:Nat)),some (.int (Af:Nat)),fc,none]/\dN Γ.M0 M r as n ways) (fun N hN=>?_) ?_
    ·simp! only []
     refine fb (fun h=>fb (fun h2=>?_) (fun _=>hN _ _ ⟨as,_,lU,rfl,RM⟩)) (fun _=>hN _ _ ⟨as,_,lU,rfl,RM⟩)
     obtain ⟨a,ea,ha⟩:=step RM
     obtain ⟨row,em,ro⟩:=RM.row a ha
     simp only [RM.rm,ea]
     refine ⟨b,_,rfl,RM.kp _ _ hb,by omega,by omega,fun t ht=>?_⟩
     simp only [em,cb,ro.1,pM (show t<ways by omega)]
     rw [xU]
     exact hN _ _ ⟨as,_,lU,rfl,RM.wQ ha (ro.set Io N4)⟩
    rintro ρ M ⟨as,fc,lU,rfl,RM⟩
    refine nj (fun ρ M=>∃(as:List ag) (fc:Option Dv),fv fc/\ρ=[some (.ptr b),some (.int (most:Nat)),some (.int (n:Nat)),some (.int (ways:Nat)),some (.int (kind:Nat)),some (.ptr r),some (b8 os),some (.int (per:Nat)),some (.int (stays:Nat)),some (.int (i:Nat)),some (.int (pk:Nat)),some (.int (Af:Nat)),fc,none]/\dN Γ.M0 M r as n ways) (fun N hN=>?_) ?_
    ·simp! only []
     refine fb (fun h=>?_) (fun _=>hN _ _ ⟨as,_,lU,rfl,RM⟩)
     have Wd:∀j:Nat,((j:Int) % (per:Int))=((j % per:Nat):Int):=fun j=>by push_cast;rfl
     refine ⟨by omega,by omega,by omega,tI (GO per i) (fun d=>.int (sF os d)) (fun τ M'=>(∃x,τ=[x,some (b8 os),some (.int (per:Nat)),some (.int (i:Nat))])/\M'=M) ⟨⟨_,rfl⟩,rfl⟩ (fun d hd τ M' ⟨⟨x,e⟩,eM⟩ R0 R h1 h2=>?_) (fun τ M' ⟨⟨x,e⟩,eM⟩=>?_)⟩
     ·subst e eM
      obtain ⟨j,hj,rfl⟩:=si hd
      simp only [DD] at h1 h2 ⊢
      obtain ⟨gx,lR,g0,g1⟩:=oV.at hj
      have hg:sF os (.int (j:Nat))=gx:=xV lR
      simp! only [lR]
      refine ⟨by omega,by omega,fb (fun h=>?_) (fun h=>?_)⟩
      ·rw [hg] at h1
       exact h1 h _ _ ⟨⟨_,rfl⟩,rfl⟩
      ·exact h2 h _ _ ⟨⟨_,rfl⟩,rfl⟩
     ·subst e eM
      obtain ⟨gs,Vk,Em,We,Vl⟩:=GP (i:=i) oV (per:=per) (by omega) (by omega)
      rw [Vk]
      refine ⟨by omega,by omega,by omega,vU (n:=n) (fun τ=>∃y,τ=[y,some (b8 gs),some (.ptr b)]) ⟨_,rfl⟩ (fun d hd τ ⟨y,e⟩ R hR=>?_) (fun row hl qJ a lF=>?_)⟩
      ·subst e
       simp! only []
       refine ⟨b,_,rfl,RM.kp _ _ hb,by omega,by omega,fun t ht=>?_⟩
       have Ip:t<gs.length :=by omega
       simp only [show cY (gs.map Dv.int) (t:Int)=some (.int gs[t]) from ez (by rw [c8,ac Ip];rfl)]
       obtain ⟨q0,q1⟩:=Vl _ (r9 Ip)
       exact hR _ _ q0 q1 ⟨_,rfl⟩
      ·have nr:r≠a:=fun z=>by rw [<- z,RM.rm] at lF;cases lF
       simp only [ah nr,RM.rm,cb,RM.len,pM El]
       exact hN _ _ ⟨_,_,.lI gs,rfl,RM.put lF ⟨by simpa [rangeD_len] using hl,qJ⟩ El⟩
    rintro ρ M ⟨as,fc,lU,rfl,RM⟩
    simp! only []
    refine fb (fun h=>?_) (fun _=>jT _ _ ⟨as,_,_,_,_,⟨.int _,.int _,.int _,lU⟩,rfl,RM⟩)
    refine ⟨by omega,⟨by omega,by omega,by omega,by omega⟩,by omega,vU (n:=n) (fun τ=>∃y,τ=[y,some (.int (stays:Nat)),some (.int (Af:Nat)),some (.int (pk:Nat))]) ⟨_,rfl⟩ (fun d hd τ ⟨y,e⟩ R hR=>?_) (fun row hl qJ=>⟨?_,fun a lF=>?_⟩)⟩
    ·subst e
     simp! only []
     have Vm:stays=0\/stays=1 :=by omega
     rcases Vm with rfl|rfl
     ·exact ⟨by omega,hR _ _ Io N4 ⟨_,rfl⟩⟩
     ·exact ⟨by omega,hR _ _ RJ Vi ⟨_,rfl⟩⟩
    ·rw [cb,hl,rangeD_len];omega
    ·have nr:r≠a:=fun z=>by rw [<- z,RM.rm] at lF;cases lF
     have er:Dv.int (Af:Nat)::row.map Dv.int=((Af:Int)::row).map Dv.int:=rfl
     rw [er]
     simp only [ah nr,RM.rm,cb,RM.len,pM El]
     refine jT _ _ ⟨_,_,_,_,_,⟨.int _,.int _,.int _,lU⟩,rfl,RM.put lF ⟨?_,fun x hx=>?_⟩ El⟩
     ·rw [Db,hl,rangeD_len];omega
     ·rcases io.mp hx with z|z
      ·rw [z];exact ⟨Io,N4⟩
      ·exact qJ x z
   ·exact hN _ _ ⟨n,ways,kind,stays,r,as,os,_,_,_,_,_,⟨.int _,p9,Il,Im,lU⟩,e1,RM,oV,n1,n9,w2⟩
 ·rintro ρ M ⟨n,ways,kind,stays,r,as,os,x7,x9,oX,oY,fc,⟨p7,p9,Il,Im,lU⟩,rfl,RM,oV,n1,n9,w2⟩
  have wO:=oV.len
  refine nj (fun ρ M=>∃(r:ag) (as:List ag) (kW:Option Dv),fv kW/\ρ=[some (.ptr b),some (.int (most:Nat)),some (.int (n:Nat)),some (.int (ways:Nat)),some (.int (kind:Nat)),some (.ptr r),some (b8 os),x7,some (.int (stays:Nat)),x9,oX,oY,fc,kW]/\dN Γ.M0 M r as n ways) (fun N hN=>?_) ?_
  ·simp! only []
   refine fb (fun h=>?_) (fun _=>hN _ _ ⟨r,as,_,.none,rfl,RM⟩)
   refine ⟨by omega,by omega,by omega,iu (acc:=[]) (fun acc τ M'=>∃ts:List (List Int),acc=ts.map b8/\(∃x,τ=[x,some (.ptr b),some (.int (n:Nat))])/\(∀o∈ts,fO n o)/\M'=M) ⟨[],rfl,⟨_,rfl⟩,(fun _ h=>nomatch h),rfl⟩ (fun i d acc τ M' hd _ ⟨ts,e1,⟨x,e2⟩,hT,eM⟩ R hR=>?_) (fun ys τ M' hl ⟨ts,e1,⟨x,e2⟩,hT,eM⟩=>?_)⟩
   ·subst e1 e2 eM
    simp! only []
    refine ⟨b,n,rfl,RM.kp _ _ hb,by omega,fun o ho=>hR _ _ _ ⟨ts++[o],by rw [mo];rfl,⟨_,rfl⟩,fun c hc=>?_,rfl⟩⟩
    rcases l6.mp hc with z|z
    ·exact hT c z
    ·rw [jp] at z;rw [z];exact ho
   ·rw [IS] at e1
    subst e1 e2 eM
    have Ip:ts.length=ways :=by simpa [rangeD_len] using hl
    refine ⟨by omega,by omega,by omega,iu (acc:=[]) (fun acc τ M=>∃as:List ag,acc=as.map Dv.ptr/\(∃x,τ=[x,some (.lst (ts.map b8))])/\lr Γ.M0 M/\∀a∈as,Γ.M0 a=none/\∃row:List Int,M a=some (.lst (row.map .int))/\gA n ways row) ⟨[],rfl,⟨_,rfl⟩,RM.own,fun _ h=>nomatch h⟩ (fun i d acc τ M hd _ ⟨as,e1,⟨x,e2⟩,hO,ha⟩ R hR=>?_) (fun ys τ M hl ⟨as,e1,⟨x,e2⟩,hO,ha⟩=>?_)⟩
    ·subst e1 e2
     obtain ⟨rfl,hi⟩:=bR hd
     simp! only []
     refine ⟨by omega,vU (n:=n) (fun τ=>∃y,τ=[y,some (.int (i:Nat))]) ⟨_,rfl⟩ (fun d hd τ ⟨y,e⟩ R2 qk=>?_) (fun row hl qJ a lF=>?_)⟩
     ·subst e
      obtain ⟨o,ho,rfl⟩:=i8.mp hd
      obtain ⟨gx,lR,g0,g1⟩:=(hT o ho).at hi
      simp! only [lR]
      exact qk _ _ g0 g1 ⟨_,rfl⟩
     ·exact hR _ _ _ (u9 hO ha lF ⟨by rw [hl,cb];exact Ip,qJ⟩ ⟨_,rfl⟩)
    ·rw [IS] at e1
     subst e1 e2
     intro r2 Vn
     refine hN _ _ ⟨r2,as,_,fun M d e=>?_,rfl,dN.mk' (n:=n) (ways:=ways) hO Vn (by simpa [rangeD_len] using hl) ha⟩
     cases e
     exact .lst fun d hd=>by obtain ⟨o,_,rfl⟩:=i8.mp hd;exact .lst (fH o)
  rintro ρ M ⟨r,as,kW,En,rfl,RM⟩
  refine nj (fun ρ M=>∃(r:ag) (as:List ag) (kW:Option Dv),fv kW/\ρ=[some (.ptr b),some (.int (most:Nat)),some (.int (n:Nat)),some (.int (ways:Nat)),some (.int (kind:Nat)),some (.ptr r),some (b8 os),x7,some (.int (stays:Nat)),x9,oX,oY,fc,kW]/\dN Γ.M0 M r as n ways) (fun N hN=>?_) ?_
  ·simp! only []
   obtain ⟨gx,lR,g0,g1⟩:=oV.at (i:=0) (by omega)
   obtain ⟨gk,rfl⟩:=sB g0
   have lR:cY (os.map Dv.int) 0=some (.int (gk:Nat)):=lR
   have uB:gk<as.length :=by rw [RM.len];omega
   have ea:cY (as.map Dv.ptr) (gk:Int)=some (.ptr as[gk]):=ez (by rw [c8,ac uB];rfl)
   have ha:=r9 uB
   obtain ⟨row,em,ro⟩:=RM.row as[gk] ha
   simp only [lR]
   have put:sE [.ptr b,.int (n:Nat)] M (fun d M1=>match (match M1 r with|some (.lst ds)=>some ds|_=>none) with
     |some ds=>(match cY ds (gk:Int) with
      |some Vo=>sE [.ptr b,.int (ways:Nat)] M1 (fun i M2=>match Vo,i with
       | .ptr a,.int k=>(match M2 a with
        |some (.lst xs)=>(match jK xs.length k with
         |some j=>N [some (.ptr b),some (.int (most:Nat)),some (.int (n:Nat)),some (.int (ways:Nat)),some (.int (kind:Nat)),some (.ptr r),some (b8 os),x7,some (.int (stays:Nat)),x9,oX,oY,fc,kW] (aw M2 a (.lst (xs.set j d)))
         |none=>False)
        |_=>False)
       |_,_=>False) fun _ _=>False
      |none=>False)
     |none=>False) fun _ _=>False :=by
    refine ⟨b,_,rfl,RM.kp _ _ hb,by omega,by omega,fun u hu=>?_⟩
    simp only [RM.rm,ea]
    refine ⟨b,_,rfl,RM.kp _ _ hb,by omega,by omega,fun t ht=>?_⟩
    simp only [em,cb,ro.1,pM (show t<ways by omega)]
    rw [xU]
    exact hN _ _ ⟨r,as,_,En,rfl,RM.wQ ha (ro.set (by omega) (by omega))⟩
   exact fb (fun _=>put) (fun _=>fb (fun _=>fb (fun _=>put) (fun _=>hN _ _ ⟨r,as,_,En,rfl,RM⟩)) (fun _=>hN _ _ ⟨r,as,_,En,rfl,RM⟩))
  rintro ρ M ⟨r,as,kW,En,rfl,RM⟩
  have nb:∀{c o},Γ.M0 c=some o->c≠r:=fun e z=>by rw [z,RM.r0] at e;cases e
  have dk:Keeps Γ.M0 (cI M r):=fun c o e=>by rw [bU (nb e)];exact RM.kp c o e
  refine .inr ⟨r,_,rfl,RM.rm,RM.r0,⟨fun j d e=>?_,fun c o e=>?_⟩,?_⟩
  ·match j,e with
   |0,e=>cases e;exact .ptr (by rw [dk _ _ hb];rfl)
   |1,e=>cases e;exact .int _
   |2,e=>cases e;exact .int _
   |3,e=>cases e;exact .int _
   |4,e=>cases e;exact .int _
   |5,e=>cases e;exact .lst fun d hd=>by
                 obtain ⟨a,ha,rfl⟩:=i8.mp hd
                 obtain ⟨row,em,_⟩:=RM.row a ha
                 exact .ptr (by rw [bU (RM.fr a ha).2,em];rfl)
   |6,e=>cases e;exact .lst (fH _)
   |7,e=>exact p7 _ _ (i4 e)
   |8,e=>cases e;exact .int _
   |9,e=>exact p9 _ _ (i4 e)
   |10,e=>exact Il _ _ (i4 e)
   |11,e=>exact Im _ _ (i4 e)
   |12,e=>exact lU _ _ (i4 e)
   |13,e=>exact En _ _ (i4 e)
   |j+14,e=>exact nomatch e
  ·have nc:c≠r:=fun z=>by rw [z,dn] at e;cases e
   rw [bU nc] at e
   rcases RM.pin c o e with q|q|⟨row,rfl⟩|⟨bs,rfl,q2⟩
   ·exact .inl q
   ·exact absurd q nc
   ·exact .inr (fH row)
   ·refine .inr fun d hd=>?_
    obtain ⟨a,ha,rfl⟩:=i8.mp hd
    obtain ⟨h1,u,h2⟩:=q2 a ha
    exact .ptr (by rw [bU h1,h2];rfl)
  ·simp! only []
   refine ⟨by rw [RM.len];omega,iu (acc:=[]) (fun acc τ M'=>∃rs:List (List Int),acc=rs.map eI/\(∃x,τ=[x])/\(∀row∈rs,gA n ways row)/\M'=cI M r) ⟨[],rfl,⟨_,rfl⟩,(fun _ h=>nomatch h),rfl⟩ (fun i d acc τ M' hd _ ⟨rs,e1,⟨x,e2⟩,Iq,eM⟩ R hR=>?_) (fun ys τ M' hl ⟨rs,e1,⟨x,e2⟩,Iq,eM⟩=>?_)⟩
   ·subst e1 e2 eM
    obtain ⟨a,ha,rfl⟩:=iZ hd
    have ha:=ci ha
    obtain ⟨row,em,ro⟩:=RM.row a ha
    simp! only [bU (RM.fr a ha).2,em]
    refine hR _ _ _ ⟨rs++[row],by rw [mo];rfl,⟨_,rfl⟩,fun c hc=>?_,rfl⟩
    rcases l6.mp hc with z|z
    ·exact Iq c z
    ·rw [jp] at z;rw [z];exact ro
   ·rw [IS] at e1
    subst e1 e2 eM
    have RD:rs.length=n :=by rw [cb,cb,RM.len] at hl;exact hl
    exact lL dk (DQ rs) (q rs ways ⟨by omega,by omega,w2,fun row hr=>⟨(Iq row hr).1,fun g hg=>by rw [RD];exact (Iq row hr).2 g hg⟩⟩ (by omega))
end
section
variable {P:gc} {w:i0} {K:ba} {mg:br->Option ap} {base:ij} {tb:di}
theorem yU:aT ["thing"] ["thing"] (ai gz):=⟨rfl,rfl,rfl,by decide +kernel,rfl,by decide +kernel,by decide +kernel⟩
theorem pR:aT ["thing","many"] ["thing","many"] (ai d7):=⟨rfl,rfl,rfl,by decide +kernel,rfl,by decide +kernel,by decide +kernel⟩
theorem Eo:aT ["thing","many","width"] ["thing","many","width"] (ai ll):=⟨rfl,rfl,rfl,by decide +kernel,rfl,by decide +kernel,by decide +kernel⟩
theorem oZ:aT ["thing","many","width"] ["thing"] (ai lq):=⟨rfl,rfl,rfl,by decide +kernel,rfl,by decide +kernel,by decide +kernel⟩
def xW (d:Dv):Bool:=(isD "int" (fun _=>none) d).isSome
def Ep:Dv->Bool | .int _=>true|_=>false
def gY (m:Int):Dv->Bool | .int i=>decide (0<=i) && decide (i<m)|_=>false
def N5:cQ:=fun ds M Q _=>∃d,ds=[d]/\xW d=true/\Q (.bl (Ep d)) M
theorem yV {f:ag} {fd:l5} (D:Df K mg "is_whole" gz ["thing"] f fd) (bl:Bl mg):FnOk P w K mg base bg 1 f fd ["thing"] (aS P w K tb N5) :=by
 refine d6 D yU (fun ds M Q E hS=>by obtain ⟨d,e,_⟩:=hS;rw [e];rfl) fun A outer s E Γ ds Q' E' hP hw hK ht hr hS=>?_
 obtain ⟨d,e,hk,q⟩:=hS
 refine ⟨_,(ao (aN (gV (aq (bf (K:=K) rfl) rfl bl.isinstance_ aF (aa (qv 0) (aa (bw (v:=.ty "int") rfl bl.int_ rH rfl) ae))) (jQ (xl (aq (bf (K:=K) rfl) rfl bl.isinstance_ aF (aa (qv 0) (aa (bw (v:=.ty "bool") rfl bl.bool_ tj rfl) ae)))))))),?_⟩
 subst e
 cases d <;> first|exact ⟨by decide,⟨by decide,.inl q⟩⟩|exact ⟨by decide,.inl q⟩|exact nomatch hk
def N6:cQ:=fun ds M Q _=>∃d m,ds=[d,.int m]/\xW d=true/\Q (.bl (gY m d)) M
theorem pS {f f1:ag} {fd cR:l5} (D:Df K mg "is_whole_below" d7 ["thing","many"] f fd) (dq:Df K mg "is_whole" gz ["thing"] f1 cR) (bl:Bl mg):FnOk P w K mg base bg 2 f fd ["thing","many"] (aS P w K tb N6) :=by
 have Bv:=yV (P:=P) (w:=w) (base:=base) (tb:=tb) dq bl
 refine d6 D pR (fun ds M Q E hS=>by obtain ⟨d,m,e,_⟩:=hS;rw [e];rfl) fun A outer s E Γ ds Q' E' hP hw hK ht hr hS=>?_
 obtain ⟨d,m,e,hk,q⟩:=hS
 refine ⟨_,(ao (aN (gV (aE Bv (hr.mono (by decide)) rfl dq.mg dq.fn.kp dq.bd aZ hP hw hK ht XR.none (aa (qv 0) ae)) (jQ (Gg Gi m8 aB (qv 0) (qv 1)))))),?_⟩
 subst e
 refine ⟨d,rfl,hk,?_⟩
 cases d with
 |int i=>
  simp! only [Ep]
  refine fb (fun h=>?_) (fun h=>?_)
  ·rw [show gY m (.int i)=decide (i<m) by simp only [gY,h,WG]] at q
   exact .inl q
  ·rw [show gY m (.int i)=false by simp only [gY,h,Wq]] at q
   exact .inl q
 |_=>exact .inl q
def ju (m:Int) (w:Nat):Dv->Bool | .tup ds=>decide (ds.length=w) && ds.all (gY m)|_=>false
def GQ:Dv->Bool | .tup ds=>ds.all xW|d=>xW d
def N7:cQ:=fun ds M Q _=>∃d m w,ds=[d,.int m,.int (w:Nat)]/\GQ d=true/\Q (.bl (ju m w d)) M
theorem Er {f f1 f2:ag} {fd cR fd2:l5} {nu bo:ag} (D:Df K mg "is_row" ll ["thing","many","width"] f fd) (jv:Hy base fd nu bo) (hp:bo∈tb) (jg:∃bm ob,X1 base mainGlobals mg bm ob)
  (cc:Df K mg "is_whole_below" d7 ["thing","many"] f1 cR) (dq:Df K mg "is_whole" gz ["thing"] f2 fd2) (bl:Bl mg):FnOk P w K mg base bg 4 f fd ["thing","many","width"] (aS P w K tb N7) :=by
 have qK:=pS (P:=P) (w:=w) (base:=base) (tb:=tb) cc dq bl
 refine d6 D Eo (fun ds M Q E hS=>by obtain ⟨d,m,n,e,_⟩:=hS;rw [e];rfl) fun A outer s E Γ ds Q' E' hP hw hK ht hr hS=>?_
 obtain ⟨d,m,n,e,hk,q⟩:=hS
 have Bw:bo∈Γ.tb:=ht▸hp
 refine ⟨_,(af (bW (QW.pt (jE (kX (dQ (aq (bf (K:=K) rfl) rfl bl.isinstance_ aF (aa (qv 0) (aa (bw (v:=.ty "tuple") rfl bl.tuple_ eU rfl) ae))))) (gU (aQ xr (aq (dm (K:=K) rfl hK) rfl bl.len_ rf (aa (qv 0) ae)) (qv 2) (aR _)))))
   (ao (aN fe))
   qss_nil)
  (ao (aN (DP (k:=2) (N':=["goal","many"]) (tn:=1) (idx:=[1]) Bw (hr.mono (by decide)) rfl (show ay ["thing","many","width"] (ai ll) _ ["goal","many"] 1 [1] from by decide +kernel) rfl rfl jv.code jv.hd jg rfl bl.all_ (xm (K:=K) rfl (qv 0)) (fun _ _ _ _ _ _ _ hr=>(az (i:=0) (show mv [("goal" : br),("many" : br)] from by decide +kernel) rfl (li rfl))) (fun _ _ _ _ _ _ _ hr=>bz) (fun _ _ _ _ _ _ _ hr=>(aE qK (hr.mono (by decide)) rfl cc.mg cc.fn.kp cc.bd aZ hP hw hK ht XR.none (aa (qv 0) (aa (qv 1) ae)))))))),?_⟩
 subst e
 cases d with
 |tup es=>
  refine ⟨by decide,fb (c := !decide ((es.length:Int)=(n:Nat))) (fun h=>?_) (fun h=>?_)⟩
  ·rw [show ju m n (.tup es)=false by simp at h;simp [ju];intro z;omega] at q
   exact .inl q
  ·rw [show ju m n (.tup es)=es.all (gY m) by simp at h;simp [ju,show es.length=n by omega]] at q
   refine tH (gY m) (fun τ=>∃x,τ=[x,some (.int m)]) ⟨none,rfl⟩ (fun d hd τ ⟨x,e⟩ R hR=>?_) (.inl q)
   subst e
   exact ⟨d,m,rfl,wb.mp hk d hd,hR _ ⟨_,rfl⟩⟩
 |_=>first|exact ⟨by decide,.inl q⟩|exact nomatch hk
def lu:Dv->Bool | .tup rs=>decide (1<=rs.length/\rs.length<=9) && (rs.all (ju rs.length 2) || rs.all (ju rs.length 3))|_=>false
def By:Dv->Bool | .tup rs=>rs.all GQ|d=>xW d
def N8:cQ:=fun ds M Q _=>∃d,ds=[d]/\By d=true/\Q (.bl (lu d)) M
theorem Es {f f1 f2 f3:ag} {fd cR fd2 lV:l5} {nu bo xX bC:ag} (D:Df K mg "is_net" lq ["thing"] f fd) (nv:Hy base fd xX bC) (Vp:bC∈tb) (ix:Df K mg "is_row" ll ["thing","many","width"] f3 lV) (jv:Hy base lV nu bo) (hp:bo∈tb) (jg:∃bm ob,X1 base mainGlobals mg bm ob)
  (cc:Df K mg "is_whole_below" d7 ["thing","many"] f1 cR) (dq:Df K mg "is_whole" gz ["thing"] f2 fd2) (bl:Bl mg) {tk:Tok} (jw:mg "MOST_PLACES" = some (.int 9 tk)):FnOk P w K mg base bg 6 f fd ["thing"] (aS P w K tb N8) :=by
 have GR:=Er (P:=P) (w:=w) (tb:=tb) ix jv hp jg cc dq bl
 refine d6 D oZ (fun ds M Q E hS=>by obtain ⟨d,e,_⟩:=hS;rw [e];rfl) fun A outer s E Γ ds Q' E' hP hw hK ht hr hS=>?_
 obtain ⟨d,e,hk,q⟩:=hS
 have ny:bC∈Γ.tb:=ht▸Vp
 refine ⟨_,(af (bW (QW.pt (jE (kX (dQ (aq (bf (K:=K) rfl) rfl bl.isinstance_ aF (aa (qv 0) (aa (bw (v:=.ty "tuple") rfl bl.tuple_ eU rfl) ae))))) (gU (kX (xk Gi Gi aB (aq (dm (K:=K) rfl hK) rfl bl.len_ rf (aa (qv 0) ae)) (Gf (i:=9) rfl jw ⟨_,rfl⟩))))))
   (ao (aN fe))
   qss_nil)
  (af (aJ (i:=1) oZ.nd rfl (xy rfl) (aq (dm (K:=K) rfl hK) rfl bl.len_ rf (aa (qv 0) ae)))
  (af (dR sw rfl (xm (K:=K) rfl (iU (aa aB (aa aB ae)))) (fun j1 eP ew eK et=>by have hP:=hP.trans eP.symm;have hw:=hw.trans ew.symm;have hK:=hK.trans eK.symm;have ht:=ht.trans et.symm;have ny:=et.symm▸ny;exact ⟨(az (i:=2) oZ.nd rfl (xy rfl)),(ao (bW (dQ (DP (k:=4) (N':=["row","many","width"]) (tn:=1) (idx:=[1,2]) ny (hr.mono (by decide)) rfl (show ay ["thing","many","width"] (ai lq) _ ["row","many","width"] 1 [1,2] from by decide +kernel) rfl rfl nv.code nv.hd jg rfl bl.all_ (xm (K:=K) rfl (qv 0)) (fun _ _ _ _ _ _ _ hr=>(az (i:=0) (show mv [("row" : br),("many" : br),("width" : br)] from by decide +kernel) rfl (li rfl))) (fun _ _ _ _ _ _ _ hr=>bz) (fun _ _ _ _ _ _ _ hr=>(aE GR (hr.mono (by decide)) rfl ix.mg ix.fn.kp ix.bd aZ hP hw hK ht XR.none (aa (qv 0) (aa (qv 1) (aa (qv 2) ae)))))))
   (ao (aN fe))
   qss_nil))⟩))
  (ao (aN fe))))),?_⟩
 subst e
 cases d with
 |tup rs=>
  refine ⟨by decide,?_⟩
  have row:∀(n:Nat) (D:Bool->Mh->Prop),(D (rs.all (ju rs.length n)) Γ.M0)->lJ (zgName 0) zNoIf (zCall N7 (fun _ _=>False) (zCons (zVar 0) (zCons (zVar 1) (zCons (zVar 2) zNil)))) rs [none,some (.int rs.length),some (.int (n:Nat))] Γ.M0 D:=fun n D hD=>by
   refine tH (ju rs.length n) (fun τ=>∃x,τ=[x,some (.int rs.length),some (.int (n:Nat))]) ⟨none,rfl⟩ (fun d hd τ ⟨x,e⟩ R hR=>?_) hD
   subst e
   exact ⟨d,rs.length,n,rfl,wb.mp hk d hd,hR _ ⟨_,rfl⟩⟩
  simp! only []
  refine fb (fun h1=>fb (fun h2=>?_) (fun h2=>⟨by decide,?_⟩)) (fun h1=>?_)
  ·rw [show lu (.tup rs)=false by simp at h1 h2;simp [lu];intro z;omega] at q
   exact .inl q
  ·have e:lu (.tup rs)=(rs.all (ju rs.length 2) || rs.all (ju rs.length 3)) :=by
    simp at h1 h2
    simp only [lu]
    rw [decide_eq_true (by omega),WG]
   rw [e] at q
   refine row 2 _ (fb (fun z=>?_) (fun z=>row 3 _ (fb (fun z2=>?_) (fun z2=>?_))))
   ·rw [z] at q;exact .inl q
   ·rw [z,z2] at q;exact .inl q
   ·rw [z,z2] at q;exact .inl q
  ·rw [show lu (.tup rs)=false by simp at h1;simp [lu];intro z;omega] at q
   exact .inl q
 |_=>first|exact ⟨by decide,.inl q⟩|exact nomatch hk
theorem yW:aT ["thing"] ["thing"] (ai ke):=⟨rfl,rfl,rfl,by decide +kernel,rfl,by decide +kernel,by decide +kernel⟩
theorem Et {m:Int} {g:Int} (h:0<=g/\g<m):gY m (.int g)=true :=by simp [gY,h.1,h.2]
theorem J4 {net:List (List Int)} {n:Nat} (o:a9 net n):lu (eN net)=true :=by
 have hr:∀d∈net.map eI,ju (net.map eI).length n d=true:=fun d hd=>by
  obtain ⟨r,hr,rfl⟩:=i8.mp hd
  obtain ⟨h1,h2⟩:=o.row r hr
  simp only [ju,cb]
  rw [decide_eq_true h1,WG,wb]
  intro d hd
  obtain ⟨g,hg,rfl⟩:=i8.mp hd
  exact Et (h2 g hg)
 have ho:=o.one
 have hn:=o.nine
 simp only [lu,eN]
 rw [decide_eq_true (by rw [cb];omega),WG]
 have ha:=wb.mpr hr
 rcases o.wid with rfl|rfl
 ·rw [ha];rfl
 ·rw [ha,Bool.or_true]
theorem J5 (net:List (List Int)):By (eN net)=true :=by
 simp only [By,eN]
 rw [wb]
 intro d hd
 obtain ⟨r,_,rfl⟩:=i8.mp hd
 simp only [GQ,eI]
 rw [wb]
 intro d hd
 obtain ⟨g,hg,rfl⟩:=i8.mp hd
 rfl
def Ir (C:ag):cQ:=fun ds M Q E=>∃d,ds=[d]/\By d=true/\(lu d=true->Q .au M)/\(lu d=false->E C M)
theorem yX {f f1:ag} {fd cR:l5} {C0 C_NoNet:ag} {cs:List ag} (D:Df K mg "need_net" ke ["thing"] f fd) (iy:Df K mg "is_net" lq ["thing"] f1 cR) (qM:FnOk P w K mg base bg 6 f1 cR ["thing"] (aS P w K tb N8))
  (X_:MI K C0 cs) (tP:C_NoNet∈cs) (tQ:mg "NoNet" = some (.ref C_NoNet)):FnOk P w K mg base (fX P w) 7 f fd ["thing"] (aS P w K tb (Ir C_NoNet)) :=by
 refine vN D yW (fun ds M Q E hS=>by obtain ⟨d,e,_⟩:=hS;rw [e];rfl) fun A outer s E Γ ds Q' E' hP hw hK ht hE hr hS=>?_
 obtain ⟨d,e,hk,q1,q2⟩:=hS
 refine ⟨_,(ao (bW (kX (dQ (aE qM (hr.mono (by decide)) rfl iy.mg iy.fn.kp iy.bd aZ hP hw hK ht XR.none (aa (qv 0) ae))))
   (ao (Gm (X_.ex _ tP) PySem.F.excBase_ValueError rfl MF hE rfl tQ (aa MY ae)))
   qss_nil)),?_⟩
 subst e
 simp! only []
 refine ⟨d,rfl,hk,fb (fun h=>?_) (fun h=>?_)⟩
 ·exact ⟨by decide,q2 (by simpa using h)⟩
 ·exact .inl (q1 (by simpa using h))
end
section
variable {P:gc} {w:i0} {K:ba} {mg:br->Option ap} {base:ij} {tb:di}
theorem o6:aT ["net","many"] ["net"] (ai eW):=⟨rfl,rfl,rfl,by decide +kernel,rfl,by decide +kernel,by decide +kernel⟩
theorem yY:aT ["one","other"] ["one","other"] (ai i7):=⟨rfl,rfl,rfl,by decide +kernel,rfl,by decide +kernel,by decide +kernel⟩
def iz (m i:Nat):List (List Int):=(hX (m - (i+1))).map fun j:Nat=>[(i:Int),(i:Int)+1+(j:Nat)]
def aG (m:Nat):List (List Int):=(hX m).flatMap (iz m)
theorem bS {m:Nat} {p:List Int}:p∈aG m ↔ ∃a b:Nat,a<b/\b<m/\p=[(a:Int),(b:Int)] :=by
 unfold aG iz
 simp only [XH,ul,i8]
 constructor
 ·rintro ⟨i,hi,j,hj,rfl⟩
  exact ⟨i,i+1+j,by omega,by omega,by simp⟩
 ·rintro ⟨a,b,h1,h2,rfl⟩
  refine ⟨a,by omega,b - (a+1),by omega,?_⟩
  have:(a:Int)+1+((b - (a+1):Nat):Int)=b :=by omega
  rw [this]
theorem pairs_len {m:Nat} (h:m<=9):(aG m).length<=36 :=by
 have:m=0\/m=1\/m=2\/m=3\/m=4\/m=5\/m=6\/m=7\/m=8\/m=9 :=by omega
 rcases this with rfl|rfl|rfl|rfl|rfl|rfl|rfl|rfl|rfl|rfl <;> decide
theorem yZ {m:Nat} (h:m<=9):(aG m).Nodup :=by
 have:m=0\/m=1\/m=2\/m=3\/m=4\/m=5\/m=6\/m=7\/m=8\/m=9 :=by omega
 rcases this with rfl|rfl|rfl|rfl|rfl|rfl|rfl|rfl|rfl|rfl <;> decide
def sG:cQ:=fun ds M Q _=>∃net n,ds=[eN net]/\a9 net n/\Q (.lst ((aG net.length).map eI)) M
theorem xY {f:ag} {fd:l5} (D:Df K mg "all_pairs" eW ["net"] f fd) (bl:Bl mg):FnOk P w K mg base bg 1 f fd ["net"] (aS P w K tb sG) :=by
 refine d6 D o6 (fun ds M Q E hS=>by obtain ⟨net,n,e,_⟩:=hS;rw [e];rfl) fun A outer s E Γ ds Q' E' hP hw hK ht hr hS=>?_
 obtain ⟨net,n,e,O,q⟩:=hS
 refine ⟨_,(af (aJ (i:=1) o6.nd rfl (xy rfl) (aq (dm (K:=K) rfl hK) rfl bl.len_ rf (aa (qv 0) ae)))
  (ao (aN (xR (N':=["one","other","many"]) (tn:=2) (idx:=[1]) rfl (show ay ["net","many"] (ai eW) _ ["one","other","many"] 2 [1] from by decide +kernel) (bu rfl bl.range_ (aa (qv 1) ae)) (fun _ _ _ _ _=>(az (i:=0) (show mv [("one" : br),("other" : br),("many" : br)] from by decide +kernel) rfl (li rfl))) (fun _ _ _ _ _=>bz) (fun _ _ _ _ _=>(Bp rfl bl.range_ (aa (bF g9 (qv 0) aB) (aa (qv 2) ae)))) (fun _ _ _ _ _=>(az (i:=1) (show mv [("one" : br),("other" : br),("many" : br)] from by decide +kernel) rfl (li rfl))) (fun _ _ _ _ _=>bz) (fun _ _ _ _ _=>(iU (aa (qv 0) (aa (qv 1) ae)))))))),?_⟩
 subst e
 have h9:=O.nine
 have big:(1000:Nat)<sizeLine :=by decide
 simp! only []
 refine ⟨by omega,by omega,?_⟩
 refine xQ (fun i acc τ M=>(∃x y,τ=[x,y,some (.int (net.length:Nat))])/\M=Γ.M0/\acc=((hX i).flatMap (iz net.length)).map eI/\i<=net.length) (i:=0) ⟨⟨_,_,rfl⟩,rfl,rfl,lw _⟩ (fun i d acc τ M hd hI R hR=>?_) fun acc τ M hI=>?_
 ·obtain ⟨⟨x,y,rfl⟩,rfl,rfl,hi⟩:=hI
  obtain ⟨rfl,hi⟩:=bR hd
  simp! only [zlNest]
  have cp:i<net.length :=by omega
  simp only [IT] at *
  refine ⟨⟨by omega,by omega,by omega,by omega⟩,?_⟩
  refine xQ (fun j acc τ M=>(∃y,τ=[some (.int (i:Nat)),y,some (.int (net.length:Nat))])/\M=Γ.M0/\acc=((hX i).flatMap (iz net.length)++(iz net.length i).take j).map eI/\j<=net.length) (i:=0) ⟨⟨_,rfl⟩,rfl,by simp,lw _⟩ (fun j d acc τ M hd hI R2 qk=>?_) fun acc τ M hI=>?_
  ·obtain ⟨⟨y,rfl⟩,rfl,rfl,Vq⟩:=hI
   obtain ⟨rfl,hj⟩:=bR hd
   have Eu:j<net.length - (i+1) :=by omega
   simp! only [IT]
   have l1:((hX i).flatMap (iz net.length)++(iz net.length i).take j).length<=36 :=by
    have:(hX i).flatMap (iz net.length)++(iz net.length i).take j <+: aG net.length :=by
     unfold aG
     have ht:hX net.length=hX (i+1)++(hX (net.length - (i+1))).map (fun x=>i+1+x) :=by
      rw [<- List.range_add];congr 1;omega
     rw [ht,Lo,XZ,Lo,KF]
     simp only [List.flatMap_cons,List.flatMap_nil,FM]
     rw [List.prefix_append_right_inj]
     exact (List.take_prefix j _).trans (Wp _ _)
    exact ln this.length_le (pairs_len h9)
   refine ⟨by omega,by omega,qk _ _ _ ⟨⟨_,rfl⟩,rfl,?_,by omega⟩⟩
   have e:(iz net.length i).take (j+1)=(iz net.length i).take j++[[(i:Int),(i:Int)+1+(j:Nat)]] :=by
    have:(iz net.length i)[j]?=some [(i:Int),(i:Int)+1+(j:Nat)] :=by
     unfold iz
     rw [c8,AC Eu]
     rfl
    rw [Lu,this]
    rfl
   rw [IT,e,<- KF,mo (l₂:=[_])]
   rfl
  ·obtain ⟨⟨y,rfl⟩,rfl,rfl,Vq⟩:=hI
   refine hR _ _ _ ⟨⟨_,_,rfl⟩,rfl,?_,by omega⟩
   have e:(iz net.length i).length=net.length - (i+1) :=by simp [iz]
   rw [rangeD_len,PP (by rw [e];omega),XZ,Lo]
   simp only [List.flatMap_cons,List.flatMap_nil,FM]
 ·obtain ⟨⟨x,y,rfl⟩,rfl,rfl,hi⟩:=hI
  rw [IT,rangeD_len]
  exact .inl q
def c7 (a b:Int):List Int:=if a<b then [a,b] else [b,a]
def GU:cQ:=fun ds M Q _=>∃a b,ds=[.int a,.int b]/\Q (eI (c7 a b)) M
theorem y0 {f:ag} {fd:l5} (D:Df K mg "in_order" i7 ["one","other"] f fd):FnOk P w K mg base bg 1 f fd ["one","other"] (aS P w K tb GU) :=by
 refine d6 D yY (fun ds M Q E hS=>by obtain ⟨a,b,e,_⟩:=hS;rw [e];rfl) fun A outer s E Γ ds Q' E' hP hw hK ht hr hS=>?_
 obtain ⟨a,b,e,q⟩:=hS
 refine ⟨_,(ao (aN (Gh (aQ m8 (qv 0) (qv 1) (aR _)) (iU (aa (qv 0) (aa (qv 1) ae))) (iU (aa (qv 1) (aa (qv 0) ae)))))),?_⟩
 subst e
 simp! only []
 unfold c7 at q
 refine fb (fun h=>?_) (fun h=>?_)
 ·rw [if_pos (of_decide_eq_true h)] at q
  exact ⟨by decide,.inl q⟩
 ·rw [if_neg (of_decide_eq_false h)] at q
  exact ⟨by decide,.inl q⟩
end
section
variable {P:gc} {w:i0} {K:ba} {mg:br->Option ap} {base:ij} {tb:di}
theorem dO:aT ["net","coming","one","other","goal","far"] ["net"] (ai fo):=⟨rfl,rfl,rfl,by decide +kernel,rfl,by decide +kernel,by decide +kernel⟩
def kP (k:List Int):List Key:=k.map OL
theorem sH (a b:List Int) (h:kP a=kP b):a=b :=by
 have:=congrArg (Os fun k:Key=>match k with | .inl i=>i | .inr _=>0) h
 simpa [kP,wv,Function.comp_def] using this
theorem fJ (k:List Int):fY (k.map Dv.int)=some (kP k):=sk k
def d9 (net:List (List Int)) (p:List Int) (k:Nat):List Int:=c7 ((net.getD (p.getD 0 0).toNat []).getD k 0) ((net.getD (p.getD 1 0).toNat []).getD k 0)
abbrev lW:=List (List Int×List Int)
def gJ (net:List (List Int)) (n:Nat) (p:List Int):lW:=(hX n).map fun k=>(d9 net p k,p)
def iA (net:List (List Int)) (n:Nat):lW:=(aG net.length).flatMap (gJ net n)
def qN (ks:List (List Int)) (e:List Int×List Int):List (List Int):=if e.1∈ks then ks else ks++[e.1]
def cn (E:lW):List (List Int):=E.foldl qN []
def gK (E:lW) (q:List Int):List (List Int):=(E.filter fun e=>decide (e.1=q)).map (·.2)
theorem ja (E:lW) (e:List Int×List Int):cn (E++[e])=qN (cn E) e :=by unfold cn;rw [List.foldl_append];rfl
theorem nz (E:lW) (q p r:List Int):gK (E++[(q,p)]) r=if q=r then gK E r++[p] else gK E r :=by
 unfold gK
 rw [List.filter_append,mo]
 by_cases h:q=r
 ·rw [if_pos h];simp [h]
 ·rw [if_neg h];simp [h]
theorem snoc_ind {α:Type} {p:List α->Prop} (h0:p []) (h1:∀l a,p l->p (l++[a])):∀l,p l:=fun l=>by
 rw [<- List.reverse_reverse l]
 induction l.reverse with
 |nil=>exact h0
 |cons a l ih=>rw [Xt];exact h1 _ _ ih
theorem Ew {q:List Int}:∀E:lW,q∈cn E ↔ ∃e∈E,e.1=q:=snoc_ind (by simp [cn]) fun E a ih=>by
 rw [ja]
 unfold qN
 by_cases h:a.1∈cn E
 ·rw [if_pos h,ih]
  constructor
  ·rintro ⟨e,he,rfl⟩;exact ⟨e,by simp [he],rfl⟩
  ·rintro ⟨e,he,rfl⟩
   rcases l6.mp he with z|z
   ·exact ⟨e,z,rfl⟩
   ·have:=jp.mp z
    subst this
    exact ih.mp h
 ·rw [if_neg h,l6,ih,jp]
  constructor
  ·rintro (⟨e,he,rfl⟩|rfl)
   ·exact ⟨e,by simp [he],rfl⟩
   ·exact ⟨a,by simp,rfl⟩
  ·rintro ⟨e,he,rfl⟩
   rcases l6.mp he with z|z
   ·exact .inl ⟨e,z,rfl⟩
   ·rw [jp.mp z];exact .inr rfl
theorem GV:∀E:lW,(cn E).Nodup:=snoc_ind (by simp [cn]) fun E a ih=>by
 rw [ja]
 unfold qN
 split
 ·exact ih
 ·rename_i h
  rw [KB]
  exact ⟨ih,by simp,fun x hx y hy e=>h (by rw [jp.mp hy] at e;rw [<- e];exact hx)⟩
theorem Ez (E:lW):(cn E).length<=E.length:=snoc_ind (p:=fun E=>(cn E).length<=E.length) (by simp [cn]) (fun E a ih=>by
 rw [ja]
 unfold qN
 split <;> simp <;> omega) E
theorem J6 (E:lW) (q:List Int):(gK E q).length<=E.length :=by
 unfold gK
 rw [cb]
 exact IN _ _
theorem xZ {E:lW} {q:List Int} (h:q ∉ cn E):gK E q=[] :=by
 unfold gK
 rw [List.map_eq_nil_iff,List.filter_eq_nil_iff]
 intro e he z
 exact h ((Ew E).mpr ⟨e,he,by simpa using z⟩)
theorem lX {α:Type} {f:List Int->α} {q:List Int}:∀{ks:List (List Int)},look (ks.map kP) (ks.map f) (kP q)=if q∈ks then some (f q) else none
 | []=>rfl
 |k::ks=>by
          rw [nw,nw]
          unfold look
          by_cases e:k=q
          ·rw [if_pos (by rw [e]),if_pos (by simp [e]),e]
          ·rw [if_neg (fun z=>e (sH _ _ z)),lX (ks:=ks)]
           simp [wE e]
theorem x8 {α:Type} {q:List Int}:∀{ks:List (List Int)} {as:List α},as.length=ks.length->(q ∉ ks/\look (ks.map kP) as (kP q)=none)\/∃(j:Nat) (a:α),ks[j]?=some q/\as[j]?=some a/\look (ks.map kP) as (kP q)=some a
 | [],as,_=>by cases as <;> exact .inl ⟨by simp,rfl⟩
 |k::ks,[],h=>by simp at h
 |k::ks,a::as,h=>by
          rw [nw]
          unfold look
          by_cases e:k=q
          ·subst e;exact .inr ⟨0,a,rfl,rfl,by rw [if_pos rfl]⟩
          ·rw [if_neg (fun z=>e (sH _ _ z))]
           rcases x8 (q:=q) (ks:=ks) (as:=as) (by simpa using h) with ⟨h1,h2⟩|⟨j,b,h1,h2,h3⟩
           ·exact .inl ⟨by simp [wE e,h1],h2⟩
           ·exact .inr ⟨j+1,b,by simpa using h1,by simpa using h2,h3⟩
structure ComM (M0 M:Mh) (c:ag) (as:List ag) (E:lW):Prop where
 c0:M0 c=none
 cm:M c=some (.dt ((cn E).map kP) (as.map .ptr))
 len:as.length=(cn E).length
 am:∀(j:Nat) (a:ag) (q:List Int),as[j]?=some a->(cn E)[j]?=some q->M a=some (.lst ((gK E q).map eI))
 a0:∀a∈as,M0 a=none/\a≠c
 nd:as.Nodup
 kp:Keeps M0 M
theorem ql {M0 M:Mh} (h:Keeps M0 M) {a:ag} (ha:M a=none):M0 a=none :=by
 cases e:M0 a with
 |none=>rfl
 |some u=>rw [h a u e] at ha;cases ha
theorem ComM.old {M0 M:Mh} {c a a':ag} {as:List ag} {E:lW} {j:Nat} {q p:List Int} (C:ComM M0 M c as E) (hj:(cn E)[j]?=some q) (ha:as[j]?=some a) (hn:M a'=none) :
  ComM M0 (aw (aw M a' (.lst [])) a (.lst ((gK E q).map eI++[eI p]))) c as (E++[(q,p)]) :=by
 have ek:cn (E++[(q,p)])=cn E :=by
  rw [ja];unfold qN;rw [if_pos (ci hj)]
 have Iu:=C.am j a q ha hj
 have ne:∀b∈as,b≠a':=fun b hb e=>by
  obtain ⟨i,hi⟩:=lc.mp hb
  have i5:=(bn.mp hi).1
  have:=C.am i b _ hi (ac (by rw [<- C.len];exact i5))
  rw [e,hn] at this;cases this
 have vc:c≠a:=wE (C.a0 a (ci ha)).2
 have qO:c≠a':=fun e=>by have:=C.cm;rw [e,hn] at this;cases this
 refine ⟨C.c0,by rw [ah vc,ah qO,ek];exact C.cm,by rw [ek];exact C.len,fun i b r hb hr=>?_,C.a0,C.nd,?_⟩
 ·rw [ek] at hr
  have cF:=ne b (ci hb)
  by_cases e:b=a
  ·subst e
   have e2:i=j:=(Xy (bn.mp hb).1 C.nd).mp (by rw [hb,ha])
   subst e2
   rw [hj] at hr;cases hr
   rw [updM_same,nz,if_pos rfl,mo]
   rfl
  ·rw [ah e,ah cF,C.am i b r hb hr,nz,if_neg]
   intro z
   subst z
   have e2:i=j:=(Xy (bn.mp hr).1 (GV E)).mp (by rw [hr,hj])
   subst e2
   rw [hb] at ha;cases ha
   exact e rfl
 ·exact .upd (C.a0 a (ci ha)).1 (.upd (ql C.kp hn) C.kp)
theorem ComM.new {M0 M:Mh} {c a':ag} {as:List ag} {E:lW} {q p:List Int} (C:ComM M0 M c as E) (hq:q ∉ cn E) (hn:M a'=none) :
  ComM M0 (aw (aw (aw M a' (.lst [])) c (.dt ((cn E).map kP++[kP q]) (as.map .ptr++[.ptr a']))) a' (.lst ([]++[eI p]))) c (as++[a']) (E++[(q,p)]) :=by
 have ek:cn (E++[(q,p)])=cn E++[q] :=by
  rw [ja];unfold qN;rw [if_neg hq]
 have ne:∀b∈as,b≠a':=fun b hb e=>by
  obtain ⟨i,hi⟩:=lc.mp hb
  have i5:=(bn.mp hi).1
  have:=C.am i b _ hi (ac (by rw [<- C.len];exact i5))
  rw [e,hn] at this;cases this
 have qO:c≠a':=fun e=>by have:=C.cm;rw [e,hn] at this;cases this
 have h0:=ql C.kp hn
 refine ⟨C.c0,by rw [ah qO,updM_same,ek,mo,mo];rfl,by rw [ek,mf,mf,C.len];rfl,fun i b r hb hr=>?_,fun b hb=>?_,?_,.upd h0 (.upd C.c0 (.upd h0 C.kp))⟩
 ·rw [ek] at hr
  by_cases hi:i<as.length
  ·rw [ze hi] at hb
   rw [ze (by rw [<- C.len];exact hi)] at hr
   have cF:=ci hb
   rw [ah (ne b cF),ah (C.a0 b cF).2,ah (ne b cF),C.am i b r hb hr,nz,if_neg]
   intro z;subst z;exact hq (ci hr)
  ·have i5:=(bn.mp hb).1
   rw [mf,Cc] at i5
   have cZ:i=as.length :=by omega
   subst cZ
   rw [AN (ce _),Wo] at hb
   rw [C.len,AN (ce _),Wo] at hr
   cases hb;cases hr
   rw [updM_same,nz,if_pos rfl,xZ hq]
   rfl
 ·rcases l6.mp hb with z|z
  ·exact C.a0 b z
  ·rw [jp.mp z];exact ⟨h0,wE qO⟩
 ·rw [KB]
  exact ⟨C.nd,by simp,fun x hx y hy e=>ne x hx (by rw [jp.mp hy] at e;exact e)⟩
def ya (net:List (List Int)) (n:Nat):Dv:=.dt ((cn (iA net n)).map kP) ((cn (iA net n)).map fun q=>.lst ((gK (iA net n) q).map eI))
def tR:cQ:=fun ds M Q _=>∃net n,ds=[eN net]/\a9 net n/\Q (ya net n) M
theorem km {net:List (List Int)} {n a:Nat} (O:a9 net n) (ha:a<net.length):cY (net.map eI) (a:Int)=some (eI (net.getD a []))/\(net.getD a []).length=n :=by
 have e:net.getD a []=net[a] :=by rw [bi,ac ha];rfl
 rw [e]
 exact ⟨ez (by rw [c8,ac ha];rfl),(O.row _ (r9 ha)).1⟩
theorem sI {f f1 f2:ag} {fd cR fd2:l5} (D:Df K mg "coming_pairs" fo ["net"] f fd)
  (bp:Df K mg "all_pairs" eW ["net"] f1 cR) (dr:FnOk P w K mg base bg 1 f1 cR ["net"] (aS P w K tb sG))
  (cL:Df K mg "in_order" i7 ["one","other"] f2 fd2) (gB:FnOk P w K mg base bg 1 f2 fd2 ["one","other"] (aS P w K tb GU)) (bl:Bl mg) :
  FnOk P w K mg base bg 2 f fd ["net"] (aS P w K tb tR) :=by
 refine d6 D dO (fun ds M Q E hS=>by obtain ⟨net,n,e,_⟩:=hS;rw [e];rfl) fun A outer s E Γ ds Q' E' hP hw hK ht hr hS=>?_
 obtain ⟨net,n,e,O,q⟩:=hS
 refine ⟨_,(af (aJ (i:=1) dO.nd rfl (li rfl) Gw)
  (af (dR sw rfl (cj (K:=K) rfl (aE dr (hr.mono (by decide)) rfl bp.mg bp.fn.kp bp.bd aZ hP hw hK ht XR.none (aa (qv 0) ae))) (fun j1 eP ew eK et=>by have hP:=hP.trans eP.symm;have hw:=hw.trans ew.symm;have hK:=hK.trans eK.symm;have ht:=ht.trans et.symm;exact ⟨(iW (n:=2) rfl (bT (az (i:=2) dO.nd rfl (li rfl)) (bT (az (i:=3) dO.nd rfl (li rfl)) gw))),(ao (dR sw rfl (mL false false (K:=K) rfl rfl bl.zip_ (bq (ck (K:=K) rfl) (qv 0) (qv 2) (fun _ _=>rfl)) (bq (ck (K:=K) rfl) (qv 0) (qv 3) (fun _ _=>rfl))) (fun j1 eP ew eK et=>by have hP:=hP.trans eP.symm;have hw:=hw.trans ew.symm;have hK:=hK.trans eK.symm;have ht:=ht.trans et.symm;exact ⟨(iW (n:=2) rfl (bT (az (i:=4) dO.nd rfl (li rfl)) (bT (az (i:=5) dO.nd rfl (li rfl)) gw))),(ao (gv (jF (K:=K) rfl wS Ch Cn iq (jF (K:=K) rfl PySem.F.plainAttrs_dict PySem.F.slot_dict_setdefault PySem.F.type_dict_setdefault (GD hr.units) (qv 1) (aa (aE gB (hr.mono (by decide)) rfl cL.mg cL.fn.kp cL.bd aZ hP hw hK ht XR.none (aa (qv 4) (aa (qv 5) ae))) (aa (ki ae) ae))) (aa (iU (aa (qv 2) (aa (qv 3) ae))) ae))))⟩)))⟩))
  (ao (aN (qv 1))))),?_⟩
 subst e
 have h9:=O.nine
 have EA:=O.wid
 have big:(1000:Nat)<sizeLine :=by decide
 simp! only []
 intro c hc
 refine ⟨net,n,rfl,O,?_⟩
 refine bQ (fun i ρ M=>∃as,(∃x2 x3 x4 x5,ρ=[some (eN net),some (.ptr c),x2,x3,x4,x5])/\ComM Γ.M0 M c as (((aG net.length).take i).flatMap (gJ net n))) ⟨[],⟨_,_,_,_,rfl⟩,⟨hc,updM_same,rfl,(fun j a q h=>nomatch h),(fun a h=>nomatch h),.nil,.upd hc .refl⟩⟩ (fun i d ρ M N hd hJ hN=>?_) (fun ρ M hJ=>?_)
 ·obtain ⟨as,⟨x2,x3,x4,x5,rfl⟩,C⟩:=hJ
  obtain ⟨p,hp,rfl⟩:=iZ hd
  have w5:=ci hp
  obtain ⟨a,b,dC,hb,rfl⟩:=bS.mp w5
  obtain ⟨ea,la⟩:=km O (show a<net.length by omega)
  obtain ⟨eb,lb⟩:=km O hb
  simp! only [ea,eb]
  refine bQ (fun j ρ M=>∃as,(∃x4 x5,ρ=[some (eN net),some (.ptr c),some (.int (a:Nat)),some (.int (b:Nat)),x4,x5])/\ComM Γ.M0 M c as (((aG net.length).take i).flatMap (gJ net n)++(gJ net n [(a:Int),(b:Int)]).take j)) ⟨as,⟨_,_,rfl⟩,by simpa using C⟩ (fun j d ρ M N2 hd hJ jT=>?_) (fun ρ M hJ=>?_)
  ·obtain ⟨as,⟨x4,x5,rfl⟩,C⟩:=hJ
   obtain ⟨x,y,rfl,hx,hy⟩:=iI hd
   rw [c8] at hx hy
   obtain ⟨gx,lR,rfl⟩:=kt.mp hx
   obtain ⟨gy,RK,rfl⟩:=kt.mp hy
   have hj:j<n :=by have:=(bn.mp lR).1;omega
   have eg:d9 net [(a:Int),(b:Int)] j=c7 gx gy :=by
    unfold d9
    simp only [W1,W2,tw]
    rw [bi (l:=net.getD a []),lR,bi (l:=net.getD b []),RK]
    rfl
   obtain ⟨E,hE⟩:∃E,E=((aG net.length).take i).flatMap (gJ net n)++(gJ net n [(a:Int),(b:Int)]).take j:=⟨_,rfl⟩
   have eT:((aG net.length).take i).flatMap (gJ net n)++(gJ net n [(a:Int),(b:Int)]).take (j+1)=E++[(c7 gx gy,[(a:Int),(b:Int)])] :=by
    rw [hE,KF]
    congr 1
    have:(gJ net n [(a:Int),(b:Int)])[j]?=some (c7 gx gy,[(a:Int),(b:Int)]) :=by
     unfold gJ
     rw [c8,AC hj,<- eg]
     rfl
    rw [Lu,this]
    rfl
   have Wg:E.length<=111 :=by
    rw [hE,mf,List.length_flatMap]
    have h1:((((aG net.length).take i).map fun p=>(gJ net n p).length)).sum<=36 * 3 :=by
     have:(((aG net.length).take i).map fun p=>(gJ net n p).length)=BY ((aG net.length).take i).length n :=by
      rw [List.eq_replicate_iff]
      refine ⟨by simp,fun x hx=>?_⟩
      obtain ⟨p,_,rfl⟩:=i8.mp hx
      simp [gJ]
     rw [this,List.sum_replicate_nat]
     have h1:((aG net.length).take i).length<=36:=ln (Tl ..) (pairs_len h9)
     exact Nat.mul_le_mul h1 (by omega)
    have h2:((gJ net n [(a:Int),(b:Int)]).take j).length<=n:=ln (Tl ..) (by simp [gJ])
    omega
   rw [<- hE] at C
   rw [eT] at jT
   have Ae:=Ez E
   have Wh:=J6 E (c7 gx gy)
   simp! only [C.cm]
   refine ⟨_,_,rfl,by decide,fun a' hn=>?_⟩
   have qO:c≠a':=fun e=>by have:=C.cm;rw [e,hn] at this;cases this
   simp only [ah qO,C.cm,fJ]
   refine ⟨by rw [cb];omega,?_⟩
   rcases x8 (q:=c7 gx gy) (ks:=cn E) (as:=as.map Dv.ptr) (by rw [cb];exact C.len) with ⟨h1,h2⟩|⟨k,v,h1,h2,h3⟩
   ·simp only [h2,ah (wE qO),updM_same]
    exact ⟨trivial,by decide,by decide,jT _ _ ⟨as++[a'],⟨_,_,rfl⟩,C.new (p:=[(a:Int),(b:Int)]) h1 hn⟩⟩
   ·rw [c8] at h2
    obtain ⟨ak,sr,rfl⟩:=kt.mp h2
    have Iu:=C.am k ak _ sr h1
    have e8:ak≠a':=fun e=>by rw [e,hn] at Iu;cases Iu
    simp only [h3,ah e8,Iu]
    exact ⟨trivial,by decide,by rw [cb];omega,jT _ _ ⟨as,⟨_,_,rfl⟩,C.old (p:=[(a:Int),(b:Int)]) h1 sr hn⟩⟩
  ·obtain ⟨as,⟨x4,x5,rfl⟩,C⟩:=hJ
   refine hN _ _ ⟨as,⟨_,_,_,_,rfl⟩,?_⟩
   have e1:((aG net.length).take (i+1)).flatMap (gJ net n)=((aG net.length).take i).flatMap (gJ net n)++gJ net n [(a:Int),(b:Int)] :=by
    rw [Lu,hp,Lo]
    simp
   rw [e1]
   have el:(bX (Os Dv.int (net.getD a [])) (Os Dv.int (net.getD b []))).length=n :=by rw [pairsD_len,cb,cb,la,lb,GE]
   rw [el,PP (l:=gJ net n [(a:Int),(b:Int)]) (by simp [gJ])] at C
   exact C
 ·obtain ⟨as,⟨x2,x3,x4,x5,rfl⟩,C⟩:=hJ
  rw [cb,NJ] at C
  simp! only []
  refine .inr ⟨C.kp,ya net n,.dt C.c0 C.cm (by rw [cb,cb];exact C.len) fun j d d' e1 e2=>?_,q⟩
  rw [c8] at e1 e2
  obtain ⟨a,ha,rfl⟩:=kt.mp e1
  obtain ⟨k,hk,rfl⟩:=kt.mp e2
  refine .ptr (C.a0 a (ci ha)).1 (C.am j a k ha hk) rfl fun i d d' e1 e2=>?_
  rw [show gK (iA net n) k=gK ((aG net.length).flatMap (gJ net n)) k from rfl,e1] at e2
  cases e2
  obtain ⟨r,_,rfl⟩:=i8.mp (ci e1)
  exact .pin (oO r)
end
section
variable {P:gc} {w:i0} {K:ba} {mg:br->Option ap} {base:ij} {tb:di}
theorem fw:aT ["coming","goals","found","queue","goal","pair"] ["coming","goals"] (ai eB):=⟨rfl,rfl,rfl,by decide +kernel,rfl,by decide +kernel,by decide +kernel⟩
def dw (m:Nat):List (List Int):=(hX m).map fun i:Nat=>[(i:Int),(i:Int)]
def jG (m:Nat):List (List Int):=aG m++dw m
theorem yb {m:Nat} (h:m<=9):(jG m).length<=45 :=by
 unfold jG dw
 have:=pairs_len h
 simp
 omega
theorem nA {m:Nat} {p:List Int}:p∈jG m ↔ ∃a b:Nat,a<=b/\b<m/\p=[(a:Int),(b:Int)] :=by
 unfold jG dw
 rw [l6,bS,i8]
 constructor
 ·rintro (⟨a,b,h1,h2,rfl⟩|⟨a,h,rfl⟩)
  ·exact ⟨a,b,by omega,h2,rfl⟩
  ·exact ⟨a,a,ce _,ul.mp h,rfl⟩
 ·rintro ⟨a,b,h1,h2,rfl⟩
  by_cases e:a=b
  ·subst e;exact .inr ⟨a,ul.mpr h2,rfl⟩
  ·exact .inl ⟨a,b,by omega,h2,rfl⟩
theorem GW {m:Nat} {x y:Int} (hx:0<=x/\x<m) (hy:0<=y/\y<m):c7 x y∈jG m :=by
 obtain ⟨a,rfl⟩:=sB hx.1
 obtain ⟨b,rfl⟩:=sB hy.1
 rw [nA]
 unfold c7
 by_cases h:(a:Int)<(b:Int)
 ·rw [if_pos h];exact ⟨a,b,by omega,by omega,rfl⟩
 ·rw [if_neg h];exact ⟨b,a,by omega,by omega,rfl⟩
inductive eh (net:List (List Int)) (n:Nat) (G:List Int->Prop):List Int->Prop where
 |base {p:List Int} (h:G p):eh net n G p
 |step {p:List Int} {k:Nat} (hp:p∈aG net.length) (hk:k<n) (h:eh net n G (d9 net p k)):eh net n G p
theorem Ag {net:List (List Int)} {n:Nat} {p q:List Int}:p∈gK (iA net n) q ↔ p∈aG net.length/\∃k,k<n/\d9 net p k=q :=by
 unfold gK iA gJ
 simp only [i8,Fk,XH,ul,decide_eq_true_eq]
 constructor
 ·rintro ⟨e,⟨⟨p',hp,k,hk,rfl⟩,rfl⟩,rfl⟩
  exact ⟨hp,k,hk,rfl⟩
 ·rintro ⟨hp,k,hk,rfl⟩
  exact ⟨_,⟨⟨p,hp,k,hk,rfl⟩,rfl⟩,rfl⟩
theorem J7 {net:List (List Int)} {n:Nat} {g:List Int}:(look ((cn (iA net n)).map kP) ((cn (iA net n)).map fun q=>Dv.lst ((gK (iA net n) q).map eI)) (kP g)).getD (.lst [])=.lst ((gK (iA net n) g).map eI) :=by
 rw [lX]
 split
 ·rfl
 ·rename_i h
  rw [xZ h]
  rfl
def BA (ks:List (List Int)):Dv:=.dt (ks.map kP) (ks.map fun _=>.bl true)
def yc:cQ:=fun ds M Q _=>∃(net:List (List Int)) (n:Nat) (gs:List (List Int)),ds=[ya net n,.lst (gs.map eI)]/\a9 net n/\gs.Nodup/\(∀p∈gs,p∈jG net.length)/\∀ks:List (List Int),(∀p,p∈ks ↔ eh net n (·∈gs) p)->ks.length<=45->Q (BA ks) M
theorem GX {net:List (List Int)} {n:Nat} {G:List Int->Prop} (hG:∀p,G p->p∈jG net.length) {p:List Int} (h:eh net n G p):p∈jG net.length :=by
 cases h with
 |base h=>exact hG _ h
 |step hp _ _=>exact ss _ hp
theorem tS {f:ag} {fd:l5} (D:Df K mg "led_to_some" eB ["coming","goals"] f fd) (bl:Bl mg) :
  FnOk P w K mg base bg 1 f fd ["coming","goals"] (aS P w K tb yc) :=by
 refine d6 D fw (fun ds M Q E hS=>by obtain ⟨net,n,gs,e,_⟩:=hS;rw [e];rfl) fun A outer s E Γ ds Q' E' hP hw hK ht hr hS=>?_
 obtain ⟨net,n,gs,e,O,N9,hu,q⟩:=hS
 refine ⟨_,(af (yS (i:=2) hr.units fw.nd rfl rfl (N':=["goal"]) (tn:=1) (idx:=[]) rfl (show ay ["coming","goals","found","queue","goal","pair"] (ai eB) _ ["goal"] 1 [] from by decide +kernel) (cj (K:=K) rfl (qv 1)) (fun _ _ _ _ _=>(az (i:=0) (show mv [("goal" : br)] from by decide +kernel) rfl (li rfl))) (fun _ _ _ _ _=>bz) (fun _ _ _ _ _=>(qv 0)) (fun _ _ _ _ _=>fe))
  (af (aJ (i:=3) fw.nd rfl (li rfl) (iH (JC (K:=K) rfl) rfl bl.list_ jn (aa (qv 1) ae)))
  (af (qC sw (Gp (qv 3))
   (af (aJ (i:=4) fw.nd rfl (li rfl) (Nk (K:=K) rfl wS PySem.F.slot_list_pop PySem.F.type_list_pop P4 (qv 3)))
  (ao (dR sw rfl (cj (K:=K) rfl (NU (K:=K) PySem.F.plainAttrs_dict Mn PySem.F.type_dict_get (Ny hr.units) (qv 0) (aa (qv 4) (aa (oG ae) ae)))) (fun j1 eP ew eK et=>by have hP:=hP.trans eP.symm;have hw:=hw.trans ew.symm;have hK:=hK.trans eK.symm;have ht:=ht.trans et.symm;exact ⟨(az (i:=5) fw.nd rfl (li rfl)),(ao (bW (aQ (qH hr.units) (qv 5) (qv 2) (by rfl))
   (af (zU hr.units (qv 2) (qv 5) fe)
  (ao (gv (jF (K:=K) rfl wS Ch Cn iq (qv 3) (aa (qv 5) ae)))))
   qss_nil))⟩)))))
  (ao (aN (qv 2)))))),?_⟩
 subst e
 have h9:=O.nine
 have EA:=O.wid
 have big:(1000:Nat)<sizeLine :=by decide
 have uB:gs.length<=45:=ln (hZ _ _ N9 hu) (yb h9)
 simp! only []
 refine Eg (fun i ks es τ M=>(∃x,τ=[x])/\M=Γ.M0/\ks=(gs.take i).map kP/\es=(gs.take i).map fun _=>Dv.bl true) (i:=0) ⟨⟨_,rfl⟩,rfl,rfl,rfl⟩ (fun i d ks es τ M hd hI R hR=>?_) fun ks es τ M hI=>?_
 ·obtain ⟨⟨x,rfl⟩,rfl,rfl,rfl⟩:=hI
  obtain ⟨p,hp,rfl⟩:=iZ hd
  simp! only [fJ,IT]
  have hl:(gs.take i).length<=45:=ln (Tl ..) uB
  have Tw:p ∉ gs.take i:=fun h=>by
   obtain ⟨j,hj⟩:=lc.mp h
   rw [List.getElem?_take] at hj
   split at hj
   ·have hi:=(bn.mp hp).1
    have:=(Xy (bn.mp hj).1 N9).mp (hj.trans hp.symm)
    omega
   ·cases hj
  obtain ⟨p1,p2⟩:=zX (k:=kP p) (d:=Dv.bl true) (ks:=(gs.take i).map kP) (ds:=(gs.take i).map fun _=>Dv.bl true) fun h=>Tw ((qg sH).mp h)
  rw [p1,p2]
  have et:gs.take (i+1)=gs.take i++[p] :=by rw [Lu,hp];rfl
  refine ⟨by omega,hR _ _ _ _ ⟨⟨_,rfl⟩,rfl,?_,?_⟩⟩
  ·rw [IT,et,mo];rfl
  ·rw [IT,et,mo];rfl
 ·obtain ⟨⟨x,rfl⟩,rfl,rfl,rfl⟩:=hI
  rw [cb,IT,NJ]
  intro a ha b hb
  have EB:b≠a:=fun z=>by rw [z,updM_same] at hb;cases hb
  have pZ:Γ.M0 b=none :=by rw [ah EB] at hb;exact hb
  let I:Nat->List (List Int)->List (List Int)->aC->Mh->Prop:=fun m ks qs ρ M=>(∃x4 x5,ρ=[some (ya net n),some (.lst (gs.map eI)),some (.ptr a),some (.ptr b),x4,x5])/\M a=some (.dt (ks.map kP) (ks.map fun _=>Dv.bl true))/\M b=some (.lst (qs.map eI))/\Keeps Γ.M0 M/\ks.Nodup/\(∀x∈qs,x∈ks)/\(∀x∈gs,x∈ks)/\(∀x∈ks,eh net n (·∈gs) x)/\2 * (45 - ks.length)+qs.length=m/\m<=200
  have ku:∀ks:List (List Int),ks.Nodup->(∀x∈ks,eh net n (·∈gs) x)->ks.length<=45:=fun ks h1 h2=>ln (hZ _ _ h1 fun x hx=>GX hu (h2 x hx)) (yb h9)
  refine ⟨fun m ρ M=>∃ks qs,I m ks qs ρ M/\∀g∈ks,g∈qs\/∀p∈gK (iA net n) g,p∈ks,⟨_,gs,gs,⟨⟨_,_,rfl⟩,by rw [ah (wE EB),updM_same],updM_same,.upd pZ (.upd ha .refl),N9,fun x h=>h,fun x h=>h,fun x h=>.base h,rfl,by omega⟩,fun g hg=>.inl hg⟩,?_⟩
  rintro m ρ M ⟨ks,qs,⟨⟨x4,x5,rfl⟩,Ah,zZ,kp,k1,k2,k3,k4,rfl,Vr⟩,cE⟩
  have kl:=ku ks k1 k4
  simp! only [zZ,truD]
  rcases List.eq_nil_or_concat qs with rfl|⟨qs,g,rfl⟩
  ·rw [if_neg (by simp)]
   refine .inr ⟨kp,BA ks,.dt ha Ah rfl fun j d d' e1 e2=>?_,q ks (fun p=>⟨k4 p,fun h=>?_⟩) kl⟩
   ·rw [e1] at e2;cases e2
    obtain ⟨_,_,rfl⟩:=i8.mp (ci e1)
    exact .pin (.bl true)
   ·induction h with
    |base h=>exact k3 _ h
    |step hp hk _ ih=>exact ((cE _ ih).resolve_left (fun z=>nomatch z)) _ (Ag.mpr ⟨hp,_,hk,rfl⟩)
  ·rw [List.concat_eq_append] at *
   have e1:(Os eI (qs++[g])).isEmpty=false :=by simp
   have e2:(Os eI (qs++[g]))[(qs++[g]).length - 1]?=some (.tup (g.map Dv.int)) :=by simp [eI]
   have e3:(Os eI (qs++[g])).dropLast=qs.map eI :=by simp
   rw [if_pos (by rw [e1];rfl)]
   simp only [e2,e3,ya,fJ,J7]
   refine ⟨trivial,lw _,?_⟩
   have hg:g∈ks:=k2 g (by simp)
   refine bQ (fun i ρ M=>∃fZ ye m2,I m2 fZ ye ρ M/\m2<2 * (45 - ks.length)+(qs++[g]).length/\(∀x∈ks,x∈fZ)/\(∀h∈fZ,h=g\/h∈ye\/∀p∈gK (iA net n) h,p∈fZ)/\∀p∈(gK (iA net n) g).take i,p∈fZ)
    ⟨ks,qs,_,⟨⟨_,_,rfl⟩,by rw [ah (wE EB)];exact Ah,updM_same,.upd pZ kp,k1,fun x hx=>k2 x (by simp [hx]),k3,k4,rfl,by rw [mf,Cc] at Vr;omega⟩,by rw [mf,Cc];omega,fun x h=>h,fun h hh=>?_,fun p hp=>by simp at hp⟩ (fun i d ρ M N2 hd hJ jT=>?_) (fun ρ M hJ=>?_)
   ·rcases cE h hh with z|z
    ·rcases l6.mp z with z|z
     ·exact .inr (.inl z)
     ·exact .inl (jp.mp z)
    ·exact .inr (.inr z)
   ·obtain ⟨fZ,ye,m2,⟨⟨y4,y5,rfl⟩,RL,RN,RO,g1,g2,g3,g4,rfl,Vs⟩,gm,Em,Iv,gt⟩:=hJ
    obtain ⟨p,hp,rfl⟩:=iZ hd
    have gl:=ku fZ g1 g4
    have pm:=ci hp
    have pl:eh net n (·∈gs) p :=by
     obtain ⟨h1,k,hk,h2⟩:=Ag.mp pm
     exact .step h1 hk (h2▸g4 g (Em g hg))
    have et:(gK (iA net n) g).take (i+1)=(gK (iA net n) g).take i++[p] :=by rw [Lu,hp];rfl
    simp! only [RL,fJ,lX]
    by_cases jM:p∈fZ
    ·rw [if_pos jM,if_neg (by simp)]
     refine jT _ _ ⟨fZ,ye,_,⟨⟨_,_,rfl⟩,RL,RN,RO,g1,g2,g3,g4,rfl,Vs⟩,gm,Em,Iv,fun x hx=>?_⟩
     rw [et] at hx
     rcases l6.mp hx with z|z
     ·exact gt x z
     ·rw [jp.mp z];exact jM
    ·rw [if_neg jM,if_pos (by simp)]
     obtain ⟨p1,p2⟩:=zX (k:=kP p) (d:=Dv.bl true) (ks:=fZ.map kP) (ds:=fZ.map fun _=>Dv.bl true) fun h=>jM ((qg sH).mp h)
     have sJ:(fZ++[p]).Nodup :=by
      rw [KB]
      exact ⟨g1,by simp,fun x hx y hy e=>jM (by rw [jp.mp hy] at e;rw [<- e];exact hx)⟩
     have l2:∀x∈fZ++[p],eh net n (·∈gs) x:=fun x hx=>by
      rcases l6.mp hx with z|z
      ·exact g4 x z
      ·rw [jp.mp z];exact pl
     have Vt:=ku _ sJ l2
     rw [mf,Cc] at Vt
     simp only [p1,p2,ah EB,RN]
     refine ⟨by omega,trivial,by rw [cb];omega,jT _ _ ⟨fZ++[p],ye++[p],_,⟨⟨_,_,rfl⟩,?_,?_,.upd pZ (.upd ha RO),sJ,fun x hx=>?_,fun x hx=>ss _ (g3 x hx),l2,rfl,?_⟩,?_,fun x hx=>ss _ (Em x hx),fun h hh=>?_,fun x hx=>?_⟩⟩
     ·rw [ah (wE EB),updM_same,mo,mo];rfl
     ·rw [updM_same,mo];rfl
     ·rcases l6.mp hx with z|z
      ·exact ss _ (g2 x z)
      ·exact lf _ z
     ·rw [mf,mf,Cc];omega
     ·rw [mf,mf,Cc];omega
     ·rcases l6.mp hh with z|z
      ·rcases Iv h z with w|w|w
       ·exact .inl w
       ·exact .inr (.inl (ss _ w))
       ·exact .inr (.inr fun r hr=>ss _ (w r hr))
      ·exact .inr (.inl (lf _ z))
     ·rw [et] at hx
      rcases l6.mp hx with z|z
      ·exact ss _ (gt x z)
      ·exact lf _ z
   ·obtain ⟨fZ,ye,m2,h1,gm,Em,Iv,gt⟩:=hJ
    rw [cb,NJ] at gt
    exact ⟨m2,gm,fZ,ye,h1,fun h hh=>by
     rcases Iv h hh with rfl|z
     ·exact .inr gt
     ·exact z⟩
end
section
variable {P:gc} {w:i0} {K:ba} {mg:br->Option ap} {base:ij} {tb:di} {C_NoNet:ag}
theorem jb:aT ["net","ends","called"] ["net"] (ai dU):=⟨rfl,rfl,rfl,by decide +kernel,rfl,by decide +kernel,by decide +kernel⟩
theorem jc:aT ["net","never","shaken"] ["net"] (ai dW):=⟨rfl,rfl,rfl,by decide +kernel,rfl,by decide +kernel,by decide +kernel⟩
open Classical in
noncomputable def nB (net:List (List Int)) (n:Nat) (G:List Int->Prop):List (List Int):=(aG net.length).filter fun p=>decide (¬ eh net n G p)
noncomputable def yf (net:List (List Int)) (n:Nat):List (List Int):=nB net n (·∈dw net.length)
noncomputable def aH (net:List (List Int)) (n:Nat):List (List Int):=nB net n (·∈yf net n)
open Classical in
theorem fP {net:List (List Int)} {n:Nat} {G:List Int->Prop} {p:List Int}:p∈nB net n G ↔ p∈aG net.length/\¬ eh net n G p :=by
 unfold nB
 rw [Fk,decide_eq_true_eq]
theorem Ai {net:List (List Int)} {n:Nat} {G:List Int->Prop} (h9:net.length<=9):(nB net n G).length<=36:=ln (IN _ _) (pairs_len h9)
theorem Oa {net:List (List Int)} {n:Nat} {G:List Int->Prop} (h9:net.length<=9):(nB net n G).Nodup:=(yZ h9).filter _
open Classical in
theorem yg {net:List (List Int)} {n:Nat} {G:List Int->Prop} {ks:List (List Int)} (h:∀p,p∈ks ↔ eh net n G p) :
  ((aG net.length).map eI).filter (fun d=>match d with | .tup es=>(match fY es with|some k => !(look (ks.map kP) (ks.map fun _=>Dv.bl true) k).isSome|none=>false)|_=>false)=(nB net n G).map eI :=by
 unfold nB
 rw [UF]
 congr 1
 refine Sk fun p _=>?_
 show (match fY (p.map Dv.int) with|some k => !(look (ks.map kP) (ks.map fun _=>Dv.bl true) k).isSome|none=>false)=_
 rw [fJ]
 dsimp only
 rw [lX]
 by_cases z:p∈ks
 ·rw [if_pos z]
  exact (decide_eq_false fun w=>w ((h p).mp z)).symm
 ·rw [if_neg z]
  exact (decide_eq_true (p:=¬ eh net n G p) fun w=>z ((h p).mpr w)).symm
theorem J8 (m:Nat):(dw m).Nodup :=by
 unfold dw
 exact List.pairwise_map.mpr (List.nodup_range.imp fun h e=>h (by have:=(sK e).1;omega))
def zNever:cQ:=fun ds M Q _=>∃net n,ds=[eN net]/\a9 net n/\Q (.lst ((yf net n).map eI)) M
theorem sL {f f1 f2 f3 f4:ag} {fd cR fd2 lV ve:l5} (D:Df K mg "never_called" dU ["net"] f fd)
  (gC:Df K mg "need_net" ke ["thing"] f1 cR) (nC:FnOk P w K mg base (fX P w) 7 f1 cR ["thing"] (aS P w K tb (Ir C_NoNet)))
  (bp:Df K mg "all_pairs" eW ["net"] f2 fd2) (dr:FnOk P w K mg base bg 1 f2 fd2 ["net"] (aS P w K tb sG))
  (bD:Df K mg "coming_pairs" fo ["net"] f3 lV) (jx:FnOk P w K mg base bg 2 f3 lV ["net"] (aS P w K tb tR))
  (bN:Df K mg "led_to_some" eB ["coming","goals"] f4 ve) (jV:FnOk P w K mg base bg 1 f4 ve ["coming","goals"] (aS P w K tb yc)) (bl:Bl mg) :
  FnOk P w K mg base (fX P w) 8 f fd ["net"] (aS P w K tb zNever) :=by
 refine vN D jb (fun ds M Q E hS=>by obtain ⟨net,n,e,_⟩:=hS;rw [e];rfl) fun A outer s E Γ ds Q' E' hP hw hK ht hE hr hS=>?_
 obtain ⟨net,n,e,O,q⟩:=hS
 refine ⟨_,(af (gv (aE nC (hr.mono (by decide)) rfl gC.mg gC.fn.kp gC.bd AZ hP hw hK ht hE (aa (qv 0) ae)))
  (af (sg (i:=1) jb.nd rfl rfl (N':=["place"]) (tn:=1) (idx:=[]) rfl (show ay ["net","ends","called"] (ai dU) _ ["place"] 1 [] from by decide +kernel) (bu rfl bl.range_ (aa (aq (dm (K:=K) rfl hK) rfl bl.len_ rf (aa (qv 0) ae)) ae)) (fun _ _ _ _ _=>(az (i:=0) (show mv [("place" : br)] from by decide +kernel) rfl (li rfl))) (fun _ _ _ _ _=>bz) (fun _ _ _ _ _=>(iU (aa (qv 0) (aa (qv 0) ae)))))
  (af (aJ (i:=2) jb.nd rfl (xy rfl) (aE jV (hr.mono (by decide)) rfl bN.mg bN.fn.kp bN.bd aZ hP hw hK ht XR.none (aa (aE jx (hr.mono (by decide)) rfl bD.mg bD.fn.kp bD.bd aZ hP hw hK ht XR.none (aa (qv 0) ae)) (aa (qv 1) ae))))
  (ao (aN (bh (N':=["pair","called"]) (tn:=1) (idx:=[2]) rfl (show ay ["net","ends","called"] (ai dU) _ ["pair","called"] 1 [2] from by decide +kernel) (cj (K:=K) rfl (aE dr (hr.mono (by decide)) rfl bp.mg bp.fn.kp bp.bd aZ hP hw hK ht XR.none (aa (qv 0) ae))) (fun _ _ _ _ _=>(az (i:=0) (show mv [("pair" : br),("called" : br)] from by decide +kernel) rfl (li rfl))) (fun _ _ _ _ _=>(iG (aQ (qH hr.units) (qv 0) (qv 1) (by rfl)))) (fun _ _ _ _ _=>(qv 0)))))))),?_⟩
 subst e
 have h9:=O.nine
 have big:(1000:Nat)<sizeLine :=by decide
 refine ⟨_,rfl,J5 net,fun _=>?_,fun h=>by rw [J4 O] at h;cases h⟩
 simp! only []
 refine ⟨by omega,by omega,by omega,?_⟩
 refine fk (fun d=>match d with | .int i=>eI [i,i]|d=>d) (fun τ M=>(∃x,τ=[x])/\M=Γ.M0) ⟨⟨_,rfl⟩,rfl⟩ (fun d hd τ M hJ R k=>?_) (fun τ M hJ=>?_)
 ·obtain ⟨⟨x,rfl⟩,rfl⟩:=hJ
  obtain ⟨i,hi⟩:=lc.mp hd
  obtain ⟨rfl,cZ⟩:=bR hi
  simp! only []
  have k:=k [some (.int (i:Nat))] Γ.M0 ⟨⟨_,rfl⟩,rfl⟩
  simp only [DD] at k
  exact ⟨by omega,k⟩
 ·obtain ⟨⟨x,rfl⟩,rfl⟩:=hJ
  have e:((cD 0 net.length).map fun d=>match d with | .int i=>eI [i,i]|d=>d)=(dw net.length).map eI :=by
   unfold cD dw
   rw [wv,wv]
   refine OK fun i _=>?_
   show eI [0+(i:Int),0+(i:Int)]=_
   rw [DD]
   rfl
  rw [e]
  have du:∀p∈dw net.length,p∈jG net.length:=fun p hp=>lf _ hp
  refine ⟨net,n,rfl,O,net,n,dw net.length,rfl,O,J8 _,du,fun ks Ob hl=>?_⟩
  refine ⟨net,n,rfl,O,?_⟩
  have pl:=pairs_len h9
  have ol:=Ai (n:=n) (G:=(·∈dw net.length)) h9
  simp! only []
  refine ⟨by omega,fI _ (fun d hd R hR=>?_) (by rw [yg Ob];exact .inl q)⟩
  obtain ⟨p,hp,rfl⟩:=i8.mp hd
  simp only [eI,fJ] at hR
  simp! only [BA,fJ]
  exact hR
def GY:cQ:=fun ds M Q _=>∃net n,ds=[eN net]/\a9 net n/\∀a,M a=none->Q (.ptr a) (aw M a (.lst ((aH net n).map eI)))
def qP:cQ:=fun ds M Q _=>∃net n,ds=[eN net]/\a9 net n/\Q (.lst ((aH net n).map eI)) M
def EC:cQ:=fun ds M Q _=>∃net n,ds=[eN net]/\a9 net n/\((∀a,M a=none->Q (.ptr a) (aw M a (.lst ((aH net n).map eI))))\/Q (.lst ((aH net n).map eI)) M)
theorem nE {S S':cQ} {cx:lz} {k:Nat} {f:ag} {fd:l5} {ps:List br} (G:FnOk P w K mg base cx k f fd ps (aS P w K tb S')) (h:∀ds M Q E,S ds M Q E->S' ds M Q E):FnOk P w K mg base cx k f fd ps (aS P w K tb S):=
 G.imp fun vs H Q E ⟨β,ds,M,Q',E',e1,e2,e3,e4,m,r,hS,q,qe⟩=>⟨β,ds,M,Q',E',e1,e2,e3,e4,m,r,h _ _ _ _ hS,q,qe⟩
theorem sM {f f2 f3 f4 f5:ag} {fd fd2 lV ve Aj:l5} (D:Df K mg "stable_pairs" dW ["net"] f fd)
  (bp:Df K mg "all_pairs" eW ["net"] f2 fd2) (dr:FnOk P w K mg base bg 1 f2 fd2 ["net"] (aS P w K tb sG))
  (bD:Df K mg "coming_pairs" fo ["net"] f3 lV) (jx:FnOk P w K mg base bg 2 f3 lV ["net"] (aS P w K tb tR))
  (bN:Df K mg "led_to_some" eB ["coming","goals"] f4 ve) (jV:FnOk P w K mg base bg 1 f4 ve ["coming","goals"] (aS P w K tb yc))
  (dX:Df K mg "never_called" dU ["net"] f5 Aj) (tT:FnOk P w K mg base (fX P w) 8 f5 Aj ["net"] (aS P w K tb zNever)) (bl:Bl mg) :
  FnOk P w K mg base (fX P w) 9 f fd ["net"] (aS P w K tb GY)/\FnOk P w K mg base (fX P w) 9 f fd ["net"] (aS P w K tb qP) :=by
 have big:(1000:Nat)<sizeLine :=by decide
 have main:FnOk P w K mg base (fX P w) 9 f fd ["net"] (aS P w K tb EC) :=by
  refine vN D jc (fun ds M Q E ⟨net,n,e,_⟩=>by rw [e];rfl) fun A outer s E Γ ds Q' E' hP hw hK ht hE hr ⟨net,n,e,O,q⟩=>⟨_,(af (aJ (i:=1) jc.nd rfl (li rfl) (aE tT (hr.mono (by decide)) rfl dX.mg dX.fn.kp dX.bd AZ hP hw hK ht hE (aa (qv 0) ae)))
  (af (aJ (i:=2) jc.nd rfl (xy rfl) (aE jV (hr.mono (by decide)) rfl bN.mg bN.fn.kp bN.bd aZ hP hw hK ht XR.none (aa (aE jx (hr.mono (by decide)) rfl bD.mg bD.fn.kp bD.bd aZ hP hw hK ht XR.none (aa (qv 0) ae)) (aa (qv 1) ae))))
  (ao (aN (iY (N':=["pair","shaken"]) (tn:=1) (idx:=[2]) rfl (show ay ["net","never","shaken"] (ai dW) _ ["pair","shaken"] 1 [2] from by decide +kernel) (cj (K:=K) rfl (aE dr (hr.mono (by decide)) rfl bp.mg bp.fn.kp bp.bd aZ hP hw hK ht XR.none (aa (qv 0) ae))) (fun _ _ _ _ _=>(az (i:=0) (show mv [("pair" : br),("shaken" : br)] from by decide +kernel) rfl (li rfl))) (fun _ _ _ _ _=>(iG (aQ (qH hr.units) (qv 0) (qv 1) (by rfl)))) (fun _ _ _ _ _=>(qv 0))))))),?_⟩
  subst e
  have h9:=O.nine
  simp! only []
  refine ⟨net,n,rfl,O,net,n,rfl,O,net,n,yf net n,rfl,O,Oa h9,fun p hp=>ss _ (fP.mp hp).1,fun ks Ob hl=>?_⟩
  refine ⟨net,n,rfl,O,?_⟩
  have pl:=pairs_len h9
  simp! only []
  refine ⟨by omega,fI _ (fun d hd R hR=>?_) (by rw [yg Ob];exact fun a ha=>q.elim (fun q=>.inl (q a ha)) fun q=>oP (.upd ha .refl) ha updM_same (fun d hd=>by obtain ⟨r,_,rfl⟩:=i8.mp hd;exact oO r) q)⟩
  obtain ⟨p,hp,rfl⟩:=i8.mp hd
  simp only [eI,fJ] at hR
  simp! only [BA,fJ]
  exact hR
 exact ⟨nE main fun ds M Q E ⟨net,n,e,O,q⟩=>⟨net,n,e,O,.inl q⟩,nE main fun ds M Q E ⟨net,n,e,O,q⟩=>⟨net,n,e,O,.inr q⟩⟩
end
section
variable {P:gc} {w:i0} {K:ba} {mg:br->Option ap} {base:ij} {tb:di}
theorem jW:aT ["_law_many","_law_found","_law_other"] ["_law_many"] (ai gj):=⟨rfl,rfl,rfl,by decide +kernel,rfl,by decide +kernel,by decide +kernel⟩
theorem vy:aT ["_law_net_here","_law_pair"] ["_law_net_here","_law_pair"] (ai fq):=⟨rfl,rfl,rfl,by decide +kernel,rfl,by decide +kernel,by decide +kernel⟩
theorem gZ:aT ["_law_net_here","_law_pair","_law_found","_law_at","_law_there"] ["_law_net_here","_law_pair"] (ai i9):=⟨rfl,rfl,rfl,by decide +kernel,rfl,by decide +kernel,by decide +kernel⟩
theorem j4:aT ["_law_net_here","_law_pair","_law_here"] ["_law_net_here","_law_pair"] (ai d8):=⟨rfl,rfl,rfl,by decide +kernel,rfl,by decide +kernel,by decide +kernel⟩
theorem jy:aT ["_law_net_here","_law_pairs_here","_law_callable_ones"] ["_law_net_here"] (ai eC):=⟨rfl,rfl,rfl,by decide +kernel,rfl,by decide +kernel,by decide +kernel⟩
def lx (m:Nat):List (List Int):=(hX m).flatMap fun j=>(hX j).map fun i:Nat=>[(i:Int),(j:Int)]
theorem BC {m:Nat} (h:m<=9):lP (lx m)=aG m/\(lx m).length<=36 :=by
 refine ⟨(xK ?_ ?_).symm,?_⟩
 all_goals
  have:m=0\/m=1\/m=2\/m=3\/m=4\/m=5\/m=6\/m=7\/m=8\/m=9 :=by omega
  rcases this with rfl|rfl|rfl|rfl|rfl|rfl|rfl|rfl|rfl|rfl <;> decide +kernel
def Ak:cQ:=fun ds M Q _=>∃m:Nat,ds=[.int (m:Nat)]/\m<=9/\Q (.lst ((aG m).map eI)) M
theorem yh {f:ag} {fd:l5} (D:Df K mg "_law_pairs" gj ["_law_many"] f fd) (bl:Bl mg):FnOk P w K mg base bg 1 f fd ["_law_many"] (aS P w K tb Ak) :=by
 refine d6 D jW (fun ds M Q E hS=>by obtain ⟨m,e,_⟩:=hS;rw [e];rfl) fun A outer s E Γ ds Q' E' hP hw hK ht hr hS=>?_
 obtain ⟨m,e,h9,q⟩:=hS
 refine ⟨_,(af (aJ (i:=1) jW.nd rfl (li rfl) (ki ae))
  (af (dR sw rfl (bu rfl bl.range_ (aa (qv 0) ae)) (fun j1 eP ew eK et=>by have hP:=hP.trans eP.symm;have hw:=hw.trans ew.symm;have hK:=hK.trans eK.symm;have ht:=ht.trans et.symm;exact ⟨(az (i:=2) jW.nd rfl (xy rfl)),(ao (gv (jF (K:=K) rfl wS PySem.F.slot_list_extend PySem.F.type_list_extend Gk (qv 1) (aa (bh (N':=["_law_one","_law_other"]) (tn:=1) (idx:=[2]) rfl (show ay ["_law_many","_law_found","_law_other"] (ai gj) _ ["_law_one","_law_other"] 1 [2] from by decide +kernel) (bu rfl bl.range_ (aa (qv 2) ae)) (fun _ _ _ _ _=>(az (i:=0) (show mv [("_law_one" : br),("_law_other" : br)] from by decide +kernel) rfl (li rfl))) (fun _ _ _ _ _=>bz) (fun _ _ _ _ _=>(iU (aa (qv 0) (aa (qv 1) ae))))) ae))))⟩))
  (ao (aN (aq (JV (K:=K) rfl) rfl bl.sorted_ uI (aa (qv 1) ae)))))),?_⟩
 subst e
 have big:(1000:Nat)<sizeLine :=by decide
 obtain ⟨hs,hlen⟩:=BC h9
 simp! only []
 refine ⟨by omega,fun a ha=>⟨by omega,by omega,?_⟩⟩
 refine bQ (fun j ρ M=>(∃x,ρ=[some (.int (m:Nat)),some (.ptr a),x])/\M=aw Γ.M0 a (.lst (((hX j).flatMap fun j=>(hX j).map fun i:Nat=>[(i:Int),(j:Int)]).map eI))/\j<=m) ⟨⟨_,rfl⟩,rfl,lw _⟩ (fun j d ρ M N hd hJ hN=>?_) (fun ρ M hJ=>?_)
 ·obtain ⟨⟨x,rfl⟩,rfl,hj⟩:=hJ
  obtain ⟨rfl,yi⟩:=bR hd
  simp! only []
  have Wi:j<m :=by omega
  refine ⟨by omega,by omega,by omega,fk (fun d=>match d with | .int i=>eI [i,(j:Int)]|d=>d) (fun τ M'=>(∃x,τ=[x,some (.int (j:Nat))])/\M'=aw Γ.M0 a (.lst (((hX j).flatMap fun j=>(hX j).map fun i:Nat=>[(i:Int),(j:Int)]).map eI))) ⟨⟨_,rfl⟩,rfl⟩ (fun d hd τ M' hI R hR=>?_) (fun τ M' hI=>?_)⟩
  ·obtain ⟨⟨x,rfl⟩,rfl⟩:=hI
   obtain ⟨i,hi⟩:=lc.mp hd
   obtain ⟨rfl,cZ⟩:=bR hi
   have k:=hR [some (.int (0+(i:Nat))),some (.int (j:Nat))] _ ⟨⟨_,rfl⟩,rfl⟩
   simp! only []
   simp only [DD] at k ⊢
   exact ⟨by omega,k⟩
  ·obtain ⟨⟨x,rfl⟩,rfl⟩:=hI
   have e:((cD 0 j).map fun d=>match d with | .int i=>eI [i,(j:Int)]|d=>d)=((hX j).map fun i:Nat=>[(i:Int),(j:Int)]).map eI :=by
    unfold cD
    rw [wv,wv]
    refine OK fun i _=>?_
    show eI [0+(i:Int),(j:Int)]=_
    rw [DD]
    rfl
   rw [e]
   simp only [updM_same]
   have pre:((hX (j+1)).flatMap fun j=>(hX j).map fun i:Nat=>[(i:Int),(j:Int)]) <+: lx m :=by
    unfold lx
    have ht:hX m=hX (j+1)++(hX (m - (j+1))).map (fun x=>j+1+x) :=by
     rw [<- List.range_add];congr 1;omega
    rw [ht,Lo]
    exact Wp _ _
   have es:((hX (j+1)).flatMap fun j=>(hX j).map fun i:Nat=>[(i:Int),(j:Int)])=((hX j).flatMap fun j=>(hX j).map fun i:Nat=>[(i:Int),(j:Int)])++(hX j).map fun i:Nat=>[(i:Int),(j:Int)] :=by
    rw [XZ,Lo]
    simp
   have hl:=pre.length_le
   rw [es,mf] at hl
   refine ⟨(fun t h=>nomatch h),by rw [cb,cb];omega,hN _ _ ⟨⟨_,rfl⟩,?_,by omega⟩⟩
   rw [updM_updM,es,mo]
 ·obtain ⟨⟨x,rfl⟩,rfl,hj⟩:=hJ
  rw [rangeD_len]
  simp! only []
  show (match (some ((lx m).map eI)).bind lQ with|some rs=>_|none=>False)
  rw [XF,u0]
  refine ⟨by show (lx m).length<64;omega,fun r hr=>?_,?_⟩
  ·obtain ⟨j,_,hr⟩:=XH.mp hr
   obtain ⟨i,_,rfl⟩:=i8.mp hr
   exact fun h=>nomatch h
  ·refine lL (.upd ha .refl) (.lst fun d hd=>?_) ?_
   ·obtain ⟨r,_,rfl⟩:=i8.mp hd
    exact oO r
   ·show Q' (.lst ((lP (lx m)).map eI)) _
    rw [hs]
    exact q
end
section
variable {P:gc} {w:i0} {K:ba} {mg:br->Option ap} {base:ij} {tb:di}
def tU:cQ:=fun ds M Q _=>∃net n p,ds=[eN net,eI p]/\a9 net n/\p∈aG net.length/\Q (.lst (((hX n).map (d9 net p)).map eI)) M
theorem ED (x y:Int):c7 x y=[min x y,max x y] :=by
 unfold c7
 by_cases h:x<y
 ·rw [if_pos h,show min x y=x by omega,show max x y=y by omega]
 ·rw [if_neg h,show min x y=y by omega,show max x y=x by omega]
theorem yj {f:ag} {fd:l5} (D:Df K mg "_law_goals" fq ["_law_net_here","_law_pair"] f fd) (bl:Bl mg):FnOk P w K mg base bg 1 f fd ["_law_net_here","_law_pair"] (aS P w K tb tU) :=by
 refine d6 D vy (fun ds M Q E hS=>by obtain ⟨net,n,p,e,_⟩:=hS;rw [e];rfl) fun A outer s E Γ ds Q' E' hP hw hK ht hr hS=>?_
 obtain ⟨net,n,p,e,O,hp,q⟩:=hS
 refine ⟨_,(ao (aN (bh (N':=["_law_one","_law_other"]) (tn:=2) (idx:=[]) rfl (show ay ["_law_net_here","_law_pair"] (ai fq) _ ["_law_one","_law_other"] 2 [] from by decide +kernel) (mL false false (K:=K) rfl rfl bl.zip_ (bq (ck (K:=K) rfl) (qv 0) (bq (ck (K:=K) rfl) (qv 1) aB (fun _ _=>rfl)) (fun _ _=>rfl)) (bq (ck (K:=K) rfl) (qv 0) (bq (ck (K:=K) rfl) (qv 1) aB (fun _ _=>rfl)) (fun _ _=>rfl))) (fun _ _ _ _ _=>(iW (n:=2) rfl (bT (az (i:=0) (show mv [("_law_one" : br),("_law_other" : br)] from by decide +kernel) rfl (li rfl)) (bT (az (i:=1) (show mv [("_law_one" : br),("_law_other" : br)] from by decide +kernel) rfl (li rfl)) gw)))) (fun _ _ _ _ _=>bz) (fun _ _ _ _ _=>(iU (aa (aq (oK rfl) rfl bl.min_ oi (aa (qv 0) (aa (qv 1) ae))) (aa (aq (se rfl) rfl bl.max_ rK (aa (qv 0) (aa (qv 1) ae))) ae))))))),?_⟩
 subst e
 have h9:=O.nine
 have EA:=O.wid
 have big:(1000:Nat)<sizeLine :=by decide
 obtain ⟨a,b,dC,hb,rfl⟩:=bS.mp hp
 obtain ⟨ea,la⟩:=km O (show a<net.length by omega)
 obtain ⟨eb,lb⟩:=km O hb
 have i1:cY [Dv.int (a:Nat),Dv.int (b:Nat)] 1=some (.int (b:Nat)):=rfl
 simp! only [i1,ea,eb]
 have el:(bX (Os Dv.int (net.getD a [])) (Os Dv.int (net.getD b []))).length=n :=by rw [pairsD_len,cb,cb,la,lb,GE]
 refine ⟨by omega,?_⟩
 refine fk (fun d=>match d with | .tup [.int x,.int y]=>eI (c7 x y)|d=>d) (fun τ M=>(∃x y,τ=[x,y])/\M=Γ.M0) ⟨⟨_,_,rfl⟩,rfl⟩ (fun d hd τ M hJ R k=>?_) (fun τ M hJ=>?_)
 ·obtain ⟨⟨x,y,rfl⟩,rfl⟩:=hJ
  obtain ⟨j,hj⟩:=lc.mp hd
  obtain ⟨x,y,rfl,hx,hy⟩:=iI hj
  rw [c8] at hx hy
  obtain ⟨gx,lR,rfl⟩:=kt.mp hx
  obtain ⟨gy,RK,rfl⟩:=kt.mp hy
  simp! only []
  have k:=k [some (.int gx),some (.int gy)] Γ.M0 ⟨⟨_,_,rfl⟩,rfl⟩
  have m1:min gx gy=if gy<gx then gy else gx :=by split <;> omega
  have m2:max gx gy=if gy > gx then gy else gx :=by split <;> omega
  simp only [ED,m1,m2] at k
  exact ⟨by decide,k⟩
 ·obtain ⟨⟨x,y,rfl⟩,rfl⟩:=hJ
  refine .inl ?_
  have e:((bX (Os Dv.int (net.getD a [])) (Os Dv.int (net.getD b []))).map fun d=>match d with | .tup [.int x,.int y]=>eI (c7 x y)|d=>d)=((hX n).map (d9 net [(a:Int),(b:Int)])).map eI :=by
   refine XD (by rw [cb,el];simp) fun j h1 h2=>?_
   simp only [cb,JJ] at h2
   have hj:j<(net.getD a []).length :=by omega
   have yi:j<(net.getD b []).length :=by omega
   simp only [XG,Pf]
   obtain ⟨x,y,e,hx,hy⟩:=iI (ac (show j<(bX (Os Dv.int (net.getD a [])) (Os Dv.int (net.getD b []))).length by omega))
   rw [e]
   rw [c8,ac hj] at hx
   rw [c8,ac yi] at hy
   cases hx;cases hy
   unfold d9
   simp only [W1,W2,tw]
   rw [bi (l:=net.getD a []),ac hj,bi (l:=net.getD b []),ac yi]
   rfl
  rw [e]
  exact q
inductive jk (net:List (List Int)) (n:Nat) (p:List Int):List Int->Prop where
 |base:jk net n p p
 |step {q:List Int} {k:Nat} (h:jk net n p q) (hk:k<n) (hp:d9 net q k∈aG net.length):jk net n p (d9 net q k)
theorem jk.mem {net:List (List Int)} {n:Nat} {p q:List Int} (hp:p∈aG net.length) (h:jk net n p q):q∈aG net.length :=by
 cases h with
 |base=>exact hp
 |step _ _ h=>exact h
theorem jk.trans {net:List (List Int)} {n:Nat} {p q r:List Int} (h:jk net n p q) (h2:jk net n q r):jk net n p r :=by
 induction h2 with
 |base=>exact h
 |step _ hk hp ih=>exact .step ih hk hp
theorem pN {net:List (List Int)} {n:Nat} {G:List Int->Prop} {p:List Int} (hp:p∈aG net.length):eh net n G p ↔ ∃q,jk net n p q/\(G q\/∃k,k<n/\G (d9 net q k)) :=by
 constructor
 ·intro h
  induction h with
  |base h=>exact ⟨_,.base,.inl h⟩
  | @step p k hp hk h ih=>
   by_cases hq:d9 net p k∈aG net.length
   ·obtain ⟨q,h1,h2⟩:=ih hq
    exact ⟨q,(jk.step .base hk hq).trans h1,h2⟩
   ·cases h with
    |base h=>exact ⟨p,.base,.inr ⟨k,hk,h⟩⟩
    |step h _ _=>exact absurd h hq
 ·rintro ⟨q,h1,h2⟩
  have hq:eh net n G q :=by
   rcases h2 with h|⟨k,hk,h⟩
   ·exact .base h
   ·exact .step (h1.mem hp) hk (.base h)
  clear h2
  induction h1 with
  |base=>exact hq
  |step h hk _ ih=>exact ih (.step (h.mem hp) hk hq)
theorem Al (ks:List (List Int)):hU (ks.map eI)=some (ks.map fun k=>Dt.tup (k.map Dt.int)):=tJ Be ks
theorem tV (x:List Int):∀ks:List (List Int),((ks.map fun k=>Dt.tup (k.map Dt.int)).any fun t=>cB t (.tup (x.map Dt.int)))=decide (x∈ks)
 | []=>rfl
 |k::ks=>by
          rw [nw,Xq,tV x ks]
          have:cB (.tup (k.map Dt.int)) (.tup (x.map Dt.int))=decide (k=x) :=by rw [cB,sh]
          rw [this]
          by_cases e:k=x
          ·subst e;simp
          ·have e':¬ x=k:=fun z=>e z.symm
           simp [e,e']
theorem J9 {neg:Bool} {M:Mh} {c:ag} {ks:List (List Int)} {g:List Int} {Q:ZK} (hc:M c=some (.lst (ks.map eI))) (q:Q (.bl (if neg then !decide (g∈ks) else decide (g∈ks))) M):oS neg (eI g) (.ptr c) M Q :=by
 unfold oS
 have e1:now M (eI g)=eI g:=rfl
 have e2:now M (.ptr c)=.lst (ks.map eI) :=by simp only [now,hc]
 rw [e1,e2,Be]
 simp only [Al,tV]
 refine ⟨fun t ht=>?_,q⟩
 obtain ⟨k,_,rfl⟩:=i8.mp ht
 rw [fW]
 have:=tK k
 omega
def BD:cQ:=fun ds M Q _=>∃(net:List (List Int)) (n:Nat) (p:List Int),ds=[eN net,eI p]/\a9 net n/\p∈aG net.length/\∀L:List (List Int),(∀q,q∈L ↔ jk net n p q)->L.length<=36->Q (.lst (L.map eI)) M
theorem tW {net:List (List Int)} {n:Nat} (O:a9 net n) {p:List Int} (hp:p∈aG net.length) {k:Nat} (hk:k<n):d9 net p k∈jG net.length :=by
 obtain ⟨a,b,dC,hb,rfl⟩:=bS.mp hp
 unfold d9
 simp only [W1,W2,tw]
 have at_:∀c:Nat,c<net.length->0<=(net.getD c []).getD k 0/\(net.getD c []).getD k 0<net.length:=fun c hc=>by
  have e:net.getD c []=net[c] :=by rw [bi,ac hc];rfl
  obtain ⟨h1,h2⟩:=O.row _ (r9 hc)
  rw [e,bi,ac (by omega)]
  exact h2 _ (r9 _)
 exact GW (at_ a (by omega)) (at_ b hb)
theorem BE {f f1:ag} {fd cR:l5} (D:Df K mg "_law_led" i9 ["_law_net_here","_law_pair"] f fd)
  (cf:Df K mg "_law_goals" fq ["_law_net_here","_law_pair"] f1 cR) (ly:FnOk P w K mg base bg 1 f1 cR ["_law_net_here","_law_pair"] (aS P w K tb tU)) (bl:Bl mg):FnOk P w K mg base bg 2 f fd ["_law_net_here","_law_pair"] (aS P w K tb BD) :=by
 refine d6 D gZ (fun ds M Q E hS=>by obtain ⟨net,n,p,e,_⟩:=hS;rw [e];rfl) fun A outer s E Γ ds Q' E' hP hw hK ht hr hS=>?_
 obtain ⟨net,n,p,e,O,hp,q⟩:=hS
 refine ⟨_,(af (aJ (i:=2) gZ.nd rfl (li rfl) (ki (aa (qv 1) ae)))
  (af (aJ (i:=3) gZ.nd rfl (li rfl) aB)
  (af (qC sw (aQ m8 (qv 3) (aq (dm (K:=K) rfl hK) rfl bl.len_ rf (aa (qv 2) ae)) (aR _))
   (af (dR sw rfl (cj (K:=K) rfl (aE ly (hr.mono (by decide)) rfl cf.mg cf.fn.kp cf.bd aZ hP hw hK ht XR.none (aa (qv 0) (aa (bq (ck (K:=K) rfl) (qv 2) (qv 3) (fun _ _=>rfl)) ae)))) (fun j1 eP ew eK et=>by have hP:=hP.trans eP.symm;have hw:=hw.trans ew.symm;have hK:=hK.trans eK.symm;have ht:=ht.trans et.symm;exact ⟨(az (i:=4) gZ.nd rfl (li rfl)),(ao (bW (QW.pt (DB (aQ m8 (bq (ck (K:=K) rfl) (qv 4) aB (fun _ _=>rfl)) (bq (ck (K:=K) rfl) (qv 4) aB (fun _ _=>rfl)) (aR _)) (zK (aQ (Gu hr.units) (qv 4) (qv 2) (by rfl)))))
   (ao (gv (jF (K:=K) rfl wS Ch Cn iq (qv 2) (aa (qv 4) ae))))
   qss_nil))⟩))
  (ao (aJ (i:=3) gZ.nd rfl (li rfl) (bF g9 (qv 3) aB)))))
  (ao (aN (qv 2)))))),?_⟩
 subst e
 have h9:=O.nine
 have EA:=O.wid
 have big:(1000:Nat)<sizeLine :=by decide
 have Oc:∀L:List (List Int),L.Nodup->(∀x∈L,jk net n p x)->L.length<=36:=fun L h1 h2=>ln (hZ _ _ h1 fun x hx=>(h2 x hx).mem hp) (pairs_len h9)
 simp! only []
 refine ⟨by omega,fun a ha=>?_⟩
 refine ⟨fun m ρ M=>∃(L:List (List Int)) (i:Nat),m=36 - i/\(∃x,ρ=[some (eN net),some (eI p),some (.ptr a),some (.int (i:Nat)),x])/\M=aw Γ.M0 a (.lst (L.map eI))/\L.Nodup/\p∈L/\i<=L.length/\(∀x∈L,jk net n p x)/\∀j x,L[j]?=some x->j<i->∀k,k<n->d9 net x k∈aG net.length->d9 net x k∈L,
  ⟨_,[p],0,rfl,⟨_,rfl⟩,rfl,by simp,by simp,lw _,fun x hx=>by rw [jp.mp hx];exact .base,fun j x _ h=>absurd h (TM _)⟩,?_⟩
 rintro m ρ M ⟨L,i,rfl,⟨x,rfl⟩,rfl,nd,RP,hi,vf,cE⟩
 have Vu:=Oc L nd vf
 simp! only [cb]
 refine fb (fun h1=>?_) (fun h1=>?_)
 ·have bb:i<L.length :=by have:=of_decide_eq_true h1;omega
  have eg:cY (L.map eI) (i:Int)=some (eI L[i]):=ez (by rw [c8,ac bb];rfl)
  have hg:L[i]∈L:=r9 bb
  have Od:=(vf _ hg).mem hp
  obtain ⟨g,RQ⟩:∃g,g=L[i]:=⟨_,rfl⟩
  rw [<- RQ] at eg hg Od
  simp only [eg]
  refine ⟨net,n,g,rfl,O,Od,?_⟩
  refine bQ (fun k ρ M=>∃L2:List (List Int),(∃x,ρ=[some (eN net),some (eI p),some (.ptr a),some (.int (i:Nat)),x])/\M=aw Γ.M0 a (.lst (L2.map eI))/\L2.Nodup/\L <+: L2/\(∀x∈L2,jk net n p x)/\∀k',k'<k->d9 net g k'∈aG net.length->d9 net g k'∈L2) ⟨L,⟨_,rfl⟩,rfl,nd,X0,vf,fun k h=>absurd h (TM _)⟩ (fun k d ρ M N hd hJ hN=>?_) (fun ρ M hJ=>?_)
  ·obtain ⟨L2,⟨x,rfl⟩,rfl,sJ,pre,uC,Ea⟩:=hJ
   obtain ⟨r,hr,rfl⟩:=iZ hd
   rw [c8] at hr
   obtain ⟨k',jL,rfl⟩:=kt.mp hr
   have Oe:k<n :=by have:=(bn.mp jL).1;simpa using this
   rw [AC Oe] at jL
   cases jL
   obtain ⟨u,v,EE,hv,er⟩:=nA.mp (tW O Od Oe)
   have Of:d9 net g k∈aG net.length->jk net n p (d9 net g k):=fun h=>.step (vf _ hg) Oe h
   have VR:=Oc L2 sJ uC
   have fin:∀L3:List (List Int),L2 <+: L3->(d9 net g k∈aG net.length->d9 net g k∈L3)->∀k',k'<k+1->d9 net g k'∈aG net.length->d9 net g k'∈L3:=fun L3 h h2 k' jL hm=>by
    by_cases e:k'=k
    ·subst e;exact h2 hm
    ·exact h.subset (Ea k' (by omega) hm)
   obtain ⟨r,u6⟩:∃r,r=d9 net g k:=⟨_,rfl⟩
   rw [<- u6] at er Of fin ⊢
   have RT:r∈aG net.length ↔ u<v :=by
    rw [bS,er]
    constructor
    ·rintro ⟨a,b,h1,h2,e⟩
     have e1:=(sK e).1
     have e2:=(sK (sK e).2).1
     omega
    ·exact fun h=>⟨u,v,h,hv,rfl⟩
   subst er
   have i1:cY [Dv.int (u:Nat),Dv.int (v:Nat)] 1=some (.int (v:Nat)):=rfl
   simp! only [i1]
   refine fb (fun h=>?_) (fun h=>?_)
   ·have GZ:u<v :=by have:=of_decide_eq_true h;omega
    have hm:=RT.mpr GZ
    refine J9 (g:=[(u:Int),(v:Int)]) updM_same ?_
    simp! only []
    by_cases jM:[(u:Int),(v:Int)]∈L2
    ·rw [decide_eq_true jM,if_neg (by decide)]
     exact hN _ _ ⟨L2,⟨_,rfl⟩,rfl,sJ,pre,uC,fin L2 X0 fun _=>jM⟩
    ·rw [decide_eq_false jM,if_pos (by decide)]
     refine ⟨by omega,hN _ _ ⟨L2++[[(u:Int),(v:Int)]],⟨_,rfl⟩,by rw [mo];rfl,?_,pre.trans (Wp _ _),fun x hx=>?_,fin _ (Wp _ _) fun _=>by simp⟩⟩
     ·rw [KB]
      exact ⟨sJ,by simp,fun x hx y hy e=>jM (by rw [jp.mp hy] at e;rw [<- e];exact hx)⟩
     ·rcases l6.mp hx with z|z
      ·exact uC x z
      ·rw [jp.mp z];exact Of hm
   ·have GZ:¬ u<v :=by have:=of_decide_eq_false h;omega
    exact hN _ _ ⟨L2,⟨_,rfl⟩,rfl,sJ,pre,uC,fin L2 X0 fun h=>absurd (RT.mp h) GZ⟩
  ·obtain ⟨L2,⟨x,rfl⟩,rfl,sJ,pre,uC,Ea⟩:=hJ
   rw [cb,cb,JJ] at Ea
   simp! only []
   have eL:=pre.length_le
   refine ⟨36 - (i+1),by omega,L2,i+1,rfl,⟨_,rfl⟩,rfl,sJ,pre.subset RP,by omega,uC,fun j y hj Vv k hk hm=>?_⟩
   obtain ⟨t,ht⟩:=pre
   have Eu:L[j]?=some y :=by
    rw [<- ht,ze (by omega)] at hj
    exact hj
   by_cases e:j=i
   ·subst e
    rw [ac bb] at Eu
    cases Eu
    rw [<- RQ] at hm ⊢
    exact Ea k hk hm
   ·rw [<- ht]
    exact ss _ (cE j y Eu (by omega) k hk hm)
 ·have hle:i=L.length :=by have:=of_decide_eq_false h1;omega
  refine oP (.upd ha .refl) ha updM_same (fun d hd=>by obtain ⟨r,_,rfl⟩:=i8.mp hd;exact oO r) (q L (fun x=>⟨vf x,fun h=>?_⟩) Vu)
  induction h with
  |base=>exact RP
  | @step y k h hk hm ih=>
   obtain ⟨j,hj⟩:=lc.mp ih
   exact cE j y hj (by have:=(bn.mp hj).1;omega) k hk hm
end
section
variable {P:gc} {w:i0} {K:ba} {mg:br->Option ap} {base:ij} {tb:di}
theorem qQ {neg:Bool} {M:Mh} {ks:List (List Int)} {g:List Int} {Q:ZK} (q:Q (.bl (if neg then !decide (g∈ks) else decide (g∈ks))) M):oS neg (eI g) (.lst (ks.map eI)) M Q :=by
 unfold oS
 have e1:now M (eI g)=eI g:=rfl
 have e2:now M (.lst (ks.map eI))=.lst (ks.map eI):=rfl
 rw [e1,e2,Be]
 simp only [Al,tV]
 refine ⟨fun t ht=>?_,q⟩
 obtain ⟨k,_,rfl⟩:=i8.mp ht
 rw [fW]
 have:=tK k
 omega
theorem Ka {x y:Int} {M:Mh} {Q:ZK} (q:Q (.bl (decide (x=y))) M):mi false (.int x) (.int y) M Q :=by
 unfold mi
 have e1:∀z:Int,bL (now M (.int z))=some (.int z):=fun _=>rfl
 rw [e1,e1]
 refine ⟨by show (0:Nat)<=60;decide,?_⟩
 have e2:cB (Dt.int x) (Dt.int y)=decide (x=y):=rfl
 rw [e2]
 exact q
open Classical in
noncomputable def jd (net:List (List Int)) (n:Nat) (p:List Int):Bool:=decide (eh net n (·∈dw net.length) p)
open Classical in
theorem gp {net:List (List Int)} {n:Nat} {p:List Int}:jd net n p=true ↔ eh net n (·∈dw net.length) p :=by
 unfold jd
 exact ⟨of_decide_eq_true,fun h=>decide_eq_true h⟩
def yk:cQ:=fun ds M Q _=>∃net n p,ds=[eN net,eI p]/\a9 net n/\p∈aG net.length/\Q (.bl (jd net n p)) M
theorem yl {m u v:Nat} (h:v<m):[(u:Int),(v:Int)]∈dw m ↔ u=v :=by
 unfold dw
 rw [i8]
 constructor
 ·rintro ⟨i,_,e⟩
  have e1:=(sK e).1
  have e2:=(sK (sK e).2).1
  omega
 ·rintro rfl
  exact ⟨u,ul.mpr h,rfl⟩
theorem qR {f f1 f2:ag} {fd cR fd2:l5} (D:Df K mg "_law_is_called" d8 ["_law_net_here","_law_pair"] f fd)
  (cM:Df K mg "_law_led" i9 ["_law_net_here","_law_pair"] f1 cR) (nF:FnOk P w K mg base bg 2 f1 cR ["_law_net_here","_law_pair"] (aS P w K tb BD))
  (cf:Df K mg "_law_goals" fq ["_law_net_here","_law_pair"] f2 fd2) (ly:FnOk P w K mg base bg 1 f2 fd2 ["_law_net_here","_law_pair"] (aS P w K tb tU)) (bl:Bl mg) :
  FnOk P w K mg base bg 3 f fd ["_law_net_here","_law_pair"] (aS P w K tb yk) :=by
 refine d6 D j4 (fun ds M Q E hS=>by obtain ⟨net,n,p,e,_⟩:=hS;rw [e];rfl) fun A outer s E Γ ds Q' E' hP hw hK ht hr hS=>?_
 obtain ⟨net,n,p,e,O,hp,q⟩:=hS
 refine ⟨_,(af (dR sw rfl (cj (K:=K) rfl (aE nF (hr.mono (by decide)) rfl cM.mg cM.fn.kp cM.bd aZ hP hw hK ht XR.none (aa (qv 0) (aa (qv 1) ae)))) (fun j1 eP ew eK et=>by have hP:=hP.trans eP.symm;have hw:=hw.trans ew.symm;have hK:=hK.trans eK.symm;have ht:=ht.trans et.symm;exact ⟨(az (i:=2) j4.nd rfl (li rfl)),(ao (bW (dQ (aq (NV (K:=K) rfl rfl) rfl bl.any_ NW (aa (bh (N':=["_law_one","_law_other"]) (tn:=2) (idx:=[]) rfl (show ay ["_law_net_here","_law_pair","_law_here"] (ai d8) _ ["_law_one","_law_other"] 2 [] from by decide +kernel) (cj (K:=K) rfl (aE ly (hr.mono (by decide)) rfl cf.mg cf.fn.kp cf.bd aZ hP hw hK ht XR.none (aa (qv 0) (aa (qv 2) ae)))) (fun _ _ _ _ _=>(iW (n:=2) rfl (bT (az (i:=0) (show mv [("_law_one" : br),("_law_other" : br)] from by decide +kernel) rfl (li rfl)) (bT (az (i:=1) (show mv [("_law_one" : br),("_law_other" : br)] from by decide +kernel) rfl (li rfl)) gw)))) (fun _ _ _ _ _=>bz) (fun _ _ _ _ _=>(fj (sd hr.units) (qv 0) (qv 1) (aR _)))) ae)))
   (ao (aN fe))
   qss_nil))⟩))
  (ao (aN fe))),?_⟩
 subst e
 have h9:=O.nine
 have EA:=O.wid
 have big:(1000:Nat)<sizeLine :=by decide
 simp! only []
 refine ⟨net,n,p,rfl,O,hp,fun L hL hl=>?_⟩
 refine bQ (fun i ρ M=>(∃x,ρ=[some (eN net),some (eI p),x])/\M=Γ.M0/\∀j h,L[j]?=some h->j<i->∀k,k<n->d9 net h k ∉ dw net.length) ⟨⟨_,rfl⟩,rfl,fun j h _ z=>absurd z (TM _)⟩ (fun i d ρ M N hd hJ hN=>?_) (fun ρ M hJ=>?_)
 ·obtain ⟨⟨x,rfl⟩,rfl,xF⟩:=hJ
  obtain ⟨h,hh,rfl⟩:=iZ hd
  have vf:=(hL h).mp (ci hh)
  have Og:=vf.mem hp
  simp! only []
  refine ⟨net,n,h,rfl,O,Og,?_⟩
  simp! only [JJ]
  refine ⟨by omega,fk (fun d=>match d with | .tup [.int x,.int y]=>.bl (decide (x=y))|d=>d) (fun τ M=>(∃x y,τ=[x,y])/\M=Γ.M0) ⟨⟨_,_,rfl⟩,rfl⟩ (fun d hd τ M hJ R k=>?_) (fun τ M hJ=>?_)⟩
  ·obtain ⟨⟨x,y,rfl⟩,rfl⟩:=hJ
   obtain ⟨r,hr,rfl⟩:=i8.mp hd
   obtain ⟨k',jL,rfl⟩:=i8.mp hr
   obtain ⟨u,v,EE,hv,er⟩:=nA.mp (tW O Og (ul.mp jL))
   rw [er] at k ⊢
   simp! only []
   exact Ka (k _ _ ⟨⟨_,_,rfl⟩,rfl⟩)
  ·obtain ⟨⟨x,y,rfl⟩,rfl⟩:=hJ
   have e:(((hX n).map (d9 net h)).map eI).map (fun d=>match d with | .tup [.int x,.int y]=>Dv.bl (decide (x=y))|d=>d)=((hX n).map fun k=>decide (d9 net h k∈dw net.length)).map Dv.bl :=by
    rw [wv,wv,wv]
    refine OK fun k hk=>?_
    obtain ⟨u,v,EE,hv,er⟩:=nA.mp (tW O Og (ul.mp hk))
    simp only [Function.comp]
    rw [er]
    show Dv.bl (decide ((u:Int)=(v:Int)))=_
    congr 1
    rw [decide_eq_decide,yl hv]
    omega
   rw [e,kb]
   simp! only []
   refine fb (fun h1=>?_) (fun h1=>?_)
   ·rw [List.any_map,NH] at h1
    obtain ⟨k,hk,h1⟩:=h1
    have:jd net n p=true:=gp.mpr ((pN hp).mpr ⟨h,vf,.inr ⟨k,ul.mp hk,of_decide_eq_true h1⟩⟩)
    rw [this] at q
    exact .inl q
   ·refine hN _ _ ⟨⟨_,rfl⟩,rfl,fun j h' hj Vv k hk hm=>?_⟩
    by_cases e:j=i
    ·subst e
     rw [hh] at hj;cases hj
     rw [List.any_map,List.any_eq_false] at h1
     exact h1 k (ul.mpr hk) (decide_eq_true hm)
    ·exact xF j h' hj (by omega) k hk hm
 ·obtain ⟨⟨x,rfl⟩,rfl,xF⟩:=hJ
  rw [cb] at xF
  have:jd net n p=false :=by
   rw [Bool.eq_false_iff]
   intro z
   obtain ⟨h,h1,h2⟩:=(pN hp).mp (gp.mp z)
   obtain ⟨j,hj⟩:=lc.mp ((hL h).mpr h1)
   rcases h2 with h2|⟨k,hk,h2⟩
   ·obtain ⟨a,b,dC,hb,rfl⟩:=bS.mp (h1.mem hp)
    have:=(yl hb).mp h2
    omega
   ·exact xF j h hj (bn.mp hj).1 k hk h2
  rw [this] at q
  simp! only []
  exact .inl q
theorem sN {net:List (List Int)} {n:Nat} {p:List Int} (hp:p∈aG net.length):p∈aH net n ↔ ∀q,jk net n p q->jd net n q=true :=by
 unfold aH
 rw [fP]
 constructor
 ·rintro ⟨_,h⟩ q hq
  exact Classical.byContradiction fun z=>h ((pN hp).mpr ⟨q,hq,.inl (fP.mpr ⟨hq.mem hp,fun w=>z (gp.mpr w)⟩)⟩)
 ·intro h
  refine ⟨hp,fun z=>?_⟩
  obtain ⟨q,hq,h2⟩:=(pN hp).mp z
  rcases h2 with h2|⟨k,hk,h2⟩
  ·exact (fP.mp h2).2 (gp.mp (h q hq))
  ·exact (fP.mp h2).2 (gp.mp (h _ (hq.step hk (fP.mp h2).1)))
open Classical in
theorem y1 {net:List (List Int)} {n:Nat} {f:List Int->Bool} (h:∀p∈aG net.length,f p=true ↔ p∈aH net n):(aG net.length).filter f=aH net n :=by
 unfold aH nB
 refine Sk fun p hp=>?_
 rw [FF,h p hp,decide_eq_true_eq]
 unfold aH
 rw [fP]
 exact and_iff_right hp
def ym:cQ:=fun ds M Q _=>∃net n,ds=[eN net]/\a9 net n/\Q (.lst ((aH net n).map eI)) M
theorem vz {f f1 f2 f3:ag} {fd cR fd2 lV:l5} (D:Df K mg "_law_stable" eC ["_law_net_here"] f fd)
  (fx:Df K mg "_law_pairs" gj ["_law_many"] f1 cR) (yn:FnOk P w K mg base bg 1 f1 cR ["_law_many"] (aS P w K tb Ak))
  (cM:Df K mg "_law_led" i9 ["_law_net_here","_law_pair"] f2 fd2) (nF:FnOk P w K mg base bg 2 f2 fd2 ["_law_net_here","_law_pair"] (aS P w K tb BD))
  (de:Df K mg "_law_is_called" d8 ["_law_net_here","_law_pair"] f3 lV) (qS:FnOk P w K mg base bg 3 f3 lV ["_law_net_here","_law_pair"] (aS P w K tb yk)) (bl:Bl mg) :
  FnOk P w K mg base bg 4 f fd ["_law_net_here"] (aS P w K tb ym) :=by
 refine d6 D jy (fun ds M Q E hS=>by obtain ⟨net,n,e,_⟩:=hS;rw [e];rfl) fun A outer s E Γ ds Q' E' hP hw hK ht hr hS=>?_
 obtain ⟨net,n,e,O,q⟩:=hS
 refine ⟨_,(af (aJ (i:=1) jy.nd rfl (li rfl) (aE yn (hr.mono (by decide)) rfl fx.mg fx.fn.kp fx.bd aZ hP hw hK ht XR.none (aa (aq (dm (K:=K) rfl hK) rfl bl.len_ rf (aa (qv 0) ae)) ae)))
  (af (aJ (i:=2) jy.nd rfl (xy rfl) (bh (N':=["_law_pair","_law_net_here"]) (tn:=1) (idx:=[0]) rfl (show ay ["_law_net_here","_law_pairs_here","_law_callable_ones"] (ai eC) _ ["_law_pair","_law_net_here"] 1 [0] from by decide +kernel) (cj (K:=K) rfl (qv 1)) (fun _ _ _ _ _=>(az (i:=0) (show mv [("_law_pair" : br),("_law_net_here" : br)] from by decide +kernel) rfl (li rfl))) (fun _ _ _ _ _=>(iG (dQ (aE qS (hr.mono (by decide)) rfl de.mg de.fn.kp de.bd aZ hP hw hK ht XR.none (aa (qv 1) (aa (qv 0) ae)))))) (fun _ _ _ _ _=>(qv 0))))
  (ao (aN (bh (N':=["_law_pair","_law_callable_ones","_law_net_here"]) (tn:=1) (idx:=[2,0]) rfl (show ay ["_law_net_here","_law_pairs_here","_law_callable_ones"] (ai eC) _ ["_law_pair","_law_callable_ones","_law_net_here"] 1 [2,0] from by decide +kernel) (cj (K:=K) rfl (qv 1)) (fun _ _ _ _ _=>(az (i:=0) (show mv [("_law_pair" : br),("_law_callable_ones" : br),("_law_net_here" : br)] from by decide +kernel) rfl (li rfl))) (fun _ _ _ _ _=>(iG (dQ (aq (xB (K:=K) rfl rfl) rfl bl.all_ xa (aa (bh (N':=["_law_there","_law_callable_ones"]) (tn:=1) (idx:=[1]) rfl (ay.rel (show ay ["_law_pair","_law_callable_ones","_law_net_here"] _ _ ["_law_there","_law_callable_ones"] 1 [1] from by decide +kernel)) (cj (K:=K) rfl (aE nF (hr.mono (by decide)) rfl cM.mg cM.fn.kp cM.bd aZ hP hw hK ht XR.none (aa (qv 2) (aa (qv 0) ae)))) (fun _ _ _ _ _=>(az (i:=0) (show mv [("_law_there" : br),("_law_callable_ones" : br)] from by decide +kernel) rfl (li rfl))) (fun _ _ _ _ _=>bz) (fun _ _ _ _ _=>(fj (Bh hr.units) (qv 0) (qv 1) (by rfl)))) ae))))) (fun _ _ _ _ _=>(qv 0))))))),?_⟩
 subst e
 have h9:=O.nine
 have pl:=pairs_len h9
 have big:(1000:Nat)<sizeLine :=by decide
 simp! only []
 refine ⟨net.length,rfl,h9,?_⟩
 simp! only []
 refine ⟨by omega,fI (fun d=>match d with | .tup [.int x,.int y]=>jd net n [x,y]|_=>false) (fun d hd R hR=>?_) ?_⟩
 ·obtain ⟨p,hp,rfl⟩:=i8.mp hd
  obtain ⟨a,b,dC,hb,rfl⟩:=bS.mp hp
  exact ⟨net,n,_,rfl,O,hp,hR⟩
 ·have e:((aG net.length).map eI).filter (fun d=>match d with | .tup [.int x,.int y]=>jd net n [x,y]|_=>false)=((aG net.length).filter (jd net n)).map eI :=by
   rw [UF]
   congr 1
   refine Sk fun p hp=>?_
   obtain ⟨a,b,dC,hb,rfl⟩:=bS.mp hp
   rfl
  rw [e]
  obtain ⟨cs,zS⟩:∃cs,cs=(aG net.length).filter (jd net n):=⟨_,rfl⟩
  rw [<- zS]
  have RU:∀p,p∈cs ↔ p∈aG net.length/\jd net n p=true:=fun p=>by rw [zS,Fk]
  refine ⟨by omega,fI (fun d=>match d with | .tup [.int x,.int y]=>decide ([x,y]∈aH net n)|_=>false) (fun d hd R hR=>?_) ?_⟩
  ·obtain ⟨p,hp,rfl⟩:=i8.mp hd
   have qk:R (decide (p∈aH net n)) Γ.M0 :=by
    obtain ⟨a,b,dC,hb,rfl⟩:=bS.mp hp
    exact hR
   simp! only []
   refine ⟨net,n,p,rfl,O,hp,fun L hL hl=>?_⟩
   simp! only []
   refine ⟨by omega,fk (fun d=>match d with | .tup [.int x,.int y]=>.bl (decide ([x,y]∈cs))|d=>d) (fun τ M=>(∃x,τ=[x,some (.lst (cs.map eI))])/\M=Γ.M0) ⟨⟨_,rfl⟩,rfl⟩ (fun d hd τ M hJ R k=>?_) (fun τ M hJ=>?_)⟩
   ·obtain ⟨⟨x,rfl⟩,rfl⟩:=hJ
    obtain ⟨h,hh,rfl⟩:=i8.mp hd
    obtain ⟨a,b,dC,hb,rfl⟩:=bS.mp (((hL h).mp hh).mem hp)
    simp! only []
    exact qQ (g:=[(a:Int),(b:Int)]) (k _ _ ⟨⟨_,rfl⟩,rfl⟩)
   ·obtain ⟨⟨x,rfl⟩,rfl⟩:=hJ
    have e:(L.map eI).map (fun d=>match d with | .tup [.int x,.int y]=>Dv.bl (decide ([x,y]∈cs))|d=>d)=(L.map fun h=>decide (h∈cs)).map Dv.bl :=by
     rw [wv,wv]
     refine OK fun h hh=>?_
     obtain ⟨a,b,dC,hb,rfl⟩:=bS.mp (((hL h).mp hh).mem hp)
     rfl
    have e2:(L.map fun h=>decide (h∈cs)).all id=decide (p∈aH net n) :=by
     rw [FF,List.all_map,wb,decide_eq_true_eq,sN hp]
     constructor
     ·intro h q hq
      exact ((RU q).mp (of_decide_eq_true (h q ((hL q).mpr hq)))).2
     ·intro h q hq
      exact decide_eq_true ((RU q).mpr ⟨((hL q).mp hq).mem hp,h q ((hL q).mp hq)⟩)
    rw [e,kb]
    simp! only []
    rw [e2]
    exact qk
  ·have e:((aG net.length).map eI).filter (fun d=>match d with | .tup [.int x,.int y]=>decide ([x,y]∈aH net n)|_=>false)=(aH net n).map eI :=by
    rw [UF]
    congr 1
    have:∀p∈aG net.length,((fun d=>match d with | .tup [.int x,.int y]=>decide ([x,y]∈aH net n)|_=>false) ∘ eI) p=decide (p∈aH net n):=fun p hp=>by
     obtain ⟨a,b,dC,hb,rfl⟩:=bS.mp hp
     rfl
    exact y1 fun p hp=>by rw [this p hp,decide_eq_true_eq]
   rw [e]
   exact .inl q
end
section
variable {P:gc} {w:i0} {K:ba} {mg:br->Option ap} {base:ij} {tb:di}
theorem o7:aT ["_law_found","_law_due"] ["_law_found","_law_due"] (ai eX):=⟨rfl,rfl,rfl,by decide +kernel,rfl,by decide +kernel,by decide +kernel⟩
def vV:Nat->Dv->Prop
 |0,d=>∃i,d=.int i
 |n+1,d=>∃xs:List Dv,(d=.lst xs\/d=.tup xs)/\xs.length<=1000/\∀x∈xs,vV n x
def vW (n:Nat):cQ:=fun ds M Q _=>∃d,ds=[d,d]/\vV n d/\Q (.bl true) M
theorem sO {xs:List Dv} {d:Dv} (h:d∈bX xs xs):∃x∈xs,d=.tup [x,x] :=by
 obtain ⟨i,hi⟩:=lc.mp h
 obtain ⟨x,y,rfl,h1,h2⟩:=iI hi
 rw [h1] at h2
 cases h2
 exact ⟨x,ci h1,rfl⟩
theorem sP:∀n:Nat,boolsD (BY n (Dv.bl true))=some (BY n true)
 |n=>by
          have:=kb (BY n true)
          rwa [List.map_replicate] at this
theorem G0 {d:Dv} {t:Dt} {M:Mh} {Q:ZK} (h:bL (now M d)=some t) (hp:fW t<=60) (q:Q (.bl true) M):mi false d d M Q :=by
 unfold mi
 rw [h]
 refine ⟨hp,?_⟩
 rw [kQ]
 exact q
theorem EF {f:ag} {fd:l5} {k:Nat}:FnOk P w K mg base bg k f fd ["_law_found","_law_due"] (aS P w K tb fun _ _ _ _=>False):=
 have no:∀{vs H Q E},aS P w K tb (fun _ _ _ _=>False) vs H Q E->False:=fun h=>by obtain ⟨β,ds,M,Q',E',_,_,_,_,m,rs,s,_⟩:=h;exact s
 ⟨fun _ _ _ _ h=>(no h).elim,fun _ _ _ _ _ _ _ _ _ _ _ _ _ h=>(no h).elim⟩
theorem EG {f:ag} {fd:l5} (D:Df K mg "_law_like" eX ["_law_found","_law_due"] f fd) (bl:Bl mg):FnOk P w K mg base bg 1 f fd ["_law_found","_law_due"] (aS P w K tb (vW 0)) :=by
 have aW:=D
 have fQ:=EF (P:=P) (w:=w) (K:=K) (mg:=mg) (base:=base) (tb:=tb) (f:=f) (fd:=fd) (k:=0)
 refine d6 D o7 (fun ds M Q E hS=>by obtain ⟨d,e,_⟩:=hS;rw [e];rfl) fun A outer s E Γ ds Q' E' hP hw hK ht hr hS=>?_
 obtain ⟨d,e,h,q⟩:=hS
 refine ⟨_,(af (bW (QW.pt (jE (dQ (aq (bf (K:=K) rfl) rfl bl.isinstance_ aF (aa (qv 1) (aa (bw (v:=.ty "list") rfl bl.list_ jn rfl) ae)))) (gU (dQ (aq (bf (K:=K) rfl) rfl bl.isinstance_ aF (aa (qv 1) (aa (bw (v:=.ty "tuple") rfl bl.tuple_ eU rfl) ae)))))))
   (af (bW (QW.pt (jE (aQ xr (aq (bf (K:=K) rfl) rfl bl.isinstance_ aF (aa (qv 1) (aa (bw (v:=.ty "list") rfl bl.list_ jn rfl) ae))) (aq (bf (K:=K) rfl) rfl bl.isinstance_ aF (aa (qv 0) (aa (bw (v:=.ty "list") rfl bl.list_ jn rfl) ae))) (aR _)) (gU (aQ xr (aq (bf (K:=K) rfl) rfl bl.isinstance_ aF (aa (qv 1) (aa (bw (v:=.ty "tuple") rfl bl.tuple_ eU rfl) ae))) (aq (bf (K:=K) rfl) rfl bl.isinstance_ aF (aa (qv 0) (aa (bw (v:=.ty "tuple") rfl bl.tuple_ eU rfl) ae))) (aR _)))))
   (ao (aN fe))
   qss_nil)
  (ao (aN (gV (fj il (aq (dm (K:=K) rfl hK) rfl bl.len_ rf (aa (qv 0) ae)) (aq (dm (K:=K) rfl hK) rfl bl.len_ rf (aa (qv 1) ae)) (aR _)) (jQ (aq (xB (K:=K) rfl rfl) rfl bl.all_ xa (aa (bh (N':=["_law_one","_law_other"]) (tn:=2) (idx:=[]) rfl (show ay ["_law_found","_law_due"] (ai eX) _ ["_law_one","_law_other"] 2 [] from by decide +kernel) (Ib (mL true true (K:=K) rfl rfl bl.zip_ (qv 0) (qv 1)) (mL false false (K:=K) rfl rfl bl.zip_ (qv 0) (qv 1))) (fun _ _ _ _ _=>(iW (n:=2) rfl (bT (az (i:=0) (show mv [("_law_one" : br),("_law_other" : br)] from by decide +kernel) rfl (li rfl)) (bT (az (i:=1) (show mv [("_law_one" : br),("_law_other" : br)] from by decide +kernel) rfl (li rfl)) gw)))) (fun _ _ _ _ _=>bz) (fun _ _ _ _ _=>(aE fQ hr rfl aW.mg aW.fn.kp aW.bd aZ hP hw hK ht XR.none (aa (qv 0) (aa (qv 1) ae))))) ae)))))))
   qss_nil)
  (af (bW (dQ (aq (bf (K:=K) rfl) rfl bl.isinstance_ aF (aa (qv 1) (aa (bw (v:=.ty "str") rfl bl.str_ rJ rfl) ae))))
   (ao (aN (gV (aq (bf (K:=K) rfl) rfl bl.isinstance_ aF (aa (qv 0) (aa (bw (v:=.ty "str") rfl bl.str_ rJ rfl) ae))) (jQ (fj (sd hr.units) (qv 0) (qv 1) (aR _))))))
   qss_nil)
  (af (bW (aQ vM (qv 1) rV (aR _))
   (ao (aN (fj vM (qv 0) rV (aR _))))
   qss_nil)
  (ao (aN (gV (aq (bf (K:=K) rfl) rfl bl.isinstance_ aF (aa (qv 0) (aa (bw (v:=.ty "int") rfl bl.int_ rH rfl) ae))) (gV (xl (aq (bf (K:=K) rfl) rfl bl.isinstance_ aF (aa (qv 0) (aa (bw (v:=.ty "bool") rfl bl.bool_ tj rfl) ae)))) (jQ (fj (sd hr.units) (qv 0) (qv 1) (aR _)))))))))),?_⟩
 subst e
 obtain ⟨i,rfl⟩:=h
 simp! only []
 exact ⟨by decide,by decide,by decide,by decide,by decide,G0 rfl (Nat.le_of_ble_eq_true rfl) (.inl q)⟩
theorem vg {f:ag} {fd:l5} {n k:Nat} (D:Df K mg "_law_like" eX ["_law_found","_law_due"] f fd) (fQ:FnOk P w K mg base bg k f fd ["_law_found","_law_due"] (aS P w K tb (vW n))) (bl:Bl mg):FnOk P w K mg base bg (k+1) f fd ["_law_found","_law_due"] (aS P w K tb (vW (n+1))) :=by
 have aW:=D
 refine d6 D o7 (fun ds M Q E hS=>by obtain ⟨d,e,_⟩:=hS;rw [e];rfl) fun A outer s E Γ ds Q' E' hP hw hK ht hr hS=>?_
 obtain ⟨d,e,h,q⟩:=hS
 refine ⟨_,(af (bW (QW.pt (jE (dQ (aq (bf (K:=K) rfl) rfl bl.isinstance_ aF (aa (qv 1) (aa (bw (v:=.ty "list") rfl bl.list_ jn rfl) ae)))) (gU (dQ (aq (bf (K:=K) rfl) rfl bl.isinstance_ aF (aa (qv 1) (aa (bw (v:=.ty "tuple") rfl bl.tuple_ eU rfl) ae)))))))
   (af (bW (QW.pt (jE (aQ xr (aq (bf (K:=K) rfl) rfl bl.isinstance_ aF (aa (qv 1) (aa (bw (v:=.ty "list") rfl bl.list_ jn rfl) ae))) (aq (bf (K:=K) rfl) rfl bl.isinstance_ aF (aa (qv 0) (aa (bw (v:=.ty "list") rfl bl.list_ jn rfl) ae))) (aR _)) (gU (aQ xr (aq (bf (K:=K) rfl) rfl bl.isinstance_ aF (aa (qv 1) (aa (bw (v:=.ty "tuple") rfl bl.tuple_ eU rfl) ae))) (aq (bf (K:=K) rfl) rfl bl.isinstance_ aF (aa (qv 0) (aa (bw (v:=.ty "tuple") rfl bl.tuple_ eU rfl) ae))) (aR _)))))
   (ao (aN fe))
   qss_nil)
  (ao (aN (gV (fj il (aq (dm (K:=K) rfl hK) rfl bl.len_ rf (aa (qv 0) ae)) (aq (dm (K:=K) rfl hK) rfl bl.len_ rf (aa (qv 1) ae)) (aR _)) (jQ (aq (xB (K:=K) rfl rfl) rfl bl.all_ xa (aa (bh (N':=["_law_one","_law_other"]) (tn:=2) (idx:=[]) rfl (show ay ["_law_found","_law_due"] (ai eX) _ ["_law_one","_law_other"] 2 [] from by decide +kernel) (Ib (mL true true (K:=K) rfl rfl bl.zip_ (qv 0) (qv 1)) (mL false false (K:=K) rfl rfl bl.zip_ (qv 0) (qv 1))) (fun _ _ _ _ _=>(iW (n:=2) rfl (bT (az (i:=0) (show mv [("_law_one" : br),("_law_other" : br)] from by decide +kernel) rfl (li rfl)) (bT (az (i:=1) (show mv [("_law_one" : br),("_law_other" : br)] from by decide +kernel) rfl (li rfl)) gw)))) (fun _ _ _ _ _=>bz) (fun _ _ _ _ _=>(aE fQ hr rfl aW.mg aW.fn.kp aW.bd aZ hP hw hK ht XR.none (aa (qv 0) (aa (qv 1) ae))))) ae)))))))
   qss_nil)
  (af (bW (dQ (aq (bf (K:=K) rfl) rfl bl.isinstance_ aF (aa (qv 1) (aa (bw (v:=.ty "str") rfl bl.str_ rJ rfl) ae))))
   (ao (aN (gV (aq (bf (K:=K) rfl) rfl bl.isinstance_ aF (aa (qv 0) (aa (bw (v:=.ty "str") rfl bl.str_ rJ rfl) ae))) (jQ (fj (sd hr.units) (qv 0) (qv 1) (aR _))))))
   qss_nil)
  (af (bW (aQ vM (qv 1) rV (aR _))
   (ao (aN (fj vM (qv 0) rV (aR _))))
   qss_nil)
  (ao (aN (gV (aq (bf (K:=K) rfl) rfl bl.isinstance_ aF (aa (qv 0) (aa (bw (v:=.ty "int") rfl bl.int_ rH rfl) ae))) (gV (xl (aq (bf (K:=K) rfl) rfl bl.isinstance_ aF (aa (qv 0) (aa (bw (v:=.ty "bool") rfl bl.bool_ tj rfl) ae)))) (jQ (fj (sd hr.units) (qv 0) (qv 1) (aR _)))))))))),?_⟩
 subst e
 obtain ⟨xs,hd,hl,hx⟩:=h
 have big:(1000:Nat)<sizeLine :=by decide
 rcases hd with rfl|rfl
 ·simp! only []
  refine ⟨by decide,by decide,by decide,by decide,by decide,.inl ?_⟩
  simp! only []
  refine ⟨by omega,fk (fun _=>.bl true) (fun τ M=>(∃x y,τ=[x,y])/\M=Γ.M0) ⟨⟨_,_,rfl⟩,rfl⟩ (fun d hd τ M hI R hR=>?_) (fun τ M hI=>?_)⟩
  ·obtain ⟨⟨x,y,rfl⟩,rfl⟩:=hI
   obtain ⟨z,hz,rfl⟩:=sO hd
   simp! only []
   exact ⟨z,rfl,hx z hz,hR _ _ ⟨⟨_,_,rfl⟩,rfl⟩⟩
  ·obtain ⟨⟨x,y,rfl⟩,rfl⟩:=hI
   rw [List.map_const',sP]
   have:(BY (bX xs xs).length true).all id=true :=by simp
   show mj Γ.M0 Q' (.bl ((BY (bX xs xs).length true).all id)) Γ.M0
   rw [this]
   exact .inl q
 ·simp! only []
  refine ⟨by decide,by decide,by decide,by decide,by decide,by decide,.inr ?_⟩
  simp! only []
  refine ⟨by omega,fk (fun _=>.bl true) (fun τ M=>(∃x y,τ=[x,y])/\M=Γ.M0) ⟨⟨_,_,rfl⟩,rfl⟩ (fun d hd τ M hI R hR=>?_) (fun τ M hI=>?_)⟩
  ·obtain ⟨⟨x,y,rfl⟩,rfl⟩:=hI
   obtain ⟨z,hz,rfl⟩:=sO hd
   simp! only []
   exact ⟨z,rfl,hx z hz,hR _ _ ⟨⟨_,_,rfl⟩,rfl⟩⟩
  ·obtain ⟨⟨x,y,rfl⟩,rfl⟩:=hI
   rw [List.map_const',sP]
   have:(BY (bX xs xs).length true).all id=true :=by simp
   show mj Γ.M0 Q' (.bl ((BY (bX xs xs).length true).all id)) Γ.M0
   rw [this]
   exact .inl q
end
def BF (ns:List Int):List Int:=sortI (cG ns)
theorem G1 {ns:List Int} {k:Int}:k∈BF ns ↔ k∈ns:=(sortI_perm _).mem_iff.trans wM
theorem y2 (ns:List Int):(BF ns).Pairwise (· < ·) :=by
 have h1:=wV (cG ns)
 have h2:(BF ns).Nodup:=(sortI_perm _).nodup_iff.mpr (rP ns)
 exact (Xj.and h1 h2).imp fun ⟨a,b⟩=>by omega
theorem sQ:∀{a b:List Int},a.Pairwise (· < ·)->b.Pairwise (· < ·)->(∀k,k∈a ↔ k∈b)->a=b
 | [],[],_,_,_=>rfl
 | [],y::b,_,_,h=>by have:=(h y).mpr ff;cases this
 |x::a,[],_,_,h=>by have:=(h x).mp ff;cases this
 |x::a,y::b,ha,hb,h=>by
          obtain ⟨RV,Vw⟩:=Xh.mp ha
          obtain ⟨rN,zA⟩:=Xh.mp hb
          have RW:x=y :=by
           rcases io.mp ((h x).mp ff) with e|e
           ·exact e
           ·rcases io.mp ((h y).mpr ff) with e'|e'
            ·exact e'.symm
            ·have:=rN x e;have:=RV y e';omega
          subst RW
          congr 1
          refine sQ Vw zA fun k=>⟨fun hk=>?_,fun hk=>?_⟩
          ·rcases io.mp ((h k).mp (db _ hk)) with e|e
           ·have:=RV k hk;omega
           ·exact e
          ·rcases io.mp ((h k).mpr (db _ hk)) with e|e
           ·have:=rN k hk;omega
           ·exact e
section
def iL (net:List (List Int)) (p:Int) (k:Nat):Int:=(net.getD p.toNat []).getD k 0
def jz (net:List (List Int)):List Nat->Int->Int
 | [],p=>p
 |k::w,p=>jz net w (iL net p k)
def bM (net:List (List Int)) (p:Int):Prop:=0<=p/\p<(net.length:Int)
def lY (n:Nat) (w:List Nat):Prop:=∀k∈w,k<n
theorem lY.nil {n:Nat}:lY n []:=fun _ h=>nomatch h
theorem lY.cons {n k:Nat} {w:List Nat} (hk:k<n) (h:lY n w):lY n (k::w):=fun x hx=>by
 rcases io.mp hx with rfl|z
 ·exact hk
 ·exact h x z
theorem lY.app {n:Nat} {u v:List Nat} (hu:lY n u) (hv:lY n v):lY n (u++v):=fun x hx=>(l6.mp hx).elim (hu x) (hv x)
theorem jA {net:List (List Int)}:∀(u v:List Nat) (p:Int),jz net (u++v) p=jz net v (jz net u p)
 | [],_,_=>rfl
 |_::u,v,p=>jA u v _
theorem h8 {net:List (List Int)} {n:Nat} (O:a9 net n) {p:Int} (hp:bM net p) {k:Nat} (hk:k<n):bM net (iL net p k) :=by
 obtain ⟨h1,h2⟩:=hp
 have bb:p.toNat<net.length :=by omega
 have e:net.getD p.toNat []=net[p.toNat] :=by rw [bi,ac bb];rfl
 obtain ⟨r1,r2⟩:=O.row _ (r9 bb)
 unfold iL
 rw [e,bi,ac (by omega)]
 exact r2 _ (r9 _)
theorem yo {net:List (List Int)} {n:Nat} (O:a9 net n):∀{w:List Nat} {p:Int},lY n w->bM net p->bM net (jz net w p)
 | [],_,_,h=>h
 |k::w,_,hw,h=>yo O (w:=w) (fun x hx=>hw x (db _ hx)) (h8 O h (hw k ff))
theorem G2 (x y:Int):c7 x y=c7 y x :=by
 unfold c7
 by_cases h:x<y
 ·rw [if_pos h,if_neg (by omega)]
 ·by_cases h2:y<x
  ·rw [if_neg h,if_pos h2]
  ·have:x=y :=by omega
   subst this;rfl
theorem mM {net:List (List Int)} {a b:Int} {k:Nat}:d9 net (c7 a b) k=c7 (iL net a k) (iL net b k) :=by
 unfold c7 d9 iL
 by_cases h:a<b
 ·rw [if_pos h];rfl
 ·rw [if_neg h];exact G2 _ _
theorem o8 {net:List (List Int)} {a b:Int} (ha:bM net a) (hb:bM net b) (h:a≠b):c7 a b∈aG net.length :=by
 obtain ⟨u,rfl⟩:=sB ha.1
 obtain ⟨v,rfl⟩:=sB hb.1
 have h1:=ha.2
 have h2:=hb.2
 rw [bS]
 unfold c7
 by_cases c:(u:Int)<v
 ·rw [if_pos c];exact ⟨u,v,by omega,by omega,rfl⟩
 ·rw [if_neg c];exact ⟨v,u,by omega,by omega,rfl⟩
theorem qT {net:List (List Int)} {a b:Int} (ha:bM net a):c7 a b∈dw net.length ↔ a=b :=by
 constructor
 ·intro h
  unfold dw at h
  obtain ⟨i,_,e⟩:=i8.mp h
  unfold c7 at e
  split at e
  ·have e1:=(sK e).1
   have e2:=(sK (sK e).2).1
   omega
  ·have e1:=(sK e).1
   have e2:=(sK (sK e).2).1
   omega
 ·rintro rfl
  obtain ⟨u,rfl⟩:=sB ha.1
  have h1:=ha.2
  unfold dw c7
  rw [if_neg (by omega),i8]
  exact ⟨u,ul.mpr (by omega),rfl⟩
def Oh (net:List (List Int)) (n:Nat) (a b:Int):Prop:=∃w,lY n w/\jz net w a=jz net w b
def ej (net:List (List Int)) (n:Nat) (a b:Int):Prop:=∀w,lY n w->Oh net n (jz net w a) (jz net w b)
theorem Am {net:List (List Int)} {n:Nat} (O:a9 net n) {a b:Int} (ha:bM net a) (hb:bM net b):eh net n (·∈dw net.length) (c7 a b) ↔ Oh net n a b :=by
 constructor
 ·intro h
  generalize hp:c7 a b=p at h
  induction h generalizing a b with
  |base h=>subst hp;exact ⟨[],.nil,(qT ha).mp h⟩
  | @step p k _ hk _ ih=>
   subst hp
   obtain ⟨w,hw,e⟩:=ih (h8 O ha hk) (h8 O hb hk) mM.symm
   exact ⟨k::w,.cons hk hw,e⟩
 ·rintro ⟨w,hw,e⟩
  induction w generalizing a b with
  |nil=>exact .base ((qT ha).mpr e)
  |cons k w ih=>
   by_cases h:a=b
   ·exact .base ((qT ha).mpr h)
   ·have hk:=hw k ff
    refine .step (o8 ha hb h) hk ?_
    rw [mM]
    exact ih (h8 O ha hk) (h8 O hb hk) (fun x hx=>hw x (db _ hx)) e
theorem tX {net:List (List Int)} {n:Nat} (O:a9 net n) {a b:Int} (ha:bM net a) (hb:bM net b) (dC:a≠b):c7 a b∈aH net n ↔ ej net n a b :=by
 rw [sN (o8 ha hb dC)]
 constructor
 ·intro h w hw
  induction w generalizing a b with
  |nil=>exact (Am O ha hb).mp (gp.mp (h _ .base))
  |cons k w ih=>
   have hk:=hw k ff
   have Vx:lY n w:=fun x hx=>hw x (db _ hx)
   by_cases e:iL net a k=iL net b k
   ·refine ⟨[],.nil,?_⟩
    show jz net w (iL net a k)=jz net w (iL net b k)
    rw [e]
   ·have hm:=o8 (h8 O ha hk) (h8 O hb hk) e
    refine ih (h8 O ha hk) (h8 O hb hk) e (fun q hq=>h q ?_) Vx
    have s1:jk net n (c7 a b) (d9 net (c7 a b) k):=.step .base hk (by rw [mM];exact hm)
    rw [mM] at s1
    exact s1.trans hq
 ·intro h q hq
  have:∃w,lY n w/\q=c7 (jz net w a) (jz net w b) :=by
   induction hq with
   |base=>exact ⟨[],.nil,rfl⟩
   | @step q k _ hk _ ih=>
    obtain ⟨w,hw,rfl⟩:=ih
    refine ⟨w++[k],hw.app (.cons hk .nil),?_⟩
    rw [mM,jA,jA]
    rfl
  obtain ⟨w,hw,rfl⟩:=this
  exact gp.mpr ((Am O (yo O hw ha) (yo O hw hb)).mpr (h w hw))
theorem ej.refl {net:List (List Int)} {n:Nat} (a:Int):ej net n a a:=fun w _=>⟨[],.nil,rfl⟩
theorem ej.symm {net:List (List Int)} {n:Nat} {a b:Int} (h:ej net n a b):ej net n b a:=fun w hw=>let ⟨u,hu,e⟩:=h w hw;⟨u,hu,e.symm⟩
theorem ej.trans {net:List (List Int)} {n:Nat} {a b c:Int} (h:ej net n a b) (h2:ej net n b c):ej net n a c:=fun w hw=>by
 obtain ⟨u,hu,e⟩:=h w hw
 obtain ⟨v,hv,e2⟩:=h2 (w++u) (hw.app hu)
 rw [jA,jA] at e2
 refine ⟨u++v,hu.app hv,?_⟩
 rw [jA,jA,e,e2]
theorem ej.go {net:List (List Int)} {n:Nat} {a b:Int} (h:ej net n a b) {k:Nat} (hk:k<n):ej net n (iL net a k) (iL net b k):=fun w hw=>h (k::w) (.cons hk hw)
def gD (net:List (List Int)) (n:Nat) (a b:Int):Prop:=b=a\/c7 a b∈aH net n
theorem same_iff {net:List (List Int)} {n:Nat} (O:a9 net n) {a b:Int} (ha:bM net a) (hb:bM net b):gD net n a b ↔ ej net n a b :=by
 unfold gD
 by_cases h:a=b
 ·subst h;exact ⟨fun _=>.refl _,fun _=>.inl rfl⟩
 ·rw [tX O ha hb h]
  exact ⟨fun z=>z.resolve_left fun e=>h e.symm,.inr⟩
noncomputable instance (net:List (List Int)) (n:Nat) (a b:Int):Decidable (gD net n a b) :=by unfold gD;infer_instance
def dG (m:Nat):List Int:=(hX m).map fun i:Nat=>(i:Int)
theorem pO {m:Nat} {p:Int}:p∈dG m ↔ 0<=p/\p<(m:Int) :=by
 unfold dG
 rw [i8]
 constructor
 ·rintro ⟨i,hi,rfl⟩
  have:=ul.mp hi
  omega
 ·rintro ⟨h1,h2⟩
  exact ⟨p.toNat,ul.mpr (by omega),by omega⟩
noncomputable def bA (net:List (List Int)) (n:Nat) (a:Int):List Int:=(dG net.length).filter fun b=>decide (gD net n a b)
theorem eF {net:List (List Int)} {n:Nat} {a b:Int}:b∈bA net n a ↔ bM net b/\gD net n a b :=by
 unfold bA
 rw [Fk,pO,decide_eq_true_eq]
 rfl
theorem G3 {net:List (List Int)} {n:Nat} {a:Int} (ha:bM net a):a∈bA net n a:=eF.mpr ⟨ha,.inl rfl⟩
theorem nG (m:Nat):(dG m).Pairwise (· < ·) :=by
 unfold dG
 rw [List.pairwise_map]
 exact WD.imp fun h=>by omega
theorem BG (net:List (List Int)) (n:Nat) (a:Int):(bA net n a).Pairwise (· < ·):=(nG _).filter _
theorem pP {net:List (List Int)} {n:Nat} {a:Int}:(bA net n a).length<=net.length:=ln (IN _ _) (by simp [dG])
noncomputable def cX (net:List (List Int)) (n:Nat) (a:Int):Int:=(bA net n a).headD a
theorem cls_cons {net:List (List Int)} {n:Nat} {a:Int} (ha:bM net a):∃t,bA net n a=cX net n a::t :=by
 unfold cX
 cases h:bA net n a with
 |nil=>have:=G3 (n:=n) ha;rw [h] at this;cases this
 |cons b t=>exact ⟨t,rfl⟩
theorem head_mem {net:List (List Int)} {n:Nat} {a:Int} (ha:bM net a):cX net n a∈bA net n a :=by
 obtain ⟨t,h⟩:=cls_cons (n:=n) ha
 rw [h];exact ff
theorem Kb {net:List (List Int)} {n:Nat} {a b:Int} (ha:bM net a) (hb:b∈bA net n a):cX net n a<=b :=by
 obtain ⟨t,h⟩:=cls_cons (n:=n) ha
 have hs:=BG net n a
 rw [h] at hs hb
 rcases io.mp hb with rfl|z
 ·exact GG _
 ·exact Int.le_of_lt ((Xh.mp hs).1 b z)
theorem Oi {net:List (List Int)} {n:Nat} (O:a9 net n) {a b:Int} (ha:bM net a) (hb:bM net b) (h:ej net n a b):bA net n a=bA net n b :=by
 unfold bA
 refine Sk fun c hc=>?_
 have v8:bM net c:=pO.mp hc
 rw [decide_eq_decide,same_iff O ha v8,same_iff O hb v8]
 exact ⟨fun z=>h.symm.trans z,fun z=>h.trans z⟩
noncomputable def bY (net:List (List Int)) (n:Nat):List Int:=(dG net.length).filter fun a=>decide (a=cX net n a)
noncomputable def aX (net:List (List Int)) (n:Nat):List (List Int):=(bY net n).map (bA net n)
end
section
variable {P:gc} {w:i0} {K:ba} {mg:br->Option ap} {base:ij} {tb:di} {C_NoNet:ag}
theorem je:aT ["net","pairs","told","place","group"] ["net"] (ai jS):=⟨rfl,rfl,rfl,by decide +kernel,rfl,by decide +kernel,by decide +kernel⟩
theorem eQ:aT ["_law_net_here","_law_stable_here","_law_found","_law_place","_law_part"] ["_law_net_here"] (ai ft):=⟨rfl,rfl,rfl,by decide +kernel,rfl,by decide +kernel,by decide +kernel⟩
theorem qm {M0 M:Mh} (h:Keeps M0 M) {a:ag} (ha:M a=none):M0 a=none :=by
 cases e:M0 a with
 |none=>rfl
 |some u=>rw [h a u e] at ha;cases ha
structure ia (M0 M:Mh) (a:ag) (bs:List ag) (rs:List (List Int)):Prop where
 a0:M0 a=none
 am:M a=some (.lst (bs.map .ptr))
 len:bs.length=rs.length
 bm:∀(j:Nat) (b:ag) (r:List Int),bs[j]?=some b->rs[j]?=some r->M b=some (.lst (r.map .int))
 b0:∀b∈bs,M0 b=none/\b≠a
 kp:Keeps M0 M
 oth:∀c o,M c=some o->M0 c=some o\/c=a\/∃r:List Int,o=.lst (r.map .int)
theorem ia.junk {M0 M:Mh} {a c:ag} {bs:List ag} {rs:List (List Int)} {r:List Int} (h:ia M0 M a bs rs) (hc:M c=none):ia M0 (aw M c (.lst (r.map .int))) a bs rs :=by
 have vc:a≠c:=fun e=>by have:=h.am;rw [e,hc] at this;cases this
 have c0:=qm h.kp hc
 refine ⟨h.a0,by rw [ah vc];exact h.am,h.len,fun j b s hb hs=>?_,h.b0,.upd c0 h.kp,fun d o e=>?_⟩
 ·have:=h.bm j b s hb hs
  rw [ah (fun e=>by rw [e,hc] at this;cases this)]
  exact this
 ·by_cases z:d=c
  ·subst z;rw [updM_same] at e;cases e;exact .inr (.inr ⟨r,rfl⟩)
  ·rw [ah z] at e;exact h.oth d o e
theorem ia.snoc {M0 M:Mh} {a c:ag} {bs:List ag} {rs:List (List Int)} {r:List Int} (h:ia M0 M a bs rs) (hc:M c=none):ia M0 (aw (aw M c (.lst (r.map .int))) a (.lst (bs.map .ptr++[.ptr c]))) a (bs++[c]) (rs++[r]) :=by
 have vc:a≠c:=fun e=>by have:=h.am;rw [e,hc] at this;cases this
 have c0:=qm h.kp hc
 have hj:=h.junk (r:=r) hc
 refine ⟨h.a0,by rw [updM_same,mo];rfl,by simp [h.len],fun j b s hb hs=>?_,fun b hb=>?_,.upd h.a0 hj.kp,fun d o e=>?_⟩
 ·by_cases hi:j<bs.length
  ·rw [ze hi] at hb
   rw [ze (by rw [<- h.len];exact hi)] at hs
   rw [ah (h.b0 b (ci hb)).2]
   exact hj.bm j b s hb hs
  ·have i5:=(bn.mp hb).1
   rw [mf,Cc] at i5
   have e:j=bs.length :=by omega
   subst e
   rw [AN (ce _),Wo] at hb
   rw [h.len,AN (ce _),Wo] at hs
   cases hb;cases hs
   rw [ah (wE vc),updM_same]
 ·rcases l6.mp hb with z|z
  ·exact h.b0 b z
  ·rw [jp.mp z];exact ⟨c0,wE vc⟩
 ·by_cases z:d=a
  ·exact .inr (.inl z)
  ·rw [ah z] at e;exact hj.oth d o e
noncomputable def fR (net:List (List Int)) (n i:Nat):List Int:=((dG net.length).take i).filter fun a=>decide (a=cX net n a)
theorem jf {net:List (List Int)} {n i:Nat} (hi:i<net.length):fR net n (i+1)=if (i:Int)=cX net n i then fR net n i++[(i:Int)] else fR net n i :=by
 have e:(dG net.length).take (i+1)=(dG net.length).take i++[(i:Int)] :=by
  have:(dG net.length)[i]?=some (i:Int) :=by unfold dG;rw [c8,AC hi];rfl
  rw [Lu,this];rfl
 unfold fR
 rw [e,List.filter_append]
 by_cases h:(i:Int)=cX net n i
 ·rw [if_pos h,On,if_pos (decide_eq_true h)];rfl
 ·rw [if_neg h,On,if_neg (by simpa using h)];simp
theorem qo {net:List (List Int)} {n:Nat}:fR net n net.length=bY net n :=by
 unfold fR bY
 rw [PP (by simp [dG])]
theorem lZ {net:List (List Int)} {n:Nat}:(bY net n).length<=net.length:=ln (IN _ _) (by simp [dG])
theorem qp {net:List (List Int)} {n i:Nat}:(fR net n i).length<=net.length:=ln (IN _ _) (ln (Tl ..) (by simp [dG]))
theorem nH {net:List (List Int)} {n:Nat} (O:a9 net n):(aH net n).length<=36:=Ai O.nine
theorem o9 (m:Nat):cD 0 m=(dG m).map Dv.int :=by
 unfold cD dG
 rw [wv]
 exact OK fun i _=>by show Dv.int (0+(i:Int))=_;rw [DD];rfl
theorem yp {net:List (List Int)} {n:Nat} {a:Int}:((dG net.length).map Dv.int).filter (fun d=>match d with | .int b=>decide (gD net n a b)|_=>false)=(bA net n a).map Dv.int :=by
 rw [UF]
 rfl
theorem vX {net:List (List Int)} {i:Nat} (h:i<net.length):bM net (i:Int):=⟨by omega,by omega⟩
def BH:cQ:=fun ds M Q _=>∃net n,ds=[eN net]/\a9 net n/\((∀a bs M',ia M M' a bs (aX net n)->Q (.ptr a) M')\/Q (.lst ((aX net n).map b8)) M)
theorem BI {f f1 f2:ag} {fd cR fd2:l5} (D:Df K mg "classes" jS ["net"] f fd)
  (bE:Df K mg "stable_pairs" dW ["net"] f1 cR) (jB:FnOk P w K mg base (fX P w) 9 f1 cR ["net"] (aS P w K tb qP))
  (cL:Df K mg "in_order" i7 ["one","other"] f2 fd2) (gB:FnOk P w K mg base bg 1 f2 fd2 ["one","other"] (aS P w K tb GU)) (bl:Bl mg) :
  FnOk P w K mg base (fX P w) 10 f fd ["net"] (aS P w K tb BH) :=by
 refine vN D je (fun ds M Q E hS=>by obtain ⟨net,n,e,_⟩:=hS;rw [e];rfl) fun A outer s E Γ ds Q' E' hP hw hK ht hE hr hS=>?_
 obtain ⟨net,n,e,O,q⟩:=hS
 refine ⟨_,(af (aJ (i:=1) je.nd rfl (xy rfl) (aE jB (hr.mono (by decide)) rfl bE.mg bE.fn.kp bE.bd AZ hP hw hK ht hE (aa (qv 0) ae)))
  (af (aJ (i:=2) je.nd rfl (li rfl) (ki ae))
  (af (PS.ud (dR sw rfl (bu rfl bl.range_ (aa (aq (dm (K:=K) rfl hK) rfl bl.len_ rf (aa (qv 0) ae)) ae)) (fun j1 eP ew eK et=>by have hP:=hP.trans eP.symm;have hw:=hw.trans ew.symm;have hK:=hK.trans eK.symm;have ht:=ht.trans et.symm;exact ⟨(az (i:=3) je.nd rfl (xy rfl)),(af (qd (i:=4) je.nd rfl rfl (N':=["other","place","pairs"]) (tn:=1) (idx:=[3,1]) rfl (show ay ["net","pairs","told","place","group"] (ai jS) _ ["other","place","pairs"] 1 [3,1] from by decide +kernel) (bu rfl bl.range_ (aa (aq (dm (K:=K) rfl hK) rfl bl.len_ rf (aa (qv 0) ae)) ae)) (fun _ _ _ _ _=>(az (i:=0) (show mv [("other" : br),("place" : br),("pairs" : br)] from by decide +kernel) rfl (li rfl))) (fun _ _ _ _ _=>(iG (QW.pt (jE (aQ il (qv 0) (qv 1) (aR _)) (gU (aQ (Bh hr.units) (aE gB (hr.mono (by decide)) rfl cL.mg cL.fn.kp cL.bd aZ hP hw hK ht XR.none (aa (qv 1) (aa (qv 0) ae))) (qv 2) (by rfl))))))) (fun _ _ _ _ _=>(qv 0)))
  (ao (bW (aQ il (qv 3) (bq (ck (K:=K) rfl) (qv 4) aB (fun _ _=>rfl)) (aR _))
   (ao (gv (jF (K:=K) rfl wS Ch Cn iq (qv 2) (aa (qv 4) ae))))
   qss_nil)))⟩)))
  (ao (aN (qv 2)))))),?_⟩
 subst e
 have h9:=O.nine
 have big:(1000:Nat)<sizeLine :=by decide
 simp! only []
 refine ⟨net,n,rfl,O,?_⟩
 simp! only []
 refine ⟨lw _,fun a ha=>?_⟩
 refine ⟨by omega,by omega,?_⟩
 have RX:=nH O
 refine bQ (fun i ρ M=>∃bs,(∃x3 x4,ρ=[some (eN net),some (.lst ((aH net n).map eI)),some (.ptr a),x3,x4])/\ia Γ.M0 M a bs ((fR net n i).map (bA net n))/\i<=net.length) ⟨[],⟨_,_,rfl⟩,⟨ha,updM_same,rfl,(fun j b r h=>nomatch h),(fun b h=>nomatch h),.upd ha .refl,fun c o e=>?_⟩,lw _⟩ (fun i d ρ M N hd hJ hN=>?_) (fun ρ M hJ=>?_)
 ·by_cases z:c=a
  ·exact .inr (.inl z)
  ·rw [ah z] at e;exact .inl e
 ·obtain ⟨bs,⟨x3,x4,rfl⟩,l0,hi⟩:=hJ
  obtain ⟨rfl,cZ⟩:=bR hd
  have hp:=vX (net:=net) cZ
  obtain ⟨t,ht⟩:=cls_cons (n:=n) hp
  simp! only []
  refine ⟨by omega,by omega,by omega,fI (fun d=>match d with | .int b=>decide (gD net n i b)|_=>false) (fun d hd R hR=>?_) ?_⟩
  ·obtain ⟨j,hj⟩:=lc.mp hd
   obtain ⟨rfl,yi⟩:=bR hj
   simp! only [DD] at hR ⊢
   refine fb (fun h=>?_) (fun h=>?_)
   ·rw [show decide (gD net n i j)=true from decide_eq_true (.inl (of_decide_eq_true h))] at hR
    exact hR
   ·refine ⟨_,_,rfl,qQ ?_⟩
    have e:gD net n i j ↔ c7 (i:Int) (j:Int)∈aH net n:=⟨fun z=>z.resolve_left (of_decide_eq_false h),.inr⟩
    rw [decide_eq_decide.mpr e] at hR
    exact hR
  ·rw [o9,yp]
   intro c hc
   have Oj:bs.length<=9 :=by rw [l0.len,cb];exact ln qp h9
   have vc:a≠c:=fun e=>by have:=l0.am;rw [e,hc] at this;cases this
   have h0:cY ((bA net n (i:Int)).map Dv.int) 0=some (.int (cX net n i)) :=by rw [ht];exact atI_zero
   simp! only [h0,ah vc,l0.am]
   refine fb (fun h=>?_) (fun h=>?_)
   ·have h:=of_decide_eq_true h
    refine ⟨by omega,hN _ _ ⟨bs++[c],⟨_,_,rfl⟩,?_,cZ⟩⟩
    rw [jf cZ,if_pos h,mo]
    exact l0.snoc hc
   ·have h:=of_decide_eq_false h
    refine hN _ _ ⟨bs,⟨_,_,rfl⟩,?_,cZ⟩
    rw [jf cZ,if_neg h]
    exact l0.junk hc
 ·obtain ⟨bs,⟨x3,x4,rfl⟩,l0,hi⟩:=hJ
  rw [rangeD_len,qo] at l0
  simp! only []
  rcases q with q|q
  ·exact .inl (q a bs M l0)
  ·refine .inr ⟨l0.kp,_,.ptr (ds':=(aX net n).map b8) l0.a0 l0.am (by rw [cb,cb];exact l0.len) fun j d d' e1 e2=>?_,q⟩
   rw [c8] at e1 e2
   obtain ⟨b,hb,rfl⟩:=kt.mp e1
   obtain ⟨r,hr,rfl⟩:=kt.mp e2
   refine .ptr (l0.b0 b (ci hb)).1 (l0.bm j b r hb hr) rfl fun k d d' e1 e2=>?_
   rw [e1] at e2;cases e2
   obtain ⟨x,_,rfl⟩:=i8.mp (ci e1)
   exact .pin (.int x)
def vh:cQ:=fun ds M Q _=>∃net n,ds=[eN net]/\a9 net n/\∀a bs M',ia M M' a bs (aX net n)->Q (.ptr a) M'
def vi:cQ:=fun ds M Q _=>∃net n,ds=[eN net]/\a9 net n/\Q (.lst ((aX net n).map b8)) M
def vj:cQ:=fun ds M Q _=>∃net n,ds=[eN net]/\a9 net n/\Q (.lst ((aX net n).map b8)) M
theorem tY {f f1:ag} {fd cR:l5} (D:Df K mg "_law_classes" ft ["_law_net_here"] f fd)
  (eG:Df K mg "_law_stable" eC ["_law_net_here"] f1 cR) (vA:FnOk P w K mg base bg 4 f1 cR ["_law_net_here"] (aS P w K tb ym)) (bl:Bl mg) :
  FnOk P w K mg base bg 5 f fd ["_law_net_here"] (aS P w K tb vj) :=by
 refine d6 D eQ (fun ds M Q E hS=>by obtain ⟨net,n,e,_⟩:=hS;rw [e];rfl) fun A outer s E Γ ds Q' E' hP hw hK ht hr hS=>?_
 obtain ⟨net,n,e,O,q⟩:=hS
 refine ⟨_,(af (aJ (i:=1) eQ.nd rfl (xy rfl) (aE vA (hr.mono (by decide)) rfl eG.mg eG.fn.kp eG.bd aZ hP hw hK ht XR.none (aa (qv 0) ae)))
  (af (aJ (i:=2) eQ.nd rfl (li rfl) (ki ae))
  (af (dR sw rfl (bu rfl bl.range_ (aa (aq (dm (K:=K) rfl hK) rfl bl.len_ rf (aa (qv 0) ae)) ae)) (fun j1 eP ew eK et=>by have hP:=hP.trans eP.symm;have hw:=hw.trans ew.symm;have hK:=hK.trans eK.symm;have ht:=ht.trans et.symm;exact ⟨(az (i:=3) eQ.nd rfl (xy rfl)),(af (sg (i:=4) eQ.nd rfl rfl (N':=["_law_k","_law_place","_law_stable_here"]) (tn:=1) (idx:=[3,1]) rfl (show ay ["_law_net_here","_law_stable_here","_law_found","_law_place","_law_part"] (ai ft) _ ["_law_k","_law_place","_law_stable_here"] 1 [3,1] from by decide +kernel) (bu rfl bl.range_ (aa (aq (dm (K:=K) rfl hK) rfl bl.len_ rf (aa (qv 0) ae)) ae)) (fun _ _ _ _ _=>(az (i:=0) (show mv [("_law_k" : br),("_law_place" : br),("_law_stable_here" : br)] from by decide +kernel) rfl (li rfl))) (fun _ _ _ _ _=>(iG (QW.pt (jE (aQ il (qv 0) (qv 1) (aR _)) (gU (aQ (Bh hr.units) (iU (aa (aq (oK rfl) rfl bl.min_ oi (aa (qv 0) (aa (qv 1) ae))) (aa (aq (se rfl) rfl bl.max_ rK (aa (qv 0) (aa (qv 1) ae))) ae))) (qv 2) (by rfl))))))) (fun _ _ _ _ _=>(qv 0)))
  (ao (bW (aQ il (bq (ck (K:=K) rfl) (qv 4) aB (fun _ _=>rfl)) (qv 3) (aR _))
   (ao (gv (jF (K:=K) rfl wS Ch Cn iq (qv 2) (aa (qv 4) ae))))
   qss_nil)))⟩))
  (ao (aN (qv 2)))))),?_⟩
 subst e
 have h9:=O.nine
 have RX:=nH O
 have big:(1000:Nat)<sizeLine :=by decide
 simp! only []
 refine ⟨net,n,rfl,O,?_⟩
 simp! only []
 refine ⟨lw _,fun a ha=>⟨by omega,by omega,?_⟩⟩
 refine bQ (fun i ρ M=>(∃x3 x4,ρ=[some (eN net),some (.lst ((aH net n).map eI)),some (.ptr a),x3,x4])/\M=aw Γ.M0 a (.lst (((fR net n i).map (bA net n)).map b8))/\i<=net.length) ⟨⟨_,_,rfl⟩,rfl,lw _⟩ (fun i d ρ M N hd hJ hN=>?_) (fun ρ M hJ=>?_)
 ·obtain ⟨⟨x3,x4,rfl⟩,rfl,hi⟩:=hJ
  obtain ⟨rfl,cZ⟩:=bR hd
  have hp:=vX (net:=net) cZ
  obtain ⟨t,ht⟩:=cls_cons (n:=n) hp
  simp! only []
  refine ⟨by omega,by omega,by omega,fI (fun d=>match d with | .int b=>decide (gD net n i b)|_=>false) (fun d hd R hR=>?_) ?_⟩
  ·obtain ⟨j,hj⟩:=lc.mp hd
   obtain ⟨rfl,yi⟩:=bR hj
   simp! only [DD] at hR ⊢
   refine fb (fun h=>?_) (fun h=>?_)
   ·rw [show decide (gD net n i j)=true from decide_eq_true (.inl (of_decide_eq_true h))] at hR
    exact hR
   ·have ei:Dv.tup [Dv.int (if (i:Int)<(j:Int) then (i:Int) else j),Dv.int (if (i:Int) > (j:Int) then (i:Int) else j)]=eI (c7 (i:Int) (j:Int)) :=by
     rw [ED,show min (i:Int) (j:Int)=if (i:Int)<j then (i:Int) else j by split <;> omega,show max (i:Int) (j:Int)=if (i:Int) > j then (i:Int) else j by split <;> omega]
     rfl
    rw [ei]
    refine ⟨by decide,qQ ?_⟩
    have e:gD net n i j ↔ c7 (i:Int) (j:Int)∈aH net n:=⟨fun z=>z.resolve_left (of_decide_eq_false h),.inr⟩
    rw [decide_eq_decide.mpr e] at hR
    exact hR
  ·rw [o9,yp]
   have Oj:(fR net n i).length<=9:=ln qp h9
   have h0:cY ((bA net n (i:Int)).map Dv.int) 0=some (.int (cX net n i)) :=by rw [ht];exact atI_zero
   simp! only [h0]
   refine fb (fun h=>?_) (fun h=>?_)
   ·have h:=of_decide_eq_true h
    refine ⟨by omega,hN _ _ ⟨⟨_,_,rfl⟩,?_,cZ⟩⟩
    rw [jf cZ,if_pos h.symm,mo,mo]
    rfl
   ·have h:=of_decide_eq_false h
    refine hN _ _ ⟨⟨_,_,rfl⟩,?_,cZ⟩
    rw [jf cZ,if_neg fun e=>h e.symm]
 ·obtain ⟨⟨x3,x4,rfl⟩,rfl,hi⟩:=hJ
  rw [rangeD_len,qo]
  exact oP (.upd ha .refl) ha updM_same (fun d hd=>by obtain ⟨r,_,rfl⟩:=i8.mp hd;exact .lst (fH r)) q
end
section
variable {P:gc} {w:i0} {K:ba} {mg:br->Option ap} {base:ij} {tb:di}
theorem dg:aT ["_law_many","_law_pairs_here","_law_marks","_law_one","_law_other","_law_low","_law_high"] ["_law_many","_law_pairs_here"] (ai eE):=⟨rfl,rfl,rfl,by decide +kernel,rfl,by decide +kernel,by decide +kernel⟩
def bZ (ms:List Int) (p:Int):Int:=ms.getD p.toNat 0
structure MarkOk (net:List (List Int)) (n:Nat) (ms:List Int) (done:List (List Int)):Prop where
 len:ms.length=net.length
 le:∀p,bM net p->0<=bZ ms p/\bZ ms p<=p
 sta:∀p,bM net p->ej net n p (bZ ms p)
 eqm:∀a b:Int,[a,b]∈done->bZ ms a=bZ ms b
theorem BJ {net:List (List Int)} {ms:List Int} (hl:ms.length=net.length) {p:Int} (hp:bM net p):cY (ms.map Dv.int) p=some (.int (bZ ms p)) :=by
 obtain ⟨i,rfl⟩:=sB hp.1
 have hi:i<ms.length :=by have:=hp.2;omega
 refine ez ?_
 unfold bZ
 rw [c8,tw,bi,ac hi]
 rfl
theorem mO {net:List (List Int)} {ms:List Int} (hl:ms.length=net.length) {p:Int} (hp:bM net p) (f:Int->Int):bZ (ms.map f) p=f (bZ ms p) :=by
 obtain ⟨i,rfl⟩:=sB hp.1
 have hi:i<ms.length :=by have:=hp.2;omega
 unfold bZ
 rw [tw,bi,bi,c8,ac hi]
 rfl
theorem yq {net:List (List Int)} {n:Nat} (O:a9 net n) {a b:Nat} (h:[(a:Int),(b:Int)]∈aH net n):bM net (a:Int)/\bM net (b:Int)/\ej net n a b :=by
 have hp:=(fP.mp h).1
 obtain ⟨u,v,EE,hv,e⟩:=bS.mp hp
 have e1:=(sK e).1
 have e2:=(sK (sK e).2).1
 have ha:bM net (a:Int):=⟨by omega,by omega⟩
 have hb:bM net (b:Int):=⟨by omega,by omega⟩
 refine ⟨ha,hb,(tX O ha hb (by omega)).mp ?_⟩
 unfold c7
 rw [if_pos (by omega)]
 exact h
def ml (l h v:Int):Int:=if v=h then l else v
theorem MarkOk.step {net:List (List Int)} {n:Nat} (O:a9 net n) {ms:List Int} {done:List (List Int)} (k:MarkOk net n ms done) (hd:∀p∈done,p∈aG net.length) {a b:Nat} (h:[(a:Int),(b:Int)]∈aH net n) :
  MarkOk net n (ms.map (ml (min (bZ ms a) (bZ ms b)) (max (bZ ms a) (bZ ms b)))) (done++[[(a:Int),(b:Int)]]) :=by
 obtain ⟨ha,hb,dC⟩:=yq O h
 have la:=k.le _ ha
 have lb:=k.le _ hb
 have sa:=k.sta _ ha
 have sb:=k.sta _ hb
 have Tx:ej net n (max (bZ ms a) (bZ ms b)) (min (bZ ms a) (bZ ms b)) :=by
  have h1:ej net n (bZ ms a) (bZ ms b):=sa.symm.trans (dC.trans sb)
  rcases Int.le_total (bZ ms a) (bZ ms b) with z|z
  ·rw [show max (bZ ms a) (bZ ms b)=bZ ms b by omega,show min (bZ ms a) (bZ ms b)=bZ ms a by omega];exact h1.symm
  ·rw [show max (bZ ms a) (bZ ms b)=bZ ms a by omega,show min (bZ ms a) (bZ ms b)=bZ ms b by omega];exact h1
 refine ⟨by rw [cb];exact k.len,fun p hp=>?_,fun p hp=>?_,fun u v EE=>?_⟩
 ·rw [mO k.len hp]
  have:=k.le _ hp
  unfold ml
  split <;> omega
 ·rw [mO k.len hp]
  unfold ml
  split
  ·rename_i e
   exact (k.sta _ hp).trans (by rw [e];exact Tx)
  ·exact k.sta _ hp
 ·rcases l6.mp EE with z|z
  ·obtain ⟨x,y,RW,hy,e⟩:=bS.mp (hd _ z)
   have e1:=(sK e).1
   have e2:=(sK (sK e).2).1
   rw [mO k.len (p:=u) ⟨by omega,by omega⟩,mO k.len (p:=v) ⟨by omega,by omega⟩,k.eqm u v z]
  ·have e:=jp.mp z
   have e1:=(sK e).1
   have e2:=(sK (sK e).2).1
   subst e1 e2
   rw [mO k.len ha,mO k.len hb]
   unfold ml
   split <;> split <;> omega
theorem EH {net:List (List Int)} {n:Nat} (O:a9 net n) {ms:List Int} {done:List (List Int)} (k:MarkOk net n ms done) (hd:∀p∈aH net n,p∈done) {p q:Int} (hp:bM net p) (hq:bM net q):bZ ms p=bZ ms q ↔ ej net n p q :=by
 constructor
 ·intro e
  have h1:=k.sta _ hp
  rw [e] at h1
  exact h1.trans (k.sta _ hq).symm
 ·intro h
  by_cases e:p=q
  ·rw [e]
  ·have hm:=hd _ ((tX O hp hq e).mpr h)
   unfold c7 at hm
   split at hm
   ·exact k.eqm _ _ hm
   ·exact (k.eqm _ _ hm).symm
theorem An {net:List (List Int)} {n:Nat} {ms:List Int} {done:List (List Int)} (k:MarkOk net n ms done) {p:Int} (hp:bM net p):bM net (bZ ms p) :=by
 have:=k.le _ hp
 have:=hp.2
 exact ⟨by omega,by omega⟩
theorem pf {net:List (List Int)} {n:Nat} (O:a9 net n) {ms:List Int} {done:List (List Int)} (k:MarkOk net n ms done) (hd:∀p∈aH net n,p∈done) {p:Int} (hp:bM net p):bZ ms p=cX net n p :=by
 have h1:bZ ms p∈bA net n p:=eF.mpr ⟨An k hp,(same_iff O hp (An k hp)).mpr (k.sta _ hp)⟩
 have h2:=Kb hp h1
 have hm:=eF.mp (head_mem (n:=n) hp)
 have h3:=(EH O k hd hp hm.1).mpr ((same_iff O hp hm.1).mp hm.2)
 have h4:=(k.le _ hm.1).2
 omega
theorem jU {net:List (List Int)} {n:Nat} (O:a9 net n) {a b:Int} (ha:bM net a) (hb:bM net b):cX net n a=cX net n b ↔ ej net n a b :=by
 constructor
 ·intro e
  have m1:=eF.mp (head_mem (n:=n) ha)
  have m2:=eF.mp (head_mem (n:=n) hb)
  have h1:=(same_iff O ha m1.1).mp m1.2
  rw [e] at h1
  exact h1.trans ((same_iff O hb m2.1).mp m2.2).symm
 ·intro h
  obtain ⟨t,e1⟩:=cls_cons (n:=n) ha
  obtain ⟨u,e2⟩:=cls_cons (n:=n) hb
  rw [Oi O ha hb h,e2] at e1
  exact (sK e1).1.symm
theorem iM {net:List (List Int)} {n:Nat} {a:Int}:a∈bY net n ↔ bM net a/\a=cX net n a :=by
 unfold bY
 rw [Fk,pO,decide_eq_true_eq]
 rfl
theorem pQ {net:List (List Int)} {n:Nat} {a:Int} (ha:bM net a):bM net (cX net n a):=(eF.mp (head_mem (n:=n) ha)).1
theorem ph {net:List (List Int)} {n:Nat} (O:a9 net n) {a:Int} (ha:bM net a):cX net n (cX net n a)=cX net n a :=by
 have m1:=eF.mp (head_mem (n:=n) ha)
 exact (jU O m1.1 ha).mpr ((same_iff O ha m1.1).mp m1.2).symm
theorem EI {net:List (List Int)} {n:Nat} (O:a9 net n) {ms:List Int} {done:List (List Int)} (k:MarkOk net n ms done) (hd:∀p∈aH net n,p∈done):BF ms=bY net n :=by
 refine sQ (y2 _) ((nG _).filter _) fun v=>?_
 rw [G1,iM]
 constructor
 ·intro h
  obtain ⟨i,hi⟩:=lc.mp h
  have i5:=(bn.mp hi).1
  rw [k.len] at i5
  have hp:=vX (net:=net) i5
  have e:bZ ms (i:Int)=v :=by unfold bZ;rw [tw,bi,hi];rfl
  rw [pf O k hd hp] at e
  subst e
  exact ⟨pQ hp,(ph O hp).symm⟩
 ·rintro ⟨hv,e⟩
  have h1:=pf O k hd hv
  rw [<- e] at h1
  have RY:v.toNat<ms.length :=by rw [k.len];have:=hv.1;have:=hv.2;omega
  unfold bZ at h1
  rw [bi,ac RY] at h1
  rw [<- h1]
  exact r9 RY
theorem EJ {net:List (List Int)} {n:Nat} (O:a9 net n) {ms:List Int} {done:List (List Int)} (k:MarkOk net n ms done) (hd:∀p∈aH net n,p∈done) {v:Int} (hv:v∈bY net n):(dG net.length).filter (fun p=>decide (bZ ms p=v))=bA net n v :=by
 obtain ⟨h1,h2⟩:=iM.mp hv
 unfold bA
 refine Sk fun p hp=>?_
 have uX:bM net p:=pO.mp hp
 rw [decide_eq_decide,pf O k hd uX,same_iff O h1 uX]
 constructor
 ·intro e
  rw [h2] at e
  exact (jU O h1 uX).mp e.symm
 ·intro h
  rw [h2]
  exact ((jU O h1 uX).mpr h).symm
theorem Kc (m:Nat):gf m=(dG m).map Dv.int :=by
 unfold gf dG
 rw [wv]
 rfl
theorem EK {net:List (List Int)} {p:Int} (hp:bM net p):bZ (dG net.length) p=p :=by
 obtain ⟨i,rfl⟩:=sB hp.1
 have hi:i<net.length :=by have:=hp.2;omega
 unfold bZ dG
 rw [tw,bi,c8,AC hi]
 rfl
def yr:cQ:=fun ds M Q _=>∃(net:List (List Int)) (n:Nat),ds=[.int (net.length:Nat),.lst ((aH net n).map eI).reverse]/\a9 net n/\Q (.lst ((aX net n).map b8)) M
theorem vB {f:ag} {fd:l5} (D:Df K mg "_law_joined" eE ["_law_many","_law_pairs_here"] f fd) (bl:Bl mg):FnOk P w K mg base bg 1 f fd ["_law_many","_law_pairs_here"] (aS P w K tb yr) :=by
 refine d6 D dg (fun ds M Q E hS=>by obtain ⟨net,n,e,_⟩:=hS;rw [e];rfl) fun A outer s E Γ ds Q' E' hP hw hK ht hr hS=>?_
 obtain ⟨net,n,e,O,q⟩:=hS
 refine ⟨_,(af (aJ (i:=2) dg.nd rfl (xy rfl) (xu rfl rfl bl.list_ rfl bl.range_ (qv 0)))
  (af (dR sw rfl (cj (K:=K) rfl (qv 1)) (fun j1 eP ew eK et=>by have hP:=hP.trans eP.symm;have hw:=hw.trans ew.symm;have hK:=hK.trans eK.symm;have ht:=ht.trans et.symm;exact ⟨(iW (n:=2) rfl (bT (az (i:=3) dg.nd rfl (li rfl)) (bT (az (i:=4) dg.nd rfl (li rfl)) gw))),(af (aJ (i:=5) dg.nd rfl (xy rfl) (aq (oK rfl) rfl bl.min_ oi (aa (bq (ck (K:=K) rfl) (qv 2) (qv 3) (fun _ _=>rfl)) (aa (bq (ck (K:=K) rfl) (qv 2) (qv 4) (fun _ _=>rfl)) ae))))
  (af (aJ (i:=6) dg.nd rfl (xy rfl) (aq (se rfl) rfl bl.max_ rK (aa (bq (ck (K:=K) rfl) (qv 2) (qv 3) (fun _ _=>rfl)) (aa (bq (ck (K:=K) rfl) (qv 2) (qv 4) (fun _ _=>rfl)) ae))))
  (ao (aJ (i:=2) dg.nd rfl (xy rfl) (bh (N':=["_law_mark","_law_low","_law_high"]) (tn:=1) (idx:=[5,6]) rfl (show ay ["_law_many","_law_pairs_here","_law_marks","_law_one","_law_other","_law_low","_law_high"] (ai eE) _ ["_law_mark","_law_low","_law_high"] 1 [5,6] from by decide +kernel) (cj (K:=K) rfl (qv 2)) (fun _ _ _ _ _=>(az (i:=0) (show mv [("_law_mark" : br),("_law_low" : br),("_law_high" : br)] from by decide +kernel) rfl (li rfl))) (fun _ _ _ _ _=>bz) (fun _ _ _ _ _=>(bq (ck (K:=K) rfl) (oG (aa (qv 0) (aa (qv 1) ae))) (iH Nh rfl bl.int_ rH (aa (fj il (qv 0) (qv 2) (aR _)) ae)) (fun _ _=>rfl))))))))⟩))
  (ao (aN (xA (N':=["_law_mark","_law_many","_law_marks"]) (tn:=1) (idx:=[0,2]) rfl (show da ["_law_many","_law_pairs_here","_law_marks","_law_one","_law_other","_law_low","_law_high"] (ai eE) _ ["_law_mark","_law_many","_law_marks"] 1 [0,2] from by decide +kernel) (cj (K:=K) rfl (aq (Gj hP hw (K:=K) rfl rfl) rfl bl.sorted_ uI (aa (iH (HV hP hw (K:=K) rfl rfl) rfl bl.set_ C9 (aa (qv 2) ae)) ae))) (fun _ _ _ _ _=>(az (i:=0) (show mv [("_law_mark" : br),("_law_many" : br),("_law_marks" : br)] from by decide +kernel) rfl (xy rfl))) (fun _ _ _ _ _=>bz) (fun _ _ _ _ _=>(bh (N':=["_law_place","_law_mark","_law_marks"]) (tn:=1) (idx:=[0,2]) rfl (ay.rel (show ay ["_law_mark","_law_many","_law_marks"] _ _ ["_law_place","_law_mark","_law_marks"] 1 [0,2] from by decide +kernel)) (bu rfl bl.range_ (aa (qv 1) ae)) (fun _ _ _ _ _=>(az (i:=0) (show mv [("_law_place" : br),("_law_mark" : br),("_law_marks" : br)] from by decide +kernel) rfl (li rfl))) (fun _ _ _ _ _=>(iG (aQ il (bq (ck (K:=K) rfl) (qv 2) (qv 0) (fun _ _=>rfl)) (qv 1) (aR _)))) (fun _ _ _ _ _=>(qv 0))))))))),?_⟩
 subst e
 have h9:=O.nine
 have RX:=nH O
 have big:(1000:Nat)<sizeLine :=by decide
 rw [<- XI]
 simp! only []
 refine ⟨by omega,by omega,?_⟩
 refine bQ (fun i ρ M=>∃ms,(∃x3 x4 x5 x6,ρ=[some (.int (net.length:Nat)),some (.lst ((aH net n).reverse.map eI)),some (.lst (ms.map Dv.int)),x3,x4,x5,x6])/\M=Γ.M0/\MarkOk net n ms ((aH net n).reverse.take i)) ⟨dG net.length,⟨none,none,none,none,by rw [Kc]⟩,rfl,⟨by simp [dG],fun p hp=>?_,fun p hp=>?_,fun a b h=>?_⟩⟩ (fun i d ρ M N hd hJ hN=>?_) (fun ρ M hJ=>?_)
 ·rw [EK hp];exact ⟨hp.1,GG _⟩
 ·rw [EK hp];exact .refl _
 ·simp at h
 ·obtain ⟨ms,⟨x3,x4,x5,x6,rfl⟩,rfl,k⟩:=hJ
  obtain ⟨p,hp,rfl⟩:=iZ hd
  have w5:=XJ.mp (ci hp)
  obtain ⟨a,b,dC,hb,rfl⟩:=bS.mp (fP.mp w5).1
  obtain ⟨pa,pb,_⟩:=yq O w5
  have ea:=BJ k.len pa
  have eb:=BJ k.len pb
  obtain ⟨va,Ic⟩:∃v,v=bZ ms (a:Int):=⟨_,rfl⟩
  obtain ⟨vb,RZ⟩:∃v,v=bZ ms (b:Int):=⟨_,rfl⟩
  rw [<- Ic] at ea
  rw [<- RZ] at eb
  refine ⟨rfl,?_⟩
  dsimp only [zgCons,zgName,zgNil,eI,nw,UV,Po,Ps]
  refine nj (fun ρ M=>ρ=[some (.int (net.length:Nat)),some (.lst ((aH net n).reverse.map eI)),some (.lst (ms.map Dv.int)),some (.int (a:Nat)),some (.int (b:Nat)),some (.int (min va vb)),x6]/\M=Γ.M0) (fun N2 jT=>?_) ?_
  ·simp! only [ea,eb]
   rw [show (if vb<va then vb else va)=min va vb by split <;> omega]
   exact jT _ _ ⟨rfl,rfl⟩
  ·rintro ρ M ⟨rfl,rfl⟩
   refine nj (fun ρ M=>ρ=[some (.int (net.length:Nat)),some (.lst ((aH net n).reverse.map eI)),some (.lst (ms.map Dv.int)),some (.int (a:Nat)),some (.int (b:Nat)),some (.int (min va vb)),some (.int (max va vb))]/\M=Γ.M0) (fun N2 jT=>?_) ?_
   ·simp! only [ea,eb]
    rw [show (if vb > va then vb else va)=max va vb by split <;> omega]
    exact jT _ _ ⟨rfl,rfl⟩
   ·rintro ρ M ⟨rfl,rfl⟩
    simp! only []
    refine ⟨by rw [k.len];omega,fk (fun d=>match d with | .int v=>.int (ml (min va vb) (max va vb) v)|d=>d) (fun τ M=>(∃x,τ=[x,some (.int (min va vb)),some (.int (max va vb))])/\M=Γ.M0) ⟨⟨_,rfl⟩,rfl⟩ (fun d hd τ M hJ R kk=>?_) (fun τ M hJ=>?_)⟩
    ·obtain ⟨⟨x,rfl⟩,rfl⟩:=hJ
     obtain ⟨v,hv,rfl⟩:=i8.mp hd
     have kk:=kk [some (.int v),some (.int (min va vb)),some (.int (max va vb))] Γ.M0 ⟨⟨_,rfl⟩,rfl⟩
     simp! only []
     by_cases e:v=max va vb
     ·have e1:decide (v=max va vb)=true:=decide_eq_true e
      simp only [ml,if_pos e] at kk
      rw [e1]
      exact ⟨by decide,kk⟩
     ·have e1:decide (v=max va vb)=false:=decide_eq_false e
      simp only [ml,if_neg e] at kk
      rw [e1]
      exact ⟨by decide,kk⟩
    ·obtain ⟨⟨x,rfl⟩,rfl⟩:=hJ
     have el:(ms.map Dv.int).map (fun d=>match d with | .int v=>.int (ml (min va vb) (max va vb) v)|d=>d)=(ms.map (ml (min va vb) (max va vb))).map Dv.int :=by rw [wv,wv];rfl
     rw [el]
     refine hN _ _ ⟨ms.map (ml (min va vb) (max va vb)),⟨_,_,_,_,rfl⟩,rfl,?_⟩
     ·have et:(aH net n).reverse.take (i+1)=(aH net n).reverse.take i++[[(a:Int),(b:Int)]] :=by rw [Lu,hp];rfl
      rw [et,Ic,RZ]
      exact k.step O (fun p hp=>(fP.mp (XJ.mp (List.mem_of_mem_take hp))).1) w5
 ·obtain ⟨ms,⟨x3,x4,x5,x6,rfl⟩,rfl,k⟩:=hJ
  rw [cb,NJ] at k
  have hd:∀p∈aH net n,p∈(aH net n).reverse:=fun p hp=>XJ.mpr hp
  have sb:(100:Nat)<scanBound :=by decide
  have Wj:=k.len
  have R1:sortI (cG ms)=bY net n:=EI O k hd
  have HE:(cG ms).length=(bY net n).length :=by rw [<- R1];exact (sortI_perm _).length_eq.symm
  have R3:=lZ (net:=net) (n:=n)
  simp! only []
  rw [XF,lK]
  dsimp only
  rw [R1]
  refine ⟨by omega,by omega,by omega,fk (fun d=>match d with | .int v=>b8 (bA net n v)|d=>d) (fun τ M=>(∃x,τ=[x,some (.int (net.length:Nat)),some (.lst (ms.map Dv.int))])/\M=Γ.M0) ⟨⟨_,rfl⟩,rfl⟩ (fun d hd2 τ M hJ R kk=>?_) (fun τ M hJ=>?_)⟩
  ·obtain ⟨⟨x,rfl⟩,rfl⟩:=hJ
   obtain ⟨v,hv,rfl⟩:=i8.mp hd2
   have kk:=kk [some (.int v),some (.int (net.length:Nat)),some (.lst (ms.map Dv.int))] Γ.M0 ⟨⟨_,rfl⟩,rfl⟩
   simp! only []
   refine ⟨by omega,by omega,by omega,fI (fun d=>match d with | .int p=>decide (bZ ms p=v)|_=>false) (fun d Vy R2 qk=>?_) ?_⟩
   ·obtain ⟨j,hj⟩:=lc.mp Vy
    obtain ⟨rfl,yi⟩:=bR hj
    have Mp:=vX (net:=net) yi
    simp! only [DD,BJ k.len Mp] at qk ⊢
    exact qk
   ·rw [o9]
    have ef:((dG net.length).map Dv.int).filter (fun d=>match d with | .int p=>decide (bZ ms p=v)|_=>false)=(bA net n v).map Dv.int :=by
     rw [<- EJ O k hd hv,UF]
     rfl
    rw [ef]
    exact kk
  ·obtain ⟨⟨x,rfl⟩,rfl⟩:=hJ
   refine .inl ?_
   rw [wv]
   show Q' (.lst ((bY net n).map fun v=>b8 (bA net n v))) _
   rw [show (bY net n).map (fun v=>b8 (bA net n v))=(aX net n).map b8 by unfold aX;rw [wv];rfl]
   exact q
end
section
variable {P:gc} {w:i0} {K:ba} {mg:br->Option ap} {base:ij} {tb:di}
theorem ee:aT ["_law_net_here","_law_groups","_law_numbers","_law_number","_law_part","_law_place","_law_k"] ["_law_net_here","_law_groups"] (ai gX):=⟨rfl,rfl,rfl,by decide +kernel,rfl,by decide +kernel,by decide +kernel⟩
theorem vk {κ α:Type} [DecidableEq κ] (k x:κ) (v:α):∀(ks:List κ) (ds:List α),ks.length=ds.length->look ks (hV ks ds k v) x=if x=k then (if k∈ks then some v else none) else look ks ds x
 | [],[],_=>by show none=_;by_cases h:x=k <;> simp [h,look]
 |c::ks,d::ds,h=>by
          have ih:=vk k x v ks ds (by simpa using h)
          unfold hV
          unfold look
          by_cases e:c=x
          ·subst e
           by_cases e2:c=k
           ·subst e2;simp
           ·simp [e2]
          ·rw [if_neg e,if_neg e,ih]
           by_cases e2:x=k
           ·subst e2;simp [wE e]
           ·rw [if_neg e2,if_neg e2]
 | [],_::_,h=>by simp at h
 |_::_,[],h=>by simp at h
theorem vm {κ α:Type} [DecidableEq κ] (k x:κ) (v:α):∀(ks:List κ) (ds:List α),ks.length=ds.length->k ∉ ks->look (ks++[k]) (ds++[v]) x=if x=k then some v else look ks ds x
 | [],[],_,_=>by
          show look [k] [v] x=_
          unfold look look
          by_cases h:k=x
          ·rw [if_pos h,if_pos h.symm]
          ·rw [if_neg h,if_neg fun e=>h e.symm]
 |c::ks,d::ds,h,hk=>by
          have ih:=vm k x v ks ds (by simpa using h) fun z=>hk (db _ z)
          rw [WL,WL]
          unfold look
          by_cases e:c=x
          ·subst e
           rw [if_pos rfl,if_pos rfl,if_neg fun z=>hk (by rw [<- z];exact ff)]
          ·rw [if_neg e,if_neg e,ih]
 | [],_::_,h,_=>by simp at h
 |_::_,[],h,_=>by simp at h
theorem G4 {κ α:Type} [DecidableEq κ] {ks:List κ} {ds:List α} (h:ks.length=ds.length) (k x:κ) (v:α):look (putL ks k) (dF ks ds k v) x=if x=k then some v else look ks ds x :=by
 unfold putL dF
 by_cases e:k∈ks
 ·rw [if_pos e,if_pos e,vk k x v ks ds h]
  simp [e]
 ·rw [if_neg e,if_neg e]
  exact vm k x v ks ds h e
noncomputable def fK (net:List (List Int)) (n:Nat) (p:Int):Nat:=(bY net n).idxOf (cX net n p)
theorem G5 (net:List (List Int)) (n:Nat):(bY net n).Nodup :=by
 have h:(bY net n).Pairwise (· < ·):=(nG _).filter _
 exact h.imp fun h=>by omega
theorem Ol {net:List (List Int)} {n:Nat} (O:a9 net n) {i:Nat} {v p:Int} (hv:(bY net n)[i]?=some v) (hp:p∈bA net n v):fK net n p=i :=by
 obtain ⟨h1,h2⟩:=iM.mp (ci hv)
 obtain ⟨h3,h4⟩:=eF.mp hp
 have e:cX net n p=v :=by rw [h2];exact ((jU O h1 h3).mpr ((same_iff O h1 h3).mp h4)).symm
 unfold fK
 rw [e]
 obtain ⟨hi,e2⟩:=bn.mp hv
 rw [<- e2]
 exact (G5 net n).idxOf_getElem i hi
def EL:cQ:=fun ds M Q _=>∃(net:List (List Int)) (n:Nat),ds=[eN net,.lst ((aX net n).map b8)]/\a9 net n/\Q (.bl true) M
def sR (net:List (List Int)) (n:Nat) (M:Mh) (a:ag) (m:Nat) (S:Int->Prop):Prop:=∃(ks:List Key) (ds:List Dv),M a=some (.dk ks ds)/\ks.length=ds.length/\ks.length<=m/\∀p,S p->look ks ds (OL p)=some (.int (fK net n p:Nat))
theorem sR.mono {net:List (List Int)} {n:Nat} {M:Mh} {a:ag} {m m2:Nat} {S S2:Int->Prop} (h:sR net n M a m S) (hm:m<=m2) (hS:∀p,S2 p->S p):sR net n M a m2 S2 :=by
 obtain ⟨ks,ds,h1,h2,h3,h4⟩:=h
 exact ⟨ks,ds,h1,h2,ln h3 hm,fun p hp=>h4 p (hS p hp)⟩
theorem ER {net:List (List Int)} {n:Nat} (O:a9 net n) {p:Int} (hp:bM net p):fK net n p<(bY net n).length:=
 List.idxOf_lt_length_of_mem (iM.mpr ⟨pQ hp,(ph O hp).symm⟩)
theorem Kd {net:List (List Int)} {n:Nat} (O:a9 net n) {v p:Int} (hp:bM net p) (hv:(bY net n)[fK net n p]?=some v):p∈bA net n v :=by
 have hl:=ER O hp
 rw [ac hl] at hv
 have e:=List.getElem_idxOf hl
 have ev:v=cX net n p :=by rw [<- e];exact (i4 hv).symm
 subst ev
 refine eF.mpr ⟨hp,(same_iff O (pQ hp) hp).mpr ?_⟩
 have m1:=eF.mp (head_mem (n:=n) hp)
 exact ((same_iff O hp m1.1).mp m1.2).symm
theorem Om {net:List (List Int)} {n:Nat} (O:a9 net n) {p q:Int} (hp:bM net p) (hq:bM net q) (h:ej net n p q):fK net n p=fK net n q :=by
 unfold fK
 rw [(jU O hp hq).mpr h]
theorem EV (x:Int):∀l:List Int,(∀y∈l,y=x)->(cG l).length<=1:=fun l h=>by
 have hn:=rP l
 have hm:∀y∈cG l,y=x:=fun y hy=>h y (wM.mp hy)
 match hd:cG l with
 | []=>exact lw _
 | [_]=>exact ce _
 |u::v::t=>
  rw [hd] at hn hm
  have e:=hm u ff
  have e2:=hm v (db _ ff)
  rw [OR] at hn
  exact absurd (by rw [e,e2];exact ff) hn.1
theorem y3 {f:ag} {fd:l5} (D:Df K mg "_law_kept" gX ["_law_net_here","_law_groups"] f fd) (bl:Bl mg):FnOk P w K mg base bg 1 f fd ["_law_net_here","_law_groups"] (aS P w K tb EL) :=by
 refine d6 D ee (fun ds M Q E hS=>by obtain ⟨net,n,e,_⟩:=hS;rw [e];rfl) fun A outer s E Γ ds Q' E' hP hw hK ht hr hS=>?_
 obtain ⟨net,n,e,O,q⟩:=hS
 refine ⟨_,(af (aJ (i:=2) ee.nd rfl (xy rfl) Gv)
  (af (dR sw rfl (zQ true (K:=K) rfl rfl bl.enumerate_ (qv 1)) (fun j1 eP ew eK et=>by have hP:=hP.trans eP.symm;have hw:=hw.trans ew.symm;have hK:=hK.trans eK.symm;have ht:=ht.trans et.symm;exact ⟨(iW (n:=2) rfl (bT (az (i:=3) ee.nd rfl (li rfl)) (bT (az (i:=4) ee.nd rfl (li rfl)) gw))),(ao (dR sw rfl (cj (K:=K) rfl (qv 4)) (fun j1 eP ew eK et=>by have hP:=hP.trans eP.symm;have hw:=hw.trans ew.symm;have hK:=hK.trans eK.symm;have ht:=ht.trans et.symm;exact ⟨(az (i:=5) ee.nd rfl (li rfl)),(ao (zU hr.units (qv 2) (qv 5) (qv 3)))⟩)))⟩))
  (af (dR sw rfl (cj (K:=K) rfl (qv 1)) (fun j1 eP ew eK et=>by have hP:=hP.trans eP.symm;have hw:=hw.trans ew.symm;have hK:=hK.trans eK.symm;have ht:=ht.trans et.symm;exact ⟨(az (i:=4) ee.nd rfl (li rfl)),(ao (dR sw rfl (bu rfl bl.range_ (aa (aq (dm (K:=K) rfl hK) rfl bl.len_ rf (aa (bq (ck (K:=K) rfl) (qv 0) aB (fun _ _=>rfl)) ae)) ae)) (fun j1 eP ew eK et=>by have hP:=hP.trans eP.symm;have hw:=hw.trans ew.symm;have hK:=hK.trans eK.symm;have ht:=ht.trans et.symm;exact ⟨(az (i:=6) ee.nd rfl (xy rfl)),(ao (bW (aQ Nf (aq (Ni hP hw) rfl bl.len_ rf (aa (iH (HV hP hw (K:=K) rfl rfl) rfl bl.set_ C9 (aa (bh (N':=["_law_place","_law_numbers","_law_k","_law_net_here"]) (tn:=1) (idx:=[2,6,0]) rfl (show ay ["_law_net_here","_law_groups","_law_numbers","_law_number","_law_part","_law_place","_law_k"] (ai gX) _ ["_law_place","_law_numbers","_law_k","_law_net_here"] 1 [2,6,0] from by decide +kernel) (cj (K:=K) rfl (qv 4)) (fun _ _ _ _ _=>(az (i:=0) (show mv [("_law_place" : br),("_law_numbers" : br),("_law_k" : br),("_law_net_here" : br)] from by decide +kernel) rfl (li rfl))) (fun _ _ _ _ _=>bz) (fun _ _ _ _ _=>(JL hr.units (qv 1) (bq (ck (K:=K) rfl) (bq (ck (K:=K) rfl) (qv 3) (qv 0) (fun _ _=>rfl)) (qv 2) (fun _ _=>rfl)) (fun _ _=>rfl)))) ae)) ae)) aB (aR _))
   (ao (aN fe))
   qss_nil))⟩)))⟩))
  (ao (aN fe))))),?_⟩
 subst e
 have h9:=O.nine
 have h1:=O.one
 have EA:=O.wid
 have R3:=lZ (net:=net) (n:=n)
 have big:(1000:Nat)<sizeLine :=by decide
 have grp:∀(i:Nat) (d:Dv),((aX net n).map b8)[i]?=some d->∃v,(bY net n)[i]?=some v/\d=b8 (bA net n v):=fun i d h=>by
  rw [c8] at h
  obtain ⟨r,hr,rfl⟩:=kt.mp h
  unfold aX at hr
  rw [c8] at hr
  obtain ⟨v,hv,rfl⟩:=kt.mp hr
  exact ⟨v,hv,rfl⟩
 simp! only []
 intro a ha
 refine bQ (fun i ρ M=>(∃x3 x4 x5 x6,ρ=[some (eN net),some (.lst ((aX net n).map b8)),some (.ptr a),x3,x4,x5,x6])/\Keeps Γ.M0 M/\i<=(bY net n).length/\sR net n M a (9 * i) fun p=>bM net p/\fK net n p<i) ⟨⟨_,_,_,_,rfl⟩,.upd ha .refl,lw _,[],[],updM_same,rfl,lw _,fun p hp=>absurd hp.2 (TM _)⟩ (fun i d ρ M N hd hJ hN=>?_) (fun ρ M hJ=>?_)
 ·obtain ⟨⟨x3,x4,x5,x6,rfl⟩,kp,hi,Oo⟩:=hJ
  obtain ⟨x,y,rfl,hx,hy⟩:=iI hd
  obtain ⟨v,hv,rfl⟩:=grp _ _ hy
  have i5:=(bn.mp hv).1
  have ex:x=.int (i:Nat) :=by
   unfold gf at hx
   rw [c8] at hx
   obtain ⟨k,hk,rfl⟩:=kt.mp hx
   have:=bn.mp hk
   obtain ⟨_,rfl⟩:=this
   rw [Pf]
  subst ex
  have cE:(bA net n v).length<=9:=ln pP h9
  refine ⟨rfl,?_⟩
  dsimp only [zgCons,zgName,zgNil,Po,Ps]
  simp! only []
  refine bQ (fun j ρ M=>(∃x5 x6,ρ=[some (eN net),some (.lst ((aX net n).map b8)),some (.ptr a),some (.int (i:Nat)),some (b8 (bA net n v)),x5,x6])/\Keeps Γ.M0 M/\j<=9/\sR net n M a (9 * i+j) fun p=>bM net p/\fK net n p<i\/p∈(bA net n v).take j) ⟨⟨_,_,rfl⟩,kp,lw _,Oo.mono (ce _) fun p hp=>hp.elim id fun h=>by simp at h⟩ (fun j d ρ M N hd hJ hN=>?_) (fun ρ M hJ=>?_)
  ·obtain ⟨⟨x5,x6,rfl⟩,kp,hj,ks,ds,hM,Ae,Vz,lN⟩:=hJ
   obtain ⟨p,hp,rfl⟩:=iZ hd
   have VA:=ci hp
   have VB:=Ol O hv VA
   have zY:=(bn.mp hp).1
   have Oj:i<9:=l7 i5 (ln R3 h9)
   simp! only [hM]
   refine ⟨by omega,hN _ _ ⟨⟨_,_,rfl⟩,.upd ha kp,by omega,_,_,updM_same,k7 Ae _ _,ln (JK _ _) (by omega),fun q hq=>?_⟩⟩
   rw [G4 Ae]
   by_cases e:q=p
   ·subst e;rw [if_pos rfl,VB]
   ·rw [if_neg fun z=>e (OL.inj z)]
    refine lN q (hq.imp_right fun h=>?_)
    rw [Lu,hp] at h
    exact (l6.mp h).resolve_right fun z=>e (jp.mp z)
  ·obtain ⟨⟨x5,x6,rfl⟩,kp,hj,Oo⟩:=hJ
   refine hN _ _ ⟨⟨_,_,_,_,rfl⟩,kp,i5,Oo.mono (by rw [cb] at hj ⊢;omega) fun p hp=>?_⟩
   rw [cb,NJ]
   by_cases e:fK net n p<i
   ·exact .inl ⟨hp.1,e⟩
   ·have e2:fK net n p=i :=by have:=hp.2;omega
    exact .inr (Kd O hp.1 (by rw [e2];exact hv))
 ·obtain ⟨⟨x3,x4,x5,x6,rfl⟩,kp,hi,ks,ds,hM,Ae,Vz,lN⟩:=hJ
  have eL:(bX (gf (aX net n).length) ((aX net n).map b8)).length=(bY net n).length :=by
   unfold bX gf aX
   simp
  rw [eL] at lN
  have lN:∀p,bM net p->look ks ds (OL p)=some (.int (fK net n p:Nat)):=fun p hp=>lN p ⟨hp,ER O hp⟩
  simp! only []
  refine bQ (fun i ρ M2=>(∃x3 x4 x5 x6,ρ=[some (eN net),some (.lst ((aX net n).map b8)),some (.ptr a),x3,x4,x5,x6])/\M2=M) ⟨⟨_,_,_,_,rfl⟩,rfl⟩ (fun i d ρ M2 N hd hJ hN=>?_) (fun ρ M2 hJ=>?_)
  ·obtain ⟨⟨x3,x4,x5,x6,rfl⟩,rfl⟩:=hJ
   obtain ⟨v,hv,rfl⟩:=grp _ _ hd
   have R4:bM net v:=(iM.mp (ci hv)).1
   obtain ⟨e0,u6⟩:=km (a:=0) O (by omega)
   have cE:(bA net n v).length<=9:=ln pP h9
   have e0:cY (net.map eI) 0=some (eI (net.getD 0 [])):=e0
   simp! only [e0]
   refine ⟨by rw [u6];omega,by rw [u6];omega,?_⟩
   rw [u6]
   refine bQ (fun i ρ M3=>(∃x6,ρ=[some (eN net),some (.lst ((aX net n).map b8)),some (.ptr a),x3,some (b8 (bA net n v)),x5,x6])/\M3=M2) ⟨⟨_,rfl⟩,rfl⟩ (fun k d ρ M3 N2 hd hJ jT=>?_) (fun ρ M3 hJ=>?_)
   ·obtain ⟨⟨x6,rfl⟩,rfl⟩:=hJ
    obtain ⟨rfl,hk⟩:=bR hd
    simp! only []
    refine ⟨by omega,fk (fun d=>match d with | .int p=>.int (fK net n (iL net p k):Nat)|d=>d) (fun τ M=>(∃x,τ=[x,some (.ptr a),some (.int (k:Nat)),some (eN net)])/\M=M3) ⟨⟨_,rfl⟩,rfl⟩ (fun d hd2 τ M hJ R kk=>?_) (fun τ M hJ=>?_)⟩
    ·obtain ⟨⟨x,rfl⟩,rfl⟩:=hJ
     obtain ⟨p,hp,rfl⟩:=i8.mp hd2
     have Iw:=(eF.mp hp).1
     have kk:=kk [some (.int p),some (.ptr a),some (.int (k:Nat)),some (eN net)] M ⟨⟨_,rfl⟩,rfl⟩
     have e2:=(km (a:=p.toNat) O (by have:=Iw.1;have:=Iw.2;omega))
     have e3:((p.toNat:Nat):Int)=p:=Int.toNat_of_nonneg Iw.1
     rw [e3] at e2
     simp! only [e2.1]
     have e4:cY ((net.getD p.toNat []).map Dv.int) (k:Nat)=some (.int (iL net p k)):=ez (by
      have hl:k<(net.getD p.toNat []).length :=by rw [e2.2];exact hk
      unfold iL
      rw [c8,bi (l:=net.getD p.toNat []),ac hl]
      rfl)
     simp! only [eI,e4,hM]
     rw [lN _ (h8 O Iw hk)]
     exact kk
    ·obtain ⟨⟨x,rfl⟩,rfl⟩:=hJ
     have em:((bA net n v).map Dv.int).map (fun d=>match d with | .int p=>.int (fK net n (iL net p k):Nat)|d=>d)=((bA net n v).map fun p=>((fK net n (iL net p k):Nat):Int)).map Dv.int :=by rw [wv,wv];rfl
     rw [em]
     have Wk:=EV (fK net n (iL net v k):Nat) ((bA net n v).map fun p=>((fK net n (iL net p k):Nat):Int)) fun y hy=>by
      obtain ⟨p,hp,rfl⟩:=i8.mp hy
      obtain ⟨h1,h2⟩:=eF.mp hp
      exact congrArg _ (Om O (h8 O h1 hk) (h8 O R4 hk) (((same_iff O R4 h1).mp h2).symm.go hk))
     have sb:(100:Nat)<scanBound :=by decide
     simp! only []
     rw [lK]
     dsimp only
     rw [show decide (1<(((cG ((bA net n v).map fun p=>((fK net n (iL net p k):Nat):Int))).length:Nat):Int))=false from decide_eq_false (by omega),cb]
     exact ⟨by omega,jT _ _ ⟨⟨_,rfl⟩,rfl⟩⟩
   ·obtain ⟨⟨x6,rfl⟩,rfl⟩:=hJ
    exact hN _ _ ⟨⟨_,_,_,_,rfl⟩,rfl⟩
  ·obtain ⟨⟨x3,x4,x5,x6,rfl⟩,rfl⟩:=hJ
   simp! only []
   exact lL kp (.bl true) q
end
section
variable {P:gc} {w:i0} {K:ba} {mg:br->Option ap} {base:ij} {tb:di}
theorem pq:aT ["_law_script","_law_k","_law_net_here","_law_due","_law_found"] ["_law_script"] (ai Br):=⟨rfl,rfl,rfl,by decide +kernel,rfl,by decide +kernel,by decide +kernel⟩
def nS (o:Mo):Prop:=o=.dJ\/∃r:List Int,o=.lst (r.map .int)
theorem nS.pin {o:Mo} (h:nS o) (M:Mh):∀d∈o.items,Pin M d :=by
 rcases h with rfl|⟨r,rfl⟩
 ·exact fun d hd=>nomatch hd
 ·exact fH r
theorem nS.VC {o:Mo} (h:nS o):∀d∈o.items,nP d :=by
 rcases h with rfl|⟨r,rfl⟩
 ·exact fun d hd=>nomatch hd
 ·intro d hd
  obtain ⟨x,_,rfl⟩:=i8.mp hd
  exact .int x
theorem qU {M1 M:Mh} {a:ag} {bs:List ag} {rs:List (List Int)} (h:ia M1 M a bs rs) (h1:∀c o,M1 c=some o->nS o):∀c o,M c=some o->c≠a->nS o:=fun c o e n=>by
 rcases h.oth c o e with z|z|z
 ·exact h1 c o z
 ·exact absurd z n
 ·exact .inr z
theorem EW {M0 M1 M:Mh} {a:ag} {bs:List ag} {rs:List (List Int)} (h:ia M1 M a bs rs) (h1:∀c o,M1 c=some o->nS o) {ρ:aC} (VD:∀(i:Nat) (d:Dv),ρ[i]?=some (some d)->Pin (cw M (a::bs)) d):Froz M0 (cw M (a::bs)) ρ:=⟨VD,fun b o e=>by
 obtain ⟨n,e⟩:=kc e
 exact .inr ((qU h h1 b o e fun z=>n (by rw [z];exact ff)).pin _)⟩
theorem Ke (ks:List (List Int)) (h:ks.length<=1000) (h2:∀k∈ks,k.length<=1000):vV 2 (.lst (ks.map b8)) :=by
 refine ⟨_,.inl rfl,by rw [cb];exact h,fun x hx=>?_⟩
 obtain ⟨k,hk,rfl⟩:=i8.mp hx
 refine ⟨_,.inl rfl,by rw [cb];exact h2 k hk,fun x hx=>?_⟩
 obtain ⟨i,_,rfl⟩:=i8.mp hx
 exact ⟨i,rfl⟩
theorem G6 {net:List (List Int)} {n:Nat} (O:a9 net n):vV 2 (.lst ((aX net n).map b8)) :=by
 have h9:=O.nine
 refine Ke _ (by have:=lZ (net:=net) (n:=n);unfold aX;rw [cb];omega) fun k hk=>?_
 obtain ⟨v,_,rfl⟩:=i8.mp hk
 have:=pP (net:=net) (n:=n) (a:=v)
 omega
theorem EX {d:Dv} {t:Dt} {M:Mh} {Q:ZK} (h:bL (now M d)=some t) (hp:fW t<=60) (q:Q (.bl false) M):mi true d d M Q :=by
 unfold mi
 rw [h]
 refine ⟨hp,?_⟩
 rw [kQ]
 exact q
theorem Kf (rs:List (List Int)):bL (.lst (rs.map b8))=some (.lst (rs.map fun r=>Dt.lst (r.map Dt.int))) :=by
 have h:=tJ (f:=b8) (g:=fun r=>Dt.lst (r.map Dt.int)) (fun r=>by show bL (.lst (r.map Dv.int))=_;simp only [bL,qE,Cs]) rs
 simp only [bL,h,Cs]
theorem Kg (rs:List (List Int)):fW (.lst (rs.map fun r=>Dt.lst (r.map Dt.int)))<=60 :=by
 rw [fW]
 have:=qF (n:=1) (ds:=rs.map fun r=>Dt.lst (r.map Dt.int)) fun d hd=>by
  obtain ⟨r,_,rfl⟩:=i8.mp hd
  rw [fW]
  have:=tK r
  omega
 omega
theorem EY {M:Mh} (ns:List Int):Pin M (b8 ns):=.lst (fH ns)
theorem yt {M:Mh} (rs:List (List Int)):Pin M (.lst (rs.map b8)):=.lst fun d hd=>by obtain ⟨r,_,rfl⟩:=i8.mp hd;exact EY r
theorem Oq {f f1 f2 f3 f4 f5 f6 f7 f8:ag} {fd cR fd2 lV ve Aj R5 R6 R7:l5} (D:Df K mg "law" Br ["_law_script"] f fd)
  (gE:Df K mg "_law_bag" kf ["_law_script","_law_at"] f1 cR) (BK:FnOk P w K mg base bg 1 f1 cR ["_law_script","_law_at"] (aS P w K tb N0))
  (gF:Df K mg "_law_net" cJ ["_law_bag_here","_law_most"] f2 fd2) (BL:FnOk P w K mg base bg 3 f2 fd2 ["_law_bag_here","_law_most"] (aS P w K tb Ik))
  (dY:Df K mg "_law_classes" ft ["_law_net_here"] f3 lV) (tZ:FnOk P w K mg base bg 5 f3 lV ["_law_net_here"] (aS P w K tb vj))
  (bE:Df K mg "stable_pairs" dW ["net"] f4 ve) (jB:FnOk P w K mg base (fX P w) 9 f4 ve ["net"] (aS P w K tb qP))
  (eR:Df K mg "classes" jS ["net"] f5 Aj) (pw:FnOk P w K mg base (fX P w) 10 f5 Aj ["net"] (aS P w K tb vh)) (mn:FnOk P w K mg base (fX P w) 10 f5 Aj ["net"] (aS P w K tb vi))
  (fS:Df K mg "_law_kept" gX ["_law_net_here","_law_groups"] f6 R5) (y6:FnOk P w K mg base bg 1 f6 R5 ["_law_net_here","_law_groups"] (aS P w K tb EL))
  (eJ:Df K mg "_law_joined" eE ["_law_many","_law_pairs_here"] f7 R6) (vC:FnOk P w K mg base bg 1 f7 R6 ["_law_many","_law_pairs_here"] (aS P w K tb yr))
  (aW:Df K mg "_law_like" eX ["_law_found","_law_due"] f8 R7) (fQ:FnOk P w K mg base bg 3 f8 R7 ["_law_found","_law_due"] (aS P w K tb (vW 2))) (bl:Bl mg) :
  FnOk P w K mg base bg 11 f fd ["_law_script"] (aS P w K tb Nr) :=by
 refine d6 D pq (fun ds M Q E hS=>by obtain ⟨ns,e,_⟩:=hS;rw [e];rfl) fun A outer s E Γ ds Q' E' hP hw hK ht hr hS=>?_
 obtain ⟨ns,e,hl,hM,q⟩:=hS
 refine ⟨_,(af (zL sw rfl (bu rfl bl.range_ (aa (aq (se rfl) rfl bl.max_ rK (aa aB (aa (aq (oK rfl) rfl bl.min_ oi (aa (aq (dm (K:=K) rfl hK) rfl bl.len_ rf (aa (qv 0) ae)) (aa aB ae))) ae))) ae)) (fun j1 M1 hM eP ew eK et=>by have hP:=hP.trans eP.symm;have hw:=hw.trans ew.symm;have hK:=hK.trans eK.symm;have ht:=ht.trans et.symm;exact ⟨(az (i:=1) pq.nd rfl (li rfl)),(af (aJ (i:=2) pq.nd rfl (li rfl) (aE BL (hr.mono (by decide)) rfl gF.mg gF.fn.kp gF.bd aZ hP hw hK ht XR.none (aa (aE BK (hr.mono (by decide)) rfl gE.mg gE.fn.kp gE.bd aZ hP hw hK ht XR.none (aa (qv 0) (aa (qv 1) ae))) (aa aB ae))))
  (af (aJ (i:=3) pq.nd rfl (li rfl) (aE tZ (hr.mono (by decide)) rfl dY.mg dY.fn.kp dY.bd aZ hP hw hK ht XR.none (aa (qv 2) ae)))
  (af (DV 4 hM (aJ (i:=4) pq.nd rfl (li rfl) (aE pw (hr.mono (by decide)) rfl eR.mg eR.fn.kp eR.bd A0 hP hw hK ht XR.none (aa (qv 2) ae))))
  (af (bW (GC 4 hM (QW.pt (jE (kX (dQ (aE fQ (hr.mono (by decide)) rfl aW.mg aW.fn.kp aW.bd aZ hP hw hK ht XR.none (aa (qv 4) (aa (qv 3) ae))))) (gU (kX (dQ (aE y6 (hr.mono (by decide)) rfl fS.mg fS.fn.kp fS.bd aZ hP hw hK ht XR.none (aa (qv 2) (aa (qv 4) ae)))))))))
   (ao (aN fe))
   qss_nil)
  (af (bW (aQ (P1 hr.units) (aE vC (hr.mono (by decide)) rfl eJ.mg eJ.fn.kp eJ.bd aZ hP hw hK ht XR.none (aa (aq (dm (K:=K) rfl hK) rfl bl.len_ rf (aa (qv 2) ae)) (aa (NZ (K:=K) rfl (aE jB (hr.mono (by decide)) rfl bE.mg bE.fn.kp bE.bd A0 hP hw hK ht XR.none (aa (qv 2) ae)) (Nq aB)) ae))) (qv 3) (aR _))
   (ao (aN fe))
   qss_nil)
  (af (gv (jF (K:=K) rfl wS Ch Cn iq (bq (ck (K:=K) rfl) (qv 4) aB (fun _ _=>rfl)) (aa aB ae)))
  (af (gv (jF (K:=K) rfl wS Ch Cn iq (qv 4) (aa (oG ae) ae)))
  (ao (bW (kX (dQ (aE fQ (hr.mono (by decide)) rfl aW.mg aW.fn.kp aW.bd aZ hP hw hK ht XR.none (aa (aE mn (hr.mono (by decide)) rfl eR.mg eR.fn.kp eR.bd A0 hP hw hK ht XR.none (aa (qv 2) ae)) (aa (qv 3) ae)))))
   (ao (aN fe))
   qss_nil)))))))))⟩))
  (ao (aN fe))),?_⟩
 subst e
 simp! only []
 refine ⟨by split <;> split <;> omega,by split <;> split <;> omega,?_⟩
 refine bQ (fun k ρ M=>∃x1 x2 x3 x4,ρ=[some (.bI ns),x1,x2,x3,x4]/\((x4=none/\∀c o,M c=some o->nS o) \/
   ∃(a:ag) (bs:List ag),x4=some (.ptr a)/\M a=some (.lst (bs.map .ptr++[.lst []]))/\(∀b∈bs,(M b).isSome=true/\b≠a)/\∀c o,M c=some o->c≠a->nS o))
  ⟨_,_,_,_,rfl,.inl ⟨rfl,fun b o e=>by rw [hM b] at e;cases e⟩⟩ (fun k d ρ M N hd hJ hN=>?_) (fun ρ M _=>.inl (q _))
 obtain ⟨x1,x2,x3,x4,rfl,hJ⟩:=hJ
 obtain ⟨rfl,hk⟩:=bR hd
 have hk:k<=20 :=by split at hk <;> split at hk <;> omega
 have big:(1000:Nat)<sizeLine :=by decide
 have Ot:∀(M:Mh) (net gs:List (List Int)) (d4:Dv),Pin M d4->∀(j:Nat) (d:Dv),([some (.bI ns),some (.int (k:Nat)),some (eN net),some (.lst (gs.map b8)),some d4]:aC)[j]?=some (some d)->Pin M d:=fun M net gs d4 h4 j d e=>by
  match j,e with
  |0,e=>cases e;exact .bI _
  |1,e=>cases e;exact .int _
  |2,e=>cases e;exact DQ net
  |3,e=>cases e;exact yt gs
  |4,e=>cases e;exact h4
  |j+5,e=>exact nomatch e
 rw [show (0:Int)+(k:Nat)=(k:Nat) from DD _]
 show zSeq _ _ _ _ _
 refine P8 (fun ρ M=>∃(net:List (List Int)) (n:Nat) (M1:Mh) (a:ag) (bs:List ag),ρ=[some (.bI ns),some (.int (k:Nat)),some (eN net),some (.lst ((aX net n).map b8)),some (.ptr a)]/\a9 net n/\ia M1 M a bs (aX net n)/\∀c o,M1 c=some o->nS o) (fun N' R8=>?_) (fun ρ M hI=>?_)
 ·simp! only []
  refine ⟨ns,_,rfl,hl,by omega,by omega,fun b hb=>?_⟩
  refine ⟨b,9,rfl,updM_same,by omega,by omega,fun net n O _=>?_⟩
  simp! only []
  refine ⟨net,n,rfl,O,?_⟩
  simp! only []
  rcases hJ with ⟨rfl,ho⟩|⟨a,bs,rfl,Ah,DU,ho⟩
  ·refine .inl ?_
   simp! only []
   refine ⟨net,n,rfl,O,fun a bs M' nest=>R8 _ _ ⟨net,n,_,a,bs,rfl,O,nest,fun c o e=>?_⟩⟩
   by_cases z:c=b
   ·subst z;rw [updM_same] at e;cases e;exact .inl rfl
   ·rw [ah z] at e;exact ho c o e
  ·have N3:a≠b:=fun z=>by rw [z,hb] at Ah;cases Ah
   have L6:∀c o,aw M b .dJ c=some o->c≠a->nS o:=fun c o e n=>by
    by_cases z:c=b
    ·subst z;rw [updM_same] at e;cases e;exact .inl rfl
    ·rw [ah z] at e;exact ho c o e n
   have R9:∀c o,cI (aw M b .dJ) a c=some o->nS o:=fun c o e=>by
    by_cases z:c=a
    ·rw [z,dn] at e;cases e
    ·rw [bU z] at e;exact L6 c o e z
   refine .inr ⟨a,_,rfl,by rw [ah N3];exact Ah,hM a,⟨?_,fun c o e=>.inr ((R9 c o e).pin _)⟩,?_⟩
   ·refine Ot _ net (aX net n) _ (.lst fun d hd=>?_)
    rcases l6.mp hd with z|z
    ·obtain ⟨c,hc,rfl⟩:=i8.mp z
     have:=DU c hc
     refine .ptr ?_
     rw [bU this.2]
     by_cases y:c=b
     ·rw [y,updM_same];rfl
     ·rw [ah y];exact this.1
    ·rw [jp] at z
     subst z
     exact EY []
   ·simp! only []
    exact ⟨net,n,rfl,O,fun a2 VE M' nest=>R8 _ _ ⟨net,n,_,a2,VE,rfl,O,nest,R9⟩⟩
 ·obtain ⟨net,n,M1,a,bs,rfl,O,hI,h1⟩:=hI
  have lk:=G6 O
  have h9:=O.nine
  have Wl:=O.one
  simp! only []
  refine ⟨a,bs,aX net n,rfl,hI.am,hI.len,hI.bm,hM a,fun b hb=>hM b,EW hI h1 (Ot _ net (aX net n) _ (yt _)),fun b o e n=>(qU hI h1 b o e fun z=>n (by rw [z];exact ff)).VC,?_⟩
  simp! only []
  refine ⟨_,rfl,lk,net,n,rfl,O,rfl,net,n,rfl,O,?_⟩
  simp! only []
  rw [<- XI]
  refine ⟨net,n,by rw [XI],O,?_⟩
  refine EX (by simp only [now];exact Kf _) (Kg _) ?_
  simp! only []
  obtain ⟨v,vs,VF⟩:∃v vs,bY net n=v::vs :=by
   have hp:bM net 0:=⟨GG _,by omega⟩
   have hm:cX net n 0∈bY net n:=iM.mpr ⟨pQ hp,(ph O hp).symm⟩
   cases hx:bY net n with
   |nil=>rw [hx] at hm;exact nomatch hm
   |cons v vs=>exact ⟨v,vs,rfl⟩
  have er:aX net n=bA net n v::vs.map (bA net n) :=by unfold aX;rw [VF];rfl
  obtain ⟨b0,bt,eb⟩:∃b0 bt,bs=b0::bt :=by
   cases hb:bs with
   |nil=>have:=hI.len;rw [hb,er] at this;simp at this
   |cons b0 bt=>exact ⟨b0,bt,rfl⟩
  have zZ:=hI.bm 0 b0 (bA net n v) (by rw [eb];rfl) (by rw [er];rfl)
  have VG:a≠b0:=fun z=>(hI.b0 b0 (by rw [eb];exact ff)).2 z.symm
  have e0:cY (bs.map Dv.ptr) 0=some (.ptr b0) :=by rw [eb];exact atI_zero
  have Oj:bs.length<=9 :=by
   have:=lZ (net:=net) (n:=n)
   rw [hI.len];unfold aX;rw [cb];omega
  have u6:=pP (net:=net) (n:=n) (a:=v)
  simp! only [hI.am,e0,zZ,ah VG]
  refine ⟨by omega,by omega,by omega,net,n,rfl,O,_,rfl,lk,?_⟩
  simp! only []
  refine hN _ _ ⟨_,_,_,_,rfl,.inr ⟨a,bs,rfl,updM_same,fun b hb=>?_,fun c o e hc=>?_⟩⟩
  ·have h2:=(hI.b0 b hb).2
   refine ⟨?_,h2⟩
   rw [ah h2]
   by_cases z:b=b0
   ·rw [z,updM_same];rfl
   ·rw [ah z]
    obtain ⟨j,hj⟩:=lc.mp hb
    have zY:j<(aX net n).length :=by rw [<- hI.len];exact (bn.mp hj).1
    rw [hI.bm j b _ hj (ac zY)]
    rfl
  ·rw [ah hc] at e
   by_cases z:c=b0
   ·rw [z,updM_same] at e
    cases e
    exact .inr ⟨bA net n v++[9],by rw [mo];rfl⟩
   ·rw [ah z] at e
    exact qU hI h1 c o e hc
end
theorem all_mk {l:XY} {w:i0} {K:ba} {h:ij} {mg:br->Option ap} {fa:ag} {tabs lts:List ag} {C_RoadError C_NoNet:ag} (X:K.In h) (G:h.Ns mainGlobals mg) (VH:mg "law" = some (.ref fa))
  (T:wp (TabOf mg h) ["is_row","is_net"] tabs) (U:wp (TabOf mg h) [] lts)
  (y7:qr K mainGlobals "RoadError" = some (some (.ref C_RoadError)))
  (Kh:qr K mainGlobals "NoNet" = some (some (.ref C_NoNet)))
  (eb:A1 K C_RoadError [C_NoNet]=true) (Wm:[C_NoNet].Nodup)
  (BM:bV K "is_whole" gz)
  (qV:bV K "is_whole_below" d7)
  (G7:bV K "is_row" ll)
  (G8:bV K "is_net" lq)
  (BO:bV K "need_net" ke)
  (y8:bV K "all_pairs" eW)
  (BP:bV K "in_order" i7)
  (t5:bV K "coming_pairs" fo)
  (vD:bV K "led_to_some" eB)
  (t6:bV K "never_called" dU)
  (t7:bV K "stable_pairs" dW)
  (EZ:bV K "classes" jS)
  (BQ:bV K "_law_bag" kf)
  (y9:bV K "_law_take" gW)
  (yu:bV K "_law_order" gi)
  (BR:bV K "_law_net" cJ)
  (zb:bV K "_law_like" eX)
  (yw:bV K "_law_pairs" gj)
  (yx:bV K "_law_goals" fq)
  (BU:bV K "_law_led" i9)
  (qW:bV K "_law_is_called" d8)
  (vE:bV K "_law_stable" eC)
  (t9:bV K "_law_classes" ft)
  (vF:bV K "_law_joined" eE)
  (zf:bV K "_law_kept" gX)
  (Qg:bV K "law" Br)
  (Qh:qr K mainGlobals "len" = some none)
  (Ki:qr K mainGlobals "range" = some none)
  (Qi:qr K mainGlobals "min" = some none)
  (Qj:qr K mainGlobals "max" = some none)
  (Qk:qr K mainGlobals "abs" = some none)
  (Ou:qr K mainGlobals "list" = some none)
  (Kj:qr K mainGlobals "tuple" = some none)
  (Ql:qr K mainGlobals "int" = some none)
  (Qm:qr K mainGlobals "str" = some none)
  (Ov:qr K mainGlobals "bool" = some none)
  (yy:qr K mainGlobals "isinstance" = some none)
  (Qn:qr K mainGlobals "all" = some none)
  (Qo:qr K mainGlobals "set" = some none)
  (G9:qr K mainGlobals "sorted" = some none)
  (Qp:qr K mainGlobals "zip" = some none)
  (zh:qr K mainGlobals "enumerate" = some none)
  (Qq:qr K mainGlobals "sum" = some none)
  (BV:qr K mainGlobals "reversed" = some none)
  (Ha:qr K mainGlobals "divmod" = some none)
  (Qr:qr K mainGlobals "any" = some none)
  (yz:qr K mainGlobals "ValueError" = some none)
  (jX:∃tk,qr K mainGlobals "MOST_PLACES" = some (some (.int 9 tk)))
  : ∃fd:l5,(∀(s:ar) (v:ap),XA s fd ⟨[v],[]⟩ [("_law_script",v)])/\∀base:ij,K.In base->base.Ns mainGlobals mg->(∃bm ob,X1 base mainGlobals mg bm ob)->(∀c p,u7 h c p->u7 base c p)->FnOk l.prog w K mg base bg 11 fa fd ["_law_script"] (spLaw K ⟨tabs,lts.zip []⟩) :=by
 obtain ⟨Qs,OH,dq⟩:=BM.df X G ["thing"] fun _ _ _ _ _ _ us hl=>match us,hl with | [_],_=>rfl
 obtain ⟨Hb,E8,cc⟩:=qV.df X G ["thing","many"] fun _ _ _ _ _ _ us hl=>match us,hl with | [_,_],_=>rfl
 obtain ⟨Tz,Sa,ix⟩:=G7.df X G ["thing","many","width"] fun _ _ _ _ _ _ us hl=>match us,hl with | [_,_,_],_=>rfl
 obtain ⟨TC,Sb,iy⟩:=G8.df X G ["thing"] fun _ _ _ _ _ _ us hl=>match us,hl with | [_],_=>rfl
 obtain ⟨Qt,OI,gC⟩:=BO.df X G ["thing"] fun _ _ _ _ _ _ us hl=>match us,hl with | [_],_=>rfl
 obtain ⟨OJ,Ow,bp⟩:=y8.df X G ["net"] fun _ _ _ _ _ _ us hl=>match us,hl with | [_],_=>rfl
 obtain ⟨Qu,OM,cL⟩:=BP.df X G ["one","other"] fun _ _ _ _ _ _ us hl=>match us,hl with | [_,_],_=>rfl
 obtain ⟨Kk,Iy,bD⟩:=t5.df X G ["net"] fun _ _ _ _ _ _ us hl=>match us,hl with | [_],_=>rfl
 obtain ⟨Kw,Km,bN⟩:=vD.df X G ["coming","goals"] fun _ _ _ _ _ _ us hl=>match us,hl with | [_,_],_=>rfl
 obtain ⟨Kn,Iz,dX⟩:=t6.df X G ["net"] fun _ _ _ _ _ _ us hl=>match us,hl with | [_],_=>rfl
 obtain ⟨Ko,IA,bE⟩:=t7.df X G ["net"] fun _ _ _ _ _ _ us hl=>match us,hl with | [_],_=>rfl
 obtain ⟨Sd,Qv,eR⟩:=EZ.df X G ["net"] fun _ _ _ _ _ _ us hl=>match us,hl with | [_],_=>rfl
 obtain ⟨Qw,OO,gE⟩:=BQ.df X G ["_law_script","_law_at"] fun _ _ _ _ _ _ us hl=>match us,hl with | [_,_],_=>rfl
 obtain ⟨OQ,Ox,ax⟩:=y9.df X G ["_law_bag_here","_law_many"] fun _ _ _ _ _ _ us hl=>match us,hl with | [_,_],_=>rfl
 obtain ⟨Oy,Kx,cK⟩:=yu.df X G ["_law_bag_here","_law_many"] fun _ _ _ _ _ _ us hl=>match us,hl with | [_,_],_=>rfl
 obtain ⟨Qx,OS,gF⟩:=BR.df X G ["_law_bag_here","_law_most"] fun _ _ _ _ _ _ us hl=>match us,hl with | [_,_],_=>rfl
 obtain ⟨OT,Oz,aW⟩:=zb.df X G ["_law_found","_law_due"] fun _ _ _ _ _ _ us hl=>match us,hl with | [_,_],_=>rfl
 obtain ⟨OA,Ky,fx⟩:=yw.df X G ["_law_many"] fun _ _ _ _ _ _ us hl=>match us,hl with | [_],_=>rfl
 obtain ⟨OB,Kz,cf⟩:=yx.df X G ["_law_net_here","_law_pair"] fun _ _ _ _ _ _ us hl=>match us,hl with | [_,_],_=>rfl
 obtain ⟨Qy,OU,cM⟩:=BU.df X G ["_law_net_here","_law_pair"] fun _ _ _ _ _ _ us hl=>match us,hl with | [_,_],_=>rfl
 obtain ⟨Hc,E9,de⟩:=qW.df X G ["_law_net_here","_law_pair"] fun _ _ _ _ _ _ us hl=>match us,hl with | [_,_],_=>rfl
 obtain ⟨KA,Kp,eG⟩:=vE.df X G ["_law_net_here"] fun _ _ _ _ _ _ us hl=>match us,hl with | [_],_=>rfl
 obtain ⟨Kq,IB,dY⟩:=t9.df X G ["_law_net_here"] fun _ _ _ _ _ _ us hl=>match us,hl with | [_],_=>rfl
 obtain ⟨KC,Kr,eJ⟩:=vF.df X G ["_law_many","_law_pairs_here"] fun _ _ _ _ _ _ us hl=>match us,hl with | [_,_],_=>rfl
 obtain ⟨OV,OC,fS⟩:=zf.df X G ["_law_net_here","_law_groups"] fun _ _ _ _ _ _ us hl=>match us,hl with | [_,_],_=>rfl
 obtain ⟨VL,OD,BW⟩:=Qg.df X G ["_law_script"] fun _ _ _ _ _ _ us hl=>match us,hl with | [_],_=>rfl
 have OW:=WF X G y7
 have tQ:=WF X G Kh
 have X_:=Jr eb
 have tP:C_NoNet∈[C_NoNet] :=by simp
 have e:=VH.symm.trans BW.mg
 cases e
 have bl:Bl mg:=⟨ma X G Qh,ma X G Ki,ma X G Qi,ma X G Qj,ma X G Qk,ma X G Ou,ma X G Kj,ma X G Ql,ma X G Qm,ma X G Ov,ma X G yy,ma X G Qn,ma X G Qo,ma X G G9,ma X G Qp,ma X G zh,ma X G Qq,ma X G BV,ma X G Ha,ma X G Qr,ma X G yz⟩
 obtain ⟨Ks,jX⟩:=jX
 have jw:=WF X G jX
 obtain ⟨bo,Se,rfl,Hd,T⟩:=jC T
 obtain ⟨bC,Sf,rfl,He,T⟩:=jC T
 cases T
 cases U
 refine ⟨OD,fun s v=>BW.bind1 s v (by intros;rfl),fun base _ _ jg tr=>?_⟩
 obtain ⟨nu,jv⟩:=CW ix X Hd tr
 obtain ⟨xX,nv⟩:=CW iy X He tr
 have E1:bo∈(⟨[bo,bC],[]⟩:di) :=by show _∈[bo,bC];simp
 have E2:bC∈(⟨[bo,bC],[]⟩:di) :=by show _∈[bo,bC];simp
 have qM:=Es (P:=l.prog) (w:=w) (tb:=(⟨[bo,bC],[]⟩:di)) iy nv E2 ix jv E1 jg cc dq bl jw
 have nC:=yX gC iy qM X_ tP tQ
 have dr:=xY (P:=l.prog) (w:=w) (base:=base) (tb:=(⟨[bo,bC],[]⟩:di)) bp bl
 have gB:=y0 (P:=l.prog) (w:=w) (base:=base) (tb:=(⟨[bo,bC],[]⟩:di)) cL
 have yA:=sI bD bp dr cL gB bl
 have sS:=tS (P:=l.prog) (w:=w) (base:=base) (tb:=(⟨[bo,bC],[]⟩:di)) bN bl
 have Kt:=sL dX gC nC bp dr bD yA bN sS bl
 obtain ⟨Qz,yB⟩:=sM bE bp dr bD yA bN sS dX Kt bl
 have E3:=N1 (tb:=(⟨[bo,bC],[]⟩:di)) (yT (P:=l.prog) (w:=w) (base:=base) ax)
 have QB:=Qe (tb:=(⟨[bo,bC],[]⟩:di)) (Bs (P:=l.prog) (w:=w) (base:=base) gE bl)
 have Ku:=xT cK ax E3 bl
 have QC:=Bu gF ax E3 cK Ku bl
 have Hf:=yh (P:=l.prog) (w:=w) (base:=base) (tb:=(⟨[bo,bC],[]⟩:di)) fx bl
 have yC:=yj (P:=l.prog) (w:=w) (base:=base) (tb:=(⟨[bo,bC],[]⟩:di)) cf bl
 have E4:=BE cM cf yC bl
 have E5:=qR de cM E4 cf yC bl
 have E6:=vz eG fx Hf cM E4 de E5 bl
 have OG:=vg aW (vg aW (EG (P:=l.prog) (w:=w) (base:=base) (tb:=(⟨[bo,bC],[]⟩:di)) aW bl) bl) bl
 have sT:=BI eR bE yB cL gB bl
 have pw:=nE (S:=vh) sT fun ds M Q E ⟨net,n,e,O,q⟩=>⟨net,n,e,O,.inl q⟩
 have mn:=nE (S:=vi) sT fun ds M Q E ⟨net,n,e,O,q⟩=>⟨net,n,e,O,.inr q⟩
 have BX:=tY dY eG E6 bl
 have E7:=vB (P:=l.prog) (w:=w) (base:=base) (tb:=(⟨[bo,bC],[]⟩:di)) eJ bl
 have Kv:=y3 (P:=l.prog) (w:=w) (base:=base) (tb:=(⟨[bo,bC],[]⟩:di)) fS bl
 exact Nt (Oq BW gE QB gF QC dY BX bE yB eR pw mn fS Kv eJ E7 aW OG bl)
theorem walk {l:XY} {q:gc} {loose:List br} {XP:(br->Option ap)->ij->Prop} {YP:i0->ij->Prop} {d:DefRec} {K:Ya->ba} (hn:l.most=some 63) (CC:d.params.defaults=[])
  (D2:∀w:i0,Xg (K w.params)=true) (HZ:∀y∈((["is_row","is_net"]:List br)++([]:List br)),∃r∈recsOf q,r.name=y) (p0:∀w:i0,tN (K w.params) ["is_row","is_net"] []=true) (hY:∀(w:i0) (h:ij),YP w h->(K w.params).In h)
  (F:∀(w:i0) (mg:br->Option ap) (fa:ag) (h:ij) (tabs lts:List ag),(K w.params).In h->h.Ns mainGlobals mg->mg d.name=some (.ref fa)->
   wp (TabOf mg h) ["is_row","is_net"] tabs->wp (TabOf mg h) [] lts->
   ∃fd:l5,(∀(s:ar) (u:ap),XA s fd ⟨[u],[]⟩ [("_law_script",u)]) /\
    ∀base:ij,(K w.params).In base->base.Ns mainGlobals mg->(∃bm ob,X1 base mainGlobals mg bm ob)->(∀c p,u7 h c p->u7 base c p)->FnOk l.prog w (K w.params) mg base bg 11 fa fd ["_law_script"] (spLaw (K w.params) ⟨tabs,lts.zip []⟩)) :
  PySem.W.WalkO q loose XP YP l.row.toRowW d [] (fun f vs=>X5 f vs):=
 L2.GA (n:=63) (k:=11) (x := "_law_script") (CX:=bg) (sp:=fun K tabs lts=>spLaw K ⟨tabs,lts.zip []⟩) hn (by decide) CC ⟨rfl,by decide,by decide⟩ D2 HZ p0 hY F (fun _ _ _ _ a ns hl hn hT hL hS=>GB hl hn hT hL hS) fun _ _ _ _ z=>z
end My
open PySem PySem.W PyProof.Rows L2
set_option maxRecDepth 100000 in
set_option maxHeartbeats 0 in
theorem PySem.Challenge.cw_roadcall_k29_classes_holds : PySem.Challenge.rw_roadcall_k29_classes.Holds := by
 w_on;o_law
 refine My.IC (q:=My.kq) (loose:=My.kL) (H:=My.kH) My.left (by rfl) (by rfl) (by rfl) (by rfl) (by first|assumption|decide +kernel) (by decide +kernel) ⟨rfl,rfl,rfl,rfl,rfl,by decide +kernel⟩ ?hw ?hc
 (case hw=>w_witness2)
 refine My.walk (l:=PySem.Challenge.rw_roadcall_k29_classes) rfl rfl (fun w=>by kernel_rfl) (recs_of (by decide +kernel)) (fun w=>by kernel_rfl) (fun w h Y=>Y) ?F
 intro w mg fa h tabs lts KX G CD T U
 exact My.all_mk (C_RoadError:=24) (C_NoNet:=37) KX G CD T U
  (by kernel_rfl)
  (by kernel_rfl)
  (by kernel_rfl)
  (by decide)
  (L2.aY (f:=46) (oc:=.type "function") (od:=none) (sl:=#[]) (kV:=.none) (dc:=.none) (pm:=My.vS "roadcall.whole" 223) (an:=none) (cd:=.ref 45) (ct:=.none) (by kernel_rfl) (by kernel_rfl) (by kernel_rfl) (by kernel_rfl))
  (L2.aY (f:=53) (oc:=.type "function") (od:=none) (sl:=#[]) (kV:=.none) (dc:=.none) (pm:=My.vS "roadcall.whole" 223) (an:=none) (cd:=.ref 52) (ct:=.none) (by kernel_rfl) (by kernel_rfl) (by kernel_rfl) (by kernel_rfl))
  (L2.aY (f:=60) (oc:=.type "function") (od:=none) (sl:=#[]) (kV:=.none) (dc:=.none) (pm:=My.vS "roadcall.nets" 240) (an:=none) (cd:=.ref 59) (ct:=.none) (by kernel_rfl) (by kernel_rfl) (by kernel_rfl) (by kernel_rfl))
  (L2.aY (f:=67) (oc:=.type "function") (od:=none) (sl:=#[]) (kV:=.none) (dc:=.none) (pm:=My.vS "roadcall.nets" 240) (an:=none) (cd:=.ref 66) (ct:=.none) (by kernel_rfl) (by kernel_rfl) (by kernel_rfl) (by kernel_rfl))
  (L2.aY (f:=74) (oc:=.type "function") (od:=none) (sl:=#[]) (kV:=.none) (dc:=.none) (pm:=My.vS "roadcall.nets" 240) (an:=none) (cd:=.ref 73) (ct:=.none) (by kernel_rfl) (by kernel_rfl) (by kernel_rfl) (by kernel_rfl))
  (L2.aY (f:=79) (oc:=.type "function") (od:=none) (sl:=#[]) (kV:=.none) (dc:=.none) (pm:=My.vS "roadcall.pairs" 270) (an:=none) (cd:=.ref 78) (ct:=.none) (by kernel_rfl) (by kernel_rfl) (by kernel_rfl) (by kernel_rfl))
  (L2.aY (f:=86) (oc:=.type "function") (od:=none) (sl:=#[]) (kV:=.none) (dc:=.none) (pm:=My.vS "roadcall.pairs" 270) (an:=none) (cd:=.ref 85) (ct:=.none) (by kernel_rfl) (by kernel_rfl) (by kernel_rfl) (by kernel_rfl))
  (L2.aY (f:=93) (oc:=.type "function") (od:=none) (sl:=#[]) (kV:=.none) (dc:=.none) (pm:=My.vS "roadcall.pairs" 270) (an:=none) (cd:=.ref 92) (ct:=.none) (by kernel_rfl) (by kernel_rfl) (by kernel_rfl) (by kernel_rfl))
  (L2.aY (f:=98) (oc:=.type "function") (od:=none) (sl:=#[]) (kV:=.none) (dc:=.none) (pm:=My.vS "roadcall.pairs" 270) (an:=none) (cd:=.ref 97) (ct:=.none) (by kernel_rfl) (by kernel_rfl) (by kernel_rfl) (by kernel_rfl))
  (L2.aY (f:=103) (oc:=.type "function") (od:=none) (sl:=#[]) (kV:=.none) (dc:=.none) (pm:=My.vS "roadcall.pairs" 270) (an:=none) (cd:=.ref 102) (ct:=.none) (by kernel_rfl) (by kernel_rfl) (by kernel_rfl) (by kernel_rfl))
  (L2.aY (f:=108) (oc:=.type "function") (od:=none) (sl:=#[]) (kV:=.none) (dc:=.none) (pm:=My.vS "roadcall.stable" 310) (an:=none) (cd:=.ref 107) (ct:=.none) (by kernel_rfl) (by kernel_rfl) (by kernel_rfl) (by kernel_rfl))
  (L2.aY (f:=113) (oc:=.type "function") (od:=none) (sl:=#[]) (kV:=.none) (dc:=.none) (pm:=My.vS "roadcall.stable" 310) (an:=none) (cd:=.ref 112) (ct:=.none) (by kernel_rfl) (by kernel_rfl) (by kernel_rfl) (by kernel_rfl))
  (L2.aY (f:=120) (oc:=.type "function") (od:=none) (sl:=#[]) (kV:=.none) (dc:=.none) (pm:=My.vS "law_roadcall_k29_classes" 324) (an:=none) (cd:=.ref 119) (ct:=.none) (by kernel_rfl) (by kernel_rfl) (by kernel_rfl) (by kernel_rfl))
  (L2.aY (f:=127) (oc:=.type "function") (od:=none) (sl:=#[]) (kV:=.none) (dc:=.none) (pm:=My.vS "law_roadcall_k29_classes" 324) (an:=none) (cd:=.ref 126) (ct:=.none) (by kernel_rfl) (by kernel_rfl) (by kernel_rfl) (by kernel_rfl))
  (L2.aY (f:=132) (oc:=.type "function") (od:=none) (sl:=#[]) (kV:=.none) (dc:=.none) (pm:=My.vS "law_roadcall_k29_classes" 324) (an:=none) (cd:=.ref 131) (ct:=.none) (by kernel_rfl) (by kernel_rfl) (by kernel_rfl) (by kernel_rfl))
  (L2.aY (f:=137) (oc:=.type "function") (od:=none) (sl:=#[]) (kV:=.none) (dc:=.none) (pm:=My.vS "law_roadcall_k29_classes" 324) (an:=none) (cd:=.ref 136) (ct:=.none) (by kernel_rfl) (by kernel_rfl) (by kernel_rfl) (by kernel_rfl))
  (L2.aY (f:=142) (oc:=.type "function") (od:=none) (sl:=#[]) (kV:=.none) (dc:=.none) (pm:=My.vS "law_roadcall_k29_classes" 324) (an:=none) (cd:=.ref 141) (ct:=.none) (by kernel_rfl) (by kernel_rfl) (by kernel_rfl) (by kernel_rfl))
  (L2.aY (f:=147) (oc:=.type "function") (od:=none) (sl:=#[]) (kV:=.none) (dc:=.none) (pm:=My.vS "law_roadcall_k29_classes" 324) (an:=none) (cd:=.ref 146) (ct:=.none) (by kernel_rfl) (by kernel_rfl) (by kernel_rfl) (by kernel_rfl))
  (L2.aY (f:=152) (oc:=.type "function") (od:=none) (sl:=#[]) (kV:=.none) (dc:=.none) (pm:=My.vS "law_roadcall_k29_classes" 324) (an:=none) (cd:=.ref 151) (ct:=.none) (by kernel_rfl) (by kernel_rfl) (by kernel_rfl) (by kernel_rfl))
  (L2.aY (f:=159) (oc:=.type "function") (od:=none) (sl:=#[]) (kV:=.none) (dc:=.none) (pm:=My.vS "law_roadcall_k29_classes" 324) (an:=none) (cd:=.ref 158) (ct:=.none) (by kernel_rfl) (by kernel_rfl) (by kernel_rfl) (by kernel_rfl))
  (L2.aY (f:=164) (oc:=.type "function") (od:=none) (sl:=#[]) (kV:=.none) (dc:=.none) (pm:=My.vS "law_roadcall_k29_classes" 324) (an:=none) (cd:=.ref 163) (ct:=.none) (by kernel_rfl) (by kernel_rfl) (by kernel_rfl) (by kernel_rfl))
  (L2.aY (f:=169) (oc:=.type "function") (od:=none) (sl:=#[]) (kV:=.none) (dc:=.none) (pm:=My.vS "law_roadcall_k29_classes" 324) (an:=none) (cd:=.ref 168) (ct:=.none) (by kernel_rfl) (by kernel_rfl) (by kernel_rfl) (by kernel_rfl))
  (L2.aY (f:=174) (oc:=.type "function") (od:=none) (sl:=#[]) (kV:=.none) (dc:=.none) (pm:=My.vS "law_roadcall_k29_classes" 324) (an:=none) (cd:=.ref 173) (ct:=.none) (by kernel_rfl) (by kernel_rfl) (by kernel_rfl) (by kernel_rfl))
  (L2.aY (f:=179) (oc:=.type "function") (od:=none) (sl:=#[]) (kV:=.none) (dc:=.none) (pm:=My.vS "law_roadcall_k29_classes" 324) (an:=none) (cd:=.ref 178) (ct:=.none) (by kernel_rfl) (by kernel_rfl) (by kernel_rfl) (by kernel_rfl))
  (L2.aY (f:=184) (oc:=.type "function") (od:=none) (sl:=#[]) (kV:=.none) (dc:=.none) (pm:=My.vS "law_roadcall_k29_classes" 324) (an:=none) (cd:=.ref 183) (ct:=.none) (by kernel_rfl) (by kernel_rfl) (by kernel_rfl) (by kernel_rfl))
  (L2.aY (f:=191) (oc:=.type "function") (od:=none) (sl:=#[]) (kV:=.none) (dc:=.none) (pm:=My.vS "law_roadcall_k29_classes" 324) (an:=none) (cd:=.ref 190) (ct:=.none) (by kernel_rfl) (by kernel_rfl) (by kernel_rfl) (by kernel_rfl))
  (by kernel_rfl)
  (by kernel_rfl)
  (by kernel_rfl)
  (by kernel_rfl)
  (by kernel_rfl)
  (by kernel_rfl)
  (by kernel_rfl)
  (by kernel_rfl)
  (by kernel_rfl)
  (by kernel_rfl)
  (by kernel_rfl)
  (by kernel_rfl)
  (by kernel_rfl)
  (by kernel_rfl)
  (by kernel_rfl)
  (by kernel_rfl)
  (by kernel_rfl)
  (by kernel_rfl)
  (by kernel_rfl)
  (by kernel_rfl)
  (by kernel_rfl)
  ⟨242,by kernel_rfl⟩
