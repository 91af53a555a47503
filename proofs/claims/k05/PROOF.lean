import PyProof.Rows.All
import Wide.All
import OpenK.AllK
import Wide.FinOn
import Lean
import PySem.Challenge.RW_roadcall_k05_parts_and_hanging_together
import PyProof.EqAt
import PyProof.EqKinds
import PyProof.TupleCall
import PyProof.NeKinds
import PyProof.EnumMake
import PyProof.EnumFor
import PyProof.ZipIter
import PyProof.Rows.ZipGen
import KE.KLam
import PyProof.DictItems
import KE.KTurnsDict
import KE.KPairComp
import KE.KDictList
import KE.KRevSl
open PySem renaming Addr->ag,Value->ap,wpAny_bind->ba,Shared->bi,Str->br,wpAny_pure->ce,Expr->dL,Program->f8,Heap->gl,World->ii,Obj->i4,FuncData->l3,Around->l8,wpAny_mono->l9,boot_len->mv,Stmt->nw,Scope->rb,mem_of_lookup->rf,Pos->sB,wpAny_newObj_type->tz,Builtin->uu,wpAny_truthy_bool->wE,seg_bind_wrap->wP,Spec->wS,wpAny_call_entry->xw,wpAny_callSpecial?_slot->zn,Paired->At,wpAny_standAt->AS,Env->Cc,wpAny_Call_Name_kw->Cf,wpAny_typeNameOfWhole_keyiter->EU,Arguments->FS,TriplesOk->GE,wpAny_passesOwn->Is,wpAny_holding->IS,NameKind->LB,wpAny_setEntries_of->LS,SetTable->NE,wpAny_fieldsOf->On,Sem->Op,CmpOp->Os,wpAny_attempt->OL,sizeLine_eq->ON,codeAny_builtin->O6,DictEntry->Pd,GenState->Pe,wpAny_comprehension_free->Ph,tupleKind_room_in1->Pk,Keyword->Pn,wpAny_rule->Po,wpAny_setState_of->Pt,plainId_quiet->Pz,wpAny_askSetting->PH,wpAny_execs_nil->PM,IsPart->PN,PlainAttrs->PQ,call_meets->PR,PassesOwn->P9,wpAny_assign_Name->Qh,wpAny_pyIter_slot->Qj,wpAny_dictEntries->Ql,BindsTo->Qn,codeAny_mono->Qq,wpAny_isInstance->Qu,wpAny_typeOf->Qw,Tok->QH,seg_again->QK,pushCells_keeps->QM,wpAny_dictEpoch->QO,Result->QU,call->QV,Params->QZ
open List renaming getElem?_eq_getElem->al,getElem?_eq_some_iff->bv,getElem?_map->ca,getD_eq_getElem?_getD->cb,length_map->cr,mem_of_getElem?->db,size_toArray->ff,mem_cons_of_mem->gc,range->io,mem_cons_self->i8,mem_cons->lc,mem_append_right->li,mem_iff_getElem?->l7,mem_map->ma,mem_singleton->mf,getElem?_append_left->ol,replicate->on,getElem?_append_right->r9,map_cons->ss,getElem_mem->tw,map_append->ut,all_eq_true->u7,length_append->v6,replicate_succ->wb,mem_append->wT,lookup_cons->xp,map_map->zd,mem_append_left->zw,drop_eq_getElem_cons->AL,getElem?_cons_succ->BB,getElem?_set->BS,append_nil->BY,getElem?_range->B0,getElem?_eq_none->Cn,length_set->Da,nil_append->Db,Nodup->EN,flatten_cons->EO,append_assoc->EQ,eq_nil_of_length_eq_zero->ET,getElem?_replicate->Fa,mem_filter->GT,nodup_cons->Ix,length_replicate->ID,getElem?_zip_eq_some->JJ,pairwise_iff_getElem->KF,mem_range->Lo,length_cons->LF,filter_cons->LG,filterMap_cons->LP,of_mem_zip->Na,find?_cons->Nl,zip_cons_cons->No,length_singleton->NL,drop_length->OE,any_cons->OK,length_reverse->OR,length_nil->O9,length_zip->Pa,mem_or_eq_of_mem_set->Pc,length_range->Pr,getElem?_set_self->Pv,length_pos_of_mem->Px,all_cons->Py,Perm->PK,length_filter_le->PL,map_nil->PU,getElem?_append->PX,map_congr_left->P1,mem_filterMap->Qa,getElem?_drop->Qb,reverse_cons->Qi,ext_getElem?->Qk,nodup_append->Qm,length_take->Qr,length_drop->Qs,not_mem_nil->Qv,cons_append->Qz,mem_reverse->QC,filter_map->QP
open PySem.W renaming Frag->bn,mg_none_of->l5,nsIn->l6,CodeHd->qr,fnOf->wp,hideAll->wv,keepIn->xL,kia_one->ze,codeIn->Ch,kla_obj->IR,tabObj->Lu,envX->LH,mg_of->MW,hideAll_get->OP,looseW->P2,kitOne->P4,of_hideAll->P8,kb_classed->Qc,recOk->Qd,excIn->Qf,methodObj->Qg,xlAt->Qo,opening->QD,instObj->QJ,OpenLaw->QN
open PySem.Heap renaming get?_push_of_some->ci,lt_size->im,get?_push_size->i1,get?_update_other->xb,size_push->AT,get?_update_self->IF,SameBut->NJ
open Nat renaming le_refl->c8,lt_of_lt_of_le->kw,ne_of_lt->lw,le_trans->r6,zero_le->sK,lt_irrefl->AN,lt_succ_of_lt->BN,lt_succ_self->FF,le_succ->FM,le_of_lt->Gc,min_self->GM,lt_of_le_of_lt->GS,not_lt_zero->O7,lt_trans->Pi,sub_self->Pl,le_of_not_lt->PF,ne_of_gt->Qp,le_of_eq->QB,not_lt->QY
open Bool renaming false_ne_true->ge,false_eq_true->l4,and_eq_true->u4,eq_iff_iff->O5,or_eq_true->O8,false_and->Pm,true_and->PD,not_true->Qe
open Option.some renaming inj->hX,injEq->ES
open PySem.SeqAt renaming EqAt->ij,RcNeAt->jp,RcAt->lp
open Option renaming map_eq_some_iff->kt,map_some->AE,some->NG,isSome_map->NH,join_some->Qx,bind_some->Qy
open PySem.NameKind renaming free->mo,cell->Mn
open PySem.Value renaming ref->mT,none->Cs,type->IT,str->PJ,int->QF,bool->QX
open Or renaming inl->nl,inr->Do
open PySem.PassesOwn renaming never->sw
open Array renaming length_toList->ul,getElem?_eq_getElem->Co,getElem?_toList->IN,getElem?_eq_none->Pw,toList_append->PZ
open Int renaming toNat_natCast->u8,zero_add->DD,eq_ofNat_of_zero_le->Fk,emod_nonneg->PY
open PySem.F renaming plainAttrs_list->wn,slot_dict_keyiterator_next->xz,slot_list_append->DO,type_list_append->EM,plain_list_iadd->Pu,plain_all_loop->Qt
open PySem.SetTable renaming below->wr
open PySem.Str renaming ofString->ww
open Ne renaming symm->xy
open False renaming elim->AC
open Sum renaming inl->AM,inr->P3
open True renaming intro->CS
open PyProof.Rows renaming callWith_type1->Go,slot_tuple_getitem->Mc,IntsAre->NO,BMod->P5,AllBare->QR
open PySem.Builtin.List renaming listExtendWith->GG,listTooLong->Pg
open PySem.Around renaming under_plainId->KB
open PySem.Builtin.Slice renaming slicePlaces->KM,sliceAdjust->Pb
open PySem.W.Fast renaming tw821141287760084731->Ll
open PySem.Builtin.Tuple renaming tupleExact->LM
open Classical renaming propDecidable->Me
open PySem.Obj renaming mapSeq->Nd,data_mapFields->Pj
open PySem.Paired renaming length->OF
open PySem.Calls renaming spliced_cons->Pf,spliced_nil->Pq
open PySem.SetTable.below renaming go->Ps
open PySem.SeqAt.EqAt renaming same->PP,int_str->P6,str_int->P7
open ForInStep renaming yield->PV
open PySem.Heap.SameBut renaming update->P0
open And renaming intro->Q0
set_option linter.all false
set_option Elab.async false
set_option maxRecDepth 100000
namespace My
open PySem PyProof.Rows
def kA (s:nw):FS:=match s with
 | .FunctionDef _ a _ _ _ _ _ _ _ _=>a
 |_=>{posonlyargs:=[],args:=[],vararg:=none,kwonlyargs:=[],kw_defaults:=[],kwarg:=none,defaults:=[]}
def kB (s:nw):List nw:=match s with
 | .FunctionDef _ _ b _ _ _ _ _ _ _=>b
 |_=>[]
def kS (s:nw):rb:=match s with
 | .FunctionDef _ _ _ _ _ _ sc _ _ _=>sc
 |_=>{kind:=.function,names:=[],isGenerator:=false,isCoroutine:=false}
def vS (x:String) (t:Nat):ap:=.str (ww x) t
def kE (P:QZ) (x:String) (t:Nat) (v:ap):Pd:=⟨PyData.keyHash P (ww x),vS x t,v⟩
def kF (i:Nat) (x:String) (d m:ap) (c:Nat):i4:=let st:=PySem.Challenge.pw_roadcall_k05_parts_and_hanging_together.main.body.getD i (.Pass ⟨0,0,0,0⟩);⟨.type "function",none,.func (wp (ww x) (ww x) (kA st) (kB st) (kS st) d .none .none m none (.ref c) .none),#[]⟩
def kC (x:String) (t:Nat) (l n f:Int) (a:Nat) (b:Bool) (m:Int) (p:Nat) (u z:ap) (q:Nat) (e:Int) (t2:Nat):i4:=⟨.type "code",none,.fields #[vS x t,vS x (t+1),vS "/claim/cut.py" (t+2),.int l 0,.int n 0,.int 0 0,.int 0 0,.int f 0,.ref a,.bool b,.int m 0,.ref p,.none,u,z,.ref q,.int e 0,.int l 0,vS "/claim/cut.py" t2],#[]⟩
def kK (P:QZ):bn:=[(2,⟨.none,none,.dict [].toArray 0,#[]⟩),
 (3,⟨.type "dict",none,.dict [kE P "__name__" 165 (vS "law_roadcall_k05_parts_and_hanging_together" 313),kE P "__doc__" 166 .none,kE P "__package__" 167 .none,kE P "__loader__" 168 (.builtin "__main__.__loader__#opaque"),kE P "__spec__" 169 .none,kE P "__annotations__" 170 (.ref 6),kE P "__builtins__" 171 (.ref 4),kE P "__file__" 173 (vS "/claim/cut.py" 172),kE P "__cached__" 174 .none,kE P "RoadError" 206 (.ref 24),kE P "NoNet" 222 (.ref 37),kE P "is_whole" 231 (.ref 46),kE P "is_whole_below" 239 (.ref 53),kE P "SIGNS" 243 (vS "abc" 242),kE P "MOST_PLACES" 245 (.int 9 244),kE P "is_row" 255 (.ref 60),kE P "is_net" 264 (.ref 67),kE P "need_net" 271 (.ref 74),kE P "MOST_SETS" 275 (.int 511 274),kE P "first_met" 290 (.ref 82),kE P "first_words" 299 (.ref 89),kE P "parts" 305 (.ref 94),kE P "hangs_together" 312 (.ref 101),kE P "_law_bag" 325 (.ref 108),kE P "_law_take" 336 (.ref 115),kE P "_law_order" 347 (.ref 122),kE P "_law_net" 353 (.ref 127),kE P "_law_reach" 359 (.ref 132),kE P "_law_whole" 365 (.ref 137),kE P "_law_parts" 371 (.ref 142),kE P "_law_backwards" 377 (.ref 147),kE P "_law_right" 388 (.ref 154),kE P "law" 397 (.ref 161)].toArray 33,#[]⟩),
 (23,⟨.type "dict",none,.dict [kE P "__module__" 196 (vS "roadcall.errors" 187),kE P "__firstlineno__" 200 (.int 2 199),kE P "__static_attributes__" 201 (.ref 22),kE P "__weakref__" 203 (.ref 25),kE P "__doc__" 204 .none].toArray 3,#[]⟩),
 (24,⟨.type "type",none,.cls {name:=ww "RoadError",bases:=[.type "ValueError"],mro:=[.ref 24,.type "ValueError",.type "Exception",.type "BaseException",.type "object"],ns:=23,qualname:=ww "RoadError",subclasses:=[.ref 37]},#[some (.ref 15),none,some (vS "RoadError" 189),some (vS "RoadError" 197),some (.builtin "ValueError.__new__"),some (.bool true)]⟩),
 (36,⟨.type "dict",none,.dict [kE P "__module__" 214 (vS "roadcall.errors" 187),kE P "__firstlineno__" 218 (.int 4 217),kE P "__static_attributes__" 219 (.ref 35),kE P "__doc__" 220 .none].toArray 2,#[]⟩),
 (37,⟨.type "type",none,.cls {name:=ww "NoNet",bases:=[.ref 24],mro:=[.ref 37,.ref 24,.type "ValueError",.type "Exception",.type "BaseException",.type "object"],ns:=36,qualname:=ww "NoNet",subclasses:=[]},#[some (.ref 28),none,some (vS "NoNet" 207),some (vS "NoNet" 215),some (.builtin "ValueError.__new__"),some (.bool true)]⟩),
 (45,kC "is_whole" 225 7 1 3 40 true 181 41 (.ref 42) (.ref 43) 44 229 230),
 (46,kF 4 "is_whole" .none (vS "roadcall.whole" 223) 45),
 (52,kC "is_whole_below" 232 9 2 3 47 true 181 48 (.ref 49) (.ref 50) 51 237 238),
 (53,kF 5 "is_whole_below" .none (vS "roadcall.whole" 223) 52),
 (59,kC "is_row" 246 14 3 3 54 true 181 55 (.ref 56) (.ref 57) 58 253 254),
 (60,kF 9 "is_row" .none (vS "roadcall.nets" 240) 59),
 (66,kC "is_net" 256 18 1 3 61 true 181 62 (.ref 63) (.ref 64) 65 262 263),
 (67,kF 10 "is_net" .none (vS "roadcall.nets" 240) 66),
 (73,kC "need_net" 265 26 1 3 68 true 181 69 (.ref 70) (.ref 71) 72 269 270),
 (74,kF 11 "need_net" .none (vS "roadcall.nets" 240) 73),
 (75,⟨.type "tuple",none,.seq #[.int 511 274] 0,#[]⟩),
 (81,kC "first_met" 276 31 4 3 76 true 181 77 (.ref 78) (.ref 79) 80 288 289),
 (82,kF 14 "first_met" (.ref 75) (vS "roadcall.ways" 272) 81),
 (88,kC "first_words" 291 42 2 3 83 true 181 84 (.ref 85) (.ref 86) 87 297 298),
 (89,kF 15 "first_words" .none (vS "roadcall.ways" 272) 88),
 (93,kC "parts" 300 44 1 3 90 true 181 91 .none .none 92 303 304),
 (94,kF 16 "parts" .none (vS "roadcall.ways" 272) 93),
 (100,kC "hangs_together" 306 53 1 3 95 true 181 96 (.ref 97) (.ref 98) 99 310 311),
 (101,kF 17 "hangs_together" .none (vS "roadcall.ways" 272) 100),
 (107,kC "_law_bag" 315 56 2 3 102 true 181 103 (.ref 104) (.ref 105) 106 323 324),
 (108,kF 19 "_law_bag" .none (vS "law_roadcall_k05_parts_and_hanging_together" 313) 107),
 (114,kC "_law_take" 326 66 2 3 109 true 181 110 (.ref 111) (.ref 112) 113 334 335),
 (115,kF 20 "_law_take" .none (vS "law_roadcall_k05_parts_and_hanging_together" 313) 114),
 (121,kC "_law_order" 337 78 2 3 116 true 181 117 (.ref 118) (.ref 119) 120 345 346),
 (122,kF 21 "_law_order" .none (vS "law_roadcall_k05_parts_and_hanging_together" 313) 121),
 (126,kC "_law_net" 348 84 2 3 123 true 181 124 .none .none 125 351 352),
 (127,kF 22 "_law_net" .none (vS "law_roadcall_k05_parts_and_hanging_together" 313) 126),
 (131,kC "_law_reach" 354 106 1 3 128 true 181 129 .none .none 130 357 358),
 (132,kF 23 "_law_reach" .none (vS "law_roadcall_k05_parts_and_hanging_together" 313) 131),
 (141,kC "_law_parts" 366 115 1 3 138 true 181 139 .none .none 140 369 370),
 (142,kF 25 "_law_parts" .none (vS "law_roadcall_k05_parts_and_hanging_together" 313) 141),
 (146,kC "_law_backwards" 372 123 1 3 143 true 181 144 .none .none 145 375 376),
 (147,kF 26 "_law_backwards" .none (vS "law_roadcall_k05_parts_and_hanging_together" 313) 146),
 (153,kC "_law_right" 378 126 1 3 148 true 181 149 (.ref 150) (.ref 151) 152 386 387),
 (154,kF 27 "_law_right" .none (vS "law_roadcall_k05_parts_and_hanging_together" 313) 153),
 (160,kC "law" 389 136 1 3 155 true 181 156 (.ref 157) (.ref 158) 159 395 396),
 (161,kF 28 "law" .none (vS "law_roadcall_k05_parts_and_hanging_together" 313) 160)]
def Mm:List ag:=[2,3,23,24,36,37,45,46,52,53,59,60,66,67,73,74,75,81,82,88,89,93,94,100,101,107,108,114,115,121,122,126,127,131,132,141,142,146,147,153,154,160,161]
def kq:f8:=PySem.W.view PySem.Challenge.pw_roadcall_k05_parts_and_hanging_together [1,2,4,5,7,8,9,10,11,13,15,16,17,19,20,21,22,23,24,25,26,27,28]
def kL:List br:=[ww "first_met"]
def kH:PySem.W.Hook:=PySem.W.kHook kK Mm fun _=>by kernel_rfl
theorem CK {r:PySem.W.OpenRow} {q:f8} {loose:List br} {H:PySem.W.Hook} {d:DefRec} {Ej:List (br×dL)} {N:Nat} (left:PySem.W.LeftO r.prog q loose (fun s=>Qo q [] s && Qd r.records s) H.obs H.val N)
  (qS:PySem.W.defOf q r.name=some (d,Ej)) (hp:r.prog.theDef r.name=some (d.params,d.body,d.scope)) (hk:PySem.W.kwWritten? d.params.kwonlyargs d.params.kw_defaults=some Ej) (Mp:(!r.writes || r.records.isEmpty)=true) (k1:r.wellSaid=true)
  (ok:(PySem.W.chainsOk q && PySem.W.opensWell r.prog && (PySem.W.frees r.toRowW && r.within.isEmpty))=true) (hb:r.prog.bare) (hw:r.toRowW.promised) (call:PySem.W.WalkO q loose (PySem.W.XL q []) H.says r.toRowW d Ej fun f vs=>QV f vs):r.Holds:=
 PySem.W.holds_open left H.of H.keeps (fun s e=>PySem.W.xl_of s (Bool.and_eq_true_iff.mp e).1) PySem.W.XL.keeps qS hp hk (fun s e=>PySem.W.recFacts_of (Bool.and_eq_true_iff.mp e).2) Mp k1 ok hb hw call
noncomputable def oeQ (p:f8) (w:ii) (N:Nat):Option bi:=((PySem.W.Fast.tw10274390034422433532 PySem.W.Fast.tw14364793385576792824 (QD p) w N (PySem.W.Fast.tw1435165496053646825 (QD p)).1 (PySem.W.Fast.tw1435165496053646825 (QD p)).2).bind (PySem.W.Fast.tw14289696077712309145 p)).bind fun s₀=>match s₀.heap.isNs PySem.mainGlobals && s₀.gens.size==0 with
 |true=>(PySem.W.Fast.tw14082659384304107361 PySem.W.Fast.tw14364793385576792824 p w s₀.heap.objs.size (s₀.heap.nsMap PySem.mainGlobals "__annotations__") N s₀ (PySem.W.topStub p)).bind fun az=>match PySem.W.staticsOk (importedModules p.main.body) s₀.heap az.heap && PySem.W.namesBound p az.heap && PySem.W.gensDone az && PySem.W.laidKept s₀.heap az.heap with
   |true=>some az
   |false=>none
 |false=>none
theorem Ih (p:f8) (w:ii) (N:Nat):PySem.W.openEnds treeTable p w N=oeQ p w N :=by
 unfold oeQ
 rw [<- PySem.W.Fast.te10274390034422433532,<- PySem.W.Fast.te14364793385576792824,<- PySem.W.Fast.te1435165496053646825,<- PySem.W.Fast.te14289696077712309145,<- PySem.W.Fast.te14082659384304107361]
 rfl
noncomputable def nsQ (q:f8):List br:=(PySem.W.Fast.tw3399658132070893891 q).map (·.name)
theorem Bu (q:f8):(recsOf q).map (·.name)=nsQ q :=by unfold nsQ;rw [<- PySem.W.Fast.te3399658132070893891]
noncomputable def c1Q (s:bi):=PySem.W.Fast.tw5160383126252970620 (nsQ kq) (PySem.W.Fast.tw5991557255702980513 kq) [] {s with gens:=#[]}
theorem Ii (s:bi):seen ((recsOf kq).map (·.name)) (ownsOf kq) [] {s with gens:=#[]}=c1Q s :=by unfold c1Q;rw [Bu,<- PySem.W.Fast.te5160383126252970620,<- PySem.W.Fast.te5991557255702980513]
def c2 (s:bi):=(s.heap.bltView,s.heap.keysOk (P2 kq kL) ((recsOf kq).map (·.name)) ((litsOf kq).map (·.1)) ((clssOf kq (P2 kq kL)).map (·.name)) && s.heap.accountedOkI (importedModules PySem.Challenge.pw_roadcall_k05_parts_and_hanging_together.main.body) && s.heap.isNs mainGlobals && s.heap.isNs builtinsNs && tablesOk kq s.heap && (Qo kq [] s && Qd [] s) && (s.gens.size==0))
noncomputable def c2Q (s:bi):=(s.heap.bltView,PySem.W.Fast.tw10880121769531294198 s.heap (Ll kq kL) (nsQ kq) ((PySem.W.Fast.tw7409074990110511671 kq).map (·.1)) ((PySem.W.Fast.tw13664370479719496447 kq (Ll kq kL)).map (·.name)) && PySem.W.Fast.tw14722251495701143533 s.heap (importedModules PySem.Challenge.pw_roadcall_k05_parts_and_hanging_together.main.body) && s.heap.isNs mainGlobals && s.heap.isNs builtinsNs && PySem.W.Fast.tw10994771534591457954 kq s.heap && (Qo kq [] s && Qd [] s) && (s.gens.size==0))
theorem Ij (s:bi):c2 s=c2Q s :=by unfold c2 c2Q;rw [Bu,<- PySem.W.Fast.te10880121769531294198,<- PySem.W.Fast.te821141287760084731,<- PySem.W.Fast.te7409074990110511671,<- PySem.W.Fast.te13664370479719496447,<- PySem.W.Fast.te14722251495701143533,<- PySem.W.Fast.te10994771534591457954]
def c3 (s:bi):=tabsOk kq s
def c5 (s:bi):=plainSeenE kq (P2 kq kL) s
def c4 (s:bi):=(PySem.pinSeenD kq (drecsOf kq) s,plainSeenD kq kL s,PySem.W.wideSeen kq s,PySem.W.clsSeenW kq kL s)
noncomputable def c3Q (s:bi):=PySem.W.Fast.tw479339242167458305 kq s
noncomputable def c5Q (s:bi):=PySem.W.Fast.tw2386780881361962483 kq (Ll kq kL) s
noncomputable def c4Q (s:bi):=(PySem.W.Fast.tw16090120013241838585 kq (PySem.W.Fast.tw3247288618530077131 kq) s,PySem.W.Fast.tw11698064438423848299 kq kL s,PySem.W.Fast.tw7317090234206586261 kq s,PySem.W.Fast.tw7369524293546568484 kq kL s)
theorem Ik (s:bi):c3 s=c3Q s :=by unfold c3 c3Q;rw [<- PySem.W.Fast.te479339242167458305]
theorem Il (s:bi):c5 s=c5Q s :=by unfold c5 c5Q;rw [<- PySem.W.Fast.te2386780881361962483,<- PySem.W.Fast.te821141287760084731]
theorem Im (s:bi):c4 s=c4Q s :=by unfold c4 c4Q;rw [<- PySem.W.Fast.te16090120013241838585,<- PySem.W.Fast.te3247288618530077131,<- PySem.W.Fast.te11698064438423848299,<- PySem.W.Fast.te7317090234206586261,<- PySem.W.Fast.te7369524293546568484]
set_option maxHeartbeats 0 in
theorem left0 (w:ii):(oeQ PySem.Challenge.pw_roadcall_k05_parts_and_hanging_together w 2208).map (fun s=>kH.obs s)=some (kH.val w) :=by kernel_rfl
set_option maxHeartbeats 0 in
theorem left1 (w:ii):(oeQ PySem.Challenge.pw_roadcall_k05_parts_and_hanging_together w 2208).map c1Q=some (expectedOf kq) :=by kernel_rfl
set_option maxHeartbeats 0 in
theorem left2 (w:ii):(oeQ PySem.Challenge.pw_roadcall_k05_parts_and_hanging_together w 2208).map c2Q=some (bltViewBooted,true) :=by kernel_rfl
set_option maxHeartbeats 0 in
theorem left3 (w:ii):(oeQ PySem.Challenge.pw_roadcall_k05_parts_and_hanging_together w 2208).map c3Q=some true :=by kernel_rfl
set_option maxHeartbeats 0 in
theorem left5 (w:ii):(oeQ PySem.Challenge.pw_roadcall_k05_parts_and_hanging_together w 2208).map c5Q=some (plainGoodE kq (P2 kq kL)) :=by kernel_rfl
set_option maxHeartbeats 0 in
theorem left4 (w:ii):(oeQ PySem.Challenge.pw_roadcall_k05_parts_and_hanging_together w 2208).map c4Q=some (PySem.pinGoodD (drecsOf kq),plainGoodD kq kL,PySem.W.wideGood kq,PySem.W.clsGoodW kq kL) :=by kernel_rfl
theorem left (w:ii):(PySem.W.openEnds treeTable PySem.Challenge.pw_roadcall_k05_parts_and_hanging_together w 2208).map (fun s=>(PySem.W.openSeen kq kL (importedModules PySem.Challenge.pw_roadcall_k05_parts_and_hanging_together.main.body) (fun s=>Qo kq [] s && Qd [] s) true s,kH.obs s))=some (PySem.W.openGood kq kL,kH.val w) :=by
 rw [Ih]
 have a0:=left0 w
 have a1:=left1 w
 have a2:=left2 w
 have a3:=left3 w
 have a4:=left4 w
 have a5:=left5 w
 revert a0 a1 a2 a3 a4 a5
 generalize oeQ PySem.Challenge.pw_roadcall_k05_parts_and_hanging_together w 2208=o
 cases o with
 |none=>intro a0;cases a0
 |some s=>
  intro a0 a1 a2 a3 a4 a5
  have a0:kH.obs s=kH.val w:=hX a0
  have a1:=hX a1
  have a2:=hX a2
  have a3:=hX a3
  have a4:=hX a4
  have a5:=hX a5
  rw [<- Ii] at a1
  rw [<- Ij] at a2
  rw [<- Ik] at a3
  rw [<- Im] at a4
  rw [<- Il] at a5
  show some ((seen ((recsOf kq).map (·.name)) (ownsOf kq) [] {s with gens:=#[]},(c2 s).1,(c2 s).2,c3 s,(c4 s).1,c5 s,(c4 s).2),kH.obs s)=_
  rw [a0,a1,a2,a3,a4,a5]
  rfl
end My
namespace L2
open PySem PySem.Spec PyProof.Rows
abbrev Key:=Sum Int br
def lq:Key->ap->Bool
 | .inl k,v=>ap.isInt k v
 | .inr x,v=>ap.isStrOf x v
def KY (w:ii):Key->Int
 | .inl k=>hashInt k
 | .inr x=>hashStr w x
theorem bP:∀{k:Key} {v:ap},lq k v=true->(∃i t,k=AM i/\v=QF i t)\/(∃x t,k=P3 x/\v=PJ x t)
 | .inl i,v,h=>by
          obtain ⟨t,e⟩:=ap.isInt_shape (k:=i) (v:=v) h
          exact .inl ⟨i,t,rfl,e⟩
 | .inr x,v,h=>by
          obtain ⟨t,e⟩:=ap.isStrOf_shape (x:=x) (v:=v) h
          exact .inr ⟨x,t,rfl,e⟩
theorem wQ (i:Int) (t:QH):lq (.inl i) (.int i t)=true :=by simp [lq,ap.isInt]
theorem wR (x:br) (t:QH):lq (.inr x) (.str x t)=true :=by simp [lq,ap.isStrOf]
theorem Ek (a b:Int):decide ((AM a:Key)=AM b)=(a==b) :=by
 by_cases e:a=b
 ·subst e;simp
 ·have h:¬ (AM a:Key)=AM b:=fun q=>e (AM.inj q)
  rw [decide_eq_false h]
  exact (beq_eq_false_iff_ne.mpr e).symm
theorem El (a b:br):decide ((P3 a:Key)=P3 b)=decide (a=b) :=by
 by_cases e:a=b
 ·subst e;simp
 ·have h:¬ (P3 a:Key)=P3 b:=fun q=>e (P3.inj q)
  rw [decide_eq_false h,decide_eq_false e]
theorem Em (a:Int) (b:br):decide ((AM a:Key)=P3 b)=false:=decide_eq_false (fun q=>nomatch q)
theorem En (a:br) (b:Int):decide ((P3 a:Key)=AM b)=false:=decide_eq_false (fun q=>nomatch q)
def bj (prog:f8) (w:ii):PySem.KeyKind prog w Key where
 is:=lq
 hash:=KY w
 inj:=fun v a b ha hb=>by
  rcases bP ha with ⟨i,t,rfl,rfl⟩|⟨x,t,rfl,rfl⟩
  ·rcases bP hb with ⟨j,u,rfl,e⟩|⟨y,u,rfl,e⟩
   ·injection e with e1 _;rw [e1]
   ·exact nomatch e
  ·rcases bP hb with ⟨j,u,rfl,e⟩|⟨y,u,rfl,e⟩
   ·exact nomatch e
   ·injection e with e1 _;rw [e1]
 byValue:=fun k v h=>by
  rcases bP h with ⟨i,t,rfl,rfl⟩|⟨x,t,rfl,rfl⟩ <;> rfl
 pyHash:=fun hv h=>by
  rcases bP hv with ⟨i,t,rfl,rfl⟩|⟨x,t,rfl,rfl⟩
  ·exact wpAny_pyHash_int h
  ·exact wpAny_pyHash_str h
 eqBool:=fun hu hv h=>by
  rcases bP hu with ⟨i,t,rfl,rfl⟩|⟨x,t,rfl,rfl⟩
  ·rcases bP hv with ⟨j,u,rfl,rfl⟩|⟨y,u,rfl,rfl⟩
   ·rw [Ek] at h;exact wpAny_eqBool_int h
   ·rw [Em] at h;exact P6 i t y u _ _ _ _ h
  ·rcases bP hv with ⟨j,u,rfl,rfl⟩|⟨y,u,rfl,rfl⟩
   ·rw [En] at h;exact P7 x t j u _ _ _ _ h
   ·rw [El] at h;exact wpAny_eqBool_str h
 «strs»:=fun k x t v h=>by
  rcases bP h with ⟨i,u,rfl,e⟩|⟨y,u,rfl,e⟩
  ·exact nomatch e
  ·injection e with e1 _
   subst e1
   cases v <;> rfl
theorem tQ (prog:f8) (w:ii) (i:Int) (t:QH):(bj prog w).is (.inl i) (.int i t)=true:=wQ i t
theorem tR (prog:f8) (w:ii) (x:br) (t:QH):(bj prog w).is (.inr x) (.str x t)=true:=wR x t
inductive V where
 |ao|bl (b:Bool)|int (i:Int)|str (x:br)|il (b:Array UInt8)|uh (b:UInt64)|ref (a:ag)|ty (n:String)
 deriving DecidableEq
def RelV:V->ap->Prop
 | .ao,u=>u=Cs
 | .bl b,u=>u=QX b
 | .int i,u=>∃t,u=QF i t
 | .str x,u=>∃t,u=PJ x t
 | .il b,u=>∃t,u=ap.bytes b t
 | .uh b,u=>∃t,u=ap.float b t
 | .ref a,u=>u=mT a
 | .ty n,u=>u=IT n
abbrev Vals:List V->List ap->Prop:=At RelV
theorem Vals.length {xs:List V} {us:List ap} (r:Vals xs us):xs.length=us.length:=OF r
theorem Vals.get:∀{xs:List V} {us:List ap} {i:Nat} {x:V},Vals xs us->xs[i]?=some x->∃u,us[i]?=some u/\RelV x u
 |_,_,_,_,.nil,e=>by simp at e
 |_,_,0,_,.cons r _,e=>by simp at e;subst e;exact ⟨_,rfl,r⟩
 |_,_,i+1,x,.cons _ t,e=>by
          obtain ⟨u,h1,h2⟩:=Vals.get (i:=i) (x:=x) t (by simpa using e)
          exact ⟨u,by simpa using h1,h2⟩
theorem Vals.set {x:V} {u:ap} (r:RelV x u):∀{xs:List V} {us:List ap} (i:Nat),Vals xs us->Vals (xs.set i x) (us.set i u)
 |_,_,_,.nil=>.nil
 |_,_,0,.cons _ t=>.cons r t
 |_,_,i+1,.cons q t=>.cons q (Vals.set r i t)
theorem Vals.append:∀{xs ys:List V} {us ws:List ap},Vals xs us->Vals ys ws->Vals (xs++ys) (us++ws)
 |_,_,_,_,.nil,s=>s
 |_,_,_,_,.cons r t,s=>.cons r (Vals.append t s)
theorem Vals.take:∀{xs:List V} {us:List ap} (n:Nat),Vals xs us->Vals (xs.take n) (us.take n)
 |_,_,0,_=>.nil
 |_,_,_+1,.nil=>.nil
 |_,_,n+1,.cons r t=>.cons r (Vals.take n t)
theorem Vals.drop:∀{xs:List V} {us:List ap} (n:Nat),Vals xs us->Vals (xs.drop n) (us.drop n)
 |_,_,0,r=>r
 |_,_,_+1,.nil=>.nil
 |_,_,n+1,.cons _ t=>Vals.drop n t
def ip:Option V->Option ap->Prop
 |some v,some u=>RelV v u
 |none,none=>True
 |_,_=>False
def KV {κ:Type}:List (κ×V)->List (κ×ap)->Prop:=At fun (p:κ×V) (q:κ×ap)=>p.1=q.1/\RelV p.2 q.2
def kV:Key->V
 | .inl i=>.int i
 | .inr x=>.str x
inductive HO where
 |lst (xs:List V)
 |tup (xs:List V)
 |dK (ai:List (Key×V))|dT (ai:List (List Key×V))
 |set (S:Int->Bool) (n:Nat)
 |ins (C dx:ag) (fs:List (br×V))
 |own (x:ag)
 |xd (fs:List (br×V))
 |met (f x:ag)
 |Bv (lo hi:Int)
 |bp (o:i4) (u:HO)
 |cz (ps:Array ap)
 |lam (ps:Array ap)
 |ext (φ:gl->Prop)
abbrev Hp:=ag->Option HO
def upd (H:Hp) (a:ag) (o:HO):Hp:=fun b=>if b=a then some o else H b
theorem aA {H:Hp} {a:ag} {o:HO}:upd H a o a=some o :=by unfold upd;rw [if_pos rfl]
theorem ae {H:Hp} {a b:ag} {o:HO} (h:b≠a):upd H a o b=H b :=by unfold upd;rw [if_neg h]
theorem vf {H:Hp} {a b:ag} {o u:HO} (h:H a=some o) (h':H b=some u) (d:o≠u):a≠b :=by
 intro e;subst e;rw [h] at h';exact d (hX h')
theorem aU {H:Hp} {a b:ag} {o:HO} (h:H a=some o) (h':H b=none):a≠b :=by
 intro e;subst e;rw [h] at h';cases h'
section
variable (P:f8) (w:ii)
def jj (h:gl) (a:ag) (items:Array ap):Prop:=∃o,h.get? a=some o/\o.cls=.type "tuple" /\ ∃n,o.data=.seq items n/\o.dict=none
theorem jj.tup {h:gl} {a:ag} {items:Array ap} (x:jj h a items):IsTup h a items:=let ⟨o,e,c,n,d,_⟩:=x;⟨o,e,c,n,d⟩
theorem jj.lt {h:gl} {a:ag} {items:Array ap} (x:jj h a items):a<h.objs.size:=x.tup.lt
theorem jj.new (h:gl) (items:Array ap):jj (h.push {cls:=.type "tuple",data:=.seq items}) h.objs.size items:=⟨_,i1 _ rfl,rfl,_,rfl,rfl⟩
def ObjOk (H:Hp) (h:gl) (a:ag):HO->Prop
 | .lst xs=>xs.length<=sizeLine/\∃(its:List ap) (n:Nat),Vals xs its/\h.get? a=some {cls:=.type "list",data:=.seq its.toArray n}
 | .tup xs=>xs.length<=sizeLine/\∃its:List ap,Vals xs its/\jj h a its.toArray
 | .dK ai=>ai.length<=sizeLine/\(a==sysModules)=false/\∃vs,KV ai vs/\h.DictOf (bj P w) a vs
 | .dT ai=>ai.length<=sizeLine/\(a==sysModules)=false/\∃xs:List (List Key×ag×ap),
   At (fun (p:List Key×V) (q:List Key×ag×ap)=>p.1=q.1/\H q.2.1=some (.tup (p.1.map kV))/\RelV p.2 q.2.2) ai xs /\
   ∃o es ep,h.get? a=some o/\o.ExactDict/\o.data=.dict es ep/\es.toList=xs.map (entryOfKey (tupleKind (bj P w)))/\(xs.map (·.1)).Nodup
 | .set S n=>h.SetOf (intKind P w) a S n
 | .ins C dx fs=>H dx=some (.own a)/\fs.length<=1000/\dx≠a/\h.get? a=some (QJ C dx) /\
   ∃mA,h.Ns1 dx mA/\(∀f,ip (fs.lookup f) (mA f))/\PySem.Within mA (fs.map (·.1))
 | .own _=>∃o,h.get? a=some o
 | .xd fs=>∃mA,h.Ns1 a mA/\∀f,ip (fs.lookup f) (mA f)
 | .Bv lo hi=>∃t u v,h.get? a=some {cls:=.type "range",data:=.fields #[.int lo t,.int hi u,.int 1 v]}
 | .bp o u=>h.get? a=some o/\ObjOk H h a u
 | .cz ps=>h.get? a=some {cls:=.none,data:=.fields ps}
 | .lam ps=>h.get? a=some {cls:=.none,data:=.fields ps}
 | .met f x=>h.get? a=some (Qg (.ref f) (.ref x))
 | .ext φ=>φ h/\(∃o,h.get? a=some o)/\∀h1 h2:gl,φ h1->(∀o,h1.get? a=some o->h2.get? a=some o)->φ h2
def cg (H:Hp) (h:gl):Prop:=∀a o,H a=some o->ObjOk P w H h a o
end
section
variable {P:f8} {w:ii} {H H':Hp} {h h':gl} {a:ag} {o:HO}
theorem ObjOk.lt (x:ObjOk P w H h a o):a<h.objs.size :=by
 cases o with
 |lst xs=>obtain ⟨_,_,_,_,e⟩:=x;exact im e
 |tup xs=>obtain ⟨_,_,_,p⟩:=x;exact p.lt
 |dK ai=>obtain ⟨_,_,_,_,o,_,_,e,_⟩:=x;exact im e
 |dT ai=>obtain ⟨_,_,_,_,o,_,_,e,_⟩:=x;exact im e
 |set S n=>obtain ⟨o,_,_,_,e,_⟩:=x;exact im e
 |ins C dx fs=>obtain ⟨_,_,_,e,_⟩:=x;exact im e
 |own y=>obtain ⟨_,e⟩:=x;exact im e
 |xd fs=>obtain ⟨_,⟨_,_,_,e,_⟩,_⟩:=x;exact im e
 |Bv lo hi=>obtain ⟨_,_,_,e⟩:=x;exact im e
 |bp ob u=>obtain ⟨e,_⟩:=x;exact im e
 |cz ps=>exact im (show h.get? a=some _ from x)
 |lam ps=>exact im (show h.get? a=some _ from x)
 |met f y=>exact im (show h.get? a=some _ from x)
 |ext φ=>obtain ⟨_,⟨_,e⟩,_⟩:=x;exact im e
theorem At.zL {α β:Type} {F G:α->β->Prop}:∀{Eo:List α} {Ep:List β},At F Eo Ep->(∀a b,F a b->G a b)->At G Eo Ep
 |_,_,.nil,_=>.nil
 |_,_,.cons r t,f=>.cons (f _ _ r) (At.zL t f)
theorem ObjOk.cO (x:ObjOk P w H h a o) (k:∀b u,(b=a\/H b=some (.own a))->h.get? b=some u->h'.get? b=some u)
  (ho:∀b,H b=some (.own a)->H' b=some (.own a)) (ht:∀b xs,H b=some (.tup xs)->H' b=some (.tup xs)):ObjOk P w H' h' a o :=by
 induction o with
 |lst xs=>obtain ⟨z,its,n,r,e⟩:=x;exact ⟨z,its,n,r,k _ _ (.inl rfl) e⟩
 |tup xs=>obtain ⟨z,its,r,ob,e,c⟩:=x;exact ⟨z,its,r,ob,k _ _ (.inl rfl) e,c⟩
 |dK ai=>obtain ⟨z,y,vs,r,ob,es,ep,e,c⟩:=x;exact ⟨z,y,vs,r,ob,es,ep,k _ _ (.inl rfl) e,c⟩
 |dT ai=>
  obtain ⟨z,y,xs,r,ob,es,ep,e,c⟩:=x
  exact ⟨z,y,xs,At.zL r fun p q z=>⟨z.1,ht _ _ z.2.1,z.2.2⟩,ob,es,ep,k _ _ (.inl rfl) e,c⟩
 |set S n=>obtain ⟨ob,es,ep,t,e,c⟩:=x;exact ⟨ob,es,ep,t,k _ _ (.inl rfl) e,c⟩
 |ins C dx fs=>
  obtain ⟨d,z,ne,e,mA,⟨od,es,ep,e2,c⟩,r⟩:=x
  exact ⟨ho _ d,z,ne,k _ _ (.inl rfl) e,mA,⟨od,es,ep,k _ _ (.inr d) e2,c⟩,r⟩
 |own y=>obtain ⟨ob,e⟩:=x;exact ⟨ob,k _ _ (.inl rfl) e⟩
 |xd fs=>obtain ⟨mA,⟨od,es,ep,e,c⟩,r⟩:=x;exact ⟨mA,⟨od,es,ep,k _ _ (.inl rfl) e,c⟩,r⟩
 |Bv lo hi=>obtain ⟨t,u,v,e⟩:=x;exact ⟨t,u,v,k _ _ (.inl rfl) e⟩
 |bp ob u ih=>obtain ⟨e,q⟩:=x;exact ⟨k _ _ (.inl rfl) e,ih q⟩
 |cz ps=>
  have e:h.get? a=some {cls:=.none,data:=.fields ps}:=x
  show h'.get? a=some {cls:=.none,data:=.fields ps}
  exact k a _ (.inl rfl) e
 |lam ps=>
  have e:h.get? a=some {cls:=.none,data:=.fields ps}:=x
  show h'.get? a=some {cls:=.none,data:=.fields ps}
  exact k a _ (.inl rfl) e
 |met f y=>
  have e:h.get? a=some (Qg (.ref f) (.ref y)):=x
  show h'.get? a=some (Qg (.ref f) (.ref y))
  exact k a _ (.inl rfl) e
 |ext φ=>obtain ⟨p,⟨o,e⟩,st⟩:=x;exact ⟨st _ _ p fun o q=>k _ _ (.inl rfl) q,⟨o,k _ _ (.inl rfl) e⟩,st⟩
theorem cg.lt (x:cg P w H h) (e:H a=some o):a<h.objs.size:=(x a o e).lt
theorem cg.fresh (x:cg P w H h) (e:h.objs.size<=a):H a=none :=by
 cases q:H a with
 |none=>rfl
 |some u=>exact absurd (kw (x.lt q) e) (AN _)
theorem cg.kept (x:cg P w H h) (k:∀b u,h.get? b=some u->h'.get? b=some u):cg P w H h':=fun a o e=>
 (x a o e).cO (fun b u _ q=>k b u q) (fun _ q=>q) fun _ _ q=>q
theorem cg.laid (x:cg P w H h) (k:∀b u,h.get? b=some u->h'.get? b=some u) (hp:h.objs.size<=a) (new:ObjOk P w (upd H a o) h' a o):cg P w (upd H a o) h':=fun b u e=>by
 have hn:=x.fresh hp
 by_cases hb:b=a
 ·subst hb;rw [aA] at e;cases e;exact new
 ·rw [ae hb] at e
  exact (x b u e).cO (fun c v _ q=>k c v q) (fun c q=>by rw [ae (aU q hn)];exact q) fun c xs q=>by rw [ae (aU q hn)];exact q
end
def Rd (H:Hp) (a:ag) (u:HO):Prop:=H a=some u\/∃o,H a=some (.bp o u)
theorem Rd.ok {P:f8} {w:ii} {H:Hp} {h:gl} {a:ag} {u:HO} (r:Rd H a u) (x:cg P w H h):ObjOk P w H h a u :=by
 rcases r with r|⟨o,r⟩
 ·exact x a u r
 ·obtain ⟨_,q⟩:=x a _ r
  exact q
def wU:Option HO->Prop
 |some (.lst _)=>True
 |some (.dK _)=>True
 |some (.dT _)=>True
 |some (.set _ _)=>True
 |some (.ins _ _ _)=>True
 |some (.ext _)=>True
 |some (.lam _)=>True
 |_=>False
section
variable {P:f8} {w:ii} {H:Hp} {h h':gl} {x e:ag} {o':HO}
theorem cg.write (ok:cg P w H h) (mu:wU (H x)) (he:e=x\/H e=some (.own x)) (k:∀b u,b≠e->h.get? b=some u->h'.get? b=some u) (ui:∃u,h'.get? e=some u)
  (new:ObjOk P w (upd H x o') h' x o'):cg P w (upd H x o') h':=fun b u q=>by
 have Er:∀c y,H c=some (.own y)->c≠x:=fun c y r z=>by subst z;rw [r] at mu;exact mu
 have KZ:∀c xs,H c=some (.tup xs)->c≠x:=fun c xs r z=>by subst z;rw [r] at mu;exact mu
 by_cases hb:b=x
 ·subst hb;rw [aA] at q;cases q;exact new
 ·rw [ae hb] at q
  by_cases qT:b=e
  ·have q':H b=some (.own x) :=by
    rcases he with z|z
    ·exact absurd (qT.trans z) hb
    ·rw [qT];exact z
   rw [q] at q';cases q'
   obtain ⟨v,hv⟩:=ui
   exact ⟨v,by rw [qT];exact hv⟩
  ·refine (ok b u q).cO (fun c v hc r=>k c v ?_ r) (fun c r=>by rw [ae (Er c b r)];exact r) fun c xs r=>by rw [ae (KZ c xs r)];exact r
   rcases hc with rfl|hc
   ·exact qT
   ·rintro rfl
    rcases he with z|z
    ·exact Er c b hc z
    ·rw [hc] at z;cases z;exact hb rfl
end
structure Un (fs ex:List ag) (H H':Hp) (h h':gl):Prop where
 keep:∀b o,h.get? b=some o->H b=none->b ∉ fs->b ∉ ex->h'.get? b=some o
 slot:∀b o,h.get? b=some o->H b=none->b∈fs->b ∉ ex->∃sl,h'.get? b=some {o with slots:=sl}
 free:∀b o,h.get? b=some o->H b=none->b ∉ ex->H' b=none
 there:∀b o,h.get? b=some o->b ∉ ex->∃o',h'.get? b=some o'
 tups:∀b xs,H b=some (.tup xs)->H' b=some (.tup xs)
 frzs:∀b o u,H b=some (.bp o u)->H' b=some (.bp o u)
 tbls:∀b ps,H b=some (.cz ps)->∃more,H' b=some (.cz (ps++more))
section
variable {fs Mq ex OC:List ag} {H H1 H2:Hp} {h h1 h2 h':gl} {a x e:ag} {o:HO}
theorem Un.any (u:Un fs ex H H1 h h1) {b:ag} {ob:i4} (q:h.get? b=some ob) (n:H b=none) (hx:b ∉ ex):∃sl,h1.get? b=some {ob with slots:=sl}:=by
 by_cases hb:b∈fs
 ·exact u.slot b ob q n hb hx
 ·exact ⟨ob.slots,u.keep b ob q n hb hx⟩
theorem Un.kept (k:∀b u,h.get? b=some u->h'.get? b=some u):Un fs ex H H h h':=
 ⟨fun b ob q _ _ _=>k b ob q,fun b ob q _ _ _=>⟨ob.slots,k b ob q⟩,fun _ _ _ n _=>n,fun b ob q _=>⟨ob,k b ob q⟩,fun _ _ q=>q,fun _ _ _ q=>q,fun _ ps q=>⟨#[],by rw [q];simp⟩⟩
theorem Un.refl:Un fs ex H H h h:=Un.kept fun _ _ q=>q
theorem Un.laid (k:∀b u,h.get? b=some u->h'.get? b=some u) (hp:h.objs.size<=a) (hn:H a=none):Un fs ex H (upd H a o) h h' where
 keep:=fun b u q _ _ _=>k b u q
 slot:=fun b u q _ _ _=>⟨u.slots,k b u q⟩
 free:=fun b u q n _=>by rw [ae (lw (kw (im q) hp))];exact n
 there:=fun b u q _=>⟨u,k b u q⟩
 tups:=fun b xs q=>by rw [ae (aU q hn)];exact q
 frzs:=fun b u xs q=>by rw [ae (aU q hn)];exact q
 tbls:=fun b ps q=>⟨#[],by rw [ae (aU q hn),q];simp⟩
theorem Un.write (mu:wU (H x)) (he:e=x\/H e=some (.own x)) (k:∀b u,b≠e->h.get? b=some u->h'.get? b=some u) (ui:∃u,h'.get? e=some u):Un fs ex H (upd H x o) h h':=by
 have hx:∀b,H b=none->b≠x:=fun b n z=>by subst z;rw [n] at mu;exact mu
 have hb:∀b,H b=none->b≠e:=fun b n z=>by
  subst z
  rcases he with r|r
  ·exact hx b n r
  ·rw [n] at r;cases r
 have hm:∀b u,H b=some u->¬ wU (some u)->b≠x:=fun b u q nm z=>by subst z;rw [q] at mu;exact nm mu
 refine ⟨fun b u q n _ _=>k b u (hb b n) q,fun b u q n _ _=>⟨u.slots,k b u (hb b n) q⟩,fun b u q n _=>by rw [ae (hx b n)];exact n,fun b u q _=>?_,
  fun b xs q=>by rw [ae (hm b _ q fun z=>z)];exact q,fun b u xs q=>by rw [ae (hm b _ q fun z=>z)];exact q,fun b ps q=>⟨#[],by rw [ae (hm b _ q fun z=>z),q];simp⟩⟩
 by_cases qT:b=e
 ·subst qT;exact ui
 ·exact ⟨u,k b u qT q⟩
end
def Bw (h:gl) (H:Hp):List ag:=(io h.objs.size).filter fun a=>(H a).isSome
def iq (h:gl) (H:Hp):gl:=wv h (Bw h H)
theorem wV (h:gl) (H:Hp):(iq h H).objs.size=h.objs.size:=PySem.W.hideAll_size _ _
theorem zM {h:gl} {H:Hp} {b:ag} {o:i4} (e:h.get? b=some o) (n:H b=none):(iq h H).get? b=some o:=
 OP _ e fun hm=>by
  have q:(H b).isSome=true:=(GT.mp hm).2
  rw [n] at q;simp at q
theorem CL {h:gl} {H:Hp} {b:ag} {o:i4} (e:(iq h H).get? b=some o):h.get? b=some o/\H b=none :=by
 have e':h.get? b=some o:=P8 (Bw h H) e
 refine ⟨e',?_⟩
 cases q:H b with
 |none=>rfl
 |some x=>
  have hm:b∈Bw h H:=GT.mpr ⟨Lo.mpr (im e'),by simp [q]⟩
  have z:(iq h H).get? b=none:=PySem.W.hideAll_none (Bw h H) hm
  rw [z] at e;cases e
def CM (g h:gl) (L:ag):List (ag×i4):=(io h.objs.size).filterMap fun a=>if a=L\/(g.get? a).isSome=true then none else (h.get? a).map fun o=>(a,o)
def rest (g h:gl) (L d:ag):List (ag×i4):=(CM g h L).filter fun p=>decide (p.1≠d)
structure Mod (K:bn) (mg:br->Option ap) (base:gl):Prop where
 kin:K.In base
 glob:base.Ns mainGlobals mg
 blt:∃mb,base.Ns builtinsNs mb/\∀x:br,x ≠ "__name__" -> mb x=bootBuiltins x
 nolimit:base.NoLimit
structure Cx where
 prog:f8
 w:ii
 K:bn
 mg:br->Option ap
 base:gl
 A:l8
 N:List br
 s₀:bi
 H₀:Hp
 env:Cc
 outer:List Cc
 stack:List Cc
 ex:List ag
 fn:br->Bool
 calm:Bool
 pn:List (ag×i4)
 xe:ap->bi->Prop
def dn (l:List Cc):List ag:=l.filterMap (·.frame)
abbrev Cx.fs (X:Cx):List ag:=dn X.outer
def l0 (sc:rb) (x:br):Prop:=sc.names.lookup x=some .local\/sc.names.lookup x=some .cell\/sc.names.lookup x=some .free
def Loc (sc:rb) (x:br):Prop:=sc.names.lookup x=some .local\/sc.names.lookup x=some .cell
def Look (env:Cc) (h:gl) (m:br->Option ap) (x:br) (u:ap):Prop:=
 (env.kindOf x=some .local/\m x=some u)\/((env.kindOf x=some .cell\/env.kindOf x=some .free)/\∃c,env.cells.lookup x=some c/\h.IsCell c (some u))
structure Cx.Ok (X:Cx):Prop where
 mod:Mod X.K X.mg X.base
 kind:X.env.scope.kind=.function
 glob:X.env.globals=mainGlobals
 blt:X.env.builtins=builtinsNs
 above:X.s₀.heap.objs.size<=X.env.locals
 inj:∀x y c,X.env.cells.lookup x=some c->X.env.cells.lookup y=some c->x=y
 has:∀x,(X.env.kindOf x=some .cell\/X.env.kindOf x=some .free)->∃c,X.env.cells.lookup x=some c
 cab:∀x c,X.fn x=true->X.env.cells.lookup x=some c->X.s₀.heap.objs.size<=c
 hd:X.calm=true->X.A.handled=none
 frames:X.A.frames=some X.stack
 stk:X.stack=X.outer\/(X.stack=X.env::X.outer/\X.env.frame=some X.env.locals)
 exf:∀b∈X.ex,b≠X.env.locals/\∀x c,X.env.cells.lookup x=some c->c≠b
 bs:∀b o,X.base.get? b=some o->X.s₀.heap.get? b=some o/\X.H₀ b=none
 bsz:X.base.objs.size<=X.s₀.heap.objs.size
 noex:∀b o,X.base.get? b=some o->b ∉ X.ex
 exfs:∀b∈X.ex,b ∉ X.fs
 funs:X.s₀.heap.FunFrames X.base X.outer
 frf:∀b∈X.fs,X.H₀ b=none
def Gn (n:Nat) (g:Array Pe):Prop:=QR g/\n<=g.size
theorem Gn.self {n:Nat} {g:Array Pe} (x:Gn n g):Gn g.size g:=⟨x.1,c8 _⟩
theorem Gn.trans {n:Nat} {g g':Array Pe} (x:Gn n g) (y:Gn g.size g'):Gn n g':=⟨y.1,r6 x.2 y.2⟩
structure Inv (X:Cx) (pins:List (ag×i4)) (σ:List (Option V)) (H:Hp) (s:bi):Prop where
 ok:X.Ok
 os:s.os=X.s₀.os
 bare:Gn X.s₀.gens.size s.gens
 base:Un X.fs X.ex X.H₀ H X.s₀.heap s.heap
 loc:∃m,s.heap.Ns X.env.locals m/\∀(i:Nat) (x:br) (v:V),X.N[i]?=some x->σ[i]?=some (some v)->l0 X.env.scope x->∃u,RelV v u/\Look X.env s.heap m x u
 cell:∀x c,X.env.cells.lookup x=some c->∃v,s.heap.IsCell c v
 free:H X.env.locals=none
 freeC:∀x c,X.env.cells.lookup x=some c->H c=none
 pin:∀p∈X.pn++pins,s.heap.get? p.1=some p.2/\H p.1=none/\p.1≠X.env.locals/\p.1 ∉ X.fs/\∀v,p.2.data≠.cell v
 hok:cg X.prog X.w H s.heap
 len:σ.length=X.N.length
section
variable {X:Cx} {pins:List (ag×i4)} {σ:List (Option V)} {H H':Hp} {s:bi} {h':gl}
theorem Cx.Ok.K0 (ok:X.Ok) {b:ag} {o:i4} (e:X.base.get? b=some o):b ∉ X.fs:=fun hb=>by
 have:=(ok.funs.mem hb).1
 rw [e] at this;cases this
theorem Inv.bs (I:Inv X pins σ H s):∀b o,X.base.get? b=some o->s.heap.get? b=some o/\H b=none:=fun b o e=>
 ⟨I.base.keep b o (I.ok.bs b o e).1 (I.ok.bs b o e).2 (I.ok.K0 e) (I.ok.noex b o e),I.base.free b o (I.ok.bs b o e).1 (I.ok.bs b o e).2 (I.ok.noex b o e)⟩
theorem Inv.bk (I:Inv X pins σ H s):∀b o,X.base.get? b=some o->s.heap.get? b=some o:=fun b o e=>(I.bs b o e).1
theorem Inv.mod (I:Inv X pins σ H s):Mod X.K X.mg X.base:=I.ok.mod
theorem Inv.fw (I:Inv X pins σ H s):X.K.In s.heap:=I.ok.mod.kin.keeps I.bk
theorem Inv.nolimit (I:Inv X pins σ H s):s.heap.NoLimit:=I.ok.mod.nolimit.keeps I.bk
theorem Inv.lt (I:Inv X pins σ H s):X.env.locals<s.heap.objs.size:=let ⟨_,hn,_⟩:=I.loc;hn.lt
theorem Inv.sz (I:Inv X pins σ H s):X.s₀.heap.objs.size<=s.heap.objs.size:=r6 I.ok.above (Gc I.lt)
theorem Inv.Es (I:Inv X pins σ H s) {a:ag} (h:s.heap.objs.size<=a):a ∉ X.fs:=fun hb=>by
 obtain ⟨_,o,ho,_⟩:=I.ok.funs.mem hb
 exact absurd (kw (im ho) (r6 I.sz h)) (AN _)
theorem Inv.o7 (I:Inv X pins σ H s):∀x c,X.env.cells.lookup x=some c->c≠X.env.locals:=fun x c e z=>by
 obtain ⟨v,o,ho,hd⟩:=I.cell x c e
 obtain ⟨m,⟨o',es,ep,fX,iW,_⟩,_⟩:=I.loc
 rw [z,fX] at ho;cases ho;rw [iW] at hd;cases hd
theorem Inv.funs (I:Inv X pins σ H s):s.heap.FunFrames X.base X.outer :=by
 have all:∀(l:List Cc),(∀b∈dn l,b∈X.fs)->X.s₀.heap.FunFrames X.base l->s.heap.FunFrames X.base l :=by
  intro l
  induction l with
  |nil=>intro _ _;trivial
  |cons env r ih=>
   intro hs hl
   obtain ⟨hk,⟨L,o,hf,hn,ho,hd⟩,hr⟩:=hl
   have hL:L∈X.fs:=hs L (by unfold dn;rw [LP,hf];exact i8)
   obtain ⟨sl,e⟩:=I.base.slot L o ho (I.ok.frf L hL) hL fun z=>I.ok.exfs L z hL
   exact ⟨hk,⟨L,_,hf,hn,e,hd⟩,ih (fun b hb=>hs b (by unfold dn;rw [LP,hf];exact gc _ hb)) hr⟩
 exact all X.outer (fun _ hb=>hb) I.ok.funs
theorem Inv.stack (I:Inv X pins σ H s):s.heap.FunFrames X.base X.stack :=by
 rcases I.ok.stk with e|⟨e,hf⟩
 ·rw [e];exact I.funs
 ·rw [e]
  obtain ⟨m,hn,_⟩:=I.loc
  refine .cons (by rw [I.ok.kind];decide) hf hn ?_ I.funs
  exact gl.get?_none_of_le (r6 I.ok.bsz I.ok.above)
theorem Inv.eL (I:Inv X pins σ H s):∀b∈dn X.stack,b∈X.env.locals::X.fs:=fun b hb=>by
 rcases I.ok.stk with e|⟨e,hf⟩
 ·rw [e] at hb;exact gc _ hb
 ·rw [e] at hb
  unfold dn at hb
  rw [LP,hf] at hb
  exact hb
theorem Inv.jr (I:Inv X pins σ H s):∀b∈dn X.stack,H b=none:=fun b hb=>by
 rcases lc.mp (I.eL b hb) with e|hb
 ·rw [e];exact I.free
 ·obtain ⟨_,o,ho,_⟩:=I.ok.funs.mem hb
  exact I.base.free b o ho (I.ok.frf b hb) fun z=>I.ok.exfs b z hb
theorem Inv.step {g':Array Pe} {t':Nat} {d':Drawn} {ch:List ag} (I:Inv X pins σ H s)
  (md:∀b∈ch,(b∈X.ex\/X.s₀.heap.objs.size<=b)/\b≠X.env.locals/\(∀x c,X.env.cells.lookup x=some c->c≠b)/\∀p∈X.pn++pins,p.1≠b)
  (keep:∀b o,b≠X.env.locals->b ∉ X.fs->b ∉ ch->s.heap.get? b=some o->H b=none->h'.get? b=some o)
  (slot:∀b o,b≠X.env.locals->b∈X.fs->b ∉ ch->s.heap.get? b=some o->H b=none->∃sl,h'.get? b=some {o with slots:=sl}) (free:∀b o,b ∉ ch->s.heap.get? b=some o->H b=none->H' b=none)
  (there:∀b o,b ∉ ch->s.heap.get? b=some o->∃o',h'.get? b=some o')
  (tups:∀b xs,H b=some (.tup xs)->H' b=some (.tup xs)) (frzs:∀b o u,H b=some (.bp o u)->H' b=some (.bp o u)) (tbls:∀b ps,H b=some (.cz ps)->∃more,H' b=some (.cz (ps++more)))
  (ns:∀m,s.heap.Ns X.env.locals m->h'.Ns X.env.locals m) (hok:cg X.prog X.w H' h') (hg:Gn s.gens.size g') :
  Inv X pins σ H' {s with heap:=h',gens:=g',drawn:=d',toks:=t'}:=by
 have JQ:∀b o,X.s₀.heap.get? b=some o->b≠X.env.locals:=fun b o e=>lw (kw (im e) I.ok.above)
 have By:∀b o,X.s₀.heap.get? b=some o->b ∉ X.ex->b ∉ ch:=fun b o e hx hb=>by
  rcases (md b hb).1 with z|z
  ·exact hx z
  ·exact absurd (kw (im e) z) (AN _)
 have cellK:∀x c,X.env.cells.lookup x=some c->∀v,s.heap.IsCell c v->h'.IsCell c v:=fun x c e v ⟨o,ho,hd⟩=>by
  have wW:c ∉ ch:=fun z=>(md c z).2.2.1 x c e rfl
  by_cases hc:c∈X.fs
  ·obtain ⟨sl,q⟩:=slot c o (I.o7 x c e) hc wW ho (I.freeC x c e)
   exact ⟨_,q,hd⟩
  ·exact ⟨o,keep c o (I.o7 x c e) hc wW ho (I.freeC x c e),hd⟩
 refine ⟨I.ok,I.os,I.bare.trans hg,⟨fun b o e n hb hx=>?_,fun b o e n hb hx=>?_,fun b o e n hx=>?_,fun b o e hx=>?_,fun b xs e=>tups b xs (I.base.tups b xs e),fun b o xs e=>frzs b o xs (I.base.frzs b o xs e),fun b ps e=>?_⟩,?_,fun x c e=>?_,?_,fun x c e=>?_,fun p hp=>?_,hok,I.len⟩
 ·exact keep b o (JQ b o e) hb (By b o e hx) (I.base.keep b o e n hb hx) (I.base.free b o e n hx)
 ·obtain ⟨sl,e1⟩:=I.base.slot b o e n hb hx
  obtain ⟨JR,e2⟩:=slot b _ (JQ b o e) hb (By b o e hx) e1 (I.base.free b o e n hx)
  exact ⟨JR,e2⟩
 ·obtain ⟨o',e1⟩:=I.base.there b o e hx
  exact free b o' (By b o e hx) e1 (I.base.free b o e n hx)
 ·obtain ⟨o',e1⟩:=I.base.there b o e hx
  exact there b o' (By b o e hx) e1
 ·obtain ⟨m1,e1⟩:=I.base.tbls b ps e
  obtain ⟨m2,e2⟩:=tbls b _ e1
  exact ⟨m1++m2,by rw [e2,Array.append_assoc]⟩
 ·obtain ⟨m,hn,hl⟩:=I.loc
  refine ⟨m,ns m hn,fun i x v e1 e2 e3=>?_⟩
  obtain ⟨u,r,l⟩:=hl i x v e1 e2 e3
  refine ⟨u,r,?_⟩
  rcases l with l|⟨k,c,e,z⟩
  ·exact .inl l
  ·exact .inr ⟨k,c,e,cellK x c e _ z⟩
 ·obtain ⟨v,z⟩:=I.cell x c e
  exact ⟨v,cellK x c e v z⟩
 ·obtain ⟨m,⟨o,_,_,ho,_⟩,_⟩:=I.loc
  exact free _ o (fun z=>(md _ z).2.1 rfl) ho I.free
 ·obtain ⟨v,o,ho,hd⟩:=I.cell x c e
  exact free c o (fun z=>(md c z).2.2.1 x c e rfl) ho (I.freeC x c e)
 ·obtain ⟨e,n,ne,nf,d⟩:=I.pin p hp
  have wW:p.1 ∉ ch:=fun z=>(md p.1 z).2.2.2 p hp rfl
  exact ⟨keep p.1 p.2 ne nf wW e n,free p.1 p.2 wW e n,ne,nf,d⟩
theorem Inv.un {t':Nat} (I:Inv X pins σ H s) (u:Un X.fs [] H H' s.heap h') (hok:cg X.prog X.w H' h'):Inv X pins σ H' {s with heap:=h',toks:=t'}:=by
 obtain ⟨m,⟨o,es,ep,ho,r⟩,_⟩:=id I.loc
 obtain ⟨sl,hL⟩:=u.any ho I.free (by simp)
 exact I.step (g':=s.gens) (d':=s.drawn) (ch:=[]) (fun _ z=>nomatch z) (fun b o _ hb _ e n=>u.keep b o e n hb (by simp)) (fun b o _ hb _ e n=>u.slot b o e n hb (by simp)) (fun b o _ e n=>u.free b o e n (by simp)) (fun b o _ e=>u.there b o e (by simp)) u.tups u.frzs u.tbls (fun m' hm=>by
  obtain ⟨o',Et,Eu,fX,r'⟩:=hm
  rw [ho] at fX;cases fX
  exact ⟨_,Et,Eu,hL,r'⟩) hok I.bare.self
theorem Inv.call {g':Array Pe} {t':Nat} {d':Drawn} {ch:List ag} (I:Inv X pins σ H s) (u:Un (dn X.stack) ch H H' s.heap h') (hok:cg X.prog X.w H' h') (hg:Gn s.gens.size g')
  (md:∀b∈ch,(b∈X.ex\/X.s₀.heap.objs.size<=b)/\b≠X.env.locals/\(∀x c,X.env.cells.lookup x=some c->c≠b)/\∀p∈X.pn++pins,p.1≠b) :
  Inv X pins σ H' {s with heap:=h',gens:=g',drawn:=d',toks:=t'}:=by
 obtain ⟨m,⟨o,es,ep,ho,r⟩,_⟩:=id I.loc
 obtain ⟨sl,hL⟩:=u.any ho I.free fun z=>(md _ z).2.1 rfl
 exact I.step (ch:=ch) md (fun b o hL hb hc e n=>u.keep b o e n (fun z=>(lc.mp (I.eL b z)).elim hL hb) hc) (fun b o _ _ hc e n=>u.any e n hc) (fun b o hc e n=>u.free b o e n hc) (fun b o hc e=>u.there b o e hc) u.tups u.frzs u.tbls (fun m' hm=>by
  obtain ⟨o',Et,Eu,fX,r'⟩:=hm
  rw [ho] at fX;cases fX
  exact ⟨_,Et,Eu,hL,r'⟩) hok hg
theorem Inv.turned {t':Nat} {it:ag} (I:Inv X pins σ H s) (k:∀b o,b≠it->s.heap.get? b=some o->h'.get? b=some o) (hn:H it=none) (hL:it≠X.env.locals)
  (h1:it∈X.ex\/X.s₀.heap.objs.size<=it) (h2:∀x c,X.env.cells.lookup x=some c->c≠it) (h3:∀p∈X.pn++pins,p.1≠it):Inv X pins σ H {s with heap:=h',toks:=t'}:=by
 have JS:∀b u,H b=some u->b≠it:=fun b u e z=>by rw [z,hn] at e;cases e
 refine I.step (g':=s.gens) (d':=s.drawn) (ch:=[it]) (fun b hb=>?_) (fun b o _ _ hc e _=>k b o (fun z=>hc (by simp [z])) e) (fun b o _ _ hc e _=>⟨o.slots,k b o (fun z=>hc (by simp [z])) e⟩) (fun _ _ _ _ n=>n)
  (fun b o hc e=>⟨o,k b o (fun z=>hc (by simp [z])) e⟩) (fun _ _ e=>e) (fun _ _ _ e=>e) (fun b ps e=>⟨#[],by rw [e];simp⟩) (fun m hm=>?_) (fun b u e=>?_) I.bare.self
 ·have e:b=it :=by simpa using hb
  subst e
  exact ⟨h1,hL,h2,h3⟩
 ·obtain ⟨o,es,ep,ho,r⟩:=hm
  exact ⟨o,es,ep,k _ o (xy hL) ho,r⟩
 ·refine (I.hok b u e).cO (fun c v hc q=>k c v ?_ q) (fun _ q=>q) fun _ _ q=>q
  rcases hc with z|z
  ·rw [z];exact JS b u e
  ·exact JS c _ z
theorem Inv.tok (I:Inv X pins σ H s) (t:Nat):Inv X pins σ H {s with toks:=t}:=I.un (h':=s.heap) (t':=t) Un.refl I.hok
theorem Inv.kept {t':Nat} (I:Inv X pins σ H s) (k:∀b u,s.heap.get? b=some u->h'.get? b=some u):Inv X pins σ H {s with heap:=h',toks:=t'}:=I.un (Un.kept k) (I.hok.kept k)
theorem Inv.laid {a:ag} {o:HO} {t':Nat} (I:Inv X pins σ H s) (k:∀b u,s.heap.get? b=some u->h'.get? b=some u) (hp:s.heap.objs.size<=a) (new:ObjOk X.prog X.w (upd H a o) h' a o) :
  Inv X pins σ (upd H a o) {s with heap:=h',toks:=t'}:=I.un (Un.laid k hp (I.hok.fresh hp)) (I.hok.laid k hp new)
theorem Inv.write {x e:ag} {o:HO} {t':Nat} (I:Inv X pins σ H s) (mu:wU (H x)) (he:e=x\/H e=some (.own x)) (k:∀b u,b≠e->s.heap.get? b=some u->h'.get? b=some u) (ui:∃u,h'.get? e=some u)
  (new:ObjOk X.prog X.w (upd H x o) h' x o):Inv X pins σ (upd H x o) {s with heap:=h',toks:=t'}:=I.un (Un.write mu he k ui) (I.hok.write mu he k ui new)
theorem Inv.ow {pins':List (ag×i4)} (I:Inv X pins σ H s) (h:∀p∈pins',s.heap.get? p.1=some p.2/\H p.1=none/\p.1≠X.env.locals/\p.1 ∉ X.fs/\∀v,p.2.data≠.cell v):Inv X pins' σ H s:=
 ⟨I.ok,I.os,I.bare,I.base,I.loc,I.cell,I.free,I.freeC,fun p hp=>(wT.mp hp).elim (fun z=>I.pin p (zw _ z)) (h p),I.hok,I.len⟩
theorem qU {N:List br} (hN:N.Nodup) {i j:Nat} {x:br} (a:N[i]?=some x) (b:N[j]?=some x):i=j :=by
 obtain ⟨h1,e1⟩:=bv.mp a
 obtain ⟨h2,e2⟩:=bv.mp b
 exact (List.getElem_inj hN).mp (e1.trans e2.symm)
theorem store_ok2 {M:Model} {A:l8} {E:ap->bi->Prop} {i:Nat} {x:br} {v:V} {u:ap} {Q:Unit->bi->Prop} (I:Inv X pins σ H s) (hN:X.N.Nodup) (hi:X.N[i]?=some x) (hx:Loc X.env.scope x) (r:RelV v u)
  (h:∀s',Inv X pins (σ.set i (some v)) H s'->(∃a,NJ a s.heap s'.heap/\(a=X.env.locals\/X.env.cells.lookup x=some a))->Q () s') (hf:X.fn x=true\/X.env.scope.names.lookup x=some .local :=by first|exact .inl rfl|exact .inr rfl|assumption):wpAny M A (storeName X.env x u) Q E s :=by
 obtain ⟨m,hn,hl⟩:=id I.loc
 have K1:(X.env.scope.kind==.class || (X.env.scope.kind==.module && X.env.locals != X.env.globals))=false :=by rw [I.ok.kind];rfl
 have Ew:i<σ.length :=by rw [I.len];exact (bv.mp hi).1
 have o7:=I.o7
 have tracked:∀{a:ag} {h':gl},(∃o,s.heap.get? a=some o/\H a=none)->NJ a s.heap h'->cg X.prog X.w H h':=fun {a h'} ha hs b ob e=>by
  obtain ⟨_,_,lr⟩:=ha
  refine (I.hok b ob e).cO (fun c w' hc q=>(hs.2 c ?_).trans q) (fun _ q=>q) fun _ _ q=>q
  rintro rfl
  rcases hc with rfl|hc
  ·rw [lr] at e;cases e
  ·rw [lr] at hc;cases hc
 rcases hx with hk|hk
 ·refine wpAny_storeName_local hk hn (fun h' wX hs=>?_) K1
  obtain ⟨oL,_,_,wY,_⟩:=id hn
  refine h _ ⟨I.ok,I.os,I.bare,⟨fun b o e n hb hx=>?_,fun b o e n hb hx=>?_,I.base.free,fun b o e hx=>?_,I.base.tups,I.base.frzs,I.base.tbls⟩,⟨_,wX,fun j y v' e1 e2 e3=>?_⟩,fun y c e=>?_,I.free,I.freeC,fun p hp=>?_,tracked ⟨oL,wY,I.free⟩ hs,by simpa using I.len⟩ ⟨_,hs,.inl rfl⟩
  ·exact (hs.2 b (lw (kw (im e) I.ok.above))).trans (I.base.keep b o e n hb hx)
  ·obtain ⟨sl,e1⟩:=I.base.slot b o e n hb hx
   exact ⟨sl,(hs.2 b (lw (kw (im e) I.ok.above))).trans e1⟩
  ·obtain ⟨o',e1⟩:=I.base.there b o e hx
   exact ⟨o',(hs.2 b (lw (kw (im e) I.ok.above))).trans e1⟩
  ·by_cases hj:j=i
   ·subst hj
    rw [hi] at e1;cases e1
    rw [Pv Ew] at e2
    cases e2
    exact ⟨u,r,.inl ⟨hk,by simp⟩⟩
   ·rw [List.getElem?_set_ne (xy hj)] at e2
    obtain ⟨u',r',q⟩:=hl j y v' e1 e2 e3
    refine ⟨u',r',?_⟩
    rcases q with ⟨k,e⟩|⟨k,c,e,z⟩
    ·refine .inl ⟨k,?_⟩
     have:y≠x:=fun e=>hj (qU hN e1 (e▸hi))
     simp [this,e]
    ·exact .inr ⟨k,c,e,z.sameBut hs (o7 y c e)⟩
  ·obtain ⟨w',z⟩:=I.cell y c e
   exact ⟨w',z.sameBut hs (o7 y c e)⟩
  ·obtain ⟨e,n,ne,nf,d⟩:=I.pin p hp
   exact ⟨(hs.2 p.1 ne).trans e,n,ne,nf,d⟩
 ·have nh:X.fn x=true :=by
   rcases hf with z|z
   ·exact z
   ·rw [z] at hk;cases hk
  obtain ⟨c,hc⟩:=I.ok.has x (.inl hk)
  obtain ⟨w',z⟩:=I.cell x c hc
  refine wpAny_storeName_cell I.ok.kind hk hc z (fun h' BA hs=>?_)
  obtain ⟨oc,o8,K2⟩:=id z
  refine h {s with heap:=h'} ⟨I.ok,I.os,I.bare,⟨fun b o e n hb hx=>?_,fun b o e n hb hx=>?_,I.base.free,fun b o e hx=>?_,I.base.tups,I.base.frzs,I.base.tbls⟩,⟨m,hn.sameBut hs (xy (o7 x c hc)),fun j y v' e1 e2 e3=>?_⟩,fun y c' e=>?_,I.free,I.freeC,fun p hp=>?_,tracked ⟨oc,o8,I.freeC x c hc⟩ hs,by simpa using I.len⟩ ⟨c,hs,.inr hc⟩
  ·exact (hs.2 b (lw (kw (im e) (I.ok.cab x c nh hc)))).trans (I.base.keep b o e n hb hx)
  ·obtain ⟨sl,e1⟩:=I.base.slot b o e n hb hx
   exact ⟨sl,(hs.2 b (lw (kw (im e) (I.ok.cab x c nh hc)))).trans e1⟩
  ·obtain ⟨o',e1⟩:=I.base.there b o e hx
   exact ⟨o',(hs.2 b (lw (kw (im e) (I.ok.cab x c nh hc)))).trans e1⟩
  ·by_cases hj:j=i
   ·subst hj
    rw [hi] at e1;cases e1
    rw [Pv Ew] at e2
    cases e2
    exact ⟨u,r,.inr ⟨.inl hk,c,hc,BA⟩⟩
   ·rw [List.getElem?_set_ne (xy hj)] at e2
    obtain ⟨u',r',q⟩:=hl j y v' e1 e2 e3
    refine ⟨u',r',?_⟩
    rcases q with q|⟨k,c',e,z'⟩
    ·exact .inl q
    ·refine .inr ⟨k,c',e,z'.sameBut hs ?_⟩
     rintro rfl
     exact hj (qU hN e1 (I.ok.inj _ _ _ e hc▸hi))
  ·by_cases JT:c'=c
   ·subst JT;exact ⟨_,BA⟩
   ·obtain ⟨w2,z2⟩:=I.cell y c' e
    exact ⟨w2,z2.sameBut hs JT⟩
  ·obtain ⟨e,n,ne,nf,d⟩:=I.pin p hp
   refine ⟨(hs.2 p.1 ?_).trans e,n,ne,nf,d⟩
   intro q
   rw [q,o8] at e
   have q':oc=p.2:=hX e
   exact d w' (by rw [<- q'];exact K2)
theorem qV {M:Model} {A:l8} {E:ap->bi->Prop} {i:Nat} {x:br} {v:V} {u:ap} {Q:Unit->bi->Prop} (I:Inv X pins σ H s) (hN:X.N.Nodup) (hi:X.N[i]?=some x) (hx:Loc X.env.scope x) (r:RelV v u)
  (h:∀s',Inv X pins (σ.set i (some v)) H s'->Q () s') (hf:X.fn x=true\/X.env.scope.names.lookup x=some .local :=by first|exact .inl rfl|exact .inr rfl|assumption):wpAny M A (storeName X.env x u) Q E s:=
 store_ok2 I hN hi hx r (fun s' I' _=>h s' I') hf
theorem Inv.qF {s':bi} {ch:List ag} (I:Inv X pins σ H s) (ho:s'.os=s.os) (u:Un (dn X.stack) ch H H' s.heap s'.heap) (hok:cg X.prog X.w H' s'.heap) (hg:Gn s.gens.size s'.gens)
  (md:∀b∈ch,(b∈X.ex\/X.s₀.heap.objs.size<=b)/\b≠X.env.locals/\(∀x c,X.env.cells.lookup x=some c->c≠b)/\∀p∈X.pn++pins,p.1≠b):Inv X pins σ H' s':=by
 obtain ⟨h',g',d',t',o'⟩:=s'
 have e:o'=s.os:=ho
 subst e
 exact I.call (g':=g') (t':=t') (d':=d') u hok hg md
end
abbrev XK:=ap->Option ag->Hp->Prop
abbrev St:=List (Option V)
abbrev VK:=V->Hp->Prop
abbrev TE:=St->Hp->VK->Prop
abbrev TT:=St->Hp->(Bool->Hp->Prop)->Prop
abbrev TA:=St->Hp->(List V->Hp->Prop)->Prop
structure Ends where
 nx:St->Hp->Prop
 rt:VK
 bk:St->Hp->Prop:=fun _ _=>False
 ct:St->Hp->Prop:=fun _ _=>False
abbrev TS:=Ends->St->Hp->Prop
def EP (X:Cx) (pins:List (ag×i4)) (σ:St) (Q:VK) (u:ap) (s':bi):Prop:=∃v H',Inv X pins σ H' s'/\RelV v u/\Q v H'
def TP (X:Cx) (pins:List (ag×i4)) (σ:St) (Q:Bool->Hp->Prop) (b:Bool) (s':bi):Prop:=∃H',Inv X pins σ H' s'/\Q b H'
def AP (X:Cx) (pins:List (ag×i4)) (σ:St) (Q:List V->Hp->Prop) (us:List ap) (s':bi):Prop:=∃vs H',Inv X pins σ H' s'/\Vals vs us/\Q vs H'
def SP (X:Cx) (pins:List (ag×i4)) (D:Ends) (f:Flow) (s':bi):Prop:=
 match f with
 | .next=>∃aF H',Inv X pins aF H' s'/\D.nx aF H'
 | .brk=>∃aF H',Inv X pins aF H' s'/\D.bk aF H'
 | .cont=>∃aF H',Inv X pins aF H' s'/\D.ct aF H'
 | .ret u=>∃v aF H',Inv X pins aF H' s'/\RelV v u/\D.rt v H'
structure PE (X:Cx) (e:dL) (t:TE):Prop where
 run:∀(pins:List (ag×i4)) (s:bi) (σ:St) (H:Hp) (Q:VK),Inv X pins σ H s->t σ H Q->wpAny (model X.prog X.w) X.A (eval e X.env) (EP X pins σ Q) X.xe s
instance {X:Cx} {e:dL} {t:TE}:CoeFun (PE X e t) (fun _=>∀(pins:List (ag×i4)) (s:bi) (σ:St) (H:Hp) (Q:VK),Inv X pins σ H s->t σ H Q->wpAny (model X.prog X.w) X.A (eval e X.env) (EP X pins σ Q) X.xe s):=⟨PE.run⟩
structure PT (X:Cx) (e:dL) (t:TT):Prop where
 run:∀(pins:List (ag×i4)) (s:bi) (σ:St) (H:Hp) (Q:Bool->Hp->Prop),Inv X pins σ H s->t σ H Q->wpAny (model X.prog X.w) X.A (isTrue e X.env (eval e X.env)) (TP X pins σ Q) X.xe s
instance {X:Cx} {e:dL} {t:TT}:CoeFun (PT X e t) (fun _=>∀(pins:List (ag×i4)) (s:bi) (σ:St) (H:Hp) (Q:Bool->Hp->Prop),Inv X pins σ H s->t σ H Q->wpAny (model X.prog X.w) X.A (isTrue e X.env (eval e X.env)) (TP X pins σ Q) X.xe s):=⟨PT.run⟩
def PW (X:Cx) (e:dL) (t:TT):Prop:=
 ∀(whole:Op ap) (pins:List (ag×i4)) (s:bi) (σ:St) (H:Hp) (Q:Bool->Hp->Prop),Inv X pins σ H s->t σ H Q->wpAny (model X.prog X.w) X.A (isTrue e X.env whole) (TP X pins σ Q) X.xe s
theorem PW.pt {X:Cx} {e:dL} {t:TT} (h:PW X e t):PT X e t:=⟨h _⟩
structure PA (X:Cx) (es:List dL) (t:TA):Prop where
 run:∀(pos:sB) (pins:List (ag×i4)) (s:bi) (σ:St) (H:Hp) (Q:List V->Hp->Prop),Inv X pins σ H s->t σ H Q->wpAny (model X.prog X.w) X.A (spliced (backTo pos (starEach es X.env))) (AP X pins σ Q) X.xe s
instance {X:Cx} {es:List dL} {t:TA}:CoeFun (PA X es t) (fun _=>∀(pos:sB) (pins:List (ag×i4)) (s:bi) (σ:St) (H:Hp) (Q:List V->Hp->Prop),Inv X pins σ H s->t σ H Q->wpAny (model X.prog X.w) X.A (spliced (backTo pos (starEach es X.env))) (AP X pins σ Q) X.xe s):=⟨PA.run⟩
structure PS (X:Cx) (st:nw) (t:TS):Prop where
 run:∀(pins:List (ag×i4)) (s:bi) (σ:St) (H:Hp) (D:Ends),Inv X pins σ H s->t D σ H->wpAny (model X.prog X.w) X.A (exec st X.env) (SP X pins D) X.xe s
instance {X:Cx} {st:nw} {t:TS}:CoeFun (PS X st t) (fun _=>∀(pins:List (ag×i4)) (s:bi) (σ:St) (H:Hp) (D:Ends),Inv X pins σ H s->t D σ H->wpAny (model X.prog X.w) X.A (exec st X.env) (SP X pins D) X.xe s):=⟨PS.run⟩
structure fk (X:Cx) (st:List nw) (t:TS):Prop where
 run:∀(pins:List (ag×i4)) (s:bi) (σ:St) (H:Hp) (D:Ends),Inv X pins σ H s->t D σ H->wpAny (model X.prog X.w) X.A (execs st X.env) (SP X pins D) X.xe s
instance {X:Cx} {st:List nw} {t:TS}:CoeFun (fk X st t) (fun _=>∀(pins:List (ag×i4)) (s:bi) (σ:St) (H:Hp) (D:Ends),Inv X pins σ H s->t D σ H->wpAny (model X.prog X.w) X.A (execs st X.env) (SP X pins D) X.xe s):=⟨fk.run⟩
theorem thn {α:Type} {t:Op α} {Q Q':α->bi->Prop} {M:Model} {A:l8} {E:ap->bi->Prop} {s:bi} (h:wpAny M A t Q E s) (hQ:∀a s,Q a s->Q' a s):wpAny M A t Q' E s:=l9 h hQ fun _ _ x=>x
section
variable {X:Cx}
theorem bin {a b:dL} {ta tb:TE} (ha:PE X a ta) (hb:PE X b tb) {pins:List (ag×i4)} {s:bi} {σ:St} {H:Hp} {R:V->V->Hp->Prop} (I:Inv X pins σ H s) (h:ta σ H fun x H1=>tb σ H1 fun y H2=>R x y H2)
  {α:Type} {Q:α->bi->Prop} {f:ap->ap->Op α}
  (hf:∀v u s2 x y H2,Inv X pins σ H2 s2->RelV x v->RelV y u->R x y H2->wpAny (model X.prog X.w) X.A (f v u) Q X.xe s2) :
  wpAny (model X.prog X.w) X.A (eval a X.env) (fun v az=>wpAny (model X.prog X.w) X.A (eval b X.env) (fun u jk=>wpAny (model X.prog X.w) X.A (f v u) Q X.xe jk) X.xe az) X.xe s :=by
 refine thn (ha pins s σ H _ I h) fun v s1 ⟨x,H1,I1,r1,q1⟩=>?_
 refine thn (hb pins s1 σ H1 _ I1 q1) fun u s2 ⟨y,H2,I2,r2,q2⟩=>?_
 exact hf v u s2 x y H2 I2 r1 r2 q2
def Ez (i:Nat):TE:=fun σ H Q=>∃v,σ[i]?=some (some v)/\Q v H
def tC (v:V):TE:=fun _ H Q=>Q v H
theorem qX {i:Nat} {x:br} {pos:sB} (hN:X.N[i]?=some x) (hv:l0 X.env.scope x) (hd:(x==("__debug__" : br))=false :=by decide) (c9:(x==("__classdict__" : br))=false :=by decide):PE X (.Name x pos) (Ez i) :=by
 refine ⟨?_⟩
 intro pins s σ H Q I h
 obtain ⟨v,e,h⟩:=h
 obtain ⟨m,hn,hl⟩:=I.loc
 obtain ⟨u,r,l⟩:=hl i x v hN e hv
 have fin:EP X pins σ Q u s:=⟨v,H,I,r,h⟩
 rcases l with ⟨hk,hm⟩|⟨hk,c,hc,qG⟩
 ·exact wpAny_Name (wpAny_loadName_local I.ok.kind hk hn hm fin) hd
 ·rcases hk with hk|hk
  ·exact wpAny_Name (wpAny_loadName_cell I.ok.kind hk hc qG fin) hd
  ·exact wpAny_Name (wpAny_loadName_free I.ok.kind hk hc qG fin c9) hd
theorem EA {i j pos}:PE X (.Constant (.int i) j pos) (tC (.int i)):=⟨fun _ _ _ H _ I h=>wpAny_Constant_int ⟨.int i,H,I.tok _,⟨_,rfl⟩,h⟩⟩
theorem Io {b j pos}:PE X (.Constant (.bool b) j pos) (tC (.bl b)):=⟨fun _ _ _ H _ I h=>Constant_bool ⟨.bl b,H,I,rfl,h⟩⟩
theorem EB {x j pos}:PE X (.Constant (.str x) j pos) (tC (.str x)):=⟨fun _ _ _ H _ I h=>Calls.Constant_str ⟨.str x,H,I.tok _,⟨_,rfl⟩,h⟩⟩
def Gl (X:Cx) (x:br):Prop:=X.env.kindOf x=some .globalImplicit
theorem lu {E:ap->bi->Prop} {pins:List (ag×i4)} {s:bi} {σ:St} {H:Hp} {x:br} {u:ap} {pos:sB} {Q:ap->bi->Prop} (I:Inv X pins σ H s) (hg:Gl X x) (hm:X.mg x=some u) (h:Q u s)
  (hd:(x==("__debug__" : br))=false :=by decide):wpAny (model X.prog X.w) X.A (eval (.Name x pos) X.env) Q E s:=
 Calls.Name_function_global I.ok.kind hg (Calls.loadGlobal_global (by rw [I.ok.glob];exact I.mod.glob.keeps I.bk) hm h) hd
theorem ir {E:ap->bi->Prop} {pins:List (ag×i4)} {s:bi} {σ:St} {H:Hp} {x:br} {u:ap} {pos:sB} {Q:ap->bi->Prop} (I:Inv X pins σ H s) (hg:Gl X x) (hm:X.mg x=none) (hv:bootBuiltins x=some u) (h:Q u s)
  (hn:x ≠ "__name__" := by decide) (hd:(x==("__debug__" : br))=false :=by decide):wpAny (model X.prog X.w) X.A (eval (.Name x pos) X.env) Q E s :=by
 obtain ⟨mb,h1,h2⟩:=I.mod.blt
 exact Calls.Name_function_global I.ok.kind hg (Calls.loadGlobal_builtin (by rw [I.ok.glob];exact I.mod.glob.keeps I.bk) hm (by rw [I.ok.blt];exact h1.keeps I.bk) ((h2 x hn).trans hv) h) hd
theorem uj {x:br} {v:V} {u:ap} {pos:sB} (hg:Gl X x) (hm:X.mg x=some u) (r:RelV v u) (hd:(x==("__debug__" : br))=false :=by decide):PE X (.Name x pos) (tC v):=⟨fun _ _ _ H _ I h=>lu I hg hm ⟨v,H,I,r,h⟩ hd⟩
theorem CN {x:br} {v:V} {u:ap} {pos:sB} (hg:Gl X x) (hm:X.mg x=none) (hv:bootBuiltins x=some u) (r:RelV v u) (hn:x ≠ "__name__" := by decide) (hd:(x==("__debug__" : br))=false :=by decide):PE X (.Name x pos) (tC v):=⟨fun _ _ _ H _ I h=>ir I hg hm hv ⟨v,H,I,r,h⟩ hn hd⟩
variable {a b:dL} {ta tb:TE} {pos:sB}
def PC (X:Cx) (op:Os) (a b:dL) (t:TE):Prop:=
 ∀(pins:List (ag×i4)) (s:bi) (σ:St) (H:Hp) (Q:VK),Inv X pins σ H s->t σ H Q->
  wpAny (model X.prog X.w) X.A (eval a X.env) (fun v az=>wpAny (model X.prog X.w) X.A (eval b X.env) (fun u jk=>wpAny (model X.prog X.w) X.A (compareOp op v u) (EP X pins σ Q) X.xe jk) X.xe az) X.xe s
theorem zN (b:dL) {op:Os} (h:op≠.In) (h2:op≠.NotIn):behindInMarks op b=false :=by
 have e1:(op==Os.In)=false :=by cases op <;> first|rfl|exact absurd rfl h
 have e2:(op==Os.NotIn)=false :=by cases op <;> first|rfl|exact absurd rfl h2
 cases b <;> simp [behindInMarks,e1,e2]
def tB (t:TE):TT:=fun σ H Q=>t σ H fun x H1=>∃c,x=.bl c/\Q c H1
theorem Mr {op:Os} {t:TE} (h:PC X op a b t) (h1:behindInMarks op b=false :=by first|exact zN _ (by decide) (by decide)|rfl):PT X (.Compare a [op] [b] pos) (tB t) :=by
 refine ⟨?_⟩
 intro pins s σ H Q I hw
 refine wpAny_isTrue_Compare1 (thn (h pins s σ H _ I hw) fun v s1 h1=>thn h1 fun u s2 h2=>thn h2 fun c s3 ⟨x,H1,I1,r1,q1⟩=>?_) h1
 obtain ⟨d,rfl,q⟩:=q1
 cases r1
 exact wE ⟨H1,I1,q⟩
theorem EC {e:dL} {t:TE} (h:PE X e t) (he:∀whole,isTrue e X.env whole=(do let v <- whole;standAt e.pos;holding [v] (truthy v)) :=by intro _;rfl):PT X e (tB t) :=by
 refine ⟨?_⟩
 intro pins s σ H Q I hw
 refine isTrue_plain (thn (h pins s σ H _ I hw) fun v s1 ⟨x,H1,I1,r1,q1⟩=>?_) (he _)
 obtain ⟨d,rfl,q⟩:=q1
 cases r1
 exact wE ⟨H1,I1,q⟩
variable {tA ni:TT} {rest:List dL}
def K3 (t u:TT):TT:=fun σ H Q=>t σ H fun c H1=>if c=true then u σ H1 Q else Q false H1
def Ms (t u:TT):TT:=fun σ H Q=>t σ H fun c H1=>if c=true then Q true H1 else u σ H1 Q
def K4 (t:TT):TT:=fun σ H Q=>t σ H fun c H1=>Q (!c) H1
theorem CO (ha:PT X a tA):PW X (.BoolOp .And [a] pos) tA :=by
 intro wh pins s σ H Q I h
 refine isTrue_and (thn (ha pins s σ H Q I h) fun c s1 e=>?_)
 cases c with
 |true=>exact isTrue_and_nil e
 |false=>exact e
theorem ED (ha:PT X a tA):PW X (.BoolOp .Or [a] pos) tA :=by
 intro wh pins s σ H Q I h
 refine isTrue_or (thn (ha pins s σ H Q I h) fun c s1 e=>?_)
 cases c with
 |false=>exact isTrue_or_nil e
 |true=>exact e
theorem EE (ha:PT X a tA) (hb:PW X (.BoolOp .And (b::rest) pos) ni):PW X (.BoolOp .And (a::b::rest) pos) (K3 tA ni) :=by
 intro wh pins s σ H Q I h
 refine isTrue_and (thn (ha pins s σ H _ I h) fun c s1 ⟨H1,I1,q1⟩=>?_)
 cases c with
 |true=>exact hb wh pins s1 σ H1 Q I1 q1
 |false=>exact ⟨H1,I1,q1⟩
theorem Ip (ha:PT X a tA) (hb:PW X (.BoolOp .Or (b::rest) pos) ni):PW X (.BoolOp .Or (a::b::rest) pos) (Ms tA ni) :=by
 intro wh pins s σ H Q I h
 refine isTrue_or (thn (ha pins s σ H _ I h) fun c s1 ⟨H1,I1,q1⟩=>?_)
 cases c with
 |true=>exact ⟨H1,I1,q1⟩
 |false=>exact hb wh pins s1 σ H1 Q I1 q1
theorem EF (ha:PT X a tA):PT X (.UnaryOp .Not a pos) (K4 tA) :=by
 refine ⟨?_⟩
 intro pins s σ H Q I h
 exact isTrue_not (ha pins s σ H (fun c H1=>Q (!c) H1) I h)
def Iq (ta tb:TE):TE:=fun σ H Q=>ta σ H fun x H1=>∃c,x=.bl c/\if c=true then tb σ H1 Q else Q (.bl false) H1
def K5 (ta tb:TE):TE:=fun σ H Q=>ta σ H fun x H1=>∃c,x=.bl c/\if c=true then Q (.bl true) H1 else tb σ H1 Q
def Ir (ta:TE):TE:=fun σ H Q=>ta σ H fun x H1=>∃c,x=.bl c/\Q (.bl (!c)) H1
theorem EG {op} {t:TE} (h:PE X a t):PE X (.BoolOp op [a] pos) t:=⟨fun pins s σ H Q I hw=>BoolOp_one (h pins s σ H Q I hw)⟩
theorem EH (ha:PE X a ta) (hb:PE X (.BoolOp .And (b::rest) pos) tb):PE X (.BoolOp .And (a::b::rest) pos) (Iq ta tb) :=by
 refine ⟨?_⟩
 intro pins s σ H Q I h
 refine BoolOp_and (thn (ha pins s σ H _ I h) fun v s1 ⟨x,H1,I1,r1,q1⟩=>?_)
 obtain ⟨c,rfl,q1⟩:=q1
 cases r1
 refine wE ?_
 cases c with
 |true=>exact hb pins s1 σ H1 Q I1 q1
 |false=>exact ⟨.bl false,H1,I1,rfl,q1⟩
theorem Iu (ha:PE X a ta) (hb:PE X (.BoolOp .Or (b::rest) pos) tb):PE X (.BoolOp .Or (a::b::rest) pos) (K5 ta tb) :=by
 refine ⟨?_⟩
 intro pins s σ H Q I h
 refine BoolOp_or (thn (ha pins s σ H _ I h) fun v s1 ⟨x,H1,I1,r1,q1⟩=>?_)
 obtain ⟨c,rfl,q1⟩:=q1
 cases r1
 refine wE ?_
 cases c with
 |false=>exact hb pins s1 σ H1 Q I1 q1
 |true=>exact ⟨.bl true,H1,I1,rfl,q1⟩
theorem EI (ha:PE X a ta):PE X (.UnaryOp .Not a pos) (Ir ta) :=by
 refine ⟨?_⟩
 intro pins s σ H Q I h
 refine UnaryOp_ (thn (ha pins s σ H _ I h) fun v s1 ⟨x,H1,I1,r1,q1⟩=>?_)
 obtain ⟨c,rfl,q1⟩:=q1
 cases r1
 exact not_of (wE ⟨.bl (!c),H1,I1,rfl,q1⟩)
end
def bA (K:bn) (H:Hp) (a:ag) (xs:List V):Prop:=
 Rd H a (.lst xs) \/
  ∃(o:i4) (its:Array ap) (n:Nat),K.lookup a=some o/\o.cls=.type "list" /\ o.dict=none/\o.data=.seq its n/\its.size<=sizeLine/\Vals xs its.toList
def cP (K:bn) (H:Hp) (a:ag) (xs:List V):Prop:=
 Rd H a (.tup xs) \/
  ∃(o:i4) (its:Array ap) (n:Nat),K.lookup a=some o/\o.cls=.type "tuple" /\ o.data=.seq its n/\its.size<=sizeLine/\Vals xs its.toList
def K6:ap->Option V
 | .none=>some .ao
 | .bool b=>some (.bl b)
 | .int i _=>some (.int i)
 | .str x _=>some (.str x)
 | .bytes b _=>some (.il b)
 | .float b _=>some (.uh b)
 | .ref a=>some (.ref a)
 | .type n=>some (.ty n)
 |_=>none
theorem RelV.abs {x:V} {u:ap} (r:RelV x u):K6 u=some x :=by
 cases x with
 |ao=>cases r;rfl
 |bl _=>cases r;rfl
 |int _=>obtain ⟨t,rfl⟩:=r;rfl
 |str _=>obtain ⟨t,rfl⟩:=r;rfl
 |il _=>obtain ⟨t,rfl⟩:=r;rfl
 |uh _=>obtain ⟨t,rfl⟩:=r;rfl
 |ref _=>cases r;rfl
 |ty _=>cases r;rfl
theorem RelV.inj {x y:V} {u:ap} (r:RelV x u) (q:RelV y u):x=y:=hX (r.abs.symm.trans q.abs)
theorem Vals.inj:∀{xs ys:List V} {us:List ap},Vals xs us->Vals ys us->xs=ys
 |_,_,_,.nil,.nil=>rfl
 |_,_,_,.cons r t,.cons r' t'=>by rw [r.inj r',Vals.inj t t']
section
variable {X:Cx} {pins:List (ag×i4)} {σ:St} {H:Hp} {s:bi} {a:ag} {xs ys:List V}
theorem bA.of {K:bn} (h:H a=some (.lst xs)):bA K H a xs:=.inl (.inl h)
theorem cP.of {K:bn} (h:H a=some (.tup xs)):cP K H a xs:=.inl (.inl h)
theorem Inv.list (I:Inv X pins σ H s) (h:bA X.K H a xs):∃its:List ap,Vals xs its/\PlainL s.heap a its.toArray/\xs.length<=sizeLine :=by
 rcases h with h|⟨o,its,n,hk,hc,hd,hs,hz,r⟩
 ·obtain ⟨z,its,n,r,e⟩:=h.ok I.hok
  exact ⟨its,r,⟨_,n,e,rfl,rfl,rfl⟩,z⟩
 ·refine ⟨its.toList,r,⟨o,n,I.fw a o hk,hc,hd,by simpa using hs⟩,?_⟩
  have e:=r.length
  simp only [ul] at e
  omega
theorem Inv.tuple (I:Inv X pins σ H s) (h:cP X.K H a xs):∃its:List ap,Vals xs its/\IsTup s.heap a its.toArray/\xs.length<=sizeLine :=by
 rcases h with h|⟨o,its,n,hk,hc,hs,hz,r⟩
 ·obtain ⟨z,its,r,p⟩:=h.ok I.hok
  exact ⟨its,r,jj.tup p,z⟩
 ·refine ⟨its.toList,r,⟨o,I.fw a o hk,hc,n,by simpa using hs⟩,?_⟩
  have e:=r.length
  simp only [ul] at e
  omega
theorem Inv.zO (I:Inv X pins σ H s) (h:bA X.K H a xs) (h':bA X.K H a ys):xs=ys :=by
 obtain ⟨its,r,⟨o,n,e,_,_,d⟩,_⟩:=I.list h
 obtain ⟨its',r',⟨o',n',e',_,_,d'⟩,_⟩:=I.list h'
 rw [e] at e';cases e'
 rw [d] at d'
 injection d' with d1 _
 have:its=its':=by simpa using congrArg Array.toList d1
 subst this
 exact r.inj r'
theorem Inv.wZ (I:Inv X pins σ H s) (h:cP X.K H a xs) (h':cP X.K H a ys):xs=ys :=by
 obtain ⟨its,r,⟨o,e,_,n,d⟩,_⟩:=I.tuple h
 obtain ⟨its',r',⟨o',e',_,n',d'⟩,_⟩:=I.tuple h'
 rw [e] at e';cases e'
 rw [d] at d'
 injection d' with d1 _
 have:its=its':=by simpa using congrArg Array.toList d1
 subst this
 exact r.inj r'
end
abbrev Cx.gP (X:Cx) (E:ap->bi->Prop):Cx:={X with xe:=E}
abbrev Cx.iX (X:Cx):Cx:=X.gP fun _ _=>False
theorem Cx.Ok.gP {X:Cx} (ok:X.Ok) (E:ap->bi->Prop):(X.gP E).Ok:=
 ⟨ok.mod,ok.kind,ok.glob,ok.blt,ok.above,ok.inj,ok.has,ok.cab,ok.hd,ok.frames,ok.stk,ok.exf,ok.bs,ok.bsz,ok.noex,ok.exfs,ok.funs,ok.frf⟩
theorem Cx.Ok.eO {X:Cx} {E:ap->bi->Prop} (ok:(X.gP E).Ok):X.Ok:=
 ⟨ok.mod,ok.kind,ok.glob,ok.blt,ok.above,ok.inj,ok.has,ok.cab,ok.hd,ok.frames,ok.stk,ok.exf,ok.bs,ok.bsz,ok.noex,ok.exfs,ok.funs,ok.frf⟩
section
variable {X:Cx} {pins:List (ag×i4)} {σ:St} {H:Hp} {s:bi} {E:ap->bi->Prop}
theorem Inv.gP (I:Inv X pins σ H s) (E:ap->bi->Prop):Inv (X.gP E) pins σ H s:=⟨I.ok.gP E,I.os,I.bare,I.base,I.loc,I.cell,I.free,I.freeC,I.pin,I.hok,I.len⟩
theorem Inv.eO (I:Inv (X.gP E) pins σ H s):Inv X pins σ H s:=⟨I.ok.eO,I.os,I.bare,I.base,I.loc,I.cell,I.free,I.freeC,I.pin,I.hok,I.len⟩
theorem SP.eO {D:Ends} {f:Flow} {s':bi} (h:SP (X.gP E) pins D f s'):SP X pins D f s':=by
 cases f with
 |next=>obtain ⟨aF,H',I,q⟩:=h;exact ⟨aF,H',I.eO,q⟩
 |brk=>obtain ⟨aF,H',I,q⟩:=h;exact ⟨aF,H',I.eO,q⟩
 |cont=>obtain ⟨aF,H',I,q⟩:=h;exact ⟨aF,H',I.eO,q⟩
 |ret u=>obtain ⟨v,aF,H',I,r,q⟩:=h;exact ⟨v,aF,H',I.eO,r,q⟩
theorem PE.iX {e:dL} {t:TE} (h:PE X.iX e t):PE X e t:=⟨fun pins s σ H Q I hw=>
 l9 (h pins s σ H Q (I.gP _) hw) (fun _ _ ⟨v,H',I',r,q⟩=>⟨v,H',I'.eO,r,q⟩) fun _ _ z=>AC z⟩
theorem fk.iX {st:List nw} {t:TS} (h:fk X.iX st t):fk X st t:=⟨fun pins s σ H D I hw=>
 l9 (h pins s σ H D (I.gP _) hw) (fun _ _ q=>q.eO) fun _ _ z=>AC z⟩
end
section
variable {X:Cx} {st:nw} {rest:List nw} {t u:TS} {e:dL} {te:TE} {pos:sB}
def Iv:TS:=fun D σ H=>D.nx σ H
def K7 (t u:TS):TS:=fun D σ H=>t {D with nx:=u D} σ H
theorem CP:fk X [] Iv:=⟨fun _ _ σ H _ I h=>PM ⟨σ,H,I,h⟩⟩
theorem zP (h1:PS X st t) (h2:fk X rest u):fk X (st::rest) (K7 t u) :=by
 refine ⟨?_⟩
 intro pins s σ H D I h
 refine wpAny_execs_cons (thn (h1 pins s σ H {D with nx:=u D} I h) fun f s1 q=>?_)
 cases f with
 |next=>
  obtain ⟨aF,H',I',q⟩:=q
  exact h2 pins s1 aF H' D I' q
 |ret v=>exact q
 |brk=>exact q
 |cont=>exact q
theorem CQ (h1:PS X st t):fk X [st] t :=by
 refine ⟨?_⟩
 intro pins s σ H D I h
 refine wpAny_execs_cons (thn (h1 pins s σ H D I h) fun f s1 q=>?_)
 cases f with
 |next=>exact PM q
 |ret v=>exact q
 |brk=>exact q
 |cont=>exact q
theorem Inv.quiet {pins:List (ag×i4)} {σ:St} {H:Hp} {s:bi} (I:Inv X pins σ H s):interactive X.env=false :=by simp [interactive,I.ok.kind]
def Iw (te:TE):TS:=fun D σ H=>te σ H fun _ H1=>D.nx σ H1
theorem CT (he:PE X e te) (hs:swapsWith e none pos.line X.env=pure false :=by rfl):PS X (.Expr e pos) (Iw te) :=by
 refine ⟨?_⟩
 intro pins s σ H D I h
 exact wpAny_Expr_any (thn (he pins s σ H _ I h) fun v s1 ⟨x,H1,I1,r1,q1⟩=>⟨σ,H1,I1,q1⟩) I.quiet hs
def K8 (te:TE):TS:=fun D σ H=>te σ H D.rt
theorem EJ (he:PE X e te):PS X (.Return (some e) pos) (K8 te) :=by
 refine ⟨?_⟩
 intro pins s σ H D I h
 exact wpAny_Return_some (thn (he pins s σ H _ I h) fun v s1 ⟨x,H1,I1,r1,q1⟩=>⟨x,σ,H1,I1,r1,q1⟩)
def K9 (c:TT) (t u:TS):TS:=fun D σ H=>c σ H fun b H1=>if b=true then t D σ H1 else u D σ H1
theorem Iy {c:dL} {a b:List nw} {tc:TT} (hc:PT X c tc) (ha:fk X a t) (hb:fk X b u):PS X (.If c a b pos) (K9 tc t u) :=by
 refine ⟨?_⟩
 intro pins s σ H D I h
 refine wpAny_If (thn (hc pins s σ H _ I h) fun d s1 ⟨H1,I1,q1⟩=>?_)
 cases d with
 |true=>exact ha pins s1 σ H1 D I1 q1
 |false=>exact hb pins s1 σ H1 D I1 q1
end
abbrev TG:=V->St->Hp->(St->Hp->Prop)->Prop
def PG (X:Cx) (target:dL) (t:TG):Prop:=
 ∀(pins:List (ag×i4)) (s:bi) (σ:St) (H:Hp) (v:V) (u:ap) (Q:St->Hp->Prop),Inv X pins σ H s->RelV v u->t v σ H Q->
  wpAny (model X.prog X.w) X.A (assign target X.env u) (fun _ s'=>∃aF H',Inv X pins aF H' s'/\Q aF H') X.xe s
abbrev zQ:=V->V->V->Hp->(Hp->Prop)->Prop
def EK (X:Cx) (t:zQ):Prop:=
 ∀(pins:List (ag×i4)) (s:bi) (σ:St) (H:Hp) (o i v:V) (ov iv u:ap) (Q:Hp->Prop),Inv X pins σ H s->RelV o ov->RelV i iv->RelV v u->t o i v H Q->
  wpAny (model X.prog X.w) X.A (setItem ov iv u) (fun _ s'=>∃H',Inv X pins σ H' s'/\Q H') X.xe s
section
variable {X:Cx} {pos:sB}
def nj (i:Nat):TG:=fun v σ H Q=>Q (σ.set i (some v)) H
theorem CU {i:Nat} {x:br} (hN:X.N.Nodup) (hi:X.N[i]?=some x) (hx:Loc X.env.scope x) (hf:X.fn x=true\/X.env.scope.names.lookup x=some .local :=by first|exact .inl rfl|exact .inr rfl|assumption):PG X (.Name x pos) (nj i) :=by
 intro pins s σ H v u Q I r h
 exact Qh (qV I hN hi hx r (fun s' I'=>⟨_,H,I',h⟩) hf)
def La (to ti:TE) (t:zQ):TG:=fun v σ H Q=>to σ H fun o H1=>ti σ H1 fun i H2=>t o i v H2 fun H3=>Q σ H3
theorem EL {o i:dL} {to ti:TE} {t:zQ} (ho:PE X o to) (hi:PE X i ti) (hs:EK X t)
  (ha:∀v,assign (.Subscript o i pos) X.env v=(do
   let ov <- holding [v] (eval o X.env)
   let iv <- holding [v,ov] (eval i X.env)
   standAt pos
   holding [v,ov,iv] (setItem ov iv v)
   release [v,ov,iv] []) :=by intro _;rfl):PG X (.Subscript o i pos) (La to ti t) :=by
 intro pins s σ H v u Q I r h
 rw [ha]
 refine ba (IS (thn (ho pins s σ H _ I h) fun ov s1 ⟨x,H1,I1,r1,q1⟩=>?_))
 refine ba (IS (thn (hi pins s1 σ H1 _ I1 q1) fun iv s2 ⟨y,H2,I2,r2,q2⟩=>?_))
 refine ba (AS (ba (IS (thn (hs pins s2 σ H2 x y v ov iv u _ I2 r1 r2 r q2) fun _ s3 ⟨H3,I3,q3⟩=>?_))))
 exact wpAny_release ⟨σ,H3,I3,q3⟩
def ox (te:TE) (g:TG):TS:=fun D σ H=>te σ H fun x H1=>g x σ H1 D.nx
theorem ER {tg e:dL} {te:TE} {g:TG} (he:PE X e te) (hg:PG X tg g) (hs:swapsWithSole [tg] e pos.line X.env=pure false :=by rfl) (hw:swappedStores [tg] e X.env=pure none :=by rfl)
  (h1:(assignEach [tg] X.env).map (·.2)=[assign tg X.env] :=by rfl):PS X (.Assign [tg] e pos) (ox te g) :=by
 refine ⟨?_⟩
 intro pins s σ H D I h
 refine wpAny_Assign_stores (thn (he pins s σ H _ I h) fun v s1 ⟨x,H1,I1,r1,q1⟩=>?_) hs hw
 rw [h1]
 exact thn (hg pins s1 σ H1 x v _ I1 r1 q1) fun _ s2 q=>q
theorem EV {i:Nat} {x:br} {e:dL} {te:TE} {pos':sB} (hN:X.N.Nodup) (hi:X.N[i]?=some x) (hx:Loc X.env.scope x) (he:PE X e te) (hs:swapsWith e (some (.Name x pos')) pos.line X.env=pure false :=by rfl) (hf:X.fn x=true\/X.env.scope.names.lookup x=some .local :=by first|exact .inl rfl|exact .inr rfl|assumption) :
  PS X (.Assign [.Name x pos'] e pos) (ox te (nj i)) :=by
 refine ⟨?_⟩
 intro pins s σ H D I h
 refine wpAny_Assign_Name (thn (he pins s σ H _ I h) fun v s1 ⟨y,H1,I1,r1,q1⟩=>?_) hs
 exact qV I1 hN hi hx r1 (fun s2 I2=>⟨_,H1,I2,q1⟩) hf
end
section
variable {X:Cx} {pos:sB}
def w5 (c:TT) (tb:TS):TS:=fun D σ H=>∃W:Nat->St->Hp->Prop,(∃m,W m σ H)/\∀m σ H,W m σ H->
 c σ H fun b H1=>if b=true then ∃N:St->Hp->Prop,(∀aF H',N aF H'->∃m',m'<m/\W m' aF H')/\tb {D with nx:=N,ct:=N,bk:=D.nx} σ H1 else D.nx σ H1
theorem zR {c:dL} {body:List nw} {tc:TT} {tb:TS} (hp:P9 (model X.prog X.w) X.A X.env X.xe) (hc:PT X c tc) (hb:fk X body tb):PS X (.While c body [] pos) (w5 tc tb) :=by
 refine ⟨?_⟩
 intro pins s σ H D I h
 obtain ⟨W,⟨m0,w0⟩,turn⟩:=h
 refine wpAny_While (codeAny_whileLoop (fun n s'=>∃aF H',Inv X pins aF H' s'/\W n aF H') ?_ m0 ⟨σ,H,I,w0⟩)
 rintro n s1 ⟨qY,H1,I1,w1⟩
 refine Is hp (thn (hc pins s1 qY H1 _ I1 (turn n qY H1 w1)) fun b s2 ⟨H2,I2,q2⟩=>?_)
 cases b with
 |true=>
  obtain ⟨N,hN,q2⟩:=q2
  rw [if_pos rfl]
  refine Is hp (thn (hb pins s2 qY H2 _ I2 q2) fun f s3 q3=>?_)
  cases f with
  |next=>
   obtain ⟨js,H3,I3,n3⟩:=q3
   obtain ⟨m',hm,w3⟩:=hN js H3 n3
   exact ⟨m',hm,js,H3,I3,w3⟩
  |cont=>
   obtain ⟨js,H3,I3,n3⟩:=q3
   obtain ⟨m',hm,w3⟩:=hN js H3 n3
   exact ⟨m',hm,js,H3,I3,w3⟩
  |brk=>exact q3
  |ret v=>exact q3
 |false=>
  rw [if_neg ge]
  exact PM ⟨qY,H2,I2,q2⟩
end
structure It where
 go:Nat->Hp->Prop
 yld:Nat->Hp->V->Hp->Prop
 stop:Nat->Hp->Prop
def cG (X:Cx) (pins:List (ag×i4)) (H:Hp) (b:ag):Prop:=
 H b=none/\b≠X.env.locals/\b ∉ X.fs/\(b∈X.ex\/X.s₀.heap.objs.size<=b)/\(∀x c,X.env.cells.lookup x=some c->c≠b)/\∀p∈X.pn++pins,p.1≠b
theorem Inv.oy {X:Cx} {pins:List (ag×i4)} {σ:St} {H H':Hp} {s:bi} {b:ag} (I:Inv X pins σ H s) (hb:s.heap.objs.size<=b) (hn:H' b=none):cG X pins H' b :=by
 refine ⟨hn,Qp (kw I.lt hb),I.Es hb,.inr (r6 I.sz hb),fun x c e z=>?_,fun p hp z=>?_⟩
 ·obtain ⟨v,q⟩:=I.cell x c e
  exact absurd (kw q.lt (by rw [z];exact hb)) (AN _)
 ·exact absurd (kw (im (I.pin p hp).1) (by rw [z];exact hb)) (AN _)
structure Turn (P:f8) (w:ii) (K:bn) (tg:dL) (J:It) (fp:List ag) (it:ag) (tn:Nat->gl->Prop):Prop where
 mem:it∈fp
 obj:∀i h,tn i h->∀b∈fp,∃o,h.get? b=some o/\∀v,o.data≠.cell v
 keep:∀i h h',tn i h->(∀b∈fp,∀o,h.get? b=some o->h'.get? b=some o)->tn i h'
 item:∀(X:Cx),X.prog=P->X.w=w->X.K=K->X.calm=true->∀(i:Nat) (pins:List (ag×i4)) (s:bi) (σ:St) (H:Hp) (E:ap->bi->Prop),Inv X pins σ H s->(∀b∈fp,cG X pins H b)->tn i s.heap->J.go i H->
  wpAny (model P w) X.A (pyNext (.ref it)) (fun r s1=>∃u,r=some u /\
   wpAny (model P w) X.A (letOwnedTupleGo tg (.ref it) u) (fun _ s2=>∃x H',Inv X pins σ H' s2/\RelV x u/\J.yld i H x H'/\tn (i+1) s2.heap/\∀b∈fp,H' b=none) E s1) E s
 done:∀(X:Cx),X.prog=P->X.w=w->X.K=K->X.calm=true->∀(i:Nat) (pins:List (ag×i4)) (s:bi) (σ:St) (H:Hp) (E:ap->bi->Prop),Inv X pins σ H s->(∀b∈fp,cG X pins H b)->tn i s.heap->J.stop i H->
  wpAny (model P w) X.A (pyNext (.ref it)) (fun r s1=>r=none/\Inv X pins σ H s1) E s
 self:∀(A:l8) (i:Nat) (s:bi) (Q:ap->bi->Prop) (E:ap->bi->Prop),tn i s.heap->Q (.ref it) s->wpAny (model P w) A (pyIter (.ref it)) Q E s
abbrev TI:=St->Hp->(It->Hp->Prop)->Prop
def JU (X:Cx) (pins:List (ag×i4)) (σ:St) (tg:dL) (R:It->Hp->Prop) (uk:ap) (s2:bi):Prop:=
 ∃(it:ag) (fp:List ag) (tn:Nat->gl->Prop) (J:It) (H':Hp),uk=.ref it/\Inv X pins σ H' s2/\Turn X.prog X.w X.K tg J fp it tn/\tn 0 s2.heap/\(∀b∈fp,cG X pins H' b)/\R J H'
def PI (X:Cx) (tg iter:dL) (wi:TI):Prop:=
 ∀(pins:List (ag×i4)) (s:bi) (σ:St) (H:Hp) (R:It->Hp->Prop),Inv X pins σ H s->wi σ H R->
  wpAny (model X.prog X.w) X.A (eval iter X.env) (fun v s1=>wpAny (model X.prog X.w) X.A (pyIter v) (JU X pins σ tg R) X.xe s1) X.xe s
theorem qH {M:Model} {A:l8} {E:ap->bi->Prop} {s:bi} {tg:dL} {it:ag} {u:ap} {o:i4} {n:String} {vs:Array ap} {Q:Unit->bi->Prop} (ho:s.heap.get? it=some o) (hc:o.cls=.type n) (hd:o.data=.fields vs)
  (hn:["enumerate","zip","dict_itemiterator","dict_reverseitemiterator","odict_iterator","itertools.zip_longest","itertools.pairwise"].contains n=false) (hQ:Q () s):wpAny M A (letOwnedTupleGo tg (.ref it) u) Q E s :=by
 unfold letOwnedTupleGo
 cases tg <;> first
  |exact ce hQ
  |(cases u <;> first
    |exact ce hQ
    |(refine ba (wpAny_load ho ?_)
      rw [hc,hd]
      show wpAny M A (if (["enumerate","zip","dict_itemiterator","dict_reverseitemiterator","odict_iterator","itertools.zip_longest","itertools.pairwise"].contains n && vs[0]?==some (rawInt _))=true then _ else _) Q E s
      rw [if_neg (by intro h;rw [hn,Pm] at h;cases h)]
      exact ce hQ))
def EW (K:bn) (a:ag):It:=
 ⟨fun i H=>∃xs x,bA K H a xs/\xs[i]?=some x,fun i H x H'=>H'=H/\∀xs,bA K H a xs->xs[i]?=some x,fun i H=>∃xs,bA K H a xs/\xs.length<=i⟩
def EX (K:bn) (a:ag):It:=
 ⟨fun i H=>∃xs x,cP K H a xs/\xs[i]?=some x,fun i H x H'=>H'=H/\∀xs,cP K H a xs->xs[i]?=some x,fun i H=>∃xs,cP K H a xs/\xs.length<=i⟩
def BC (lo:Int) (n:Nat):It:=⟨fun i _=>i<n,fun i H x H'=>H'=H/\x=.int (lo+i),fun i _=>n<=i⟩
theorem w6 {P:f8} {w:ii} {K:bn} {tg:dL} (a it:ag):Turn P w K tg (EW K a) [it] it (fun i h=>h.IsListIter it a i) where
 mem :=by simp
 obj:=fun i h st b hb=>by
  have e:b=it :=by simpa using hb
  subst e
  obtain ⟨o,e,c,d⟩:=st
  exact ⟨o,e,fun v z=>by rw [d] at z;cases z⟩
 keep:=fun i h h' st k=>st.at fun o e=>k it (by simp) o e
 item :=by
  intro X hP hw hK hc i pins s σ H E I hf st hg
  subst hP hw hK
  obtain ⟨xs,x,hq,hx⟩:=hg
  obtain ⟨its,rv,p,hz⟩:=I.list hq
  obtain ⟨u,hu,ru⟩:=rv.get hx
  obtain ⟨f0,f1,f2,f3,f4,f5⟩:=hf it (by simp)
  refine wpAny_pyNext_list_item st p.isList (x:=u) (by simpa using hu) fun h' km sb=>?_
  have I1:Inv X pins σ H {s with heap:=h'}:=I.turned (t':=s.toks) (fun b o hb e=>(sb.2 b hb).trans e) f0 f1 f3 f4 f5
  obtain ⟨o,e,c,d⟩:=id km
  exact ⟨u,rfl,qH (s:={s with heap:=h'}) e c d (by decide) ⟨x,H,I1,ru,⟨rfl,fun ys hy=>by rw [I.zO hy hq];exact hx⟩,km,fun b hb=>(hf b hb).1⟩⟩
 done :=by
  intro X hP hw hK hc i pins s σ H E I hf st hg
  subst hP hw hK
  obtain ⟨xs,hq,hx⟩:=hg
  obtain ⟨its,rv,p,hz⟩:=I.list hq
  obtain ⟨f0,f1,f2,f3,f4,f5⟩:=hf it (by simp)
  have hl:=rv.length
  exact wpAny_pyNext_list_end (I.ok.hd hc) st p.isList (by simp;omega) fun h' eb=>⟨rfl,I.turned (t':=s.toks) (fun b o hb e=>eb b o hb e) f0 f1 f3 f4 f5⟩
 self:=fun _ _ _ _ _ st h=>wpAny_pyIter_listiter st h
theorem vg {P:f8} {w:ii} {K:bn} {tg:dL} (a it:ag):Turn P w K tg (EX K a) [it] it (fun i h=>h.IsTupleIter it a i) where
 mem :=by simp
 obj:=fun i h st b hb=>by
  have e:b=it :=by simpa using hb
  subst e
  obtain ⟨o,e,c,d⟩:=st
  exact ⟨o,e,fun v z=>by rw [d] at z;cases z⟩
 keep:=fun i h h' st k=>st.at fun o e=>k it (by simp) o e
 item :=by
  intro X hP hw hK hc i pins s σ H E I hf st hg
  subst hP hw hK
  obtain ⟨xs,x,hq,hx⟩:=hg
  obtain ⟨its,rv,p,hz⟩:=I.tuple hq
  obtain ⟨u,hu,ru⟩:=rv.get hx
  obtain ⟨f0,f1,f2,f3,f4,f5⟩:=hf it (by simp)
  refine wpAny_pyNext_tuple_item st (show s.heap.IsTuple a its.toArray from p) (x:=u) (by simpa using hu) fun h' km sb=>?_
  have I1:Inv X pins σ H {s with heap:=h'}:=I.turned (t':=s.toks) (fun b o hb e=>(sb.2 b hb).trans e) f0 f1 f3 f4 f5
  obtain ⟨o,e,c,d⟩:=id km
  exact ⟨u,rfl,qH (s:={s with heap:=h'}) e c d (by decide) ⟨x,H,I1,ru,⟨rfl,fun ys hy=>by rw [I.wZ hy hq];exact hx⟩,km,fun b hb=>(hf b hb).1⟩⟩
 done :=by
  intro X hP hw hK hc i pins s σ H E I hf st hg
  subst hP hw hK
  obtain ⟨xs,hq,hx⟩:=hg
  obtain ⟨its,rv,p,hz⟩:=I.tuple hq
  obtain ⟨f0,f1,f2,f3,f4,f5⟩:=hf it (by simp)
  have hl:=rv.length
  exact wpAny_pyNext_tuple_end (I.ok.hd hc) st (show s.heap.IsTuple a its.toArray from p) (by simp;omega) fun h' eb=>⟨rfl,I.turned (t':=s.toks) (fun b o hb e=>eb b o hb e) f0 f1 f3 f4 f5⟩
 self:=fun _ _ _ _ _ st h=>wpAny_pyIter_tupleiter st h
theorem vh {P:f8} {w:ii} {K:bn} {tg:dL} (it:ag) (lo:Int) (n:Nat):Turn P w K tg (BC lo n) [it] it (fun i h=>IsRangeIter h it (lo+(i:Nat) * 1) ((n:Int) - (i:Nat)) 1) where
 mem :=by simp
 obj:=fun i h st b hb=>by
  have e:b=it :=by simpa using hb
  subst e
  exact ⟨_,st,fun v z=>by
   have z':Data.fields _=Data.cell v:=z
   cases z'⟩
 keep:=fun i h h' st k=>k it (by simp) _ st
 item :=by
  intro X hP hw hK hc i pins s σ H E I hf st hg
  subst hP hw hK
  obtain ⟨f0,f1,f2,f3,f4,f5⟩:=hf it (by simp)
  have W:=Walks.range (prog:=X.prog) (w:=X.w) (I.ok.hd hc) it lo 1 n
  refine W.item i s _ _ hg st fun v h' tk hv km kk=>?_
  obtain ⟨t,rfl⟩:=hv
  have I1:Inv X pins σ H {s with heap:=h',toks:=tk}:=I.turned (fun b o hb e=>kk b o (by simpa using hb) e) f0 f1 f3 f4 f5
  refine ⟨_,rfl,qH (s:={s with heap:=h',toks:=tk}) (n := "range_iterator") km rfl rfl (by decide) ⟨.int (lo+i),H,I1,⟨t,?_⟩,⟨rfl,rfl⟩,km,fun b hb=>(hf b hb).1⟩⟩
  rw [Int.mul_one]
 done :=by
  intro X hP hw hK hc i pins s σ H E I hf st hg
  subst hP hw hK
  obtain ⟨f0,f1,f2,f3,f4,f5⟩:=hf it (by simp)
  exact wpAny_pyNext_range_end (I.ok.hd hc) st (by have:n<=i:=hg;omega) fun h' eb=>⟨rfl,I.turned (t':=s.toks) (fun b o hb e=>eb b o hb e) f0 f1 f3 f4 f5⟩
 self:=fun _ _ _ _ _ st h=>wpAny_pyIter_rangeiter st h
section
variable {X:Cx} {tg:dL}
def vi (K:bn) (tl:TE):TI:=fun σ H R=>tl σ H fun x H1=>∃a,x=.ref a/\(∃xs,bA K H1 a xs)/\R (EW K a) H1
def EY (K:bn) (tl:TE):TI:=fun σ H R=>tl σ H fun x H1=>∃a,x=.ref a/\(∃xs,cP K H1 a xs)/\R (EX K a) H1
theorem CV {l:dL} {tl:TE} (hl:PE X l tl):PI X tg l (vi X.K tl) :=by
 intro pins s σ H R I h
 refine thn (hl pins s σ H _ I h) fun v s1 ⟨x,H1,I1,r1,q1⟩=>?_
 obtain ⟨a,e,⟨xs,hq⟩,q⟩:=q1
 subst e
 cases r1
 obtain ⟨its,rv,p,hz⟩:=I1.list hq
 refine wpAny_pyIter_list p.isList ?_
 refine ⟨s1.heap.objs.size,[s1.heap.objs.size],_,_,H1,rfl,I1.kept (t':=s1.toks) fun b o e=>ci _ e,w6 a _,⟨_,i1 _ rfl,rfl,rfl⟩,fun b hb=>?_,q⟩
 have e:b=s1.heap.objs.size :=by simpa using hb
 subst e
 exact I1.oy (c8 _) (I1.hok.fresh (c8 _))
theorem EZ {l:dL} {tl:TE} (hl:PE X l tl):PI X tg l (EY X.K tl) :=by
 intro pins s σ H R I h
 refine thn (hl pins s σ H _ I h) fun v s1 ⟨x,H1,I1,r1,q1⟩=>?_
 obtain ⟨a,e,⟨xs,hq⟩,q⟩:=q1
 subst e
 cases r1
 obtain ⟨its,rv,p,hz⟩:=I1.tuple hq
 refine wpAny_pyIter_tuple (show s1.heap.IsTuple a its.toArray from p) ?_
 refine ⟨s1.heap.objs.size,[s1.heap.objs.size],_,_,H1,rfl,I1.kept (t':=s1.toks) fun b o e=>ci _ e,vg a _,⟨_,i1 _ rfl,rfl,rfl⟩,fun b hb=>?_,q⟩
 have e:b=s1.heap.objs.size :=by simpa using hb
 subst e
 exact I1.oy (c8 _) (I1.hok.fresh (c8 _))
theorem zS {pins:List (ag×i4)} {σ:St} {H:Hp} {s:bi} {R:It->Hp->Prop} {E:ap->bi->Prop} {lo hi:Int} {t u v:QH} {tk:Nat} (I:Inv X pins σ H s) (h1 : -(2 ^ 62)<=lo) (h2:lo<2 ^ 62) (h3 : -(2 ^ 62)<=hi) (h4:hi<2 ^ 62)
  (q:R (BC lo (hi - lo).toNat) H):wpAny (model X.prog X.w) X.A (pyIter (.ref s.heap.objs.size)) (JU X pins σ tg R) E {s with heap:=s.heap.push {cls:=.type "range",data:=.fields #[.int lo t,.int hi u,.int 1 v]},toks:=tk}:=by
 refine wpAny_pyIter_range (IsRange.new ..) (small_one h1 h2 h3 h4) ?_
 have I1:Inv X pins σ H {s with heap:=s.heap.push {cls:=.type "range",data:=.fields #[.int lo t,.int hi u,.int 1 v]},toks:=tk}:=I.kept fun b o e=>ci _ e
 refine ⟨(s.heap.push {cls:=.type "range",data:=.fields #[.int lo t,.int hi u,.int 1 v]}).objs.size,[(s.heap.push {cls:=.type "range",data:=.fields #[.int lo t,.int hi u,.int 1 v]}).objs.size],_,_,H,rfl,
  I1.kept (t':=tk) fun b o e=>ci _ e,vh _ lo (hi - lo).toNat,?_,fun b hb=>?_,q⟩
 ·have e1:lo+((0:Nat):Int) * 1=lo :=by simp
  have e2:(((hi - lo).toNat:Nat):Int) - ((0:Nat):Int)=uu.Range.rangeSize lo hi 1 :=by rw [rangeSize_one];split <;> omega
  show IsRangeIter _ _ (lo+((0:Nat):Int) * 1) ((((hi - lo).toNat:Nat):Int) - ((0:Nat):Int)) 1
  rw [e1,e2]
  exact i1 _ rfl
 ·have e:b=(s.heap.push {cls:=.type "range",data:=.fields #[.int lo t,.int hi u,.int 1 v]}).objs.size :=by simpa using hb
  subst e
  exact I1.oy (c8 _) (I1.hok.fresh (c8 _))
def BD (ta:TA):TI:=fun σ H R=>ta σ H fun vs H1=>∃j:Int,vs=[.int j] /\ -(2 ^ 62)<=j/\j<2 ^ 62/\R (BC 0 j.toNat) H1
theorem w9 {a:dL} {ta:TA} {p pos:sB} (hg:Gl X "range") (hm:X.mg "range" = none) (ha:PA X [a] ta) (hs:starEach [a] X.env=[(false,eval a X.env)] :=by rfl):PI X tg (.Call (.Name "range" p) [a] [] pos) (BD ta) :=by
 intro pins s σ H R I h
 refine Call_ (ir I hg hm boot_range (Go (thn (ha pos pins s σ H _ I h) fun us s1 ⟨vs,H1,I1,r1,q1⟩=>?_) hs rfl))
 obtain ⟨j,e,q1,q2,q⟩:=q1
 subst e
 cases r1 with
 |cons r rr=>
  cases rr
  obtain ⟨t,rfl⟩:=r
  exact call_range_1 (zS I1 (by omega) (by omega) q1 q2 (by simpa using q))
def zT (wi:TI) (g:TG) (tb:TS):TS:=fun D σ H=>wi σ H fun J H1=>∃W:Nat->Nat->St->Hp->Prop,(∃m,W 0 m σ H1)/\∀i m σ H,W i m σ H->
 (J.stop i H/\D.nx σ H)\/(J.go i H/\∃N:St->Hp->Prop,(∀aF H',N aF H'->∃m',m'<m/\W (i+1) m' aF H')/\∀x H',J.yld i H x H'->g x σ H' fun iY H2=>tb {D with nx:=N,ct:=N,bk:=D.nx} iY H2)
def jt (fp:List ag) (h:gl):List (ag×i4):=fp.filterMap fun b=>(h.get? b).map fun o=>(b,o)
theorem d7 {fp:List ag} {h:gl} {b:ag} {o:i4} (hb:b∈fp) (e:h.get? b=some o):(b,o)∈jt fp h:=Qa.mpr ⟨b,hb,by rw [e];rfl⟩
theorem xa {fp:List ag} {h:gl} {p:ag×i4} (hp:p∈jt fp h):p.1∈fp/\h.get? p.1=some p.2 :=by
 obtain ⟨b,hb,e⟩:=Qa.mp hp
 cases q:h.get? b with
 |none=>rw [q] at e;cases e
 |some o=>
  rw [q] at e
  have e':(b,o)=p:=hX e
  subst e'
  exact ⟨hb,q⟩
theorem Inv.pinned {pins:List (ag×i4)} {σ:St} {H:Hp} {s:bi} {fp:List ag} (I:Inv X pins σ H s) (hf:∀b∈fp,cG X pins H b) (ho:∀b∈fp,∃o,s.heap.get? b=some o/\∀v,o.data≠.cell v):Inv X (pins++jt fp s.heap) σ H s:=
 I.ow fun p hp=>(wT.mp hp).elim (fun z=>I.pin p (li _ z)) fun z=>by
  obtain ⟨hb,e⟩:=xa z
  obtain ⟨f0,f1,f2,_⟩:=hf p.1 hb
  obtain ⟨o,e',d⟩:=ho p.1 hb
  rw [e] at e';cases e'
  exact ⟨e,f0,f1,f2,d⟩
theorem Inv.eZ {pins pl:List (ag×i4)} {σ:St} {H:Hp} {s:bi} (I:Inv X (pins++pl) σ H s):Inv X pins σ H s:=I.ow fun p hp=>I.pin p (li _ (zw _ hp))
theorem xc {iter:dL} {body:List nw} {wi:TI} {g:TG} {tb:TS} {pos:sB} (hp:P9 (model X.prog X.w) X.A X.env X.xe) (hc:X.calm=true) (hi:PI X tg iter wi) (hg:PG X tg g) (hb:fk X body tb)
  (hs:∀x,foldedSetIterable iter X.env x=pure x :=by intro _;rfl):PS X (.For tg iter body [] pos) (zT wi g tb) :=by
 refine ⟨?_⟩
 intro pins s σ H D I h
 refine wpAny_For (thn (hi pins s σ H _ I h) fun v s1 h1=>thn h1 fun uk s2 h2=>?_) hs
 obtain ⟨it,fp,tn,J,H2,e,I2,T,nq,f2,W,⟨m0,w0⟩,turn⟩:=h2
 subst e
 have stat:∀{H':Hp},(∀b∈fp,H' b=none)->∀b∈fp,cG X pins H' b:=fun hn b hb=>⟨hn b hb,(f2 b hb).2⟩
 refine codeAny_forLoop_any (fun n s'=>∃i aF H',Inv X pins aF H' s'/\tn i s'.heap/\(∀b∈fp,H' b=none)/\W i n aF H') ?_ m0 ⟨0,σ,H2,I2,nq,fun b hb=>(f2 b hb).1,w0⟩
 rintro n s3 ⟨i,js,H3,I3,o9,xf,w3⟩
 rcases turn i n js H3 w3 with ⟨stop,qn⟩|⟨go,N,hN,step⟩
 ·refine Is hp (thn (T.done X rfl rfl rfl hc i pins s3 js H3 X.xe I3 (stat xf) o9 stop) fun r s4 ⟨hr,I4⟩=>?_)
  subst hr
  exact PM ⟨js,H3,I4,qn⟩
 ·refine Is hp (thn (T.item X rfl rfl rfl hc i pins s3 js H3 X.xe I3 (stat xf) o9 go) fun r s4 ⟨u,hr,h4⟩=>?_)
  subst hr
  refine Is hp (thn h4 fun _ s5 ⟨x,H5,I5,r5,y5,kn,xg⟩=>?_)
  have xh:=I5.pinned (stat xg) (T.obj _ _ kn)
  refine Is hp (thn (hg _ s5 js H5 x u _ xh r5 (step x H5 y5)) fun _ s6 ⟨Mt,H6,I6,q6⟩=>?_)
  refine Is hp (thn (hb _ s6 Mt H6 _ I6 q6) fun f s7 q7=>?_)
  have again:∀{ko:St} {H7:Hp},Inv X (pins++jt fp s5.heap) ko H7 s7->N ko H7->∃m,m<n/\∃i aF H',Inv X pins aF H' s7/\tn i s7.heap/\(∀b∈fp,H' b=none)/\W i m aF H':=fun {ko H7} I7 n7=>by
   obtain ⟨m',hm,w7⟩:=hN ko H7 n7
   refine ⟨m',hm,i+1,ko,H7,I7.eZ,T.keep _ _ _ kn fun b hb o e=>(I7.pin (b,o) (li _ (li _ (d7 hb e)))).1,fun b hb=>?_,w7⟩
   obtain ⟨o,e,d⟩:=T.obj _ _ kn b hb
   exact (I7.pin (b,o) (li _ (li _ (d7 hb e)))).2.1
  cases f with
  |next=>obtain ⟨ko,H7,I7,n7⟩:=q7;exact again I7 n7
  |cont=>obtain ⟨ko,H7,I7,n7⟩:=q7;exact again I7 n7
  |brk=>obtain ⟨ko,H7,I7,q7⟩:=q7;exact ⟨ko,H7,I7.eZ,q7⟩
  |ret v=>obtain ⟨x7,ko,H7,I7,r7,q7⟩:=q7;exact ⟨x7,ko,H7,I7.eZ,r7,q7⟩
end
abbrev R2:=V->V->Hp->VK->Prop
def OpR (X:Cx) (f:ap->ap->Op ap) (r:R2):Prop:=
 ∀(pins:List (ag×i4)) (s:bi) (σ:St) (H:Hp) (x y:V) (v u:ap) (Q:VK),Inv X pins σ H s->RelV x v->RelV y u->r x y H Q->
  wpAny (model X.prog X.w) X.A (f v u) (EP X pins σ Q) X.xe s
def UnR (X:Cx) (f:ap->Op ap) (r:V->Hp->VK->Prop):Prop:=
 ∀(pins:List (ag×i4)) (s:bi) (σ:St) (H:Hp) (x:V) (v:ap) (Q:VK),Inv X pins σ H s->RelV x v->r x H Q->
  wpAny (model X.prog X.w) X.A (f v) (EP X pins σ Q) X.xe s
def c7 (X:Cx) (f:ap) (r:List V->Hp->VK->Prop):Prop:=
 ∀(pins:List (ag×i4)) (s:bi) (σ:St) (H:Hp) (xs:List V) (us:List ap) (Q:VK),Inv X pins σ H s->Vals xs us->r xs H Q->
  wpAny (model X.prog X.w) X.A (call f us) (EP X pins σ Q) X.xe s
def Lb (X:Cx) (r:V->Hp->(Bool->Hp->Prop)->Prop):Prop:=
 ∀(pins:List (ag×i4)) (s:bi) (σ:St) (H:Hp) (x:V) (v:ap) (Q:Bool->Hp->Prop),Inv X pins σ H s->RelV x v->r x H Q->
  wpAny (model X.prog X.w) X.A (truthy v) (TP X pins σ Q) X.xe s
def xi (r:R2) (ta tb:TE):TE:=fun σ H Q=>ta σ H fun x H1=>tb σ H1 fun y H2=>r x y H2 Q
def Mu (r:V->Hp->VK->Prop) (ta:TE):TE:=fun σ H Q=>ta σ H fun x H1=>r x H1 Q
def rI (C:Int->Int->Prop) (g:Int->Int->V):R2:=fun x y H Q=>∃i j,x=.int i/\y=.int j/\C i j/\Q (g i j) H
def pf (g:Int->Int->V):R2:=fun x y H Q=>∃i j,x=.int i/\y=.int j/\Q (g i j) H
def rU (g:Int->V):V->Hp->VK->Prop:=fun x H Q=>∃i,x=.int i/\Q (g i) H
section
variable {X:Cx} {a b c:dL} {ta tb tc:TE} {pos:sB}
theorem zU (ha:PE X a ta) (hb:PE X b tb) {pins:List (ag×i4)} {s:bi} {σ:St} {H:Hp} {R:V->V->Hp->Prop} (I:Inv X pins σ H s)
  (h:ta σ H fun x H1=>tb σ H1 fun y H2=>R x y H2) {Q:ap->bi->Prop} {f:ap->ap->Op ap}
  (hf:∀v u s2 x y H2,Inv X pins σ H2 s2->RelV x v->RelV y u->R x y H2->wpAny (model X.prog X.w) X.A (f v u) Q X.xe s2) :
  wpAny (model X.prog X.w) X.A (eval a X.env) (fun v az=>wpAny (model X.prog X.w) X.A (eval b X.env) (fun u jk=>wpAny (model X.prog X.w) X.A (f v u) Q X.xe jk) X.xe az) X.xe s :=by
 refine thn (ha pins s σ H _ I h) fun v s1 ⟨x,H1,I1,r1,q1⟩=>?_
 refine thn (hb pins s1 σ H1 _ I1 q1) fun u s2 ⟨y,H2,I2,r2,q2⟩=>?_
 exact hf v u s2 x y H2 I2 r1 r2 q2
theorem Iz {op:Operator} {r:R2} (ho:OpR X (binaryOp op) r) (ha:PE X a ta) (hb:PE X b tb):PE X (.BinOp a op b pos) (xi r ta tb) :=by
 refine ⟨?_⟩
 intro pins s σ H Q I h
 exact wpAny_BinOp (zU ha hb I h fun v u s2 x y H2 I2 rx ry q=>ho pins s2 σ H2 x y v u Q I2 rx ry q)
theorem IA {op:UnaryOp} {r:V->Hp->VK->Prop} (ho:UnR X (unaryOp op) r) (ha:PE X a ta):PE X (.UnaryOp op a pos) (Mu r ta) :=by
 refine ⟨?_⟩
 intro pins s σ H Q I h
 exact UnaryOp_ (thn (ha pins s σ H _ I h) fun v s1 ⟨x,H1,I1,r1,q1⟩=>ho pins s1 σ H1 x v Q I1 r1 q1)
theorem BE {f:ap->ap->Op ap} {C:Int->Int->Prop} {g:Int->Int->Int}
  (rule:∀(i j:Int) (t u:QH) (s:bi) (Q:ap->bi->Prop) (E:ap->bi->Prop),C i j->Q (.int (g i j) s.toks) {s with toks:=s.toks+1}->wpAny (model X.prog X.w) X.A (f (.int i t) (.int j u)) Q E s) :
  OpR X f (rI C fun i j=>.int (g i j)) :=by
 intro pins s σ H x y v u Q I rx ry h
 obtain ⟨i,j,rfl,rfl,hc,q⟩:=h
 obtain ⟨t,rfl⟩:=rx
 obtain ⟨t',rfl⟩:=ry
 exact rule i j t t' s _ _ hc ⟨.int (g i j),H,I.tok _,⟨_,rfl⟩,q⟩
theorem E1 {f:ap->ap->Op ap} {g:Int->Int->Int}
  (rule:∀(i j:Int) (t u:QH) (s:bi) (Q:ap->bi->Prop) (E:ap->bi->Prop),Q (.int (g i j) s.toks) {s with toks:=s.toks+1}->wpAny (model X.prog X.w) X.A (f (.int i t) (.int j u)) Q E s) :
  OpR X f (pf fun i j=>.int (g i j)) :=by
 intro pins s σ H x y v u Q I rx ry h
 obtain ⟨i,j,rfl,rfl,q⟩:=h
 obtain ⟨t,rfl⟩:=rx
 obtain ⟨t',rfl⟩:=ry
 exact rule i j t t' s _ _ ⟨.int (g i j),H,I.tok _,⟨_,rfl⟩,q⟩
theorem zV {f:ap->ap->Op ap} {g:Int->Int->Bool}
  (rule:∀(i j:Int) (t u:QH) (s:bi) (Q:ap->bi->Prop) (E:ap->bi->Prop),Q (.bool (g i j)) s->wpAny (model X.prog X.w) X.A (f (.int i t) (.int j u)) Q E s) :
  OpR X f (pf fun i j=>.bl (g i j)) :=by
 intro pins s σ H x y v u Q I rx ry h
 obtain ⟨i,j,rfl,rfl,q⟩:=h
 obtain ⟨t,rfl⟩:=rx
 obtain ⟨t',rfl⟩:=ry
 exact rule i j t t' s _ _ ⟨.bl (g i j),H,I,rfl,q⟩
def E2 (i j:Int):Prop:=0<j/\j<1073741824
def E3 (i j:Int):Prop:=0<=j/\j<=1000000/\i.natAbs<2 ^ 64
def vj (i j:Int):Prop:=(-(2 ^ 64)<i/\i<2 ^ 64)\/(-(2 ^ 64)<j/\j<2 ^ 64)
theorem vj.ok {i j:Int} (h:vj i j):IntMulOk i j :=by
 rcases h with ⟨h1,h2⟩|⟨h1,h2⟩
 ·exact .of_left (intBits_le_64 h1 h2)
 ·exact .of_right (intBits_le_64 h1 h2)
theorem E4:OpR X (binaryOp .Add) (pf fun i j=>.int (i+j)):=E1 fun _ _ _ _ _ _ _ q=>add_int q
theorem E5:OpR X (binaryOp .Sub) (pf fun i j=>.int (i - j)):=E1 fun _ _ _ _ _ _ _ q=>sub_int q
theorem E6:OpR X (binaryOp .Mult) (rI vj fun i j=>.int (i * j)):=BE fun _ _ _ _ _ _ _ hc q=>mul_int q hc.ok
theorem CW:OpR X (binaryOp .FloorDiv) (rI E2 fun i j=>.int (i / j)):=BE fun i j _ _ _ _ _ hc q=>by
 have h1:(0:Int)<j:=hc.1
 have h2:j<1073741824:=hc.2
 exact floordiv_int (by omega) (by rw [Int.fdiv_eq_ediv_of_nonneg i (by omega)];exact q) (.inl (PyProof.noPylong_small (by omega)))
theorem E7:OpR X (binaryOp .Mod) (rI (fun _ j=>0<j) fun i j=>.int (i % j)):=BE fun i j _ _ _ _ _ hc q=>by
 have h1:(0:Int)<j:=hc
 exact mod_int' (by omega) (by rw [Int.fmod_eq_emod_of_nonneg i (by omega)];exact q)
theorem E8:OpR X (binaryOp .Pow) (rI E3 fun i j=>.int (i ^ j.toNat)):=BE fun _ _ _ _ _ _ _ hc q=>pow_int_small hc.1 hc.2.1 hc.2.2 q
theorem Mv {f:ap->Op ap} {g:Int->Int}
  (rule:∀(i:Int) (t:QH) (s:bi) (Q:ap->bi->Prop) (E:ap->bi->Prop),Q (.int (g i) s.toks) {s with toks:=s.toks+1}->wpAny (model X.prog X.w) X.A (f (.int i t)) Q E s) :
  UnR X f (rU fun i=>.int (g i)) :=by
 intro pins s σ H x v Q I rx h
 obtain ⟨i,rfl,q⟩:=h
 obtain ⟨t,rfl⟩:=rx
 exact rule i t s _ _ ⟨.int (g i),H,I.tok _,⟨_,rfl⟩,q⟩
theorem E9:UnR X (unaryOp .USub) (rU fun i=>.int (-i)):=Mv fun _ _ _ _ _ q=>neg_int q
end
def zW:V->V->Bool
 | .ao,.ao=>true | .ao,.int _=>true | .int _,.ao=>true | .ao,.bl _=>true | .bl _,.ao=>true | .ao,.str _=>true | .str _,.ao=>true
 | .int _,.int _=>true | .bl _,.bl _=>true | .str _,.str _=>true | .il _,.il _=>true
 | .int _,.str _=>true | .str _,.int _=>true | .bl _,.str _=>true | .str _,.bl _=>true
 |_,_=>false
def Mw:R2:=fun x y H Q=>zW x y=true/\Q (.bl (decide (x=y))) H
def Mx:R2:=fun x y H Q=>zW x y=true/\Q (.bl (!decide (x=y))) H
theorem um {i j:Int}:decide (V.int i=V.int j)=(i==j) :=by
 rw [O5]
 simp
theorem xj {i j:Bool}:decide (V.bl i=V.bl j)=(i==j) :=by
 rw [O5]
 simp
theorem uo {i j:br}:decide (V.str i=V.str j)=(i==j) :=by
 rw [O5]
 simp
theorem uq {i j:Array UInt8}:decide (V.il i=V.il j)=(i.toList==j.toList) :=by
 rw [O5]
 cases i
 cases j
 simp
section
variable {X:Cx} {a b c:dL} {ta tb tc:TE} {pos:sB}
theorem aR {pins:List (ag×i4)} {σ:St} {H:Hp} {s:bi} {Q:VK} {k k':Bool} (I:Inv X pins σ H s) (q:Q (.bl k) H) (e:k=k'):EP X pins σ Q (.bool k') s :=by
 subst e
 exact ⟨.bl k,H,I,rfl,q⟩
theorem IB:OpR X (compareOp .Eq) Mw :=by
 intro pins s σ H x y v u Q I rx ry h
 obtain ⟨hs,q⟩:=h
 cases x with
 |ao=>
  cases rx
  cases y with
  |ao=>cases ry;exact PySem.EqNone.eq_none_none (aR I q (by simp))
  |bl j=>cases ry;exact PySem.EqNone.eq_none_bool (aR I q (by simp))
  |int j=>obtain ⟨t',rfl⟩:=ry;exact PySem.EqNone.eq_none_int (aR I q (by simp))
  |str j=>obtain ⟨t',rfl⟩:=ry;exact PySem.EqNone.eq_none_str (aR I q (by simp))
  |_=>exact absurd (show false=true from hs) ge
 |bl i=>
  cases rx
  cases y with
  |ao=>cases ry;exact PySem.EqNone.eq_bool_none (aR I q (by simp))
  |bl j=>cases ry;exact eq_bool (aR I q xj)
  |str j=>obtain ⟨t',rfl⟩:=ry;exact PySem.EqMixed.eq_bool_str (aR I q (by simp))
  |_=>exact absurd (show false=true from hs) ge
 |int i=>
  obtain ⟨t,rfl⟩:=rx
  cases y with
  |ao=>cases ry;exact PySem.EqNone.eq_int_none (aR I q (by simp))
  |int j=>obtain ⟨t',rfl⟩:=ry;exact eq_int (aR I q um)
  |str j=>obtain ⟨t',rfl⟩:=ry;exact PySem.EqMixed.eq_int_str (aR I q (by simp))
  |_=>exact absurd (show false=true from hs) ge
 |str i=>
  obtain ⟨t,rfl⟩:=rx
  cases y with
  |ao=>cases ry;exact PySem.EqNone.eq_str_none (aR I q (by simp))
  |bl j=>cases ry;exact PySem.EqMixed.eq_str_bool (aR I q (by simp))
  |int j=>obtain ⟨t',rfl⟩:=ry;exact PySem.EqMixed.eq_str_int (aR I q (by simp))
  |str j=>obtain ⟨t',rfl⟩:=ry;exact eq_str (aR I q uo)
  |_=>exact absurd (show false=true from hs) ge
 |il i=>
  obtain ⟨t,rfl⟩:=rx
  cases y with
  |il j=>obtain ⟨t',rfl⟩:=ry;exact PySem.W.eq_bytes (aR I q uq)
  |_=>exact absurd (show false=true from hs) ge
 |_=>cases y <;> exact absurd (show false=true from hs) ge
theorem IC:OpR X (compareOp .NotEq) Mx :=by
 intro pins s σ H x y v u Q I rx ry h
 obtain ⟨hs,q⟩:=h
 cases x with
 |ao=>
  cases rx
  cases y with
  |ao=>cases ry;exact PySem.EqNone.ne_none_none (aR I q (by simp))
  |bl j=>cases ry;exact PySem.EqNone.ne_none_bool (aR I q (by simp))
  |int j=>obtain ⟨t',rfl⟩:=ry;exact PySem.EqNone.ne_none_int (aR I q (by simp))
  |str j=>obtain ⟨t',rfl⟩:=ry;exact PySem.EqNone.ne_none_str (aR I q (by simp))
  |_=>exact absurd (show false=true from hs) ge
 |bl i=>
  cases rx
  cases y with
  |ao=>cases ry;exact PySem.EqNone.ne_bool_none (aR I q (by simp))
  |bl j=>cases ry;exact ne_bool (aR I q (congrArg not xj))
  |str j=>obtain ⟨t',rfl⟩:=ry;exact PySem.EqMixed.ne_bool_str (aR I q (by simp))
  |_=>exact absurd (show false=true from hs) ge
 |int i=>
  obtain ⟨t,rfl⟩:=rx
  cases y with
  |ao=>cases ry;exact PySem.EqNone.ne_int_none (aR I q (by simp))
  |int j=>obtain ⟨t',rfl⟩:=ry;exact ne_int (aR I q (congrArg not um))
  |str j=>obtain ⟨t',rfl⟩:=ry;exact PySem.EqMixed.ne_int_str (aR I q (by simp))
  |_=>exact absurd (show false=true from hs) ge
 |str i=>
  obtain ⟨t,rfl⟩:=rx
  cases y with
  |ao=>cases ry;exact PySem.EqNone.ne_str_none (aR I q (by simp))
  |bl j=>cases ry;exact PySem.EqMixed.ne_str_bool (aR I q (by simp))
  |int j=>obtain ⟨t',rfl⟩:=ry;exact PySem.EqMixed.ne_str_int (aR I q (by simp))
  |str j=>obtain ⟨t',rfl⟩:=ry;exact ne_str (aR I q (congrArg not uo))
  |_=>exact absurd (show false=true from hs) ge
 |il i=>
  obtain ⟨t,rfl⟩:=rx
  cases y with
  |il j=>obtain ⟨t',rfl⟩:=ry;exact PySem.W.ne_bytes (aR I q (congrArg not uq))
  |_=>exact absurd (show false=true from hs) ge
 |_=>cases y <;> exact absurd (show false=true from hs) ge
theorem IE:OpR X (compareOp .Lt) (pf fun i j=>.bl (decide (i<j))):=zV fun _ _ _ _ _ _ _ q=>lt_int q
theorem IG:OpR X (compareOp .LtE) (pf fun i j=>.bl (decide (i<=j))):=zV fun _ _ _ _ _ _ _ q=>le_int q
theorem IH:OpR X (compareOp .Gt) (pf fun i j=>.bl (decide (j<i))):=zV fun _ _ _ _ _ _ _ q=>gt_int q
theorem b8 (b:dL) {op:Os} (h:op≠.In :=by decide) (h2:op≠.NotIn :=by decide):behindInMarks op b=false :=by
 have e1:(op==Os.In)=false :=by cases op <;> first|rfl|exact absurd rfl h
 have e2:(op==Os.NotIn)=false :=by cases op <;> first|rfl|exact absurd rfl h2
 cases b <;> simp [behindInMarks,e1,e2]
theorem CY {op:Os} {r:R2} (ho:OpR X (compareOp op) r) (ha:PE X a ta) (hb:PE X b tb) (hm:behindInMarks op b=false):PE X (.Compare a [op] [b] pos) (xi r ta tb) :=by
 refine ⟨?_⟩
 intro pins s σ H Q I h
 exact wpAny_Compare1 (zU ha hb I h fun v u s2 x y H2 I2 rx ry q=>ho pins s2 σ H2 x y v u Q I2 rx ry q) hm
def vk (t:TE):TT:=fun σ H Q=>t σ H fun x H'=>∃k,x=.bl k/\Q k H'
theorem CZ {op:Os} {r:R2} (ho:OpR X (compareOp op) r) (ha:PE X a ta) (hb:PE X b tb) (hm:behindInMarks op b=false):PT X (.Compare a [op] [b] pos) (vk (xi r ta tb)) :=by
 refine ⟨?_⟩
 intro pins s σ H Q I h
 refine wpAny_isTrue_Compare1 (thn (ha pins s σ H _ I h) fun v s1 ⟨x,H1,I1,r1,q1⟩=>thn (hb pins s1 σ H1 _ I1 q1) fun u s2 ⟨y,H2,I2,r2,q2⟩=>
  thn (ho pins s2 σ H2 x y v u _ I2 r1 r2 q2) fun c s3 ⟨z,H3,I3,r3,k,e,q3⟩=>?_) hm
 subst e
 cases r3
 exact wE ⟨H3,I3,q3⟩
def qZ (r r':R2) (ta tb tc:TE):TE:=fun σ H Q=>ta σ H fun x H1=>tb σ H1 fun y H2=>r x y H2 fun z H3=>∃k,z=.bl k /\
 (if k=true then tc σ H3 fun w' H4=>r' y w' H4 Q else Q (.bl false) H3)
theorem zX {op iu:Os} {r r':R2} (ho:OpR X (compareOp op) r) (fX:OpR X (compareOp iu) r') (ha:PE X a ta) (hb:PE X b tb) (hc:PE X c tc)
  (hm:lastMarks [op,iu] [b,c]=false :=by with_unfolding_all rfl):PE X (.Compare a [op,iu] [b,c] pos) (qZ r r' ta tb tc) :=by
 refine ⟨?_⟩
 intro pins s σ H Q I h
 refine Compare_chain (thn (ha pins s σ H _ I h) fun v s1 ⟨x,H1,I1,r1,q1⟩=>chain_link (thn (hb pins s1 σ H1 _ I1 q1) fun u s2 ⟨y,H2,I2,r2,q2⟩=>
  thn (ho pins s2 σ H2 x y v u _ I2 r1 r2 q2) fun d s3 ⟨z,H3,I3,r3,k,e,q3⟩=>?_)) hm
 subst e
 cases r3
 refine wE ?_
 cases k with
 |false=>exact ite_ff ⟨.bl false,H3,I3,rfl,q3⟩
 |true=>exact ite_tt (chain_last (thn (hc pins s3 σ H3 _ I3 q3) fun w' s4 ⟨z',H4,I4,r4,q4⟩=>fX pins s4 σ H4 y z' u w' Q I4 r2 r4 q4))
theorem zY {op iu:Os} {r r':R2} (ho:OpR X (compareOp op) r) (fX:OpR X (compareOp iu) r') (ha:PE X a ta) (hb:PE X b tb) (hc:PE X c tc)
  (hm:lastMarks [op,iu] [b,c]=false :=by with_unfolding_all rfl):PT X (.Compare a [op,iu] [b,c] pos) (vk (qZ r r' ta tb tc)) :=by
 refine ⟨?_⟩
 intro pins s σ H Q I h
 refine isTrue_chain (thn (ha pins s σ H _ I h) fun v s1 ⟨x,H1,I1,r1,q1⟩=>test_link (thn (hb pins s1 σ H1 _ I1 q1) fun u s2 ⟨y,H2,I2,r2,q2⟩=>
  thn (ho pins s2 σ H2 x y v u _ I2 r1 r2 q2) fun d s3 ⟨z,H3,I3,r3,k,e,q3⟩=>?_)) hm
 subst e
 cases r3
 refine wE ?_
 cases k with
 |false=>
  obtain ⟨k',e',q'⟩:=q3
  cases e'
  exact ite_ff ⟨H3,I3,q'⟩
 |true=>
  refine ite_tt (test_last (thn (hc pins s3 σ H3 _ I3 q3) fun w' s4 ⟨z',H4,I4,r4,q4⟩=>thn (fX pins s4 σ H4 y z' u w' _ I4 r2 r4 q4) fun d' s5 ⟨z2,H5,I5,r5,k2,e2,q5⟩=>?_))
  subst e2
  cases r5
  exact wE ⟨H5,I5,q5⟩
def zZ (K:bn) (x:V) (H:Hp) (k:Bool):Prop:=
 match x with
 | .ao=>k=false
 | .bl b=>k=b
 | .int i=>k=(i != 0)
 | .str y=>y.length<=sizeLine/\k=((y.length:Int) != 0)
 | .il y=>y.size<=sizeLine/\k=((y.size:Int) != 0)
 | .ref p=>(∃xs,bA K H p xs/\k = !xs.isEmpty)\/(∃xs,cP K H p xs/\k = !xs.isEmpty)\/∃ai,H p=some (.dK ai)/\k = !ai.isEmpty
 |_=>False
theorem vm {κ:Type} {ai:List (κ×V)} {vs:List (κ×ap)} (r:KV ai vs):(!vs.isEmpty) = !ai.isEmpty :=by
 cases r <;> rfl
theorem nu {xs:List V} {its:List ap} (r:Vals xs its):(!its.toArray.isEmpty) = !xs.isEmpty :=by
 cases r <;> simp
theorem ju:(sizeLine:Nat)<2 ^ 63 :=by rw [ON];decide
theorem Fb:Lb X (fun x H Q=>∃k,zZ X.K x H k/\Q k H) :=by
 intro pins s σ H x v Q I rx h
 obtain ⟨k,e,q⟩:=h
 have hl:=ju
 have hs:sizeLine=16777216:=ON
 cases x with
 |ao=>
  cases rx
  have e':k=false:=e
  subst e'
  exact truthy_none ⟨H,I,q⟩
 |bl b=>
  cases rx
  have e':k=b:=e
  subst e'
  exact wE ⟨H,I,q⟩
 |int i=>
  obtain ⟨t,rfl⟩:=rx
  have e':k=(i != 0):=e
  subst e'
  exact PySem.P.truthy_int ⟨H,I,q⟩
 |str y=>
  obtain ⟨t,rfl⟩:=rx
  obtain ⟨hy,e'⟩:y.length<=sizeLine/\k=((y.length:Int) != 0):=e
  subst e'
  exact PySem.P.truthy_str (by omega) ⟨H,I.tok _,q⟩
 |il y=>
  obtain ⟨t,rfl⟩:=rx
  obtain ⟨hy,e'⟩:y.size<=sizeLine/\k=((y.size:Int) != 0):=e
  subst e'
  exact PySem.W.truthy_bytes (by omega) ⟨H,I.tok _,q⟩
 |ref p=>
  cases rx
  have e':(∃xs,bA X.K H p xs/\k = !xs.isEmpty)\/(∃xs,cP X.K H p xs/\k = !xs.isEmpty)\/∃ai,H p=some (.dK ai)/\k = !ai.isEmpty:=e
  rcases e' with ⟨xs,hx,e'⟩|⟨xs,hx,e'⟩|⟨ai,hx,e'⟩
  ·subst e'
   obtain ⟨its,r,pl,hz⟩:=I.list hx
   have hlen:=r.length
   exact wpAny_truthy_list pl.isList (by simp only [ff];omega) ⟨H,I.tok _,by rw [nu r];exact q⟩
  ·subst e'
   obtain ⟨its,r,pl,hz⟩:=I.tuple hx
   have hlen:=r.length
   exact truthy_tuple pl (by simp only [ff];omega) ⟨H,I.tok _,by rw [nu r];exact q⟩
  ·subst e'
   obtain ⟨hz,hS,vs,r,m⟩:ai.length<=sizeLine/\(p==sysModules)=false/\∃vs,KV ai vs/\s.heap.DictOf (bj X.prog X.w) p vs:=I.hok p _ hx
   have hlen:ai.length=vs.length:=OF r
   exact wpAny_truthy_dict hS m (by omega) ⟨H,I.tok _,by rw [vm r];exact q⟩
 |_=>exact (show False from e).elim
theorem z5 (ha:PE X a ta) (he:∀whole,isTrue a X.env whole=(do let v <- whole;standAt a.pos;holding [v] (truthy v))) :
  PT X a (fun σ H Q=>ta σ H fun x H'=>∃k,zZ X.K x H' k/\Q k H') :=by
 refine ⟨?_⟩
 intro pins s σ H Q I h
 exact isTrue_plain (thn (ha pins s σ H _ I h) fun v s1 ⟨x,H1,I1,r1,q1⟩=>Fb pins s1 σ H1 x v Q I1 r1 q1) (he _)
theorem vn:OpR X (binaryOp .Add) (fun x y H Q=>∃i j,x=.str i/\y=.str j/\i.length+j.length<=sizeLine/\Q (.str (i++j)) H) :=by
 intro pins s σ H x y v u Q I rx ry h
 obtain ⟨i,j,rfl,rfl,hz,q⟩:=h
 obtain ⟨t,rfl⟩:=rx
 obtain ⟨t',rfl⟩:=ry
 exact add_str (fun t' tk=>⟨.str (i++j),H,I.tok _,⟨_,rfl⟩,q⟩) hz
theorem vals1 {x:V} {us:List ap} (r:Vals [x] us):∃u,us=[u]/\RelV x u :=by
 cases r with
 |cons r1 r2=>cases r2;exact ⟨_,rfl,r1⟩
theorem vals2 {x y:V} {us:List ap} (r:Vals [x,y] us):∃u w',us=[u,w']/\RelV x u/\RelV y w':=by
 cases r with
 |cons r1 r2=>
  cases r2 with
  |cons r3 r4=>cases r4;exact ⟨_,_,rfl,r1,r3⟩
theorem z6:c7 X (.builtin "abs") (fun xs H Q=>∃i,xs=[.int i]/\Q (.int (if i<0 then -i else i)) H) :=by
 intro pins s σ H xs us Q I r h
 obtain ⟨i,rfl,q⟩:=h
 obtain ⟨u,rfl,t,rfl⟩:=vals1 r
 exact call_abs_int fun u tk=>⟨.int (if i<0 then -i else i),H,I.tok _,⟨_,rfl⟩,q⟩
theorem xk (hc:X.calm=true):c7 X (.builtin "max") (fun xs H Q=>∃i j,xs=[.int i,.int j]/\Q (.int (if j > i then j else i)) H) :=by
 intro pins s σ H xs us Q I r h
 obtain ⟨i,j,rfl,q⟩:=h
 obtain ⟨u,w',rfl,⟨t,rfl⟩,⟨t',rfl⟩⟩:=vals2 r
 refine max_two_ints (I.ok.hd hc) fun h' tk k=>⟨_,H,I.kept k,?_,q⟩
 by_cases hj:j > i
 ·rw [if_pos hj,if_pos hj];exact ⟨_,rfl⟩
 ·rw [if_neg hj,if_neg hj];exact ⟨_,rfl⟩
theorem xl (hc:X.calm=true):c7 X (.builtin "min") (fun xs H Q=>∃i j,xs=[.int i,.int j]/\Q (.int (if j<i then j else i)) H) :=by
 intro pins s σ H xs us Q I r h
 obtain ⟨i,j,rfl,q⟩:=h
 obtain ⟨u,w',rfl,⟨t,rfl⟩,⟨t',rfl⟩⟩:=vals2 r
 refine min_two_ints (I.ok.hd hc) fun h' tk k=>⟨_,H,I.kept k,?_,q⟩
 by_cases hj:j<i
 ·rw [if_pos hj,if_pos hj];exact ⟨_,rfl⟩
 ·rw [if_neg hj,if_neg hj];exact ⟨_,rfl⟩
def Fc (K:bn) (x:V) (H:Hp) (n:Nat):Prop:=
 match x with
 | .str y=>y.length<=sizeLine/\n=y.length
 | .il y=>y.size<=sizeLine/\n=y.size
 | .ref p=>(∃xs,bA K H p xs/\n=xs.length)\/∃xs,cP K H p xs/\n=xs.length
 |_=>False
theorem z7:c7 X (.builtin "len") (fun xs H Q=>∃x n,xs=[x]/\Fc X.K x H n/\Q (.int n) H) :=by
 intro pins s σ H xs us Q I r h
 obtain ⟨x,n,rfl,e,q⟩:=h
 obtain ⟨u,rfl,rx⟩:=vals1 r
 have hl:=ju
 have hs:sizeLine=16777216:=ON
 cases x with
 |str y=>
  obtain ⟨t,rfl⟩:=rx
  obtain ⟨hy,e'⟩:y.length<=sizeLine/\n=y.length:=e
  subst e'
  exact len_str (by omega) ⟨.int _,H,I.tok _,⟨_,rfl⟩,q⟩
 |il y=>
  obtain ⟨t,rfl⟩:=rx
  obtain ⟨hy,e'⟩:y.size<=sizeLine/\n=y.size:=e
  subst e'
  exact PySem.W.len_bytes (by omega) ⟨.int _,H,I.tok _,⟨_,rfl⟩,q⟩
 |ref p=>
  cases rx
  have e':(∃xs,bA X.K H p xs/\n=xs.length)\/∃xs,cP X.K H p xs/\n=xs.length:=e
  rcases e' with ⟨xs,hx,e'⟩|⟨xs,hx,e'⟩
  ·subst e'
   obtain ⟨its,r',pl,hz⟩:=I.list hx
   have hlen:=r'.length
   exact Calls.call_len_list pl.isList (by simp only [ff];omega) ⟨.int xs.length,H,I.tok _,⟨_,by simp only [ff];rw [hlen]⟩,q⟩
  ·subst e'
   obtain ⟨its,r',pl,hz⟩:=I.tuple hx
   have hlen:=r'.length
   exact len_tuple pl (by simp only [ff];omega) ⟨.int xs.length,H,I.tok _,⟨_,by simp only [ff];rw [hlen]⟩,q⟩
 |_=>exact (show False from e).elim
end
structure z8 (h:gl) (x dx C:ag) (mA:br->Option ap):Prop where
 obj:h.get? x=some (QJ C dx)
 ns:h.Ns1 dx mA
 ne:dx≠x
theorem xm {h:gl} {dx:ag} {mA:br->Option ap} (n:h.Ns1 dx mA):∃od,h.get? dx=some od/\∀name,PySem.W.lookIn name od=some (mA name) :=by
 obtain ⟨o,es,ep,ho,hd,hk,_,hm⟩:=n
 refine ⟨o,ho,fun name=>?_⟩
 have e:=hm name
 unfold nsFind findBy at e
 rw [<- Array.find?_toList] at e
 unfold PySem.W.lookIn
 rw [hd]
 dsimp only
 split
 ·rename_i y q
  rw [q] at e
  exact congrArg some e
 ·rename_i q
  rw [q] at e
  have a:es.toList.any (·.refKey)=false :=by
   rw [List.any_eq_false]
   intro y hy
   obtain ⟨z,t,Lc⟩:=hk y (Array.mem_toList_iff.mp hy)
   simp [Pd.refKey,Lc]
  have a':¬ es.toList.any (·.refKey)=true :=by rw [a];exact ge
  rw [if_neg a']
  exact congrArg some e
theorem z8.look {h:gl} {x dx C:ag} {mA:br->Option ap} (I:z8 h x dx C mA):∃od,PySem.W.InstAt h x (QJ C dx) C (some od)/\∀name,PySem.W.lookIn name od=some (mA name):=
 let ⟨od,ho,hl⟩:=xm I.ns
 ⟨od,⟨I.obj,rfl,rfl,ho⟩,hl⟩
theorem ip.some_of {v:V} {o:Option ap} (r:ip (some v) o):∃u,o=some u/\RelV v u :=by
 cases o with
 |none=>exact (show False from r).elim
 |some u=>exact ⟨u,rfl,r⟩
section
variable {P:f8} {w:ii} {H H':Hp} {h h':gl} {a C dx:ag} {fs Mq:List (br×V)}
theorem C1 (hok:cg P w H h) (e:H a=some (.ins C dx fs)):∃mA,z8 h a dx C mA/\(∀f,ip (fs.lookup f) (mA f))/\PySem.Within mA (fs.map (·.1))/\fs.length<=1000/\H dx=some (.own a) :=by
 obtain ⟨d,z,ne,ob,mA,n,r,q⟩:=(show ObjOk P w H h a (.ins C dx fs) from hok a _ e)
 exact ⟨mA,⟨ob,n,ne⟩,r,q,z,d⟩
end
structure Fd (K:bn) (C:ag):Prop where
 pg:PySem.W.plainGet K C br.empty=true
 hd:PySem.W.hasDictIn K C=true
 po:PySem.W.plainOver K C=true
 sa:PySem.W.findIn K (.ref C) "__setattr__" = some (some (.builtin "object.__setattr__"))
theorem Fd.get {K:bn} {C:ag} (c:Fd K C) (f:br):PySem.W.plainGet K C f=true:=c.pg
section
variable {X:Cx} {pins:List (ag×i4)} {σ:St} {H:Hp} {s:bi} {A:l8} {E:ap->bi->Prop} {Q:ap->bi->Prop} {c:ap} {b:Bool}
inductive e6 (K:bn) (H:Hp):V->ap->Prop where
 |ao:e6 K H .ao (.type "NoneType")
 |bl (x:Bool):e6 K H (.bl x) (.type "bool")
 |int (i:Int):e6 K H (.int i) (.type "int")
 |str (x:br):e6 K H (.str x) (.type "str")
 |uh (x:UInt64):e6 K H (.uh x) (.type "float")
 |lst {a:ag} {xs:List V} (e:H a=some (.lst xs)):e6 K H (.ref a) (.type "list")
 |bp {a:ag} {o:i4} {xs:List V} (e:H a=some (.bp o (.lst xs))):e6 K H (.ref a) (.type "list")
 |tup {a:ag} {xs:List V} (e:H a=some (.tup xs)):e6 K H (.ref a) (.type "tuple")
 |dK {a:ag} {ai:List (Key×V)} (e:H a=some (.dK ai)):e6 K H (.ref a) (.type "dict")
 |dT {a:ag} {ai:List (List Key×V)} (e:H a=some (.dT ai)):e6 K H (.ref a) (.type "dict")
 |ins {a C dx:ag} {fs:List (br×V)} (e:H a=some (.ins C dx fs)) (cl:Fd K C) (ha:PySem.W.findIn K (.ref C) "__class__" = some (some (.builtin "object.__class__")))
   (hn:PySem.W.specialIn K (.builtin "object.__class__") "__get__" = some (some (.builtin "getset_descriptor.__get__"))) (JV:PySem.W.takesIn K (.builtin "object.__class__")=some true)
   (hm:PySem.W.mroIn K C (.type "object")=some true):e6 K H (.ref a) (.ref C)
theorem xn {x:V} {u t:ap} (I:Inv X pins σ H s) (rx:RelV x u) (ty:e6 X.K H x t) (e:P4 X.K t c=some b) (h:∀tk,Q (.bool b) {s with toks:=tk}) :
  wpAny (model X.prog X.w) A (call (.builtin "isinstance") [u,c]) Q E s :=by
 cases ty with
 |ao=>cases (show u=Cs from rx);exact ze PySem.W.kitx_none I.fw CS e (fun z=>nomatch z) h
 |bl y=>cases (show u=QX y from rx);exact ze PySem.W.kitx_bool I.fw CS e (fun z=>nomatch z) h
 |int i=>obtain ⟨t,q⟩:=(show ∃t,u=QF i t from rx);cases q;exact ze PySem.W.kitx_int I.fw CS e (fun z=>nomatch z) h
 |str y=>obtain ⟨t,q⟩:=(show ∃t,u=PJ y t from rx);cases q;exact ze PySem.W.kitx_str I.fw CS e (fun z=>nomatch z) h
 |uh y=>obtain ⟨t,q⟩:=(show ∃t,u=ap.float y t from rx);cases q;exact ze PySem.W.kitx_float I.fw CS e (fun z=>nomatch z) h
 | @lst a xs ea=>
  cases (show u=mT a from rx)
  obtain ⟨_,_,n,_,h1⟩:=(show ObjOk X.prog X.w H s.heap a (.lst xs) from I.hok a _ ea)
  exact ze PySem.W.kitx_list I.fw ⟨_,h1,rfl⟩ e (fun z=>nomatch z) h
 | @bp a ob xs ea=>
  cases (show u=mT a from rx)
  obtain ⟨_,_,_,n,_,h1⟩:=(show ObjOk X.prog X.w H s.heap a (.bp ob (.lst xs)) from I.hok a _ ea)
  exact ze PySem.W.kitx_list I.fw ⟨_,h1,rfl⟩ e (fun z=>nomatch z) h
 | @tup a xs ea=>
  cases (show u=mT a from rx)
  obtain ⟨_,_,_,p⟩:=(show ObjOk X.prog X.w H s.heap a (.tup xs) from I.hok a _ ea)
  obtain ⟨o,h1,h2,_⟩:=p
  exact ze PySem.W.kitx_tuple I.fw ⟨o,h1,h2⟩ e (fun z=>nomatch z) h
 | @dK a ai ea=>
  cases (show u=mT a from rx)
  obtain ⟨_,_,vs,_,p⟩:=(show ObjOk X.prog X.w H s.heap a (.dK ai) from I.hok a _ ea)
  obtain ⟨o,es,ep,h1,h2,_⟩:=p
  exact ze PySem.W.kitx_dict I.fw ⟨o,h1,h2.1⟩ e (fun z=>nomatch z) h
 | @dT a ai ea=>
  cases (show u=mT a from rx)
  obtain ⟨_,_,xs,_,o,es,ep,h1,h2,_⟩:=(show ObjOk X.prog X.w H s.heap a (.dT ai) from I.hok a _ ea)
  exact ze PySem.W.kitx_dict I.fw ⟨o,h1,h2.1⟩ e (fun z=>nomatch z) h
 | @ins a C dx fs ea cl ha hn JV hm=>
  cases (show u=mT a from rx)
  obtain ⟨mA,O,_⟩:=C1 I.hok ea
  obtain ⟨od,J,_⟩:=O.look
  exact ze (PySem.W.kitx_own (cl.get _) cl.hd ha hn JV hm) I.fw J e (fun z=>nomatch z) h
end
structure bF (k:Nat) (A:l8):Prop where
 hd:A.handled=none
 dp:A.depth+3 * k+5<recursionLimit
 un:A.units+16 * k+200<cLine
theorem bF.mono {j k:Nat} {A:l8} (r:bF k A) (h:j<=k):bF j A:=⟨r.hd,by have:=r.dp;omega,by have:=r.un;omega⟩
theorem bF.deeper {k:Nat} {A:l8} (r:bF (k+1) A) (env:Cc):bF k (A.deeper env):=
 ⟨r.hd,by have:=r.dp;show A.depth+1+3 * k+5<_;omega,by have:=r.un;show A.units+3+16 * k+200<_;omega⟩
theorem bF.depth {k:Nat} {A:l8} (r:bF k A):A.depth<recursionLimit :=by have:=r.dp;omega
theorem bF.units {k:Nat} {A:l8} (r:bF k A):A.units+64<cLine :=by have:=r.un;omega
def Ld:TA:=fun _ H Q=>Q [] H
def II (ta:TE) (tr:TA):TA:=fun σ H Q=>ta σ H fun x H1=>tr σ H1 fun xs H2=>Q (x::xs) H2
section
variable {X:Cx} {e:dL} {es:List dL} {te:TE} {t:TA} {pos:sB}
theorem Fe:PA X [] Ld:=⟨fun _ _ _ _ H Q I h=>Pq ⟨[],H,I,.nil,h⟩⟩
theorem lx (ha:PE X e te) (hr:PA X es t) (hs:starEach (e::es) X.env=(false,eval e X.env)::starEach es X.env :=by rfl):PA X (e::es) (II te t) :=by
 refine ⟨?_⟩
 intro pos pins s σ H Q I h
 rw [hs]
 show wpAny _ _ (spliced ((false,eval e X.env)::backTo pos (starEach es X.env))) _ _ s
 refine Pf (thn (ha pins s σ H _ I h) fun u s1 ⟨x,H1,I1,r1,q1⟩=>?_)
 exact thn (hr pos pins s1 σ H1 _ I1 q1) fun us s2 ⟨xs,H2,I2,r2,q2⟩=>⟨x::xs,H2,I2,.cons r1 r2,q2⟩
def Le (t:TA):TE:=fun σ H Q=>t σ H fun xs H1=>xs.length<=sizeLine/\∀p,H1 p=none->Q (.ref p) (upd H1 p (.tup xs))
def Lf (t:TA):TE:=fun σ H Q=>t σ H fun xs H1=>xs.length<=sizeLine/\∀p,H1 p=none->Q (.ref p) (upd H1 p (.lst xs))
theorem Ff {x1} (h:PA X es t):PE X (.Tuple es x1 pos) (Le t) :=by
 refine ⟨?_⟩
 intro pins s σ H Q I hq
 refine wpAny_Tuple_spliced (thn (h pos pins s σ H _ I hq) fun us s1 ⟨xs,H1,I1,r,z,q⟩=>⟨by rw [<- r.length];exact z,?_⟩)
 have hf:H1 s1.heap.objs.size=none:=I1.hok.fresh (c8 _)
 refine ⟨.ref s1.heap.objs.size,upd H1 s1.heap.objs.size (.tup xs),I1.laid (t':=s1.toks) (fun b u e=>ci _ e) (c8 _) ?_,rfl,q _ hf⟩
 exact ⟨z,us,r,⟨_,i1 _ rfl,rfl,_,rfl,rfl⟩⟩
theorem xo (h:PA X es t):PE X (.List es pos) (Lf t) :=by
 refine ⟨?_⟩
 intro pins s σ H Q I hq
 refine wpAny_List_spliced (thn (h pos pins s σ H _ I hq) fun us s1 ⟨xs,H1,I1,r,z,q⟩=>⟨by rw [<- r.length];exact z,?_⟩)
 have hf:H1 s1.heap.objs.size=none:=I1.hok.fresh (c8 _)
 refine ⟨.ref s1.heap.objs.size,upd H1 s1.heap.objs.size (.lst xs),I1.laid (t':=s1.toks) (fun b u e=>ci _ e) (c8 _) ?_,rfl,q _ hf⟩
 exact ⟨z,us,0,r,i1 _ rfl⟩
end
abbrev Sp:=List V->Hp->VK->XK->Prop
abbrev fm:=List Cc->Hp->bi->XK->ap->bi->Prop
structure oz (P:f8) (w:ii) (K:bn) (mg:br->Option ap) (base:gl) (A:l8) (outer:List Cc) (s:bi) (H:Hp):Prop where
 frames:A.frames=some outer
 mod:Mod K mg base
 bs:∀b o,base.get? b=some o->s.heap.get? b=some o/\H b=none
 bsz:base.objs.size<=s.heap.objs.size
 funs:s.heap.FunFrames base outer
 frf:∀b∈dn outer,H b=none
 hok:cg P w H s.heap
 bare:QR s.gens
def CE (outer:List Cc) (P:f8) (w:ii) (H:Hp) (s:bi) (Q:VK) (u:ap) (s':bi):Prop:=
 ∃v H',s'.os=s.os/\Gn s.gens.size s'.gens/\Un (dn outer) [] H H' s.heap s'.heap/\cg P w H' s'.heap/\RelV v u/\Q v H'
def CR (CX:fm) (outer:List Cc) (P:f8) (w:ii) (H:Hp) (s:bi) (Q:VK) (E:XK) (r:QU) (s':bi):Prop:=
 match r with
 | .ok (.ret u)=>CE outer P w H s Q u s'
 | .ok _=>False
 | .error e=>CX outer H s E e s'
structure FnOk (P:f8) (w:ii) (K:bn) (mg:br->Option ap) (base:gl) (CX:fm) (k:Nat) (f:ag) (fd:l3) (ps:List br) (sp:Sp):Prop where
 len:∀vs H Q E,sp vs H Q E->vs.length=ps.length
 run:∀(A:l8) (outer:List Cc) (s:bi) (H:Hp) (args:Args) (us:List ap) (vs:List V) (Q:VK) (E:XK),bF k A->oz P w K mg base A outer s H->Qn s fd args (ps.zip us)->Vals vs us->sp vs H Q E->
  codeAny (model P w) A (.call (.ref f) args) (CR CX outer P w H s Q E) s
theorem FnOk.mono {P:f8} {w:ii} {K:bn} {mg:br->Option ap} {base:gl} {CX:fm} {j k:Nat} {f:ag} {fd:l3} {ps:List br} {sp:Sp} (F:FnOk P w K mg base CX j f fd ps sp) (h:j<=k) :
  FnOk P w K mg base CX k f fd ps sp:=⟨F.len,fun A outer s H args us vs Q E hr=>F.run A outer s H args us vs Q E (hr.mono h)⟩
theorem FnOk.imp {P:f8} {w:ii} {K:bn} {mg:br->Option ap} {base:gl} {CX:fm} {k:Nat} {f:ag} {fd:l3} {ps:List br} {sp JW:Sp} (F:FnOk P w K mg base CX k f fd ps sp)
  (h:∀vs H Q E,JW vs H Q E->sp vs H Q E):FnOk P w K mg base CX k f fd ps JW:=
 ⟨fun vs H Q E q=>F.len vs H Q E (h _ _ _ _ q),fun A outer s H args us vs Q E hr he hb hv hs=>F.run A outer s H args us vs Q E hr he hb hv (h _ _ _ _ hs)⟩
section
variable {X:Cx} {pins:List (ag×i4)} {σ:St} {H:Hp} {s s':bi}
theorem Inv.Lg (I:Inv X pins σ H s):oz X.prog X.w X.K X.mg X.base X.A X.stack s H:=
 ⟨I.ok.frames,I.ok.mod,I.bs,r6 I.ok.bsz I.sz,I.stack,I.jr,I.hok,I.bare.1⟩
theorem Inv.after {Q:VK} {u:ap} (I:Inv X pins σ H s) (h:CE X.stack X.prog X.w H s Q u s'):EP X pins σ Q u s':=by
 obtain ⟨v,H',os,bare,un,hok,r,q⟩:=h
 obtain ⟨hh,g,d,t,JX⟩:=s'
 obtain rfl:JX=s.os:=os
 exact ⟨v,H',I.call (h':=hh) (g':=g) (d':=d) (t':=t) (ch:=[]) un hok bare (fun b z=>absurd z (by simp)),r,q⟩
end
def BF (sp:Sp) (eQ:List V) (E:XK) (t:TA):TE:=fun σ H Q=>t σ H fun vs H1=>sp (vs++eQ) H1 Q E
def Binds (K:bn) (fd:l3) (ps:List br) (ds:List ap):Prop:=
 ∀(s:bi) (us:List ap),K.In s.heap->(us++ds).length=ps.length->Qn s fd ⟨us,[]⟩ (ps.zip (us++ds))
theorem Binds.all {K:bn} {fd:l3} {ps:List br} (h:∀us:List ap,us.length=ps.length->bindArgs fd ⟨us,[]⟩=pure (ps.zip us)):Binds K fd ps []:=fun s us _ hl=>by
 rw [BY] at hl ⊢
 exact .of_eq (h us hl)
def Passes (CX:fm) (X:Cx) (E:XK):Prop:=∀(pins:List (ag×i4)) (σ:St) (H:Hp) (s:bi) (e:ap) (s':bi),Inv X pins σ H s->CX X.stack H s E e s'->X.xe e s'
section
variable {X:Cx} {CX:fm} {k:Nat} {f C:ag} {fd:l3} {ps:List br} {sp:Sp} {eQ:List V} {ds:List ap} {E:XK} {x m:br} {p pos apos:sB} {e o:dL} {es:List dL} {ta:TE} {t:TA}
theorem xq {pins:List (ag×i4)} {σ:St} {H:Hp} {s:bi} {Q:VK} {us:List ap} {vs:List V} (F:FnOk X.prog X.w X.K X.mg X.base CX k f fd ps sp) (hr:bF k X.A) (hb:Binds X.K fd ps ds) (hd:Vals eQ ds) (hx:Passes CX X E)
  (I:Inv X pins σ H s) (r:Vals vs us) (h:sp (vs++eQ) H Q E):wpAny (model X.prog X.w) X.A (call (.ref f) us) (EP X pins σ Q) X.xe s :=by
 have r2:Vals (vs++eQ) (us++ds):=r.append hd
 have hl:(us++ds).length=ps.length :=by rw [<- r2.length];exact F.len _ _ _ _ h
 refine wpAny_call (Qq (F.run X.A X.stack s H ⟨us,[]⟩ (us++ds) (vs++eQ) Q E hr I.Lg (hb s us I.fw hl) r2 h) fun r s' hq=>?_)
 cases r with
 |error e=>exact hx pins σ H s e s' I hq
 |ok fl=>
  cases fl with
  |ret u=>exact I.after hq
  |next=>exact AC hq
  |brk=>exact AC hq
  |cont=>exact AC hq
theorem C2 (F:FnOk X.prog X.w X.K X.mg X.base CX k f fd ps sp) (hr:bF k X.A) (hg:Gl X x) (hm:X.mg x=some (.ref f)) (hk:xL X.K (.ref f)=true) (hb:Binds X.K fd ps ds) (hd:Vals eQ ds) (hx:Passes CX X E)
  (ha:PA X (e::es) t) (dS:(x==("__debug__" : br))=false :=by decide) (he:starEach (e::es) X.env=(false,eval e X.env)::starEach es X.env :=by rfl) (cK:(backTo pos (starEach es X.env)).any (·.1)=false :=by rfl) :
  PE X (.Call (.Name x p) (e::es) [] pos) (BF sp eQ E t) :=by
 refine ⟨?_⟩
 intro pins s σ H Q I h
 refine Cf (lu I hg hm ?_ dS)
 refine PySem.W.callWith_K (h₀:=X.base) I.ok.mod.kin hk (thn (ha pos pins s σ H _ I h) fun us s1 ⟨vs,H1,I1,r,q⟩=>⟨I1.fw,?_⟩) he cK
 exact xq F hr hb hd hx I1 r q
end
structure aT (N P:List br) (sc:rb):Prop where
 kind:sc.kind=.function
 co:sc.isCoroutine=false
 gen:sc.isGenerator=false
 nd:N.Nodup
 pre:N.take P.length=P
 par:∀x∈P,sc.names.lookup x=some .local\/sc.names.lookup x=some .cell
 nofree:∀y∈sc.names,y.2≠.free
theorem ph {kindOf:br->Option LB} {x:br}:∀{binds:List (br×ap)} {m:br->Option ap},(∀v,(x,v) ∉ binds)->bindL kindOf binds m x=m x
 | [],_,_=>rfl
 |(n,v)::r,m,h=>by
          unfold bindL
          rw [ph fun w hw=>h w (gc _ hw)]
          split
          ·have:x≠n :=by rintro rfl;exact h v i8
           simp [this]
          ·rfl
theorem px {kindOf:br->Option LB} {x:br}:∀{binds:List (br×ap)} {m:br->Option ap},(∀v,(x,v) ∉ binds)->bindC kindOf binds m x=m x
 | [],_,_=>rfl
 |(n,v)::r,m,h=>by
          unfold bindC
          rw [px fun w hw=>h w (gc _ hw)]
          split
          ·rfl
          ·have:x≠n :=by rintro rfl;exact h v i8
           simp [this]
theorem pz {kindOf:br->Option LB} {x:br} {v:ap}:∀{P:List br} {vs:List ap} {i:Nat} {m:br->Option ap},P.Nodup->P[i]?=some x->vs[i]?=some v->kindOf x=some .local->
  bindL kindOf (P.zip vs) m x=some v
 | [],_,_,_,_,h,_,_=>by simp at h
 |_::_,[],_,_,_,_,h,_=>by simp at h
 |p::P,w::vs,0,m,nd,h1,h2,hk=>by
          simp at h1 h2;subst h1;subst h2
          show bindL kindOf ((p,w)::P.zip vs) m p=_
          unfold bindL
          rw [ph fun v hv=>(Ix.mp nd).1 (Na hv).1,if_pos hk]
          simp
 |p::P,w::vs,i+1,m,nd,h1,h2,hk=>by
          show bindL kindOf ((p,w)::P.zip vs) m x=_
          unfold bindL
          exact pz (i:=i) (Ix.mp nd).2 (by simpa using h1) (by simpa using h2) hk
theorem pA {kindOf:br->Option LB} {x:br} {v:ap}:∀{P:List br} {vs:List ap} {i:Nat} {m:br->Option ap},P.Nodup->P[i]?=some x->vs[i]?=some v->kindOf x≠some .local->
  bindC kindOf (P.zip vs) m x=some v
 | [],_,_,_,_,h,_,_=>by simp at h
 |_::_,[],_,_,_,_,h,_=>by simp at h
 |p::P,w::vs,0,m,nd,h1,h2,hk=>by
          simp at h1 h2;subst h1;subst h2
          show bindC kindOf ((p,w)::P.zip vs) m p=_
          unfold bindC
          rw [px fun v hv=>(Ix.mp nd).1 (Na hv).1,if_neg hk]
          simp
 |p::P,w::vs,i+1,m,nd,h1,h2,hk=>by
          show bindC kindOf ((p,w)::P.zip vs) m x=_
          unfold bindC
          exact pA (i:=i) (Ix.mp nd).2 (by simpa using h1) (by simpa using h2) hk
def start (N:List br) (vs:List V):St:=vs.map some++on (N.length - vs.length) none
def eF (CX:fm) (P:f8) (w:ii) (K:bn) (mg:br->Option ap) (base:gl) (N:List br) (qual:br) (scope:rb) (f:ag) (cd:ap) (A:l8) (outer:List Cc) (s:bi) (H:Hp) (E:XK):Cx where
 prog:=P
 w:=w
 K:=K
 mg:=mg
 base:=base
 A:=A.deeper (envOfC qual scope s.heap.objs.size f cd)
 N:=N
 s₀:=s
 H₀:=H
 env:=envOfC qual scope s.heap.objs.size f cd
 outer:=outer
 stack:=envOfC qual scope s.heap.objs.size f cd::outer
 ex:=[]
 calm:=true
 fn:=fun _=>true
 pn:=[]
 xe:=fun e s'=>wpAny (model P w) (A.deeper (envOfC qual scope s.heap.objs.size f cd)) (leaving (envOfC qual scope s.heap.objs.size f cd) e) (fun _ cj=>CX outer H s E e cj) (fun e' cj=>CX outer H s E e' cj) s'
theorem q0 {sc:rb} {n:Nat} {x:br} (h:sc.names.lookup x=some .cell):∃c,(cellsFrom n sc.names []).lookup x=some c :=by
 have q:=PySem.W.cellsFrom_some sc.names n [] (.inl h)
 exact Option.isSome_iff_exists.mp q
theorem xr {CX:fm} {P:f8} {w:ii} {K:bn} {mg:br->Option ap} {base:gl} {N ps:List br} {qual:br} {scope:rb} {f:ag} {cd:ap} {A:l8} {outer:List Cc} {s s1:bi} {H:Hp} {E:XK} {us:List ap} {vs:List V}
  (S:aT N ps scope) (hd:A.handled=none) (e0:oz P w K mg base A outer s H) (hl:vs.length=ps.length) (r:Vals vs us)
  (x:InCallC s s.heap.objs.size (bindL (envOfC qual scope s.heap.objs.size f cd).kindOf (ps.zip us) fun _=>none) (cellsFrom (s.heap.objs.size+1) scope.names []) (bindC (envOfC qual scope s.heap.objs.size f cd).kindOf (ps.zip us) fun _=>none) s1) :
  Inv (eF CX P w K mg base N qual scope f cd A outer s H E) [] (start N vs) H s1 :=by
 have cK:ps.length<=N.length :=by have:=congrArg List.length S.pre;rw [Qr] at this;omega
 obtain ⟨h1,tk,rfl,hk⟩:=x.done
 have Fg:∀b:ag,b ∉ (eF CX P w K mg base N qual scope f cd A outer s H E).ex:=fun b z=>absurd (show b∈([]:List ag) from z) (by simp)
 refine ⟨⟨e0.mod,S.kind,rfl,rfl,c8 _,fun y z c h1 h2=>?_,fun y hy=>?_,fun y c _ h=>?_,fun _=>hd,l8.frames_deeper e0.frames,.inr ⟨rfl,rfl⟩,fun b z=>absurd z (Fg b),e0.bs,e0.bsz,fun b _ _=>Fg b,fun b z=>absurd z (Fg b),e0.funs,e0.frf⟩,
  rfl,⟨e0.bare,c8 _⟩,Un.kept hk,⟨_,x.toInCall.ns,fun i y v h1 h2 h3=>?_⟩,fun y c h=>⟨_,x.cell y c h⟩,e0.hok.fresh (c8 _),fun y c h=>?_,fun p hp=>absurd (show p∈([]:List (ag×i4)) from hp) (by simp),e0.hok.kept hk,?_⟩
 ·exact name_of_addr x.apart (rf h1) (rf h2)
 ·have hy:scope.names.lookup y=some .cell\/scope.names.lookup y=some .free:=hy
  rcases hy with hy|hy
  ·exact q0 hy
  ·exact absurd rfl (S.nofree _ (rf hy))
 ·exact Gc (x.above y c (rf h))
 ·have hi:i<vs.length :=by
   unfold start at h2
   by_cases hi:i<vs.length
   ·exact hi
   ·rw [r9 (by simpa using hi)] at h2
    rw [Fa] at h2
    split at h2 <;> cases h2
  have ha:vs[i]?=some v :=by
   unfold start at h2
   rw [ol (by simpa using hi),ca] at h2
   cases e:vs[i]? with
   |none=>rw [e] at h2;cases h2
   |some a=>rw [e] at h2;cases h2;rfl
  obtain ⟨u,hu,rv⟩:=r.get ha
  have hp:ps[i]?=some y :=by
   rw [<- S.pre,List.getElem?_take_of_lt (by omega)];exact h1
  have JY:ps.Nodup :=by rw [<- S.pre];exact S.nd.sublist (List.take_sublist _ _)
  refine ⟨u,rv,?_⟩
  rcases S.par y (db hp) with k|k
  ·exact .inl ⟨k,pz JY hp hu k⟩
  ·obtain ⟨c,e⟩:=q0 (n:=s.heap.objs.size+1) k
   refine .inr ⟨.inl k,c,e,?_⟩
   have q:=x.cell y c e
   rw [pA JY hp hu (by show scope.names.lookup y≠_;rw [k];decide)] at q
   exact q
 ·exact e0.hok.fresh (Gc (x.above y c (rf h)))
 ·unfold start
  show _=N.length
  rw [v6,cr,ID]
  omega
theorem vo {CX:fm} {P:f8} {w:ii} {K:bn} {mg:br->Option ap} {base:gl} {k:Nat} {f:ag} {name qual:br} {params:FS} {body:List nw} {scope:rb} {dV kV doc pm ck ct oc:ap} {an od:Option ag}
  {iZ:Array (Option ap)} {N ps:List br} {sp:Sp} (lk:K.lookup f=some ⟨oc,od,.func (wp name qual params body scope dV kV doc pm an ck ct),iZ⟩) (c9:Ch K ck qual=true) (S:aT N ps scope)
  (len:∀vs H Q E,sp vs H Q E->vs.length=ps.length)
  (jL:∀(A:l8) (outer:List Cc) (s:bi) (H:Hp) (vs:List V) (Q:VK) (E:XK),bF k (A.deeper (envOfC qual scope s.heap.objs.size f ck))->sp vs H Q E->
   ∃t,fk (eF CX P w K mg base N qual scope f ck A outer s H E) body t/\t {nx:=fun _ H'=>Q .ao H',rt:=Q} (start N vs) H) :
  FnOk P w K mg base CX (k+1) f (wp name qual params body scope dV kV doc pm an ck ct) ps sp :=by
 refine ⟨len,fun A outer s H args us vs Q E hr e0 hb r i5=>?_⟩
 have hl:=len _ _ _ _ i5
 have KX:K.In s.heap:=e0.mod.kin.keeps fun b o e=>(e0.bs b o e).1
 have lim:s.heap.NoLimit:=e0.mod.nolimit.keeps fun b o e=>(e0.bs b o e).1
 have ly:∀y∈ps.zip us,scope.names.lookup y.1=some .local\/(scope.names.lookup y.1=some .cell/\((cellsFrom (s.heap.objs.size+1) scope.names []).lookup y.1).isSome=true):=fun ⟨n,v⟩ hy=>by
  rcases S.par n (Na hy).1 with q|q
  ·exact .inl q
  ·exact .inr ⟨q,PySem.W.cellsFrom_some _ _ _ (.inl q)⟩
 refine codeAny_call_function hr.depth (KX _ _ lk) rfl S.co S.gen rfl (PySem.W.codeRec_of KX c9) (hb _ _ _ _ ?_)
 refine wpAny_newFunctionEnv_cells S.kind ly fun env he s1 x=>?_
 subst he
 refine ⟨lim.keeps x.toInCall.keep,codeAny_func ?_⟩
 obtain ⟨t,ht,hq⟩:=jL A outer s H vs Q E (hr.deeper _) i5
 have I:Inv (eF CX P w K mg base N qual scope f ck A outer s H E) [] (start N vs) H s1:=xr S hr.hd e0 hl r x
 refine l9 (ht [] s1 (start N vs) H _ I hq) (fun fl s' hs=>?_) fun e s' hs=>hs
 have fin:∀{aF:St} {H':Hp} {v:V} {u:ap},Inv (eF CX P w K mg base N qual scope f ck A outer s H E) [] aF H' s'->RelV v u->Q v H'->CE outer P w H s Q u s':=
  fun {aF H' v u} J rv q=>⟨v,H',J.os,J.bare,J.base,J.hok,rv,q⟩
 cases fl with
 |ret u=>
  obtain ⟨v,aF,H',J,rv,q⟩:=hs
  exact fin J rv q
 |next=>
  obtain ⟨aF,H',J,q⟩:=hs
  exact fin (v:=V.ao) (u:=Cs) J rfl q
 |brk=>
  obtain ⟨_,_,_,q⟩:=hs
  exact AC q
 |cont=>
  obtain ⟨_,_,_,q⟩:=hs
  exact AC q
section
variable {X:Cx} {x:br} {p pos:sB} {e:dL} {es:List dL} {t:TA} {id T:String} {r:List V->Hp->VK->Prop}
def Fh (r:List V->Hp->VK->Prop) (t:TA):TE:=fun σ H Q=>t σ H fun vs H1=>r vs H1 Q
theorem z9 (hc:c7 X (.builtin id) r) (hg:Gl X x) (hm:X.mg x=none) (hv:bootBuiltins x=some (.builtin id)) (ha:PA X (e::es) t) (hn:x ≠ "__name__" := by decide) (dS:(x==("__debug__" : br))=false :=by decide)
  (he:starEach (e::es) X.env=(false,eval e X.env)::starEach es X.env :=by rfl) (cK:(backTo pos (starEach es X.env)).any (·.1)=false :=by rfl):PE X (.Call (.Name x p) (e::es) [] pos) (Fh r t) :=by
 refine ⟨?_⟩
 intro pins s σ H Q I h
 refine Cf (ir I hg hm hv ?_ hn dS)
 exact PyProof.Rows.callWith_builtin1 (thn (ha pos pins s σ H _ I h) fun us s1 ⟨vs,H1,I1,r1,q1⟩=>hc pins s1 σ H1 vs us Q I1 r1 q1) he cK
theorem xt (hc:c7 X (.type T) r) (hg:Gl X x) (hm:X.mg x=none) (hv:bootBuiltins x=some (.type T)) (ha:PA X (e::es) t) (hn:x ≠ "__name__" := by decide) (dS:(x==("__debug__" : br))=false :=by decide)
  (he:starEach (e::es) X.env=(false,eval e X.env)::starEach es X.env :=by rfl) (cK:(backTo pos (starEach es X.env)).any (·.1)=false :=by rfl):PE X (.Call (.Name x p) (e::es) [] pos) (Fh r t) :=by
 refine ⟨?_⟩
 intro pins s σ H Q I h
 refine Cf (ir I hg hm hv ?_ hn dS)
 exact Go (thn (ha pos pins s σ H _ I h) fun us s1 ⟨vs,H1,I1,r1,q1⟩=>hc pins s1 σ H1 vs us Q I1 r1 q1) he cK
end
end L2
namespace HT
open PySem PyProof.Rows
section
variable {prog:f8} {w:ii} {A:l8} {E:ap->bi->Prop} {s:bi}
def iw (n d:Nat):Option Int->Nat
 |none=>d
 |some v=>if v<0 then (v+(n:Int)).toNat else min v.toNat n
theorem jM {v:ap} {o:Option Int} {Q:Option Int->bi->Prop} (p:PN v o) (h:Q o s):wpAny (model prog w) A (uu.Slice.slicePartIndex v) Q E s :=by
 cases p with
 |none=>exact slicePart_none h
 |int i t=>exact slicePart_int h
end
end HT
namespace L2
open PySem PySem.Spec PyProof.Rows
abbrev TO:=St->Hp->(Option Int->Hp->Prop)->Prop
def PO (X:Cx) (e:Option dL) (t:TO):Prop:=
 ∀(pins:List (ag×i4)) (s:bi) (σ:St) (H:Hp) (Q:Option Int->Hp->Prop),Inv X pins σ H s->t σ H Q->
  wpAny (model X.prog X.w) X.A (evalPart e X.env) (fun u s'=>∃o H',Inv X pins σ H' s'/\PN u o/\Q o H') X.xe s
def C3:TO:=fun _ H Q=>Q none H
def BG (t:TE):TO:=fun σ H Q=>t σ H fun x H1=>∃i,x=.int i/\Q (some i) H1
section
variable {X:Cx} {e:dL} {te:TE} {lo hi:Option dL} {tl th:TO} {pos p2:sB}
theorem ur:PO X none C3 :=by
 intro pins s σ H Q I h
 rw [evalPart_none]
 exact ce ⟨none,H,I,.none,h⟩
theorem C4 (h:PE X e te):PO X (some e) (BG te) :=by
 intro pins s σ H Q I hw
 rw [evalPart_some]
 refine thn (h pins s σ H _ I hw) fun u s1 ⟨x,H1,I1,r1,q1⟩=>?_
 obtain ⟨i,rfl,q⟩:=q1
 obtain ⟨t,rfl⟩:=r1
 exact ⟨some i,H1,I1,.int i t,q⟩
def MA (X:Cx) (r:V->Option Int->Option Int->Hp->VK->Prop):Prop:=
 ∀(pins:List (ag×i4)) (s:bi) (σ:St) (H:Hp) (x:V) (v vl vu:ap) (lo hi:Option Int) (sl:ag) (Q:VK),Inv X pins σ H s->RelV x v->s.heap.IsSliceOf sl vl vu .none->PN vl lo->PN vu hi->r x lo hi H Q->
  ∃T id,typeLookup (.type T) "__getitem__" = pure (some (.builtin id))/\s.TypeIs v T/\wpAny (model X.prog X.w) X.A (getItem v (.ref sl)) (EP X pins σ Q) X.xe s
def vp (xs:List V) (lo hi:Option Int):List V:=(xs.drop (HT.iw xs.length 0 lo)).take (HT.iw xs.length xs.length hi - HT.iw xs.length 0 lo)
theorem tS (xs:List V) (lo hi:Option Int):(vp xs lo hi).length<=xs.length :=by
 unfold vp
 rw [Qr,Qs]
 omega
end
def fo (n:Nat) (i:Int):Option Nat:=if 0<=i then (if i<n then some i.toNat else none) else if -(n:Int)<=i then some (i+n).toNat else none
def bW {α:Type} (xs:List α) (i:Int):Option α:=(fo xs.length i).bind fun j=>xs[j]?
theorem oA {n:Nat} {i:Int} {j:Nat} (h:fo n i=some j):seqIndex? i n=some j/\j<n /\ -(n:Int)<=i/\i<n :=by
 unfold fo at h
 by_cases h0:0<=i
 ·rw [if_pos h0] at h
  by_cases h1:i<n
  ·rw [if_pos h1] at h
   have e:i.toNat=j:=hX h
   exact ⟨by rw [seqIndex_of h0 h1,e],by omega,by omega,h1⟩
  ·rw [if_neg h1] at h;cases h
 ·rw [if_neg h0] at h
  by_cases h1 : -(n:Int)<=i
  ·rw [if_pos h1] at h
   have e:(i+n).toNat=j:=hX h
   exact ⟨by rw [seqIndex_neg (by omega) h1,e],by omega,h1,by omega⟩
  ·rw [if_neg h1] at h;cases h
theorem oB {α:Type} {xs:List α} {i:Int} {v:α} (h:bW xs i=some v):∃j,seqIndex? i xs.length=some j/\xs[j]?=some v/\j<xs.length /\ -(xs.length:Int)<=i/\i<xs.length :=by
 unfold bW at h
 cases e:fo xs.length i with
 |none=>rw [e] at h;cases h
 |some j=>
  rw [e] at h
  obtain ⟨h1,h2,h3,h4⟩:=oA e
  exact ⟨j,h1,h,h2,h3,h4⟩
theorem bU {α:Type} {xs:List α} {j:Nat} {v:α} (h:xs[j]?=some v):bW xs (j:Int)=some v :=by
 have hj:j<xs.length:=(bv.mp h).1
 have e:fo xs.length (j:Int)=some j :=by
  unfold fo
  rw [if_pos (by omega),if_pos (by omega)];simp
 unfold bW;rw [e];exact h
def uv (b:dL):Prop:=∀o i,subscripted b false o i=operate [o,i] (getItem o i)
def kr (X:Cx) (r:R2):Prop:=
 ∀(value slice:dL) (pins:List (ag×i4)) (s:bi) (σ:St) (H:Hp) (x y:V) (v u:ap) (Q:VK),Inv X pins σ H s->RelV x v->RelV y u->r x y H Q->
  subscripted slice false v u=operate [v,u] (getItem v u)->wpAny (model X.prog X.w) X.A (subscriptTail value slice v u) (EP X pins σ Q) X.xe s
def xu (X:Cx) (id:String) (r:V->List V->Hp->VK->Prop):Prop:=
 ∀(pins:List (ag×i4)) (s:bi) (σ:St) (H:Hp) (x:V) (xs:List V) (v:ap) (us:List ap) (Q:VK),Inv X pins σ H s->RelV x v->Vals xs us->r x xs H Q->
  wpAny (model X.prog X.w) X.A (call (.builtin id) (v::us)) (EP X pins σ Q) X.xe s
section
variable {X:Cx} {a b:dL} {ta tb:TE} {pos:sB}
theorem kr.or {r r':R2} (h:kr X r) (h':kr X r'):kr X (fun x y H Q=>r x y H Q\/r' x y H Q) :=by
 intro value slice pins s σ H x y v u Q I rx ry q hs
 rcases q with q|q
 ·exact h value slice pins s σ H x y v u Q I rx ry q hs
 ·exact h' value slice pins s σ H x y v u Q I rx ry q hs
theorem IJ {r:R2} (hr:kr X r) (ha:PE X a ta) (hb:PE X b tb) (hs:uv b):PE X (.Subscript a b pos) (xi r ta tb) :=by
 refine ⟨?_⟩
 intro pins s σ H Q I h
 exact Subscript_ (zU ha hb I h fun v u s2 x y H2 I2 rx ry q=>hr a b pins s2 σ H2 x y v u Q I2 rx ry q (hs _ _))
def Fi (K:bn):R2:=fun x y H Q=>∃p xs i v,x=.ref p/\y=.int i/\bA K H p xs/\bW xs i=some v/\Q v H
def Fj (K:bn):R2:=fun x y H Q=>∃p xs i v,x=.ref p/\y=.int i/\cP K H p xs/\bW xs i=some v/\Q v H
def Fl:R2:=fun x y H Q=>∃z i c,x=.str z/\y=.int i/\z.length<=sizeLine/\bW z.cps.toList i=some c/\Q (.str ⟨#[c]⟩) H
theorem C5:kr X (Fi X.K) :=by
 intro value slice pins s σ H x y v u Q I rx ry h hs
 obtain ⟨p,xs,i,z,rfl,rfl,hq,he,q⟩:=h
 cases rx
 obtain ⟨t,rfl⟩:=ry
 obtain ⟨its,r,pl,hz⟩:=I.list hq
 obtain ⟨j,h1,h2,h3,h4,h5⟩:=oB he
 obtain ⟨w,ew,jv⟩:=r.get h2
 have hl:=r.length
 have hn:=ju
 have fin:EP X pins σ Q w s:=⟨z,H,I,jv,q⟩
 by_cases h0:0<=i
 ·have hj:i.toNat=j :=by
   rw [seqIndex_of h0 h5] at h1
   exact hX h1
  exact item_listR pl.isList h0 (by omega) (by rw [hj];simpa using ew) fin hs
 ·have hj:(i+(its.toArray.size:Int)).toNat=j :=by
   rw [seqIndex_neg (by omega) h4] at h1
   rw [ff,<- hl]
   exact hX h1
  exact subscriptTail_builtinR (x:=w) pl.isList.typeIs slot_list_getitem.lookup
   (wpAny_getItem_list_neg (Q:=fun r s'=>r=w/\EP X pins σ Q r s') pl.isList (by omega) (by rw [ff] <;> omega) (by omega) (by rw [hj];simpa using ew) ⟨rfl,fin⟩) hs
theorem Fm:kr X (Fj X.K) :=by
 intro value slice pins s σ H x y v u Q I rx ry h hs
 obtain ⟨p,xs,i,z,rfl,rfl,hq,he,q⟩:=h
 cases rx
 obtain ⟨t,rfl⟩:=ry
 obtain ⟨its,r,pl,hz⟩:=I.tuple hq
 obtain ⟨j,h1,h2,h3,h4,h5⟩:=oB he
 obtain ⟨w,ew,jv⟩:=r.get h2
 have hl:=r.length
 have hn:=ju
 have fin:EP X pins σ Q w s:=⟨z,H,I,jv,q⟩
 exact subscriptTail_builtinR (x:=w) pl.typeIs slot_tuple_getitem.lookup
  (getItem_tuple (j:=j) (Q:=fun r s'=>r=w/\EP X pins σ Q r s') pl (by omega) (by omega) (by rw [ff,<- hl];exact h1) (by simpa using ew) ⟨rfl,fin⟩) hs
theorem Fn:kr X Fl :=by
 intro value slice pins s σ H x y v u Q I rx ry h hs
 obtain ⟨z,i,c,rfl,rfl,hz,he,q⟩:=h
 obtain ⟨t,rfl⟩:=rx
 obtain ⟨t',rfl⟩:=ry
 obtain ⟨j,h1,h2,h3,h4,h5⟩:=oB he
 have hl:z.cps.toList.length=z.length :=by simp [br.length]
 rw [hl] at h1 h4 h5
 have hn:=ju
 exact tail_any (typeIs_str s z t) slot_str_getitem.lookup (getItem_str (c:=c) (by
  have e1:decide (i < -(2 ^ 63:Int))=false:=decide_eq_false (by omega)
  have e2:decide (i ≥ 2 ^ 63)=false:=decide_eq_false (by omega)
  rw [e1,e2,Bool.or_false]) (by rw [h1];simpa using h2) ⟨.str ⟨#[c]⟩,H,I.tok _,⟨_,rfl⟩,q⟩) hs
def JZ (K:bn):R2:=fun x y H Q=>Fi K x y H Q\/Fj K x y H Q\/Fl x y H Q
theorem Fo:kr X (JZ X.K):=C5.or (Fm.or Fn)
theorem vq (its:List ap) (n j:Nat) (u:ap):Nd (·.setIfInBounds j u) {cls:=.type "list",data:=.seq its.toArray n}={cls:=.type "list",data:=.seq (its.set j u).toArray n}:=by
 simp [Nd]
theorem Inv.lst {pins:List (ag×i4)} {σ:St} {H:Hp} {s:bi} {p:ag} {xs:List V} (I:Inv X pins σ H s) (h:H p=some (.lst xs)) :
  ∃(its:List ap) (n:Nat),Vals xs its/\s.heap.get? p=some {cls:=.type "list",data:=.seq its.toArray n}/\xs.length<=sizeLine :=by
 obtain ⟨z,its,n,r,e⟩:=I.hok p _ h
 exact ⟨its,n,r,e,z⟩
theorem Inv.Fp {pins:List (ag×i4)} {σ:St} {H:Hp} {s:bi} {p:ag} {xs ys:List V} {its its':List ap} {n n':Nat} {f:i4->i4} (I:Inv X pins σ H s) (h:H p=some (.lst xs))
  (ho:s.heap.get? p=some {cls:=.type "list",data:=.seq its.toArray n}) (hf:f {cls:=.type "list",data:=.seq its.toArray n}={cls:=.type "list",data:=.seq its'.toArray n'}) (r:Vals ys its') (hz:ys.length<=sizeLine) (t:Nat) :
  Inv X pins σ (upd H p (.lst ys)) {s with heap:=s.heap.update p f,toks:=t}:=by
 have e:(s.heap.update p f).get? p=some {cls:=.type "list",data:=.seq its'.toArray n'}:=by
  rw [IF f ho (by rw [hf] <;> rfl),hf]
 refine I.write (x:=p) (e:=p) (by rw [h];trivial) (.inl rfl) (fun b u hb q=>(xb _ _ (xy hb)).trans q) ⟨_,e⟩ ?_
 exact ⟨hz,its',n',r,e⟩
def IK:V->V->V->Hp->(Hp->Prop)->Prop:=fun o i v H Q=>∃p xs k j,o=.ref p/\i=.int k/\H p=some (.lst xs)/\fo xs.length k=some j/\Q (upd H p (.lst (xs.set j v)))
theorem set_list:EK X IK :=by
 intro pins s σ H o i v ov iv u Q I ro ri rv h
 obtain ⟨p,xs,k,j,rfl,rfl,hp,hj,q⟩:=h
 cases ro
 obtain ⟨t,rfl⟩:=ri
 obtain ⟨its,n,r,ho,hz⟩:=I.lst hp
 obtain ⟨h1,h2,h3,h4⟩:=oA hj
 have hl:=r.length
 have hn:=ju
 have I':Inv X pins σ (upd H p (.lst (xs.set j v))) {s with heap:=s.heap.update p (Nd (·.setIfInBounds j u))}:=
  I.Fp hp ho (vq its n j u) (r.set rv j) (by rw [Da];exact hz) s.toks
 by_cases h0:0<=k
 ·have hk:k.toNat=j :=by
   rw [seqIndex_of h0 h4] at h1
   exact hX h1
  exact PySem.W.ki_setAt ho h0 (by omega) (by rw [ff,<- hl];exact h4) (by rw [hk];exact ⟨_,I',q⟩)
 ·have hk:(k+(its.toArray.size:Int)).toNat=j :=by
   rw [seqIndex_neg (by omega) h3] at h1
   rw [ff,<- hl]
   exact hX h1
  exact PySem.W.ki_setBack ho (by omega) (by rw [ff,<- hl];exact h3) (by omega) (by rw [hk];exact ⟨_,I',q⟩)
theorem q9 (lo hi:Option Int) (n:Nat):(sliceBounds lo hi none n).1=((HT.iw n 0 lo:Nat):Int)/\(sliceBounds lo hi none n).2.1=((HT.iw n n hi:Nat):Int)/\(sliceBounds lo hi none n).2.2=1 :=by
 refine ⟨?_,?_,rfl⟩
 ·cases lo with
  |none=>simp [sliceBounds,HT.iw]
  |some i=>
   simp only [sliceBounds,HT.iw,Option.getD_none,show (1:Int) > 0 by decide,if_true]
   by_cases h:i<0
   ·simp only [h,if_true] <;> omega
   ·simp only [h,if_false] <;> omega
 ·cases hi with
  |none=>simp [sliceBounds,HT.iw]
  |some i=>
   simp only [sliceBounds,HT.iw,Option.getD_none,show (1:Int) > 0 by decide,if_true]
   by_cases h:i<0
   ·simp only [h,if_true] <;> omega
   ·simp only [h,if_false] <;> omega
theorem qz (its:List ap) (lo hi:Option Int):slicePick its.toArray lo hi none=((its.drop (HT.iw its.length 0 lo)).take (HT.iw its.length its.length hi - HT.iw its.length 0 lo)).toArray :=by
 obtain ⟨h1,h2,h3⟩:=q9 lo hi its.toArray.size
 unfold slicePick
 rw [h1,h2,h3]
 simp only [sliceRange_one,pick_run,ff] <;> rfl
def Lh (K:bn):V->Option Int->Option Int->Hp->VK->Prop:=fun x lo hi H Q=>∃a xs,x=.ref a/\bA K H a xs/\∀p,H p=none->Q (.ref p) (upd H p (.lst (vp xs lo hi)))
theorem Mk:MA X (Lh X.K) :=by
 intro pins s σ H x v vl vu lo hi sl Q I rx hs pl pu h
 obtain ⟨a,xs,rfl,hx,q⟩:=h
 cases rx
 obtain ⟨its,r,ht,hz⟩:=I.list hx
 have hlen:=r.length
 refine ⟨"list",_,slot_list_getitem.lookup,ht.isList.typeIs,?_⟩
 refine wpAny_getItem_list_slice ht.isList hs pl pu .none (by simp) ?_ (by rw [ff] <;> omega)
 rw [qz,<- hlen]
 refine ⟨.ref s.heap.objs.size,_,I.laid (t':=s.toks) (o:=.lst (vp xs lo hi)) (fun b ob q=>ci _ q) (c8 _) ?_,rfl,q _ (I.hok.fresh (c8 _))⟩
 exact ⟨r6 (tS xs lo hi) hz,_,0,(r.drop (HT.iw xs.length 0 lo)).take (HT.iw xs.length xs.length hi - HT.iw xs.length 0 lo),i1 _ rfl⟩
def i6:V->Bool
 | .ao=>true
 | .bl _=>true
 | .int _=>true
 | .str _=>true
 |_=>false
def nv:V->V->Bool
 | .ao,.ao=>true
 | .bl a,.bl b=>a==b
 | .bl a,.int b=>(if a then 1 else 0)==b
 | .int a,.bl b=>a==(if b then 1 else 0)
 | .int a,.int b=>a==b
 | .str a,.str b=>a==b
 |_,_=>false
theorem Fq {A:l8} {s:bi} {y x:V} {u v:ap} (ry:RelV y u) (rx:RelV x v) (fy:i6 y=true) (fx:i6 x=true):ij A s u v (nv y x) :=by
 cases y with
 |ao=>
  cases ry
  cases x with
  |ao=>cases rx;exact PP _
  |bl b=>cases rx;exact ij.none_bool b
  |int b=>obtain ⟨t,rfl⟩:=rx;exact ij.none_int b t
  |str b=>obtain ⟨t,rfl⟩:=rx;exact ij.none_str b t
  |_=>exact absurd (show false=true from fx) ge
 |bl a=>
  cases ry
  cases x with
  |ao=>cases rx;exact ij.bool_none a
  |bl b=>cases rx;exact ij.bool_bool a b
  |int b=>obtain ⟨t,rfl⟩:=rx;exact ij.bool_int a b t
  |str b=>obtain ⟨t,rfl⟩:=rx;exact ij.bool_str a b t
  |_=>exact absurd (show false=true from fx) ge
 |int a=>
  obtain ⟨t',rfl⟩:=ry
  cases x with
  |ao=>cases rx;exact ij.int_none a t'
  |bl b=>cases rx;exact ij.int_bool a t' b
  |int b=>obtain ⟨t,rfl⟩:=rx;exact ij.int_int a t' b t
  |str b=>obtain ⟨t,rfl⟩:=rx;exact P6 a t' b t
  |_=>exact absurd (show false=true from fx) ge
 |str a=>
  obtain ⟨t',rfl⟩:=ry
  cases x with
  |ao=>cases rx;exact ij.str_none a t'
  |bl b=>cases rx;exact ij.str_bool a t' b
  |int b=>obtain ⟨t,rfl⟩:=rx;exact P7 a t' b t
  |str b=>obtain ⟨t,rfl⟩:=rx;exact ij.str_str a t' b t
  |_=>exact absurd (show false=true from fx) ge
 |_=>exact absurd (show false=true from fy) ge
def ny (x:V) (u:ap):Bool:=match u with
 | .none=>nv .ao x
 | .bool b=>nv (.bl b) x
 | .int i _=>nv (.int i) x
 | .str z _=>nv (.str z) x
 |_=>false
theorem xx {x y:V} {u:ap} (r:RelV y u) (f:i6 y=true):ny x u=nv y x :=by
 cases y with
 |ao=>cases r;rfl
 |bl b=>cases r;rfl
 |int i=>obtain ⟨t,rfl⟩:=r;rfl
 |str z=>obtain ⟨t,rfl⟩:=r;rfl
 |_=>exact absurd (show false=true from f) ge
theorem oC {x:V}:∀{xs:List V} {us:List ap},Vals xs us->xs.all i6=true->us.any (ny x)=xs.any fun y=>nv y x
 |_,_,.nil,_=>rfl
 |y::xs,u::us,.cons r t,f=>by
          rw [Py,u4] at f
          rw [OK,OK,xx r f.1,oC t f.2]
theorem mD {A:l8} {s:bi} {x:V} {v:ap} (rx:RelV x v) (fx:i6 x=true):∀{xs:List V} {us:List ap},Vals xs us->xs.all i6=true->∀u∈us,ij A s u v (ny x u)
 |_,_,.nil,_=>fun u hu=>by cases hu
 |y::xs,u::us,.cons r t,f=>fun u' hu=>by
          rw [Py,u4] at f
          rcases lc.mp hu with rfl|hu
          ·rw [xx r f.1];exact Fq r rx f.1 fx
          ·exact mD rx fx t f.2 u' hu
def xA (x:V) (xs:List V):Bool:=xs.any fun y=>nv y x
def Fs (K:bn) (neg:Bool):R2:=fun x y H Q=>∃p xs,y=.ref p/\(bA K H p xs\/cP K H p xs)/\i6 x=true/\xs.all i6=true/\Q (.bl (if neg then !xA x xs else xA x xs)) H
theorem xB:OpR X (compareOp .In) (Fs X.K false) :=by
 intro pins s σ H x y v u Q I rx ry h
 obtain ⟨p,xs,rfl,hq,fx,fs,q⟩:=h
 cases ry
 rcases hq with hq|hq
 ·obtain ⟨its,r,pl,hz⟩:=I.list hq
  refine SeqAt.in_listAt (ny x) pl.isList (fun w hw=>mD rx fx r fs w (by simpa using hw)) ⟨.bl _,H,I,rfl,?_⟩
  rw [show its.toArray.any (ny x)=its.any (ny x) by simp,oC r fs]
  exact q
 ·obtain ⟨its,r,pl,hz⟩:=I.tuple hq
  refine SeqAt.in_tupleAt (ny x) pl (fun w hw=>mD rx fx r fs w (by simpa using hw)) ⟨.bl _,H,I,rfl,?_⟩
  rw [show its.toArray.any (ny x)=its.any (ny x) by simp,oC r fs]
  exact q
theorem qA:c7 X (.type "tuple") (fun xs H Q=>∃p ys,xs=[.ref p]/\((bA X.K H p ys/\∀l,H l=none->Q (.ref l) (upd H l (.tup ys)))\/(cP X.K H p ys/\Q (.ref p) H))) :=by
 intro pins s σ H xs us Q I r h
 obtain ⟨p,ys,rfl,h⟩:=h
 obtain ⟨u,rfl,rx⟩:=vals1 r
 cases rx
 rcases h with ⟨hq,q⟩|⟨hq,q⟩
 ·obtain ⟨its,r',pl,hz⟩:=I.list hq
  have hlen:=r'.length
  refine call_tuple_list pl.isList (fun h' kp=>?_) (by simp only [ff] <;> omega)
  have I1:Inv X pins σ H {s with heap:=h'}:=I.kept (t':=s.toks) kp
  have I2:Inv X pins σ (upd H h'.objs.size (.tup ys)) {s with heap:=h'.push {cls:=.type "tuple",data:=.seq its.toArray}}:=
   I1.laid (t':=s.toks) (fun b o e=>ci _ e) (c8 _) (show ObjOk X.prog X.w _ _ _ (.tup ys) from ⟨hz,its,r',jj.new _ _⟩)
  exact ⟨.ref h'.objs.size,_,I2,rfl,q _ (I1.hok.fresh (c8 _))⟩
 ·obtain ⟨its,r',pl,hz⟩:=I.tuple hq
  exact call_tuple_same pl ⟨.ref p,H,I,rfl,q⟩
def BH (K:bn) (T:String) (x:V) (H:Hp):Prop:=match x with
 | .str _=>T = "str"
 | .int _=>T = "int"
 | .ref p=>(T = "list" /\ ∃xs,bA K H p xs)\/(T = "tuple" /\ ((∃o,K.lookup p=some o/\o.cls=.type "tuple" /\ o.dict=none)\/∃xs,H p=some (.tup xs))) \/
   (T = "dict" /\ ((∃ai,H p=some (.dK ai))\/∃ai,H p=some (.dT ai)))\/(T = "set" /\ ∃S n,H p=some (.set S n))
 |_=>False
theorem xC {pins:List (ag×i4)} {σ:St} {H:Hp} {s:bi} {T:String} {x:V} {v:ap} (I:Inv X pins σ H s) (r:RelV x v) (ty:BH X.K T x H) :
  s.TypeIs v T/\∀a,v=.ref a->∃ob,s.heap.get? a=some ob/\ob.dict=none :=by
 cases x with
 |str z=>
  obtain ⟨t,rfl⟩:=r
  cases (show T = "str" from ty)
  exact ⟨typeIs_str s z t,fun _ e=>nomatch e⟩
 |int i=>
  obtain ⟨t,rfl⟩:=r
  cases (show T = "int" from ty)
  exact ⟨typeIs_int s i t,fun _ e=>nomatch e⟩
 |ref p=>
  cases r
  rcases ty with ⟨rfl,xs,hq⟩|⟨rfl,⟨o,hk,hc,hd⟩|⟨xs,hk⟩⟩|⟨rfl,hk⟩|⟨rfl,S,n,hk⟩
  ·obtain ⟨its,_,pl,_⟩:=I.list hq
   refine ⟨pl.isList.typeIs,fun a e=>?_⟩
   cases e
   obtain ⟨o,n,e,c,hd,_⟩:=pl
   exact ⟨o,e,hd⟩
  ·refine ⟨⟨o,I.fw p o hk,hc⟩,fun a e=>?_⟩
   cases e
   exact ⟨o,I.fw _ o hk,hd⟩
  ·obtain ⟨_,its,_,o,e,c,n,d,hd⟩:=I.hok p _ hk
   refine ⟨⟨o,e,c⟩,fun a e2=>?_⟩
   cases e2
   exact ⟨o,e,hd⟩
  ·have z:∃o,s.heap.get? p=some o/\o.ExactDict :=by
    rcases hk with ⟨ai,hk⟩|⟨ai,hk⟩
    ·obtain ⟨_,_,_,_,o,_,_,e,ex,_⟩:=I.hok p _ hk
     exact ⟨o,e,ex⟩
    ·obtain ⟨_,_,_,_,o,_,_,e,ex,_⟩:=I.hok p _ hk
     exact ⟨o,e,ex⟩
   obtain ⟨o,e,ex⟩:=z
   refine ⟨⟨o,e,ex.1⟩,fun a e2=>?_⟩
   cases e2
   exact ⟨o,e,ex.2.1⟩
  ·obtain ⟨o,_,_,_,e,ex,_⟩:=I.hok p _ hk
   refine ⟨⟨o,e,ex.1⟩,fun a e2=>?_⟩
   cases e2
   exact ⟨o,e,ex.2.1⟩
 |_=>exact AC ty
def Ft (K:bn) (T:String) (r:V->List V->Hp->VK->Prop) (to:TE):TE:=fun σ H Q=>to σ H fun x H1=>BH K T x H1/\r x [] H1 Q
def J0 (K:bn) (T:String) (r:V->List V->Hp->VK->Prop) (to:TE) (t:TA):TE:=fun σ H Q=>to σ H fun x H1=>BH K T x H1/\t σ H1 fun xs H2=>r x xs H2 Q
variable {o e:dL} {es:List dL} {to:TE} {t:TA} {name:br} {apos aW:sB} {T id:String} {r:V->List V->Hp->VK->Prop}
theorem Fu (pa:PQ T) (slot:Slot T name id) (ku:typeOf (.builtin id)=pure (.type "method_descriptor")) (hm:xu X id r) (ho:PE X o to)
  (fA:attributeBase o name X.env (eval o X.env)=eval o X.env :=by rfl) (hline:(apos.endLine==aW.line)=true :=by rfl):PE X (.Call (.Attribute o name apos) [] [] aW) (Ft X.K T r to) :=by
 refine ⟨?_⟩
 intro pins s σ H Q I h
 refine wpAny_Call_method0_late fA hline (thn (ho pins s σ H _ I h) fun v s1 ⟨x,H1,I1,r1,ty,q1⟩=>?_)
 obtain ⟨h1,h2⟩:=xC I1 r1 ty
 exact ⟨T,id,pa,slot,ku,h1,h2,Calls.callWith_builtin rfl (PySem.evalArgs_none (hm pins s1 σ H1 x [] v [] Q I1 r1 .nil q1))⟩
theorem IL (pa:PQ T) (slot:Slot T name id) (ku:typeOf (.builtin id)=pure (.type "method_descriptor")) (hm:xu X id r) (ho:PE X o to) (ha:PA X (e::es) t)
  (fA:attributeBase o name X.env (eval o X.env)=eval o X.env :=by rfl)
  (rg:((backTo aW (starEach (e::es) X.env)).all (fun x => !x.1) && (backToKw aW (keywordEach [] X.env)).all (fun x=>x.1.isSome)
   && decide ((e::es).length+([]:List Pn).length+(if ([]:List Pn).isEmpty then 0 else 1)<30))=true :=by rfl)
  (hline:(apos.endLine==aW.line)=true :=by rfl) (hs:starEach (e::es) X.env=(false,eval e X.env)::starEach es X.env :=by rfl) (ky:(backTo aW (starEach es X.env)).any (·.1)=false :=by rfl) :
  PE X (.Call (.Attribute o name apos) (e::es) [] aW) (J0 X.K T r to t) :=by
 refine ⟨?_⟩
 intro pins s σ H Q I h
 refine wpAny_Call_method_late fA rg hline rfl (thn (ho pins s σ H _ I h) fun v s1 ⟨x,H1,I1,r1,ty,q1⟩=>?_)
 obtain ⟨h1,h2⟩:=xC I1 r1 ty
 refine ⟨T,id,pa,slot,ku,h1,h2,?_⟩
 have hA:=ha aW pins s1 σ H1 _ I1 q1
 rw [hs] at hA ⊢
 refine Calls.callWith_builtin (by show (false || (backTo aW (starEach es X.env)).any (·.1))=false;rw [ky] <;> rfl) (Calls.evalArgs_plain ?_)
 exact thn hA fun us s2 ⟨vs,H2,I2,r2,q2⟩=>hm pins s2 σ H2 x vs v us Q I2 r1 r2 q2
end
def BI (X:Cx) (id:String) (r:V->List V->Hp->VK->Prop):Prop:=
 ∀(pins:List (ag×i4)) (s:bi) (σ:St) (H:Hp) (x:V) (xs:List V) (v:ap) (us:List ap) (Q:VK),Inv X pins σ H s->RelV x v->Vals xs us->r x xs H Q->
  wpAny (model X.prog X.w) X.A (call (.builtin id) (v::us)) (EP X pins σ Q) X.xe s
theorem Vals.one:∀{x:V} {us:List ap},Vals [x] us->∃u,us=[u]/\RelV x u
 |_,_,.cons r .nil=>⟨_,rfl,r⟩
theorem Vals.zero:∀{us:List ap},Vals [] us->us=[]
 |_,.nil=>rfl
theorem Vals.dropLast {xs:List V} {us:List ap} (h:Vals xs us):Vals xs.dropLast us.dropLast :=by
 induction h with
 |nil=>exact .nil
 |cons r t ih=>
  cases t with
  |nil=>exact .nil
  |cons q t'=>exact .cons r ih
theorem Vals.eraseIdx:∀{xs:List V} {us:List ap} (i:Nat),Vals xs us->Vals (xs.eraseIdx i) (us.eraseIdx i)
 |_,_,_,.nil=>.nil
 |_,_,0,.cons _ t=>t
 |_,_,i+1,.cons r t=>.cons r (Vals.eraseIdx i t)
theorem Vals.reverse {xs:List V} {us:List ap} (h:Vals xs us):Vals xs.reverse us.reverse :=by
 induction h with
 |nil=>exact .nil
 |cons r t ih=>rw [Qi,Qi];exact Vals.append ih (.cons r .nil)
theorem Vals.rep {xs:List V} {us:List ap} (h:Vals xs us):∀k:Nat,Vals (on k xs).flatten (on k us).flatten
 |0=>.nil
 |k+1=>by
          rw [wb,wb,EO,EO]
          exact Vals.append h (Vals.rep h k)
theorem vr {α:Type} (l:List α):l.eraseIdx (l.length - 1)=l.dropLast :=by
 induction l with
 |nil=>rfl
 |cons a r ih=>
  cases r with
  |nil=>rfl
  |cons b r=>
   have e:(a::b::r).length - 1=((b::r).length - 1)+1 :=by
    have h1:(a::b::r).length=r.length+2:=rfl
    have h2:(b::r).length=r.length+1:=rfl
    omega
   rw [e,List.eraseIdx_cons_succ,ih]
   all_goals rfl
theorem pB {α:Type}:∀(l:List α) (i:Nat),(l.eraseIdx i).length<=l.length
 | [],_=>c8 _
 |_::_,0=>FM _
 |_::r,i+1=>Nat.succ_le_succ (pB r i)
theorem foldl_rep (its:List ap):∀(k:Nat) (acc:List ap),
  List.foldl (fun x1 x2=>x1++x2) acc.toArray (on k its.toArray)=(acc++(on k its).flatten).toArray
 |0,acc=>by simp
 |k+1,acc=>by
          have e:acc.toArray++its.toArray=(acc++its).toArray :=by simp
          have e2:(acc++its)++(on k its).flatten=acc++(on (k+1) its).flatten :=by
           rw [wb,EO,EQ]
          rw [<- e2,<- foldl_rep its k (acc++its),<- e,wb,List.foldl_cons]
section
variable {X:Cx} {pins:List (ag×i4)} {σ:St} {H:Hp} {s:bi} {l b:ag} {xs ys zs:List V}
theorem Inv.vt {its its':List ap} {n:Nat} {f:Array ap->Array ap} {t':Nat} (I:Inv X pins σ H s) (hH:H l=some (.lst xs))
  (e:s.heap.get? l=some {cls:=.type "list",data:=.seq its.toArray n}) (hf:f its.toArray=its'.toArray) (hv:Vals ys its') (hz:ys.length<=sizeLine) :
  Inv X pins σ (upd H l (.lst ys)) {s with heap:=s.heap.update l (Nd f),toks:=t'}:=by
 have q:=PySem.IsL.update e f
 rw [hf] at q
 refine I.write (x:=l) (e:=l) (by rw [hH];exact trivial) (.inl rfl) (fun b' u hb hu=>(xb s.heap (Nd f) (xy hb)).trans hu) ⟨_,q⟩ ?_
 exact ⟨hz,its',_,hv,q⟩
theorem Inv.Li {its:List ap} {t':Nat} (I:Inv X pins σ H s) (hv:Vals ys its) (hz:ys.length<=sizeLine) :
  Inv X pins σ (upd H s.heap.objs.size (.lst ys)) {s with heap:=s.heap.push {cls:=.type "list",data:=.seq its.toArray},toks:=t'}:=
 I.laid (fun _ _ q=>ci _ q) (c8 _) ⟨hz,its,0,hv,i1 _ rfl⟩
theorem Inv.fresh (I:Inv X pins σ H s):H s.heap.objs.size=none:=I.hok.fresh (c8 _)
theorem Inv.rh (I:Inv X pins σ H s) (hH:H l=some (.lst xs)):xs.length<=sizeLine/\∃(its:List ap) (n:Nat),Vals xs its/\xs.length=its.length/\s.heap.get? l=some {cls:=.type "list",data:=.seq its.toArray n}:=by
 obtain ⟨z,its,n,r,e⟩:=I.hok l _ hH
 exact ⟨z,its,n,r,r.length,e⟩
theorem Aa {n:Nat} (h:n<=sizeLine):Pg n=false :=by
 unfold Pg
 exact decide_eq_false (by omega)
end
section
variable {X:Cx}
def C6:V->List V->Hp->VK->Prop:=fun x vs H Q=>∃l xs y,x=.ref l/\vs=[y]/\H l=some (.lst xs)/\xs.length<sizeLine/\Q .ao (upd H l (.lst (xs++[y])))
theorem pC:BI X "list.append" C6 :=by
 intro pins s σ H x vs v us Q I rx rv h
 obtain ⟨l,xs,y,rfl,rfl,hH,hz,q⟩:=h
 cases rx
 obtain ⟨u,rfl,ru⟩:=rv.one
 obtain ⟨z,its,n,r,hl,e⟩:=I.rh hH
 refine PR F.slot_list_append ⟨_,e,rfl⟩ F.entry_list_append (F.args_list_append_2 _ _) (PySem.list_append l its.toArray n u (by rw [ff];omega)) ⟨e,?_⟩
 refine ⟨.ao,_,I.vt (its':=its++[u]) hH e (by simp) (r.append (.cons ru .nil)) ?_,rfl,q⟩
 rw [v6,NL]
 omega
def Lj:V->List V->Hp->VK->Prop:=fun x vs H Q=>∃l xs y,x=.ref l/\vs=[]/\H l=some (.lst xs)/\xs[xs.length - 1]?=some y/\Q y (upd H l (.lst xs.dropLast))
theorem MB:BI X "list.pop" Lj :=by
 intro pins s σ H x vs v us Q I rx rv h
 obtain ⟨l,xs,y,rfl,rfl,hH,hy,q⟩:=h
 cases rx
 have Fv:=rv.zero
 subst Fv
 obtain ⟨z,its,n,r,hl,e⟩:=I.rh hH
 obtain ⟨u,hu,ru⟩:=r.get hy
 have Fw:its.toArray[its.toArray.size - 1]?=some u :=by
  show its.toArray[its.length - 1]?=some u
  rw [<- IN,<- hl]
  exact hu
 refine PR F.slot_list_pop ⟨_,e,rfl⟩ F.entry_list_pop (F.args_list_pop_1 _) (MeetsSeq.list_pop_last l its.toArray n u Fw (by rw [ff];omega)) ⟨e,?_⟩
 refine ⟨y,_,I.vt (its':=its.dropLast) hH e ?_ r.dropLast ?_,ru,q⟩
 ·show its.toArray.eraseIdxIfInBounds (its.toArray.size - 1)=its.dropLast.toArray
  rw [ff,List.eraseIdxIfInBounds_toArray,vr]
 ·rw [List.length_dropLast]
  omega
def Fx:V->List V->Hp->VK->Prop:=fun x vs H Q=>∃l xs i k y,x=.ref l/\vs=[.int i]/\H l=some (.lst xs) /\ -(2 ^ 63)<=i/\i<2 ^ 63/\seqIndex? i xs.length=some k/\xs[k]?=some y/\Q y (upd H l (.lst (xs.eraseIdx k)))
theorem Ab:BI X "list.pop" Fx :=by
 intro pins s σ H x vs v us Q I rx rv h
 obtain ⟨l,xs,i,k,y,rfl,rfl,hH,h1,h2,hk,hy,q⟩:=h
 cases rx
 obtain ⟨u,rfl,ru⟩:=rv.one
 obtain ⟨t,rfl⟩:=ru
 obtain ⟨z,its,n,r,hl,e⟩:=I.rh hH
 obtain ⟨w,hw,jv⟩:=r.get hy
 refine PR F.slot_list_pop ⟨_,e,rfl⟩ F.entry_list_pop (F.args_list_pop_2 _ _)
  (MeetsSeq.list_pop_at l its.toArray n i t k w (fitsIndex_both h1 h2) (by rw [ff,<- hl];exact hk) (by rw [<- IN];exact hw) (by rw [ff];omega)) ⟨e,?_⟩
 refine ⟨y,_,I.vt (its':=its.eraseIdx k) hH e ?_ (r.eraseIdx k) ?_,jv,q⟩
 ·show its.toArray.eraseIdxIfInBounds k=(its.eraseIdx k).toArray
  rw [List.eraseIdxIfInBounds_toArray]
 ·have:=pB xs k
  omega
def Fy:V->List V->Hp->VK->Prop:=fun x vs H Q=>∃l xs,x=.ref l/\vs=[]/\H l=some (.lst xs)/\Q .ao (upd H l (.lst []))
theorem Ac:BI X "list.clear" Fy :=by
 intro pins s σ H x vs v us Q I rx rv h
 obtain ⟨l,xs,rfl,rfl,hH,q⟩:=h
 cases rx
 have Fv:=rv.zero
 subst Fv
 obtain ⟨z,its,n,r,hl,e⟩:=I.rh hH
 refine PR F.slot_list_clear ⟨_,e,rfl⟩ F.entry_list_clear (F.args_list_clear_1 _) (AutoSeq1.list_clear_list_0 l its.toArray n (by rw [ff];omega)) ⟨e,?_⟩
 exact ⟨.ao,_,I.vt (its':=[]) (ys:=[]) hH e rfl .nil (sK _),rfl,q⟩
def Lk:R2:=fun x y H Q=>∃l k xs,x=.ref l/\y=.int k/\H l=some (.lst xs) /\ -(2 ^ 63)<=k/\k<2 ^ 63/\xs.length * k.toNat<=sizeLine /\
 ∀p,H p=none->Q (.ref p) (upd H p (.lst (on k.toNat xs).flatten))
theorem len_rep {α:Type} (xs:List α) (k:Nat):(on k xs).flatten.length=k * xs.length :=by
 induction k with
 |zero=>simp
 |succ k ih=>rw [wb,EO,v6,ih,Nat.succ_mul,Nat.add_comm]
theorem FA:OpR X (binaryOp .Mult) Lk :=by
 intro pins s σ H x y v u Q I rx ry h
 obtain ⟨l,k,xs,rfl,rfl,hH,h1,h2,hz,q⟩:=h
 cases rx
 obtain ⟨t,rfl⟩:=ry
 obtain ⟨z,its,n,r,hl,e⟩:=I.rh hH
 have hlen:its.toArray.size * k.toNat<=sizeLine :=by rw [ff,<- hl];exact hz
 have Ln:¬ its.toArray.size * k.toNat > (2 ^ 63 - 1) / 8 :=by
  have:(sizeLine:Nat)<=(2 ^ 63 - 1) / 8 :=by decide
  omega
 have Lp:¬ (!Builtin.List.listFitsIndex k)=true :=by
  rw [fitsIndex_both h1 h2]
  exact ge
 have IM:¬ Pg (its.toArray.size * k.toNat)=true :=by
  rw [Aa hlen]
  exact ge
 have Lq:List.foldl (fun x1 x2=>x1++x2) #[] (on (if its.toArray.isEmpty=true then 0 else k.toNat) its.toArray)=(on k.toNat its).flatten.toArray :=by
  have f0:∀m:Nat,List.foldl (fun x1 x2=>x1++x2) #[] (on m its.toArray)=(on m its).flatten.toArray:=fun m=>by
   have:=foldl_rep its m []
   rw [Db] at this
   exact this
  rw [f0]
  cases its with
  |nil=>simp
  |cons a r'=>rw [if_neg (by simp)]
 refine wpAny_binaryOp_repeat_ref (T := "list") (U := "int") (by decide) ⟨_,e,rfl⟩ (fun s'=>typeIs_int s' k t) noFill_list_mul F.fills_int_mul F.slot_int_rmul repeat_list F.slot_int_index.lookup
  (PR F.slot_int_rmul (typeIs_int s k t) F.entry_int_rmul (F.args_int_rmul_2 _ _) (int___rmul___int_list k t l its.toArray n)
   ⟨e,rfl,⟨_,e,rfl⟩,PR F.slot_list_mul ⟨_,e,rfl⟩ F.entry_list_mul (F.args_list_mul_2 _ _) (AutoListH.list___mul___list_int_3 l its.toArray n k t Lp Ln IM) ⟨e,?_⟩⟩)
 rw [Lq]
 exact ⟨.ref _,_,I.Li (t':=s.toks) (r.rep k.toNat) (by rw [len_rep,Nat.mul_comm];exact hz),rfl,q _ I.fresh⟩
end
end L2
namespace J1
open PySem PySem.W PySem.Calls PyProof.Rows
theorem nz {P:QZ} {h:gl}:∀(ns:List Int) (vs:List ap),WellAll P h vs (ns.map WData.int)->NO vs ns :=by
 intro ns
 induction ns with
 |nil=>
  intro vs w
  rw [PU] at w
  cases w
  exact .nil
 |cons n ns ih=>
  intro vs w
  rw [ss] at w
  cases w with
  |cons a b=>
   cases a
   exact .cons _ _ (ih _ b)
theorem xD {l:OpenLaw} {n:Nat} (hn:l.most=some n) {P:QZ} {h:gl} {args:List WData} {vals:List ap}
  (vw:l.row.toRowW.claim.pre args=true) (BJ:WellAll P h vals args) :
  ∃a vs ns,vals=[mT a]/\args=[WData.list (ns.map WData.int)]/\h.get? a=some {cls:=.type "list",data:=.seq vs.toArray}/\NO vs ns/\ns.length<=n :=by
 have MC:WShape.hasAll [] args [.list .int]=true:=(pre_splitW vw).1
 have hc:l.pre.holds [] {args:=args}=true:=(pre_splitW vw).2
 obtain ⟨d,r,rfl,h1,h2⟩:=hasAllW_cons MC
 obtain rfl:=hasAllW_nil h2
 obtain ⟨xs,rfl,h3⟩:=hasW_list h1
 obtain ⟨ns,rfl⟩:=items_int h3
 have hlen:ns.length<=n :=by
  unfold OpenLaw.pre at hc
  have h4:(WTm.not (.lt (.lit (.int (n:Int))) (.len (.arg 0)))).holds [] {args:=[.list (ns.map .int)]}=true :=by
   have h4:=(holds_andW hc).1
   rw [hn] at h4
   exact h4
  have h5:=condW_of h4 (w_not (w_lt w_lit (w_len_list (w_arg rfl))))
  rw [cr] at h5
  refine PF fun q=>?_
  have q':(n:Int)<((ns.length:Nat):Int) :=by omega
  first
   |(rw [decide_eq_true q'] at h5;exact absurd h5 (by decide))
   |(simp at h5;omega)
 cases BJ with
 |cons w1 w2=>
  cases w2
  cases w1 with
  |list ho oE=>exact ⟨_,_,ns,rfl,rfl,ho,nz ns _ oE,hlen⟩
theorem xE (l:OpenLaw) (args:List WData):l.row.toRowW.claim.post args (.bool true) args=true:=
 postW_of (r:=l.row.toRowW) (X:=(true==true))
  (show WShape.has [] (.bool true) .bool=true by first|rfl|decide|simp [WShape.has,WShape.arms,WShape.armsAll])
  (show (WTm.eq .res (.lit (.bool true))).value [] {args:=args,res:=some (.bool true),after:=args}=some (.bool (true==true)) from w_eq_bool (w_res rfl) w_lit) rfl
theorem tT {l:OpenLaw} {n:Nat} {q:f8} {loose:List br} {XP:(br->Option ap)->gl->Prop} {YP:ii->gl->Prop} {d:DefRec}
  (hn:l.most=some n) (xF:d.params.defaults=[])
  (call:∀(w:ii) (s₀ az:bi) (mg mb:br->Option ap) (fa:ag) (o:i4) (pm cd doc:ap) (a:ag) (vs:List ap) (ns:List Int),
   Ground q loose [] XP w s₀ mg mb az.heap->YP w az.heap->
   az.heap.get? fa=some o->o.data=.func (docDef d.name d.params d.body d.scope pm cd doc)->az.heap.CodeRec cd d.name->mg d.name=some (.ref fa)->
   az.heap.get? a=some {cls:=.type "list",data:=.seq vs.toArray}->NO vs ns->ns.length<=n->az.gens=#[]->
   codeAny (model l.prog w) callerA (.call (.ref fa) ⟨[.ref a],[]⟩) (fun r s'=>r=.ok (.ret (.bool true))/\OldK az.heap s'.heap/\s'.os=az.os/\QR s'.gens) az) :
  WalkO q loose XP YP l.row.toRowW d [] (fun f vs=>QV f vs) :=by
 intro w s₀ az mg mb G Y fa o pm cd doc dV kV ho hd c9 hD xG hg args vals as vw Ox OD BJ OG
 obtain rfl:dV=.none:=Dflts.none hD xF
 obtain rfl:kV=.none:=Dflts.noKw hD
 obtain ⟨a,vs,ns,rfl,rfl,Ad,hints,hlen⟩:=xD hn vw BJ
 refine enter_call (Qq (call w s₀ az mg mb fa o pm cd doc a vs ns G Y ho (fd_plain hd) c9 xG Ad hints hlen hg) fun r s' hq=>?_)
 obtain ⟨rfl,h2,h3,h4⟩:=hq
 exact ⟨.inl ⟨.bool true,.bool true,[],rfl,fun _=>rfl,.bool true,xE l _,fun _=>⟨List.Pairwise.nil,fun _ hm=>(nomatch hm)⟩⟩,h2,h3,h4⟩
end J1
namespace L2
open PySem PySem.Spec PyProof.Rows
theorem pD:∀{vs:List ap} {ns:List Int},NO vs ns->Vals (ns.map V.int) vs
 |_,_,.nil=>.nil
 |_,_,.cons n t h=>.cons ⟨t,rfl⟩ (pD h)
def cA (s:nw):FS:=match s with
 | .FunctionDef _ a _ _ _ _ _ _ _ _=>a
 |_=>{posonlyargs:=[],args:=[],vararg:=none,kwonlyargs:=[],kw_defaults:=[],kwarg:=none,defaults:=[]}
def bo (s:nw):List nw:=match s with
 | .FunctionDef _ _ b _ _ _ _ _ _ _=>b
 |_=>[]
def aj (s:nw):rb:=match s with
 | .FunctionDef _ _ _ _ _ _ sc _ _ _=>sc
 |_=>{kind:=.function,names:=[],isGenerator:=false,isCoroutine:=false}
abbrev bq:fm:=fun _ _ _ _ _ _=>False
abbrev E0:XK:=fun _ _ _=>False
theorem bQ {X:Cx}:Passes bq X E0:=fun _ _ _ _ _ _ _ h=>h.elim
structure pE (K:bn) (x qual:br) (st:nw) (f:ag) (fd:l3):Prop where
 ex:∃(oc:ap) (od:Option ag) (kV doc pm:ap) (an:Option ag) (ck ct:ap) (iZ:Array (Option ap)),
  fd=wp x qual (cA st) (bo st) (aj st) .none kV doc pm an ck ct/\K.lookup f=some ⟨oc,od,.func fd,iZ⟩/\Ch K ck qual=true
 kp:xL K (.ref f)=true
section
variable {P:f8} {w:ii} {K:bn} {mg:br->Option ap} {base:gl}
theorem pE.binds {x qual:br} {st:nw} {f:ag} {fd:l3} {ps:List br} (F:pE K x qual st f fd)
  (h:∀(kV doc pm:ap) (an:Option ag) (ck ct:ap) (us:List ap),us.length=ps.length->bindArgs (wp x qual (cA st) (bo st) (aj st) .none kV doc pm an ck ct) ⟨us,[]⟩=pure (ps.zip us)):Binds K fd ps [] :=by
 obtain ⟨oc,od,kV,doc,pm,an,ck,ct,iZ,rfl,lk,c9⟩:=F.ex
 exact .all (h kV doc pm an ck ct)
theorem FC {x qual:br} {st:nw} {f:ag} {oc:ap} {od an:Option ag} {iZ:Array (Option ap)} {kV doc pm ck ct:ap} (l:K.lookup f=some ⟨oc,od,.func (wp x qual (cA st) (bo st) (aj st) .none kV doc pm an ck ct),iZ⟩)
  (c:Ch K ck qual=true) (k:xL K (.ref f)=true):pE K x qual st f (wp x qual (cA st) (bo st) (aj st) .none kV doc pm an ck ct):=⟨⟨oc,od,kV,doc,pm,an,ck,ct,iZ,rfl,l,c⟩,k⟩
end
section
variable {X:Cx}
theorem pv (i:Nat) {x:br} {pos:sB} (hN:X.N[i]?=some x :=by rfl) (hv:l0 X.env.scope x :=by first|exact nl rfl|exact Do (nl rfl)|exact Do (Do rfl)) (hd:(x==("__debug__" : br))=false :=by decide)
  (c9:(x==("__classdict__" : br))=false :=by decide):PE X (.Name x pos) (Ez i):=qX hN hv hd c9
end
end L2
set_option maxHeartbeats 4000000
namespace L2
open PySem PySem.Spec PyProof.Rows
theorem jN {env:Cc}:∀(names:List (br×LB)) (acc:List (br×ag)),(∀n,(n,mo)∈names->∃c,env.cells.lookup n=some c)->
  (∀n c,acc.lookup n=some c->env.cells.lookup n=some c)->
  ∃cl,(forIn names acc fun x r=>if (x.2==mo)=true then (do let a <- cellOf env x.1;pure (PV ((x.1,a)::r))) else pure (PV r):Op (List (br×ag)))=pure cl /\
   (∀n c,cl.lookup n=some c->env.cells.lookup n=some c)/\(∀n,(n,mo)∈names->∃c,cl.lookup n=some c)/\(∀n c,acc.lookup n=some c->∃c',cl.lookup n=some c')
 | [],acc,_,h2=>⟨acc,rfl,h2,fun n h=>by simp at h,fun n c h=>⟨c,h⟩⟩
 |(n,k)::r,acc,h1,h2=>by
          rw [List.forIn_cons]
          cases hk:(k==mo) with
          |true=>
           have ek:k=mo :=by simpa using hk
           subst ek
           obtain ⟨c,hc⟩:=h1 n i8
           have e1:cellOf env n=pure c :=by unfold cellOf;rw [hc]
           obtain ⟨cl,e,a1,a2,a3⟩:=jN r ((n,c)::acc) (fun m hm=>h1 m (gc _ hm)) (fun m c' hm=>by
            rw [xp] at hm
            cases hb:m==n with
            |true=>
             rw [hb] at hm
             have e2:m=n :=by simpa using hb
             rw [e2,hc];exact hm
            |false=>rw [hb] at hm;exact h2 m c' hm)
           refine ⟨cl,?_,a1,fun m hm=>?_,fun m c' hm=>?_⟩
           ·simp only [if_true,e1]
            exact e
           ·rcases lc.mp hm with z|z
            ·cases z
             exact a3 n c (by rw [xp];simp)
            ·exact a2 m z
           ·by_cases hb:m=n
            ·subst hb
             exact a3 m c (by rw [xp];simp)
            ·exact a3 m c' (by
              rw [xp]
              have:(m==n)=false :=by simpa using hb
              rw [this];exact hm)
          |false=>
           obtain ⟨cl,e,a1,a2,a3⟩:=jN r acc (fun m hm=>h1 m (gc _ hm)) h2
           refine ⟨cl,?_,a1,fun m hm=>?_,a3⟩
           ·simp only [l4,if_false]
            exact e
           ·rcases lc.mp hm with z|z
            ·cases z;simp at hk
            ·exact a2 m z
theorem fB {scope:rb} {env:Cc} (h:∀n,(n,mo)∈scope.names->∃c,env.cells.lookup n=some c) :
  ∃cl,closureFor scope env=pure cl/\(∀n c,cl.lookup n=some c->env.cells.lookup n=some c)/\(∀n,(n,mo)∈scope.names->∃c,cl.lookup n=some c) :=by
 obtain ⟨cl,e,a1,a2,_⟩:=jN (env:=env) scope.names [] h (fun n c hn=>by simp at hn)
 refine ⟨cl,?_,a1,a2⟩
 simp only [closureFor]
 rw [e]
 rfl
def cxBlock (X:Cx) (N':List br) (env':Cc) (A':l8) (stack':List Cc) (s:bi) (H:Hp) (ex:List ag):Cx:=
 {X with N:=N',s₀:=s,H₀:=H,env:=env',A:=A',outer:=X.stack,stack:=stack',ex:=ex,fn:=fun _=>false,pn:=[],xe:=fun _ _=>False}
theorem pF {X:Cx} {pins:List (ag×i4)} {σ aF:St} {H H':Hp} {s:bi} {N':List br} {env':Cc} {A':l8} {stack':List Cc} {ex:List ag} {h1:gl} {m0:br->Option ap} {g':Array Pe} {tk:Nat}
  (I:Inv X pins σ H s) (ly:env'.scope.kind=.function) (IP:env'.globals=X.env.globals) (Lr:env'.builtins=X.env.builtins)
  (dO:∀n c,env'.cells.lookup n=some c->X.env.cells.lookup n=some c)
  (mE:∀x,(env'.kindOf x=some .cell\/env'.kindOf x=some .free)->∃c,env'.cells.lookup x=some c)
  (hh:X.calm=true->A'.handled=none) (xH:A'.frames=some stack') (Ls:stack'=X.stack\/(stack'=env'::X.stack/\env'.frame=some env'.locals))
  (hC:s.heap.objs.size<=env'.locals) (hf:∀b∈ex,cG X pins H b) (vy:∀b∈ex,b<s.heap.objs.size)
  (xI:Un (dn X.stack) ex H H' s.heap h1) (hok:cg X.prog X.w H' h1) (rl:H' env'.locals=none) (nA:∀b o,s.heap.get? b=some o->h1.get? b=some o) (dU:h1.Ns env'.locals m0)
  (rn:∀(i:Nat) (x:br) (v:V),N'[i]?=some x->aF[i]?=some (some v)->l0 env'.scope x->(env'.kindOf x=some .cell\/env'.kindOf x=some .free)/\l0 X.env.scope x/\(X.env.kindOf x=some .cell\/X.env.kindOf x=some .free)/\∃j:Nat,X.N[j]?=some x/\σ[j]?=some (some v))
  (hlen:aF.length=N'.length) (hg:Gn s.gens.size g'):Inv (cxBlock X N' env' A' stack' s H ex) [] aF H' {s with heap:=h1,gens:=g',toks:=tk}:=by
 have xJ:∀b∈ex,∀x c,X.env.cells.lookup x=some c->c≠b:=fun b hb=>(hf b hb).2.2.2.2.1
 refine ⟨⟨I.ok.mod,ly,IP.trans I.ok.glob,Lr.trans I.ok.blt,hC,fun x y c a b=>I.ok.inj x y c (dO x c a) (dO y c b),mE,fun _ _ z=>(nomatch z),hh,xH,Ls,fun b hb=>⟨lw (kw (vy b hb) hC),fun x c e=>xJ b hb x c (dO x c e)⟩,
   I.bs,r6 I.ok.bsz I.sz,fun b o e hb=>?_,fun b hb z=>?_,I.stack,I.jr⟩,rfl,hg,xI,⟨m0,dU,fun i x v e1 e2 e3=>?_⟩,fun x c e=>?_,rl,fun x c e=>?_,fun p hp=>absurd (show p∈([]:List (ag×i4)) from hp) (by simp),hok,hlen⟩
 ·rcases (hf b hb).2.2.2.1 with z|z
  ·exact I.ok.noex b o e z
  ·exact absurd (kw (im e) (r6 I.ok.bsz z)) (AN _)
 ·rcases lc.mp (I.eL b z) with q|q
  ·exact (hf b hb).2.1 q
  ·exact (hf b hb).2.2.1 q
 ·obtain ⟨k1,vx,k2,j,n1,n2⟩:=rn i x v e1 e2 e3
  obtain ⟨m,hn,hl⟩:=I.loc
  obtain ⟨u,r,l⟩:=hl j x v n1 n2 vx
  refine ⟨u,r,.inr ⟨k1,?_⟩⟩
  obtain ⟨c',xK⟩:=mE x k1
  rcases l with ⟨kl,_⟩|⟨_,c,ec,z⟩
  ·rcases k2 with q|q <;> (rw [kl] at q;cases q)
  ·have:c'=c:=hX ((dO x c' xK).symm.trans ec)
   subst this
   exact ⟨c',xK,z.keeps nA⟩
 ·obtain ⟨v,z⟩:=I.cell x c (dO x c e)
  exact ⟨v,z.keeps nA⟩
 ·obtain ⟨v,o,ho,hd⟩:=I.cell x c (dO x c e)
  exact xI.free c o ho (I.freeC x c (dO x c e)) fun z=>xJ c z x c (dO x c e) rfl
theorem lookup_map2 {c:br->LB->LB}:∀{names:List (br×LB)} {x:br},(names.map fun (p:br×LB)=>(p.1,c p.1 p.2)).lookup x=(names.lookup x).map (c x)
 | [],x=>rfl
 |(n,k')::r,x=>by
          have ih:=@lookup_map2 c r x
          rw [ss,xp,xp]
          cases hx:x==n with
          |true=>
           have e:x=n :=by simpa using hx
           subst e
           rfl
          |false=>exact ih
theorem dW {scope:rb} {env:Cc} (x:br):(relabel scope env).names.lookup x=(scope.names.lookup x).map fun k=>if (k==.free && env.scope.kind==.function && env.kindOf x==some .cell)=true then .cell else k :=by
 have e:(relabel scope env).names=scope.names.map fun p=>(p.1,(fun n k=>if (k==mo && env.scope.kind==.function && env.kindOf n==some .cell)=true then Mn else k) p.1 p.2) :=by
  unfold relabel
  dsimp only
  congr 1
  funext p
  obtain ⟨n,k⟩:=p
  dsimp only
  split <;> rfl
 rw [e]
 exact lookup_map2 (c:=fun n k=>if (k==mo && env.scope.kind==.function && env.kindOf n==some .cell)=true then Mn else k)
def aI (N:List br) (sc scope:rb) (N':List br) (tn:Nat) (idx:List Nat):Prop:=
 scope.kind=.function/\(∀y∈scope.names,y.2≠.cell/\(y.2=.local->scope.names.lookup y.1=some .local)/\(y.2=.free->sc.names.lookup y.1=some .cell\/sc.names.lookup y.1=some .free)) /\
  N'.length=tn+idx.length/\∀p∈idx.zip (N'.drop tn),N[p.1]?=some p.2/\scope.names.lookup p.2=some .free
instance (N:List br) (sc scope:rb) (N':List br) (tn:Nat) (idx:List Nat):Decidable (aI N sc scope N' tn idx) :=by unfold aI;infer_instance
def bb (tn:Nat) (idx:List Nat) (σ:St):St:=on tn none++idx.map fun i=>(σ[i]?).join
theorem aI.at {N:List br} {sc scope:rb} {N':List br} {tn:Nat} {idx:List Nat} (B:aI N sc scope N' tn idx) {σ:St} {i:Nat} {x:br} {v:V} (h1:N'[i]?=some x) (h2:(bb tn idx σ)[i]?=some (some v)) :
  scope.names.lookup x=some .free/\∃j:Nat,N[j]?=some x/\σ[j]?=some (some v) :=by
 obtain ⟨_,_,b3,b4⟩:=B
 unfold bb at h2
 by_cases hi:i<tn
 ·rw [ol (by simpa using hi),Fa,if_pos hi] at h2
  cases h2
 ·rw [r9 (by simpa using hi),ID,ca] at h2
  cases e:idx[i - tn]? with
  |none=>rw [e] at h2;cases h2
  |some k=>
   rw [e] at h2
   have h3:(σ[k]?).join=some v:=hX h2
   have e2:(N'.drop tn)[i - tn]?=some x :=by
    rw [Qb]
    have:tn+(i - tn)=i :=by omega
    rw [this];exact h1
   have m:(k,x)∈idx.zip (N'.drop tn) :=by
    refine db (i:=i - tn) ?_
    rw [JJ]
    exact ⟨e,e2⟩
   obtain ⟨a,b⟩:=b4 _ m
   refine ⟨b,k,a,?_⟩
   cases q:σ[k]? with
   |none=>rw [q] at h3;cases h3
   |some w=>rw [q] at h3;exact congrArg some h3
theorem aI.len {N:List br} {sc scope:rb} {N':List br} {tn:Nat} {idx:List Nat} (B:aI N sc scope N' tn idx) (σ:St):(bb tn idx σ).length=N'.length :=by
 rw [B.2.2.1]
 unfold bb
 simp
section
variable {X:Cx}
def gW (X:Cx) (ifs:List dL) (tt:TT):Prop:=
 ∀(pins:List (ag×i4)) (s:bi) (σ:St) (H:Hp) (Q:Bool->Hp->Prop),Inv X pins σ H s->tt σ H Q->
  wpAny (model X.prog X.w) X.A (forIn ifs true fun c r=>if r=true then do let ok <- isTrue c X.env (eval c X.env);pure (PV ok) else pure (PV r)) (TP X pins σ Q) X.xe s
def IQ:TT:=fun _ H Q=>Q true H
theorem C7:gW X [] IQ:=fun _ _ _ H _ I h=>wpAny_tests_nil ⟨H,I,h⟩
theorem C8 {c:dL} {tc:TT} (h:PT X c tc):gW X [c] tc:=fun pins s σ H Q I q=>wpAny_tests_one (h pins s σ H Q I q)
abbrev uw (X:Cx) (N':List br) (scope:rb) (cl:List (br×ag)) (C:ag) (s:bi) (H:Hp) (fp:List ag):Cx:=cxBlock X N' (compEnvC scope cl C X.env) X.A X.stack s H fp
abbrev Blk (X:Cx) (N':List br) (scope:rb) (P:Cx->Prop):Prop:=∀(cl:List (br×ag)) (C:ag) (s:bi) (H:Hp) (fp:List ag),P (uw X N' scope cl C s H fp)
end
abbrev TB:=St->Hp->(St->Hp->Prop)->Prop
def PB (X:Cx) (b:Op Unit) (t:TB):Prop:=∀(pins:List (ag×i4)) (s:bi) (σ:St) (H:Hp) (Q:St->Hp->Prop),Inv X pins σ H s->t σ H Q->wpAny (model X.prog X.w) X.A b (fun _ s'=>∃aF H',Inv X pins aF H' s'/\Q aF H') X.xe s
def qI (J:It) (g:TG) (tt:TT) (tb:TB) (QE:St->Hp->Prop) (W:Nat->Nat->St->Hp->Prop):Prop:=∀i m τ H,W i m τ H->
 (J.stop i H/\QE τ H)\/(J.go i H/\∀x H',J.yld i H x H'->g x τ H' fun aC H2=>tt aC H2 fun b H3=>if b=true then tb aC H3 fun MD H4=>∃m',m'<m/\W (i+1) m' MD H4 else ∃m',m'<m/\W (i+1) m' aC H3)
def vz (e tg iter:dL) (ifs:List dL) (d:Nat) (it acc:ap) (env:Cc) (body:Op Unit):Op Fin:=do
 standAt iter.pos
 match <- pyNext it with
 |none=>pure (.done .next)
 |some v=>
  letOwnedTupleGo tg it v
  assign tg env v
  let mut ok:=true
  for c in ifs do
   if ok then ok <- isTrue c env (eval c env)
  if ok then body
  again (.compLoop e d it acc env)
section
variable {Y:Cx} {e tg iter:dL} {ifs:List dL} {dp:Nat} {it:ag} {acc:ap} {body:Op Unit} {fp:List ag} {bN:Nat->gl->Prop} {J:It} {g:TG} {tt:TT} {tb:TB} {QE:St->Hp->Prop} {W:Nat->Nat->St->Hp->Prop} {R:QU->bi->Prop} {pins:List (ag×i4)} {τ:St} {H:Hp} {s:bi} {m0:Nat}
structure vA (Y:Cx) (e tg iter:dL) (ifs:List dL) (dp:Nat) (acc:ap) (body:Op Unit):Prop where
 q:∀it,(Code.compLoop e dp it acc Y.env).quiet=true
 den:∀it Q E s,wpAny (model Y.prog Y.w) Y.A ((compTurn e dp it acc Y.env).onRaise (fun x=>do noteFrame x Y.env;theTreesLotGoes x)) Q E s->wpAny (model Y.prog Y.w) (Y.A.under (.compLoop e dp it acc Y.env)) ((model Y.prog Y.w).den (.compLoop e dp it acc Y.env)) Q E s
 turn:∀it,compTurn e dp it acc Y.env=vz e tg iter ifs dp it acc Y.env body
 denS:∀it Q E s,wpAny (model Y.prog Y.w) Y.A ((compStart e dp it acc Y.env).onRaise (fun x=>do noteFrame x Y.env;standAt theWindowsPlace)) Q E s->wpAny (model Y.prog Y.w) (Y.A.under (.compStart e dp it acc Y.env)) ((model Y.prog Y.w).den (.compStart e dp it acc Y.env)) Q E s
 cl:(clausesOf e)[dp]?=some ⟨tg,iter,ifs,0⟩
theorem pG (hc:Y.calm=true) (rp:∀x s,Y.xe x s->False) (C:vA Y e tg iter ifs dp acc body) (hg:PG Y tg g) (ht:gW Y ifs tt) (hb:PB Y body tb) (T:Turn Y.prog Y.w Y.K tg J fp it bN) (turn:qI J g tt tb QE W)
  (I:Inv Y pins τ H s) (st:bN 0 s.heap) (f:∀b∈fp,cG Y pins H b) (w0:W 0 m0 τ H) (hR:∀bX H' s',Inv Y pins bX H' s'->QE bX H'->R (.ok .next) s') :
  codeAny (model Y.prog Y.w) Y.A (.compLoop e dp (.ref it) acc Y.env) R s :=by
 have stat:∀{H':Hp},(∀b∈fp,H' b=none)->∀b∈fp,cG Y pins H' b:=fun hn b hb=>⟨hn b hb,(f b hb).2⟩
 refine codeAny_loop (C.q _) (fun n s'=>∃i τ H',Inv Y pins τ H' s'/\bN i s'.heap/\(∀b∈fp,H' b=none)/\W i n τ H') (fun n s hI=>?_) m0 ⟨0,τ,H,I,st,fun b hb=>(f b hb).1,w0⟩
 refine C.den _ _ _ _ (wpAny_noted ?_)
 rw [C.turn]
 unfold vz
 obtain ⟨i,τ,H3,I3,o9,xf,w3⟩:=hI
 rcases turn i n τ H3 w3 with ⟨stop,qn⟩|⟨go,step⟩
 ·refine ba (AS (ba (l9 (T.done Y rfl rfl rfl hc i pins s τ H3 (fun _ _=>False) I3 (stat xf) o9 stop) (fun r s4 ⟨hr,I4⟩=>?_) fun _ _ z=>z.elim)))
  subst hr
  exact ce (hR _ _ _ I4 qn)
 ·refine ba (AS (ba (l9 (T.item Y rfl rfl rfl hc i pins s τ H3 (fun _ _=>False) I3 (stat xf) o9 go) (fun r s4 ⟨u,hr,h4⟩=>?_) fun _ _ z=>z.elim)))
  subst hr
  refine ba (l9 h4 (fun _ s5 ⟨x,H5,I5,r5,y5,kn,xg⟩=>?_) fun _ _ z=>z.elim)
  have xh:=I5.pinned (stat xg) (T.obj _ _ kn)
  have again:∀{rq:St} {H7:Hp} {s7:bi},Inv Y (pins++jt fp s5.heap) rq H7 s7->(∃m',m'<n/\W (i+1) m' rq H7)->
    ∃m,m<n/\∃i τ H',Inv Y pins τ H' s7/\bN i s7.heap/\(∀b∈fp,H' b=none)/\W i m τ H':=fun {rq H7 s7} I7 n7=>by
   obtain ⟨m',hm,w7⟩:=n7
   refine ⟨m',hm,i+1,rq,H7,I7.eZ,T.keep _ _ _ kn fun b hb o e=>(I7.pin (b,o) (li _ (li _ (d7 hb e)))).1,fun b hb=>?_,w7⟩
   obtain ⟨o,e,d⟩:=T.obj _ _ kn b hb
   exact (I7.pin (b,o) (li _ (li _ (d7 hb e)))).2.1
  refine ba (l9 (hg _ s5 τ H5 x u _ xh r5 (step x H5 y5)) (fun _ s6 ⟨pH,H6,I6,q6⟩=>?_) fun _ _ z=>(rp _ _ z).elim)
  refine ba (l9 (ht _ s6 pH H6 _ I6 q6) (fun ok s7 ⟨H7,I7,q7⟩=>?_) fun _ _ z=>(rp _ _ z).elim)
  cases ok with
  |false=>exact ce ⟨rfl,again I7 q7⟩
  |true=>
   refine ba (l9 (hb _ s7 pH H7 _ I7 q7) (fun _ s8 ⟨OH,H8,I8,q8⟩=>?_) fun _ _ z=>(rp _ _ z).elim)
   exact ce ⟨rfl,again I8 q8⟩
theorem nB (C:vA Y e tg iter ifs dp acc body) (T:Turn Y.prog Y.w Y.K tg J fp it bN) (st:bN 0 s.heap)
  (h:codeAny (model Y.prog Y.w) Y.A (.compLoop e dp (.ref it) acc Y.env) R s):codeAny (model Y.prog Y.w) Y.A (.compStart e dp (.ref it) acc Y.env) R s :=by
 refine codeAny_of_tree (C.denS _ _ _ _ (wpAny_notedAt ?_))
 unfold compStart
 rw [C.cl]
 show wpAny _ _ (ask>>=_) _ _ s
 refine ba (PH (wpAny_ite ?_))
 split
 ·first
   |exact ba (ce (ce (Q0 rfl h)))
   |exact ce (Q0 rfl h)
 ·have h2:wpAny (model Y.prog Y.w) Y.A (pyIter (.ref it)) (fun xM s'=>codeAny (model Y.prog Y.w) Y.A (.compLoop e dp xM acc Y.env) R s') (notedBy (model Y.prog Y.w) Y.A Y.env fun x s'=>R (.error x) s') s:=T.self _ 0 _ _ _ st h
  first
   |exact ba (Po (ba (AS (ba (l9 h2 (fun xM s' h'=>ce (Q0 (C.q xM) h')) fun _ _ x=>x)))))
   |(refine ba (Po ?_);show wpAny _ _ (standAt iter.pos>>=_) _ _ s;exact ba (AS (ba (l9 h2 (fun xM s' h'=>ce (Q0 (C.q xM) h')) fun _ _ x=>x))))
end
section
variable {Y:Cx}
def nC (D:ag) (te:TE):TB:=fun τ H Q=>te τ H fun y H4=>∃ys,H4 D=some (.lst ys)/\ys.length<sizeLine/\Q τ (upd H4 D (.lst (ys++[y])))
theorem ux {elt:dL} {te:TE} {D:ag} (h:PE Y elt te):PB Y (do let _ <- call (.builtin "list.append") [.ref D,<- eval elt Y.env]) (nC D te) :=by
 intro pins s τ H Q I q
 refine ba (l9 (h pins s τ H _ I q) (fun yv s8 ⟨y,H8,I8,r8,q8⟩=>?_) fun _ _ z=>z)
 obtain ⟨ys,hD,hsz,w8⟩:=q8
 refine ba (l9 (pC (X:=Y) _ s8 τ H8 (.ref D) [y] (.ref D) [yv] (fun v H9=>v=.ao/\H9=upd H8 D (.lst (ys++[y]))) I8 rfl (.cons r8 .nil) ⟨_,ys,y,rfl,rfl,hD,hsz,rfl,rfl⟩) (fun rv s9 ⟨v9,H9,I9,_,_,e9⟩=>?_) fun _ _ z=>z)
 subst e9
 exact ce ⟨τ,_,I9,w8⟩
end
section
variable {X:Cx}
theorem compG_core {pins:List (ag×i4)} {σ:St} {H2:Hp} {s2:bi} {e tg iter:dL} {ifs:List dL} {scope:rb} {N':List br} {tn:Nat} {idx:List Nat} {g:TG} {tt:TT} {tb:ag->TB} {body:ap->Cc->Op Unit} {it:ag} {fp:List ag} {bN:Nat->gl->Prop} {J:It}
  {cl:List (br×ag)} {E:ap->bi->Prop} {RR:ap->ag->QU->bi->Prop} {Q:VK} {mk:Op ap} {O0:HO} {o0:i4}
  (FD:∀(Q:ap->bi->Prop),Q (.ref s2.heap.objs.size) {s2 with heap:=s2.heap.push o0}->wpAny (model X.prog X.w) X.A mk Q E s2) (xH:o0.isFreed=false)
  (FE:∀(H:Hp) (h1:gl),h1.get? s2.heap.objs.size=some o0->ObjOk X.prog X.w H h1 s2.heap.objs.size O0)
  (hc:X.calm=true) (B:aI X.N X.env.scope scope N' tn idx)
  (hC:∀(D:ag),Blk X N' scope fun Y=>vA Y e tg iter ifs 0 (.ref D) (body (.ref D) Y.env))
  (hg:Blk X N' scope fun Y=>PG Y tg g) (ht:Blk X N' scope fun Y=>gW Y ifs tt) (hb:∀D,Blk X N' scope fun Y=>PB Y (body (.ref D) Y.env) (tb D))
  (I:Inv X pins σ H2 s2) (T:Turn X.prog X.w X.K tg J fp it bN) (st:bN 0 s2.heap) (f2:∀b∈fp,cG X pins H2 b)
  (cI:∀n c,cl.lookup n=some c->X.env.cells.lookup n=some c) (dM:∀n,(n,mo)∈scope.names->∃c,cl.lookup n=some c)
  (hq:∀D,H2 D=none->∃W:Nat->Nat->St->Hp->Prop,(∃m,W 0 m (bb tn idx σ) (upd H2 D O0))/\qI J g tt (tb D) (fun _ H'=>Q (.ref D) H') W)
  (rA:∀D C m s' H',Inv X pins σ H' s'->cG X pins H' C->s'.heap.Ns C m->Q (.ref D) H'->RR (.ref D) C (.ok .next) s') :
  wpAny (model X.prog X.w) X.A mk (fun acc jl=>wpAny (model X.prog X.w) X.A (newFunctionEnv scope X.env.globals cl [] X.env.qual none .none (some X.env)) (fun ix mF=>
   codeAny (model X.prog X.w) X.A (.compStart e 0 (.ref it) acc {ix with scope:=relabel scope X.env}) (RR acc ix.locals) mF) E jl) E s2 :=by
 obtain ⟨b1,b2,b3,b4⟩:=id B
 refine FD _ (wpAny_newFunctionEnv (fun y hy=>(b2 y hy).1) (by intro y hy;simp at hy) (fun eG kz nE=>?_) b1)
 dsimp only at kz nE ⊢
 generalize hG:s2.heap.push o0=G at kz nE ⊢
 have FG:G.objs.size=s2.heap.objs.size+1 :=by rw [<- hG,AT]
 have BK:s2.heap.objs.size≠G.objs.size :=by rw [FG];exact lw (FF _)
 have jO:s2.heap.objs.size<=G.objs.size :=by rw [FG];exact FM _
 have below:∀b,b<s2.heap.objs.size->b≠G.objs.size:=fun b hb=>by rw [FG];exact lw (BN hb)
 have old:∀b o,s2.heap.get? b=some o->eG.get? b=some o:=fun b o e=>nE.extBut b o (below b (im e)) (ci _ (hG▸ci _ e))
 have FH:eG.get? s2.heap.objs.size=some o0:=nE.extBut _ _ BK (ci _ (hG▸i1 _ xH))
 have xN:H2 s2.heap.objs.size=none:=I.hok.fresh (c8 _)
 have rl:upd H2 s2.heap.objs.size O0 G.objs.size=none :=by rw [ae (xy BK)];exact I.hok.fresh jO
 have Ae:cg X.prog X.w (upd H2 s2.heap.objs.size O0) eG:=I.hok.laid old (c8 _) (FE _ _ FH)
 have kb:∀b∈fp,b<s2.heap.objs.size:=fun b hb=>let ⟨o,e,_⟩:=T.obj _ _ st b hb;im e
 obtain ⟨W,⟨m0,w0⟩,turn⟩:=hq s2.heap.objs.size xN
 have I1:Inv (uw X N' scope cl G.objs.size s2 H2 fp) [] (bb tn idx σ) (upd H2 s2.heap.objs.size O0) {s2 with heap:=eG,toks:=s2.toks+([]:List (br×ap)).length}:=by
  refine pF (g':=s2.gens) (m0:=fun x=>([]:List (br×ap)).reverse.lookup x) I b1 rfl rfl cI (fun x hx=>?_) (fun z=>I.ok.hd z) I.ok.frames (.inl rfl) jO f2 kb (Un.laid old (c8 _) xN) Ae rl old kz (fun i x v e1 e2 e3=>?_) (B.len σ) I.bare.self
  ·have kD:(relabel scope X.env).names.lookup x=some .cell\/(relabel scope X.env).names.lookup x=some .free:=hx
   rw [dW] at kD
   cases q:scope.names.lookup x with
   |none=>rw [q] at kD;rcases kD with z|z <;> cases z
   |some k0=>
    have hm:=rf q
    rw [q] at kD
    by_cases hk:k0=.free
    ·subst hk;exact dM x hm
    ·have nk:(k0==mo)=false :=by simpa using hk
     have nc:=(b2 _ hm).1
     simp only [AE,nk,Pm,l4,if_false] at kD
     rcases kD with z|z
     ·exact absurd (hX z) nc
     ·exact absurd (hX z) hk
  ·obtain ⟨fr,j,e4,e5⟩:=B.at e1 e2
   have kx:=(b2 _ (rf fr)).2.2 rfl
   refine ⟨?_,.inr kx,kx,j,e4,e5⟩
   show (relabel scope X.env).names.lookup x=some .cell\/(relabel scope X.env).names.lookup x=some .free
   rw [dW,fr]
   simp only [AE]
   split
   ·exact .inl rfl
   ·exact .inr rfl
 have stat:∀b∈fp,cG (uw X N' scope cl G.objs.size s2 H2 fp) [] (upd H2 s2.heap.objs.size O0) b:=fun b hb=>by
  refine ⟨by rw [ae (lw (kb b hb))];exact (f2 b hb).1,below b (kb b hb),fun z=>?_,.inl hb,fun x c e=>(f2 b hb).2.2.2.2.1 x c (cI x c e),fun p hp=>absurd (show p∈([]:List (ag×i4)) from hp) (by simp)⟩
  rcases lc.mp (I.eL b z) with q|q
  ·exact (f2 b hb).2.1 q
  ·exact (f2 b hb).2.2.1 q
 have xO:bN 0 eG:=T.keep _ _ _ st fun b _ o e=>old b o e
 refine nB (Y:=uw X N' scope cl G.objs.size s2 H2 fp) (hC _ cl G.objs.size s2 H2 fp) T xO (pG (Y:=uw X N' scope cl G.objs.size s2 H2 fp) hc (fun _ _ z=>z) (hC _ cl G.objs.size s2 H2 fp) (hg cl G.objs.size s2 H2 fp) (ht cl G.objs.size s2 H2 fp) (hb _ cl G.objs.size s2 H2 fp) T turn I1 xO stat w0 fun bX H' s' I4 qn=>?_)
 have J2:Inv X pins σ H' s':=I.qF I4.os I4.base I4.hok I4.bare fun b hb=>⟨(f2 b hb).2.2.2.1,(f2 b hb).2.1,(f2 b hb).2.2.2.2.1,(f2 b hb).2.2.2.2.2⟩
 obtain ⟨mm,hm,_⟩:=I4.loc
 exact rA _ _ mm s' H' J2 (I.oy jO I4.free) hm qn
end
section
variable {X:Cx}
def nF (J:It) (g:TG) (tt:TT) (te:TE) (D:ag) (Q:VK) (W:Nat->Nat->St->Hp->Prop):Prop:=∀i m τ H,W i m τ H->
 (J.stop i H/\Q (.ref D) H)\/(J.go i H/\∀x H',J.yld i H x H'->g x τ H' fun aC H2=>tt aC H2 fun b H3=>if b=true then te aC H3 fun y H4=>∃ys m',H4 D=some (.lst ys)/\ys.length<sizeLine/\m'<m/\W (i+1) m' aC (upd H4 D (.lst (ys++[y]))) else ∃m',m'<m/\W (i+1) m' aC H3)
def nG (tn:Nat) (idx:List Nat) (wi:TI) (g:TG) (tt:TT) (te:TE):TE:=fun σ H Q=>wi σ H fun J H1=>∀D,H1 D=none->∃W:Nat->Nat->St->Hp->Prop,(∃m,W 0 m (bb tn idx σ) (upd H1 D (.lst [])))/\nF J g tt te D Q W
theorem nH {J:It} {g:TG} {tt:TT} {te:TE} {D:ag} {Q:VK} {W:Nat->Nat->St->Hp->Prop} (h:nF J g tt te D Q W):qI J g tt (nC D te) (fun _ H=>Q (.ref D) H) W :=by
 simp only [nF,exists_and_left] at h
 exact h
theorem rB (elt tg iter:dL) (ifs:List dL) (scope:rb) (pos:sB) (it acc:ap) (env:Cc) :
  compTurn (.ListComp elt [⟨tg,iter,ifs,0⟩] scope pos) 0 it acc env=vz (.ListComp elt [⟨tg,iter,ifs,0⟩] scope pos) tg iter ifs 0 it acc env (do let _ <- call (.builtin "list.append") [acc,<- eval elt env]) :=by
 rfl
theorem pI {pins:List (ag×i4)} {σ:St} {H2:Hp} {s2:bi} {tg elt iter:dL} {ifs:List dL} {scope:rb} {pos:sB} {N':List br} {tn:Nat} {idx:List Nat} {g:TG} {tt:TT} {te:TE} {it:ag} {fp:List ag} {bN:Nat->gl->Prop} {J:It}
  {cl:List (br×ag)} {E:ap->bi->Prop} {RR:ap->ag->QU->bi->Prop} {Q:VK}
  (hc:X.calm=true) (B:aI X.N X.env.scope scope N' tn idx)
  (hg:Blk X N' scope fun Y=>PG Y tg g) (ht:Blk X N' scope fun Y=>gW Y ifs tt) (he:Blk X N' scope fun Y=>PE Y elt te)
  (I:Inv X pins σ H2 s2) (T:Turn X.prog X.w X.K tg J fp it bN) (st:bN 0 s2.heap) (f2:∀b∈fp,cG X pins H2 b)
  (cI:∀n c,cl.lookup n=some c->X.env.cells.lookup n=some c) (dM:∀n,(n,mo)∈scope.names->∃c,cl.lookup n=some c)
  (hq:∀D,H2 D=none->∃W:Nat->Nat->St->Hp->Prop,(∃m,W 0 m (bb tn idx σ) (upd H2 D (.lst [])))/\nF J g tt te D Q W)
  (rA:∀D C m s' H',Inv X pins σ H' s'->cG X pins H' C->s'.heap.Ns C m->Q (.ref D) H'->RR (.ref D) C (.ok .next) s') :
  wpAny (model X.prog X.w) X.A (newList []) (fun acc jl=>wpAny (model X.prog X.w) X.A (newFunctionEnv scope X.env.globals cl [] X.env.qual none .none (some X.env)) (fun ix mF=>
   codeAny (model X.prog X.w) X.A (.compStart (.ListComp elt [⟨tg,iter,ifs,0⟩] scope pos) 0 (.ref it) acc {ix with scope:=relabel scope X.env}) (RR acc ix.locals) mF) E jl) E s2:=
 compG_core (body:=fun acc env=>do let _ <- call (.builtin "list.append") [acc,<- eval elt env]) (tb:=fun D=>nC D te) (O0:=.lst []) (o0:={cls:=.type "list",dict:=none,data:=.seq ([]:List ap).toArray})
  (fun Q q=>tz q) rfl (fun H h1 hd=>⟨sK _,[],0,.nil,hd⟩) hc B (fun D cl C s H fp=>⟨fun _=>rfl,fun _ _ _ _ h=>h,fun _=>rB ..,fun _ _ _ _ h=>h,rfl⟩) hg ht (fun D cl C s H fp=>ux (he cl C s H fp))
  I T st f2 cI dM (fun D hD=>let ⟨W,w0,t⟩:=hq D hD;⟨W,w0,nH t⟩) rA
variable {tg elt iter:dL} {ifs:List dL} {scope:rb} {pos:sB} {N':List br} {tn:Nat} {idx:List Nat} {wi:TI} {g:TG} {tt:TT} {te:TE}
theorem cG.turn {pins:List (ag×i4)} {σ:St} {H:Hp} {s:bi} {C:ag} {h':gl} (f:cG X pins H C) (I:Inv X pins σ H s) (hs:NJ C s.heap h'):Inv X pins σ H {s with heap:=h'}:=
 I.turned (t':=s.toks) (fun b o hb e=>(hs.2 b hb).trans e) f.1 f.2.1 f.2.2.2.1 f.2.2.2.2.1 f.2.2.2.2.2
theorem me (hc:X.calm=true) (B:aI X.N X.env.scope scope N' tn idx) (hi:PI X tg iter wi)
  (hg:Blk X N' scope fun Y=>PG Y tg g) (ht:Blk X N' scope fun Y=>gW Y ifs tt) (he:Blk X N' scope fun Y=>PE Y elt te)
  (hs:∀x,foldedSetIterable iter X.env x=pure x :=by intro _;rfl):PE X (.ListComp elt [⟨tg,iter,ifs,0⟩] scope pos) (nG tn idx wi g tt te) :=by
 refine ⟨?_⟩
 intro pins s σ H Q I h
 obtain ⟨cl,gr,cI,dM⟩:=fB (scope:=scope) (env:=X.env) fun n hn=>I.ok.has n ((B.2.1 _ hn).2.2 rfl)
 rw [eval_ListComp]
 refine Ph (use:=none) rfl hs gr B.1 (fun y hy=>(B.2.1 y hy).2.1) (l9 (hi pins s σ H _ I h) (fun xv s1 h1=>l9 h1 (fun uk s2 h2=>?_) fun _ _ z=>z) fun _ _ z=>z)
 obtain ⟨it,fp,bN,J,H2,e,I2,T,nq,f2,q2⟩:=h2
 subst e
 refine pI (RR:=fun acc C=>compPost (model X.prog X.w) X.A X.xe none (EP X pins σ Q) acc C) hc B hg ht he I2 T nq f2 cI dM q2 fun D C m s' H' J2 fC hm q=>?_
 exact ⟨m,hm,fun h' pJ=>⟨.ref D,H',fC.turn J2 pJ,rfl,q⟩⟩
theorem nI {i:Nat} {y:br} {py fD:sB} (hN:X.N.Nodup) (dP:X.N[i]?=some y) (hy:X.env.scope.names.lookup y=some .local) (hc:X.calm=true) (B:aI X.N X.env.scope scope N' tn idx) (hi:PI X tg iter wi)
  (hg:Blk X N' scope fun Y=>PG Y tg g) (ht:Blk X N' scope fun Y=>gW Y ifs tt) (he:Blk X N' scope fun Y=>PE Y elt te)
  (nJ:swapsWith (.ListComp elt [⟨tg,iter,ifs,0⟩] scope pos) (some (.Name y py)) fD.line X.env=pure true :=by rfl)
  (hs:∀x,foldedSetIterable iter X.env x=pure x :=by intro _;rfl):PS X (.Assign [.Name y py] (.ListComp elt [⟨tg,iter,ifs,0⟩] scope pos) fD) (ox (nG tn idx wi g tt te) (nj i)) :=by
 refine ⟨?_⟩
 intro pins s σ H D I h
 obtain ⟨cl,gr,cI,dM⟩:=fB (scope:=scope) (env:=X.env) fun n hn=>I.ok.has n ((B.2.1 _ hn).2.2 rfl)
 rw [exec_Assign_Name_used _ _ _ _ nJ]
 refine ba (AS (ba ?_))
 show wpAny _ X.A (do let _ <- comprehension (.ListComp elt [⟨tg,iter,ifs,0⟩] scope pos) scope X.env _ (newList []) false (eval iter X.env) (some (assign (.Name y py) X.env))) _ _ s
 refine ba (l9 (Ph (use:=some (assign (.Name y py) X.env)) (Q:=fun _ s'=>SP X pins D .next s') rfl hs gr B.1 (fun y hy=>(B.2.1 y hy).2.1)
  (l9 (hi pins s σ H _ I h) (fun xv s1 h1=>l9 h1 (fun uk s2 h2=>?_) fun _ _ z=>z) fun _ _ z=>z)) (fun _ s' hq=>ce (ce hq)) fun _ _ z=>z)
 obtain ⟨it,fp,bN,J,H2,e,I2,T,nq,f2,q2⟩:=h2
 subst e
 refine pI (RR:=fun acc C=>compPost (model X.prog X.w) X.A X.xe (some (assign (.Name y py) X.env)) (fun _ s'=>SP X pins D .next s') acc C) hc B hg ht he I2 T nq f2 cI dM q2 fun E C m s' H' J2 fC hm q=>?_
 show wpAny _ X.A (assign (.Name y py) X.env (.ref E)) _ _ s'
 refine Qh (store_ok2 J2 hN dP (.inl hy) (v:=.ref E) rfl (fun s3 J3 ⟨a,uy,ha⟩=>?_) (.inr hy))
 have mh:C≠a :=by
  rcases ha with z|z
  ·rw [z];exact fC.2.1
  ·exact fun w=>fC.2.2.2.2.1 _ _ z w.symm
 exact ⟨m,hm.sameBut uy mh,fun h' pJ=>⟨_,H',fC.turn J3 pJ,q⟩⟩
end
def Tb (P:ag) (H:Hp):Prop:=∃ps,H P=some (.cz ps)/\GE ps.toList
section
variable {X:Cx} {pins:List (ag×i4)} {σ:St} {H:Hp} {s:bi} {P:ag} {ps more:Array ap} {h':gl}
theorem Inv.grown (I:Inv X pins σ H s) (hP:H P=some (.cz ps)) (k:∀b o,b≠P->s.heap.get? b=some o->h'.get? b=some o) (n:h'.get? P=some {cls:=.none,data:=.fields (ps++more)}) (t':Nat) :
  Inv X pins σ (upd H P (.cz (ps++more))) {s with heap:=h',toks:=t'}:=by
 have ne:∀b u,H b=some u->u≠.cz ps->b≠P:=fun b u e d=>vf e hP d
 have nn:∀b,H b=none->b≠P:=fun b e z=>by rw [z,hP] at e;cases e
 refine I.un ⟨fun b o e q _ _=>k b o (nn b q) e,fun b o e q _ _=>⟨o.slots,k b o (nn b q) e⟩,fun b o e q _=>by rw [ae (nn b q)];exact q,fun b o e _=>?_,fun b xs e=>by rw [ae (ne b _ e (by intro z;cases z))];exact e,
  fun b o u e=>by rw [ae (ne b _ e (by intro z;cases z))];exact e,fun b qs e=>?_⟩ fun b u e=>?_
 ·by_cases hb:b=P
  ·subst hb;exact ⟨_,n⟩
  ·exact ⟨o,k b o hb e⟩
 ·by_cases hb:b=P
  ·subst hb
   rw [hP] at e;cases e
   exact ⟨more,aA⟩
  ·exact ⟨#[],by rw [ae hb,e];simp⟩
 ·by_cases hb:b=P
  ·subst hb
   rw [aA] at e;cases e
   exact n
  ·rw [ae hb] at e
   refine (I.hok b u e).cO (fun c v hc q=>k c v ?_ q) (fun c q=>?_) fun c xs q=>?_
   ·rcases hc with z|z
    ·rw [z];exact hb
    ·exact ne c _ z (by intro w;cases w)
   ·rw [ae (ne c _ q (by intro w;cases w))];exact q
   ·rw [ae (ne c _ q (by intro w;cases w))];exact q
theorem oF {c:ag} {pos:sB} {qn:br} {scope:rb} {Q:ap->bi->Prop} {A:l8} {E:ap->bi->Prop} (I:Inv X pins σ H s) (hc:X.env.code=.ref c) (hd:qr X.base c P) (hP:H P=some (.cz ps)) (ht:GE ps.toList)
  (h:∀code fE s',GE fE.toList->Inv X pins σ (upd H P (.cz fE)) s'->(∀b o,b≠P->s.heap.get? b=some o->s'.heap.get? b=some o)->s'.gens=s.gens->Q code s'):wpAny (model X.prog X.w) A (genexprCode X.env pos qn scope) Q E s :=by
 have rC:s.heap.get? P=some (Lu ps):=I.hok P _ hP
 have iW:=hd.keeps I.bk
 have ic:=iW.code rC ht
 cases q:codeAmong pos ps.toList with
 |some c'=>
  refine wpAny_genexprCode_hit hc ic q (h c' ps s ht ?_ (fun _ _ _ e=>e) rfl)
  have e:upd H P (.cz ps)=H :=by
   funext b
   by_cases hb:b=P
   ·subst hb;rw [aA,hP]
   ·rw [ae hb]
  rw [e];exact I
 |none=>
  refine wpAny_genexprCodeX hc ic (iW.tab rC) q fun c' h' tk ex h1 h2 OI _ ta _=>?_
  obtain ⟨_,BL⟩:=ta
  have tr:GE (ps++#[rawInt pos.line,rawInt pos.col,mT c']).toList :=by
   rw [PZ]
   exact TriplesOk_snoc _ _ _ _ ht
  exact h _ _ _ tr (I.grown hP (fun b o hb e=>ex b o hb e) BL tk) (fun b o hb e=>ex b o hb e) rfl
end
def mG (s cj:bi):Prop:=cj.heap=s.heap/\cj.os=s.os/\Gn s.gens.size cj.gens
theorem Inv.mH {X:Cx} {pins:List (ag×i4)} {σ:St} {H:Hp} {s cj:bi} (I:Inv X pins σ H s) (o:mG s cj):Inv X pins σ H cj :=by
 obtain ⟨h,g,d,t,os⟩:=s
 obtain ⟨h',g',d',t',JX⟩:=cj
 obtain ⟨e1,e2,e3⟩:=o
 cases e1
 cases e2
 exact ⟨I.ok,I.os,I.bare.trans e3,I.base,I.loc,I.cell,I.free,I.freeC,I.pin,I.hok,I.len⟩
section
variable {Y:Cx} {A2:l8} {tg elt iter:dL} {ifs:List dL} {scope:rb} {pos:sB} {it:ag} {fp:List ag} {bN:Nat->gl->Prop} {J:It} {g:TG} {tt:TT} {te:TE} {pp:List (ag×i4)} {R:GenEnd} {Yp:Protocol}
def FI (J:It) (g:TG) (tt:TT) (te:TE) (stopAt:Bool) (Z:Bool->Hp->Prop) (W:Nat->Nat->St->Hp->Prop):Prop:=∀i m τ H,W i m τ H->
 (J.stop i H/\Z (!stopAt) H)\/(J.go i H/\∀x H',J.yld i H x H'->g x τ H' fun aC H2=>tt aC H2 fun b H3=>if b=true then te aC H3 fun y H4=>∃c,y=.bl c/\(if c=stopAt then Z stopAt H4 else ∃m',m'<m/\W (i+1) m' aC H4) else ∃m',m'<m/\W (i+1) m' aC H3)
theorem Af (hA:Y.A=A2.over (.compLoop (.GeneratorExp elt [⟨tg,iter,ifs,0⟩] scope pos) 0 (.ref it) .none Y.env) []) (rp:Y.xe=fun _ _=>False) (hc:Y.calm=true) (pK:Y.env.scope.isCoroutine=false)
  (T:Turn Y.prog Y.w Y.K tg J fp it bN) (hg:PG Y tg g) (ht:gW Y ifs tt) (he:PE Y elt te) (stat:∀{H':Hp},(∀b∈fp,H' b=none)->∀b∈fp,cG Y pp H' b)
  {W:Nat->Nat->St->Hp->Prop} {Z:Bool->Hp->Prop} {stopAt:Bool} (turn:FI J g tt te stopAt Z W)
  (hR:∀n s₀ az τ H,Inv Y pp τ H az->Z (!stopAt) H->R n s₀ (.ok .next) az)
  (hY:∀n s₀ s rD c τ H,Inv Y pp τ H s->(c=stopAt->Z stopAt H)->(c≠stopAt->∀cj,mG s cj->rD (.send .none) cj)->Yp n s₀ (.bool c) s rD) :
  ∀(m n i:Nat) (τ:St) (H:Hp) (s s₀:bi),m<n->W i m τ H->Inv Y pp τ H s->bN i s.heap->(∀b∈fp,H b=none)->
   Seg (model Y.prog Y.w) A2 R Yp n s₀ (.compLoop (.GeneratorExp elt [⟨tg,iter,ifs,0⟩] scope pos) 0 (.ref it) .none Y.env)
    ((model Y.prog Y.w).den (.compLoop (.GeneratorExp elt [⟨tg,iter,ifs,0⟩] scope pos) 0 (.ref it) .none Y.env)) [] s :=by
 intro m
 induction m using Nat.strongRecOn with
 |ind m ih=>
  intro n i τ H s s₀ FJ w I st fr
  show Seg _ A2 _ _ _ s₀ _ ((compTurn (.GeneratorExp elt [⟨tg,iter,ifs,0⟩] scope pos) 0 (.ref it) .none Y.env).onRaise (leaving Y.env)) [] s
  rw [compTurn_gen,Op.onRaise_eq_wrap]
  rcases turn i m τ H w with ⟨stop,qn⟩|⟨go,step⟩
  ·refine wP (AS ?_)
   have d:=T.done Y rfl rfl rfl hc i pp s τ H (fun _ _=>False) I (stat fr) st stop
   rw [hA] at d
   refine wP (l9 d (fun r s1 ⟨hr,I1⟩=>?_) fun _ _ z=>z.elim)
   subst hr
   exact seg_end (.ok .next) (hR _ _ _ _ _ I1 qn)
  ·refine wP (AS ?_)
   have d:=T.item Y rfl rfl rfl hc i pp s τ H (fun _ _=>False) I (stat fr) st go
   rw [hA] at d
   refine wP (l9 d (fun r s4 ⟨u,hr,h4⟩=>?_) fun _ _ z=>z.elim)
   subst hr
   refine wP (l9 h4 (fun _ s5 ⟨x,H5,I5,r5,y5,kn,xg⟩=>?_) fun _ _ z=>z.elim)
   have xh:=I5.pinned (stat xg) (T.obj _ _ kn)
   have back:∀{rq:St} {H7:Hp} {s7:bi},Inv Y (pp++jt fp s5.heap) rq H7 s7->bN (i+1) s7.heap/\∀b∈fp,H7 b=none:=fun {rq H7 s7} I7=>by
    refine ⟨T.keep _ _ _ kn fun b hb o e=>(I7.pin (b,o) (li _ (li _ (d7 hb e)))).1,fun b hb=>?_⟩
    obtain ⟨o,e,d⟩:=T.obj _ _ kn b hb
    exact (I7.pin (b,o) (li _ (li _ (d7 hb e)))).2.1
   have d2:=hg _ s5 τ H5 x u _ xh r5 (step x H5 y5)
   rw [hA,rp] at d2
   refine wP (l9 d2 (fun _ s6 ⟨pH,H6,I6,q6⟩=>?_) fun _ _ z=>z.elim)
   have d3:=ht _ s6 pH H6 _ I6 q6
   rw [hA,rp] at d3
   refine wP (l9 d3 (fun ok s7 ⟨H7,I7,q7⟩=>?_) fun _ _ z=>z.elim)
   have hy:∀v,yieldOut Y.env v=yieldValue v:=fun v=>by simp only [yieldOut,pK,l4,if_false]
   cases ok with
   |false=>
    simp only [l4,if_false] at q7 ⊢
    obtain ⟨m',xP,w7⟩:=q7
    exact QK rfl (ih m' xP n (i+1) pH H7 s7 s₀ (by omega) w7 I7.eZ (back I7).1 (back I7).2)
   |true=>
    simp only [if_true] at q7 ⊢
    simp only [hy]
    rw [Op.bind_eq_wrap',Op.bind_eq_wrap',Op.wrap_wrap,Op.wrap_wrap]
    have d4:=he _ s7 pH H7 _ I7 q7
    rw [hA,rp] at d4
    refine seg_wrap (l9 d4 (fun yv s8 ⟨y,H8,I8,r8,q8⟩=>?_) fun _ _ z=>z.elim)
    obtain ⟨c,ey,q8⟩:=q8
    subst ey
    cases (show yv=QX c from r8)
    obtain ⟨n,rfl⟩:∃n',n=n'+1:=⟨n - 1,by omega⟩
    refine seg_at (seg_yield rfl rfl rfl (hY _ _ _ _ c pH H8 I8.eZ (fun e=>by rw [if_pos e] at q8;exact q8) fun e cj ok=>?_))
    rw [if_neg e] at q8
    obtain ⟨m',xP,w8⟩:=q8
    have I9:=I8.mH ok
    exact QK rfl (ih m' xP n (i+1) pH H8 cj cj (by omega) w8 I9.eZ (back I9).1 (back I9).2)
end
abbrev du (elt tg iter:dL) (ifs:List dL) (scope:rb) (pos:sB):dL:=.GeneratorExp elt [⟨tg,iter,ifs,0⟩] scope pos
abbrev FK (X:Cx) (N':List br) (scope:rb) (cl:List (br×ag)) (C:ag) (code:ap) (A':l8) (s:bi) (H:Hp) (fp:List ag):Cx:=
 cxBlock X N' (genEnv scope cl C code builtinsNs X.env) A' (genEnv scope cl C code builtinsNs X.env::X.stack) s H fp
abbrev mI (X:Cx) (N':List br) (scope:rb) (k:Nat) (P:Cx->Prop):Prop:=∀(cl:List (br×ag)) (C:ag) (code:ap) (A':l8) (s:bi) (H:Hp) (fp:List ag),bF k A'->P (FK X N' scope cl C code A' s H fp)
structure Lv (X:Cx) (pins:List (ag×i4)) (σ:St) (N':List br) (scope:rb) (tn:Nat) (idx:List Nat) (k:Nat) (elt tg iter:dL) (ifs:List dL) (pos:sB) (J:It) (H3:Hp) (a:ag) (s5:bi)
  (Y:Cx) (it:ag) (fp:List ag) (bN:Nat->gl->Prop) (g:Nat) (pp:List (ag×i4)):Prop where
 inv:Inv Y pp (bb tn idx σ) H3 s5
 isg:∀{τ:St} {H':Hp} {s':bi},Inv Y pp τ H' s'->s'.heap.IsGen a g
 st:s5.gens[g]?=some (.fresh (.compStart (du elt tg iter ifs scope pos) 0 (.ref it) .none Y.env))
 T:Turn Y.prog Y.w Y.K tg J fp it bN
 tn0:bN 0 s5.heap
 fr:∀b∈fp,H3 b=none
 stat:∀{H':Hp},(∀b∈fp,H' b=none)->∀b∈fp,cG Y pp H' b
 out:∀{τ:St} {H':Hp} {s':bi},Inv Y pp τ H' s'->Inv X pins σ H' s'
 A:Y.A=X.A.in4.in1.over (.compLoop (du elt tg iter ifs scope pos) 0 (.ref it) .none Y.env) []
 xe:Y.xe=fun _ _=>False
 calm:Y.calm=true
 co:Y.env.scope.isCoroutine=false
 gsz:∀{τ:St} {H':Hp} {s':bi},Inv Y pp τ H' s'->g<s'.gens.size
 blk:∀P:Cx->Prop,mI X N' scope k P->P Y
 prog:Y.prog=X.prog
 w:Y.w=X.w
section
variable {X:Cx} {tg elt iter:dL} {ifs:List dL} {scope:rb} {pos:sB} {N':List br} {tn:Nat} {idx:List Nat} {wi:TI} {g:TG} {tt:TT} {te:TE} {c P:ag} {k:Nat}
def FL (P:ag) (wi:TI) (R:It->Hp->Prop):St->Hp->Prop:=fun σ H=>wi σ H fun J H1=>Tb P H1/\∀ps,GE ps.toList->R J (upd H1 P (.cz ps))
theorem Ag {pins:List (ag×i4)} {s:bi} {σ:St} {H:Hp} {QQ:ap->bi->Prop} {R:It->Hp->Prop} (hr:bF (k+1) X.A) (hc:X.calm=true) (B:aI X.N X.env.scope scope N' tn idx)
  (h0:scope.names.lookup (".0" : br)=some .local) (pK:scope.isCoroutine=false) (eU:X.env.code=.ref c) (hd:qr X.base c P) (cV:∃bm ob,P5 X.base mainGlobals X.mg bm ob)
  (hi:PI X tg iter wi) (hs:∀x,genFold iter X.env x=pure x) (I:Inv X pins σ H s) (h:FL P wi R σ H)
  (q:∀J H3 a s5 Y it fp bN gn pp,Lv X pins σ N' scope tn idx k elt tg iter ifs pos J H3 a s5 Y it fp bN gn pp->R J H3->QQ (.ref a) s5) :
  wpAny (model X.prog X.w) X.A (eval (du elt tg iter ifs scope pos) X.env) QQ X.xe s :=by
 obtain ⟨cl,gr,cI,dM⟩:=fB (scope:=scope) (env:=X.env) fun n hn=>I.ok.has n ((B.2.1 _ hn).2.2 rfl)
 refine wpAny_GeneratorExp_make pK gr (fun y hy=>(B.2.1 y hy).1) h0 B.1 hr.depth (thn (hi pins s σ H _ I h) fun xv s1 h1=>thn h1 fun uk s2 h2=>?_) hs
 obtain ⟨it,fp,bN,J,H2,e,I2,T,nq,f2,⟨ps,hP,rE⟩,q2⟩:=h2
 subst e
 refine ⟨I2.nolimit,oF I2 eU hd hP rE fun code fE s3 ME I3 kp OJ=>?_⟩
 obtain ⟨bm,ob,bmod⟩:=cV
 have fq:=bmod.keeps I3.bk
 refine wpAny_builtinsFor (by rw [I3.ok.glob];exact fq.ns) fq.name fq.ne fq.obj fq.cls fq.dict fq.data ?_
 intro h' wX pJ
 have J4:∀b∈fp,b≠P:=fun b hb z=>by have:=(f2 b hb).1;rw [z,hP] at this;cases this
 have o9:bN 0 s3.heap:=T.keep _ _ _ nq fun b hb o e=>kp b o (J4 b hb) e
 have kb:∀b∈fp,b<s3.heap.objs.size:=fun b hb=>let ⟨o,e,_⟩:=T.obj _ _ o9 b hb;im e
 have f3:∀b∈fp,cG X pins (upd H2 P (.cz fE)) b:=fun b hb=>⟨by rw [ae (J4 b hb)];exact (f2 b hb).1,(f2 b hb).2⟩
 have hsz:h'.objs.size=s3.heap.objs.size+1 :=by rw [pJ.1,AT]
 have IU:∀b o,s3.heap.get? b=some o->h'.get? b=some o:=fun b o e=>pJ.extBut b o (lw (im e)) (ci _ e)
 have J5:Gn s3.gens.size (s3.gens.push (.fresh (.compStart (du elt tg iter ifs scope pos) 0 (.ref it) .none (genEnv scope cl s3.heap.objs.size code builtinsNs X.env)))):=⟨QR.push I3.bare.1 rfl,by rw [Array.size_push];exact FM _⟩
 have J6:Inv X pins σ (upd H2 P (.cz fE)) {s3 with gens:=s3.gens.push (.fresh (.compStart (du elt tg iter ifs scope pos) 0 (.ref it) .none (genEnv scope cl s3.heap.objs.size code builtinsNs X.env)))}:=I3.mH ⟨rfl,rfl,J5⟩
 have hA:(X.A.in4.in1.over (.compLoop (du elt tg iter ifs scope pos) 0 (.ref it) .none (genEnv scope cl s3.heap.objs.size code builtinsNs X.env)) []).frames=some (genEnv scope cl s3.heap.objs.size code builtinsNs X.env::X.stack) :=by
  show pushEnvs [_] (pushEnvs [] X.A.frames)=_
  rw [I.ok.frames];rfl
 have IV:bF k (X.A.in4.in1.over (.compLoop (du elt tg iter ifs scope pos) 0 (.ref it) .none (genEnv scope cl s3.heap.objs.size code builtinsNs X.env)) []) :=by
  refine ⟨hr.hd,?_,?_⟩
  ·show X.A.depth+0+1+3 * k+5<recursionLimit
   have:=hr.dp
   omega
  ·show X.A.units+1+1+1+1+1+0+3+16 * k+200<cLine
   have:=hr.un
   omega
 generalize rF:({cls:=.type "generator",data:=.fields #[.int s3.gens.size 0,.str "<genexpr>" (s3.toks+1),.str (X.env.qual ++ "<genexpr>") (s3.toks+1+1)]}:i4)=mi
 have qJ:∀b o,s3.heap.get? b=some o->(h'.push mi).get? b=some o:=fun b o e=>ci _ (IU b o e)
 have Lw:mi.isFreed=false :=by rw [<- rF];rfl
 have MF:(h'.push mi).get? h'.objs.size=some mi:=i1 _ Lw
 have MG:h'.objs.size≠s3.heap.objs.size :=by rw [hsz];exact Nat.succ_ne_self _
 have MH:upd H2 P (.cz fE) h'.objs.size=none:=I3.hok.fresh (by rw [hsz];exact FM _)
 have I5:=pF (X:=X) (N':=N') (A':=X.A.in4.in1.over (.compLoop (du elt tg iter ifs scope pos) 0 (.ref it) .none (genEnv scope cl s3.heap.objs.size code builtinsNs X.env)) []) (env':=genEnv scope cl s3.heap.objs.size code builtinsNs X.env) (stack':=genEnv scope cl s3.heap.objs.size code builtinsNs X.env::X.stack) (ex:=fp) (h1:=h'.push mi) (m0:=fun y=>if y = ".0" then some (.ref it) else none)
  (g':=s3.gens.push (.fresh (.compStart (du elt tg iter ifs scope pos) 0 (.ref it) .none (genEnv scope cl s3.heap.objs.size code builtinsNs X.env)))) (tk:=s3.toks+1+1+1) (aF:=bb tn idx σ) J6 B.1 rfl I3.ok.blt.symm cI (fun x hx=>by
   have kD:scope.names.lookup x=some .cell\/scope.names.lookup x=some .free:=hx
   rcases kD with z|z
   ·exact absurd rfl ((B.2.1 _ (rf z)).1)
   ·exact dM x (rf z)) (fun z=>I.ok.hd z) hA (.inr ⟨rfl,rfl⟩) (c8 _) f3 kb (Un.kept qJ) (I3.hok.kept qJ) (I3.hok.fresh (c8 _)) qJ (wX.push _) (fun i x v e1 e2 e3=>by
   obtain ⟨fr,j,e4,e5⟩:=B.at e1 e2
   have kx:=(B.2.1 _ (rf fr)).2.2 rfl
   exact ⟨.inr fr,.inr kx,kx,j,e4,e5⟩) (B.len σ) (Gn.self J5)
 have MI:h'.objs.size ∉ dn X.stack:=fun z=>by
  rcases lc.mp (I3.eL _ z) with q|q
  ·exact Qp (kw I3.lt (by rw [hsz];exact FM _)) q
  ·exact I3.Es (by rw [hsz];exact FM _) q
 have qG:∀v,mi.data≠.cell v :=by rw [<- rF];intro v z;cases z
 have I6:=I5.ow (pins':=[(h'.objs.size,mi)]) (fun p hp=>by
  rcases mf.mp hp with rfl
  exact ⟨MF,MH,MG,MI,qG⟩)
 refine q J _ _ _ (FK X N' scope cl s3.heap.objs.size code _ _ _ fp) it fp bN s3.gens.size [(h'.objs.size,mi)] ⟨I6,fun {τ H' s'} J'=>?_,?_,T,T.keep _ _ _ o9 fun b _ o e=>qJ b o e,fun b hb=>(f3 b hb).1,fun {H'} hn b hb=>?_,fun {τ H' s'} J'=>?_,rfl,rfl,hc,pK,fun {τ H' s'} J'=>?_,fun Pp hb=>hb cl _ code _ _ _ fp IV,rfl,rfl⟩ (q2 fE ME)
 ·have:=(J'.pin (h'.objs.size,mi) (li _ (mf.mpr rfl))).1
  exact ⟨mi,_,_,this,by rw [<- rF],by rw [<- rF],by rw [<- rF]⟩
 ·exact Array.getElem?_push_size ..
 ·refine ⟨hn b hb,lw (kb b hb),fun z=>?_,.inl hb,fun x c e=>(f2 b hb).2.2.2.2.1 x c (cI x c e),fun p hp z=>?_⟩
  ·rcases lc.mp (I2.eL b z) with q|q
   ·exact (f2 b hb).2.1 q
   ·exact (f2 b hb).2.2.1 q
  ·rcases mf.mp hp with rfl
   have z':h'.objs.size=b:=z
   have:=kb b hb
   rw [<- z',hsz] at this
   exact absurd this (QY.mpr (FM _))
 ·exact J6.qF J'.os J'.base J'.hok J'.bare fun b hb=>⟨(f3 b hb).2.2.2.1,(f3 b hb).2.1,(f3 b hb).2.2.2.2.1,(f3 b hb).2.2.2.2.2⟩
 ·have:=J'.bare.2
  have e:(FK X N' scope cl s3.heap.objs.size code (X.A.in4.in1.over (.compLoop (du elt tg iter ifs scope pos) 0 (.ref it) .none (genEnv scope cl s3.heap.objs.size code builtinsNs X.env)) []) {s3 with gens:=s3.gens.push (.fresh (.compStart (du elt tg iter ifs scope pos) 0 (.ref it) .none (genEnv scope cl s3.heap.objs.size code builtinsNs X.env)))} (upd H2 P (.cz fE)) fp).s₀.gens.size=s3.gens.size+1 :=by
   show (s3.gens.push _).size=_
   rw [Array.size_push]
  rw [e] at this
  omega
theorem Ah {prog:f8} {w:ii} {A:l8} {a:ag} {R':QU->bi->Prop} (In:Nat->bi->Prop)
  (turn:∀n s,In n s->wpAny (model prog w) A.in1 (pyNext (.ref a)) (fun r s1=>match r with
   |none=>R' (.ok (.ret (.bool true))) s1
   |some v=>∃c,v=.bool c/\if c=true then ∃m,m<n/\In m s1 else R' (.ok (.ret (.bool false))) s1) (fun e s'=>R' (.error e) s') s) :
  ∀(n:Nat) (s:bi),In n s->codeAny (model prog w) A (.builtin "all.loop" ⟨[.ref a],[]⟩) R' s :=by
 intro n
 induction n using Nat.strongRecOn with
 |ind n ih=>
  intro s h
  refine O6 F.entry_all_loop ?_
  rw [KB Qt _]
  show wpAny _ A.in1 (pyNext (.ref a)>>=_) _ _ s
  refine ba (l9 (turn n s h) (fun r s1 q=>?_) fun _ _ z=>z)
  cases r with
  |none=>exact ba (Po (ce q))
  |some v=>
   obtain ⟨c,e,q⟩:=q
   subst e
   refine ba (IS (wE ?_))
   refine ba (wpAny_letGo ?_)
   cases c with
   |true=>
    simp only [if_true] at q ⊢
    obtain ⟨m,hm,hI⟩:=q
    exact ce ⟨Pz Qt _,ih m hm s1 hI⟩
   |false=>
    simp only [l4,if_false] at q ⊢
    exact ba (Po (ce q))
theorem kG {s:bi} {g:Nat} {x:Pe} {n:Nat} (h:Gn n s.gens) (hx:x.bare=true):Gn s.gens.size (s.setGen g x).gens :=by
 refine ⟨fun y hy=>?_,?_⟩
 ·have Fw:y∈s.gens.setIfInBounds g x:=hy
  rcases Array.mem_or_eq_of_mem_setIfInBounds Fw with z|z
  ·exact h.1 y z
  ·rw [z];exact hx
 ·show s.gens.size<=(s.gens.setIfInBounds g x).size
  rw [Array.size_setIfInBounds]
  exact c8 _
theorem xQ {s:bi} {g:Nat} {x:Pe} (h:g<s.gens.size):(s.setGen g x).gens[g]?=some x :=by
 show (s.gens.setIfInBounds g x)[g]?=_
 rw [Array.getElem?_setIfInBounds_self]
 simp [h]
theorem xR {Y:Cx} {A2:l8} {R:GenEnd} {Yp:Protocol} {n:Nat} {s₀ s:bi} {it:ag} {J:It} {fp:List ag} {bN:Nat->gl->Prop} (T:Turn Y.prog Y.w Y.K tg J fp it bN) {i:Nat} (st:bN i s.heap)
  (loop:Seg (model Y.prog Y.w) A2 R Yp n s₀ (.compLoop (du elt tg iter ifs scope pos) 0 (.ref it) .none Y.env) ((model Y.prog Y.w).den (.compLoop (du elt tg iter ifs scope pos) 0 (.ref it) .none Y.env)) [] s) :
  Seg (model Y.prog Y.w) A2 R Yp n s₀ (.compStart (du elt tg iter ifs scope pos) 0 (.ref it) .none Y.env) ((model Y.prog Y.w).den (.compStart (du elt tg iter ifs scope pos) 0 (.ref it) .none Y.env)) [] s :=by
 show Seg _ A2 _ _ _ s₀ _ ((compStart (du elt tg iter ifs scope pos) 0 (.ref it) .none Y.env).onRaise (leaving Y.env)) [] s
 unfold compStart
 rw [Op.onRaise_eq_wrap]
 show Seg _ A2 _ _ _ s₀ _ ((ask>>=_).wrap _ _ _ _) [] s
 refine wP (PH ?_)
 split
 ·exact QK rfl loop
 ·first
   |exact wP (Po (wP (AS (wP (T.self _ i s _ _ st (QK rfl loop))))))
   |(refine wP (Po ?_);show Seg _ A2 _ _ _ s₀ _ ((standAt iter.pos>>=_).wrap _ _ _ _) [] s;exact wP (AS (wP (T.self _ i s _ _ st (QK rfl loop)))))
def FN (P:ag) (tn:Nat) (idx:List Nat) (wi:TI) (g:TG) (tt:TT) (te:TE):TE:=fun σ H Q=>FL P wi (fun J H1=>∃W:Nat->Nat->St->Hp->Prop,(∃m,W 0 m (bb tn idx σ) H1)/\FI J g tt te false (fun b H2=>Q (.bl b) H2) W) σ H
theorem FO {p rG:sB} (hr:bF (k+1) X.A) (hc:X.calm=true) (B:aI X.N X.env.scope scope N' tn idx)
  (h0:scope.names.lookup (".0" : br)=some .local) (pK:scope.isCoroutine=false) (eU:X.env.code=.ref c) (hd:qr X.base c P) (cV:∃bm ob,P5 X.base mainGlobals X.mg bm ob)
  (FP:Gl X "all") (hm:X.mg "all" = none) (hi:PI X tg iter wi) (hg:mI X N' scope k fun Y=>PG Y tg g) (ht:mI X N' scope k fun Y=>gW Y ifs tt) (he:mI X N' scope k fun Y=>PE Y elt te)
  (hs:∀x,genFold iter X.env x=pure x :=by intro _;rfl):PE X (.Call (.Name "all" p) [du elt tg iter ifs scope rG] [] pos) (FN P tn idx wi g tt te) :=by
 refine ⟨?_⟩
 intro pins s σ H Q I h
 refine Cf (ir I FP hm PyProof.Rows.boot_all ?_)
 refine PyProof.Rows.callWith_builtin1 ?_ rfl rfl
 show wpAny _ _ (spliced ((false,eval (du elt tg iter ifs scope rG) X.env)::[])) _ _ s
 refine Pf (Ag hr hc B h0 pK eU hd cV hi hs I h ?_)
 intro J H3 a s5 Y it fp bN gn pp G ⟨W,⟨m0,w0⟩,turn⟩
 refine Pq ?_
 refine call_function_tree F.kind_all F.plain_all F.entry_all (F.args_all1 _) ?_
 unfold uu.«all»
 refine ba (m:=oneArg "all" _) (ce ?_)
 refine ba (wpAny_pyIter_gen (G.isg G.inv) ?_)
 refine ce ⟨Pz Qt _,?_⟩
 have FQ:=Af (A2:=X.A.in4.in1) (pp:=pp) (R:=fun n s₀ r az=>r=.ok .next/\∃τ H,Inv Y pp τ H az/\Q (.bl true) H)
  (Yp:=fun n s₀ v s rD=>∃c τ H,v=.bool c/\Inv Y pp τ H s/\(c=false->Q (.bl false) H)/\(c≠false->∀cj,mG s cj->rD (.send .none) cj)) G.A G.xe G.calm G.co G.T (G.blk _ hg) (G.blk _ ht) (G.blk _ he) G.stat turn
  (fun n s₀ az τ H J z=>⟨rfl,τ,H,J,z⟩) (fun n s₀ s rD c τ H J z1 z2=>⟨c,τ,H,rfl,J,z1,z2⟩)
 have hP:=G.prog
 have hW:=G.w
 rw [hP,hW] at FQ
 refine Ah (A:=X.A) (fun n s=>(∃τ H,Inv Y pp τ H s)/\∃gs,s.gens[gn]?=some gs/\∀cj,mG s cj->gs.Goes (model X.prog X.w) X.A.in4.in1 (fun n s₀ r az=>r=.ok .next/\∃τ H,Inv Y pp τ H az/\Q (.bl true) H)
  (fun n s₀ v s rD=>∃c τ H,v=.bool c/\Inv Y pp τ H s/\(c=false->Q (.bl false) H)/\(c≠false->∀cj,mG s cj->rD (.send .none) cj)) n (.send .none) cj) ?_ (m0+1) s5 ?_
 ·rintro n s6 ⟨⟨τ,H6,I6⟩,gs,MJ,rF⟩
  have Oy:=G.gsz I6
  refine wpAny_of_in1 (wpAny_of_in1 (wpAny_of_in1 ?_))
  show wpAny (model X.prog X.w) X.A.in4 (pyNext (.ref a)) _ _ s6
  refine wpAny_pyNext_genexpQ (A:=X.A.in4) (P:=fun n s₀ az=>∃τ H,Inv Y pp τ H az/\Q (.bl true) H) hr.hd I6.nolimit hr.depth (G.isg I6) MJ (rF _ ⟨rfl,rfl,kG I6.bare rfl⟩) (fun v s1 J7 hb hv=>?_) (fun s1 hp h' hk=>?_)
  ·obtain ⟨c,J8,H1,e,I1,z1,z2⟩:=hv
   subst e
   refine ⟨c,rfl,?_⟩
   have xS:mG s1 (s1.setGen gn J7):=⟨rfl,rfl,kG I1.bare hb⟩
   cases c with
   |false=>
    rw [if_neg ge]
    exact ⟨.bl false,H1,G.out (I1.mH xS),rfl,z1 rfl⟩
   |true=>
    rw [if_pos rfl]
    have z3:=z2 (by decide)
    cases n with
    |zero=>exact (z3 s1 ⟨rfl,rfl,I1.bare.self⟩).elim
    |succ m=>
     refine ⟨m,FF _,⟨J8,H1,I1.mH xS⟩,J7,xQ (G.gsz I1),fun cj o=>z3 cj ⟨o.1,o.2.1,?_⟩⟩
     exact xS.2.2.trans o.2.2
  ·obtain ⟨J8,H1,I1,z1⟩:=hp
   have I2:=I1.kept (t':=s1.toks) hk
   have MK:mG {s1 with heap:=h'} {s1.setGen gn .finished with heap:=h'}:=⟨rfl,rfl,kG (s:=s1) I1.bare rfl⟩
   exact ⟨.bl true,H1,G.out (I2.mH MK),rfl,z1⟩
 ·refine ⟨⟨_,_,G.inv⟩,_,G.st,fun cj o=>⟨rfl,?_⟩⟩
  have I7:=G.inv.mH o
  have J9:bN 0 cj.heap :=by rw [o.1];exact G.tn0
  have q:=xR (iter:=iter) (ifs:=ifs) (scope:=scope) (pos:=rG) (elt:=elt) G.T J9 (by rw [hP,hW];exact FQ m0 (m0+1) 0 _ _ cj cj (FF _) w0 I7 J9 G.fr)
  rw [hP,hW] at q
  exact q
end
section
variable {X:Cx} {tg l:dL} {tl:TE}
theorem bY {xs:List V} {us:List ap} (r:Vals xs us) {j:Nat} (h:j<us.toArray.size):RelV (xs.getD j .ao) us.toArray[j] :=by
 have hl:=r.length
 have hj:j<xs.length :=by simpa [hl] using h
 obtain ⟨u,e,q⟩:=r.get (i:=j) (x:=xs[j]) (al hj)
 have e2:us.toArray[j]=u :=by
  rw [bv] at e
  obtain ⟨h',e⟩:=e
  simpa using e
 rw [e2,cb,al hj]
 exact q
theorem tU:c7 X (.builtin "isinstance") (fun xs H Q=>∃x T t b,xs=[x,.ty T]/\e6 X.K H x t/\P4 X.K t (.type T)=some b/\Q (.bl b) H) :=by
 intro pins s σ H xs us Q I r h
 obtain ⟨x,T,t,b,rfl,ty,e,q⟩:=h
 obtain ⟨u,w',rfl,r1,r2⟩:=vals2 r
 cases (show w'=IT T from r2)
 exact xn I r1 ty e fun tk=>⟨.bl b,H,I.tok tk,rfl,q⟩
theorem mj:∀{xs:List V} {us:List ap},xs.length=us.length->(∀(i:Nat) (v:V),xs[i]?=some v->∃u,us[i]?=some u/\RelV v u)->Vals xs us
 | [],[],_,_=>.nil
 | [],_::_,h,_=>by simp at h
 |_::_,[],h,_=>by simp at h
 |x::xs,u::us,h,g=>by
          obtain ⟨u',e,r⟩:=g 0 x rfl
          have e':u=u':=by simpa using e
          subst e'
          exact .cons r (mj (by simpa using h) fun i v hv=>by
           obtain ⟨w,e2,r2⟩:=g (i+1) v (by simpa using hv)
           exact ⟨w,by simpa using e2,r2⟩)
theorem rH {e:dL} {te:TE} {p p1 p2 pos:sB} (hc:X.calm=true) (hg:Gl X "list") (hm:X.mg "list" = none) (FR:Gl X "range") (FT:X.mg "range" = none) (he:PE X e te) (hs:starEach [e] X.env=[(false,eval e X.env)] :=by rfl) :
  PE X (.Call (.Name "list" p) [.Call (.Name "range" p1) [e] [] p2] [] pos) (fun σ H Q=>te σ H fun x H1=>∃j:Int,x=.int j /\ -(2 ^ 24)<=j/\j<=2 ^ 24/\∀l,H1 l=none->Q (.ref l) (upd H1 l (.lst ((io j.toNat).map fun i=>V.int (i:Nat))))) :=by
 refine ⟨?_⟩
 intro pins s σ H Q I h
 refine Cf (ir I hg hm (by decide +kernel:bootBuiltins "list" = some (.type "list")) ?_)
 refine Go ?_ rfl rfl
 show wpAny _ _ (spliced ((false,eval (.Call (.Name "range" p1) [e] [] p2) X.env)::[])) _ _ s
 refine Pf ?_
 refine Call_ (ir I FR FT boot_range (Go ?_ hs rfl))
 rw [hs]
 refine Pf (thn (he pins s σ H _ I h) fun v s1 ⟨x,H1,I1,r1,q1⟩=>Pq ?_)
 obtain ⟨j,rfl,b1,b2,q⟩:=q1
 obtain ⟨t,rfl⟩:=r1
 refine call_range_1 ?_
 refine Pq ?_
 refine call_list_range (n:=j.toNat) (I1.ok.hd hc) (IsRange.new ..) (small_one (by omega) (by omega) (by omega) (by omega)) (by rw [PyProof.Rows.rangeSize_nat];simp) (by omega) fun h' tk gQ c' hk hS hit=>?_
 have I2:Inv X pins σ H1 {s1 with heap:=s1.heap.push {cls:=.type "range",data:=.fields #[.int 0 s1.toks,.int j t,.int 1 (s1.toks+1)]},toks:=s1.toks+1+1}:=I1.kept fun b o e=>ci _ e
 obtain ⟨hsz,nK⟩:=hit
 have rv:Vals ((io j.toNat).map fun i=>V.int (i:Nat)) gQ.toList :=by
  refine mj (by simpa using hsz.symm) fun i v e=>?_
  rw [ca] at e
  cases q2:(io j.toNat)[i]? with
  |none=>rw [q2] at e;cases e
  |some k=>
   rw [q2] at e
   have ek:k=i :=by
    obtain ⟨_,e3⟩:=bv.mp q2
    simpa using e3.symm
   have hi:i<gQ.size :=by
    have:=(bv.mp q2).1
    rw [Pr] at this
    omega
   obtain ⟨t2,e4⟩:=nK i gQ[i] (by simp [hi])
   refine ⟨gQ[i],by simp [hi],?_⟩
   rw [e4]
   have e5:v=V.int (k:Nat):=(hX e).symm
   rw [e5,ek]
   exact ⟨t2,by simp⟩
 have ob:ObjOk X.prog X.w (upd H1 (s1.heap.push {cls:=.type "range",data:=.fields #[.int 0 s1.toks,.int j t,.int 1 (s1.toks+1)]}).objs.size (.lst ((io j.toNat).map fun i=>V.int (i:Nat)))) h' (s1.heap.push {cls:=.type "range",data:=.fields #[.int 0 s1.toks,.int j t,.int 1 (s1.toks+1)]}).objs.size (.lst ((io j.toNat).map fun i=>V.int (i:Nat))) :=by
  refine ⟨?_,gQ.toList,c',rv,by simpa using hS⟩
  rw [cr,Pr]
  exact r6 (show j.toNat<=2 ^ 24 by omega) (by decide)
 exact ⟨.ref _,_,I2.laid (t':=tk) hk (c8 _) ob,rfl,q _ (I2.hok.fresh (c8 _))⟩
end
theorem FU:bootBuiltins "int" = some (.type "int") :=by decide +kernel
theorem uz:bootBuiltins "bool" = some (.type "bool") :=by decide +kernel
theorem fZ:bootBuiltins "tuple" = some (.type "tuple") :=by decide +kernel
theorem nL:bootBuiltins "min" = some (.builtin "min") :=by decide +kernel
theorem FV:bootBuiltins "max" = some (.builtin "max") :=by decide +kernel
theorem FW:bootBuiltins "abs" = some (.builtin "abs") :=by decide +kernel
theorem dC:bootBuiltins "isinstance" = some (.builtin "isinstance") :=by decide +kernel
structure Bl (mg:br->Option ap):Prop where
 len_:mg "len" = none
 range_:mg "range" = none
 min_:mg "min" = none
 max_:mg "max" = none
 abs_:mg "abs" = none
 list_:mg "list" = none
 tuple_:mg "tuple" = none
 int_:mg "int" = none
 str_:mg "str" = none
 bool_:mg "bool" = none
 isinstance_:mg "isinstance" = none
 all_:mg "all" = none
 set_:mg "set" = none
 sorted_:mg "sorted" = none
 zip_:mg "zip" = none
 enumerate_:mg "enumerate" = none
 sum_:mg "sum" = none
 reversed_:mg "reversed" = none
 divmod_:mg "divmod" = none
 any_:mg "any" = none
 ValueError_:mg "ValueError" = none
structure Df (K:bn) (mg:br->Option ap) (x:br) (st:nw) (ps:List br) (f:ag) (fd:l3):Prop where
 fn:pE K x x st f fd
 bd:Binds K fd ps []
 mg:mg x=some (.ref f)
structure xT (base:gl) (fd:l3) (c P:ag):Prop where
 code:fd.code=.ref c
 hd:qr base c P
section
variable {P:f8} {w:ii} {K:bn} {mg:br->Option ap} {base:gl}
theorem pE.ML {x qual:br} {st:nw} {f:ag} {fd:l3} {N ps:List br} {k:Nat} {sp:Sp} (F:pE K x qual st f fd) (S:aT N ps (aj st)) (len:∀vs H Q E,sp vs H Q E->vs.length=ps.length)
  (jL:∀(A:l8) (outer:List Cc) (s:bi) (H:Hp) (vs:List V) (Q:VK) (E:XK),bF k (A.deeper (envOfC qual (aj st) s.heap.objs.size f fd.code))->sp vs H Q E->
   ∃t,fk (eF bq P w K mg base N qual (aj st) f fd.code A outer s H E).iX (bo st) t/\t {nx:=fun _ H'=>Q .ao H',rt:=Q} (start N vs) H):FnOk P w K mg base bq (k+1) f fd ps sp :=by
 obtain ⟨oc,od,kV,doc,pm,an,ck,ct,iZ,rfl,lk,c9⟩:=F.ex
 refine vo lk c9 S len fun A outer s H vs Q E hr i5=>?_
 obtain ⟨t,h,q⟩:=jL A outer s H vs Q E hr i5
 exact ⟨t,h.iX,q⟩
end
def OM:V->Bool | .int _=>true|_=>false
def OO (H:Hp):V->Bool | .ref a=>(match H a with|some (.tup _)=>true|_=>false)|_=>false
def below (m:Int):V->Bool | .int i=>decide (0<=i) && decide (i<m)|_=>false
def mJ (H:Hp) (m:Int) (w:Nat):V->Bool
 | .ref a=>(match H a with|some (.tup ys)=>decide (ys.length=w) && ys.all (below m)|_=>false)
 |_=>false
structure bh (net:List (List Int)) (w:Nat):Prop where
 one:1<=net.length
 nine:net.length<=9
 wid:w=2\/w=3
 row:∀r∈net,r.length=w/\∀g∈r,0<=g/\g<(net.length:Int)
def BM (tb:List ag) (H:Hp):Prop:=∀p∈tb,Tb p H
def IW (H:Hp) (b:ag):Prop:=∃c m:Int,H b=some (.lst [.int c,.int m])/\0<=c/\0<=m
def Runs (J:It) (ys:List V) (H:Hp):Prop:=∀i,(i<ys.length->J.go i H/\∀x H',J.yld i H x H'->H'=H/\ys[i]?=some x)/\(ys.length<=i->J.stop i H)
theorem Ai {K:bn} {a:ag} {ys:List V} {H:Hp} (h:cP K H a ys):Runs (EX K a) ys H:=fun i=>
 ⟨fun hi=>⟨⟨ys,ys[i],h,al hi⟩,fun x H' y=>⟨y.1,y.2 ys h⟩⟩,fun hi=>⟨ys,h,hi⟩⟩
theorem pL {K:bn} {a:ag} {ys:List V} {H:Hp} (h:bA K H a ys):Runs (EW K a) ys H:=fun i=>
 ⟨fun hi=>⟨⟨ys,ys[i],h,al hi⟩,fun x H' y=>⟨y.1,y.2 ys h⟩⟩,fun hi=>⟨ys,h,hi⟩⟩
theorem vB {lo:Int} {n:Nat} {H:Hp}:Runs (BC lo n) ((io n).map fun i=>V.int (lo+(i:Nat))) H:=fun i=>by
 have el:((io n).map fun i=>V.int (lo+(i:Nat))).length=n :=by simp
 rw [el]
 refine ⟨fun hi=>⟨hi,fun x H' y=>?_⟩,fun hi=>hi⟩
 obtain ⟨e1,e2⟩:=y
 refine ⟨e1,?_⟩
 rw [e2,ca,B0 hi]
 rfl
section
variable {X:Cx} {K:bn}
theorem uA (h:X.K=K):kr X (JZ K):=h▸Fo
theorem vC (h:X.K=K):OpR X (compareOp .In) (Fs K false):=h▸xB
theorem xU (h:X.K=K):c7 X (.builtin "len") (fun xs H Q=>∃x n,xs=[x]/\Fc K x H n/\Q (.int n) H):=h▸z7
theorem oG (h:X.K=K):c7 X (.type "tuple") (fun xs H Q=>∃p ys,xs=[.ref p]/\((bA K H p ys/\∀l,H l=none->Q (.ref l) (upd H l (.tup ys)))\/(cP K H p ys/\Q (.ref p) H))):=h▸qA
theorem rJ (h:X.K=K):c7 X (.builtin "isinstance") (fun xs H Q=>∃x T t b,xs=[x,.ty T]/\e6 K H x t/\P4 K t (.type T)=some b/\Q (.bl b) H):=h▸tU
theorem rK {tg l:dL} {tl:TE} (h:X.K=K) (hl:PE X l tl):PI X tg l (vi K tl):=h▸CV hl
theorem C9 {tg l:dL} {tl:TE} (h:X.K=K) (hl:PE X l tl):PI X tg l (EY K tl):=h▸EZ hl
variable {o e:dL} {es:List dL} {to:TE} {t:TA} {name:br} {apos aW:sB} {T id:String} {r:V->List V->Hp->VK->Prop}
theorem Dc (h:X.K=K) (pa:PQ T) (slot:Slot T name id) (ku:typeOf (.builtin id)=pure (.type "method_descriptor")) (hm:xu X id r) (ho:PE X o to) (fA:attributeBase o name X.env (eval o X.env)=eval o X.env :=by rfl) (hline:(apos.endLine==aW.line)=true :=by rfl) :
  PE X (.Call (.Attribute o name apos) [] [] aW) (Ft K T r to):=h▸Fu pa slot ku hm ho fA hline
theorem FX (h:X.K=K) (pa:PQ T) (slot:Slot T name id) (ku:typeOf (.builtin id)=pure (.type "method_descriptor")) (hm:xu X id r) (ho:PE X o to) (ha:PA X (e::es) t) (fA:attributeBase o name X.env (eval o X.env)=eval o X.env :=by rfl)
  (rg:((backTo aW (starEach (e::es) X.env)).all (fun x => !x.1) && (backToKw aW (keywordEach [] X.env)).all (fun x=>x.1.isSome)
   && decide ((e::es).length+([]:List Pn).length+(if ([]:List Pn).isEmpty then 0 else 1)<30))=true :=by rfl)
  (hline:(apos.endLine==aW.line)=true :=by rfl) (hs:starEach (e::es) X.env=(false,eval e X.env)::starEach es X.env :=by rfl) (ky:(backTo aW (starEach es X.env)).any (·.1)=false :=by rfl) :
  PE X (.Call (.Attribute o name apos) (e::es) [] aW) (J0 K T r to t):=h▸IL pa slot ku hm ho ha fA rg hline hs ky
end
abbrev cB (K:bn) (x:br) (st:nw):Prop:=
 ∃(f:ag) (oc:ap) (od:Option ag) (sl:Array (Option ap)) (kV dc pm:ap) (an:Option ag) (cd ct:ap),
  l6 K mainGlobals x=some (some (.ref f))/\K.lookup f=some ⟨oc,od,.func (wp x x (cA st) (bo st) (aj st) .none kV dc pm an cd ct),sl⟩/\Ch K cd x=true/\xL K (.ref f)=true
theorem bt {K:bn} {x:br} {st:nw} {f:ag} {oc:ap} {od:Option ag} {sl:Array (Option ap)} {kV dc pm:ap} {an:Option ag} {cd ct:ap} (a:l6 K mainGlobals x=some (some (.ref f)))
  (l:K.lookup f=some ⟨oc,od,.func (wp x x (cA st) (bo st) (aj st) .none kV dc pm an cd ct),sl⟩) (c:Ch K cd x=true) (k:xL K (.ref f)=true):cB K x st:=⟨f,oc,od,sl,kV,dc,pm,an,cd,ct,a,l,c,k⟩
section
variable {K:bn} {mg:br->Option ap} {h base:gl}
theorem cB.df {x:br} {st:nw} (d:cB K x st) (X:K.In h) (G:h.Ns mainGlobals mg) (ps:List br)
  (hb:∀(kV doc pm:ap) (an:Option ag) (ck ct:ap) (us:List ap),us.length=ps.length->bindArgs (wp x x (cA st) (bo st) (aj st) .none kV doc pm an ck ct) ⟨us,[]⟩=pure (ps.zip us)) :
  ∃f fd,Df K mg x st ps f fd :=by
 obtain ⟨f,oc,od,sl,kV,dc,pm,an,cd,ct,a,l,c,k⟩:=d
 have F:=FC (st:=st) l c k
 exact ⟨f,_,F,F.binds hb,MW X G a⟩
theorem rL {x:br} {st:nw} {ps:List br} {f p:ag} {fd:l3} (D:Df K mg x st ps f fd) (X:K.In h)
  (t:∃f o fd c,mg x=some (.ref f)/\h.get? f=some o/\o.data=.func fd/\fd.code=.ref c/\qr h c p) (tr:∀c p,qr h c p->qr base c p):∃c,xT base fd c p :=by
 obtain ⟨f',o,BO,c,e1,e2,e3,e4,e5⟩:=t
 obtain ⟨oc,od,kV,doc,pm,an,ck,ct,iZ,rfl,lk,c9⟩:=D.fn.ex
 have e:=D.mg.symm.trans e1
 cases e
 have q:=(X _ _ lk).symm.trans e2
 cases q
 cases e3
 exact ⟨c,e4,tr _ _ e5⟩
theorem Df.bind1 {x y:br} {st:nw} {f:ag} {fd:l3} (D:Df K mg x st [y] f fd) (s:bi) (v:ap)
  (hb:∀(kV doc pm:ap) (an:Option ag) (ck ct:ap) (u:ap),bindArgs (wp x x (cA st) (bo st) (aj st) .none kV doc pm an ck ct) ⟨[u],[]⟩=pure [(y,u)]):Qn s fd ⟨[v],[]⟩ [(y,v)] :=by
 obtain ⟨oc,od,kV,doc,pm,an,ck,ct,iZ,rfl,lk,c9⟩:=D.fn.ex
 exact .of_eq (hb kV doc pm an ck ct v)
theorem jm {α β:Type} {F:α->β->Prop} {a:α} {r:List α} {t:List β} (h:At F (a::r) t):∃b t',t=b::t'/\F a b/\At F r t':=by
 cases h with
 |cons x y=>exact ⟨_,_,rfl,x,y⟩
theorem recs_of {q:f8} {ke:List br} (h:(ke.all fun y=>(recsOf q).any fun r=>decide (r.name=y))=true):∀y∈ke,∃r∈recsOf q,r.name=y:=fun y hy=>by
 have:=u7.mp h y hy
 obtain ⟨r,hr,e⟩:=List.any_eq_true.mp this
 exact ⟨r,hr,of_decide_eq_true e⟩
end
def uB (xs:Array Nat):Prop:=xs.toList.Pairwise (· < ·)
theorem rM {xs:Array Nat} (h:uB xs) {i j:Nat} (Ka:i<j) (hj:j<xs.size):xs[i]<xs[j] :=by
 have:=KF.mp h i j (by simpa using Pi Ka hj) (by simpa using hj) Ka
 simpa using this
theorem below_go {xs:Array Nat} {v:Nat} (h:uB xs):∀(fuel lo hi:Nat),hi - lo<=fuel->lo<=hi->hi<=xs.size->(∀i (dP:i<xs.size),i<lo->xs[i]<v)->(∀i (dP:i<xs.size),hi<=i->v<=xs[i])->
  Ps xs v fuel lo hi<=xs.size/\(∀i (dP:i<xs.size),i<Ps xs v fuel lo hi->xs[i]<v)/\∀i (dP:i<xs.size),Ps xs v fuel lo hi<=i->v<=xs[i]
 |0,lo,hi,hf,h1,h2,ha,hb=>by
          have e:lo=hi :=by omega
          subst e
          exact ⟨h2,ha,hb⟩
 |fuel+1,lo,hi,hf,h1,h2,ha,hb=>by
          unfold Ps
          by_cases aY:lo<hi
          ·rw [if_pos aY]
           dsimp only
           have hm:(lo+hi) / 2<xs.size :=by omega
           have e:xs.getD ((lo+hi) / 2) v=xs[(lo+hi) / 2] :=by simp [Array.getD,hm]
           rw [e]
           by_cases hc:xs[(lo+hi) / 2]<v
           ·rw [if_pos hc]
            refine below_go h fuel _ _ (by omega) (by omega) h2 (fun i dP hl=>?_) hb
            by_cases ei:i=(lo+hi) / 2
            ·subst ei;exact hc
            ·exact Pi (rM h (show i<(lo+hi) / 2 by omega) hm) hc
           ·rw [if_neg hc]
            refine below_go h fuel _ _ (by omega) (by omega) (by omega) ha (fun i dP hl=>?_)
            by_cases ei:i=(lo+hi) / 2
            ·subst ei;exact PF hc
            ·exact r6 (PF hc) (Gc (rM h (show (lo+hi) / 2<i by omega) dP))
          ·rw [if_neg aY]
           have e:lo=hi :=by omega
           subst e
           exact ⟨h2,ha,hb⟩
theorem rN {xs:Array Nat} (v:Nat) (h:uB xs):wr xs v<=xs.size/\(∀i (dP:i<xs.size),i<wr xs v->xs[i]<v)/\∀i (dP:i<xs.size),wr xs v<=i->v<=xs[i]:=
 below_go h _ _ _ (by omega) (sK _) (c8 _) (fun i _ z=>absurd z (O7 _)) (fun i z z'=>absurd z (QY.mpr z'))
structure BP (w:ii) (t:NE):Prop where
 dum:t.dummies=#[]
 ris:uB t.place
 led:t.led = !w.params.followText "set-order"
def f6 (e:Int×ap):Int:=match e.2 with | .int i _=>i|_=>0
def gR (P:f8) (w:ii) (h:gl) (a:ag) (ns:List Int):Prop:=
 ∃o es ep t,h.get? a=some o/\o.ExactSet/\o.data=.set es ep t/\ElemsOf (intKind P w) es.toList/\(es.toList.map f6).Perm ns/\ns.Nodup/\es.size<scanBound/\t.fits es.size=true/\BP w t
theorem gR.cO {P:f8} {w:ii} {h h':gl} {a:ag} {ns:List Int} (x:gR P w h a ns) (k:∀o,h.get? a=some o->h'.get? a=some o):gR P w h' a ns:=
 let ⟨o,es,ep,t,e,r⟩:=x;⟨o,es,ep,t,k o e,r⟩
def vD (P:f8) (w:ii) (a:ag) (ns:List Int):HO:=.ext fun h=>gR P w h a ns
def Lx (ns:List Int) (m:Int):List Int:=if m∈ns then ns else ns++[m]
section
variable {P:f8} {w:ii} {A:l8} {E:ap->bi->Prop} {s:bi}
theorem gR.typeIs {h:gl} {a:ag} {ns:List Int} {s:bi} (x:gR P w s.heap a ns):s.TypeIs (.ref a) "set" := let ⟨o,_,_,_,ho,hex,_⟩:=x;⟨o,ho,hex.1⟩
end
theorem xV:Manifest.owners.lookup (String.ofList ['r','o','t','a','r','e','t','i','_','t','e','s'].reverse)=some Manifest.sig_set_iterator :=by kernel_rfl
theorem bR:Slot "set_iterator" "__next__" "set_iterator.__next__" :=
 .of (owner := "set_iterator") (n := "__next__") (by rw [typeLookup_type,builtinLookup_eq_fast];kernel_rfl) (by decide +kernel) (by decide +kernel) (by decide +kernel)
  (by first|exact .inl (by decide +kernel)|exact .inr (by decide +kernel)) (by rw [isSubtype_type];kernel_rfl)
theorem g5:entryFor table "set_iterator.__next__" = some uu.«set_iterator.__next__»:=entryFor_of_tree (by kernel_rfl)
theorem g6 (a:ap):argsOk "set_iterator.__next__" ⟨[a],[]⟩ :=by
 unfold argsOk;rw [signature?_of (id := "set_iterator.__next__") (n:=['_','_','t','x','e','n','_','_']) (o:=['r','o','t','a','r','e','t','i','_','t','e','s']) (by kernel_rfl) xV];kernel_rfl
theorem nM:Slot "set_iterator" "__iter__" "set_iterator.__iter__" :=
 .of (owner := "set_iterator") (n := "__iter__") (by rw [typeLookup_type,builtinLookup_eq_fast];kernel_rfl) (by decide +kernel) (by decide +kernel) (by decide +kernel)
  (by first|exact .inl (by decide +kernel)|exact .inr (by decide +kernel)) (by rw [isSubtype_type];kernel_rfl)
theorem vE:entryFor table "set_iterator.__iter__" = some uu.«dict_keyiterator.__iter__»:=
 entryFor_alias (id' := "dict_keyiterator.__iter__") (by kernel_rfl) (by first|rfl|decide +kernel|(unfold String.splitOn;simp +decide [String.splitOnAux])) (by decide +kernel) (by kernel_rfl)
theorem vF (a:ap):argsOk "set_iterator.__iter__" ⟨[a],[]⟩ :=by
 unfold argsOk;rw [signature?_of (id := "set_iterator.__iter__") (n:=['_','_','r','e','t','i','_','_']) (o:=['r','o','t','a','r','e','t','i','_','t','e','s']) (by kernel_rfl) xV];kernel_rfl
theorem tV:entryFor table "set.__iter__" = some uu.«frozenset.__iter__»:=
 entryFor_alias (id' := "frozenset.__iter__") (by kernel_rfl) (by first|rfl|decide +kernel|(unfold String.splitOn;simp +decide [String.splitOnAux])) (by decide +kernel) (by kernel_rfl)
def dD (h:gl) (I a:ag) (first:ap) (i n ep:Nat):Prop:=∃o,h.get? I=some o/\o.cls=.type "set_iterator" /\ o.data=.fields #[first,.int i 0,.ref a,.int n 0,.int ep 0]
theorem dD.typeIs {s:bi} {I a:ag} {first:ap} {i n ep:Nat} (x:dD s.heap I a first i n ep):s.TypeIs (.ref I) "set_iterator" := let ⟨o,ho,hc,_⟩:=x;⟨o,ho,hc⟩
theorem d8 {α:Type}:∀{l:List α} {i:Nat} (h:i<l.length),(l[i]::l.eraseIdx i).Perm l
 | [],i,h=>by simp at h
 |x::l,0,h=>.refl _
 |x::l,i+1,h=>by
          rw [List.eraseIdx_cons_succ,List.getElem_cons_succ]
          exact (PK.swap _ _ _).trans (.cons _ (d8 (by simpa using h)))
section
variable {P:f8} {w:ii} {A:l8} {E:ap->bi->Prop} {s:bi}
theorem wp_choose {src:Source} {n:Nat} {Q:Nat->bi->Prop} (hn:n≠0) (h:∀i d,i<n->Q i {s with drawn:=d}):wpAny (model P w) A (choose src n) Q E s:=fun Γ p _=>by
 refine ⟨hn,?_⟩
 exact h _ _ (Nat.mod_lt _ (Nat.pos_of_ne_zero hn))
theorem kI {α:Type}:∀(n:Nat) (xs:List α) {s:bi} {Q:List α->bi->Prop},n=xs.length->(∀ys d,ys.Perm xs->Q ys {s with drawn:=d})->wpAny (model P w) A (drawOrder n xs) Q E s
 |0,xs,s,Q,hn,h=>by
          have:xs=[]:=ET hn.symm
          subst this
          exact ce (h [] s.drawn .nil)
 |n+1,[],s,Q,hn,h=>by simp at hn
 |n+1,x::xs,s,Q,hn,h=>by
          show wpAny _ _ (choose .order (x::xs).length>>=_) _ _ s
          refine ba (wp_choose (by simp) fun i d hi=>?_)
          have e:(x::xs)[i]?=some (x::xs)[i]:=al hi
          rw [e]
          dsimp only
          refine ba (kI n _ (by rw [List.length_eraseIdx_of_lt hi];simp at hn ⊢;omega) fun ys d' hp=>ce (h _ _ ?_))
          exact (PK.cons _ hp).trans (d8 hi)
end
section
variable {P:f8} {w:ii} {A:l8} {E:ap->bi->Prop} {s:bi}
structure iy (P:f8) (w:ii) (h:gl) (a:ag) (es:Array (Int×ap)) (ep:Nat) (t:NE):Prop where
 at_:∃o,h.get? a=some o/\o.ExactSet/\o.data=.set es ep t
 fits:t.fits es.size=true
 tab:BP w t
theorem uC {α:Type} (next:Nat->Nat):∀(fuel k:Nat) (left:List α) (out:Array α),fuel=left.length->(pickOrder.go next fuel k left out).toList.Perm (out.toList++left)
 |0,k,left,out,h=>by
          have:left=[]:=ET h.symm
          subst this
          simp [pickOrder.go]
 |fuel+1,k,left,out,h=>by
          unfold pickOrder.go
          have hl:next k % left.length<left.length:=Nat.mod_lt _ (by omega)
          rw [al hl]
          dsimp only
          refine (uC next fuel (k+1) _ _ (by rw [List.length_eraseIdx_of_lt hl];omega)).trans ?_
          rw [Array.toList_push,EQ]
          exact PK.append_left _ (d8 hl)
theorem pM {α:Type} (next:Nat->Nat) (xs:Array α):(pickOrder next xs).toList.Perm xs.toList :=by
 unfold pickOrder
 exact (uC next xs.size 0 xs.toList #[] (by simp)).trans (by simp)
theorem kJ {Q:Bool->bi->Prop} (h:Q (w.params.followText "set-order") s):wpAny (model P w) A setsByText Q E s :=by
 unfold setsByText
 exact ba (PH (ce h))
theorem nN {a:ag} {es:Array (Int×ap)} {ep:Nat} {t:NE} {slot given:Nat} {Q:Option (ap×Nat)->bi->Prop} (hE:iy P w s.heap a es ep t)
  (hd:w.params.followText "set-order" = false->(!t.plain && decide (es.size > 1))=false)
  (h1:w.params.followText "set-order" = true->Q ((pickOrder (w.params.setOrder a ep) es)[given]?.map fun e=>(e.2,slot)) s)
  (h2:w.params.followText "set-order" = false->Q (match es[wr t.place slot]?,t.place[wr t.place slot]? with|some (_,x),some j=>some (x,j+1)|_,_=>none) s) :
  wpAny (model P w) A (setNext a slot given ep) Q E s :=by
 obtain ⟨⟨o,ho,hex,mn⟩,hf,ht⟩:=hE
 unfold setNext
 refine ba (Pt ho mn hf ?_)
 dsimp only
 refine ba (kJ ?_)
 cases hb:w.params.followText "set-order" with
 |true=>
  simp only [if_true,bne_self_eq_false,l4,if_false]
  unfold setWalk
  refine ba (ba (Pt ho mn hf ?_))
  dsimp only
  refine ba (kJ ?_)
  rw [hb]
  simp only [if_true]
  refine ba (PH (ce (ce ?_)))
  exact h1 hb
 |false=>
  simp only [l4,if_false]
  have iW:=hd hb
  have Ly:t.led=true :=by rw [ht.led,hb];rfl
  show wpAny _ _ (if (!t.plain && decide (es.size > 1))=true then _ else _) _ _ s
  rw [iW]
  simp only [l4,if_false]
  refine ba ?_
  show wpAny _ _ (if (!t.led && !es.isEmpty)=true then _ else _) _ _ s
  rw [Ly]
  simp only [Qe,Pm,l4,if_false]
  exact ce (ce (h2 hb))
end
section
variable {P:f8} {w:ii} {A:l8} {E:ap->bi->Prop} {s:bi}
theorem dD.FY {h:gl} {I a:ag} {first x:ap} {i n ep:Nat} (hit:dD h I a first i n ep):dD (h.update I (i4.mapFields (·.setIfInBounds 0 x))) I a x i n ep :=by
 obtain ⟨o,ho,hc,hd⟩:=hit
 exact ⟨_,IF _ ho (i4.isFreed_of_fields (Pj hd _)),(i4.cls_mapFields ..).trans hc,by rw [Pj hd];simp⟩
theorem dD.rO {h:gl} {I a:ag} {first:ap} {i n ep:Nat} (hit:dD h I a first i n ep):dD (h.update I (i4.mapFields (·.setIfInBounds 1 (rawInt ((i:Int)+1))))) I a first (i+1) n ep :=by
 obtain ⟨o,ho,hc,hd⟩:=hit
 exact ⟨_,IF _ ho (i4.isFreed_of_fields (Pj hd _)),(i4.cls_mapFields ..).trans hc,by rw [Pj hd];simp [rawInt]⟩
theorem jw {I a:ag} {first x:ap} {i n ep k:Nat} {Q:Unit->bi->Prop} (hk:k<5) (hit:dD s.heap I a first i n ep) (h:Q () {s with heap:=s.heap.update I (i4.mapFields (·.setIfInBounds k x))}):wpAny (model P w) A (setField (.ref I) k x) Q E s :=by
 obtain ⟨o,ho,hc,hd⟩:=hit
 exact wpAny_setField ho hd (by simpa using hk) h
theorem uD {Q:Fin->bi->Prop} (hh:A.handled=none) (h:∀e h',s.TypeIs e "StopIteration" \/ True->(∀b o,s.heap.get? b=some o->h'.get? b=some o)->bi.TypeIs {s with heap:=h'} e "StopIteration" -> E e {s with heap:=h'}) :
  wpAny (model P w) A (newExc (.type "StopIteration") []>>=fun e=>raiseNew e) Q E s :=by
 refine ba ?_
 simp only [newExc,newTuple]
 refine ba (tz ?_ (by size_fits))
 refine ba (m:=firstArgMember _ _) (wpAny_of_eq (a:=Cs) (by first|rfl|(simp only [firstArgMember];rfl)) ?_)
 refine tz ?_ (by size_fits)
 simp only [raiseNew]
 refine ba (wpAny_handled ?_)
 rw [hh]
 refine ba (ce (wpAny_throw ?_))
 exact h _ _ (.inr trivial) (fun b o e=>ci _ (ci _ e)) ⟨_,i1 _ rfl,rfl⟩
theorem rP {Q:Option ap->bi->Prop} {e:ap} (hT:s.TypeIs e "StopIteration") (h:Q none s):wpAny (model P w) A (do let b <- isInstance e (.type "StopIteration");if b=true then pure none else throw e) Q E s:=
 ba (Qu (T := "StopIteration") (b:=true) hT isSubtype_stop (ce h))
theorem Dd {I a:ag} {slot i ep next:Nat} {es:Array (Int×ap)} {t:NE} {x:ap} {Q:Option ap->bi->Prop} (hit:dD s.heap I a (.int slot 0) i es.size ep) (hE:iy P w s.heap a es ep t)
  (hd:w.params.followText "set-order" = false->(!t.plain && decide (es.size > 1))=false)
  (h1:w.params.followText "set-order" = true->(pickOrder (w.params.setOrder a ep) es)[i]?.map (fun e=>(e.2,slot))=some (x,next))
  (h2:w.params.followText "set-order" = false->(match es[wr t.place slot]?,t.place[wr t.place slot]? with|some (_,x),some j=>some (x,j+1)|_,_=>none)=some (x,next))
  (hQ:∀h',dD h' I a (.int next 0) (i+1) es.size ep->NJ I s.heap h'->Q (some x) {s with heap:=h'}):wpAny (model P w) A (pyNext (.ref I)) Q E s :=by
 obtain ⟨o,ho,hc,iW⟩:=id hit
 obtain ⟨oa,pN,Aj,pO⟩:=hE.at_
 unfold pyNext
 refine ba (OL (zn (name:=ww "__next__") hit.typeIs bR (xw bR hit.typeIs g5 ?_ (g6 _))))
 unfold uu.«set_iterator.__next__»
 refine ba (m:=slotArgs "__next__" 0 _) (ce ?_)
 dsimp only
 refine ba (On ho iW ?_)
 dsimp only
 refine ba (LS pN pO hE.fits ?_)
 simp only [bne_self_eq_false,l4,if_false,u8]
 have fin:∀r,r=some (x,next)->wpAny (model P w) A.in1 (match r with
    |some (x,next)=>do
     setField (mT I) 0 (rawInt next)
     setField (mT I) 1 (rawInt (↑i+1))
     ret x
    |none=>do
     setField (mT I) 2 Cs
     let __do_lift <- newExc (IT "StopIteration") []
     raiseNew __do_lift) (fun fin s'=>∃v,fin=Fin.done (Flow.ret v)/\wpAny (model P w) A (pure (some v)) Q E s') (fun e s'=>wpAny (model P w) A (do
     let __do_lift <- isInstance e (IT "StopIteration")
     if __do_lift=true then pure none else throw e) Q E s') s:=fun r hr=>by
  subst hr
  dsimp only
  refine ba (jw (by decide) hit ?_)
  have FZ:=hit.FY (x:=rawInt next)
  refine ba (jw (by decide) FZ ?_)
  exact ce ⟨x,rfl,ce (hQ _ FZ.rO ((P0 ..).trans (P0 ..)))⟩
 exact ba (nN hE hd (fun hb=>fin _ (h1 hb)) (fun hb=>fin _ (h2 hb)))
theorem De {I a:ag} {slot i ep:Nat} {es:Array (Int×ap)} {t:NE} {Q:Option ap->bi->Prop} (hh:A.handled=none) (hit:dD s.heap I a (.int slot 0) i es.size ep) (hE:iy P w s.heap a es ep t)
  (hd:w.params.followText "set-order" = false->(!t.plain && decide (es.size > 1))=false)
  (h1:w.params.followText "set-order" = true->(pickOrder (w.params.setOrder a ep) es)[i]?.map (fun e=>(e.2,slot))=none)
  (h2:w.params.followText "set-order" = false->(match es[wr t.place slot]?,t.place[wr t.place slot]? with|some (_,x),some j=>some (x,j+1)|_,_=>none)=none)
  (hQ:∀h',(∀b o,b≠I->s.heap.get? b=some o->h'.get? b=some o)->Q none {s with heap:=h'}):wpAny (model P w) A (pyNext (.ref I)) Q E s :=by
 obtain ⟨o,ho,hc,iW⟩:=id hit
 obtain ⟨oa,pN,Aj,pO⟩:=hE.at_
 unfold pyNext
 refine ba (OL (zn (name:=ww "__next__") hit.typeIs bR (xw bR hit.typeIs g5 ?_ (g6 _))))
 unfold uu.«set_iterator.__next__»
 refine ba (m:=slotArgs "__next__" 0 _) (ce ?_)
 dsimp only
 refine ba (On ho iW ?_)
 dsimp only
 refine ba (LS pN pO hE.fits ?_)
 simp only [bne_self_eq_false,l4,if_false,u8]
 have fin:∀r:Option (ap×Nat),r=none->wpAny (model P w) A.in1 (match r with
    |some (x,next)=>do
     setField (mT I) 0 (rawInt next)
     setField (mT I) 1 (rawInt (↑i+1))
     ret x
    |none=>do
     setField (mT I) 2 Cs
     let __do_lift <- newExc (IT "StopIteration") []
     raiseNew __do_lift) (fun fin s'=>∃v,fin=Fin.done (Flow.ret v)/\wpAny (model P w) A (pure (some v)) Q E s') (fun e s'=>wpAny (model P w) A (do
     let __do_lift <- isInstance e (IT "StopIteration")
     if __do_lift=true then pure none else throw e) Q E s') s:=fun r hr=>by
  subst hr
  dsimp only
  refine ba (jw (by decide) hit ?_)
  exact uD hh fun e h' _ k hT=>rP hT (hQ h' fun b o hb q=>k b o ((xb _ _ (xy hb)).trans q))
 exact ba (nN hE hd (fun hb=>fin _ (h1 hb)) (fun hb=>fin _ (h2 hb)))
theorem Dg {I a T:ag} {i ep j:Nat} {es:Array (Int×ap)} {t:NE} {ps:List Nat} {x:Int×ap} {Q:Option ap->bi->Prop} (hit:dD s.heap I a (.ref T) i es.size ep) (hE:iy P w s.heap a es ep t)
  (hT:s.heap.IsTuple T (ps.map fun (i:Nat)=>rawInt i).toArray) (hj:ps[i]?=some j) (hx:es[j]?=some x)
  (hQ:∀h',dD h' I a (.ref T) (i+1) es.size ep->NJ I s.heap h'->Q (some x.2) {s with heap:=h'}):wpAny (model P w) A (pyNext (.ref I)) Q E s :=by
 obtain ⟨o,ho,hc,iW⟩:=id hit
 obtain ⟨oa,pN,Aj,pO⟩:=hE.at_
 unfold pyNext
 refine ba (OL (zn (name:=ww "__next__") hit.typeIs bR (xw bR hit.typeIs g5 ?_ (g6 _))))
 unfold uu.«set_iterator.__next__»
 refine ba (m:=slotArgs "__next__" 0 _) (ce ?_)
 dsimp only
 refine ba (On ho iW ?_)
 dsimp only
 refine ba (LS pN pO hE.fits ?_)
 simp only [bne_self_eq_false,l4,if_false,u8]
 obtain ⟨ot,F0,_,nt,mn⟩:=hT
 refine ba (wpAny_seqItems F0 mn ?_)
 have e:(ps.map fun (i:Nat)=>rawInt i).toArray[i]?=some (rawInt j) :=by simp [hj]
 dsimp only
 rw [e]
 show wpAny _ _ (setNextDrawn a (Int.toNat (j:Int)) ep>>=_) _ _ s
 rw [u8]
 refine ba ?_
 unfold setNextDrawn
 refine ba (Pt pN pO hE.fits ?_)
 simp only [bne_self_eq_false,l4,if_false,hx]
 refine ce ?_
 refine ba (jw (by decide) hit ?_)
 exact ce ⟨x.2,rfl,ce (hQ _ hit.rO (P0 ..))⟩
theorem Dh {I a T:ag} {i ep:Nat} {es:Array (Int×ap)} {t:NE} {ps:List Nat} {Q:Option ap->bi->Prop} (hh:A.handled=none) (hit:dD s.heap I a (.ref T) i es.size ep) (hE:iy P w s.heap a es ep t)
  (hT:s.heap.IsTuple T (ps.map fun (i:Nat)=>rawInt i).toArray) (hj:ps.length<=i)
  (hQ:∀h',(∀b o,b≠I->s.heap.get? b=some o->h'.get? b=some o)->Q none {s with heap:=h'}):wpAny (model P w) A (pyNext (.ref I)) Q E s :=by
 obtain ⟨o,ho,hc,iW⟩:=id hit
 obtain ⟨oa,pN,Aj,pO⟩:=hE.at_
 unfold pyNext
 refine ba (OL (zn (name:=ww "__next__") hit.typeIs bR (xw bR hit.typeIs g5 ?_ (g6 _))))
 unfold uu.«set_iterator.__next__»
 refine ba (m:=slotArgs "__next__" 0 _) (ce ?_)
 dsimp only
 refine ba (On ho iW ?_)
 dsimp only
 refine ba (LS pN pO hE.fits ?_)
 simp only [bne_self_eq_false,l4,if_false,u8]
 obtain ⟨ot,F0,_,nt,mn⟩:=hT
 refine ba (wpAny_seqItems F0 mn ?_)
 have e:(ps.map fun (i:Nat)=>rawInt i).toArray[i]?=none :=by simp [hj]
 dsimp only
 rw [e]
 dsimp only
 refine ba (jw (by decide) hit ?_)
 refine ba (jw (by decide) (hit.FY (x:=rawInt 0)) ?_)
 exact uD hh fun e h' _ k hT=>rP hT (hQ h' fun b o hb q=>k b o ((xb _ _ (xy hb)).trans ((xb _ _ (xy hb)).trans q)))
end
theorem dD.cO {h h':gl} {I a:ag} {first:ap} {i n ep:Nat} (x:dD h I a first i n ep) (k:∀o,h.get? I=some o->h'.get? I=some o):dD h' I a first i n ep:=let ⟨o,ho,r⟩:=x;⟨o,k o ho,r⟩
theorem iy.cO {P:f8} {w:ii} {h h':gl} {a:ag} {es:Array (Int×ap)} {ep:Nat} {t:NE} (x:iy P w h a es ep t) (k:∀o,h.get? a=some o->h'.get? a=some o):iy P w h' a es ep t:=
 ⟨let ⟨o,ho,r⟩:=x.at_;⟨o,k o ho,r⟩,x.fits,x.tab⟩
theorem vG {xs:Array Nat} (h:uB xs) {i:Nat} (hi:i<xs.size):wr xs (xs[i]+1)=i+1 :=by
 obtain ⟨b0,b1,b2⟩:=rN (xs[i]+1) h
 generalize wr xs (xs[i]+1)=p at *
 have h1:i<p :=by
  refine Nat.lt_of_not_le fun hp=>?_
  have:=b2 i hi hp
  omega
 refine Nat.le_antisymm (PF fun hp=>?_) h1
 have Kb:i+1<xs.size :=by omega
 have q:=b1 (i+1) Kb hp
 have q2:=rM h (show i<i+1 by omega) Kb
 omega
theorem vH {xs:Array Nat} (h:uB xs):wr xs 0=0 :=by
 obtain ⟨b0,b1,b2⟩:=rN 0 h
 generalize wr xs 0=p at *
 by_cases hp:p=0
 ·exact hp
 ·have:=b1 0 (by omega) (by omega)
  omega
section
variable {P:f8} {w:ii} {A:l8} {E:ap->bi->Prop} {s:bi}
theorem si_self {I a:ag} {first:ap} {i n ep:Nat} {Q:ap->bi->Prop} (hit:dD s.heap I a first i n ep) (h:Q (.ref I) s):wpAny (model P w) A (pyIter (.ref I)) Q E s :=by
 refine Qj hit.typeIs nM (xw nM hit.typeIs vE ?_ (vF _))
 show wpAny _ _ (ret (.ref I)) _ _ s
 exact ce ⟨_,rfl,"set_iterator",_,hit.typeIs,bR.lookup,h⟩
theorem rQ {es:List (Int×ap)} (h:ElemsOf (intKind P w) es) {e:Int×ap} (he:e∈es):∃t,e.2=.int (f6 e) t :=by
 obtain ⟨⟨k',F1,_⟩,_⟩:=h e he
 obtain ⟨t,e2⟩:=ap.isInt_shape (k:=k') (v:=e.2) F1
 exact ⟨t,by unfold f6;rw [e2]⟩
abbrev xW (xs:List Int):Nat->ap->Prop:=fun i v=>∃m t,xs[i]?=some m/\v=.int m t
def d9 (w:ii) (a:ag) (ep:Nat) (es:Array (Int×ap)):List (Int×ap):=if w.params.followText "set-order" = true then (pickOrder (w.params.setOrder a ep) es).toList else es.toList
theorem g7 (w:ii) (a:ag) (ep:Nat) (es:Array (Int×ap)):(d9 w a ep es).Perm es.toList :=by
 unfold d9
 split
 ·exact pM _ _
 ·exact .refl _
theorem Ak {I a:ag} {es:Array (Int×ap)} {ep:Nat} {t:NE} (hh:A.handled=none) (mh:a≠I) (uE:ElemsOf (intKind P w) es.toList) (hd:w.params.followText "set-order" = false->(!t.plain && decide (es.size > 1))=false) :
  WalksS P w A I [I,a] [I] (fun a b=>b=a) ((d9 w a ep es).map f6).length (xW ((d9 w a ep es).map f6))
   (fun i s=>iy P w s.heap a es ep t/\∃slot:Nat,dD s.heap I a (.int slot 0) i es.size ep/\(w.params.followText "set-order" = false->wr t.place slot=i)) where
 sub:=fun b hb=>by simp at hb;simp [hb]
 grefl:=fun _=>rfl
 gtrans:=fun _ _ _ h1 h2=>h2.trans h1
 frame:=fun i s h' _ st _ hk=>⟨st.1.cO fun o e=>hk a (by simp) o e,let ⟨slot,h1,h2⟩:=st.2;⟨slot,h1.cO fun o e=>hk I (by simp) o e,h2⟩⟩
 item:=fun i s Q E hi st hQ=>by
  obtain ⟨hE,slot,hit,hb⟩:=st
  have hl:i<(d9 w a ep es).length :=by simpa using hi
  have Kc:i<es.size :=by rw [<- ul,<- (g7 w a ep es).length_eq];exact hl
  obtain ⟨tk,he⟩:=rQ (P:=P) (w:=w) uE ((g7 w a ep es).mem_iff.mp (tw hl))
  have cK:i<t.place.size :=by
   have:=hE.fits
   simp only [NE.fits,u4,beq_iff_eq] at this
   rw [this.1];exact Kc
  refine Dd (next:=if w.params.followText "set-order" = true then slot else t.place[i]+1) (x:=((d9 w a ep es)[i]).2) hit hE hd (fun cQ=>?_) (fun cQ=>?_) (fun h' Al hs=>hQ _ _ ⟨_,tk,by rw [ca,al hl];rfl,he⟩ ⟨hE.cO fun o e=>by rw [hs.2 a mh];exact e,_,Al,fun cQ=>?_⟩ ⟨fun b o hb e=>by rw [hs.2 b (fun z=>hb (by simp [z]))];exact e,rfl,rfl,rfl,c8 _⟩)
  ·rw [if_pos cQ]
   have e1:d9 w a ep es=(pickOrder (w.params.setOrder a ep) es).toList :=by unfold d9;rw [if_pos cQ]
   have e2:(pickOrder (w.params.setOrder a ep) es)[i]?=some (d9 w a ep es)[i] :=by
    rw [<- IN,<- e1]
    exact al hl
   rw [e2]
   rfl
  ·rw [if_neg (by rw [cQ];decide),hb cQ,Co Kc,Co cK]
   have e1:d9 w a ep es=es.toList :=by unfold d9;rw [if_neg (by rw [cQ];decide)]
   have e2:(d9 w a ep es)[i]=es[i] :=by simp [e1]
   rw [e2]
  ·rw [if_neg (by rw [cQ];decide)]
   exact vG hE.tab.ris cK
 done:=fun s Q E st hQ=>by
  obtain ⟨hE,slot,hit,hb⟩:=st
  have hl:((d9 w a ep es).map f6).length=es.size :=by rw [cr,(g7 w a ep es).length_eq,ul]
  rw [hl] at hit hb
  refine De hh hit hE hd (fun cQ=>?_) (fun cQ=>?_) (fun h' k=>hQ _ ⟨fun b o hb e=>k b o (fun z=>hb (by simp [z])) e,rfl,rfl,rfl,c8 _⟩)
  ·have e1:(pickOrder (w.params.setOrder a ep) es)[es.size]?=none :=by
    refine Pw ?_
    rw [<- ul,(pM _ es).length_eq,ul]
    exact c8 _
   rw [e1]
   rfl
  ·rw [hb cQ,Pw (c8 _)]
 self:=fun i s Q E st hQ=>let ⟨_,slot,hit,_⟩:=st;si_self hit hQ
theorem vI {I a T:ag} {es:Array (Int×ap)} {ep:Nat} {t:NE} {ps:List Nat} (hh:A.handled=none) (mh:a≠I) (Lz:T≠I) (uE:ElemsOf (intKind P w) es.toList) (xX:∀j∈ps,j<es.size) (cK:ps.length=es.size) :
  WalksS P w A I [I,a,T] [I] (fun a b=>b=a) (ps.map fun j=>f6 (es.getD j (0,.none))).length (xW (ps.map fun j=>f6 (es.getD j (0,.none))))
   (fun i s=>iy P w s.heap a es ep t/\s.heap.IsTuple T (ps.map fun (i:Nat)=>rawInt i).toArray/\dD s.heap I a (.ref T) i es.size ep) where
 sub:=fun b hb=>by simp at hb;simp [hb]
 grefl:=fun _=>rfl
 gtrans:=fun _ _ _ h1 h2=>h2.trans h1
 frame:=fun i s h' _ st _ hk=>⟨st.1.cO fun o e=>hk a (by simp) o e,st.2.1.at fun o e=>hk T (by simp) o e,st.2.2.cO fun o e=>hk I (by simp) o e⟩
 item:=fun i s Q E hi st hQ=>by
  obtain ⟨hE,hT,hit⟩:=st
  have hl:i<ps.length :=by simpa using hi
  have hj:=xX _ (tw hl)
  have hx:es[ps[i]]?=some es[ps[i]]:=Co hj
  have hg:es.getD ps[i] (0,.none)=es[ps[i]] :=by simp [Array.getD,hj]
  obtain ⟨tk,he⟩:=rQ (P:=P) (w:=w) uE (show es[ps[i]]∈es.toList by simp)
  refine Dg hit hE hT (al hl) hx fun h' Al hs=>hQ _ _ ⟨_,tk,by rw [ca,al hl];rfl,by dsimp only;rw [hg];exact he⟩ ⟨hE.cO fun o e=>by rw [hs.2 a mh];exact e,hT.at fun o e=>by rw [hs.2 T Lz];exact e,Al⟩ ⟨fun b o hb e=>by rw [hs.2 b (fun z=>hb (by simp [z]))];exact e,rfl,rfl,rfl,c8 _⟩
 done:=fun s Q E st hQ=>by
  obtain ⟨hE,hT,hit⟩:=st
  have hl:(ps.map fun j=>f6 (es.getD j (0,.none))).length=ps.length:=cr _
  rw [hl] at hit
  exact Dh hh hit hE hT (c8 _) fun h' k=>hQ _ ⟨fun b o hb e=>k b o (fun z=>hb (by simp [z])) e,rfl,rfl,rfl,c8 _⟩
 self:=fun i s Q E st hQ=>si_self st.2.2 hQ
theorem vJ {a:ag} {ns:List Int} {Q:ap->bi->Prop} (hS:gR P w s.heap a ns)
  (hQ:∀(I:ag) (h':gl) (d':Drawn) (xs:List Int) (fp:List ag) (St:Nat->bi->Prop),xs.Perm ns->(∀b o,s.heap.get? b=some o->h'.get? b=some o)->s.heap.objs.size<=I->(∀b∈fp,b=a\/s.heap.objs.size<=b)->
   (∀A':l8,A'.handled=none->WalksS P w A' I fp [I] (fun a b=>b=a) xs.length (xW xs) St)->St 0 {s with heap:=h',drawn:=d'}->Q (.ref I) {s with heap:=h',drawn:=d'}):wpAny (model P w) A (pyIter (.ref a)) Q E s :=by
 have BQ:=hS.typeIs (h:=s.heap)
 obtain ⟨o,es,ep,t,ho,hex,hd,uE,hp,hn,hb,hf,ht⟩:=hS
 have hE:iy P w s.heap a es ep t:=⟨⟨o,ho,hex,hd⟩,hf,ht⟩
 have aY:=im ho
 refine Qj BQ F.slot_set_iter (xw F.slot_set_iter BQ tV ?_ (F.args_set_iter_1 _))
 unfold uu.«frozenset.__iter__»
 refine ba (m:=uu.Frozenset.slot0 "__iter__" _) (ce ?_)
 unfold uu.Frozenset.sizeOf
 refine ba (ba (LS ho hd hf (ce ?_)))
 refine ba ?_
 unfold setDrawn
 refine ba (Pt ho hd hf ?_)
 dsimp only
 refine ba (kJ ?_)
 refine ce ?_
 by_cases pP:(!w.params.followText "set-order" && (!t.plain && decide (es.size > 1)))=true
 ·show wpAny _ _ (if (!w.params.followText "set-order" && (!t.plain && decide (es.size > 1)))=true then _ else _) _ _ s
  rw [if_pos pP]
  refine ba (kI _ _ (by simp) fun ps d xX=>?_)
  have cK:ps.length=es.size :=by rw [xX.length_eq,Pr]
  refine ba (wpAny_newTuple ?_ (by rw [cr,cK];exact fits_of_scanBound hb))
  refine ba (wpAny_setEpoch_of (o:=o) (ci _ ho) hd hf ?_)
  unfold newFields
  refine ba (tz ?_ (by size_fits))
  have hsz:∀u:i4,(s.heap.push u).objs.size=s.heap.objs.size+1:=fun u=>AT _ _
  have hit:dD ((s.heap.push {cls:=.type "tuple",data:=.seq (ps.map fun (i:Nat)=>rawInt i).toArray}).push {cls:=.type "set_iterator",data:=.fields #[.ref s.heap.objs.size,.int (0:Nat) 0,.ref a,.int es.size 0,.int ep 0]}) (s.heap.push {cls:=.type "tuple",data:=.seq (ps.map fun (i:Nat)=>rawInt i).toArray}).objs.size a (.ref s.heap.objs.size) 0 es.size ep:=⟨_,i1 _ rfl,rfl,rfl⟩
  have MM:(ps.map fun j=>f6 (es.getD j (0,.none))).Perm ns :=by
   refine ((xX.map _).trans ?_).trans hp
   have:(io es.size).map (fun j=>f6 (es.getD j (0,.none)))=es.toList.map f6 :=by
    refine List.ext_getElem (by simp) fun n h1 h2=>?_
    have wX:n<es.size :=by simpa using h1
    simp [Array.getD,wX]
   rw [this]
  refine ce ⟨_,rfl,"set_iterator",_,dD.typeIs (s:={s with heap:=_,drawn:=d}) hit,bR.lookup,?_⟩
  refine hQ _ _ d _ [(s.heap.push {cls:=.type "tuple",data:=.seq (ps.map fun (i:Nat)=>rawInt i).toArray}).objs.size,a,s.heap.objs.size] _ MM (fun b o e=>ci _ (ci _ e)) (by rw [hsz];exact FM _) (fun b hb=>?_) (fun A' hA=>vI (t:=t) (ep:=ep) hA ?_ ?_ uE (fun j hj=>by simpa using xX.mem_iff.mp hj) cK) ⟨hE.cO fun o e=>ci _ (ci _ e),⟨_,ci _ (i1 _ rfl),rfl,_,rfl⟩,hit⟩
  ·simp only [lc,Qv,or_false] at hb
   rcases hb with rfl|rfl|rfl
   ·exact .inr (by rw [hsz];exact FM _)
   ·exact .inl rfl
   ·exact .inr (c8 _)
  ·rw [hsz];exact lw (BN aY)
  ·rw [hsz];exact lw (FF _)
 ·show wpAny _ _ (if (!w.params.followText "set-order" && (!t.plain && decide (es.size > 1)))=true then _ else _) _ _ s
  rw [if_neg pP]
  refine ba (ce (ba (wpAny_setEpoch_of ho hd hf ?_)))
  unfold newFields
  refine ba (tz ?_ (by size_fits))
  have hit:dD (s.heap.push {cls:=.type "set_iterator",data:=.fields #[.int (0:Nat) 0,.int (0:Nat) 0,.ref a,.int es.size 0,.int ep 0]}) s.heap.objs.size a (.int (0:Nat) 0) 0 es.size ep:=⟨_,i1 _ rfl,rfl,rfl⟩
  refine ce ⟨_,rfl,"set_iterator",_,dD.typeIs (s:={s with heap:=_}) hit,bR.lookup,?_⟩
  refine hQ _ _ s.drawn _ [s.heap.objs.size,a] _ (((g7 w a ep es).map f6).trans hp) (fun b o e=>ci _ e) (c8 _) (fun b hb=>?_) (fun A' hA=>Ak (t:=t) (ep:=ep) hA (lw aY) uE fun hb=>?_) ⟨hE.cO fun o e=>ci _ e,0,hit,fun _=>vH ht.ris⟩
  ·simp only [lc,Qv,or_false] at hb
   rcases hb with rfl|rfl
   ·exact .inr (c8 _)
   ·exact .inl rfl
  ·rw [hb] at pP
   simpa using pP
end
section
variable {P:f8} {w:ii} {A:l8} {E:ap->bi->Prop} {s:bi}
theorem tW {a:ag} {Q:Bool->bi->Prop} (hT:s.TypeIs (.ref a) "set") (h:Q false s):wpAny (model P w) A (uu.List.listLengthHint (.ref a)) Q E s :=by
 unfold uu.List.listLengthHint
 refine ba (wpAny_specialOf hT F.slot_set_len.lookup ?_)
 have e:splitId "set.__len__" = some ("set","__len__") :=by kernel_rfl
 dsimp only
 rw [e]
 dsimp only
 refine ba (Qu hT sub_set_self ?_)
 simp only [Qe,l4,if_false]
 show wpAny _ _ (if _=true then _ else _) _ _ s
 rw [if_pos (by kernel_rfl)]
 exact ba (Qw hT (ce h))
theorem ints_of {xs:List Int} {acc:Array ap} (h:ItemsOf (xW xs) acc xs.length):NO acc.toList xs :=by
 obtain ⟨hs,hi⟩:=h
 have:∀(vs:List ap) (xs:List Int),vs.length=xs.length->(∀(j:Nat) (v:ap),vs[j]?=some v->xW xs j v)->NO vs xs :=by
  intro vs
  induction vs with
  |nil=>intro xs hl _;cases xs with|nil=>exact .nil|cons x xs=>simp at hl
  |cons v vs ih=>
   intro xs hl hg
   cases xs with
   |nil=>simp at hl
   |cons x xs=>
    obtain ⟨m,t,e1,rfl⟩:=hg 0 v rfl
    have e2:x=m :=by simpa using e1
    subst e2
    refine .cons _ _ (ih xs (by simpa using hl) fun j u hu=>?_)
    obtain ⟨m',t',e3,e4⟩:=hg (j+1) u (by simpa using hu)
    exact ⟨m',t',by simpa using e3,e4⟩
 exact this acc.toList xs (by simpa using hs) fun j v hv=>hi j v (by rw [<- IN];exact hv)
theorem tX {a:ag} {ns:List Int} {QL:List ap->bi->Prop} (hh:A.handled=none) (hS:gR P w s.heap a ns) (hz:ns.length<=sizeLine)
  (hQ:∀us xs h' d' tk,NO us xs->xs.Perm ns->(∀b o,s.heap.get? b=some o->h'.get? b=some o)->QL us {s with heap:=h',drawn:=d',toks:=tk}):wpAny (model P w) A (collect (.ref a)) QL E s :=by
 have aY:a<s.heap.objs.size:=let ⟨_,_,_,_,ho,_⟩:=hS;im ho
 have Kd:s.heap.objs.size≠a:=Qp aY
 unfold collect
 refine ba (wpAny_runValue (O6 F.entry_proto_collect ?_))
 rw [KB F.plain_proto_collect _]
 show wpAny _ A.in1 (newList []>>=fun l=>again (.builtin "list.__iadd__" ⟨[l,.ref a],[]⟩)) _ _ s
 refine ba (tz ?_)
 refine ce ⟨Pz Pu _,O6 F.entry_list_iadd ?_⟩
 rw [KB Pu _]
 have F2:gR P w (s.heap.push {cls:=.type "list",data:=.seq ([]:List ap).toArray}) a ns:=hS.cO fun o e=>ci _ e
 have T1:bi.TypeIs {s with heap:=s.heap.push {cls:=.type "list",data:=.seq ([]:List ap).toArray}} (.ref a) "set" := gR.typeIs (P:=P) (w:=w) (h:=s.heap) (s:={s with heap:=_}) F2
 show wpAny _ A.in1 (GG (.ref s.heap.objs.size) (.ref a) (.ref s.heap.objs.size)) _ _ _
 unfold GG
 refine ba (Qw T1 ?_)
 have h1:uu.List.listSameRef (.ref s.heap.objs.size) (.ref a)=false :=by simp [uu.List.listSameRef,Kd]
 have h2:(IT "set" == IT "list")=false :=by decide
 have h3:(IT "set" == IT "tuple")=false :=by decide
 simp only [h1,h2,h3,Bool.or_false,l4,if_false]
 refine ba (vJ (s:={s with heap:=s.heap.push {cls:=.type "list",data:=.seq ([]:List ap).toArray}}) F2 ?_)
 intro I h' d' xs fp St hp hk hI MN hW rR
 have T2:bi.TypeIs {s with heap:=h',drawn:=d'} (.ref a) "set" := gR.typeIs (P:=P) (w:=w) (h:=s.heap) (s:={s with heap:=_,drawn:=d'}) (F2.cO fun o e=>hk a o e)
 refine ba (IS (tW T2 ?_))
 show wpAny _ A.in1 (if _=true then _ else _) _ _ _
 rw [if_pos (by kernel_rfl)]
 show wpAny _ A.in1 (rule "list.extend.makes-room" >>= fun _=>uu.List.listTouch (.ref s.heap.objs.size)>>=fun _=>
  again (.builtin "list.extend.loop" ⟨[.ref s.heap.objs.size,.ref I,.ref s.heap.objs.size],[]⟩)) _ _ _
 refine ba (Po ?_)
 have BR:h'.get? s.heap.objs.size=some {cls:=.type "list",data:=.seq ([]:List ap).toArray}:=hk _ _ (i1 _ rfl)
 refine ba ?_
 show wpAny _ A.in1 (updateSeq s.heap.objs.size (·.push .none)>>=fun _=>updateSeq s.heap.objs.size (·.pop)) _ _ _
 refine ba (wpAny_updateSeq BR rfl ?_)
 have BU:=IF (Nd (·.push Cs)) BR rfl
 refine wpAny_updateSeq BU rfl ?_
 have IX:=IF (Nd (·.pop)) BU rfl
 have oth:∀b o,b≠s.heap.objs.size->h'.get? b=some o->((h'.update s.heap.objs.size (Nd (·.push Cs))).update s.heap.objs.size (Nd (·.pop))).get? b=some o:=
  fun b o hb e=>(xb _ _ (xy hb)).trans ((xb _ _ (xy hb)).trans e)
 have F3:(s.heap.push {cls:=.type "list",data:=.seq ([]:List ap).toArray}).objs.size=s.heap.objs.size+1:=AT _ _
 have Ke:s.heap.objs.size ∉ fp:=fun hm=>by
  rcases MN _ hm with z|z
  ·exact Kd z
  ·have z':s.heap.objs.size+1<=s.heap.objs.size :=by rw [<- F3];exact z
   exact absurd z' (Nat.not_succ_le_self _)
 have W:=hW A.in1.in1 (by simp [hh])
 have hl:xs.length<=sizeLine :=by rw [hp.length_eq];exact hz
 refine ce ⟨Pz F.plain_extend_loop _,codeAny_extend_loopS (W.of_in1) hl _ Ke _ xs.length 0 _ _ _ rfl (sK _) (W.frame 0 ({s with heap:=h',drawn:=d'}:bi) _ s.toks rR (c8 _) fun b hb o e=>oth b o (fun h=>Ke (h▸hb)) e) IX (ItemsOf.nil _) fun s' gQ c' hm MO F4=>?_⟩
 show wpAny _ A (load s.heap.objs.size>>=_) _ _ s'
 refine ba (wpAny_load MO ?_)
 refine ce ?_
 obtain ⟨h2,g2,d2,MP,os2⟩:=s'
 have eg:g2=s.gens:=hm.gens
 have ed:d2=d':=hm.drawn
 have eo:os2=s.os:=hm.os
 subst eg;subst ed;subst eo
 refine hQ _ xs h2 _ MP (ints_of F4) hp fun b o e=>hm.heap b o ?_ (oth b o (lw (im e)) (hk b o (ci _ e)))
 have hb:b<s.heap.objs.size:=im e
 simp only [lc,Qv,or_false,not_or]
 refine ⟨lw hb,fun z=>?_⟩
 have z':s.heap.objs.size+1<=b :=by rw [<- F3,z];exact hI
 exact absurd (kw (BN hb) z') (AN _)
end
def sortI (ns:List Int):List Int:=ns.mergeSort fun a b=>decide (a<=b)
theorem sortI_perm (ns:List Int):(sortI ns).Perm ns:=List.mergeSort_perm _ _
theorem Am (ns:List Int):(sortI ns).Pairwise (·<=·) :=by
 have:=List.pairwise_mergeSort (le:=fun a b:Int=>decide (a<=b)) (fun a b c h1 h2=>by simp only [decide_eq_true_eq] at *;omega) (fun a b=>by simp only [O8,decide_eq_true_eq];omega) ns
 exact this.imp fun h=>by simpa using h
theorem tY {a b:List Int} (p:a.Perm b) (ha:a.Pairwise (·<=·)) (hb:b.Pairwise (·<=·)):a=b:=PK.eq_of_pairwise (le:=(·<=·)) (fun x y _ _ h1 h2=>Int.le_antisymm h1 h2) ha hb p
theorem rS {ms ns:List Int} (p:ms.Perm ns) (h:ms.Pairwise (·<=·)):ms=sortI ns:=tY (p.trans (sortI_perm ns).symm) h (Am ns)
theorem nO:∀{ns:List Int} {us:List ap},Vals (ns.map V.int) us->NO us ns
 | [],_,.nil=>.nil
 |n::ns,_,.cons r t=>by
          obtain ⟨k,rfl⟩:=r
          exact .cons _ _ (nO t)
theorem kM:∀{ns:List Int} {us:List ap},NO us ns->Vals (ns.map V.int) us
 |_,_,.nil=>.nil
 |_,_,.cons n t r=>.cons ⟨t,rfl⟩ (kM r)
section
variable {P:f8} {w:ii} {A:l8} {E:ap->bi->Prop} {s:bi}
theorem mq {T:String} {l:ag} {vs:List ap} {Q:List ap->bi->Prop} {o:i4} {n:Nat} (ho:s.heap.get? l=some o) (hc:o.cls=.type T) (hd:o.data=.seq vs.toArray n) (hT:T = "list" \/ T = "tuple")
  (h:∀h',(∀b o,s.heap.get? b=some o->h'.get? b=some o)->Q vs {s with heap:=h'}) (hsz:vs.length<=sizeLine):wpAny (model P w) A (collect (.ref l)) Q E s :=by
 unfold collect
 refine ba (wpAny_runValue (O6 F.entry_proto_collect ?_))
 rw [KB F.plain_proto_collect _]
 show wpAny _ A.in1 (newList []>>=fun l'=>again (.builtin "list.__iadd__" ⟨[l',.ref l],[]⟩)) _ _ s
 refine ba (wpAny_newList (ce ⟨Pz Pu _,O6 F.entry_list_iadd ?_⟩))
 rw [KB Pu _]
 show wpAny _ A.in1 (GG (.ref s.heap.objs.size) (.ref l) (.ref s.heap.objs.size)) _ _ {s with heap:=s.heap.push (seqObj "list" #[] 0)}
 unfold GG
 have fX:(s.heap.push (seqObj "list" #[] 0)).get? l=some o:=ci _ ho
 refine ba (Qw (T:=T) ⟨o,fX,hc⟩ ?_)
 rw [if_pos (by rcases hT with rfl|rfl <;> simp)]
 refine ba (listItems_at fX hd ?_)
 refine ba (listItems_at (xs:=#[]) (n:=0) (i1 _ rfl) rfl ?_)
 rw [if_neg (by simp)]
 refine ba (listUpdate_at (xs:=#[]) (n:=0) (i1 _ rfl) rfl ?_ (sK _) (by show (#[]++vs.toArray).size<=sizeLine+1;simp only [Array.size_append,ff,O9];omega))
 refine ce ?_
 show wpAny (model P w) A (load s.heap.objs.size>>=_) Q E _
 refine ba (wpAny_load (get?_update_seq (i1 _ rfl) _) ?_)
 show wpAny _ _ (pure ((#[]:Array ap)++vs.toArray).toList) Q E _
 rw [show ((#[]:Array ap)++vs.toArray).toList=vs by simp]
 exact ce (h _ fun b o e=>(xb _ _ (Qp (im e))).trans (ci _ e))
theorem vK {a:ap} {ns:List Int} {Q:ap->bi->Prop} (LA:∀QL:List ap->bi->Prop,(∀us xs h' d' tk,NO us xs->xs.Perm ns->(∀b o,s.heap.get? b=some o->h'.get? b=some o)->QL us {s with heap:=h',drawn:=d',toks:=tk})->wpAny (model P w) A.in1 (collect a) QL E s) (F5:ns.length<64)
  (h:∀(h1 h':gl) d' tk (us:List ap) e,NO us (sortI ns)->(∀b o,s.heap.get? b=some o->h1.get? b=some o)->(∀b o,h1.get? b=some o->h'.get? b=some o)->h'.get? h1.objs.size=some {cls:=.type "list",data:=.seq us.toArray e}->Q (.ref h1.objs.size) {s with heap:=h',drawn:=d',toks:=tk}) :
  wpAny (model P w) A (call (.builtin "sorted") [a]) Q E s :=by
 refine Calls.call_function_entry kind_sorted plain_sorted entry_sorted (args_sorted1 _) ?_
 unfold uu.«sorted»
 refine ba (m:=checkCount "sorted" 1 1 _) (ce ?_)
 refine ba (LA _ fun us xs h' d' tk hI hp hk=>?_)
 have F6:us.length<64 :=by
  have:us.length=xs.length:=(kM hI).length.symm.trans (cr _)
  rw [this,hp.length_eq]
  exact F5
 refine ba (wpAny_newList ?_ (hsz:=r6 (Gc F6) (by decide)))
 have wY:(h'.push (seqObj "list" us.toArray 0)).get? h'.objs.size=some (seqObj "list" us.toArray 0):=i1 _ rfl
 refine ba (IS (xw slot_list_sort ⟨_,wY,rfl⟩ entry_list_sort (list_sort_tree wY hI F6 fun out OQ a1 a2 a3=>⟨_,rfl,?_⟩) (args_list_sort _)))
 refine ce ⟨_,rfl,?_⟩
 obtain ⟨e,he⟩:=sortedHeap_at (out:=out) wY
 refine h h' _ d' tk out.toList e (by rw [<- rS (a2.trans hp) a3];exact a1) hk (fun b o hb=>?_) (by simpa using he)
 have aY:=im hb
 rw [sortedHeap_old (lw aY) (by rw [AT];exact BN aY)]
 exact ci _ hb
end
theorem Di {X:Cx} {pins:List (ag×i4)} {σ:St} {H:Hp} {s:bi} {a:ag} {ns:List Int} (I:Inv X pins σ H s) (h:H a=some (vD X.prog X.w a ns)):gR X.prog X.w s.heap a ns:=(I.hok a _ h).1
inductive Dt where
 |ao|bl (b:Bool)|int (i:Int)|str (x:br)|lst (xs:List Dt)|tup (xs:List Dt)
inductive dE (H:Hp):V->Dt->Prop where
 |ao:dE H .ao .ao
 |bl (b:Bool):dE H (.bl b) (.bl b)
 |int (i:Int):dE H (.int i) (.int i)
 |str (x:br):dE H (.str x) (.str x)
 |lst {a:ag} {xs:List V} {ds:List Dt} (e:H a=some (.lst xs)) (hl:xs.length=ds.length) (h:∀(i:Nat) (x:V) (d:Dt),xs[i]?=some x->ds[i]?=some d->dE H x d):dE H (.ref a) (.lst ds)
 |tup {a:ag} {xs:List V} {ds:List Dt} (e:H a=some (.tup xs)) (hl:xs.length=ds.length) (h:∀(i:Nat) (x:V) (d:Dt),xs[i]?=some x->ds[i]?=some d->dE H x d):dE H (.ref a) (.tup ds)
mutual
def c6:Dt->Dt->Bool
 | .ao,.ao=>true
 | .bl a,.bl b=>a==b
 | .bl a,.int b=>(if a then 1 else 0)==b
 | .int a,.bl b=>a==(if b then 1 else 0)
 | .int a,.int b=>a==b
 | .str a,.str b=>a==b
 | .lst xs,.lst ys=>iz xs ys
 | .tup xs,.tup ys=>iz xs ys
 |_,_=>false
def iz:List Dt->List Dt->Bool
 | [],[]=>true
 |x::xs,y::ys=>c6 x y && iz xs ys
 |_,_=>false
end
mutual
theorem iA:∀d:Dt,c6 d d=true
 | .ao=>by simp [c6]
 | .bl b=>by simp [c6]
 | .int i=>by simp [c6]
 | .str x=>by simp [c6]
 | .lst xs=>by simp only [c6];exact kN xs
 | .tup xs=>by simp only [c6];exact kN xs
theorem kN:∀ds:List Dt,iz ds ds=true
 | []=>by simp [iz]
 |d::ds=>by simp only [iz];rw [iA d,kN ds];rfl
end
theorem dw:∀(xs ys:List Dt),iz xs ys=((io (min xs.length ys.length)).all (fun j=>c6 (xs.getD j .ao) (ys.getD j .ao)) && xs.length==ys.length)
 | [],[]=>by simp [iz]
 | [],_::_=>by simp [iz]
 |_::_,[]=>by simp [iz]
 |x::xs,y::ys=>by
          rw [iz,dw xs ys]
          have e:min (x::xs).length (y::ys).length=min xs.length ys.length+1 :=by simp [Nat.succ_min_succ]
          rw [e,List.range_succ_eq_map,Py,List.all_map]
          have e2:((x::xs).length==(y::ys).length)=(xs.length==ys.length) :=by simp
          rw [e2,Bool.and_assoc]
          rfl
theorem dE.inj {H:Hp} {v:V} {d:Dt} (h:dE H v d):∀{d':Dt},dE H v d'->d=d':=by
 induction h with
 |ao=>intro d' h';cases h';rfl
 |bl b=>intro d' h';cases h';rfl
 |int i=>intro d' h';cases h';rfl
 |str x=>intro d' h';cases h';rfl
 |lst e hl h ih=>
  intro d' h'
  cases h' with
  |lst e' F7 h'=>
   rw [e] at e';cases e'
   congr 1
   refine Qk fun i=>?_
   rename_i xs ds ds'
   by_cases hi:i<xs.length
   ·rw [al (by omega),al (by omega)]
    exact congrArg some (ih i _ _ (al hi) (al (by omega)) (h' i _ _ (al hi) (al (by omega))))
   ·rw [Cn (by omega),Cn (by omega)]
  |tup e' F7 h'=>rw [e] at e';cases e'
 |tup e hl h ih=>
  intro d' h'
  cases h' with
  |lst e' F7 h'=>rw [e] at e';cases e'
  |tup e' F7 h'=>
   rw [e] at e';cases e'
   congr 1
   refine Qk fun i=>?_
   rename_i xs ds ds'
   by_cases hi:i<xs.length
   ·rw [al (by omega),al (by omega)]
    exact congrArg some (ih i _ _ (al hi) (al (by omega)) (h' i _ _ (al hi) (al (by omega))))
   ·rw [Cn (by omega),Cn (by omega)]
mutual
def fF:Dt->Nat
 | .lst xs=>eJ xs+1
 | .tup xs=>eJ xs+1
 |_=>0
def eJ:List Dt->Nat
 | []=>0
 |x::xs=>max (fF x) (eJ xs)
end
theorem iB:∀{ds:List Dt} {i:Nat} {d:Dt},ds[i]?=some d->fF d<=eJ ds
 | [],_,_,h=>by simp at h
 |x::xs,0,d,h=>by
          simp at h;subst h
          rw [eJ];exact Nat.le_max_left _ _
 |x::xs,i+1,d,h=>by
          rw [eJ]
          exact r6 (iB (i:=i) (by simpa using h)) (Nat.le_max_right _ _)
section
variable {X:Cx} {pins:List (ag×i4)} {σ:St} {H:Hp} {s:bi}
theorem Inv.lists (I:Inv X pins σ H s) {a:ag} {xs:List V} (h:H a=some (.lst xs)):∃its:List ap,Vals xs its/\s.heap.IsList a its.toArray :=by
 obtain ⟨its,rv,p,_⟩:=I.list (bA.of h)
 exact ⟨its,rv,p.isList⟩
theorem Inv.tups (I:Inv X pins σ H s) {a:ag} {xs:List V} (h:H a=some (.tup xs)):∃its:List ap,Vals xs its/\s.heap.IsTuple a its.toArray :=by
 obtain ⟨its,rv,p,_⟩:=I.tuple (cP.of h)
 exact ⟨its,rv,p⟩
theorem nQ (I:Inv X pins σ H s) {x y:V} {d:Dt} (hx:dE H x d):∀{e:Dt} {u v:ap} {A:l8},dE H y e->RelV x u->RelV y v->A.units+fF d<cLine->ij A s u v (c6 d e) :=by
 have lists:=fun {a:ag} {xs:List V} (h:H a=some (.lst xs))=>I.lists h
 have tups:=fun {a:ag} {xs:List V} (h:H a=some (.tup xs))=>I.tups h
 induction hx generalizing y with
 |ao=>
  intro e u v A hy rx ry hu
  have aM:A.units<cLine :=by omega
  cases rx
  cases hy with
  |ao=>cases ry;exact PP _
  |bl b=>cases ry;exact ij.none_bool _
  |int i=>obtain ⟨t,rfl⟩:=ry;exact ij.none_int _ _
  |str z=>obtain ⟨t,rfl⟩:=ry;exact ij.none_str _ _
  |lst e2 _ _=>cases ry;obtain ⟨_,_,p⟩:=lists e2;exact ij.none_list p aM
  |tup e2 _ _=>cases ry;obtain ⟨_,_,p⟩:=tups e2;exact ij.none_tuple p aM
 |bl a=>
  intro e u v A hy rx ry hu
  have aM:A.units<cLine :=by omega
  cases rx
  cases hy with
  |ao=>cases ry;exact ij.bool_none _
  |bl b=>cases ry;exact ij.bool_bool _ _
  |int i=>obtain ⟨t,rfl⟩:=ry;exact ij.bool_int _ _ _
  |str z=>obtain ⟨t,rfl⟩:=ry;exact ij.bool_str _ _ _
  |lst e2 _ _=>cases ry;obtain ⟨_,_,p⟩:=lists e2;exact ij.bool_list _ p aM
  |tup e2 _ _=>cases ry;obtain ⟨_,_,p⟩:=tups e2;exact ij.bool_tuple _ p aM
 |int a=>
  intro e u v A hy rx ry hu
  have aM:A.units<cLine :=by omega
  obtain ⟨ta,rfl⟩:=rx
  cases hy with
  |ao=>cases ry;exact ij.int_none _ _
  |bl b=>cases ry;exact ij.int_bool _ _ _
  |int i=>obtain ⟨t,rfl⟩:=ry;exact ij.int_int _ _ _ _
  |str z=>obtain ⟨t,rfl⟩:=ry;exact P6 _ _ _ _
  |lst e2 _ _=>cases ry;obtain ⟨_,_,p⟩:=lists e2;exact ij.int_list _ _ p aM
  |tup e2 _ _=>cases ry;obtain ⟨_,_,p⟩:=tups e2;exact ij.int_tuple _ _ p aM
 |str a=>
  intro e u v A hy rx ry hu
  have aM:A.units<cLine :=by omega
  obtain ⟨ta,rfl⟩:=rx
  cases hy with
  |ao=>cases ry;exact ij.str_none _ _
  |bl b=>cases ry;exact ij.str_bool _ _ _
  |int i=>obtain ⟨t,rfl⟩:=ry;exact P7 _ _ _ _
  |str z=>obtain ⟨t,rfl⟩:=ry;exact ij.str_str _ _ _ _
  |lst e2 _ _=>cases ry;obtain ⟨_,_,p⟩:=lists e2;exact ij.str_list _ _ p aM
  |tup e2 _ _=>cases ry;obtain ⟨_,_,p⟩:=tups e2;exact ij.str_tuple _ _ p aM
 |lst e1 jx h1 ih=>
  rename_i a xs ds
  intro e u v A hy rx ry hu
  have aM:A.units<cLine :=by omega
  have xY:A.units+eJ ds+1<cLine :=by rw [fF] at hu;omega
  cases rx
  obtain ⟨its,rv,p⟩:=lists e1
  cases hy with
  |ao=>cases ry;exact ij.list_none p aM
  |bl b=>cases ry;exact ij.list_bool _ p aM
  |int i=>obtain ⟨t,rfl⟩:=ry;exact ij.list_int _ _ p aM
  |str z=>obtain ⟨t,rfl⟩:=ry;exact ij.list_str _ _ p aM
  |lst e2 gX h2=>
   rename_i b ys es
   cases ry
   by_cases rT:a=b
   ·subst rT
    have:=(dE.lst e1 jx h1).inj (dE.lst e2 gX h2)
    cases this
    rw [iA]
    exact PP _
   ·obtain ⟨da,gC,p2⟩:=lists e2
    have l1:=rv.length
    have l2:=gC.length
    have at_:∀j (g1:j<its.toArray.size) (g2:j<da.toArray.size),ij A.in1 s its.toArray[j] da.toArray[j] (c6 (ds.getD j .ao) (es.getD j .ao)):=fun j g1 g2=>by
     have gD:j<xs.length :=by rw [l1];simpa using g1
     have gE:j<ys.length :=by rw [l2];simpa using g2
     have r1:=bY rv g1
     have r2:=bY gC g2
     rw [cb,al gD] at r1
     rw [cb,al gE] at r2
     have d1:ds[j]?=some ds[j]:=al (by omega)
     have d2:es[j]?=some es[j]:=al (by omega)
     rw [cb,cb,d1,d2]
     have:=iB d1
     exact ih j _ _ (al gD) d1 (h2 j _ _ (al gE) d2) r1 r2 (by show A.units+1+_<cLine;omega)
    refine ij.of_refs rT ?_
    rw [c6,dw]
    by_cases hsz:ds.length=es.length
    ·have q:=lp.lists p p2 (by simp only [ff];omega) aM at_
     have z:(ds.length==es.length)=true :=by simpa using hsz
     rw [z,Bool.and_true,<- hsz,GM]
     rw [ff,<- l1,jx] at q
     exact q
    ·have z:(ds.length==es.length)=false :=by simpa using hsz
     rw [z,Bool.and_false]
     exact lp.lists_lengths p p2 (by simp only [ff];simpa [bne_iff_ne] using (show its.length≠da.length by omega)) aM
  |tup e2 gX h2=>cases ry;obtain ⟨_,_,p2⟩:=tups e2;exact ij.list_tuple p p2 aM
 |tup e1 jx h1 ih=>
  rename_i a xs ds
  intro e u v A hy rx ry hu
  have aM:A.units<cLine :=by omega
  have xY:A.units+eJ ds+1<cLine :=by rw [fF] at hu;omega
  cases rx
  obtain ⟨its,rv,p⟩:=tups e1
  cases hy with
  |ao=>cases ry;exact ij.tuple_none p aM
  |bl b=>cases ry;exact ij.tuple_bool _ p aM
  |int i=>obtain ⟨t,rfl⟩:=ry;exact ij.tuple_int _ _ p aM
  |str z=>obtain ⟨t,rfl⟩:=ry;exact ij.tuple_str _ _ p aM
  |lst e2 gX h2=>cases ry;obtain ⟨_,_,p2⟩:=lists e2;exact ij.tuple_list p p2 aM
  |tup e2 gX h2=>
   rename_i b ys es
   cases ry
   by_cases rT:a=b
   ·subst rT
    have:=(dE.tup e1 jx h1).inj (dE.tup e2 gX h2)
    cases this
    rw [iA]
    exact PP _
   ·obtain ⟨da,gC,p2⟩:=tups e2
    have l1:=rv.length
    have l2:=gC.length
    have at_:∀j (g1:j<its.toArray.size) (g2:j<da.toArray.size),ij A.in1 s its.toArray[j] da.toArray[j] (c6 (ds.getD j .ao) (es.getD j .ao)):=fun j g1 g2=>by
     have gD:j<xs.length :=by rw [l1];simpa using g1
     have gE:j<ys.length :=by rw [l2];simpa using g2
     have r1:=bY rv g1
     have r2:=bY gC g2
     rw [cb,al gD] at r1
     rw [cb,al gE] at r2
     have d1:ds[j]?=some ds[j]:=al (by omega)
     have d2:es[j]?=some es[j]:=al (by omega)
     rw [cb,cb,d1,d2]
     have:=iB d1
     exact ih j _ _ (al gD) d1 (h2 j _ _ (al gE) d2) r1 r2 (by show A.units+1+_<cLine;omega)
    refine ij.of_refs rT ?_
    rw [c6,dw]
    have q:=lp.tuples p p2 aM at_
    rw [ff,ff,<- l1,<- l2,jx,gX] at q
    exact q
end
section
variable {X:Cx} {pins:List (ag×i4)} {σ:St} {H:Hp} {s:bi}
theorem F8 (I:Inv X pins σ H s) {x y:V} {d e:Dt} {u v:ap} {A:l8} (hx:dE H x d) (hy:dE H y e) (rx:RelV x u) (ry:RelV y v) (hu:A.units+fF d<cLine):lp A s u v (c6 d e) :=by
 have aM:A.units<cLine :=by omega
 have lists:=fun {a:ag} {xs:List V} (h:H a=some (.lst xs))=>I.lists h
 have tups:=fun {a:ag} {xs:List V} (h:H a=some (.tup xs))=>I.tups h
 cases hx with
 |ao=>
  cases rx
  cases hy with
  |ao=>cases ry;exact lp.none_none
  |bl b=>cases ry;exact lp.none_bool _
  |int b=>obtain ⟨t,rfl⟩:=ry;exact lp.none_int _ _
  |str b=>obtain ⟨t,rfl⟩:=ry;exact lp.none_str _ _
  |lst e2 _ _=>cases ry;obtain ⟨_,_,p⟩:=lists e2;exact lp.none_list p aM
  |tup e2 _ _=>cases ry;obtain ⟨_,_,p⟩:=tups e2;exact lp.none_tuple p aM
 |bl a=>
  cases rx
  cases hy with
  |ao=>cases ry;exact lp.bool_none _
  |bl b=>cases ry;exact lp.bool_bool _ _
  |int b=>obtain ⟨t,rfl⟩:=ry;exact lp.bool_int _ _ _
  |str b=>obtain ⟨t,rfl⟩:=ry;exact lp.bool_str _ _ _
  |lst e2 _ _=>cases ry;obtain ⟨_,_,p⟩:=lists e2;exact lp.bool_list _ p aM
  |tup e2 _ _=>cases ry;obtain ⟨_,_,p⟩:=tups e2;exact lp.bool_tuple _ p aM
 |int a=>
  obtain ⟨ta,rfl⟩:=rx
  cases hy with
  |ao=>cases ry;exact lp.int_none _ _
  |bl b=>cases ry;exact lp.int_bool _ _ _
  |int b=>obtain ⟨t,rfl⟩:=ry;exact lp.int_int _ _ _ _
  |str b=>obtain ⟨t,rfl⟩:=ry;exact lp.int_str _ _ _ _
  |lst e2 _ _=>cases ry;obtain ⟨_,_,p⟩:=lists e2;exact lp.int_list _ _ p aM
  |tup e2 _ _=>cases ry;obtain ⟨_,_,p⟩:=tups e2;exact lp.int_tuple _ _ p aM
 |str a=>
  obtain ⟨ta,rfl⟩:=rx
  cases hy with
  |ao=>cases ry;exact lp.str_none _ _
  |bl b=>cases ry;exact lp.str_bool _ _ _
  |int b=>obtain ⟨t,rfl⟩:=ry;exact lp.str_int _ _ _ _
  |str b=>obtain ⟨t,rfl⟩:=ry;exact lp.str_str _ _ _ _
  |lst e2 _ _=>cases ry;obtain ⟨_,_,p⟩:=lists e2;exact lp.str_list _ _ p aM
  |tup e2 _ _=>cases ry;obtain ⟨_,_,p⟩:=tups e2;exact lp.str_tuple _ _ p aM
 |lst e1 jx h1=>
  rename_i a xs ds
  have xY:A.units+eJ ds+1<cLine :=by rw [fF] at hu;omega
  cases rx
  obtain ⟨its,rv,p⟩:=lists e1
  cases hy with
  |ao=>cases ry;exact lp.list_none p aM
  |bl b=>cases ry;exact lp.list_bool _ p aM
  |int b=>obtain ⟨t,rfl⟩:=ry;exact lp.list_int _ _ p aM
  |str b=>obtain ⟨t,rfl⟩:=ry;exact lp.list_str _ _ p aM
  |lst e2 gX h2=>
   rename_i b ys es
   cases ry
   obtain ⟨da,gC,p2⟩:=lists e2
   have l1:=rv.length
   have l2:=gC.length
   have at_:∀j (g1:j<its.toArray.size) (g2:j<da.toArray.size),ij A.in1 s its.toArray[j] da.toArray[j] (c6 (ds.getD j .ao) (es.getD j .ao)):=fun j g1 g2=>by
    have gD:j<xs.length :=by rw [l1];simpa using g1
    have gE:j<ys.length :=by rw [l2];simpa using g2
    have r1:=bY rv g1
    have r2:=bY gC g2
    rw [cb,al gD] at r1
    rw [cb,al gE] at r2
    have d1:ds[j]?=some ds[j]:=al (by omega)
    have d2:es[j]?=some es[j]:=al (by omega)
    rw [cb,cb,d1,d2]
    have:=iB d1
    exact nQ I (h1 j _ _ (al gD) d1) (h2 j _ _ (al gE) d2) r1 r2 (by show A.units+1+_<cLine;omega)
   rw [c6,dw]
   by_cases hsz:ds.length=es.length
   ·have q:=lp.lists p p2 (by simp only [ff];omega) aM at_
    have z:(ds.length==es.length)=true :=by simpa using hsz
    rw [z,Bool.and_true,<- hsz,GM]
    rw [ff,<- l1,jx] at q
    exact q
   ·have z:(ds.length==es.length)=false :=by simpa using hsz
    rw [z,Bool.and_false]
    exact lp.lists_lengths p p2 (by simp only [ff];simpa [bne_iff_ne] using (show its.length≠da.length by omega)) aM
  |tup e2 gX h2=>cases ry;obtain ⟨_,_,p2⟩:=tups e2;exact lp.list_tuple p p2 aM
 |tup e1 jx h1=>
  rename_i a xs ds
  have xY:A.units+eJ ds+1<cLine :=by rw [fF] at hu;omega
  cases rx
  obtain ⟨its,rv,p⟩:=tups e1
  cases hy with
  |ao=>cases ry;exact lp.tuple_none p aM
  |bl b=>cases ry;exact lp.tuple_bool _ p aM
  |int b=>obtain ⟨t,rfl⟩:=ry;exact lp.tuple_int _ _ p aM
  |str b=>obtain ⟨t,rfl⟩:=ry;exact lp.tuple_str _ _ p aM
  |lst e2 gX h2=>cases ry;obtain ⟨_,_,p2⟩:=lists e2;exact lp.tuple_list p p2 aM
  |tup e2 gX h2=>
   rename_i b ys es
   cases ry
   obtain ⟨da,gC,p2⟩:=tups e2
   have l1:=rv.length
   have l2:=gC.length
   have at_:∀j (g1:j<its.toArray.size) (g2:j<da.toArray.size),ij A.in1 s its.toArray[j] da.toArray[j] (c6 (ds.getD j .ao) (es.getD j .ao)):=fun j g1 g2=>by
    have gD:j<xs.length :=by rw [l1];simpa using g1
    have gE:j<ys.length :=by rw [l2];simpa using g2
    have r1:=bY rv g1
    have r2:=bY gC g2
    rw [cb,al gD] at r1
    rw [cb,al gE] at r2
    have d1:ds[j]?=some ds[j]:=al (by omega)
    have d2:es[j]?=some es[j]:=al (by omega)
    rw [cb,cb,d1,d2]
    have:=iB d1
    exact nQ I (h1 j _ _ (al gD) d1) (h2 j _ _ (al gE) d2) r1 r2 (by show A.units+1+_<cLine;omega)
   rw [c6,dw]
   have q:=lp.tuples p p2 aM at_
   rw [ff,ff,<- l1,<- l2,jx,gX] at q
   exact q
theorem F9 (I:Inv X pins σ H s) {x y:V} {d e:Dt} {u v:ap} {A:l8} (hx:dE H x d) (hy:dE H y e) (rx:RelV x u) (ry:RelV y v) (hu:A.units+fF d<cLine):jp A s u v (!(c6 d e)) :=by
 have aM:A.units<cLine :=by omega
 have lists:=fun {a:ag} {xs:List V} (h:H a=some (.lst xs))=>I.lists h
 have tups:=fun {a:ag} {xs:List V} (h:H a=some (.tup xs))=>I.tups h
 cases hx with
 |ao=>
  cases rx
  cases hy with
  |ao=>cases ry;exact jp.none_none
  |bl b=>cases ry;exact jp.none_bool _
  |int b=>obtain ⟨t,rfl⟩:=ry;exact jp.none_int _ _
  |str b=>obtain ⟨t,rfl⟩:=ry;exact jp.none_str _ _
  |lst e2 _ _=>cases ry;obtain ⟨_,_,p⟩:=lists e2;exact jp.none_list p aM
  |tup e2 _ _=>cases ry;obtain ⟨_,_,p⟩:=tups e2;exact jp.none_tuple p aM
 |bl a=>
  cases rx
  cases hy with
  |ao=>cases ry;exact jp.bool_none _
  |bl b=>cases ry;exact jp.bool_bool _ _
  |int b=>obtain ⟨t,rfl⟩:=ry;exact jp.bool_int _ _ _
  |str b=>obtain ⟨t,rfl⟩:=ry;exact jp.bool_str _ _ _
  |lst e2 _ _=>cases ry;obtain ⟨_,_,p⟩:=lists e2;exact jp.bool_list _ p aM
  |tup e2 _ _=>cases ry;obtain ⟨_,_,p⟩:=tups e2;exact jp.bool_tuple _ p aM
 |int a=>
  obtain ⟨ta,rfl⟩:=rx
  cases hy with
  |ao=>cases ry;exact jp.int_none _ _
  |bl b=>cases ry;exact jp.int_bool _ _ _
  |int b=>obtain ⟨t,rfl⟩:=ry;exact jp.int_int _ _ _ _
  |str b=>obtain ⟨t,rfl⟩:=ry;exact jp.int_str _ _ _ _
  |lst e2 _ _=>cases ry;obtain ⟨_,_,p⟩:=lists e2;exact jp.int_list _ _ p aM
  |tup e2 _ _=>cases ry;obtain ⟨_,_,p⟩:=tups e2;exact jp.int_tuple _ _ p aM
 |str a=>
  obtain ⟨ta,rfl⟩:=rx
  cases hy with
  |ao=>cases ry;exact jp.str_none _ _
  |bl b=>cases ry;exact jp.str_bool _ _ _
  |int b=>obtain ⟨t,rfl⟩:=ry;exact jp.str_int _ _ _ _
  |str b=>obtain ⟨t,rfl⟩:=ry;exact jp.str_str _ _ _ _
  |lst e2 _ _=>cases ry;obtain ⟨_,_,p⟩:=lists e2;exact jp.str_list _ _ p aM
  |tup e2 _ _=>cases ry;obtain ⟨_,_,p⟩:=tups e2;exact jp.str_tuple _ _ p aM
 |lst e1 jx h1=>
  rename_i a xs ds
  have xY:A.units+eJ ds+1<cLine :=by rw [fF] at hu;omega
  cases rx
  obtain ⟨its,rv,p⟩:=lists e1
  cases hy with
  |ao=>cases ry;exact jp.list_none p aM
  |bl b=>cases ry;exact jp.list_bool _ p aM
  |int b=>obtain ⟨t,rfl⟩:=ry;exact jp.list_int _ _ p aM
  |str b=>obtain ⟨t,rfl⟩:=ry;exact jp.list_str _ _ p aM
  |lst e2 gX h2=>
   rename_i b ys es
   cases ry
   obtain ⟨da,gC,p2⟩:=lists e2
   have l1:=rv.length
   have l2:=gC.length
   have at_:∀j (g1:j<its.toArray.size) (g2:j<da.toArray.size),ij A.in1 s its.toArray[j] da.toArray[j] (c6 (ds.getD j .ao) (es.getD j .ao)):=fun j g1 g2=>by
    have gD:j<xs.length :=by rw [l1];simpa using g1
    have gE:j<ys.length :=by rw [l2];simpa using g2
    have r1:=bY rv g1
    have r2:=bY gC g2
    rw [cb,al gD] at r1
    rw [cb,al gE] at r2
    have d1:ds[j]?=some ds[j]:=al (by omega)
    have d2:es[j]?=some es[j]:=al (by omega)
    rw [cb,cb,d1,d2]
    have:=iB d1
    exact nQ I (h1 j _ _ (al gD) d1) (h2 j _ _ (al gE) d2) r1 r2 (by show A.units+1+_<cLine;omega)
   rw [c6,dw]
   by_cases hsz:ds.length=es.length
   ·have q:=jp.lists p p2 (by simp only [ff];omega) aM at_
    have z:(ds.length==es.length)=true :=by simpa using hsz
    rw [z,Bool.and_true,<- hsz,GM]
    rw [ff,<- l1,jx] at q
    exact q
   ·have z:(ds.length==es.length)=false :=by simpa using hsz
    rw [z,Bool.and_false]
    exact jp.lists_lengths p p2 (by simp only [ff];simpa [bne_iff_ne] using (show its.length≠da.length by omega)) aM
  |tup e2 gX h2=>cases ry;obtain ⟨_,_,p2⟩:=tups e2;exact jp.list_tuple p p2 aM
 |tup e1 jx h1=>
  rename_i a xs ds
  have xY:A.units+eJ ds+1<cLine :=by rw [fF] at hu;omega
  cases rx
  obtain ⟨its,rv,p⟩:=tups e1
  cases hy with
  |ao=>cases ry;exact jp.tuple_none p aM
  |bl b=>cases ry;exact jp.tuple_bool _ p aM
  |int b=>obtain ⟨t,rfl⟩:=ry;exact jp.tuple_int _ _ p aM
  |str b=>obtain ⟨t,rfl⟩:=ry;exact jp.tuple_str _ _ p aM
  |lst e2 gX h2=>cases ry;obtain ⟨_,_,p2⟩:=lists e2;exact jp.tuple_list p p2 aM
  |tup e2 gX h2=>
   rename_i b ys es
   cases ry
   obtain ⟨da,gC,p2⟩:=tups e2
   have l1:=rv.length
   have l2:=gC.length
   have at_:∀j (g1:j<its.toArray.size) (g2:j<da.toArray.size),ij A.in1 s its.toArray[j] da.toArray[j] (c6 (ds.getD j .ao) (es.getD j .ao)):=fun j g1 g2=>by
    have gD:j<xs.length :=by rw [l1];simpa using g1
    have gE:j<ys.length :=by rw [l2];simpa using g2
    have r1:=bY rv g1
    have r2:=bY gC g2
    rw [cb,al gD] at r1
    rw [cb,al gE] at r2
    have d1:ds[j]?=some ds[j]:=al (by omega)
    have d2:es[j]?=some es[j]:=al (by omega)
    rw [cb,cb,d1,d2]
    have:=iB d1
    exact nQ I (h1 j _ _ (al gD) d1) (h2 j _ _ (al gE) d2) r1 r2 (by show A.units+1+_<cLine;omega)
   rw [c6,dw]
   have q:=jp.tuples p p2 aM at_
   rw [ff,ff,<- l1,<- l2,jx,gX] at q
   exact q
end
section
variable {X:Cx}
def An (neg:Bool):R2:=fun x y H Q=>∃d e,dE H x d/\dE H y e/\fF d<=60/\Q (.bl (if neg then !c6 d e else c6 d e)) H
theorem Ga (hu:X.A.units+64<cLine):OpR X (compareOp .Eq) (An false) :=by
 intro pins s σ H x y v u Q I rx ry h
 obtain ⟨d,e,hx,hy,hd,q⟩:=h
 exact F8 I hx hy rx ry (by omega) X.prog X.w X.xe _ ⟨.bl _,H,I,rfl,q⟩
theorem Gb (hu:X.A.units+64<cLine):OpR X (compareOp .NotEq) (An true) :=by
 intro pins s σ H x y v u Q I rx ry h
 obtain ⟨d,e,hx,hy,hd,q⟩:=h
 exact F9 I hx hy rx ry (by omega) X.prog X.w X.xe _ ⟨.bl _,H,I,rfl,q⟩
end
theorem xZ:bootBuiltins "sorted" = some (.builtin "sorted") :=by decide +kernel
section
variable {X:Cx}
def Gd (K:bn) (H:Hp) (p:ag) (ns:List Int):Prop:=bA K H p (ns.map V.int)\/cP K H p (ns.map V.int)
def uF (P:f8) (w:ii) (K:bn):List V->Hp->VK->Prop:=fun xs H Q=>∃p ns,xs=[.ref p]/\(H p=some (vD P w p ns)\/Gd K H p ns)/\ns.length<64/\∀l,H l=none->Q (.ref l) (upd H l (.lst ((sortI ns).map V.int)))
theorem rV (hc:X.calm=true):c7 X (.builtin "sorted") (uF X.prog X.w X.K) :=by
 intro pins s σ H xs us Q I r h
 obtain ⟨p,ns,rfl,hq,F5,q⟩:=h
 obtain ⟨u,rfl,rx⟩:=vals1 r
 cases rx
 have hh:=I.ok.hd hc
 refine vK (ns:=ns) (fun QL Ge=>?_) F5 (fun h1 h' d' tk us e hI k1 k2 he=>?_)
 ·rcases hq with hq|hq|hq
  ·exact tX (by simp [hh]) (Di I hq) (by have:sizeLine=16777216:=ON;omega) Ge
  ·obtain ⟨its,rv,pl,hz⟩:=I.list hq
   have hl:=rv.length
   obtain ⟨o,ho,dO,n,hd⟩:=pl.isList
   exact mq ho dO hd (.inl rfl) (fun h' k=>Ge its ns h' s.drawn s.toks (nO rv) (.refl _) k) (by omega)
  ·obtain ⟨its,rv,pl,hz⟩:=I.tuple hq
   have hl:=rv.length
   obtain ⟨o,ho,dO,n,hd⟩:=pl
   exact mq ho dO hd (.inr rfl) (fun h' k=>Ge its ns h' s.drawn s.toks (nO rv) (.refl _) k) (by omega)
 ·have I1:Inv X pins σ H {s with heap:=h1,drawn:=d'}:=(I.kept (t':=s.toks) k1).mH ⟨rfl,rfl,I.bare.self⟩
  have hsz:sizeLine=16777216:=ON
  have ob:ObjOk X.prog X.w (upd H h1.objs.size (.lst ((sortI ns).map V.int))) h' h1.objs.size (.lst ((sortI ns).map V.int)):=⟨by rw [cr,(sortI_perm ns).length_eq];omega,us,e,kM hI,he⟩
  exact ⟨.ref h1.objs.size,_,I1.laid (t':=tk) k2 (c8 _) ob,rfl,q _ (I1.hok.fresh (c8 _))⟩
end
theorem ObjOk.there {P:f8} {w:ii} {H:Hp} {h:gl} {a:ag} {o:HO} (x:ObjOk P w H h a o):∃u,h.get? a=some u :=by
 cases o with
 |lst xs=>obtain ⟨_,_,_,_,e⟩:=x;exact ⟨_,e⟩
 |tup xs=>obtain ⟨_,_,_,ob,e,_⟩:=x;exact ⟨_,e⟩
 |dK ai=>obtain ⟨_,_,_,_,o,_,_,e,_⟩:=x;exact ⟨_,e⟩
 |dT ai=>obtain ⟨_,_,_,_,o,_,_,e,_⟩:=x;exact ⟨_,e⟩
 |set S n=>obtain ⟨o,_,_,_,e,_⟩:=x;exact ⟨_,e⟩
 |ins C dx fs=>obtain ⟨_,_,_,e,_⟩:=x;exact ⟨_,e⟩
 |own y=>obtain ⟨_,e⟩:=x;exact ⟨_,e⟩
 |xd fs=>obtain ⟨_,⟨_,_,_,e,_⟩,_⟩:=x;exact ⟨_,e⟩
 |Bv lo hi=>obtain ⟨_,_,_,e⟩:=x;exact ⟨_,e⟩
 |bp ob u=>obtain ⟨e,_⟩:=x;exact ⟨_,e⟩
 |cz ps=>exact ⟨_,x⟩
 |lam ps=>exact ⟨_,x⟩
 |met f y=>exact ⟨_,x⟩
 |ext φ=>obtain ⟨_,⟨_,e⟩,_⟩:=x;exact ⟨_,e⟩
def ft (P:f8) (w:ii):fm:=fun outer H s E e s'=>∃(a C t:ag) (B:gl) (H':Hp),e=.ref a/\s'.os=s.os/\Gn s.gens.size s'.gens/\gl.FlyingW B outer a (.ref C) (.ref t) s'.heap /\
 (∀b o,s.heap.get? b=some o->b ∉ dn outer->∃o',B.get? b=some o')/\(∀b u,H' b=some u->∃o',B.get? b=some o')/\Un (dn outer) [] H H' s.heap s'.heap/\cg P w H' s'.heap/\E (.ref C) none H'
section
variable {X:Cx} {pins:List (ag×i4)} {σ:St} {H H1:Hp} {s s1:bi} {B h':gl}
theorem Inv.kO (I:Inv X pins σ H s) {b:ag} (h1:b≠X.env.locals) (h2:b ∉ X.fs):b ∉ dn X.stack:=fun z=>by
 rcases lc.mp (I.eL b z) with q|q
 ·exact h1 q
 ·exact h2 q
theorem Inv.qK (I:Inv X pins σ H s) {b:ag} {o:i4} (e:X.s₀.heap.get? b=some o):b≠X.env.locals:=fun z=>by
 have l:=im e
 have:=I.ok.above
 rw [<- z] at this
 exact absurd l (QY.mpr this)
theorem Inv.Kf (I1:Inv X pins σ H1 s1) (I:Inv X pins σ H s) (c1:∀b o,s1.heap.get? b=some o->b ∉ dn X.stack->∃o',B.get? b=some o') (c2:∀b u,H b=some u->∃o',B.get? b=some o')
  (k:B.StaysIn s.heap) (k':B.StaysIn h') (up:s.heap.UpToSlots h'):Inv X pins σ H {s with heap:=h'}:=by
 have same:∀b o',(∃o2,B.get? b=some o2)->s.heap.get? b=some o'->h'.get? b=some o':=fun b o' ⟨o2,e⟩ q=>by
  have z:=k b o2 e
  rw [q] at z
  cases z
  exact k' b _ e
 refine ⟨I.ok,I.os,I.bare,⟨fun b o q n hb hx=>?_,fun b o q n hb hx=>?_,I.base.free,fun b o q hx=>?_,I.base.tups,I.base.frzs,I.base.tbls⟩,?_,fun x c e=>?_,I.free,I.freeC,fun p hp=>?_,fun a o e=>?_,I.len⟩
 ·exact same b o (c1 b o (I1.base.keep b o q n hb hx) (I.kO (I.qK q) hb)) (I.base.keep b o q n hb hx)
 ·obtain ⟨sl,e⟩:=I.base.slot b o q n hb hx
  obtain ⟨_,o2,e2,nf⟩:=I.funs.mem hb
  rw [e] at e2
  cases e2
  obtain ⟨MQ,e4⟩:=up b {o with slots:=sl} e nf
  exact ⟨MQ,e4⟩
 ·obtain ⟨o',e⟩:=I.base.there b o q hx
  by_cases hb:b∈X.fs
  ·obtain ⟨_,o2,e2,nf⟩:=I.funs.mem hb
   obtain ⟨sl,e3⟩:=up b _ e2 nf
   exact ⟨_,e3⟩
  ·obtain ⟨o1,q1⟩:=I1.base.there b o q hx
   exact ⟨o',same b o' (c1 b o1 q1 (I.kO (I.qK q) hb)) e⟩
 ·obtain ⟨m,hn,hl⟩:=I.loc
  refine ⟨m,up.ns hn,fun i x v a b c=>?_⟩
  obtain ⟨u,r,l⟩:=hl i x v a b c
  refine ⟨u,r,?_⟩
  rcases l with l|⟨kd,c,ec,o,ho,hd⟩
  ·exact .inl l
  ·obtain ⟨sl,e⟩:=up c o ho fun vs z=>by rw [hd] at z;cases z
   exact .inr ⟨kd,c,ec,_,e,hd⟩
 ·obtain ⟨v,o,ho,hd⟩:=I.cell x c e
  obtain ⟨sl,e⟩:=up c o ho fun vs z=>by rw [hd] at z;cases z
  exact ⟨v,_,e,hd⟩
 ·obtain ⟨p1,p2,p3,p4,p5⟩:=I.pin p hp
  exact ⟨same p.1 p.2 (c1 p.1 p.2 (I1.pin p hp).1 (I.kO p3 p4)) p1,p2,p3,p4,p5⟩
 ·refine (I.hok a o e).cO (fun b u hb q=>?_) (fun _ q=>q) fun _ _ q=>q
  rcases hb with z|z
  ·exact same b u (c2 b o (by rw [z];exact e)) q
  ·exact same b u (c2 b _ z) q
end
section
variable {P:f8} {w:ii} {K:bn} {mg:br->Option ap} {base:gl} {N:List br} {qual:br} {scope:rb} {f:ag} {cd:ap} {A:l8} {outer:List Cc} {s0:bi} {H0:Hp} {E:XK}
theorem BV:Passes (ft P w) (eF (ft P w) P w K mg base N qual scope f cd A outer s0 H0 E) E :=by
 intro pins σ H s e s' I h
 obtain ⟨a,C,t,B,H',rfl,os,gn,fl,c1,c2,un,hok,q⟩:=h
 have I':=I.qF (ch:=[]) os un hok gn (fun b z=>absurd z (by simp))
 refine wpAny_leaves_onW (cls:=.ref C) (a0:=.ref t) I.ok.frames rfl fl fun h' Kg up=>?_
 have I2:=I.Kf I' c1 c2 fl.1 Kg.1 up
 refine ⟨a,C,t,B,H',rfl,I2.os,I2.bare,Kg,fun b o e n=>?_,c2,I2.base,I2.hok,q⟩
 obtain ⟨o1,e1⟩:=I.base.there b o e (fun z=>absurd (show b∈([]:List ag) from z) (by simp))
 exact c1 b o1 e1 (I.kO (I.qK e) n)
def Raises (X:Cx) (E:XK):Prop:=∀(pins:List (ag×i4)) (σ:St) (H:Hp) (s:bi) (C:ag) (h':gl) (a:ag) (vs:List ap),Inv X pins σ H s->gl.MadeExcOf s.heap h' a (.ref C) vs->E (.ref C) none H->X.xe (.ref a) {s with heap:=h'}
theorem Gf:Raises (eF (ft P w) P w K mg base N qual scope f cd A outer s0 H0 E) E :=by
 intro pins σ H s C h' a vs I hx q
 have c1:∀b o,s.heap.get? b=some o->b ∉ dn (eF (ft P w) P w K mg base N qual scope f cd A outer s0 H0 E).stack->∃o',(wv s.heap (dn (eF (ft P w) P w K mg base N qual scope f cd A outer s0 H0 E).stack)).get? b=some o':=
  fun b o e n=>⟨o,OP _ e n⟩
 have c2:∀b u,H b=some u->∃o',(wv s.heap (dn (eF (ft P w) P w K mg base N qual scope f cd A outer s0 H0 E).stack)).get? b=some o':=fun b u hu=>by
  obtain ⟨o,e⟩:=(I.hok b u hu).there
  exact c1 b o e fun z=>by rw [I.jr b z] at hu;cases hu
 have st:(wv s.heap (dn (eF (ft P w) P w K mg base N qual scope f cd A outer s0 H0 E).stack)).StaysIn s.heap:=fun b o e=>P8 _ e
 refine wpAny_leaves_madeW (cls:=.ref C) I.ok.frames rfl st (PySem.W.funFrames_hide I.stack fun env he b hb=>Qa.mpr ⟨env,he,hb⟩) hx fun OS t fl _ _ up=>?_
 have I2:=I.Kf I c1 c2 st fl.1 ((gl.UpToSlots.of_keeps hx.keeps).trans up)
 refine ⟨a,C,t,_,H,rfl,I2.os,I2.bare,fl,fun b o e n=>?_,c2,I2.base,I2.hok,q⟩
 obtain ⟨o1,e1⟩:=I.base.there b o e (fun z=>absurd (show b∈([]:List ag) from z) (by simp))
 exact c1 b o1 e1 (I.kO (I.qK e) n)
end
theorem Dj {K:bn} {h:gl} {C:ag} {pQ:List ap} {newId:String} (X:K.In h) (q:Qf K C pQ newId=true) :
  ∃bm Nn nm qn bs hd sn sub ab col dd k0 k1 k2 k3 k5 mN,h.get? C=some (excClassObj nm qn C Nn bs bm hd sn sub ab col dd k0 k1 k2 k3 k5 newId)/\h.Ns Nn mN/\mN "__init__" = none/\OwnTail h pQ bm :=by
 unfold Qf at q
 split at q
 case h_2=>cases q
 case h_1 dd cd sl ho=>
  split at q
  case h_2=>cases q
  case h_1 C' bm k0 k1 k2 k3 n k5 hm hs=>
   rw [u4,u4,u4,u4,u4] at q
   obtain ⟨⟨⟨⟨⟨q1,q2⟩,q3⟩,q4⟩,q5⟩,q6⟩:=q
   have e1:C'=C:=beq_iff_eq.mp q1
   have e2:n=newId:=beq_iff_eq.mp q2
   have e3:cd.hasDel=false :=by simpa using q3
   subst e1 e2
   obtain ⟨nm,bs,mro,ns,qn,hd,sn,sub,ab,col,del⟩:=cd
   dsimp only at hm e3 q5 q6
   subst hm e3
   have es:sl=#[k0,k1,k2,k3,some (.builtin n),k5] :=by
    cases sl with
    |mk l=>exact congrArg Array.mk hs
   subst es
   exact ⟨bm,ns,nm,qn,bs,hd,sn,sub,ab,col,dd,k0,k1,k2,k3,k5,_,X _ _ ho,gl.Ns.of_isNs (PySem.W.isNs_of_in X q5),PySem.W.nsMap_none_of_in X q5 (beq_iff_eq.mp q6),PySem.W.tail_of_in X q4⟩
section
variable {X:Cx} {x:br} {C:ag} {jn:dL} {rest:List dL} {t:TA} {pQ:List ap} {B newId rW:String} {E:XK} {np aW pos:sB}
def Gg (C:ag) (E:XK) (t:TA):TS:=fun _ σ H=>t σ H fun vs H1=>vs.length<=sizeLine/\E (.ref C) none H1
theorem Ao (O:Qf X.K C pQ newId=true) (FB:ExcBaseFacts B newId rW pQ) (hc:X.calm=true) (hR:Raises X E) (hg:Gl X x) (hm:X.mg x=some (.ref C)) (ha:PA X (jn::rest) t)
  (dS:(x==("__debug__" : br))=false :=by decide) (he:starEach (jn::rest) X.env=(false,eval jn X.env)::starEach rest X.env :=by rfl) (cK:(backTo aW (starEach rest X.env)).any (·.1)=false :=by rfl) :
  PS X (.Raise (some (.Call (.Name x np) (jn::rest) [] aW)) none pos) (Gg C E t) :=by
 refine ⟨fun pins s σ H D I h=>?_⟩
 obtain ⟨bm,Nn,nm,qn,bs,hd,sn,sub,ab,col,dd,k0,k1,k2,k3,k5,mN,hC,hN,MR,T⟩:=Dj I.ok.mod.kin O
 have hp:(backTo aW (starEach (jn::rest) X.env)).any (·.1)=false :=by
  rw [he]
  exact cK
 have uG:=ha aW pins s σ H _ I h
 rw [he] at uG
 refine wpAny_Raise_call_subT (C:=C) (nm:=nm) (q:=qn) (N:=Nn) (bs:=bs) (bm:=bm) (hdct:=hd) (sn:=sn) (sub:=sub) (ab:=ab) (col:=col) (dd:=dd) (k0:=k0) (k1:=k1) (k2:=k2) (k3:=k3) (k5:=k5) FB (mN:=mN)
  (T.hasType FB.hasBase) (I.ok.hd hc) hp MR (lu I hg hm ⟨rfl,?_⟩ dS)
 rw [he]
 refine Calls.evalArgs_plain (thn uG fun us s2 ⟨vs,H2,I2,r,l,q⟩=>?_)
 exact ⟨rfl,by rw [<- r.length];exact l,I2.bk _ _ hC,hN.keeps I2.bk,T.keeps I2.bk,fun h' a hx=>hR pins σ H2 s2 C h' a us I2 hx q⟩
end
end L2
namespace L2
open PySem PySem.Spec PyProof.Rows PySem.W Builtin Builtin.ObjectAttr Builtin.Getset_descriptor
def ExcAt (C a:ag) (h:gl):Prop:=∃o vs,h.get? a=some o/\o.cls=.ref C/\o.data=.fields vs
def LC (C a:ag):HO:=.ext (ExcAt C a)
structure Gh (K:Frag) (C:ag):Prop where
 cls:(clsIn K C).isSome=true
 ga:findIn K (.ref C) "__getattribute__" = some (some (.builtin "BaseException.__getattribute__"))
 gt:findIn K (.ref C) "__getattr__" = some none
 cl:findIn K (.ref C) "__class__" = some (some (.builtin "object.__class__"))
 gg:specialIn K (.builtin "object.__class__") "__get__" = some (some (.builtin "getset_descriptor.__get__"))
 tk:takesIn K (.builtin "object.__class__")=some true
 ob:mroIn K C (.type "object")=some true
 be:mroIn K C (.type "BaseException")=some true
end L2
namespace L2
open PySem PySem.Spec PyProof.Rows PySem.W
structure ya (K:Frag) (C0:ag):Prop where
 ty:typeIn K (.ref C0)=some (.type "type")
 be:subIn K (.ref C0) (.type "BaseException")=some true
 it:(clsIn K C0).isSome=true
theorem vL {P:f8} {w:ii} {X:Cx}:Passes (ft P w) X (fun _ _ _=>False):=fun _ _ _ _ _ _ _ h=>by
 obtain ⟨_,_,_,_,_,_,_,_,_,_,_,_,_,q⟩:=h
 exact q.elim
theorem pE.xS {P:f8} {w:ii} {K:bn} {mg:br->Option ap} {base:gl} {x qual:br} {st:nw} {f:ag} {fd:l3} {N ps:List br} {k:Nat} {sp:Sp} (F:pE K x qual st f fd) (S:aT N ps (aj st)) (len:∀vs H Q E,sp vs H Q E->vs.length=ps.length)
  (jL:∀(A:l8) (outer:List Cc) (s:bi) (H:Hp) (vs:List V) (Q:VK) (E:XK),bF k (A.deeper (envOfC qual (aj st) s.heap.objs.size f fd.code))->sp vs H Q E->
   ∃t,fk (eF (ft P w) P w K mg base N qual (aj st) f fd.code A outer s H E) (bo st) t/\t {nx:=fun _ H'=>Q .ao H',rt:=Q} (start N vs) H):FnOk P w K mg base (ft P w) (k+1) f fd ps sp :=by
 obtain ⟨oc,od,kV,doc,pm,an,ck,ct,iZ,rfl,lk,c9⟩:=F.ex
 exact vo lk c9 S len fun A outer s H vs Q E hr i5=>jL A outer s H vs Q E hr i5
def Kh:List ap:=[.type "ValueError",.type "Exception",.type "BaseException",.type "object"]
def Ap (K:Frag) (C0 C:ag):Bool:=excIn K C Kh "ValueError.__new__" && (clsIn K C).isSome && findIn K (.ref C) "__getattribute__" == some (some (.builtin "BaseException.__getattribute__")) && findIn K (.ref C) "__getattr__" == some none &&
 findIn K (.ref C) "__class__" == some (some (.builtin "object.__class__")) && mroIn K C (.type "object")==some true && mroIn K C (.type "BaseException")==some true && subIn K (.ref C) (.ref C0)==some true && kitOne K (.ref C) (.type "ValueError")==some true
def vM (K:Frag) (C0:ag) (cs:List ag):Bool:=cs.all (Ap K C0) && (cs.all fun C=>cs.all fun D=>kitOne K (.ref C) (.ref D)==some (decide (C=D))) && specialIn K (.builtin "object.__class__") "__get__" == some (some (.builtin "getset_descriptor.__get__")) && takesIn K (.builtin "object.__class__")==some true &&
 typeIn K (.ref C0)==some (.type "type") && subIn K (.ref C0) (.type "BaseException")==some true && (clsIn K C0).isSome
structure Gi (K:Frag) (C0:ag) (cs:List ag):Prop where
 ex:∀C∈cs,excIn K C Kh "ValueError.__new__" = true
 cl:∀C∈cs,Gh K C
 sub:∀C∈cs,subIn K (.ref C) (.ref C0)=some true
 one:∀C∈cs,∀D∈cs,kitOne K (.ref C) (.ref D)=some (decide (C=D))
 val:∀C∈cs,kitOne K (.ref C) (.type "ValueError")=some true
 top:ya K C0
theorem Dk {K:Frag} {C0:ag} {cs:List ag} (h:vM K C0 cs=true):Gi K C0 cs :=by
 unfold vM at h
 simp only [u4] at h
 obtain ⟨⟨⟨⟨⟨⟨h1,h2⟩,h3⟩,h4⟩,h5⟩,h6⟩,h7⟩:=h
 have all:∀C∈cs,Ap K C0 C=true:=u7.mp h1
 have part:∀C∈cs,_:=fun C hC=>by
  have z:=all C hC
  unfold Ap at z
  simp only [u4] at z
  exact z
 refine ⟨fun C hC=>(part C hC).1.1.1.1.1.1.1.1,fun C hC=>?_,fun C hC=>beq_iff_eq.mp (part C hC).1.2,fun C hC D hD=>beq_iff_eq.mp (u7.mp (u7.mp h2 C hC) D hD),fun C hC=>beq_iff_eq.mp (part C hC).2,⟨beq_iff_eq.mp h5,beq_iff_eq.mp h6,h7⟩⟩
 obtain ⟨⟨⟨⟨⟨⟨⟨⟨_,p1⟩,p2⟩,p3⟩,p4⟩,p5⟩,p6⟩,_⟩,_⟩:=part C hC
 exact ⟨p1,beq_iff_eq.mp p2,beq_iff_eq.mp p3,beq_iff_eq.mp p4,beq_iff_eq.mp h3,beq_iff_eq.mp h4,beq_iff_eq.mp p5,beq_iff_eq.mp p6⟩
end L2
namespace L2
open PySem PySem.Spec PyProof.Rows
section
variable {X:Cx} {st:nw} {ι:Type} {Pre:ι->St->Hp->Prop} {D:ι->Ends}
theorem qB {P:f8} {w:ii} {K:bn} (hP:X.prog=P) (hw:X.w=w) (h:X.K=K) (hc:X.calm=true):c7 X (.builtin "sorted") (uF P w K) :=by
 subst hP hw h
 exact rV hc
theorem PS.iX {st:nw} {t:TS} (h:PS X.iX st t):PS X st t:=⟨fun pins s σ H D I hw=>
 l9 (h pins s σ H D (I.gP _) hw) (fun _ _ q=>q.eO) fun _ _ z=>AC z⟩
end
section
variable {κ:Type} [DecidableEq κ]
def gS (ai:List (κ×V)) (k:κ):Option V:=(ai.find? fun kv=>decide (kv.1=k)).map (·.2)
def putK (ai:List (κ×V)) (k:κ) (v:V):List (κ×V):=
 if (ai.any fun kv=>decide (kv.1=k))=true then ai.map (fun kv=>if kv.1=k then (kv.1,v) else kv) else ai++[(k,v)]
theorem jP {p:κ×V} {r:List (κ×V)} {k:κ} (e:p.1=k):gS (p::r) k=some p.2 :=by simp [gS,Nl,e]
theorem jQ {p:κ×V} {r:List (κ×V)} {k:κ} (e:¬ p.1=k):gS (p::r) k=gS r k :=by simp [gS,Nl,e]
theorem mK (k:κ):∀ai:List (κ×V),(ai.any fun kv=>decide (kv.1=k))=(gS ai k).isSome
 | []=>rfl
 |p::r=>by
          rw [OK]
          by_cases e:p.1=k
          ·simp only [jP e,decide_eq_true e,Bool.true_or,Option.isSome_some]
          ·rw [jQ e,decide_eq_false e,Bool.false_or];exact mK k r
theorem jo (ai:List (κ×V)) (k:κ) (v:V):(putK ai k v).length<=ai.length+1 :=by
 unfold putK
 split
 ·rw [cr];omega
 ·rw [v6,LF,O9];omega
theorem ip.gF {o:Option V} {u:Option ap} (r:ip o u):o.isSome=u.isSome :=by
 cases o with
 |none=>cases u with
  |none=>rfl
  |some _=>exact (show False from r).elim
 |some _=>cases u with
  |none=>exact (show False from r).elim
  |some _=>rfl
theorem KV.val {ai:List (κ×V)} {vs:List (κ×ap)} (r:KV ai vs) (k:κ):ip (gS ai k) (valueAt vs k) :=by
 unfold KV at r
 induction r with
 |nil=>exact CS
 | @cons p q ps qs h t ih=>
  obtain ⟨h1,h2⟩:=h
  by_cases e:p.1=k
  ·have e':q.1=k:=h1.symm.trans e
   have b:valueAt (q::qs) k=some q.2 :=by simp [valueAt,Nl,e']
   rw [jP e,b];exact h2
  ·have e':¬ q.1=k:=fun z=>e (h1.trans z)
   have b:valueAt (q::qs) k=valueAt qs k :=by simp [valueAt,Nl,e']
   rw [jQ e,b];exact ih
theorem KV.any {ai:List (κ×V)} {vs:List (κ×ap)} (r:KV ai vs) (k:κ):(ai.any fun kv=>decide (kv.1=k))=vs.any fun kv=>decide (kv.1=k) :=by
 unfold KV at r
 induction r with
 |nil=>rfl
 |cons h t ih=>rw [OK,OK,ih,h.1]
theorem KV.repl {ai:List (κ×V)} {vs:List (κ×ap)} (r:KV ai vs) (k:κ) {y:V} {u:ap} (ry:RelV y u) :
  KV (ai.map fun kv=>if kv.1=k then (kv.1,y) else kv) (vs.map fun kv=>if kv.1=k then (kv.1,u) else kv) :=by
 unfold KV at r ⊢
 induction r with
 |nil=>exact .nil
 | @cons p q ps qs h t ih=>
  rw [ss,ss]
  refine .cons ?_ ih
  obtain ⟨h1,h2⟩:=h
  by_cases e:p.1=k
  ·rw [if_pos e,if_pos (h1.symm.trans e)];exact ⟨h1,ry⟩
  ·rw [if_neg e,if_neg (fun z=>e (h1.trans z))];exact ⟨h1,h2⟩
theorem KV.put {ai:List (κ×V)} {vs:List (κ×ap)} (r:KV ai vs) (k:κ) {y:V} {u:ap} (ry:RelV y u):KV (putK ai k y) (stored vs k u) :=by
 unfold putK stored
 rw [r.any k]
 by_cases e:(vs.any fun kv=>decide (kv.1=k))=true
 ·rw [if_pos e,if_pos e];exact r.repl k ry
 ·rw [if_neg e,if_neg e];exact At.snoc r ⟨rfl,ry⟩
theorem KV.length {ai:List (κ×V)} {vs:List (κ×ap)} (r:KV ai vs):ai.length=vs.length:=OF r
end
theorem lz {P:f8} {w:ii} {k:Key} {u:ap} (r:RelV (kV k) u):(bj P w).is k u=true :=by
 cases k with
 |inl i=>obtain ⟨t,e⟩:=(show ∃t,u=QF i t from r);subst e;exact tQ P w i t
 |inr x=>obtain ⟨t,e⟩:=(show ∃t,u=PJ x t from r);subst e;exact tR P w x t
theorem pR {P:f8} {w:ii}:∀{ks:List Key} {us:List ap},Vals (ks.map kV) us->ItemsAre (bj P w) ks us
 | [],_,r=>by rw [PU] at r;cases r;exact .nil
 |k::ks,_,r=>by
          rw [ss] at r
          cases r with
          |cons h t=>exact .cons (lz h) (pR t)
abbrev KT (H:Hp):List (List Key×V)->List (List Key×ag×ap)->Prop:=At fun p q=>p.1=q.1/\H q.2.1=some (.tup (p.1.map kV))/\RelV p.2 q.2.2
theorem KT.val {H:Hp} {ai:List (List Key×V)} {xs:List (List Key×ag×ap)} (r:KT H ai xs) (k:List Key):ip (gS ai k) ((atKey xs k).map (·.2)) :=by
 induction r with
 |nil=>exact CS
 | @cons p q ps qs h t ih=>
  obtain ⟨h1,_,h2⟩:=h
  by_cases e:p.1=k
  ·have e':q.1=k:=h1.symm.trans e
   have b:atKey (q::qs) k=some q.2 :=by simp [atKey,Nl,e']
   rw [jP e,b];exact h2
  ·have e':¬ q.1=k:=fun z=>e (h1.trans z)
   have b:atKey (q::qs) k=atKey qs k :=by simp [atKey,Nl,e']
   rw [jQ e,b];exact ih
theorem KT.repl {H:Hp} {ai:List (List Key×V)} {xs:List (List Key×ag×ap)} (r:KT H ai xs) (k:List Key) {y:V} {u:ap} (ry:RelV y u) :
  KT H (ai.map fun kv=>if kv.1=k then (kv.1,y) else kv) (xs.map (putAt k u)) :=by
 induction r with
 |nil=>exact .nil
 | @cons p q ps qs h t ih=>
  rw [ss,ss]
  refine .cons ?_ ih
  obtain ⟨h1,h2,h3⟩:=h
  unfold putAt
  by_cases e:p.1=k
  ·rw [if_pos e,if_pos (h1.symm.trans e)];exact ⟨h1,h2,ry⟩
  ·rw [if_neg e,if_neg (fun z=>e (h1.trans z))];exact ⟨h1,h2,h3⟩
theorem KT.put {H:Hp} {ai:List (List Key×V)} {xs:List (List Key×ag×ap)} (r:KT H ai xs) (k:List Key) {b:ag} {y:V} {u:ap} (hb:H b=some (.tup (k.map kV))) (ry:RelV y u) :
  KT H (putK ai k y) (storedH xs k b u) :=by
 have e:(ai.any fun kv=>decide (kv.1=k))=(atKey xs k).isSome :=by
  rw [mK,(r.val k).gF,NH]
 unfold putK storedH
 rw [e]
 by_cases q:(atKey xs k).isSome=true
 ·rw [if_pos q,if_pos q];exact r.repl k ry
 ·rw [if_neg q,if_neg q];exact At.snoc r ⟨rfl,hb,ry⟩
theorem KT.keeps {H H':Hp} {ai:List (List Key×V)} {xs:List (List Key×ag×ap)} (r:KT H ai xs) (ht:∀b ys,H b=some (.tup ys)->H' b=some (.tup ys)):KT H' ai xs:=
 At.zL r fun _ _ z=>⟨z.1,ht _ _ z.2.1,z.2.2⟩
section
variable {P:f8} {w:ii} {H:Hp} {h:gl} {a:ag}
theorem BW {u:HO} (ok:cg P w H h) (e:Rd H a u):ObjOk P w H h a u:=e.ok ok
theorem lC {ai:List (Key×V)} (ok:cg P w H h) (e:Rd H a (.dK ai)):ai.length<=sizeLine/\(a==sysModules)=false/\∃vs,KV ai vs/\h.DictOf (bj P w) a vs:=
 show ObjOk P w H h a (.dK ai) from BW ok e
theorem BX {ai:List (Key×V)} (ok:cg P w H h) (e:H a=some (.dK ai)):ai.length<=sizeLine/\(a==sysModules)=false/\∃vs,KV ai vs/\h.DictOf (bj P w) a vs:=lC ok (.inl e)
theorem jy {ks:List Key} (ok:cg P w H h) (e:H a=some (.tup (ks.map kV))):(tupleKind (bj P w)).is h ks a :=by
 obtain ⟨_,its,r,o,h1,h2,n,h3,_⟩:=(show ObjOk P w H h a (.tup (ks.map kV)) from ok a _ e)
 exact ⟨o,its.toArray,n,h1,h2,h3,by simpa using pR r⟩
theorem nR {ai:List (List Key×V)} (ok:cg P w H h) (e:Rd H a (.dT ai)):ai.length<=sizeLine/\(a==sysModules)=false /\
  ∃xs,KT H ai xs/\h.DictOfH (tupleKind (bj P w)) a xs :=by
 obtain ⟨z,y,xs,r,o,es,ep,h1,h2,h3,h4,h5⟩:=(show ObjOk P w H h a (.dT ai) from BW ok e)
 refine ⟨z,y,xs,r,o,es,ep,h1,h2,h3,h4,fun x hx=>?_,h5⟩
 have all:∀{l:List (List Key×V)} {m:List (List Key×ag×ap)},KT H l m->∀x∈m,(tupleKind (bj P w)).is h x.1 x.2.1 :=by
  intro l m q
  induction q with
  |nil=>intro x hx;exact nomatch hx
  | @cons p q ps qs hq t ih=>
   intro x hx
   rcases lc.mp hx with e|hx
   ·subst e
    exact jy ok (by rw [<- hq.1];exact hq.2.1)
   ·exact ih x hx
 exact all r x hx
theorem BZ {ai:List (List Key×V)} (ok:cg P w H h) (e:H a=some (.dT ai)):ai.length<=sizeLine/\(a==sysModules)=false /\
  ∃xs,KT H ai xs/\h.DictOfH (tupleKind (bj P w)) a xs:=nR ok (.inl e)
end
def mL (H:Hp) (a:ag) (y:V) (r:Option V):Prop:=
 (∃ai k,Rd H a (.dK ai)/\y=kV k/\r=gS ai k)\/∃ai k b,Rd H a (.dT ai)/\y=.ref b/\H b=some (.tup (k.map kV))/\r=gS ai k
def Gj (H:Hp) (a:ag) (y v:V) (H':Hp):Prop:=
 (∃ai k,H a=some (.dK ai)/\y=kV k/\ai.length<sizeLine/\H'=upd H a (.dK (putK ai k v))) \/
 ∃ai k b,H a=some (.dT ai)/\y=.ref b/\H b=some (.tup (k.map kV))/\ai.length<sizeLine/\H'=upd H a (.dT (putK ai k v))
section
variable {X:Cx} {pins:List (ag×i4)} {σ:St} {H:Hp} {s:bi} {a:ag} {y v:V} {u r:ap} {o:Option V} {A:l8} {E:ap->bi->Prop}
theorem Inv.big (I:Inv X pins σ H s):sysModules<s.heap.objs.size :=by
 have h:mainGlobals<s.heap.objs.size:=(I.mod.glob.keeps I.bk).lt
 exact Pi (by decide) h
theorem yb {Q:ap->bi->Prop} (hu:A.units+1<cLine) (I:Inv X pins σ H s) (g:mL H a y (some v)) (ry:RelV y u) (h:∀w' s',Inv X pins σ H s'->RelV v w'->Q w' s') :
  wpAny (model X.prog X.w) A (getItem (.ref a) u) Q E s :=by
 rcases g with ⟨ai,k,e,ey,l⟩|⟨ai,k,b,e,ey,eb,l⟩
 ·subst ey
  obtain ⟨z,hd,vs,rel,dd⟩:=lC I.hok e
  obtain ⟨w',hw,jv⟩:=ip.some_of (v:=v) (o:=valueAt vs k) (by rw [l];exact rel.val k)
  exact wpAny_getItem_of (lz ry) dd.mapOf hw (h w' _ (I.tok _) jv)
 ·subst ey
  cases (show u=mT b from ry)
  obtain ⟨z,hd,xs,rel,dd⟩:=nR I.hok e
  obtain ⟨w',hw,jv⟩:=ip.some_of (v:=v) (o:=(atKey xs k).map (·.2)) (by rw [l];exact rel.val k)
  obtain ⟨p,hp,MS⟩:=kt.mp hw
  refine wpAny_getItem_heap (Pk hu) (jy I.hok eb) dd hp ?_
  rw [MS]
  exact h w' _ (I.tok _) jv
theorem LD {Q:ap->bi->Prop} (hu:A.units+1<cLine) (I:Inv X pins σ H s) (g:mL H a y o) (ry:RelV y u) (h:∀s',Inv X pins σ H s'->Q (.bool o.isSome) s') :
  wpAny (model X.prog X.w) A (compareOp .In u (.ref a)) Q E s :=by
 rcases g with ⟨ai,k,e,ey,l⟩|⟨ai,k,b,e,ey,eb,l⟩
 ·subst ey
  obtain ⟨z,hd,vs,rel,dd⟩:=lC I.hok e
  refine wpAny_in_of (lz ry) hd dd.mapOf ?_
  rw [<- (rel.val k).gF,<- l]
  exact h _ (I.tok _)
 ·subst ey
  cases (show u=mT b from ry)
  obtain ⟨z,hd,xs,rel,dd⟩:=nR I.hok e
  refine wpAny_in_heap (Pk hu) (jy I.hok eb) hd dd ?_
  have q:=(rel.val k).gF
  rw [NH] at q
  rw [<- q,<- l]
  exact h _ (I.tok _)
theorem Dl {Q:ap->bi->Prop} (hu:A.units+1<cLine) (I:Inv X pins σ H s) (g:mL H a y o) (ry:RelV y u) (h:∀s',Inv X pins σ H s'->Q (.bool (!o.isSome)) s') :
  wpAny (model X.prog X.w) A (compareOp .NotIn u (.ref a)) Q E s :=by
 rcases g with ⟨ai,k,e,ey,l⟩|⟨ai,k,b,e,ey,eb,l⟩
 ·subst ey
  obtain ⟨z,hd,vs,rel,dd⟩:=lC I.hok e
  refine wpAny_notIn_of (lz ry) hd dd.mapOf ?_
  rw [<- (rel.val k).gF,<- l]
  exact h _ (I.tok _)
 ·subst ey
  cases (show u=mT b from ry)
  obtain ⟨z,hd,xs,rel,dd⟩:=nR I.hok e
  refine wpAny_notIn_heap (Pk hu) (jy I.hok eb) hd dd ?_
  have q:=(rel.val k).gF
  rw [NH] at q
  rw [<- q,<- l]
  exact h _ (I.tok _)
theorem lD {h':gl} {t':Nat} {ob:HO} (I:Inv X pins σ H s) (mu:wU (H a)) (hs:NJ a s.heap h') (he:∃q,h'.get? a=some q) (new:ObjOk X.prog X.w (upd H a ob) h' a ob) :
  Inv X pins σ (upd H a ob) {s with heap:=h',toks:=t'}:=
 I.write (x:=a) (e:=a) mu (.inl rfl) (fun b q hb z=>(hs.2 b hb).trans z) he new
theorem yc {P:f8} {w:ii} {H':Hp} {h':gl} {ai:List (Key×V)} {vs:List (Key×ap)} (z:ai.length<=sizeLine) (hd:(a==sysModules)=false) (rel:KV ai vs) (dd:h'.DictOf (bj P w) a vs) :
  ObjOk P w H' h' a (.dK ai):=⟨z,hd,vs,rel,dd⟩
theorem ye {H':Hp} {Q:Unit->bi->Prop} (hu:A.units+1<cLine) (I:Inv X pins σ H s) (g:Gj H a y v H') (ry:RelV y u) (rv:RelV v r) (h:∀s',Inv X pins σ H' s'->Q () s') :
  wpAny (model X.prog X.w) A (setItem (.ref a) u r) Q E s :=by
 rcases g with ⟨ai,k,e,ey,l,eH⟩|⟨ai,k,b,e,ey,eb,l,eH⟩
 ·subst ey eH
  obtain ⟨z,hd,vs,rel,dd⟩:=BX I.hok e
  have hz:vs.length<=sizeLine :=by rw [<- rel.length];exact z
  have hl:(putK ai k v).length<=sizeLine :=by have:=jo ai k v;omega
  refine wpAny_setItem_pairs (hsz:=hz) (lz ry) dd fun h' nS hs=>h _ ?_
  have he:∃q,h'.get? a=some q:=let ⟨q,_,_,hq,_⟩:=nS;⟨q,hq⟩
  exact lD I (by rw [e];exact CS) hs he (yc hl hd (rel.put k rv) nS)
 ·subst ey eH
  cases (show u=mT b from ry)
  obtain ⟨z,hd,xs,rel,dd⟩:=BZ I.hok e
  have hz:xs.length<=sizeLine :=by rw [<- OF rel];exact z
  have hl:(putK ai k v).length<=sizeLine :=by have:=jo ai k v;omega
  refine wpAny_setItem_heap (hsz:=hz) (Pk hu) (jy I.hok eb) dd fun h' nS hs=>h _ ?_
  obtain ⟨q,es,ep,hq,h2,h3,h4,_,h5⟩:=nS
  refine lD I (by rw [e];exact CS) hs ⟨q,hq⟩ ⟨hl,hd,_,(rel.put k eb rv).keeps fun c ys ec=>?_,q,es,ep,hq,h2,h3,h4,h5⟩
  rw [ae (vf ec e (fun z=>nomatch z))]
  exact ec
end
section
variable {X:Cx} {pins:List (ag×i4)} {σ:St} {H:Hp} {s:bi} {a:ag} {ai:List (Key×V)} {k:Key} {u:ap} {A:l8} {E:ap->bi->Prop}
theorem IY {Q:ap->bi->Prop} (I:Inv X pins σ H s) (e:Rd H a (.dK ai)) (h:∀t s',Inv X pins σ H s'->Q (.int ai.length t) s'):wpAny (model X.prog X.w) A (call (.builtin "len") [.ref a]) Q E s :=by
 obtain ⟨z,hd,vs,rel,dd⟩:=lC I.hok e
 refine call_len_dict hd dd (by rw [<- rel.length];rw [ON] at z;omega) ?_
 rw [<- rel.length]
 exact h _ _ (I.tok _)
end
def Aq (i:dL):Prop:=∀ov iv,subscripted i false ov iv=operate [ov,iv] (getItem ov iv)
theorem Dm {prog:f8} {w:ii} {A:l8} {E:ap->bi->Prop} {s:bi} {env:Cc} {value slice:dL} {pos:sB} {T id:String} {Q:ap->bi->Prop}
  (hl:typeLookup (.type T) "__getitem__" = pure (some (.builtin id))) (hs:Aq slice)
  (h:wpAny (model prog w) A (eval value env) (fun o az=>wpAny (model prog w) A (eval slice env) (fun i jk=>jk.TypeIs o T/\wpAny (model prog w) A (getItem o i) Q E jk) E az) E s) :
  wpAny (model prog w) A (eval (.Subscript value slice pos) env) Q E s :=by
 refine Subscript_ (l9 h (fun o az eG=>l9 eG (fun i jk Ar=>?_) fun _ _ x=>x) fun _ _ x=>x)
 obtain ⟨hT,Ar⟩:=Ar
 unfold subscriptTail
 refine ba ?_
 rw [getitemInPython_of_ne hT.not_modules]
 refine ba (wpAny_specialOf hT hl ?_)
 have fin:wpAny (model prog w) A (subscripted slice false o i) (fun r jl=>wpAny (model prog w) A (letTemporaryGo value o r>>=fun _=>pure r) Q E jl) E jk :=by
  rw [hs o i]
  exact wpAny_operating (l9 Ar (fun r jl LI=>ba (wpAny_letTemporaryGo (ce LI))) fun _ _ x=>x)
 first
  |exact ce (ba fin)
  |exact ba (ce (ba fin))
  |exact ba fin
theorem tZ {X:Cx} {pins:List (ag×i4)} {σ:St} {H:Hp} {s:bi} {a:ag} {y:V} {o:Option V} (I:Inv X pins σ H s) (g:mL H a y o):s.TypeIs (.ref a) "dict" := by
 rcases g with ⟨ai,k,e,_,_⟩|⟨ai,k,b,e,_,_,_⟩
 ·obtain ⟨_,_,vs,_,dd⟩:=lC I.hok e
  exact dd.typeIs
 ·obtain ⟨_,_,xs,_,dd⟩:=nR I.hok e
  exact dd.typeIs
def IZ (td ty:TE):TE:=fun σ H Q=>td σ H fun x H1=>ty σ H1 fun y H2=>∃a v,x=.ref a/\mL H2 a y (some v)/\Q v H2
def Ja (td ty tv:TE):TS:=fun D σ H=>tv σ H fun v H1=>td σ H1 fun x H2=>ty σ H2 fun y H3=>∃a H4,x=.ref a/\Gj H3 a y v H4/\D.nx σ H4
section
variable {X:Cx} {o i e value:dL} {pos pos' Oz:sB} {td ty tv:TE}
theorem Dn (hu:X.A.units+1<cLine) (ho:PE X o td) (hi:PE X i ty) (hs:Aq i):PE X (.Subscript o i pos) (IZ td ty) :=by
 refine ⟨?_⟩
 intro pins s σ H Q I h
 refine Dm PySem.F.slot_dict_getitem.lookup hs (thn (ho pins s σ H _ I h) fun u s1 ⟨x,H1,I1,rx,q1⟩=>thn (hi pins s1 σ H1 _ I1 q1) fun iv s2 ⟨y,H2,I2,ry,a,v,ex,g,q2⟩=>?_)
 subst ex
 obtain rfl:u=mT a:=rx
 exact ⟨tZ I2 g,yb hu I2 g ry fun w' s3 I3 jv=>⟨v,H2,I3,jv,q2⟩⟩
theorem Dp (hu:X.A.units+1<cLine) (ho:PE X o td) (hi:PE X i ty) (hv:PE X value tv) (hs:swapsWith value (some (.Subscript o i pos')) pos.line X.env=pure false) :
  PS X (.Assign [.Subscript o i pos'] value pos) (Ja td ty tv) :=by
 refine ⟨?_⟩
 intro pins s σ H D I h
 refine wpAny_Assign_Subscript (thn (hv pins s σ H _ I h) fun r s1 ⟨v,H1,I1,rv,q1⟩=>thn (ho pins s1 σ H1 _ I1 q1) fun u s2 ⟨x,H2,I2,rx,q2⟩=>thn (hi pins s2 σ H2 _ I2 q2) fun iv s3 ⟨y,H3,I3,ry,a,H4,ex,g,q3⟩=>?_) hs
 subst ex
 obtain rfl:u=mT a:=rx
 exact ye hu I3 g ry rv fun s4 I4=>⟨σ,H4,I4,q3⟩
end
theorem As {P:f8} {w:ii} {H:Hp} (h:gl) (hb:sysModules<h.objs.size):ObjOk P w H (h.push {cls:=.type "dict",data:=.dict #[]}) h.objs.size (.dK []):=
 ⟨sK _,beq_eq_false_iff_ne.mpr (xy (lw hb)),[],.nil,gl.DictOf.new h⟩
theorem Au {P:f8} {w:ii} {H:Hp} (h:gl) (hb:sysModules<h.objs.size):ObjOk P w H (h.push {cls:=.type "dict",data:=.dict #[]}) h.objs.size (.dT []):=
 ⟨sK _,beq_eq_false_iff_ne.mpr (xy (lw hb)),[],.nil,_,#[],0,i1 _ rfl,⟨rfl,rfl,rfl⟩,rfl,rfl,List.nodup_nil⟩
def rX:List (TE×TE)->St->Hp->(List (V×V)->Hp->Prop)->Prop
 | [],_,H,Q=>Q [] H
 |(tk,tv)::r,σ,H,Q=>tk σ H fun x H1=>tv σ H1 fun y H2=>rX r σ H2 fun ps H3=>Q ((x,y)::ps) H3
abbrev VV:List (V×V)->List (ap×ap)->Prop:=At fun p q=>RelV p.1 q.1/\RelV p.2 q.2
def PPs (X:Cx) (pos:sB) (keys:List (Option dL)) (values:List dL) (nU:List (TE×TE)):Prop:=
 ∀(pins:List (ag×i4)) (s:bi) (σ:St) (H:Hp) (Q:List (V×V)->Hp->Prop),Inv X pins σ H s->rX nU σ H Q->
  wpAny (model X.prog X.w) X.A (evalPairs (pairTrees keys values X.env pos)) (fun vs s'=>∃ps H',Inv X pins σ H' s'/\VV ps vs/\Q ps H') X.xe s
theorem Dq {X:Cx} {pos:sB}:PPs X pos [] [] []:=fun pins s σ H Q I h=>pairTrees_nil_walk ⟨[],H,I,.nil,h⟩
theorem Av {X:Cx} {pos:sB} {k v:dL} {ks:List (Option dL)} {vs:List dL} {tk tv:TE} {nU:List (TE×TE)} (hk:PE X k tk) (hv:PE X v tv) (hr:PPs X pos ks vs nU) :
  PPs X pos (some k::ks) (v::vs) ((tk,tv)::nU):=fun pins s σ H Q I h=>
 pairTrees_cons_walk (thn (hk pins s σ H _ I h) fun u s1 ⟨x,H1,I1,rx,q1⟩=>thn (hv pins s1 σ H1 _ I1 q1) fun w2 s2 ⟨y,H2,I2,ry,q2⟩=>
  thn (hr pins s2 σ H2 _ I2 q2) fun ws s3 ⟨ps,H3,I3,rel,q3⟩=>⟨(x,y)::ps,H3,I3,.cons ⟨rx,ry⟩ rel,q3⟩)
def jz (ai more:List (Key×V)):List (Key×V):=more.foldl (fun acc kv=>putK acc kv.1 kv.2) ai
theorem KV.merge:∀{more:List (Key×V)} {rs:List (Key×ap)} {ai:List (Key×V)} {vs:List (Key×ap)},KV more rs->KV ai vs->KV (jz ai more) (merged vs rs) :=by
 intro more rs ai vs r
 unfold KV at r
 induction r generalizing ai vs with
 |nil=>intro q;exact q
 | @cons p q ps qs h t ih=>
  intro r0
  have e:KV (putK ai p.1 p.2) (stored vs q.1 q.2) :=by
   have:=r0.put p.1 h.2
   rw [<- h.1];exact this
  exact ih e
theorem kf:∀(more ai:List (Key×V)),(jz ai more).length<=ai.length+more.length
 | [],ai=>by show ai.length<=ai.length+0;omega
 |p::r,ai=>by
          have h1:=kf r (putK ai p.1 p.2)
          have h2:=jo ai p.1 p.2
          show (jz (putK ai p.1 p.2) r).length<=_
          rw [LF];omega
theorem nV {P:f8} {w:ii}:∀{ai:List (Key×V)} {ws:List (ap×ap)},VV (ai.map fun kv=>(kV kv.1,kv.2)) ws->∃rs,Carries (bj P w) ws rs/\KV ai rs
 | [],_,r=>by rw [PU] at r;cases r;exact ⟨[],CS,.nil⟩
 |p::ai,_,r=>by
          rw [ss] at r
          cases r with
          | @cons a b as bs h t=>
           obtain ⟨rs,c,q⟩:=nV (P:=P) (w:=w) t
           obtain ⟨b1,b2⟩:=b
           exact ⟨(p.1,b2)::rs,⟨lz h.1,rfl,c⟩,.cons ⟨rfl,h.2⟩ q⟩
def Jb (nU:List (TE×TE)):TE:=fun σ H Q=>∀p,H p=none->rX nU σ (upd H p (.dK [])) fun ps H2=>H2 p=some (.dK [])/\∃ai:List (Key×V),ps=ai.map (fun kv=>(kV kv.1,kv.2))/\ai.length<=15/\Q (.ref p) (upd H2 p (.dK (jz [] ai)))
theorem Dr {X:Cx} {pos:sB} {keys:List (Option dL)} {values:List dL} {nU:List (TE×TE)} (h:PPs X pos keys values nU) (oE:keys.all (·.isSome)=true) (hl:keys.length=values.length) (h0:keys≠[])
  (MT:keys.length<=15):PE X (.Dict keys values pos) (Jb nU) :=by
 refine ⟨?_⟩
 intro pins s σ H Q I q
 have hn:=I.hok.fresh (c8 s.heap.objs.size)
 have I1:=I.laid (a:=s.heap.objs.size) (o:=.dK []) (h':=s.heap.push {cls:=.type "dict",data:=.dict #[]}) (t':=s.toks) (fun _ _ q=>ci _ q) (c8 _) (As s.heap I.big)
 refine wpAny_Dict_walk (knd:=bj X.prog X.w) oE hl h0 MT (thn (h pins _ σ _ _ I1 (q _ hn)) fun ws s2 ⟨ps,H2,I2,rel,e,ai,ep,lk,q2⟩=>?_)
 subst ep
 obtain ⟨rs,c,rk⟩:=nV (P:=X.prog) (w:=X.w) rel
 obtain ⟨z,hd,B1,r0,dd⟩:=BX I2.hok e
 cases r0
 refine ⟨rs,c,dd,fun h' nS hs=>⟨.ref s.heap.objs.size,_,?_,rfl,q2⟩⟩
 have hz:(jz [] ai).length<=sizeLine :=by
  have h1:=kf ai []
  rw [O9] at h1
  rw [ON];omega
 have he:∃q,h'.get? s.heap.objs.size=some q:=let ⟨q,_,_,hq,_⟩:=nS;⟨q,hq⟩
 exact lD I2 (by rw [e];exact CS) hs he (yc hz hd (rk.merge .nil) nS)
structure M1 (X:Cx) (o:dL) (m:br) (apos:sB) (e:dL) (aW:sB):Prop where
 base:attributeBase o m X.env (eval o X.env)=eval o X.env
 few:((backTo aW (starEach [e] X.env)).all (fun x => !x.1) && (backToKw aW (keywordEach [] X.env)).all (fun x=>x.1.isSome)
  && decide (([e]:List dL).length+([]:List Pn).length+(if ([]:List Pn).isEmpty then 0 else 1)<30))=true
 line:(apos.endLine==aW.line)=true
 trees:backTo aW (starEach [e] X.env)=[(false,eval e X.env)]
structure M2 (X:Cx) (o:dL) (m:br) (apos:sB) (e f:dL) (aW:sB):Prop where
 base:attributeBase o m X.env (eval o X.env)=eval o X.env
 few:((backTo aW (starEach [e,f] X.env)).all (fun x => !x.1) && (backToKw aW (keywordEach [] X.env)).all (fun x=>x.1.isSome)
  && decide (([e,f]:List dL).length+([]:List Pn).length+(if ([]:List Pn).isEmpty then 0 else 1)<30))=true
 line:(apos.endLine==aW.line)=true
 trees:backTo aW (starEach [e,f] X.env)=[(false,eval e X.env),(false,eval f X.env)]
inductive Dv where
 |int (i:Int)|bl (b:Bool)|ao|str (z:br)|tup (xs:List Dv)|lst (xs:List Dv)|set (ns:List Int)|ptr (a:ag)|exc (C:ag)|bf (ns:List Int)|raw (v:V)|dk (ks:List Key) (ds:List Dv)|dt (ks:List (List Key)) (ds:List Dv)|bB (f:ag) (o:i4) (c:ag) (oc:i4) (vs:List V) (ds:List Dv)
inductive Mo where
 |lst (xs:List Dv)|bZ|dk (ks:List Key) (ds:List Dv)|dt (ks:List (List Key)) (ds:List Dv)
abbrev Mh:=ag->Option Mo
structure cC where
 g:List ag
 l:List (ag×br)
instance:Membership ag cC:=⟨fun t a=>a∈t.g⟩
def B2:HO->Bool
 | .cz _=>true
 | .lam _=>true
 | .dK _=>true
 | .dT _=>true
 |_=>false
def yf:HO->Bool
 | .cz _=>false
 |_=>true
def iC:HO->Bool
 | .dK _=>true
 | .dT _=>true
 |_=>false
theorem Rd.map {H H':Hp} {a:ag} {u:HO} (e:Rd H a u) (k:∀x,H a=some x->H' a=some x):Rd H' a u:=e.imp (k _) fun ⟨o,h⟩=>⟨o,k _ h⟩
theorem Rd.Gk {H H':Hp} {a:ag} {u:HO} (e:Rd H a u) (hu:iC u=true) (k:∀x,yf x=true->H a=some x->H' a=some x):Rd H' a u:=e.imp (k _ (by cases u <;> first|rfl|cases hu)) fun ⟨o,h⟩=>⟨o,k _ rfl h⟩
theorem Rd.there {H:Hp} {a:ag} {u:HO} (e:Rd H a u):∃x,H a=some x:=e.elim (fun h=>⟨_,h⟩) fun ⟨o,h⟩=>⟨_,h⟩
def Tg (o o':HO):Prop:=(∃ps fE:Array ap,o=.cz ps/\o'=.cz fE/\GE fE.toList)\/(∃ps fE:Array ap,o=.lam ps/\o'=.lam fE)\/(iC o=true/\∃ob,o'=.bp ob o)
theorem Tg.trans {a b c:HO} (x:Tg a b) (y:Tg b c):Tg a c :=by
 rcases x with ⟨p,q,rfl,rfl,t⟩|⟨p,q,rfl,rfl⟩|⟨hd,ob,rfl⟩
 ·rcases y with ⟨p2,q2,e,rfl,t2⟩|⟨p2,q2,e,_⟩|⟨e,_⟩
  ·exact .inl ⟨p,q2,rfl,rfl,t2⟩
  ·cases e
  ·cases e
 ·rcases y with ⟨p2,q2,e,_⟩|⟨p2,q2,e,rfl⟩|⟨e,_⟩
  ·cases e
  ·exact .inr (.inl ⟨p,q2,rfl,rfl⟩)
  ·cases e
 ·rcases y with ⟨p2,q2,e,_⟩|⟨p2,q2,e,_⟩|⟨e,_⟩ <;> cases e
theorem Tg.tab {a b:HO} (x:Tg a b):B2 a=true :=by
 rcases x with ⟨p,q,rfl,rfl,_⟩|⟨p,q,rfl,rfl⟩|⟨hd,ob,rfl⟩
 ·rfl
 ·rfl
 ·cases a <;> first|rfl|cases hd
def LJ (H:Hp) (q:br) (cv:ap):Prop:=∃(c:ag) (oc:i4) (u:HO) (vs:Array ap) (t:QH),cv=mT c/\H c=some (.bp oc u)/\oc.data=.fields vs/\vs[1]?=some (PJ q t)
def Lm (H:Hp) (p:ag×br):Prop:=∃ps:Array ap,H p.1=some (.lam ps)/\GE ps.toList/\∀pos cv,codeAmong pos ps.toList=some cv->LJ H p.2 cv
theorem Lm.keep {H H':Hp} {p:ag×br} (h:Lm H p) (k1:∀ps,H p.1=some (.lam ps)->H' p.1=some (.lam ps)) (k2:∀c oc u,H c=some (.bp oc u)->H' c=some (.bp oc u)):Lm H' p :=by
 obtain ⟨ps,e,t,c⟩:=h
 refine ⟨ps,k1 _ e,t,fun pos cv q=>?_⟩
 obtain ⟨a,oc,u,vs,tk,e1,e2,r⟩:=c pos cv q
 exact ⟨a,oc,u,vs,tk,e1,k2 _ _ _ e2,r⟩
structure Bz where
 P:f8
 w:ii
 K:bn
 tb:cC
 hid:List ag
def Fz (β:Bz) (M:Mh) (a:ag):Prop:=M a=none/\a ∉ β.hid
def Kl (K:bn) (a:ag) (ns:List Int):Prop:=∃(o:i4) (its:Array ap) (n:Nat),K.lookup a=some o/\o.cls=.type "list" /\ o.dict=none/\o.data=.seq its n/\its.size<=sizeLine/\Vals (ns.map V.int) its.toList
inductive Rz (β:Bz) (M:Mh) (H:Hp):V->Dv->Prop where
 |int (i:Int):Rz β M H (.int i) (.int i)
 |bl (b:Bool):Rz β M H (.bl b) (.bl b)
 |ao:Rz β M H .ao .ao
 |str (z:br):Rz β M H (.str z) (.str z)
 |tup {a:ag} {vs:List V} {ds:List Dv} (m:Fz β M a) (e:H a=some (.tup vs)) (hl:vs.length=ds.length) (h:∀(i:Nat) (v:V) (d:Dv),vs[i]?=some v->ds[i]?=some d->Rz β M H v d):Rz β M H (.ref a) (.tup ds)
 |lst {a:ag} {vs:List V} {ds:List Dv} (m:Fz β M a) (e:H a=some (.lst vs)) (hl:vs.length=ds.length) (h:∀(i:Nat) (v:V) (d:Dv),vs[i]?=some v->ds[i]?=some d->Rz β M H v d):Rz β M H (.ref a) (.lst ds)
 |set {a:ag} {ns:List Int} (m:Fz β M a) (e:H a=some (vD β.P β.w a ns)):Rz β M H (.ref a) (.set ns)
 |ptr {a:ag} (m:(M a).isSome=true):Rz β M H (.ref a) (.ptr a)
 |exc {a C:ag} (m:Fz β M a) (e:H a=some (LC C a)):Rz β M H (.ref a) (.exc C)
 |bf {a:ag} {o:i4} {ns:List Int} (m:Fz β M a) (e:H a=some (.bp o (.lst (ns.map V.int)))):Rz β M H (.ref a) (.bf ns)
 |b5 {a:ag} {ns:List Int} (m:Fz β M a) (e:H a=some (.lst (ns.map V.int))):Rz β M H (.ref a) (.bf ns)
 |b6 {a:ag} {ns:List Int} (e:Kl β.K a ns):Rz β M H (.ref a) (.bf ns)
 |raw (v:V):Rz β M H v (.raw v)
 |dk {a:ag} {ks:List Key} {vs:List V} {ds:List Dv} (m:Fz β M a) (e:Rd H a (.dK (ks.zip vs))) (hk:ks.length=vs.length) (hl:vs.length=ds.length) (h:∀(i:Nat) (v:V) (d:Dv),vs[i]?=some v->ds[i]?=some d->Rz β M H v d):Rz β M H (.ref a) (.dk ks ds)
 |dt {a:ag} {ks:List (List Key)} {vs:List V} {ds:List Dv} (m:Fz β M a) (e:Rd H a (.dT (ks.zip vs))) (hk:ks.length=vs.length) (hl:vs.length=ds.length) (h:∀(i:Nat) (v:V) (d:Dv),vs[i]?=some v->ds[i]?=some d->Rz β M H v d):Rz β M H (.ref a) (.dt ks ds)
 |bB {f c:ag} {o oc:i4} {u uc:HO} {vs:List V} {ds:List Dv} (m:Fz β M f) (e:H f=some (.bp o u)) (m2:Fz β M c) (e2:H c=some (.bp oc uc)) (hl:vs.length=ds.length) (h:∀(i:Nat) (v:V) (d:Dv),vs[i]?=some v->ds[i]?=some d->Rz β M H v d):Rz β M H (.ref f) (.bB f o c oc vs ds)
structure aE (β:Bz) (M:Mh) (H:Hp) (vs:List V) (ds:List Dv):Prop where
 len:vs.length=ds.length
 at':∀(i:Nat) (v:V) (d:Dv),vs[i]?=some v->ds[i]?=some d->Rz β M H v d
def gG (β:Bz) (M:Mh) (H:Hp) (a:ag):Mo->Prop
 | .lst ds=>∃vs,H a=some (.lst vs)/\aE β M H vs ds
 | .bZ=>IW H a
 | .dk ks ds=>∃vs,H a=some (.dK (ks.zip vs))/\ks.length=vs.length/\aE β M H vs ds
 | .dt ks ds=>∃vs,H a=some (.dT (ks.zip vs))/\ks.length=vs.length/\aE β M H vs ds
def kP:HO->Bool
 | .lst _=>true
 | .set _ _=>true
 | .dK _=>true
 | .dT _=>true
 | .ext _=>true
 | .cz _=>true
 |_=>false
def vN (H:Hp) (a:ag):Prop:=∃o,H a=some o/\kP o=true
theorem vN.upd {H:Hp} {a p:ag} {o:HO} (h:vN H a) (d:H p=none\/kP o=true):vN (upd H p o) a :=by
 obtain ⟨u,e,n⟩:=h
 by_cases z:a=p
 ·subst z
  rcases d with d|d
  ·rw [e] at d;cases d
  ·exact ⟨o,aA,d⟩
 ·exact ⟨u,by rw [ae z];exact e,n⟩
structure Mz (β:Bz) (M:Mh) (H:Hp):Prop where
 obj:∀a o,M a=some o->gG β M H a o
 tabs:BM β.tb.g H
 hids:∀a∈β.hid,vN H a
 apart:∀a o,M a=some o->a ∉ β.hid
 lams:∀p∈β.tb.l,Lm H p
structure Ey (M:Mh) (H:Hp) (M':Mh) (H':Hp):Prop where
 keep:∀b o,M b=none->H b=some o->H' b=some o\/∃o',Tg o o'/\H' b=some o'
 dom:∀a,(M a).isSome=true->(M' a).isSome=true
 new:∀a o,M a=none->H a=some o->M' a=none
structure Ex (β:Bz) (M:Mh) (H:Hp) (M':Mh) (H':Hp):Prop extends Ey M H M' H' where
 mz:Mz β M' H'
section
variable {β:Bz} {M M1 M2:Mh} {H H1 H2:Hp}
theorem Ey.refl:Ey M H M H:=⟨fun _ _ _ h=>.inl h,fun _ h=>h,fun _ _ h _=>h⟩
theorem Ex.refl (m:Mz β M H):Ex β M H M H:=⟨.refl,m⟩
theorem Ey.trans (x:Ey M H M1 H1) (y:Ey M1 H1 M2 H2):Ey M H M2 H2 :=by
 refine ⟨fun b o hm h=>?_,fun a h=>y.dom a (x.dom a h),fun a o hm h=>?_⟩
 ·have kQ:=x.new b o hm h
  rcases x.keep b o hm h with q|⟨o1,t,q⟩
  ·exact y.keep b o kQ q
  ·rcases y.keep b _ kQ q with q2|⟨o2,t2,q2⟩
   ·exact .inr ⟨o1,t,q2⟩
   ·exact .inr ⟨o2,t.trans t2,q2⟩
 ·have kQ:=x.new a o hm h
  rcases x.keep a o hm h with q|⟨o1,t,q⟩
  ·exact y.new a _ kQ q
  ·exact y.new a _ kQ q
theorem Ex.trans (x:Ex β M H M1 H1) (y:Ex β M1 H1 M2 H2):Ex β M H M2 H2:=⟨x.toEy.trans y.toEy,y.mz⟩
theorem Ey.get (x:Ey M H M1 H1) {b:ag} {o:HO} (m:M b=none) (h:H b=some o) (n:B2 o=false):H1 b=some o :=by
 rcases x.keep b o m h with q|⟨o',e,_⟩
 ·exact q
 ·rw [e.tab] at n;cases n
theorem Ey.rd (x:Ey M H M1 H1) {b:ag} {u:HO} (m:M b=none) (h:Rd H b u) (hu:iC u=true):Rd H1 b u :=by
 rcases h with h|⟨o,h⟩
 ·rcases x.keep b u m h with q|⟨o',t,q⟩
  ·exact .inl q
  ·rcases t with ⟨_,_,rfl,_⟩|⟨_,_,rfl,_⟩|⟨_,ob,rfl⟩
   ·cases hu
   ·cases hu
   ·exact .inr ⟨ob,q⟩
 ·exact .inr ⟨o,x.get m h rfl⟩
theorem Ey.gone (x:Ey M H M1 H1) {b:ag} (h:H1 b=none):M b=none->H b=none:=fun m=>by
 cases e:H b with
 |none=>rfl
 |some o=>
  rcases x.keep b o m e with q|⟨_,_,q⟩ <;> (rw [h] at q;cases q)
theorem Rz.ey (x:Ey M H M1 H1) {v:V} {d:Dv} (h:Rz β M H v d):Rz β M1 H1 v d :=by
 induction h with
 |int i=>exact .int i
 |bl b=>exact .bl b
 |ao=>exact .ao
 |str z=>exact .str z
 |tup m e hl h ih=>exact .tup ⟨x.new _ _ m.1 e,m.2⟩ (x.get m.1 e rfl) hl ih
 |lst m e hl h ih=>exact .lst ⟨x.new _ _ m.1 e,m.2⟩ (x.get m.1 e rfl) hl ih
 |dk m e hk hl h ih=>exact .dk ⟨x.new _ _ m.1 e.there.choose_spec,m.2⟩ (x.rd m.1 e rfl) hk hl ih
 |dt m e hk hl h ih=>exact .dt ⟨x.new _ _ m.1 e.there.choose_spec,m.2⟩ (x.rd m.1 e rfl) hk hl ih
 |bB m e m2 e2 hl h ih=>exact .bB ⟨x.new _ _ m.1 e,m.2⟩ (x.get m.1 e rfl) ⟨x.new _ _ m2.1 e2,m2.2⟩ (x.get m2.1 e2 rfl) hl ih
 |set m e=>exact .set ⟨x.new _ _ m.1 e,m.2⟩ (x.get m.1 e rfl)
 |ptr m=>exact .ptr (x.dom _ m)
 |exc m e=>exact .exc ⟨x.new _ _ m.1 e,m.2⟩ (x.get m.1 e rfl)
 |bf m e=>exact .bf ⟨x.new _ _ m.1 e,m.2⟩ (x.get m.1 e rfl)
 |b5 m e=>exact .b5 ⟨x.new _ _ m.1 e,m.2⟩ (x.get m.1 e rfl)
 |b6 e=>exact .b6 e
 |raw v=>exact .raw v
theorem Rz.ex (x:Ex β M H M1 H1) {v:V} {d:Dv} (h:Rz β M H v d):Rz β M1 H1 v d:=h.ey x.toEy
theorem aE.ex (x:Ex β M H M1 H1) {vs:List V} {ds:List Dv} (h:aE β M H vs ds):aE β M1 H1 vs ds:=⟨h.len,fun i v d a b=>(h.at' i v d a b).ex x⟩
theorem aE.nil:aE β M H [] []:=⟨rfl,fun i v d h=>by simp at h⟩
theorem aE.cons {v:V} {d:Dv} {vs:List V} {ds:List Dv} (h:Rz β M H v d) (t:aE β M H vs ds):aE β M H (v::vs) (d::ds):=⟨by simp [t.len],fun i x y a b=>by
 cases i with
 |zero=>simp at a b;subst a b;exact h
 |succ i=>rw [BB] at a b;exact t.at' i x y a b⟩
theorem aE.head {v:V} {d:Dv} {vs:List V} {ds:List Dv} (h:aE β M H (v::vs) (d::ds)):Rz β M H v d:=h.at' 0 v d rfl rfl
theorem aE.tail {v:V} {d:Dv} {vs:List V} {ds:List Dv} (h:aE β M H (v::vs) (d::ds)):aE β M H vs ds:=⟨by simpa using h.len,fun i x y a b=>h.at' (i+1) x y (by rw [BB];exact a) (by rw [BB];exact b)⟩
theorem aE.append {vs rY:List V} {ds ds':List Dv} (h:aE β M H vs ds) (t:aE β M H rY ds'):aE β M H (vs++rY) (ds++ds'):=⟨by simp [h.len,t.len],fun i x y a b=>by
 rw [PX] at a b
 rw [h.len] at a
 split at b
 ·rename_i z
  rw [if_pos z] at a
  exact h.at' i x y a b
 ·rename_i z
  rw [if_neg z] at a
  exact t.at' _ x y a b⟩
theorem aE.snoc {v:V} {d:Dv} {vs:List V} {ds:List Dv} (t:aE β M H vs ds) (h:Rz β M H v d):aE β M H (vs++[v]) (ds++[d]):=t.append (.cons h .nil)
theorem aE.get {vs:List V} {ds:List Dv} (h:aE β M H vs ds) {i:Nat} {d:Dv} (e:ds[i]?=some d):∃v,vs[i]?=some v/\Rz β M H v d :=by
 have hi:=(bv.mp e).1
 have dP:i<vs.length :=by rw [h.len];exact hi
 exact ⟨vs[i],al dP,h.at' i _ _ (al dP) e⟩
theorem aE.get' {vs:List V} {ds:List Dv} (h:aE β M H vs ds) {i:Nat} {v:V} (e:vs[i]?=some v):∃d,ds[i]?=some d/\Rz β M H v d :=by
 have hi:=(bv.mp e).1
 have dP:i<ds.length :=by rw [<- h.len];exact hi
 exact ⟨ds[i],al dP,h.at' i _ _ e (al dP)⟩
theorem aE.take {vs:List V} {ds:List Dv} (h:aE β M H vs ds) (n:Nat):aE β M H (vs.take n) (ds.take n):=⟨by simp [h.len],fun i x y a b=>by
 rw [List.getElem?_take] at a b
 split at a
 ·rename_i z;rw [if_pos z] at b;exact h.at' i x y a b
 ·cases a⟩
theorem aE.drop {vs:List V} {ds:List Dv} (h:aE β M H vs ds) (n:Nat):aE β M H (vs.drop n) (ds.drop n):=⟨by simp [h.len],fun i x y a b=>by
 rw [Qb] at a b
 exact h.at' _ x y a b⟩
theorem aE.set {vs:List V} {ds:List Dv} (h:aE β M H vs ds) (n:Nat) {v:V} {d:Dv} (r:Rz β M H v d):aE β M H (vs.set n v) (ds.set n d):=⟨by simp [h.len],fun i x y a b=>by
 rw [BS] at a b
 rw [h.len] at a
 split at a
 ·rename_i z
  rw [if_pos z] at b
  split at a
  ·rename_i z2;rw [if_pos z2] at b;cases a;cases b;exact r
  ·cases a
 ·rename_i z;rw [if_neg z] at b;exact h.at' i x y a b⟩
theorem kR {a:ag} {vs:List V} {ds:List Dv} (m:Fz β M a) (e:H a=some (.tup vs)) (h:aE β M H vs ds):Rz β M H (.ref a) (.tup ds):=.tup m e h.len h.at'
theorem yg {a:ag} {vs:List V} {ds:List Dv} (m:Fz β M a) (e:H a=some (.lst vs)) (h:aE β M H vs ds):Rz β M H (.ref a) (.lst ds):=.lst m e h.len h.at'
theorem dq {v:V} {ds:List Dv} (h:Rz β M H v (.tup ds)):∃a vs,v=.ref a/\Fz β M a/\H a=some (.tup vs)/\aE β M H vs ds :=by
 cases h with
 |tup m e hl h=>exact ⟨_,_,rfl,m,e,hl,h⟩
theorem gH {v:V} {ds:List Dv} (h:Rz β M H v (.lst ds)):∃a vs,v=.ref a/\Fz β M a/\H a=some (.lst vs)/\aE β M H vs ds :=by
 cases h with
 |lst m e hl h=>exact ⟨_,_,rfl,m,e,hl,h⟩
theorem aJ {v:V} {i:Int} (h:Rz β M H v (.int i)):v=.int i :=by cases h;rfl
theorem cR {v:V} {b:Bool} (h:Rz β M H v (.bl b)):v=.bl b :=by cases h;rfl
theorem cL {v:V} {z:br} (h:Rz β M H v (.str z)):v=.str z :=by cases h;rfl
theorem gI {v:V} (h:Rz β M H v .ao):v=.ao :=by cases h;rfl
theorem yh {v u:V} (h:Rz β M H v (.raw u)):v=u :=by cases h;rfl
theorem a9 {v:V} {a:ag} (h:Rz β M H v (.ptr a)):v=.ref a/\(M a).isSome=true :=by cases h with|ptr m=>exact ⟨rfl,m⟩
theorem yi {v:V} {ns:List Int} (h:Rz β M H v (.set ns)):∃a,v=.ref a/\Fz β M a/\H a=some (vD β.P β.w a ns) :=by cases h with|set m e=>exact ⟨_,rfl,m,e⟩
theorem pS {v:V} {ns:List Int} (h:Rz β M H v (.bf ns)):∃a,v=.ref a/\bA β.K H a (ns.map V.int) :=by
 cases h with
 |bf m e=>exact ⟨_,rfl,.inl (.inr ⟨_,e⟩)⟩
 |b5 m e=>exact ⟨_,rfl,.inl (.inl e)⟩
 |b6 e=>exact ⟨_,rfl,.inr e⟩
def mM:HO->Bool
 | .lst _=>true
 | .dK _=>true
 | .dT _=>true
 |_=>false
theorem Mz.own (m:Mz β M H) {a:ag} {o:Mo} (e:M a=some o):∃u,H a=some u/\mM u=true :=by
 have q:=m.obj a o e
 cases o with
 |lst ds=>obtain ⟨vs,q,_⟩:=q;exact ⟨_,q,rfl⟩
 |dk ks ds=>obtain ⟨vs,q,_⟩:=q;exact ⟨_,q,rfl⟩
 |dt ks ds=>obtain ⟨vs,q,_⟩:=q;exact ⟨_,q,rfl⟩
 |bZ=>obtain ⟨_,_,q,_⟩:=q;exact ⟨_,q,rfl⟩
theorem Mz.jA (m:Mz β M H) {a:ag} {u:HO} (h:H a=some u) (n:mM u=false):M a=none :=by
 cases e:M a with
 |none=>rfl
 |some o=>obtain ⟨u',q,w⟩:=m.own e;rw [h] at q;cases q;rw [n] at w;cases w
theorem Mz.Jc (m:Mz β M H) {p:ag} (hp:p∈β.tb):M p=none:=let ⟨_,h,_⟩:=m.tabs p hp;m.jA h rfl
theorem Mz.Gm (m:Mz β M H) {p:ag×br} (hp:p∈β.tb.l):M p.1=none:=let ⟨_,h,_⟩:=m.lams p hp;m.jA h rfl
theorem Mz.free (m:Mz β M H) {a:ag} (h:H a=none):M a=none :=by
 cases e:M a with
 |none=>rfl
 |some o=>obtain ⟨xs,q,_⟩:=m.own e;rw [h] at q;cases q
theorem Mz.fz (m:Mz β M H) {a:ag} (h:H a=none):Fz β M a:=⟨m.free h,fun z=>by
 obtain ⟨o,e,_⟩:=m.hids a z
 rw [h] at e
 cases e⟩
theorem Aw {p a:ag} {o:HO} (h:∃u,H a=NG u):∃u,upd H p o a=NG u :=by
 unfold upd
 split
 ·exact ⟨_,rfl⟩
 ·exact h
theorem Ex.lay (m:Mz β M H) {p:ag} (h:H p=none) (o:HO):Ex β M H M (upd H p o) :=by
 have pre:∀b u,H b=some u->upd H p o b=some u:=fun b u q=>by rw [ae (aU q h)];exact q
 have rz:∀{v:V} {d:Dv},Rz β M H v d->Rz β M (upd H p o) v d:=fun r=>by
  induction r with
  |int i=>exact .int i
  |bl b=>exact .bl b
  |ao=>exact .ao
  |str z=>exact .str z
  |tup m e hl h ih=>exact .tup m (pre _ _ e) hl ih
  |lst m e hl h ih=>exact .lst m (pre _ _ e) hl ih
  |dk m e hk hl h ih=>exact .dk m (e.map fun _ h=>pre _ _ h) hk hl ih
  |dt m e hk hl h ih=>exact .dt m (e.map fun _ h=>pre _ _ h) hk hl ih
  |bB m e m2 e2 hl h ih=>exact .bB m (pre _ _ e) m2 (pre _ _ e2) hl ih
  |set m e=>exact .set m (pre _ _ e)
  |ptr m=>exact .ptr m
  |exc m e=>exact .exc m (pre _ _ e)
  |bf m e=>exact .bf m (pre _ _ e)
  |b5 m e=>exact .b5 m (pre _ _ e)
  |b6 e=>exact .b6 e
  |raw v=>exact .raw v
 refine ⟨⟨fun b u _ q=>.inl (pre b u q),fun _ h=>h,fun _ _ h _=>h⟩,fun a u e=>?_,fun q hq=>?_,fun a ha=>(m.hids a ha).upd (.inl h),m.apart,fun q hq=>(m.lams q hq).keep (fun _ e=>pre _ _ e) fun _ _ _ e=>pre _ _ e⟩
 ·have z:=m.obj a u e
  cases u with
  |lst ds=>obtain ⟨vs,z,l,r⟩:=z;exact ⟨vs,pre _ _ z,l,fun i v d a b=>rz (r i v d a b)⟩
  |dk ks ds=>obtain ⟨vs,z,hk,l,r⟩:=z;exact ⟨vs,pre _ _ z,hk,l,fun i v d a b=>rz (r i v d a b)⟩
  |dt ks ds=>obtain ⟨vs,z,hk,l,r⟩:=z;exact ⟨vs,pre _ _ z,hk,l,fun i v d a b=>rz (r i v d a b)⟩
  |bZ=>obtain ⟨c,n,z,r⟩:=z;exact ⟨c,n,pre _ _ z,r⟩
 ·obtain ⟨ps,e,t⟩:=m.tabs q hq
  exact ⟨ps,pre _ _ e,t⟩
theorem Ex.grow (m:Mz β M H) {p:ag} (hp:p∈β.tb) {ps:Array ap} (t:GE ps.toList):Ex β M H M (upd H p (.cz ps)) :=by
 obtain ⟨MU,Ki,t0⟩:=m.tabs p hp
 have pre:∀b u,H b=some u->yf u=true->upd H p (.cz ps) b=some u:=fun b u q n=>by
  have:b≠p:=fun z=>by subst z;rw [Ki] at q;cases q;cases n
  rw [ae this];exact q
 have rz:∀{v:V} {d:Dv},Rz β M H v d->Rz β M (upd H p (.cz ps)) v d:=fun r=>by
  induction r with
  |int i=>exact .int i
  |bl b=>exact .bl b
  |ao=>exact .ao
  |str z=>exact .str z
  |tup m e hl h ih=>exact .tup m (pre _ _ e rfl) hl ih
  |lst m e hl h ih=>exact .lst m (pre _ _ e rfl) hl ih
  |dk m e hk hl h ih=>exact .dk m (e.Gk rfl fun x hx h=>pre _ _ h hx) hk hl ih
  |dt m e hk hl h ih=>exact .dt m (e.Gk rfl fun x hx h=>pre _ _ h hx) hk hl ih
  |bB m e m2 e2 hl h ih=>exact .bB m (pre _ _ e rfl) m2 (pre _ _ e2 rfl) hl ih
  |set m e=>exact .set m (pre _ _ e rfl)
  |ptr m=>exact .ptr m
  |exc m e=>exact .exc m (pre _ _ e rfl)
  |bf m e=>exact .bf m (pre _ _ e rfl)
  |b5 m e=>exact .b5 m (pre _ _ e rfl)
  |b6 e=>exact .b6 e
  |raw v=>exact .raw v
 refine ⟨⟨fun b u _ q=>?_,fun _ h=>h,fun _ _ h _=>h⟩,fun a u e=>?_,fun q hq=>?_,fun a ha=>(m.hids a ha).upd (.inr rfl),m.apart,fun q hq=>(m.lams q hq).keep (fun _ e=>pre _ _ e rfl) fun _ _ _ e=>pre _ _ e rfl⟩
 ·by_cases e:b=p
  ·subst e
   rw [Ki] at q
   cases q
   exact .inr ⟨_,.inl ⟨MU,ps,rfl,rfl,t⟩,aA⟩
  ·exact .inl (by rw [ae e];exact q)
 ·have z:=m.obj a u e
  cases u with
  |lst ds=>obtain ⟨vs,z,l,r⟩:=z;exact ⟨vs,pre _ _ z rfl,l,fun i v d a b=>rz (r i v d a b)⟩
  |dk ks ds=>obtain ⟨vs,z,hk,l,r⟩:=z;exact ⟨vs,pre _ _ z rfl,hk,l,fun i v d a b=>rz (r i v d a b)⟩
  |dt ks ds=>obtain ⟨vs,z,hk,l,r⟩:=z;exact ⟨vs,pre _ _ z rfl,hk,l,fun i v d a b=>rz (r i v d a b)⟩
  |bZ=>obtain ⟨c,n,z,r⟩:=z;exact ⟨c,n,pre _ _ z rfl,r⟩
 ·by_cases e:q=p
  ·subst e;exact ⟨ps,aA,t⟩
  ·obtain ⟨p2,e2,t2⟩:=m.tabs q hq
   exact ⟨p2,by rw [ae e];exact e2,t2⟩
def aq (M:Mh) (a:ag) (o:Mo):Mh:=fun b=>if b=a then NG o else M b
theorem updM_same {a:ag} {o:Mo}:aq M a o a=NG o :=by unfold aq;rw [if_pos rfl]
theorem af {a b:ag} {o:Mo} (h:b≠a):aq M a o b=M b :=by unfold aq;rw [if_neg h]
theorem updM_updM {a:ag} {o u:Mo}:aq (aq M a o) a u=aq M a u :=by funext b;unfold aq;split <;> rfl
theorem jB {p:ag} {o:Mo} {u:HO} (hp:(M p).isSome=true\/H p=none) {v:V} {d:Dv} (h:Rz β M H v d):Rz β (aq M p o) (upd H p u) v d :=by
 have ne:∀a x,M a=none->H a=NG x->a≠p:=fun a x m e z=>by
  subst z
  rcases hp with q|q
  ·rw [m] at q;cases q
  ·rw [q] at e;cases e
 induction h with
 |int i=>exact .int i
 |bl b=>exact .bl b
 |ao=>exact .ao
 |str z=>exact .str z
 |tup m e hl h ih=>have n:=ne _ _ m.1 e;exact .tup ⟨by rw [af n];exact m.1,m.2⟩ (by rw [ae n];exact e) hl ih
 |lst m e hl h ih=>have n:=ne _ _ m.1 e;exact .lst ⟨by rw [af n];exact m.1,m.2⟩ (by rw [ae n];exact e) hl ih
 |dk m e hk hl h ih=>have n:=ne _ _ m.1 e.there.choose_spec;exact .dk ⟨by rw [af n];exact m.1,m.2⟩ (e.map fun _ h=>by rw [ae n];exact h) hk hl ih
 |dt m e hk hl h ih=>have n:=ne _ _ m.1 e.there.choose_spec;exact .dt ⟨by rw [af n];exact m.1,m.2⟩ (e.map fun _ h=>by rw [ae n];exact h) hk hl ih
 |bB m e m2 e2 hl h ih=>have n:=ne _ _ m.1 e;have n2:=ne _ _ m2.1 e2;exact .bB ⟨by rw [af n];exact m.1,m.2⟩ (by rw [ae n];exact e) ⟨by rw [af n2];exact m2.1,m2.2⟩ (by rw [ae n2];exact e2) hl ih
 |set m e=>have n:=ne _ _ m.1 e;exact .set ⟨by rw [af n];exact m.1,m.2⟩ (by rw [ae n];exact e)
 |ptr m=>
  refine .ptr ?_
  unfold aq
  split
  ·rfl
  ·exact m
 |exc m e=>have n:=ne _ _ m.1 e;exact .exc ⟨by rw [af n];exact m.1,m.2⟩ (by rw [ae n];exact e)
 |bf m e=>have n:=ne _ _ m.1 e;exact .bf ⟨by rw [af n];exact m.1,m.2⟩ (by rw [ae n];exact e)
 |b5 m e=>have n:=ne _ _ m.1 e;exact .b5 ⟨by rw [af n];exact m.1,m.2⟩ (by rw [ae n];exact e)
 |b6 e=>exact .b6 e
 |raw v=>exact .raw v
theorem gG.upd {p:ag} {o':Mo} {u:HO} (hp:(M p).isSome=true\/H p=none) {a:ag} {o:Mo} (ha:a≠p) (z:gG β M H a o):gG β (aq M p o') (L2.upd H p u) a o :=by
 cases o with
 |lst ds=>obtain ⟨vs,z,l,r⟩:=z;exact ⟨vs,by rw [ae ha];exact z,l,fun i v d a b=>jB hp (r i v d a b)⟩
 |dk ks ds=>obtain ⟨vs,z,hk,l,r⟩:=z;exact ⟨vs,by rw [ae ha];exact z,hk,l,fun i v d a b=>jB hp (r i v d a b)⟩
 |dt ks ds=>obtain ⟨vs,z,hk,l,r⟩:=z;exact ⟨vs,by rw [ae ha];exact z,hk,l,fun i v d a b=>jB hp (r i v d a b)⟩
 |bZ=>obtain ⟨c,n,z,r⟩:=z;exact ⟨c,n,by rw [ae ha];exact z,r⟩
theorem Ex.mM (m:Mz β M H) {p:ag} {u:HO} {o':Mo} (hp:(M p).isSome=true\/H p=none) (hu:kP u=true) (r:gG β (aq M p o') (upd H p u) p o'):Ex β M H (aq M p o') (upd H p u) :=by
 have ne:∀a x,M a=none->H a=NG x->a≠p:=fun a x m e z=>by
  subst z
  rcases hp with q|q
  ·rw [m] at q;cases q
  ·rw [q] at e;cases e
 refine ⟨⟨fun b u hm q=>.inl ?_,fun a h=>?_,fun a o hm h=>?_⟩,fun a o e=>?_,fun q hq=>?_,fun a ha=>(m.hids a ha).upd (.inr hu),fun a o e z=>?_,fun q hq=>?_⟩
 ·rw [ae (ne b _ hm q)];exact q
 ·unfold aq
  split
  ·rfl
  ·exact h
 ·rw [af (ne a _ hm h)];exact hm
 ·by_cases ha:a=p
  ·subst ha
   rw [updM_same] at e
   cases e
   exact r
  ·rw [af ha] at e
   exact (m.obj a o e).upd hp ha
 ·obtain ⟨ps,e,t⟩:=m.tabs q hq
  exact ⟨ps,by rw [ae (ne q _ (m.Jc hq) e)];exact e,t⟩
 ·by_cases ha:a=p
  ·subst ha
   rcases hp with h|h
   ·cases q:M a with
    |none=>rw [q] at h;cases h
    |some u=>exact m.apart a u q z
   ·obtain ⟨u,hu,_⟩:=m.hids a z
    rw [h] at hu
    cases hu
  ·rw [af ha] at e
   exact m.apart a o e z
 ·exact (m.lams q hq).keep (fun _ e=>by rw [ae (ne q.1 _ (m.Gm hq) e)];exact e) fun c _ _ e=>by rw [ae (ne c _ (m.jA e rfl) e)];exact e
theorem Ex.own (m:Mz β M H) {p:ag} {vs:List V} {ds:List Dv} (hp:(M p).isSome=true\/H p=none) (r:aE β M H vs ds):Ex β M H (aq M p (.lst ds)) (upd H p (.lst vs)):=
 Ex.mM m hp rfl ⟨vs,aA,r.len,fun i v d a b=>jB hp (r.at' i v d a b)⟩
theorem Ex.LK (m:Mz β M H) {p:ag} {ks:List Key} {vs:List V} {ds:List Dv} (hp:(M p).isSome=true\/H p=none) (hk:ks.length=vs.length) (r:aE β M H vs ds):Ex β M H (aq M p (.dk ks ds)) (upd H p (.dK (ks.zip vs))):=
 Ex.mM m hp rfl ⟨vs,aA,hk,r.len,fun i v d a b=>jB hp (r.at' i v d a b)⟩
theorem Ex.LL (m:Mz β M H) {p:ag} {ks:List (List Key)} {vs:List V} {ds:List Dv} (hp:(M p).isSome=true\/H p=none) (hk:ks.length=vs.length) (r:aE β M H vs ds):Ex β M H (aq M p (.dt ks ds)) (upd H p (.dT (ks.zip vs))):=
 Ex.mM m hp rfl ⟨vs,aA,hk,r.len,fun i v d a b=>jB hp (r.at' i v d a b)⟩
abbrev Bz.add (β:Bz) (D:ag):Bz:={β with hid:=D::β.hid}
theorem Rz.enter {D:ag} {o:HO} (hD:H D=none) {v:V} {d:Dv} (h:Rz β M H v d):Rz (β.add D) M (upd H D o) v d :=by
 have ne:∀a x,Fz β M a->H a=some x->Fz (β.add D) M a:=fun a x m e=>⟨m.1,by
  intro z
  rcases lc.mp z with z|z
  ·subst z;rw [hD] at e;cases e
  ·exact m.2 z⟩
 have pre:∀a x,H a=some x->upd H D o a=some x:=fun a x e=>by rw [ae (aU e hD)];exact e
 induction h with
 |int i=>exact .int i
 |bl b=>exact .bl b
 |ao=>exact .ao
 |str z=>exact .str z
 |tup m e hl h ih=>exact .tup (ne _ _ m e) (pre _ _ e) hl ih
 |lst m e hl h ih=>exact .lst (ne _ _ m e) (pre _ _ e) hl ih
 |dk m e hk hl h ih=>exact .dk (ne _ _ m e.there.choose_spec) (e.map fun _ h=>pre _ _ h) hk hl ih
 |dt m e hk hl h ih=>exact .dt (ne _ _ m e.there.choose_spec) (e.map fun _ h=>pre _ _ h) hk hl ih
 |bB m e m2 e2 hl h ih=>exact .bB (ne _ _ m e) (pre _ _ e) (ne _ _ m2 e2) (pre _ _ e2) hl ih
 |set m e=>exact .set (ne _ _ m e) (pre _ _ e)
 |ptr m=>exact .ptr m
 |exc m e=>exact .exc (ne _ _ m e) (pre _ _ e)
 |bf m e=>exact .bf (ne _ _ m e) (pre _ _ e)
 |b5 m e=>exact .b5 (ne _ _ m e) (pre _ _ e)
 |b6 e=>exact .b6 e
 |raw v=>exact .raw v
theorem Rz.sub {cD:Bz} (hP:cD.P=β.P) (hw:cD.w=β.w) (hK:cD.K=β.K) (hs:∀a,a∈cD.hid->a∈β.hid) {v:V} {d:Dv} (h:Rz β M H v d):Rz cD M H v d :=by
 have ne:∀a,Fz β M a->Fz cD M a:=fun a m=>⟨m.1,fun z=>m.2 (hs a z)⟩
 induction h with
 |int i=>exact .int i
 |bl b=>exact .bl b
 |ao=>exact .ao
 |str z=>exact .str z
 |tup m e hl h ih=>exact .tup (ne _ m) e hl ih
 |lst m e hl h ih=>exact .lst (ne _ m) e hl ih
 |dk m e hk hl h ih=>exact .dk (ne _ m) e hk hl ih
 |dt m e hk hl h ih=>exact .dt (ne _ m) e hk hl ih
 |bB m e m2 e2 hl h ih=>exact .bB (ne _ m) e (ne _ m2) e2 hl ih
 |set m e=>exact .set (ne _ m) (by rw [hP,hw];exact e)
 |ptr m=>exact .ptr m
 |exc m e=>exact .exc (ne _ m) e
 |bf m e=>exact .bf (ne _ m) e
 |b5 m e=>exact .b5 (ne _ m) e
 |b6 e=>exact .b6 (by rw [hK];exact e)
 |raw v=>exact .raw v
theorem Mz.sub {cD:Bz} (hP:cD.P=β.P) (hw:cD.w=β.w) (hK:cD.K=β.K) (ht:cD.tb=β.tb) (hs:∀a,a∈cD.hid->a∈β.hid) (m:Mz β M H):Mz cD M H:=⟨fun a o e=>by
 have z:=m.obj a o e
 cases o with
 |lst ds=>obtain ⟨vs,z,l,r⟩:=z;exact ⟨vs,z,l,fun i v d a b=>(r i v d a b).sub hP hw hK hs⟩
 |dk ks ds=>obtain ⟨vs,z,hk,l,r⟩:=z;exact ⟨vs,z,hk,l,fun i v d a b=>(r i v d a b).sub hP hw hK hs⟩
 |dt ks ds=>obtain ⟨vs,z,hk,l,r⟩:=z;exact ⟨vs,z,hk,l,fun i v d a b=>(r i v d a b).sub hP hw hK hs⟩
 |bZ=>exact z,by rw [ht];exact m.tabs,fun a ha=>m.hids a (hs a ha),fun a o e z=>m.apart a o e (hs a z),by rw [ht];exact m.lams⟩
theorem Mz.enter {D:ag} {o:HO} (hD:H D=none) (ho:kP o=true) (m:Mz β M H):Mz (β.add D) M (upd H D o):=⟨fun a u e=>by
 have pre:∀a x,H a=NG x->upd H D o a=NG x:=fun a x e=>by rw [ae (aU e hD)];exact e
 have z:=m.obj a u e
 cases u with
 |lst ds=>obtain ⟨vs,z,l,r⟩:=z;exact ⟨vs,pre _ _ z,l,fun i v d a b=>(r i v d a b).enter hD⟩
 |dk ks ds=>obtain ⟨vs,z,hk,l,r⟩:=z;exact ⟨vs,pre _ _ z,hk,l,fun i v d a b=>(r i v d a b).enter hD⟩
 |dt ks ds=>obtain ⟨vs,z,hk,l,r⟩:=z;exact ⟨vs,pre _ _ z,hk,l,fun i v d a b=>(r i v d a b).enter hD⟩
 |bZ=>obtain ⟨c,n,z,r⟩:=z;exact ⟨c,n,pre _ _ z,r⟩,fun p hp=>by
 obtain ⟨ps,e,t⟩:=m.tabs p hp
 exact ⟨ps,by rw [ae (aU e hD)];exact e,t⟩,fun a ha=>by
 rcases lc.mp ha with z|z
 ·subst z;exact ⟨_,aA,ho⟩
 ·exact (m.hids a z).upd (.inl hD),fun a o e ha=>by
 rcases lc.mp ha with z|z
 ·subst z;rw [m.free hD] at e;cases e
 ·exact m.apart a o e z,fun q hq=>(m.lams q hq).keep (fun _ e=>by rw [ae (aU e hD)];exact e) fun _ _ _ e=>by rw [ae (aU e hD)];exact e⟩
theorem Rz.over {D:ag} {o:HO} (hD:D∈β.hid) {v:V} {d:Dv} (h:Rz β M H v d):Rz β M (upd H D o) v d :=by
 have pre:∀a x,Fz β M a->H a=some x->upd H D o a=some x:=fun a x m e=>by
  have n:a≠D:=fun z=>by subst z;exact m.2 hD
  rw [ae n];exact e
 induction h with
 |int i=>exact .int i
 |bl b=>exact .bl b
 |ao=>exact .ao
 |str z=>exact .str z
 |tup m e hl h ih=>exact .tup m (pre _ _ m e) hl ih
 |lst m e hl h ih=>exact .lst m (pre _ _ m e) hl ih
 |dk m e hk hl h ih=>exact .dk m (e.map fun _ h=>pre _ _ m h) hk hl ih
 |dt m e hk hl h ih=>exact .dt m (e.map fun _ h=>pre _ _ m h) hk hl ih
 |bB m e m2 e2 hl h ih=>exact .bB m (pre _ _ m e) m2 (pre _ _ m2 e2) hl ih
 |set m e=>exact .set m (pre _ _ m e)
 |ptr m=>exact .ptr m
 |exc m e=>exact .exc m (pre _ _ m e)
 |bf m e=>exact .bf m (pre _ _ m e)
 |b5 m e=>exact .b5 m (pre _ _ m e)
 |b6 e=>exact .b6 e
 |raw v=>exact .raw v
theorem Mz.over {D:ag} {o:HO} (hD:D∈β.hid) (ho:kP o=true) (hM:M D=none) (ht:D ∉ β.tb) (m:Mz β M H):Mz β M (upd H D o):=⟨fun a u e=>by
 have na:a≠D:=fun z=>by subst z;rw [hM] at e;cases e
 have z:=m.obj a u e
 cases u with
 |lst ds=>obtain ⟨vs,z,l,r⟩:=z;exact ⟨vs,by rw [ae na];exact z,l,fun i v d a b=>(r i v d a b).over hD⟩
 |dk ks ds=>obtain ⟨vs,z,hk,l,r⟩:=z;exact ⟨vs,by rw [ae na];exact z,hk,l,fun i v d a b=>(r i v d a b).over hD⟩
 |dt ks ds=>obtain ⟨vs,z,hk,l,r⟩:=z;exact ⟨vs,by rw [ae na];exact z,hk,l,fun i v d a b=>(r i v d a b).over hD⟩
 |bZ=>obtain ⟨c,n,z,r⟩:=z;exact ⟨c,n,by rw [ae na];exact z,r⟩,fun p hp=>by
 obtain ⟨ps,e,t⟩:=m.tabs p hp
 have n:p≠D:=fun z=>by subst z;exact ht hp
 exact ⟨ps,by rw [ae n];exact e,t⟩,fun a ha=>(m.hids a ha).upd (.inr ho),m.apart,fun q hq=>by
 obtain ⟨o',e',n⟩:=m.hids D hD
 exact (m.lams q hq).keep (fun _ e=>by rw [ae (fun z=>by subst z;rw [e'] at e;cases e;cases n)];exact e) fun c _ _ e=>by rw [ae (fun z=>by subst z;rw [e'] at e;cases e;cases n)];exact e⟩
theorem Ey.over {D:ag} {o:HO} (x:Ey M H M1 H1) (hD:H D=none):Ey M H M1 (upd H1 D o):=⟨fun b u m h=>by
 have nb:b≠D:=aU h hD
 rw [ae nb]
 exact x.keep b u m h,x.dom,x.new⟩
theorem Mz.Ax {D:ag} (m:Mz β M H) (hD:H D=none):D ∉ β.tb:=fun z=>by
 obtain ⟨_,e,_⟩:=m.tabs D z
 rw [hD] at e
 cases e
structure Bx (β cD:Bz) (H:Hp):Prop where
 P:cD.P=β.P
 w:cD.w=β.w
 K:cD.K=β.K
 tb:cD.tb=β.tb
 old:∀a,a∈β.hid->a∈cD.hid
 new:∀a,a∈cD.hid->a∈β.hid\/H a=none
theorem Bx.refl:Bx β β H:=⟨rfl,rfl,rfl,rfl,fun _ h=>h,fun _ h=>.inl h⟩
theorem Bx.add {D:ag} (hD:H D=none):Bx β (β.add D) H:=⟨rfl,rfl,rfl,rfl,fun _ h=>gc _ h,fun a h=>by
 rcases lc.mp h with z|z
 ·exact .inr (z▸hD)
 ·exact .inl z⟩
theorem Rz.bx {cD:Bz} (b:Bx β cD H) {v:V} {d:Dv} (h:Rz β M H v d):Rz cD M H v d :=by
 have ne:∀a x,Fz β M a->H a=some x->Fz cD M a:=fun a x m e=>⟨m.1,fun z=>by
  rcases b.new a z with q|q
  ·exact m.2 q
  ·rw [q] at e;cases e⟩
 induction h with
 |int i=>exact .int i
 |bl b=>exact .bl b
 |ao=>exact .ao
 |str z=>exact .str z
 |tup m e hl h ih=>exact .tup (ne _ _ m e) e hl ih
 |lst m e hl h ih=>exact .lst (ne _ _ m e) e hl ih
 |dk m e hk hl h ih=>exact .dk (ne _ _ m e.there.choose_spec) e hk hl ih
 |dt m e hk hl h ih=>exact .dt (ne _ _ m e.there.choose_spec) e hk hl ih
 |bB m e m2 e2 hl h ih=>exact .bB (ne _ _ m e) e (ne _ _ m2 e2) e2 hl ih
 |set m e=>exact .set (ne _ _ m e) (by rw [b.P,b.w];exact e)
 |ptr m=>exact .ptr m
 |exc m e=>exact .exc (ne _ _ m e) e
 |bf m e=>exact .bf (ne _ _ m e) e
 |b5 m e=>exact .b5 (ne _ _ m e) e
 |b6 e=>exact .b6 (by rw [b.K];exact e)
 |raw v=>exact .raw v
end
inductive Pin (M:Mh):Dv->Prop where
 |int (i:Int):Pin M (.int i)
 |bl (b:Bool):Pin M (.bl b)
 |ao:Pin M .ao
 |str (z:br):Pin M (.str z)
 |tup {ds:List Dv} (h:∀d∈ds,Pin M d):Pin M (.tup ds)
 |lst {ds:List Dv} (h:∀d∈ds,Pin M d):Pin M (.lst ds)
 |set (ns:List Int):Pin M (.set ns)
 |ptr {a:ag} (h:(M a).isSome=true):Pin M (.ptr a)
 |exc (C:ag):Pin M (.exc C)
 |bf (ns:List Int):Pin M (.bf ns)
 |raw (v:V):Pin M (.raw v)
 |dk {ks:List Key} {ds:List Dv} (h:∀d∈ds,Pin M d):Pin M (.dk ks ds)
 |dt {ks:List (List Key)} {ds:List Dv} (h:∀d∈ds,Pin M d):Pin M (.dt ks ds)
 |bB {f c:ag} {o oc:i4} {vs:List V} {ds:List Dv} (h:∀d∈ds,Pin M d):Pin M (.bB f o c oc vs ds)
theorem Rz.pin {β:Bz} {M:Mh} {H:Hp} {v:V} {d:Dv} (h:Rz β M H v d):Pin M d :=by
 induction h with
 |int i=>exact .int i
 |bl b=>exact .bl b
 |ao=>exact .ao
 |str z=>exact .str z
 |tup m e hl h ih=>
  refine .tup fun d hd=>?_
  obtain ⟨i,hi⟩:=l7.mp hd
  have h1:=(bv.mp hi).1
  exact ih i _ d (al (by omega)) hi
 |lst m e hl h ih=>
  refine .lst fun d hd=>?_
  obtain ⟨i,hi⟩:=l7.mp hd
  have h1:=(bv.mp hi).1
  exact ih i _ d (al (by omega)) hi
 |dk m e hk hl h ih=>
  refine .dk fun d hd=>?_
  obtain ⟨i,hi⟩:=l7.mp hd
  have h1:=(bv.mp hi).1
  exact ih i _ d (al (by omega)) hi
 |dt m e hk hl h ih=>
  refine .dt fun d hd=>?_
  obtain ⟨i,hi⟩:=l7.mp hd
  have h1:=(bv.mp hi).1
  exact ih i _ d (al (by omega)) hi
 |bB m e m2 e2 hl h ih=>
  refine .bB fun d hd=>?_
  obtain ⟨i,hi⟩:=l7.mp hd
  have h1:=(bv.mp hi).1
  exact ih i _ d (al (by omega)) hi
 |set m e=>exact .set _
 |ptr m=>exact .ptr m
 |exc m e=>exact .exc _
 |bf m e=>exact .bf _
 |b5 m e=>exact .bf _
 |b6 e=>exact .bf _
 |raw v=>exact .raw v
def Mo.items:Mo->List Dv
 | .lst ds=>ds
 | .dk _ ds=>ds
 | .dt _ ds=>ds
 | .bZ=>[]
def Wf (M:Mh):Prop:=∀b o,M b=some o->∀d∈o.items,Pin M d
theorem gG.MV {β:Bz} {M:Mh} {H:Hp} {a:ag} {o:Mo} (h:gG β M H a o):∃vs,aE β M H vs o.items :=by
 cases o with
 |lst ds=>obtain ⟨vs,_,rs⟩:=h;exact ⟨vs,rs⟩
 |dk ks ds=>obtain ⟨vs,_,_,rs⟩:=h;exact ⟨vs,rs⟩
 |dt ks ds=>obtain ⟨vs,_,_,rs⟩:=h;exact ⟨vs,rs⟩
 |bZ=>exact ⟨[],.nil⟩
theorem Mz.wf {β:Bz} {M:Mh} {H:Hp} (m:Mz β M H):Wf M:=fun b o e d hd=>by
 obtain ⟨vs,rs⟩:=(m.obj b _ e).MV
 obtain ⟨i,hi⟩:=l7.mp hd
 obtain ⟨v,_,r⟩:=rs.get hi
 exact r.pin
abbrev av:=List (Option Dv)
abbrev ZK:=Dv->Mh->Prop
abbrev aH:=av->Mh->ZK->Prop
abbrev cm:=av->Mh->(Bool->Mh->Prop)->Prop
abbrev dX:=av->Mh->(List Dv->Mh->Prop)->Prop
structure dy where
 nx:av->Mh->Prop
 rt:ZK
 bk:av->Mh->Prop:=fun _ _=>False
 ct:av->Mh->Prop:=fun _ _=>False
abbrev bH:=dy->av->Mh->Prop
abbrev b9:=Dv->av->Mh->(av->Mh->Prop)->Prop
abbrev fG:=av->Mh->(List Dv->Mh->Prop)->Prop
structure Gz extends Bz where
 M0:Mh
 H0:Hp
structure Zr (Γ:Gz) (β:Bz) (M:Mh) (ρ:av) (σ:St) (H:Hp):Prop where
 eP:β.P=Γ.P
 ew:β.w=Γ.w
 eK:β.K=Γ.K
 et:β.tb=Γ.tb
 sub:∀a,a∈Γ.hid->a∈β.hid
 wf:Wf Γ.M0
 ent:Ey Γ.M0 Γ.H0 M H
 mz:Mz β M H
 len:ρ.length=σ.length
 at':∀(i:Nat) (d:Dv),ρ[i]?=some (some d)->∃v,σ[i]?=some (some v)/\Rz β M H v d
section
variable {Γ:Gz} {β:Bz} {M M':Mh} {ρ:av} {σ:St} {H H':Hp}
theorem Zr.step (z:Zr Γ β M ρ σ H) (x:Ex β M H M' H'):Zr Γ β M' ρ σ H':=⟨z.eP,z.ew,z.eK,z.et,z.sub,z.wf,z.ent.trans x.toEy,x.mz,z.len,fun i d e=>let ⟨v,h,r⟩:=z.at' i d e;⟨v,h,r.ex x⟩⟩
theorem Zr.set (z:Zr Γ β M ρ σ H) (i:Nat) {v:V} {d:Dv} (r:Rz β M H v d):Zr Γ β M (ρ.set i (some d)) (σ.set i (some v)) H:=⟨z.eP,z.ew,z.eK,z.et,z.sub,z.wf,z.ent,z.mz,by simp [z.len],fun j e h=>by
 rw [BS] at h ⊢
 rw [z.len] at h
 split at h
 ·rename_i q
  rw [if_pos q]
  split at h
  ·rename_i q2
   rw [if_pos q2]
   cases h
   exact ⟨v,rfl,r⟩
  ·cases h
 ·rename_i q
  rw [if_neg q]
  exact z.at' j e h⟩
end
def lE (Γ:Gz) (p:aH):TE:=fun σ H Q=>∃(β:Bz) (ρ:av) (M:Mh) (Q':ZK),Zr Γ β M ρ σ H/\p ρ M Q'/\∀d M' v H',Ex β M H M' H'->Rz β M' H' v d->Q' d M'->Q v H'
def lT (Γ:Gz) (p:cm):TT:=fun σ H Q=>∃(β:Bz) (ρ:av) (M:Mh) (Q':Bool->Mh->Prop),Zr Γ β M ρ σ H/\p ρ M Q'/\∀b M' H',Ex β M H M' H'->Q' b M'->Q b H'
def lA (Γ:Gz) (p:dX):TA:=fun σ H Q=>∃(β:Bz) (ρ:av) (M:Mh) (Q':List Dv->Mh->Prop),Zr Γ β M ρ σ H/\p ρ M Q'/\∀ds M' vs H',Ex β M H M' H'->aE β M' H' vs ds->Q' ds M'->Q vs H'
structure Ev (β:Bz) (M:Mh) (H:Hp) (M':Mh) (H':Hp):Prop where
 keep:∀b o,M b=none->H b=some o->H' b=some o\/∃o',Tg o o'/\H' b=some o'
 new:∀a o,M a=none->H a=some o->M' a=none
 mz:Mz β M' H'
theorem Ex.ev {β:Bz} {M M':Mh} {H H':Hp} (x:Ex β M H M' H'):Ev β M H M' H':=⟨x.keep,x.new,x.mz⟩
theorem Ev.refl {β:Bz} {M:Mh} {H:Hp} (m:Mz β M H):Ev β M H M H:=(Ex.refl m).ev
theorem Ev.trans {β:Bz} {M M1 M2:Mh} {H H1 H2:Hp} (x:Ev β M H M1 H1) (y:Ev β M1 H1 M2 H2):Ev β M H M2 H2 :=by
 refine ⟨fun b o hm h=>?_,fun a o hm h=>?_,y.mz⟩
 ·have kQ:=x.new b o hm h
  rcases x.keep b o hm h with q|⟨o1,t,q⟩
  ·exact y.keep b o kQ q
  ·rcases y.keep b _ kQ q with q2|⟨o2,t2,q2⟩
   ·exact .inr ⟨o1,t,q2⟩
   ·exact .inr ⟨o2,t.trans t2,q2⟩
 ·have kQ:=x.new a o hm h
  rcases x.keep a o hm h with q|⟨o1,t,q⟩
  ·exact y.new a _ kQ q
  ·exact y.new a _ kQ q
structure vO (Γ:Gz) (β:Bz) (M:Mh) (H:Hp) (D':dy) (D:Ends):Prop where
 nx:∀bC M' aF H',Ev β M H M' H'->Zr Γ β M' bC aF H'->D'.nx bC M'->D.nx aF H'
 rt:∀d M' v H',Ev β M H M' H'->Ey Γ.M0 Γ.H0 M' H'->Rz β M' H' v d->D'.rt d M'->D.rt v H'
 bk:∀bC M' aF H',Ev β M H M' H'->Zr Γ β M' bC aF H'->D'.bk bC M'->D.bk aF H'
 ct:∀bC M' aF H',Ev β M H M' H'->Zr Γ β M' bC aF H'->D'.ct bC M'->D.ct aF H'
theorem vO.step {Γ:Gz} {β:Bz} {M M1:Mh} {H H1:Hp} {D':dy} {D:Ends} (r:vO Γ β M H D' D) (x:Ev β M H M1 H1):vO Γ β M1 H1 D' D:=
 ⟨fun a b c d y=>r.nx a b c d (x.trans y),fun a b c d y=>r.rt a b c d (x.trans y),fun a b c d y=>r.bk a b c d (x.trans y),fun a b c d y=>r.ct a b c d (x.trans y)⟩
def lS (Γ:Gz) (p:bH):TS:=fun D σ H=>∃(β:Bz) (ρ:av) (M:Mh) (D':dy),Zr Γ β M ρ σ H/\p D' ρ M/\vO Γ β M H D' D
def lG (Γ:Gz) (p:b9):TG:=fun x σ H N=>∃(β:Bz) (d:Dv) (ρ:av) (M:Mh) (N':av->Mh->Prop),Zr Γ β M ρ σ H/\Rz β M H x d/\p d ρ M N'/\∀bC M' aF H',Ex β M H M' H'->Zr Γ β M' bC aF H'->N' bC M'->N aF H'
def B3 (β:Bz) (J:It) (ds:List Dv) (M:Mh) (H:Hp):Prop:=∀cD M' H',Bx β cD H->Ey M H M' H'->Mz cD M' H'->∀i,(i<ds.length->J.go i H'/\∀x kT,J.yld i H' x kT->Ex cD M' H' M' kT/\∃d,ds[i]?=some d/\Rz cD M' kT x d)/\(ds.length<=i->J.stop i H')
def lI (Γ:Gz) (p:fG):TI:=fun σ H R=>∃(β:Bz) (ρ:av) (M:Mh) (R':List Dv->Mh->Prop),Zr Γ β M ρ σ H/\p ρ M R'/\∀ds M' H' J,Ex β M H M' H'->B3 β J ds M' H'->R' ds M'->R J H'
abbrev QE (Γ:Gz) (X:Cx) (e:dL) (p:aH):Prop:=PE X e (lE Γ p)
abbrev QT (Γ:Gz) (X:Cx) (e:dL) (p:cm):Prop:=PT X e (lT Γ p)
abbrev QW (Γ:Gz) (X:Cx) (e:dL) (p:cm):Prop:=PW X e (lT Γ p)
abbrev QA (Γ:Gz) (X:Cx) (es:List dL) (p:dX):Prop:=PA X es (lA Γ p)
abbrev QS (Γ:Gz) (X:Cx) (s:nw) (p:bH):Prop:=PS X s (lS Γ p)
abbrev jC (Γ:Gz) (X:Cx) (s:List nw) (p:bH):Prop:=fk X s (lS Γ p)
abbrev QG (Γ:Gz) (X:Cx) (e:dL) (p:b9):Prop:=PG X e (lG Γ p)
abbrev QI (Γ:Gz) (X:Cx) (tg e:dL) (p:fG):Prop:=PI X tg e (lI Γ p)
section
variable {X:Cx}
theorem PE.imp {e:dL} {t t':TE} (h:PE X e t) (i:∀σ H Q,t' σ H Q->t σ H Q):PE X e t':=⟨fun pins s σ H Q I q=>h pins s σ H Q I (i _ _ _ q)⟩
theorem PT.imp {e:dL} {t t':TT} (h:PT X e t) (i:∀σ H Q,t' σ H Q->t σ H Q):PT X e t':=⟨fun pins s σ H Q I q=>h pins s σ H Q I (i _ _ _ q)⟩
theorem PW.imp {e:dL} {t t':TT} (h:PW X e t) (i:∀σ H Q,t' σ H Q->t σ H Q):PW X e t':=fun wh pins s σ H Q I q=>h wh pins s σ H Q I (i _ _ _ q)
theorem PA.imp {e:List dL} {t t':TA} (h:PA X e t) (i:∀σ H Q,t' σ H Q->t σ H Q):PA X e t':=⟨fun pos pins s σ H Q I q=>h pos pins s σ H Q I (i _ _ _ q)⟩
theorem PS.imp {e:nw} {t t':TS} (h:PS X e t) (i:∀D σ H,t' D σ H->t D σ H):PS X e t':=⟨fun pins s σ H D I q=>h pins s σ H D I (i _ _ _ q)⟩
theorem fk.imp {e:List nw} {t t':TS} (h:fk X e t) (i:∀D σ H,t' D σ H->t D σ H):fk X e t':=⟨fun pins s σ H D I q=>h pins s σ H D I (i _ _ _ q)⟩
theorem PG.imp {e:dL} {t t':TG} (h:PG X e t) (i:∀v σ H Q,t' v σ H Q->t v σ H Q):PG X e t':=fun pins s σ H v u Q I r q=>h pins s σ H v u Q I r (i _ _ _ _ q)
theorem PI.imp {tg e:dL} {t t':TI} (h:PI X tg e t) (i:∀σ H Q,t' σ H Q->t σ H Q):PI X tg e t':=fun pins s σ H Q I q=>h pins s σ H Q I (i _ _ _ q)
theorem gW.imp {e:List dL} {t t':TT} (h:gW X e t) (i:∀σ H Q,t' σ H Q->t σ H Q):gW X e t':=fun pins s σ H Q I q=>h pins s σ H Q I (i _ _ _ q)
variable {Γ:Gz} {a b c:dL} {pa pb pc:aH} {pos:sB}
def zVar (i:Nat):aH:=fun ρ M Q=>match ρ[i]? with|some (some d)=>Q d M|_=>False
def zC (d:Dv):aH:=fun _ M Q=>Q d M
theorem Gp {i:Nat} {x:br} (hN:X.N[i]?=some x) (hv:l0 X.env.scope x) (hd:(x==("__debug__" : br))=false :=by decide) (c9:(x==("__classdict__" : br))=false :=by decide):QE Γ X (.Name x pos) (zVar i):=
 (qX hN hv hd c9).imp fun σ H Q ⟨β,ρ,M,Q',z,h,q⟩=>by
  unfold zVar at h
  split at h
  ·rename_i d e
   obtain ⟨v,e2,r⟩:=z.at' i d e
   exact ⟨v,e2,q d M v H (.refl z.mz) r h⟩
  ·exact h.elim
theorem qc {e:dL} {v:V} {d:Dv} (h:PE X e (tC v)) (r:∀β M H,Rz β M H v d):QE Γ X e (zC d):=h.imp fun σ H Q ⟨β,ρ,M,Q',z,h,q⟩=>q d M v H (.refl z.mz) (r β M H) h
theorem aw {i j pos}:QE Γ X (.Constant (.int i) j pos) (zC (.int i)):=qc EA fun _ _ _=>.int _
theorem jR {b j pos}:QE Γ X (.Constant (.bool b) j pos) (zC (.bl b)):=qc Io fun _ _ _=>.bl _
theorem yj {x j pos}:QE Γ X (.Constant (.str x) j pos) (zC (.str x)):=qc EB fun _ _ _=>.str _
theorem Ay {x:br} {i:Int} {u:ap} (hg:Gl X x) (hm:X.mg x=some u) (r:RelV (.int i) u) (hd:(x==("__debug__" : br))=false :=by decide):QE Γ X (.Name x pos) (zC (.int i)):=qc (uj hg hm r hd) fun _ _ _=>.int _
theorem Az {x z:br} {u:ap} (hg:Gl X x) (hm:X.mg x=some u) (r:RelV (.str z) u) (hd:(x==("__debug__" : br))=false :=by decide):QE Γ X (.Name x pos) (zC (.str z)):=qc (uj hg hm r hd) fun _ _ _=>.str _
theorem jD {x:br} {v:V} {u:ap} (hg:Gl X x) (hm:X.mg x=none) (hv:bootBuiltins x=some u) (r:RelV v u) (hn:x ≠ "__name__" := by decide) (hd:(x==("__debug__" : br))=false :=by decide):QE Γ X (.Name x pos) (zC (.raw v)):=qc (CN hg hm hv r hn hd) fun _ _ _=>.raw _
abbrev dr:=Dv->Dv->Mh->ZK->Prop
def mr (Γ:Gz) (r:R2) (z:dr):Prop:=∀(β:Bz) x y d e M H Q Q',β.P=Γ.P->β.w=Γ.w->β.K=Γ.K->Mz β M H->Rz β M H x d->Rz β M H y e->z d e M Q'->(∀d' M' v H',Ex β M H M' H'->Rz β M' H' v d'->Q' d' M'->Q v H')->r x y H Q
def dF (Γ:Gz) (X:Cx) (f:ap->ap->Op ap) (z:dr):Prop:=∃r,OpR X f r/\mr Γ r z
def zOp (z:dr) (pa pb:aH):aH:=fun ρ M Q=>pa ρ M fun d M1=>pb ρ M1 fun e M2=>z d e M2 Q
theorem vP {r:R2} {z:dr} (hz:mr Γ r z) {σ:St} {H:Hp} {Q:VK} (h:lE Γ (zOp z pa pb) σ H Q):xi r (lE Γ pa) (lE Γ pb) σ H Q :=by
 obtain ⟨β,ρ,M,Q',zr,h,q⟩:=h
 exact ⟨β,ρ,M,_,zr,h,fun d M1 v H1 x1 r1 h1=>⟨β,ρ,M1,_,zr.step x1,h1,fun e M2 u H2 x2 r2 h2=>hz β v u d e M2 H2 Q Q' zr.eP zr.ew zr.eK x2.mz (r1.ex x2) r2 h2 fun d' M' v' H' x3 r3 q3=>q _ _ _ _ (x1.trans (x2.trans x3)) r3 q3⟩⟩
theorem aX {op:Operator} {z:dr} (ho:dF Γ X (binaryOp op) z) (ha:QE Γ X a pa) (hb:QE Γ X b pb):QE Γ X (.BinOp a op b pos) (zOp z pa pb) :=by
 obtain ⟨r,h1,h2⟩:=ho
 exact (Iz h1 ha hb).imp fun σ H Q h=>vP h2 h
theorem jE {op:Os} {z:dr} (ho:dF Γ X (compareOp op) z) (ha:QE Γ X a pa) (hb:QE Γ X b pb) (hm:behindInMarks op b=false):QE Γ X (.Compare a [op] [b] pos) (zOp z pa pb) :=by
 obtain ⟨r,h1,h2⟩:=ho
 exact (CY h1 ha hb hm).imp fun σ H Q h=>vP h2 h
def zBool (Q:Bool->Mh->Prop):ZK:=fun d M=>match d with | .bl k=>Q k M|_=>False
theorem f7 {Q:Bool->Mh->Prop} {d:Dv} {M:Mh} (h:zBool Q d M):∃k,d=.bl k/\Q k M :=by
 unfold zBool at h
 split at h
 ·exact ⟨_,rfl,h⟩
 ·exact h.elim
def zTest (p:aH):cm:=fun ρ M Q=>p ρ M (zBool Q)
theorem rZ {p:aH} {t:TE} (i:∀σ H Q,lE Γ p σ H Q->t σ H Q) {σ:St} {H:Hp} {Q:Bool->Hp->Prop} (h:lT Γ (zTest p) σ H Q):vk t σ H Q :=by
 obtain ⟨β,ρ,M,Q',zr,h,q⟩:=h
 refine i _ _ _ ⟨β,ρ,M,_,zr,h,fun d M1 v H1 x1 r1 h1=>?_⟩
 obtain ⟨k,rfl,h2⟩:=f7 h1
 exact ⟨k,cR r1,q k M1 H1 x1 h2⟩
theorem bV {op:Os} {z:dr} (ho:dF Γ X (compareOp op) z) (ha:QE Γ X a pa) (hb:QE Γ X b pb) (hm:behindInMarks op b=false):QT Γ X (.Compare a [op] [b] pos) (zTest (zOp z pa pb)) :=by
 obtain ⟨r,h1,h2⟩:=ho
 exact (CZ h1 ha hb hm).imp fun σ H Q h=>rZ (fun _ _ _=>vP h2) h
theorem fH {e:dL} {p:aH} (h:QE Γ X e p) (he:∀whole,isTrue e X.env whole=(do let v <- whole;standAt e.pos;holding [v] (truthy v)) :=by intro _;rfl):QT Γ X e (zTest p):=
 (EC h he).imp fun σ H Q h=>rZ (fun _ _ _ h=>h) h
def zChain (z z':dr) (pa pb pc:aH):aH:=fun ρ M Q=>pa ρ M fun x M1=>pb ρ M1 fun y M2=>z x y M2 (zBool fun k M3=>if k=true then pc ρ M3 fun u M4=>z' y u M4 Q else Q (.bl false) M3)
theorem uH {r r':R2} {z z':dr} (hz:mr Γ r z) (MX:mr Γ r' z') {σ:St} {H:Hp} {Q:VK} (h:lE Γ (zChain z z' pa pb pc) σ H Q):qZ r r' (lE Γ pa) (lE Γ pb) (lE Γ pc) σ H Q :=by
 obtain ⟨β,ρ,M,Q',zr,h,q⟩:=h
 refine ⟨β,ρ,M,_,zr,h,fun d M1 v H1 x1 r1 h1=>⟨β,ρ,M1,_,zr.step x1,h1,fun e M2 u H2 x2 r2 h2=>hz β v u d e M2 H2 _ _ zr.eP zr.ew zr.eK x2.mz (r1.ex x2) r2 h2 fun d' M3 v' H3 x3 r3 h3=>?_⟩⟩
 obtain ⟨k,rfl,h4⟩:=f7 h3
 have uI:=x1.trans (x2.trans x3)
 refine ⟨k,cR r3,?_⟩
 cases k with
 |true=>
  rw [if_pos rfl] at h4 ⊢
  exact ⟨β,ρ,M3,_,zr.step uI,h4,fun f M4 g H4 x4 r4 h5=>MX β u g e f M4 H4 _ _ zr.eP zr.ew zr.eK x4.mz ((r2.ex x3).ex x4) r4 h5 fun d5 M5 v5 H5 x5 r5 q5=>q _ _ _ _ (uI.trans (x4.trans x5)) r5 q5⟩
 |false=>
  rw [if_neg ge] at h4 ⊢
  exact q _ _ _ _ uI (.bl _) h4
theorem AA {op iu:Os} {z z':dr} (ho:dF Γ X (compareOp op) z) (fX:dF Γ X (compareOp iu) z') (ha:QE Γ X a pa) (hb:QE Γ X b pb) (hc:QE Γ X c pc) (hm:lastMarks [op,iu] [b,c]=false :=by with_unfolding_all rfl) :
  QE Γ X (.Compare a [op,iu] [b,c] pos) (zChain z z' pa pb pc) :=by
 obtain ⟨r,h1,h2⟩:=ho
 obtain ⟨r',Gq,Gr⟩:=fX
 exact (zX h1 Gq ha hb hc hm).imp fun σ H Q h=>uH h2 Gr h
theorem AB {op iu:Os} {z z':dr} (ho:dF Γ X (compareOp op) z) (fX:dF Γ X (compareOp iu) z') (ha:QE Γ X a pa) (hb:QE Γ X b pb) (hc:QE Γ X c pc) (hm:lastMarks [op,iu] [b,c]=false :=by with_unfolding_all rfl) :
  QT Γ X (.Compare a [op,iu] [b,c] pos) (zTest (zChain z z' pa pb pc)) :=by
 obtain ⟨r,h1,h2⟩:=ho
 obtain ⟨r',Gq,Gr⟩:=fX
 exact (zY h1 Gq ha hb hc hm).imp fun σ H Q h=>rZ (fun _ _ _=>uH h2 Gr) h
variable {tA ni:cm} {rest:List dL}
def zAnd (t u:cm):cm:=fun ρ M Q=>t ρ M fun c M1=>if c=true then u ρ M1 Q else Q false M1
def zOr (t u:cm):cm:=fun ρ M Q=>t ρ M fun c M1=>if c=true then Q true M1 else u ρ M1 Q
def zNot (t:cm):cm:=fun ρ M Q=>t ρ M fun c M1=>Q (!c) M1
theorem uJ (ha:QT Γ X a tA):QW Γ X (.BoolOp .And [a] pos) tA:=CO ha
theorem nW (ha:QT Γ X a tA):QW Γ X (.BoolOp .Or [a] pos) tA:=ED ha
theorem yk (ha:QT Γ X a tA) (hb:QW Γ X (.BoolOp .And (b::rest) pos) ni):QW Γ X (.BoolOp .And (a::b::rest) pos) (zAnd tA ni):=
 (EE ha hb).imp fun σ H Q ⟨β,ρ,M,Q',zr,h,q⟩=>⟨β,ρ,M,_,zr,h,fun k M1 H1 x1 h1=>by
  cases k with
  |true=>rw [if_pos rfl] at h1 ⊢;exact ⟨β,ρ,M1,_,zr.step x1,h1,fun k2 M2 H2 x2 h2=>q _ _ _ (x1.trans x2) h2⟩
  |false=>rw [if_neg ge] at h1 ⊢;exact q _ _ _ x1 h1⟩
theorem nX (ha:QT Γ X a tA) (hb:QW Γ X (.BoolOp .Or (b::rest) pos) ni):QW Γ X (.BoolOp .Or (a::b::rest) pos) (zOr tA ni):=
 (Ip ha hb).imp fun σ H Q ⟨β,ρ,M,Q',zr,h,q⟩=>⟨β,ρ,M,_,zr,h,fun k M1 H1 x1 h1=>by
  cases k with
  |false=>rw [if_neg ge] at h1 ⊢;exact ⟨β,ρ,M1,_,zr.step x1,h1,fun k2 M2 H2 x2 h2=>q _ _ _ (x1.trans x2) h2⟩
  |true=>rw [if_pos rfl] at h1 ⊢;exact q _ _ _ x1 h1⟩
theorem iD (ha:QT Γ X a tA):QT Γ X (.UnaryOp .Not a pos) (zNot tA):=(EF ha).imp fun σ H Q ⟨β,ρ,M,Q',zr,h,q⟩=>⟨β,ρ,M,_,zr,h,fun k M1 H1 x1 h1=>q _ _ _ x1 h1⟩
theorem QW.pt {e:dL} {t:cm} (h:QW Γ X e t):QT Γ X e t:=PW.pt h
def zAndV (pa pb:aH):aH:=fun ρ M Q=>pa ρ M (zBool fun c M1=>if c=true then pb ρ M1 Q else Q (.bl false) M1)
def zOrV (pa pb:aH):aH:=fun ρ M Q=>pa ρ M (zBool fun c M1=>if c=true then Q (.bl true) M1 else pb ρ M1 Q)
def zNotV (pa:aH):aH:=fun ρ M Q=>pa ρ M (zBool fun c M1=>Q (.bl (!c)) M1)
theorem kU {op} (h:QE Γ X a pa):QE Γ X (.BoolOp op [a] pos) pa:=EG h
theorem sd (ha:QE Γ X a pa) (hb:QE Γ X (.BoolOp .And (b::rest) pos) pb):QE Γ X (.BoolOp .And (a::b::rest) pos) (zAndV pa pb):=
 (EH ha hb).imp fun σ H Q ⟨β,ρ,M,Q',zr,h,q⟩=>⟨β,ρ,M,_,zr,h,fun d M1 v H1 x1 r1 h1=>by
  obtain ⟨k,rfl,h2⟩:=f7 h1
  refine ⟨k,cR r1,?_⟩
  cases k with
  |true=>rw [if_pos rfl] at h2 ⊢;exact ⟨β,ρ,M1,_,zr.step x1,h2,fun d2 M2 v2 H2 x2 r2 h2=>q _ _ _ _ (x1.trans x2) r2 h2⟩
  |false=>rw [if_neg ge] at h2 ⊢;exact q _ _ _ _ x1 (.bl _) h2⟩
theorem B4 (ha:QE Γ X a pa) (hb:QE Γ X (.BoolOp .Or (b::rest) pos) pb):QE Γ X (.BoolOp .Or (a::b::rest) pos) (zOrV pa pb):=
 (Iu ha hb).imp fun σ H Q ⟨β,ρ,M,Q',zr,h,q⟩=>⟨β,ρ,M,_,zr,h,fun d M1 v H1 x1 r1 h1=>by
  obtain ⟨k,rfl,h2⟩:=f7 h1
  refine ⟨k,cR r1,?_⟩
  cases k with
  |false=>rw [if_neg ge] at h2 ⊢;exact ⟨β,ρ,M1,_,zr.step x1,h2,fun d2 M2 v2 H2 x2 r2 h2=>q _ _ _ _ (x1.trans x2) r2 h2⟩
  |true=>rw [if_pos rfl] at h2 ⊢;exact q _ _ _ _ x1 (.bl _) h2⟩
theorem Gs (ha:QE Γ X a pa):QE Γ X (.UnaryOp .Not a pos) (zNotV pa):=(EI ha).imp fun σ H Q ⟨β,ρ,M,Q',zr,h,q⟩=>⟨β,ρ,M,_,zr,h,fun d M1 v H1 x1 r1 h1=>by
  obtain ⟨k,rfl,h2⟩:=f7 h1
  exact ⟨k,cR r1,q _ _ _ _ x1 (.bl _) h2⟩⟩
def zNil:dX:=fun _ M Q=>Q [] M
def zCons (p:aH) (r:dX):dX:=fun ρ M Q=>p ρ M fun d M1=>r ρ M1 fun ds M2=>Q (d::ds) M2
variable {es:List dL} {za:dX}
theorem ah:QA Γ X [] zNil:=Fe.imp fun σ H Q ⟨β,ρ,M,Q',zr,h,q⟩=>q [] M [] H (.refl zr.mz) .nil h
theorem aa {e:dL} (ha:QE Γ X e pa) (hr:QA Γ X es za) (hs:starEach (e::es) X.env=(false,eval e X.env)::starEach es X.env :=by rfl):QA Γ X (e::es) (zCons pa za):=
 (lx ha hr hs).imp fun σ H Q ⟨β,ρ,M,Q',zr,h,q⟩=>⟨β,ρ,M,_,zr,h,fun d M1 v H1 x1 r1 h1=>⟨β,ρ,M1,_,zr.step x1,h1,fun ds M2 vs H2 x2 r2 h2=>q _ _ _ _ (x1.trans x2) (.cons (r1.ex x2) r2) h2⟩⟩
def zTup (p:dX):aH:=fun ρ M Q=>p ρ M fun ds M1=>ds.length<=sizeLine/\Q (.tup ds) M1
def zLst (p:dX):aH:=fun ρ M Q=>p ρ M fun ds M1=>ds.length<=sizeLine/\Q (.lst ds) M1
def zLstP (p:dX):aH:=fun ρ M Q=>p ρ M fun ds M1=>ds.length<=sizeLine/\∀a,M1 a=none->Q (.ptr a) (aq M1 a (.lst ds))
theorem Gu {x1} (h:QA Γ X es za):QE Γ X (.Tuple es x1 pos) (zTup za):=(Ff h).imp fun σ H Q ⟨β,ρ,M,Q',zr,h,q⟩=>⟨β,ρ,M,_,zr,h,fun ds M1 vs H1 x1 r1 h1=>⟨by rw [r1.len];exact h1.1,fun p hp=>by
  have x2:=Ex.lay x1.mz hp (.tup vs)
  exact q _ _ _ _ (x1.trans x2) (kR (x1.mz.fz hp) aA (r1.ex x2)) h1.2⟩⟩
theorem Gv (h:QA Γ X es za):QE Γ X (.List es pos) (zLst za):=(xo h).imp fun σ H Q ⟨β,ρ,M,Q',zr,h,q⟩=>⟨β,ρ,M,_,zr,h,fun ds M1 vs H1 x1 r1 h1=>⟨by rw [r1.len];exact h1.1,fun p hp=>by
  have x2:=Ex.lay x1.mz hp (.lst vs)
  exact q _ _ _ _ (x1.trans x2) (yg (x1.mz.fz hp) aA (r1.ex x2)) h1.2⟩⟩
theorem ig (h:QA Γ X es za):QE Γ X (.List es pos) (zLstP za):=(xo h).imp fun σ H Q ⟨β,ρ,M,Q',zr,h,q⟩=>⟨β,ρ,M,_,zr,h,fun ds M1 vs H1 x1 r1 h1=>⟨by rw [r1.len];exact h1.1,fun p hp=>by
  have x2:=Ex.own x1.mz (.inr hp) r1
  exact q _ _ _ _ (x1.trans x2) (.ptr (by rw [updM_same];rfl)) (h1.2 p (x1.mz.free hp))⟩⟩
abbrev pT:=List Dv->Mh->ZK->Prop
def B5 (Γ:Gz) (r:List V->Hp->VK->Prop) (z:pT):Prop:=∀(β:Bz) xs ds M H Q Q',β.P=Γ.P->β.w=Γ.w->β.K=Γ.K->Mz β M H->aE β M H xs ds->z ds M Q'->(∀d' M' v H',Ex β M H M' H'->Rz β M' H' v d'->Q' d' M'->Q v H')->r xs H Q
def fI (Γ:Gz) (X:Cx) (f:ap) (z:pT):Prop:=∃r,c7 X f r/\B5 Γ r z
def zCB (z:pT) (p:dX):aH:=fun ρ M Q=>p ρ M fun ds M1=>z ds M1 Q
theorem Gw {r:List V->Hp->VK->Prop} {z:pT} (hz:B5 Γ r z) {σ:St} {H:Hp} {Q:VK} (h:lE Γ (zCB z za) σ H Q):Fh r (lA Γ za) σ H Q :=by
 obtain ⟨β,ρ,M,Q',zr,h,q⟩:=h
 exact ⟨β,ρ,M,_,zr,h,fun ds M1 vs H1 x1 r1 h1=>hz β vs ds M1 H1 _ _ zr.eP zr.ew zr.eK x1.mz r1 h1 fun d' M' v' H' x2 r2 q2=>q _ _ _ _ (x1.trans x2) r2 q2⟩
variable {st:nw} {Kj:List nw} {p p2:bH} {e:dL} {pe:aH}
def zNext:bH:=fun D ρ M=>D.nx ρ M
def zSeq (p q:bH):bH:=fun D ρ M=>p {D with nx:=q D} ρ M
theorem qss_nil:jC Γ X [] zNext:=CP.imp fun D σ H ⟨β,ρ,M,D',zr,h,r⟩=>r.nx ρ M σ H (.refl zr.mz) zr h
theorem ak (h1:QS Γ X st p) (h2:jC Γ X Kj p2):jC Γ X (st::Kj) (zSeq p p2):=(zP h1 h2).imp fun D σ H ⟨β,ρ,M,D',zr,h,r⟩=>
 ⟨β,ρ,M,_,zr,h,fun bC M' aF H' x eE h'=>⟨β,bC,M',D',eE,h',r.step x⟩,r.rt,r.bk,r.ct⟩
theorem au (h1:QS Γ X st p):jC Γ X [st] p:=CQ h1
def zDrop (p:aH):bH:=fun D ρ M=>p ρ M fun _ M1=>D.nx ρ M1
theorem fu (he:QE Γ X e pe) (hs:swapsWith e none pos.line X.env=pure false :=by rfl):QS Γ X (.Expr e pos) (zDrop pe):=(CT he hs).imp fun D σ H ⟨β,ρ,M,D',zr,h,r⟩=>
 ⟨β,ρ,M,_,zr,h,fun d M1 v H1 x1 r1 h1=>r.nx ρ M1 σ H1 x1.ev (zr.step x1) h1⟩
def zRet (p:aH):bH:=fun D ρ M=>p ρ M D.rt
theorem bu (he:QE Γ X e pe):QS Γ X (.Return (some e) pos) (zRet pe):=(EJ he).imp fun D σ H ⟨β,ρ,M,D',zr,h,r⟩=>⟨β,ρ,M,_,zr,h,fun d M' v H' x r1 h1=>r.rt _ _ _ _ x.ev (zr.ent.trans x.toEy) r1 h1⟩
def zIfS (c:cm) (p q:bH):bH:=fun D ρ M=>c ρ M fun b M1=>if b=true then p D ρ M1 else q D ρ M1
theorem dz {as bs:List nw} {pa pb:bH} (hc:QT Γ X c tA) (ha:jC Γ X as pa) (hb:jC Γ X bs pb):QS Γ X (.If c as bs pos) (zIfS tA pa pb):=(Iy hc ha hb).imp fun D σ H ⟨β,ρ,M,D',zr,h,r⟩=>
 ⟨β,ρ,M,_,zr,h,fun k M1 H1 x1 h1=>by
  cases k with
  |true=>rw [if_pos rfl] at h1 ⊢;exact ⟨β,ρ,M1,D',zr.step x1,h1,r.step x1.ev⟩
  |false=>rw [if_neg ge] at h1 ⊢;exact ⟨β,ρ,M1,D',zr.step x1,h1,r.step x1.ev⟩⟩
def zgName (i:Nat):b9:=fun d ρ M N=>N (ρ.set i (some d)) M
theorem aP {i:Nat} {x:br} (hN:X.N.Nodup) (hi:X.N[i]?=some x) (hx:Loc X.env.scope x) (hf:X.fn x=true\/X.env.scope.names.lookup x=some .local :=by first|exact .inl rfl|exact .inr rfl|assumption):QG Γ X (.Name x pos) (zgName i):=
 (CU hN hi hx hf).imp fun v σ H N ⟨β,d,ρ,M,N',zr,r,h,q⟩=>q _ _ _ _ (.refl zr.mz) (zr.set i r) h
def zAsg (p:aH) (g:b9):bH:=fun D ρ M=>p ρ M fun d M1=>g d ρ M1 D.nx
theorem Jd {g:b9} {D:Ends} {σ:St} {H:Hp} (h:lS Γ (zAsg pe g) D σ H):ox (lE Γ pe) (lG Γ g) D σ H :=by
 obtain ⟨β,ρ,M,D',zr,h,r⟩:=h
 exact ⟨β,ρ,M,_,zr,h,fun d M1 v H1 x1 r1 h1=>⟨β,d,ρ,M1,D'.nx,zr.step x1,r1,h1,fun bC M' aF H' x eE h'=>r.nx _ _ _ _ (x1.trans x).ev eE h'⟩⟩
theorem jF {tg:dL} {g:b9} (he:QE Γ X e pe) (hg:QG Γ X tg g) (hs:swapsWithSole [tg] e pos.line X.env=pure false :=by rfl) (hw:swappedStores [tg] e X.env=pure none :=by rfl)
  (h1:(assignEach [tg] X.env).map (·.2)=[assign tg X.env] :=by rfl):QS Γ X (.Assign [tg] e pos) (zAsg pe g):=(ER he hg hs hw h1).imp fun D σ H h=>Jd h
theorem qM {t:TE} (i:∀σ H Q,lE Γ pe σ H Q->t σ H Q) {n:Nat} {D:Ends} {σ:St} {H:Hp} (h:lS Γ (zAsg pe (zgName n)) D σ H):ox t (nj n) D σ H :=by
 obtain ⟨β,ρ,M,D',zr,h,r⟩:=h
 exact i _ _ _ ⟨β,ρ,M,_,zr,h,fun d M1 v H1 x1 r1 h1=>r.nx _ _ _ _ x1.ev ((zr.step x1).set n r1) h1⟩
theorem aN {i:Nat} {x:br} {pos':sB} (hN:X.N.Nodup) (hi:X.N[i]?=some x) (hx:Loc X.env.scope x) (he:QE Γ X e pe) (hs:swapsWith e (some (.Name x pos')) pos.line X.env=pure false :=by rfl) (hf:X.fn x=true\/X.env.scope.names.lookup x=some .local :=by first|exact .inl rfl|exact .inr rfl|assumption) :
  QS Γ X (.Assign [.Name x pos'] e pos) (zAsg pe (zgName i)):=(EV hN hi hx he hs hf).imp fun D σ H h=>qM (fun _ _ _ h=>h) h
end
section
variable {X:Cx} {Γ:Gz} {β:Bz}
def ziTup (p:aH):fG:=fun ρ M R=>p ρ M fun d M1=>match d with | .tup ds=>R ds M1|_=>False
def ziLst (p:aH):fG:=fun ρ M R=>p ρ M fun d M1=>match d with | .lst ds=>R ds M1|_=>False
def bJ (lo:Int) (n:Nat):List Dv:=(io n).map fun i=>.int (lo+(i:Nat))
def ziRng1 (p:dX):fG:=fun ρ M R=>p ρ M fun ds M1=>match ds with | [.int j] => -(2 ^ 62)<=j/\j<2 ^ 62/\R (bJ 0 j.toNat) M1|_=>False
theorem iE {J:It} {vs:List V} {ds:List Dv} {M:Mh} {H:Hp} (r:aE β M H vs ds) (h:∀M' H',Ey M H M' H'->Runs J vs H'):B3 β J ds M H:=fun cD M' H' bx x m i=>by
 have q:=h M' H' x i
 rw [<- r.len]
 refine ⟨fun hi=>⟨(q.1 hi).1,fun v kT y=>?_⟩,q.2⟩
 obtain ⟨e,hv⟩:=(q.1 hi).2 v kT y
 subst e
 obtain ⟨d,hd,rd⟩:=r.get' hv
 exact ⟨.refl m,d,hd,(rd.bx bx).ey x⟩
variable {tg l:dL} {p:aH} {pa:dX} {K:bn}
theorem kW (hK:X.K=K) (hl:QE Γ X l p):QI Γ X tg l (ziTup p):=(C9 hK hl).imp fun σ H R ⟨β,ρ,M,R',zr,h,q⟩=>⟨β,ρ,M,_,zr,h,fun d M1 v H1 x1 r1 h1=>by
 revert h1
 split
 ·intro h1
  obtain ⟨a,vs,rfl,m,e,rs⟩:=dq r1
  exact ⟨a,rfl,⟨_,cP.of e⟩,q _ _ _ _ x1 (iE rs fun M' H' x=>Ai (cP.of (x.get m.1 e rfl))) h1⟩
 ·exact fun h=>h.elim⟩
theorem Ds (hK:X.K=K) (hl:QE Γ X l p):QI Γ X tg l (ziLst p):=(rK hK hl).imp fun σ H R ⟨β,ρ,M,R',zr,h,q⟩=>⟨β,ρ,M,_,zr,h,fun d M1 v H1 x1 r1 h1=>by
 revert h1
 split
 ·intro h1
  obtain ⟨a,vs,rfl,m,e,rs⟩:=gH r1
  exact ⟨a,rfl,⟨_,bA.of e⟩,q _ _ _ _ x1 (iE rs fun M' H' x=>pL (bA.of (x.get m.1 e rfl))) h1⟩
 ·exact fun h=>h.elim⟩
theorem yl {lo:Int} {n:Nat} {M:Mh} {H:Hp}:aE β M H ((io n).map fun i=>V.int (lo+(i:Nat))) (bJ lo n):=⟨by simp [bJ],fun i v d a b=>by
 unfold bJ at b
 rw [ca] at a b
 cases e:(io n)[i]? with
 |none=>rw [e] at a;cases a
 |some c=>rw [e] at a b;cases a;cases b;exact .int _⟩
theorem ee {xs:List V} {d:Dv} {M:Mh} {H:Hp} (r:aE β M H xs [d]):∃v,xs=[v]/\Rz β M H v d :=by
 match xs,r with
 | [v],r=>exact ⟨v,rfl,r.head⟩
 | [],r=>exact absurd r.len (by simp)
 |_::_::_,r=>exact absurd r.len (by simp)
theorem oH {xs:List V} {d e:Dv} {M:Mh} {H:Hp} (r:aE β M H xs [d,e]):∃v u,xs=[v,u]/\Rz β M H v d/\Rz β M H u e :=by
 match xs,r with
 | [v,u],r=>exact ⟨v,u,rfl,r.head,r.tail.head⟩
 | [],r=>exact absurd r.len (by simp)
 | [_],r=>exact absurd r.len (by simp)
 |_::_::_::_,r=>exact absurd r.len (by simp)
section
variable {e e1 e2:dL} {pr pos:sB}
theorem Gx {σ:St} {H:Hp} {R:It->Hp->Prop} (h:lI Γ (ziRng1 pa) σ H R):BD (lA Γ pa) σ H R :=by
 obtain ⟨β,ρ,M,R',zr,h,q⟩:=h
 refine ⟨β,ρ,M,_,zr,h,fun ds M1 vs H1 x1 r1 h1=>?_⟩
 revert h1
 split
 ·rintro ⟨b1,b2,h1⟩
  obtain ⟨v,rfl,r⟩:=ee r1
  rw [aJ r]
  exact ⟨_,rfl,b1,b2,q _ _ _ _ x1 (iE yl fun M' H' x=>vB) h1⟩
 ·exact fun h=>h.elim
end
def zLoop (g:b9) (tb:bH) (D:dy):List Dv->av->Mh->Prop
 | [],ρ,M=>D.nx ρ M
 |d::ds,ρ,M=>g d ρ M fun cW M2=>tb {D with nx:=zLoop g tb D ds,ct:=zLoop g tb D ds,bk:=D.nx} cW M2
def zFor (zi:fG) (g:b9) (tb:bH):bH:=fun D ρ M=>zi ρ M fun ds M1=>zLoop g tb D ds ρ M1
def zForM (zi:fG) (g:b9) (tb:Mh->bH):bH:=fun D ρ M=>zi ρ M fun ds M1=>zLoop g (tb M1) D ds ρ M1
theorem Zr.root {M:Mh} {ρ:av} {σ:St} {H:Hp} (z:Zr Γ β M ρ σ H):Zr ⟨β,M,H⟩ β M ρ σ H:=⟨rfl,rfl,rfl,rfl,fun _ h=>h,z.mz.wf,.refl,z.mz,z.len,z.at'⟩
theorem Zr.nY {M M1:Mh} {ρ Kk:av} {σ qY:St} {H H1:Hp} (z:Zr Γ β M ρ σ H) (y:Zr ⟨β,M,H⟩ β M1 Kk qY H1):Zr Γ β M1 Kk qY H1:=⟨z.eP,z.ew,z.eK,z.et,z.sub,z.wf,z.ent.trans y.ent,y.mz,y.len,y.at'⟩
theorem Je {zi:fG} {g:b9} {tb:Mh->bH} {t:TS} (hb:∀aK:Gz,aK.P=Γ.P->aK.w=Γ.w->aK.K=Γ.K->aK.tb=Γ.tb->∀D σ H,lS aK (tb aK.M0) D σ H->t D σ H) {tg:TG} (hg:∀aK:Gz,aK.P=Γ.P->aK.w=Γ.w->aK.K=Γ.K->aK.tb=Γ.tb->∀x σ H N,lG aK g x σ H N->tg x σ H N) {D:Ends} {σ:St} {H:Hp} (h:lS Γ (zForM zi g tb) D σ H):zT (lI Γ zi) tg t D σ H :=by
 obtain ⟨β,ρ,M,D',zr,h,r⟩:=h
 refine ⟨β,ρ,M,_,zr,h,fun ds M1 H1 J x1 it h1=>?_⟩
 have fY:=zr.step x1
 refine ⟨fun i m aF H'=>m=ds.length - i/\i<=ds.length/\∃bC M',Zr ⟨β,M1,H1⟩ β M' bC aF H'/\zLoop g (tb M1) D' (ds.drop i) bC M',⟨ds.length,rfl,sK _,ρ,M1,fY.root,h1⟩,?_⟩
 rintro i m aF H' ⟨rfl,hi,bC,M',eE,h'⟩
 have ev:∀{M2:Mh} {cW:av} {iY:St} {H2:Hp},Zr ⟨β,M1,H1⟩ β M2 cW iY H2->Ev β M H M2 H2:=fun z=>x1.ev.trans ⟨z.ent.keep,z.ent.new,z.mz⟩
 by_cases aY:i<ds.length
 ·have q:=(it β M' H' .refl eE.ent eE.mz i).1 aY
  refine .inr ⟨q.1,fun iY H2=>∃cW M2,Zr ⟨β,M1,H1⟩ β M2 cW iY H2/\zLoop g (tb M1) D' (ds.drop (i+1)) cW M2,fun iY H2 ⟨cW,M2,uK,h2⟩=>⟨ds.length - (i+1),by omega,rfl,aY,cW,M2,uK,h2⟩,fun v kT y=>?_⟩
  obtain ⟨x2,d,hd,rd⟩:=q.2 v kT y
  have e:ds.drop i=d::ds.drop (i+1) :=by
   rw [AL aY]
   rw [al aY] at hd
   cases hd
   rfl
  rw [e] at h'
  refine hg ⟨β,M1,H1⟩ zr.eP zr.ew zr.eK zr.et _ _ _ _ ⟨β,d,bC,M',_,eE.step x2,rd,h',fun Gy M3 js H3 x3 ym h3=>hb ⟨β,M1,H1⟩ zr.eP zr.ew zr.eK zr.et _ _ _ ⟨β,Gy,M3,_,ym,h3,?_⟩⟩
  exact ⟨fun i7 M4 pU H4 x4 fJ h4=>⟨i7,M4,fJ,h4⟩,fun d4 M4 v4 H4 x4 e4 r4 h4=>r.rt _ _ _ _ (x1.ev.trans ⟨e4.keep,e4.new,x4.mz⟩) (fY.ent.trans e4) r4 h4,fun i7 M4 pU H4 x4 fJ h4=>r.nx _ _ _ _ (ev fJ) (fY.nY fJ) h4,fun i7 M4 pU H4 x4 fJ h4=>⟨i7,M4,fJ,h4⟩⟩
 ·have e:i=ds.length :=by omega
  subst e
  rw [OE] at h'
  exact .inl ⟨(it β M' H' .refl eE.ent eE.mz _).2 (c8 _),r.nx _ _ _ _ (ev eE) (fY.nY eE) h'⟩
def Km (Γ:Gz) (p:Mh->bH):TS:=fun D σ H=>∃aK:Gz,aK.P=Γ.P/\aK.w=Γ.w/\aK.K=Γ.K/\aK.tb=Γ.tb/\lS aK (p aK.M0) D σ H
def Kn (Γ:Gz) (p:b9):TG:=fun x σ H N=>∃aK:Gz,aK.P=Γ.P/\aK.w=Γ.w/\aK.K=Γ.K/\aK.tb=Γ.tb/\lG aK p x σ H N
theorem Du {body:List nw} {iter:dL} {zi:fG} {g:b9} {tb:Mh->bH} {pos:sB} (hp:P9 (model X.prog X.w) X.A X.env X.xe) (hc:X.calm=true) (hi:QI Γ X tg iter zi)
  (se:∀(aK:Gz) (M1:Mh),aK.M0=M1->aK.P=Γ.P->aK.w=Γ.w->aK.K=Γ.K->aK.tb=Γ.tb->QG aK X tg g/\jC aK X body (tb M1))
  (hs:∀x,foldedSetIterable iter X.env x=pure x :=by intro _;rfl):QS Γ X (.For tg iter body [] pos) (zForM zi g tb):=
 (xc (g:=Kn Γ g) (tb:=Km Γ tb) hp hc hi (fun pins s σ H v u Q I r h=>by obtain ⟨aK,e1,e2,e3,e4,h⟩:=h;exact (se aK _ rfl e1 e2 e3 e4).1 pins s σ H v u Q I r h) ⟨fun pins s σ H D I h=>by obtain ⟨aK,e1,e2,e3,e4,h⟩:=h;exact (se aK _ rfl e1 e2 e3 e4).2 pins s σ H D I h⟩ hs).imp
  fun D σ H h=>Je (fun aK e1 e2 e3 e4 D σ H h=>⟨aK,e1,e2,e3,e4,h⟩) (fun aK e1 e2 e3 e4 x σ H N h=>⟨aK,e1,e2,e3,e4,h⟩) h
theorem cY {body:List nw} {iter:dL} {zi:fG} {g:b9} {tb:bH} {pos:sB} (hp:P9 (model X.prog X.w) X.A X.env X.xe) (hc:X.calm=true) (hi:QI Γ X tg iter zi)
  (se:∀aK:Gz,aK.P=Γ.P->aK.w=Γ.w->aK.K=Γ.K->aK.tb=Γ.tb->QG aK X tg g/\jC aK X body tb)
  (hs:∀x,foldedSetIterable iter X.env x=pure x :=by intro _;rfl):QS Γ X (.For tg iter body [] pos) (zFor zi g tb):=Du (tb:=fun _=>tb) hp hc hi (fun aK M1 _ e1 e2 e3 e4=>se aK e1 e2 e3 e4) hs
theorem aV {a:dL} {p pos:sB} (hg:Gl X "range") (hm:X.mg "range" = none) (ha:QA Γ X [a] pa) (hs:starEach [a] X.env=[(false,eval a X.env)] :=by rfl):QI Γ X tg (.Call (.Name "range" p) [a] [] pos) (ziRng1 pa):=(w9 hg hm ha hs).imp fun σ H R h=>Gx h
def yn (c:cm) (tb:bH):bH:=fun D ρ M=>∃W:Nat->av->Mh->Prop,(∃m,W m ρ M)/\∀m ρ M,W m ρ M->
 c ρ M fun b M1=>if b=true then tb {D with nx:=fun bC M'=>∃m',m'<m/\W m' bC M',ct:=fun bC M'=>∃m',m'<m/\W m' bC M',bk:=D.nx} ρ M1 else D.nx ρ M1
theorem Dw {c:cm} {tb:bH} {D:Ends} {σ:St} {H:Hp} (h:lS Γ (yn c tb) D σ H):w5 (lT Γ c) (lS Γ tb) D σ H :=by
 obtain ⟨β,ρ,M,D',zr,⟨W,⟨m0,w0⟩,turn⟩,r⟩:=h
 refine ⟨fun m aF H'=>∃bC M',Ev β M H M' H'/\Zr Γ β M' bC aF H'/\W m bC M',⟨m0,ρ,M,.refl zr.mz,zr,w0⟩,?_⟩
 rintro m aF H' ⟨bC,M',x',eE,w'⟩
 refine ⟨β,bC,M',_,eE,turn m bC M' w',fun k M1 H1 x1 h1=>?_⟩
 have yo:=x'.trans x1.ev
 cases k with
 |true=>
  dsimp only at h1 ⊢
  rw [if_pos rfl] at h1 ⊢
  refine ⟨fun iY H2=>∃m',m'<m/\∃cW M2,Ev β M H M2 H2/\Zr Γ β M2 cW iY H2/\W m' cW M2,fun iY H2 h2=>h2,β,bC,M1,_,eE.step x1,h1,?_⟩
  exact ⟨fun i7 M4 pU H4 x4 fJ ⟨m',hm,w4⟩=>⟨m',hm,i7,M4,yo.trans x4,fJ,w4⟩,fun d4 M4 v4 H4 x4 e4 r4 h4=>r.rt _ _ _ _ (yo.trans x4) e4 r4 h4,fun i7 M4 pU H4 x4 fJ h4=>r.nx _ _ _ _ (yo.trans x4) fJ h4,fun i7 M4 pU H4 x4 fJ ⟨m',hm,w4⟩=>⟨m',hm,i7,M4,yo.trans x4,fJ,w4⟩⟩
 |false=>
  dsimp only at h1 ⊢
  rw [if_neg ge] at h1 ⊢
  exact r.nx _ _ _ _ yo (eE.step x1) h1
theorem sf {body:List nw} {c:dL} {zc:cm} {tb:bH} {pos:sB} (hp:P9 (model X.prog X.w) X.A X.env X.xe) (hc:QT Γ X c zc) (hb:jC Γ X body tb):QS Γ X (.While c body [] pos) (yn zc tb):=(zR hp hc hb).imp fun D σ H h=>Dw h
theorem bK {g:b9} {tb:bH} {D:dy} (J:Nat->av->Mh->Prop) {ds:List Dv} {ρ:av} {M:Mh} (h0:J 0 ρ M)
  (hs:∀i d ρ M (N:av->Mh->Prop),ds[i]?=some d->J i ρ M->(∀bC M',J (i+1) bC M'->N bC M')->g d ρ M fun cW M2=>tb {D with nx:=N,ct:=N,bk:=D.nx} cW M2)
  (hd:∀ρ M,J ds.length ρ M->D.nx ρ M):zLoop g tb D ds ρ M :=by
 have key:∀(n i:Nat) ρ M,n=ds.length - i->i<=ds.length->J i ρ M->zLoop g tb D (ds.drop i) ρ M :=by
  intro n
  induction n with
  |zero=>
   intro i ρ M e hi h
   have:i=ds.length :=by omega
   subst this
   rw [OE]
   exact hd _ _ h
  |succ n ih=>
   intro i ρ M e hi h
   have aY:i<ds.length :=by omega
   rw [AL aY]
   exact hs i _ ρ M _ (al aY) h fun ρ M h=>ih (i+1) ρ M (by omega) aY h
 exact key _ 0 ρ M rfl (sK _) h0
end
section
variable {X:Cx} {Γ:Gz} {β:Bz}
def zBlock (tn:Nat) (idx:List Nat) (ρ:av):av:=on tn none++idx.map fun i=>(ρ[i]?).join
theorem Zr.block {M:Mh} {ρ:av} {σ:St} {H:Hp} (z:Zr Γ β M ρ σ H) (tn:Nat) (idx:List Nat):Zr Γ β M (zBlock tn idx ρ) (bb tn idx σ) H:=⟨z.eP,z.ew,z.eK,z.et,z.sub,z.wf,z.ent,z.mz,by simp [zBlock,bb],fun i d e=>by
 unfold zBlock at e
 unfold bb
 rw [PX] at e ⊢
 rw [ID] at e ⊢
 split at e
 ·rw [Fa] at e
  split at e <;> cases e
 ·rename_i hi
  rw [if_neg hi]
  rw [ca] at e ⊢
  cases q:idx[i - tn]? with
  |none=>rw [q] at e;cases e
  |some j=>
   rw [q] at e
   have e2:ρ[j]?=some (some d) :=by
    simp only [AE,ES] at e
    cases q2:ρ[j]? with
    |none=>rw [q2] at e;cases e
    |some o=>rw [q2] at e;simp only [Qx] at e;rw [e]
   obtain ⟨v,hv,r⟩:=z.at' j d e2
   exact ⟨v,by simp [hv],r⟩⟩
theorem Zr.enter {M:Mh} {ρ:av} {σ:St} {H:Hp} {D:ag} {o:HO} (z:Zr Γ β M ρ σ H) (hD:H D=none) (ho:kP o=true):Zr Γ (β.add D) M ρ σ (upd H D o):=
 ⟨z.eP,z.ew,z.eK,z.et,fun a h=>gc _ (z.sub a h),z.wf,z.ent.over (z.ent.gone hD (by
  cases e:Γ.M0 D with
  |none=>rfl
  |some u=>have:=z.ent.dom D (by rw [e];rfl);rw [z.mz.free hD] at this;cases this)),z.mz.enter hD ho,z.len,fun i d e=>let ⟨v,h,r⟩:=z.at' i d e;⟨v,h,r.enter hD⟩⟩
theorem Zr.over {M:Mh} {ρ:av} {σ:St} {H:Hp} {D:ag} {o:HO} (z:Zr Γ β M ρ σ H) (hD:D∈β.hid) (ho:kP o=true) (hM:M D=none) (ht:D ∉ β.tb) (h0:Γ.H0 D=none):Zr Γ β M ρ σ (upd H D o):=
 ⟨z.eP,z.ew,z.eK,z.et,z.sub,z.wf,z.ent.over h0,z.mz.over hD ho hM ht,z.len,fun i d e=>let ⟨v,h,r⟩:=z.at' i d e;⟨v,h,r.over hD⟩⟩
abbrev pV (Γ:Gz) (X:Cx) (ifs:List dL) (t:cm):Prop:=gW X ifs (lT Γ t)
def zNoIf:cm:=fun _ M Q=>Q true M
theorem eh:pV Γ X [] zNoIf:=C7.imp fun σ H Q ⟨β,ρ,M,Q',zr,h,q⟩=>q true M H (.refl zr.mz) h
theorem oI {c:dL} {tc:cm} (h:QT Γ X c tc):pV Γ X [c] tc:=C8 h
def e7 (g:b9) (tt:cm) (te:aH):List Dv->av->Mh->(List Dv->Mh->Prop)->Prop
 | [],_,M,Q=>Q [] M
 |d::ds,τ,M,Q=>g d τ M fun aC M2=>tt aC M2 fun b M3=>if b=true then te aC M3 fun y M4=>e7 g tt te ds aC M4 fun ys M5=>Q (y::ys) M5 else e7 g tt te ds aC M3 Q
structure Acc (Γ:Gz) (β:Bz) (D:ag) (M1:Mh) (H1:Hp) (bX:av) (M:Mh) (τ:St) (H:Hp) (acc:List V) (bM:List Dv):Prop where
 ey:Ey M1 H1 M H
 m:M D=none
 zr:Zr Γ (β.add D) M bX τ H
 at':H D=some (.lst acc)
 rs:aE (β.add D) M H acc bM
 h1:H1 D=none
 h0:Γ.H0 D=none
 nt:D ∉ β.tb
theorem Acc.start {D:ag} {M1:Mh} {H1:Hp} {bX:av} {τ:St} (zr:Zr Γ β M1 bX τ H1) (hD:H1 D=none):Acc Γ β D M1 H1 bX M1 τ (upd H1 D (.lst [])) [] []:=
 ⟨Ey.refl.over hD,zr.mz.free hD,zr.enter hD rfl,aA,.nil,hD,zr.ent.gone hD (by
  cases e:Γ.M0 D with
  |none=>rfl
  |some u=>have:=zr.ent.dom D (by rw [e];rfl);rw [zr.mz.free hD] at this;cases this),zr.mz.Ax hD⟩
section
variable {D:ag} {M1 M M2:Mh} {H1 H H2:Hp} {bX GA:av} {τ aC:St} {acc:List V} {bM:List Dv}
theorem Acc.step (A:Acc Γ β D M1 H1 bX M τ H acc bM) (x:Ex (β.add D) M H M2 H2) (z:Zr Γ (β.add D) M2 GA aC H2):Acc Γ β D M1 H1 GA M2 aC H2 acc bM:=
 ⟨A.ey.trans x.toEy,x.new D _ A.m A.at',z,x.get A.m A.at' rfl,A.rs.ex x,A.h1,A.h0,A.nt⟩
theorem Acc.snoc (A:Acc Γ β D M1 H1 bX M τ H acc bM) {y:V} {d:Dv} (r:Rz (β.add D) M H y d):Acc Γ β D M1 H1 bX M τ (upd H D (.lst (acc++[y]))) (acc++[y]) (bM++[d]) :=by
 have hD:D∈(β.add D).hid:=i8
 exact ⟨A.ey.over A.h1,A.m,A.zr.over hD rfl A.m A.nt A.h0,aA,⟨by simp [A.rs.len],fun i v d a b=>((A.rs.snoc r).at' i v d a b).over hD⟩,A.h1,A.h0,A.nt⟩
theorem Acc.fz (A:Acc Γ β D M1 H1 bX M τ H acc bM) (m1:Mz β M1 H1):Fz β M D:=⟨A.m,(m1.fz A.h1).2⟩
theorem Acc.mz (A:Acc Γ β D M1 H1 bX M τ H acc bM):Mz β M H:=Mz.sub (β:=β.add D) (cD:=β) rfl rfl rfl rfl (fun a h=>gc _ h) A.zr.mz
theorem Acc.items (A:Acc Γ β D M1 H1 bX M τ H acc bM):aE β M H acc bM:=⟨A.rs.len,fun i v d a b=>Rz.sub (β:=β.add D) (cD:=β) rfl rfl rfl (fun a h=>gc _ h) (A.rs.at' i v d a b)⟩
theorem Acc.ex (A:Acc Γ β D M1 H1 bX M τ H acc bM):Ex β M1 H1 M H:=⟨A.ey,A.mz⟩
end
def zComp (tn:Nat) (idx:List Nat) (zi:fG) (g:b9) (tt:cm) (te:aH):aH:=fun ρ M Q=>zi ρ M fun ds M1=>ds.length<sizeLine/\e7 g tt te ds (zBlock tn idx ρ) M1 fun ys M2=>Q (.lst ys) M2
def zCompP (tn:Nat) (idx:List Nat) (zi:fG) (g:b9) (tt:cm) (te:aH):aH:=fun ρ M Q=>zi ρ M fun ds M1=>ds.length<sizeLine/\e7 g tt te ds (zBlock tn idx ρ) M1 fun ys M2=>∀a,M2 a=none->Q (.ptr a) (aq M2 a (.lst ys))
variable {zi:fG} {g:b9} {tt:cm} {te:aH} {tn:Nat} {idx:List Nat}
def kX (Γ:Gz) (β:Bz) (D:ag) (M1:Mh) (H1:Hp) (g:b9) (tt:cm) (te:aH) (ds:List Dv) (Q':List Dv->Mh->Prop) (i m:Nat) (τ:St) (H:Hp):Prop:=
 m=ds.length - i/\i<=ds.length/\∃bX M acc bM,Acc Γ β D M1 H1 bX M τ H acc bM/\acc.length<=i/\e7 g tt te (ds.drop i) bX M fun ys M2=>Q' (bM++ys) M2
theorem pW {D:ag} {M1:Mh} {H1:Hp} {ds:List Dv} {Q':List Dv->Mh->Prop} {J:It} (it:B3 β J ds M1 H1) (hlen:ds.length<sizeLine) {i m:Nat} {τ:St} {H:Hp} (w:kX Γ β D M1 H1 g tt te ds Q' i m τ H)
  {C:V->St->Hp->Prop} (hC:∀y aC H4 acc,H4 D=some (.lst acc)->acc.length<sizeLine->(∃m',m'<m/\kX Γ β D M1 H1 g tt te ds Q' (i+1) m' aC (upd H4 D (.lst (acc++[y]))))->C y aC H4) :
  (J.stop i H/\∃bX M acc bM,Acc Γ β D M1 H1 bX M τ H acc bM/\acc.length<sizeLine/\Q' bM M) \/
  (J.go i H/\∀x H',J.yld i H x H'->lG Γ g x τ H' fun aC H2=>lT Γ tt aC H2 fun b H3=>if b=true then lE Γ te aC H3 fun y H4=>C y aC H4 else ∃m',m'<m/\kX Γ β D M1 H1 g tt te ds Q' (i+1) m' aC H3) :=by
 obtain ⟨rfl,hi,bX,M,acc,bM,A,F4,h⟩:=w
 have q:=it (β.add D) M H (.add A.h1) A.ey A.zr.mz i
 by_cases aY:i<ds.length
 ·refine .inr ⟨(q.1 aY).1,fun x H' y=>?_⟩
  obtain ⟨x2,d,hd,rd⟩:=(q.1 aY).2 x H' y
  have e:ds.drop i=d::ds.drop (i+1) :=by
   rw [AL aY]
   rw [al aY] at hd
   cases hd
   rfl
  rw [e] at h
  have A2:=A.step x2 (A.zr.step x2)
  refine ⟨β.add D,d,bX,M,_,A2.zr,rd,h,fun jS M3 mw H3 x3 z3 h3=>?_⟩
  have A3:=A2.step x3 z3
  refine ⟨β.add D,jS,M3,_,z3,h3,fun b M4 H4 x4 h4=>?_⟩
  have A4:=A3.step x4 (z3.step x4)
  cases b with
  |false=>
   dsimp only at h4 ⊢
   rw [if_neg ge] at h4 ⊢
   exact ⟨ds.length - (i+1),by omega,rfl,aY,jS,M4,acc,bM,A4,by omega,h4⟩
  |true=>
   dsimp only at h4 ⊢
   rw [if_pos rfl] at h4 ⊢
   refine ⟨β.add D,jS,M4,_,A4.zr,h4,fun yd M5 yv H5 x5 r5 h5=>?_⟩
   have A5:=A4.step x5 (A4.zr.step x5)
   refine hC yv mw H5 acc A5.at' (by omega) ⟨ds.length - (i+1),by omega,rfl,aY,jS,M5,acc++[yv],bM++[yd],A5.snoc r5,by simp;omega,?_⟩
   have e2:(fun ys M2=>Q' (bM++[yd]++ys) M2)=fun ys M2=>Q' (bM++yd::ys) M2 :=by
    funext ys M2
    rw [EQ]
    rfl
   rw [e2]
   exact h5
 ·have e:i=ds.length :=by omega
  subst e
  rw [OE] at h
  refine .inl ⟨q.2 (c8 _),bX,M,acc,bM,A,by omega,?_⟩
  have h':Q' (bM++[]) M:=h
  rwa [BY] at h'
theorem nZ {D:ag} {M1:Mh} {H1:Hp} {ds:List Dv} {Q':List Dv->Mh->Prop} {bX:av} {τ:St} (zr:Zr Γ β M1 bX τ H1) (hD:H1 D=none) (h:e7 g tt te ds bX M1 Q'):kX Γ β D M1 H1 g tt te ds Q' 0 ds.length τ (upd H1 D (.lst [])):=
 ⟨rfl,sK _,bX,M1,[],[],.start zr hD,c8 _,h⟩
theorem yp {σ:St} {H:Hp} {Q:VK} (h:lE Γ (zComp tn idx zi g tt te) σ H Q):nG tn idx (lI Γ zi) (lG Γ g) (lT Γ tt) (lE Γ te) σ H Q :=by
 obtain ⟨β,ρ,M,Q',zr,h,q⟩:=h
 refine ⟨β,ρ,M,_,zr,h,fun ds M1 H1 J x1 it ⟨hlen,h1⟩ D hD=>?_⟩
 have fY:=zr.step x1
 refine ⟨kX Γ β D M1 H1 g tt te ds fun ys M2=>Q' (.lst ys) M2,⟨_,nZ (fY.block tn idx) hD h1⟩,fun i m τ H' w=>?_⟩
 rcases pW it hlen w (C:=fun y aC H4=>∃ys m',H4 D=some (.lst ys)/\ys.length<sizeLine/\m'<m/\kX Γ β D M1 H1 g tt te ds (fun ys M2=>Q' (.lst ys) M2) (i+1) m' aC (upd H4 D (.lst (ys++[y])))) (fun y aC H4 acc e hl ⟨m',hm,w'⟩=>⟨acc,m',e,hl,hm,w'⟩) with ⟨hs,bX,M',acc,bM,A,_,hq⟩|z
 ·exact .inl ⟨hs,q _ _ _ _ (x1.trans A.ex) (yg (A.fz fY.mz) A.at' A.items) hq⟩
 ·exact .inr z
theorem oJ {σ:St} {H:Hp} {Q:VK} (h:lE Γ (zCompP tn idx zi g tt te) σ H Q):nG tn idx (lI Γ zi) (lG Γ g) (lT Γ tt) (lE Γ te) σ H Q :=by
 obtain ⟨β,ρ,M,Q',zr,h,q⟩:=h
 refine ⟨β,ρ,M,_,zr,h,fun ds M1 H1 J x1 it ⟨hlen,h1⟩ D hD=>?_⟩
 have fY:=zr.step x1
 refine ⟨kX Γ β D M1 H1 g tt te ds fun ys M2=>∀a,M2 a=none->Q' (.ptr a) (aq M2 a (.lst ys)),⟨_,nZ (fY.block tn idx) hD h1⟩,fun i m τ H' w=>?_⟩
 rcases pW it hlen w (C:=fun y aC H4=>∃ys m',H4 D=some (.lst ys)/\ys.length<sizeLine/\m'<m/\kX Γ β D M1 H1 g tt te ds (fun ys M2=>∀a,M2 a=none->Q' (.ptr a) (aq M2 a (.lst ys))) (i+1) m' aC (upd H4 D (.lst (ys++[y])))) (fun y aC H4 acc e hl ⟨m',hm,w'⟩=>⟨acc,m',e,hl,hm,w'⟩) with ⟨hs,bX,M',acc,bM,A,_,hq⟩|z
 ·refine .inl ⟨hs,?_⟩
  have MY:D ∉ β.hid:=(A.fz fY.mz).2
  have hM:M' D=none:=A.m
  have mz:Mz β (aq M' D (.lst bM)) H':=by
   have rz:∀{v:V} {d:Dv},Rz (β.add D) M' H' v d->Rz β (aq M' D (.lst bM)) H' v d:=fun r=>by
    have ne:∀a,Fz (β.add D) M' a->Fz β (aq M' D (.lst bM)) a:=fun a f=>⟨by rw [af (fun z=>f.2 (by rw [z];exact i8))];exact f.1,fun z=>f.2 (gc _ z)⟩
    induction r with
    |int i=>exact .int i
    |bl b=>exact .bl b
    |ao=>exact .ao
    |str z=>exact .str z
    |tup m e hl h ih=>exact .tup (ne _ m) e hl ih
    |lst m e hl h ih=>exact .lst (ne _ m) e hl ih
    |dk m e hk hl h ih=>exact .dk (ne _ m) e hk hl ih
    |dt m e hk hl h ih=>exact .dt (ne _ m) e hk hl ih
    |bB m e m2 e2 hl h ih=>exact .bB (ne _ m) e (ne _ m2) e2 hl ih
    |set m e=>exact .set (ne _ m) e
    |ptr m=>exact .ptr (by unfold aq;split;rfl;exact m)
    |exc m e=>exact .exc (ne _ m) e
    |bf m e=>exact .bf (ne _ m) e
    |b5 m e=>exact .b5 (ne _ m) e
    |b6 e=>exact .b6 e
    |raw v=>exact .raw v
   refine ⟨fun a o e=>?_,A.zr.mz.tabs,fun a ha=>A.zr.mz.hids a (gc _ ha),fun a o e z=>?_,A.zr.mz.lams⟩
   by_cases ha:a=D
   ·subst ha
    rw [updM_same] at e
    cases e
    exact ⟨acc,A.at',A.rs.len,fun i v d a b=>rz (A.rs.at' i v d a b)⟩
   ·rw [af ha] at e
    have z:=A.zr.mz.obj a o e
    cases o with
    |lst ds=>obtain ⟨vs,z,l,r⟩:=z;exact ⟨vs,z,l,fun i v d a b=>rz (r i v d a b)⟩
    |dk ks ds=>obtain ⟨vs,z,hk,l,r⟩:=z;exact ⟨vs,z,hk,l,fun i v d a b=>rz (r i v d a b)⟩
    |dt ks ds=>obtain ⟨vs,z,hk,l,r⟩:=z;exact ⟨vs,z,hk,l,fun i v d a b=>rz (r i v d a b)⟩
    |bZ=>exact z
   ·by_cases ha:a=D
    ·subst ha;exact MY z
    ·rw [af ha] at e
     exact A.zr.mz.apart a o e (gc _ z)
  have ey:Ey M1 H1 (aq M' D (.lst bM)) H':=⟨A.ey.keep,fun a h=>by unfold aq;split;rfl;exact A.ey.dom a h,fun a o m e=>by rw [af (aU e A.h1)];exact A.ey.new a o m e⟩
  exact q _ _ _ _ (x1.trans ⟨ey,mz⟩) (.ptr (by rw [updM_same];rfl)) (hq D hM)
 ·exact .inr z
theorem LN {P:ag} {zi:fG} {R:It->Hp->Prop} {σ:St} {H:Hp} {ρ:av} {M:Mh} {R':List Dv->Mh->Prop} (hP:P∈Γ.tb) (zr:Zr Γ β M ρ σ H) (h:zi ρ M R') (q:∀ds M' H' J,Ex β M H M' H'->B3 β J ds M' H'->R' ds M'->R J H'):FL P (lI Γ zi) R σ H :=by
 refine ⟨β,ρ,M,_,zr,h,fun ds M1 H1 J x1 it h1=>?_⟩
 have BL:P∈β.tb :=by rw [zr.et];exact hP
 refine ⟨x1.mz.tabs P BL,fun ps t=>?_⟩
 have x2:=Ex.grow x1.mz BL t
 refine q ds M1 _ J (x1.trans x2) (fun cD M' H' bx ey mz=>it cD M' H' ⟨bx.P,bx.w,bx.K,bx.tb,bx.old,fun a ha=>?_⟩ (x2.toEy.trans ey) mz) h1
 rcases bx.new a ha with z|z
 ·exact .inl z
 ·right
  cases e:H1 a with
  |none=>rfl
  |some o=>obtain ⟨u,hu⟩:=Aw (p:=P) (o:=.cz ps) ⟨o,e⟩;rw [z] at hu;cases hu
def i9 (g:b9) (tt:cm) (te:aH):List Dv->av->Mh->(Bool->Mh->Prop)->Prop
 | [],_,M,Q=>Q true M
 |d::ds,τ,M,Q=>g d τ M fun aC M2=>tt aC M2 fun b M3=>if b=true then te aC M3 (zBool fun c M4=>if c=false then Q false M4 else i9 g tt te ds aC M4 Q) else i9 g tt te ds aC M3 Q
def zAll (tn:Nat) (idx:List Nat) (zi:fG) (g:b9) (tt:cm) (te:aH):aH:=fun ρ M Q=>zi ρ M fun ds M1=>i9 g tt te ds (zBlock tn idx ρ) M1 fun b M2=>Q (.bl b) M2
theorem Jf {P:ag} (hP:P∈Γ.tb) {σ:St} {H:Hp} {Q:VK} (h:lE Γ (zAll tn idx zi g tt te) σ H Q):FN P tn idx (lI Γ zi) (lG Γ g) (lT Γ tt) (lE Γ te) σ H Q :=by
 obtain ⟨β,ρ,M,Q',zr,h,q⟩:=h
 refine LN hP zr h fun ds M1 H1 J x1 it h1=>?_
 have fY:=zr.step x1
 refine ⟨fun i m τ H'=>m=ds.length - i/\i<=ds.length/\∃bX M',Ex β M1 H1 M' H'/\Zr Γ β M' bX τ H'/\i9 g tt te (ds.drop i) bX M' fun b M2=>Q' (.bl b) M2,⟨_,rfl,sK _,_,M1,.refl x1.mz,fY.block tn idx,h1⟩,?_⟩
 rintro i m τ H' ⟨rfl,hi,bX,M',x',eE,h'⟩
 have qq:=it β M' H' .refl x'.toEy x'.mz i
 by_cases aY:i<ds.length
 ·refine .inr ⟨(qq.1 aY).1,fun x kT y=>?_⟩
  obtain ⟨x2,d,hd,rd⟩:=(qq.1 aY).2 x kT y
  have e:ds.drop i=d::ds.drop (i+1) :=by
   rw [AL aY]
   rw [al aY] at hd
   cases hd
   rfl
  rw [e] at h'
  refine ⟨β,d,bX,M',_,eE.step x2,rd,h',fun jS M3 mw H3 x3 z3 h3=>⟨β,jS,M3,_,z3,h3,fun b M4 H4 x4 h4=>?_⟩⟩
  have sg:=x'.trans (x2.trans (x3.trans x4))
  cases b with
  |false=>
   dsimp only at h4 ⊢
   rw [if_neg ge] at h4 ⊢
   exact ⟨ds.length - (i+1),by omega,rfl,aY,jS,M4,sg,z3.step x4,h4⟩
  |true=>
   dsimp only at h4 ⊢
   rw [if_pos rfl] at h4 ⊢
   refine ⟨β,jS,M4,_,z3.step x4,h4,fun yd M5 yv H5 x5 r5 h5=>?_⟩
   obtain ⟨k,rfl,h6⟩:=f7 h5
   refine ⟨k,cR r5,?_⟩
   cases k with
   |false=>
    rw [if_pos rfl] at h6 ⊢
    exact q _ _ _ _ (x1.trans (sg.trans x5)) (.bl _) h6
   |true=>
    rw [if_neg (by decide)] at h6 ⊢
    exact ⟨ds.length - (i+1),by omega,rfl,aY,jS,M5,sg.trans x5,(z3.step x4).step x5,h6⟩
 ·have e:i=ds.length :=by omega
  subst e
  rw [OE] at h'
  exact .inl ⟨qq.2 (c8 _),q _ _ _ _ (x1.trans x') (.bl _) h'⟩
end
section
variable {X:Cx} {Γ:Gz} {β:Bz} {K:bn}
def zII (f:Int->Int->Dv):dr:=fun d e M Q=>match d,e with | .int i,.int j=>Q (f i j) M|_,_=>False
def zIC (C:Int->Int->Prop) (f:Int->Int->Dv):dr:=fun d e M Q=>match d,e with | .int i,.int j=>C i j/\Q (f i j) M|_,_=>False
theorem kY {g:Int->Int->V} {f:Int->Int->Dv} (h:∀β M H i j,Rz β M H (g i j) (f i j)):mr Γ (pf g) (zII f):=fun β x y d e M H Q Q' _ _ _ m rx ry z q=>by
 unfold zII at z
 split at z
 ·exact ⟨_,_,aJ rx,aJ ry,q _ _ _ _ (.refl m) (h ..) z⟩
 ·exact z.elim
theorem n4 {C:Int->Int->Prop} {g:Int->Int->V} {f:Int->Int->Dv} (h:∀β M H i j,Rz β M H (g i j) (f i j)):mr Γ (rI C g) (zIC C f):=fun β x y d e M H Q Q' _ _ _ m rx ry z q=>by
 unfold zIC at z
 split at z
 ·exact ⟨_,_,aJ rx,aJ ry,z.1,q _ _ _ _ (.refl m) (h ..) z.2⟩
 ·exact z.elim
theorem g8:dF Γ X (binaryOp .Add) (zII fun i j=>.int (i+j)):=⟨_,E4,kY fun _ _ _ _ _=>.int _⟩
theorem qN:dF Γ X (binaryOp .Sub) (zII fun i j=>.int (i - j)):=⟨_,E5,kY fun _ _ _ _ _=>.int _⟩
theorem jT:dF Γ X (binaryOp .Mult) (zIC vj fun i j=>.int (i * j)):=⟨_,E6,n4 fun _ _ _ _ _=>.int _⟩
theorem sh:dF Γ X (binaryOp .FloorDiv) (zIC E2 fun i j=>.int (i / j)):=⟨_,CW,n4 fun _ _ _ _ _=>.int _⟩
theorem ja:dF Γ X (binaryOp .Mod) (zIC (fun _ j=>0<j) fun i j=>.int (i % j)):=⟨_,E7,n4 fun _ _ _ _ _=>.int _⟩
theorem Jg:dF Γ X (binaryOp .Pow) (zIC E3 fun i j=>.int (i ^ j.toNat)):=⟨_,E8,n4 fun _ _ _ _ _=>.int _⟩
theorem vQ:dF Γ X (compareOp .Lt) (zII fun i j=>.bl (decide (i<j))):=⟨_,IE,kY fun _ _ _ _ _=>.bl _⟩
theorem vR:dF Γ X (compareOp .LtE) (zII fun i j=>.bl (decide (i<=j))):=⟨_,IG,kY fun _ _ _ _ _=>.bl _⟩
theorem GB:dF Γ X (compareOp .Gt) (zII fun i j=>.bl (decide (j<i))):=⟨_,IH,kY fun _ _ _ _ _=>.bl _⟩
def scalZ (d e:Dv):Option Bool:=match d with
 | .int i=>(match e with | .int j=>some (decide (i=j)) | .ao=>some false | .str _=>some false|_=>none)
 | .bl i=>(match e with | .bl j=>some (decide (i=j)) | .ao=>some false | .str _=>some false|_=>none)
 | .str i=>(match e with | .str j=>some (decide (i=j)) | .ao=>some false | .int _=>some false | .bl _=>some false|_=>none)
 | .ao=>(match e with | .ao=>some true | .int _=>some false | .bl _=>some false | .str _=>some false|_=>none)
 |_=>none
def zEq:dr:=fun d e M Q=>match scalZ d e with|some b=>Q (.bl b) M|none=>False
def zNe:dr:=fun d e M Q=>match scalZ d e with|some b=>Q (.bl (!b)) M|none=>False
theorem si {M:Mh} {H:Hp} {x y:V} {d e:Dv} {b:Bool} (rx:Rz β M H x d) (ry:Rz β M H y e) (h:scalZ d e=some b):zW x y=true/\decide (x=y)=b :=by
 unfold scalZ at h
 split at h
 ·rw [aJ rx]
  split at h <;> cases h
  ·rw [aJ ry];exact ⟨rfl,by simp⟩
  ·rw [gI ry];exact ⟨rfl,by simp⟩
  ·rw [cL ry];exact ⟨rfl,by simp⟩
 ·rw [cR rx]
  split at h <;> cases h
  ·rw [cR ry];exact ⟨rfl,by simp⟩
  ·rw [gI ry];exact ⟨rfl,by simp⟩
  ·rw [cL ry];exact ⟨rfl,by simp⟩
 ·rw [cL rx]
  split at h <;> cases h
  ·rw [cL ry];exact ⟨rfl,by simp⟩
  ·rw [gI ry];exact ⟨rfl,by simp⟩
  ·rw [aJ ry];exact ⟨rfl,by simp⟩
  ·rw [cR ry];exact ⟨rfl,by simp⟩
 ·rw [gI rx]
  split at h <;> cases h
  ·rw [gI ry];exact ⟨rfl,by simp⟩
  ·rw [aJ ry];exact ⟨rfl,by simp⟩
  ·rw [cR ry];exact ⟨rfl,by simp⟩
  ·rw [cL ry];exact ⟨rfl,by simp⟩
 ·cases h
theorem kZ:dF Γ X (compareOp .Eq) zEq:=⟨_,IB,fun β x y d e M H Q Q' _ _ _ m rx ry z q=>by
 unfold zEq at z
 split at z
 ·rename_i b hb
  obtain ⟨h1,h2⟩:=si rx ry hb
  exact ⟨h1,by rw [h2];exact q _ _ _ _ (.refl m) (.bl _) z⟩
 ·exact z.elim⟩
theorem GC:dF Γ X (compareOp .NotEq) zNe:=⟨_,IC,fun β x y d e M H Q Q' _ _ _ m rx ry z q=>by
 unfold zNe at z
 split at z
 ·rename_i b hb
  obtain ⟨h1,h2⟩:=si rx ry hb
  exact ⟨h1,by rw [h2];exact q _ _ _ _ (.refl m) (.bl _) z⟩
 ·exact z.elim⟩
def isNonD:Dv->Option Bool
 | .ao=>some true
 | .raw _=>none
 |_=>some false
def zIsN (neg:Bool):dr:=fun d e M Q=>match e,isNonD d with | .ao,some b=>Q (.bl (if neg then !b else b)) M|_,_=>False
def zSS (C:br->br->Prop) (f:br->br->Dv):dr:=fun d e M Q=>match d,e with | .str i,.str j=>C i j/\Q (f i j) M|_,_=>False
theorem yq:dF Γ X (binaryOp .Add) (zSS (fun i j=>i.length+j.length<=sizeLine) fun i j=>.str (i++j)):=⟨_,vn,fun β x y d e M H Q Q' _ _ _ m rx ry z q=>by
 unfold zSS at z
 split at z
 ·exact ⟨_,_,cL rx,cL ry,z.1,q _ _ _ _ (.refl m) (.str _) z.2⟩
 ·exact z.elim⟩
mutual
def bD:Dv->Option Dt
 | .int i=>some (.int i)
 | .bl b=>some (.bl b)
 | .ao=>some .ao
 | .str z=>some (.str z)
 | .tup ds=>(gu ds).map .tup
 | .lst ds=>(gu ds).map .lst
 |_=>none
def gu:List Dv->Option (List Dt)
 | []=>some []
 |d::ds=>match bD d,gu ds with|some a,some as=>some (a::as)|_,_=>none
end
theorem jU:∀{ds:List Dv} {ts:List Dt},gu ds=some ts->ds.length=ts.length/\∀(i:Nat) (d:Dv) (t:Dt),ds[i]?=some d->ts[i]?=some t->bD d=some t
 | [],ts,h=>by simp only [gu,ES] at h;subst h;exact ⟨rfl,fun i d t a=>by simp at a⟩
 |d::ds,ts,h=>by
          simp only [gu] at h
          split at h
          ·rename_i a as h1 h2
           cases h
           obtain ⟨hl,q⟩:=jU h2
           refine ⟨by simp [hl],fun i e t x y=>?_⟩
           cases i with
           |zero=>simp at x y;subst x y;exact h1
           |succ i=>rw [BB] at x y;exact q i e t x y
          ·cases h
theorem yr {M:Mh} {H:Hp} {v:V} {d:Dv} (h:Rz β M H v d):∀{t:Dt},bD d=some t->dE H v t :=by
 induction h with
 |int i=>intro t e;simp only [bD,ES] at e;subst e;exact .int i
 |bl b=>intro t e;simp only [bD,ES] at e;subst e;exact .bl b
 |ao=>intro t e;simp only [bD,ES] at e;subst e;exact .ao
 |str z=>intro t e;simp only [bD,ES] at e;subst e;exact .str z
 |tup m e hl h ih=>
  intro t q
  simp only [bD,kt] at q
  obtain ⟨ts,q,rfl⟩:=q
  obtain ⟨l2,at2⟩:=jU q
  refine .tup e (hl.trans l2) fun i x d hx hd=>?_
  have hi:=(bv.mp hd).1
  have:=al (l:=_) (i:=i) (show i<_ from l2▸hi)
  exact ih i x _ hx this (at2 i _ _ this hd)
 |lst m e hl h ih=>
  intro t q
  simp only [bD,kt] at q
  obtain ⟨ts,q,rfl⟩:=q
  obtain ⟨l2,at2⟩:=jU q
  refine .lst e (hl.trans l2) fun i x d hx hd=>?_
  have hi:=(bv.mp hd).1
  have:=al (l:=_) (i:=i) (show i<_ from l2▸hi)
  exact ih i x _ hx this (at2 i _ _ this hd)
 |set m e=>intro t q;simp [bD] at q
 |ptr m=>intro t q;simp [bD] at q
 |exc m e=>intro t q;simp [bD] at q
 |bf m e=>intro t q;simp [bD] at q
 |b5 m e=>intro t q;simp [bD] at q
 |b6 e=>intro t q;simp [bD] at q
 |dk m e hk hl h ih=>intro t q;simp [bD] at q
 |dt m e hk hl h ih=>intro t q;simp [bD] at q
 |bB m e m2 e2 hl h ih=>intro t q;simp [bD] at q
 |raw v=>intro t q;simp [bD] at q
def now (M:Mh):Dv->Dv
 | .ptr a=>match M a with|some (.lst ds)=>.lst ds|_=>.ptr a
 |d=>d
theorem uL {M:Mh} {H:Hp} {v:V} {d:Dv} (m:Mz β M H) (h:Rz β M H v d) {t:Dt} (e:bD (now M d)=some t):dE H v t :=by
 cases d with
 |ptr a=>
  simp only [now] at e
  obtain ⟨rfl,hs⟩:=a9 h
  cases q:M a with
  |none=>rw [q] at hs;cases hs
  |some o=>
   rw [q] at e
   cases o with
   |bZ=>simp [bD] at e
   |dk ks es=>simp [bD] at e
   |dt ks es=>simp [bD] at e
   |lst ds=>
    obtain ⟨vs,hv,rs⟩:=m.obj a _ q
    simp only [bD,kt] at e
    obtain ⟨ts,q,rfl⟩:=e
    obtain ⟨l2,at2⟩:=jU q
    refine .lst hv (rs.len.trans l2) fun i x d hx hd=>?_
    have hi:=(bv.mp hd).1
    have:=al (l:=_) (i:=i) (show i<_ from l2▸hi)
    exact yr (rs.at' i x _ hx this) (at2 i _ _ this hd)
 |_=>exact yr h e
def k4 (neg:Bool):dr:=fun d e M Q=>match bD (now M d),bD (now M e) with|some a,some b=>fF a<=60/\Q (.bl (if neg then !c6 a b else c6 a b)) M|_,_=>False
theorem uM {neg:Bool}:mr Γ (An neg) (k4 neg):=fun β x y d e M H Q Q' _ _ _ m rx ry z q=>by
 unfold k4 at z
 split at z
 ·rename_i a b h1 h2
  exact ⟨a,b,uL m rx h1,uL m ry h2,z.1,q _ _ _ _ (.refl m) (.bl _) z.2⟩
 ·exact z.elim
theorem Jh (hu:X.A.units+64<cLine):dF Γ X (compareOp .Eq) (k4 false):=⟨_,Ga hu,uM⟩
theorem Ji (hu:X.A.units+64<cLine):dF Γ X (compareOp .NotEq) (k4 true):=⟨_,Gb hu,uM⟩
def itemsM (M:Mh):Dv->Option (List Dv)
 | .tup ds=>some ds
 | .lst ds=>some ds
 | .ptr a=>match M a with|some (.lst ds)=>some ds|_=>none
 |_=>none
theorem iF {M:Mh} {H:Hp} {x:V} {d:Dv} {ds:List Dv} (m:Mz β M H) (r:Rz β M H x d) (h:itemsM M d=some ds):∃a vs,x=.ref a/\(H a=some (.lst vs)\/H a=some (.tup vs))/\aE β M H vs ds :=by
 cases d with
 |tup es=>cases h;obtain ⟨a,vs,e,_,h,rs⟩:=dq r;exact ⟨a,vs,e,.inr h,rs⟩
 |lst es=>cases h;obtain ⟨a,vs,e,_,h,rs⟩:=gH r;exact ⟨a,vs,e,.inl h,rs⟩
 |ptr a=>
  obtain ⟨rfl,hs⟩:=a9 r
  simp only [itemsM] at h
  split at h
  ·rename_i es q
   cases h
   obtain ⟨vs,hv,rs⟩:=m.obj a _ q
   exact ⟨a,vs,rfl,.inl hv,rs⟩
  ·cases h
 |_=>cases h
theorem Dx {M:Mh} {H:Hp} {vs:List V} {ds:List Dv} (rs:aE β M H vs ds) {i:Int} {d:Dv} (h:bW ds i=some d):∃v,bW vs i=some v/\Rz β M H v d :=by
 unfold bW at h ⊢
 rw [rs.len]
 cases e:fo ds.length i with
 |none=>rw [e] at h;cases h
 |some j=>
  rw [e] at h
  obtain ⟨v,hv,r⟩:=rs.get (i:=j) (d:=d) h
  exact ⟨v,hv,r⟩
def GD (Γ:Gz) (X:Cx) (z:dr):Prop:=∃r,kr X r/\mr Γ r z
def zIx:dr:=fun d e M Q=>match e with
 | .int i=>(match d with
  | .str z=>z.length<=sizeLine/\(match bW z.cps.toList i with|some c=>Q (.str ⟨#[c]⟩) M|none=>False)
  |_=>match itemsM M d with|some ds=>(match bW ds i with|some r=>Q r M|none=>False)|none=>False)
 |_=>False
theorem bE (hK:X.K=K):GD Γ X zIx:=⟨_,uA hK,fun β x y d e M H Q Q' _ _ _ m rx ry z q=>by
 unfold zIx at z
 split at z
 ·rename_i i
  have hy:=aJ ry
  split at z
  ·rename_i s
   obtain ⟨hz,z⟩:=z
   split at z
   ·rename_i c hc
    exact .inr (.inr ⟨s,i,c,cL rx,hy,hz,hc,q _ _ _ _ (.refl m) (.str _) z⟩)
   ·exact z.elim
  ·split at z
   ·rename_i ds jG
    obtain ⟨a,vs,rfl,ha,rs⟩:=iF m rx jG
    split at z
    ·rename_i r hr
     obtain ⟨v,hv,rv⟩:=Dx rs hr
     have z':=q _ _ _ _ (.refl m) rv z
     rcases ha with ha|ha
     ·exact .inl ⟨a,vs,i,v,rfl,hy,bA.of ha,hv,z'⟩
     ·exact .inr (.inl ⟨a,vs,i,v,rfl,hy,cP.of ha,hv,z'⟩)
    ·exact z.elim
   ·exact z.elim
 ·exact z.elim⟩
theorem aS {a b:dL} {pa pb:aH} {z:dr} {pos:sB} (hr:GD Γ X z) (ha:QE Γ X a pa) (hb:QE Γ X b pb) (hs:uv b):QE Γ X (.Subscript a b pos) (zOp z pa pb) :=by
 obtain ⟨r,h1,h2⟩:=hr
 exact (IJ h1 ha hb hs).imp fun σ H Q h=>vP h2 h
end
section
variable {X:Cx} {Γ:Gz} {β:Bz} {K:bn}
section
variable {x:br} {p pos:sB} {e:dL} {es:List dL} {za:dX} {id T:String} {z:pT}
theorem aD (hc:fI Γ X (.builtin id) z) (hg:Gl X x) (hm:X.mg x=none) (hv:bootBuiltins x=some (.builtin id)) (ha:QA Γ X (e::es) za) (hn:x ≠ "__name__" := by decide) (dS:(x==("__debug__" : br))=false :=by decide)
  (he:starEach (e::es) X.env=(false,eval e X.env)::starEach es X.env :=by rfl) (cK:(backTo pos (starEach es X.env)).any (·.1)=false :=by rfl):QE Γ X (.Call (.Name x p) (e::es) [] pos) (zCB z za) :=by
 obtain ⟨r,h1,h2⟩:=hc
 exact (z9 h1 hg hm hv ha hn dS he cK).imp fun σ H Q h=>Gw h2 h
theorem jb (hc:fI Γ X (.type T) z) (hg:Gl X x) (hm:X.mg x=none) (hv:bootBuiltins x=some (.type T)) (ha:QA Γ X (e::es) za) (hn:x ≠ "__name__" := by decide) (dS:(x==("__debug__" : br))=false :=by decide)
  (he:starEach (e::es) X.env=(false,eval e X.env)::starEach es X.env :=by rfl) (cK:(backTo pos (starEach es X.env)).any (·.1)=false :=by rfl):QE Γ X (.Call (.Name x p) (e::es) [] pos) (zCB z za) :=by
 obtain ⟨r,h1,h2⟩:=hc
 exact (xt h1 hg hm hv ha hn dS he cK).imp fun σ H Q h=>Gw h2 h
end
def z1 (f:Dv->Mh->ZK->Prop):pT:=fun ds M Q=>match ds with | [d]=>f d M Q|_=>False
def zLenD (d:Dv) (M:Mh) (Q:ZK):Prop:=match d with
 | .str s=>s.length<=sizeLine/\Q (.int s.length) M
 | .bf ns=>Q (.int ns.length) M
 |_=>match itemsM M d with|some ds=>Q (.int ds.length) M|none=>False
theorem cq (hK:X.K=K) (hG:K=Γ.K):fI Γ X (.builtin "len") (z1 zLenD):=⟨_,xU hK,fun β xs ds M H Q Q' _ _ eK m rs z q=>by
 rw [<- hG] at eK
 unfold z1 at z
 split at z
 ·rename_i d
  obtain ⟨x,rfl,r⟩:=ee rs
  unfold zLenD at z
  split at z
  ·rename_i s
   have e:=cL r
   subst e
   exact ⟨_,_,rfl,⟨z.1,rfl⟩,q _ _ _ _ (.refl m) (.int _) z.2⟩
  ·rename_i ns
   obtain ⟨a,rfl,h⟩:=pS r
   rw [eK] at h
   exact ⟨_,ns.length,rfl,.inl ⟨_,h,by simp⟩,q _ _ _ _ (.refl m) (.int _) z⟩
  ·split at z
   ·rename_i ds jG
    obtain ⟨a,vs,rfl,ha,fK⟩:=iF m r jG
    have q':=q _ _ (.int ds.length) _ (.refl m) (.int _) z
    rcases ha with ha|ha
    ·exact ⟨_,ds.length,rfl,.inl ⟨vs,bA.of ha,fK.len.symm⟩,q'⟩
    ·exact ⟨_,ds.length,rfl,.inr ⟨vs,cP.of ha,fK.len.symm⟩,q'⟩
   ·exact z.elim
 ·exact z.elim⟩
def z2I (f:Int->Int->Int):pT:=fun ds M Q=>match ds with | [.int i,.int j]=>Q (.int (f i j)) M|_=>False
theorem GF (hc:X.calm=true):fI Γ X (.builtin "max") (z2I fun i j=>if j > i then j else i):=⟨_,xk hc,fun β xs ds M H Q Q' _ _ _ m rs z q=>by
 unfold z2I at z
 split at z
 ·obtain ⟨x,y,rfl,r,r'⟩:=oH rs
  rw [aJ r,aJ r']
  exact ⟨_,_,rfl,q _ _ _ _ (.refl m) (.int _) z⟩
 ·exact z.elim⟩
theorem sj (hc:X.calm=true):fI Γ X (.builtin "min") (z2I fun i j=>if j<i then j else i):=⟨_,xl hc,fun β xs ds M H Q Q' _ _ _ m rs z q=>by
 unfold z2I at z
 split at z
 ·obtain ⟨x,y,rfl,r,r'⟩:=oH rs
  rw [aJ r,aJ r']
  exact ⟨_,_,rfl,q _ _ _ _ (.refl m) (.int _) z⟩
 ·exact z.elim⟩
def zAbs (d:Dv) (M:Mh) (Q:ZK):Prop:=match d with | .int i=>Q (.int (if i<0 then -i else i)) M|_=>False
theorem Jj:fI Γ X (.builtin "abs") (z1 zAbs):=⟨_,z6,fun β xs ds M H Q Q' _ _ _ m rs z q=>by
 unfold z1 at z
 split at z
 ·obtain ⟨x,rfl,r⟩:=ee rs
  unfold zAbs at z
  split at z
  ·rw [aJ r]
   exact ⟨_,rfl,q _ _ _ _ (.refl m) (.int _) z⟩
  ·exact z.elim
 ·exact z.elim⟩
def zTuple (d:Dv) (M:Mh) (Q:ZK):Prop:=match itemsM M d with|some ds=>Q (.tup ds) M|none=>False
theorem lF (hK:X.K=K):fI Γ X (.type "tuple") (z1 zTuple):=⟨_,oG hK,fun β xs ds M H Q Q' _ _ _ m rs z q=>by
 unfold z1 at z
 split at z
 ·rename_i d
  obtain ⟨x,rfl,r⟩:=ee rs
  unfold zTuple at z
  split at z
  ·rename_i ds jG
   obtain ⟨a,vs,rfl,ha,fK⟩:=iF m r jG
   refine ⟨a,vs,rfl,?_⟩
   rcases ha with ha|ha
   ·refine .inl ⟨bA.of ha,fun l hl=>?_⟩
    have x2:=Ex.lay m hl (.tup vs)
    exact q _ _ _ _ x2 (kR (m.fz hl) aA (fK.ex x2)) z
   ·refine .inr ⟨cP.of ha,?_⟩
    have f:Fz β M a :=by
     cases d with
     |tup es=>obtain ⟨b,us,e,f,_⟩:=dq r;cases e;exact f
     |lst es=>obtain ⟨b,us,e,f,_⟩:=gH r;cases e;exact f
     |ptr b=>
      obtain ⟨e,hs⟩:=a9 r
      cases e
      cases q2:M a with
      |none=>rw [q2] at hs;cases hs
      |some o=>have:=m.jA ha rfl;rw [q2] at this;cases this
     |_=>cases jG
    exact q _ _ _ _ (.refl m) (kR f ha fK) z
  ·exact z.elim
 ·exact z.elim⟩
def fL:List Dv->Option (List Int)
 | []=>some []
 | .int i::ds=>(fL ds).map (i::·)
 |_::_=>none
theorem mO:∀{ds:List Dv} {ns:List Int},fL ds=some ns->ds=ns.map Dv.int
 | [],ns,h=>by simp only [fL,ES] at h;subst h;rfl
 |d::ds,ns,h=>by
          cases d with
          |int i=>
           simp only [fL,kt] at h
           obtain ⟨ms,h,rfl⟩:=h
           rw [mO h]
           rfl
          |_=>simp [fL] at h
theorem k6:∀ns:List Int,fL (ns.map Dv.int)=some ns
 | []=>rfl
 |n::ns=>by simp [fL,k6 ns]
theorem iG {M:Mh} {H:Hp}:∀{vs:List V} {ns:List Int},aE β M H vs (ns.map Dv.int)->vs=ns.map V.int
 | [],[],_=>rfl
 | [],_::_,r=>absurd r.len (by simp)
 |_::_,[],r=>absurd r.len (by simp)
 |v::vs,n::ns,r=>by
          rw [ss] at r
          rw [ss,aJ r.head,iG r.tail]
theorem jV {M:Mh} {H:Hp}:∀{ns:List Int},aE β M H (ns.map V.int) (ns.map Dv.int)
 | []=>.nil
 |n::ns=>.cons (.int _) jV
def intsM (M:Mh) (d:Dv):Option (List Int):=match d with | .set ns=>some ns|_=>(itemsM M d).bind fL
theorem pX {M:Mh} {H:Hp} {x:V} {d:Dv} {ns:List Int} (m:Mz β M H) (r:Rz β M H x d) (h:(itemsM M d).bind fL=some ns):∃a,x=.ref a/\(H a=some (.lst (ns.map V.int))\/H a=some (.tup (ns.map V.int))) :=by
 cases e:itemsM M d with
 |none=>rw [e] at h;cases h
 |some ds=>
  rw [e] at h
  obtain ⟨a,vs,rfl,ha,rs⟩:=iF m r e
  have e2:=mO (ns:=ns) h
  subst e2
  have:=iG rs
  subst this
  exact ⟨a,rfl,ha⟩
def isD (T:String) (M:Mh) (d:Dv):Option Bool:=match d with
 | .int _=>some (T == "int") | .bl _=>some (T == "int" || T == "bool") | .ao=>some false | .str _=>some (T == "str") | .tup _=>some (T == "tuple") | .lst _=>some (T == "list") | .ptr a=>(match M a with|some (.lst _)=>some (T == "list")|some .bZ=>some (T == "list")|some _=>some false|none=>none)|_=>none
def lH:List String:=["int","bool","str","tuple","list"]
def zIsInst:pT:=fun ds M Q=>match ds with | [d,.raw (.ty T)]=>T∈lH/\(match isD T M d with|some b=>Q (.bl b) M|none=>False)|_=>False
theorem GH {K:bn} {M:Mh} {H:Hp} {x:V} {d:Dv} {T:String} {b:Bool} (m:Mz β M H) (hT:T∈lH) (r:Rz β M H x d) (h:isD T M d=some b):∃t,e6 K H x t/\P4 K t (.type T)=some b :=by
 have mx:T = "int" \/ T = "bool" \/ T = "str" \/ T = "tuple" \/ T = "list" := by simpa [lH] using hT
 cases r with
 |int i=>cases h;exact ⟨_,.int i,by rcases mx with rfl|rfl|rfl|rfl|rfl <;> rfl⟩
 |bl i=>cases h;exact ⟨_,.bl i,by rcases mx with rfl|rfl|rfl|rfl|rfl <;> rfl⟩
 |ao=>cases h;exact ⟨_,.ao,by rcases mx with rfl|rfl|rfl|rfl|rfl <;> rfl⟩
 |str i=>cases h;exact ⟨_,.str i,by rcases mx with rfl|rfl|rfl|rfl|rfl <;> rfl⟩
 |tup f e hl q=>cases h;exact ⟨_,.tup e,by rcases mx with rfl|rfl|rfl|rfl|rfl <;> rfl⟩
 |lst f e hl q=>cases h;exact ⟨_,.lst e,by rcases mx with rfl|rfl|rfl|rfl|rfl <;> rfl⟩
 |ptr hs=>
  rename_i a
  cases q2:M a with
  |none=>rw [q2] at hs;cases hs
  |some o=>
   simp only [isD,q2] at h
   have q:=m.obj a o q2
   cases o with
   |lst ds=>obtain ⟨vs,e,_⟩:=q;cases h;exact ⟨_,.lst e,by rcases mx with rfl|rfl|rfl|rfl|rfl <;> rfl⟩
   |bZ=>obtain ⟨_,_,e,_⟩:=q;cases h;exact ⟨_,.lst e,by rcases mx with rfl|rfl|rfl|rfl|rfl <;> rfl⟩
   |dk ks ds=>obtain ⟨vs,e,_⟩:=q;cases h;exact ⟨_,.dK e,by rcases mx with rfl|rfl|rfl|rfl|rfl <;> rfl⟩
   |dt ks ds=>obtain ⟨vs,e,_⟩:=q;cases h;exact ⟨_,.dT e,by rcases mx with rfl|rfl|rfl|rfl|rfl <;> rfl⟩
 |set f e=>cases h
 |exc f e=>cases h
 |bf f e=>cases h
 |b5 f e=>cases h
 |b6 e=>cases h
 |raw v=>cases h
 |dk f e _ _ _=>cases h
 |dt f e _ _ _=>cases h
 |bB _ _ _ _ _ _=>cases h
theorem iH (hK:X.K=K):fI Γ X (.builtin "isinstance") zIsInst:=⟨_,rJ hK,fun β xs ds M H Q Q' _ _ _ m rs z q=>by
 unfold zIsInst at z
 split at z
 ·obtain ⟨x,y,rfl,r,r'⟩:=oH rs
  rw [yh r']
  obtain ⟨hT,z⟩:=z
  split at z
  ·rename_i b hb
   obtain ⟨t,ht,hk⟩:=GH (K:=K) m hT r hb
   exact ⟨_,_,t,b,rfl,ht,hk,q _ _ _ _ (.refl m) (.bl _) z⟩
  ·exact z.elim
 ·exact z.elim⟩
abbrev sk:=Dv->List Dv->Mh->ZK->Prop
def yt (Γ:Gz) (X:Cx) (T id:String) (K:bn) (z:sk):Prop:=∃r,xu X id r/\∀(β:Bz) x xs d ds M H Q Q',β.P=Γ.P->β.w=Γ.w->β.K=Γ.K->Mz β M H->Rz β M H x d->aE β M H xs ds->z d ds M Q'->(∀d' M' v H',Ex β M H M' H'->Rz β M' H' v d'->Q' d' M'->Q v H')->r x xs H Q
def tyZ (T:String) (M:Mh):Dv->Prop
 | .ptr a=>match M a with|some (.lst _)=>T = "list" |some .bZ=>T = "list" |some (.dk _ _)=>T = "dict" |some (.dt _ _)=>T = "dict" |none=>False
 | .lst _=>T = "list"
 | .tup _=>T = "tuple"
 | .str _=>T = "str"
 |_=>False
theorem yu {M:Mh} {H:Hp} {x:V} {d:Dv} {T:String} (m:Mz β M H) (r:Rz β M H x d) (h:tyZ T M d):BH K T x H :=by
 cases r with
 |str=>exact h
 |lst f e _ _=>exact .inl ⟨h,_,bA.of e⟩
 |tup f e _ _=>exact .inr (.inl ⟨h,.inr ⟨_,e⟩⟩)
 |ptr hs=>
  rename_i a
  cases q2:M a with
  |none=>rw [q2] at hs;cases hs
  |some o=>
   simp only [tyZ,q2] at h
   have q:=m.obj a o q2
   cases o with
   |lst ds=>obtain ⟨vs,e,_⟩:=q;exact .inl ⟨h,_,bA.of e⟩
   |bZ=>obtain ⟨_,_,e,_⟩:=q;exact .inl ⟨h,_,bA.of e⟩
   |dk ks ds=>obtain ⟨vs,e,_⟩:=q;exact .inr (.inr (.inl ⟨h,.inl ⟨_,e⟩⟩))
   |dt ks ds=>obtain ⟨vs,e,_⟩:=q;exact .inr (.inr (.inl ⟨h,.inr ⟨_,e⟩⟩))
 |_=>exact h.elim
def zBM (T:String) (z:sk) (po:aH) (pa:dX):aH:=fun ρ M Q=>po ρ M fun d M1=>tyZ T M1 d/\pa ρ M1 fun ds M2=>z d ds M2 Q
section
variable {o e:dL} {es:List dL} {po:aH} {pa:dX} {name:br} {apos aW:sB} {T id:String} {z:sk}
theorem jW (h:X.K=K) (pat:PQ T) (slot:Slot T name id) (ku:typeOf (.builtin id)=pure (.type "method_descriptor")) (hm:yt Γ X T id K z) (ho:QE Γ X o po) (ha:QA Γ X (e::es) pa) (fA:attributeBase o name X.env (eval o X.env)=eval o X.env :=by rfl)
  (rg:((backTo aW (starEach (e::es) X.env)).all (fun x => !x.1) && (backToKw aW (keywordEach [] X.env)).all (fun x=>x.1.isSome)
   && decide ((e::es).length+([]:List Pn).length+(if ([]:List Pn).isEmpty then 0 else 1)<30))=true :=by rfl)
  (hline:(apos.endLine==aW.line)=true :=by rfl) (hs:starEach (e::es) X.env=(false,eval e X.env)::starEach es X.env :=by rfl) (ky:(backTo aW (starEach es X.env)).any (·.1)=false :=by rfl) :
  QE Γ X (.Call (.Attribute o name apos) (e::es) [] aW) (zBM T z po pa) :=by
 obtain ⟨r,h1,h2⟩:=hm
 exact (FX h pat slot ku h1 ho ha fA rg hline hs ky).imp fun σ H Q ⟨β,ρ,M,Q',zr,h,q⟩=>⟨β,ρ,M,_,zr,h,fun d M1 v H1 x1 r1 ⟨ht,h1⟩=>⟨yu x1.mz r1 ht,β,ρ,M1,_,zr.step x1,h1,fun ds M2 vs H2 x2 r2 h3=>
  h2 β v vs d ds M2 H2 _ _ zr.eP zr.ew zr.eK x2.mz (r1.ex x2) r2 h3 fun d' M' v' H' x3 r3 q3=>q _ _ _ _ (x1.trans (x2.trans x3)) r3 q3⟩⟩
theorem yw (h:X.K=K) (pat:PQ T) (slot:Slot T name id) (ku:typeOf (.builtin id)=pure (.type "method_descriptor")) (hm:yt Γ X T id K z) (ho:QE Γ X o po) (fA:attributeBase o name X.env (eval o X.env)=eval o X.env :=by rfl) (hline:(apos.endLine==aW.line)=true :=by rfl) :
  QE Γ X (.Call (.Attribute o name apos) [] [] aW) (zBM T z po zNil) :=by
 obtain ⟨r,h1,h2⟩:=hm
 exact (Dc h pat slot ku h1 ho fA hline).imp fun σ H Q ⟨β,ρ,M,Q',zr,h,q⟩=>⟨β,ρ,M,_,zr,h,fun d M1 v H1 x1 r1 ⟨ht,h1⟩=>⟨yu x1.mz r1 ht,
  h2 β v [] d [] M1 H1 _ _ zr.eP zr.ew zr.eK x1.mz r1 .nil h1 fun d' M' v' H' x3 r3 q3=>q _ _ _ _ (x1.trans x3) r3 q3⟩⟩
end
def zAppend:sk:=fun d ds M Q=>match d,ds with | .ptr a,[y]=>(match M a with|some (.lst xs)=>xs.length<sizeLine/\Q .ao (aq M a (.lst (xs++[y])))|_=>False)|_,_=>False
theorem iI:yt Γ X "list" "list.append" K zAppend:=⟨_,pC,fun β x xs d ds M H Q Q' _ _ _ m r rs z q=>by
 unfold zAppend at z
 split at z
 ·rename_i a y
  split at z
  ·rename_i es he
   obtain ⟨e,hs⟩:=a9 r
   obtain ⟨v,e2,rv⟩:=ee rs
   subst e e2
   obtain ⟨vs,hv,fK⟩:=m.obj a _ he
   refine ⟨a,vs,v,rfl,rfl,hv,by rw [fK.len];exact z.1,?_⟩
   exact q _ _ _ _ (Ex.own m (.inl hs) (fK.snoc rv)) .ao z.2
  ·exact z.elim
 ·exact z.elim⟩
def zPop:sk:=fun d ds M Q=>match d,ds with | .ptr a,[]=>(match M a with|some (.lst xs)=>(match xs[xs.length - 1]? with|some y=>Q y (aq M a (.lst xs.dropLast))|none=>False)|_=>False)|_,_=>False
def zPopAt:sk:=fun d ds M Q=>match d,ds with | .ptr a,[.int i]=>(match M a with|some (.lst xs) => -(2 ^ 63)<=i/\i<2 ^ 63/\(match seqIndex? i xs.length with|some k=>(match xs[k]? with|some y=>Q y (aq M a (.lst (xs.eraseIdx k)))|none=>False)|none=>False)|_=>False)|_,_=>False
theorem aE.eraseIdx {M:Mh} {H:Hp} {vs:List V} {ds:List Dv} (h:aE β M H vs ds) (k:Nat):aE β M H (vs.eraseIdx k) (ds.eraseIdx k) :=by
 rw [List.eraseIdx_eq_take_drop_succ,List.eraseIdx_eq_take_drop_succ]
 exact (h.take _).append (h.drop _)
theorem uN:yt Γ X "list" "list.pop" K zPopAt:=⟨_,Ab,fun β x xs d ds M H Q Q' _ _ _ m r rs z q=>by
 unfold zPopAt at z
 split at z
 ·rename_i a i
  split at z
  ·rename_i es he
   obtain ⟨b1,b2,z⟩:=z
   split at z
   ·rename_i k hk
    split at z
    ·rename_i y hy
     obtain ⟨e,hs⟩:=a9 r
     obtain ⟨v0,e2,MZ⟩:=ee rs
     subst e e2
     rw [aJ MZ]
     obtain ⟨vs,hv,fK⟩:=m.obj a _ he
     obtain ⟨v,M6,rv⟩:=fK.get hy
     refine ⟨a,vs,i,k,v,rfl,rfl,hv,b1,b2,by rw [fK.len];exact hk,M6,?_⟩
     have x2:=Ex.own m (.inl hs) (fK.eraseIdx k)
     exact q _ _ _ _ x2 (rv.ex x2) z
    ·exact z.elim
   ·exact z.elim
  ·exact z.elim
 ·exact z.elim⟩
def zSetI:Dv->Dv->Dv->Mh->(Mh->Prop)->Prop:=fun o i v M N=>match o,i with | .ptr a,.int k=>(match M a with|some (.lst xs)=>(match fo xs.length k with|some j=>N (aq M a (.lst (xs.set j v)))|none=>False)|_=>False)|_,_=>False
def zgSub (po pi:aH):b9:=fun d ρ M N=>po ρ M fun o M1=>pi ρ M1 fun i M2=>zSetI o i d M2 fun M3=>N ρ M3
theorem jH {o i:dL} {po pi:aH} {pos:sB} (ho:QE Γ X o po) (hi:QE Γ X i pi)
  (ha:∀v,assign (.Subscript o i pos) X.env v=(do
   let ov <- holding [v] (eval o X.env)
   let iv <- holding [v,ov] (eval i X.env)
   standAt pos
   holding [v,ov,iv] (setItem ov iv v)
   release [v,ov,iv] []) :=by intro _;rfl):QG Γ X (.Subscript o i pos) (zgSub po pi):=
 (EL ho hi set_list ha).imp fun v σ H N ⟨β,d,ρ,M,N',zr,r,h,q⟩=>⟨β,ρ,M,_,zr,h,fun od M1 ov H1 x1 r1 h1=>⟨β,ρ,M1,_,zr.step x1,h1,fun OT M2 iv H2 x2 r2 h2=>by
  unfold zSetI at h2
  split at h2
  ·rename_i a k
   split at h2
   ·rename_i es he
    split at h2
    ·rename_i j hj
     obtain ⟨e,hs⟩:=a9 (r1.ex x2)
     subst e
     rw [aJ r2]
     obtain ⟨vs,hv,fK⟩:=x2.mz.obj a _ he
     have x3:=Ex.own x2.mz (.inl hs) (fK.set j ((r.ex x1).ex x2))
     exact ⟨a,vs,k,j,rfl,rfl,hv,by rw [fK.len];exact hj,q _ _ _ _ (x1.trans (x2.trans x3)) (((zr.step x1).step x2).step x3) h2⟩
    ·exact h2.elim
   ·exact h2.elim
  ·exact h2.elim⟩⟩
end
end L2
namespace L2
open PySem PySem.Spec PySem.W PyProof.Rows
abbrev ZX:=ag->Mh->Prop
abbrev cp:=List Dv->Mh->ZK->ZX->Prop
def bg (P:f8) (w:ii) (K:bn) (tb:cC) (S:cp):Sp:=fun vs H Q E=>∃(β:Bz) (ds:List Dv) (M:Mh) (Q':ZK) (E':ZX),β.P=P/\β.w=w/\β.K=K/\β.tb=tb/\Mz β M H/\aE β M H vs ds/\S ds M Q' E' /\
 (∀d M' v H',Ex β M H M' H'->Rz β M' H' v d->Q' d M'->Q v H')/\∀C M' H',Ex β M H M' H'->E' C M'->E (.ref C) none H'
theorem Rz.jX {β:Bz} {M0 M:Mh} {H:Hp} (dom:∀a,(M0 a).isSome=true->(M a).isSome=true) {v:V} {d:Dv} (h:Rz β M H v d):Pin M0 d->Rz β M0 H v d :=by
 have ne:∀a,Fz β M a->Fz β M0 a:=fun a m=>⟨(by
  cases e:M0 a with
  |none=>rfl
  |some o=>have:=dom a (by rw [e];rfl);rw [m.1] at this;cases this),m.2⟩
 induction h with
 |int i=>exact fun _=>.int i
 |bl b=>exact fun _=>.bl b
 |ao=>exact fun _=>.ao
 |str z=>exact fun _=>.str z
 |tup m e hl h ih=>
  intro p
  cases p with
  |tup p=>exact .tup (ne _ m) e hl fun i v d a b=>ih i v d a b (p d (db b))
 |lst m e hl h ih=>
  intro p
  cases p with
  |lst p=>exact .lst (ne _ m) e hl fun i v d a b=>ih i v d a b (p d (db b))
 |set m e=>exact fun _=>.set (ne _ m) e
 |ptr m=>intro p;cases p with|ptr p=>exact .ptr p
 |exc m e=>exact fun _=>.exc (ne _ m) e
 |bf m e=>exact fun _=>.bf (ne _ m) e
 |b5 m e=>exact fun _=>.b5 (ne _ m) e
 |b6 e=>exact fun _=>.b6 e
 |dk m e hk hl h ih=>
  intro p
  cases p with
  |dk p=>exact .dk (ne _ m) e hk hl fun i v d a b=>ih i v d a b (p d (db b))
 |dt m e hk hl h ih=>
  intro p
  cases p with
  |dt p=>exact .dt (ne _ m) e hk hl fun i v d a b=>ih i v d a b (p d (db b))
 |bB m e m2 e2 hl h ih=>
  intro p
  cases p with
  |bB p=>exact .bB (ne _ m) e (ne _ m2) e2 hl fun i v d a b=>ih i v d a b (p d (db b))
 |raw v=>exact fun _=>.raw v
inductive kg (M0 M:Mh):Dv->Dv->Prop where
 |pin {d:Dv} (h:Pin M0 d):kg M0 M d d
 |ptr {a:ag} {ds ds':List Dv} (h0:M0 a=none) (h:M a=some (.lst ds)) (hl:ds.length=ds'.length) (r:∀(i:Nat) (d d':Dv),ds[i]?=some d->ds'[i]?=some d'->kg M0 M d d'):kg M0 M (.ptr a) (.lst ds')
 |tup {ds ds':List Dv} (hl:ds.length=ds'.length) (r:∀(i:Nat) (d d':Dv),ds[i]?=some d->ds'[i]?=some d'->kg M0 M d d'):kg M0 M (.tup ds) (.tup ds')
 |dk {a:ag} {ks:List Key} {ds ds':List Dv} (h0:M0 a=none) (h:M a=some (.dk ks ds)) (hl:ds.length=ds'.length) (r:∀(i:Nat) (d d':Dv),ds[i]?=some d->ds'[i]?=some d'->kg M0 M d d'):kg M0 M (.ptr a) (.dk ks ds')
 |dt {a:ag} {ks:List (List Key)} {ds ds':List Dv} (h0:M0 a=none) (h:M a=some (.dt ks ds)) (hl:ds.length=ds'.length) (r:∀(i:Nat) (d d':Dv),ds[i]?=some d->ds'[i]?=some d'->kg M0 M d d'):kg M0 M (.ptr a) (.dt ks ds')
theorem kg.rz {β:Bz} {M0 M:Mh} {H:Hp} (mz:Mz β M H) (dom:∀a,(M0 a).isSome=true->(M a).isSome=true) {d d':Dv} (h:kg M0 M d d'):∀{v:V},Rz β M H v d->Rz β M0 H v d':=by
 induction h with
 |pin h=>exact fun r=>r.jX dom h
 |ptr h0 h hl r ih=>
  intro v r
  obtain ⟨rfl,_⟩:=a9 r
  obtain ⟨vs,hv,rs⟩:=mz.obj _ _ h
  refine .lst ⟨h0,mz.apart _ _ h⟩ hv (rs.len.trans hl) fun i v d a b=>?_
  obtain ⟨d0,q,rd⟩:=rs.get' a
  exact ih i d0 d q b rd
 |dk h0 h hl r ih=>
  intro v r
  obtain ⟨rfl,_⟩:=a9 r
  obtain ⟨vs,hv,hk,rs⟩:=mz.obj _ _ h
  refine .dk ⟨h0,mz.apart _ _ h⟩ (.inl hv) hk (rs.len.trans hl) fun i v d a b=>?_
  obtain ⟨d0,q,rd⟩:=rs.get' a
  exact ih i d0 d q b rd
 |dt h0 h hl r ih=>
  intro v r
  obtain ⟨rfl,_⟩:=a9 r
  obtain ⟨vs,hv,hk,rs⟩:=mz.obj _ _ h
  refine .dt ⟨h0,mz.apart _ _ h⟩ (.inl hv) hk (rs.len.trans hl) fun i v d a b=>?_
  obtain ⟨d0,q,rd⟩:=rs.get' a
  exact ih i d0 d q b rd
 |tup hl r ih=>
  intro v r
  obtain ⟨a,vs,rfl,f,hv,rs⟩:=dq r
  refine .tup ⟨?_,f.2⟩ hv (rs.len.trans hl) fun i v d a b=>?_
  ·cases e:M0 a with
   |none=>rfl
   |some o=>have:=dom a (by rw [e];rfl);rw [f.1] at this;cases this
  ·obtain ⟨d0,q,rd⟩:=rs.get' a
   exact ih i d0 d q b rd
def iJ (M0:Mh) (Q:ZK):ZK:=fun d M=>Q d M\/((∀a o,M0 a=some o->M a=some o)/\∃d',kg M0 M d d'/\Q d' M0)
theorem lJ {β:Bz} {M0 M:Mh} {H0 H:Hp} {Q':ZK} {Q:VK} (m0:Mz β M0 H0) (q:∀d M' v H',Ex β M0 H0 M' H'->Rz β M' H' v d->Q' d M'->Q v H') {d:Dv} {v:V} (x:Ex β M0 H0 M H) (r:Rz β M H v d) (h:iJ M0 Q' d M):Q v H :=by
 rcases h with h|⟨same,d',rv,h⟩
 ·exact q _ _ _ _ x r h
 ·refine q d' M0 v H ⟨⟨x.keep,fun _ h=>h,fun _ _ h _=>h⟩,fun a o e=>?_,x.mz.tabs,x.mz.hids,m0.apart,x.mz.lams⟩ (rv.rz x.mz x.dom r) h
  have z:=x.mz.obj a o (same a o e)
  have z0:=m0.obj a o e
  cases o with
  |lst ds=>
   obtain ⟨vs,z,rs⟩:=z
   obtain ⟨B1,_,yx⟩:=z0
   refine ⟨vs,z,rs.len,fun i v d a b=>(rs.at' i v d a b).jX x.dom ?_⟩
   obtain ⟨v0,_,r0⟩:=yx.get b
   exact r0.pin
  |dk ks ds=>
   obtain ⟨vs,z,hk,rs⟩:=z
   obtain ⟨B1,_,_,yx⟩:=z0
   refine ⟨vs,z,hk,rs.len,fun i v d a b=>(rs.at' i v d a b).jX x.dom ?_⟩
   obtain ⟨v0,_,r0⟩:=yx.get b
   exact r0.pin
  |dt ks ds=>
   obtain ⟨vs,z,hk,rs⟩:=z
   obtain ⟨B1,_,_,yx⟩:=z0
   refine ⟨vs,z,hk,rs.len,fun i v d a b=>(rs.at' i v d a b).jX x.dom ?_⟩
   obtain ⟨v0,_,r0⟩:=yx.get b
   exact r0.pin
  |bZ=>exact z
def zstart (N:List br) (ds:List Dv):av:=ds.map some++on (N.length - ds.length) none
theorem mP {Γ:Gz} {N:List br} {vs:List V} {ds:List Dv} (m:Mz Γ.toBz Γ.M0 Γ.H0) (rs:aE Γ.toBz Γ.M0 Γ.H0 vs ds):Zr Γ Γ.toBz Γ.M0 (zstart N ds) (start N vs) Γ.H0:=⟨rfl,rfl,rfl,rfl,fun _ h=>h,m.wf,.refl,m,by simp [zstart,start,rs.len],fun i d e=>by
 unfold zstart at e
 unfold start
 rw [PX] at e ⊢
 rw [cr] at e ⊢
 rw [rs.len]
 split at e
 ·rename_i hi
  rw [if_pos hi]
  rw [ca,kt] at e
  obtain ⟨d2,e,e2⟩:=e
  cases e2
  obtain ⟨v,hv,r⟩:=rs.get e
  exact ⟨v,by rw [ca,hv];rfl,r⟩
 ·rw [Fa] at e
  split at e <;> cases e⟩
def zEndsOf (M0:Mh) (Q:ZK):dy:={nx:=fun _ M=>iJ M0 Q .ao M,rt:=iJ M0 Q}
def XR (Γ:Gz) (E':ZX) (E:XK):Prop:=∀C M' H',Ex Γ.toBz Γ.M0 Γ.H0 M' H'->E' C M'->E (.ref C) none H'
section
variable {P:f8} {w:ii} {K:bn} {mg:br->Option ap} {base:gl} {tb:cC} {x:br} {st:nw} {f:ag} {fd:l3} {N ps:List br} {k:Nat} {S:cp}
theorem oK (len:∀ds M Q E,S ds M Q E->ds.length=ps.length):∀vs H Q E,bg P w K tb S vs H Q E->vs.length=ps.length:=fun vs H Q E hS=>by
 obtain ⟨β,ds,M,Q',E',_,_,_,_,m,rs,s,_⟩:=hS
 exact rs.len.trans (len _ _ _ _ s)
theorem fM (D:Df K mg x st ps f fd) (sc:aT N ps (aj st)) (len:∀ds M Q E,S ds M Q E->ds.length=ps.length)
  (body:∀(A:l8) (outer:List Cc) (s:bi) (E:XK) (Γ:Gz) (ds:List Dv) (Q':ZK) (E':ZX),P=Γ.P->w=Γ.w->K=Γ.K->tb=Γ.tb->bF k (A.deeper (envOfC x (aj st) s.heap.objs.size f fd.code))->S ds Γ.M0 Q' E'->
   ∃p,jC Γ (eF bq P w K mg base N x (aj st) f fd.code A outer s Γ.H0 E).iX (bo st) p/\p (zEndsOf Γ.M0 Q') (zstart N ds) Γ.M0):FnOk P w K mg base bq (k+1) f fd ps (bg P w K tb S) :=by
 refine D.fn.ML sc (oK len) fun A outer s H vs Q E hr h=>?_
 obtain ⟨β,ds,M,Q',E',eP,ew,eK,et,m,rs,hS,q,_⟩:=h
 obtain ⟨p,hp,hq⟩:=body A outer s E ⟨β,M,H⟩ ds Q' E' eP.symm ew.symm eK.symm et.symm hr hS
 refine ⟨_,hp,β,zstart N ds,M,zEndsOf M Q',mP (Γ:=⟨β,M,H⟩) m rs,hq,?_⟩
 have fin:∀d M' v H',Ex β M H M' H'->Rz β M' H' v d->iJ M Q' d M'->Q v H':=fun d M' v H' x r h=>lJ m q x r h
 exact ⟨fun bC M' aF H' x zr h=>fin _ _ _ _ ⟨zr.ent,x.mz⟩ .ao h,fun d M' v H' x e r h=>fin _ _ _ _ ⟨e,x.mz⟩ r h,fun _ _ _ _ _ _ h=>h,fun _ _ _ _ _ _ h=>h⟩
end
section
variable {P:f8} {w:ii} {K:bn} {mg:br->Option ap} {base:gl} {tb:cC} {x:br} {st:nw} {f:ag} {fd:l3} {N ps:List br} {k:Nat} {S:cp}
theorem vT (D:Df K mg x st ps f fd) (sc:aT N ps (aj st)) (len:∀ds M Q E,S ds M Q E->ds.length=ps.length)
  (body:∀(A:l8) (outer:List Cc) (s:bi) (E:XK) (Γ:Gz) (ds:List Dv) (Q':ZK) (E':ZX),P=Γ.P->w=Γ.w->K=Γ.K->tb=Γ.tb->XR Γ E' E->bF k (A.deeper (envOfC x (aj st) s.heap.objs.size f fd.code))->S ds Γ.M0 Q' E'->
   ∃p,jC Γ (eF (ft P w) P w K mg base N x (aj st) f fd.code A outer s Γ.H0 E) (bo st) p/\p (zEndsOf Γ.M0 Q') (zstart N ds) Γ.M0):FnOk P w K mg base (ft P w) (k+1) f fd ps (bg P w K tb S) :=by
 refine D.fn.xS sc (oK len) fun A outer s H vs Q E hr h=>?_
 obtain ⟨β,ds,M,Q',E',eP,ew,eK,et,m,rs,hS,q,qx⟩:=h
 obtain ⟨p,hp,hq⟩:=body A outer s E ⟨β,M,H⟩ ds Q' E' eP.symm ew.symm eK.symm et.symm qx hr hS
 refine ⟨_,hp,β,zstart N ds,M,zEndsOf M Q',mP (Γ:=⟨β,M,H⟩) m rs,hq,?_⟩
 have fin:∀d M' v H',Ex β M H M' H'->Rz β M' H' v d->iJ M Q' d M'->Q v H':=fun d M' v H' x r h=>lJ m q x r h
 exact ⟨fun bC M' aF H' x zr h=>fin _ _ _ _ ⟨zr.ent,x.mz⟩ .ao h,fun d M' v H' x e r h=>fin _ _ _ _ ⟨e,x.mz⟩ r h,fun _ _ _ _ _ _ h=>h,fun _ _ _ _ _ _ h=>h⟩
end
section
variable {X:Cx} {Γ:Gz} {β:Bz} {K:bn}
def zCall (S:cp) (E':ZX) (za:dX):aH:=fun ρ M Q=>za ρ M fun ds M1=>S ds M1 Q E'
theorem XR.none:XR Γ (fun _ _=>False) (fun _ _ _=>False):=fun _ _ _ _ h=>h
theorem n5 {M M1 M2:Mh} {H H1 H2:Hp} (ent:Ey M H M1 H1) (sub:∀a,a∈Γ.hid->a∈β.hid) (eP:β.P=Γ.P) (ew:β.w=Γ.w) (eK:β.K=Γ.K) (et:β.tb=Γ.tb) (x:Ex β M1 H1 M2 H2):Ex Γ.toBz M H M2 H2:=⟨ent.trans x.toEy,x.mz.sub eP.symm ew.symm eK.symm et.symm sub⟩
section
variable {CX:fm} {k:Nat} {f:ag} {fd:l3} {ps:List br} {S:cp} {E:XK} {E':ZX} {x:br} {p pos:sB} {e:dL} {es:List dL} {za:dX} {P:f8} {w:ii} {tb:cC}
theorem GI (hP:P=Γ.P) (hw:w=Γ.w) (hK:K=Γ.K) (ht:tb=Γ.tb) (hE:XR Γ E' E) {σ:St} {H:Hp} {Q:VK} (h:lE Γ (zCall S E' za) σ H Q):BF (bg P w K tb S) [] E (lA Γ za) σ H Q :=by
 subst hP hw hK ht
 obtain ⟨β,ρ,M,Q',zr,h,q⟩:=h
 refine ⟨β,ρ,M,_,zr,h,fun ds M1 vs H1 x1 r1 h1=>?_⟩
 show bg Γ.P Γ.w Γ.K Γ.tb S (vs++[]) H1 Q E
 rw [BY]
 exact ⟨β,ds,M1,Q',E',zr.eP,zr.ew,zr.eK,zr.et,x1.mz,r1,h1,fun d M2 v H2 x2 r2 h2=>q _ _ _ _ (x1.trans x2) r2 h2,fun C M2 H2 x2 h2=>hE C M2 H2 (n5 zr.ent zr.sub zr.eP zr.ew zr.eK zr.et (x1.trans x2)) h2⟩
theorem aQ (F:FnOk X.prog X.w X.K X.mg X.base CX k f fd ps (bg P w K tb S)) (hr:bF k X.A) (hg:Gl X x) (hm:X.mg x=some (.ref f)) (hk:xL X.K (.ref f)=true) (hb:Binds X.K fd ps []) (hx:Passes CX X E) (hP:P=Γ.P) (hw:w=Γ.w) (hK:K=Γ.K) (ht:tb=Γ.tb) (hE:XR Γ E' E)
  (ha:QA Γ X (e::es) za) (dS:(x==("__debug__" : br))=false :=by decide) (he:starEach (e::es) X.env=(false,eval e X.env)::starEach es X.env :=by rfl) (cK:(backTo pos (starEach es X.env)).any (·.1)=false :=by rfl) :
  QE Γ X (.Call (.Name x p) (e::es) [] pos) (zCall S E' za):=(C2 F hr hg hm hk hb .nil hx ha dS he cK).imp fun σ H Q h=>GI hP hw hK ht hE h
end
def zRaise (C:ag) (E':ZX) (za:dX):bH:=fun _ ρ M=>za ρ M fun ds M1=>ds.length<=sizeLine/\E' C M1
theorem AD {x:br} {C:ag} {jn:dL} {rest:List dL} {za:dX} {pQ:List ap} {B newId rW:String} {E:XK} {E':ZX} {np aW pos:sB} (O:Qf X.K C pQ newId=true) (FB:ExcBaseFacts B newId rW pQ) (hc:X.calm=true) (hR:Raises X E) (hE:XR Γ E' E) (hg:Gl X x) (hm:X.mg x=some (.ref C)) (ha:QA Γ X (jn::rest) za)
  (dS:(x==("__debug__" : br))=false :=by decide) (he:starEach (jn::rest) X.env=(false,eval jn X.env)::starEach rest X.env :=by rfl) (cK:(backTo aW (starEach rest X.env)).any (·.1)=false :=by rfl) :
  QS Γ X (.Raise (some (.Call (.Name x np) (jn::rest) [] aW)) none pos) (zRaise C E' za):=(Ao O FB hc hR hg hm ha dS he cK).imp fun D σ H ⟨β,ρ,M,D',zr,h,r⟩=>⟨β,ρ,M,_,zr,h,fun ds M1 vs H1 x1 r1 h1=>
 ⟨by rw [r1.len];exact h1.1,hE C M1 H1 (n5 zr.ent zr.sub zr.eP zr.ew zr.eK zr.et x1) h1.2⟩⟩
section
variable {tg elt iter:dL} {ifs:List dL} {scope:rb} {pos:sB} {N':List br} {tn:Nat} {idx:List Nat} {zi:fG} {g:b9} {tt:cm} {te:aH} {c P:ag} {k:Nat}
theorem gv (hc:X.calm=true) (B:aI X.N X.env.scope scope N' tn idx) (hi:QI Γ X tg iter zi)
  (hg:Blk X N' scope fun Y=>QG Γ Y tg g) (ht:Blk X N' scope fun Y=>pV Γ Y ifs tt) (he:Blk X N' scope fun Y=>QE Γ Y elt te)
  (hs:∀x,foldedSetIterable iter X.env x=pure x :=by intro _;rfl):QE Γ X (.ListComp elt [⟨tg,iter,ifs,0⟩] scope pos) (zComp tn idx zi g tt te):=(me hc B hi hg ht he hs).imp fun σ H Q h=>yp h
theorem sm (hc:X.calm=true) (B:aI X.N X.env.scope scope N' tn idx) (hi:QI Γ X tg iter zi)
  (hg:Blk X N' scope fun Y=>QG Γ Y tg g) (ht:Blk X N' scope fun Y=>pV Γ Y ifs tt) (he:Blk X N' scope fun Y=>QE Γ Y elt te)
  (hs:∀x,foldedSetIterable iter X.env x=pure x :=by intro _;rfl):QE Γ X (.ListComp elt [⟨tg,iter,ifs,0⟩] scope pos) (zCompP tn idx zi g tt te):=(me hc B hi hg ht he hs).imp fun σ H Q h=>oJ h
theorem jY {i:Nat} {y:br} {py fD:sB} (hN:X.N.Nodup) (dP:X.N[i]?=some y) (hy:X.env.scope.names.lookup y=some .local) (hc:X.calm=true) (B:aI X.N X.env.scope scope N' tn idx) (hi:QI Γ X tg iter zi)
  (hg:Blk X N' scope fun Y=>QG Γ Y tg g) (ht:Blk X N' scope fun Y=>pV Γ Y ifs tt) (he:Blk X N' scope fun Y=>QE Γ Y elt te)
  (nJ:swapsWith (.ListComp elt [⟨tg,iter,ifs,0⟩] scope pos) (some (.Name y py)) fD.line X.env=pure true :=by rfl)
  (hs:∀x,foldedSetIterable iter X.env x=pure x :=by intro _;rfl):QS Γ X (.Assign [.Name y py] (.ListComp elt [⟨tg,iter,ifs,0⟩] scope pos) fD) (zAsg (zComp tn idx zi g tt te) (zgName i)):=(nI hN dP hy hc B hi hg ht he nJ hs).imp fun D σ H h=>qM (fun _ _ _ h=>yp h) h
theorem t4 {i:Nat} {y:br} {py fD:sB} (hN:X.N.Nodup) (dP:X.N[i]?=some y) (hy:X.env.scope.names.lookup y=some .local) (hc:X.calm=true) (B:aI X.N X.env.scope scope N' tn idx) (hi:QI Γ X tg iter zi)
  (hg:Blk X N' scope fun Y=>QG Γ Y tg g) (ht:Blk X N' scope fun Y=>pV Γ Y ifs tt) (he:Blk X N' scope fun Y=>QE Γ Y elt te)
  (nJ:swapsWith (.ListComp elt [⟨tg,iter,ifs,0⟩] scope pos) (some (.Name y py)) fD.line X.env=pure true :=by rfl)
  (hs:∀x,foldedSetIterable iter X.env x=pure x :=by intro _;rfl):QS Γ X (.Assign [.Name y py] (.ListComp elt [⟨tg,iter,ifs,0⟩] scope pos) fD) (zAsg (zCompP tn idx zi g tt te) (zgName i)):=(nI hN dP hy hc B hi hg ht he nJ hs).imp fun D σ H h=>qM (fun _ _ _ h=>oJ h) h
theorem yy {p rG:sB} (hP:P∈Γ.tb) (hr:bF (k+1) X.A) (hc:X.calm=true) (B:aI X.N X.env.scope scope N' tn idx)
  (h0:scope.names.lookup (".0" : br)=some .local) (pK:scope.isCoroutine=false) (eU:X.env.code=.ref c) (hd:qr X.base c P) (cV:∃bm ob,P5 X.base mainGlobals X.mg bm ob)
  (FP:Gl X "all") (hm:X.mg "all" = none) (hi:QI Γ X tg iter zi) (hg:mI X N' scope k fun Y=>QG Γ Y tg g) (ht:mI X N' scope k fun Y=>pV Γ Y ifs tt) (he:mI X N' scope k fun Y=>QE Γ Y elt te)
  (hs:∀x,genFold iter X.env x=pure x :=by intro _;rfl):QE Γ X (.Call (.Name "all" p) [du elt tg iter ifs scope rG] [] pos) (zAll tn idx zi g tt te):=(FO hr hc B h0 pK eU hd cV FP hm hi hg ht he hs).imp fun σ H Q h=>Jf hP h
end
end
section
variable {X:Cx} {Γ:Gz} {β:Bz} {K:bn}
section
variable {tg elt iter:dL} {ifs:List dL} {scope:rb} {pos:sB} {N':List br} {tn:Nat} {idx:List Nat} {zi:fG} {g:b9} {tt:cm} {te:aH} {c P:ag} {k:Nat}
def B6 (g:b9) (tt:cm) (te:aH):List Dv->av->Mh->(List Int->Mh->Prop)->List Int->Prop
 | [],_,M,Q,acc=>Q acc M
 |d::ds,τ,M,Q,acc=>g d τ M fun aC M2=>tt aC M2 fun b M3=>if b=true then te aC M3 fun y M4=>(match y with | .int k=>acc.length+1<scanBound/\B6 g tt te ds aC M4 Q (Lx acc k)|_=>False) else B6 g tt te ds aC M3 Q acc
end
def so (n:Nat):List Dv:=(io n).map fun i=>.int (i:Nat)
theorem Dy {n:Nat} {M:Mh} {H:Hp}:aE β M H ((io n).map fun i=>V.int (i:Nat)) (so n):=⟨by simp [so],fun i v d a b=>by
 unfold so at b
 rw [ca] at a b
 cases e:(io n)[i]? with
 |none=>rw [e] at a;cases a
 |some c=>rw [e] at a b;cases a;cases b;exact .int _⟩
def zRangeP (p:aH):aH:=fun ρ M Q=>p ρ M fun d M1=>match d with | .int j => -(2 ^ 24)<=j/\j<=2 ^ 24/\∀a,M1 a=none->Q (.ptr a) (aq M1 a (.lst (so j.toNat)))|_=>False
section
variable {e:dL} {pe:aH} {p p1 p2 pos:sB}
theorem qC (hc:X.calm=true) (hg:Gl X "list") (hm:X.mg "list" = none) (FR:Gl X "range") (FT:X.mg "range" = none) (he:QE Γ X e pe) (hs:starEach [e] X.env=[(false,eval e X.env)] :=by rfl) :
  QE Γ X (.Call (.Name "list" p) [.Call (.Name "range" p1) [e] [] p2] [] pos) (zRangeP pe):=(rH hc hg hm FR FT he hs).imp fun σ H Q ⟨β,ρ,M,Q',zr,h,q⟩=>⟨β,ρ,M,_,zr,h,fun d M1 v H1 x1 r1 h1=>by
 revert h1
 split
 ·rename_i j
  rintro ⟨b1,b2,h1⟩
  refine ⟨_,aJ r1,b1,b2,fun l hl=>?_⟩
  have x2:=Ex.own x1.mz (.inr hl) (Dy (n:=j.toNat) (β:=β) (M:=M1) (H:=H1))
  exact q _ _ _ _ (x1.trans x2) (.ptr (by rw [updM_same];rfl)) (h1 l (x1.mz.free hl))
 ·exact fun h=>h.elim⟩
def zNeg (p:aH):aH:=fun ρ M Q=>p ρ M fun d M1=>match d with | .int i=>Q (.int (-i)) M1|_=>False
theorem GJ (ha:QE Γ X e pe):QE Γ X (.UnaryOp .USub e pos) (zNeg pe):=(IA E9 ha).imp fun σ H Q ⟨β,ρ,M,Q',zr,h,q⟩=>⟨β,ρ,M,_,zr,h,fun d M1 v H1 x1 r1 h1=>by
 revert h1
 split
 ·intro h1
  exact ⟨_,aJ r1,q _ _ _ _ x1 (.int _) h1⟩
 ·exact fun h=>h.elim⟩
def truD (M:Mh):Dv->Option Bool
 | .bl b=>some b
 | .ao=>some false
 | .int i=>some (i != 0)
 | .str z=>if z.length<=sizeLine then some ((z.length:Int) != 0) else none
 | .tup ds=>some (!ds.isEmpty)
 | .lst ds=>some (!ds.isEmpty)
 | .ptr a=>match M a with|some (.lst ds)=>some (!ds.isEmpty)|_=>none
 |_=>none
def zTruth (p:aH):cm:=fun ρ M Q=>p ρ M fun d M1=>match truD M1 d with|some b=>Q b M1|none=>False
theorem aE.isEmpty {M:Mh} {H:Hp} {vs:List V} {ds:List Dv} (h:aE β M H vs ds):vs.isEmpty=ds.isEmpty :=by
 have:=h.len
 cases vs <;> cases ds <;> simp_all
theorem Dz {M:Mh} {H:Hp} {v:V} {d:Dv} {b:Bool} (m:Mz β M H) (r:Rz β M H v d) (h:truD M d=some b):zZ K v H b :=by
 cases r with
 |int i=>cases h;exact rfl
 |bl i=>cases h;exact rfl
 |ao=>cases h;exact rfl
 |str z=>
  simp only [truD] at h
  split at h
  ·rename_i hz
   cases h
   exact ⟨hz,rfl⟩
  ·cases h
 |tup f e hl q=>cases h;exact .inr (.inl ⟨_,cP.of e,by rw [aE.isEmpty ⟨hl,q⟩]⟩)
 |lst f e hl q=>cases h;exact .inl ⟨_,bA.of e,by rw [aE.isEmpty ⟨hl,q⟩]⟩
 |ptr hs=>
  simp only [truD] at h
  split at h
  ·rename_i ds jG
   cases h
   obtain ⟨vs,hv,rs⟩:=m.obj _ _ jG
   exact .inl ⟨_,bA.of hv,by rw [rs.isEmpty]⟩
  ·cases h
 |set f e=>cases h
 |exc f e=>cases h
 |bf f e=>cases h
 |b5 f e=>cases h
 |b6 e=>cases h
 |raw v=>cases h
 |dk f e _ _ _=>cases h
 |dt f e _ _ _=>cases h
 |bB _ _ _ _ _ _=>cases h
theorem AF (ha:QE Γ X e pe) (he:∀whole,isTrue e X.env whole=(do let v <- whole;standAt e.pos;holding [v] (truthy v)) :=by intro _;rfl):QT Γ X e (zTruth pe):=(z5 ha he).imp fun σ H Q ⟨β,ρ,M,Q',zr,h,q⟩=>⟨β,ρ,M,_,zr,h,fun d M1 v H1 x1 r1 h1=>by
 revert h1
 split
 ·rename_i b hb
  intro h1
  exact ⟨b,Dz x1.mz r1 hb,q _ _ _ x1 h1⟩
 ·exact fun h=>h.elim⟩
end
theorem qv (i:Nat) {x:br} {pos:sB} (hN:X.N[i]?=some x :=by rfl) (hv:l0 X.env.scope x :=by first|exact nl rfl|exact Do (nl rfl)|exact Do (Do rfl)) (hd:(x==("__debug__" : br))=false :=by decide)
  (c9:(x==("__classdict__" : br))=false :=by decide):QE Γ X (.Name x pos) (zVar i):=Gp hN hv hd c9
end
theorem M7 {c:Bool} {A B:Prop} (h:c=true) (a:A):if c=true then A else B :=by rw [if_pos h];exact a
theorem M8 {c:Bool} {A B:Prop} (h:c=false) (b:B):if c=true then A else B :=by rw [h,if_neg ge];exact b
theorem dQ {c:Bool} {A B:Prop} (h1:c=true->A) (h2:c=false->B):if c=true then A else B :=by
 cases c
 ·exact M8 rfl (h2 rfl)
 ·exact M7 rfl (h1 rfl)
theorem oM {g:b9} {te:aH} {M:Mh} (p:Dv->Bool) (I:av->Prop):∀{ds:List Dv} {τ:av} {Q:Bool->Mh->Prop},I τ->(∀d∈ds,∀τ,I τ->∀R:av->ZK,(∀aC,I aC->R aC (.bl (p d)) M)->g d τ M fun aC M2=>te aC M2 (R aC))->Q (ds.all p) M->i9 g zNoIf te ds τ M Q
 | [],τ,Q,_,_,q=>q
 |d::ds,τ,Q,i,h,q=>by
          refine h d i8 τ i (fun aC=>zBool fun c M4=>if c=false then Q false M4 else i9 g zNoIf te ds aC M4 Q) fun aC i2=>?_
          show if p d=false then Q false M else i9 g zNoIf te ds aC M Q
          cases e:p d with
          |false=>
           rw [if_pos rfl]
           rw [Py,e] at q
           exact q
          |true=>
           rw [if_neg (by decide)]
           rw [Py,e,PD] at q
           exact oM p I i2 (fun d' hd=>h d' (gc _ hd)) q
theorem jI {g:b9} {te:aH} (f:Dv->Dv) (I:av->Mh->Prop):∀{ds:List Dv} {τ:av} {M:Mh} {Q:List Dv->Mh->Prop},I τ M->(∀d∈ds,∀τ M,I τ M->∀R:av->ZK,(∀aC M2,I aC M2->R aC (f d) M2)->g d τ M fun aC M2=>te aC M2 (R aC))->(∀τ M,I τ M->Q (ds.map f) M)->e7 g zNoIf te ds τ M Q
 | [],τ,M,Q,i,_,q=>q τ M i
 |d::ds,τ,M,Q,i,h,q=>by
          refine h d i8 τ M i (fun aC y M4=>e7 g zNoIf te ds aC M4 fun ys M5=>Q (y::ys) M5) fun aC M2 i2=>?_
          exact jI f I i2 (fun d' hd=>h d' (gc _ hd)) fun mw M3 i3=>q mw M3 i3
theorem oN {g:b9} {tt:cm} {te:aH} (t:Dv->Bool) (f:Dv->Dv) (I:av->Mh->Prop):∀{ds:List Dv} {τ:av} {M:Mh} {Q:List Dv->Mh->Prop},I τ M->
  (∀d∈ds,∀τ M,I τ M->∀(R0:av->Mh->Prop) (R:av->ZK),(t d=true->∀aC M2,I aC M2->R aC (f d) M2)->(t d=false->∀aC M2,I aC M2->R0 aC M2)->g d τ M fun aC M2=>tt aC M2 fun b M3=>if b=true then te aC M3 (R aC) else R0 aC M3)->
  (∀τ M,I τ M->Q ((ds.filter t).map f) M)->e7 g tt te ds τ M Q
 | [],τ,M,Q,i,_,q=>q τ M i
 |d::ds,τ,M,Q,i,h,q=>by
          refine h d i8 τ M i (fun aC M3=>e7 g tt te ds aC M3 Q) (fun aC y M4=>e7 g tt te ds aC M4 fun ys M5=>Q (y::ys) M5) (fun e aC M2 i2=>?_) fun e aC M2 i2=>?_
          ·refine oN t f I i2 (fun d' hd=>h d' (gc _ hd)) fun mw M3 i3=>?_
           have:=q mw M3 i3
           rw [LG,if_pos e] at this
           exact this
          ·refine oN t f I i2 (fun d' hd=>h d' (gc _ hd)) fun mw M3 i3=>?_
           have:=q mw M3 i3
           rw [LG,if_neg (by rw [e];decide)] at this
           exact this
abbrev eI (ns:List Int):Dv:=.tup (ns.map .int)
abbrev eN (net:List (List Int)):Dv:=.tup (net.map eI)
abbrev de (ns:List Int):Dv:=.lst (ns.map .int)
theorem sr:∀ns:List Int,gu (ns.map Dv.int)=some (ns.map Dt.int)
 | []=>rfl
 |n::ns=>by simp only [ss,gu,bD,sr ns]
theorem uO {α:Type} {f:α->Dv} {g:α->Dt} (h:∀x,bD (f x)=some (g x)):∀xs:List α,gu (xs.map f)=some (xs.map g)
 | []=>rfl
 |x::xs=>by simp only [ss,gu,h x,uO h xs]
theorem mQ {n:Nat}:∀{ds:List Dt},(∀d∈ds,fF d<=n)->eJ ds<=n
 | [],_=>by rw [eJ];exact sK _
 |d::ds,h=>by
          rw [eJ]
          exact Nat.max_le.mpr ⟨h d i8,mQ fun d' hd=>h d' (gc _ hd)⟩
theorem DA (ns:List Int):eJ (ns.map Dt.int)<=0:=mQ fun d hd=>by
 obtain ⟨i,_,rfl⟩:=ma.mp hd
 exact c8 _
theorem e8 {M:Mh} (ns:List Int):∀d∈ns.map Dv.int,Pin M d:=fun d hd=>by
 obtain ⟨i,_,rfl⟩:=ma.mp hd
 exact .int i
theorem GK {M:Mh} (ns:List Int):Pin M (eI ns):=.tup (e8 ns)
theorem yz {M:Mh} (net:List (List Int)):Pin M (eN net):=.tup fun d hd=>by
 obtain ⟨r,_,rfl⟩:=ma.mp hd
 exact GK r
theorem DB {α β:Type} {f:α->β} {xs:List α} {i:Int} {x:α} (h:bW xs i=some x):bW (xs.map f) i=some (f x) :=by
 unfold bW at h ⊢
 rw [cr]
 cases e:fo xs.length i with
 |none=>rw [e] at h;cases h
 |some j=>rw [e] at h;simp only [Qy] at h ⊢;rw [ca,h];rfl
theorem yA {α:Type} {xs:List α} {k:Nat} (h:k<xs.length):bW xs ((k:Nat):Int)=some xs[k]:=bU (al h)
def spLaw (K:bn) (tb:cC):Sp:=fun vs H Q _=>∃(a:ag) (ns:List Int),vs=[.ref a]/\bA K H a (ns.map V.int)/\ns.length<=63/\BM tb.g H/\(∀p∈tb.l,Lm H p)/\∀H',(∀p∈tb.l,∃ps,H' p.1=some (.lam ps))->Q (.bl true) H'
def GL:cp:=fun ds M Q _=>∃ns:List Int,ds=[.bf ns]/\ns.length<=63/\(∀a,M a=none)/\∀M',Q (.bl true) M'
theorem GN {P:f8} {w:ii} {K:bn} {mg:br->Option ap} {base:gl} {k:Nat} {f:ag} {fd:l3} {x:br} {tb:cC} (G:FnOk P w K mg base bq k f fd [x] (bg P w K tb GL)):FnOk P w K mg base bq k f fd [x] (spLaw K tb):=
 G.imp fun vs H Q E ⟨a,ns,e,hS,hl,hT,hL,q⟩=>by
  subst e
  have m:Mz ⟨P,w,K,tb,[]⟩ (fun _=>none) H:=⟨(fun a o e=>nomatch e),hT,(fun a ha=>absurd ha (by simp)),(fun a o e=>nomatch e),hL⟩
  refine ⟨⟨P,w,K,tb,[]⟩,[.bf ns],fun _=>none,fun d _=>d=.bl true,fun _ _=>False,rfl,rfl,rfl,rfl,m,.cons ?_ .nil,⟨ns,rfl,hl,fun _=>rfl,fun _=>rfl⟩,fun d M' v H' x r h=>?_,fun _ _ _ _ h=>h.elim⟩
  ·have fz:Fz ⟨P,w,K,tb,[]⟩ (fun _=>none) a:=⟨rfl,by simp⟩
   rcases hS with (h|⟨o,h⟩)|h
   ·exact .b5 fz h
   ·exact .bf fz h
   ·exact .b6 h
  ·subst h
   rw [cR r]
   exact q H' fun p hp=>let ⟨ps,e,_⟩:=x.mz.lams p hp;⟨ps,e⟩
def Keeps (M0 M:Mh):Prop:=∀a o,M0 a=some o->M a=some o
theorem Keeps.refl {M0:Mh}:Keeps M0 M0:=fun _ _ h=>h
theorem Keeps.upd {M0 M:Mh} {a:ag} {o:Mo} (ha:M0 a=none) (h:Keeps M0 M):Keeps M0 (aq M a o):=fun b u e=>by
 rw [af (fun z=>by rw [z,ha] at e;cases e)]
 exact h b u e
theorem yB {M0 M:Mh} {Q:ZK} {d:Dv} (h:Keeps M0 M) (p:Pin M0 d) (q:Q d M0):iJ M0 Q d M:=.inr ⟨h,d,.pin p,q⟩
theorem pY {M0 M:Mh} {Q:ZK} {a:ag} {ds:List Dv} (h:Keeps M0 M) (h0:M0 a=none) (ha:M a=some (.lst ds)) (p:∀d∈ds,Pin M0 d) (q:Q (.lst ds) M0):iJ M0 Q (.ptr a) M:=.inr ⟨h,.lst ds,.ptr h0 ha rfl fun i d d' e e'=>by
 rw [e] at e'
 cases e'
 exact .pin (p d (db e)),q⟩
theorem aZ {lo:Int} {n i:Nat} {d:Dv} (h:(bJ lo n)[i]?=some d):d=.int (lo+(i:Nat))/\i<n :=by
 unfold bJ at h
 rw [ca] at h
 cases e:(io n)[i]? with
 |none=>rw [e] at h;cases h
 |some k=>
  rw [e] at h
  obtain ⟨h1,h2⟩:=bv.mp e
  rw [List.getElem_range] at h2
  subst h2
  exact ⟨(hX h).symm,by simpa using h1⟩
theorem n6 {lo:Int} {n:Nat} {d:Dv} (h:d∈bJ lo n):∃i:Nat,i<n/\d=.int (lo+(i:Nat)) :=by
 obtain ⟨i,hi⟩:=l7.mp h
 obtain ⟨e,l⟩:=aZ hi
 exact ⟨i,l,e⟩
theorem rangeD_len (lo:Int) (n:Nat):(bJ lo n).length=n :=by simp [bJ]
theorem jZ {tt:cm} (t:Dv->Bool) {τ:av}:∀{ds:List Dv} {x:Option Dv} {M:Mh} {Q:List Dv->Mh->Prop},(∀d∈ds,∀R:Bool->Mh->Prop,R (t d) M->tt (some d::τ) M R)->Q (ds.filter t) M->e7 (zgName 0) tt (zVar 0) ds (x::τ) M Q
 | [],x,M,Q,_,q=>q
 |d::ds,x,M,Q,h,q=>by
          refine h d i8 _ ?_
          cases e:t d with
          |true=>
           rw [LG,if_pos e] at q
           exact jZ t (Q:=fun ys M5=>Q (d::ys) M5) (fun d' hd=>h d' (gc _ hd)) q
          |false=>
           rw [LG,if_neg (by rw [e];decide)] at q
           exact jZ t (fun d' hd=>h d' (gc _ hd)) q
theorem atI_zero {α:Type} {x:α} {xs:List α}:bW (x::xs) 0=some x:=bU (j:=0) rfl
theorem GO {α:Type} {f:α->Dv} {xs:List α} {k:Nat} {d:Dv} (h:(xs.map f)[k]?=some d):∃x,xs[k]?=some x/\d=f x :=by
 rw [ca,kt] at h
 obtain ⟨x,h,e⟩:=h
 exact ⟨x,h,e.symm⟩
end L2
namespace L2
open PySem PySem.Spec PyProof.Rows
theorem yC {M:Model} {A:l8} {E:ap->bi->Prop} {s:bi} {scope:rb} {globals:ag} {cl:List (br×ag)} {qual:br} {env:Cc} {Q:Cc->bi->Prop}
  (h:Q (newEnv scope s.heap.objs.size globals (cellsFrom (s.heap.objs.size+1) scope.names cl) qual none .none (some env) builtinsNs) {s with heap:=pushCells (s.heap.push {cls:=.type "dict",data:=.dict #[]}) scope.names}) :
  wpAny M A (newFunctionEnv scope globals cl [] qual none .none (some env)) Q E s :=by
 simp only [newFunctionEnv,Option.isSome_some,if_true]
 refine ba (wpAny_alloc ?_)
 refine ba (wpAny_layCells _ (fun name kind cells=>by cases M9:kind==Mn <;> simp [M9]) _ _ _ _ ?_)
 rw [show ({s with heap:=s.heap.push {cls:=.type "dict",data:=.dict #[]}}:bi).heap.objs.size=s.heap.objs.size+1 from AT ..]
 exact ce h
theorem iK:∀(names:List (br×LB)) (h:gl) (cl:List (br×ag)) (x:br) (c:ag),(cellsFrom h.objs.size names cl).lookup x=some c->
  ((x,Mn)∈names/\h.objs.size<=c/\(pushCells h names).IsCell c none)\/((∀k,(x,k)∈names->k≠.cell)/\cl.lookup x=some c)
 | [],h,cl,x,c,e=>.inr ⟨fun k z=>by simp at z,e⟩
 |(n,k)::r,h,cl,x,c,e=>by
          unfold cellsFrom at e
          unfold pushCells
          split at e
          ·rename_i hk
           have F1:k=.cell :=by simpa using hk
           subst F1
           rw [if_pos hk]
           have sz:(h.push {cls:=.type "cell",data:=.cell none}).objs.size=h.objs.size+1:=AT ..
           rw [<- sz] at e
           rcases iK r _ _ x c e with ⟨a,b,d⟩|⟨a,b⟩
           ·exact .inl ⟨gc _ a,by omega,d⟩
           ·rw [xp] at b
            cases hx:x==n with
            |true=>
             rw [hx] at b
             cases b
             have e2:x=n :=by simpa using hx
             subst e2
             exact .inl ⟨i8,c8 _,⟨_,QM r _ _ _ (i1 _ rfl),rfl⟩⟩
            |false=>
             rw [hx] at b
             refine .inr ⟨fun k2 z=>?_,b⟩
             rcases lc.mp z with q|q
             ·cases q;simp at hx
             ·exact a k2 q
          ·rename_i hk
           rw [if_neg hk]
           rcases iK r h cl x c e with ⟨a,b,d⟩|⟨a,b⟩
           ·exact .inl ⟨gc _ a,b,d⟩
           ·refine .inr ⟨fun k2 z=>?_,b⟩
            rcases lc.mp z with q|q
            ·cases q;intro z;subst z;exact hk rfl
            ·exact a k2 q
theorem cells_apart:∀(names:List (br×LB)) (h:gl) (cl:List (br×ag)) (x y:br) (c:ag),(∀n c,cl.lookup n=some c->c<h.objs.size)->(∀x y c,cl.lookup x=some c->cl.lookup y=some c->x=y)->(cellsFrom h.objs.size names cl).lookup x=some c->(cellsFrom h.objs.size names cl).lookup y=some c->x=y
 | [],h,cl,x,y,c,_,inj,e,e'=>inj x y c e e'
 |(n,k)::r,h,cl,x,y,c,lt,inj,e,e'=>by
          unfold cellsFrom at e e'
          split at e
          ·rename_i hk
           rw [if_pos hk] at e'
           have sz:(h.push {cls:=.type "cell",data:=.cell none}).objs.size=h.objs.size+1:=AT ..
           rw [<- sz] at e e'
           refine cells_apart r _ _ x y c (fun m d z=>?_) (fun x y d a b=>?_) e e'
           ·rw [sz]
            rw [xp] at z
            cases hm:m==n with
            |true=>rw [hm] at z;cases z;exact FF _
            |false=>rw [hm] at z;exact BN (lt m d z)
           ·rw [xp] at a b
            have old:∀z,cl.lookup z=some h.objs.size->False:=fun z q=>absurd (lt _ _ q) (AN _)
            cases hx:x==n with
            |true=>
             rw [hx] at a
             cases a
             cases hy:y==n with
             |true=>rw [show x=n by simpa using hx,show y=n by simpa using hy]
             |false=>rw [hy] at b;exact (old y b).elim
            |false=>
             rw [hx] at a
             cases hy:y==n with
             |true=>rw [hy] at b;cases b;exact (old x a).elim
             |false=>rw [hy] at b;exact inj x y d a b
          ·rename_i hk
           rw [if_neg hk] at e'
           exact cells_apart r h cl x y c lt inj e e'
theorem jc:∀(names:List (br×LB)) (n:Nat) (cl:List (br×ag)) (x:br),((x,Mn)∈names\/∃c,cl.lookup x=some c)->∃c,(cellsFrom n names cl).lookup x=some c
 | [],n,cl,x,h=>by
          rcases h with h|h
          ·simp at h
          ·exact h
 |(y,k)::r,n,cl,x,h=>by
          unfold cellsFrom
          split
          ·rename_i hk
           refine jc r _ _ x ?_
           by_cases e:x=y
           ·subst e
            exact .inr ⟨n,by rw [xp];simp⟩
           ·rcases h with h|⟨c,h⟩
            ·rcases lc.mp h with q|q
             ·cases q;exact absurd rfl e
             ·exact .inl q
            ·exact .inr ⟨c,by rw [xp,show (x==y)=false by simpa using e];exact h⟩
          ·rename_i hk
           refine jc r _ _ x ?_
           rcases h with h|h
           ·rcases lc.mp h with q|q
            ·cases q;exact absurd rfl hk
            ·exact .inl q
           ·exact .inr h
theorem vU {X:Cx} {pins:List (ag×i4)} {σ:St} {H:Hp} {s:bi} (I:Inv X pins σ H s) {x:br} {c:ag} (h:X.env.cells.lookup x=some c):c<s.heap.objs.size :=by
 obtain ⟨v,o,ho,_⟩:=I.cell x c h
 exact im ho
abbrev B7 (X:Cx) (N':List br) (scope:rb) (cl:List (br×ag)) (C:ag) (s:bi) (H:Hp) (fp:List ag) (own:br->Bool):Cx:={uw X N' scope cl C s H fp with fn:=own}
def cS (N:List br) (sc scope:rb) (N':List br) (tn:Nat) (idx:List Nat):Prop:=
 scope.kind=.function/\(∀y∈scope.names,(y.2=.cell->scope.names.lookup y.1=some .cell)/\(y.2=.local->scope.names.lookup y.1=some .local)/\(y.2=.free->sc.names.lookup y.1=some .cell\/sc.names.lookup y.1=some .free)) /\
  N'.length=tn+idx.length/\∀p∈idx.zip (N'.drop tn),N[p.1]?=some p.2/\scope.names.lookup p.2=some .free
instance (N:List br) (sc scope:rb) (N':List br) (tn:Nat) (idx:List Nat):Decidable (cS N sc scope N' tn idx) :=by unfold cS;infer_instance
theorem cS.at {N:List br} {sc scope:rb} {N':List br} {tn:Nat} {idx:List Nat} (B:cS N sc scope N' tn idx) {σ:St} {i:Nat} {x:br} {v:V} (h1:N'[i]?=some x) (h2:(bb tn idx σ)[i]?=some (some v)) :
  scope.names.lookup x=some .free/\∃j:Nat,N[j]?=some x/\σ[j]?=some (some v) :=by
 obtain ⟨_,_,b3,b4⟩:=B
 unfold bb at h2
 by_cases hi:i<tn
 ·rw [ol (by simpa using hi),Fa,if_pos hi] at h2
  cases h2
 ·rw [r9 (by simpa using hi),ID,ca] at h2
  cases e:idx[i - tn]? with
  |none=>rw [e] at h2;cases h2
  |some k=>
   rw [e] at h2
   have h3:(σ[k]?).join=some v:=hX h2
   have e2:(N'.drop tn)[i - tn]?=some x :=by
    rw [Qb]
    have:tn+(i - tn)=i :=by omega
    rw [this];exact h1
   have m:(k,x)∈idx.zip (N'.drop tn) :=by
    refine db (i:=i - tn) ?_
    rw [JJ]
    exact ⟨e,e2⟩
   obtain ⟨a,b⟩:=b4 _ m
   refine ⟨b,k,a,?_⟩
   cases q:σ[k]? with
   |none=>rw [q] at h3;cases h3
   |some w=>rw [q] at h3;exact congrArg some h3
theorem cS.len {N:List br} {sc scope:rb} {N':List br} {tn:Nat} {idx:List Nat} (B:cS N sc scope N' tn idx) (σ:St):(bb tn idx σ).length=N'.length :=by
 rw [B.2.2.1]
 unfold bb
 simp
def fc (scope:rb) (x:br):Bool:=scope.names.lookup x==some .cell
abbrev f9 (X:Cx) (N':List br) (scope:rb) (P:Cx->Prop):Prop:=∀(cl:List (br×ag)) (C:ag) (s:bi) (H:Hp) (fp:List ag),P (B7 X N' scope cl C s H fp (fc scope))
theorem vV {X:Cx} {pins:List (ag×i4)} {σ aF:St} {H H':Hp} {s:bi} {N':List br} {scope:rb} {cs:List (br×ag)} {C:ag} {ex:List ag} {h1:gl} {m0:br->Option ap} {g':Array Pe} {tk:Nat}
  (I:Inv X pins σ H s) (ly:scope.kind=.function)
  (dO:∀n c,cs.lookup n=some c->(fc scope n=true/\C<c/\h1.IsCell c none/\H' c=none)\/(fc scope n=false/\X.env.cells.lookup n=some c))
  (LO:∀x y c,cs.lookup x=some c->cs.lookup y=some c->x=y)
  (mE:∀x,((relabel scope X.env).names.lookup x=some .cell\/(relabel scope X.env).names.lookup x=some .free)->∃c,cs.lookup x=some c)
  (hC:s.heap.objs.size<=C) (hf:∀b∈ex,cG X pins H b) (vy:∀b∈ex,b<s.heap.objs.size)
  (xI:Un (dn X.stack) ex H H' s.heap h1) (hok:cg X.prog X.w H' h1) (rl:H' C=none) (nA:∀b o,s.heap.get? b=some o->h1.get? b=some o) (dU:h1.Ns C m0)
  (rn:∀(i:Nat) (x:br) (v:V),N'[i]?=some x->aF[i]?=some (some v)->fc scope x=false/\((relabel scope X.env).names.lookup x=some .cell\/(relabel scope X.env).names.lookup x=some .free)/\l0 X.env.scope x/\(X.env.kindOf x=some .cell\/X.env.kindOf x=some .free)/\∃j:Nat,X.N[j]?=some x/\σ[j]?=some (some v))
  (hlen:aF.length=N'.length) (hg:Gn s.gens.size g'):Inv (B7 X N' scope cs C s H ex (fc scope)) [] aF H' {s with heap:=h1,gens:=g',toks:=tk}:=by
 have xJ:∀b∈ex,∀x c,X.env.cells.lookup x=some c->c≠b:=fun b hb=>(hf b hb).2.2.2.2.1
 have Nb:∀b∈ex,∀x c,cs.lookup x=some c->c≠b:=fun b hb x c e z=>by
  rcases dO x c e with ⟨_,q,_⟩|⟨_,q⟩
  ·subst z;exact absurd (Pi (GS hC q) (vy _ hb)) (AN _)
  ·exact xJ b hb x c q z
 refine ⟨⟨I.ok.mod,ly,I.ok.glob,I.ok.blt,hC,LO,mE,fun x c hx e=>?_,fun z=>I.ok.hd z,I.ok.frames,.inl rfl,fun b hb=>⟨lw (kw (vy b hb) hC),fun x c e=>Nb b hb x c e⟩,
   I.bs,r6 I.ok.bsz I.sz,fun b o e hb=>?_,fun b hb z=>?_,I.stack,I.jr⟩,rfl,hg,xI,⟨m0,dU,fun i x v e1 e2 e3=>?_⟩,fun x c e=>?_,rl,fun x c e=>?_,fun p hp=>absurd (show p∈([]:List (ag×i4)) from hp) (by simp),hok,hlen⟩
 ·rcases dO x c e with ⟨_,q,_⟩|⟨q,_⟩
  ·exact Gc (GS hC q)
  ·have kD:fc scope x=true:=hx
   rw [q] at kD;cases kD
 ·rcases (hf b hb).2.2.2.1 with z|z
  ·exact I.ok.noex b o e z
  ·exact absurd (kw (im e) (r6 I.ok.bsz z)) (AN _)
 ·rcases lc.mp (I.eL b z) with q|q
  ·exact (hf b hb).2.1 q
  ·exact (hf b hb).2.2.1 q
 ·obtain ⟨k0,k1,vx,k2,j,n1,n2⟩:=rn i x v e1 e2
  obtain ⟨m,hn,hl⟩:=I.loc
  obtain ⟨u,r,l⟩:=hl j x v n1 n2 vx
  refine ⟨u,r,.inr ⟨k1,?_⟩⟩
  obtain ⟨c',xK⟩:=mE x k1
  rcases l with ⟨kl,_⟩|⟨_,c,ec,z⟩
  ·rcases k2 with q|q <;> (rw [kl] at q;cases q)
  ·rcases dO x c' xK with ⟨q,_⟩|⟨_,q⟩
   ·rw [k0] at q;cases q
   ·have:c'=c:=hX (q.symm.trans ec)
    subst this
    exact ⟨c',xK,z.keeps nA⟩
 ·rcases dO x c e with ⟨_,_,q,_⟩|⟨_,q⟩
  ·exact ⟨_,q⟩
  ·obtain ⟨v,z⟩:=I.cell x c q
   exact ⟨v,z.keeps nA⟩
 ·rcases dO x c e with ⟨_,_,_,q⟩|⟨_,q⟩
  ·exact q
  ·obtain ⟨v,o,ho,hd⟩:=I.cell x c q
   exact xI.free c o ho (I.freeC x c q) fun z=>xJ c z x c q rfl
section
variable {X:Cx}
theorem compG_coreC {pins:List (ag×i4)} {σ:St} {H2:Hp} {s2:bi} {e tg iter:dL} {ifs:List dL} {scope:rb} {N':List br} {tn:Nat} {idx:List Nat} {g:TG} {tt:TT} {tb:ag->TB} {body:ap->Cc->Op Unit} {it:ag} {fp:List ag} {bN:Nat->gl->Prop} {J:It}
  {cl:List (br×ag)} {E:ap->bi->Prop} {RR:ap->ag->QU->bi->Prop} {Q:VK} {mk:Op ap} {O0:HO} {o0:i4}
  (FD:∀(Q:ap->bi->Prop),Q (.ref s2.heap.objs.size) {s2 with heap:=s2.heap.push o0}->wpAny (model X.prog X.w) X.A mk Q E s2) (xH:o0.isFreed=false)
  (FE:∀(H:Hp) (h1:gl),h1.get? s2.heap.objs.size=some o0->ObjOk X.prog X.w H h1 s2.heap.objs.size O0)
  (hc:X.calm=true) (B:cS X.N X.env.scope scope N' tn idx)
  (Ko:∀(D:ag),f9 X N' scope fun Y=>vA Y e tg iter ifs 0 (.ref D) (body (.ref D) Y.env))
  (hg:f9 X N' scope fun Y=>PG Y tg g) (ht:f9 X N' scope fun Y=>gW Y ifs tt) (hb:∀D,f9 X N' scope fun Y=>PB Y (body (.ref D) Y.env) (tb D))
  (I:Inv X pins σ H2 s2) (T:Turn X.prog X.w X.K tg J fp it bN) (st:bN 0 s2.heap) (f2:∀b∈fp,cG X pins H2 b)
  (cI:∀n c,cl.lookup n=some c->X.env.cells.lookup n=some c) (dM:∀n,(n,mo)∈scope.names->∃c,cl.lookup n=some c)
  (hq:∀D,H2 D=none->∃W:Nat->Nat->St->Hp->Prop,(∃m,W 0 m (bb tn idx σ) (upd H2 D O0))/\qI J g tt (tb D) (fun _ H'=>Q (.ref D) H') W)
  (rA:∀D C m s' H',Inv X pins σ H' s'->cG X pins H' C->s'.heap.Ns C m->Q (.ref D) H'->RR (.ref D) C (.ok .next) s') :
  wpAny (model X.prog X.w) X.A mk (fun acc jl=>wpAny (model X.prog X.w) X.A (newFunctionEnv scope X.env.globals cl [] X.env.qual none .none (some X.env)) (fun ix mF=>
   codeAny (model X.prog X.w) X.A (.compStart e 0 (.ref it) acc {ix with scope:=relabel scope X.env}) (RR acc ix.locals) mF) E jl) E s2 :=by
 obtain ⟨b1,b2,b3,b4⟩:=id B
 refine FD _ (yC ?_)
 dsimp only
 generalize hG:s2.heap.push o0=G
 have hC:G.objs.size=s2.heap.objs.size+1 :=by rw [<- hG,AT]
 generalize GP:pushCells (G.push {cls:=.type "dict",data:=.dict #[]}) scope.names=eG
 have kz:eG.Ns G.objs.size fun _=>none :=by rw [<- GP];exact (gl.Ns.new G (.type "dict")).keeps (QM _ _)
 have k7:∀b o,G.get? b=some o->eG.get? b=some o:=fun b o e=>by rw [<- GP];exact QM _ _ b o (ci _ e)
 have BK:s2.heap.objs.size≠G.objs.size :=by rw [hC];exact lw (FF _)
 have jO:s2.heap.objs.size<=G.objs.size :=by rw [hC];exact FM _
 have below:∀b,b<s2.heap.objs.size->b≠G.objs.size:=fun b hb=>by rw [hC];exact lw (BN hb)
 have old:∀b o,s2.heap.get? b=some o->eG.get? b=some o:=fun b o e=>k7 b o (hG▸ci _ e)
 have FH:eG.get? s2.heap.objs.size=some o0:=k7 _ _ (hG▸i1 _ xH)
 generalize my:cellsFrom (G.objs.size+1) scope.names cl=cs
 have B8:(G.push {cls:=.type "dict",data:=.dict #[]}).objs.size=G.objs.size+1:=AT ..
 have GQ:∀x,(x,Mn)∈scope.names->fc scope x=true:=fun x hx=>by
  unfold fc
  rw [(b2 _ hx).1 rfl]
  rfl
 have DC:∀x,(∀k,(x,k)∈scope.names->k≠Mn)->fc scope x=false:=fun x hx=>by
  unfold fc
  cases q:scope.names.lookup x with
  |none=>rfl
  |some k=>have:=hx k (rf q);simpa using this
 have look:∀x c,cs.lookup x=some c->(fc scope x=true/\G.objs.size<c/\eG.IsCell c none)\/(fc scope x=false/\cl.lookup x=some c):=fun x c e=>by
  rw [<- my,<- B8] at e
  rcases iK scope.names _ cl x c e with ⟨a,b,d⟩|⟨a,b⟩
  ·rw [GP] at d
   rw [B8] at b
   exact .inl ⟨GQ x a,b,d⟩
  ·exact .inr ⟨DC x a,b⟩
 have inj:∀x y c,cs.lookup x=some c->cs.lookup y=some c->x=y:=fun x y c e e'=>by
  rw [<- my,<- B8] at e e'
  refine cells_apart scope.names _ cl x y c (fun n d z=>?_) (fun x y d a b=>I.ok.inj x y d (cI x d a) (cI y d b)) e e'
  rw [B8,hC]
  exact BN (BN (vU I (cI n d z)))
 have xN:H2 s2.heap.objs.size=none:=I.hok.fresh (c8 _)
 have rl:upd H2 s2.heap.objs.size O0 G.objs.size=none :=by rw [ae (xy BK)];exact I.hok.fresh jO
 have Ae:cg X.prog X.w (upd H2 s2.heap.objs.size O0) eG:=I.hok.laid old (c8 _) (FE _ _ FH)
 have kb:∀b∈fp,b<s2.heap.objs.size:=fun b hb=>let ⟨o,e,_⟩:=T.obj _ _ st b hb;im e
 obtain ⟨W,⟨m0,w0⟩,turn⟩:=hq s2.heap.objs.size xN
 have I1:Inv (B7 X N' scope cs G.objs.size s2 H2 fp (fc scope)) [] (bb tn idx σ) (upd H2 s2.heap.objs.size O0) {s2 with heap:=eG,toks:=s2.toks}:=by
  refine vV (g':=s2.gens) (m0:=fun _=>none) I b1 (fun n c e=>?_) inj (fun x hx=>?_) jO f2 kb (Un.laid old (c8 _) xN) Ae rl old kz (fun i x v e1 e2=>?_) (B.len σ) I.bare.self
  ·rcases look n c e with ⟨o,a,b⟩|⟨o,a⟩
   ·refine .inl ⟨o,a,b,?_⟩
    have:c≠s2.heap.objs.size:=fun z=>by rw [z,hC] at a;exact absurd (Pi a (FF _)) (fun h=>by omega)
    rw [ae this]
    exact I.hok.fresh (Gc (GS jO a))
   ·exact .inr ⟨o,cI n c a⟩
  ·rw [dW] at hx
   rw [<- my]
   cases q:scope.names.lookup x with
   |none=>rw [q] at hx;rcases hx with z|z <;> cases z
   |some k0=>
    have hm:=rf q
    rw [q] at hx
    by_cases hk:k0=.free
    ·subst hk;exact jc _ _ _ _ (.inr (dM x hm))
    ·have nk:(k0==mo)=false :=by simpa using hk
     simp only [AE,nk,Pm,l4,if_false] at hx
     rcases hx with z|z
     ·have e0:k0=.cell:=hX z
      subst e0
      exact jc _ _ _ _ (.inl hm)
     ·exact absurd (hX z) hk
  ·obtain ⟨fr,j,e4,e5⟩:=B.at e1 e2
   have kx:=(b2 _ (rf fr)).2.2 rfl
   refine ⟨by unfold fc;rw [fr];rfl,?_,.inr kx,kx,j,e4,e5⟩
   rw [dW,fr]
   simp only [AE]
   split
   ·exact .inl rfl
   ·exact .inr rfl
 have stat:∀{H':Hp},(∀b∈fp,H' b=none)->∀b∈fp,cG (B7 X N' scope cs G.objs.size s2 H2 fp (fc scope)) [] H' b:=fun hn b hb=>by
  refine ⟨hn b hb,below b (kb b hb),fun z=>?_,.inl hb,(fun x c e=>by
   rcases look x c e with ⟨_,a,_⟩|⟨_,a⟩
   ·exact fun z=>absurd (Pi (GS jO (z▸a)) (kb b hb)) (AN _)
   ·exact (f2 b hb).2.2.2.2.1 x c (cI x c a)),fun p hp=>absurd (show p∈([]:List (ag×i4)) from hp) (by simp)⟩
  rcases lc.mp (I.eL b z) with q|q
  ·exact (f2 b hb).2.1 q
  ·exact (f2 b hb).2.2.1 q
 have xO:bN 0 eG:=T.keep _ _ _ st fun b _ o e=>old b o e
 refine nB (Ko _ cs G.objs.size s2 H2 fp) T xO (pG hc (fun _ _ z=>z) (Ko _ cs G.objs.size s2 H2 fp) (hg cs G.objs.size s2 H2 fp) (ht cs G.objs.size s2 H2 fp) (hb _ cs G.objs.size s2 H2 fp) T turn I1 xO (stat fun b hb=>by rw [ae (lw (kb b hb))];exact (f2 b hb).1) w0 fun bX H' s' I4 qn=>?_)
 have J2:Inv X pins σ H' s':=I.qF I4.os I4.base I4.hok I4.bare fun b hb=>⟨(f2 b hb).2.2.2.1,(f2 b hb).2.1,(f2 b hb).2.2.2.2.1,(f2 b hb).2.2.2.2.2⟩
 obtain ⟨mm,hm,_⟩:=I4.loc
 exact rA _ _ mm s' H' J2 (I.oy jO I4.free) hm qn
theorem vW {pins:List (ag×i4)} {σ:St} {H2:Hp} {s2:bi} {tg elt iter:dL} {ifs:List dL} {scope:rb} {pos:sB} {N':List br} {tn:Nat} {idx:List Nat} {g:TG} {tt:TT} {te:TE} {it:ag} {fp:List ag} {bN:Nat->gl->Prop} {J:It}
  {cl:List (br×ag)} {E:ap->bi->Prop} {RR:ap->ag->QU->bi->Prop} {Q:VK}
  (hc:X.calm=true) (B:cS X.N X.env.scope scope N' tn idx)
  (hg:f9 X N' scope fun Y=>PG Y tg g) (ht:f9 X N' scope fun Y=>gW Y ifs tt) (he:f9 X N' scope fun Y=>PE Y elt te)
  (I:Inv X pins σ H2 s2) (T:Turn X.prog X.w X.K tg J fp it bN) (st:bN 0 s2.heap) (f2:∀b∈fp,cG X pins H2 b)
  (cI:∀n c,cl.lookup n=some c->X.env.cells.lookup n=some c) (dM:∀n,(n,mo)∈scope.names->∃c,cl.lookup n=some c)
  (hq:∀D,H2 D=none->∃W:Nat->Nat->St->Hp->Prop,(∃m,W 0 m (bb tn idx σ) (upd H2 D (.lst [])))/\nF J g tt te D Q W)
  (rA:∀D C m s' H',Inv X pins σ H' s'->cG X pins H' C->s'.heap.Ns C m->Q (.ref D) H'->RR (.ref D) C (.ok .next) s') :
  wpAny (model X.prog X.w) X.A (newList []) (fun acc jl=>wpAny (model X.prog X.w) X.A (newFunctionEnv scope X.env.globals cl [] X.env.qual none .none (some X.env)) (fun ix mF=>
   codeAny (model X.prog X.w) X.A (.compStart (.ListComp elt [⟨tg,iter,ifs,0⟩] scope pos) 0 (.ref it) acc {ix with scope:=relabel scope X.env}) (RR acc ix.locals) mF) E jl) E s2:=
 compG_coreC (body:=fun acc env=>do let _ <- call (.builtin "list.append") [acc,<- eval elt env]) (tb:=fun D=>nC D te) (O0:=.lst []) (o0:={cls:=.type "list",dict:=none,data:=.seq ([]:List ap).toArray}) (fun Q q=>tz q) rfl (fun H h1 hd=>⟨sK _,[],0,.nil,hd⟩) hc B
  (fun D cl C s H fp=>⟨fun _=>rfl,fun _ _ _ _ h=>h,fun _=>rB ..,fun _ _ _ _ h=>h,rfl⟩) hg ht (fun D cl C s H fp=>ux (he cl C s H fp)) I T st f2 cI dM (fun D hD=>let ⟨W,hm,turn⟩:=hq D hD;⟨W,hm,nH turn⟩) rA
variable {tg elt iter:dL} {ifs:List dL} {scope:rb} {pos:sB} {N':List br} {tn:Nat} {idx:List Nat} {wi:TI} {g:TG} {tt:TT} {te:TE}
variable {Γ:Gz}
theorem t5 {i:Nat} {y:br} {py fD:sB} (hN:X.N.Nodup) (dP:X.N[i]?=some y) (hy:X.env.scope.names.lookup y=some .local) (hc:X.calm=true) (B:cS X.N X.env.scope scope N' tn idx) (hi:PI X tg iter wi)
  (hg:f9 X N' scope fun Y=>PG Y tg g) (ht:f9 X N' scope fun Y=>gW Y ifs tt) (he:f9 X N' scope fun Y=>PE Y elt te)
  (nJ:swapsWith (.ListComp elt [⟨tg,iter,ifs,0⟩] scope pos) (some (.Name y py)) fD.line X.env=pure true :=by rfl)
  (hs:∀x,foldedSetIterable iter X.env x=pure x :=by intro _;rfl):PS X (.Assign [.Name y py] (.ListComp elt [⟨tg,iter,ifs,0⟩] scope pos) fD) (ox (nG tn idx wi g tt te) (nj i)) :=by
 refine ⟨?_⟩
 intro pins s σ H D I h
 obtain ⟨cl,gr,cI,dM⟩:=fB (scope:=scope) (env:=X.env) fun n hn=>I.ok.has n ((B.2.1 _ hn).2.2 rfl)
 rw [exec_Assign_Name_used _ _ _ _ nJ]
 refine ba (AS (ba ?_))
 show wpAny _ X.A (do let _ <- comprehension (.ListComp elt [⟨tg,iter,ifs,0⟩] scope pos) scope X.env _ (newList []) false (eval iter X.env) (some (assign (.Name y py) X.env))) _ _ s
 refine ba (l9 (Ph (use:=some (assign (.Name y py) X.env)) (Q:=fun _ s'=>SP X pins D .next s') rfl hs gr B.1 (fun y hy=>(B.2.1 y hy).2.1)
  (l9 (hi pins s σ H _ I h) (fun xv s1 h1=>l9 h1 (fun uk s2 h2=>?_) fun _ _ z=>z) fun _ _ z=>z)) (fun _ s' hq=>ce (ce hq)) fun _ _ z=>z)
 obtain ⟨it,fp,bN,J,H2,e,I2,T,nq,f2,q2⟩:=h2
 subst e
 refine vW (RR:=fun acc C=>compPost (model X.prog X.w) X.A X.xe (some (assign (.Name y py) X.env)) (fun _ s'=>SP X pins D .next s') acc C) hc B hg ht he I2 T nq f2 cI dM q2 fun E C m s' H' J2 fC hm q=>?_
 show wpAny _ X.A (assign (.Name y py) X.env (.ref E)) _ _ s'
 refine Qh (store_ok2 J2 hN dP (.inl hy) (v:=.ref E) rfl (fun s3 J3 ⟨a,uy,ha⟩=>?_) (.inr hy))
 have mh:C≠a :=by
  rcases ha with z|z
  ·rw [z];exact fC.2.1
  ·exact fun w=>fC.2.2.2.2.1 _ _ z w.symm
 exact ⟨m,hm.sameBut uy mh,fun h' pJ=>⟨_,H',fC.turn J3 pJ,q⟩⟩
end
theorem AG {scope:rb} {env:Cc} {x:br} (h:scope.names.lookup x=some .cell\/scope.names.lookup x=some .free):(relabel scope env).names.lookup x=some .cell\/(relabel scope env).names.lookup x=some .free :=by
 rw [dW]
 rcases h with h|h
 ·rw [h];exact .inl rfl
 ·rw [h]
  simp only [AE]
  split
  ·exact .inl rfl
  ·exact .inr rfl
theorem aI.rel {N:List br} {sc scope:rb} {env:Cc} {N':List br} {tn:Nat} {idx:List Nat} (B:aI N sc scope N' tn idx):aI N (relabel sc env) scope N' tn idx:=
 ⟨B.1,fun y hy=>⟨(B.2.1 y hy).1,(B.2.1 y hy).2.1,fun z=>AG ((B.2.1 y hy).2.2 z)⟩,B.2.2.1,B.2.2.2⟩
end L2
namespace L2
open PySem PySem.Spec PySem.W PyProof.Rows
section
variable {X:Cx} {Γ:Gz} {β:Bz} {K:bn}
def zInI (neg:Bool):dr:=fun d e M Q=>match d,(itemsM M e).bind fL with | .int i,some ns=>Q (.bl (if neg then !decide (i∈ns) else decide (i∈ns))) M|_,_=>False
theorem su (i:Int):∀ns:List Int,xA (.int i) (ns.map V.int)=decide (i∈ns)
 | []=>by simp [xA]
 |n::ns=>by
          have ih:=su i ns
          unfold xA at ih ⊢
          rw [ss,OK,ih]
          simp only [nv]
          by_cases h:n=i
          ·subst h;simp
          ·have h':¬ i=n:=fun z=>h z.symm
           simp [h,h']
theorem DE {neg:Bool}:mr Γ (Fs K neg) (zInI neg):=fun β x y d e M H Q Q' _ _ _ m rx ry z q=>by
 unfold zInI at z
 split at z
 ·rename_i i ns dU
  obtain ⟨a,rfl,ha⟩:=pX m ry dU
  have ex:=aJ rx
  subst ex
  refine ⟨a,ns.map V.int,rfl,ha.imp bA.of cP.of,rfl,?_,?_⟩
  ·rw [u7]
   intro v hv
   obtain ⟨n,_,rfl⟩:=ma.mp hv
   rfl
  ·rw [su]
   exact q _ _ _ _ (.refl m) (.bl _) z
 ·exact z.elim
theorem AH (hK:X.K=K):dF Γ X (compareOp .In) (zInI false):=⟨_,vC hK,DE⟩
theorem Pin.mono {M M':Mh} {d:Dv} (h:Pin M d):(∀a,(M a).isSome=true->(M' a).isSome=true)->Pin M' d :=by
 intro k
 induction h with
 |int i=>exact .int i
 |bl b=>exact .bl b
 |ao=>exact .ao
 |str z=>exact .str z
 |tup h ih=>exact .tup ih
 |lst h ih=>exact .lst ih
 |dk h ih=>exact .dk ih
 |dt h ih=>exact .dt ih
 |bB h ih=>exact .bB ih
 |set ns=>exact .set ns
 |ptr h=>exact .ptr (k _ h)
 |exc C=>exact .exc C
 |bf ns=>exact .bf ns
 |raw v=>exact .raw v
def b7 (M:Mh) (a:ag):Mh:=fun b=>if b=a then none else M b
theorem cJ {M:Mh} {a:ag}:b7 M a a=none :=by unfold b7;rw [if_pos rfl]
theorem bG {M:Mh} {a b:ag} (h:b≠a):b7 M a b=M b :=by unfold b7;rw [if_neg h]
structure Froz (M1 M:Mh) (ρ:av):Prop where
 env:∀(i:Nat) (d:Dv),ρ[i]?=some (some d)->Pin M d
 obj:∀b o,M b=some o->M1 b=some o\/∀d∈o.items,Pin M d
theorem Zr.freeze {M:Mh} {ρ:av} {σ:St} {H:Hp} {i:Nat} {a:ag} {ds:List Dv} (z:Zr Γ β M ρ σ H) (hi:ρ[i]?=some (some (.ptr a))) (ha:M a=some (.lst ds)) (h0:Γ.M0 a=none) (fr:Froz Γ.M0 (b7 M a) (ρ.set i (some (.lst ds)))) :
  Zr Γ β (b7 M a) (ρ.set i (some (.lst ds))) σ H/\Ev β M H (b7 M a) H :=by
 have rz:∀{v:V} {d:Dv},Rz β M H v d->Pin (b7 M a) d->Rz β (b7 M a) H v d:=fun r p=>r.jX (M0:=b7 M a) (fun b hb=>by
  by_cases e:b=a
  ·rw [e,cJ] at hb;cases hb
  ·rw [bG e] at hb;exact hb) p
 have pZ:i<ρ.length:=(bv.mp hi).1
 have Nc:∀d∈ds,Pin (b7 M a) d:=fun d hd=>by
  have:=fr.env i (.lst ds) (by rw [Pv pZ])
  cases this with|lst h=>exact h d hd
 have obj:∀b es,b7 M a b=some es->∀d∈es.items,Pin (b7 M a) d:=fun b es e d hd=>by
  rcases fr.obj b es e with q|q
  ·refine (z.wf b es q d hd).mono fun c hc=>?_
   have nc:c≠a:=fun w=>by rw [w,h0] at hc;cases hc
   rw [bG nc]
   exact z.ent.dom c hc
  ·exact q d hd
 have mz:Mz β (b7 M a) H :=by
  refine ⟨fun b o e=>?_,z.mz.tabs,z.mz.hids,fun b o e=>?_,z.mz.lams⟩
  ·have nb:b≠a:=fun q=>by rw [q,cJ] at e;cases e
   have e':M b=some o :=by rw [bG nb] at e;exact e
   have q:=z.mz.obj b o e'
   cases o with
   |lst es=>obtain ⟨vs,hv,rs⟩:=q;exact ⟨vs,hv,rs.len,fun j v d x y=>rz (rs.at' j v d x y) (obj b _ e d (db y))⟩
   |dk ks es=>obtain ⟨vs,hv,hk,rs⟩:=q;exact ⟨vs,hv,hk,rs.len,fun j v d x y=>rz (rs.at' j v d x y) (obj b _ e d (db y))⟩
   |dt ks es=>obtain ⟨vs,hv,hk,rs⟩:=q;exact ⟨vs,hv,hk,rs.len,fun j v d x y=>rz (rs.at' j v d x y) (obj b _ e d (db y))⟩
   |bZ=>exact q
  ·have nb:b≠a:=fun q=>by rw [q,cJ] at e;cases e
   rw [bG nb] at e
   exact z.mz.apart b o e
 refine ⟨⟨z.eP,z.ew,z.eK,z.et,z.sub,z.wf,⟨z.ent.keep,fun b hb=>?_,fun b o m h=>?_⟩,mz,by simp [z.len],fun j d e=>?_⟩,⟨fun b o _ h=>.inl h,fun b o m h=>?_,mz⟩⟩
 ·have nb:b≠a:=fun q=>by rw [q,h0] at hb;cases hb
  rw [bG nb];exact z.ent.dom b hb
 ·by_cases e:b=a
  ·rw [e,cJ]
  ·rw [bG e];exact z.ent.new b o m h
 ·have p:=fr.env j d e
  rw [BS] at e
  split at e
  ·rename_i q
   subst q
   first
    |cases e
    |(rw [if_pos pZ] at e;cases e)
   obtain ⟨v,hv,r⟩:=z.at' i _ hi
   obtain ⟨rfl,_⟩:=a9 r
   obtain ⟨vs,hl,rs⟩:=z.mz.obj a _ ha
   refine ⟨_,hv,.lst ⟨cJ,z.mz.apart a _ ha⟩ hl rs.len fun k v d x y=>rz (rs.at' k v d x y) (Nc d (db y))⟩
  ·obtain ⟨v,hv,r⟩:=z.at' j d e
   exact ⟨v,hv,rz r p⟩
 ·by_cases e:b=a
  ·rw [e,cJ]
  ·rw [bG e];exact m
def LQ (i:Nat) (M0:Mh) (p:bH):bH:=fun D ρ M=>p D ρ M\/∃a ds,ρ[i]?=some (some (.ptr a))/\M a=some (.lst ds)/\M0 a=none/\Froz M0 (b7 M a) (ρ.set i (some (.lst ds)))/\p D (ρ.set i (some (.lst ds))) (b7 M a)
theorem GR (i:Nat) {M1:Mh} {st:nw} {p:bH} (hM:Γ.M0=M1) (h:QS Γ X st p):QS Γ X st (LQ i M1 p):=h.imp fun D σ H ⟨β,ρ,M,D',zr,h,r⟩=>by
 rcases h with h|⟨a,ds,hi,ha,h0,fr,h⟩
 ·exact ⟨β,ρ,M,D',zr,h,r⟩
 ·obtain ⟨z2,e2⟩:=zr.freeze hi ha (by rw [hM];exact h0) (by rw [hM];exact fr)
  exact ⟨β,_,_,D',z2,h,r.step e2⟩
end
section
variable {X:Cx} {Γ:Gz} {β:Bz}
inductive kh:Dv->Prop where
 |int (i:Int):kh (.int i)
 |bl (b:Bool):kh (.bl b)
 |ao:kh .ao
 |str (z:br):kh (.str z)
 |ptr (a:ag):kh (.ptr a)
 |tup {ds:List Dv} (h:∀d∈ds,kh d):kh (.tup ds)
theorem Rz.grow {M:Mh} {H:Hp} {a:ag} {us:List V} (ha:H a=some (.lst us)) {v:V} {d:Dv} (h:Rz β (b7 M a) H v d):kh d->Rz β M H v d :=by
 induction h with
 |int i=>exact fun _=>.int i
 |bl b=>exact fun _=>.bl b
 |ao=>exact fun _=>.ao
 |str z=>exact fun _=>.str z
 | @tup p vs ds m e hl h ih=>
  intro n
  cases n with
  |tup n=>
   have hp:p≠a:=fun z=>by rw [z,ha] at e;cases e
   exact .tup ⟨by have:=m.1;rw [bG hp] at this;exact this,m.2⟩ e hl fun i v d x y=>ih i v d x y (n d (db y))
 | @ptr p m=>
  intro _
  refine .ptr ?_
  by_cases z:p=a
  ·rw [z,cJ] at m;cases m
  ·rw [bG z] at m;exact m
 |_=>intro n;cases n
open Classical in
end
end L2
namespace L2
open PySem PySem.Spec PyProof.Rows
section
variable {κ:Type} [DecidableEq κ] {α:Type}
def look:List κ->List α->κ->Option α
 |k::ks,d::ds,x=>if k=x then some d else look ks ds x
 |_,_,_=>none
def gy:List κ->List α->κ->α->List α
 |k::ks,d::ds,x,y=>(if k=x then y else d)::gy ks ds x y
 |_,_,_,_=>[]
def putL (ks:List κ) (k:κ):List κ:=if k∈ks then ks else ks++[k]
def fe (ks:List κ) (ds:List α) (k:κ) (d:α):List α:=if k∈ks then gy ks ds k d else ds++[d]
theorem gJ {x:κ}:∀{ks:List κ} {ds:List α},ks.length=ds.length->(look ks ds x=none ↔ x ∉ ks)
 | [],[],_=>by simp [look]
 |k::ks,d::ds,h=>by
          have ih:=gJ (x:=x) (ks:=ks) (ds:=ds) (by simpa using h)
          unfold look
          by_cases e:k=x
          ·simp [e]
          ·rw [if_neg e,ih,lc]
           constructor
           ·rintro a (b|b)
            ·exact e b.symm
            ·exact a b
           ·exact fun a b=>a (.inr b)
 | [],_::_,h=>by simp at h
 |_::_,[],h=>by simp at h
theorem mR (x:κ):∀(ks:List κ) (vs:List V),gS (ks.zip vs) x=look ks vs x
 | [],vs=>by cases vs <;> rfl
 |_::_,[]=>rfl
 |k::ks,v::vs=>by
          rw [No]
          unfold look
          by_cases e:k=x
          ·rw [if_pos e];exact jP (p:=(k,v)) e
          ·rw [if_neg e,jQ (p:=(k,v)) e];exact mR x ks vs
theorem sv (x:κ):∀(ks:List κ) (ds:List α) {d:α},look ks ds x=some d->∃i:Nat,ks[i]?=some x/\ds[i]?=some d/\∀{β:Type} (es:List β),look ks es x=es[i]?
 | [],ds,d,h=>by cases ds <;> cases h
 |_::_,[],d,h=>by cases h
 |k::ks,e::ds,d,h=>by
          unfold look at h
          by_cases q:k=x
          ·rw [if_pos q] at h
           cases h
           refine ⟨0,by rw [q];rfl,rfl,fun es=>?_⟩
           cases es with
           |nil=>rfl
           |cons a es=>unfold look;rw [if_pos q];rfl
          ·rw [if_neg q] at h
           obtain ⟨i,a,b,c⟩:=sv x ks ds h
           refine ⟨i+1,a,b,fun es=>?_⟩
           cases es with
           |nil=>rfl
           |cons y es=>unfold look;rw [if_neg q,c es];rfl
theorem k8 (x:κ):∀(ks:List κ) (ds:List α) {β:Type} (es:List β),ds.length=es.length->look ks ds x=none->look ks es x=none
 | [],ds,_,es,_,_=>by cases es <;> rfl
 |_::_,[],_,es,h,_=>by cases es with
  |nil=>rfl
  |cons _ _=>simp at h
 |k::ks,d::ds,_,[],h,_=>by simp at h
 |k::ks,d::ds,_,e::es,h,q=>by
          unfold look at q ⊢
          by_cases z:k=x
          ·rw [if_pos z] at q;cases q
          ·rw [if_neg z] at q ⊢
           exact k8 x ks ds es (by simpa using h) q
theorem p0 (x:κ) (y:α):∀(ks:List κ) (ds:List α),ks.length=ds.length->(gy ks ds x y).length=ds.length
 | [],[],_=>rfl
 |k::ks,d::ds,h=>by unfold gy;rw [LF,p0 x y ks ds (by simpa using h)];rfl
 | [],_::_,h=>by simp at h
 |_::_,[],h=>by simp at h
theorem sx {ks:List κ} {ds:List α} (h:ks.length=ds.length) (k:κ) (d:α):(putL ks k).length=(fe ks ds k d).length :=by
 unfold putL fe
 split
 ·rw [p0 _ _ _ _ h,h]
 ·simp [h]
theorem p7 (x:κ) (y:V):∀(ks:List κ) (vs:List V),ks.length=vs.length->(ks.zip vs).map (fun kv=>if kv.1=x then (kv.1,y) else kv)=ks.zip (gy ks vs x y)
 | [],[],_=>rfl
 |k::ks,d::ds,h=>by
          unfold gy
          rw [No,No,ss,p7 x y ks ds (by simpa using h)]
          congr 1
          dsimp only
          split <;> rfl
 | [],_::_,h=>by simp at h
 |_::_,[],h=>by simp at h
theorem uP {ks:List κ} {vs:List V} (h:ks.length=vs.length) (k:κ) (v:V):putK (ks.zip vs) k v=(putL ks k).zip (fe ks vs k v) :=by
 have e:((ks.zip vs).any fun kv=>decide (kv.1=k))=decide (k∈ks) :=by
  rw [mK,mR]
  cases q:look ks vs k with
  |none=>exact (decide_eq_false ((gJ h).mp q)).symm
  |some x=>
   have hm:k∈ks:=Classical.byContradiction fun z=>by rw [(gJ h).mpr z] at q;cases q
   rw [decide_eq_true hm];rfl
 unfold putK putL fe
 rw [e]
 by_cases q:k∈ks
 ·rw [if_pos (decide_eq_true q),if_pos q,if_pos q]
  exact p7 k v ks vs h
 ·rw [if_neg (by rw [decide_eq_false q];exact ge),if_neg q,if_neg q,List.zip_append h]
  rfl
end
section
variable {β:Bz} {M:Mh} {H:Hp} {κ:Type} [DecidableEq κ]
theorem qa (x:κ) {v:V} {d:Dv} (r:Rz β M H v d):∀(ks:List κ) (vs:List V) (ds:List Dv),aE β M H vs ds->aE β M H (gy ks vs x v) (gy ks ds x d)
 | [],_,_,_=>by
          unfold gy;exact .nil
 |_::_,[],[],_=>.nil
 |_::_,[],_::_,h=>absurd h.len (by simp)
 |_::_,_::_,[],h=>absurd h.len (by simp)
 |k::ks,u::vs,e::ds,h=>by
          unfold gy
          refine .cons ?_ (qa x r ks vs ds h.tail)
          split
          ·exact r
          ·exact h.head
theorem sy (x:κ) {v:V} {d:Dv} (r:Rz β M H v d) {ks:List κ} {vs:List V} {ds:List Dv} (h:aE β M H vs ds):aE β M H (fe ks vs x v) (fe ks ds x d) :=by
 unfold fe
 split
 ·exact qa x r ks vs ds h
 ·exact h.snoc r
theorem sA {ks:List κ} {vs:List V} {ds:List Dv} (rs:aE β M H vs ds) {x:κ} {o:Option Dv} (h:look ks ds x=o):∃ov,gS (ks.zip vs) x=ov/\ov.isSome=o.isSome/\∀r,o=some r->∃v,ov=some v/\Rz β M H v r :=by
 rw [mR]
 cases o with
 |none=>exact ⟨none,k8 x ks ds vs rs.len.symm h,rfl,fun r e=>nomatch e⟩
 |some r=>
  obtain ⟨i,a,b,c⟩:=sv x ks ds h
  obtain ⟨v,hv,rv⟩:=rs.get b
  exact ⟨some v,(c vs).trans hv,rfl,fun r' e=>by cases e;exact ⟨v,rfl,rv⟩⟩
end
def keyD:Dv->Option Key
 | .int i=>some (.inl i)
 | .str z=>some (.inr z)
 |_=>none
def lK:List Dv->Option (List Key)
 | []=>some []
 |d::ds=>match keyD d,lK ds with|some k,some ks=>some (k::ks)|_,_=>none
def nowK (M:Mh):Dv->Dv
 | .ptr a=>match M a with|some (.dk ks ds)=>.dk ks ds|some (.dt ks ds)=>.dt ks ds|_=>.ptr a
 |d=>d
def lookD (M:Mh) (d e:Dv):Option (Option Dv):=match nowK M d with
 | .dk ks ds=>(match keyD e with|some k=>some (look ks ds k)|none=>none)
 | .dt ks ds=>(match e with | .tup es=>(match lK es with|some k=>some (look ks ds k)|none=>none)|_=>none)
 |_=>none
section
variable {X:Cx} {Γ:Gz} {β:Bz} {K:bn} {M:Mh} {H:Hp}
theorem lL {y:V} {e:Dv} {k:Key} (r:Rz β M H y e) (h:keyD e=some k):y=kV k :=by
 cases e with
 |int i=>cases h;exact aJ r
 |str z=>cases h;exact cL r
 |_=>cases h
theorem j0:∀{es:List Dv} {ks:List Key} {vs:List V},aE β M H vs es->lK es=some ks->vs=ks.map kV
 | [],ks,vs,rs,h=>by
          cases h
          cases vs with
          |nil=>rfl
          |cons _ _=>exact absurd rs.len (by simp)
 |e::es,ks,[],rs,h=>absurd rs.len (by simp)
 |e::es,ks,v::vs,rs,h=>by
          unfold lK at h
          split at h
          ·rename_i k Kp h1 h2
           cases h
           rw [ss,lL rs.head h1,j0 rs.tail h2]
          ·cases h
theorem uQ (m:Mz β M H) {x:V} {d:Dv} (r:Rz β M H x d):(∀ks ds,nowK M d=.dk ks ds->∃a vs,x=.ref a/\Rd H a (.dK (ks.zip vs))/\ks.length=vs.length/\aE β M H vs ds) /\
  (∀ks ds,nowK M d=.dt ks ds->∃a vs,x=.ref a/\Rd H a (.dT (ks.zip vs))/\ks.length=vs.length/\aE β M H vs ds) :=by
 cases r with
 |dk f e hk hl h=>exact ⟨fun ks ds q=>(by cases q;exact ⟨_,_,rfl,e,hk,hl,h⟩),fun ks ds q=>by cases q⟩
 |dt f e hk hl h=>exact ⟨fun ks ds q=>(by cases q),fun ks ds q=>by cases q;exact ⟨_,_,rfl,e,hk,hl,h⟩⟩
 | @ptr a hs=>
  simp only [nowK]
  cases q2:M a with
  |none=>rw [q2] at hs;cases hs
  |some o=>
   have q:=m.obj a o q2
   cases o with
   |dk ks ds=>obtain ⟨vs,e,hk,rs⟩:=q;exact ⟨fun ks ds q=>(by cases q;exact ⟨_,_,rfl,.inl e,hk,rs⟩),fun ks ds q=>by cases q⟩
   |dt ks ds=>obtain ⟨vs,e,hk,rs⟩:=q;exact ⟨fun ks ds q=>(by cases q),fun ks ds q=>by cases q;exact ⟨_,_,rfl,.inl e,hk,rs⟩⟩
   |_=>exact ⟨fun ks ds q=>(by cases q),fun ks ds q=>by cases q⟩
 |_=>exact ⟨fun ks ds q=>(by cases q),fun ks ds q=>(by cases q)⟩
theorem sC (m:Mz β M H) {x y:V} {d e:Dv} {o:Option Dv} (r:Rz β M H x d) (re:Rz β M H y e) (h:lookD M d e=some o):∃a ov,x=.ref a/\mL H a y ov/\ov.isSome=o.isSome/\∀r,o=some r->∃v,ov=some v/\Rz β M H v r :=by
 unfold lookD at h
 obtain ⟨h1,h2⟩:=uQ m r
 split at h
 ·rename_i ks ds q
  obtain ⟨a,vs,rfl,ha,hk,rs⟩:=h1 ks ds q
  split at h
  ·rename_i k sD
   rw [lL re sD]
   obtain ⟨ov,e1,e2,e3⟩:=sA rs (hX h)
   subst e1
   exact ⟨a,_,rfl,.inl ⟨_,k,ha,rfl,rfl⟩,e2,e3⟩
  ·cases h
 ·rename_i ks ds q
  obtain ⟨a,vs,rfl,ha,hk,rs⟩:=h2 ks ds q
  split at h
  ·split at h
   ·rename_i k sD
    obtain ⟨b,us,rfl,_,hb,ru⟩:=dq re
    rw [j0 ru sD] at hb
    obtain ⟨ov,e1,e2,e3⟩:=sA rs (hX h)
    subst e1
    exact ⟨a,_,rfl,.inr ⟨_,k,b,ha,rfl,hb,rfl⟩,e2,e3⟩
   ·cases h
  ·cases h
 ·cases h
def zGetR:dr:=fun d e M Q=>match lookD M d e with|some (some r)=>Q r M|_=>False
theorem DF {a b:dL} {pa pb:aH} {pos:sB} (hu:X.A.units+64<cLine) (ha:QE Γ X a pa) (hb:QE Γ X b pb) (hs:Aq b):QE Γ X (.Subscript a b pos) (zOp zGetR pa pb):=
 (Dn (by omega) ha hb hs).imp fun σ H Q ⟨β,ρ,M,Q',zr,h,q⟩=>⟨β,ρ,M,_,zr,h,fun d M1 v H1 x1 r1 h1=>⟨β,ρ,M1,_,zr.step x1,h1,fun e M2 u H2 x2 r2 h2=>by
  unfold zGetR at h2
  split at h2
  ·rename_i r hl
   obtain ⟨a,ov,rfl,g,_,e3⟩:=sC x2.mz (r1.ex x2) r2 hl
   obtain ⟨w,rfl,jv⟩:=e3 r rfl
   exact ⟨a,w,rfl,g,q _ _ _ _ (x1.trans x2) jv h2⟩
  ·exact h2.elim⟩⟩
def zDIn (neg:Bool):dr:=fun e d M Q=>match lookD M d e with|some o=>Q (.bl (if neg then !o.isSome else o.isSome)) M|none=>False
def AI (neg:Bool):R2:=fun y x H Q=>∃a o,x=.ref a/\mL H a y o/\Q (.bl (if neg then !o.isSome else o.isSome)) H
theorem uR {neg:Bool}:mr Γ (AI neg) (zDIn neg):=fun β x y d e M H Q Q' _ _ _ m rx ry z q=>by
 unfold zDIn at z
 split at z
 ·rename_i o hl
  obtain ⟨a,ov,rfl,g,e2,_⟩:=sC m ry rx hl
  refine ⟨a,ov,rfl,g,?_⟩
  rw [e2]
  exact q _ _ _ _ (.refl m) (.bl _) z
 ·exact z.elim
theorem Jk (hu:X.A.units+64<cLine):dF Γ X (compareOp .In) (zDIn false):=⟨AI false,fun pins s σ H x y v u Q I rx ry ⟨a,o,e,g,q⟩=>by
 subst e
 cases (show u=mT a from ry)
 exact LD (by omega) I g rx fun s3 I3=>⟨.bl o.isSome,H,I3,rfl,q⟩,uR⟩
theorem AJ (hu:X.A.units+64<cLine):dF Γ X (compareOp .NotIn) (zDIn true):=⟨AI true,fun pins s σ H x y v u Q I rx ry ⟨a,o,e,g,q⟩=>by
 subst e
 cases (show u=mT a from ry)
 exact Dl (by omega) I g rx fun s3 I3=>⟨.bl (!o.isSome),H,I3,rfl,q⟩,uR⟩
end
section
variable {β:Bz} {M:Mh} {H:Hp} {D:ag} {o':Mo} {u:HO}
theorem DG {v:V} {d:Dv} (r:Rz (β.add D) M H v d):Rz β (aq M D o') (upd H D u) v d :=by
 have na:∀a,Fz (β.add D) M a->a≠D:=fun a f z=>f.2 (by rw [z];exact i8)
 have ne:∀a,Fz (β.add D) M a->Fz β (aq M D o') a:=fun a f=>⟨by rw [af (na a f)];exact f.1,fun z=>f.2 (gc _ z)⟩
 have pre:∀a x,Fz (β.add D) M a->H a=some x->upd H D u a=some x:=fun a x f e=>by rw [ae (na a f)];exact e
 induction r with
 |int i=>exact .int i
 |bl b=>exact .bl b
 |ao=>exact .ao
 |str z=>exact .str z
 |tup m e hl h ih=>exact .tup (ne _ m) (pre _ _ m e) hl ih
 |lst m e hl h ih=>exact .lst (ne _ m) (pre _ _ m e) hl ih
 |dk m e hk hl h ih=>exact .dk (ne _ m) (e.map fun _ h=>pre _ _ m h) hk hl ih
 |dt m e hk hl h ih=>exact .dt (ne _ m) (e.map fun _ h=>pre _ _ m h) hk hl ih
 |bB m e m2 e2 hl h ih=>exact .bB (ne _ m) (pre _ _ m e) (ne _ m2) (pre _ _ m2 e2) hl ih
 |set m e=>exact .set (ne _ m) (pre _ _ m e)
 |ptr m=>exact .ptr (by unfold aq;split;rfl;exact m)
 |exc m e=>exact .exc (ne _ m) (pre _ _ m e)
 |bf m e=>exact .bf (ne _ m) (pre _ _ m e)
 |b5 m e=>exact .b5 (ne _ m) (pre _ _ m e)
 |b6 e=>exact .b6 e
 |raw v=>exact .raw v
theorem iL {vs:List V} {ds:List Dv} (r:aE (β.add D) M H vs ds):aE β (aq M D o') (upd H D u) vs ds:=⟨r.len,fun i v d a b=>DG (r.at' i v d a b)⟩
theorem Ex.yD {M2:Mh} {H2:Hp} {o:HO} (x:Ex β M H M2 H2) (hD:D∈β.hid) (m:M D=none) (h:H D=some o) (ho:iC o=true):H2 D=some o :=by
 rcases x.keep D o m h with q|⟨o',t,q⟩
 ·exact q
 ·rcases t with ⟨_,_,rfl,_⟩|⟨_,_,rfl,_⟩|⟨_,ob,rfl⟩
  ·cases ho
  ·cases ho
  ·obtain ⟨w,e,n⟩:=x.mz.hids D hD
   rw [q] at e;cases e;cases n
theorem Mz.GU (m:Mz (β.add D) M H) (hM:M D=none) (hD:D ∉ β.hid) (nt:D ∉ β.tb) (hu:kP u=true) (r:gG β (aq M D o') (upd H D u) D o'):Mz β (aq M D o') (upd H D u) :=by
 obtain ⟨oD,eD,nD⟩:=m.hids D i8
 refine ⟨fun a o e=>?_,fun q hq=>?_,fun a ha=>(m.hids a (gc _ ha)).upd (.inr hu),fun a o e z=>?_,fun q hq=>?_⟩
 ·by_cases ha:a=D
  ·subst ha
   rw [updM_same] at e
   cases e
   exact r
  ·rw [af ha] at e
   have z:=m.obj a o e
   cases o with
   |lst ds=>obtain ⟨vs,z,rs⟩:=z;exact ⟨vs,by rw [ae ha];exact z,iL rs⟩
   |dk ks ds=>obtain ⟨vs,z,hk,rs⟩:=z;exact ⟨vs,by rw [ae ha];exact z,hk,iL rs⟩
   |dt ks ds=>obtain ⟨vs,z,hk,rs⟩:=z;exact ⟨vs,by rw [ae ha];exact z,hk,iL rs⟩
   |bZ=>obtain ⟨c,n,z,q⟩:=z;exact ⟨c,n,by rw [ae ha];exact z,q⟩
 ·obtain ⟨ps,e,t⟩:=m.tabs q hq
  exact ⟨ps,by rw [ae (show q≠D from fun z=>nt (by rw [<- z];exact hq))];exact e,t⟩
 ·by_cases ha:a=D
  ·exact hD (ha▸z)
  ·rw [af ha] at e
   exact m.apart a o e (gc _ z)
 ·exact (m.lams q hq).keep (fun _ e=>by rw [ae (fun z=>by subst z;rw [eD] at e;cases e;cases nD)];exact e) fun c _ _ e=>by rw [ae (fun z=>by subst z;rw [eD] at e;cases e;cases nD)];exact e
end
section
variable {X:Cx} {pos:sB}
def DH (tk tv:TE):TE:=fun σ H Q=>∀p,H p=none->tk σ (upd H p (.dT [])) fun x H1=>tv σ H1 fun y H2=>H2 p=some (.dT [])/\∃b k,x=.ref b/\H2 b=some (.tup (k.map kV))/\Q (.ref p) (upd H2 p (.dT [(k,y)]))
theorem yE {k v:dL} {tk tv:TE} (hu:X.A.units+1<cLine) (hk:PE X k tk) (hv:PE X v tv):PE X (.Dict [some k] [v] pos) (DH tk tv) :=by
 refine ⟨?_⟩
 intro pins s σ H Q I q
 have hn:=I.hok.fresh (c8 s.heap.objs.size)
 have I1:=I.laid (a:=s.heap.objs.size) (o:=.dT []) (h':=s.heap.push {cls:=.type "dict",data:=.dict #[]}) (t':=s.toks) (fun _ _ q=>ci _ q) (c8 _) (Au s.heap I.big)
 refine wpAny_Dict_any rfl rfl (by simp) (by simp) (pairTrees_cons_walk (thn (hk pins _ σ _ _ I1 (q _ hn)) fun w1 s2 ⟨x,H1,I2,rx,q1⟩=>thn (hv pins s2 σ H1 _ I2 q1) fun w2 s3 ⟨y,H2,I3,ry,hp,b,ks,ex,hb,q2⟩=>pairTrees_nil_walk ?_))
 subst ex
 cases (show w1=mT b from rx)
 unfold storeAll
 rw [List.forIn_cons]
 obtain ⟨z,hd,xs,rel,dd⟩:=BZ I3.hok hp
 cases rel
 refine ba (ba (wpAny_dictSet_heap (knd:=tupleKind (bj X.prog X.w)) (by show X.A.units<cLine;omega) (jy I3.hok hb) dd (fun h' nS hs=>ce ?_) (by simp)))
 dsimp only
 rw [List.forIn_nil]
 refine ce ⟨.ref s.heap.objs.size,_,?_,rfl,q2⟩
 obtain ⟨o,es,ep,ho,h2,h3,h4,h5,h6⟩:=nS
 have he:storedH ([]:List (List Key×ag×ap)) ks b w2=[(ks,b,w2)]:=rfl
 rw [he] at h4 h6
 refine lD I3 (by rw [hp];exact CS) hs ⟨o,ho⟩ ⟨by show 1<=sizeLine;decide,hd,[(ks,b,w2)],.cons ⟨rfl,?_,ry⟩ .nil,o,es,ep,ho,h2,h3,h4,h6⟩
 rw [ae (vf hb hp (by intro z;cases z))]
 exact hb
end
section
variable {X:Cx} {Γ:Gz} {β:Bz} {K:bn}
def zDisp1K (pk pv:aH):aH:=fun ρ M Q=>pk ρ M fun e M1=>pv ρ M1 fun v M2=>match keyD e with|some k=>∀a,M2 a=none->Q (.ptr a) (aq M2 a (.dk [k] [v]))|none=>False
def zDisp1T (pk pv:aH):aH:=fun ρ M Q=>pk ρ M fun e M1=>pv ρ M1 fun v M2=>match e with | .tup es=>(match lK es with|some k=>∀a,M2 a=none->Q (.ptr a) (aq M2 a (.dt [k] [v]))|none=>False)|_=>False
theorem uS {M M2:Mh} {H H2:Hp} {D:ag} {o:HO} {o':Mo} {u:HO} (hD:H D=none) (x:Ex (β.add D) M (upd H D o) M2 H2) (mz:Mz β (aq M2 D o') (upd H2 D u)):Ex β M H (aq M2 D o') (upd H2 D u) :=by
 have ey:Ey M H M2 (upd H2 D u):=((Ey.refl (M:=M) (H:=H)).over (o:=o) hD |>.trans x.toEy).over hD
 exact ⟨⟨ey.keep,fun a h=>by unfold aq;split;rfl;exact ey.dom a h,fun a w m e=>by rw [af (aU e hD)];exact ey.new a w m e⟩,mz⟩
theorem yF {k v:dL} {pk pv:aH} {pos:sB} (hk:QE Γ X k pk) (hv:QE Γ X v pv):QE Γ X (.Dict [some k] [v] pos) (zDisp1K pk pv):=
 (Dr (Av hk hv Dq) rfl rfl (by simp) (by simp)).imp fun σ H Q ⟨β,ρ,M,Q',zr,h,q⟩ p hp=>by
  have z1:=zr.enter hp (o:=.dK []) rfl
  refine ⟨β.add p,ρ,M,_,z1,h,fun e M1 y H1 x1 r1 h1=>⟨β.add p,ρ,M1,_,z1.step x1,h1,fun d M2 w H2 x2 r2 h2=>?_⟩⟩
  have n8:=x1.trans x2
  have yG:M p=none:=zr.mz.free hp
  have e2:H2 p=some (.dK []):=n8.yD i8 yG aA rfl
  have yH:M2 p=none:=n8.new p _ yG aA
  refine ⟨e2,?_⟩
  split at h2
  ·rename_i kk GV
   refine ⟨[(kk,w)],by rw [lL (r1.ex x2) GV];rfl,by simp,?_⟩
   have e:jz [] [(kk,w)]=[kk].zip [w]:=rfl
   rw [e]
   refine q _ _ _ _ (uS (o':=.dk [kk] [d]) hp n8 (n8.mz.GU yH (zr.mz.fz hp).2 (zr.mz.Ax hp) rfl ⟨[w],aA,rfl,iL (.cons r2 .nil)⟩)) (.ptr (by rw [updM_same];rfl)) (h2 p yH)
  ·exact h2.elim
theorem Kq {k v:dL} {pk pv:aH} {pos:sB} (hu:X.A.units+64<cLine) (hk:QE Γ X k pk) (hv:QE Γ X v pv):QE Γ X (.Dict [some k] [v] pos) (zDisp1T pk pv):=
 (yE (by omega) hk hv).imp fun σ H Q ⟨β,ρ,M,Q',zr,h,q⟩ p hp=>by
  have z1:=zr.enter hp (o:=.dT []) rfl
  refine ⟨β.add p,ρ,M,_,z1,h,fun e M1 y H1 x1 r1 h1=>⟨β.add p,ρ,M1,_,z1.step x1,h1,fun d M2 w H2 x2 r2 h2=>?_⟩⟩
  have n8:=x1.trans x2
  have yG:M p=none:=zr.mz.free hp
  have e2:H2 p=some (.dT []):=n8.yD i8 yG aA rfl
  have yH:M2 p=none:=n8.new p _ yG aA
  refine ⟨e2,?_⟩
  split at h2
  ·split at h2
   ·rename_i es kk GV
    obtain ⟨b,us,rfl,_,hb,ru⟩:=dq (r1.ex x2)
    rw [j0 ru GV] at hb
    refine ⟨b,kk,rfl,hb,?_⟩
    refine q _ _ _ _ (uS (o':=.dt [kk] [d]) (u:=.dT ([kk].zip [w])) hp n8 (n8.mz.GU yH (zr.mz.fz hp).2 (zr.mz.Ax hp) rfl ⟨[w],aA,rfl,iL (.cons r2 .nil)⟩)) (.ptr (by rw [updM_same];rfl)) (h2 p yH)
   ·exact h2.elim
  ·exact h2.elim
def zDPut (pd pk pv:aH):bH:=fun D ρ M=>pv ρ M fun v M1=>pd ρ M1 fun d M2=>pk ρ M2 fun e M3=>match d with
 | .ptr a=>(match M3 a with
  |some (.dk ks ds)=>(match keyD e with|some k=>ks.length<sizeLine/\D.nx ρ (aq M3 a (.dk (putL ks k) (fe ks ds k v)))|none=>False)
  |some (.dt ks ds)=>(match e with | .tup es=>(match lK es with|some k=>ks.length<sizeLine/\D.nx ρ (aq M3 a (.dt (putL ks k) (fe ks ds k v)))|none=>False)|_=>False)
  |_=>False)
 |_=>False
theorem DI {o i value:dL} {pd pk pv:aH} {pos pos':sB} (hu:X.A.units+64<cLine) (ho:QE Γ X o pd) (hi:QE Γ X i pk) (hv:QE Γ X value pv) (hs:swapsWith value (some (.Subscript o i pos')) pos.line X.env=pure false :=by rfl) :
  QS Γ X (.Assign [.Subscript o i pos'] value pos) (zDPut pd pk pv):=(Dp (by omega) ho hi hv hs).imp fun D σ H ⟨β,ρ,M,D',zr,h,r⟩=>⟨β,ρ,M,_,zr,h,fun v M1 vv H1 x1 r1 h1=>⟨β,ρ,M1,_,zr.step x1,h1,fun d M2 dv H2 x2 r2 h2=>
   ⟨β,ρ,M2,_,(zr.step x1).step x2,h2,fun e M3 ev H3 x3 r3 h3=>by
 have z3:=((zr.step x1).step x2).step x3
 have uI:=x1.trans (x2.trans x3)
 have rv:=(r1.ex x2).ex x3
 split at h3
 ·rename_i a
  obtain ⟨rfl,hs⟩:=a9 r2
  split at h3
  ·rename_i ks ds hM
   obtain ⟨vs,ha,hk,rs⟩:=x3.mz.obj a _ hM
   split at h3
   ·rename_i k sD
    obtain ⟨hl,h3⟩:=h3
    have hp:(M3 a).isSome=true :=by rw [hM];rfl
    have x4:Ex β M3 H3 (aq M3 a (.dk (putL ks k) (fe ks ds k v))) (upd H3 a (.dK ((putL ks k).zip (fe ks vs k vv)))):=Ex.LK x3.mz (.inl hp) (sx hk k vv) (sy k rv rs)
    refine ⟨a,_,rfl,.inl ⟨_,k,ha,lL r3 sD,by rw [Pa,<- hk,GM];exact hl,rfl⟩,?_⟩
    rw [uP hk]
    exact r.nx _ _ _ _ (uI.trans x4).ev (z3.step x4) h3
   ·exact h3.elim
  ·rename_i ks ds hM
   obtain ⟨vs,ha,hk,rs⟩:=x3.mz.obj a _ hM
   split at h3
   ·split at h3
    ·rename_i k sD
     obtain ⟨hl,h3⟩:=h3
     obtain ⟨b,us,rfl,_,hb,ru⟩:=dq r3
     rw [j0 ru sD] at hb
     have hp:(M3 a).isSome=true :=by rw [hM];rfl
     have x4:Ex β M3 H3 (aq M3 a (.dt (putL ks k) (fe ks ds k v))) (upd H3 a (.dT ((putL ks k).zip (fe ks vs k vv)))):=Ex.LL x3.mz (.inl hp) (sx hk k vv) (sy k rv rs)
     refine ⟨a,_,rfl,.inr ⟨_,k,b,ha,rfl,hb,by rw [Pa,<- hk,GM];exact hl,rfl⟩,?_⟩
     rw [uP hk]
     exact r.nx _ _ _ _ (uI.trans x4).ev (z3.step x4) h3
    ·exact h3.elim
   ·exact h3.elim
  ·exact h3.elim
 ·exact h3.elim⟩⟩⟩
def zLenK (d:Dv) (M:Mh) (Q:ZK):Prop:=match nowK M d with | .dk ks _=>Q (.int ks.length) M|_=>False
theorem GW:fI Γ X (.builtin "len") (z1 zLenK):=⟨fun xs H Q=>∃a ai,xs=[.ref a]/\Rd H a (.dK ai)/\Q (.int ai.length) H,fun pins s σ H xs us Q I rs ⟨a,ai,e,ha,q⟩=>by
 subst e
 cases rs with
 |cons r1 rs=>
  cases rs
  cases r1
  exact IY I ha fun t s' I'=>⟨.int ai.length,H,I',⟨t,rfl⟩,q⟩,fun β xs ds M H Q Q' _ _ _ m rs z q=>by
 unfold z1 at z
 split at z
 ·obtain ⟨x,rfl,r⟩:=ee rs
  unfold zLenK at z
  split at z
  ·rename_i ks ds hk
   obtain ⟨a,vs,rfl,ha,hk,_⟩:=(uQ m r).1 _ _ hk
   refine ⟨a,_,rfl,ha,?_⟩
   rw [Pa,<- hk,GM]
   exact q _ _ _ _ (.refl m) (.int _) z
  ·exact z.elim
 ·exact z.elim⟩
end
def fg (X:Cx):br:=X.env.qual ++ "<lambda>"
structure GX (X:Cx) (params:FS) (body:dL) (scope:rb) (o:i4) (c:ag) (oc:i4) (aL:List (br×ag)):Prop where
 cells:∀n a,aL.lookup n=some a->X.env.cells.lookup n=some a
 has:∀n,(n,mo)∈scope.names->∃a,aL.lookup n=some a
 obj:∃gY,o=IR "<lambda>" (fg X) params body scope aL ((X.mg "__name__").getD .none) c gY
 code:∃vs t,oc.data=.fields vs/\vs[1]?=some (PJ (fg X) t)
structure GY (X:Cx) (P:ag) (H H2:Hp) (f:ag) (o:i4) (c:ag) (oc:i4):Prop where
 new:H f=none
 at':∃u,H2 f=some (.bp o u)
 cd:∃u,H2 c=some (.bp oc u)
 lm:Lm H2 (P,fg X)
 keep:∀b u,H b=some u->b≠P->H2 b=some u
 tab:∃ps,H P=some (.lam ps)
def LR (X:Cx) (P:ag) (params:FS) (body:dL) (scope:rb):TE:=fun _ H Q=>Lm H (P,fg X)/\∀f o c oc aL H2,GX X params body scope o c oc aL->GY X P H H2 f o c oc->Q (.ref f) H2
def iM (a:ag) (o:i4):HO:=.bp o (.ext fun h=>h.get? a=some o)
theorem sE {P:f8} {w:ii} {H:Hp} {h:gl} {a:ag} {o:i4} (e:h.get? a=some o):ObjOk P w H h a (iM a o):=⟨e,e,⟨o,e⟩,fun _ _ x k=>k o x⟩
theorem yI {a b c cv:ap} {pos:sB} (l:List ap) (h:GE l) (e:codeAmong pos (l++[a,b,c])=some cv):codeAmong pos l=some cv\/cv=c :=by
 induction l using TriplesOk.induct with
 |case1=>
  right
  simp only [Db] at e
  unfold codeAmong at e
  split at e
  ·rename_i heq
   cases heq
   split at e
   ·exact (hX e).symm
   ·simp [codeAmong] at e
  ·cases e
 |case2 x tx y ty z rest ih=>
  simp only [Qz,codeAmong] at e ⊢
  split at e
  ·rename_i q
   rw [if_pos q];exact .inl e
  ·rename_i q
   rw [if_neg q];exact ih h e
 |case3 l n1 n2=>
  exfalso
  unfold GE at h
  split at h
  ·exact n1 rfl
  ·exact n2 _ _ _ _ _ _ rfl
  ·exact h
section
variable {X:Cx} {params:FS} {body:dL} {scope:rb} {pos:sB} {P cX:ag}
theorem vX {pins:List (ag×i4)} {s:bi} {σ:St} {H:Hp} {h':gl} {o:i4} (I:Inv X pins σ H s) (hk:∀b u,s.heap.get? b=some u->h'.get? b=some u) (hsz:s.heap.objs.size<=h'.objs.size) (hc:o.isFreed=false) (tk:Nat) :
  Inv X pins σ (upd H h'.objs.size (iM h'.objs.size o)) {s with heap:=h'.push o,toks:=tk}:=
 I.laid (a:=h'.objs.size) (o:=iM h'.objs.size o) (t':=tk) (fun b u e=>ci _ (hk b u e)) hsz (sE (i1 _ hc))
theorem vY {pins:List (ag×i4)} {s:bi} {σ:St} {H:Hp} {h':gl} {o oc:i4} {c:ag} {ps fE:Array ap} (I:Inv X pins σ H s) (hP:H P=some (.lam ps)) (hx:gl.ExtBut P s.heap h') (sF:s.heap.objs.size<=c) (aY:c<h'.objs.size) (o8:h'.get? c=some oc)
  (B9:h'.get? P=some {cls:=.none,data:=.fields fE}) (hc:o.isFreed=false) (tk:Nat) :
  Inv X pins σ (upd (upd (upd H P (.lam fE)) c (iM c oc)) h'.objs.size (iM h'.objs.size o)) {s with heap:=h'.push o,toks:=tk}:=by
 have GZ:P<s.heap.objs.size:=(I.hok P _ hP).lt
 have hsz:s.heap.objs.size<=h'.objs.size:=Gc (GS sF aY)
 have old:∀b,b<s.heap.objs.size->b≠P->upd (upd (upd H P (.lam fE)) c (iM c oc)) h'.objs.size (iM h'.objs.size o) b=H b:=fun b hb n=>by
  rw [ae (lw (kw hb hsz)),ae (lw (kw hb sF)),ae n]
 have OU:upd (upd (upd H P (.lam fE)) c (iM c oc)) h'.objs.size (iM h'.objs.size o) P=some (.lam fE) :=by
  rw [ae (lw (kw GZ hsz)),ae (lw (kw GZ sF)),aA]
 have k:∀b u,b≠P->s.heap.get? b=some u->(h'.push o).get? b=some u:=fun b u n e=>ci _ (hx b u n e)
 have yJ:∀b u,H b=some u->b<s.heap.objs.size:=fun b u e=>(I.hok b u e).lt
 have nP:∀b,H b=none->b≠P:=fun b e z=>by rw [z,hP] at e;cases e
 have nT:∀b u,H b=some u->(∀ps,u≠.lam ps)->b≠P:=fun b u e n z=>by rw [z,hP] at e;cases e;exact n _ rfl
 refine I.un ⟨fun b u q n _ _=>k b u (nP b n) q,fun b u q n _ _=>⟨u.slots,k b u (nP b n) q⟩,fun b u q n _=>by rw [old b (im q) (nP b n)];exact n,fun b u q _=>?_,fun b xs q=>by rw [old b (yJ b _ q) (nT b _ q (by intro _ z;cases z))];exact q,
  fun b u xs q=>by rw [old b (yJ b _ q) (nT b _ q (by intro _ z;cases z))];exact q,fun b qs q=>⟨#[],by rw [old b (yJ b _ q) (nT b _ q (by intro _ z;cases z)),q];simp⟩⟩ fun b u q=>?_
 ·by_cases e:b=P
  ·subst e;exact ⟨_,ci _ B9⟩
  ·exact ⟨u,k b u e q⟩
 ·by_cases e1:b=h'.objs.size
  ·subst e1
   rw [aA] at q;cases q
   exact sE (i1 _ hc)
  ·rw [ae e1] at q
   by_cases e2:b=c
   ·subst e2
    rw [aA] at q;cases q
    exact sE (ci _ o8)
   ·rw [ae e2] at q
    by_cases e3:b=P
    ·subst e3
     rw [aA] at q;cases q
     exact ci _ B9
    ·rw [ae e3] at q
     refine (I.hok b u q).cO (fun a v hc q=>k a v ?_ q) (fun a z=>?_) fun a xs z=>?_
     ·rcases hc with z|z
      ·rw [z];exact e3
      ·exact nT a _ z (by intro _ w;cases w)
     ·rw [old a (yJ a _ z) (nT a _ z (by intro _ w;cases w))];exact z
     ·rw [old a (yJ a _ z) (nT a _ z (by intro _ w;cases w))];exact z
theorem G0 (eU:X.env.code=.ref cX) (hd:qr X.base cX P) (cV:∃bm ob,P5 X.base mainGlobals X.mg bm ob) (qS:defaultsOf params X.env=([],[]))
  (lr:∀n,(n,mo)∈scope.names->X.env.kindOf n=some .cell\/X.env.kindOf n=some .free):PE X (.Lambda params body scope pos) (LR X P params body scope) :=by
 refine ⟨?_⟩
 intro pins s σ H Q I ⟨⟨ps,hP,rE,my⟩,q⟩
 obtain ⟨aL,gr,cI,dM⟩:=fB (scope:=scope) (env:=X.env) fun n hn=>I.ok.has n (lr n hn)
 have rC:s.heap.get? P=some (Lu ps):=I.hok P _ hP
 obtain ⟨bm,ob,bmod⟩:=cV
 have fq:=bmod.keeps I.bk
 have Nf:mainGlobals≠P:=fun z=>by
  obtain ⟨o,es,ep,e,hd,_⟩:=fq.ns
  rw [z,rC] at e;cases e;cases hd
 have Ng:bm≠P:=fun z=>by
  have e:=fq.obj
  have e2:=fq.data
  rw [z,rC] at e;cases e;cases e2
 have Nh:bm≠mainGlobals:=fun z=>by
  obtain ⟨o,es,ep,e,hd,_⟩:=fq.ns
  have e1:=fq.obj
  have e2:=fq.data
  rw [z,e] at e1;cases e1;rw [hd] at e2;cases e2
 have hb:s.heap.BuiltinsAt X.mg P:=⟨bm,ob,fq.name,fq.ne,Nh,Ng,fq.obj,fq.cls,fq.dict,fq.data⟩
 refine PySem.W.kla_eval qS ?_
 cases hq:codeAmong pos ps.toList with
 |some cv=>
  obtain ⟨c,oc,uc,vs,t,rfl,ec,d1,d2⟩:=my pos cv hq
  refine PySem.W.kla_makeFunctionHit (mg:=X.mg) gr I.ok.glob (I.mod.glob.keeps I.bk) eU (hd.keeps I.bk) rC rE hq hb fun gY h' tk hk hsz=>?_
  have hf:H h'.objs.size=none:=I.hok.fresh hsz
  have pre:∀b u,H b=some u->upd H h'.objs.size (iM h'.objs.size (IR "<lambda>" (fg X) params body scope aL ((X.mg "__name__").getD .none) c gY)) b=some u:=fun b u e=>by rw [ae (aU e hf)];exact e
  refine ⟨.ref h'.objs.size,_,vX I hk hsz (o:=IR "<lambda>" (fg X) params body scope aL ((X.mg "__name__").getD .none) c gY) rfl tk,rfl,q _ _ c oc aL _ ⟨cI,dM,⟨gY,rfl⟩,⟨vs,t,d1,d2⟩⟩ ⟨hf,⟨_,aA⟩,⟨uc,pre _ _ ec⟩,Lm.keep ⟨ps,hP,rE,my⟩ (fun _ e=>pre _ _ e) fun _ _ _ e=>pre _ _ e,fun b u e _=>pre b u e,⟨ps,hP⟩⟩⟩
 |none=>
  refine PySem.W.kla_makeFunction (mg:=X.mg) gr I.ok.glob (I.mod.glob.keeps I.bk) eU (hd.keeps I.bk) rC rE hq Nf hb fun c gY h' tk hx sF aY LU B9=>?_
  obtain ⟨c2,oc,vs,t,e2,o8,d1,d2⟩:=LU
  cases e2
  have I2:=vY (o:=IR "<lambda>" (fg X) params body scope aL ((X.mg "__name__").getD .none) c gY) I hP hx sF aY o8 B9 rfl tk
  have hsz:s.heap.objs.size<=h'.objs.size:=Gc (GS sF aY)
  have hf:H h'.objs.size=none:=I.hok.fresh hsz
  have oe:H c=none:=I.hok.fresh sF
  have Ni:c≠h'.objs.size:=lw aY
  have Nj:P≠c:=fun z=>by rw [z,oe] at hP;cases hP
  have Nk:P≠h'.objs.size:=fun z=>by rw [z,hf] at hP;cases hP
  have Nm:GE (ps++#[rawInt pos.line,rawInt pos.col,mT c]).toList :=by
   rw [PZ]
   exact TriplesOk_snoc _ _ _ _ rE
  have pre:∀b u,H b=some u->b≠P->upd (upd (upd H P (.lam (ps++#[rawInt pos.line,rawInt pos.col,mT c]))) c (iM c oc)) h'.objs.size (iM h'.objs.size (IR "<lambda>" (fg X) params body scope aL ((X.mg "__name__").getD .none) c gY)) b=some u:=fun b u e n=>by
   rw [ae (aU e hf),ae (aU e oe),ae n];exact e
  have Kr:upd (upd (upd H P (.lam (ps++#[rawInt pos.line,rawInt pos.col,mT c]))) c (iM c oc)) h'.objs.size (iM h'.objs.size (IR "<lambda>" (fg X) params body scope aL ((X.mg "__name__").getD .none) c gY)) c=some (iM c oc) :=by rw [ae Ni,aA]
  refine ⟨.ref h'.objs.size,_,I2,rfl,q _ _ c oc aL _ ⟨cI,dM,⟨gY,rfl⟩,⟨vs,t,d1,d2⟩⟩ ⟨hf,⟨_,aA⟩,⟨_,Kr⟩,⟨_,by rw [ae Nk,ae Nj,aA],Nm,fun p cv e=>?_⟩,pre,⟨ps,hP⟩⟩⟩
  rw [PZ] at e
  rcases yI _ rE e with e|e
  ·obtain ⟨c3,Np,u3,Nq,t3,a1,a2,a3⟩:=my p cv e
   exact ⟨c3,Np,u3,Nq,t3,a1,pre _ _ a2 (fun z=>by rw [z,hP] at a2;cases a2),a3⟩
  ·exact ⟨c,oc,_,vs,t,e,Kr,d1,d2⟩
end
structure Ca (X:Cx) (σ:St) (b':gl):Prop where
 ext:∀b o,X.base.get? b=some o->b'.get? b=some o
 cell:∀(i:Nat) (x:br) (v:V),X.N[i]?=some x->σ[i]?=some (some v)->X.env.scope.names.lookup x=some .cell->∃c u,X.env.cells.lookup x=some c/\RelV v u/\b'.IsCell c (some u)
 cells:∀x c,X.env.cells.lookup x=some c->∃v,b'.IsCell c v
 inj:∀x y c,X.env.cells.lookup x=some c->X.env.cells.lookup y=some c->x=y
theorem Mod.ext {K:bn} {mg:br->Option ap} {b b':gl} (m:Mod K mg b) (k:∀a o,b.get? a=some o->b'.get? a=some o):Mod K mg b':=
 ⟨m.kin.keeps k,m.glob.keeps k,let ⟨mb,h1,h2⟩:=m.blt;⟨mb,h1.keeps k,h2⟩,m.nolimit.keeps k⟩
section
variable {X:Cx} {pins:List (ag×i4)} {σ:St} {H:Hp} {s:bi}
theorem Inv.Jl (I:Inv X pins σ H s) (nh:∀x,X.fn x=true):∃b',Ca X σ b'/\oz X.prog X.w X.K X.mg b' X.A X.stack s H :=by
 let Cb:ag->Prop:=fun a=>∃x,X.env.cells.lookup x=some a
 let l:List ag:=(io s.heap.objs.size).filter fun a=>@decide ((X.base.get? a=none)/\¬ Cb a) (Me _)
 have ml:∀a,a∈l ↔ a<s.heap.objs.size/\X.base.get? a=none/\¬ Cb a:=fun a=>by
  show a∈(io s.heap.objs.size).filter _ ↔ _
  rw [GT,Lo]
  simp only [decide_eq_true_eq]
 have ext:∀b o,X.base.get? b=some o->(wv s.heap l).get? b=some o:=fun b o e=>OP l (I.bk b o e) fun z=>by
  have:=((ml b).mp z).2.1
  rw [e] at this;cases this
 have cls:∀x c o,X.env.cells.lookup x=some c->s.heap.get? c=some o->(wv s.heap l).get? c=some o:=fun x c o e ho=>OP l ho fun z=>((ml c).mp z).2.2 ⟨x,e⟩
 have only:∀b o,(wv s.heap l).get? b=some o->s.heap.get? b=some o/\((∃o',X.base.get? b=some o')\/Cb b):=fun b o e=>by
  have e':=P8 l e
  refine ⟨e',?_⟩
  by_cases hc:Cb b
  ·exact .inr hc
  ·cases q:X.base.get? b with
   |some o'=>exact .inl ⟨o',rfl⟩
   |none=>
    have:(wv s.heap l).get? b=none:=PySem.W.hideAll_none l ((ml b).mpr ⟨im e',q,hc⟩)
    rw [e] at this;cases this
 refine ⟨wv s.heap l,⟨ext,fun i x v h1 h2 h3=>?_,fun x c e=>?_,I.ok.inj⟩,I.ok.frames,I.ok.mod.ext ext,fun b o e=>?_,QB (PySem.W.hideAll_size _ _),?_,I.jr,I.hok,I.bare.1⟩
 ·obtain ⟨m,hn,hl⟩:=I.loc
  obtain ⟨u,r,lk⟩:=hl i x v h1 h2 (.inr (.inl h3))
  rcases lk with ⟨hk,_⟩|⟨_,c,ec,o,ho,hd⟩
  ·have hk:X.env.scope.names.lookup x=some .local:=hk
   rw [h3] at hk;cases hk
  ·exact ⟨c,u,ec,r,o,cls x c o ec ho,hd⟩
 ·obtain ⟨v,o,ho,hd⟩:=I.cell x c e
  exact ⟨v,o,cls x c o e ho,hd⟩
 ·obtain ⟨e',q⟩:=only b o e
  refine ⟨e',?_⟩
  rcases q with ⟨o',q⟩|⟨x,q⟩
  ·exact (I.bs b o' q).2
  ·exact I.freeC x b q
 ·have fr:∀L∈dn X.stack,(wv s.heap l).get? L=none:=fun L hL=>by
   cases q:(wv s.heap l).get? L with
   |none=>rfl
   |some o=>
    exfalso
    obtain ⟨e',q⟩:=only L o q
    have nb:=(I.stack.mem hL).1
    rcases q with ⟨o',q⟩|⟨x,q⟩
    ·rw [nb] at q;cases q
    ·rcases lc.mp (I.eL L hL) with z|z
     ·exact I.o7 x L q z
     ·have h1:=I.ok.cab x L (nh x) q
      obtain ⟨_,o2,Nr,_⟩:=I.ok.funs.mem z
      exact absurd (im Nr) (QY.mpr h1)
  have go:∀(st:List Cc),(∀L∈dn st,(wv s.heap l).get? L=none)->s.heap.FunFrames X.base st->s.heap.FunFrames (wv s.heap l) st :=by
   intro st
   induction st with
   |nil=>intro _ _;trivial
   |cons env r ih=>
    intro hs hl
    obtain ⟨hk,⟨L,o,hf,hn,ho,hd⟩,hr⟩:=hl
    exact ⟨hk,⟨L,o,hf,hs L (by unfold dn;rw [LP,hf];exact i8),ho,hd⟩,ih (fun b hb=>hs b (by unfold dn;rw [LP,hf];exact gc _ hb)) hr⟩
  exact go X.stack fr I.stack
end
section
variable {X:Cx} {CX:fm} {k:Nat} {f:ag} {fd:l3} {ps:List br} {eQ:List V} {ds:List ap} {E:XK} {x:br} {p pos:sB} {e:dL} {es:List dL} {t:TA}
def G1 (X:Cx) (sp:gl->Sp) (eQ:List V) (E:XK) (t:TA):TE:=fun σ H Q=>t σ H fun vs H1=>∀b',Ca X σ b'->sp b' (vs++eQ) H1 Q E
theorem AK {sp:gl->Sp} (F:∀b',(∀b o,X.base.get? b=some o->b'.get? b=some o)->FnOk X.prog X.w X.K X.mg b' CX k f fd ps (sp b')) (hr:bF k X.A) (nh:∀x,X.fn x=true) (hg:Gl X x) (hm:X.mg x=some (.ref f)) (hk:xL X.K (.ref f)=true) (hb:Binds X.K fd ps ds) (hd:Vals eQ ds) (hx:Passes CX X E)
  (ha:PA X (e::es) t) (dS:(x==("__debug__" : br))=false :=by decide) (he:starEach (e::es) X.env=(false,eval e X.env)::starEach es X.env :=by rfl) (cK:(backTo pos (starEach es X.env)).any (·.1)=false :=by rfl) :
  PE X (.Call (.Name x p) (e::es) [] pos) (G1 X sp eQ E t) :=by
 refine ⟨?_⟩
 intro pins s σ H Q I h
 refine Cf (lu I hg hm ?_ dS)
 refine PySem.W.callWith_K (h₀:=X.base) I.ok.mod.kin hk (thn (ha pos pins s σ H _ I h) fun us s1 ⟨vs,H1,I1,r,q⟩=>⟨I1.fw,?_⟩) he cK
 obtain ⟨b',B,e0⟩:=I1.Jl nh
 have r2:Vals (vs++eQ) (us++ds):=r.append hd
 have hl:(us++ds).length=ps.length :=by rw [<- r2.length];exact (F b' B.ext).len _ _ _ _ (q b' B)
 refine wpAny_call (Qq ((F b' B.ext).run X.A X.stack s1 H1 ⟨us,[]⟩ (us++ds) (vs++eQ) Q E hr e0 (hb s1 us I1.fw hl) r2 (q b' B)) fun r s' hq=>?_)
 cases r with
 |error e=>exact hx pins σ H1 s1 e s' I1 hq
 |ok fl=>
  cases fl with
  |ret u=>exact I1.after hq
  |next=>exact AC hq
  |brk=>exact AC hq
  |cont=>exact AC hq
def G2 (f:ag) (o:i4) (sp:Sp) (E:XK) (i:Nat) (t:TA):TE:=fun σ H Q=>σ[i]?=some (some (.ref f))/\(∃u,H f=some (.bp o u))/\t σ H fun vs H1=>(∃u,H1 f=some (.bp o u))/\sp vs H1 Q E
theorem AO {o:i4} {sp:Sp} {i:Nat} (F:FnOk X.prog X.w X.K X.mg X.base CX k f fd ps sp) (ho:∃oc od fd sl,o=⟨oc,od,.func fd,sl⟩) (hr:bF k X.A) (hN:X.N[i]?=some x) (hv:l0 X.env.scope x) (hb:Binds X.K fd ps []) (hx:Passes CX X E) (ha:PA X (e::es) t)
  (dS:(x==("__debug__" : br))=false :=by decide) (c9:(x==("__classdict__" : br))=false :=by decide) (he:starEach (e::es) X.env=(false,eval e X.env)::starEach es X.env :=by rfl) (cK:(backTo pos (starEach es X.env)).any (·.1)=false :=by rfl) :
  PE X (.Call (.Name x p) (e::es) [] pos) (G2 f o sp E i t) :=by
 refine ⟨?_⟩
 intro pins s σ H Q I ⟨hi,hf,h⟩
 obtain ⟨oc,od,BO,sl,rfl⟩:=ho
 refine Cf (thn ((qX hN hv dS c9) pins s σ H (fun v H'=>v=.ref f/\H'=H) I ⟨_,hi,rfl,rfl⟩) fun u s0 ⟨v,H0,I0,r0,e1,e2⟩=>?_)
 subst e1 e2
 cases (show u=mT f from r0)
 have at_:∀{H':Hp} {s':bi},Inv X pins σ H' s'->(∃u,H' f=some (.bp ⟨oc,od,.func BO,sl⟩ u))->PySem.W.FnAt f s'.heap:=fun I' ⟨u,hu⟩=>⟨oc,od,BO,sl,(I'.hok f _ hu).1⟩
 refine PySem.W.callWith_F (at_ I0 hf) (thn (ha pos pins s0 σ H0 _ I0 h) fun us s1 ⟨vs,H1,I1,r,Nt,q⟩=>⟨at_ I1 Nt,?_⟩) he cK
 have q':sp (vs++[]) H1 Q E :=by rw [BY];exact q
 exact xq F hr hb .nil hx I1 r q'
end
def vZ (CX:fm) (P:f8) (w:ii) (K:bn) (mg:br->Option ap) (base:gl) (N:List br) (qual:br) (scope:rb) (f:ag) (cd:ap) (aL:List (br×ag)) (A:l8) (outer:List Cc) (s:bi) (H:Hp) (E:XK):Cx where
 prog:=P
 w:=w
 K:=K
 mg:=mg
 base:=base
 A:=A.deeper (LH qual scope s.heap.objs.size f cd aL)
 N:=N
 s₀:=s
 H₀:=H
 env:=LH qual scope s.heap.objs.size f cd aL
 outer:=outer
 stack:=LH qual scope s.heap.objs.size f cd aL::outer
 ex:=[]
 calm:=true
 fn:=fun _=>false
 pn:=[]
 xe:=fun e s'=>wpAny (model P w) (A.deeper (LH qual scope s.heap.objs.size f cd aL)) (leaving (LH qual scope s.heap.objs.size f cd aL) e) (fun _ cj=>CX outer H s E e cj) (fun e' cj=>CX outer H s E e' cj) s'
structure j1 (ps fs:List br) (sc:rb):Prop where
 kind:sc.kind=.function
 co:sc.isCoroutine=false
 gen:sc.isGenerator=false
 nd:(ps++fs).Nodup
 par:∀x∈ps,sc.names.lookup x=some .local
 fre:∀x∈fs,sc.names.lookup x=some .free
 nocell:∀y∈sc.names,y.2≠.cell
structure oO (base:gl) (fs:List br) (aL:List (br×ag)) (vcs:List V):Prop where
 inj:∀x y c,aL.lookup x=some c->aL.lookup y=some c->x=y
 all:∀x c,aL.lookup x=some c->∃v,base.IsCell c v
 cell:∀(j:Nat) (x:br) (v:V),fs[j]?=some x->vcs[j]?=some v->∃c u,aL.lookup x=some c/\RelV v u/\base.IsCell c (some u)
theorem og {x:br} {v:ap}:∀{ps:List br} {us:List ap} {i:Nat},ps.Nodup->ps[i]?=some x->us[i]?=some v->(ps.zip us).reverse.lookup x=some v
 | [],_,_,_,h,_=>by simp at h
 |_::_,[],_,_,_,h=>by simp at h
 |p::ps,u::us,i,nd,h1,h2=>by
          rw [No,Qi]
          have hn:=Ix.mp nd
          cases i with
          |zero=>
           simp at h1 h2
           subst h1 h2
           rw [List.lookup_append]
           have:(ps.zip us).reverse.lookup p=none :=by
            rw [List.lookup_eq_none_iff]
            intro q hq
            have Nu:=QC.mp hq
            have:=(Na Nu).1
            have ne:p≠q.1:=fun z=>hn.1 (by rw [z];exact this)
            simpa using ne
           rw [this]
           simp [List.lookup]
          |succ i=>
           rw [List.lookup_append,og hn.2 (by simpa using h1) (by simpa using h2)]
           rfl
section
variable {CX:fm} {P:f8} {w:ii} {K:bn} {mg:br->Option ap} {base:gl} {ps fs:List br} {qual:br} {scope:rb} {f c:ag} {aL:List (br×ag)} {A:l8} {outer:List Cc} {s:bi} {H:Hp} {E:XK} {us:List ap} {vs vcs:List V}
theorem DJ {h1:gl} {tk:Nat} (S:j1 ps fs scope) (C:oO base fs aL vcs) (has:∀n,(n,mo)∈scope.names->∃a,aL.lookup n=some a) (hd:A.handled=none) (e0:oz P w K mg base A outer s H) (hl:vs.length=ps.length) (hc:vcs.length=fs.length) (r:Vals vs us)
  (dU:h1.Ns s.heap.objs.size (fun y=>(ps.zip us).reverse.lookup y)) (hk:∀b o,s.heap.get? b=some o->h1.get? b=some o) :
  Inv (vZ CX P w K mg base (ps++fs) qual scope f (.ref c) aL A outer s H E) [] (vs.map some++vcs.map some) H {s with heap:=h1,toks:=tk}:=by
 have bc:∀x a,aL.lookup x=some a->∃v o,s.heap.get? a=some o/\o.data=.cell v/\H a=none:=fun x a e=>by
  obtain ⟨v,o,ho,hd⟩:=C.all x a e
  obtain ⟨h1,h2⟩:=e0.bs a o ho
  exact ⟨v,o,h1,hd,h2⟩
 refine ⟨⟨e0.mod,S.kind,rfl,rfl,c8 _,C.inj,fun y hy=>?_,fun _ _ z=>(nomatch z),fun _=>hd,l8.frames_deeper e0.frames,.inr ⟨rfl,rfl⟩,fun b z=>absurd (show b∈([]:List ag) from z) (by simp),e0.bs,e0.bsz,fun b _ _ z=>absurd (show b∈([]:List ag) from z) (by simp),fun b z=>absurd (show b∈([]:List ag) from z) (by simp),e0.funs,e0.frf⟩,
  rfl,⟨e0.bare,c8 _⟩,Un.kept hk,⟨_,dU,fun i y v h1 h2 h3=>?_⟩,fun y a e=>?_,e0.hok.fresh (c8 _),fun y a e=>?_,fun p hp=>absurd (show p∈([]:List (ag×i4)) from hp) (by simp),e0.hok.kept hk,?_⟩
 ·have hy:scope.names.lookup y=some .cell\/scope.names.lookup y=some .free:=hy
  rcases hy with hy|hy
  ·exact absurd rfl (S.nocell _ (rf hy))
  ·exact has y (rf hy)
 ·have h1:(ps++fs)[i]?=some y:=h1
  by_cases hi:i<ps.length
  ·rw [ol hi] at h1
   rw [ol (by simpa [hl] using hi),ca] at h2
   have ha:vs[i]?=some v :=by
    cases e:vs[i]? with
    |none=>rw [e] at h2;cases h2
    |some a=>rw [e] at h2;cases h2;rfl
   obtain ⟨u,hu,rv⟩:=r.get ha
   have nd:ps.Nodup:=S.nd.sublist (List.sublist_append_left _ _)
   exact ⟨u,rv,.inl ⟨S.par y (db h1),og nd h1 hu⟩⟩
  ·rw [r9 (by omega)] at h1
   rw [r9 (by simp only [cr];omega),cr,hl,ca] at h2
   have ha:vcs[i - ps.length]?=some v :=by
    cases e:vcs[i - ps.length]? with
    |none=>rw [e] at h2;cases h2
    |some a=>rw [e] at h2;cases h2;rfl
   obtain ⟨a,u,e1,rv,o,ho,hd⟩:=C.cell _ y v h1 ha
   exact ⟨u,rv,.inr ⟨.inr (S.fre y (db h1)),a,e1,o,hk _ _ (e0.bs a o ho).1,hd⟩⟩
 ·obtain ⟨v,o,ho,hd,_⟩:=bc y a e
  exact ⟨v,o,hk _ _ ho,hd⟩
 ·obtain ⟨v,o,ho,hd,hn⟩:=bc y a e
  exact hn
 ·show _=(ps++fs).length
  simp [hl,hc]
structure v3 (params:FS) (body:dL) (scope:rb) (qual:br) (o:i4) (c:ag) (oc:i4) (aL:List (br×ag)) (fd:l3):Prop where
 has:∀n,(n,mo)∈scope.names->∃a,aL.lookup n=some a
 obj:∃name pm gY,fd=PySem.W.kla_fn name qual params body scope aL pm (.ref c) gY/\o={cls:=.type "function",data:=.func fd}
 code:∃vs t,oc.data=.fields vs/\vs[1]?=some (PJ qual t)
theorem G3 {params:FS} {body:dL} {o oc:i4} {fd:l3} {k:Nat} {sp:Sp} (L:v3 params body scope qual o c oc aL fd) (S:j1 ps fs scope) (C:oO base fs aL vcs) (dO:vcs.length=fs.length) (len:∀vs H Q E,sp vs H Q E->vs.length=ps.length)
  (at':∀vs H Q E,sp vs H Q E->(∃u,H f=some (.bp o u))/\∃u,H c=some (.bp oc u))
  (jL:∀(A:l8) (outer:List Cc) (s:bi) (H:Hp) (vs:List V) (Q:VK) (E:XK),bF k (A.deeper (LH qual scope s.heap.objs.size f (.ref c) aL))->sp vs H Q E->
   ∃t,PE (vZ CX P w K mg base (ps++fs) qual scope f (.ref c) aL A outer s H E) body t/\t (vs.map some++vcs.map some) H Q):FnOk P w K mg base CX (k+1) f fd ps sp :=by
 obtain ⟨has,⟨name,pm,gY,rfl,rfl⟩,⟨Nv,ct,d1,d2⟩⟩:=L
 refine ⟨len,fun A outer s H args us vs Q E hr e0 hb r i5=>?_⟩
 have hl:=len _ _ _ _ i5
 obtain ⟨⟨u1,ef⟩,⟨u2,ec⟩⟩:=at' _ _ _ _ i5
 have Nw:=(e0.hok f _ ef).1
 have o8:=(e0.hok c _ ec).1
 have lim:s.heap.NoLimit:=e0.mod.nolimit.keeps fun b o e=>(e0.bs b o e).1
 refine PySem.W.kla_callFunE hr.depth Nw rfl S.co S.gen rfl ⟨c,oc,Nv,ct,rfl,o8,d1,d2⟩ (hb _ _ _ _ ?_)
 refine wpAny_newFunctionEnv S.nocell (fun y hy=>S.par y.1 (Na hy).1) (fun h1 dU uy=>⟨lim.fresh _ uy,?_⟩) S.kind
 have hk:∀b o,s.heap.get? b=some o->h1.get? b=some o:=fun b o e=>uy.extBut b o (lw (im e)) (ci _ e)
 obtain ⟨t,ht,hq⟩:=jL A outer s H vs Q E (hr.deeper _) i5
 have I:=DJ (CX:=CX) (qual:=qual) (f:=f) (c:=c) (E:=E) (tk:=s.toks+(ps.zip us).length) S C has hr.hd e0 hl dO r dU hk
 show codeAny _ _ (.expr body (LH qual scope s.heap.objs.size f (.ref c) aL)) _ _
 refine PySem.W.kla_codeExpr (l9 (ht [] _ _ H Q I hq) (fun u s' ⟨v,H',J,rv,q⟩=>?_) fun e s' hs=>hs)
 exact ⟨v,H',J.os,J.bare,J.base,J.hok,rv,q⟩
end
end L2
namespace L2
open PySem PySem.Spec PySem.W PyProof.Rows
structure Cd (K:bn) (mg:br->Option ap) (x:br) (st:nw) (ps:List br) (ds:List ap) (f:ag) (fd:l3):Prop where
 ex:∃(oc:ap) (od:Option ag) (dV kV doc pm:ap) (an:Option ag) (ck ct:ap) (iZ:Array (Option ap)),
  fd=wp x x (cA st) (bo st) (aj st) dV kV doc pm an ck ct/\K.lookup f=some ⟨oc,od,.func fd,iZ⟩/\Ch K ck x=true
 kp:xL K (.ref f)=true
 bd:Binds K fd ps ds
 bd0:Binds K fd ps []
 mg:mg x=some (.ref f)
section
variable {P:f8} {w:ii} {K:bn} {mg:br->Option ap} {base:gl} {tb:cC} {x:br} {st:nw} {f:ag} {fd:l3} {N ps:List br} {eQ:List ap} {k:Nat} {S:cp}
theorem Jm (D:Cd K mg x st ps eQ f fd) (sc:aT N ps (aj st)) (len:∀ds M Q E,S ds M Q E->ds.length=ps.length)
  (body:∀(A:l8) (outer:List Cc) (s:bi) (E:XK) (Γ:Gz) (ds:List Dv) (Q':ZK) (E':ZX),P=Γ.P->w=Γ.w->K=Γ.K->tb=Γ.tb->bF k (A.deeper (envOfC x (aj st) s.heap.objs.size f fd.code))->S ds Γ.M0 Q' E'->
   ∃p,jC Γ (eF bq P w K mg base N x (aj st) f fd.code A outer s Γ.H0 E).iX (bo st) p/\p (zEndsOf Γ.M0 Q') (zstart N ds) Γ.M0):FnOk P w K mg base bq (k+1) f fd ps (bg P w K tb S) :=by
 obtain ⟨oc,od,dV,kV,doc,pm,an,ck,ct,iZ,rfl,lk,c9⟩:=D.ex
 refine vo lk c9 sc (oK len) fun A outer s H vs Q E hr h=>?_
 obtain ⟨β,ds,M,Q',E',eP,ew,eK,et,m,rs,hS,q,_⟩:=h
 obtain ⟨p,hp,hq⟩:=body A outer s E ⟨β,M,H⟩ ds Q' E' eP.symm ew.symm eK.symm et.symm hr hS
 refine ⟨_,hp.iX,β,zstart N ds,M,zEndsOf M Q',mP (Γ:=⟨β,M,H⟩) m rs,hq,?_⟩
 have fin:∀d M' v H',Ex β M H M' H'->Rz β M' H' v d->iJ M Q' d M'->Q v H':=fun d M' v H' x r h=>lJ m q x r h
 exact ⟨fun bC M' aF H' x zr h=>fin _ _ _ _ ⟨zr.ent,x.mz⟩ .ao h,fun d M' v H' x e r h=>fin _ _ _ _ ⟨e,x.mz⟩ r h,fun _ _ _ _ _ _ h=>h,fun _ _ _ _ _ _ h=>h⟩
def Ce (P:f8) (w:ii) (K:bn) (tb:cC) (f:ag) (o:i4) (c:ag) (oc:i4) (vcs:List V) (S:List Dv->cp):Sp:=fun vs H Q E=>∃(β:Bz) (ds bO:List Dv) (M:Mh) (Q':ZK) (E':ZX),β.P=P/\β.w=w/\β.K=K/\β.tb=tb/\Mz β M H/\aE β M H vs ds/\Rz β M H (.ref f) (.bB f o c oc vcs bO)/\S bO ds M Q' E' /\
 (∀d M' v H',Ex β M H M' H'->Rz β M' H' v d->Q' d M'->Q v H')/\∀C M' H',Ex β M H M' H'->E' C M'->E (.ref C) none H'
theorem jd {β:Bz} {M:Mh} {H:Hp} {v:V} {f c:ag} {o oc:i4} {vs:List V} {ds:List Dv} (h:Rz β M H v (.bB f o c oc vs ds)):v=.ref f/\(∃u,H f=some (.bp o u))/\(∃u,H c=some (.bp oc u))/\aE β M H vs ds :=by
 cases h with
 |bB m e m2 e2 hl h=>exact ⟨rfl,⟨_,e⟩,⟨_,e2⟩,hl,h⟩
theorem G4 {Γ:Gz} {vs vcs:List V} {ds bO:List Dv} (m:Mz Γ.toBz Γ.M0 Γ.H0) (rs:aE Γ.toBz Γ.M0 Γ.H0 vs ds) (rc:aE Γ.toBz Γ.M0 Γ.H0 vcs bO):Zr Γ Γ.toBz Γ.M0 (ds.map some++bO.map some) (vs.map some++vcs.map some) Γ.H0:=
 ⟨rfl,rfl,rfl,rfl,fun _ h=>h,m.wf,.refl,m,by simp [rs.len,rc.len],fun i d e=>by
  rw [<- ut,ca,kt] at e
  obtain ⟨d2,e,e2⟩:=e
  cases e2
  obtain ⟨v,hv,r⟩:=(rs.append rc).get e
  exact ⟨v,by rw [<- ut,ca,hv];rfl,r⟩⟩
theorem LV {fs:List br} {qual:br} {scope:rb} {params:FS} {body:dL} {c:ag} {o oc:i4} {aL:List (br×ag)} {vcs:List V} {Sc:List Dv->cp} (L:v3 params body scope qual o c oc aL fd) (sc:j1 ps fs scope) (C:oO base fs aL vcs) (dO:vcs.length=fs.length)
  (len:∀bO ds M Q E,Sc bO ds M Q E->ds.length=ps.length)
  (hb:∀(A:l8) (outer:List Cc) (s:bi) (E:XK) (Γ:Gz) (bO ds:List Dv) (Q':ZK) (E':ZX),P=Γ.P->w=Γ.w->K=Γ.K->tb=Γ.tb->bF k (A.deeper (LH qual scope s.heap.objs.size f (.ref c) aL))->Sc bO ds Γ.M0 Q' E'->
   ∃p,QE Γ (vZ bq P w K mg base (ps++fs) qual scope f (.ref c) aL A outer s Γ.H0 E).iX body p/\p (ds.map some++bO.map some) Γ.M0 (iJ Γ.M0 Q')):FnOk P w K mg base bq (k+1) f fd ps (Ce P w K tb f o c oc vcs Sc) :=by
 refine G3 L sc C dO (fun vs H Q E hS=>by obtain ⟨β,ds,bO,M,Q',E',_,_,_,_,m,rs,rc,s,_⟩:=hS;exact rs.len.trans (len _ _ _ _ _ s)) (fun vs H Q E hS=>by obtain ⟨β,ds,bO,M,Q',E',_,_,_,_,m,rs,rc,s,_⟩:=hS;obtain ⟨_,h1,h2,_⟩:=jd rc;exact ⟨h1,h2⟩) fun A outer s H vs Q E hr h=>?_
 obtain ⟨β,ds,bO,M,Q',E',eP,ew,eK,et,m,rs,rc,hS,q,_⟩:=h
 obtain ⟨p,hp,hq⟩:=hb A outer s E ⟨β,M,H⟩ bO ds Q' E' eP.symm ew.symm eK.symm et.symm hr hS
 obtain ⟨_,_,_,Cg⟩:=jd rc
 exact ⟨_,hp.iX,β,_,M,_,G4 (Γ:=⟨β,M,H⟩) m rs Cg,hq,fun d M' v H' x r h=>lJ m q x r h⟩
end
section
variable {X:Cx} {Γ:Gz} {β:Bz} {CX:fm} {k:Nat} {f:ag} {fd:l3} {ps:List br} {E:XK} {E':ZX} {x:br} {p pos:sB} {e:dL} {es:List dL} {za:dX} {P:f8} {w:ii} {tb:cC} {K:bn}
def zCallL (f:ag) (o:i4) (c:ag) (oc:i4) (vcs:List V) (S:List Dv->cp) (E':ZX) (i:Nat) (za:dX):aH:=fun ρ M Q=>match ρ[i]? with
 |some (some (.bB f' o' c' G5 G6 bO))=>(f'=f/\o'=o/\c'=c/\G5=oc/\G6=vcs)/\za ρ M fun ds M1=>S bO ds M1 Q E'
 |_=>False
theorem AQ {c:ag} {o oc:i4} {vcs:List V} {S:List Dv->cp} {i:Nat} (F:FnOk X.prog X.w X.K X.mg X.base CX k f fd ps (Ce P w K tb f o c oc vcs S)) (ho:∃oc od fd sl,o=⟨oc,od,.func fd,sl⟩) (hr:bF k X.A) (hN:X.N[i]?=some x) (hv:l0 X.env.scope x) (hb:Binds X.K fd ps [])
  (hx:Passes CX X E) (hP:P=Γ.P) (hw:w=Γ.w) (hK:K=Γ.K) (ht:tb=Γ.tb) (hE:XR Γ E' E) (ha:QA Γ X (e::es) za) (dS:(x==("__debug__" : br))=false :=by decide) (c9:(x==("__classdict__" : br))=false :=by decide)
  (he:starEach (e::es) X.env=(false,eval e X.env)::starEach es X.env :=by rfl) (cK:(backTo pos (starEach es X.env)).any (·.1)=false :=by rfl):QE Γ X (.Call (.Name x p) (e::es) [] pos) (zCallL f o c oc vcs S E' i za):=
 (AO F ho hr hN hv hb hx ha dS c9 he cK).imp fun σ H Q ⟨β,ρ,M,Q',zr,h,q⟩=>by
  subst hP hw hK ht
  unfold zCallL at h
  split at h
  ·rename_i f' o' c' G5 G6 bO hi
   obtain ⟨⟨rfl,rfl,rfl,rfl,rfl⟩,h⟩:=h
   obtain ⟨v,hv,r⟩:=zr.at' i _ hi
   obtain ⟨rfl,h1,_,_⟩:=jd r
   refine ⟨hv,h1,β,ρ,M,_,zr,h,fun ds M1 vs H1 x1 r1 h2=>?_⟩
   have r':=r.ex x1
   obtain ⟨_,h3,_,_⟩:=jd r'
   exact ⟨h3,β,ds,bO,M1,Q',E',zr.eP,zr.ew,zr.eK,zr.et,x1.mz,r1,r',h2,fun d M2 v H2 x2 r2 h2=>q _ _ _ _ (x1.trans x2) r2 h2,fun C M2 H2 x2 h2=>hE C M2 H2 (n5 zr.ent zr.sub zr.eP zr.ew zr.eK zr.et (x1.trans x2)) h2⟩
  ·exact h.elim
end
theorem Ex.LW {X:Cx} {P:ag} {β:Bz} {M:Mh} {H H2:Hp} {f c:ag} {o oc:i4} (m:Mz β M H) (hp:∀q∈β.tb.l,q.1=P->q.2=fg X) (n:GY X P H H2 f o c oc):Ex β M H M H2 :=by
 obtain ⟨new,at',cd,lm,keep,⟨ps,hP⟩⟩:=n
 obtain ⟨ps2,Nx,_⟩:=id lm
 have nP:∀b u,H b=some u->(∀ps,u≠.lam ps)->b≠P:=fun b u e q z=>by rw [z,hP] at e;cases e;exact q _ rfl
 have ey:Ey M H M H2:=⟨fun b u _ e=>by
  by_cases hb:b=P
  ·subst hb
   rw [hP] at e;cases e
   exact .inr ⟨_,.inr (.inl ⟨ps,ps2,rfl,rfl⟩),Nx⟩
  ·exact .inl (keep b u e hb),fun _ h=>h,fun _ _ h _=>h⟩
 refine ⟨ey,fun a u e=>?_,fun q hq=>?_,fun a ha=>?_,m.apart,fun q hq=>?_⟩
 ·have z:=m.obj a u e
  have k:∀u,H a=some u->L2.mM u=true->H2 a=some u:=fun u h hu=>keep a u h (nP a u h (by intro ps z;subst z;cases hu))
  cases u with
  |lst ds=>obtain ⟨vs,z,l,r⟩:=z;exact ⟨vs,k _ z rfl,l,fun i v d a b=>(r i v d a b).ey ey⟩
  |dk ks ds=>obtain ⟨vs,z,hk,l,r⟩:=z;exact ⟨vs,k _ z rfl,hk,l,fun i v d a b=>(r i v d a b).ey ey⟩
  |dt ks ds=>obtain ⟨vs,z,hk,l,r⟩:=z;exact ⟨vs,k _ z rfl,hk,l,fun i v d a b=>(r i v d a b).ey ey⟩
  |bZ=>obtain ⟨c,n,z,r⟩:=z;exact ⟨c,n,k _ z rfl,r⟩
 ·obtain ⟨ps,e,t⟩:=m.tabs q hq
  exact ⟨ps,keep _ _ e (nP _ _ e (by intro ps z;cases z)),t⟩
 ·obtain ⟨u,e,n⟩:=m.hids a ha
  exact ⟨u,keep _ _ e (nP _ _ e (by intro ps z;subst z;cases n)),n⟩
 ·by_cases hb:q.1=P
  ·have:q=(P,fg X):=Prod.ext hb (hp q hq hb)
   rw [this];exact lm
  ·exact (m.lams q hq).keep (fun _ e=>keep _ _ e hb) fun c' _ _ e=>keep _ _ e (nP _ _ e (by intro ps z;cases z))
section
variable {X:Cx} {Γ:Gz} {β:Bz} {CX:fm} {k:Nat} {f:ag} {fd:l3} {ps:List br} {E:XK} {E':ZX} {x:br} {p pos k9:sB} {e1 e2:dL} {rest:List dL} {z1 z2:aH} {zr:dX} {P:f8} {w:ii} {tb:cC} {K:bn}
def oh:List Nat->av->Option (List Dv)
 | [],_=>some []
 |i::is,ρ=>match ρ[i]?,oh is ρ with|some (some d),some ds=>some (d::ds)|_,_=>none
theorem uT {Γ:Gz} {M:Mh} {ρ:av} {σ:St} {H:Hp} (z:Zr Γ β M ρ σ H):∀{idx:List Nat} {bO:List Dv},oh idx ρ=some bO->∃vcs,aE β M H vcs bO/\vcs.length=idx.length/\∀(j i:Nat) (v:V),idx[j]?=some i->vcs[j]?=some v->σ[i]?=some (some v)
 | [],bO,h=>by cases h;exact ⟨[],.nil,rfl,fun j i v h=>by simp at h⟩
 |i::is,bO,h=>by
          unfold oh at h
          split at h
          ·rename_i d ds h1 h2
           cases h
           obtain ⟨v,hv,r⟩:=z.at' i d h1
           obtain ⟨vcs,rs,l,q⟩:=uT z h2
           refine ⟨v::vcs,.cons r rs,by simp [l],fun j i' u a b=>?_⟩
           cases j with
           |zero=>simp at a b;subst a b;exact hv
           |succ j=>exact q j i' u (by simpa using a) (by simpa using b)
          ·cases h
def sG (X:Cx) (params:FS) (body:dL) (scope:rb) (idx:List Nat) (fs:List br) (S:gl->cp) (dd:List Dv) (E':ZX) (z1 z2:aH) (zr:dX):aH:=fun ρ M Q=>z1 ρ M fun d1 M1=>z2 ρ M1 fun d2 M2=>match oh idx ρ with
 |some bO=>∀f o c oc aL vcs,vcs.length=idx.length->GX X params body scope o c oc aL->zr ρ M2 fun es M3=>∀b',(∀b o,X.base.get? b=some o->b'.get? b=some o)->oO b' fs aL vcs->S b' (d1::d2::.bB f o c oc vcs bO::es++dd) M3 Q E'
 |none=>False
theorem v7 {params:FS} {body:dL} {scope:rb} {idx:List Nat} {fs:List br} {S:gl->cp} {eQ:List V} {dd:List Dv} {ds:List ap} {PT cX:ag} (eU:X.env.code=.ref cX) (c9:qr X.base cX PT) (cV:∃bm ob,P5 X.base mainGlobals X.mg bm ob) (qS:defaultsOf params X.env=([],[]))
  (lr:∀n,(n,mo)∈scope.names->X.env.kindOf n=some .cell\/X.env.kindOf n=some .free) (Ny:∀(j:Nat) (n:br),fs[j]?=some n->(n,mo)∈scope.names/\X.env.scope.names.lookup n=some .cell/\∃i,idx[j]?=some i/\X.N[i]?=some n)
  (pZ:(PT,fg X)∈Γ.tb.l) (G7:∀q∈Γ.tb.l,q.1=PT->q.2=fg X)
  (F:∀b',(∀b o,X.base.get? b=some o->b'.get? b=some o)->FnOk X.prog X.w X.K X.mg b' CX k f fd ps (bg P w K tb (S b'))) (hr:bF k X.A) (nh:∀x,X.fn x=true) (hg:Gl X x) (hm:X.mg x=some (.ref f)) (hk:xL X.K (.ref f)=true) (hb:Binds X.K fd ps ds) (hd:Vals eQ ds) (Nz:∀β M H,aE β M H eQ dd)
  (hx:Passes CX X E) (hP:P=Γ.P) (hw:w=Γ.w) (hK:K=Γ.K) (ht:tb=Γ.tb) (hE:XR Γ E' E) (h1:QE Γ X e1 z1) (h2:QE Γ X e2 z2) (h3:QA Γ X rest zr) (dS:(x==("__debug__" : br))=false :=by decide)
  (s1:starEach (e1::e2::.Lambda params body scope k9::rest) X.env=(false,eval e1 X.env)::starEach (e2::.Lambda params body scope k9::rest) X.env :=by rfl)
  (s2:starEach (e2::.Lambda params body scope k9::rest) X.env=(false,eval e2 X.env)::starEach (.Lambda params body scope k9::rest) X.env :=by rfl)
  (s3:starEach (.Lambda params body scope k9::rest) X.env=(false,eval (.Lambda params body scope k9) X.env)::starEach rest X.env :=by rfl)
  (cK:(backTo pos (starEach (e2::.Lambda params body scope k9::rest) X.env)).any (·.1)=false :=by rfl) :
  QE Γ X (.Call (.Name x p) (e1::e2::.Lambda params body scope k9::rest) [] pos) (sG X params body scope idx fs S dd E' z1 z2 zr):=
 (AK F hr nh hg hm hk hb hd hx (lx h1 (lx h2 (lx (G0 eU c9 cV qS lr) h3 s3) s2) s1) dS s1 cK).imp fun σ H Q ⟨β,ρ,M,Q',iN,h,q⟩=>by
  subst hP hw hK ht
  refine ⟨β,ρ,M,_,iN,h,fun d1 M1 v1 H1 x1 r1 h1=>⟨β,ρ,M1,_,iN.step x1,h1,fun d2 M2 v2 H2 x2 r2 h2=>?_⟩⟩
  have uK:=(iN.step x1).step x2
  have LX:(PT,fg X)∈β.tb.l :=by rw [iN.et];exact pZ
  have LY:∀q∈β.tb.l,q.1=PT->q.2=fg X :=by rw [iN.et];exact G7
  refine ⟨x2.mz.lams _ LX,fun lf o c oc aL H3 hO hN=>?_⟩
  split at h2
  ·rename_i bO Jn
   obtain ⟨vcs,Cg,lcs,at'⟩:=uT uK Jn
   have x3:=Ex.LW x2.mz LY hN
   have ym:=uK.step x3
   refine ⟨β,ρ,M2,_,ym,h2 lf o c oc aL vcs lcs hO,fun es M4 ws H4 x4 r4 h4=>?_⟩
   intro b' B
   obtain ⟨u1,a1⟩:=hN.at'
   obtain ⟨u2,a2⟩:=hN.cd
   have Ks:=x3.mz
   have NA:Fz β M2 lf:=x2.mz.fz hN.new
   have LZ:∀a o u,H3 a=some (.bp o u)->a ∉ β.hid:=fun a o u e z=>by
    obtain ⟨w,e',n⟩:=Ks.hids a z
    rw [e] at e';cases e';cases n
   have L0:Rz β M2 H3 (.ref lf) (.bB lf o c oc vcs bO):=.bB NA a1 ⟨Ks.jA a2 rfl,LZ _ _ _ a2⟩ a2 Cg.len fun i v d a b=>(Cg.at' i v d a b).ex x3
   have L1:oO b' fs aL vcs :=by
    refine ⟨fun n m a e e'=>B.inj n m a (hO.cells n a e) (hO.cells m a e'),fun n a e=>B.cells n a (hO.cells n a e),fun j n v hj hv=>?_⟩
    obtain ⟨fr,kc,i,hi,hn⟩:=Ny j n hj
    obtain ⟨a,u,e1,e2,e3⟩:=B.cell i n v hn (at' j i v hi hv) kc
    obtain ⟨a',e'⟩:=hO.has n fr
    have:=(hO.cells n a' e').symm.trans e1
    cases this
    exact ⟨a,u,e',e2,e3⟩
   have sg:=x2.trans (x3.trans x4)
   have NB:=x3.trans x4
   refine ⟨β,_,M4,Q',E',iN.eP,iN.ew,iN.eK,iN.et,x4.mz,?_,h4 b' B.ext L1,fun d M5 v H5 x5 r5 h5=>q _ _ _ _ (x1.trans (sg.trans x5)) r5 h5,fun C M5 H5 x5 h5=>hE C M5 H5 (n5 iN.ent iN.sub iN.eP iN.ew iN.eK iN.et (x1.trans (sg.trans x5))) h5⟩
   have rs:aE β M4 H4 (v1::v2::.ref lf::ws++eQ) (d1::d2::.bB lf o c oc vcs bO::es++dd):=.cons (r1.ex sg) (.cons (r2.ex NB) (.cons (L0.ex x4) (r4.append (Nz _ _ _))))
   exact rs
  ·exact h2.elim
end
end L2
namespace L2
open PySem PySem.Spec PyProof.Rows
theorem yK {P:f8} {w:ii} {K:bn} {mg mb:br->Option ap} {CX:fm} {k:Nat} {fa a:ag} {fd:l3} {x:br} {sp:Sp} {az:bi} {vs:List ap} {ns:List Int} {tabs lts:List ag}
  (KX:K.In az.heap) (dU:az.heap.Ns mainGlobals mg) (hb:az.heap.Ns builtinsNs mb) (yL:∀x:br,x ≠ "__name__" -> mb x=bootBuiltins x) (G8:az.heap.NoLimit) (hg:az.gens=#[])
  (ha:az.heap.get? a=some {cls:=.type "list",data:=.seq vs.toArray}) (hi:NO vs ns) (hl:ns.length<=sizeLine) (hr:bF k callerA)
  (oP:∀p∈tabs++lts,az.heap.get? p=some (Lu #[])/\isCodeTable az.heap p) (L3:∀p∈tabs,p ∉ lts) (yM:Qc K=true) (cV:∃bm ob,P5 az.heap mainGlobals mg bm ob)
  (F:∀base:gl,K.In base->base.Ns mainGlobals mg->(∃bm ob,P5 base mainGlobals mg bm ob)->(∀c p,qr az.heap c p->qr base c p)->FnOk P w K mg base CX k fa fd [x] sp)
  (Jo:∀(s:bi) (u:ap),Qn s fd ⟨[u],[]⟩ [(x,u)])
  (i5:∀H:Hp,(∀p∈tabs,Tb p H)->(∀p∈lts,H p=some (.lam #[]))->bA K H a (ns.map V.int)->sp [.ref a] H (fun v H'=>v=.bl true/\∀p∈lts,∃ps,H' p=some (.lam ps)) fun _ _ _=>False)
  (G9:∀H e s',CX [] H az (fun _ _ _=>False) e s'->False) :
  codeAny (model P w) callerA (.call (.ref fa) ⟨[.ref a],[]⟩) (fun r s'=>r=.ok (.ret (.bool true))/\OldK az.heap s'.heap/\s'.os=az.os/\QR s'.gens) az :=by
 have rv:=pD hi
 have L4:=hi.length
 have nK:a ∉ tabs++lts:=fun z=>by
  have e:=(oP a z).1
  rw [ha] at e
  cases e
 have core:∀H:Hp,(∀b u,H b=some u->(b=a/\∃o xs,u=.bp o (.lst xs))\/(b∈tabs++lts/\(u=.cz #[]/\b∈tabs\/u=.lam #[]/\b∈lts)))->(∀p∈tabs,H p=some (.cz #[]))->(∀p∈lts,H p=some (.lam #[]))->bA K H a (ns.map V.int)->cg P w H az.heap->(H a≠none->K.lookup a=none)->
   codeAny (model P w) callerA (.call (.ref fa) ⟨[.ref a],[]⟩) (fun r s'=>r=.ok (.ret (.bool true))/\OldK az.heap s'.heap/\s'.os=az.os/\QR s'.gens) az :=by
  intro H hO NC ND hS hok hK
  have lM:∀{b:ag} {o:i4},az.heap.get? b=some o->H b=none->(iq az.heap H).get? b=some o:=fun e n=>zM e n
  have no:∀{b:ag} {o:i4},az.heap.get? b=some o->(∀n,o.data≠.seq vs.toArray n)->o≠Lu #[]->H b=none:=fun {b o} e d1 d2=>by
   cases q:H b with
   |none=>rfl
   |some u=>
    rcases hO b u q with ⟨e',_⟩|⟨cQ,_⟩
    ·subst e'
     rw [ha] at e;cases e
     exact absurd rfl (d1 _)
    ·rw [(oP b cQ).1] at e
     exact absurd (hX e).symm d2
  have NF:∀{b:ag} {o:i4} {es:Array Pd} {ep:Nat},az.heap.get? b=some o->o.data=.dict es ep->H b=none:=fun {b o es ep} e d=>no e (fun n z=>by rw [d] at z;cases z) fun z=>by rw [z] at d;cases d
  have yN:∀{b:ag} {m:br->Option ap},az.heap.Ns b m->(iq az.heap H).Ns b m:=fun {b m} hS=>by obtain ⟨o,es,ep,e,d,r⟩:=hS;exact ⟨o,es,ep,lM e (NF e d),d,r⟩
  have Kt:K.In (iq az.heap H):=fun b o e=>lM (KX b o e) (by
   cases q:H b with
   |none=>rfl
   |some u=>
    rcases hO b u q with ⟨e',_⟩|⟨cQ,_⟩
    ·subst e'
     rw [hK (by rw [q];simp)] at e;cases e
    ·have e1:=KX b o e
     have e2:=(oP b cQ).1
     rw [e1] at e2
     have e3:o=Lu #[]:=hX e2
     have q2:=u7.mp yM (b,o) (PySem.W.kb_mem e)
     simp only [O8,decide_eq_true_eq,beq_iff_eq] at q2
     rcases q2 with (q2|q2)|q2
     ·rw [e3] at q2;exact absurd rfl q2
     ·obtain ⟨mc,⟨oc,es,ep,ho,hd,_⟩,_⟩:=G8
      rw [<- q2,e1] at ho
      cases ho
      rw [e3] at hd;cases hd
     ·obtain ⟨oc,es,ep,ho,hd,_⟩:=id dU
      rw [<- q2,e1] at ho
      cases ho
      rw [e3] at hd;cases hd)
  have hM:Mod K mg (iq az.heap H):=⟨Kt,yN dU,⟨mb,yN hb,yL⟩,let ⟨mc,h1,h2⟩:=G8;⟨mc,yN h1,h2⟩⟩
  have hB:∃bm ob,P5 (iq az.heap H) mainGlobals mg bm ob :=by
   obtain ⟨bm,ob,B⟩:=cV
   exact ⟨bm,ob,yN B.ns,B.name,B.ne,lM B.obj (no B.obj (fun n z=>by rw [B.data] at z;cases z) fun z=>by have:=B.data;rw [z] at this;cases this),B.cls,B.dict,B.data⟩
  have hC:∀c p,qr az.heap c p->qr (iq az.heap H) c p:=fun c p ⟨o,rY,file,tf,flags,tg,NI,text,tt,e1,e2,e3,r⟩=>
   ⟨o,rY,file,tf,flags,tg,NI,text,tt,lM e1 (no e1 (fun n z=>by rw [e3] at z;cases z) fun z=>by rw [z] at e2;cases e2),e2,e3,r⟩
  have e0:oz P w K mg (iq az.heap H) callerA [] az H:=⟨rfl,hM,fun b o e=>CL e,QB (wV _ _),trivial,fun b hb=>absurd (show b∈([]:List ag) from hb) (by simp),hok,.of_eq hg⟩
  refine Qq ((F _ Kt (yN dU) hB hC).run callerA [] az H ⟨[.ref a],[]⟩ [.ref a] [.ref a] _ _ hr e0 (Jo az (.ref a)) (.cons rfl .nil) (i5 H (fun p hp=>⟨#[],NC p hp,trivial⟩) ND hS)) fun r s' h=>?_
  cases r with
  |error e=>exact (G9 H e s' h).elim
  |ok fl=>
   cases fl with
   |next=>exact AC h
   |brk=>exact AC h
   |cont=>exact AC h
   |ret u=>
    obtain ⟨v,H',os,bare,un,AR,r',q⟩:=h
    obtain ⟨q',qL⟩:=q
    subst q'
    obtain rfl:u=QX true:=r'
    have all:∀b o,az.heap.get? b=some o->asItWas az.heap s'.heap b o/\∃o',s'.heap.get? b=some o':=fun b o e=>by
     cases q:H b with
     |none=>
      have:=un.keep b o e q (by intro z;exact absurd (show b∈([]:List ag) from z) (by simp)) (by simp)
      exact ⟨.inl this,_,this⟩
     |some u=>
      rcases hO b u q with ⟨_,ob,xs,z⟩|⟨cQ,z⟩
      ·subst z
       have z2:=un.frzs b ob _ q
       obtain ⟨e1,_⟩:=hok b _ q
       obtain ⟨e2,_⟩:=AR b _ z2
       rw [e] at e1;cases e1
       exact ⟨.inl e2,_,e2⟩
      ·have e2:∃more,s'.heap.get? b=some {cls:=.none,data:=.fields (#[]++more)}:=by
        rcases z with ⟨z,_⟩|⟨z,Ku⟩
        ·subst z
         obtain ⟨more,z2⟩:=un.tbls b #[] q
         exact ⟨more,AR b _ z2⟩
        ·obtain ⟨ps,z2⟩:=qL b Ku
         refine ⟨ps,?_⟩
         have:=AR b _ z2
         rw [show (#[]:Array ap)++ps=ps by simp]
         exact this
       obtain ⟨more,e2⟩:=e2
       have e1:=(oP b cQ).1
       rw [e] at e1
       obtain rfl:o=Lu #[]:=hX e1
       exact ⟨.inr (.inl ⟨(oP b cQ).2,rfl,#[],more,rfl,e2⟩),_,e2⟩
    exact ⟨rfl,⟨fun b o e=>(all b o e).1,fun b o e=>(all b o e).2⟩,os,bare.1⟩
 have Ha:∀p∈tabs++lts,∀H:Hp,∀u,(u=.cz #[]/\p∈tabs\/u=.lam #[]/\p∈lts)->ObjOk P w H az.heap p u:=fun p hp H u hu=>by
  rcases hu with ⟨rfl,_⟩|⟨rfl,_⟩ <;> exact (oP p hp).1
 let T:Hp:=fun b=>if b∈lts then some (.lam #[]) else if b∈tabs then some (.cz #[]) else none
 have T1:∀b u,T b=some u->b∈tabs++lts/\(u=.cz #[]/\b∈tabs\/u=.lam #[]/\b∈lts):=fun b u z=>by
  by_cases h1:b∈lts
  ·have z':=(show T b=_ from if_pos h1).symm.trans z
   cases z'
   exact ⟨li _ h1,.inr ⟨rfl,h1⟩⟩
  ·by_cases h2:b∈tabs
   ·have z':=(show T b=_ from (if_neg h1).trans (if_pos h2)).symm.trans z
    cases z'
    exact ⟨zw _ h2,.inl ⟨rfl,h2⟩⟩
   ·have z':=(show T b=_ from (if_neg h1).trans (if_neg h2)).symm.trans z
    cases z'
 have T2:∀p∈tabs,T p=some (.cz #[]):=fun p hp=>(if_neg (L3 p hp)).trans (if_pos hp)
 have T3:∀p∈lts,T p=some (.lam #[]):=fun p hp=>if_pos hp
 have Ta:T a=none:=(if_neg fun z=>nK (li _ z)).trans (if_neg fun z=>nK (zw _ z))
 cases hk:K.lookup a with
 |some o=>
  have e:=KX a o hk
  rw [ha] at e
  cases e
  exact core T (fun b u z=>.inr (T1 b u z)) T2 T3 (.inr ⟨_,vs.toArray,_,hk,rfl,rfl,rfl,by rw [ff,L4];exact hl,by simpa using rv⟩) (fun b u z=>Ha b (T1 b u z).1 _ u (T1 b u z).2) fun z=>absurd Ta z
 |none=>
  have na:∀p∈tabs++lts,p≠a:=fun p hp z=>nK (z▸hp)
  refine core (upd T a (.bp {cls:=.type "list",data:=.seq vs.toArray} (.lst (ns.map V.int)))) (fun b u z=>?_) (fun p hp=>by rw [ae (na p (zw _ hp))];exact T2 p hp) (fun p hp=>by rw [ae (na p (li _ hp))];exact T3 p hp) (.inl (.inr ⟨_,aA⟩)) (fun b u z=>?_) fun _=>hk
  ·by_cases hb:b=a
   ·subst hb
    rw [aA] at z
    cases z
    exact .inl ⟨rfl,_,_,rfl⟩
   ·rw [ae hb] at z
    exact .inr (T1 b u z)
  ·by_cases hb:b=a
   ·subst hb
    rw [aA] at z
    cases z
    exact ⟨ha,by rw [cr];exact hl,vs,_,rv,ha⟩
   ·rw [ae hb] at z
    exact Ha b (T1 b u z).1 _ u (T1 b u z).2
def qO (K:bn) (x:br):Option ag:=match l6 K mainGlobals x with
 |some (some (.ref f))=>(match K.lookup f with
  |some ⟨_,_,.func fd,_⟩=>(match fd.code with
   | .ref c=>(match K.lookup c with
    |some ⟨_,_,.fields vs,_⟩=>(match vs[11]? with|some (mT p)=>some p|_=>none)
    |_=>none)
   |_=>none)
  |_=>none)
 |_=>none
abbrev TabOf (mg:br->Option ap) (h:gl) (y:br) (p:ag):Prop:=∃f o fd c,mg y=some (.ref f)/\h.get? f=some o/\o.data=.func fd/\fd.code=.ref c/\qr h c p
theorem sH {K:bn} {mg:br->Option ap} {h:gl} {y:br} {p q:ag} (X:K.In h) (G:h.Ns mainGlobals mg) (t:TabOf mg h y p) (e:qO K y=some q):p=q :=by
 obtain ⟨f,o,fd,c,e1,e2,e3,e4,oc,vs,_,_,_,_,_,_,_,g1,_,g3,g4,_⟩:=t
 unfold qO at e
 split at e
 ·rename_i f' dU
  have:=(MW X G dU).symm.trans e1
  cases this
  split at e
  ·rename_i G5 OV BO JR Hb
   have:=(X _ _ Hb).symm.trans e2
   cases this
   cases e3
   rw [e4] at e
   dsimp only at e
   split at e
   ·rename_i a1 a2 rY a3 NK
    have:=(X _ _ NK).symm.trans g1
    cases this
    cases g3
    rw [g4] at e
    cases e
    rfl
   ·cases e
  ·cases e
 ·cases e
def oQ (K:bn) (gs ls:List br):Bool:=gs.all fun x=>ls.all fun y=>match qO K x,qO K y with|some p,some q=>decide (p≠q)|_,_=>false
theorem uU {α β:Type} {F:α->β->Prop} {l:List α} {m:List β} (h:At F l m) {b:β} (hb:b∈m):∃a∈l,F a b :=by
 induction h with
 |nil=>simp at hb
 |cons x t ih=>
  rcases lc.mp hb with e|e
  ·subst e;exact ⟨_,i8,x⟩
  ·obtain ⟨a,ha,q⟩:=ih e
   exact ⟨a,gc _ ha,q⟩
theorem AU {K:bn} {mg:br->Option ap} {h:gl} {gs ls:List br} {tabs lts:List ag} (X:K.In h) (G:h.Ns mainGlobals mg) (d:oQ K gs ls=true) (t1:At (TabOf mg h) gs tabs) (t2:At (TabOf mg h) ls lts):∀p∈tabs,p ∉ lts:=fun p hp hq=>by
 obtain ⟨x,hx,tx⟩:=uU t1 hp
 obtain ⟨y,hy,ty⟩:=uU t2 hq
 have:=u7.mp (u7.mp d x hx) y hy
 split at this
 ·rename_i p' q' e1 e2
  have a:=sH X G tx e1
  have b:=sH X G ty e2
  exact (of_decide_eq_true this) (a.symm.trans b)
 ·cases this
theorem AV {l:QN} {n k:Nat} {q:f8} {loose:List br} {XP:(br->Option ap)->gl->Prop} {YP:ii->gl->Prop} {d:DefRec} {K:QZ->bn} {CX:fm} {sp:bn->List ag->List ag->Sp} {x:br} {ke yO:List br}
  (hn:l.most=some n) (NM:n<=sizeLine) (xF:d.params.defaults=[]) (hr:bF k callerA) (yM:∀w:ii,Qc (K w.params)=true)
  (Ci:∀y∈ke++yO,∃r∈recsOf q,r.name=y) (mn:∀w:ii,oQ (K w.params) ke yO=true)
  (hY:∀(w:ii) (h:gl),YP w h->(K w.params).In h)
  (F:∀(w:ii) (mg:br->Option ap) (fa:ag) (h:gl) (tabs lts:List ag),(K w.params).In h->h.Ns mainGlobals mg->mg d.name=some (.ref fa)->
   At (TabOf mg h) ke tabs->At (TabOf mg h) yO lts->
   ∃fd:l3,(∀(s:bi) (u:ap),Qn s fd ⟨[u],[]⟩ [(x,u)]) /\
    ∀base:gl,(K w.params).In base->base.Ns mainGlobals mg->(∃bm ob,P5 base mainGlobals mg bm ob)->(∀c p,qr h c p->qr base c p)->FnOk l.prog w (K w.params) mg base CX k fa fd [x] (sp (K w.params) tabs lts))
  (i5:∀(K:bn) (tabs lts:List ag) (H:Hp) (a:ag) (ns:List Int),lts.length=yO.length->ns.length<=n->(∀p∈tabs,Tb p H)->(∀p∈lts,H p=some (.lam #[]))->bA K H a (ns.map V.int)->sp K tabs lts [.ref a] H (fun v H'=>v=.bl true/\∀p∈lts,∃ps,H' p=some (.lam ps)) fun _ _ _=>False)
  (G9:∀(H:Hp) (s:bi) (e:ap) (s':bi),CX [] H s (fun _ _ _=>False) e s'->False) :
  PySem.W.WalkO q loose XP YP l.row.toRowW d [] (fun f vs=>QV f vs) :=by
 refine J1.tT hn xF fun w s₀ az mg mb fa o pm cd doc a vs ns G Y ho hd c9 xG Ad hints hlen hg=>?_
 have KX:=hY w _ Y
 have tb:∀ke:List br,(∀y∈ke,∃r∈recsOf q,r.name=y)->∃tabs,At (TabOf mg az.heap) ke tabs/\∀p∈tabs,az.heap.get? p=some (Lu #[])/\isCodeTable az.heap p :=by
  intro ke
  induction ke with
  |nil=>intro _;exact ⟨[],.nil,fun p hp=>absurd hp (by simp)⟩
  |cons y r ih=>
   intro hm
   obtain ⟨tabs,h1,h2⟩:=ih fun z hz=>hm z (gc _ hz)
   obtain ⟨rr,NN,e⟩:=hm y i8
   obtain ⟨f,o',fd,c,p,a1,a2,a3,a4,a5,a6⟩:=G.T.tab rr NN
   rw [e] at a1
   refine ⟨p::tabs,.cons ⟨f,o',fd,c,a1,a2,a3,a4,.of a5 a6⟩ h1,fun z hz=>?_⟩
   rcases lc.mp hz with rfl|hz
   ·exact ⟨a6.2,a6.isCodeTable⟩
   ·exact h2 z hz
 obtain ⟨tabs,t1,t2⟩:=tb ke fun y hy=>Ci y (zw _ hy)
 obtain ⟨lts,u1,u2⟩:=tb yO fun y hy=>Ci y (li _ hy)
 obtain ⟨fd,hb,hF⟩:=F w mg fa _ tabs lts KX G.T.g xG t1 u1
 exact yK (lts:=lts) KX G.T.g G.T.b G.T.builtins G.T.nolimit hg Ad hints (r6 hlen NM) hr (fun p hp=>(wT.mp hp).elim (t2 p) (u2 p)) (AU KX G.T.g (mn w) t1 u1) (yM w) (PySem.W.bmod_of_top G.T) hF hb (fun H hO hL hS=>i5 _ tabs lts H a ns (OF u1).symm hlen hO hL hS) fun H e s'=>G9 H az e s'
abbrev la (K:bn) (x:br) (st:nw) (dv:ap):Prop:=
 ∃(f:ag) (oc:ap) (od:Option ag) (sl:Array (Option ap)) (T:ag) (oT:i4) (nT:Nat) (kV dc pm:ap) (an:Option ag) (cd ct:ap),
  l6 K mainGlobals x=some (some (.ref f))/\K.lookup f=some ⟨oc,od,.func (wp x x (cA st) (bo st) (aj st) (.ref T) kV dc pm an cd ct),sl⟩/\Ch K cd x=true/\xL K (.ref f)=true/\K.lookup T=some oT/\oT.data=.seq #[dv] nT
theorem yP {K:bn} {x:br} {st:nw} {dv:ap} {f:ag} {oc:ap} {od:Option ag} {sl:Array (Option ap)} {T:ag} {oT:i4} {nT:Nat} {kV dc pm:ap} {an:Option ag} {cd ct:ap} (a:l6 K mainGlobals x=some (some (.ref f)))
  (l:K.lookup f=some ⟨oc,od,.func (wp x x (cA st) (bo st) (aj st) (.ref T) kV dc pm an cd ct),sl⟩) (c:Ch K cd x=true) (k:xL K (.ref f)=true) (t:K.lookup T=some oT) (u:oT.data=.seq #[dv] nT):la K x st dv:=⟨f,oc,od,sl,T,oT,nT,kV,dc,pm,an,cd,ct,a,l,c,k,t,u⟩
theorem la.df {K:bn} {mg:br->Option ap} {h:gl} {x:br} {st:nw} {dv:ap} (d:la K x st dv) (X:K.In h) (G:h.Ns mainGlobals mg) (ps:List br)
  (hb:∀(T:ag) (kV doc pm:ap) (an:Option ag) (ck ct:ap) (us:List ap),us.length+1=ps.length->∃k,bindArgs (wp x x (cA st) (bo st) (aj st) (.ref T) kV doc pm an ck ct) ⟨us,[]⟩=seqItems? (.ref T)>>=k/\k (some #[dv])=pure (ps.zip (us++[dv])))
  (yQ:∀(T:ag) (kV doc pm:ap) (an:Option ag) (ck ct:ap) (us:List ap),us.length=ps.length->∃k,bindArgs (wp x x (cA st) (bo st) (aj st) (.ref T) kV doc pm an ck ct) ⟨us,[]⟩=seqItems? (.ref T)>>=k/\k (some #[dv])=pure (ps.zip us)) :
  ∃f fd,Cd K mg x st ps [dv] f fd :=by
 obtain ⟨f,oc,od,sl,T,oT,nT,kV,dc,pm,an,cd,ct,a,l,c,k,t,u⟩:=d
 refine ⟨f,_,⟨oc,od,.ref T,kV,dc,pm,an,cd,ct,sl,rfl,l,c⟩,k,fun s us hK hl=>?_,fun s us hK hl=>?_,MW X G a⟩
 ·obtain ⟨kk,h1,h2⟩:=hb T kV dc pm an cd ct us (by rw [v6] at hl;exact hl)
  exact PySem.W.binds_K hK rfl t u h1 h2
 ·rw [BY] at hl ⊢
  obtain ⟨kk,h1,h2⟩:=yQ T kV dc pm an cd ct us hl
  exact PySem.W.binds_K hK rfl t u h1 h2
theorem AW {K:bn} {tabs lts:List ag} {qs:List br} {H:Hp} {a:ag} {ns:List Int} (hl:lts.length=qs.length) (hn:ns.length<=63) (hT:∀p∈tabs,Tb p H) (hL:∀p∈lts,H p=some (.lam #[])) (hS:bA K H a (ns.map V.int)) :
  spLaw K ⟨tabs,lts.zip qs⟩ [.ref a] H (fun v H'=>v=.bl true/\∀p∈lts,∃ps,H' p=some (.lam ps)) fun _ _ _=>False:=
 ⟨a,ns,rfl,hS,hn,hT,fun p hp=>⟨#[],hL p.1 (Na hp).1,trivial,fun pos cv e=>nomatch e⟩,fun H' h=>⟨rfl,fun p hp=>by
  obtain ⟨i,hi⟩:=l7.mp hp
  have h1:=(bv.mp hi).1
  exact h (p,qs[i]) (db (i:=i) (JJ.mpr ⟨hi,al (by omega)⟩))⟩⟩
theorem yR {K:bn} {x:br} {st:nw} {i:Int} {tk:QH} {f:ag} {oc:ap} {od:Option ag} {sl:Array (Option ap)} {T:ag} {oT:i4} {nT:Nat} {kV dc pm:ap} {an:Option ag} {cd ct:ap} (a:l6 K mainGlobals x=some (some (.ref f)))
  (l:K.lookup f=some ⟨oc,od,.func (wp x x (cA st) (bo st) (aj st) (.ref T) kV dc pm an cd ct),sl⟩) (c:Ch K cd x=true) (k:xL K (.ref f)=true) (t:K.lookup T=some oT) (u:oT.data=.seq #[.int i tk] nT):∃tk,la K x st (.int i tk):=⟨tk,yP a l c k t u⟩
structure lb (h:gl) (d:ag) (es:Array Pd) (ep:Nat):Prop where
 ex:∃o,h.get? d=some o/\o.cls=.type "dict" /\ o.data=.dict es ep
abbrev qb (d:ag) (i n ep:Nat):i4:={cls:=.type "dict_keyiterator",dict:=none,data:=.fields #[.ref d,.int i 0,.int n 0,.int ep 0],slots:=#[]}
theorem yS (d:ag):¬ ((mT d==Cs)=true):=fun z=>nomatch (show false=true from z)
section
variable {prog:f8} {w:ii} {A:l8} {E:ap->bi->Prop} {s:bi} {d it:ag} {es:Array Pd} {ep i:Nat}
theorem yT {Q:ap->bi->Prop} (lo:(d==sysModules)=false) (r:lb s.heap d es ep) (q:Q (.ref s.heap.objs.size) {s with heap:=s.heap.push (qb d 0 es.size ep)}) :
  wpAny (model prog w) A (pyIter (.ref d)) Q E s :=by
 obtain ⟨o,g,c,dt⟩:=r
 have ty:s.TypeIs (.ref d) "dict" := ⟨o,g,c⟩
 refine Qj ty PySem.F.slot_dict_iter (xw PySem.F.slot_dict_iter ty PySem.F.entry_dict_iter ?_ (PySem.F.args_dict_iter_1 _))
 unfold uu.«dict.__iter__» uu.Dict.dictSlotNone
 refine ba (ba (wpAny_notOrdered_dict ty ?_))
 refine (show wpAny _ _ (pure (mT d)) _ _ s from ce ?_)
 refine (show wpAny _ _ (uu.Dict.showsAll d>>=_) _ _ s from ?_)
 unfold uu.Dict.showsAll;rw [if_neg (by rw [lo];decide)]
 refine ba (ce (ba (Ql g dt (ba (QO g dt ?_)))))
 refine ba (tz (ce ⟨_,rfl,"dict_keyiterator",_,⟨_,i1 _ rfl,rfl⟩,xz.lookup,?_⟩))
 simpa [rawInt,qb] using q
theorem yU {Q:Option ap->bi->Prop} (gi:s.heap.get? it=some (qb d i es.size ep)) (r:lb s.heap d es ep) (hi:i<es.size)
  (q:∀h',h'.get? it=some (qb d (i+1) es.size ep)->NJ it s.heap h'->Q (some es[i].key) {s with heap:=h'}):wpAny (model prog w) A (pyNext (.ref it)) Q E s :=by
 obtain ⟨o,g,c,dt⟩:=r
 have ty:s.TypeIs (.ref it) "dict_keyiterator" := ⟨_,gi,rfl⟩
 unfold pyNext
 refine ba (OL (zn (name:=ww "__next__") ty xz (xw xz ty PySem.F.entry_dict_keyiterator_next ?_ (PySem.F.args_dict_keyiterator_next_1 _))))
 refine ba (ce (ba (ba ?_)))
 refine ba (EU ty (ce (ba (On gi rfl ?_))))
 simp only [show uu.Dict_items.ownsTuple "dict_keyiterator" = false by decide,l4,if_false]
 refine (show wpAny _ _ (if (mT d==Cs)=true then _ else _) _ _ s from ?_)
 rw [if_neg (yS d)]
 refine ba (ce (ba (Ql g dt ?_)))
 rw [if_neg (by simp)]
 refine ba (ce (ba (QO g dt ?_)))
 rw [if_neg (by simp)]
 refine ce ?_
 simp only [show ¬ ((i:Int)<0) by omega,if_false,u8,Co hi]
 refine ba (ba (EU ty (ce (ba (wpAny_isOneOf_keyiter ty ?_)))))
 refine (show wpAny _ _ (setField (.ref it) 1 (rawInt ((i:Int)+1))>>=_) _ _ s from ba (wpAny_setField_rec gi (by simp) fun h1 e1 b1=>?_))
 have e1:h1.get? it=some (qb d (i+1) es.size ep) :=by
  rw [e1];simp [qb,rawInt]
 refine ba (IS (ba (wpAny_isOneOf_keyiter (s:={s with heap:=h1}) ⟨_,e1,rfl⟩ ?_)))
 exact (show wpAny _ _ (pure es[i].key) _ _ _ from ce (ce ⟨_,rfl,ce (q _ e1 b1)⟩))
theorem AX {Q:Option ap->bi->Prop} (hh:A.handled=none) (gi:s.heap.get? it=some (qb d i es.size ep)) (r:lb s.heap d es ep) (hi:es.size<=i)
  (q:∀h',gl.ExtBut it s.heap h'->Q none {s with heap:=h'}):wpAny (model prog w) A (pyNext (.ref it)) Q E s :=by
 obtain ⟨o,g,c,dt⟩:=r
 have ty:s.TypeIs (.ref it) "dict_keyiterator" := ⟨_,gi,rfl⟩
 unfold pyNext
 refine ba (OL (zn (name:=ww "__next__") ty xz (xw xz ty PySem.F.entry_dict_keyiterator_next ?_ (PySem.F.args_dict_keyiterator_next_1 _))))
 refine ba (ce (ba (ba ?_)))
 refine ba (EU ty (ce (ba (On gi rfl ?_))))
 simp only [show uu.Dict_items.ownsTuple "dict_keyiterator" = false by decide,l4,if_false]
 refine (show wpAny _ _ (if (mT d==Cs)=true then _ else _) _ _ s from ?_)
 rw [if_neg (yS d)]
 refine ba (ce (ba (Ql g dt ?_)))
 rw [if_neg (by simp)]
 refine ba (ce (ba (QO g dt ?_)))
 rw [if_neg (by simp)]
 refine ce ?_
 simp only [show ¬ ((i:Int)<0) by omega,if_false,u8,Pw hi]
 refine ba (ba (EU ty (ce ?_)))
 refine (show wpAny _ _ (setField (.ref it) 0 .none>>=_) _ _ s from ba (wpAny_setField_rec gi (by simp) fun h1 e1 b1=>?_))
 refine (show wpAny _ _ (newExc (.type "StopIteration") []>>=_) _ _ _ from ba ?_)
 simp only [newExc,newTuple]
 refine ba (tz (ba (m:=firstArgMember _ _) (wpAny_of_eq (a:=Cs) (by first|rfl|(simp only [firstArgMember];rfl)) (tz ?_ (by size_fits)))) (by size_fits))
 simp only [raiseNew]
 refine ba (wpAny_handled ?_)
 rw [show A.in1.handled=none from hh]
 refine ba (ce (wpAny_throw ?_))
 refine ba (Qu (T := "StopIteration") (b:=true) ⟨_,i1 _ rfl,rfl⟩ isSubtype_stop (ce (q _ ?_)))
 exact (b1.extBut.push _).push _
end
def Cj (es:Array Pd) (ps:List (V×V)):Prop:=es.size=ps.length/\∀(i:Nat) (p:V×V),ps[i]?=some p->∃hi:i<es.size,RelV p.1 es[i].key/\RelV p.2 es[i].val
inductive v8 (H:Hp):HO->List (V×V)->Prop where
 |k (ai:List (Key×V)):v8 H (.dK ai) (ai.map fun kv=>(kV kv.1,kv.2))
 |t (ai:List (List Key×V)) (bs:List ag) (hl:bs.length=ai.length) (h:∀(i:Nat) (b:ag) (kv:List Key×V),bs[i]?=some b->ai[i]?=some kv->H b=some (.tup (kv.1.map kV))):v8 H (.dT ai) ((bs.map V.ref).zip (ai.map (·.2)))
theorem AY {P:f8} {w:ii} {k:Key} {u:ap} (h:(bj P w).is k u=true):RelV (kV k) u :=by
 rcases bP (k:=k) (v:=u) h with ⟨i,t,rfl,rfl⟩|⟨x,t,rfl,rfl⟩
 ·exact ⟨t,rfl⟩
 ·exact ⟨t,rfl⟩
theorem je {α β:Type} {F:α->β->Prop}:∀{l:List α} {m:List β} {i:Nat} {a:α},At F l m->l[i]?=some a->∃b,m[i]?=some b/\F a b
 |_,_,_,_,.nil,h=>by simp at h
 |_,_,0,_,.cons x _,h=>by simp at h;subst h;exact ⟨_,rfl,x⟩
 |_,_,i+1,_,.cons _ t,h=>by obtain ⟨b,e,q⟩:=je (i:=i) t (by simpa using h);exact ⟨b,by simpa using e,q⟩
section
variable {P:f8} {w:ii} {H:Hp} {h:gl} {a:ag} {u:HO}
structure Rows (H:Hp) (h:gl) (a:ag) (u:HO) (o:i4) (es:Array Pd) (ep:Nat) (ps:List (V×V)):Prop where
 obj:h.get? a=some o
 cls:o.cls=.type "dict"
 dict:o.dict=none
 data:o.data=.dict es ep
 lo:(a==sysModules)=false
 rel:Cj es ps
 ps:v8 H u ps
theorem DK (ok:cg P w H h) (e:Rd H a u) (hu:iC u=true):∃o es ep ps,Rows H h a u o es ep ps :=by
 have q:=e.ok ok
 cases u with
 |dK ai=>
  obtain ⟨z,lo,vs,rel,o,es,ep,g,x,dt,hk,hp,hn⟩:=q
  refine ⟨o,es,ep,_,g,x.1,x.2.1,dt,lo,⟨?_,fun i p hi=>?_⟩,.k ai⟩
  ·have h1:=hp.length
   have h2:=rel.length
   simp only [cr,ul] at h1 ⊢
   omega
  ·rw [ca,kt] at hi
   obtain ⟨kv,qd,rfl⟩:=hi
   obtain ⟨⟨k',v'⟩,hv,e1,e2⟩:=je rel qd
   have hl:i<es.size :=by
    have h1:=hp.length
    have h2:=(bv.mp hv).1
    simp only [ul] at h1
    omega
   obtain ⟨a1,a2⟩:=hp.get? (e:=es[i]) (by simp [hl]) hv
   refine ⟨hl,?_,?_⟩
   ·rw [e1];exact AY a1
   ·rw [a2];exact e2
 |dT ai=>
  obtain ⟨z,lo,xs,rel,o,es,ep,g,x,dt,he,hn⟩:=q
  have NP:ai.length=xs.length:=OF rel
  have NQ:es.size=xs.length :=by
   have:=congrArg List.length he
   simpa using this
  refine ⟨o,es,ep,_,g,x.1,x.2.1,dt,lo,⟨?_,fun i p hi=>?_⟩,.t ai (xs.map (·.2.1)) (by rw [cr];exact NP.symm) fun i b kv hb qd=>?_⟩
  ·simp only [Pa,cr];omega
  ·rw [JJ,zd,ca,ca,kt,kt] at hi
   obtain ⟨⟨x1,yV,e1⟩,⟨kv,qd,e2⟩⟩:=hi
   obtain ⟨x2,yW,_,_,r⟩:=je rel qd
   rw [yV] at yW
   cases yW
   have hl:i<es.size :=by rw [NQ];exact (bv.mp yV).1
   have Kv:es[i]=entryOfKey (tupleKind (bj P w)) x1 :=by
    have:es.toList[i]?=some (entryOfKey (tupleKind (bj P w)) x1) :=by rw [he,ca,yV];rfl
    rw [IN,Co hl] at this
    exact hX this
   refine ⟨hl,?_,?_⟩
   ·rw [Kv,<- e1];rfl
   ·rw [Kv,<- e2];exact r
  ·rw [ca,kt] at hb
   obtain ⟨x1,yV,rfl⟩:=hb
   obtain ⟨x2,yW,e1,e2,_⟩:=je rel qd
   rw [yV] at yW
   cases yW
   exact e2
 |_=>cases hu
end
inductive gb (a:ag) (o:i4) (u:HO) (H:Hp):Hp->Prop where
 |now (e:H a=some u) (hu:iC u=true):gb a o u H (upd H a (.bp o u))
 |was (e:H a=some (.bp o u)):gb a o u H H
theorem gb.at {a:ag} {o:i4} {u:HO} {H H2:Hp} (f:gb a o u H H2):H2 a=some (.bp o u) :=by
 cases f with
 |now e hu=>exact aA
 |was e=>exact e
section
variable {X:Cx} {pins:List (ag×i4)} {σ:St} {H:Hp} {s:bi} {a:ag} {o:i4} {u:HO}
theorem Inv.bp (I:Inv X pins σ H s) (e:H a=some u) (hu:iC u=true) (ho:s.heap.get? a=some o):Inv X pins σ (upd H a (.bp o u)) s :=by
 have nT:∀b v,H b=some v->iC v=false->b≠a:=fun b v q n z=>by rw [z,e] at q;cases q;rw [hu] at n;cases n
 have n0:∀b,H b=none->b≠a:=fun b q z=>by rw [z,e] at q;cases q
 have J:=I.un (t':=s.toks) (h':=s.heap) (H':=upd H a (.bp o u)) ⟨fun b v q n _ _=>q,fun b v q n _ _=>⟨v.slots,q⟩,fun b v q n _=>by rw [ae (n0 b n)];exact n,fun b v q _=>⟨v,q⟩,fun b xs q=>by rw [ae (nT b _ q rfl)];exact q,
  fun b v xs q=>by rw [ae (nT b _ q rfl)];exact q,fun b qs q=>⟨#[],by rw [ae (nT b _ q rfl),q];simp⟩⟩ fun b v q=>?_
 ·exact J
 ·by_cases hb:b=a
  ·subst hb
   rw [aA] at q;cases q
   exact ⟨ho,(I.hok b u e).cO (fun _ _ _ z=>z) (fun c z=>by rw [ae (nT c _ z rfl)];exact z) fun c xs z=>by rw [ae (nT c _ z rfl)];exact z⟩
  ·rw [ae hb] at q
   exact (I.hok b v q).cO (fun _ _ _ z=>z) (fun c z=>by rw [ae (nT c _ z rfl)];exact z) fun c xs z=>by rw [ae (nT c _ z rfl)];exact z
theorem Inv.DL (I:Inv X pins σ H s) (d:Rd H a u) (hu:iC u=true):∃o H2 es ep ps,gb a o u H H2/\Inv X pins σ H2 s/\Rows H s.heap a u o es ep ps :=by
 obtain ⟨o,es,ep,ps,R⟩:=DK I.hok d hu
 rcases d with d|⟨o',d⟩
 ·exact ⟨o,_,es,ep,ps,.now d hu,I.bp d hu R.obj,R⟩
 ·have e:=(I.hok a _ d).1
  rw [R.obj] at e
  cases e
  exact ⟨o,H,es,ep,ps,.was d,I,R⟩
end
def Hc (a:ag) (o:i4) (u:HO) (ks:List V):It:=⟨fun i H=>H a=some (.bp o u)/\i<ks.length,fun i H x H'=>H'=H/\ks[i]?=some x,fun i H=>H a=some (.bp o u)/\ks.length<=i⟩
section
variable {P:f8} {w:ii} {K:bn} {a it:ag} {o:i4} {u:HO} {es:Array Pd} {ep:Nat} {ps:List (V×V)}
theorem yX {tg:dL} (oe:o.cls=.type "dict") (Kw:o.data=.dict es ep) (rel:Cj es ps) (mh:a≠it):Turn P w K tg (Hc a o u (ps.map (·.1))) [it] it (fun i h=>h.get? it=some (qb a i es.size ep)) where
 mem :=by simp
 obj:=fun i h st b hb=>by
  have e:b=it :=by simpa using hb
  subst e
  exact ⟨_,st,fun v z=>nomatch z⟩
 keep:=fun i h h' st k=>k it (by simp) _ st
 item :=by
  intro X hP hw hK hc i pins s σ H E I hf st hg
  subst hP hw hK
  obtain ⟨ha,hi⟩:=hg
  rw [cr] at hi
  have hr:lb s.heap a es ep:=⟨o,(I.hok a _ ha).1,oe,Kw⟩
  obtain ⟨p,hp⟩:∃p,ps[i]?=some p:=⟨_,al hi⟩
  obtain ⟨fN,r1,_⟩:=rel.2 i p hp
  obtain ⟨f0,f1,f2,f3,f4,f5⟩:=hf it (by simp)
  refine yU st hr fN fun h' km sb=>?_
  have I1:Inv X pins σ H {s with heap:=h'}:=I.turned (t':=s.toks) (fun b o hb e=>(sb.2 b hb).trans e) f0 f1 f3 f4 f5
  exact ⟨_,rfl,qH (s:={s with heap:=h'}) km rfl rfl (by decide) ⟨p.1,H,I1,r1,⟨rfl,by rw [ca,hp];rfl⟩,km,fun b hb=>(hf b hb).1⟩⟩
 done :=by
  intro X hP hw hK hc i pins s σ H E I hf st hg
  subst hP hw hK
  obtain ⟨ha,hi⟩:=hg
  rw [cr] at hi
  have hr:lb s.heap a es ep:=⟨o,(I.hok a _ ha).1,oe,Kw⟩
  obtain ⟨f0,f1,f2,f3,f4,f5⟩:=hf it (by simp)
  exact AX (I.ok.hd hc) st hr (by rw [rel.1];exact hi) fun h' eb=>⟨rfl,I.turned (t':=s.toks) (fun b o hb e=>eb b o hb e) f0 f1 f3 f4 f5⟩
 self:=fun _ i _ _ _ st h=>wpAny_pyIter_keyiter (d:=a) (i:=i) (n:=es.size) (ep:=ep) ⟨_,st,rfl,rfl⟩ h
end
end L2
namespace L2
open PySem PySem.Spec PySem.W PyProof.Rows
section
variable {X:Cx} {Γ:Gz} {K:bn}
theorem aE.rep {β:Bz} {M:Mh} {H:Hp} {vs:List V} {ds:List Dv} (r:aE β M H vs ds):∀k:Nat,aE β M H (on k vs).flatten (on k ds).flatten
 |0=>⟨rfl,fun i v d h=>by simp at h⟩
 |k+1=>by rw [wb,wb,EO,EO];exact r.append (aE.rep r k)
open Classical in
end
end L2
namespace L2
open PySem PySem.Spec PyProof.Rows
section
variable {X:Cx} {tg l:dL} {tl:TE}
def Jp (tl:TE):TI:=fun σ H R=>tl σ H fun x H1=>∃a u,x=.ref a/\iC u=true/\Rd H1 a u/\∀o H2 ps,gb a o u H1 H2->v8 H1 u ps->R (Hc a o u (ps.map (·.1))) H2
theorem DM (hl:PE X l tl):PI X tg l (Jp tl) :=by
 intro pins s σ H R I h
 refine thn (hl pins s σ H _ I h) fun v s1 ⟨x,H1,I1,r1,q1⟩=>?_
 obtain ⟨a,u,e,hu,hr,q⟩:=q1
 subst e
 cases r1
 obtain ⟨o,H2,es,ep,ps,f,I2,rw⟩:=I1.DL hr hu
 have mh:a≠s1.heap.objs.size:=lw (im rw.obj)
 refine yT rw.lo ⟨o,rw.obj,rw.cls,rw.data⟩ ?_
 refine ⟨s1.heap.objs.size,[s1.heap.objs.size],_,_,H2,rfl,I2.kept (t':=s1.toks) fun b o e=>ci _ e,yX rw.cls rw.data rw.rel mh,i1 _ rfl,fun b hb=>?_,q o H2 ps f rw.ps⟩
 have e:b=s1.heap.objs.size :=by simpa using hb
 subst e
 exact I2.oy (c8 _) (I2.hok.fresh (c8 _))
end
theorem Ex.bp {β:Bz} {M:Mh} {H H2:Hp} {a:ag} {o:i4} {u:HO} (m:Mz β M H) (f:gb a o u H H2) (fz:Fz β M a):Ex β M H M H2 :=by
 cases f with
 |was e=>exact .refl m
 |now e hu=>
  have y:Ey M H M (upd H a (.bp o u)):=⟨fun b v hm hb=>by
   by_cases z:b=a
   ·subst z
    rw [e] at hb
    cases hb
    exact .inr ⟨_,.inr (.inr ⟨hu,_,rfl⟩),aA⟩
   ·exact .inl (by rw [ae z];exact hb),fun _ h=>h,fun _ _ h _=>h⟩
  have nd:∀b v,H b=some v->iC v=false->b≠a:=fun b v q n z=>by rw [z,e] at q;cases q;rw [hu] at n;cases n
  refine ⟨y,⟨fun b v hb=>?_,fun p hp=>?_,fun b hb=>?_,m.apart,fun p hp=>?_⟩⟩
  ·have qf:b≠a:=fun z=>by rw [z,fz.1] at hb;cases hb
   have q:=m.obj b v hb
   cases v with
   |bZ=>
    obtain ⟨c,k,e2,r⟩:=q
    exact ⟨c,k,by rw [ae qf];exact e2,r⟩
   |lst ds=>
    obtain ⟨us,e2,ru⟩:=q
    exact ⟨us,by rw [ae qf];exact e2,ru.len,fun i w d p q=>(ru.at' i w d p q).ey y⟩
   |dk ks ds=>
    obtain ⟨us,e2,hk,ru⟩:=q
    exact ⟨us,by rw [ae qf];exact e2,hk,ru.len,fun i w d p q=>(ru.at' i w d p q).ey y⟩
   |dt ks ds=>
    obtain ⟨us,e2,hk,ru⟩:=q
    exact ⟨us,by rw [ae qf];exact e2,hk,ru.len,fun i w d p q=>(ru.at' i w d p q).ey y⟩
  ·obtain ⟨ps,e2,t⟩:=m.tabs p hp
   exact ⟨ps,by rw [ae (nd _ _ e2 rfl)];exact e2,t⟩
  ·obtain ⟨v,e2,n⟩:=m.hids b hb
   have qf:b≠a:=fun z=>fz.2 (by rw [<- z];exact hb)
   exact ⟨v,by rw [ae qf];exact e2,n⟩
  ·exact (m.lams p hp).keep (fun ps e2=>by rw [ae (nd _ _ e2 rfl)];exact e2) fun c oc v e2=>by rw [ae (nd _ _ e2 rfl)];exact e2
def oR:Key->Dv
 | .inl i=>.int i
 | .inr z=>.str z
def ziKeys (p:aH):fG:=fun ρ M R=>p ρ M fun d M1=>match d with | .dk ks _=>R (ks.map oR) M1 | .dt ks _=>R (ks.map fun k=>.tup (k.map oR)) M1|_=>False
section
variable {X:Cx} {Γ:Gz} {β:Bz} {M:Mh} {H:Hp} {tg l:dL} {p:aH}
theorem Hd (k:Key):Rz β M H (kV k) (oR k) :=by
 cases k with
 |inl i=>exact .int i
 |inr z=>exact .str z
theorem sI (ks:List Key):aE β M H (ks.map kV) (ks.map oR):=⟨by simp,fun i v d a b=>by
 rw [ca] at a b
 cases e:ks[i]? with
 |none=>rw [e] at a;cases a
 |some k=>rw [e] at a b;cases a;cases b;exact Hd k⟩
theorem qg {a:ag} {o:i4} {u:HO} {vs:List V} (h:H a=some (.bp o u)):Runs (Hc a o u vs) vs H:=fun i=>⟨fun hi=>⟨⟨h,hi⟩,fun v H' q=>q⟩,fun hi=>⟨h,hi⟩⟩
theorem lN {α γ:Type}:∀{ks:List α} {vs:List γ},ks.length=vs.length->(ks.zip vs).map (·.1)=ks
 | [],[],_=>rfl
 |k::ks,v::vs,h=>by rw [No,ss,lN (by simpa using h)]
theorem DN (hl:QE Γ X l p):QI Γ X tg l (ziKeys p):=(DM hl).imp fun σ H R ⟨β,ρ,M,R',zr,h,q⟩=>⟨β,ρ,M,_,zr,h,fun d M1 v H1 x1 r1 h1=>by
 revert h1
 split
 ·intro h1
  rename_i ks ds
  cases r1 with
  | @dk a _ vs _ f e hk hl hh=>
   refine ⟨a,.dK (ks.zip vs),rfl,rfl,e,fun o H2 ps g He=>?_⟩
   have x2:=Ex.bp x1.mz g f
   cases He
   refine q _ _ _ _ (x1.trans x2) (iE (vs:=ks.map kV) (sI ks) fun M' H' x=>?_) h1
   have e2:((ks.zip vs).map fun kv=>(kV kv.1,kv.2)).map (·.1)=ks.map kV :=by
    rw [zd]
    show (ks.zip vs).map (kV ∘ Prod.fst)=_
    rw [<- zd,lN hk]
   rw [e2]
   exact qg (x.get f.1 g.at rfl)
 ·intro h1
  rename_i ks ds
  cases r1 with
  | @dt a _ vs _ f e hk hl hh=>
   refine ⟨a,.dT (ks.zip vs),rfl,rfl,e,fun o H2 ps g He=>?_⟩
   have x2:=Ex.bp x1.mz g f
   cases He with
   |t _ bs hb nK=>
    have hz:(ks.zip vs).length=ks.length :=by rw [Pa,<- hk,GM]
    have e2:((bs.map V.ref).zip ((ks.zip vs).map (·.2))).map (·.1)=bs.map V.ref:=lN (by rw [cr,cr];exact hb)
    rw [e2]
    refine q _ _ _ _ (x1.trans x2) (iE (vs:=bs.map V.ref) ⟨by rw [cr,cr,hb,hz],fun i v d ha hd=>?_⟩ fun M' H' x=>qg (x.get f.1 g.at rfl)) h1
    rw [ca,kt] at ha hd
    obtain ⟨b,NR,rfl⟩:=ha
    obtain ⟨k,Kx,rfl⟩:=hd
    have mB:i<(ks.zip vs).length :=by rw [hz];exact (bv.mp Kx).1
    have qd:=al mB
    have ht:=nK i b _ NR qd
    have ek:((ks.zip vs)[i]).1=k :=by
     have:((ks.zip vs).map (·.1))[i]?=some ((ks.zip vs)[i]).1 :=by rw [ca,qd];rfl
     rw [lN hk,Kx] at this
     exact (hX this).symm
    rw [ek] at ht
    have fb:Fz β M1 b:=⟨x1.mz.jA ht rfl,fun z=>by
     obtain ⟨w,hw,n⟩:=x1.mz.hids b z
     rw [ht] at hw
     cases hw
     cases n⟩
    have r0:Rz β M1 H1 (.ref b) (.tup (k.map oR)):=kR fb ht (sI k)
    exact r0.ex x2
 ·exact fun h=>h.elim⟩
end
section
variable {Γ:Gz} {X:Cx} {K:bn}
def zClear:sk:=fun d ds M Q=>match d,ds with | .ptr a,[]=>(match M a with|some (.lst _)=>Q .ao (aq M a (.lst []))|_=>False)|_,_=>False
theorem uV:yt Γ X "list" "list.clear" K zClear:=⟨_,Ac,fun β x xs d ds M H Q Q' _ _ _ m r rs z q=>by
 unfold zClear at z
 split at z
 ·rename_i a
  split at z
  ·rename_i ys ha
   obtain ⟨rfl,h⟩:=a9 r
   obtain ⟨vs,hv,fK⟩:=m.obj a _ ha
   have e:=rs.len
   have e0:xs=[]:=ET e
   subst e0
   refine ⟨a,vs,rfl,rfl,hv,?_⟩
   exact q _ _ _ _ (Ex.own m (.inl h) .nil) .ao z
  ·exact z.elim
 ·exact z.elim⟩
end
theorem iO {g:b9} {te:aH} (J:List Dv->av->Mh->Prop):∀{ds acc:List Dv} {τ:av} {M:Mh} {Q:List Dv->Mh->Prop},J acc τ M->
  (∀i d gQ τ M,ds[i]?=some d->gQ.length=acc.length+i->J gQ τ M->∀R:av->ZK,(∀y aC M2,J (gQ++[y]) aC M2->R aC y M2)->g d τ M fun aC M2=>te aC M2 (R aC))->
  (∀ys τ M,ys.length=ds.length->J (acc++ys) τ M->Q ys M)->e7 g zNoIf te ds τ M Q
 | [],acc,τ,M,Q,j,_,q=>q [] τ M rfl (by rw [BY];exact j)
 |d::ds,acc,τ,M,Q,j,h,q=>by
          refine h 0 d acc τ M rfl rfl j (fun aC y M4=>e7 g zNoIf te ds aC M4 fun ys M5=>Q (y::ys) M5) fun y aC M2 j2=>?_
          refine iO J (acc:=acc++[y]) j2 (fun i d' gQ bX M' e1 e2 j' R hR=>?_) fun ys mw M3 e3 j3=>?_
          ·exact h (i+1) d' gQ bX M' e1 (by rw [e2,v6];simp;omega) j' R hR
          ·exact q (y::ys) mw M3 (by simp [e3]) (by rw [EQ] at j3;exact j3)
section
variable {X:Cx} {Γ:Gz} {tg elt iter:dL} {ifs:List dL} {scope:rb} {pos:sB} {N':List br} {tn:Nat} {idx:List Nat}
theorem sJ {zi:fG} {g:b9} {tt:cm} {te:aH} {i:Nat} {y:br} {py fD:sB} (hN:X.N.Nodup) (dP:X.N[i]?=some y) (hy:X.env.scope.names.lookup y=some .local) (hc:X.calm=true) (B:cS X.N X.env.scope scope N' tn idx) (hi:QI Γ X tg iter zi)
  (hg:f9 X N' scope fun Y=>QG Γ Y tg g) (ht:f9 X N' scope fun Y=>pV Γ Y ifs tt) (he:f9 X N' scope fun Y=>QE Γ Y elt te)
  (nJ:swapsWith (.ListComp elt [⟨tg,iter,ifs,0⟩] scope pos) (some (.Name y py)) fD.line X.env=pure true :=by rfl)
  (hs:∀x,foldedSetIterable iter X.env x=pure x :=by intro _;rfl):QS Γ X (.Assign [.Name y py] (.ListComp elt [⟨tg,iter,ifs,0⟩] scope pos) fD) (zAsg (zCompP tn idx zi g tt te) (zgName i)):=(t5 hN dP hy hc B hi hg ht he nJ hs).imp fun D σ H h=>qM (fun _ _ _ h=>oJ h) h
end
theorem Ck {a1 r:bH} {D:dy} {ρ:av} {M:Mh} (I:av->Mh->Prop) (h1:∀N:av->Mh->Prop,(∀ρ M,I ρ M->N ρ M)->a1 {D with nx:=N} ρ M) (h2:∀ρ M,I ρ M->r D ρ M):(zSeq a1 r) D ρ M:=h1 _ h2
theorem Jq {a1 a2 r:bH} {D:dy} {ρ:av} {M:Mh} (I:av->Mh->Prop) (h1:∀N:av->Mh->Prop,(∀ρ M,I ρ M->N ρ M)->(zSeq a1 a2) {D with nx:=N} ρ M) (h2:∀ρ M,I ρ M->r D ρ M):(zSeq a1 (zSeq a2 r)) D ρ M:=h1 _ h2
theorem Jr {a1 a2 a3 r:bH} {D:dy} {ρ:av} {M:Mh} (I:av->Mh->Prop) (h1:∀N:av->Mh->Prop,(∀ρ M,I ρ M->N ρ M)->(zSeq a1 (zSeq a2 a3)) {D with nx:=N} ρ M) (h2:∀ρ M,I ρ M->r D ρ M):(zSeq a1 (zSeq a2 (zSeq a3 r))) D ρ M:=h1 _ h2
theorem Js {a1 a2 a3 a4 r:bH} {D:dy} {ρ:av} {M:Mh} (I:av->Mh->Prop) (h1:∀N:av->Mh->Prop,(∀ρ M,I ρ M->N ρ M)->(zSeq a1 (zSeq a2 (zSeq a3 a4))) {D with nx:=N} ρ M) (h2:∀ρ M,I ρ M->r D ρ M):(zSeq a1 (zSeq a2 (zSeq a3 (zSeq a4 r)))) D ρ M:=h1 _ h2
theorem Jt {a1 a2 a3 a4 a5 r:bH} {D:dy} {ρ:av} {M:Mh} (I:av->Mh->Prop) (h1:∀N:av->Mh->Prop,(∀ρ M,I ρ M->N ρ M)->(zSeq a1 (zSeq a2 (zSeq a3 (zSeq a4 a5)))) {D with nx:=N} ρ M) (h2:∀ρ M,I ρ M->r D ρ M):(zSeq a1 (zSeq a2 (zSeq a3 (zSeq a4 (zSeq a5 r))))) D ρ M:=h1 _ h2
section
variable {β:Bz} {M M':Mh} {H H':Hp} {a:ag} {o o' o2 mC:Mo}
theorem Rz.dom (hd:∀a,(M a).isSome=(M' a).isSome) {v:V} {d:Dv} (r:Rz β M H v d):Rz β M' H v d:=
 r.jX (M0:=M') (fun a h=>by rw [hd a];exact h) (r.pin.mono fun a h=>by rw [<- hd a];exact h)
theorem gG.dom (hd:∀a,(M a).isSome=(M' a).isSome) (h:gG β M H a o):gG β M' H a o :=by
 cases o with
 |lst ds=>obtain ⟨vs,h1,rs⟩:=h;exact ⟨vs,h1,rs.len,fun i v d x y=>(rs.at' i v d x y).dom hd⟩
 |bZ=>exact h
 |dk ks ds=>obtain ⟨vs,h1,h2,rs⟩:=h;exact ⟨vs,h1,h2,rs.len,fun i v d x y=>(rs.at' i v d x y).dom hd⟩
 |dt ks ds=>obtain ⟨vs,h1,h2,rs⟩:=h;exact ⟨vs,h1,h2,rs.len,fun i v d x y=>(rs.at' i v d x y).dom hd⟩
theorem ik (M:Mh) (a:ag) (o o2:Mo) (b:ag):(aq M a o b).isSome=(aq M a o2 b).isSome :=by
 by_cases e:b=a
 ·subst e;rw [updM_same,updM_same];rfl
 ·rw [af e,af e]
theorem jf {b:ag} (o2:Mo) (h:aq M a o b=none):aq M a o2 b=none :=by
 by_cases e:b=a
 ·subst e;rw [updM_same] at h;cases h
 ·rw [af e] at h ⊢;exact h
theorem Mz.chg (m:Mz β (aq M a o) H) (h2:gG β (aq M a o2) H a o2):Mz β (aq M a o2) H :=by
 refine ⟨fun b u e=>?_,m.tabs,m.hids,fun b u e=>?_,m.lams⟩
 ·by_cases z:b=a
  ·subst z;rw [updM_same] at e;cases e;exact h2
  ·rw [af z] at e
   exact gG.dom (ik M a o o2) (m.obj b u (by rw [af z];exact e))
 ·by_cases z:b=a
  ·subst z;exact m.apart b o updM_same
  ·rw [af z] at e
   exact m.apart b u (by rw [af z];exact e)
theorem uW (h:M a=some o):aq M a o=M :=by
 funext b
 by_cases e:b=a
 ·subst e;rw [updM_same,h]
 ·rw [af e]
theorem Ex.chg (x:Ex β (aq M a o) H (aq M a o') H') (h2:gG β (aq M a mC) H' a mC):Ex β (aq M a o2) H (aq M a mC) H':=
 ⟨⟨fun b u h e=>x.keep b u (jf o h) e,fun b h=>by rw [ik M a mC o'];exact x.dom b (by rw [ik M a o o2];exact h),fun b u h e=>jf mC (x.new b u (jf o h) e)⟩,x.mz.chg h2⟩
theorem Ex.sealed (hn:M a=none) (x:Ex β M H (aq M a o') H') (h2:gG β (aq M a mC) H' a mC):Ex β M H (aq M a mC) H':=
 ⟨⟨x.keep,fun b h=>by rw [ik M a mC o'];exact x.dom b h,fun b u h e=>jf mC (x.new b u h e)⟩,x.mz.chg h2⟩
theorem yY {c m:Int} (z:Mz β (aq M a (.lst [.int c,.int m])) H) (hc:0<=c) (hm:0<=m):gG β (aq M a .bZ) H a .bZ :=by
 obtain ⟨vs,h,rs⟩:=z.obj a _ updM_same
 refine ⟨c,m,?_,hc,hm⟩
 have:=iG (ns:=[c,m]) rs
 rw [h,this]
 rfl
theorem Hf (z:Mz β (aq M a .bZ) H):∃c m:Int,0<=c/\0<=m/\gG β (aq M a (.lst [.int c,.int m])) H a (.lst [.int c,.int m]) :=by
 obtain ⟨c,m,h,hc,hm⟩:=z.obj a _ updM_same
 exact ⟨c,m,hc,hm,_,h,jV (ns:=[c,m])⟩
end
section
variable {X:Cx} {Γ:Gz} {K:bn}
def zIxS:dr:=fun d e M Q=>match d,e with | .bf ns,.int i=>(match bW ns i with|some x=>Q (.int x) M|none=>False)|_,_=>False
theorem Cm (hK:X.K=K) (hG:K=Γ.K):GD Γ X zIxS:=⟨_,uA hK,fun β x y d e M H Q Q' _ _ eK m rx ry z q=>by
 unfold zIxS at z
 split at z
 ·rename_i ns i
  split at z
  ·rename_i v hv
   obtain ⟨a,rfl,hS⟩:=pS rx
   rw [eK,<- hG] at hS
   exact .inl ⟨a,_,i,.int v,rfl,aJ ry,hS,DB hv,q _ _ _ _ (.refl m) (.int _) z⟩
  ·exact z.elim
 ·exact z.elim⟩
end
def uX (k:Nat):br:=⟨#[97+k]⟩
theorem uY (k:Nat):(uX k).length=1:=rfl
theorem wa (a b:br):(a++b).length=a.length+b.length :=by
 show (a.cps++b.cps).size=a.cps.size+b.cps.size
 exact Array.size_append
section
variable {κ:Type} [DecidableEq κ]
theorem ki:∀(ks U:List κ),ks.Nodup->(∀k∈ks,k∈U)->ks.length<=U.length
 | [],_,_,_=>sK _
 |k::ks,U,nd,h=>by
          have hn:=Ix.mp nd
          have hk:=h k i8
          have ih:=ki ks (U.erase k) hn.2 fun x hx=>(List.mem_erase_of_ne (fun e=>hn.1 (by rw [<- e];exact hx))).mpr (h x (gc _ hx))
          rw [List.length_erase_of_mem hk] at ih
          have:=Px hk
          rw [LF]
          omega
def gd (step:κ->Nat->κ) (met:κ) (w:br) (st:List κ×List br) (a:Nat):List κ×List br:=if step met a∈st.1 then st else (st.1++[step met a],st.2++[w++uX a])
def visit (step:κ->Nat->κ) (met:κ) (w:br) (n:Nat) (st:List κ×List br):List κ×List br:=(io n).foldl (gd step met w) st
def iP (step:κ->Nat->κ) (n most:Nat):Nat->Nat->List κ×List br->List κ×List br
 |0,_,st=>st
 |fuel+1,i,st=>match st.1[i]?,st.2[i]? with
  |some met,some w=>if st.1.length<=most then iP step n most fuel (i+1) (visit step met w n st) else st
  |_,_=>st
structure dR (U:List κ) (st:List κ×List br):Prop where
 len:st.1.length=st.2.length
 nd:st.1.Nodup
 sub:∀k∈st.1,k∈U
 wl:∀(i:Nat) (w:br),st.2[i]?=some w->w.length<=i
theorem dR.le {U:List κ} {st:List κ×List br} (o:dR U st):st.1.length<=U.length:=ki _ _ o.nd o.sub
theorem fO (step:κ->Nat->κ) (met:κ) (w:br) (n:Nat) (st:List κ×List br):visit step met w (n+1) st=gd step met w (visit step met w n st) n :=by
 unfold visit
 rw [List.range_succ,List.foldl_append]
 rfl
theorem qh (step:κ->Nat->κ) (met:κ) (w:br) (st:List κ×List br) (a:Nat):∃ks ws,(gd step met w st a).1=st.1++ks/\(gd step met w st a).2=st.2++ws :=by
 unfold gd
 split
 ·exact ⟨[],[],by simp,by simp⟩
 ·exact ⟨_,_,rfl,rfl⟩
theorem g9 (step:κ->Nat->κ) (met:κ) (w:br) (n:Nat) (st:List κ×List br):∃ks ws,(visit step met w n st).1=st.1++ks/\(visit step met w n st).2=st.2++ws :=by
 induction n with
 |zero=>exact ⟨[],[],by simp [visit],by simp [visit]⟩
 |succ n ih=>
  obtain ⟨ks,ws,h1,h2⟩:=ih
  rw [fO]
  obtain ⟨Kp,NS,h3,h4⟩:=qh step met w (visit step met w n st) n
  exact ⟨ks++Kp,ws++NS,by rw [h3,h1,EQ],by rw [h4,h2,EQ]⟩
theorem oS {α:Type} {l m:List α} {i:Nat} {x:α} (h:l[i]?=some x):(l++m)[i]?=some x :=by
 rw [ol (bv.mp h).1];exact h
theorem dR.gd {U:List κ} {step:κ->Nat->κ} {st:List κ×List br} (o:dR U st) {i a:Nat} {met:κ} {w:br} (hw:st.2[i]?=some w) (hs:step met a∈U):dR U (L2.gd step met w st a) :=by
 unfold L2.gd
 split
 ·exact o
 ·rename_i hn
  refine ⟨by simp [o.len],?_,fun k hk=>?_,fun j v hj=>?_⟩
  ·rw [Qm]
   refine ⟨o.nd,by simp,fun x hx y hy e=>?_⟩
   rw [mf] at hy
   subst e
   exact hn (hy▸hx)
  ·rcases wT.mp hk with z|z
   ·exact o.sub k z
   ·rw [mf] at z;rw [z];exact hs
  ·by_cases h:j<st.2.length
   ·rw [ol h] at hj
    exact o.wl j v hj
   ·rw [r9 (by omega)] at hj
    have e:j - st.2.length=0 :=by
     have:=(bv.mp hj).1
     simp at this;omega
    rw [e] at hj
    cases hj
    have h1:=o.wl i w hw
    have h2:=(bv.mp hw).1
    rw [wa,uY]
    omega
theorem dR.visit {U:List κ} {step:κ->Nat->κ} {st:List κ×List br} (o:dR U st) {i n:Nat} {met:κ} {w:br} (hw:st.2[i]?=some w) (hs:∀a,a<n->step met a∈U):dR U (L2.visit step met w n st) :=by
 induction n with
 |zero=>exact o
 |succ n ih=>
  rw [fO]
  obtain ⟨ks,ws,h1,h2⟩:=g9 step met w n st
  exact (ih fun a ha=>hs a (by omega)).gd (i:=i) (by rw [h2];exact oS hw) (hs n (by omega))
def met (step:κ->Nat->κ) (n most N:Nat) (s:κ):List κ×List br:=iP step n most (N+1) 0 ([s],[""])
theorem lg {U:List κ} {s:κ} (h:s∈U):dR U ([s],[("" : br)]):=⟨rfl,by simp,fun k hk=>by rw [mf] at hk;rw [hk];exact h,fun i w e=>by
 cases i with
 |zero=>cases e;exact c8 0
 |succ i=>simp at e⟩
theorem bfs_ok {U:List κ} {step:κ->Nat->κ} {n most:Nat} (hs:∀k∈U,∀a,a<n->step k a∈U):∀(fuel i:Nat) (st:List κ×List br),dR U st->dR U (iP step n most fuel i st)
 |0,_,st,o=>o
 |fuel+1,i,st,o=>by
          unfold iP
          split
          ·rename_i k w h1 h2
           split
           ·exact bfs_ok hs fuel (i+1) _ (o.visit h2 fun a ha=>hs k (o.sub k (db h1)) a ha)
           ·exact o
          ·exact o
theorem yZ {step:κ->Nat->κ} {n most fuel i:Nat} {st:List κ×List br} {k:κ} {w:br} (h1:st.1[i]?=some k) (h2:st.2[i]?=some w) (h3:st.1.length<=most):iP step n most (fuel+1) i st=iP step n most fuel (i+1) (visit step k w n st) :=by
 rw [iP]
 simp only [h1,h2,if_pos h3]
theorem uZ:∀{ks:List κ} {ws:List br} {i:Nat} {k:κ} {w:br},ks.Nodup->ks[i]?=some k->ws[i]?=some w->look ks ws k=some w
 | [],_,_,_,_,_,h,_=>by simp at h
 |_::_,[],_,_,_,_,_,h=>by simp at h
 |c::ks,v::ws,0,k,w,_,h1,h2=>by
          simp at h1 h2
          unfold look
          rw [if_pos h1,h2]
 |c::ks,v::ws,i+1,k,w,nd,h1,h2=>by
          have hn:=Ix.mp nd
          have h1:ks[i]?=some k :=by simpa using h1
          unfold look
          rw [if_neg (fun e=>hn.1 (by rw [e];exact db h1))]
          exact uZ hn.2 h1 (by simpa using h2)
theorem mS {Cp:Type} [DecidableEq Cp] {f:κ->Cp} (hf:∀a b,f a=f b->a=b) (x:κ):∀(ks:List κ) (ws:List br),look (ks.map f) (ws.map Dv.str) (f x)=(look ks ws x).map Dv.str
 | [],ws=>by cases ws <;> rfl
 |_::_,[]=>rfl
 |k::ks,w::ws=>by
          rw [ss,ss]
          unfold look
          by_cases e:k=x
          ·rw [if_pos e,if_pos (by rw [e])];rfl
          ·rw [if_neg e,if_neg (fun z=>e (hf _ _ z))]
           exact mS hf x ks ws
theorem DP {α:Type} {ks:List κ} {ds:List α} {k:κ} {d:α} (h:k ∉ ks):putL ks k=ks++[k]/\fe ks ds k d=ds++[d] :=by
 unfold putL fe
 rw [if_neg h,if_neg h]
 exact ⟨rfl,rfl⟩
theorem t6 {Cp:Type} {f:κ->Cp} (hf:∀a b,f a=f b->a=b) {x:κ} {ks:List κ}:f x∈ks.map f ↔ x∈ks :=by
 constructor
 ·intro h
  obtain ⟨y,hy,e⟩:=ma.mp h
  rw [<- hf _ _ e];exact hy
 ·exact fun h=>List.mem_map_of_mem h
theorem qi {ks:List κ} {ws:List br} (h:ks.length=ws.length) (x:κ):(look ks ws x).isSome=decide (x∈ks) :=by
 cases q:look ks ws x with
 |none=>rw [decide_eq_false ((gJ h).mp q)];rfl
 |some w=>
  have:x∈ks:=Classical.byContradiction fun z=>by rw [(gJ h).mpr z] at q;cases q
  rw [decide_eq_true this];rfl
end
theorem DQ {k:Nat} (h:k<3):bW ("abc" : br).cps.toList ((k:Nat):Int)=some (97+k) :=by
 have:k=0\/k=1\/k=2 :=by omega
 rcases this with rfl|rfl|rfl <;> decide +kernel
theorem oU (a b:Int) (h:(AM a:Key)=AM b):a=b:=AM.inj h
theorem mU {α:Type} {l:List α} {i:Nat} {x:α} (h:l[i]?=some x):l.drop i=x::l.drop (i+1) :=by
 obtain ⟨hi,e⟩:=bv.mp h
 rw [AL hi,e]
section
variable {X:Cx} {Γ:Gz}
def zRepP:dr:=fun d e M Q=>match d,e with | .lst ds,.int k=>(-(2 ^ 63)<=k/\k<2 ^ 63/\ds.length * k.toNat<=sizeLine)/\∀a,M a=none->Q (.ptr a) (aq M a (.lst (on k.toNat ds).flatten))|_,_=>False
theorem Hg:dF Γ X (binaryOp .Mult) zRepP:=⟨_,FA,fun β x y d e M H Q Q' _ _ _ m rx ry z q=>by
 unfold zRepP at z
 split at z
 ·rename_i ds k
  obtain ⟨a,vs,rfl,f,ha,rs⟩:=gH rx
  obtain ⟨⟨z1,z2,z3⟩,z4⟩:=z
  refine ⟨a,_,vs,rfl,aJ ry,ha,z1,z2,by rw [rs.len];exact z3,fun p hp=>?_⟩
  have x2:=Ex.own m (.inr hp) (rs.rep k.toNat)
  exact q _ _ _ _ x2 (.ptr (by rw [updM_same];rfl)) (z4 p (m.free hp))
 ·exact z.elim⟩
end
def Hh (K:bn):List V->Hp->VK->Prop:=fun xs H Q=>∃(p:ag) (ns:List Int),xs=[.ref p]/\bA K H p (ns.map V.int)/\0<ns.length/\∀m:Int,m∈ns->(∀a∈ns,m<=a)->Q (.int m) H
theorem y0 {X:Cx} (hc:X.calm=true):c7 X (.builtin "min") (Hh X.K) :=by
 intro pins s σ H xs us Q I r h
 obtain ⟨p,ns,rfl,hq,h0,q⟩:=h
 obtain ⟨u,rfl,rx⟩:=vals1 r
 cases rx
 have hh:=I.ok.hd hc
 obtain ⟨its,rv,pl,hz⟩:=I.list hq
 obtain ⟨ys,hy⟩:=(nO rv).allInts.items
 have hl:=pl.isList
 rw [hy] at hl
 have en:ys.toList.map (·.1)=ns :=by
  rw [<- nums_intItems,<- hy]
  exact (nO rv).numsOf
 have hsz:0<ys.size :=by
  rw [<- en,cr,ul] at h0
  exact h0
 refine min_intList hh hl hsz fun v h' tk hv hk=>?_
 obtain ⟨t,rfl⟩:=intItems_at hv
 obtain ⟨h1,h2⟩:=argBest_lt (numAt ys) (ys.size - 1)
 refine ⟨.int _,H,I.kept (t':=tk) hk,⟨t,rfl⟩,q _ ?_ fun a ha=>?_⟩
 ·rw [<- en,numAt_eq];exact getD_mem (by rw [cr,ul];omega)
 ·rw [<- en] at ha
  obtain ⟨j,hj,rfl⟩:=mem_getD ha
  rw [cr,ul] at hj
  rw [<- numAt_eq];exact h2 j (by omega)
theorem wc {X:Cx} {K:bn} (h:X.K=K) (hc:X.calm=true):c7 X (.builtin "min") (Hh K):=h▸y0 hc
def zMinL (d:Dv) (M:Mh) (Q:ZK):Prop:=match (itemsM M d).bind fL with|some ns=>0<ns.length/\(∀t,d≠.tup t)/\∀m:Int,m∈ns->(∀a∈ns,m<=a)->Q (.int m) M|none=>False
theorem Hi {Γ:Gz} {X:Cx} {K:bn} (hK:X.K=K) (hc:X.calm=true):fI Γ X (.builtin "min") (z1 zMinL):=⟨_,wc hK hc,fun β xs ds M H Q Q' _ _ _ m rs z q=>by
 unfold z1 at z
 split at z
 ·rename_i d
  obtain ⟨x,rfl,r⟩:=ee rs
  unfold zMinL at z
  split at z
  ·rename_i ns dU
   obtain ⟨z1,z2,z3⟩:=z
   rw [Option.bind_eq_some_iff] at dU
   obtain ⟨es,he,hi⟩:=dU
   obtain ⟨a,vs,rfl,ha,fK⟩:=iF m r he
   rw [mO hi] at fK
   rw [iG fK] at ha
   rcases ha with ha|ha
   ·exact ⟨a,ns,rfl,bA.of ha,z1,fun k h1 h2=>q _ _ _ _ (.refl m) (.int _) (z3 k h1 h2)⟩
   ·exfalso
    cases d with
    |tup t=>exact z2 t rfl
    |lst t=>obtain ⟨a',rY,e,f,hv,_⟩:=gH r;cases e;rw [hv] at ha;cases ha
    |ptr p=>
     obtain ⟨e,_⟩:=a9 r
     cases e
     simp only [itemsM] at he
     split at he
     ·rename_i xs hx;obtain ⟨rY,hv,_⟩:=m.obj _ _ hx;rw [hv] at ha;cases ha
     ·cases he
    |_=>cases he
  ·exact z.elim
 ·exact z.elim⟩
def bI (M:Mh):List ag->Mh
 | []=>M
 |c::S=>b7 (bI M S) c
theorem fh {M:Mh} {b:ag}:∀{S:List ag},b∈S->bI M S b=none
 |c::S,h=>by
          show b7 _ c b=none
          by_cases e:b=c
          ·rw [e,cJ]
          ·rw [bG e]
           rcases lc.mp h with z|z
           ·exact absurd z e
           ·exact fh z
theorem fv {M:Mh} {b:ag}:∀{S:List ag},b ∉ S->bI M S b=M b
 | [],_=>rfl
 |c::S,h=>by
          show b7 _ c b=_
          rw [bG (fun e=>h (by rw [e];exact i8))]
          exact fv fun z=>h (gc _ z)
theorem oi {M:Mh} {b:ag} {S:List ag} (h:M b=none):bI M S b=none :=by
 by_cases e:b∈S
 ·exact fh e
 ·rw [fv e];exact h
theorem hV {M:Mh} {b:ag} {o:Mo} {S:List ag} (h:bI M S b=some o):b ∉ S/\M b=some o :=by
 by_cases e:b∈S
 ·rw [fh e] at h;cases h
 ·rw [fv e] at h;exact ⟨e,h⟩
section
variable {X:Cx} {Γ:Gz} {β:Bz}
theorem Rz.qP {M:Mh} {H:Hp} {v:V} {d:Dv} (n:kh d):∀{S:List ag},(∀c∈S,∃us,H c=some (.lst us))->Rz β (bI M S) H v d->Rz β M H v d
 | [],_,h=>h
 |c::S,hS,h=>by
          obtain ⟨us,hc⟩:=hS c i8
          exact Rz.qP n (fun x hx=>hS x (gc _ hx)) (Rz.grow hc h n)
theorem we {M:Mh} {ρ:av} {σ:St} {H:Hp} {i:Nat} {a:ag} {bs:List ag} {rs:List (List Int)} (z:Zr Γ β M ρ σ H) (hi:ρ[i]?=some (some (.ptr a))) (ha:M a=some (.lst (bs.map .ptr))) (hlen:bs.length=rs.length) (hb:∀(j:Nat) (b:ag) (r:List Int),bs[j]?=some b->rs[j]?=some r->M b=some (.lst (r.map .int))) (h0:Γ.M0 a=none) (yQ:∀b∈bs,Γ.M0 b=none)
  (fr:Froz Γ.M0 (bI M (a::bs)) (ρ.set i (some (.lst (rs.map de))))) (hn:∀b o,M b=some o->b ∉ a::bs->∀d∈o.items,kh d) :
  Zr Γ β (bI M (a::bs)) (ρ.set i (some (.lst (rs.map de)))) σ H/\∀H2,Ex β (bI M (a::bs)) H (bI M (a::bs)) H2->Ex β M H M H2/\∀c∈a::bs,∃us,H2 c=some (.lst us) :=by
 have pZ:i<ρ.length:=(bv.mp hi).1
 have mb:∀b∈bs,∃r:List Int,M b=some (.lst (r.map .int)):=fun b cV=>by
  obtain ⟨j,hj⟩:=l7.mp cV
  have Cq:j<rs.length :=by rw [<- hlen];exact (bv.mp hj).1
  exact ⟨rs[j],hb j b _ hj (al Cq)⟩
 have S0:∀c∈a::bs,Γ.M0 c=none:=fun c hc=>by
  rcases lc.mp hc with e|e
  ·rw [e];exact h0
  ·exact yQ c e
 have SM:∀c∈a::bs,∃ds,M c=some (.lst ds):=fun c hc=>by
  rcases lc.mp hc with e|e
  ·rw [e];exact ⟨_,ha⟩
  ·obtain ⟨r,hr⟩:=mb c e;exact ⟨_,hr⟩
 have L5:∀c,(bI M (a::bs) c).isSome=true->(M c).isSome=true:=fun c hc=>by
  cases e:bI M (a::bs) c with
  |none=>rw [e] at hc;cases hc
  |some o=>rw [(hV e).2];rfl
 have rz:∀{v:V} {d:Dv},Rz β M H v d->Pin (bI M (a::bs)) d->Rz β (bI M (a::bs)) H v d:=fun r p=>r.jX (M0:=bI M (a::bs)) L5 p
 have obj:∀b es,bI M (a::bs) b=some es->∀d∈es.items,Pin (bI M (a::bs)) d:=fun b es e d hd=>by
  rcases fr.obj b es e with w|w
  ·refine (z.wf b es w d hd).mono fun c hc=>?_
   have nc:c ∉ a::bs:=fun y=>by rw [S0 c y] at hc;cases hc
   rw [fv nc]
   exact z.ent.dom c hc
  ·exact w d hd
 have mz:Mz β (bI M (a::bs)) H :=by
  refine ⟨fun b o e=>?_,z.mz.tabs,z.mz.hids,fun b o e=>z.mz.apart b o (hV e).2,z.mz.lams⟩
  have w:=z.mz.obj b o (hV e).2
  cases o with
  |lst es=>obtain ⟨vs,hv,rs⟩:=w;exact ⟨vs,hv,rs.len,fun j v d x y=>rz (rs.at' j v d x y) (obj b _ e d (db y))⟩
  |dk ks es=>obtain ⟨vs,hv,hk,rs⟩:=w;exact ⟨vs,hv,hk,rs.len,fun j v d x y=>rz (rs.at' j v d x y) (obj b _ e d (db y))⟩
  |dt ks es=>obtain ⟨vs,hv,hk,rs⟩:=w;exact ⟨vs,hv,hk,rs.len,fun j v d x y=>rz (rs.at' j v d x y) (obj b _ e d (db y))⟩
  |bZ=>exact w
 obtain ⟨vs,NT,Ky⟩:=z.mz.obj a _ ha
 have ra:Rz β (bI M (a::bs)) H (.ref a) (.lst (rs.map de)) :=by
  refine .lst ⟨fh i8,z.mz.apart a _ ha⟩ NT (by rw [Ky.len,cr,cr,hlen]) fun j v d x y=>?_
  rw [ca,kt] at y
  obtain ⟨r,hr,rfl⟩:=y
  have Kz:j<bs.length :=by rw [hlen];exact (bv.mp hr).1
  have KA:=al Kz
  have r1:=Ky.at' j v (.ptr bs[j]) x (by rw [ca,KA];rfl)
  obtain ⟨rfl,_⟩:=a9 r1
  have cV:=tw Kz
  have Cr:=hb j _ r KA hr
  obtain ⟨us,hu,ru⟩:=z.mz.obj _ _ Cr
  have eu:=iG ru
  subst eu
  exact .lst ⟨fh (gc _ cV),z.mz.apart _ _ Cr⟩ hu (by simp) fun k v d x y=>jV.at' k v d x y
 have z2:Zr Γ β (bI M (a::bs)) (ρ.set i (some (.lst (rs.map de)))) σ H :=by
  refine ⟨z.eP,z.ew,z.eK,z.et,z.sub,z.wf,⟨z.ent.keep,fun b cQ=>?_,fun b o m h=>oi (z.ent.new b o m h)⟩,mz,by simp [z.len],fun j d e=>?_⟩
  ·have nb:b ∉ a::bs:=fun y=>by rw [S0 b y] at cQ;cases cQ
   rw [fv nb];exact z.ent.dom b cQ
  ·have pj:=fr.env j d e
   rw [BS] at e
   split at e
   ·rename_i w
    subst w
    first
     |cases e
     |(rw [if_pos pZ] at e;cases e)
    obtain ⟨v,hv,r⟩:=z.at' i _ hi
    obtain ⟨rfl,_⟩:=a9 r
    exact ⟨_,hv,ra⟩
   ·obtain ⟨v,hv,r⟩:=z.at' j d e
    exact ⟨v,hv,rz r pj⟩
 refine ⟨z2,fun H2 x=>?_⟩
 have Ct:∀c∈a::bs,∃us,H2 c=some (.lst us):=fun c hc=>by
  obtain ⟨ds,hd⟩:=SM c hc
  obtain ⟨us,hu,_⟩:=z.mz.obj c _ hd
  exact ⟨us,x.get (fh hc) hu rfl⟩
 have ey:Ey M H M H2:=⟨fun b o cQ ho=>x.keep b o (oi cQ) ho,fun _ h=>h,fun _ _ h _=>h⟩
 refine ⟨⟨ey,⟨fun b o cQ=>?_,x.mz.tabs,x.mz.hids,z.mz.apart,x.mz.lams⟩⟩,Ct⟩
 by_cases u0:b∈a::bs
 ·obtain ⟨ds,hd⟩:=SM b u0
  rw [hd] at cQ
  cases cQ
  obtain ⟨us,hu,ru⟩:=z.mz.obj b _ hd
  exact ⟨us,x.get (fh u0) hu rfl,ru.len,fun i v d p q=>(ru.at' i v d p q).ey ey⟩
 ·have w:=x.mz.obj b o (by rw [fv u0];exact cQ)
  cases o with
  |bZ=>exact w
  |lst ds=>
   obtain ⟨us,hu,ru⟩:=w
   exact ⟨us,hu,ru.len,fun i v d p q=>(ru.at' i v d p q).qP (hn b _ cQ u0 d (db q)) Ct⟩
  |dk ks ds=>
   obtain ⟨us,hu,hk,ru⟩:=w
   exact ⟨us,hu,hk,ru.len,fun i v d p q=>(ru.at' i v d p q).qP (hn b _ cQ u0 d (db q)) Ct⟩
  |dt ks ds=>
   obtain ⟨us,hu,hk,ru⟩:=w
   exact ⟨us,hu,hk,ru.len,fun i v d p q=>(ru.at' i v d p q).qP (hn b _ cQ u0 d (db q)) Ct⟩
def DR (i:Nat) (M0:Mh) (p:cm):cm:=fun ρ M Q=>∃(a:ag) (bs:List ag) (rs:List (List Int)),ρ[i]?=some (some (.ptr a))/\M a=some (.lst (bs.map .ptr))/\bs.length=rs.length/\(∀(j:Nat) (b:ag) (r:List Int),bs[j]?=some b->rs[j]?=some r->M b=some (.lst (r.map .int)))/\M0 a=none/\(∀b∈bs,M0 b=none) /\
 Froz M0 (bI M (a::bs)) (ρ.set i (some (.lst (rs.map de))))/\(∀b o,M b=some o->b ∉ a::bs->∀d∈o.items,kh d) /\
 p (ρ.set i (some (.lst (rs.map de)))) (bI M (a::bs)) fun d M2=>M2=bI M (a::bs)/\Q d M
theorem AZ (i:Nat) {M1:Mh} {e:dL} {p:cm} (hM:Γ.M0=M1) (h:QT Γ X e p):QT Γ X e (DR i M1 p):=h.imp fun σ H Q hS=>by
 obtain ⟨β,ρ,M,Q',z,⟨a,bs,rs,hi,ha,hlen,hb,h0,yQ,fr,hn,hp⟩,q⟩:=hS
 subst hM
 obtain ⟨z2,back⟩:=we z hi ha hlen hb h0 yQ fr hn
 refine ⟨β,_,_,_,z2,hp,fun d M2 H2 x hq=>?_⟩
 obtain ⟨e,hq⟩:=hq
 subst e
 exact q d M H2 (back H2 x).1 hq
end
end L2
namespace L2
open PySem PySem.Spec PySem.W PyProof.Rows
def rk (R:Nat->Int) (p:Array Nat) (k:Nat):Int:=R (p.getD k 0)
end L2
namespace L2
open PySem PySem.Spec PyProof.Rows
section
variable {X:Cx} {Γ:Gz} {β:Bz} {K:bn} {tg:dL}
def fP (a:ag) (xs:List Dv) (g:b9) (tb:bH) (D:dy):List Dv->av->Mh->Prop
 | [],ρ,M=>M a=some (.lst xs)/\D.nx ρ M
 |d::ds,ρ,M=>M a=some (.lst xs)/\g d ρ M fun cW M2=>tb {D with nx:=fP a xs g tb D ds,ct:=fP a xs g tb D ds,bk:=D.nx} cW M2
def zForO (i:Nat) (g:b9) (tb:bH):bH:=fun D ρ M=>∃(a:ag) (bs:List ag),ρ[i]?=some (some (.ptr a))/\M a=some (.lst (bs.map .ptr))/\fP a (bs.map .ptr) g tb D (bs.map .ptr) ρ M
theorem mV {M:Mh} {H:Hp} {vs:List V} {bs:List ag} (r:aE β M H vs (bs.map .ptr)):vs=bs.map .ref :=by
 refine Qk fun i=>?_
 rw [ca]
 cases e:bs[i]? with
 |none=>
  have:=List.getElem?_eq_none_iff.mp e
  have l:=r.len
  rw [cr] at l
  exact List.getElem?_eq_none_iff.mpr (by omega)
 |some b=>
  have aY:=(bv.mp e).1
  have l:=r.len
  rw [cr] at l
  have hv:vs[i]?=some (vs[i]'(by omega)):=al (by omega)
  have:=(a9 (r.at' i _ (.ptr b) hv (by rw [ca,e];rfl))).1
  rw [hv,this]
  rfl
theorem qj {α:Type} {l:List α} {i:Nat} {x:α} (h:l[i]?=some x):l.drop i=x::l.drop (i+1) :=by
 obtain ⟨hl,e⟩:=bv.mp h
 rw [AL hl,e]
theorem fP.at {a:ag} {xs:List Dv} {g:b9} {tb:bH} {D:dy} {ds:List Dv} {ρ:av} {M:Mh} (h:fP a xs g tb D ds ρ M):M a=some (.lst xs) :=by
 cases ds with
 |nil=>exact h.1
 |cons d ds=>exact h.1
theorem Hj {i0:Nat} {g:b9} {tb:bH} {t:TS} (hb:∀aK:Gz,aK.P=Γ.P->aK.w=Γ.w->aK.K=Γ.K->aK.tb=Γ.tb->∀D σ H,lS aK tb D σ H->t D σ H) {tg:TG} (hg:∀aK:Gz,aK.P=Γ.P->aK.w=Γ.w->aK.K=Γ.K->aK.tb=Γ.tb->∀x σ H N,lG aK g x σ H N->tg x σ H N) {D:Ends} {σ:St} {H:Hp} (h:lS Γ (zForO i0 g tb) D σ H):zT (vi K (lE Γ (zVar i0))) tg t D σ H :=by
 obtain ⟨β,ρ,M,D',zr,⟨a,bs,NU,ha,h⟩,r⟩:=h
 have sq:∀{M':Mh} {bC:av} {aF:St} {H':Hp},Zr ⟨β,M,H⟩ β M' bC aF H'->M' a=some (.lst (bs.map .ptr))->bA K H' a (bs.map .ref):=fun z e=>by
  obtain ⟨vs,hv,rs⟩:=z.mz.obj a _ e
  rw [mV rs] at hv
  exact bA.of hv
 refine ⟨β,ρ,M,fun d M1=>d=.ptr a/\M1=M,zr,?_,fun d M1 v H1 x1 r1 h1=>?_⟩
 ·unfold zVar
  rw [NU]
  exact ⟨rfl,rfl⟩
 obtain ⟨rfl,rfl⟩:=h1
 obtain ⟨rfl,_⟩:=a9 r1
 have fY:=zr.step x1
 obtain ⟨B1,NV,_⟩:=fY.mz.obj a _ ha
 refine ⟨a,rfl,⟨_,bA.of NV⟩,?_⟩
 refine ⟨fun i m aF H'=>m=bs.length - i/\i<=bs.length/\∃bC M',Zr ⟨β,M1,H1⟩ β M' bC aF H'/\fP a (bs.map .ptr) g tb D' ((bs.map Dv.ptr).drop i) bC M',⟨bs.length,rfl,sK _,ρ,M1,fY.root,h⟩,?_⟩
 rintro i m aF H' ⟨rfl,hi,bC,M',eE,h'⟩
 have ev:∀{M2:Mh} {cW:av} {iY:St} {H2:Hp},Zr ⟨β,M1,H1⟩ β M2 cW iY H2->Ev β M1 H M2 H2:=fun z=>x1.ev.trans ⟨z.ent.keep,z.ent.new,z.mz⟩
 have e0:=h'.at
 obtain ⟨vs,hv,rs⟩:=eE.mz.obj a _ e0
 rw [mV rs] at hv
 have run:=pL (K:=K) (bA.of hv) i
 rw [cr] at run
 by_cases aY:i<bs.length
 ·have q:=run.1 aY
  refine .inr ⟨q.1,fun iY H2=>∃cW M2,Zr ⟨β,M1,H1⟩ β M2 cW iY H2/\fP a (bs.map .ptr) g tb D' ((bs.map Dv.ptr).drop (i+1)) cW M2,fun iY H2 ⟨cW,M2,uK,h2⟩=>⟨bs.length - (i+1),by omega,rfl,aY,cW,M2,uK,h2⟩,fun v kT y=>?_⟩
  obtain ⟨rfl,hx⟩:=q.2 v kT y
  have hd:(bs.map Dv.ptr)[i]?=some (.ptr bs[i]) :=by rw [ca,al aY];rfl
  have rd:=rs.at' i v _ (by rw [mV rs];exact hx) hd
  have e:(bs.map Dv.ptr).drop i=.ptr bs[i]::(bs.map Dv.ptr).drop (i+1):=qj hd
  rw [e] at h'
  refine hg ⟨β,M1,H1⟩ zr.eP zr.ew zr.eK zr.et _ _ _ _ ⟨β,_,bC,M',_,eE,rd,h'.2,fun Gy M3 js H3 x3 ym h3=>hb ⟨β,M1,H1⟩ zr.eP zr.ew zr.eK zr.et _ _ _ ⟨β,Gy,M3,_,ym,h3,?_⟩⟩
  exact ⟨fun i7 M4 pU H4 x4 fJ h4=>⟨i7,M4,fJ,h4⟩,fun d4 M4 v4 H4 x4 e4 r4 h4=>r.rt _ _ _ _ (x1.ev.trans ⟨e4.keep,e4.new,x4.mz⟩) (fY.ent.trans e4) r4 h4,fun i7 M4 pU H4 x4 fJ h4=>r.nx _ _ _ _ (ev fJ) (fY.nY fJ) h4,fun i7 M4 pU H4 x4 fJ h4=>⟨i7,M4,fJ,h4⟩⟩
 ·have e:i=bs.length :=by omega
  subst e
  rw [List.drop_of_length_le (by rw [cr];exact c8 _)] at h'
  exact .inl ⟨run.2 (c8 _),r.nx _ _ _ _ (ev eE) (fY.nY eE) h'.2⟩
theorem DS (i:Nat) {x:br} {pos A0:sB} {body:List nw} {g:b9} {tb:bH} (hp:P9 (model X.prog X.w) X.A X.env X.xe) (hc:X.calm=true) (hK:X.K=K) (hl:QE Γ X (.Name x A0) (zVar i))
  (se:∀aK:Gz,aK.P=Γ.P->aK.w=Γ.w->aK.K=Γ.K->aK.tb=Γ.tb->QG aK X tg g/\jC aK X body tb)
  (hs:∀y,foldedSetIterable (.Name x A0) X.env y=pure y :=by intro _;rfl):QS Γ X (.For tg (.Name x A0) body [] pos) (zForO i g tb):=
 (xc (g:=Kn Γ g) (tb:=Km Γ fun _=>tb) hp hc (rK hK hl) (fun pins s σ H v u Q I r h=>by obtain ⟨aK,e1,e2,e3,e4,h⟩:=h;exact (se aK e1 e2 e3 e4).1 pins s σ H v u Q I r h) ⟨fun pins s σ H D I h=>by obtain ⟨aK,e1,e2,e3,e4,h⟩:=h;exact (se aK e1 e2 e3 e4).2 pins s σ H D I h⟩ hs).imp
  fun D σ H h=>Hj (fun aK e1 e2 e3 e4 D σ H h=>⟨aK,e1,e2,e3,e4,h⟩) (fun aK e1 e2 e3 e4 x σ H N h=>⟨aK,e1,e2,e3,e4,h⟩) h
end
section
variable {X:Cx} {Γ:Gz} {K:bn}
def zSortedP (d:Dv) (M:Mh) (Q:ZK):Prop:=match intsM M d with|some ns=>ns.length<64/\∀a,M a=none->Q (.ptr a) (aq M a (.lst ((sortI ns).map .int)))|none=>False
theorem y1 (hP:X.prog=Γ.P) (hw:X.w=Γ.w) (hK:X.K=K) (hc:X.calm=true):fI Γ X (.builtin "sorted") (z1 zSortedP):=⟨_,qB hP hw hK hc,fun β xs ds M H Q Q' eP ew _ m rs z q=>by
 unfold z1 at z
 split at z
 ·rename_i d
  obtain ⟨x,rfl,r⟩:=ee rs
  unfold zSortedP at z
  split at z
  ·rename_i ns dU
   have fin:∀l,H l=none->Q (.ref l) (upd H l (.lst ((sortI ns).map V.int))):=fun l hl=>by
    have x2:=Ex.own m (p:=l) (.inr hl) (jV (ns:=sortI ns))
    exact q _ _ _ _ x2 (.ptr (by rw [updM_same];rfl)) (z.2 l (m.free hl))
   unfold intsM at dU
   split at dU
   ·cases dU
    obtain ⟨a,rfl,f,h⟩:=yi r
    rw [eP,ew] at h
    exact ⟨a,_,rfl,.inl h,z.1,fin⟩
   ·obtain ⟨a,rfl,ha⟩:=pX m r dU
    exact ⟨a,_,rfl,.inr (ha.imp bA.of cP.of),z.1,fin⟩
  ·exact z.elim
 ·exact z.elim⟩
end
end L2
namespace HT
open PySem PySem.Calls PyProof.Rows
section
variable {prog:f8} {w:ii} {A:l8} {E:ap->bi->Prop} {s:bi}
theorem wg (n:Nat):Pb none none (-1) (n:Int)=((n:Int) - 1,-1) :=by
 unfold Pb
 have h1:((-1:Int)<0) :=by omega
 simp only [h1,if_true]
theorem wj (n:Nat):KM ((n:Int) - 1) (-1) (-1)=n :=by
 unfold KM
 have h1:¬ ((-1:Int) > 0) :=by omega
 simp only [h1,if_false,show (- (-1:Int))=1 by omega,Int.ediv_one]
 split <;> omega
theorem mW {sl:ag} {vl vu vs:ap} {n:Nat} {Q:Int×Int×Nat->bi->Prop} (hs:s.heap.IsSliceOf sl vl vu vs) (pl:PN vl none) (pu:PN vu none) (ps:PN vs (some (-1)))
  (h:Q ((n:Int) - 1,-1,n) s):wpAny (model prog w) A (uu.Slice.sliceApplied (.ref sl) (pure (n:Int))) Q E s :=by
 obtain ⟨os,eR,my,jG⟩:=id hs
 unfold uu.Slice.sliceApplied uu.Slice.sliceFields
 refine ba (ba (wpAny_field eR jG (x:=vl) rfl (ba (wpAny_field eR jG (x:=vu) rfl (ba (wpAny_field eR jG (x:=vs) rfl (ce ?_)))))))
 refine ba (jM ps ?_)
 show wpAny _ _ (if ((-1:Int)==0)=true then _ else _) _ _ s
 rw [if_neg (by decide)]
 refine ba (jM pl (ba (jM pu (ba (ce ?_)))))
 show wpAny _ _ (match Pb none none (-1) (n:Int) with|(lo,hi)=>pure (lo,(-1:Int),KM lo hi (-1))) _ _ s
 rw [wg n]
 show wpAny _ _ (pure ((n:Int) - 1,(-1:Int),KM ((n:Int) - 1) (-1) (-1))) _ _ s
 rw [wj]
 exact ce h
theorem A1 (xs:Array ap):((io xs.size).filterMap fun (m:Nat)=>xs[(((xs.size:Int) - 1)+(m:Int) * -1).toNat]?).toArray=xs.toList.reverse.toArray :=by
 have e:((io xs.size).filterMap fun (m:Nat)=>xs[(((xs.size:Int) - 1)+(m:Int) * -1).toNat]?)=((io xs.size).map fun k=>xs.size - 1 - k).filterMap (xs[·]?) :=by
  rw [List.filterMap_map]
  congr 1
  funext m
  show xs[(((xs.size:Int) - 1)+(m:Int) * -1).toNat]?=xs[xs.size - 1 - m]?
  rw [show (((xs.size:Int) - 1)+(m:Int) * -1).toNat=xs.size - 1 - m by omega]
 rw [e,PySem.W.krv_range,List.filterMap_reverse,PySem.W.krv_all]
theorem lU {t sl:ag} {items:Array ap} {vl vu vs:ap} {Q:ap->bi->Prop} (ht:IsTup s.heap t items) (hs:s.heap.IsSliceOf sl vl vu vs) (pl:PN vl none) (pu:PN vu none) (ps:PN vs (some (-1)))
  (h:Q (.ref s.heap.objs.size) {s with heap:=s.heap.push {cls:=.type "tuple",data:=.seq items.toList.reverse.toArray}})
  (hsz:items.size<=sizeLine):wpAny (model prog w) A (getItem (.ref t) (.ref sl)) Q E s :=by
 have qQ:sizeOk (.seq items.toList.reverse.toArray) :=by
  show items.toList.reverse.toArray.size<=sizeLine
  rw [ff,OR,ul]
  omega
 obtain ⟨os,eR,my,jG⟩:=id hs
 have BQ:s.TypeIs (.ref sl) "slice" := ⟨os,eR,my⟩
 unfold getItem
 try with_reducible refine IS ?_
 first|refine ba (ce ?_)|skip
 refine ba (wpAny_sequenceKey ht.typeIs (by decide) ?_)
 refine ba (zn (name:=ww "__getitem__") ht.typeIs Mc
  (xw Mc ht.typeIs entry_tuple_getitem ?_ (args_tuple_getitem _ _)))
 show wpAny _ _ (uu.Tuple.tupleItemsOf (.ref t)>>=_) _ _ s
 refine ba (tupleItemsOf_ ht ?_)
 refine ba (Qw BQ ?_)
 rw [if_pos (by decide)]
 refine ba (mW hs pl pu ps ?_)
 have NW:¬ ((((items.size:Int) - 1)==0 && (-1:Int)==1 && items.size==items.size)=true) :=by
  intro q
  rw [u4,u4] at q
  exact absurd q.1.2 (by decide)
 show wpAny _ _ (if (((items.size:Int) - 1)==0 && (-1:Int)==1 && items.size==items.size)=true then _ else _) _ _ s
 rw [if_neg NW,A1]
 first
  |exact ba (m:=LM _) (tz (ce ⟨_,rfl,ce h⟩) qQ)
  |exact ba (m:=LM _) (tz (ba (ce (ce ⟨_,rfl,ce h⟩))) qQ)
  |exact ba (ba (m:=LM _) (tz (ce (ce ⟨_,rfl,ce h⟩)) qQ))
  |exact ba (ba (m:=LM _) (tz (ce ⟨_,rfl,ce h⟩) qQ))
end
end HT
namespace L2
open PySem PySem.Spec PySem.W PyProof.Rows
section
variable {X:Cx} {e st:dL} {te ts:TE} {p2 pos:sB}
def Cu (K:bn) (te ts:TE):TE:=fun σ H Q=>te σ H fun x H1=>BG ts σ H1 fun o H2=>o=some (-1)/\∃a xs,x=.ref a/\cP K H2 a xs/\∀p,H2 p=none->Q (.ref p) (upd H2 p (.tup xs.reverse))
theorem DT (he:PE X e te) (rR:PE X st ts):PE X (.Subscript e (.Slice none none (some st) p2) pos) (Cu X.K te ts) :=by
 refine ⟨?_⟩
 intro pins s σ H Q I h
 refine Subscript_ (thn (he pins s σ H _ I h) fun v s1 ⟨x,H1,I1,r1,q1⟩=>?_)
 refine wpAny_Slice (thn (ur pins s1 σ H1 (fun o H=>o=none/\H=H1) I1 ⟨rfl,rfl⟩) fun vl s2 ⟨l,H2,I2,pl,el,eH⟩=>?_)
 subst el eH
 refine thn (ur pins s2 σ H2 (fun o H=>o=none/\H=H2) I2 ⟨rfl,rfl⟩) fun vu s3 ⟨u,H3,I3,pu,eu,eH⟩=>?_
 subst eu eH
 refine thn (C4 rR pins s3 σ H3 (fun o H=>o=some (-1)/\∃a xs,x=.ref a/\cP X.K H a xs/\∀p,H p=none->Q (.ref p) (upd H p (.tup xs.reverse))) I3 q1) fun vs s4 ⟨o,H4,I4,ps,eo,a,xs,ex,hx,q⟩=>?_
 subst eo ex
 cases r1
 have I5:Inv X pins σ H4 {s4 with heap:=s4.heap.push {cls:=.type "slice",data:=.fields #[vl,vu,vs]}}:=I4.kept (t':=s4.toks) fun b ob q=>ci _ q
 obtain ⟨its,r,ht,hz⟩:=I5.tuple hx
 have hlen:=r.length
 show wpAny (model X.prog X.w) X.A (subscriptTail e (.Slice none none (some st) p2) (.ref a) (.ref s4.heap.objs.size)) (EP X pins σ Q) X.xe {s4 with heap:=s4.heap.push {cls:=.type "slice",data:=.fields #[vl,vu,vs]}}
 refine tail_any (ops:=[.ref a,.ref s4.heap.objs.size]) ht.typeIs Mc.lookup ?_ (by with_unfolding_all rfl)
 refine HT.lU ht (gl.IsSliceOf.new ..) pl pu ps ?_ (by rw [ff] <;> omega)
 refine ⟨.ref _,_,I5.laid (t':=s4.toks) (o:=.tup xs.reverse) (fun b ob q=>ci _ q) (c8 _) ?_,rfl,q _ (I5.hok.fresh (c8 _))⟩
 exact ⟨by rw [OR];exact hz,_,r.reverse,jj.new _ _⟩
theorem A6 {K:bn} (h:X.K=K) (he:PE X e te) (rR:PE X st ts):PE X (.Subscript e (.Slice none none (some st) p2) pos) (Cu K te ts):=h▸DT he rR
end
section
variable {X:Cx} {Γ:Gz} {K:bn} {e st:dL} {p ps:aH} {p2 pos:sB}
def zRevT (p ps:aH):aH:=fun ρ M Q=>p ρ M fun d M1=>ps ρ M1 fun o M2=>o=.int (-1)/\(match d with | .tup ds=>Q (.tup ds.reverse) M2|_=>False)
theorem DU (hK:X.K=K) (he:QE Γ X e p) (rR:QE Γ X st ps):QE Γ X (.Subscript e (.Slice none none (some st) p2) pos) (zRevT p ps):=
 (A6 hK he rR).imp fun σ H Q ⟨β,ρ,M,Q',zr,h,q⟩=>⟨β,ρ,M,_,zr,h,fun d M1 v H1 x1 r1 h1=>⟨β,ρ,M1,_,zr.step x1,h1,fun o M2 u H2 x2 r2 ⟨e,h2⟩=>by
  subst e
  refine ⟨-1,aJ r2,rfl,?_⟩
  cases d with
  |tup ds=>
   obtain ⟨a,vs,rfl,f,ha,rs⟩:=dq (r1.ex x2)
   refine ⟨a,vs,rfl,cP.of ha,fun p hp=>?_⟩
   have x3:=Ex.lay x2.mz hp (.tup vs.reverse)
   have NX:aE β M2 H2 vs.reverse ds.reverse:=⟨by simp [rs.len],fun i v d a b=>by
    have hi:=(bv.mp a).1
    have fN:=(bv.mp b).1
    rw [OR] at hi fN
    rw [List.getElem?_reverse hi] at a
    rw [List.getElem?_reverse fN,<- rs.len] at b
    exact rs.at' _ v d a b⟩
   exact q _ _ _ _ (x1.trans (x2.trans x3)) (kR (x2.mz.fz hp) aA (NX.ex x3)) h2
  |_=>exact h2.elim⟩⟩
end
end L2
open PySem L2 PyProof.Rows
local macro_rules | `(tactic| simp! only [$xs,*] $[$l]?)=>`(tactic| simp only [zVar,zC,zOp,zII,zIC,zEq,zNe,scalZ,zIsN,isNonD,zSS,zTest,zBool,zChain,zAnd,zOr,zNot,zAndV,zOrV,zNotV,zNil,zCons,zTup,zLst,zLstP,zCB,z1,zLenD,z2I,zAbs,zTuple,intsM,itemsM,zIsInst,isD,zBM,tyZ,zAppend,zPop,zPopAt,zSetI,zgSub,zNext,zSeq,zDrop,zRet,zIfS,zgName,zAsg,zFor,zForM,zComp,zCompP,zAll,zBlock,zCall,zRaise,zstart,zEndsOf,ziTup,ziLst,ziRng1,ziKeys,zIx,zRangeP,zNeg,zTruth,truD,zNoIf,zInI,zGetR,zDIn,lookD,nowK,keyD,zDisp1K,zDisp1T,zDPut,zLenK,zClear,zIxS,zRepP,zMinL,zSortedP,zForO,zCallL,zRevT,List.getElem?_cons_zero,BB,ss,PU,Db,Qz,LF,O9,wb,List.replicate_zero,List.set_cons_zero,List.set_cons_succ,Qx,Nat.reduceAdd,Nat.reduceSub,Pl,Nat.zero_add,if_true,if_false,l4,Qe,Bool.not_false,true_and,and_true,beq_self_eq_true,String.reduceBEq,zLoop,cr,Da,updM_same,updM_updM,BY,DD,u8,rangeD_len,GM,atI_zero,decide_true,decide_false,Bool.not_eq_true,bne_self_eq_false,$xs,*] $[$l]?)
local macro_rules | `(tactic| dsimp! only [$xs,*] $[$l]?)=>`(tactic| simp only [zVar,zC,zOp,zII,zIC,zEq,zNe,scalZ,zIsN,isNonD,zSS,zTest,zBool,zChain,zAnd,zOr,zNot,zAndV,zOrV,zNotV,zNil,zCons,zTup,zLst,zLstP,zCB,z1,zLenD,z2I,zAbs,zTuple,intsM,itemsM,zIsInst,isD,zBM,tyZ,zAppend,zPop,zPopAt,zSetI,zgSub,zNext,zSeq,zDrop,zRet,zIfS,zgName,zAsg,zFor,zForM,zComp,zCompP,zAll,zBlock,zCall,zRaise,zstart,zEndsOf,ziTup,ziLst,ziRng1,ziKeys,zIx,zRangeP,zNeg,zTruth,truD,zNoIf,zInI,zGetR,zDIn,lookD,nowK,keyD,zDisp1K,zDisp1T,zDPut,zLenK,zClear,zIxS,zRepP,zMinL,zSortedP,zForO,zCallL,zRevT,List.getElem?_cons_zero,BB,ss,PU,Db,Qz,LF,O9,wb,List.replicate_zero,List.set_cons_zero,List.set_cons_succ,Qx,Nat.reduceAdd,Nat.reduceSub,Pl,Nat.zero_add,if_true,if_false,l4,Qe,Bool.not_false,true_and,and_true,beq_self_eq_true,String.reduceBEq,cr,Da,updM_same,updM_updM,BY,DD,u8,rangeD_len,GM,atI_zero,decide_true,decide_false,Bool.not_eq_true,bne_self_eq_false,$xs,*] $[$l]?)
namespace My
open PySem L2 PyProof.Rows
def top (i:Nat):nw:=PySem.Challenge.pw_roadcall_k05_parts_and_hanging_together.main.body.getD i (.Pass ⟨0,0,0,0⟩)
abbrev ej:nw:=top 4
abbrev cT:nw:=top 5
abbrev iQ:nw:=top 9
abbrev iR:nw:=top 10
abbrev hZ:nw:=top 11
abbrev gz:nw:=top 14
abbrev ay:nw:=top 15
abbrev gf:nw:=top 16
abbrev dA:nw:=top 17
abbrev h8:nw:=top 19
abbrev eS:nw:=top 20
abbrev fQ:nw:=top 21
abbrev dB:nw:=top 22
abbrev dY:nw:=top 23
abbrev dZ:nw:=top 25
abbrev cU:nw:=top 26
abbrev fR:nw:=top 27
abbrev wk:nw:=top 28
section
variable {P:f8} {w:ii} {K:bn} {mg:br->Option ap} {base:gl} {tb:cC}
theorem dg:aT ["start","width","step","most","found","queue","met","at","goal"] ["start","width","step","most"] (aj gz):=⟨rfl,rfl,rfl,by decide +kernel,rfl,by decide +kernel,by decide +kernel⟩
def y2 (bO:List Dv) (step:Int->Nat->Int) (U:List Int) (n:Nat):List Dv->cp:=fun L6 ds M Q _=>L6=bO/\∃(p:Int) (a:Nat),ds=[.int p,.int ((a:Nat):Int)]/\p∈U/\a<n/\Q (.int (step p a)) M
def sL (r:List Int×List br):Dv:=.dk (r.1.map AM) (r.2.map Dv.str)
def u5 (P:f8) (w:ii) (K:bn) (mg:br->Option ap) (tb:cC) (base:gl):cp:=fun ds M Q _=>∃(s:Int) (step:Int->Nat->Int) (U:List Int) (n most:Nat) (f:ag) (fd:l3) (o:i4) (c:ag) (oc:i4) (vcs:List V) (bO:List Dv) (ps:List br),
 ds=[.int s,.int (n:Nat),.bB f o c oc vcs bO,.int (most:Nat)]/\FnOk P w K mg base bq 6 f fd ps (Ce P w K tb f o c oc vcs (y2 bO step U n))/\(∃oc od fd sl,o=⟨oc,od,.func fd,sl⟩)/\Binds K fd ps []/\n<=3/\s∈U/\(∀k∈U,∀a,a<n->step k a∈U)/\U.length<=10000 /\
 Q (sL (met step n most U.length s)) M
theorem sM {f:ag} {fd:l3} {dv:List ap} (D:Cd K mg "first_met" gz ["start","width","step","most"] dv f fd) (bl:Bl mg) {tk:QH} (iS:mg "SIGNS" = some (.str "abc" tk)) :
  FnOk P w K mg base bq 7 f fd ["start","width","step","most"] (bg P w K tb (u5 P w K mg tb base)) :=by
 refine Jm D dg (fun ds M Q E hS=>by obtain ⟨s,step,U,n,most,f,fd,o,c,oc,vcs,bO,ps,e,_⟩:=hS;rw [e];rfl) fun A outer s0 E Γ ds Q' E' hP hw hK ht hr hS=>?_
 obtain ⟨s,step,U,n,most,f,fd,o,c,oc,vcs,bO,ps,e,Hk,Hl,Hm,hn,hs,hU,hl,q⟩:=hS
 refine ⟨_,(ak (aN (i:=4) dg.nd rfl (nl rfl) (yF (qv 0) yj))
  (ak (aN (i:=5) dg.nd rfl (nl rfl) (ig (aa (qv 0) ah)))
  (ak (sf sw (QW.pt (yk (AF (qv 5)) (uJ (bV vR (aD GW rfl bl.len_ mv (aa (qv 4) ah)) (qv 3) (b8 _)))))
   (ak (aN (i:=6) dg.nd rfl (nl rfl) (jW (K:=K) rfl wn PySem.F.slot_list_pop PySem.F.type_list_pop uN (qv 5) (aa aw ah)))
  (au (cY sw rfl (aV rfl bl.range_ (aa (qv 1) ah)) (fun jg eP ew eK et=>by have hP:=hP.trans eP.symm;have hw:=hw.trans ew.symm;have hK:=hK.trans eK.symm;have ht:=ht.trans et.symm;exact ⟨(aP (i:=7) dg.nd rfl (nl rfl)),(ak (aN (i:=8) dg.nd rfl (nl rfl) (AQ (i:=2) Hk Hl (hr.mono (by decide)) rfl (nl rfl) Hm bQ hP hw hK ht XR.none (aa (qv 6) (aa (qv 7) ah))))
  (au (dz (bV (AJ hr.units) (qv 8) (qv 4) (by rfl))
   (ak (DI hr.units (qv 4) (qv 8) (aX yq (DF hr.units (qv 4) (qv 6) (fun _ _=>rfl)) (aS (bE (K:=K) rfl) (Az (z := "abc") rfl iS ⟨_,rfl⟩) (qv 7) (fun _ _=>rfl))))
  (au (fu (jW (K:=K) rfl wn DO EM iI (qv 5) (aa (qv 8) ah)))))
   qss_nil)))⟩)))))
  (au (bu (qv 4)))))),?_⟩
 subst e
 simp! only []
 intro a ha
 refine ⟨by decide,fun qq hq=>?_⟩
 have y3:qq≠a:=fun z=>by rw [z,updM_same] at hq;cases hq
 have NY:Γ.M0 qq=none :=by rw [af y3] at hq;exact hq
 have big:(10000:Nat)+10<sizeLine :=by decide
 have KC:∀{M:Mh},(∀b,b≠a->b≠qq->M b=Γ.M0 b)->Keeps Γ.M0 M:=fun h b o e=>by
  rw [h b (fun z=>by rw [z,ha] at e;cases e) (fun z=>by rw [z,NY] at e;cases e)];exact e
 let I:Nat->List Int×List br->av->Mh->Prop:=fun i st ρ M=>(∃x6 x7 x8,ρ=[some (.int s),some (.int (n:Nat)),some (.bB f o c oc vcs bO),some (.int (most:Nat)),some (.ptr a),some (.ptr qq),x6,x7,x8])/\M a=some (.dk (st.1.map AM) (st.2.map Dv.str))/\M qq=some (.lst ((st.1.drop i).map Dv.int))/\(∀b,b≠a->b≠qq->M b=Γ.M0 b)/\dR U st/\i<=st.1.length
 refine ⟨fun m ρ M=>∃i st,m=U.length+1 - i/\I i st ρ M/\iP step n most (U.length+1 - i) i st=met step n most U.length s,⟨_,0,([s],[""]),rfl,⟨⟨_,_,_,rfl⟩,by rw [af (xy y3),updM_same];rfl,updM_same,fun b h1 h2=>by rw [af h2,af h1],lg hs,sK _⟩,rfl⟩,?_⟩
 rintro m ρ M ⟨i,st,rfl,⟨⟨x6,x7,x8,rfl⟩,qk,NZ,k7,ok,hi⟩,hb⟩
 have hle:=ok.le
 have OW:=ok.len
 have fin:∀M',M' a=some (.dk (st.1.map AM) (st.2.map Dv.str))->Keeps Γ.M0 M'->st=met step n most U.length s->iJ Γ.M0 Q' (.ptr a) M':=fun M' h k e=>.inr ⟨k,sL st,.dk ha h rfl fun j d d' e1 e2=>by
  rw [e1] at e2;cases e2
  obtain ⟨w,_,rfl⟩:=ma.mp (db e1)
  exact .pin (.str w),by rw [e];exact q⟩
 have Hn:U.length+1 - i=(U.length - i)+1 :=by omega
 simp! only [qk,NZ]
 refine dQ (fun h1=>?_) (fun h1=>?_)
 ·have aY:i<st.1.length :=by
   rcases Nat.lt_or_ge i st.1.length with h|h
   ·exact h
   ·rw [List.drop_eq_nil_of_le h] at h1;cases h1
  obtain ⟨k,hk⟩:∃k,st.1[i]?=some k:=⟨_,al aY⟩
  obtain ⟨wd,y4⟩:∃wd,st.2[i]?=some wd:=⟨_,al (by omega)⟩
  have Ho:k∈U:=ok.sub k (db hk)
  refine dQ (fun h2=>?_) (fun h2=>?_)
  ·have wm:st.1.length<=most :=by simpa using h2
   have Ou:(st.1.drop i).length=st.1.length - i:=Qs
   have N0:seqIndex? 0 (st.1.drop i).length=some 0:=(by unfold seqIndex?;simp;omega)
   have e0:((st.1.drop i).map Dv.int)[0]?=some (.int k) :=by rw [mU hk];rfl
   simp only [N0,e0]
   refine ⟨by decide,by decide,by omega,by omega,?_⟩
   have er:((st.1.drop i).map Dv.int).eraseIdx 0=(st.1.drop (i+1)).map Dv.int :=by rw [mU hk];rfl
   simp only [er]
   refine bK (fun j ρ M=>(∃x7 x8,ρ=[some (.int s),some (.int (n:Nat)),some (.bB f o c oc vcs bO),some (.int (most:Nat)),some (.ptr a),some (.ptr qq),some (.int k),x7,x8])/\M a=some (.dk ((visit step k wd j st).1.map AM) ((visit step k wd j st).2.map Dv.str))/\M qq=some (.lst (((visit step k wd j st).1.drop (i+1)).map Dv.int))/\(∀b,b≠a->b≠qq->M b=Γ.M0 b)/\j<=n)
    ⟨⟨_,_,rfl⟩,by rw [af (xy y3)];exact qk,updM_same,fun b h1 h2=>by rw [af h2];exact k7 b h1 h2,sK _⟩ (fun j d ρ M N hd ⟨⟨x7,x8,e1⟩,y6,y7,Cv,gj⟩ hN=>?_) (fun ρ M ⟨⟨x7,x8,e1⟩,y6,y7,Cv,gj⟩=>?_)
   ·subst e1
    obtain ⟨rfl,hj⟩:=aZ hd
    obtain ⟨gk,gw,g1,g2⟩:=g9 step k wd j st
    have Cw:=ok.visit (n:=j) (step:=step) (met:=k) y4 fun b hb=>hU k Ho b (by omega)
    have OX:=Cw.le
    have L7:=Cw.len
    have KD:(visit step k wd j st).1[i]?=some k :=by rw [g1];exact oS hk
    have KG:(visit step k wd j st).2[i]?=some wd :=by rw [g2];exact oS y4
    have Hb:=uZ Cw.nd KD KG
    have BJ:=Cw.wl i wd KG
    have OA:i<(visit step k wd j st).1.length:=(bv.mp KD).1
    simp! only []
    refine ⟨rfl,k,j,rfl,Ho,hj,?_⟩
    simp! only [y6,mS oU,NH,qi L7]
    have nx:∀{bC M'},(∃x7 x8,bC=[some (.int s),some (.int (n:Nat)),some (.bB f o c oc vcs bO),some (.int (most:Nat)),some (.ptr a),some (.ptr qq),some (.int k),x7,x8])->M' a=some (.dk ((visit step k wd (j+1) st).1.map AM) ((visit step k wd (j+1) st).2.map Dv.str))->M' qq=some (.lst (((visit step k wd (j+1) st).1.drop (i+1)).map Dv.int))->(∀b,b≠a->b≠qq->M' b=Γ.M0 b)->N bC M':=fun h1 h2 h3 h4=>hN _ _ ⟨h1,h2,h3,h4,hj⟩
    have vs:=fO step k wd j st
    refine dQ (fun hm=>?_) (fun hm=>?_)
    ·have hm:step k j ∉ (visit step k wd j st).1 :=by simpa using hm
     have hv:visit step k wd (j+1) st=((visit step k wd j st).1++[step k j],(visit step k wd j st).2++[wd++uX j]) :=by rw [vs];unfold gd;rw [if_neg hm]
     obtain ⟨p1,p2⟩:=DP (κ:=Key) (k:=AM (step k j)) (d:=Dv.str (wd++uX j)) (ks:=(visit step k wd j st).1.map AM) (ds:=(visit step k wd j st).2.map Dv.str) (fun z=>hm ((t6 oU).mp z))
     simp only [Hb,AE,DQ (show j<3 by omega)]
     refine ⟨by decide,by rw [show (⟨#[97+j]⟩:br)=uX j from rfl,uY];omega,by omega,?_⟩
     rw [show (⟨#[97+j]⟩:br)=uX j from rfl,p1,p2]
     simp only [af y3,y7]
     refine ⟨trivial,by simp only [cr,Qs];omega,nx ⟨_,_,rfl⟩ ?_ ?_ fun b h1 h2=>by rw [af h2,af h1];exact Cv b h1 h2⟩
     ·rw [af (xy y3),updM_same,hv,ut,ut];rfl
     ·rw [updM_same,hv]
      show some (Mo.lst (_++[_]))=_
      rw [List.drop_append_of_le_length (by omega),ut];rfl
    ·have hm:step k j∈(visit step k wd j st).1 :=by simpa using hm
     have hv:visit step k wd (j+1) st=visit step k wd j st :=by rw [vs];unfold gd;rw [if_pos hm]
     exact nx ⟨_,_,rfl⟩ (by rw [hv];exact y6) (by rw [hv];exact y7) Cv
   ·subst e1
    have N1:(bJ 0 n).length=n:=rangeD_len 0 n
    rw [N1] at y6 y7 gj
    have N4:=ok.visit (n:=n) (step:=step) (met:=k) y4 fun b hb=>hU k Ho b hb
    obtain ⟨gk,gw,g1,g2⟩:=g9 step k wd n st
    refine ⟨U.length+1 - (i+1),by omega,i+1,visit step k wd n st,rfl,⟨⟨_,_,_,rfl⟩,y6,y7,Cv,N4,by rw [g1,v6];omega⟩,?_⟩
    rw [<- hb,Hn,yZ hk y4 wm]
    rw [show U.length+1 - (i+1)=U.length - i by omega]
  ·refine fin M qk (KC k7) ?_
   have wm:¬ st.1.length<=most :=by simpa using h2
   rw [<- hb,Hn]
   unfold iP
   simp only [hk,y4,if_neg wm]
 ·refine fin M qk (KC k7) ?_
  have h:st.1.length<=i :=by
   rcases Nat.lt_or_ge i st.1.length with h|h
   ·rw [mU (al h)] at h1;cases h1
   ·exact h
  rw [<- hb,Hn]
  unfold iP
  have e1:st.1[i]?=none:=Cn h
  simp only [e1]
end
section
def sN (st:nw):dL:=match bo st with | [.Return (some (.Call _ (_::_::l::_) _ _)) _]=>l|_=>.Constant .none 0 ⟨0,0,0,0⟩
def lP (st:nw):FS:=match sN st with | .Lambda p _ _ _=>p|_=>⟨[],[],none,[],[],none,[]⟩
def lB (st:nw):dL:=match sN st with | .Lambda _ b _ _=>b|e=>e
def lS (st:nw):rb:=match sN st with | .Lambda _ _ s _=>s|_=>aj st
variable {P:f8} {w:ii} {K:bn} {mg:br->Option ap} {base:gl} {tb:cC}
theorem oV:aT ["net","start"] ["net","start"] (aj ay):=⟨rfl,rfl,rfl,by decide +kernel,rfl,by decide +kernel,by decide +kernel⟩
def qW:br:=("first_words" ++ ".<locals>." : br) ++ "<lambda>"
def aB (net:List (List Int)):List Int:=(io net.length).map fun i:Nat=>(i:Int)
def eV (net:List (List Int)) (p:Int) (a:Nat):Int:=(net.getD p.toNat []).getD a 0
theorem cu {net:List (List Int)} {p:Int}:p∈aB net ↔ 0<=p/\p<(net.length:Int) :=by
 unfold aB
 rw [ma]
 constructor
 ·rintro ⟨i,hi,rfl⟩
  have:=Lo.mp hi
  omega
 ·rintro ⟨h1,h2⟩
  exact ⟨p.toNat,Lo.mpr (by omega),by omega⟩
theorem getD_at {α:Type} {l:List α} {i:Nat} {d:α} (h:i<l.length):l.getD i d=l[i] :=by rw [cb,al h];rfl
theorem j4 {net:List (List Int)} {n:Nat} (o:bh net n) {p:Int} (hp:p∈aB net) {a:Nat} (ha:a<n):eV net p a∈aB net :=by
 obtain ⟨h1,h2⟩:=cu.mp hp
 have aY:p.toNat<net.length :=by omega
 obtain ⟨e1,e2⟩:=o.row net[p.toNat] (tw aY)
 unfold eV
 rw [getD_at aY,getD_at (by omega)]
 exact cu.mpr (e2 _ (tw _))
theorem sO {net:List (List Int)} {p:Int} (hp:p∈aB net):bW (net.map eI) p=some (eI (net.getD p.toNat [])) :=by
 obtain ⟨h1,h2⟩:=cu.mp hp
 have aY:p.toNat<net.length :=by omega
 have e:p=((p.toNat:Nat):Int) :=by omega
 rw [e]
 refine bU ?_
 rw [ca,u8,cb,al aY]
 rfl
theorem Hq {net:List (List Int)} {n:Nat} (o:bh net n) {p:Int} (hp:p∈aB net) {a:Nat} (ha:a<n):bW ((net.getD p.toNat []).map Dv.int) ((a:Nat):Int)=some (.int (eV net p a)) :=by
 obtain ⟨h1,h2⟩:=cu.mp hp
 have aY:p.toNat<net.length :=by omega
 have e1:=(o.row net[p.toNat] (tw aY)).1
 refine bU ?_
 unfold eV
 rw [ca,getD_at aY,getD_at (by omega),al (by omega)]
 rfl
theorem oj:j1 ["place","at"] ["net"] (lS ay):=⟨rfl,rfl,rfl,by decide +kernel,by decide +kernel,by decide +kernel,by decide +kernel⟩
theorem sP {f c:ag} {fd:l3} {o oc:i4} {aL:List (br×ag)} {vcs:List V} (L:v3 (lP ay) (lB ay) (lS ay) qW o c oc aL fd) (C:oO base ["net"] aL vcs) (dO:vcs.length=1) {net:List (List Int)} {n:Nat} (O:bh net n) :
  FnOk P w K mg base bq 1 f fd ["place","at"] (Ce P w K tb f o c oc vcs (y2 [eN net] (eV net) (aB net) n)) :=by
 refine LV L oj C dO (fun bO ds M Q E hS=>by obtain ⟨_,p,a,e,_⟩:=hS;rw [e];rfl) fun A outer s E Γ bO ds Q' E' hP hw hK ht hr hS=>?_
 obtain ⟨e0,p,a,e,hp,ha,q⟩:=hS
 refine ⟨_,(aS (bE (K:=K) rfl) (aS (bE (K:=K) rfl) (qv 2) (qv 0) (fun _ _=>rfl)) (qv 1) (fun _ _=>rfl)),?_⟩
 subst e e0
 simp! only [sO hp,Hq O hp ha]
 exact .inl q
theorem lV:∀n,(n,mo)∈(lS ay).names->(aj ay).names.lookup n=some .cell\/(aj ay).names.lookup n=some .free :=by
 have h:∀y∈(lS ay).names,y.2=mo->(aj ay).names.lookup y.1=some .cell :=by decide +kernel
 exact fun n hn=>.inl (h _ hn rfl)
theorem om:∀(j:Nat) (n:br),(["net"]:List br)[j]?=some n->(n,mo)∈(lS ay).names/\(aj ay).names.lookup n=some .cell/\∃i,([0]:List Nat)[j]?=some i/\(["net","start"]:List br)[i]?=some n:=fun j n h=>by
 cases j with
 |zero=>cases h;exact ⟨by decide +kernel,by decide +kernel,0,rfl,rfl⟩
 |succ j=>simp at h
def gT (net:List (List Int)) (n:Nat) (s:Int):List Int×List br:=met (eV net) n 511 net.length s
def y8:cp:=fun ds M Q _=>∃net n s,ds=[eN net,.int s]/\bh net n/\s∈aB net/\Q (sL (gT net n s)) M
theorem oW {f f1:ag} {fd cM:l3} {kj aG:ag} {KH:QH} (D:Df K mg "first_words" ay ["net","start"] f fd) (eW:xT base fd kj aG) (cV:∃bm ob,P5 base mainGlobals mg bm ob)
  (pZ:(aG,qW)∈tb.l) (G7:∀q∈tb.l,q.1=aG->q.2=qW) (dJ:Cd K mg "first_met" gz ["start","width","step","most"] [.int 511 KH] f1 cM) (bl:Bl mg) {tk:QH} (iS:mg "SIGNS" = some (.str "abc" tk)) :
  FnOk P w K mg base bq 8 f fd ["net","start"] (bg P w K tb y8) :=by
 refine fM D oV (fun ds M Q E hS=>by obtain ⟨net,n,s,e,_⟩:=hS;rw [e];rfl) fun A outer s0 E Γ ds Q' E' hP hw hK ht hr hS=>?_
 obtain ⟨net,n,s,e,O,hs,q⟩:=hS
 have fS:(aG,qW)∈Γ.tb.l:=ht▸pZ
 have fT:∀q∈Γ.tb.l,q.1=aG->q.2=qW:=ht▸G7
 have t7:∀b',(∀b o,base.get? b=some o->b'.get? b=some o)->FnOk P w K mg b' bq 7 f1 cM ["start","width","step","most"] (bg P w K tb (u5 P w K mg tb b')):=fun b' _=>sM dJ bl iS
 have sQ:Vals [V.int 511] [QF 511 KH]:=.cons ⟨_,rfl⟩ .nil
 have sR:∀(β:Bz) (M:Mh) (H:Hp),aE β M H [V.int 511] [Dv.int 511]:=fun _ _ _=>.cons (.int _) .nil
 refine ⟨_,(au (bu (v7 (idx:=[0]) (fs:=["net"]) eW.code eW.hd cV rfl (lV) (om) fS fT t7 (hr.mono (by decide)) (fun _=>rfl) rfl dJ.mg dJ.kp dJ.bd (sQ) (sR) bQ hP hw hK ht XR.none (qv 1) (aD (cq (K:=K) rfl hK) rfl bl.len_ mv (aa (aS (bE (K:=K) rfl) (qv 0) aw (fun _ _=>rfl)) ah)) ah))),?_⟩
 subst e
 obtain ⟨h1,h2⟩:=cu.mp hs
 have h0:(0:Int)∈aB net:=cu.mpr ⟨by omega,by omega⟩
 have Hr:(net.getD 0 []).length=n :=by
  have:=O.one
  rw [getD_at (by omega)]
  exact (O.row _ (tw _)).1
 have N5:=O.wid
 simp! only [sG,oh,sO h0,Int.toNat_zero,Hr]
 intro lf o c oc aL vcs lv hO b' hb hC
 obtain ⟨N6,mE,⟨gY,rfl⟩,eU⟩:=hO
 have L:v3 (lP ay) (lB ay) (lS ay) qW (IR "<lambda>" qW (lP ay) (lB ay) (lS ay) aL ((mg "__name__").getD .none) c gY) c oc aL (PySem.W.kla_fn "<lambda>" qW (lP ay) (lB ay) (lS ay) aL ((mg "__name__").getD .none) (.ref c) gY):=⟨mE,⟨_,_,_,rfl,rfl⟩,eU⟩
 refine ⟨s,eV net,aB net,n,511,lf,_,_,c,oc,vcs,[eN net],["place","at"],rfl,(sP L hC lv O).mono (by decide),⟨_,_,_,_,rfl⟩,.all fun us hl=>?_,by omega,hs,fun k hk a ha=>j4 O hk ha,?_,.inl ?_⟩
 ·match us,hl with
  | [_,_],_=>rfl
 ·have:=O.nine
  simp only [aB,cr,Pr]
  omega
 ·rw [show (aB net).length=net.length by simp [aB]]
  exact q
end
section
variable {P:f8} {w:ii} {K:bn} {mg:br->Option ap} {base:gl} {tb:cC} {k:Nat} {f:ag} {fd:l3} {ps:List br}
theorem cZ:aT ["_law_script","_law_at","_law_cell","_law_mix","_law_k"] ["_law_script","_law_at"] (aj h8):=⟨rfl,rfl,rfl,by decide +kernel,rfl,by decide +kernel,by decide +kernel⟩
theorem dh:aT ["_law_bag_here","_law_many","_law_digit","_law_number","_law_room"] ["_law_bag_here","_law_many"] (aj eS):=⟨rfl,rfl,rfl,by decide +kernel,rfl,by decide +kernel,by decide +kernel⟩
theorem eX:aT ["_law_bag_here","_law_many","_law_rest","_law_found","_law_k"] ["_law_bag_here","_law_many"] (aj fQ):=⟨rfl,rfl,rfl,by decide +kernel,rfl,by decide +kernel,by decide +kernel⟩
theorem a8:aT ["_law_bag_here","_law_most","_law_many","_law_fans","_law_kind","_law_lap","_law_order_here","_law_rows","_law_k","_law_goals","_law_fan"] ["_law_bag_here","_law_most"] (aj dB):=⟨rfl,rfl,rfl,by decide +kernel,rfl,by decide +kernel,by decide +kernel⟩
def Hs:cp:=fun ds M Q _=>∃(ns:List Int) (t:Int),ds=[.bf ns,.int t]/\ns.length<=63/\0<=t/\t<=63/\∀b,M b=none->Q (.ptr b) (aq M b .bZ)
def Cy:cp:=fun ds M Q _=>∃(ns:List Int) (t:Int),ds=[.bf ns,.int t]/\ns.length<=63/\0<=t/\t<=63/\∀b c m,M b=none->0<=c->0<=m->Q (.ptr b) (aq M b (.lst [.int c,.int m]))
theorem wo (D:Df K mg "_law_bag" h8 ["_law_script","_law_at"] f fd) (bl:Bl mg):FnOk P w K mg base bq 1 f fd ["_law_script","_law_at"] (bg P w K tb Cy) :=by
 refine fM D cZ (fun ds M Q E hS=>by obtain ⟨ns,t,e,_⟩:=hS;rw [e];rfl) fun A outer s E Γ ds Q' E' hP hw hK ht hr hS=>?_
 obtain ⟨ns,t,e,hl,t0,t1,q⟩:=hS
 refine ⟨_,(ak (aN (i:=2) cZ.nd rfl (nl rfl) aw)
  (ak (dz (bV vQ (qv 1) (aD (cq (K:=K) rfl hK) rfl bl.len_ mv (aa (qv 0) ah)) (b8 _))
   (au (aN (i:=2) cZ.nd rfl (nl rfl) (aD Jj rfl bl.abs_ FW (aa (aS (Cm (K:=K) rfl hK) (qv 0) (qv 1) (fun _ _=>rfl)) ah))))
   qss_nil)
  (ak (aN (i:=3) cZ.nd rfl (nl rfl) (aX g8 (aX jT aw (qv 1)) aw))
  (ak (cY sw rfl (aV rfl bl.range_ (aa (aD (sj rfl) rfl bl.min_ nL (aa (aD (cq (K:=K) rfl hK) rfl bl.len_ mv (aa (qv 0) ah)) (aa aw ah))) ah)) (fun jg eP ew eK et=>by have hP:=hP.trans eP.symm;have hw:=hw.trans ew.symm;have hK:=hK.trans eK.symm;have ht:=ht.trans et.symm;exact ⟨(aP (i:=4) cZ.nd rfl (nl rfl)),(au (aN (i:=3) cZ.nd rfl (nl rfl) (aX ja (aX g8 (aX g8 (aX jT (qv 3) aw) (aX ja (aS (Cm (K:=K) rfl hK) (qv 0) (qv 4) (fun _ _=>rfl)) aw)) (qv 4)) aw)))⟩))
  (ak (dz (bV vQ (qv 2) (aX Jg aw aw) (b8 _))
   (au (aN (i:=2) cZ.nd rfl (nl rfl) aw))
   qss_nil)
  (au (bu (ig (aa (qv 2) (aa (qv 3) ah)))))))))),?_⟩
 subst e
 refine Js (fun ρ M=>M=Γ.M0/\∃c m x:Int,∃x4,0<=c/\0<=m/\ρ=[some (.bf ns),some (.int t),some (.int c),some (.int m),x4]) (fun N hN=>?_) ?_
 ·refine Jq (fun ρ M=>M=Γ.M0/\∃c:Int,0<=c/\ρ=[some (.bf ns),some (.int t),some (.int c),none,none]) (fun N hN=>?_) ?_
  ·simp! only []
   refine dQ (fun h=>?_) (fun _=>hN _ _ ⟨rfl,0,by omega,rfl⟩)
   have ht:t<(ns.length:Int):=of_decide_eq_true h
   obtain ⟨k,rfl⟩:=Fk t0
   rw [yA (show k<ns.length by omega)]
   exact hN _ _ ⟨rfl,_,by split <;> omega,rfl⟩
  rintro ρ M ⟨rfl,c,hc,rfl⟩
  simp! only []
  refine ⟨.inl ⟨by decide,by decide⟩,by split <;> omega,by split <;> omega,?_⟩
  refine bK (fun i ρ M=>M=Γ.M0/\∃m:Int,∃x4,0<=m/\ρ=[some (.bf ns),some (.int t),some (.int c),some (.int m),x4]) ⟨rfl,_,_,by omega,rfl⟩ (fun i d ρ M N2 hd hJ lh=>?_) (fun ρ M hJ=>?_)
  ·obtain ⟨rfl,m,x4,hm,rfl⟩:=hJ
   obtain ⟨rfl,hi⟩:=aZ hd
   have hi:i<ns.length :=by split at hi <;> omega
   simp! only [yA hi]
   exact ⟨.inr ⟨by decide,by decide⟩,by decide,by decide,lh _ _ ⟨rfl,_,_,PY _ (by decide),rfl⟩⟩
  ·obtain ⟨rfl,m,x4,hm,rfl⟩:=hJ
   exact hN _ _ ⟨rfl,c,m,0,x4,hc,hm,rfl⟩
 ·rintro ρ M ⟨rfl,c,m,x,x4,hc,hm,rfl⟩
  simp! only []
  exact ⟨⟨by decide,by decide,by decide⟩,dQ (fun _=>⟨by decide,fun a ha=>.inl (q a 0 m ha (by omega) hm)⟩) (fun _=>⟨by decide,fun a ha=>.inl (q a c m ha hc hm)⟩)⟩
theorem Ju (G:FnOk P w K mg base bq k f fd ps (bg P w K tb Cy)):FnOk P w K mg base bq k f fd ps (bg P w K tb Hs):=G.imp fun vs H Q E hS=>by
 obtain ⟨β,ds,M,Q',E',eP,ew,eK,et,m,rs,⟨ns,t,e,h1,h2,h3,h⟩,q,qe⟩:=hS
 refine ⟨β,ds,M,fun d M'=>∃b c m,d=.ptr b/\M b=none/\0<=c/\0<=m/\M'=aq M b (.lst [.int c,.int m]),fun _ _=>False,eP,ew,eK,et,m,rs,⟨ns,t,e,h1,h2,h3,fun b c m h4 h5 h6=>⟨b,c,m,rfl,h4,h5,h6,rfl⟩⟩,fun d M' v H' x r hQ=>?_,fun _ _ _ _ h=>h.elim⟩
 obtain ⟨b,c,m',rfl,hb,hc,hm,rfl⟩:=hQ
 have hB:=yY x.mz hc hm
 exact q _ _ _ _ (Ex.sealed hb x hB) (r.dom (ik M b _ _)) (h b hb)
def wq:cp:=fun ds M Q _=>∃(b:ag) (n:Int),ds=[.ptr b,.int n]/\M b=some .bZ/\1<=n/\n<1073741824/\∀d:Nat,(d:Int)<n->Q (.int (d:Nat)) M
def y9:cp:=fun ds M Q _=>∃(b:ag) (n c m:Int),ds=[.ptr b,.int n]/\M b=some (.lst [.int c,.int m])/\0<=c/\0<=m/\1<=n/\n<1073741824/\∀(d:Nat) (c m:Int),(d:Int)<n->0<=c->0<=m->Q (.int (d:Nat)) (aq M b (.lst [.int c,.int m]))
theorem t8 (D:Df K mg "_law_take" eS ["_law_bag_here","_law_many"] f fd):FnOk P w K mg base bq 1 f fd ["_law_bag_here","_law_many"] (bg P w K tb y9) :=by
 refine fM D dh (fun ds M Q E hS=>by obtain ⟨b,n,c,m,e,_⟩:=hS;rw [e];rfl) fun A outer s E Γ ds Q' E' hP hw hK ht hr hS=>?_
 obtain ⟨b,n,c,m,e,hb,hc,hm,n1,n2,q⟩:=hS
 refine ⟨_,(ak (dz (bV GB (aS (bE (K:=K) rfl) (qv 0) aw (fun _ _=>rfl)) aw (b8 _))
   (ak (aN (i:=2) dh.nd rfl (nl rfl) (aX ja (aS (bE (K:=K) rfl) (qv 0) aw (fun _ _=>rfl)) (qv 1)))
  (ak (jF (aX sh (aS (bE (K:=K) rfl) (qv 0) aw (fun _ _=>rfl)) (qv 1)) (jH (qv 0) aw))
  (au (bu (qv 2)))))
   qss_nil)
  (ak (aN (i:=3) dh.nd rfl (nl rfl) aw)
  (ak (aN (i:=4) dh.nd rfl (nl rfl) aw)
  (ak (sf sw (bV vQ (qv 4) (qv 1) (b8 _))
   (ak (jF (aX ja (aX g8 (aX jT (aS (bE (K:=K) rfl) (qv 0) aw (fun _ _=>rfl)) aw) aw) aw) (jH (qv 0) aw))
  (ak (aN (i:=3) dh.nd rfl (nl rfl) (aX g8 (aX jT (qv 3) aw) (aX ja (aX jT (aX sh (aS (bE (K:=K) rfl) (qv 0) aw (fun _ _=>rfl)) aw) aw) aw)))
  (au (aN (i:=4) dh.nd rfl (nl rfl) (aX jT (qv 4) aw))))))
  (au (bu (aX ja (qv 3) (qv 1)))))))),?_⟩
 subst e
 have N7:∀x y:Int,bW [Dv.int x,Dv.int y] 1=some (.int y):=fun x y=>bU (j:=1) rfl
 have N8:fo 2 0=some 0:=rfl
 have N9:fo 2 1=some 1:=rfl
 have fin:∀{i c m:Int} {M:Mh},0<=c->0<=m->M=aq Γ.M0 b (.lst [.int c,.int m])->iJ Γ.M0 Q' (.int (i % n)) M:=fun {i c m M} hc hm e=>by
  obtain ⟨d,hd⟩:=Fk (PY i (show n≠0 by omega))
  have:=Int.emod_lt_of_pos i (show 0<n by omega)
  rw [hd,e]
  exact .inl (q d c m (by omega) hc hm)
 simp! only [hb,N8]
 refine dQ (fun h=>?_) (fun h=>?_)
 ·refine ⟨by omega,⟨by omega,n2⟩,fin (Int.ediv_nonneg hc (by omega)) hm rfl⟩
 ·refine ⟨fun k ρ M=>∃num room c m x2,0<=num/\1<=room/\0<=c/\0<=m/\k=(n - room).toNat/\ρ=[some (.ptr b),some (.int n),x2,some (.int num),some (.int room)]/\M=aq Γ.M0 b (.lst [.int c,.int m]),⟨_,0,1,c,m,_,by omega,by omega,hc,hm,rfl,rfl,(uW hb).symm⟩,?_⟩
  rintro k ρ M ⟨num,room,c,m,x2,h1,h2,hc,hm,rfl,rfl,rfl⟩
  simp! only [N7,N9,updM_same]
  refine dQ (fun h=>?_) (fun h=>⟨by omega,fin hc hm rfl⟩)
  have h:=of_decide_eq_true h
  have m3:0<=(m * 48271+7919) % 2147483647:=PY _ (by decide)
  have n3:0<=(m * 48271+7919) % 2147483647 / 8 * 69621 % 1073741789:=PY _ (by decide)
  refine ⟨.inr ⟨by decide,by decide⟩,by decide,.inr ⟨by decide,by decide⟩,⟨by decide,by decide⟩,.inr ⟨by decide,by decide⟩,by decide,.inr ⟨by decide,by decide⟩,_,?_,_,_,c,_,_,?_,?_,hc,m3,rfl,rfl,rfl⟩ <;> omega
theorem Ht (G:FnOk P w K mg base bq k f fd ps (bg P w K tb y9)):FnOk P w K mg base bq k f fd ps (bg P w K tb wq):=G.imp fun vs H Q E hS=>by
 obtain ⟨β,ds,M,Q',E',eP,ew,eK,et,m,rs,⟨b,n,e,hb,h1,h2,h⟩,q,qe⟩:=hS
 have eM:=uW hb
 have d1:∀o a,(M a).isSome=(aq M b o a).isSome:=fun o a=>by have:=ik M b .bZ o a;rwa [eM] at this
 rw [<- eM] at m
 obtain ⟨c,m0,hc,hm,hO⟩:=Hf m
 refine ⟨β,ds,aq M b (.lst [.int c,.int m0]),fun d M'=>∃(k:Nat) (c' m':Int),d=.int (k:Nat)/\(k:Int)<n/\0<=c'/\0<=m'/\M'=aq M b (.lst [.int c',.int m']),fun _ _=>False,eP,ew,eK,et,m.chg hO,⟨rs.len,fun i v d x y=>(rs.at' i v d x y).dom (d1 _)⟩,⟨b,n,c,m0,e,updM_same,hc,hm,h1,h2,fun d c' m' h3 h4 h5=>⟨d,c',m',rfl,h3,h4,h5,updM_updM⟩⟩,fun d M' v H' x r hQ=>?_,fun _ _ _ _ h=>h.elim⟩
 obtain ⟨k,c',m',rfl,hk,BA,xP,rfl⟩:=hQ
 have hB:=yY x.mz BA xP
 have x2:=Ex.chg (o2:=.bZ) x hB
 rw [eM] at x2
 exact q _ _ _ _ x2 (r.dom fun a=>(d1 _ a).symm) (h k hk)
theorem ql {α β:Type} (f:α->β):∀(l:List α) (i:Nat),(l.map f).eraseIdx i=(l.eraseIdx i).map f
 | [],_=>rfl
 |_::_,0=>rfl
 |a::l,i+1=>by
          show f a::(l.map f).eraseIdx i=f a::(l.eraseIdx i).map f
          rw [ql f l i]
theorem d8 {α:Type}:∀(l:List α) (i:Nat) (h:i<l.length),(l[i]::l.eraseIdx i).Perm l
 |a::l,0,_=>.refl _
 |a::l,i+1,h=>by
          have h':i<l.length :=by simpa using h
          show (l[i]::a::l.eraseIdx i).Perm (a::l)
          exact (PK.swap a l[i] _).trans ((d8 l i h').cons a)
structure cN (n:Nat) (os:List Int):Prop where
 perm:os.Perm ((io n).map fun i:Nat=>(i:Int))
theorem cN.len {n:Nat} {os:List Int} (h:cN n os):os.length=n :=by
 have:=h.perm.length_eq
 simpa using this
theorem cN.mem {n:Nat} {os:List Int} (h:cN n os) {x:Int} (hx:x∈os):0<=x/\x<n :=by
 have:=h.perm.mem_iff.mp hx
 obtain ⟨i,hi,rfl⟩:=ma.mp this
 have:=Lo.mp hi
 omega
theorem cN.at {n:Nat} {os:List Int} (h:cN n os) {i:Nat} (hi:i<n):∃x:Int,bW (os.map Dv.int) (i:Int)=some (.int x)/\0<=x/\x<n :=by
 have hl:i<os.length :=by rw [h.len];exact hi
 exact ⟨os[i],bU (by rw [ca,al hl];rfl),h.mem (tw hl)⟩
def zb:cp:=fun ds M Q _=>∃(b:ag) (n:Nat),ds=[.ptr b,.int (n:Nat)]/\M b=some .bZ/\n<=100/\∀os,cN n os->Q (de os) M
def Cz:cp:=fun ds M Q _=>∃(b:ag) (most:Nat),ds=[.ptr b,.int (most:Nat)]/\M b=some .bZ/\1<=most/\most<=9/\∀net n,bh net n->net.length<=most->Q (eN net) M
theorem DV {n d:Nat} (h:d<n):seqIndex? (d:Int) n=some d:=(oA (n:=n) (i:=(d:Int)) (j:=d) (by unfold fo;rw [if_pos (by omega),if_pos (by omega)];rfl)).1
theorem sS {f1:ag} {cM:l3} (D:Df K mg "_law_order" fQ ["_law_bag_here","_law_many"] f fd)
  (ax:Df K mg "_law_take" eS ["_law_bag_here","_law_many"] f1 cM) (cw:FnOk P w K mg base bq 1 f1 cM ["_law_bag_here","_law_many"] (bg P w K tb wq)) (bl:Bl mg):FnOk P w K mg base bq 2 f fd ["_law_bag_here","_law_many"] (bg P w K tb zb) :=by
 refine fM D eX (fun ds M Q E hS=>by obtain ⟨b,n,e,_⟩:=hS;rw [e];rfl) fun A outer s E Γ ds Q' E' hP hw hK ht hr hS=>?_
 obtain ⟨b,n,e,hb,hn,q⟩:=hS
 refine ⟨_,(ak (aN (i:=2) eX.nd rfl (nl rfl) (qC rfl rfl bl.list_ rfl bl.range_ (qv 1)))
  (ak (aN (i:=3) eX.nd rfl (nl rfl) (ig ah))
  (ak (cY sw rfl (aV rfl bl.range_ (aa (qv 1) ah)) (fun jg eP ew eK et=>by have hP:=hP.trans eP.symm;have hw:=hw.trans ew.symm;have hK:=hK.trans eK.symm;have ht:=ht.trans et.symm;exact ⟨(aP (i:=4) eX.nd rfl (nl rfl)),(au (fu (jW (K:=K) rfl wn DO EM iI (qv 3) (aa (jW (K:=K) rfl wn PySem.F.slot_list_pop PySem.F.type_list_pop uN (qv 2) (aa (aQ cw (hr.mono (by decide)) rfl ax.mg ax.fn.kp ax.bd bQ hP hw hK ht XR.none (aa (qv 0) (aa (aD (cq (K:=K) rfl hK) rfl bl.len_ mv (aa (qv 2) ah)) ah))) ah)) ah))))⟩))
  (au (bu (qv 3)))))),?_⟩
 subst e
 have big:(1000:Nat)<sizeLine :=by decide
 simp! only []
 refine ⟨by omega,by omega,fun a ha=>⟨by omega,fun c hc=>⟨by omega,by omega,?_⟩⟩⟩
 have CA:c≠a:=fun z=>by rw [z,updM_same] at hc;cases hc
 have oe:Γ.M0 c=none :=by rw [af CA] at hc;exact hc
 have Oa:b≠a:=fun z=>by rw [z,ha] at hb;cases hb
 have Ob:b≠c:=fun z=>by rw [z,oe] at hb;cases hb
 refine bK (fun i ρ M=>∃rest got:List Int,(∃x,ρ=[some (.ptr b),some (.int (n:Nat)),some (.ptr a),some (.ptr c),x])/\M a=some (.lst (rest.map .int))/\M c=some (.lst (got.map .int))/\(∀d,d≠a->d≠c->M d=Γ.M0 d)/\got.length=i/\(got++rest).Perm ((io n).map fun i:Nat=>(i:Int)))
  ⟨(io n).map fun i:Nat=>(i:Int),[],⟨_,rfl⟩,by rw [af (xy CA),updM_same,so,zd];rfl,updM_same,fun d h1 h2=>by rw [af h2,af h1],rfl,.refl _⟩ (fun i d ρ M N hd hJ hN=>?_) (fun ρ M hJ=>?_)
 ·obtain ⟨rest,got,⟨x,rfl⟩,qk,CB,k7,hg,pm⟩:=hJ
  obtain ⟨rfl,hi⟩:=aZ hd
  have hlen:got.length+rest.length=n :=by have:=pm.length_eq;simpa using this
  simp! only [qk,CB]
  refine ⟨b,_,rfl,(by rw [k7 b Oa Ob];exact hb),by omega,by omega,fun d hd=>?_⟩
  have pP:d<rest.length :=by omega
  simp only [qk,cr,DV pP,ca,al pP,AE,af CA,CB]
  refine ⟨by omega,by omega,by omega,hN _ _ ⟨rest.eraseIdx d,got++[rest[d]],⟨_,rfl⟩,by rw [af (xy CA),updM_same,ql],by rw [updM_same,ut];rfl,fun e h1 h2=>by rw [af h2,af h1];exact k7 e h1 h2,by simp [hg],?_⟩⟩
  refine PK.trans ?_ pm
  rw [EQ]
  exact PK.append_left got (d8 rest d pP)
 ·obtain ⟨rest,got,⟨x,rfl⟩,qk,CB,k7,hg,pm⟩:=hJ
  rw [rangeD_len] at hg
  have hlen:got.length+rest.length=n :=by have:=pm.length_eq;simpa using this
  have Hr:rest=[]:=ET (by omega)
  rw [Hr,BY] at pm
  exact pY (fun d o e=>by rw [k7 d (fun z=>by rw [z,ha] at e;cases e) (fun z=>by rw [z,oe] at e;cases e)];exact e) oe CB (e8 _) (q got ⟨pm⟩)
end
section
variable {P:f8} {w:ii} {K:bn} {mg:br->Option ap} {base:gl} {tb:cC}
def ia (n ways:Nat) (row:List Int):Prop:=row.length=ways/\∀x∈row,0<=x/\x<(n:Int)
structure ez (M0 M:Mh) (r:ag) (as:List ag) (n ways:Nat):Prop where
 kp:Keeps M0 M
 r0:M0 r=none
 rm:M r=some (.lst (as.map .ptr))
 fr:∀a∈as,M0 a=none/\a≠r
 len:as.length=n
 row:∀a∈as,∃row:List Int,M a=some (.lst (row.map .int))/\ia n ways row
 pin:∀b o,M b=some o->M0 b=some o\/b=r\/(∃row:List Int,o=.lst (row.map .int))\/∃bs:List ag,o=.lst (bs.map .ptr)/\∀c∈bs,c≠r/\∃o,M c=some o
theorem ez.rO {M0 M:Mh} {r:ag} {as:List ag} {n ways:Nat} (h:ez M0 M r as n ways) {a:ag} (ha:a∈as) {row:List Int} (o:ia n ways row):ez M0 (aq M a (.lst (row.map .int))) r as n ways :=by
 obtain ⟨f0,f1⟩:=h.fr a ha
 refine ⟨.upd f0 h.kp,h.r0,by rw [af (xy f1)];exact h.rm,h.fr,h.len,fun c hc=>?_,fun b u e=>?_⟩
 ·by_cases z:c=a
  ·subst z;exact ⟨row,updM_same,o⟩
  ·rw [af z];exact h.row c hc
 ·by_cases z:b=a
  ·subst z;rw [updM_same] at e;cases e;exact .inr (.inr (.inl ⟨row,rfl⟩))
  ·rw [af z] at e
   rcases h.pin b u e with q|q|q|⟨bs,q1,q2⟩
   ·exact .inl q
   ·exact .inr (.inl q)
   ·exact .inr (.inr (.inl q))
   ·refine .inr (.inr (.inr ⟨bs,q1,fun c hc=>⟨(q2 c hc).1,?_⟩⟩))
    by_cases z:c=a
    ·subst z;exact ⟨_,updM_same⟩
    ·rw [af z];exact (q2 c hc).2
theorem ez.put {M0 M:Mh} {r:ag} {as:List ag} {n ways:Nat} (h:ez M0 M r as n ways) {a:ag} (ha:M a=none) {row:List Int} (o:ia n ways row) {i:Nat} (hi:i<n):ez M0 (aq (aq M a (.lst (row.map .int))) r (.lst ((as.map .ptr).set i (.ptr a)))) r (as.set i a) n ways :=by
 have nr:a≠r:=fun z=>by rw [z,h.rm] at ha;cases ha
 have a0:M0 a=none :=by
  cases e:M0 a with
  |none=>rfl
  |some u=>rw [h.kp a u e] at ha;cases ha
 have Oc:a ∉ as:=fun z=>by obtain ⟨row,e,_⟩:=h.row a z;rw [ha] at e;cases e
 refine ⟨.upd h.r0 (.upd a0 h.kp),h.r0,by rw [updM_same,List.map_set],fun c hc=>?_,by rw [Da];exact h.len,fun c hc=>?_,fun b u e=>?_⟩
 ·rcases Pc hc with z|z
  ·exact h.fr c z
  ·rw [z];exact ⟨a0,nr⟩
 ·rcases Pc hc with z|z
  ·have n1:=(h.fr c z).2
   have n2:c≠a:=fun e=>Oc (e▸z)
   rw [af n1,af n2];exact h.row c z
  ·rw [z,af nr,updM_same];exact ⟨row,rfl,o⟩
 ·by_cases z:b=r
  ·exact .inr (.inl z)
  ·rw [af z] at e
   by_cases z2:b=a
   ·subst z2;rw [updM_same] at e;cases e;exact .inr (.inr (.inl ⟨row,rfl⟩))
   ·rw [af z2] at e
    rcases h.pin b u e with q|q|q|⟨bs,q1,q2⟩
    ·exact .inl q
    ·exact .inr (.inl q)
    ·exact .inr (.inr (.inl q))
    ·refine .inr (.inr (.inr ⟨bs,q1,fun c hc=>⟨(q2 c hc).1,?_⟩⟩))
     rw [af (q2 c hc).1]
     by_cases z:c=a
     ·subst z;exact ⟨_,updM_same⟩
     ·rw [af z];exact (q2 c hc).2
structure mX (M0 M:Mh):Prop where
 kp:Keeps M0 M
 pin:∀b o,M b=some o->M0 b=some o\/(∃row:List Int,o=.lst (row.map .int))\/∃bs:List ag,o=.lst (bs.map .ptr)/\∀c∈bs,∃o,M c=some o
theorem mX.refl {M0:Mh}:mX M0 M0:=⟨.refl,fun b o e=>.inl e⟩
theorem ib {M0 M:Mh} (h:Keeps M0 M) {a:ag} (ha:M a=none):M0 a=none :=by
 cases e:M0 a with
 |none=>rfl
 |some u=>rw [h a u e] at ha;cases ha
theorem mX.row {M0 M:Mh} (h:mX M0 M) {a:ag} (ha:M a=none) (row:List Int):mX M0 (aq M a (.lst (row.map .int))) :=by
 refine ⟨.upd (ib h.kp ha) h.kp,fun b o e=>?_⟩
 by_cases z:b=a
 ·subst z;rw [updM_same] at e;cases e;exact .inr (.inl ⟨row,rfl⟩)
 ·rw [af z] at e
  rcases h.pin b o e with q|q|⟨bs,q1,q2⟩
  ·exact .inl q
  ·exact .inr (.inl q)
  ·refine .inr (.inr ⟨bs,q1,fun c hc=>?_⟩)
   by_cases z:c=a
   ·subst z;exact ⟨_,updM_same⟩
   ·rw [af z];exact q2 c hc
theorem Ov {g:b9} {te:aH} {n:Nat} {M1:Mh} (T:av->Prop) {ds:List Dv} {τ:av} {Q:List Dv->Mh->Prop} (h0:T τ) (h:∀d∈ds,∀τ,T τ->∀R:av->ZK,(∀(x:Int) aC,0<=x->x<(n:Int)->T aC->R aC (.int x) M1)->g d τ M1 fun aC M2=>te aC M2 (R aC)) (q:∀row:List Int,row.length=ds.length->(∀x∈row,0<=x/\x<(n:Int))->Q (row.map .int) M1):e7 g zNoIf te ds τ M1 Q :=by
 refine iO (acc:=[]) (fun acc τ M=>∃row:List Int,acc=row.map Dv.int/\(∀x∈row,0<=x/\x<(n:Int))/\T τ/\M=M1) ⟨[],rfl,(fun _ h=>nomatch h),h0,rfl⟩ (fun i d acc τ M hd _ ⟨row,e1,hr,ht,e2⟩ R hR=>?_) (fun ys τ M hl ⟨row,e1,hr,ht,e2⟩=>?_)
 ·subst e1 e2
  refine h d (db hd) τ ht R fun x aC x0 x1 t2=>hR _ _ _ ⟨row++[x],by rw [ut];rfl,fun y hy=>?_,t2,rfl⟩
  rcases wT.mp hy with z|z
  ·exact hr y z
  ·rw [mf] at z;rw [z];exact ⟨x0,x1⟩
 ·rw [Db] at e1
  subst e1 e2
  exact q row (by simpa using hl) hr
def d6 (x:Option Dv):Prop:=∀M d,x=some d->Pin M d
theorem d6.none:d6 none:=fun _ _ h=>nomatch h
theorem d6.int (i:Int):d6 (some (.int i)):=fun _ _ h=>by cases h;exact .int i
theorem d6.lI (ns:List Int):d6 (some (de ns)):=fun _ _ h=>by cases h;exact .lst (e8 ns)
theorem lO {n d:Nat} (h:d<n):fo n (d:Int)=some d :=by unfold fo;rw [if_pos (by omega),if_pos (by omega)];rfl
theorem sT (row:List Int) (t:Nat) (x:Int):(row.map Dv.int).set t (.int x)=(row.set t x).map Dv.int :=by rw [List.map_set]
theorem ia.set {n ways:Nat} {row:List Int} (h:ia n ways row) {t:Nat} {x:Int} (x0:0<=x) (x1:x<(n:Int)):ia n ways (row.set t x):=⟨by rw [Da];exact h.1,fun y hy=>by
 rcases Pc hy with z|z
 ·exact h.2 y z
 ·rw [z];exact ⟨x0,x1⟩⟩
def oo (os:List Int):Dv->Int | .int j=>os.getD j.toNat 0|_=>0
theorem sU {os:List Int} {j:Nat} {x:Int} (h:bW (os.map Dv.int) (j:Int)=some (.int x)):oo os (.int (j:Nat))=x :=by
 by_cases hj:j<os.length
 ·rw [bU (j:=j) (v:=Dv.int os[j]) (by rw [ca,al hj];rfl)] at h
  cases h
  show os.getD (Int.toNat (j:Int)) 0=_
  rw [u8,cb,al hj];rfl
 ·unfold bW fo at h
  rw [if_pos (by omega),if_neg (by simp;omega)] at h
  cases h
def A7 (per i:Nat):Dv->Bool | .int j=>decide (j % (per:Int)=((i:Int)+1) % (per:Int))|_=>false
theorem A8 {n per i:Nat} {os:List Int} (eR:cN n os) (p1:1<=per) (pn:per<=n):∃gs:List Int,((bJ 0 n).filter (A7 per i)).map (fun d=>Dv.int (oo os d))=gs.map Dv.int/\1<=gs.length/\gs.length<=n/\∀x∈gs,0<=x/\x<(n:Int) :=by
 refine ⟨((bJ 0 n).filter (A7 per i)).map (oo os),by rw [zd];rfl,?_,?_,fun x hx=>?_⟩
 ·rw [cr]
  refine Px (a:=Dv.int (((i+1) % per:Nat):Int)) (GT.mpr ⟨?_,?_⟩)
  ·have:(i+1) % per<per:=Nat.mod_lt _ (by omega)
   exact db (i:=(i+1) % per) (by rw [bJ,ca,B0 (by omega)];simp)
  ·show decide _=true
   rw [decide_eq_true_eq]
   push_cast
   exact Int.emod_emod_of_dvd _ (Int.dvd_refl _)
 ·rw [cr]
  exact r6 (PL _ _) (by rw [rangeD_len];exact c8 _)
 ·obtain ⟨d,hd,rfl⟩:=ma.mp hx
  obtain ⟨j,hj,rfl⟩:=n6 (GT.mp hd).1
  rw [DD]
  obtain ⟨gx,CC,g0,g1⟩:=eR.at hj
  rw [sU CC]
  exact ⟨g0,g1⟩
structure fU (M0 M:Mh) (r:ag) (as:List ag) (n:Nat) (L:Nat->Nat):Prop where
 own:mX M0 M
 r0:M0 r=none
 rm:M r=some (.lst (as.map .ptr))
 fr:∀a∈as,M0 a=none/\a≠r
 nd:as.Nodup
 len:as.length=n
 rows:∀i a,as[i]?=some a->∃row:List Int,M a=some (.lst (row.map .int))/\ia n (L i) row
 ptr:∀b bs,M b=some (.lst (bs.map .ptr))->b=r\/M0 b=some (.lst (bs.map .ptr))\/bs=[]
theorem fU.set {M0 M:Mh} {r:ag} {as:List ag} {n:Nat} {L:Nat->Nat} (h:fU M0 M r as n L) {i:Nat} {a:ag} (ha:as[i]?=some a) {row:List Int} {m:Nat} (o:ia n m row):fU M0 (aq M a (.lst (row.map .int))) r as n fun j=>if j=i then m else L j :=by
 have hm:=db ha
 obtain ⟨f0,f1⟩:=h.fr a hm
 refine ⟨⟨.upd f0 h.own.kp,fun b o e=>?_⟩,h.r0,by rw [af (xy f1)];exact h.rm,h.fr,h.nd,h.len,fun j c hc=>?_,fun b bs e=>?_⟩
 ·by_cases z:b=a
  ·subst z;rw [updM_same] at e;cases e;exact .inr (.inl ⟨row,rfl⟩)
  ·rw [af z] at e
   rcases h.own.pin b o e with q|q|⟨bs,q1,q2⟩
   ·exact .inl q
   ·exact .inr (.inl q)
   ·refine .inr (.inr ⟨bs,q1,fun c hc=>?_⟩)
    by_cases z:c=a
    ·subst z;exact ⟨_,updM_same⟩
    ·rw [af z];exact q2 c hc
 ·by_cases z:j=i
  ·subst z
   rw [ha] at hc;cases hc
   exact ⟨row,updM_same,by rw [if_pos rfl];exact o⟩
  ·have qm:c≠a:=fun e=>z (by
    subst e
    obtain ⟨h1,e1⟩:=bv.mp ha
    obtain ⟨h2,e2⟩:=bv.mp hc
    rcases Nat.lt_trichotomy j i with q|q|q
    ·exact absurd (e2.trans e1.symm) (KF.mp h.nd j i h2 h1 q)
    ·exact q
    ·exact absurd (e1.trans e2.symm) (KF.mp h.nd i j h1 h2 q))
   rw [af qm,if_neg z];exact h.rows j c hc
 ·by_cases z:b=a
  ·subst z
   rw [updM_same] at e
   cases row with
   |nil=>cases bs with
    |nil=>exact .inr (.inr rfl)
    |cons c bs=>simp at e
   |cons x row=>cases bs with
    |nil=>exact .inr (.inr rfl)
    |cons c bs=>simp at e
  ·rw [af z] at e;exact h.ptr b bs e
theorem fU.full {M0 M:Mh} {r:ag} {as:List ag} {n ways:Nat} {L:Nat->Nat} (h:fU M0 M r as n L) (hL:∀i,i<n->L i=ways):ez M0 M r as n ways :=by
 refine ⟨h.own.kp,h.r0,h.rm,h.fr,h.len,fun a ha=>?_,fun b o e=>?_⟩
 ·obtain ⟨i,hi⟩:=l7.mp ha
  obtain ⟨row,e,o⟩:=h.rows i a hi
  rw [hL i (by rw [<- h.len];exact (bv.mp hi).1)] at o
  exact ⟨row,e,o⟩
 ·rcases h.own.pin b o e with q|q|⟨bs,rfl,q2⟩
  ·exact .inl q
  ·exact .inr (.inr (.inl q))
  ·rcases h.ptr b bs e with z|z|z
   ·exact .inr (.inl z)
   ·exact .inl z
   ·subst z;exact .inr (.inr (.inl ⟨[],rfl⟩))
theorem fU.wt {M0 M:Mh} {r:ag} {as:List ag} {n:Nat} {L L':Nat->Nat} (h:fU M0 M r as n L) (e:∀i,i<n->L i=L' i):fU M0 M r as n L':=
 ⟨h.own,h.r0,h.rm,h.fr,h.nd,h.len,fun i a ha=>by
  have:=h.rows i a ha
  rwa [e i (by rw [<- h.len];exact (bv.mp ha).1)] at this,h.ptr⟩
theorem cN.nodup {n:Nat} {os:List Int} (h:cN n os):os.Nodup :=by
 refine h.perm.nodup_iff.mpr ?_
 exact List.pairwise_map.mpr (List.nodup_range.imp fun h e=>h (by omega))
theorem cN.prev {n:Nat} {os:List Int} (h:cN n os) {k:Nat} (hk:k<n):∃p:Nat,bW (os.map Dv.int) ((k:Int) - 1)=some (.int (p:Nat))/\p<n :=by
 have hl:=h.len
 obtain ⟨j,hj,e⟩:∃j:Nat,j<n/\fo n ((k:Int) - 1)=some j :=by
  unfold fo
  by_cases z:k=0
  ·exact ⟨n - 1,by omega,by rw [if_neg (by omega),if_pos (by omega)];congr 1;omega⟩
  ·exact ⟨k - 1,by omega,by rw [if_pos (by omega),if_pos (by omega)];congr 1;omega⟩
 have Cq:j<os.length :=by omega
 obtain ⟨g0,g1⟩:=h.mem (tw Cq)
 refine ⟨os[j].toNat,?_,by omega⟩
 unfold bW
 rw [cr,hl,e]
 show (os.map Dv.int)[j]?=_
 rw [ca,al Cq]
 show some (Dv.int os[j])=_
 congr 2
 omega
theorem DW (x:Int) (k:Nat):(on k [Dv.int x]).flatten=(on k x).map Dv.int :=by
 induction k with
 |zero=>rfl
 |succ k ih=>rw [wb,EO,ih,wb];rfl
theorem wu {f f1 f2:ag} {fd cM fd2:l3} (D:Df K mg "_law_net" dB ["_law_bag_here","_law_most"] f fd)
  (ax:Df K mg "_law_take" eS ["_law_bag_here","_law_many"] f1 cM) (cw:FnOk P w K mg base bq 1 f1 cM ["_law_bag_here","_law_many"] (bg P w K tb wq))
  (di:Df K mg "_law_order" fQ ["_law_bag_here","_law_many"] f2 fd2) (sV:FnOk P w K mg base bq 2 f2 fd2 ["_law_bag_here","_law_many"] (bg P w K tb zb)) (bl:Bl mg):FnOk P w K mg base bq 3 f fd ["_law_bag_here","_law_most"] (bg P w K tb Cz) :=by
 refine fM D a8 (fun ds M Q E hS=>by obtain ⟨b,n,e,_⟩:=hS;rw [e];rfl) fun A outer s E Γ ds Q' E' hP hw hK ht hr hS=>?_
 obtain ⟨b,most,e,hb,h1,h9,q⟩:=hS
 refine ⟨_,(ak (aN (i:=2) a8.nd rfl (nl rfl) (aX g8 aw (aQ cw (hr.mono (by decide)) rfl ax.mg ax.fn.kp ax.bd bQ hP hw hK ht XR.none (aa (qv 0) (aa (qv 1) ah)))))
  (ak (aN (i:=3) a8.nd rfl (nl rfl) (aX g8 aw (aQ cw (hr.mono (by decide)) rfl ax.mg ax.fn.kp ax.bd bQ hP hw hK ht XR.none (aa (qv 0) (aa aw ah)))))
  (ak (aN (i:=4) a8.nd rfl (nl rfl) (aQ cw (hr.mono (by decide)) rfl ax.mg ax.fn.kp ax.bd bQ hP hw hK ht XR.none (aa (qv 0) (aa aw ah))))
  (ak (aN (i:=5) a8.nd rfl (Do rfl) aw)
  (ak (dz (bV kZ (qv 4) aw (b8 _))
   (ak (aN (i:=5) a8.nd rfl (Do rfl) (aD (sj rfl) rfl bl.min_ nL (aa (aX g8 aw (aQ cw (hr.mono (by decide)) rfl ax.mg ax.fn.kp ax.bd bQ hP hw hK ht XR.none (aa (qv 0) (aa aw ah)))) (aa (qv 2) ah))))
  (au (aN (i:=2) a8.nd rfl (nl rfl) (aX jT (aX sh (qv 2) (qv 5)) (qv 5)))))
   qss_nil)
  (ak (aN (i:=6) a8.nd rfl (Do rfl) (aQ sV (hr.mono (by decide)) rfl di.mg di.fn.kp di.bd bQ hP hw hK ht XR.none (aa (qv 0) (aa (qv 2) ah))))
  (ak (t4 (i:=7) a8.nd rfl rfl (N':=["_law_place"]) (tn:=1) (idx:=[]) rfl (show aI ["_law_bag_here","_law_most","_law_many","_law_fans","_law_kind","_law_lap","_law_order_here","_law_rows","_law_k","_law_goals","_law_fan"] (aj dB) _ ["_law_place"] 1 [] from by decide +kernel) (aV rfl bl.range_ (aa (qv 2) ah)) (fun _ _ _ _ _=>(aP (i:=0) (show EN [("_law_place" : br)] from by decide +kernel) rfl (nl rfl))) (fun _ _ _ _ _=>eh) (fun _ _ _ _ _=>(ig ah)))
  (ak (cY sw rfl (aV rfl bl.range_ (aa (qv 2) ah)) (fun jg eP ew eK et=>by have hP:=hP.trans eP.symm;have hw:=hw.trans ew.symm;have hK:=hK.trans eK.symm;have ht:=ht.trans et.symm;exact ⟨(aP (i:=8) a8.nd rfl (Do rfl)),(ak (jY (i:=9) a8.nd rfl rfl (N':=["_law_j","_law_order_here","_law_lap","_law_k"]) (tn:=1) (idx:=[6,5,8]) rfl (show aI ["_law_bag_here","_law_most","_law_many","_law_fans","_law_kind","_law_lap","_law_order_here","_law_rows","_law_k","_law_goals","_law_fan"] (aj dB) _ ["_law_j","_law_order_here","_law_lap","_law_k"] 1 [6,5,8] from by decide +kernel) (aV rfl bl.range_ (aa (qv 2) ah)) (fun _ _ _ _ _=>(aP (i:=0) (show EN [("_law_j" : br),("_law_order_here" : br),("_law_lap" : br),("_law_k" : br)] from by decide +kernel) rfl (nl rfl))) (fun _ _ _ _ _=>(oI (bV kZ (aX ja (qv 0) (qv 2)) (aX ja (aX g8 (qv 3) aw) (qv 2)) (b8 _)))) (fun _ _ _ _ _=>(aS (bE (K:=K) rfl) (qv 1) (qv 0) (fun _ _=>rfl))))
  (au (cY sw rfl (aV rfl bl.range_ (aa (qv 3) ah)) (fun jg eP ew eK et=>by have hP:=hP.trans eP.symm;have hw:=hw.trans ew.symm;have hK:=hK.trans eK.symm;have ht:=ht.trans et.symm;exact ⟨(aP (i:=10) a8.nd rfl (nl rfl)),(au (fu (jW (K:=K) rfl wn DO EM iI (aS (bE (K:=K) rfl) (qv 7) (aS (bE (K:=K) rfl) (qv 6) (qv 8) (fun _ _=>rfl)) (fun _ _=>rfl)) (aa (aS (bE (K:=K) rfl) (qv 9) (aQ cw (hr.mono (by decide)) rfl ax.mg ax.fn.kp ax.bd bQ hP hw hK ht XR.none (aa (qv 0) (aa (aD (cq (K:=K) rfl hK) rfl bl.len_ mv (aa (qv 9) ah)) ah))) (fun _ _=>rfl)) ah))))⟩))))⟩))
  (ak (dz (bV GB (qv 4) aw (b8 _))
   (au (cY sw rfl (aV rfl bl.range_ (aa (qv 2) ah)) (fun jg eP ew eK et=>by have hP:=hP.trans eP.symm;have hw:=hw.trans ew.symm;have hK:=hK.trans eK.symm;have ht:=ht.trans et.symm;exact ⟨(aP (i:=8) a8.nd rfl (Do rfl)),(au (jF (aS (bE (K:=K) rfl) (qv 6) (qv 8) (fun _ _=>rfl)) (jH (aS (bE (K:=K) rfl) (qv 7) (aS (bE (K:=K) rfl) (qv 6) (aX qN (qv 8) aw) (fun _ _=>rfl)) (fun _ _=>rfl)) (aQ cw (hr.mono (by decide)) rfl ax.mg ax.fn.kp ax.bd bQ hP hw hK ht XR.none (aa (qv 0) (aa (qv 3) ah))))))⟩)))
   qss_nil)
  (ak (dz (bV kZ (qv 4) aw (b8 _))
   (ak (cY sw rfl (aV rfl bl.range_ (aa (qv 2) ah)) (fun jg eP ew eK et=>by have hP:=hP.trans eP.symm;have hw:=hw.trans ew.symm;have hK:=hK.trans eK.symm;have ht:=ht.trans et.symm;exact ⟨(aP (i:=8) a8.nd rfl (Do rfl)),(au (jF (aX Hg (Gv (aa (aS (bE (K:=K) rfl) (qv 6) (qv 8) (fun _ _=>rfl)) ah)) (qv 3)) (jH (qv 7) (aS (bE (K:=K) rfl) (qv 6) (aX qN (qv 8) aw) (fun _ _=>rfl)))))⟩))
  (au (jF (aQ cw (hr.mono (by decide)) rfl ax.mg ax.fn.kp ax.bd bQ hP hw hK ht XR.none (aa (qv 0) (aa (qv 2) ah))) (jH (aS (bE (K:=K) rfl) (qv 7) aw (fun _ _=>rfl)) aw))))
   qss_nil)
  (au (GR 7 rfl (bu (jb (lF (K:=K) rfl) rfl bl.tuple_ fZ (aa (gv (N':=["_law_row"]) (tn:=1) (idx:=[]) rfl (show aI ["_law_bag_here","_law_most","_law_many","_law_fans","_law_kind","_law_lap","_law_order_here","_law_rows","_law_k","_law_goals","_law_fan"] (aj dB) _ ["_law_row"] 1 [] from by decide +kernel) (Ds (K:=K) rfl (qv 7)) (fun _ _ _ _ _=>(aP (i:=0) (show EN [("_law_row" : br)] from by decide +kernel) rfl (nl rfl))) (fun _ _ _ _ _=>eh) (fun _ _ _ _ _=>(jb (lF (K:=K) rfl) rfl bl.tuple_ fZ (aa (qv 0) ah)))) ah))))))))))))))),?_⟩
 subst e
 have big:(100:Nat)<sizeLine :=by decide
 refine Jt (fun ρ M=>M=Γ.M0/\∃(n ways kind cE:Nat),ρ=[some (.ptr b),some (.int (most:Nat)),some (.int (n:Nat)),some (.int (ways:Nat)),some (.int (kind:Nat)),some (.int (cE:Nat)),none,none,none,none,none]/\1<=n/\n<=most/\(ways=2\/ways=3)/\1<=cE/\cE<=n) (fun N hN=>?_) ?_
 ·simp! only []
  refine ⟨b,_,rfl,hb,by omega,by omega,fun m hm=>?_⟩
  obtain ⟨n,hn⟩:∃n:Nat,(1+(m:Int))=(n:Nat):=⟨1+m,by omega⟩
  have n1:1<=n :=by omega
  have n9:n<=most :=by omega
  simp! only [hn]
  refine ⟨b,_,rfl,hb,by omega,by omega,fun v hv=>?_⟩
  obtain ⟨ways,Jv⟩:∃ways:Nat,(2+(v:Int))=(ways:Nat):=⟨2+v,by omega⟩
  have w2:ways=2\/ways=3 :=by omega
  simp! only [Jv]
  refine ⟨b,_,rfl,hb,by omega,by omega,fun kind ly=>?_⟩
  simp! only []
  refine dQ (fun h=>?_) (fun h=>hN _ _ ⟨rfl,n,ways,kind,1,rfl,n1,n9,w2,by omega,n1⟩)
  refine ⟨b,_,rfl,hb,by omega,by omega,fun t ht=>?_⟩
  obtain ⟨cE,L8,l1,ln⟩:∃cE:Nat,(if (n:Int)<2+(t:Int) then (n:Int) else 2+(t:Int))=(cE:Nat)/\1<=cE/\cE<=n :=by
   by_cases z:(n:Int)<2+(t:Int)
   ·exact ⟨n,by rw [if_pos z],n1,c8 _⟩
   ·exact ⟨2+t,by rw [if_neg z];omega,by omega,by omega⟩
  simp only [L8]
  have en:(n:Int) / (cE:Int) * (cE:Int)=((n / cE * cE:Nat):Int) :=by push_cast;rfl
  have d1:n / cE * cE<=n:=Nat.div_mul_le_self n cE
  have d2:cE<=n / cE * cE :=by
   have:1<=n / cE:=Nat.div_pos ln (by omega)
   exact Nat.le_mul_of_pos_left cE this
  rw [en]
  exact ⟨⟨by omega,by omega⟩,.inr ⟨by omega,by omega⟩,hN _ _ ⟨rfl,n / cE * cE,ways,kind,cE,rfl,by omega,by omega,w2,l1,d2⟩⟩
 rintro ρ M ⟨rfl,n,ways,kind,cE,rfl,n1,n9,w2,l1,ln⟩
 refine Jr (fun ρ M=>∃(r:ag) (as:List ag) (os:List Int) (x8 x9 gK:Option Dv),(d6 x8/\d6 x9/\d6 gK)/\ρ=[some (.ptr b),some (.int (most:Nat)),some (.int (n:Nat)),some (.int (ways:Nat)),some (.int (kind:Nat)),some (.int (cE:Nat)),some (de os),some (.ptr r),x8,x9,gK]/\ez Γ.M0 M r as n ways/\cN n os) (fun N hN=>?_) ?_
 ·simp! only []
  refine ⟨b,n,rfl,hb,by omega,fun os eR=>?_⟩
  have Od:=eR.len
  simp! only []
  refine ⟨by omega,by omega,by omega,iO (acc:=[]) (fun acc τ M=>∃as:List ag,acc=as.map Dv.ptr/\(∃x,τ=[x])/\mX Γ.M0 M/\as.Nodup/\(∀a∈as,Γ.M0 a=none/\M a=some (.lst []))/\∀c (bs:List ag),M c=some (.lst (bs.map .ptr))->Γ.M0 c=some (.lst (bs.map .ptr))\/bs=[]) ⟨[],rfl,⟨_,rfl⟩,.refl,.nil,(fun _ h=>nomatch h),fun c bs e=>.inl e⟩ (fun i d acc τ M hd _ hJ R hR=>?_) (fun ys τ M hl hJ=>?_)⟩
  ·obtain ⟨as,rfl,⟨x,rfl⟩,hO,Hu,ha,hp⟩:=hJ
   simp! only []
   refine ⟨by omega,fun a hn=>hR _ _ _ ⟨as++[a],by rw [ut];rfl,⟨_,rfl⟩,hO.row hn [],?_,fun c hc=>?_,fun c bs e=>?_⟩⟩
   ·rw [Qm]
    refine ⟨Hu,by simp,fun x hx y hy e=>?_⟩
    rw [mf] at hy
    subst e hy
    rw [(ha _ hx).2] at hn;cases hn
   ·rcases wT.mp hc with z|z
    ·obtain ⟨q1,q2⟩:=ha c z
     have ne:c≠a:=fun q=>by rw [q,hn] at q2;cases q2
     exact ⟨q1,by rw [af ne];exact q2⟩
    ·rw [mf] at z
     subst z
     exact ⟨ib hO.kp hn,updM_same⟩
   ·by_cases z:c=a
    ·subst z
     rw [updM_same] at e
     cases bs with
     |nil=>exact .inr rfl
     |cons y bs=>simp at e
    ·rw [af z] at e;exact hp c bs e
  ·obtain ⟨as,e1,⟨x,rfl⟩,hO,Hu,ha,hp⟩:=hJ
   rw [Db] at e1
   subst e1
   intro r Hv
   have L9:as.length=n :=by simpa [rangeD_len] using hl
   have ne:∀{c o},M c=some o->c≠r:=fun e z=>by rw [z,Hv] at e;cases e
   have RF:fU Γ.M0 (aq M r (.lst (as.map .ptr))) r as n fun _=>0 :=by
    refine ⟨⟨.upd (ib hO.kp Hv) hO.kp,fun c o e=>?_⟩,ib hO.kp Hv,updM_same,fun a h=>⟨(ha a h).1,ne (ha a h).2⟩,Hu,L9,fun i a h=>?_,fun c bs e=>?_⟩
    ·by_cases z:c=r
     ·subst z;rw [updM_same] at e;cases e
      exact .inr (.inr ⟨as,rfl,fun a h=>⟨_,by rw [af (ne (ha a h).2)];exact (ha a h).2⟩⟩)
     ·rw [af z] at e
      rcases hO.pin c o e with q|q|⟨bs,q1,q2⟩
      ·exact .inl q
      ·exact .inr (.inl q)
      ·refine .inr (.inr ⟨bs,q1,fun y hy=>?_⟩)
       obtain ⟨u,hu⟩:=q2 y hy
       exact ⟨u,by rw [af (ne hu)];exact hu⟩
    ·have hm:=ha a (db h)
     exact ⟨[],by rw [af (ne hm.2)];exact hm.2,rfl,fun _ h=>nomatch h⟩
    ·by_cases z:c=r
     ·exact .inl z
     ·rw [af z] at e;exact .inr (hp c bs e)
   refine ⟨by omega,by omega,?_⟩
   refine bK (fun i ρ M=>∃x8 x9 gK,(d6 x8/\d6 x9/\d6 gK)/\ρ=[some (.ptr b),some (.int (most:Nat)),some (.int (n:Nat)),some (.int (ways:Nat)),some (.int (kind:Nat)),some (.int (cE:Nat)),some (de os),some (.ptr r),x8,x9,gK]/\fU Γ.M0 M r as n (fun j=>if ((j:Nat):Int)∈os.take i then ways else 0))
    ⟨_,_,_,⟨.none,.none,.none⟩,rfl,RF.wt fun i _=>by simp⟩ (fun i d ρ M N2 hd hJ lh=>?_) (fun ρ M hJ=>?_)
   ·obtain ⟨x8,x9,gK,⟨p8,p9,qo⟩,rfl,RF⟩:=hJ
    obtain ⟨rfl,hi⟩:=aZ hd
    have mB:i<os.length :=by omega
    obtain ⟨g0,g1⟩:=eR.mem (tw mB)
    obtain ⟨pk,Hw⟩:=Fk g0
    have KI:pk<n :=by omega
    have nK:bW (os.map Dv.int) ((i:Nat):Int)=some (.int (pk:Nat)):=bU (by rw [ca,al mB,Hw];rfl)
    have Hx:pk<as.length :=by omega
    have Oe:bW (as.map Dv.ptr) ((pk:Nat):Int)=some (.ptr as[pk]):=bU (by rw [ca,al Hx];rfl)
    have KJ:as[pk]?=some as[pk]:=al Hx
    have Ma:((pk:Nat):Int) ∉ os.take i:=fun z=>by
     obtain ⟨j,hj,e⟩:=List.mem_iff_getElem.mp z
     rw [List.getElem_take,<- Hw] at e
     rw [Qr] at hj
     exact KF.mp eR.nodup j i (by omega) mB (by omega) e
    simp! only []
    refine ⟨by omega,by omega,by omega,oN (A7 cE i) (fun d=>.int (oo os d)) (fun τ M'=>(∃x,τ=[x,some (de os),some (.int (cE:Nat)),some (.int (i:Nat))])/\M'=M) ⟨⟨_,rfl⟩,rfl⟩ (fun d hd τ M' hI R0 R h1 h2=>?_) (fun τ M' hI=>?_)⟩
    ·obtain ⟨⟨x,rfl⟩,rfl⟩:=hI
     obtain ⟨j,hj,rfl⟩:=n6 hd
     simp only [DD] at h1 h2 ⊢
     obtain ⟨gx,CC,g0,g1⟩:=eR.at hj
     have hg:oo os (.int (j:Nat))=gx:=sU CC
     simp! only [CC]
     refine ⟨by omega,by omega,dQ (fun h=>?_) (fun h=>?_)⟩
     ·rw [hg] at h1
      exact h1 h _ _ ⟨⟨_,rfl⟩,rfl⟩
     ·exact h2 h _ _ ⟨⟨_,rfl⟩,rfl⟩
    ·obtain ⟨⟨x,rfl⟩,rfl⟩:=hI
     obtain ⟨gs,Of,OY,OZ,Og⟩:=A8 (i:=i) eR (per:=cE) (by omega) (by omega)
     rw [Of]
     refine ⟨by omega,by omega,?_⟩
     refine bK (fun f ρ M=>(∃gK,d6 gK/\ρ=[some (.ptr b),some (.int (most:Nat)),some (.int (n:Nat)),some (.int (ways:Nat)),some (.int (kind:Nat)),some (.int (cE:Nat)),some (de os),some (.ptr r),some (.int (i:Nat)),some (de gs),gK])/\fU Γ.M0 M r as n (fun j=>if j=pk then f else if ((j:Nat):Int)∈os.take i then ways else 0))
      ⟨⟨_,qo,rfl⟩,RF.wt fun j _=>by
       by_cases z:j=pk
       ·subst z;rw [if_neg Ma,if_pos rfl]
       ·rw [if_neg z]⟩ (fun f d ρ M N3 hd hJ zf=>?_) (fun ρ M hJ=>?_)
     ·obtain ⟨⟨gK,qo,rfl⟩,RF⟩:=hJ
      obtain ⟨rfl,hf⟩:=aZ hd
      obtain ⟨row,em,ro⟩:=RF.rows pk _ KJ
      rw [if_pos rfl] at ro
      simp! only [nK,RF.rm,Oe,em]
      refine ⟨b,_,rfl,RF.own.kp _ _ hb,by omega,by omega,fun t ht=>?_⟩
      have KL:t<gs.length :=by omega
      simp only [show bW (gs.map Dv.int) (t:Int)=some (.int gs[t]) from bU (by rw [ca,al KL];rfl),em,cr,ro.1]
      have Oh:=Og _ (tw KL)
      have er:row.map Dv.int++[Dv.int gs[t]]=(row++[gs[t]]).map Dv.int :=by rw [ut];rfl
      rw [er]
      refine ⟨by omega,zf _ _ ⟨⟨_,.int _,rfl⟩,(RF.set KJ (row:=row++[gs[t]]) (m:=f+1) ⟨by rw [v6,ro.1];rfl,fun y hy=>?_⟩).wt fun j _=>?_⟩⟩
      ·rcases wT.mp hy with z|z
       ·exact ro.2 y z
       ·rw [mf.mp z];exact Oh
      ·by_cases z:j=pk
       ·rw [if_pos z,if_pos z]
       ·rw [if_neg z,if_neg z,if_neg z]
     ·obtain ⟨⟨gK,qo,rfl⟩,RF⟩:=hJ
      rw [rangeD_len] at RF
      refine lh _ _ ⟨_,_,_,⟨.int _,.lI gs,qo⟩,rfl,RF.wt fun j _=>?_⟩
      have oX:((j:Nat):Int)∈os.take (i+1) ↔ ((j:Nat):Int)∈os.take i\/j=pk :=by
       rw [List.take_add_one,wT,al mB,Hw]
       constructor
       ·rintro (z|z)
        ·exact .inl z
        ·have:((j:Nat):Int)=(pk:Nat) :=by simpa using z
         exact .inr (by omega)
       ·rintro (z|z)
        ·exact .inl z
        ·exact .inr (by simp [z])
      by_cases z:j=pk
      ·rw [if_pos z,if_pos (oX.mpr (.inr z))]
      ·rw [if_neg z]
       by_cases y:((j:Nat):Int)∈os.take i
       ·rw [if_pos y,if_pos (oX.mpr (.inl y))]
       ·rw [if_neg y,if_neg (fun q=>(oX.mp q).elim y z)]
   ·obtain ⟨x8,x9,gK,⟨p8,p9,qo⟩,rfl,RF⟩:=hJ
    rw [rangeD_len] at RF
    refine hN _ _ ⟨r,as,os,_,_,_,⟨p8,p9,qo⟩,rfl,RF.full fun j hj=>?_,eR⟩
    rw [List.take_of_length_le (by omega),if_pos (eR.perm.mem_iff.mpr (ma.mpr ⟨j,Lo.mpr hj,rfl⟩))]
 rintro ρ M ⟨r,as,os,x8,x9,gK,⟨p8,p9,qo⟩,rfl,RM,eR⟩
 have Od:=eR.len
 have Hy:∀{as:List ag} {M:Mh} {p:Nat},ez Γ.M0 M r as n ways->p<n->∃a,bW (as.map Dv.ptr) ((p:Nat):Int)=some (.ptr a)/\a∈as:=fun {as M p} RM hp=>by
  have hl:p<as.length :=by rw [RM.len];exact hp
  exact ⟨as[p],bU (by rw [ca,al hl];rfl),tw hl⟩
 refine Ck (fun ρ M=>∃(as:List ag) (x8:Option Dv),d6 x8/\ρ=[some (.ptr b),some (.int (most:Nat)),some (.int (n:Nat)),some (.int (ways:Nat)),some (.int (kind:Nat)),some (.int (cE:Nat)),some (de os),some (.ptr r),x8,x9,gK]/\ez Γ.M0 M r as n ways) (fun N hN=>?_) ?_
 ·simp! only []
  refine dQ (fun h=>⟨by omega,by omega,?_⟩) (fun _=>hN _ _ ⟨as,_,p8,rfl,RM⟩)
  refine bK (fun i ρ M=>∃(as:List ag) (x8:Option Dv),d6 x8/\ρ=[some (.ptr b),some (.int (most:Nat)),some (.int (n:Nat)),some (.int (ways:Nat)),some (.int (kind:Nat)),some (.int (cE:Nat)),some (de os),some (.ptr r),x8,x9,gK]/\ez Γ.M0 M r as n ways) ⟨as,_,p8,rfl,RM⟩ (fun i d ρ M N2 hd hJ lh=>?_) (fun ρ M hJ=>hN _ _ hJ)
  obtain ⟨as,x8,p8,rfl,RM⟩:=hJ
  obtain ⟨rfl,hi⟩:=aZ hd
  obtain ⟨p,hp,pn⟩:=eR.prev hi
  obtain ⟨g,hg,g0,g1⟩:=eR.at hi
  obtain ⟨a,ea,ha⟩:=Hy RM pn
  obtain ⟨row,em,ro⟩:=RM.row a ha
  simp! only [hg,hp,RM.rm,ea]
  refine ⟨b,_,rfl,RM.kp _ _ hb,by omega,by omega,fun t ht=>?_⟩
  simp only [em,cr,ro.1,lO (show t<ways by omega)]
  rw [sT]
  exact lh _ _ ⟨as,_,.int _,rfl,RM.rO ha (ro.set g0 g1)⟩
 rintro ρ M ⟨as,x8,p8,rfl,RM⟩
 refine Ck (fun ρ M=>∃(as:List ag) (x8:Option Dv),d6 x8/\ρ=[some (.ptr b),some (.int (most:Nat)),some (.int (n:Nat)),some (.int (ways:Nat)),some (.int (kind:Nat)),some (.int (cE:Nat)),some (de os),some (.ptr r),x8,x9,gK]/\ez Γ.M0 M r as n ways) (fun N hN=>?_) ?_
 ·simp! only []
  refine dQ (fun h=>⟨by omega,by omega,?_⟩) (fun _=>hN _ _ ⟨as,_,p8,rfl,RM⟩)
  refine bK (fun i ρ M=>∃(as:List ag) (x8:Option Dv),d6 x8/\ρ=[some (.ptr b),some (.int (most:Nat)),some (.int (n:Nat)),some (.int (ways:Nat)),some (.int (kind:Nat)),some (.int (cE:Nat)),some (de os),some (.ptr r),x8,x9,gK]/\ez Γ.M0 M r as n ways) ⟨as,_,p8,rfl,RM⟩ (fun i d ρ M N2 hd hJ lh=>?_) (fun ρ M hJ=>?_)
  ·obtain ⟨as,x8,p8,rfl,RM⟩:=hJ
   obtain ⟨rfl,hi⟩:=aZ hd
   obtain ⟨p,hp,pn⟩:=eR.prev hi
   obtain ⟨g,hg,g0,g1⟩:=eR.at hi
   simp! only [hg,hp]
   refine ⟨by omega,⟨by omega,by omega,by omega⟩,fun a uG=>?_⟩
   have nr:r≠a:=fun z=>by rw [<- z,RM.rm] at uG;cases uG
   rw [DW]
   simp only [af nr,RM.rm,cr,RM.len,lO pn]
   exact lh _ _ ⟨_,_,.int _,rfl,RM.put uG ⟨by rw [ID],fun x hx=>by rw [List.eq_of_mem_replicate hx];exact ⟨g0,g1⟩⟩ pn⟩
  ·obtain ⟨as,x8,p8,rfl,RM⟩:=hJ
   obtain ⟨a,ea,ha⟩:=Hy RM (p:=0) (by omega)
   have ea:bW (as.map Dv.ptr) 0=some (.ptr a):=ea
   obtain ⟨row,em,ro⟩:=RM.row a ha
   simp! only []
   refine ⟨b,_,rfl,RM.kp _ _ hb,by omega,by omega,fun t ht=>?_⟩
   simp! only [RM.rm,ea,em,ro.1,show fo ways 0=some 0 from lO (d:=0) (by omega)]
   rw [sT]
   exact hN _ _ ⟨as,_,p8,rfl,RM.rO ha (ro.set (by omega) (by omega))⟩
 rintro ρ M ⟨as,x8,p8,rfl,RM⟩
 have nb:∀{c o},Γ.M0 c=some o->c≠r:=fun e z=>by rw [z,RM.r0] at e;cases e
 have dk:Keeps Γ.M0 (b7 M r):=fun c o e=>by rw [bG (nb e)];exact RM.kp c o e
 refine .inr ⟨r,_,rfl,RM.rm,RM.r0,⟨fun j d e=>?_,fun c o e=>?_⟩,?_⟩
 ·match j,e with
  |0,e=>cases e;exact .ptr (by rw [dk _ _ hb];rfl)
  |1,e=>cases e;exact .int _
  |2,e=>cases e;exact .int _
  |3,e=>cases e;exact .int _
  |4,e=>cases e;exact .int _
  |5,e=>cases e;exact .int _
  |6,e=>cases e;exact .lst (e8 _)
  |7,e=>cases e;exact .lst fun d hd=>by
                obtain ⟨a,ha,rfl⟩:=ma.mp hd
                obtain ⟨row,em,_⟩:=RM.row a ha
                exact .ptr (by rw [bG (RM.fr a ha).2,em];rfl)
  |8,e=>exact p8 _ _ (hX e)
  |9,e=>exact p9 _ _ (hX e)
  |10,e=>exact qo _ _ (hX e)
  |j+11,e=>exact nomatch e
 ·have nc:c≠r:=fun z=>by rw [z,cJ] at e;cases e
  rw [bG nc] at e
  rcases RM.pin c o e with q|q|⟨row,rfl⟩|⟨bs,rfl,q2⟩
  ·exact .inl q
  ·exact absurd q nc
  ·exact .inr (e8 row)
  ·refine .inr fun d hd=>?_
   obtain ⟨a,ha,rfl⟩:=ma.mp hd
   obtain ⟨h1,u,h2⟩:=q2 a ha
   exact .ptr (by rw [bG h1,h2];rfl)
 ·simp! only []
  refine ⟨by rw [RM.len];omega,iO (acc:=[]) (fun acc τ M'=>∃rs:List (List Int),acc=rs.map eI/\(∃x,τ=[x])/\(∀row∈rs,ia n ways row)/\M'=b7 M r) ⟨[],rfl,⟨_,rfl⟩,(fun _ h=>nomatch h),rfl⟩ (fun i d acc τ M' hd _ ⟨rs,e1,⟨x,e2⟩,CD,eM⟩ R hR=>?_) (fun ys τ M' hl ⟨rs,e1,⟨x,e2⟩,CD,eM⟩=>?_)⟩
  ·subst e1 e2 eM
   obtain ⟨a,ha,rfl⟩:=GO hd
   have ha:=db ha
   obtain ⟨row,em,ro⟩:=RM.row a ha
   simp! only [bG (RM.fr a ha).2,em]
   refine hR _ _ _ ⟨rs++[row],by rw [ut];rfl,⟨_,rfl⟩,fun c hc=>?_,rfl⟩
   rcases wT.mp hc with z|z
   ·exact CD c z
   ·rw [mf] at z;rw [z];exact ro
  ·rw [Db] at e1
   subst e1 e2 eM
   have KN:rs.length=n :=by rw [cr,cr,RM.len] at hl;exact hl
   exact yB dk (yz rs) (q rs ways ⟨by omega,by omega,w2,fun row hr=>⟨(CD row hr).1,fun g hg=>by rw [KN];exact (CD row hr).2 g hg⟩⟩ (by omega))
end
section
variable {P:f8} {w:ii} {K:bn} {mg:br->Option ap} {base:gl} {tb:cC}
theorem t9:aT ["thing"] ["thing"] (aj ej):=⟨rfl,rfl,rfl,by decide +kernel,rfl,by decide +kernel,by decide +kernel⟩
theorem lW:aT ["thing","many"] ["thing","many"] (aj cT):=⟨rfl,rfl,rfl,by decide +kernel,rfl,by decide +kernel,by decide +kernel⟩
theorem zg:aT ["thing","many","width"] ["thing","many","width"] (aj iQ):=⟨rfl,rfl,rfl,by decide +kernel,rfl,by decide +kernel,by decide +kernel⟩
theorem lj:aT ["thing","many","width"] ["thing"] (aj iR):=⟨rfl,rfl,rfl,by decide +kernel,rfl,by decide +kernel,by decide +kernel⟩
def sW (d:Dv):Bool:=(isD "int" (fun _=>none) d).isSome
def zh:Dv->Bool | .int _=>true|_=>false
def eT (m:Int):Dv->Bool | .int i=>decide (0<=i) && decide (i<m)|_=>false
def Hz:cp:=fun ds M Q _=>∃d,ds=[d]/\sW d=true/\Q (.bl (zh d)) M
theorem ua {f:ag} {fd:l3} (D:Df K mg "is_whole" ej ["thing"] f fd) (bl:Bl mg):FnOk P w K mg base bq 1 f fd ["thing"] (bg P w K tb Hz) :=by
 refine fM D t9 (fun ds M Q E hS=>by obtain ⟨d,e,_⟩:=hS;rw [e];rfl) fun A outer s E Γ ds Q' E' hP hw hK ht hr hS=>?_
 obtain ⟨d,e,hk,q⟩:=hS
 refine ⟨_,(au (bu (sd (aD (iH (K:=K) rfl) rfl bl.isinstance_ dC (aa (qv 0) (aa (jD (v:=.ty "int") rfl bl.int_ FU rfl) ah))) (kU (Gs (aD (iH (K:=K) rfl) rfl bl.isinstance_ dC (aa (qv 0) (aa (jD (v:=.ty "bool") rfl bl.bool_ uz rfl) ah)))))))),?_⟩
 subst e
 cases d <;> first|exact ⟨by decide,⟨by decide,.inl q⟩⟩|exact ⟨by decide,.inl q⟩|exact nomatch hk
def HA:cp:=fun ds M Q _=>∃d m,ds=[d,.int m]/\sW d=true/\Q (.bl (eT m d)) M
theorem lX {f f1:ag} {fd cM:l3} (D:Df K mg "is_whole_below" cT ["thing","many"] f fd) (cy:Df K mg "is_whole" ej ["thing"] f1 cM) (bl:Bl mg):FnOk P w K mg base bq 2 f fd ["thing","many"] (bg P w K tb HA) :=by
 have wx:=ua (P:=P) (w:=w) (base:=base) (tb:=tb) cy bl
 refine fM D lW (fun ds M Q E hS=>by obtain ⟨d,m,e,_⟩:=hS;rw [e];rfl) fun A outer s E Γ ds Q' E' hP hw hK ht hr hS=>?_
 obtain ⟨d,m,e,hk,q⟩:=hS
 refine ⟨_,(au (bu (sd (aQ wx (hr.mono (by decide)) rfl cy.mg cy.fn.kp cy.bd bQ hP hw hK ht XR.none (aa (qv 0) ah)) (kU (AA vR vQ aw (qv 0) (qv 1)))))),?_⟩
 subst e
 refine ⟨d,rfl,hk,?_⟩
 cases d with
 |int i=>
  simp! only [zh]
  refine dQ (fun h=>?_) (fun h=>?_)
  ·rw [show eT m (.int i)=decide (i<m) by simp only [eT,h,PD]] at q
   exact .inl q
  ·rw [show eT m (.int i)=false by simp only [eT,h,Pm]] at q
   exact .inl q
 |_=>exact .inl q
def gh (m:Int) (w:Nat):Dv->Bool | .tup ds=>decide (ds.length=w) && ds.all (eT m)|_=>false
def A9:Dv->Bool | .tup ds=>ds.all sW|d=>sW d
def HB:cp:=fun ds M Q _=>∃d m w,ds=[d,.int m,.int (w:Nat)]/\A9 d=true/\Q (.bl (gh m w d)) M
theorem zj {f f1 f2:ag} {fd cM fd2:l3} {j5 a7:ag} (D:Df K mg "is_row" iQ ["thing","many","width"] f fd) (gm:xT base fd j5 a7) (hp:a7∈tb) (cV:∃bm ob,P5 base mainGlobals mg bm ob)
  (bw:Df K mg "is_whole_below" cT ["thing","many"] f1 cM) (cy:Df K mg "is_whole" ej ["thing"] f2 fd2) (bl:Bl mg):FnOk P w K mg base bq 4 f fd ["thing","many","width"] (bg P w K tb HB) :=by
 have mY:=lX (P:=P) (w:=w) (base:=base) (tb:=tb) bw cy bl
 refine fM D zg (fun ds M Q E hS=>by obtain ⟨d,m,n,e,_⟩:=hS;rw [e];rfl) fun A outer s E Γ ds Q' E' hP hw hK ht hr hS=>?_
 obtain ⟨d,m,n,e,hk,q⟩:=hS
 have wy:a7∈Γ.tb:=ht▸hp
 refine ⟨_,(ak (dz (QW.pt (nX (iD (fH (aD (iH (K:=K) rfl) rfl bl.isinstance_ dC (aa (qv 0) (aa (jD (v:=.ty "tuple") rfl bl.tuple_ fZ rfl) ah))))) (nW (bV GC (aD (cq (K:=K) rfl hK) rfl bl.len_ mv (aa (qv 0) ah)) (qv 2) (b8 _)))))
   (au (bu jR))
   qss_nil)
  (au (bu (yy (k:=2) (N':=["goal","many"]) (tn:=1) (idx:=[1]) wy (hr.mono (by decide)) rfl (show aI ["thing","many","width"] (aj iQ) _ ["goal","many"] 1 [1] from by decide +kernel) rfl rfl gm.code gm.hd cV rfl bl.all_ (kW (K:=K) rfl (qv 0)) (fun _ _ _ _ _ _ _ hr=>(aP (i:=0) (show EN [("goal" : br),("many" : br)] from by decide +kernel) rfl (nl rfl))) (fun _ _ _ _ _ _ _ hr=>eh) (fun _ _ _ _ _ _ _ hr=>(aQ mY (hr.mono (by decide)) rfl bw.mg bw.fn.kp bw.bd bQ hP hw hK ht XR.none (aa (qv 0) (aa (qv 1) ah)))))))),?_⟩
 subst e
 cases d with
 |tup es=>
  refine ⟨by decide,dQ (c := !decide ((es.length:Int)=(n:Nat))) (fun h=>?_) (fun h=>?_)⟩
  ·rw [show gh m n (.tup es)=false by simp at h;simp [gh];intro z;omega] at q
   exact .inl q
  ·rw [show gh m n (.tup es)=es.all (eT m) by simp at h;simp [gh,show es.length=n by omega]] at q
   refine oM (eT m) (fun τ=>∃x,τ=[x,some (.int m)]) ⟨none,rfl⟩ (fun d hd τ ⟨x,e⟩ R hR=>?_) (.inl q)
   subst e
   exact ⟨d,m,rfl,u7.mp hk d hd,hR _ ⟨_,rfl⟩⟩
 |_=>first|exact ⟨by decide,.inl q⟩|exact nomatch hk
def iT:Dv->Bool | .tup rs=>decide (1<=rs.length/\rs.length<=9) && (rs.all (gh rs.length 2) || rs.all (gh rs.length 3))|_=>false
def wz:Dv->Bool | .tup rs=>rs.all A9|d=>sW d
def HC:cp:=fun ds M Q _=>∃d,ds=[d]/\wz d=true/\Q (.bl (iT d)) M
theorem zk {f f1 f2 f3:ag} {fd cM fd2 qp:l3} {j5 a7 sX bz:ag} (D:Df K mg "is_net" iR ["thing"] f fd) (j6:xT base fd sX bz) (KI:bz∈tb) (fi:Df K mg "is_row" iQ ["thing","many","width"] f3 qp) (gm:xT base qp j5 a7) (hp:a7∈tb) (cV:∃bm ob,P5 base mainGlobals mg bm ob)
  (bw:Df K mg "is_whole_below" cT ["thing","many"] f1 cM) (cy:Df K mg "is_whole" ej ["thing"] f2 fd2) (bl:Bl mg) {tk:QH} (gp:mg "MOST_PLACES" = some (.int 9 tk)):FnOk P w K mg base bq 6 f fd ["thing"] (bg P w K tb HC) :=by
 have Ba:=zj (P:=P) (w:=w) (tb:=tb) fi gm hp cV bw cy bl
 refine fM D lj (fun ds M Q E hS=>by obtain ⟨d,e,_⟩:=hS;rw [e];rfl) fun A outer s E Γ ds Q' E' hP hw hK ht hr hS=>?_
 obtain ⟨d,e,hk,q⟩:=hS
 have j7:bz∈Γ.tb:=ht▸KI
 refine ⟨_,(ak (dz (QW.pt (nX (iD (fH (aD (iH (K:=K) rfl) rfl bl.isinstance_ dC (aa (qv 0) (aa (jD (v:=.ty "tuple") rfl bl.tuple_ fZ rfl) ah))))) (nW (iD (AB vR vR aw (aD (cq (K:=K) rfl hK) rfl bl.len_ mv (aa (qv 0) ah)) (Ay (i:=9) rfl gp ⟨_,rfl⟩))))))
   (au (bu jR))
   qss_nil)
  (ak (aN (i:=1) lj.nd rfl (Do rfl) (aD (cq (K:=K) rfl hK) rfl bl.len_ mv (aa (qv 0) ah)))
  (ak (cY sw rfl (kW (K:=K) rfl (Gu (aa aw (aa aw ah)))) (fun jg eP ew eK et=>by have hP:=hP.trans eP.symm;have hw:=hw.trans ew.symm;have hK:=hK.trans eK.symm;have ht:=ht.trans et.symm;have j7:=et.symm▸j7;exact ⟨(aP (i:=2) lj.nd rfl (Do rfl)),(au (dz (fH (yy (k:=4) (N':=["row","many","width"]) (tn:=1) (idx:=[1,2]) j7 (hr.mono (by decide)) rfl (show aI ["thing","many","width"] (aj iR) _ ["row","many","width"] 1 [1,2] from by decide +kernel) rfl rfl j6.code j6.hd cV rfl bl.all_ (kW (K:=K) rfl (qv 0)) (fun _ _ _ _ _ _ _ hr=>(aP (i:=0) (show EN [("row" : br),("many" : br),("width" : br)] from by decide +kernel) rfl (nl rfl))) (fun _ _ _ _ _ _ _ hr=>eh) (fun _ _ _ _ _ _ _ hr=>(aQ Ba (hr.mono (by decide)) rfl fi.mg fi.fn.kp fi.bd bQ hP hw hK ht XR.none (aa (qv 0) (aa (qv 1) (aa (qv 2) ah)))))))
   (au (bu jR))
   qss_nil))⟩))
  (au (bu jR))))),?_⟩
 subst e
 cases d with
 |tup rs=>
  refine ⟨by decide,?_⟩
  have row:∀(n:Nat) (D:Bool->Mh->Prop),(D (rs.all (gh rs.length n)) Γ.M0)->i9 (zgName 0) zNoIf (zCall HB (fun _ _=>False) (zCons (zVar 0) (zCons (zVar 1) (zCons (zVar 2) zNil)))) rs [none,some (.int rs.length),some (.int (n:Nat))] Γ.M0 D:=fun n D hD=>by
   refine oM (gh rs.length n) (fun τ=>∃x,τ=[x,some (.int rs.length),some (.int (n:Nat))]) ⟨none,rfl⟩ (fun d hd τ ⟨x,e⟩ R hR=>?_) hD
   subst e
   exact ⟨d,rs.length,n,rfl,u7.mp hk d hd,hR _ ⟨_,rfl⟩⟩
  simp! only []
  refine dQ (fun h1=>dQ (fun h2=>?_) (fun h2=>⟨by decide,?_⟩)) (fun h1=>?_)
  ·rw [show iT (.tup rs)=false by simp at h1 h2;simp [iT];intro z;omega] at q
   exact .inl q
  ·have e:iT (.tup rs)=(rs.all (gh rs.length 2) || rs.all (gh rs.length 3)) :=by
    simp at h1 h2
    simp only [iT]
    rw [decide_eq_true (by omega),PD]
   rw [e] at q
   refine row 2 _ (dQ (fun z=>?_) (fun z=>row 3 _ (dQ (fun z2=>?_) (fun z2=>?_))))
   ·rw [z] at q;exact .inl q
   ·rw [z,z2] at q;exact .inl q
   ·rw [z,z2] at q;exact .inl q
  ·rw [show iT (.tup rs)=false by simp at h1;simp [iT];intro z;omega] at q
   exact .inl q
 |_=>first|exact ⟨by decide,.inl q⟩|exact nomatch hk
theorem ub:aT ["thing"] ["thing"] (aj hZ):=⟨rfl,rfl,rfl,by decide +kernel,rfl,by decide +kernel,by decide +kernel⟩
theorem zl {m:Int} {g:Int} (h:0<=g/\g<m):eT m (.int g)=true :=by simp [eT,h.1,h.2]
theorem DX {net:List (List Int)} {n:Nat} (o:bh net n):iT (eN net)=true :=by
 have hr:∀d∈net.map eI,gh (net.map eI).length n d=true:=fun d hd=>by
  obtain ⟨r,hr,rfl⟩:=ma.mp hd
  obtain ⟨h1,h2⟩:=o.row r hr
  simp only [gh,cr]
  rw [decide_eq_true h1,PD,u7]
  intro d hd
  obtain ⟨g,hg,rfl⟩:=ma.mp hd
  exact zl (h2 g hg)
 have ho:=o.one
 have hn:=o.nine
 simp only [iT,eN]
 rw [decide_eq_true (by rw [cr];omega),PD]
 have ha:=u7.mpr hr
 rcases o.wid with rfl|rfl
 ·rw [ha];rfl
 ·rw [ha,Bool.or_true]
theorem DY (net:List (List Int)):wz (eN net)=true :=by
 simp only [wz,eN]
 rw [u7]
 intro d hd
 obtain ⟨r,_,rfl⟩:=ma.mp hd
 simp only [A9,eI]
 rw [u7]
 intro d hd
 obtain ⟨g,hg,rfl⟩:=ma.mp hd
 rfl
def CF (C:ag):cp:=fun ds M Q E=>∃d,ds=[d]/\wz d=true/\(iT d=true->Q .ao M)/\(iT d=false->E C M)
theorem ud {f f1:ag} {fd cM:l3} {C0 C_NoNet:ag} {cs:List ag} (D:Df K mg "need_net" hZ ["thing"] f fd) (fj:Df K mg "is_net" iR ["thing"] f1 cM) (mZ:FnOk P w K mg base bq 6 f1 cM ["thing"] (bg P w K tb HC))
  (X_:Gi K C0 cs) (oY:C_NoNet∈cs) (oZ:mg "NoNet" = some (.ref C_NoNet)):FnOk P w K mg base (ft P w) 7 f fd ["thing"] (bg P w K tb (CF C_NoNet)) :=by
 refine vT D ub (fun ds M Q E hS=>by obtain ⟨d,e,_⟩:=hS;rw [e];rfl) fun A outer s E Γ ds Q' E' hP hw hK ht hE hr hS=>?_
 obtain ⟨d,e,hk,q1,q2⟩:=hS
 refine ⟨_,(au (dz (iD (fH (aQ mZ (hr.mono (by decide)) rfl fj.mg fj.fn.kp fj.bd bQ hP hw hK ht XR.none (aa (qv 0) ah))))
   (au (AD (X_.ex _ oY) PySem.F.excBase_ValueError rfl Gf hE rfl oZ (aa yj ah)))
   qss_nil)),?_⟩
 subst e
 simp! only []
 refine ⟨d,rfl,hk,dQ (fun h=>?_) (fun h=>?_)⟩
 ·exact ⟨by decide,q2 (by simpa using h)⟩
 ·exact .inl (q1 (by simpa using h))
end
section
theorem qt {κ:Type} [DecidableEq κ] {step:κ->Nat->κ} {k:κ} {w:br} {st:List κ×List br}:∀{n a:Nat},a<n->step k a∈(visit step k w n st).1
 |n+1,a,h=>by
          rw [fO]
          obtain ⟨ks,ws,h1,_⟩:=qh step k w (visit step k w n st) n
          by_cases e:a=n
          ·subst e
           unfold gd
           split
           ·assumption
           ·exact li _ (mf.mpr rfl)
          ·rw [h1]
           exact zw _ (qt (by omega))
theorem oq {κ:Type} [DecidableEq κ] {step:κ->Nat->κ} {k:κ} {w:br} {st:List κ×List br}:∀{n:Nat} {x:κ},x∈(visit step k w n st).1->x∈st.1\/∃a,a<n/\x=step k a
 |0,x,h=>.inl h
 |n+1,x,h=>by
          rw [fO] at h
          have h2:x∈(visit step k w n st).1\/x=step k n :=by
           unfold gd at h
           split at h
           ·exact .inl h
           ·exact (wT.mp h).imp id mf.mp
          rcases h2 with h2|h2
          ·exact (oq h2).imp id fun ⟨a,ha,e⟩=>⟨a,by omega,e⟩
          ·exact .inr ⟨n,by omega,h2⟩
theorem u6 {κ:Type} [DecidableEq κ] {U:List κ} {step:κ->Nat->κ} {n most:Nat} {R:κ->Prop} (hs:∀k∈U,∀a,a<n->step k a∈U) (hm:U.length<=most) (hR:∀k,R k->∀a,a<n->R (step k a)):∀(fuel i:Nat) (st:List κ×List br),dR U st->U.length<fuel+i->i<=st.1.length->
  (∀j k,st.1[j]?=some k->j<i->∀a,a<n->step k a∈st.1)->(∀k∈st.1,R k)->
  (∀k∈st.1,k∈(iP step n most fuel i st).1)/\(∀k∈(iP step n most fuel i st).1,R k/\∀a,a<n->step k a∈(iP step n most fuel i st).1)
 |0,i,st,ok,hf,hi,hc,hr=>by have:=ok.le;omega
 |fuel+1,i,st,ok,hf,hi,hc,hr=>by
          have hle:=ok.le
          have hlen:=ok.len
          by_cases aY:i<st.1.length
          ·have h1:=al aY
           have h2:=al (show i<st.2.length by omega)
           have oX:st.1[i]∈st.1:=tw aY
           rw [yZ h1 h2 (by omega)]
           obtain ⟨ks,ws,g1,g2⟩:=g9 step st.1[i] (st.2[i]'(by omega)) n st
           have sub:∀x∈st.1,x∈(visit step st.1[i] (st.2[i]'(by omega)) n st).1:=fun x hx=>by rw [g1];exact zw _ hx
           obtain ⟨r1,r2⟩:=u6 hs hm hR fuel (i+1) (visit step st.1[i] (st.2[i]'(by omega)) n st) (ok.visit h2 fun a ha=>hs _ (ok.sub _ oX) a ha) (by omega) (by rw [g1,v6];omega) (fun j k hj O1 a ha=>by
            rw [g1,ol (by omega)] at hj
            by_cases e:j=i
            ·subst e
             rw [h1] at hj;cases hj
             exact qt ha
            ·exact sub _ (hc j k hj (by omega) a ha)) (fun k hk=>by
            rcases oq hk with z|⟨a,ha,rfl⟩
            ·exact hr k z
            ·exact hR _ (hr _ oX) a ha)
           exact ⟨fun k hk=>r1 k (sub k hk),r2⟩
          ·have e:iP step n most (fuel+1) i st=st :=by
            unfold iP
            rw [Cn (by omega)]
           rw [e]
           exact ⟨fun k hk=>hk,fun k hk=>⟨hr k hk,fun a ha=>by
            obtain ⟨j,hj⟩:=l7.mp hk
            exact hc j k hj (by have:=(bv.mp hj).1;omega) a ha⟩⟩
end
section
inductive gL (net:List (List Int)) (n:Nat) (s:Int):Int->Prop where
 |base:gL net n s s
 |step {p:Int} {a:Nat} (h:gL net n s p) (ha:a<n):gL net n s (eV net p a)
theorem gL.trans {net:List (List Int)} {n:Nat} {s p q:Int} (h:gL net n s p) (h2:gL net n p q):gL net n s q :=by
 induction h2 with
 |base=>exact h
 |step _ ha ih=>exact ih.step ha
theorem ou {net:List (List Int)} {n:Nat} (O:bh net n) {s p:Int} (hs:s∈aB net) (h:gL net n s p):p∈aB net :=by
 induction h with
 |base=>exact hs
 |step _ ha ih=>exact j4 O ih ha
theorem places_len {net:List (List Int)}:(aB net).length=net.length :=by simp [aB]
theorem zm {net:List (List Int)}:(aB net).Nodup :=by
 unfold aB
 refine List.Pairwise.map _ (fun a b h=>?_) List.nodup_range
 intro e;exact h (Int.ofNat.inj e)
theorem zo {net:List (List Int)}:(aB net).Pairwise (·<=·) :=by
 unfold aB
 refine List.Pairwise.map _ (fun a b h=>?_) (List.pairwise_lt_range (n:=net.length))
 show (a:Int)<=b
 omega
theorem o3 {net:List (List Int)} {n:Nat} (O:bh net n) {s:Int} (hs:s∈aB net):dR (aB net) (gT net n s):=
 bfs_ok (fun _ hk _ ha=>j4 O hk ha) _ _ _ (lg hs)
theorem lQ {net:List (List Int)} {n:Nat} (O:bh net n) {s p:Int} (hs:s∈aB net):p∈(gT net n s).1 ↔ gL net n s p :=by
 have hl:=places_len (net:=net)
 have h9:=O.nine
 obtain ⟨h1,h2⟩:=u6 (U:=aB net) (step:=eV net) (n:=n) (most:=511) (R:=gL net n s) (fun _ hk _ ha=>j4 O hk ha) (by omega) (fun k hk a ha=>hk.step ha) (net.length+1) 0 ([s],[""]) (lg hs) (by omega) (sK _) (fun j k _ hj=>absurd hj (O7 _)) (fun k hk=>by rw [mf.mp hk];exact .base)
 constructor
 ·exact fun h=>(h2 p h).1
 ·intro h
  induction h with
  |base=>exact h1 s (mf.mpr rfl)
  |step _ ha ih=>exact (h2 _ ih).2 _ ha
def qR (net:List (List Int)) (n:Nat) (a b:Int):Prop:=gL net n a b/\gL net n b a
noncomputable instance {net:List (List Int)} {n:Nat} {a b:Int}:Decidable (gL net n a b):=Me _
noncomputable instance {net:List (List Int)} {n:Nat} {a b:Int}:Decidable (qR net n a b):=Me _
noncomputable def dN (net:List (List Int)) (n:Nat) (a:Int):List Int:=(aB net).filter fun b=>decide (qR net n a b)
def lR (net:List (List Int)) (n:Nat) (a:Int):Prop:=∀b∈dN net n a,a<=b
noncomputable instance {net:List (List Int)} {n:Nat} {a:Int}:Decidable (lR net n a):=Me _
noncomputable def gM (net:List (List Int)) (n i:Nat):List Int:=((aB net).take i).filter fun a=>decide (lR net n a)
noncomputable def bL (net:List (List Int)) (n:Nat):List (List Int):=(gM net n net.length).map (dN net n)
theorem u9 {net:List (List Int)} {n:Nat} {a b:Int}:b∈dN net n a ↔ b∈aB net/\qR net n a b :=by
 unfold dN
 rw [GT,decide_eq_true_eq]
theorem j8 {net:List (List Int)} {n:Nat} {a:Int} (h:a∈aB net):a∈dN net n a:=u9.mpr ⟨h,.base,.base⟩
theorem zp {net:List (List Int)} {n:Nat} {a:Int}:(dN net n a).Pairwise (·<=·):=zo.filter _
theorem DZ {net:List (List Int)} {n:Nat} {a:Int}:(dN net n a).length<=net.length:=r6 (PL _ _) (QB places_len)
def eY (net:List (List Int)) (n:Nat) (p:Int):List Int:=(gT net n p).1.filter fun g=>decide (p∈(gT net n g).1)
theorem iU {net:List (List Int)} {n:Nat} (O:bh net n) {p g:Int} (hp:p∈aB net):g∈eY net n p ↔ g∈dN net n p :=by
 unfold eY
 rw [GT,decide_eq_true_eq,u9,lQ O hp]
 constructor
 ·rintro ⟨h1,h2⟩
  have hg:=ou O hp h1
  exact ⟨hg,h1,(lQ O hg).mp h2⟩
 ·rintro ⟨hg,h1,h2⟩
  exact ⟨h1,(lQ O hg).mpr h2⟩
theorem qu {net:List (List Int)} {n:Nat} (O:bh net n) {p:Int} (hp:p∈aB net):(dN net n p).Perm (eY net n p):=
 (List.perm_ext_iff_of_nodup (zm.filter _) ((o3 O hp).nd.filter _)).mpr fun q=>(iU O hp).symm
theorem zq {net:List (List Int)} {n:Nat} (O:bh net n) {p:Int} (hp:p∈aB net):sortI (eY net n p)=dN net n p:=(rS (qu O hp) zp).symm
theorem Bb {net:List (List Int)} {n:Nat} (O:bh net n) {p:Int} (hp:p∈aB net):(eY net n p).length<=9 :=by
 rw [<- (qu O hp).length_eq]
 exact r6 DZ O.nine
theorem Bc {net:List (List Int)} {n:Nat} (O:bh net n) {p m:Int} (hp:p∈aB net) (hm:m∈eY net n p) (h:∀a∈eY net n p,m<=a):p=m ↔ lR net n p :=by
 constructor
 ·rintro rfl b hb
  exact h b ((iU O hp).mpr hb)
 ·intro hh
  have h1:=hh m ((iU O hp).mp hm)
  have h2:=h p ((iU O hp).mpr (j8 hp))
  omega
theorem cls_cons {net:List (List Int)} {n:Nat} {a:Int} (h:a∈aB net):∃v t,dN net n a=v::t/\(v=a ↔ lR net n a) :=by
 cases e:dN net n a with
 |nil=>have:=j8 (n:=n) h;rw [e] at this;cases this
 |cons v t=>
  refine ⟨v,t,rfl,?_⟩
  have pw:=zp (net:=net) (n:=n) (a:=a)
  rw [e,List.pairwise_cons] at pw
  constructor
  ·intro ev b hb
   subst ev
   rw [e] at hb
   rcases lc.mp hb with rfl|hb
   ·exact Int.le_refl _
   ·exact pw.1 b hb
  ·intro hh
   have h1:=hh v (by rw [e];exact i8)
   have hs:=j8 (n:=n) h
   rw [e] at hs
   rcases lc.mp hs with rfl|hs
   ·rfl
   ·have:=pw.1 _ hs;omega
theorem gA {net:List (List Int)} {n i:Nat} (hi:i<net.length):gM net n (i+1)=if lR net n (i:Int) then gM net n i++[(i:Int)] else gM net n i :=by
 have e:(aB net).take (i+1)=(aB net).take i++[(i:Int)] :=by
  have:(aB net)[i]?=some (i:Int) :=by unfold aB;rw [ca,B0 hi];rfl
  rw [List.take_succ,this];rfl
 unfold gM
 rw [e,List.filter_append]
 by_cases h:lR net n (i:Int)
 ·rw [if_pos h,LG,if_pos (decide_eq_true h)];rfl
 ·rw [if_neg h,LG,if_neg (by simpa using h)];simp
theorem j9 {net:List (List Int)} {n i:Nat}:(gM net n i).length<=net.length:=r6 (PL _ _) (r6 (List.length_take_le' ..) (QB places_len))
theorem jJ {net:List (List Int)} {i:Nat} (h:i<net.length):((i:Nat):Int)∈aB net:=cu.mpr ⟨by omega,by omega⟩
def aO (rs:List (List Bool)) (i j:Nat):Bool:=(rs.getD i []).getD j false
def setB (rs:List (List Bool)) (i j:Nat) (b:Bool):List (List Bool):=rs.set i ((rs.getD i []).set j b)
structure gN (m:Nat) (rs:List (List Bool)):Prop where
 len:rs.length=m
 row:∀(i:Nat) (r:List Bool),rs[i]?=some r->r.length=m
theorem gN.get {m:Nat} {rs:List (List Bool)} (o:gN m rs) {i:Nat} (hi:i<m):∃r,rs[i]?=some r/\r.length=m/\rs.getD i []=r :=by
 have h:=al (show i<rs.length by rw [o.len];exact hi)
 exact ⟨_,h,o.row _ _ h,by rw [cb,h];rfl⟩
theorem gN.set {m:Nat} {rs:List (List Bool)} (o:gN m rs) {i j:Nat} {b:Bool} (hi:i<m):gN m (setB rs i j b) :=by
 obtain ⟨r,h1,h2,h3⟩:=o.get hi
 refine ⟨by unfold setB;rw [Da];exact o.len,fun k s hs=>?_⟩
 unfold setB at hs
 rw [h3,BS] at hs
 split at hs
 ·split at hs
  ·cases hs;rw [Da];exact h2
  ·cases hs
 ·exact o.row _ _ hs
theorem Bd {m:Nat} {rs:List (List Bool)} (o:gN m rs) {i j k l:Nat} {b:Bool} (hi:i<m) (hj:j<m):aO (setB rs i j b) k l=if k=i/\l=j then b else aO rs k l :=by
 obtain ⟨r,h1,h2,h3⟩:=o.get hi
 have e:(rs.set i (r.set j b)).getD k []=if i=k then r.set j b else rs.getD k [] :=by
  rw [cb,BS]
  by_cases hk:i=k
  ·rw [if_pos hk,if_pos hk,if_pos (by rw [o.len];exact hi)];rfl
  ·rw [if_neg hk,if_neg hk,cb]
 have e2:(r.set j b).getD l false=if j=l then b else r.getD l false :=by
  rw [cb,BS]
  by_cases hl:j=l
  ·rw [if_pos hl,if_pos hl,if_pos (by omega)];rfl
  ·rw [if_neg hl,if_neg hl,cb]
 unfold aO setB
 rw [h3,e]
 by_cases hk:i=k
 ·subst hk
  rw [if_pos rfl,e2,h3]
  by_cases hl:j=l
  ·rw [if_pos hl,if_pos ⟨rfl,hl.symm⟩]
  ·rw [if_neg hl,if_neg fun z=>hl z.2.symm]
 ·rw [if_neg hk,if_neg fun z=>hk z.1.symm]
def fV (mid i:Nat) (rs:List (List Bool)) (j:Nat):List (List Bool):=setB rs i j (aO rs i j || (aO rs i mid && aO rs mid j))
def mJ (m mid:Nat) (rs:List (List Bool)) (i:Nat):List (List Bool):=(io m).foldl (fV mid i) rs
def o4 (m:Nat) (rs:List (List Bool)) (mid:Nat):List (List Bool):=(io m).foldl (mJ m mid) rs
def allB (m:Nat) (rs:List (List Bool)):List (List Bool):=(io m).foldl (o4 m) rs
def startB (net:List (List Int)):List (List Bool):=(io net.length).map fun i:Nat=>(io net.length).map fun j:Nat=>decide (i=j) || decide ((j:Int)∈net.getD i [])
def bS (net:List (List Int)):List (List Bool):=allB net.length (startB net)
structure UpB (m:Nat) (R:Nat->Nat->Prop) (rs ts:List (List Bool)):Prop where
 sq:gN m ts
 up:∀i j,i<m->j<m->aO rs i j=true->aO ts i j=true
 ok:∀i j,i<m->j<m->aO ts i j=true->R i j
theorem UpB.trans {m:Nat} {R:Nat->Nat->Prop} {a b c:List (List Bool)} (x:UpB m R a b) (y:UpB m R b c):UpB m R a c:=⟨y.sq,fun i j hi hj h=>y.up i j hi hj (x.up i j hi hj h),y.ok⟩
theorem D0 {m mid i j:Nat} {R:Nat->Nat->Prop} (hR:∀a b c,R a b->R b c->R a c) {rs:List (List Bool)} (hm:mid<m) (hi:i<m) (hj:j<m) (o:gN m rs) (ok:∀i j,i<m->j<m->aO rs i j=true->R i j) :
  UpB m R rs (fV mid i rs j)/\(aO rs i mid=true->aO rs mid j=true->aO (fV mid i rs j) i j=true) :=by
 have g:=fun k l=>Bd (k:=k) (l:=l) (b:=aO rs i j || (aO rs i mid && aO rs mid j)) o hi hj
 refine ⟨⟨o.set hi,fun k l hk hl h=>?_,fun k l hk hl h=>?_⟩,fun h1 h2=>?_⟩
 ·unfold fV
  rw [g]
  split
  ·rename_i q;obtain ⟨rfl,rfl⟩:=q;rw [h];rfl
  ·exact h
 ·unfold fV at h
  rw [g] at h
  split at h
  ·rename_i q
   obtain ⟨rfl,rfl⟩:=q
   rw [O8,u4] at h
   rcases h with h|⟨h1,h2⟩
   ·exact ok _ _ hk hl h
   ·exact hR _ _ _ (ok _ _ hk hm h1) (ok _ _ hm hl h2)
  ·exact ok _ _ hk hl h
 ·unfold fV
  rw [g,if_pos ⟨rfl,rfl⟩,h1,h2]
  simp
theorem fold_succ {α:Type} (f:α->Nat->α) (a:α) (k:Nat):(io (k+1)).foldl f a=f ((io k).foldl f a) k :=by rw [List.range_succ,List.foldl_append];rfl
theorem zt {m mid i:Nat} {R:Nat->Nat->Prop} (hR:∀a b c,R a b->R b c->R a c) {rs:List (List Bool)} (hm:mid<m) (hi:i<m) (o:gN m rs) (ok:∀i j,i<m->j<m->aO rs i j=true->R i j):∀k,k<=m->
  UpB m R rs ((io k).foldl (fV mid i) rs)/\∀j,j<k->aO rs i mid=true->aO rs mid j=true->aO ((io k).foldl (fV mid i) rs) i j=true
 |0,_=>⟨⟨o,fun _ _ _ _ h=>h,ok⟩,fun j h=>absurd h (O7 _)⟩
 |k+1,hk=>by
          obtain ⟨u,h⟩:=zt hR hm hi o ok k (by omega)
          obtain ⟨u2,h2⟩:=D0 (i:=i) (j:=k) hR hm hi (show k<m by omega) u.sq u.ok
          rw [fold_succ]
          refine ⟨u.trans u2,fun j hj h3 h4=>?_⟩
          by_cases e:j=k
          ·subst e
           exact h2 (u.up _ _ hi hm h3) (u.up _ _ hm (by omega) h4)
          ·exact u2.up _ _ hi (by omega) (h j (by omega) h3 h4)
theorem mid_up {m mid:Nat} {R:Nat->Nat->Prop} (hR:∀a b c,R a b->R b c->R a c) {rs:List (List Bool)} (hm:mid<m) (o:gN m rs) (ok:∀i j,i<m->j<m->aO rs i j=true->R i j):∀k,k<=m->
  UpB m R rs ((io k).foldl (mJ m mid) rs)/\∀i j,i<k->j<m->aO rs i mid=true->aO rs mid j=true->aO ((io k).foldl (mJ m mid) rs) i j=true
 |0,_=>⟨⟨o,fun _ _ _ _ h=>h,ok⟩,fun i j h=>absurd h (O7 _)⟩
 |k+1,hk=>by
          obtain ⟨u,h⟩:=mid_up hR hm o ok k (by omega)
          obtain ⟨u2,h2⟩:=zt (i:=k) hR hm (show k<m by omega) u.sq u.ok m (c8 _)
          rw [fold_succ]
          refine ⟨u.trans u2,fun i j hi hj h3 h4=>?_⟩
          by_cases e:i=k
          ·subst e
           exact h2 j hj (u.up _ _ (by omega) hm h3) (u.up _ _ hm hj h4)
          ·exact u2.up _ _ (by omega) hj (h i j (by omega) hj h3 h4)
inductive gq (E:Nat->Nat->Prop) (m k:Nat):Nat->Nat->Prop where
 |one {i j:Nat} (h:E i j):gq E m k i j
 |two {i j l:Nat} (hl:l<k) (h1:gq E m k i l) (h2:gq E m k l j):gq E m k i j
theorem Be {E:Nat->Nat->Prop} {m k i j:Nat} (h:gq E m (k+1) i j):gq E m k i j\/(gq E m k i k/\gq E m k k j) :=by
 induction h with
 |one h=>exact .inl (.one h)
 | @two i j l hl _ _ CG CH=>
  by_cases e:l=k
  ·subst e
   have a:gq E m l i l:=CG.elim id (·.1)
   have b:gq E m l l j:=CH.elim id (·.2)
   exact .inr ⟨a,b⟩
  ·have hl:l<k :=by omega
   rcases CG with a|⟨a,b⟩ <;> rcases CH with c|⟨c,d⟩
   ·exact .inl (.two hl a c)
   ·exact .inr ⟨.two hl a c,d⟩
   ·exact .inr ⟨a,.two hl b c⟩
   ·exact .inr ⟨a,d⟩
theorem HD {E:Nat->Nat->Prop} {m k:Nat} (hE:∀i j,E i j->i<m/\j<m) {i j:Nat} (h:gq E m k i j):i<m/\j<m :=by
 induction h with
 |one h=>exact hE _ _ h
 |two _ _ _ CG CH=>exact ⟨CG.1,CH.2⟩
theorem zu {m:Nat} {R E:Nat->Nat->Prop} (hR:∀a b c,R a b->R b c->R a c) (hE:∀i j,E i j->i<m/\j<m) {rs:List (List Bool)} (o:gN m rs) (ok:∀i j,i<m->j<m->aO rs i j=true->R i j) (st:∀i j,E i j->aO rs i j=true):∀k,k<=m->
  UpB m R rs ((io k).foldl (o4 m) rs)/\∀i j,gq E m k i j->aO ((io k).foldl (o4 m) rs) i j=true
 |0,_=>⟨⟨o,fun _ _ _ _ h=>h,ok⟩,fun i j h=>by
          cases h with
          |one h=>exact st _ _ h
          |two hl=>exact absurd hl (O7 _)⟩
 |k+1,hk=>by
          obtain ⟨u,h⟩:=zu hR hE o ok st k (by omega)
          obtain ⟨u2,h2⟩:=mid_up (mid:=k) hR (show k<m by omega) u.sq u.ok m (c8 _)
          rw [fold_succ]
          refine ⟨u.trans u2,fun i j w=>?_⟩
          obtain ⟨hi,hj⟩:=HD hE w
          rcases Be w with w|⟨w1,w2⟩
          ·exact u2.up _ _ hi hj (h i j w)
          ·exact h2 i j hi hj (h _ _ w1) (h _ _ w2)
theorem m4 (net:List (List Int)):gN net.length (startB net) :=by
 refine ⟨by simp [startB],fun i r h=>?_⟩
 unfold startB at h
 rw [ca] at h
 obtain ⟨k,_,rfl⟩:=kt.mp h
 simp
theorem qw {net:List (List Int)} {i j:Nat} (hi:i<net.length) (hj:j<net.length):aO (startB net) i j=(decide (i=j) || decide ((j:Int)∈net.getD i [])) :=by
 unfold aO startB
 rw [cb (l:=List.map _ _),ca,B0 hi]
 show List.getD (List.map _ _) j false=_
 rw [cb,ca,B0 hj]
 rfl
theorem zv {net:List (List Int)} {n:Nat} (O:bh net n) {i:Nat} (hi:i<net.length) {q:Int}:q∈net.getD i [] ↔ ∃a,a<n/\eV net (i:Int) a=q :=by
 have e:net.getD i []=net[i]:=getD_at hi
 have hr:=(O.row _ (tw hi)).1
 have hs:∀a,a<n->eV net (i:Int) a=(net.getD i []).getD a 0:=fun a _=>by unfold eV;rw [u8]
 constructor
 ·intro h
  obtain ⟨a,ha⟩:=l7.mp h
  have hl:=(bv.mp ha).1
  rw [e,hr] at hl
  exact ⟨a,hl,by rw [hs a hl,cb,ha];rfl⟩
 ·rintro ⟨a,ha,rfl⟩
  rw [hs a ha]
  have hl:a<(net.getD i []).length :=by rw [e,hr];exact ha
  rw [getD_at hl]
  exact tw hl
theorem sY {net:List (List Int)} {n:Nat} (O:bh net n):gN net.length (bS net)/\∀i j,i<net.length->j<net.length->(aO (bS net) i j=true ↔ gL net n (i:Int) (j:Int)) :=by
 let E:Nat->Nat->Prop:=fun i j=>(i<net.length/\j<net.length)/\(i=j\/(j:Int)∈net.getD i [])
 obtain ⟨u,w⟩:=zu (R:=fun i j=>gL net n (i:Int) (j:Int)) (E:=E) (rs:=startB net) (fun a b c=>gL.trans) (fun i j h=>h.1) (m4 net) (fun i j hi hj h=>by
   rw [qw hi hj,O8,decide_eq_true_eq,decide_eq_true_eq] at h
   rcases h with rfl|h
   ·exact .base
   ·obtain ⟨a,ha,e⟩:=(zv O hi).mp h
    rw [<- e]
    exact .step .base ha) (fun i j h=>by
   rw [qw h.1.1 h.1.2,O8,decide_eq_true_eq,decide_eq_true_eq]
   exact h.2) net.length (c8 _)
 refine ⟨u.sq,fun i j hi hj=>⟨u.ok i j hi hj,fun h=>w i j ?_⟩⟩
 have:∀q:Int,gL net n (i:Int) q->∀j:Nat,q=(j:Int)->gq E net.length net.length i j:=fun q h=>by
  induction h with
  |base=>
   intro j e
   have e:i=j :=by omega
   subst e
   exact .one ⟨⟨hi,hi⟩,.inl rfl⟩
  | @step p a hp ha ih=>
   intro j e
   have pp:=cu.mp (ou O (jJ hi) hp)
   have pq:=cu.mp (ou O (jJ hi) (hp.step ha))
   obtain ⟨l,rfl⟩:=Fk pp.1
   have hl:l<net.length :=by omega
   have hj:j<net.length :=by omega
   refine .two hl (ih l rfl) (.one ⟨⟨hl,hj⟩,.inr ?_⟩)
   rw [<- e]
   exact (zv O hl).mpr ⟨a,ha,rfl⟩
 exact this _ h j rfl
theorem wA {net:List (List Int)} {n:Nat} (O:bh net n) {i:Nat} (hi:i<net.length):dN net n (i:Int)=((io net.length).filter fun j=>aO (bS net) i j && aO (bS net) j i).map fun j:Nat=>(j:Int) :=by
 unfold dN aB
 rw [QP]
 congr 1
 refine List.filter_congr fun j hj=>?_
 have hj:=Lo.mp hj
 have r:=(sY O).2
 show decide (qR net n (i:Int) (j:Int))=_
 rw [O5,decide_eq_true_eq,u4,r i j hi hj,r j i hj hi]
 exact Iff.rfl
end
section
variable {P:f8} {w:ii} {K:bn} {mg:br->Option ap} {base:gl} {tb:cC} {C_NoNet:ag}
theorem iV:aT ["net","reached","told","place","part"] ["net"] (aj gf):=⟨rfl,rfl,rfl,by decide +kernel,rfl,by decide +kernel,by decide +kernel⟩
theorem lY:aT ["net"] ["net"] (aj dA):=⟨rfl,rfl,rfl,by decide +kernel,rfl,by decide +kernel,by decide +kernel⟩
theorem gB {M0 M:Mh} (h:Keeps M0 M) {a:ag} (ha:M a=none):M0 a=none :=by
 cases e:M0 a with
 |none=>rfl
 |some u=>rw [h a u e] at ha;cases ha
structure fW (M0 M:Mh) (a:ag) (bs:List ag) (rs:List (List Int)):Prop where
 a0:M0 a=none
 am:M a=some (.lst (bs.map .ptr))
 len:bs.length=rs.length
 bm:∀(j:Nat) (b:ag) (r:List Int),bs[j]?=some b->rs[j]?=some r->M b=some (.lst (r.map .int))
 b0:∀b∈bs,M0 b=none/\b≠a
 kp:Keeps M0 M
 oth:∀c o,M c=some o->M0 c=some o\/c=a\/∃r:List Int,o=.lst (r.map .int)
theorem fW.junk {M0 M:Mh} {a c:ag} {bs:List ag} {rs:List (List Int)} {r:List Int} (h:fW M0 M a bs rs) (hc:M c=none):fW M0 (aq M c (.lst (r.map .int))) a bs rs :=by
 have qm:a≠c:=fun e=>by have:=h.am;rw [e,hc] at this;cases this
 have c0:=gB h.kp hc
 refine ⟨h.a0,by rw [af qm];exact h.am,h.len,fun j b s hb hs=>?_,h.b0,.upd c0 h.kp,fun d o e=>?_⟩
 ·have:=h.bm j b s hb hs
  rw [af (fun e=>by rw [e,hc] at this;cases this)]
  exact this
 ·by_cases z:d=c
  ·subst z;rw [updM_same] at e;cases e;exact .inr (.inr ⟨r,rfl⟩)
  ·rw [af z] at e;exact h.oth d o e
theorem fW.snoc {M0 M:Mh} {a c:ag} {bs:List ag} {rs:List (List Int)} {r:List Int} (h:fW M0 M a bs rs) (hc:M c=none):fW M0 (aq (aq M c (.lst (r.map .int))) a (.lst (bs.map .ptr++[.ptr c]))) a (bs++[c]) (rs++[r]) :=by
 have qm:a≠c:=fun e=>by have:=h.am;rw [e,hc] at this;cases this
 have c0:=gB h.kp hc
 have hj:=h.junk (r:=r) hc
 refine ⟨h.a0,by rw [updM_same,ut];rfl,by simp [h.len],fun j b s hb hs=>?_,fun b hb=>?_,.upd h.a0 hj.kp,fun d o e=>?_⟩
 ·by_cases hi:j<bs.length
  ·rw [ol hi] at hb
   rw [ol (by rw [<- h.len];exact hi)] at hs
   rw [af (h.b0 b (db hb)).2]
   exact hj.bm j b s hb hs
  ·have mB:=(bv.mp hb).1
   rw [v6,NL] at mB
   have e:j=bs.length :=by omega
   subst e
   rw [r9 (c8 _),Pl] at hb
   rw [h.len,r9 (c8 _),Pl] at hs
   cases hb;cases hs
   rw [af (xy qm),updM_same]
 ·rcases wT.mp hb with z|z
  ·exact h.b0 b z
  ·rw [mf.mp z];exact ⟨c0,xy qm⟩
 ·by_cases z:d=a
  ·exact .inr (.inl z)
  ·rw [af z] at e;exact hj.oth d o e
theorem wB {m j:Nat} (h:j<m):(bJ 0 m)[j]?=some (.int (j:Nat)) :=by
 unfold bJ
 rw [ca,B0 h]
 show some (Dv.int (0+(j:Int)))=_
 rw [DD]
def wF (net:List (List Int)) (n:Nat):Dv->Dv
 | .int i=>sL (gT net n i)
 |d=>d
def CI (net:List (List Int)) (n:Nat):List Dv:=(bJ 0 net.length).map (wF net n)
theorem CJ {net:List (List Int)} {n:Nat} {p:Int} (h:p∈aB net):bW (CI net n) p=some (sL (gT net n p)) :=by
 obtain ⟨h1,h2⟩:=cu.mp h
 obtain ⟨j,rfl⟩:=Fk h1
 refine bU ?_
 unfold CI
 rw [ca,wB (by omega)]
 rfl
theorem HE {net:List (List Int)} {n:Nat} {p:Int}:(((gT net n p).1.map AM).map oR).filter (fun d=>match d with | .int g=>decide (p∈(gT net n g).1)|_=>false)=(eY net n p).map Dv.int :=by
 unfold eY
 rw [zd,QP]
 rfl
theorem sZ {S S':cp} {cx:fm} {k:Nat} {f:ag} {fd:l3} {ps:List br} (G:FnOk P w K mg base cx k f fd ps (bg P w K tb S')) (h:∀ds M Q E,S ds M Q E->S' ds M Q E):FnOk P w K mg base cx k f fd ps (bg P w K tb S):=
 G.imp fun vs H Q E ⟨β,ds,M,Q',E',e1,e2,e3,e4,m,r,hS,q,qe⟩=>⟨β,ds,M,Q',E',e1,e2,e3,e4,m,r,h _ _ _ _ hS,q,qe⟩
def Bf:cp:=fun ds M Q _=>∃net n,ds=[eN net]/\bh net n/\((∀a bs M',fW M M' a bs (bL net n)->Q (.ptr a) M')\/Q (.lst ((bL net n).map de)) M)
theorem Bg {f f1 f2:ag} {fd cM fd2:l3} (D:Df K mg "parts" gf ["net"] f fd)
  (eA:Df K mg "need_net" hZ ["thing"] f1 cM) (ka:FnOk P w K mg base (ft P w) 7 f1 cM ["thing"] (bg P w K tb (CF C_NoNet)))
  (cH:Df K mg "first_words" ay ["net","start"] f2 fd2) (gU:FnOk P w K mg base bq 8 f2 fd2 ["net","start"] (bg P w K tb y8)) (bl:Bl mg) :
  FnOk P w K mg base (ft P w) 9 f fd ["net"] (bg P w K tb Bf) :=by
 refine vT D iV (fun ds M Q E hS=>by obtain ⟨net,n,e,_⟩:=hS;rw [e];rfl) fun A outer s E Γ ds Q' E' hP hw hK ht hE hr hS=>?_
 obtain ⟨net,n,e,O,q⟩:=hS
 refine ⟨_,(ak (fu (aQ ka (hr.mono (by decide)) rfl eA.mg eA.fn.kp eA.bd BV hP hw hK ht hE (aa (qv 0) ah)))
  (ak (aN (i:=1) iV.nd rfl (Do rfl) (gv (N':=["place","net"]) (tn:=1) (idx:=[0]) rfl (show aI ["net","reached","told","place","part"] (aj gf) _ ["place","net"] 1 [0] from by decide +kernel) (aV rfl bl.range_ (aa (aD (cq (K:=K) rfl hK) rfl bl.len_ mv (aa (qv 0) ah)) ah)) (fun _ _ _ _ _=>(aP (i:=0) (show EN [("place" : br),("net" : br)] from by decide +kernel) rfl (nl rfl))) (fun _ _ _ _ _=>eh) (fun _ _ _ _ _=>(aQ gU (hr.mono (by decide)) rfl cH.mg cH.fn.kp cH.bd bQ hP hw hK ht XR.none (aa (qv 1) (aa (qv 0) ah))))))
  (ak (aN (i:=2) iV.nd rfl (nl rfl) (ig ah))
  (ak (PS.iX (cY sw rfl (aV rfl bl.range_ (aa (aD (cq (K:=K) rfl hK) rfl bl.len_ mv (aa (qv 0) ah)) ah)) (fun jg eP ew eK et=>by have hP:=hP.trans eP.symm;have hw:=hw.trans ew.symm;have hK:=hK.trans eK.symm;have ht:=ht.trans et.symm;exact ⟨(aP (i:=3) iV.nd rfl (Do rfl)),(ak (jY (i:=4) iV.nd rfl rfl (N':=["goal","place","reached"]) (tn:=1) (idx:=[3,1]) rfl (show aI ["net","reached","told","place","part"] (aj gf) _ ["goal","place","reached"] 1 [3,1] from by decide +kernel) (DN (aS (bE (K:=K) rfl) (qv 1) (qv 3) (fun _ _=>rfl))) (fun _ _ _ _ _=>(aP (i:=0) (show EN [("goal" : br),("place" : br),("reached" : br)] from by decide +kernel) rfl (nl rfl))) (fun _ _ _ _ _=>(oI (bV (Jk hr.units) (qv 1) (aS (bE (K:=K) rfl) (qv 2) (qv 0) (fun _ _=>rfl)) (by rfl)))) (fun _ _ _ _ _=>(qv 0)))
  (au (dz (bV kZ (qv 3) (aD (Hi (K:=K) rfl rfl) rfl bl.min_ nL (aa (qv 4) ah)) (b8 _))
   (au (fu (jW (K:=K) rfl wn DO EM iI (qv 2) (aa (aD (y1 hP hw (K:=K) rfl rfl) rfl bl.sorted_ xZ (aa (qv 4) ah)) ah))))
   qss_nil)))⟩)))
  (au (bu (qv 2))))))),?_⟩
 subst e
 have h9:=O.nine
 have big:(1000:Nat)<sizeLine :=by decide
 refine ⟨_,rfl,DY net,fun _=>?_,fun h=>by rw [DX O] at h;cases h⟩
 simp! only []
 refine ⟨by omega,by omega,by omega,jI (wF net n) (fun τ M=>(∃x,τ=[x,some (eN net)])/\M=Γ.M0) ⟨⟨_,rfl⟩,rfl⟩ (fun d hd τ M hI R hR=>?_) (fun τ M hI=>?_)⟩
 ·obtain ⟨⟨x,rfl⟩,rfl⟩:=hI
  obtain ⟨j,hj⟩:=l7.mp hd
  obtain ⟨rfl,zx⟩:=aZ hj
  simp! only []
  rw [DD] at hR
  exact ⟨net,n,_,rfl,O,jJ zx,hR _ _ ⟨⟨_,rfl⟩,rfl⟩⟩
 obtain ⟨⟨x,rfl⟩,rfl⟩:=hI
 refine ⟨sK _,fun a ha=>⟨by omega,by omega,?_⟩⟩
 refine bK (fun i ρ M=>∃bs,(∃x3 x4,ρ=[some (eN net),some (.lst (CI net n)),some (.ptr a),x3,x4])/\fW Γ.M0 M a bs ((gM net n i).map (dN net n))/\i<=net.length) ⟨[],⟨_,_,rfl⟩,⟨ha,updM_same,rfl,(fun j b r h=>nomatch h),(fun b h=>nomatch h),.upd ha .refl,fun c o e=>?_⟩,sK _⟩ (fun i d ρ M N hd hJ hN=>?_) (fun ρ M hJ=>?_)
 ·by_cases z:c=a
  ·exact .inr (.inl z)
  ·rw [af z] at e;exact .inl e
 ·obtain ⟨bs,⟨x3,x4,rfl⟩,gO,hi⟩:=hJ
  obtain ⟨rfl,fN⟩:=aZ hd
  have hp:=jJ (net:=net) fN
  simp! only [CJ hp]
  show _<sizeLine/\_
  have ok:=o3 O hp
  have hle:=ok.le
  have cK:=places_len (net:=net)
  refine ⟨by rw [cr];omega,?_⟩
  refine jZ (fun d=>match d with | .int g=>decide ((i:Int)∈(gT net n g).1)|_=>false) (fun d hd R hR=>?_) ?_
  ·rw [zd] at hd
   obtain ⟨g,hg,rfl⟩:=ma.mp hd
   have KO:=ou O hp ((lQ O hp).mp hg)
   have Oi:=o3 O KO
   show zTest (zOp (zDIn false) (zVar 1) (zOp zIx (zVar 2) (zVar 0))) [some (.int g),some (Dv.int i),some (Dv.lst (CI net n))] M R
   simp! only [CJ KO]
   show R (look ((gT net n g).1.map AM) ((gT net n g).2.map Dv.str) (AM (i:Int))).isSome M
   rw [mS oU,NH,qi Oi.len]
   exact hR
  ·rw [HE,Qy,k6]
   have O2:=Bb (n:=n) O hp
   have Jw:(i:Int)∈eY net n i:=(iU O hp).mpr (j8 hp)
   have O3:bs.length<=9 :=by rw [gO.len,cr];exact r6 j9 h9
   refine ⟨Px Jw,(fun t e=>nomatch e),fun m hm Mb=>?_⟩
   have FJ:=Bc O hp hm Mb
   refine dQ (fun h=>?_) (fun h=>?_)
   ·have h:=of_decide_eq_true h
    rw [gO.am]
    refine ⟨trivial,by show (eY net n (i:Int)).length<64;omega,fun c hc=>?_⟩
    show match aq M c (.lst ((sortI (eY net n (i:Int))).map .int)) a with|some (Mo.lst xs)=>_|_=>False
    rw [zq O hp]
    have qm:a≠c:=fun e=>by have:=gO.am;rw [e,hc] at this;cases this
    rw [af qm,gO.am]
    refine ⟨by rw [cr];omega,hN _ _ ⟨bs++[c],⟨_,_,rfl⟩,?_,fN⟩⟩
    rw [gA fN,if_pos (FJ.mp h),ut]
    exact gO.snoc hc
   ·have h:=of_decide_eq_false h
    refine hN _ _ ⟨bs,⟨_,_,rfl⟩,?_,fN⟩
    rw [gA fN,if_neg fun z=>h (FJ.mpr z)]
    exact gO
 ·obtain ⟨bs,⟨x3,x4,rfl⟩,gO,hi⟩:=hJ
  rw [rangeD_len] at gO
  simp! only []
  rcases q with q|q
  ·exact .inl (q a bs M gO)
  ·refine .inr ⟨gO.kp,_,.ptr (ds':=(bL net n).map de) gO.a0 gO.am (by rw [cr,cr];exact gO.len) fun j d d' e1 e2=>?_,q⟩
   rw [ca] at e1 e2
   obtain ⟨b,hb,rfl⟩:=kt.mp e1
   obtain ⟨r,hr,rfl⟩:=kt.mp e2
   refine .ptr (gO.b0 b (db hb)).1 (gO.bm j b r hb hr) rfl fun k d d' e1 e2=>?_
   rw [e1] at e2;cases e2
   obtain ⟨x,_,rfl⟩:=ma.mp (db e1)
   exact .pin (.int x)
def va:cp:=fun ds M Q _=>∃net n,ds=[eN net]/\bh net n/\∀a bs M',fW M M' a bs (bL net n)->Q (.ptr a) M'
def o5:cp:=fun ds M Q _=>∃net n,ds=[eN net]/\bh net n/\Q (.lst ((bL net n).map de)) M
theorem wC {net:List (List Int)} {n:Nat}:(bL net n).length<=net.length :=by unfold bL;rw [cr];exact j9
def zy:cp:=fun ds M Q _=>∃net n,ds=[eN net]/\bh net n/\Q (.bl (decide ((bL net n).length=1))) M
theorem lZ {f f1:ag} {fd cM:l3} (D:Df K mg "hangs_together" dA ["net"] f fd)
  (cF:Df K mg "parts" gf ["net"] f1 cM) (jK:FnOk P w K mg base (ft P w) 9 f1 cM ["net"] (bg P w K tb o5)) (bl:Bl mg) :
  FnOk P w K mg base (ft P w) 10 f fd ["net"] (bg P w K tb zy) :=by
 refine vT D lY (fun ds M Q E hS=>by obtain ⟨net,n,e,_⟩:=hS;rw [e];rfl) fun A outer s E Γ ds Q' E' hP hw hK ht hE hr hS=>?_
 obtain ⟨net,n,e,O,q⟩:=hS
 refine ⟨_,(au (bu (jE kZ (aD (cq (K:=K) rfl hK) rfl bl.len_ mv (aa (aQ jK (hr.mono (by decide)) rfl cF.mg cF.fn.kp cF.bd BV hP hw hK ht hE (aa (qv 0) ah)) ah)) aw (b8 _)))),?_⟩
 subst e
 have h9:=O.nine
 have hl:=wC (net:=net) (n:=n)
 simp! only []
 refine ⟨net,n,rfl,O,?_⟩
 simp! only []
 rw [show decide (((bL net n).length:Int)=1)=decide ((bL net n).length=1) from decide_eq_decide.mpr (by omega)]
 exact .inl q
end
section
variable {P:f8} {w:ii} {K:bn} {mg:br->Option ap} {base:gl} {tb:cC}
theorem dG:aT ["_law_net_here","_law_reach_here","_law_middle","_law_one","_law_other"] ["_law_net_here"] (aj dY):=⟨rfl,rfl,rfl,by decide +kernel,rfl,by decide +kernel,by decide +kernel⟩
def vb (r:List Bool):Dv:=.lst (r.map .bl)
structure RowsB (M0 M:Mh) (bs:List ag) (rs:List (List Bool)):Prop where
 len:bs.length=rs.length
 bm:∀(j:Nat) (b:ag) (r:List Bool),bs[j]?=some b->rs[j]?=some r->M b=some (.lst (r.map .bl))
 b0:∀b∈bs,M0 b=none
 nd:bs.Nodup
 kp:Keeps M0 M
structure ie (M0 M:Mh) (a:ag) (bs:List ag) (rs:List (List Bool)):Prop extends RowsB M0 M bs rs where
 a0:M0 a=none
 am:M a=some (.lst (bs.map .ptr))
 ab:a ∉ bs
theorem RowsB.has {M0 M:Mh} {bs:List ag} {rs:List (List Bool)} (h:RowsB M0 M bs rs) {b:ag} (hb:b∈bs):M b≠none:=fun e=>by
 obtain ⟨j,hj⟩:=l7.mp hb
 have hl:=(bv.mp hj).1
 have:=h.bm j b _ hj (al (show j<rs.length by rw [<- h.len];exact hl))
 rw [e] at this
 cases this
theorem RowsB.snoc {M0 M:Mh} {c:ag} {bs:List ag} {rs:List (List Bool)} {r:List Bool} (h:RowsB M0 M bs rs) (hc:M c=none):RowsB M0 (aq M c (.lst (r.map .bl))) (bs++[c]) (rs++[r]) :=by
 have c0:=gB h.kp hc
 have cn:c ∉ bs:=fun z=>h.has z hc
 refine ⟨by simp [h.len],fun j b s hb hs=>?_,fun b hb=>?_,?_,.upd c0 h.kp⟩
 ·by_cases hi:j<bs.length
  ·rw [ol hi] at hb
   rw [ol (by rw [<- h.len];exact hi)] at hs
   rw [af fun e=>cn (by rw [<- e];exact db hb)]
   exact h.bm j b s hb hs
  ·have mB:=(bv.mp hb).1
   rw [v6,NL] at mB
   have e:j=bs.length :=by omega
   subst e
   rw [r9 (c8 _),Pl] at hb
   rw [h.len,r9 (c8 _),Pl] at hs
   cases hb;cases hs
   rw [updM_same]
 ·rcases wT.mp hb with z|z
  ·exact h.b0 b z
  ·rw [mf.mp z];exact c0
 ·rw [Qm]
  exact ⟨h.nd,by simp,fun x hx y hy e=>by
   have e2:=mf.mp hy
   subst e2;subst e
   exact cn hx⟩
theorem RowsB.top {M0 M:Mh} {a:ag} {bs:List ag} {rs:List (List Bool)} (h:RowsB M0 M bs rs) (ha:M a=none):ie M0 (aq M a (.lst (bs.map .ptr))) a bs rs :=by
 have an:a ∉ bs:=fun z=>h.has z ha
 have a0:=gB h.kp ha
 exact ⟨⟨h.len,fun j b r hb hr=>by rw [af fun e=>an (by rw [<- e];exact db hb)];exact h.bm j b r hb hr,h.b0,h.nd,.upd a0 h.kp⟩,a0,updM_same,an⟩
theorem ie.cell {M0 M:Mh} {a:ag} {bs:List ag} {rs:List (List Bool)} {m:Nat} (h:ie M0 M a bs rs) (o:gN m rs) {i:Nat} (hi:i<m):∃b r,bs[i]?=some b/\rs[i]?=some r/\r.length=m/\M b=some (.lst (r.map .bl))/\bW (bs.map Dv.ptr) (i:Nat)=some (.ptr b)/\∀j,j<m->bW (r.map Dv.bl) (j:Nat)=some (.bl (aO rs i j)) :=by
 obtain ⟨r,h1,h2,h3⟩:=o.get hi
 have hb:=al (show i<bs.length by rw [h.len,o.len];exact hi)
 refine ⟨_,r,hb,h1,h2,h.bm i _ r hb h1,bU (by rw [ca,hb];rfl),fun j hj=>bU ?_⟩
 unfold aO
 rw [h3,ca,al (show j<r.length by omega),getD_at (by omega)]
 rfl
theorem ie.put {M0 M:Mh} {a b:ag} {bs:List ag} {rs:List (List Bool)} {i j:Nat} {r:List Bool} {v:Bool} (h:ie M0 M a bs rs) (hb:bs[i]?=some b) (hr:rs[i]?=some r):ie M0 (aq M b (.lst ((r.set j v).map .bl))) a bs (setB rs i j v) :=by
 have hm:=db hb
 have rT:a≠b:=fun e=>h.ab (e▸hm)
 have er:rs.getD i []=r :=by rw [cb,hr];rfl
 refine ⟨⟨by unfold setB;rw [Da];exact h.len,fun k c s hc hs=>?_,h.b0,h.nd,.upd (h.b0 b hm) h.kp⟩,h.a0,by rw [af rT];exact h.am,h.ab⟩
 unfold setB at hs
 rw [er,BS] at hs
 by_cases hk:i=k
 ·subst hk
  rw [hb] at hc;cases hc
  rw [if_pos rfl] at hs
  split at hs
  ·cases hs;rw [updM_same]
  ·cases hs
 ·rw [if_neg hk] at hs
  have ne:c≠b:=fun e=>by
   subst e
   exact hk ((List.getElem?_inj (bv.mp hb).1 h.nd).mp (hb.trans hc.symm))
  rw [af ne]
  exact h.bm k c s hc hs
def wD (net:List (List Int)) (i:Nat):Dv->Dv
 | .int j=>.bl (decide ((i:Int)=j) || decide (j∈net.getD i []))
 |d=>d
theorem D1 {net:List (List Int)} {i:Nat} (hi:i<net.length):∃r,(startB net)[i]?=some r/\(bJ 0 net.length).map (wD net i)=r.map Dv.bl :=by
 refine ⟨(io net.length).map fun j:Nat=>decide (i=j) || decide ((j:Int)∈net.getD i []),?_,?_⟩
 ·unfold startB
  rw [ca,B0 hi]
  rfl
 ·unfold bJ
  rw [zd,zd]
  refine P1 fun j _=>?_
  show Dv.bl (decide ((i:Int)=0+(j:Int)) || decide (0+(j:Int)∈net.getD i []))=_
  rw [DD,show decide ((i:Int)=(j:Int))=decide (i=j) from decide_eq_decide.mpr (by omega)]
  rfl
def vc:cp:=fun ds M Q _=>∃net n,ds=[eN net]/\bh net n/\Q (.lst ((bS net).map vb)) M
theorem tj {f:ag} {fd:l3} (D:Df K mg "_law_reach" dY ["_law_net_here"] f fd) (bl:Bl mg) :
  FnOk P w K mg base bq 1 f fd ["_law_net_here"] (bg P w K tb vc) :=by
 refine fM D dG (fun ds M Q E hS=>by obtain ⟨net,n,e,_⟩:=hS;rw [e];rfl) fun A outer s E Γ ds Q' E' hP hw hK ht hr hS=>?_
 obtain ⟨net,n,e,O,q⟩:=hS
 refine ⟨_,(ak (sJ (i:=1) dG.nd rfl rfl (N':=["_law_one","_law_net_here"]) (tn:=1) (idx:=[0]) rfl (show cS ["_law_net_here","_law_reach_here","_law_middle","_law_one","_law_other"] (aj dY) _ ["_law_one","_law_net_here"] 1 [0] from by decide +kernel) (aV rfl bl.range_ (aa (aD (cq (K:=K) rfl hK) rfl bl.len_ mv (aa (qv 0) ah)) ah)) (fun _ _ _ _ _=>(aP (i:=0) (show EN [("_law_one" : br),("_law_net_here" : br)] from by decide +kernel) rfl (Do rfl))) (fun _ _ _ _ _=>eh) (fun _ _ _ _ _=>(sm (N':=["_law_other","_law_one","_law_net_here"]) (tn:=1) (idx:=[0,1]) rfl (aI.rel (show aI ["_law_one","_law_net_here"] _ _ ["_law_other","_law_one","_law_net_here"] 1 [0,1] from by decide +kernel)) (aV rfl bl.range_ (aa (aD (cq (K:=K) rfl hK) rfl bl.len_ mv (aa (qv 1) ah)) ah)) (fun _ _ _ _ _=>(aP (i:=0) (show EN [("_law_other" : br),("_law_one" : br),("_law_net_here" : br)] from by decide +kernel) rfl (nl rfl))) (fun _ _ _ _ _=>eh) (fun _ _ _ _ _=>(B4 (jE kZ (qv 1) (qv 0) (b8 _)) (kU (jE (AH (K:=K) rfl) (qv 0) (aS (bE (K:=K) rfl) (qv 2) (qv 1) (fun _ _=>rfl)) (by rfl))))))))
  (ak (cY sw rfl (aV rfl bl.range_ (aa (aD (cq (K:=K) rfl hK) rfl bl.len_ mv (aa (qv 0) ah)) ah)) (fun jg eP ew eK et=>by have hP:=hP.trans eP.symm;have hw:=hw.trans ew.symm;have hK:=hK.trans eK.symm;have ht:=ht.trans et.symm;exact ⟨(aP (i:=2) dG.nd rfl (nl rfl)),(au (cY sw rfl (aV rfl bl.range_ (aa (aD (cq (K:=K) rfl hK) rfl bl.len_ mv (aa (qv 0) ah)) ah)) (fun jg eP ew eK et=>by have hP:=hP.trans eP.symm;have hw:=hw.trans ew.symm;have hK:=hK.trans eK.symm;have ht:=ht.trans et.symm;exact ⟨(aP (i:=3) dG.nd rfl (nl rfl)),(au (cY sw rfl (aV rfl bl.range_ (aa (aD (cq (K:=K) rfl hK) rfl bl.len_ mv (aa (qv 0) ah)) ah)) (fun jg eP ew eK et=>by have hP:=hP.trans eP.symm;have hw:=hw.trans ew.symm;have hK:=hK.trans eK.symm;have ht:=ht.trans et.symm;exact ⟨(aP (i:=4) dG.nd rfl (nl rfl)),(au (jF (B4 (aS (bE (K:=K) rfl) (aS (bE (K:=K) rfl) (qv 1) (qv 3) (fun _ _=>rfl)) (qv 4) (fun _ _=>rfl)) (kU (sd (aS (bE (K:=K) rfl) (aS (bE (K:=K) rfl) (qv 1) (qv 3) (fun _ _=>rfl)) (qv 2) (fun _ _=>rfl)) (kU (aS (bE (K:=K) rfl) (aS (bE (K:=K) rfl) (qv 1) (qv 2) (fun _ _=>rfl)) (qv 4) (fun _ _=>rfl)))))) (jH (aS (bE (K:=K) rfl) (qv 1) (qv 3) (fun _ _=>rfl)) (qv 4))))⟩)))⟩)))⟩))
  (au (bu (qv 1))))),?_⟩
 subst e
 have h9:=O.nine
 have big:(1000:Nat)<sizeLine :=by decide
 simp! only []
 refine ⟨by omega,by omega,by omega,iO (acc:=[]) (fun acc τ M=>∃bs,acc=bs.map Dv.ptr/\RowsB Γ.M0 M bs ((startB net).take acc.length)/\(∃x,τ=[x,some (eN net)])) ⟨[],rfl,⟨rfl,(fun j b r h=>nomatch h),(fun b h=>nomatch h),.nil,.refl⟩,_,rfl⟩ (fun i d acc τ M hd hl hJ R hR=>?_) (fun ys τ M hl hJ=>?_)⟩
 ·obtain ⟨bs,rfl,hB,x,rfl⟩:=hJ
  obtain ⟨rfl,hi⟩:=aZ hd
  have hl:bs.length=i :=by simpa using hl
  obtain ⟨r,Oj,KP⟩:=D1 hi
  simp! only []
  refine ⟨by omega,by omega,by omega,jI (wD net i) (fun τ M2=>(∃x,τ=[x,some (.int (i:Nat)),some (eN net)])/\M2=M) ⟨⟨_,rfl⟩,rfl⟩ (fun d hd τ M2 hI R2 zz=>?_) (fun τ M2 hI=>?_)⟩
  ·obtain ⟨⟨x,rfl⟩,rfl⟩:=hI
   obtain ⟨j,hj⟩:=l7.mp hd
   obtain ⟨rfl,zx⟩:=aZ hj
   have hx:=sO (net:=net) (jJ hi)
   simp! only [hx]
   rw [DD] at zz
   refine dQ (fun h=>?_) (fun h=>?_)
   ·have:=zz [some (.int (j:Nat)),some (.int (i:Nat)),some (eN net)] _ ⟨⟨_,rfl⟩,rfl⟩
    rw [show wD net i (.int (j:Nat))=.bl true by show Dv.bl (decide ((i:Int)=j) || _)=_;rw [h];rfl] at this
    exact this
   ·have:=zz [some (.int (j:Nat)),some (.int (i:Nat)),some (eN net)] _ ⟨⟨_,rfl⟩,rfl⟩
    rw [show wD net i (.int (j:Nat))=.bl (decide ((j:Int)∈net.getD i [])) by show Dv.bl (decide ((i:Int)=j) || _)=_;rw [h];rfl] at this
    rw [Qy,k6]
    exact this
  ·obtain ⟨⟨x,rfl⟩,rfl⟩:=hI
   rw [KP]
   intro c hc
   refine hR _ _ _ ⟨bs++[c],by rw [ut];rfl,?_,_,rfl⟩
   have et:(startB net).take (bs.map Dv.ptr++[Dv.ptr c]).length=(startB net).take (bs.map Dv.ptr).length++[r] :=by
    rw [v6,cr,NL,hl,List.take_succ,Oj]
    rfl
   rw [et]
   exact hB.snoc hc
 ·obtain ⟨bs,rfl,hB,x,rfl⟩:=hJ
  have hm:bs.length=net.length :=by rw [rangeD_len,cr] at hl;exact hl
  have et:(startB net).take (bs.map Dv.ptr).length=startB net :=by
   rw [cr,hm,<- (m4 net).len,List.take_length]
  rw [Db,et] at hB
  intro a ha
  have gO:=hB.top ha
  have o0:=m4 net
  refine ⟨by omega,by omega,?_⟩
  refine bK (fun k ρ M=>(∃x2 x3 x4,ρ=[some (eN net),some (.ptr a),x2,x3,x4])/\ie Γ.M0 M a bs ((io k).foldl (o4 net.length) (startB net))/\gN net.length ((io k).foldl (o4 net.length) (startB net))) ⟨⟨_,_,_,rfl⟩,gO,o0⟩ (fun k d ρ M N hd hJ hN=>?_) (fun ρ M hJ=>?_)
  ·obtain ⟨⟨x2,x3,x4,rfl⟩,hB,o⟩:=hJ
   obtain ⟨rfl,hk⟩:=aZ hd
   rw [fold_succ] at hN
   generalize (io k).foldl (o4 net.length) (startB net)=rk at hB o hN
   simp! only []
   refine ⟨by omega,by omega,?_⟩
   refine bK (fun i ρ M=>(∃x3 x4,ρ=[some (eN net),some (.ptr a),some (.int (k:Nat)),x3,x4])/\ie Γ.M0 M a bs ((io i).foldl (mJ net.length k) rk)/\gN net.length ((io i).foldl (mJ net.length k) rk)) ⟨⟨_,_,rfl⟩,hB,o⟩ (fun i d ρ M N2 hd hJ lh=>?_) (fun ρ M hJ=>?_)
   ·obtain ⟨⟨x3,x4,rfl⟩,hB,o⟩:=hJ
    obtain ⟨rfl,hi⟩:=aZ hd
    rw [fold_succ] at lh
    generalize (io i).foldl (mJ net.length k) rk=ri at hB o lh
    simp! only []
    refine ⟨by omega,by omega,?_⟩
    refine bK (fun j ρ M=>(∃x4,ρ=[some (eN net),some (.ptr a),some (.int (k:Nat)),some (.int (i:Nat)),x4])/\ie Γ.M0 M a bs ((io j).foldl (fV k i) ri)/\gN net.length ((io j).foldl (fV k i) ri)) ⟨⟨_,rfl⟩,hB,o⟩ (fun j d ρ M N3 hd hJ zf=>?_) (fun ρ M hJ=>?_)
    ·obtain ⟨⟨x4,rfl⟩,hB,o⟩:=hJ
     obtain ⟨rfl,hj⟩:=aZ hd
     rw [fold_succ] at zf
     generalize (io j).foldl (fV k i) ri=rj at hB o zf
     obtain ⟨b,r,hb,hr,KN,Cr,ab,ar⟩:=hB.cell o hi
     obtain ⟨b2,r2,Ku,KP,OB,Md,Ol,ar2⟩:=hB.cell o hk
     simp! only [hB.am,ab,Ol,Cr,Md,ar _ hj,ar _ hk,ar2 _ hj]
     have hx:fo r.length (j:Nat)=some j:=lO (by omega)
     have fin:∀v:Bool,v=(aO rj i j || (aO rj i k && aO rj k j))->N3 [some (eN net),some (.ptr a),some (.int (k:Nat)),some (.int (i:Nat)),some (.int (j:Nat))] (aq M b (.lst ((r.map Dv.bl).set j (.bl v)))):=fun v e=>by
      refine zf _ _ ⟨⟨_,rfl⟩,?_,o.set hi⟩
      rw [<- List.map_set,e]
      exact hB.put hb hr
     simp only [hx]
     refine dQ (fun h=>fin _ (by rw [h];rfl)) (fun h=>dQ (fun h2=>fin _ (by rw [h,h2];rfl)) (fun h2=>fin _ (by rw [h,h2];rfl)))
    ·obtain ⟨⟨x4,rfl⟩,hB,o⟩:=hJ
     rw [rangeD_len] at hB o
     exact lh _ _ ⟨⟨_,_,rfl⟩,hB,o⟩
   ·obtain ⟨⟨x3,x4,rfl⟩,hB,o⟩:=hJ
    rw [rangeD_len] at hB o
    exact hN _ _ ⟨⟨_,_,_,rfl⟩,hB,o⟩
  ·obtain ⟨⟨x2,x3,x4,rfl⟩,hB,o⟩:=hJ
   rw [rangeD_len] at hB o
   simp! only []
   refine .inr ⟨hB.kp,_,.ptr (ds':=(bS net).map vb) hB.a0 hB.am (by rw [cr,cr];exact hB.len) fun j d d' e1 e2=>?_,q⟩
   rw [ca] at e1 e2
   obtain ⟨b,hb,rfl⟩:=kt.mp e1
   obtain ⟨r,hr,rfl⟩:=kt.mp e2
   refine .ptr (hB.b0 b (db hb)) (hB.bm j b r hb hr) rfl fun k d d' e1 e2=>?_
   rw [e1] at e2;cases e2
   obtain ⟨x,_,rfl⟩:=ma.mp (db e1)
   exact .pin (.bl x)
end
section
variable {P:f8} {w:ii} {K:bn} {mg:br->Option ap} {base:gl} {tb:cC}
theorem dH:aT ["_law_net_here","_law_reach_here","_law_found","_law_place","_law_part"] ["_law_net_here"] (aj dZ):=⟨rfl,rfl,rfl,by decide +kernel,rfl,by decide +kernel,by decide +kernel⟩
def tm:cp:=fun ds M Q _=>∃net n,ds=[eN net]/\bh net n/\Q (.lst ((bL net n).map de)) M
theorem tp {net:List (List Int)} {n:Nat} (O:bh net n) {i:Nat} (hi:i<net.length):∃r:List Bool,bW ((bS net).map vb) (i:Nat)=some (vb r)/\∀j,j<net.length->bW (r.map Dv.bl) (j:Nat)=some (.bl (aO (bS net) i j)) :=by
 obtain ⟨r,h1,h2,h3⟩:=(sY O).1.get hi
 refine ⟨r,bU (by rw [ca,h1];rfl),fun j hj=>bU ?_⟩
 unfold aO
 rw [h3,ca,al (show j<r.length by omega),getD_at (by omega)]
 rfl
theorem HF {net:List (List Int)} {n:Nat} (O:bh net n) {i:Nat} (hi:i<net.length):(bJ 0 net.length).filter (fun d=>match d with | .int j=>aO (bS net) i j.toNat && aO (bS net) j.toNat i|_=>false)=(dN net n (i:Int)).map Dv.int :=by
 rw [wA O hi]
 unfold bJ
 rw [QP,zd]
 have e:((fun d:Dv=>match d with | .int j=>aO (bS net) i j.toNat && aO (bS net) j.toNat i|_=>false) ∘ fun k:Nat=>Dv.int (0+(k:Int)))=fun j=>aO (bS net) i j && aO (bS net) j i :=by
  funext j
  show (aO (bS net) i (0+(j:Int)).toNat && aO (bS net) (0+(j:Int)).toNat i)=_
  rw [DD,u8]
 rw [e]
 refine P1 fun j _=>?_
 show Dv.int (0+(j:Int))=_
 rw [DD]
 rfl
theorem tq {f f1:ag} {fd cM:l3} (D:Df K mg "_law_parts" dZ ["_law_net_here"] f fd)
  (dj:Df K mg "_law_reach" dY ["_law_net_here"] f1 cM) (tu:FnOk P w K mg base bq 1 f1 cM ["_law_net_here"] (bg P w K tb vc)) (bl:Bl mg) :
  FnOk P w K mg base bq 2 f fd ["_law_net_here"] (bg P w K tb tm) :=by
 refine fM D dH (fun ds M Q E hS=>by obtain ⟨net,n,e,_⟩:=hS;rw [e];rfl) fun A outer s E Γ ds Q' E' hP hw hK ht hr hS=>?_
 obtain ⟨net,n,e,O,q⟩:=hS
 refine ⟨_,(ak (aN (i:=1) dH.nd rfl (Do rfl) (aQ tu (hr.mono (by decide)) rfl dj.mg dj.fn.kp dj.bd bQ hP hw hK ht XR.none (aa (qv 0) ah)))
  (ak (aN (i:=2) dH.nd rfl (nl rfl) (ig ah))
  (ak (cY sw rfl (aV rfl bl.range_ (aa (aD (cq (K:=K) rfl hK) rfl bl.len_ mv (aa (qv 0) ah)) ah)) (fun jg eP ew eK et=>by have hP:=hP.trans eP.symm;have hw:=hw.trans ew.symm;have hK:=hK.trans eK.symm;have ht:=ht.trans et.symm;exact ⟨(aP (i:=3) dH.nd rfl (Do rfl)),(ak (jY (i:=4) dH.nd rfl rfl (N':=["_law_other","_law_place","_law_reach_here"]) (tn:=1) (idx:=[3,1]) rfl (show aI ["_law_net_here","_law_reach_here","_law_found","_law_place","_law_part"] (aj dZ) _ ["_law_other","_law_place","_law_reach_here"] 1 [3,1] from by decide +kernel) (aV rfl bl.range_ (aa (aD (cq (K:=K) rfl hK) rfl bl.len_ mv (aa (qv 0) ah)) ah)) (fun _ _ _ _ _=>(aP (i:=0) (show EN [("_law_other" : br),("_law_place" : br),("_law_reach_here" : br)] from by decide +kernel) rfl (nl rfl))) (fun _ _ _ _ _=>(oI (QW.pt (yk (fH (aS (bE (K:=K) rfl) (aS (bE (K:=K) rfl) (qv 2) (qv 1) (fun _ _=>rfl)) (qv 0) (fun _ _=>rfl))) (uJ (fH (aS (bE (K:=K) rfl) (aS (bE (K:=K) rfl) (qv 2) (qv 0) (fun _ _=>rfl)) (qv 1) (fun _ _=>rfl)))))))) (fun _ _ _ _ _=>(qv 0)))
  (au (dz (bV kZ (aS (bE (K:=K) rfl) (qv 4) aw (fun _ _=>rfl)) (qv 3) (b8 _))
   (au (fu (jW (K:=K) rfl wn DO EM iI (qv 2) (aa (qv 4) ah))))
   qss_nil)))⟩))
  (au (bu (qv 2)))))),?_⟩
 subst e
 have h9:=O.nine
 have big:(1000:Nat)<sizeLine :=by decide
 simp! only []
 refine ⟨net,n,rfl,O,?_⟩
 simp! only []
 refine ⟨sK _,fun a ha=>⟨by omega,by omega,?_⟩⟩
 refine bK (fun i ρ M=>(∃x3 x4,ρ=[some (eN net),some (.lst ((bS net).map vb)),some (.ptr a),x3,x4])/\M=aq Γ.M0 a (.lst (((gM net n i).map (dN net n)).map de))/\i<=net.length) ⟨⟨_,_,rfl⟩,rfl,sK _⟩ (fun i d ρ M N hd hJ hN=>?_) (fun ρ M hJ=>?_)
 ·obtain ⟨⟨x3,x4,rfl⟩,rfl,hi⟩:=hJ
  obtain ⟨rfl,fN⟩:=aZ hd
  obtain ⟨r,ar,ac⟩:=tp O fN
  simp! only []
  refine ⟨by omega,by omega,by omega,jZ (fun d=>match d with | .int j=>aO (bS net) i j.toNat && aO (bS net) j.toNat i|_=>false) (fun d hd R hR=>?_) ?_⟩
  ·obtain ⟨j,hj⟩:=l7.mp hd
   obtain ⟨rfl,zx⟩:=aZ hj
   obtain ⟨r2,ar2,Om⟩:=tp O zx
   simp! only [ar,vb,ac _ zx,ar2,Om _ fN] at hR ⊢
   refine dQ (fun h=>?_) (fun h=>?_)
   ·rw [h] at hR;exact hR
   ·rw [h] at hR;exact hR
  ·rw [HF O fN]
   obtain ⟨v,t,ec,hv⟩:=cls_cons (n:=n) (jJ fN)
   have h0:bW ((dN net n (i:Int)).map Dv.int) 0=some (.int v) :=by rw [ec];exact atI_zero
   have hl:=j9 (net:=net) (n:=n) (i:=i)
   simp! only [h0]
   refine dQ (fun h=>?_) (fun h=>?_)
   ·have h:=of_decide_eq_true h
    refine ⟨by omega,hN _ _ ⟨⟨_,_,rfl⟩,?_,fN⟩⟩
    rw [gA fN,if_pos (hv.mp h),ut,ut]
    rfl
   ·have h:=of_decide_eq_false h
    refine hN _ _ ⟨⟨_,_,rfl⟩,?_,fN⟩
    rw [gA fN,if_neg fun z=>h (hv.mpr z)]
 ·obtain ⟨⟨x3,x4,rfl⟩,rfl,hi⟩:=hJ
  rw [rangeD_len]
  simp! only []
  refine pY (.upd ha .refl) ha updM_same (fun d hd=>?_) q
  obtain ⟨r,_,rfl⟩:=ma.mp hd
  exact .lst fun d hd=>by obtain ⟨x,_,rfl⟩:=ma.mp hd;exact .int x
end
section
variable {P:f8} {w:ii} {K:bn} {mg:br->Option ap} {base:gl} {tb:cC}
theorem gZ:aT ["_law_net_here","_law_last"] ["_law_net_here"] (aj cU):=⟨rfl,rfl,rfl,by decide +kernel,rfl,by decide +kernel,by decide +kernel⟩
def jh (net:List (List Int)):List (List Int):=net.reverse.map fun r=>r.map fun p=>((net.length:Int) - 1) - p
def Bh (m:Int):Dv->Dv
 | .int p=>.int (m - p)
 |d=>d
def HG (m:Int):Dv->Dv
 | .tup ds=>.tup (ds.map (Bh m))
 |d=>d
theorem HH (net:List (List Int)):(net.map eI).reverse.map (HG ((net.length:Int) - 1))=(jh net).map eI :=by
 unfold jh
 rw [<- List.map_reverse,zd,zd]
 refine P1 fun r _=>?_
 show Dv.tup ((r.map Dv.int).map (Bh _))=Dv.tup ((r.map _).map Dv.int)
 rw [zd,zd]
 rfl
theorem D2 {net:List (List Int)} {n:Nat} (O:bh net n):bh (jh net) n :=by
 have hl:(jh net).length=net.length :=by simp [jh]
 refine ⟨by rw [hl];exact O.one,by rw [hl];exact O.nine,O.wid,fun r hr=>?_⟩
 unfold jh at hr
 obtain ⟨r0,h0,rfl⟩:=ma.mp hr
 obtain ⟨h1,h2⟩:=O.row r0 (QC.mp h0)
 refine ⟨by rw [cr];exact h1,fun x hx=>?_⟩
 obtain ⟨p,hp,rfl⟩:=ma.mp hx
 have:=h2 p hp
 rw [hl]
 omega
def zA:cp:=fun ds M Q _=>∃net n,ds=[eN net]/\bh net n/\Q (eN (jh net)) M
theorem m5 {f:ag} {fd:l3} (D:Df K mg "_law_backwards" cU ["_law_net_here"] f fd) (bl:Bl mg) :
  FnOk P w K mg base bq 1 f fd ["_law_net_here"] (bg P w K tb zA) :=by
 refine fM D gZ (fun ds M Q E hS=>by obtain ⟨net,n,e,_⟩:=hS;rw [e];rfl) fun A outer s E Γ ds Q' E' hP hw hK ht hr hS=>?_
 obtain ⟨net,n,e,O,q⟩:=hS
 refine ⟨_,(ak (aN (i:=1) gZ.nd rfl (Do rfl) (aX qN (aD (cq (K:=K) rfl hK) rfl bl.len_ mv (aa (qv 0) ah)) aw))
  (au (bu (jb (lF (K:=K) rfl) rfl bl.tuple_ fZ (aa (gv (N':=["_law_row","_law_last"]) (tn:=1) (idx:=[1]) rfl (show aI ["_law_net_here","_law_last"] (aj cU) _ ["_law_row","_law_last"] 1 [1] from by decide +kernel) (kW (K:=K) rfl (DU (K:=K) rfl (qv 0) (GJ aw))) (fun _ _ _ _ _=>(aP (i:=0) (show EN [("_law_row" : br),("_law_last" : br)] from by decide +kernel) rfl (nl rfl))) (fun _ _ _ _ _=>eh) (fun _ _ _ _ _=>(jb (lF (K:=K) rfl) rfl bl.tuple_ fZ (aa (gv (N':=["_law_place","_law_last"]) (tn:=1) (idx:=[1]) rfl (aI.rel (show aI ["_law_row","_law_last"] _ _ ["_law_place","_law_last"] 1 [1] from by decide +kernel)) (kW (K:=K) rfl (qv 0)) (fun _ _ _ _ _=>(aP (i:=0) (show EN [("_law_place" : br),("_law_last" : br)] from by decide +kernel) rfl (nl rfl))) (fun _ _ _ _ _=>eh) (fun _ _ _ _ _=>(aX qN (qv 1) (qv 0)))) ah)))) ah))))),?_⟩
 subst e
 have h9:=O.nine
 have big:(1000:Nat)<sizeLine :=by decide
 simp! only []
 refine ⟨by rw [OR,cr];omega,jI (HG ((net.length:Int) - 1)) (fun τ M=>(∃x,τ=[x,some (.int ((net.length:Int) - 1))])/\M=Γ.M0) ⟨⟨_,rfl⟩,rfl⟩ (fun d hd τ M hI R hR=>?_) (fun τ M hI=>?_)⟩
 ·obtain ⟨⟨x,rfl⟩,rfl⟩:=hI
  obtain ⟨r,hr,rfl⟩:=ma.mp (QC.mp hd)
  have hw:=(O.row r hr).1
  have N5:=O.wid
  simp! only []
  refine ⟨by omega,jI (Bh ((net.length:Int) - 1)) (fun τ M=>(∃x,τ=[x,some (.int ((net.length:Int) - 1))])/\M=Γ.M0) ⟨⟨_,rfl⟩,rfl⟩ (fun d hd τ M hI R2 zz=>?_) (fun τ M hI=>?_)⟩
  ·obtain ⟨⟨x,rfl⟩,rfl⟩:=hI
   obtain ⟨p,hp,rfl⟩:=ma.mp hd
   simp! only []
   exact zz _ _ ⟨⟨_,rfl⟩,rfl⟩
  ·obtain ⟨⟨x,rfl⟩,rfl⟩:=hI
   exact hR _ _ ⟨⟨_,rfl⟩,rfl⟩
 ·obtain ⟨⟨x,rfl⟩,rfl⟩:=hI
  rw [HH]
  exact .inl q
end
section
variable {P:f8} {w:ii} {K:bn} {mg:br->Option ap} {base:gl} {tb:cC}
theorem dI:aT ["_law_net_here","_law_due","_law_found","_law_whole_here","_law_part"] ["_law_net_here"] (aj fR):=⟨rfl,rfl,rfl,by decide +kernel,rfl,by decide +kernel,by decide +kernel⟩
def qy (o:Mo):Prop:=o=.bZ\/∃r:List Int,o=.lst (r.map .int)
theorem qy.pin {o:Mo} (h:qy o) (M:Mh):∀d∈o.items,Pin M d :=by
 rcases h with rfl|⟨r,rfl⟩
 ·exact fun d hd=>nomatch hd
 ·exact e8 r
theorem qy.Oo {o:Mo} (h:qy o):∀d∈o.items,kh d :=by
 rcases h with rfl|⟨r,rfl⟩
 ·exact fun d hd=>nomatch hd
 ·intro d hd
  obtain ⟨x,_,rfl⟩:=ma.mp hd
  exact .int x
theorem tD {M1 M:Mh} {a:ag} {bs:List ag} {rs:List (List Int)} (h:fW M1 M a bs rs) (h1:∀c o,M1 c=some o->qy o):∀c o,M c=some o->c≠a->qy o:=fun c o e n=>by
 rcases h.oth c o e with z|z|z
 ·exact h1 c o z
 ·exact absurd z n
 ·exact .inr z
theorem zB {M0 M1 M:Mh} {a:ag} {bs:List ag} {rs:List (List Int)} (h:fW M1 M a bs rs) (h1:∀c o,M1 c=some o->qy o) {ρ:av} (Oq:∀(i:Nat) (d:Dv),ρ[i]?=some (some d)->Pin (bI M (a::bs)) d):Froz M0 (bI M (a::bs)) ρ:=⟨Oq,fun b o e=>by
 obtain ⟨n,e⟩:=hV e
 exact .inr ((tD h h1 b o e fun z=>n (by rw [z];exact i8)).pin _)⟩
theorem zD {d:Dv} {t:Dt} {M:Mh} {Q:ZK} (h:bD (now M d)=some t) (hp:fF t<=60) (q:Q (.bl false) M):k4 true d d M Q :=by
 unfold k4
 rw [h]
 refine ⟨hp,?_⟩
 rw [iA]
 exact q
theorem vd (rs:List (List Int)):bD (.lst (rs.map de))=some (.lst (rs.map fun r=>Dt.lst (r.map Dt.int))) :=by
 have h:=uO (f:=de) (g:=fun r=>Dt.lst (r.map Dt.int)) (fun r=>by show bD (.lst (r.map Dv.int))=_;simp only [bD,sr,AE]) rs
 simp only [bD,h,AE]
theorem ve (rs:List (List Int)):fF (.lst (rs.map fun r=>Dt.lst (r.map Dt.int)))<=60 :=by
 rw [fF]
 have:=mQ (n:=1) (ds:=rs.map fun r=>Dt.lst (r.map Dt.int)) fun d hd=>by
  obtain ⟨r,_,rfl⟩:=ma.mp hd
  rw [fF]
  have:=DA r
  omega
 omega
theorem HI {M:Mh} (ns:List Int):Pin M (de ns):=.lst (e8 ns)
theorem tE {M:Mh} (rs:List (List Int)):Pin M (.lst (rs.map de)):=.lst fun d hd=>by obtain ⟨r,_,rfl⟩:=ma.mp hd;exact HI r
theorem Bi {d:Dv} {t:Dt} {M:Mh} {Q:ZK} (h:bD (now M d)=some t) (hp:fF t<=60) (q:Q (.bl true) M):k4 false d d M Q :=by
 unfold k4
 rw [h]
 refine ⟨hp,?_⟩
 rw [iA]
 exact q
theorem wG {a:ag} {xs:List Dv} {g:b9} {tb:bH} {D:dy} (J:Nat->av->Mh->Prop) {ρ:av} {M:Mh} (h0:J 0 ρ M)
  (step:∀k d ρ M (N:av->Mh->Prop),xs[k]?=some d->J k ρ M->(∀cW M2,J (k+1) cW M2->N cW M2)->M a=some (.lst xs)/\g d ρ M fun cW M2=>tb {D with nx:=N,ct:=N,bk:=D.nx} cW M2)
  (fin:∀ρ M,J xs.length ρ M->M a=some (.lst xs)/\D.nx ρ M):fP a xs g tb D xs ρ M :=by
 have all:∀m k ρ M,k+m=xs.length->J k ρ M->fP a xs g tb D (xs.drop k) ρ M:=fun m=>by
  induction m with
  |zero=>
   intro k ρ M e h
   have e:k=xs.length :=by omega
   subst e
   rw [OE]
   exact fin ρ M h
  |succ m ih=>
   intro k ρ M e h
   have hk:xs[k]?=some (xs[k]'(by omega)):=al (by omega)
   rw [qj hk]
   exact step k _ ρ M _ hk h fun cW M2 h2=>ih (k+1) cW M2 (by omega) h2
 exact all xs.length 0 ρ M (by omega) h0
def tF:cp:=fun ds M Q _=>∃net n,ds=[eN net]/\bh net n/\(∀c o,M c=some o->o=.bZ)/\Q (.bl true) M
theorem tG {f f1 f2 f3:ag} {fd cM fd2 qp:l3} (D:Df K mg "_law_right" fR ["_law_net_here"] f fd)
  (dm:Df K mg "_law_parts" dZ ["_law_net_here"] f1 cM) (tH:FnOk P w K mg base bq 2 f1 cM ["_law_net_here"] (bg P w K tb tm))
  (cF:Df K mg "parts" gf ["net"] f2 fd2) (jK:FnOk P w K mg base (ft P w) 9 f2 fd2 ["net"] (bg P w K tb va)) (ji:FnOk P w K mg base (ft P w) 9 f2 fd2 ["net"] (bg P w K tb o5))
  (cc:Df K mg "hangs_together" dA ["net"] f3 qp) (m6:FnOk P w K mg base (ft P w) 10 f3 qp ["net"] (bg P w K tb zy)) (bl:Bl mg) :
  FnOk P w K mg base bq 11 f fd ["_law_net_here"] (bg P w K tb tF) :=by
 refine fM D dI (fun ds M Q E hS=>by obtain ⟨net,n,e,_⟩:=hS;rw [e];rfl) fun A outer s E Γ ds Q' E' hP hw hK ht hr hS=>?_
 obtain ⟨net,n,e,O,hO,q⟩:=hS
 have hM:Γ.M0=Γ.M0:=rfl
 refine ⟨_,(ak (aN (i:=1) dI.nd rfl (nl rfl) (aQ tH (hr.mono (by decide)) rfl dm.mg dm.fn.kp dm.bd bQ hP hw hK ht XR.none (aa (qv 0) ah)))
  (ak (aN (i:=2) dI.nd rfl (nl rfl) (aQ jK (hr.mono (by decide)) rfl cF.mg cF.fn.kp cF.bd vL hP hw hK ht XR.none (aa (qv 0) ah)))
  (ak (aN (i:=3) dI.nd rfl (nl rfl) (aQ m6 (hr.mono (by decide)) rfl cc.mg cc.fn.kp cc.bd vL hP hw hK ht XR.none (aa (qv 0) ah)))
  (ak (dz (AZ 2 hM (QW.pt (nX (bV (Ji hr.units) (qv 2) (qv 1) (b8 _)) (nX (iD (fH (aD (iH (K:=K) rfl) rfl bl.isinstance_ dC (aa (qv 3) (aa (jD (v:=.ty "bool") rfl bl.bool_ uz rfl) ah))))) (nW (bV GC (qv 3) (jE kZ (aD (cq (K:=K) rfl hK) rfl bl.len_ mv (aa (qv 1) ah)) aw (b8 _)) (b8 _)))))))
   (au (bu jR))
   qss_nil)
  (ak (DS 2 sw rfl (K:=K) rfl (qv 2) (fun jg eP ew eK et=>by have hP:=hP.trans eP.symm;have hw:=hw.trans ew.symm;have hK:=hK.trans eK.symm;have ht:=ht.trans et.symm;exact ⟨(aP (i:=4) dI.nd rfl (nl rfl)),(au (fu (yw (K:=K) rfl wn PySem.F.slot_list_clear PySem.F.type_list_clear uV (qv 4))))⟩))
  (ak (fu (yw (K:=K) rfl wn PySem.F.slot_list_clear PySem.F.type_list_clear uV (qv 2)))
  (au (bu (jE (Jh hr.units) (aQ ji (hr.mono (by decide)) rfl cF.mg cF.fn.kp cF.bd vL hP hw hK ht XR.none (aa (qv 0) ah)) (qv 1) (b8 _)))))))))),?_⟩
 subst e
 have h9:=O.nine
 have big:(1000:Nat)<sizeLine :=by decide
 simp! only []
 refine ⟨net,n,rfl,O,net,n,rfl,O,fun a bs M1 nest=>?_⟩
 simp! only []
 refine ⟨net,n,rfl,O,?_⟩
 have oE:∀c o,Γ.M0 c=some o->qy o:=fun c o e=>.inl (hO c o e)
 have a0:=nest.a0
 have b0:=nest.b0
 have kp:=nest.kp
 refine ⟨a,bs,bL net n,rfl,nest.am,nest.len,nest.bm,a0,fun b hb=>(b0 b hb).1,zB nest oE (fun i d e=>?_),fun b o e n=>(tD nest oE b o e fun z=>n (by rw [z];exact i8)).Oo,?_⟩
 ·match i,e with
  |0,e=>cases e;exact yz net
  |1,e=>cases e;exact tE _
  |2,e=>cases e;exact tE _
  |3,e=>cases e;exact .bl _
  |i+5,e=>exact nomatch e
 simp! only []
 refine zD (by simp only [now];exact vd _) (ve _) ?_
 have eb:decide ((bL net n).length=1)=decide (((bL net n).length:Int)=1):=decide_eq_decide.mpr (by omega)
 show "bool" ∈ lH/\_
 refine ⟨by decide,?_⟩
 rw [if_neg (by decide)]
 refine ⟨rfl,?_⟩
 rw [<- eb,if_neg (by simp)]
 refine ⟨a,bs,rfl,nest.am,wG (fun k ρ M=>(∃x4,ρ=[some (eN net),some (.lst ((bL net n).map de)),some (.ptr a),some (.bl (decide ((bL net n).length=1))),x4])/\M a=some (.lst (bs.map .ptr))/\(∀b∈bs,∃es,M b=some (.lst es))/\Keeps Γ.M0 M) ⟨⟨_,rfl⟩,nest.am,fun b hb=>?_,kp⟩ (fun k d ρ M N hd hJ hN=>?_) (fun ρ M hJ=>?_)⟩
 ·obtain ⟨j,hj⟩:=l7.mp hb
  have hl:=(bv.mp hj).1
  exact ⟨_,nest.bm j b _ hj (al (show j<(bL net n).length by rw [<- nest.len];exact hl))⟩
 ·obtain ⟨⟨x4,rfl⟩,zE,cV,kp⟩:=hJ
  rw [ca] at hd
  obtain ⟨b,hb,rfl⟩:=kt.mp hd
  have yL:=db hb
  obtain ⟨es,he⟩:=cV b yL
  have qf:=(b0 b yL).2
  refine ⟨zE,?_⟩
  simp! only [he]
  refine hN _ _ ⟨⟨_,rfl⟩,by rw [af (xy qf)];exact zE,fun c hc=>?_,.upd (b0 b yL).1 kp⟩
  by_cases z:c=b
  ·subst z;exact ⟨_,updM_same⟩
  ·rw [af z];exact cV c hc
 ·obtain ⟨⟨x4,rfl⟩,zE,cV,kp⟩:=hJ
  refine ⟨zE,?_⟩
  simp! only [zE]
  refine ⟨net,n,rfl,O,?_⟩
  refine Bi (by simp only [now];exact vd _) (ve _) ?_
  exact .inr ⟨Keeps.upd a0 kp,_,.pin (.bl true),q⟩
end
section
variable {P:f8} {w:ii} {K:bn} {mg:br->Option ap} {base:gl} {tb:cC}
theorem tI:aT ["_law_script","_law_k","_law_net_here"] ["_law_script"] (aj wk):=⟨rfl,rfl,rfl,by decide +kernel,rfl,by decide +kernel,by decide +kernel⟩
theorem HJ {f f1 f2 f3 f4:ag} {fd cM fd2 qp KQ:l3} (D:Df K mg "law" wk ["_law_script"] f fd)
  (eB:Df K mg "_law_bag" h8 ["_law_script","_law_at"] f1 cM) (wH:FnOk P w K mg base bq 1 f1 cM ["_law_script","_law_at"] (bg P w K tb Hs))
  (eC:Df K mg "_law_net" dB ["_law_bag_here","_law_most"] f2 fd2) (wI:FnOk P w K mg base bq 3 f2 fd2 ["_law_bag_here","_law_most"] (bg P w K tb Cz))
  (bT:Df K mg "_law_right" fR ["_law_net_here"] f3 qp) (ll:FnOk P w K mg base bq 11 f3 qp ["_law_net_here"] (bg P w K tb tF))
  (cf:Df K mg "_law_backwards" cU ["_law_net_here"] f4 KQ) (m7:FnOk P w K mg base bq 1 f4 KQ ["_law_net_here"] (bg P w K tb zA)) (bl:Bl mg) :
  FnOk P w K mg base bq 12 f fd ["_law_script"] (bg P w K tb GL) :=by
 refine fM D tI (fun ds M Q E hS=>by obtain ⟨ns,e,_⟩:=hS;rw [e];rfl) fun A outer s E Γ ds Q' E' hP hw hK ht hr hS=>?_
 obtain ⟨ns,e,hl,hM,q⟩:=hS
 refine ⟨_,(ak (cY sw rfl (aV rfl bl.range_ (aa (aD (GF rfl) rfl bl.max_ FV (aa aw (aa (aD (sj rfl) rfl bl.min_ nL (aa aw (aa (aD (cq (K:=K) rfl hK) rfl bl.len_ mv (aa (qv 0) ah)) ah))) ah))) ah)) (fun jg eP ew eK et=>by have hP:=hP.trans eP.symm;have hw:=hw.trans ew.symm;have hK:=hK.trans eK.symm;have ht:=ht.trans et.symm;exact ⟨(aP (i:=1) tI.nd rfl (nl rfl)),(ak (aN (i:=2) tI.nd rfl (nl rfl) (aQ wI (hr.mono (by decide)) rfl eC.mg eC.fn.kp eC.bd bQ hP hw hK ht XR.none (aa (aQ wH (hr.mono (by decide)) rfl eB.mg eB.fn.kp eB.bd bQ hP hw hK ht XR.none (aa (qv 0) (aa (qv 1) ah))) (aa aw ah))))
  (au (dz (QW.pt (nX (iD (fH (aQ ll (hr.mono (by decide)) rfl bT.mg bT.fn.kp bT.bd bQ hP hw hK ht XR.none (aa (qv 2) ah)))) (nW (iD (fH (aQ ll (hr.mono (by decide)) rfl bT.mg bT.fn.kp bT.bd bQ hP hw hK ht XR.none (aa (aQ m7 (hr.mono (by decide)) rfl cf.mg cf.fn.kp cf.bd bQ hP hw hK ht XR.none (aa (qv 2) ah)) ah)))))))
   (au (bu jR))
   qss_nil)))⟩))
  (au (bu jR))),?_⟩
 subst e
 simp! only []
 refine ⟨by split <;> split <;> omega,by split <;> split <;> omega,?_⟩
 refine bK (fun k ρ M=>(∃x1 x2,ρ=[some (.bf ns),x1,x2])/\∀b o,M b=some o->o=.bZ) ⟨⟨_,_,rfl⟩,fun b o e=>by rw [hM b] at e;cases e⟩ (fun k d ρ M N hd hJ hN=>?_) (fun ρ M _=>.inl (q _))
 obtain ⟨⟨x1,x2,rfl⟩,hO⟩:=hJ
 obtain ⟨rfl,hk⟩:=aZ hd
 have hk:k<=20 :=by split at hk <;> split at hk <;> omega
 simp! only []
 refine ⟨ns,_,rfl,hl,by omega,by omega,fun b hb=>?_⟩
 have HK:∀c o,aq M b .bZ c=some o->o=.bZ:=fun c o e=>by
  by_cases z:c=b
  ·subst z;rw [updM_same] at e;cases e;rfl
  ·rw [af z] at e;exact hO c o e
 refine ⟨b,9,rfl,updM_same,by omega,by omega,fun net n O _=>?_⟩
 simp! only []
 refine ⟨net,n,rfl,O,HK,?_⟩
 simp! only []
 refine ⟨net,n,rfl,O,jh net,n,rfl,D2 O,HK,?_⟩
 simp! only []
 exact hN _ _ ⟨⟨_,_,rfl⟩,HK⟩
end
theorem all_mk {l:QN} {w:ii} {K:bn} {h:gl} {mg:br->Option ap} {fa:ag} {tabs lts:List ag} {C_RoadError C_NoNet:ag} (X:K.In h) (G:h.Ns mainGlobals mg) (Ot:mg "law" = some (.ref fa))
  (T:At (TabOf mg h) ["is_row","is_net"] tabs) (U:At (TabOf mg h) ["first_words"] lts)
  (ue:l6 K mainGlobals "RoadError" = some (some (.ref C_RoadError)))
  (D3:l6 K mainGlobals "NoNet" = some (some (.ref C_NoNet)))
  (eb:vM K C_RoadError [C_NoNet]=true) (O4:[C_NoNet].Nodup)
  (wJ:cB K "is_whole" ej)
  (m8:cB K "is_whole_below" cT)
  (Bj:cB K "is_row" iQ)
  (Bk:cB K "is_net" iR)
  (wK:cB K "need_net" hZ)
  (jq:∃tk,la K "first_met" gz (.int 511 tk))
  (qD:cB K "first_words" ay)
  (D4:cB K "parts" gf)
  (m9:cB K "hangs_together" dA)
  (wL:cB K "_law_bag" h8)
  (uf:cB K "_law_take" eS)
  (tJ:cB K "_law_order" fQ)
  (wM:cB K "_law_net" dB)
  (tK:cB K "_law_reach" dY)
  (tL:cB K "_law_parts" dZ)
  (ng:cB K "_law_backwards" cU)
  (tM:cB K "_law_right" fR)
  (Jx:cB K "law" wk)
  (Jy:l6 K mainGlobals "len" = some none)
  (D5:l6 K mainGlobals "range" = some none)
  (Jz:l6 K mainGlobals "min" = some none)
  (JA:l6 K mainGlobals "max" = some none)
  (JB:l6 K mainGlobals "abs" = some none)
  (HL:l6 K mainGlobals "list" = some none)
  (D6:l6 K mainGlobals "tuple" = some none)
  (JC:l6 K mainGlobals "int" = some none)
  (JD:l6 K mainGlobals "str" = some none)
  (HM:l6 K mainGlobals "bool" = some none)
  (tN:l6 K mainGlobals "isinstance" = some none)
  (JE:l6 K mainGlobals "all" = some none)
  (JF:l6 K mainGlobals "set" = some none)
  (Bm:l6 K mainGlobals "sorted" = some none)
  (JG:l6 K mainGlobals "zip" = some none)
  (ug:l6 K mainGlobals "enumerate" = some none)
  (JH:l6 K mainGlobals "sum" = some none)
  (wN:l6 K mainGlobals "reversed" = some none)
  (Bn:l6 K mainGlobals "divmod" = some none)
  (JI:l6 K mainGlobals "any" = some none)
  (tO:l6 K mainGlobals "ValueError" = some none)
  (o6:∃tk,l6 K mainGlobals "SIGNS" = some (some (.str "abc" tk)))
  (gV:∃tk,l6 K mainGlobals "MOST_PLACES" = some (some (.int 9 tk)))
  : ∃fd:l3,(∀(s:bi) (v:ap),Qn s fd ⟨[v],[]⟩ [("_law_script",v)])/\∀base:gl,K.In base->base.Ns mainGlobals mg->(∃bm ob,P5 base mainGlobals mg bm ob)->(∀c p,qr h c p->qr base c p)->FnOk l.prog w K mg base bq 12 fa fd ["_law_script"] (spLaw K ⟨tabs,lts.zip [qW]⟩) :=by
 obtain ⟨JK,HY,cy⟩:=wJ.df X G ["thing"] fun _ _ _ _ _ _ us hl=>match us,hl with | [_],_=>rfl
 obtain ⟨Bo,zI,bw⟩:=m8.df X G ["thing","many"] fun _ _ _ _ _ _ us hl=>match us,hl with | [_,_],_=>rfl
 obtain ⟨Mf,KR,fi⟩:=Bj.df X G ["thing","many","width"] fun _ _ _ _ _ _ us hl=>match us,hl with | [_,_,_],_=>rfl
 obtain ⟨Mg,KS,fj⟩:=Bk.df X G ["thing"] fun _ _ _ _ _ _ us hl=>match us,hl with | [_],_=>rfl
 obtain ⟨JL,HZ,eA⟩:=wK.df X G ["thing"] fun _ _ _ _ _ _ us hl=>match us,hl with | [_],_=>rfl
 obtain ⟨HN,jq⟩:=jq
 obtain ⟨Ia,HP,dJ⟩:=jq.df X G ["start","width","step","most"] (fun _ _ _ _ _ _ _ us hl=>match us,hl with | [_,_,_],_=>⟨_,rfl,rfl⟩) fun _ _ _ _ _ _ _ us hl=>match us,hl with | [_,_,_,_],_=>⟨_,rfl,rfl⟩
 obtain ⟨Ee,D7,cH⟩:=qD.df X G ["net","start"] fun _ _ _ _ _ _ us hl=>match us,hl with | [_,_],_=>rfl
 obtain ⟨Ml,Mi,cF⟩:=D4.df X G ["net"] fun _ _ _ _ _ _ us hl=>match us,hl with | [_],_=>rfl
 obtain ⟨Bp,zJ,cc⟩:=m9.df X G ["net"] fun _ _ _ _ _ _ us hl=>match us,hl with | [_],_=>rfl
 obtain ⟨JM,Ib,eB⟩:=wL.df X G ["_law_script","_law_at"] fun _ _ _ _ _ _ us hl=>match us,hl with | [_,_],_=>rfl
 obtain ⟨Ic,HQ,ax⟩:=uf.df X G ["_law_bag_here","_law_many"] fun _ _ _ _ _ _ us hl=>match us,hl with | [_,_],_=>rfl
 obtain ⟨HR,Ef,di⟩:=tJ.df X G ["_law_bag_here","_law_many"] fun _ _ _ _ _ _ us hl=>match us,hl with | [_,_],_=>rfl
 obtain ⟨JN,Ie,eC⟩:=wM.df X G ["_law_bag_here","_law_most"] fun _ _ _ _ _ _ us hl=>match us,hl with | [_,_],_=>rfl
 obtain ⟨HS,Eg,dj⟩:=tK.df X G ["_law_net_here"] fun _ _ _ _ _ _ us hl=>match us,hl with | [_],_=>rfl
 obtain ⟨HU,Eh,dm⟩:=tL.df X G ["_law_net_here"] fun _ _ _ _ _ _ us hl=>match us,hl with | [_],_=>rfl
 obtain ⟨Bq,zK,cf⟩:=ng.df X G ["_law_net_here"] fun _ _ _ _ _ _ us hl=>match us,hl with | [_],_=>rfl
 obtain ⟨HV,Ei,bT⟩:=tM.df X G ["_law_net_here"] fun _ _ _ _ _ _ us hl=>match us,hl with | [_],_=>rfl
 obtain ⟨Ow,HW,wO⟩:=Jx.df X G ["_law_script"] fun _ _ _ _ _ _ us hl=>match us,hl with | [_],_=>rfl
 have Ig:=MW X G ue
 have oZ:=MW X G D3
 have X_:=Dk eb
 have oY:C_NoNet∈[C_NoNet] :=by simp
 have e:=Ot.symm.trans wO.mg
 cases e
 have bl:Bl mg:=⟨l5 X G Jy,l5 X G D5,l5 X G Jz,l5 X G JA,l5 X G JB,l5 X G HL,l5 X G D6,l5 X G JC,l5 X G JD,l5 X G HM,l5 X G tN,l5 X G JE,l5 X G JF,l5 X G Bm,l5 X G JG,l5 X G ug,l5 X G JH,l5 X G wN,l5 X G Bn,l5 X G JI,l5 X G tO⟩
 obtain ⟨Mj,o6⟩:=o6
 have iS:=MW X G o6
 obtain ⟨D8,gV⟩:=gV
 have gp:=MW X G gV
 obtain ⟨a7,KU,rfl,Br,T⟩:=jm T
 obtain ⟨bz,KW,rfl,Bs,T⟩:=jm T
 cases T
 obtain ⟨aG,D9,rfl,qE,U⟩:=jm U
 cases U
 refine ⟨HW,fun s v=>wO.bind1 s v (by intros;rfl),fun base _ _ cV tr=>?_⟩
 obtain ⟨j5,gm⟩:=rL fi X Br tr
 obtain ⟨sX,j6⟩:=rL fj X Bs tr
 obtain ⟨kj,eW⟩:=rL cH X qE tr
 have zF:a7∈(⟨[a7,bz],[(aG,qW)]⟩:cC) :=by show _∈[a7,bz];simp
 have zG:bz∈(⟨[a7,bz],[(aG,qW)]⟩:cC) :=by show _∈[a7,bz];simp
 have fS:(aG,qW)∈(⟨[a7,bz],[(aG,qW)]⟩:cC).l :=by simp
 have fT:∀q∈(⟨[a7,bz],[(aG,qW)]⟩:cC).l,q.1=aG->q.2=qW :=by simp
 have mZ:=zk (P:=l.prog) (w:=w) (tb:=(⟨[a7,bz],[(aG,qW)]⟩:cC)) fj j6 zG fi gm zF cV bw cy bl gp
 have ka:=ud eA fj mZ X_ oY oZ
 have gU:=oW (P:=l.prog) (w:=w) (tb:=(⟨[a7,bz],[(aG,qW)]⟩:cC)) cH eW cV fS fT dJ bl iS
 have tP:=Bg cF eA ka cH gU bl
 have jK:=sZ (S:=va) tP fun ds M Q E ⟨net,n,e,O,q⟩=>⟨net,n,e,O,.inl q⟩
 have ji:=sZ (S:=o5) tP fun ds M Q E ⟨net,n,e,O,q⟩=>⟨net,n,e,O,.inr q⟩
 have Ea:=lZ cc cF ji bl
 have zH:=Ht (tb:=(⟨[a7,bz],[(aG,qW)]⟩:cC)) (t8 (P:=l.prog) (w:=w) (base:=base) ax)
 have JO:=Ju (tb:=(⟨[a7,bz],[(aG,qW)]⟩:cC)) (wo (P:=l.prog) (w:=w) (base:=base) eB bl)
 have Eb:=sS di ax zH bl
 have JP:=wu eC ax zH di Eb bl
 have Ec:=tj (P:=l.prog) (w:=w) (base:=base) (tb:=(⟨[a7,bz],[(aG,qW)]⟩:cC)) dj bl
 have Bt:=tq dm dj Ec bl
 have HX:=m5 (P:=l.prog) (w:=w) (base:=base) (tb:=(⟨[a7,bz],[(aG,qW)]⟩:cC)) cf bl
 have Ed:=tG bT dm Bt cF jK ji cc Ea bl
 exact GN (HJ wO eB JO eC JP bT Ed cf HX bl)
theorem walk {l:QN} {q:f8} {loose:List br} {XP:(br->Option ap)->gl->Prop} {YP:ii->gl->Prop} {d:DefRec} {K:QZ->bn} (hn:l.most=some 63) (xF:d.params.defaults=[])
  (yM:∀w:ii,Qc (K w.params)=true) (Ci:∀y∈((["is_row","is_net"]:List br)++(["first_words"]:List br)),∃r∈recsOf q,r.name=y) (mn:∀w:ii,oQ (K w.params) ["is_row","is_net"] ["first_words"]=true) (hY:∀(w:ii) (h:gl),YP w h->(K w.params).In h)
  (F:∀(w:ii) (mg:br->Option ap) (fa:ag) (h:gl) (tabs lts:List ag),(K w.params).In h->h.Ns mainGlobals mg->mg d.name=some (.ref fa)->
   At (TabOf mg h) ["is_row","is_net"] tabs->At (TabOf mg h) ["first_words"] lts->
   ∃fd:l3,(∀(s:bi) (u:ap),Qn s fd ⟨[u],[]⟩ [("_law_script",u)]) /\
    ∀base:gl,(K w.params).In base->base.Ns mainGlobals mg->(∃bm ob,P5 base mainGlobals mg bm ob)->(∀c p,qr h c p->qr base c p)->FnOk l.prog w (K w.params) mg base bq 12 fa fd ["_law_script"] (spLaw (K w.params) ⟨tabs,lts.zip [qW]⟩)) :
  PySem.W.WalkO q loose XP YP l.row.toRowW d [] (fun f vs=>QV f vs):=
 L2.AV (n:=63) (k:=12) (x := "_law_script") (CX:=bq) (sp:=fun K tabs lts=>spLaw K ⟨tabs,lts.zip [qW]⟩) hn (by decide) xF ⟨rfl,by decide,by decide⟩ yM Ci mn hY F (fun _ _ _ _ a ns hl hn hT hL hS=>AW hl hn hT hL hS) fun _ _ _ _ z=>z
end My
open PySem PySem.W PyProof.Rows L2
set_option maxRecDepth 100000 in
set_option maxHeartbeats 0 in
theorem PySem.Challenge.cw_roadcall_k05_parts_and_hanging_together_holds : PySem.Challenge.rw_roadcall_k05_parts_and_hanging_together.Holds := by
 w_on;o_law
 refine My.CK (q:=My.kq) (loose:=My.kL) (H:=My.kH) My.left (by rfl) (by rfl) (by rfl) (by rfl) (by first|assumption|decide +kernel) (by decide +kernel) ⟨rfl,rfl,rfl,rfl,rfl,by decide +kernel⟩ ?hw ?hc
 (case hw=>w_witness2)
 refine My.walk (l:=PySem.Challenge.rw_roadcall_k05_parts_and_hanging_together) rfl rfl (fun w=>by kernel_rfl) (recs_of (by decide +kernel)) (fun w=>by kernel_rfl) (fun w h Y=>Y) ?F
 intro w mg fa h tabs lts KX G xG T U
 exact My.all_mk (C_RoadError:=24) (C_NoNet:=37) KX G xG T U
  (by kernel_rfl)
  (by kernel_rfl)
  (by kernel_rfl)
  (by decide)
  (L2.bt (f:=46) (oc:=.type "function") (od:=none) (sl:=#[]) (kV:=.none) (dc:=.none) (pm:=My.vS "roadcall.whole" 223) (an:=none) (cd:=.ref 45) (ct:=.none) (by kernel_rfl) (by kernel_rfl) (by kernel_rfl) (by kernel_rfl))
  (L2.bt (f:=53) (oc:=.type "function") (od:=none) (sl:=#[]) (kV:=.none) (dc:=.none) (pm:=My.vS "roadcall.whole" 223) (an:=none) (cd:=.ref 52) (ct:=.none) (by kernel_rfl) (by kernel_rfl) (by kernel_rfl) (by kernel_rfl))
  (L2.bt (f:=60) (oc:=.type "function") (od:=none) (sl:=#[]) (kV:=.none) (dc:=.none) (pm:=My.vS "roadcall.nets" 240) (an:=none) (cd:=.ref 59) (ct:=.none) (by kernel_rfl) (by kernel_rfl) (by kernel_rfl) (by kernel_rfl))
  (L2.bt (f:=67) (oc:=.type "function") (od:=none) (sl:=#[]) (kV:=.none) (dc:=.none) (pm:=My.vS "roadcall.nets" 240) (an:=none) (cd:=.ref 66) (ct:=.none) (by kernel_rfl) (by kernel_rfl) (by kernel_rfl) (by kernel_rfl))
  (L2.bt (f:=74) (oc:=.type "function") (od:=none) (sl:=#[]) (kV:=.none) (dc:=.none) (pm:=My.vS "roadcall.nets" 240) (an:=none) (cd:=.ref 73) (ct:=.none) (by kernel_rfl) (by kernel_rfl) (by kernel_rfl) (by kernel_rfl))
  (L2.yR (f:=82) (oc:=.type "function") (od:=none) (sl:=#[]) (T:=75) (oT:=⟨.type "tuple",none,.seq #[.int 511 274] 0,#[]⟩) (kV:=.none) (dc:=.none) (pm:=My.vS "roadcall.ways" 272) (an:=none) (cd:=.ref 81) (ct:=.none) (by kernel_rfl) (by kernel_rfl) (by kernel_rfl) (by kernel_rfl) (by kernel_rfl) rfl)
  (L2.bt (f:=89) (oc:=.type "function") (od:=none) (sl:=#[]) (kV:=.none) (dc:=.none) (pm:=My.vS "roadcall.ways" 272) (an:=none) (cd:=.ref 88) (ct:=.none) (by kernel_rfl) (by kernel_rfl) (by kernel_rfl) (by kernel_rfl))
  (L2.bt (f:=94) (oc:=.type "function") (od:=none) (sl:=#[]) (kV:=.none) (dc:=.none) (pm:=My.vS "roadcall.ways" 272) (an:=none) (cd:=.ref 93) (ct:=.none) (by kernel_rfl) (by kernel_rfl) (by kernel_rfl) (by kernel_rfl))
  (L2.bt (f:=101) (oc:=.type "function") (od:=none) (sl:=#[]) (kV:=.none) (dc:=.none) (pm:=My.vS "roadcall.ways" 272) (an:=none) (cd:=.ref 100) (ct:=.none) (by kernel_rfl) (by kernel_rfl) (by kernel_rfl) (by kernel_rfl))
  (L2.bt (f:=108) (oc:=.type "function") (od:=none) (sl:=#[]) (kV:=.none) (dc:=.none) (pm:=My.vS "law_roadcall_k05_parts_and_hanging_together" 313) (an:=none) (cd:=.ref 107) (ct:=.none) (by kernel_rfl) (by kernel_rfl) (by kernel_rfl) (by kernel_rfl))
  (L2.bt (f:=115) (oc:=.type "function") (od:=none) (sl:=#[]) (kV:=.none) (dc:=.none) (pm:=My.vS "law_roadcall_k05_parts_and_hanging_together" 313) (an:=none) (cd:=.ref 114) (ct:=.none) (by kernel_rfl) (by kernel_rfl) (by kernel_rfl) (by kernel_rfl))
  (L2.bt (f:=122) (oc:=.type "function") (od:=none) (sl:=#[]) (kV:=.none) (dc:=.none) (pm:=My.vS "law_roadcall_k05_parts_and_hanging_together" 313) (an:=none) (cd:=.ref 121) (ct:=.none) (by kernel_rfl) (by kernel_rfl) (by kernel_rfl) (by kernel_rfl))
  (L2.bt (f:=127) (oc:=.type "function") (od:=none) (sl:=#[]) (kV:=.none) (dc:=.none) (pm:=My.vS "law_roadcall_k05_parts_and_hanging_together" 313) (an:=none) (cd:=.ref 126) (ct:=.none) (by kernel_rfl) (by kernel_rfl) (by kernel_rfl) (by kernel_rfl))
  (L2.bt (f:=132) (oc:=.type "function") (od:=none) (sl:=#[]) (kV:=.none) (dc:=.none) (pm:=My.vS "law_roadcall_k05_parts_and_hanging_together" 313) (an:=none) (cd:=.ref 131) (ct:=.none) (by kernel_rfl) (by kernel_rfl) (by kernel_rfl) (by kernel_rfl))
  (L2.bt (f:=142) (oc:=.type "function") (od:=none) (sl:=#[]) (kV:=.none) (dc:=.none) (pm:=My.vS "law_roadcall_k05_parts_and_hanging_together" 313) (an:=none) (cd:=.ref 141) (ct:=.none) (by kernel_rfl) (by kernel_rfl) (by kernel_rfl) (by kernel_rfl))
  (L2.bt (f:=147) (oc:=.type "function") (od:=none) (sl:=#[]) (kV:=.none) (dc:=.none) (pm:=My.vS "law_roadcall_k05_parts_and_hanging_together" 313) (an:=none) (cd:=.ref 146) (ct:=.none) (by kernel_rfl) (by kernel_rfl) (by kernel_rfl) (by kernel_rfl))
  (L2.bt (f:=154) (oc:=.type "function") (od:=none) (sl:=#[]) (kV:=.none) (dc:=.none) (pm:=My.vS "law_roadcall_k05_parts_and_hanging_together" 313) (an:=none) (cd:=.ref 153) (ct:=.none) (by kernel_rfl) (by kernel_rfl) (by kernel_rfl) (by kernel_rfl))
  (L2.bt (f:=161) (oc:=.type "function") (od:=none) (sl:=#[]) (kV:=.none) (dc:=.none) (pm:=My.vS "law_roadcall_k05_parts_and_hanging_together" 313) (an:=none) (cd:=.ref 160) (ct:=.none) (by kernel_rfl) (by kernel_rfl) (by kernel_rfl) (by kernel_rfl))
  (by kernel_rfl)
  (by kernel_rfl)
  (by kernel_rfl)
  (by kernel_rfl)
  (by kernel_rfl)
  (by kernel_rfl)
  (by kernel_rfl)
  (by kernel_rfl)
  (by kernel_rfl)
  (by kernel_rfl)
  (by kernel_rfl)
  (by kernel_rfl)
  (by kernel_rfl)
  (by kernel_rfl)
  (by kernel_rfl)
  (by kernel_rfl)
  (by kernel_rfl)
  (by kernel_rfl)
  (by kernel_rfl)
  (by kernel_rfl)
  (by kernel_rfl)
  ⟨242,by kernel_rfl⟩
  ⟨244,by kernel_rfl⟩
