import PyProof.Rows.All
import Wide.All
import OpenK.AllK
import Wide.FinOn
import Lean
import PySem.Challenge.RW_roadcall_k60_nets_written
import PyProof.EqAt
import PyProof.EqKinds
import PyProof.TupleCall
import PyProof.NeKinds
import PyProof.EnumMake
import PyProof.EnumFor
import PyProof.ZipIter
import PyProof.Rows.ZipGen
import KE.KLam
import PyProof.DictItems
import KE.KTurnsDict
import KE.KPairComp
import KE.KDictList
set_option linter.all false
set_option Elab.async false
set_option maxRecDepth 100000
namespace My
open PySem PyProof.Rows
noncomputable def kA (s : Stmt) : Arguments := match s with
  | .FunctionDef _ a _ _ _ _ _ _ _ _ => a
  | _ => { posonlyargs := [], args := [], vararg := none, kwonlyargs := [], kw_defaults := [], kwarg := none, defaults := [] }
noncomputable def kB (s : Stmt) : List Stmt := match s with
  | .FunctionDef _ _ b _ _ _ _ _ _ _ => b
  | _ => []
noncomputable def kS (s : Stmt) : Scope := match s with
  | .FunctionDef _ _ _ _ _ _ sc _ _ _ => sc
  | _ => { kind := .function, names := [], isGenerator := false, isCoroutine := false }
noncomputable def vS (x : String) (t : Nat) : Value := .str (Str.ofString x) t
noncomputable def kE (P : Params) (x : String) (t : Nat) (v : Value) : DictEntry := ⟨PyData.keyHash P (Str.ofString x), vS x t, v⟩
noncomputable def kF (i : Nat) (x : String) (d m : Value) (c : Nat) : Obj := let st := PySem.Challenge.pw_roadcall_k60_nets_written.main.body.getD i (.Pass ⟨0, 0, 0, 0⟩); ⟨.type "function", none, .func (PySem.W.fnOf (Str.ofString x) (Str.ofString x) (kA st) (kB st) (kS st) d .none .none m none (.ref c) .none), #[]⟩
noncomputable def kC (x : String) (t : Nat) (l n f : Int) (a : Nat) (b : Bool) (m : Int) (p : Nat) (u z : Value) (q : Nat) (e : Int) (t2 : Nat) : Obj := ⟨.type "code", none, .fields #[vS x t, vS x (t + 1), vS "/claim/cut.py" (t + 2), .int l 0, .int n 0, .int 0 0, .int 0 0, .int f 0, .ref a, .bool b, .int m 0, .ref p, .none, u, z, .ref q, .int e 0, .int l 0, vS "/claim/cut.py" t2], #[]⟩
noncomputable def kK (P : Params) : PySem.W.Frag := [(2, ⟨.none, none, .dict [].toArray 0, #[]⟩),
  (3, ⟨.type "dict", none, .dict [kE P "__name__" 165 (vS "law_roadcall_k60_nets_written" 479), kE P "__doc__" 166 .none, kE P "__package__" 167 .none, kE P "__loader__" 168 (.builtin "__main__.__loader__#opaque"), kE P "__spec__" 169 .none, kE P "__annotations__" 170 (.ref 6), kE P "__builtins__" 171 (.ref 4), kE P "__file__" 173 (vS "/claim/cut.py" 172), kE P "__cached__" 174 .none, kE P "RoadError" 206 (.ref 24), kE P "NoNet" 222 (.ref 37), kE P "NoPlace" 238 (.ref 49), kE P "NoWord" 254 (.ref 61), kE P "NoPaper" 282 (.ref 83), kE P "NoText" 298 (.ref 95), kE P "NoRow" 314 (.ref 107), kE P "NoDeed" 330 (.ref 119), kE P "is_whole" 339 (.ref 128), kE P "is_whole_below" 347 (.ref 135), kE P "SIGNS" 351 (vS "abc" 350), kE P "MOST_PLACES" 353 (.int 9 352), kE P "MOST_SIGNS_OF_WORD" 355 (.int 2000 354), kE P "is_row" 365 (.ref 142), kE P "is_net" 374 (.ref 149), kE P "need_net" 381 (.ref 156), kE P "signs_of" 388 (.ref 163), kE P "is_word" 397 (.ref 170), kE P "need_word" 405 (.ref 177), kE P "PLACE_FIGURES" 409 (vS "012345678" 408), kE P "WITHOUT_SIGNS" 411 (vS "-" 410), kE P "figures" 417 (.ref 182), kE P "written_word" 424 (.ref 189), kE P "show_net" 430 (.ref 194), kE P "show_word" 438 (.ref 201), kE P "is_made_of" 447 (.ref 208), kE P "need_text" 454 (.ref 215), kE P "read_figures" 461 (.ref 222), kE P "read_rows" 470 (.ref 229), kE P "read_net" 478 (.ref 236), kE P "_law_bag" 491 (.ref 243), kE P "_law_take" 502 (.ref 250), kE P "_law_order" 513 (.ref 257), kE P "_law_net" 519 (.ref 262), kE P "_law_text" 530 (.ref 269), kE P "_law_no_net" 539 (.ref 276), kE P "_law_refused" 548 (.ref 283), kE P "law" 554 (.ref 288)].toArray 47, #[]⟩),
  (23, ⟨.type "dict", none, .dict [kE P "__module__" 196 (vS "roadcall.errors" 187), kE P "__firstlineno__" 200 (.int 2 199), kE P "__static_attributes__" 201 (.ref 22), kE P "__weakref__" 203 (.ref 25), kE P "__doc__" 204 .none].toArray 3, #[]⟩),
  (24, ⟨.type "type", none, .cls { name := Str.ofString "RoadError", bases := [.type "ValueError"], mro := [.ref 24, .type "ValueError", .type "Exception", .type "BaseException", .type "object"], ns := 23, qualname := Str.ofString "RoadError", subclasses := [.ref 37, .ref 49, .ref 61, .ref 83, .ref 95, .ref 107, .ref 119] }, #[some (.ref 15), none, some (vS "RoadError" 189), some (vS "RoadError" 197), some (.builtin "ValueError.__new__"), some (.bool true)]⟩),
  (36, ⟨.type "dict", none, .dict [kE P "__module__" 214 (vS "roadcall.errors" 187), kE P "__firstlineno__" 218 (.int 4 217), kE P "__static_attributes__" 219 (.ref 35), kE P "__doc__" 220 .none].toArray 2, #[]⟩),
  (37, ⟨.type "type", none, .cls { name := Str.ofString "NoNet", bases := [.ref 24], mro := [.ref 37, .ref 24, .type "ValueError", .type "Exception", .type "BaseException", .type "object"], ns := 36, qualname := Str.ofString "NoNet", subclasses := [] }, #[some (.ref 28), none, some (vS "NoNet" 207), some (vS "NoNet" 215), some (.builtin "ValueError.__new__"), some (.bool true)]⟩),
  (48, ⟨.type "dict", none, .dict [kE P "__module__" 230 (vS "roadcall.errors" 187), kE P "__firstlineno__" 234 (.int 6 233), kE P "__static_attributes__" 235 (.ref 47), kE P "__doc__" 236 .none].toArray 2, #[]⟩),
  (49, ⟨.type "type", none, .cls { name := Str.ofString "NoPlace", bases := [.ref 24], mro := [.ref 49, .ref 24, .type "ValueError", .type "Exception", .type "BaseException", .type "object"], ns := 48, qualname := Str.ofString "NoPlace", subclasses := [] }, #[some (.ref 40), none, some (vS "NoPlace" 223), some (vS "NoPlace" 231), some (.builtin "ValueError.__new__"), some (.bool true)]⟩),
  (60, ⟨.type "dict", none, .dict [kE P "__module__" 246 (vS "roadcall.errors" 187), kE P "__firstlineno__" 250 (.int 8 249), kE P "__static_attributes__" 251 (.ref 59), kE P "__doc__" 252 .none].toArray 2, #[]⟩),
  (61, ⟨.type "type", none, .cls { name := Str.ofString "NoWord", bases := [.ref 24], mro := [.ref 61, .ref 24, .type "ValueError", .type "Exception", .type "BaseException", .type "object"], ns := 60, qualname := Str.ofString "NoWord", subclasses := [] }, #[some (.ref 52), none, some (vS "NoWord" 239), some (vS "NoWord" 247), some (.builtin "ValueError.__new__"), some (.bool true)]⟩),
  (72, ⟨.type "tuple", none, .seq #[.int 0 267] 0, #[]⟩),
  (82, ⟨.type "dict", none, .dict [kE P "__module__" 262 (vS "roadcall.errors" 187), kE P "__firstlineno__" 266 (.int 10 265), kE P "__init__" 276 (.ref 80), kE P "__static_attributes__" 278 (.ref 81), kE P "__doc__" 280 .none].toArray 3, #[]⟩),
  (83, ⟨.type "type", none, .cls { name := Str.ofString "NoPaper", bases := [.ref 24], mro := [.ref 83, .ref 24, .type "ValueError", .type "Exception", .type "BaseException", .type "object"], ns := 82, qualname := Str.ofString "NoPaper", subclasses := [] }, #[some (.ref 64), none, some (vS "NoPaper" 255), some (vS "NoPaper" 263), some (.builtin "ValueError.__new__"), some (.bool true)]⟩),
  (94, ⟨.type "dict", none, .dict [kE P "__module__" 290 (vS "roadcall.errors" 187), kE P "__firstlineno__" 294 (.int 15 293), kE P "__static_attributes__" 295 (.ref 93), kE P "__doc__" 296 .none].toArray 2, #[]⟩),
  (95, ⟨.type "type", none, .cls { name := Str.ofString "NoText", bases := [.ref 24], mro := [.ref 95, .ref 24, .type "ValueError", .type "Exception", .type "BaseException", .type "object"], ns := 94, qualname := Str.ofString "NoText", subclasses := [] }, #[some (.ref 86), none, some (vS "NoText" 283), some (vS "NoText" 291), some (.builtin "ValueError.__new__"), some (.bool true)]⟩),
  (106, ⟨.type "dict", none, .dict [kE P "__module__" 306 (vS "roadcall.errors" 187), kE P "__firstlineno__" 310 (.int 17 309), kE P "__static_attributes__" 311 (.ref 105), kE P "__doc__" 312 .none].toArray 2, #[]⟩),
  (107, ⟨.type "type", none, .cls { name := Str.ofString "NoRow", bases := [.ref 24], mro := [.ref 107, .ref 24, .type "ValueError", .type "Exception", .type "BaseException", .type "object"], ns := 106, qualname := Str.ofString "NoRow", subclasses := [] }, #[some (.ref 98), none, some (vS "NoRow" 299), some (vS "NoRow" 307), some (.builtin "ValueError.__new__"), some (.bool true)]⟩),
  (118, ⟨.type "dict", none, .dict [kE P "__module__" 322 (vS "roadcall.errors" 187), kE P "__firstlineno__" 326 (.int 19 325), kE P "__static_attributes__" 327 (.ref 117), kE P "__doc__" 328 .none].toArray 2, #[]⟩),
  (119, ⟨.type "type", none, .cls { name := Str.ofString "NoDeed", bases := [.ref 24], mro := [.ref 119, .ref 24, .type "ValueError", .type "Exception", .type "BaseException", .type "object"], ns := 118, qualname := Str.ofString "NoDeed", subclasses := [] }, #[some (.ref 110), none, some (vS "NoDeed" 315), some (vS "NoDeed" 323), some (.builtin "ValueError.__new__"), some (.bool true)]⟩),
  (127, kC "is_whole" 333 22 1 3 122 true 181 123 (.ref 124) (.ref 125) 126 337 338),
  (128, kF 10 "is_whole" .none (vS "roadcall.whole" 331) 127),
  (134, kC "is_whole_below" 340 24 2 3 129 true 181 130 (.ref 131) (.ref 132) 133 345 346),
  (135, kF 11 "is_whole_below" .none (vS "roadcall.whole" 331) 134),
  (141, kC "is_row" 356 30 3 3 136 true 181 137 (.ref 138) (.ref 139) 140 363 364),
  (142, kF 16 "is_row" .none (vS "roadcall.nets" 348) 141),
  (148, kC "is_net" 366 34 1 3 143 true 181 144 (.ref 145) (.ref 146) 147 372 373),
  (149, kF 17 "is_net" .none (vS "roadcall.nets" 348) 148),
  (155, kC "need_net" 375 42 1 3 150 true 181 151 (.ref 152) (.ref 153) 154 379 380),
  (156, kF 18 "need_net" .none (vS "roadcall.nets" 348) 155),
  (162, kC "signs_of" 382 45 1 3 157 true 181 158 (.ref 159) (.ref 160) 161 386 387),
  (163, kF 19 "signs_of" .none (vS "roadcall.nets" 348) 162),
  (169, kC "is_word" 389 48 2 3 164 true 181 165 (.ref 166) (.ref 167) 168 395 396),
  (170, kF 20 "is_word" .none (vS "roadcall.nets" 348) 169),
  (176, kC "need_word" 398 53 2 3 171 true 181 172 (.ref 173) (.ref 174) 175 403 404),
  (177, kF 21 "need_word" .none (vS "roadcall.nets" 348) 176),
  (181, kC "figures" 412 59 1 3 178 true 181 179 .none .none 180 415 416),
  (182, kF 25 "figures" .none (vS "roadcall.nettexts" 406) 181),
  (188, kC "written_word" 418 61 1 3 183 true 181 184 (.ref 185) (.ref 186) 187 422 423),
  (189, kF 26 "written_word" .none (vS "roadcall.nettexts" 406) 188),
  (193, kC "show_net" 425 63 1 3 190 true 181 191 .none .none 192 428 429),
  (194, kF 27 "show_net" .none (vS "roadcall.nettexts" 406) 193),
  (200, kC "show_word" 431 66 2 3 195 true 181 196 (.ref 197) (.ref 198) 199 436 437),
  (201, kF 28 "show_word" .none (vS "roadcall.nettexts" 406) 200),
  (207, kC "is_made_of" 439 70 2 3 202 true 181 203 (.ref 204) (.ref 205) 206 445 446),
  (208, kF 29 "is_made_of" .none (vS "roadcall.nettexts" 406) 207),
  (214, kC "need_text" 448 72 1 3 209 true 181 210 (.ref 211) (.ref 212) 213 452 453),
  (215, kF 30 "need_text" .none (vS "roadcall.nettexts" 406) 214),
  (221, kC "read_figures" 455 75 1 3 216 true 181 217 (.ref 218) (.ref 219) 220 459 460),
  (222, kF 31 "read_figures" .none (vS "roadcall.nettexts" 406) 221),
  (228, kC "read_rows" 462 79 1 3 223 true 181 224 (.ref 225) (.ref 226) 227 468 469),
  (229, kF 32 "read_rows" .none (vS "roadcall.nettexts" 406) 228),
  (235, kC "read_net" 471 85 1 3 230 true 181 231 (.ref 232) (.ref 233) 234 476 477),
  (236, kF 33 "read_net" .none (vS "roadcall.nettexts" 406) 235),
  (242, kC "_law_bag" 481 91 2 3 237 true 181 238 (.ref 239) (.ref 240) 241 489 490),
  (243, kF 35 "_law_bag" .none (vS "law_roadcall_k60_nets_written" 479) 242),
  (249, kC "_law_take" 492 101 2 3 244 true 181 245 (.ref 246) (.ref 247) 248 500 501),
  (250, kF 36 "_law_take" .none (vS "law_roadcall_k60_nets_written" 479) 249),
  (256, kC "_law_order" 503 113 2 3 251 true 181 252 (.ref 253) (.ref 254) 255 511 512),
  (257, kF 37 "_law_order" .none (vS "law_roadcall_k60_nets_written" 479) 256),
  (261, kC "_law_net" 514 119 2 3 258 true 181 259 .none .none 260 517 518),
  (262, kF 38 "_law_net" .none (vS "law_roadcall_k60_nets_written" 479) 261),
  (268, kC "_law_text" 520 141 1 3 263 true 181 264 (.ref 265) (.ref 266) 267 528 529),
  (269, kF 39 "_law_text" .none (vS "law_roadcall_k60_nets_written" 479) 268),
  (275, kC "_law_no_net" 531 149 2 3 270 true 181 271 (.ref 272) (.ref 273) 274 537 538),
  (276, kF 40 "_law_no_net" .none (vS "law_roadcall_k60_nets_written" 479) 275),
  (282, kC "_law_refused" 540 153 2 3 277 true 181 278 (.ref 279) (.ref 280) 281 546 547),
  (283, kF 41 "_law_refused" .none (vS "law_roadcall_k60_nets_written" 479) 282),
  (287, kC "law" 549 162 1 3 284 true 181 285 .none .none 286 552 553),
  (288, kF 42 "law" .none (vS "law_roadcall_k60_nets_written" 479) 287)]
noncomputable def HW : List Addr := [2, 3, 23, 24, 36, 37, 48, 49, 60, 61, 72, 82, 83, 94, 95, 106, 107, 118, 119, 127, 128, 134, 135, 141, 142, 148, 149, 155, 156, 162, 163, 169, 170, 176, 177, 181, 182, 188, 189, 193, 194, 200, 201, 207, 208, 214, 215, 221, 222, 228, 229, 235, 236, 242, 243, 249, 250, 256, 257, 261, 262, 268, 269, 275, 276, 282, 283, 287, 288]
noncomputable def kq : Program := PySem.W.view PySem.Challenge.pw_roadcall_k60_nets_written [1, 2, 3, 4, 5, 6, 7, 8, 10, 11, 13, 14, 15, 16, 17, 18, 19, 20, 21, 23, 24, 25, 26, 27, 28, 29, 30, 31, 32, 33, 35, 36, 37, 38, 39, 40, 41, 42]
noncomputable def kL : List Str := [Str.ofString "NoPaper"]
noncomputable def kH : PySem.W.Hook := PySem.W.kHook kK HW fun _ => by kernel_rfl
theorem y3 {r : PySem.W.OpenRow} {q : Program} {loose : List Str} {H : PySem.W.Hook} {d : DefRec} {As : List (Str × Expr)} {N : Nat} (left : PySem.W.LeftO r.prog q loose (fun s => PySem.W.xlAt q [] s && PySem.W.recOk r.records s) H.obs H.val N)
    (GU : PySem.W.defOf q r.name = some (d, As)) (hp : r.prog.theDef r.name = some (d.params, d.body, d.scope)) (hk : PySem.W.kwWritten? d.params.kwonlyargs d.params.kw_defaults = some As) (HX : (!r.writes || r.records.isEmpty) = true) (k1 : r.wellSaid = true)
    (ok : (PySem.W.chainsOk q && PySem.W.opensWell r.prog && (PySem.W.frees r.toRowW && r.within.isEmpty)) = true) (hb : r.prog.bare) (hw : r.toRowW.promised) (call : PySem.W.WalkO q loose (PySem.W.XL q []) H.says r.toRowW d As fun f vs => PySem.call f vs) : r.Holds :=
  PySem.W.holds_open left H.of H.keeps (fun s e => PySem.W.xl_of s (Bool.and_eq_true_iff.mp e).1) PySem.W.XL.keeps GU hp hk (fun s e => PySem.W.recFacts_of (Bool.and_eq_true_iff.mp e).2) HX k1 ok hb hw call
noncomputable def oeQ (p : Program) (w : World) (N : Nat) : Option Shared := ((PySem.W.Fast.tw10274390034422433532 PySem.W.Fast.tw14364793385576792824 (PySem.W.opening p) w N (PySem.W.Fast.tw1435165496053646825 (PySem.W.opening p)).1 (PySem.W.Fast.tw1435165496053646825 (PySem.W.opening p)).2).bind (PySem.W.Fast.tw14289696077712309145 p)).bind fun s₀ => match s₀.heap.isNs PySem.mainGlobals && s₀.gens.size == 0 with
  | true => (PySem.W.Fast.tw14082659384304107361 PySem.W.Fast.tw14364793385576792824 p w s₀.heap.objs.size (s₀.heap.nsMap PySem.mainGlobals "__annotations__") N s₀ (PySem.W.topStub p)).bind fun aq => match PySem.W.staticsOk (importedModules p.main.body) s₀.heap aq.heap && PySem.W.namesBound p aq.heap && PySem.W.gensDone aq && PySem.W.laidKept s₀.heap aq.heap with
      | true => some aq
      | false => none
  | false => none
theorem Ea (p : Program) (w : World) (N : Nat) : PySem.W.openEnds treeTable p w N = oeQ p w N := by
  unfold oeQ
  rw [← PySem.W.Fast.te10274390034422433532, ← PySem.W.Fast.te14364793385576792824, ← PySem.W.Fast.te1435165496053646825, ← PySem.W.Fast.te14289696077712309145, ← PySem.W.Fast.te14082659384304107361]
  rfl
noncomputable def nsQ (q : Program) : List Str := (PySem.W.Fast.tw3399658132070893891 q).map (·.name)
theorem yc (q : Program) : (recsOf q).map (·.name) = nsQ q := by unfold nsQ; rw [← PySem.W.Fast.te3399658132070893891]
noncomputable def c1Q (s : Shared) := PySem.W.Fast.tw5160383126252970620 (nsQ kq) (PySem.W.Fast.tw5991557255702980513 kq) [] { s with gens := #[] }
theorem Eb (s : Shared) : seen ((recsOf kq).map (·.name)) (ownsOf kq) [] { s with gens := #[] } = c1Q s := by unfold c1Q; rw [yc, ← PySem.W.Fast.te5160383126252970620, ← PySem.W.Fast.te5991557255702980513]
noncomputable def c2 (s : Shared) := (s.heap.bltView, s.heap.keysOk (PySem.W.looseW kq kL) ((recsOf kq).map (·.name)) ((litsOf kq).map (·.1)) ((clssOf kq (PySem.W.looseW kq kL)).map (·.name)) && s.heap.accountedOkI (importedModules PySem.Challenge.pw_roadcall_k60_nets_written.main.body) && s.heap.isNs mainGlobals && s.heap.isNs builtinsNs && tablesOk kq s.heap && (PySem.W.xlAt kq [] s && PySem.W.recOk [] s) && (s.gens.size == 0))
noncomputable def c2Q (s : Shared) := (s.heap.bltView, PySem.W.Fast.tw10880121769531294198 s.heap (PySem.W.Fast.tw821141287760084731 kq kL) (nsQ kq) ((PySem.W.Fast.tw7409074990110511671 kq).map (·.1)) ((PySem.W.Fast.tw13664370479719496447 kq (PySem.W.Fast.tw821141287760084731 kq kL)).map (·.name)) && PySem.W.Fast.tw14722251495701143533 s.heap (importedModules PySem.Challenge.pw_roadcall_k60_nets_written.main.body) && s.heap.isNs mainGlobals && s.heap.isNs builtinsNs && PySem.W.Fast.tw10994771534591457954 kq s.heap && (PySem.W.xlAt kq [] s && PySem.W.recOk [] s) && (s.gens.size == 0))
theorem Ec (s : Shared) : c2 s = c2Q s := by unfold c2 c2Q; rw [yc, ← PySem.W.Fast.te10880121769531294198, ← PySem.W.Fast.te821141287760084731, ← PySem.W.Fast.te7409074990110511671, ← PySem.W.Fast.te13664370479719496447, ← PySem.W.Fast.te14722251495701143533, ← PySem.W.Fast.te10994771534591457954]
noncomputable def c3 (s : Shared) := tabsOk kq s
noncomputable def c5 (s : Shared) := plainSeenE kq (PySem.W.looseW kq kL) s
noncomputable def c4 (s : Shared) := (PySem.pinSeenD kq (drecsOf kq) s, plainSeenD kq kL s, PySem.W.wideSeen kq s, PySem.W.clsSeenW kq kL s)
noncomputable def c3Q (s : Shared) := PySem.W.Fast.tw479339242167458305 kq s
noncomputable def c5Q (s : Shared) := PySem.W.Fast.tw2386780881361962483 kq (PySem.W.Fast.tw821141287760084731 kq kL) s
noncomputable def c4Q (s : Shared) := (PySem.W.Fast.tw16090120013241838585 kq (PySem.W.Fast.tw3247288618530077131 kq) s, PySem.W.Fast.tw11698064438423848299 kq kL s, PySem.W.Fast.tw7317090234206586261 kq s, PySem.W.Fast.tw7369524293546568484 kq kL s)
theorem Ed (s : Shared) : c3 s = c3Q s := by unfold c3 c3Q; rw [← PySem.W.Fast.te479339242167458305]
theorem Ee (s : Shared) : c5 s = c5Q s := by unfold c5 c5Q; rw [← PySem.W.Fast.te2386780881361962483, ← PySem.W.Fast.te821141287760084731]
theorem Ef (s : Shared) : c4 s = c4Q s := by unfold c4 c4Q; rw [← PySem.W.Fast.te16090120013241838585, ← PySem.W.Fast.te3247288618530077131, ← PySem.W.Fast.te11698064438423848299, ← PySem.W.Fast.te7317090234206586261, ← PySem.W.Fast.te7369524293546568484]
set_option maxHeartbeats 0 in
theorem left0 (w : World) : (oeQ PySem.Challenge.pw_roadcall_k60_nets_written w 5256).map (fun s => kH.obs s) = some (kH.val w) := by kernel_rfl
set_option maxHeartbeats 0 in
theorem left1 (w : World) : (oeQ PySem.Challenge.pw_roadcall_k60_nets_written w 5256).map c1Q = some (expectedOf kq) := by kernel_rfl
set_option maxHeartbeats 0 in
theorem left2 (w : World) : (oeQ PySem.Challenge.pw_roadcall_k60_nets_written w 5256).map c2Q = some (bltViewBooted, true) := by kernel_rfl
set_option maxHeartbeats 0 in
theorem left3 (w : World) : (oeQ PySem.Challenge.pw_roadcall_k60_nets_written w 5256).map c3Q = some true := by kernel_rfl
set_option maxHeartbeats 0 in
theorem left5 (w : World) : (oeQ PySem.Challenge.pw_roadcall_k60_nets_written w 5256).map c5Q = some (plainGoodE kq (PySem.W.looseW kq kL)) := by kernel_rfl
set_option maxHeartbeats 0 in
theorem left4 (w : World) : (oeQ PySem.Challenge.pw_roadcall_k60_nets_written w 5256).map c4Q = some (PySem.pinGoodD (drecsOf kq), plainGoodD kq kL, PySem.W.wideGood kq, PySem.W.clsGoodW kq kL) := by kernel_rfl
theorem left (w : World) : (PySem.W.openEnds treeTable PySem.Challenge.pw_roadcall_k60_nets_written w 5256).map (fun s => (PySem.W.openSeen kq kL (importedModules PySem.Challenge.pw_roadcall_k60_nets_written.main.body) (fun s => PySem.W.xlAt kq [] s && PySem.W.recOk [] s) true s, kH.obs s)) = some (PySem.W.openGood kq kL, kH.val w) := by
  rw [Ea]
  have a0 := left0 w
  have a1 := left1 w
  have a2 := left2 w
  have a3 := left3 w
  have a4 := left4 w
  have a5 := left5 w
  revert a0 a1 a2 a3 a4 a5
  generalize oeQ PySem.Challenge.pw_roadcall_k60_nets_written w 5256 = o
  cases o with
  | none => intro a0; cases a0
  | some s =>
    intro a0 a1 a2 a3 a4 a5
    have a0 : kH.obs s = kH.val w := Option.some.inj a0
    have a1 := Option.some.inj a1
    have a2 := Option.some.inj a2
    have a3 := Option.some.inj a3
    have a4 := Option.some.inj a4
    have a5 := Option.some.inj a5
    rw [← Eb] at a1
    rw [← Ec] at a2
    rw [← Ed] at a3
    rw [← Ef] at a4
    rw [← Ee] at a5
    show some ((seen ((recsOf kq).map (·.name)) (ownsOf kq) [] { s with gens := #[] }, (c2 s).1, (c2 s).2, c3 s, (c4 s).1, c5 s, (c4 s).2), kH.obs s) = _
    rw [a0, a1, a2, a3, a4, a5]
    rfl
end My
namespace L2
open PySem PySem.Spec PyProof.Rows
noncomputable abbrev Key := Sum Int Str
noncomputable def ye : Key → Value → Bool
  | .inl k, v => Value.isInt k v
  | .inr x, v => Value.isStrOf x v
noncomputable def GV (w : World) : Key → Int
  | .inl k => hashInt k
  | .inr x => hashStr w x
theorem bW : ∀ {k : Key} {v : Value}, ye k v = true → (∃ i t, k = Sum.inl i ∧ v = Value.int i t) ∨ (∃ x t, k = Sum.inr x ∧ v = Value.str x t)
  | .inl i, v, h => by
    obtain ⟨t, e⟩ := Value.isInt_shape (k := i) (v := v) h
    exact .inl ⟨i, t, rfl, e⟩
  | .inr x, v, h => by
    obtain ⟨t, e⟩ := Value.isStrOf_shape (x := x) (v := v) h
    exact .inr ⟨x, t, rfl, e⟩
theorem Au (a b : Int) : decide ((Sum.inl a : Key) = Sum.inl b) = (a == b) := by
  by_cases e : a = b
  · subst e; simp
  · have h : ¬ (Sum.inl a : Key) = Sum.inl b := fun q => e (Sum.inl.inj q)
    rw [decide_eq_false h]
    exact (beq_eq_false_iff_ne.mpr e).symm
theorem Av (a b : Str) : decide ((Sum.inr a : Key) = Sum.inr b) = decide (a = b) := by
  by_cases e : a = b
  · subst e; simp
  · have h : ¬ (Sum.inr a : Key) = Sum.inr b := fun q => e (Sum.inr.inj q)
    rw [decide_eq_false h, decide_eq_false e]
theorem Aw (a : Int) (b : Str) : decide ((Sum.inl a : Key) = Sum.inr b) = false := decide_eq_false (fun q => nomatch q)
theorem Ax (a : Str) (b : Int) : decide ((Sum.inr a : Key) = Sum.inl b) = false := decide_eq_false (fun q => nomatch q)
noncomputable def mn (prog : Program) (w : World) : PySem.KeyKind prog w Key where
  is := ye
  hash := GV w
  inj := fun v a b ha hb => by
    rcases bW ha with ⟨i, t, rfl, rfl⟩ | ⟨x, t, rfl, rfl⟩
    · rcases bW hb with ⟨j, u, rfl, e⟩ | ⟨y, u, rfl, e⟩
      · injection e with e1 _; rw [e1]
      · exact nomatch e
    · rcases bW hb with ⟨j, u, rfl, e⟩ | ⟨y, u, rfl, e⟩
      · exact nomatch e
      · injection e with e1 _; rw [e1]
  byValue := fun k v h => by
    rcases bW h with ⟨i, t, rfl, rfl⟩ | ⟨x, t, rfl, rfl⟩ <;> rfl
  pyHash := fun hv h => by
    rcases bW hv with ⟨i, t, rfl, rfl⟩ | ⟨x, t, rfl, rfl⟩
    · exact wpAny_pyHash_int h
    · exact wpAny_pyHash_str h
  eqBool := fun hu hv h => by
    rcases bW hu with ⟨i, t, rfl, rfl⟩ | ⟨x, t, rfl, rfl⟩
    · rcases bW hv with ⟨j, u, rfl, rfl⟩ | ⟨y, u, rfl, rfl⟩
      · rw [Au] at h; exact wpAny_eqBool_int h
      · rw [Aw] at h; exact SeqAt.EqAt.int_str i t y u _ _ _ _ h
    · rcases bW hv with ⟨j, u, rfl, rfl⟩ | ⟨y, u, rfl, rfl⟩
      · rw [Ax] at h; exact SeqAt.EqAt.str_int x t j u _ _ _ _ h
      · rw [Av] at h; exact wpAny_eqBool_str h
  «strs» := fun k x t v h => by
    rcases bW h with ⟨i, u, rfl, e⟩ | ⟨y, u, rfl, e⟩
    · exact nomatch e
    · injection e with e1 _
      subst e1
      cases v <;> rfl
inductive V where
  | aj | bl (b : Bool) | int (i : Int) | str (x : Str) | gG (b : Array UInt8) | rK (b : UInt64) | ref (a : Addr) | ty (n : String)
  deriving DecidableEq
noncomputable def RelV : V → Value → Prop
  | .aj, u => u = Value.none
  | .bl b, u => u = Value.bool b
  | .int i, u => ∃ t, u = Value.int i t
  | .str x, u => ∃ t, u = Value.str x t
  | .gG b, u => ∃ t, u = Value.bytes b t
  | .rK b, u => ∃ t, u = Value.float b t
  | .ref a, u => u = Value.ref a
  | .ty n, u => u = Value.type n
noncomputable abbrev Vals : List V → List Value → Prop := Paired RelV
theorem Vals.length {xs : List V} {us : List Value} (r : Vals xs us) : xs.length = us.length := Paired.length r
theorem Vals.get : ∀ {xs : List V} {us : List Value} {i : Nat} {x : V}, Vals xs us → xs[i]? = some x → ∃ u, us[i]? = some u ∧ RelV x u
  | _, _, _, _, .nil, e => by simp at e
  | _, _, 0, _, .cons r _, e => by simp at e; subst e; exact ⟨_, rfl, r⟩
  | _, _, i + 1, x, .cons _ t, e => by
    obtain ⟨u, h1, h2⟩ := Vals.get (i := i) (x := x) t (by simpa using e)
    exact ⟨u, by simpa using h1, h2⟩
theorem Vals.set {x : V} {u : Value} (r : RelV x u) : ∀ {xs : List V} {us : List Value} (i : Nat), Vals xs us → Vals (xs.set i x) (us.set i u)
  | _, _, _, .nil => .nil
  | _, _, 0, .cons _ t => .cons r t
  | _, _, i + 1, .cons q t => .cons q (Vals.set r i t)
theorem Vals.append : ∀ {xs ys : List V} {us ws : List Value}, Vals xs us → Vals ys ws → Vals (xs ++ ys) (us ++ ws)
  | _, _, _, _, .nil, s => s
  | _, _, _, _, .cons r t, s => .cons r (Vals.append t s)
theorem Vals.take : ∀ {xs : List V} {us : List Value} (n : Nat), Vals xs us → Vals (xs.take n) (us.take n)
  | _, _, 0, _ => .nil
  | _, _, _ + 1, .nil => .nil
  | _, _, n + 1, .cons r t => .cons r (Vals.take n t)
theorem Vals.drop : ∀ {xs : List V} {us : List Value} (n : Nat), Vals xs us → Vals (xs.drop n) (us.drop n)
  | _, _, 0, r => r
  | _, _, _ + 1, .nil => .nil
  | _, _, n + 1, .cons _ t => Vals.drop n t
noncomputable def wj : Option V → Option Value → Prop
  | some v, some u => RelV v u
  | none, none => True
  | _, _ => False
noncomputable def KV {κ : Type} : List (κ × V) → List (κ × Value) → Prop := Paired fun (p : κ × V) (q : κ × Value) => p.1 = q.1 ∧ RelV p.2 q.2
noncomputable def kV : Key → V
  | .inl i => .int i
  | .inr x => .str x
inductive HO where
  | lst (xs : List V)
  | tup (xs : List V)
  | dK (bG : List (Key × V)) | dT (bG : List (List Key × V))
  | set (S : Int → Bool) (n : Nat)
  | ins (C dx : Addr) (fs : List (Str × V))
  | own (x : Addr)
  | xd (fs : List (Str × V))
  | met (f x : Addr)
  | yf (lo hi : Int)
  | ef (o : Obj) (u : HO)
  | b0 (ps : Array Value)
  | lam (ps : Array Value)
  | ext (φ : Heap → Prop)
noncomputable abbrev Hp := Addr → Option HO
noncomputable def upd (H : Hp) (a : Addr) (o : HO) : Hp := fun b => if b = a then some o else H b
theorem aB {H : Hp} {a : Addr} {o : HO} : upd H a o a = some o := by unfold upd; rw [if_pos rfl]
theorem ao {H : Hp} {a b : Addr} {o : HO} (h : b ≠ a) : upd H a o b = H b := by unfold upd; rw [if_neg h]
theorem rL {H : Hp} {a : Addr} {o u : HO} : upd (upd H a o) a u = upd H a u := by
  funext b; unfold upd; split <;> rfl
theorem Eg {H : Hp} {a b : Addr} {o u : HO} (h : H a = some o) (h' : H b = some u) (d : o ≠ u) : a ≠ b := by
  intro e; subst e; rw [h] at h'; exact d (Option.some.inj h')
theorem bc {H : Hp} {a b : Addr} {o : HO} (h : H a = some o) (h' : H b = none) : a ≠ b := by
  intro e; subst e; rw [h] at h'; cases h'
section
variable (P : Program) (w : World)
noncomputable def fv (h : Heap) (a : Addr) (items : Array Value) : Prop := ∃ o, h.get? a = some o ∧ o.cls = .type "tuple" ∧ ∃ n, o.data = .seq items n ∧ o.dict = none
theorem fv.tup {h : Heap} {a : Addr} {items : Array Value} (x : fv h a items) : IsTup h a items := let ⟨o, e, c, n, d, _⟩ := x; ⟨o, e, c, n, d⟩
theorem fv.lt {h : Heap} {a : Addr} {items : Array Value} (x : fv h a items) : a < h.objs.size := x.tup.lt
theorem fv.new (h : Heap) (items : Array Value) : fv (h.push { cls := .type "tuple", data := .seq items }) h.objs.size items := ⟨_, Heap.get?_push_size _ rfl, rfl, _, rfl, rfl⟩
noncomputable def bg (H : Hp) (h : Heap) (a : Addr) : HO → Prop
  | .lst xs => xs.length ≤ sizeLine ∧ ∃ (its : List Value) (n : Nat), Vals xs its ∧ h.get? a = some { cls := .type "list", data := .seq its.toArray n }
  | .tup xs => xs.length ≤ sizeLine ∧ ∃ its : List Value, Vals xs its ∧ fv h a its.toArray
  | .dK bG => bG.length ≤ sizeLine ∧ (a == sysModules) = false ∧ ∃ vs, KV bG vs ∧ h.DictOf (mn P w) a vs
  | .dT bG => bG.length ≤ sizeLine ∧ (a == sysModules) = false ∧ ∃ xs : List (List Key × Addr × Value),
      Paired (fun (p : List Key × V) (q : List Key × Addr × Value) => p.1 = q.1 ∧ H q.2.1 = some (.tup (p.1.map kV)) ∧ RelV p.2 q.2.2) bG xs ∧
      ∃ o es ep, h.get? a = some o ∧ o.ExactDict ∧ o.data = .dict es ep ∧ es.toList = xs.map (entryOfKey (tupleKind (mn P w))) ∧ (xs.map (·.1)).Nodup
  | .set S n => h.SetOf (intKind P w) a S n
  | .ins C dx fs => H dx = some (.own a) ∧ fs.length ≤ 1000 ∧ dx ≠ a ∧ h.get? a = some (PySem.W.instObj C dx) ∧
      ∃ mA, h.Ns1 dx mA ∧ (∀ f, wj (fs.lookup f) (mA f)) ∧ PySem.Within mA (fs.map (·.1))
  | .own _ => ∃ o, h.get? a = some o
  | .xd fs => ∃ mA, h.Ns1 a mA ∧ ∀ f, wj (fs.lookup f) (mA f)
  | .yf lo hi => ∃ t u v, h.get? a = some { cls := .type "range", data := .fields #[.int lo t, .int hi u, .int 1 v] }
  | .ef o u => h.get? a = some o ∧ bg H h a u
  | .b0 ps => h.get? a = some { cls := .none, data := .fields ps }
  | .lam ps => h.get? a = some { cls := .none, data := .fields ps }
  | .met f x => h.get? a = some (PySem.W.methodObj (.ref f) (.ref x))
  | .ext φ => φ h ∧ (∃ o, h.get? a = some o) ∧ ∀ h1 h2 : Heap, φ h1 → (∀ o, h1.get? a = some o → h2.get? a = some o) → φ h2
noncomputable def c9 (H : Hp) (h : Heap) : Prop := ∀ a o, H a = some o → bg P w H h a o
end
section
variable {P : Program} {w : World} {H H' : Hp} {h h' : Heap} {a : Addr} {o : HO}
theorem bg.lt (x : bg P w H h a o) : a < h.objs.size := by
  cases o with
  | lst xs => obtain ⟨_, _, _, _, e⟩ := x; exact Heap.lt_size e
  | tup xs => obtain ⟨_, _, _, p⟩ := x; exact p.lt
  | dK bG => obtain ⟨_, _, _, _, o, _, _, e, _⟩ := x; exact Heap.lt_size e
  | dT bG => obtain ⟨_, _, _, _, o, _, _, e, _⟩ := x; exact Heap.lt_size e
  | set S n => obtain ⟨o, _, _, _, e, _⟩ := x; exact Heap.lt_size e
  | ins C dx fs => obtain ⟨_, _, _, e, _⟩ := x; exact Heap.lt_size e
  | own y => obtain ⟨_, e⟩ := x; exact Heap.lt_size e
  | xd fs => obtain ⟨_, ⟨_, _, _, e, _⟩, _⟩ := x; exact Heap.lt_size e
  | yf lo hi => obtain ⟨_, _, _, e⟩ := x; exact Heap.lt_size e
  | ef ob u => obtain ⟨e, _⟩ := x; exact Heap.lt_size e
  | b0 ps => exact Heap.lt_size (show h.get? a = some _ from x)
  | lam ps => exact Heap.lt_size (show h.get? a = some _ from x)
  | met f y => exact Heap.lt_size (show h.get? a = some _ from x)
  | ext φ => obtain ⟨_, ⟨_, e⟩, _⟩ := x; exact Heap.lt_size e
theorem Paired.Ay {α β : Type} {F G : α → β → Prop} : ∀ {Az : List α} {l₂ : List β}, Paired F Az l₂ → (∀ a b, F a b → G a b) → Paired G Az l₂
  | _, _, .nil, _ => .nil
  | _, _, .cons r t, f => .cons (f _ _ r) (Paired.Ay t f)
theorem bg.gH (x : bg P w H h a o) (k : ∀ b u, (b = a ∨ H b = some (.own a)) → h.get? b = some u → h'.get? b = some u)
    (ho : ∀ b, H b = some (.own a) → H' b = some (.own a)) (ht : ∀ b xs, H b = some (.tup xs) → H' b = some (.tup xs)) : bg P w H' h' a o := by
  induction o with
  | lst xs => obtain ⟨z, its, n, r, e⟩ := x; exact ⟨z, its, n, r, k _ _ (.inl rfl) e⟩
  | tup xs => obtain ⟨z, its, r, ob, e, c⟩ := x; exact ⟨z, its, r, ob, k _ _ (.inl rfl) e, c⟩
  | dK bG => obtain ⟨z, y, vs, r, ob, es, ep, e, c⟩ := x; exact ⟨z, y, vs, r, ob, es, ep, k _ _ (.inl rfl) e, c⟩
  | dT bG =>
    obtain ⟨z, y, xs, r, ob, es, ep, e, c⟩ := x
    exact ⟨z, y, xs, Paired.Ay r fun p q z => ⟨z.1, ht _ _ z.2.1, z.2.2⟩, ob, es, ep, k _ _ (.inl rfl) e, c⟩
  | set S n => obtain ⟨ob, es, ep, t, e, c⟩ := x; exact ⟨ob, es, ep, t, k _ _ (.inl rfl) e, c⟩
  | ins C dx fs =>
    obtain ⟨d, z, ne, e, mA, ⟨od, es, ep, e2, c⟩, r⟩ := x
    exact ⟨ho _ d, z, ne, k _ _ (.inl rfl) e, mA, ⟨od, es, ep, k _ _ (.inr d) e2, c⟩, r⟩
  | own y => obtain ⟨ob, e⟩ := x; exact ⟨ob, k _ _ (.inl rfl) e⟩
  | xd fs => obtain ⟨mA, ⟨od, es, ep, e, c⟩, r⟩ := x; exact ⟨mA, ⟨od, es, ep, k _ _ (.inl rfl) e, c⟩, r⟩
  | yf lo hi => obtain ⟨t, u, v, e⟩ := x; exact ⟨t, u, v, k _ _ (.inl rfl) e⟩
  | ef ob u ih => obtain ⟨e, q⟩ := x; exact ⟨k _ _ (.inl rfl) e, ih q⟩
  | b0 ps =>
    have e : h.get? a = some { cls := .none, data := .fields ps } := x
    show h'.get? a = some { cls := .none, data := .fields ps }
    exact k a _ (.inl rfl) e
  | lam ps =>
    have e : h.get? a = some { cls := .none, data := .fields ps } := x
    show h'.get? a = some { cls := .none, data := .fields ps }
    exact k a _ (.inl rfl) e
  | met f y =>
    have e : h.get? a = some (PySem.W.methodObj (.ref f) (.ref y)) := x
    show h'.get? a = some (PySem.W.methodObj (.ref f) (.ref y))
    exact k a _ (.inl rfl) e
  | ext φ => obtain ⟨p, ⟨o, e⟩, st⟩ := x; exact ⟨st _ _ p fun o q => k _ _ (.inl rfl) q, ⟨o, k _ _ (.inl rfl) e⟩, st⟩
theorem c9.lt (x : c9 P w H h) (e : H a = some o) : a < h.objs.size := (x a o e).lt
theorem c9.fresh (x : c9 P w H h) (e : h.objs.size ≤ a) : H a = none := by
  cases q : H a with
  | none => rfl
  | some u => exact absurd (Nat.lt_of_lt_of_le (x.lt q) e) (Nat.lt_irrefl _)
theorem c9.kept (x : c9 P w H h) (k : ∀ b u, h.get? b = some u → h'.get? b = some u) : c9 P w H h' := fun a o e =>
  (x a o e).gH (fun b u _ q => k b u q) (fun _ q => q) fun _ _ q => q
theorem c9.laid (x : c9 P w H h) (k : ∀ b u, h.get? b = some u → h'.get? b = some u) (hp : h.objs.size ≤ a) (new : bg P w (upd H a o) h' a o) : c9 P w (upd H a o) h' := fun b u e => by
  have hn := x.fresh hp
  by_cases hb : b = a
  · subst hb; rw [aB] at e; cases e; exact new
  · rw [ao hb] at e
    exact (x b u e).gH (fun c v _ q => k c v q) (fun c q => by rw [ao (bc q hn)]; exact q) fun c xs q => by rw [ao (bc q hn)]; exact q
end
noncomputable def Rd (H : Hp) (a : Addr) (u : HO) : Prop := H a = some u ∨ ∃ o, H a = some (.ef o u)
theorem Rd.ok {P : Program} {w : World} {H : Hp} {h : Heap} {a : Addr} {u : HO} (r : Rd H a u) (x : c9 P w H h) : bg P w H h a u := by
  rcases r with r | ⟨o, r⟩
  · exact x a u r
  · obtain ⟨_, q⟩ := x a _ r
    exact q
noncomputable def yg : Option HO → Prop
  | some (.lst _) => True
  | some (.dK _) => True
  | some (.dT _) => True
  | some (.set _ _) => True
  | some (.ins _ _ _) => True
  | some (.ext _) => True
  | some (.lam _) => True
  | _ => False
section
variable {P : Program} {w : World} {H : Hp} {h h' : Heap} {x e : Addr} {o' : HO}
theorem c9.write (ok : c9 P w H h) (mu : yg (H x)) (he : e = x ∨ H e = some (.own x)) (k : ∀ b u, b ≠ e → h.get? b = some u → h'.get? b = some u) (rM : ∃ u, h'.get? e = some u)
    (new : bg P w (upd H x o') h' x o') : c9 P w (upd H x o') h' := fun b u q => by
  have AA : ∀ c y, H c = some (.own y) → c ≠ x := fun c y r z => by subst z; rw [r] at mu; exact mu
  have GW : ∀ c xs, H c = some (.tup xs) → c ≠ x := fun c xs r z => by subst z; rw [r] at mu; exact mu
  by_cases hb : b = x
  · subst hb; rw [aB] at q; cases q; exact new
  · rw [ao hb] at q
    by_cases oR : b = e
    · have q' : H b = some (.own x) := by
        rcases he with z | z
        · exact absurd (oR.trans z) hb
        · rw [oR]; exact z
      rw [q] at q'; cases q'
      obtain ⟨v, hv⟩ := rM
      exact ⟨v, by rw [oR]; exact hv⟩
    · refine (ok b u q).gH (fun c v hc r => k c v ?_ r) (fun c r => by rw [ao (AA c b r)]; exact r) fun c xs r => by rw [ao (GW c xs r)]; exact r
      rcases hc with rfl | hc
      · exact oR
      · rintro rfl
        rcases he with z | z
        · exact AA c b hc z
        · rw [hc] at z; cases z; exact hb rfl
end
structure Un (fs ex : List Addr) (H H' : Hp) (h h' : Heap) : Prop where
  keep : ∀ b o, h.get? b = some o → H b = none → b ∉ fs → b ∉ ex → h'.get? b = some o
  slot : ∀ b o, h.get? b = some o → H b = none → b ∈ fs → b ∉ ex → ∃ sl, h'.get? b = some { o with slots := sl }
  free : ∀ b o, h.get? b = some o → H b = none → b ∉ ex → H' b = none
  there : ∀ b o, h.get? b = some o → b ∉ ex → ∃ o', h'.get? b = some o'
  tups : ∀ b xs, H b = some (.tup xs) → H' b = some (.tup xs)
  frzs : ∀ b o u, H b = some (.ef o u) → H' b = some (.ef o u)
  tbls : ∀ b ps, H b = some (.b0 ps) → ∃ more, H' b = some (.b0 (ps ++ more))
section
variable {fs HY ex Kf : List Addr} {H H1 H2 : Hp} {h h1 h2 h' : Heap} {a x e : Addr} {o : HO}
theorem Un.any (u : Un fs ex H H1 h h1) {b : Addr} {ob : Obj} (q : h.get? b = some ob) (n : H b = none) (hx : b ∉ ex) : ∃ sl, h1.get? b = some { ob with slots := sl } := by
  by_cases hb : b ∈ fs
  · exact u.slot b ob q n hb hx
  · exact ⟨ob.slots, u.keep b ob q n hb hx⟩
theorem Un.kept (k : ∀ b u, h.get? b = some u → h'.get? b = some u) : Un fs ex H H h h' :=
  ⟨fun b ob q _ _ _ => k b ob q, fun b ob q _ _ _ => ⟨ob.slots, k b ob q⟩, fun _ _ _ n _ => n, fun b ob q _ => ⟨ob, k b ob q⟩, fun _ _ q => q, fun _ _ _ q => q, fun _ ps q => ⟨#[], by rw [q]; simp⟩⟩
theorem Un.refl : Un fs ex H H h h := Un.kept fun _ _ q => q
theorem Un.laid (k : ∀ b u, h.get? b = some u → h'.get? b = some u) (hp : h.objs.size ≤ a) (hn : H a = none) : Un fs ex H (upd H a o) h h' where
  keep := fun b u q _ _ _ => k b u q
  slot := fun b u q _ _ _ => ⟨u.slots, k b u q⟩
  free := fun b u q n _ => by rw [ao (Nat.ne_of_lt (Nat.lt_of_lt_of_le (Heap.lt_size q) hp))]; exact n
  there := fun b u q _ => ⟨u, k b u q⟩
  tups := fun b xs q => by rw [ao (bc q hn)]; exact q
  frzs := fun b u xs q => by rw [ao (bc q hn)]; exact q
  tbls := fun b ps q => ⟨#[], by rw [ao (bc q hn), q]; simp⟩
theorem Un.write (mu : yg (H x)) (he : e = x ∨ H e = some (.own x)) (k : ∀ b u, b ≠ e → h.get? b = some u → h'.get? b = some u) (rM : ∃ u, h'.get? e = some u) : Un fs ex H (upd H x o) h h' := by
  have hx : ∀ b, H b = none → b ≠ x := fun b n z => by subst z; rw [n] at mu; exact mu
  have hb : ∀ b, H b = none → b ≠ e := fun b n z => by
    subst z
    rcases he with r | r
    · exact hx b n r
    · rw [n] at r; cases r
  have hm : ∀ b u, H b = some u → ¬ yg (some u) → b ≠ x := fun b u q nm z => by subst z; rw [q] at mu; exact nm mu
  refine ⟨fun b u q n _ _ => k b u (hb b n) q, fun b u q n _ _ => ⟨u.slots, k b u (hb b n) q⟩, fun b u q n _ => by rw [ao (hx b n)]; exact n, fun b u q _ => ?_,
    fun b xs q => by rw [ao (hm b _ q fun z => z)]; exact q, fun b u xs q => by rw [ao (hm b _ q fun z => z)]; exact q, fun b ps q => ⟨#[], by rw [ao (hm b _ q fun z => z), q]; simp⟩⟩
  by_cases oR : b = e
  · subst oR; exact rM
  · exact ⟨u, k b u oR q⟩
end
noncomputable def yh (h : Heap) (H : Hp) : List Addr := (List.range h.objs.size).filter fun a => (H a).isSome
noncomputable def gI (h : Heap) (H : Hp) : Heap := PySem.W.hideAll h (yh h H)
theorem t7 (h : Heap) (H : Hp) : (gI h H).objs.size = h.objs.size := PySem.W.hideAll_size _ _
theorem wk {h : Heap} {H : Hp} {b : Addr} {o : Obj} (e : h.get? b = some o) (n : H b = none) : (gI h H).get? b = some o :=
  PySem.W.hideAll_get _ e fun hm => by
    have q : (H b).isSome = true := (List.mem_filter.mp hm).2
    rw [n] at q; simp at q
theorem y4 {h : Heap} {H : Hp} {b : Addr} {o : Obj} (e : (gI h H).get? b = some o) : h.get? b = some o ∧ H b = none := by
  have e' : h.get? b = some o := PySem.W.of_hideAll (yh h H) e
  refine ⟨e', ?_⟩
  cases q : H b with
  | none => rfl
  | some x =>
    have hm : b ∈ yh h H := List.mem_filter.mpr ⟨List.mem_range.mpr (Heap.lt_size e'), by simp [q]⟩
    have z : (gI h H).get? b = none := PySem.W.hideAll_none (yh h H) hm
    rw [z] at e; cases e
noncomputable def y6 (g h : Heap) (L : Addr) : List (Addr × Obj) := (List.range h.objs.size).filterMap fun a => if a = L ∨ (g.get? a).isSome = true then none else (h.get? a).map fun o => (a, o)
noncomputable def rest (g h : Heap) (L d : Addr) : List (Addr × Obj) := (y6 g h L).filter fun p => decide (p.1 ≠ d)
structure Mod (K : PySem.W.Frag) (mg : Str → Option Value) (base : Heap) : Prop where
  kin : K.In base
  glob : base.Ns mainGlobals mg
  blt : ∃ mb, base.Ns builtinsNs mb ∧ ∀ x : Str, x ≠ "__name__" → mb x = bootBuiltins x
  nolimit : base.NoLimit
structure Cx where
  prog : Program
  w : World
  K : PySem.W.Frag
  mg : Str → Option Value
  base : Heap
  A : Around
  N : List Str
  s₀ : Shared
  H₀ : Hp
  env : Env
  outer : List Env
  stack : List Env
  ex : List Addr
  fn : Str → Bool
  calm : Bool
  pn : List (Addr × Obj)
  xe : Value → Shared → Prop
noncomputable def eh (l : List Env) : List Addr := l.filterMap (·.frame)
noncomputable abbrev Cx.fs (X : Cx) : List Addr := eh X.outer
noncomputable def rN (sc : Scope) (x : Str) : Prop := sc.names.lookup x = some .local ∨ sc.names.lookup x = some .cell ∨ sc.names.lookup x = some .free
noncomputable def Loc (sc : Scope) (x : Str) : Prop := sc.names.lookup x = some .local ∨ sc.names.lookup x = some .cell
noncomputable def Look (env : Env) (h : Heap) (m : Str → Option Value) (x : Str) (u : Value) : Prop :=
  (env.kindOf x = some .local ∧ m x = some u) ∨ ((env.kindOf x = some .cell ∨ env.kindOf x = some .free) ∧ ∃ c, env.cells.lookup x = some c ∧ h.IsCell c (some u))
structure Cx.Ok (X : Cx) : Prop where
  mod : Mod X.K X.mg X.base
  kind : X.env.scope.kind = .function
  glob : X.env.globals = mainGlobals
  blt : X.env.builtins = builtinsNs
  above : X.s₀.heap.objs.size ≤ X.env.locals
  inj : ∀ x y c, X.env.cells.lookup x = some c → X.env.cells.lookup y = some c → x = y
  has : ∀ x, (X.env.kindOf x = some .cell ∨ X.env.kindOf x = some .free) → ∃ c, X.env.cells.lookup x = some c
  cab : ∀ x c, X.fn x = true → X.env.cells.lookup x = some c → X.s₀.heap.objs.size ≤ c
  hd : X.calm = true → X.A.handled = none
  frames : X.A.frames = some X.stack
  stk : X.stack = X.outer ∨ (X.stack = X.env :: X.outer ∧ X.env.frame = some X.env.locals)
  exf : ∀ b ∈ X.ex, b ≠ X.env.locals ∧ ∀ x c, X.env.cells.lookup x = some c → c ≠ b
  bs : ∀ b o, X.base.get? b = some o → X.s₀.heap.get? b = some o ∧ X.H₀ b = none
  bsz : X.base.objs.size ≤ X.s₀.heap.objs.size
  noex : ∀ b o, X.base.get? b = some o → b ∉ X.ex
  exfs : ∀ b ∈ X.ex, b ∉ X.fs
  funs : X.s₀.heap.FunFrames X.base X.outer
  frf : ∀ b ∈ X.fs, X.H₀ b = none
noncomputable def Gn (n : Nat) (g : Array GenState) : Prop := AllBare g ∧ n ≤ g.size
theorem Gn.self {n : Nat} {g : Array GenState} (x : Gn n g) : Gn g.size g := ⟨x.1, Nat.le_refl _⟩
theorem Gn.trans {n : Nat} {g g' : Array GenState} (x : Gn n g) (y : Gn g.size g') : Gn n g' := ⟨y.1, Nat.le_trans x.2 y.2⟩
structure Inv (X : Cx) (pins : List (Addr × Obj)) (σ : List (Option V)) (H : Hp) (s : Shared) : Prop where
  ok : X.Ok
  os : s.os = X.s₀.os
  bare : Gn X.s₀.gens.size s.gens
  base : Un X.fs X.ex X.H₀ H X.s₀.heap s.heap
  loc : ∃ m, s.heap.Ns X.env.locals m ∧ ∀ (i : Nat) (x : Str) (v : V), X.N[i]? = some x → σ[i]? = some (some v) → rN X.env.scope x → ∃ u, RelV v u ∧ Look X.env s.heap m x u
  cell : ∀ x c, X.env.cells.lookup x = some c → ∃ v, s.heap.IsCell c v
  free : H X.env.locals = none
  freeC : ∀ x c, X.env.cells.lookup x = some c → H c = none
  pin : ∀ p ∈ X.pn ++ pins, s.heap.get? p.1 = some p.2 ∧ H p.1 = none ∧ p.1 ≠ X.env.locals ∧ p.1 ∉ X.fs ∧ ∀ v, p.2.data ≠ .cell v
  hok : c9 X.prog X.w H s.heap
  len : σ.length = X.N.length
section
variable {X : Cx} {pins : List (Addr × Obj)} {σ : List (Option V)} {H H' : Hp} {s : Shared} {h' : Heap}
theorem Cx.Ok.GX (ok : X.Ok) {b : Addr} {o : Obj} (e : X.base.get? b = some o) : b ∉ X.fs := fun hb => by
  have := (ok.funs.mem hb).1
  rw [e] at this; cases this
theorem Inv.bs (I : Inv X pins σ H s) : ∀ b o, X.base.get? b = some o → s.heap.get? b = some o ∧ H b = none := fun b o e =>
  ⟨I.base.keep b o (I.ok.bs b o e).1 (I.ok.bs b o e).2 (I.ok.GX e) (I.ok.noex b o e), I.base.free b o (I.ok.bs b o e).1 (I.ok.bs b o e).2 (I.ok.noex b o e)⟩
theorem Inv.bk (I : Inv X pins σ H s) : ∀ b o, X.base.get? b = some o → s.heap.get? b = some o := fun b o e => (I.bs b o e).1
theorem Inv.mod (I : Inv X pins σ H s) : Mod X.K X.mg X.base := I.ok.mod
theorem Inv.eu (I : Inv X pins σ H s) : X.K.In s.heap := I.ok.mod.kin.keeps I.bk
theorem Inv.nolimit (I : Inv X pins σ H s) : s.heap.NoLimit := I.ok.mod.nolimit.keeps I.bk
theorem Inv.lt (I : Inv X pins σ H s) : X.env.locals < s.heap.objs.size := let ⟨_, hn, _⟩ := I.loc; hn.lt
theorem Inv.sz (I : Inv X pins σ H s) : X.s₀.heap.objs.size ≤ s.heap.objs.size := Nat.le_trans I.ok.above (Nat.le_of_lt I.lt)
theorem Inv.AB (I : Inv X pins σ H s) {a : Addr} (h : s.heap.objs.size ≤ a) : a ∉ X.fs := fun hb => by
  obtain ⟨_, o, ho, _⟩ := I.ok.funs.mem hb
  exact absurd (Nat.lt_of_lt_of_le (Heap.lt_size ho) (Nat.le_trans I.sz h)) (Nat.lt_irrefl _)
theorem Inv.m9 (I : Inv X pins σ H s) : ∀ x c, X.env.cells.lookup x = some c → c ≠ X.env.locals := fun x c e z => by
  obtain ⟨v, o, ho, hd⟩ := I.cell x c e
  obtain ⟨m, ⟨o', es, ep, fO, jn, _⟩, _⟩ := I.loc
  rw [z, fO] at ho; cases ho; rw [jn] at hd; cases hd
theorem Inv.funs (I : Inv X pins σ H s) : s.heap.FunFrames X.base X.outer := by
  have all : ∀ (l : List Env), (∀ b ∈ eh l, b ∈ X.fs) → X.s₀.heap.FunFrames X.base l → s.heap.FunFrames X.base l := by
    intro l
    induction l with
    | nil => intro _ _; trivial
    | cons env r ih =>
      intro hs hl
      obtain ⟨hk, ⟨L, o, hf, hn, ho, hd⟩, hr⟩ := hl
      have hL : L ∈ X.fs := hs L (by unfold eh; rw [List.filterMap_cons, hf]; exact List.mem_cons_self)
      obtain ⟨sl, e⟩ := I.base.slot L o ho (I.ok.frf L hL) hL fun z => I.ok.exfs L z hL
      exact ⟨hk, ⟨L, _, hf, hn, e, hd⟩, ih (fun b hb => hs b (by unfold eh; rw [List.filterMap_cons, hf]; exact List.mem_cons_of_mem _ hb)) hr⟩
  exact all X.outer (fun _ hb => hb) I.ok.funs
theorem Inv.stack (I : Inv X pins σ H s) : s.heap.FunFrames X.base X.stack := by
  rcases I.ok.stk with e | ⟨e, hf⟩
  · rw [e]; exact I.funs
  · rw [e]
    obtain ⟨m, hn, _⟩ := I.loc
    refine .cons (by rw [I.ok.kind]; decide) hf hn ?_ I.funs
    exact Heap.get?_none_of_le (Nat.le_trans I.ok.bsz I.ok.above)
theorem Inv.gJ (I : Inv X pins σ H s) : ∀ b ∈ eh X.stack, b ∈ X.env.locals :: X.fs := fun b hb => by
  rcases I.ok.stk with e | ⟨e, hf⟩
  · rw [e] at hb; exact List.mem_cons_of_mem _ hb
  · rw [e] at hb
    unfold eh at hb
    rw [List.filterMap_cons, hf] at hb
    exact hb
theorem Inv.mq (I : Inv X pins σ H s) : ∀ b ∈ eh X.stack, H b = none := fun b hb => by
  rcases List.mem_cons.mp (I.gJ b hb) with e | hb
  · rw [e]; exact I.free
  · obtain ⟨_, o, ho, _⟩ := I.ok.funs.mem hb
    exact I.base.free b o ho (I.ok.frf b hb) fun z => I.ok.exfs b z hb
theorem Inv.step {g' : Array GenState} {t' : Nat} {d' : Drawn} {ch : List Addr} (I : Inv X pins σ H s)
    (kf : ∀ b ∈ ch, (b ∈ X.ex ∨ X.s₀.heap.objs.size ≤ b) ∧ b ≠ X.env.locals ∧ (∀ x c, X.env.cells.lookup x = some c → c ≠ b) ∧ ∀ p ∈ X.pn ++ pins, p.1 ≠ b)
    (keep : ∀ b o, b ≠ X.env.locals → b ∉ X.fs → b ∉ ch → s.heap.get? b = some o → H b = none → h'.get? b = some o)
    (slot : ∀ b o, b ≠ X.env.locals → b ∈ X.fs → b ∉ ch → s.heap.get? b = some o → H b = none → ∃ sl, h'.get? b = some { o with slots := sl }) (free : ∀ b o, b ∉ ch → s.heap.get? b = some o → H b = none → H' b = none)
    (there : ∀ b o, b ∉ ch → s.heap.get? b = some o → ∃ o', h'.get? b = some o')
    (tups : ∀ b xs, H b = some (.tup xs) → H' b = some (.tup xs)) (frzs : ∀ b o u, H b = some (.ef o u) → H' b = some (.ef o u)) (tbls : ∀ b ps, H b = some (.b0 ps) → ∃ more, H' b = some (.b0 (ps ++ more)))
    (ns : ∀ m, s.heap.Ns X.env.locals m → h'.Ns X.env.locals m) (hok : c9 X.prog X.w H' h') (hg : Gn s.gens.size g') :
    Inv X pins σ H' { s with heap := h', gens := g', drawn := d', toks := t' } := by
  have FP : ∀ b o, X.s₀.heap.get? b = some o → b ≠ X.env.locals := fun b o e => Nat.ne_of_lt (Nat.lt_of_lt_of_le (Heap.lt_size e) I.ok.above)
  have yi : ∀ b o, X.s₀.heap.get? b = some o → b ∉ X.ex → b ∉ ch := fun b o e hx hb => by
    rcases (kf b hb).1 with z | z
    · exact hx z
    · exact absurd (Nat.lt_of_lt_of_le (Heap.lt_size e) z) (Nat.lt_irrefl _)
  have cellK : ∀ x c, X.env.cells.lookup x = some c → ∀ v, s.heap.IsCell c v → h'.IsCell c v := fun x c e v ⟨o, ho, hd⟩ => by
    have t8 : c ∉ ch := fun z => (kf c z).2.2.1 x c e rfl
    by_cases hc : c ∈ X.fs
    · obtain ⟨sl, q⟩ := slot c o (I.m9 x c e) hc t8 ho (I.freeC x c e)
      exact ⟨_, q, hd⟩
    · exact ⟨o, keep c o (I.m9 x c e) hc t8 ho (I.freeC x c e), hd⟩
  refine ⟨I.ok, I.os, I.bare.trans hg, ⟨fun b o e n hb hx => ?_, fun b o e n hb hx => ?_, fun b o e n hx => ?_, fun b o e hx => ?_, fun b xs e => tups b xs (I.base.tups b xs e), fun b o xs e => frzs b o xs (I.base.frzs b o xs e), fun b ps e => ?_⟩, ?_, fun x c e => ?_, ?_, fun x c e => ?_, fun p hp => ?_, hok, I.len⟩
  · exact keep b o (FP b o e) hb (yi b o e hx) (I.base.keep b o e n hb hx) (I.base.free b o e n hx)
  · obtain ⟨sl, e1⟩ := I.base.slot b o e n hb hx
    obtain ⟨FQ, e2⟩ := slot b _ (FP b o e) hb (yi b o e hx) e1 (I.base.free b o e n hx)
    exact ⟨FQ, e2⟩
  · obtain ⟨o', e1⟩ := I.base.there b o e hx
    exact free b o' (yi b o e hx) e1 (I.base.free b o e n hx)
  · obtain ⟨o', e1⟩ := I.base.there b o e hx
    exact there b o' (yi b o e hx) e1
  · obtain ⟨m1, e1⟩ := I.base.tbls b ps e
    obtain ⟨m2, e2⟩ := tbls b _ e1
    exact ⟨m1 ++ m2, by rw [e2, Array.append_assoc]⟩
  · obtain ⟨m, hn, hl⟩ := I.loc
    refine ⟨m, ns m hn, fun i x v e1 e2 e3 => ?_⟩
    obtain ⟨u, r, l⟩ := hl i x v e1 e2 e3
    refine ⟨u, r, ?_⟩
    rcases l with l | ⟨k, c, e, z⟩
    · exact .inl l
    · exact .inr ⟨k, c, e, cellK x c e _ z⟩
  · obtain ⟨v, z⟩ := I.cell x c e
    exact ⟨v, cellK x c e v z⟩
  · obtain ⟨m, ⟨o, _, _, ho, _⟩, _⟩ := I.loc
    exact free _ o (fun z => (kf _ z).2.1 rfl) ho I.free
  · obtain ⟨v, o, ho, hd⟩ := I.cell x c e
    exact free c o (fun z => (kf c z).2.2.1 x c e rfl) ho (I.freeC x c e)
  · obtain ⟨e, n, ne, nf, d⟩ := I.pin p hp
    have t8 : p.1 ∉ ch := fun z => (kf p.1 z).2.2.2 p hp rfl
    exact ⟨keep p.1 p.2 ne nf t8 e n, free p.1 p.2 t8 e n, ne, nf, d⟩
theorem Inv.un {t' : Nat} (I : Inv X pins σ H s) (u : Un X.fs [] H H' s.heap h') (hok : c9 X.prog X.w H' h') : Inv X pins σ H' { s with heap := h', toks := t' } := by
  obtain ⟨m, ⟨o, es, ep, ho, r⟩, _⟩ := id I.loc
  obtain ⟨sl, hL⟩ := u.any ho I.free (by simp)
  exact I.step (g' := s.gens) (d' := s.drawn) (ch := []) (fun _ z => nomatch z) (fun b o _ hb _ e n => u.keep b o e n hb (by simp)) (fun b o _ hb _ e n => u.slot b o e n hb (by simp)) (fun b o _ e n => u.free b o e n (by simp)) (fun b o _ e => u.there b o e (by simp)) u.tups u.frzs u.tbls (fun m' hm => by
    obtain ⟨o', AD, AF, fO, r'⟩ := hm
    rw [ho] at fO; cases fO
    exact ⟨_, AD, AF, hL, r'⟩) hok I.bare.self
theorem Inv.call {g' : Array GenState} {t' : Nat} {d' : Drawn} {ch : List Addr} (I : Inv X pins σ H s) (u : Un (eh X.stack) ch H H' s.heap h') (hok : c9 X.prog X.w H' h') (hg : Gn s.gens.size g')
    (kf : ∀ b ∈ ch, (b ∈ X.ex ∨ X.s₀.heap.objs.size ≤ b) ∧ b ≠ X.env.locals ∧ (∀ x c, X.env.cells.lookup x = some c → c ≠ b) ∧ ∀ p ∈ X.pn ++ pins, p.1 ≠ b) :
    Inv X pins σ H' { s with heap := h', gens := g', drawn := d', toks := t' } := by
  obtain ⟨m, ⟨o, es, ep, ho, r⟩, _⟩ := id I.loc
  obtain ⟨sl, hL⟩ := u.any ho I.free fun z => (kf _ z).2.1 rfl
  exact I.step (ch := ch) kf (fun b o hL hb hc e n => u.keep b o e n (fun z => (List.mem_cons.mp (I.gJ b z)).elim hL hb) hc) (fun b o _ _ hc e n => u.any e n hc) (fun b o hc e n => u.free b o e n hc) (fun b o hc e => u.there b o e hc) u.tups u.frzs u.tbls (fun m' hm => by
    obtain ⟨o', AD, AF, fO, r'⟩ := hm
    rw [ho] at fO; cases fO
    exact ⟨_, AD, AF, hL, r'⟩) hok hg
theorem Inv.turned {t' : Nat} {it : Addr} (I : Inv X pins σ H s) (k : ∀ b o, b ≠ it → s.heap.get? b = some o → h'.get? b = some o) (hn : H it = none) (hL : it ≠ X.env.locals)
    (h1 : it ∈ X.ex ∨ X.s₀.heap.objs.size ≤ it) (h2 : ∀ x c, X.env.cells.lookup x = some c → c ≠ it) (h3 : ∀ p ∈ X.pn ++ pins, p.1 ≠ it) : Inv X pins σ H { s with heap := h', toks := t' } := by
  have FR : ∀ b u, H b = some u → b ≠ it := fun b u e z => by rw [z, hn] at e; cases e
  refine I.step (g' := s.gens) (d' := s.drawn) (ch := [it]) (fun b hb => ?_) (fun b o _ _ hc e _ => k b o (fun z => hc (by simp [z])) e) (fun b o _ _ hc e _ => ⟨o.slots, k b o (fun z => hc (by simp [z])) e⟩) (fun _ _ _ _ n => n)
    (fun b o hc e => ⟨o, k b o (fun z => hc (by simp [z])) e⟩) (fun _ _ e => e) (fun _ _ _ e => e) (fun b ps e => ⟨#[], by rw [e]; simp⟩) (fun m hm => ?_) (fun b u e => ?_) I.bare.self
  · have e : b = it := by simpa using hb
    subst e
    exact ⟨h1, hL, h2, h3⟩
  · obtain ⟨o, es, ep, ho, r⟩ := hm
    exact ⟨o, es, ep, k _ o (Ne.symm hL) ho, r⟩
  · refine (I.hok b u e).gH (fun c v hc q => k c v ?_ q) (fun _ q => q) fun _ _ q => q
    rcases hc with z | z
    · rw [z]; exact FR b u e
    · exact FR c _ z
theorem Inv.tok (I : Inv X pins σ H s) (t : Nat) : Inv X pins σ H { s with toks := t } := I.un (h' := s.heap) (t' := t) Un.refl I.hok
theorem Inv.kept {t' : Nat} (I : Inv X pins σ H s) (k : ∀ b u, s.heap.get? b = some u → h'.get? b = some u) : Inv X pins σ H { s with heap := h', toks := t' } := I.un (Un.kept k) (I.hok.kept k)
theorem Inv.laid {a : Addr} {o : HO} {t' : Nat} (I : Inv X pins σ H s) (k : ∀ b u, s.heap.get? b = some u → h'.get? b = some u) (hp : s.heap.objs.size ≤ a) (new : bg X.prog X.w (upd H a o) h' a o) :
    Inv X pins σ (upd H a o) { s with heap := h', toks := t' } := I.un (Un.laid k hp (I.hok.fresh hp)) (I.hok.laid k hp new)
theorem Inv.write {x e : Addr} {o : HO} {t' : Nat} (I : Inv X pins σ H s) (mu : yg (H x)) (he : e = x ∨ H e = some (.own x)) (k : ∀ b u, b ≠ e → s.heap.get? b = some u → h'.get? b = some u) (rM : ∃ u, h'.get? e = some u)
    (new : bg X.prog X.w (upd H x o) h' x o) : Inv X pins σ (upd H x o) { s with heap := h', toks := t' } := I.un (Un.write mu he k rM) (I.hok.write mu he k rM new)
theorem Inv.mr {pins' : List (Addr × Obj)} (I : Inv X pins σ H s) (h : ∀ p ∈ pins', s.heap.get? p.1 = some p.2 ∧ H p.1 = none ∧ p.1 ≠ X.env.locals ∧ p.1 ∉ X.fs ∧ ∀ v, p.2.data ≠ .cell v) : Inv X pins' σ H s :=
  ⟨I.ok, I.os, I.bare, I.base, I.loc, I.cell, I.free, I.freeC, fun p hp => (List.mem_append.mp hp).elim (fun z => I.pin p (List.mem_append_left _ z)) (h p), I.hok, I.len⟩
theorem oS {N : List Str} (hN : N.Nodup) {i j : Nat} {x : Str} (a : N[i]? = some x) (b : N[j]? = some x) : i = j := by
  obtain ⟨h1, e1⟩ := List.getElem?_eq_some_iff.mp a
  obtain ⟨h2, e2⟩ := List.getElem?_eq_some_iff.mp b
  exact (List.getElem_inj hN).mp (e1.trans e2.symm)
theorem store_ok2 {M : Model} {A : Around} {E : Value → Shared → Prop} {i : Nat} {x : Str} {v : V} {u : Value} {Q : Unit → Shared → Prop} (I : Inv X pins σ H s) (hN : X.N.Nodup) (hi : X.N[i]? = some x) (hx : Loc X.env.scope x) (r : RelV v u)
    (h : ∀ s', Inv X pins (σ.set i (some v)) H s' → (∃ a, Heap.SameBut a s.heap s'.heap ∧ (a = X.env.locals ∨ X.env.cells.lookup x = some a)) → Q () s') (hf : X.fn x = true ∨ X.env.scope.names.lookup x = some .local := by first | exact .inl rfl | exact .inr rfl | assumption) : wpAny M A (storeName X.env x u) Q E s := by
  obtain ⟨m, hn, hl⟩ := id I.loc
  have GY : (X.env.scope.kind == .class || (X.env.scope.kind == .module && X.env.locals != X.env.globals)) = false := by rw [I.ok.kind]; rfl
  have AG : i < σ.length := by rw [I.len]; exact (List.getElem?_eq_some_iff.mp hi).1
  have m9 := I.m9
  have tracked : ∀ {a : Addr} {h' : Heap}, (∃ o, s.heap.get? a = some o ∧ H a = none) → Heap.SameBut a s.heap h' → c9 X.prog X.w H h' := fun {a h'} ha hs b ob e => by
    obtain ⟨_, _, yj⟩ := ha
    refine (I.hok b ob e).gH (fun c w' hc q => (hs.2 c ?_).trans q) (fun _ q => q) fun _ _ q => q
    rintro rfl
    rcases hc with rfl | hc
    · rw [yj] at e; cases e
    · rw [yj] at hc; cases hc
  rcases hx with hk | hk
  · refine wpAny_storeName_local hk hn (fun h' g7 hs => ?_) GY
    obtain ⟨oL, _, _, HZ, _⟩ := id hn
    refine h _ ⟨I.ok, I.os, I.bare, ⟨fun b o e n hb hx => ?_, fun b o e n hb hx => ?_, I.base.free, fun b o e hx => ?_, I.base.tups, I.base.frzs, I.base.tbls⟩, ⟨_, g7, fun j y v' e1 e2 e3 => ?_⟩, fun y c e => ?_, I.free, I.freeC, fun p hp => ?_, tracked ⟨oL, HZ, I.free⟩ hs, by simpa using I.len⟩ ⟨_, hs, .inl rfl⟩
    · exact (hs.2 b (Nat.ne_of_lt (Nat.lt_of_lt_of_le (Heap.lt_size e) I.ok.above))).trans (I.base.keep b o e n hb hx)
    · obtain ⟨sl, e1⟩ := I.base.slot b o e n hb hx
      exact ⟨sl, (hs.2 b (Nat.ne_of_lt (Nat.lt_of_lt_of_le (Heap.lt_size e) I.ok.above))).trans e1⟩
    · obtain ⟨o', e1⟩ := I.base.there b o e hx
      exact ⟨o', (hs.2 b (Nat.ne_of_lt (Nat.lt_of_lt_of_le (Heap.lt_size e) I.ok.above))).trans e1⟩
    · by_cases hj : j = i
      · subst hj
        rw [hi] at e1; cases e1
        rw [List.getElem?_set_self AG] at e2
        cases e2
        exact ⟨u, r, .inl ⟨hk, by simp⟩⟩
      · rw [List.getElem?_set_ne (Ne.symm hj)] at e2
        obtain ⟨u', r', q⟩ := hl j y v' e1 e2 e3
        refine ⟨u', r', ?_⟩
        rcases q with ⟨k, e⟩ | ⟨k, c, e, z⟩
        · refine .inl ⟨k, ?_⟩
          have : y ≠ x := fun e => hj (oS hN e1 (e ▸ hi))
          simp [this, e]
        · exact .inr ⟨k, c, e, z.sameBut hs (m9 y c e)⟩
    · obtain ⟨w', z⟩ := I.cell y c e
      exact ⟨w', z.sameBut hs (m9 y c e)⟩
    · obtain ⟨e, n, ne, nf, d⟩ := I.pin p hp
      exact ⟨(hs.2 p.1 ne).trans e, n, ne, nf, d⟩
  · have AH : X.fn x = true := by
      rcases hf with z | z
      · exact z
      · rw [z] at hk; cases hk
    obtain ⟨c, hc⟩ := I.ok.has x (.inl hk)
    obtain ⟨w', z⟩ := I.cell x c hc
    refine wpAny_storeName_cell I.ok.kind hk hc z (fun h' yk hs => ?_)
    obtain ⟨oc, FT, GZ⟩ := id z
    refine h { s with heap := h' } ⟨I.ok, I.os, I.bare, ⟨fun b o e n hb hx => ?_, fun b o e n hb hx => ?_, I.base.free, fun b o e hx => ?_, I.base.tups, I.base.frzs, I.base.tbls⟩, ⟨m, hn.sameBut hs (Ne.symm (m9 x c hc)), fun j y v' e1 e2 e3 => ?_⟩, fun y c' e => ?_, I.free, I.freeC, fun p hp => ?_, tracked ⟨oc, FT, I.freeC x c hc⟩ hs, by simpa using I.len⟩ ⟨c, hs, .inr hc⟩
    · exact (hs.2 b (Nat.ne_of_lt (Nat.lt_of_lt_of_le (Heap.lt_size e) (I.ok.cab x c AH hc)))).trans (I.base.keep b o e n hb hx)
    · obtain ⟨sl, e1⟩ := I.base.slot b o e n hb hx
      exact ⟨sl, (hs.2 b (Nat.ne_of_lt (Nat.lt_of_lt_of_le (Heap.lt_size e) (I.ok.cab x c AH hc)))).trans e1⟩
    · obtain ⟨o', e1⟩ := I.base.there b o e hx
      exact ⟨o', (hs.2 b (Nat.ne_of_lt (Nat.lt_of_lt_of_le (Heap.lt_size e) (I.ok.cab x c AH hc)))).trans e1⟩
    · by_cases hj : j = i
      · subst hj
        rw [hi] at e1; cases e1
        rw [List.getElem?_set_self AG] at e2
        cases e2
        exact ⟨u, r, .inr ⟨.inl hk, c, hc, yk⟩⟩
      · rw [List.getElem?_set_ne (Ne.symm hj)] at e2
        obtain ⟨u', r', q⟩ := hl j y v' e1 e2 e3
        refine ⟨u', r', ?_⟩
        rcases q with q | ⟨k, c', e, z'⟩
        · exact .inl q
        · refine .inr ⟨k, c', e, z'.sameBut hs ?_⟩
          rintro rfl
          exact hj (oS hN e1 (I.ok.inj _ _ _ e hc ▸ hi))
    · by_cases FU : c' = c
      · subst FU; exact ⟨_, yk⟩
      · obtain ⟨w2, z2⟩ := I.cell y c' e
        exact ⟨w2, z2.sameBut hs FU⟩
    · obtain ⟨e, n, ne, nf, d⟩ := I.pin p hp
      refine ⟨(hs.2 p.1 ?_).trans e, n, ne, nf, d⟩
      intro q
      rw [q, FT] at e
      have q' : oc = p.2 := Option.some.inj e
      exact d w' (by rw [← q']; exact GZ)
theorem oT {M : Model} {A : Around} {E : Value → Shared → Prop} {i : Nat} {x : Str} {v : V} {u : Value} {Q : Unit → Shared → Prop} (I : Inv X pins σ H s) (hN : X.N.Nodup) (hi : X.N[i]? = some x) (hx : Loc X.env.scope x) (r : RelV v u)
    (h : ∀ s', Inv X pins (σ.set i (some v)) H s' → Q () s') (hf : X.fn x = true ∨ X.env.scope.names.lookup x = some .local := by first | exact .inl rfl | exact .inr rfl | assumption) : wpAny M A (storeName X.env x u) Q E s :=
  store_ok2 I hN hi hx r (fun s' I' _ => h s' I') hf
theorem Inv.oB {s' : Shared} {ch : List Addr} (I : Inv X pins σ H s) (ho : s'.os = s.os) (u : Un (eh X.stack) ch H H' s.heap s'.heap) (hok : c9 X.prog X.w H' s'.heap) (hg : Gn s.gens.size s'.gens)
    (kf : ∀ b ∈ ch, (b ∈ X.ex ∨ X.s₀.heap.objs.size ≤ b) ∧ b ≠ X.env.locals ∧ (∀ x c, X.env.cells.lookup x = some c → c ≠ b) ∧ ∀ p ∈ X.pn ++ pins, p.1 ≠ b) : Inv X pins σ H' s' := by
  obtain ⟨h', g', d', t', o'⟩ := s'
  have e : o' = s.os := ho
  subst e
  exact I.call (g' := g') (t' := t') (d' := d') u hok hg kf
end
noncomputable abbrev XK := Value → Option Addr → Hp → Prop
noncomputable abbrev St := List (Option V)
noncomputable abbrev VK := V → Hp → Prop
noncomputable abbrev TE := St → Hp → VK → Prop
noncomputable abbrev TT := St → Hp → (Bool → Hp → Prop) → Prop
noncomputable abbrev TA := St → Hp → (List V → Hp → Prop) → Prop
structure Ends where
  nx : St → Hp → Prop
  rt : VK
  bk : St → Hp → Prop := fun _ _ => False
  ct : St → Hp → Prop := fun _ _ => False
noncomputable abbrev TS := Ends → St → Hp → Prop
noncomputable def EP (X : Cx) (pins : List (Addr × Obj)) (σ : St) (Q : VK) (u : Value) (s' : Shared) : Prop := ∃ v H', Inv X pins σ H' s' ∧ RelV v u ∧ Q v H'
noncomputable def TP (X : Cx) (pins : List (Addr × Obj)) (σ : St) (Q : Bool → Hp → Prop) (b : Bool) (s' : Shared) : Prop := ∃ H', Inv X pins σ H' s' ∧ Q b H'
noncomputable def AP (X : Cx) (pins : List (Addr × Obj)) (σ : St) (Q : List V → Hp → Prop) (us : List Value) (s' : Shared) : Prop := ∃ vs H', Inv X pins σ H' s' ∧ Vals vs us ∧ Q vs H'
noncomputable def SP (X : Cx) (pins : List (Addr × Obj)) (D : Ends) (f : Flow) (s' : Shared) : Prop :=
  match f with
  | .next => ∃ aF H', Inv X pins aF H' s' ∧ D.nx aF H'
  | .brk => ∃ aF H', Inv X pins aF H' s' ∧ D.bk aF H'
  | .cont => ∃ aF H', Inv X pins aF H' s' ∧ D.ct aF H'
  | .ret u => ∃ v aF H', Inv X pins aF H' s' ∧ RelV v u ∧ D.rt v H'
structure PE (X : Cx) (e : Expr) (t : TE) : Prop where
  run : ∀ (pins : List (Addr × Obj)) (s : Shared) (σ : St) (H : Hp) (Q : VK), Inv X pins σ H s → t σ H Q → wpAny (model X.prog X.w) X.A (eval e X.env) (EP X pins σ Q) X.xe s
instance {X : Cx} {e : Expr} {t : TE} : CoeFun (PE X e t) (fun _ => ∀ (pins : List (Addr × Obj)) (s : Shared) (σ : St) (H : Hp) (Q : VK), Inv X pins σ H s → t σ H Q → wpAny (model X.prog X.w) X.A (eval e X.env) (EP X pins σ Q) X.xe s) := ⟨PE.run⟩
structure PT (X : Cx) (e : Expr) (t : TT) : Prop where
  run : ∀ (pins : List (Addr × Obj)) (s : Shared) (σ : St) (H : Hp) (Q : Bool → Hp → Prop), Inv X pins σ H s → t σ H Q → wpAny (model X.prog X.w) X.A (isTrue e X.env (eval e X.env)) (TP X pins σ Q) X.xe s
instance {X : Cx} {e : Expr} {t : TT} : CoeFun (PT X e t) (fun _ => ∀ (pins : List (Addr × Obj)) (s : Shared) (σ : St) (H : Hp) (Q : Bool → Hp → Prop), Inv X pins σ H s → t σ H Q → wpAny (model X.prog X.w) X.A (isTrue e X.env (eval e X.env)) (TP X pins σ Q) X.xe s) := ⟨PT.run⟩
noncomputable def PW (X : Cx) (e : Expr) (t : TT) : Prop :=
  ∀ (whole : Sem Value) (pins : List (Addr × Obj)) (s : Shared) (σ : St) (H : Hp) (Q : Bool → Hp → Prop), Inv X pins σ H s → t σ H Q → wpAny (model X.prog X.w) X.A (isTrue e X.env whole) (TP X pins σ Q) X.xe s
theorem PW.pt {X : Cx} {e : Expr} {t : TT} (h : PW X e t) : PT X e t := ⟨h _⟩
structure PA (X : Cx) (es : List Expr) (t : TA) : Prop where
  run : ∀ (pos : Pos) (pins : List (Addr × Obj)) (s : Shared) (σ : St) (H : Hp) (Q : List V → Hp → Prop), Inv X pins σ H s → t σ H Q → wpAny (model X.prog X.w) X.A (spliced (backTo pos (starEach es X.env))) (AP X pins σ Q) X.xe s
instance {X : Cx} {es : List Expr} {t : TA} : CoeFun (PA X es t) (fun _ => ∀ (pos : Pos) (pins : List (Addr × Obj)) (s : Shared) (σ : St) (H : Hp) (Q : List V → Hp → Prop), Inv X pins σ H s → t σ H Q → wpAny (model X.prog X.w) X.A (spliced (backTo pos (starEach es X.env))) (AP X pins σ Q) X.xe s) := ⟨PA.run⟩
structure PS (X : Cx) (st : Stmt) (t : TS) : Prop where
  run : ∀ (pins : List (Addr × Obj)) (s : Shared) (σ : St) (H : Hp) (D : Ends), Inv X pins σ H s → t D σ H → wpAny (model X.prog X.w) X.A (exec st X.env) (SP X pins D) X.xe s
instance {X : Cx} {st : Stmt} {t : TS} : CoeFun (PS X st t) (fun _ => ∀ (pins : List (Addr × Obj)) (s : Shared) (σ : St) (H : Hp) (D : Ends), Inv X pins σ H s → t D σ H → wpAny (model X.prog X.w) X.A (exec st X.env) (SP X pins D) X.xe s) := ⟨PS.run⟩
structure dN (X : Cx) (st : List Stmt) (t : TS) : Prop where
  run : ∀ (pins : List (Addr × Obj)) (s : Shared) (σ : St) (H : Hp) (D : Ends), Inv X pins σ H s → t D σ H → wpAny (model X.prog X.w) X.A (execs st X.env) (SP X pins D) X.xe s
instance {X : Cx} {st : List Stmt} {t : TS} : CoeFun (dN X st t) (fun _ => ∀ (pins : List (Addr × Obj)) (s : Shared) (σ : St) (H : Hp) (D : Ends), Inv X pins σ H s → t D σ H → wpAny (model X.prog X.w) X.A (execs st X.env) (SP X pins D) X.xe s) := ⟨dN.run⟩
theorem thn {α : Type} {t : Sem α} {Q Q' : α → Shared → Prop} {M : Model} {A : Around} {E : Value → Shared → Prop} {s : Shared} (h : wpAny M A t Q E s) (hQ : ∀ a s, Q a s → Q' a s) : wpAny M A t Q' E s := wpAny_mono h hQ fun _ _ x => x
section
variable {X : Cx}
theorem bin {a b : Expr} {ta tb : TE} (ha : PE X a ta) (hb : PE X b tb) {pins : List (Addr × Obj)} {s : Shared} {σ : St} {H : Hp} {R : V → V → Hp → Prop} (I : Inv X pins σ H s) (h : ta σ H fun x H1 => tb σ H1 fun y H2 => R x y H2)
    {α : Type} {Q : α → Shared → Prop} {f : Value → Value → Sem α}
    (hf : ∀ v u s2 x y H2, Inv X pins σ H2 s2 → RelV x v → RelV y u → R x y H2 → wpAny (model X.prog X.w) X.A (f v u) Q X.xe s2) :
    wpAny (model X.prog X.w) X.A (eval a X.env) (fun v aq => wpAny (model X.prog X.w) X.A (eval b X.env) (fun u kG => wpAny (model X.prog X.w) X.A (f v u) Q X.xe kG) X.xe aq) X.xe s := by
  refine thn (ha pins s σ H _ I h) fun v s1 ⟨x, H1, I1, r1, q1⟩ => ?_
  refine thn (hb pins s1 σ H1 _ I1 q1) fun u s2 ⟨y, H2, I2, r2, q2⟩ => ?_
  exact hf v u s2 x y H2 I2 r1 r2 q2
noncomputable def G0 (i : Nat) : TE := fun σ H Q => ∃ v, σ[i]? = some (some v) ∧ Q v H
noncomputable def tC (v : V) : TE := fun _ H Q => Q v H
theorem AI {i : Nat} {x : Str} {pos : Pos} (hN : X.N[i]? = some x) (hv : rN X.env.scope x) (hd : (x == ("__debug__" : Str)) = false := by decide) (fP : (x == ("__classdict__" : Str)) = false := by decide) : PE X (.Name x pos) (G0 i) := by
  refine ⟨?_⟩
  intro pins s σ H Q I h
  obtain ⟨v, e, h⟩ := h
  obtain ⟨m, hn, hl⟩ := I.loc
  obtain ⟨u, r, l⟩ := hl i x v hN e hv
  have fin : EP X pins σ Q u s := ⟨v, H, I, r, h⟩
  rcases l with ⟨hk, hm⟩ | ⟨hk, c, hc, oC⟩
  · exact wpAny_Name (wpAny_loadName_local I.ok.kind hk hn hm fin) hd
  · rcases hk with hk | hk
    · exact wpAny_Name (wpAny_loadName_cell I.ok.kind hk hc oC fin) hd
    · exact wpAny_Name (wpAny_loadName_free I.ok.kind hk hc oC fin fP) hd
theorem AJ {i j pos} : PE X (.Constant (.int i) j pos) (tC (.int i)) := ⟨fun _ _ _ H _ I h => wpAny_Constant_int ⟨.int i, H, I.tok _, ⟨_, rfl⟩, h⟩⟩
theorem Eh {b j pos} : PE X (.Constant (.bool b) j pos) (tC (.bl b)) := ⟨fun _ _ _ H _ I h => Constant_bool ⟨.bl b, H, I, rfl, h⟩⟩
theorem AK {j pos} : PE X (.Constant .none j pos) (tC .aj) := ⟨fun _ _ _ H _ I h => Constant_none ⟨.aj, H, I, rfl, h⟩⟩
theorem AO {x j pos} : PE X (.Constant (.str x) j pos) (tC (.str x)) := ⟨fun _ _ _ H _ I h => Calls.Constant_str ⟨.str x, H, I.tok _, ⟨_, rfl⟩, h⟩⟩
noncomputable def Gl (X : Cx) (x : Str) : Prop := X.env.kindOf x = some .globalImplicit
theorem j4 {E : Value → Shared → Prop} {pins : List (Addr × Obj)} {s : Shared} {σ : St} {H : Hp} {x : Str} {u : Value} {pos : Pos} {Q : Value → Shared → Prop} (I : Inv X pins σ H s) (hg : Gl X x) (hm : X.mg x = some u) (h : Q u s)
    (hd : (x == ("__debug__" : Str)) = false := by decide) : wpAny (model X.prog X.w) X.A (eval (.Name x pos) X.env) Q E s :=
  Calls.Name_function_global I.ok.kind hg (Calls.loadGlobal_global (by rw [I.ok.glob]; exact I.mod.glob.keeps I.bk) hm h) hd
theorem e7 {E : Value → Shared → Prop} {pins : List (Addr × Obj)} {s : Shared} {σ : St} {H : Hp} {x : Str} {u : Value} {pos : Pos} {Q : Value → Shared → Prop} (I : Inv X pins σ H s) (hg : Gl X x) (hm : X.mg x = none) (hv : bootBuiltins x = some u) (h : Q u s)
    (hn : x ≠ "__name__" := by decide) (hd : (x == ("__debug__" : Str)) = false := by decide) : wpAny (model X.prog X.w) X.A (eval (.Name x pos) X.env) Q E s := by
  obtain ⟨mb, h1, h2⟩ := I.mod.blt
  exact Calls.Name_function_global I.ok.kind hg (Calls.loadGlobal_builtin (by rw [I.ok.glob]; exact I.mod.glob.keeps I.bk) hm (by rw [I.ok.blt]; exact h1.keeps I.bk) ((h2 x hn).trans hv) h) hd
theorem mw {x : Str} {v : V} {u : Value} {pos : Pos} (hg : Gl X x) (hm : X.mg x = some u) (r : RelV v u) (hd : (x == ("__debug__" : Str)) = false := by decide) : PE X (.Name x pos) (tC v) := ⟨fun _ _ _ H _ I h => j4 I hg hm ⟨v, H, I, r, h⟩ hd⟩
theorem y7 {x : Str} {v : V} {u : Value} {pos : Pos} (hg : Gl X x) (hm : X.mg x = none) (hv : bootBuiltins x = some u) (r : RelV v u) (hn : x ≠ "__name__" := by decide) (hd : (x == ("__debug__" : Str)) = false := by decide) : PE X (.Name x pos) (tC v) := ⟨fun _ _ _ H _ I h => e7 I hg hm hv ⟨v, H, I, r, h⟩ hn hd⟩
variable {a b : Expr} {ta tb : TE} {pos : Pos}
noncomputable def PC (X : Cx) (op : CmpOp) (a b : Expr) (t : TE) : Prop :=
  ∀ (pins : List (Addr × Obj)) (s : Shared) (σ : St) (H : Hp) (Q : VK), Inv X pins σ H s → t σ H Q →
    wpAny (model X.prog X.w) X.A (eval a X.env) (fun v aq => wpAny (model X.prog X.w) X.A (eval b X.env) (fun u kG => wpAny (model X.prog X.w) X.A (compareOp op v u) (EP X pins σ Q) X.xe kG) X.xe aq) X.xe s
theorem wm (b : Expr) {op : CmpOp} (h : op ≠ .In) (h2 : op ≠ .NotIn) : behindInMarks op b = false := by
  have e1 : (op == CmpOp.In) = false := by cases op <;> first | rfl | exact absurd rfl h
  have e2 : (op == CmpOp.NotIn) = false := by cases op <;> first | rfl | exact absurd rfl h2
  cases b <;> simp [behindInMarks, e1, e2]
noncomputable def tB (t : TE) : TT := fun σ H Q => t σ H fun x H1 => ∃ c, x = .bl c ∧ Q c H1
theorem Ia {op : CmpOp} {t : TE} (h : PC X op a b t) (h1 : behindInMarks op b = false := by first | exact wm _ (by decide) (by decide) | rfl) : PT X (.Compare a [op] [b] pos) (tB t) := by
  refine ⟨?_⟩
  intro pins s σ H Q I hw
  refine wpAny_isTrue_Compare1 (thn (h pins s σ H _ I hw) fun v s1 h1 => thn h1 fun u s2 h2 => thn h2 fun c s3 ⟨x, H1, I1, r1, q1⟩ => ?_) h1
  obtain ⟨d, rfl, q⟩ := q1
  cases r1
  exact wpAny_truthy_bool ⟨H1, I1, q⟩
theorem AQ {e : Expr} {t : TE} (h : PE X e t) (he : ∀ whole, isTrue e X.env whole = (do let v ← whole; standAt e.pos; holding [v] (truthy v)) := by intro _; rfl) : PT X e (tB t) := by
  refine ⟨?_⟩
  intro pins s σ H Q I hw
  refine isTrue_plain (thn (h pins s σ H _ I hw) fun v s1 ⟨x, H1, I1, r1, q1⟩ => ?_) (he _)
  obtain ⟨d, rfl, q⟩ := q1
  cases r1
  exact wpAny_truthy_bool ⟨H1, I1, q⟩
variable {tA t9 : TT} {rest : List Expr}
noncomputable def Ib (t u : TT) : TT := fun σ H Q => t σ H fun c H1 => if c = true then Q true H1 else u σ H1 Q
noncomputable def G1 (t : TT) : TT := fun σ H Q => t σ H fun c H1 => Q (!c) H1
theorem AR (ha : PT X a tA) : PW X (.BoolOp .Or [a] pos) tA := by
  intro wh pins s σ H Q I h
  refine isTrue_or (thn (ha pins s σ H Q I h) fun c s1 e => ?_)
  cases c with
  | false => exact isTrue_or_nil e
  | true => exact e
theorem Ei (ha : PT X a tA) (hb : PW X (.BoolOp .Or (b :: rest) pos) t9) : PW X (.BoolOp .Or (a :: b :: rest) pos) (Ib tA t9) := by
  intro wh pins s σ H Q I h
  refine isTrue_or (thn (ha pins s σ H _ I h) fun c s1 ⟨H1, I1, q1⟩ => ?_)
  cases c with
  | true => exact ⟨H1, I1, q1⟩
  | false => exact hb wh pins s1 σ H1 Q I1 q1
theorem AU (ha : PT X a tA) : PT X (.UnaryOp .Not a pos) (G1 tA) := by
  refine ⟨?_⟩
  intro pins s σ H Q I h
  exact isTrue_not (ha pins s σ H (fun c H1 => Q (!c) H1) I h)
noncomputable def Ej (ta tb : TE) : TE := fun σ H Q => ta σ H fun x H1 => ∃ c, x = .bl c ∧ if c = true then tb σ H1 Q else Q (.bl false) H1
noncomputable def Ek (ta : TE) : TE := fun σ H Q => ta σ H fun x H1 => ∃ c, x = .bl c ∧ Q (.bl (!c)) H1
theorem AV {op} {t : TE} (h : PE X a t) : PE X (.BoolOp op [a] pos) t := ⟨fun pins s σ H Q I hw => BoolOp_one (h pins s σ H Q I hw)⟩
theorem AW (ha : PE X a ta) (hb : PE X (.BoolOp .And (b :: rest) pos) tb) : PE X (.BoolOp .And (a :: b :: rest) pos) (Ej ta tb) := by
  refine ⟨?_⟩
  intro pins s σ H Q I h
  refine BoolOp_and (thn (ha pins s σ H _ I h) fun v s1 ⟨x, H1, I1, r1, q1⟩ => ?_)
  obtain ⟨c, rfl, q1⟩ := q1
  cases r1
  refine wpAny_truthy_bool ?_
  cases c with
  | true => exact hb pins s1 σ H1 Q I1 q1
  | false => exact ⟨.bl false, H1, I1, rfl, q1⟩
theorem AX (ha : PE X a ta) : PE X (.UnaryOp .Not a pos) (Ek ta) := by
  refine ⟨?_⟩
  intro pins s σ H Q I h
  refine UnaryOp_ (thn (ha pins s σ H _ I h) fun v s1 ⟨x, H1, I1, r1, q1⟩ => ?_)
  obtain ⟨c, rfl, q1⟩ := q1
  cases r1
  exact not_of (wpAny_truthy_bool ⟨.bl (!c), H1, I1, rfl, q1⟩)
end
noncomputable def bH (K : PySem.W.Frag) (H : Hp) (a : Addr) (xs : List V) : Prop :=
  Rd H a (.lst xs) ∨
    ∃ (o : Obj) (its : Array Value) (n : Nat), K.lookup a = some o ∧ o.cls = .type "list" ∧ o.dict = none ∧ o.data = .seq its n ∧ its.size ≤ sizeLine ∧ Vals xs its.toList
noncomputable def bR (K : PySem.W.Frag) (H : Hp) (a : Addr) (xs : List V) : Prop :=
  Rd H a (.tup xs) ∨
    ∃ (o : Obj) (its : Array Value) (n : Nat), K.lookup a = some o ∧ o.cls = .type "tuple" ∧ o.data = .seq its n ∧ its.size ≤ sizeLine ∧ Vals xs its.toList
noncomputable def G2 : Value → Option V
  | .none => some .aj
  | .bool b => some (.bl b)
  | .int i _ => some (.int i)
  | .str x _ => some (.str x)
  | .bytes b _ => some (.gG b)
  | .float b _ => some (.rK b)
  | .ref a => some (.ref a)
  | .type n => some (.ty n)
  | _ => none
theorem RelV.abs {x : V} {u : Value} (r : RelV x u) : G2 u = some x := by
  cases x with
  | aj => cases r; rfl
  | bl _ => cases r; rfl
  | int _ => obtain ⟨t, rfl⟩ := r; rfl
  | str _ => obtain ⟨t, rfl⟩ := r; rfl
  | gG _ => obtain ⟨t, rfl⟩ := r; rfl
  | rK _ => obtain ⟨t, rfl⟩ := r; rfl
  | ref _ => cases r; rfl
  | ty _ => cases r; rfl
theorem RelV.inj {x y : V} {u : Value} (r : RelV x u) (q : RelV y u) : x = y := Option.some.inj (r.abs.symm.trans q.abs)
theorem Vals.inj : ∀ {xs ys : List V} {us : List Value}, Vals xs us → Vals ys us → xs = ys
  | _, _, _, .nil, .nil => rfl
  | _, _, _, .cons r t, .cons r' t' => by rw [r.inj r', Vals.inj t t']
section
variable {X : Cx} {pins : List (Addr × Obj)} {σ : St} {H : Hp} {s : Shared} {a : Addr} {xs ys : List V}
theorem bH.of {K : PySem.W.Frag} (h : H a = some (.lst xs)) : bH K H a xs := .inl (.inl h)
theorem bR.of {K : PySem.W.Frag} (h : H a = some (.tup xs)) : bR K H a xs := .inl (.inl h)
theorem Inv.list (I : Inv X pins σ H s) (h : bH X.K H a xs) : ∃ its : List Value, Vals xs its ∧ PlainL s.heap a its.toArray ∧ xs.length ≤ sizeLine := by
  rcases h with h | ⟨o, its, n, hk, hc, hd, hs, hz, r⟩
  · obtain ⟨z, its, n, r, e⟩ := h.ok I.hok
    exact ⟨its, r, ⟨_, n, e, rfl, rfl, rfl⟩, z⟩
  · refine ⟨its.toList, r, ⟨o, n, I.eu a o hk, hc, hd, by simpa using hs⟩, ?_⟩
    have e := r.length
    simp only [Array.length_toList] at e
    omega
theorem Inv.tuple (I : Inv X pins σ H s) (h : bR X.K H a xs) : ∃ its : List Value, Vals xs its ∧ IsTup s.heap a its.toArray ∧ xs.length ≤ sizeLine := by
  rcases h with h | ⟨o, its, n, hk, hc, hs, hz, r⟩
  · obtain ⟨z, its, r, p⟩ := h.ok I.hok
    exact ⟨its, r, fv.tup p, z⟩
  · refine ⟨its.toList, r, ⟨o, I.eu a o hk, hc, n, by simpa using hs⟩, ?_⟩
    have e := r.length
    simp only [Array.length_toList] at e
    omega
theorem Inv.wo (I : Inv X pins σ H s) (h : bH X.K H a xs) (h' : bH X.K H a ys) : xs = ys := by
  obtain ⟨its, r, ⟨o, n, e, _, _, d⟩, _⟩ := I.list h
  obtain ⟨its', r', ⟨o', n', e', _, _, d'⟩, _⟩ := I.list h'
  rw [e] at e'; cases e'
  rw [d] at d'
  injection d' with d1 _
  have : its = its' := by simpa using congrArg Array.toList d1
  subst this
  exact r.inj r'
theorem Inv.ua (I : Inv X pins σ H s) (h : bR X.K H a xs) (h' : bR X.K H a ys) : xs = ys := by
  obtain ⟨its, r, ⟨o, e, _, n, d⟩, _⟩ := I.tuple h
  obtain ⟨its', r', ⟨o', e', _, n', d'⟩, _⟩ := I.tuple h'
  rw [e] at e'; cases e'
  rw [d] at d'
  injection d' with d1 _
  have : its = its' := by simpa using congrArg Array.toList d1
  subst this
  exact r.inj r'
end
noncomputable abbrev Cx.iu (X : Cx) (E : Value → Shared → Prop) : Cx := { X with xe := E }
noncomputable abbrev Cx.ub (X : Cx) : Cx := X.iu fun _ _ => False
theorem Cx.Ok.iu {X : Cx} (ok : X.Ok) (E : Value → Shared → Prop) : (X.iu E).Ok :=
  ⟨ok.mod, ok.kind, ok.glob, ok.blt, ok.above, ok.inj, ok.has, ok.cab, ok.hd, ok.frames, ok.stk, ok.exf, ok.bs, ok.bsz, ok.noex, ok.exfs, ok.funs, ok.frf⟩
theorem Cx.Ok.fQ {X : Cx} {E : Value → Shared → Prop} (ok : (X.iu E).Ok) : X.Ok :=
  ⟨ok.mod, ok.kind, ok.glob, ok.blt, ok.above, ok.inj, ok.has, ok.cab, ok.hd, ok.frames, ok.stk, ok.exf, ok.bs, ok.bsz, ok.noex, ok.exfs, ok.funs, ok.frf⟩
section
variable {X : Cx} {pins : List (Addr × Obj)} {σ : St} {H : Hp} {s : Shared} {E : Value → Shared → Prop}
theorem Inv.iu (I : Inv X pins σ H s) (E : Value → Shared → Prop) : Inv (X.iu E) pins σ H s := ⟨I.ok.iu E, I.os, I.bare, I.base, I.loc, I.cell, I.free, I.freeC, I.pin, I.hok, I.len⟩
theorem Inv.fQ (I : Inv (X.iu E) pins σ H s) : Inv X pins σ H s := ⟨I.ok.fQ, I.os, I.bare, I.base, I.loc, I.cell, I.free, I.freeC, I.pin, I.hok, I.len⟩
theorem SP.fQ {D : Ends} {f : Flow} {s' : Shared} (h : SP (X.iu E) pins D f s') : SP X pins D f s' := by
  cases f with
  | next => obtain ⟨aF, H', I, q⟩ := h; exact ⟨aF, H', I.fQ, q⟩
  | brk => obtain ⟨aF, H', I, q⟩ := h; exact ⟨aF, H', I.fQ, q⟩
  | cont => obtain ⟨aF, H', I, q⟩ := h; exact ⟨aF, H', I.fQ, q⟩
  | ret u => obtain ⟨v, aF, H', I, r, q⟩ := h; exact ⟨v, aF, H', I.fQ, r, q⟩
theorem dN.ub {st : List Stmt} {t : TS} (h : dN X.ub st t) : dN X st t := ⟨fun pins s σ H D I hw =>
  wpAny_mono (h pins s σ H D (I.iu _) hw) (fun _ _ q => q.fQ) fun _ _ z => False.elim z⟩
end
section
variable {X : Cx} {st : Stmt} {rest : List Stmt} {t u : TS} {e : Expr} {te : TE} {pos : Pos}
noncomputable def El : TS := fun D σ H => D.nx σ H
noncomputable def G3 (t u : TS) : TS := fun D σ H => t { D with nx := u D } σ H
theorem y9 : dN X [] El := ⟨fun _ _ σ H _ I h => wpAny_execs_nil ⟨σ, H, I, h⟩⟩
theorem wq (h1 : PS X st t) (h2 : dN X rest u) : dN X (st :: rest) (G3 t u) := by
  refine ⟨?_⟩
  intro pins s σ H D I h
  refine wpAny_execs_cons (thn (h1 pins s σ H { D with nx := u D } I h) fun f s1 q => ?_)
  cases f with
  | next =>
    obtain ⟨aF, H', I', q⟩ := q
    exact h2 pins s1 aF H' D I' q
  | ret v => exact q
  | brk => exact q
  | cont => exact q
theorem zb (h1 : PS X st t) : dN X [st] t := by
  refine ⟨?_⟩
  intro pins s σ H D I h
  refine wpAny_execs_cons (thn (h1 pins s σ H D I h) fun f s1 q => ?_)
  cases f with
  | next => exact wpAny_execs_nil q
  | ret v => exact q
  | brk => exact q
  | cont => exact q
theorem Inv.quiet {pins : List (Addr × Obj)} {σ : St} {H : Hp} {s : Shared} (I : Inv X pins σ H s) : interactive X.env = false := by simp [interactive, I.ok.kind]
noncomputable def Em (te : TE) : TS := fun D σ H => te σ H fun _ H1 => D.nx σ H1
theorem zf (he : PE X e te) (hs : swapsWith e none pos.line X.env = pure false := by rfl) : PS X (.Expr e pos) (Em te) := by
  refine ⟨?_⟩
  intro pins s σ H D I h
  exact wpAny_Expr_any (thn (he pins s σ H _ I h) fun v s1 ⟨x, H1, I1, r1, q1⟩ => ⟨σ, H1, I1, q1⟩) I.quiet hs
noncomputable def G4 (te : TE) : TS := fun D σ H => te σ H D.rt
theorem AY (he : PE X e te) : PS X (.Return (some e) pos) (G4 te) := by
  refine ⟨?_⟩
  intro pins s σ H D I h
  exact wpAny_Return_some (thn (he pins s σ H _ I h) fun v s1 ⟨x, H1, I1, r1, q1⟩ => ⟨x, σ, H1, I1, r1, q1⟩)
noncomputable def G5 (c : TT) (t u : TS) : TS := fun D σ H => c σ H fun b H1 => if b = true then t D σ H1 else u D σ H1
theorem En {c : Expr} {a b : List Stmt} {tc : TT} (hc : PT X c tc) (ha : dN X a t) (hb : dN X b u) : PS X (.If c a b pos) (G5 tc t u) := by
  refine ⟨?_⟩
  intro pins s σ H D I h
  refine wpAny_If (thn (hc pins s σ H _ I h) fun d s1 ⟨H1, I1, q1⟩ => ?_)
  cases d with
  | true => exact ha pins s1 σ H1 D I1 q1
  | false => exact hb pins s1 σ H1 D I1 q1
noncomputable def ud : TS := fun _ _ _ => False
theorem wt : PS X st ud := ⟨fun _ _ _ _ _ _ h => h.elim⟩
theorem ue {uf : List Stmt} : dN X uf ud := ⟨fun _ _ _ _ _ _ h => h.elim⟩
end
noncomputable abbrev TG := V → St → Hp → (St → Hp → Prop) → Prop
noncomputable def PG (X : Cx) (target : Expr) (t : TG) : Prop :=
  ∀ (pins : List (Addr × Obj)) (s : Shared) (σ : St) (H : Hp) (v : V) (u : Value) (Q : St → Hp → Prop), Inv X pins σ H s → RelV v u → t v σ H Q →
    wpAny (model X.prog X.w) X.A (assign target X.env u) (fun _ s' => ∃ aF H', Inv X pins aF H' s' ∧ Q aF H') X.xe s
noncomputable abbrev wu := V → V → V → Hp → (Hp → Prop) → Prop
noncomputable def AZ (X : Cx) (t : wu) : Prop :=
  ∀ (pins : List (Addr × Obj)) (s : Shared) (σ : St) (H : Hp) (o i v : V) (ov iv u : Value) (Q : Hp → Prop), Inv X pins σ H s → RelV o ov → RelV i iv → RelV v u → t o i v H Q →
    wpAny (model X.prog X.w) X.A (setItem ov iv u) (fun _ s' => ∃ H', Inv X pins σ H' s' ∧ Q H') X.xe s
section
variable {X : Cx} {pos : Pos}
noncomputable def oD (i : Nat) : TG := fun v σ H Q => Q (σ.set i (some v)) H
theorem zg {i : Nat} {x : Str} (hN : X.N.Nodup) (hi : X.N[i]? = some x) (hx : Loc X.env.scope x) (hf : X.fn x = true ∨ X.env.scope.names.lookup x = some .local := by first | exact .inl rfl | exact .inr rfl | assumption) : PG X (.Name x pos) (oD i) := by
  intro pins s σ H v u Q I r h
  exact wpAny_assign_Name (oT I hN hi hx r (fun s' I' => ⟨_, H, I', h⟩) hf)
noncomputable def G6 (to ti : TE) (t : wu) : TG := fun v σ H Q => to σ H fun o H1 => ti σ H1 fun i H2 => t o i v H2 fun H3 => Q σ H3
theorem A0 {o i : Expr} {to ti : TE} {t : wu} (ho : PE X o to) (hi : PE X i ti) (hs : AZ X t)
    (ha : ∀ v, assign (.Subscript o i pos) X.env v = (do
      let ov ← holding [v] (eval o X.env)
      let iv ← holding [v, ov] (eval i X.env)
      standAt pos
      holding [v, ov, iv] (setItem ov iv v)
      release [v, ov, iv] []) := by intro _; rfl) : PG X (.Subscript o i pos) (G6 to ti t) := by
  intro pins s σ H v u Q I r h
  rw [ha]
  refine wpAny_bind (wpAny_holding (thn (ho pins s σ H _ I h) fun ov s1 ⟨x, H1, I1, r1, q1⟩ => ?_))
  refine wpAny_bind (wpAny_holding (thn (hi pins s1 σ H1 _ I1 q1) fun iv s2 ⟨y, H2, I2, r2, q2⟩ => ?_))
  refine wpAny_bind (wpAny_standAt (wpAny_bind (wpAny_holding (thn (hs pins s2 σ H2 x y v ov iv u _ I2 r1 r2 r q2) fun _ s3 ⟨H3, I3, q3⟩ => ?_))))
  exact wpAny_release ⟨σ, H3, I3, q3⟩
noncomputable def oU (te : TE) (g : TG) : TS := fun D σ H => te σ H fun x H1 => g x σ H1 D.nx
theorem A1 {tg e : Expr} {te : TE} {g : TG} (he : PE X e te) (hg : PG X tg g) (hs : swapsWithSole [tg] e pos.line X.env = pure false := by rfl) (hw : swappedStores [tg] e X.env = pure none := by rfl)
    (h1 : (assignEach [tg] X.env).map (·.2) = [assign tg X.env] := by rfl) : PS X (.Assign [tg] e pos) (oU te g) := by
  refine ⟨?_⟩
  intro pins s σ H D I h
  refine wpAny_Assign_stores (thn (he pins s σ H _ I h) fun v s1 ⟨x, H1, I1, r1, q1⟩ => ?_) hs hw
  rw [h1]
  exact thn (hg pins s1 σ H1 x v _ I1 r1 q1) fun _ s2 q => q
theorem A6 {i : Nat} {x : Str} {e : Expr} {te : TE} {pos' : Pos} (hN : X.N.Nodup) (hi : X.N[i]? = some x) (hx : Loc X.env.scope x) (he : PE X e te) (hs : swapsWith e (some (.Name x pos')) pos.line X.env = pure false := by rfl) (hf : X.fn x = true ∨ X.env.scope.names.lookup x = some .local := by first | exact .inl rfl | exact .inr rfl | assumption) :
    PS X (.Assign [.Name x pos'] e pos) (oU te (oD i)) := by
  refine ⟨?_⟩
  intro pins s σ H D I h
  refine wpAny_Assign_Name (thn (he pins s σ H _ I h) fun v s1 ⟨y, H1, I1, r1, q1⟩ => ?_) hs
  exact oT I1 hN hi hx r1 (fun s2 I2 => ⟨_, H1, I2, q1⟩) hf
end
section
variable {X : Cx} {pos : Pos}
noncomputable def ug (c : TT) (tb : TS) : TS := fun D σ H => ∃ W : Nat → St → Hp → Prop, (∃ m, W m σ H) ∧ ∀ m σ H, W m σ H →
  c σ H fun b H1 => if b = true then ∃ N : St → Hp → Prop, (∀ aF H', N aF H' → ∃ m', m' < m ∧ W m' aF H') ∧ tb { D with nx := N, ct := N, bk := D.nx } σ H1 else D.nx σ H1
theorem wx {c : Expr} {body : List Stmt} {tc : TT} {tb : TS} (hp : PassesOwn (model X.prog X.w) X.A X.env X.xe) (hc : PT X c tc) (hb : dN X body tb) : PS X (.While c body [] pos) (ug tc tb) := by
  refine ⟨?_⟩
  intro pins s σ H D I h
  obtain ⟨W, ⟨m0, w0⟩, turn⟩ := h
  refine wpAny_While (codeAny_whileLoop (fun n s' => ∃ aF H', Inv X pins aF H' s' ∧ W n aF H') ?_ m0 ⟨σ, H, I, w0⟩)
  rintro n s1 ⟨ng, H1, I1, w1⟩
  refine wpAny_passesOwn hp (thn (hc pins s1 ng H1 _ I1 (turn n ng H1 w1)) fun b s2 ⟨H2, I2, q2⟩ => ?_)
  cases b with
  | true =>
    obtain ⟨N, hN, q2⟩ := q2
    rw [if_pos rfl]
    refine wpAny_passesOwn hp (thn (hb pins s2 ng H2 _ I2 q2) fun f s3 q3 => ?_)
    cases f with
    | next =>
      obtain ⟨jg, H3, I3, n3⟩ := q3
      obtain ⟨m', hm, w3⟩ := hN jg H3 n3
      exact ⟨m', hm, jg, H3, I3, w3⟩
    | cont =>
      obtain ⟨jg, H3, I3, n3⟩ := q3
      obtain ⟨m', hm, w3⟩ := hN jg H3 n3
      exact ⟨m', hm, jg, H3, I3, w3⟩
    | brk => exact q3
    | ret v => exact q3
  | false =>
    rw [if_neg Bool.false_ne_true]
    exact wpAny_execs_nil ⟨ng, H2, I2, q2⟩
end
structure It where
  go : Nat → Hp → Prop
  yld : Nat → Hp → V → Hp → Prop
  stop : Nat → Hp → Prop
noncomputable def ej (X : Cx) (pins : List (Addr × Obj)) (H : Hp) (b : Addr) : Prop :=
  H b = none ∧ b ≠ X.env.locals ∧ b ∉ X.fs ∧ (b ∈ X.ex ∨ X.s₀.heap.objs.size ≤ b) ∧ (∀ x c, X.env.cells.lookup x = some c → c ≠ b) ∧ ∀ p ∈ X.pn ++ pins, p.1 ≠ b
theorem Inv.oV {X : Cx} {pins : List (Addr × Obj)} {σ : St} {H H' : Hp} {s : Shared} {b : Addr} (I : Inv X pins σ H s) (hb : s.heap.objs.size ≤ b) (hn : H' b = none) : ej X pins H' b := by
  refine ⟨hn, Nat.ne_of_gt (Nat.lt_of_lt_of_le I.lt hb), I.AB hb, .inr (Nat.le_trans I.sz hb), fun x c e z => ?_, fun p hp z => ?_⟩
  · obtain ⟨v, q⟩ := I.cell x c e
    exact absurd (Nat.lt_of_lt_of_le q.lt (by rw [z]; exact hb)) (Nat.lt_irrefl _)
  · exact absurd (Nat.lt_of_lt_of_le (Heap.lt_size (I.pin p hp).1) (by rw [z]; exact hb)) (Nat.lt_irrefl _)
structure Turn (P : Program) (w : World) (K : PySem.W.Frag) (tg : Expr) (J : It) (fp : List Addr) (it : Addr) (tn : Nat → Heap → Prop) : Prop where
  mem : it ∈ fp
  obj : ∀ i h, tn i h → ∀ b ∈ fp, ∃ o, h.get? b = some o ∧ ∀ v, o.data ≠ .cell v
  keep : ∀ i h h', tn i h → (∀ b ∈ fp, ∀ o, h.get? b = some o → h'.get? b = some o) → tn i h'
  item : ∀ (X : Cx), X.prog = P → X.w = w → X.K = K → X.calm = true → ∀ (i : Nat) (pins : List (Addr × Obj)) (s : Shared) (σ : St) (H : Hp) (E : Value → Shared → Prop), Inv X pins σ H s → (∀ b ∈ fp, ej X pins H b) → tn i s.heap → J.go i H →
    wpAny (model P w) X.A (pyNext (.ref it)) (fun r s1 => ∃ u, r = some u ∧
      wpAny (model P w) X.A (letOwnedTupleGo tg (.ref it) u) (fun _ s2 => ∃ x H', Inv X pins σ H' s2 ∧ RelV x u ∧ J.yld i H x H' ∧ tn (i + 1) s2.heap ∧ ∀ b ∈ fp, H' b = none) E s1) E s
  done : ∀ (X : Cx), X.prog = P → X.w = w → X.K = K → X.calm = true → ∀ (i : Nat) (pins : List (Addr × Obj)) (s : Shared) (σ : St) (H : Hp) (E : Value → Shared → Prop), Inv X pins σ H s → (∀ b ∈ fp, ej X pins H b) → tn i s.heap → J.stop i H →
    wpAny (model P w) X.A (pyNext (.ref it)) (fun r s1 => r = none ∧ Inv X pins σ H s1) E s
  self : ∀ (A : Around) (i : Nat) (s : Shared) (Q : Value → Shared → Prop) (E : Value → Shared → Prop), tn i s.heap → Q (.ref it) s → wpAny (model P w) A (pyIter (.ref it)) Q E s
noncomputable abbrev TI := St → Hp → (It → Hp → Prop) → Prop
noncomputable def A7 (X : Cx) (pins : List (Addr × Obj)) (σ : St) (tg : Expr) (R : It → Hp → Prop) (uh : Value) (s2 : Shared) : Prop :=
  ∃ (it : Addr) (fp : List Addr) (tn : Nat → Heap → Prop) (J : It) (H' : Hp), uh = .ref it ∧ Inv X pins σ H' s2 ∧ Turn X.prog X.w X.K tg J fp it tn ∧ tn 0 s2.heap ∧ (∀ b ∈ fp, ej X pins H' b) ∧ R J H'
noncomputable def PI (X : Cx) (tg iter : Expr) (wi : TI) : Prop :=
  ∀ (pins : List (Addr × Obj)) (s : Shared) (σ : St) (H : Hp) (R : It → Hp → Prop), Inv X pins σ H s → wi σ H R →
    wpAny (model X.prog X.w) X.A (eval iter X.env) (fun v s1 => wpAny (model X.prog X.w) X.A (pyIter v) (A7 X pins σ tg R) X.xe s1) X.xe s
theorem oE {M : Model} {A : Around} {E : Value → Shared → Prop} {s : Shared} {tg : Expr} {it : Addr} {u : Value} {o : Obj} {n : String} {vs : Array Value} {Q : Unit → Shared → Prop} (ho : s.heap.get? it = some o) (hc : o.cls = .type n) (hd : o.data = .fields vs)
    (hn : ["enumerate", "zip", "dict_itemiterator", "dict_reverseitemiterator", "odict_iterator", "itertools.zip_longest", "itertools.pairwise"].contains n = false) (hQ : Q () s) : wpAny M A (letOwnedTupleGo tg (.ref it) u) Q E s := by
  unfold letOwnedTupleGo
  cases tg <;> first
    | exact wpAny_pure hQ
    | (cases u <;> first
        | exact wpAny_pure hQ
        | (refine wpAny_bind (wpAny_load ho ?_)
           rw [hc, hd]
           show wpAny M A (if (["enumerate", "zip", "dict_itemiterator", "dict_reverseitemiterator", "odict_iterator", "itertools.zip_longest", "itertools.pairwise"].contains n && vs[0]? == some (rawInt _)) = true then _ else _) Q E s
           rw [if_neg (by intro h; rw [hn, Bool.false_and] at h; cases h)]
           exact wpAny_pure hQ))
noncomputable def A8 (K : PySem.W.Frag) (a : Addr) : It :=
  ⟨fun i H => ∃ xs x, bH K H a xs ∧ xs[i]? = some x, fun i H x H' => H' = H ∧ ∀ xs, bH K H a xs → xs[i]? = some x, fun i H => ∃ xs, bH K H a xs ∧ xs.length ≤ i⟩
noncomputable def A9 (K : PySem.W.Frag) (a : Addr) : It :=
  ⟨fun i H => ∃ xs x, bR K H a xs ∧ xs[i]? = some x, fun i H x H' => H' = H ∧ ∀ xs, bR K H a xs → xs[i]? = some x, fun i H => ∃ xs, bR K H a xs ∧ xs.length ≤ i⟩
noncomputable def yl (lo : Int) (n : Nat) : It := ⟨fun i _ => i < n, fun i H x H' => H' = H ∧ x = .int (lo + i), fun i _ => n ≤ i⟩
theorem ui {P : Program} {w : World} {K : PySem.W.Frag} {tg : Expr} (a it : Addr) : Turn P w K tg (A8 K a) [it] it (fun i h => h.IsListIter it a i) where
  mem := by simp
  obj := fun i h st b hb => by
    have e : b = it := by simpa using hb
    subst e
    obtain ⟨o, e, c, d⟩ := st
    exact ⟨o, e, fun v z => by rw [d] at z; cases z⟩
  keep := fun i h h' st k => st.at fun o e => k it (by simp) o e
  item := by
    intro X hP hw hK hc i pins s σ H E I hf st hg
    subst hP hw hK
    obtain ⟨xs, x, hq, hx⟩ := hg
    obtain ⟨its, rv, p, hz⟩ := I.list hq
    obtain ⟨u, hu, ru⟩ := rv.get hx
    obtain ⟨f0, f1, f2, f3, f4, f5⟩ := hf it (by simp)
    refine wpAny_pyNext_list_item st p.isList (x := u) (by simpa using hu) fun h' jo sb => ?_
    have I1 : Inv X pins σ H { s with heap := h' } := I.turned (t' := s.toks) (fun b o hb e => (sb.2 b hb).trans e) f0 f1 f3 f4 f5
    obtain ⟨o, e, c, d⟩ := id jo
    exact ⟨u, rfl, oE (s := { s with heap := h' }) e c d (by decide) ⟨x, H, I1, ru, ⟨rfl, fun ys hy => by rw [I.wo hy hq]; exact hx⟩, jo, fun b hb => (hf b hb).1⟩⟩
  done := by
    intro X hP hw hK hc i pins s σ H E I hf st hg
    subst hP hw hK
    obtain ⟨xs, hq, hx⟩ := hg
    obtain ⟨its, rv, p, hz⟩ := I.list hq
    obtain ⟨f0, f1, f2, f3, f4, f5⟩ := hf it (by simp)
    have hl := rv.length
    exact wpAny_pyNext_list_end (I.ok.hd hc) st p.isList (by simp; omega) fun h' eb => ⟨rfl, I.turned (t' := s.toks) (fun b o hb e => eb b o hb e) f0 f1 f3 f4 f5⟩
  self := fun _ _ _ _ _ st h => wpAny_pyIter_listiter st h
theorem sC {P : Program} {w : World} {K : PySem.W.Frag} {tg : Expr} (a it : Addr) : Turn P w K tg (A9 K a) [it] it (fun i h => h.IsTupleIter it a i) where
  mem := by simp
  obj := fun i h st b hb => by
    have e : b = it := by simpa using hb
    subst e
    obtain ⟨o, e, c, d⟩ := st
    exact ⟨o, e, fun v z => by rw [d] at z; cases z⟩
  keep := fun i h h' st k => st.at fun o e => k it (by simp) o e
  item := by
    intro X hP hw hK hc i pins s σ H E I hf st hg
    subst hP hw hK
    obtain ⟨xs, x, hq, hx⟩ := hg
    obtain ⟨its, rv, p, hz⟩ := I.tuple hq
    obtain ⟨u, hu, ru⟩ := rv.get hx
    obtain ⟨f0, f1, f2, f3, f4, f5⟩ := hf it (by simp)
    refine wpAny_pyNext_tuple_item st (show s.heap.IsTuple a its.toArray from p) (x := u) (by simpa using hu) fun h' jo sb => ?_
    have I1 : Inv X pins σ H { s with heap := h' } := I.turned (t' := s.toks) (fun b o hb e => (sb.2 b hb).trans e) f0 f1 f3 f4 f5
    obtain ⟨o, e, c, d⟩ := id jo
    exact ⟨u, rfl, oE (s := { s with heap := h' }) e c d (by decide) ⟨x, H, I1, ru, ⟨rfl, fun ys hy => by rw [I.ua hy hq]; exact hx⟩, jo, fun b hb => (hf b hb).1⟩⟩
  done := by
    intro X hP hw hK hc i pins s σ H E I hf st hg
    subst hP hw hK
    obtain ⟨xs, hq, hx⟩ := hg
    obtain ⟨its, rv, p, hz⟩ := I.tuple hq
    obtain ⟨f0, f1, f2, f3, f4, f5⟩ := hf it (by simp)
    have hl := rv.length
    exact wpAny_pyNext_tuple_end (I.ok.hd hc) st (show s.heap.IsTuple a its.toArray from p) (by simp; omega) fun h' eb => ⟨rfl, I.turned (t' := s.toks) (fun b o hb e => eb b o hb e) f0 f1 f3 f4 f5⟩
  self := fun _ _ _ _ _ st h => wpAny_pyIter_tupleiter st h
theorem sD {P : Program} {w : World} {K : PySem.W.Frag} {tg : Expr} (it : Addr) (lo : Int) (n : Nat) : Turn P w K tg (yl lo n) [it] it (fun i h => IsRangeIter h it (lo + (i : Nat) * 1) ((n : Int) - (i : Nat)) 1) where
  mem := by simp
  obj := fun i h st b hb => by
    have e : b = it := by simpa using hb
    subst e
    exact ⟨_, st, fun v z => by
      have z' : Data.fields _ = Data.cell v := z
      cases z'⟩
  keep := fun i h h' st k => k it (by simp) _ st
  item := by
    intro X hP hw hK hc i pins s σ H E I hf st hg
    subst hP hw hK
    obtain ⟨f0, f1, f2, f3, f4, f5⟩ := hf it (by simp)
    have W := Walks.range (prog := X.prog) (w := X.w) (I.ok.hd hc) it lo 1 n
    refine W.item i s _ _ hg st fun v h' tk hv jo kk => ?_
    obtain ⟨t, rfl⟩ := hv
    have I1 : Inv X pins σ H { s with heap := h', toks := tk } := I.turned (fun b o hb e => kk b o (by simpa using hb) e) f0 f1 f3 f4 f5
    refine ⟨_, rfl, oE (s := { s with heap := h', toks := tk }) (n := "range_iterator") jo rfl rfl (by decide) ⟨.int (lo + i), H, I1, ⟨t, ?_⟩, ⟨rfl, rfl⟩, jo, fun b hb => (hf b hb).1⟩⟩
    rw [Int.mul_one]
  done := by
    intro X hP hw hK hc i pins s σ H E I hf st hg
    subst hP hw hK
    obtain ⟨f0, f1, f2, f3, f4, f5⟩ := hf it (by simp)
    exact wpAny_pyNext_range_end (I.ok.hd hc) st (by have : n ≤ i := hg; omega) fun h' eb => ⟨rfl, I.turned (t' := s.toks) (fun b o hb e => eb b o hb e) f0 f1 f3 f4 f5⟩
  self := fun _ _ _ _ _ st h => wpAny_pyIter_rangeiter st h
section
variable {X : Cx} {tg : Expr}
noncomputable def ym (K : PySem.W.Frag) (tl : TE) : TI := fun σ H R => tl σ H fun x H1 => ∃ a, x = .ref a ∧ (∃ xs, bH K H1 a xs) ∧ R (A8 K a) H1
noncomputable def Ba (K : PySem.W.Frag) (tl : TE) : TI := fun σ H R => tl σ H fun x H1 => ∃ a, x = .ref a ∧ (∃ xs, bR K H1 a xs) ∧ R (A9 K a) H1
theorem zh {l : Expr} {tl : TE} (hl : PE X l tl) : PI X tg l (ym X.K tl) := by
  intro pins s σ H R I h
  refine thn (hl pins s σ H _ I h) fun v s1 ⟨x, H1, I1, r1, q1⟩ => ?_
  obtain ⟨a, e, ⟨xs, hq⟩, q⟩ := q1
  subst e
  cases r1
  obtain ⟨its, rv, p, hz⟩ := I1.list hq
  refine wpAny_pyIter_list p.isList ?_
  refine ⟨s1.heap.objs.size, [s1.heap.objs.size], _, _, H1, rfl, I1.kept (t' := s1.toks) fun b o e => Heap.get?_push_of_some _ e, ui a _, ⟨_, Heap.get?_push_size _ rfl, rfl, rfl⟩, fun b hb => ?_, q⟩
  have e : b = s1.heap.objs.size := by simpa using hb
  subst e
  exact I1.oV (Nat.le_refl _) (I1.hok.fresh (Nat.le_refl _))
theorem Bb {l : Expr} {tl : TE} (hl : PE X l tl) : PI X tg l (Ba X.K tl) := by
  intro pins s σ H R I h
  refine thn (hl pins s σ H _ I h) fun v s1 ⟨x, H1, I1, r1, q1⟩ => ?_
  obtain ⟨a, e, ⟨xs, hq⟩, q⟩ := q1
  subst e
  cases r1
  obtain ⟨its, rv, p, hz⟩ := I1.tuple hq
  refine wpAny_pyIter_tuple (show s1.heap.IsTuple a its.toArray from p) ?_
  refine ⟨s1.heap.objs.size, [s1.heap.objs.size], _, _, H1, rfl, I1.kept (t' := s1.toks) fun b o e => Heap.get?_push_of_some _ e, sC a _, ⟨_, Heap.get?_push_size _ rfl, rfl, rfl⟩, fun b hb => ?_, q⟩
  have e : b = s1.heap.objs.size := by simpa using hb
  subst e
  exact I1.oV (Nat.le_refl _) (I1.hok.fresh (Nat.le_refl _))
theorem wy {pins : List (Addr × Obj)} {σ : St} {H : Hp} {s : Shared} {R : It → Hp → Prop} {E : Value → Shared → Prop} {lo hi : Int} {t u v : Tok} {tk : Nat} (I : Inv X pins σ H s) (h1 : -(2 ^ 62) ≤ lo) (h2 : lo < 2 ^ 62) (h3 : -(2 ^ 62) ≤ hi) (h4 : hi < 2 ^ 62)
    (q : R (yl lo (hi - lo).toNat) H) : wpAny (model X.prog X.w) X.A (pyIter (.ref s.heap.objs.size)) (A7 X pins σ tg R) E { s with heap := s.heap.push { cls := .type "range", data := .fields #[.int lo t, .int hi u, .int 1 v] }, toks := tk } := by
  refine wpAny_pyIter_range (IsRange.new ..) (small_one h1 h2 h3 h4) ?_
  have I1 : Inv X pins σ H { s with heap := s.heap.push { cls := .type "range", data := .fields #[.int lo t, .int hi u, .int 1 v] }, toks := tk } := I.kept fun b o e => Heap.get?_push_of_some _ e
  refine ⟨(s.heap.push { cls := .type "range", data := .fields #[.int lo t, .int hi u, .int 1 v] }).objs.size, [(s.heap.push { cls := .type "range", data := .fields #[.int lo t, .int hi u, .int 1 v] }).objs.size], _, _, H, rfl,
    I1.kept (t' := tk) fun b o e => Heap.get?_push_of_some _ e, sD _ lo (hi - lo).toNat, ?_, fun b hb => ?_, q⟩
  · have e1 : lo + ((0 : Nat) : Int) * 1 = lo := by simp
    have e2 : (((hi - lo).toNat : Nat) : Int) - ((0 : Nat) : Int) = Builtin.Range.rangeSize lo hi 1 := by rw [rangeSize_one]; split <;> omega
    show IsRangeIter _ _ (lo + ((0 : Nat) : Int) * 1) ((((hi - lo).toNat : Nat) : Int) - ((0 : Nat) : Int)) 1
    rw [e1, e2]
    exact Heap.get?_push_size _ rfl
  · have e : b = (s.heap.push { cls := .type "range", data := .fields #[.int lo t, .int hi u, .int 1 v] }).objs.size := by simpa using hb
    subst e
    exact I1.oV (Nat.le_refl _) (I1.hok.fresh (Nat.le_refl _))
noncomputable def yn (ta : TA) : TI := fun σ H R => ta σ H fun vs H1 => ∃ j : Int, vs = [.int j] ∧ -(2 ^ 62) ≤ j ∧ j < 2 ^ 62 ∧ R (yl 0 j.toNat) H1
theorem uj {a : Expr} {ta : TA} {p pos : Pos} (hg : Gl X "range") (hm : X.mg "range" = none) (ha : PA X [a] ta) (hs : starEach [a] X.env = [(false, eval a X.env)] := by rfl) : PI X tg (.Call (.Name "range" p) [a] [] pos) (yn ta) := by
  intro pins s σ H R I h
  refine Call_ (e7 I hg hm boot_range (PyProof.Rows.callWith_type1 (thn (ha pos pins s σ H _ I h) fun us s1 ⟨vs, H1, I1, r1, q1⟩ => ?_) hs rfl))
  obtain ⟨j, e, q1, q2, q⟩ := q1
  subst e
  cases r1 with
  | cons r rr =>
    cases rr
    obtain ⟨t, rfl⟩ := r
    exact call_range_1 (wy I1 (by omega) (by omega) q1 q2 (by simpa using q))
noncomputable def Bc (wi : TI) (g : TG) (tb : TS) : TS := fun D σ H => wi σ H fun J H1 => ∃ W : Nat → Nat → St → Hp → Prop, (∃ m, W 0 m σ H1) ∧ ∀ i m σ H, W i m σ H →
  (J.stop i H ∧ D.nx σ H) ∨ (J.go i H ∧ ∃ N : St → Hp → Prop, (∀ aF H', N aF H' → ∃ m', m' < m ∧ W (i + 1) m' aF H') ∧ ∀ x H', J.yld i H x H' → g x σ H' fun fR H2 => tb { D with nx := N, ct := N, bk := D.nx } fR H2)
noncomputable def fS (fp : List Addr) (h : Heap) : List (Addr × Obj) := fp.filterMap fun b => (h.get? b).map fun o => (b, o)
theorem bX {fp : List Addr} {h : Heap} {b : Addr} {o : Obj} (hb : b ∈ fp) (e : h.get? b = some o) : (b, o) ∈ fS fp h := List.mem_filterMap.mpr ⟨b, hb, by rw [e]; rfl⟩
theorem uk {fp : List Addr} {h : Heap} {p : Addr × Obj} (hp : p ∈ fS fp h) : p.1 ∈ fp ∧ h.get? p.1 = some p.2 := by
  obtain ⟨b, hb, e⟩ := List.mem_filterMap.mp hp
  cases q : h.get? b with
  | none => rw [q] at e; cases e
  | some o =>
    rw [q] at e
    have e' : (b, o) = p := Option.some.inj e
    subst e'
    exact ⟨hb, q⟩
theorem Inv.pinned {pins : List (Addr × Obj)} {σ : St} {H : Hp} {s : Shared} {fp : List Addr} (I : Inv X pins σ H s) (hf : ∀ b ∈ fp, ej X pins H b) (ho : ∀ b ∈ fp, ∃ o, s.heap.get? b = some o ∧ ∀ v, o.data ≠ .cell v) : Inv X (pins ++ fS fp s.heap) σ H s :=
  I.mr fun p hp => (List.mem_append.mp hp).elim (fun z => I.pin p (List.mem_append_right _ z)) fun z => by
    obtain ⟨hb, e⟩ := uk z
    obtain ⟨f0, f1, f2, _⟩ := hf p.1 hb
    obtain ⟨o, e', d⟩ := ho p.1 hb
    rw [e] at e'; cases e'
    exact ⟨e, f0, f1, f2, d⟩
theorem Inv.bI {pins pl : List (Addr × Obj)} {σ : St} {H : Hp} {s : Shared} (I : Inv X (pins ++ pl) σ H s) : Inv X pins σ H s := I.mr fun p hp => I.pin p (List.mem_append_right _ (List.mem_append_left _ hp))
theorem Bd {iter : Expr} {body : List Stmt} {wi : TI} {g : TG} {tb : TS} {pos : Pos} (hp : PassesOwn (model X.prog X.w) X.A X.env X.xe) (hc : X.calm = true) (hi : PI X tg iter wi) (hg : PG X tg g) (hb : dN X body tb)
    (hs : ∀ x, foldedSetIterable iter X.env x = pure x := by intro _; rfl) : PS X (.For tg iter body [] pos) (Bc wi g tb) := by
  refine ⟨?_⟩
  intro pins s σ H D I h
  refine wpAny_For (thn (hi pins s σ H _ I h) fun v s1 h1 => thn h1 fun uh s2 h2 => ?_) hs
  obtain ⟨it, fp, tn, J, H2, e, I2, T, oW, f2, W, ⟨m0, w0⟩, turn⟩ := h2
  subst e
  have stat : ∀ {H' : Hp}, (∀ b ∈ fp, H' b = none) → ∀ b ∈ fp, ej X pins H' b := fun hn b hb => ⟨hn b hb, (f2 b hb).2⟩
  refine codeAny_forLoop_any (fun n s' => ∃ i aF H', Inv X pins aF H' s' ∧ tn i s'.heap ∧ (∀ b ∈ fp, H' b = none) ∧ W i n aF H') ?_ m0 ⟨0, σ, H2, I2, oW, fun b hb => (f2 b hb).1, w0⟩
  rintro n s3 ⟨i, jg, H3, I3, nh, um, w3⟩
  rcases turn i n jg H3 w3 with ⟨stop, qn⟩ | ⟨go, N, hN, step⟩
  · refine wpAny_passesOwn hp (thn (T.done X rfl rfl rfl hc i pins s3 jg H3 X.xe I3 (stat um) nh stop) fun r s4 ⟨hr, I4⟩ => ?_)
    subst hr
    exact wpAny_execs_nil ⟨jg, H3, I4, qn⟩
  · refine wpAny_passesOwn hp (thn (T.item X rfl rfl rfl hc i pins s3 jg H3 X.xe I3 (stat um) nh go) fun r s4 ⟨u, hr, h4⟩ => ?_)
    subst hr
    refine wpAny_passesOwn hp (thn h4 fun _ s5 ⟨x, H5, I5, r5, y5, gK, oX⟩ => ?_)
    have oY := I5.pinned (stat oX) (T.obj _ _ gK)
    refine wpAny_passesOwn hp (thn (hg _ s5 jg H5 x u _ oY r5 (step x H5 y5)) fun _ s6 ⟨Ic, H6, I6, q6⟩ => ?_)
    refine wpAny_passesOwn hp (thn (hb _ s6 Ic H6 _ I6 q6) fun f s7 q7 => ?_)
    have again : ∀ {jq : St} {H7 : Hp}, Inv X (pins ++ fS fp s5.heap) jq H7 s7 → N jq H7 → ∃ m, m < n ∧ ∃ i aF H', Inv X pins aF H' s7 ∧ tn i s7.heap ∧ (∀ b ∈ fp, H' b = none) ∧ W i m aF H' := fun {jq H7} I7 n7 => by
      obtain ⟨m', hm, w7⟩ := hN jq H7 n7
      refine ⟨m', hm, i + 1, jq, H7, I7.bI, T.keep _ _ _ gK fun b hb o e => (I7.pin (b, o) (List.mem_append_right _ (List.mem_append_right _ (bX hb e)))).1, fun b hb => ?_, w7⟩
      obtain ⟨o, e, d⟩ := T.obj _ _ gK b hb
      exact (I7.pin (b, o) (List.mem_append_right _ (List.mem_append_right _ (bX hb e)))).2.1
    cases f with
    | next => obtain ⟨jq, H7, I7, n7⟩ := q7; exact again I7 n7
    | cont => obtain ⟨jq, H7, I7, n7⟩ := q7; exact again I7 n7
    | brk => obtain ⟨jq, H7, I7, q7⟩ := q7; exact ⟨jq, H7, I7.bI, q7⟩
    | ret v => obtain ⟨x7, jq, H7, I7, r7, q7⟩ := q7; exact ⟨x7, jq, H7, I7.bI, r7, q7⟩
end
noncomputable abbrev R2 := V → V → Hp → VK → Prop
noncomputable def OpR (X : Cx) (f : Value → Value → Sem Value) (r : R2) : Prop :=
  ∀ (pins : List (Addr × Obj)) (s : Shared) (σ : St) (H : Hp) (x y : V) (v u : Value) (Q : VK), Inv X pins σ H s → RelV x v → RelV y u → r x y H Q →
    wpAny (model X.prog X.w) X.A (f v u) (EP X pins σ Q) X.xe s
noncomputable def UnR (X : Cx) (f : Value → Sem Value) (r : V → Hp → VK → Prop) : Prop :=
  ∀ (pins : List (Addr × Obj)) (s : Shared) (σ : St) (H : Hp) (x : V) (v : Value) (Q : VK), Inv X pins σ H s → RelV x v → r x H Q →
    wpAny (model X.prog X.w) X.A (f v) (EP X pins σ Q) X.xe s
noncomputable def cJ (X : Cx) (f : Value) (r : List V → Hp → VK → Prop) : Prop :=
  ∀ (pins : List (Addr × Obj)) (s : Shared) (σ : St) (H : Hp) (xs : List V) (us : List Value) (Q : VK), Inv X pins σ H s → Vals xs us → r xs H Q →
    wpAny (model X.prog X.w) X.A (call f us) (EP X pins σ Q) X.xe s
noncomputable def G7 (X : Cx) (r : V → Hp → (Bool → Hp → Prop) → Prop) : Prop :=
  ∀ (pins : List (Addr × Obj)) (s : Shared) (σ : St) (H : Hp) (x : V) (v : Value) (Q : Bool → Hp → Prop), Inv X pins σ H s → RelV x v → r x H Q →
    wpAny (model X.prog X.w) X.A (truthy v) (TP X pins σ Q) X.xe s
noncomputable def uo (r : R2) (ta tb : TE) : TE := fun σ H Q => ta σ H fun x H1 => tb σ H1 fun y H2 => r x y H2 Q
noncomputable def Ie (r : V → Hp → VK → Prop) (ta : TE) : TE := fun σ H Q => ta σ H fun x H1 => r x H1 Q
noncomputable def rI (C : Int → Int → Prop) (g : Int → Int → V) : R2 := fun x y H Q => ∃ i j, x = .int i ∧ y = .int j ∧ C i j ∧ Q (g i j) H
noncomputable def ni (g : Int → Int → V) : R2 := fun x y H Q => ∃ i j, x = .int i ∧ y = .int j ∧ Q (g i j) H
noncomputable def rU (g : Int → V) : V → Hp → VK → Prop := fun x H Q => ∃ i, x = .int i ∧ Q (g i) H
section
variable {X : Cx} {a b c : Expr} {ta tb tc : TE} {pos : Pos}
theorem wz (ha : PE X a ta) (hb : PE X b tb) {pins : List (Addr × Obj)} {s : Shared} {σ : St} {H : Hp} {R : V → V → Hp → Prop} (I : Inv X pins σ H s)
    (h : ta σ H fun x H1 => tb σ H1 fun y H2 => R x y H2) {Q : Value → Shared → Prop} {f : Value → Value → Sem Value}
    (hf : ∀ v u s2 x y H2, Inv X pins σ H2 s2 → RelV x v → RelV y u → R x y H2 → wpAny (model X.prog X.w) X.A (f v u) Q X.xe s2) :
    wpAny (model X.prog X.w) X.A (eval a X.env) (fun v aq => wpAny (model X.prog X.w) X.A (eval b X.env) (fun u kG => wpAny (model X.prog X.w) X.A (f v u) Q X.xe kG) X.xe aq) X.xe s := by
  refine thn (ha pins s σ H _ I h) fun v s1 ⟨x, H1, I1, r1, q1⟩ => ?_
  refine thn (hb pins s1 σ H1 _ I1 q1) fun u s2 ⟨y, H2, I2, r2, q2⟩ => ?_
  exact hf v u s2 x y H2 I2 r1 r2 q2
theorem Eo {op : Operator} {r : R2} (ho : OpR X (binaryOp op) r) (ha : PE X a ta) (hb : PE X b tb) : PE X (.BinOp a op b pos) (uo r ta tb) := by
  refine ⟨?_⟩
  intro pins s σ H Q I h
  exact wpAny_BinOp (wz ha hb I h fun v u s2 x y H2 I2 rx ry q => ho pins s2 σ H2 x y v u Q I2 rx ry q)
theorem Ep {op : UnaryOp} {r : V → Hp → VK → Prop} (ho : UnR X (unaryOp op) r) (ha : PE X a ta) : PE X (.UnaryOp op a pos) (Ie r ta) := by
  refine ⟨?_⟩
  intro pins s σ H Q I h
  exact UnaryOp_ (thn (ha pins s σ H _ I h) fun v s1 ⟨x, H1, I1, r1, q1⟩ => ho pins s1 σ H1 x v Q I1 r1 q1)
theorem yo {f : Value → Value → Sem Value} {C : Int → Int → Prop} {g : Int → Int → Int}
    (rule : ∀ (i j : Int) (t u : Tok) (s : Shared) (Q : Value → Shared → Prop) (E : Value → Shared → Prop), C i j → Q (.int (g i j) s.toks) { s with toks := s.toks + 1 } → wpAny (model X.prog X.w) X.A (f (.int i t) (.int j u)) Q E s) :
    OpR X f (rI C fun i j => .int (g i j)) := by
  intro pins s σ H x y v u Q I rx ry h
  obtain ⟨i, j, rfl, rfl, hc, q⟩ := h
  obtain ⟨t, rfl⟩ := rx
  obtain ⟨t', rfl⟩ := ry
  exact rule i j t t' s _ _ hc ⟨.int (g i j), H, I.tok _, ⟨_, rfl⟩, q⟩
theorem Be {f : Value → Value → Sem Value} {g : Int → Int → Int}
    (rule : ∀ (i j : Int) (t u : Tok) (s : Shared) (Q : Value → Shared → Prop) (E : Value → Shared → Prop), Q (.int (g i j) s.toks) { s with toks := s.toks + 1 } → wpAny (model X.prog X.w) X.A (f (.int i t) (.int j u)) Q E s) :
    OpR X f (ni fun i j => .int (g i j)) := by
  intro pins s σ H x y v u Q I rx ry h
  obtain ⟨i, j, rfl, rfl, q⟩ := h
  obtain ⟨t, rfl⟩ := rx
  obtain ⟨t', rfl⟩ := ry
  exact rule i j t t' s _ _ ⟨.int (g i j), H, I.tok _, ⟨_, rfl⟩, q⟩
theorem wA {f : Value → Value → Sem Value} {g : Int → Int → Bool}
    (rule : ∀ (i j : Int) (t u : Tok) (s : Shared) (Q : Value → Shared → Prop) (E : Value → Shared → Prop), Q (.bool (g i j)) s → wpAny (model X.prog X.w) X.A (f (.int i t) (.int j u)) Q E s) :
    OpR X f (ni fun i j => .bl (g i j)) := by
  intro pins s σ H x y v u Q I rx ry h
  obtain ⟨i, j, rfl, rfl, q⟩ := h
  obtain ⟨t, rfl⟩ := rx
  obtain ⟨t', rfl⟩ := ry
  exact rule i j t t' s _ _ ⟨.bl (g i j), H, I, rfl, q⟩
noncomputable def Bf (i j : Int) : Prop := 0 < j ∧ j < 1073741824
noncomputable def Bg (i j : Int) : Prop := 0 ≤ j ∧ j ≤ 1000000 ∧ i.natAbs < 2 ^ 64
noncomputable def sE (i j : Int) : Prop := (-(2 ^ 64) < i ∧ i < 2 ^ 64) ∨ (-(2 ^ 64) < j ∧ j < 2 ^ 64)
theorem sE.ok {i j : Int} (h : sE i j) : IntMulOk i j := by
  rcases h with ⟨h1, h2⟩ | ⟨h1, h2⟩
  · exact .of_left (intBits_le_64 h1 h2)
  · exact .of_right (intBits_le_64 h1 h2)
theorem Bh : OpR X (binaryOp .Add) (ni fun i j => .int (i + j)) := Be fun _ _ _ _ _ _ _ q => add_int q
theorem Bi : OpR X (binaryOp .Sub) (ni fun i j => .int (i - j)) := Be fun _ _ _ _ _ _ _ q => sub_int q
theorem Bj : OpR X (binaryOp .Mult) (rI sE fun i j => .int (i * j)) := yo fun _ _ _ _ _ _ _ hc q => mul_int q hc.ok
theorem zj : OpR X (binaryOp .FloorDiv) (rI Bf fun i j => .int (i / j)) := yo fun i j _ _ _ _ _ hc q => by
  have h1 : (0 : Int) < j := hc.1
  have h2 : j < 1073741824 := hc.2
  exact floordiv_int (by omega) (by rw [Int.fdiv_eq_ediv_of_nonneg i (by omega)]; exact q) (.inl (PyProof.noPylong_small (by omega)))
theorem Bk : OpR X (binaryOp .Mod) (rI (fun _ j => 0 < j) fun i j => .int (i % j)) := yo fun i j _ _ _ _ _ hc q => by
  have h1 : (0 : Int) < j := hc
  exact mod_int' (by omega) (by rw [Int.fmod_eq_emod_of_nonneg i (by omega)]; exact q)
theorem Bm : OpR X (binaryOp .Pow) (rI Bg fun i j => .int (i ^ j.toNat)) := yo fun _ _ _ _ _ _ _ hc q => pow_int_small hc.1 hc.2.1 hc.2.2 q
theorem Ig {f : Value → Sem Value} {g : Int → Int}
    (rule : ∀ (i : Int) (t : Tok) (s : Shared) (Q : Value → Shared → Prop) (E : Value → Shared → Prop), Q (.int (g i) s.toks) { s with toks := s.toks + 1 } → wpAny (model X.prog X.w) X.A (f (.int i t)) Q E s) :
    UnR X f (rU fun i => .int (g i)) := by
  intro pins s σ H x v Q I rx h
  obtain ⟨i, rfl, q⟩ := h
  obtain ⟨t, rfl⟩ := rx
  exact rule i t s _ _ ⟨.int (g i), H, I.tok _, ⟨_, rfl⟩, q⟩
theorem Bn : UnR X (unaryOp .USub) (rU fun i => .int (-i)) := Ig fun _ _ _ _ _ q => neg_int q
end
noncomputable def wB : V → V → Bool
  | .aj, .aj => true | .aj, .int _ => true | .int _, .aj => true | .aj, .bl _ => true | .bl _, .aj => true | .aj, .str _ => true | .str _, .aj => true
  | .int _, .int _ => true | .bl _, .bl _ => true | .str _, .str _ => true | .gG _, .gG _ => true
  | .int _, .str _ => true | .str _, .int _ => true | .bl _, .str _ => true | .str _, .bl _ => true
  | _, _ => false
noncomputable def Ih : R2 := fun x y H Q => wB x y = true ∧ Q (.bl (decide (x = y))) H
noncomputable def Ii : R2 := fun x y H Q => wB x y = true ∧ Q (.bl (!decide (x = y))) H
theorem rO {i j : Int} : decide (V.int i = V.int j) = (i == j) := by
  rw [Bool.eq_iff_iff]
  simp
theorem uq {i j : Bool} : decide (V.bl i = V.bl j) = (i == j) := by
  rw [Bool.eq_iff_iff]
  simp
theorem rP {i j : Str} : decide (V.str i = V.str j) = (i == j) := by
  rw [Bool.eq_iff_iff]
  simp
theorem rQ {i j : Array UInt8} : decide (V.gG i = V.gG j) = (i.toList == j.toList) := by
  rw [Bool.eq_iff_iff]
  cases i
  cases j
  simp
section
variable {X : Cx} {a b c : Expr} {ta tb tc : TE} {pos : Pos}
theorem aT {pins : List (Addr × Obj)} {σ : St} {H : Hp} {s : Shared} {Q : VK} {k k' : Bool} (I : Inv X pins σ H s) (q : Q (.bl k) H) (e : k = k') : EP X pins σ Q (.bool k') s := by
  subst e
  exact ⟨.bl k, H, I, rfl, q⟩
theorem Er : OpR X (compareOp .Eq) Ih := by
  intro pins s σ H x y v u Q I rx ry h
  obtain ⟨hs, q⟩ := h
  cases x with
  | aj =>
    cases rx
    cases y with
    | aj => cases ry; exact PySem.EqNone.eq_none_none (aT I q (by simp))
    | bl j => cases ry; exact PySem.EqNone.eq_none_bool (aT I q (by simp))
    | int j => obtain ⟨t', rfl⟩ := ry; exact PySem.EqNone.eq_none_int (aT I q (by simp))
    | str j => obtain ⟨t', rfl⟩ := ry; exact PySem.EqNone.eq_none_str (aT I q (by simp))
    | _ => exact absurd (show false = true from hs) Bool.false_ne_true
  | bl i =>
    cases rx
    cases y with
    | aj => cases ry; exact PySem.EqNone.eq_bool_none (aT I q (by simp))
    | bl j => cases ry; exact eq_bool (aT I q uq)
    | str j => obtain ⟨t', rfl⟩ := ry; exact PySem.EqMixed.eq_bool_str (aT I q (by simp))
    | _ => exact absurd (show false = true from hs) Bool.false_ne_true
  | int i =>
    obtain ⟨t, rfl⟩ := rx
    cases y with
    | aj => cases ry; exact PySem.EqNone.eq_int_none (aT I q (by simp))
    | int j => obtain ⟨t', rfl⟩ := ry; exact eq_int (aT I q rO)
    | str j => obtain ⟨t', rfl⟩ := ry; exact PySem.EqMixed.eq_int_str (aT I q (by simp))
    | _ => exact absurd (show false = true from hs) Bool.false_ne_true
  | str i =>
    obtain ⟨t, rfl⟩ := rx
    cases y with
    | aj => cases ry; exact PySem.EqNone.eq_str_none (aT I q (by simp))
    | bl j => cases ry; exact PySem.EqMixed.eq_str_bool (aT I q (by simp))
    | int j => obtain ⟨t', rfl⟩ := ry; exact PySem.EqMixed.eq_str_int (aT I q (by simp))
    | str j => obtain ⟨t', rfl⟩ := ry; exact eq_str (aT I q rP)
    | _ => exact absurd (show false = true from hs) Bool.false_ne_true
  | gG i =>
    obtain ⟨t, rfl⟩ := rx
    cases y with
    | gG j => obtain ⟨t', rfl⟩ := ry; exact PySem.W.eq_bytes (aT I q rQ)
    | _ => exact absurd (show false = true from hs) Bool.false_ne_true
  | _ => cases y <;> exact absurd (show false = true from hs) Bool.false_ne_true
theorem Es : OpR X (compareOp .NotEq) Ii := by
  intro pins s σ H x y v u Q I rx ry h
  obtain ⟨hs, q⟩ := h
  cases x with
  | aj =>
    cases rx
    cases y with
    | aj => cases ry; exact PySem.EqNone.ne_none_none (aT I q (by simp))
    | bl j => cases ry; exact PySem.EqNone.ne_none_bool (aT I q (by simp))
    | int j => obtain ⟨t', rfl⟩ := ry; exact PySem.EqNone.ne_none_int (aT I q (by simp))
    | str j => obtain ⟨t', rfl⟩ := ry; exact PySem.EqNone.ne_none_str (aT I q (by simp))
    | _ => exact absurd (show false = true from hs) Bool.false_ne_true
  | bl i =>
    cases rx
    cases y with
    | aj => cases ry; exact PySem.EqNone.ne_bool_none (aT I q (by simp))
    | bl j => cases ry; exact ne_bool (aT I q (congrArg not uq))
    | str j => obtain ⟨t', rfl⟩ := ry; exact PySem.EqMixed.ne_bool_str (aT I q (by simp))
    | _ => exact absurd (show false = true from hs) Bool.false_ne_true
  | int i =>
    obtain ⟨t, rfl⟩ := rx
    cases y with
    | aj => cases ry; exact PySem.EqNone.ne_int_none (aT I q (by simp))
    | int j => obtain ⟨t', rfl⟩ := ry; exact ne_int (aT I q (congrArg not rO))
    | str j => obtain ⟨t', rfl⟩ := ry; exact PySem.EqMixed.ne_int_str (aT I q (by simp))
    | _ => exact absurd (show false = true from hs) Bool.false_ne_true
  | str i =>
    obtain ⟨t, rfl⟩ := rx
    cases y with
    | aj => cases ry; exact PySem.EqNone.ne_str_none (aT I q (by simp))
    | bl j => cases ry; exact PySem.EqMixed.ne_str_bool (aT I q (by simp))
    | int j => obtain ⟨t', rfl⟩ := ry; exact PySem.EqMixed.ne_str_int (aT I q (by simp))
    | str j => obtain ⟨t', rfl⟩ := ry; exact ne_str (aT I q (congrArg not rP))
    | _ => exact absurd (show false = true from hs) Bool.false_ne_true
  | gG i =>
    obtain ⟨t, rfl⟩ := rx
    cases y with
    | gG j => obtain ⟨t', rfl⟩ := ry; exact PySem.W.ne_bytes (aT I q (congrArg not rQ))
    | _ => exact absurd (show false = true from hs) Bool.false_ne_true
  | _ => cases y <;> exact absurd (show false = true from hs) Bool.false_ne_true
theorem Et : OpR X (compareOp .Lt) (ni fun i j => .bl (decide (i < j))) := wA fun _ _ _ _ _ _ _ q => lt_int q
theorem Eu : OpR X (compareOp .LtE) (ni fun i j => .bl (decide (i ≤ j))) := wA fun _ _ _ _ _ _ _ q => le_int q
theorem Ew : OpR X (compareOp .Gt) (ni fun i j => .bl (decide (j < i))) := wA fun _ _ _ _ _ _ _ q => gt_int q
theorem ur : OpR X (compareOp .In) (fun x y H Q => ∃ i j, x = .str i ∧ y = .str j ∧ Q (.bl (!(Builtin.Str.occurrences j i 0 j.length 1).isEmpty)) H) := by
  intro pins s σ H x y v u Q I rx ry h
  obtain ⟨i, j, rfl, rfl, q⟩ := h
  obtain ⟨t, rfl⟩ := rx
  obtain ⟨t', rfl⟩ := ry
  exact in_str (aT I q rfl)
theorem b5 (b : Expr) {op : CmpOp} (h : op ≠ .In := by decide) (h2 : op ≠ .NotIn := by decide) : behindInMarks op b = false := by
  have e1 : (op == CmpOp.In) = false := by cases op <;> first | rfl | exact absurd rfl h
  have e2 : (op == CmpOp.NotIn) = false := by cases op <;> first | rfl | exact absurd rfl h2
  cases b <;> simp [behindInMarks, e1, e2]
theorem zk {op : CmpOp} {r : R2} (ho : OpR X (compareOp op) r) (ha : PE X a ta) (hb : PE X b tb) (hm : behindInMarks op b = false) : PE X (.Compare a [op] [b] pos) (uo r ta tb) := by
  refine ⟨?_⟩
  intro pins s σ H Q I h
  exact wpAny_Compare1 (wz ha hb I h fun v u s2 x y H2 I2 rx ry q => ho pins s2 σ H2 x y v u Q I2 rx ry q) hm
noncomputable def sF (t : TE) : TT := fun σ H Q => t σ H fun x H' => ∃ k, x = .bl k ∧ Q k H'
theorem zl {op : CmpOp} {r : R2} (ho : OpR X (compareOp op) r) (ha : PE X a ta) (hb : PE X b tb) (hm : behindInMarks op b = false) : PT X (.Compare a [op] [b] pos) (sF (uo r ta tb)) := by
  refine ⟨?_⟩
  intro pins s σ H Q I h
  refine wpAny_isTrue_Compare1 (thn (ha pins s σ H _ I h) fun v s1 ⟨x, H1, I1, r1, q1⟩ => thn (hb pins s1 σ H1 _ I1 q1) fun u s2 ⟨y, H2, I2, r2, q2⟩ =>
    thn (ho pins s2 σ H2 x y v u _ I2 r1 r2 q2) fun c s3 ⟨z, H3, I3, r3, k, e, q3⟩ => ?_) hm
  subst e
  cases r3
  exact wpAny_truthy_bool ⟨H3, I3, q3⟩
noncomputable def oZ (r r' : R2) (ta tb tc : TE) : TE := fun σ H Q => ta σ H fun x H1 => tb σ H1 fun y H2 => r x y H2 fun z H3 => ∃ k, z = .bl k ∧
  (if k = true then tc σ H3 fun w' H4 => r' y w' H4 Q else Q (.bl false) H3)
theorem wC {op gL : CmpOp} {r r' : R2} (ho : OpR X (compareOp op) r) (fO : OpR X (compareOp gL) r') (ha : PE X a ta) (hb : PE X b tb) (hc : PE X c tc)
    (hm : lastMarks [op, gL] [b, c] = false := by with_unfolding_all rfl) : PE X (.Compare a [op, gL] [b, c] pos) (oZ r r' ta tb tc) := by
  refine ⟨?_⟩
  intro pins s σ H Q I h
  refine Compare_chain (thn (ha pins s σ H _ I h) fun v s1 ⟨x, H1, I1, r1, q1⟩ => chain_link (thn (hb pins s1 σ H1 _ I1 q1) fun u s2 ⟨y, H2, I2, r2, q2⟩ =>
    thn (ho pins s2 σ H2 x y v u _ I2 r1 r2 q2) fun d s3 ⟨z, H3, I3, r3, k, e, q3⟩ => ?_)) hm
  subst e
  cases r3
  refine wpAny_truthy_bool ?_
  cases k with
  | false => exact ite_ff ⟨.bl false, H3, I3, rfl, q3⟩
  | true => exact ite_tt (chain_last (thn (hc pins s3 σ H3 _ I3 q3) fun w' s4 ⟨z', H4, I4, r4, q4⟩ => fO pins s4 σ H4 y z' u w' Q I4 r2 r4 q4))
theorem wD {op gL : CmpOp} {r r' : R2} (ho : OpR X (compareOp op) r) (fO : OpR X (compareOp gL) r') (ha : PE X a ta) (hb : PE X b tb) (hc : PE X c tc)
    (hm : lastMarks [op, gL] [b, c] = false := by with_unfolding_all rfl) : PT X (.Compare a [op, gL] [b, c] pos) (sF (oZ r r' ta tb tc)) := by
  refine ⟨?_⟩
  intro pins s σ H Q I h
  refine isTrue_chain (thn (ha pins s σ H _ I h) fun v s1 ⟨x, H1, I1, r1, q1⟩ => test_link (thn (hb pins s1 σ H1 _ I1 q1) fun u s2 ⟨y, H2, I2, r2, q2⟩ =>
    thn (ho pins s2 σ H2 x y v u _ I2 r1 r2 q2) fun d s3 ⟨z, H3, I3, r3, k, e, q3⟩ => ?_)) hm
  subst e
  cases r3
  refine wpAny_truthy_bool ?_
  cases k with
  | false =>
    obtain ⟨k', e', q'⟩ := q3
    cases e'
    exact ite_ff ⟨H3, I3, q'⟩
  | true =>
    refine ite_tt (test_last (thn (hc pins s3 σ H3 _ I3 q3) fun w' s4 ⟨z', H4, I4, r4, q4⟩ => thn (fO pins s4 σ H4 y z' u w' _ I4 r2 r4 q4) fun d' s5 ⟨z2, H5, I5, r5, k2, e2, q5⟩ => ?_))
    subst e2
    cases r5
    exact wpAny_truthy_bool ⟨H5, I5, q5⟩
noncomputable def G8 (K : PySem.W.Frag) (x : V) (H : Hp) (k : Bool) : Prop :=
  match x with
  | .aj => k = false
  | .bl b => k = b
  | .int i => k = (i != 0)
  | .str y => y.length ≤ sizeLine ∧ k = ((y.length : Int) != 0)
  | .gG y => y.size ≤ sizeLine ∧ k = ((y.size : Int) != 0)
  | .ref p => (∃ xs, bH K H p xs ∧ k = !xs.isEmpty) ∨ (∃ xs, bR K H p xs ∧ k = !xs.isEmpty) ∨ ∃ bG, H p = some (.dK bG) ∧ k = !bG.isEmpty
  | _ => False
theorem sG {κ : Type} {bG : List (κ × V)} {vs : List (κ × Value)} (r : KV bG vs) : (!vs.isEmpty) = !bG.isEmpty := by
  cases r <;> rfl
theorem lr {xs : List V} {its : List Value} (r : Vals xs its) : (!its.toArray.isEmpty) = !xs.isEmpty := by
  cases r <;> simp
theorem iD : (sizeLine : Nat) < 2 ^ 63 := by rw [sizeLine_eq]; decide
theorem Ij : G7 X (fun x H Q => ∃ k, G8 X.K x H k ∧ Q k H) := by
  intro pins s σ H x v Q I rx h
  obtain ⟨k, e, q⟩ := h
  have hl := iD
  have hs : sizeLine = 16777216 := sizeLine_eq
  cases x with
  | aj =>
    cases rx
    have e' : k = false := e
    subst e'
    exact truthy_none ⟨H, I, q⟩
  | bl b =>
    cases rx
    have e' : k = b := e
    subst e'
    exact wpAny_truthy_bool ⟨H, I, q⟩
  | int i =>
    obtain ⟨t, rfl⟩ := rx
    have e' : k = (i != 0) := e
    subst e'
    exact PySem.P.truthy_int ⟨H, I, q⟩
  | str y =>
    obtain ⟨t, rfl⟩ := rx
    obtain ⟨hy, e'⟩ : y.length ≤ sizeLine ∧ k = ((y.length : Int) != 0) := e
    subst e'
    exact PySem.P.truthy_str (by omega) ⟨H, I.tok _, q⟩
  | gG y =>
    obtain ⟨t, rfl⟩ := rx
    obtain ⟨hy, e'⟩ : y.size ≤ sizeLine ∧ k = ((y.size : Int) != 0) := e
    subst e'
    exact PySem.W.truthy_bytes (by omega) ⟨H, I.tok _, q⟩
  | ref p =>
    cases rx
    have e' : (∃ xs, bH X.K H p xs ∧ k = !xs.isEmpty) ∨ (∃ xs, bR X.K H p xs ∧ k = !xs.isEmpty) ∨ ∃ bG, H p = some (.dK bG) ∧ k = !bG.isEmpty := e
    rcases e' with ⟨xs, hx, e'⟩ | ⟨xs, hx, e'⟩ | ⟨bG, hx, e'⟩
    · subst e'
      obtain ⟨its, r, pl, hz⟩ := I.list hx
      have hlen := r.length
      exact wpAny_truthy_list pl.isList (by simp only [List.size_toArray]; omega) ⟨H, I.tok _, by rw [lr r]; exact q⟩
    · subst e'
      obtain ⟨its, r, pl, hz⟩ := I.tuple hx
      have hlen := r.length
      exact truthy_tuple pl (by simp only [List.size_toArray]; omega) ⟨H, I.tok _, by rw [lr r]; exact q⟩
    · subst e'
      obtain ⟨hz, hS, vs, r, m⟩ : bG.length ≤ sizeLine ∧ (p == sysModules) = false ∧ ∃ vs, KV bG vs ∧ s.heap.DictOf (mn X.prog X.w) p vs := I.hok p _ hx
      have hlen : bG.length = vs.length := Paired.length r
      exact wpAny_truthy_dict hS m (by omega) ⟨H, I.tok _, by rw [sG r]; exact q⟩
  | _ => exact (show False from e).elim
theorem sH : OpR X (binaryOp .Add) (fun x y H Q => ∃ i j, x = .str i ∧ y = .str j ∧ i.length + j.length ≤ sizeLine ∧ Q (.str (i ++ j)) H) := by
  intro pins s σ H x y v u Q I rx ry h
  obtain ⟨i, j, rfl, rfl, hz, q⟩ := h
  obtain ⟨t, rfl⟩ := rx
  obtain ⟨t', rfl⟩ := ry
  exact add_str (fun t' tk => ⟨.str (i ++ j), H, I.tok _, ⟨_, rfl⟩, q⟩) hz
theorem vals1 {x : V} {us : List Value} (r : Vals [x] us) : ∃ u, us = [u] ∧ RelV x u := by
  cases r with
  | cons r1 r2 => cases r2; exact ⟨_, rfl, r1⟩
theorem vals2 {x y : V} {us : List Value} (r : Vals [x, y] us) : ∃ u w', us = [u, w'] ∧ RelV x u ∧ RelV y w' := by
  cases r with
  | cons r1 r2 =>
    cases r2 with
    | cons r3 r4 => cases r4; exact ⟨_, _, rfl, r1, r3⟩
theorem wF : cJ X (.builtin "abs") (fun xs H Q => ∃ i, xs = [.int i] ∧ Q (.int (if i < 0 then -i else i)) H) := by
  intro pins s σ H xs us Q I r h
  obtain ⟨i, rfl, q⟩ := h
  obtain ⟨u, rfl, t, rfl⟩ := vals1 r
  exact call_abs_int fun u tk => ⟨.int (if i < 0 then -i else i), H, I.tok _, ⟨_, rfl⟩, q⟩
theorem uv (hc : X.calm = true) : cJ X (.builtin "max") (fun xs H Q => ∃ i j, xs = [.int i, .int j] ∧ Q (.int (if j > i then j else i)) H) := by
  intro pins s σ H xs us Q I r h
  obtain ⟨i, j, rfl, q⟩ := h
  obtain ⟨u, w', rfl, ⟨t, rfl⟩, ⟨t', rfl⟩⟩ := vals2 r
  refine max_two_ints (I.ok.hd hc) fun h' tk k => ⟨_, H, I.kept k, ?_, q⟩
  by_cases hj : j > i
  · rw [if_pos hj, if_pos hj]; exact ⟨_, rfl⟩
  · rw [if_neg hj, if_neg hj]; exact ⟨_, rfl⟩
theorem uw (hc : X.calm = true) : cJ X (.builtin "min") (fun xs H Q => ∃ i j, xs = [.int i, .int j] ∧ Q (.int (if j < i then j else i)) H) := by
  intro pins s σ H xs us Q I r h
  obtain ⟨i, j, rfl, q⟩ := h
  obtain ⟨u, w', rfl, ⟨t, rfl⟩, ⟨t', rfl⟩⟩ := vals2 r
  refine min_two_ints (I.ok.hd hc) fun h' tk k => ⟨_, H, I.kept k, ?_, q⟩
  by_cases hj : j < i
  · rw [if_pos hj, if_pos hj]; exact ⟨_, rfl⟩
  · rw [if_neg hj, if_neg hj]; exact ⟨_, rfl⟩
noncomputable def Bo (K : PySem.W.Frag) (x : V) (H : Hp) (n : Nat) : Prop :=
  match x with
  | .str y => y.length ≤ sizeLine ∧ n = y.length
  | .gG y => y.size ≤ sizeLine ∧ n = y.size
  | .ref p => (∃ xs, bH K H p xs ∧ n = xs.length) ∨ ∃ xs, bR K H p xs ∧ n = xs.length
  | _ => False
theorem wG : cJ X (.builtin "len") (fun xs H Q => ∃ x n, xs = [x] ∧ Bo X.K x H n ∧ Q (.int n) H) := by
  intro pins s σ H xs us Q I r h
  obtain ⟨x, n, rfl, e, q⟩ := h
  obtain ⟨u, rfl, rx⟩ := vals1 r
  have hl := iD
  have hs : sizeLine = 16777216 := sizeLine_eq
  cases x with
  | str y =>
    obtain ⟨t, rfl⟩ := rx
    obtain ⟨hy, e'⟩ : y.length ≤ sizeLine ∧ n = y.length := e
    subst e'
    exact len_str (by omega) ⟨.int _, H, I.tok _, ⟨_, rfl⟩, q⟩
  | gG y =>
    obtain ⟨t, rfl⟩ := rx
    obtain ⟨hy, e'⟩ : y.size ≤ sizeLine ∧ n = y.size := e
    subst e'
    exact PySem.W.len_bytes (by omega) ⟨.int _, H, I.tok _, ⟨_, rfl⟩, q⟩
  | ref p =>
    cases rx
    have e' : (∃ xs, bH X.K H p xs ∧ n = xs.length) ∨ ∃ xs, bR X.K H p xs ∧ n = xs.length := e
    rcases e' with ⟨xs, hx, e'⟩ | ⟨xs, hx, e'⟩
    · subst e'
      obtain ⟨its, r', pl, hz⟩ := I.list hx
      have hlen := r'.length
      exact Calls.call_len_list pl.isList (by simp only [List.size_toArray]; omega) ⟨.int xs.length, H, I.tok _, ⟨_, by simp only [List.size_toArray]; rw [hlen]⟩, q⟩
    · subst e'
      obtain ⟨its, r', pl, hz⟩ := I.tuple hx
      have hlen := r'.length
      exact len_tuple pl (by simp only [List.size_toArray]; omega) ⟨.int xs.length, H, I.tok _, ⟨_, by simp only [List.size_toArray]; rw [hlen]⟩, q⟩
  | _ => exact (show False from e).elim
end
structure wH (h : Heap) (x dx C : Addr) (mA : Str → Option Value) : Prop where
  obj : h.get? x = some (PySem.W.instObj C dx)
  ns : h.Ns1 dx mA
  ne : dx ≠ x
theorem ux {h : Heap} {dx : Addr} {mA : Str → Option Value} (n : h.Ns1 dx mA) : ∃ od, h.get? dx = some od ∧ ∀ name, PySem.W.lookIn name od = some (mA name) := by
  obtain ⟨o, es, ep, ho, hd, hk, _, hm⟩ := n
  refine ⟨o, ho, fun name => ?_⟩
  have e := hm name
  unfold nsFind findBy at e
  rw [← Array.find?_toList] at e
  unfold PySem.W.lookIn
  rw [hd]
  dsimp only
  split
  · rename_i y q
    rw [q] at e
    exact congrArg some e
  · rename_i q
    rw [q] at e
    have a : es.toList.any (·.refKey) = false := by
      rw [List.any_eq_false]
      intro y hy
      obtain ⟨z, t, G9⟩ := hk y (Array.mem_toList_iff.mp hy)
      simp [DictEntry.refKey, G9]
    have a' : ¬ es.toList.any (·.refKey) = true := by rw [a]; exact Bool.false_ne_true
    rw [if_neg a']
    exact congrArg some e
theorem wH.look {h : Heap} {x dx C : Addr} {mA : Str → Option Value} (I : wH h x dx C mA) : ∃ od, PySem.W.InstAt h x (PySem.W.instObj C dx) C (some od) ∧ ∀ name, PySem.W.lookIn name od = some (mA name) :=
  let ⟨od, ho, hl⟩ := ux I.ns
  ⟨od, ⟨I.obj, rfl, rfl, ho⟩, hl⟩
section
variable {P : Program} {w : World} {H H' : Hp} {h h' : Heap} {a C dx : Addr} {fs HY : List (Str × V)}
theorem zm (hok : c9 P w H h) (e : H a = some (.ins C dx fs)) : ∃ mA, wH h a dx C mA ∧ (∀ f, wj (fs.lookup f) (mA f)) ∧ PySem.Within mA (fs.map (·.1)) ∧ fs.length ≤ 1000 ∧ H dx = some (.own a) := by
  obtain ⟨d, z, ne, ob, mA, n, r, q⟩ := (show bg P w H h a (.ins C dx fs) from hok a _ e)
  exact ⟨mA, ⟨ob, n, ne⟩, r, q, z, d⟩
end
structure Bp (K : PySem.W.Frag) (C : Addr) : Prop where
  pg : PySem.W.plainGet K C Str.empty = true
  hd : PySem.W.hasDictIn K C = true
  po : PySem.W.plainOver K C = true
  sa : PySem.W.findIn K (.ref C) "__setattr__" = some (some (.builtin "object.__setattr__"))
theorem Bp.get {K : PySem.W.Frag} {C : Addr} (c : Bp K C) (f : Str) : PySem.W.plainGet K C f = true := c.pg
section
variable {X : Cx} {pins : List (Addr × Obj)} {σ : St} {H : Hp} {s : Shared} {A : Around} {E : Value → Shared → Prop} {Q : Value → Shared → Prop} {c : Value} {b : Bool}
inductive eO (K : PySem.W.Frag) (H : Hp) : V → Value → Prop where
  | aj : eO K H .aj (.type "NoneType")
  | bl (x : Bool) : eO K H (.bl x) (.type "bool")
  | int (i : Int) : eO K H (.int i) (.type "int")
  | str (x : Str) : eO K H (.str x) (.type "str")
  | rK (x : UInt64) : eO K H (.rK x) (.type "float")
  | lst {a : Addr} {xs : List V} (e : H a = some (.lst xs)) : eO K H (.ref a) (.type "list")
  | ef {a : Addr} {o : Obj} {xs : List V} (e : H a = some (.ef o (.lst xs))) : eO K H (.ref a) (.type "list")
  | tup {a : Addr} {xs : List V} (e : H a = some (.tup xs)) : eO K H (.ref a) (.type "tuple")
  | dK {a : Addr} {bG : List (Key × V)} (e : H a = some (.dK bG)) : eO K H (.ref a) (.type "dict")
  | dT {a : Addr} {bG : List (List Key × V)} (e : H a = some (.dT bG)) : eO K H (.ref a) (.type "dict")
  | ins {a C dx : Addr} {fs : List (Str × V)} (e : H a = some (.ins C dx fs)) (cl : Bp K C) (ha : PySem.W.findIn K (.ref C) "__class__" = some (some (.builtin "object.__class__")))
      (hn : PySem.W.specialIn K (.builtin "object.__class__") "__get__" = some (some (.builtin "getset_descriptor.__get__"))) (FV : PySem.W.takesIn K (.builtin "object.__class__") = some true)
      (hm : PySem.W.mroIn K C (.type "object") = some true) : eO K H (.ref a) (.ref C)
theorem uy {x : V} {u t : Value} (I : Inv X pins σ H s) (rx : RelV x u) (ty : eO X.K H x t) (e : PySem.W.kitOne X.K t c = some b) (h : ∀ tk, Q (.bool b) { s with toks := tk }) :
    wpAny (model X.prog X.w) A (call (.builtin "isinstance") [u, c]) Q E s := by
  cases ty with
  | aj => cases (show u = Value.none from rx); exact PySem.W.kia_one PySem.W.kitx_none I.eu True.intro e (fun z => nomatch z) h
  | bl y => cases (show u = Value.bool y from rx); exact PySem.W.kia_one PySem.W.kitx_bool I.eu True.intro e (fun z => nomatch z) h
  | int i => obtain ⟨t, q⟩ := (show ∃ t, u = Value.int i t from rx); cases q; exact PySem.W.kia_one PySem.W.kitx_int I.eu True.intro e (fun z => nomatch z) h
  | str y => obtain ⟨t, q⟩ := (show ∃ t, u = Value.str y t from rx); cases q; exact PySem.W.kia_one PySem.W.kitx_str I.eu True.intro e (fun z => nomatch z) h
  | rK y => obtain ⟨t, q⟩ := (show ∃ t, u = Value.float y t from rx); cases q; exact PySem.W.kia_one PySem.W.kitx_float I.eu True.intro e (fun z => nomatch z) h
  | @lst a xs ea =>
    cases (show u = Value.ref a from rx)
    obtain ⟨_, _, n, _, h1⟩ := (show bg X.prog X.w H s.heap a (.lst xs) from I.hok a _ ea)
    exact PySem.W.kia_one PySem.W.kitx_list I.eu ⟨_, h1, rfl⟩ e (fun z => nomatch z) h
  | @ef a ob xs ea =>
    cases (show u = Value.ref a from rx)
    obtain ⟨_, _, _, n, _, h1⟩ := (show bg X.prog X.w H s.heap a (.ef ob (.lst xs)) from I.hok a _ ea)
    exact PySem.W.kia_one PySem.W.kitx_list I.eu ⟨_, h1, rfl⟩ e (fun z => nomatch z) h
  | @tup a xs ea =>
    cases (show u = Value.ref a from rx)
    obtain ⟨_, _, _, p⟩ := (show bg X.prog X.w H s.heap a (.tup xs) from I.hok a _ ea)
    obtain ⟨o, h1, h2, _⟩ := p
    exact PySem.W.kia_one PySem.W.kitx_tuple I.eu ⟨o, h1, h2⟩ e (fun z => nomatch z) h
  | @dK a bG ea =>
    cases (show u = Value.ref a from rx)
    obtain ⟨_, _, vs, _, p⟩ := (show bg X.prog X.w H s.heap a (.dK bG) from I.hok a _ ea)
    obtain ⟨o, es, ep, h1, h2, _⟩ := p
    exact PySem.W.kia_one PySem.W.kitx_dict I.eu ⟨o, h1, h2.1⟩ e (fun z => nomatch z) h
  | @dT a bG ea =>
    cases (show u = Value.ref a from rx)
    obtain ⟨_, _, xs, _, o, es, ep, h1, h2, _⟩ := (show bg X.prog X.w H s.heap a (.dT bG) from I.hok a _ ea)
    exact PySem.W.kia_one PySem.W.kitx_dict I.eu ⟨o, h1, h2.1⟩ e (fun z => nomatch z) h
  | @ins a C dx fs ea cl ha hn FV hm =>
    cases (show u = Value.ref a from rx)
    obtain ⟨mA, O, _⟩ := zm I.hok ea
    obtain ⟨od, J, _⟩ := O.look
    exact PySem.W.kia_one (PySem.W.kitx_own (cl.get _) cl.hd ha hn FV hm) I.eu J e (fun z => nomatch z) h
end
structure bu (k : Nat) (A : Around) : Prop where
  hd : A.handled = none
  dp : A.depth + 3 * k + 5 < recursionLimit
  un : A.units + 16 * k + 200 < cLine
theorem bu.mono {j k : Nat} {A : Around} (r : bu k A) (h : j ≤ k) : bu j A := ⟨r.hd, by have := r.dp; omega, by have := r.un; omega⟩
theorem bu.deeper {k : Nat} {A : Around} (r : bu (k + 1) A) (env : Env) : bu k (A.deeper env) :=
  ⟨r.hd, by have := r.dp; show A.depth + 1 + 3 * k + 5 < _; omega, by have := r.un; show A.units + 3 + 16 * k + 200 < _; omega⟩
theorem bu.depth {k : Nat} {A : Around} (r : bu k A) : A.depth < recursionLimit := by have := r.dp; omega
theorem bu.units {k : Nat} {A : Around} (r : bu k A) : A.units + 64 < cLine := by have := r.un; omega
noncomputable def Ha : TA := fun _ H Q => Q [] H
noncomputable def Ez (ta : TE) (tr : TA) : TA := fun σ H Q => ta σ H fun x H1 => tr σ H1 fun xs H2 => Q (x :: xs) H2
section
variable {X : Cx} {e : Expr} {es : List Expr} {te : TE} {t : TA} {pos : Pos}
theorem Bq : PA X [] Ha := ⟨fun _ _ _ _ H Q I h => Calls.spliced_nil ⟨[], H, I, .nil, h⟩⟩
theorem zo (ha : PE X e te) (hr : PA X es t) (hs : starEach (e :: es) X.env = (false, eval e X.env) :: starEach es X.env := by rfl) : PA X (e :: es) (Ez te t) := by
  refine ⟨?_⟩
  intro pos pins s σ H Q I h
  rw [hs]
  show wpAny _ _ (spliced ((false, eval e X.env) :: backTo pos (starEach es X.env))) _ _ s
  refine Calls.spliced_cons (thn (ha pins s σ H _ I h) fun u s1 ⟨x, H1, I1, r1, q1⟩ => ?_)
  exact thn (hr pos pins s1 σ H1 _ I1 q1) fun us s2 ⟨xs, H2, I2, r2, q2⟩ => ⟨x :: xs, H2, I2, .cons r1 r2, q2⟩
noncomputable def Hb (t : TA) : TE := fun σ H Q => t σ H fun xs H1 => xs.length ≤ sizeLine ∧ ∀ p, H1 p = none → Q (.ref p) (upd H1 p (.tup xs))
noncomputable def Hc (t : TA) : TE := fun σ H Q => t σ H fun xs H1 => xs.length ≤ sizeLine ∧ ∀ p, H1 p = none → Q (.ref p) (upd H1 p (.lst xs))
theorem Br {x1} (h : PA X es t) : PE X (.Tuple es x1 pos) (Hb t) := by
  refine ⟨?_⟩
  intro pins s σ H Q I hq
  refine wpAny_Tuple_spliced (thn (h pos pins s σ H _ I hq) fun us s1 ⟨xs, H1, I1, r, z, q⟩ => ⟨by rw [← r.length]; exact z, ?_⟩)
  have hf : H1 s1.heap.objs.size = none := I1.hok.fresh (Nat.le_refl _)
  refine ⟨.ref s1.heap.objs.size, upd H1 s1.heap.objs.size (.tup xs), I1.laid (t' := s1.toks) (fun b u e => Heap.get?_push_of_some _ e) (Nat.le_refl _) ?_, rfl, q _ hf⟩
  exact ⟨z, us, r, ⟨_, Heap.get?_push_size _ rfl, rfl, _, rfl, rfl⟩⟩
theorem uz (h : PA X es t) : PE X (.List es pos) (Hc t) := by
  refine ⟨?_⟩
  intro pins s σ H Q I hq
  refine wpAny_List_spliced (thn (h pos pins s σ H _ I hq) fun us s1 ⟨xs, H1, I1, r, z, q⟩ => ⟨by rw [← r.length]; exact z, ?_⟩)
  have hf : H1 s1.heap.objs.size = none := I1.hok.fresh (Nat.le_refl _)
  refine ⟨.ref s1.heap.objs.size, upd H1 s1.heap.objs.size (.lst xs), I1.laid (t' := s1.toks) (fun b u e => Heap.get?_push_of_some _ e) (Nat.le_refl _) ?_, rfl, q _ hf⟩
  exact ⟨z, us, 0, r, Heap.get?_push_size _ rfl⟩
end
noncomputable abbrev Sp := List V → Hp → VK → XK → Prop
noncomputable abbrev iE := List Env → Hp → Shared → XK → Value → Shared → Prop
structure sI (P : Program) (w : World) (K : PySem.W.Frag) (mg : Str → Option Value) (base : Heap) (A : Around) (outer : List Env) (s : Shared) (H : Hp) : Prop where
  frames : A.frames = some outer
  mod : Mod K mg base
  bs : ∀ b o, base.get? b = some o → s.heap.get? b = some o ∧ H b = none
  bsz : base.objs.size ≤ s.heap.objs.size
  funs : s.heap.FunFrames base outer
  frf : ∀ b ∈ eh outer, H b = none
  hok : c9 P w H s.heap
  bare : AllBare s.gens
noncomputable def CE (outer : List Env) (P : Program) (w : World) (H : Hp) (s : Shared) (Q : VK) (u : Value) (s' : Shared) : Prop :=
  ∃ v H', s'.os = s.os ∧ Gn s.gens.size s'.gens ∧ Un (eh outer) [] H H' s.heap s'.heap ∧ c9 P w H' s'.heap ∧ RelV v u ∧ Q v H'
noncomputable def CR (CX : iE) (outer : List Env) (P : Program) (w : World) (H : Hp) (s : Shared) (Q : VK) (E : XK) (r : Result) (s' : Shared) : Prop :=
  match r with
  | .ok (.ret u) => CE outer P w H s Q u s'
  | .ok _ => False
  | .error e => CX outer H s E e s'
structure FnOk (P : Program) (w : World) (K : PySem.W.Frag) (mg : Str → Option Value) (base : Heap) (CX : iE) (k : Nat) (f : Addr) (fd : FuncData) (ps : List Str) (sp : Sp) : Prop where
  len : ∀ vs H Q E, sp vs H Q E → vs.length = ps.length
  run : ∀ (A : Around) (outer : List Env) (s : Shared) (H : Hp) (args : Args) (us : List Value) (vs : List V) (Q : VK) (E : XK), bu k A → sI P w K mg base A outer s H → BindsTo s fd args (ps.zip us) → Vals vs us → sp vs H Q E →
    codeAny (model P w) A (.call (.ref f) args) (CR CX outer P w H s Q E) s
theorem FnOk.imp {P : Program} {w : World} {K : PySem.W.Frag} {mg : Str → Option Value} {base : Heap} {CX : iE} {k : Nat} {f : Addr} {fd : FuncData} {ps : List Str} {sp FW : Sp} (F : FnOk P w K mg base CX k f fd ps sp)
    (h : ∀ vs H Q E, FW vs H Q E → sp vs H Q E) : FnOk P w K mg base CX k f fd ps FW :=
  ⟨fun vs H Q E q => F.len vs H Q E (h _ _ _ _ q), fun A outer s H args us vs Q E hr he hb hv hs => F.run A outer s H args us vs Q E hr he hb hv (h _ _ _ _ hs)⟩
section
variable {X : Cx} {pins : List (Addr × Obj)} {σ : St} {H : Hp} {s s' : Shared}
theorem Inv.Hd (I : Inv X pins σ H s) : sI X.prog X.w X.K X.mg X.base X.A X.stack s H :=
  ⟨I.ok.frames, I.ok.mod, I.bs, Nat.le_trans I.ok.bsz I.sz, I.stack, I.mq, I.hok, I.bare.1⟩
theorem Inv.after {Q : VK} {u : Value} (I : Inv X pins σ H s) (h : CE X.stack X.prog X.w H s Q u s') : EP X pins σ Q u s' := by
  obtain ⟨v, H', os, bare, un, hok, r, q⟩ := h
  obtain ⟨hh, g, d, t, FX⟩ := s'
  obtain rfl : FX = s.os := os
  exact ⟨v, H', I.call (h' := hh) (g' := g) (d' := d) (t' := t) (ch := []) un hok bare (fun b z => absurd z (by simp)), r, q⟩
end
noncomputable def yp (sp : Sp) (nj : List V) (E : XK) (t : TA) : TE := fun σ H Q => t σ H fun vs H1 => sp (vs ++ nj) H1 Q E
noncomputable def Binds (K : PySem.W.Frag) (fd : FuncData) (ps : List Str) (ds : List Value) : Prop :=
  ∀ (s : Shared) (us : List Value), K.In s.heap → (us ++ ds).length = ps.length → BindsTo s fd ⟨us, []⟩ (ps.zip (us ++ ds))
theorem Binds.all {K : PySem.W.Frag} {fd : FuncData} {ps : List Str} (h : ∀ us : List Value, us.length = ps.length → bindArgs fd ⟨us, []⟩ = pure (ps.zip us)) : Binds K fd ps [] := fun s us _ hl => by
  rw [List.append_nil] at hl ⊢
  exact .of_eq (h us hl)
noncomputable def Passes (CX : iE) (X : Cx) (E : XK) : Prop := ∀ (pins : List (Addr × Obj)) (σ : St) (H : Hp) (s : Shared) (e : Value) (s' : Shared), Inv X pins σ H s → CX X.stack H s E e s' → X.xe e s'
section
variable {X : Cx} {CX : iE} {k : Nat} {f C : Addr} {fd : FuncData} {ps : List Str} {sp : Sp} {nj : List V} {ds : List Value} {E : XK} {x m : Str} {p pos apos : Pos} {e o : Expr} {es : List Expr} {ta : TE} {t : TA}
theorem Bs {pins : List (Addr × Obj)} {σ : St} {H : Hp} {s : Shared} {Q : VK} {us : List Value} {vs : List V} (F : FnOk X.prog X.w X.K X.mg X.base CX k f fd ps sp) (hr : bu k X.A) (hb : Binds X.K fd ps ds) (hd : Vals nj ds) (hx : Passes CX X E)
    (I : Inv X pins σ H s) (r : Vals vs us) (h : sp (vs ++ nj) H Q E) : wpAny (model X.prog X.w) X.A (call (.ref f) us) (EP X pins σ Q) X.xe s := by
  have r2 : Vals (vs ++ nj) (us ++ ds) := r.append hd
  have hl : (us ++ ds).length = ps.length := by rw [← r2.length]; exact F.len _ _ _ _ h
  refine wpAny_call (codeAny_mono (F.run X.A X.stack s H ⟨us, []⟩ (us ++ ds) (vs ++ nj) Q E hr I.Hd (hb s us I.eu hl) r2 h) fun r s' hq => ?_)
  cases r with
  | error e => exact hx pins σ H s e s' I hq
  | ok fl =>
    cases fl with
    | ret u => exact I.after hq
    | next => exact False.elim hq
    | brk => exact False.elim hq
    | cont => exact False.elim hq
theorem zp (F : FnOk X.prog X.w X.K X.mg X.base CX k f fd ps sp) (hr : bu k X.A) (hg : Gl X x) (hm : X.mg x = some (.ref f)) (hk : PySem.W.keepIn X.K (.ref f) = true) (hb : Binds X.K fd ps ds) (hd : Vals nj ds) (hx : Passes CX X E)
    (ha : PA X (e :: es) t) (e8 : (x == ("__debug__" : Str)) = false := by decide) (he : starEach (e :: es) X.env = (false, eval e X.env) :: starEach es X.env := by rfl) (gi : (backTo pos (starEach es X.env)).any (·.1) = false := by rfl) :
    PE X (.Call (.Name x p) (e :: es) [] pos) (yp sp nj E t) := by
  refine ⟨?_⟩
  intro pins s σ H Q I h
  refine wpAny_Call_Name_kw (j4 I hg hm ?_ e8)
  refine PySem.W.callWith_K (h₀ := X.base) I.ok.mod.kin hk (thn (ha pos pins s σ H _ I h) fun us s1 ⟨vs, H1, I1, r, q⟩ => ⟨I1.eu, ?_⟩) he gi
  exact Bs F hr hb hd hx I1 r q
end
structure aS (N P : List Str) (sc : Scope) : Prop where
  kind : sc.kind = .function
  co : sc.isCoroutine = false
  gen : sc.isGenerator = false
  nd : N.Nodup
  pre : N.take P.length = P
  par : ∀ x ∈ P, sc.names.lookup x = some .local ∨ sc.names.lookup x = some .cell
  nofree : ∀ y ∈ sc.names, y.2 ≠ .free
theorem nq {kindOf : Str → Option NameKind} {x : Str} : ∀ {binds : List (Str × Value)} {m : Str → Option Value}, (∀ v, (x, v) ∉ binds) → bindL kindOf binds m x = m x
  | [], _, _ => rfl
  | (n, v) :: r, m, h => by
    unfold bindL
    rw [nq fun w hw => h w (List.mem_cons_of_mem _ hw)]
    split
    · have : x ≠ n := by rintro rfl; exact h v List.mem_cons_self
      simp [this]
    · rfl
theorem nu {kindOf : Str → Option NameKind} {x : Str} : ∀ {binds : List (Str × Value)} {m : Str → Option Value}, (∀ v, (x, v) ∉ binds) → bindC kindOf binds m x = m x
  | [], _, _ => rfl
  | (n, v) :: r, m, h => by
    unfold bindC
    rw [nu fun w hw => h w (List.mem_cons_of_mem _ hw)]
    split
    · rfl
    · have : x ≠ n := by rintro rfl; exact h v List.mem_cons_self
      simp [this]
theorem ny {kindOf : Str → Option NameKind} {x : Str} {v : Value} : ∀ {P : List Str} {vs : List Value} {i : Nat} {m : Str → Option Value}, P.Nodup → P[i]? = some x → vs[i]? = some v → kindOf x = some .local →
    bindL kindOf (P.zip vs) m x = some v
  | [], _, _, _, _, h, _, _ => by simp at h
  | _ :: _, [], _, _, _, _, h, _ => by simp at h
  | p :: P, w :: vs, 0, m, nd, h1, h2, hk => by
    simp at h1 h2; subst h1; subst h2
    show bindL kindOf ((p, w) :: P.zip vs) m p = _
    unfold bindL
    rw [nq fun v hv => (List.nodup_cons.mp nd).1 (List.of_mem_zip hv).1, if_pos hk]
    simp
  | p :: P, w :: vs, i + 1, m, nd, h1, h2, hk => by
    show bindL kindOf ((p, w) :: P.zip vs) m x = _
    unfold bindL
    exact ny (i := i) (List.nodup_cons.mp nd).2 (by simpa using h1) (by simpa using h2) hk
theorem nz {kindOf : Str → Option NameKind} {x : Str} {v : Value} : ∀ {P : List Str} {vs : List Value} {i : Nat} {m : Str → Option Value}, P.Nodup → P[i]? = some x → vs[i]? = some v → kindOf x ≠ some .local →
    bindC kindOf (P.zip vs) m x = some v
  | [], _, _, _, _, h, _, _ => by simp at h
  | _ :: _, [], _, _, _, _, h, _ => by simp at h
  | p :: P, w :: vs, 0, m, nd, h1, h2, hk => by
    simp at h1 h2; subst h1; subst h2
    show bindC kindOf ((p, w) :: P.zip vs) m p = _
    unfold bindC
    rw [nu fun v hv => (List.nodup_cons.mp nd).1 (List.of_mem_zip hv).1, if_neg hk]
    simp
  | p :: P, w :: vs, i + 1, m, nd, h1, h2, hk => by
    show bindC kindOf ((p, w) :: P.zip vs) m x = _
    unfold bindC
    exact nz (i := i) (List.nodup_cons.mp nd).2 (by simpa using h1) (by simpa using h2) hk
noncomputable def start (N : List Str) (vs : List V) : St := vs.map some ++ List.replicate (N.length - vs.length) none
noncomputable def eQ (CX : iE) (P : Program) (w : World) (K : PySem.W.Frag) (mg : Str → Option Value) (base : Heap) (N : List Str) (qual : Str) (scope : Scope) (f : Addr) (cd : Value) (A : Around) (outer : List Env) (s : Shared) (H : Hp) (E : XK) : Cx where
  prog := P
  w := w
  K := K
  mg := mg
  base := base
  A := A.deeper (envOfC qual scope s.heap.objs.size f cd)
  N := N
  s₀ := s
  H₀ := H
  env := envOfC qual scope s.heap.objs.size f cd
  outer := outer
  stack := envOfC qual scope s.heap.objs.size f cd :: outer
  ex := []
  calm := true
  fn := fun _ => true
  pn := []
  xe := fun e s' => wpAny (model P w) (A.deeper (envOfC qual scope s.heap.objs.size f cd)) (leaving (envOfC qual scope s.heap.objs.size f cd) e) (fun _ aP => CX outer H s E e aP) (fun e' aP => CX outer H s E e' aP) s'
theorem o3 {sc : Scope} {n : Nat} {x : Str} (h : sc.names.lookup x = some .cell) : ∃ c, (cellsFrom n sc.names []).lookup x = some c := by
  have q := PySem.W.cellsFrom_some sc.names n [] (.inl h)
  exact Option.isSome_iff_exists.mp q
theorem uA {CX : iE} {P : Program} {w : World} {K : PySem.W.Frag} {mg : Str → Option Value} {base : Heap} {N ps : List Str} {qual : Str} {scope : Scope} {f : Addr} {cd : Value} {A : Around} {outer : List Env} {s s1 : Shared} {H : Hp} {E : XK} {us : List Value} {vs : List V}
    (S : aS N ps scope) (hd : A.handled = none) (e0 : sI P w K mg base A outer s H) (hl : vs.length = ps.length) (r : Vals vs us)
    (x : InCallC s s.heap.objs.size (bindL (envOfC qual scope s.heap.objs.size f cd).kindOf (ps.zip us) fun _ => none) (cellsFrom (s.heap.objs.size + 1) scope.names []) (bindC (envOfC qual scope s.heap.objs.size f cd).kindOf (ps.zip us) fun _ => none) s1) :
    Inv (eQ CX P w K mg base N qual scope f cd A outer s H E) [] (start N vs) H s1 := by
  have gi : ps.length ≤ N.length := by have := congrArg List.length S.pre; rw [List.length_take] at this; omega
  obtain ⟨h1, tk, rfl, hk⟩ := x.done
  have Bt : ∀ b : Addr, b ∉ (eQ CX P w K mg base N qual scope f cd A outer s H E).ex := fun b z => absurd (show b ∈ ([] : List Addr) from z) (by simp)
  refine ⟨⟨e0.mod, S.kind, rfl, rfl, Nat.le_refl _, fun y z c h1 h2 => ?_, fun y hy => ?_, fun y c _ h => ?_, fun _ => hd, Around.frames_deeper e0.frames, .inr ⟨rfl, rfl⟩, fun b z => absurd z (Bt b), e0.bs, e0.bsz, fun b _ _ => Bt b, fun b z => absurd z (Bt b), e0.funs, e0.frf⟩,
    rfl, ⟨e0.bare, Nat.le_refl _⟩, Un.kept hk, ⟨_, x.toInCall.ns, fun i y v h1 h2 h3 => ?_⟩, fun y c h => ⟨_, x.cell y c h⟩, e0.hok.fresh (Nat.le_refl _), fun y c h => ?_, fun p hp => absurd (show p ∈ ([] : List (Addr × Obj)) from hp) (by simp), e0.hok.kept hk, ?_⟩
  · exact name_of_addr x.apart (PySem.mem_of_lookup h1) (PySem.mem_of_lookup h2)
  · have hy : scope.names.lookup y = some .cell ∨ scope.names.lookup y = some .free := hy
    rcases hy with hy | hy
    · exact o3 hy
    · exact absurd rfl (S.nofree _ (PySem.mem_of_lookup hy))
  · exact Nat.le_of_lt (x.above y c (PySem.mem_of_lookup h))
  · have hi : i < vs.length := by
      unfold start at h2
      by_cases hi : i < vs.length
      · exact hi
      · rw [List.getElem?_append_right (by simpa using hi)] at h2
        rw [List.getElem?_replicate] at h2
        split at h2 <;> cases h2
    have ha : vs[i]? = some v := by
      unfold start at h2
      rw [List.getElem?_append_left (by simpa using hi), List.getElem?_map] at h2
      cases e : vs[i]? with
      | none => rw [e] at h2; cases h2
      | some a => rw [e] at h2; cases h2; rfl
    obtain ⟨u, hu, rv⟩ := r.get ha
    have hp : ps[i]? = some y := by
      rw [← S.pre, List.getElem?_take_of_lt (by omega)]; exact h1
    have FY : ps.Nodup := by rw [← S.pre]; exact S.nd.sublist (List.take_sublist _ _)
    refine ⟨u, rv, ?_⟩
    rcases S.par y (List.mem_of_getElem? hp) with k | k
    · exact .inl ⟨k, ny FY hp hu k⟩
    · obtain ⟨c, e⟩ := o3 (n := s.heap.objs.size + 1) k
      refine .inr ⟨.inl k, c, e, ?_⟩
      have q := x.cell y c e
      rw [nz FY hp hu (by show scope.names.lookup y ≠ _; rw [k]; decide)] at q
      exact q
  · exact e0.hok.fresh (Nat.le_of_lt (x.above y c (PySem.mem_of_lookup h)))
  · unfold start
    show _ = N.length
    rw [List.length_append, List.length_map, List.length_replicate]
    omega
theorem yq {CX : iE} {P : Program} {w : World} {K : PySem.W.Frag} {mg : Str → Option Value} {base : Heap} {k : Nat} {f : Addr} {name qual : Str} {params : Arguments} {body : List Stmt} {scope : Scope} {dV kV doc pm cX ct oc : Value} {an od : Option Addr}
    {g8 : Array (Option Value)} {N ps : List Str} {sp : Sp} (lk : K.lookup f = some ⟨oc, od, .func (PySem.W.fnOf name qual params body scope dV kV doc pm an cX ct), g8⟩) (fP : PySem.W.codeIn K cX qual = true) (S : aS N ps scope)
    (len : ∀ vs H Q E, sp vs H Q E → vs.length = ps.length)
    (lu : ∀ (A : Around) (outer : List Env) (s : Shared) (H : Hp) (vs : List V) (Q : VK) (E : XK), bu k (A.deeper (envOfC qual scope s.heap.objs.size f cX)) → sp vs H Q E →
      ∃ t, dN (eQ CX P w K mg base N qual scope f cX A outer s H E) body t ∧ t { nx := fun _ H' => Q .aj H', rt := Q } (start N vs) H) :
    FnOk P w K mg base CX (k + 1) f (PySem.W.fnOf name qual params body scope dV kV doc pm an cX ct) ps sp := by
  refine ⟨len, fun A outer s H args us vs Q E hr e0 hb r kg => ?_⟩
  have hl := len _ _ _ _ kg
  have KX : K.In s.heap := e0.mod.kin.keeps fun b o e => (e0.bs b o e).1
  have lim : s.heap.NoLimit := e0.mod.nolimit.keeps fun b o e => (e0.bs b o e).1
  have oF : ∀ y ∈ ps.zip us, scope.names.lookup y.1 = some .local ∨ (scope.names.lookup y.1 = some .cell ∧ ((cellsFrom (s.heap.objs.size + 1) scope.names []).lookup y.1).isSome = true) := fun ⟨n, v⟩ hy => by
    rcases S.par n (List.of_mem_zip hy).1 with q | q
    · exact .inl q
    · exact .inr ⟨q, PySem.W.cellsFrom_some _ _ _ (.inl q)⟩
  refine codeAny_call_function hr.depth (KX _ _ lk) rfl S.co S.gen rfl (PySem.W.codeRec_of KX fP) (hb _ _ _ _ ?_)
  refine wpAny_newFunctionEnv_cells S.kind oF fun env he s1 x => ?_
  subst he
  refine ⟨lim.keeps x.toInCall.keep, codeAny_func ?_⟩
  obtain ⟨t, ht, hq⟩ := lu A outer s H vs Q E (hr.deeper _) kg
  have I : Inv (eQ CX P w K mg base N qual scope f cX A outer s H E) [] (start N vs) H s1 := uA S hr.hd e0 hl r x
  refine wpAny_mono (ht [] s1 (start N vs) H _ I hq) (fun fl s' hs => ?_) fun e s' hs => hs
  have fin : ∀ {aF : St} {H' : Hp} {v : V} {u : Value}, Inv (eQ CX P w K mg base N qual scope f cX A outer s H E) [] aF H' s' → RelV v u → Q v H' → CE outer P w H s Q u s' :=
    fun {aF H' v u} J rv q => ⟨v, H', J.os, J.bare, J.base, J.hok, rv, q⟩
  cases fl with
  | ret u =>
    obtain ⟨v, aF, H', J, rv, q⟩ := hs
    exact fin J rv q
  | next =>
    obtain ⟨aF, H', J, q⟩ := hs
    exact fin (v := V.aj) (u := Value.none) J rfl q
  | brk =>
    obtain ⟨_, _, _, q⟩ := hs
    exact False.elim q
  | cont =>
    obtain ⟨_, _, _, q⟩ := hs
    exact False.elim q
section
variable {X : Cx} {x : Str} {p pos : Pos} {e : Expr} {es : List Expr} {t : TA} {id T : String} {r : List V → Hp → VK → Prop}
noncomputable def Bu (r : List V → Hp → VK → Prop) (t : TA) : TE := fun σ H Q => t σ H fun vs H1 => r vs H1 Q
theorem wI (hc : cJ X (.builtin id) r) (hg : Gl X x) (hm : X.mg x = none) (hv : bootBuiltins x = some (.builtin id)) (ha : PA X (e :: es) t) (hn : x ≠ "__name__" := by decide) (e8 : (x == ("__debug__" : Str)) = false := by decide)
    (he : starEach (e :: es) X.env = (false, eval e X.env) :: starEach es X.env := by rfl) (gi : (backTo pos (starEach es X.env)).any (·.1) = false := by rfl) : PE X (.Call (.Name x p) (e :: es) [] pos) (Bu r t) := by
  refine ⟨?_⟩
  intro pins s σ H Q I h
  refine wpAny_Call_Name_kw (e7 I hg hm hv ?_ hn e8)
  exact PyProof.Rows.callWith_builtin1 (thn (ha pos pins s σ H _ I h) fun us s1 ⟨vs, H1, I1, r1, q1⟩ => hc pins s1 σ H1 vs us Q I1 r1 q1) he gi
theorem uB (hc : cJ X (.type T) r) (hg : Gl X x) (hm : X.mg x = none) (hv : bootBuiltins x = some (.type T)) (ha : PA X (e :: es) t) (hn : x ≠ "__name__" := by decide) (e8 : (x == ("__debug__" : Str)) = false := by decide)
    (he : starEach (e :: es) X.env = (false, eval e X.env) :: starEach es X.env := by rfl) (gi : (backTo pos (starEach es X.env)).any (·.1) = false := by rfl) : PE X (.Call (.Name x p) (e :: es) [] pos) (Bu r t) := by
  refine ⟨?_⟩
  intro pins s σ H Q I h
  refine wpAny_Call_Name_kw (e7 I hg hm hv ?_ hn e8)
  exact PyProof.Rows.callWith_type1 (thn (ha pos pins s σ H _ I h) fun us s1 ⟨vs, H1, I1, r1, q1⟩ => hc pins s1 σ H1 vs us Q I1 r1 q1) he gi
end
end L2
namespace HT
open PySem PyProof.Rows
section
variable {prog : Program} {w : World} {A : Around} {E : Value → Shared → Prop} {s : Shared}
theorem zq {t b : Addr} {vs ws : List Value} {Q : Value → Shared → Prop} (ht : IsTup s.heap t vs.toArray) (hb : IsTup s.heap b ws.toArray) (hv : vs ≠ [])
    (h1 : ws = [] → Q (.ref t) s) (h2 : ws ≠ [] → Q (.ref s.heap.objs.size) { s with heap := s.heap.push { cls := .type "tuple", data := .seq (vs ++ ws).toArray } })
    (cY : vs.length + ws.length ≤ sizeLine) : wpAny (model prog w) A (binaryOp .Add (.ref t) (.ref b)) Q E s := by
  obtain ⟨⟨cls, dd, data, sl⟩, ho, hc, n, hd⟩ := id ht
  obtain ⟨⟨He, rR, data2, nA⟩, o4, uC, n2, hd2⟩ := id hb
  simp only at hc hd uC hd2
  subst hc hd uC hd2
  have e : vs.toArray ++ ws.toArray = (vs ++ ws).toArray := by simp
  by_cases hw : ws = []
  · exact concat_meets ⟨_, ho, rfl⟩ ⟨_, o4, rfl⟩ noFill_tuple_add seq_tuple_add PySem.F.slot_tuple_add PySem.F.entry_tuple_add (PySem.F.args_tuple_add_2 _ _)
      (tuple_addW1 t b vs.toArray ws.toArray n n2 dd rR sl nA (by simpa using hv) (by simp [hw])) ⟨ho, o4, h1 hw⟩
  · refine concat_meets ⟨_, ho, rfl⟩ ⟨_, o4, rfl⟩ noFill_tuple_add seq_tuple_add PySem.F.slot_tuple_add PySem.F.entry_tuple_add (PySem.F.args_tuple_add_2 _ _)
      (tuple_addW2 t b vs.toArray ws.toArray n n2 dd rR sl nA (by simpa using hv) (by simpa using hw) (by rw [List.size_toArray, List.size_toArray]; exact cY)) ⟨ho, o4, ?_⟩
    rw [e]
    exact h2 hw
noncomputable def aK (n d : Nat) : Option Int → Nat
  | none => d
  | some v => if v < 0 then (v + (n : Int)).toNat else min v.toNat n
theorem Bv (n d : Nat) (hd : d ≤ n) (o : Option Int) : aK n d o ≤ n := by
  cases o with
  | none => exact hd
  | some v =>
    show (if v < 0 then (v + (n : Int)).toNat else min v.toNat n) ≤ n
    by_cases hv : v < 0
    · rw [if_pos hv]; omega
    · rw [if_neg hv]; exact Nat.min_le_right _ _
theorem rS (v : Int) (n d : Nat) : (if v < 0 then max (v + (n : Int)) 0 else min v (n : Int)) = ((aK n d (some v) : Nat) : Int) := by
  show (if v < 0 then max (v + (n : Int)) 0 else min v (n : Int)) = (((if v < 0 then (v + (n : Int)).toNat else min v.toNat n) : Nat) : Int)
  by_cases hv : v < 0
  · simp only [if_pos hv]; omega
  · simp only [if_neg hv]; omega
theorem sJ (lo hi : Option Int) (n : Nat) : Builtin.Slice.sliceAdjust lo hi 1 (n : Int) = (((aK n 0 lo : Nat) : Int), ((aK n n hi : Nat) : Int)) := by
  have h1 : ¬ ((1 : Int) < 0) := by omega
  unfold Builtin.Slice.sliceAdjust
  simp only [h1, if_false]
  refine Prod.ext ?_ ?_
  · cases lo with
    | none => rfl
    | some v => exact rS v n 0
  · cases hi with
    | none => rfl
    | some v => exact rS v n n
theorem sL (i j : Nat) : Builtin.Slice.slicePlaces (i : Int) (j : Int) 1 = j - i := by
  unfold Builtin.Slice.slicePlaces
  have h1 : (1 : Int) > 0 := by omega
  simp only [h1, if_true, Int.ediv_one]
  split <;> omega
theorem lx {v : Value} {o : Option Int} {Q : Option Int → Shared → Prop} (p : IsPart v o) (h : Q o s) : wpAny (model prog w) A (Builtin.Slice.slicePartIndex v) Q E s := by
  cases p with
  | none => exact slicePart_none h
  | int i t => exact slicePart_int h
theorem gM {sl : Addr} {vl vu : Value} {lo hi : Option Int} {n : Nat} {Q : Int × Int × Nat → Shared → Prop} (hs : s.heap.IsSliceOf sl vl vu .none) (pl : IsPart vl lo) (pu : IsPart vu hi)
    (h : Q (((aK n 0 lo : Nat) : Int), 1, aK n n hi - aK n 0 lo) s) : wpAny (model prog w) A (Builtin.Slice.sliceApplied (.ref sl) (pure (n : Int))) Q E s := by
  obtain ⟨os, dO, yr, g9⟩ := id hs
  unfold Builtin.Slice.sliceApplied Builtin.Slice.sliceFields
  refine wpAny_bind (wpAny_bind (wpAny_field dO g9 (x := vl) rfl (wpAny_bind (wpAny_field dO g9 (x := vu) rfl (wpAny_bind (wpAny_field dO g9 (x := .none) rfl (wpAny_pure ?_)))))))
  refine wpAny_bind (slicePart_none ?_)
  show wpAny _ _ (if ((1 : Int) == 0) = true then _ else _) _ _ s
  rw [if_neg (by decide)]
  refine wpAny_bind (lx pl (wpAny_bind (lx pu (wpAny_bind (wpAny_pure ?_)))))
  show wpAny _ _ (match Builtin.Slice.sliceAdjust lo hi 1 (n : Int) with | (lo, hi) => pure (lo, (1 : Int), Builtin.Slice.slicePlaces lo hi 1)) _ _ s
  rw [sJ lo hi n]
  show wpAny _ _ (pure (((aK n 0 lo : Nat) : Int), (1 : Int), Builtin.Slice.slicePlaces ((aK n 0 lo : Nat) : Int) ((aK n n hi : Nat) : Int) 1)) _ _ s
  rw [sL]
  exact wpAny_pure h
theorem wJ (xs : Array Value) (i k : Nat) : ((List.range k).filterMap fun (m : Nat) => xs[((i : Int) + (m : Int) * 1).toNat]?).toArray = ((xs.toList.drop i).take k).toArray := by
  have e : (fun (m : Nat) => xs[((i : Int) + (m : Int) * 1).toNat]?) = fun m => xs[i + m]? := by
    funext m
    have : ((i : Int) + (m : Int) * 1).toNat = i + m := by omega
    rw [this]
  rw [e]
  have := pick_run xs i k
  rw [List.filterMap_map] at this
  have e2 : ((fun x => xs[x]?) ∘ fun x => i + x) = fun m => xs[i + m]? := rfl
  rw [e2] at this
  rw [this]
theorem ka {t sl : Addr} {items : Array Value} {vl vu : Value} {lo hi : Option Int} {Q : Value → Shared → Prop} (ht : IsTup s.heap t items) (hs : s.heap.IsSliceOf sl vl vu .none) (pl : IsPart vl lo) (pu : IsPart vu hi)
    (hw : ¬ (aK items.size 0 lo = 0 ∧ aK items.size items.size hi = items.size))
    (h : Q (.ref s.heap.objs.size) { s with heap := s.heap.push { cls := .type "tuple", data := .seq ((items.toList.drop (aK items.size 0 lo)).take (aK items.size items.size hi - aK items.size 0 lo)).toArray } })
    (cY : items.size ≤ sizeLine) : wpAny (model prog w) A (getItem (.ref t) (.ref sl)) Q E s := by
  have oG : sizeOk (.seq ((items.toList.drop (aK items.size 0 lo)).take (aK items.size items.size hi - aK items.size 0 lo)).toArray) := by
    show ((items.toList.drop (aK items.size 0 lo)).take (aK items.size items.size hi - aK items.size 0 lo)).toArray.size ≤ sizeLine
    rw [List.size_toArray, List.length_take, List.length_drop, Array.length_toList]
    omega
  have hj : aK items.size items.size hi ≤ items.size := Bv _ _ (Nat.le_refl _) hi
  obtain ⟨os, dO, yr, g9⟩ := id hs
  have Bw : s.TypeIs (.ref sl) "slice" := ⟨os, dO, yr⟩
  unfold getItem
  try with_reducible refine wpAny_holding ?_
  first | refine wpAny_bind (wpAny_pure ?_) | skip
  refine wpAny_bind (wpAny_sequenceKey ht.typeIs (by decide) ?_)
  refine wpAny_bind (wpAny_callSpecial?_slot (name := Str.ofString "__getitem__") ht.typeIs PyProof.Rows.slot_tuple_getitem
    (wpAny_call_entry PyProof.Rows.slot_tuple_getitem ht.typeIs entry_tuple_getitem ?_ (args_tuple_getitem _ _)))
  show wpAny _ _ (Builtin.Tuple.tupleItemsOf (.ref t) >>= _) _ _ s
  refine wpAny_bind (tupleItemsOf_ ht ?_)
  refine wpAny_bind (wpAny_typeOf Bw ?_)
  rw [if_pos (by decide)]
  refine wpAny_bind (gM hs pl pu ?_)
  have Ik : ¬ ((((aK items.size 0 lo : Nat) : Int) == 0 && (1 : Int) == 1 && (aK items.size items.size hi - aK items.size 0 lo) == items.size) = true) := by
    intro q
    rw [Bool.and_eq_true, Bool.and_eq_true] at q
    have q1 : ((aK items.size 0 lo : Nat) : Int) = 0 := eq_of_beq q.1.1
    have q2 : aK items.size items.size hi - aK items.size 0 lo = items.size := eq_of_beq q.2
    exact hw ⟨by omega, by omega⟩
  show wpAny _ _ (if (((aK items.size 0 lo : Nat) : Int) == 0 && (1 : Int) == 1 && (aK items.size items.size hi - aK items.size 0 lo) == items.size) = true then _ else _) _ _ s
  rw [if_neg Ik, wJ]
  first
    | exact wpAny_bind (m := Builtin.Tuple.tupleExact _) (wpAny_newObj_type (wpAny_pure ⟨_, rfl, wpAny_pure h⟩) oG)
    | exact wpAny_bind (m := Builtin.Tuple.tupleExact _) (wpAny_newObj_type (wpAny_bind (wpAny_pure (wpAny_pure ⟨_, rfl, wpAny_pure h⟩))) oG)
    | exact wpAny_bind (wpAny_bind (m := Builtin.Tuple.tupleExact _) (wpAny_newObj_type (wpAny_pure (wpAny_pure ⟨_, rfl, wpAny_pure h⟩)) oG))
    | exact wpAny_bind (wpAny_bind (m := Builtin.Tuple.tupleExact _) (wpAny_newObj_type (wpAny_pure ⟨_, rfl, wpAny_pure h⟩) oG))
end
end HT
namespace L2
open PySem PySem.Spec PyProof.Rows
noncomputable abbrev TO := St → Hp → (Option Int → Hp → Prop) → Prop
noncomputable def PO (X : Cx) (e : Option Expr) (t : TO) : Prop :=
  ∀ (pins : List (Addr × Obj)) (s : Shared) (σ : St) (H : Hp) (Q : Option Int → Hp → Prop), Inv X pins σ H s → t σ H Q →
    wpAny (model X.prog X.w) X.A (evalPart e X.env) (fun u s' => ∃ o H', Inv X pins σ H' s' ∧ IsPart u o ∧ Q o H') X.xe s
noncomputable def zt : TO := fun _ H Q => Q none H
noncomputable def EA (t : TE) : TO := fun σ H Q => t σ H fun x H1 => ∃ i, x = .int i ∧ Q (some i) H1
section
variable {X : Cx} {e : Expr} {te : TE} {lo hi : Option Expr} {tl th : TO} {pos p2 : Pos}
theorem zu : PO X none zt := by
  intro pins s σ H Q I h
  rw [evalPart_none]
  exact wpAny_pure ⟨none, H, I, .none, h⟩
theorem zv (h : PE X e te) : PO X (some e) (EA te) := by
  intro pins s σ H Q I hw
  rw [evalPart_some]
  refine thn (h pins s σ H _ I hw) fun u s1 ⟨x, H1, I1, r1, q1⟩ => ?_
  obtain ⟨i, rfl, q⟩ := q1
  obtain ⟨t, rfl⟩ := r1
  exact ⟨some i, H1, I1, .int i t, q⟩
noncomputable def uD (X : Cx) (r : V → Option Int → Option Int → Hp → VK → Prop) : Prop :=
  ∀ (pins : List (Addr × Obj)) (s : Shared) (σ : St) (H : Hp) (x : V) (v vl vu : Value) (lo hi : Option Int) (sl : Addr) (Q : VK), Inv X pins σ H s → RelV x v → s.heap.IsSliceOf sl vl vu .none → IsPart vl lo → IsPart vu hi → r x lo hi H Q →
    ∃ T id, typeLookup (.type T) "__getitem__" = pure (some (.builtin id)) ∧ s.TypeIs v T ∧ wpAny (model X.prog X.w) X.A (getItem v (.ref sl)) (EP X pins σ Q) X.xe s
noncomputable def Il (r : V → Option Int → Option Int → Hp → VK → Prop) (te : TE) (tl th : TO) : TE := fun σ H Q => te σ H fun x H1 => tl σ H1 fun l H2 => th σ H2 fun u H3 => r x l u H3 Q
theorem wK {r : V → Option Int → Option Int → Hp → VK → Prop} (hr : uD X r) (he : PE X e te) (hl : PO X lo tl) (hu : PO X hi th) : PE X (.Subscript e (.Slice lo hi none p2) pos) (Il r te tl th) := by
  refine ⟨?_⟩
  intro pins s σ H Q I h
  refine Subscript_ (thn (he pins s σ H _ I h) fun v s1 ⟨x, H1, I1, r1, q1⟩ => ?_)
  refine wpAny_Slice (thn (hl pins s1 σ H1 _ I1 q1) fun vl s2 ⟨l, H2, I2, pl, q2⟩ => thn (hu pins s2 σ H2 _ I2 q2) fun vu s3 ⟨u, H3, I3, pu, q3⟩ => ?_)
  rw [evalPart_none]
  refine wpAny_pure ?_
  have I4 : Inv X pins σ H3 { s3 with heap := s3.heap.push { cls := .type "slice", data := .fields #[vl, vu, .none] } } := I3.kept (t' := s3.toks) fun b ob q => Heap.get?_push_of_some _ q
  obtain ⟨T, id, hT, ht, hg⟩ := hr pins { s3 with heap := s3.heap.push { cls := .type "slice", data := .fields #[vl, vu, .none] } } σ H3 x v vl vu l u s3.heap.objs.size Q I4 r1 (Heap.IsSliceOf.new ..) pl pu q3
  show wpAny (model X.prog X.w) X.A (subscriptTail e (.Slice lo hi none p2) v (.ref s3.heap.objs.size)) (EP X pins σ Q) X.xe { s3 with heap := s3.heap.push { cls := .type "slice", data := .fields #[vl, vu, .none] } }
  exact tail_any (ops := [.ref s3.heap.objs.size, v]) ht hT hg (by with_unfolding_all rfl)
noncomputable def gd (xs : List V) (lo hi : Option Int) : List V := (xs.drop (HT.aK xs.length 0 lo)).take (HT.aK xs.length xs.length hi - HT.aK xs.length 0 lo)
theorem kh (xs : List V) (lo hi : Option Int) : (gd xs lo hi).length ≤ xs.length := by
  unfold gd
  rw [List.length_take, List.length_drop]
  omega
noncomputable def Hf (K : PySem.W.Frag) : V → Option Int → Option Int → Hp → VK → Prop := fun x lo hi H Q => ∃ a xs, x = .ref a ∧ bR K H a xs ∧
  ¬ (HT.aK xs.length 0 lo = 0 ∧ HT.aK xs.length xs.length hi = xs.length) ∧ ∀ p, H p = none → Q (.ref p) (upd H p (.tup (gd xs lo hi)))
theorem By : uD X (Hf X.K) := by
  intro pins s σ H x v vl vu lo hi sl Q I rx hs pl pu h
  obtain ⟨a, xs, rfl, hx, hw, q⟩ := h
  cases rx
  obtain ⟨its, r, ht, hz⟩ := I.tuple hx
  have hlen : its.toArray.size = xs.length := by rw [List.size_toArray]; exact r.length.symm
  refine ⟨"tuple", _, PyProof.Rows.slot_tuple_getitem.lookup, ht.typeIs, ?_⟩
  refine HT.ka ht hs pl pu (by rw [hlen]; exact hw) ?_ (by rw [hlen]; exact hz)
  rw [hlen]
  refine ⟨.ref s.heap.objs.size, _, I.laid (t' := s.toks) (o := .tup (gd xs lo hi)) (fun b ob q => Heap.get?_push_of_some _ q) (Nat.le_refl _) ?_, rfl, q _ (I.hok.fresh (Nat.le_refl _))⟩
  exact ⟨Nat.le_trans (kh xs lo hi) hz, _, (r.drop (HT.aK xs.length 0 lo)).take (HT.aK xs.length xs.length hi - HT.aK xs.length 0 lo), fv.new _ _⟩
noncomputable def EB (K : PySem.W.Frag) : R2 := fun x y H Q => ∃ a b xs ys, x = .ref a ∧ y = .ref b ∧ bR K H a xs ∧ bR K H b ys ∧ xs ≠ [] ∧ xs.length + ys.length ≤ sizeLine ∧
  (ys = [] → Q (.ref a) H) ∧ (ys ≠ [] → ∀ p, H p = none → Q (.ref p) (upd H p (.tup (xs ++ ys))))
theorem Vals.iF {xs : List V} {us : List Value} (r : Vals xs us) : us = [] ↔ xs = [] := by
  cases r with
  | nil => simp
  | cons _ _ => simp
theorem zx : OpR X (binaryOp .Add) (EB X.K) := by
  intro pins s σ H x y v u Q I rx ry h
  obtain ⟨a, b, xs, ys, rfl, rfl, ha, hb, hx, hz, q1, q2⟩ := h
  cases rx
  cases ry
  obtain ⟨its, r1, p1, _⟩ := I.tuple ha
  obtain ⟨bB, r2, p2, _⟩ := I.tuple hb
  refine HT.zq p1 p2 (fun z => hx (r1.iF.mp z)) (fun z => ⟨.ref a, H, I, rfl, q1 (r2.iF.mp z)⟩) (fun z => ?_) (by rw [← r1.length, ← r2.length]; exact hz)
  refine ⟨.ref s.heap.objs.size, _, I.laid (t' := s.toks) (o := .tup (xs ++ ys)) (fun b ob q => Heap.get?_push_of_some _ q) (Nat.le_refl _) ?_, rfl, q2 (fun w => z (r2.iF.mpr w)) _ (I.hok.fresh (Nat.le_refl _))⟩
  exact ⟨by rw [List.length_append]; exact hz, _, r1.append r2, fv.new _ _⟩
end
noncomputable def ez (n : Nat) (i : Int) : Option Nat := if 0 ≤ i then (if i < n then some i.toNat else none) else if -(n : Int) ≤ i then some (i + n).toNat else none
noncomputable def bU {α : Type} (xs : List α) (i : Int) : Option α := (ez xs.length i).bind fun j => xs[j]?
theorem mx {n : Nat} {i : Int} {j : Nat} (h : ez n i = some j) : seqIndex? i n = some j ∧ j < n ∧ -(n : Int) ≤ i ∧ i < n := by
  unfold ez at h
  by_cases h0 : 0 ≤ i
  · rw [if_pos h0] at h
    by_cases h1 : i < n
    · rw [if_pos h1] at h
      have e : i.toNat = j := Option.some.inj h
      exact ⟨by rw [seqIndex_of h0 h1, e], by omega, by omega, h1⟩
    · rw [if_neg h1] at h; cases h
  · rw [if_neg h0] at h
    by_cases h1 : -(n : Int) ≤ i
    · rw [if_pos h1] at h
      have e : (i + n).toNat = j := Option.some.inj h
      exact ⟨by rw [seqIndex_neg (by omega) h1, e], by omega, h1, by omega⟩
    · rw [if_neg h1] at h; cases h
theorem my {α : Type} {xs : List α} {i : Int} {v : α} (h : bU xs i = some v) : ∃ j, seqIndex? i xs.length = some j ∧ xs[j]? = some v ∧ j < xs.length ∧ -(xs.length : Int) ≤ i ∧ i < xs.length := by
  unfold bU at h
  cases e : ez xs.length i with
  | none => rw [e] at h; cases h
  | some j =>
    rw [e] at h
    obtain ⟨h1, h2, h3, h4⟩ := mx e
    exact ⟨j, h1, h, h2, h3, h4⟩
theorem da {α : Type} {xs : List α} {j : Nat} {v : α} (h : xs[j]? = some v) : bU xs (j : Int) = some v := by
  have hj : j < xs.length := (List.getElem?_eq_some_iff.mp h).1
  have e : ez xs.length (j : Int) = some j := by
    unfold ez
    rw [if_pos (by omega), if_pos (by omega)]; simp
  unfold bU; rw [e]; exact h
theorem wL {α : Type} (xs : List α) (v : α) : bU (xs ++ [v]) (-1) = some v := by
  have hl : (xs ++ [v]).length = xs.length + 1 := by simp
  have e : ez (xs ++ [v]).length (-1) = some xs.length := by
    unfold ez
    rw [hl, if_neg (by decide), if_pos (by omega)]
    congr 1
    omega
  unfold bU
  rw [e]
  show (xs ++ [v])[xs.length]? = some v
  simp
noncomputable def rT (b : Expr) : Prop := ∀ o i, subscripted b false o i = operate [o, i] (getItem o i)
noncomputable def jr (X : Cx) (r : R2) : Prop :=
  ∀ (value slice : Expr) (pins : List (Addr × Obj)) (s : Shared) (σ : St) (H : Hp) (x y : V) (v u : Value) (Q : VK), Inv X pins σ H s → RelV x v → RelV y u → r x y H Q →
    subscripted slice false v u = operate [v, u] (getItem v u) → wpAny (model X.prog X.w) X.A (subscriptTail value slice v u) (EP X pins σ Q) X.xe s
noncomputable def uE (X : Cx) (id : String) (r : V → List V → Hp → VK → Prop) : Prop :=
  ∀ (pins : List (Addr × Obj)) (s : Shared) (σ : St) (H : Hp) (x : V) (xs : List V) (v : Value) (us : List Value) (Q : VK), Inv X pins σ H s → RelV x v → Vals xs us → r x xs H Q →
    wpAny (model X.prog X.w) X.A (call (.builtin id) (v :: us)) (EP X pins σ Q) X.xe s
section
variable {X : Cx} {a b : Expr} {ta tb : TE} {pos : Pos}
theorem jr.or {r r' : R2} (h : jr X r) (h' : jr X r') : jr X (fun x y H Q => r x y H Q ∨ r' x y H Q) := by
  intro value slice pins s σ H x y v u Q I rx ry q hs
  rcases q with q | q
  · exact h value slice pins s σ H x y v u Q I rx ry q hs
  · exact h' value slice pins s σ H x y v u Q I rx ry q hs
theorem EC {r : R2} (hr : jr X r) (ha : PE X a ta) (hb : PE X b tb) (hs : rT b) : PE X (.Subscript a b pos) (uo r ta tb) := by
  refine ⟨?_⟩
  intro pins s σ H Q I h
  exact Subscript_ (wz ha hb I h fun v u s2 x y H2 I2 rx ry q => hr a b pins s2 σ H2 x y v u Q I2 rx ry q (hs _ _))
noncomputable def BA (K : PySem.W.Frag) : R2 := fun x y H Q => ∃ p xs i v, x = .ref p ∧ y = .int i ∧ bH K H p xs ∧ bU xs i = some v ∧ Q v H
noncomputable def BC (K : PySem.W.Frag) : R2 := fun x y H Q => ∃ p xs i v, x = .ref p ∧ y = .int i ∧ bR K H p xs ∧ bU xs i = some v ∧ Q v H
noncomputable def BD : R2 := fun x y H Q => ∃ z i c, x = .str z ∧ y = .int i ∧ z.length ≤ sizeLine ∧ bU z.cps.toList i = some c ∧ Q (.str ⟨#[c]⟩) H
theorem zy : jr X (BA X.K) := by
  intro value slice pins s σ H x y v u Q I rx ry h hs
  obtain ⟨p, xs, i, z, rfl, rfl, hq, he, q⟩ := h
  cases rx
  obtain ⟨t, rfl⟩ := ry
  obtain ⟨its, r, pl, hz⟩ := I.list hq
  obtain ⟨j, h1, h2, h3, h4, h5⟩ := my he
  obtain ⟨w, ew, uF⟩ := r.get h2
  have hl := r.length
  have hn := iD
  have fin : EP X pins σ Q w s := ⟨z, H, I, uF, q⟩
  by_cases h0 : 0 ≤ i
  · have hj : i.toNat = j := by
      rw [seqIndex_of h0 h5] at h1
      exact Option.some.inj h1
    exact item_listR pl.isList h0 (by omega) (by rw [hj]; simpa using ew) fin hs
  · have hj : (i + (its.toArray.size : Int)).toNat = j := by
      rw [seqIndex_neg (by omega) h4] at h1
      rw [List.size_toArray, ← hl]
      exact Option.some.inj h1
    exact subscriptTail_builtinR (x := w) pl.isList.typeIs slot_list_getitem.lookup
      (wpAny_getItem_list_neg (Q := fun r s' => r = w ∧ EP X pins σ Q r s') pl.isList (by omega) (by rw [List.size_toArray] <;> omega) (by omega) (by rw [hj]; simpa using ew) ⟨rfl, fin⟩) hs
theorem BE : jr X (BC X.K) := by
  intro value slice pins s σ H x y v u Q I rx ry h hs
  obtain ⟨p, xs, i, z, rfl, rfl, hq, he, q⟩ := h
  cases rx
  obtain ⟨t, rfl⟩ := ry
  obtain ⟨its, r, pl, hz⟩ := I.tuple hq
  obtain ⟨j, h1, h2, h3, h4, h5⟩ := my he
  obtain ⟨w, ew, uF⟩ := r.get h2
  have hl := r.length
  have hn := iD
  have fin : EP X pins σ Q w s := ⟨z, H, I, uF, q⟩
  exact subscriptTail_builtinR (x := w) pl.typeIs slot_tuple_getitem.lookup
    (getItem_tuple (j := j) (Q := fun r s' => r = w ∧ EP X pins σ Q r s') pl (by omega) (by omega) (by rw [List.size_toArray, ← hl]; exact h1) (by simpa using ew) ⟨rfl, fin⟩) hs
theorem BF : jr X BD := by
  intro value slice pins s σ H x y v u Q I rx ry h hs
  obtain ⟨z, i, c, rfl, rfl, hz, he, q⟩ := h
  obtain ⟨t, rfl⟩ := rx
  obtain ⟨t', rfl⟩ := ry
  obtain ⟨j, h1, h2, h3, h4, h5⟩ := my he
  have hl : z.cps.toList.length = z.length := by simp [Str.length]
  rw [hl] at h1 h4 h5
  have hn := iD
  exact tail_any (typeIs_str s z t) slot_str_getitem.lookup (getItem_str (c := c) (by
    have e1 : decide (i < -(2 ^ 63 : Int)) = false := decide_eq_false (by omega)
    have e2 : decide (i ≥ 2 ^ 63) = false := decide_eq_false (by omega)
    rw [e1, e2, Bool.or_false]) (by rw [h1]; simpa using h2) ⟨.str ⟨#[c]⟩, H, I.tok _, ⟨_, rfl⟩, q⟩) hs
noncomputable def FZ (K : PySem.W.Frag) : R2 := fun x y H Q => BA K x y H Q ∨ BC K x y H Q ∨ BD x y H Q
theorem BG : jr X (FZ X.K) := zy.or (BE.or BF)
theorem sM (its : List Value) (n j : Nat) (u : Value) : Obj.mapSeq (·.setIfInBounds j u) { cls := .type "list", data := .seq its.toArray n } = { cls := .type "list", data := .seq (its.set j u).toArray n } := by
  simp [Obj.mapSeq]
theorem Inv.lst {pins : List (Addr × Obj)} {σ : St} {H : Hp} {s : Shared} {p : Addr} {xs : List V} (I : Inv X pins σ H s) (h : H p = some (.lst xs)) :
    ∃ (its : List Value) (n : Nat), Vals xs its ∧ s.heap.get? p = some { cls := .type "list", data := .seq its.toArray n } ∧ xs.length ≤ sizeLine := by
  obtain ⟨z, its, n, r, e⟩ := I.hok p _ h
  exact ⟨its, n, r, e, z⟩
theorem Inv.BH {pins : List (Addr × Obj)} {σ : St} {H : Hp} {s : Shared} {p : Addr} {xs ys : List V} {its its' : List Value} {n n' : Nat} {f : Obj → Obj} (I : Inv X pins σ H s) (h : H p = some (.lst xs))
    (ho : s.heap.get? p = some { cls := .type "list", data := .seq its.toArray n }) (hf : f { cls := .type "list", data := .seq its.toArray n } = { cls := .type "list", data := .seq its'.toArray n' }) (r : Vals ys its') (hz : ys.length ≤ sizeLine) (t : Nat) :
    Inv X pins σ (upd H p (.lst ys)) { s with heap := s.heap.update p f, toks := t } := by
  have e : (s.heap.update p f).get? p = some { cls := .type "list", data := .seq its'.toArray n' } := by
    rw [Heap.get?_update_self f ho (by rw [hf] <;> rfl), hf]
  refine I.write (x := p) (e := p) (by rw [h]; trivial) (.inl rfl) (fun b u hb q => (Heap.get?_update_other _ _ (Ne.symm hb)).trans q) ⟨_, e⟩ ?_
  exact ⟨hz, its', n', r, e⟩
noncomputable def ED : V → V → V → Hp → (Hp → Prop) → Prop := fun o i v H Q => ∃ p xs k j, o = .ref p ∧ i = .int k ∧ H p = some (.lst xs) ∧ ez xs.length k = some j ∧ Q (upd H p (.lst (xs.set j v)))
theorem set_list : AZ X ED := by
  intro pins s σ H o i v ov iv u Q I ro ri rv h
  obtain ⟨p, xs, k, j, rfl, rfl, hp, hj, q⟩ := h
  cases ro
  obtain ⟨t, rfl⟩ := ri
  obtain ⟨its, n, r, ho, hz⟩ := I.lst hp
  obtain ⟨h1, h2, h3, h4⟩ := mx hj
  have hl := r.length
  have hn := iD
  have I' : Inv X pins σ (upd H p (.lst (xs.set j v))) { s with heap := s.heap.update p (Obj.mapSeq (·.setIfInBounds j u)) } :=
    I.BH hp ho (sM its n j u) (r.set rv j) (by rw [List.length_set]; exact hz) s.toks
  by_cases h0 : 0 ≤ k
  · have hk : k.toNat = j := by
      rw [seqIndex_of h0 h4] at h1
      exact Option.some.inj h1
    exact PySem.W.ki_setAt ho h0 (by omega) (by rw [List.size_toArray, ← hl]; exact h4) (by rw [hk]; exact ⟨_, I', q⟩)
  · have hk : (k + (its.toArray.size : Int)).toNat = j := by
      rw [seqIndex_neg (by omega) h3] at h1
      rw [List.size_toArray, ← hl]
      exact Option.some.inj h1
    exact PySem.W.ki_setBack ho (by omega) (by rw [List.size_toArray, ← hl]; exact h3) (by omega) (by rw [hk]; exact ⟨_, I', q⟩)
theorem o5 (lo hi : Option Int) (n : Nat) : (sliceBounds lo hi none n).1 = ((HT.aK n 0 lo : Nat) : Int) ∧ (sliceBounds lo hi none n).2.1 = ((HT.aK n n hi : Nat) : Int) ∧ (sliceBounds lo hi none n).2.2 = 1 := by
  refine ⟨?_, ?_, rfl⟩
  · cases lo with
    | none => simp [sliceBounds, HT.aK]
    | some i =>
      simp only [sliceBounds, HT.aK, Option.getD_none, show (1 : Int) > 0 by decide, if_true]
      by_cases h : i < 0
      · simp only [h, if_true] <;> omega
      · simp only [h, if_false] <;> omega
  · cases hi with
    | none => simp [sliceBounds, HT.aK]
    | some i =>
      simp only [sliceBounds, HT.aK, Option.getD_none, show (1 : Int) > 0 by decide, if_true]
      by_cases h : i < 0
      · simp only [h, if_true] <;> omega
      · simp only [h, if_false] <;> omega
theorem oi (its : List Value) (lo hi : Option Int) : slicePick its.toArray lo hi none = ((its.drop (HT.aK its.length 0 lo)).take (HT.aK its.length its.length hi - HT.aK its.length 0 lo)).toArray := by
  obtain ⟨h1, h2, h3⟩ := o5 lo hi its.toArray.size
  unfold slicePick
  rw [h1, h2, h3]
  simp only [sliceRange_one, pick_run, List.size_toArray] <;> rfl
noncomputable def Hg (K : PySem.W.Frag) : V → Option Int → Option Int → Hp → VK → Prop := fun x lo hi H Q => ∃ a xs, x = .ref a ∧ bH K H a xs ∧ ∀ p, H p = none → Q (.ref p) (upd H p (.lst (gd xs lo hi)))
theorem HV : uD X (Hg X.K) := by
  intro pins s σ H x v vl vu lo hi sl Q I rx hs pl pu h
  obtain ⟨a, xs, rfl, hx, q⟩ := h
  cases rx
  obtain ⟨its, r, ht, hz⟩ := I.list hx
  have hlen := r.length
  refine ⟨"list", _, slot_list_getitem.lookup, ht.isList.typeIs, ?_⟩
  refine wpAny_getItem_list_slice ht.isList hs pl pu .none (by simp) ?_ (by rw [List.size_toArray] <;> omega)
  rw [oi, ← hlen]
  refine ⟨.ref s.heap.objs.size, _, I.laid (t' := s.toks) (o := .lst (gd xs lo hi)) (fun b ob q => Heap.get?_push_of_some _ q) (Nat.le_refl _) ?_, rfl, q _ (I.hok.fresh (Nat.le_refl _))⟩
  exact ⟨Nat.le_trans (kh xs lo hi) hz, _, 0, (r.drop (HT.aK xs.length 0 lo)).take (HT.aK xs.length xs.length hi - HT.aK xs.length 0 lo), Heap.get?_push_size _ rfl⟩
noncomputable def hU : V → Bool
  | .aj => true
  | .bl _ => true
  | .int _ => true
  | .str _ => true
  | _ => false
noncomputable def ly : V → V → Bool
  | .aj, .aj => true
  | .bl a, .bl b => a == b
  | .bl a, .int b => (if a then 1 else 0) == b
  | .int a, .bl b => a == (if b then 1 else 0)
  | .int a, .int b => a == b
  | .str a, .str b => a == b
  | _, _ => false
theorem BI {A : Around} {s : Shared} {y x : V} {u v : Value} (ry : RelV y u) (rx : RelV x v) (fy : hU y = true) (fx : hU x = true) : SeqAt.EqAt A s u v (ly y x) := by
  cases y with
  | aj =>
    cases ry
    cases x with
    | aj => cases rx; exact SeqAt.EqAt.same _
    | bl b => cases rx; exact SeqAt.EqAt.none_bool b
    | int b => obtain ⟨t, rfl⟩ := rx; exact SeqAt.EqAt.none_int b t
    | str b => obtain ⟨t, rfl⟩ := rx; exact SeqAt.EqAt.none_str b t
    | _ => exact absurd (show false = true from fx) Bool.false_ne_true
  | bl a =>
    cases ry
    cases x with
    | aj => cases rx; exact SeqAt.EqAt.bool_none a
    | bl b => cases rx; exact SeqAt.EqAt.bool_bool a b
    | int b => obtain ⟨t, rfl⟩ := rx; exact SeqAt.EqAt.bool_int a b t
    | str b => obtain ⟨t, rfl⟩ := rx; exact SeqAt.EqAt.bool_str a b t
    | _ => exact absurd (show false = true from fx) Bool.false_ne_true
  | int a =>
    obtain ⟨t', rfl⟩ := ry
    cases x with
    | aj => cases rx; exact SeqAt.EqAt.int_none a t'
    | bl b => cases rx; exact SeqAt.EqAt.int_bool a t' b
    | int b => obtain ⟨t, rfl⟩ := rx; exact SeqAt.EqAt.int_int a t' b t
    | str b => obtain ⟨t, rfl⟩ := rx; exact SeqAt.EqAt.int_str a t' b t
    | _ => exact absurd (show false = true from fx) Bool.false_ne_true
  | str a =>
    obtain ⟨t', rfl⟩ := ry
    cases x with
    | aj => cases rx; exact SeqAt.EqAt.str_none a t'
    | bl b => cases rx; exact SeqAt.EqAt.str_bool a t' b
    | int b => obtain ⟨t, rfl⟩ := rx; exact SeqAt.EqAt.str_int a t' b t
    | str b => obtain ⟨t, rfl⟩ := rx; exact SeqAt.EqAt.str_str a t' b t
    | _ => exact absurd (show false = true from fx) Bool.false_ne_true
  | _ => exact absurd (show false = true from fy) Bool.false_ne_true
noncomputable def lz (x : V) (u : Value) : Bool := match u with
  | .none => ly .aj x
  | .bool b => ly (.bl b) x
  | .int i _ => ly (.int i) x
  | .str z _ => ly (.str z) x
  | _ => false
theorem uG {x y : V} {u : Value} (r : RelV y u) (f : hU y = true) : lz x u = ly y x := by
  cases y with
  | aj => cases r; rfl
  | bl b => cases r; rfl
  | int i => obtain ⟨t, rfl⟩ := r; rfl
  | str z => obtain ⟨t, rfl⟩ := r; rfl
  | _ => exact absurd (show false = true from f) Bool.false_ne_true
theorem mB {x : V} : ∀ {xs : List V} {us : List Value}, Vals xs us → xs.all hU = true → us.any (lz x) = xs.any fun y => ly y x
  | _, _, .nil, _ => rfl
  | y :: xs, u :: us, .cons r t, f => by
    rw [List.all_cons, Bool.and_eq_true] at f
    rw [List.any_cons, List.any_cons, uG r f.1, mB t f.2]
theorem kI {A : Around} {s : Shared} {x : V} {v : Value} (rx : RelV x v) (fx : hU x = true) : ∀ {xs : List V} {us : List Value}, Vals xs us → xs.all hU = true → ∀ u ∈ us, SeqAt.EqAt A s u v (lz x u)
  | _, _, .nil, _ => fun u hu => by cases hu
  | y :: xs, u :: us, .cons r t, f => fun u' hu => by
    rw [List.all_cons, Bool.and_eq_true] at f
    rcases List.mem_cons.mp hu with rfl | hu
    · rw [uG r f.1]; exact BI r rx f.1 fx
    · exact kI rx fx t f.2 u' hu
noncomputable def uH (x : V) (xs : List V) : Bool := xs.any fun y => ly y x
noncomputable def BJ (K : PySem.W.Frag) (neg : Bool) : R2 := fun x y H Q => ∃ p xs, y = .ref p ∧ (bH K H p xs ∨ bR K H p xs) ∧ hU x = true ∧ xs.all hU = true ∧ Q (.bl (if neg then !uH x xs else uH x xs)) H
theorem o6 : OpR X (compareOp .NotIn) (BJ X.K true) := by
  intro pins s σ H x y v u Q I rx ry h
  obtain ⟨p, xs, rfl, hq, fx, fs, q⟩ := h
  cases ry
  rcases hq with hq | hq
  · obtain ⟨its, r, pl, hz⟩ := I.list hq
    refine SeqAt.notIn_listAt (lz x) pl.isList (fun w hw => kI rx fx r fs w (by simpa using hw)) ⟨.bl _, H, I, rfl, ?_⟩
    rw [show its.toArray.any (lz x) = its.any (lz x) by simp, mB r fs]
    exact q
  · obtain ⟨its, r, pl, hz⟩ := I.tuple hq
    refine SeqAt.notIn_tupleAt (lz x) pl (fun w hw => kI rx fx r fs w (by simpa using hw)) ⟨.bl _, H, I, rfl, ?_⟩
    rw [show its.toArray.any (lz x) = its.any (lz x) by simp, mB r fs]
    exact q
theorem o7 : cJ X (.type "list") (fun xs H Q => ∃ p ys, xs = [.ref p] ∧ (bH X.K H p ys ∨ bR X.K H p ys) ∧ ∀ l, H l = none → Q (.ref l) (upd H l (.lst ys))) := by
  intro pins s σ H xs us Q I r h
  obtain ⟨p, ys, rfl, hq, q⟩ := h
  obtain ⟨u, rfl, rx⟩ := vals1 r
  cases rx
  have fin : ∀ (its : List Value), Vals ys its → ys.length ≤ sizeLine → ∀ (h' : Heap) (c' : Nat), (∀ b o', s.heap.get? b = some o' → h'.get? b = some o') →
      h'.get? s.heap.objs.size = some { cls := .type "list", dict := none, data := .seq its.toArray c', slots := #[] } → EP X pins σ Q (.ref s.heap.objs.size) { s with heap := h' } := fun its r' hz h' c' kp e =>
    ⟨.ref s.heap.objs.size, _, I.laid (t' := s.toks) kp (Nat.le_refl _) (show bg X.prog X.w _ h' _ (.lst ys) from ⟨hz, its, c', r', e⟩), rfl, q _ (I.hok.fresh (Nat.le_refl _))⟩
  rcases hq with hq | hq
  · obtain ⟨its, r', pl, hz⟩ := I.list hq
    have hlen := r'.length
    obtain ⟨o, ho, hc, n, hd⟩ := pl.isList
    exact call_list_seq p (.inl rfl) ho hc hd (fun h' c' kp e => fin its r' hz h' c' kp e) (by simp only [List.size_toArray] <;> omega)
  · obtain ⟨its, r', pl, hz⟩ := I.tuple hq
    have hlen := r'.length
    obtain ⟨o, ho, hc, n, hd⟩ := pl
    exact call_list_seq p (.inr rfl) ho hc hd (fun h' c' kp e => fin its r' hz h' c' kp e) (by simp only [List.size_toArray] <;> omega)
theorem oj : cJ X (.type "tuple") (fun xs H Q => ∃ p ys, xs = [.ref p] ∧ ((bH X.K H p ys ∧ ∀ l, H l = none → Q (.ref l) (upd H l (.tup ys))) ∨ (bR X.K H p ys ∧ Q (.ref p) H))) := by
  intro pins s σ H xs us Q I r h
  obtain ⟨p, ys, rfl, h⟩ := h
  obtain ⟨u, rfl, rx⟩ := vals1 r
  cases rx
  rcases h with ⟨hq, q⟩ | ⟨hq, q⟩
  · obtain ⟨its, r', pl, hz⟩ := I.list hq
    have hlen := r'.length
    refine call_tuple_list pl.isList (fun h' kp => ?_) (by simp only [List.size_toArray] <;> omega)
    have I1 : Inv X pins σ H { s with heap := h' } := I.kept (t' := s.toks) kp
    have I2 : Inv X pins σ (upd H h'.objs.size (.tup ys)) { s with heap := h'.push { cls := .type "tuple", data := .seq its.toArray } } :=
      I1.laid (t' := s.toks) (fun b o e => Heap.get?_push_of_some _ e) (Nat.le_refl _) (show bg X.prog X.w _ _ _ (.tup ys) from ⟨hz, its, r', fv.new _ _⟩)
    exact ⟨.ref h'.objs.size, _, I2, rfl, q _ (I1.hok.fresh (Nat.le_refl _))⟩
  · obtain ⟨its, r', pl, hz⟩ := I.tuple hq
    exact call_tuple_same pl ⟨.ref p, H, I, rfl, q⟩
noncomputable def BK (K : PySem.W.Frag) (T : String) (x : V) (H : Hp) : Prop := match x with
  | .str _ => T = "str"
  | .int _ => T = "int"
  | .ref p => (T = "list" ∧ ∃ xs, bH K H p xs) ∨ (T = "tuple" ∧ ((∃ o, K.lookup p = some o ∧ o.cls = .type "tuple" ∧ o.dict = none) ∨ ∃ xs, H p = some (.tup xs))) ∨
      (T = "dict" ∧ ((∃ bG, H p = some (.dK bG)) ∨ ∃ bG, H p = some (.dT bG))) ∨ (T = "set" ∧ ∃ S n, H p = some (.set S n))
  | _ => False
theorem BL {pins : List (Addr × Obj)} {σ : St} {H : Hp} {s : Shared} {T : String} {x : V} {v : Value} (I : Inv X pins σ H s) (r : RelV x v) (ty : BK X.K T x H) :
    s.TypeIs v T ∧ ∀ a, v = .ref a → ∃ ob, s.heap.get? a = some ob ∧ ob.dict = none := by
  cases x with
  | str z =>
    obtain ⟨t, rfl⟩ := r
    cases (show T = "str" from ty)
    exact ⟨typeIs_str s z t, fun _ e => nomatch e⟩
  | int i =>
    obtain ⟨t, rfl⟩ := r
    cases (show T = "int" from ty)
    exact ⟨typeIs_int s i t, fun _ e => nomatch e⟩
  | ref p =>
    cases r
    rcases ty with ⟨rfl, xs, hq⟩ | ⟨rfl, ⟨o, hk, hc, hd⟩ | ⟨xs, hk⟩⟩ | ⟨rfl, hk⟩ | ⟨rfl, S, n, hk⟩
    · obtain ⟨its, _, pl, _⟩ := I.list hq
      refine ⟨pl.isList.typeIs, fun a e => ?_⟩
      cases e
      obtain ⟨o, n, e, c, hd, _⟩ := pl
      exact ⟨o, e, hd⟩
    · refine ⟨⟨o, I.eu p o hk, hc⟩, fun a e => ?_⟩
      cases e
      exact ⟨o, I.eu _ o hk, hd⟩
    · obtain ⟨_, its, _, o, e, c, n, d, hd⟩ := I.hok p _ hk
      refine ⟨⟨o, e, c⟩, fun a e2 => ?_⟩
      cases e2
      exact ⟨o, e, hd⟩
    · have z : ∃ o, s.heap.get? p = some o ∧ o.ExactDict := by
        rcases hk with ⟨bG, hk⟩ | ⟨bG, hk⟩
        · obtain ⟨_, _, _, _, o, _, _, e, ex, _⟩ := I.hok p _ hk
          exact ⟨o, e, ex⟩
        · obtain ⟨_, _, _, _, o, _, _, e, ex, _⟩ := I.hok p _ hk
          exact ⟨o, e, ex⟩
      obtain ⟨o, e, ex⟩ := z
      refine ⟨⟨o, e, ex.1⟩, fun a e2 => ?_⟩
      cases e2
      exact ⟨o, e, ex.2.1⟩
    · obtain ⟨o, _, _, _, e, ex, _⟩ := I.hok p _ hk
      refine ⟨⟨o, e, ex.1⟩, fun a e2 => ?_⟩
      cases e2
      exact ⟨o, e, ex.2.1⟩
  | _ => exact False.elim ty
noncomputable def F0 (K : PySem.W.Frag) (T : String) (r : V → List V → Hp → VK → Prop) (to : TE) (t : TA) : TE := fun σ H Q => to σ H fun x H1 => BK K T x H1 ∧ t σ H1 fun xs H2 => r x xs H2 Q
variable {o e : Expr} {es : List Expr} {to : TE} {t : TA} {name : Str} {apos bb : Pos} {T id : String} {r : V → List V → Hp → VK → Prop}
theorem EF (pa : PlainAttrs T) (slot : Slot T name id) (o8 : typeOf (.builtin id) = pure (.type "method_descriptor")) (hm : uE X id r) (ho : PE X o to) (ha : PA X (e :: es) t)
    (lB : attributeBase o name X.env (eval o X.env) = eval o X.env := by rfl)
    (o9 : ((backTo bb (starEach (e :: es) X.env)).all (fun x => !x.1) && (backToKw bb (keywordEach [] X.env)).all (fun x => x.1.isSome)
      && decide ((e :: es).length + ([] : List Keyword).length + (if ([] : List Keyword).isEmpty then 0 else 1) < 30)) = true := by rfl)
    (hline : (apos.endLine == bb.line) = true := by rfl) (hs : starEach (e :: es) X.env = (false, eval e X.env) :: starEach es X.env := by rfl) (js : (backTo bb (starEach es X.env)).any (·.1) = false := by rfl) :
    PE X (.Call (.Attribute o name apos) (e :: es) [] bb) (F0 X.K T r to t) := by
  refine ⟨?_⟩
  intro pins s σ H Q I h
  refine wpAny_Call_method_late lB o9 hline rfl (thn (ho pins s σ H _ I h) fun v s1 ⟨x, H1, I1, r1, ty, q1⟩ => ?_)
  obtain ⟨h1, h2⟩ := BL I1 r1 ty
  refine ⟨T, id, pa, slot, o8, h1, h2, ?_⟩
  have hA := ha bb pins s1 σ H1 _ I1 q1
  rw [hs] at hA ⊢
  refine Calls.callWith_builtin (by show (false || (backTo bb (starEach es X.env)).any (·.1)) = false; rw [js] <;> rfl) (Calls.evalArgs_plain ?_)
  exact thn hA fun us s2 ⟨vs, H2, I2, r2, q2⟩ => hm pins s2 σ H2 x vs v us Q I2 r1 r2 q2
end
noncomputable def BM (X : Cx) (id : String) (r : V → List V → Hp → VK → Prop) : Prop :=
  ∀ (pins : List (Addr × Obj)) (s : Shared) (σ : St) (H : Hp) (x : V) (xs : List V) (v : Value) (us : List Value) (Q : VK), Inv X pins σ H s → RelV x v → Vals xs us → r x xs H Q →
    wpAny (model X.prog X.w) X.A (call (.builtin id) (v :: us)) (EP X pins σ Q) X.xe s
theorem Vals.one : ∀ {x : V} {us : List Value}, Vals [x] us → ∃ u, us = [u] ∧ RelV x u
  | _, _, .cons r .nil => ⟨_, rfl, r⟩
theorem Vals.eraseIdx : ∀ {xs : List V} {us : List Value} (i : Nat), Vals xs us → Vals (xs.eraseIdx i) (us.eraseIdx i)
  | _, _, _, .nil => .nil
  | _, _, 0, .cons _ t => t
  | _, _, i + 1, .cons r t => .cons r (Vals.eraseIdx i t)
theorem Vals.rep {xs : List V} {us : List Value} (h : Vals xs us) : ∀ k : Nat, Vals (List.replicate k xs).flatten (List.replicate k us).flatten
  | 0 => .nil
  | k + 1 => by
    rw [List.replicate_succ, List.replicate_succ, List.flatten_cons, List.flatten_cons]
    exact Vals.append h (Vals.rep h k)
theorem nB {α : Type} : ∀ (l : List α) (i : Nat), (l.eraseIdx i).length ≤ l.length
  | [], _ => Nat.le_refl _
  | _ :: _, 0 => Nat.le_succ _
  | _ :: r, i + 1 => Nat.succ_le_succ (nB r i)
theorem foldl_rep (its : List Value) : ∀ (k : Nat) (acc : List Value),
    List.foldl (fun x1 x2 => x1 ++ x2) acc.toArray (List.replicate k its.toArray) = (acc ++ (List.replicate k its).flatten).toArray
  | 0, acc => by simp
  | k + 1, acc => by
    have e : acc.toArray ++ its.toArray = (acc ++ its).toArray := by simp
    have e2 : (acc ++ its) ++ (List.replicate k its).flatten = acc ++ (List.replicate (k + 1) its).flatten := by
      rw [List.replicate_succ, List.flatten_cons, List.append_assoc]
    rw [← e2, ← foldl_rep its k (acc ++ its), ← e, List.replicate_succ, List.foldl_cons]
section
variable {X : Cx} {pins : List (Addr × Obj)} {σ : St} {H : Hp} {s : Shared} {l b : Addr} {xs ys zs : List V}
theorem Inv.mC {its its' : List Value} {n : Nat} {f : Array Value → Array Value} {t' : Nat} (I : Inv X pins σ H s) (hH : H l = some (.lst xs))
    (e : s.heap.get? l = some { cls := .type "list", data := .seq its.toArray n }) (hf : f its.toArray = its'.toArray) (hv : Vals ys its') (hz : ys.length ≤ sizeLine) :
    Inv X pins σ (upd H l (.lst ys)) { s with heap := s.heap.update l (Obj.mapSeq f), toks := t' } := by
  have q := PySem.IsL.update e f
  rw [hf] at q
  refine I.write (x := l) (e := l) (by rw [hH]; exact trivial) (.inl rfl) (fun b' u hb hu => (Heap.get?_update_other s.heap (Obj.mapSeq f) (Ne.symm hb)).trans hu) ⟨_, q⟩ ?_
  exact ⟨hz, its', _, hv, q⟩
theorem Inv.wM {its : List Value} {t' : Nat} (I : Inv X pins σ H s) (hv : Vals ys its) (hz : ys.length ≤ sizeLine) :
    Inv X pins σ (upd H s.heap.objs.size (.lst ys)) { s with heap := s.heap.push { cls := .type "list", data := .seq its.toArray }, toks := t' } :=
  I.laid (fun _ _ q => Heap.get?_push_of_some _ q) (Nat.le_refl _) ⟨hz, its, 0, hv, Heap.get?_push_size _ rfl⟩
theorem Inv.fresh (I : Inv X pins σ H s) : H s.heap.objs.size = none := I.hok.fresh (Nat.le_refl _)
theorem Inv.gN (I : Inv X pins σ H s) (hH : H l = some (.lst xs)) : xs.length ≤ sizeLine ∧ ∃ (its : List Value) (n : Nat), Vals xs its ∧ xs.length = its.length ∧ s.heap.get? l = some { cls := .type "list", data := .seq its.toArray n } := by
  obtain ⟨z, its, n, r, e⟩ := I.hok l _ hH
  exact ⟨z, its, n, r, r.length, e⟩
theorem pd {n : Nat} (h : n ≤ sizeLine) : Builtin.List.listTooLong n = false := by
  unfold Builtin.List.listTooLong
  exact decide_eq_false (by omega)
end
section
variable {X : Cx}
noncomputable def zz : V → List V → Hp → VK → Prop := fun x vs H Q => ∃ l xs y, x = .ref l ∧ vs = [y] ∧ H l = some (.lst xs) ∧ xs.length < sizeLine ∧ Q .aj (upd H l (.lst (xs ++ [y])))
theorem nC : BM X "list.append" zz := by
  intro pins s σ H x vs v us Q I rx rv h
  obtain ⟨l, xs, y, rfl, rfl, hH, hz, q⟩ := h
  cases rx
  obtain ⟨u, rfl, ru⟩ := rv.one
  obtain ⟨z, its, n, r, hl, e⟩ := I.gN hH
  refine call_meets F.slot_list_append ⟨_, e, rfl⟩ F.entry_list_append (F.args_list_append_2 _ _) (PySem.list_append l its.toArray n u (by rw [List.size_toArray]; omega)) ⟨e, ?_⟩
  refine ⟨.aj, _, I.mC (its' := its ++ [u]) hH e (by simp) (r.append (.cons ru .nil)) ?_, rfl, q⟩
  rw [List.length_append, List.length_singleton]
  omega
noncomputable def zA : V → List V → Hp → VK → Prop := fun x vs H Q => ∃ l b xs zs, x = .ref l ∧ vs = [.ref b] ∧ H l = some (.lst xs) ∧ H b = some (.lst zs) ∧ xs.length + zs.length ≤ sizeLine ∧ Q .aj (upd H l (.lst (xs ++ zs)))
theorem F1 : BM X "list.extend" zA := by
  intro pins s σ H x vs v us Q I rx rv h
  obtain ⟨l, b, xs, zs, rfl, rfl, hH, hB, hz, q⟩ := h
  cases rx
  obtain ⟨u, rfl, ru⟩ := rv.one
  cases ru
  obtain ⟨z, its, n, r, hl, e⟩ := I.gN hH
  obtain ⟨z2, bB, n2, r2, fb, e2⟩ := I.gN hB
  have cY : its.toArray.size + bB.toArray.size ≤ sizeLine := by rw [List.size_toArray, List.size_toArray]; omega
  have sN : ¬ (!its.toArray.isEmpty && Builtin.List.listTooLong (its.toArray.size + bB.toArray.size)) = true := by
    rw [pd cY, Bool.and_false]
    exact Bool.false_ne_true
  refine call_meets F.slot_list_extend ⟨_, e, rfl⟩ F.entry_list_extend (F.args_list_extend_2 _ _)
    (AutoSeq1.list_extend_list_list_0 l its.toArray n b bB.toArray n2 sN (by rw [List.size_toArray]; omega) (by omega)) ⟨e, e2, ?_⟩
  refine ⟨.aj, _, I.mC (its' := its ++ bB) hH e (by simp) (r.append r2) ?_, rfl, q⟩
  rw [List.length_append]
  omega
noncomputable def BO : V → List V → Hp → VK → Prop := fun x vs H Q => ∃ l xs i k y, x = .ref l ∧ vs = [.int i] ∧ H l = some (.lst xs) ∧ -(2 ^ 63) ≤ i ∧ i < 2 ^ 63 ∧ seqIndex? i xs.length = some k ∧ xs[k]? = some y ∧ Q y (upd H l (.lst (xs.eraseIdx k)))
theorem wN : BM X "list.pop" BO := by
  intro pins s σ H x vs v us Q I rx rv h
  obtain ⟨l, xs, i, k, y, rfl, rfl, hH, h1, h2, hk, hy, q⟩ := h
  cases rx
  obtain ⟨u, rfl, ru⟩ := rv.one
  obtain ⟨t, rfl⟩ := ru
  obtain ⟨z, its, n, r, hl, e⟩ := I.gN hH
  obtain ⟨w, hw, uF⟩ := r.get hy
  refine call_meets F.slot_list_pop ⟨_, e, rfl⟩ F.entry_list_pop (F.args_list_pop_2 _ _)
    (MeetsSeq.list_pop_at l its.toArray n i t k w (fitsIndex_both h1 h2) (by rw [List.size_toArray, ← hl]; exact hk) (by rw [← Array.getElem?_toList]; exact hw) (by rw [List.size_toArray]; omega)) ⟨e, ?_⟩
  refine ⟨y, _, I.mC (its' := its.eraseIdx k) hH e ?_ (r.eraseIdx k) ?_, uF, q⟩
  · show its.toArray.eraseIdxIfInBounds k = (its.eraseIdx k).toArray
    rw [List.eraseIdxIfInBounds_toArray]
  · have := nB xs k
    omega
noncomputable def Hh : R2 := fun x y H Q => ∃ l b xs zs, x = .ref l ∧ y = .ref b ∧ H l = some (.lst xs) ∧ H b = some (.lst zs) ∧ xs.length + zs.length ≤ sizeLine ∧ ∀ p, H p = none → Q (.ref p) (upd H p (.lst (xs ++ zs)))
theorem BP : OpR X (binaryOp .Add) Hh := by
  intro pins s σ H x y v u Q I rx ry h
  obtain ⟨l, b, xs, zs, rfl, rfl, hH, hB, hz, q⟩ := h
  cases rx
  cases ry
  obtain ⟨z, its, n, r, hl, e⟩ := I.gN hH
  obtain ⟨z2, bB, n2, r2, fb, e2⟩ := I.gN hB
  refine PySem.P.add_list e e2 ?_ (by rw [List.size_toArray, List.size_toArray]; omega)
  have ea : its.toArray ++ bB.toArray = (its ++ bB).toArray := by simp
  rw [ea]
  exact ⟨.ref _, _, I.wM (t' := s.toks) (r.append r2) (by rw [List.length_append]; omega), rfl, q _ I.fresh⟩
noncomputable def Hi : R2 := fun x y H Q => ∃ l k xs, x = .ref l ∧ y = .int k ∧ H l = some (.lst xs) ∧ -(2 ^ 63) ≤ k ∧ k < 2 ^ 63 ∧ xs.length * k.toNat ≤ sizeLine ∧
  ∀ p, H p = none → Q (.ref p) (upd H p (.lst (List.replicate k.toNat xs).flatten))
theorem len_rep {α : Type} (xs : List α) (k : Nat) : (List.replicate k xs).flatten.length = k * xs.length := by
  induction k with
  | zero => simp
  | succ k ih => rw [List.replicate_succ, List.flatten_cons, List.length_append, ih, Nat.succ_mul, Nat.add_comm]
theorem uI : OpR X (binaryOp .Mult) Hi := by
  intro pins s σ H x y v u Q I rx ry h
  obtain ⟨l, k, xs, rfl, rfl, hH, h1, h2, hz, q⟩ := h
  cases rx
  obtain ⟨t, rfl⟩ := ry
  obtain ⟨z, its, n, r, hl, e⟩ := I.gN hH
  have hlen : its.toArray.size * k.toNat ≤ sizeLine := by rw [List.size_toArray, ← hl]; exact hz
  have Hj : ¬ its.toArray.size * k.toNat > (2 ^ 63 - 1) / 8 := by
    have : (sizeLine : Nat) ≤ (2 ^ 63 - 1) / 8 := by decide
    omega
  have Hk : ¬ (!Builtin.List.listFitsIndex k) = true := by
    rw [fitsIndex_both h1 h2]
    exact Bool.false_ne_true
  have sN : ¬ Builtin.List.listTooLong (its.toArray.size * k.toNat) = true := by
    rw [pd hlen]
    exact Bool.false_ne_true
  have Hl : List.foldl (fun x1 x2 => x1 ++ x2) #[] (List.replicate (if its.toArray.isEmpty = true then 0 else k.toNat) its.toArray) = (List.replicate k.toNat its).flatten.toArray := by
    have f0 : ∀ m : Nat, List.foldl (fun x1 x2 => x1 ++ x2) #[] (List.replicate m its.toArray) = (List.replicate m its).flatten.toArray := fun m => by
      have := foldl_rep its m []
      rw [List.nil_append] at this
      exact this
    rw [f0]
    cases its with
    | nil => simp
    | cons a r' => rw [if_neg (by simp)]
  refine wpAny_binaryOp_repeat_ref (T := "list") (U := "int") (by decide) ⟨_, e, rfl⟩ (fun s' => typeIs_int s' k t) noFill_list_mul F.fills_int_mul F.slot_int_rmul repeat_list F.slot_int_index.lookup
    (call_meets F.slot_int_rmul (typeIs_int s k t) F.entry_int_rmul (F.args_int_rmul_2 _ _) (int___rmul___int_list k t l its.toArray n)
      ⟨e, rfl, ⟨_, e, rfl⟩, call_meets F.slot_list_mul ⟨_, e, rfl⟩ F.entry_list_mul (F.args_list_mul_2 _ _) (AutoListH.list___mul___list_int_3 l its.toArray n k t Hk Hj sN) ⟨e, ?_⟩⟩)
  rw [Hl]
  exact ⟨.ref _, _, I.wM (t' := s.toks) (r.rep k.toNat) (by rw [len_rep, Nat.mul_comm]; exact hz), rfl, q _ I.fresh⟩
end
end L2
namespace F2
open PySem PySem.W PySem.Calls PyProof.Rows
theorem lC {P : Params} {h : Heap} : ∀ (ns : List Int) (vs : List Value), WellAll P h vs (ns.map WData.int) → IntsAre vs ns := by
  intro ns
  induction ns with
  | nil =>
    intro vs w
    rw [List.map_nil] at w
    cases w
    exact .nil
  | cons n ns ih =>
    intro vs w
    rw [List.map_cons] at w
    cases w with
    | cons a b =>
      cases a
      exact .cons _ _ (ih _ b)
theorem uJ {l : OpenLaw} {n : Nat} (hn : l.most = some n) {P : Params} {h : Heap} {args : List WData} {vals : List Value}
    (sO : l.row.toRowW.claim.pre args = true) (BQ : WellAll P h vals args) :
    ∃ a vs ns, vals = [Value.ref a] ∧ args = [WData.list (ns.map WData.int)] ∧ h.get? a = some { cls := .type "list", data := .seq vs.toArray } ∧ IntsAre vs ns ∧ ns.length ≤ n := by
  have Im : WShape.hasAll [] args [.list .int] = true := (pre_splitW sO).1
  have hc : l.pre.holds [] { args := args } = true := (pre_splitW sO).2
  obtain ⟨d, r, rfl, h1, h2⟩ := hasAllW_cons Im
  obtain rfl := hasAllW_nil h2
  obtain ⟨xs, rfl, h3⟩ := hasW_list h1
  obtain ⟨ns, rfl⟩ := items_int h3
  have hlen : ns.length ≤ n := by
    unfold OpenLaw.pre at hc
    have h4 : (WTm.not (.lt (.lit (.int (n : Int))) (.len (.arg 0)))).holds [] { args := [.list (ns.map .int)] } = true := by
      have h4 := (holds_andW hc).1
      rw [hn] at h4
      exact h4
    have h5 := condW_of h4 (w_not (w_lt w_lit (w_len_list (w_arg rfl))))
    rw [List.length_map] at h5
    refine Nat.le_of_not_lt fun q => ?_
    have q' : (n : Int) < ((ns.length : Nat) : Int) := by omega
    first
      | (rw [decide_eq_true q'] at h5; exact absurd h5 (by decide))
      | (simp at h5; omega)
  cases BQ with
  | cons w1 w2 =>
    cases w2
    cases w1 with
    | list ho Hm => exact ⟨_, _, ns, rfl, rfl, ho, lC ns _ Hm, hlen⟩
theorem uK (l : OpenLaw) (args : List WData) : l.row.toRowW.claim.post args (.bool true) args = true :=
  postW_of (r := l.row.toRowW) (X := (true == true))
    (show WShape.has [] (.bool true) .bool = true by first | rfl | decide | simp [WShape.has, WShape.arms, WShape.armsAll])
    (show (WTm.eq .res (.lit (.bool true))).value [] { args := args, res := some (.bool true), after := args } = some (.bool (true == true)) from w_eq_bool (w_res rfl) w_lit) rfl
theorem qP {l : OpenLaw} {n : Nat} {q : Program} {loose : List Str} {XP : (Str → Option Value) → Heap → Prop} {YP : World → Heap → Prop} {d : DefRec}
    (hn : l.most = some n) (uL : d.params.defaults = [])
    (call : ∀ (w : World) (s₀ aq : Shared) (mg mb : Str → Option Value) (fa : Addr) (o : Obj) (pm cd doc : Value) (a : Addr) (vs : List Value) (ns : List Int),
      Ground q loose [] XP w s₀ mg mb aq.heap → YP w aq.heap →
      aq.heap.get? fa = some o → o.data = .func (docDef d.name d.params d.body d.scope pm cd doc) → aq.heap.CodeRec cd d.name → mg d.name = some (.ref fa) →
      aq.heap.get? a = some { cls := .type "list", data := .seq vs.toArray } → IntsAre vs ns → ns.length ≤ n → aq.gens = #[] →
      codeAny (model l.prog w) callerA (.call (.ref fa) ⟨[.ref a], []⟩) (fun r s' => r = .ok (.ret (.bool true)) ∧ OldK aq.heap s'.heap ∧ s'.os = aq.os ∧ AllBare s'.gens) aq) :
    WalkO q loose XP YP l.row.toRowW d [] (fun f vs => PySem.call f vs) := by
  intro w s₀ aq mg mb G Y fa o pm cd doc dV kV ho hd fP hD uM hg args vals as sO Kd Kg BQ Kh
  obtain rfl : dV = .none := Dflts.none hD uL
  obtain rfl : kV = .none := Dflts.noKw hD
  obtain ⟨a, vs, ns, rfl, rfl, wO, hints, hlen⟩ := uJ hn sO BQ
  refine enter_call (codeAny_mono (call w s₀ aq mg mb fa o pm cd doc a vs ns G Y ho (fd_plain hd) fP uM wO hints hlen hg) fun r s' hq => ?_)
  obtain ⟨rfl, h2, h3, h4⟩ := hq
  exact ⟨.inl ⟨.bool true, .bool true, [], rfl, fun _ => rfl, .bool true, uK l _, fun _ => ⟨List.Pairwise.nil, fun _ hm => (nomatch hm)⟩⟩, h2, h3, h4⟩
end F2
namespace L2
open PySem PySem.Spec PyProof.Rows
theorem nD : ∀ {vs : List Value} {ns : List Int}, IntsAre vs ns → Vals (ns.map V.int) vs
  | _, _, .nil => .nil
  | _, _, .cons n t h => .cons ⟨t, rfl⟩ (nD h)
noncomputable def eW (s : Stmt) : Arguments := match s with
  | .FunctionDef _ a _ _ _ _ _ _ _ _ => a
  | _ => { posonlyargs := [], args := [], vararg := none, kwonlyargs := [], kw_defaults := [], kwarg := none, defaults := [] }
noncomputable def cG (s : Stmt) : List Stmt := match s with
  | .FunctionDef _ _ b _ _ _ _ _ _ _ => b
  | _ => []
noncomputable def ak (s : Stmt) : Scope := match s with
  | .FunctionDef _ _ _ _ _ _ sc _ _ _ => sc
  | _ => { kind := .function, names := [], isGenerator := false, isCoroutine := false }
noncomputable abbrev bj : iE := fun _ _ _ _ _ _ => False
noncomputable abbrev E0 : XK := fun _ _ _ => False
theorem bz {X : Cx} : Passes bj X E0 := fun _ _ _ _ _ _ _ h => h.elim
structure nE (K : PySem.W.Frag) (x qual : Str) (st : Stmt) (f : Addr) (fd : FuncData) : Prop where
  ex : ∃ (oc : Value) (od : Option Addr) (kV doc pm : Value) (an : Option Addr) (cX ct : Value) (g8 : Array (Option Value)),
    fd = PySem.W.fnOf x qual (eW st) (cG st) (ak st) .none kV doc pm an cX ct ∧ K.lookup f = some ⟨oc, od, .func fd, g8⟩ ∧ PySem.W.codeIn K cX qual = true
  kp : PySem.W.keepIn K (.ref f) = true
section
variable {P : Program} {w : World} {K : PySem.W.Frag} {mg : Str → Option Value} {base : Heap}
theorem nE.binds {x qual : Str} {st : Stmt} {f : Addr} {fd : FuncData} {ps : List Str} (F : nE K x qual st f fd)
    (h : ∀ (kV doc pm : Value) (an : Option Addr) (cX ct : Value) (us : List Value), us.length = ps.length → bindArgs (PySem.W.fnOf x qual (eW st) (cG st) (ak st) .none kV doc pm an cX ct) ⟨us, []⟩ = pure (ps.zip us)) : Binds K fd ps [] := by
  obtain ⟨oc, od, kV, doc, pm, an, cX, ct, g8, rfl, lk, fP⟩ := F.ex
  exact .all (h kV doc pm an cX ct)
theorem BR {x qual : Str} {st : Stmt} {f : Addr} {oc : Value} {od an : Option Addr} {g8 : Array (Option Value)} {kV doc pm cX ct : Value} (l : K.lookup f = some ⟨oc, od, .func (PySem.W.fnOf x qual (eW st) (cG st) (ak st) .none kV doc pm an cX ct), g8⟩)
    (c : PySem.W.codeIn K cX qual = true) (k : PySem.W.keepIn K (.ref f) = true) : nE K x qual st f (PySem.W.fnOf x qual (eW st) (cG st) (ak st) .none kV doc pm an cX ct) := ⟨⟨oc, od, kV, doc, pm, an, cX, ct, g8, rfl, l, c⟩, k⟩
end
end L2
set_option maxHeartbeats 4000000
namespace L2
open PySem PySem.Spec PyProof.Rows
theorem iP {env : Env} : ∀ (names : List (Str × NameKind)) (acc : List (Str × Addr)), (∀ n, (n, NameKind.free) ∈ names → ∃ c, env.cells.lookup n = some c) →
    (∀ n c, acc.lookup n = some c → env.cells.lookup n = some c) →
    ∃ cl, (forIn names acc fun x r => if (x.2 == NameKind.free) = true then (do let a ← cellOf env x.1; pure (ForInStep.yield ((x.1, a) :: r))) else pure (ForInStep.yield r) : Sem (List (Str × Addr))) = pure cl ∧
      (∀ n c, cl.lookup n = some c → env.cells.lookup n = some c) ∧ (∀ n, (n, NameKind.free) ∈ names → ∃ c, cl.lookup n = some c) ∧ (∀ n c, acc.lookup n = some c → ∃ c', cl.lookup n = some c')
  | [], acc, _, h2 => ⟨acc, rfl, h2, fun n h => by simp at h, fun n c h => ⟨c, h⟩⟩
  | (n, k) :: r, acc, h1, h2 => by
    rw [List.forIn_cons]
    cases hk : (k == NameKind.free) with
    | true =>
      have ek : k = NameKind.free := by simpa using hk
      subst ek
      obtain ⟨c, hc⟩ := h1 n List.mem_cons_self
      have e1 : cellOf env n = pure c := by unfold cellOf; rw [hc]
      obtain ⟨cl, e, a1, a2, a3⟩ := iP r ((n, c) :: acc) (fun m hm => h1 m (List.mem_cons_of_mem _ hm)) (fun m c' hm => by
        rw [List.lookup_cons] at hm
        cases hb : m == n with
        | true =>
          rw [hb] at hm
          have e2 : m = n := by simpa using hb
          rw [e2, hc]; exact hm
        | false => rw [hb] at hm; exact h2 m c' hm)
      refine ⟨cl, ?_, a1, fun m hm => ?_, fun m c' hm => ?_⟩
      · simp only [if_true, e1]
        exact e
      · rcases List.mem_cons.mp hm with z | z
        · cases z
          exact a3 n c (by rw [List.lookup_cons]; simp)
        · exact a2 m z
      · by_cases hb : m = n
        · subst hb
          exact a3 m c (by rw [List.lookup_cons]; simp)
        · exact a3 m c' (by
            rw [List.lookup_cons]
            have : (m == n) = false := by simpa using hb
            rw [this]; exact hm)
    | false =>
      obtain ⟨cl, e, a1, a2, a3⟩ := iP r acc (fun m hm => h1 m (List.mem_cons_of_mem _ hm)) h2
      refine ⟨cl, ?_, a1, fun m hm => ?_, a3⟩
      · simp only [Bool.false_eq_true, if_false]
        exact e
      · rcases List.mem_cons.mp hm with z | z
        · cases z; simp at hk
        · exact a2 m z
theorem iQ {scope : Scope} {env : Env} (h : ∀ n, (n, NameKind.free) ∈ scope.names → ∃ c, env.cells.lookup n = some c) :
    ∃ cl, closureFor scope env = pure cl ∧ (∀ n c, cl.lookup n = some c → env.cells.lookup n = some c) ∧ (∀ n, (n, NameKind.free) ∈ scope.names → ∃ c, cl.lookup n = some c) := by
  obtain ⟨cl, e, a1, a2, _⟩ := iP (env := env) scope.names [] h (fun n c hn => by simp at hn)
  refine ⟨cl, ?_, a1, a2⟩
  simp only [closureFor]
  rw [e]
  rfl
noncomputable def cxBlock (X : Cx) (N' : List Str) (env' : Env) (A' : Around) (stack' : List Env) (s : Shared) (H : Hp) (ex : List Addr) : Cx :=
  { X with N := N', s₀ := s, H₀ := H, env := env', A := A', outer := X.stack, stack := stack', ex := ex, fn := fun _ => false, pn := [], xe := fun _ _ => False }
theorem nF {X : Cx} {pins : List (Addr × Obj)} {σ aF : St} {H H' : Hp} {s : Shared} {N' : List Str} {env' : Env} {A' : Around} {stack' : List Env} {ex : List Addr} {h1 : Heap} {m0 : Str → Option Value} {g' : Array GenState} {tk : Nat}
    (I : Inv X pins σ H s) (oF : env'.scope.kind = .function) (EG : env'.globals = X.env.globals) (Hn : env'.builtins = X.env.builtins)
    (ki : ∀ n c, env'.cells.lookup n = some c → X.env.cells.lookup n = some c)
    (BU : ∀ x, (env'.kindOf x = some .cell ∨ env'.kindOf x = some .free) → ∃ c, env'.cells.lookup x = some c)
    (hh : X.calm = true → A'.handled = none) (Io : A'.frames = some stack') (Ho : stack' = X.stack ∨ (stack' = env' :: X.stack ∧ env'.frame = some env'.locals))
    (hC : s.heap.objs.size ≤ env'.locals) (hf : ∀ b ∈ ex, ej X pins H b) (Hq : ∀ b ∈ ex, b < s.heap.objs.size)
    (F3 : Un (eh X.stack) ex H H' s.heap h1) (hok : c9 X.prog X.w H' h1) (BV : H' env'.locals = none) (yt : ∀ b o, s.heap.get? b = some o → h1.get? b = some o) (iG : h1.Ns env'.locals m0)
    (BW : ∀ (i : Nat) (x : Str) (v : V), N'[i]? = some x → aF[i]? = some (some v) → rN env'.scope x → (env'.kindOf x = some .cell ∨ env'.kindOf x = some .free) ∧ rN X.env.scope x ∧ (X.env.kindOf x = some .cell ∨ X.env.kindOf x = some .free) ∧ ∃ j : Nat, X.N[j]? = some x ∧ σ[j]? = some (some v))
    (hlen : aF.length = N'.length) (hg : Gn s.gens.size g') : Inv (cxBlock X N' env' A' stack' s H ex) [] aF H' { s with heap := h1, gens := g', toks := tk } := by
  have F4 : ∀ b ∈ ex, ∀ x c, X.env.cells.lookup x = some c → c ≠ b := fun b hb => (hf b hb).2.2.2.2.1
  refine ⟨⟨I.ok.mod, oF, EG.trans I.ok.glob, Hn.trans I.ok.blt, hC, fun x y c a b => I.ok.inj x y c (ki x c a) (ki y c b), BU, fun _ _ z => (nomatch z), hh, Io, Ho, fun b hb => ⟨Nat.ne_of_lt (Nat.lt_of_lt_of_le (Hq b hb) hC), fun x c e => F4 b hb x c (ki x c e)⟩,
      I.bs, Nat.le_trans I.ok.bsz I.sz, fun b o e hb => ?_, fun b hb z => ?_, I.stack, I.mq⟩, rfl, hg, F3, ⟨m0, iG, fun i x v e1 e2 e3 => ?_⟩, fun x c e => ?_, BV, fun x c e => ?_, fun p hp => absurd (show p ∈ ([] : List (Addr × Obj)) from hp) (by simp), hok, hlen⟩
  · rcases (hf b hb).2.2.2.1 with z | z
    · exact I.ok.noex b o e z
    · exact absurd (Nat.lt_of_lt_of_le (Heap.lt_size e) (Nat.le_trans I.ok.bsz z)) (Nat.lt_irrefl _)
  · rcases List.mem_cons.mp (I.gJ b z) with q | q
    · exact (hf b hb).2.1 q
    · exact (hf b hb).2.2.1 q
  · obtain ⟨k1, vx, k2, j, n1, n2⟩ := BW i x v e1 e2 e3
    obtain ⟨m, hn, hl⟩ := I.loc
    obtain ⟨u, r, l⟩ := hl j x v n1 n2 vx
    refine ⟨u, r, .inr ⟨k1, ?_⟩⟩
    obtain ⟨c', F5⟩ := BU x k1
    rcases l with ⟨kl, _⟩ | ⟨_, c, ec, z⟩
    · rcases k2 with q | q <;> (rw [kl] at q; cases q)
    · have : c' = c := Option.some.inj ((ki x c' F5).symm.trans ec)
      subst this
      exact ⟨c', F5, z.keeps yt⟩
  · obtain ⟨v, z⟩ := I.cell x c (ki x c e)
    exact ⟨v, z.keeps yt⟩
  · obtain ⟨v, o, ho, hd⟩ := I.cell x c (ki x c e)
    exact F3.free c o ho (I.freeC x c (ki x c e)) fun z => F4 c z x c (ki x c e) rfl
theorem lookup_map2 {c : Str → NameKind → NameKind} : ∀ {names : List (Str × NameKind)} {x : Str}, (names.map fun (p : Str × NameKind) => (p.1, c p.1 p.2)).lookup x = (names.lookup x).map (c x)
  | [], x => rfl
  | (n, k') :: r, x => by
    have ih := @lookup_map2 c r x
    rw [List.map_cons, List.lookup_cons, List.lookup_cons]
    cases hx : x == n with
    | true =>
      have e : x = n := by simpa using hx
      subst e
      rfl
    | false => exact ih
theorem jt {scope : Scope} {env : Env} (x : Str) : (relabel scope env).names.lookup x = (scope.names.lookup x).map fun k => if (k == .free && env.scope.kind == .function && env.kindOf x == some .cell) = true then .cell else k := by
  have e : (relabel scope env).names = scope.names.map fun p => (p.1, (fun n k => if (k == NameKind.free && env.scope.kind == .function && env.kindOf n == some .cell) = true then NameKind.cell else k) p.1 p.2) := by
    unfold relabel
    dsimp only
    congr 1
    funext p
    obtain ⟨n, k⟩ := p
    dsimp only
    split <;> rfl
  rw [e]
  exact lookup_map2 (c := fun n k => if (k == NameKind.free && env.scope.kind == .function && env.kindOf n == some .cell) = true then NameKind.cell else k)
noncomputable def aG (N : List Str) (sc scope : Scope) (N' : List Str) (tn : Nat) (idx : List Nat) : Prop :=
  scope.kind = .function ∧ (∀ y ∈ scope.names, y.2 ≠ .cell ∧ (y.2 = .local → scope.names.lookup y.1 = some .local) ∧ (y.2 = .free → sc.names.lookup y.1 = some .cell ∨ sc.names.lookup y.1 = some .free)) ∧
    N'.length = tn + idx.length ∧ ∀ p ∈ idx.zip (N'.drop tn), N[p.1]? = some p.2 ∧ scope.names.lookup p.2 = some .free
instance (N : List Str) (sc scope : Scope) (N' : List Str) (tn : Nat) (idx : List Nat) : Decidable (aG N sc scope N' tn idx) := by unfold aG; infer_instance
noncomputable def bA (tn : Nat) (idx : List Nat) (σ : St) : St := List.replicate tn none ++ idx.map fun i => (σ[i]?).join
theorem aG.at {N : List Str} {sc scope : Scope} {N' : List Str} {tn : Nat} {idx : List Nat} (B : aG N sc scope N' tn idx) {σ : St} {i : Nat} {x : Str} {v : V} (h1 : N'[i]? = some x) (h2 : (bA tn idx σ)[i]? = some (some v)) :
    scope.names.lookup x = some .free ∧ ∃ j : Nat, N[j]? = some x ∧ σ[j]? = some (some v) := by
  obtain ⟨_, _, b3, b4⟩ := B
  unfold bA at h2
  by_cases hi : i < tn
  · rw [List.getElem?_append_left (by simpa using hi), List.getElem?_replicate, if_pos hi] at h2
    cases h2
  · rw [List.getElem?_append_right (by simpa using hi), List.length_replicate, List.getElem?_map] at h2
    cases e : idx[i - tn]? with
    | none => rw [e] at h2; cases h2
    | some k =>
      rw [e] at h2
      have h3 : (σ[k]?).join = some v := Option.some.inj h2
      have e2 : (N'.drop tn)[i - tn]? = some x := by
        rw [List.getElem?_drop]
        have : tn + (i - tn) = i := by omega
        rw [this]; exact h1
      have m : (k, x) ∈ idx.zip (N'.drop tn) := by
        refine List.mem_of_getElem? (i := i - tn) ?_
        rw [List.getElem?_zip_eq_some]
        exact ⟨e, e2⟩
      obtain ⟨a, b⟩ := b4 _ m
      refine ⟨b, k, a, ?_⟩
      cases q : σ[k]? with
      | none => rw [q] at h3; cases h3
      | some w => rw [q] at h3; exact congrArg some h3
theorem aG.len {N : List Str} {sc scope : Scope} {N' : List Str} {tn : Nat} {idx : List Nat} (B : aG N sc scope N' tn idx) (σ : St) : (bA tn idx σ).length = N'.length := by
  rw [B.2.2.1]
  unfold bA
  simp
section
variable {X : Cx}
noncomputable def gj (X : Cx) (ifs : List Expr) (tt : TT) : Prop :=
  ∀ (pins : List (Addr × Obj)) (s : Shared) (σ : St) (H : Hp) (Q : Bool → Hp → Prop), Inv X pins σ H s → tt σ H Q →
    wpAny (model X.prog X.w) X.A (forIn ifs true fun c r => if r = true then do let ok ← isTrue c X.env (eval c X.env); pure (ForInStep.yield ok) else pure (ForInStep.yield r)) (TP X pins σ Q) X.xe s
noncomputable def EH : TT := fun _ H Q => Q true H
theorem zB : gj X [] EH := fun _ _ _ H _ I h => wpAny_tests_nil ⟨H, I, h⟩
theorem zD {c : Expr} {tc : TT} (h : PT X c tc) : gj X [c] tc := fun pins s σ H Q I q => wpAny_tests_one (h pins s σ H Q I q)
noncomputable abbrev lD (X : Cx) (N' : List Str) (scope : Scope) (cl : List (Str × Addr)) (C : Addr) (s : Shared) (H : Hp) (fp : List Addr) : Cx := cxBlock X N' (compEnvC scope cl C X.env) X.A X.stack s H fp
noncomputable abbrev Blk (X : Cx) (N' : List Str) (scope : Scope) (P : Cx → Prop) : Prop := ∀ (cl : List (Str × Addr)) (C : Addr) (s : Shared) (H : Hp) (fp : List Addr), P (lD X N' scope cl C s H fp)
noncomputable def yu (J : It) (g : TG) (tt : TT) (te : TE) (D : Addr) (Q : VK) (W : Nat → Nat → St → Hp → Prop) : Prop := ∀ i m τ H, W i m τ H →
  (J.stop i H ∧ Q (.ref D) H) ∨ (J.go i H ∧ ∀ x H', J.yld i H x H' → g x τ H' fun aw H2 => tt aw H2 fun b H3 => if b = true then te aw H3 fun y H4 => ∃ ys m', H4 D = some (.lst ys) ∧ ys.length < sizeLine ∧ m' < m ∧ W (i + 1) m' aw (upd H4 D (.lst (ys ++ [y]))) else ∃ m', m' < m ∧ W (i + 1) m' aw H3)
noncomputable def oH (tn : Nat) (idx : List Nat) (wi : TI) (g : TG) (tt : TT) (te : TE) : TE := fun σ H Q => wi σ H fun J H1 => ∀ D, H1 D = none → ∃ W : Nat → Nat → St → Hp → Prop, (∃ m, W 0 m (bA tn idx σ) (upd H1 D (.lst []))) ∧ yu J g tt te D Q W
theorem nG {pins : List (Addr × Obj)} {σ : St} {H2 : Hp} {s2 : Shared} {tg elt iter : Expr} {ifs : List Expr} {scope : Scope} {pos : Pos} {N' : List Str} {tn : Nat} {idx : List Nat} {g : TG} {tt : TT} {te : TE} {it : Addr} {fp : List Addr} {bJ : Nat → Heap → Prop} {J : It}
    {cl : List (Str × Addr)} {E : Value → Shared → Prop} {RR : Value → Addr → Result → Shared → Prop} {Q : VK}
    (hc : X.calm = true) (B : aG X.N X.env.scope scope N' tn idx)
    (hg : Blk X N' scope fun Y => PG Y tg g) (ht : Blk X N' scope fun Y => gj Y ifs tt) (he : Blk X N' scope fun Y => PE Y elt te)
    (I : Inv X pins σ H2 s2) (T : Turn X.prog X.w X.K tg J fp it bJ) (st : bJ 0 s2.heap) (f2 : ∀ b ∈ fp, ej X pins H2 b)
    (iR : ∀ n c, cl.lookup n = some c → X.env.cells.lookup n = some c) (kJ : ∀ n, (n, NameKind.free) ∈ scope.names → ∃ c, cl.lookup n = some c)
    (hq : ∀ D, H2 D = none → ∃ W : Nat → Nat → St → Hp → Prop, (∃ m, W 0 m (bA tn idx σ) (upd H2 D (.lst []))) ∧ yu J g tt te D Q W)
    (Ip : ∀ D C m s' H', Inv X pins σ H' s' → ej X pins H' C → s'.heap.Ns C m → Q (.ref D) H' → RR (.ref D) C (.ok .next) s') :
    wpAny (model X.prog X.w) X.A (newList []) (fun acc kM => wpAny (model X.prog X.w) X.A (newFunctionEnv scope X.env.globals cl [] X.env.qual none .none (some X.env)) (fun BX Hr =>
      codeAny (model X.prog X.w) X.A (.compStart (.ListComp elt [⟨tg, iter, ifs, 0⟩] scope pos) 0 (.ref it) acc { BX with scope := relabel scope X.env }) (RR acc BX.locals) Hr) E kM) E s2 := by
  obtain ⟨b1, b2, b3, b4⟩ := id B
  refine wpAny_newObj_type (wpAny_newFunctionEnv (fun y hy => (b2 y hy).1) (by intro y hy; simp at hy) (fun iS pf lF => ?_) b1)
  dsimp only at pf lF ⊢
  generalize hG : s2.heap.push { cls := .type "list", dict := none, data := .seq ([] : List Value).toArray } = G at pf lF ⊢
  have hC : G.objs.size = s2.heap.objs.size + 1 := by rw [← hG, Heap.size_push]
  have F6 : s2.heap.objs.size ≠ G.objs.size := by rw [hC]; exact Nat.ne_of_lt (Nat.lt_succ_self _)
  have wQ : s2.heap.objs.size ≤ G.objs.size := by rw [hC]; exact Nat.le_succ _
  have below : ∀ b, b < s2.heap.objs.size → b ≠ G.objs.size := fun b hb => by rw [hC]; exact Nat.ne_of_lt (Nat.lt_succ_of_lt hb)
  have old : ∀ b o, s2.heap.get? b = some o → iS.get? b = some o := fun b o e => lF.extBut b o (below b (Heap.lt_size e)) (Heap.get?_push_of_some _ (hG ▸ Heap.get?_push_of_some _ e))
  have Iq : iS.get? s2.heap.objs.size = some { cls := .type "list", data := .seq ([] : List Value).toArray } := lF.extBut _ _ F6 (Heap.get?_push_of_some _ (hG ▸ Heap.get?_push_size _ rfl))
  have F7 : H2 s2.heap.objs.size = none := I.hok.fresh (Nat.le_refl _)
  have BV : upd H2 s2.heap.objs.size (.lst []) G.objs.size = none := by rw [ao (Ne.symm F6)]; exact I.hok.fresh wQ
  have Hs : c9 X.prog X.w (upd H2 s2.heap.objs.size (.lst [])) iS := I.hok.laid old (Nat.le_refl _) ⟨Nat.zero_le _, [], 0, .nil, Iq⟩
  have pj : ∀ b ∈ fp, b < s2.heap.objs.size := fun b hb => let ⟨o, e, _⟩ := T.obj _ _ st b hb; Heap.lt_size e
  obtain ⟨W, ⟨m0, w0⟩, turn⟩ := hq s2.heap.objs.size F7
  have I1 : Inv (lD X N' scope cl G.objs.size s2 H2 fp) [] (bA tn idx σ) (upd H2 s2.heap.objs.size (.lst [])) { s2 with heap := iS, toks := s2.toks + ([] : List (Str × Value)).length } := by
    refine nF (g' := s2.gens) (m0 := fun x => ([] : List (Str × Value)).reverse.lookup x) I b1 rfl rfl iR (fun x hx => ?_) (fun z => I.ok.hd z) I.ok.frames (.inl rfl) wQ f2 pj (Un.laid old (Nat.le_refl _) F7) Hs BV old pf (fun i x v e1 e2 e3 => ?_) (B.len σ) I.bare.self
    · have nI : (relabel scope X.env).names.lookup x = some .cell ∨ (relabel scope X.env).names.lookup x = some .free := hx
      rw [jt] at nI
      cases q : scope.names.lookup x with
      | none => rw [q] at nI; rcases nI with z | z <;> cases z
      | some k0 =>
        have hm := PySem.mem_of_lookup q
        rw [q] at nI
        by_cases hk : k0 = .free
        · subst hk; exact kJ x hm
        · have nk : (k0 == NameKind.free) = false := by simpa using hk
          have nc := (b2 _ hm).1
          simp only [Option.map_some, nk, Bool.false_and, Bool.false_eq_true, if_false] at nI
          rcases nI with z | z
          · exact absurd (Option.some.inj z) nc
          · exact absurd (Option.some.inj z) hk
    · obtain ⟨fr, j, e4, e5⟩ := B.at e1 e2
      have kx := (b2 _ (PySem.mem_of_lookup fr)).2.2 rfl
      refine ⟨?_, .inr kx, kx, j, e4, e5⟩
      show (relabel scope X.env).names.lookup x = some .cell ∨ (relabel scope X.env).names.lookup x = some .free
      rw [jt, fr]
      simp only [Option.map_some]
      split
      · exact .inl rfl
      · exact .inr rfl
  have stat : ∀ {H' : Hp}, (∀ b ∈ fp, H' b = none) → ∀ b ∈ fp, ej (lD X N' scope cl G.objs.size s2 H2 fp) [] H' b := fun hn b hb => by
    refine ⟨hn b hb, below b (pj b hb), fun z => ?_, .inl hb, fun x c e => (f2 b hb).2.2.2.2.1 x c (iR x c e), fun p hp => absurd (show p ∈ ([] : List (Addr × Obj)) from hp) (by simp)⟩
    rcases List.mem_cons.mp (I.gJ b z) with q | q
    · exact (f2 b hb).2.1 q
    · exact (f2 b hb).2.2.1 q
  have loop : ∀ kM : Shared, kM = { s2 with heap := iS, toks := s2.toks + ([] : List (Str × Value)).length } →
      codeAny (model X.prog X.w) X.A (.compLoop (.ListComp elt [⟨tg, iter, ifs, 0⟩] scope pos) 0 (.ref it) (.ref s2.heap.objs.size) (compEnvC scope cl G.objs.size X.env))
        (RR (.ref s2.heap.objs.size) G.objs.size) kM := by
    rintro kM rfl
    refine codeAny_loop rfl (fun n s' => ∃ i τ H', Inv (lD X N' scope cl G.objs.size s2 H2 fp) [] τ H' s' ∧ bJ i s'.heap ∧ (∀ b ∈ fp, H' b = none) ∧ W i n τ H') (fun n s hI => ?_) m0
      ⟨0, _, _, I1, T.keep _ _ _ st fun b _ o e => old b o e, fun b hb => by rw [ao (Nat.ne_of_lt (pj b hb))]; exact (f2 b hb).1, w0⟩
    show wpAny _ X.A ((compTurn (.ListComp elt [⟨tg, iter, ifs, 0⟩] scope pos) 0 (.ref it) (.ref s2.heap.objs.size) (compEnvC scope cl G.objs.size X.env)).onRaise (fun x => do noteFrame x (compEnvC scope cl G.objs.size X.env); theTreesLotGoes x)) _ _ s
    refine wpAny_noted ?_
    rw [compTurn_list]
    obtain ⟨i, τ, H3, I3, nh, um, w3⟩ := hI
    rcases turn i n τ H3 w3 with ⟨stop, qn⟩ | ⟨go, step⟩
    · refine wpAny_bind (wpAny_standAt (wpAny_bind (wpAny_mono (T.done (lD X N' scope cl G.objs.size s2 H2 fp) rfl rfl rfl hc i [] s τ H3 (fun _ _ => False) I3 (stat um) nh stop) (fun r s4 ⟨hr, I4⟩ => ?_) fun _ _ z => z.elim)))
      subst hr
      refine wpAny_pure ?_
      have J2 : Inv X pins σ H3 s4 := I.oB I4.os I4.base I4.hok I4.bare fun b hb => ⟨(f2 b hb).2.2.2.1, (f2 b hb).2.1, (f2 b hb).2.2.2.2.1, (f2 b hb).2.2.2.2.2⟩
      obtain ⟨mm, hm, _⟩ := I4.loc
      exact Ip _ _ mm s4 H3 J2 (I.oV wQ I4.free) hm qn
    · refine wpAny_bind (wpAny_standAt (wpAny_bind (wpAny_mono (T.item (lD X N' scope cl G.objs.size s2 H2 fp) rfl rfl rfl hc i [] s τ H3 (fun _ _ => False) I3 (stat um) nh go) (fun r s4 ⟨u, hr, h4⟩ => ?_) fun _ _ z => z.elim)))
      subst hr
      refine wpAny_bind (wpAny_mono h4 (fun _ s5 ⟨x, H5, I5, r5, y5, gK, oX⟩ => ?_) fun _ _ z => z.elim)
      have oY := I5.pinned (stat oX) (T.obj _ _ gK)
      have again : ∀ {kj : St} {H7 : Hp} {s7 : Shared}, Inv (lD X N' scope cl G.objs.size s2 H2 fp) ([] ++ fS fp s5.heap) kj H7 s7 → (∃ m', m' < n ∧ W (i + 1) m' kj H7) →
          ∃ m, m < n ∧ ∃ i τ H', Inv (lD X N' scope cl G.objs.size s2 H2 fp) [] τ H' s7 ∧ bJ i s7.heap ∧ (∀ b ∈ fp, H' b = none) ∧ W i m τ H' := fun {kj H7 s7} I7 n7 => by
        obtain ⟨m', hm, w7⟩ := n7
        refine ⟨m', hm, i + 1, kj, H7, I7.bI, T.keep _ _ _ gK fun b hb o e => (I7.pin (b, o) (List.mem_append_right _ (List.mem_append_right _ (bX hb e)))).1, fun b hb => ?_, w7⟩
        obtain ⟨o, e, d⟩ := T.obj _ _ gK b hb
        exact (I7.pin (b, o) (List.mem_append_right _ (List.mem_append_right _ (bX hb e)))).2.1
      refine wpAny_bind (wpAny_mono (hg cl G.objs.size s2 H2 fp _ s5 τ H5 x u _ oY r5 (step x H5 y5)) (fun _ s6 ⟨gO, H6, I6, q6⟩ => ?_) fun _ _ z => z.elim)
      refine wpAny_bind (wpAny_mono (ht cl G.objs.size s2 H2 fp _ s6 gO H6 _ I6 q6) (fun ok s7 ⟨H7, I7, q7⟩ => ?_) fun _ _ z => z.elim)
      cases ok with
      | false => exact wpAny_pure ⟨rfl, again I7 q7⟩
      | true =>
        refine wpAny_bind (wpAny_bind (wpAny_mono (he cl G.objs.size s2 H2 fp _ s7 gO H7 _ I7 q7) (fun yv s8 ⟨y, H8, I8, r8, q8⟩ => ?_) fun _ _ z => z.elim))
        obtain ⟨ys, m', hD, cY, ju, w8⟩ := q8
        refine wpAny_bind (wpAny_mono (nC (X := lD X N' scope cl G.objs.size s2 H2 fp) _ s8 gO H8 (.ref s2.heap.objs.size) [y] (.ref s2.heap.objs.size) [yv] (fun v H9 => v = .aj ∧ H9 = upd H8 s2.heap.objs.size (.lst (ys ++ [y]))) I8 rfl (.cons r8 .nil) ⟨_, ys, y, rfl, rfl, hD, cY, rfl, rfl⟩) (fun rv s9 ⟨v9, H9, I9, _, _, e9⟩ => ?_) fun _ _ z => z.elim)
        subst e9
        exact wpAny_pure (wpAny_pure ⟨rfl, again I9 ⟨m', ju, w8⟩⟩)
  exact codeAny_compStart_list (loop _ rfl) (T.self _ 0 _ _ _ (T.keep _ _ _ st fun b _ o e => old b o e) (loop _ rfl))
variable {tg elt iter : Expr} {ifs : List Expr} {scope : Scope} {pos : Pos} {N' : List Str} {tn : Nat} {idx : List Nat} {wi : TI} {g : TG} {tt : TT} {te : TE}
theorem ej.turn {pins : List (Addr × Obj)} {σ : St} {H : Hp} {s : Shared} {C : Addr} {h' : Heap} (f : ej X pins H C) (I : Inv X pins σ H s) (hs : Heap.SameBut C s.heap h') : Inv X pins σ H { s with heap := h' } :=
  I.turned (t' := s.toks) (fun b o hb e => (hs.2 b hb).trans e) f.1 f.2.1 f.2.2.2.1 f.2.2.2.2.1 f.2.2.2.2.2
theorem qQ (hc : X.calm = true) (B : aG X.N X.env.scope scope N' tn idx) (hi : PI X tg iter wi)
    (hg : Blk X N' scope fun Y => PG Y tg g) (ht : Blk X N' scope fun Y => gj Y ifs tt) (he : Blk X N' scope fun Y => PE Y elt te)
    (hs : ∀ x, foldedSetIterable iter X.env x = pure x := by intro _; rfl) : PE X (.ListComp elt [⟨tg, iter, ifs, 0⟩] scope pos) (oH tn idx wi g tt te) := by
  refine ⟨?_⟩
  intro pins s σ H Q I h
  obtain ⟨cl, lH, iR, kJ⟩ := iQ (scope := scope) (env := X.env) fun n hn => I.ok.has n ((B.2.1 _ hn).2.2 rfl)
  rw [eval_ListComp]
  refine wpAny_comprehension_free (use := none) rfl hs lH B.1 (fun y hy => (B.2.1 y hy).2.1) (wpAny_mono (hi pins s σ H _ I h) (fun xv s1 h1 => wpAny_mono h1 (fun uh s2 h2 => ?_) fun _ _ z => z) fun _ _ z => z)
  obtain ⟨it, fp, bJ, J, H2, e, I2, T, oW, f2, q2⟩ := h2
  subst e
  refine nG (RR := fun acc C => compPost (model X.prog X.w) X.A X.xe none (EP X pins σ Q) acc C) hc B hg ht he I2 T oW f2 iR kJ q2 fun D C m s' H' J2 fC hm q => ?_
  exact ⟨m, hm, fun h' rV => ⟨.ref D, H', fC.turn J2 rV, rfl, q⟩⟩
theorem lJ {i : Nat} {y : Str} {py jv : Pos} (hN : X.N.Nodup) (jw : X.N[i]? = some y) (hy : X.env.scope.names.lookup y = some .local) (hc : X.calm = true) (B : aG X.N X.env.scope scope N' tn idx) (hi : PI X tg iter wi)
    (hg : Blk X N' scope fun Y => PG Y tg g) (ht : Blk X N' scope fun Y => gj Y ifs tt) (he : Blk X N' scope fun Y => PE Y elt te)
    (uN : swapsWith (.ListComp elt [⟨tg, iter, ifs, 0⟩] scope pos) (some (.Name y py)) jv.line X.env = pure true := by rfl)
    (hs : ∀ x, foldedSetIterable iter X.env x = pure x := by intro _; rfl) : PS X (.Assign [.Name y py] (.ListComp elt [⟨tg, iter, ifs, 0⟩] scope pos) jv) (oU (oH tn idx wi g tt te) (oD i)) := by
  refine ⟨?_⟩
  intro pins s σ H D I h
  obtain ⟨cl, lH, iR, kJ⟩ := iQ (scope := scope) (env := X.env) fun n hn => I.ok.has n ((B.2.1 _ hn).2.2 rfl)
  rw [exec_Assign_Name_used _ _ _ _ uN]
  refine wpAny_bind (wpAny_standAt (wpAny_bind ?_))
  show wpAny _ X.A (do let _ ← comprehension (.ListComp elt [⟨tg, iter, ifs, 0⟩] scope pos) scope X.env _ (newList []) false (eval iter X.env) (some (assign (.Name y py) X.env))) _ _ s
  refine wpAny_bind (wpAny_mono (wpAny_comprehension_free (use := some (assign (.Name y py) X.env)) (Q := fun _ s' => SP X pins D .next s') rfl hs lH B.1 (fun y hy => (B.2.1 y hy).2.1)
    (wpAny_mono (hi pins s σ H _ I h) (fun xv s1 h1 => wpAny_mono h1 (fun uh s2 h2 => ?_) fun _ _ z => z) fun _ _ z => z)) (fun _ s' hq => wpAny_pure (wpAny_pure hq)) fun _ _ z => z)
  obtain ⟨it, fp, bJ, J, H2, e, I2, T, oW, f2, q2⟩ := h2
  subst e
  refine nG (RR := fun acc C => compPost (model X.prog X.w) X.A X.xe (some (assign (.Name y py) X.env)) (fun _ s' => SP X pins D .next s') acc C) hc B hg ht he I2 T oW f2 iR kJ q2 fun E C m s' H' J2 fC hm q => ?_
  show wpAny _ X.A (assign (.Name y py) X.env (.ref E)) _ _ s'
  refine wpAny_assign_Name (store_ok2 J2 hN jw (.inl hy) (v := .ref E) rfl (fun s3 J3 ⟨a, Ir, ha⟩ => ?_) (.inr hy))
  have jx : C ≠ a := by
    rcases ha with z | z
    · rw [z]; exact fC.2.1
    · exact fun w => fC.2.2.2.2.1 _ _ z w.symm
  exact ⟨m, hm.sameBut Ir jx, fun h' rV => ⟨_, H', fC.turn J3 rV, q⟩⟩
end
noncomputable def Tb (P : Addr) (H : Hp) : Prop := ∃ ps, H P = some (.b0 ps) ∧ TriplesOk ps.toList
section
variable {X : Cx} {pins : List (Addr × Obj)} {σ : St} {H : Hp} {s : Shared} {P : Addr} {ps more : Array Value} {h' : Heap}
theorem Inv.grown (I : Inv X pins σ H s) (hP : H P = some (.b0 ps)) (k : ∀ b o, b ≠ P → s.heap.get? b = some o → h'.get? b = some o) (n : h'.get? P = some { cls := .none, data := .fields (ps ++ more) }) (t' : Nat) :
    Inv X pins σ (upd H P (.b0 (ps ++ more))) { s with heap := h', toks := t' } := by
  have ne : ∀ b u, H b = some u → u ≠ .b0 ps → b ≠ P := fun b u e d => Eg e hP d
  have nn : ∀ b, H b = none → b ≠ P := fun b e z => by rw [z, hP] at e; cases e
  refine I.un ⟨fun b o e q _ _ => k b o (nn b q) e, fun b o e q _ _ => ⟨o.slots, k b o (nn b q) e⟩, fun b o e q _ => by rw [ao (nn b q)]; exact q, fun b o e _ => ?_, fun b xs e => by rw [ao (ne b _ e (by intro z; cases z))]; exact e,
    fun b o u e => by rw [ao (ne b _ e (by intro z; cases z))]; exact e, fun b qs e => ?_⟩ fun b u e => ?_
  · by_cases hb : b = P
    · subst hb; exact ⟨_, n⟩
    · exact ⟨o, k b o hb e⟩
  · by_cases hb : b = P
    · subst hb
      rw [hP] at e; cases e
      exact ⟨more, aB⟩
    · exact ⟨#[], by rw [ao hb, e]; simp⟩
  · by_cases hb : b = P
    · subst hb
      rw [aB] at e; cases e
      exact n
    · rw [ao hb] at e
      refine (I.hok b u e).gH (fun c v hc q => k c v ?_ q) (fun c q => ?_) fun c xs q => ?_
      · rcases hc with z | z
        · rw [z]; exact hb
        · exact ne c _ z (by intro w; cases w)
      · rw [ao (ne c _ q (by intro w; cases w))]; exact q
      · rw [ao (ne c _ q (by intro w; cases w))]; exact q
theorem mD {c : Addr} {pos : Pos} {qn : Str} {scope : Scope} {Q : Value → Shared → Prop} {A : Around} {E : Value → Shared → Prop} (I : Inv X pins σ H s) (hc : X.env.code = .ref c) (hd : PySem.W.CodeHd X.base c P) (hP : H P = some (.b0 ps)) (ht : TriplesOk ps.toList)
    (h : ∀ code iH s', TriplesOk iH.toList → Inv X pins σ (upd H P (.b0 iH)) s' → (∀ b o, b ≠ P → s.heap.get? b = some o → s'.heap.get? b = some o) → s'.gens = s.gens → Q code s') : wpAny (model X.prog X.w) A (genexprCode X.env pos qn scope) Q E s := by
  have F8 : s.heap.get? P = some (PySem.W.tabObj ps) := I.hok P _ hP
  have jn := hd.keeps I.bk
  have ic := jn.code F8 ht
  cases q : codeAmong pos ps.toList with
  | some c' =>
    refine wpAny_genexprCode_hit hc ic q (h c' ps s ht ?_ (fun _ _ _ e => e) rfl)
    have e : upd H P (.b0 ps) = H := by
      funext b
      by_cases hb : b = P
      · subst hb; rw [aB, hP]
      · rw [ao hb]
    rw [e]; exact I
  | none =>
    refine wpAny_genexprCodeX hc ic (jn.tab F8) q fun c' h' tk ex h1 h2 Ki _ ta _ => ?_
    obtain ⟨_, yw⟩ := ta
    have tr : TriplesOk (ps ++ #[rawInt pos.line, rawInt pos.col, Value.ref c']).toList := by
      rw [Array.toList_append]
      exact TriplesOk_snoc _ _ _ _ ht
    exact h _ _ _ tr (I.grown hP (fun b o hb e => ex b o hb e) yw tk) (fun b o hb e => ex b o hb e) rfl
end
noncomputable def fc (s aP : Shared) : Prop := aP.heap = s.heap ∧ aP.os = s.os ∧ Gn s.gens.size aP.gens
theorem Inv.fw {X : Cx} {pins : List (Addr × Obj)} {σ : St} {H : Hp} {s aP : Shared} (I : Inv X pins σ H s) (o : fc s aP) : Inv X pins σ H aP := by
  obtain ⟨h, g, d, t, os⟩ := s
  obtain ⟨h', g', d', t', FX⟩ := aP
  obtain ⟨e1, e2, e3⟩ := o
  cases e1
  cases e2
  exact ⟨I.ok, I.os, I.bare.trans e3, I.base, I.loc, I.cell, I.free, I.freeC, I.pin, I.hok, I.len⟩
section
variable {Y : Cx} {A2 : Around} {tg elt iter : Expr} {ifs : List Expr} {scope : Scope} {pos : Pos} {it : Addr} {fp : List Addr} {bJ : Nat → Heap → Prop} {J : It} {g : TG} {tt : TT} {te : TE} {pp : List (Addr × Obj)} {R : GenEnd} {Yp : Protocol}
noncomputable def wR (J : It) (g : TG) (tt : TT) (te : TE) (stopAt : Bool) (Z : Bool → Hp → Prop) (W : Nat → Nat → St → Hp → Prop) : Prop := ∀ i m τ H, W i m τ H →
  (J.stop i H ∧ Z (!stopAt) H) ∨ (J.go i H ∧ ∀ x H', J.yld i H x H' → g x τ H' fun aw H2 => tt aw H2 fun b H3 => if b = true then te aw H3 fun y H4 => ∃ c, y = .bl c ∧ (if c = stopAt then Z stopAt H4 else ∃ m', m' < m ∧ W (i + 1) m' aw H4) else ∃ m', m' < m ∧ W (i + 1) m' aw H3)
theorem pq (hA : Y.A = A2.over (.compLoop (.GeneratorExp elt [⟨tg, iter, ifs, 0⟩] scope pos) 0 (.ref it) .none Y.env) []) (pv : Y.xe = fun _ _ => False) (hc : Y.calm = true) (ft : Y.env.scope.isCoroutine = false)
    (T : Turn Y.prog Y.w Y.K tg J fp it bJ) (hg : PG Y tg g) (ht : gj Y ifs tt) (he : PE Y elt te) (stat : ∀ {H' : Hp}, (∀ b ∈ fp, H' b = none) → ∀ b ∈ fp, ej Y pp H' b)
    {W : Nat → Nat → St → Hp → Prop} {Z : Bool → Hp → Prop} {stopAt : Bool} (turn : wR J g tt te stopAt Z W)
    (hR : ∀ n s₀ aq τ H, Inv Y pp τ H aq → Z (!stopAt) H → R n s₀ (.ok .next) aq)
    (hY : ∀ n s₀ s eX c τ H, Inv Y pp τ H s → (c = stopAt → Z stopAt H) → (c ≠ stopAt → ∀ aP, fc s aP → eX (.send .none) aP) → Yp n s₀ (.bool c) s eX) :
    ∀ (m n i : Nat) (τ : St) (H : Hp) (s s₀ : Shared), m < n → W i m τ H → Inv Y pp τ H s → bJ i s.heap → (∀ b ∈ fp, H b = none) →
      Seg (model Y.prog Y.w) A2 R Yp n s₀ (.compLoop (.GeneratorExp elt [⟨tg, iter, ifs, 0⟩] scope pos) 0 (.ref it) .none Y.env)
        ((model Y.prog Y.w).den (.compLoop (.GeneratorExp elt [⟨tg, iter, ifs, 0⟩] scope pos) 0 (.ref it) .none Y.env)) [] s := by
  intro m
  induction m using Nat.strongRecOn with
  | ind m ih =>
    intro n i τ H s s₀ Iu w I st fr
    show Seg _ A2 _ _ _ s₀ _ ((compTurn (.GeneratorExp elt [⟨tg, iter, ifs, 0⟩] scope pos) 0 (.ref it) .none Y.env).onRaise (leaving Y.env)) [] s
    rw [compTurn_gen, Sem.onRaise_eq_wrap]
    rcases turn i m τ H w with ⟨stop, qn⟩ | ⟨go, step⟩
    · refine seg_bind_wrap (wpAny_standAt ?_)
      have d := T.done Y rfl rfl rfl hc i pp s τ H (fun _ _ => False) I (stat fr) st stop
      rw [hA] at d
      refine seg_bind_wrap (wpAny_mono d (fun r s1 ⟨hr, I1⟩ => ?_) fun _ _ z => z.elim)
      subst hr
      exact seg_end (.ok .next) (hR _ _ _ _ _ I1 qn)
    · refine seg_bind_wrap (wpAny_standAt ?_)
      have d := T.item Y rfl rfl rfl hc i pp s τ H (fun _ _ => False) I (stat fr) st go
      rw [hA] at d
      refine seg_bind_wrap (wpAny_mono d (fun r s4 ⟨u, hr, h4⟩ => ?_) fun _ _ z => z.elim)
      subst hr
      refine seg_bind_wrap (wpAny_mono h4 (fun _ s5 ⟨x, H5, I5, r5, y5, gK, oX⟩ => ?_) fun _ _ z => z.elim)
      have oY := I5.pinned (stat oX) (T.obj _ _ gK)
      have back : ∀ {kj : St} {H7 : Hp} {s7 : Shared}, Inv Y (pp ++ fS fp s5.heap) kj H7 s7 → bJ (i + 1) s7.heap ∧ ∀ b ∈ fp, H7 b = none := fun {kj H7 s7} I7 => by
        refine ⟨T.keep _ _ _ gK fun b hb o e => (I7.pin (b, o) (List.mem_append_right _ (List.mem_append_right _ (bX hb e)))).1, fun b hb => ?_⟩
        obtain ⟨o, e, d⟩ := T.obj _ _ gK b hb
        exact (I7.pin (b, o) (List.mem_append_right _ (List.mem_append_right _ (bX hb e)))).2.1
      have d2 := hg _ s5 τ H5 x u _ oY r5 (step x H5 y5)
      rw [hA, pv] at d2
      refine seg_bind_wrap (wpAny_mono d2 (fun _ s6 ⟨gO, H6, I6, q6⟩ => ?_) fun _ _ z => z.elim)
      have d3 := ht _ s6 gO H6 _ I6 q6
      rw [hA, pv] at d3
      refine seg_bind_wrap (wpAny_mono d3 (fun ok s7 ⟨H7, I7, q7⟩ => ?_) fun _ _ z => z.elim)
      have hy : ∀ v, yieldOut Y.env v = yieldValue v := fun v => by simp only [yieldOut, ft, Bool.false_eq_true, if_false]
      cases ok with
      | false =>
        simp only [Bool.false_eq_true, if_false] at q7 ⊢
        obtain ⟨m', ju, w7⟩ := q7
        exact seg_again rfl (ih m' ju n (i + 1) gO H7 s7 s₀ (by omega) w7 I7.bI (back I7).1 (back I7).2)
      | true =>
        simp only [if_true] at q7 ⊢
        simp only [hy]
        rw [Sem.bind_eq_wrap', Sem.bind_eq_wrap', Sem.wrap_wrap, Sem.wrap_wrap]
        have d4 := he _ s7 gO H7 _ I7 q7
        rw [hA, pv] at d4
        refine seg_wrap (wpAny_mono d4 (fun yv s8 ⟨y, H8, I8, r8, q8⟩ => ?_) fun _ _ z => z.elim)
        obtain ⟨c, ey, q8⟩ := q8
        subst ey
        cases (show yv = Value.bool c from r8)
        obtain ⟨n, rfl⟩ : ∃ n', n = n' + 1 := ⟨n - 1, by omega⟩
        refine seg_at (seg_yield rfl rfl rfl (hY _ _ _ _ c gO H8 I8.bI (fun e => by rw [if_pos e] at q8; exact q8) fun e aP ok => ?_))
        rw [if_neg e] at q8
        obtain ⟨m', ju, w8⟩ := q8
        have I9 := I8.fw ok
        exact seg_again rfl (ih m' ju n (i + 1) gO H8 aP aP (by omega) w8 I9.bI (back I9).1 (back I9).2)
end
noncomputable abbrev cf (elt tg iter : Expr) (ifs : List Expr) (scope : Scope) (pos : Pos) : Expr := .GeneratorExp elt [⟨tg, iter, ifs, 0⟩] scope pos
noncomputable abbrev BZ (X : Cx) (N' : List Str) (scope : Scope) (cl : List (Str × Addr)) (C : Addr) (code : Value) (A' : Around) (s : Shared) (H : Hp) (fp : List Addr) : Cx :=
  cxBlock X N' (genEnv scope cl C code builtinsNs X.env) A' (genEnv scope cl C code builtinsNs X.env :: X.stack) s H fp
noncomputable abbrev cg (X : Cx) (N' : List Str) (scope : Scope) (k : Nat) (P : Cx → Prop) : Prop := ∀ (cl : List (Str × Addr)) (C : Addr) (code : Value) (A' : Around) (s : Shared) (H : Hp) (fp : List Addr), bu k A' → P (BZ X N' scope cl C code A' s H fp)
structure pw (X : Cx) (pins : List (Addr × Obj)) (σ : St) (N' : List Str) (scope : Scope) (tn : Nat) (idx : List Nat) (k : Nat) (elt tg iter : Expr) (ifs : List Expr) (pos : Pos) (J : It) (H3 : Hp) (a : Addr) (s5 : Shared)
    (Y : Cx) (it : Addr) (fp : List Addr) (bJ : Nat → Heap → Prop) (g : Nat) (pp : List (Addr × Obj)) : Prop where
  inv : Inv Y pp (bA tn idx σ) H3 s5
  isg : ∀ {τ : St} {H' : Hp} {s' : Shared}, Inv Y pp τ H' s' → s'.heap.IsGen a g
  st : s5.gens[g]? = some (.fresh (.compStart (cf elt tg iter ifs scope pos) 0 (.ref it) .none Y.env))
  T : Turn Y.prog Y.w Y.K tg J fp it bJ
  tn0 : bJ 0 s5.heap
  fr : ∀ b ∈ fp, H3 b = none
  stat : ∀ {H' : Hp}, (∀ b ∈ fp, H' b = none) → ∀ b ∈ fp, ej Y pp H' b
  out : ∀ {τ : St} {H' : Hp} {s' : Shared}, Inv Y pp τ H' s' → Inv X pins σ H' s'
  A : Y.A = X.A.in4.in1.over (.compLoop (cf elt tg iter ifs scope pos) 0 (.ref it) .none Y.env) []
  xe : Y.xe = fun _ _ => False
  calm : Y.calm = true
  co : Y.env.scope.isCoroutine = false
  gsz : ∀ {τ : St} {H' : Hp} {s' : Shared}, Inv Y pp τ H' s' → g < s'.gens.size
  blk : ∀ P : Cx → Prop, cg X N' scope k P → P Y
  prog : Y.prog = X.prog
  w : Y.w = X.w
section
variable {X : Cx} {tg elt iter : Expr} {ifs : List Expr} {scope : Scope} {pos : Pos} {N' : List Str} {tn : Nat} {idx : List Nat} {wi : TI} {g : TG} {tt : TT} {te : TE} {c P : Addr} {k : Nat}
noncomputable def uO (P : Addr) (wi : TI) (R : It → Hp → Prop) : St → Hp → Prop := fun σ H => wi σ H fun J H1 => Tb P H1 ∧ ∀ ps, TriplesOk ps.toList → R J (upd H1 P (.b0 ps))
theorem kN {pins : List (Addr × Obj)} {s : Shared} {σ : St} {H : Hp} {QQ : Value → Shared → Prop} {R : It → Hp → Prop} (hr : bu (k + 1) X.A) (hc : X.calm = true) (B : aG X.N X.env.scope scope N' tn idx)
    (h0 : scope.names.lookup (".0" : Str) = some .local) (ft : scope.isCoroutine = false) (dW : X.env.code = .ref c) (hd : PySem.W.CodeHd X.base c P) (cu : ∃ bm ob, BMod X.base mainGlobals X.mg bm ob)
    (hi : PI X tg iter wi) (hs : ∀ x, genFold iter X.env x = pure x) (I : Inv X pins σ H s) (h : uO P wi R σ H)
    (q : ∀ J H3 a s5 Y it fp bJ gn pp, pw X pins σ N' scope tn idx k elt tg iter ifs pos J H3 a s5 Y it fp bJ gn pp → R J H3 → QQ (.ref a) s5) :
    wpAny (model X.prog X.w) X.A (eval (cf elt tg iter ifs scope pos) X.env) QQ X.xe s := by
  obtain ⟨cl, lH, iR, kJ⟩ := iQ (scope := scope) (env := X.env) fun n hn => I.ok.has n ((B.2.1 _ hn).2.2 rfl)
  refine wpAny_GeneratorExp_make ft lH (fun y hy => (B.2.1 y hy).1) h0 B.1 hr.depth (thn (hi pins s σ H _ I h) fun xv s1 h1 => thn h1 fun uh s2 h2 => ?_) hs
  obtain ⟨it, fp, bJ, J, H2, e, I2, T, oW, f2, ⟨ps, hP, Iv⟩, q2⟩ := h2
  subst e
  refine ⟨I2.nolimit, mD I2 dW hd hP Iv fun code iH s3 Iw I3 kp Kj => ?_⟩
  obtain ⟨bm, ob, bmod⟩ := cu
  have px := bmod.keeps I3.bk
  refine wpAny_builtinsFor (by rw [I3.ok.glob]; exact px.ns) px.name px.ne px.obj px.cls px.dict px.data ?_
  intro h' g7 rV
  have F9 : ∀ b ∈ fp, b ≠ P := fun b hb z => by have := (f2 b hb).1; rw [z, hP] at this; cases this
  have nh : bJ 0 s3.heap := T.keep _ _ _ oW fun b hb o e => kp b o (F9 b hb) e
  have pj : ∀ b ∈ fp, b < s3.heap.objs.size := fun b hb => let ⟨o, e, _⟩ := T.obj _ _ nh b hb; Heap.lt_size e
  have f3 : ∀ b ∈ fp, ej X pins (upd H2 P (.b0 iH)) b := fun b hb => ⟨by rw [ao (F9 b hb)]; exact (f2 b hb).1, (f2 b hb).2⟩
  have cY : h'.objs.size = s3.heap.objs.size + 1 := by rw [rV.1, Heap.size_push]
  have EI : ∀ b o, s3.heap.get? b = some o → h'.get? b = some o := fun b o e => rV.extBut b o (Nat.ne_of_lt (Heap.lt_size e)) (Heap.get?_push_of_some _ e)
  have Ga : Gn s3.gens.size (s3.gens.push (.fresh (.compStart (cf elt tg iter ifs scope pos) 0 (.ref it) .none (genEnv scope cl s3.heap.objs.size code builtinsNs X.env)))) := ⟨AllBare.push I3.bare.1 rfl, by rw [Array.size_push]; exact Nat.le_succ _⟩
  have Gb : Inv X pins σ (upd H2 P (.b0 iH)) { s3 with gens := s3.gens.push (.fresh (.compStart (cf elt tg iter ifs scope pos) 0 (.ref it) .none (genEnv scope cl s3.heap.objs.size code builtinsNs X.env))) } := I3.fw ⟨rfl, rfl, Ga⟩
  have hA : (X.A.in4.in1.over (.compLoop (cf elt tg iter ifs scope pos) 0 (.ref it) .none (genEnv scope cl s3.heap.objs.size code builtinsNs X.env)) []).frames = some (genEnv scope cl s3.heap.objs.size code builtinsNs X.env :: X.stack) := by
    show pushEnvs [_] (pushEnvs [] X.A.frames) = _
    rw [I.ok.frames]; rfl
  have EJ : bu k (X.A.in4.in1.over (.compLoop (cf elt tg iter ifs scope pos) 0 (.ref it) .none (genEnv scope cl s3.heap.objs.size code builtinsNs X.env)) []) := by
    refine ⟨hr.hd, ?_, ?_⟩
    · show X.A.depth + 0 + 1 + 3 * k + 5 < recursionLimit
      have := hr.dp
      omega
    · show X.A.units + 1 + 1 + 1 + 1 + 1 + 0 + 3 + 16 * k + 200 < cLine
      have := hr.un
      omega
  generalize jy : ({ cls := .type "generator", data := .fields #[.int s3.gens.size 0, .str "<genexpr>" (s3.toks + 1), .str (X.env.qual ++ "<genexpr>") (s3.toks + 1 + 1)] } : Obj) = km
  have oI : ∀ b o, s3.heap.get? b = some o → (h'.push km).get? b = some o := fun b o e => Heap.get?_push_of_some _ (EI b o e)
  have Ht : km.isFreed = false := by rw [← jy]; rfl
  have Iy : (h'.push km).get? h'.objs.size = some km := Heap.get?_push_size _ Ht
  have Iz : h'.objs.size ≠ s3.heap.objs.size := by rw [cY]; exact Nat.succ_ne_self _
  have IA : upd H2 P (.b0 iH) h'.objs.size = none := I3.hok.fresh (by rw [cY]; exact Nat.le_succ _)
  have I5 := nF (X := X) (N' := N') (A' := X.A.in4.in1.over (.compLoop (cf elt tg iter ifs scope pos) 0 (.ref it) .none (genEnv scope cl s3.heap.objs.size code builtinsNs X.env)) []) (env' := genEnv scope cl s3.heap.objs.size code builtinsNs X.env) (stack' := genEnv scope cl s3.heap.objs.size code builtinsNs X.env :: X.stack) (ex := fp) (h1 := h'.push km) (m0 := fun y => if y = ".0" then some (.ref it) else none)
    (g' := s3.gens.push (.fresh (.compStart (cf elt tg iter ifs scope pos) 0 (.ref it) .none (genEnv scope cl s3.heap.objs.size code builtinsNs X.env)))) (tk := s3.toks + 1 + 1 + 1) (aF := bA tn idx σ) Gb B.1 rfl I3.ok.blt.symm iR (fun x hx => by
      have nI : scope.names.lookup x = some .cell ∨ scope.names.lookup x = some .free := hx
      rcases nI with z | z
      · exact absurd rfl ((B.2.1 _ (PySem.mem_of_lookup z)).1)
      · exact kJ x (PySem.mem_of_lookup z)) (fun z => I.ok.hd z) hA (.inr ⟨rfl, rfl⟩) (Nat.le_refl _) f3 pj (Un.kept oI) (I3.hok.kept oI) (I3.hok.fresh (Nat.le_refl _)) oI (g7.push _) (fun i x v e1 e2 e3 => by
      obtain ⟨fr, j, e4, e5⟩ := B.at e1 e2
      have kx := (B.2.1 _ (PySem.mem_of_lookup fr)).2.2 rfl
      exact ⟨.inr fr, .inr kx, kx, j, e4, e5⟩) (B.len σ) (Gn.self Ga)
  have IB : h'.objs.size ∉ eh X.stack := fun z => by
    rcases List.mem_cons.mp (I3.gJ _ z) with q | q
    · exact Nat.ne_of_gt (Nat.lt_of_lt_of_le I3.lt (by rw [cY]; exact Nat.le_succ _)) q
    · exact I3.AB (by rw [cY]; exact Nat.le_succ _) q
  have oC : ∀ v, km.data ≠ .cell v := by rw [← jy]; intro v z; cases z
  have I6 := I5.mr (pins' := [(h'.objs.size, km)]) (fun p hp => by
    rcases List.mem_singleton.mp hp with rfl
    exact ⟨Iy, IA, Iz, IB, oC⟩)
  refine q J _ _ _ (BZ X N' scope cl s3.heap.objs.size code _ _ _ fp) it fp bJ s3.gens.size [(h'.objs.size, km)] ⟨I6, fun {τ H' s'} J' => ?_, ?_, T, T.keep _ _ _ nh fun b _ o e => oI b o e, fun b hb => (f3 b hb).1, fun {H'} hn b hb => ?_, fun {τ H' s'} J' => ?_, rfl, rfl, hc, ft, fun {τ H' s'} J' => ?_, fun Pp hb => hb cl _ code _ _ _ fp EJ, rfl, rfl⟩ (q2 iH Iw)
  · have := (J'.pin (h'.objs.size, km) (List.mem_append_right _ (List.mem_singleton.mpr rfl))).1
    exact ⟨km, _, _, this, by rw [← jy], by rw [← jy], by rw [← jy]⟩
  · exact Array.getElem?_push_size ..
  · refine ⟨hn b hb, Nat.ne_of_lt (pj b hb), fun z => ?_, .inl hb, fun x c e => (f2 b hb).2.2.2.2.1 x c (iR x c e), fun p hp z => ?_⟩
    · rcases List.mem_cons.mp (I2.gJ b z) with q | q
      · exact (f2 b hb).2.1 q
      · exact (f2 b hb).2.2.1 q
    · rcases List.mem_singleton.mp hp with rfl
      have z' : h'.objs.size = b := z
      have := pj b hb
      rw [← z', cY] at this
      exact absurd this (Nat.not_lt.mpr (Nat.le_succ _))
  · exact Gb.oB J'.os J'.base J'.hok J'.bare fun b hb => ⟨(f3 b hb).2.2.2.1, (f3 b hb).2.1, (f3 b hb).2.2.2.2.1, (f3 b hb).2.2.2.2.2⟩
  · have := J'.bare.2
    have e : (BZ X N' scope cl s3.heap.objs.size code (X.A.in4.in1.over (.compLoop (cf elt tg iter ifs scope pos) 0 (.ref it) .none (genEnv scope cl s3.heap.objs.size code builtinsNs X.env)) []) { s3 with gens := s3.gens.push (.fresh (.compStart (cf elt tg iter ifs scope pos) 0 (.ref it) .none (genEnv scope cl s3.heap.objs.size code builtinsNs X.env))) } (upd H2 P (.b0 iH)) fp).s₀.gens.size = s3.gens.size + 1 := by
      show (s3.gens.push _).size = _
      rw [Array.size_push]
    rw [e] at this
    omega
theorem wU {prog : Program} {w : World} {A : Around} {a : Addr} {R' : Result → Shared → Prop} (In : Nat → Shared → Prop)
    (turn : ∀ n s, In n s → wpAny (model prog w) A.in1 (pyNext (.ref a)) (fun r s1 => match r with
      | none => R' (.ok (.ret (.bool true))) s1
      | some v => ∃ c, v = .bool c ∧ if c = true then ∃ m, m < n ∧ In m s1 else R' (.ok (.ret (.bool false))) s1) (fun e s' => R' (.error e) s') s) :
    ∀ (n : Nat) (s : Shared), In n s → codeAny (model prog w) A (.builtin "all.loop" ⟨[.ref a], []⟩) R' s := by
  intro n
  induction n using Nat.strongRecOn with
  | ind n ih =>
    intro s h
    refine codeAny_builtin F.entry_all_loop ?_
    rw [Around.under_plainId F.plain_all_loop _]
    show wpAny _ A.in1 (pyNext (.ref a) >>= _) _ _ s
    refine wpAny_bind (wpAny_mono (turn n s h) (fun r s1 q => ?_) fun _ _ z => z)
    cases r with
    | none => exact wpAny_bind (wpAny_rule (wpAny_pure q))
    | some v =>
      obtain ⟨c, e, q⟩ := q
      subst e
      refine wpAny_bind (wpAny_holding (wpAny_truthy_bool ?_))
      refine wpAny_bind (wpAny_letGo ?_)
      cases c with
      | true =>
        simp only [if_true] at q ⊢
        obtain ⟨m, hm, hI⟩ := q
        exact wpAny_pure ⟨plainId_quiet F.plain_all_loop _, ih m hm s1 hI⟩
      | false =>
        simp only [Bool.false_eq_true, if_false] at q ⊢
        exact wpAny_bind (wpAny_rule (wpAny_pure q))
theorem cK {s : Shared} {g : Nat} {x : GenState} {n : Nat} (h : Gn n s.gens) (hx : x.bare = true) : Gn s.gens.size (s.setGen g x).gens := by
  refine ⟨fun y hy => ?_, ?_⟩
  · have IC : y ∈ s.gens.setIfInBounds g x := hy
    rcases Array.mem_or_eq_of_mem_setIfInBounds IC with z | z
    · exact h.1 y z
    · rw [z]; exact hx
  · show s.gens.size ≤ (s.gens.setIfInBounds g x).size
    rw [Array.size_setIfInBounds]
    exact Nat.le_refl _
theorem jz {s : Shared} {g : Nat} {x : GenState} (h : g < s.gens.size) : (s.setGen g x).gens[g]? = some x := by
  show (s.gens.setIfInBounds g x)[g]? = _
  rw [Array.getElem?_setIfInBounds_self]
  simp [h]
theorem jA {Y : Cx} {A2 : Around} {R : GenEnd} {Yp : Protocol} {n : Nat} {s₀ s : Shared} {it : Addr} {J : It} {fp : List Addr} {bJ : Nat → Heap → Prop} (T : Turn Y.prog Y.w Y.K tg J fp it bJ) {i : Nat} (st : bJ i s.heap)
    (loop : Seg (model Y.prog Y.w) A2 R Yp n s₀ (.compLoop (cf elt tg iter ifs scope pos) 0 (.ref it) .none Y.env) ((model Y.prog Y.w).den (.compLoop (cf elt tg iter ifs scope pos) 0 (.ref it) .none Y.env)) [] s) :
    Seg (model Y.prog Y.w) A2 R Yp n s₀ (.compStart (cf elt tg iter ifs scope pos) 0 (.ref it) .none Y.env) ((model Y.prog Y.w).den (.compStart (cf elt tg iter ifs scope pos) 0 (.ref it) .none Y.env)) [] s := by
  show Seg _ A2 _ _ _ s₀ _ ((compStart (cf elt tg iter ifs scope pos) 0 (.ref it) .none Y.env).onRaise (leaving Y.env)) [] s
  unfold compStart
  rw [Sem.onRaise_eq_wrap]
  show Seg _ A2 _ _ _ s₀ _ ((ask >>= _).wrap _ _ _ _) [] s
  refine seg_bind_wrap (wpAny_askSetting ?_)
  split
  · exact seg_again rfl loop
  · first
      | exact seg_bind_wrap (wpAny_rule (seg_bind_wrap (wpAny_standAt (seg_bind_wrap (T.self _ i s _ _ st (seg_again rfl loop))))))
      | (refine seg_bind_wrap (wpAny_rule ?_); show Seg _ A2 _ _ _ s₀ _ ((standAt iter.pos >>= _).wrap _ _ _ _) [] s; exact seg_bind_wrap (wpAny_standAt (seg_bind_wrap (T.self _ i s _ _ st (seg_again rfl loop)))))
noncomputable def B1 (P : Addr) (tn : Nat) (idx : List Nat) (wi : TI) (g : TG) (tt : TT) (te : TE) : TE := fun σ H Q => uO P wi (fun J H1 => ∃ W : Nat → Nat → St → Hp → Prop, (∃ m, W 0 m (bA tn idx σ) H1) ∧ wR J g tt te false (fun b H2 => Q (.bl b) H2) W) σ H
theorem B2 {p eo : Pos} (hr : bu (k + 1) X.A) (hc : X.calm = true) (B : aG X.N X.env.scope scope N' tn idx)
    (h0 : scope.names.lookup (".0" : Str) = some .local) (ft : scope.isCoroutine = false) (dW : X.env.code = .ref c) (hd : PySem.W.CodeHd X.base c P) (cu : ∃ bm ob, BMod X.base mainGlobals X.mg bm ob)
    (jB : Gl X "all") (hm : X.mg "all" = none) (hi : PI X tg iter wi) (hg : cg X N' scope k fun Y => PG Y tg g) (ht : cg X N' scope k fun Y => gj Y ifs tt) (he : cg X N' scope k fun Y => PE Y elt te)
    (hs : ∀ x, genFold iter X.env x = pure x := by intro _; rfl) : PE X (.Call (.Name "all" p) [cf elt tg iter ifs scope eo] [] pos) (B1 P tn idx wi g tt te) := by
  refine ⟨?_⟩
  intro pins s σ H Q I h
  refine wpAny_Call_Name_kw (e7 I jB hm PyProof.Rows.boot_all ?_)
  refine PyProof.Rows.callWith_builtin1 ?_ rfl rfl
  show wpAny _ _ (spliced ((false, eval (cf elt tg iter ifs scope eo) X.env) :: [])) _ _ s
  refine Calls.spliced_cons (kN hr hc B h0 ft dW hd cu hi hs I h ?_)
  intro J H3 a s5 Y it fp bJ gn pp G ⟨W, ⟨m0, w0⟩, turn⟩
  refine Calls.spliced_nil ?_
  refine call_function_tree F.kind_all F.plain_all F.entry_all (F.args_all1 _) ?_
  unfold Builtin.«all»
  refine wpAny_bind (m := oneArg "all" _) (wpAny_pure ?_)
  refine wpAny_bind (wpAny_pyIter_gen (G.isg G.inv) ?_)
  refine wpAny_pure ⟨plainId_quiet F.plain_all_loop _, ?_⟩
  have kO := pq (A2 := X.A.in4.in1) (pp := pp) (R := fun n s₀ r aq => r = .ok .next ∧ ∃ τ H, Inv Y pp τ H aq ∧ Q (.bl true) H)
    (Yp := fun n s₀ v s eX => ∃ c τ H, v = .bool c ∧ Inv Y pp τ H s ∧ (c = false → Q (.bl false) H) ∧ (c ≠ false → ∀ aP, fc s aP → eX (.send .none) aP)) G.A G.xe G.calm G.co G.T (G.blk _ hg) (G.blk _ ht) (G.blk _ he) G.stat turn
    (fun n s₀ aq τ H J z => ⟨rfl, τ, H, J, z⟩) (fun n s₀ s eX c τ H J z1 z2 => ⟨c, τ, H, rfl, J, z1, z2⟩)
  have hP := G.prog
  have hW := G.w
  rw [hP, hW] at kO
  refine wU (A := X.A) (fun n s => (∃ τ H, Inv Y pp τ H s) ∧ ∃ gs, s.gens[gn]? = some gs ∧ ∀ aP, fc s aP → gs.Goes (model X.prog X.w) X.A.in4.in1 (fun n s₀ r aq => r = .ok .next ∧ ∃ τ H, Inv Y pp τ H aq ∧ Q (.bl true) H)
    (fun n s₀ v s eX => ∃ c τ H, v = .bool c ∧ Inv Y pp τ H s ∧ (c = false → Q (.bl false) H) ∧ (c ≠ false → ∀ aP, fc s aP → eX (.send .none) aP)) n (.send .none) aP) ?_ (m0 + 1) s5 ?_
  · rintro n s6 ⟨⟨τ, H6, I6⟩, gs, uP, jy⟩
    have Hu := G.gsz I6
    refine wpAny_of_in1 (wpAny_of_in1 (wpAny_of_in1 ?_))
    show wpAny (model X.prog X.w) X.A.in4 (pyNext (.ref a)) _ _ s6
    refine wpAny_pyNext_genexpQ (A := X.A.in4) (P := fun n s₀ aq => ∃ τ H, Inv Y pp τ H aq ∧ Q (.bl true) H) hr.hd I6.nolimit hr.depth (G.isg I6) uP (jy _ ⟨rfl, rfl, cK I6.bare rfl⟩) (fun v s1 nJ hb hv => ?_) (fun s1 hp h' hk => ?_)
    · obtain ⟨c, lK, H1, e, I1, z1, z2⟩ := hv
      subst e
      refine ⟨c, rfl, ?_⟩
      have jC : fc s1 (s1.setGen gn nJ) := ⟨rfl, rfl, cK I1.bare hb⟩
      cases c with
      | false =>
        rw [if_neg Bool.false_ne_true]
        exact ⟨.bl false, H1, G.out (I1.fw jC), rfl, z1 rfl⟩
      | true =>
        rw [if_pos rfl]
        have z3 := z2 (by decide)
        cases n with
        | zero => exact (z3 s1 ⟨rfl, rfl, I1.bare.self⟩).elim
        | succ m =>
          refine ⟨m, Nat.lt_succ_self _, ⟨lK, H1, I1.fw jC⟩, nJ, jz (G.gsz I1), fun aP o => z3 aP ⟨o.1, o.2.1, ?_⟩⟩
          exact jC.2.2.trans o.2.2
    · obtain ⟨lK, H1, I1, z1⟩ := hp
      have I2 := I1.kept (t' := s1.toks) hk
      have uQ : fc { s1 with heap := h' } { s1.setGen gn .finished with heap := h' } := ⟨rfl, rfl, cK (s := s1) I1.bare rfl⟩
      exact ⟨.bl true, H1, G.out (I2.fw uQ), rfl, z1⟩
  · refine ⟨⟨_, _, G.inv⟩, _, G.st, fun aP o => ⟨rfl, ?_⟩⟩
    have I7 := G.inv.fw o
    have nK : bJ 0 aP.heap := by rw [o.1]; exact G.tn0
    have q := jA (iter := iter) (ifs := ifs) (scope := scope) (pos := eo) (elt := elt) G.T nK (by rw [hP, hW]; exact kO m0 (m0 + 1) 0 _ _ aP aP (Nat.lt_succ_self _) w0 I7 nK G.fr)
    rw [hP, hW] at q
    exact q
end
noncomputable def uR (x : Str) : It := ⟨fun i _ => i < x.length, fun i H v H' => H' = H ∧ ∃ c, x.cps[i]? = some c ∧ v = .str ⟨#[c]⟩, fun i _ => x.length ≤ i⟩
theorem pz {P : Program} {w : World} {K : PySem.W.Frag} {tg : Expr} (it : Addr) (x : Str) (t : Tok) (ty : String) (o8 : ["enumerate", "zip", "dict_itemiterator", "dict_reverseitemiterator", "odict_iterator", "itertools.zip_longest", "itertools.pairwise"].contains ty = false)
    (W : ∀ A : Around, A.handled = none → Walks P w A it [it] [it] x.cps.size (SignAt x) (fun i h => h.IsStrIter it ty x t i))
    (self : ∀ (A : Around) (i : Nat) (s : Shared) (Q : Value → Shared → Prop) (E : Value → Shared → Prop), s.heap.IsStrIter it ty x t i → Q (.ref it) s → wpAny (model P w) A (pyIter (.ref it)) Q E s) :
    Turn P w K tg (uR x) [it] it (fun i h => h.IsStrIter it ty x t i ∧ i ≤ x.length) where
  mem := by simp
  obj := fun i h st b hb => by
    have e : b = it := by simpa using hb
    subst e
    obtain ⟨⟨o, ho, _, hd⟩, _⟩ := st
    exact ⟨o, ho, fun v z => by rw [hd] at z; cases z⟩
  keep := fun i h h' st k => ⟨let ⟨o, ho, r⟩ := st.1; ⟨o, k it (by simp) o ho, r⟩, st.2⟩
  item := by
    intro X hP hw hK hc i pins s σ H E I hf st hg
    subst hP hw hK
    obtain ⟨f0, f1, f2, f3, f4, f5⟩ := hf it (by simp)
    have Gd : i < x.cps.size := hg
    refine (W X.A (I.ok.hd hc)).item i s _ _ Gd st.1 fun v h' tk hv jo kk => ?_
    obtain ⟨c, u, IE, rfl⟩ := hv
    have I1 : Inv X pins σ H { s with heap := h', toks := tk } := I.turned (fun b o hb e => kk b o (by simpa using hb) e) f0 f1 f3 f4 f5
    obtain ⟨o, ho, ki, hd⟩ := id jo
    exact ⟨_, rfl, oE (s := { s with heap := h', toks := tk }) (n := ty) ho ki hd o8 ⟨.str ⟨#[c]⟩, H, I1, ⟨u, rfl⟩, ⟨rfl, c, IE, rfl⟩, ⟨jo, Gd⟩, fun b hb => (hf b hb).1⟩⟩
  done := by
    intro X hP hw hK hc i pins s σ H E I hf st hg
    subst hP hw hK
    obtain ⟨f0, f1, f2, f3, f4, f5⟩ := hf it (by simp)
    have e : i = x.cps.size := Nat.le_antisymm st.2 hg
    subst e
    exact (W X.A (I.ok.hd hc)).done s _ _ st.1 fun h' tk kk => ⟨rfl, I.turned (fun b o hb e => kk b o (by simpa using hb) e) f0 f1 f3 f4 f5⟩
  self := fun A i s Q E st h => self A i s Q E st.1 h
section
variable {X : Cx} {tg l : Expr} {tl : TE}
noncomputable def Hv (tl : TE) : TI := fun σ H R => tl σ H fun x H1 => ∃ z, x = .str z ∧ R (uR z) H1
theorem B3 (hl : PE X l tl) : PI X tg l (Hv tl) := by
  intro pins s σ H R I h
  refine thn (hl pins s σ H _ I h) fun v s1 ⟨y, H1, I1, r1, q1⟩ => ?_
  obtain ⟨z, rfl, q⟩ := q1
  obtain ⟨t, rfl⟩ := r1
  have fin : ∀ (o : Obj) (ty : String), (∀ v, o.data ≠ .cell v) → (s1.heap.push o).IsStrIter s1.heap.objs.size ty z t 0 → Turn X.prog X.w X.K tg (uR z) [s1.heap.objs.size] s1.heap.objs.size (fun i h => h.IsStrIter s1.heap.objs.size ty z t i ∧ i ≤ z.length) → A7 X pins σ tg R (.ref s1.heap.objs.size) { s1 with heap := s1.heap.push o } := fun o ty hd hit T =>
    ⟨_, [s1.heap.objs.size], _, uR z, H1, rfl, I1.kept (t' := s1.toks) (fun b u e => Heap.get?_push_of_some _ e), T, ⟨hit, Nat.zero_le _⟩, fun b hb => by
      have e : b = s1.heap.objs.size := by simpa using hb
      subst e
      exact I1.oV (Nat.le_refl _) (I1.hok.fresh (Nat.le_refl _)), q⟩
  cases ha : z.cps.all (· < 128)
  · exact wpAny_pyIter_wide ha (fin _ "str_iterator" (fun v e => by cases e) ⟨_, Heap.get?_push_size _ rfl, rfl, rfl⟩ (pz _ z t _ (by decide) (fun A' hA => Walks.strWide hA _ z t) fun A i s Q E st h => wpAny_pyIter_striter_wide st h))
  · exact wpAny_pyIter_ascii ha (fin _ "str_ascii_iterator" (fun v e => by cases e) ⟨_, Heap.get?_push_size _ rfl, rfl, rfl⟩ (pz _ z t _ (by decide) (fun A' hA => Walks.strAscii hA _ z t) fun A i s Q E st h => wpAny_pyIter_striter_ascii st h))
theorem bO {xs : List V} {us : List Value} (r : Vals xs us) {j : Nat} (h : j < us.toArray.size) : RelV (xs.getD j .aj) us.toArray[j] := by
  have hl := r.length
  have hj : j < xs.length := by simpa [hl] using h
  obtain ⟨u, e, q⟩ := r.get (i := j) (x := xs[j]) (List.getElem?_eq_getElem hj)
  have e2 : us.toArray[j] = u := by
    rw [List.getElem?_eq_some_iff] at e
    obtain ⟨h', e⟩ := e
    simpa using e
  rw [e2, List.getD_eq_getElem?_getD, List.getElem?_eq_getElem hj]
  exact q
theorem qR : cJ X (.builtin "isinstance") (fun xs H Q => ∃ x T t b, xs = [x, .ty T] ∧ eO X.K H x t ∧ PySem.W.kitOne X.K t (.type T) = some b ∧ Q (.bl b) H) := by
  intro pins s σ H xs us Q I r h
  obtain ⟨x, T, t, b, rfl, ty, e, q⟩ := h
  obtain ⟨u, w', rfl, r1, r2⟩ := vals2 r
  cases (show w' = Value.type T from r2)
  exact uy I r1 ty e fun tk => ⟨.bl b, H, I.tok tk, rfl, q⟩
theorem kn : ∀ {xs : List V} {us : List Value}, xs.length = us.length → (∀ (i : Nat) (v : V), xs[i]? = some v → ∃ u, us[i]? = some u ∧ RelV v u) → Vals xs us
  | [], [], _, _ => .nil
  | [], _ :: _, h, _ => by simp at h
  | _ :: _, [], h, _ => by simp at h
  | x :: xs, u :: us, h, g => by
    obtain ⟨u', e, r⟩ := g 0 x rfl
    have e' : u = u' := by simpa using e
    subst e'
    exact .cons r (kn (by simpa using h) fun i v hv => by
      obtain ⟨w, e2, r2⟩ := g (i + 1) v (by simpa using hv)
      exact ⟨w, by simpa using e2, r2⟩)
theorem pA {e : Expr} {te : TE} {p p1 p2 pos : Pos} (hc : X.calm = true) (hg : Gl X "list") (hm : X.mg "list" = none) (B4 : Gl X "range") (B5 : X.mg "range" = none) (he : PE X e te) (hs : starEach [e] X.env = [(false, eval e X.env)] := by rfl) :
    PE X (.Call (.Name "list" p) [.Call (.Name "range" p1) [e] [] p2] [] pos) (fun σ H Q => te σ H fun x H1 => ∃ j : Int, x = .int j ∧ -(2 ^ 24) ≤ j ∧ j ≤ 2 ^ 24 ∧ ∀ l, H1 l = none → Q (.ref l) (upd H1 l (.lst ((List.range j.toNat).map fun i => V.int (i : Nat))))) := by
  refine ⟨?_⟩
  intro pins s σ H Q I h
  refine wpAny_Call_Name_kw (e7 I hg hm (by decide +kernel : bootBuiltins "list" = some (.type "list")) ?_)
  refine PyProof.Rows.callWith_type1 ?_ rfl rfl
  show wpAny _ _ (spliced ((false, eval (.Call (.Name "range" p1) [e] [] p2) X.env) :: [])) _ _ s
  refine Calls.spliced_cons ?_
  refine Call_ (e7 I B4 B5 boot_range (PyProof.Rows.callWith_type1 ?_ hs rfl))
  rw [hs]
  refine Calls.spliced_cons (thn (he pins s σ H _ I h) fun v s1 ⟨x, H1, I1, r1, q1⟩ => Calls.spliced_nil ?_)
  obtain ⟨j, rfl, b1, b2, q⟩ := q1
  obtain ⟨t, rfl⟩ := r1
  refine call_range_1 ?_
  refine Calls.spliced_nil ?_
  refine call_list_range (n := j.toNat) (I1.ok.hd hc) (IsRange.new ..) (small_one (by omega) (by omega) (by omega) (by omega)) (by rw [PyProof.Rows.rangeSize_nat]; simp) (by omega) fun h' tk gP c' hk hS hit => ?_
  have I2 : Inv X pins σ H1 { s1 with heap := s1.heap.push { cls := .type "range", data := .fields #[.int 0 s1.toks, .int j t, .int 1 (s1.toks + 1)] }, toks := s1.toks + 1 + 1 } := I1.kept fun b o e => Heap.get?_push_of_some _ e
  obtain ⟨cY, pB⟩ := hit
  have rv : Vals ((List.range j.toNat).map fun i => V.int (i : Nat)) gP.toList := by
    refine kn (by simpa using cY.symm) fun i v e => ?_
    rw [List.getElem?_map] at e
    cases q2 : (List.range j.toNat)[i]? with
    | none => rw [q2] at e; cases e
    | some k =>
      rw [q2] at e
      have ek : k = i := by
        obtain ⟨_, e3⟩ := List.getElem?_eq_some_iff.mp q2
        simpa using e3.symm
      have hi : i < gP.size := by
        have := (List.getElem?_eq_some_iff.mp q2).1
        rw [List.length_range] at this
        omega
      obtain ⟨t2, e4⟩ := pB i gP[i] (by simp [hi])
      refine ⟨gP[i], by simp [hi], ?_⟩
      rw [e4]
      have e5 : v = V.int (k : Nat) := (Option.some.inj e).symm
      rw [e5, ek]
      exact ⟨t2, by simp⟩
  have ob : bg X.prog X.w (upd H1 (s1.heap.push { cls := .type "range", data := .fields #[.int 0 s1.toks, .int j t, .int 1 (s1.toks + 1)] }).objs.size (.lst ((List.range j.toNat).map fun i => V.int (i : Nat)))) h' (s1.heap.push { cls := .type "range", data := .fields #[.int 0 s1.toks, .int j t, .int 1 (s1.toks + 1)] }).objs.size (.lst ((List.range j.toNat).map fun i => V.int (i : Nat))) := by
    refine ⟨?_, gP.toList, c', rv, by simpa using hS⟩
    rw [List.length_map, List.length_range]
    exact Nat.le_trans (show j.toNat ≤ 2 ^ 24 by omega) (by decide)
  exact ⟨.ref _, _, I2.laid (t' := tk) hk (Nat.le_refl _) ob, rfl, q _ (I2.hok.fresh (Nat.le_refl _))⟩
end
theorem uS : bootBuiltins "int" = some (.type "int") := by decide +kernel
theorem uT : bootBuiltins "str" = some (.type "str") := by decide +kernel
theorem zE : bootBuiltins "bool" = some (.type "bool") := by decide +kernel
theorem fA : bootBuiltins "tuple" = some (.type "tuple") := by decide +kernel
theorem zF : bootBuiltins "list" = some (.type "list") := by decide +kernel
theorem pC : bootBuiltins "min" = some (.builtin "min") := by decide +kernel
theorem B6 : bootBuiltins "max" = some (.builtin "max") := by decide +kernel
theorem B7 : bootBuiltins "abs" = some (.builtin "abs") := by decide +kernel
theorem cj : bootBuiltins "isinstance" = some (.builtin "isinstance") := by decide +kernel
structure Bl (mg : Str → Option Value) : Prop where
  len_ : mg "len" = none
  range_ : mg "range" = none
  min_ : mg "min" = none
  max_ : mg "max" = none
  abs_ : mg "abs" = none
  list_ : mg "list" = none
  tuple_ : mg "tuple" = none
  int_ : mg "int" = none
  str_ : mg "str" = none
  bool_ : mg "bool" = none
  isinstance_ : mg "isinstance" = none
  all_ : mg "all" = none
  set_ : mg "set" = none
  sorted_ : mg "sorted" = none
  zip_ : mg "zip" = none
  enumerate_ : mg "enumerate" = none
  sum_ : mg "sum" = none
  reversed_ : mg "reversed" = none
  divmod_ : mg "divmod" = none
  any_ : mg "any" = none
  ValueError_ : mg "ValueError" = none
structure Df (K : PySem.W.Frag) (mg : Str → Option Value) (x : Str) (st : Stmt) (ps : List Str) (f : Addr) (fd : FuncData) : Prop where
  fn : nE K x x st f fd
  bd : Binds K fd ps []
  mg : mg x = some (.ref f)
structure pD (base : Heap) (fd : FuncData) (c P : Addr) : Prop where
  code : fd.code = .ref c
  hd : PySem.W.CodeHd base c P
section
variable {P : Program} {w : World} {K : PySem.W.Frag} {mg : Str → Option Value} {base : Heap}
theorem nE.IG {x qual : Str} {st : Stmt} {f : Addr} {fd : FuncData} {N ps : List Str} {k : Nat} {sp : Sp} (F : nE K x qual st f fd) (S : aS N ps (ak st)) (len : ∀ vs H Q E, sp vs H Q E → vs.length = ps.length)
    (lu : ∀ (A : Around) (outer : List Env) (s : Shared) (H : Hp) (vs : List V) (Q : VK) (E : XK), bu k (A.deeper (envOfC qual (ak st) s.heap.objs.size f fd.code)) → sp vs H Q E →
      ∃ t, dN (eQ bj P w K mg base N qual (ak st) f fd.code A outer s H E).ub (cG st) t ∧ t { nx := fun _ H' => Q .aj H', rt := Q } (start N vs) H) : FnOk P w K mg base bj (k + 1) f fd ps sp := by
  obtain ⟨oc, od, kV, doc, pm, an, cX, ct, g8, rfl, lk, fP⟩ := F.ex
  refine yq lk fP S len fun A outer s H vs Q E hr kg => ?_
  obtain ⟨t, h, q⟩ := lu A outer s H vs Q E hr kg
  exact ⟨t, h.ub, q⟩
end
noncomputable def Kk : V → Bool | .int _ => true | _ => false
noncomputable def below (m : Int) : V → Bool | .int i => decide (0 ≤ i) && decide (i < m) | _ => false
structure cL (net : List (List Int)) (w : Nat) : Prop where
  one : 1 ≤ net.length
  nine : net.length ≤ 9
  wid : w = 2 ∨ w = 3
  row : ∀ r ∈ net, r.length = w ∧ ∀ g ∈ r, 0 ≤ g ∧ g < (net.length : Int)
noncomputable def yx (tb : List Addr) (H : Hp) : Prop := ∀ p ∈ tb, Tb p H
noncomputable def EK (H : Hp) (b : Addr) : Prop := ∃ c m : Int, H b = some (.lst [.int c, .int m]) ∧ 0 ≤ c ∧ 0 ≤ m
noncomputable def Runs (J : It) (ys : List V) (H : Hp) : Prop := ∀ i, (i < ys.length → J.go i H ∧ ∀ x H', J.yld i H x H' → H' = H ∧ ys[i]? = some x) ∧ (ys.length ≤ i → J.stop i H)
noncomputable def gQ (z : Str) : List V := z.cps.toList.map fun c => .str ⟨#[c]⟩
theorem wV {K : PySem.W.Frag} {a : Addr} {ys : List V} {H : Hp} (h : bR K H a ys) : Runs (A9 K a) ys H := fun i =>
  ⟨fun hi => ⟨⟨ys, ys[i], h, List.getElem?_eq_getElem hi⟩, fun x H' y => ⟨y.1, y.2 ys h⟩⟩, fun hi => ⟨ys, h, hi⟩⟩
theorem uU {K : PySem.W.Frag} {a : Addr} {ys : List V} {H : Hp} (h : bH K H a ys) : Runs (A8 K a) ys H := fun i =>
  ⟨fun hi => ⟨⟨ys, ys[i], h, List.getElem?_eq_getElem hi⟩, fun x H' y => ⟨y.1, y.2 ys h⟩⟩, fun hi => ⟨ys, h, hi⟩⟩
theorem sP {lo : Int} {n : Nat} {H : Hp} : Runs (yl lo n) ((List.range n).map fun i => V.int (lo + (i : Nat))) H := fun i => by
  have el : ((List.range n).map fun i => V.int (lo + (i : Nat))).length = n := by simp
  rw [el]
  refine ⟨fun hi => ⟨hi, fun x H' y => ?_⟩, fun hi => hi⟩
  obtain ⟨e1, e2⟩ := y
  refine ⟨e1, ?_⟩
  rw [e2, List.getElem?_map, List.getElem?_range hi]
  rfl
theorem lL (z : Str) : (gQ z).length = z.length := by
  unfold gQ
  rw [List.length_map]
  rfl
theorem wW {z : Str} {H : Hp} : Runs (uR z) (gQ z) H := fun i =>
  ⟨fun hi => ⟨by rw [lL] at hi; exact hi, fun x H' y => by
    obtain ⟨e, c, hc, rfl⟩ := y
    refine ⟨e, ?_⟩
    unfold gQ
    rw [List.getElem?_map, Array.getElem?_toList, hc]
    rfl⟩, fun hi => by rw [lL] at hi; exact hi⟩
section
variable {X : Cx} {K : PySem.W.Frag}
theorem rW (h : X.K = K) : jr X (FZ K) := h ▸ BG
theorem om (h : X.K = K) : OpR X (compareOp .NotIn) (BJ K true) := h ▸ o6
theorem uV (h : X.K = K) : cJ X (.builtin "len") (fun xs H Q => ∃ x n, xs = [x] ∧ Bo K x H n ∧ Q (.int n) H) := h ▸ wG
theorem oo (h : X.K = K) : cJ X (.type "list") (fun xs H Q => ∃ p ys, xs = [.ref p] ∧ (bH K H p ys ∨ bR K H p ys) ∧ ∀ l, H l = none → Q (.ref l) (upd H l (.lst ys))) := h ▸ o7
theorem mE (h : X.K = K) : cJ X (.type "tuple") (fun xs H Q => ∃ p ys, xs = [.ref p] ∧ ((bH K H p ys ∧ ∀ l, H l = none → Q (.ref l) (upd H l (.tup ys))) ∨ (bR K H p ys ∧ Q (.ref p) H))) := h ▸ oj
theorem pE (h : X.K = K) : cJ X (.builtin "isinstance") (fun xs H Q => ∃ x T t b, xs = [x, .ty T] ∧ eO K H x t ∧ PySem.W.kitOne K t (.type T) = some b ∧ Q (.bl b) H) := h ▸ qR
theorem wX {tg l : Expr} {tl : TE} (h : X.K = K) (hl : PE X l tl) : PI X tg l (ym K tl) := h ▸ zh hl
theorem zG {tg l : Expr} {tl : TE} (h : X.K = K) (hl : PE X l tl) : PI X tg l (Ba K tl) := h ▸ Bb hl
variable {o e : Expr} {es : List Expr} {to : TE} {t : TA} {name : Str} {apos bb : Pos} {T id : String} {r : V → List V → Hp → VK → Prop}
theorem B8 (h : X.K = K) (pa : PlainAttrs T) (slot : Slot T name id) (o8 : typeOf (.builtin id) = pure (.type "method_descriptor")) (hm : uE X id r) (ho : PE X o to) (ha : PA X (e :: es) t) (lB : attributeBase o name X.env (eval o X.env) = eval o X.env := by rfl)
    (o9 : ((backTo bb (starEach (e :: es) X.env)).all (fun x => !x.1) && (backToKw bb (keywordEach [] X.env)).all (fun x => x.1.isSome)
      && decide ((e :: es).length + ([] : List Keyword).length + (if ([] : List Keyword).isEmpty then 0 else 1) < 30)) = true := by rfl)
    (hline : (apos.endLine == bb.line) = true := by rfl) (hs : starEach (e :: es) X.env = (false, eval e X.env) :: starEach es X.env := by rfl) (js : (backTo bb (starEach es X.env)).any (·.1) = false := by rfl) :
    PE X (.Call (.Attribute o name apos) (e :: es) [] bb) (F0 K T r to t) := h ▸ EF pa slot o8 hm ho ha lB o9 hline hs js
end
noncomputable abbrev bh (K : PySem.W.Frag) (x : Str) (st : Stmt) : Prop :=
  ∃ (f : Addr) (oc : Value) (od : Option Addr) (sl : Array (Option Value)) (kV dc pm : Value) (an : Option Addr) (cd ct : Value),
    PySem.W.nsIn K mainGlobals x = some (some (.ref f)) ∧ K.lookup f = some ⟨oc, od, .func (PySem.W.fnOf x x (eW st) (cG st) (ak st) .none kV dc pm an cd ct), sl⟩ ∧ PySem.W.codeIn K cd x = true ∧ PySem.W.keepIn K (.ref f) = true
theorem aM {K : PySem.W.Frag} {x : Str} {st : Stmt} {f : Addr} {oc : Value} {od : Option Addr} {sl : Array (Option Value)} {kV dc pm : Value} {an : Option Addr} {cd ct : Value} (a : PySem.W.nsIn K mainGlobals x = some (some (.ref f)))
    (l : K.lookup f = some ⟨oc, od, .func (PySem.W.fnOf x x (eW st) (cG st) (ak st) .none kV dc pm an cd ct), sl⟩) (c : PySem.W.codeIn K cd x = true) (k : PySem.W.keepIn K (.ref f) = true) : bh K x st := ⟨f, oc, od, sl, kV, dc, pm, an, cd, ct, a, l, c, k⟩
section
variable {K : PySem.W.Frag} {mg : Str → Option Value} {h base : Heap}
theorem bh.df {x : Str} {st : Stmt} (d : bh K x st) (X : K.In h) (G : h.Ns mainGlobals mg) (ps : List Str)
    (hb : ∀ (kV doc pm : Value) (an : Option Addr) (cX ct : Value) (us : List Value), us.length = ps.length → bindArgs (PySem.W.fnOf x x (eW st) (cG st) (ak st) .none kV doc pm an cX ct) ⟨us, []⟩ = pure (ps.zip us)) :
    ∃ f fd, Df K mg x st ps f fd := by
  obtain ⟨f, oc, od, sl, kV, dc, pm, an, cd, ct, a, l, c, k⟩ := d
  have F := BR (st := st) l c k
  exact ⟨f, _, F, F.binds hb, PySem.W.mg_of X G a⟩
theorem jD {x : Str} {st : Stmt} {ps : List Str} {f p : Addr} {fd : FuncData} (D : Df K mg x st ps f fd) (X : K.In h)
    (t : ∃ f o fd c, mg x = some (.ref f) ∧ h.get? f = some o ∧ o.data = .func fd ∧ fd.code = .ref c ∧ PySem.W.CodeHd h c p) (tr : ∀ c p, PySem.W.CodeHd h c p → PySem.W.CodeHd base c p) : ∃ c, pD base fd c p := by
  obtain ⟨f', o, IH, c, e1, e2, e3, e4, e5⟩ := t
  obtain ⟨oc, od, kV, doc, pm, an, cX, ct, g8, rfl, lk, fP⟩ := D.fn.ex
  have e := D.mg.symm.trans e1
  cases e
  have q := (X _ _ lk).symm.trans e2
  cases q
  cases e3
  exact ⟨c, e4, tr _ _ e5⟩
theorem Df.bind1 {x y : Str} {st : Stmt} {f : Addr} {fd : FuncData} (D : Df K mg x st [y] f fd) (s : Shared) (v : Value)
    (hb : ∀ (kV doc pm : Value) (an : Option Addr) (cX ct : Value) (u : Value), bindArgs (PySem.W.fnOf x x (eW st) (cG st) (ak st) .none kV doc pm an cX ct) ⟨[u], []⟩ = pure [(y, u)]) : BindsTo s fd ⟨[v], []⟩ [(y, v)] := by
  obtain ⟨oc, od, kV, doc, pm, an, cX, ct, g8, rfl, lk, fP⟩ := D.fn.ex
  exact .of_eq (hb kV doc pm an cX ct v)
theorem eA {α β : Type} {F : α → β → Prop} {a : α} {r : List α} {t : List β} (h : Paired F (a :: r) t) : ∃ b t', t = b :: t' ∧ F a b ∧ Paired F r t' := by
  cases h with
  | cons x y => exact ⟨_, _, rfl, x, y⟩
theorem recs_of {q : Program} {jh : List Str} (h : (jh.all fun y => (recsOf q).any fun r => decide (r.name = y)) = true) : ∀ y ∈ jh, ∃ r ∈ recsOf q, r.name = y := fun y hy => by
  have := List.all_eq_true.mp h y hy
  obtain ⟨r, hr, e⟩ := List.any_eq_true.mp this
  exact ⟨r, hr, of_decide_eq_true e⟩
end
noncomputable abbrev j5 := V → Hp → (Hp → Prop) → Prop
section
variable {Y : Cx} {A2 : Around} {tg elt iter : Expr} {ifs : List Expr} {scope : Scope} {pos : Pos} {it : Addr} {fp : List Addr} {bJ : Nat → Heap → Prop} {J : It} {g : TG} {tt : TT} {te : TE} {pp : List (Addr × Obj)} {R : GenEnd} {Yp : Protocol}
noncomputable def tGenV (J : It) (g : TG) (tt : TT) (te : TE) (C : j5) (Z : Hp → Prop) (W : Nat → Nat → St → Hp → Prop) : Prop := ∀ i m τ H, W i m τ H →
  (J.stop i H ∧ Z H) ∨ (J.go i H ∧ ∀ x H', J.yld i H x H' → g x τ H' fun aw H2 => tt aw H2 fun b H3 => if b = true then te aw H3 fun y H4 => C y H4 fun H5 => ∃ m', m' < m ∧ W (i + 1) m' aw H5 else ∃ m', m' < m ∧ W (i + 1) m' aw H3)
theorem uW (hA : Y.A = A2.over (.compLoop (.GeneratorExp elt [⟨tg, iter, ifs, 0⟩] scope pos) 0 (.ref it) .none Y.env) []) (pv : Y.xe = fun _ _ => False) (hc : Y.calm = true) (ft : Y.env.scope.isCoroutine = false)
    (T : Turn Y.prog Y.w Y.K tg J fp it bJ) (hg : PG Y tg g) (ht : gj Y ifs tt) (he : PE Y elt te) (stat : ∀ {H' : Hp}, (∀ b ∈ fp, H' b = none) → ∀ b ∈ fp, ej Y pp H' b)
    {W : Nat → Nat → St → Hp → Prop} {C : j5} {Z : Hp → Prop} (turn : tGenV J g tt te C Z W)
    (hR : ∀ n s₀ aq τ H, Inv Y pp τ H aq → Z H → R n s₀ (.ok .next) aq)
    (hY : ∀ n s₀ s eX y v τ H pl (N : Hp → Prop), RelV y v → Inv Y (pp ++ pl) τ H s → C y H N → (∀ H5 aP, Inv Y (pp ++ pl) τ H5 aP → N H5 → eX (.send .none) aP) → Yp n s₀ v s eX) :
    ∀ (m n i : Nat) (τ : St) (H : Hp) (s s₀ : Shared), m < n → W i m τ H → Inv Y pp τ H s → bJ i s.heap → (∀ b ∈ fp, H b = none) →
      Seg (model Y.prog Y.w) A2 R Yp n s₀ (.compLoop (.GeneratorExp elt [⟨tg, iter, ifs, 0⟩] scope pos) 0 (.ref it) .none Y.env)
        ((model Y.prog Y.w).den (.compLoop (.GeneratorExp elt [⟨tg, iter, ifs, 0⟩] scope pos) 0 (.ref it) .none Y.env)) [] s := by
  intro m
  induction m using Nat.strongRecOn with
  | ind m ih =>
    intro n i τ H s s₀ Iu w I st fr
    show Seg _ A2 _ _ _ s₀ _ ((compTurn (.GeneratorExp elt [⟨tg, iter, ifs, 0⟩] scope pos) 0 (.ref it) .none Y.env).onRaise (leaving Y.env)) [] s
    rw [compTurn_gen, Sem.onRaise_eq_wrap]
    rcases turn i m τ H w with ⟨stop, qn⟩ | ⟨go, step⟩
    · refine seg_bind_wrap (wpAny_standAt ?_)
      have d := T.done Y rfl rfl rfl hc i pp s τ H (fun _ _ => False) I (stat fr) st stop
      rw [hA] at d
      refine seg_bind_wrap (wpAny_mono d (fun r s1 ⟨hr, I1⟩ => ?_) fun _ _ z => z.elim)
      subst hr
      exact seg_end (.ok .next) (hR _ _ _ _ _ I1 qn)
    · refine seg_bind_wrap (wpAny_standAt ?_)
      have d := T.item Y rfl rfl rfl hc i pp s τ H (fun _ _ => False) I (stat fr) st go
      rw [hA] at d
      refine seg_bind_wrap (wpAny_mono d (fun r s4 ⟨u, hr, h4⟩ => ?_) fun _ _ z => z.elim)
      subst hr
      refine seg_bind_wrap (wpAny_mono h4 (fun _ s5 ⟨x, H5, I5, r5, y5, gK, oX⟩ => ?_) fun _ _ z => z.elim)
      have oY := I5.pinned (stat oX) (T.obj _ _ gK)
      have back : ∀ {kj : St} {H7 : Hp} {s7 : Shared}, Inv Y (pp ++ fS fp s5.heap) kj H7 s7 → bJ (i + 1) s7.heap ∧ ∀ b ∈ fp, H7 b = none := fun {kj H7 s7} I7 => by
        refine ⟨T.keep _ _ _ gK fun b hb o e => (I7.pin (b, o) (List.mem_append_right _ (List.mem_append_right _ (bX hb e)))).1, fun b hb => ?_⟩
        obtain ⟨o, e, d⟩ := T.obj _ _ gK b hb
        exact (I7.pin (b, o) (List.mem_append_right _ (List.mem_append_right _ (bX hb e)))).2.1
      have d2 := hg _ s5 τ H5 x u _ oY r5 (step x H5 y5)
      rw [hA, pv] at d2
      refine seg_bind_wrap (wpAny_mono d2 (fun _ s6 ⟨gO, H6, I6, q6⟩ => ?_) fun _ _ z => z.elim)
      have d3 := ht _ s6 gO H6 _ I6 q6
      rw [hA, pv] at d3
      refine seg_bind_wrap (wpAny_mono d3 (fun ok s7 ⟨H7, I7, q7⟩ => ?_) fun _ _ z => z.elim)
      have hy : ∀ v, yieldOut Y.env v = yieldValue v := fun v => by simp only [yieldOut, ft, Bool.false_eq_true, if_false]
      cases ok with
      | false =>
        simp only [Bool.false_eq_true, if_false] at q7 ⊢
        obtain ⟨m', ju, w7⟩ := q7
        exact seg_again rfl (ih m' ju n (i + 1) gO H7 s7 s₀ (by omega) w7 I7.bI (back I7).1 (back I7).2)
      | true =>
        simp only [if_true] at q7 ⊢
        simp only [hy]
        rw [Sem.bind_eq_wrap', Sem.bind_eq_wrap', Sem.wrap_wrap, Sem.wrap_wrap]
        have d4 := he _ s7 gO H7 _ I7 q7
        rw [hA, pv] at d4
        refine seg_wrap (wpAny_mono d4 (fun yv s8 ⟨y, H8, I8, r8, q8⟩ => ?_) fun _ _ z => z.elim)
        obtain ⟨n, rfl⟩ : ∃ n', n = n' + 1 := ⟨n - 1, by omega⟩
        refine seg_at (seg_yield rfl rfl rfl (hY _ _ _ _ y yv gO H8 _ _ r8 I8 q8 fun H9 aP I9 ⟨m', ju, w8⟩ => ?_))
        exact seg_again rfl (ih m' ju n (i + 1) gO H9 aP aP (by omega) w8 I9.bI (back I9).1 (back I9).2)
end
section
variable {X : Cx} {tg elt iter : Expr} {ifs : List Expr} {scope : Scope} {pos : Pos} {N' : List Str} {tn : Nat} {idx : List Nat} {wi : TI} {g : TG} {tt : TT} {te : TE} {c P : Addr} {k : Nat}
noncomputable def yy (X Y : Cx) (pp : List (Addr × Obj)) (gn : Nat) (C : j5) (Z : Hp → Prop) (n : Nat) (H : Hp) (s : Shared) : Prop :=
  ∃ τ pl gs, Inv Y (pp ++ pl) τ H s ∧ s.gens[gn]? = some gs ∧ ∀ aP, Inv Y (pp ++ pl) τ H aP → gs.Goes (model X.prog X.w) X.A.in4.in1 (fun _ _ r aq => r = .ok .next ∧ ∃ τ H, Inv Y pp τ H aq ∧ Z H)
    (fun _ _ v s eX => ∃ y τ H pl N, RelV y v ∧ Inv Y (pp ++ pl) τ H s ∧ C y H N ∧ ∀ H5 aP, Inv Y (pp ++ pl) τ H5 aP → N H5 → eX (.send .none) aP) n (.send .none) aP
theorem EL {pins : List (Addr × Obj)} {σ : St} {J : It} {H3 : Hp} {a : Addr} {s5 : Shared} {Y : Cx} {it : Addr} {fp : List Addr} {bJ : Nat → Heap → Prop} {gn : Nat} {pp : List (Addr × Obj)} {C : j5} {Z : Hp → Prop} {n : Nat} {H : Hp} {s : Shared} {E : Value → Shared → Prop}
    (hr : bu (k + 1) X.A) (G : pw X pins σ N' scope tn idx k elt tg iter ifs pos J H3 a s5 Y it fp bJ gn pp) (h : yy X Y pp gn C Z n H s) :
    wpAny (model X.prog X.w) X.A.in4 (pyNext (.ref a)) (fun r s1 => match r with
      | none => ∃ H1, Inv X pins σ H1 s1 ∧ Z H1
      | some v => ∃ y τ H1 pl N, RelV y v ∧ Inv Y (pp ++ pl) τ H1 s1 ∧ C y H1 N ∧ ∀ H2 s2, Inv Y (pp ++ pl) τ H2 s2 → s2.gens = s1.gens → N H2 → ∃ m, m < n ∧ yy X Y pp gn C Z m H2 s2) E s := by
  obtain ⟨τ, pl, gs, I6, uP, jy⟩ := h
  refine wpAny_pyNext_genexpQ (A := X.A.in4) (P := fun _ _ aq => ∃ τ H, Inv Y pp τ H aq ∧ Z H) hr.hd I6.nolimit hr.depth (G.isg I6.bI) uP (jy _ (I6.fw ⟨rfl, rfl, cK I6.bare rfl⟩)) (fun v s1 nJ hb hv => ?_) (fun s1 hp h' hk => ?_)
  · obtain ⟨y, lK, H1, Ge, N, r1, I1, c1, z2⟩ := hv
    have jC : fc s1 (s1.setGen gn nJ) := ⟨rfl, rfl, cK I1.bare hb⟩
    refine ⟨y, lK, H1, Ge, N, r1, I1.fw jC, c1, fun H2 s2 I2 e2 n2 => ?_⟩
    have z3 := z2 H2 s2 I2 n2
    cases n with
    | zero => exact z3.elim
    | succ m => exact ⟨m, Nat.lt_succ_self _, lK, Ge, nJ, I2, by rw [e2]; exact jz (G.gsz I1.bI), fun aP I3 => z2 H2 aP I3 n2⟩
  · obtain ⟨lK, H1, I1, z1⟩ := hp
    have I2 := I1.kept (t' := s1.toks) hk
    have uQ : fc { s1 with heap := h' } { s1.setGen gn .finished with heap := h' } := ⟨rfl, rfl, cK (s := s1) I1.bare rfl⟩
    exact ⟨H1, G.out (I2.fw uQ), z1⟩
theorem uX {pins : List (Addr × Obj)} {σ : St} {J : It} {H3 : Hp} {a : Addr} {s5 : Shared} {Y : Cx} {it : Addr} {fp : List Addr} {bJ : Nat → Heap → Prop} {gn : Nat} {pp : List (Addr × Obj)} {C : j5} {Z : Hp → Prop} {W : Nat → Nat → St → Hp → Prop} {m0 : Nat} {H4 : Hp} {s6 : Shared}
    (G : pw X pins σ N' scope tn idx k elt tg iter ifs pos J H3 a s5 Y it fp bJ gn pp) (hg : cg X N' scope k fun Y => PG Y tg g) (ht : cg X N' scope k fun Y => gj Y ifs tt) (he : cg X N' scope k fun Y => PE Y elt te)
    (I6 : Inv Y (pp ++ fS fp s5.heap) (bA tn idx σ) H4 s6) (II : s6.gens = s5.gens) (turn : tGenV J g tt te C Z W) (w0 : W 0 m0 (bA tn idx σ) H4) : yy X Y pp gn C Z (m0 + 1) H4 s6 := by
  have kO := uW (A2 := X.A.in4.in1) (pp := pp) (R := fun _ _ r aq => r = .ok .next ∧ ∃ τ H, Inv Y pp τ H aq ∧ Z H)
    (Yp := fun _ _ v s eX => ∃ y τ H pl N, RelV y v ∧ Inv Y (pp ++ pl) τ H s ∧ C y H N ∧ ∀ H5 aP, Inv Y (pp ++ pl) τ H5 aP → N H5 → eX (.send .none) aP) G.A G.xe G.calm G.co G.T (G.blk _ hg) (G.blk _ ht) (G.blk _ he) G.stat turn
    (fun n s₀ aq τ H J z => ⟨rfl, τ, H, J, z⟩) (fun n s₀ s eX y v τ H pl N r J z1 z2 => ⟨y, τ, H, pl, N, r, J, z1, z2⟩)
  have hP := G.prog
  have hW := G.w
  have nM := G.st
  rw [← II] at nM
  refine ⟨_, _, _, I6, nM, fun aP I7 => ⟨rfl, ?_⟩⟩
  have nK : bJ 0 aP.heap := G.T.keep _ _ _ G.tn0 fun b hb o e => (I7.pin (b, o) (List.mem_append_right _ (List.mem_append_right _ (bX hb e)))).1
  have IJ : ∀ b ∈ fp, H4 b = none := fun b hb => by
    obtain ⟨o, e, d⟩ := G.T.obj _ _ G.tn0 b hb
    exact (I7.pin (b, o) (List.mem_append_right _ (List.mem_append_right _ (bX hb e)))).2.1
  have q := jA (iter := iter) (ifs := ifs) (scope := scope) (pos := pos) (elt := elt) G.T nK (kO m0 (m0 + 1) 0 _ _ aP aP (Nat.lt_succ_self _) w0 I7.bI nK IJ)
  rw [hP, hW] at q
  exact q
noncomputable def takeIn (S : Addr) : j5 := fun y H N => ∃ ys, H S = some (.lst ys) ∧ ys.length < sizeLine ∧ N (upd H S (.lst (ys ++ [y])))
theorem qS {pins : List (Addr × Obj)} {σ : St} {J : It} {H3 : Hp} {a : Addr} {s5 : Shared} {Y : Cx} {it : Addr} {fp : List Addr} {bJ : Nat → Heap → Prop} {gn : Nat} {pp : List (Addr × Obj)} {Z : Hp → Prop} {A : Around} {R' : Result → Shared → Prop} {S : Addr} {res : Value}
    (hr : bu (k + 1) X.A) (G : pw X pins σ N' scope tn idx k elt tg iter ifs pos J H3 a s5 Y it fp bJ gn pp)
    (rX : ∀ {Q : Option Value → Shared → Prop} {E : Value → Shared → Prop} {s : Shared}, wpAny (model X.prog X.w) X.A.in4 (pyNext (.ref a)) Q E s → wpAny (model X.prog X.w) A.in1 (pyNext (.ref a)) Q E s)
    (hR : ∀ s H, Inv X pins σ H s → Z H → R' (.ok (.ret res)) s) :
    ∀ (n : Nat) (H : Hp) (s : Shared), yy X Y pp gn (takeIn S) Z n H s → codeAny (model X.prog X.w) A (.builtin "list.extend.loop" ⟨[.ref S, .ref a, res], []⟩) R' s := by
  intro n
  induction n using Nat.strongRecOn with
  | ind n ih =>
    intro H s h
    refine codeAny_builtin F.entry_extend_loop ?_
    rw [Around.under_plainId F.plain_extend_loop _]
    show wpAny _ A.in1 (pyNext (.ref a) >>= _) _ _ s
    refine wpAny_bind (rX (wpAny_mono (EL (E := fun _ _ => False) hr G h) (fun r s1 q => ?_) fun _ _ z => z.elim))
    cases r with
    | none =>
      obtain ⟨H1, I1, z1⟩ := q
      exact wpAny_pure (hR s1 H1 I1 z1)
    | some v =>
      obtain ⟨y, τ, H1, pl, N, r1, I1, ⟨ys, hS, hz, n1⟩, nx⟩ := q
      obtain ⟨_, its, c, rv, hl, e⟩ := I1.gN hS
      show wpAny _ A.in1 (updateSeq S (·.push v) >>= _) _ _ _
      have hP := G.prog
      have hW := G.w
      obtain ⟨m, hm, h2⟩ := nx _ _ (I1.mC (its' := its ++ [v]) (f := (·.push v)) (t' := s1.toks) hS e (by simp) (rv.append (.cons r1 .nil)) (by rw [List.length_append, List.length_singleton]; omega)) rfl n1
      refine wpAny_bind (wpAny_updateSeq e rfl (wpAny_pure ⟨plainId_quiet F.plain_extend_loop _, ih m hm _ _ h2⟩) (by rw [List.size_toArray]; omega) (by show (its.toArray.push v).size ≤ sizeLine + 1; rw [Array.size_push, List.size_toArray]; omega))
theorem sQ {pins : List (Addr × Obj)} {σ : St} {J : It} {H3 : Hp} {a : Addr} {s5 : Shared} {Y : Cx} {it : Addr} {fp : List Addr} {bJ : Nat → Heap → Prop} {gn : Nat} {pp : List (Addr × Obj)} {A : Around} {E : Value → Shared → Prop} {QL : List Value → Shared → Prop} {R : List V → Hp → Prop}
    (hr : bu (k + 1) X.A) (G : pw X pins σ N' scope tn idx k elt tg iter ifs pos J H3 a s5 Y it fp bJ gn pp) (hg : cg X N' scope k fun Y => PG Y tg g) (ht : cg X N' scope k fun Y => gj Y ifs tt) (he : cg X N' scope k fun Y => PE Y elt te)
    (rX : ∀ {Q : Option Value → Shared → Prop} {E : Value → Shared → Prop} {s : Shared}, wpAny (model X.prog X.w) X.A.in4 (pyNext (.ref a)) Q E s → wpAny (model X.prog X.w) A.in1 (pyNext (.ref a)) Q E s)
    (hW : ∀ S, H3 S = none → ∃ W : Nat → Nat → St → Hp → Prop, (∃ m, W 0 m (bA tn idx σ) (upd H3 S (.lst []))) ∧ tGenV J g tt te (takeIn S) (fun H => ∃ ys, H S = some (.lst ys) ∧ R ys H) W)
    (hQ : ∀ us ys s H, Inv X pins σ H s → Vals ys us → ys.length ≤ sizeLine → R ys H → QL us s) : wpAny (model X.prog X.w) A (collect (.ref a)) QL E s5 := by
  have hT : ∀ {s' : Shared}, s'.heap.IsGen a gn → s'.TypeIs (.ref a) "generator" := fun h => h.typeIs
  obtain ⟨W, ⟨m0, w0⟩, turn⟩ := hW s5.heap.objs.size (G.inv.hok.fresh (Nat.le_refl _))
  have I0 := G.inv.pinned (G.stat G.fr) (G.T.obj _ _ G.tn0)
  have IK : s5.heap.objs.size ≠ a := fun e => by
    obtain ⟨o, _, _, ho, _⟩ := G.isg G.inv
    have := Heap.lt_size ho
    rw [e] at this
    exact Nat.lt_irrefl _ this
  unfold collect
  refine wpAny_bind (wpAny_runValue (codeAny_builtin F.entry_proto_collect ?_))
  rw [Around.under_plainId F.plain_proto_collect _]
  show wpAny _ A.in1 (newList [] >>= fun l => again (.builtin "list.__iadd__" ⟨[l, .ref a], []⟩)) _ _ s5
  refine wpAny_bind (wpAny_newObj_type ?_)
  refine wpAny_pure ⟨plainId_quiet F.plain_list_iadd _, codeAny_builtin F.entry_list_iadd ?_⟩
  rw [Around.under_plainId F.plain_list_iadd _]
  have I1 := I0.wM (ys := []) (its := []) (t' := s5.toks) .nil (Nat.zero_le _)
  have T1 := hT (G.isg I1.bI)
  show wpAny _ A.in1 (Builtin.List.listExtendWith (.ref s5.heap.objs.size) (.ref a) (.ref s5.heap.objs.size)) _ _ _
  unfold Builtin.List.listExtendWith
  refine wpAny_bind (wpAny_typeOf T1 ?_)
  have h1 : Builtin.List.listSameRef (.ref s5.heap.objs.size) (.ref a) = false := by simp [Builtin.List.listSameRef, IK]
  have h2 : (Value.type "generator" == Value.type "list") = false := by decide
  have h3 : (Value.type "generator" == Value.type "tuple") = false := by decide
  simp only [h1, h2, h3, Bool.or_false, Bool.false_eq_true, if_false]
  refine wpAny_bind (wpAny_pyIter_gen (G.isg I1.bI) ?_)
  refine wpAny_bind (wpAny_holding ?_)
  unfold Builtin.List.listLengthHint
  refine wpAny_bind (wpAny_specialOf T1 F.gen_no_len ?_)
  show wpAny _ A.in1 (specialOf (Value.ref a) (Str.ofString "__length_hint__") >>= _) _ _ _
  refine wpAny_bind (wpAny_specialOf T1 F.gen_no_hint ?_)
  refine wpAny_pure ?_
  show wpAny _ A.in1 (rule "list.extend.makes-room" >>= fun _ => Builtin.List.listTouch (.ref s5.heap.objs.size) >>= fun _ =>
    again (.builtin "list.extend.loop" ⟨[.ref s5.heap.objs.size, .ref a, .ref s5.heap.objs.size], []⟩)) _ _ _
  refine wpAny_bind (wpAny_rule ?_)
  obtain ⟨_, Hw, c1, IL, hV, sR⟩ := I1.gN aB
  have e1 : Hw = [] := by cases IL; rfl
  subst e1
  refine wpAny_bind ?_
  show wpAny _ A.in1 (updateSeq s5.heap.objs.size (·.push .none) >>= fun _ => updateSeq s5.heap.objs.size (·.pop)) _ _ _
  refine wpAny_bind (wpAny_updateSeq sR rfl ?_)
  have I2 := I1.mC (ys := [.aj]) (its' := [.none]) (f := (·.push .none)) (t' := s5.toks) aB sR (by simp) (.cons rfl .nil) (by decide)
  have ER := Heap.get?_update_self (Obj.mapSeq (·.push Value.none)) sR rfl
  refine wpAny_updateSeq ER rfl ?_
  obtain ⟨_, bB, c2, fe, fb, B9⟩ := I2.gN aB
  have I3 := I2.mC (ys := []) (its' := []) (f := (·.pop)) (t' := s5.toks) aB B9 (by
    cases fe with
    | cons r t => cases t; simp) .nil (Nat.zero_le _)
  rw [rL, rL] at I3
  refine wpAny_pure ⟨plainId_quiet F.plain_extend_loop _, qS (Z := fun H => ∃ ys, H s5.heap.objs.size = some (.lst ys) ∧ R ys H) hr G rX (fun s H I ⟨ys, hS, q⟩ => ?_) (m0 + 1) _ _ (uX G hg ht he I3 rfl turn w0)⟩
  obtain ⟨hz, its, c, rv, hl, e⟩ := I.gN hS
  show wpAny _ A (load s5.heap.objs.size >>= _) _ _ s
  refine wpAny_bind (wpAny_load e ?_)
  refine wpAny_pure ?_
  have := hQ its ys s H I rv hz q
  simpa using this
end
section
variable {X : Cx} {tg elt iter : Expr} {ifs : List Expr} {scope : Scope} {pos : Pos} {N' : List Str} {tn : Nat} {idx : List Nat} {wi : TI} {g : TG} {tt : TT} {te : TE} {c P : Addr} {k : Nat}
noncomputable def yz (P : Addr) (tn : Nat) (idx : List Nat) (wi : TI) (g : TG) (tt : TT) (te : TE) : TE := fun σ H Q => uO P wi (fun J H1 => ∀ S, H1 S = none → ∃ W : Nat → Nat → St → Hp → Prop, (∃ m, W 0 m (bA tn idx σ) (upd H1 S (.lst []))) ∧
  tGenV J g tt te (takeIn S) (fun H2 => ∃ ys, H2 S = some (.lst ys) ∧ ∀ l, H2 l = none → Q (.ref l) (upd H2 l (.tup ys))) W) σ H
theorem jE {Q₁ : Value → Shared → Prop} {QL : List Value → Shared → Prop} {prog : Program} {w : World} {A : Around} {E : Value → Shared → Prop} {s : Shared} {I : Addr} (hT : s.TypeIs (.ref I) "generator")
    (W : wpAny (model prog w) A.in1 (collect (.ref I)) QL E s) (cY : ∀ us s', QL us s' → us.length ≤ sizeLine)
    (h : ∀ us s', QL us s' → Q₁ (.ref s'.heap.objs.size) { s' with heap := s'.heap.push { cls := .type "tuple", data := .seq us.toArray } }) :
    codeAny (model prog w) A (.call (.builtin "tuple.__new__") ⟨[.type "tuple", .ref I], []⟩) (wants Q₁ E) s := by
  refine codeAny_of_tree ?_
  show wpAny _ A.in1 (do checkBuiltinCall "tuple.__new__" ⟨[.type "tuple", .ref I], []⟩; again (.builtin "tuple.__new__" ⟨[.type "tuple", .ref I], []⟩)) _ _ s
  refine wpAny_bind (wpAny_of_eq (F.newCall_tuple_1 _) (wpAny_pure ⟨plainId_quiet F.plain_tuple_new _, codeAny_builtin F.entry_tuple_new ?_⟩))
  rw [Around.under_plainId F.plain_tuple_new _]
  have sS := sub_tuple_self
  have J8 := init_tuple_lookup
  have Km := madeHere_tuple
  wp_walk using wpAny_typeOf hT, wpAny_mono W
  · intro us s' hq
    show wpAny _ _ (Builtin.Tuple.tupleExact us.toArray >>= fun v => ret v) _ _ _
    unfold Builtin.Tuple.tupleExact
    refine wpAny_bind (wpAny_newObj_type ?_ (by show us.toArray.size ≤ sizeLine; rw [List.size_toArray]; exact cY us s' hq))
    exact wpAny_pure (h us s' hq)
  · exact fun _ _ z => z
theorem qT {p eo : Pos} (hr : bu (k + 1) X.A) (hc : X.calm = true) (B : aG X.N X.env.scope scope N' tn idx)
    (h0 : scope.names.lookup (".0" : Str) = some .local) (ft : scope.isCoroutine = false) (dW : X.env.code = .ref c) (hd : PySem.W.CodeHd X.base c P) (cu : ∃ bm ob, BMod X.base mainGlobals X.mg bm ob)
    (jB : Gl X "tuple") (hm : X.mg "tuple" = none) (hi : PI X tg iter wi) (hg : cg X N' scope k fun Y => PG Y tg g) (ht : cg X N' scope k fun Y => gj Y ifs tt) (he : cg X N' scope k fun Y => PE Y elt te)
    (hs : ∀ x, genFold iter X.env x = pure x := by intro _; rfl) : PE X (.Call (.Name "tuple" p) [cf elt tg iter ifs scope eo] [] pos) (yz P tn idx wi g tt te) := by
  refine ⟨?_⟩
  intro pins s σ H Q I h
  refine wpAny_Call_Name_kw (e7 I jB hm fA ?_)
  refine PyProof.Rows.callWith_type1 ?_ rfl rfl
  show wpAny _ _ (spliced ((false, eval (cf elt tg iter ifs scope eo) X.env) :: [])) _ _ s
  refine Calls.spliced_cons (kN hr hc B h0 ft dW hd cu hi hs I h ?_)
  intro J H3 a s5 Y it fp bJ gn pp G hW
  refine Calls.spliced_nil ?_
  have hT : s5.TypeIs (.ref a) "generator" := (G.isg G.inv).typeIs
  refine callType_codes (Q₁ := fun obj aq => aq.TypeIs obj "tuple" ∧ EP X pins σ Q obj aq) F.called_tuple (F.typeCall_tuple_1 _) F.entry_object_init
    (jE (QL := fun us s' => us.length ≤ sizeLine ∧ ∃ ys H', Inv X pins σ H' s' ∧ Vals ys us ∧ ∀ l, H' l = none → Q (.ref l) (upd H' l (.tup ys))) hT
      (sQ hr G hg ht he (fun h => wpAny_of_in1 h) hW fun us ys s' H' I' rv hz q => ⟨by rw [← rv.length]; exact hz, ys, H', I', rv, q⟩) (fun us s' q => q.1) fun us s' ⟨hl, ys, H', I', rv, q⟩ => ⟨⟨_, Heap.get?_push_size _ rfl, rfl⟩, ?_⟩) fun obj aq iS => ?_
  · have I2 : Inv X pins σ (upd H' s'.heap.objs.size (.tup ys)) { s' with heap := s'.heap.push { cls := .type "tuple", data := .seq us.toArray } } :=
      I'.laid (t' := s'.toks) (fun b o e => Heap.get?_push_of_some _ e) (Nat.le_refl _) (show bg X.prog X.w _ _ _ (.tup ys) from ⟨by rw [rv.length]; exact hl, us, rv, fv.new _ _⟩)
    exact ⟨.ref s'.heap.objs.size, _, I2, rfl, q _ (I'.hok.fresh (Nat.le_refl _))⟩
  · exact ⟨iS.1, F.args_object_init_2 obj _, object_init_meets F.called_tuple.init.lookup F.called_tuple.made (by decide) X.prog X.w X.A.in1 _ aq ⟨iS.1, rfl, iS.2⟩⟩
end
noncomputable def IM (xs : Array Nat) : Prop := xs.toList.Pairwise (· < ·)
structure EV (w : World) (t : SetTable) : Prop where
  dum : t.dummies = #[]
  ris : IM t.place
  led : t.led = !w.params.followText "set-order"
noncomputable def Hx (e : Int × Value) : Int := match e.2 with | .int i _ => i | _ => 0
noncomputable def Hy (P : Program) (w : World) (h : Heap) (a : Addr) (ns : List Int) : Prop :=
  ∃ o es ep t, h.get? a = some o ∧ o.ExactSet ∧ o.data = .set es ep t ∧ ElemsOf (intKind P w) es.toList ∧ (es.toList.map Hx).Perm ns ∧ ns.Nodup ∧ es.size < scanBound ∧ t.fits es.size = true ∧ EV w t
noncomputable def Hz (P : Program) (w : World) (a : Addr) (ns : List Int) : HO := .ext fun h => Hy P w h a ns
noncomputable def HA (ns : List Int) (m : Int) : List Int := if m ∈ ns then ns else ns ++ [m]
theorem gq {α : Type} : ∀ {l : List α} {i : Nat} (h : i < l.length), (l[i] :: l.eraseIdx i).Perm l
  | [], i, h => by simp at h
  | x :: l, 0, h => .refl _
  | x :: l, i + 1, h => by
    rw [List.eraseIdx_cons_succ, List.getElem_cons_succ]
    exact (List.Perm.swap _ _ _).trans (.cons _ (gq (by simpa using h)))
inductive Dt where
  | aj | bl (b : Bool) | int (i : Int) | str (x : Str) | lst (xs : List Dt) | tup (xs : List Dt)
inductive dz (H : Hp) : V → Dt → Prop where
  | aj : dz H .aj .aj
  | bl (b : Bool) : dz H (.bl b) (.bl b)
  | int (i : Int) : dz H (.int i) (.int i)
  | str (x : Str) : dz H (.str x) (.str x)
  | lst {a : Addr} {xs : List V} {ds : List Dt} (e : H a = some (.lst xs)) (hl : xs.length = ds.length) (h : ∀ (i : Nat) (x : V) (d : Dt), xs[i]? = some x → ds[i]? = some d → dz H x d) : dz H (.ref a) (.lst ds)
  | tup {a : Addr} {xs : List V} {ds : List Dt} (e : H a = some (.tup xs)) (hl : xs.length = ds.length) (h : ∀ (i : Nat) (x : V) (d : Dt), xs[i]? = some x → ds[i]? = some d → dz H x d) : dz H (.ref a) (.tup ds)
mutual
noncomputable def cZ : Dt → Dt → Bool
  | .aj, .aj => true
  | .bl a, .bl b => a == b
  | .bl a, .int b => (if a then 1 else 0) == b
  | .int a, .bl b => a == (if b then 1 else 0)
  | .int a, .int b => a == b
  | .str a, .str b => a == b
  | .lst xs, .lst ys => gR xs ys
  | .tup xs, .tup ys => gR xs ys
  | _, _ => false
noncomputable def gR : List Dt → List Dt → Bool
  | [], [] => true
  | x :: xs, y :: ys => cZ x y && gR xs ys
  | _, _ => false
end
mutual
theorem iT : ∀ d : Dt, cZ d d = true
  | .aj => by simp [cZ]
  | .bl b => by simp [cZ]
  | .int i => by simp [cZ]
  | .str x => by simp [cZ]
  | .lst xs => by simp only [cZ]; exact jF xs
  | .tup xs => by simp only [cZ]; exact jF xs
theorem jF : ∀ ds : List Dt, gR ds ds = true
  | [] => by simp [gR]
  | d :: ds => by simp only [gR]; rw [iT d, jF ds]; rfl
end
theorem du : ∀ (xs ys : List Dt), gR xs ys = ((List.range (min xs.length ys.length)).all (fun j => cZ (xs.getD j .aj) (ys.getD j .aj)) && xs.length == ys.length)
  | [], [] => by simp [gR]
  | [], _ :: _ => by simp [gR]
  | _ :: _, [] => by simp [gR]
  | x :: xs, y :: ys => by
    rw [gR, du xs ys]
    have e : min (x :: xs).length (y :: ys).length = min xs.length ys.length + 1 := by simp [Nat.succ_min_succ]
    rw [e, List.range_succ_eq_map, List.all_cons, List.all_map]
    have e2 : ((x :: xs).length == (y :: ys).length) = (xs.length == ys.length) := by simp
    rw [e2, Bool.and_assoc]
    rfl
theorem dz.inj {H : Hp} {v : V} {d : Dt} (h : dz H v d) : ∀ {d' : Dt}, dz H v d' → d = d' := by
  induction h with
  | aj => intro d' h'; cases h'; rfl
  | bl b => intro d' h'; cases h'; rfl
  | int i => intro d' h'; cases h'; rfl
  | str x => intro d' h'; cases h'; rfl
  | lst e hl h ih =>
    intro d' h'
    cases h' with
    | lst e' Ca h' =>
      rw [e] at e'; cases e'
      congr 1
      refine List.ext_getElem? fun i => ?_
      rename_i xs ds eY
      by_cases hi : i < xs.length
      · rw [List.getElem?_eq_getElem (by omega), List.getElem?_eq_getElem (by omega)]
        exact congrArg some (ih i _ _ (List.getElem?_eq_getElem hi) (List.getElem?_eq_getElem (by omega)) (h' i _ _ (List.getElem?_eq_getElem hi) (List.getElem?_eq_getElem (by omega))))
      · rw [List.getElem?_eq_none (by omega), List.getElem?_eq_none (by omega)]
    | tup e' Ca h' => rw [e] at e'; cases e'
  | tup e hl h ih =>
    intro d' h'
    cases h' with
    | lst e' Ca h' => rw [e] at e'; cases e'
    | tup e' Ca h' =>
      rw [e] at e'; cases e'
      congr 1
      refine List.ext_getElem? fun i => ?_
      rename_i xs ds eY
      by_cases hi : i < xs.length
      · rw [List.getElem?_eq_getElem (by omega), List.getElem?_eq_getElem (by omega)]
        exact congrArg some (ih i _ _ (List.getElem?_eq_getElem hi) (List.getElem?_eq_getElem (by omega)) (h' i _ _ (List.getElem?_eq_getElem hi) (List.getElem?_eq_getElem (by omega))))
      · rw [List.getElem?_eq_none (by omega), List.getElem?_eq_none (by omega)]
mutual
noncomputable def fu : Dt → Nat
  | .lst xs => dP xs + 1
  | .tup xs => dP xs + 1
  | _ => 0
noncomputable def dP : List Dt → Nat
  | [] => 0
  | x :: xs => max (fu x) (dP xs)
end
theorem gS : ∀ {ds : List Dt} {i : Nat} {d : Dt}, ds[i]? = some d → fu d ≤ dP ds
  | [], _, _, h => by simp at h
  | x :: xs, 0, d, h => by
    simp at h; subst h
    rw [dP]; exact Nat.le_max_left _ _
  | x :: xs, i + 1, d, h => by
    rw [dP]
    exact Nat.le_trans (gS (i := i) (by simpa using h)) (Nat.le_max_right _ _)
section
variable {X : Cx} {pins : List (Addr × Obj)} {σ : St} {H : Hp} {s : Shared}
theorem Inv.lists (I : Inv X pins σ H s) {a : Addr} {xs : List V} (h : H a = some (.lst xs)) : ∃ its : List Value, Vals xs its ∧ s.heap.IsList a its.toArray := by
  obtain ⟨its, rv, p, _⟩ := I.list (bH.of h)
  exact ⟨its, rv, p.isList⟩
theorem Inv.tups (I : Inv X pins σ H s) {a : Addr} {xs : List V} (h : H a = some (.tup xs)) : ∃ its : List Value, Vals xs its ∧ s.heap.IsTuple a its.toArray := by
  obtain ⟨its, rv, p, _⟩ := I.tuple (bR.of h)
  exact ⟨its, rv, p⟩
theorem lM (I : Inv X pins σ H s) {x y : V} {d : Dt} (hx : dz H x d) : ∀ {e : Dt} {u v : Value} {A : Around}, dz H y e → RelV x u → RelV y v → A.units + fu d < cLine → SeqAt.EqAt A s u v (cZ d e) := by
  have lists := fun {a : Addr} {xs : List V} (h : H a = some (.lst xs)) => I.lists h
  have tups := fun {a : Addr} {xs : List V} (h : H a = some (.tup xs)) => I.tups h
  induction hx generalizing y with
  | aj =>
    intro e u v A hy rx ry hu
    have aI : A.units < cLine := by omega
    cases rx
    cases hy with
    | aj => cases ry; exact SeqAt.EqAt.same _
    | bl b => cases ry; exact SeqAt.EqAt.none_bool _
    | int i => obtain ⟨t, rfl⟩ := ry; exact SeqAt.EqAt.none_int _ _
    | str z => obtain ⟨t, rfl⟩ := ry; exact SeqAt.EqAt.none_str _ _
    | lst e2 _ _ => cases ry; obtain ⟨_, _, p⟩ := lists e2; exact SeqAt.EqAt.none_list p aI
    | tup e2 _ _ => cases ry; obtain ⟨_, _, p⟩ := tups e2; exact SeqAt.EqAt.none_tuple p aI
  | bl a =>
    intro e u v A hy rx ry hu
    have aI : A.units < cLine := by omega
    cases rx
    cases hy with
    | aj => cases ry; exact SeqAt.EqAt.bool_none _
    | bl b => cases ry; exact SeqAt.EqAt.bool_bool _ _
    | int i => obtain ⟨t, rfl⟩ := ry; exact SeqAt.EqAt.bool_int _ _ _
    | str z => obtain ⟨t, rfl⟩ := ry; exact SeqAt.EqAt.bool_str _ _ _
    | lst e2 _ _ => cases ry; obtain ⟨_, _, p⟩ := lists e2; exact SeqAt.EqAt.bool_list _ p aI
    | tup e2 _ _ => cases ry; obtain ⟨_, _, p⟩ := tups e2; exact SeqAt.EqAt.bool_tuple _ p aI
  | int a =>
    intro e u v A hy rx ry hu
    have aI : A.units < cLine := by omega
    obtain ⟨ta, rfl⟩ := rx
    cases hy with
    | aj => cases ry; exact SeqAt.EqAt.int_none _ _
    | bl b => cases ry; exact SeqAt.EqAt.int_bool _ _ _
    | int i => obtain ⟨t, rfl⟩ := ry; exact SeqAt.EqAt.int_int _ _ _ _
    | str z => obtain ⟨t, rfl⟩ := ry; exact SeqAt.EqAt.int_str _ _ _ _
    | lst e2 _ _ => cases ry; obtain ⟨_, _, p⟩ := lists e2; exact SeqAt.EqAt.int_list _ _ p aI
    | tup e2 _ _ => cases ry; obtain ⟨_, _, p⟩ := tups e2; exact SeqAt.EqAt.int_tuple _ _ p aI
  | str a =>
    intro e u v A hy rx ry hu
    have aI : A.units < cLine := by omega
    obtain ⟨ta, rfl⟩ := rx
    cases hy with
    | aj => cases ry; exact SeqAt.EqAt.str_none _ _
    | bl b => cases ry; exact SeqAt.EqAt.str_bool _ _ _
    | int i => obtain ⟨t, rfl⟩ := ry; exact SeqAt.EqAt.str_int _ _ _ _
    | str z => obtain ⟨t, rfl⟩ := ry; exact SeqAt.EqAt.str_str _ _ _ _
    | lst e2 _ _ => cases ry; obtain ⟨_, _, p⟩ := lists e2; exact SeqAt.EqAt.str_list _ _ p aI
    | tup e2 _ _ => cases ry; obtain ⟨_, _, p⟩ := tups e2; exact SeqAt.EqAt.str_tuple _ _ p aI
  | lst e1 hV h1 ih =>
    rename_i a xs ds
    intro e u v A hy rx ry hu
    have aI : A.units < cLine := by omega
    have uY : A.units + dP ds + 1 < cLine := by rw [fu] at hu; omega
    cases rx
    obtain ⟨its, rv, p⟩ := lists e1
    cases hy with
    | aj => cases ry; exact SeqAt.EqAt.list_none p aI
    | bl b => cases ry; exact SeqAt.EqAt.list_bool _ p aI
    | int i => obtain ⟨t, rfl⟩ := ry; exact SeqAt.EqAt.list_int _ _ p aI
    | str z => obtain ⟨t, rfl⟩ := ry; exact SeqAt.EqAt.list_str _ _ p aI
    | lst e2 fb h2 =>
      rename_i b ys es
      cases ry
      by_cases uZ : a = b
      · subst uZ
        have := (dz.lst e1 hV h1).inj (dz.lst e2 fb h2)
        cases this
        rw [iT]
        exact SeqAt.EqAt.same _
      · obtain ⟨bB, fe, p2⟩ := lists e2
        have l1 := rv.length
        have l2 := fe.length
        have at_ : ∀ j (g1 : j < its.toArray.size) (g2 : j < bB.toArray.size), SeqAt.EqAt A.in1 s its.toArray[j] bB.toArray[j] (cZ (ds.getD j .aj) (es.getD j .aj)) := fun j g1 g2 => by
          have fT : j < xs.length := by rw [l1]; simpa using g1
          have fU : j < ys.length := by rw [l2]; simpa using g2
          have r1 := bO rv g1
          have r2 := bO fe g2
          rw [List.getD_eq_getElem?_getD, List.getElem?_eq_getElem fT] at r1
          rw [List.getD_eq_getElem?_getD, List.getElem?_eq_getElem fU] at r2
          have d1 : ds[j]? = some ds[j] := List.getElem?_eq_getElem (by omega)
          have d2 : es[j]? = some es[j] := List.getElem?_eq_getElem (by omega)
          rw [List.getD_eq_getElem?_getD, List.getD_eq_getElem?_getD, d1, d2]
          have := gS d1
          exact ih j _ _ (List.getElem?_eq_getElem fT) d1 (h2 j _ _ (List.getElem?_eq_getElem fU) d2) r1 r2 (by show A.units + 1 + _ < cLine; omega)
        refine SeqAt.EqAt.of_refs uZ ?_
        rw [cZ, du]
        by_cases cY : ds.length = es.length
        · have q := SeqAt.RcAt.lists p p2 (by simp only [List.size_toArray]; omega) aI at_
          have z : (ds.length == es.length) = true := by simpa using cY
          rw [z, Bool.and_true, ← cY, Nat.min_self]
          rw [List.size_toArray, ← l1, hV] at q
          exact q
        · have z : (ds.length == es.length) = false := by simpa using cY
          rw [z, Bool.and_false]
          exact SeqAt.RcAt.lists_lengths p p2 (by simp only [List.size_toArray]; simpa [bne_iff_ne] using (show its.length ≠ bB.length by omega)) aI
    | tup e2 fb h2 => cases ry; obtain ⟨_, _, p2⟩ := tups e2; exact SeqAt.EqAt.list_tuple p p2 aI
  | tup e1 hV h1 ih =>
    rename_i a xs ds
    intro e u v A hy rx ry hu
    have aI : A.units < cLine := by omega
    have uY : A.units + dP ds + 1 < cLine := by rw [fu] at hu; omega
    cases rx
    obtain ⟨its, rv, p⟩ := tups e1
    cases hy with
    | aj => cases ry; exact SeqAt.EqAt.tuple_none p aI
    | bl b => cases ry; exact SeqAt.EqAt.tuple_bool _ p aI
    | int i => obtain ⟨t, rfl⟩ := ry; exact SeqAt.EqAt.tuple_int _ _ p aI
    | str z => obtain ⟨t, rfl⟩ := ry; exact SeqAt.EqAt.tuple_str _ _ p aI
    | lst e2 fb h2 => cases ry; obtain ⟨_, _, p2⟩ := lists e2; exact SeqAt.EqAt.tuple_list p p2 aI
    | tup e2 fb h2 =>
      rename_i b ys es
      cases ry
      by_cases uZ : a = b
      · subst uZ
        have := (dz.tup e1 hV h1).inj (dz.tup e2 fb h2)
        cases this
        rw [iT]
        exact SeqAt.EqAt.same _
      · obtain ⟨bB, fe, p2⟩ := tups e2
        have l1 := rv.length
        have l2 := fe.length
        have at_ : ∀ j (g1 : j < its.toArray.size) (g2 : j < bB.toArray.size), SeqAt.EqAt A.in1 s its.toArray[j] bB.toArray[j] (cZ (ds.getD j .aj) (es.getD j .aj)) := fun j g1 g2 => by
          have fT : j < xs.length := by rw [l1]; simpa using g1
          have fU : j < ys.length := by rw [l2]; simpa using g2
          have r1 := bO rv g1
          have r2 := bO fe g2
          rw [List.getD_eq_getElem?_getD, List.getElem?_eq_getElem fT] at r1
          rw [List.getD_eq_getElem?_getD, List.getElem?_eq_getElem fU] at r2
          have d1 : ds[j]? = some ds[j] := List.getElem?_eq_getElem (by omega)
          have d2 : es[j]? = some es[j] := List.getElem?_eq_getElem (by omega)
          rw [List.getD_eq_getElem?_getD, List.getD_eq_getElem?_getD, d1, d2]
          have := gS d1
          exact ih j _ _ (List.getElem?_eq_getElem fT) d1 (h2 j _ _ (List.getElem?_eq_getElem fU) d2) r1 r2 (by show A.units + 1 + _ < cLine; omega)
        refine SeqAt.EqAt.of_refs uZ ?_
        rw [cZ, du]
        have q := SeqAt.RcAt.tuples p p2 aI at_
        rw [List.size_toArray, List.size_toArray, ← l1, ← l2, hV, fb] at q
        exact q
end
section
variable {X : Cx} {pins : List (Addr × Obj)} {σ : St} {H : Hp} {s : Shared}
theorem Cb (I : Inv X pins σ H s) {x y : V} {d e : Dt} {u v : Value} {A : Around} (hx : dz H x d) (hy : dz H y e) (rx : RelV x u) (ry : RelV y v) (hu : A.units + fu d < cLine) : SeqAt.RcAt A s u v (cZ d e) := by
  have aI : A.units < cLine := by omega
  have lists := fun {a : Addr} {xs : List V} (h : H a = some (.lst xs)) => I.lists h
  have tups := fun {a : Addr} {xs : List V} (h : H a = some (.tup xs)) => I.tups h
  cases hx with
  | aj =>
    cases rx
    cases hy with
    | aj => cases ry; exact SeqAt.RcAt.none_none
    | bl b => cases ry; exact SeqAt.RcAt.none_bool _
    | int b => obtain ⟨t, rfl⟩ := ry; exact SeqAt.RcAt.none_int _ _
    | str b => obtain ⟨t, rfl⟩ := ry; exact SeqAt.RcAt.none_str _ _
    | lst e2 _ _ => cases ry; obtain ⟨_, _, p⟩ := lists e2; exact SeqAt.RcAt.none_list p aI
    | tup e2 _ _ => cases ry; obtain ⟨_, _, p⟩ := tups e2; exact SeqAt.RcAt.none_tuple p aI
  | bl a =>
    cases rx
    cases hy with
    | aj => cases ry; exact SeqAt.RcAt.bool_none _
    | bl b => cases ry; exact SeqAt.RcAt.bool_bool _ _
    | int b => obtain ⟨t, rfl⟩ := ry; exact SeqAt.RcAt.bool_int _ _ _
    | str b => obtain ⟨t, rfl⟩ := ry; exact SeqAt.RcAt.bool_str _ _ _
    | lst e2 _ _ => cases ry; obtain ⟨_, _, p⟩ := lists e2; exact SeqAt.RcAt.bool_list _ p aI
    | tup e2 _ _ => cases ry; obtain ⟨_, _, p⟩ := tups e2; exact SeqAt.RcAt.bool_tuple _ p aI
  | int a =>
    obtain ⟨ta, rfl⟩ := rx
    cases hy with
    | aj => cases ry; exact SeqAt.RcAt.int_none _ _
    | bl b => cases ry; exact SeqAt.RcAt.int_bool _ _ _
    | int b => obtain ⟨t, rfl⟩ := ry; exact SeqAt.RcAt.int_int _ _ _ _
    | str b => obtain ⟨t, rfl⟩ := ry; exact SeqAt.RcAt.int_str _ _ _ _
    | lst e2 _ _ => cases ry; obtain ⟨_, _, p⟩ := lists e2; exact SeqAt.RcAt.int_list _ _ p aI
    | tup e2 _ _ => cases ry; obtain ⟨_, _, p⟩ := tups e2; exact SeqAt.RcAt.int_tuple _ _ p aI
  | str a =>
    obtain ⟨ta, rfl⟩ := rx
    cases hy with
    | aj => cases ry; exact SeqAt.RcAt.str_none _ _
    | bl b => cases ry; exact SeqAt.RcAt.str_bool _ _ _
    | int b => obtain ⟨t, rfl⟩ := ry; exact SeqAt.RcAt.str_int _ _ _ _
    | str b => obtain ⟨t, rfl⟩ := ry; exact SeqAt.RcAt.str_str _ _ _ _
    | lst e2 _ _ => cases ry; obtain ⟨_, _, p⟩ := lists e2; exact SeqAt.RcAt.str_list _ _ p aI
    | tup e2 _ _ => cases ry; obtain ⟨_, _, p⟩ := tups e2; exact SeqAt.RcAt.str_tuple _ _ p aI
  | lst e1 hV h1 =>
    rename_i a xs ds
    have uY : A.units + dP ds + 1 < cLine := by rw [fu] at hu; omega
    cases rx
    obtain ⟨its, rv, p⟩ := lists e1
    cases hy with
    | aj => cases ry; exact SeqAt.RcAt.list_none p aI
    | bl b => cases ry; exact SeqAt.RcAt.list_bool _ p aI
    | int b => obtain ⟨t, rfl⟩ := ry; exact SeqAt.RcAt.list_int _ _ p aI
    | str b => obtain ⟨t, rfl⟩ := ry; exact SeqAt.RcAt.list_str _ _ p aI
    | lst e2 fb h2 =>
      rename_i b ys es
      cases ry
      obtain ⟨bB, fe, p2⟩ := lists e2
      have l1 := rv.length
      have l2 := fe.length
      have at_ : ∀ j (g1 : j < its.toArray.size) (g2 : j < bB.toArray.size), SeqAt.EqAt A.in1 s its.toArray[j] bB.toArray[j] (cZ (ds.getD j .aj) (es.getD j .aj)) := fun j g1 g2 => by
        have fT : j < xs.length := by rw [l1]; simpa using g1
        have fU : j < ys.length := by rw [l2]; simpa using g2
        have r1 := bO rv g1
        have r2 := bO fe g2
        rw [List.getD_eq_getElem?_getD, List.getElem?_eq_getElem fT] at r1
        rw [List.getD_eq_getElem?_getD, List.getElem?_eq_getElem fU] at r2
        have d1 : ds[j]? = some ds[j] := List.getElem?_eq_getElem (by omega)
        have d2 : es[j]? = some es[j] := List.getElem?_eq_getElem (by omega)
        rw [List.getD_eq_getElem?_getD, List.getD_eq_getElem?_getD, d1, d2]
        have := gS d1
        exact lM I (h1 j _ _ (List.getElem?_eq_getElem fT) d1) (h2 j _ _ (List.getElem?_eq_getElem fU) d2) r1 r2 (by show A.units + 1 + _ < cLine; omega)
      rw [cZ, du]
      by_cases cY : ds.length = es.length
      · have q := SeqAt.RcAt.lists p p2 (by simp only [List.size_toArray]; omega) aI at_
        have z : (ds.length == es.length) = true := by simpa using cY
        rw [z, Bool.and_true, ← cY, Nat.min_self]
        rw [List.size_toArray, ← l1, hV] at q
        exact q
      · have z : (ds.length == es.length) = false := by simpa using cY
        rw [z, Bool.and_false]
        exact SeqAt.RcAt.lists_lengths p p2 (by simp only [List.size_toArray]; simpa [bne_iff_ne] using (show its.length ≠ bB.length by omega)) aI
    | tup e2 fb h2 => cases ry; obtain ⟨_, _, p2⟩ := tups e2; exact SeqAt.RcAt.list_tuple p p2 aI
  | tup e1 hV h1 =>
    rename_i a xs ds
    have uY : A.units + dP ds + 1 < cLine := by rw [fu] at hu; omega
    cases rx
    obtain ⟨its, rv, p⟩ := tups e1
    cases hy with
    | aj => cases ry; exact SeqAt.RcAt.tuple_none p aI
    | bl b => cases ry; exact SeqAt.RcAt.tuple_bool _ p aI
    | int b => obtain ⟨t, rfl⟩ := ry; exact SeqAt.RcAt.tuple_int _ _ p aI
    | str b => obtain ⟨t, rfl⟩ := ry; exact SeqAt.RcAt.tuple_str _ _ p aI
    | lst e2 fb h2 => cases ry; obtain ⟨_, _, p2⟩ := lists e2; exact SeqAt.RcAt.tuple_list p p2 aI
    | tup e2 fb h2 =>
      rename_i b ys es
      cases ry
      obtain ⟨bB, fe, p2⟩ := tups e2
      have l1 := rv.length
      have l2 := fe.length
      have at_ : ∀ j (g1 : j < its.toArray.size) (g2 : j < bB.toArray.size), SeqAt.EqAt A.in1 s its.toArray[j] bB.toArray[j] (cZ (ds.getD j .aj) (es.getD j .aj)) := fun j g1 g2 => by
        have fT : j < xs.length := by rw [l1]; simpa using g1
        have fU : j < ys.length := by rw [l2]; simpa using g2
        have r1 := bO rv g1
        have r2 := bO fe g2
        rw [List.getD_eq_getElem?_getD, List.getElem?_eq_getElem fT] at r1
        rw [List.getD_eq_getElem?_getD, List.getElem?_eq_getElem fU] at r2
        have d1 : ds[j]? = some ds[j] := List.getElem?_eq_getElem (by omega)
        have d2 : es[j]? = some es[j] := List.getElem?_eq_getElem (by omega)
        rw [List.getD_eq_getElem?_getD, List.getD_eq_getElem?_getD, d1, d2]
        have := gS d1
        exact lM I (h1 j _ _ (List.getElem?_eq_getElem fT) d1) (h2 j _ _ (List.getElem?_eq_getElem fU) d2) r1 r2 (by show A.units + 1 + _ < cLine; omega)
      rw [cZ, du]
      have q := SeqAt.RcAt.tuples p p2 aI at_
      rw [List.size_toArray, List.size_toArray, ← l1, ← l2, hV, fb] at q
      exact q
theorem Cd (I : Inv X pins σ H s) {x y : V} {d e : Dt} {u v : Value} {A : Around} (hx : dz H x d) (hy : dz H y e) (rx : RelV x u) (ry : RelV y v) (hu : A.units + fu d < cLine) : SeqAt.RcNeAt A s u v (!(cZ d e)) := by
  have aI : A.units < cLine := by omega
  have lists := fun {a : Addr} {xs : List V} (h : H a = some (.lst xs)) => I.lists h
  have tups := fun {a : Addr} {xs : List V} (h : H a = some (.tup xs)) => I.tups h
  cases hx with
  | aj =>
    cases rx
    cases hy with
    | aj => cases ry; exact SeqAt.RcNeAt.none_none
    | bl b => cases ry; exact SeqAt.RcNeAt.none_bool _
    | int b => obtain ⟨t, rfl⟩ := ry; exact SeqAt.RcNeAt.none_int _ _
    | str b => obtain ⟨t, rfl⟩ := ry; exact SeqAt.RcNeAt.none_str _ _
    | lst e2 _ _ => cases ry; obtain ⟨_, _, p⟩ := lists e2; exact SeqAt.RcNeAt.none_list p aI
    | tup e2 _ _ => cases ry; obtain ⟨_, _, p⟩ := tups e2; exact SeqAt.RcNeAt.none_tuple p aI
  | bl a =>
    cases rx
    cases hy with
    | aj => cases ry; exact SeqAt.RcNeAt.bool_none _
    | bl b => cases ry; exact SeqAt.RcNeAt.bool_bool _ _
    | int b => obtain ⟨t, rfl⟩ := ry; exact SeqAt.RcNeAt.bool_int _ _ _
    | str b => obtain ⟨t, rfl⟩ := ry; exact SeqAt.RcNeAt.bool_str _ _ _
    | lst e2 _ _ => cases ry; obtain ⟨_, _, p⟩ := lists e2; exact SeqAt.RcNeAt.bool_list _ p aI
    | tup e2 _ _ => cases ry; obtain ⟨_, _, p⟩ := tups e2; exact SeqAt.RcNeAt.bool_tuple _ p aI
  | int a =>
    obtain ⟨ta, rfl⟩ := rx
    cases hy with
    | aj => cases ry; exact SeqAt.RcNeAt.int_none _ _
    | bl b => cases ry; exact SeqAt.RcNeAt.int_bool _ _ _
    | int b => obtain ⟨t, rfl⟩ := ry; exact SeqAt.RcNeAt.int_int _ _ _ _
    | str b => obtain ⟨t, rfl⟩ := ry; exact SeqAt.RcNeAt.int_str _ _ _ _
    | lst e2 _ _ => cases ry; obtain ⟨_, _, p⟩ := lists e2; exact SeqAt.RcNeAt.int_list _ _ p aI
    | tup e2 _ _ => cases ry; obtain ⟨_, _, p⟩ := tups e2; exact SeqAt.RcNeAt.int_tuple _ _ p aI
  | str a =>
    obtain ⟨ta, rfl⟩ := rx
    cases hy with
    | aj => cases ry; exact SeqAt.RcNeAt.str_none _ _
    | bl b => cases ry; exact SeqAt.RcNeAt.str_bool _ _ _
    | int b => obtain ⟨t, rfl⟩ := ry; exact SeqAt.RcNeAt.str_int _ _ _ _
    | str b => obtain ⟨t, rfl⟩ := ry; exact SeqAt.RcNeAt.str_str _ _ _ _
    | lst e2 _ _ => cases ry; obtain ⟨_, _, p⟩ := lists e2; exact SeqAt.RcNeAt.str_list _ _ p aI
    | tup e2 _ _ => cases ry; obtain ⟨_, _, p⟩ := tups e2; exact SeqAt.RcNeAt.str_tuple _ _ p aI
  | lst e1 hV h1 =>
    rename_i a xs ds
    have uY : A.units + dP ds + 1 < cLine := by rw [fu] at hu; omega
    cases rx
    obtain ⟨its, rv, p⟩ := lists e1
    cases hy with
    | aj => cases ry; exact SeqAt.RcNeAt.list_none p aI
    | bl b => cases ry; exact SeqAt.RcNeAt.list_bool _ p aI
    | int b => obtain ⟨t, rfl⟩ := ry; exact SeqAt.RcNeAt.list_int _ _ p aI
    | str b => obtain ⟨t, rfl⟩ := ry; exact SeqAt.RcNeAt.list_str _ _ p aI
    | lst e2 fb h2 =>
      rename_i b ys es
      cases ry
      obtain ⟨bB, fe, p2⟩ := lists e2
      have l1 := rv.length
      have l2 := fe.length
      have at_ : ∀ j (g1 : j < its.toArray.size) (g2 : j < bB.toArray.size), SeqAt.EqAt A.in1 s its.toArray[j] bB.toArray[j] (cZ (ds.getD j .aj) (es.getD j .aj)) := fun j g1 g2 => by
        have fT : j < xs.length := by rw [l1]; simpa using g1
        have fU : j < ys.length := by rw [l2]; simpa using g2
        have r1 := bO rv g1
        have r2 := bO fe g2
        rw [List.getD_eq_getElem?_getD, List.getElem?_eq_getElem fT] at r1
        rw [List.getD_eq_getElem?_getD, List.getElem?_eq_getElem fU] at r2
        have d1 : ds[j]? = some ds[j] := List.getElem?_eq_getElem (by omega)
        have d2 : es[j]? = some es[j] := List.getElem?_eq_getElem (by omega)
        rw [List.getD_eq_getElem?_getD, List.getD_eq_getElem?_getD, d1, d2]
        have := gS d1
        exact lM I (h1 j _ _ (List.getElem?_eq_getElem fT) d1) (h2 j _ _ (List.getElem?_eq_getElem fU) d2) r1 r2 (by show A.units + 1 + _ < cLine; omega)
      rw [cZ, du]
      by_cases cY : ds.length = es.length
      · have q := SeqAt.RcNeAt.lists p p2 (by simp only [List.size_toArray]; omega) aI at_
        have z : (ds.length == es.length) = true := by simpa using cY
        rw [z, Bool.and_true, ← cY, Nat.min_self]
        rw [List.size_toArray, ← l1, hV] at q
        exact q
      · have z : (ds.length == es.length) = false := by simpa using cY
        rw [z, Bool.and_false]
        exact SeqAt.RcNeAt.lists_lengths p p2 (by simp only [List.size_toArray]; simpa [bne_iff_ne] using (show its.length ≠ bB.length by omega)) aI
    | tup e2 fb h2 => cases ry; obtain ⟨_, _, p2⟩ := tups e2; exact SeqAt.RcNeAt.list_tuple p p2 aI
  | tup e1 hV h1 =>
    rename_i a xs ds
    have uY : A.units + dP ds + 1 < cLine := by rw [fu] at hu; omega
    cases rx
    obtain ⟨its, rv, p⟩ := tups e1
    cases hy with
    | aj => cases ry; exact SeqAt.RcNeAt.tuple_none p aI
    | bl b => cases ry; exact SeqAt.RcNeAt.tuple_bool _ p aI
    | int b => obtain ⟨t, rfl⟩ := ry; exact SeqAt.RcNeAt.tuple_int _ _ p aI
    | str b => obtain ⟨t, rfl⟩ := ry; exact SeqAt.RcNeAt.tuple_str _ _ p aI
    | lst e2 fb h2 => cases ry; obtain ⟨_, _, p2⟩ := lists e2; exact SeqAt.RcNeAt.tuple_list p p2 aI
    | tup e2 fb h2 =>
      rename_i b ys es
      cases ry
      obtain ⟨bB, fe, p2⟩ := tups e2
      have l1 := rv.length
      have l2 := fe.length
      have at_ : ∀ j (g1 : j < its.toArray.size) (g2 : j < bB.toArray.size), SeqAt.EqAt A.in1 s its.toArray[j] bB.toArray[j] (cZ (ds.getD j .aj) (es.getD j .aj)) := fun j g1 g2 => by
        have fT : j < xs.length := by rw [l1]; simpa using g1
        have fU : j < ys.length := by rw [l2]; simpa using g2
        have r1 := bO rv g1
        have r2 := bO fe g2
        rw [List.getD_eq_getElem?_getD, List.getElem?_eq_getElem fT] at r1
        rw [List.getD_eq_getElem?_getD, List.getElem?_eq_getElem fU] at r2
        have d1 : ds[j]? = some ds[j] := List.getElem?_eq_getElem (by omega)
        have d2 : es[j]? = some es[j] := List.getElem?_eq_getElem (by omega)
        rw [List.getD_eq_getElem?_getD, List.getD_eq_getElem?_getD, d1, d2]
        have := gS d1
        exact lM I (h1 j _ _ (List.getElem?_eq_getElem fT) d1) (h2 j _ _ (List.getElem?_eq_getElem fU) d2) r1 r2 (by show A.units + 1 + _ < cLine; omega)
      rw [cZ, du]
      have q := SeqAt.RcNeAt.tuples p p2 aI at_
      rw [List.size_toArray, List.size_toArray, ← l1, ← l2, hV, fb] at q
      exact q
end
section
variable {X : Cx}
noncomputable def wY (neg : Bool) : R2 := fun x y H Q => ∃ d e, dz H x d ∧ dz H y e ∧ fu d ≤ 60 ∧ Q (.bl (if neg then !cZ d e else cZ d e)) H
theorem IP (hu : X.A.units + 64 < cLine) : OpR X (compareOp .Eq) (wY false) := by
  intro pins s σ H x y v u Q I rx ry h
  obtain ⟨d, e, hx, hy, hd, q⟩ := h
  exact Cb I hx hy rx ry (by omega) X.prog X.w X.xe _ ⟨.bl _, H, I, rfl, q⟩
theorem Ce (hu : X.A.units + 64 < cLine) : OpR X (compareOp .NotEq) (wY true) := by
  intro pins s σ H x y v u Q I rx ry h
  obtain ⟨d, e, hx, hy, hd, q⟩ := h
  exact Cd I hx hy rx ry (by omega) X.prog X.w X.xe _ ⟨.bl _, H, I, rfl, q⟩
end
theorem bg.there {P : Program} {w : World} {H : Hp} {h : Heap} {a : Addr} {o : HO} (x : bg P w H h a o) : ∃ u, h.get? a = some u := by
  cases o with
  | lst xs => obtain ⟨_, _, _, _, e⟩ := x; exact ⟨_, e⟩
  | tup xs => obtain ⟨_, _, _, ob, e, _⟩ := x; exact ⟨_, e⟩
  | dK bG => obtain ⟨_, _, _, _, o, _, _, e, _⟩ := x; exact ⟨_, e⟩
  | dT bG => obtain ⟨_, _, _, _, o, _, _, e, _⟩ := x; exact ⟨_, e⟩
  | set S n => obtain ⟨o, _, _, _, e, _⟩ := x; exact ⟨_, e⟩
  | ins C dx fs => obtain ⟨_, _, _, e, _⟩ := x; exact ⟨_, e⟩
  | own y => obtain ⟨_, e⟩ := x; exact ⟨_, e⟩
  | xd fs => obtain ⟨_, ⟨_, _, _, e, _⟩, _⟩ := x; exact ⟨_, e⟩
  | yf lo hi => obtain ⟨_, _, _, e⟩ := x; exact ⟨_, e⟩
  | ef ob u => obtain ⟨e, _⟩ := x; exact ⟨_, e⟩
  | b0 ps => exact ⟨_, x⟩
  | lam ps => exact ⟨_, x⟩
  | met f y => exact ⟨_, x⟩
  | ext φ => obtain ⟨_, ⟨_, e⟩, _⟩ := x; exact ⟨_, e⟩
noncomputable def dn (P : Program) (w : World) : iE := fun outer H s E e s' => ∃ (a C t : Addr) (B : Heap) (H' : Hp), e = .ref a ∧ s'.os = s.os ∧ Gn s.gens.size s'.gens ∧ Heap.FlyingW B outer a (.ref C) (.ref t) s'.heap ∧
  (∀ b o, s.heap.get? b = some o → b ∉ eh outer → ∃ o', B.get? b = some o') ∧ (∀ b u, H' b = some u → ∃ o', B.get? b = some o') ∧ Un (eh outer) [] H H' s.heap s'.heap ∧ c9 P w H' s'.heap ∧ E (.ref C) none H'
section
variable {X : Cx} {pins : List (Addr × Obj)} {σ : St} {H H1 : Hp} {s s1 : Shared} {B h' : Heap}
theorem Inv.jG (I : Inv X pins σ H s) {b : Addr} (h1 : b ≠ X.env.locals) (h2 : b ∉ X.fs) : b ∉ eh X.stack := fun z => by
  rcases List.mem_cons.mp (I.gJ b z) with q | q
  · exact h1 q
  · exact h2 q
theorem Inv.iU (I : Inv X pins σ H s) {b : Addr} {o : Obj} (e : X.s₀.heap.get? b = some o) : b ≠ X.env.locals := fun z => by
  have l := Heap.lt_size e
  have := I.ok.above
  rw [← z] at this
  exact absurd l (Nat.not_lt.mpr this)
theorem Inv.yA (I1 : Inv X pins σ H1 s1) (I : Inv X pins σ H s) (c1 : ∀ b o, s1.heap.get? b = some o → b ∉ eh X.stack → ∃ o', B.get? b = some o') (c2 : ∀ b u, H b = some u → ∃ o', B.get? b = some o')
    (k : B.StaysIn s.heap) (k' : B.StaysIn h') (up : s.heap.UpToSlots h') : Inv X pins σ H { s with heap := h' } := by
  have same : ∀ b o', (∃ o2, B.get? b = some o2) → s.heap.get? b = some o' → h'.get? b = some o' := fun b o' ⟨o2, e⟩ q => by
    have z := k b o2 e
    rw [q] at z
    cases z
    exact k' b _ e
  refine ⟨I.ok, I.os, I.bare, ⟨fun b o q n hb hx => ?_, fun b o q n hb hx => ?_, I.base.free, fun b o q hx => ?_, I.base.tups, I.base.frzs, I.base.tbls⟩, ?_, fun x c e => ?_, I.free, I.freeC, fun p hp => ?_, fun a o e => ?_, I.len⟩
  · exact same b o (c1 b o (I1.base.keep b o q n hb hx) (I.jG (I.iU q) hb)) (I.base.keep b o q n hb hx)
  · obtain ⟨sl, e⟩ := I.base.slot b o q n hb hx
    obtain ⟨_, o2, e2, nf⟩ := I.funs.mem hb
    rw [e] at e2
    cases e2
    obtain ⟨nA, e4⟩ := up b { o with slots := sl } e nf
    exact ⟨nA, e4⟩
  · obtain ⟨o', e⟩ := I.base.there b o q hx
    by_cases hb : b ∈ X.fs
    · obtain ⟨_, o2, e2, nf⟩ := I.funs.mem hb
      obtain ⟨sl, e3⟩ := up b _ e2 nf
      exact ⟨_, e3⟩
    · obtain ⟨o1, q1⟩ := I1.base.there b o q hx
      exact ⟨o', same b o' (c1 b o1 q1 (I.jG (I.iU q) hb)) e⟩
  · obtain ⟨m, hn, hl⟩ := I.loc
    refine ⟨m, up.ns hn, fun i x v a b c => ?_⟩
    obtain ⟨u, r, l⟩ := hl i x v a b c
    refine ⟨u, r, ?_⟩
    rcases l with l | ⟨kd, c, ec, o, ho, hd⟩
    · exact .inl l
    · obtain ⟨sl, e⟩ := up c o ho fun vs z => by rw [hd] at z; cases z
      exact .inr ⟨kd, c, ec, _, e, hd⟩
  · obtain ⟨v, o, ho, hd⟩ := I.cell x c e
    obtain ⟨sl, e⟩ := up c o ho fun vs z => by rw [hd] at z; cases z
    exact ⟨v, _, e, hd⟩
  · obtain ⟨p1, p2, p3, p4, p5⟩ := I.pin p hp
    exact ⟨same p.1 p.2 (c1 p.1 p.2 (I1.pin p hp).1 (I.jG p3 p4)) p1, p2, p3, p4, p5⟩
  · refine (I.hok a o e).gH (fun b u hb q => ?_) (fun _ q => q) fun _ _ q => q
    rcases hb with z | z
    · exact same b u (c2 b o (by rw [z]; exact e)) q
    · exact same b u (c2 b _ z) q
end
section
variable {P : Program} {w : World} {K : PySem.W.Frag} {mg : Str → Option Value} {base : Heap} {N : List Str} {qual : Str} {scope : Scope} {f : Addr} {cd : Value} {A : Around} {outer : List Env} {s0 : Shared} {H0 : Hp} {E : XK}
theorem sT : Passes (dn P w) (eQ (dn P w) P w K mg base N qual scope f cd A outer s0 H0 E) E := by
  intro pins σ H s e s' I h
  obtain ⟨a, C, t, B, H', rfl, os, gn, fl, c1, c2, un, hok, q⟩ := h
  have I' := I.oB (ch := []) os un hok gn (fun b z => absurd z (by simp))
  refine wpAny_leaves_onW (cls := .ref C) (a0 := .ref t) I.ok.frames rfl fl fun h' yB up => ?_
  have I2 := I.yA I' c1 c2 fl.1 yB.1 up
  refine ⟨a, C, t, B, H', rfl, I2.os, I2.bare, yB, fun b o e n => ?_, c2, I2.base, I2.hok, q⟩
  obtain ⟨o1, e1⟩ := I.base.there b o e (fun z => absurd (show b ∈ ([] : List Addr) from z) (by simp))
  exact c1 b o1 e1 (I.jG (I.iU e) n)
noncomputable def Raises (X : Cx) (E : XK) : Prop := ∀ (pins : List (Addr × Obj)) (σ : St) (H : Hp) (s : Shared) (C : Addr) (h' : Heap) (a : Addr) (vs : List Value), Inv X pins σ H s → Heap.MadeExcOf s.heap h' a (.ref C) vs → E (.ref C) none H → X.xe (.ref a) { s with heap := h' }
theorem Cg : Raises (eQ (dn P w) P w K mg base N qual scope f cd A outer s0 H0 E) E := by
  intro pins σ H s C h' a vs I hx q
  have c1 : ∀ b o, s.heap.get? b = some o → b ∉ eh (eQ (dn P w) P w K mg base N qual scope f cd A outer s0 H0 E).stack → ∃ o', (PySem.W.hideAll s.heap (eh (eQ (dn P w) P w K mg base N qual scope f cd A outer s0 H0 E).stack)).get? b = some o' :=
    fun b o e n => ⟨o, PySem.W.hideAll_get _ e n⟩
  have c2 : ∀ b u, H b = some u → ∃ o', (PySem.W.hideAll s.heap (eh (eQ (dn P w) P w K mg base N qual scope f cd A outer s0 H0 E).stack)).get? b = some o' := fun b u hu => by
    obtain ⟨o, e⟩ := (I.hok b u hu).there
    exact c1 b o e fun z => by rw [I.mq b z] at hu; cases hu
  have st : (PySem.W.hideAll s.heap (eh (eQ (dn P w) P w K mg base N qual scope f cd A outer s0 H0 E).stack)).StaysIn s.heap := fun b o e => PySem.W.of_hideAll _ e
  refine wpAny_leaves_madeW (cls := .ref C) I.ok.frames rfl st (PySem.W.funFrames_hide I.stack fun env he b hb => List.mem_filterMap.mpr ⟨env, he, hb⟩) hx fun Kn t fl _ _ up => ?_
  have I2 := I.yA I c1 c2 st fl.1 ((Heap.UpToSlots.of_keeps hx.keeps).trans up)
  refine ⟨a, C, t, _, H, rfl, I2.os, I2.bare, fl, fun b o e n => ?_, c2, I2.base, I2.hok, q⟩
  obtain ⟨o1, e1⟩ := I.base.there b o e (fun z => absurd (show b ∈ ([] : List Addr) from z) (by simp))
  exact c1 b o1 e1 (I.jG (I.iU e) n)
end
theorem zH {K : PySem.W.Frag} {h : Heap} {C : Addr} {nN : List Value} {newId : String} (X : K.In h) (q : PySem.W.excIn K C nN newId = true) :
    ∃ bm Nn nm qn bs hd sn sub ab col dd k0 k1 k2 k3 k5 mN, h.get? C = some (excClassObj nm qn C Nn bs bm hd sn sub ab col dd k0 k1 k2 k3 k5 newId) ∧ h.Ns Nn mN ∧ mN "__init__" = none ∧ OwnTail h nN bm := by
  unfold PySem.W.excIn at q
  split at q
  case h_2 => cases q
  case h_1 dd cd sl ho =>
    split at q
    case h_2 => cases q
    case h_1 C' bm k0 k1 k2 k3 n k5 hm hs =>
      rw [Bool.and_eq_true, Bool.and_eq_true, Bool.and_eq_true, Bool.and_eq_true, Bool.and_eq_true] at q
      obtain ⟨⟨⟨⟨⟨q1, q2⟩, q3⟩, q4⟩, q5⟩, q6⟩ := q
      have e1 : C' = C := beq_iff_eq.mp q1
      have e2 : n = newId := beq_iff_eq.mp q2
      have e3 : cd.hasDel = false := by simpa using q3
      subst e1 e2
      obtain ⟨nm, bs, mro, ns, qn, hd, sn, sub, ab, col, del⟩ := cd
      dsimp only at hm e3 q5 q6
      subst hm e3
      have es : sl = #[k0, k1, k2, k3, some (.builtin n), k5] := by
        cases sl with
        | mk l => exact congrArg Array.mk hs
      subst es
      exact ⟨bm, ns, nm, qn, bs, hd, sn, sub, ab, col, dd, k0, k1, k2, k3, k5, _, X _ _ ho, Heap.Ns.of_isNs (PySem.W.isNs_of_in X q5), PySem.W.nsMap_none_of_in X q5 (beq_iff_eq.mp q6), PySem.W.tail_of_in X q4⟩
section
variable {X : Cx} {x : Str} {C : Addr} {iw : Expr} {rest : List Expr} {t : TA} {nN : List Value} {B newId pF : String} {E : XK} {np bb pos : Pos}
noncomputable def Ci (C : Addr) (E : XK) (t : TA) : TS := fun _ σ H => t σ H fun vs H1 => vs.length ≤ sizeLine ∧ E (.ref C) none H1
theorem wZ (O : PySem.W.excIn X.K C nN newId = true) (FB : ExcBaseFacts B newId pF nN) (hc : X.calm = true) (hR : Raises X E) (hg : Gl X x) (hm : X.mg x = some (.ref C)) (ha : PA X (iw :: rest) t)
    (e8 : (x == ("__debug__" : Str)) = false := by decide) (he : starEach (iw :: rest) X.env = (false, eval iw X.env) :: starEach rest X.env := by rfl) (gi : (backTo bb (starEach rest X.env)).any (·.1) = false := by rfl) :
    PS X (.Raise (some (.Call (.Name x np) (iw :: rest) [] bb)) none pos) (Ci C E t) := by
  refine ⟨fun pins s σ H D I h => ?_⟩
  obtain ⟨bm, Nn, nm, qn, bs, hd, sn, sub, ab, col, dd, k0, k1, k2, k3, k5, mN, hC, hN, IQ, T⟩ := zH I.ok.mod.kin O
  have hp : (backTo bb (starEach (iw :: rest) X.env)).any (·.1) = false := by
    rw [he]
    exact gi
  have rY := ha bb pins s σ H _ I h
  rw [he] at rY
  refine wpAny_Raise_call_subT (C := C) (nm := nm) (q := qn) (N := Nn) (bs := bs) (bm := bm) (hdct := hd) (sn := sn) (sub := sub) (ab := ab) (col := col) (dd := dd) (k0 := k0) (k1 := k1) (k2 := k2) (k3 := k3) (k5 := k5) FB (mN := mN)
    (T.hasType FB.hasBase) (I.ok.hd hc) hp IQ (j4 I hg hm ⟨rfl, ?_⟩ e8)
  rw [he]
  refine Calls.evalArgs_plain (thn rY fun us s2 ⟨vs, H2, I2, r, l, q⟩ => ?_)
  exact ⟨rfl, by rw [← r.length]; exact l, I2.bk _ _ hC, hN.keeps I2.bk, T.keeps I2.bk, fun h' a hx => hR pins σ H2 s2 C h' a us I2 hx q⟩
end
end L2
namespace L2
open PySem PySem.Spec PyProof.Rows PySem.W Builtin Builtin.ObjectAttr Builtin.Getset_descriptor
noncomputable def ExcAt (C a : Addr) (h : Heap) : Prop := ∃ o vs, h.get? a = some o ∧ o.cls = .ref C ∧ o.data = .fields vs
noncomputable def kP (C a : Addr) : HO := .ext (ExcAt C a)
theorem ExcAt.gH {C a : Addr} {h h' : Heap} (x : ExcAt C a h) (k : ∀ o, h.get? a = some o → h'.get? a = some o) : ExcAt C a h' := let ⟨o, vs, e, c, d⟩ := x; ⟨o, vs, k o e, c, d⟩
theorem zI {P : Program} {w : World} {H : Hp} {h : Heap} {C a : Addr} (x : ExcAt C a h) : bg P w H h a (kP C a) := ⟨x, let ⟨o, _, e, _⟩ := x; ⟨o, e⟩, fun _ _ y k => y.gH k⟩
structure dA (K : Frag) (C : Addr) : Prop where
  cls : (clsIn K C).isSome = true
  ga : findIn K (.ref C) "__getattribute__" = some (some (.builtin "BaseException.__getattribute__"))
  gt : findIn K (.ref C) "__getattr__" = some none
  cl : findIn K (.ref C) "__class__" = some (some (.builtin "object.__class__"))
  gg : specialIn K (.builtin "object.__class__") "__get__" = some (some (.builtin "getset_descriptor.__get__"))
  tk : takesIn K (.builtin "object.__class__") = some true
  ob : mroIn K C (.type "object") = some true
  be : mroIn K C (.type "BaseException") = some true
section
variable {K : Frag} {C a : Addr} {M : Model} {h : Heap}
theorem gT (x : ExcAt C a h) : Looks M h (typeOf (.ref a)) (.ref C) := by
  obtain ⟨o, vs, h1, h2, h3⟩ := x
  exact h2 ▸ (Looks.ld h1).andThen .now
theorem w5 (X : K.In h) (E : dA K C) : Looks M h (find (.ref a) (.ref C) "__class__") (.bind (.builtin "getset_descriptor.__get__") (.builtin "object.__class__")) := by
  refine (looks_findIn X E.cl).andThen (Looks.andThen (show Looks M h (getOf (some (.builtin "object.__class__"))) (some (.builtin "getset_descriptor.__get__")) from looks_specialIn X E.gg) ?_)
  have l3 : Looks M h (dataDescriptor? (some (.builtin "object.__class__")) (some (.builtin "getset_descriptor.__get__"))) (some (.builtin "getset_descriptor.__get__", .builtin "object.__class__")) := (looks_takesIn X E.tk).andThen .now
  exact l3.andThen (Looks.tag .now)
theorem sU (X : K.In h) (E : dA K C) : Looks M h (isType (.ref C)) true := by
  have z := E.cls
  unfold clsIn at z
  split at z
  case h_2 => cases z
  case h_1 ho =>
    intro A Q E s k q
    unfold isType loadHead
    exact wpAny_bind (m := loadPart _ _) (wpAny_loadPart (k _ _ (X _ _ ho)) (wpAny_pure q))
theorem u0 (X : K.In h) (E : dA K C) {tp : Addr} {dd : Option Addr} {its : List Value} {n : Nat} {sl : Array (Option Value)} (e : h.get? tp = some ⟨.type "tuple", dd, .seq its.toArray n, sl⟩) : (Value.ref C == Value.ref tp) = false := by
  refine Bool.eq_false_iff.mpr fun q => ?_
  cases Value.ref.inj (beq_iff_eq.mp q)
  have z := E.cls
  unfold clsIn at z
  split at z
  case h_2 => cases z
  case h_1 ho => cases (X _ _ ho).symm.trans e
end
section
variable {K : Frag} {C a : Addr} {prog : Program} {w : World} {A : Around} {s : Shared} {R : Result → Shared → Prop} {EE : Value → Shared → Prop}
theorem oq {tp : Value} (X : K.In s.heap) (E : dA K C) (x : ExcAt C a s.heap) (q : R (.ok (.ret (.ref C))) s) : codeAny (model prog w) A (.call (.builtin "getset_descriptor.__get__") ⟨[.builtin "object.__class__", .ref a, tp], []⟩) R s := by
  obtain ⟨hh, g, dr, t, os⟩ := s
  have L0 := gT (M := model prog w) x
  have L1 := looks_mroIn (M := model prog w) X E.ob
  have ck := KF.slot_gs.check (model prog w)
  refine codeAny_call_builtin KF.slot_gs.plain KF.entry_gs (ck _ _ _ _ _ _ _ KF.type_class (KF.args_gs _ _ _) ?_)
  unfold Builtin.«getset_descriptor.__get__» descrGet
  rw [dga_obj]
  refine wpAny_bind (m := pure _) (wpAny_pure ?_)
  unfold descrGetter descrCheckInstance descrNameAndClass
  unfold isInstance
  simp only [KF.owner_class]
  repeat lk
  refine ⟨Code.quiet_builtin _ (by decide +kernel), codeAny_builtin KF.entry_class ?_⟩
  unfold Builtin.«object.__class__»
  unfold shownTypeOf
  repeat lk
  exact q
theorem pG {nv : Value} {Q : Unit → Shared → Prop} (X : K.In s.heap) (E : dA K C) (x : ExcAt C a s.heap) (q : Q () s) : wpAny (model prog w) A (checkBuiltinCall "BaseException.__getattribute__" ⟨[.ref a, nv], []⟩) Q EE s := by
  have e1 : builtinKind "BaseException.__getattribute__" = some .slot := by decide +kernel
  have e2 : splitId "BaseException.__getattribute__" = some ("BaseException", "__getattribute__") := by decide +kernel
  have J9 := F.args_bexc_ga (.ref a) nv
  have L0 := gT (M := model prog w) x
  have L1 := looks_mroIn (M := model prog w) X E.be
  obtain ⟨hh, g, dr, t, os⟩ := s
  simp only [checkBuiltinCall, e1, e2]
  refine wpAny_bind ?_
  unfold isInstance
  repeat lk
  exact q
theorem mF {Q : Option Value → Shared → Prop} (X : K.In s.heap) (E : dA K C) (x : ExcAt C a s.heap) (q : Q (some (.ref C)) { s with toks := s.toks + 1 }) : wpAny (model prog w) A (getAttr? (.ref a) "__class__") Q EE s := by
  obtain ⟨hh, g, d, t, os⟩ := s
  have L0 := gT (M := model prog w) x
  have L1 := looks_findIn (M := model prog w) X E.ga
  have L2 := looks_findIn (M := model prog w) X E.gt
  have jx : (onTheHeap (Value.ref C) && Value.builtin "BaseException.__getattribute__" == Value.builtin "object.__getattribute__") = false := by
    rw [show (Value.builtin "BaseException.__getattribute__" == Value.builtin "object.__getattribute__") = false from by decide +kernel]
    rfl
  unfold getAttr? getAttrBy?
  refine wpAny_bind (wpAny_mkText (wpAny_bind (m := (getAttrBy _ _ _).attempt) (wpAny_attempt ?_)))
  unfold getAttrBy
  refine wpAny_holding (wpAny_bind (m := typeOf _) (L0.at (wpAny_bind (m := typeLookup _ _) (L1.at ?_))))
  simp only [jx, Bool.false_eq_true, if_false]
  unfold getAttrByItsOwn hookBefore
  refine wpAny_bind (L2.at ?_)
  refine wpAny_bind (wpAny_attempt (wpAny_holding ?_))
  unfold callGetattribute boundAndCalled
  simp only [Bool.false_and, Bool.false_eq_true, if_false]
  refine wpAny_bind (m := bindSpecial _ _) (wpAny_of_eq (F.attr_ValueError.ga.bind (.ref a)) ?_)
  have L3 := w5 (M := model prog w) (a := a) X E
  refine wpAny_call (codeAny_call_builtin F.attr_ValueError.ga.plain F.entry_bexc_ga (pG X E x ?_))
  unfold Builtin.«object.__getattribute__»
  iterate 9 lk
  refine wpAny_bind (m := attrName _) (wpAny_pure (wpAny_bind (m := typeOf _) (L0.at (wpAny_bind (m := find _ _ _) (L3.at ?_)))))
  show wpAny _ _ (holding [Value.builtin "object.__class__"] (call (.builtin "getset_descriptor.__get__") [.builtin "object.__class__", .ref a, .ref C]) >>= ret) _ _ _
  refine wpAny_bind (m := holding _ _) (wpAny_holding (wpAny_call (oq X E x ?_)))
  exact wpAny_pure (handed_on rfl (wpAny_pure q))
end
theorem kQ {K : Frag} {C a : Addr} (E : dA K C) : KitX K (.ref a) (.ref C) (ExcAt C a) where
  ty := fun _ _ _ x => gT x
  it := fun _ _ X _ => sU X E
  ne := fun _ _ _ _ _ _ X e => u0 X E e
  ca := fun X x q => mF X E x q
theorem nO : ∀ {Ds : List Addr} {us : List Value}, Vals (Ds.map V.ref) us → us = Ds.map Value.ref
  | [], _, .nil => rfl
  | D :: Ds, _, .cons r t => by
    cases (show _ = Value.ref D from r)
    rw [nO t]
    rfl
section
variable {X : Cx}
noncomputable def HB (K : Frag) : List V → Hp → VK → Prop := fun xs H Q => ∃ a C b, H a = some (kP C a) ∧ dA K C ∧
  ((∃ D, xs = [.ref a, .ref D] ∧ kitOne K (.ref C) (.ref D) = some b) ∨ (∃ T, xs = [.ref a, .ty T] ∧ kitOne K (.ref C) (.type T) = some b) ∨ ∃ (tp : Addr) (Ds : List Addr), xs = [.ref a, .ref tp] ∧ H tp = some (.tup (Ds.map V.ref)) ∧ kitAny K (.ref C) (Ds.map Value.ref) = some b) ∧ Q (.bl b) H
theorem w6 {K : Frag} (hK : X.K = K) : cJ X (.builtin "isinstance") (HB K) := by
  subst hK
  intro pins s σ H xs us Q I r h
  obtain ⟨a, C, b, ha, E, h, q⟩ := h
  have x : ExcAt C a s.heap := (I.hok a _ ha).1
  have fin : ∀ tk, EP X pins σ Q (.bool b) { s with toks := tk } := fun tk => ⟨.bl b, H, I.tok tk, rfl, q⟩
  rcases h with ⟨D, rfl, e⟩ | ⟨T, rfl, e⟩ | ⟨tp, Ds, rfl, ht, e⟩
  · obtain ⟨u, w', rfl, r1, r2⟩ := vals2 r
    cases (show u = Value.ref a from r1)
    cases (show w' = Value.ref D from r2)
    exact kia_one (kQ E) I.eu x e (fun z => nomatch z) fin
  · obtain ⟨u, w', rfl, r1, r2⟩ := vals2 r
    cases (show u = Value.ref a from r1)
    cases (show w' = Value.type T from r2)
    exact kia_one (kQ E) I.eu x e (fun z => nomatch z) fin
  · obtain ⟨u, w', rfl, r1, r2⟩ := vals2 r
    cases (show u = Value.ref a from r1)
    cases (show w' = Value.ref tp from r2)
    obtain ⟨_, its, rv, ob, ho, hc, n, hd, _⟩ := I.hok tp _ ht
    have ei := nO rv
    subst ei
    obtain ⟨c, dd, dt, sl⟩ := ob
    dsimp only at hc hd
    subst hc hd
    exact kia_tup (kQ E) I.eu x ho e (fun z => nomatch z) fin
end
end L2
namespace L2
open PySem PySem.Spec PyProof.Rows PySem.W
noncomputable def blank (n : Nat) : St := List.replicate n none
theorem pH {n i : Nat} {v : V} (h : (blank n)[i]? = some (some v)) : False := by
  unfold blank at h
  rw [List.getElem?_replicate] at h
  split at h <;> cases h
noncomputable abbrev Cx.iV (X : Cx) (T : Value → Shared → Prop) (pn : List (Addr × Obj)) : Cx := { X with xe := T, pn := pn }
noncomputable abbrev Cx.suite (X : Cx) (a : Addr) : Cx := { X with A := X.A.mark (some (.ref a)), calm := false, xe := fun _ _ => False }
section
variable {X : Cx} {pins pins' : List (Addr × Obj)} {σ : St} {H : Hp} {s : Shared} {T : Value → Shared → Prop}
theorem Inv.iV (I : Inv X pins σ H s) (T : Value → Shared → Prop) : Inv (X.iV T (X.pn ++ pins)) [] σ H s :=
  ⟨⟨I.ok.mod, I.ok.kind, I.ok.glob, I.ok.blt, I.ok.above, I.ok.inj, I.ok.has, I.ok.cab, I.ok.hd, I.ok.frames, I.ok.stk, I.ok.exf, I.ok.bs, I.ok.bsz, I.ok.noex, I.ok.exfs, I.ok.funs, I.ok.frf⟩,
    I.os, I.bare, I.base, I.loc, I.cell, I.free, I.freeC, fun p hp => I.pin p (by simpa using hp), I.hok, I.len⟩
theorem Inv.jH (J : Inv (X.iV T (X.pn ++ pins)) pins' σ H s) : Inv X pins σ H s :=
  ⟨⟨J.ok.mod, J.ok.kind, J.ok.glob, J.ok.blt, J.ok.above, J.ok.inj, J.ok.has, J.ok.cab, J.ok.hd, J.ok.frames, J.ok.stk, J.ok.exf, J.ok.bs, J.ok.bsz, J.ok.noex, J.ok.exfs, J.ok.funs, J.ok.frf⟩,
    J.os, J.bare, J.base, J.loc, J.cell, J.free, J.freeC, fun p hp => J.pin p (List.mem_append_left _ hp), J.hok, J.len⟩
theorem Inv.suite (I : Inv X pins σ H s) (a : Addr) : Inv (X.suite a) pins σ H s :=
  ⟨⟨I.ok.mod, I.ok.kind, I.ok.glob, I.ok.blt, I.ok.above, I.ok.inj, I.ok.has, I.ok.cab, (fun z => nomatch z), I.ok.frames, I.ok.stk, I.ok.exf, I.ok.bs, I.ok.bsz, I.ok.noex, I.ok.exfs, I.ok.funs, I.ok.frf⟩,
    I.os, I.bare, I.base, I.loc, I.cell, I.free, I.freeC, I.pin, I.hok, I.len⟩
theorem Inv.zJ {a : Addr} (ok : X.Ok) (J : Inv (X.suite a) pins σ H s) : Inv X pins σ H s :=
  ⟨ok, J.os, J.bare, J.base, J.loc, J.cell, J.free, J.freeC, J.pin, J.hok, J.len⟩
theorem Inv.blank (I : Inv X pins σ H s) : Inv X pins (blank X.N.length) H s := by
  refine ⟨I.ok, I.os, I.bare, I.base, ?_, I.cell, I.free, I.freeC, I.pin, I.hok, by unfold L2.blank; simp⟩
  obtain ⟨m, hn, _⟩ := I.loc
  exact ⟨m, hn, fun i x v _ e => (pH e).elim⟩
theorem Inv.lost {h' : Heap} {m' : Str → Option Value} {t' : Nat} (I : Inv X pins σ H s) (hn : h'.Ns X.env.locals m') (sb : Heap.SameBut X.env.locals s.heap h') : Inv X pins (L2.blank X.N.length) H { s with heap := h', toks := t' } := by
  have mv : ∀ b o, b ≠ X.env.locals → s.heap.get? b = some o → h'.get? b = some o := fun b o n e => (sb.2 b n).trans e
  refine ⟨I.ok, I.os, I.bare, ⟨fun b o q n hb hx => mv b o (I.iU q) (I.base.keep b o q n hb hx), fun b o q n hb hx => ?_, I.base.free, fun b o q hx => ?_, I.base.tups, I.base.frzs, I.base.tbls⟩,
    ⟨m', hn, fun i x v _ e => (pH e).elim⟩, fun x c e => ?_, I.free, I.freeC, fun p hp => ?_, fun a o e => ?_, by unfold L2.blank; simp⟩
  · obtain ⟨sl, e⟩ := I.base.slot b o q n hb hx
    exact ⟨sl, mv b _ (I.iU q) e⟩
  · obtain ⟨o', e⟩ := I.base.there b o q hx
    exact ⟨o', mv b _ (I.iU q) e⟩
  · obtain ⟨v, o, ho, hd⟩ := I.cell x c e
    exact ⟨v, o, mv c o (I.m9 x c e) ho, hd⟩
  · obtain ⟨p1, p2, p3, p4, p5⟩ := I.pin p hp
    exact ⟨mv _ _ p3 p1, p2, p3, p4, p5⟩
  · refine (I.hok a o e).gH (fun b u hb q => mv b u (fun z => ?_) q) (fun _ q => q) fun _ _ q => q
    have fr := I.free
    rw [← z] at fr
    rcases hb with y | y
    · rw [y, e] at fr; cases fr
    · rw [y] at fr; cases fr
theorem Inv.EW {a : Addr} {o : HO} (I : Inv X pins σ H s) (n0 : H a = none) (n1 : X.s₀.heap.get? a = none) (n2 : a ≠ X.env.locals) (n3 : ∀ x c, X.env.cells.lookup x = some c → c ≠ a) (n4 : ∀ p ∈ X.pn ++ pins, p.1 ≠ a)
    (ob : bg X.prog X.w (upd H a o) s.heap a o) : Inv X pins σ (upd H a o) s := by
  have un : ∀ b u, H b = some u → upd H a o b = some u := fun b u e => by rw [ao (bc e n0)]; exact e
  refine ⟨I.ok, I.os, I.bare, ⟨I.base.keep, I.base.slot, fun b u q n hx => ?_, I.base.there, fun b xs e => un _ _ (I.base.tups b xs e), fun b u v e => un _ _ (I.base.frzs b u v e), fun b ps e => ?_⟩, I.loc, I.cell, ?_, fun x c e => ?_, fun p hp => ?_, fun b u e => ?_, I.len⟩
  · rw [ao (fun z => by rw [z, n1] at q; cases q)]
    exact I.base.free b u q n hx
  · obtain ⟨more, z⟩ := I.base.tbls b ps e
    exact ⟨more, un _ _ z⟩
  · rw [ao (Ne.symm n2)]
    exact I.free
  · rw [ao (n3 x c e)]
    exact I.freeC x c e
  · obtain ⟨p1, p2, p3⟩ := I.pin p hp
    exact ⟨p1, by rw [ao (n4 p hp)]; exact p2, p3⟩
  · by_cases hb : b = a
    · subst hb
      rw [aB] at e
      cases e
      exact ob
    · rw [ao hb] at e
      exact (I.hok b u e).gH (fun _ _ _ q => q) (fun c q => un _ _ q) fun c xs q => un _ _ q
end
structure hZ (K : Frag) (C0 : Addr) : Prop where
  ty : typeIn K (.ref C0) = some (.type "type")
  be : subIn K (.ref C0) (.type "BaseException") = some true
  it : (clsIn K C0).isSome = true
theorem u3 {K : Frag} {C C0 a : Addr} {M : Model} {A : Around} {E : Value → Shared → Prop} {s : Shared} {Q : Bool → Shared → Prop} (X : K.In s.heap) (O : hZ K C0) (e : subIn K (.ref C) (.ref C0) = some true) (x : ExcAt C a s.heap) (q : Q true s) :
    wpAny M A (excMatches (.ref a) (.ref C0)) Q E s := by
  obtain ⟨hh, g, d, t, os⟩ := s
  have L0 := gT (M := M) x
  have L1 := looks_typeIn (M := M) X O.ty
  have L2 := looks_subIn (M := M) X O.be
  have L3 := looks_subIn (M := M) X e
  have L4 : Looks M hh (isSubtype (.type "type") (.type "tuple")) false := Looks.of_pure tc_notTuple
  have L5 : Looks M hh (isType (.ref C0)) true := by
    have z := O.it
    unfold clsIn at z
    split at z
    case h_2 => cases z
    case h_1 ho =>
      intro A Q E s k q
      unfold isType loadHead
      exact wpAny_bind (m := loadPart _ _) (wpAny_loadPart (k _ _ (X _ _ ho)) (wpAny_pure q))
  unfold excMatches
  unfold isInstance isExcClass
  repeat lk
  exact q
noncomputable def Cj (K : Frag) (C0 : Addr) (i n : Nat) (th : TS) (D : Ends) : XK := fun cls _ H' => ∃ C, cls = .ref C ∧ subIn K (.ref C) (.ref C0) = some true ∧ ∀ a, H' a = none →
  th { nx := fun _ H2 => D.nx (blank n) H2, rt := D.rt, bk := fun _ H2 => D.bk (blank n) H2, ct := fun _ H2 => D.ct (blank n) H2 } ((blank n).set i (some (.ref a))) (upd H' a (kP C a))
noncomputable def HC (K : Frag) (C0 : Addr) (i n : Nat) (tb : XK → TS) (th : TS) : TS := fun D σ H => tb (Cj K C0 i n th D) D σ H
section
variable {X : Cx} {body suite : List Stmt} {x n : Str} {i : Nat} {np pI pos : Pos} {mG : Stmt} {C0 : Addr} {tb : XK → TS} {th : TS}
theorem Ck (hN : X.N.Nodup) (hi : X.N[i]? = some n) (hl : X.env.scope.names.lookup n = some .local) (nM : X.stack = X.env :: X.outer ∧ X.env.frame = some X.env.locals) (hex : X.ex = []) (O : hZ X.K C0) (hg : Gl X x) (hm : X.mg x = some (.ref C0))
    (hb : ∀ (T : Value → Shared → Prop) (pn : List (Addr × Obj)) (E : XK), Passes (dn X.prog X.w) (X.iV T pn) E → dN (X.iV T pn) body (tb E)) (hs : ∀ a : Addr, dN (X.suite a) (mG :: suite) th)
    (e8 : (x == ("__debug__" : Str)) = false := by decide) :
    PS X (.Try body [.ExceptHandler (some (.Name x np)) (some n) (mG :: suite) pI] [] [] pos) (HC X.K C0 i X.N.length tb th) := by
  refine ⟨fun pins s σ H D I h => ?_⟩
  refine wpAny_Try_except ?_
  have hp : Passes (dn X.prog X.w) (X.iV (fun e aq => wpAny (model X.prog X.w) X.A (noteFrame e X.env) (fun _ kG => wpAny (model X.prog X.w) X.A (setFlight e none) (fun _ kM => wpAny (model X.prog X.w) X.A (handleBy e X.env [.ExceptHandler (some (.Name x np)) (some n) (mG :: suite) pI]) (SP X pins D) X.xe kM) X.xe kG) X.xe aq) (X.pn ++ pins)) (Cj X.K C0 i X.N.length th D) := by
    intro pins' ng H1 s1 e s' J1 IU
    obtain ⟨a, C, t, B, H', rfl, os, gn, fl, c1, c2, un, hok, C', ec, sS, q⟩ := IU
    cases ec
    have I1 := J1.jH
    have I' := I1.oB (ch := []) os un hok gn (fun b z => absurd z (by simp))
    have fr : X.A.frames = some (X.env :: X.outer) := I.ok.frames.trans (congrArg some nM.1)
    have yB : Heap.FlyingW B (X.env :: X.outer) a (.ref C) (.ref t) s'.heap := nM.1 ▸ fl
    refine wpAny_looks_onW fr nM.2 yB fun h4 held Gf => ?_
    refine wpAny_landsW held fun h5 Cm Gg => ?_
    have I5 := I1.yA I' c1 c2 fl.1 Cm.1 (Gf.trans Gg)
    have Y5 := I5.suite a
    have IV : ExcAt C a h5 := let ⟨oe, vs, e1, e2, e3, _⟩ := Cm.first; ⟨oe, vs, e1, e2, e3⟩
    refine wpAny_handleBy_cons (codeAny_handlers_test (j4 Y5 hg hm (u3 Y5.eu O sS IV ?_) e8)) (fun z => nomatch z)
    refine codeAny_handlers_suite_as (lands_againW Cm fun h6 Gh IW => ?_)
    have I6 := I1.yA I' c1 c2 fl.1 Gh.1 ((Gf.trans Gg).trans IW)
    have Gi : ExcAt C a h6 := let ⟨oe, vs, e1, e2, e3, _⟩ := Gh.first; ⟨oe, vs, e1, e2, e3⟩
    obtain ⟨oe, vs, e1, e2, e3⟩ := id Gi
    have IX : a ∉ eh X.stack := fun z => by
      obtain ⟨_, o2, q1, q2⟩ := I6.stack.mem z
      rw [e1] at q1
      cases q1
      exact q2 _ e3
    have nb : ∀ o, s1.heap.get? a ≠ some o := fun o z => by
      obtain ⟨o', z'⟩ := c1 a o z IX
      rw [fl.2.1] at z'
      cases z'
    have nH : H' a = none := by
      cases z : H' a with
      | none => rfl
      | some u =>
        obtain ⟨o', z'⟩ := c2 a u z
        rw [fl.2.1] at z'
        cases z'
    have nL : a ≠ X.env.locals := fun z => by
      obtain ⟨m, ⟨o, es, ep, ho, hd, _⟩, _⟩ := I6.loc
      rw [← z, e1] at ho
      cases ho
      rw [e3] at hd
      cases hd
    have I7 : Inv X pins (blank X.N.length) (upd H' a (kP C a)) { s' with heap := h6 } := I6.blank.EW nH
      (by
        cases z : X.s₀.heap.get? a with
        | none => rfl
        | some o =>
          obtain ⟨o1, q1⟩ := I1.base.there a o z (by rw [hex]; simp)
          exact (nb _ q1).elim)
      nL
      (fun y c ec z => by
        obtain ⟨v, o, ho, hd⟩ := I6.cell y c ec
        rw [z, e1] at ho
        cases ho
        rw [e3] at hd
        cases hd)
      (fun p hp z => by
        have := (I1.pin p hp).1
        rw [z] at this
        exact (nb _ this).elim)
      (zI Gi)
    refine store_ok2 I7 hN hi (.inl hl) (v := .ref a) rfl (fun s8 I8 _ => ?_) (.inr hl)
    refine wpAny_mono ((hs a).run pins s8 _ _ _ (I8.suite a) (q a nH)) (fun f s9 r => ?_) (fun _ _ z => z.elim)
    have fin : ∀ {rZ : St} {H9 : Hp}, Inv (X.suite a) pins rZ H9 s9 → (∀ sd, Inv X pins (blank X.N.length) H9 sd → SP X pins D f sd) → wpAny (model X.prog X.w) X.A (do bindName X.env n .none; unbindBehindTheSuite X.env n pI) (fun _ HD => SP X pins D f HD) X.xe s9 := fun {rZ H9} Y9 k => by
      have I9 := Y9.zJ I.ok
      obtain ⟨m, hn, _⟩ := id I9.loc
      exact wpAny_nameGoes hl hn (by rw [I.ok.kind]; rfl) fun h' m' g7 sb => k _ (I9.lost g7 sb)
    cases f with
    | next => obtain ⟨rZ, H9, Y9, z⟩ := r; exact fin Y9 fun sd J => ⟨_, H9, J, z⟩
    | brk => obtain ⟨rZ, H9, Y9, z⟩ := r; exact fin Y9 fun sd J => ⟨_, H9, J, z⟩
    | cont => obtain ⟨rZ, H9, Y9, z⟩ := r; exact fin Y9 fun sd J => ⟨_, H9, J, z⟩
    | ret u => obtain ⟨v, rZ, H9, Y9, rv, z⟩ := r; exact fin Y9 fun sd J => ⟨v, _, H9, J, rv, z⟩
  have nP := hb _ (X.pn ++ pins) _ hp
  refine wpAny_mono (nP.run [] s σ H D (I.iV _) h) (fun f s1 q => ?_) (fun e s1 q => q)
  have q2 : SP X pins D f s1 := by
    cases f with
    | next => obtain ⟨aF, H', J, z⟩ := q; exact ⟨aF, H', J.jH, z⟩
    | brk => obtain ⟨aF, H', J, z⟩ := q; exact ⟨aF, H', J.jH, z⟩
    | cont => obtain ⟨aF, H', J, z⟩ := q; exact ⟨aF, H', J.jH, z⟩
    | ret u => obtain ⟨v, aF, H', J, r, z⟩ := q; exact ⟨v, aF, H', J.jH, r, z⟩
  cases f with
  | next => exact wpAny_pure q2
  | _ => exact q2
end
theorem oJ {P : Program} {w : World} {X : Cx} : Passes (dn P w) X (fun _ _ _ => False) := fun _ _ _ _ _ _ _ h => by
  obtain ⟨_, _, _, _, _, _, _, _, _, _, _, _, _, q⟩ := h
  exact q.elim
theorem nE.jC {P : Program} {w : World} {K : PySem.W.Frag} {mg : Str → Option Value} {base : Heap} {x qual : Str} {st : Stmt} {f : Addr} {fd : FuncData} {N ps : List Str} {k : Nat} {sp : Sp} (F : nE K x qual st f fd) (S : aS N ps (ak st)) (len : ∀ vs H Q E, sp vs H Q E → vs.length = ps.length)
    (lu : ∀ (A : Around) (outer : List Env) (s : Shared) (H : Hp) (vs : List V) (Q : VK) (E : XK), bu k (A.deeper (envOfC qual (ak st) s.heap.objs.size f fd.code)) → sp vs H Q E →
      ∃ t, dN (eQ (dn P w) P w K mg base N qual (ak st) f fd.code A outer s H E) (cG st) t ∧ t { nx := fun _ H' => Q .aj H', rt := Q } (start N vs) H) : FnOk P w K mg base (dn P w) (k + 1) f fd ps sp := by
  obtain ⟨oc, od, kV, doc, pm, an, cX, ct, g8, rfl, lk, fP⟩ := F.ex
  exact yq lk fP S len fun A outer s H vs Q E hr kg => lu A outer s H vs Q E hr kg
noncomputable def Gj : List Value := [.type "ValueError", .type "Exception", .type "BaseException", .type "object"]
noncomputable def w9 (K : Frag) (C0 C : Addr) : Bool := excIn K C Gj "ValueError.__new__" && (clsIn K C).isSome && findIn K (.ref C) "__getattribute__" == some (some (.builtin "BaseException.__getattribute__")) && findIn K (.ref C) "__getattr__" == some none &&
  findIn K (.ref C) "__class__" == some (some (.builtin "object.__class__")) && mroIn K C (.type "object") == some true && mroIn K C (.type "BaseException") == some true && subIn K (.ref C) (.ref C0) == some true && kitOne K (.ref C) (.type "ValueError") == some true
noncomputable def sV (K : Frag) (C0 : Addr) (cs : List Addr) : Bool := cs.all (w9 K C0) && (cs.all fun C => cs.all fun D => kitOne K (.ref C) (.ref D) == some (decide (C = D))) && specialIn K (.builtin "object.__class__") "__get__" == some (some (.builtin "getset_descriptor.__get__")) && takesIn K (.builtin "object.__class__") == some true &&
  typeIn K (.ref C0) == some (.type "type") && subIn K (.ref C0) (.type "BaseException") == some true && (clsIn K C0).isSome
structure xa (K : Frag) (C0 : Addr) (cs : List Addr) : Prop where
  ex : ∀ C ∈ cs, excIn K C Gj "ValueError.__new__" = true
  cl : ∀ C ∈ cs, dA K C
  sub : ∀ C ∈ cs, subIn K (.ref C) (.ref C0) = some true
  one : ∀ C ∈ cs, ∀ D ∈ cs, kitOne K (.ref C) (.ref D) = some (decide (C = D))
  val : ∀ C ∈ cs, kitOne K (.ref C) (.type "ValueError") = some true
  top : hZ K C0
theorem zK {K : Frag} {C0 : Addr} {cs : List Addr} (h : sV K C0 cs = true) : xa K C0 cs := by
  unfold sV at h
  simp only [Bool.and_eq_true] at h
  obtain ⟨⟨⟨⟨⟨⟨h1, h2⟩, h3⟩, h4⟩, h5⟩, h6⟩, h7⟩ := h
  have all : ∀ C ∈ cs, w9 K C0 C = true := List.all_eq_true.mp h1
  have part : ∀ C ∈ cs, _ := fun C hC => by
    have z := all C hC
    unfold w9 at z
    simp only [Bool.and_eq_true] at z
    exact z
  refine ⟨fun C hC => (part C hC).1.1.1.1.1.1.1.1, fun C hC => ?_, fun C hC => beq_iff_eq.mp (part C hC).1.2, fun C hC D hD => beq_iff_eq.mp (List.all_eq_true.mp (List.all_eq_true.mp h2 C hC) D hD), fun C hC => beq_iff_eq.mp (part C hC).2, ⟨beq_iff_eq.mp h5, beq_iff_eq.mp h6, h7⟩⟩
  obtain ⟨⟨⟨⟨⟨⟨⟨⟨_, p1⟩, p2⟩, p3⟩, p4⟩, p5⟩, p6⟩, _⟩, _⟩ := part C hC
  exact ⟨p1, beq_iff_eq.mp p2, beq_iff_eq.mp p3, beq_iff_eq.mp p4, beq_iff_eq.mp h3, beq_iff_eq.mp h4, beq_iff_eq.mp p5, beq_iff_eq.mp p6⟩
end L2
namespace L2
open PySem PySem.Spec PyProof.Rows AutoSeq1
theorem xc (l b : Addr) (items Cp : Array Value) (n n2 : Nat) (dd rR : Option Addr) (sl nA : Array (Option Value)) (h0 : items.isEmpty = true) :
    Meets (Builtin.«tuple.__add__» ⟨[.ref l, .ref b], []⟩) (fun _ R s => s.heap.get? l = some { cls := .type "tuple", dict := dd, data := .seq items n, slots := sl } ∧ s.heap.get? b = some { cls := .type "tuple", dict := rR, data := .seq Cp n2, slots := nA } ∧ R (.ok (.ret (.ref b))) s) :=
  .of_wp fun prog w A R s h => by
    obtain ⟨hp, g, d, tk, os⟩ := s
    obtain ⟨hl, hb, h⟩ := h
    have f2 := AutoSeq1.sub_tuple_tuple
    wp_walk using wpAny_loadPart' hl, wpAny_loadPart' hb
    exact ⟨_, rfl, h⟩
section
variable {X : Cx}
noncomputable def EX (K : PySem.W.Frag) : R2 := fun x y H Q => ∃ a b xs ys, x = .ref a ∧ y = .ref b ∧ bR K H a xs ∧ bR K H b ys ∧ xs.length + ys.length ≤ sizeLine ∧ (xs = [] → Q (.ref b) H) ∧ (xs ≠ [] → ys = [] → Q (.ref a) H) ∧ (xs ≠ [] → ys ≠ [] → ∀ p, H p = none → Q (.ref p) (upd H p (.tup (xs ++ ys))))
theorem zL {K : PySem.W.Frag} (hK : X.K = K) : OpR X (binaryOp .Add) (EX K) := by
  subst hK
  intro pins s σ H x y v u Q I rx ry h
  obtain ⟨a, b, xs, ys, rfl, rfl, ha, hb, hz, q0, q1, q2⟩ := h
  by_cases hx : xs = []
  · cases rx
    cases ry
    obtain ⟨its, r1, p1, _⟩ := I.tuple ha
    obtain ⟨bB, r2, p2, _⟩ := I.tuple hb
    obtain ⟨⟨cls, dd, data, sl⟩, ho, hc, n, hd⟩ := id p1
    obtain ⟨⟨He, rR, data2, nA⟩, o4, uC, n2, hd2⟩ := id p2
    dsimp only at hc hd uC hd2
    subst hc hd uC hd2
    exact concat_meets ⟨_, ho, rfl⟩ ⟨_, o4, rfl⟩ noFill_tuple_add seq_tuple_add PySem.F.slot_tuple_add PySem.F.entry_tuple_add (PySem.F.args_tuple_add_2 _ _) (xc a b its.toArray bB.toArray n n2 dd rR sl nA (by simp [r1.iF.mpr hx])) ⟨ho, o4, ⟨.ref b, H, I, rfl, q0 hx⟩⟩
  · exact zx pins s σ H _ _ v u Q I rx ry ⟨a, b, xs, ys, rfl, rfl, ha, hb, hx, hz, q1 hx, q2 hx⟩
theorem qU {prog : Program} {w : World} {A : Around} {E : Value → Shared → Prop} {s : Shared} {t sl : Addr} {items : Array Value} {vl vu : Value} {lo hi : Option Int} {Q : Value → Shared → Prop} (ht : IsTup s.heap t items) (hs : s.heap.IsSliceOf sl vl vu .none) (pl : IsPart vl lo) (pu : IsPart vu hi)
    (hw : HT.aK items.size 0 lo = 0 ∧ HT.aK items.size items.size hi = items.size) (h : Q (.ref t) s) : wpAny (model prog w) A (getItem (.ref t) (.ref sl)) Q E s := by
  obtain ⟨os, dO, yr, g9⟩ := id hs
  have Bw : s.TypeIs (.ref sl) "slice" := ⟨os, dO, yr⟩
  have IY : s.TypeIs (.ref t) "tuple" := ht.typeIs
  unfold getItem
  refine wpAny_holding ?_
  first | refine wpAny_bind (wpAny_pure ?_) | skip
  refine wpAny_bind (wpAny_sequenceKey ht.typeIs (by decide) ?_)
  have sg := PyProof.Rows.slot_tuple_getitem
  refine wpAny_bind (wpAny_callSpecial?_slot (name := Str.ofString "__getitem__") ht.typeIs sg (wpAny_call_entry sg ht.typeIs entry_tuple_getitem ?_ (args_tuple_getitem _ _)))
  refine wpAny_bind (m := Builtin.Tuple.tupleItemsOf (.ref t)) (tupleItemsOf_ ht (wpAny_bind (wpAny_typeOf Bw ?_)))
  rw [if_pos (by decide)]
  refine wpAny_bind (HT.gM hs pl pu ?_)
  rw [hw.1, hw.2]
  show wpAny _ _ (if (((0 : Nat) : Int) == 0 && (1 : Int) == 1 && (items.size - 0) == items.size) = true then _ else _) _ _ s
  rw [if_pos (by simp)]
  refine wpAny_bind (m := Builtin.Tuple.tupleIsExact (.ref t)) ?_
  unfold Builtin.Tuple.tupleIsExact
  refine wpAny_bind (wpAny_typeOf IY (wpAny_pure ?_))
  rw [if_pos (by decide)]
  exact wpAny_bind (wpAny_rule (wpAny_pure ⟨_, rfl, wpAny_pure h⟩))
noncomputable def HE (K : PySem.W.Frag) : V → Option Int → Option Int → Hp → VK → Prop := fun x lo hi H Q => ∃ a xs, x = .ref a ∧ bR K H a xs ∧
  ((HT.aK xs.length 0 lo = 0 ∧ HT.aK xs.length xs.length hi = xs.length) → Q (.ref a) H) ∧ (¬ (HT.aK xs.length 0 lo = 0 ∧ HT.aK xs.length xs.length hi = xs.length) → ∀ p, H p = none → Q (.ref p) (upd H p (.tup (gd xs lo hi))))
theorem zM {K : PySem.W.Frag} (hK : X.K = K) : uD X (HE K) := by
  subst hK
  intro pins s σ H x v vl vu lo hi sl Q I rx hs pl pu h
  obtain ⟨a, xs, rfl, hx, q1, q2⟩ := h
  by_cases hw : HT.aK xs.length 0 lo = 0 ∧ HT.aK xs.length xs.length hi = xs.length
  · cases rx
    obtain ⟨its, r, ht, hz⟩ := I.tuple hx
    have hlen : its.toArray.size = xs.length := by rw [List.size_toArray]; exact r.length.symm
    exact ⟨"tuple", _, PyProof.Rows.slot_tuple_getitem.lookup, ht.typeIs, qU ht hs pl pu (by rw [hlen]; exact hw) ⟨.ref a, H, I, rfl, q1 hw⟩⟩
  · exact By pins s σ H _ v vl vu lo hi sl Q I rx hs pl pu ⟨a, xs, rfl, hx, hw, q2 hw⟩
theorem sW {xs : List V} {lo hi : Option Int} (h : HT.aK xs.length 0 lo = 0 ∧ HT.aK xs.length xs.length hi = xs.length) : gd xs lo hi = xs := by
  unfold gd
  rw [h.1, h.2, List.drop_zero, Nat.sub_zero, List.take_length]
end
end L2
namespace L2
open PySem PySem.Spec PyProof.Rows
structure M1 (X : Cx) (o : Expr) (m : Str) (apos : Pos) (e : Expr) (bb : Pos) : Prop where
  base : attributeBase o m X.env (eval o X.env) = eval o X.env
  few : ((backTo bb (starEach [e] X.env)).all (fun x => !x.1) && (backToKw bb (keywordEach [] X.env)).all (fun x => x.1.isSome)
    && decide (([e] : List Expr).length + ([] : List Keyword).length + (if ([] : List Keyword).isEmpty then 0 else 1) < 30)) = true
  line : (apos.endLine == bb.line) = true
  trees : backTo bb (starEach [e] X.env) = [(false, eval e X.env)]
structure M2 (X : Cx) (o : Expr) (m : Str) (apos : Pos) (e f : Expr) (bb : Pos) : Prop where
  base : attributeBase o m X.env (eval o X.env) = eval o X.env
  few : ((backTo bb (starEach [e, f] X.env)).all (fun x => !x.1) && (backToKw bb (keywordEach [] X.env)).all (fun x => x.1.isSome)
    && decide (([e, f] : List Expr).length + ([] : List Keyword).length + (if ([] : List Keyword).isEmpty then 0 else 1) < 30)) = true
  line : (apos.endLine == bb.line) = true
  trees : backTo bb (starEach [e, f] X.env) = [(false, eval e X.env), (false, eval f X.env)]
inductive Dv where
  | int (i : Int) | bl (b : Bool) | aj | str (z : Str) | tup (xs : List Dv) | lst (xs : List Dv) | set (ns : List Int) | ptr (a : Addr) | exc (C : Addr) | a9 (ns : List Int) | raw (v : V) | dk (ks : List Key) (ds : List Dv) | dt (ks : List (List Key)) (ds : List Dv) | cB (f : Addr) (o : Obj) (c : Addr) (oc : Obj) (vs : List V) (ds : List Dv)
inductive Mo where
  | lst (xs : List Dv) | bV | dk (ks : List Key) (ds : List Dv) | dt (ks : List (List Key)) (ds : List Dv)
noncomputable abbrev Mh := Addr → Option Mo
structure cM where
  g : List Addr
  l : List (Addr × Str)
instance : Membership Addr cM := ⟨fun t a => a ∈ t.g⟩
noncomputable def yC : HO → Bool
  | .b0 _ => true
  | .lam _ => true
  | .dK _ => true
  | .dT _ => true
  | _ => false
noncomputable def u5 : HO → Bool
  | .b0 _ => false
  | _ => true
noncomputable def xf : HO → Bool
  | .dK _ => true
  | .dT _ => true
  | _ => false
theorem Rd.map {H H' : Hp} {a : Addr} {u : HO} (e : Rd H a u) (k : ∀ x, H a = some x → H' a = some x) : Rd H' a u := e.imp (k _) fun ⟨o, h⟩ => ⟨o, k _ h⟩
theorem Rd.Cq {H H' : Hp} {a : Addr} {u : HO} (e : Rd H a u) (hu : xf u = true) (k : ∀ x, u5 x = true → H a = some x → H' a = some x) : Rd H' a u := e.imp (k _ (by cases u <;> first | rfl | cases hu)) fun ⟨o, h⟩ => ⟨o, k _ rfl h⟩
theorem Rd.there {H : Hp} {a : Addr} {u : HO} (e : Rd H a u) : ∃ x, H a = some x := e.elim (fun h => ⟨_, h⟩) fun ⟨o, h⟩ => ⟨_, h⟩
noncomputable def Tg (o o' : HO) : Prop := (∃ ps iH : Array Value, o = .b0 ps ∧ o' = .b0 iH ∧ TriplesOk iH.toList) ∨ (∃ ps iH : Array Value, o = .lam ps ∧ o' = .lam iH) ∨ (xf o = true ∧ ∃ ob, o' = .ef ob o)
theorem Tg.trans {a b c : HO} (x : Tg a b) (y : Tg b c) : Tg a c := by
  rcases x with ⟨p, q, rfl, rfl, t⟩ | ⟨p, q, rfl, rfl⟩ | ⟨hd, ob, rfl⟩
  · rcases y with ⟨p2, q2, e, rfl, t2⟩ | ⟨p2, q2, e, _⟩ | ⟨e, _⟩
    · exact .inl ⟨p, q2, rfl, rfl, t2⟩
    · cases e
    · cases e
  · rcases y with ⟨p2, q2, e, _⟩ | ⟨p2, q2, e, rfl⟩ | ⟨e, _⟩
    · cases e
    · exact .inr (.inl ⟨p, q2, rfl, rfl⟩)
    · cases e
  · rcases y with ⟨p2, q2, e, _⟩ | ⟨p2, q2, e, _⟩ | ⟨e, _⟩ <;> cases e
theorem Tg.tab {a b : HO} (x : Tg a b) : yC a = true := by
  rcases x with ⟨p, q, rfl, rfl, _⟩ | ⟨p, q, rfl, rfl⟩ | ⟨hd, ob, rfl⟩
  · rfl
  · rfl
  · cases a <;> first | rfl | cases hd
noncomputable def HF (H : Hp) (q : Str) (cv : Value) : Prop := ∃ (c : Addr) (oc : Obj) (u : HO) (vs : Array Value) (t : Tok), cv = Value.ref c ∧ H c = some (.ef oc u) ∧ oc.data = .fields vs ∧ vs[1]? = some (Value.str q t)
noncomputable def Lm (H : Hp) (p : Addr × Str) : Prop := ∃ ps : Array Value, H p.1 = some (.lam ps) ∧ TriplesOk ps.toList ∧ ∀ pos cv, codeAmong pos ps.toList = some cv → HF H p.2 cv
theorem Lm.keep {H H' : Hp} {p : Addr × Str} (h : Lm H p) (k1 : ∀ ps, H p.1 = some (.lam ps) → H' p.1 = some (.lam ps)) (k2 : ∀ c oc u, H c = some (.ef oc u) → H' c = some (.ef oc u)) : Lm H' p := by
  obtain ⟨ps, e, t, c⟩ := h
  refine ⟨ps, k1 _ e, t, fun pos cv q => ?_⟩
  obtain ⟨a, oc, u, vs, tk, e1, e2, r⟩ := c pos cv q
  exact ⟨a, oc, u, vs, tk, e1, k2 _ _ _ e2, r⟩
structure Bz where
  P : Program
  w : World
  K : PySem.W.Frag
  tb : cM
  hid : List Addr
noncomputable def Fz (β : Bz) (M : Mh) (a : Addr) : Prop := M a = none ∧ a ∉ β.hid
noncomputable def Kl (K : PySem.W.Frag) (a : Addr) (ns : List Int) : Prop := ∃ (o : Obj) (its : Array Value) (n : Nat), K.lookup a = some o ∧ o.cls = .type "list" ∧ o.dict = none ∧ o.data = .seq its n ∧ its.size ≤ sizeLine ∧ Vals (ns.map V.int) its.toList
inductive Rz (β : Bz) (M : Mh) (H : Hp) : V → Dv → Prop where
  | int (i : Int) : Rz β M H (.int i) (.int i)
  | bl (b : Bool) : Rz β M H (.bl b) (.bl b)
  | aj : Rz β M H .aj .aj
  | str (z : Str) : Rz β M H (.str z) (.str z)
  | tup {a : Addr} {vs : List V} {ds : List Dv} (m : Fz β M a) (e : H a = some (.tup vs)) (hl : vs.length = ds.length) (h : ∀ (i : Nat) (v : V) (d : Dv), vs[i]? = some v → ds[i]? = some d → Rz β M H v d) : Rz β M H (.ref a) (.tup ds)
  | lst {a : Addr} {vs : List V} {ds : List Dv} (m : Fz β M a) (e : H a = some (.lst vs)) (hl : vs.length = ds.length) (h : ∀ (i : Nat) (v : V) (d : Dv), vs[i]? = some v → ds[i]? = some d → Rz β M H v d) : Rz β M H (.ref a) (.lst ds)
  | set {a : Addr} {ns : List Int} (m : Fz β M a) (e : H a = some (Hz β.P β.w a ns)) : Rz β M H (.ref a) (.set ns)
  | ptr {a : Addr} (m : (M a).isSome = true) : Rz β M H (.ref a) (.ptr a)
  | exc {a C : Addr} (m : Fz β M a) (e : H a = some (kP C a)) : Rz β M H (.ref a) (.exc C)
  | a9 {a : Addr} {o : Obj} {ns : List Int} (m : Fz β M a) (e : H a = some (.ef o (.lst (ns.map V.int)))) : Rz β M H (.ref a) (.a9 ns)
  | cm {a : Addr} {ns : List Int} (m : Fz β M a) (e : H a = some (.lst (ns.map V.int))) : Rz β M H (.ref a) (.a9 ns)
  | cn {a : Addr} {ns : List Int} (e : Kl β.K a ns) : Rz β M H (.ref a) (.a9 ns)
  | raw (v : V) : Rz β M H v (.raw v)
  | dk {a : Addr} {ks : List Key} {vs : List V} {ds : List Dv} (m : Fz β M a) (e : Rd H a (.dK (ks.zip vs))) (hk : ks.length = vs.length) (hl : vs.length = ds.length) (h : ∀ (i : Nat) (v : V) (d : Dv), vs[i]? = some v → ds[i]? = some d → Rz β M H v d) : Rz β M H (.ref a) (.dk ks ds)
  | dt {a : Addr} {ks : List (List Key)} {vs : List V} {ds : List Dv} (m : Fz β M a) (e : Rd H a (.dT (ks.zip vs))) (hk : ks.length = vs.length) (hl : vs.length = ds.length) (h : ∀ (i : Nat) (v : V) (d : Dv), vs[i]? = some v → ds[i]? = some d → Rz β M H v d) : Rz β M H (.ref a) (.dt ks ds)
  | cB {f c : Addr} {o oc : Obj} {u uc : HO} {vs : List V} {ds : List Dv} (m : Fz β M f) (e : H f = some (.ef o u)) (m2 : Fz β M c) (e2 : H c = some (.ef oc uc)) (hl : vs.length = ds.length) (h : ∀ (i : Nat) (v : V) (d : Dv), vs[i]? = some v → ds[i]? = some d → Rz β M H v d) : Rz β M H (.ref f) (.cB f o c oc vs ds)
structure aJ (β : Bz) (M : Mh) (H : Hp) (vs : List V) (ds : List Dv) : Prop where
  len : vs.length = ds.length
  at' : ∀ (i : Nat) (v : V) (d : Dv), vs[i]? = some v → ds[i]? = some d → Rz β M H v d
noncomputable def gk (β : Bz) (M : Mh) (H : Hp) (a : Addr) : Mo → Prop
  | .lst ds => ∃ vs, H a = some (.lst vs) ∧ aJ β M H vs ds
  | .bV => EK H a
  | .dk ks ds => ∃ vs, H a = some (.dK (ks.zip vs)) ∧ ks.length = vs.length ∧ aJ β M H vs ds
  | .dt ks ds => ∃ vs, H a = some (.dT (ks.zip vs)) ∧ ks.length = vs.length ∧ aJ β M H vs ds
noncomputable def kR : HO → Bool
  | .lst _ => true
  | .set _ _ => true
  | .dK _ => true
  | .dT _ => true
  | .ext _ => true
  | .b0 _ => true
  | _ => false
noncomputable def sX (H : Hp) (a : Addr) : Prop := ∃ o, H a = some o ∧ kR o = true
theorem sX.upd {H : Hp} {a p : Addr} {o : HO} (h : sX H a) (d : H p = none ∨ kR o = true) : sX (upd H p o) a := by
  obtain ⟨u, e, n⟩ := h
  by_cases z : a = p
  · subst z
    rcases d with d | d
    · rw [e] at d; cases d
    · exact ⟨o, aB, d⟩
  · exact ⟨u, by rw [ao z]; exact e, n⟩
structure Mz (β : Bz) (M : Mh) (H : Hp) : Prop where
  obj : ∀ a o, M a = some o → gk β M H a o
  tabs : yx β.tb.g H
  hids : ∀ a ∈ β.hid, sX H a
  apart : ∀ a o, M a = some o → a ∉ β.hid
  lams : ∀ p ∈ β.tb.l, Lm H p
structure Ey (M : Mh) (H : Hp) (M' : Mh) (H' : Hp) : Prop where
  keep : ∀ b o, M b = none → H b = some o → H' b = some o ∨ ∃ o', Tg o o' ∧ H' b = some o'
  dom : ∀ a, (M a).isSome = true → (M' a).isSome = true
  new : ∀ a o, M a = none → H a = some o → M' a = none
structure Ex (β : Bz) (M : Mh) (H : Hp) (M' : Mh) (H' : Hp) : Prop extends Ey M H M' H' where
  mz : Mz β M' H'
section
variable {β : Bz} {M M1 M2 : Mh} {H H1 H2 : Hp}
theorem Ey.refl : Ey M H M H := ⟨fun _ _ _ h => .inl h, fun _ h => h, fun _ _ h _ => h⟩
theorem Ex.refl (m : Mz β M H) : Ex β M H M H := ⟨.refl, m⟩
theorem Ey.trans (x : Ey M H M1 H1) (y : Ey M1 H1 M2 H2) : Ey M H M2 H2 := by
  refine ⟨fun b o hm h => ?_, fun a h => y.dom a (x.dom a h), fun a o hm h => ?_⟩
  · have jI := x.new b o hm h
    rcases x.keep b o hm h with q | ⟨o1, t, q⟩
    · exact y.keep b o jI q
    · rcases y.keep b _ jI q with q2 | ⟨o2, t2, q2⟩
      · exact .inr ⟨o1, t, q2⟩
      · exact .inr ⟨o2, t.trans t2, q2⟩
  · have jI := x.new a o hm h
    rcases x.keep a o hm h with q | ⟨o1, t, q⟩
    · exact y.new a _ jI q
    · exact y.new a _ jI q
theorem Ex.trans (x : Ex β M H M1 H1) (y : Ex β M1 H1 M2 H2) : Ex β M H M2 H2 := ⟨x.toEy.trans y.toEy, y.mz⟩
theorem Ey.get (x : Ey M H M1 H1) {b : Addr} {o : HO} (m : M b = none) (h : H b = some o) (n : yC o = false) : H1 b = some o := by
  rcases x.keep b o m h with q | ⟨o', e, _⟩
  · exact q
  · rw [e.tab] at n; cases n
theorem Ey.rd (x : Ey M H M1 H1) {b : Addr} {u : HO} (m : M b = none) (h : Rd H b u) (hu : xf u = true) : Rd H1 b u := by
  rcases h with h | ⟨o, h⟩
  · rcases x.keep b u m h with q | ⟨o', t, q⟩
    · exact .inl q
    · rcases t with ⟨_, _, rfl, _⟩ | ⟨_, _, rfl, _⟩ | ⟨_, ob, rfl⟩
      · cases hu
      · cases hu
      · exact .inr ⟨ob, q⟩
  · exact .inr ⟨o, x.get m h rfl⟩
theorem Ey.gone (x : Ey M H M1 H1) {b : Addr} (h : H1 b = none) : M b = none → H b = none := fun m => by
  cases e : H b with
  | none => rfl
  | some o =>
    rcases x.keep b o m e with q | ⟨_, _, q⟩ <;> (rw [h] at q; cases q)
theorem Rz.ey (x : Ey M H M1 H1) {v : V} {d : Dv} (h : Rz β M H v d) : Rz β M1 H1 v d := by
  induction h with
  | int i => exact .int i
  | bl b => exact .bl b
  | aj => exact .aj
  | str z => exact .str z
  | tup m e hl h ih => exact .tup ⟨x.new _ _ m.1 e, m.2⟩ (x.get m.1 e rfl) hl ih
  | lst m e hl h ih => exact .lst ⟨x.new _ _ m.1 e, m.2⟩ (x.get m.1 e rfl) hl ih
  | dk m e hk hl h ih => exact .dk ⟨x.new _ _ m.1 e.there.choose_spec, m.2⟩ (x.rd m.1 e rfl) hk hl ih
  | dt m e hk hl h ih => exact .dt ⟨x.new _ _ m.1 e.there.choose_spec, m.2⟩ (x.rd m.1 e rfl) hk hl ih
  | cB m e m2 e2 hl h ih => exact .cB ⟨x.new _ _ m.1 e, m.2⟩ (x.get m.1 e rfl) ⟨x.new _ _ m2.1 e2, m2.2⟩ (x.get m2.1 e2 rfl) hl ih
  | set m e => exact .set ⟨x.new _ _ m.1 e, m.2⟩ (x.get m.1 e rfl)
  | ptr m => exact .ptr (x.dom _ m)
  | exc m e => exact .exc ⟨x.new _ _ m.1 e, m.2⟩ (x.get m.1 e rfl)
  | a9 m e => exact .a9 ⟨x.new _ _ m.1 e, m.2⟩ (x.get m.1 e rfl)
  | cm m e => exact .cm ⟨x.new _ _ m.1 e, m.2⟩ (x.get m.1 e rfl)
  | cn e => exact .cn e
  | raw v => exact .raw v
theorem Rz.ex (x : Ex β M H M1 H1) {v : V} {d : Dv} (h : Rz β M H v d) : Rz β M1 H1 v d := h.ey x.toEy
theorem aJ.ex (x : Ex β M H M1 H1) {vs : List V} {ds : List Dv} (h : aJ β M H vs ds) : aJ β M1 H1 vs ds := ⟨h.len, fun i v d a b => (h.at' i v d a b).ex x⟩
theorem aJ.nil : aJ β M H [] [] := ⟨rfl, fun i v d h => by simp at h⟩
theorem aJ.cons {v : V} {d : Dv} {vs : List V} {ds : List Dv} (h : Rz β M H v d) (t : aJ β M H vs ds) : aJ β M H (v :: vs) (d :: ds) := ⟨by simp [t.len], fun i x y a b => by
  cases i with
  | zero => simp at a b; subst a b; exact h
  | succ i => rw [List.getElem?_cons_succ] at a b; exact t.at' i x y a b⟩
theorem aJ.head {v : V} {d : Dv} {vs : List V} {ds : List Dv} (h : aJ β M H (v :: vs) (d :: ds)) : Rz β M H v d := h.at' 0 v d rfl rfl
theorem aJ.tail {v : V} {d : Dv} {vs : List V} {ds : List Dv} (h : aJ β M H (v :: vs) (d :: ds)) : aJ β M H vs ds := ⟨by simpa using h.len, fun i x y a b => h.at' (i + 1) x y (by rw [List.getElem?_cons_succ]; exact a) (by rw [List.getElem?_cons_succ]; exact b)⟩
theorem aJ.append {vs u6 : List V} {ds eY : List Dv} (h : aJ β M H vs ds) (t : aJ β M H u6 eY) : aJ β M H (vs ++ u6) (ds ++ eY) := ⟨by simp [h.len, t.len], fun i x y a b => by
  rw [List.getElem?_append] at a b
  rw [h.len] at a
  split at b
  · rename_i z
    rw [if_pos z] at a
    exact h.at' i x y a b
  · rename_i z
    rw [if_neg z] at a
    exact t.at' _ x y a b⟩
theorem aJ.snoc {v : V} {d : Dv} {vs : List V} {ds : List Dv} (t : aJ β M H vs ds) (h : Rz β M H v d) : aJ β M H (vs ++ [v]) (ds ++ [d]) := t.append (.cons h .nil)
theorem aJ.get {vs : List V} {ds : List Dv} (h : aJ β M H vs ds) {i : Nat} {d : Dv} (e : ds[i]? = some d) : ∃ v, vs[i]? = some v ∧ Rz β M H v d := by
  have hi := (List.getElem?_eq_some_iff.mp e).1
  have jw : i < vs.length := by rw [h.len]; exact hi
  exact ⟨vs[i], List.getElem?_eq_getElem jw, h.at' i _ _ (List.getElem?_eq_getElem jw) e⟩
theorem aJ.get' {vs : List V} {ds : List Dv} (h : aJ β M H vs ds) {i : Nat} {v : V} (e : vs[i]? = some v) : ∃ d, ds[i]? = some d ∧ Rz β M H v d := by
  have hi := (List.getElem?_eq_some_iff.mp e).1
  have jw : i < ds.length := by rw [← h.len]; exact hi
  exact ⟨ds[i], List.getElem?_eq_getElem jw, h.at' i _ _ e (List.getElem?_eq_getElem jw)⟩
theorem aJ.take {vs : List V} {ds : List Dv} (h : aJ β M H vs ds) (n : Nat) : aJ β M H (vs.take n) (ds.take n) := ⟨by simp [h.len], fun i x y a b => by
  rw [List.getElem?_take] at a b
  split at a
  · rename_i z; rw [if_pos z] at b; exact h.at' i x y a b
  · cases a⟩
theorem aJ.drop {vs : List V} {ds : List Dv} (h : aJ β M H vs ds) (n : Nat) : aJ β M H (vs.drop n) (ds.drop n) := ⟨by simp [h.len], fun i x y a b => by
  rw [List.getElem?_drop] at a b
  exact h.at' _ x y a b⟩
theorem aJ.set {vs : List V} {ds : List Dv} (h : aJ β M H vs ds) (n : Nat) {v : V} {d : Dv} (r : Rz β M H v d) : aJ β M H (vs.set n v) (ds.set n d) := ⟨by simp [h.len], fun i x y a b => by
  rw [List.getElem?_set] at a b
  rw [h.len] at a
  split at a
  · rename_i z
    rw [if_pos z] at b
    split at a
    · rename_i z2; rw [if_pos z2] at b; cases a; cases b; exact r
    · cases a
  · rename_i z; rw [if_neg z] at b; exact h.at' i x y a b⟩
theorem eB {a : Addr} {vs : List V} {ds : List Dv} (m : Fz β M a) (e : H a = some (.tup vs)) (h : aJ β M H vs ds) : Rz β M H (.ref a) (.tup ds) := .tup m e h.len h.at'
theorem iI {a : Addr} {vs : List V} {ds : List Dv} (m : Fz β M a) (e : H a = some (.lst vs)) (h : aJ β M H vs ds) : Rz β M H (.ref a) (.lst ds) := .lst m e h.len h.at'
theorem cN {v : V} {ds : List Dv} (h : Rz β M H v (.tup ds)) : ∃ a vs, v = .ref a ∧ Fz β M a ∧ H a = some (.tup vs) ∧ aJ β M H vs ds := by
  cases h with
  | tup m e hl h => exact ⟨_, _, rfl, m, e, hl, h⟩
theorem dq {v : V} {ds : List Dv} (h : Rz β M H v (.lst ds)) : ∃ a vs, v = .ref a ∧ Fz β M a ∧ H a = some (.lst vs) ∧ aJ β M H vs ds := by
  cases h with
  | lst m e hl h => exact ⟨_, _, rfl, m, e, hl, h⟩
theorem aD {v : V} {i : Int} (h : Rz β M H v (.int i)) : v = .int i := by cases h; rfl
theorem cC {v : V} {b : Bool} (h : Rz β M H v (.bl b)) : v = .bl b := by cases h; rfl
theorem a7 {v : V} {z : Str} (h : Rz β M H v (.str z)) : v = .str z := by cases h; rfl
theorem fV {v : V} (h : Rz β M H v .aj) : v = .aj := by cases h; rfl
theorem h8 {v u : V} (h : Rz β M H v (.raw u)) : v = u := by cases h; rfl
theorem cw {v : V} {a : Addr} (h : Rz β M H v (.ptr a)) : v = .ref a ∧ (M a).isSome = true := by cases h with | ptr m => exact ⟨rfl, m⟩
theorem jJ {v : V} {C : Addr} (h : Rz β M H v (.exc C)) : ∃ a, v = .ref a ∧ Fz β M a ∧ H a = some (kP C a) := by cases h with | exc m e => exact ⟨_, rfl, m, e⟩
theorem nQ {v : V} {ns : List Int} (h : Rz β M H v (.a9 ns)) : ∃ a, v = .ref a ∧ bH β.K H a (ns.map V.int) := by
  cases h with
  | a9 m e => exact ⟨_, rfl, .inl (.inr ⟨_, e⟩)⟩
  | cm m e => exact ⟨_, rfl, .inl (.inl e)⟩
  | cn e => exact ⟨_, rfl, .inr e⟩
noncomputable def sY : HO → Bool
  | .lst _ => true
  | .dK _ => true
  | .dT _ => true
  | _ => false
theorem Mz.own (m : Mz β M H) {a : Addr} {o : Mo} (e : M a = some o) : ∃ u, H a = some u ∧ sY u = true := by
  have q := m.obj a o e
  cases o with
  | lst ds => obtain ⟨vs, q, _⟩ := q; exact ⟨_, q, rfl⟩
  | dk ks ds => obtain ⟨vs, q, _⟩ := q; exact ⟨_, q, rfl⟩
  | dt ks ds => obtain ⟨vs, q, _⟩ := q; exact ⟨_, q, rfl⟩
  | bV => obtain ⟨_, _, q, _⟩ := q; exact ⟨_, q, rfl⟩
theorem Mz.lN (m : Mz β M H) {a : Addr} {u : HO} (h : H a = some u) (n : sY u = false) : M a = none := by
  cases e : M a with
  | none => rfl
  | some o => obtain ⟨u', q, w⟩ := m.own e; rw [h] at q; cases q; rw [n] at w; cases w
theorem Mz.EY (m : Mz β M H) {p : Addr} (hp : p ∈ β.tb) : M p = none := let ⟨_, h, _⟩ := m.tabs p hp; m.lN h rfl
theorem Mz.Cr (m : Mz β M H) {p : Addr × Str} (hp : p ∈ β.tb.l) : M p.1 = none := let ⟨_, h, _⟩ := m.lams p hp; m.lN h rfl
theorem Mz.free (m : Mz β M H) {a : Addr} (h : H a = none) : M a = none := by
  cases e : M a with
  | none => rfl
  | some o => obtain ⟨xs, q, _⟩ := m.own e; rw [h] at q; cases q
theorem Mz.fz (m : Mz β M H) {a : Addr} (h : H a = none) : Fz β M a := ⟨m.free h, fun z => by
  obtain ⟨o, e, _⟩ := m.hids a z
  rw [h] at e
  cases e⟩
theorem xg {p a : Addr} {o : HO} (h : ∃ u, H a = Option.some u) : ∃ u, upd H p o a = Option.some u := by
  unfold upd
  split
  · exact ⟨_, rfl⟩
  · exact h
theorem Ex.lay (m : Mz β M H) {p : Addr} (h : H p = none) (o : HO) : Ex β M H M (upd H p o) := by
  have pre : ∀ b u, H b = some u → upd H p o b = some u := fun b u q => by rw [ao (bc q h)]; exact q
  have rz : ∀ {v : V} {d : Dv}, Rz β M H v d → Rz β M (upd H p o) v d := fun r => by
    induction r with
    | int i => exact .int i
    | bl b => exact .bl b
    | aj => exact .aj
    | str z => exact .str z
    | tup m e hl h ih => exact .tup m (pre _ _ e) hl ih
    | lst m e hl h ih => exact .lst m (pre _ _ e) hl ih
    | dk m e hk hl h ih => exact .dk m (e.map fun _ h => pre _ _ h) hk hl ih
    | dt m e hk hl h ih => exact .dt m (e.map fun _ h => pre _ _ h) hk hl ih
    | cB m e m2 e2 hl h ih => exact .cB m (pre _ _ e) m2 (pre _ _ e2) hl ih
    | set m e => exact .set m (pre _ _ e)
    | ptr m => exact .ptr m
    | exc m e => exact .exc m (pre _ _ e)
    | a9 m e => exact .a9 m (pre _ _ e)
    | cm m e => exact .cm m (pre _ _ e)
    | cn e => exact .cn e
    | raw v => exact .raw v
  refine ⟨⟨fun b u _ q => .inl (pre b u q), fun _ h => h, fun _ _ h _ => h⟩, fun a u e => ?_, fun q hq => ?_, fun a ha => (m.hids a ha).upd (.inl h), m.apart, fun q hq => (m.lams q hq).keep (fun _ e => pre _ _ e) fun _ _ _ e => pre _ _ e⟩
  · have z := m.obj a u e
    cases u with
    | lst ds => obtain ⟨vs, z, l, r⟩ := z; exact ⟨vs, pre _ _ z, l, fun i v d a b => rz (r i v d a b)⟩
    | dk ks ds => obtain ⟨vs, z, hk, l, r⟩ := z; exact ⟨vs, pre _ _ z, hk, l, fun i v d a b => rz (r i v d a b)⟩
    | dt ks ds => obtain ⟨vs, z, hk, l, r⟩ := z; exact ⟨vs, pre _ _ z, hk, l, fun i v d a b => rz (r i v d a b)⟩
    | bV => obtain ⟨c, n, z, r⟩ := z; exact ⟨c, n, pre _ _ z, r⟩
  · obtain ⟨ps, e, t⟩ := m.tabs q hq
    exact ⟨ps, pre _ _ e, t⟩
theorem Ex.grow (m : Mz β M H) {p : Addr} (hp : p ∈ β.tb) {ps : Array Value} (t : TriplesOk ps.toList) : Ex β M H M (upd H p (.b0 ps)) := by
  obtain ⟨IZ, Gk, t0⟩ := m.tabs p hp
  have pre : ∀ b u, H b = some u → u5 u = true → upd H p (.b0 ps) b = some u := fun b u q n => by
    have : b ≠ p := fun z => by subst z; rw [Gk] at q; cases q; cases n
    rw [ao this]; exact q
  have rz : ∀ {v : V} {d : Dv}, Rz β M H v d → Rz β M (upd H p (.b0 ps)) v d := fun r => by
    induction r with
    | int i => exact .int i
    | bl b => exact .bl b
    | aj => exact .aj
    | str z => exact .str z
    | tup m e hl h ih => exact .tup m (pre _ _ e rfl) hl ih
    | lst m e hl h ih => exact .lst m (pre _ _ e rfl) hl ih
    | dk m e hk hl h ih => exact .dk m (e.Cq rfl fun x hx h => pre _ _ h hx) hk hl ih
    | dt m e hk hl h ih => exact .dt m (e.Cq rfl fun x hx h => pre _ _ h hx) hk hl ih
    | cB m e m2 e2 hl h ih => exact .cB m (pre _ _ e rfl) m2 (pre _ _ e2 rfl) hl ih
    | set m e => exact .set m (pre _ _ e rfl)
    | ptr m => exact .ptr m
    | exc m e => exact .exc m (pre _ _ e rfl)
    | a9 m e => exact .a9 m (pre _ _ e rfl)
    | cm m e => exact .cm m (pre _ _ e rfl)
    | cn e => exact .cn e
    | raw v => exact .raw v
  refine ⟨⟨fun b u _ q => ?_, fun _ h => h, fun _ _ h _ => h⟩, fun a u e => ?_, fun q hq => ?_, fun a ha => (m.hids a ha).upd (.inr rfl), m.apart, fun q hq => (m.lams q hq).keep (fun _ e => pre _ _ e rfl) fun _ _ _ e => pre _ _ e rfl⟩
  · by_cases e : b = p
    · subst e
      rw [Gk] at q
      cases q
      exact .inr ⟨_, .inl ⟨IZ, ps, rfl, rfl, t⟩, aB⟩
    · exact .inl (by rw [ao e]; exact q)
  · have z := m.obj a u e
    cases u with
    | lst ds => obtain ⟨vs, z, l, r⟩ := z; exact ⟨vs, pre _ _ z rfl, l, fun i v d a b => rz (r i v d a b)⟩
    | dk ks ds => obtain ⟨vs, z, hk, l, r⟩ := z; exact ⟨vs, pre _ _ z rfl, hk, l, fun i v d a b => rz (r i v d a b)⟩
    | dt ks ds => obtain ⟨vs, z, hk, l, r⟩ := z; exact ⟨vs, pre _ _ z rfl, hk, l, fun i v d a b => rz (r i v d a b)⟩
    | bV => obtain ⟨c, n, z, r⟩ := z; exact ⟨c, n, pre _ _ z rfl, r⟩
  · by_cases e : q = p
    · subst e; exact ⟨ps, aB, t⟩
    · obtain ⟨p2, e2, t2⟩ := m.tabs q hq
      exact ⟨p2, by rw [ao e]; exact e2, t2⟩
noncomputable def az (M : Mh) (a : Addr) (o : Mo) : Mh := fun b => if b = a then Option.some o else M b
theorem updM_same {a : Addr} {o : Mo} : az M a o a = Option.some o := by unfold az; rw [if_pos rfl]
theorem ai {a b : Addr} {o : Mo} (h : b ≠ a) : az M a o b = M b := by unfold az; rw [if_neg h]
theorem updM_updM {a : Addr} {o u : Mo} : az (az M a o) a u = az M a u := by funext b; unfold az; split <;> rfl
theorem lP {p : Addr} {o : Mo} {u : HO} (hp : (M p).isSome = true ∨ H p = none) {v : V} {d : Dv} (h : Rz β M H v d) : Rz β (az M p o) (upd H p u) v d := by
  have ne : ∀ a x, M a = none → H a = Option.some x → a ≠ p := fun a x m e z => by
    subst z
    rcases hp with q | q
    · rw [m] at q; cases q
    · rw [q] at e; cases e
  induction h with
  | int i => exact .int i
  | bl b => exact .bl b
  | aj => exact .aj
  | str z => exact .str z
  | tup m e hl h ih => have n := ne _ _ m.1 e; exact .tup ⟨by rw [ai n]; exact m.1, m.2⟩ (by rw [ao n]; exact e) hl ih
  | lst m e hl h ih => have n := ne _ _ m.1 e; exact .lst ⟨by rw [ai n]; exact m.1, m.2⟩ (by rw [ao n]; exact e) hl ih
  | dk m e hk hl h ih => have n := ne _ _ m.1 e.there.choose_spec; exact .dk ⟨by rw [ai n]; exact m.1, m.2⟩ (e.map fun _ h => by rw [ao n]; exact h) hk hl ih
  | dt m e hk hl h ih => have n := ne _ _ m.1 e.there.choose_spec; exact .dt ⟨by rw [ai n]; exact m.1, m.2⟩ (e.map fun _ h => by rw [ao n]; exact h) hk hl ih
  | cB m e m2 e2 hl h ih => have n := ne _ _ m.1 e; have n2 := ne _ _ m2.1 e2; exact .cB ⟨by rw [ai n]; exact m.1, m.2⟩ (by rw [ao n]; exact e) ⟨by rw [ai n2]; exact m2.1, m2.2⟩ (by rw [ao n2]; exact e2) hl ih
  | set m e => have n := ne _ _ m.1 e; exact .set ⟨by rw [ai n]; exact m.1, m.2⟩ (by rw [ao n]; exact e)
  | ptr m =>
    refine .ptr ?_
    unfold az
    split
    · rfl
    · exact m
  | exc m e => have n := ne _ _ m.1 e; exact .exc ⟨by rw [ai n]; exact m.1, m.2⟩ (by rw [ao n]; exact e)
  | a9 m e => have n := ne _ _ m.1 e; exact .a9 ⟨by rw [ai n]; exact m.1, m.2⟩ (by rw [ao n]; exact e)
  | cm m e => have n := ne _ _ m.1 e; exact .cm ⟨by rw [ai n]; exact m.1, m.2⟩ (by rw [ao n]; exact e)
  | cn e => exact .cn e
  | raw v => exact .raw v
theorem gk.upd {p : Addr} {o' : Mo} {u : HO} (hp : (M p).isSome = true ∨ H p = none) {a : Addr} {o : Mo} (ha : a ≠ p) (z : gk β M H a o) : gk β (az M p o') (L2.upd H p u) a o := by
  cases o with
  | lst ds => obtain ⟨vs, z, l, r⟩ := z; exact ⟨vs, by rw [ao ha]; exact z, l, fun i v d a b => lP hp (r i v d a b)⟩
  | dk ks ds => obtain ⟨vs, z, hk, l, r⟩ := z; exact ⟨vs, by rw [ao ha]; exact z, hk, l, fun i v d a b => lP hp (r i v d a b)⟩
  | dt ks ds => obtain ⟨vs, z, hk, l, r⟩ := z; exact ⟨vs, by rw [ao ha]; exact z, hk, l, fun i v d a b => lP hp (r i v d a b)⟩
  | bV => obtain ⟨c, n, z, r⟩ := z; exact ⟨c, n, by rw [ao ha]; exact z, r⟩
theorem Ex.sY (m : Mz β M H) {p : Addr} {u : HO} {o' : Mo} (hp : (M p).isSome = true ∨ H p = none) (hu : kR u = true) (r : gk β (az M p o') (upd H p u) p o') : Ex β M H (az M p o') (upd H p u) := by
  have ne : ∀ a x, M a = none → H a = Option.some x → a ≠ p := fun a x m e z => by
    subst z
    rcases hp with q | q
    · rw [m] at q; cases q
    · rw [q] at e; cases e
  refine ⟨⟨fun b u hm q => .inl ?_, fun a h => ?_, fun a o hm h => ?_⟩, fun a o e => ?_, fun q hq => ?_, fun a ha => (m.hids a ha).upd (.inr hu), fun a o e z => ?_, fun q hq => ?_⟩
  · rw [ao (ne b _ hm q)]; exact q
  · unfold az
    split
    · rfl
    · exact h
  · rw [ai (ne a _ hm h)]; exact hm
  · by_cases ha : a = p
    · subst ha
      rw [updM_same] at e
      cases e
      exact r
    · rw [ai ha] at e
      exact (m.obj a o e).upd hp ha
  · obtain ⟨ps, e, t⟩ := m.tabs q hq
    exact ⟨ps, by rw [ao (ne q _ (m.EY hq) e)]; exact e, t⟩
  · by_cases ha : a = p
    · subst ha
      rcases hp with h | h
      · cases q : M a with
        | none => rw [q] at h; cases h
        | some u => exact m.apart a u q z
      · obtain ⟨u, hu, _⟩ := m.hids a z
        rw [h] at hu
        cases hu
    · rw [ai ha] at e
      exact m.apart a o e z
  · exact (m.lams q hq).keep (fun _ e => by rw [ao (ne q.1 _ (m.Cr hq) e)]; exact e) fun c _ _ e => by rw [ao (ne c _ (m.lN e rfl) e)]; exact e
theorem Ex.own (m : Mz β M H) {p : Addr} {vs : List V} {ds : List Dv} (hp : (M p).isSome = true ∨ H p = none) (r : aJ β M H vs ds) : Ex β M H (az M p (.lst ds)) (upd H p (.lst vs)) :=
  Ex.sY m hp rfl ⟨vs, aB, r.len, fun i v d a b => lP hp (r.at' i v d a b)⟩
noncomputable abbrev Bz.add (β : Bz) (D : Addr) : Bz := { β with hid := D :: β.hid }
theorem Rz.enter {D : Addr} {o : HO} (hD : H D = none) {v : V} {d : Dv} (h : Rz β M H v d) : Rz (β.add D) M (upd H D o) v d := by
  have ne : ∀ a x, Fz β M a → H a = some x → Fz (β.add D) M a := fun a x m e => ⟨m.1, by
    intro z
    rcases List.mem_cons.mp z with z | z
    · subst z; rw [hD] at e; cases e
    · exact m.2 z⟩
  have pre : ∀ a x, H a = some x → upd H D o a = some x := fun a x e => by rw [ao (bc e hD)]; exact e
  induction h with
  | int i => exact .int i
  | bl b => exact .bl b
  | aj => exact .aj
  | str z => exact .str z
  | tup m e hl h ih => exact .tup (ne _ _ m e) (pre _ _ e) hl ih
  | lst m e hl h ih => exact .lst (ne _ _ m e) (pre _ _ e) hl ih
  | dk m e hk hl h ih => exact .dk (ne _ _ m e.there.choose_spec) (e.map fun _ h => pre _ _ h) hk hl ih
  | dt m e hk hl h ih => exact .dt (ne _ _ m e.there.choose_spec) (e.map fun _ h => pre _ _ h) hk hl ih
  | cB m e m2 e2 hl h ih => exact .cB (ne _ _ m e) (pre _ _ e) (ne _ _ m2 e2) (pre _ _ e2) hl ih
  | set m e => exact .set (ne _ _ m e) (pre _ _ e)
  | ptr m => exact .ptr m
  | exc m e => exact .exc (ne _ _ m e) (pre _ _ e)
  | a9 m e => exact .a9 (ne _ _ m e) (pre _ _ e)
  | cm m e => exact .cm (ne _ _ m e) (pre _ _ e)
  | cn e => exact .cn e
  | raw v => exact .raw v
theorem Rz.sub {b8 : Bz} (hP : b8.P = β.P) (hw : b8.w = β.w) (hK : b8.K = β.K) (hs : ∀ a, a ∈ b8.hid → a ∈ β.hid) {v : V} {d : Dv} (h : Rz β M H v d) : Rz b8 M H v d := by
  have ne : ∀ a, Fz β M a → Fz b8 M a := fun a m => ⟨m.1, fun z => m.2 (hs a z)⟩
  induction h with
  | int i => exact .int i
  | bl b => exact .bl b
  | aj => exact .aj
  | str z => exact .str z
  | tup m e hl h ih => exact .tup (ne _ m) e hl ih
  | lst m e hl h ih => exact .lst (ne _ m) e hl ih
  | dk m e hk hl h ih => exact .dk (ne _ m) e hk hl ih
  | dt m e hk hl h ih => exact .dt (ne _ m) e hk hl ih
  | cB m e m2 e2 hl h ih => exact .cB (ne _ m) e (ne _ m2) e2 hl ih
  | set m e => exact .set (ne _ m) (by rw [hP, hw]; exact e)
  | ptr m => exact .ptr m
  | exc m e => exact .exc (ne _ m) e
  | a9 m e => exact .a9 (ne _ m) e
  | cm m e => exact .cm (ne _ m) e
  | cn e => exact .cn (by rw [hK]; exact e)
  | raw v => exact .raw v
theorem Mz.sub {b8 : Bz} (hP : b8.P = β.P) (hw : b8.w = β.w) (hK : b8.K = β.K) (ht : b8.tb = β.tb) (hs : ∀ a, a ∈ b8.hid → a ∈ β.hid) (m : Mz β M H) : Mz b8 M H := ⟨fun a o e => by
  have z := m.obj a o e
  cases o with
  | lst ds => obtain ⟨vs, z, l, r⟩ := z; exact ⟨vs, z, l, fun i v d a b => (r i v d a b).sub hP hw hK hs⟩
  | dk ks ds => obtain ⟨vs, z, hk, l, r⟩ := z; exact ⟨vs, z, hk, l, fun i v d a b => (r i v d a b).sub hP hw hK hs⟩
  | dt ks ds => obtain ⟨vs, z, hk, l, r⟩ := z; exact ⟨vs, z, hk, l, fun i v d a b => (r i v d a b).sub hP hw hK hs⟩
  | bV => exact z, by rw [ht]; exact m.tabs, fun a ha => m.hids a (hs a ha), fun a o e z => m.apart a o e (hs a z), by rw [ht]; exact m.lams⟩
theorem Mz.enter {D : Addr} {o : HO} (hD : H D = none) (ho : kR o = true) (m : Mz β M H) : Mz (β.add D) M (upd H D o) := ⟨fun a u e => by
  have pre : ∀ a x, H a = Option.some x → upd H D o a = Option.some x := fun a x e => by rw [ao (bc e hD)]; exact e
  have z := m.obj a u e
  cases u with
  | lst ds => obtain ⟨vs, z, l, r⟩ := z; exact ⟨vs, pre _ _ z, l, fun i v d a b => (r i v d a b).enter hD⟩
  | dk ks ds => obtain ⟨vs, z, hk, l, r⟩ := z; exact ⟨vs, pre _ _ z, hk, l, fun i v d a b => (r i v d a b).enter hD⟩
  | dt ks ds => obtain ⟨vs, z, hk, l, r⟩ := z; exact ⟨vs, pre _ _ z, hk, l, fun i v d a b => (r i v d a b).enter hD⟩
  | bV => obtain ⟨c, n, z, r⟩ := z; exact ⟨c, n, pre _ _ z, r⟩, fun p hp => by
  obtain ⟨ps, e, t⟩ := m.tabs p hp
  exact ⟨ps, by rw [ao (bc e hD)]; exact e, t⟩, fun a ha => by
  rcases List.mem_cons.mp ha with z | z
  · subst z; exact ⟨_, aB, ho⟩
  · exact (m.hids a z).upd (.inl hD), fun a o e ha => by
  rcases List.mem_cons.mp ha with z | z
  · subst z; rw [m.free hD] at e; cases e
  · exact m.apart a o e z, fun q hq => (m.lams q hq).keep (fun _ e => by rw [ao (bc e hD)]; exact e) fun _ _ _ e => by rw [ao (bc e hD)]; exact e⟩
theorem Rz.over {D : Addr} {o : HO} (hD : D ∈ β.hid) {v : V} {d : Dv} (h : Rz β M H v d) : Rz β M (upd H D o) v d := by
  have pre : ∀ a x, Fz β M a → H a = some x → upd H D o a = some x := fun a x m e => by
    have n : a ≠ D := fun z => by subst z; exact m.2 hD
    rw [ao n]; exact e
  induction h with
  | int i => exact .int i
  | bl b => exact .bl b
  | aj => exact .aj
  | str z => exact .str z
  | tup m e hl h ih => exact .tup m (pre _ _ m e) hl ih
  | lst m e hl h ih => exact .lst m (pre _ _ m e) hl ih
  | dk m e hk hl h ih => exact .dk m (e.map fun _ h => pre _ _ m h) hk hl ih
  | dt m e hk hl h ih => exact .dt m (e.map fun _ h => pre _ _ m h) hk hl ih
  | cB m e m2 e2 hl h ih => exact .cB m (pre _ _ m e) m2 (pre _ _ m2 e2) hl ih
  | set m e => exact .set m (pre _ _ m e)
  | ptr m => exact .ptr m
  | exc m e => exact .exc m (pre _ _ m e)
  | a9 m e => exact .a9 m (pre _ _ m e)
  | cm m e => exact .cm m (pre _ _ m e)
  | cn e => exact .cn e
  | raw v => exact .raw v
theorem Mz.over {D : Addr} {o : HO} (hD : D ∈ β.hid) (ho : kR o = true) (hM : M D = none) (ht : D ∉ β.tb) (m : Mz β M H) : Mz β M (upd H D o) := ⟨fun a u e => by
  have na : a ≠ D := fun z => by subst z; rw [hM] at e; cases e
  have z := m.obj a u e
  cases u with
  | lst ds => obtain ⟨vs, z, l, r⟩ := z; exact ⟨vs, by rw [ao na]; exact z, l, fun i v d a b => (r i v d a b).over hD⟩
  | dk ks ds => obtain ⟨vs, z, hk, l, r⟩ := z; exact ⟨vs, by rw [ao na]; exact z, hk, l, fun i v d a b => (r i v d a b).over hD⟩
  | dt ks ds => obtain ⟨vs, z, hk, l, r⟩ := z; exact ⟨vs, by rw [ao na]; exact z, hk, l, fun i v d a b => (r i v d a b).over hD⟩
  | bV => obtain ⟨c, n, z, r⟩ := z; exact ⟨c, n, by rw [ao na]; exact z, r⟩, fun p hp => by
  obtain ⟨ps, e, t⟩ := m.tabs p hp
  have n : p ≠ D := fun z => by subst z; exact ht hp
  exact ⟨ps, by rw [ao n]; exact e, t⟩, fun a ha => (m.hids a ha).upd (.inr ho), m.apart, fun q hq => by
  obtain ⟨o', e', n⟩ := m.hids D hD
  exact (m.lams q hq).keep (fun _ e => by rw [ao (fun z => by subst z; rw [e'] at e; cases e; cases n)]; exact e) fun c _ _ e => by rw [ao (fun z => by subst z; rw [e'] at e; cases e; cases n)]; exact e⟩
theorem Ey.over {D : Addr} {o : HO} (x : Ey M H M1 H1) (hD : H D = none) : Ey M H M1 (upd H1 D o) := ⟨fun b u m h => by
  have nb : b ≠ D := bc h hD
  rw [ao nb]
  exact x.keep b u m h, x.dom, x.new⟩
theorem Mz.HG {D : Addr} (m : Mz β M H) (hD : H D = none) : D ∉ β.tb := fun z => by
  obtain ⟨_, e, _⟩ := m.tabs D z
  rw [hD] at e
  cases e
structure Bx (β b8 : Bz) (H : Hp) : Prop where
  P : b8.P = β.P
  w : b8.w = β.w
  K : b8.K = β.K
  tb : b8.tb = β.tb
  old : ∀ a, a ∈ β.hid → a ∈ b8.hid
  new : ∀ a, a ∈ b8.hid → a ∈ β.hid ∨ H a = none
theorem Bx.refl : Bx β β H := ⟨rfl, rfl, rfl, rfl, fun _ h => h, fun _ h => .inl h⟩
theorem Bx.add {D : Addr} (hD : H D = none) : Bx β (β.add D) H := ⟨rfl, rfl, rfl, rfl, fun _ h => List.mem_cons_of_mem _ h, fun a h => by
  rcases List.mem_cons.mp h with z | z
  · exact .inr (z ▸ hD)
  · exact .inl z⟩
theorem Rz.bx {b8 : Bz} (b : Bx β b8 H) {v : V} {d : Dv} (h : Rz β M H v d) : Rz b8 M H v d := by
  have ne : ∀ a x, Fz β M a → H a = some x → Fz b8 M a := fun a x m e => ⟨m.1, fun z => by
    rcases b.new a z with q | q
    · exact m.2 q
    · rw [q] at e; cases e⟩
  induction h with
  | int i => exact .int i
  | bl b => exact .bl b
  | aj => exact .aj
  | str z => exact .str z
  | tup m e hl h ih => exact .tup (ne _ _ m e) e hl ih
  | lst m e hl h ih => exact .lst (ne _ _ m e) e hl ih
  | dk m e hk hl h ih => exact .dk (ne _ _ m e.there.choose_spec) e hk hl ih
  | dt m e hk hl h ih => exact .dt (ne _ _ m e.there.choose_spec) e hk hl ih
  | cB m e m2 e2 hl h ih => exact .cB (ne _ _ m e) e (ne _ _ m2 e2) e2 hl ih
  | set m e => exact .set (ne _ _ m e) (by rw [b.P, b.w]; exact e)
  | ptr m => exact .ptr m
  | exc m e => exact .exc (ne _ _ m e) e
  | a9 m e => exact .a9 (ne _ _ m e) e
  | cm m e => exact .cm (ne _ _ m e) e
  | cn e => exact .cn (by rw [b.K]; exact e)
  | raw v => exact .raw v
end
inductive Pin (M : Mh) : Dv → Prop where
  | int (i : Int) : Pin M (.int i)
  | bl (b : Bool) : Pin M (.bl b)
  | aj : Pin M .aj
  | str (z : Str) : Pin M (.str z)
  | tup {ds : List Dv} (h : ∀ d ∈ ds, Pin M d) : Pin M (.tup ds)
  | lst {ds : List Dv} (h : ∀ d ∈ ds, Pin M d) : Pin M (.lst ds)
  | set (ns : List Int) : Pin M (.set ns)
  | ptr {a : Addr} (h : (M a).isSome = true) : Pin M (.ptr a)
  | exc (C : Addr) : Pin M (.exc C)
  | a9 (ns : List Int) : Pin M (.a9 ns)
  | raw (v : V) : Pin M (.raw v)
  | dk {ks : List Key} {ds : List Dv} (h : ∀ d ∈ ds, Pin M d) : Pin M (.dk ks ds)
  | dt {ks : List (List Key)} {ds : List Dv} (h : ∀ d ∈ ds, Pin M d) : Pin M (.dt ks ds)
  | cB {f c : Addr} {o oc : Obj} {vs : List V} {ds : List Dv} (h : ∀ d ∈ ds, Pin M d) : Pin M (.cB f o c oc vs ds)
theorem Rz.pin {β : Bz} {M : Mh} {H : Hp} {v : V} {d : Dv} (h : Rz β M H v d) : Pin M d := by
  induction h with
  | int i => exact .int i
  | bl b => exact .bl b
  | aj => exact .aj
  | str z => exact .str z
  | tup m e hl h ih =>
    refine .tup fun d hd => ?_
    obtain ⟨i, hi⟩ := List.mem_iff_getElem?.mp hd
    have h1 := (List.getElem?_eq_some_iff.mp hi).1
    exact ih i _ d (List.getElem?_eq_getElem (by omega)) hi
  | lst m e hl h ih =>
    refine .lst fun d hd => ?_
    obtain ⟨i, hi⟩ := List.mem_iff_getElem?.mp hd
    have h1 := (List.getElem?_eq_some_iff.mp hi).1
    exact ih i _ d (List.getElem?_eq_getElem (by omega)) hi
  | dk m e hk hl h ih =>
    refine .dk fun d hd => ?_
    obtain ⟨i, hi⟩ := List.mem_iff_getElem?.mp hd
    have h1 := (List.getElem?_eq_some_iff.mp hi).1
    exact ih i _ d (List.getElem?_eq_getElem (by omega)) hi
  | dt m e hk hl h ih =>
    refine .dt fun d hd => ?_
    obtain ⟨i, hi⟩ := List.mem_iff_getElem?.mp hd
    have h1 := (List.getElem?_eq_some_iff.mp hi).1
    exact ih i _ d (List.getElem?_eq_getElem (by omega)) hi
  | cB m e m2 e2 hl h ih =>
    refine .cB fun d hd => ?_
    obtain ⟨i, hi⟩ := List.mem_iff_getElem?.mp hd
    have h1 := (List.getElem?_eq_some_iff.mp hi).1
    exact ih i _ d (List.getElem?_eq_getElem (by omega)) hi
  | set m e => exact .set _
  | ptr m => exact .ptr m
  | exc m e => exact .exc _
  | a9 m e => exact .a9 _
  | cm m e => exact .a9 _
  | cn e => exact .a9 _
  | raw v => exact .raw v
noncomputable def Mo.items : Mo → List Dv
  | .lst ds => ds
  | .dk _ ds => ds
  | .dt _ ds => ds
  | .bV => []
noncomputable def Wf (M : Mh) : Prop := ∀ b o, M b = some o → ∀ d ∈ o.items, Pin M d
theorem gk.Ja {β : Bz} {M : Mh} {H : Hp} {a : Addr} {o : Mo} (h : gk β M H a o) : ∃ vs, aJ β M H vs o.items := by
  cases o with
  | lst ds => obtain ⟨vs, _, rs⟩ := h; exact ⟨vs, rs⟩
  | dk ks ds => obtain ⟨vs, _, _, rs⟩ := h; exact ⟨vs, rs⟩
  | dt ks ds => obtain ⟨vs, _, _, rs⟩ := h; exact ⟨vs, rs⟩
  | bV => exact ⟨[], .nil⟩
theorem Mz.wf {β : Bz} {M : Mh} {H : Hp} (m : Mz β M H) : Wf M := fun b o e d hd => by
  obtain ⟨vs, rs⟩ := (m.obj b _ e).Ja
  obtain ⟨i, hi⟩ := List.mem_iff_getElem?.mp hd
  obtain ⟨v, _, r⟩ := rs.get hi
  exact r.pin
noncomputable abbrev ax := List (Option Dv)
noncomputable abbrev ZK := Dv → Mh → Prop
noncomputable abbrev aH := ax → Mh → ZK → Prop
noncomputable abbrev cx := ax → Mh → (Bool → Mh → Prop) → Prop
noncomputable abbrev fg := ax → Mh → (List Dv → Mh → Prop) → Prop
structure eG where
  nx : ax → Mh → Prop
  rt : ZK
  bk : ax → Mh → Prop := fun _ _ => False
  ct : ax → Mh → Prop := fun _ _ => False
noncomputable abbrev bD := eG → ax → Mh → Prop
noncomputable abbrev b6 := Dv → ax → Mh → (ax → Mh → Prop) → Prop
noncomputable abbrev eC := ax → Mh → (List Dv → Mh → Prop) → Prop
structure Gz extends Bz where
  M0 : Mh
  H0 : Hp
structure Zr (Γ : Gz) (β : Bz) (M : Mh) (ρ : ax) (σ : St) (H : Hp) : Prop where
  eP : β.P = Γ.P
  ew : β.w = Γ.w
  eK : β.K = Γ.K
  et : β.tb = Γ.tb
  sub : ∀ a, a ∈ Γ.hid → a ∈ β.hid
  wf : Wf Γ.M0
  ent : Ey Γ.M0 Γ.H0 M H
  mz : Mz β M H
  len : ρ.length = σ.length
  at' : ∀ (i : Nat) (d : Dv), ρ[i]? = some (some d) → ∃ v, σ[i]? = some (some v) ∧ Rz β M H v d
section
variable {Γ : Gz} {β : Bz} {M M' : Mh} {ρ : ax} {σ : St} {H H' : Hp}
theorem Zr.step (z : Zr Γ β M ρ σ H) (x : Ex β M H M' H') : Zr Γ β M' ρ σ H' := ⟨z.eP, z.ew, z.eK, z.et, z.sub, z.wf, z.ent.trans x.toEy, x.mz, z.len, fun i d e => let ⟨v, h, r⟩ := z.at' i d e; ⟨v, h, r.ex x⟩⟩
theorem Zr.set (z : Zr Γ β M ρ σ H) (i : Nat) {v : V} {d : Dv} (r : Rz β M H v d) : Zr Γ β M (ρ.set i (some d)) (σ.set i (some v)) H := ⟨z.eP, z.ew, z.eK, z.et, z.sub, z.wf, z.ent, z.mz, by simp [z.len], fun j e h => by
  rw [List.getElem?_set] at h ⊢
  rw [z.len] at h
  split at h
  · rename_i q
    rw [if_pos q]
    split at h
    · rename_i q2
      rw [if_pos q2]
      cases h
      exact ⟨v, rfl, r⟩
    · cases h
  · rename_i q
    rw [if_neg q]
    exact z.at' j e h⟩
end
noncomputable def lE (Γ : Gz) (p : aH) : TE := fun σ H Q => ∃ (β : Bz) (ρ : ax) (M : Mh) (Q' : ZK), Zr Γ β M ρ σ H ∧ p ρ M Q' ∧ ∀ d M' v H', Ex β M H M' H' → Rz β M' H' v d → Q' d M' → Q v H'
noncomputable def lT (Γ : Gz) (p : cx) : TT := fun σ H Q => ∃ (β : Bz) (ρ : ax) (M : Mh) (Q' : Bool → Mh → Prop), Zr Γ β M ρ σ H ∧ p ρ M Q' ∧ ∀ b M' H', Ex β M H M' H' → Q' b M' → Q b H'
noncomputable def lA (Γ : Gz) (p : fg) : TA := fun σ H Q => ∃ (β : Bz) (ρ : ax) (M : Mh) (Q' : List Dv → Mh → Prop), Zr Γ β M ρ σ H ∧ p ρ M Q' ∧ ∀ ds M' vs H', Ex β M H M' H' → aJ β M' H' vs ds → Q' ds M' → Q vs H'
structure Ev (β : Bz) (M : Mh) (H : Hp) (M' : Mh) (H' : Hp) : Prop where
  keep : ∀ b o, M b = none → H b = some o → H' b = some o ∨ ∃ o', Tg o o' ∧ H' b = some o'
  new : ∀ a o, M a = none → H a = some o → M' a = none
  mz : Mz β M' H'
theorem Ex.ev {β : Bz} {M M' : Mh} {H H' : Hp} (x : Ex β M H M' H') : Ev β M H M' H' := ⟨x.keep, x.new, x.mz⟩
theorem Ev.refl {β : Bz} {M : Mh} {H : Hp} (m : Mz β M H) : Ev β M H M H := (Ex.refl m).ev
theorem Ev.trans {β : Bz} {M M1 M2 : Mh} {H H1 H2 : Hp} (x : Ev β M H M1 H1) (y : Ev β M1 H1 M2 H2) : Ev β M H M2 H2 := by
  refine ⟨fun b o hm h => ?_, fun a o hm h => ?_, y.mz⟩
  · have jI := x.new b o hm h
    rcases x.keep b o hm h with q | ⟨o1, t, q⟩
    · exact y.keep b o jI q
    · rcases y.keep b _ jI q with q2 | ⟨o2, t2, q2⟩
      · exact .inr ⟨o1, t, q2⟩
      · exact .inr ⟨o2, t.trans t2, q2⟩
  · have jI := x.new a o hm h
    rcases x.keep a o hm h with q | ⟨o1, t, q⟩
    · exact y.new a _ jI q
    · exact y.new a _ jI q
structure sZ (Γ : Gz) (β : Bz) (M : Mh) (H : Hp) (D' : eG) (D : Ends) : Prop where
  nx : ∀ bP M' aF H', Ev β M H M' H' → Zr Γ β M' bP aF H' → D'.nx bP M' → D.nx aF H'
  rt : ∀ d M' v H', Ev β M H M' H' → Ey Γ.M0 Γ.H0 M' H' → Rz β M' H' v d → D'.rt d M' → D.rt v H'
  bk : ∀ bP M' aF H', Ev β M H M' H' → Zr Γ β M' bP aF H' → D'.bk bP M' → D.bk aF H'
  ct : ∀ bP M' aF H', Ev β M H M' H' → Zr Γ β M' bP aF H' → D'.ct bP M' → D.ct aF H'
theorem sZ.step {Γ : Gz} {β : Bz} {M M1 : Mh} {H H1 : Hp} {D' : eG} {D : Ends} (r : sZ Γ β M H D' D) (x : Ev β M H M1 H1) : sZ Γ β M1 H1 D' D :=
  ⟨fun a b c d y => r.nx a b c d (x.trans y), fun a b c d y => r.rt a b c d (x.trans y), fun a b c d y => r.bk a b c d (x.trans y), fun a b c d y => r.ct a b c d (x.trans y)⟩
noncomputable def lS (Γ : Gz) (p : bD) : TS := fun D σ H => ∃ (β : Bz) (ρ : ax) (M : Mh) (D' : eG), Zr Γ β M ρ σ H ∧ p D' ρ M ∧ sZ Γ β M H D' D
noncomputable def lG (Γ : Gz) (p : b6) : TG := fun x σ H N => ∃ (β : Bz) (d : Dv) (ρ : ax) (M : Mh) (N' : ax → Mh → Prop), Zr Γ β M ρ σ H ∧ Rz β M H x d ∧ p d ρ M N' ∧ ∀ bP M' aF H', Ex β M H M' H' → Zr Γ β M' bP aF H' → N' bP M' → N aF H'
noncomputable def yD (β : Bz) (J : It) (ds : List Dv) (M : Mh) (H : Hp) : Prop := ∀ b8 M' H', Bx β b8 H → Ey M H M' H' → Mz b8 M' H' → ∀ i, (i < ds.length → J.go i H' ∧ ∀ x jK, J.yld i H' x jK → Ex b8 M' H' M' jK ∧ ∃ d, ds[i]? = some d ∧ Rz b8 M' jK x d) ∧ (ds.length ≤ i → J.stop i H')
noncomputable def lI (Γ : Gz) (p : eC) : TI := fun σ H R => ∃ (β : Bz) (ρ : ax) (M : Mh) (R' : List Dv → Mh → Prop), Zr Γ β M ρ σ H ∧ p ρ M R' ∧ ∀ ds M' H' J, Ex β M H M' H' → yD β J ds M' H' → R' ds M' → R J H'
noncomputable abbrev QE (Γ : Gz) (X : Cx) (e : Expr) (p : aH) : Prop := PE X e (lE Γ p)
noncomputable abbrev QT (Γ : Gz) (X : Cx) (e : Expr) (p : cx) : Prop := PT X e (lT Γ p)
noncomputable abbrev QW (Γ : Gz) (X : Cx) (e : Expr) (p : cx) : Prop := PW X e (lT Γ p)
noncomputable abbrev QA (Γ : Gz) (X : Cx) (es : List Expr) (p : fg) : Prop := PA X es (lA Γ p)
noncomputable abbrev QS (Γ : Gz) (X : Cx) (s : Stmt) (p : bD) : Prop := PS X s (lS Γ p)
noncomputable abbrev ia (Γ : Gz) (X : Cx) (s : List Stmt) (p : bD) : Prop := dN X s (lS Γ p)
noncomputable abbrev QG (Γ : Gz) (X : Cx) (e : Expr) (p : b6) : Prop := PG X e (lG Γ p)
noncomputable abbrev QI (Γ : Gz) (X : Cx) (tg e : Expr) (p : eC) : Prop := PI X tg e (lI Γ p)
section
variable {X : Cx}
theorem PE.imp {e : Expr} {t t' : TE} (h : PE X e t) (i : ∀ σ H Q, t' σ H Q → t σ H Q) : PE X e t' := ⟨fun pins s σ H Q I q => h pins s σ H Q I (i _ _ _ q)⟩
theorem PT.imp {e : Expr} {t t' : TT} (h : PT X e t) (i : ∀ σ H Q, t' σ H Q → t σ H Q) : PT X e t' := ⟨fun pins s σ H Q I q => h pins s σ H Q I (i _ _ _ q)⟩
theorem PW.imp {e : Expr} {t t' : TT} (h : PW X e t) (i : ∀ σ H Q, t' σ H Q → t σ H Q) : PW X e t' := fun wh pins s σ H Q I q => h wh pins s σ H Q I (i _ _ _ q)
theorem PA.imp {e : List Expr} {t t' : TA} (h : PA X e t) (i : ∀ σ H Q, t' σ H Q → t σ H Q) : PA X e t' := ⟨fun pos pins s σ H Q I q => h pos pins s σ H Q I (i _ _ _ q)⟩
theorem PS.imp {e : Stmt} {t t' : TS} (h : PS X e t) (i : ∀ D σ H, t' D σ H → t D σ H) : PS X e t' := ⟨fun pins s σ H D I q => h pins s σ H D I (i _ _ _ q)⟩
theorem dN.imp {e : List Stmt} {t t' : TS} (h : dN X e t) (i : ∀ D σ H, t' D σ H → t D σ H) : dN X e t' := ⟨fun pins s σ H D I q => h pins s σ H D I (i _ _ _ q)⟩
theorem PG.imp {e : Expr} {t t' : TG} (h : PG X e t) (i : ∀ v σ H Q, t' v σ H Q → t v σ H Q) : PG X e t' := fun pins s σ H v u Q I r q => h pins s σ H v u Q I r (i _ _ _ _ q)
theorem PI.imp {tg e : Expr} {t t' : TI} (h : PI X tg e t) (i : ∀ σ H Q, t' σ H Q → t σ H Q) : PI X tg e t' := fun pins s σ H Q I q => h pins s σ H Q I (i _ _ _ q)
theorem gj.imp {e : List Expr} {t t' : TT} (h : gj X e t) (i : ∀ σ H Q, t' σ H Q → t σ H Q) : gj X e t' := fun pins s σ H Q I q => h pins s σ H Q I (i _ _ _ q)
variable {Γ : Gz} {a b c : Expr} {pa pb pc : aH} {pos : Pos}
noncomputable def zVar (i : Nat) : aH := fun ρ M Q => match ρ[i]? with | some (some d) => Q d M | _ => False
noncomputable def zC (d : Dv) : aH := fun _ M Q => Q d M
theorem Ct {i : Nat} {x : Str} (hN : X.N[i]? = some x) (hv : rN X.env.scope x) (hd : (x == ("__debug__" : Str)) = false := by decide) (fP : (x == ("__classdict__" : Str)) = false := by decide) : QE Γ X (.Name x pos) (zVar i) :=
  (AI hN hv hd fP).imp fun σ H Q ⟨β, ρ, M, Q', z, h, q⟩ => by
    unfold zVar at h
    split at h
    · rename_i d e
      obtain ⟨v, e2, r⟩ := z.at' i d e
      exact ⟨v, e2, q d M v H (.refl z.mz) r h⟩
    · exact h.elim
theorem qc {e : Expr} {v : V} {d : Dv} (h : PE X e (tC v)) (r : ∀ β M H, Rz β M H v d) : QE Γ X e (zC d) := h.imp fun σ H Q ⟨β, ρ, M, Q', z, h, q⟩ => q d M v H (.refl z.mz) (r β M H) h
theorem af {i j pos} : QE Γ X (.Constant (.int i) j pos) (zC (.int i)) := qc AJ fun _ _ _ => .int _
theorem fh {b j pos} : QE Γ X (.Constant (.bool b) j pos) (zC (.bl b)) := qc Eh fun _ _ _ => .bl _
theorem u9 {j pos} : QE Γ X (.Constant .none j pos) (zC .aj) := qc AK fun _ _ _ => .aj
theorem dB {x j pos} : QE Γ X (.Constant (.str x) j pos) (zC (.str x)) := qc AO fun _ _ _ => .str _
theorem pJ {x : Str} {i : Int} {u : Value} (hg : Gl X x) (hm : X.mg x = some u) (r : RelV (.int i) u) (hd : (x == ("__debug__" : Str)) = false := by decide) : QE Γ X (.Name x pos) (zC (.int i)) := qc (mw hg hm r hd) fun _ _ _ => .int _
theorem xh {x z : Str} {u : Value} (hg : Gl X x) (hm : X.mg x = some u) (r : RelV (.str z) u) (hd : (x == ("__debug__" : Str)) = false := by decide) : QE Γ X (.Name x pos) (zC (.str z)) := qc (mw hg hm r hd) fun _ _ _ => .str _
theorem eR {x : Str} {v : V} {u : Value} (hg : Gl X x) (hm : X.mg x = some u) (r : RelV v u) (hd : (x == ("__debug__" : Str)) = false := by decide) : QE Γ X (.Name x pos) (zC (.raw v)) := qc (mw hg hm r hd) fun _ _ _ => .raw _
theorem iJ {x : Str} {v : V} {u : Value} (hg : Gl X x) (hm : X.mg x = none) (hv : bootBuiltins x = some u) (r : RelV v u) (hn : x ≠ "__name__" := by decide) (hd : (x == ("__debug__" : Str)) = false := by decide) : QE Γ X (.Name x pos) (zC (.raw v)) := qc (y7 hg hm hv r hn hd) fun _ _ _ => .raw _
noncomputable abbrev c6 := Dv → Dv → Mh → ZK → Prop
noncomputable def lQ (Γ : Gz) (r : R2) (z : c6) : Prop := ∀ (β : Bz) x y d e M H Q Q', β.P = Γ.P → β.w = Γ.w → β.K = Γ.K → Mz β M H → Rz β M H x d → Rz β M H y e → z d e M Q' → (∀ d' M' v H', Ex β M H M' H' → Rz β M' H' v d' → Q' d' M' → Q v H') → r x y H Q
noncomputable def de (Γ : Gz) (X : Cx) (f : Value → Value → Sem Value) (z : c6) : Prop := ∃ r, OpR X f r ∧ lQ Γ r z
noncomputable def zOp (z : c6) (pa pb : aH) : aH := fun ρ M Q => pa ρ M fun d M1 => pb ρ M1 fun e M2 => z d e M2 Q
theorem td {r : R2} {z : c6} (hz : lQ Γ r z) {σ : St} {H : Hp} {Q : VK} (h : lE Γ (zOp z pa pb) σ H Q) : uo r (lE Γ pa) (lE Γ pb) σ H Q := by
  obtain ⟨β, ρ, M, Q', zr, h, q⟩ := h
  exact ⟨β, ρ, M, _, zr, h, fun d M1 v H1 x1 r1 h1 => ⟨β, ρ, M1, _, zr.step x1, h1, fun e M2 u H2 x2 r2 h2 => hz β v u d e M2 H2 Q Q' zr.eP zr.ew zr.eK x2.mz (r1.ex x2) r2 h2 fun d' M' v' H' x3 r3 q3 => q _ _ _ _ (x1.trans (x2.trans x3)) r3 q3⟩⟩
theorem aR {op : Operator} {z : c6} (ho : de Γ X (binaryOp op) z) (ha : QE Γ X a pa) (hb : QE Γ X b pb) : QE Γ X (.BinOp a op b pos) (zOp z pa pb) := by
  obtain ⟨r, h1, h2⟩ := ho
  exact (Eo h1 ha hb).imp fun σ H Q h => td h2 h
theorem mH {op : CmpOp} {z : c6} (ho : de Γ X (compareOp op) z) (ha : QE Γ X a pa) (hb : QE Γ X b pb) (hm : behindInMarks op b = false) : QE Γ X (.Compare a [op] [b] pos) (zOp z pa pb) := by
  obtain ⟨r, h1, h2⟩ := ho
  exact (zk h1 ha hb hm).imp fun σ H Q h => td h2 h
noncomputable def zBool (Q : Bool → Mh → Prop) : ZK := fun d M => match d with | .bl k => Q k M | _ => False
theorem fB {Q : Bool → Mh → Prop} {d : Dv} {M : Mh} (h : zBool Q d M) : ∃ k, d = .bl k ∧ Q k M := by
  unfold zBool at h
  split at h
  · exact ⟨_, rfl, h⟩
  · exact h.elim
noncomputable def zTest (p : aH) : cx := fun ρ M Q => p ρ M (zBool Q)
theorem pK {p : aH} {t : TE} (i : ∀ σ H Q, lE Γ p σ H Q → t σ H Q) {σ : St} {H : Hp} {Q : Bool → Hp → Prop} (h : lT Γ (zTest p) σ H Q) : sF t σ H Q := by
  obtain ⟨β, ρ, M, Q', zr, h, q⟩ := h
  refine i _ _ _ ⟨β, ρ, M, _, zr, h, fun d M1 v H1 x1 r1 h1 => ?_⟩
  obtain ⟨k, rfl, h2⟩ := fB h1
  exact ⟨k, cC r1, q k M1 H1 x1 h2⟩
theorem bN {op : CmpOp} {z : c6} (ho : de Γ X (compareOp op) z) (ha : QE Γ X a pa) (hb : QE Γ X b pb) (hm : behindInMarks op b = false) : QT Γ X (.Compare a [op] [b] pos) (zTest (zOp z pa pb)) := by
  obtain ⟨r, h1, h2⟩ := ho
  exact (zl h1 ha hb hm).imp fun σ H Q h => pK (fun _ _ _ => td h2) h
theorem gU {e : Expr} {p : aH} (h : QE Γ X e p) (he : ∀ whole, isTrue e X.env whole = (do let v ← whole; standAt e.pos; holding [v] (truthy v)) := by intro _; rfl) : QT Γ X e (zTest p) :=
  (AQ h he).imp fun σ H Q h => pK (fun _ _ _ h => h) h
noncomputable def zChain (z z' : c6) (pa pb pc : aH) : aH := fun ρ M Q => pa ρ M fun x M1 => pb ρ M1 fun y M2 => z x y M2 (zBool fun k M3 => if k = true then pc ρ M3 fun u M4 => z' y u M4 Q else Q (.bl false) M3)
theorem se {r r' : R2} {z z' : c6} (hz : lQ Γ r z) (Jb : lQ Γ r' z') {σ : St} {H : Hp} {Q : VK} (h : lE Γ (zChain z z' pa pb pc) σ H Q) : oZ r r' (lE Γ pa) (lE Γ pb) (lE Γ pc) σ H Q := by
  obtain ⟨β, ρ, M, Q', zr, h, q⟩ := h
  refine ⟨β, ρ, M, _, zr, h, fun d M1 v H1 x1 r1 h1 => ⟨β, ρ, M1, _, zr.step x1, h1, fun e M2 u H2 x2 r2 h2 => hz β v u d e M2 H2 _ _ zr.eP zr.ew zr.eK x2.mz (r1.ex x2) r2 h2 fun d' M3 v' H3 x3 r3 h3 => ?_⟩⟩
  obtain ⟨k, rfl, h4⟩ := fB h3
  have Cu := x1.trans (x2.trans x3)
  refine ⟨k, cC r3, ?_⟩
  cases k with
  | true =>
    rw [if_pos rfl] at h4 ⊢
    exact ⟨β, ρ, M3, _, zr.step Cu, h4, fun f M4 g H4 x4 r4 h5 => Jb β u g e f M4 H4 _ _ zr.eP zr.ew zr.eK x4.mz ((r2.ex x3).ex x4) r4 h5 fun d5 M5 v5 H5 x5 r5 q5 => q _ _ _ _ (Cu.trans (x4.trans x5)) r5 q5⟩
  | false =>
    rw [if_neg Bool.false_ne_true] at h4 ⊢
    exact q _ _ _ _ Cu (.bl _) h4
theorem xi {op gL : CmpOp} {z z' : c6} (ho : de Γ X (compareOp op) z) (fO : de Γ X (compareOp gL) z') (ha : QE Γ X a pa) (hb : QE Γ X b pb) (hc : QE Γ X c pc) (hm : lastMarks [op, gL] [b, c] = false := by with_unfolding_all rfl) :
    QE Γ X (.Compare a [op, gL] [b, c] pos) (zChain z z' pa pb pc) := by
  obtain ⟨r, h1, h2⟩ := ho
  obtain ⟨r', Cv, Cw⟩ := fO
  exact (wC h1 Cv ha hb hc hm).imp fun σ H Q h => se h2 Cw h
theorem xj {op gL : CmpOp} {z z' : c6} (ho : de Γ X (compareOp op) z) (fO : de Γ X (compareOp gL) z') (ha : QE Γ X a pa) (hb : QE Γ X b pb) (hc : QE Γ X c pc) (hm : lastMarks [op, gL] [b, c] = false := by with_unfolding_all rfl) :
    QT Γ X (.Compare a [op, gL] [b, c] pos) (zTest (zChain z z' pa pb pc)) := by
  obtain ⟨r, h1, h2⟩ := ho
  obtain ⟨r', Cv, Cw⟩ := fO
  exact (wD h1 Cv ha hb hc hm).imp fun σ H Q h => pK (fun _ _ _ => se h2 Cw) h
variable {tA t9 : cx} {rest : List Expr}
noncomputable def zOr (t u : cx) : cx := fun ρ M Q => t ρ M fun c M1 => if c = true then Q true M1 else u ρ M1 Q
noncomputable def zNot (t : cx) : cx := fun ρ M Q => t ρ M fun c M1 => Q (!c) M1
theorem lR (ha : QT Γ X a tA) : QW Γ X (.BoolOp .Or [a] pos) tA := AR ha
theorem lU (ha : QT Γ X a tA) (hb : QW Γ X (.BoolOp .Or (b :: rest) pos) t9) : QW Γ X (.BoolOp .Or (a :: b :: rest) pos) (zOr tA t9) :=
  (Ei ha hb).imp fun σ H Q ⟨β, ρ, M, Q', zr, h, q⟩ => ⟨β, ρ, M, _, zr, h, fun k M1 H1 x1 h1 => by
    cases k with
    | false => rw [if_neg Bool.false_ne_true] at h1 ⊢; exact ⟨β, ρ, M1, _, zr.step x1, h1, fun k2 M2 H2 x2 h2 => q _ _ _ (x1.trans x2) h2⟩
    | true => rw [if_pos rfl] at h1 ⊢; exact q _ _ _ x1 h1⟩
theorem iK (ha : QT Γ X a tA) : QT Γ X (.UnaryOp .Not a pos) (zNot tA) := (AU ha).imp fun σ H Q ⟨β, ρ, M, Q', zr, h, q⟩ => ⟨β, ρ, M, _, zr, h, fun k M1 H1 x1 h1 => q _ _ _ x1 h1⟩
theorem QW.pt {e : Expr} {t : cx} (h : QW Γ X e t) : QT Γ X e t := PW.pt h
noncomputable def zAndV (pa pb : aH) : aH := fun ρ M Q => pa ρ M (zBool fun c M1 => if c = true then pb ρ M1 Q else Q (.bl false) M1)
noncomputable def zNotV (pa : aH) : aH := fun ρ M Q => pa ρ M (zBool fun c M1 => Q (.bl (!c)) M1)
theorem lV {op} (h : QE Γ X a pa) : QE Γ X (.BoolOp op [a] pos) pa := AV h
theorem lW (ha : QE Γ X a pa) (hb : QE Γ X (.BoolOp .And (b :: rest) pos) pb) : QE Γ X (.BoolOp .And (a :: b :: rest) pos) (zAndV pa pb) :=
  (AW ha hb).imp fun σ H Q ⟨β, ρ, M, Q', zr, h, q⟩ => ⟨β, ρ, M, _, zr, h, fun d M1 v H1 x1 r1 h1 => by
    obtain ⟨k, rfl, h2⟩ := fB h1
    refine ⟨k, cC r1, ?_⟩
    cases k with
    | true => rw [if_pos rfl] at h2 ⊢; exact ⟨β, ρ, M1, _, zr.step x1, h2, fun d2 M2 v2 H2 x2 r2 h2 => q _ _ _ _ (x1.trans x2) r2 h2⟩
    | false => rw [if_neg Bool.false_ne_true] at h2 ⊢; exact q _ _ _ _ x1 (.bl _) h2⟩
theorem va (ha : QE Γ X a pa) : QE Γ X (.UnaryOp .Not a pos) (zNotV pa) := (AX ha).imp fun σ H Q ⟨β, ρ, M, Q', zr, h, q⟩ => ⟨β, ρ, M, _, zr, h, fun d M1 v H1 x1 r1 h1 => by
    obtain ⟨k, rfl, h2⟩ := fB h1
    exact ⟨k, cC r1, q _ _ _ _ x1 (.bl _) h2⟩⟩
noncomputable def zNil : fg := fun _ M Q => Q [] M
noncomputable def zCons (p : aH) (r : fg) : fg := fun ρ M Q => p ρ M fun d M1 => r ρ M1 fun ds M2 => Q (d :: ds) M2
variable {es : List Expr} {za : fg}
theorem ae : QA Γ X [] zNil := Bq.imp fun σ H Q ⟨β, ρ, M, Q', zr, h, q⟩ => q [] M [] H (.refl zr.mz) .nil h
theorem aa {e : Expr} (ha : QE Γ X e pa) (hr : QA Γ X es za) (hs : starEach (e :: es) X.env = (false, eval e X.env) :: starEach es X.env := by rfl) : QA Γ X (e :: es) (zCons pa za) :=
  (zo ha hr hs).imp fun σ H Q ⟨β, ρ, M, Q', zr, h, q⟩ => ⟨β, ρ, M, _, zr, h, fun d M1 v H1 x1 r1 h1 => ⟨β, ρ, M1, _, zr.step x1, h1, fun ds M2 vs H2 x2 r2 h2 => q _ _ _ _ (x1.trans x2) (.cons (r1.ex x2) r2) h2⟩⟩
noncomputable def zTup (p : fg) : aH := fun ρ M Q => p ρ M fun ds M1 => ds.length ≤ sizeLine ∧ Q (.tup ds) M1
noncomputable def zLst (p : fg) : aH := fun ρ M Q => p ρ M fun ds M1 => ds.length ≤ sizeLine ∧ Q (.lst ds) M1
noncomputable def zLstP (p : fg) : aH := fun ρ M Q => p ρ M fun ds M1 => ds.length ≤ sizeLine ∧ ∀ a, M1 a = none → Q (.ptr a) (az M1 a (.lst ds))
theorem bq {x1} (h : QA Γ X es za) : QE Γ X (.Tuple es x1 pos) (zTup za) := (Br h).imp fun σ H Q ⟨β, ρ, M, Q', zr, h, q⟩ => ⟨β, ρ, M, _, zr, h, fun ds M1 vs H1 x1 r1 h1 => ⟨by rw [r1.len]; exact h1.1, fun p hp => by
    have x2 := Ex.lay x1.mz hp (.tup vs)
    exact q _ _ _ _ (x1.trans x2) (eB (x1.mz.fz hp) aB (r1.ex x2)) h1.2⟩⟩
theorem fW (h : QA Γ X es za) : QE Γ X (.List es pos) (zLst za) := (uz h).imp fun σ H Q ⟨β, ρ, M, Q', zr, h, q⟩ => ⟨β, ρ, M, _, zr, h, fun ds M1 vs H1 x1 r1 h1 => ⟨by rw [r1.len]; exact h1.1, fun p hp => by
    have x2 := Ex.lay x1.mz hp (.lst vs)
    exact q _ _ _ _ (x1.trans x2) (iI (x1.mz.fz hp) aB (r1.ex x2)) h1.2⟩⟩
theorem iL (h : QA Γ X es za) : QE Γ X (.List es pos) (zLstP za) := (uz h).imp fun σ H Q ⟨β, ρ, M, Q', zr, h, q⟩ => ⟨β, ρ, M, _, zr, h, fun ds M1 vs H1 x1 r1 h1 => ⟨by rw [r1.len]; exact h1.1, fun p hp => by
    have x2 := Ex.own x1.mz (.inr hp) r1
    exact q _ _ _ _ (x1.trans x2) (.ptr (by rw [updM_same]; rfl)) (h1.2 p (x1.mz.free hp))⟩⟩
noncomputable abbrev lX := List Dv → Mh → ZK → Prop
noncomputable def yE (Γ : Gz) (r : List V → Hp → VK → Prop) (z : lX) : Prop := ∀ (β : Bz) xs ds M H Q Q', β.P = Γ.P → β.w = Γ.w → β.K = Γ.K → Mz β M H → aJ β M H xs ds → z ds M Q' → (∀ d' M' v H', Ex β M H M' H' → Rz β M' H' v d' → Q' d' M' → Q v H') → r xs H Q
noncomputable def eH (Γ : Gz) (X : Cx) (f : Value) (z : lX) : Prop := ∃ r, cJ X f r ∧ yE Γ r z
noncomputable def zCB (z : lX) (p : fg) : aH := fun ρ M Q => p ρ M fun ds M1 => z ds M1 Q
theorem Cy {r : List V → Hp → VK → Prop} {z : lX} (hz : yE Γ r z) {σ : St} {H : Hp} {Q : VK} (h : lE Γ (zCB z za) σ H Q) : Bu r (lA Γ za) σ H Q := by
  obtain ⟨β, ρ, M, Q', zr, h, q⟩ := h
  exact ⟨β, ρ, M, _, zr, h, fun ds M1 vs H1 x1 r1 h1 => hz β vs ds M1 H1 _ _ zr.eP zr.ew zr.eK x1.mz r1 h1 fun d' M' v' H' x2 r2 q2 => q _ _ _ _ (x1.trans x2) r2 q2⟩
variable {st : Stmt} {uf : List Stmt} {p p2 : bD} {e : Expr} {pe : aH}
noncomputable def zNext : bD := fun D ρ M => D.nx ρ M
noncomputable def zSeq (p q : bD) : bD := fun D ρ M => p { D with nx := q D } ρ M
theorem qss_nil : ia Γ X [] zNext := y9.imp fun D σ H ⟨β, ρ, M, D', zr, h, r⟩ => r.nx ρ M σ H (.refl zr.mz) zr h
theorem ah (h1 : QS Γ X st p) (h2 : ia Γ X uf p2) : ia Γ X (st :: uf) (zSeq p p2) := (wq h1 h2).imp fun D σ H ⟨β, ρ, M, D', zr, h, r⟩ =>
  ⟨β, ρ, M, _, zr, h, fun bP M' aF H' x fi h' => ⟨β, bP, M', D', fi, h', r.step x⟩, r.rt, r.bk, r.ct⟩
theorem av (h1 : QS Γ X st p) : ia Γ X [st] p := zb h1
noncomputable def zDrop (p : aH) : bD := fun D ρ M => p ρ M fun _ M1 => D.nx ρ M1
theorem dF (he : QE Γ X e pe) (hs : swapsWith e none pos.line X.env = pure false := by rfl) : QS Γ X (.Expr e pos) (zDrop pe) := (zf he hs).imp fun D σ H ⟨β, ρ, M, D', zr, h, r⟩ =>
  ⟨β, ρ, M, _, zr, h, fun d M1 v H1 x1 r1 h1 => r.nx ρ M1 σ H1 x1.ev (zr.step x1) h1⟩
noncomputable def zRet (p : aH) : bD := fun D ρ M => p ρ M D.rt
theorem a8 (he : QE Γ X e pe) : QS Γ X (.Return (some e) pos) (zRet pe) := (AY he).imp fun D σ H ⟨β, ρ, M, D', zr, h, r⟩ => ⟨β, ρ, M, _, zr, h, fun d M' v H' x r1 h1 => r.rt _ _ _ _ x.ev (zr.ent.trans x.toEy) r1 h1⟩
noncomputable def zIfS (c : cx) (p q : bD) : bD := fun D ρ M => c ρ M fun b M1 => if b = true then p D ρ M1 else q D ρ M1
theorem cO {as bs : List Stmt} {pa pb : bD} (hc : QT Γ X c tA) (ha : ia Γ X as pa) (hb : ia Γ X bs pb) : QS Γ X (.If c as bs pos) (zIfS tA pa pb) := (En hc ha hb).imp fun D σ H ⟨β, ρ, M, D', zr, h, r⟩ =>
  ⟨β, ρ, M, _, zr, h, fun k M1 H1 x1 h1 => by
    cases k with
    | true => rw [if_pos rfl] at h1 ⊢; exact ⟨β, ρ, M1, D', zr.step x1, h1, r.step x1.ev⟩
    | false => rw [if_neg Bool.false_ne_true] at h1 ⊢; exact ⟨β, ρ, M1, D', zr.step x1, h1, r.step x1.ev⟩⟩
noncomputable def zNever : bD := fun _ _ _ => False
theorem kT : QS Γ X st zNever := wt.imp fun D σ H ⟨β, ρ, M, D', zr, h, r⟩ => h
theorem vb : ia Γ X uf zNever := ue.imp fun D σ H ⟨β, ρ, M, D', zr, h, r⟩ => h
noncomputable def zgName (i : Nat) : b6 := fun d ρ M N => N (ρ.set i (some d)) M
theorem aV {i : Nat} {x : Str} (hN : X.N.Nodup) (hi : X.N[i]? = some x) (hx : Loc X.env.scope x) (hf : X.fn x = true ∨ X.env.scope.names.lookup x = some .local := by first | exact .inl rfl | exact .inr rfl | assumption) : QG Γ X (.Name x pos) (zgName i) :=
  (zg hN hi hx hf).imp fun v σ H N ⟨β, d, ρ, M, N', zr, r, h, q⟩ => q _ _ _ _ (.refl zr.mz) (zr.set i r) h
noncomputable def zAsg (p : aH) (g : b6) : bD := fun D ρ M => p ρ M fun d M1 => g d ρ M1 D.nx
theorem EZ {g : b6} {D : Ends} {σ : St} {H : Hp} (h : lS Γ (zAsg pe g) D σ H) : oU (lE Γ pe) (lG Γ g) D σ H := by
  obtain ⟨β, ρ, M, D', zr, h, r⟩ := h
  exact ⟨β, ρ, M, _, zr, h, fun d M1 v H1 x1 r1 h1 => ⟨β, d, ρ, M1, D'.nx, zr.step x1, r1, h1, fun bP M' aF H' x fi h' => r.nx _ _ _ _ (x1.trans x).ev fi h'⟩⟩
theorem jL {tg : Expr} {g : b6} (he : QE Γ X e pe) (hg : QG Γ X tg g) (hs : swapsWithSole [tg] e pos.line X.env = pure false := by rfl) (hw : swappedStores [tg] e X.env = pure none := by rfl)
    (h1 : (assignEach [tg] X.env).map (·.2) = [assign tg X.env] := by rfl) : QS Γ X (.Assign [tg] e pos) (zAsg pe g) := (A1 he hg hs hw h1).imp fun D σ H h => EZ h
theorem tj {t : TE} (i : ∀ σ H Q, lE Γ pe σ H Q → t σ H Q) {n : Nat} {D : Ends} {σ : St} {H : Hp} (h : lS Γ (zAsg pe (zgName n)) D σ H) : oU t (oD n) D σ H := by
  obtain ⟨β, ρ, M, D', zr, h, r⟩ := h
  exact i _ _ _ ⟨β, ρ, M, _, zr, h, fun d M1 v H1 x1 r1 h1 => r.nx _ _ _ _ x1.ev ((zr.step x1).set n r1) h1⟩
theorem aL {i : Nat} {x : Str} {pos' : Pos} (hN : X.N.Nodup) (hi : X.N[i]? = some x) (hx : Loc X.env.scope x) (he : QE Γ X e pe) (hs : swapsWith e (some (.Name x pos')) pos.line X.env = pure false := by rfl) (hf : X.fn x = true ∨ X.env.scope.names.lookup x = some .local := by first | exact .inl rfl | exact .inr rfl | assumption) :
    QS Γ X (.Assign [.Name x pos'] e pos) (zAsg pe (zgName i)) := (A6 hN hi hx he hs hf).imp fun D σ H h => tj (fun _ _ _ h => h) h
end
section
variable {X : Cx} {Γ : Gz} {β : Bz}
noncomputable def ziTup (p : aH) : eC := fun ρ M R => p ρ M fun d M1 => match d with | .tup ds => R ds M1 | _ => False
noncomputable def ziLst (p : aH) : eC := fun ρ M R => p ρ M fun d M1 => match d with | .lst ds => R ds M1 | _ => False
noncomputable def dC (z : Str) : List Dv := z.cps.toList.map fun c => .str ⟨#[c]⟩
noncomputable def ziStr (p : aH) : eC := fun ρ M R => p ρ M fun d M1 => match d with | .str z => R (dC z) M1 | _ => False
noncomputable def dD (lo : Int) (n : Nat) : List Dv := (List.range n).map fun i => .int (lo + (i : Nat))
noncomputable def ziRng1 (p : fg) : eC := fun ρ M R => p ρ M fun ds M1 => match ds with | [.int j] => -(2 ^ 62) ≤ j ∧ j < 2 ^ 62 ∧ R (dD 0 j.toNat) M1 | _ => False
theorem iW {J : It} {vs : List V} {ds : List Dv} {M : Mh} {H : Hp} (r : aJ β M H vs ds) (h : ∀ M' H', Ey M H M' H' → Runs J vs H') : yD β J ds M H := fun b8 M' H' bx x m i => by
  have q := h M' H' x i
  rw [← r.len]
  refine ⟨fun hi => ⟨(q.1 hi).1, fun v jK y => ?_⟩, q.2⟩
  obtain ⟨e, hv⟩ := (q.1 hi).2 v jK y
  subst e
  obtain ⟨d, hd, rd⟩ := r.get' hv
  exact ⟨.refl m, d, hd, (rd.bx bx).ey x⟩
variable {tg l : Expr} {p : aH} {pa : fg} {K : PySem.W.Frag}
theorem fX (hK : X.K = K) (hl : QE Γ X l p) : QI Γ X tg l (ziTup p) := (zG hK hl).imp fun σ H R ⟨β, ρ, M, R', zr, h, q⟩ => ⟨β, ρ, M, _, zr, h, fun d M1 v H1 x1 r1 h1 => by
  revert h1
  split
  · intro h1
    obtain ⟨a, vs, rfl, m, e, rs⟩ := cN r1
    exact ⟨a, rfl, ⟨_, bR.of e⟩, q _ _ _ _ x1 (iW rs fun M' H' x => wV (bR.of (x.get m.1 e rfl))) h1⟩
  · exact fun h => h.elim⟩
theorem iM (hK : X.K = K) (hl : QE Γ X l p) : QI Γ X tg l (ziLst p) := (wX hK hl).imp fun σ H R ⟨β, ρ, M, R', zr, h, q⟩ => ⟨β, ρ, M, _, zr, h, fun d M1 v H1 x1 r1 h1 => by
  revert h1
  split
  · intro h1
    obtain ⟨a, vs, rfl, m, e, rs⟩ := dq r1
    exact ⟨a, rfl, ⟨_, bH.of e⟩, q _ _ _ _ x1 (iW rs fun M' H' x => uU (bH.of (x.get m.1 e rfl))) h1⟩
  · exact fun h => h.elim⟩
theorem vc {z : Str} {M : Mh} {H : Hp} : aJ β M H (gQ z) (dC z) := ⟨by simp [gQ, dC], fun i v d a b => by
  unfold gQ at a
  unfold dC at b
  rw [List.getElem?_map] at a b
  cases e : z.cps.toList[i]? with
  | none => rw [e] at a; cases a
  | some c => rw [e] at a b; cases a; cases b; exact .str _⟩
theorem vd (hl : QE Γ X l p) : QI Γ X tg l (ziStr p) := (B3 hl).imp fun σ H R ⟨β, ρ, M, R', zr, h, q⟩ => ⟨β, ρ, M, _, zr, h, fun d M1 v H1 x1 r1 h1 => by
  revert h1
  split
  · intro h1
    exact ⟨_, a7 r1, q _ _ _ _ x1 (iW vc fun M' H' x => wW) h1⟩
  · exact fun h => h.elim⟩
theorem ve {lo : Int} {n : Nat} {M : Mh} {H : Hp} : aJ β M H ((List.range n).map fun i => V.int (lo + (i : Nat))) (dD lo n) := ⟨by simp [dD], fun i v d a b => by
  unfold dD at b
  rw [List.getElem?_map] at a b
  cases e : (List.range n)[i]? with
  | none => rw [e] at a; cases a
  | some c => rw [e] at a b; cases a; cases b; exact .int _⟩
theorem dg {xs : List V} {d : Dv} {M : Mh} {H : Hp} (r : aJ β M H xs [d]) : ∃ v, xs = [v] ∧ Rz β M H v d := by
  match xs, r with
  | [v], r => exact ⟨v, rfl, r.head⟩
  | [], r => exact absurd r.len (by simp)
  | _ :: _ :: _, r => exact absurd r.len (by simp)
theorem gD {xs : List V} {d e : Dv} {M : Mh} {H : Hp} (r : aJ β M H xs [d, e]) : ∃ v u, xs = [v, u] ∧ Rz β M H v d ∧ Rz β M H u e := by
  match xs, r with
  | [v, u], r => exact ⟨v, u, rfl, r.head, r.tail.head⟩
  | [], r => exact absurd r.len (by simp)
  | [_], r => exact absurd r.len (by simp)
  | _ :: _ :: _ :: _, r => exact absurd r.len (by simp)
section
variable {e e1 e2 : Expr} {pr pos : Pos}
theorem Cz {σ : St} {H : Hp} {R : It → Hp → Prop} (h : lI Γ (ziRng1 pa) σ H R) : yn (lA Γ pa) σ H R := by
  obtain ⟨β, ρ, M, R', zr, h, q⟩ := h
  refine ⟨β, ρ, M, _, zr, h, fun ds M1 vs H1 x1 r1 h1 => ?_⟩
  revert h1
  split
  · rintro ⟨b1, b2, h1⟩
    obtain ⟨v, rfl, r⟩ := dg r1
    rw [aD r]
    exact ⟨_, rfl, b1, b2, q _ _ _ _ x1 (iW ve fun M' H' x => sP) h1⟩
  · exact fun h => h.elim
end
noncomputable def zLoop (g : b6) (tb : bD) (D : eG) : List Dv → ax → Mh → Prop
  | [], ρ, M => D.nx ρ M
  | d :: ds, ρ, M => g d ρ M fun eD M2 => tb { D with nx := zLoop g tb D ds, ct := zLoop g tb D ds, bk := D.nx } eD M2
noncomputable def zFor (zi : eC) (g : b6) (tb : bD) : bD := fun D ρ M => zi ρ M fun ds M1 => zLoop g tb D ds ρ M1
noncomputable def zForM (zi : eC) (g : b6) (tb : Mh → bD) : bD := fun D ρ M => zi ρ M fun ds M1 => zLoop g (tb M1) D ds ρ M1
theorem Zr.root {M : Mh} {ρ : ax} {σ : St} {H : Hp} (z : Zr Γ β M ρ σ H) : Zr ⟨β, M, H⟩ β M ρ σ H := ⟨rfl, rfl, rfl, rfl, fun _ h => h, z.mz.wf, .refl, z.mz, z.len, z.at'⟩
theorem Zr.vf {M M1 : Mh} {ρ Gm : ax} {σ ng : St} {H H1 : Hp} (z : Zr Γ β M ρ σ H) (y : Zr ⟨β, M, H⟩ β M1 Gm ng H1) : Zr Γ β M1 Gm ng H1 := ⟨z.eP, z.ew, z.eK, z.et, z.sub, z.wf, z.ent.trans y.ent, y.mz, y.len, y.at'⟩
theorem E1 {zi : eC} {g : b6} {tb : Mh → bD} {t : TS} (hb : ∀ aQ : Gz, aQ.P = Γ.P → aQ.w = Γ.w → aQ.K = Γ.K → aQ.tb = Γ.tb → ∀ D σ H, lS aQ (tb aQ.M0) D σ H → t D σ H) {tg : TG} (hg : ∀ aQ : Gz, aQ.P = Γ.P → aQ.w = Γ.w → aQ.K = Γ.K → aQ.tb = Γ.tb → ∀ x σ H N, lG aQ g x σ H N → tg x σ H N) {D : Ends} {σ : St} {H : Hp} (h : lS Γ (zForM zi g tb) D σ H) : Bc (lI Γ zi) tg t D σ H := by
  obtain ⟨β, ρ, M, D', zr, h, r⟩ := h
  refine ⟨β, ρ, M, _, zr, h, fun ds M1 H1 J x1 it h1 => ?_⟩
  have gm := zr.step x1
  refine ⟨fun i m aF H' => m = ds.length - i ∧ i ≤ ds.length ∧ ∃ bP M', Zr ⟨β, M1, H1⟩ β M' bP aF H' ∧ zLoop g (tb M1) D' (ds.drop i) bP M', ⟨ds.length, rfl, Nat.zero_le _, ρ, M1, gm.root, h1⟩, ?_⟩
  rintro i m aF H' ⟨rfl, hi, bP, M', fi, h'⟩
  have ev : ∀ {M2 : Mh} {eD : ax} {fR : St} {H2 : Hp}, Zr ⟨β, M1, H1⟩ β M2 eD fR H2 → Ev β M H M2 H2 := fun z => x1.ev.trans ⟨z.ent.keep, z.ent.new, z.mz⟩
  by_cases cP : i < ds.length
  · have q := (it β M' H' .refl fi.ent fi.mz i).1 cP
    refine .inr ⟨q.1, fun fR H2 => ∃ eD M2, Zr ⟨β, M1, H1⟩ β M2 eD fR H2 ∧ zLoop g (tb M1) D' (ds.drop (i + 1)) eD M2, fun fR H2 ⟨eD, M2, Jc, h2⟩ => ⟨ds.length - (i + 1), by omega, rfl, cP, eD, M2, Jc, h2⟩, fun v jK y => ?_⟩
    obtain ⟨x2, d, hd, rd⟩ := q.2 v jK y
    have e : ds.drop i = d :: ds.drop (i + 1) := by
      rw [List.drop_eq_getElem_cons cP]
      rw [List.getElem?_eq_getElem cP] at hd
      cases hd
      rfl
    rw [e] at h'
    refine hg ⟨β, M1, H1⟩ zr.eP zr.ew zr.eK zr.et _ _ _ _ ⟨β, d, bP, M', _, fi.step x2, rd, h', fun Jd M3 jg H3 x3 Je h3 => hb ⟨β, M1, H1⟩ zr.eP zr.ew zr.eK zr.et _ _ _ ⟨β, Jd, M3, _, Je, h3, ?_⟩⟩
    exact ⟨fun lY M4 vg H4 x4 ji h4 => ⟨lY, M4, ji, h4⟩, fun d4 M4 v4 H4 x4 e4 r4 h4 => r.rt _ _ _ _ (x1.ev.trans ⟨e4.keep, e4.new, x4.mz⟩) (gm.ent.trans e4) r4 h4, fun lY M4 vg H4 x4 ji h4 => r.nx _ _ _ _ (ev ji) (gm.vf ji) h4, fun lY M4 vg H4 x4 ji h4 => ⟨lY, M4, ji, h4⟩⟩
  · have e : i = ds.length := by omega
    subst e
    rw [List.drop_length] at h'
    exact .inl ⟨(it β M' H' .refl fi.ent fi.mz _).2 (Nat.le_refl _), r.nx _ _ _ _ (ev fi) (gm.vf fi) h'⟩
noncomputable def Jf (Γ : Gz) (p : Mh → bD) : TS := fun D σ H => ∃ aQ : Gz, aQ.P = Γ.P ∧ aQ.w = Γ.w ∧ aQ.K = Γ.K ∧ aQ.tb = Γ.tb ∧ lS aQ (p aQ.M0) D σ H
noncomputable def Jg (Γ : Gz) (p : b6) : TG := fun x σ H N => ∃ aQ : Gz, aQ.P = Γ.P ∧ aQ.w = Γ.w ∧ aQ.K = Γ.K ∧ aQ.tb = Γ.tb ∧ lG aQ p x σ H N
theorem zN {body : List Stmt} {iter : Expr} {zi : eC} {g : b6} {tb : Mh → bD} {pos : Pos} (hp : PassesOwn (model X.prog X.w) X.A X.env X.xe) (hc : X.calm = true) (hi : QI Γ X tg iter zi)
    (pL : ∀ (aQ : Gz) (M1 : Mh), aQ.M0 = M1 → aQ.P = Γ.P → aQ.w = Γ.w → aQ.K = Γ.K → aQ.tb = Γ.tb → QG aQ X tg g ∧ ia aQ X body (tb M1))
    (hs : ∀ x, foldedSetIterable iter X.env x = pure x := by intro _; rfl) : QS Γ X (.For tg iter body [] pos) (zForM zi g tb) :=
  (Bd (g := Jg Γ g) (tb := Jf Γ tb) hp hc hi (fun pins s σ H v u Q I r h => by obtain ⟨aQ, e1, e2, e3, e4, h⟩ := h; exact (pL aQ _ rfl e1 e2 e3 e4).1 pins s σ H v u Q I r h) ⟨fun pins s σ H D I h => by obtain ⟨aQ, e1, e2, e3, e4, h⟩ := h; exact (pL aQ _ rfl e1 e2 e3 e4).2 pins s σ H D I h⟩ hs).imp
    fun D σ H h => E1 (fun aQ e1 e2 e3 e4 D σ H h => ⟨aQ, e1, e2, e3, e4, h⟩) (fun aQ e1 e2 e3 e4 x σ H N h => ⟨aQ, e1, e2, e3, e4, h⟩) h
theorem dE {body : List Stmt} {iter : Expr} {zi : eC} {g : b6} {tb : bD} {pos : Pos} (hp : PassesOwn (model X.prog X.w) X.A X.env X.xe) (hc : X.calm = true) (hi : QI Γ X tg iter zi)
    (pL : ∀ aQ : Gz, aQ.P = Γ.P → aQ.w = Γ.w → aQ.K = Γ.K → aQ.tb = Γ.tb → QG aQ X tg g ∧ ia aQ X body tb)
    (hs : ∀ x, foldedSetIterable iter X.env x = pure x := by intro _; rfl) : QS Γ X (.For tg iter body [] pos) (zFor zi g tb) := zN (tb := fun _ => tb) hp hc hi (fun aQ M1 _ e1 e2 e3 e4 => pL aQ e1 e2 e3 e4) hs
theorem cy {a : Expr} {p pos : Pos} (hg : Gl X "range") (hm : X.mg "range" = none) (ha : QA Γ X [a] pa) (hs : starEach [a] X.env = [(false, eval a X.env)] := by rfl) : QI Γ X tg (.Call (.Name "range" p) [a] [] pos) (ziRng1 pa) := (uj hg hm ha hs).imp fun σ H R h => Cz h
noncomputable def vh (c : cx) (tb : bD) : bD := fun D ρ M => ∃ W : Nat → ax → Mh → Prop, (∃ m, W m ρ M) ∧ ∀ m ρ M, W m ρ M →
  c ρ M fun b M1 => if b = true then tb { D with nx := fun bP M' => ∃ m', m' < m ∧ W m' bP M', ct := fun bP M' => ∃ m', m' < m ∧ W m' bP M', bk := D.nx } ρ M1 else D.nx ρ M1
theorem zO {c : cx} {tb : bD} {D : Ends} {σ : St} {H : Hp} (h : lS Γ (vh c tb) D σ H) : ug (lT Γ c) (lS Γ tb) D σ H := by
  obtain ⟨β, ρ, M, D', zr, ⟨W, ⟨m0, w0⟩, turn⟩, r⟩ := h
  refine ⟨fun m aF H' => ∃ bP M', Ev β M H M' H' ∧ Zr Γ β M' bP aF H' ∧ W m bP M', ⟨m0, ρ, M, .refl zr.mz, zr, w0⟩, ?_⟩
  rintro m aF H' ⟨bP, M', x', fi, w'⟩
  refine ⟨β, bP, M', _, fi, turn m bP M' w', fun k M1 H1 x1 h1 => ?_⟩
  have vi := x'.trans x1.ev
  cases k with
  | true =>
    dsimp only at h1 ⊢
    rw [if_pos rfl] at h1 ⊢
    refine ⟨fun fR H2 => ∃ m', m' < m ∧ ∃ eD M2, Ev β M H M2 H2 ∧ Zr Γ β M2 eD fR H2 ∧ W m' eD M2, fun fR H2 h2 => h2, β, bP, M1, _, fi.step x1, h1, ?_⟩
    exact ⟨fun lY M4 vg H4 x4 ji ⟨m', hm, w4⟩ => ⟨m', hm, lY, M4, vi.trans x4, ji, w4⟩, fun d4 M4 v4 H4 x4 e4 r4 h4 => r.rt _ _ _ _ (vi.trans x4) e4 r4 h4, fun lY M4 vg H4 x4 ji h4 => r.nx _ _ _ _ (vi.trans x4) ji h4, fun lY M4 vg H4 x4 ji ⟨m', hm, w4⟩ => ⟨m', hm, lY, M4, vi.trans x4, ji, w4⟩⟩
  | false =>
    dsimp only at h1 ⊢
    rw [if_neg Bool.false_ne_true] at h1 ⊢
    exact r.nx _ _ _ _ vi (fi.step x1) h1
theorem xk {body : List Stmt} {c : Expr} {zc : cx} {tb : bD} {pos : Pos} (hp : PassesOwn (model X.prog X.w) X.A X.env X.xe) (hc : QT Γ X c zc) (hb : ia Γ X body tb) : QS Γ X (.While c body [] pos) (vh zc tb) := (wx hp hc hb).imp fun D σ H h => zO h
theorem b7 {g : b6} {tb : bD} {D : eG} (J : Nat → ax → Mh → Prop) {ds : List Dv} {ρ : ax} {M : Mh} (h0 : J 0 ρ M)
    (hs : ∀ i d ρ M (N : ax → Mh → Prop), ds[i]? = some d → J i ρ M → (∀ bP M', J (i + 1) bP M' → N bP M') → g d ρ M fun eD M2 => tb { D with nx := N, ct := N, bk := D.nx } eD M2)
    (hd : ∀ ρ M, J ds.length ρ M → D.nx ρ M) : zLoop g tb D ds ρ M := by
  have key : ∀ (n i : Nat) ρ M, n = ds.length - i → i ≤ ds.length → J i ρ M → zLoop g tb D (ds.drop i) ρ M := by
    intro n
    induction n with
    | zero =>
      intro i ρ M e hi h
      have : i = ds.length := by omega
      subst this
      rw [List.drop_length]
      exact hd _ _ h
    | succ n ih =>
      intro i ρ M e hi h
      have cP : i < ds.length := by omega
      rw [List.drop_eq_getElem_cons cP]
      exact hs i _ ρ M _ (List.getElem?_eq_getElem cP) h fun ρ M h => ih (i + 1) ρ M (by omega) cP h
  exact key _ 0 ρ M rfl (Nat.zero_le _) h0
end
section
variable {X : Cx} {Γ : Gz} {β : Bz}
noncomputable def zBlock (tn : Nat) (idx : List Nat) (ρ : ax) : ax := List.replicate tn none ++ idx.map fun i => (ρ[i]?).join
theorem Zr.block {M : Mh} {ρ : ax} {σ : St} {H : Hp} (z : Zr Γ β M ρ σ H) (tn : Nat) (idx : List Nat) : Zr Γ β M (zBlock tn idx ρ) (bA tn idx σ) H := ⟨z.eP, z.ew, z.eK, z.et, z.sub, z.wf, z.ent, z.mz, by simp [zBlock, bA], fun i d e => by
  unfold zBlock at e
  unfold bA
  rw [List.getElem?_append] at e ⊢
  rw [List.length_replicate] at e ⊢
  split at e
  · rw [List.getElem?_replicate] at e
    split at e <;> cases e
  · rename_i hi
    rw [if_neg hi]
    rw [List.getElem?_map] at e ⊢
    cases q : idx[i - tn]? with
    | none => rw [q] at e; cases e
    | some j =>
      rw [q] at e
      have e2 : ρ[j]? = some (some d) := by
        simp only [Option.map_some, Option.some.injEq] at e
        cases q2 : ρ[j]? with
        | none => rw [q2] at e; cases e
        | some o => rw [q2] at e; simp only [Option.join_some] at e; rw [e]
      obtain ⟨v, hv, r⟩ := z.at' j d e2
      exact ⟨v, by simp [hv], r⟩⟩
theorem Zr.enter {M : Mh} {ρ : ax} {σ : St} {H : Hp} {D : Addr} {o : HO} (z : Zr Γ β M ρ σ H) (hD : H D = none) (ho : kR o = true) : Zr Γ (β.add D) M ρ σ (upd H D o) :=
  ⟨z.eP, z.ew, z.eK, z.et, fun a h => List.mem_cons_of_mem _ (z.sub a h), z.wf, z.ent.over (z.ent.gone hD (by
    cases e : Γ.M0 D with
    | none => rfl
    | some u => have := z.ent.dom D (by rw [e]; rfl); rw [z.mz.free hD] at this; cases this)), z.mz.enter hD ho, z.len, fun i d e => let ⟨v, h, r⟩ := z.at' i d e; ⟨v, h, r.enter hD⟩⟩
theorem Zr.over {M : Mh} {ρ : ax} {σ : St} {H : Hp} {D : Addr} {o : HO} (z : Zr Γ β M ρ σ H) (hD : D ∈ β.hid) (ho : kR o = true) (hM : M D = none) (ht : D ∉ β.tb) (h0 : Γ.H0 D = none) : Zr Γ β M ρ σ (upd H D o) :=
  ⟨z.eP, z.ew, z.eK, z.et, z.sub, z.wf, z.ent.over h0, z.mz.over hD ho hM ht, z.len, fun i d e => let ⟨v, h, r⟩ := z.at' i d e; ⟨v, h, r.over hD⟩⟩
noncomputable abbrev nR (Γ : Gz) (X : Cx) (ifs : List Expr) (t : cx) : Prop := gj X ifs (lT Γ t)
noncomputable def zNoIf : cx := fun _ M Q => Q true M
theorem cH : nR Γ X [] zNoIf := zB.imp fun σ H Q ⟨β, ρ, M, Q', zr, h, q⟩ => q true M H (.refl zr.mz) h
theorem zP {c : Expr} {tc : cx} (h : QT Γ X c tc) : nR Γ X [c] tc := zD h
noncomputable def eS (g : b6) (tt : cx) (te : aH) : List Dv → ax → Mh → (List Dv → Mh → Prop) → Prop
  | [], _, M, Q => Q [] M
  | d :: ds, τ, M, Q => g d τ M fun aw M2 => tt aw M2 fun b M3 => if b = true then te aw M3 fun y M4 => eS g tt te ds aw M4 fun ys M5 => Q (y :: ys) M5 else eS g tt te ds aw M3 Q
structure Acc (Γ : Gz) (β : Bz) (D : Addr) (M1 : Mh) (H1 : Hp) (bK : ax) (M : Mh) (τ : St) (H : Hp) (acc : List V) (bE : List Dv) : Prop where
  ey : Ey M1 H1 M H
  m : M D = none
  zr : Zr Γ (β.add D) M bK τ H
  at' : H D = some (.lst acc)
  rs : aJ (β.add D) M H acc bE
  h1 : H1 D = none
  h0 : Γ.H0 D = none
  nt : D ∉ β.tb
theorem Acc.start {D : Addr} {M1 : Mh} {H1 : Hp} {bK : ax} {τ : St} (zr : Zr Γ β M1 bK τ H1) (hD : H1 D = none) : Acc Γ β D M1 H1 bK M1 τ (upd H1 D (.lst [])) [] [] :=
  ⟨Ey.refl.over hD, zr.mz.free hD, zr.enter hD rfl, aB, .nil, hD, zr.ent.gone hD (by
    cases e : Γ.M0 D with
    | none => rfl
    | some u => have := zr.ent.dom D (by rw [e]; rfl); rw [zr.mz.free hD] at this; cases this), zr.mz.HG hD⟩
section
variable {D : Addr} {M1 M M2 : Mh} {H1 H H2 : Hp} {bK CA : ax} {τ aw : St} {acc : List V} {bE : List Dv}
theorem Acc.step (A : Acc Γ β D M1 H1 bK M τ H acc bE) (x : Ex (β.add D) M H M2 H2) (z : Zr Γ (β.add D) M2 CA aw H2) : Acc Γ β D M1 H1 CA M2 aw H2 acc bE :=
  ⟨A.ey.trans x.toEy, x.new D _ A.m A.at', z, x.get A.m A.at' rfl, A.rs.ex x, A.h1, A.h0, A.nt⟩
theorem Acc.snoc (A : Acc Γ β D M1 H1 bK M τ H acc bE) {y : V} {d : Dv} (r : Rz (β.add D) M H y d) : Acc Γ β D M1 H1 bK M τ (upd H D (.lst (acc ++ [y]))) (acc ++ [y]) (bE ++ [d]) := by
  have hD : D ∈ (β.add D).hid := List.mem_cons_self
  exact ⟨A.ey.over A.h1, A.m, A.zr.over hD rfl A.m A.nt A.h0, aB, ⟨by simp [A.rs.len], fun i v d a b => ((A.rs.snoc r).at' i v d a b).over hD⟩, A.h1, A.h0, A.nt⟩
theorem Acc.fz (A : Acc Γ β D M1 H1 bK M τ H acc bE) (m1 : Mz β M1 H1) : Fz β M D := ⟨A.m, (m1.fz A.h1).2⟩
theorem Acc.mz (A : Acc Γ β D M1 H1 bK M τ H acc bE) : Mz β M H := Mz.sub (β := β.add D) (b8 := β) rfl rfl rfl rfl (fun a h => List.mem_cons_of_mem _ h) A.zr.mz
theorem Acc.items (A : Acc Γ β D M1 H1 bK M τ H acc bE) : aJ β M H acc bE := ⟨A.rs.len, fun i v d a b => Rz.sub (β := β.add D) (b8 := β) rfl rfl rfl (fun a h => List.mem_cons_of_mem _ h) (A.rs.at' i v d a b)⟩
theorem Acc.ex (A : Acc Γ β D M1 H1 bK M τ H acc bE) : Ex β M1 H1 M H := ⟨A.ey, A.mz⟩
end
noncomputable def zComp (tn : Nat) (idx : List Nat) (zi : eC) (g : b6) (tt : cx) (te : aH) : aH := fun ρ M Q => zi ρ M fun ds M1 => ds.length < sizeLine ∧ eS g tt te ds (zBlock tn idx ρ) M1 fun ys M2 => Q (.lst ys) M2
noncomputable def zCompP (tn : Nat) (idx : List Nat) (zi : eC) (g : b6) (tt : cx) (te : aH) : aH := fun ρ M Q => zi ρ M fun ds M1 => ds.length < sizeLine ∧ eS g tt te ds (zBlock tn idx ρ) M1 fun ys M2 => ∀ a, M2 a = none → Q (.ptr a) (az M2 a (.lst ys))
noncomputable def zTupG (tn : Nat) (idx : List Nat) (zi : eC) (g : b6) (tt : cx) (te : aH) : aH := fun ρ M Q => zi ρ M fun ds M1 => ds.length < sizeLine ∧ eS g tt te ds (zBlock tn idx ρ) M1 fun ys M2 => Q (.tup ys) M2
variable {zi : eC} {g : b6} {tt : cx} {te : aH} {tn : Nat} {idx : List Nat}
noncomputable def ix (Γ : Gz) (β : Bz) (D : Addr) (M1 : Mh) (H1 : Hp) (g : b6) (tt : cx) (te : aH) (ds : List Dv) (Q' : List Dv → Mh → Prop) (i m : Nat) (τ : St) (H : Hp) : Prop :=
  m = ds.length - i ∧ i ≤ ds.length ∧ ∃ bK M acc bE, Acc Γ β D M1 H1 bK M τ H acc bE ∧ acc.length ≤ i ∧ eS g tt te (ds.drop i) bK M fun ys M2 => Q' (bE ++ ys) M2
theorem jM {D : Addr} {M1 : Mh} {H1 : Hp} {ds : List Dv} {Q' : List Dv → Mh → Prop} {J : It} (it : yD β J ds M1 H1) (hlen : ds.length < sizeLine) {i m : Nat} {τ : St} {H : Hp} (w : ix Γ β D M1 H1 g tt te ds Q' i m τ H)
    {C : V → St → Hp → Prop} (hC : ∀ y aw H4 acc, H4 D = some (.lst acc) → acc.length < sizeLine → (∃ m', m' < m ∧ ix Γ β D M1 H1 g tt te ds Q' (i + 1) m' aw (upd H4 D (.lst (acc ++ [y])))) → C y aw H4) :
    (J.stop i H ∧ ∃ bK M acc bE, Acc Γ β D M1 H1 bK M τ H acc bE ∧ acc.length < sizeLine ∧ Q' bE M) ∨
    (J.go i H ∧ ∀ x H', J.yld i H x H' → lG Γ g x τ H' fun aw H2 => lT Γ tt aw H2 fun b H3 => if b = true then lE Γ te aw H3 fun y H4 => C y aw H4 else ∃ m', m' < m ∧ ix Γ β D M1 H1 g tt te ds Q' (i + 1) m' aw H3) := by
  obtain ⟨rfl, hi, bK, M, acc, bE, A, Ke, h⟩ := w
  have q := it (β.add D) M H (.add A.h1) A.ey A.zr.mz i
  by_cases cP : i < ds.length
  · refine .inr ⟨(q.1 cP).1, fun x H' y => ?_⟩
    obtain ⟨x2, d, hd, rd⟩ := (q.1 cP).2 x H' y
    have e : ds.drop i = d :: ds.drop (i + 1) := by
      rw [List.drop_eq_getElem_cons cP]
      rw [List.getElem?_eq_getElem cP] at hd
      cases hd
      rfl
    rw [e] at h
    have A2 := A.step x2 (A.zr.step x2)
    refine ⟨β.add D, d, bK, M, _, A2.zr, rd, h, fun fj M3 jN H3 x3 z3 h3 => ?_⟩
    have A3 := A2.step x3 z3
    refine ⟨β.add D, fj, M3, _, z3, h3, fun b M4 H4 x4 h4 => ?_⟩
    have A4 := A3.step x4 (z3.step x4)
    cases b with
    | false =>
      dsimp only at h4 ⊢
      rw [if_neg Bool.false_ne_true] at h4 ⊢
      exact ⟨ds.length - (i + 1), by omega, rfl, cP, fj, M4, acc, bE, A4, by omega, h4⟩
    | true =>
      dsimp only at h4 ⊢
      rw [if_pos rfl] at h4 ⊢
      refine ⟨β.add D, fj, M4, _, A4.zr, h4, fun yd M5 yv H5 x5 r5 h5 => ?_⟩
      have A5 := A4.step x5 (A4.zr.step x5)
      refine hC yv jN H5 acc A5.at' (by omega) ⟨ds.length - (i + 1), by omega, rfl, cP, fj, M5, acc ++ [yv], bE ++ [yd], A5.snoc r5, by simp; omega, ?_⟩
      have e2 : (fun ys M2 => Q' (bE ++ [yd] ++ ys) M2) = fun ys M2 => Q' (bE ++ yd :: ys) M2 := by
        funext ys M2
        rw [List.append_assoc]
        rfl
      rw [e2]
      exact h5
  · have e : i = ds.length := by omega
    subst e
    rw [List.drop_length] at h
    refine .inl ⟨q.2 (Nat.le_refl _), bK, M, acc, bE, A, by omega, ?_⟩
    have h' : Q' (bE ++ []) M := h
    rwa [List.append_nil] at h'
theorem iX {D : Addr} {M1 : Mh} {H1 : Hp} {ds : List Dv} {Q' : List Dv → Mh → Prop} {bK : ax} {τ : St} (zr : Zr Γ β M1 bK τ H1) (hD : H1 D = none) (h : eS g tt te ds bK M1 Q') : ix Γ β D M1 H1 g tt te ds Q' 0 ds.length τ (upd H1 D (.lst [])) :=
  ⟨rfl, Nat.zero_le _, bK, M1, [], [], .start zr hD, Nat.le_refl _, h⟩
theorem vj {σ : St} {H : Hp} {Q : VK} (h : lE Γ (zComp tn idx zi g tt te) σ H Q) : oH tn idx (lI Γ zi) (lG Γ g) (lT Γ tt) (lE Γ te) σ H Q := by
  obtain ⟨β, ρ, M, Q', zr, h, q⟩ := h
  refine ⟨β, ρ, M, _, zr, h, fun ds M1 H1 J x1 it ⟨hlen, h1⟩ D hD => ?_⟩
  have gm := zr.step x1
  refine ⟨ix Γ β D M1 H1 g tt te ds fun ys M2 => Q' (.lst ys) M2, ⟨_, iX (gm.block tn idx) hD h1⟩, fun i m τ H' w => ?_⟩
  rcases jM it hlen w (C := fun y aw H4 => ∃ ys m', H4 D = some (.lst ys) ∧ ys.length < sizeLine ∧ m' < m ∧ ix Γ β D M1 H1 g tt te ds (fun ys M2 => Q' (.lst ys) M2) (i + 1) m' aw (upd H4 D (.lst (ys ++ [y])))) (fun y aw H4 acc e hl ⟨m', hm, w'⟩ => ⟨acc, m', e, hl, hm, w'⟩) with ⟨hs, bK, M', acc, bE, A, _, hq⟩ | z
  · exact .inl ⟨hs, q _ _ _ _ (x1.trans A.ex) (iI (A.fz gm.mz) A.at' A.items) hq⟩
  · exact .inr z
theorem zQ {σ : St} {H : Hp} {Q : VK} (h : lE Γ (zCompP tn idx zi g tt te) σ H Q) : oH tn idx (lI Γ zi) (lG Γ g) (lT Γ tt) (lE Γ te) σ H Q := by
  obtain ⟨β, ρ, M, Q', zr, h, q⟩ := h
  refine ⟨β, ρ, M, _, zr, h, fun ds M1 H1 J x1 it ⟨hlen, h1⟩ D hD => ?_⟩
  have gm := zr.step x1
  refine ⟨ix Γ β D M1 H1 g tt te ds fun ys M2 => ∀ a, M2 a = none → Q' (.ptr a) (az M2 a (.lst ys)), ⟨_, iX (gm.block tn idx) hD h1⟩, fun i m τ H' w => ?_⟩
  rcases jM it hlen w (C := fun y aw H4 => ∃ ys m', H4 D = some (.lst ys) ∧ ys.length < sizeLine ∧ m' < m ∧ ix Γ β D M1 H1 g tt te ds (fun ys M2 => ∀ a, M2 a = none → Q' (.ptr a) (az M2 a (.lst ys))) (i + 1) m' aw (upd H4 D (.lst (ys ++ [y])))) (fun y aw H4 acc e hl ⟨m', hm, w'⟩ => ⟨acc, m', e, hl, hm, w'⟩) with ⟨hs, bK, M', acc, bE, A, _, hq⟩ | z
  · refine .inl ⟨hs, ?_⟩
    have Jh : D ∉ β.hid := (A.fz gm.mz).2
    have hM : M' D = none := A.m
    have mz : Mz β (az M' D (.lst bE)) H' := by
      have rz : ∀ {v : V} {d : Dv}, Rz (β.add D) M' H' v d → Rz β (az M' D (.lst bE)) H' v d := fun r => by
        have ne : ∀ a, Fz (β.add D) M' a → Fz β (az M' D (.lst bE)) a := fun a f => ⟨by rw [ai (fun z => f.2 (by rw [z]; exact List.mem_cons_self))]; exact f.1, fun z => f.2 (List.mem_cons_of_mem _ z)⟩
        induction r with
        | int i => exact .int i
        | bl b => exact .bl b
        | aj => exact .aj
        | str z => exact .str z
        | tup m e hl h ih => exact .tup (ne _ m) e hl ih
        | lst m e hl h ih => exact .lst (ne _ m) e hl ih
        | dk m e hk hl h ih => exact .dk (ne _ m) e hk hl ih
        | dt m e hk hl h ih => exact .dt (ne _ m) e hk hl ih
        | cB m e m2 e2 hl h ih => exact .cB (ne _ m) e (ne _ m2) e2 hl ih
        | set m e => exact .set (ne _ m) e
        | ptr m => exact .ptr (by unfold az; split; rfl; exact m)
        | exc m e => exact .exc (ne _ m) e
        | a9 m e => exact .a9 (ne _ m) e
        | cm m e => exact .cm (ne _ m) e
        | cn e => exact .cn e
        | raw v => exact .raw v
      refine ⟨fun a o e => ?_, A.zr.mz.tabs, fun a ha => A.zr.mz.hids a (List.mem_cons_of_mem _ ha), fun a o e z => ?_, A.zr.mz.lams⟩
      by_cases ha : a = D
      · subst ha
        rw [updM_same] at e
        cases e
        exact ⟨acc, A.at', A.rs.len, fun i v d a b => rz (A.rs.at' i v d a b)⟩
      · rw [ai ha] at e
        have z := A.zr.mz.obj a o e
        cases o with
        | lst ds => obtain ⟨vs, z, l, r⟩ := z; exact ⟨vs, z, l, fun i v d a b => rz (r i v d a b)⟩
        | dk ks ds => obtain ⟨vs, z, hk, l, r⟩ := z; exact ⟨vs, z, hk, l, fun i v d a b => rz (r i v d a b)⟩
        | dt ks ds => obtain ⟨vs, z, hk, l, r⟩ := z; exact ⟨vs, z, hk, l, fun i v d a b => rz (r i v d a b)⟩
        | bV => exact z
      · by_cases ha : a = D
        · subst ha; exact Jh z
        · rw [ai ha] at e
          exact A.zr.mz.apart a o e (List.mem_cons_of_mem _ z)
    have ey : Ey M1 H1 (az M' D (.lst bE)) H' := ⟨A.ey.keep, fun a h => by unfold az; split; rfl; exact A.ey.dom a h, fun a o m e => by rw [ai (bc e A.h1)]; exact A.ey.new a o m e⟩
    exact q _ _ _ _ (x1.trans ⟨ey, mz⟩) (.ptr (by rw [updM_same]; rfl)) (hq D hM)
  · exact .inr z
theorem xl {P : Addr} {zi : eC} {R : It → Hp → Prop} {σ : St} {H : Hp} {ρ : ax} {M : Mh} {R' : List Dv → Mh → Prop} (hP : P ∈ Γ.tb) (zr : Zr Γ β M ρ σ H) (h : zi ρ M R') (q : ∀ ds M' H' J, Ex β M H M' H' → yD β J ds M' H' → R' ds M' → R J H') : uO P (lI Γ zi) R σ H := by
  refine ⟨β, ρ, M, _, zr, h, fun ds M1 H1 J x1 it h1 => ?_⟩
  have yw : P ∈ β.tb := by rw [zr.et]; exact hP
  refine ⟨x1.mz.tabs P yw, fun ps t => ?_⟩
  have x2 := Ex.grow x1.mz yw t
  refine q ds M1 _ J (x1.trans x2) (fun b8 M' H' bx ey mz => it b8 M' H' ⟨bx.P, bx.w, bx.K, bx.tb, bx.old, fun a ha => ?_⟩ (x2.toEy.trans ey) mz) h1
  rcases bx.new a ha with z | z
  · exact .inl z
  · right
    cases e : H1 a with
    | none => rfl
    | some o => obtain ⟨u, hu⟩ := xg (p := P) (o := .b0 ps) ⟨o, e⟩; rw [z] at hu; cases hu
theorem CB {P : Addr} (hP : P ∈ Γ.tb) {σ : St} {H : Hp} {Q : VK} (h : lE Γ (zTupG tn idx zi g tt te) σ H Q) : yz P tn idx (lI Γ zi) (lG Γ g) (lT Γ tt) (lE Γ te) σ H Q := by
  obtain ⟨β, ρ, M, Q', zr, h, q⟩ := h
  refine xl hP zr h fun ds M1 H1 J x1 it ⟨hlen, h1⟩ D hD => ?_
  have gm := zr.step x1
  refine ⟨ix Γ β D M1 H1 g tt te ds fun ys M2 => Q' (.tup ys) M2, ⟨_, iX (gm.block tn idx) hD h1⟩, fun i m τ H' w => ?_⟩
  rcases jM it hlen w (C := fun y aw H4 => takeIn D y H4 fun H5 => ∃ m', m' < m ∧ ix Γ β D M1 H1 g tt te ds (fun ys M2 => Q' (.tup ys) M2) (i + 1) m' aw H5) (fun y aw H4 acc e hl hw => ⟨acc, e, hl, hw⟩) with ⟨hs, bK, M', acc, bE, A, _, hq⟩ | z
  · refine .inl ⟨hs, acc, A.at', fun l hl => ?_⟩
    have x2 := Ex.lay A.mz hl (.tup acc)
    exact q _ _ _ _ (x1.trans (A.ex.trans x2)) (eB (A.mz.fz hl) aB (A.items.ex x2)) hq
  · exact .inr z
noncomputable def ib (g : b6) (tt : cx) (te : aH) : List Dv → ax → Mh → (Bool → Mh → Prop) → Prop
  | [], _, M, Q => Q true M
  | d :: ds, τ, M, Q => g d τ M fun aw M2 => tt aw M2 fun b M3 => if b = true then te aw M3 (zBool fun c M4 => if c = false then Q false M4 else ib g tt te ds aw M4 Q) else ib g tt te ds aw M3 Q
noncomputable def zAll (tn : Nat) (idx : List Nat) (zi : eC) (g : b6) (tt : cx) (te : aH) : aH := fun ρ M Q => zi ρ M fun ds M1 => ib g tt te ds (zBlock tn idx ρ) M1 fun b M2 => Q (.bl b) M2
theorem E3 {P : Addr} (hP : P ∈ Γ.tb) {σ : St} {H : Hp} {Q : VK} (h : lE Γ (zAll tn idx zi g tt te) σ H Q) : B1 P tn idx (lI Γ zi) (lG Γ g) (lT Γ tt) (lE Γ te) σ H Q := by
  obtain ⟨β, ρ, M, Q', zr, h, q⟩ := h
  refine xl hP zr h fun ds M1 H1 J x1 it h1 => ?_
  have gm := zr.step x1
  refine ⟨fun i m τ H' => m = ds.length - i ∧ i ≤ ds.length ∧ ∃ bK M', Ex β M1 H1 M' H' ∧ Zr Γ β M' bK τ H' ∧ ib g tt te (ds.drop i) bK M' fun b M2 => Q' (.bl b) M2, ⟨_, rfl, Nat.zero_le _, _, M1, .refl x1.mz, gm.block tn idx, h1⟩, ?_⟩
  rintro i m τ H' ⟨rfl, hi, bK, M', x', fi, h'⟩
  have qq := it β M' H' .refl x'.toEy x'.mz i
  by_cases cP : i < ds.length
  · refine .inr ⟨(qq.1 cP).1, fun x jK y => ?_⟩
    obtain ⟨x2, d, hd, rd⟩ := (qq.1 cP).2 x jK y
    have e : ds.drop i = d :: ds.drop (i + 1) := by
      rw [List.drop_eq_getElem_cons cP]
      rw [List.getElem?_eq_getElem cP] at hd
      cases hd
      rfl
    rw [e] at h'
    refine ⟨β, d, bK, M', _, fi.step x2, rd, h', fun fj M3 jN H3 x3 z3 h3 => ⟨β, fj, M3, _, z3, h3, fun b M4 H4 x4 h4 => ?_⟩⟩
    have pM := x'.trans (x2.trans (x3.trans x4))
    cases b with
    | false =>
      dsimp only at h4 ⊢
      rw [if_neg Bool.false_ne_true] at h4 ⊢
      exact ⟨ds.length - (i + 1), by omega, rfl, cP, fj, M4, pM, z3.step x4, h4⟩
    | true =>
      dsimp only at h4 ⊢
      rw [if_pos rfl] at h4 ⊢
      refine ⟨β, fj, M4, _, z3.step x4, h4, fun yd M5 yv H5 x5 r5 h5 => ?_⟩
      obtain ⟨k, rfl, h6⟩ := fB h5
      refine ⟨k, cC r5, ?_⟩
      cases k with
      | false =>
        rw [if_pos rfl] at h6 ⊢
        exact q _ _ _ _ (x1.trans (pM.trans x5)) (.bl _) h6
      | true =>
        rw [if_neg (by decide)] at h6 ⊢
        exact ⟨ds.length - (i + 1), by omega, rfl, cP, fj, M5, pM.trans x5, (z3.step x4).step x5, h6⟩
  · have e : i = ds.length := by omega
    subst e
    rw [List.drop_length] at h'
    exact .inl ⟨qq.2 (Nat.le_refl _), q _ _ _ _ (x1.trans x') (.bl _) h'⟩
end
section
variable {X : Cx} {Γ : Gz} {β : Bz} {K : PySem.W.Frag}
noncomputable def zII (f : Int → Int → Dv) : c6 := fun d e M Q => match d, e with | .int i, .int j => Q (f i j) M | _, _ => False
noncomputable def zIC (C : Int → Int → Prop) (f : Int → Int → Dv) : c6 := fun d e M Q => match d, e with | .int i, .int j => C i j ∧ Q (f i j) M | _, _ => False
theorem jO {g : Int → Int → V} {f : Int → Int → Dv} (h : ∀ β M H i j, Rz β M H (g i j) (f i j)) : lQ Γ (ni g) (zII f) := fun β x y d e M H Q Q' _ _ _ m rx ry z q => by
  unfold zII at z
  split at z
  · exact ⟨_, _, aD rx, aD ry, q _ _ _ _ (.refl m) (h ..) z⟩
  · exact z.elim
theorem lZ {C : Int → Int → Prop} {g : Int → Int → V} {f : Int → Int → Dv} (h : ∀ β M H i j, Rz β M H (g i j) (f i j)) : lQ Γ (rI C g) (zIC C f) := fun β x y d e M H Q Q' _ _ _ m rx ry z q => by
  unfold zIC at z
  split at z
  · exact ⟨_, _, aD rx, aD ry, z.1, q _ _ _ _ (.refl m) (h ..) z.2⟩
  · exact z.elim
theorem gr : de Γ X (binaryOp .Add) (zII fun i j => .int (i + j)) := ⟨_, Bh, jO fun _ _ _ _ _ => .int _⟩
theorem tm : de Γ X (binaryOp .Sub) (zII fun i j => .int (i - j)) := ⟨_, Bi, jO fun _ _ _ _ _ => .int _⟩
theorem iY : de Γ X (binaryOp .Mult) (zIC sE fun i j => .int (i * j)) := ⟨_, Bj, lZ fun _ _ _ _ _ => .int _⟩
theorem pO : de Γ X (binaryOp .FloorDiv) (zIC Bf fun i j => .int (i / j)) := ⟨_, zj, lZ fun _ _ _ _ _ => .int _⟩
theorem ie : de Γ X (binaryOp .Mod) (zIC (fun _ j => 0 < j) fun i j => .int (i % j)) := ⟨_, Bk, lZ fun _ _ _ _ _ => .int _⟩
theorem E4 : de Γ X (binaryOp .Pow) (zIC Bg fun i j => .int (i ^ j.toNat)) := ⟨_, Bm, lZ fun _ _ _ _ _ => .int _⟩
theorem tq : de Γ X (compareOp .Lt) (zII fun i j => .bl (decide (i < j))) := ⟨_, Et, jO fun _ _ _ _ _ => .bl _⟩
theorem xm : de Γ X (compareOp .LtE) (zII fun i j => .bl (decide (i ≤ j))) := ⟨_, Eu, jO fun _ _ _ _ _ => .bl _⟩
theorem xn : de Γ X (compareOp .Gt) (zII fun i j => .bl (decide (j < i))) := ⟨_, Ew, jO fun _ _ _ _ _ => .bl _⟩
noncomputable def scalZ (d e : Dv) : Option Bool := match d with
  | .int i => (match e with | .int j => some (decide (i = j)) | .aj => some false | .str _ => some false | _ => none)
  | .bl i => (match e with | .bl j => some (decide (i = j)) | .aj => some false | .str _ => some false | _ => none)
  | .str i => (match e with | .str j => some (decide (i = j)) | .aj => some false | .int _ => some false | .bl _ => some false | _ => none)
  | .aj => (match e with | .aj => some true | .int _ => some false | .bl _ => some false | .str _ => some false | _ => none)
  | _ => none
noncomputable def zEq : c6 := fun d e M Q => match scalZ d e with | some b => Q (.bl b) M | none => False
noncomputable def zNe : c6 := fun d e M Q => match scalZ d e with | some b => Q (.bl (!b)) M | none => False
theorem pP {M : Mh} {H : Hp} {x y : V} {d e : Dv} {b : Bool} (rx : Rz β M H x d) (ry : Rz β M H y e) (h : scalZ d e = some b) : wB x y = true ∧ decide (x = y) = b := by
  unfold scalZ at h
  split at h
  · rw [aD rx]
    split at h <;> cases h
    · rw [aD ry]; exact ⟨rfl, by simp⟩
    · rw [fV ry]; exact ⟨rfl, by simp⟩
    · rw [a7 ry]; exact ⟨rfl, by simp⟩
  · rw [cC rx]
    split at h <;> cases h
    · rw [cC ry]; exact ⟨rfl, by simp⟩
    · rw [fV ry]; exact ⟨rfl, by simp⟩
    · rw [a7 ry]; exact ⟨rfl, by simp⟩
  · rw [a7 rx]
    split at h <;> cases h
    · rw [a7 ry]; exact ⟨rfl, by simp⟩
    · rw [fV ry]; exact ⟨rfl, by simp⟩
    · rw [aD ry]; exact ⟨rfl, by simp⟩
    · rw [cC ry]; exact ⟨rfl, by simp⟩
  · rw [fV rx]
    split at h <;> cases h
    · rw [fV ry]; exact ⟨rfl, by simp⟩
    · rw [aD ry]; exact ⟨rfl, by simp⟩
    · rw [cC ry]; exact ⟨rfl, by simp⟩
    · rw [a7 ry]; exact ⟨rfl, by simp⟩
  · cases h
theorem tu : de Γ X (compareOp .Eq) zEq := ⟨_, Er, fun β x y d e M H Q Q' _ _ _ m rx ry z q => by
  unfold zEq at z
  split at z
  · rename_i b hb
    obtain ⟨h1, h2⟩ := pP rx ry hb
    exact ⟨h1, by rw [h2]; exact q _ _ _ _ (.refl m) (.bl _) z⟩
  · exact z.elim⟩
theorem tv : de Γ X (compareOp .NotEq) zNe := ⟨_, Es, fun β x y d e M H Q Q' _ _ _ m rx ry z q => by
  unfold zNe at z
  split at z
  · rename_i b hb
    obtain ⟨h1, h2⟩ := pP rx ry hb
    exact ⟨h1, by rw [h2]; exact q _ _ _ _ (.refl m) (.bl _) z⟩
  · exact z.elim⟩
noncomputable def isNonD : Dv → Option Bool
  | .aj => some true
  | .raw _ => none
  | _ => some false
noncomputable def zIsN (neg : Bool) : c6 := fun d e M Q => match e, isNonD d with | .aj, some b => Q (.bl (if neg then !b else b)) M | _, _ => False
noncomputable def zSS (C : Str → Str → Prop) (f : Str → Str → Dv) : c6 := fun d e M Q => match d, e with | .str i, .str j => C i j ∧ Q (f i j) M | _, _ => False
theorem vk : de Γ X (binaryOp .Add) (zSS (fun i j => i.length + j.length ≤ sizeLine) fun i j => .str (i ++ j)) := ⟨_, sH, fun β x y d e M H Q Q' _ _ _ m rx ry z q => by
  unfold zSS at z
  split at z
  · exact ⟨_, _, a7 rx, a7 ry, z.1, q _ _ _ _ (.refl m) (.str _) z.2⟩
  · exact z.elim⟩
noncomputable def oK (i j : Str) : Bool := !(Builtin.Str.occurrences j i 0 j.length 1).isEmpty
theorem xo : de Γ X (compareOp .In) (zSS (fun _ _ => True) fun i j => .bl (oK i j)) := ⟨_, ur, fun β x y d e M H Q Q' _ _ _ m rx ry z q => by
  unfold zSS at z
  split at z
  · exact ⟨_, _, a7 rx, a7 ry, q _ _ _ _ (.refl m) (.bl _) z.2⟩
  · exact z.elim⟩
mutual
noncomputable def bw : Dv → Option Dt
  | .int i => some (.int i)
  | .bl b => some (.bl b)
  | .aj => some .aj
  | .str z => some (.str z)
  | .tup ds => (fJ ds).map .tup
  | .lst ds => (fJ ds).map .lst
  | _ => none
noncomputable def fJ : List Dv → Option (List Dt)
  | [] => some []
  | d :: ds => match bw d, fJ ds with | some a, some as => some (a :: as) | _, _ => none
end
theorem iZ : ∀ {ds : List Dv} {ts : List Dt}, fJ ds = some ts → ds.length = ts.length ∧ ∀ (i : Nat) (d : Dv) (t : Dt), ds[i]? = some d → ts[i]? = some t → bw d = some t
  | [], ts, h => by simp only [fJ, Option.some.injEq] at h; subst h; exact ⟨rfl, fun i d t a => by simp at a⟩
  | d :: ds, ts, h => by
    simp only [fJ] at h
    split at h
    · rename_i a as h1 h2
      cases h
      obtain ⟨hl, q⟩ := iZ h2
      refine ⟨by simp [hl], fun i e t x y => ?_⟩
      cases i with
      | zero => simp at x y; subst x y; exact h1
      | succ i => rw [List.getElem?_cons_succ] at x y; exact q i e t x y
    · cases h
theorem vm {M : Mh} {H : Hp} {v : V} {d : Dv} (h : Rz β M H v d) : ∀ {t : Dt}, bw d = some t → dz H v t := by
  induction h with
  | int i => intro t e; simp only [bw, Option.some.injEq] at e; subst e; exact .int i
  | bl b => intro t e; simp only [bw, Option.some.injEq] at e; subst e; exact .bl b
  | aj => intro t e; simp only [bw, Option.some.injEq] at e; subst e; exact .aj
  | str z => intro t e; simp only [bw, Option.some.injEq] at e; subst e; exact .str z
  | tup m e hl h ih =>
    intro t q
    simp only [bw, Option.map_eq_some_iff] at q
    obtain ⟨ts, q, rfl⟩ := q
    obtain ⟨l2, at2⟩ := iZ q
    refine .tup e (hl.trans l2) fun i x d hx hd => ?_
    have hi := (List.getElem?_eq_some_iff.mp hd).1
    have := List.getElem?_eq_getElem (l := _) (i := i) (show i < _ from l2 ▸ hi)
    exact ih i x _ hx this (at2 i _ _ this hd)
  | lst m e hl h ih =>
    intro t q
    simp only [bw, Option.map_eq_some_iff] at q
    obtain ⟨ts, q, rfl⟩ := q
    obtain ⟨l2, at2⟩ := iZ q
    refine .lst e (hl.trans l2) fun i x d hx hd => ?_
    have hi := (List.getElem?_eq_some_iff.mp hd).1
    have := List.getElem?_eq_getElem (l := _) (i := i) (show i < _ from l2 ▸ hi)
    exact ih i x _ hx this (at2 i _ _ this hd)
  | set m e => intro t q; simp [bw] at q
  | ptr m => intro t q; simp [bw] at q
  | exc m e => intro t q; simp [bw] at q
  | a9 m e => intro t q; simp [bw] at q
  | cm m e => intro t q; simp [bw] at q
  | cn e => intro t q; simp [bw] at q
  | dk m e hk hl h ih => intro t q; simp [bw] at q
  | dt m e hk hl h ih => intro t q; simp [bw] at q
  | cB m e m2 e2 hl h ih => intro t q; simp [bw] at q
  | raw v => intro t q; simp [bw] at q
noncomputable def now (M : Mh) : Dv → Dv
  | .ptr a => match M a with | some (.lst ds) => .lst ds | _ => .ptr a
  | d => d
theorem sf {M : Mh} {H : Hp} {v : V} {d : Dv} (m : Mz β M H) (h : Rz β M H v d) {t : Dt} (e : bw (now M d) = some t) : dz H v t := by
  cases d with
  | ptr a =>
    simp only [now] at e
    obtain ⟨rfl, hs⟩ := cw h
    cases q : M a with
    | none => rw [q] at hs; cases hs
    | some o =>
      rw [q] at e
      cases o with
      | bV => simp [bw] at e
      | dk ks es => simp [bw] at e
      | dt ks es => simp [bw] at e
      | lst ds =>
        obtain ⟨vs, hv, rs⟩ := m.obj a _ q
        simp only [bw, Option.map_eq_some_iff] at e
        obtain ⟨ts, q, rfl⟩ := e
        obtain ⟨l2, at2⟩ := iZ q
        refine .lst hv (rs.len.trans l2) fun i x d hx hd => ?_
        have hi := (List.getElem?_eq_some_iff.mp hd).1
        have := List.getElem?_eq_getElem (l := _) (i := i) (show i < _ from l2 ▸ hi)
        exact vm (rs.at' i x _ hx this) (at2 i _ _ this hd)
  | _ => exact vm h e
noncomputable def pQ (neg : Bool) : c6 := fun d e M Q => match bw (now M d), bw (now M e) with | some a, some b => fu a ≤ 60 ∧ Q (.bl (if neg then !cZ a b else cZ a b)) M | _, _ => False
theorem zR {neg : Bool} : lQ Γ (wY neg) (pQ neg) := fun β x y d e M H Q Q' _ _ _ m rx ry z q => by
  unfold pQ at z
  split at z
  · rename_i a b h1 h2
    exact ⟨a, b, sf m rx h1, sf m ry h2, z.1, q _ _ _ _ (.refl m) (.bl _) z.2⟩
  · exact z.elim
theorem tD (hu : X.A.units + 64 < cLine) : de Γ X (compareOp .NotEq) (pQ true) := ⟨_, Ce hu, zR⟩
noncomputable def itemsM (M : Mh) : Dv → Option (List Dv)
  | .tup ds => some ds
  | .lst ds => some ds
  | .ptr a => match M a with | some (.lst ds) => some ds | _ => none
  | _ => none
theorem gV {M : Mh} {H : Hp} {x : V} {d : Dv} {ds : List Dv} (m : Mz β M H) (r : Rz β M H x d) (h : itemsM M d = some ds) : ∃ a vs, x = .ref a ∧ (H a = some (.lst vs) ∨ H a = some (.tup vs)) ∧ aJ β M H vs ds := by
  cases d with
  | tup es => cases h; obtain ⟨a, vs, e, _, h, rs⟩ := cN r; exact ⟨a, vs, e, .inr h, rs⟩
  | lst es => cases h; obtain ⟨a, vs, e, _, h, rs⟩ := dq r; exact ⟨a, vs, e, .inl h, rs⟩
  | ptr a =>
    obtain ⟨rfl, hs⟩ := cw r
    simp only [itemsM] at h
    split at h
    · rename_i es q
      cases h
      obtain ⟨vs, hv, rs⟩ := m.obj a _ q
      exact ⟨a, vs, rfl, .inl hv, rs⟩
    · cases h
  | _ => cases h
theorem zS {M : Mh} {H : Hp} {vs : List V} {ds : List Dv} (rs : aJ β M H vs ds) {i : Int} {d : Dv} (h : bU ds i = some d) : ∃ v, bU vs i = some v ∧ Rz β M H v d := by
  unfold bU at h ⊢
  rw [rs.len]
  cases e : ez ds.length i with
  | none => rw [e] at h; cases h
  | some j =>
    rw [e] at h
    obtain ⟨v, hv, r⟩ := rs.get (i := j) (d := d) h
    exact ⟨v, hv, r⟩
noncomputable def CC (Γ : Gz) (X : Cx) (z : c6) : Prop := ∃ r, jr X r ∧ lQ Γ r z
noncomputable def zIx : c6 := fun d e M Q => match e with
  | .int i => (match d with
    | .str z => z.length ≤ sizeLine ∧ (match bU z.cps.toList i with | some c => Q (.str ⟨#[c]⟩) M | none => False)
    | _ => match itemsM M d with | some ds => (match bU ds i with | some r => Q r M | none => False) | none => False)
  | _ => False
theorem cU (hK : X.K = K) : CC Γ X zIx := ⟨_, rW hK, fun β x y d e M H Q Q' _ _ _ m rx ry z q => by
  unfold zIx at z
  split at z
  · rename_i i
    have hy := aD ry
    split at z
    · rename_i s
      obtain ⟨hz, z⟩ := z
      split at z
      · rename_i c hc
        exact .inr (.inr ⟨s, i, c, a7 rx, hy, hz, hc, q _ _ _ _ (.refl m) (.str _) z⟩)
      · exact z.elim
    · split at z
      · rename_i ds g9
        obtain ⟨a, vs, rfl, ha, rs⟩ := gV m rx g9
        split at z
        · rename_i r hr
          obtain ⟨v, hv, rv⟩ := zS rs hr
          have z' := q _ _ _ _ (.refl m) rv z
          rcases ha with ha | ha
          · exact .inl ⟨a, vs, i, v, rfl, hy, bH.of ha, hv, z'⟩
          · exact .inr (.inl ⟨a, vs, i, v, rfl, hy, bR.of ha, hv, z'⟩)
        · exact z.elim
      · exact z.elim
  · exact z.elim⟩
theorem bL {a b : Expr} {pa pb : aH} {z : c6} {pos : Pos} (hr : CC Γ X z) (ha : QE Γ X a pa) (hb : QE Γ X b pb) (hs : rT b) : QE Γ X (.Subscript a b pos) (zOp z pa pb) := by
  obtain ⟨r, h1, h2⟩ := hr
  exact (EC h1 ha hb hs).imp fun σ H Q h => td h2 h
noncomputable def cutD (xs : List Dv) (lo hi : Option Int) : List Dv := (xs.drop (HT.aK xs.length 0 lo)).take (HT.aK xs.length xs.length hi - HT.aK xs.length 0 lo)
noncomputable abbrev vn := ax → Mh → (Option Int → Mh → Prop) → Prop
noncomputable def lO (Γ : Gz) (p : vn) : TO := fun σ H Q => ∃ (β : Bz) (ρ : ax) (M : Mh) (Q' : Option Int → Mh → Prop), Zr Γ β M ρ σ H ∧ p ρ M Q' ∧ ∀ o M' H', Ex β M H M' H' → Q' o M' → Q o H'
noncomputable def zoNone : vn := fun _ M Q => Q none M
noncomputable def zoSome (p : aH) : vn := fun ρ M Q => p ρ M fun d M1 => match d with | .int i => Q (some i) M1 | _ => False
theorem PO.imp {e : Option Expr} {t t' : TO} (h : PO X e t) (i : ∀ σ H Q, t' σ H Q → t σ H Q) : PO X e t' := fun pins s σ H Q I q => h pins s σ H Q I (i _ _ _ q)
theorem sh : PO X none (lO Γ zoNone) := PO.imp zu fun σ H Q ⟨β, ρ, M, Q', zr, h, q⟩ => q _ _ _ (.refl zr.mz) h
theorem si {e : Expr} {p : aH} (h : QE Γ X e p) : PO X (some e) (lO Γ (zoSome p)) := PO.imp (zv h) fun σ H Q ⟨β, ρ, M, Q', zr, h, q⟩ => ⟨β, ρ, M, _, zr, h, fun d M1 v H1 x1 r1 h1 => by
  revert h1
  split
  · intro h1
    exact ⟨_, aD r1, q _ _ _ x1 h1⟩
  · exact fun z => z.elim⟩
noncomputable abbrev yF := Dv → Option Int → Option Int → Mh → ZK → Prop
noncomputable def Gp (Γ : Gz) (X : Cx) (z : yF) : Prop := ∃ r, uD X r ∧ ∀ (β : Bz) x d lo hi M H Q Q', β.P = Γ.P → β.w = Γ.w → β.K = Γ.K → Mz β M H → Rz β M H x d → z d lo hi M Q' → (∀ d' M' v H', Ex β M H M' H' → Rz β M' H' v d' → Q' d' M' → Q v H') → r x lo hi H Q
noncomputable def zSl (z : yF) (p : aH) (l h : vn) : aH := fun ρ M Q => p ρ M fun d M1 => l ρ M1 fun lo M2 => h ρ M2 fun hi M3 => z d lo hi M3 Q
theorem pR {z : yF} {e : Expr} {p : aH} {lo hi : Option Expr} {l h : vn} {p2 pos : Pos} (hr : Gp Γ X z) (he : QE Γ X e p) (hl : PO X lo (lO Γ l)) (hu : PO X hi (lO Γ h)) : QE Γ X (.Subscript e (.Slice lo hi none p2) pos) (zSl z p l h) := by
  obtain ⟨r, h1, h2⟩ := hr
  exact (wK h1 he hl hu).imp fun σ H Q ⟨β, ρ, M, Q', zr, h, q⟩ => ⟨β, ρ, M, _, zr, h, fun d M1 v H1 x1 r1 h1 => ⟨β, ρ, M1, _, zr.step x1, h1, fun o M2 H2 x2 h3 => ⟨β, ρ, M2, _, (zr.step x1).step x2, h3, fun o2 M3 H3 x3 h4 =>
    h2 β v d o o2 M3 H3 _ _ zr.eP zr.ew zr.eK x3.mz ((r1.ex x2).ex x3) h4 fun d' M' v' H' x4 r4 q4 => q _ _ _ _ (x1.trans (x2.trans (x3.trans x4))) r4 q4⟩⟩⟩
noncomputable def zSlT : yF := fun d lo hi M Q => match d with | .tup ds => Q (.tup (cutD ds lo hi)) M | _ => False
theorem sj {M : Mh} {H : Hp} {vs : List V} {ds : List Dv} (rs : aJ β M H vs ds) (lo hi : Option Int) : aJ β M H (gd vs lo hi) (cutD ds lo hi) := by
  unfold gd cutD
  rw [rs.len]
  exact (rs.drop _).take _
theorem yG (hK : X.K = K) : Gp Γ X zSlT := ⟨_, zM hK, fun β x d lo hi M H Q Q' _ _ _ m rx z q => by
  unfold zSlT at z
  split at z
  · obtain ⟨a, vs, rfl, f, ha, rs⟩ := cN rx
    refine ⟨a, vs, rfl, bR.of ha, fun w => ?_, fun _ p hp => ?_⟩
    · have e := sW w
      have r2 := sj rs lo hi
      rw [e] at r2
      exact q _ _ _ _ (.refl m) (eB f ha r2) z
    · have x2 := Ex.lay m hp (.tup (gd vs lo hi))
      exact q _ _ _ _ x2 (eB (m.fz hp) aB ((sj rs lo hi).ex x2)) z
  · exact z.elim⟩
noncomputable def zCatT : c6 := fun d e M Q => match d, e with | .tup xs, .tup ys => xs.length + ys.length ≤ sizeLine ∧ Q (.tup (xs ++ ys)) M | _, _ => False
theorem pS (hK : X.K = K) : de Γ X (binaryOp .Add) zCatT := ⟨_, zL hK, fun β x y d e M H Q Q' _ _ _ m rx ry z q => by
  unfold zCatT at z
  split at z
  · obtain ⟨a, vs, rfl, f, ha, rs⟩ := cN rx
    obtain ⟨b, us, rfl, f2, hb, c7⟩ := cN ry
    refine ⟨a, b, vs, us, rfl, rfl, bR.of ha, bR.of hb, by rw [rs.len, c7.len]; exact z.1, fun e => ?_, fun _ e => ?_, fun _ _ p hp => ?_⟩
    · subst e
      have r3 := rs.append c7
      exact q _ _ _ _ (.refl m) (eB f2 hb r3) z.2
    · subst e
      have r3 := rs.append c7
      rw [List.append_nil] at r3
      exact q _ _ _ _ (.refl m) (eB f ha r3) z.2
    · have x2 := Ex.lay m hp (.tup (vs ++ us))
      exact q _ _ _ _ x2 (eB (m.fz hp) aB ((rs.append c7).ex x2)) z.2
  · exact z.elim⟩
end
section
variable {X : Cx} {Γ : Gz} {β : Bz} {K : PySem.W.Frag}
section
variable {x : Str} {p pos : Pos} {e : Expr} {es : List Expr} {za : fg} {id T : String} {z : lX}
theorem aN (hc : eH Γ X (.builtin id) z) (hg : Gl X x) (hm : X.mg x = none) (hv : bootBuiltins x = some (.builtin id)) (ha : QA Γ X (e :: es) za) (hn : x ≠ "__name__" := by decide) (e8 : (x == ("__debug__" : Str)) = false := by decide)
    (he : starEach (e :: es) X.env = (false, eval e X.env) :: starEach es X.env := by rfl) (gi : (backTo pos (starEach es X.env)).any (·.1) = false := by rfl) : QE Γ X (.Call (.Name x p) (e :: es) [] pos) (zCB z za) := by
  obtain ⟨r, h1, h2⟩ := hc
  exact (wI h1 hg hm hv ha hn e8 he gi).imp fun σ H Q h => Cy h2 h
theorem eZ (hc : eH Γ X (.type T) z) (hg : Gl X x) (hm : X.mg x = none) (hv : bootBuiltins x = some (.type T)) (ha : QA Γ X (e :: es) za) (hn : x ≠ "__name__" := by decide) (e8 : (x == ("__debug__" : Str)) = false := by decide)
    (he : starEach (e :: es) X.env = (false, eval e X.env) :: starEach es X.env := by rfl) (gi : (backTo pos (starEach es X.env)).any (·.1) = false := by rfl) : QE Γ X (.Call (.Name x p) (e :: es) [] pos) (zCB z za) := by
  obtain ⟨r, h1, h2⟩ := hc
  exact (uB h1 hg hm hv ha hn e8 he gi).imp fun σ H Q h => Cy h2 h
end
noncomputable def z1 (f : Dv → Mh → ZK → Prop) : lX := fun ds M Q => match ds with | [d] => f d M Q | _ => False
noncomputable def zLenD (d : Dv) (M : Mh) (Q : ZK) : Prop := match d with
  | .str s => s.length ≤ sizeLine ∧ Q (.int s.length) M
  | .a9 ns => Q (.int ns.length) M
  | _ => match itemsM M d with | some ds => Q (.int ds.length) M | none => False
theorem dX (hK : X.K = K) (hG : K = Γ.K) : eH Γ X (.builtin "len") (z1 zLenD) := ⟨_, uV hK, fun β xs ds M H Q Q' _ _ eK m rs z q => by
  rw [← hG] at eK
  unfold z1 at z
  split at z
  · rename_i d
    obtain ⟨x, rfl, r⟩ := dg rs
    unfold zLenD at z
    split at z
    · rename_i s
      have e := a7 r
      subst e
      exact ⟨_, _, rfl, ⟨z.1, rfl⟩, q _ _ _ _ (.refl m) (.int _) z.2⟩
    · rename_i ns
      obtain ⟨a, rfl, h⟩ := nQ r
      rw [eK] at h
      exact ⟨_, ns.length, rfl, .inl ⟨_, h, by simp⟩, q _ _ _ _ (.refl m) (.int _) z⟩
    · split at z
      · rename_i ds g9
        obtain ⟨a, vs, rfl, ha, c7⟩ := gV m r g9
        have q' := q _ _ (.int ds.length) _ (.refl m) (.int _) z
        rcases ha with ha | ha
        · exact ⟨_, ds.length, rfl, .inl ⟨vs, bH.of ha, c7.len.symm⟩, q'⟩
        · exact ⟨_, ds.length, rfl, .inr ⟨vs, bR.of ha, c7.len.symm⟩, q'⟩
      · exact z.elim
  · exact z.elim⟩
noncomputable def z2I (f : Int → Int → Int) : lX := fun ds M Q => match ds with | [.int i, .int j] => Q (.int (f i j)) M | _ => False
theorem CD (hc : X.calm = true) : eH Γ X (.builtin "max") (z2I fun i j => if j > i then j else i) := ⟨_, uv hc, fun β xs ds M H Q Q' _ _ _ m rs z q => by
  unfold z2I at z
  split at z
  · obtain ⟨x, y, rfl, r, r'⟩ := gD rs
    rw [aD r, aD r']
    exact ⟨_, _, rfl, q _ _ _ _ (.refl m) (.int _) z⟩
  · exact z.elim⟩
theorem pT (hc : X.calm = true) : eH Γ X (.builtin "min") (z2I fun i j => if j < i then j else i) := ⟨_, uw hc, fun β xs ds M H Q Q' _ _ _ m rs z q => by
  unfold z2I at z
  split at z
  · obtain ⟨x, y, rfl, r, r'⟩ := gD rs
    rw [aD r, aD r']
    exact ⟨_, _, rfl, q _ _ _ _ (.refl m) (.int _) z⟩
  · exact z.elim⟩
noncomputable def zAbs (d : Dv) (M : Mh) (Q : ZK) : Prop := match d with | .int i => Q (.int (if i < 0 then -i else i)) M | _ => False
theorem E5 : eH Γ X (.builtin "abs") (z1 zAbs) := ⟨_, wF, fun β xs ds M H Q Q' _ _ _ m rs z q => by
  unfold z1 at z
  split at z
  · obtain ⟨x, rfl, r⟩ := dg rs
    unfold zAbs at z
    split at z
    · rw [aD r]
      exact ⟨_, rfl, q _ _ _ _ (.refl m) (.int _) z⟩
    · exact z.elim
  · exact z.elim⟩
noncomputable def zList (d : Dv) (M : Mh) (Q : ZK) : Prop := match itemsM M d with | some ds => Q (.lst ds) M | none => False
theorem CF (hK : X.K = K) : eH Γ X (.type "list") (z1 zList) := ⟨_, oo hK, fun β xs ds M H Q Q' _ _ _ m rs z q => by
  unfold z1 at z
  split at z
  · obtain ⟨x, rfl, r⟩ := dg rs
    unfold zList at z
    split at z
    · rename_i ds g9
      obtain ⟨a, vs, rfl, ha, c7⟩ := gV m r g9
      refine ⟨a, vs, rfl, ha.imp bH.of bR.of, fun l hl => ?_⟩
      have x2 := Ex.lay m hl (.lst vs)
      exact q _ _ _ _ x2 (iI (m.fz hl) aB (c7.ex x2)) z
    · exact z.elim
  · exact z.elim⟩
noncomputable def zTuple (d : Dv) (M : Mh) (Q : ZK) : Prop := match itemsM M d with | some ds => Q (.tup ds) M | none => False
theorem mI (hK : X.K = K) : eH Γ X (.type "tuple") (z1 zTuple) := ⟨_, mE hK, fun β xs ds M H Q Q' _ _ _ m rs z q => by
  unfold z1 at z
  split at z
  · rename_i d
    obtain ⟨x, rfl, r⟩ := dg rs
    unfold zTuple at z
    split at z
    · rename_i ds g9
      obtain ⟨a, vs, rfl, ha, c7⟩ := gV m r g9
      refine ⟨a, vs, rfl, ?_⟩
      rcases ha with ha | ha
      · refine .inl ⟨bH.of ha, fun l hl => ?_⟩
        have x2 := Ex.lay m hl (.tup vs)
        exact q _ _ _ _ x2 (eB (m.fz hl) aB (c7.ex x2)) z
      · refine .inr ⟨bR.of ha, ?_⟩
        have f : Fz β M a := by
          cases d with
          | tup es => obtain ⟨b, us, e, f, _⟩ := cN r; cases e; exact f
          | lst es => obtain ⟨b, us, e, f, _⟩ := dq r; cases e; exact f
          | ptr b =>
            obtain ⟨e, hs⟩ := cw r
            cases e
            cases q2 : M a with
            | none => rw [q2] at hs; cases hs
            | some o => have := m.lN ha rfl; rw [q2] at this; cases this
          | _ => cases g9
        exact q _ _ _ _ (.refl m) (eB f ha c7) z
    · exact z.elim
  · exact z.elim⟩
noncomputable def fK : List Dv → Option (List Int)
  | [] => some []
  | .int i :: ds => (fK ds).map (i :: ·)
  | _ :: _ => none
theorem pU : ∀ {ds : List Dv} {ns : List Int}, fK ds = some ns → ds = ns.map Dv.int
  | [], ns, h => by simp only [fK, Option.some.injEq] at h; subst h; rfl
  | d :: ds, ns, h => by
    cases d with
    | int i =>
      simp only [fK, Option.map_eq_some_iff] at h
      obtain ⟨ms, h, rfl⟩ := h
      rw [pU h]
      rfl
    | _ => simp [fK] at h
theorem nS : ∀ ns : List Int, fK (ns.map Dv.int) = some ns
  | [] => rfl
  | n :: ns => by simp [fK, nS ns]
theorem kU {M : Mh} {H : Hp} : ∀ {vs : List V} {ns : List Int}, aJ β M H vs (ns.map Dv.int) → vs = ns.map V.int
  | [], [], _ => rfl
  | [], _ :: _, r => absurd r.len (by simp)
  | _ :: _, [], r => absurd r.len (by simp)
  | v :: vs, n :: ns, r => by
    rw [List.map_cons] at r
    rw [List.map_cons, aD r.head, kU r.tail]
theorem pV {M : Mh} {H : Hp} : ∀ {ns : List Int}, aJ β M H (ns.map V.int) (ns.map Dv.int)
  | [] => .nil
  | n :: ns => .cons (.int _) pV
theorem vo {M : Mh} {H : Hp} {x : V} {d : Dv} {ns : List Int} (m : Mz β M H) (r : Rz β M H x d) (h : (itemsM M d).bind fK = some ns) : ∃ a, x = .ref a ∧ (H a = some (.lst (ns.map V.int)) ∨ H a = some (.tup (ns.map V.int))) := by
  cases e : itemsM M d with
  | none => rw [e] at h; cases h
  | some ds =>
    rw [e] at h
    obtain ⟨a, vs, rfl, ha, rs⟩ := gV m r e
    have e2 := pU (ns := ns) h
    subst e2
    have := kU rs
    subst this
    exact ⟨a, rfl, ha⟩
noncomputable def isD (T : String) (M : Mh) (d : Dv) : Option Bool := match d with
  | .int _ => some (T == "int") | .bl _ => some (T == "int" || T == "bool") | .aj => some false | .str _ => some (T == "str") | .tup _ => some (T == "tuple") | .lst _ => some (T == "list") | .ptr a => (match M a with | some (.lst _) => some (T == "list") | some .bV => some (T == "list") | some _ => some false | none => none) | _ => none
noncomputable def mJ : List String := ["int", "bool", "str", "tuple", "list"]
noncomputable def zIsInst : lX := fun ds M Q => match ds with | [d, .raw (.ty T)] => T ∈ mJ ∧ (match isD T M d with | some b => Q (.bl b) M | none => False) | _ => False
theorem CG {K : PySem.W.Frag} {M : Mh} {H : Hp} {x : V} {d : Dv} {T : String} {b : Bool} (m : Mz β M H) (hT : T ∈ mJ) (r : Rz β M H x d) (h : isD T M d = some b) : ∃ t, eO K H x t ∧ PySem.W.kitOne K t (.type T) = some b := by
  have ko : T = "int" ∨ T = "bool" ∨ T = "str" ∨ T = "tuple" ∨ T = "list" := by simpa [mJ] using hT
  cases r with
  | int i => cases h; exact ⟨_, .int i, by rcases ko with rfl | rfl | rfl | rfl | rfl <;> rfl⟩
  | bl i => cases h; exact ⟨_, .bl i, by rcases ko with rfl | rfl | rfl | rfl | rfl <;> rfl⟩
  | aj => cases h; exact ⟨_, .aj, by rcases ko with rfl | rfl | rfl | rfl | rfl <;> rfl⟩
  | str i => cases h; exact ⟨_, .str i, by rcases ko with rfl | rfl | rfl | rfl | rfl <;> rfl⟩
  | tup f e hl q => cases h; exact ⟨_, .tup e, by rcases ko with rfl | rfl | rfl | rfl | rfl <;> rfl⟩
  | lst f e hl q => cases h; exact ⟨_, .lst e, by rcases ko with rfl | rfl | rfl | rfl | rfl <;> rfl⟩
  | ptr hs =>
    rename_i a
    cases q2 : M a with
    | none => rw [q2] at hs; cases hs
    | some o =>
      simp only [isD, q2] at h
      have q := m.obj a o q2
      cases o with
      | lst ds => obtain ⟨vs, e, _⟩ := q; cases h; exact ⟨_, .lst e, by rcases ko with rfl | rfl | rfl | rfl | rfl <;> rfl⟩
      | bV => obtain ⟨_, _, e, _⟩ := q; cases h; exact ⟨_, .lst e, by rcases ko with rfl | rfl | rfl | rfl | rfl <;> rfl⟩
      | dk ks ds => obtain ⟨vs, e, _⟩ := q; cases h; exact ⟨_, .dK e, by rcases ko with rfl | rfl | rfl | rfl | rfl <;> rfl⟩
      | dt ks ds => obtain ⟨vs, e, _⟩ := q; cases h; exact ⟨_, .dT e, by rcases ko with rfl | rfl | rfl | rfl | rfl <;> rfl⟩
  | set f e => cases h
  | exc f e => cases h
  | a9 f e => cases h
  | cm f e => cases h
  | cn e => cases h
  | raw v => cases h
  | dk f e _ _ _ => cases h
  | dt f e _ _ _ => cases h
  | cB _ _ _ _ _ _ => cases h
theorem gW (hK : X.K = K) : eH Γ X (.builtin "isinstance") zIsInst := ⟨_, pE hK, fun β xs ds M H Q Q' _ _ _ m rs z q => by
  unfold zIsInst at z
  split at z
  · obtain ⟨x, y, rfl, r, r'⟩ := gD rs
    rw [h8 r']
    obtain ⟨hT, z⟩ := z
    split at z
    · rename_i b hb
      obtain ⟨t, ht, hk⟩ := CG (K := K) m hT r hb
      exact ⟨_, _, t, b, rfl, ht, hk, q _ _ _ _ (.refl m) (.bl _) z⟩
    · exact z.elim
  · exact z.elim⟩
noncomputable abbrev nT := Dv → List Dv → Mh → ZK → Prop
noncomputable def vp (Γ : Gz) (X : Cx) (T id : String) (K : PySem.W.Frag) (z : nT) : Prop := ∃ r, uE X id r ∧ ∀ (β : Bz) x xs d ds M H Q Q', β.P = Γ.P → β.w = Γ.w → β.K = Γ.K → Mz β M H → Rz β M H x d → aJ β M H xs ds → z d ds M Q' → (∀ d' M' v H', Ex β M H M' H' → Rz β M' H' v d' → Q' d' M' → Q v H') → r x xs H Q
noncomputable def tyZ (T : String) (M : Mh) : Dv → Prop
  | .ptr a => match M a with | some (.lst _) => T = "list" | some .bV => T = "list" | some (.dk _ _) => T = "dict" | some (.dt _ _) => T = "dict" | none => False
  | .lst _ => T = "list"
  | .tup _ => T = "tuple"
  | .str _ => T = "str"
  | _ => False
theorem CH {M : Mh} {H : Hp} {x : V} {d : Dv} {T : String} (m : Mz β M H) (r : Rz β M H x d) (h : tyZ T M d) : BK K T x H := by
  cases r with
  | str => exact h
  | lst f e _ _ => exact .inl ⟨h, _, bH.of e⟩
  | tup f e _ _ => exact .inr (.inl ⟨h, .inr ⟨_, e⟩⟩)
  | ptr hs =>
    rename_i a
    cases q2 : M a with
    | none => rw [q2] at hs; cases hs
    | some o =>
      simp only [tyZ, q2] at h
      have q := m.obj a o q2
      cases o with
      | lst ds => obtain ⟨vs, e, _⟩ := q; exact .inl ⟨h, _, bH.of e⟩
      | bV => obtain ⟨_, _, e, _⟩ := q; exact .inl ⟨h, _, bH.of e⟩
      | dk ks ds => obtain ⟨vs, e, _⟩ := q; exact .inr (.inr (.inl ⟨h, .inl ⟨_, e⟩⟩))
      | dt ks ds => obtain ⟨vs, e, _⟩ := q; exact .inr (.inr (.inl ⟨h, .inr ⟨_, e⟩⟩))
  | _ => exact h.elim
noncomputable def zBM (T : String) (z : nT) (po : aH) (pa : fg) : aH := fun ρ M Q => po ρ M fun d M1 => tyZ T M1 d ∧ pa ρ M1 fun ds M2 => z d ds M2 Q
section
variable {o e : Expr} {es : List Expr} {po : aH} {pa : fg} {name : Str} {apos bb : Pos} {T id : String} {z : nT}
theorem gu (h : X.K = K) (pat : PlainAttrs T) (slot : Slot T name id) (o8 : typeOf (.builtin id) = pure (.type "method_descriptor")) (hm : vp Γ X T id K z) (ho : QE Γ X o po) (ha : QA Γ X (e :: es) pa) (lB : attributeBase o name X.env (eval o X.env) = eval o X.env := by rfl)
    (o9 : ((backTo bb (starEach (e :: es) X.env)).all (fun x => !x.1) && (backToKw bb (keywordEach [] X.env)).all (fun x => x.1.isSome)
      && decide ((e :: es).length + ([] : List Keyword).length + (if ([] : List Keyword).isEmpty then 0 else 1) < 30)) = true := by rfl)
    (hline : (apos.endLine == bb.line) = true := by rfl) (hs : starEach (e :: es) X.env = (false, eval e X.env) :: starEach es X.env := by rfl) (js : (backTo bb (starEach es X.env)).any (·.1) = false := by rfl) :
    QE Γ X (.Call (.Attribute o name apos) (e :: es) [] bb) (zBM T z po pa) := by
  obtain ⟨r, h1, h2⟩ := hm
  exact (B8 h pat slot o8 h1 ho ha lB o9 hline hs js).imp fun σ H Q ⟨β, ρ, M, Q', zr, h, q⟩ => ⟨β, ρ, M, _, zr, h, fun d M1 v H1 x1 r1 ⟨ht, h1⟩ => ⟨CH x1.mz r1 ht, β, ρ, M1, _, zr.step x1, h1, fun ds M2 vs H2 x2 r2 h3 =>
    h2 β v vs d ds M2 H2 _ _ zr.eP zr.ew zr.eK x2.mz (r1.ex x2) r2 h3 fun d' M' v' H' x3 r3 q3 => q _ _ _ _ (x1.trans (x2.trans x3)) r3 q3⟩⟩
end
noncomputable def zAppend : nT := fun d ds M Q => match d, ds with | .ptr a, [y] => (match M a with | some (.lst xs) => xs.length < sizeLine ∧ Q .aj (az M a (.lst (xs ++ [y]))) | _ => False) | _, _ => False
theorem i5 : vp Γ X "list" "list.append" K zAppend := ⟨_, nC, fun β x xs d ds M H Q Q' _ _ _ m r rs z q => by
  unfold zAppend at z
  split at z
  · rename_i a y
    split at z
    · rename_i es he
      obtain ⟨e, hs⟩ := cw r
      obtain ⟨v, e2, rv⟩ := dg rs
      subst e e2
      obtain ⟨vs, hv, c7⟩ := m.obj a _ he
      refine ⟨a, vs, v, rfl, rfl, hv, by rw [c7.len]; exact z.1, ?_⟩
      exact q _ _ _ _ (Ex.own m (.inl hs) (c7.snoc rv)) .aj z.2
    · exact z.elim
  · exact z.elim⟩
noncomputable def zPop : nT := fun d ds M Q => match d, ds with | .ptr a, [] => (match M a with | some (.lst xs) => (match xs[xs.length - 1]? with | some y => Q y (az M a (.lst xs.dropLast)) | none => False) | _ => False) | _, _ => False
noncomputable def zPopAt : nT := fun d ds M Q => match d, ds with | .ptr a, [.int i] => (match M a with | some (.lst xs) => -(2 ^ 63) ≤ i ∧ i < 2 ^ 63 ∧ (match seqIndex? i xs.length with | some k => (match xs[k]? with | some y => Q y (az M a (.lst (xs.eraseIdx k))) | none => False) | none => False) | _ => False) | _, _ => False
theorem aJ.eraseIdx {M : Mh} {H : Hp} {vs : List V} {ds : List Dv} (h : aJ β M H vs ds) (k : Nat) : aJ β M H (vs.eraseIdx k) (ds.eraseIdx k) := by
  rw [List.eraseIdx_eq_take_drop_succ, List.eraseIdx_eq_take_drop_succ]
  exact (h.take _).append (h.drop _)
theorem zT : vp Γ X "list" "list.pop" K zPopAt := ⟨_, wN, fun β x xs d ds M H Q Q' _ _ _ m r rs z q => by
  unfold zPopAt at z
  split at z
  · rename_i a i
    split at z
    · rename_i es he
      obtain ⟨b1, b2, z⟩ := z
      split at z
      · rename_i k hk
        split at z
        · rename_i y hy
          obtain ⟨e, hs⟩ := cw r
          obtain ⟨v0, e2, Ji⟩ := dg rs
          subst e e2
          rw [aD Ji]
          obtain ⟨vs, hv, c7⟩ := m.obj a _ he
          obtain ⟨v, Jj, rv⟩ := c7.get hy
          refine ⟨a, vs, i, k, v, rfl, rfl, hv, b1, b2, by rw [c7.len]; exact hk, Jj, ?_⟩
          have x2 := Ex.own m (.inl hs) (c7.eraseIdx k)
          exact q _ _ _ _ x2 (rv.ex x2) z
        · exact z.elim
      · exact z.elim
    · exact z.elim
  · exact z.elim⟩
noncomputable def zSetI : Dv → Dv → Dv → Mh → (Mh → Prop) → Prop := fun o i v M N => match o, i with | .ptr a, .int k => (match M a with | some (.lst xs) => (match ez xs.length k with | some j => N (az M a (.lst (xs.set j v))) | none => False) | _ => False) | _, _ => False
noncomputable def zgSub (po pi : aH) : b6 := fun d ρ M N => po ρ M fun o M1 => pi ρ M1 fun i M2 => zSetI o i d M2 fun M3 => N ρ M3
theorem jP {o i : Expr} {po pi : aH} {pos : Pos} (ho : QE Γ X o po) (hi : QE Γ X i pi)
    (ha : ∀ v, assign (.Subscript o i pos) X.env v = (do
      let ov ← holding [v] (eval o X.env)
      let iv ← holding [v, ov] (eval i X.env)
      standAt pos
      holding [v, ov, iv] (setItem ov iv v)
      release [v, ov, iv] []) := by intro _; rfl) : QG Γ X (.Subscript o i pos) (zgSub po pi) :=
  (A0 ho hi set_list ha).imp fun v σ H N ⟨β, d, ρ, M, N', zr, r, h, q⟩ => ⟨β, ρ, M, _, zr, h, fun od M1 ov H1 x1 r1 h1 => ⟨β, ρ, M1, _, zr.step x1, h1, fun Ko M2 iv H2 x2 r2 h2 => by
    unfold zSetI at h2
    split at h2
    · rename_i a k
      split at h2
      · rename_i es he
        split at h2
        · rename_i j hj
          obtain ⟨e, hs⟩ := cw (r1.ex x2)
          subst e
          rw [aD r2]
          obtain ⟨vs, hv, c7⟩ := x2.mz.obj a _ he
          have x3 := Ex.own x2.mz (.inl hs) (c7.set j ((r.ex x1).ex x2))
          exact ⟨a, vs, k, j, rfl, rfl, hv, by rw [c7.len]; exact hj, q _ _ _ _ (x1.trans (x2.trans x3)) (((zr.step x1).step x2).step x3) h2⟩
        · exact h2.elim
      · exact h2.elim
    · exact h2.elim⟩⟩
end
end L2
namespace L2
open PySem PySem.Spec PySem.W PyProof.Rows
noncomputable abbrev ZX := Addr → Mh → Prop
noncomputable abbrev dh := List Dv → Mh → ZK → ZX → Prop
noncomputable def aX (P : Program) (w : World) (K : PySem.W.Frag) (tb : cM) (S : dh) : Sp := fun vs H Q E => ∃ (β : Bz) (ds : List Dv) (M : Mh) (Q' : ZK) (E' : ZX), β.P = P ∧ β.w = w ∧ β.K = K ∧ β.tb = tb ∧ Mz β M H ∧ aJ β M H vs ds ∧ S ds M Q' E' ∧
  (∀ d M' v H', Ex β M H M' H' → Rz β M' H' v d → Q' d M' → Q v H') ∧ ∀ C M' H', Ex β M H M' H' → E' C M' → E (.ref C) none H'
theorem Rz.j6 {β : Bz} {M0 M : Mh} {H : Hp} (dom : ∀ a, (M0 a).isSome = true → (M a).isSome = true) {v : V} {d : Dv} (h : Rz β M H v d) : Pin M0 d → Rz β M0 H v d := by
  have ne : ∀ a, Fz β M a → Fz β M0 a := fun a m => ⟨(by
    cases e : M0 a with
    | none => rfl
    | some o => have := dom a (by rw [e]; rfl); rw [m.1] at this; cases this), m.2⟩
  induction h with
  | int i => exact fun _ => .int i
  | bl b => exact fun _ => .bl b
  | aj => exact fun _ => .aj
  | str z => exact fun _ => .str z
  | tup m e hl h ih =>
    intro p
    cases p with
    | tup p => exact .tup (ne _ m) e hl fun i v d a b => ih i v d a b (p d (List.mem_of_getElem? b))
  | lst m e hl h ih =>
    intro p
    cases p with
    | lst p => exact .lst (ne _ m) e hl fun i v d a b => ih i v d a b (p d (List.mem_of_getElem? b))
  | set m e => exact fun _ => .set (ne _ m) e
  | ptr m => intro p; cases p with | ptr p => exact .ptr p
  | exc m e => exact fun _ => .exc (ne _ m) e
  | a9 m e => exact fun _ => .a9 (ne _ m) e
  | cm m e => exact fun _ => .cm (ne _ m) e
  | cn e => exact fun _ => .cn e
  | dk m e hk hl h ih =>
    intro p
    cases p with
    | dk p => exact .dk (ne _ m) e hk hl fun i v d a b => ih i v d a b (p d (List.mem_of_getElem? b))
  | dt m e hk hl h ih =>
    intro p
    cases p with
    | dt p => exact .dt (ne _ m) e hk hl fun i v d a b => ih i v d a b (p d (List.mem_of_getElem? b))
  | cB m e m2 e2 hl h ih =>
    intro p
    cases p with
    | cB p => exact .cB (ne _ m) e (ne _ m2) e2 hl fun i v d a b => ih i v d a b (p d (List.mem_of_getElem? b))
  | raw v => exact fun _ => .raw v
inductive jj (M0 M : Mh) : Dv → Dv → Prop where
  | pin {d : Dv} (h : Pin M0 d) : jj M0 M d d
  | ptr {a : Addr} {ds eY : List Dv} (h0 : M0 a = none) (h : M a = some (.lst ds)) (hl : ds.length = eY.length) (r : ∀ (i : Nat) (d d' : Dv), ds[i]? = some d → eY[i]? = some d' → jj M0 M d d') : jj M0 M (.ptr a) (.lst eY)
  | tup {ds eY : List Dv} (hl : ds.length = eY.length) (r : ∀ (i : Nat) (d d' : Dv), ds[i]? = some d → eY[i]? = some d' → jj M0 M d d') : jj M0 M (.tup ds) (.tup eY)
  | dk {a : Addr} {ks : List Key} {ds eY : List Dv} (h0 : M0 a = none) (h : M a = some (.dk ks ds)) (hl : ds.length = eY.length) (r : ∀ (i : Nat) (d d' : Dv), ds[i]? = some d → eY[i]? = some d' → jj M0 M d d') : jj M0 M (.ptr a) (.dk ks eY)
  | dt {a : Addr} {ks : List (List Key)} {ds eY : List Dv} (h0 : M0 a = none) (h : M a = some (.dt ks ds)) (hl : ds.length = eY.length) (r : ∀ (i : Nat) (d d' : Dv), ds[i]? = some d → eY[i]? = some d' → jj M0 M d d') : jj M0 M (.ptr a) (.dt ks eY)
theorem jj.rz {β : Bz} {M0 M : Mh} {H : Hp} (mz : Mz β M H) (dom : ∀ a, (M0 a).isSome = true → (M a).isSome = true) {d d' : Dv} (h : jj M0 M d d') : ∀ {v : V}, Rz β M H v d → Rz β M0 H v d' := by
  induction h with
  | pin h => exact fun r => r.j6 dom h
  | ptr h0 h hl r ih =>
    intro v r
    obtain ⟨rfl, _⟩ := cw r
    obtain ⟨vs, hv, rs⟩ := mz.obj _ _ h
    refine .lst ⟨h0, mz.apart _ _ h⟩ hv (rs.len.trans hl) fun i v d a b => ?_
    obtain ⟨d0, q, rd⟩ := rs.get' a
    exact ih i d0 d q b rd
  | dk h0 h hl r ih =>
    intro v r
    obtain ⟨rfl, _⟩ := cw r
    obtain ⟨vs, hv, hk, rs⟩ := mz.obj _ _ h
    refine .dk ⟨h0, mz.apart _ _ h⟩ (.inl hv) hk (rs.len.trans hl) fun i v d a b => ?_
    obtain ⟨d0, q, rd⟩ := rs.get' a
    exact ih i d0 d q b rd
  | dt h0 h hl r ih =>
    intro v r
    obtain ⟨rfl, _⟩ := cw r
    obtain ⟨vs, hv, hk, rs⟩ := mz.obj _ _ h
    refine .dt ⟨h0, mz.apart _ _ h⟩ (.inl hv) hk (rs.len.trans hl) fun i v d a b => ?_
    obtain ⟨d0, q, rd⟩ := rs.get' a
    exact ih i d0 d q b rd
  | tup hl r ih =>
    intro v r
    obtain ⟨a, vs, rfl, f, hv, rs⟩ := cN r
    refine .tup ⟨?_, f.2⟩ hv (rs.len.trans hl) fun i v d a b => ?_
    · cases e : M0 a with
      | none => rfl
      | some o => have := dom a (by rw [e]; rfl); rw [f.1] at this; cases this
    · obtain ⟨d0, q, rd⟩ := rs.get' a
      exact ih i d0 d q b rd
noncomputable def i6 (M0 : Mh) (Q : ZK) : ZK := fun d M => Q d M ∨ ((∀ a o, M0 a = some o → M a = some o) ∧ ∃ d', jj M0 M d d' ∧ Q d' M0)
theorem sk {β : Bz} {M0 M : Mh} {H0 H : Hp} {Q' : ZK} {Q : VK} (m0 : Mz β M0 H0) (q : ∀ d M' v H', Ex β M0 H0 M' H' → Rz β M' H' v d → Q' d M' → Q v H') {d : Dv} {v : V} (x : Ex β M0 H0 M H) (r : Rz β M H v d) (h : i6 M0 Q' d M) : Q v H := by
  rcases h with h | ⟨same, d', rv, h⟩
  · exact q _ _ _ _ x r h
  · refine q d' M0 v H ⟨⟨x.keep, fun _ h => h, fun _ _ h _ => h⟩, fun a o e => ?_, x.mz.tabs, x.mz.hids, m0.apart, x.mz.lams⟩ (rv.rz x.mz x.dom r) h
    have z := x.mz.obj a o (same a o e)
    have z0 := m0.obj a o e
    cases o with
    | lst ds =>
      obtain ⟨vs, z, rs⟩ := z
      obtain ⟨Gq, _, vq⟩ := z0
      refine ⟨vs, z, rs.len, fun i v d a b => (rs.at' i v d a b).j6 x.dom ?_⟩
      obtain ⟨v0, _, r0⟩ := vq.get b
      exact r0.pin
    | dk ks ds =>
      obtain ⟨vs, z, hk, rs⟩ := z
      obtain ⟨Gq, _, _, vq⟩ := z0
      refine ⟨vs, z, hk, rs.len, fun i v d a b => (rs.at' i v d a b).j6 x.dom ?_⟩
      obtain ⟨v0, _, r0⟩ := vq.get b
      exact r0.pin
    | dt ks ds =>
      obtain ⟨vs, z, hk, rs⟩ := z
      obtain ⟨Gq, _, _, vq⟩ := z0
      refine ⟨vs, z, hk, rs.len, fun i v d a b => (rs.at' i v d a b).j6 x.dom ?_⟩
      obtain ⟨v0, _, r0⟩ := vq.get b
      exact r0.pin
    | bV => exact z
noncomputable def zstart (N : List Str) (ds : List Dv) : ax := ds.map some ++ List.replicate (N.length - ds.length) none
theorem pW {Γ : Gz} {N : List Str} {vs : List V} {ds : List Dv} (m : Mz Γ.toBz Γ.M0 Γ.H0) (rs : aJ Γ.toBz Γ.M0 Γ.H0 vs ds) : Zr Γ Γ.toBz Γ.M0 (zstart N ds) (start N vs) Γ.H0 := ⟨rfl, rfl, rfl, rfl, fun _ h => h, m.wf, .refl, m, by simp [zstart, start, rs.len], fun i d e => by
  unfold zstart at e
  unfold start
  rw [List.getElem?_append] at e ⊢
  rw [List.length_map] at e ⊢
  rw [rs.len]
  split at e
  · rename_i hi
    rw [if_pos hi]
    rw [List.getElem?_map, Option.map_eq_some_iff] at e
    obtain ⟨d2, e, e2⟩ := e
    cases e2
    obtain ⟨v, hv, r⟩ := rs.get e
    exact ⟨v, by rw [List.getElem?_map, hv]; rfl, r⟩
  · rw [List.getElem?_replicate] at e
    split at e <;> cases e⟩
noncomputable def zEndsOf (M0 : Mh) (Q : ZK) : eG := { nx := fun _ M => i6 M0 Q .aj M, rt := i6 M0 Q }
noncomputable def XR (Γ : Gz) (E' : ZX) (E : XK) : Prop := ∀ C M' H', Ex Γ.toBz Γ.M0 Γ.H0 M' H' → E' C M' → E (.ref C) none H'
section
variable {P : Program} {w : World} {K : PySem.W.Frag} {mg : Str → Option Value} {base : Heap} {tb : cM} {x : Str} {st : Stmt} {f : Addr} {fd : FuncData} {N ps : List Str} {k : Nat} {S : dh}
theorem sm (len : ∀ ds M Q E, S ds M Q E → ds.length = ps.length) : ∀ vs H Q E, aX P w K tb S vs H Q E → vs.length = ps.length := fun vs H Q E hS => by
  obtain ⟨β, ds, M, Q', E', _, _, _, _, m, rs, s, _⟩ := hS
  exact rs.len.trans (len _ _ _ _ s)
theorem dQ (D : Df K mg x st ps f fd) (sc : aS N ps (ak st)) (len : ∀ ds M Q E, S ds M Q E → ds.length = ps.length)
    (body : ∀ (A : Around) (outer : List Env) (s : Shared) (E : XK) (Γ : Gz) (ds : List Dv) (Q' : ZK) (E' : ZX), P = Γ.P → w = Γ.w → K = Γ.K → tb = Γ.tb → bu k (A.deeper (envOfC x (ak st) s.heap.objs.size f fd.code)) → S ds Γ.M0 Q' E' →
      ∃ p, ia Γ (eQ bj P w K mg base N x (ak st) f fd.code A outer s Γ.H0 E).ub (cG st) p ∧ p (zEndsOf Γ.M0 Q') (zstart N ds) Γ.M0) : FnOk P w K mg base bj (k + 1) f fd ps (aX P w K tb S) := by
  refine D.fn.IG sc (sm len) fun A outer s H vs Q E hr h => ?_
  obtain ⟨β, ds, M, Q', E', eP, ew, eK, et, m, rs, hS, q, _⟩ := h
  obtain ⟨p, hp, hq⟩ := body A outer s E ⟨β, M, H⟩ ds Q' E' eP.symm ew.symm eK.symm et.symm hr hS
  refine ⟨_, hp, β, zstart N ds, M, zEndsOf M Q', pW (Γ := ⟨β, M, H⟩) m rs, hq, ?_⟩
  have fin : ∀ d M' v H', Ex β M H M' H' → Rz β M' H' v d → i6 M Q' d M' → Q v H' := fun d M' v H' x r h => sk m q x r h
  exact ⟨fun bP M' aF H' x zr h => fin _ _ _ _ ⟨zr.ent, x.mz⟩ .aj h, fun d M' v H' x e r h => fin _ _ _ _ ⟨e, x.mz⟩ r h, fun _ _ _ _ _ _ h => h, fun _ _ _ _ _ _ h => h⟩
end
section
variable {P : Program} {w : World} {K : PySem.W.Frag} {mg : Str → Option Value} {base : Heap} {tb : cM} {x : Str} {st : Stmt} {f : Addr} {fd : FuncData} {N ps : List Str} {k : Nat} {S : dh}
theorem oM (D : Df K mg x st ps f fd) (sc : aS N ps (ak st)) (len : ∀ ds M Q E, S ds M Q E → ds.length = ps.length)
    (body : ∀ (A : Around) (outer : List Env) (s : Shared) (E : XK) (Γ : Gz) (ds : List Dv) (Q' : ZK) (E' : ZX), P = Γ.P → w = Γ.w → K = Γ.K → tb = Γ.tb → XR Γ E' E → bu k (A.deeper (envOfC x (ak st) s.heap.objs.size f fd.code)) → S ds Γ.M0 Q' E' →
      ∃ p, ia Γ (eQ (dn P w) P w K mg base N x (ak st) f fd.code A outer s Γ.H0 E) (cG st) p ∧ p (zEndsOf Γ.M0 Q') (zstart N ds) Γ.M0) : FnOk P w K mg base (dn P w) (k + 1) f fd ps (aX P w K tb S) := by
  refine D.fn.jC sc (sm len) fun A outer s H vs Q E hr h => ?_
  obtain ⟨β, ds, M, Q', E', eP, ew, eK, et, m, rs, hS, q, qx⟩ := h
  obtain ⟨p, hp, hq⟩ := body A outer s E ⟨β, M, H⟩ ds Q' E' eP.symm ew.symm eK.symm et.symm qx hr hS
  refine ⟨_, hp, β, zstart N ds, M, zEndsOf M Q', pW (Γ := ⟨β, M, H⟩) m rs, hq, ?_⟩
  have fin : ∀ d M' v H', Ex β M H M' H' → Rz β M' H' v d → i6 M Q' d M' → Q v H' := fun d M' v H' x r h => sk m q x r h
  exact ⟨fun bP M' aF H' x zr h => fin _ _ _ _ ⟨zr.ent, x.mz⟩ .aj h, fun d M' v H' x e r h => fin _ _ _ _ ⟨e, x.mz⟩ r h, fun _ _ _ _ _ _ h => h, fun _ _ _ _ _ _ h => h⟩
end
section
variable {X : Cx} {Γ : Gz} {β : Bz} {K : PySem.W.Frag}
noncomputable def zCall (S : dh) (E' : ZX) (za : fg) : aH := fun ρ M Q => za ρ M fun ds M1 => S ds M1 Q E'
theorem XR.none : XR Γ (fun _ _ => False) (fun _ _ _ => False) := fun _ _ _ _ h => h
theorem vr {M M1 M2 : Mh} {H H1 H2 : Hp} (ent : Ey M H M1 H1) (sub : ∀ a, a ∈ Γ.hid → a ∈ β.hid) (eP : β.P = Γ.P) (ew : β.w = Γ.w) (eK : β.K = Γ.K) (et : β.tb = Γ.tb) (x : Ex β M1 H1 M2 H2) : Ex Γ.toBz M H M2 H2 := ⟨ent.trans x.toEy, x.mz.sub eP.symm ew.symm eK.symm et.symm sub⟩
section
variable {CX : iE} {k : Nat} {f : Addr} {fd : FuncData} {ps : List Str} {S : dh} {E : XK} {E' : ZX} {x : Str} {p pos : Pos} {e : Expr} {es : List Expr} {za : fg} {P : Program} {w : World} {tb : cM}
theorem CI (hP : P = Γ.P) (hw : w = Γ.w) (hK : K = Γ.K) (ht : tb = Γ.tb) (hE : XR Γ E' E) {σ : St} {H : Hp} {Q : VK} (h : lE Γ (zCall S E' za) σ H Q) : yp (aX P w K tb S) [] E (lA Γ za) σ H Q := by
  subst hP hw hK ht
  obtain ⟨β, ρ, M, Q', zr, h, q⟩ := h
  refine ⟨β, ρ, M, _, zr, h, fun ds M1 vs H1 x1 r1 h1 => ?_⟩
  show aX Γ.P Γ.w Γ.K Γ.tb S (vs ++ []) H1 Q E
  rw [List.append_nil]
  exact ⟨β, ds, M1, Q', E', zr.eP, zr.ew, zr.eK, zr.et, x1.mz, r1, h1, fun d M2 v H2 x2 r2 h2 => q _ _ _ _ (x1.trans x2) r2 h2, fun C M2 H2 x2 h2 => hE C M2 H2 (vr zr.ent zr.sub zr.eP zr.ew zr.eK zr.et (x1.trans x2)) h2⟩
theorem aE (F : FnOk X.prog X.w X.K X.mg X.base CX k f fd ps (aX P w K tb S)) (hr : bu k X.A) (hg : Gl X x) (hm : X.mg x = some (.ref f)) (hk : PySem.W.keepIn X.K (.ref f) = true) (hb : Binds X.K fd ps []) (hx : Passes CX X E) (hP : P = Γ.P) (hw : w = Γ.w) (hK : K = Γ.K) (ht : tb = Γ.tb) (hE : XR Γ E' E)
    (ha : QA Γ X (e :: es) za) (e8 : (x == ("__debug__" : Str)) = false := by decide) (he : starEach (e :: es) X.env = (false, eval e X.env) :: starEach es X.env := by rfl) (gi : (backTo pos (starEach es X.env)).any (·.1) = false := by rfl) :
    QE Γ X (.Call (.Name x p) (e :: es) [] pos) (zCall S E' za) := (zp F hr hg hm hk hb .nil hx ha e8 he gi).imp fun σ H Q h => CI hP hw hK ht hE h
end
noncomputable def zRaise (C : Addr) (E' : ZX) (za : fg) : bD := fun _ ρ M => za ρ M fun ds M1 => ds.length ≤ sizeLine ∧ E' C M1
theorem xq {x : Str} {C : Addr} {iw : Expr} {rest : List Expr} {za : fg} {nN : List Value} {B newId pF : String} {E : XK} {E' : ZX} {np bb pos : Pos} (O : PySem.W.excIn X.K C nN newId = true) (FB : ExcBaseFacts B newId pF nN) (hc : X.calm = true) (hR : Raises X E) (hE : XR Γ E' E) (hg : Gl X x) (hm : X.mg x = some (.ref C)) (ha : QA Γ X (iw :: rest) za)
    (e8 : (x == ("__debug__" : Str)) = false := by decide) (he : starEach (iw :: rest) X.env = (false, eval iw X.env) :: starEach rest X.env := by rfl) (gi : (backTo bb (starEach rest X.env)).any (·.1) = false := by rfl) :
    QS Γ X (.Raise (some (.Call (.Name x np) (iw :: rest) [] bb)) none pos) (zRaise C E' za) := (wZ O FB hc hR hg hm ha e8 he gi).imp fun D σ H ⟨β, ρ, M, D', zr, h, r⟩ => ⟨β, ρ, M, _, zr, h, fun ds M1 vs H1 x1 r1 h1 =>
  ⟨by rw [r1.len]; exact h1.1, hE C M1 H1 (vr zr.ent zr.sub zr.eP zr.ew zr.eK zr.et x1) h1.2⟩⟩
noncomputable def zTry (K : PySem.W.Frag) (C0 : Addr) (i n : Nat) (pb : ZX → bD) (ph : bD) : bD := fun D ρ M => pb (fun C M' => subIn K (.ref C) (.ref C0) = some true ∧ ph { D with nx := fun _ M2 => D.nx (List.replicate n none) M2, bk := fun _ M2 => D.bk (List.replicate n none) M2, ct := fun _ M2 => D.ct (List.replicate n none) M2 } ((List.replicate n none).set i (some (.exc C))) M') D ρ M
theorem CJ {body suite : List Stmt} {x n : Str} {i : Nat} {np pI pos : Pos} {mG : Stmt} {C0 : Addr} {pb : ZX → bD} {ph : bD} {nn : Nat} (Jk : X.N.length = nn) (hN : X.N.Nodup) (hi : X.N[i]? = some n) (hl : X.env.scope.names.lookup n = some .local) (nM : X.stack = X.env :: X.outer ∧ X.env.frame = some X.env.locals) (hex : X.ex = []) (O : hZ X.K C0) (hg : Gl X x) (hm : X.mg x = some (.ref C0))
    (hb : ∀ (T : Value → Shared → Prop) (pn : List (Addr × Obj)) (E : XK) (E' : ZX) (aQ : Gz), aQ.P = Γ.P → aQ.w = Γ.w → aQ.K = Γ.K → aQ.tb = Γ.tb → Passes (dn X.prog X.w) (X.iV T pn) E → XR aQ E' E → ia aQ (X.iV T pn) body (pb E')) (hs : ∀ a : Addr, ia Γ (X.suite a) (mG :: suite) ph)
    (e8 : (x == ("__debug__" : Str)) = false := by decide) :
    QS Γ X (.Try body [.ExceptHandler (some (.Name x np)) (some n) (mG :: suite) pI] [] [] pos) (zTry X.K C0 i nn pb ph) := by
  subst Jk
  refine (Ck (tb := fun E => fun D σ H => ∃ (aQ : Gz) (E' : ZX), aQ.P = Γ.P ∧ aQ.w = Γ.w ∧ aQ.K = Γ.K ∧ aQ.tb = Γ.tb ∧ XR aQ E' E ∧ lS aQ (pb E') D σ H) hN hi hl nM hex O hg hm (fun T pn E hp => ⟨fun pins s σ H D I h => ?_⟩) hs e8).imp fun D σ H ⟨β, ρ, M, D', zr, h, r⟩ => ⟨⟨β, M, H⟩, _, zr.eP, zr.ew, zr.eK, zr.et, ?_, β, ρ, M, D', ⟨rfl, rfl, rfl, rfl, fun _ h => h, zr.mz.wf, .refl, zr.mz, zr.len, zr.at'⟩, h, ?_⟩
  · obtain ⟨aQ, E', e1, e2, e4, e3, hE, h⟩ := h
    exact (hb T pn E E' aQ e1 e2 e4 e3 hp hE) pins s σ H D I h
  · intro C M' H' x' hC
    have x' : Ex β M H M' H' := x'
    obtain ⟨sS, Jl⟩ := hC
    refine ⟨C, rfl, sS, fun a ha => ?_⟩
    have x2 := Ex.lay x'.mz ha (kP C a)
    have x3 := x'.trans x2
    have bare : ∀ {M2 : Mh} {H2 : Hp}, Ex β M H M2 H2 → Zr Γ β M2 (List.replicate X.N.length none) (blank X.N.length) H2 := fun x => ⟨zr.eP, zr.ew, zr.eK, zr.et, zr.sub, zr.wf, zr.ent.trans x.toEy, x.mz, by simp [blank], fun j d e => by
      rw [List.getElem?_replicate] at e
      split at e <;> cases e⟩
    refine ⟨β, _, M', _, (bare x3).set i (.exc (x'.mz.fz ha) aB), Jl, ?_⟩
    have tE : ∀ {M2 : Mh} {eD : ax} {fR : St} {H2 : Hp}, Zr Γ β M2 eD fR H2 → Zr Γ β M2 (List.replicate X.N.length none) (blank X.N.length) H2 := fun z => ⟨z.eP, z.ew, z.eK, z.et, z.sub, z.wf, z.ent, z.mz, by simp [blank], fun j d e => by
      rw [List.getElem?_replicate] at e
      split at e <;> cases e⟩
    exact ⟨fun eD M2 fR H2 y z h => r.nx _ _ _ _ (x3.ev.trans y) (tE z) h, fun d M2 v H2 y e z h => r.rt _ _ _ _ (x3.ev.trans y) e z h, fun eD M2 fR H2 y z h => r.bk _ _ _ _ (x3.ev.trans y) (tE z) h, fun eD M2 fR H2 y z h => r.ct _ _ _ _ (x3.ev.trans y) (tE z) h⟩
  · have up : ∀ {bP : ax} {M2 : Mh} {aF : St} {H2 : Hp}, Zr ⟨β, M, H⟩ β M2 bP aF H2 → Zr Γ β M2 bP aF H2 := fun z => ⟨zr.eP, zr.ew, zr.eK, zr.et, zr.sub, zr.wf, zr.ent.trans z.ent, z.mz, z.len, z.at'⟩
    exact ⟨fun eD M2 fR H2 y z h => r.nx _ _ _ _ y (up z) h, fun d M2 v H2 y e z h => r.rt _ _ _ _ y (zr.ent.trans e) z h, fun eD M2 fR H2 y z h => r.bk _ _ _ _ y (up z) h, fun eD M2 fR H2 y z h => r.ct _ _ _ _ y (up z) h⟩
noncomputable def zIsE (K : PySem.W.Frag) : lX := fun ds M Q => match ds with
  | [.exc C, .raw (.ref D)] => dA K C ∧ (match kitOne K (.ref C) (.ref D) with | some b => Q (.bl b) M | none => False)
  | [.exc C, .raw (.ty T)] => dA K C ∧ (match kitOne K (.ref C) (.type T) with | some b => Q (.bl b) M | none => False)
  | [.exc C, .tup es] => dA K C ∧ ∃ Ds : List Addr, es = Ds.map (fun D => .raw (.ref D)) ∧ (match kitAny K (.ref C) (Ds.map Value.ref) with | some b => Q (.bl b) M | none => False)
  | _ => False
theorem yH (hK : X.K = K) : eH Γ X (.builtin "isinstance") (zIsE K) := ⟨_, w6 hK, fun β xs ds M H Q Q' _ _ _ m rs z q => by
  unfold zIsE at z
  split at z
  · rename_i C D
    obtain ⟨x, y, rfl, r, r'⟩ := gD rs
    obtain ⟨a, rfl, f, h⟩ := jJ r
    have e := h8 r'
    subst e
    obtain ⟨hC, z⟩ := z
    split at z
    · rename_i b hb
      exact ⟨a, C, b, h, hC, .inl ⟨D, rfl, hb⟩, q _ _ _ _ (.refl m) (.bl _) z⟩
    · exact z.elim
  · rename_i C T
    obtain ⟨x, y, rfl, r, r'⟩ := gD rs
    obtain ⟨a, rfl, f, h⟩ := jJ r
    have e := h8 r'
    subst e
    obtain ⟨hC, z⟩ := z
    split at z
    · rename_i b hb
      exact ⟨a, C, b, h, hC, .inr (.inl ⟨T, rfl, hb⟩), q _ _ _ _ (.refl m) (.bl _) z⟩
    · exact z.elim
  · rename_i C es
    obtain ⟨x, y, rfl, r, r'⟩ := gD rs
    obtain ⟨a, rfl, f, h⟩ := jJ r
    obtain ⟨b2, vs, rfl, f2, h2, c7⟩ := cN r'
    obtain ⟨hC, Ds, rfl, z⟩ := z
    split at z
    · rename_i b hb
      have ev : vs = Ds.map V.ref := by
        refine List.ext_getElem? fun i => ?_
        cases e : vs[i]? with
        | none =>
          have := List.getElem?_eq_none_iff.mp e
          have l := c7.len
          simp at l
          rw [List.getElem?_map, List.getElem?_eq_none_iff.mpr (by omega)]
          rfl
        | some v =>
          obtain ⟨d, hd, rd⟩ := c7.get' e
          rw [List.getElem?_map] at hd
          cases e2 : Ds[i]? with
          | none => rw [e2] at hd; cases hd
          | some D => rw [e2] at hd; cases hd; rw [List.getElem?_map, e2, h8 rd]; rfl
      subst ev
      exact ⟨a, C, b, h, hC, .inr (.inr ⟨b2, Ds, rfl, h2, hb⟩), q _ _ _ _ (.refl m) (.bl _) z⟩
    · exact z.elim
  · exact z.elim⟩
section
variable {tg elt iter : Expr} {ifs : List Expr} {scope : Scope} {pos : Pos} {N' : List Str} {tn : Nat} {idx : List Nat} {zi : eC} {g : b6} {tt : cx} {te : aH} {c P : Addr} {k : Nat}
theorem eE (hc : X.calm = true) (B : aG X.N X.env.scope scope N' tn idx) (hi : QI Γ X tg iter zi)
    (hg : Blk X N' scope fun Y => QG Γ Y tg g) (ht : Blk X N' scope fun Y => nR Γ Y ifs tt) (he : Blk X N' scope fun Y => QE Γ Y elt te)
    (hs : ∀ x, foldedSetIterable iter X.env x = pure x := by intro _; rfl) : QE Γ X (.ListComp elt [⟨tg, iter, ifs, 0⟩] scope pos) (zComp tn idx zi g tt te) := (qQ hc B hi hg ht he hs).imp fun σ H Q h => vj h
theorem tF {i : Nat} {y : Str} {py jv : Pos} (hN : X.N.Nodup) (jw : X.N[i]? = some y) (hy : X.env.scope.names.lookup y = some .local) (hc : X.calm = true) (B : aG X.N X.env.scope scope N' tn idx) (hi : QI Γ X tg iter zi)
    (hg : Blk X N' scope fun Y => QG Γ Y tg g) (ht : Blk X N' scope fun Y => nR Γ Y ifs tt) (he : Blk X N' scope fun Y => QE Γ Y elt te)
    (uN : swapsWith (.ListComp elt [⟨tg, iter, ifs, 0⟩] scope pos) (some (.Name y py)) jv.line X.env = pure true := by rfl)
    (hs : ∀ x, foldedSetIterable iter X.env x = pure x := by intro _; rfl) : QS Γ X (.Assign [.Name y py] (.ListComp elt [⟨tg, iter, ifs, 0⟩] scope pos) jv) (zAsg (zComp tn idx zi g tt te) (zgName i)) := (lJ hN jw hy hc B hi hg ht he uN hs).imp fun D σ H h => tj (fun _ _ _ h => vj h) h
theorem qV {i : Nat} {y : Str} {py jv : Pos} (hN : X.N.Nodup) (jw : X.N[i]? = some y) (hy : X.env.scope.names.lookup y = some .local) (hc : X.calm = true) (B : aG X.N X.env.scope scope N' tn idx) (hi : QI Γ X tg iter zi)
    (hg : Blk X N' scope fun Y => QG Γ Y tg g) (ht : Blk X N' scope fun Y => nR Γ Y ifs tt) (he : Blk X N' scope fun Y => QE Γ Y elt te)
    (uN : swapsWith (.ListComp elt [⟨tg, iter, ifs, 0⟩] scope pos) (some (.Name y py)) jv.line X.env = pure true := by rfl)
    (hs : ∀ x, foldedSetIterable iter X.env x = pure x := by intro _; rfl) : QS Γ X (.Assign [.Name y py] (.ListComp elt [⟨tg, iter, ifs, 0⟩] scope pos) jv) (zAsg (zCompP tn idx zi g tt te) (zgName i)) := (lJ hN jw hy hc B hi hg ht he uN hs).imp fun D σ H h => tj (fun _ _ _ h => zQ h) h
theorem pX {p eo : Pos} (hP : P ∈ Γ.tb) (hr : bu (k + 1) X.A) (hc : X.calm = true) (B : aG X.N X.env.scope scope N' tn idx)
    (h0 : scope.names.lookup (".0" : Str) = some .local) (ft : scope.isCoroutine = false) (dW : X.env.code = .ref c) (hd : PySem.W.CodeHd X.base c P) (cu : ∃ bm ob, BMod X.base mainGlobals X.mg bm ob)
    (jB : Gl X "all") (hm : X.mg "all" = none) (hi : QI Γ X tg iter zi) (hg : cg X N' scope k fun Y => QG Γ Y tg g) (ht : cg X N' scope k fun Y => nR Γ Y ifs tt) (he : cg X N' scope k fun Y => QE Γ Y elt te)
    (hs : ∀ x, genFold iter X.env x = pure x := by intro _; rfl) : QE Γ X (.Call (.Name "all" p) [cf elt tg iter ifs scope eo] [] pos) (zAll tn idx zi g tt te) := (B2 hr hc B h0 ft dW hd cu jB hm hi hg ht he hs).imp fun σ H Q h => E3 hP h
end
end
section
variable {X : Cx} {Γ : Gz} {β : Bz} {K : PySem.W.Frag}
section
variable {tg elt iter : Expr} {ifs : List Expr} {scope : Scope} {pos : Pos} {N' : List Str} {tn : Nat} {idx : List Nat} {zi : eC} {g : b6} {tt : cx} {te : aH} {c P : Addr} {k : Nat}
theorem kr {p eo : Pos} (hP : P ∈ Γ.tb) (hr : bu (k + 1) X.A) (hc : X.calm = true) (B : aG X.N X.env.scope scope N' tn idx)
    (h0 : scope.names.lookup (".0" : Str) = some .local) (ft : scope.isCoroutine = false) (dW : X.env.code = .ref c) (hd : PySem.W.CodeHd X.base c P) (cu : ∃ bm ob, BMod X.base mainGlobals X.mg bm ob)
    (jB : Gl X "tuple") (hm : X.mg "tuple" = none) (hi : QI Γ X tg iter zi) (hg : cg X N' scope k fun Y => QG Γ Y tg g) (ht : cg X N' scope k fun Y => nR Γ Y ifs tt) (he : cg X N' scope k fun Y => QE Γ Y elt te)
    (hs : ∀ x, genFold iter X.env x = pure x := by intro _; rfl) : QE Γ X (.Call (.Name "tuple" p) [cf elt tg iter ifs scope eo] [] pos) (zTupG tn idx zi g tt te) := (qT hr hc B h0 ft dW hd cu jB hm hi hg ht he hs).imp fun σ H Q h => CB hP h
noncomputable def yI (g : b6) (tt : cx) (te : aH) : List Dv → ax → Mh → (List Int → Mh → Prop) → List Int → Prop
  | [], _, M, Q, acc => Q acc M
  | d :: ds, τ, M, Q, acc => g d τ M fun aw M2 => tt aw M2 fun b M3 => if b = true then te aw M3 fun y M4 => (match y with | .int k => acc.length + 1 < scanBound ∧ yI g tt te ds aw M4 Q (HA acc k) | _ => False) else yI g tt te ds aw M3 Q acc
end
noncomputable def pY (n : Nat) : List Dv := (List.range n).map fun i => .int (i : Nat)
theorem zU {n : Nat} {M : Mh} {H : Hp} : aJ β M H ((List.range n).map fun i => V.int (i : Nat)) (pY n) := ⟨by simp [pY], fun i v d a b => by
  unfold pY at b
  rw [List.getElem?_map] at a b
  cases e : (List.range n)[i]? with
  | none => rw [e] at a; cases a
  | some c => rw [e] at a b; cases a; cases b; exact .int _⟩
noncomputable def zRangeP (p : aH) : aH := fun ρ M Q => p ρ M fun d M1 => match d with | .int j => -(2 ^ 24) ≤ j ∧ j ≤ 2 ^ 24 ∧ ∀ a, M1 a = none → Q (.ptr a) (az M1 a (.lst (pY j.toNat))) | _ => False
section
variable {e : Expr} {pe : aH} {p p1 p2 pos : Pos}
theorem ot (hc : X.calm = true) (hg : Gl X "list") (hm : X.mg "list" = none) (B4 : Gl X "range") (B5 : X.mg "range" = none) (he : QE Γ X e pe) (hs : starEach [e] X.env = [(false, eval e X.env)] := by rfl) :
    QE Γ X (.Call (.Name "list" p) [.Call (.Name "range" p1) [e] [] p2] [] pos) (zRangeP pe) := (pA hc hg hm B4 B5 he hs).imp fun σ H Q ⟨β, ρ, M, Q', zr, h, q⟩ => ⟨β, ρ, M, _, zr, h, fun d M1 v H1 x1 r1 h1 => by
  revert h1
  split
  · rename_i j
    rintro ⟨b1, b2, h1⟩
    refine ⟨_, aD r1, b1, b2, fun l hl => ?_⟩
    have x2 := Ex.own x1.mz (.inr hl) (zU (n := j.toNat) (β := β) (M := M1) (H := H1))
    exact q _ _ _ _ (x1.trans x2) (.ptr (by rw [updM_same]; rfl)) (h1 l (x1.mz.free hl))
  · exact fun h => h.elim⟩
noncomputable def zNeg (p : aH) : aH := fun ρ M Q => p ρ M fun d M1 => match d with | .int i => Q (.int (-i)) M1 | _ => False
theorem pZ (ha : QE Γ X e pe) : QE Γ X (.UnaryOp .USub e pos) (zNeg pe) := (Ep Bn ha).imp fun σ H Q ⟨β, ρ, M, Q', zr, h, q⟩ => ⟨β, ρ, M, _, zr, h, fun d M1 v H1 x1 r1 h1 => by
  revert h1
  split
  · intro h1
    exact ⟨_, aD r1, q _ _ _ _ x1 (.int _) h1⟩
  · exact fun h => h.elim⟩
end
theorem qv (i : Nat) {x : Str} {pos : Pos} (hN : X.N[i]? = some x := by rfl) (hv : rN X.env.scope x := by first | exact Or.inl rfl | exact Or.inr (Or.inl rfl) | exact Or.inr (Or.inr rfl)) (hd : (x == ("__debug__" : Str)) = false := by decide)
    (fP : (x == ("__classdict__" : Str)) = false := by decide) : QE Γ X (.Name x pos) (zVar i) := Ct hN hv hd fP
end
theorem Jm {c : Bool} {A B : Prop} (h : c = true) (a : A) : if c = true then A else B := by rw [if_pos h]; exact a
theorem Jn {c : Bool} {A B : Prop} (h : c = false) (b : B) : if c = true then A else B := by rw [h, if_neg Bool.false_ne_true]; exact b
theorem fY {c : Bool} {A B : Prop} (h1 : c = true → A) (h2 : c = false → B) : if c = true then A else B := by
  cases c
  · exact Jn rfl (h2 rfl)
  · exact Jm rfl (h1 rfl)
theorem j7 {g : b6} {te : aH} {M : Mh} (p : Dv → Bool) (I : ax → Prop) : ∀ {ds : List Dv} {τ : ax} {Q : Bool → Mh → Prop}, I τ → (∀ d ∈ ds, ∀ τ, I τ → ∀ R : ax → ZK, (∀ aw, I aw → R aw (.bl (p d)) M) → g d τ M fun aw M2 => te aw M2 (R aw)) → Q (ds.all p) M → ib g zNoIf te ds τ M Q
  | [], τ, Q, _, _, q => q
  | d :: ds, τ, Q, i, h, q => by
    refine h d List.mem_cons_self τ i (fun aw => zBool fun c M4 => if c = false then Q false M4 else ib g zNoIf te ds aw M4 Q) fun aw i2 => ?_
    show if p d = false then Q false M else ib g zNoIf te ds aw M Q
    cases e : p d with
    | false =>
      rw [if_pos rfl]
      rw [List.all_cons, e] at q
      exact q
    | true =>
      rw [if_neg (by decide)]
      rw [List.all_cons, e, Bool.true_and] at q
      exact j7 p I i2 (fun d' hd => h d' (List.mem_cons_of_mem _ hd)) q
theorem fD {g : b6} {te : aH} (f : Dv → Dv) (I : ax → Mh → Prop) : ∀ {ds : List Dv} {τ : ax} {M : Mh} {Q : List Dv → Mh → Prop}, I τ M → (∀ d ∈ ds, ∀ τ M, I τ M → ∀ R : ax → ZK, (∀ aw M2, I aw M2 → R aw (f d) M2) → g d τ M fun aw M2 => te aw M2 (R aw)) → (∀ τ M, I τ M → Q (ds.map f) M) → eS g zNoIf te ds τ M Q
  | [], τ, M, Q, i, _, q => q τ M i
  | d :: ds, τ, M, Q, i, h, q => by
    refine h d List.mem_cons_self τ M i (fun aw y M4 => eS g zNoIf te ds aw M4 fun ys M5 => Q (y :: ys) M5) fun aw M2 i2 => ?_
    exact fD f I i2 (fun d' hd => h d' (List.mem_cons_of_mem _ hd)) fun jN M3 i3 => q jN M3 i3
theorem mK {g : b6} {tt : cx} {te : aH} (t : Dv → Bool) (f : Dv → Dv) (I : ax → Mh → Prop) : ∀ {ds : List Dv} {τ : ax} {M : Mh} {Q : List Dv → Mh → Prop}, I τ M →
    (∀ d ∈ ds, ∀ τ M, I τ M → ∀ (R0 : ax → Mh → Prop) (R : ax → ZK), (t d = true → ∀ aw M2, I aw M2 → R aw (f d) M2) → (t d = false → ∀ aw M2, I aw M2 → R0 aw M2) → g d τ M fun aw M2 => tt aw M2 fun b M3 => if b = true then te aw M3 (R aw) else R0 aw M3) →
    (∀ τ M, I τ M → Q ((ds.filter t).map f) M) → eS g tt te ds τ M Q
  | [], τ, M, Q, i, _, q => q τ M i
  | d :: ds, τ, M, Q, i, h, q => by
    refine h d List.mem_cons_self τ M i (fun aw M3 => eS g tt te ds aw M3 Q) (fun aw y M4 => eS g tt te ds aw M4 fun ys M5 => Q (y :: ys) M5) (fun e aw M2 i2 => ?_) fun e aw M2 i2 => ?_
    · refine mK t f I i2 (fun d' hd => h d' (List.mem_cons_of_mem _ hd)) fun jN M3 i3 => ?_
      have := q jN M3 i3
      rw [List.filter_cons, if_pos e] at this
      exact this
    · refine mK t f I i2 (fun d' hd => h d' (List.mem_cons_of_mem _ hd)) fun jN M3 i3 => ?_
      have := q jN M3 i3
      rw [List.filter_cons, if_neg (by rw [e]; decide)] at this
      exact this
noncomputable abbrev eI (ns : List Int) : Dv := .tup (ns.map .int)
noncomputable abbrev eN (net : List (List Int)) : Dv := .tup (net.map eI)
noncomputable abbrev jk (ns : List Int) : Dv := .lst (ns.map .int)
theorem p0 : ∀ ns : List Int, fJ (ns.map Dv.int) = some (ns.map Dt.int)
  | [] => rfl
  | n :: ns => by simp only [List.map_cons, fJ, bw, p0 ns]
theorem E6 (ns : List Int) : bw (eI ns) = some (.tup (ns.map Dt.int)) := by simp only [eI, bw, p0, Option.map_some]
theorem so {α : Type} {f : α → Dv} {g : α → Dt} (h : ∀ x, bw (f x) = some (g x)) : ∀ xs : List α, fJ (xs.map f) = some (xs.map g)
  | [] => rfl
  | x :: xs => by simp only [List.map_cons, fJ, h x, so h xs]
noncomputable def yJ (net : List (List Int)) : Dt := .tup (net.map fun r => .tup (r.map Dt.int))
theorem yK (net : List (List Int)) : bw (eN net) = some (yJ net) := by
  simp only [eN, bw, so E6 net, Option.map_some, yJ]
theorem kW {n : Nat} : ∀ {ds : List Dt}, (∀ d ∈ ds, fu d ≤ n) → dP ds ≤ n
  | [], _ => by rw [dP]; exact Nat.zero_le _
  | d :: ds, h => by
    rw [dP]
    exact Nat.max_le.mpr ⟨h d List.mem_cons_self, kW fun d' hd => h d' (List.mem_cons_of_mem _ hd)⟩
theorem zV (ns : List Int) : dP (ns.map Dt.int) ≤ 0 := kW fun d hd => by
  obtain ⟨i, _, rfl⟩ := List.mem_map.mp hd
  exact Nat.le_refl _
theorem sq (net : List (List Int)) : fu (yJ net) ≤ 2 := by
  unfold yJ
  rw [fu]
  have : dP (net.map fun r => Dt.tup (r.map Dt.int)) ≤ 1 := kW fun d hd => by
    obtain ⟨r, _, rfl⟩ := List.mem_map.mp hd
    rw [fu]
    have := zV r
    omega
  omega
theorem fE {M : Mh} (ns : List Int) : ∀ d ∈ ns.map Dv.int, Pin M d := fun d hd => by
  obtain ⟨i, _, rfl⟩ := List.mem_map.mp hd
  exact .int i
theorem p7 {M : Mh} (ns : List Int) : Pin M (eI ns) := .tup (fE ns)
theorem jQ {M : Mh} (net : List (List Int)) : Pin M (eN net) := .tup fun d hd => by
  obtain ⟨r, _, rfl⟩ := List.mem_map.mp hd
  exact p7 r
theorem zW {α β : Type} {f : α → β} {xs : List α} {i : Int} {x : α} (h : bU xs i = some x) : bU (xs.map f) i = some (f x) := by
  unfold bU at h ⊢
  rw [List.length_map]
  cases e : ez xs.length i with
  | none => rw [e] at h; cases h
  | some j => rw [e] at h; simp only [Option.bind_some] at h ⊢; rw [List.getElem?_map, h]; rfl
theorem vt {α : Type} {xs : List α} {k : Nat} (h : k < xs.length) : bU xs ((k : Nat) : Int) = some xs[k] := da (List.getElem?_eq_getElem h)
noncomputable def spLaw (K : PySem.W.Frag) (tb : cM) : Sp := fun vs H Q _ => ∃ (a : Addr) (ns : List Int), vs = [.ref a] ∧ bH K H a (ns.map V.int) ∧ ns.length ≤ 63 ∧ yx tb.g H ∧ (∀ p ∈ tb.l, Lm H p) ∧ ∀ H', (∀ p ∈ tb.l, ∃ ps, H' p.1 = some (.lam ps)) → Q (.bl true) H'
noncomputable def CK : dh := fun ds M Q _ => ∃ ns : List Int, ds = [.a9 ns] ∧ ns.length ≤ 63 ∧ (∀ a, M a = none) ∧ ∀ M', Q (.bl true) M'
theorem CL {P : Program} {w : World} {K : PySem.W.Frag} {mg : Str → Option Value} {base : Heap} {k : Nat} {f : Addr} {fd : FuncData} {x : Str} {tb : cM} (G : FnOk P w K mg base bj k f fd [x] (aX P w K tb CK)) : FnOk P w K mg base bj k f fd [x] (spLaw K tb) :=
  G.imp fun vs H Q E ⟨a, ns, e, hS, hl, hT, hL, q⟩ => by
    subst e
    have m : Mz ⟨P, w, K, tb, []⟩ (fun _ => none) H := ⟨(fun a o e => nomatch e), hT, (fun a ha => absurd ha (by simp)), (fun a o e => nomatch e), hL⟩
    refine ⟨⟨P, w, K, tb, []⟩, [.a9 ns], fun _ => none, fun d _ => d = .bl true, fun _ _ => False, rfl, rfl, rfl, rfl, m, .cons ?_ .nil, ⟨ns, rfl, hl, fun _ => rfl, fun _ => rfl⟩, fun d M' v H' x r h => ?_, fun _ _ _ _ h => h.elim⟩
    · have fz : Fz ⟨P, w, K, tb, []⟩ (fun _ => none) a := ⟨rfl, by simp⟩
      rcases hS with (h | ⟨o, h⟩) | h
      · exact .cm fz h
      · exact .a9 fz h
      · exact .cn h
    · subst h
      rw [cC r]
      exact q H' fun p hp => let ⟨ps, e, _⟩ := x.mz.lams p hp; ⟨ps, e⟩
noncomputable def Keeps (M0 M : Mh) : Prop := ∀ a o, M0 a = some o → M a = some o
theorem Keeps.refl {M0 : Mh} : Keeps M0 M0 := fun _ _ h => h
theorem Keeps.upd {M0 M : Mh} {a : Addr} {o : Mo} (ha : M0 a = none) (h : Keeps M0 M) : Keeps M0 (az M a o) := fun b u e => by
  rw [ai (fun z => by rw [z, ha] at e; cases e)]
  exact h b u e
theorem nU {M0 M : Mh} {Q : ZK} {d : Dv} (h : Keeps M0 M) (p : Pin M0 d) (q : Q d M0) : i6 M0 Q d M := .inr ⟨h, d, .pin p, q⟩
theorem vv {M0 M : Mh} {Q : ZK} {a : Addr} {ds : List Dv} (h : Keeps M0 M) (h0 : M0 a = none) (ha : M a = some (.lst ds)) (p : ∀ d ∈ ds, Pin M0 d) (q : Q (.lst ds) M0) : i6 M0 Q (.ptr a) M := .inr ⟨h, .lst ds, .ptr h0 ha rfl fun i d d' e e' => by
  rw [e] at e'
  cases e'
  exact .pin (p d (List.mem_of_getElem? e)), q⟩
theorem cQ {lo : Int} {n i : Nat} {d : Dv} (h : (dD lo n)[i]? = some d) : d = .int (lo + (i : Nat)) ∧ i < n := by
  unfold dD at h
  rw [List.getElem?_map] at h
  cases e : (List.range n)[i]? with
  | none => rw [e] at h; cases h
  | some k =>
    rw [e] at h
    obtain ⟨h1, h2⟩ := List.getElem?_eq_some_iff.mp e
    rw [List.getElem_range] at h2
    subst h2
    exact ⟨(Option.some.inj h).symm, by simpa using h1⟩
theorem l0 {lo : Int} {n : Nat} {d : Dv} (h : d ∈ dD lo n) : ∃ i : Nat, i < n ∧ d = .int (lo + (i : Nat)) := by
  obtain ⟨i, hi⟩ := List.mem_iff_getElem?.mp h
  obtain ⟨e, l⟩ := cQ hi
  exact ⟨i, l, e⟩
theorem rangeD_len (lo : Int) (n : Nat) : (dD lo n).length = n := by simp [dD]
theorem atI_zero {α : Type} {x : α} {xs : List α} : bU (x :: xs) 0 = some x := da (j := 0) rfl
theorem qa {α : Type} {f : α → Dv} {xs : List α} {k : Nat} {d : Dv} (h : (xs.map f)[k]? = some d) : ∃ x, xs[k]? = some x ∧ d = f x := by
  rw [List.getElem?_map, Option.map_eq_some_iff] at h
  obtain ⟨x, h, e⟩ := h
  exact ⟨x, h, e.symm⟩
theorem zX (xs : List Dv) (lo hi : Option Int) : cutD xs lo hi = (xs.drop (HT.aK xs.length 0 lo)).take (HT.aK xs.length xs.length hi - HT.aK xs.length 0 lo) := rfl
end L2
namespace L2
open PySem PySem.Spec PyProof.Rows
noncomputable def qb (N : List Str) (sc scope : Scope) (N' : List Str) (tn : Nat) (idx : List Nat) : Prop :=
  scope.kind = .function ∧ (∀ y ∈ scope.names, (y.2 = .cell → scope.names.lookup y.1 = some .cell) ∧ (y.2 = .local → scope.names.lookup y.1 = some .local) ∧ (y.2 = .free → sc.names.lookup y.1 = some .cell ∨ sc.names.lookup y.1 = some .free)) ∧
    N'.length = tn + idx.length ∧ ∀ p ∈ idx.zip (N'.drop tn), N[p.1]? = some p.2 ∧ scope.names.lookup p.2 = some .free
instance (N : List Str) (sc scope : Scope) (N' : List Str) (tn : Nat) (idx : List Nat) : Decidable (qb N sc scope N' tn idx) := by unfold qb; infer_instance
end L2
namespace L2
open PySem PySem.Spec PySem.W PyProof.Rows
section
variable {X : Cx} {Γ : Gz} {β : Bz} {K : PySem.W.Frag}
noncomputable def zInI (neg : Bool) : c6 := fun d e M Q => match d, (itemsM M e).bind fK with | .int i, some ns => Q (.bl (if neg then !decide (i ∈ ns) else decide (i ∈ ns))) M | _, _ => False
theorem qd (i : Int) : ∀ ns : List Int, uH (.int i) (ns.map V.int) = decide (i ∈ ns)
  | [] => by simp [uH]
  | n :: ns => by
    have ih := qd i ns
    unfold uH at ih ⊢
    rw [List.map_cons, List.any_cons, ih]
    simp only [ly]
    by_cases h : n = i
    · subst h; simp
    · have h' : ¬ i = n := fun z => h z.symm
      simp [h, h']
theorem zY {neg : Bool} : lQ Γ (BJ K neg) (zInI neg) := fun β x y d e M H Q Q' _ _ _ m rx ry z q => by
  unfold zInI at z
  split at z
  · rename_i i ns iG
    obtain ⟨a, rfl, ha⟩ := vo m ry iG
    have ex := aD rx
    subst ex
    refine ⟨a, ns.map V.int, rfl, ha.imp bH.of bR.of, rfl, ?_, ?_⟩
    · rw [List.all_eq_true]
      intro v hv
      obtain ⟨n, _, rfl⟩ := List.mem_map.mp hv
      rfl
    · rw [qd]
      exact q _ _ _ _ (.refl m) (.bl _) z
  · exact z.elim
theorem qW (hK : X.K = K) : de Γ X (compareOp .NotIn) (zInI true) := ⟨_, om hK, zY⟩
theorem Pin.mono {M M' : Mh} {d : Dv} (h : Pin M d) : (∀ a, (M a).isSome = true → (M' a).isSome = true) → Pin M' d := by
  intro k
  induction h with
  | int i => exact .int i
  | bl b => exact .bl b
  | aj => exact .aj
  | str z => exact .str z
  | tup h ih => exact .tup ih
  | lst h ih => exact .lst ih
  | dk h ih => exact .dk ih
  | dt h ih => exact .dt ih
  | cB h ih => exact .cB ih
  | set ns => exact .set ns
  | ptr h => exact .ptr (k _ h)
  | exc C => exact .exc C
  | a9 ns => exact .a9 ns
  | raw v => exact .raw v
noncomputable def cF (M : Mh) (a : Addr) : Mh := fun b => if b = a then none else M b
theorem cR {M : Mh} {a : Addr} : cF M a a = none := by unfold cF; rw [if_pos rfl]
theorem bM {M : Mh} {a b : Addr} (h : b ≠ a) : cF M a b = M b := by unfold cF; rw [if_neg h]
structure CM (M1 M : Mh) (ρ : ax) : Prop where
  env : ∀ (i : Nat) (d : Dv), ρ[i]? = some (some d) → Pin M d
  obj : ∀ b o, M b = some o → M1 b = some o ∨ ∀ d ∈ o.items, Pin M d
theorem Zr.freeze {M : Mh} {ρ : ax} {σ : St} {H : Hp} {i : Nat} {a : Addr} {ds : List Dv} (z : Zr Γ β M ρ σ H) (hi : ρ[i]? = some (some (.ptr a))) (ha : M a = some (.lst ds)) (h0 : Γ.M0 a = none) (fr : CM Γ.M0 (cF M a) (ρ.set i (some (.lst ds)))) :
    Zr Γ β (cF M a) (ρ.set i (some (.lst ds))) σ H ∧ Ev β M H (cF M a) H := by
  have rz : ∀ {v : V} {d : Dv}, Rz β M H v d → Pin (cF M a) d → Rz β (cF M a) H v d := fun r p => r.j6 (M0 := cF M a) (fun b hb => by
    by_cases e : b = a
    · rw [e, cR] at hb; cases hb
    · rw [bM e] at hb; exact hb) p
  have rX : i < ρ.length := (List.getElem?_eq_some_iff.mp hi).1
  have Jo : ∀ d ∈ ds, Pin (cF M a) d := fun d hd => by
    have := fr.env i (.lst ds) (by rw [List.getElem?_set_self rX])
    cases this with | lst h => exact h d hd
  have obj : ∀ b es, cF M a b = some es → ∀ d ∈ es.items, Pin (cF M a) d := fun b es e d hd => by
    rcases fr.obj b es e with q | q
    · refine (z.wf b es q d hd).mono fun c hc => ?_
      have nc : c ≠ a := fun w => by rw [w, h0] at hc; cases hc
      rw [bM nc]
      exact z.ent.dom c hc
    · exact q d hd
  have mz : Mz β (cF M a) H := by
    refine ⟨fun b o e => ?_, z.mz.tabs, z.mz.hids, fun b o e => ?_, z.mz.lams⟩
    · have nb : b ≠ a := fun q => by rw [q, cR] at e; cases e
      have e' : M b = some o := by rw [bM nb] at e; exact e
      have q := z.mz.obj b o e'
      cases o with
      | lst es => obtain ⟨vs, hv, rs⟩ := q; exact ⟨vs, hv, rs.len, fun j v d x y => rz (rs.at' j v d x y) (obj b _ e d (List.mem_of_getElem? y))⟩
      | dk ks es => obtain ⟨vs, hv, hk, rs⟩ := q; exact ⟨vs, hv, hk, rs.len, fun j v d x y => rz (rs.at' j v d x y) (obj b _ e d (List.mem_of_getElem? y))⟩
      | dt ks es => obtain ⟨vs, hv, hk, rs⟩ := q; exact ⟨vs, hv, hk, rs.len, fun j v d x y => rz (rs.at' j v d x y) (obj b _ e d (List.mem_of_getElem? y))⟩
      | bV => exact q
    · have nb : b ≠ a := fun q => by rw [q, cR] at e; cases e
      rw [bM nb] at e
      exact z.mz.apart b o e
  refine ⟨⟨z.eP, z.ew, z.eK, z.et, z.sub, z.wf, ⟨z.ent.keep, fun b hb => ?_, fun b o m h => ?_⟩, mz, by simp [z.len], fun j d e => ?_⟩, ⟨fun b o _ h => .inl h, fun b o m h => ?_, mz⟩⟩
  · have nb : b ≠ a := fun q => by rw [q, h0] at hb; cases hb
    rw [bM nb]; exact z.ent.dom b hb
  · by_cases e : b = a
    · rw [e, cR]
    · rw [bM e]; exact z.ent.new b o m h
  · have p := fr.env j d e
    rw [List.getElem?_set] at e
    split at e
    · rename_i q
      subst q
      first
        | cases e
        | (rw [if_pos rX] at e; cases e)
      obtain ⟨v, hv, r⟩ := z.at' i _ hi
      obtain ⟨rfl, _⟩ := cw r
      obtain ⟨vs, hl, rs⟩ := z.mz.obj a _ ha
      refine ⟨_, hv, .lst ⟨cR, z.mz.apart a _ ha⟩ hl rs.len fun k v d x y => rz (rs.at' k v d x y) (Jo d (List.mem_of_getElem? y))⟩
    · obtain ⟨v, hv, r⟩ := z.at' j d e
      exact ⟨v, hv, rz r p⟩
  · by_cases e : b = a
    · rw [e, cR]
    · rw [bM e]; exact m
noncomputable def HH (i : Nat) (M0 : Mh) (p : bD) : bD := fun D ρ M => p D ρ M ∨ ∃ a ds, ρ[i]? = some (some (.ptr a)) ∧ M a = some (.lst ds) ∧ M0 a = none ∧ CM M0 (cF M a) (ρ.set i (some (.lst ds))) ∧ p D (ρ.set i (some (.lst ds))) (cF M a)
theorem vw (i : Nat) {M1 : Mh} {st : Stmt} {p : bD} (hM : Γ.M0 = M1) (h : QS Γ X st p) : QS Γ X st (HH i M1 p) := h.imp fun D σ H ⟨β, ρ, M, D', zr, h, r⟩ => by
  rcases h with h | ⟨a, ds, hi, ha, h0, fr, h⟩
  · exact ⟨β, ρ, M, D', zr, h, r⟩
  · obtain ⟨z2, e2⟩ := zr.freeze hi ha (by rw [hM]; exact h0) (by rw [hM]; exact fr)
    exact ⟨β, _, _, D', z2, h, r.step e2⟩
end
end L2
namespace L2
open PySem PySem.Spec PyProof.Rows
theorem vy {P : Program} {w : World} {K : PySem.W.Frag} {mg mb : Str → Option Value} {CX : iE} {k : Nat} {fa a : Addr} {fd : FuncData} {x : Str} {sp : Sp} {aq : Shared} {vs : List Value} {ns : List Int} {tabs lts : List Addr}
    (KX : K.In aq.heap) (iG : aq.heap.Ns mainGlobals mg) (hb : aq.heap.Ns builtinsNs mb) (Jp : ∀ x : Str, x ≠ "__name__" → mb x = bootBuiltins x) (CN : aq.heap.NoLimit) (hg : aq.gens = #[])
    (ha : aq.heap.get? a = some { cls := .type "list", data := .seq vs.toArray }) (hi : IntsAre vs ns) (hl : ns.length ≤ sizeLine) (hr : bu k callerA)
    (mL : ∀ p ∈ tabs ++ lts, aq.heap.get? p = some (PySem.W.tabObj #[]) ∧ isCodeTable aq.heap p) (HI : ∀ p ∈ tabs, p ∉ lts) (vz : PySem.W.kb_classed K = true) (cu : ∃ bm ob, BMod aq.heap mainGlobals mg bm ob)
    (F : ∀ base : Heap, K.In base → base.Ns mainGlobals mg → (∃ bm ob, BMod base mainGlobals mg bm ob) → (∀ c p, PySem.W.CodeHd aq.heap c p → PySem.W.CodeHd base c p) → FnOk P w K mg base CX k fa fd [x] sp)
    (E7 : ∀ (s : Shared) (u : Value), BindsTo s fd ⟨[u], []⟩ [(x, u)])
    (kg : ∀ H : Hp, (∀ p ∈ tabs, Tb p H) → (∀ p ∈ lts, H p = some (.lam #[])) → bH K H a (ns.map V.int) → sp [.ref a] H (fun v H' => v = .bl true ∧ ∀ p ∈ lts, ∃ ps, H' p = some (.lam ps)) fun _ _ _ => False)
    (CO : ∀ H e s', CX [] H aq (fun _ _ _ => False) e s' → False) :
    codeAny (model P w) callerA (.call (.ref fa) ⟨[.ref a], []⟩) (fun r s' => r = .ok (.ret (.bool true)) ∧ OldK aq.heap s'.heap ∧ s'.os = aq.os ∧ AllBare s'.gens) aq := by
  have rv := nD hi
  have HJ := hi.length
  have pB : a ∉ tabs ++ lts := fun z => by
    have e := (mL a z).1
    rw [ha] at e
    cases e
  have core : ∀ H : Hp, (∀ b u, H b = some u → (b = a ∧ ∃ o xs, u = .ef o (.lst xs)) ∨ (b ∈ tabs ++ lts ∧ (u = .b0 #[] ∧ b ∈ tabs ∨ u = .lam #[] ∧ b ∈ lts))) → (∀ p ∈ tabs, H p = some (.b0 #[])) → (∀ p ∈ lts, H p = some (.lam #[])) → bH K H a (ns.map V.int) → c9 P w H aq.heap → (H a ≠ none → K.lookup a = none) →
      codeAny (model P w) callerA (.call (.ref fa) ⟨[.ref a], []⟩) (fun r s' => r = .ok (.ret (.bool true)) ∧ OldK aq.heap s'.heap ∧ s'.os = aq.os ∧ AllBare s'.gens) aq := by
    intro H hO Jq Jr hS hok hK
    have j8 : ∀ {b : Addr} {o : Obj}, aq.heap.get? b = some o → H b = none → (gI aq.heap H).get? b = some o := fun e n => wk e n
    have no : ∀ {b : Addr} {o : Obj}, aq.heap.get? b = some o → (∀ n, o.data ≠ .seq vs.toArray n) → o ≠ PySem.W.tabObj #[] → H b = none := fun {b o} e d1 d2 => by
      cases q : H b with
      | none => rfl
      | some u =>
        rcases hO b u q with ⟨e', _⟩ | ⟨nP, _⟩
        · subst e'
          rw [ha] at e; cases e
          exact absurd rfl (d1 _)
        · rw [(mL b nP).1] at e
          exact absurd (Option.some.inj e).symm d2
    have Js : ∀ {b : Addr} {o : Obj} {es : Array DictEntry} {ep : Nat}, aq.heap.get? b = some o → o.data = .dict es ep → H b = none := fun {b o es ep} e d => no e (fun n z => by rw [d] at z; cases z) fun z => by rw [z] at d; cases d
    have vA : ∀ {b : Addr} {m : Str → Option Value}, aq.heap.Ns b m → (gI aq.heap H).Ns b m := fun {b m} hS => by obtain ⟨o, es, ep, e, d, r⟩ := hS; exact ⟨o, es, ep, j8 e (Js e d), d, r⟩
    have Gr : K.In (gI aq.heap H) := fun b o e => j8 (KX b o e) (by
      cases q : H b with
      | none => rfl
      | some u =>
        rcases hO b u q with ⟨e', _⟩ | ⟨nP, _⟩
        · subst e'
          rw [hK (by rw [q]; simp)] at e; cases e
        · have e1 := KX b o e
          have e2 := (mL b nP).1
          rw [e1] at e2
          have e3 : o = PySem.W.tabObj #[] := Option.some.inj e2
          have q2 := List.all_eq_true.mp vz (b, o) (PySem.W.kb_mem e)
          simp only [Bool.or_eq_true, decide_eq_true_eq, beq_iff_eq] at q2
          rcases q2 with (q2 | q2) | q2
          · rw [e3] at q2; exact absurd rfl q2
          · obtain ⟨mc, ⟨oc, es, ep, ho, hd, _⟩, _⟩ := CN
            rw [← q2, e1] at ho
            cases ho
            rw [e3] at hd; cases hd
          · obtain ⟨oc, es, ep, ho, hd, _⟩ := id iG
            rw [← q2, e1] at ho
            cases ho
            rw [e3] at hd; cases hd)
    have hM : Mod K mg (gI aq.heap H) := ⟨Gr, vA iG, ⟨mb, vA hb, Jp⟩, let ⟨mc, h1, h2⟩ := CN; ⟨mc, vA h1, h2⟩⟩
    have hB : ∃ bm ob, BMod (gI aq.heap H) mainGlobals mg bm ob := by
      obtain ⟨bm, ob, B⟩ := cu
      exact ⟨bm, ob, vA B.ns, B.name, B.ne, j8 B.obj (no B.obj (fun n z => by rw [B.data] at z; cases z) fun z => by have := B.data; rw [z] at this; cases this), B.cls, B.dict, B.data⟩
    have hC : ∀ c p, PySem.W.CodeHd aq.heap c p → PySem.W.CodeHd (gI aq.heap H) c p := fun c p ⟨o, u6, file, tf, flags, tg, CP, text, tt, e1, e2, e3, r⟩ =>
      ⟨o, u6, file, tf, flags, tg, CP, text, tt, j8 e1 (no e1 (fun n z => by rw [e3] at z; cases z) fun z => by rw [z] at e2; cases e2), e2, e3, r⟩
    have e0 : sI P w K mg (gI aq.heap H) callerA [] aq H := ⟨rfl, hM, fun b o e => y4 e, Nat.le_of_eq (t7 _ _), trivial, fun b hb => absurd (show b ∈ ([] : List Addr) from hb) (by simp), hok, .of_eq hg⟩
    refine codeAny_mono ((F _ Gr (vA iG) hB hC).run callerA [] aq H ⟨[.ref a], []⟩ [.ref a] [.ref a] _ _ hr e0 (E7 aq (.ref a)) (.cons rfl .nil) (kg H (fun p hp => ⟨#[], Jq p hp, trivial⟩) Jr hS)) fun r s' h => ?_
    cases r with
    | error e => exact (CO H e s' h).elim
    | ok fl =>
      cases fl with
      | next => exact False.elim h
      | brk => exact False.elim h
      | cont => exact False.elim h
      | ret u =>
        obtain ⟨v, H', os, bare, un, xr, r', q⟩ := h
        obtain ⟨q', qL⟩ := q
        subst q'
        obtain rfl : u = Value.bool true := r'
        have all : ∀ b o, aq.heap.get? b = some o → asItWas aq.heap s'.heap b o ∧ ∃ o', s'.heap.get? b = some o' := fun b o e => by
          cases q : H b with
          | none =>
            have := un.keep b o e q (by intro z; exact absurd (show b ∈ ([] : List Addr) from z) (by simp)) (by simp)
            exact ⟨.inl this, _, this⟩
          | some u =>
            rcases hO b u q with ⟨_, ob, xs, z⟩ | ⟨nP, z⟩
            · subst z
              have z2 := un.frzs b ob _ q
              obtain ⟨e1, _⟩ := hok b _ q
              obtain ⟨e2, _⟩ := xr b _ z2
              rw [e] at e1; cases e1
              exact ⟨.inl e2, _, e2⟩
            · have e2 : ∃ more, s'.heap.get? b = some { cls := .none, data := .fields (#[] ++ more) } := by
                rcases z with ⟨z, _⟩ | ⟨z, Jt⟩
                · subst z
                  obtain ⟨more, z2⟩ := un.tbls b #[] q
                  exact ⟨more, xr b _ z2⟩
                · obtain ⟨ps, z2⟩ := qL b Jt
                  refine ⟨ps, ?_⟩
                  have := xr b _ z2
                  rw [show (#[] : Array Value) ++ ps = ps by simp]
                  exact this
              obtain ⟨more, e2⟩ := e2
              have e1 := (mL b nP).1
              rw [e] at e1
              obtain rfl : o = PySem.W.tabObj #[] := Option.some.inj e1
              exact ⟨.inr (.inl ⟨(mL b nP).2, rfl, #[], more, rfl, e2⟩), _, e2⟩
        exact ⟨rfl, ⟨fun b o e => (all b o e).1, fun b o e => (all b o e).2⟩, os, bare.1⟩
  have CQ : ∀ p ∈ tabs ++ lts, ∀ H : Hp, ∀ u, (u = .b0 #[] ∧ p ∈ tabs ∨ u = .lam #[] ∧ p ∈ lts) → bg P w H aq.heap p u := fun p hp H u hu => by
    rcases hu with ⟨rfl, _⟩ | ⟨rfl, _⟩ <;> exact (mL p hp).1
  let T : Hp := fun b => if b ∈ lts then some (.lam #[]) else if b ∈ tabs then some (.b0 #[]) else none
  have T1 : ∀ b u, T b = some u → b ∈ tabs ++ lts ∧ (u = .b0 #[] ∧ b ∈ tabs ∨ u = .lam #[] ∧ b ∈ lts) := fun b u z => by
    by_cases h1 : b ∈ lts
    · have z' := (show T b = _ from if_pos h1).symm.trans z
      cases z'
      exact ⟨List.mem_append_right _ h1, .inr ⟨rfl, h1⟩⟩
    · by_cases h2 : b ∈ tabs
      · have z' := (show T b = _ from (if_neg h1).trans (if_pos h2)).symm.trans z
        cases z'
        exact ⟨List.mem_append_left _ h2, .inl ⟨rfl, h2⟩⟩
      · have z' := (show T b = _ from (if_neg h1).trans (if_neg h2)).symm.trans z
        cases z'
  have T2 : ∀ p ∈ tabs, T p = some (.b0 #[]) := fun p hp => (if_neg (HI p hp)).trans (if_pos hp)
  have T3 : ∀ p ∈ lts, T p = some (.lam #[]) := fun p hp => if_pos hp
  have Ta : T a = none := (if_neg fun z => pB (List.mem_append_right _ z)).trans (if_neg fun z => pB (List.mem_append_left _ z))
  cases hk : K.lookup a with
  | some o =>
    have e := KX a o hk
    rw [ha] at e
    cases e
    exact core T (fun b u z => .inr (T1 b u z)) T2 T3 (.inr ⟨_, vs.toArray, _, hk, rfl, rfl, rfl, by rw [List.size_toArray, HJ]; exact hl, by simpa using rv⟩) (fun b u z => CQ b (T1 b u z).1 _ u (T1 b u z).2) fun z => absurd Ta z
  | none =>
    have na : ∀ p ∈ tabs ++ lts, p ≠ a := fun p hp z => pB (z ▸ hp)
    refine core (upd T a (.ef { cls := .type "list", data := .seq vs.toArray } (.lst (ns.map V.int)))) (fun b u z => ?_) (fun p hp => by rw [ao (na p (List.mem_append_left _ hp))]; exact T2 p hp) (fun p hp => by rw [ao (na p (List.mem_append_right _ hp))]; exact T3 p hp) (.inl (.inr ⟨_, aB⟩)) (fun b u z => ?_) fun _ => hk
    · by_cases hb : b = a
      · subst hb
        rw [aB] at z
        cases z
        exact .inl ⟨rfl, _, _, rfl⟩
      · rw [ao hb] at z
        exact .inr (T1 b u z)
    · by_cases hb : b = a
      · subst hb
        rw [aB] at z
        cases z
        exact ⟨ha, by rw [List.length_map]; exact hl, vs, _, rv, ha⟩
      · rw [ao hb] at z
        exact CQ b (T1 b u z).1 _ u (T1 b u z).2
noncomputable def oN (K : PySem.W.Frag) (x : Str) : Option Addr := match PySem.W.nsIn K mainGlobals x with
  | some (some (.ref f)) => (match K.lookup f with
    | some ⟨_, _, .func fd, _⟩ => (match fd.code with
      | .ref c => (match K.lookup c with
        | some ⟨_, _, .fields vs, _⟩ => (match vs[11]? with | some (Value.ref p) => some p | _ => none)
        | _ => none)
      | _ => none)
    | _ => none)
  | _ => none
noncomputable abbrev TabOf (mg : Str → Option Value) (h : Heap) (y : Str) (p : Addr) : Prop := ∃ f o fd c, mg y = some (.ref f) ∧ h.get? f = some o ∧ o.data = .func fd ∧ fd.code = .ref c ∧ PySem.W.CodeHd h c p
theorem qf {K : PySem.W.Frag} {mg : Str → Option Value} {h : Heap} {y : Str} {p q : Addr} (X : K.In h) (G : h.Ns mainGlobals mg) (t : TabOf mg h y p) (e : oN K y = some q) : p = q := by
  obtain ⟨f, o, fd, c, e1, e2, e3, e4, oc, vs, _, _, _, _, _, _, _, g1, _, g3, g4, _⟩ := t
  unfold oN at e
  split at e
  · rename_i f' iG
    have := (PySem.W.mg_of X G iG).symm.trans e1
    cases this
    split at e
    · rename_i Kp Kq IH FQ Ju
      have := (X _ _ Ju).symm.trans e2
      cases this
      cases e3
      rw [e4] at e
      dsimp only at e
      split at e
      · rename_i a1 a2 u6 a3 Jv
        have := (X _ _ Jv).symm.trans g1
        cases this
        cases g3
        rw [g4] at e
        cases e
        rfl
      · cases e
    · cases e
  · cases e
noncomputable def mM (K : PySem.W.Frag) (gs ls : List Str) : Bool := gs.all fun x => ls.all fun y => match oN K x, oN K y with | some p, some q => decide (p ≠ q) | _, _ => false
theorem sr {α β : Type} {F : α → β → Prop} {l : List α} {m : List β} (h : Paired F l m) {b : β} (hb : b ∈ m) : ∃ a ∈ l, F a b := by
  induction h with
  | nil => simp at hb
  | cons x t ih =>
    rcases List.mem_cons.mp hb with e | e
    · subst e; exact ⟨_, List.mem_cons_self, x⟩
    · obtain ⟨a, ha, q⟩ := ih e
      exact ⟨a, List.mem_cons_of_mem _ ha, q⟩
theorem xt {K : PySem.W.Frag} {mg : Str → Option Value} {h : Heap} {gs ls : List Str} {tabs lts : List Addr} (X : K.In h) (G : h.Ns mainGlobals mg) (d : mM K gs ls = true) (t1 : Paired (TabOf mg h) gs tabs) (t2 : Paired (TabOf mg h) ls lts) : ∀ p ∈ tabs, p ∉ lts := fun p hp hq => by
  obtain ⟨x, hx, tx⟩ := sr t1 hp
  obtain ⟨y, hy, ty⟩ := sr t2 hq
  have := List.all_eq_true.mp (List.all_eq_true.mp d x hx) y hy
  split at this
  · rename_i p' q' e1 e2
    have a := qf X G tx e1
    have b := qf X G ty e2
    exact (of_decide_eq_true this) (a.symm.trans b)
  · cases this
theorem xu {l : PySem.W.OpenLaw} {n k : Nat} {q : Program} {loose : List Str} {XP : (Str → Option Value) → Heap → Prop} {YP : World → Heap → Prop} {d : DefRec} {K : Params → PySem.W.Frag} {CX : iE} {sp : PySem.W.Frag → List Addr → List Addr → Sp} {x : Str} {jh vB : List Str}
    (hn : l.most = some n) (yL : n ≤ sizeLine) (uL : d.params.defaults = []) (hr : bu k callerA) (vz : ∀ w : World, PySem.W.kb_classed (K w.params) = true)
    (yM : ∀ y ∈ jh ++ vB, ∃ r ∈ recsOf q, r.name = y) (CT : ∀ w : World, mM (K w.params) jh vB = true)
    (hY : ∀ (w : World) (h : Heap), YP w h → (K w.params).In h)
    (F : ∀ (w : World) (mg : Str → Option Value) (fa : Addr) (h : Heap) (tabs lts : List Addr), (K w.params).In h → h.Ns mainGlobals mg → mg d.name = some (.ref fa) →
      Paired (TabOf mg h) jh tabs → Paired (TabOf mg h) vB lts →
      ∃ fd : FuncData, (∀ (s : Shared) (u : Value), BindsTo s fd ⟨[u], []⟩ [(x, u)]) ∧
        ∀ base : Heap, (K w.params).In base → base.Ns mainGlobals mg → (∃ bm ob, BMod base mainGlobals mg bm ob) → (∀ c p, PySem.W.CodeHd h c p → PySem.W.CodeHd base c p) → FnOk l.prog w (K w.params) mg base CX k fa fd [x] (sp (K w.params) tabs lts))
    (kg : ∀ (K : PySem.W.Frag) (tabs lts : List Addr) (H : Hp) (a : Addr) (ns : List Int), lts.length = vB.length → ns.length ≤ n → (∀ p ∈ tabs, Tb p H) → (∀ p ∈ lts, H p = some (.lam #[])) → bH K H a (ns.map V.int) → sp K tabs lts [.ref a] H (fun v H' => v = .bl true ∧ ∀ p ∈ lts, ∃ ps, H' p = some (.lam ps)) fun _ _ _ => False)
    (CO : ∀ (H : Hp) (s : Shared) (e : Value) (s' : Shared), CX [] H s (fun _ _ _ => False) e s' → False) :
    PySem.W.WalkO q loose XP YP l.row.toRowW d [] (fun f vs => PySem.call f vs) := by
  refine F2.qP hn uL fun w s₀ aq mg mb fa o pm cd doc a vs ns G Y ho hd fP uM wO hints hlen hg => ?_
  have KX := hY w _ Y
  have tb : ∀ jh : List Str, (∀ y ∈ jh, ∃ r ∈ recsOf q, r.name = y) → ∃ tabs, Paired (TabOf mg aq.heap) jh tabs ∧ ∀ p ∈ tabs, aq.heap.get? p = some (PySem.W.tabObj #[]) ∧ isCodeTable aq.heap p := by
    intro jh
    induction jh with
    | nil => intro _; exact ⟨[], .nil, fun p hp => absurd hp (by simp)⟩
    | cons y r ih =>
      intro hm
      obtain ⟨tabs, h1, h2⟩ := ih fun z hz => hm z (List.mem_cons_of_mem _ hz)
      obtain ⟨rr, Jw, e⟩ := hm y List.mem_cons_self
      obtain ⟨f, o', fd, c, p, a1, a2, a3, a4, a5, a6⟩ := G.T.tab rr Jw
      rw [e] at a1
      refine ⟨p :: tabs, .cons ⟨f, o', fd, c, a1, a2, a3, a4, .of a5 a6⟩ h1, fun z hz => ?_⟩
      rcases List.mem_cons.mp hz with rfl | hz
      · exact ⟨a6.2, a6.isCodeTable⟩
      · exact h2 z hz
  obtain ⟨tabs, t1, t2⟩ := tb jh fun y hy => yM y (List.mem_append_left _ hy)
  obtain ⟨lts, u1, u2⟩ := tb vB fun y hy => yM y (List.mem_append_right _ hy)
  obtain ⟨fd, hb, hF⟩ := F w mg fa _ tabs lts KX G.T.g uM t1 u1
  exact vy (lts := lts) KX G.T.g G.T.b G.T.builtins G.T.nolimit hg wO hints (Nat.le_trans hlen yL) hr (fun p hp => (List.mem_append.mp hp).elim (t2 p) (u2 p)) (xt KX G.T.g (CT w) t1 u1) (vz w) (PySem.W.bmod_of_top G.T) hF hb (fun H hO hL hS => kg _ tabs lts H a ns (Paired.length u1).symm hlen hO hL hS) fun H e s' => CO H aq e s'
theorem xx {K : PySem.W.Frag} {tabs lts : List Addr} {qs : List Str} {H : Hp} {a : Addr} {ns : List Int} (hl : lts.length = qs.length) (hn : ns.length ≤ 63) (hT : ∀ p ∈ tabs, Tb p H) (hL : ∀ p ∈ lts, H p = some (.lam #[])) (hS : bH K H a (ns.map V.int)) :
    spLaw K ⟨tabs, lts.zip qs⟩ [.ref a] H (fun v H' => v = .bl true ∧ ∀ p ∈ lts, ∃ ps, H' p = some (.lam ps)) fun _ _ _ => False :=
  ⟨a, ns, rfl, hS, hn, hT, fun p hp => ⟨#[], hL p.1 (List.of_mem_zip hp).1, trivial, fun pos cv e => nomatch e⟩, fun H' h => ⟨rfl, fun p hp => by
    obtain ⟨i, hi⟩ := List.mem_iff_getElem?.mp hp
    have h1 := (List.getElem?_eq_some_iff.mp hi).1
    exact h (p, qs[i]) (List.mem_of_getElem? (i := i) (List.getElem?_zip_eq_some.mpr ⟨hi, List.getElem?_eq_getElem (by omega)⟩))⟩⟩
end L2
namespace L2
open PySem PySem.Spec PySem.W PyProof.Rows
theorem xA : fillsNumberSlot (.type "tuple") "mul" = pure false :=
  PySem.fillsNumberSlot_seq (r := some (.builtin "tuple.__rmul__")) F.slot_tuple_mul.lookup (by decide +kernel) F.slot_tuple_rmul.lookup (by decide +kernel)
theorem E8 : seqRepeat? (.type "tuple") = pure (some (.builtin "tuple.__mul__")) := by
  unfold seqRepeat?
  rw [PySem.seqSlot_of (T := "tuple") (name := "__mul__") (id := "tuple.__mul__") F.slot_tuple_mul.lookup (by decide +kernel), PySem.seqSlot_of (T := "tuple") (name := "__rmul__") (id := "tuple.__rmul__") F.slot_tuple_rmul.lookup (by decide +kernel)]
  rfl
theorem E9 (a : Int) (t : Tok) (l : Addr) (items : Array Value) (n : Nat) (sl : Array (Option Value)) :
    Meets (Builtin.«int.__rmul__» ⟨[.int a t, .ref l], []⟩) (fun _ R s => s.heap.get? l = some { cls := .type "tuple", dict := none, data := .seq items n, slots := sl } ∧ R (.ok (.ret Value.notImplemented)) s) :=
  .of_wp fun prog w A R s h => by obtain ⟨hp, g, d, tk, os⟩ := s; obtain ⟨hl, h⟩ := h; wp_walk; exact ⟨_, rfl, h⟩
theorem nV (its : List Value) (m : Nat) : List.foldl (fun x1 x2 => x1 ++ x2) #[] (List.replicate m its.toArray) = (List.replicate m its).flatten.toArray := by
  have := foldl_rep its m []
  rw [List.nil_append] at this
  exact this
theorem HK (l : Addr) (its : List Value) (n : Nat) (sl : Array (Option Value)) (x : Int) (u : Tok) (h1 : 2 ≤ x) (h2 : x < 1000) (jx : its ≠ []) (hz : its.length * x.toNat ≤ 10000) :
    Meets (Builtin.«tuple.__mul__» ⟨[.ref l, .int x u], []⟩) (fun _ R s => s.heap.get? l = some { cls := .type "tuple", dict := none, data := .seq its.toArray n, slots := sl } ∧
      R (.ok (.ret (Value.ref s.heap.objs.size))) { s with heap := s.heap.push { cls := Value.type "tuple", data := Data.seq (List.replicate x.toNat its).flatten.toArray }, toks := s.toks }) :=
  .of_wp fun prog w A R s h => by
    obtain ⟨hp, g, d, tk, os⟩ := s; obtain ⟨hl, h⟩ := h
    have f1 := PySem.AutoSeq1.idx_int
    have hs : its.toArray.size = its.length := by simp
    have yL : its.toArray.isEmpty = false := by cases its with | nil => exact absurd rfl jx | cons a b => rfl
    have e : ((its.length * x.toNat : Nat) : Int) = (its.toArray.size : Int) * x := by rw [hs, Int.natCast_mul, Int.toNat_of_nonneg (by omega)]
    have c0 : ¬ (decide (x < -(2 ^ 63)) || decide (x ≥ 2 ^ 63)) = true := by simp; omega
    have c1 : ¬ (its.toArray.isEmpty || x == 1) = true := by rw [yL]; simp; omega
    have c2 : ¬ (decide (x ≤ 0) || its.toArray.isEmpty) = true := by rw [yL]; simp; omega
    have c3 : ¬ (its.toArray.size : Int) * x > (2 ^ 63 - 1) / 8 := by rw [← e]; omega
    have c4 : ¬ Builtin.Tuple.tupleTooMany ((its.toArray.size : Int) * x) = true := by rw [← e]; unfold Builtin.Tuple.tupleTooMany; simp only [decide_eq_true_eq, show sizeLine = 16777216 from rfl]; omega
    have c5 : ¬ (List.foldl (fun x1 x2 => x1 ++ x2) #[] (List.replicate x.toNat its.toArray)).size > sizeLine := by
      rw [nV, List.size_toArray, len_rep, Nat.mul_comm, show sizeLine = 16777216 from rfl]; omega
    wp_walk using wpAny_loadPart' hl
    rw [if_neg c0]
    wp_walk using wpAny_loadPart' hl
    rw [if_neg c1]
    wp_walk using wpAny_loadPart' hl
    rw [if_neg c2]
    wp_walk using wpAny_loadPart' hl
    rw [if_neg c3]
    wp_walk using wpAny_loadPart' hl
    rw [if_neg c4]
    wp_walk using wpAny_loadPart' hl
    rw [nV]
    exact ⟨_, rfl, h⟩
section
variable {X : Cx} {Γ : Gz} {K : PySem.W.Frag}
noncomputable def Fb : R2 := fun x y H Q => ∃ l k xs, x = .ref l ∧ y = .int k ∧ H l = some (.tup xs) ∧ xs ≠ [] ∧ 2 ≤ k ∧ k < 1000 ∧ xs.length * k.toNat ≤ 10000 ∧ ∀ p, H p = none → Q (.ref p) (upd H p (.tup (List.replicate k.toNat xs).flatten))
theorem zZ : OpR X (binaryOp .Mult) Fb := by
  intro pins s σ H x y v u Q I rx ry h
  obtain ⟨l, k, xs, rfl, rfl, hH, jx, h1, h2, hz, q⟩ := h
  cases rx
  obtain ⟨t, rfl⟩ := ry
  obtain ⟨z, its, r, o, e, c, n, d, hd⟩ := I.hok l _ hH
  obtain ⟨oc, od, Ka, g8⟩ := o
  simp only at c d hd
  subst c d hd
  have hl := r.length
  refine wpAny_binaryOp_repeat_ref (T := "tuple") (U := "int") (by decide) ⟨_, e, rfl⟩ (fun s' => typeIs_int s' k t) xA F.fills_int_mul F.slot_int_rmul E8 F.slot_int_index.lookup
    (call_meets F.slot_int_rmul (typeIs_int s k t) F.entry_int_rmul (F.args_int_rmul_2 _ _) (E9 k t l its.toArray n g8)
      ⟨e, rfl, ⟨_, e, rfl⟩, call_meets F.slot_tuple_mul ⟨_, e, rfl⟩ F.entry_tuple_mul (F.args_tuple_mul_2 _ _) (HK l its n g8 k t h1 h2 (fun w => jx (r.iF.mp w)) (by rw [← hl]; exact hz)) ⟨e, ?_⟩⟩)
  refine ⟨.ref s.heap.objs.size, _, I.laid (t' := s.toks) (o := .tup (List.replicate k.toNat xs).flatten) (fun b ob q => Heap.get?_push_of_some _ q) (Nat.le_refl _) ?_, rfl, q _ (I.hok.fresh (Nat.le_refl _))⟩
  exact ⟨by rw [len_rep, Nat.mul_comm, show sizeLine = 16777216 from rfl]; omega, _, r.rep k.toNat, fv.new _ _⟩
noncomputable def zRepT : c6 := fun d e M Q => match d, e with | .tup ds, .int k => (ds ≠ [] ∧ 2 ≤ k ∧ k < 1000 ∧ ds.length * k.toNat ≤ 10000) ∧ Q (.tup (List.replicate k.toNat ds).flatten) M | _, _ => False
theorem aJ.rep {β : Bz} {M : Mh} {H : Hp} {vs : List V} {ds : List Dv} (r : aJ β M H vs ds) : ∀ k : Nat, aJ β M H (List.replicate k vs).flatten (List.replicate k ds).flatten
  | 0 => ⟨rfl, fun i v d h => by simp at h⟩
  | k + 1 => by rw [List.replicate_succ, List.replicate_succ, List.flatten_cons, List.flatten_cons]; exact r.append (aJ.rep r k)
theorem CU : de Γ X (binaryOp .Mult) zRepT := ⟨_, zZ, fun β x y d e M H Q Q' _ _ _ m rx ry z q => by
  unfold zRepT at z
  split at z
  · rename_i ds k
    obtain ⟨a, vs, rfl, f, ha, rs⟩ := cN rx
    obtain ⟨⟨z0, z1, z2, z3⟩, z4⟩ := z
    refine ⟨a, _, vs, rfl, aD ry, ha, fun w => z0 (by have := rs.len; rw [w] at this; exact List.eq_nil_of_length_eq_zero this.symm), z1, z2, by rw [rs.len]; exact z3, fun p hp => ?_⟩
    have x2 := Ex.lay m hp (.tup (List.replicate k.toNat vs).flatten)
    exact q _ _ _ _ x2 (eB (m.fz hp) aB ((rs.rep _).ex x2)) z4
  · exact z.elim⟩
noncomputable def zRepL : c6 := fun d e M Q => match d, e with | .lst ds, .int k => (-(2 ^ 63) ≤ k ∧ k < 2 ^ 63 ∧ ds.length * k.toNat ≤ sizeLine) ∧ Q (.lst (List.replicate k.toNat ds).flatten) M | _, _ => False
theorem Fc : de Γ X (binaryOp .Mult) zRepL := ⟨_, uI, fun β x y d e M H Q Q' _ _ _ m rx ry z q => by
  unfold zRepL at z
  split at z
  · rename_i ds k
    obtain ⟨a, vs, rfl, f, ha, rs⟩ := dq rx
    obtain ⟨⟨z1, z2, z3⟩, z4⟩ := z
    refine ⟨a, _, vs, rfl, aD ry, ha, z1, z2, by rw [rs.len]; exact z3, fun p hp => ?_⟩
    have x2 := Ex.lay m hp (.lst (List.replicate k.toNat vs).flatten)
    exact q _ _ _ _ x2 (iI (m.fz hp) aB ((rs.rep _).ex x2)) z4
  · exact z.elim⟩
noncomputable def zCatLD : c6 := fun d e M Q => match d, e with | .lst ds, .lst es => ds.length + es.length ≤ sizeLine ∧ Q (.lst (ds ++ es)) M | _, _ => False
theorem CV (hK : X.K = K) : de Γ X (binaryOp .Add) zCatLD := ⟨_, BP, fun β x y d e M H Q Q' _ _ _ m rx ry z q => by
  unfold zCatLD at z
  split at z
  · obtain ⟨a, vs, rfl, f, ha, rs⟩ := dq rx
    obtain ⟨b, us, rfl, f2, hb, c7⟩ := dq ry
    refine ⟨a, b, vs, us, rfl, rfl, ha, hb, by rw [rs.len, c7.len]; exact z.1, fun p hp => ?_⟩
    have x2 := Ex.lay m hp (.lst (vs ++ us))
    exact q _ _ _ _ x2 (iI (m.fz hp) aB ((rs.append c7).ex x2)) z.2
  · exact z.elim⟩
open Classical in
end
end L2
namespace L2
open PySem PySem.Spec PyProof.Rows
theorem i7 {g : b6} {te : aH} (J : List Dv → ax → Mh → Prop) : ∀ {ds acc : List Dv} {τ : ax} {M : Mh} {Q : List Dv → Mh → Prop}, J acc τ M →
    (∀ i d gP τ M, ds[i]? = some d → gP.length = acc.length + i → J gP τ M → ∀ R : ax → ZK, (∀ y aw M2, J (gP ++ [y]) aw M2 → R aw y M2) → g d τ M fun aw M2 => te aw M2 (R aw)) →
    (∀ ys τ M, ys.length = ds.length → J (acc ++ ys) τ M → Q ys M) → eS g zNoIf te ds τ M Q
  | [], acc, τ, M, Q, j, _, q => q [] τ M rfl (by rw [List.append_nil]; exact j)
  | d :: ds, acc, τ, M, Q, j, h, q => by
    refine h 0 d acc τ M rfl rfl j (fun aw y M4 => eS g zNoIf te ds aw M4 fun ys M5 => Q (y :: ys) M5) fun y aw M2 j2 => ?_
    refine i7 J (acc := acc ++ [y]) j2 (fun i d' gP bK M' e1 e2 j' R hR => ?_) fun ys jN M3 e3 j3 => ?_
    · exact h (i + 1) d' gP bK M' e1 (by rw [e2, List.length_append]; simp; omega) j' R hR
    · exact q (y :: ys) jN M3 (by simp [e3]) (by rw [List.append_assoc] at j3; exact j3)
theorem yN {a1 r : bD} {D : eG} {ρ : ax} {M : Mh} (I : ax → Mh → Prop) (h1 : ∀ N : ax → Mh → Prop, (∀ ρ M, I ρ M → N ρ M) → a1 { D with nx := N } ρ M) (h2 : ∀ ρ M, I ρ M → r D ρ M) : (zSeq a1 r) D ρ M := h1 _ h2
theorem Fd {a1 a2 r : bD} {D : eG} {ρ : ax} {M : Mh} (I : ax → Mh → Prop) (h1 : ∀ N : ax → Mh → Prop, (∀ ρ M, I ρ M → N ρ M) → (zSeq a1 a2) { D with nx := N } ρ M) (h2 : ∀ ρ M, I ρ M → r D ρ M) : (zSeq a1 (zSeq a2 r)) D ρ M := h1 _ h2
theorem Fe {a1 a2 a3 r : bD} {D : eG} {ρ : ax} {M : Mh} (I : ax → Mh → Prop) (h1 : ∀ N : ax → Mh → Prop, (∀ ρ M, I ρ M → N ρ M) → (zSeq a1 (zSeq a2 a3)) { D with nx := N } ρ M) (h2 : ∀ ρ M, I ρ M → r D ρ M) : (zSeq a1 (zSeq a2 (zSeq a3 r))) D ρ M := h1 _ h2
theorem yO {a1 a2 a3 a4 r : bD} {D : eG} {ρ : ax} {M : Mh} (I : ax → Mh → Prop) (h1 : ∀ N : ax → Mh → Prop, (∀ ρ M, I ρ M → N ρ M) → (zSeq a1 (zSeq a2 (zSeq a3 a4))) { D with nx := N } ρ M) (h2 : ∀ ρ M, I ρ M → r D ρ M) : (zSeq a1 (zSeq a2 (zSeq a3 (zSeq a4 r)))) D ρ M := h1 _ h2
theorem Ff {a1 a2 a3 a4 a5 r : bD} {D : eG} {ρ : ax} {M : Mh} (I : ax → Mh → Prop) (h1 : ∀ N : ax → Mh → Prop, (∀ ρ M, I ρ M → N ρ M) → (zSeq a1 (zSeq a2 (zSeq a3 (zSeq a4 a5)))) { D with nx := N } ρ M) (h2 : ∀ ρ M, I ρ M → r D ρ M) : (zSeq a1 (zSeq a2 (zSeq a3 (zSeq a4 (zSeq a5 r))))) D ρ M := h1 _ h2
section
variable {β : Bz} {M M' : Mh} {H H' : Hp} {a : Addr} {o o' o2 ku : Mo}
theorem Rz.dom (hd : ∀ a, (M a).isSome = (M' a).isSome) {v : V} {d : Dv} (r : Rz β M H v d) : Rz β M' H v d :=
  r.j6 (M0 := M') (fun a h => by rw [hd a]; exact h) (r.pin.mono fun a h => by rw [← hd a]; exact h)
theorem gk.dom (hd : ∀ a, (M a).isSome = (M' a).isSome) (h : gk β M H a o) : gk β M' H a o := by
  cases o with
  | lst ds => obtain ⟨vs, h1, rs⟩ := h; exact ⟨vs, h1, rs.len, fun i v d x y => (rs.at' i v d x y).dom hd⟩
  | bV => exact h
  | dk ks ds => obtain ⟨vs, h1, h2, rs⟩ := h; exact ⟨vs, h1, h2, rs.len, fun i v d x y => (rs.at' i v d x y).dom hd⟩
  | dt ks ds => obtain ⟨vs, h1, h2, rs⟩ := h; exact ⟨vs, h1, h2, rs.len, fun i v d x y => (rs.at' i v d x y).dom hd⟩
theorem gE (M : Mh) (a : Addr) (o o2 : Mo) (b : Addr) : (az M a o b).isSome = (az M a o2 b).isSome := by
  by_cases e : b = a
  · subst e; rw [updM_same, updM_same]; rfl
  · rw [ai e, ai e]
theorem ig {b : Addr} (o2 : Mo) (h : az M a o b = none) : az M a o2 b = none := by
  by_cases e : b = a
  · subst e; rw [updM_same] at h; cases h
  · rw [ai e] at h ⊢; exact h
theorem Mz.chg (m : Mz β (az M a o) H) (h2 : gk β (az M a o2) H a o2) : Mz β (az M a o2) H := by
  refine ⟨fun b u e => ?_, m.tabs, m.hids, fun b u e => ?_, m.lams⟩
  · by_cases z : b = a
    · subst z; rw [updM_same] at e; cases e; exact h2
    · rw [ai z] at e
      exact gk.dom (gE M a o o2) (m.obj b u (by rw [ai z]; exact e))
  · by_cases z : b = a
    · subst z; exact m.apart b o updM_same
    · rw [ai z] at e
      exact m.apart b u (by rw [ai z]; exact e)
theorem su (h : M a = some o) : az M a o = M := by
  funext b
  by_cases e : b = a
  · subst e; rw [updM_same, h]
  · rw [ai e]
theorem Ex.chg (x : Ex β (az M a o) H (az M a o') H') (h2 : gk β (az M a ku) H' a ku) : Ex β (az M a o2) H (az M a ku) H' :=
  ⟨⟨fun b u h e => x.keep b u (ig o h) e, fun b h => by rw [gE M a ku o']; exact x.dom b (by rw [gE M a o o2]; exact h), fun b u h e => ig ku (x.new b u (ig o h) e)⟩, x.mz.chg h2⟩
theorem Ex.sealed (hn : M a = none) (x : Ex β M H (az M a o') H') (h2 : gk β (az M a ku) H' a ku) : Ex β M H (az M a ku) H' :=
  ⟨⟨x.keep, fun b h => by rw [gE M a ku o']; exact x.dom b h, fun b u h e => ig ku (x.new b u h e)⟩, x.mz.chg h2⟩
theorem vC {c m : Int} (z : Mz β (az M a (.lst [.int c, .int m])) H) (hc : 0 ≤ c) (hm : 0 ≤ m) : gk β (az M a .bV) H a .bV := by
  obtain ⟨vs, h, rs⟩ := z.obj a _ updM_same
  refine ⟨c, m, ?_, hc, hm⟩
  have := kU (ns := [c, m]) rs
  rw [h, this]
  rfl
theorem CW (z : Mz β (az M a .bV) H) : ∃ c m : Int, 0 ≤ c ∧ 0 ≤ m ∧ gk β (az M a (.lst [.int c, .int m])) H a (.lst [.int c, .int m]) := by
  obtain ⟨c, m, h, hc, hm⟩ := z.obj a _ updM_same
  exact ⟨c, m, hc, hm, _, h, pV (ns := [c, m])⟩
end
section
variable {X : Cx} {Γ : Gz} {K : PySem.W.Frag}
noncomputable def zIxS : c6 := fun d e M Q => match d, e with | .a9 ns, .int i => (match bU ns i with | some x => Q (.int x) M | none => False) | _, _ => False
theorem yP (hK : X.K = K) (hG : K = Γ.K) : CC Γ X zIxS := ⟨_, rW hK, fun β x y d e M H Q Q' _ _ eK m rx ry z q => by
  unfold zIxS at z
  split at z
  · rename_i ns i
    split at z
    · rename_i v hv
      obtain ⟨a, rfl, hS⟩ := nQ rx
      rw [eK, ← hG] at hS
      exact .inl ⟨a, _, i, .int v, rfl, aD ry, hS, zW hv, q _ _ _ _ (.refl m) (.int _) z⟩
    · exact z.elim
  · exact z.elim⟩
end
noncomputable def Jx (k : Nat) : Str := ⟨#[97 + k]⟩
section
variable {κ : Type} [DecidableEq κ]
noncomputable def HL (step : κ → Nat → κ) (met : κ) (w : Str) (st : List κ × List Str) (a : Nat) : List κ × List Str := if step met a ∈ st.1 then st else (st.1 ++ [step met a], st.2 ++ [w ++ Jx a])
noncomputable def visit (step : κ → Nat → κ) (met : κ) (w : Str) (n : Nat) (st : List κ × List Str) : List κ × List Str := (List.range n).foldl (HL step met w) st
noncomputable def Gs (step : κ → Nat → κ) (n most : Nat) : Nat → Nat → List κ × List Str → List κ × List Str
  | 0, _, st => st
  | fuel + 1, i, st => match st.1[i]?, st.2[i]? with
    | some met, some w => if st.1.length ≤ most then Gs step n most fuel (i + 1) (visit step met w n st) else st
    | _, _ => st
noncomputable def met (step : κ → Nat → κ) (n most N : Nat) (s : κ) : List κ × List Str := Gs step n most (N + 1) 0 ([s], [""])
end
section
variable {X : Cx} {Γ : Gz}
noncomputable def zRepP : c6 := fun d e M Q => match d, e with | .lst ds, .int k => (-(2 ^ 63) ≤ k ∧ k < 2 ^ 63 ∧ ds.length * k.toNat ≤ sizeLine) ∧ ∀ a, M a = none → Q (.ptr a) (az M a (.lst (List.replicate k.toNat ds).flatten)) | _, _ => False
theorem CY : de Γ X (binaryOp .Mult) zRepP := ⟨_, uI, fun β x y d e M H Q Q' _ _ _ m rx ry z q => by
  unfold zRepP at z
  split at z
  · rename_i ds k
    obtain ⟨a, vs, rfl, f, ha, rs⟩ := dq rx
    obtain ⟨⟨z1, z2, z3⟩, z4⟩ := z
    refine ⟨a, _, vs, rfl, aD ry, ha, z1, z2, by rw [rs.len]; exact z3, fun p hp => ?_⟩
    have x2 := Ex.own m (.inr hp) (rs.rep k.toNat)
    exact q _ _ _ _ x2 (.ptr (by rw [updM_same]; rfl)) (z4 p (m.free hp))
  · exact z.elim⟩
end
end L2
namespace L2
open PySem PySem.Spec PySem.W PyProof.Rows
section
variable {X : Cx}
theorem nW : ∀ {ts : List Str} {us : List Value}, Vals (ts.map V.str) us → ∃ l : List (Str × Tok), us = PySem.strValues l ∧ l.map (·.1) = ts
  | [], _, .nil => ⟨[], rfl, rfl⟩
  | t :: ts, _, .cons r rs => by
    obtain ⟨k, rfl⟩ := r
    obtain ⟨l, rfl, e⟩ := nW rs
    exact ⟨(t, k) :: l, rfl, by rw [List.map_cons, e]⟩
theorem nX : ∀ (l : List (Str × Tok)), Vals ((l.map (·.1)).map V.str) (PySem.strValues l)
  | [] => .nil
  | (_, k) :: l => .cons ⟨k, rfl⟩ (nX l)
noncomputable def CZ : V → List V → Hp → VK → Prop := fun x vs H Q => ∃ a p ts, x = .str a ∧ vs = [.ref p] ∧ H p = some (.lst (ts.map V.str)) ∧ JoinOk a ts = true ∧ Q (.str (Txt.join a ts)) H
theorem xB : uE X "str.join" CZ := by
  intro pins s σ H x vs v us Q I rx rv h
  obtain ⟨a, p, ts, rfl, rfl, hp, ho, q⟩ := h
  obtain ⟨t, rfl⟩ := rx
  obtain ⟨u, rfl, ru⟩ := rv.one
  cases ru
  obtain ⟨its, ri, pl, _⟩ := I.list (.inl (.inl hp))
  obtain ⟨l, rfl, hl⟩ := nW ri
  exact SC.join pl.isList hl ho fun t' k => ⟨.str (Txt.join a ts), H, I.tok _, ⟨_, rfl⟩, q⟩
noncomputable def z5 : V → List V → Hp → VK → Prop := fun x vs H Q => ∃ a b, x = .str a ∧ vs = [.str b] ∧ (b.length == 0) = false ∧ a.length ≤ sizeLine ∧ (Builtin.Str.partsBetween a (Builtin.Str.occurrences a b 0 a.length (a.length + 1)) b.length).length ≤ sizeLine ∧ ∀ l, H l = none → Q (.ref l) (upd H l (.lst ((Txt.split a b).map V.str)))
theorem vD : uE X "str.split" z5 := by
  intro pins s σ H x vs v us Q I rx rv h
  obtain ⟨a, b, rfl, rfl, hb, hs, Gu, q⟩ := h
  obtain ⟨t, rfl⟩ := rx
  obtain ⟨u, rfl, ru⟩ := rv.one
  obtain ⟨t', rfl⟩ := ru
  have one : ∀ (l : List (Str × Tok)) tk, l.length ≤ sizeLine → l.map (·.1) = Txt.split a b → EP X pins σ Q (.ref s.heap.objs.size) { s with toks := tk, heap := s.heap.push { cls := .type "list", data := .seq (PySem.strValues l).toArray } } := fun l tk hl e => by
    have ob : bg X.prog X.w (upd H s.heap.objs.size (.lst ((Txt.split a b).map V.str))) (s.heap.push { cls := .type "list", data := .seq (PySem.strValues l).toArray }) s.heap.objs.size (.lst ((Txt.split a b).map V.str)) :=
      ⟨by rw [List.length_map, ← e, List.length_map]; exact hl, _, 0, by rw [← e]; exact nX l, Heap.get?_push_size _ rfl⟩
    exact ⟨.ref s.heap.objs.size, _, I.laid (t' := tk) (fun c o hc => Heap.get?_push_of_some _ hc) (Nat.le_refl _) ob, rfl, q _ (I.hok.fresh (Nat.le_refl _))⟩
  have C1 : (1 : Nat) ≤ sizeLine := by rw [sizeLine_eq]; decide
  cases c1 : (decide (a.length < b.length) || decide (Builtin.Str.strKind a < Builtin.Str.strKind b)) with
  | true =>
    refine call_meets F.slot_str_split (typeIs_str _ _ _) F.entry_str_split (F.args_str_split_2 _ _) (meets_str_split_cannot_occur a b t t' c1) ?_
    exact one [(a, t)] _ C1 (if_pos c1).symm
  | false =>
    cases c2 : (Builtin.Str.occurrences a b 0 a.length (a.length + 1)).isEmpty with
    | true =>
      refine call_meets F.slot_str_split (typeIs_str _ _ _) F.entry_str_split (F.args_str_split_2 _ _) (meets_str_split_not_found a b t t' c1 hb c2) ?_
      exact one [(a, t)] _ C1 ((if_neg (by rw [c1]; exact Bool.false_ne_true)).trans (if_pos c2)).symm
    | false =>
      refine call_meets F.slot_str_split (typeIs_str _ _ _) F.entry_str_split (F.args_str_split_2 _ _) (meets_str_split_sep a b t t' c1 hb c2 hs Gu) ?_
      have e := numbered_texts s.toks (Builtin.Str.partsBetween a (Builtin.Str.occurrences a b 0 a.length (a.length + 1)) b.length)
      show EP X pins σ Q (.ref s.heap.objs.size) { s with toks := _, heap := s.heap.push { cls := .type "list", data := .seq (strsFrom s.toks (Builtin.Str.partsBetween a (Builtin.Str.occurrences a b 0 a.length (a.length + 1)) b.length)).toArray } }
      rw [strsFrom_eq]
      exact one _ _ (by have := congrArg List.length e; rw [List.length_map] at this; rw [this]; exact Gu) (e.trans ((if_neg (by rw [c1]; exact Bool.false_ne_true)).trans (if_neg (by rw [c2]; exact Bool.false_ne_true))).symm)
noncomputable def Fg : List V → Hp → VK → Prop := fun xs H Q => ∃ x n, xs = [.str x] ∧ PySem.intText? x = some n ∧ x.length ≤ 640 ∧ Q (.int n) H
theorem vE : cJ X (.type "int") Fg := by
  intro pins s σ H xs us Q I r h
  obtain ⟨x, n, rfl, hx, hl, q⟩ := h
  obtain ⟨u, rfl, t, rfl⟩ := vals1 r
  exact KIN.call_text hx hl ⟨.int n, H, I.tok _, ⟨_, rfl⟩, q⟩
noncomputable def Fh : List V → Hp → VK → Prop := fun xs H Q => ∃ n : Int, xs = [.int n] ∧ n.natAbs.log2 < 1920 ∧ Q (.str (Str.ofString (toString n))) H
theorem vF : cJ X (.type "str") Fh := by
  intro pins s σ H xs us Q I r h
  obtain ⟨n, rfl, hn, q⟩ := h
  obtain ⟨u, rfl, t, rfl⟩ := vals1 r
  exact P.str_of_int hn ⟨.str _, H, I.tok _, ⟨_, rfl⟩, q⟩
end
noncomputable def fk : List Dv → Option (List Str)
  | [] => some []
  | .str x :: ds => (fk ds).map (x :: ·)
  | _ :: _ => none
theorem gv : ∀ ts : List Str, fk (ts.map Dv.str) = some ts
  | [] => rfl
  | t :: ts => by simp [fk, gv ts]
theorem jR : ∀ {ds : List Dv} {ts : List Str}, fk ds = some ts → ds = ts.map Dv.str
  | [], ts, h => by simp only [fk, Option.some.injEq] at h; subst h; rfl
  | d :: ds, ts, h => by
    cases d with
    | str x =>
      simp only [fk, Option.map_eq_some_iff] at h
      obtain ⟨Kr, h, rfl⟩ := h
      rw [jR h]
      rfl
    | _ => simp [fk] at h
section
variable {β : Bz} {Γ : Gz} {X : Cx} {K : PySem.W.Frag}
theorem kX {M : Mh} {H : Hp} : ∀ {vs : List V} {ts : List Str}, aJ β M H vs (ts.map Dv.str) → vs = ts.map V.str
  | [], [], _ => rfl
  | [], _ :: _, r => absurd r.len (by simp)
  | _ :: _, [], r => absurd r.len (by simp)
  | v :: vs, t :: ts, r => by
    rw [List.map_cons] at r
    rw [List.map_cons, a7 r.head, kX r.tail]
theorem qg {M : Mh} {H : Hp} : ∀ {ts : List Str}, aJ β M H (ts.map V.str) (ts.map Dv.str)
  | [] => .nil
  | t :: ts => .cons (.str _) qg
noncomputable def iN (M : Mh) : Dv → Option (List Str)
  | .lst ds => fk ds
  | .ptr a => match M a with | some (.lst ds) => fk ds | _ => none
  | _ => none
theorem vG {M : Mh} {H : Hp} {x : V} {d : Dv} {ts : List Str} (m : Mz β M H) (r : Rz β M H x d) (h : iN M d = some ts) : ∃ p, x = .ref p ∧ H p = some (.lst (ts.map V.str)) := by
  unfold iN at h
  split at h
  · obtain ⟨a, vs, rfl, _, ha, rs⟩ := dq r
    have := jR h
    subst this
    rw [kX rs] at ha
    exact ⟨a, rfl, ha⟩
  · rename_i a
    split at h
    · rename_i ds he
      have := jR h
      subst this
      cases r with
      | ptr _ =>
        obtain ⟨vs, hv, rs⟩ := m.obj a _ he
        rw [kX rs] at hv
        exact ⟨a, rfl, hv⟩
    · cases h
  · cases h
noncomputable def zJoinS : nT := fun d ds M Q => match d, ds with | .str a, [e] => (match iN M e with | some ts => JoinOk a ts = true ∧ Q (.str (Txt.join a ts)) M | none => False) | _, _ => False
theorem mO : vp Γ X "str" "str.join" K zJoinS := ⟨_, xB, fun β x xs d ds M H Q Q' _ _ _ m r rs z q => by
  unfold zJoinS at z
  split at z
  · split at z
    · rename_i ts Jy
      obtain ⟨v, e2, rv⟩ := dg rs
      subst e2
      obtain ⟨p, rfl, hp⟩ := vG m rv Jy
      exact ⟨_, p, ts, a7 r, rfl, hp, z.1, q _ _ _ _ (.refl m) (.str _) z.2⟩
    · exact z.elim
  · exact z.elim⟩
noncomputable def zSplitS : nT := fun d ds M Q => match d, ds with | .str a, [.str b] => (b.length == 0) = false ∧ a.length ≤ sizeLine ∧ (Builtin.Str.partsBetween a (Builtin.Str.occurrences a b 0 a.length (a.length + 1)) b.length).length ≤ sizeLine ∧ Q (.lst ((Txt.split a b).map Dv.str)) M | _, _ => False
theorem xC : vp Γ X "str" "str.split" K zSplitS := ⟨_, vD, fun β x xs d ds M H Q Q' _ _ _ m r rs z q => by
  unfold zSplitS at z
  split at z
  · rename_i a b
    obtain ⟨v, e2, rv⟩ := dg rs
    subst e2
    refine ⟨a, b, a7 r, by rw [a7 rv], z.1, z.2.1, z.2.2.1, fun l hl => ?_⟩
    have x2 := Ex.lay m hl (.lst ((Txt.split a b).map V.str))
    exact q _ _ _ _ x2 (iI (m.fz hl) aB qg) z.2.2.2
  · exact z.elim⟩
noncomputable def zIntS (d : Dv) (M : Mh) (Q : ZK) : Prop := match d with | .str x => (match PySem.intText? x with | some n => x.length ≤ 640 ∧ Q (.int n) M | none => False) | _ => False
theorem C2 : eH Γ X (.type "int") (z1 zIntS) := ⟨_, vE, fun β xs ds M H Q Q' _ _ _ m rs z q => by
  unfold z1 at z
  split at z
  · rename_i d
    obtain ⟨x, rfl, r⟩ := dg rs
    unfold zIntS at z
    split at z
    · split at z
      · rename_i n hn
        exact ⟨_, n, by rw [a7 r], hn, z.1, q _ _ _ _ (.refl m) (.int _) z.2⟩
      · exact z.elim
    · exact z.elim
  · exact z.elim⟩
noncomputable def zStrI (d : Dv) (M : Mh) (Q : ZK) : Prop := match d with | .int n => n.natAbs.log2 < 1920 ∧ Q (.str (Str.ofString (toString n))) M | _ => False
theorem C3 : eH Γ X (.type "str") (z1 zStrI) := ⟨_, vF, fun β xs ds M H Q Q' _ _ _ m rs z q => by
  unfold z1 at z
  split at z
  · rename_i d
    obtain ⟨x, rfl, r⟩ := dg rs
    unfold zStrI at z
    split at z
    · exact ⟨_, by rw [aD r], z.1, q _ _ _ _ (.refl m) (.str _) z.2⟩
    · exact z.elim
  · exact z.elim⟩
end
end L2
namespace L2
open PySem PySem.Spec PyProof.Rows
theorem xD {prog : Program} {w : World} {A : Around} {a : Addr} {R' : Result → Shared → Prop} (In : Nat → Shared → Prop)
    (turn : ∀ n s, In n s → wpAny (model prog w) A.in1 (pyNext (.ref a)) (fun r s1 => match r with
      | none => R' (.ok (.ret (.bool false))) s1
      | some v => ∃ c, v = .bool c ∧ if c = false then ∃ m, m < n ∧ In m s1 else R' (.ok (.ret (.bool true))) s1) (fun e s' => R' (.error e) s') s) :
    ∀ (n : Nat) (s : Shared), In n s → codeAny (model prog w) A (.builtin "any.loop" ⟨[.ref a], []⟩) R' s := by
  intro n
  induction n using Nat.strongRecOn with
  | ind n ih =>
    intro s h
    refine codeAny_builtin F.entry_any_loop ?_
    rw [Around.under_plainId F.plain_any_loop _]
    show wpAny _ A.in1 (pyNext (.ref a) >>= _) _ _ s
    refine wpAny_bind (wpAny_mono (turn n s h) (fun r s1 q => ?_) fun _ _ z => z)
    cases r with
    | none => exact wpAny_bind (wpAny_rule (wpAny_pure q))
    | some v =>
      obtain ⟨c, e, q⟩ := q
      subst e
      refine wpAny_bind (wpAny_holding (wpAny_truthy_bool ?_))
      refine wpAny_bind (wpAny_letGo ?_)
      cases c with
      | true =>
        rw [if_neg (by decide)] at q
        exact wpAny_bind (wpAny_rule (wpAny_pure q))
      | false =>
        rw [if_pos rfl] at q
        obtain ⟨m, hm, hI⟩ := q
        exact wpAny_pure ⟨plainId_quiet F.plain_any_loop _, ih m hm s1 hI⟩
section
variable {X : Cx} {tg elt iter : Expr} {ifs : List Expr} {scope : Scope} {pos : Pos} {N' : List Str} {tn : Nat} {idx : List Nat} {wi : TI} {g : TG} {tt : TT} {te : TE} {c P : Addr} {k : Nat}
noncomputable def C4 (P : Addr) (tn : Nat) (idx : List Nat) (wi : TI) (g : TG) (tt : TT) (te : TE) : TE := fun σ H Q => uO P wi (fun J H1 => ∃ W : Nat → Nat → St → Hp → Prop, (∃ m, W 0 m (bA tn idx σ) H1) ∧ wR J g tt te true (fun b H2 => Q (.bl b) H2) W) σ H
theorem C5 {p eo : Pos} (hr : bu (k + 1) X.A) (hc : X.calm = true) (B : aG X.N X.env.scope scope N' tn idx)
    (h0 : scope.names.lookup (".0" : Str) = some .local) (ft : scope.isCoroutine = false) (dW : X.env.code = .ref c) (hd : PySem.W.CodeHd X.base c P) (cu : ∃ bm ob, BMod X.base mainGlobals X.mg bm ob)
    (jB : Gl X "any") (hm : X.mg "any" = none) (hi : PI X tg iter wi) (hg : cg X N' scope k fun Y => PG Y tg g) (ht : cg X N' scope k fun Y => gj Y ifs tt) (he : cg X N' scope k fun Y => PE Y elt te)
    (hs : ∀ x, genFold iter X.env x = pure x := by intro _; rfl) : PE X (.Call (.Name "any" p) [cf elt tg iter ifs scope eo] [] pos) (C4 P tn idx wi g tt te) := by
  refine ⟨?_⟩
  intro pins s σ H Q I h
  refine wpAny_Call_Name_kw (e7 I jB hm PyProof.Rows.boot_any ?_)
  refine PyProof.Rows.callWith_builtin1 ?_ rfl rfl
  show wpAny _ _ (spliced ((false, eval (cf elt tg iter ifs scope eo) X.env) :: [])) _ _ s
  refine Calls.spliced_cons (kN hr hc B h0 ft dW hd cu hi hs I h ?_)
  intro J H3 a s5 Y it fp bJ gn pp G ⟨W, ⟨m0, w0⟩, turn⟩
  refine Calls.spliced_nil ?_
  refine call_function_tree F.kind_any F.plain_any F.entry_any (F.args_any1 _) ?_
  unfold Builtin.«any»
  refine wpAny_bind (m := oneArg "any" _) (wpAny_pure ?_)
  refine wpAny_bind (wpAny_pyIter_gen (G.isg G.inv) ?_)
  refine wpAny_pure ⟨plainId_quiet F.plain_any_loop _, ?_⟩
  have kO := pq (A2 := X.A.in4.in1) (pp := pp) (R := fun n s₀ r aq => r = .ok .next ∧ ∃ τ H, Inv Y pp τ H aq ∧ Q (.bl false) H)
    (Yp := fun n s₀ v s eX => ∃ c τ H, v = .bool c ∧ Inv Y pp τ H s ∧ (c = true → Q (.bl true) H) ∧ (c ≠ true → ∀ aP, fc s aP → eX (.send .none) aP)) G.A G.xe G.calm G.co G.T (G.blk _ hg) (G.blk _ ht) (G.blk _ he) G.stat turn
    (fun n s₀ aq τ H J z => ⟨rfl, τ, H, J, z⟩) (fun n s₀ s eX c τ H J z1 z2 => ⟨c, τ, H, rfl, J, z1, z2⟩)
  have hP := G.prog
  have hW := G.w
  rw [hP, hW] at kO
  refine xD (A := X.A) (fun n s => (∃ τ H, Inv Y pp τ H s) ∧ ∃ gs, s.gens[gn]? = some gs ∧ ∀ aP, fc s aP → gs.Goes (model X.prog X.w) X.A.in4.in1 (fun n s₀ r aq => r = .ok .next ∧ ∃ τ H, Inv Y pp τ H aq ∧ Q (.bl false) H)
    (fun n s₀ v s eX => ∃ c τ H, v = .bool c ∧ Inv Y pp τ H s ∧ (c = true → Q (.bl true) H) ∧ (c ≠ true → ∀ aP, fc s aP → eX (.send .none) aP)) n (.send .none) aP) ?_ (m0 + 1) s5 ?_
  · rintro n s6 ⟨⟨τ, H6, I6⟩, gs, uP, jy⟩
    have Hu := G.gsz I6
    refine wpAny_of_in1 (wpAny_of_in1 (wpAny_of_in1 ?_))
    show wpAny (model X.prog X.w) X.A.in4 (pyNext (.ref a)) _ _ s6
    refine wpAny_pyNext_genexpQ (A := X.A.in4) (P := fun n s₀ aq => ∃ τ H, Inv Y pp τ H aq ∧ Q (.bl false) H) hr.hd I6.nolimit hr.depth (G.isg I6) uP (jy _ ⟨rfl, rfl, cK I6.bare rfl⟩) (fun v s1 nJ hb hv => ?_) (fun s1 hp h' hk => ?_)
    · obtain ⟨c, lK, H1, e, I1, z1, z2⟩ := hv
      subst e
      refine ⟨c, rfl, ?_⟩
      have jC : fc s1 (s1.setGen gn nJ) := ⟨rfl, rfl, cK I1.bare hb⟩
      cases c with
      | true =>
        rw [if_neg (by decide)]
        exact ⟨.bl true, H1, G.out (I1.fw jC), rfl, z1 rfl⟩
      | false =>
        rw [if_pos rfl]
        have z3 := z2 (by decide)
        cases n with
        | zero => exact (z3 s1 ⟨rfl, rfl, I1.bare.self⟩).elim
        | succ m =>
          refine ⟨m, Nat.lt_succ_self _, ⟨lK, H1, I1.fw jC⟩, nJ, jz (G.gsz I1), fun aP o => z3 aP ⟨o.1, o.2.1, ?_⟩⟩
          exact jC.2.2.trans o.2.2
    · obtain ⟨lK, H1, I1, z1⟩ := hp
      have I2 := I1.kept (t' := s1.toks) hk
      have uQ : fc { s1 with heap := h' } { s1.setGen gn .finished with heap := h' } := ⟨rfl, rfl, cK (s := s1) I1.bare rfl⟩
      exact ⟨.bl false, H1, G.out (I2.fw uQ), rfl, z1⟩
  · refine ⟨⟨_, _, G.inv⟩, _, G.st, fun aP o => ⟨rfl, ?_⟩⟩
    have I7 := G.inv.fw o
    have nK : bJ 0 aP.heap := by rw [o.1]; exact G.tn0
    have q := jA (iter := iter) (ifs := ifs) (scope := scope) (pos := eo) (elt := elt) G.T nK (by rw [hP, hW]; exact kO m0 (m0 + 1) 0 _ _ aP aP (Nat.lt_succ_self _) w0 I7 nK G.fr)
    rw [hP, hW] at q
    exact q
end
section
variable {X : Cx} {Γ : Gz} {β : Bz} {zi : eC} {g : b6} {tt : cx} {te : aH} {tn : Nat} {idx : List Nat}
noncomputable def i9 (g : b6) (tt : cx) (te : aH) : List Dv → ax → Mh → (Bool → Mh → Prop) → Prop
  | [], _, M, Q => Q false M
  | d :: ds, τ, M, Q => g d τ M fun aw M2 => tt aw M2 fun b M3 => if b = true then te aw M3 (zBool fun c M4 => if c = true then Q true M4 else i9 g tt te ds aw M4 Q) else i9 g tt te ds aw M3 Q
noncomputable def zAny (tn : Nat) (idx : List Nat) (zi : eC) (g : b6) (tt : cx) (te : aH) : aH := fun ρ M Q => zi ρ M fun ds M1 => i9 g tt te ds (zBlock tn idx ρ) M1 fun b M2 => Q (.bl b) M2
theorem Fi {P : Addr} (hP : P ∈ Γ.tb) {σ : St} {H : Hp} {Q : VK} (h : lE Γ (zAny tn idx zi g tt te) σ H Q) : C4 P tn idx (lI Γ zi) (lG Γ g) (lT Γ tt) (lE Γ te) σ H Q := by
  obtain ⟨β, ρ, M, Q', zr, h, q⟩ := h
  refine xl hP zr h fun ds M1 H1 J x1 it h1 => ?_
  have gm := zr.step x1
  refine ⟨fun i m τ H' => m = ds.length - i ∧ i ≤ ds.length ∧ ∃ bK M', Ex β M1 H1 M' H' ∧ Zr Γ β M' bK τ H' ∧ i9 g tt te (ds.drop i) bK M' fun b M2 => Q' (.bl b) M2, ⟨_, rfl, Nat.zero_le _, _, M1, .refl x1.mz, gm.block tn idx, h1⟩, ?_⟩
  rintro i m τ H' ⟨rfl, hi, bK, M', x', fi, h'⟩
  have qq := it β M' H' .refl x'.toEy x'.mz i
  by_cases cP : i < ds.length
  · refine .inr ⟨(qq.1 cP).1, fun x jK y => ?_⟩
    obtain ⟨x2, d, hd, rd⟩ := (qq.1 cP).2 x jK y
    have e : ds.drop i = d :: ds.drop (i + 1) := by
      rw [List.drop_eq_getElem_cons cP]
      rw [List.getElem?_eq_getElem cP] at hd
      cases hd
      rfl
    rw [e] at h'
    refine ⟨β, d, bK, M', _, fi.step x2, rd, h', fun fj M3 jN H3 x3 z3 h3 => ⟨β, fj, M3, _, z3, h3, fun b M4 H4 x4 h4 => ?_⟩⟩
    have pM := x'.trans (x2.trans (x3.trans x4))
    cases b with
    | false =>
      dsimp only at h4 ⊢
      rw [if_neg Bool.false_ne_true] at h4 ⊢
      exact ⟨ds.length - (i + 1), by omega, rfl, cP, fj, M4, pM, z3.step x4, h4⟩
    | true =>
      dsimp only at h4 ⊢
      rw [if_pos rfl] at h4 ⊢
      refine ⟨β, fj, M4, _, z3.step x4, h4, fun yd M5 yv H5 x5 r5 h5 => ?_⟩
      obtain ⟨k, rfl, h6⟩ := fB h5
      refine ⟨k, cC r5, ?_⟩
      cases k with
      | true =>
        rw [if_pos rfl] at h6 ⊢
        exact q _ _ _ _ (x1.trans (pM.trans x5)) (.bl _) h6
      | false =>
        rw [if_neg (by decide)] at h6 ⊢
        exact ⟨ds.length - (i + 1), by omega, rfl, cP, fj, M5, pM.trans x5, (z3.step x4).step x5, h6⟩
  · have e : i = ds.length := by omega
    subst e
    rw [List.drop_length] at h'
    exact .inl ⟨qq.2 (Nat.le_refl _), q _ _ _ _ (x1.trans x') (.bl _) h'⟩
variable {tg elt iter : Expr} {ifs : List Expr} {scope : Scope} {pos : Pos} {N' : List Str} {c P : Addr} {k : Nat}
theorem C6 {p eo : Pos} (hP : P ∈ Γ.tb) (hr : bu (k + 1) X.A) (hc : X.calm = true) (B : aG X.N X.env.scope scope N' tn idx)
    (h0 : scope.names.lookup (".0" : Str) = some .local) (ft : scope.isCoroutine = false) (dW : X.env.code = .ref c) (hd : PySem.W.CodeHd X.base c P) (cu : ∃ bm ob, BMod X.base mainGlobals X.mg bm ob)
    (jB : Gl X "any") (hm : X.mg "any" = none) (hi : QI Γ X tg iter zi) (hg : cg X N' scope k fun Y => QG Γ Y tg g) (ht : cg X N' scope k fun Y => nR Γ Y ifs tt) (he : cg X N' scope k fun Y => QE Γ Y elt te)
    (hs : ∀ x, genFold iter X.env x = pure x := by intro _; rfl) : QE Γ X (.Call (.Name "any" p) [cf elt tg iter ifs scope eo] [] pos) (zAny tn idx zi g tt te) := (C5 hr hc B h0 ft dW hd cu jB hm hi hg ht he hs).imp fun σ H Q h => Fi hP h
end
theorem qh {c : Nat} : ∀ {u t a b : List Nat}, c ∉ u → c ∉ t → u ++ c :: a = t ++ c :: b → u = t ∧ a = b
  | [], [], _, _, _, _, e => by simp only [List.nil_append, List.cons.injEq, true_and] at e; exact ⟨rfl, e⟩
  | [], y :: t, _, _, _, h2, e => by
    simp only [List.nil_append, List.cons_append, List.cons.injEq] at e
    exact absurd (by rw [e.1]; exact List.mem_cons_self ..) h2
  | x :: u, [], _, _, h1, _, e => by
    simp only [List.nil_append, List.cons_append, List.cons.injEq] at e
    exact absurd (by rw [e.1]; exact List.mem_cons_self ..) h1
  | x :: u, y :: t, _, _, h1, h2, e => by
    simp only [List.cons_append, List.cons.injEq] at e
    obtain ⟨e1, e2⟩ := qh (fun h => h1 (List.mem_cons_of_mem _ h)) (fun h => h2 (List.mem_cons_of_mem _ h)) e.2
    exact ⟨by rw [e.1, e1], e2⟩
theorem mP {a b : Str} (h : a.cps.toList = b.cps.toList) : a = b := by
  cases a; cases b
  simp only at h
  rw [Array.toList_inj.mp h]
theorem gw (c : Nat) (x y : Str) (r : List Str) : (Str.join ⟨#[c]⟩ (x :: y :: r)).cps.toList = x.cps.toList ++ c :: (Str.join ⟨#[c]⟩ (y :: r)).cps.toList := by
  show (x ++ ⟨#[c]⟩ ++ Str.join ⟨#[c]⟩ (y :: r)).cps.toList = _
  rw [PySem.Str.cps_append, PySem.Str.cps_append]
  simp
theorem join_uniq {c : Nat} : ∀ {us ts : List Str}, us ≠ [] → ts ≠ [] → (∀ u ∈ us, c ∉ u.cps.toList) → (∀ t ∈ ts, c ∉ t.cps.toList) → (Str.join ⟨#[c]⟩ us).cps.toList = (Str.join ⟨#[c]⟩ ts).cps.toList → us = ts
  | [], _, h, _, _, _, _ => absurd rfl h
  | _ :: _, [], _, h, _, _, _ => absurd rfl h
  | [u], [t], _, _, _, _, e => by rw [mP (a := u) (b := t) e]
  | [u], t :: t2 :: r, _, _, h1, _, e => by
    rw [gw] at e
    have e : u.cps.toList = _ := e
    exact absurd (by rw [e]; simp) (h1 u (List.mem_singleton.mpr rfl))
  | u :: u2 :: r, [t], _, _, _, h2, e => by
    rw [gw] at e
    have e : _ = t.cps.toList := e
    exact absurd (by rw [← e]; simp) (h2 t (List.mem_singleton.mpr rfl))
  | u :: u2 :: r, t :: t2 :: r', _, _, h1, h2, e => by
    rw [gw, gw] at e
    obtain ⟨e1, e2⟩ := qh (h1 u (List.mem_cons_self ..)) (h2 t (List.mem_cons_self ..)) e
    rw [mP e1, join_uniq (us := u2 :: r) (ts := t2 :: r') (by simp) (by simp) (fun x hx => h1 x (List.mem_cons_of_mem _ hx)) (fun x hx => h2 x (List.mem_cons_of_mem _ hx)) e2]
theorem xE (x y : Str) : Txt.split x y ≠ [] := by
  unfold Txt.split
  split
  · simp
  · split
    · simp
    · intro h
      have := congrArg List.length h
      rw [Builtin.Str.partsBetween, List.length_map, List.length_zip] at this
      simp at this
theorem tG {c : Nat} {ts : List Str} (hn : ts ≠ []) (h : ∀ t ∈ ts, c ∉ t.cps.toList) : Txt.split (Str.join ⟨#[c]⟩ ts) ⟨#[c]⟩ = ts :=
  join_uniq (xE _ _) hn (StrLaws.split_free _ c) h (by rw [StrLaws.join_split])
theorem join_eq (sep : Str) (ts : List Str) : Txt.join sep ts = Str.join sep ts := StrLaws.glued_eq_join sep ts
theorem xF {x y : Str} (h : x.length < 1000000) : x.length ≤ sizeLine ∧ (Builtin.Str.partsBetween x (Builtin.Str.occurrences x y 0 x.length (x.length + 1)) y.length).length ≤ sizeLine := by
  have h1 := StrLaws.occ_length_le x y 0 x.length (x.length + 1)
  have h2 : (Builtin.Str.partsBetween x (Builtin.Str.occurrences x y 0 x.length (x.length + 1)) y.length).length = (Builtin.Str.occurrences x y 0 x.length (x.length + 1)).length + 1 := by
    rw [Builtin.Str.partsBetween, List.length_map, List.length_zip]
    simp
  rw [sizeLine_eq, h2]
  omega
theorem joinOk_of {sep : Str} {ts : List Str} {B : Nat} (h : ∀ t ∈ ts, t.length ≤ B) (hs : ts.length * B + ts.length * sep.length ≤ 1000000) : JoinOk sep ts = true := by
  unfold JoinOk Builtin.Str.tooLong
  rw [StrLaws.joinTotal]
  have := StrLaws.sumLen_le ts h
  rw [sizeLine_eq]
  simp only [gt_iff_lt, Bool.not_eq_true', decide_eq_false_iff_not]
  omega
theorem sv {g : b6} {te : aH} {M : Mh} (p : Dv → Bool) (I : ax → Prop) : ∀ {ds : List Dv} {τ : ax} {Q : Bool → Mh → Prop}, I τ → (∀ d ∈ ds, ∀ τ, I τ → ∀ R : ax → ZK, (∀ aw, I aw → R aw (.bl (p d)) M) → g d τ M fun aw M2 => te aw M2 (R aw)) → Q (ds.any p) M → i9 g zNoIf te ds τ M Q
  | [], τ, Q, _, _, q => q
  | d :: ds, τ, Q, i, h, q => by
    refine h d List.mem_cons_self τ i (fun aw => zBool fun c M4 => if c = true then Q true M4 else i9 g zNoIf te ds aw M4 Q) fun aw i2 => ?_
    show if p d = true then Q true M else i9 g zNoIf te ds aw M Q
    cases e : p d with
    | true =>
      rw [if_pos rfl]
      rw [List.any_cons, e, Bool.true_or] at q
      exact q
    | false =>
      rw [if_neg (by decide)]
      rw [List.any_cons, e, Bool.false_or] at q
      exact sv p I i2 (fun d' hd => h d' (List.mem_cons_of_mem _ hd)) q
end L2
open PySem L2 PyProof.Rows
local macro_rules | `(tactic| simp! only [$xs,*] $[$l]?) => `(tactic| simp only [zVar, zC, zOp, zII, zIC, zEq, zNe, scalZ, zIsN, isNonD, zSS, zTest, zBool, zChain, zOr, zNot, zAndV, zNotV, zNil, zCons, zTup, zLst, zLstP, zCB, z1, zLenD, z2I, zAbs, zList, zTuple, itemsM, zIsInst, isD, zBM, tyZ, zAppend, zPop, zPopAt, zSetI, zgSub, zNext, zSeq, zDrop, zRet, zIfS, zgName, zAsg, zFor, zForM, zComp, zCompP, zTupG, zAll, zBlock, zCall, zTry, zRaise, zIsE, zstart, zEndsOf, ziTup, ziLst, ziStr, ziRng1, zoNone, zoSome, zSl, zSlT, zIx, zRangeP, zNeg, zCatT, zNoIf, zInI, zRepT, zRepL, zCatLD, zIxS, zNever, zRepP, zJoinS, zSplitS, zIntS, zStrI, zAny, List.getElem?_cons_zero, List.getElem?_cons_succ, List.map_cons, List.map_nil, List.nil_append, List.cons_append, List.length_cons, List.length_nil, List.replicate_succ, List.replicate_zero, List.set_cons_zero, List.set_cons_succ, Option.join_some, Nat.reduceAdd, Nat.reduceSub, Nat.sub_self, Nat.zero_add, if_true, if_false, Bool.false_eq_true, Bool.not_true, Bool.not_false, true_and, and_true, beq_self_eq_true, String.reduceBEq, zLoop, List.length_map, List.length_set, updM_same, updM_updM, List.append_nil, Int.zero_add, Int.toNat_natCast, rangeD_len, Nat.min_self, atI_zero, decide_true, decide_false, Bool.not_eq_true, bne_self_eq_false, $xs,*] $[$l]?)
local macro_rules | `(tactic| dsimp! only [$xs,*] $[$l]?) => `(tactic| simp only [zVar, zC, zOp, zII, zIC, zEq, zNe, scalZ, zIsN, isNonD, zSS, zTest, zBool, zChain, zOr, zNot, zAndV, zNotV, zNil, zCons, zTup, zLst, zLstP, zCB, z1, zLenD, z2I, zAbs, zList, zTuple, itemsM, zIsInst, isD, zBM, tyZ, zAppend, zPop, zPopAt, zSetI, zgSub, zNext, zSeq, zDrop, zRet, zIfS, zgName, zAsg, zFor, zForM, zComp, zCompP, zTupG, zAll, zBlock, zCall, zTry, zRaise, zIsE, zstart, zEndsOf, ziTup, ziLst, ziStr, ziRng1, zoNone, zoSome, zSl, zSlT, zIx, zRangeP, zNeg, zCatT, zNoIf, zInI, zRepT, zRepL, zCatLD, zIxS, zNever, zRepP, zJoinS, zSplitS, zIntS, zStrI, zAny, List.getElem?_cons_zero, List.getElem?_cons_succ, List.map_cons, List.map_nil, List.nil_append, List.cons_append, List.length_cons, List.length_nil, List.replicate_succ, List.replicate_zero, List.set_cons_zero, List.set_cons_succ, Option.join_some, Nat.reduceAdd, Nat.reduceSub, Nat.sub_self, Nat.zero_add, if_true, if_false, Bool.false_eq_true, Bool.not_true, Bool.not_false, true_and, and_true, beq_self_eq_true, String.reduceBEq, List.length_map, List.length_set, updM_same, updM_updM, List.append_nil, Int.zero_add, Int.toNat_natCast, rangeD_len, Nat.min_self, atI_zero, decide_true, decide_false, Bool.not_eq_true, bne_self_eq_false, $xs,*] $[$l]?)
namespace My
open PySem L2 PyProof.Rows
noncomputable def top (i : Nat) : Stmt := PySem.Challenge.pw_roadcall_k60_nets_written.main.body.getD i (.Pass ⟨0, 0, 0, 0⟩)
noncomputable abbrev dY : Stmt := top 10
noncomputable abbrev cD : Stmt := top 11
noncomputable abbrev gX : Stmt := top 16
noncomputable abbrev gY : Stmt := top 17
noncomputable abbrev dZ : Stmt := top 18
noncomputable abbrev tH : Stmt := top 19
noncomputable abbrev vH : Stmt := top 20
noncomputable abbrev qX : Stmt := top 21
noncomputable abbrev fZ : Stmt := top 25
noncomputable abbrev mQ : Stmt := top 26
noncomputable abbrev d6 : Stmt := top 27
noncomputable abbrev fL : Stmt := top 28
noncomputable abbrev dR : Stmt := top 29
noncomputable abbrev fM : Stmt := top 30
noncomputable abbrev di : Stmt := top 31
noncomputable abbrev dG : Stmt := top 32
noncomputable abbrev gy : Stmt := top 33
noncomputable abbrev gz : Stmt := top 35
noncomputable abbrev dH : Stmt := top 36
noncomputable abbrev dS : Stmt := top 37
noncomputable abbrev dv : Stmt := top 38
noncomputable abbrev fN : Stmt := top 39
noncomputable abbrev eJ : Stmt := top 40
noncomputable abbrev d7 : Stmt := top 41
noncomputable abbrev md : Stmt := top 42
section
variable {P : Program} {w : World} {K : PySem.W.Frag} {mg : Str → Option Value} {base : Heap} {tb : cM} {k : Nat} {f : Addr} {fd : FuncData} {ps : List Str}
theorem cV : aS ["_law_script", "_law_at", "_law_cell", "_law_mix", "_law_k"] ["_law_script", "_law_at"] (ak gz) := ⟨rfl, rfl, rfl, by decide +kernel, rfl, by decide +kernel, by decide +kernel⟩
theorem dj : aS ["_law_bag_here", "_law_many", "_law_digit", "_law_number", "_law_room"] ["_law_bag_here", "_law_many"] (ak dH) := ⟨rfl, rfl, rfl, by decide +kernel, rfl, by decide +kernel, by decide +kernel⟩
theorem eL : aS ["_law_bag_here", "_law_many", "_law_rest", "_law_found", "_law_k"] ["_law_bag_here", "_law_many"] (ak dS) := ⟨rfl, rfl, rfl, by decide +kernel, rfl, by decide +kernel, by decide +kernel⟩
theorem aY : aS ["_law_bag_here", "_law_most", "_law_many", "_law_fans", "_law_kind", "_law_lap", "_law_order_here", "_law_rows", "_law_k", "_law_goals", "_law_fan"] ["_law_bag_here", "_law_most"] (ak dv) := ⟨rfl, rfl, rfl, by decide +kernel, rfl, by decide +kernel, by decide +kernel⟩
noncomputable def C7 : dh := fun ds M Q _ => ∃ (ns : List Int) (t : Int), ds = [.a9 ns, .int t] ∧ ns.length ≤ 63 ∧ 0 ≤ t ∧ t ≤ 63 ∧ ∀ b, M b = none → Q (.ptr b) (az M b .bV)
noncomputable def yQ : dh := fun ds M Q _ => ∃ (ns : List Int) (t : Int), ds = [.a9 ns, .int t] ∧ ns.length ≤ 63 ∧ 0 ≤ t ∧ t ≤ 63 ∧ ∀ b c m, M b = none → 0 ≤ c → 0 ≤ m → Q (.ptr b) (az M b (.lst [.int c, .int m]))
theorem tI (D : Df K mg "_law_bag" gz ["_law_script", "_law_at"] f fd) (bl : Bl mg) : FnOk P w K mg base bj 1 f fd ["_law_script", "_law_at"] (aX P w K tb yQ) := by
  refine dQ D cV (fun ds M Q E hS => by obtain ⟨ns, t, e, _⟩ := hS; rw [e]; rfl) fun A outer s E Γ ds Q' E' hP hw hK ht hr hS => ?_
  obtain ⟨ns, t, e, hl, t0, t1, q⟩ := hS
  refine ⟨_, (ah (aL (i := 2) cV.nd rfl (Or.inl rfl) af)
    (ah (cO (bN tq (qv 1) (aN (dX (K := K) rfl hK) rfl bl.len_ PySem.boot_len (aa (qv 0) ae)) (b5 _))
      (av (aL (i := 2) cV.nd rfl (Or.inl rfl) (aN E5 rfl bl.abs_ B7 (aa (bL (yP (K := K) rfl hK) (qv 0) (qv 1) (fun _ _ => rfl)) ae))))
      qss_nil)
    (ah (aL (i := 3) cV.nd rfl (Or.inl rfl) (aR gr (aR iY af (qv 1)) af))
    (ah (dE PassesOwn.never rfl (cy rfl bl.range_ (aa (aN (pT rfl) rfl bl.min_ pC (aa (aN (dX (K := K) rfl hK) rfl bl.len_ PySem.boot_len (aa (qv 0) ae)) (aa af ae))) ae)) (fun jl eP ew eK et => by have hP := hP.trans eP.symm; have hw := hw.trans ew.symm; have hK := hK.trans eK.symm; have ht := ht.trans et.symm; exact ⟨(aV (i := 4) cV.nd rfl (Or.inl rfl)), (av (aL (i := 3) cV.nd rfl (Or.inl rfl) (aR ie (aR gr (aR gr (aR iY (qv 3) af) (aR ie (bL (yP (K := K) rfl hK) (qv 0) (qv 4) (fun _ _ => rfl)) af)) (qv 4)) af)))⟩))
    (ah (cO (bN tq (qv 2) (aR E4 af af) (b5 _))
      (av (aL (i := 2) cV.nd rfl (Or.inl rfl) af))
      qss_nil)
    (av (a8 (iL (aa (qv 2) (aa (qv 3) ae)))))))))), ?_⟩
  subst e
  refine yO (fun ρ M => M = Γ.M0 ∧ ∃ c m x : Int, ∃ x4, 0 ≤ c ∧ 0 ≤ m ∧ ρ = [some (.a9 ns), some (.int t), some (.int c), some (.int m), x4]) (fun N hN => ?_) ?_
  · refine Fd (fun ρ M => M = Γ.M0 ∧ ∃ c : Int, 0 ≤ c ∧ ρ = [some (.a9 ns), some (.int t), some (.int c), none, none]) (fun N hN => ?_) ?_
    · simp! only []
      refine fY (fun h => ?_) (fun _ => hN _ _ ⟨rfl, 0, by omega, rfl⟩)
      have ht : t < (ns.length : Int) := of_decide_eq_true h
      obtain ⟨k, rfl⟩ := Int.eq_ofNat_of_zero_le t0
      rw [vt (show k < ns.length by omega)]
      exact hN _ _ ⟨rfl, _, by split <;> omega, rfl⟩
    rintro ρ M ⟨rfl, c, hc, rfl⟩
    simp! only []
    refine ⟨.inl ⟨by decide, by decide⟩, by split <;> omega, by split <;> omega, ?_⟩
    refine b7 (fun i ρ M => M = Γ.M0 ∧ ∃ m : Int, ∃ x4, 0 ≤ m ∧ ρ = [some (.a9 ns), some (.int t), some (.int c), some (.int m), x4]) ⟨rfl, _, _, by omega, rfl⟩ (fun i d ρ M N2 hd hJ gZ => ?_) (fun ρ M hJ => ?_)
    · obtain ⟨rfl, m, x4, hm, rfl⟩ := hJ
      obtain ⟨rfl, hi⟩ := cQ hd
      have hi : i < ns.length := by split at hi <;> omega
      simp! only [vt hi]
      exact ⟨.inr ⟨by decide, by decide⟩, by decide, by decide, gZ _ _ ⟨rfl, _, _, Int.emod_nonneg _ (by decide), rfl⟩⟩
    · obtain ⟨rfl, m, x4, hm, rfl⟩ := hJ
      exact hN _ _ ⟨rfl, c, m, 0, x4, hc, hm, rfl⟩
  · rintro ρ M ⟨rfl, c, m, x, x4, hc, hm, rfl⟩
    simp! only []
    exact ⟨⟨by decide, by decide, by decide⟩, fY (fun _ => ⟨by decide, fun a ha => .inl (q a 0 m ha (by omega) hm)⟩) (fun _ => ⟨by decide, fun a ha => .inl (q a c m ha hc hm)⟩)⟩
theorem Fj (G : FnOk P w K mg base bj k f fd ps (aX P w K tb yQ)) : FnOk P w K mg base bj k f fd ps (aX P w K tb C7) := G.imp fun vs H Q E hS => by
  obtain ⟨β, ds, M, Q', E', eP, ew, eK, et, m, rs, ⟨ns, t, e, h1, h2, h3, h⟩, q, qe⟩ := hS
  refine ⟨β, ds, M, fun d M' => ∃ b c m, d = .ptr b ∧ M b = none ∧ 0 ≤ c ∧ 0 ≤ m ∧ M' = az M b (.lst [.int c, .int m]), fun _ _ => False, eP, ew, eK, et, m, rs, ⟨ns, t, e, h1, h2, h3, fun b c m h4 h5 h6 => ⟨b, c, m, rfl, h4, h5, h6, rfl⟩⟩, fun d M' v H' x r hQ => ?_, fun _ _ _ _ h => h.elim⟩
  obtain ⟨b, c, m', rfl, hb, hc, hm, rfl⟩ := hQ
  have hB := vC x.mz hc hm
  exact q _ _ _ _ (Ex.sealed hb x hB) (r.dom (gE M b _ _)) (h b hb)
noncomputable def oO : dh := fun ds M Q _ => ∃ (b : Addr) (n : Int), ds = [.ptr b, .int n] ∧ M b = some .bV ∧ 1 ≤ n ∧ n < 1073741824 ∧ ∀ d : Nat, (d : Int) < n → Q (.int (d : Nat)) M
noncomputable def vI : dh := fun ds M Q _ => ∃ (b : Addr) (n c m : Int), ds = [.ptr b, .int n] ∧ M b = some (.lst [.int c, .int m]) ∧ 0 ≤ c ∧ 0 ≤ m ∧ 1 ≤ n ∧ n < 1073741824 ∧ ∀ (d : Nat) (c m : Int), (d : Int) < n → 0 ≤ c → 0 ≤ m → Q (.int (d : Nat)) (az M b (.lst [.int c, .int m]))
theorem qY (D : Df K mg "_law_take" dH ["_law_bag_here", "_law_many"] f fd) : FnOk P w K mg base bj 1 f fd ["_law_bag_here", "_law_many"] (aX P w K tb vI) := by
  refine dQ D dj (fun ds M Q E hS => by obtain ⟨b, n, c, m, e, _⟩ := hS; rw [e]; rfl) fun A outer s E Γ ds Q' E' hP hw hK ht hr hS => ?_
  obtain ⟨b, n, c, m, e, hb, hc, hm, n1, n2, q⟩ := hS
  refine ⟨_, (ah (cO (bN xn (bL (cU (K := K) rfl) (qv 0) af (fun _ _ => rfl)) af (b5 _))
      (ah (aL (i := 2) dj.nd rfl (Or.inl rfl) (aR ie (bL (cU (K := K) rfl) (qv 0) af (fun _ _ => rfl)) (qv 1)))
    (ah (jL (aR pO (bL (cU (K := K) rfl) (qv 0) af (fun _ _ => rfl)) (qv 1)) (jP (qv 0) af))
    (av (a8 (qv 2)))))
      qss_nil)
    (ah (aL (i := 3) dj.nd rfl (Or.inl rfl) af)
    (ah (aL (i := 4) dj.nd rfl (Or.inl rfl) af)
    (ah (xk PassesOwn.never (bN tq (qv 4) (qv 1) (b5 _))
      (ah (jL (aR ie (aR gr (aR iY (bL (cU (K := K) rfl) (qv 0) af (fun _ _ => rfl)) af) af) af) (jP (qv 0) af))
    (ah (aL (i := 3) dj.nd rfl (Or.inl rfl) (aR gr (aR iY (qv 3) af) (aR ie (aR iY (aR pO (bL (cU (K := K) rfl) (qv 0) af (fun _ _ => rfl)) af) af) af)))
    (av (aL (i := 4) dj.nd rfl (Or.inl rfl) (aR iY (qv 4) af))))))
    (av (a8 (aR ie (qv 3) (qv 1)))))))), ?_⟩
  subst e
  have Jz : ∀ x y : Int, bU [Dv.int x, Dv.int y] 1 = some (.int y) := fun x y => da (j := 1) rfl
  have JA : ez 2 0 = some 0 := rfl
  have JB : ez 2 1 = some 1 := rfl
  have fin : ∀ {i c m : Int} {M : Mh}, 0 ≤ c → 0 ≤ m → M = az Γ.M0 b (.lst [.int c, .int m]) → i6 Γ.M0 Q' (.int (i % n)) M := fun {i c m M} hc hm e => by
    obtain ⟨d, hd⟩ := Int.eq_ofNat_of_zero_le (Int.emod_nonneg i (show n ≠ 0 by omega))
    have := Int.emod_lt_of_pos i (show 0 < n by omega)
    rw [hd, e]
    exact .inl (q d c m (by omega) hc hm)
  simp! only [hb, JA]
  refine fY (fun h => ?_) (fun h => ?_)
  · refine ⟨by omega, ⟨by omega, n2⟩, fin (Int.ediv_nonneg hc (by omega)) hm rfl⟩
  · refine ⟨fun k ρ M => ∃ num room c m x2, 0 ≤ num ∧ 1 ≤ room ∧ 0 ≤ c ∧ 0 ≤ m ∧ k = (n - room).toNat ∧ ρ = [some (.ptr b), some (.int n), x2, some (.int num), some (.int room)] ∧ M = az Γ.M0 b (.lst [.int c, .int m]), ⟨_, 0, 1, c, m, _, by omega, by omega, hc, hm, rfl, rfl, (su hb).symm⟩, ?_⟩
    rintro k ρ M ⟨num, room, c, m, x2, h1, h2, hc, hm, rfl, rfl, rfl⟩
    simp! only [Jz, JB, updM_same]
    refine fY (fun h => ?_) (fun h => ⟨by omega, fin hc hm rfl⟩)
    have h := of_decide_eq_true h
    have m3 : 0 ≤ (m * 48271 + 7919) % 2147483647 := Int.emod_nonneg _ (by decide)
    have n3 : 0 ≤ (m * 48271 + 7919) % 2147483647 / 8 * 69621 % 1073741789 := Int.emod_nonneg _ (by decide)
    refine ⟨.inr ⟨by decide, by decide⟩, by decide, .inr ⟨by decide, by decide⟩, ⟨by decide, by decide⟩, .inr ⟨by decide, by decide⟩, by decide, .inr ⟨by decide, by decide⟩, _, ?_, _, _, c, _, _, ?_, ?_, hc, m3, rfl, rfl, rfl⟩ <;> omega
theorem C8 (G : FnOk P w K mg base bj k f fd ps (aX P w K tb vI)) : FnOk P w K mg base bj k f fd ps (aX P w K tb oO) := G.imp fun vs H Q E hS => by
  obtain ⟨β, ds, M, Q', E', eP, ew, eK, et, m, rs, ⟨b, n, e, hb, h1, h2, h⟩, q, qe⟩ := hS
  have eM := su hb
  have d1 : ∀ o a, (M a).isSome = (az M b o a).isSome := fun o a => by have := gE M b .bV o a; rwa [eM] at this
  rw [← eM] at m
  obtain ⟨c, m0, hc, hm, hO⟩ := CW m
  refine ⟨β, ds, az M b (.lst [.int c, .int m0]), fun d M' => ∃ (k : Nat) (c' m' : Int), d = .int (k : Nat) ∧ (k : Int) < n ∧ 0 ≤ c' ∧ 0 ≤ m' ∧ M' = az M b (.lst [.int c', .int m']), fun _ _ => False, eP, ew, eK, et, m.chg hO, ⟨rs.len, fun i v d x y => (rs.at' i v d x y).dom (d1 _)⟩, ⟨b, n, c, m0, e, updM_same, hc, hm, h1, h2, fun d c' m' h3 h4 h5 => ⟨d, c', m', rfl, h3, h4, h5, updM_updM⟩⟩, fun d M' v H' x r hQ => ?_, fun _ _ _ _ h => h.elim⟩
  obtain ⟨k, c', m', rfl, hk, yk, ju, rfl⟩ := hQ
  have hB := vC x.mz yk ju
  have x2 := Ex.chg (o2 := .bV) x hB
  rw [eM] at x2
  exact q _ _ _ _ x2 (r.dom fun a => (d1 _ a).symm) (h k hk)
theorem nY {α β : Type} (f : α → β) : ∀ (l : List α) (i : Nat), (l.map f).eraseIdx i = (l.eraseIdx i).map f
  | [], _ => rfl
  | _ :: _, 0 => rfl
  | a :: l, i + 1 => by
    show f a :: (l.map f).eraseIdx i = f a :: (l.eraseIdx i).map f
    rw [nY f l i]
theorem gq {α : Type} : ∀ (l : List α) (i : Nat) (h : i < l.length), (l[i] :: l.eraseIdx i).Perm l
  | a :: l, 0, _ => .refl _
  | a :: l, i + 1, h => by
    have h' : i < l.length := by simpa using h
    show (l[i] :: a :: l.eraseIdx i).Perm (a :: l)
    exact (List.Perm.swap a l[i] _).trans ((gq l i h').cons a)
structure bS (n : Nat) (os : List Int) : Prop where
  perm : os.Perm ((List.range n).map fun i : Nat => (i : Int))
theorem bS.len {n : Nat} {os : List Int} (h : bS n os) : os.length = n := by
  have := h.perm.length_eq
  simpa using this
theorem bS.mem {n : Nat} {os : List Int} (h : bS n os) {x : Int} (hx : x ∈ os) : 0 ≤ x ∧ x < n := by
  have := h.perm.mem_iff.mp hx
  obtain ⟨i, hi, rfl⟩ := List.mem_map.mp this
  have := List.mem_range.mp hi
  omega
theorem bS.at {n : Nat} {os : List Int} (h : bS n os) {i : Nat} (hi : i < n) : ∃ x : Int, bU (os.map Dv.int) (i : Int) = some (.int x) ∧ 0 ≤ x ∧ x < n := by
  have hl : i < os.length := by rw [h.len]; exact hi
  exact ⟨os[i], da (by rw [List.getElem?_map, List.getElem?_eq_getElem hl]; rfl), h.mem (List.getElem_mem hl)⟩
noncomputable def qi : dh := fun ds M Q _ => ∃ (b : Addr) (n : Nat), ds = [.ptr b, .int (n : Nat)] ∧ M b = some .bV ∧ n ≤ 100 ∧ ∀ os, bS n os → Q (jk os) M
noncomputable def yR : dh := fun ds M Q _ => ∃ (b : Addr) (most : Nat), ds = [.ptr b, .int (most : Nat)] ∧ M b = some .bV ∧ 1 ≤ most ∧ most ≤ 9 ∧ ∀ net n, cL net n → net.length ≤ most → Q (eN net) M
theorem z6 {n d : Nat} (h : d < n) : seqIndex? (d : Int) n = some d := (mx (n := n) (i := (d : Int)) (j := d) (by unfold ez; rw [if_pos (by omega), if_pos (by omega)]; rfl)).1
theorem qj {f1 : Addr} {bQ : FuncData} (D : Df K mg "_law_order" dS ["_law_bag_here", "_law_many"] f fd)
    (au : Df K mg "_law_take" dH ["_law_bag_here", "_law_many"] f1 bQ) (bC : FnOk P w K mg base bj 1 f1 bQ ["_law_bag_here", "_law_many"] (aX P w K tb oO)) (bl : Bl mg) : FnOk P w K mg base bj 2 f fd ["_law_bag_here", "_law_many"] (aX P w K tb qi) := by
  refine dQ D eL (fun ds M Q E hS => by obtain ⟨b, n, e, _⟩ := hS; rw [e]; rfl) fun A outer s E Γ ds Q' E' hP hw hK ht hr hS => ?_
  obtain ⟨b, n, e, hb, hn, q⟩ := hS
  refine ⟨_, (ah (aL (i := 2) eL.nd rfl (Or.inl rfl) (ot rfl rfl bl.list_ rfl bl.range_ (qv 1)))
    (ah (aL (i := 3) eL.nd rfl (Or.inl rfl) (iL ae))
    (ah (dE PassesOwn.never rfl (cy rfl bl.range_ (aa (qv 1) ae)) (fun jl eP ew eK et => by have hP := hP.trans eP.symm; have hw := hw.trans ew.symm; have hK := hK.trans eK.symm; have ht := ht.trans et.symm; exact ⟨(aV (i := 4) eL.nd rfl (Or.inl rfl)), (av (dF (gu (K := K) rfl PySem.F.plainAttrs_list PySem.F.slot_list_append PySem.F.type_list_append i5 (qv 3) (aa (gu (K := K) rfl PySem.F.plainAttrs_list PySem.F.slot_list_pop PySem.F.type_list_pop zT (qv 2) (aa (aE bC (hr.mono (by decide)) rfl au.mg au.fn.kp au.bd bz hP hw hK ht XR.none (aa (qv 0) (aa (aN (dX (K := K) rfl hK) rfl bl.len_ PySem.boot_len (aa (qv 2) ae)) ae))) ae)) ae))))⟩))
    (av (a8 (qv 3)))))), ?_⟩
  subst e
  have big : (1000 : Nat) < sizeLine := by decide
  simp! only []
  refine ⟨by omega, by omega, fun a ha => ⟨by omega, fun c hc => ⟨by omega, by omega, ?_⟩⟩⟩
  have yS : c ≠ a := fun z => by rw [z, updM_same] at hc; cases hc
  have C9 : Γ.M0 c = none := by rw [ai yS] at hc; exact hc
  have JC : b ≠ a := fun z => by rw [z, ha] at hb; cases hb
  have JD : b ≠ c := fun z => by rw [z, C9] at hb; cases hb
  refine b7 (fun i ρ M => ∃ rest got : List Int, (∃ x, ρ = [some (.ptr b), some (.int (n : Nat)), some (.ptr a), some (.ptr c), x]) ∧ M a = some (.lst (rest.map .int)) ∧ M c = some (.lst (got.map .int)) ∧ (∀ d, d ≠ a → d ≠ c → M d = Γ.M0 d) ∧ got.length = i ∧ (got ++ rest).Perm ((List.range n).map fun i : Nat => (i : Int)))
    ⟨(List.range n).map fun i : Nat => (i : Int), [], ⟨_, rfl⟩, by rw [ai (Ne.symm yS), updM_same, pY, List.map_map]; rfl, updM_same, fun d h1 h2 => by rw [ai h2, ai h1], rfl, .refl _⟩ (fun i d ρ M N hd hJ hN => ?_) (fun ρ M hJ => ?_)
  · obtain ⟨rest, got, ⟨x, rfl⟩, ik, yT, yU, hg, pm⟩ := hJ
    obtain ⟨rfl, hi⟩ := cQ hd
    have hlen : got.length + rest.length = n := by have := pm.length_eq; simpa using this
    simp! only [ik, yT]
    refine ⟨b, _, rfl, (by rw [yU b JC JD]; exact hb), by omega, by omega, fun d hd => ?_⟩
    have Dc : d < rest.length := by omega
    simp only [ik, List.length_map, z6 Dc, List.getElem?_map, List.getElem?_eq_getElem Dc, Option.map_some, ai yS, yT]
    refine ⟨by omega, by omega, by omega, hN _ _ ⟨rest.eraseIdx d, got ++ [rest[d]], ⟨_, rfl⟩, by rw [ai (Ne.symm yS), updM_same, nY], by rw [updM_same, List.map_append]; rfl, fun e h1 h2 => by rw [ai h2, ai h1]; exact yU e h1 h2, by simp [hg], ?_⟩⟩
    refine List.Perm.trans ?_ pm
    rw [List.append_assoc]
    exact List.Perm.append_left got (gq rest d Dc)
  · obtain ⟨rest, got, ⟨x, rfl⟩, ik, yT, yU, hg, pm⟩ := hJ
    rw [rangeD_len] at hg
    have hlen : got.length + rest.length = n := by have := pm.length_eq; simpa using this
    have JE : rest = [] := List.eq_nil_of_length_eq_zero (by omega)
    rw [JE, List.append_nil] at pm
    exact vv (fun d o e => by rw [yU d (fun z => by rw [z, ha] at e; cases e) (fun z => by rw [z, C9] at e; cases e)]; exact e) C9 yT (fE _) (q got ⟨pm⟩)
end
section
variable {P : Program} {w : World} {K : PySem.W.Frag} {mg : Str → Option Value} {base : Heap} {tb : cM}
noncomputable def gA (n ways : Nat) (row : List Int) : Prop := row.length = ways ∧ ∀ x ∈ row, 0 ≤ x ∧ x < (n : Int)
structure d8 (M0 M : Mh) (r : Addr) (as : List Addr) (n ways : Nat) : Prop where
  kp : Keeps M0 M
  r0 : M0 r = none
  rm : M r = some (.lst (as.map .ptr))
  fr : ∀ a ∈ as, M0 a = none ∧ a ≠ r
  len : as.length = n
  row : ∀ a ∈ as, ∃ row : List Int, M a = some (.lst (row.map .int)) ∧ gA n ways row
  pin : ∀ b o, M b = some o → M0 b = some o ∨ b = r ∨ (∃ row : List Int, o = .lst (row.map .int)) ∨ ∃ bs : List Addr, o = .lst (bs.map .ptr) ∧ ∀ c ∈ bs, c ≠ r ∧ ∃ o, M c = some o
theorem d8.Dd {M0 M : Mh} {r : Addr} {as : List Addr} {n ways : Nat} (h : d8 M0 M r as n ways) {a : Addr} (ha : a ∈ as) {row : List Int} (o : gA n ways row) : d8 M0 (az M a (.lst (row.map .int))) r as n ways := by
  obtain ⟨f0, f1⟩ := h.fr a ha
  refine ⟨.upd f0 h.kp, h.r0, by rw [ai (Ne.symm f1)]; exact h.rm, h.fr, h.len, fun c hc => ?_, fun b u e => ?_⟩
  · by_cases z : c = a
    · subst z; exact ⟨row, updM_same, o⟩
    · rw [ai z]; exact h.row c hc
  · by_cases z : b = a
    · subst z; rw [updM_same] at e; cases e; exact .inr (.inr (.inl ⟨row, rfl⟩))
    · rw [ai z] at e
      rcases h.pin b u e with q | q | q | ⟨bs, q1, q2⟩
      · exact .inl q
      · exact .inr (.inl q)
      · exact .inr (.inr (.inl q))
      · refine .inr (.inr (.inr ⟨bs, q1, fun c hc => ⟨(q2 c hc).1, ?_⟩⟩))
        by_cases z : c = a
        · subst z; exact ⟨_, updM_same⟩
        · rw [ai z]; exact (q2 c hc).2
theorem d8.put {M0 M : Mh} {r : Addr} {as : List Addr} {n ways : Nat} (h : d8 M0 M r as n ways) {a : Addr} (ha : M a = none) {row : List Int} (o : gA n ways row) {i : Nat} (hi : i < n) : d8 M0 (az (az M a (.lst (row.map .int))) r (.lst ((as.map .ptr).set i (.ptr a)))) r (as.set i a) n ways := by
  have nr : a ≠ r := fun z => by rw [z, h.rm] at ha; cases ha
  have a0 : M0 a = none := by
    cases e : M0 a with
    | none => rfl
    | some u => rw [h.kp a u e] at ha; cases ha
  have JF : a ∉ as := fun z => by obtain ⟨row, e, _⟩ := h.row a z; rw [ha] at e; cases e
  refine ⟨.upd h.r0 (.upd a0 h.kp), h.r0, by rw [updM_same, List.map_set], fun c hc => ?_, by rw [List.length_set]; exact h.len, fun c hc => ?_, fun b u e => ?_⟩
  · rcases List.mem_or_eq_of_mem_set hc with z | z
    · exact h.fr c z
    · rw [z]; exact ⟨a0, nr⟩
  · rcases List.mem_or_eq_of_mem_set hc with z | z
    · have n1 := (h.fr c z).2
      have n2 : c ≠ a := fun e => JF (e ▸ z)
      rw [ai n1, ai n2]; exact h.row c z
    · rw [z, ai nr, updM_same]; exact ⟨row, rfl, o⟩
  · by_cases z : b = r
    · exact .inr (.inl z)
    · rw [ai z] at e
      by_cases z2 : b = a
      · subst z2; rw [updM_same] at e; cases e; exact .inr (.inr (.inl ⟨row, rfl⟩))
      · rw [ai z2] at e
        rcases h.pin b u e with q | q | q | ⟨bs, q1, q2⟩
        · exact .inl q
        · exact .inr (.inl q)
        · exact .inr (.inr (.inl q))
        · refine .inr (.inr (.inr ⟨bs, q1, fun c hc => ⟨(q2 c hc).1, ?_⟩⟩))
          rw [ai (q2 c hc).1]
          by_cases z : c = a
          · subst z; exact ⟨_, updM_same⟩
          · rw [ai z]; exact (q2 c hc).2
structure kY (M0 M : Mh) : Prop where
  kp : Keeps M0 M
  pin : ∀ b o, M b = some o → M0 b = some o ∨ (∃ row : List Int, o = .lst (row.map .int)) ∨ ∃ bs : List Addr, o = .lst (bs.map .ptr) ∧ ∀ c ∈ bs, ∃ o, M c = some o
theorem kY.refl {M0 : Mh} : kY M0 M0 := ⟨.refl, fun b o e => .inl e⟩
theorem gB {M0 M : Mh} (h : Keeps M0 M) {a : Addr} (ha : M a = none) : M0 a = none := by
  cases e : M0 a with
  | none => rfl
  | some u => rw [h a u e] at ha; cases ha
theorem kY.row {M0 M : Mh} (h : kY M0 M) {a : Addr} (ha : M a = none) (row : List Int) : kY M0 (az M a (.lst (row.map .int))) := by
  refine ⟨.upd (gB h.kp ha) h.kp, fun b o e => ?_⟩
  by_cases z : b = a
  · subst z; rw [updM_same] at e; cases e; exact .inr (.inl ⟨row, rfl⟩)
  · rw [ai z] at e
    rcases h.pin b o e with q | q | ⟨bs, q1, q2⟩
    · exact .inl q
    · exact .inr (.inl q)
    · refine .inr (.inr ⟨bs, q1, fun c hc => ?_⟩)
      by_cases z : c = a
      · subst z; exact ⟨_, updM_same⟩
      · rw [ai z]; exact q2 c hc
theorem Kb {g : b6} {te : aH} {n : Nat} {M1 : Mh} (T : ax → Prop) {ds : List Dv} {τ : ax} {Q : List Dv → Mh → Prop} (h0 : T τ) (h : ∀ d ∈ ds, ∀ τ, T τ → ∀ R : ax → ZK, (∀ (x : Int) aw, 0 ≤ x → x < (n : Int) → T aw → R aw (.int x) M1) → g d τ M1 fun aw M2 => te aw M2 (R aw)) (q : ∀ row : List Int, row.length = ds.length → (∀ x ∈ row, 0 ≤ x ∧ x < (n : Int)) → Q (row.map .int) M1) : eS g zNoIf te ds τ M1 Q := by
  refine i7 (acc := []) (fun acc τ M => ∃ row : List Int, acc = row.map Dv.int ∧ (∀ x ∈ row, 0 ≤ x ∧ x < (n : Int)) ∧ T τ ∧ M = M1) ⟨[], rfl, (fun _ h => nomatch h), h0, rfl⟩ (fun i d acc τ M hd _ ⟨row, e1, hr, ht, e2⟩ R hR => ?_) (fun ys τ M hl ⟨row, e1, hr, ht, e2⟩ => ?_)
  · subst e1 e2
    refine h d (List.mem_of_getElem? hd) τ ht R fun x aw x0 x1 t2 => hR _ _ _ ⟨row ++ [x], by rw [List.map_append]; rfl, fun y hy => ?_, t2, rfl⟩
    rcases List.mem_append.mp hy with z | z
    · exact hr y z
    · rw [List.mem_singleton] at z; rw [z]; exact ⟨x0, x1⟩
  · rw [List.nil_append] at e1
    subst e1 e2
    exact q row (by simpa using hl) hr
noncomputable def bF (x : Option Dv) : Prop := ∀ M d, x = some d → Pin M d
theorem bF.none : bF none := fun _ _ h => nomatch h
theorem bF.int (i : Int) : bF (some (.int i)) := fun _ _ h => by cases h; exact .int i
theorem bF.lI (ns : List Int) : bF (some (jk ns)) := fun _ _ h => by cases h; exact .lst (fE ns)
theorem mR {n d : Nat} (h : d < n) : ez n (d : Int) = some d := by unfold ez; rw [if_pos (by omega), if_pos (by omega)]; rfl
theorem qk (row : List Int) (t : Nat) (x : Int) : (row.map Dv.int).set t (.int x) = (row.set t x).map Dv.int := by rw [List.map_set]
theorem gA.set {n ways : Nat} {row : List Int} (h : gA n ways row) {t : Nat} {x : Int} (x0 : 0 ≤ x) (x1 : x < (n : Int)) : gA n ways (row.set t x) := ⟨by rw [List.length_set]; exact h.1, fun y hy => by
  rcases List.mem_or_eq_of_mem_set hy with z | z
  · exact h.2 y z
  · rw [z]; exact ⟨x0, x1⟩⟩
noncomputable def me (os : List Int) : Dv → Int | .int j => os.getD j.toNat 0 | _ => 0
theorem ql {os : List Int} {j : Nat} {x : Int} (h : bU (os.map Dv.int) (j : Int) = some (.int x)) : me os (.int (j : Nat)) = x := by
  by_cases hj : j < os.length
  · rw [da (j := j) (v := Dv.int os[j]) (by rw [List.getElem?_map, List.getElem?_eq_getElem hj]; rfl)] at h
    cases h
    show os.getD (Int.toNat (j : Int)) 0 = _
    rw [Int.toNat_natCast, List.getD_eq_getElem?_getD, List.getElem?_eq_getElem hj]; rfl
  · unfold bU ez at h
    rw [if_pos (by omega), if_neg (by simp; omega)] at h
    cases h
noncomputable def xG (per i : Nat) : Dv → Bool | .int j => decide (j % (per : Int) = ((i : Int) + 1) % (per : Int)) | _ => false
theorem xH {n per i : Nat} {os : List Int} (dO : bS n os) (p1 : 1 ≤ per) (pn : per ≤ n) : ∃ gs : List Int, ((dD 0 n).filter (xG per i)).map (fun d => Dv.int (me os d)) = gs.map Dv.int ∧ 1 ≤ gs.length ∧ gs.length ≤ n ∧ ∀ x ∈ gs, 0 ≤ x ∧ x < (n : Int) := by
  refine ⟨((dD 0 n).filter (xG per i)).map (me os), by rw [List.map_map]; rfl, ?_, ?_, fun x hx => ?_⟩
  · rw [List.length_map]
    refine List.length_pos_of_mem (a := Dv.int (((i + 1) % per : Nat) : Int)) (List.mem_filter.mpr ⟨?_, ?_⟩)
    · have : (i + 1) % per < per := Nat.mod_lt _ (by omega)
      exact List.mem_of_getElem? (i := (i + 1) % per) (by rw [dD, List.getElem?_map, List.getElem?_range (by omega)]; simp)
    · show decide _ = true
      rw [decide_eq_true_eq]
      push_cast
      exact Int.emod_emod_of_dvd _ (Int.dvd_refl _)
  · rw [List.length_map]
    exact Nat.le_trans (List.length_filter_le _ _) (by rw [rangeD_len]; exact Nat.le_refl _)
  · obtain ⟨d, hd, rfl⟩ := List.mem_map.mp hx
    obtain ⟨j, hj, rfl⟩ := l0 (List.mem_filter.mp hd).1
    rw [Int.zero_add]
    obtain ⟨gx, yV, g0, g1⟩ := dO.at hj
    rw [ql yV]
    exact ⟨g0, g1⟩
structure fm (M0 M : Mh) (r : Addr) (as : List Addr) (n : Nat) (L : Nat → Nat) : Prop where
  own : kY M0 M
  r0 : M0 r = none
  rm : M r = some (.lst (as.map .ptr))
  fr : ∀ a ∈ as, M0 a = none ∧ a ≠ r
  nd : as.Nodup
  len : as.length = n
  rows : ∀ i a, as[i]? = some a → ∃ row : List Int, M a = some (.lst (row.map .int)) ∧ gA n (L i) row
  ptr : ∀ b bs, M b = some (.lst (bs.map .ptr)) → b = r ∨ M0 b = some (.lst (bs.map .ptr)) ∨ bs = []
theorem fm.set {M0 M : Mh} {r : Addr} {as : List Addr} {n : Nat} {L : Nat → Nat} (h : fm M0 M r as n L) {i : Nat} {a : Addr} (ha : as[i]? = some a) {row : List Int} {m : Nat} (o : gA n m row) : fm M0 (az M a (.lst (row.map .int))) r as n fun j => if j = i then m else L j := by
  have hm := List.mem_of_getElem? ha
  obtain ⟨f0, f1⟩ := h.fr a hm
  refine ⟨⟨.upd f0 h.own.kp, fun b o e => ?_⟩, h.r0, by rw [ai (Ne.symm f1)]; exact h.rm, h.fr, h.nd, h.len, fun j c hc => ?_, fun b bs e => ?_⟩
  · by_cases z : b = a
    · subst z; rw [updM_same] at e; cases e; exact .inr (.inl ⟨row, rfl⟩)
    · rw [ai z] at e
      rcases h.own.pin b o e with q | q | ⟨bs, q1, q2⟩
      · exact .inl q
      · exact .inr (.inl q)
      · refine .inr (.inr ⟨bs, q1, fun c hc => ?_⟩)
        by_cases z : c = a
        · subst z; exact ⟨_, updM_same⟩
        · rw [ai z]; exact q2 c hc
  · by_cases z : j = i
    · subst z
      rw [ha] at hc; cases hc
      exact ⟨row, updM_same, by rw [if_pos rfl]; exact o⟩
    · have JG : c ≠ a := fun e => z (by
        subst e
        obtain ⟨h1, e1⟩ := List.getElem?_eq_some_iff.mp ha
        obtain ⟨h2, e2⟩ := List.getElem?_eq_some_iff.mp hc
        rcases Nat.lt_trichotomy j i with q | q | q
        · exact absurd (e2.trans e1.symm) (List.pairwise_iff_getElem.mp h.nd j i h2 h1 q)
        · exact q
        · exact absurd (e1.trans e2.symm) (List.pairwise_iff_getElem.mp h.nd i j h1 h2 q))
      rw [ai JG, if_neg z]; exact h.rows j c hc
  · by_cases z : b = a
    · subst z
      rw [updM_same] at e
      cases row with
      | nil => cases bs with
        | nil => exact .inr (.inr rfl)
        | cons c bs => simp at e
      | cons x row => cases bs with
        | nil => exact .inr (.inr rfl)
        | cons c bs => simp at e
    · rw [ai z] at e; exact h.ptr b bs e
theorem fm.full {M0 M : Mh} {r : Addr} {as : List Addr} {n ways : Nat} {L : Nat → Nat} (h : fm M0 M r as n L) (hL : ∀ i, i < n → L i = ways) : d8 M0 M r as n ways := by
  refine ⟨h.own.kp, h.r0, h.rm, h.fr, h.len, fun a ha => ?_, fun b o e => ?_⟩
  · obtain ⟨i, hi⟩ := List.mem_iff_getElem?.mp ha
    obtain ⟨row, e, o⟩ := h.rows i a hi
    rw [hL i (by rw [← h.len]; exact (List.getElem?_eq_some_iff.mp hi).1)] at o
    exact ⟨row, e, o⟩
  · rcases h.own.pin b o e with q | q | ⟨bs, rfl, q2⟩
    · exact .inl q
    · exact .inr (.inr (.inl q))
    · rcases h.ptr b bs e with z | z | z
      · exact .inr (.inl z)
      · exact .inl z
      · subst z; exact .inr (.inr (.inl ⟨[], rfl⟩))
theorem fm.tJ {M0 M : Mh} {r : Addr} {as : List Addr} {n : Nat} {L L' : Nat → Nat} (h : fm M0 M r as n L) (e : ∀ i, i < n → L i = L' i) : fm M0 M r as n L' :=
  ⟨h.own, h.r0, h.rm, h.fr, h.nd, h.len, fun i a ha => by
    have := h.rows i a ha
    rwa [e i (by rw [← h.len]; exact (List.getElem?_eq_some_iff.mp ha).1)] at this, h.ptr⟩
theorem bS.nodup {n : Nat} {os : List Int} (h : bS n os) : os.Nodup := by
  refine h.perm.nodup_iff.mpr ?_
  exact List.pairwise_map.mpr (List.nodup_range.imp fun h e => h (by omega))
theorem bS.prev {n : Nat} {os : List Int} (h : bS n os) {k : Nat} (hk : k < n) : ∃ p : Nat, bU (os.map Dv.int) ((k : Int) - 1) = some (.int (p : Nat)) ∧ p < n := by
  have hl := h.len
  obtain ⟨j, hj, e⟩ : ∃ j : Nat, j < n ∧ ez n ((k : Int) - 1) = some j := by
    unfold ez
    by_cases z : k = 0
    · exact ⟨n - 1, by omega, by rw [if_neg (by omega), if_pos (by omega)]; congr 1; omega⟩
    · exact ⟨k - 1, by omega, by rw [if_pos (by omega), if_pos (by omega)]; congr 1; omega⟩
  have Gv : j < os.length := by omega
  obtain ⟨g0, g1⟩ := h.mem (List.getElem_mem Gv)
  refine ⟨os[j].toNat, ?_, by omega⟩
  unfold bU
  rw [List.length_map, hl, e]
  show (os.map Dv.int)[j]? = _
  rw [List.getElem?_map, List.getElem?_eq_getElem Gv]
  show some (Dv.int os[j]) = _
  congr 2
  omega
theorem z7 (x : Int) (k : Nat) : (List.replicate k [Dv.int x]).flatten = (List.replicate k x).map Dv.int := by
  induction k with
  | zero => rfl
  | succ k ih => rw [List.replicate_succ, List.flatten_cons, ih, List.replicate_succ]; rfl
theorem tK {f f1 f2 : Addr} {fd bQ fd2 : FuncData} (D : Df K mg "_law_net" dv ["_law_bag_here", "_law_most"] f fd)
    (au : Df K mg "_law_take" dH ["_law_bag_here", "_law_many"] f1 bQ) (bC : FnOk P w K mg base bj 1 f1 bQ ["_law_bag_here", "_law_many"] (aX P w K tb oO))
    (bo : Df K mg "_law_order" dS ["_law_bag_here", "_law_many"] f2 fd2) (g5 : FnOk P w K mg base bj 2 f2 fd2 ["_law_bag_here", "_law_many"] (aX P w K tb qi)) (bl : Bl mg) : FnOk P w K mg base bj 3 f fd ["_law_bag_here", "_law_most"] (aX P w K tb yR) := by
  refine dQ D aY (fun ds M Q E hS => by obtain ⟨b, n, e, _⟩ := hS; rw [e]; rfl) fun A outer s E Γ ds Q' E' hP hw hK ht hr hS => ?_
  obtain ⟨b, most, e, hb, h1, h9, q⟩ := hS
  refine ⟨_, (ah (aL (i := 2) aY.nd rfl (Or.inl rfl) (aR gr af (aE bC (hr.mono (by decide)) rfl au.mg au.fn.kp au.bd bz hP hw hK ht XR.none (aa (qv 0) (aa (qv 1) ae)))))
    (ah (aL (i := 3) aY.nd rfl (Or.inl rfl) (aR gr af (aE bC (hr.mono (by decide)) rfl au.mg au.fn.kp au.bd bz hP hw hK ht XR.none (aa (qv 0) (aa af ae)))))
    (ah (aL (i := 4) aY.nd rfl (Or.inl rfl) (aE bC (hr.mono (by decide)) rfl au.mg au.fn.kp au.bd bz hP hw hK ht XR.none (aa (qv 0) (aa af ae))))
    (ah (aL (i := 5) aY.nd rfl (Or.inr rfl) af)
    (ah (cO (bN tu (qv 4) af (b5 _))
      (ah (aL (i := 5) aY.nd rfl (Or.inr rfl) (aN (pT rfl) rfl bl.min_ pC (aa (aR gr af (aE bC (hr.mono (by decide)) rfl au.mg au.fn.kp au.bd bz hP hw hK ht XR.none (aa (qv 0) (aa af ae)))) (aa (qv 2) ae))))
    (av (aL (i := 2) aY.nd rfl (Or.inl rfl) (aR iY (aR pO (qv 2) (qv 5)) (qv 5)))))
      qss_nil)
    (ah (aL (i := 6) aY.nd rfl (Or.inr rfl) (aE g5 (hr.mono (by decide)) rfl bo.mg bo.fn.kp bo.bd bz hP hw hK ht XR.none (aa (qv 0) (aa (qv 2) ae))))
    (ah (qV (i := 7) aY.nd rfl rfl (N' := ["_law_place"]) (tn := 1) (idx := []) rfl (show aG ["_law_bag_here", "_law_most", "_law_many", "_law_fans", "_law_kind", "_law_lap", "_law_order_here", "_law_rows", "_law_k", "_law_goals", "_law_fan"] (ak dv) _ ["_law_place"] 1 [] from by decide +kernel) (cy rfl bl.range_ (aa (qv 2) ae)) (fun _ _ _ _ _ => (aV (i := 0) (show List.Nodup [("_law_place" : Str)] from by decide +kernel) rfl (Or.inl rfl))) (fun _ _ _ _ _ => cH) (fun _ _ _ _ _ => (iL ae)))
    (ah (dE PassesOwn.never rfl (cy rfl bl.range_ (aa (qv 2) ae)) (fun jl eP ew eK et => by have hP := hP.trans eP.symm; have hw := hw.trans ew.symm; have hK := hK.trans eK.symm; have ht := ht.trans et.symm; exact ⟨(aV (i := 8) aY.nd rfl (Or.inr rfl)), (ah (tF (i := 9) aY.nd rfl rfl (N' := ["_law_j", "_law_order_here", "_law_lap", "_law_k"]) (tn := 1) (idx := [6, 5, 8]) rfl (show aG ["_law_bag_here", "_law_most", "_law_many", "_law_fans", "_law_kind", "_law_lap", "_law_order_here", "_law_rows", "_law_k", "_law_goals", "_law_fan"] (ak dv) _ ["_law_j", "_law_order_here", "_law_lap", "_law_k"] 1 [6, 5, 8] from by decide +kernel) (cy rfl bl.range_ (aa (qv 2) ae)) (fun _ _ _ _ _ => (aV (i := 0) (show List.Nodup [("_law_j" : Str), ("_law_order_here" : Str), ("_law_lap" : Str), ("_law_k" : Str)] from by decide +kernel) rfl (Or.inl rfl))) (fun _ _ _ _ _ => (zP (bN tu (aR ie (qv 0) (qv 2)) (aR ie (aR gr (qv 3) af) (qv 2)) (b5 _)))) (fun _ _ _ _ _ => (bL (cU (K := K) rfl) (qv 1) (qv 0) (fun _ _ => rfl))))
    (av (dE PassesOwn.never rfl (cy rfl bl.range_ (aa (qv 3) ae)) (fun jl eP ew eK et => by have hP := hP.trans eP.symm; have hw := hw.trans ew.symm; have hK := hK.trans eK.symm; have ht := ht.trans et.symm; exact ⟨(aV (i := 10) aY.nd rfl (Or.inl rfl)), (av (dF (gu (K := K) rfl PySem.F.plainAttrs_list PySem.F.slot_list_append PySem.F.type_list_append i5 (bL (cU (K := K) rfl) (qv 7) (bL (cU (K := K) rfl) (qv 6) (qv 8) (fun _ _ => rfl)) (fun _ _ => rfl)) (aa (bL (cU (K := K) rfl) (qv 9) (aE bC (hr.mono (by decide)) rfl au.mg au.fn.kp au.bd bz hP hw hK ht XR.none (aa (qv 0) (aa (aN (dX (K := K) rfl hK) rfl bl.len_ PySem.boot_len (aa (qv 9) ae)) ae))) (fun _ _ => rfl)) ae))))⟩))))⟩))
    (ah (cO (bN xn (qv 4) af (b5 _))
      (av (dE PassesOwn.never rfl (cy rfl bl.range_ (aa (qv 2) ae)) (fun jl eP ew eK et => by have hP := hP.trans eP.symm; have hw := hw.trans ew.symm; have hK := hK.trans eK.symm; have ht := ht.trans et.symm; exact ⟨(aV (i := 8) aY.nd rfl (Or.inr rfl)), (av (jL (bL (cU (K := K) rfl) (qv 6) (qv 8) (fun _ _ => rfl)) (jP (bL (cU (K := K) rfl) (qv 7) (bL (cU (K := K) rfl) (qv 6) (aR tm (qv 8) af) (fun _ _ => rfl)) (fun _ _ => rfl)) (aE bC (hr.mono (by decide)) rfl au.mg au.fn.kp au.bd bz hP hw hK ht XR.none (aa (qv 0) (aa (qv 3) ae))))))⟩)))
      qss_nil)
    (ah (cO (bN tu (qv 4) af (b5 _))
      (ah (dE PassesOwn.never rfl (cy rfl bl.range_ (aa (qv 2) ae)) (fun jl eP ew eK et => by have hP := hP.trans eP.symm; have hw := hw.trans ew.symm; have hK := hK.trans eK.symm; have ht := ht.trans et.symm; exact ⟨(aV (i := 8) aY.nd rfl (Or.inr rfl)), (av (jL (aR CY (fW (aa (bL (cU (K := K) rfl) (qv 6) (qv 8) (fun _ _ => rfl)) ae)) (qv 3)) (jP (qv 7) (bL (cU (K := K) rfl) (qv 6) (aR tm (qv 8) af) (fun _ _ => rfl)))))⟩))
    (av (jL (aE bC (hr.mono (by decide)) rfl au.mg au.fn.kp au.bd bz hP hw hK ht XR.none (aa (qv 0) (aa (qv 2) ae))) (jP (bL (cU (K := K) rfl) (qv 7) af (fun _ _ => rfl)) af))))
      qss_nil)
    (av (vw 7 rfl (a8 (eZ (mI (K := K) rfl) rfl bl.tuple_ fA (aa (eE (N' := ["_law_row"]) (tn := 1) (idx := []) rfl (show aG ["_law_bag_here", "_law_most", "_law_many", "_law_fans", "_law_kind", "_law_lap", "_law_order_here", "_law_rows", "_law_k", "_law_goals", "_law_fan"] (ak dv) _ ["_law_row"] 1 [] from by decide +kernel) (iM (K := K) rfl (qv 7)) (fun _ _ _ _ _ => (aV (i := 0) (show List.Nodup [("_law_row" : Str)] from by decide +kernel) rfl (Or.inl rfl))) (fun _ _ _ _ _ => cH) (fun _ _ _ _ _ => (eZ (mI (K := K) rfl) rfl bl.tuple_ fA (aa (qv 0) ae)))) ae))))))))))))))), ?_⟩
  subst e
  have big : (100 : Nat) < sizeLine := by decide
  refine Ff (fun ρ M => M = Γ.M0 ∧ ∃ (n ways kind b9 : Nat), ρ = [some (.ptr b), some (.int (most : Nat)), some (.int (n : Nat)), some (.int (ways : Nat)), some (.int (kind : Nat)), some (.int (b9 : Nat)), none, none, none, none, none] ∧ 1 ≤ n ∧ n ≤ most ∧ (ways = 2 ∨ ways = 3) ∧ 1 ≤ b9 ∧ b9 ≤ n) (fun N hN => ?_) ?_
  · simp! only []
    refine ⟨b, _, rfl, hb, by omega, by omega, fun m hm => ?_⟩
    obtain ⟨n, hn⟩ : ∃ n : Nat, (1 + (m : Int)) = (n : Nat) := ⟨1 + m, by omega⟩
    have n1 : 1 ≤ n := by omega
    have n9 : n ≤ most := by omega
    simp! only [hn]
    refine ⟨b, _, rfl, hb, by omega, by omega, fun v hv => ?_⟩
    obtain ⟨ways, Fl⟩ : ∃ ways : Nat, (2 + (v : Int)) = (ways : Nat) := ⟨2 + v, by omega⟩
    have w2 : ways = 2 ∨ ways = 3 := by omega
    simp! only [Fl]
    refine ⟨b, _, rfl, hb, by omega, by omega, fun kind oF => ?_⟩
    simp! only []
    refine fY (fun h => ?_) (fun h => hN _ _ ⟨rfl, n, ways, kind, 1, rfl, n1, n9, w2, by omega, n1⟩)
    refine ⟨b, _, rfl, hb, by omega, by omega, fun t ht => ?_⟩
    obtain ⟨b9, HM, l1, ln⟩ : ∃ b9 : Nat, (if (n : Int) < 2 + (t : Int) then (n : Int) else 2 + (t : Int)) = (b9 : Nat) ∧ 1 ≤ b9 ∧ b9 ≤ n := by
      by_cases z : (n : Int) < 2 + (t : Int)
      · exact ⟨n, by rw [if_pos z], n1, Nat.le_refl _⟩
      · exact ⟨2 + t, by rw [if_neg z]; omega, by omega, by omega⟩
    simp only [HM]
    have en : (n : Int) / (b9 : Int) * (b9 : Int) = ((n / b9 * b9 : Nat) : Int) := by push_cast; rfl
    have d1 : n / b9 * b9 ≤ n := Nat.div_mul_le_self n b9
    have d2 : b9 ≤ n / b9 * b9 := by
      have : 1 ≤ n / b9 := Nat.div_pos ln (by omega)
      exact Nat.le_mul_of_pos_left b9 this
    rw [en]
    exact ⟨⟨by omega, by omega⟩, .inr ⟨by omega, by omega⟩, hN _ _ ⟨rfl, n / b9 * b9, ways, kind, b9, rfl, by omega, by omega, w2, l1, d2⟩⟩
  rintro ρ M ⟨rfl, n, ways, kind, b9, rfl, n1, n9, w2, l1, ln⟩
  refine Fe (fun ρ M => ∃ (r : Addr) (as : List Addr) (os : List Int) (x8 x9 f9 : Option Dv), (bF x8 ∧ bF x9 ∧ bF f9) ∧ ρ = [some (.ptr b), some (.int (most : Nat)), some (.int (n : Nat)), some (.int (ways : Nat)), some (.int (kind : Nat)), some (.int (b9 : Nat)), some (jk os), some (.ptr r), x8, x9, f9] ∧ d8 Γ.M0 M r as n ways ∧ bS n os) (fun N hN => ?_) ?_
  · simp! only []
    refine ⟨b, n, rfl, hb, by omega, fun os dO => ?_⟩
    have Gw := dO.len
    simp! only []
    refine ⟨by omega, by omega, by omega, i7 (acc := []) (fun acc τ M => ∃ as : List Addr, acc = as.map Dv.ptr ∧ (∃ x, τ = [x]) ∧ kY Γ.M0 M ∧ as.Nodup ∧ (∀ a ∈ as, Γ.M0 a = none ∧ M a = some (.lst [])) ∧ ∀ c (bs : List Addr), M c = some (.lst (bs.map .ptr)) → Γ.M0 c = some (.lst (bs.map .ptr)) ∨ bs = []) ⟨[], rfl, ⟨_, rfl⟩, .refl, .nil, (fun _ h => nomatch h), fun c bs e => .inl e⟩ (fun i d acc τ M hd _ hJ R hR => ?_) (fun ys τ M hl hJ => ?_)⟩
    · obtain ⟨as, rfl, ⟨x, rfl⟩, hO, De, ha, hp⟩ := hJ
      simp! only []
      refine ⟨by omega, fun a hn => hR _ _ _ ⟨as ++ [a], by rw [List.map_append]; rfl, ⟨_, rfl⟩, hO.row hn [], ?_, fun c hc => ?_, fun c bs e => ?_⟩⟩
      · rw [List.nodup_append]
        refine ⟨De, by simp, fun x hx y hy e => ?_⟩
        rw [List.mem_singleton] at hy
        subst e hy
        rw [(ha _ hx).2] at hn; cases hn
      · rcases List.mem_append.mp hc with z | z
        · obtain ⟨q1, q2⟩ := ha c z
          have ne : c ≠ a := fun q => by rw [q, hn] at q2; cases q2
          exact ⟨q1, by rw [ai ne]; exact q2⟩
        · rw [List.mem_singleton] at z
          subst z
          exact ⟨gB hO.kp hn, updM_same⟩
      · by_cases z : c = a
        · subst z
          rw [updM_same] at e
          cases bs with
          | nil => exact .inr rfl
          | cons y bs => simp at e
        · rw [ai z] at e; exact hp c bs e
    · obtain ⟨as, e1, ⟨x, rfl⟩, hO, De, ha, hp⟩ := hJ
      rw [List.nil_append] at e1
      subst e1
      intro r gp
      have HN : as.length = n := by simpa [rangeD_len] using hl
      have ne : ∀ {c o}, M c = some o → c ≠ r := fun e z => by rw [z, gp] at e; cases e
      have RF : fm Γ.M0 (az M r (.lst (as.map .ptr))) r as n fun _ => 0 := by
        refine ⟨⟨.upd (gB hO.kp gp) hO.kp, fun c o e => ?_⟩, gB hO.kp gp, updM_same, fun a h => ⟨(ha a h).1, ne (ha a h).2⟩, De, HN, fun i a h => ?_, fun c bs e => ?_⟩
        · by_cases z : c = r
          · subst z; rw [updM_same] at e; cases e
            exact .inr (.inr ⟨as, rfl, fun a h => ⟨_, by rw [ai (ne (ha a h).2)]; exact (ha a h).2⟩⟩)
          · rw [ai z] at e
            rcases hO.pin c o e with q | q | ⟨bs, q1, q2⟩
            · exact .inl q
            · exact .inr (.inl q)
            · refine .inr (.inr ⟨bs, q1, fun y hy => ?_⟩)
              obtain ⟨u, hu⟩ := q2 y hy
              exact ⟨u, by rw [ai (ne hu)]; exact hu⟩
        · have hm := ha a (List.mem_of_getElem? h)
          exact ⟨[], by rw [ai (ne hm.2)]; exact hm.2, rfl, fun _ h => nomatch h⟩
        · by_cases z : c = r
          · exact .inl z
          · rw [ai z] at e; exact .inr (hp c bs e)
      refine ⟨by omega, by omega, ?_⟩
      refine b7 (fun i ρ M => ∃ x8 x9 f9, (bF x8 ∧ bF x9 ∧ bF f9) ∧ ρ = [some (.ptr b), some (.int (most : Nat)), some (.int (n : Nat)), some (.int (ways : Nat)), some (.int (kind : Nat)), some (.int (b9 : Nat)), some (jk os), some (.ptr r), x8, x9, f9] ∧ fm Γ.M0 M r as n (fun j => if ((j : Nat) : Int) ∈ os.take i then ways else 0))
        ⟨_, _, _, ⟨.none, .none, .none⟩, rfl, RF.tJ fun i _ => by simp⟩ (fun i d ρ M N2 hd hJ gZ => ?_) (fun ρ M hJ => ?_)
      · obtain ⟨x8, x9, f9, ⟨p8, p9, nZ⟩, rfl, RF⟩ := hJ
        obtain ⟨rfl, hi⟩ := cQ hd
        have yW : i < os.length := by omega
        obtain ⟨g0, g1⟩ := dO.mem (List.getElem_mem yW)
        obtain ⟨pk, Dg⟩ := Int.eq_ofNat_of_zero_le g0
        have Gx : pk < n := by omega
        have pB : bU (os.map Dv.int) ((i : Nat) : Int) = some (.int (pk : Nat)) := da (by rw [List.getElem?_map, List.getElem?_eq_getElem yW, Dg]; rfl)
        have Dh : pk < as.length := by omega
        have JH : bU (as.map Dv.ptr) ((pk : Nat) : Int) = some (.ptr as[pk]) := da (by rw [List.getElem?_map, List.getElem?_eq_getElem Dh]; rfl)
        have Gy : as[pk]? = some as[pk] := List.getElem?_eq_getElem Dh
        have HP : ((pk : Nat) : Int) ∉ os.take i := fun z => by
          obtain ⟨j, hj, e⟩ := List.mem_iff_getElem.mp z
          rw [List.getElem_take, ← Dg] at e
          rw [List.length_take] at hj
          exact List.pairwise_iff_getElem.mp dO.nodup j i (by omega) yW (by omega) e
        simp! only []
        refine ⟨by omega, by omega, by omega, mK (xG b9 i) (fun d => .int (me os d)) (fun τ M' => (∃ x, τ = [x, some (jk os), some (.int (b9 : Nat)), some (.int (i : Nat))]) ∧ M' = M) ⟨⟨_, rfl⟩, rfl⟩ (fun d hd τ M' hI R0 R h1 h2 => ?_) (fun τ M' hI => ?_)⟩
        · obtain ⟨⟨x, rfl⟩, rfl⟩ := hI
          obtain ⟨j, hj, rfl⟩ := l0 hd
          simp only [Int.zero_add] at h1 h2 ⊢
          obtain ⟨gx, yV, g0, g1⟩ := dO.at hj
          have hg : me os (.int (j : Nat)) = gx := ql yV
          simp! only [yV]
          refine ⟨by omega, by omega, fY (fun h => ?_) (fun h => ?_)⟩
          · rw [hg] at h1
            exact h1 h _ _ ⟨⟨_, rfl⟩, rfl⟩
          · exact h2 h _ _ ⟨⟨_, rfl⟩, rfl⟩
        · obtain ⟨⟨x, rfl⟩, rfl⟩ := hI
          obtain ⟨gs, JI, Ks, Kt, JK⟩ := xH (i := i) dO (per := b9) (by omega) (by omega)
          rw [JI]
          refine ⟨by omega, by omega, ?_⟩
          refine b7 (fun f ρ M => (∃ f9, bF f9 ∧ ρ = [some (.ptr b), some (.int (most : Nat)), some (.int (n : Nat)), some (.int (ways : Nat)), some (.int (kind : Nat)), some (.int (b9 : Nat)), some (jk os), some (.ptr r), some (.int (i : Nat)), some (jk gs), f9]) ∧ fm Γ.M0 M r as n (fun j => if j = pk then f else if ((j : Nat) : Int) ∈ os.take i then ways else 0))
            ⟨⟨_, nZ, rfl⟩, RF.tJ fun j _ => by
              by_cases z : j = pk
              · subst z; rw [if_neg HP, if_pos rfl]
              · rw [if_neg z]⟩ (fun f d ρ M N3 hd hJ Di => ?_) (fun ρ M hJ => ?_)
          · obtain ⟨⟨f9, nZ, rfl⟩, RF⟩ := hJ
            obtain ⟨rfl, hf⟩ := cQ hd
            obtain ⟨row, em, ro⟩ := RF.rows pk _ Gy
            rw [if_pos rfl] at ro
            simp! only [pB, RF.rm, JH, em]
            refine ⟨b, _, rfl, RF.own.kp _ _ hb, by omega, by omega, fun t ht => ?_⟩
            have GA : t < gs.length := by omega
            simp only [show bU (gs.map Dv.int) (t : Int) = some (.int gs[t]) from da (by rw [List.getElem?_map, List.getElem?_eq_getElem GA]; rfl), em, List.length_map, ro.1]
            have JL := JK _ (List.getElem_mem GA)
            have er : row.map Dv.int ++ [Dv.int gs[t]] = (row ++ [gs[t]]).map Dv.int := by rw [List.map_append]; rfl
            rw [er]
            refine ⟨by omega, Di _ _ ⟨⟨_, .int _, rfl⟩, (RF.set Gy (row := row ++ [gs[t]]) (m := f + 1) ⟨by rw [List.length_append, ro.1]; rfl, fun y hy => ?_⟩).tJ fun j _ => ?_⟩⟩
            · rcases List.mem_append.mp hy with z | z
              · exact ro.2 y z
              · rw [List.mem_singleton.mp z]; exact JL
            · by_cases z : j = pk
              · rw [if_pos z, if_pos z]
              · rw [if_neg z, if_neg z, if_neg z]
          · obtain ⟨⟨f9, nZ, rfl⟩, RF⟩ := hJ
            rw [rangeD_len] at RF
            refine gZ _ _ ⟨_, _, _, ⟨.int _, .lI gs, nZ⟩, rfl, RF.tJ fun j _ => ?_⟩
            have xI : ((j : Nat) : Int) ∈ os.take (i + 1) ↔ ((j : Nat) : Int) ∈ os.take i ∨ j = pk := by
              rw [List.take_add_one, List.mem_append, List.getElem?_eq_getElem yW, Dg]
              constructor
              · rintro (z | z)
                · exact .inl z
                · have : ((j : Nat) : Int) = (pk : Nat) := by simpa using z
                  exact .inr (by omega)
              · rintro (z | z)
                · exact .inl z
                · exact .inr (by simp [z])
            by_cases z : j = pk
            · rw [if_pos z, if_pos (xI.mpr (.inr z))]
            · rw [if_neg z]
              by_cases y : ((j : Nat) : Int) ∈ os.take i
              · rw [if_pos y, if_pos (xI.mpr (.inl y))]
              · rw [if_neg y, if_neg (fun q => (xI.mp q).elim y z)]
      · obtain ⟨x8, x9, f9, ⟨p8, p9, nZ⟩, rfl, RF⟩ := hJ
        rw [rangeD_len] at RF
        refine hN _ _ ⟨r, as, os, _, _, _, ⟨p8, p9, nZ⟩, rfl, RF.full fun j hj => ?_, dO⟩
        rw [List.take_of_length_le (by omega), if_pos (dO.perm.mem_iff.mpr (List.mem_map.mpr ⟨j, List.mem_range.mpr hj, rfl⟩))]
  rintro ρ M ⟨r, as, os, x8, x9, f9, ⟨p8, p9, nZ⟩, rfl, RM, dO⟩
  have Gw := dO.len
  have Dj : ∀ {as : List Addr} {M : Mh} {p : Nat}, d8 Γ.M0 M r as n ways → p < n → ∃ a, bU (as.map Dv.ptr) ((p : Nat) : Int) = some (.ptr a) ∧ a ∈ as := fun {as M p} RM hp => by
    have hl : p < as.length := by rw [RM.len]; exact hp
    exact ⟨as[p], da (by rw [List.getElem?_map, List.getElem?_eq_getElem hl]; rfl), List.getElem_mem hl⟩
  refine yN (fun ρ M => ∃ (as : List Addr) (x8 : Option Dv), bF x8 ∧ ρ = [some (.ptr b), some (.int (most : Nat)), some (.int (n : Nat)), some (.int (ways : Nat)), some (.int (kind : Nat)), some (.int (b9 : Nat)), some (jk os), some (.ptr r), x8, x9, f9] ∧ d8 Γ.M0 M r as n ways) (fun N hN => ?_) ?_
  · simp! only []
    refine fY (fun h => ⟨by omega, by omega, ?_⟩) (fun _ => hN _ _ ⟨as, _, p8, rfl, RM⟩)
    refine b7 (fun i ρ M => ∃ (as : List Addr) (x8 : Option Dv), bF x8 ∧ ρ = [some (.ptr b), some (.int (most : Nat)), some (.int (n : Nat)), some (.int (ways : Nat)), some (.int (kind : Nat)), some (.int (b9 : Nat)), some (jk os), some (.ptr r), x8, x9, f9] ∧ d8 Γ.M0 M r as n ways) ⟨as, _, p8, rfl, RM⟩ (fun i d ρ M N2 hd hJ gZ => ?_) (fun ρ M hJ => hN _ _ hJ)
    obtain ⟨as, x8, p8, rfl, RM⟩ := hJ
    obtain ⟨rfl, hi⟩ := cQ hd
    obtain ⟨p, hp, pn⟩ := dO.prev hi
    obtain ⟨g, hg, g0, g1⟩ := dO.at hi
    obtain ⟨a, ea, ha⟩ := Dj RM pn
    obtain ⟨row, em, ro⟩ := RM.row a ha
    simp! only [hg, hp, RM.rm, ea]
    refine ⟨b, _, rfl, RM.kp _ _ hb, by omega, by omega, fun t ht => ?_⟩
    simp only [em, List.length_map, ro.1, mR (show t < ways by omega)]
    rw [qk]
    exact gZ _ _ ⟨as, _, .int _, rfl, RM.Dd ha (ro.set g0 g1)⟩
  rintro ρ M ⟨as, x8, p8, rfl, RM⟩
  refine yN (fun ρ M => ∃ (as : List Addr) (x8 : Option Dv), bF x8 ∧ ρ = [some (.ptr b), some (.int (most : Nat)), some (.int (n : Nat)), some (.int (ways : Nat)), some (.int (kind : Nat)), some (.int (b9 : Nat)), some (jk os), some (.ptr r), x8, x9, f9] ∧ d8 Γ.M0 M r as n ways) (fun N hN => ?_) ?_
  · simp! only []
    refine fY (fun h => ⟨by omega, by omega, ?_⟩) (fun _ => hN _ _ ⟨as, _, p8, rfl, RM⟩)
    refine b7 (fun i ρ M => ∃ (as : List Addr) (x8 : Option Dv), bF x8 ∧ ρ = [some (.ptr b), some (.int (most : Nat)), some (.int (n : Nat)), some (.int (ways : Nat)), some (.int (kind : Nat)), some (.int (b9 : Nat)), some (jk os), some (.ptr r), x8, x9, f9] ∧ d8 Γ.M0 M r as n ways) ⟨as, _, p8, rfl, RM⟩ (fun i d ρ M N2 hd hJ gZ => ?_) (fun ρ M hJ => ?_)
    · obtain ⟨as, x8, p8, rfl, RM⟩ := hJ
      obtain ⟨rfl, hi⟩ := cQ hd
      obtain ⟨p, hp, pn⟩ := dO.prev hi
      obtain ⟨g, hg, g0, g1⟩ := dO.at hi
      simp! only [hg, hp]
      refine ⟨by omega, ⟨by omega, by omega, by omega⟩, fun a rY => ?_⟩
      have nr : r ≠ a := fun z => by rw [← z, RM.rm] at rY; cases rY
      rw [z7]
      simp only [ai nr, RM.rm, List.length_map, RM.len, mR pn]
      exact gZ _ _ ⟨_, _, .int _, rfl, RM.put rY ⟨by rw [List.length_replicate], fun x hx => by rw [List.eq_of_mem_replicate hx]; exact ⟨g0, g1⟩⟩ pn⟩
    · obtain ⟨as, x8, p8, rfl, RM⟩ := hJ
      obtain ⟨a, ea, ha⟩ := Dj RM (p := 0) (by omega)
      have ea : bU (as.map Dv.ptr) 0 = some (.ptr a) := ea
      obtain ⟨row, em, ro⟩ := RM.row a ha
      simp! only []
      refine ⟨b, _, rfl, RM.kp _ _ hb, by omega, by omega, fun t ht => ?_⟩
      simp! only [RM.rm, ea, em, ro.1, show ez ways 0 = some 0 from mR (d := 0) (by omega)]
      rw [qk]
      exact hN _ _ ⟨as, _, p8, rfl, RM.Dd ha (ro.set (by omega) (by omega))⟩
  rintro ρ M ⟨as, x8, p8, rfl, RM⟩
  have nb : ∀ {c o}, Γ.M0 c = some o → c ≠ r := fun e z => by rw [z, RM.r0] at e; cases e
  have dk : Keeps Γ.M0 (cF M r) := fun c o e => by rw [bM (nb e)]; exact RM.kp c o e
  refine .inr ⟨r, _, rfl, RM.rm, RM.r0, ⟨fun j d e => ?_, fun c o e => ?_⟩, ?_⟩
  · match j, e with
    | 0, e => cases e; exact .ptr (by rw [dk _ _ hb]; rfl)
    | 1, e => cases e; exact .int _
    | 2, e => cases e; exact .int _
    | 3, e => cases e; exact .int _
    | 4, e => cases e; exact .int _
    | 5, e => cases e; exact .int _
    | 6, e => cases e; exact .lst (fE _)
    | 7, e => cases e; exact .lst fun d hd => by
                obtain ⟨a, ha, rfl⟩ := List.mem_map.mp hd
                obtain ⟨row, em, _⟩ := RM.row a ha
                exact .ptr (by rw [bM (RM.fr a ha).2, em]; rfl)
    | 8, e => exact p8 _ _ (Option.some.inj e)
    | 9, e => exact p9 _ _ (Option.some.inj e)
    | 10, e => exact nZ _ _ (Option.some.inj e)
    | j + 11, e => exact nomatch e
  · have nc : c ≠ r := fun z => by rw [z, cR] at e; cases e
    rw [bM nc] at e
    rcases RM.pin c o e with q | q | ⟨row, rfl⟩ | ⟨bs, rfl, q2⟩
    · exact .inl q
    · exact absurd q nc
    · exact .inr (fE row)
    · refine .inr fun d hd => ?_
      obtain ⟨a, ha, rfl⟩ := List.mem_map.mp hd
      obtain ⟨h1, u, h2⟩ := q2 a ha
      exact .ptr (by rw [bM h1, h2]; rfl)
  · simp! only []
    refine ⟨by rw [RM.len]; omega, i7 (acc := []) (fun acc τ M' => ∃ rs : List (List Int), acc = rs.map eI ∧ (∃ x, τ = [x]) ∧ (∀ row ∈ rs, gA n ways row) ∧ M' = cF M r) ⟨[], rfl, ⟨_, rfl⟩, (fun _ h => nomatch h), rfl⟩ (fun i d acc τ M' hd _ ⟨rs, e1, ⟨x, e2⟩, yX, eM⟩ R hR => ?_) (fun ys τ M' hl ⟨rs, e1, ⟨x, e2⟩, yX, eM⟩ => ?_)⟩
    · subst e1 e2 eM
      obtain ⟨a, ha, rfl⟩ := qa hd
      have ha := List.mem_of_getElem? ha
      obtain ⟨row, em, ro⟩ := RM.row a ha
      simp! only [bM (RM.fr a ha).2, em]
      refine hR _ _ _ ⟨rs ++ [row], by rw [List.map_append]; rfl, ⟨_, rfl⟩, fun c hc => ?_, rfl⟩
      rcases List.mem_append.mp hc with z | z
      · exact yX c z
      · rw [List.mem_singleton] at z; rw [z]; exact ro
    · rw [List.nil_append] at e1
      subst e1 e2 eM
      have JM : rs.length = n := by rw [List.length_map, List.length_map, RM.len] at hl; exact hl
      exact nU dk (jQ rs) (q rs ways ⟨by omega, by omega, w2, fun row hr => ⟨(yX row hr).1, fun g hg => by rw [JM]; exact (yX row hr).2 g hg⟩⟩ (by omega))
end
section
variable {P : Program} {w : World} {K : PySem.W.Frag} {mg : Str → Option Value} {base : Heap} {tb : cM}
theorem qZ : aS ["thing"] ["thing"] (ak dY) := ⟨rfl, rfl, rfl, by decide +kernel, rfl, by decide +kernel, by decide +kernel⟩
theorem kb : aS ["thing", "many"] ["thing", "many"] (ak cD) := ⟨rfl, rfl, rfl, by decide +kernel, rfl, by decide +kernel, by decide +kernel⟩
theorem vJ : aS ["thing", "many", "width"] ["thing", "many", "width"] (ak gX) := ⟨rfl, rfl, rfl, by decide +kernel, rfl, by decide +kernel, by decide +kernel⟩
theorem jS : aS ["thing", "many", "width"] ["thing"] (ak gY) := ⟨rfl, rfl, rfl, by decide +kernel, rfl, by decide +kernel, by decide +kernel⟩
noncomputable def kZ (d : Dv) : Bool := (isD "int" (fun _ => none) d).isSome
noncomputable def vK : Dv → Bool | .int _ => true | _ => false
noncomputable def cS (m : Int) : Dv → Bool | .int i => decide (0 ≤ i) && decide (i < m) | _ => false
noncomputable def Dk : dh := fun ds M Q _ => ∃ d, ds = [d] ∧ kZ d = true ∧ Q (.bl (vK d)) M
theorem q9 {f : Addr} {fd : FuncData} (D : Df K mg "is_whole" dY ["thing"] f fd) (bl : Bl mg) : FnOk P w K mg base bj 1 f fd ["thing"] (aX P w K tb Dk) := by
  refine dQ D qZ (fun ds M Q E hS => by obtain ⟨d, e, _⟩ := hS; rw [e]; rfl) fun A outer s E Γ ds Q' E' hP hw hK ht hr hS => ?_
  obtain ⟨d, e, hk, q⟩ := hS
  refine ⟨_, (av (a8 (lW (aN (gW (K := K) rfl) rfl bl.isinstance_ cj (aa (qv 0) (aa (iJ (v := .ty "int") rfl bl.int_ uS rfl) ae))) (lV (va (aN (gW (K := K) rfl) rfl bl.isinstance_ cj (aa (qv 0) (aa (iJ (v := .ty "bool") rfl bl.bool_ zE rfl) ae)))))))), ?_⟩
  subst e
  cases d <;> first | exact ⟨by decide, ⟨by decide, .inl q⟩⟩ | exact ⟨by decide, .inl q⟩ | exact nomatch hk
noncomputable def Dl : dh := fun ds M Q _ => ∃ d m, ds = [d, .int m] ∧ kZ d = true ∧ Q (.bl (cS m d)) M
theorem ke {f f1 : Addr} {fd bQ : FuncData} (D : Df K mg "is_whole_below" cD ["thing", "many"] f fd) (bY : Df K mg "is_whole" dY ["thing"] f1 bQ) (bl : Bl mg) : FnOk P w K mg base bj 2 f fd ["thing", "many"] (aX P w K tb Dl) := by
  have tL := q9 (P := P) (w := w) (base := base) (tb := tb) bY bl
  refine dQ D kb (fun ds M Q E hS => by obtain ⟨d, m, e, _⟩ := hS; rw [e]; rfl) fun A outer s E Γ ds Q' E' hP hw hK ht hr hS => ?_
  obtain ⟨d, m, e, hk, q⟩ := hS
  refine ⟨_, (av (a8 (lW (aE tL (hr.mono (by decide)) rfl bY.mg bY.fn.kp bY.bd bz hP hw hK ht XR.none (aa (qv 0) ae)) (lV (xi xm tq af (qv 0) (qv 1)))))), ?_⟩
  subst e
  refine ⟨d, rfl, hk, ?_⟩
  cases d with
  | int i =>
    simp! only [vK]
    refine fY (fun h => ?_) (fun h => ?_)
    · rw [show cS m (.int i) = decide (i < m) by simp only [cS, h, Bool.true_and]] at q
      exact .inl q
    · rw [show cS m (.int i) = false by simp only [cS, h, Bool.false_and]] at q
      exact .inl q
  | _ => exact .inl q
noncomputable def dU (m : Int) (w : Nat) : Dv → Bool | .tup ds => decide (ds.length = w) && ds.all (cS m) | _ => false
noncomputable def jT : Dv → Bool | .tup ds => ds.all kZ | d => kZ d
noncomputable def Dm : dh := fun ds M Q _ => ∃ d m w, ds = [d, .int m, .int (w : Nat)] ∧ jT d = true ∧ Q (.bl (dU m w d)) M
theorem vL {f f1 f2 : Addr} {fd bQ fd2 : FuncData} {ja aO : Addr} (D : Df K mg "is_row" gX ["thing", "many", "width"] f fd) (fF : pD base fd ja aO) (hp : aO ∈ tb) (cu : ∃ bm ob, BMod base mainGlobals mg bm ob)
    (bp : Df K mg "is_whole_below" cD ["thing", "many"] f1 bQ) (bY : Df K mg "is_whole" dY ["thing"] f2 fd2) (bl : Bl mg) : FnOk P w K mg base bj 4 f fd ["thing", "many", "width"] (aX P w K tb Dm) := by
  have k4 := ke (P := P) (w := w) (base := base) (tb := tb) bp bY bl
  refine dQ D vJ (fun ds M Q E hS => by obtain ⟨d, m, n, e, _⟩ := hS; rw [e]; rfl) fun A outer s E Γ ds Q' E' hP hw hK ht hr hS => ?_
  obtain ⟨d, m, n, e, hk, q⟩ := hS
  have tM : aO ∈ Γ.tb := ht ▸ hp
  refine ⟨_, (ah (cO (QW.pt (lU (iK (gU (aN (gW (K := K) rfl) rfl bl.isinstance_ cj (aa (qv 0) (aa (iJ (v := .ty "tuple") rfl bl.tuple_ fA rfl) ae))))) (lR (bN tv (aN (dX (K := K) rfl hK) rfl bl.len_ PySem.boot_len (aa (qv 0) ae)) (qv 2) (b5 _)))))
      (av (a8 fh))
      qss_nil)
    (av (a8 (pX (k := 2) (N' := ["goal", "many"]) (tn := 1) (idx := [1]) tM (hr.mono (by decide)) rfl (show aG ["thing", "many", "width"] (ak gX) _ ["goal", "many"] 1 [1] from by decide +kernel) rfl rfl fF.code fF.hd cu rfl bl.all_ (fX (K := K) rfl (qv 0)) (fun _ _ _ _ _ _ _ hr => (aV (i := 0) (show List.Nodup [("goal" : Str), ("many" : Str)] from by decide +kernel) rfl (Or.inl rfl))) (fun _ _ _ _ _ _ _ hr => cH) (fun _ _ _ _ _ _ _ hr => (aE k4 (hr.mono (by decide)) rfl bp.mg bp.fn.kp bp.bd bz hP hw hK ht XR.none (aa (qv 0) (aa (qv 1) ae)))))))), ?_⟩
  subst e
  cases d with
  | tup es =>
    refine ⟨by decide, fY (c := !decide ((es.length : Int) = (n : Nat))) (fun h => ?_) (fun h => ?_)⟩
    · rw [show dU m n (.tup es) = false by simp at h; simp [dU]; intro z; omega] at q
      exact .inl q
    · rw [show dU m n (.tup es) = es.all (cS m) by simp at h; simp [dU, show es.length = n by omega]] at q
      refine j7 (cS m) (fun τ => ∃ x, τ = [x, some (.int m)]) ⟨none, rfl⟩ (fun d hd τ ⟨x, e⟩ R hR => ?_) (.inl q)
      subst e
      exact ⟨d, m, rfl, List.all_eq_true.mp hk d hd, hR _ ⟨_, rfl⟩⟩
  | _ => first | exact ⟨by decide, .inl q⟩ | exact nomatch hk
noncomputable def dw : Dv → Bool | .tup rs => decide (1 ≤ rs.length ∧ rs.length ≤ 9) && (rs.all (dU rs.length 2) || rs.all (dU rs.length 3)) | _ => false
noncomputable def gf : Dv → Bool | .tup rs => rs.all jT | d => kZ d
noncomputable def Dn : dh := fun ds M Q _ => ∃ d, ds = [d] ∧ gf d = true ∧ Q (.bl (dw d)) M
theorem vM {f f1 f2 f3 : Addr} {fd bQ fd2 oa : FuncData} {ja aO qm aU : Addr} (D : Df K mg "is_net" gY ["thing"] f fd) (jb : pD base fd qm aU) (Gx : aU ∈ tb) (eT : Df K mg "is_row" gX ["thing", "many", "width"] f3 oa) (fF : pD base oa ja aO) (hp : aO ∈ tb) (cu : ∃ bm ob, BMod base mainGlobals mg bm ob)
    (bp : Df K mg "is_whole_below" cD ["thing", "many"] f1 bQ) (bY : Df K mg "is_whole" dY ["thing"] f2 fd2) (bl : Bl mg) {tk : Tok} (cz : mg "MOST_PLACES" = some (.int 9 tk)) : FnOk P w K mg base bj 6 f fd ["thing"] (aX P w K tb Dn) := by
  have xJ := vL (P := P) (w := w) (tb := tb) eT fF hp cu bp bY bl
  refine dQ D jS (fun ds M Q E hS => by obtain ⟨d, e, _⟩ := hS; rw [e]; rfl) fun A outer s E Γ ds Q' E' hP hw hK ht hr hS => ?_
  obtain ⟨d, e, hk, q⟩ := hS
  have jc : aU ∈ Γ.tb := ht ▸ Gx
  refine ⟨_, (ah (cO (QW.pt (lU (iK (gU (aN (gW (K := K) rfl) rfl bl.isinstance_ cj (aa (qv 0) (aa (iJ (v := .ty "tuple") rfl bl.tuple_ fA rfl) ae))))) (lR (iK (xj xm xm af (aN (dX (K := K) rfl hK) rfl bl.len_ PySem.boot_len (aa (qv 0) ae)) (pJ (i := 9) rfl cz ⟨_, rfl⟩))))))
      (av (a8 fh))
      qss_nil)
    (ah (aL (i := 1) jS.nd rfl (Or.inr rfl) (aN (dX (K := K) rfl hK) rfl bl.len_ PySem.boot_len (aa (qv 0) ae)))
    (ah (dE PassesOwn.never rfl (fX (K := K) rfl (bq (aa af (aa af ae)))) (fun jl eP ew eK et => by have hP := hP.trans eP.symm; have hw := hw.trans ew.symm; have hK := hK.trans eK.symm; have ht := ht.trans et.symm; have jc := et.symm ▸ jc; exact ⟨(aV (i := 2) jS.nd rfl (Or.inr rfl)), (av (cO (gU (pX (k := 4) (N' := ["row", "many", "width"]) (tn := 1) (idx := [1, 2]) jc (hr.mono (by decide)) rfl (show aG ["thing", "many", "width"] (ak gY) _ ["row", "many", "width"] 1 [1, 2] from by decide +kernel) rfl rfl jb.code jb.hd cu rfl bl.all_ (fX (K := K) rfl (qv 0)) (fun _ _ _ _ _ _ _ hr => (aV (i := 0) (show List.Nodup [("row" : Str), ("many" : Str), ("width" : Str)] from by decide +kernel) rfl (Or.inl rfl))) (fun _ _ _ _ _ _ _ hr => cH) (fun _ _ _ _ _ _ _ hr => (aE xJ (hr.mono (by decide)) rfl eT.mg eT.fn.kp eT.bd bz hP hw hK ht XR.none (aa (qv 0) (aa (qv 1) (aa (qv 2) ae)))))))
      (av (a8 fh))
      qss_nil))⟩))
    (av (a8 fh))))), ?_⟩
  subst e
  cases d with
  | tup rs =>
    refine ⟨by decide, ?_⟩
    have row : ∀ (n : Nat) (D : Bool → Mh → Prop), (D (rs.all (dU rs.length n)) Γ.M0) → ib (zgName 0) zNoIf (zCall Dm (fun _ _ => False) (zCons (zVar 0) (zCons (zVar 1) (zCons (zVar 2) zNil)))) rs [none, some (.int rs.length), some (.int (n : Nat))] Γ.M0 D := fun n D hD => by
      refine j7 (dU rs.length n) (fun τ => ∃ x, τ = [x, some (.int rs.length), some (.int (n : Nat))]) ⟨none, rfl⟩ (fun d hd τ ⟨x, e⟩ R hR => ?_) hD
      subst e
      exact ⟨d, rs.length, n, rfl, List.all_eq_true.mp hk d hd, hR _ ⟨_, rfl⟩⟩
    simp! only []
    refine fY (fun h1 => fY (fun h2 => ?_) (fun h2 => ⟨by decide, ?_⟩)) (fun h1 => ?_)
    · rw [show dw (.tup rs) = false by simp at h1 h2; simp [dw]; intro z; omega] at q
      exact .inl q
    · have e : dw (.tup rs) = (rs.all (dU rs.length 2) || rs.all (dU rs.length 3)) := by
        simp at h1 h2
        simp only [dw]
        rw [decide_eq_true (by omega), Bool.true_and]
      rw [e] at q
      refine row 2 _ (fY (fun z => ?_) (fun z => row 3 _ (fY (fun z2 => ?_) (fun z2 => ?_))))
      · rw [z] at q; exact .inl q
      · rw [z, z2] at q; exact .inl q
      · rw [z, z2] at q; exact .inl q
    · rw [show dw (.tup rs) = false by simp at h1; simp [dw]; intro z; omega] at q
      exact .inl q
  | _ => first | exact ⟨by decide, .inl q⟩ | exact nomatch hk
theorem ra : aS ["thing"] ["thing"] (ak dZ) := ⟨rfl, rfl, rfl, by decide +kernel, rfl, by decide +kernel, by decide +kernel⟩
theorem vN {m : Int} {g : Int} (h : 0 ≤ g ∧ g < m) : cS m (.int g) = true := by simp [cS, h.1, h.2]
theorem sx {net : List (List Int)} {n : Nat} (o : cL net n) : dw (eN net) = true := by
  have hr : ∀ d ∈ net.map eI, dU (net.map eI).length n d = true := fun d hd => by
    obtain ⟨r, hr, rfl⟩ := List.mem_map.mp hd
    obtain ⟨h1, h2⟩ := o.row r hr
    simp only [dU, List.length_map]
    rw [decide_eq_true h1, Bool.true_and, List.all_eq_true]
    intro d hd
    obtain ⟨g, hg, rfl⟩ := List.mem_map.mp hd
    exact vN (h2 g hg)
  have ho := o.one
  have hn := o.nine
  simp only [dw, eN]
  rw [decide_eq_true (by rw [List.length_map]; omega), Bool.true_and]
  have ha := List.all_eq_true.mpr hr
  rcases o.wid with rfl | rfl
  · rw [ha]; rfl
  · rw [ha, Bool.or_true]
theorem mS (net : List (List Int)) : gf (eN net) = true := by
  simp only [gf, eN]
  rw [List.all_eq_true]
  intro d hd
  obtain ⟨r, _, rfl⟩ := List.mem_map.mp hd
  simp only [jT, eI]
  rw [List.all_eq_true]
  intro d hd
  obtain ⟨g, hg, rfl⟩ := List.mem_map.mp hd
  rfl
noncomputable def oP (C : Addr) : dh := fun ds M Q E => ∃ d, ds = [d] ∧ gf d = true ∧ (dw d = true → Q .aj M) ∧ (dw d = false → E C M)
theorem rg {f f1 : Addr} {fd bQ : FuncData} {C0 C_NoNet : Addr} {cs : List Addr} (D : Df K mg "need_net" dZ ["thing"] f fd) (eU : Df K mg "is_net" gY ["thing"] f1 bQ) (k6 : FnOk P w K mg base bj 6 f1 bQ ["thing"] (aX P w K tb Dn))
    (X_ : xa K C0 cs) (cc : C_NoNet ∈ cs) (gF : mg "NoNet" = some (.ref C_NoNet)) : FnOk P w K mg base (dn P w) 7 f fd ["thing"] (aX P w K tb (oP C_NoNet)) := by
  refine oM D ra (fun ds M Q E hS => by obtain ⟨d, e, _⟩ := hS; rw [e]; rfl) fun A outer s E Γ ds Q' E' hP hw hK ht hE hr hS => ?_
  obtain ⟨d, e, hk, q1, q2⟩ := hS
  refine ⟨_, (av (cO (iK (gU (aE k6 (hr.mono (by decide)) rfl eU.mg eU.fn.kp eU.bd bz hP hw hK ht XR.none (aa (qv 0) ae))))
      (av (xq (X_.ex _ cc) PySem.F.excBase_ValueError rfl Cg hE rfl gF (aa dB ae)))
      qss_nil)), ?_⟩
  subst e
  simp! only []
  refine ⟨d, rfl, hk, fY (fun h => ?_) (fun h => ?_)⟩
  · exact ⟨by decide, q2 (by simpa using h)⟩
  · exact .inl (q1 (by simpa using h))
end
section
variable {P : Program} {w : World} {K : PySem.W.Frag} {mg : Str → Option Value} {base : Heap} {tb : cM} {C_NoNet : Addr} {cs : List Addr}
theorem tN : aS ["places"] ["places"] (ak fZ) := ⟨rfl, rfl, rfl, by decide +kernel, rfl, by decide +kernel, by decide +kernel⟩
theorem rh : aS ["net"] ["net"] (ak d6) := ⟨rfl, rfl, rfl, by decide +kernel, rfl, by decide +kernel, by decide +kernel⟩
theorem dm : aS ["_law_net_here", "_law_rows", "_law_row", "_law_text_here", "_law_place"] ["_law_net_here"] (ak fN) := ⟨rfl, rfl, rfl, by decide +kernel, rfl, by decide +kernel, by decide +kernel⟩
noncomputable def ip (n : Int) : Str := Str.ofString (toString n)
noncomputable def aZ (r : List Int) : Str := Txt.join "" (r.map ip)
noncomputable def jU (net : List (List Int)) : Str := Txt.join " " (net.map aZ)
theorem qo (n : Int) (h : 0 ≤ n ∧ n < 9) : (ip n).length = 1 := by
  obtain ⟨h1, h2⟩ := h
  have : n = 0 ∨ n = 1 ∨ n = 2 ∨ n = 3 ∨ n = 4 ∨ n = 5 ∨ n = 6 ∨ n = 7 ∨ n = 8 := by omega
  rcases this with rfl | rfl | rfl | rfl | rfl | rfl | rfl | rfl | rfl <;> decide +kernel
noncomputable def Dp : dh := fun ds M Q _ => ∃ r : List Int, ds = [eI r] ∧ r.length < 5 ∧ (∀ x ∈ r, 0 ≤ x ∧ x < 9) ∧ Q (.str (aZ r)) M
theorem tO {f : Addr} {fd : FuncData} (D : Df K mg "figures" fZ ["places"] f fd) (bl : Bl mg) : FnOk P w K mg base bj 1 f fd ["places"] (aX P w K tb Dp) := by
  refine dQ D tN (fun ds M Q E hS => by obtain ⟨z, e, _⟩ := hS; rw [e]; rfl) fun A outer s E Γ ds Q' E' hP hw hK ht hr hS => ?_
  obtain ⟨r, e, hl, hb, q⟩ := hS
  refine ⟨_, (av (a8 (gu (K := K) rfl PySem.F.plainAttrs_str PySem.F.slot_str_join PySem.F.type_str_join mO dB (aa (eE (N' := ["place"]) (tn := 1) (idx := []) rfl (show aG ["places"] (ak fZ) _ ["place"] 1 [] from by decide +kernel) (fX (K := K) rfl (qv 0)) (fun _ _ _ _ _ => (aV (i := 0) (show List.Nodup [("place" : Str)] from by decide +kernel) rfl (Or.inl rfl))) (fun _ _ _ _ _ => cH) (fun _ _ _ _ _ => (eZ C3 rfl bl.str_ uT (aa (qv 0) ae)))) ae)))), ?_⟩
  subst e
  simp! only []
  refine ⟨by rw [sizeLine_eq]; omega, fD (fun d => match d with | .int n => .str (ip n) | d => d) (fun τ M => (∃ x, τ = [x]) ∧ M = Γ.M0) ⟨⟨_, rfl⟩, rfl⟩ (fun d hd τ M hJ R k => ?_) (fun τ M hJ => ?_)⟩
  · obtain ⟨⟨x, rfl⟩, rfl⟩ := hJ
    obtain ⟨n, hn, rfl⟩ := List.mem_map.mp hd
    have := hb n hn
    simp! only []
    refine ⟨?_, k _ _ ⟨⟨_, rfl⟩, rfl⟩⟩
    by_cases h0 : n.natAbs = 0
    · rw [h0]; decide
    · exact Nat.lt_trans ((Nat.log2_lt h0).mpr (show n.natAbs < 2 ^ 4 by omega)) (by decide)
  · obtain ⟨⟨x, rfl⟩, rfl⟩ := hJ
    have e : (r.map Dv.int).map (fun d => match d with | .int n => Dv.str (ip n) | d => d) = (r.map ip).map Dv.str := by
      rw [List.map_map, List.map_map]; rfl
    rw [e]
    simp only [iN, gv]
    refine ⟨joinOk_of (B := 1) (fun t ht => ?_) ?_, .inl q⟩
    · obtain ⟨n, hn, rfl⟩ := List.mem_map.mp ht
      exact Nat.le_of_eq (qo n (hb n hn))
    · rw [List.length_map, show (Str.ofString "").length = 0 by decide]; omega
theorem jd {r : List Int} (h : ∀ x ∈ r, 0 ≤ x ∧ x < 9) : (aZ r).length = r.length := by
  unfold aZ
  have := PySem.W.KT.join_ones (r.map ip) (fun a ha => by obtain ⟨n, hn, rfl⟩ := List.mem_map.mp ha; exact qo n (h n hn))
  rw [List.length_map] at this
  exact this
noncomputable def oQ : Dv → Dv
  | .tup ds => .str (aZ ((fK ds).getD []))
  | d => d
theorem qp (r : List Int) : oQ (eI r) = .str (aZ r) := by simp only [oQ, eI, nS, Option.getD_some]
theorem cT {net : List (List Int)} {n : Nat} (O : cL net n) {r : List Int} (hr : r ∈ net) : r.length < 5 ∧ ∀ x ∈ r, 0 ≤ x ∧ x < 9 := by
  obtain ⟨h1, h2⟩ := O.row r hr
  have := O.nine
  refine ⟨by rcases O.wid with h | h <;> omega, fun x hx => ?_⟩
  have := h2 x hx
  omega
theorem qt {net : List (List Int)} {n : Nat} (O : cL net n) : JoinOk " " (net.map aZ) = true := by
  refine joinOk_of (B := 5) (fun t ht => ?_) ?_
  · obtain ⟨r, hr, rfl⟩ := List.mem_map.mp ht
    rw [jd (cT O hr).2]
    exact Nat.le_of_lt (cT O hr).1
  · have := O.nine
    rw [List.length_map, show (Str.ofString " ").length = 1 by decide]; omega
noncomputable def qu (C : Addr) : dh := fun ds M Q E => ∃ d, ds = [d] ∧ gf d = true ∧ ((∃ net n, d = eN net ∧ cL net n ∧ Q (.str (jU net)) M) ∨ (dw d = false ∧ E C M))
theorem rj {f f1 f2 : Addr} {fd bQ fd2 : FuncData} (D : Df K mg "show_net" d6 ["net"] f fd)
    (aW : Df K mg "need_net" dZ ["thing"] f1 bQ) (cp : FnOk P w K mg base (dn P w) 7 f1 bQ ["thing"] (aX P w K tb (oP C_NoNet)))
    (e6 : Df K mg "figures" fZ ["places"] f2 fd2) (jV : FnOk P w K mg base bj 1 f2 fd2 ["places"] (aX P w K tb Dp)) (bl : Bl mg) :
    FnOk P w K mg base (dn P w) 11 f fd ["net"] (aX P w K tb (qu C_NoNet)) := by
  refine oM D rh (fun ds M Q E hS => by obtain ⟨d, e, _⟩ := hS; rw [e]; rfl) fun A outer s E Γ ds Q' E' hP hw hK ht hE hr hS => ?_
  obtain ⟨d, e, hk, h⟩ := hS
  refine ⟨_, (ah (dF (aE cp (hr.mono (by decide)) rfl aW.mg aW.fn.kp aW.bd sT hP hw hK ht hE (aa (qv 0) ae)))
    (av (a8 (gu (K := K) rfl PySem.F.plainAttrs_str PySem.F.slot_str_join PySem.F.type_str_join mO dB (aa (eE (N' := ["row"]) (tn := 1) (idx := []) rfl (show aG ["net"] (ak d6) _ ["row"] 1 [] from by decide +kernel) (fX (K := K) rfl (qv 0)) (fun _ _ _ _ _ => (aV (i := 0) (show List.Nodup [("row" : Str)] from by decide +kernel) rfl (Or.inl rfl))) (fun _ _ _ _ _ => cH) (fun _ _ _ _ _ => (aE jV (hr.mono (by decide)) rfl e6.mg e6.fn.kp e6.bd bz hP hw hK ht XR.none (aa (qv 0) ae)))) ae))))), ?_⟩
  subst e
  refine ⟨_, rfl, hk, fun hd => ?_, fun hd => ?_⟩
  · rcases h with ⟨net, n, rfl, O, q⟩ | ⟨jn, _⟩
    · simp! only []
      refine ⟨by rw [sizeLine_eq]; have := O.nine; omega, fD oQ (fun τ M => (∃ x, τ = [x]) ∧ M = Γ.M0) ⟨⟨_, rfl⟩, rfl⟩ (fun d hd τ M hJ R k => ?_) (fun τ M hJ => ?_)⟩
      · obtain ⟨⟨x, rfl⟩, rfl⟩ := hJ
        obtain ⟨r, gp, rfl⟩ := List.mem_map.mp hd
        rw [qp] at k
        have b := cT O gp
        simp! only []
        exact ⟨r, rfl, b.1, b.2, k _ _ ⟨⟨_, rfl⟩, rfl⟩⟩
      · obtain ⟨⟨x, rfl⟩, rfl⟩ := hJ
        have e : (net.map eI).map oQ = (net.map aZ).map Dv.str := by
          rw [List.map_map, List.map_map]; exact List.map_congr_left fun r _ => qp r
        rw [e]
        simp only [iN, gv]
        exact ⟨qt O, .inl q⟩
    · rw [hd] at jn; cases jn
  · rcases h with ⟨net, n, rfl, O, q⟩ | ⟨_, q⟩
    · rw [sx O] at hd; cases hd
    · exact q
end
section
variable {P : Program} {w : World} {K : PySem.W.Frag} {mg : Str → Option Value} {base : Heap} {tb : cM} {C_NoNet : Addr} {cs : List Addr}
theorem ou : aS ["text", "signs"] ["text", "signs"] (ak dR) := ⟨rfl, rfl, rfl, by decide +kernel, rfl, by decide +kernel, by decide +kernel⟩
theorem qw : aS ["thing"] ["thing"] (ak fM) := ⟨rfl, rfl, rfl, by decide +kernel, rfl, by decide +kernel, by decide +kernel⟩
theorem mh : aS ["text"] ["text"] (ak di) := ⟨rfl, rfl, rfl, by decide +kernel, rfl, by decide +kernel, by decide +kernel⟩
theorem g6 : aS ["texts", "rows", "width"] ["texts"] (ak dG) := ⟨rfl, rfl, rfl, by decide +kernel, rfl, by decide +kernel, by decide +kernel⟩
theorem ky : aS ["text", "net"] ["text"] (ak gy) := ⟨rfl, rfl, rfl, by decide +kernel, rfl, by decide +kernel, by decide +kernel⟩
theorem je : ∀ ts : List Str, (Str.join (Str.ofString "") ts).cps.toList = (ts.map fun t => t.cps.toList).flatten
  | [] => rfl
  | [x] => by simp [Str.join]
  | x :: y :: r => by
    show (x ++ Str.ofString "" ++ Str.join (Str.ofString "") (y :: r)).cps.toList = _
    rw [PySem.Str.cps_append, PySem.Str.cps_append, Array.toList_append, Array.toList_append, je (y :: r), show (Str.ofString "").cps.toList = [] by decide, List.append_nil]
    rfl
theorem jf (n : Int) (h : 0 ≤ n ∧ n < 9) : ip n = ⟨#[48 + n.toNat]⟩ ∧ oK (ip n) "012345678" = true ∧ PySem.intText? (ip n) = some n := by
  obtain ⟨h1, h2⟩ := h
  have : n = 0 ∨ n = 1 ∨ n = 2 ∨ n = 3 ∨ n = 4 ∨ n = 5 ∨ n = 6 ∨ n = 7 ∨ n = 8 := by omega
  rcases this with rfl | rfl | rfl | rfl | rfl | rfl | rfl | rfl | rfl <;> decide +kernel
theorem iq {r : List Int} (h : ∀ x ∈ r, 0 ≤ x ∧ x < 9) : dC (aZ r) = r.map fun n => .str (ip n) := by
  unfold dC aZ
  rw [join_eq]
  show ((Str.join (Str.ofString "") _).cps.toList).map _ = _
  rw [je]
  induction r with
  | nil => rfl
  | cons n r ih =>
    have ih := ih fun x hx => h x (List.mem_cons_of_mem _ hx)
    simp only [List.map_cons, List.flatten_cons, List.map_append] at ih ⊢
    rw [ih]
    have e := (jf n (h n (List.mem_cons_self ..))).1
    rw [e]
    rfl
noncomputable def vO : dh := fun ds M Q _ => ∃ r : List Int, ds = [.str (aZ r), .str "012345678"] ∧ r ≠ [] ∧ r.length < 5 ∧ (∀ x ∈ r, 0 ≤ x ∧ x < 9) ∧ Q (.bl true) M
theorem Dq {r : List Int} (hn : r ≠ []) (h : ∀ x ∈ r, 0 ≤ x ∧ x < 9) : aZ r ≠ "" := fun e => by
  have := jd h
  rw [e, show (Str.ofString "").length = 0 by decide] at this
  exact hn (List.eq_nil_of_length_eq_zero this.symm)
theorem ow {f : Addr} {fd : FuncData} {jW aA : Addr} (D : Df K mg "is_made_of" dR ["text", "signs"] f fd) (fo : pD base fd jW aA) (hp : aA ∈ tb) (cu : ∃ bm ob, BMod base mainGlobals mg bm ob) (bl : Bl mg) : FnOk P w K mg base bj 2 f fd ["text", "signs"] (aX P w K tb vO) := by
  refine dQ D ou (fun ds M Q E hS => by obtain ⟨z, e, _⟩ := hS; rw [e]; rfl) fun A outer s E Γ ds Q' E' hP hw hK ht hr hS => ?_
  obtain ⟨r, e, hn, hl, hb, q⟩ := hS
  have mU : aA ∈ Γ.tb := ht ▸ hp
  refine ⟨_, (av (a8 (lW (mH tv (qv 0) dB (b5 _)) (lV (pX (k := 0) (N' := ["sign", "signs"]) (tn := 1) (idx := [1]) mU (hr.mono (by decide)) rfl (show aG ["text", "signs"] (ak dR) _ ["sign", "signs"] 1 [1] from by decide +kernel) rfl rfl fo.code fo.hd cu rfl bl.all_ (vd (qv 0)) (fun _ _ _ _ _ _ _ hr => (aV (i := 0) (show List.Nodup [("sign" : Str), ("signs" : Str)] from by decide +kernel) rfl (Or.inl rfl))) (fun _ _ _ _ _ _ _ hr => cH) (fun _ _ _ _ _ _ _ hr => (mH xo (qv 0) (qv 1) (by rfl)))))))), ?_⟩
  subst e
  have big : (10000 : Nat) < sizeLine := by decide
  simp! only []
  refine fY (fun h => ?_) (fun h => absurd (Dq hn hb) (by simpa using h))
  have CP : ∀ d ∈ dC (aZ r), (match d with | .str y => oK y "012345678" | _ => false) = true := fun d hd => by
    rw [iq hb] at hd
    obtain ⟨n, g7, rfl⟩ := List.mem_map.mp hd
    exact (jf n (hb n g7)).2.1
  refine j7 (fun d => match d with | .str y => oK y "012345678" | _ => false) (fun τ => ∃ x, τ = [x, some (.str "012345678")]) ⟨none, rfl⟩ (fun d hd τ hI R hR => ?_) (by rw [List.all_eq_true.mpr CP]; exact .inl q)
  obtain ⟨x, rfl⟩ := hI
  obtain ⟨c, hc, rfl⟩ := List.mem_map.mp hd
  exact ⟨trivial, hR _ ⟨_, rfl⟩⟩
noncomputable def vP : dh := fun ds M Q _ => ∃ r : List Int, ds = [.str (aZ r)] ∧ r ≠ [] ∧ r.length < 5 ∧ (∀ x ∈ r, 0 ≤ x ∧ x < 9) ∧ Q (eI r) M
theorem mi {f f1 : Addr} {fd bQ : FuncData} {iO ay : Addr} (D : Df K mg "read_figures" di ["text"] f fd) (d9 : pD base fd iO ay) (hp : ay ∈ tb) (cu : ∃ bm ob, BMod base mainGlobals mg bm ob)
    (cE : Df K mg "is_made_of" dR ["text", "signs"] f1 bQ) (qy : FnOk P w K mg base bj 2 f1 bQ ["text", "signs"] (aX P w K tb vO)) (bl : Bl mg) {tk : Tok} (eV : mg "PLACE_FIGURES" = some (.str "012345678" tk)) :
    FnOk P w K mg base bj 3 f fd ["text"] (aX P w K tb vP) := by
  refine dQ D mh (fun ds M Q E hS => by obtain ⟨z, e, _⟩ := hS; rw [e]; rfl) fun A outer s E Γ ds Q' E' hP hw hK ht hr hS => ?_
  obtain ⟨r, e, hn, hl, hb, q⟩ := hS
  have k7 : ay ∈ Γ.tb := ht ▸ hp
  refine ⟨_, (ah (cO (iK (gU (aE qy (hr.mono (by decide)) rfl cE.mg cE.fn.kp cE.bd bz hP hw hK ht XR.none (aa (qv 0) (aa (xh (z := "012345678") rfl eV ⟨_, rfl⟩) ae)))))
      (av kT)
      qss_nil)
    (av (a8 (kr (k := 0) (N' := ["figure"]) (tn := 1) (idx := []) k7 (hr.mono (by decide)) rfl (show aG ["text"] (ak di) _ ["figure"] 1 [] from by decide +kernel) rfl rfl d9.code d9.hd cu rfl bl.tuple_ (vd (qv 0)) (fun _ _ _ _ _ _ _ hr => (aV (i := 0) (show List.Nodup [("figure" : Str)] from by decide +kernel) rfl (Or.inl rfl))) (fun _ _ _ _ _ _ _ hr => cH) (fun _ _ _ _ _ _ _ hr => (eZ C2 rfl bl.int_ uS (aa (qv 0) ae))))))), ?_⟩
  subst e
  simp! only []
  refine ⟨r, rfl, hn, hl, hb, ?_⟩
  rw [iq hb]
  show (if (!true) = true then False else _)
  rw [if_neg (by decide)]
  refine ⟨by rw [List.length_map, sizeLine_eq]; omega, fD (fun d => match d with | .str y => (match PySem.intText? y with | some n => .int n | none => d) | _ => d) (fun τ M => (∃ x, τ = [x]) ∧ M = Γ.M0) ⟨⟨_, rfl⟩, rfl⟩ (fun d hd τ M hJ R k => ?_) (fun τ M hJ => ?_)⟩
  · obtain ⟨⟨x, rfl⟩, rfl⟩ := hJ
    obtain ⟨n, g7, rfl⟩ := List.mem_map.mp hd
    obtain ⟨_, _, e3⟩ := jf n (hb n g7)
    simp! only []
    dsimp only at k
    rw [e3] at k ⊢
    exact ⟨by rw [qo n (hb n g7)]; decide, k _ _ ⟨⟨_, rfl⟩, rfl⟩⟩
  · obtain ⟨⟨x, rfl⟩, rfl⟩ := hJ
    refine .inl ?_
    rw [List.map_map]
    refine (show (r.map _) = r.map Dv.int from List.map_congr_left fun n g7 => ?_) ▸ q
    show (match PySem.intText? (ip n) with | some n => Dv.int n | none => _) = _
    rw [(jf n (hb n g7)).2.2]
noncomputable def tP : Dv → Dv
  | .str y => (match PySem.intText? y with | some n => .int n | none => .str y)
  | d => d
theorem qz {r : List Int} (hb : ∀ x ∈ r, 0 ≤ x ∧ x < 9) : (dC (aZ r)).map tP = r.map Dv.int := by
  rw [iq hb, List.map_map]
  refine List.map_congr_left fun n g7 => ?_
  show (match PySem.intText? (ip n) with | some n => Dv.int n | none => _) = _
  rw [(jf n (hb n g7)).2.2]
noncomputable def xK : Dv → Dv
  | .str y => .tup ((dC y).map tP)
  | d => d
theorem xM {net : List (List Int)} {n : Nat} (O : cL net n) : ((net.map aZ).map Dv.str).map xK = net.map eI := by
  rw [List.map_map, List.map_map]
  refine List.map_congr_left fun r hr => ?_
  show Dv.tup ((dC (aZ r)).map tP) = _
  rw [qz (cT O hr).2]
noncomputable def og : dh := fun ds M Q _ => ∃ net n, ds = [.lst ((net.map aZ).map .str)] ∧ cL net n ∧ Q (eN net) M
theorem qA {f f1 : Addr} {fd bQ : FuncData} {kz aC : Addr} (D : Df K mg "read_rows" dG ["texts"] f fd) (dI : pD base fd kz aC) (hp : aC ∈ tb) (cu : ∃ bm ob, BMod base mainGlobals mg bm ob)
    (bT : Df K mg "read_figures" di ["text"] f1 bQ) (fG : FnOk P w K mg base bj 3 f1 bQ ["text"] (aX P w K tb vP)) (bl : Bl mg) {tk : Tok} (cz : mg "MOST_PLACES" = some (.int 9 tk)) :
    FnOk P w K mg base bj 8 f fd ["texts"] (aX P w K tb og) := by
  refine dQ D g6 (fun ds M Q E hS => by obtain ⟨_, _, e, _⟩ := hS; rw [e]; rfl) fun A outer s E Γ ds Q' E' hP hw hK ht hr hS => ?_
  obtain ⟨net, n, e, O, q⟩ := hS
  have jm : aC ∈ Γ.tb := ht ▸ hp
  refine ⟨_, (ah (aL (i := 1) g6.nd rfl (Or.inl rfl) (kr (k := 3) (N' := ["text"]) (tn := 1) (idx := []) jm (hr.mono (by decide)) rfl (show aG ["texts", "rows", "width"] (ak dG) _ ["text"] 1 [] from by decide +kernel) rfl rfl dI.code dI.hd cu rfl bl.tuple_ (iM (K := K) rfl (qv 0)) (fun _ _ _ _ _ _ _ hr => (aV (i := 0) (show List.Nodup [("text" : Str)] from by decide +kernel) rfl (Or.inl rfl))) (fun _ _ _ _ _ _ _ hr => cH) (fun _ _ _ _ _ _ _ hr => (aE fG (hr.mono (by decide)) rfl bT.mg bT.fn.kp bT.bd bz hP hw hK ht XR.none (aa (qv 0) ae)))))
    (ah (aL (i := 2) g6.nd rfl (Or.inr rfl) (aN (dX (K := K) rfl hK) rfl bl.len_ PySem.boot_len (aa (bL (cU (K := K) rfl) (qv 1) af (fun _ _ => rfl)) ae)))
    (ah (cO (QW.pt (lU (bN xn (aN (dX (K := K) rfl hK) rfl bl.len_ PySem.boot_len (aa (qv 1) ae)) (pJ (i := 9) rfl cz ⟨_, rfl⟩) (b5 _)) (lU (bN (qW (K := K) rfl) (qv 2) (bq (aa af (aa af ae))) (by rfl)) (lR (gU (C6 (k := 0) (N' := ["row", "width"]) (tn := 1) (idx := [2]) jm (hr.mono (by decide)) rfl (show aG ["texts", "rows", "width"] (ak dG) _ ["row", "width"] 1 [2] from by decide +kernel) rfl rfl dI.code dI.hd cu rfl bl.any_ (fX (K := K) rfl (qv 1)) (fun _ _ _ _ _ _ _ hr => (aV (i := 0) (show List.Nodup [("row" : Str), ("width" : Str)] from by decide +kernel) rfl (Or.inl rfl))) (fun _ _ _ _ _ _ _ hr => cH) (fun _ _ _ _ _ _ _ hr => (mH tv (aN (dX (K := K) rfl hK) rfl bl.len_ PySem.boot_len (aa (qv 0) ae)) (qv 1) (b5 _)))))))))
      (av kT)
      qss_nil)
    (av (a8 (qv 1)))))), ?_⟩
  subst e
  simp! only []
  have e1 : ((net.map aZ).map Dv.str).length = net.length := by rw [List.length_map, List.length_map]
  have O9 := O.nine
  have O1 := O.one
  refine ⟨by rw [sizeLine_eq]; omega, ?_⟩
  have JN : ∀ d ∈ (net.map aZ).map Dv.str, ∃ r, r ∈ net ∧ d = .str (aZ r) := fun d hd => by
    obtain ⟨t, JO, rfl⟩ := List.mem_map.mp hd
    obtain ⟨r, gp, rfl⟩ := List.mem_map.mp JO
    exact ⟨r, gp, rfl⟩
  refine fD xK (fun τ M => (∃ x, τ = [x]) ∧ M = Γ.M0) ⟨⟨_, rfl⟩, rfl⟩ (fun d hd τ M hJ R k => ?_) (fun τ M hJ => ?_)
  · obtain ⟨⟨x, rfl⟩, rfl⟩ := hJ
    obtain ⟨r, gp, rfl⟩ := JN d hd
    have b := cT O gp
    have JP : r ≠ [] := fun e => by
      have := (O.row r gp).1
      rw [e] at this
      rcases O.wid with h | h <;> rw [h] at this <;> cases this
    have ek : xK (.str (aZ r)) = eI r := by
      show Dv.tup ((dC (aZ r)).map tP) = _
      rw [qz b.2]
    rw [ek] at k
    simp! only []
    exact ⟨r, rfl, JP, b.1, b.2, k _ _ ⟨⟨_, rfl⟩, rfl⟩⟩
  · obtain ⟨⟨x, rfl⟩, rfl⟩ := hJ
    rw [xM O]
    obtain ⟨r0, rest, rfl⟩ : ∃ r0 rest, net = r0 :: rest := by
      cases net with
      | nil => simp at O1
      | cons a b => exact ⟨a, b, rfl⟩
    have w0 := (O.row r0 (List.mem_cons_self ..)).1
    simp! only []
    have Ku : rest.length + 1 ≤ 9 := O9
    rw [if_neg (by simp only [decide_eq_true_eq]; omega)]
    refine ⟨by decide, ?_⟩
    show (if (!decide ((r0.length : Int) ∈ [(2 : Int), 3])) = true then False else _)
    have HQ : (r0.length : Int) ∈ [(2 : Int), 3] := by
      rw [w0]
      rcases O.wid with h | h <;> rw [h] <;> decide
    rw [if_neg (by rw [decide_eq_true HQ]; decide)]
    refine sv (fun d => match d with | .tup ds => decide (ds.length ≠ r0.length) | _ => false) (fun τ => ∃ x, τ = [x, some (.int (r0.length : Nat))]) ⟨none, rfl⟩ (fun d hd τ hI R hR => ?_) ?_
    · obtain ⟨x, rfl⟩ := hI
      have jn : d ∈ (r0 :: rest).map eI := hd
      obtain ⟨r, gp, rfl⟩ := List.mem_map.mp jn
      simp! only []
      have k := hR [some (eI r), some (.int (r0.length : Nat))] ⟨_, rfl⟩
      have ek : (match eI r with | .tup ds => decide (ds.length ≠ r0.length) | _ => false) = !decide ((r.length : Int) = (r0.length : Int)) := by
        show decide ((r.map Dv.int).length ≠ r0.length) = _
        rw [List.length_map]
        by_cases h : r.length = r0.length <;> simp [h] <;> omega
      rw [ek] at k
      exact k
    · have e : ((eI r0 :: rest.map eI).any fun d => match d with | .tup ds => decide (ds.length ≠ r0.length) | _ => false) = false := by
        rw [List.any_eq_false]
        intro d hd
        have jn : d ∈ (r0 :: rest).map eI := hd
        obtain ⟨r, gp, rfl⟩ := List.mem_map.mp jn
        have := (O.row r gp).1
        simp [this, w0]
      rw [e]
      exact .inl q
noncomputable def vQ : dh := fun ds M Q _ => ∃ net n, ds = [.str (jU net)] ∧ cL net n ∧ Q (eN net) M
theorem vR {net : List (List Int)} {n : Nat} (O : cL net n) : Txt.split (jU net) (Str.ofString " ") = net.map aZ ∧ (jU net).length < 1000000 := by
  have e : jU net = Str.join ⟨#[32]⟩ (net.map aZ) := join_eq _ _
  have es : Str.ofString " " = ⟨#[32]⟩ := by decide
  refine ⟨?_, ?_⟩
  · rw [e, es]
    refine tG (fun h => ?_) fun t ht => ?_
    · have := O.one
      rw [List.map_eq_nil_iff] at h
      rw [h] at this
      simp at this
    · obtain ⟨r, hr, rfl⟩ := List.mem_map.mp ht
      have hb := (cT O hr).2
      intro hm
      have h2 : Dv.str ⟨#[32]⟩ ∈ dC (aZ r) := List.mem_map.mpr ⟨32, hm, rfl⟩
      rw [iq hb] at h2
      obtain ⟨x, hx, ex⟩ := List.mem_map.mp h2
      injection ex with ex
      rw [(jf x (hb x hx)).1] at ex
      have : 48 + x.toNat = 32 := by simpa using congrArg (fun z : Str => z.cps.toList) ex
      omega
  · rw [e]
    have := StrLaws.join_length_le ⟨#[32]⟩ (net.map aZ)
    have h2 := StrLaws.sumLen_le (B := 5) (net.map aZ) fun t ht => by
      obtain ⟨r, hr, rfl⟩ := List.mem_map.mp ht
      rw [jd (cT O hr).2]
      exact Nat.le_of_lt (cT O hr).1
    rw [List.length_map] at this h2
    have l1 : (⟨#[32]⟩ : Str).length = 1 := rfl
    rw [l1] at this
    have := O.nine
    omega
theorem rk {f f1 f2 f3 : Addr} {fd bQ fd2 oa : FuncData} (D : Df K mg "read_net" gy ["text"] f fd)
    (dJ : Df K mg "need_text" fM ["thing"] f1 bQ) (iy : FnOk P w K mg base bj 1 f1 bQ ["thing"] (aX P w K tb fun ds M Q _ => ∃ z, ds = [.str z] ∧ Q .aj M))
    (cW : Df K mg "read_rows" dG ["texts"] f2 fd2) (iz : FnOk P w K mg base bj 8 f2 fd2 ["texts"] (aX P w K tb og))
    (aW : Df K mg "need_net" dZ ["thing"] f3 oa) (cp : FnOk P w K mg base (dn P w) 7 f3 oa ["thing"] (aX P w K tb (oP C_NoNet))) :
    FnOk P w K mg base (dn P w) 11 f fd ["text"] (aX P w K tb vQ) := by
  refine oM D ky (fun ds M Q E hS => by obtain ⟨_, _, e, _⟩ := hS; rw [e]; rfl) fun A outer s E Γ ds Q' E' hP hw hK ht hE hr hS => ?_
  obtain ⟨net, n, e, O, q⟩ := hS
  refine ⟨_, (ah (dF (aE iy (hr.mono (by decide)) rfl dJ.mg dJ.fn.kp dJ.bd bz hP hw hK ht XR.none (aa (qv 0) ae)))
    (ah (aL (i := 1) ky.nd rfl (Or.inl rfl) (aE iz (hr.mono (by decide)) rfl cW.mg cW.fn.kp cW.bd bz hP hw hK ht XR.none (aa (gu (K := K) rfl PySem.F.plainAttrs_str PySem.F.slot_str_split PySem.F.type_str_split xC (qv 0) (aa dB ae)) ae)))
    (ah (dF (aE cp (hr.mono (by decide)) rfl aW.mg aW.fn.kp aW.bd sT hP hw hK ht hE (aa (qv 1) ae)))
    (av (a8 (qv 1)))))), ?_⟩
  subst e
  obtain ⟨s1, s2⟩ := vR O
  obtain ⟨p1, p2⟩ := xF (y := Str.ofString " ") s2
  simp! only []
  refine ⟨_, rfl, by decide, p1, p2, ?_⟩
  rw [s1]
  exact ⟨net, n, rfl, O, _, rfl, mS net, fun _ => .inl q, fun h => by rw [sx O] at h; cases h⟩
theorem qB {f : Addr} {fd : FuncData} (D : Df K mg "need_text" fM ["thing"] f fd) (bl : Bl mg) : FnOk P w K mg base bj 1 f fd ["thing"] (aX P w K tb fun ds M Q _ => ∃ z, ds = [.str z] ∧ Q .aj M) := by
  refine dQ D qw (fun ds M Q E hS => by obtain ⟨d, e, _⟩ := hS; rw [e]; rfl) fun A outer s E Γ ds Q' E' hP hw hK ht hr hS => ?_
  obtain ⟨z, e, q⟩ := hS
  refine ⟨_, (av (cO (iK (gU (aN (gW (K := K) rfl) rfl bl.isinstance_ cj (aa (qv 0) (aa (iJ (v := .ty "str") rfl bl.str_ uT rfl) ae)))))
      (av kT)
      qss_nil)), ?_⟩
  subst e
  simp! only []
  exact ⟨by decide, .inl q⟩
end
section
variable {P : Program} {w : World} {K : PySem.W.Frag} {mg : Str → Option Value} {base : Heap} {tb : cM} {C_NoNet : Addr} {cs : List Addr}
theorem Dr (g : Int) (h : 0 ≤ g ∧ g < 9) : bU (Str.ofString "012345678").cps.toList g = some (48 + g.toNat) := by
  obtain ⟨h1, h2⟩ := h
  have : g = 0 ∨ g = 1 ∨ g = 2 ∨ g = 3 ∨ g = 4 ∨ g = 5 ∨ g = 6 ∨ g = 7 ∨ g = 8 := by omega
  rcases this with rfl | rfl | rfl | rfl | rfl | rfl | rfl | rfl | rfl <;> decide +kernel
theorem oh (r : List Int) : (aZ r).cps.toList = ((r.map ip).map fun t => t.cps.toList).flatten := by
  unfold aZ
  rw [join_eq]
  exact je _
theorem vT (r : List Int) (g : Int) : aZ (r ++ [g]) = aZ r ++ ip g := by
  refine mP ?_
  rw [PySem.Str.cps_append, Array.toList_append, oh, oh]
  simp
noncomputable def yY : dh := fun ds M Q _ => ∃ net n, ds = [eN net] ∧ cL net n ∧ Q (.str (jU net)) M
theorem rn {f : Addr} {fd : FuncData} (D : Df K mg "_law_text" fN ["_law_net_here"] f fd) (bl : Bl mg) : FnOk P w K mg base bj 2 f fd ["_law_net_here"] (aX P w K tb yY) := by
  refine dQ D dm (fun ds M Q E hS => by obtain ⟨_, _, e, _⟩ := hS; rw [e]; rfl) fun A outer s E Γ ds Q' E' hP hw hK ht hr hS => ?_
  obtain ⟨net, n, e, O, q⟩ := hS
  refine ⟨_, (ah (aL (i := 1) dm.nd rfl (Or.inl rfl) (iL ae))
    (ah (dE PassesOwn.never rfl (fX (K := K) rfl (qv 0)) (fun jl eP ew eK et => by have hP := hP.trans eP.symm; have hw := hw.trans ew.symm; have hK := hK.trans eK.symm; have ht := ht.trans et.symm; exact ⟨(aV (i := 2) dm.nd rfl (Or.inl rfl)), (ah (aL (i := 3) dm.nd rfl (Or.inl rfl) dB)
    (ah (dE PassesOwn.never rfl (fX (K := K) rfl (qv 2)) (fun jl eP ew eK et => by have hP := hP.trans eP.symm; have hw := hw.trans ew.symm; have hK := hK.trans eK.symm; have ht := ht.trans et.symm; exact ⟨(aV (i := 4) dm.nd rfl (Or.inl rfl)), (av (aL (i := 3) dm.nd rfl (Or.inl rfl) (aR vk (qv 3) (bL (cU (K := K) rfl) dB (qv 4) (fun _ _ => rfl)))))⟩))
    (av (dF (gu (K := K) rfl PySem.F.plainAttrs_list PySem.F.slot_list_append PySem.F.type_list_append i5 (qv 1) (aa (qv 3) ae))))))⟩))
    (av (a8 (gu (K := K) rfl PySem.F.plainAttrs_str PySem.F.slot_str_join PySem.F.type_str_join mO dB (aa (qv 1) ae)))))), ?_⟩
  subst e
  simp! only []
  refine ⟨Nat.zero_le _, fun a ha => ?_⟩
  refine b7 (fun i ρ M => (∃ x y z, ρ = [some (eN net), some (.ptr a), x, y, z]) ∧ M = az Γ.M0 a (.lst (((net.take i).map aZ).map .str))) ⟨⟨none, none, none, rfl⟩, rfl⟩ (fun i d ρ M N2 hd hJ gZ => ?_) (fun ρ M hJ => ?_)
  · obtain ⟨⟨x, y, z, rfl⟩, rfl⟩ := hJ
    rw [List.getElem?_map] at hd
    obtain ⟨r, gp, rfl⟩ := Option.map_eq_some_iff.mp hd
    have b := cT O (List.mem_of_getElem? gp)
    simp! only []
    refine b7 (fun j ρ M => (∃ z, ρ = [some (eN net), some (.ptr a), some (eI r), some (.str (aZ (r.take j))), z]) ∧ M = az Γ.M0 a (.lst (((net.take i).map aZ).map .str))) ⟨⟨z, rfl⟩, rfl⟩ (fun j d ρ M N3 GB Du Di => ?_) (fun ρ M Du => ?_)
    · obtain ⟨⟨z, rfl⟩, rfl⟩ := Du
      rw [List.getElem?_map] at GB
      obtain ⟨g, hg, rfl⟩ := Option.map_eq_some_iff.mp GB
      have pL := b.2 g (List.mem_of_getElem? hg)
      simp! only []
      rw [Dr g pL]
      have bt : ∀ x ∈ r.take j, 0 ≤ x ∧ x < 9 := fun x hx => b.2 x (List.mem_of_mem_take hx)
      have e : aZ (r.take (j + 1)) = aZ (r.take j) ++ ⟨#[48 + g.toNat]⟩ := by
        rw [List.take_succ, hg, Option.toList_some, vT, (jf g pL).1]
      have lj : (r.take j).length ≤ 4 := Nat.le_trans (List.length_take_le' ..) (by omega)
      refine ⟨by decide, ?_⟩
      dsimp only
      refine ⟨by rw [jd bt, sizeLine_eq, show (⟨#[48 + g.toNat]⟩ : Str).length = 1 from rfl]; omega, ?_⟩
      rw [← e]
      exact Di _ _ ⟨⟨_, rfl⟩, rfl⟩
    · obtain ⟨⟨z, rfl⟩, rfl⟩ := Du
      rw [List.length_map, List.take_length]
      simp! only []
      have O9 := O.nine
      have li : (net.take i).length ≤ 9 := Nat.le_trans (List.length_take_le' ..) O9
      refine ⟨by rw [sizeLine_eq]; omega, ?_⟩
      have e : (((net.take (i + 1)).map aZ).map Dv.str) = ((net.take i).map aZ).map Dv.str ++ [Dv.str (aZ r)] := by
        rw [List.take_succ, gp, Option.toList_some, List.map_append, List.map_append]
        rfl
      rw [← e]
      exact gZ _ _ ⟨⟨_, _, _, rfl⟩, rfl⟩
  · obtain ⟨⟨x, y, z, rfl⟩, rfl⟩ := hJ
    rw [List.length_map, List.take_length]
    simp! only []
    simp only [iN, updM_same, gv]
    exact ⟨qt O, nU (Keeps.refl.upd ha) (.str _) q⟩
end
section
variable {P : Program} {w : World} {K : PySem.W.Frag} {mg : Str → Option Value} {base : Heap} {tb : cM}
theorem fH : aS ["_law_bag_here", "_law_net_here", "_law_some"] ["_law_bag_here", "_law_net_here"] (ak eJ) := ⟨rfl, rfl, rfl, by decide +kernel, rfl, by decide +kernel, by decide +kernel⟩
theorem z8 (r : List Int) : jT (eI r) = true := by
  simp only [jT, eI, List.all_eq_true]
  intro d hd
  obtain ⟨i, _, rfl⟩ := List.mem_map.mp hd
  rfl
theorem qC {rs : List Dv} {r : Dv} (hr : r ∈ rs) (h : ∀ w, w = 2 ∨ w = 3 → dU rs.length w r = false) : dw (.tup rs) = false := by
  have f : ∀ w, w = 2 ∨ w = 3 → rs.all (dU rs.length w) = false := fun w hw => by
    rw [List.all_eq_false]
    exact ⟨r, hr, by rw [h w hw]; exact Bool.false_ne_true⟩
  simp only [dw, f 2 (.inl rfl), f 3 (.inr rfl), Bool.or_self, Bool.and_false]
theorem rp {m : Nat} {ds : List Dv} {d : Dv} (hd : d ∈ ds) (h : cS m d = false) : ds.all (cS m) = false := by
  rw [List.all_eq_false]
  exact ⟨d, hd, by rw [h]; exact Bool.false_ne_true⟩
theorem z9 {net : List (List Int)} {k : Nat} (hk : k < net.length) : bU (net.map eI) (k : Int) = some (eI net[k]) := da (by rw [List.getElem?_map, List.getElem?_eq_getElem hk]; rfl)
theorem xN {n w : Nat} {ds : List Dv} {d : Dv} (hd : d ∈ ds) (h : cS n d = false) : dU n w (.tup ds) = false := by
  simp only [dU, rp hd h, Bool.and_false]
theorem j9 {xs : List Dv} {lo hi : Option Int} {d : Dv} (h : d ∈ L2.cutD xs lo hi) : d ∈ xs := List.mem_of_mem_drop (List.mem_of_mem_take h)
theorem sy {xs : List Dv} {lo hi : Option Int} : (L2.cutD xs lo hi).length ≤ xs.length := by
  unfold L2.cutD
  rw [List.length_take, List.length_drop]
  omega
theorem qD {net : List (List Int)} : ∀ d ∈ net.map eI, jT d = true := fun d hd => by
  obtain ⟨r, _, rfl⟩ := List.mem_map.mp hd
  exact z8 r
theorem Aa {r : List Int} : ∀ d ∈ r.map Dv.int, kZ d = true := fun d hd => by
  obtain ⟨i, _, rfl⟩ := List.mem_map.mp hd
  rfl
theorem Ab {ds : List Dv} (h : ∀ d ∈ ds, kZ d = true) : jT (.tup ds) = true := by
  simp only [jT, List.all_eq_true]
  exact h
theorem Dw (xs : List Dv) : (L2.cutD xs none (some (-1))).length ≤ xs.length - 1 := by
  rw [zX]
  have e : HT.aK xs.length xs.length (some (-1)) = (-1 + (xs.length : Int)).toNat := by
    unfold HT.aK
    simp
  rw [e]
  show ((xs.drop 0).take ((-1 + (xs.length : Int)).toNat - 0)).length ≤ _
  rw [List.length_take, List.drop_zero]
  omega
noncomputable def fI (net : List (List Int)) (row : List Int) : List Dv := [.tup [], .tup [.tup [.int 0]], .tup [.tup [.int 1, .int 2], .tup [.int 0]], .tup [.tup [.int 1, .int 9]], .aj, .lst [.lst [.int 0, .int 0]], .str (Str.ofString "00"), .int 0, .tup [.tup [.int 0, .bl true], .tup [.int 1, .int 0]], .tup (net.map eI ++ [.tup [.int 0]]),
  .lst (net.map eI), .tup (L2.cutD (net.map eI) none (some (-1)) ++ [.tup (L2.cutD (row.map Dv.int) none (some (-1)) ++ [.int (net.length : Nat)])]), .tup (List.replicate (Int.toNat 10) (net.map eI)).flatten, .tup [.tup [.int 0, .int 0, .int 0, .int 0]], .tup [.tup [.int 0, .str (Str.ofString "0")]]]
theorem tQ {net : List (List Int)} {n : Nat} (O : cL net n) {row : List Int} : ∀ d ∈ fI net row, gf d = true ∧ dw d = false := fun d hd => by
  have h9 := O.nine
  have h1 := O.one
  simp only [fI, List.mem_cons, List.not_mem_nil, or_false] at hd
  rcases hd with rfl | rfl | rfl | rfl | rfl | rfl | rfl | rfl | rfl | rfl | rfl | rfl | rfl | rfl | rfl
  any_goals exact ⟨rfl, rfl⟩
  · refine ⟨?_, qC (r := .tup [.int 0]) (by simp) fun w hw => by rcases hw with rfl | rfl <;> rfl⟩
    simp only [gf, List.all_eq_true]
    intro d hd
    rcases List.mem_append.mp hd with hd | hd
    · exact qD d hd
    · rw [List.mem_singleton] at hd; subst hd; rfl
  · have el : (L2.cutD (net.map eI) none (some (-1)) ++ [Dv.tup (L2.cutD (row.map Dv.int) none (some (-1)) ++ [.int (net.length : Nat)])]).length ≤ net.length := by
      rw [List.length_append, List.length_singleton]
      have := Dw (net.map eI)
      rw [List.length_map] at this
      omega
    refine ⟨?_, qC (r := .tup (L2.cutD (row.map Dv.int) none (some (-1)) ++ [.int (net.length : Nat)])) (by simp) fun w hw => xN (d := .int (net.length : Nat)) (by simp) ?_⟩
    · simp only [gf, List.all_eq_true]
      intro d hd
      rcases List.mem_append.mp hd with hd | hd
      · exact qD d (j9 hd)
      · rw [List.mem_singleton] at hd; subst hd
        exact Ab fun d hd => by
          rcases List.mem_append.mp hd with hd | hd
          · exact Aa d (j9 hd)
          · rw [List.mem_singleton] at hd; subst hd; rfl
    · simp only [cS, Bool.and_eq_false_iff, decide_eq_false_iff_not]
      right
      omega
  · refine ⟨?_, ?_⟩
    · simp only [gf, List.all_eq_true, List.mem_flatten]
      rintro d ⟨l, hl, hd⟩
      rw [List.eq_of_mem_replicate hl] at hd
      exact qD d hd
    · simp only [dw, List.length_flatten, List.map_replicate, List.length_map, List.sum_replicate_nat, Bool.and_eq_false_iff, decide_eq_false_iff_not]
      left
      rw [show Int.toNat 10 = 10 from rfl]
      omega
theorem jX {M : Mh} {ds : List Dv} : Pin M (.tup ds) ↔ ∀ d ∈ ds, Pin M d := ⟨fun h => by cases h with | tup h => exact h, .tup⟩
theorem Ac {M : Mh} {ds : List Dv} : Pin M (.lst ds) ↔ ∀ d ∈ ds, Pin M d := ⟨fun h => by cases h with | lst h => exact h, .lst⟩
theorem Dx {M : Mh} (i : Int) : Pin M (.int i) ↔ True := ⟨fun _ => trivial, fun _ => .int i⟩
theorem Dy {M : Mh} (i : Bool) : Pin M (.bl i) ↔ True := ⟨fun _ => trivial, fun _ => .bl i⟩
theorem Dz {M : Mh} (i : Str) : Pin M (.str i) ↔ True := ⟨fun _ => trivial, fun _ => .str i⟩
theorem DA {M : Mh} : Pin M .aj ↔ True := ⟨fun _ => trivial, fun _ => .aj⟩
theorem rq {net : List (List Int)} {row : List Int} : ∀ d ∈ fI net row, bF (some d) := fun d hd M d' e => by
  cases e
  have pn : ∀ d ∈ net.map eI, Pin M d := fun d hd => by obtain ⟨r, _, rfl⟩ := List.mem_map.mp hd; exact p7 r
  have pr : ∀ d ∈ row.map Dv.int, Pin M d := fE row
  simp only [fI, List.mem_cons, List.not_mem_nil, or_false] at hd
  rcases hd with rfl | rfl | rfl | rfl | rfl | rfl | rfl | rfl | rfl | rfl | rfl | rfl | rfl | rfl | rfl
  any_goals (simp only [jX, Ac, Dx, Dy, Dz, DA, List.forall_mem_cons, List.not_mem_nil, false_implies, implies_true, and_self, true_and]; done)
  · rw [jX]
    intro d hd
    rcases List.mem_append.mp hd with hd | hd
    · exact pn d hd
    · rw [List.mem_singleton] at hd; subst hd; exact p7 [0]
  · exact .lst pn
  · rw [jX]
    intro d hd
    rcases List.mem_append.mp hd with hd | hd
    · exact pn d (j9 hd)
    · rw [List.mem_singleton] at hd; subst hd
      rw [jX]
      intro d hd
      rcases List.mem_append.mp hd with hd | hd
      · exact pr d (j9 hd)
      · rw [List.mem_singleton] at hd; subst hd; exact .int _
  · rw [jX]
    intro d hd
    obtain ⟨l, hl, hd⟩ := List.mem_flatten.mp hd
    rw [List.eq_of_mem_replicate hl] at hd
    exact pn d hd
noncomputable def vU : dh := fun ds M Q _ => ∃ (b : Addr) (net : List (List Int)) (n : Nat), ds = [.ptr b, eN net] ∧ M b = some .bV ∧ cL net n ∧ ∀ d, gf d = true → dw d = false → bF (some d) → Q d M
theorem ox {f f1 : Addr} {fd bQ : FuncData} (D : Df K mg "_law_no_net" eJ ["_law_bag_here", "_law_net_here"] f fd)
    (au : Df K mg "_law_take" dH ["_law_bag_here", "_law_many"] f1 bQ) (bC : FnOk P w K mg base bj 1 f1 bQ ["_law_bag_here", "_law_many"] (aX P w K tb oO)) (bl : Bl mg) :
    FnOk P w K mg base bj 2 f fd ["_law_bag_here", "_law_net_here"] (aX P w K tb vU) := by
  refine dQ D fH (fun ds M Q E hS => by obtain ⟨b, net, n, e, _⟩ := hS; rw [e]; rfl) fun A outer s E Γ ds Q' E' hP hw hK ht hr hS => ⟨_, (ah (aL (i := 2) fH.nd rfl (Or.inl rfl) (fW (aa (bq ae) (aa (bq (aa (bq (aa af ae)) ae)) (aa (bq (aa (bq (aa af (aa af ae))) (aa (bq (aa af ae)) ae))) (aa (bq (aa (bq (aa af (aa af ae))) ae)) (aa u9 (aa (fW (aa (fW (aa af (aa af ae))) ae)) (aa dB (aa af (aa (bq (aa (bq (aa af (aa fh ae))) (aa (bq (aa af (aa af ae))) ae))) (aa (aR (pS (K := K) rfl) (qv 1) (bq (aa (bq (aa af ae)) ae))) ae))))))))))))
    (ah (aL (i := 2) fH.nd rfl (Or.inl rfl) (aR (CV (K := K) rfl) (qv 2) (fW (aa (eZ (CF (K := K) rfl) rfl bl.list_ zF (aa (qv 1) ae)) (aa (aR (pS (K := K) rfl) (pR (yG (K := K) rfl) (qv 1) sh (si (pZ af))) (bq (aa (aR (pS (K := K) rfl) (pR (yG (K := K) rfl) (bL (cU (K := K) rfl) (qv 1) (pZ af) (fun _ _ => rfl)) sh (si (pZ af))) (bq (aa (aN (dX (K := K) rfl hK) rfl bl.len_ PySem.boot_len (aa (qv 1) ae)) ae))) ae))) (aa (aR CU (qv 1) af) (aa (bq (aa (bq (aa af (aa af (aa af (aa af ae))))) ae)) (aa (bq (aa (bq (aa af (aa dB ae))) ae)) ae))))))))
    (av (a8 (bL (cU (K := K) rfl) (qv 2) (aE bC (hr.mono (by decide)) rfl au.mg au.fn.kp au.bd bz hP hw hK ht XR.none (aa (qv 0) (aa af ae))) (fun _ _ => rfl)))))), ?_⟩
  obtain ⟨b, net, n, e, hb, O, q⟩ := hS
  subst e
  have h9 := O.nine
  have h1 := O.one
  have Kv := O.wid
  have big : (1000 : Nat) < sizeLine := by decide
  have HR : net.length - 1 < net.length := by omega
  have el : bU (net.map eI) (-1) = some (eI net[net.length - 1]) := by
    have jx : net ≠ [] := fun e => by rw [e] at h1; simp at h1
    have e : net.map eI = (net.map eI).dropLast ++ [eI net[net.length - 1]] := by
      have := (List.dropLast_concat_getLast (l := net.map eI) (by simpa using jx)).symm
      rw [List.getLast_map, List.getLast_eq_getElem] at this
      exact this
    rw [e]
    exact wL _ _
  dsimp! only [el]
  have rl : (List.map Dv.int net[net.length - 1]).length = n := by rw [List.length_map]; exact (O.row _ (List.getElem_mem HR)).1
  have ml : (net.map eI).length = net.length := by simp
  have kc := @sy (List.map Dv.int net[net.length - 1]) none (some (-1))
  have k3 := @sy (net.map eI) none (some (-1))
  have jx : net.map eI ≠ [] := fun e => by rw [e] at ml; simp at ml; omega
  repeat first | refine ⟨(by omega : (_ : Nat) ≤ sizeLine), ?_⟩ | refine ⟨⟨jx, by decide, by decide, by rw [show Int.toNat 10 = 10 from rfl]; omega⟩, ?_⟩
  refine ⟨b, 15, rfl, hb, by decide, by decide, fun d hd => ?_⟩
  have xO : d < (fI net net[net.length - 1]).length := by show d < 15; omega
  have e := da (List.getElem?_eq_getElem xO)
  have e2 := tQ O (row := net[net.length - 1]) _ (List.getElem_mem xO)
  have e3 := rq (net := net) (row := net[net.length - 1]) _ (List.getElem_mem xO)
  generalize (fI net net[net.length - 1])[d] = r at e e2 e3
  show (match bU (fI net net[net.length - 1]) ((d : Nat) : Int) with | some r => i6 Γ.M0 Q' r Γ.M0 | none => False)
  rw [e]
  exact .inl (q _ e2.1 e2.2 e3)
end
section
variable {P : Program} {w : World} {K : PySem.W.Frag} {mg : Str → Option Value} {base : Heap} {tb : cM} {C_RoadError C_NoNet C_NoWord C_NoText C_NoDeed C_NoPaper C_NoRow C_NoPlace C0 : Addr} {cs : List Addr}
theorem qE : aS ["net", "word"] ["net", "word"] (ak fL) := ⟨rfl, rfl, rfl, by decide +kernel, rfl, by decide +kernel, by decide +kernel⟩
theorem ir : aS ["_law_what", "_law_thing", "e"] ["_law_what", "_law_thing"] (ak d7) := ⟨rfl, rfl, rfl, by decide +kernel, rfl, by decide +kernel, by decide +kernel⟩
noncomputable def DB (C : Addr) : dh := fun ds M _ E => ∃ d x, ds = [d, x] ∧ gf d = true ∧ dw d = false ∧ E C M
theorem qF {f f1 : Addr} {fd bQ : FuncData} (D : Df K mg "show_word" fL ["net", "word"] f fd) (aW : Df K mg "need_net" dZ ["thing"] f1 bQ) (cp : FnOk P w K mg base (dn P w) 7 f1 bQ ["thing"] (aX P w K tb (oP C_NoNet))) :
    FnOk P w K mg base (dn P w) 11 f fd ["net", "word"] (aX P w K tb (DB C_NoNet)) := by
  refine oM D qE (fun ds M Q E hS => by obtain ⟨d, x, e, _⟩ := hS; rw [e]; rfl) fun A outer s E Γ ds Q' E' hP hw hK ht hE hr hS => ?_
  obtain ⟨d, x, e, hk, hb, q⟩ := hS
  refine ⟨_, (ah (dF (aE cp (hr.mono (by decide)) rfl aW.mg aW.fn.kp aW.bd sT hP hw hK ht hE (aa (qv 0) ae))) vb), ?_⟩
  subst e
  simp! only []
  exact ⟨d, rfl, hk, fun h => (by rw [hb] at h; cases h), fun _ => q⟩
theorem jY {K : PySem.W.Frag} {C : Addr} : ∀ {Ds : List Addr}, (∀ D ∈ Ds, PySem.W.kitOne K (.ref C) (.ref D) = some false) → PySem.W.kitAny K (.ref C) (Ds.map Value.ref) = some false
  | [], _ => by simp [PySem.W.kitAny]
  | D :: Ds, h => by
    rw [List.map_cons]
    unfold PySem.W.kitAny
    rw [h D List.mem_cons_self]
    exact jY fun D' hD => h D' (List.mem_cons_of_mem _ hD)
noncomputable def vV : dh := fun ds M Q _ => ∃ (k : Nat) (d : Dv), ds = [.int (k : Nat), d] ∧ k < 4 ∧ gf d = true ∧ dw d = false ∧ Q (.bl true) M
theorem mV {f f1 f2 : Addr} {fd bQ fd2 : FuncData} (D : Df K mg "_law_refused" d7 ["_law_what", "_law_thing"] f fd)
    (bf : Df K mg "show_net" d6 ["net"] f1 bQ) (dy : FnOk P w K mg base (dn P w) 11 f1 bQ ["net"] (aX P w K tb (qu C_NoNet)))
    (dM : Df K mg "show_word" fL ["net", "word"] f2 fd2) (iA : FnOk P w K mg base (dn P w) 11 f2 fd2 ["net", "word"] (aX P w K tb (DB C_NoNet)))
    (X_ : xa K C_RoadError cs) (cc : C_NoNet ∈ cs) (k8 : C_NoWord ∈ cs) (k9 : C_NoText ∈ cs) (la : C_NoDeed ∈ cs) (mW : C_NoRow ∈ cs) (jZ : C_NoPlace ∈ cs)
    (xP : PySem.W.kitOne K (.ref C_NoNet) (.ref C_NoPaper) = some false) (nd : [C_NoNet, C_NoPlace, C_NoWord, C_NoText, C_NoRow, C_NoDeed].Nodup)
    (iB : mg "RoadError" = some (.ref C_RoadError)) (gF : mg "NoNet" = some (.ref C_NoNet)) (lb : mg "NoDeed" = some (.ref C_NoDeed)) (j0 : mg "NoPaper" = some (.ref C_NoPaper)) (j1 : mg "NoPlace" = some (.ref C_NoPlace)) (mX : mg "NoRow" = some (.ref C_NoRow)) (lg : mg "NoText" = some (.ref C_NoText)) (lh : mg "NoWord" = some (.ref C_NoWord)) (bl : Bl mg) :
    FnOk P w K mg base bj 13 f fd ["_law_what", "_law_thing"] (aX P w K tb vV) := by
  refine dQ D ir (fun ds M Q E hS => by obtain ⟨k, d, e, _⟩ := hS; rw [e]; rfl) fun A outer s E Γ ds Q' E' hP hw hK ht hr hS => ?_
  obtain ⟨k, d, e, Kw, hk, hb, q⟩ := hS
  refine ⟨_, (ah (CJ (i := 2) (nn := 3) rfl ir.nd rfl rfl ⟨rfl, rfl⟩ rfl X_.top rfl iB (fun T pn EE E2 jl JQ JR JS JT hp GC => by
      have hP := hP.trans JQ.symm
      have hw := hw.trans JR.symm
      have hK := hK.trans JS.symm
      have ht := ht.trans JT.symm
      exact (av (cO (bN tu (qv 0) af (b5 _))
      (av (dF (aE dy (hr.mono (by decide)) rfl bf.mg bf.fn.kp bf.bd hp hP hw hK ht GC (aa (qv 1) ae))))
      (av (dF (aE iA (hr.mono (by decide)) rfl dM.mg dM.fn.kp dM.bd hp hP hw hK ht GC (aa (qv 1) (aa (bL (cU (K := K) rfl) (fW (aa dB (aa u9 (aa dB ae)))) (aR tm (qv 0) af) (fun _ _ => rfl)) ae))))))))
      (fun ea => (av (a8 (lW (aN (yH (K := K) rfl) rfl bl.isinstance_ cj (aa (qv 2) (aa (eR (v := .ref C_NoNet) rfl gF rfl) ae))) (lV (va (aN (yH (K := K) rfl) rfl bl.isinstance_ cj (aa (qv 2) (aa (bq (aa (eR (v := .ref C_NoDeed) rfl lb rfl) (aa (eR (v := .ref C_NoPaper) rfl j0 rfl) (aa (eR (v := .ref C_NoPlace) rfl j1 rfl) (aa (eR (v := .ref C_NoRow) rfl mX rfl) (aa (eR (v := .ref C_NoText) rfl lg rfl) (aa (eR (v := .ref C_NoWord) rfl lh rfl) ae))))))) ae))))))))))
    (av (a8 fh))), ?_⟩
  subst e
  simp! only []
  have hC := X_.cl _ cc
  have hs := X_.sub _ cc
  have h1 : PySem.W.kitOne K (.ref C_NoNet) (.ref C_NoNet) = some true := by rw [X_.one _ cc _ cc]; simp
  have DC : PySem.W.kitAny K (.ref C_NoNet) ([C_NoDeed, C_NoPaper, C_NoPlace, C_NoRow, C_NoText, C_NoWord].map Value.ref) = some false := by
    simp only [List.nodup_cons, List.mem_cons, List.not_mem_nil, not_or, or_false, not_false_eq_true] at nd
    refine jY fun D hD => ?_
    simp only [List.mem_cons, List.not_mem_nil, or_false] at hD
    rcases hD with rfl | rfl | rfl | rfl | rfl | rfl
    · rw [X_.one _ cc _ la]; simp [nd]
    · exact xP
    · rw [X_.one _ cc _ jZ]; simp [nd]
    · rw [X_.one _ cc _ mW]; simp [nd]
    · rw [X_.one _ cc _ k9]; simp [nd]
    · rw [X_.one _ cc _ k8]; simp [nd]
  refine fY (fun h => ?_) (fun h => ?_)
  · refine ⟨d, rfl, hk, .inr ⟨hb, hs, hC, ?_⟩⟩
    rw [h1]
    refine (if_pos rfl).mpr ⟨by decide, hC, [C_NoDeed, C_NoPaper, C_NoPlace, C_NoRow, C_NoText, C_NoWord], rfl, ?_⟩
    rw [DC]
    exact .inl q
  · refine ⟨by decide, ?_⟩
    obtain ⟨r, JU⟩ : ∃ r, bU [Dv.str (Str.ofString "a"), Dv.aj, Dv.str (Str.ofString "d")] ((k : Int) - 1) = some r := by
      have : k ≠ 0 := fun e => by subst e; simp at h
      have : k = 1 ∨ k = 2 ∨ k = 3 := by omega
      rcases this with rfl | rfl | rfl <;> exact ⟨_, rfl⟩
    rw [JU]
    refine ⟨d, r, rfl, hk, hb, hs, hC, ?_⟩
    rw [h1]
    refine (if_pos rfl).mpr ⟨by decide, hC, [C_NoDeed, C_NoPaper, C_NoPlace, C_NoRow, C_NoText, C_NoWord], rfl, ?_⟩
    rw [DC]
    exact .inl q
end
section
variable {P : Program} {w : World} {K : PySem.W.Frag} {mg : Str → Option Value} {base : Heap} {tb : cM} {C_NoNet : Addr}
theorem eF : aS ["_law_script", "_law_kept", "_law_k", "_law_bag_here", "_law_net_here", "_law_thing", "_law_order_here", "_law_turned", "_law_one"] ["_law_script"] (ak md) := ⟨rfl, rfl, rfl, by decide +kernel, rfl, by decide +kernel, by decide +kernel⟩
theorem ll {d : Dv} {t : Dt} {M : Mh} {Q : ZK} (h : bw (now M d) = some t) (hp : fu t ≤ 60) (q : Q (.bl false) M) : pQ true d d M Q := by
  unfold pQ
  rw [h]
  refine ⟨hp, ?_⟩
  rw [iT]
  exact q
noncomputable def qG (net : List (List Int)) : Dv → Dv
  | .int o => eI (net.getD o.toNat [])
  | d => d
noncomputable def mY (net : List (List Int)) (os : List Int) : List (List Int) := os.map fun o => net.getD o.toNat []
theorem vW {net : List (List Int)} {os : List Int} : (os.map Dv.int).map (qG net) = (mY net os).map eI := by
  unfold mY
  rw [List.map_map, List.map_map]
  rfl
theorem vX {net : List (List Int)} {os : List Int} (h : bS net.length os) : (mY net os).Perm net := by
  unfold mY
  refine (h.perm.map _).trans ?_
  rw [List.map_map]
  have e : (List.range net.length).map ((fun o : Int => net.getD o.toNat []) ∘ fun i : Nat => (i : Int)) = net := by
    refine List.ext_getElem (by simp) fun i h1 h2 => ?_
    simp only [List.getElem_map, List.getElem_range, Function.comp, Int.toNat_natCast]
    rw [List.getD_eq_getElem?_getD, List.getElem?_eq_getElem h2]
    rfl
  rw [e]
theorem Ad {net : List (List Int)} {n : Nat} {os : List Int} (O : cL net n) (h : bS net.length os) : cL (mY net os) n := by
  have p := vX h
  have hl := p.length_eq
  exact ⟨by rw [hl]; exact O.one, by rw [hl]; exact O.nine, O.wid, fun r hr => by rw [hl]; exact O.row r (p.mem_iff.mp hr)⟩
theorem DE {f f1 f2 f3 f4 f5 f6 f7 f8 : Addr} {fd bQ fd2 oa GD GF GH GI GJ : FuncData} (D : Df K mg "law" md ["_law_script"] f fd)
    (ed : Df K mg "_law_bag" gz ["_law_script", "_law_at"] f1 bQ) (tR : FnOk P w K mg base bj 1 f1 bQ ["_law_script", "_law_at"] (aX P w K tb C7))
    (ee : Df K mg "_law_net" dv ["_law_bag_here", "_law_most"] f2 fd2) (tS : FnOk P w K mg base bj 3 f2 fd2 ["_law_bag_here", "_law_most"] (aX P w K tb yR))
    (cI : Df K mg "_law_no_net" eJ ["_law_bag_here", "_law_net_here"] f3 oa) (oy : FnOk P w K mg base bj 2 f3 oa ["_law_bag_here", "_law_net_here"] (aX P w K tb vU))
    (cA : Df K mg "_law_refused" d7 ["_law_what", "_law_thing"] f4 GD) (mZ : FnOk P w K mg base bj 13 f4 GD ["_law_what", "_law_thing"] (aX P w K tb vV))
    (bo : Df K mg "_law_order" dS ["_law_bag_here", "_law_many"] f5 GF) (g5 : FnOk P w K mg base bj 2 f5 GF ["_law_bag_here", "_law_many"] (aX P w K tb qi))
    (bf : Df K mg "show_net" d6 ["net"] f6 GH) (dy : FnOk P w K mg base (dn P w) 11 f6 GH ["net"] (aX P w K tb (qu C_NoNet)))
    (bZ : Df K mg "_law_text" fN ["_law_net_here"] f7 GI) (kD : FnOk P w K mg base bj 2 f7 GI ["_law_net_here"] (aX P w K tb yY))
    (cq : Df K mg "read_net" gy ["text"] f8 GJ) (gC : FnOk P w K mg base (dn P w) 11 f8 GJ ["text"] (aX P w K tb vQ)) (bl : Bl mg) :
    FnOk P w K mg base bj 14 f fd ["_law_script"] (aX P w K tb CK) := by
  refine dQ D eF (fun ds M Q E hS => by obtain ⟨ns, e, _⟩ := hS; rw [e]; rfl) fun A outer s E Γ ds Q' E' hP hw hK ht hr hS => ⟨_, (ah (aL (i := 1) eF.nd rfl (Or.inl rfl) (iL ae))
    (ah (dE PassesOwn.never rfl (cy rfl bl.range_ (aa (aN (CD rfl) rfl bl.max_ B6 (aa af (aa (aN (pT rfl) rfl bl.min_ pC (aa af (aa (aN (dX (K := K) rfl hK) rfl bl.len_ PySem.boot_len (aa (qv 0) ae)) ae))) ae))) ae)) (fun jl eP ew eK et => by have hP := hP.trans eP.symm; have hw := hw.trans ew.symm; have hK := hK.trans eK.symm; have ht := ht.trans et.symm; exact ⟨(aV (i := 2) eF.nd rfl (Or.inl rfl)), (ah (aL (i := 3) eF.nd rfl (Or.inl rfl) (aE tR (hr.mono (by decide)) rfl ed.mg ed.fn.kp ed.bd bz hP hw hK ht XR.none (aa (qv 0) (aa (qv 2) ae))))
    (ah (aL (i := 4) eF.nd rfl (Or.inr rfl) (aE tS (hr.mono (by decide)) rfl ee.mg ee.fn.kp ee.bd bz hP hw hK ht XR.none (aa (qv 3) (aa af ae))))
    (ah (aL (i := 5) eF.nd rfl (Or.inr rfl) (aE oy (hr.mono (by decide)) rfl cI.mg cI.fn.kp cI.bd bz hP hw hK ht XR.none (aa (qv 3) (aa (qv 4) ae))))
    (ah (cO (bN (tD hr.units) (eE (N' := ["_law_what", "_law_thing"]) (tn := 1) (idx := [5]) rfl (show aG ["_law_script", "_law_kept", "_law_k", "_law_bag_here", "_law_net_here", "_law_thing", "_law_order_here", "_law_turned", "_law_one"] (ak md) _ ["_law_what", "_law_thing"] 1 [5] from by decide +kernel) (cy rfl bl.range_ (aa af ae)) (fun _ _ _ _ _ => (aV (i := 0) (show List.Nodup [("_law_what" : Str), ("_law_thing" : Str)] from by decide +kernel) rfl (Or.inl rfl))) (fun _ _ _ _ _ => cH) (fun _ _ _ _ _ => (aE mZ (hr.mono (by decide)) rfl cA.mg cA.fn.kp cA.bd bz hP hw hK ht XR.none (aa (qv 0) (aa (qv 1) ae))))) (aR Fc (fW (aa fh ae)) af) (b5 _))
      (av (a8 fh))
      qss_nil)
    (ah (aL (i := 6) eF.nd rfl (Or.inl rfl) (aE g5 (hr.mono (by decide)) rfl bo.mg bo.fn.kp bo.bd bz hP hw hK ht XR.none (aa (qv 3) (aa (aN (dX (K := K) rfl hK) rfl bl.len_ PySem.boot_len (aa (qv 4) ae)) ae))))
    (ah (aL (i := 7) eF.nd rfl (Or.inl rfl) (eZ (mI (K := K) rfl) rfl bl.tuple_ fA (aa (eE (N' := ["_law_place", "_law_net_here"]) (tn := 1) (idx := [4]) rfl (show aG ["_law_script", "_law_kept", "_law_k", "_law_bag_here", "_law_net_here", "_law_thing", "_law_order_here", "_law_turned", "_law_one"] (ak md) _ ["_law_place", "_law_net_here"] 1 [4] from by decide +kernel) (iM (K := K) rfl (qv 6)) (fun _ _ _ _ _ => (aV (i := 0) (show List.Nodup [("_law_place" : Str), ("_law_net_here" : Str)] from by decide +kernel) rfl (Or.inl rfl))) (fun _ _ _ _ _ => cH) (fun _ _ _ _ _ => (bL (cU (K := K) rfl) (qv 1) (qv 0) (fun _ _ => rfl)))) ae)))
    (av (dE PassesOwn.never rfl (iM (K := K) rfl (fW (aa (qv 4) (aa (qv 7) ae)))) (fun jl eP ew eK et => by have hP := hP.trans eP.symm; have hw := hw.trans ew.symm; have hK := hK.trans eK.symm; have ht := ht.trans et.symm; exact ⟨(aV (i := 8) eF.nd rfl (Or.inl rfl)), (ah (cO (QW.pt (lU (bN tv (aE dy (hr.mono (by decide)) rfl bf.mg bf.fn.kp bf.bd oJ hP hw hK ht XR.none (aa (qv 8) ae)) (aE kD (hr.mono (by decide)) rfl bZ.mg bZ.fn.kp bZ.bd bz hP hw hK ht XR.none (aa (qv 8) ae)) (b5 _)) (lR (bN (tD hr.units) (aE gC (hr.mono (by decide)) rfl cq.mg cq.fn.kp cq.bd oJ hP hw hK ht XR.none (aa (aE kD (hr.mono (by decide)) rfl bZ.mg bZ.fn.kp bZ.bd bz hP hw hK ht XR.none (aa (qv 8) ae)) ae)) (qv 8) (b5 _)))))
      (av (a8 fh))
      qss_nil)
    (av (dF (gu (K := K) rfl PySem.F.plainAttrs_list PySem.F.slot_list_append PySem.F.type_list_append i5 (qv 1) (aa (qv 8) ae)))))⟩)))))))))⟩))
    (ah (vw 1 rfl (dE PassesOwn.never rfl (iM (K := K) rfl (qv 1)) (fun jl eP ew eK et => by have hP := hP.trans eP.symm; have hw := hw.trans ew.symm; have hK := hK.trans eK.symm; have ht := ht.trans et.symm; exact ⟨(aV (i := 8) eF.nd rfl (Or.inl rfl)), (av (cO (bN (tD hr.units) (aE gC (hr.mono (by decide)) rfl cq.mg cq.fn.kp cq.bd oJ hP hw hK ht XR.none (aa (aE dy (hr.mono (by decide)) rfl bf.mg bf.fn.kp bf.bd oJ hP hw hK ht XR.none (aa (qv 8) ae)) ae)) (qv 8) (b5 _))
      (av (a8 fh))
      qss_nil))⟩)))
    (av (a8 fh))))), ?_⟩
  obtain ⟨ns, e, hl, hM, q⟩ := hS
  subst e
  dsimp! only []
  refine ⟨Nat.zero_le _, fun a ha => ⟨by split <;> split <;> omega, by split <;> split <;> omega, ?_⟩⟩
  refine b7 (fun k ρ M => ∃ iC : List (List (List Int)), (∀ net ∈ iC, ∃ n, cL net n) ∧ iC.length ≤ 2 * k ∧ M a = some (.lst (iC.map eN)) ∧ (∀ c o, M c = some o → c = a ∨ o = .bV) ∧ ∃ x2 x3 x4 x5 x6 x7 x8 : Option Dv, (bF x2 ∧ (∀ d : Dv, x3 = some d → ∃ b : Addr, d = Dv.ptr b ∧ M b = some Mo.bV) ∧ bF x4 ∧ bF x5 ∧ bF x6 ∧ bF x7 ∧ bF x8) ∧ ρ = [some (.a9 ns), some (.ptr a), x2, x3, x4, x5, x6, x7, x8]) ⟨[], by simp, Nat.le_refl _, updM_same, fun c o e => ?_, none, none, none, none, none, none, none, ⟨.none, (fun _ h => nomatch h), .none, .none, .none, .none, .none⟩, rfl⟩ (fun k d ρ M N hd hJ hN => ?_) (fun ρ M hJ => ?_)
  · by_cases h : c = a
    · exact .inl h
    · rw [ai h, hM c] at e; cases e
  · obtain ⟨iC, iG, JV, ik, vY, x2, x3, x4, x5, x6, x7, x8, ⟨n2, n3, n4, n5, n6, n7, n8⟩, rfl⟩ := hJ
    obtain ⟨rfl, hk⟩ := cQ hd
    have hk : k ≤ 6 := by split at hk <;> split at hk <;> omega
    have big : (100000 : Nat) < sizeLine := by decide
    simp only [zgName, List.set_cons_zero, List.set_cons_succ, Int.zero_add]
    refine yO (fun ρ M => ∃ (b : Addr) (net : List (List Int)) (n : Nat) (th : Dv), cL net n ∧ bF (some th) ∧ M b = some .bV ∧ (∀ c o, M c = some o → c = a ∨ o = .bV) ∧ M a = some (.lst (iC.map eN)) ∧ ρ = [some (.a9 ns), some (.ptr a), some (.int (k : Nat)), some (.ptr b), some (eN net), some th, x6, x7, x8]) (fun N2 gZ => ?_) ?_
    · dsimp! only []
      refine ⟨ns, _, rfl, hl, by omega, by omega, fun b hb => ?_⟩
      have vZ : a ≠ b := fun e => by rw [e, hb] at ik; cases ik
      refine ⟨b, 9, rfl, updM_same, by omega, by omega, fun net n O _ => ?_⟩
      refine ⟨b, net, n, rfl, updM_same, O, fun th JW JX JY => ?_⟩
      dsimp! only []
      refine ⟨by decide, by decide, by decide, fD (fun _ => .bl true) (fun τ M' => (∃ x, τ = [x, some th]) ∧ M' = az M b .bV) ⟨⟨_, rfl⟩, rfl⟩ (fun d hd τ M' hJ R k => ?_) (fun τ M' hJ => ?_)⟩
      · obtain ⟨⟨x, rfl⟩, rfl⟩ := hJ
        obtain ⟨i, hi⟩ := List.mem_iff_getElem?.mp hd
        obtain ⟨rfl, JZ⟩ := cQ hi
        have J0 : i < 4 := JZ
        dsimp! only []
        exact ⟨i, th, rfl, J0, JW, JX, k _ _ ⟨⟨_, rfl⟩, rfl⟩⟩
      · obtain ⟨⟨x, rfl⟩, rfl⟩ := hJ
        refine ⟨by decide, ⟨by decide, by decide, by decide⟩, ?_⟩
        refine ll (d := .lst (List.replicate (Int.toNat 4) [Dv.bl true]).flatten) rfl (by decide) ?_
        exact gZ _ _ ⟨b, net, n, th, O, JY, updM_same, fun c o e => by
          by_cases h : c = b
          · subst h; rw [updM_same] at e; cases e; exact .inr rfl
          · rw [ai h] at e; exact vY c o e, by rw [ai vZ]; exact ik, rfl⟩
    · rintro ρ M ⟨b, net, n, th, O, J4, hb, vY, ik, rfl⟩
      have h9 := O.nine
      dsimp! only []
      have vZ : a ≠ b := fun e => by rw [e, hb] at ik; cases ik
      refine ⟨b, net.length, rfl, hb, by omega, fun os ho => ?_⟩
      have Gw := ho.len
      show _ ∧ _
      refine ⟨by rw [List.length_map]; omega, fD (qG net) (fun τ M' => (∃ x, τ = [x, some (eN net)]) ∧ M' = M) ⟨⟨_, rfl⟩, rfl⟩ (fun d hd τ M' hJ R k => ?_) (fun τ M' hJ => ?_)⟩
      · obtain ⟨⟨x, rfl⟩, rfl⟩ := hJ
        obtain ⟨o, fO, rfl⟩ := List.mem_map.mp hd
        obtain ⟨o1, o2⟩ := ho.mem fO
        obtain ⟨j, rfl⟩ := Int.eq_ofNat_of_zero_le o1
        have hj : j < net.length := by omega
        have k := k [some (.int (j : Nat)), some (eN net)] M' ⟨⟨_, rfl⟩, rfl⟩
        have ek : qG net (.int (j : Nat)) = eI net[j] := by
          show eI (net.getD (j : Nat) []) = _
          rw [List.getD_eq_getElem?_getD, List.getElem?_eq_getElem hj]; rfl
        rw [ek] at k
        dsimp! only []
        rw [z9 hj]
        exact k
      · obtain ⟨⟨x, rfl⟩, rfl⟩ := hJ
        rw [vW]
        have O2 := Ad O ho
        have pN : ∀ net, bF (some (eN net)) := fun net _ _ h => by cases h; exact jQ net
        obtain ⟨tn, J5⟩ : ∃ tn, tn = mY net os := ⟨_, rfl⟩
        rw [← J5] at O2 ⊢
        refine ⟨by omega, ?_⟩
        refine b7 (fun i ρ M => ∃ x8, bF x8 ∧ ρ = [some (.a9 ns), some (.ptr a), some (.int (k : Nat)), some (.ptr b), some (eN net), some th, some (jk os), some (eN tn), x8] ∧ M b = some .bV ∧ M a = some (.lst ((iC ++ [net, tn].take i).map eN)) ∧ ∀ c o, M c = some o → c = a ∨ o = .bV) ⟨x8, n8, rfl, hb, by simpa using ik, vY⟩ (fun i d ρ M N2 hd hJ gZ => ?_) (fun ρ M hJ => ?_)
        · obtain ⟨y8, m8, rfl, gb, DF, DG⟩ := hJ
          obtain ⟨one, h1, rfl⟩ := qa (show ([net, tn].map eN)[i]? = some d from hd)
          have O1 : cL one n := by
            have := List.mem_of_getElem? h1
            simp only [List.mem_cons, List.not_mem_nil, or_false] at this
            rcases this with rfl | rfl
            · exact O
            · exact O2
          dsimp! only []
          refine ⟨eN one, rfl, mS one, .inl ⟨one, n, rfl, O1, one, n, rfl, O1, ?_⟩⟩
          have en : decide (jU one = jU one) = true := decide_eq_true rfl
          dsimp only
          rw [en, if_neg (by decide)]
          refine ⟨one, n, rfl, O1, one, n, rfl, O1, ll (d := eN one) (yK one) (Nat.le_trans (sq _) (by decide)) ?_⟩
          dsimp! only [DF]
          have il : i < 2 := (List.getElem?_eq_some_iff.mp h1).1
          have et : [net, tn].take (i + 1) = [net, tn].take i ++ [one] := by rw [List.take_succ, h1]; rfl
          have lt : ([net, tn].take i).length ≤ 2 := List.length_take_le' ..
          refine ⟨by rw [List.length_append]; omega, gZ _ _ ⟨_, pN _, rfl, by rw [ai (Ne.symm vZ)]; exact gb, by rw [updM_same, et, ← List.append_assoc, List.map_append (l₂ := [one])]; rfl, fun c o e => ?_⟩⟩
          by_cases h : c = a
          · exact .inl h
          · rw [ai h] at e; exact DG c o e
        · obtain ⟨y8, m8, rfl, gb, DF, DG⟩ := hJ
          have pN : ∀ net, bF (some (eN net)) := fun net _ _ h => by cases h; exact jQ net
          refine hN _ _ ⟨iC ++ [net, tn], fun x hx => ?_, by rw [List.length_append]; show _ + 2 ≤ _; omega, DF, DG, _, _, _, _, _, _, _, ⟨.int _, fun d e => by cases e; exact ⟨b, rfl, gb⟩, pN _, J4, .lI os, pN _, m8⟩, rfl⟩
          rcases List.mem_append.mp hx with h | h
          · exact iG x h
          · simp only [List.mem_cons, List.not_mem_nil, or_false] at h
            rcases h with rfl | rfl
            · exact ⟨n, O⟩
            · exact ⟨n, O2⟩
  · obtain ⟨iC, iG, JV, ik, vY, x2, x3, x4, x5, x6, x7, x8, ⟨n2, n3, n4, n5, n6, n7, n8⟩, rfl⟩ := hJ
    have pN : ∀ net, bF (some (eN net)) := fun net _ _ h => by cases h; exact jQ net
    dsimp! only []
    refine .inr ⟨a, iC.map eN, rfl, ik, ha, ⟨fun j d e => ?_, fun c o e => .inr ?_⟩, ?_⟩
    · match j, e with
      | 0, e => cases e; exact .a9 ns
      | 1, e => cases e; exact .lst fun d hd => by obtain ⟨net, _, rfl⟩ := List.mem_map.mp hd; exact jQ net
      | 2, e => exact n2 _ d (Option.some.inj e)
      | 3, e =>
        obtain ⟨b, rfl, hb⟩ := n3 d (Option.some.inj e)
        have vZ : b ≠ a := fun e => by rw [e, ik] at hb; cases hb
        exact .ptr (by rw [bM vZ, hb]; rfl)
      | 4, e => exact n4 _ d (Option.some.inj e)
      | 5, e => exact n5 _ d (Option.some.inj e)
      | 6, e => exact n6 _ d (Option.some.inj e)
      | 7, e => exact n7 _ d (Option.some.inj e)
      | 8, e => exact n8 _ d (Option.some.inj e)
      | j + 9, e => exact nomatch e
    · have h2 : c ≠ a := fun z => by rw [z, cR] at e; cases e
      rw [bM h2] at e
      rcases vY c o e with h | rfl
      · exact absurd h h2
      · intro d hd
        cases hd
    · dsimp! only []
      refine b7 (fun i ρ M => ∃ x8, ρ = [some (.a9 ns), some (.lst (iC.map eN)), x2, x3, x4, x5, x6, x7, x8]) ⟨_, rfl⟩ (fun i d ρ M N2 hd hJ gZ => ?_) (fun ρ M hJ => ?_)
      · obtain ⟨y8, rfl⟩ := hJ
        obtain ⟨one, h1, rfl⟩ := qa hd
        obtain ⟨n, O⟩ := iG one (List.mem_of_getElem? h1)
        dsimp! only []
        refine ⟨eN one, rfl, mS one, .inl ⟨one, n, rfl, O, one, n, rfl, O, ll (d := eN one) (yK one) (Nat.le_trans (sq _) (by decide)) ?_⟩⟩
        exact gZ _ _ ⟨_, rfl⟩
      · exact .inl (q _)
end
theorem all_mk {l : PySem.W.OpenLaw} {w : World} {K : PySem.W.Frag} {h : Heap} {mg : Str → Option Value} {fa : Addr} {tabs lts : List Addr} {C_RoadError C_NoNet C_NoPlace C_NoWord C_NoText C_NoRow C_NoDeed C_NoPaper : Addr} (X : K.In h) (G : h.Ns mainGlobals mg) (J6 : mg "law" = some (.ref fa))
    (T : Paired (TabOf mg h) ["is_row", "is_net", "is_made_of", "read_figures", "read_rows"] tabs) (U : Paired (TabOf mg h) [] lts)
    (rA : PySem.W.nsIn K mainGlobals "RoadError" = some (some (.ref C_RoadError)))
    (Ae : PySem.W.nsIn K mainGlobals "NoNet" = some (some (.ref C_NoNet)))
    (v3 : PySem.W.nsIn K mainGlobals "NoPlace" = some (some (.ref C_NoPlace)))
    (xQ : PySem.W.nsIn K mainGlobals "NoWord" = some (some (.ref C_NoWord)))
    (xR : PySem.W.nsIn K mainGlobals "NoText" = some (some (.ref C_NoText)))
    (Af : PySem.W.nsIn K mainGlobals "NoRow" = some (some (.ref C_NoRow)))
    (xS : PySem.W.nsIn K mainGlobals "NoDeed" = some (some (.ref C_NoDeed)))
    (eb : sV K C_RoadError [C_NoNet, C_NoPlace, C_NoWord, C_NoText, C_NoRow, C_NoDeed] = true) (J7 : [C_NoNet, C_NoPlace, C_NoWord, C_NoText, C_NoRow, C_NoDeed].Nodup)
    (v7 : PySem.W.nsIn K mainGlobals "NoPaper" = some (some (.ref C_NoPaper))) (tT : [C_NoNet, C_NoPlace, C_NoWord, C_NoText, C_NoRow, C_NoDeed].all (fun C => PySem.W.kitOne K (.ref C) (.ref C_NoPaper) == some false) = true)
    (tU : bh K "is_whole" dY)
    (lq : bh K "is_whole_below" cD)
    (xT : bh K "is_row" gX)
    (xU : bh K "is_net" gY)
    (tV : bh K "need_net" dZ)
    (tW : bh K "signs_of" tH)
    (v8 : bh K "is_word" vH)
    (rB : bh K "need_word" qX)
    (wa : bh K "figures" fZ)
    (m4 : bh K "written_word" mQ)
    (tX : bh K "show_net" d6)
    (rC : bh K "show_word" fL)
    (qH : bh K "is_made_of" dR)
    (rD : bh K "need_text" fM)
    (m5 : bh K "read_figures" di)
    (rE : bh K "read_rows" dG)
    (tY : bh K "read_net" gy)
    (tZ : bh K "_law_bag" gz)
    (rF : bh K "_law_take" dH)
    (qI : bh K "_law_order" dS)
    (t4 : bh K "_law_net" dv)
    (rG : bh K "_law_text" fN)
    (oz : bh K "_law_no_net" eJ)
    (m6 : bh K "_law_refused" d7)
    (Fm : bh K "law" md)
    (Fn : PySem.W.nsIn K mainGlobals "len" = some none)
    (Ag : PySem.W.nsIn K mainGlobals "range" = some none)
    (Fo : PySem.W.nsIn K mainGlobals "min" = some none)
    (Fp : PySem.W.nsIn K mainGlobals "max" = some none)
    (Fq : PySem.W.nsIn K mainGlobals "abs" = some none)
    (DH : PySem.W.nsIn K mainGlobals "list" = some none)
    (Ah : PySem.W.nsIn K mainGlobals "tuple" = some none)
    (Fs : PySem.W.nsIn K mainGlobals "int" = some none)
    (Ft : PySem.W.nsIn K mainGlobals "str" = some none)
    (DI : PySem.W.nsIn K mainGlobals "bool" = some none)
    (qJ : PySem.W.nsIn K mainGlobals "isinstance" = some none)
    (Fu : PySem.W.nsIn K mainGlobals "all" = some none)
    (Fv : PySem.W.nsIn K mainGlobals "set" = some none)
    (xV : PySem.W.nsIn K mainGlobals "sorted" = some none)
    (Fw : PySem.W.nsIn K mainGlobals "zip" = some none)
    (rH : PySem.W.nsIn K mainGlobals "enumerate" = some none)
    (Fx : PySem.W.nsIn K mainGlobals "sum" = some none)
    (t5 : PySem.W.nsIn K mainGlobals "reversed" = some none)
    (xW : PySem.W.nsIn K mainGlobals "divmod" = some none)
    (Fy : PySem.W.nsIn K mainGlobals "any" = some none)
    (qK : PySem.W.nsIn K mainGlobals "ValueError" = some none)
    (gh : ∃ tk, PySem.W.nsIn K mainGlobals "MOST_PLACES" = some (some (.int 9 tk)))
    (fq : ∃ tk, PySem.W.nsIn K mainGlobals "PLACE_FIGURES" = some (some (.str "012345678" tk)))
    : ∃ fd : FuncData, (∀ (s : Shared) (v : Value), BindsTo s fd ⟨[v], []⟩ [("_law_script", v)]) ∧ ∀ base : Heap, K.In base → base.Ns mainGlobals mg → (∃ bm ob, BMod base mainGlobals mg bm ob) → (∀ c p, PySem.W.CodeHd h c p → PySem.W.CodeHd base c p) → FnOk l.prog w K mg base bj 14 fa fd ["_law_script"] (spLaw K ⟨tabs, lts.zip []⟩) := by
  obtain ⟨FA, DW, bY⟩ := tU.df X G ["thing"] fun _ _ _ _ _ _ us hl => match us, hl with | [_], _ => rfl
  obtain ⟨xX, wg, bp⟩ := lq.df X G ["thing", "many"] fun _ _ _ _ _ _ us hl => match us, hl with | [_, _], _ => rfl
  obtain ⟨HS, GK, eT⟩ := xT.df X G ["thing", "many", "width"] fun _ _ _ _ _ _ us hl => match us, hl with | [_, _, _], _ => rfl
  obtain ⟨HU, GL, eU⟩ := xU.df X G ["thing"] fun _ _ _ _ _ _ us hl => match us, hl with | [_], _ => rfl
  obtain ⟨FC, DX, aW⟩ := tV.df X G ["thing"] fun _ _ _ _ _ _ us hl => match us, hl with | [_], _ => rfl
  obtain ⟨FD, DY, FE⟩ := tW.df X G ["net"] fun _ _ _ _ _ _ us hl => match us, hl with | [_], _ => rfl
  obtain ⟨GN, FG, GO⟩ := v8.df X G ["net", "thing"] fun _ _ _ _ _ _ us hl => match us, hl with | [_, _], _ => rfl
  obtain ⟨DZ, DJ, D0⟩ := rB.df X G ["net", "thing"] fun _ _ _ _ _ _ us hl => match us, hl with | [_, _], _ => rfl
  obtain ⟨GP, FH, e6⟩ := wa.df X G ["places"] fun _ _ _ _ _ _ us hl => match us, hl with | [_], _ => rfl
  obtain ⟨Ai, yZ, Aj⟩ := m4.df X G ["word"] fun _ _ _ _ _ _ us hl => match us, hl with | [_], _ => rfl
  obtain ⟨FI, D1, bf⟩ := tX.df X G ["net"] fun _ _ _ _ _ _ us hl => match us, hl with | [_], _ => rfl
  obtain ⟨D2, DK, dM⟩ := rC.df X G ["net", "word"] fun _ _ _ _ _ _ us hl => match us, hl with | [_, _], _ => rfl
  obtain ⟨DL, Ao, cE⟩ := qH.df X G ["text", "signs"] fun _ _ _ _ _ _ us hl => match us, hl with | [_, _], _ => rfl
  obtain ⟨D3, DM, dJ⟩ := rD.df X G ["thing"] fun _ _ _ _ _ _ us hl => match us, hl with | [_], _ => rfl
  obtain ⟨Ak, y0, bT⟩ := m5.df X G ["text"] fun _ _ _ _ _ _ us hl => match us, hl with | [_], _ => rfl
  obtain ⟨D4, DN, cW⟩ := rE.df X G ["texts"] fun _ _ _ _ _ _ us hl => match us, hl with | [_], _ => rfl
  obtain ⟨FJ, D5, cq⟩ := tY.df X G ["text"] fun _ _ _ _ _ _ us hl => match us, hl with | [_], _ => rfl
  obtain ⟨FK, D6, ed⟩ := tZ.df X G ["_law_script", "_law_at"] fun _ _ _ _ _ _ us hl => match us, hl with | [_, _], _ => rfl
  obtain ⟨D7, DP, au⟩ := rF.df X G ["_law_bag_here", "_law_many"] fun _ _ _ _ _ _ us hl => match us, hl with | [_, _], _ => rfl
  obtain ⟨DQ, Ap, bo⟩ := qI.df X G ["_law_bag_here", "_law_many"] fun _ _ _ _ _ _ us hl => match us, hl with | [_, _], _ => rfl
  obtain ⟨FL, D8, ee⟩ := t4.df X G ["_law_bag_here", "_law_most"] fun _ _ _ _ _ _ us hl => match us, hl with | [_, _], _ => rfl
  obtain ⟨D9, DR, bZ⟩ := rG.df X G ["_law_net_here"] fun _ _ _ _ _ _ us hl => match us, hl with | [_], _ => rfl
  obtain ⟨Aq, Al, cI⟩ := oz.df X G ["_law_bag_here", "_law_net_here"] fun _ _ _ _ _ _ us hl => match us, hl with | [_, _], _ => rfl
  obtain ⟨Am, y1, cA⟩ := m6.df X G ["_law_what", "_law_thing"] fun _ _ _ _ _ _ us hl => match us, hl with | [_, _], _ => rfl
  obtain ⟨Kc, DS, t6⟩ := Fm.df X G ["_law_script"] fun _ _ _ _ _ _ us hl => match us, hl with | [_], _ => rfl
  have iB := PySem.W.mg_of X G rA
  have gF := PySem.W.mg_of X G Ae
  have j1 := PySem.W.mg_of X G v3
  have lh := PySem.W.mg_of X G xQ
  have lg := PySem.W.mg_of X G xR
  have mX := PySem.W.mg_of X G Af
  have lb := PySem.W.mg_of X G xS
  have j0 := PySem.W.mg_of X G v7
  have X_ := zK eb
  have cc : C_NoNet ∈ [C_NoNet, C_NoPlace, C_NoWord, C_NoText, C_NoRow, C_NoDeed] := by simp
  have jZ : C_NoPlace ∈ [C_NoNet, C_NoPlace, C_NoWord, C_NoText, C_NoRow, C_NoDeed] := by simp
  have k8 : C_NoWord ∈ [C_NoNet, C_NoPlace, C_NoWord, C_NoText, C_NoRow, C_NoDeed] := by simp
  have k9 : C_NoText ∈ [C_NoNet, C_NoPlace, C_NoWord, C_NoText, C_NoRow, C_NoDeed] := by simp
  have mW : C_NoRow ∈ [C_NoNet, C_NoPlace, C_NoWord, C_NoText, C_NoRow, C_NoDeed] := by simp
  have la : C_NoDeed ∈ [C_NoNet, C_NoPlace, C_NoWord, C_NoText, C_NoRow, C_NoDeed] := by simp
  have e := J6.symm.trans t6.mg
  cases e
  have bl : Bl mg := ⟨PySem.W.mg_none_of X G Fn, PySem.W.mg_none_of X G Ag, PySem.W.mg_none_of X G Fo, PySem.W.mg_none_of X G Fp, PySem.W.mg_none_of X G Fq, PySem.W.mg_none_of X G DH, PySem.W.mg_none_of X G Ah, PySem.W.mg_none_of X G Fs, PySem.W.mg_none_of X G Ft, PySem.W.mg_none_of X G DI, PySem.W.mg_none_of X G qJ, PySem.W.mg_none_of X G Fu, PySem.W.mg_none_of X G Fv, PySem.W.mg_none_of X G xV, PySem.W.mg_none_of X G Fw, PySem.W.mg_none_of X G rH, PySem.W.mg_none_of X G Fx, PySem.W.mg_none_of X G t5, PySem.W.mg_none_of X G xW, PySem.W.mg_none_of X G Fy, PySem.W.mg_none_of X G qK⟩
  obtain ⟨An, gh⟩ := gh
  have cz := PySem.W.mg_of X G gh
  obtain ⟨xY, fq⟩ := fq
  have eV := PySem.W.mg_of X G fq
  obtain ⟨aO, GQ, rfl, xZ, T⟩ := eA T
  obtain ⟨aU, GR, rfl, ya, T⟩ := eA T
  obtain ⟨aA, Ar, rfl, qM, T⟩ := eA T
  obtain ⟨ay, y2, rfl, m7, T⟩ := eA T
  obtain ⟨aC, DT, rfl, rJ, T⟩ := eA T
  cases T
  cases U
  refine ⟨DS, fun s v => t6.bind1 s v (by intros; rfl), fun base _ _ cu tr => ?_⟩
  obtain ⟨ja, fF⟩ := jD eT X xZ tr
  obtain ⟨qm, jb⟩ := jD eU X ya tr
  obtain ⟨jW, fo⟩ := jD cE X qM tr
  obtain ⟨iO, d9⟩ := jD bT X m7 tr
  obtain ⟨kz, dI⟩ := jD cW X rJ tr
  have wc : aO ∈ (⟨[aO, aU, aA, ay, aC], []⟩ : cM) := by show _ ∈ [aO, aU, aA, ay, aC]; simp
  have wd : aU ∈ (⟨[aO, aU, aA, ay, aC], []⟩ : cM) := by show _ ∈ [aO, aU, aA, ay, aC]; simp
  have oA : aA ∈ (⟨[aO, aU, aA, ay, aC], []⟩ : cM) := by show _ ∈ [aO, aU, aA, ay, aC]; simp
  have mj : ay ∈ (⟨[aO, aU, aA, ay, aC], []⟩ : cM) := by show _ ∈ [aO, aU, aA, ay, aC]; simp
  have qN : aC ∈ (⟨[aO, aU, aA, ay, aC], []⟩ : cM) := by show _ ∈ [aO, aU, aA, ay, aC]; simp
  have k6 := vM (P := l.prog) (w := w) (tb := (⟨[aO, aU, aA, ay, aC], []⟩ : cM)) eU jb wd eT fF wc cu bp bY bl cz
  have cp := rg aW eU k6 X_ cc gF
  have jV := tO (P := l.prog) (w := w) (base := base) (tb := (⟨[aO, aU, aA, ay, aC], []⟩ : cM)) e6 bl
  have dy := rj bf aW cp e6 jV bl
  have iA := qF dM aW cp
  have DU := ow (P := l.prog) (w := w) (base := base) (tb := (⟨[aO, aU, aA, ay, aC], []⟩ : cM)) cE fo oA cu bl
  have fG := mi bT d9 mj cu cE DU bl eV
  have iz := qA cW dI qN cu bT fG bl cz
  have iy := qB (P := l.prog) (w := w) (base := base) (tb := (⟨[aO, aU, aA, ay, aC], []⟩ : cM)) dJ bl
  have gC := rk cq dJ iy cW iz aW cp
  have qO := C8 (tb := (⟨[aO, aU, aA, ay, aC], []⟩ : cM)) (qY (P := l.prog) (w := w) (base := base) au)
  have FN := Fj (tb := (⟨[aO, aU, aA, ay, aC], []⟩ : cM)) (tI (P := l.prog) (w := w) (base := base) ed bl)
  have sA := qj bo au qO bl
  have FO := tK ee au qO bo sA bl
  have DV := rn (P := l.prog) (w := w) (base := base) (tb := (⟨[aO, aU, aA, ay, aC], []⟩ : cM)) bZ bl
  have yb := ox cI au qO bl
  have xP : PySem.W.kitOne K (.ref C_NoNet) (.ref C_NoPaper) = some false := beq_iff_eq.mp (List.all_eq_true.mp tT C_NoNet (by simp))
  have we := mV cA bf dy dM iA X_ cc k8 k9 la mW jZ xP J7 iB gF lb j0 j1 mX lg lh bl
  exact CL (DE t6 ed FN ee FO cI yb cA we bo sA bf dy bZ DV cq gC bl)
theorem walk {l : PySem.W.OpenLaw} {q : Program} {loose : List Str} {XP : (Str → Option Value) → Heap → Prop} {YP : World → Heap → Prop} {d : DefRec} {K : Params → PySem.W.Frag} (hn : l.most = some 63) (uL : d.params.defaults = [])
    (vz : ∀ w : World, PySem.W.kb_classed (K w.params) = true) (yM : ∀ y ∈ ((["is_row", "is_net", "is_made_of", "read_figures", "read_rows"] : List Str) ++ ([] : List Str)), ∃ r ∈ recsOf q, r.name = y) (CT : ∀ w : World, mM (K w.params) ["is_row", "is_net", "is_made_of", "read_figures", "read_rows"] [] = true) (hY : ∀ (w : World) (h : Heap), YP w h → (K w.params).In h)
    (F : ∀ (w : World) (mg : Str → Option Value) (fa : Addr) (h : Heap) (tabs lts : List Addr), (K w.params).In h → h.Ns mainGlobals mg → mg d.name = some (.ref fa) →
      Paired (TabOf mg h) ["is_row", "is_net", "is_made_of", "read_figures", "read_rows"] tabs → Paired (TabOf mg h) [] lts →
      ∃ fd : FuncData, (∀ (s : Shared) (u : Value), BindsTo s fd ⟨[u], []⟩ [("_law_script", u)]) ∧
        ∀ base : Heap, (K w.params).In base → base.Ns mainGlobals mg → (∃ bm ob, BMod base mainGlobals mg bm ob) → (∀ c p, PySem.W.CodeHd h c p → PySem.W.CodeHd base c p) → FnOk l.prog w (K w.params) mg base bj 14 fa fd ["_law_script"] (spLaw (K w.params) ⟨tabs, lts.zip []⟩)) :
    PySem.W.WalkO q loose XP YP l.row.toRowW d [] (fun f vs => PySem.call f vs) :=
  L2.xu (n := 63) (k := 14) (x := "_law_script") (CX := bj) (sp := fun K tabs lts => spLaw K ⟨tabs, lts.zip []⟩) hn (by decide) uL ⟨rfl, by decide, by decide⟩ vz yM CT hY F (fun _ _ _ _ a ns hl hn hT hL hS => xx hl hn hT hL hS) fun _ _ _ _ z => z
end My
open PySem PySem.W PyProof.Rows L2
set_option maxRecDepth 100000 in
set_option maxHeartbeats 0 in
theorem PySem.Challenge.cw_roadcall_k60_nets_written_holds : PySem.Challenge.rw_roadcall_k60_nets_written.Holds := by
  w_on; o_law
  refine My.y3 (q := My.kq) (loose := My.kL) (H := My.kH) My.left (by rfl) (by rfl) (by rfl) (by rfl) (by first | assumption | decide +kernel) (by decide +kernel) ⟨rfl, rfl, rfl, rfl, rfl, by decide +kernel⟩ ?hw ?hc
  (case hw => w_witness2)
  refine My.walk (l := PySem.Challenge.rw_roadcall_k60_nets_written) rfl rfl (fun w => by kernel_rfl) (recs_of (by decide +kernel)) (fun w => by kernel_rfl) (fun w h Y => Y) ?F
  intro w mg fa h tabs lts KX G uM T U
  exact My.all_mk (C_RoadError := 24) (C_NoNet := 37) (C_NoPlace := 49) (C_NoWord := 61) (C_NoText := 95) (C_NoRow := 107) (C_NoDeed := 119) (C_NoPaper := 83) KX G uM T U
    (by kernel_rfl)
    (by kernel_rfl)
    (by kernel_rfl)
    (by kernel_rfl)
    (by kernel_rfl)
    (by kernel_rfl)
    (by kernel_rfl)
    (by kernel_rfl)
    (by decide)
    (by kernel_rfl)
    (by kernel_rfl)
    (L2.aM (f := 128) (oc := .type "function") (od := none) (sl := #[]) (kV := .none) (dc := .none) (pm := My.vS "roadcall.whole" 331) (an := none) (cd := .ref 127) (ct := .none) (by kernel_rfl) (by kernel_rfl) (by kernel_rfl) (by kernel_rfl))
    (L2.aM (f := 135) (oc := .type "function") (od := none) (sl := #[]) (kV := .none) (dc := .none) (pm := My.vS "roadcall.whole" 331) (an := none) (cd := .ref 134) (ct := .none) (by kernel_rfl) (by kernel_rfl) (by kernel_rfl) (by kernel_rfl))
    (L2.aM (f := 142) (oc := .type "function") (od := none) (sl := #[]) (kV := .none) (dc := .none) (pm := My.vS "roadcall.nets" 348) (an := none) (cd := .ref 141) (ct := .none) (by kernel_rfl) (by kernel_rfl) (by kernel_rfl) (by kernel_rfl))
    (L2.aM (f := 149) (oc := .type "function") (od := none) (sl := #[]) (kV := .none) (dc := .none) (pm := My.vS "roadcall.nets" 348) (an := none) (cd := .ref 148) (ct := .none) (by kernel_rfl) (by kernel_rfl) (by kernel_rfl) (by kernel_rfl))
    (L2.aM (f := 156) (oc := .type "function") (od := none) (sl := #[]) (kV := .none) (dc := .none) (pm := My.vS "roadcall.nets" 348) (an := none) (cd := .ref 155) (ct := .none) (by kernel_rfl) (by kernel_rfl) (by kernel_rfl) (by kernel_rfl))
    (L2.aM (f := 163) (oc := .type "function") (od := none) (sl := #[]) (kV := .none) (dc := .none) (pm := My.vS "roadcall.nets" 348) (an := none) (cd := .ref 162) (ct := .none) (by kernel_rfl) (by kernel_rfl) (by kernel_rfl) (by kernel_rfl))
    (L2.aM (f := 170) (oc := .type "function") (od := none) (sl := #[]) (kV := .none) (dc := .none) (pm := My.vS "roadcall.nets" 348) (an := none) (cd := .ref 169) (ct := .none) (by kernel_rfl) (by kernel_rfl) (by kernel_rfl) (by kernel_rfl))
    (L2.aM (f := 177) (oc := .type "function") (od := none) (sl := #[]) (kV := .none) (dc := .none) (pm := My.vS "roadcall.nets" 348) (an := none) (cd := .ref 176) (ct := .none) (by kernel_rfl) (by kernel_rfl) (by kernel_rfl) (by kernel_rfl))
    (L2.aM (f := 182) (oc := .type "function") (od := none) (sl := #[]) (kV := .none) (dc := .none) (pm := My.vS "roadcall.nettexts" 406) (an := none) (cd := .ref 181) (ct := .none) (by kernel_rfl) (by kernel_rfl) (by kernel_rfl) (by kernel_rfl))
    (L2.aM (f := 189) (oc := .type "function") (od := none) (sl := #[]) (kV := .none) (dc := .none) (pm := My.vS "roadcall.nettexts" 406) (an := none) (cd := .ref 188) (ct := .none) (by kernel_rfl) (by kernel_rfl) (by kernel_rfl) (by kernel_rfl))
    (L2.aM (f := 194) (oc := .type "function") (od := none) (sl := #[]) (kV := .none) (dc := .none) (pm := My.vS "roadcall.nettexts" 406) (an := none) (cd := .ref 193) (ct := .none) (by kernel_rfl) (by kernel_rfl) (by kernel_rfl) (by kernel_rfl))
    (L2.aM (f := 201) (oc := .type "function") (od := none) (sl := #[]) (kV := .none) (dc := .none) (pm := My.vS "roadcall.nettexts" 406) (an := none) (cd := .ref 200) (ct := .none) (by kernel_rfl) (by kernel_rfl) (by kernel_rfl) (by kernel_rfl))
    (L2.aM (f := 208) (oc := .type "function") (od := none) (sl := #[]) (kV := .none) (dc := .none) (pm := My.vS "roadcall.nettexts" 406) (an := none) (cd := .ref 207) (ct := .none) (by kernel_rfl) (by kernel_rfl) (by kernel_rfl) (by kernel_rfl))
    (L2.aM (f := 215) (oc := .type "function") (od := none) (sl := #[]) (kV := .none) (dc := .none) (pm := My.vS "roadcall.nettexts" 406) (an := none) (cd := .ref 214) (ct := .none) (by kernel_rfl) (by kernel_rfl) (by kernel_rfl) (by kernel_rfl))
    (L2.aM (f := 222) (oc := .type "function") (od := none) (sl := #[]) (kV := .none) (dc := .none) (pm := My.vS "roadcall.nettexts" 406) (an := none) (cd := .ref 221) (ct := .none) (by kernel_rfl) (by kernel_rfl) (by kernel_rfl) (by kernel_rfl))
    (L2.aM (f := 229) (oc := .type "function") (od := none) (sl := #[]) (kV := .none) (dc := .none) (pm := My.vS "roadcall.nettexts" 406) (an := none) (cd := .ref 228) (ct := .none) (by kernel_rfl) (by kernel_rfl) (by kernel_rfl) (by kernel_rfl))
    (L2.aM (f := 236) (oc := .type "function") (od := none) (sl := #[]) (kV := .none) (dc := .none) (pm := My.vS "roadcall.nettexts" 406) (an := none) (cd := .ref 235) (ct := .none) (by kernel_rfl) (by kernel_rfl) (by kernel_rfl) (by kernel_rfl))
    (L2.aM (f := 243) (oc := .type "function") (od := none) (sl := #[]) (kV := .none) (dc := .none) (pm := My.vS "law_roadcall_k60_nets_written" 479) (an := none) (cd := .ref 242) (ct := .none) (by kernel_rfl) (by kernel_rfl) (by kernel_rfl) (by kernel_rfl))
    (L2.aM (f := 250) (oc := .type "function") (od := none) (sl := #[]) (kV := .none) (dc := .none) (pm := My.vS "law_roadcall_k60_nets_written" 479) (an := none) (cd := .ref 249) (ct := .none) (by kernel_rfl) (by kernel_rfl) (by kernel_rfl) (by kernel_rfl))
    (L2.aM (f := 257) (oc := .type "function") (od := none) (sl := #[]) (kV := .none) (dc := .none) (pm := My.vS "law_roadcall_k60_nets_written" 479) (an := none) (cd := .ref 256) (ct := .none) (by kernel_rfl) (by kernel_rfl) (by kernel_rfl) (by kernel_rfl))
    (L2.aM (f := 262) (oc := .type "function") (od := none) (sl := #[]) (kV := .none) (dc := .none) (pm := My.vS "law_roadcall_k60_nets_written" 479) (an := none) (cd := .ref 261) (ct := .none) (by kernel_rfl) (by kernel_rfl) (by kernel_rfl) (by kernel_rfl))
    (L2.aM (f := 269) (oc := .type "function") (od := none) (sl := #[]) (kV := .none) (dc := .none) (pm := My.vS "law_roadcall_k60_nets_written" 479) (an := none) (cd := .ref 268) (ct := .none) (by kernel_rfl) (by kernel_rfl) (by kernel_rfl) (by kernel_rfl))
    (L2.aM (f := 276) (oc := .type "function") (od := none) (sl := #[]) (kV := .none) (dc := .none) (pm := My.vS "law_roadcall_k60_nets_written" 479) (an := none) (cd := .ref 275) (ct := .none) (by kernel_rfl) (by kernel_rfl) (by kernel_rfl) (by kernel_rfl))
    (L2.aM (f := 283) (oc := .type "function") (od := none) (sl := #[]) (kV := .none) (dc := .none) (pm := My.vS "law_roadcall_k60_nets_written" 479) (an := none) (cd := .ref 282) (ct := .none) (by kernel_rfl) (by kernel_rfl) (by kernel_rfl) (by kernel_rfl))
    (L2.aM (f := 288) (oc := .type "function") (od := none) (sl := #[]) (kV := .none) (dc := .none) (pm := My.vS "law_roadcall_k60_nets_written" 479) (an := none) (cd := .ref 287) (ct := .none) (by kernel_rfl) (by kernel_rfl) (by kernel_rfl) (by kernel_rfl))
    (by kernel_rfl)
    (by kernel_rfl)
    (by kernel_rfl)
    (by kernel_rfl)
    (by kernel_rfl)
    (by kernel_rfl)
    (by kernel_rfl)
    (by kernel_rfl)
    (by kernel_rfl)
    (by kernel_rfl)
    (by kernel_rfl)
    (by kernel_rfl)
    (by kernel_rfl)
    (by kernel_rfl)
    (by kernel_rfl)
    (by kernel_rfl)
    (by kernel_rfl)
    (by kernel_rfl)
    (by kernel_rfl)
    (by kernel_rfl)
    (by kernel_rfl)
    ⟨352, by kernel_rfl⟩
    ⟨408, by kernel_rfl⟩
