import PyProof.Rows.All
import Wide.All
import OpenK.AllK
import Wide.FinOn
import Lean
import PySem.Challenge.RW_roadcall_k27_pairs_refused
import PyProof.EqAt
import PyProof.EqKinds
import PyProof.TupleCall
import PyProof.NeKinds
import PyProof.EnumMake
import PyProof.EnumFor
import PyProof.ZipIter
import PyProof.Rows.ZipGen
import KE.KLam
import PyProof.DictItems
import KE.KTurnsDict
import KE.KPairComp
import KE.KDictList
set_option linter.all false
set_option Elab.async false
set_option maxRecDepth 100000
namespace My
open PySem PyProof.Rows
noncomputable def kA (s : Stmt) : Arguments := match s with
  | .FunctionDef _ a _ _ _ _ _ _ _ _ => a
  | _ => { posonlyargs := [], args := [], vararg := none, kwonlyargs := [], kw_defaults := [], kwarg := none, defaults := [] }
noncomputable def kB (s : Stmt) : List Stmt := match s with
  | .FunctionDef _ _ b _ _ _ _ _ _ _ => b
  | _ => []
noncomputable def kS (s : Stmt) : Scope := match s with
  | .FunctionDef _ _ _ _ _ _ sc _ _ _ => sc
  | _ => { kind := .function, names := [], isGenerator := false, isCoroutine := false }
noncomputable def vS (x : String) (t : Nat) : Value := .str (Str.ofString x) t
noncomputable def kE (P : Params) (x : String) (t : Nat) (v : Value) : DictEntry := ⟨PyData.keyHash P (Str.ofString x), vS x t, v⟩
noncomputable def kF (i : Nat) (x : String) (d m : Value) (c : Nat) : Obj := let st := PySem.Challenge.pw_roadcall_k27_pairs_refused.main.body.getD i (.Pass ⟨0, 0, 0, 0⟩); ⟨.type "function", none, .func (PySem.W.fnOf (Str.ofString x) (Str.ofString x) (kA st) (kB st) (kS st) d .none .none m none (.ref c) .none), #[]⟩
noncomputable def kC (x : String) (t : Nat) (l n f : Int) (a : Nat) (b : Bool) (m : Int) (p : Nat) (u z : Value) (q : Nat) (e : Int) (t2 : Nat) : Obj := ⟨.type "code", none, .fields #[vS x t, vS x (t + 1), vS "/claim/cut.py" (t + 2), .int l 0, .int n 0, .int 0 0, .int 0 0, .int f 0, .ref a, .bool b, .int m 0, .ref p, .none, u, z, .ref q, .int e 0, .int l 0, vS "/claim/cut.py" t2], #[]⟩
noncomputable def kK (P : Params) : PySem.W.Frag := [(2, ⟨.none, none, .dict [].toArray 0, #[]⟩),
  (3, ⟨.type "dict", none, .dict [kE P "__name__" 165 (vS "law_roadcall_k27_pairs_refused" 657), kE P "__doc__" 166 .none, kE P "__package__" 167 .none, kE P "__loader__" 168 (.builtin "__main__.__loader__#opaque"), kE P "__spec__" 169 .none, kE P "__annotations__" 170 (.ref 6), kE P "__builtins__" 171 (.ref 4), kE P "__file__" 173 (vS "/claim/cut.py" 172), kE P "__cached__" 174 .none, kE P "RoadError" 206 (.ref 24), kE P "NoNet" 222 (.ref 37), kE P "NoPlace" 238 (.ref 49), kE P "NoSign" 254 (.ref 61), kE P "NoWord" 270 (.ref 73), kE P "NoWhole" 286 (.ref 85), kE P "NoNumber" 302 (.ref 97), kE P "NoKin" 318 (.ref 109), kE P "NoSet" 334 (.ref 121), kE P "NoPair" 350 (.ref 133), kE P "NoStep" 366 (.ref 145), kE P "NoCall" 382 (.ref 157), kE P "TooMany" 398 (.ref 169), kE P "NoPaper" 426 (.ref 191), kE P "NoText" 442 (.ref 203), kE P "NoRow" 458 (.ref 215), kE P "NoDeed" 474 (.ref 227), kE P "is_whole" 483 (.ref 236), kE P "is_whole_below" 491 (.ref 243), kE P "SIGNS" 495 (vS "abc" 494), kE P "MOST_PLACES" 497 (.int 9 496), kE P "is_row" 507 (.ref 250), kE P "is_net" 516 (.ref 257), kE P "need_net" 523 (.ref 264), kE P "is_place" 531 (.ref 271), kE P "MOST_SETS" 535 (.int 511 534), kE P "first_met" 550 (.ref 279), kE P "is_set" 561 (.ref 286), kE P "is_pair" 569 (.ref 293), kE P "sign_image" 575 (.ref 298), kE P "images_met" 584 (.ref 305), kE P "first_call" 594 (.ref 312), kE P "need_pair" 604 (.ref 319), kE P "call_of" 612 (.ref 326), kE P "led_pairs" 618 (.ref 331), kE P "all_pairs" 624 (.ref 336), kE P "in_order" 632 (.ref 343), kE P "coming_pairs" 644 (.ref 350), kE P "led_to_some" 650 (.ref 355), kE P "never_called" 656 (.ref 360), kE P "_law_bag" 669 (.ref 367), kE P "_law_take" 680 (.ref 374), kE P "_law_order" 686 (.ref 379), kE P "_law_net" 692 (.ref 384), kE P "_law_kind" 701 (.ref 391), kE P "_law_refused" 709 (.ref 398), kE P "_law_no_net" 715 (.ref 403), kE P "_law_no_pair" 725 (.ref 410), kE P "law" 739 (.ref 417)].toArray 58, #[]⟩),
  (23, ⟨.type "dict", none, .dict [kE P "__module__" 196 (vS "roadcall.errors" 187), kE P "__firstlineno__" 200 (.int 2 199), kE P "__static_attributes__" 201 (.ref 22), kE P "__weakref__" 203 (.ref 25), kE P "__doc__" 204 .none].toArray 3, #[]⟩),
  (24, ⟨.type "type", none, .cls { name := Str.ofString "RoadError", bases := [.type "ValueError"], mro := [.ref 24, .type "ValueError", .type "Exception", .type "BaseException", .type "object"], ns := 23, qualname := Str.ofString "RoadError", subclasses := [.ref 37, .ref 49, .ref 61, .ref 73, .ref 85, .ref 97, .ref 109, .ref 121, .ref 133, .ref 145, .ref 157, .ref 169, .ref 191, .ref 203, .ref 215, .ref 227] }, #[some (.ref 15), none, some (vS "RoadError" 189), some (vS "RoadError" 197), some (.builtin "ValueError.__new__"), some (.bool true)]⟩),
  (36, ⟨.type "dict", none, .dict [kE P "__module__" 214 (vS "roadcall.errors" 187), kE P "__firstlineno__" 218 (.int 4 217), kE P "__static_attributes__" 219 (.ref 35), kE P "__doc__" 220 .none].toArray 2, #[]⟩),
  (37, ⟨.type "type", none, .cls { name := Str.ofString "NoNet", bases := [.ref 24], mro := [.ref 37, .ref 24, .type "ValueError", .type "Exception", .type "BaseException", .type "object"], ns := 36, qualname := Str.ofString "NoNet", subclasses := [] }, #[some (.ref 28), none, some (vS "NoNet" 207), some (vS "NoNet" 215), some (.builtin "ValueError.__new__"), some (.bool true)]⟩),
  (48, ⟨.type "dict", none, .dict [kE P "__module__" 230 (vS "roadcall.errors" 187), kE P "__firstlineno__" 234 (.int 6 233), kE P "__static_attributes__" 235 (.ref 47), kE P "__doc__" 236 .none].toArray 2, #[]⟩),
  (49, ⟨.type "type", none, .cls { name := Str.ofString "NoPlace", bases := [.ref 24], mro := [.ref 49, .ref 24, .type "ValueError", .type "Exception", .type "BaseException", .type "object"], ns := 48, qualname := Str.ofString "NoPlace", subclasses := [] }, #[some (.ref 40), none, some (vS "NoPlace" 223), some (vS "NoPlace" 231), some (.builtin "ValueError.__new__"), some (.bool true)]⟩),
  (60, ⟨.type "dict", none, .dict [kE P "__module__" 246 (vS "roadcall.errors" 187), kE P "__firstlineno__" 250 (.int 8 249), kE P "__static_attributes__" 251 (.ref 59), kE P "__doc__" 252 .none].toArray 2, #[]⟩),
  (61, ⟨.type "type", none, .cls { name := Str.ofString "NoSign", bases := [.ref 24], mro := [.ref 61, .ref 24, .type "ValueError", .type "Exception", .type "BaseException", .type "object"], ns := 60, qualname := Str.ofString "NoSign", subclasses := [] }, #[some (.ref 52), none, some (vS "NoSign" 239), some (vS "NoSign" 247), some (.builtin "ValueError.__new__"), some (.bool true)]⟩),
  (72, ⟨.type "dict", none, .dict [kE P "__module__" 262 (vS "roadcall.errors" 187), kE P "__firstlineno__" 266 (.int 10 265), kE P "__static_attributes__" 267 (.ref 71), kE P "__doc__" 268 .none].toArray 2, #[]⟩),
  (73, ⟨.type "type", none, .cls { name := Str.ofString "NoWord", bases := [.ref 24], mro := [.ref 73, .ref 24, .type "ValueError", .type "Exception", .type "BaseException", .type "object"], ns := 72, qualname := Str.ofString "NoWord", subclasses := [] }, #[some (.ref 64), none, some (vS "NoWord" 255), some (vS "NoWord" 263), some (.builtin "ValueError.__new__"), some (.bool true)]⟩),
  (84, ⟨.type "dict", none, .dict [kE P "__module__" 278 (vS "roadcall.errors" 187), kE P "__firstlineno__" 282 (.int 12 281), kE P "__static_attributes__" 283 (.ref 83), kE P "__doc__" 284 .none].toArray 2, #[]⟩),
  (85, ⟨.type "type", none, .cls { name := Str.ofString "NoWhole", bases := [.ref 24], mro := [.ref 85, .ref 24, .type "ValueError", .type "Exception", .type "BaseException", .type "object"], ns := 84, qualname := Str.ofString "NoWhole", subclasses := [] }, #[some (.ref 76), none, some (vS "NoWhole" 271), some (vS "NoWhole" 279), some (.builtin "ValueError.__new__"), some (.bool true)]⟩),
  (96, ⟨.type "dict", none, .dict [kE P "__module__" 294 (vS "roadcall.errors" 187), kE P "__firstlineno__" 298 (.int 14 297), kE P "__static_attributes__" 299 (.ref 95), kE P "__doc__" 300 .none].toArray 2, #[]⟩),
  (97, ⟨.type "type", none, .cls { name := Str.ofString "NoNumber", bases := [.ref 24], mro := [.ref 97, .ref 24, .type "ValueError", .type "Exception", .type "BaseException", .type "object"], ns := 96, qualname := Str.ofString "NoNumber", subclasses := [] }, #[some (.ref 88), none, some (vS "NoNumber" 287), some (vS "NoNumber" 295), some (.builtin "ValueError.__new__"), some (.bool true)]⟩),
  (108, ⟨.type "dict", none, .dict [kE P "__module__" 310 (vS "roadcall.errors" 187), kE P "__firstlineno__" 314 (.int 16 313), kE P "__static_attributes__" 315 (.ref 107), kE P "__doc__" 316 .none].toArray 2, #[]⟩),
  (109, ⟨.type "type", none, .cls { name := Str.ofString "NoKin", bases := [.ref 24], mro := [.ref 109, .ref 24, .type "ValueError", .type "Exception", .type "BaseException", .type "object"], ns := 108, qualname := Str.ofString "NoKin", subclasses := [] }, #[some (.ref 100), none, some (vS "NoKin" 303), some (vS "NoKin" 311), some (.builtin "ValueError.__new__"), some (.bool true)]⟩),
  (120, ⟨.type "dict", none, .dict [kE P "__module__" 326 (vS "roadcall.errors" 187), kE P "__firstlineno__" 330 (.int 18 329), kE P "__static_attributes__" 331 (.ref 119), kE P "__doc__" 332 .none].toArray 2, #[]⟩),
  (121, ⟨.type "type", none, .cls { name := Str.ofString "NoSet", bases := [.ref 24], mro := [.ref 121, .ref 24, .type "ValueError", .type "Exception", .type "BaseException", .type "object"], ns := 120, qualname := Str.ofString "NoSet", subclasses := [] }, #[some (.ref 112), none, some (vS "NoSet" 319), some (vS "NoSet" 327), some (.builtin "ValueError.__new__"), some (.bool true)]⟩),
  (132, ⟨.type "dict", none, .dict [kE P "__module__" 342 (vS "roadcall.errors" 187), kE P "__firstlineno__" 346 (.int 20 345), kE P "__static_attributes__" 347 (.ref 131), kE P "__doc__" 348 .none].toArray 2, #[]⟩),
  (133, ⟨.type "type", none, .cls { name := Str.ofString "NoPair", bases := [.ref 24], mro := [.ref 133, .ref 24, .type "ValueError", .type "Exception", .type "BaseException", .type "object"], ns := 132, qualname := Str.ofString "NoPair", subclasses := [] }, #[some (.ref 124), none, some (vS "NoPair" 335), some (vS "NoPair" 343), some (.builtin "ValueError.__new__"), some (.bool true)]⟩),
  (144, ⟨.type "dict", none, .dict [kE P "__module__" 358 (vS "roadcall.errors" 187), kE P "__firstlineno__" 362 (.int 22 361), kE P "__static_attributes__" 363 (.ref 143), kE P "__doc__" 364 .none].toArray 2, #[]⟩),
  (145, ⟨.type "type", none, .cls { name := Str.ofString "NoStep", bases := [.ref 24], mro := [.ref 145, .ref 24, .type "ValueError", .type "Exception", .type "BaseException", .type "object"], ns := 144, qualname := Str.ofString "NoStep", subclasses := [] }, #[some (.ref 136), none, some (vS "NoStep" 351), some (vS "NoStep" 359), some (.builtin "ValueError.__new__"), some (.bool true)]⟩),
  (156, ⟨.type "dict", none, .dict [kE P "__module__" 374 (vS "roadcall.errors" 187), kE P "__firstlineno__" 378 (.int 24 377), kE P "__static_attributes__" 379 (.ref 155), kE P "__doc__" 380 .none].toArray 2, #[]⟩),
  (157, ⟨.type "type", none, .cls { name := Str.ofString "NoCall", bases := [.ref 24], mro := [.ref 157, .ref 24, .type "ValueError", .type "Exception", .type "BaseException", .type "object"], ns := 156, qualname := Str.ofString "NoCall", subclasses := [] }, #[some (.ref 148), none, some (vS "NoCall" 367), some (vS "NoCall" 375), some (.builtin "ValueError.__new__"), some (.bool true)]⟩),
  (168, ⟨.type "dict", none, .dict [kE P "__module__" 390 (vS "roadcall.errors" 187), kE P "__firstlineno__" 394 (.int 26 393), kE P "__static_attributes__" 395 (.ref 167), kE P "__doc__" 396 .none].toArray 2, #[]⟩),
  (169, ⟨.type "type", none, .cls { name := Str.ofString "TooMany", bases := [.ref 24], mro := [.ref 169, .ref 24, .type "ValueError", .type "Exception", .type "BaseException", .type "object"], ns := 168, qualname := Str.ofString "TooMany", subclasses := [] }, #[some (.ref 160), none, some (vS "TooMany" 383), some (vS "TooMany" 391), some (.builtin "ValueError.__new__"), some (.bool true)]⟩),
  (180, ⟨.type "tuple", none, .seq #[.int 0 411] 0, #[]⟩),
  (190, ⟨.type "dict", none, .dict [kE P "__module__" 406 (vS "roadcall.errors" 187), kE P "__firstlineno__" 410 (.int 28 409), kE P "__init__" 420 (.ref 188), kE P "__static_attributes__" 422 (.ref 189), kE P "__doc__" 424 .none].toArray 3, #[]⟩),
  (191, ⟨.type "type", none, .cls { name := Str.ofString "NoPaper", bases := [.ref 24], mro := [.ref 191, .ref 24, .type "ValueError", .type "Exception", .type "BaseException", .type "object"], ns := 190, qualname := Str.ofString "NoPaper", subclasses := [] }, #[some (.ref 172), none, some (vS "NoPaper" 399), some (vS "NoPaper" 407), some (.builtin "ValueError.__new__"), some (.bool true)]⟩),
  (202, ⟨.type "dict", none, .dict [kE P "__module__" 434 (vS "roadcall.errors" 187), kE P "__firstlineno__" 438 (.int 33 437), kE P "__static_attributes__" 439 (.ref 201), kE P "__doc__" 440 .none].toArray 2, #[]⟩),
  (203, ⟨.type "type", none, .cls { name := Str.ofString "NoText", bases := [.ref 24], mro := [.ref 203, .ref 24, .type "ValueError", .type "Exception", .type "BaseException", .type "object"], ns := 202, qualname := Str.ofString "NoText", subclasses := [] }, #[some (.ref 194), none, some (vS "NoText" 427), some (vS "NoText" 435), some (.builtin "ValueError.__new__"), some (.bool true)]⟩),
  (214, ⟨.type "dict", none, .dict [kE P "__module__" 450 (vS "roadcall.errors" 187), kE P "__firstlineno__" 454 (.int 35 453), kE P "__static_attributes__" 455 (.ref 213), kE P "__doc__" 456 .none].toArray 2, #[]⟩),
  (215, ⟨.type "type", none, .cls { name := Str.ofString "NoRow", bases := [.ref 24], mro := [.ref 215, .ref 24, .type "ValueError", .type "Exception", .type "BaseException", .type "object"], ns := 214, qualname := Str.ofString "NoRow", subclasses := [] }, #[some (.ref 206), none, some (vS "NoRow" 443), some (vS "NoRow" 451), some (.builtin "ValueError.__new__"), some (.bool true)]⟩),
  (226, ⟨.type "dict", none, .dict [kE P "__module__" 466 (vS "roadcall.errors" 187), kE P "__firstlineno__" 470 (.int 37 469), kE P "__static_attributes__" 471 (.ref 225), kE P "__doc__" 472 .none].toArray 2, #[]⟩),
  (227, ⟨.type "type", none, .cls { name := Str.ofString "NoDeed", bases := [.ref 24], mro := [.ref 227, .ref 24, .type "ValueError", .type "Exception", .type "BaseException", .type "object"], ns := 226, qualname := Str.ofString "NoDeed", subclasses := [] }, #[some (.ref 218), none, some (vS "NoDeed" 459), some (vS "NoDeed" 467), some (.builtin "ValueError.__new__"), some (.bool true)]⟩),
  (235, kC "is_whole" 477 40 1 3 230 true 181 231 (.ref 232) (.ref 233) 234 481 482),
  (236, kF 19 "is_whole" .none (vS "roadcall.whole" 475) 235),
  (242, kC "is_whole_below" 484 42 2 3 237 true 181 238 (.ref 239) (.ref 240) 241 489 490),
  (243, kF 20 "is_whole_below" .none (vS "roadcall.whole" 475) 242),
  (249, kC "is_row" 498 47 3 3 244 true 181 245 (.ref 246) (.ref 247) 248 505 506),
  (250, kF 24 "is_row" .none (vS "roadcall.nets" 492) 249),
  (256, kC "is_net" 508 51 1 3 251 true 181 252 (.ref 253) (.ref 254) 255 514 515),
  (257, kF 25 "is_net" .none (vS "roadcall.nets" 492) 256),
  (263, kC "need_net" 517 59 1 3 258 true 181 259 (.ref 260) (.ref 261) 262 521 522),
  (264, kF 26 "need_net" .none (vS "roadcall.nets" 492) 263),
  (270, kC "is_place" 524 62 2 3 265 true 181 266 (.ref 267) (.ref 268) 269 529 530),
  (271, kF 27 "is_place" .none (vS "roadcall.nets" 492) 270),
  (272, ⟨.type "tuple", none, .seq #[.int 511 534] 0, #[]⟩),
  (278, kC "first_met" 536 66 4 3 273 true 181 274 (.ref 275) (.ref 276) 277 548 549),
  (279, kF 30 "first_met" (.ref 272) (vS "roadcall.ways" 532) 278),
  (285, kC "is_set" 553 78 2 3 280 true 181 281 (.ref 282) (.ref 283) 284 559 560),
  (286, kF 32 "is_set" .none (vS "roadcall.words" 551) 285),
  (292, kC "is_pair" 562 82 2 3 287 true 181 288 (.ref 289) (.ref 290) 291 567 568),
  (293, kF 33 "is_pair" .none (vS "roadcall.words" 551) 292),
  (297, kC "sign_image" 570 84 3 3 294 true 181 295 .none .none 296 573 574),
  (298, kF 34 "sign_image" .none (vS "roadcall.words" 551) 297),
  (304, kC "images_met" 576 86 2 3 299 true 181 300 (.ref 301) (.ref 302) 303 582 583),
  (305, kF 35 "images_met" .none (vS "roadcall.words" 551) 304),
  (311, kC "first_call" 585 88 2 3 306 true 181 307 (.ref 308) (.ref 309) 310 592 593),
  (312, kF 36 "first_call" .none (vS "roadcall.words" 551) 311),
  (318, kC "need_pair" 597 94 2 3 313 true 181 314 (.ref 315) (.ref 316) 317 602 603),
  (319, kF 38 "need_pair" .none (vS "roadcall.pairs" 595) 318),
  (325, kC "call_of" 605 97 2 3 320 true 181 321 (.ref 322) (.ref 323) 324 610 611),
  (326, kF 39 "call_of" .none (vS "roadcall.pairs" 595) 325),
  (330, kC "led_pairs" 613 101 2 3 327 true 181 328 .none .none 329 616 617),
  (331, kF 40 "led_pairs" .none (vS "roadcall.pairs" 595) 330),
  (335, kC "all_pairs" 619 105 1 3 332 true 181 333 .none .none 334 622 623),
  (336, kF 41 "all_pairs" .none (vS "roadcall.pairs" 595) 335),
  (342, kC "in_order" 625 108 2 3 337 true 181 338 (.ref 339) (.ref 340) 341 630 631),
  (343, kF 42 "in_order" .none (vS "roadcall.pairs" 595) 342),
  (349, kC "coming_pairs" 633 110 1 3 344 true 181 345 (.ref 346) (.ref 347) 348 642 643),
  (350, kF 43 "coming_pairs" .none (vS "roadcall.pairs" 595) 349),
  (354, kC "led_to_some" 645 116 2 3 351 true 181 352 .none .none 353 648 649),
  (355, kF 44 "led_to_some" .none (vS "roadcall.pairs" 595) 354),
  (359, kC "never_called" 651 126 1 3 356 true 181 357 .none .none 358 654 655),
  (360, kF 45 "never_called" .none (vS "roadcall.pairs" 595) 359),
  (366, kC "_law_bag" 659 132 2 3 361 true 181 362 (.ref 363) (.ref 364) 365 667 668),
  (367, kF 47 "_law_bag" .none (vS "law_roadcall_k27_pairs_refused" 657) 366),
  (373, kC "_law_take" 670 142 2 3 368 true 181 369 (.ref 370) (.ref 371) 372 678 679),
  (374, kF 48 "_law_take" .none (vS "law_roadcall_k27_pairs_refused" 657) 373),
  (378, kC "_law_order" 681 154 2 3 375 true 181 376 .none .none 377 684 685),
  (379, kF 49 "_law_order" .none (vS "law_roadcall_k27_pairs_refused" 657) 378),
  (383, kC "_law_net" 687 157 2 3 380 true 181 381 .none .none 382 690 691),
  (384, kF 50 "_law_net" .none (vS "law_roadcall_k27_pairs_refused" 657) 383),
  (390, kC "_law_kind" 693 180 1 3 385 true 181 386 (.ref 387) (.ref 388) 389 699 700),
  (391, kF 51 "_law_kind" .none (vS "law_roadcall_k27_pairs_refused" 657) 390),
  (397, kC "_law_refused" 702 192 1 3 392 true 181 393 (.ref 394) (.ref 395) 396 707 708),
  (398, kF 52 "_law_refused" .none (vS "law_roadcall_k27_pairs_refused" 657) 397),
  (402, kC "_law_no_net" 710 198 2 3 399 true 181 400 .none .none 401 713 714),
  (403, kF 53 "_law_no_net" .none (vS "law_roadcall_k27_pairs_refused" 657) 402),
  (409, kC "_law_no_pair" 716 206 2 3 404 true 181 405 (.ref 406) (.ref 407) 408 723 724),
  (410, kF 54 "_law_no_pair" .none (vS "law_roadcall_k27_pairs_refused" 657) 409),
  (416, kC "law" 726 212 1 3 411 true 181 412 (.ref 413) (.ref 414) 415 737 738),
  (417, kF 55 "law" .none (vS "law_roadcall_k27_pairs_refused" 657) 416)]
noncomputable def N8 : List Addr := [2, 3, 23, 24, 36, 37, 48, 49, 60, 61, 72, 73, 84, 85, 96, 97, 108, 109, 120, 121, 132, 133, 144, 145, 156, 157, 168, 169, 180, 190, 191, 202, 203, 214, 215, 226, 227, 235, 236, 242, 243, 249, 250, 256, 257, 263, 264, 270, 271, 272, 278, 279, 285, 286, 292, 293, 297, 298, 304, 305, 311, 312, 318, 319, 325, 326, 330, 331, 335, 336, 342, 343, 349, 350, 354, 355, 359, 360, 366, 367, 373, 374, 378, 379, 383, 384, 390, 391, 397, 398, 402, 403, 409, 410, 416, 417]
noncomputable def kq : Program := PySem.W.view PySem.Challenge.pw_roadcall_k27_pairs_refused [1, 2, 3, 4, 5, 6, 7, 8, 9, 10, 11, 12, 13, 14, 15, 16, 17, 19, 20, 22, 23, 24, 25, 26, 27, 29, 32, 33, 34, 35, 36, 38, 39, 40, 41, 42, 43, 44, 45, 47, 48, 49, 50, 51, 52, 53, 54, 55]
noncomputable def kL : List Str := [Str.ofString "NoPaper", Str.ofString "first_met"]
noncomputable def kH : PySem.W.Hook := PySem.W.kHook kK N8 fun _ => by kernel_rfl
theorem DA {r : PySem.W.OpenRow} {q : Program} {loose : List Str} {H : PySem.W.Hook} {d : DefRec} {Ft : List (Str × Expr)} {N : Nat} (left : PySem.W.LeftO r.prog q loose (fun s => PySem.W.xlAt q [] s && PySem.W.recOk r.records s) H.obs H.val N)
    (rF : PySem.W.defOf q r.name = some (d, Ft)) (hp : r.prog.theDef r.name = some (d.params, d.body, d.scope)) (hk : PySem.W.kwWritten? d.params.kwonlyargs d.params.kw_defaults = some Ft) (N9 : (!r.writes || r.records.isEmpty) = true) (k1 : r.wellSaid = true)
    (ok : (PySem.W.chainsOk q && PySem.W.opensWell r.prog && (PySem.W.frees r.toRowW && r.within.isEmpty)) = true) (hb : r.prog.bare) (hw : r.toRowW.promised) (call : PySem.W.WalkO q loose (PySem.W.XL q []) H.says r.toRowW d Ft fun f vs => PySem.call f vs) : r.Holds :=
  PySem.W.holds_open left H.of H.keeps (fun s e => PySem.W.xl_of s (Bool.and_eq_true_iff.mp e).1) PySem.W.XL.keeps rF hp hk (fun s e => PySem.W.recFacts_of (Bool.and_eq_true_iff.mp e).2) N9 k1 ok hb hw call
noncomputable def oeQ (p : Program) (w : World) (N : Nat) : Option Shared := ((PySem.W.Fast.tw10274390034422433532 PySem.W.Fast.tw14364793385576792824 (PySem.W.opening p) w N (PySem.W.Fast.tw1435165496053646825 (PySem.W.opening p)).1 (PySem.W.Fast.tw1435165496053646825 (PySem.W.opening p)).2).bind (PySem.W.Fast.tw14289696077712309145 p)).bind fun s₀ => match s₀.heap.isNs PySem.mainGlobals && s₀.gens.size == 0 with
  | true => (PySem.W.Fast.tw14082659384304107361 PySem.W.Fast.tw14364793385576792824 p w s₀.heap.objs.size (s₀.heap.nsMap PySem.mainGlobals "__annotations__") N s₀ (PySem.W.topStub p)).bind fun au => match PySem.W.staticsOk (importedModules p.main.body) s₀.heap au.heap && PySem.W.namesBound p au.heap && PySem.W.gensDone au && PySem.W.laidKept s₀.heap au.heap with
      | true => some au
      | false => none
  | false => none
theorem Jz (p : Program) (w : World) (N : Nat) : PySem.W.openEnds treeTable p w N = oeQ p w N := by
  unfold oeQ
  rw [← PySem.W.Fast.te10274390034422433532, ← PySem.W.Fast.te14364793385576792824, ← PySem.W.Fast.te1435165496053646825, ← PySem.W.Fast.te14289696077712309145, ← PySem.W.Fast.te14082659384304107361]
  rfl
noncomputable def nsQ (q : Program) : List Str := (PySem.W.Fast.tw3399658132070893891 q).map (·.name)
theorem Cv (q : Program) : (recsOf q).map (·.name) = nsQ q := by unfold nsQ; rw [← PySem.W.Fast.te3399658132070893891]
noncomputable def c1Q (s : Shared) := PySem.W.Fast.tw5160383126252970620 (nsQ kq) (PySem.W.Fast.tw5991557255702980513 kq) [] { s with gens := #[] }
theorem JA (s : Shared) : seen ((recsOf kq).map (·.name)) (ownsOf kq) [] { s with gens := #[] } = c1Q s := by unfold c1Q; rw [Cv, ← PySem.W.Fast.te5160383126252970620, ← PySem.W.Fast.te5991557255702980513]
noncomputable def c2 (s : Shared) := (s.heap.bltView, s.heap.keysOk (PySem.W.looseW kq kL) ((recsOf kq).map (·.name)) ((litsOf kq).map (·.1)) ((clssOf kq (PySem.W.looseW kq kL)).map (·.name)) && s.heap.accountedOkI (importedModules PySem.Challenge.pw_roadcall_k27_pairs_refused.main.body) && s.heap.isNs mainGlobals && s.heap.isNs builtinsNs && tablesOk kq s.heap && (PySem.W.xlAt kq [] s && PySem.W.recOk [] s) && (s.gens.size == 0))
noncomputable def c2Q (s : Shared) := (s.heap.bltView, PySem.W.Fast.tw10880121769531294198 s.heap (PySem.W.Fast.tw821141287760084731 kq kL) (nsQ kq) ((PySem.W.Fast.tw7409074990110511671 kq).map (·.1)) ((PySem.W.Fast.tw13664370479719496447 kq (PySem.W.Fast.tw821141287760084731 kq kL)).map (·.name)) && PySem.W.Fast.tw14722251495701143533 s.heap (importedModules PySem.Challenge.pw_roadcall_k27_pairs_refused.main.body) && s.heap.isNs mainGlobals && s.heap.isNs builtinsNs && PySem.W.Fast.tw10994771534591457954 kq s.heap && (PySem.W.xlAt kq [] s && PySem.W.recOk [] s) && (s.gens.size == 0))
theorem JB (s : Shared) : c2 s = c2Q s := by unfold c2 c2Q; rw [Cv, ← PySem.W.Fast.te10880121769531294198, ← PySem.W.Fast.te821141287760084731, ← PySem.W.Fast.te7409074990110511671, ← PySem.W.Fast.te13664370479719496447, ← PySem.W.Fast.te14722251495701143533, ← PySem.W.Fast.te10994771534591457954]
noncomputable def c3 (s : Shared) := (tabsOk kq s, PySem.pinSeenD kq (drecsOf kq) s, plainSeenE kq (PySem.W.looseW kq kL) s, plainSeenD kq kL s, PySem.W.wideSeen kq s, PySem.W.clsSeenW kq kL s)
noncomputable def c3Q (s : Shared) := (PySem.W.Fast.tw479339242167458305 kq s, PySem.W.Fast.tw16090120013241838585 kq (PySem.W.Fast.tw3247288618530077131 kq) s, PySem.W.Fast.tw2386780881361962483 kq (PySem.W.Fast.tw821141287760084731 kq kL) s, PySem.W.Fast.tw11698064438423848299 kq kL s, PySem.W.Fast.tw7317090234206586261 kq s, PySem.W.Fast.tw7369524293546568484 kq kL s)
theorem JC (s : Shared) : c3 s = c3Q s := by unfold c3 c3Q; rw [← PySem.W.Fast.te479339242167458305, ← PySem.W.Fast.te16090120013241838585, ← PySem.W.Fast.te3247288618530077131, ← PySem.W.Fast.te2386780881361962483, ← PySem.W.Fast.te821141287760084731, ← PySem.W.Fast.te11698064438423848299, ← PySem.W.Fast.te7317090234206586261, ← PySem.W.Fast.te7369524293546568484]
set_option maxHeartbeats 0 in
theorem left0 (w : World) : (oeQ PySem.Challenge.pw_roadcall_k27_pairs_refused w 9338).map (fun s => kH.obs s) = some (kH.val w) := by kernel_rfl
set_option maxHeartbeats 0 in
theorem left1 (w : World) : (oeQ PySem.Challenge.pw_roadcall_k27_pairs_refused w 9338).map c1Q = some (expectedOf kq) := by kernel_rfl
set_option maxHeartbeats 0 in
theorem left2 (w : World) : (oeQ PySem.Challenge.pw_roadcall_k27_pairs_refused w 9338).map c2Q = some (bltViewBooted, true) := by kernel_rfl
set_option maxHeartbeats 0 in
theorem left3 (w : World) : (oeQ PySem.Challenge.pw_roadcall_k27_pairs_refused w 9338).map c3Q = some (true, PySem.pinGoodD (drecsOf kq), plainGoodE kq (PySem.W.looseW kq kL), plainGoodD kq kL, PySem.W.wideGood kq, PySem.W.clsGoodW kq kL) := by kernel_rfl
theorem left (w : World) : (PySem.W.openEnds treeTable PySem.Challenge.pw_roadcall_k27_pairs_refused w 9338).map (fun s => (PySem.W.openSeen kq kL (importedModules PySem.Challenge.pw_roadcall_k27_pairs_refused.main.body) (fun s => PySem.W.xlAt kq [] s && PySem.W.recOk [] s) true s, kH.obs s)) = some (PySem.W.openGood kq kL, kH.val w) := by
  rw [Jz]
  have a0 := left0 w
  have a1 := left1 w
  have a2 := left2 w
  have a3 := left3 w
  revert a0 a1 a2 a3
  generalize oeQ PySem.Challenge.pw_roadcall_k27_pairs_refused w 9338 = o
  cases o with
  | none => intro a0; cases a0
  | some s =>
    intro a0 a1 a2 a3
    have a0 : kH.obs s = kH.val w := Option.some.inj a0
    have a1 := Option.some.inj a1
    have a2 := Option.some.inj a2
    have a3 := Option.some.inj a3
    rw [← JA] at a1
    rw [← JB] at a2
    rw [← JC] at a3
    show some ((seen ((recsOf kq).map (·.name)) (ownsOf kq) [] { s with gens := #[] }, (c2 s).1, (c2 s).2, c3 s), kH.obs s) = _
    rw [a0, a1, a2, a3]
    rfl
end My
namespace L2
open PySem PySem.Spec PyProof.Rows
noncomputable abbrev Key := Sum Int Str
noncomputable def Cw : Key → Value → Bool
  | .inl k, v => Value.isInt k v
  | .inr x, v => Value.isStrOf x v
noncomputable def Mx (w : World) : Key → Int
  | .inl k => hashInt k
  | .inr x => hashStr w x
theorem cp : ∀ {k : Key} {v : Value}, Cw k v = true → (∃ i t, k = Sum.inl i ∧ v = Value.int i t) ∨ (∃ x t, k = Sum.inr x ∧ v = Value.str x t)
  | .inl i, v, h => by
    obtain ⟨t, e⟩ := Value.isInt_shape (k := i) (v := v) h
    exact .inl ⟨i, t, rfl, e⟩
  | .inr x, v, h => by
    obtain ⟨t, e⟩ := Value.isStrOf_shape (x := x) (v := v) h
    exact .inr ⟨x, t, rfl, e⟩
theorem Fu (a b : Int) : decide ((Sum.inl a : Key) = Sum.inl b) = (a == b) := by
  by_cases e : a = b
  · subst e; simp
  · have h : ¬ (Sum.inl a : Key) = Sum.inl b := fun q => e (Sum.inl.inj q)
    rw [decide_eq_false h]
    exact (beq_eq_false_iff_ne.mpr e).symm
theorem Fv (a b : Str) : decide ((Sum.inr a : Key) = Sum.inr b) = decide (a = b) := by
  by_cases e : a = b
  · subst e; simp
  · have h : ¬ (Sum.inr a : Key) = Sum.inr b := fun q => e (Sum.inr.inj q)
    rw [decide_eq_false h, decide_eq_false e]
theorem Fw (a : Int) (b : Str) : decide ((Sum.inl a : Key) = Sum.inr b) = false := decide_eq_false (fun q => nomatch q)
theorem Fx (a : Str) (b : Int) : decide ((Sum.inr a : Key) = Sum.inl b) = false := decide_eq_false (fun q => nomatch q)
noncomputable def oP (prog : Program) (w : World) : PySem.KeyKind prog w Key where
  is := Cw
  hash := Mx w
  inj := fun v a b ha hb => by
    rcases cp ha with ⟨i, t, rfl, rfl⟩ | ⟨x, t, rfl, rfl⟩
    · rcases cp hb with ⟨j, u, rfl, e⟩ | ⟨y, u, rfl, e⟩
      · injection e with e1 _; rw [e1]
      · exact nomatch e
    · rcases cp hb with ⟨j, u, rfl, e⟩ | ⟨y, u, rfl, e⟩
      · exact nomatch e
      · injection e with e1 _; rw [e1]
  byValue := fun k v h => by
    rcases cp h with ⟨i, t, rfl, rfl⟩ | ⟨x, t, rfl, rfl⟩ <;> rfl
  pyHash := fun hv h => by
    rcases cp hv with ⟨i, t, rfl, rfl⟩ | ⟨x, t, rfl, rfl⟩
    · exact wpAny_pyHash_int h
    · exact wpAny_pyHash_str h
  eqBool := fun hu hv h => by
    rcases cp hu with ⟨i, t, rfl, rfl⟩ | ⟨x, t, rfl, rfl⟩
    · rcases cp hv with ⟨j, u, rfl, rfl⟩ | ⟨y, u, rfl, rfl⟩
      · rw [Fu] at h; exact wpAny_eqBool_int h
      · rw [Fw] at h; exact SeqAt.EqAt.int_str i t y u _ _ _ _ h
    · rcases cp hv with ⟨j, u, rfl, rfl⟩ | ⟨y, u, rfl, rfl⟩
      · rw [Fx] at h; exact SeqAt.EqAt.str_int x t j u _ _ _ _ h
      · rw [Fv] at h; exact wpAny_eqBool_str h
  «strs» := fun k x t v h => by
    rcases cp h with ⟨i, u, rfl, e⟩ | ⟨y, u, rfl, e⟩
    · exact nomatch e
    · injection e with e1 _
      subst e1
      cases v <;> rfl
inductive V where
  | ao | bl (b : Bool) | int (i : Int) | str (x : Str) | iK (b : Array UInt8) | uM (b : UInt64) | ref (a : Addr) | ty (n : String)
  deriving DecidableEq
noncomputable def RelV : V → Value → Prop
  | .ao, u => u = Value.none
  | .bl b, u => u = Value.bool b
  | .int i, u => ∃ t, u = Value.int i t
  | .str x, u => ∃ t, u = Value.str x t
  | .iK b, u => ∃ t, u = Value.bytes b t
  | .uM b, u => ∃ t, u = Value.float b t
  | .ref a, u => u = Value.ref a
  | .ty n, u => u = Value.type n
noncomputable abbrev Vals : List V → List Value → Prop := Paired RelV
theorem Vals.length {xs : List V} {us : List Value} (r : Vals xs us) : xs.length = us.length := Paired.length r
theorem Vals.get : ∀ {xs : List V} {us : List Value} {i : Nat} {x : V}, Vals xs us → xs[i]? = some x → ∃ u, us[i]? = some u ∧ RelV x u
  | _, _, _, _, .nil, e => by simp at e
  | _, _, 0, _, .cons r _, e => by simp at e; subst e; exact ⟨_, rfl, r⟩
  | _, _, i + 1, x, .cons _ t, e => by
    obtain ⟨u, h1, h2⟩ := Vals.get (i := i) (x := x) t (by simpa using e)
    exact ⟨u, by simpa using h1, h2⟩
theorem Vals.set {x : V} {u : Value} (r : RelV x u) : ∀ {xs : List V} {us : List Value} (i : Nat), Vals xs us → Vals (xs.set i x) (us.set i u)
  | _, _, _, .nil => .nil
  | _, _, 0, .cons _ t => .cons r t
  | _, _, i + 1, .cons q t => .cons q (Vals.set r i t)
theorem Vals.append : ∀ {xs ys : List V} {us ws : List Value}, Vals xs us → Vals ys ws → Vals (xs ++ ys) (us ++ ws)
  | _, _, _, _, .nil, s => s
  | _, _, _, _, .cons r t, s => .cons r (Vals.append t s)
theorem Vals.take : ∀ {xs : List V} {us : List Value} (n : Nat), Vals xs us → Vals (xs.take n) (us.take n)
  | _, _, 0, _ => .nil
  | _, _, _ + 1, .nil => .nil
  | _, _, n + 1, .cons r t => .cons r (Vals.take n t)
theorem Vals.drop : ∀ {xs : List V} {us : List Value} (n : Nat), Vals xs us → Vals (xs.drop n) (us.drop n)
  | _, _, 0, r => r
  | _, _, _ + 1, .nil => .nil
  | _, _, n + 1, .cons _ t => Vals.drop n t
noncomputable def Am : Option V → Option Value → Prop
  | some v, some u => RelV v u
  | none, none => True
  | _, _ => False
noncomputable def KV {κ : Type} : List (κ × V) → List (κ × Value) → Prop := Paired fun (p : κ × V) (q : κ × Value) => p.1 = q.1 ∧ RelV p.2 q.2
noncomputable def kV : Key → V
  | .inl i => .int i
  | .inr x => .str x
inductive HO where
  | lst (xs : List V)
  | tup (xs : List V)
  | dK (bW : List (Key × V)) | dT (bW : List (List Key × V))
  | set (S : Int → Bool) (n : Nat)
  | ins (C dx : Addr) (fs : List (Str × V))
  | own (x : Addr)
  | xd (fs : List (Str × V))
  | met (f x : Addr)
  | Cy (lo hi : Int)
  | cU (o : Obj) (u : HO)
  | cu (ps : Array Value)
  | lam (ps : Array Value)
  | ext (φ : Heap → Prop)
noncomputable abbrev Hp := Addr → Option HO
noncomputable def upd (H : Hp) (a : Addr) (o : HO) : Hp := fun b => if b = a then some o else H b
theorem aC {H : Hp} {a : Addr} {o : HO} : upd H a o a = some o := by unfold upd; rw [if_pos rfl]
theorem ak {H : Hp} {a b : Addr} {o : HO} (h : b ≠ a) : upd H a o b = H b := by unfold upd; rw [if_neg h]
theorem JD {H : Hp} {a b : Addr} {o u : HO} (h : H a = some o) (h' : H b = some u) (d : o ≠ u) : a ≠ b := by
  intro e; subst e; rw [h] at h'; exact d (Option.some.inj h')
theorem a9 {H : Hp} {a b : Addr} {o : HO} (h : H a = some o) (h' : H b = none) : a ≠ b := by
  intro e; subst e; rw [h] at h'; cases h'
section
variable (P : Program) (w : World)
noncomputable def hV (h : Heap) (a : Addr) (items : Array Value) : Prop := ∃ o, h.get? a = some o ∧ o.cls = .type "tuple" ∧ ∃ n, o.data = .seq items n ∧ o.dict = none
theorem hV.tup {h : Heap} {a : Addr} {items : Array Value} (x : hV h a items) : IsTup h a items := let ⟨o, e, c, n, d, _⟩ := x; ⟨o, e, c, n, d⟩
theorem hV.lt {h : Heap} {a : Addr} {items : Array Value} (x : hV h a items) : a < h.objs.size := x.tup.lt
theorem hV.new (h : Heap) (items : Array Value) : hV (h.push { cls := .type "tuple", data := .seq items }) h.objs.size items := ⟨_, Heap.get?_push_size _ rfl, rfl, _, rfl, rfl⟩
noncomputable def bw (H : Hp) (h : Heap) (a : Addr) : HO → Prop
  | .lst xs => xs.length ≤ sizeLine ∧ ∃ (its : List Value) (n : Nat), Vals xs its ∧ h.get? a = some { cls := .type "list", data := .seq its.toArray n }
  | .tup xs => xs.length ≤ sizeLine ∧ ∃ its : List Value, Vals xs its ∧ hV h a its.toArray
  | .dK bW => bW.length ≤ sizeLine ∧ (a == sysModules) = false ∧ ∃ vs, KV bW vs ∧ h.DictOf (oP P w) a vs
  | .dT bW => bW.length ≤ sizeLine ∧ (a == sysModules) = false ∧ ∃ xs : List (List Key × Addr × Value),
      Paired (fun (p : List Key × V) (q : List Key × Addr × Value) => p.1 = q.1 ∧ H q.2.1 = some (.tup (p.1.map kV)) ∧ RelV p.2 q.2.2) bW xs ∧
      ∃ o es ep, h.get? a = some o ∧ o.ExactDict ∧ o.data = .dict es ep ∧ es.toList = xs.map (entryOfKey (tupleKind (oP P w))) ∧ (xs.map (·.1)).Nodup
  | .set S n => h.SetOf (intKind P w) a S n
  | .ins C dx fs => H dx = some (.own a) ∧ fs.length ≤ 1000 ∧ dx ≠ a ∧ h.get? a = some (PySem.W.instObj C dx) ∧
      ∃ mA, h.Ns1 dx mA ∧ (∀ f, Am (fs.lookup f) (mA f)) ∧ PySem.Within mA (fs.map (·.1))
  | .own _ => ∃ o, h.get? a = some o
  | .xd fs => ∃ mA, h.Ns1 a mA ∧ ∀ f, Am (fs.lookup f) (mA f)
  | .Cy lo hi => ∃ t u v, h.get? a = some { cls := .type "range", data := .fields #[.int lo t, .int hi u, .int 1 v] }
  | .cU o u => h.get? a = some o ∧ bw H h a u
  | .cu ps => h.get? a = some { cls := .none, data := .fields ps }
  | .lam ps => h.get? a = some { cls := .none, data := .fields ps }
  | .met f x => h.get? a = some (PySem.W.methodObj (.ref f) (.ref x))
  | .ext φ => φ h ∧ (∃ o, h.get? a = some o) ∧ ∀ h1 h2 : Heap, φ h1 → (∀ o, h1.get? a = some o → h2.get? a = some o) → φ h2
noncomputable def di (H : Hp) (h : Heap) : Prop := ∀ a o, H a = some o → bw P w H h a o
end
section
variable {P : Program} {w : World} {H H' : Hp} {h h' : Heap} {a : Addr} {o : HO}
theorem bw.lt (x : bw P w H h a o) : a < h.objs.size := by
  cases o with
  | lst xs => obtain ⟨_, _, _, _, e⟩ := x; exact Heap.lt_size e
  | tup xs => obtain ⟨_, _, _, p⟩ := x; exact p.lt
  | dK bW => obtain ⟨_, _, _, _, o, _, _, e, _⟩ := x; exact Heap.lt_size e
  | dT bW => obtain ⟨_, _, _, _, o, _, _, e, _⟩ := x; exact Heap.lt_size e
  | set S n => obtain ⟨o, _, _, _, e, _⟩ := x; exact Heap.lt_size e
  | ins C dx fs => obtain ⟨_, _, _, e, _⟩ := x; exact Heap.lt_size e
  | own y => obtain ⟨_, e⟩ := x; exact Heap.lt_size e
  | xd fs => obtain ⟨_, ⟨_, _, _, e, _⟩, _⟩ := x; exact Heap.lt_size e
  | Cy lo hi => obtain ⟨_, _, _, e⟩ := x; exact Heap.lt_size e
  | cU ob u => obtain ⟨e, _⟩ := x; exact Heap.lt_size e
  | cu ps => exact Heap.lt_size (show h.get? a = some _ from x)
  | lam ps => exact Heap.lt_size (show h.get? a = some _ from x)
  | met f y => exact Heap.lt_size (show h.get? a = some _ from x)
  | ext φ => obtain ⟨_, ⟨_, e⟩, _⟩ := x; exact Heap.lt_size e
theorem Paired.Fy {α β : Type} {F G : α → β → Prop} : ∀ {FA : List α} {FC : List β}, Paired F FA FC → (∀ a b, F a b → G a b) → Paired G FA FC
  | _, _, .nil, _ => .nil
  | _, _, .cons r t, f => .cons (f _ _ r) (Paired.Fy t f)
theorem bw.bU (x : bw P w H h a o) (k : ∀ b u, (b = a ∨ H b = some (.own a)) → h.get? b = some u → h'.get? b = some u)
    (ho : ∀ b, H b = some (.own a) → H' b = some (.own a)) (ht : ∀ b xs, H b = some (.tup xs) → H' b = some (.tup xs)) : bw P w H' h' a o := by
  induction o with
  | lst xs => obtain ⟨z, its, n, r, e⟩ := x; exact ⟨z, its, n, r, k _ _ (.inl rfl) e⟩
  | tup xs => obtain ⟨z, its, r, ob, e, c⟩ := x; exact ⟨z, its, r, ob, k _ _ (.inl rfl) e, c⟩
  | dK bW => obtain ⟨z, y, vs, r, ob, es, ep, e, c⟩ := x; exact ⟨z, y, vs, r, ob, es, ep, k _ _ (.inl rfl) e, c⟩
  | dT bW =>
    obtain ⟨z, y, xs, r, ob, es, ep, e, c⟩ := x
    exact ⟨z, y, xs, Paired.Fy r fun p q z => ⟨z.1, ht _ _ z.2.1, z.2.2⟩, ob, es, ep, k _ _ (.inl rfl) e, c⟩
  | set S n => obtain ⟨ob, es, ep, t, e, c⟩ := x; exact ⟨ob, es, ep, t, k _ _ (.inl rfl) e, c⟩
  | ins C dx fs =>
    obtain ⟨d, z, ne, e, mA, ⟨od, es, ep, e2, c⟩, r⟩ := x
    exact ⟨ho _ d, z, ne, k _ _ (.inl rfl) e, mA, ⟨od, es, ep, k _ _ (.inr d) e2, c⟩, r⟩
  | own y => obtain ⟨ob, e⟩ := x; exact ⟨ob, k _ _ (.inl rfl) e⟩
  | xd fs => obtain ⟨mA, ⟨od, es, ep, e, c⟩, r⟩ := x; exact ⟨mA, ⟨od, es, ep, k _ _ (.inl rfl) e, c⟩, r⟩
  | Cy lo hi => obtain ⟨t, u, v, e⟩ := x; exact ⟨t, u, v, k _ _ (.inl rfl) e⟩
  | cU ob u ih => obtain ⟨e, q⟩ := x; exact ⟨k _ _ (.inl rfl) e, ih q⟩
  | cu ps =>
    have e : h.get? a = some { cls := .none, data := .fields ps } := x
    show h'.get? a = some { cls := .none, data := .fields ps }
    exact k a _ (.inl rfl) e
  | lam ps =>
    have e : h.get? a = some { cls := .none, data := .fields ps } := x
    show h'.get? a = some { cls := .none, data := .fields ps }
    exact k a _ (.inl rfl) e
  | met f y =>
    have e : h.get? a = some (PySem.W.methodObj (.ref f) (.ref y)) := x
    show h'.get? a = some (PySem.W.methodObj (.ref f) (.ref y))
    exact k a _ (.inl rfl) e
  | ext φ => obtain ⟨p, ⟨o, e⟩, st⟩ := x; exact ⟨st _ _ p fun o q => k _ _ (.inl rfl) q, ⟨o, k _ _ (.inl rfl) e⟩, st⟩
theorem di.lt (x : di P w H h) (e : H a = some o) : a < h.objs.size := (x a o e).lt
theorem di.fresh (x : di P w H h) (e : h.objs.size ≤ a) : H a = none := by
  cases q : H a with
  | none => rfl
  | some u => exact absurd (Nat.lt_of_lt_of_le (x.lt q) e) (Nat.lt_irrefl _)
theorem di.kept (x : di P w H h) (k : ∀ b u, h.get? b = some u → h'.get? b = some u) : di P w H h' := fun a o e =>
  (x a o e).bU (fun b u _ q => k b u q) (fun _ q => q) fun _ _ q => q
theorem di.laid (x : di P w H h) (k : ∀ b u, h.get? b = some u → h'.get? b = some u) (hp : h.objs.size ≤ a) (new : bw P w (upd H a o) h' a o) : di P w (upd H a o) h' := fun b u e => by
  have hn := x.fresh hp
  by_cases hb : b = a
  · subst hb; rw [aC] at e; cases e; exact new
  · rw [ak hb] at e
    exact (x b u e).bU (fun c v _ q => k c v q) (fun c q => by rw [ak (a9 q hn)]; exact q) fun c xs q => by rw [ak (a9 q hn)]; exact q
end
noncomputable def Rd (H : Hp) (a : Addr) (u : HO) : Prop := H a = some u ∨ ∃ o, H a = some (.cU o u)
theorem Rd.ok {P : Program} {w : World} {H : Hp} {h : Heap} {a : Addr} {u : HO} (r : Rd H a u) (x : di P w H h) : bw P w H h a u := by
  rcases r with r | ⟨o, r⟩
  · exact x a u r
  · obtain ⟨_, q⟩ := x a _ r
    exact q
noncomputable def Cz : Option HO → Prop
  | some (.lst _) => True
  | some (.dK _) => True
  | some (.dT _) => True
  | some (.set _ _) => True
  | some (.ins _ _ _) => True
  | some (.ext _) => True
  | some (.lam _) => True
  | _ => False
section
variable {P : Program} {w : World} {H : Hp} {h h' : Heap} {x e : Addr} {o' : HO}
theorem di.write (ok : di P w H h) (mu : Cz (H x)) (he : e = x ∨ H e = some (.own x)) (k : ∀ b u, b ≠ e → h.get? b = some u → h'.get? b = some u) (uN : ∃ u, h'.get? e = some u)
    (new : bw P w (upd H x o') h' x o') : di P w (upd H x o') h' := fun b u q => by
  have FD : ∀ c y, H c = some (.own y) → c ≠ x := fun c y r z => by subst z; rw [r] at mu; exact mu
  have MA : ∀ c xs, H c = some (.tup xs) → c ≠ x := fun c xs r z => by subst z; rw [r] at mu; exact mu
  by_cases hb : b = x
  · subst hb; rw [aC] at q; cases q; exact new
  · rw [ak hb] at q
    by_cases rG : b = e
    · have q' : H b = some (.own x) := by
        rcases he with z | z
        · exact absurd (rG.trans z) hb
        · rw [rG]; exact z
      rw [q] at q'; cases q'
      obtain ⟨v, hv⟩ := uN
      exact ⟨v, by rw [rG]; exact hv⟩
    · refine (ok b u q).bU (fun c v hc r => k c v ?_ r) (fun c r => by rw [ak (FD c b r)]; exact r) fun c xs r => by rw [ak (MA c xs r)]; exact r
      rcases hc with rfl | hc
      · exact rG
      · rintro rfl
        rcases he with z | z
        · exact FD c b hc z
        · rw [hc] at z; cases z; exact hb rfl
end
structure Un (fs ex : List Addr) (H H' : Hp) (h h' : Heap) : Prop where
  keep : ∀ b o, h.get? b = some o → H b = none → b ∉ fs → b ∉ ex → h'.get? b = some o
  slot : ∀ b o, h.get? b = some o → H b = none → b ∈ fs → b ∉ ex → ∃ sl, h'.get? b = some { o with slots := sl }
  free : ∀ b o, h.get? b = some o → H b = none → b ∉ ex → H' b = none
  there : ∀ b o, h.get? b = some o → b ∉ ex → ∃ o', h'.get? b = some o'
  tups : ∀ b xs, H b = some (.tup xs) → H' b = some (.tup xs)
  frzs : ∀ b o u, H b = some (.cU o u) → H' b = some (.cU o u)
  tbls : ∀ b ps, H b = some (.cu ps) → ∃ more, H' b = some (.cu (ps ++ more))
section
variable {fs Oa ex QM : List Addr} {H H1 H2 : Hp} {h h1 h2 h' : Heap} {a x e : Addr} {o : HO}
theorem Un.any (u : Un fs ex H H1 h h1) {b : Addr} {ob : Obj} (q : h.get? b = some ob) (n : H b = none) (hx : b ∉ ex) : ∃ sl, h1.get? b = some { ob with slots := sl } := by
  by_cases hb : b ∈ fs
  · exact u.slot b ob q n hb hx
  · exact ⟨ob.slots, u.keep b ob q n hb hx⟩
theorem Un.kept (k : ∀ b u, h.get? b = some u → h'.get? b = some u) : Un fs ex H H h h' :=
  ⟨fun b ob q _ _ _ => k b ob q, fun b ob q _ _ _ => ⟨ob.slots, k b ob q⟩, fun _ _ _ n _ => n, fun b ob q _ => ⟨ob, k b ob q⟩, fun _ _ q => q, fun _ _ _ q => q, fun _ ps q => ⟨#[], by rw [q]; simp⟩⟩
theorem Un.refl : Un fs ex H H h h := Un.kept fun _ _ q => q
theorem Un.laid (k : ∀ b u, h.get? b = some u → h'.get? b = some u) (hp : h.objs.size ≤ a) (hn : H a = none) : Un fs ex H (upd H a o) h h' where
  keep := fun b u q _ _ _ => k b u q
  slot := fun b u q _ _ _ => ⟨u.slots, k b u q⟩
  free := fun b u q n _ => by rw [ak (Nat.ne_of_lt (Nat.lt_of_lt_of_le (Heap.lt_size q) hp))]; exact n
  there := fun b u q _ => ⟨u, k b u q⟩
  tups := fun b xs q => by rw [ak (a9 q hn)]; exact q
  frzs := fun b u xs q => by rw [ak (a9 q hn)]; exact q
  tbls := fun b ps q => ⟨#[], by rw [ak (a9 q hn), q]; simp⟩
theorem Un.write (mu : Cz (H x)) (he : e = x ∨ H e = some (.own x)) (k : ∀ b u, b ≠ e → h.get? b = some u → h'.get? b = some u) (uN : ∃ u, h'.get? e = some u) : Un fs ex H (upd H x o) h h' := by
  have hx : ∀ b, H b = none → b ≠ x := fun b n z => by subst z; rw [n] at mu; exact mu
  have hb : ∀ b, H b = none → b ≠ e := fun b n z => by
    subst z
    rcases he with r | r
    · exact hx b n r
    · rw [n] at r; cases r
  have hm : ∀ b u, H b = some u → ¬ Cz (some u) → b ≠ x := fun b u q nm z => by subst z; rw [q] at mu; exact nm mu
  refine ⟨fun b u q n _ _ => k b u (hb b n) q, fun b u q n _ _ => ⟨u.slots, k b u (hb b n) q⟩, fun b u q n _ => by rw [ak (hx b n)]; exact n, fun b u q _ => ?_,
    fun b xs q => by rw [ak (hm b _ q fun z => z)]; exact q, fun b u xs q => by rw [ak (hm b _ q fun z => z)]; exact q, fun b ps q => ⟨#[], by rw [ak (hm b _ q fun z => z), q]; simp⟩⟩
  by_cases rG : b = e
  · subst rG; exact uN
  · exact ⟨u, k b u rG q⟩
end
noncomputable def CA (h : Heap) (H : Hp) : List Addr := (List.range h.objs.size).filter fun a => (H a).isSome
noncomputable def iL (h : Heap) (H : Hp) : Heap := PySem.W.hideAll h (CA h H)
theorem xt (h : Heap) (H : Hp) : (iL h H).objs.size = h.objs.size := PySem.W.hideAll_size _ _
theorem An {h : Heap} {H : Hp} {b : Addr} {o : Obj} (e : h.get? b = some o) (n : H b = none) : (iL h H).get? b = some o :=
  PySem.W.hideAll_get _ e fun hm => by
    have q : (H b).isSome = true := (List.mem_filter.mp hm).2
    rw [n] at q; simp at q
theorem DB {h : Heap} {H : Hp} {b : Addr} {o : Obj} (e : (iL h H).get? b = some o) : h.get? b = some o ∧ H b = none := by
  have e' : h.get? b = some o := PySem.W.of_hideAll (CA h H) e
  refine ⟨e', ?_⟩
  cases q : H b with
  | none => rfl
  | some x =>
    have hm : b ∈ CA h H := List.mem_filter.mpr ⟨List.mem_range.mpr (Heap.lt_size e'), by simp [q]⟩
    have z : (iL h H).get? b = none := PySem.W.hideAll_none (CA h H) hm
    rw [z] at e; cases e
noncomputable def DC (g h : Heap) (L : Addr) : List (Addr × Obj) := (List.range h.objs.size).filterMap fun a => if a = L ∨ (g.get? a).isSome = true then none else (h.get? a).map fun o => (a, o)
noncomputable def rest (g h : Heap) (L d : Addr) : List (Addr × Obj) := (DC g h L).filter fun p => decide (p.1 ≠ d)
structure Mod (K : PySem.W.Frag) (mg : Str → Option Value) (base : Heap) : Prop where
  kin : K.In base
  glob : base.Ns mainGlobals mg
  blt : ∃ mb, base.Ns builtinsNs mb ∧ ∀ x : Str, x ≠ "__name__" → mb x = bootBuiltins x
  nolimit : base.NoLimit
structure Cx where
  prog : Program
  w : World
  K : PySem.W.Frag
  mg : Str → Option Value
  base : Heap
  A : Around
  N : List Str
  s₀ : Shared
  H₀ : Hp
  env : Env
  outer : List Env
  stack : List Env
  ex : List Addr
  fn : Str → Bool
  calm : Bool
  pn : List (Addr × Obj)
  xe : Value → Shared → Prop
noncomputable def dJ (l : List Env) : List Addr := l.filterMap (·.frame)
noncomputable abbrev Cx.fs (X : Cx) : List Addr := dJ X.outer
noncomputable def nE (sc : Scope) (x : Str) : Prop := sc.names.lookup x = some .local ∨ sc.names.lookup x = some .cell ∨ sc.names.lookup x = some .free
noncomputable def Loc (sc : Scope) (x : Str) : Prop := sc.names.lookup x = some .local ∨ sc.names.lookup x = some .cell
noncomputable def Look (env : Env) (h : Heap) (m : Str → Option Value) (x : Str) (u : Value) : Prop :=
  (env.kindOf x = some .local ∧ m x = some u) ∨ ((env.kindOf x = some .cell ∨ env.kindOf x = some .free) ∧ ∃ c, env.cells.lookup x = some c ∧ h.IsCell c (some u))
structure Cx.Ok (X : Cx) : Prop where
  mod : Mod X.K X.mg X.base
  kind : X.env.scope.kind = .function
  glob : X.env.globals = mainGlobals
  blt : X.env.builtins = builtinsNs
  above : X.s₀.heap.objs.size ≤ X.env.locals
  inj : ∀ x y c, X.env.cells.lookup x = some c → X.env.cells.lookup y = some c → x = y
  has : ∀ x, (X.env.kindOf x = some .cell ∨ X.env.kindOf x = some .free) → ∃ c, X.env.cells.lookup x = some c
  cab : ∀ x c, X.fn x = true → X.env.cells.lookup x = some c → X.s₀.heap.objs.size ≤ c
  hd : X.calm = true → X.A.handled = none
  frames : X.A.frames = some X.stack
  stk : X.stack = X.outer ∨ (X.stack = X.env :: X.outer ∧ X.env.frame = some X.env.locals)
  exf : ∀ b ∈ X.ex, b ≠ X.env.locals ∧ ∀ x c, X.env.cells.lookup x = some c → c ≠ b
  bs : ∀ b o, X.base.get? b = some o → X.s₀.heap.get? b = some o ∧ X.H₀ b = none
  bsz : X.base.objs.size ≤ X.s₀.heap.objs.size
  noex : ∀ b o, X.base.get? b = some o → b ∉ X.ex
  exfs : ∀ b ∈ X.ex, b ∉ X.fs
  funs : X.s₀.heap.FunFrames X.base X.outer
  frf : ∀ b ∈ X.fs, X.H₀ b = none
noncomputable def Gn (n : Nat) (g : Array GenState) : Prop := AllBare g ∧ n ≤ g.size
theorem Gn.self {n : Nat} {g : Array GenState} (x : Gn n g) : Gn g.size g := ⟨x.1, Nat.le_refl _⟩
theorem Gn.trans {n : Nat} {g g' : Array GenState} (x : Gn n g) (y : Gn g.size g') : Gn n g' := ⟨y.1, Nat.le_trans x.2 y.2⟩
structure Inv (X : Cx) (pins : List (Addr × Obj)) (σ : List (Option V)) (H : Hp) (s : Shared) : Prop where
  ok : X.Ok
  os : s.os = X.s₀.os
  bare : Gn X.s₀.gens.size s.gens
  base : Un X.fs X.ex X.H₀ H X.s₀.heap s.heap
  loc : ∃ m, s.heap.Ns X.env.locals m ∧ ∀ (i : Nat) (x : Str) (v : V), X.N[i]? = some x → σ[i]? = some (some v) → nE X.env.scope x → ∃ u, RelV v u ∧ Look X.env s.heap m x u
  cell : ∀ x c, X.env.cells.lookup x = some c → ∃ v, s.heap.IsCell c v
  free : H X.env.locals = none
  freeC : ∀ x c, X.env.cells.lookup x = some c → H c = none
  pin : ∀ p ∈ X.pn ++ pins, s.heap.get? p.1 = some p.2 ∧ H p.1 = none ∧ p.1 ≠ X.env.locals ∧ p.1 ∉ X.fs ∧ ∀ v, p.2.data ≠ .cell v
  hok : di X.prog X.w H s.heap
  len : σ.length = X.N.length
section
variable {X : Cx} {pins : List (Addr × Obj)} {σ : List (Option V)} {H H' : Hp} {s : Shared} {h' : Heap}
theorem Cx.Ok.MB (ok : X.Ok) {b : Addr} {o : Obj} (e : X.base.get? b = some o) : b ∉ X.fs := fun hb => by
  have := (ok.funs.mem hb).1
  rw [e] at this; cases this
theorem Inv.bs (I : Inv X pins σ H s) : ∀ b o, X.base.get? b = some o → s.heap.get? b = some o ∧ H b = none := fun b o e =>
  ⟨I.base.keep b o (I.ok.bs b o e).1 (I.ok.bs b o e).2 (I.ok.MB e) (I.ok.noex b o e), I.base.free b o (I.ok.bs b o e).1 (I.ok.bs b o e).2 (I.ok.noex b o e)⟩
theorem Inv.bk (I : Inv X pins σ H s) : ∀ b o, X.base.get? b = some o → s.heap.get? b = some o := fun b o e => (I.bs b o e).1
theorem Inv.mod (I : Inv X pins σ H s) : Mod X.K X.mg X.base := I.ok.mod
theorem Inv.ej (I : Inv X pins σ H s) : X.K.In s.heap := I.ok.mod.kin.keeps I.bk
theorem Inv.nolimit (I : Inv X pins σ H s) : s.heap.NoLimit := I.ok.mod.nolimit.keeps I.bk
theorem Inv.lt (I : Inv X pins σ H s) : X.env.locals < s.heap.objs.size := let ⟨_, hn, _⟩ := I.loc; hn.lt
theorem Inv.sz (I : Inv X pins σ H s) : X.s₀.heap.objs.size ≤ s.heap.objs.size := Nat.le_trans I.ok.above (Nat.le_of_lt I.lt)
theorem Inv.FE (I : Inv X pins σ H s) {a : Addr} (h : s.heap.objs.size ≤ a) : a ∉ X.fs := fun hb => by
  obtain ⟨_, o, ho, _⟩ := I.ok.funs.mem hb
  exact absurd (Nat.lt_of_lt_of_le (Heap.lt_size ho) (Nat.le_trans I.sz h)) (Nat.lt_irrefl _)
theorem Inv.nF (I : Inv X pins σ H s) : ∀ x c, X.env.cells.lookup x = some c → c ≠ X.env.locals := fun x c e z => by
  obtain ⟨v, o, ho, hd⟩ := I.cell x c e
  obtain ⟨m, ⟨o', es, ep, gA, jl, _⟩, _⟩ := I.loc
  rw [z, gA] at ho; cases ho; rw [jl] at hd; cases hd
theorem Inv.funs (I : Inv X pins σ H s) : s.heap.FunFrames X.base X.outer := by
  have all : ∀ (l : List Env), (∀ b ∈ dJ l, b ∈ X.fs) → X.s₀.heap.FunFrames X.base l → s.heap.FunFrames X.base l := by
    intro l
    induction l with
    | nil => intro _ _; trivial
    | cons env r ih =>
      intro hs hl
      obtain ⟨hk, ⟨L, o, hf, hn, ho, hd⟩, hr⟩ := hl
      have hL : L ∈ X.fs := hs L (by unfold dJ; rw [List.filterMap_cons, hf]; exact List.mem_cons_self)
      obtain ⟨sl, e⟩ := I.base.slot L o ho (I.ok.frf L hL) hL fun z => I.ok.exfs L z hL
      exact ⟨hk, ⟨L, _, hf, hn, e, hd⟩, ih (fun b hb => hs b (by unfold dJ; rw [List.filterMap_cons, hf]; exact List.mem_cons_of_mem _ hb)) hr⟩
  exact all X.outer (fun _ hb => hb) I.ok.funs
theorem Inv.stack (I : Inv X pins σ H s) : s.heap.FunFrames X.base X.stack := by
  rcases I.ok.stk with e | ⟨e, hf⟩
  · rw [e]; exact I.funs
  · rw [e]
    obtain ⟨m, hn, _⟩ := I.loc
    refine .cons (by rw [I.ok.kind]; decide) hf hn ?_ I.funs
    exact Heap.get?_none_of_le (Nat.le_trans I.ok.bsz I.ok.above)
theorem Inv.fu (I : Inv X pins σ H s) : ∀ b ∈ dJ X.stack, b ∈ X.env.locals :: X.fs := fun b hb => by
  rcases I.ok.stk with e | ⟨e, hf⟩
  · rw [e] at hb; exact List.mem_cons_of_mem _ hb
  · rw [e] at hb
    unfold dJ at hb
    rw [List.filterMap_cons, hf] at hb
    exact hb
theorem Inv.jL (I : Inv X pins σ H s) : ∀ b ∈ dJ X.stack, H b = none := fun b hb => by
  rcases List.mem_cons.mp (I.fu b hb) with e | hb
  · rw [e]; exact I.free
  · obtain ⟨_, o, ho, _⟩ := I.ok.funs.mem hb
    exact I.base.free b o ho (I.ok.frf b hb) fun z => I.ok.exfs b z hb
theorem Inv.step {g' : Array GenState} {t' : Nat} {d' : Drawn} {ch : List Addr} (I : Inv X pins σ H s)
    (mE : ∀ b ∈ ch, (b ∈ X.ex ∨ X.s₀.heap.objs.size ≤ b) ∧ b ≠ X.env.locals ∧ (∀ x c, X.env.cells.lookup x = some c → c ≠ b) ∧ ∀ p ∈ X.pn ++ pins, p.1 ≠ b)
    (keep : ∀ b o, b ≠ X.env.locals → b ∉ X.fs → b ∉ ch → s.heap.get? b = some o → H b = none → h'.get? b = some o)
    (slot : ∀ b o, b ≠ X.env.locals → b ∈ X.fs → b ∉ ch → s.heap.get? b = some o → H b = none → ∃ sl, h'.get? b = some { o with slots := sl }) (free : ∀ b o, b ∉ ch → s.heap.get? b = some o → H b = none → H' b = none)
    (there : ∀ b o, b ∉ ch → s.heap.get? b = some o → ∃ o', h'.get? b = some o')
    (tups : ∀ b xs, H b = some (.tup xs) → H' b = some (.tup xs)) (frzs : ∀ b o u, H b = some (.cU o u) → H' b = some (.cU o u)) (tbls : ∀ b ps, H b = some (.cu ps) → ∃ more, H' b = some (.cu (ps ++ more)))
    (ns : ∀ m, s.heap.Ns X.env.locals m → h'.Ns X.env.locals m) (hok : di X.prog X.w H' h') (hg : Gn s.gens.size g') :
    Inv X pins σ H' { s with heap := h', gens := g', drawn := d', toks := t' } := by
  have K9 : ∀ b o, X.s₀.heap.get? b = some o → b ≠ X.env.locals := fun b o e => Nat.ne_of_lt (Nat.lt_of_lt_of_le (Heap.lt_size e) I.ok.above)
  have CB : ∀ b o, X.s₀.heap.get? b = some o → b ∉ X.ex → b ∉ ch := fun b o e hx hb => by
    rcases (mE b hb).1 with z | z
    · exact hx z
    · exact absurd (Nat.lt_of_lt_of_le (Heap.lt_size e) z) (Nat.lt_irrefl _)
  have cellK : ∀ x c, X.env.cells.lookup x = some c → ∀ v, s.heap.IsCell c v → h'.IsCell c v := fun x c e v ⟨o, ho, hd⟩ => by
    have xu : c ∉ ch := fun z => (mE c z).2.2.1 x c e rfl
    by_cases hc : c ∈ X.fs
    · obtain ⟨sl, q⟩ := slot c o (I.nF x c e) hc xu ho (I.freeC x c e)
      exact ⟨_, q, hd⟩
    · exact ⟨o, keep c o (I.nF x c e) hc xu ho (I.freeC x c e), hd⟩
  refine ⟨I.ok, I.os, I.bare.trans hg, ⟨fun b o e n hb hx => ?_, fun b o e n hb hx => ?_, fun b o e n hx => ?_, fun b o e hx => ?_, fun b xs e => tups b xs (I.base.tups b xs e), fun b o xs e => frzs b o xs (I.base.frzs b o xs e), fun b ps e => ?_⟩, ?_, fun x c e => ?_, ?_, fun x c e => ?_, fun p hp => ?_, hok, I.len⟩
  · exact keep b o (K9 b o e) hb (CB b o e hx) (I.base.keep b o e n hb hx) (I.base.free b o e n hx)
  · obtain ⟨sl, e1⟩ := I.base.slot b o e n hb hx
    obtain ⟨La, e2⟩ := slot b _ (K9 b o e) hb (CB b o e hx) e1 (I.base.free b o e n hx)
    exact ⟨La, e2⟩
  · obtain ⟨o', e1⟩ := I.base.there b o e hx
    exact free b o' (CB b o e hx) e1 (I.base.free b o e n hx)
  · obtain ⟨o', e1⟩ := I.base.there b o e hx
    exact there b o' (CB b o e hx) e1
  · obtain ⟨m1, e1⟩ := I.base.tbls b ps e
    obtain ⟨m2, e2⟩ := tbls b _ e1
    exact ⟨m1 ++ m2, by rw [e2, Array.append_assoc]⟩
  · obtain ⟨m, hn, hl⟩ := I.loc
    refine ⟨m, ns m hn, fun i x v e1 e2 e3 => ?_⟩
    obtain ⟨u, r, l⟩ := hl i x v e1 e2 e3
    refine ⟨u, r, ?_⟩
    rcases l with l | ⟨k, c, e, z⟩
    · exact .inl l
    · exact .inr ⟨k, c, e, cellK x c e _ z⟩
  · obtain ⟨v, z⟩ := I.cell x c e
    exact ⟨v, cellK x c e v z⟩
  · obtain ⟨m, ⟨o, _, _, ho, _⟩, _⟩ := I.loc
    exact free _ o (fun z => (mE _ z).2.1 rfl) ho I.free
  · obtain ⟨v, o, ho, hd⟩ := I.cell x c e
    exact free c o (fun z => (mE c z).2.2.1 x c e rfl) ho (I.freeC x c e)
  · obtain ⟨e, n, ne, nf, d⟩ := I.pin p hp
    have xu : p.1 ∉ ch := fun z => (mE p.1 z).2.2.2 p hp rfl
    exact ⟨keep p.1 p.2 ne nf xu e n, free p.1 p.2 xu e n, ne, nf, d⟩
theorem Inv.un {t' : Nat} (I : Inv X pins σ H s) (u : Un X.fs [] H H' s.heap h') (hok : di X.prog X.w H' h') : Inv X pins σ H' { s with heap := h', toks := t' } := by
  obtain ⟨m, ⟨o, es, ep, ho, r⟩, _⟩ := id I.loc
  obtain ⟨sl, hL⟩ := u.any ho I.free (by simp)
  exact I.step (g' := s.gens) (d' := s.drawn) (ch := []) (fun _ z => nomatch z) (fun b o _ hb _ e n => u.keep b o e n hb (by simp)) (fun b o _ hb _ e n => u.slot b o e n hb (by simp)) (fun b o _ e n => u.free b o e n (by simp)) (fun b o _ e => u.there b o e (by simp)) u.tups u.frzs u.tbls (fun m' hm => by
    obtain ⟨o', gS, FG, gA, r'⟩ := hm
    rw [ho] at gA; cases gA
    exact ⟨_, gS, FG, hL, r'⟩) hok I.bare.self
theorem Inv.call {g' : Array GenState} {t' : Nat} {d' : Drawn} {ch : List Addr} (I : Inv X pins σ H s) (u : Un (dJ X.stack) ch H H' s.heap h') (hok : di X.prog X.w H' h') (hg : Gn s.gens.size g')
    (mE : ∀ b ∈ ch, (b ∈ X.ex ∨ X.s₀.heap.objs.size ≤ b) ∧ b ≠ X.env.locals ∧ (∀ x c, X.env.cells.lookup x = some c → c ≠ b) ∧ ∀ p ∈ X.pn ++ pins, p.1 ≠ b) :
    Inv X pins σ H' { s with heap := h', gens := g', drawn := d', toks := t' } := by
  obtain ⟨m, ⟨o, es, ep, ho, r⟩, _⟩ := id I.loc
  obtain ⟨sl, hL⟩ := u.any ho I.free fun z => (mE _ z).2.1 rfl
  exact I.step (ch := ch) mE (fun b o hL hb hc e n => u.keep b o e n (fun z => (List.mem_cons.mp (I.fu b z)).elim hL hb) hc) (fun b o _ _ hc e n => u.any e n hc) (fun b o hc e n => u.free b o e n hc) (fun b o hc e => u.there b o e hc) u.tups u.frzs u.tbls (fun m' hm => by
    obtain ⟨o', gS, FG, gA, r'⟩ := hm
    rw [ho] at gA; cases gA
    exact ⟨_, gS, FG, hL, r'⟩) hok hg
theorem Inv.turned {t' : Nat} {it : Addr} (I : Inv X pins σ H s) (k : ∀ b o, b ≠ it → s.heap.get? b = some o → h'.get? b = some o) (hn : H it = none) (hL : it ≠ X.env.locals)
    (h1 : it ∈ X.ex ∨ X.s₀.heap.objs.size ≤ it) (h2 : ∀ x c, X.env.cells.lookup x = some c → c ≠ it) (h3 : ∀ p ∈ X.pn ++ pins, p.1 ≠ it) : Inv X pins σ H { s with heap := h', toks := t' } := by
  have xx : ∀ b u, H b = some u → b ≠ it := fun b u e z => by rw [z, hn] at e; cases e
  refine I.step (g' := s.gens) (d' := s.drawn) (ch := [it]) (fun b hb => ?_) (fun b o _ _ hc e _ => k b o (fun z => hc (by simp [z])) e) (fun b o _ _ hc e _ => ⟨o.slots, k b o (fun z => hc (by simp [z])) e⟩) (fun _ _ _ _ n => n)
    (fun b o hc e => ⟨o, k b o (fun z => hc (by simp [z])) e⟩) (fun _ _ e => e) (fun _ _ _ e => e) (fun b ps e => ⟨#[], by rw [e]; simp⟩) (fun m hm => ?_) (fun b u e => ?_) I.bare.self
  · have e : b = it := by simpa using hb
    subst e
    exact ⟨h1, hL, h2, h3⟩
  · obtain ⟨o, es, ep, ho, r⟩ := hm
    exact ⟨o, es, ep, k _ o (Ne.symm hL) ho, r⟩
  · refine (I.hok b u e).bU (fun c v hc q => k c v ?_ q) (fun _ q => q) fun _ _ q => q
    rcases hc with z | z
    · rw [z]; exact xx b u e
    · exact xx c _ z
theorem Inv.tok (I : Inv X pins σ H s) (t : Nat) : Inv X pins σ H { s with toks := t } := I.un (h' := s.heap) (t' := t) Un.refl I.hok
theorem Inv.kept {t' : Nat} (I : Inv X pins σ H s) (k : ∀ b u, s.heap.get? b = some u → h'.get? b = some u) : Inv X pins σ H { s with heap := h', toks := t' } := I.un (Un.kept k) (I.hok.kept k)
theorem Inv.laid {a : Addr} {o : HO} {t' : Nat} (I : Inv X pins σ H s) (k : ∀ b u, s.heap.get? b = some u → h'.get? b = some u) (hp : s.heap.objs.size ≤ a) (new : bw X.prog X.w (upd H a o) h' a o) :
    Inv X pins σ (upd H a o) { s with heap := h', toks := t' } := I.un (Un.laid k hp (I.hok.fresh hp)) (I.hok.laid k hp new)
theorem Inv.write {x e : Addr} {o : HO} {t' : Nat} (I : Inv X pins σ H s) (mu : Cz (H x)) (he : e = x ∨ H e = some (.own x)) (k : ∀ b u, b ≠ e → s.heap.get? b = some u → h'.get? b = some u) (uN : ∃ u, h'.get? e = some u)
    (new : bw X.prog X.w (upd H x o) h' x o) : Inv X pins σ (upd H x o) { s with heap := h', toks := t' } := I.un (Un.write mu he k uN) (I.hok.write mu he k uN new)
theorem Inv.oQ {pins' : List (Addr × Obj)} (I : Inv X pins σ H s) (h : ∀ p ∈ pins', s.heap.get? p.1 = some p.2 ∧ H p.1 = none ∧ p.1 ≠ X.env.locals ∧ p.1 ∉ X.fs ∧ ∀ v, p.2.data ≠ .cell v) : Inv X pins' σ H s :=
  ⟨I.ok, I.os, I.bare, I.base, I.loc, I.cell, I.free, I.freeC, fun p hp => (List.mem_append.mp hp).elim (fun z => I.pin p (List.mem_append_left _ z)) (h p), I.hok, I.len⟩
theorem rH {N : List Str} (hN : N.Nodup) {i j : Nat} {x : Str} (a : N[i]? = some x) (b : N[j]? = some x) : i = j := by
  obtain ⟨h1, e1⟩ := List.getElem?_eq_some_iff.mp a
  obtain ⟨h2, e2⟩ := List.getElem?_eq_some_iff.mp b
  exact (List.getElem_inj hN).mp (e1.trans e2.symm)
theorem store_ok2 {M : Model} {A : Around} {E : Value → Shared → Prop} {i : Nat} {x : Str} {v : V} {u : Value} {Q : Unit → Shared → Prop} (I : Inv X pins σ H s) (hN : X.N.Nodup) (hi : X.N[i]? = some x) (hx : Loc X.env.scope x) (r : RelV v u)
    (h : ∀ s', Inv X pins (σ.set i (some v)) H s' → (∃ a, Heap.SameBut a s.heap s'.heap ∧ (a = X.env.locals ∨ X.env.cells.lookup x = some a)) → Q () s') (hf : X.fn x = true ∨ X.env.scope.names.lookup x = some .local := by first | exact .inl rfl | exact .inr rfl | assumption) : wpAny M A (storeName X.env x u) Q E s := by
  obtain ⟨m, hn, hl⟩ := id I.loc
  have MC : (X.env.scope.kind == .class || (X.env.scope.kind == .module && X.env.locals != X.env.globals)) = false := by rw [I.ok.kind]; rfl
  have FH : i < σ.length := by rw [I.len]; exact (List.getElem?_eq_some_iff.mp hi).1
  have nF := I.nF
  have tracked : ∀ {a : Addr} {h' : Heap}, (∃ o, s.heap.get? a = some o ∧ H a = none) → Heap.SameBut a s.heap h' → di X.prog X.w H h' := fun {a h'} ha hs b ob e => by
    obtain ⟨_, _, me⟩ := ha
    refine (I.hok b ob e).bU (fun c w' hc q => (hs.2 c ?_).trans q) (fun _ q => q) fun _ _ q => q
    rintro rfl
    rcases hc with rfl | hc
    · rw [me] at e; cases e
    · rw [me] at hc; cases hc
  rcases hx with hk | hk
  · refine wpAny_storeName_local hk hn (fun h' rJ hs => ?_) MC
    obtain ⟨oL, _, _, xA, _⟩ := id hn
    refine h _ ⟨I.ok, I.os, I.bare, ⟨fun b o e n hb hx => ?_, fun b o e n hb hx => ?_, I.base.free, fun b o e hx => ?_, I.base.tups, I.base.frzs, I.base.tbls⟩, ⟨_, rJ, fun j y v' e1 e2 e3 => ?_⟩, fun y c e => ?_, I.free, I.freeC, fun p hp => ?_, tracked ⟨oL, xA, I.free⟩ hs, by simpa using I.len⟩ ⟨_, hs, .inl rfl⟩
    · exact (hs.2 b (Nat.ne_of_lt (Nat.lt_of_lt_of_le (Heap.lt_size e) I.ok.above))).trans (I.base.keep b o e n hb hx)
    · obtain ⟨sl, e1⟩ := I.base.slot b o e n hb hx
      exact ⟨sl, (hs.2 b (Nat.ne_of_lt (Nat.lt_of_lt_of_le (Heap.lt_size e) I.ok.above))).trans e1⟩
    · obtain ⟨o', e1⟩ := I.base.there b o e hx
      exact ⟨o', (hs.2 b (Nat.ne_of_lt (Nat.lt_of_lt_of_le (Heap.lt_size e) I.ok.above))).trans e1⟩
    · by_cases hj : j = i
      · subst hj
        rw [hi] at e1; cases e1
        rw [List.getElem?_set_self FH] at e2
        cases e2
        exact ⟨u, r, .inl ⟨hk, by simp⟩⟩
      · rw [List.getElem?_set_ne (Ne.symm hj)] at e2
        obtain ⟨u', r', q⟩ := hl j y v' e1 e2 e3
        refine ⟨u', r', ?_⟩
        rcases q with ⟨k, e⟩ | ⟨k, c, e, z⟩
        · refine .inl ⟨k, ?_⟩
          have : y ≠ x := fun e => hj (rH hN e1 (e ▸ hi))
          simp [this, e]
        · exact .inr ⟨k, c, e, z.sameBut hs (nF y c e)⟩
    · obtain ⟨w', z⟩ := I.cell y c e
      exact ⟨w', z.sameBut hs (nF y c e)⟩
    · obtain ⟨e, n, ne, nf, d⟩ := I.pin p hp
      exact ⟨(hs.2 p.1 ne).trans e, n, ne, nf, d⟩
  · have nG : X.fn x = true := by
      rcases hf with z | z
      · exact z
      · rw [z] at hk; cases hk
    obtain ⟨c, hc⟩ := I.ok.has x (.inl hk)
    obtain ⟨w', z⟩ := I.cell x c hc
    refine wpAny_storeName_cell I.ok.kind hk hc z (fun h' CC hs => ?_)
    obtain ⟨oc, pO, MD⟩ := id z
    refine h { s with heap := h' } ⟨I.ok, I.os, I.bare, ⟨fun b o e n hb hx => ?_, fun b o e n hb hx => ?_, I.base.free, fun b o e hx => ?_, I.base.tups, I.base.frzs, I.base.tbls⟩, ⟨m, hn.sameBut hs (Ne.symm (nF x c hc)), fun j y v' e1 e2 e3 => ?_⟩, fun y c' e => ?_, I.free, I.freeC, fun p hp => ?_, tracked ⟨oc, pO, I.freeC x c hc⟩ hs, by simpa using I.len⟩ ⟨c, hs, .inr hc⟩
    · exact (hs.2 b (Nat.ne_of_lt (Nat.lt_of_lt_of_le (Heap.lt_size e) (I.ok.cab x c nG hc)))).trans (I.base.keep b o e n hb hx)
    · obtain ⟨sl, e1⟩ := I.base.slot b o e n hb hx
      exact ⟨sl, (hs.2 b (Nat.ne_of_lt (Nat.lt_of_lt_of_le (Heap.lt_size e) (I.ok.cab x c nG hc)))).trans e1⟩
    · obtain ⟨o', e1⟩ := I.base.there b o e hx
      exact ⟨o', (hs.2 b (Nat.ne_of_lt (Nat.lt_of_lt_of_le (Heap.lt_size e) (I.ok.cab x c nG hc)))).trans e1⟩
    · by_cases hj : j = i
      · subst hj
        rw [hi] at e1; cases e1
        rw [List.getElem?_set_self FH] at e2
        cases e2
        exact ⟨u, r, .inr ⟨.inl hk, c, hc, CC⟩⟩
      · rw [List.getElem?_set_ne (Ne.symm hj)] at e2
        obtain ⟨u', r', q⟩ := hl j y v' e1 e2 e3
        refine ⟨u', r', ?_⟩
        rcases q with q | ⟨k, c', e, z'⟩
        · exact .inl q
        · refine .inr ⟨k, c', e, z'.sameBut hs ?_⟩
          rintro rfl
          exact hj (rH hN e1 (I.ok.inj _ _ _ e hc ▸ hi))
    · by_cases Lb : c' = c
      · subst Lb; exact ⟨_, CC⟩
      · obtain ⟨w2, z2⟩ := I.cell y c' e
        exact ⟨w2, z2.sameBut hs Lb⟩
    · obtain ⟨e, n, ne, nf, d⟩ := I.pin p hp
      refine ⟨(hs.2 p.1 ?_).trans e, n, ne, nf, d⟩
      intro q
      rw [q, pO] at e
      have q' : oc = p.2 := Option.some.inj e
      exact d w' (by rw [← q']; exact MD)
theorem rK {M : Model} {A : Around} {E : Value → Shared → Prop} {i : Nat} {x : Str} {v : V} {u : Value} {Q : Unit → Shared → Prop} (I : Inv X pins σ H s) (hN : X.N.Nodup) (hi : X.N[i]? = some x) (hx : Loc X.env.scope x) (r : RelV v u)
    (h : ∀ s', Inv X pins (σ.set i (some v)) H s' → Q () s') (hf : X.fn x = true ∨ X.env.scope.names.lookup x = some .local := by first | exact .inl rfl | exact .inr rfl | assumption) : wpAny M A (storeName X.env x u) Q E s :=
  store_ok2 I hN hi hx r (fun s' I' _ => h s' I') hf
theorem Inv.mh {s' : Shared} {ch : List Addr} (I : Inv X pins σ H s) (ho : s'.os = s.os) (u : Un (dJ X.stack) ch H H' s.heap s'.heap) (hok : di X.prog X.w H' s'.heap) (hg : Gn s.gens.size s'.gens)
    (mE : ∀ b ∈ ch, (b ∈ X.ex ∨ X.s₀.heap.objs.size ≤ b) ∧ b ≠ X.env.locals ∧ (∀ x c, X.env.cells.lookup x = some c → c ≠ b) ∧ ∀ p ∈ X.pn ++ pins, p.1 ≠ b) : Inv X pins σ H' s' := by
  obtain ⟨h', g', d', t', o'⟩ := s'
  have e : o' = s.os := ho
  subst e
  exact I.call (g' := g') (t' := t') (d' := d') u hok hg mE
end
noncomputable abbrev XK := Value → Option Addr → Hp → Prop
noncomputable abbrev St := List (Option V)
noncomputable abbrev VK := V → Hp → Prop
noncomputable abbrev TE := St → Hp → VK → Prop
noncomputable abbrev TT := St → Hp → (Bool → Hp → Prop) → Prop
noncomputable abbrev TA := St → Hp → (List V → Hp → Prop) → Prop
structure Ends where
  nx : St → Hp → Prop
  rt : VK
  bk : St → Hp → Prop := fun _ _ => False
  ct : St → Hp → Prop := fun _ _ => False
noncomputable abbrev TS := Ends → St → Hp → Prop
noncomputable def EP (X : Cx) (pins : List (Addr × Obj)) (σ : St) (Q : VK) (u : Value) (s' : Shared) : Prop := ∃ v H', Inv X pins σ H' s' ∧ RelV v u ∧ Q v H'
noncomputable def TP (X : Cx) (pins : List (Addr × Obj)) (σ : St) (Q : Bool → Hp → Prop) (b : Bool) (s' : Shared) : Prop := ∃ H', Inv X pins σ H' s' ∧ Q b H'
noncomputable def AP (X : Cx) (pins : List (Addr × Obj)) (σ : St) (Q : List V → Hp → Prop) (us : List Value) (s' : Shared) : Prop := ∃ vs H', Inv X pins σ H' s' ∧ Vals vs us ∧ Q vs H'
noncomputable def SP (X : Cx) (pins : List (Addr × Obj)) (D : Ends) (f : Flow) (s' : Shared) : Prop :=
  match f with
  | .next => ∃ aA H', Inv X pins aA H' s' ∧ D.nx aA H'
  | .brk => ∃ aA H', Inv X pins aA H' s' ∧ D.bk aA H'
  | .cont => ∃ aA H', Inv X pins aA H' s' ∧ D.ct aA H'
  | .ret u => ∃ v aA H', Inv X pins aA H' s' ∧ RelV v u ∧ D.rt v H'
structure PE (X : Cx) (e : Expr) (t : TE) : Prop where
  run : ∀ (pins : List (Addr × Obj)) (s : Shared) (σ : St) (H : Hp) (Q : VK), Inv X pins σ H s → t σ H Q → wpAny (model X.prog X.w) X.A (eval e X.env) (EP X pins σ Q) X.xe s
instance {X : Cx} {e : Expr} {t : TE} : CoeFun (PE X e t) (fun _ => ∀ (pins : List (Addr × Obj)) (s : Shared) (σ : St) (H : Hp) (Q : VK), Inv X pins σ H s → t σ H Q → wpAny (model X.prog X.w) X.A (eval e X.env) (EP X pins σ Q) X.xe s) := ⟨PE.run⟩
structure PT (X : Cx) (e : Expr) (t : TT) : Prop where
  run : ∀ (pins : List (Addr × Obj)) (s : Shared) (σ : St) (H : Hp) (Q : Bool → Hp → Prop), Inv X pins σ H s → t σ H Q → wpAny (model X.prog X.w) X.A (isTrue e X.env (eval e X.env)) (TP X pins σ Q) X.xe s
instance {X : Cx} {e : Expr} {t : TT} : CoeFun (PT X e t) (fun _ => ∀ (pins : List (Addr × Obj)) (s : Shared) (σ : St) (H : Hp) (Q : Bool → Hp → Prop), Inv X pins σ H s → t σ H Q → wpAny (model X.prog X.w) X.A (isTrue e X.env (eval e X.env)) (TP X pins σ Q) X.xe s) := ⟨PT.run⟩
noncomputable def PW (X : Cx) (e : Expr) (t : TT) : Prop :=
  ∀ (whole : Sem Value) (pins : List (Addr × Obj)) (s : Shared) (σ : St) (H : Hp) (Q : Bool → Hp → Prop), Inv X pins σ H s → t σ H Q → wpAny (model X.prog X.w) X.A (isTrue e X.env whole) (TP X pins σ Q) X.xe s
theorem PW.pt {X : Cx} {e : Expr} {t : TT} (h : PW X e t) : PT X e t := ⟨h _⟩
structure PA (X : Cx) (es : List Expr) (t : TA) : Prop where
  run : ∀ (pos : Pos) (pins : List (Addr × Obj)) (s : Shared) (σ : St) (H : Hp) (Q : List V → Hp → Prop), Inv X pins σ H s → t σ H Q → wpAny (model X.prog X.w) X.A (spliced (backTo pos (starEach es X.env))) (AP X pins σ Q) X.xe s
instance {X : Cx} {es : List Expr} {t : TA} : CoeFun (PA X es t) (fun _ => ∀ (pos : Pos) (pins : List (Addr × Obj)) (s : Shared) (σ : St) (H : Hp) (Q : List V → Hp → Prop), Inv X pins σ H s → t σ H Q → wpAny (model X.prog X.w) X.A (spliced (backTo pos (starEach es X.env))) (AP X pins σ Q) X.xe s) := ⟨PA.run⟩
structure PS (X : Cx) (st : Stmt) (t : TS) : Prop where
  run : ∀ (pins : List (Addr × Obj)) (s : Shared) (σ : St) (H : Hp) (D : Ends), Inv X pins σ H s → t D σ H → wpAny (model X.prog X.w) X.A (exec st X.env) (SP X pins D) X.xe s
instance {X : Cx} {st : Stmt} {t : TS} : CoeFun (PS X st t) (fun _ => ∀ (pins : List (Addr × Obj)) (s : Shared) (σ : St) (H : Hp) (D : Ends), Inv X pins σ H s → t D σ H → wpAny (model X.prog X.w) X.A (exec st X.env) (SP X pins D) X.xe s) := ⟨PS.run⟩
structure eJ (X : Cx) (st : List Stmt) (t : TS) : Prop where
  run : ∀ (pins : List (Addr × Obj)) (s : Shared) (σ : St) (H : Hp) (D : Ends), Inv X pins σ H s → t D σ H → wpAny (model X.prog X.w) X.A (execs st X.env) (SP X pins D) X.xe s
instance {X : Cx} {st : List Stmt} {t : TS} : CoeFun (eJ X st t) (fun _ => ∀ (pins : List (Addr × Obj)) (s : Shared) (σ : St) (H : Hp) (D : Ends), Inv X pins σ H s → t D σ H → wpAny (model X.prog X.w) X.A (execs st X.env) (SP X pins D) X.xe s) := ⟨eJ.run⟩
theorem thn {α : Type} {t : Sem α} {Q Q' : α → Shared → Prop} {M : Model} {A : Around} {E : Value → Shared → Prop} {s : Shared} (h : wpAny M A t Q E s) (hQ : ∀ a s, Q a s → Q' a s) : wpAny M A t Q' E s := wpAny_mono h hQ fun _ _ x => x
section
variable {X : Cx}
theorem bin {a b : Expr} {ta tb : TE} (ha : PE X a ta) (hb : PE X b tb) {pins : List (Addr × Obj)} {s : Shared} {σ : St} {H : Hp} {R : V → V → Hp → Prop} (I : Inv X pins σ H s) (h : ta σ H fun x H1 => tb σ H1 fun y H2 => R x y H2)
    {α : Type} {Q : α → Shared → Prop} {f : Value → Value → Sem α}
    (hf : ∀ v u s2 x y H2, Inv X pins σ H2 s2 → RelV x v → RelV y u → R x y H2 → wpAny (model X.prog X.w) X.A (f v u) Q X.xe s2) :
    wpAny (model X.prog X.w) X.A (eval a X.env) (fun v au => wpAny (model X.prog X.w) X.A (eval b X.env) (fun u jE => wpAny (model X.prog X.w) X.A (f v u) Q X.xe jE) X.xe au) X.xe s := by
  refine thn (ha pins s σ H _ I h) fun v s1 ⟨x, H1, I1, r1, q1⟩ => ?_
  refine thn (hb pins s1 σ H1 _ I1 q1) fun u s2 ⟨y, H2, I2, r2, q2⟩ => ?_
  exact hf v u s2 x y H2 I2 r1 r2 q2
noncomputable def ME (i : Nat) : TE := fun σ H Q => ∃ v, σ[i]? = some (some v) ∧ Q v H
noncomputable def tC (v : V) : TE := fun _ H Q => Q v H
theorem xB {i : Nat} {x : Str} {pos : Pos} (hN : X.N[i]? = some x) (hv : nE X.env.scope x) (hd : (x == ("__debug__" : Str)) = false := by decide) (dM : (x == ("__classdict__" : Str)) = false := by decide) : PE X (.Name x pos) (ME i) := by
  refine ⟨?_⟩
  intro pins s σ H Q I h
  obtain ⟨v, e, h⟩ := h
  obtain ⟨m, hn, hl⟩ := I.loc
  obtain ⟨u, r, l⟩ := hl i x v hN e hv
  have fin : EP X pins σ Q u s := ⟨v, H, I, r, h⟩
  rcases l with ⟨hk, hm⟩ | ⟨hk, c, hc, q9⟩
  · exact wpAny_Name (wpAny_loadName_local I.ok.kind hk hn hm fin) hd
  · rcases hk with hk | hk
    · exact wpAny_Name (wpAny_loadName_cell I.ok.kind hk hc q9 fin) hd
    · exact wpAny_Name (wpAny_loadName_free I.ok.kind hk hc q9 fin dM) hd
theorem FI {i j pos} : PE X (.Constant (.int i) j pos) (tC (.int i)) := ⟨fun _ _ _ H _ I h => wpAny_Constant_int ⟨.int i, H, I.tok _, ⟨_, rfl⟩, h⟩⟩
theorem JE {b j pos} : PE X (.Constant (.bool b) j pos) (tC (.bl b)) := ⟨fun _ _ _ H _ I h => Constant_bool ⟨.bl b, H, I, rfl, h⟩⟩
theorem FJ {j pos} : PE X (.Constant .none j pos) (tC .ao) := ⟨fun _ _ _ H _ I h => Constant_none ⟨.ao, H, I, rfl, h⟩⟩
theorem FK {x j pos} : PE X (.Constant (.str x) j pos) (tC (.str x)) := ⟨fun _ _ _ H _ I h => Calls.Constant_str ⟨.str x, H, I.tok _, ⟨_, rfl⟩, h⟩⟩
noncomputable def Gl (X : Cx) (x : Str) : Prop := X.env.kindOf x = some .globalImplicit
theorem iG {E : Value → Shared → Prop} {pins : List (Addr × Obj)} {s : Shared} {σ : St} {H : Hp} {x : Str} {u : Value} {pos : Pos} {Q : Value → Shared → Prop} (I : Inv X pins σ H s) (hg : Gl X x) (hm : X.mg x = some u) (h : Q u s)
    (hd : (x == ("__debug__" : Str)) = false := by decide) : wpAny (model X.prog X.w) X.A (eval (.Name x pos) X.env) Q E s :=
  Calls.Name_function_global I.ok.kind hg (Calls.loadGlobal_global (by rw [I.ok.glob]; exact I.mod.glob.keeps I.bk) hm h) hd
theorem gf {E : Value → Shared → Prop} {pins : List (Addr × Obj)} {s : Shared} {σ : St} {H : Hp} {x : Str} {u : Value} {pos : Pos} {Q : Value → Shared → Prop} (I : Inv X pins σ H s) (hg : Gl X x) (hm : X.mg x = none) (hv : bootBuiltins x = some u) (h : Q u s)
    (hn : x ≠ "__name__" := by decide) (hd : (x == ("__debug__" : Str)) = false := by decide) : wpAny (model X.prog X.w) X.A (eval (.Name x pos) X.env) Q E s := by
  obtain ⟨mb, h1, h2⟩ := I.mod.blt
  exact Calls.Name_function_global I.ok.kind hg (Calls.loadGlobal_builtin (by rw [I.ok.glob]; exact I.mod.glob.keeps I.bk) hm (by rw [I.ok.blt]; exact h1.keeps I.bk) ((h2 x hn).trans hv) h) hd
theorem uO {x : Str} {v : V} {u : Value} {pos : Pos} (hg : Gl X x) (hm : X.mg x = some u) (r : RelV v u) (hd : (x == ("__debug__" : Str)) = false := by decide) : PE X (.Name x pos) (tC v) := ⟨fun _ _ _ H _ I h => iG I hg hm ⟨v, H, I, r, h⟩ hd⟩
theorem DE {x : Str} {v : V} {u : Value} {pos : Pos} (hg : Gl X x) (hm : X.mg x = none) (hv : bootBuiltins x = some u) (r : RelV v u) (hn : x ≠ "__name__" := by decide) (hd : (x == ("__debug__" : Str)) = false := by decide) : PE X (.Name x pos) (tC v) := ⟨fun _ _ _ H _ I h => gf I hg hm hv ⟨v, H, I, r, h⟩ hn hd⟩
variable {a b : Expr} {ta tb : TE} {pos : Pos}
noncomputable def PC (X : Cx) (op : CmpOp) (a b : Expr) (t : TE) : Prop :=
  ∀ (pins : List (Addr × Obj)) (s : Shared) (σ : St) (H : Hp) (Q : VK), Inv X pins σ H s → t σ H Q →
    wpAny (model X.prog X.w) X.A (eval a X.env) (fun v au => wpAny (model X.prog X.w) X.A (eval b X.env) (fun u jE => wpAny (model X.prog X.w) X.A (compareOp op v u) (EP X pins σ Q) X.xe jE) X.xe au) X.xe s
theorem Ao (b : Expr) {op : CmpOp} (h : op ≠ .In) (h2 : op ≠ .NotIn) : behindInMarks op b = false := by
  have e1 : (op == CmpOp.In) = false := by cases op <;> first | rfl | exact absurd rfl h
  have e2 : (op == CmpOp.NotIn) = false := by cases op <;> first | rfl | exact absurd rfl h2
  cases b <;> simp [behindInMarks, e1, e2]
noncomputable def tB (t : TE) : TT := fun σ H Q => t σ H fun x H1 => ∃ c, x = .bl c ∧ Q c H1
theorem Ob {op : CmpOp} {t : TE} (h : PC X op a b t) (h1 : behindInMarks op b = false := by first | exact Ao _ (by decide) (by decide) | rfl) : PT X (.Compare a [op] [b] pos) (tB t) := by
  refine ⟨?_⟩
  intro pins s σ H Q I hw
  refine wpAny_isTrue_Compare1 (thn (h pins s σ H _ I hw) fun v s1 h1 => thn h1 fun u s2 h2 => thn h2 fun c s3 ⟨x, H1, I1, r1, q1⟩ => ?_) h1
  obtain ⟨d, rfl, q⟩ := q1
  cases r1
  exact wpAny_truthy_bool ⟨H1, I1, q⟩
theorem FL {e : Expr} {t : TE} (h : PE X e t) (he : ∀ whole, isTrue e X.env whole = (do let v ← whole; standAt e.pos; holding [v] (truthy v)) := by intro _; rfl) : PT X e (tB t) := by
  refine ⟨?_⟩
  intro pins s σ H Q I hw
  refine isTrue_plain (thn (h pins s σ H _ I hw) fun v s1 ⟨x, H1, I1, r1, q1⟩ => ?_) (he _)
  obtain ⟨d, rfl, q⟩ := q1
  cases r1
  exact wpAny_truthy_bool ⟨H1, I1, q⟩
variable {tA nI : TT} {rest : List Expr}
noncomputable def MF (t u : TT) : TT := fun σ H Q => t σ H fun c H1 => if c = true then u σ H1 Q else Q false H1
noncomputable def Oc (t u : TT) : TT := fun σ H Q => t σ H fun c H1 => if c = true then Q true H1 else u σ H1 Q
noncomputable def MG (t : TT) : TT := fun σ H Q => t σ H fun c H1 => Q (!c) H1
theorem DF (ha : PT X a tA) : PW X (.BoolOp .And [a] pos) tA := by
  intro wh pins s σ H Q I h
  refine isTrue_and (thn (ha pins s σ H Q I h) fun c s1 e => ?_)
  cases c with
  | true => exact isTrue_and_nil e
  | false => exact e
theorem FN (ha : PT X a tA) : PW X (.BoolOp .Or [a] pos) tA := by
  intro wh pins s σ H Q I h
  refine isTrue_or (thn (ha pins s σ H Q I h) fun c s1 e => ?_)
  cases c with
  | false => exact isTrue_or_nil e
  | true => exact e
theorem FO (ha : PT X a tA) (hb : PW X (.BoolOp .And (b :: rest) pos) nI) : PW X (.BoolOp .And (a :: b :: rest) pos) (MF tA nI) := by
  intro wh pins s σ H Q I h
  refine isTrue_and (thn (ha pins s σ H _ I h) fun c s1 ⟨H1, I1, q1⟩ => ?_)
  cases c with
  | true => exact hb wh pins s1 σ H1 Q I1 q1
  | false => exact ⟨H1, I1, q1⟩
theorem JF (ha : PT X a tA) (hb : PW X (.BoolOp .Or (b :: rest) pos) nI) : PW X (.BoolOp .Or (a :: b :: rest) pos) (Oc tA nI) := by
  intro wh pins s σ H Q I h
  refine isTrue_or (thn (ha pins s σ H _ I h) fun c s1 ⟨H1, I1, q1⟩ => ?_)
  cases c with
  | true => exact ⟨H1, I1, q1⟩
  | false => exact hb wh pins s1 σ H1 Q I1 q1
theorem FP (ha : PT X a tA) : PT X (.UnaryOp .Not a pos) (MG tA) := by
  refine ⟨?_⟩
  intro pins s σ H Q I h
  exact isTrue_not (ha pins s σ H (fun c H1 => Q (!c) H1) I h)
noncomputable def JG (ta tb : TE) : TE := fun σ H Q => ta σ H fun x H1 => ∃ c, x = .bl c ∧ if c = true then tb σ H1 Q else Q (.bl false) H1
noncomputable def JH (ta : TE) : TE := fun σ H Q => ta σ H fun x H1 => ∃ c, x = .bl c ∧ Q (.bl (!c)) H1
theorem FQ {op} {t : TE} (h : PE X a t) : PE X (.BoolOp op [a] pos) t := ⟨fun pins s σ H Q I hw => BoolOp_one (h pins s σ H Q I hw)⟩
theorem FR (ha : PE X a ta) (hb : PE X (.BoolOp .And (b :: rest) pos) tb) : PE X (.BoolOp .And (a :: b :: rest) pos) (JG ta tb) := by
  refine ⟨?_⟩
  intro pins s σ H Q I h
  refine BoolOp_and (thn (ha pins s σ H _ I h) fun v s1 ⟨x, H1, I1, r1, q1⟩ => ?_)
  obtain ⟨c, rfl, q1⟩ := q1
  cases r1
  refine wpAny_truthy_bool ?_
  cases c with
  | true => exact hb pins s1 σ H1 Q I1 q1
  | false => exact ⟨.bl false, H1, I1, rfl, q1⟩
theorem FT (ha : PE X a ta) : PE X (.UnaryOp .Not a pos) (JH ta) := by
  refine ⟨?_⟩
  intro pins s σ H Q I h
  refine UnaryOp_ (thn (ha pins s σ H _ I h) fun v s1 ⟨x, H1, I1, r1, q1⟩ => ?_)
  obtain ⟨c, rfl, q1⟩ := q1
  cases r1
  exact not_of (wpAny_truthy_bool ⟨.bl (!c), H1, I1, rfl, q1⟩)
end
noncomputable def bI (K : PySem.W.Frag) (H : Hp) (a : Addr) (xs : List V) : Prop :=
  Rd H a (.lst xs) ∨
    ∃ (o : Obj) (its : Array Value) (n : Nat), K.lookup a = some o ∧ o.cls = .type "list" ∧ o.dict = none ∧ o.data = .seq its n ∧ its.size ≤ sizeLine ∧ Vals xs its.toList
noncomputable def bJ (K : PySem.W.Frag) (H : Hp) (a : Addr) (xs : List V) : Prop :=
  Rd H a (.tup xs) ∨
    ∃ (o : Obj) (its : Array Value) (n : Nat), K.lookup a = some o ∧ o.cls = .type "tuple" ∧ o.data = .seq its n ∧ its.size ≤ sizeLine ∧ Vals xs its.toList
noncomputable def MH : Value → Option V
  | .none => some .ao
  | .bool b => some (.bl b)
  | .int i _ => some (.int i)
  | .str x _ => some (.str x)
  | .bytes b _ => some (.iK b)
  | .float b _ => some (.uM b)
  | .ref a => some (.ref a)
  | .type n => some (.ty n)
  | _ => none
theorem RelV.abs {x : V} {u : Value} (r : RelV x u) : MH u = some x := by
  cases x with
  | ao => cases r; rfl
  | bl _ => cases r; rfl
  | int _ => obtain ⟨t, rfl⟩ := r; rfl
  | str _ => obtain ⟨t, rfl⟩ := r; rfl
  | iK _ => obtain ⟨t, rfl⟩ := r; rfl
  | uM _ => obtain ⟨t, rfl⟩ := r; rfl
  | ref _ => cases r; rfl
  | ty _ => cases r; rfl
theorem RelV.inj {x y : V} {u : Value} (r : RelV x u) (q : RelV y u) : x = y := Option.some.inj (r.abs.symm.trans q.abs)
theorem Vals.inj : ∀ {xs ys : List V} {us : List Value}, Vals xs us → Vals ys us → xs = ys
  | _, _, _, .nil, .nil => rfl
  | _, _, _, .cons r t, .cons r' t' => by rw [r.inj r', Vals.inj t t']
section
variable {X : Cx} {pins : List (Addr × Obj)} {σ : St} {H : Hp} {s : Shared} {a : Addr} {xs ys : List V}
theorem bI.of {K : PySem.W.Frag} (h : H a = some (.lst xs)) : bI K H a xs := .inl (.inl h)
theorem bJ.of {K : PySem.W.Frag} (h : H a = some (.tup xs)) : bJ K H a xs := .inl (.inl h)
theorem Inv.list (I : Inv X pins σ H s) (h : bI X.K H a xs) : ∃ its : List Value, Vals xs its ∧ PlainL s.heap a its.toArray ∧ xs.length ≤ sizeLine := by
  rcases h with h | ⟨o, its, n, hk, hc, hd, hs, hz, r⟩
  · obtain ⟨z, its, n, r, e⟩ := h.ok I.hok
    exact ⟨its, r, ⟨_, n, e, rfl, rfl, rfl⟩, z⟩
  · refine ⟨its.toList, r, ⟨o, n, I.ej a o hk, hc, hd, by simpa using hs⟩, ?_⟩
    have e := r.length
    simp only [Array.length_toList] at e
    omega
theorem Inv.tuple (I : Inv X pins σ H s) (h : bJ X.K H a xs) : ∃ its : List Value, Vals xs its ∧ IsTup s.heap a its.toArray ∧ xs.length ≤ sizeLine := by
  rcases h with h | ⟨o, its, n, hk, hc, hs, hz, r⟩
  · obtain ⟨z, its, r, p⟩ := h.ok I.hok
    exact ⟨its, r, hV.tup p, z⟩
  · refine ⟨its.toList, r, ⟨o, I.ej a o hk, hc, n, by simpa using hs⟩, ?_⟩
    have e := r.length
    simp only [Array.length_toList] at e
    omega
theorem Inv.rL (I : Inv X pins σ H s) (h : bI X.K H a xs) (h' : bI X.K H a ys) : xs = ys := by
  obtain ⟨its, r, ⟨o, n, e, _, _, d⟩, _⟩ := I.list h
  obtain ⟨its', r', ⟨o', n', e', _, _, d'⟩, _⟩ := I.list h'
  rw [e] at e'; cases e'
  rw [d] at d'
  injection d' with d1 _
  have : its = its' := by simpa using congrArg Array.toList d1
  subst this
  exact r.inj r'
theorem Inv.pP (I : Inv X pins σ H s) (h : bJ X.K H a xs) (h' : bJ X.K H a ys) : xs = ys := by
  obtain ⟨its, r, ⟨o, e, _, n, d⟩, _⟩ := I.tuple h
  obtain ⟨its', r', ⟨o', e', _, n', d'⟩, _⟩ := I.tuple h'
  rw [e] at e'; cases e'
  rw [d] at d'
  injection d' with d1 _
  have : its = its' := by simpa using congrArg Array.toList d1
  subst this
  exact r.inj r'
end
noncomputable abbrev Cx.jF (X : Cx) (E : Value → Shared → Prop) : Cx := { X with xe := E }
noncomputable abbrev Cx.rM (X : Cx) : Cx := X.jF fun _ _ => False
theorem Cx.Ok.jF {X : Cx} (ok : X.Ok) (E : Value → Shared → Prop) : (X.jF E).Ok :=
  ⟨ok.mod, ok.kind, ok.glob, ok.blt, ok.above, ok.inj, ok.has, ok.cab, ok.hd, ok.frames, ok.stk, ok.exf, ok.bs, ok.bsz, ok.noex, ok.exfs, ok.funs, ok.frf⟩
theorem Cx.Ok.gT {X : Cx} {E : Value → Shared → Prop} (ok : (X.jF E).Ok) : X.Ok :=
  ⟨ok.mod, ok.kind, ok.glob, ok.blt, ok.above, ok.inj, ok.has, ok.cab, ok.hd, ok.frames, ok.stk, ok.exf, ok.bs, ok.bsz, ok.noex, ok.exfs, ok.funs, ok.frf⟩
section
variable {X : Cx} {pins : List (Addr × Obj)} {σ : St} {H : Hp} {s : Shared} {E : Value → Shared → Prop}
theorem Inv.jF (I : Inv X pins σ H s) (E : Value → Shared → Prop) : Inv (X.jF E) pins σ H s := ⟨I.ok.jF E, I.os, I.bare, I.base, I.loc, I.cell, I.free, I.freeC, I.pin, I.hok, I.len⟩
theorem Inv.gT (I : Inv (X.jF E) pins σ H s) : Inv X pins σ H s := ⟨I.ok.gT, I.os, I.bare, I.base, I.loc, I.cell, I.free, I.freeC, I.pin, I.hok, I.len⟩
theorem SP.gT {D : Ends} {f : Flow} {s' : Shared} (h : SP (X.jF E) pins D f s') : SP X pins D f s' := by
  cases f with
  | next => obtain ⟨aA, H', I, q⟩ := h; exact ⟨aA, H', I.gT, q⟩
  | brk => obtain ⟨aA, H', I, q⟩ := h; exact ⟨aA, H', I.gT, q⟩
  | cont => obtain ⟨aA, H', I, q⟩ := h; exact ⟨aA, H', I.gT, q⟩
  | ret u => obtain ⟨v, aA, H', I, r, q⟩ := h; exact ⟨v, aA, H', I.gT, r, q⟩
theorem eJ.rM {st : List Stmt} {t : TS} (h : eJ X.rM st t) : eJ X st t := ⟨fun pins s σ H D I hw =>
  wpAny_mono (h pins s σ H D (I.jF _) hw) (fun _ _ q => q.gT) fun _ _ z => False.elim z⟩
end
section
variable {X : Cx} {st : Stmt} {rest : List Stmt} {t u : TS} {e : Expr} {te : TE} {pos : Pos}
noncomputable def JI : TS := fun D σ H => D.nx σ H
noncomputable def MI (t u : TS) : TS := fun D σ H => t { D with nx := u D } σ H
theorem DG : eJ X [] JI := ⟨fun _ _ σ H _ I h => wpAny_execs_nil ⟨σ, H, I, h⟩⟩
theorem Ap (h1 : PS X st t) (h2 : eJ X rest u) : eJ X (st :: rest) (MI t u) := by
  refine ⟨?_⟩
  intro pins s σ H D I h
  refine wpAny_execs_cons (thn (h1 pins s σ H { D with nx := u D } I h) fun f s1 q => ?_)
  cases f with
  | next =>
    obtain ⟨aA, H', I', q⟩ := q
    exact h2 pins s1 aA H' D I' q
  | ret v => exact q
  | brk => exact q
  | cont => exact q
theorem DH (h1 : PS X st t) : eJ X [st] t := by
  refine ⟨?_⟩
  intro pins s σ H D I h
  refine wpAny_execs_cons (thn (h1 pins s σ H D I h) fun f s1 q => ?_)
  cases f with
  | next => exact wpAny_execs_nil q
  | ret v => exact q
  | brk => exact q
  | cont => exact q
theorem Inv.quiet {pins : List (Addr × Obj)} {σ : St} {H : Hp} {s : Shared} (I : Inv X pins σ H s) : interactive X.env = false := by simp [interactive, I.ok.kind]
noncomputable def JK (te : TE) : TS := fun D σ H => te σ H fun _ H1 => D.nx σ H1
theorem DI (he : PE X e te) (hs : swapsWith e none pos.line X.env = pure false := by rfl) : PS X (.Expr e pos) (JK te) := by
  refine ⟨?_⟩
  intro pins s σ H D I h
  exact wpAny_Expr_any (thn (he pins s σ H _ I h) fun v s1 ⟨x, H1, I1, r1, q1⟩ => ⟨σ, H1, I1, q1⟩) I.quiet hs
noncomputable def MJ (te : TE) : TS := fun D σ H => te σ H D.rt
theorem FU (he : PE X e te) : PS X (.Return (some e) pos) (MJ te) := by
  refine ⟨?_⟩
  intro pins s σ H D I h
  exact wpAny_Return_some (thn (he pins s σ H _ I h) fun v s1 ⟨x, H1, I1, r1, q1⟩ => ⟨x, σ, H1, I1, r1, q1⟩)
noncomputable def MK (c : TT) (t u : TS) : TS := fun D σ H => c σ H fun b H1 => if b = true then t D σ H1 else u D σ H1
theorem JL {c : Expr} {a b : List Stmt} {tc : TT} (hc : PT X c tc) (ha : eJ X a t) (hb : eJ X b u) : PS X (.If c a b pos) (MK tc t u) := by
  refine ⟨?_⟩
  intro pins s σ H D I h
  refine wpAny_If (thn (hc pins s σ H _ I h) fun d s1 ⟨H1, I1, q1⟩ => ?_)
  cases d with
  | true => exact ha pins s1 σ H1 D I1 q1
  | false => exact hb pins s1 σ H1 D I1 q1
noncomputable def xC : TS := fun _ _ _ => False
theorem Aq : PS X st xC := ⟨fun _ _ _ _ _ _ h => h.elim⟩
theorem xD {xE : List Stmt} : eJ X xE xC := ⟨fun _ _ _ _ _ _ h => h.elim⟩
end
noncomputable abbrev TG := V → St → Hp → (St → Hp → Prop) → Prop
noncomputable abbrev nJ := List V → St → Hp → (St → Hp → Prop) → Prop
noncomputable def PG (X : Cx) (target : Expr) (t : TG) : Prop :=
  ∀ (pins : List (Addr × Obj)) (s : Shared) (σ : St) (H : Hp) (v : V) (u : Value) (Q : St → Hp → Prop), Inv X pins σ H s → RelV v u → t v σ H Q →
    wpAny (model X.prog X.w) X.A (assign target X.env u) (fun _ s' => ∃ aA H', Inv X pins aA H' s' ∧ Q aA H') X.xe s
noncomputable def pQ (X : Cx) (ts : List Expr) (t : nJ) : Prop :=
  ∀ (pins : List (Addr × Obj)) (s : Shared) (σ : St) (H : Hp) (vs : List V) (us : List Value) (Q : St → Hp → Prop), Inv X pins σ H s → Vals vs us → t vs σ H Q →
    wpAny (model X.prog X.w) X.A (assignInOrder ((assignEach ts X.env).map (·.2)) us) (fun _ s' => ∃ aA H', Inv X pins aA H' s' ∧ Q aA H') X.xe s
noncomputable abbrev Ar := V → V → V → Hp → (Hp → Prop) → Prop
noncomputable def FV (X : Cx) (t : Ar) : Prop :=
  ∀ (pins : List (Addr × Obj)) (s : Shared) (σ : St) (H : Hp) (o i v : V) (ov iv u : Value) (Q : Hp → Prop), Inv X pins σ H s → RelV o ov → RelV i iv → RelV v u → t o i v H Q →
    wpAny (model X.prog X.w) X.A (setItem ov iv u) (fun _ s' => ∃ H', Inv X pins σ H' s' ∧ Q H') X.xe s
section
variable {X : Cx} {pos : Pos}
noncomputable def nK (i : Nat) : TG := fun v σ H Q => Q (σ.set i (some v)) H
theorem DJ {i : Nat} {x : Str} (hN : X.N.Nodup) (hi : X.N[i]? = some x) (hx : Loc X.env.scope x) (hf : X.fn x = true ∨ X.env.scope.names.lookup x = some .local := by first | exact .inl rfl | exact .inr rfl | assumption) : PG X (.Name x pos) (nK i) := by
  intro pins s σ H v u Q I r h
  exact wpAny_assign_Name (rK I hN hi hx r (fun s' I' => ⟨_, H, I', h⟩) hf)
noncomputable def ML : nJ := fun vs σ H Q => vs = [] ∧ Q σ H
noncomputable def JM (t : TG) (u : nJ) : nJ := fun vs σ H Q => ∃ v r, vs = v :: r ∧ t v σ H fun aA H' => u r aA H' Q
theorem DK : pQ X [] ML := by
  intro pins s σ H vs us Q I r h
  obtain ⟨e, h⟩ := h
  subst e
  cases r
  exact assignInOrder_nil ⟨σ, H, I, h⟩
theorem As {e : Expr} {es : List Expr} {t : TG} {u : nJ} (h1 : PG X e t) (h2 : pQ X es u)
    (hs : (assignEach (e :: es) X.env).map (·.2) = assign e X.env :: (assignEach es X.env).map (·.2) := by rfl) : pQ X (e :: es) (JM t u) := by
  intro pins s σ H vs us Q I r h
  obtain ⟨v, vr, e1, h⟩ := h
  subst e1
  cases r with
  | cons r rr =>
    rw [hs]
    refine assignInOrder_cons (thn (h1 pins s σ H _ _ _ I r h) fun _ s1 ⟨mF, H1, I1, q1⟩ => ?_)
    exact h2 pins s1 mF H1 _ _ Q I1 rr q1
noncomputable def MM (K : PySem.W.Frag) (n : Nat) (t : nJ) : TG := fun v σ H Q => ∃ a xs, v = .ref a ∧ bJ K H a xs ∧ xs.length = n ∧ t xs σ H Q
theorem FW {es : List Expr} {k : Nat} {t : nJ} {n : Nat} (hc : X.calm = true) (h : pQ X es t)
    (hn : (assignEach es X.env).length = n := by rfl) (ig : (assignEach es X.env).findIdx? (·.1) = none := by rfl) : PG X (.Tuple es k pos) (MM X.K n t) := by
  intro pins s σ H v u Q I r hw
  obtain ⟨a, xs, e1, hq, hl, hw⟩ := hw
  subst e1
  cases r
  obtain ⟨its, rv, ht, hz⟩ := I.tuple hq
  refine assign_Tuple_tuple (I.ok.hd hc) ht (by simp [hn, ← hl, rv.length]) ig fun h' hx => ?_
  have I1 : Inv X pins σ H { s with heap := h' } := I.kept (t' := s.toks) fun b o e => hx b o (Nat.ne_of_lt (Heap.lt_size e)) e
  exact h pins _ σ H xs _ Q I1 (by simpa using rv) hw
noncomputable def MN (to ti : TE) (t : Ar) : TG := fun v σ H Q => to σ H fun o H1 => ti σ H1 fun i H2 => t o i v H2 fun H3 => Q σ H3
theorem FX {o i : Expr} {to ti : TE} {t : Ar} (ho : PE X o to) (hi : PE X i ti) (hs : FV X t)
    (ha : ∀ v, assign (.Subscript o i pos) X.env v = (do
      let ov ← holding [v] (eval o X.env)
      let iv ← holding [v, ov] (eval i X.env)
      standAt pos
      holding [v, ov, iv] (setItem ov iv v)
      release [v, ov, iv] []) := by intro _; rfl) : PG X (.Subscript o i pos) (MN to ti t) := by
  intro pins s σ H v u Q I r h
  rw [ha]
  refine wpAny_bind (wpAny_holding (thn (ho pins s σ H _ I h) fun ov s1 ⟨x, H1, I1, r1, q1⟩ => ?_))
  refine wpAny_bind (wpAny_holding (thn (hi pins s1 σ H1 _ I1 q1) fun iv s2 ⟨y, H2, I2, r2, q2⟩ => ?_))
  refine wpAny_bind (wpAny_standAt (wpAny_bind (wpAny_holding (thn (hs pins s2 σ H2 x y v ov iv u _ I2 r1 r2 r q2) fun _ s3 ⟨H3, I3, q3⟩ => ?_))))
  exact wpAny_release ⟨σ, H3, I3, q3⟩
noncomputable def oR (te : TE) (g : TG) : TS := fun D σ H => te σ H fun x H1 => g x σ H1 D.nx
theorem FY {tg e : Expr} {te : TE} {g : TG} (he : PE X e te) (hg : PG X tg g) (hs : swapsWithSole [tg] e pos.line X.env = pure false := by rfl) (hw : swappedStores [tg] e X.env = pure none := by rfl)
    (h1 : (assignEach [tg] X.env).map (·.2) = [assign tg X.env] := by rfl) : PS X (.Assign [tg] e pos) (oR te g) := by
  refine ⟨?_⟩
  intro pins s σ H D I h
  refine wpAny_Assign_stores (thn (he pins s σ H _ I h) fun v s1 ⟨x, H1, I1, r1, q1⟩ => ?_) hs hw
  rw [h1]
  exact thn (hg pins s1 σ H1 x v _ I1 r1 q1) fun _ s2 q => q
theorem FZ {i : Nat} {x : Str} {e : Expr} {te : TE} {pos' : Pos} (hN : X.N.Nodup) (hi : X.N[i]? = some x) (hx : Loc X.env.scope x) (he : PE X e te) (hs : swapsWith e (some (.Name x pos')) pos.line X.env = pure false := by rfl) (hf : X.fn x = true ∨ X.env.scope.names.lookup x = some .local := by first | exact .inl rfl | exact .inr rfl | assumption) :
    PS X (.Assign [.Name x pos'] e pos) (oR te (nK i)) := by
  refine ⟨?_⟩
  intro pins s σ H D I h
  refine wpAny_Assign_Name (thn (he pins s σ H _ I h) fun v s1 ⟨y, H1, I1, r1, q1⟩ => ?_) hs
  exact rK I1 hN hi hx r1 (fun s2 I2 => ⟨_, H1, I2, q1⟩) hf
end
section
variable {X : Cx} {pos : Pos}
noncomputable def xF (c : TT) (tb : TS) : TS := fun D σ H => ∃ W : Nat → St → Hp → Prop, (∃ m, W m σ H) ∧ ∀ m σ H, W m σ H →
  c σ H fun b H1 => if b = true then ∃ N : St → Hp → Prop, (∀ aA H', N aA H' → ∃ m', m' < m ∧ W m' aA H') ∧ tb { D with nx := N, ct := N, bk := D.nx } σ H1 else D.nx σ H1
theorem Au {c : Expr} {body : List Stmt} {tc : TT} {tb : TS} (hp : PassesOwn (model X.prog X.w) X.A X.env X.xe) (hc : PT X c tc) (hb : eJ X body tb) : PS X (.While c body [] pos) (xF tc tb) := by
  refine ⟨?_⟩
  intro pins s σ H D I h
  obtain ⟨W, ⟨m0, w0⟩, turn⟩ := h
  refine wpAny_While (codeAny_whileLoop (fun n s' => ∃ aA H', Inv X pins aA H' s' ∧ W n aA H') ?_ m0 ⟨σ, H, I, w0⟩)
  rintro n s1 ⟨mF, H1, I1, w1⟩
  refine wpAny_passesOwn hp (thn (hc pins s1 mF H1 _ I1 (turn n mF H1 w1)) fun b s2 ⟨H2, I2, q2⟩ => ?_)
  cases b with
  | true =>
    obtain ⟨N, hN, q2⟩ := q2
    rw [if_pos rfl]
    refine wpAny_passesOwn hp (thn (hb pins s2 mF H2 _ I2 q2) fun f s3 q3 => ?_)
    cases f with
    | next =>
      obtain ⟨kz, H3, I3, n3⟩ := q3
      obtain ⟨m', hm, w3⟩ := hN kz H3 n3
      exact ⟨m', hm, kz, H3, I3, w3⟩
    | cont =>
      obtain ⟨kz, H3, I3, n3⟩ := q3
      obtain ⟨m', hm, w3⟩ := hN kz H3 n3
      exact ⟨m', hm, kz, H3, I3, w3⟩
    | brk => exact q3
    | ret v => exact q3
  | false =>
    rw [if_neg Bool.false_ne_true]
    exact wpAny_execs_nil ⟨mF, H2, I2, q2⟩
end
structure It where
  go : Nat → Hp → Prop
  yld : Nat → Hp → V → Hp → Prop
  stop : Nat → Hp → Prop
noncomputable def dN (X : Cx) (pins : List (Addr × Obj)) (H : Hp) (b : Addr) : Prop :=
  H b = none ∧ b ≠ X.env.locals ∧ b ∉ X.fs ∧ (b ∈ X.ex ∨ X.s₀.heap.objs.size ≤ b) ∧ (∀ x c, X.env.cells.lookup x = some c → c ≠ b) ∧ ∀ p ∈ X.pn ++ pins, p.1 ≠ b
theorem Inv.kR {X : Cx} {pins : List (Addr × Obj)} {σ : St} {H H' : Hp} {s : Shared} {b : Addr} (I : Inv X pins σ H s) (hb : s.heap.objs.size ≤ b) (hn : H' b = none) : dN X pins H' b := by
  refine ⟨hn, Nat.ne_of_gt (Nat.lt_of_lt_of_le I.lt hb), I.FE hb, .inr (Nat.le_trans I.sz hb), fun x c e z => ?_, fun p hp z => ?_⟩
  · obtain ⟨v, q⟩ := I.cell x c e
    exact absurd (Nat.lt_of_lt_of_le q.lt (by rw [z]; exact hb)) (Nat.lt_irrefl _)
  · exact absurd (Nat.lt_of_lt_of_le (Heap.lt_size (I.pin p hp).1) (by rw [z]; exact hb)) (Nat.lt_irrefl _)
structure Turn (P : Program) (w : World) (K : PySem.W.Frag) (tg : Expr) (J : It) (fp : List Addr) (it : Addr) (tn : Nat → Heap → Prop) : Prop where
  mem : it ∈ fp
  obj : ∀ i h, tn i h → ∀ b ∈ fp, ∃ o, h.get? b = some o ∧ ∀ v, o.data ≠ .cell v
  keep : ∀ i h h', tn i h → (∀ b ∈ fp, ∀ o, h.get? b = some o → h'.get? b = some o) → tn i h'
  item : ∀ (X : Cx), X.prog = P → X.w = w → X.K = K → X.calm = true → ∀ (i : Nat) (pins : List (Addr × Obj)) (s : Shared) (σ : St) (H : Hp) (E : Value → Shared → Prop), Inv X pins σ H s → (∀ b ∈ fp, dN X pins H b) → tn i s.heap → J.go i H →
    wpAny (model P w) X.A (pyNext (.ref it)) (fun r s1 => ∃ u, r = some u ∧
      wpAny (model P w) X.A (letOwnedTupleGo tg (.ref it) u) (fun _ s2 => ∃ x H', Inv X pins σ H' s2 ∧ RelV x u ∧ J.yld i H x H' ∧ tn (i + 1) s2.heap ∧ ∀ b ∈ fp, H' b = none) E s1) E s
  done : ∀ (X : Cx), X.prog = P → X.w = w → X.K = K → X.calm = true → ∀ (i : Nat) (pins : List (Addr × Obj)) (s : Shared) (σ : St) (H : Hp) (E : Value → Shared → Prop), Inv X pins σ H s → (∀ b ∈ fp, dN X pins H b) → tn i s.heap → J.stop i H →
    wpAny (model P w) X.A (pyNext (.ref it)) (fun r s1 => r = none ∧ Inv X pins σ H s1) E s
  self : ∀ (A : Around) (i : Nat) (s : Shared) (Q : Value → Shared → Prop) (E : Value → Shared → Prop), tn i s.heap → Q (.ref it) s → wpAny (model P w) A (pyIter (.ref it)) Q E s
noncomputable abbrev TI := St → Hp → (It → Hp → Prop) → Prop
noncomputable def Lc (X : Cx) (pins : List (Addr × Obj)) (σ : St) (tg : Expr) (R : It → Hp → Prop) (uP : Value) (s2 : Shared) : Prop :=
  ∃ (it : Addr) (fp : List Addr) (tn : Nat → Heap → Prop) (J : It) (H' : Hp), uP = .ref it ∧ Inv X pins σ H' s2 ∧ Turn X.prog X.w X.K tg J fp it tn ∧ tn 0 s2.heap ∧ (∀ b ∈ fp, dN X pins H' b) ∧ R J H'
noncomputable def PI (X : Cx) (tg iter : Expr) (wi : TI) : Prop :=
  ∀ (pins : List (Addr × Obj)) (s : Shared) (σ : St) (H : Hp) (R : It → Hp → Prop), Inv X pins σ H s → wi σ H R →
    wpAny (model X.prog X.w) X.A (eval iter X.env) (fun v s1 => wpAny (model X.prog X.w) X.A (pyIter v) (Lc X pins σ tg R) X.xe s1) X.xe s
theorem vF {M : Model} {A : Around} {E : Value → Shared → Prop} {s : Shared} {tg : Expr} {it : Addr} {u : Value} {o : Obj} {n : String} {vs : Array Value} {Q : Unit → Shared → Prop} (ho : s.heap.get? it = some o) (hc : o.cls = .type n) (hd : o.data = .fields vs)
    (hn : ["enumerate", "zip", "dict_itemiterator", "dict_reverseitemiterator", "odict_iterator", "itertools.zip_longest", "itertools.pairwise"].contains n = false) (hQ : Q () s) : wpAny M A (letOwnedTupleGo tg (.ref it) u) Q E s := by
  unfold letOwnedTupleGo
  cases tg <;> first
    | exact wpAny_pure hQ
    | (cases u <;> first
        | exact wpAny_pure hQ
        | (refine wpAny_bind (wpAny_load ho ?_)
           rw [hc, hd]
           show wpAny M A (if (["enumerate", "zip", "dict_itemiterator", "dict_reverseitemiterator", "odict_iterator", "itertools.zip_longest", "itertools.pairwise"].contains n && vs[0]? == some (rawInt _)) = true then _ else _) Q E s
           rw [if_neg (by intro h; rw [hn, Bool.false_and] at h; cases h)]
           exact wpAny_pure hQ))
noncomputable def F0 (K : PySem.W.Frag) (a : Addr) : It :=
  ⟨fun i H => ∃ xs x, bI K H a xs ∧ xs[i]? = some x, fun i H x H' => H' = H ∧ ∀ xs, bI K H a xs → xs[i]? = some x, fun i H => ∃ xs, bI K H a xs ∧ xs.length ≤ i⟩
noncomputable def F1 (K : PySem.W.Frag) (a : Addr) : It :=
  ⟨fun i H => ∃ xs x, bJ K H a xs ∧ xs[i]? = some x, fun i H x H' => H' = H ∧ ∀ xs, bJ K H a xs → xs[i]? = some x, fun i H => ∃ xs, bJ K H a xs ∧ xs.length ≤ i⟩
noncomputable def xG (lo : Int) (n : Nat) : It := ⟨fun i _ => i < n, fun i H x H' => H' = H ∧ x = .int (lo + i), fun i _ => n ≤ i⟩
theorem xH {P : Program} {w : World} {K : PySem.W.Frag} {tg : Expr} (a it : Addr) : Turn P w K tg (F0 K a) [it] it (fun i h => h.IsListIter it a i) where
  mem := by simp
  obj := fun i h st b hb => by
    have e : b = it := by simpa using hb
    subst e
    obtain ⟨o, e, c, d⟩ := st
    exact ⟨o, e, fun v z => by rw [d] at z; cases z⟩
  keep := fun i h h' st k => st.at fun o e => k it (by simp) o e
  item := by
    intro X hP hw hK hc i pins s σ H E I hf st hg
    subst hP hw hK
    obtain ⟨xs, x, hq, hx⟩ := hg
    obtain ⟨its, rv, p, hz⟩ := I.list hq
    obtain ⟨u, hu, ru⟩ := rv.get hx
    obtain ⟨f0, f1, f2, f3, f4, f5⟩ := hf it (by simp)
    refine wpAny_pyNext_list_item st p.isList (x := u) (by simpa using hu) fun h' pR sb => ?_
    have I1 : Inv X pins σ H { s with heap := h' } := I.turned (t' := s.toks) (fun b o hb e => (sb.2 b hb).trans e) f0 f1 f3 f4 f5
    obtain ⟨o, e, c, d⟩ := id pR
    exact ⟨u, rfl, vF (s := { s with heap := h' }) e c d (by decide) ⟨x, H, I1, ru, ⟨rfl, fun ys hy => by rw [I.rL hy hq]; exact hx⟩, pR, fun b hb => (hf b hb).1⟩⟩
  done := by
    intro X hP hw hK hc i pins s σ H E I hf st hg
    subst hP hw hK
    obtain ⟨xs, hq, hx⟩ := hg
    obtain ⟨its, rv, p, hz⟩ := I.list hq
    obtain ⟨f0, f1, f2, f3, f4, f5⟩ := hf it (by simp)
    have hl := rv.length
    exact wpAny_pyNext_list_end (I.ok.hd hc) st p.isList (by simp; omega) fun h' eb => ⟨rfl, I.turned (t' := s.toks) (fun b o hb e => eb b o hb e) f0 f1 f3 f4 f5⟩
  self := fun _ _ _ _ _ st h => wpAny_pyIter_listiter st h
theorem vG {P : Program} {w : World} {K : PySem.W.Frag} {tg : Expr} (a it : Addr) : Turn P w K tg (F1 K a) [it] it (fun i h => h.IsTupleIter it a i) where
  mem := by simp
  obj := fun i h st b hb => by
    have e : b = it := by simpa using hb
    subst e
    obtain ⟨o, e, c, d⟩ := st
    exact ⟨o, e, fun v z => by rw [d] at z; cases z⟩
  keep := fun i h h' st k => st.at fun o e => k it (by simp) o e
  item := by
    intro X hP hw hK hc i pins s σ H E I hf st hg
    subst hP hw hK
    obtain ⟨xs, x, hq, hx⟩ := hg
    obtain ⟨its, rv, p, hz⟩ := I.tuple hq
    obtain ⟨u, hu, ru⟩ := rv.get hx
    obtain ⟨f0, f1, f2, f3, f4, f5⟩ := hf it (by simp)
    refine wpAny_pyNext_tuple_item st (show s.heap.IsTuple a its.toArray from p) (x := u) (by simpa using hu) fun h' pR sb => ?_
    have I1 : Inv X pins σ H { s with heap := h' } := I.turned (t' := s.toks) (fun b o hb e => (sb.2 b hb).trans e) f0 f1 f3 f4 f5
    obtain ⟨o, e, c, d⟩ := id pR
    exact ⟨u, rfl, vF (s := { s with heap := h' }) e c d (by decide) ⟨x, H, I1, ru, ⟨rfl, fun ys hy => by rw [I.pP hy hq]; exact hx⟩, pR, fun b hb => (hf b hb).1⟩⟩
  done := by
    intro X hP hw hK hc i pins s σ H E I hf st hg
    subst hP hw hK
    obtain ⟨xs, hq, hx⟩ := hg
    obtain ⟨its, rv, p, hz⟩ := I.tuple hq
    obtain ⟨f0, f1, f2, f3, f4, f5⟩ := hf it (by simp)
    have hl := rv.length
    exact wpAny_pyNext_tuple_end (I.ok.hd hc) st (show s.heap.IsTuple a its.toArray from p) (by simp; omega) fun h' eb => ⟨rfl, I.turned (t' := s.toks) (fun b o hb e => eb b o hb e) f0 f1 f3 f4 f5⟩
  self := fun _ _ _ _ _ st h => wpAny_pyIter_tupleiter st h
theorem vH {P : Program} {w : World} {K : PySem.W.Frag} {tg : Expr} (it : Addr) (lo : Int) (n : Nat) : Turn P w K tg (xG lo n) [it] it (fun i h => IsRangeIter h it (lo + (i : Nat) * 1) ((n : Int) - (i : Nat)) 1) where
  mem := by simp
  obj := fun i h st b hb => by
    have e : b = it := by simpa using hb
    subst e
    exact ⟨_, st, fun v z => by
      have z' : Data.fields _ = Data.cell v := z
      cases z'⟩
  keep := fun i h h' st k => k it (by simp) _ st
  item := by
    intro X hP hw hK hc i pins s σ H E I hf st hg
    subst hP hw hK
    obtain ⟨f0, f1, f2, f3, f4, f5⟩ := hf it (by simp)
    have W := Walks.range (prog := X.prog) (w := X.w) (I.ok.hd hc) it lo 1 n
    refine W.item i s _ _ hg st fun v h' tk hv pR kk => ?_
    obtain ⟨t, rfl⟩ := hv
    have I1 : Inv X pins σ H { s with heap := h', toks := tk } := I.turned (fun b o hb e => kk b o (by simpa using hb) e) f0 f1 f3 f4 f5
    refine ⟨_, rfl, vF (s := { s with heap := h', toks := tk }) (n := "range_iterator") pR rfl rfl (by decide) ⟨.int (lo + i), H, I1, ⟨t, ?_⟩, ⟨rfl, rfl⟩, pR, fun b hb => (hf b hb).1⟩⟩
    rw [Int.mul_one]
  done := by
    intro X hP hw hK hc i pins s σ H E I hf st hg
    subst hP hw hK
    obtain ⟨f0, f1, f2, f3, f4, f5⟩ := hf it (by simp)
    exact wpAny_pyNext_range_end (I.ok.hd hc) st (by have : n ≤ i := hg; omega) fun h' eb => ⟨rfl, I.turned (t' := s.toks) (fun b o hb e => eb b o hb e) f0 f1 f3 f4 f5⟩
  self := fun _ _ _ _ _ st h => wpAny_pyIter_rangeiter st h
section
variable {X : Cx} {tg : Expr}
noncomputable def CD (K : PySem.W.Frag) (tl : TE) : TI := fun σ H R => tl σ H fun x H1 => ∃ a, x = .ref a ∧ (∃ xs, bI K H1 a xs) ∧ R (F0 K a) H1
noncomputable def F2 (K : PySem.W.Frag) (tl : TE) : TI := fun σ H R => tl σ H fun x H1 => ∃ a, x = .ref a ∧ (∃ xs, bJ K H1 a xs) ∧ R (F1 K a) H1
theorem DL {l : Expr} {tl : TE} (hl : PE X l tl) : PI X tg l (CD X.K tl) := by
  intro pins s σ H R I h
  refine thn (hl pins s σ H _ I h) fun v s1 ⟨x, H1, I1, r1, q1⟩ => ?_
  obtain ⟨a, e, ⟨xs, hq⟩, q⟩ := q1
  subst e
  cases r1
  obtain ⟨its, rv, p, hz⟩ := I1.list hq
  refine wpAny_pyIter_list p.isList ?_
  refine ⟨s1.heap.objs.size, [s1.heap.objs.size], _, _, H1, rfl, I1.kept (t' := s1.toks) fun b o e => Heap.get?_push_of_some _ e, xH a _, ⟨_, Heap.get?_push_size _ rfl, rfl, rfl⟩, fun b hb => ?_, q⟩
  have e : b = s1.heap.objs.size := by simpa using hb
  subst e
  exact I1.kR (Nat.le_refl _) (I1.hok.fresh (Nat.le_refl _))
theorem F3 {l : Expr} {tl : TE} (hl : PE X l tl) : PI X tg l (F2 X.K tl) := by
  intro pins s σ H R I h
  refine thn (hl pins s σ H _ I h) fun v s1 ⟨x, H1, I1, r1, q1⟩ => ?_
  obtain ⟨a, e, ⟨xs, hq⟩, q⟩ := q1
  subst e
  cases r1
  obtain ⟨its, rv, p, hz⟩ := I1.tuple hq
  refine wpAny_pyIter_tuple (show s1.heap.IsTuple a its.toArray from p) ?_
  refine ⟨s1.heap.objs.size, [s1.heap.objs.size], _, _, H1, rfl, I1.kept (t' := s1.toks) fun b o e => Heap.get?_push_of_some _ e, vG a _, ⟨_, Heap.get?_push_size _ rfl, rfl, rfl⟩, fun b hb => ?_, q⟩
  have e : b = s1.heap.objs.size := by simpa using hb
  subst e
  exact I1.kR (Nat.le_refl _) (I1.hok.fresh (Nat.le_refl _))
theorem rN {pins : List (Addr × Obj)} {σ : St} {H : Hp} {s : Shared} {R : It → Hp → Prop} {E : Value → Shared → Prop} {lo hi : Int} {t u v : Tok} {tk : Nat} (I : Inv X pins σ H s) (h1 : -(2 ^ 62) ≤ lo) (h2 : lo < 2 ^ 62) (h3 : -(2 ^ 62) ≤ hi) (h4 : hi < 2 ^ 62)
    (q : R (xG lo (hi - lo).toNat) H) : wpAny (model X.prog X.w) X.A (pyIter (.ref s.heap.objs.size)) (Lc X pins σ tg R) E { s with heap := s.heap.push { cls := .type "range", data := .fields #[.int lo t, .int hi u, .int 1 v] }, toks := tk } := by
  refine wpAny_pyIter_range (IsRange.new ..) (small_one h1 h2 h3 h4) ?_
  have I1 : Inv X pins σ H { s with heap := s.heap.push { cls := .type "range", data := .fields #[.int lo t, .int hi u, .int 1 v] }, toks := tk } := I.kept fun b o e => Heap.get?_push_of_some _ e
  refine ⟨(s.heap.push { cls := .type "range", data := .fields #[.int lo t, .int hi u, .int 1 v] }).objs.size, [(s.heap.push { cls := .type "range", data := .fields #[.int lo t, .int hi u, .int 1 v] }).objs.size], _, _, H, rfl,
    I1.kept (t' := tk) fun b o e => Heap.get?_push_of_some _ e, vH _ lo (hi - lo).toNat, ?_, fun b hb => ?_, q⟩
  · have e1 : lo + ((0 : Nat) : Int) * 1 = lo := by simp
    have e2 : (((hi - lo).toNat : Nat) : Int) - ((0 : Nat) : Int) = Builtin.Range.rangeSize lo hi 1 := by rw [rangeSize_one]; split <;> omega
    show IsRangeIter _ _ (lo + ((0 : Nat) : Int) * 1) ((((hi - lo).toNat : Nat) : Int) - ((0 : Nat) : Int)) 1
    rw [e1, e2]
    exact Heap.get?_push_size _ rfl
  · have e : b = (s.heap.push { cls := .type "range", data := .fields #[.int lo t, .int hi u, .int 1 v] }).objs.size := by simpa using hb
    subst e
    exact I1.kR (Nat.le_refl _) (I1.hok.fresh (Nat.le_refl _))
noncomputable def CF (ta : TA) : TI := fun σ H R => ta σ H fun vs H1 => ∃ j : Int, vs = [.int j] ∧ -(2 ^ 62) ≤ j ∧ j < 2 ^ 62 ∧ R (xG 0 j.toNat) H1
noncomputable def CG (ta : TA) : TI := fun σ H R => ta σ H fun vs H1 => ∃ i j : Int, vs = [.int i, .int j] ∧ (-(2 ^ 62) ≤ i ∧ i < 2 ^ 62 ∧ -(2 ^ 62) ≤ j ∧ j < 2 ^ 62) ∧ R (xG i (j - i).toNat) H1
theorem xI {a : Expr} {ta : TA} {p pos : Pos} (hg : Gl X "range") (hm : X.mg "range" = none) (ha : PA X [a] ta) (hs : starEach [a] X.env = [(false, eval a X.env)] := by rfl) : PI X tg (.Call (.Name "range" p) [a] [] pos) (CF ta) := by
  intro pins s σ H R I h
  refine Call_ (gf I hg hm boot_range (PyProof.Rows.callWith_type1 (thn (ha pos pins s σ H _ I h) fun us s1 ⟨vs, H1, I1, r1, q1⟩ => ?_) hs rfl))
  obtain ⟨j, e, q1, q2, q⟩ := q1
  subst e
  cases r1 with
  | cons r rr =>
    cases rr
    obtain ⟨t, rfl⟩ := r
    exact call_range_1 (rN I1 (by omega) (by omega) q1 q2 (by simpa using q))
theorem xJ {a b : Expr} {ta : TA} {p pos : Pos} (hg : Gl X "range") (hm : X.mg "range" = none) (ha : PA X [a, b] ta) (hs : starEach [a, b] X.env = [(false, eval a X.env), (false, eval b X.env)] := by rfl) (CH : starEach [b] X.env = [(false, eval b X.env)] := by rfl) :
    PI X tg (.Call (.Name "range" p) [a, b] [] pos) (CG ta) := by
  intro pins s σ H R I h
  refine Call_ (gf I hg hm boot_range (PyProof.Rows.callWith_type1 (thn (ha pos pins s σ H _ I h) fun us s1 ⟨vs, H1, I1, r1, q1⟩ => ?_) (by rw [hs, CH]) (by rw [CH]; rfl)))
  obtain ⟨i, j, e, ⟨q1, q2, q3, q4⟩, q⟩ := q1
  subst e
  cases r1 with
  | cons r rr =>
    cases rr with
    | cons r' rr =>
      cases rr
      obtain ⟨t, rfl⟩ := r
      obtain ⟨t', rfl⟩ := r'
      exact call_range_2 (rN I1 q1 q2 q3 q4 q)
noncomputable def F4 (wi : TI) (g : TG) (tb : TS) : TS := fun D σ H => wi σ H fun J H1 => ∃ W : Nat → Nat → St → Hp → Prop, (∃ m, W 0 m σ H1) ∧ ∀ i m σ H, W i m σ H →
  (J.stop i H ∧ D.nx σ H) ∨ (J.go i H ∧ ∃ N : St → Hp → Prop, (∀ aA H', N aA H' → ∃ m', m' < m ∧ W (i + 1) m' aA H') ∧ ∀ x H', J.yld i H x H' → g x σ H' fun gU H2 => tb { D with nx := N, ct := N, bk := D.nx } gU H2)
noncomputable def iM (fp : List Addr) (h : Heap) : List (Addr × Obj) := fp.filterMap fun b => (h.get? b).map fun o => (b, o)
theorem dj {fp : List Addr} {h : Heap} {b : Addr} {o : Obj} (hb : b ∈ fp) (e : h.get? b = some o) : (b, o) ∈ iM fp h := List.mem_filterMap.mpr ⟨b, hb, by rw [e]; rfl⟩
theorem xK {fp : List Addr} {h : Heap} {p : Addr × Obj} (hp : p ∈ iM fp h) : p.1 ∈ fp ∧ h.get? p.1 = some p.2 := by
  obtain ⟨b, hb, e⟩ := List.mem_filterMap.mp hp
  cases q : h.get? b with
  | none => rw [q] at e; cases e
  | some o =>
    rw [q] at e
    have e' : (b, o) = p := Option.some.inj e
    subst e'
    exact ⟨hb, q⟩
theorem Inv.pinned {pins : List (Addr × Obj)} {σ : St} {H : Hp} {s : Shared} {fp : List Addr} (I : Inv X pins σ H s) (hf : ∀ b ∈ fp, dN X pins H b) (ho : ∀ b ∈ fp, ∃ o, s.heap.get? b = some o ∧ ∀ v, o.data ≠ .cell v) : Inv X (pins ++ iM fp s.heap) σ H s :=
  I.oQ fun p hp => (List.mem_append.mp hp).elim (fun z => I.pin p (List.mem_append_right _ z)) fun z => by
    obtain ⟨hb, e⟩ := xK z
    obtain ⟨f0, f1, f2, _⟩ := hf p.1 hb
    obtain ⟨o, e', d⟩ := ho p.1 hb
    rw [e] at e'; cases e'
    exact ⟨e, f0, f1, f2, d⟩
theorem Inv.eR {pins pl : List (Addr × Obj)} {σ : St} {H : Hp} {s : Shared} (I : Inv X (pins ++ pl) σ H s) : Inv X pins σ H s := I.oQ fun p hp => I.pin p (List.mem_append_right _ (List.mem_append_left _ hp))
theorem F5 {iter : Expr} {body : List Stmt} {wi : TI} {g : TG} {tb : TS} {pos : Pos} (hp : PassesOwn (model X.prog X.w) X.A X.env X.xe) (hc : X.calm = true) (hi : PI X tg iter wi) (hg : PG X tg g) (hb : eJ X body tb)
    (hs : ∀ x, foldedSetIterable iter X.env x = pure x := by intro _; rfl) : PS X (.For tg iter body [] pos) (F4 wi g tb) := by
  refine ⟨?_⟩
  intro pins s σ H D I h
  refine wpAny_For (thn (hi pins s σ H _ I h) fun v s1 h1 => thn h1 fun uP s2 h2 => ?_) hs
  obtain ⟨it, fp, tn, J, H2, e, I2, T, nM, f2, W, ⟨m0, w0⟩, turn⟩ := h2
  subst e
  have stat : ∀ {H' : Hp}, (∀ b ∈ fp, H' b = none) → ∀ b ∈ fp, dN X pins H' b := fun hn b hb => ⟨hn b hb, (f2 b hb).2⟩
  refine codeAny_forLoop_any (fun n s' => ∃ i aA H', Inv X pins aA H' s' ∧ tn i s'.heap ∧ (∀ b ∈ fp, H' b = none) ∧ W i n aA H') ?_ m0 ⟨0, σ, H2, I2, nM, fun b hb => (f2 b hb).1, w0⟩
  rintro n s3 ⟨i, kz, H3, I3, kT, pS, w3⟩
  rcases turn i n kz H3 w3 with ⟨stop, qn⟩ | ⟨go, N, hN, step⟩
  · refine wpAny_passesOwn hp (thn (T.done X rfl rfl rfl hc i pins s3 kz H3 X.xe I3 (stat pS) kT stop) fun r s4 ⟨hr, I4⟩ => ?_)
    subst hr
    exact wpAny_execs_nil ⟨kz, H3, I4, qn⟩
  · refine wpAny_passesOwn hp (thn (T.item X rfl rfl rfl hc i pins s3 kz H3 X.xe I3 (stat pS) kT go) fun r s4 ⟨u, hr, h4⟩ => ?_)
    subst hr
    refine wpAny_passesOwn hp (thn h4 fun _ s5 ⟨x, H5, I5, r5, y5, iN, rO⟩ => ?_)
    have rP := I5.pinned (stat rO) (T.obj _ _ iN)
    refine wpAny_passesOwn hp (thn (hg _ s5 kz H5 x u _ rP r5 (step x H5 y5)) fun _ s6 ⟨Od, H6, I6, q6⟩ => ?_)
    refine wpAny_passesOwn hp (thn (hb _ s6 Od H6 _ I6 q6) fun f s7 q7 => ?_)
    have again : ∀ {kU : St} {H7 : Hp}, Inv X (pins ++ iM fp s5.heap) kU H7 s7 → N kU H7 → ∃ m, m < n ∧ ∃ i aA H', Inv X pins aA H' s7 ∧ tn i s7.heap ∧ (∀ b ∈ fp, H' b = none) ∧ W i m aA H' := fun {kU H7} I7 n7 => by
      obtain ⟨m', hm, w7⟩ := hN kU H7 n7
      refine ⟨m', hm, i + 1, kU, H7, I7.eR, T.keep _ _ _ iN fun b hb o e => (I7.pin (b, o) (List.mem_append_right _ (List.mem_append_right _ (dj hb e)))).1, fun b hb => ?_, w7⟩
      obtain ⟨o, e, d⟩ := T.obj _ _ iN b hb
      exact (I7.pin (b, o) (List.mem_append_right _ (List.mem_append_right _ (dj hb e)))).2.1
    cases f with
    | next => obtain ⟨kU, H7, I7, n7⟩ := q7; exact again I7 n7
    | cont => obtain ⟨kU, H7, I7, n7⟩ := q7; exact again I7 n7
    | brk => obtain ⟨kU, H7, I7, q7⟩ := q7; exact ⟨kU, H7, I7.eR, q7⟩
    | ret v => obtain ⟨x7, kU, H7, I7, r7, q7⟩ := q7; exact ⟨x7, kU, H7, I7.eR, r7, q7⟩
end
noncomputable abbrev R2 := V → V → Hp → VK → Prop
noncomputable def OpR (X : Cx) (f : Value → Value → Sem Value) (r : R2) : Prop :=
  ∀ (pins : List (Addr × Obj)) (s : Shared) (σ : St) (H : Hp) (x y : V) (v u : Value) (Q : VK), Inv X pins σ H s → RelV x v → RelV y u → r x y H Q →
    wpAny (model X.prog X.w) X.A (f v u) (EP X pins σ Q) X.xe s
noncomputable def UnR (X : Cx) (f : Value → Sem Value) (r : V → Hp → VK → Prop) : Prop :=
  ∀ (pins : List (Addr × Obj)) (s : Shared) (σ : St) (H : Hp) (x : V) (v : Value) (Q : VK), Inv X pins σ H s → RelV x v → r x H Q →
    wpAny (model X.prog X.w) X.A (f v) (EP X pins σ Q) X.xe s
noncomputable def cL (X : Cx) (f : Value) (r : List V → Hp → VK → Prop) : Prop :=
  ∀ (pins : List (Addr × Obj)) (s : Shared) (σ : St) (H : Hp) (xs : List V) (us : List Value) (Q : VK), Inv X pins σ H s → Vals xs us → r xs H Q →
    wpAny (model X.prog X.w) X.A (call f us) (EP X pins σ Q) X.xe s
noncomputable def MO (X : Cx) (r : V → Hp → (Bool → Hp → Prop) → Prop) : Prop :=
  ∀ (pins : List (Addr × Obj)) (s : Shared) (σ : St) (H : Hp) (x : V) (v : Value) (Q : Bool → Hp → Prop), Inv X pins σ H s → RelV x v → r x H Q →
    wpAny (model X.prog X.w) X.A (truthy v) (TP X pins σ Q) X.xe s
noncomputable def xM (r : R2) (ta tb : TE) : TE := fun σ H Q => ta σ H fun x H1 => tb σ H1 fun y H2 => r x y H2 Q
noncomputable def Oe (r : V → Hp → VK → Prop) (ta : TE) : TE := fun σ H Q => ta σ H fun x H1 => r x H1 Q
noncomputable def rI (C : Int → Int → Prop) (g : Int → Int → V) : R2 := fun x y H Q => ∃ i j, x = .int i ∧ y = .int j ∧ C i j ∧ Q (g i j) H
noncomputable def pT (g : Int → Int → V) : R2 := fun x y H Q => ∃ i j, x = .int i ∧ y = .int j ∧ Q (g i j) H
noncomputable def rU (g : Int → V) : V → Hp → VK → Prop := fun x H Q => ∃ i, x = .int i ∧ Q (g i) H
section
variable {X : Cx} {a b c : Expr} {ta tb tc : TE} {pos : Pos}
theorem Av (ha : PE X a ta) (hb : PE X b tb) {pins : List (Addr × Obj)} {s : Shared} {σ : St} {H : Hp} {R : V → V → Hp → Prop} (I : Inv X pins σ H s)
    (h : ta σ H fun x H1 => tb σ H1 fun y H2 => R x y H2) {Q : Value → Shared → Prop} {f : Value → Value → Sem Value}
    (hf : ∀ v u s2 x y H2, Inv X pins σ H2 s2 → RelV x v → RelV y u → R x y H2 → wpAny (model X.prog X.w) X.A (f v u) Q X.xe s2) :
    wpAny (model X.prog X.w) X.A (eval a X.env) (fun v au => wpAny (model X.prog X.w) X.A (eval b X.env) (fun u jE => wpAny (model X.prog X.w) X.A (f v u) Q X.xe jE) X.xe au) X.xe s := by
  refine thn (ha pins s σ H _ I h) fun v s1 ⟨x, H1, I1, r1, q1⟩ => ?_
  refine thn (hb pins s1 σ H1 _ I1 q1) fun u s2 ⟨y, H2, I2, r2, q2⟩ => ?_
  exact hf v u s2 x y H2 I2 r1 r2 q2
theorem JN {op : Operator} {r : R2} (ho : OpR X (binaryOp op) r) (ha : PE X a ta) (hb : PE X b tb) : PE X (.BinOp a op b pos) (xM r ta tb) := by
  refine ⟨?_⟩
  intro pins s σ H Q I h
  exact wpAny_BinOp (Av ha hb I h fun v u s2 x y H2 I2 rx ry q => ho pins s2 σ H2 x y v u Q I2 rx ry q)
theorem JO {op : UnaryOp} {r : V → Hp → VK → Prop} (ho : UnR X (unaryOp op) r) (ha : PE X a ta) : PE X (.UnaryOp op a pos) (Oe r ta) := by
  refine ⟨?_⟩
  intro pins s σ H Q I h
  exact UnaryOp_ (thn (ha pins s σ H _ I h) fun v s1 ⟨x, H1, I1, r1, q1⟩ => ho pins s1 σ H1 x v Q I1 r1 q1)
theorem CI {f : Value → Value → Sem Value} {C : Int → Int → Prop} {g : Int → Int → Int}
    (rule : ∀ (i j : Int) (t u : Tok) (s : Shared) (Q : Value → Shared → Prop) (E : Value → Shared → Prop), C i j → Q (.int (g i j) s.toks) { s with toks := s.toks + 1 } → wpAny (model X.prog X.w) X.A (f (.int i t) (.int j u)) Q E s) :
    OpR X f (rI C fun i j => .int (g i j)) := by
  intro pins s σ H x y v u Q I rx ry h
  obtain ⟨i, j, rfl, rfl, hc, q⟩ := h
  obtain ⟨t, rfl⟩ := rx
  obtain ⟨t', rfl⟩ := ry
  exact rule i j t t' s _ _ hc ⟨.int (g i j), H, I.tok _, ⟨_, rfl⟩, q⟩
theorem F6 {f : Value → Value → Sem Value} {g : Int → Int → Int}
    (rule : ∀ (i j : Int) (t u : Tok) (s : Shared) (Q : Value → Shared → Prop) (E : Value → Shared → Prop), Q (.int (g i j) s.toks) { s with toks := s.toks + 1 } → wpAny (model X.prog X.w) X.A (f (.int i t) (.int j u)) Q E s) :
    OpR X f (pT fun i j => .int (g i j)) := by
  intro pins s σ H x y v u Q I rx ry h
  obtain ⟨i, j, rfl, rfl, q⟩ := h
  obtain ⟨t, rfl⟩ := rx
  obtain ⟨t', rfl⟩ := ry
  exact rule i j t t' s _ _ ⟨.int (g i j), H, I.tok _, ⟨_, rfl⟩, q⟩
theorem Aw {f : Value → Value → Sem Value} {g : Int → Int → Bool}
    (rule : ∀ (i j : Int) (t u : Tok) (s : Shared) (Q : Value → Shared → Prop) (E : Value → Shared → Prop), Q (.bool (g i j)) s → wpAny (model X.prog X.w) X.A (f (.int i t) (.int j u)) Q E s) :
    OpR X f (pT fun i j => .bl (g i j)) := by
  intro pins s σ H x y v u Q I rx ry h
  obtain ⟨i, j, rfl, rfl, q⟩ := h
  obtain ⟨t, rfl⟩ := rx
  obtain ⟨t', rfl⟩ := ry
  exact rule i j t t' s _ _ ⟨.bl (g i j), H, I, rfl, q⟩
noncomputable def F7 (i j : Int) : Prop := 0 < j ∧ j < 1073741824
noncomputable def vI (i j : Int) : Prop := 0 ≤ j ∧ j ≤ 1000000 ∧ i.natAbs < 2 ^ 64
noncomputable def vJ (i j : Int) : Prop := (-(2 ^ 64) < i ∧ i < 2 ^ 64) ∨ (-(2 ^ 64) < j ∧ j < 2 ^ 64)
theorem vJ.ok {i j : Int} (h : vJ i j) : IntMulOk i j := by
  rcases h with ⟨h1, h2⟩ | ⟨h1, h2⟩
  · exact .of_left (intBits_le_64 h1 h2)
  · exact .of_right (intBits_le_64 h1 h2)
theorem F8 : OpR X (binaryOp .Add) (pT fun i j => .int (i + j)) := F6 fun _ _ _ _ _ _ _ q => add_int q
theorem F9 : OpR X (binaryOp .Sub) (pT fun i j => .int (i - j)) := F6 fun _ _ _ _ _ _ _ q => sub_int q
theorem Ga : OpR X (binaryOp .Mult) (rI vJ fun i j => .int (i * j)) := CI fun _ _ _ _ _ _ _ hc q => mul_int q hc.ok
theorem DM : OpR X (binaryOp .FloorDiv) (rI F7 fun i j => .int (i / j)) := CI fun i j _ _ _ _ _ hc q => by
  have h1 : (0 : Int) < j := hc.1
  have h2 : j < 1073741824 := hc.2
  exact floordiv_int (by omega) (by rw [Int.fdiv_eq_ediv_of_nonneg i (by omega)]; exact q) (.inl (PyProof.noPylong_small (by omega)))
theorem Gb : OpR X (binaryOp .Mod) (rI (fun _ j => 0 < j) fun i j => .int (i % j)) := CI fun i j _ _ _ _ _ hc q => by
  have h1 : (0 : Int) < j := hc
  exact mod_int' (by omega) (by rw [Int.fmod_eq_emod_of_nonneg i (by omega)]; exact q)
theorem Gd : OpR X (binaryOp .Pow) (rI vI fun i j => .int (i ^ j.toNat)) := CI fun _ _ _ _ _ _ _ hc q => pow_int_small hc.1 hc.2.1 hc.2.2 q
theorem Of {f : Value → Sem Value} {g : Int → Int}
    (rule : ∀ (i : Int) (t : Tok) (s : Shared) (Q : Value → Shared → Prop) (E : Value → Shared → Prop), Q (.int (g i) s.toks) { s with toks := s.toks + 1 } → wpAny (model X.prog X.w) X.A (f (.int i t)) Q E s) :
    UnR X f (rU fun i => .int (g i)) := by
  intro pins s σ H x v Q I rx h
  obtain ⟨i, rfl, q⟩ := h
  obtain ⟨t, rfl⟩ := rx
  exact rule i t s _ _ ⟨.int (g i), H, I.tok _, ⟨_, rfl⟩, q⟩
theorem Ge : UnR X (unaryOp .USub) (rU fun i => .int (-i)) := Of fun _ _ _ _ _ q => neg_int q
end
noncomputable def Ax : V → V → Bool
  | .ao, .ao => true | .ao, .int _ => true | .int _, .ao => true | .ao, .bl _ => true | .bl _, .ao => true | .ao, .str _ => true | .str _, .ao => true
  | .int _, .int _ => true | .bl _, .bl _ => true | .str _, .str _ => true | .iK _, .iK _ => true
  | .int _, .str _ => true | .str _, .int _ => true | .bl _, .str _ => true | .str _, .bl _ => true
  | _, _ => false
noncomputable def Og : R2 := fun x y H Q => Ax x y = true ∧ Q (.bl (decide (x = y))) H
noncomputable def Oh : R2 := fun x y H Q => Ax x y = true ∧ Q (.bl (!decide (x = y))) H
theorem uQ {i j : Int} : decide (V.int i = V.int j) = (i == j) := by
  rw [Bool.eq_iff_iff]
  simp
theorem xN {i j : Bool} : decide (V.bl i = V.bl j) = (i == j) := by
  rw [Bool.eq_iff_iff]
  simp
theorem uR {i j : Str} : decide (V.str i = V.str j) = (i == j) := by
  rw [Bool.eq_iff_iff]
  simp
theorem uS {i j : Array UInt8} : decide (V.iK i = V.iK j) = (i.toList == j.toList) := by
  rw [Bool.eq_iff_iff]
  cases i
  cases j
  simp
section
variable {X : Cx} {a b c : Expr} {ta tb tc : TE} {pos : Pos}
theorem aZ {pins : List (Addr × Obj)} {σ : St} {H : Hp} {s : Shared} {Q : VK} {k k' : Bool} (I : Inv X pins σ H s) (q : Q (.bl k) H) (e : k = k') : EP X pins σ Q (.bool k') s := by
  subst e
  exact ⟨.bl k, H, I, rfl, q⟩
theorem JP : OpR X (compareOp .Eq) Og := by
  intro pins s σ H x y v u Q I rx ry h
  obtain ⟨hs, q⟩ := h
  cases x with
  | ao =>
    cases rx
    cases y with
    | ao => cases ry; exact PySem.EqNone.eq_none_none (aZ I q (by simp))
    | bl j => cases ry; exact PySem.EqNone.eq_none_bool (aZ I q (by simp))
    | int j => obtain ⟨t', rfl⟩ := ry; exact PySem.EqNone.eq_none_int (aZ I q (by simp))
    | str j => obtain ⟨t', rfl⟩ := ry; exact PySem.EqNone.eq_none_str (aZ I q (by simp))
    | _ => exact absurd (show false = true from hs) Bool.false_ne_true
  | bl i =>
    cases rx
    cases y with
    | ao => cases ry; exact PySem.EqNone.eq_bool_none (aZ I q (by simp))
    | bl j => cases ry; exact eq_bool (aZ I q xN)
    | str j => obtain ⟨t', rfl⟩ := ry; exact PySem.EqMixed.eq_bool_str (aZ I q (by simp))
    | _ => exact absurd (show false = true from hs) Bool.false_ne_true
  | int i =>
    obtain ⟨t, rfl⟩ := rx
    cases y with
    | ao => cases ry; exact PySem.EqNone.eq_int_none (aZ I q (by simp))
    | int j => obtain ⟨t', rfl⟩ := ry; exact eq_int (aZ I q uQ)
    | str j => obtain ⟨t', rfl⟩ := ry; exact PySem.EqMixed.eq_int_str (aZ I q (by simp))
    | _ => exact absurd (show false = true from hs) Bool.false_ne_true
  | str i =>
    obtain ⟨t, rfl⟩ := rx
    cases y with
    | ao => cases ry; exact PySem.EqNone.eq_str_none (aZ I q (by simp))
    | bl j => cases ry; exact PySem.EqMixed.eq_str_bool (aZ I q (by simp))
    | int j => obtain ⟨t', rfl⟩ := ry; exact PySem.EqMixed.eq_str_int (aZ I q (by simp))
    | str j => obtain ⟨t', rfl⟩ := ry; exact eq_str (aZ I q uR)
    | _ => exact absurd (show false = true from hs) Bool.false_ne_true
  | iK i =>
    obtain ⟨t, rfl⟩ := rx
    cases y with
    | iK j => obtain ⟨t', rfl⟩ := ry; exact PySem.W.eq_bytes (aZ I q uS)
    | _ => exact absurd (show false = true from hs) Bool.false_ne_true
  | _ => cases y <;> exact absurd (show false = true from hs) Bool.false_ne_true
theorem JQ : OpR X (compareOp .NotEq) Oh := by
  intro pins s σ H x y v u Q I rx ry h
  obtain ⟨hs, q⟩ := h
  cases x with
  | ao =>
    cases rx
    cases y with
    | ao => cases ry; exact PySem.EqNone.ne_none_none (aZ I q (by simp))
    | bl j => cases ry; exact PySem.EqNone.ne_none_bool (aZ I q (by simp))
    | int j => obtain ⟨t', rfl⟩ := ry; exact PySem.EqNone.ne_none_int (aZ I q (by simp))
    | str j => obtain ⟨t', rfl⟩ := ry; exact PySem.EqNone.ne_none_str (aZ I q (by simp))
    | _ => exact absurd (show false = true from hs) Bool.false_ne_true
  | bl i =>
    cases rx
    cases y with
    | ao => cases ry; exact PySem.EqNone.ne_bool_none (aZ I q (by simp))
    | bl j => cases ry; exact ne_bool (aZ I q (congrArg not xN))
    | str j => obtain ⟨t', rfl⟩ := ry; exact PySem.EqMixed.ne_bool_str (aZ I q (by simp))
    | _ => exact absurd (show false = true from hs) Bool.false_ne_true
  | int i =>
    obtain ⟨t, rfl⟩ := rx
    cases y with
    | ao => cases ry; exact PySem.EqNone.ne_int_none (aZ I q (by simp))
    | int j => obtain ⟨t', rfl⟩ := ry; exact ne_int (aZ I q (congrArg not uQ))
    | str j => obtain ⟨t', rfl⟩ := ry; exact PySem.EqMixed.ne_int_str (aZ I q (by simp))
    | _ => exact absurd (show false = true from hs) Bool.false_ne_true
  | str i =>
    obtain ⟨t, rfl⟩ := rx
    cases y with
    | ao => cases ry; exact PySem.EqNone.ne_str_none (aZ I q (by simp))
    | bl j => cases ry; exact PySem.EqMixed.ne_str_bool (aZ I q (by simp))
    | int j => obtain ⟨t', rfl⟩ := ry; exact PySem.EqMixed.ne_str_int (aZ I q (by simp))
    | str j => obtain ⟨t', rfl⟩ := ry; exact ne_str (aZ I q (congrArg not uR))
    | _ => exact absurd (show false = true from hs) Bool.false_ne_true
  | iK i =>
    obtain ⟨t, rfl⟩ := rx
    cases y with
    | iK j => obtain ⟨t', rfl⟩ := ry; exact PySem.W.ne_bytes (aZ I q (congrArg not uS))
    | _ => exact absurd (show false = true from hs) Bool.false_ne_true
  | _ => cases y <;> exact absurd (show false = true from hs) Bool.false_ne_true
theorem JR : OpR X (compareOp .Lt) (pT fun i j => .bl (decide (i < j))) := Aw fun _ _ _ _ _ _ _ q => lt_int q
theorem JS : OpR X (compareOp .LtE) (pT fun i j => .bl (decide (i ≤ j))) := Aw fun _ _ _ _ _ _ _ q => le_int q
theorem JT : OpR X (compareOp .Gt) (pT fun i j => .bl (decide (j < i))) := Aw fun _ _ _ _ _ _ _ q => gt_int q
theorem bY (b : Expr) {op : CmpOp} (h : op ≠ .In := by decide) (h2 : op ≠ .NotIn := by decide) : behindInMarks op b = false := by
  have e1 : (op == CmpOp.In) = false := by cases op <;> first | rfl | exact absurd rfl h
  have e2 : (op == CmpOp.NotIn) = false := by cases op <;> first | rfl | exact absurd rfl h2
  cases b <;> simp [behindInMarks, e1, e2]
theorem DN {op : CmpOp} {r : R2} (ho : OpR X (compareOp op) r) (ha : PE X a ta) (hb : PE X b tb) (hm : behindInMarks op b = false) : PE X (.Compare a [op] [b] pos) (xM r ta tb) := by
  refine ⟨?_⟩
  intro pins s σ H Q I h
  exact wpAny_Compare1 (Av ha hb I h fun v u s2 x y H2 I2 rx ry q => ho pins s2 σ H2 x y v u Q I2 rx ry q) hm
noncomputable def vK (t : TE) : TT := fun σ H Q => t σ H fun x H' => ∃ k, x = .bl k ∧ Q k H'
theorem DP {op : CmpOp} {r : R2} (ho : OpR X (compareOp op) r) (ha : PE X a ta) (hb : PE X b tb) (hm : behindInMarks op b = false) : PT X (.Compare a [op] [b] pos) (vK (xM r ta tb)) := by
  refine ⟨?_⟩
  intro pins s σ H Q I h
  refine wpAny_isTrue_Compare1 (thn (ha pins s σ H _ I h) fun v s1 ⟨x, H1, I1, r1, q1⟩ => thn (hb pins s1 σ H1 _ I1 q1) fun u s2 ⟨y, H2, I2, r2, q2⟩ =>
    thn (ho pins s2 σ H2 x y v u _ I2 r1 r2 q2) fun c s3 ⟨z, H3, I3, r3, k, e, q3⟩ => ?_) hm
  subst e
  cases r3
  exact wpAny_truthy_bool ⟨H3, I3, q3⟩
noncomputable def rQ (r r' : R2) (ta tb tc : TE) : TE := fun σ H Q => ta σ H fun x H1 => tb σ H1 fun y H2 => r x y H2 fun z H3 => ∃ k, z = .bl k ∧
  (if k = true then tc σ H3 fun w' H4 => r' y w' H4 Q else Q (.bl false) H3)
theorem Ay {op iO : CmpOp} {r r' : R2} (ho : OpR X (compareOp op) r) (gA : OpR X (compareOp iO) r') (ha : PE X a ta) (hb : PE X b tb) (hc : PE X c tc)
    (hm : lastMarks [op, iO] [b, c] = false := by with_unfolding_all rfl) : PE X (.Compare a [op, iO] [b, c] pos) (rQ r r' ta tb tc) := by
  refine ⟨?_⟩
  intro pins s σ H Q I h
  refine Compare_chain (thn (ha pins s σ H _ I h) fun v s1 ⟨x, H1, I1, r1, q1⟩ => chain_link (thn (hb pins s1 σ H1 _ I1 q1) fun u s2 ⟨y, H2, I2, r2, q2⟩ =>
    thn (ho pins s2 σ H2 x y v u _ I2 r1 r2 q2) fun d s3 ⟨z, H3, I3, r3, k, e, q3⟩ => ?_)) hm
  subst e
  cases r3
  refine wpAny_truthy_bool ?_
  cases k with
  | false => exact ite_ff ⟨.bl false, H3, I3, rfl, q3⟩
  | true => exact ite_tt (chain_last (thn (hc pins s3 σ H3 _ I3 q3) fun w' s4 ⟨z', H4, I4, r4, q4⟩ => gA pins s4 σ H4 y z' u w' Q I4 r2 r4 q4))
theorem Az {op iO : CmpOp} {r r' : R2} (ho : OpR X (compareOp op) r) (gA : OpR X (compareOp iO) r') (ha : PE X a ta) (hb : PE X b tb) (hc : PE X c tc)
    (hm : lastMarks [op, iO] [b, c] = false := by with_unfolding_all rfl) : PT X (.Compare a [op, iO] [b, c] pos) (vK (rQ r r' ta tb tc)) := by
  refine ⟨?_⟩
  intro pins s σ H Q I h
  refine isTrue_chain (thn (ha pins s σ H _ I h) fun v s1 ⟨x, H1, I1, r1, q1⟩ => test_link (thn (hb pins s1 σ H1 _ I1 q1) fun u s2 ⟨y, H2, I2, r2, q2⟩ =>
    thn (ho pins s2 σ H2 x y v u _ I2 r1 r2 q2) fun d s3 ⟨z, H3, I3, r3, k, e, q3⟩ => ?_)) hm
  subst e
  cases r3
  refine wpAny_truthy_bool ?_
  cases k with
  | false =>
    obtain ⟨k', e', q'⟩ := q3
    cases e'
    exact ite_ff ⟨H3, I3, q'⟩
  | true =>
    refine ite_tt (test_last (thn (hc pins s3 σ H3 _ I3 q3) fun w' s4 ⟨z', H4, I4, r4, q4⟩ => thn (gA pins s4 σ H4 y z' u w' _ I4 r2 r4 q4) fun d' s5 ⟨z2, H5, I5, r5, k2, e2, q5⟩ => ?_))
    subst e2
    cases r5
    exact wpAny_truthy_bool ⟨H5, I5, q5⟩
noncomputable def MP (K : PySem.W.Frag) (x : V) (H : Hp) (k : Bool) : Prop :=
  match x with
  | .ao => k = false
  | .bl b => k = b
  | .int i => k = (i != 0)
  | .str y => y.length ≤ sizeLine ∧ k = ((y.length : Int) != 0)
  | .iK y => y.size ≤ sizeLine ∧ k = ((y.size : Int) != 0)
  | .ref p => (∃ xs, bI K H p xs ∧ k = !xs.isEmpty) ∨ (∃ xs, bJ K H p xs ∧ k = !xs.isEmpty) ∨ ∃ bW, H p = some (.dK bW) ∧ k = !bW.isEmpty
  | _ => False
theorem vL {κ : Type} {bW : List (κ × V)} {vs : List (κ × Value)} (r : KV bW vs) : (!vs.isEmpty) = !bW.isEmpty := by
  cases r <;> rfl
theorem nN {xs : List V} {its : List Value} (r : Vals xs its) : (!its.toArray.isEmpty) = !xs.isEmpty := by
  cases r <;> simp
theorem jM : (sizeLine : Nat) < 2 ^ 63 := by rw [sizeLine_eq]; decide
theorem Oi : MO X (fun x H Q => ∃ k, MP X.K x H k ∧ Q k H) := by
  intro pins s σ H x v Q I rx h
  obtain ⟨k, e, q⟩ := h
  have hl := jM
  have hs : sizeLine = 16777216 := sizeLine_eq
  cases x with
  | ao =>
    cases rx
    have e' : k = false := e
    subst e'
    exact truthy_none ⟨H, I, q⟩
  | bl b =>
    cases rx
    have e' : k = b := e
    subst e'
    exact wpAny_truthy_bool ⟨H, I, q⟩
  | int i =>
    obtain ⟨t, rfl⟩ := rx
    have e' : k = (i != 0) := e
    subst e'
    exact PySem.P.truthy_int ⟨H, I, q⟩
  | str y =>
    obtain ⟨t, rfl⟩ := rx
    obtain ⟨hy, e'⟩ : y.length ≤ sizeLine ∧ k = ((y.length : Int) != 0) := e
    subst e'
    exact PySem.P.truthy_str (by omega) ⟨H, I.tok _, q⟩
  | iK y =>
    obtain ⟨t, rfl⟩ := rx
    obtain ⟨hy, e'⟩ : y.size ≤ sizeLine ∧ k = ((y.size : Int) != 0) := e
    subst e'
    exact PySem.W.truthy_bytes (by omega) ⟨H, I.tok _, q⟩
  | ref p =>
    cases rx
    have e' : (∃ xs, bI X.K H p xs ∧ k = !xs.isEmpty) ∨ (∃ xs, bJ X.K H p xs ∧ k = !xs.isEmpty) ∨ ∃ bW, H p = some (.dK bW) ∧ k = !bW.isEmpty := e
    rcases e' with ⟨xs, hx, e'⟩ | ⟨xs, hx, e'⟩ | ⟨bW, hx, e'⟩
    · subst e'
      obtain ⟨its, r, pl, hz⟩ := I.list hx
      have hlen := r.length
      exact wpAny_truthy_list pl.isList (by simp only [List.size_toArray]; omega) ⟨H, I.tok _, by rw [nN r]; exact q⟩
    · subst e'
      obtain ⟨its, r, pl, hz⟩ := I.tuple hx
      have hlen := r.length
      exact truthy_tuple pl (by simp only [List.size_toArray]; omega) ⟨H, I.tok _, by rw [nN r]; exact q⟩
    · subst e'
      obtain ⟨hz, hS, vs, r, m⟩ : bW.length ≤ sizeLine ∧ (p == sysModules) = false ∧ ∃ vs, KV bW vs ∧ s.heap.DictOf (oP X.prog X.w) p vs := I.hok p _ hx
      have hlen : bW.length = vs.length := Paired.length r
      exact wpAny_truthy_dict hS m (by omega) ⟨H, I.tok _, by rw [vL r]; exact q⟩
  | _ => exact (show False from e).elim
theorem vals1 {x : V} {us : List Value} (r : Vals [x] us) : ∃ u, us = [u] ∧ RelV x u := by
  cases r with
  | cons r1 r2 => cases r2; exact ⟨_, rfl, r1⟩
theorem vals2 {x y : V} {us : List Value} (r : Vals [x, y] us) : ∃ u w', us = [u, w'] ∧ RelV x u ∧ RelV y w' := by
  cases r with
  | cons r1 r2 =>
    cases r2 with
    | cons r3 r4 => cases r4; exact ⟨_, _, rfl, r1, r3⟩
theorem AA : cL X (.builtin "abs") (fun xs H Q => ∃ i, xs = [.int i] ∧ Q (.int (if i < 0 then -i else i)) H) := by
  intro pins s σ H xs us Q I r h
  obtain ⟨i, rfl, q⟩ := h
  obtain ⟨u, rfl, t, rfl⟩ := vals1 r
  exact call_abs_int fun u tk => ⟨.int (if i < 0 then -i else i), H, I.tok _, ⟨_, rfl⟩, q⟩
theorem xO (hc : X.calm = true) : cL X (.builtin "max") (fun xs H Q => ∃ i j, xs = [.int i, .int j] ∧ Q (.int (if j > i then j else i)) H) := by
  intro pins s σ H xs us Q I r h
  obtain ⟨i, j, rfl, q⟩ := h
  obtain ⟨u, w', rfl, ⟨t, rfl⟩, ⟨t', rfl⟩⟩ := vals2 r
  refine max_two_ints (I.ok.hd hc) fun h' tk k => ⟨_, H, I.kept k, ?_, q⟩
  by_cases hj : j > i
  · rw [if_pos hj, if_pos hj]; exact ⟨_, rfl⟩
  · rw [if_neg hj, if_neg hj]; exact ⟨_, rfl⟩
theorem xP (hc : X.calm = true) : cL X (.builtin "min") (fun xs H Q => ∃ i j, xs = [.int i, .int j] ∧ Q (.int (if j < i then j else i)) H) := by
  intro pins s σ H xs us Q I r h
  obtain ⟨i, j, rfl, q⟩ := h
  obtain ⟨u, w', rfl, ⟨t, rfl⟩, ⟨t', rfl⟩⟩ := vals2 r
  refine min_two_ints (I.ok.hd hc) fun h' tk k => ⟨_, H, I.kept k, ?_, q⟩
  by_cases hj : j < i
  · rw [if_pos hj, if_pos hj]; exact ⟨_, rfl⟩
  · rw [if_neg hj, if_neg hj]; exact ⟨_, rfl⟩
noncomputable def Gf (K : PySem.W.Frag) (x : V) (H : Hp) (n : Nat) : Prop :=
  match x with
  | .str y => y.length ≤ sizeLine ∧ n = y.length
  | .iK y => y.size ≤ sizeLine ∧ n = y.size
  | .ref p => (∃ xs, bI K H p xs ∧ n = xs.length) ∨ ∃ xs, bJ K H p xs ∧ n = xs.length
  | _ => False
theorem AB : cL X (.builtin "len") (fun xs H Q => ∃ x n, xs = [x] ∧ Gf X.K x H n ∧ Q (.int n) H) := by
  intro pins s σ H xs us Q I r h
  obtain ⟨x, n, rfl, e, q⟩ := h
  obtain ⟨u, rfl, rx⟩ := vals1 r
  have hl := jM
  have hs : sizeLine = 16777216 := sizeLine_eq
  cases x with
  | str y =>
    obtain ⟨t, rfl⟩ := rx
    obtain ⟨hy, e'⟩ : y.length ≤ sizeLine ∧ n = y.length := e
    subst e'
    exact len_str (by omega) ⟨.int _, H, I.tok _, ⟨_, rfl⟩, q⟩
  | iK y =>
    obtain ⟨t, rfl⟩ := rx
    obtain ⟨hy, e'⟩ : y.size ≤ sizeLine ∧ n = y.size := e
    subst e'
    exact PySem.W.len_bytes (by omega) ⟨.int _, H, I.tok _, ⟨_, rfl⟩, q⟩
  | ref p =>
    cases rx
    have e' : (∃ xs, bI X.K H p xs ∧ n = xs.length) ∨ ∃ xs, bJ X.K H p xs ∧ n = xs.length := e
    rcases e' with ⟨xs, hx, e'⟩ | ⟨xs, hx, e'⟩
    · subst e'
      obtain ⟨its, r', pl, hz⟩ := I.list hx
      have hlen := r'.length
      exact Calls.call_len_list pl.isList (by simp only [List.size_toArray]; omega) ⟨.int xs.length, H, I.tok _, ⟨_, by simp only [List.size_toArray]; rw [hlen]⟩, q⟩
    · subst e'
      obtain ⟨its, r', pl, hz⟩ := I.tuple hx
      have hlen := r'.length
      exact len_tuple pl (by simp only [List.size_toArray]; omega) ⟨.int xs.length, H, I.tok _, ⟨_, by simp only [List.size_toArray]; rw [hlen]⟩, q⟩
  | _ => exact (show False from e).elim
end
structure AD (h : Heap) (x dx C : Addr) (mA : Str → Option Value) : Prop where
  obj : h.get? x = some (PySem.W.instObj C dx)
  ns : h.Ns1 dx mA
  ne : dx ≠ x
theorem xQ {h : Heap} {dx : Addr} {mA : Str → Option Value} (n : h.Ns1 dx mA) : ∃ od, h.get? dx = some od ∧ ∀ name, PySem.W.lookIn name od = some (mA name) := by
  obtain ⟨o, es, ep, ho, hd, hk, _, hm⟩ := n
  refine ⟨o, ho, fun name => ?_⟩
  have e := hm name
  unfold nsFind findBy at e
  rw [← Array.find?_toList] at e
  unfold PySem.W.lookIn
  rw [hd]
  dsimp only
  split
  · rename_i y q
    rw [q] at e
    exact congrArg some e
  · rename_i q
    rw [q] at e
    have a : es.toList.any (·.refKey) = false := by
      rw [List.any_eq_false]
      intro y hy
      obtain ⟨z, t, vM⟩ := hk y (Array.mem_toList_iff.mp hy)
      simp [DictEntry.refKey, vM]
    have a' : ¬ es.toList.any (·.refKey) = true := by rw [a]; exact Bool.false_ne_true
    rw [if_neg a']
    exact congrArg some e
theorem AD.look {h : Heap} {x dx C : Addr} {mA : Str → Option Value} (I : AD h x dx C mA) : ∃ od, PySem.W.InstAt h x (PySem.W.instObj C dx) C (some od) ∧ ∀ name, PySem.W.lookIn name od = some (mA name) :=
  let ⟨od, ho, hl⟩ := xQ I.ns
  ⟨od, ⟨I.obj, rfl, rfl, ho⟩, hl⟩
section
variable {P : Program} {w : World} {H H' : Hp} {h h' : Heap} {a C dx : Addr} {fs Oa : List (Str × V)}
theorem DQ (hok : di P w H h) (e : H a = some (.ins C dx fs)) : ∃ mA, AD h a dx C mA ∧ (∀ f, Am (fs.lookup f) (mA f)) ∧ PySem.Within mA (fs.map (·.1)) ∧ fs.length ≤ 1000 ∧ H dx = some (.own a) := by
  obtain ⟨d, z, ne, ob, mA, n, r, q⟩ := (show bw P w H h a (.ins C dx fs) from hok a _ e)
  exact ⟨mA, ⟨ob, n, ne⟩, r, q, z, d⟩
end
structure Gg (K : PySem.W.Frag) (C : Addr) : Prop where
  pg : PySem.W.plainGet K C Str.empty = true
  hd : PySem.W.hasDictIn K C = true
  po : PySem.W.plainOver K C = true
  sa : PySem.W.findIn K (.ref C) "__setattr__" = some (some (.builtin "object.__setattr__"))
theorem Gg.get {K : PySem.W.Frag} {C : Addr} (c : Gg K C) (f : Str) : PySem.W.plainGet K C f = true := c.pg
section
variable {X : Cx} {pins : List (Addr × Obj)} {σ : St} {H : Hp} {s : Shared} {A : Around} {E : Value → Shared → Prop} {Q : Value → Shared → Prop} {c : Value} {b : Bool}
inductive fH (K : PySem.W.Frag) (H : Hp) : V → Value → Prop where
  | ao : fH K H .ao (.type "NoneType")
  | bl (x : Bool) : fH K H (.bl x) (.type "bool")
  | int (i : Int) : fH K H (.int i) (.type "int")
  | str (x : Str) : fH K H (.str x) (.type "str")
  | uM (x : UInt64) : fH K H (.uM x) (.type "float")
  | lst {a : Addr} {xs : List V} (e : H a = some (.lst xs)) : fH K H (.ref a) (.type "list")
  | cU {a : Addr} {o : Obj} {xs : List V} (e : H a = some (.cU o (.lst xs))) : fH K H (.ref a) (.type "list")
  | tup {a : Addr} {xs : List V} (e : H a = some (.tup xs)) : fH K H (.ref a) (.type "tuple")
  | dK {a : Addr} {bW : List (Key × V)} (e : H a = some (.dK bW)) : fH K H (.ref a) (.type "dict")
  | dT {a : Addr} {bW : List (List Key × V)} (e : H a = some (.dT bW)) : fH K H (.ref a) (.type "dict")
  | ins {a C dx : Addr} {fs : List (Str × V)} (e : H a = some (.ins C dx fs)) (cl : Gg K C) (ha : PySem.W.findIn K (.ref C) "__class__" = some (some (.builtin "object.__class__")))
      (hn : PySem.W.specialIn K (.builtin "object.__class__") "__get__" = some (some (.builtin "getset_descriptor.__get__"))) (Ld : PySem.W.takesIn K (.builtin "object.__class__") = some true)
      (hm : PySem.W.mroIn K C (.type "object") = some true) : fH K H (.ref a) (.ref C)
theorem xR {x : V} {u t : Value} (I : Inv X pins σ H s) (rx : RelV x u) (ty : fH X.K H x t) (e : PySem.W.kitOne X.K t c = some b) (h : ∀ tk, Q (.bool b) { s with toks := tk }) :
    wpAny (model X.prog X.w) A (call (.builtin "isinstance") [u, c]) Q E s := by
  cases ty with
  | ao => cases (show u = Value.none from rx); exact PySem.W.kia_one PySem.W.kitx_none I.ej True.intro e (fun z => nomatch z) h
  | bl y => cases (show u = Value.bool y from rx); exact PySem.W.kia_one PySem.W.kitx_bool I.ej True.intro e (fun z => nomatch z) h
  | int i => obtain ⟨t, q⟩ := (show ∃ t, u = Value.int i t from rx); cases q; exact PySem.W.kia_one PySem.W.kitx_int I.ej True.intro e (fun z => nomatch z) h
  | str y => obtain ⟨t, q⟩ := (show ∃ t, u = Value.str y t from rx); cases q; exact PySem.W.kia_one PySem.W.kitx_str I.ej True.intro e (fun z => nomatch z) h
  | uM y => obtain ⟨t, q⟩ := (show ∃ t, u = Value.float y t from rx); cases q; exact PySem.W.kia_one PySem.W.kitx_float I.ej True.intro e (fun z => nomatch z) h
  | @lst a xs ea =>
    cases (show u = Value.ref a from rx)
    obtain ⟨_, _, n, _, h1⟩ := (show bw X.prog X.w H s.heap a (.lst xs) from I.hok a _ ea)
    exact PySem.W.kia_one PySem.W.kitx_list I.ej ⟨_, h1, rfl⟩ e (fun z => nomatch z) h
  | @cU a ob xs ea =>
    cases (show u = Value.ref a from rx)
    obtain ⟨_, _, _, n, _, h1⟩ := (show bw X.prog X.w H s.heap a (.cU ob (.lst xs)) from I.hok a _ ea)
    exact PySem.W.kia_one PySem.W.kitx_list I.ej ⟨_, h1, rfl⟩ e (fun z => nomatch z) h
  | @tup a xs ea =>
    cases (show u = Value.ref a from rx)
    obtain ⟨_, _, _, p⟩ := (show bw X.prog X.w H s.heap a (.tup xs) from I.hok a _ ea)
    obtain ⟨o, h1, h2, _⟩ := p
    exact PySem.W.kia_one PySem.W.kitx_tuple I.ej ⟨o, h1, h2⟩ e (fun z => nomatch z) h
  | @dK a bW ea =>
    cases (show u = Value.ref a from rx)
    obtain ⟨_, _, vs, _, p⟩ := (show bw X.prog X.w H s.heap a (.dK bW) from I.hok a _ ea)
    obtain ⟨o, es, ep, h1, h2, _⟩ := p
    exact PySem.W.kia_one PySem.W.kitx_dict I.ej ⟨o, h1, h2.1⟩ e (fun z => nomatch z) h
  | @dT a bW ea =>
    cases (show u = Value.ref a from rx)
    obtain ⟨_, _, xs, _, o, es, ep, h1, h2, _⟩ := (show bw X.prog X.w H s.heap a (.dT bW) from I.hok a _ ea)
    exact PySem.W.kia_one PySem.W.kitx_dict I.ej ⟨o, h1, h2.1⟩ e (fun z => nomatch z) h
  | @ins a C dx fs ea cl ha hn Ld hm =>
    cases (show u = Value.ref a from rx)
    obtain ⟨mA, O, _⟩ := DQ I.hok ea
    obtain ⟨od, J, _⟩ := O.look
    exact PySem.W.kia_one (PySem.W.kitx_own (cl.get _) cl.hd ha hn Ld hm) I.ej J e (fun z => nomatch z) h
end
structure bC (k : Nat) (A : Around) : Prop where
  hd : A.handled = none
  dp : A.depth + 3 * k + 5 < recursionLimit
  un : A.units + 16 * k + 200 < cLine
theorem bC.mono {j k : Nat} {A : Around} (r : bC k A) (h : j ≤ k) : bC j A := ⟨r.hd, by have := r.dp; omega, by have := r.un; omega⟩
theorem bC.deeper {k : Nat} {A : Around} (r : bC (k + 1) A) (env : Env) : bC k (A.deeper env) :=
  ⟨r.hd, by have := r.dp; show A.depth + 1 + 3 * k + 5 < _; omega, by have := r.un; show A.units + 3 + 16 * k + 200 < _; omega⟩
theorem bC.depth {k : Nat} {A : Around} (r : bC k A) : A.depth < recursionLimit := by have := r.dp; omega
theorem bC.units {k : Nat} {A : Around} (r : bC k A) : A.units + 64 < cLine := by have := r.un; omega
noncomputable def MQ : TA := fun _ H Q => Q [] H
noncomputable def JU (ta : TE) (tr : TA) : TA := fun σ H Q => ta σ H fun x H1 => tr σ H1 fun xs H2 => Q (x :: xs) H2
section
variable {X : Cx} {e : Expr} {es : List Expr} {te : TE} {t : TA} {pos : Pos}
theorem xS : PA X [] MQ := ⟨fun _ _ _ _ H Q I h => Calls.spliced_nil ⟨[], H, I, .nil, h⟩⟩
theorem uT (ha : PE X e te) (hr : PA X es t) (hs : starEach (e :: es) X.env = (false, eval e X.env) :: starEach es X.env := by rfl) : PA X (e :: es) (JU te t) := by
  refine ⟨?_⟩
  intro pos pins s σ H Q I h
  rw [hs]
  show wpAny _ _ (spliced ((false, eval e X.env) :: backTo pos (starEach es X.env))) _ _ s
  refine Calls.spliced_cons (thn (ha pins s σ H _ I h) fun u s1 ⟨x, H1, I1, r1, q1⟩ => ?_)
  exact thn (hr pos pins s1 σ H1 _ I1 q1) fun us s2 ⟨xs, H2, I2, r2, q2⟩ => ⟨x :: xs, H2, I2, .cons r1 r2, q2⟩
noncomputable def MR (t : TA) : TE := fun σ H Q => t σ H fun xs H1 => xs.length ≤ sizeLine ∧ ∀ p, H1 p = none → Q (.ref p) (upd H1 p (.tup xs))
noncomputable def MS (t : TA) : TE := fun σ H Q => t σ H fun xs H1 => xs.length ≤ sizeLine ∧ ∀ p, H1 p = none → Q (.ref p) (upd H1 p (.lst xs))
theorem Gh {x1} (h : PA X es t) : PE X (.Tuple es x1 pos) (MR t) := by
  refine ⟨?_⟩
  intro pins s σ H Q I hq
  refine wpAny_Tuple_spliced (thn (h pos pins s σ H _ I hq) fun us s1 ⟨xs, H1, I1, r, z, q⟩ => ⟨by rw [← r.length]; exact z, ?_⟩)
  have hf : H1 s1.heap.objs.size = none := I1.hok.fresh (Nat.le_refl _)
  refine ⟨.ref s1.heap.objs.size, upd H1 s1.heap.objs.size (.tup xs), I1.laid (t' := s1.toks) (fun b u e => Heap.get?_push_of_some _ e) (Nat.le_refl _) ?_, rfl, q _ hf⟩
  exact ⟨z, us, r, ⟨_, Heap.get?_push_size _ rfl, rfl, _, rfl, rfl⟩⟩
theorem xT (h : PA X es t) : PE X (.List es pos) (MS t) := by
  refine ⟨?_⟩
  intro pins s σ H Q I hq
  refine wpAny_List_spliced (thn (h pos pins s σ H _ I hq) fun us s1 ⟨xs, H1, I1, r, z, q⟩ => ⟨by rw [← r.length]; exact z, ?_⟩)
  have hf : H1 s1.heap.objs.size = none := I1.hok.fresh (Nat.le_refl _)
  refine ⟨.ref s1.heap.objs.size, upd H1 s1.heap.objs.size (.lst xs), I1.laid (t' := s1.toks) (fun b u e => Heap.get?_push_of_some _ e) (Nat.le_refl _) ?_, rfl, q _ hf⟩
  exact ⟨z, us, 0, r, Heap.get?_push_size _ rfl⟩
end
noncomputable abbrev Sp := List V → Hp → VK → XK → Prop
noncomputable abbrev eu := List Env → Hp → Shared → XK → Value → Shared → Prop
structure kW (P : Program) (w : World) (K : PySem.W.Frag) (mg : Str → Option Value) (base : Heap) (A : Around) (outer : List Env) (s : Shared) (H : Hp) : Prop where
  frames : A.frames = some outer
  mod : Mod K mg base
  bs : ∀ b o, base.get? b = some o → s.heap.get? b = some o ∧ H b = none
  bsz : base.objs.size ≤ s.heap.objs.size
  funs : s.heap.FunFrames base outer
  frf : ∀ b ∈ dJ outer, H b = none
  hok : di P w H s.heap
  bare : AllBare s.gens
noncomputable def CE (outer : List Env) (P : Program) (w : World) (H : Hp) (s : Shared) (Q : VK) (u : Value) (s' : Shared) : Prop :=
  ∃ v H', s'.os = s.os ∧ Gn s.gens.size s'.gens ∧ Un (dJ outer) [] H H' s.heap s'.heap ∧ di P w H' s'.heap ∧ RelV v u ∧ Q v H'
noncomputable def CR (CX : eu) (outer : List Env) (P : Program) (w : World) (H : Hp) (s : Shared) (Q : VK) (E : XK) (r : Result) (s' : Shared) : Prop :=
  match r with
  | .ok (.ret u) => CE outer P w H s Q u s'
  | .ok _ => False
  | .error e => CX outer H s E e s'
structure FnOk (P : Program) (w : World) (K : PySem.W.Frag) (mg : Str → Option Value) (base : Heap) (CX : eu) (k : Nat) (f : Addr) (fd : FuncData) (ps : List Str) (sp : Sp) : Prop where
  len : ∀ vs H Q E, sp vs H Q E → vs.length = ps.length
  run : ∀ (A : Around) (outer : List Env) (s : Shared) (H : Hp) (args : Args) (us : List Value) (vs : List V) (Q : VK) (E : XK), bC k A → kW P w K mg base A outer s H → BindsTo s fd args (ps.zip us) → Vals vs us → sp vs H Q E →
    codeAny (model P w) A (.call (.ref f) args) (CR CX outer P w H s Q E) s
theorem FnOk.imp {P : Program} {w : World} {K : PySem.W.Frag} {mg : Str → Option Value} {base : Heap} {CX : eu} {k : Nat} {f : Addr} {fd : FuncData} {ps : List Str} {sp Le : Sp} (F : FnOk P w K mg base CX k f fd ps sp)
    (h : ∀ vs H Q E, Le vs H Q E → sp vs H Q E) : FnOk P w K mg base CX k f fd ps Le :=
  ⟨fun vs H Q E q => F.len vs H Q E (h _ _ _ _ q), fun A outer s H args us vs Q E hr he hb hv hs => F.run A outer s H args us vs Q E hr he hb hv (h _ _ _ _ hs)⟩
section
variable {X : Cx} {pins : List (Addr × Obj)} {σ : St} {H : Hp} {s s' : Shared}
theorem Inv.Gi (I : Inv X pins σ H s) : kW X.prog X.w X.K X.mg X.base X.A X.stack s H :=
  ⟨I.ok.frames, I.ok.mod, I.bs, Nat.le_trans I.ok.bsz I.sz, I.stack, I.jL, I.hok, I.bare.1⟩
theorem Inv.after {Q : VK} {u : Value} (I : Inv X pins σ H s) (h : CE X.stack X.prog X.w H s Q u s') : EP X pins σ Q u s' := by
  obtain ⟨v, H', os, bare, un, hok, r, q⟩ := h
  obtain ⟨hh, g, d, t, CJ⟩ := s'
  obtain rfl : CJ = s.os := os
  exact ⟨v, H', I.call (h' := hh) (g' := g) (d' := d) (t' := t) (ch := []) un hok bare (fun b z => absurd z (by simp)), r, q⟩
end
noncomputable def CK (sp : Sp) (ik : List V) (E : XK) (t : TA) : TE := fun σ H Q => t σ H fun vs H1 => sp (vs ++ ik) H1 Q E
noncomputable def Binds (K : PySem.W.Frag) (fd : FuncData) (ps : List Str) (ds : List Value) : Prop :=
  ∀ (s : Shared) (us : List Value), K.In s.heap → (us ++ ds).length = ps.length → BindsTo s fd ⟨us, []⟩ (ps.zip (us ++ ds))
theorem Binds.all {K : PySem.W.Frag} {fd : FuncData} {ps : List Str} (h : ∀ us : List Value, us.length = ps.length → bindArgs fd ⟨us, []⟩ = pure (ps.zip us)) : Binds K fd ps [] := fun s us _ hl => by
  rw [List.append_nil] at hl ⊢
  exact .of_eq (h us hl)
noncomputable def Passes (CX : eu) (X : Cx) (E : XK) : Prop := ∀ (pins : List (Addr × Obj)) (σ : St) (H : Hp) (s : Shared) (e : Value) (s' : Shared), Inv X pins σ H s → CX X.stack H s E e s' → X.xe e s'
section
variable {X : Cx} {CX : eu} {k : Nat} {f C : Addr} {fd : FuncData} {ps : List Str} {sp : Sp} {ik : List V} {ds : List Value} {E : XK} {x m : Str} {p pos apos : Pos} {e o : Expr} {es : List Expr} {ta : TE} {t : TA}
theorem xU {pins : List (Addr × Obj)} {σ : St} {H : Hp} {s : Shared} {Q : VK} {us : List Value} {vs : List V} (F : FnOk X.prog X.w X.K X.mg X.base CX k f fd ps sp) (hr : bC k X.A) (hb : Binds X.K fd ps ds) (hd : Vals ik ds) (hx : Passes CX X E)
    (I : Inv X pins σ H s) (r : Vals vs us) (h : sp (vs ++ ik) H Q E) : wpAny (model X.prog X.w) X.A (call (.ref f) us) (EP X pins σ Q) X.xe s := by
  have r2 : Vals (vs ++ ik) (us ++ ds) := r.append hd
  have hl : (us ++ ds).length = ps.length := by rw [← r2.length]; exact F.len _ _ _ _ h
  refine wpAny_call (codeAny_mono (F.run X.A X.stack s H ⟨us, []⟩ (us ++ ds) (vs ++ ik) Q E hr I.Gi (hb s us I.ej hl) r2 h) fun r s' hq => ?_)
  cases r with
  | error e => exact hx pins σ H s e s' I hq
  | ok fl =>
    cases fl with
    | ret u => exact I.after hq
    | next => exact False.elim hq
    | brk => exact False.elim hq
    | cont => exact False.elim hq
theorem DR (F : FnOk X.prog X.w X.K X.mg X.base CX k f fd ps sp) (hr : bC k X.A) (hg : Gl X x) (hm : X.mg x = some (.ref f)) (hk : PySem.W.keepIn X.K (.ref f) = true) (hb : Binds X.K fd ps ds) (hd : Vals ik ds) (hx : Passes CX X E)
    (ha : PA X (e :: es) t) (cV : (x == ("__debug__" : Str)) = false := by decide) (he : starEach (e :: es) X.env = (false, eval e X.env) :: starEach es X.env := by rfl) (cy : (backTo pos (starEach es X.env)).any (·.1) = false := by rfl) :
    PE X (.Call (.Name x p) (e :: es) [] pos) (CK sp ik E t) := by
  refine ⟨?_⟩
  intro pins s σ H Q I h
  refine wpAny_Call_Name_kw (iG I hg hm ?_ cV)
  refine PySem.W.callWith_K (h₀ := X.base) I.ok.mod.kin hk (thn (ha pos pins s σ H _ I h) fun us s1 ⟨vs, H1, I1, r, q⟩ => ⟨I1.ej, ?_⟩) he cy
  exact xU F hr hb hd hx I1 r q
end
structure aQ (N P : List Str) (sc : Scope) : Prop where
  kind : sc.kind = .function
  co : sc.isCoroutine = false
  gen : sc.isGenerator = false
  nd : N.Nodup
  pre : N.take P.length = P
  par : ∀ x ∈ P, sc.names.lookup x = some .local ∨ sc.names.lookup x = some .cell
  nofree : ∀ y ∈ sc.names, y.2 ≠ .free
theorem pU {kindOf : Str → Option NameKind} {x : Str} : ∀ {binds : List (Str × Value)} {m : Str → Option Value}, (∀ v, (x, v) ∉ binds) → bindL kindOf binds m x = m x
  | [], _, _ => rfl
  | (n, v) :: r, m, h => by
    unfold bindL
    rw [pU fun w hw => h w (List.mem_cons_of_mem _ hw)]
    split
    · have : x ≠ n := by rintro rfl; exact h v List.mem_cons_self
      simp [this]
    · rfl
theorem pV {kindOf : Str → Option NameKind} {x : Str} : ∀ {binds : List (Str × Value)} {m : Str → Option Value}, (∀ v, (x, v) ∉ binds) → bindC kindOf binds m x = m x
  | [], _, _ => rfl
  | (n, v) :: r, m, h => by
    unfold bindC
    rw [pV fun w hw => h w (List.mem_cons_of_mem _ hw)]
    split
    · rfl
    · have : x ≠ n := by rintro rfl; exact h v List.mem_cons_self
      simp [this]
theorem pW {kindOf : Str → Option NameKind} {x : Str} {v : Value} : ∀ {P : List Str} {vs : List Value} {i : Nat} {m : Str → Option Value}, P.Nodup → P[i]? = some x → vs[i]? = some v → kindOf x = some .local →
    bindL kindOf (P.zip vs) m x = some v
  | [], _, _, _, _, h, _, _ => by simp at h
  | _ :: _, [], _, _, _, _, h, _ => by simp at h
  | p :: P, w :: vs, 0, m, nd, h1, h2, hk => by
    simp at h1 h2; subst h1; subst h2
    show bindL kindOf ((p, w) :: P.zip vs) m p = _
    unfold bindL
    rw [pU fun v hv => (List.nodup_cons.mp nd).1 (List.of_mem_zip hv).1, if_pos hk]
    simp
  | p :: P, w :: vs, i + 1, m, nd, h1, h2, hk => by
    show bindL kindOf ((p, w) :: P.zip vs) m x = _
    unfold bindL
    exact pW (i := i) (List.nodup_cons.mp nd).2 (by simpa using h1) (by simpa using h2) hk
theorem pX {kindOf : Str → Option NameKind} {x : Str} {v : Value} : ∀ {P : List Str} {vs : List Value} {i : Nat} {m : Str → Option Value}, P.Nodup → P[i]? = some x → vs[i]? = some v → kindOf x ≠ some .local →
    bindC kindOf (P.zip vs) m x = some v
  | [], _, _, _, _, h, _, _ => by simp at h
  | _ :: _, [], _, _, _, _, h, _ => by simp at h
  | p :: P, w :: vs, 0, m, nd, h1, h2, hk => by
    simp at h1 h2; subst h1; subst h2
    show bindC kindOf ((p, w) :: P.zip vs) m p = _
    unfold bindC
    rw [pV fun v hv => (List.nodup_cons.mp nd).1 (List.of_mem_zip hv).1, if_neg hk]
    simp
  | p :: P, w :: vs, i + 1, m, nd, h1, h2, hk => by
    show bindC kindOf ((p, w) :: P.zip vs) m x = _
    unfold bindC
    exact pX (i := i) (List.nodup_cons.mp nd).2 (by simpa using h1) (by simpa using h2) hk
noncomputable def start (N : List Str) (vs : List V) : St := vs.map some ++ List.replicate (N.length - vs.length) none
noncomputable def fo (CX : eu) (P : Program) (w : World) (K : PySem.W.Frag) (mg : Str → Option Value) (base : Heap) (N : List Str) (qual : Str) (scope : Scope) (f : Addr) (cd : Value) (A : Around) (outer : List Env) (s : Shared) (H : Hp) (E : XK) : Cx where
  prog := P
  w := w
  K := K
  mg := mg
  base := base
  A := A.deeper (envOfC qual scope s.heap.objs.size f cd)
  N := N
  s₀ := s
  H₀ := H
  env := envOfC qual scope s.heap.objs.size f cd
  outer := outer
  stack := envOfC qual scope s.heap.objs.size f cd :: outer
  ex := []
  calm := true
  fn := fun _ => true
  pn := []
  xe := fun e s' => wpAny (model P w) (A.deeper (envOfC qual scope s.heap.objs.size f cd)) (leaving (envOfC qual scope s.heap.objs.size f cd) e) (fun _ b8 => CX outer H s E e b8) (fun e' b8 => CX outer H s E e' b8) s'
theorem rR {sc : Scope} {n : Nat} {x : Str} (h : sc.names.lookup x = some .cell) : ∃ c, (cellsFrom n sc.names []).lookup x = some c := by
  have q := PySem.W.cellsFrom_some sc.names n [] (.inl h)
  exact Option.isSome_iff_exists.mp q
theorem pY {CX : eu} {P : Program} {w : World} {K : PySem.W.Frag} {mg : Str → Option Value} {base : Heap} {N ps : List Str} {qual : Str} {scope : Scope} {f : Addr} {cd : Value} {A : Around} {outer : List Env} {s s1 : Shared} {H : Hp} {E : XK} {us : List Value} {vs : List V}
    (S : aQ N ps scope) (hd : A.handled = none) (e0 : kW P w K mg base A outer s H) (hl : vs.length = ps.length) (r : Vals vs us)
    (x : InCallC s s.heap.objs.size (bindL (envOfC qual scope s.heap.objs.size f cd).kindOf (ps.zip us) fun _ => none) (cellsFrom (s.heap.objs.size + 1) scope.names []) (bindC (envOfC qual scope s.heap.objs.size f cd).kindOf (ps.zip us) fun _ => none) s1) :
    Inv (fo CX P w K mg base N qual scope f cd A outer s H E) [] (start N vs) H s1 := by
  have cy : ps.length ≤ N.length := by have := congrArg List.length S.pre; rw [List.length_take] at this; omega
  obtain ⟨h1, tk, rfl, hk⟩ := x.done
  have Gj : ∀ b : Addr, b ∉ (fo CX P w K mg base N qual scope f cd A outer s H E).ex := fun b z => absurd (show b ∈ ([] : List Addr) from z) (by simp)
  refine ⟨⟨e0.mod, S.kind, rfl, rfl, Nat.le_refl _, fun y z c h1 h2 => ?_, fun y hy => ?_, fun y c _ h => ?_, fun _ => hd, Around.frames_deeper e0.frames, .inr ⟨rfl, rfl⟩, fun b z => absurd z (Gj b), e0.bs, e0.bsz, fun b _ _ => Gj b, fun b z => absurd z (Gj b), e0.funs, e0.frf⟩,
    rfl, ⟨e0.bare, Nat.le_refl _⟩, Un.kept hk, ⟨_, x.toInCall.ns, fun i y v h1 h2 h3 => ?_⟩, fun y c h => ⟨_, x.cell y c h⟩, e0.hok.fresh (Nat.le_refl _), fun y c h => ?_, fun p hp => absurd (show p ∈ ([] : List (Addr × Obj)) from hp) (by simp), e0.hok.kept hk, ?_⟩
  · exact name_of_addr x.apart (PySem.mem_of_lookup h1) (PySem.mem_of_lookup h2)
  · have hy : scope.names.lookup y = some .cell ∨ scope.names.lookup y = some .free := hy
    rcases hy with hy | hy
    · exact rR hy
    · exact absurd rfl (S.nofree _ (PySem.mem_of_lookup hy))
  · exact Nat.le_of_lt (x.above y c (PySem.mem_of_lookup h))
  · have hi : i < vs.length := by
      unfold start at h2
      by_cases hi : i < vs.length
      · exact hi
      · rw [List.getElem?_append_right (by simpa using hi)] at h2
        rw [List.getElem?_replicate] at h2
        split at h2 <;> cases h2
    have ha : vs[i]? = some v := by
      unfold start at h2
      rw [List.getElem?_append_left (by simpa using hi), List.getElem?_map] at h2
      cases e : vs[i]? with
      | none => rw [e] at h2; cases h2
      | some a => rw [e] at h2; cases h2; rfl
    obtain ⟨u, hu, rv⟩ := r.get ha
    have hp : ps[i]? = some y := by
      rw [← S.pre, List.getElem?_take_of_lt (by omega)]; exact h1
    have Lf : ps.Nodup := by rw [← S.pre]; exact S.nd.sublist (List.take_sublist _ _)
    refine ⟨u, rv, ?_⟩
    rcases S.par y (List.mem_of_getElem? hp) with k | k
    · exact .inl ⟨k, pW Lf hp hu k⟩
    · obtain ⟨c, e⟩ := rR (n := s.heap.objs.size + 1) k
      refine .inr ⟨.inl k, c, e, ?_⟩
      have q := x.cell y c e
      rw [pX Lf hp hu (by show scope.names.lookup y ≠ _; rw [k]; decide)] at q
      exact q
  · exact e0.hok.fresh (Nat.le_of_lt (x.above y c (PySem.mem_of_lookup h)))
  · unfold start
    show _ = N.length
    rw [List.length_append, List.length_map, List.length_replicate]
    omega
theorem CL {CX : eu} {P : Program} {w : World} {K : PySem.W.Frag} {mg : Str → Option Value} {base : Heap} {k : Nat} {f : Addr} {name qual : Str} {params : Arguments} {body : List Stmt} {scope : Scope} {dV kV doc pm bK ct oc : Value} {an od : Option Addr}
    {gh : Array (Option Value)} {N ps : List Str} {sp : Sp} (lk : K.lookup f = some ⟨oc, od, .func (PySem.W.fnOf name qual params body scope dV kV doc pm an bK ct), gh⟩) (dM : PySem.W.codeIn K bK qual = true) (S : aQ N ps scope)
    (len : ∀ vs H Q E, sp vs H Q E → vs.length = ps.length)
    (ir : ∀ (A : Around) (outer : List Env) (s : Shared) (H : Hp) (vs : List V) (Q : VK) (E : XK), bC k (A.deeper (envOfC qual scope s.heap.objs.size f bK)) → sp vs H Q E →
      ∃ t, eJ (fo CX P w K mg base N qual scope f bK A outer s H E) body t ∧ t { nx := fun _ H' => Q .ao H', rt := Q } (start N vs) H) :
    FnOk P w K mg base CX (k + 1) f (PySem.W.fnOf name qual params body scope dV kV doc pm an bK ct) ps sp := by
  refine ⟨len, fun A outer s H args us vs Q E hr e0 hb r gV => ?_⟩
  have hl := len _ _ _ _ gV
  have KX : K.In s.heap := e0.mod.kin.keeps fun b o e => (e0.bs b o e).1
  have lim : s.heap.NoLimit := e0.mod.nolimit.keeps fun b o e => (e0.bs b o e).1
  have jm : ∀ y ∈ ps.zip us, scope.names.lookup y.1 = some .local ∨ (scope.names.lookup y.1 = some .cell ∧ ((cellsFrom (s.heap.objs.size + 1) scope.names []).lookup y.1).isSome = true) := fun ⟨n, v⟩ hy => by
    rcases S.par n (List.of_mem_zip hy).1 with q | q
    · exact .inl q
    · exact .inr ⟨q, PySem.W.cellsFrom_some _ _ _ (.inl q)⟩
  refine codeAny_call_function hr.depth (KX _ _ lk) rfl S.co S.gen rfl (PySem.W.codeRec_of KX dM) (hb _ _ _ _ ?_)
  refine wpAny_newFunctionEnv_cells S.kind jm fun env he s1 x => ?_
  subst he
  refine ⟨lim.keeps x.toInCall.keep, codeAny_func ?_⟩
  obtain ⟨t, ht, hq⟩ := ir A outer s H vs Q E (hr.deeper _) gV
  have I : Inv (fo CX P w K mg base N qual scope f bK A outer s H E) [] (start N vs) H s1 := pY S hr.hd e0 hl r x
  refine wpAny_mono (ht [] s1 (start N vs) H _ I hq) (fun fl s' hs => ?_) fun e s' hs => hs
  have fin : ∀ {aA : St} {H' : Hp} {v : V} {u : Value}, Inv (fo CX P w K mg base N qual scope f bK A outer s H E) [] aA H' s' → RelV v u → Q v H' → CE outer P w H s Q u s' :=
    fun {aA H' v u} J rv q => ⟨v, H', J.os, J.bare, J.base, J.hok, rv, q⟩
  cases fl with
  | ret u =>
    obtain ⟨v, aA, H', J, rv, q⟩ := hs
    exact fin J rv q
  | next =>
    obtain ⟨aA, H', J, q⟩ := hs
    exact fin (v := V.ao) (u := Value.none) J rfl q
  | brk =>
    obtain ⟨_, _, _, q⟩ := hs
    exact False.elim q
  | cont =>
    obtain ⟨_, _, _, q⟩ := hs
    exact False.elim q
section
variable {X : Cx} {x : Str} {p pos : Pos} {e : Expr} {es : List Expr} {t : TA} {id T : String} {r : List V → Hp → VK → Prop}
noncomputable def Gk (r : List V → Hp → VK → Prop) (t : TA) : TE := fun σ H Q => t σ H fun vs H1 => r vs H1 Q
theorem AF (hc : cL X (.builtin id) r) (hg : Gl X x) (hm : X.mg x = none) (hv : bootBuiltins x = some (.builtin id)) (ha : PA X (e :: es) t) (hn : x ≠ "__name__" := by decide) (cV : (x == ("__debug__" : Str)) = false := by decide)
    (he : starEach (e :: es) X.env = (false, eval e X.env) :: starEach es X.env := by rfl) (cy : (backTo pos (starEach es X.env)).any (·.1) = false := by rfl) : PE X (.Call (.Name x p) (e :: es) [] pos) (Gk r t) := by
  refine ⟨?_⟩
  intro pins s σ H Q I h
  refine wpAny_Call_Name_kw (gf I hg hm hv ?_ hn cV)
  exact PyProof.Rows.callWith_builtin1 (thn (ha pos pins s σ H _ I h) fun us s1 ⟨vs, H1, I1, r1, q1⟩ => hc pins s1 σ H1 vs us Q I1 r1 q1) he cy
theorem xV (hc : cL X (.type T) r) (hg : Gl X x) (hm : X.mg x = none) (hv : bootBuiltins x = some (.type T)) (ha : PA X (e :: es) t) (hn : x ≠ "__name__" := by decide) (cV : (x == ("__debug__" : Str)) = false := by decide)
    (he : starEach (e :: es) X.env = (false, eval e X.env) :: starEach es X.env := by rfl) (cy : (backTo pos (starEach es X.env)).any (·.1) = false := by rfl) : PE X (.Call (.Name x p) (e :: es) [] pos) (Gk r t) := by
  refine ⟨?_⟩
  intro pins s σ H Q I h
  refine wpAny_Call_Name_kw (gf I hg hm hv ?_ hn cV)
  exact PyProof.Rows.callWith_type1 (thn (ha pos pins s σ H _ I h) fun us s1 ⟨vs, H1, I1, r1, q1⟩ => hc pins s1 σ H1 vs us Q I1 r1 q1) he cy
end
end L2
namespace HT
open PySem PyProof.Rows
section
variable {prog : Program} {w : World} {A : Around} {E : Value → Shared → Prop} {s : Shared}
theorem DS {t b : Addr} {vs ws : List Value} {Q : Value → Shared → Prop} (ht : IsTup s.heap t vs.toArray) (hb : IsTup s.heap b ws.toArray) (hv : vs ≠ [])
    (h1 : ws = [] → Q (.ref t) s) (h2 : ws ≠ [] → Q (.ref s.heap.objs.size) { s with heap := s.heap.push { cls := .type "tuple", data := .seq (vs ++ ws).toArray } })
    (hsz : vs.length + ws.length ≤ sizeLine) : wpAny (model prog w) A (binaryOp .Add (.ref t) (.ref b)) Q E s := by
  obtain ⟨⟨cls, dd, data, sl⟩, ho, hc, n, hd⟩ := id ht
  obtain ⟨⟨MT, uU, data2, pZ⟩, nO, xW, n2, hd2⟩ := id hb
  simp only at hc hd xW hd2
  subst hc hd xW hd2
  have e : vs.toArray ++ ws.toArray = (vs ++ ws).toArray := by simp
  by_cases hw : ws = []
  · exact concat_meets ⟨_, ho, rfl⟩ ⟨_, nO, rfl⟩ noFill_tuple_add seq_tuple_add PySem.F.slot_tuple_add PySem.F.entry_tuple_add (PySem.F.args_tuple_add_2 _ _)
      (tuple_addW1 t b vs.toArray ws.toArray n n2 dd uU sl pZ (by simpa using hv) (by simp [hw])) ⟨ho, nO, h1 hw⟩
  · refine concat_meets ⟨_, ho, rfl⟩ ⟨_, nO, rfl⟩ noFill_tuple_add seq_tuple_add PySem.F.slot_tuple_add PySem.F.entry_tuple_add (PySem.F.args_tuple_add_2 _ _)
      (tuple_addW2 t b vs.toArray ws.toArray n n2 dd uU sl pZ (by simpa using hv) (by simpa using hw) (by rw [List.size_toArray, List.size_toArray]; exact hsz)) ⟨ho, nO, ?_⟩
    rw [e]
    exact h2 hw
noncomputable def aT (n d : Nat) : Option Int → Nat
  | none => d
  | some v => if v < 0 then (v + (n : Int)).toNat else min v.toNat n
theorem Gm (n d : Nat) (hd : d ≤ n) (o : Option Int) : aT n d o ≤ n := by
  cases o with
  | none => exact hd
  | some v =>
    show (if v < 0 then (v + (n : Int)).toNat else min v.toNat n) ≤ n
    by_cases hv : v < 0
    · rw [if_pos hv]; omega
    · rw [if_neg hv]; exact Nat.min_le_right _ _
theorem uV (v : Int) (n d : Nat) : (if v < 0 then max (v + (n : Int)) 0 else min v (n : Int)) = ((aT n d (some v) : Nat) : Int) := by
  show (if v < 0 then max (v + (n : Int)) 0 else min v (n : Int)) = (((if v < 0 then (v + (n : Int)).toNat else min v.toNat n) : Nat) : Int)
  by_cases hv : v < 0
  · simp only [if_pos hv]; omega
  · simp only [if_neg hv]; omega
theorem vN (lo hi : Option Int) (n : Nat) : Builtin.Slice.sliceAdjust lo hi 1 (n : Int) = (((aT n 0 lo : Nat) : Int), ((aT n n hi : Nat) : Int)) := by
  have h1 : ¬ ((1 : Int) < 0) := by omega
  unfold Builtin.Slice.sliceAdjust
  simp only [h1, if_false]
  refine Prod.ext ?_ ?_
  · cases lo with
    | none => rfl
    | some v => exact uV v n 0
  · cases hi with
    | none => rfl
    | some v => exact uV v n n
theorem vO (i j : Nat) : Builtin.Slice.slicePlaces (i : Int) (j : Int) 1 = j - i := by
  unfold Builtin.Slice.slicePlaces
  have h1 : (1 : Int) > 0 := by omega
  simp only [h1, if_true, Int.ediv_one]
  split <;> omega
theorem nQ {v : Value} {o : Option Int} {Q : Option Int → Shared → Prop} (p : IsPart v o) (h : Q o s) : wpAny (model prog w) A (Builtin.Slice.slicePartIndex v) Q E s := by
  cases p with
  | none => exact slicePart_none h
  | int i t => exact slicePart_int h
theorem iP {sl : Addr} {vl vu : Value} {lo hi : Option Int} {n : Nat} {Q : Int × Int × Nat → Shared → Prop} (hs : s.heap.IsSliceOf sl vl vu .none) (pl : IsPart vl lo) (pu : IsPart vu hi)
    (h : Q (((aT n 0 lo : Nat) : Int), 1, aT n n hi - aT n 0 lo) s) : wpAny (model prog w) A (Builtin.Slice.sliceApplied (.ref sl) (pure (n : Int))) Q E s := by
  obtain ⟨os, gi, kD, jn⟩ := id hs
  unfold Builtin.Slice.sliceApplied Builtin.Slice.sliceFields
  refine wpAny_bind (wpAny_bind (wpAny_field gi jn (x := vl) rfl (wpAny_bind (wpAny_field gi jn (x := vu) rfl (wpAny_bind (wpAny_field gi jn (x := .none) rfl (wpAny_pure ?_)))))))
  refine wpAny_bind (slicePart_none ?_)
  show wpAny _ _ (if ((1 : Int) == 0) = true then _ else _) _ _ s
  rw [if_neg (by decide)]
  refine wpAny_bind (nQ pl (wpAny_bind (nQ pu (wpAny_bind (wpAny_pure ?_)))))
  show wpAny _ _ (match Builtin.Slice.sliceAdjust lo hi 1 (n : Int) with | (lo, hi) => pure (lo, (1 : Int), Builtin.Slice.slicePlaces lo hi 1)) _ _ s
  rw [vN lo hi n]
  show wpAny _ _ (pure (((aT n 0 lo : Nat) : Int), (1 : Int), Builtin.Slice.slicePlaces ((aT n 0 lo : Nat) : Int) ((aT n n hi : Nat) : Int) 1)) _ _ s
  rw [vO]
  exact wpAny_pure h
theorem AG (xs : Array Value) (i k : Nat) : ((List.range k).filterMap fun (m : Nat) => xs[((i : Int) + (m : Int) * 1).toNat]?).toArray = ((xs.toList.drop i).take k).toArray := by
  have e : (fun (m : Nat) => xs[((i : Int) + (m : Int) * 1).toNat]?) = fun m => xs[i + m]? := by
    funext m
    have : ((i : Int) + (m : Int) * 1).toNat = i + m := by omega
    rw [this]
  rw [e]
  have := pick_run xs i k
  rw [List.filterMap_map] at this
  have e2 : ((fun x => xs[x]?) ∘ fun x => i + x) = fun m => xs[i + m]? := rfl
  rw [e2] at this
  rw [this]
theorem mC {t sl : Addr} {items : Array Value} {vl vu : Value} {lo hi : Option Int} {Q : Value → Shared → Prop} (ht : IsTup s.heap t items) (hs : s.heap.IsSliceOf sl vl vu .none) (pl : IsPart vl lo) (pu : IsPart vu hi)
    (hw : ¬ (aT items.size 0 lo = 0 ∧ aT items.size items.size hi = items.size))
    (h : Q (.ref s.heap.objs.size) { s with heap := s.heap.push { cls := .type "tuple", data := .seq ((items.toList.drop (aT items.size 0 lo)).take (aT items.size items.size hi - aT items.size 0 lo)).toArray } })
    (hsz : items.size ≤ sizeLine) : wpAny (model prog w) A (getItem (.ref t) (.ref sl)) Q E s := by
  have rg : sizeOk (.seq ((items.toList.drop (aT items.size 0 lo)).take (aT items.size items.size hi - aT items.size 0 lo)).toArray) := by
    show ((items.toList.drop (aT items.size 0 lo)).take (aT items.size items.size hi - aT items.size 0 lo)).toArray.size ≤ sizeLine
    rw [List.size_toArray, List.length_take, List.length_drop, Array.length_toList]
    omega
  have hj : aT items.size items.size hi ≤ items.size := Gm _ _ (Nat.le_refl _) hi
  obtain ⟨os, gi, kD, jn⟩ := id hs
  have uW : s.TypeIs (.ref sl) "slice" := ⟨os, gi, kD⟩
  unfold getItem
  try with_reducible refine wpAny_holding ?_
  first | refine wpAny_bind (wpAny_pure ?_) | skip
  refine wpAny_bind (wpAny_sequenceKey ht.typeIs (by decide) ?_)
  refine wpAny_bind (wpAny_callSpecial?_slot (name := Str.ofString "__getitem__") ht.typeIs PyProof.Rows.slot_tuple_getitem
    (wpAny_call_entry PyProof.Rows.slot_tuple_getitem ht.typeIs entry_tuple_getitem ?_ (args_tuple_getitem _ _)))
  show wpAny _ _ (Builtin.Tuple.tupleItemsOf (.ref t) >>= _) _ _ s
  refine wpAny_bind (tupleItemsOf_ ht ?_)
  refine wpAny_bind (wpAny_typeOf uW ?_)
  rw [if_pos (by decide)]
  refine wpAny_bind (iP hs pl pu ?_)
  have Gp : ¬ ((((aT items.size 0 lo : Nat) : Int) == 0 && (1 : Int) == 1 && (aT items.size items.size hi - aT items.size 0 lo) == items.size) = true) := by
    intro q
    rw [Bool.and_eq_true, Bool.and_eq_true] at q
    have q1 : ((aT items.size 0 lo : Nat) : Int) = 0 := eq_of_beq q.1.1
    have q2 : aT items.size items.size hi - aT items.size 0 lo = items.size := eq_of_beq q.2
    exact hw ⟨by omega, by omega⟩
  show wpAny _ _ (if (((aT items.size 0 lo : Nat) : Int) == 0 && (1 : Int) == 1 && (aT items.size items.size hi - aT items.size 0 lo) == items.size) = true then _ else _) _ _ s
  rw [if_neg Gp, AG]
  first
    | exact wpAny_bind (m := Builtin.Tuple.tupleExact _) (wpAny_newObj_type (wpAny_pure ⟨_, rfl, wpAny_pure h⟩) rg)
    | exact wpAny_bind (m := Builtin.Tuple.tupleExact _) (wpAny_newObj_type (wpAny_bind (wpAny_pure (wpAny_pure ⟨_, rfl, wpAny_pure h⟩))) rg)
    | exact wpAny_bind (wpAny_bind (m := Builtin.Tuple.tupleExact _) (wpAny_newObj_type (wpAny_pure (wpAny_pure ⟨_, rfl, wpAny_pure h⟩)) rg))
    | exact wpAny_bind (wpAny_bind (m := Builtin.Tuple.tupleExact _) (wpAny_newObj_type (wpAny_pure ⟨_, rfl, wpAny_pure h⟩) rg))
end
end HT
namespace L2
open PySem PySem.Spec PyProof.Rows
noncomputable abbrev TO := St → Hp → (Option Int → Hp → Prop) → Prop
noncomputable def PO (X : Cx) (e : Option Expr) (t : TO) : Prop :=
  ∀ (pins : List (Addr × Obj)) (s : Shared) (σ : St) (H : Hp) (Q : Option Int → Hp → Prop), Inv X pins σ H s → t σ H Q →
    wpAny (model X.prog X.w) X.A (evalPart e X.env) (fun u s' => ∃ o H', Inv X pins σ H' s' ∧ IsPart u o ∧ Q o H') X.xe s
noncomputable def DT : TO := fun _ H Q => Q none H
noncomputable def JV (t : TE) : TO := fun σ H Q => t σ H fun x H1 => ∃ i, x = .int i ∧ Q (some i) H1
section
variable {X : Cx} {e : Expr} {te : TE} {lo hi : Option Expr} {tl th : TO} {pos p2 : Pos}
theorem DU : PO X none DT := by
  intro pins s σ H Q I h
  rw [evalPart_none]
  exact wpAny_pure ⟨none, H, I, .none, h⟩
theorem DV (h : PE X e te) : PO X (some e) (JV te) := by
  intro pins s σ H Q I hw
  rw [evalPart_some]
  refine thn (h pins s σ H _ I hw) fun u s1 ⟨x, H1, I1, r1, q1⟩ => ?_
  obtain ⟨i, rfl, q⟩ := q1
  obtain ⟨t, rfl⟩ := r1
  exact ⟨some i, H1, I1, .int i t, q⟩
noncomputable def xX (X : Cx) (r : V → Option Int → Option Int → Hp → VK → Prop) : Prop :=
  ∀ (pins : List (Addr × Obj)) (s : Shared) (σ : St) (H : Hp) (x : V) (v vl vu : Value) (lo hi : Option Int) (sl : Addr) (Q : VK), Inv X pins σ H s → RelV x v → s.heap.IsSliceOf sl vl vu .none → IsPart vl lo → IsPart vu hi → r x lo hi H Q →
    ∃ T id, typeLookup (.type T) "__getitem__" = pure (some (.builtin id)) ∧ s.TypeIs v T ∧ wpAny (model X.prog X.w) X.A (getItem v (.ref sl)) (EP X pins σ Q) X.xe s
noncomputable def Oj (r : V → Option Int → Option Int → Hp → VK → Prop) (te : TE) (tl th : TO) : TE := fun σ H Q => te σ H fun x H1 => tl σ H1 fun l H2 => th σ H2 fun u H3 => r x l u H3 Q
theorem AH {r : V → Option Int → Option Int → Hp → VK → Prop} (hr : xX X r) (he : PE X e te) (hl : PO X lo tl) (hu : PO X hi th) : PE X (.Subscript e (.Slice lo hi none p2) pos) (Oj r te tl th) := by
  refine ⟨?_⟩
  intro pins s σ H Q I h
  refine Subscript_ (thn (he pins s σ H _ I h) fun v s1 ⟨x, H1, I1, r1, q1⟩ => ?_)
  refine wpAny_Slice (thn (hl pins s1 σ H1 _ I1 q1) fun vl s2 ⟨l, H2, I2, pl, q2⟩ => thn (hu pins s2 σ H2 _ I2 q2) fun vu s3 ⟨u, H3, I3, pu, q3⟩ => ?_)
  rw [evalPart_none]
  refine wpAny_pure ?_
  have I4 : Inv X pins σ H3 { s3 with heap := s3.heap.push { cls := .type "slice", data := .fields #[vl, vu, .none] } } := I3.kept (t' := s3.toks) fun b ob q => Heap.get?_push_of_some _ q
  obtain ⟨T, id, hT, ht, hg⟩ := hr pins { s3 with heap := s3.heap.push { cls := .type "slice", data := .fields #[vl, vu, .none] } } σ H3 x v vl vu l u s3.heap.objs.size Q I4 r1 (Heap.IsSliceOf.new ..) pl pu q3
  show wpAny (model X.prog X.w) X.A (subscriptTail e (.Slice lo hi none p2) v (.ref s3.heap.objs.size)) (EP X pins σ Q) X.xe { s3 with heap := s3.heap.push { cls := .type "slice", data := .fields #[vl, vu, .none] } }
  exact tail_any (ops := [.ref s3.heap.objs.size, v]) ht hT hg (by with_unfolding_all rfl)
noncomputable def hZ (xs : List V) (lo hi : Option Int) : List V := (xs.drop (HT.aT xs.length 0 lo)).take (HT.aT xs.length xs.length hi - HT.aT xs.length 0 lo)
theorem mG (xs : List V) (lo hi : Option Int) : (hZ xs lo hi).length ≤ xs.length := by
  unfold hZ
  rw [List.length_take, List.length_drop]
  omega
noncomputable def MU (K : PySem.W.Frag) : V → Option Int → Option Int → Hp → VK → Prop := fun x lo hi H Q => ∃ a xs, x = .ref a ∧ bJ K H a xs ∧
  ¬ (HT.aT xs.length 0 lo = 0 ∧ HT.aT xs.length xs.length hi = xs.length) ∧ ∀ p, H p = none → Q (.ref p) (upd H p (.tup (hZ xs lo hi)))
theorem Gq : xX X (MU X.K) := by
  intro pins s σ H x v vl vu lo hi sl Q I rx hs pl pu h
  obtain ⟨a, xs, rfl, hx, hw, q⟩ := h
  cases rx
  obtain ⟨its, r, ht, hz⟩ := I.tuple hx
  have hlen : its.toArray.size = xs.length := by rw [List.size_toArray]; exact r.length.symm
  refine ⟨"tuple", _, PyProof.Rows.slot_tuple_getitem.lookup, ht.typeIs, ?_⟩
  refine HT.mC ht hs pl pu (by rw [hlen]; exact hw) ?_ (by rw [hlen]; exact hz)
  rw [hlen]
  refine ⟨.ref s.heap.objs.size, _, I.laid (t' := s.toks) (o := .tup (hZ xs lo hi)) (fun b ob q => Heap.get?_push_of_some _ q) (Nat.le_refl _) ?_, rfl, q _ (I.hok.fresh (Nat.le_refl _))⟩
  exact ⟨Nat.le_trans (mG xs lo hi) hz, _, (r.drop (HT.aT xs.length 0 lo)).take (HT.aT xs.length xs.length hi - HT.aT xs.length 0 lo), hV.new _ _⟩
noncomputable def JW (K : PySem.W.Frag) : R2 := fun x y H Q => ∃ a b xs ys, x = .ref a ∧ y = .ref b ∧ bJ K H a xs ∧ bJ K H b ys ∧ xs ≠ [] ∧ xs.length + ys.length ≤ sizeLine ∧
  (ys = [] → Q (.ref a) H) ∧ (ys ≠ [] → ∀ p, H p = none → Q (.ref p) (upd H p (.tup (xs ++ ys))))
theorem Vals.jN {xs : List V} {us : List Value} (r : Vals xs us) : us = [] ↔ xs = [] := by
  cases r with
  | nil => simp
  | cons _ _ => simp
theorem DW : OpR X (binaryOp .Add) (JW X.K) := by
  intro pins s σ H x y v u Q I rx ry h
  obtain ⟨a, b, xs, ys, rfl, rfl, ha, hb, hx, hz, q1, q2⟩ := h
  cases rx
  cases ry
  obtain ⟨its, r1, p1, _⟩ := I.tuple ha
  obtain ⟨bP, r2, p2, _⟩ := I.tuple hb
  refine HT.DS p1 p2 (fun z => hx (r1.jN.mp z)) (fun z => ⟨.ref a, H, I, rfl, q1 (r2.jN.mp z)⟩) (fun z => ?_) (by rw [← r1.length, ← r2.length]; exact hz)
  refine ⟨.ref s.heap.objs.size, _, I.laid (t' := s.toks) (o := .tup (xs ++ ys)) (fun b ob q => Heap.get?_push_of_some _ q) (Nat.le_refl _) ?_, rfl, q2 (fun w => z (r2.jN.mpr w)) _ (I.hok.fresh (Nat.le_refl _))⟩
  exact ⟨by rw [List.length_append]; exact hz, _, r1.append r2, hV.new _ _⟩
end
noncomputable def gW (n : Nat) (i : Int) : Option Nat := if 0 ≤ i then (if i < n then some i.toNat else none) else if -(n : Int) ≤ i then some (i + n).toNat else none
noncomputable def cW {α : Type} (xs : List α) (i : Int) : Option α := (gW xs.length i).bind fun j => xs[j]?
theorem oS {n : Nat} {i : Int} {j : Nat} (h : gW n i = some j) : seqIndex? i n = some j ∧ j < n ∧ -(n : Int) ≤ i ∧ i < n := by
  unfold gW at h
  by_cases h0 : 0 ≤ i
  · rw [if_pos h0] at h
    by_cases h1 : i < n
    · rw [if_pos h1] at h
      have e : i.toNat = j := Option.some.inj h
      exact ⟨by rw [seqIndex_of h0 h1, e], by omega, by omega, h1⟩
    · rw [if_neg h1] at h; cases h
  · rw [if_neg h0] at h
    by_cases h1 : -(n : Int) ≤ i
    · rw [if_pos h1] at h
      have e : (i + n).toNat = j := Option.some.inj h
      exact ⟨by rw [seqIndex_neg (by omega) h1, e], by omega, h1, by omega⟩
    · rw [if_neg h1] at h; cases h
theorem oU {α : Type} {xs : List α} {i : Int} {v : α} (h : cW xs i = some v) : ∃ j, seqIndex? i xs.length = some j ∧ xs[j]? = some v ∧ j < xs.length ∧ -(xs.length : Int) ≤ i ∧ i < xs.length := by
  unfold cW at h
  cases e : gW xs.length i with
  | none => rw [e] at h; cases h
  | some j =>
    rw [e] at h
    obtain ⟨h1, h2, h3, h4⟩ := oS e
    exact ⟨j, h1, h, h2, h3, h4⟩
theorem cQ {α : Type} {xs : List α} {j : Nat} {v : α} (h : xs[j]? = some v) : cW xs (j : Int) = some v := by
  have hj : j < xs.length := (List.getElem?_eq_some_iff.mp h).1
  have e : gW xs.length (j : Int) = some j := by
    unfold gW
    rw [if_pos (by omega), if_pos (by omega)]; simp
  unfold cW; rw [e]; exact h
noncomputable def uX (b : Expr) : Prop := ∀ o i, subscripted b false o i = operate [o, i] (getItem o i)
noncomputable def kX (X : Cx) (r : R2) : Prop :=
  ∀ (value slice : Expr) (pins : List (Addr × Obj)) (s : Shared) (σ : St) (H : Hp) (x y : V) (v u : Value) (Q : VK), Inv X pins σ H s → RelV x v → RelV y u → r x y H Q →
    subscripted slice false v u = operate [v, u] (getItem v u) → wpAny (model X.prog X.w) X.A (subscriptTail value slice v u) (EP X pins σ Q) X.xe s
noncomputable def xY (X : Cx) (id : String) (r : V → List V → Hp → VK → Prop) : Prop :=
  ∀ (pins : List (Addr × Obj)) (s : Shared) (σ : St) (H : Hp) (x : V) (xs : List V) (v : Value) (us : List Value) (Q : VK), Inv X pins σ H s → RelV x v → Vals xs us → r x xs H Q →
    wpAny (model X.prog X.w) X.A (call (.builtin id) (v :: us)) (EP X pins σ Q) X.xe s
section
variable {X : Cx} {a b : Expr} {ta tb : TE} {pos : Pos}
theorem kX.or {r r' : R2} (h : kX X r) (h' : kX X r') : kX X (fun x y H Q => r x y H Q ∨ r' x y H Q) := by
  intro value slice pins s σ H x y v u Q I rx ry q hs
  rcases q with q | q
  · exact h value slice pins s σ H x y v u Q I rx ry q hs
  · exact h' value slice pins s σ H x y v u Q I rx ry q hs
theorem JX {r : R2} (hr : kX X r) (ha : PE X a ta) (hb : PE X b tb) (hs : uX b) : PE X (.Subscript a b pos) (xM r ta tb) := by
  refine ⟨?_⟩
  intro pins s σ H Q I h
  exact Subscript_ (Av ha hb I h fun v u s2 x y H2 I2 rx ry q => hr a b pins s2 σ H2 x y v u Q I2 rx ry q (hs _ _))
noncomputable def Gr (K : PySem.W.Frag) : R2 := fun x y H Q => ∃ p xs i v, x = .ref p ∧ y = .int i ∧ bI K H p xs ∧ cW xs i = some v ∧ Q v H
noncomputable def Gs (K : PySem.W.Frag) : R2 := fun x y H Q => ∃ p xs i v, x = .ref p ∧ y = .int i ∧ bJ K H p xs ∧ cW xs i = some v ∧ Q v H
noncomputable def Gu : R2 := fun x y H Q => ∃ z i c, x = .str z ∧ y = .int i ∧ z.length ≤ sizeLine ∧ cW z.cps.toList i = some c ∧ Q (.str ⟨#[c]⟩) H
theorem DX : kX X (Gr X.K) := by
  intro value slice pins s σ H x y v u Q I rx ry h hs
  obtain ⟨p, xs, i, z, rfl, rfl, hq, he, q⟩ := h
  cases rx
  obtain ⟨t, rfl⟩ := ry
  obtain ⟨its, r, pl, hz⟩ := I.list hq
  obtain ⟨j, h1, h2, h3, h4, h5⟩ := oU he
  obtain ⟨w, ew, xZ⟩ := r.get h2
  have hl := r.length
  have hn := jM
  have fin : EP X pins σ Q w s := ⟨z, H, I, xZ, q⟩
  by_cases h0 : 0 ≤ i
  · have hj : i.toNat = j := by
      rw [seqIndex_of h0 h5] at h1
      exact Option.some.inj h1
    exact item_listR pl.isList h0 (by omega) (by rw [hj]; simpa using ew) fin hs
  · have hj : (i + (its.toArray.size : Int)).toNat = j := by
      rw [seqIndex_neg (by omega) h4] at h1
      rw [List.size_toArray, ← hl]
      exact Option.some.inj h1
    exact subscriptTail_builtinR (x := w) pl.isList.typeIs slot_list_getitem.lookup
      (wpAny_getItem_list_neg (Q := fun r s' => r = w ∧ EP X pins σ Q r s') pl.isList (by omega) (by rw [List.size_toArray] <;> omega) (by omega) (by rw [hj]; simpa using ew) ⟨rfl, fin⟩) hs
theorem Gv : kX X (Gs X.K) := by
  intro value slice pins s σ H x y v u Q I rx ry h hs
  obtain ⟨p, xs, i, z, rfl, rfl, hq, he, q⟩ := h
  cases rx
  obtain ⟨t, rfl⟩ := ry
  obtain ⟨its, r, pl, hz⟩ := I.tuple hq
  obtain ⟨j, h1, h2, h3, h4, h5⟩ := oU he
  obtain ⟨w, ew, xZ⟩ := r.get h2
  have hl := r.length
  have hn := jM
  have fin : EP X pins σ Q w s := ⟨z, H, I, xZ, q⟩
  exact subscriptTail_builtinR (x := w) pl.typeIs slot_tuple_getitem.lookup
    (getItem_tuple (j := j) (Q := fun r s' => r = w ∧ EP X pins σ Q r s') pl (by omega) (by omega) (by rw [List.size_toArray, ← hl]; exact h1) (by simpa using ew) ⟨rfl, fin⟩) hs
theorem Gw : kX X Gu := by
  intro value slice pins s σ H x y v u Q I rx ry h hs
  obtain ⟨z, i, c, rfl, rfl, hz, he, q⟩ := h
  obtain ⟨t, rfl⟩ := rx
  obtain ⟨t', rfl⟩ := ry
  obtain ⟨j, h1, h2, h3, h4, h5⟩ := oU he
  have hl : z.cps.toList.length = z.length := by simp [Str.length]
  rw [hl] at h1 h4 h5
  have hn := jM
  exact tail_any (typeIs_str s z t) slot_str_getitem.lookup (getItem_str (c := c) (by
    have e1 : decide (i < -(2 ^ 63 : Int)) = false := decide_eq_false (by omega)
    have e2 : decide (i ≥ 2 ^ 63) = false := decide_eq_false (by omega)
    rw [e1, e2, Bool.or_false]) (by rw [h1]; simpa using h2) ⟨.str ⟨#[c]⟩, H, I.tok _, ⟨_, rfl⟩, q⟩) hs
noncomputable def Lg (K : PySem.W.Frag) : R2 := fun x y H Q => Gr K x y H Q ∨ Gs K x y H Q ∨ Gu x y H Q
theorem Gx : kX X (Lg X.K) := DX.or (Gv.or Gw)
theorem vP (its : List Value) (n j : Nat) (u : Value) : Obj.mapSeq (·.setIfInBounds j u) { cls := .type "list", data := .seq its.toArray n } = { cls := .type "list", data := .seq (its.set j u).toArray n } := by
  simp [Obj.mapSeq]
theorem Inv.lst {pins : List (Addr × Obj)} {σ : St} {H : Hp} {s : Shared} {p : Addr} {xs : List V} (I : Inv X pins σ H s) (h : H p = some (.lst xs)) :
    ∃ (its : List Value) (n : Nat), Vals xs its ∧ s.heap.get? p = some { cls := .type "list", data := .seq its.toArray n } ∧ xs.length ≤ sizeLine := by
  obtain ⟨z, its, n, r, e⟩ := I.hok p _ h
  exact ⟨its, n, r, e, z⟩
theorem Inv.Gy {pins : List (Addr × Obj)} {σ : St} {H : Hp} {s : Shared} {p : Addr} {xs ys : List V} {its its' : List Value} {n n' : Nat} {f : Obj → Obj} (I : Inv X pins σ H s) (h : H p = some (.lst xs))
    (ho : s.heap.get? p = some { cls := .type "list", data := .seq its.toArray n }) (hf : f { cls := .type "list", data := .seq its.toArray n } = { cls := .type "list", data := .seq its'.toArray n' }) (r : Vals ys its') (hz : ys.length ≤ sizeLine) (t : Nat) :
    Inv X pins σ (upd H p (.lst ys)) { s with heap := s.heap.update p f, toks := t } := by
  have e : (s.heap.update p f).get? p = some { cls := .type "list", data := .seq its'.toArray n' } := by
    rw [Heap.get?_update_self f ho (by rw [hf] <;> rfl), hf]
  refine I.write (x := p) (e := p) (by rw [h]; trivial) (.inl rfl) (fun b u hb q => (Heap.get?_update_other _ _ (Ne.symm hb)).trans q) ⟨_, e⟩ ?_
  exact ⟨hz, its', n', r, e⟩
noncomputable def JY : V → V → V → Hp → (Hp → Prop) → Prop := fun o i v H Q => ∃ p xs k j, o = .ref p ∧ i = .int k ∧ H p = some (.lst xs) ∧ gW xs.length k = some j ∧ Q (upd H p (.lst (xs.set j v)))
theorem set_list : FV X JY := by
  intro pins s σ H o i v ov iv u Q I ro ri rv h
  obtain ⟨p, xs, k, j, rfl, rfl, hp, hj, q⟩ := h
  cases ro
  obtain ⟨t, rfl⟩ := ri
  obtain ⟨its, n, r, ho, hz⟩ := I.lst hp
  obtain ⟨h1, h2, h3, h4⟩ := oS hj
  have hl := r.length
  have hn := jM
  have I' : Inv X pins σ (upd H p (.lst (xs.set j v))) { s with heap := s.heap.update p (Obj.mapSeq (·.setIfInBounds j u)) } :=
    I.Gy hp ho (vP its n j u) (r.set rv j) (by rw [List.length_set]; exact hz) s.toks
  by_cases h0 : 0 ≤ k
  · have hk : k.toNat = j := by
      rw [seqIndex_of h0 h4] at h1
      exact Option.some.inj h1
    exact PySem.W.ki_setAt ho h0 (by omega) (by rw [List.size_toArray, ← hl]; exact h4) (by rw [hk]; exact ⟨_, I', q⟩)
  · have hk : (k + (its.toArray.size : Int)).toNat = j := by
      rw [seqIndex_neg (by omega) h3] at h1
      rw [List.size_toArray, ← hl]
      exact Option.some.inj h1
    exact PySem.W.ki_setBack ho (by omega) (by rw [List.size_toArray, ← hl]; exact h3) (by omega) (by rw [hk]; exact ⟨_, I', q⟩)
theorem rS (lo hi : Option Int) (n : Nat) : (sliceBounds lo hi none n).1 = ((HT.aT n 0 lo : Nat) : Int) ∧ (sliceBounds lo hi none n).2.1 = ((HT.aT n n hi : Nat) : Int) ∧ (sliceBounds lo hi none n).2.2 = 1 := by
  refine ⟨?_, ?_, rfl⟩
  · cases lo with
    | none => simp [sliceBounds, HT.aT]
    | some i =>
      simp only [sliceBounds, HT.aT, Option.getD_none, show (1 : Int) > 0 by decide, if_true]
      by_cases h : i < 0
      · simp only [h, if_true] <;> omega
      · simp only [h, if_false] <;> omega
  · cases hi with
    | none => simp [sliceBounds, HT.aT]
    | some i =>
      simp only [sliceBounds, HT.aT, Option.getD_none, show (1 : Int) > 0 by decide, if_true]
      by_cases h : i < 0
      · simp only [h, if_true] <;> omega
      · simp only [h, if_false] <;> omega
theorem qO (its : List Value) (lo hi : Option Int) : slicePick its.toArray lo hi none = ((its.drop (HT.aT its.length 0 lo)).take (HT.aT its.length its.length hi - HT.aT its.length 0 lo)).toArray := by
  obtain ⟨h1, h2, h3⟩ := rS lo hi its.toArray.size
  unfold slicePick
  rw [h1, h2, h3]
  simp only [sliceRange_one, pick_run, List.size_toArray] <;> rfl
noncomputable def MV (K : PySem.W.Frag) : V → Option Int → Option Int → Hp → VK → Prop := fun x lo hi H Q => ∃ a xs, x = .ref a ∧ bI K H a xs ∧ ∀ p, H p = none → Q (.ref p) (upd H p (.lst (hZ xs lo hi)))
theorem N4 : xX X (MV X.K) := by
  intro pins s σ H x v vl vu lo hi sl Q I rx hs pl pu h
  obtain ⟨a, xs, rfl, hx, q⟩ := h
  cases rx
  obtain ⟨its, r, ht, hz⟩ := I.list hx
  have hlen := r.length
  refine ⟨"list", _, slot_list_getitem.lookup, ht.isList.typeIs, ?_⟩
  refine wpAny_getItem_list_slice ht.isList hs pl pu .none (by simp) ?_ (by rw [List.size_toArray] <;> omega)
  rw [qO, ← hlen]
  refine ⟨.ref s.heap.objs.size, _, I.laid (t' := s.toks) (o := .lst (hZ xs lo hi)) (fun b ob q => Heap.get?_push_of_some _ q) (Nat.le_refl _) ?_, rfl, q _ (I.hok.fresh (Nat.le_refl _))⟩
  exact ⟨Nat.le_trans (mG xs lo hi) hz, _, 0, (r.drop (HT.aT xs.length 0 lo)).take (HT.aT xs.length xs.length hi - HT.aT xs.length 0 lo), Heap.get?_push_size _ rfl⟩
theorem rT : cL X (.type "list") (fun xs H Q => ∃ p ys, xs = [.ref p] ∧ (bI X.K H p ys ∨ bJ X.K H p ys) ∧ ∀ l, H l = none → Q (.ref l) (upd H l (.lst ys))) := by
  intro pins s σ H xs us Q I r h
  obtain ⟨p, ys, rfl, hq, q⟩ := h
  obtain ⟨u, rfl, rx⟩ := vals1 r
  cases rx
  have fin : ∀ (its : List Value), Vals ys its → ys.length ≤ sizeLine → ∀ (h' : Heap) (c' : Nat), (∀ b o', s.heap.get? b = some o' → h'.get? b = some o') →
      h'.get? s.heap.objs.size = some { cls := .type "list", dict := none, data := .seq its.toArray c', slots := #[] } → EP X pins σ Q (.ref s.heap.objs.size) { s with heap := h' } := fun its r' hz h' c' kp e =>
    ⟨.ref s.heap.objs.size, _, I.laid (t' := s.toks) kp (Nat.le_refl _) (show bw X.prog X.w _ h' _ (.lst ys) from ⟨hz, its, c', r', e⟩), rfl, q _ (I.hok.fresh (Nat.le_refl _))⟩
  rcases hq with hq | hq
  · obtain ⟨its, r', pl, hz⟩ := I.list hq
    have hlen := r'.length
    obtain ⟨o, ho, hc, n, hd⟩ := pl.isList
    exact call_list_seq p (.inl rfl) ho hc hd (fun h' c' kp e => fin its r' hz h' c' kp e) (by simp only [List.size_toArray] <;> omega)
  · obtain ⟨its, r', pl, hz⟩ := I.tuple hq
    have hlen := r'.length
    obtain ⟨o, ho, hc, n, hd⟩ := pl
    exact call_list_seq p (.inr rfl) ho hc hd (fun h' c' kp e => fin its r' hz h' c' kp e) (by simp only [List.size_toArray] <;> omega)
theorem qP : cL X (.type "tuple") (fun xs H Q => ∃ p ys, xs = [.ref p] ∧ ((bI X.K H p ys ∧ ∀ l, H l = none → Q (.ref l) (upd H l (.tup ys))) ∨ (bJ X.K H p ys ∧ Q (.ref p) H))) := by
  intro pins s σ H xs us Q I r h
  obtain ⟨p, ys, rfl, h⟩ := h
  obtain ⟨u, rfl, rx⟩ := vals1 r
  cases rx
  rcases h with ⟨hq, q⟩ | ⟨hq, q⟩
  · obtain ⟨its, r', pl, hz⟩ := I.list hq
    have hlen := r'.length
    refine call_tuple_list pl.isList (fun h' kp => ?_) (by simp only [List.size_toArray] <;> omega)
    have I1 : Inv X pins σ H { s with heap := h' } := I.kept (t' := s.toks) kp
    have I2 : Inv X pins σ (upd H h'.objs.size (.tup ys)) { s with heap := h'.push { cls := .type "tuple", data := .seq its.toArray } } :=
      I1.laid (t' := s.toks) (fun b o e => Heap.get?_push_of_some _ e) (Nat.le_refl _) (show bw X.prog X.w _ _ _ (.tup ys) from ⟨hz, its, r', hV.new _ _⟩)
    exact ⟨.ref h'.objs.size, _, I2, rfl, q _ (I1.hok.fresh (Nat.le_refl _))⟩
  · obtain ⟨its, r', pl, hz⟩ := I.tuple hq
    exact call_tuple_same pl ⟨.ref p, H, I, rfl, q⟩
noncomputable def GA (K : PySem.W.Frag) (T : String) (x : V) (H : Hp) : Prop := match x with
  | .str _ => T = "str"
  | .int _ => T = "int"
  | .ref p => (T = "list" ∧ ∃ xs, bI K H p xs) ∨ (T = "tuple" ∧ ((∃ o, K.lookup p = some o ∧ o.cls = .type "tuple" ∧ o.dict = none) ∨ ∃ xs, H p = some (.tup xs))) ∨
      (T = "dict" ∧ ((∃ bW, H p = some (.dK bW)) ∨ ∃ bW, H p = some (.dT bW))) ∨ (T = "set" ∧ ∃ S n, H p = some (.set S n))
  | _ => False
theorem GB {pins : List (Addr × Obj)} {σ : St} {H : Hp} {s : Shared} {T : String} {x : V} {v : Value} (I : Inv X pins σ H s) (r : RelV x v) (ty : GA X.K T x H) :
    s.TypeIs v T ∧ ∀ a, v = .ref a → ∃ ob, s.heap.get? a = some ob ∧ ob.dict = none := by
  cases x with
  | str z =>
    obtain ⟨t, rfl⟩ := r
    cases (show T = "str" from ty)
    exact ⟨typeIs_str s z t, fun _ e => nomatch e⟩
  | int i =>
    obtain ⟨t, rfl⟩ := r
    cases (show T = "int" from ty)
    exact ⟨typeIs_int s i t, fun _ e => nomatch e⟩
  | ref p =>
    cases r
    rcases ty with ⟨rfl, xs, hq⟩ | ⟨rfl, ⟨o, hk, hc, hd⟩ | ⟨xs, hk⟩⟩ | ⟨rfl, hk⟩ | ⟨rfl, S, n, hk⟩
    · obtain ⟨its, _, pl, _⟩ := I.list hq
      refine ⟨pl.isList.typeIs, fun a e => ?_⟩
      cases e
      obtain ⟨o, n, e, c, hd, _⟩ := pl
      exact ⟨o, e, hd⟩
    · refine ⟨⟨o, I.ej p o hk, hc⟩, fun a e => ?_⟩
      cases e
      exact ⟨o, I.ej _ o hk, hd⟩
    · obtain ⟨_, its, _, o, e, c, n, d, hd⟩ := I.hok p _ hk
      refine ⟨⟨o, e, c⟩, fun a e2 => ?_⟩
      cases e2
      exact ⟨o, e, hd⟩
    · have z : ∃ o, s.heap.get? p = some o ∧ o.ExactDict := by
        rcases hk with ⟨bW, hk⟩ | ⟨bW, hk⟩
        · obtain ⟨_, _, _, _, o, _, _, e, ex, _⟩ := I.hok p _ hk
          exact ⟨o, e, ex⟩
        · obtain ⟨_, _, _, _, o, _, _, e, ex, _⟩ := I.hok p _ hk
          exact ⟨o, e, ex⟩
      obtain ⟨o, e, ex⟩ := z
      refine ⟨⟨o, e, ex.1⟩, fun a e2 => ?_⟩
      cases e2
      exact ⟨o, e, ex.2.1⟩
    · obtain ⟨o, _, _, _, e, ex, _⟩ := I.hok p _ hk
      refine ⟨⟨o, e, ex.1⟩, fun a e2 => ?_⟩
      cases e2
      exact ⟨o, e, ex.2.1⟩
  | _ => exact False.elim ty
noncomputable def Lh (K : PySem.W.Frag) (T : String) (r : V → List V → Hp → VK → Prop) (to : TE) (t : TA) : TE := fun σ H Q => to σ H fun x H1 => GA K T x H1 ∧ t σ H1 fun xs H2 => r x xs H2 Q
variable {o e : Expr} {es : List Expr} {to : TE} {t : TA} {name : Str} {apos bu : Pos} {T id : String} {r : V → List V → Hp → VK → Prop}
theorem JZ (pa : PlainAttrs T) (slot : Slot T name id) (x8 : typeOf (.builtin id) = pure (.type "method_descriptor")) (hm : xY X id r) (ho : PE X o to) (ha : PA X (e :: es) t)
    (nR : attributeBase o name X.env (eval o X.env) = eval o X.env := by rfl)
    (rV : ((backTo bu (starEach (e :: es) X.env)).all (fun x => !x.1) && (backToKw bu (keywordEach [] X.env)).all (fun x => x.1.isSome)
      && decide ((e :: es).length + ([] : List Keyword).length + (if ([] : List Keyword).isEmpty then 0 else 1) < 30)) = true := by rfl)
    (hline : (apos.endLine == bu.line) = true := by rfl) (hs : starEach (e :: es) X.env = (false, eval e X.env) :: starEach es X.env := by rfl) (kY : (backTo bu (starEach es X.env)).any (·.1) = false := by rfl) :
    PE X (.Call (.Attribute o name apos) (e :: es) [] bu) (Lh X.K T r to t) := by
  refine ⟨?_⟩
  intro pins s σ H Q I h
  refine wpAny_Call_method_late nR rV hline rfl (thn (ho pins s σ H _ I h) fun v s1 ⟨x, H1, I1, r1, ty, q1⟩ => ?_)
  obtain ⟨h1, h2⟩ := GB I1 r1 ty
  refine ⟨T, id, pa, slot, x8, h1, h2, ?_⟩
  have hA := ha bu pins s1 σ H1 _ I1 q1
  rw [hs] at hA ⊢
  refine Calls.callWith_builtin (by show (false || (backTo bu (starEach es X.env)).any (·.1)) = false; rw [kY] <;> rfl) (Calls.evalArgs_plain ?_)
  exact thn hA fun us s2 ⟨vs, H2, I2, r2, q2⟩ => hm pins s2 σ H2 x vs v us Q I2 r1 r2 q2
end
noncomputable def GC (X : Cx) (id : String) (r : V → List V → Hp → VK → Prop) : Prop :=
  ∀ (pins : List (Addr × Obj)) (s : Shared) (σ : St) (H : Hp) (x : V) (xs : List V) (v : Value) (us : List Value) (Q : VK), Inv X pins σ H s → RelV x v → Vals xs us → r x xs H Q →
    wpAny (model X.prog X.w) X.A (call (.builtin id) (v :: us)) (EP X pins σ Q) X.xe s
theorem Vals.one : ∀ {x : V} {us : List Value}, Vals [x] us → ∃ u, us = [u] ∧ RelV x u
  | _, _, .cons r .nil => ⟨_, rfl, r⟩
theorem Vals.eraseIdx : ∀ {xs : List V} {us : List Value} (i : Nat), Vals xs us → Vals (xs.eraseIdx i) (us.eraseIdx i)
  | _, _, _, .nil => .nil
  | _, _, 0, .cons _ t => t
  | _, _, i + 1, .cons r t => .cons r (Vals.eraseIdx i t)
theorem Vals.rep {xs : List V} {us : List Value} (h : Vals xs us) : ∀ k : Nat, Vals (List.replicate k xs).flatten (List.replicate k us).flatten
  | 0 => .nil
  | k + 1 => by
    rw [List.replicate_succ, List.replicate_succ, List.flatten_cons, List.flatten_cons]
    exact Vals.append h (Vals.rep h k)
theorem p0 {α : Type} : ∀ (l : List α) (i : Nat), (l.eraseIdx i).length ≤ l.length
  | [], _ => Nat.le_refl _
  | _ :: _, 0 => Nat.le_succ _
  | _ :: r, i + 1 => Nat.succ_le_succ (p0 r i)
theorem foldl_rep (its : List Value) : ∀ (k : Nat) (acc : List Value),
    List.foldl (fun x1 x2 => x1 ++ x2) acc.toArray (List.replicate k its.toArray) = (acc ++ (List.replicate k its).flatten).toArray
  | 0, acc => by simp
  | k + 1, acc => by
    have e : acc.toArray ++ its.toArray = (acc ++ its).toArray := by simp
    have e2 : (acc ++ its) ++ (List.replicate k its).flatten = acc ++ (List.replicate (k + 1) its).flatten := by
      rw [List.replicate_succ, List.flatten_cons, List.append_assoc]
    rw [← e2, ← foldl_rep its k (acc ++ its), ← e, List.replicate_succ, List.foldl_cons]
section
variable {X : Cx} {pins : List (Addr × Obj)} {σ : St} {H : Hp} {s : Shared} {l b : Addr} {xs ys zs : List V}
theorem Inv.AI {its its' : List Value} {n : Nat} {f : Array Value → Array Value} {t' : Nat} (I : Inv X pins σ H s) (hH : H l = some (.lst xs))
    (e : s.heap.get? l = some { cls := .type "list", data := .seq its.toArray n }) (hf : f its.toArray = its'.toArray) (hv : Vals ys its') (hz : ys.length ≤ sizeLine) :
    Inv X pins σ (upd H l (.lst ys)) { s with heap := s.heap.update l (Obj.mapSeq f), toks := t' } := by
  have q := PySem.IsL.update e f
  rw [hf] at q
  refine I.write (x := l) (e := l) (by rw [hH]; exact trivial) (.inl rfl) (fun b' u hb hu => (Heap.get?_update_other s.heap (Obj.mapSeq f) (Ne.symm hb)).trans hu) ⟨_, q⟩ ?_
  exact ⟨hz, its', _, hv, q⟩
theorem Inv.MX {its : List Value} {t' : Nat} (I : Inv X pins σ H s) (hv : Vals ys its) (hz : ys.length ≤ sizeLine) :
    Inv X pins σ (upd H s.heap.objs.size (.lst ys)) { s with heap := s.heap.push { cls := .type "list", data := .seq its.toArray }, toks := t' } :=
  I.laid (fun _ _ q => Heap.get?_push_of_some _ q) (Nat.le_refl _) ⟨hz, its, 0, hv, Heap.get?_push_size _ rfl⟩
theorem Inv.fresh (I : Inv X pins σ H s) : H s.heap.objs.size = none := I.hok.fresh (Nat.le_refl _)
theorem Inv.kZ (I : Inv X pins σ H s) (hH : H l = some (.lst xs)) : xs.length ≤ sizeLine ∧ ∃ (its : List Value) (n : Nat), Vals xs its ∧ xs.length = its.length ∧ s.heap.get? l = some { cls := .type "list", data := .seq its.toArray n } := by
  obtain ⟨z, its, n, r, e⟩ := I.hok l _ hH
  exact ⟨z, its, n, r, r.length, e⟩
theorem AJ {n : Nat} (h : n ≤ sizeLine) : Builtin.List.listTooLong n = false := by
  unfold Builtin.List.listTooLong
  exact decide_eq_false (by omega)
end
section
variable {X : Cx}
noncomputable def DY : V → List V → Hp → VK → Prop := fun x vs H Q => ∃ l xs y, x = .ref l ∧ vs = [y] ∧ H l = some (.lst xs) ∧ xs.length < sizeLine ∧ Q .ao (upd H l (.lst (xs ++ [y])))
theorem k6 : GC X "list.append" DY := by
  intro pins s σ H x vs v us Q I rx rv h
  obtain ⟨l, xs, y, rfl, rfl, hH, hz, q⟩ := h
  cases rx
  obtain ⟨u, rfl, ru⟩ := rv.one
  obtain ⟨z, its, n, r, hl, e⟩ := I.kZ hH
  refine call_meets F.slot_list_append ⟨_, e, rfl⟩ F.entry_list_append (F.args_list_append_2 _ _) (PySem.list_append l its.toArray n u (by rw [List.size_toArray]; omega)) ⟨e, ?_⟩
  refine ⟨.ao, _, I.AI (its' := its ++ [u]) hH e (by simp) (r.append (.cons ru .nil)) ?_, rfl, q⟩
  rw [List.length_append, List.length_singleton]
  omega
noncomputable def DZ : V → List V → Hp → VK → Prop := fun x vs H Q => ∃ l b xs zs, x = .ref l ∧ vs = [.ref b] ∧ H l = some (.lst xs) ∧ H b = some (.lst zs) ∧ xs.length + zs.length ≤ sizeLine ∧ Q .ao (upd H l (.lst (xs ++ zs)))
theorem Li : GC X "list.extend" DZ := by
  intro pins s σ H x vs v us Q I rx rv h
  obtain ⟨l, b, xs, zs, rfl, rfl, hH, hB, hz, q⟩ := h
  cases rx
  obtain ⟨u, rfl, ru⟩ := rv.one
  cases ru
  obtain ⟨z, its, n, r, hl, e⟩ := I.kZ hH
  obtain ⟨z2, bP, n2, r2, gB, e2⟩ := I.kZ hB
  have hsz : its.toArray.size + bP.toArray.size ≤ sizeLine := by rw [List.size_toArray, List.size_toArray]; omega
  have J0 : ¬ (!its.toArray.isEmpty && Builtin.List.listTooLong (its.toArray.size + bP.toArray.size)) = true := by
    rw [AJ hsz, Bool.and_false]
    exact Bool.false_ne_true
  refine call_meets F.slot_list_extend ⟨_, e, rfl⟩ F.entry_list_extend (F.args_list_extend_2 _ _)
    (AutoSeq1.list_extend_list_list_0 l its.toArray n b bP.toArray n2 J0 (by rw [List.size_toArray]; omega) (by omega)) ⟨e, e2, ?_⟩
  refine ⟨.ao, _, I.AI (its' := its ++ bP) hH e (by simp) (r.append r2) ?_, rfl, q⟩
  rw [List.length_append]
  omega
noncomputable def GD : V → List V → Hp → VK → Prop := fun x vs H Q => ∃ l xs i k y, x = .ref l ∧ vs = [.int i] ∧ H l = some (.lst xs) ∧ -(2 ^ 63) ≤ i ∧ i < 2 ^ 63 ∧ seqIndex? i xs.length = some k ∧ xs[k]? = some y ∧ Q y (upd H l (.lst (xs.eraseIdx k)))
theorem AK : GC X "list.pop" GD := by
  intro pins s σ H x vs v us Q I rx rv h
  obtain ⟨l, xs, i, k, y, rfl, rfl, hH, h1, h2, hk, hy, q⟩ := h
  cases rx
  obtain ⟨u, rfl, ru⟩ := rv.one
  obtain ⟨t, rfl⟩ := ru
  obtain ⟨z, its, n, r, hl, e⟩ := I.kZ hH
  obtain ⟨w, hw, xZ⟩ := r.get hy
  refine call_meets F.slot_list_pop ⟨_, e, rfl⟩ F.entry_list_pop (F.args_list_pop_2 _ _)
    (MeetsSeq.list_pop_at l its.toArray n i t k w (fitsIndex_both h1 h2) (by rw [List.size_toArray, ← hl]; exact hk) (by rw [← Array.getElem?_toList]; exact hw) (by rw [List.size_toArray]; omega)) ⟨e, ?_⟩
  refine ⟨y, _, I.AI (its' := its.eraseIdx k) hH e ?_ (r.eraseIdx k) ?_, xZ, q⟩
  · show its.toArray.eraseIdxIfInBounds k = (its.eraseIdx k).toArray
    rw [List.eraseIdxIfInBounds_toArray]
  · have := p0 xs k
    omega
noncomputable def MY : R2 := fun x y H Q => ∃ l b xs zs, x = .ref l ∧ y = .ref b ∧ H l = some (.lst xs) ∧ H b = some (.lst zs) ∧ xs.length + zs.length ≤ sizeLine ∧ ∀ p, H p = none → Q (.ref p) (upd H p (.lst (xs ++ zs)))
theorem ya : OpR X (binaryOp .Add) MY := by
  intro pins s σ H x y v u Q I rx ry h
  obtain ⟨l, b, xs, zs, rfl, rfl, hH, hB, hz, q⟩ := h
  cases rx
  cases ry
  obtain ⟨z, its, n, r, hl, e⟩ := I.kZ hH
  obtain ⟨z2, bP, n2, r2, gB, e2⟩ := I.kZ hB
  refine PySem.P.add_list e e2 ?_ (by rw [List.size_toArray, List.size_toArray]; omega)
  have ea : its.toArray ++ bP.toArray = (its ++ bP).toArray := by simp
  rw [ea]
  exact ⟨.ref _, _, I.MX (t' := s.toks) (r.append r2) (by rw [List.length_append]; omega), rfl, q _ I.fresh⟩
theorem len_rep {α : Type} (xs : List α) (k : Nat) : (List.replicate k xs).flatten.length = k * xs.length := by
  induction k with
  | zero => simp
  | succ k ih => rw [List.replicate_succ, List.flatten_cons, List.length_append, ih, Nat.succ_mul, Nat.add_comm]
end
end L2
namespace Lj
open PySem PySem.W PySem.Calls PyProof.Rows
theorem nS {P : Params} {h : Heap} : ∀ (ns : List Int) (vs : List Value), WellAll P h vs (ns.map WData.int) → IntsAre vs ns := by
  intro ns
  induction ns with
  | nil =>
    intro vs w
    rw [List.map_nil] at w
    cases w
    exact .nil
  | cons n ns ih =>
    intro vs w
    rw [List.map_cons] at w
    cases w with
    | cons a b =>
      cases a
      exact .cons _ _ (ih _ b)
theorem yb {l : OpenLaw} {n : Nat} (hn : l.most = some n) {P : Params} {h : Heap} {args : List WData} {vals : List Value}
    (vQ : l.row.toRowW.claim.pre args = true) (GF : WellAll P h vals args) :
    ∃ a vs ns, vals = [Value.ref a] ∧ args = [WData.list (ns.map WData.int)] ∧ h.get? a = some { cls := .type "list", data := .seq vs.toArray } ∧ IntsAre vs ns ∧ ns.length ≤ n := by
  have Ol : WShape.hasAll [] args [.list .int] = true := (pre_splitW vQ).1
  have hc : l.pre.holds [] { args := args } = true := (pre_splitW vQ).2
  obtain ⟨d, r, rfl, h1, h2⟩ := hasAllW_cons Ol
  obtain rfl := hasAllW_nil h2
  obtain ⟨xs, rfl, h3⟩ := hasW_list h1
  obtain ⟨ns, rfl⟩ := items_int h3
  have hlen : ns.length ≤ n := by
    unfold OpenLaw.pre at hc
    have h4 : (WTm.not (.lt (.lit (.int (n : Int))) (.len (.arg 0)))).holds [] { args := [.list (ns.map .int)] } = true := by
      have h4 := (holds_andW hc).1
      rw [hn] at h4
      exact h4
    have h5 := condW_of h4 (w_not (w_lt w_lit (w_len_list (w_arg rfl))))
    rw [List.length_map] at h5
    refine Nat.le_of_not_lt fun q => ?_
    have q' : (n : Int) < ((ns.length : Nat) : Int) := by omega
    first
      | (rw [decide_eq_true q'] at h5; exact absurd h5 (by decide))
      | (simp at h5; omega)
  cases GF with
  | cons w1 w2 =>
    cases w2
    cases w1 with
    | list ho MZ => exact ⟨_, _, ns, rfl, rfl, ho, nS ns _ MZ, hlen⟩
theorem yc (l : OpenLaw) (args : List WData) : l.row.toRowW.claim.post args (.bool true) args = true :=
  postW_of (r := l.row.toRowW) (X := (true == true))
    (show WShape.has [] (.bool true) .bool = true by first | rfl | decide | simp [WShape.has, WShape.arms, WShape.armsAll])
    (show (WTm.eq .res (.lit (.bool true))).value [] { args := args, res := some (.bool true), after := args } = some (.bool (true == true)) from w_eq_bool (w_res rfl) w_lit) rfl
theorem t6 {l : OpenLaw} {n : Nat} {q : Program} {loose : List Str} {XP : (Str → Option Value) → Heap → Prop} {YP : World → Heap → Prop} {d : DefRec}
    (hn : l.most = some n) (ye : d.params.defaults = [])
    (call : ∀ (w : World) (s₀ au : Shared) (mg mb : Str → Option Value) (fa : Addr) (o : Obj) (pm cd doc : Value) (a : Addr) (vs : List Value) (ns : List Int),
      Ground q loose [] XP w s₀ mg mb au.heap → YP w au.heap →
      au.heap.get? fa = some o → o.data = .func (docDef d.name d.params d.body d.scope pm cd doc) → au.heap.CodeRec cd d.name → mg d.name = some (.ref fa) →
      au.heap.get? a = some { cls := .type "list", data := .seq vs.toArray } → IntsAre vs ns → ns.length ≤ n → au.gens = #[] →
      codeAny (model l.prog w) callerA (.call (.ref fa) ⟨[.ref a], []⟩) (fun r s' => r = .ok (.ret (.bool true)) ∧ OldK au.heap s'.heap ∧ s'.os = au.os ∧ AllBare s'.gens) au) :
    WalkO q loose XP YP l.row.toRowW d [] (fun f vs => PySem.call f vs) := by
  intro w s₀ au mg mb G Y fa o pm cd doc dV kV ho hd dM hD yf hg args vals as vQ QC QN GF QO
  obtain rfl : dV = .none := Dflts.none hD ye
  obtain rfl : kV = .none := Dflts.noKw hD
  obtain ⟨a, vs, ns, rfl, rfl, gD, hints, hlen⟩ := yb hn vQ GF
  refine enter_call (codeAny_mono (call w s₀ au mg mb fa o pm cd doc a vs ns G Y ho (fd_plain hd) dM yf gD hints hlen hg) fun r s' hq => ?_)
  obtain ⟨rfl, h2, h3, h4⟩ := hq
  exact ⟨.inl ⟨.bool true, .bool true, [], rfl, fun _ => rfl, .bool true, yc l _, fun _ => ⟨List.Pairwise.nil, fun _ hm => (nomatch hm)⟩⟩, h2, h3, h4⟩
end Lj
namespace L2
open PySem PySem.Spec PyProof.Rows
theorem p8 : ∀ {vs : List Value} {ns : List Int}, IntsAre vs ns → Vals (ns.map V.int) vs
  | _, _, .nil => .nil
  | _, _, .cons n t h => .cons ⟨t, rfl⟩ (p8 h)
noncomputable def cz (s : Stmt) : Arguments := match s with
  | .FunctionDef _ a _ _ _ _ _ _ _ _ => a
  | _ => { posonlyargs := [], args := [], vararg := none, kwonlyargs := [], kw_defaults := [], kwarg := none, defaults := [] }
noncomputable def bD (s : Stmt) : List Stmt := match s with
  | .FunctionDef _ _ b _ _ _ _ _ _ _ => b
  | _ => []
noncomputable def ai (s : Stmt) : Scope := match s with
  | .FunctionDef _ _ _ _ _ _ sc _ _ _ => sc
  | _ => { kind := .function, names := [], isGenerator := false, isCoroutine := false }
noncomputable abbrev bt : eu := fun _ _ _ _ _ _ => False
noncomputable abbrev E0 : XK := fun _ _ _ => False
theorem bb {X : Cx} : Passes bt X E0 := fun _ _ _ _ _ _ _ h => h.elim
structure qa (K : PySem.W.Frag) (x qual : Str) (st : Stmt) (f : Addr) (fd : FuncData) : Prop where
  ex : ∃ (oc : Value) (od : Option Addr) (kV doc pm : Value) (an : Option Addr) (bK ct : Value) (gh : Array (Option Value)),
    fd = PySem.W.fnOf x qual (cz st) (bD st) (ai st) .none kV doc pm an bK ct ∧ K.lookup f = some ⟨oc, od, .func fd, gh⟩ ∧ PySem.W.codeIn K bK qual = true
  kp : PySem.W.keepIn K (.ref f) = true
section
variable {P : Program} {w : World} {K : PySem.W.Frag} {mg : Str → Option Value} {base : Heap}
theorem qa.binds {x qual : Str} {st : Stmt} {f : Addr} {fd : FuncData} {ps : List Str} (F : qa K x qual st f fd)
    (h : ∀ (kV doc pm : Value) (an : Option Addr) (bK ct : Value) (us : List Value), us.length = ps.length → bindArgs (PySem.W.fnOf x qual (cz st) (bD st) (ai st) .none kV doc pm an bK ct) ⟨us, []⟩ = pure (ps.zip us)) : Binds K fd ps [] := by
  obtain ⟨oc, od, kV, doc, pm, an, bK, ct, gh, rfl, lk, dM⟩ := F.ex
  exact .all (h kV doc pm an bK ct)
theorem GH {x qual : Str} {st : Stmt} {f : Addr} {oc : Value} {od an : Option Addr} {gh : Array (Option Value)} {kV doc pm bK ct : Value} (l : K.lookup f = some ⟨oc, od, .func (PySem.W.fnOf x qual (cz st) (bD st) (ai st) .none kV doc pm an bK ct), gh⟩)
    (c : PySem.W.codeIn K bK qual = true) (k : PySem.W.keepIn K (.ref f) = true) : qa K x qual st f (PySem.W.fnOf x qual (cz st) (bD st) (ai st) .none kV doc pm an bK ct) := ⟨⟨oc, od, kV, doc, pm, an, bK, ct, gh, rfl, l, c⟩, k⟩
end
end L2
set_option maxHeartbeats 4000000
namespace L2
open PySem PySem.Spec PyProof.Rows
theorem j4 {env : Env} : ∀ (names : List (Str × NameKind)) (acc : List (Str × Addr)), (∀ n, (n, NameKind.free) ∈ names → ∃ c, env.cells.lookup n = some c) →
    (∀ n c, acc.lookup n = some c → env.cells.lookup n = some c) →
    ∃ cl, (forIn names acc fun x r => if (x.2 == NameKind.free) = true then (do let a ← cellOf env x.1; pure (ForInStep.yield ((x.1, a) :: r))) else pure (ForInStep.yield r) : Sem (List (Str × Addr))) = pure cl ∧
      (∀ n c, cl.lookup n = some c → env.cells.lookup n = some c) ∧ (∀ n, (n, NameKind.free) ∈ names → ∃ c, cl.lookup n = some c) ∧ (∀ n c, acc.lookup n = some c → ∃ c', cl.lookup n = some c')
  | [], acc, _, h2 => ⟨acc, rfl, h2, fun n h => by simp at h, fun n c h => ⟨c, h⟩⟩
  | (n, k) :: r, acc, h1, h2 => by
    rw [List.forIn_cons]
    cases hk : (k == NameKind.free) with
    | true =>
      have ek : k = NameKind.free := by simpa using hk
      subst ek
      obtain ⟨c, hc⟩ := h1 n List.mem_cons_self
      have e1 : cellOf env n = pure c := by unfold cellOf; rw [hc]
      obtain ⟨cl, e, a1, a2, a3⟩ := j4 r ((n, c) :: acc) (fun m hm => h1 m (List.mem_cons_of_mem _ hm)) (fun m c' hm => by
        rw [List.lookup_cons] at hm
        cases hb : m == n with
        | true =>
          rw [hb] at hm
          have e2 : m = n := by simpa using hb
          rw [e2, hc]; exact hm
        | false => rw [hb] at hm; exact h2 m c' hm)
      refine ⟨cl, ?_, a1, fun m hm => ?_, fun m c' hm => ?_⟩
      · simp only [if_true, e1]
        exact e
      · rcases List.mem_cons.mp hm with z | z
        · cases z
          exact a3 n c (by rw [List.lookup_cons]; simp)
        · exact a2 m z
      · by_cases hb : m = n
        · subst hb
          exact a3 m c (by rw [List.lookup_cons]; simp)
        · exact a3 m c' (by
            rw [List.lookup_cons]
            have : (m == n) = false := by simpa using hb
            rw [this]; exact hm)
    | false =>
      obtain ⟨cl, e, a1, a2, a3⟩ := j4 r acc (fun m hm => h1 m (List.mem_cons_of_mem _ hm)) h2
      refine ⟨cl, ?_, a1, fun m hm => ?_, a3⟩
      · simp only [Bool.false_eq_true, if_false]
        exact e
      · rcases List.mem_cons.mp hm with z | z
        · cases z; simp at hk
        · exact a2 m z
theorem gj {scope : Scope} {env : Env} (h : ∀ n, (n, NameKind.free) ∈ scope.names → ∃ c, env.cells.lookup n = some c) :
    ∃ cl, closureFor scope env = pure cl ∧ (∀ n c, cl.lookup n = some c → env.cells.lookup n = some c) ∧ (∀ n, (n, NameKind.free) ∈ scope.names → ∃ c, cl.lookup n = some c) := by
  obtain ⟨cl, e, a1, a2, _⟩ := j4 (env := env) scope.names [] h (fun n c hn => by simp at hn)
  refine ⟨cl, ?_, a1, a2⟩
  simp only [closureFor]
  rw [e]
  rfl
noncomputable def cxBlock (X : Cx) (N' : List Str) (env' : Env) (A' : Around) (stack' : List Env) (s : Shared) (H : Hp) (ex : List Addr) : Cx :=
  { X with N := N', s₀ := s, H₀ := H, env := env', A := A', outer := X.stack, stack := stack', ex := ex, fn := fun _ => false, pn := [], xe := fun _ _ => False }
theorem qb {X : Cx} {pins : List (Addr × Obj)} {σ aA : St} {H H' : Hp} {s : Shared} {N' : List Str} {env' : Env} {A' : Around} {stack' : List Env} {ex : List Addr} {h1 : Heap} {m0 : Str → Option Value} {g' : Array GenState} {tk : Nat}
    (I : Inv X pins σ H s) (jm : env'.scope.kind = .function) (J4 : env'.globals = X.env.globals) (M6 : env'.builtins = X.env.builtins)
    (c9 : ∀ n c, env'.cells.lookup n = some c → X.env.cells.lookup n = some c)
    (dO : ∀ x, (env'.kindOf x = some .cell ∨ env'.kindOf x = some .free) → ∃ c, env'.cells.lookup x = some c)
    (hh : X.calm = true → A'.handled = none) (yg : A'.frames = some stack') (M7 : stack' = X.stack ∨ (stack' = env' :: X.stack ∧ env'.frame = some env'.locals))
    (hC : s.heap.objs.size ≤ env'.locals) (hf : ∀ b ∈ ex, dN X pins H b) (vR : ∀ b ∈ ex, b < s.heap.objs.size)
    (yh : Un (dJ X.stack) ex H H' s.heap h1) (hok : di X.prog X.w H' h1) (rW : H' env'.locals = none) (nU : ∀ b o, s.heap.get? b = some o → h1.get? b = some o) (fR : h1.Ns env'.locals m0)
    (rX : ∀ (i : Nat) (x : Str) (v : V), N'[i]? = some x → aA[i]? = some (some v) → nE env'.scope x → (env'.kindOf x = some .cell ∨ env'.kindOf x = some .free) ∧ nE X.env.scope x ∧ (X.env.kindOf x = some .cell ∨ X.env.kindOf x = some .free) ∧ ∃ j : Nat, X.N[j]? = some x ∧ σ[j]? = some (some v))
    (hlen : aA.length = N'.length) (hg : Gn s.gens.size g') : Inv (cxBlock X N' env' A' stack' s H ex) [] aA H' { s with heap := h1, gens := g', toks := tk } := by
  have yi : ∀ b ∈ ex, ∀ x c, X.env.cells.lookup x = some c → c ≠ b := fun b hb => (hf b hb).2.2.2.2.1
  refine ⟨⟨I.ok.mod, jm, J4.trans I.ok.glob, M6.trans I.ok.blt, hC, fun x y c a b => I.ok.inj x y c (c9 x c a) (c9 y c b), dO, fun _ _ z => (nomatch z), hh, yg, M7, fun b hb => ⟨Nat.ne_of_lt (Nat.lt_of_lt_of_le (vR b hb) hC), fun x c e => yi b hb x c (c9 x c e)⟩,
      I.bs, Nat.le_trans I.ok.bsz I.sz, fun b o e hb => ?_, fun b hb z => ?_, I.stack, I.jL⟩, rfl, hg, yh, ⟨m0, fR, fun i x v e1 e2 e3 => ?_⟩, fun x c e => ?_, rW, fun x c e => ?_, fun p hp => absurd (show p ∈ ([] : List (Addr × Obj)) from hp) (by simp), hok, hlen⟩
  · rcases (hf b hb).2.2.2.1 with z | z
    · exact I.ok.noex b o e z
    · exact absurd (Nat.lt_of_lt_of_le (Heap.lt_size e) (Nat.le_trans I.ok.bsz z)) (Nat.lt_irrefl _)
  · rcases List.mem_cons.mp (I.fu b z) with q | q
    · exact (hf b hb).2.1 q
    · exact (hf b hb).2.2.1 q
  · obtain ⟨k1, vx, k2, j, n1, n2⟩ := rX i x v e1 e2 e3
    obtain ⟨m, hn, hl⟩ := I.loc
    obtain ⟨u, r, l⟩ := hl j x v n1 n2 vx
    refine ⟨u, r, .inr ⟨k1, ?_⟩⟩
    obtain ⟨c', yj⟩ := dO x k1
    rcases l with ⟨kl, _⟩ | ⟨_, c, ec, z⟩
    · rcases k2 with q | q <;> (rw [kl] at q; cases q)
    · have : c' = c := Option.some.inj ((c9 x c' yj).symm.trans ec)
      subst this
      exact ⟨c', yj, z.keeps nU⟩
  · obtain ⟨v, z⟩ := I.cell x c (c9 x c e)
    exact ⟨v, z.keeps nU⟩
  · obtain ⟨v, o, ho, hd⟩ := I.cell x c (c9 x c e)
    exact yh.free c o ho (I.freeC x c (c9 x c e)) fun z => yi c z x c (c9 x c e) rfl
theorem lookup_map2 {c : Str → NameKind → NameKind} : ∀ {names : List (Str × NameKind)} {x : Str}, (names.map fun (p : Str × NameKind) => (p.1, c p.1 p.2)).lookup x = (names.lookup x).map (c x)
  | [], x => rfl
  | (n, k') :: r, x => by
    have ih := @lookup_map2 c r x
    rw [List.map_cons, List.lookup_cons, List.lookup_cons]
    cases hx : x == n with
    | true =>
      have e : x = n := by simpa using hx
      subst e
      rfl
    | false => exact ih
theorem eS {scope : Scope} {env : Env} (x : Str) : (relabel scope env).names.lookup x = (scope.names.lookup x).map fun k => if (k == .free && env.scope.kind == .function && env.kindOf x == some .cell) = true then .cell else k := by
  have e : (relabel scope env).names = scope.names.map fun p => (p.1, (fun n k => if (k == NameKind.free && env.scope.kind == .function && env.kindOf n == some .cell) = true then NameKind.cell else k) p.1 p.2) := by
    unfold relabel
    dsimp only
    congr 1
    funext p
    obtain ⟨n, k⟩ := p
    dsimp only
    split <;> rfl
  rw [e]
  exact lookup_map2 (c := fun n k => if (k == NameKind.free && env.scope.kind == .function && env.kindOf n == some .cell) = true then NameKind.cell else k)
noncomputable def aK (N : List Str) (sc scope : Scope) (N' : List Str) (tn : Nat) (idx : List Nat) : Prop :=
  scope.kind = .function ∧ (∀ y ∈ scope.names, y.2 ≠ .cell ∧ (y.2 = .local → scope.names.lookup y.1 = some .local) ∧ (y.2 = .free → sc.names.lookup y.1 = some .cell ∨ sc.names.lookup y.1 = some .free)) ∧
    N'.length = tn + idx.length ∧ ∀ p ∈ idx.zip (N'.drop tn), N[p.1]? = some p.2 ∧ scope.names.lookup p.2 = some .free
instance (N : List Str) (sc scope : Scope) (N' : List Str) (tn : Nat) (idx : List Nat) : Decidable (aK N sc scope N' tn idx) := by unfold aK; infer_instance
noncomputable def bE (tn : Nat) (idx : List Nat) (σ : St) : St := List.replicate tn none ++ idx.map fun i => (σ[i]?).join
theorem aK.at {N : List Str} {sc scope : Scope} {N' : List Str} {tn : Nat} {idx : List Nat} (B : aK N sc scope N' tn idx) {σ : St} {i : Nat} {x : Str} {v : V} (h1 : N'[i]? = some x) (h2 : (bE tn idx σ)[i]? = some (some v)) :
    scope.names.lookup x = some .free ∧ ∃ j : Nat, N[j]? = some x ∧ σ[j]? = some (some v) := by
  obtain ⟨_, _, b3, b4⟩ := B
  unfold bE at h2
  by_cases hi : i < tn
  · rw [List.getElem?_append_left (by simpa using hi), List.getElem?_replicate, if_pos hi] at h2
    cases h2
  · rw [List.getElem?_append_right (by simpa using hi), List.length_replicate, List.getElem?_map] at h2
    cases e : idx[i - tn]? with
    | none => rw [e] at h2; cases h2
    | some k =>
      rw [e] at h2
      have h3 : (σ[k]?).join = some v := Option.some.inj h2
      have e2 : (N'.drop tn)[i - tn]? = some x := by
        rw [List.getElem?_drop]
        have : tn + (i - tn) = i := by omega
        rw [this]; exact h1
      have m : (k, x) ∈ idx.zip (N'.drop tn) := by
        refine List.mem_of_getElem? (i := i - tn) ?_
        rw [List.getElem?_zip_eq_some]
        exact ⟨e, e2⟩
      obtain ⟨a, b⟩ := b4 _ m
      refine ⟨b, k, a, ?_⟩
      cases q : σ[k]? with
      | none => rw [q] at h3; cases h3
      | some w => rw [q] at h3; exact congrArg some h3
theorem aK.len {N : List Str} {sc scope : Scope} {N' : List Str} {tn : Nat} {idx : List Nat} (B : aK N sc scope N' tn idx) (σ : St) : (bE tn idx σ).length = N'.length := by
  rw [B.2.2.1]
  unfold bE
  simp
section
variable {X : Cx}
noncomputable def jO (X : Cx) (ifs : List Expr) (tt : TT) : Prop :=
  ∀ (pins : List (Addr × Obj)) (s : Shared) (σ : St) (H : Hp) (Q : Bool → Hp → Prop), Inv X pins σ H s → tt σ H Q →
    wpAny (model X.prog X.w) X.A (forIn ifs true fun c r => if r = true then do let ok ← isTrue c X.env (eval c X.env); pure (ForInStep.yield ok) else pure (ForInStep.yield r)) (TP X pins σ Q) X.xe s
noncomputable def J5 : TT := fun _ H Q => Q true H
theorem D0 : jO X [] J5 := fun _ _ _ H _ I h => wpAny_tests_nil ⟨H, I, h⟩
theorem D1 {c : Expr} {tc : TT} (h : PT X c tc) : jO X [c] tc := fun pins s σ H Q I q => wpAny_tests_one (h pins s σ H Q I q)
noncomputable abbrev mH (X : Cx) (N' : List Str) (scope : Scope) (cl : List (Str × Addr)) (C : Addr) (s : Shared) (H : Hp) (fp : List Addr) : Cx := cxBlock X N' (compEnvC scope cl C X.env) X.A X.stack s H fp
noncomputable abbrev Blk (X : Cx) (N' : List Str) (scope : Scope) (P : Cx → Prop) : Prop := ∀ (cl : List (Str × Addr)) (C : Addr) (s : Shared) (H : Hp) (fp : List Addr), P (mH X N' scope cl C s H fp)
noncomputable def vT (J : It) (g : TG) (tt : TT) (te : TE) (D : Addr) (Q : VK) (W : Nat → Nat → St → Hp → Prop) : Prop := ∀ i m τ H, W i m τ H →
  (J.stop i H ∧ Q (.ref D) H) ∨ (J.go i H ∧ ∀ x H', J.yld i H x H' → g x τ H' fun aE H2 => tt aE H2 fun b H3 => if b = true then te aE H3 fun y H4 => ∃ ys m', H4 D = some (.lst ys) ∧ ys.length < sizeLine ∧ m' < m ∧ W (i + 1) m' aE (upd H4 D (.lst (ys ++ [y]))) else ∃ m', m' < m ∧ W (i + 1) m' aE H3)
noncomputable def nV (tn : Nat) (idx : List Nat) (wi : TI) (g : TG) (tt : TT) (te : TE) : TE := fun σ H Q => wi σ H fun J H1 => ∀ D, H1 D = none → ∃ W : Nat → Nat → St → Hp → Prop, (∃ m, W 0 m (bE tn idx σ) (upd H1 D (.lst []))) ∧ vT J g tt te D Q W
theorem qd {pins : List (Addr × Obj)} {σ : St} {H2 : Hp} {s2 : Shared} {tg elt iter : Expr} {ifs : List Expr} {scope : Scope} {pos : Pos} {N' : List Str} {tn : Nat} {idx : List Nat} {g : TG} {tt : TT} {te : TE} {it : Addr} {fp : List Addr} {dm : Nat → Heap → Prop} {J : It}
    {cl : List (Str × Addr)} {E : Value → Shared → Prop} {RR : Value → Addr → Result → Shared → Prop} {Q : VK}
    (hc : X.calm = true) (B : aK X.N X.env.scope scope N' tn idx)
    (hg : Blk X N' scope fun Y => PG Y tg g) (ht : Blk X N' scope fun Y => jO Y ifs tt) (he : Blk X N' scope fun Y => PE Y elt te)
    (I : Inv X pins σ H2 s2) (T : Turn X.prog X.w X.K tg J fp it dm) (st : dm 0 s2.heap) (f2 : ∀ b ∈ fp, dN X pins H2 b)
    (dP : ∀ n c, cl.lookup n = some c → X.env.cells.lookup n = some c) (gm : ∀ n, (n, NameKind.free) ∈ scope.names → ∃ c, cl.lookup n = some c)
    (hq : ∀ D, H2 D = none → ∃ W : Nat → Nat → St → Hp → Prop, (∃ m, W 0 m (bE tn idx σ) (upd H2 D (.lst []))) ∧ vT J g tt te D Q W)
    (GI : ∀ D C m s' H', Inv X pins σ H' s' → dN X pins H' C → s'.heap.Ns C m → Q (.ref D) H' → RR (.ref D) C (.ok .next) s') :
    wpAny (model X.prog X.w) X.A (newList []) (fun acc gE => wpAny (model X.prog X.w) X.A (newFunctionEnv scope X.env.globals cl [] X.env.qual none .none (some X.env)) (fun rY AO =>
      codeAny (model X.prog X.w) X.A (.compStart (.ListComp elt [⟨tg, iter, ifs, 0⟩] scope pos) 0 (.ref it) acc { rY with scope := relabel scope X.env }) (RR acc rY.locals) AO) E gE) E s2 := by
  obtain ⟨b1, b2, b3, b4⟩ := id B
  refine wpAny_newObj_type (wpAny_newFunctionEnv (fun y hy => (b2 y hy).1) (by intro y hy; simp at hy) (fun gp k7 nW => ?_) b1)
  dsimp only at k7 nW ⊢
  generalize hG : s2.heap.push { cls := .type "list", dict := none, data := .seq ([] : List Value).toArray } = G at k7 nW ⊢
  have hC : G.objs.size = s2.heap.objs.size + 1 := by rw [← hG, Heap.size_push]
  have CM : s2.heap.objs.size ≠ G.objs.size := by rw [hC]; exact Nat.ne_of_lt (Nat.lt_succ_self _)
  have j5 : s2.heap.objs.size ≤ G.objs.size := by rw [hC]; exact Nat.le_succ _
  have below : ∀ b, b < s2.heap.objs.size → b ≠ G.objs.size := fun b hb => by rw [hC]; exact Nat.ne_of_lt (Nat.lt_succ_of_lt hb)
  have old : ∀ b o, s2.heap.get? b = some o → gp.get? b = some o := fun b o e => nW.extBut b o (below b (Heap.lt_size e)) (Heap.get?_push_of_some _ (hG ▸ Heap.get?_push_of_some _ e))
  have GJ : gp.get? s2.heap.objs.size = some { cls := .type "list", data := .seq ([] : List Value).toArray } := nW.extBut _ _ CM (Heap.get?_push_of_some _ (hG ▸ Heap.get?_push_size _ rfl))
  have yk : H2 s2.heap.objs.size = none := I.hok.fresh (Nat.le_refl _)
  have rW : upd H2 s2.heap.objs.size (.lst []) G.objs.size = none := by rw [ak (Ne.symm CM)]; exact I.hok.fresh j5
  have AQ : di X.prog X.w (upd H2 s2.heap.objs.size (.lst [])) gp := I.hok.laid old (Nat.le_refl _) ⟨Nat.zero_le _, [], 0, .nil, GJ⟩
  have kG : ∀ b ∈ fp, b < s2.heap.objs.size := fun b hb => let ⟨o, e, _⟩ := T.obj _ _ st b hb; Heap.lt_size e
  obtain ⟨W, ⟨m0, w0⟩, turn⟩ := hq s2.heap.objs.size yk
  have I1 : Inv (mH X N' scope cl G.objs.size s2 H2 fp) [] (bE tn idx σ) (upd H2 s2.heap.objs.size (.lst [])) { s2 with heap := gp, toks := s2.toks + ([] : List (Str × Value)).length } := by
    refine qb (g' := s2.gens) (m0 := fun x => ([] : List (Str × Value)).reverse.lookup x) I b1 rfl rfl dP (fun x hx => ?_) (fun z => I.ok.hd z) I.ok.frames (.inl rfl) j5 f2 kG (Un.laid old (Nat.le_refl _) yk) AQ rW old k7 (fun i x v e1 e2 e3 => ?_) (B.len σ) I.bare.self
    · have k8 : (relabel scope X.env).names.lookup x = some .cell ∨ (relabel scope X.env).names.lookup x = some .free := hx
      rw [eS] at k8
      cases q : scope.names.lookup x with
      | none => rw [q] at k8; rcases k8 with z | z <;> cases z
      | some k0 =>
        have hm := PySem.mem_of_lookup q
        rw [q] at k8
        by_cases hk : k0 = .free
        · subst hk; exact gm x hm
        · have nk : (k0 == NameKind.free) = false := by simpa using hk
          have nc := (b2 _ hm).1
          simp only [Option.map_some, nk, Bool.false_and, Bool.false_eq_true, if_false] at k8
          rcases k8 with z | z
          · exact absurd (Option.some.inj z) nc
          · exact absurd (Option.some.inj z) hk
    · obtain ⟨fr, j, e4, e5⟩ := B.at e1 e2
      have kx := (b2 _ (PySem.mem_of_lookup fr)).2.2 rfl
      refine ⟨?_, .inr kx, kx, j, e4, e5⟩
      show (relabel scope X.env).names.lookup x = some .cell ∨ (relabel scope X.env).names.lookup x = some .free
      rw [eS, fr]
      simp only [Option.map_some]
      split
      · exact .inl rfl
      · exact .inr rfl
  have stat : ∀ {H' : Hp}, (∀ b ∈ fp, H' b = none) → ∀ b ∈ fp, dN (mH X N' scope cl G.objs.size s2 H2 fp) [] H' b := fun hn b hb => by
    refine ⟨hn b hb, below b (kG b hb), fun z => ?_, .inl hb, fun x c e => (f2 b hb).2.2.2.2.1 x c (dP x c e), fun p hp => absurd (show p ∈ ([] : List (Addr × Obj)) from hp) (by simp)⟩
    rcases List.mem_cons.mp (I.fu b z) with q | q
    · exact (f2 b hb).2.1 q
    · exact (f2 b hb).2.2.1 q
  have loop : ∀ gE : Shared, gE = { s2 with heap := gp, toks := s2.toks + ([] : List (Str × Value)).length } →
      codeAny (model X.prog X.w) X.A (.compLoop (.ListComp elt [⟨tg, iter, ifs, 0⟩] scope pos) 0 (.ref it) (.ref s2.heap.objs.size) (compEnvC scope cl G.objs.size X.env))
        (RR (.ref s2.heap.objs.size) G.objs.size) gE := by
    rintro gE rfl
    refine codeAny_loop rfl (fun n s' => ∃ i τ H', Inv (mH X N' scope cl G.objs.size s2 H2 fp) [] τ H' s' ∧ dm i s'.heap ∧ (∀ b ∈ fp, H' b = none) ∧ W i n τ H') (fun n s hI => ?_) m0
      ⟨0, _, _, I1, T.keep _ _ _ st fun b _ o e => old b o e, fun b hb => by rw [ak (Nat.ne_of_lt (kG b hb))]; exact (f2 b hb).1, w0⟩
    show wpAny _ X.A ((compTurn (.ListComp elt [⟨tg, iter, ifs, 0⟩] scope pos) 0 (.ref it) (.ref s2.heap.objs.size) (compEnvC scope cl G.objs.size X.env)).onRaise (fun x => do noteFrame x (compEnvC scope cl G.objs.size X.env); theTreesLotGoes x)) _ _ s
    refine wpAny_noted ?_
    rw [compTurn_list]
    obtain ⟨i, τ, H3, I3, kT, pS, w3⟩ := hI
    rcases turn i n τ H3 w3 with ⟨stop, qn⟩ | ⟨go, step⟩
    · refine wpAny_bind (wpAny_standAt (wpAny_bind (wpAny_mono (T.done (mH X N' scope cl G.objs.size s2 H2 fp) rfl rfl rfl hc i [] s τ H3 (fun _ _ => False) I3 (stat pS) kT stop) (fun r s4 ⟨hr, I4⟩ => ?_) fun _ _ z => z.elim)))
      subst hr
      refine wpAny_pure ?_
      have J2 : Inv X pins σ H3 s4 := I.mh I4.os I4.base I4.hok I4.bare fun b hb => ⟨(f2 b hb).2.2.2.1, (f2 b hb).2.1, (f2 b hb).2.2.2.2.1, (f2 b hb).2.2.2.2.2⟩
      obtain ⟨mm, hm, _⟩ := I4.loc
      exact GI _ _ mm s4 H3 J2 (I.kR j5 I4.free) hm qn
    · refine wpAny_bind (wpAny_standAt (wpAny_bind (wpAny_mono (T.item (mH X N' scope cl G.objs.size s2 H2 fp) rfl rfl rfl hc i [] s τ H3 (fun _ _ => False) I3 (stat pS) kT go) (fun r s4 ⟨u, hr, h4⟩ => ?_) fun _ _ z => z.elim)))
      subst hr
      refine wpAny_bind (wpAny_mono h4 (fun _ s5 ⟨x, H5, I5, r5, y5, iN, rO⟩ => ?_) fun _ _ z => z.elim)
      have rP := I5.pinned (stat rO) (T.obj _ _ iN)
      have again : ∀ {kI : St} {H7 : Hp} {s7 : Shared}, Inv (mH X N' scope cl G.objs.size s2 H2 fp) ([] ++ iM fp s5.heap) kI H7 s7 → (∃ m', m' < n ∧ W (i + 1) m' kI H7) →
          ∃ m, m < n ∧ ∃ i τ H', Inv (mH X N' scope cl G.objs.size s2 H2 fp) [] τ H' s7 ∧ dm i s7.heap ∧ (∀ b ∈ fp, H' b = none) ∧ W i m τ H' := fun {kI H7 s7} I7 n7 => by
        obtain ⟨m', hm, w7⟩ := n7
        refine ⟨m', hm, i + 1, kI, H7, I7.eR, T.keep _ _ _ iN fun b hb o e => (I7.pin (b, o) (List.mem_append_right _ (List.mem_append_right _ (dj hb e)))).1, fun b hb => ?_, w7⟩
        obtain ⟨o, e, d⟩ := T.obj _ _ iN b hb
        exact (I7.pin (b, o) (List.mem_append_right _ (List.mem_append_right _ (dj hb e)))).2.1
      refine wpAny_bind (wpAny_mono (hg cl G.objs.size s2 H2 fp _ s5 τ H5 x u _ rP r5 (step x H5 y5)) (fun _ s6 ⟨jP, H6, I6, q6⟩ => ?_) fun _ _ z => z.elim)
      refine wpAny_bind (wpAny_mono (ht cl G.objs.size s2 H2 fp _ s6 jP H6 _ I6 q6) (fun ok s7 ⟨H7, I7, q7⟩ => ?_) fun _ _ z => z.elim)
      cases ok with
      | false => exact wpAny_pure ⟨rfl, again I7 q7⟩
      | true =>
        refine wpAny_bind (wpAny_bind (wpAny_mono (he cl G.objs.size s2 H2 fp _ s7 jP H7 _ I7 q7) (fun yv s8 ⟨y, H8, I8, r8, q8⟩ => ?_) fun _ _ z => z.elim))
        obtain ⟨ys, m', hD, hsz, nX, w8⟩ := q8
        refine wpAny_bind (wpAny_mono (k6 (X := mH X N' scope cl G.objs.size s2 H2 fp) _ s8 jP H8 (.ref s2.heap.objs.size) [y] (.ref s2.heap.objs.size) [yv] (fun v H9 => v = .ao ∧ H9 = upd H8 s2.heap.objs.size (.lst (ys ++ [y]))) I8 rfl (.cons r8 .nil) ⟨_, ys, y, rfl, rfl, hD, hsz, rfl, rfl⟩) (fun rv s9 ⟨v9, H9, I9, _, _, e9⟩ => ?_) fun _ _ z => z.elim)
        subst e9
        exact wpAny_pure (wpAny_pure ⟨rfl, again I9 ⟨m', nX, w8⟩⟩)
  exact codeAny_compStart_list (loop _ rfl) (T.self _ 0 _ _ _ (T.keep _ _ _ st fun b _ o e => old b o e) (loop _ rfl))
variable {tg elt iter : Expr} {ifs : List Expr} {scope : Scope} {pos : Pos} {N' : List Str} {tn : Nat} {idx : List Nat} {wi : TI} {g : TG} {tt : TT} {te : TE}
theorem dN.turn {pins : List (Addr × Obj)} {σ : St} {H : Hp} {s : Shared} {C : Addr} {h' : Heap} (f : dN X pins H C) (I : Inv X pins σ H s) (hs : Heap.SameBut C s.heap h') : Inv X pins σ H { s with heap := h' } :=
  I.turned (t' := s.toks) (fun b o hb e => (hs.2 b hb).trans e) f.1 f.2.1 f.2.2.2.1 f.2.2.2.2.1 f.2.2.2.2.2
theorem mI (hc : X.calm = true) (B : aK X.N X.env.scope scope N' tn idx) (hi : PI X tg iter wi)
    (hg : Blk X N' scope fun Y => PG Y tg g) (ht : Blk X N' scope fun Y => jO Y ifs tt) (he : Blk X N' scope fun Y => PE Y elt te)
    (hs : ∀ x, foldedSetIterable iter X.env x = pure x := by intro _; rfl) : PE X (.ListComp elt [⟨tg, iter, ifs, 0⟩] scope pos) (nV tn idx wi g tt te) := by
  refine ⟨?_⟩
  intro pins s σ H Q I h
  obtain ⟨cl, gN, dP, gm⟩ := gj (scope := scope) (env := X.env) fun n hn => I.ok.has n ((B.2.1 _ hn).2.2 rfl)
  rw [eval_ListComp]
  refine wpAny_comprehension_free (use := none) rfl hs gN B.1 (fun y hy => (B.2.1 y hy).2.1) (wpAny_mono (hi pins s σ H _ I h) (fun xv s1 h1 => wpAny_mono h1 (fun uP s2 h2 => ?_) fun _ _ z => z) fun _ _ z => z)
  obtain ⟨it, fp, dm, J, H2, e, I2, T, nM, f2, q2⟩ := h2
  subst e
  refine qd (RR := fun acc C => compPost (model X.prog X.w) X.A X.xe none (EP X pins σ Q) acc C) hc B hg ht he I2 T nM f2 dP gm q2 fun D C m s' H' J2 fC hm q => ?_
  exact ⟨m, hm, fun h' qf => ⟨.ref D, H', fC.turn J2 qf, rfl, q⟩⟩
theorem vU {i : Nat} {y : Str} {py iQ : Pos} (hN : X.N.Nodup) (ez : X.N[i]? = some y) (hy : X.env.scope.names.lookup y = some .local) (hc : X.calm = true) (B : aK X.N X.env.scope scope N' tn idx) (hi : PI X tg iter wi)
    (hg : Blk X N' scope fun Y => PG Y tg g) (ht : Blk X N' scope fun Y => jO Y ifs tt) (he : Blk X N' scope fun Y => PE Y elt te)
    (rZ : swapsWith (.ListComp elt [⟨tg, iter, ifs, 0⟩] scope pos) (some (.Name y py)) iQ.line X.env = pure true := by rfl)
    (hs : ∀ x, foldedSetIterable iter X.env x = pure x := by intro _; rfl) : PS X (.Assign [.Name y py] (.ListComp elt [⟨tg, iter, ifs, 0⟩] scope pos) iQ) (oR (nV tn idx wi g tt te) (nK i)) := by
  refine ⟨?_⟩
  intro pins s σ H D I h
  obtain ⟨cl, gN, dP, gm⟩ := gj (scope := scope) (env := X.env) fun n hn => I.ok.has n ((B.2.1 _ hn).2.2 rfl)
  rw [exec_Assign_Name_used _ _ _ _ rZ]
  refine wpAny_bind (wpAny_standAt (wpAny_bind ?_))
  show wpAny _ X.A (do let _ ← comprehension (.ListComp elt [⟨tg, iter, ifs, 0⟩] scope pos) scope X.env _ (newList []) false (eval iter X.env) (some (assign (.Name y py) X.env))) _ _ s
  refine wpAny_bind (wpAny_mono (wpAny_comprehension_free (use := some (assign (.Name y py) X.env)) (Q := fun _ s' => SP X pins D .next s') rfl hs gN B.1 (fun y hy => (B.2.1 y hy).2.1)
    (wpAny_mono (hi pins s σ H _ I h) (fun xv s1 h1 => wpAny_mono h1 (fun uP s2 h2 => ?_) fun _ _ z => z) fun _ _ z => z)) (fun _ s' hq => wpAny_pure (wpAny_pure hq)) fun _ _ z => z)
  obtain ⟨it, fp, dm, J, H2, e, I2, T, nM, f2, q2⟩ := h2
  subst e
  refine qd (RR := fun acc C => compPost (model X.prog X.w) X.A X.xe (some (assign (.Name y py) X.env)) (fun _ s' => SP X pins D .next s') acc C) hc B hg ht he I2 T nM f2 dP gm q2 fun E C m s' H' J2 fC hm q => ?_
  show wpAny _ X.A (assign (.Name y py) X.env (.ref E)) _ _ s'
  refine wpAny_assign_Name (store_ok2 J2 hN ez (.inl hy) (v := .ref E) rfl (fun s3 J3 ⟨a, iR, ha⟩ => ?_) (.inr hy))
  have dY : C ≠ a := by
    rcases ha with z | z
    · rw [z]; exact fC.2.1
    · exact fun w => fC.2.2.2.2.1 _ _ z w.symm
  exact ⟨m, hm.sameBut iR dY, fun h' qf => ⟨_, H', fC.turn J3 qf, q⟩⟩
end
noncomputable def Tb (P : Addr) (H : Hp) : Prop := ∃ ps, H P = some (.cu ps) ∧ TriplesOk ps.toList
section
variable {X : Cx} {pins : List (Addr × Obj)} {σ : St} {H : Hp} {s : Shared} {P : Addr} {ps more : Array Value} {h' : Heap}
theorem Inv.grown (I : Inv X pins σ H s) (hP : H P = some (.cu ps)) (k : ∀ b o, b ≠ P → s.heap.get? b = some o → h'.get? b = some o) (n : h'.get? P = some { cls := .none, data := .fields (ps ++ more) }) (t' : Nat) :
    Inv X pins σ (upd H P (.cu (ps ++ more))) { s with heap := h', toks := t' } := by
  have ne : ∀ b u, H b = some u → u ≠ .cu ps → b ≠ P := fun b u e d => JD e hP d
  have nn : ∀ b, H b = none → b ≠ P := fun b e z => by rw [z, hP] at e; cases e
  refine I.un ⟨fun b o e q _ _ => k b o (nn b q) e, fun b o e q _ _ => ⟨o.slots, k b o (nn b q) e⟩, fun b o e q _ => by rw [ak (nn b q)]; exact q, fun b o e _ => ?_, fun b xs e => by rw [ak (ne b _ e (by intro z; cases z))]; exact e,
    fun b o u e => by rw [ak (ne b _ e (by intro z; cases z))]; exact e, fun b qs e => ?_⟩ fun b u e => ?_
  · by_cases hb : b = P
    · subst hb; exact ⟨_, n⟩
    · exact ⟨o, k b o hb e⟩
  · by_cases hb : b = P
    · subst hb
      rw [hP] at e; cases e
      exact ⟨more, aC⟩
    · exact ⟨#[], by rw [ak hb, e]; simp⟩
  · by_cases hb : b = P
    · subst hb
      rw [aC] at e; cases e
      exact n
    · rw [ak hb] at e
      refine (I.hok b u e).bU (fun c v hc q => k c v ?_ q) (fun c q => ?_) fun c xs q => ?_
      · rcases hc with z | z
        · rw [z]; exact hb
        · exact ne c _ z (by intro w; cases w)
      · rw [ak (ne c _ q (by intro w; cases w))]; exact q
      · rw [ak (ne c _ q (by intro w; cases w))]; exact q
theorem oV {c : Addr} {pos : Pos} {qn : Str} {scope : Scope} {Q : Value → Shared → Prop} {A : Around} {E : Value → Shared → Prop} (I : Inv X pins σ H s) (hc : X.env.code = .ref c) (hd : PySem.W.CodeHd X.base c P) (hP : H P = some (.cu ps)) (ht : TriplesOk ps.toList)
    (h : ∀ code gq s', TriplesOk gq.toList → Inv X pins σ (upd H P (.cu gq)) s' → (∀ b o, b ≠ P → s.heap.get? b = some o → s'.heap.get? b = some o) → s'.gens = s.gens → Q code s') : wpAny (model X.prog X.w) A (genexprCode X.env pos qn scope) Q E s := by
  have sd : s.heap.get? P = some (PySem.W.tabObj ps) := I.hok P _ hP
  have jl := hd.keeps I.bk
  have ic := jl.code sd ht
  cases q : codeAmong pos ps.toList with
  | some c' =>
    refine wpAny_genexprCode_hit hc ic q (h c' ps s ht ?_ (fun _ _ _ e => e) rfl)
    have e : upd H P (.cu ps) = H := by
      funext b
      by_cases hb : b = P
      · subst hb; rw [aC, hP]
      · rw [ak hb]
    rw [e]; exact I
  | none =>
    refine wpAny_genexprCodeX hc ic (jl.tab sd) q fun c' h' tk ex h1 h2 QP _ ta _ => ?_
    obtain ⟨_, CO⟩ := ta
    have tr : TriplesOk (ps ++ #[rawInt pos.line, rawInt pos.col, Value.ref c']).toList := by
      rw [Array.toList_append]
      exact TriplesOk_snoc _ _ _ _ ht
    exact h _ _ _ tr (I.grown hP (fun b o hb e => ex b o hb e) CO tk) (fun b o hb e => ex b o hb e) rfl
end
noncomputable def mW (s b8 : Shared) : Prop := b8.heap = s.heap ∧ b8.os = s.os ∧ Gn s.gens.size b8.gens
theorem Inv.mX {X : Cx} {pins : List (Addr × Obj)} {σ : St} {H : Hp} {s b8 : Shared} (I : Inv X pins σ H s) (o : mW s b8) : Inv X pins σ H b8 := by
  obtain ⟨h, g, d, t, os⟩ := s
  obtain ⟨h', g', d', t', CJ⟩ := b8
  obtain ⟨e1, e2, e3⟩ := o
  cases e1
  cases e2
  exact ⟨I.ok, I.os, I.bare.trans e3, I.base, I.loc, I.cell, I.free, I.freeC, I.pin, I.hok, I.len⟩
section
variable {Y : Cx} {A2 : Around} {tg elt iter : Expr} {ifs : List Expr} {scope : Scope} {pos : Pos} {it : Addr} {fp : List Addr} {dm : Nat → Heap → Prop} {J : It} {g : TG} {tt : TT} {te : TE} {pp : List (Addr × Obj)} {R : GenEnd} {Yp : Protocol}
noncomputable def GK (J : It) (g : TG) (tt : TT) (te : TE) (stopAt : Bool) (Z : Bool → Hp → Prop) (W : Nat → Nat → St → Hp → Prop) : Prop := ∀ i m τ H, W i m τ H →
  (J.stop i H ∧ Z (!stopAt) H) ∨ (J.go i H ∧ ∀ x H', J.yld i H x H' → g x τ H' fun aE H2 => tt aE H2 fun b H3 => if b = true then te aE H3 fun y H4 => ∃ c, y = .bl c ∧ (if c = stopAt then Z stopAt H4 else ∃ m', m' < m ∧ W (i + 1) m' aE H4) else ∃ m', m' < m ∧ W (i + 1) m' aE H3)
theorem AR (hA : Y.A = A2.over (.compLoop (.GeneratorExp elt [⟨tg, iter, ifs, 0⟩] scope pos) 0 (.ref it) .none Y.env) []) (GL : Y.xe = fun _ _ => False) (hc : Y.calm = true) (qg : Y.env.scope.isCoroutine = false)
    (T : Turn Y.prog Y.w Y.K tg J fp it dm) (hg : PG Y tg g) (ht : jO Y ifs tt) (he : PE Y elt te) (stat : ∀ {H' : Hp}, (∀ b ∈ fp, H' b = none) → ∀ b ∈ fp, dN Y pp H' b)
    {W : Nat → Nat → St → Hp → Prop} {Z : Bool → Hp → Prop} {stopAt : Bool} (turn : GK J g tt te stopAt Z W)
    (hR : ∀ n s₀ au τ H, Inv Y pp τ H au → Z (!stopAt) H → R n s₀ (.ok .next) au)
    (hY : ∀ n s₀ s se c τ H, Inv Y pp τ H s → (c = stopAt → Z stopAt H) → (c ≠ stopAt → ∀ b8, mW s b8 → se (.send .none) b8) → Yp n s₀ (.bool c) s se) :
    ∀ (m n i : Nat) (τ : St) (H : Hp) (s s₀ : Shared), m < n → W i m τ H → Inv Y pp τ H s → dm i s.heap → (∀ b ∈ fp, H b = none) →
      Seg (model Y.prog Y.w) A2 R Yp n s₀ (.compLoop (.GeneratorExp elt [⟨tg, iter, ifs, 0⟩] scope pos) 0 (.ref it) .none Y.env)
        ((model Y.prog Y.w).den (.compLoop (.GeneratorExp elt [⟨tg, iter, ifs, 0⟩] scope pos) 0 (.ref it) .none Y.env)) [] s := by
  intro m
  induction m using Nat.strongRecOn with
  | ind m ih =>
    intro n i τ H s s₀ QR w I st fr
    show Seg _ A2 _ _ _ s₀ _ ((compTurn (.GeneratorExp elt [⟨tg, iter, ifs, 0⟩] scope pos) 0 (.ref it) .none Y.env).onRaise (leaving Y.env)) [] s
    rw [compTurn_gen, Sem.onRaise_eq_wrap]
    rcases turn i m τ H w with ⟨stop, qn⟩ | ⟨go, step⟩
    · refine seg_bind_wrap (wpAny_standAt ?_)
      have d := T.done Y rfl rfl rfl hc i pp s τ H (fun _ _ => False) I (stat fr) st stop
      rw [hA] at d
      refine seg_bind_wrap (wpAny_mono d (fun r s1 ⟨hr, I1⟩ => ?_) fun _ _ z => z.elim)
      subst hr
      exact seg_end (.ok .next) (hR _ _ _ _ _ I1 qn)
    · refine seg_bind_wrap (wpAny_standAt ?_)
      have d := T.item Y rfl rfl rfl hc i pp s τ H (fun _ _ => False) I (stat fr) st go
      rw [hA] at d
      refine seg_bind_wrap (wpAny_mono d (fun r s4 ⟨u, hr, h4⟩ => ?_) fun _ _ z => z.elim)
      subst hr
      refine seg_bind_wrap (wpAny_mono h4 (fun _ s5 ⟨x, H5, I5, r5, y5, iN, rO⟩ => ?_) fun _ _ z => z.elim)
      have rP := I5.pinned (stat rO) (T.obj _ _ iN)
      have back : ∀ {kI : St} {H7 : Hp} {s7 : Shared}, Inv Y (pp ++ iM fp s5.heap) kI H7 s7 → dm (i + 1) s7.heap ∧ ∀ b ∈ fp, H7 b = none := fun {kI H7 s7} I7 => by
        refine ⟨T.keep _ _ _ iN fun b hb o e => (I7.pin (b, o) (List.mem_append_right _ (List.mem_append_right _ (dj hb e)))).1, fun b hb => ?_⟩
        obtain ⟨o, e, d⟩ := T.obj _ _ iN b hb
        exact (I7.pin (b, o) (List.mem_append_right _ (List.mem_append_right _ (dj hb e)))).2.1
      have d2 := hg _ s5 τ H5 x u _ rP r5 (step x H5 y5)
      rw [hA, GL] at d2
      refine seg_bind_wrap (wpAny_mono d2 (fun _ s6 ⟨jP, H6, I6, q6⟩ => ?_) fun _ _ z => z.elim)
      have d3 := ht _ s6 jP H6 _ I6 q6
      rw [hA, GL] at d3
      refine seg_bind_wrap (wpAny_mono d3 (fun ok s7 ⟨H7, I7, q7⟩ => ?_) fun _ _ z => z.elim)
      have hy : ∀ v, yieldOut Y.env v = yieldValue v := fun v => by simp only [yieldOut, qg, Bool.false_eq_true, if_false]
      cases ok with
      | false =>
        simp only [Bool.false_eq_true, if_false] at q7 ⊢
        obtain ⟨m', nX, w7⟩ := q7
        exact seg_again rfl (ih m' nX n (i + 1) jP H7 s7 s₀ (by omega) w7 I7.eR (back I7).1 (back I7).2)
      | true =>
        simp only [if_true] at q7 ⊢
        simp only [hy]
        rw [Sem.bind_eq_wrap', Sem.bind_eq_wrap', Sem.wrap_wrap, Sem.wrap_wrap]
        have d4 := he _ s7 jP H7 _ I7 q7
        rw [hA, GL] at d4
        refine seg_wrap (wpAny_mono d4 (fun yv s8 ⟨y, H8, I8, r8, q8⟩ => ?_) fun _ _ z => z.elim)
        obtain ⟨c, ey, q8⟩ := q8
        subst ey
        cases (show yv = Value.bool c from r8)
        obtain ⟨n, rfl⟩ : ∃ n', n = n' + 1 := ⟨n - 1, by omega⟩
        refine seg_at (seg_yield rfl rfl rfl (hY _ _ _ _ c jP H8 I8.eR (fun e => by rw [if_pos e] at q8; exact q8) fun e b8 ok => ?_))
        rw [if_neg e] at q8
        obtain ⟨m', nX, w8⟩ := q8
        have I9 := I8.mX ok
        exact seg_again rfl (ih m' nX n (i + 1) jP H8 b8 b8 (by omega) w8 I9.eR (back I9).1 (back I9).2)
end
noncomputable abbrev d6 (elt tg iter : Expr) (ifs : List Expr) (scope : Scope) (pos : Pos) : Expr := .GeneratorExp elt [⟨tg, iter, ifs, 0⟩] scope pos
noncomputable abbrev GN (X : Cx) (N' : List Str) (scope : Scope) (cl : List (Str × Addr)) (C : Addr) (code : Value) (A' : Around) (s : Shared) (H : Hp) (fp : List Addr) : Cx :=
  cxBlock X N' (genEnv scope cl C code builtinsNs X.env) A' (genEnv scope cl C code builtinsNs X.env :: X.stack) s H fp
noncomputable abbrev mY (X : Cx) (N' : List Str) (scope : Scope) (k : Nat) (P : Cx → Prop) : Prop := ∀ (cl : List (Str × Addr)) (C : Addr) (code : Value) (A' : Around) (s : Shared) (H : Hp) (fp : List Addr), bC k A' → P (GN X N' scope cl C code A' s H fp)
structure M8 (X : Cx) (pins : List (Addr × Obj)) (σ : St) (N' : List Str) (scope : Scope) (tn : Nat) (idx : List Nat) (k : Nat) (elt tg iter : Expr) (ifs : List Expr) (pos : Pos) (J : It) (H3 : Hp) (a : Addr) (s5 : Shared)
    (Y : Cx) (it : Addr) (fp : List Addr) (dm : Nat → Heap → Prop) (g : Nat) (pp : List (Addr × Obj)) : Prop where
  inv : Inv Y pp (bE tn idx σ) H3 s5
  isg : ∀ {τ : St} {H' : Hp} {s' : Shared}, Inv Y pp τ H' s' → s'.heap.IsGen a g
  st : s5.gens[g]? = some (.fresh (.compStart (d6 elt tg iter ifs scope pos) 0 (.ref it) .none Y.env))
  T : Turn Y.prog Y.w Y.K tg J fp it dm
  tn0 : dm 0 s5.heap
  fr : ∀ b ∈ fp, H3 b = none
  stat : ∀ {H' : Hp}, (∀ b ∈ fp, H' b = none) → ∀ b ∈ fp, dN Y pp H' b
  out : ∀ {τ : St} {H' : Hp} {s' : Shared}, Inv Y pp τ H' s' → Inv X pins σ H' s'
  A : Y.A = X.A.in4.in1.over (.compLoop (d6 elt tg iter ifs scope pos) 0 (.ref it) .none Y.env) []
  xe : Y.xe = fun _ _ => False
  calm : Y.calm = true
  co : Y.env.scope.isCoroutine = false
  gsz : ∀ {τ : St} {H' : Hp} {s' : Shared}, Inv Y pp τ H' s' → g < s'.gens.size
  blk : ∀ P : Cx → Prop, mY X N' scope k P → P Y
  prog : Y.prog = X.prog
  w : Y.w = X.w
section
variable {X : Cx} {tg elt iter : Expr} {ifs : List Expr} {scope : Scope} {pos : Pos} {N' : List Str} {tn : Nat} {idx : List Nat} {wi : TI} {g : TG} {tt : TT} {te : TE} {c P : Addr} {k : Nat}
noncomputable def GO (P : Addr) (wi : TI) (R : It → Hp → Prop) : St → Hp → Prop := fun σ H => wi σ H fun J H1 => Tb P H1 ∧ ∀ ps, TriplesOk ps.toList → R J (upd H1 P (.cu ps))
theorem AU {pins : List (Addr × Obj)} {s : Shared} {σ : St} {H : Hp} {QQ : Value → Shared → Prop} {R : It → Hp → Prop} (hr : bC (k + 1) X.A) (hc : X.calm = true) (B : aK X.N X.env.scope scope N' tn idx)
    (h0 : scope.names.lookup (".0" : Str) = some .local) (qg : scope.isCoroutine = false) (bM : X.env.code = .ref c) (hd : PySem.W.CodeHd X.base c P) (dH : ∃ bm ob, BMod X.base mainGlobals X.mg bm ob)
    (hi : PI X tg iter wi) (hs : ∀ x, genFold iter X.env x = pure x) (I : Inv X pins σ H s) (h : GO P wi R σ H)
    (q : ∀ J H3 a s5 Y it fp dm gn pp, M8 X pins σ N' scope tn idx k elt tg iter ifs pos J H3 a s5 Y it fp dm gn pp → R J H3 → QQ (.ref a) s5) :
    wpAny (model X.prog X.w) X.A (eval (d6 elt tg iter ifs scope pos) X.env) QQ X.xe s := by
  obtain ⟨cl, gN, dP, gm⟩ := gj (scope := scope) (env := X.env) fun n hn => I.ok.has n ((B.2.1 _ hn).2.2 rfl)
  refine wpAny_GeneratorExp_make qg gN (fun y hy => (B.2.1 y hy).1) h0 B.1 hr.depth (thn (hi pins s σ H _ I h) fun xv s1 h1 => thn h1 fun uP s2 h2 => ?_) hs
  obtain ⟨it, fp, dm, J, H2, e, I2, T, nM, f2, ⟨ps, hP, k9⟩, q2⟩ := h2
  subst e
  refine ⟨I2.nolimit, oV I2 bM hd hP k9 fun code gq s3 Om I3 kp QU => ?_⟩
  obtain ⟨bm, ob, bmod⟩ := dH
  have fS := bmod.keeps I3.bk
  refine wpAny_builtinsFor (by rw [I3.ok.glob]; exact fS.ns) fS.name fS.ne fS.obj fS.cls fS.dict fS.data ?_
  intro h' rJ qf
  have Lk : ∀ b ∈ fp, b ≠ P := fun b hb z => by have := (f2 b hb).1; rw [z, hP] at this; cases this
  have kT : dm 0 s3.heap := T.keep _ _ _ nM fun b hb o e => kp b o (Lk b hb) e
  have kG : ∀ b ∈ fp, b < s3.heap.objs.size := fun b hb => let ⟨o, e, _⟩ := T.obj _ _ kT b hb; Heap.lt_size e
  have f3 : ∀ b ∈ fp, dN X pins (upd H2 P (.cu gq)) b := fun b hb => ⟨by rw [ak (Lk b hb)]; exact (f2 b hb).1, (f2 b hb).2⟩
  have hsz : h'.objs.size = s3.heap.objs.size + 1 := by rw [qf.1, Heap.size_push]
  have J6 : ∀ b o, s3.heap.get? b = some o → h'.get? b = some o := fun b o e => qf.extBut b o (Nat.ne_of_lt (Heap.lt_size e)) (Heap.get?_push_of_some _ e)
  have Ln : Gn s3.gens.size (s3.gens.push (.fresh (.compStart (d6 elt tg iter ifs scope pos) 0 (.ref it) .none (genEnv scope cl s3.heap.objs.size code builtinsNs X.env)))) := ⟨AllBare.push I3.bare.1 rfl, by rw [Array.size_push]; exact Nat.le_succ _⟩
  have Lp : Inv X pins σ (upd H2 P (.cu gq)) { s3 with gens := s3.gens.push (.fresh (.compStart (d6 elt tg iter ifs scope pos) 0 (.ref it) .none (genEnv scope cl s3.heap.objs.size code builtinsNs X.env))) } := I3.mX ⟨rfl, rfl, Ln⟩
  have hA : (X.A.in4.in1.over (.compLoop (d6 elt tg iter ifs scope pos) 0 (.ref it) .none (genEnv scope cl s3.heap.objs.size code builtinsNs X.env)) []).frames = some (genEnv scope cl s3.heap.objs.size code builtinsNs X.env :: X.stack) := by
    show pushEnvs [_] (pushEnvs [] X.A.frames) = _
    rw [I.ok.frames]; rfl
  have nY : bC k (X.A.in4.in1.over (.compLoop (d6 elt tg iter ifs scope pos) 0 (.ref it) .none (genEnv scope cl s3.heap.objs.size code builtinsNs X.env)) []) := by
    refine ⟨hr.hd, ?_, ?_⟩
    · show X.A.depth + 0 + 1 + 3 * k + 5 < recursionLimit
      have := hr.dp
      omega
    · show X.A.units + 1 + 1 + 1 + 1 + 1 + 0 + 3 + 16 * k + 200 < cLine
      have := hr.un
      omega
  generalize sf : ({ cls := .type "generator", data := .fields #[.int s3.gens.size 0, .str "<genexpr>" (s3.toks + 1), .str (X.env.qual ++ "<genexpr>") (s3.toks + 1 + 1)] } : Obj) = mJ
  have rh : ∀ b o, s3.heap.get? b = some o → (h'.push mJ).get? b = some o := fun b o e => Heap.get?_push_of_some _ (J6 b o e)
  have M9 : mJ.isFreed = false := by rw [← sf]; rfl
  have Oo : (h'.push mJ).get? h'.objs.size = some mJ := Heap.get?_push_size _ M9
  have Oq : h'.objs.size ≠ s3.heap.objs.size := by rw [hsz]; exact Nat.succ_ne_self _
  have Ot : upd H2 P (.cu gq) h'.objs.size = none := I3.hok.fresh (by rw [hsz]; exact Nat.le_succ _)
  have I5 := qb (X := X) (N' := N') (A' := X.A.in4.in1.over (.compLoop (d6 elt tg iter ifs scope pos) 0 (.ref it) .none (genEnv scope cl s3.heap.objs.size code builtinsNs X.env)) []) (env' := genEnv scope cl s3.heap.objs.size code builtinsNs X.env) (stack' := genEnv scope cl s3.heap.objs.size code builtinsNs X.env :: X.stack) (ex := fp) (h1 := h'.push mJ) (m0 := fun y => if y = ".0" then some (.ref it) else none)
    (g' := s3.gens.push (.fresh (.compStart (d6 elt tg iter ifs scope pos) 0 (.ref it) .none (genEnv scope cl s3.heap.objs.size code builtinsNs X.env)))) (tk := s3.toks + 1 + 1 + 1) (aA := bE tn idx σ) Lp B.1 rfl I3.ok.blt.symm dP (fun x hx => by
      have k8 : scope.names.lookup x = some .cell ∨ scope.names.lookup x = some .free := hx
      rcases k8 with z | z
      · exact absurd rfl ((B.2.1 _ (PySem.mem_of_lookup z)).1)
      · exact gm x (PySem.mem_of_lookup z)) (fun z => I.ok.hd z) hA (.inr ⟨rfl, rfl⟩) (Nat.le_refl _) f3 kG (Un.kept rh) (I3.hok.kept rh) (I3.hok.fresh (Nat.le_refl _)) rh (rJ.push _) (fun i x v e1 e2 e3 => by
      obtain ⟨fr, j, e4, e5⟩ := B.at e1 e2
      have kx := (B.2.1 _ (PySem.mem_of_lookup fr)).2.2 rfl
      exact ⟨.inr fr, .inr kx, kx, j, e4, e5⟩) (B.len σ) (Gn.self Ln)
  have Ou : h'.objs.size ∉ dJ X.stack := fun z => by
    rcases List.mem_cons.mp (I3.fu _ z) with q | q
    · exact Nat.ne_of_gt (Nat.lt_of_lt_of_le I3.lt (by rw [hsz]; exact Nat.le_succ _)) q
    · exact I3.FE (by rw [hsz]; exact Nat.le_succ _) q
  have q9 : ∀ v, mJ.data ≠ .cell v := by rw [← sf]; intro v z; cases z
  have I6 := I5.oQ (pins' := [(h'.objs.size, mJ)]) (fun p hp => by
    rcases List.mem_singleton.mp hp with rfl
    exact ⟨Oo, Ot, Oq, Ou, q9⟩)
  refine q J _ _ _ (GN X N' scope cl s3.heap.objs.size code _ _ _ fp) it fp dm s3.gens.size [(h'.objs.size, mJ)] ⟨I6, fun {τ H' s'} J' => ?_, ?_, T, T.keep _ _ _ kT fun b _ o e => rh b o e, fun b hb => (f3 b hb).1, fun {H'} hn b hb => ?_, fun {τ H' s'} J' => ?_, rfl, rfl, hc, qg, fun {τ H' s'} J' => ?_, fun Pp hb => hb cl _ code _ _ _ fp nY, rfl, rfl⟩ (q2 gq Om)
  · have := (J'.pin (h'.objs.size, mJ) (List.mem_append_right _ (List.mem_singleton.mpr rfl))).1
    exact ⟨mJ, _, _, this, by rw [← sf], by rw [← sf], by rw [← sf]⟩
  · exact Array.getElem?_push_size ..
  · refine ⟨hn b hb, Nat.ne_of_lt (kG b hb), fun z => ?_, .inl hb, fun x c e => (f2 b hb).2.2.2.2.1 x c (dP x c e), fun p hp z => ?_⟩
    · rcases List.mem_cons.mp (I2.fu b z) with q | q
      · exact (f2 b hb).2.1 q
      · exact (f2 b hb).2.2.1 q
    · rcases List.mem_singleton.mp hp with rfl
      have z' : h'.objs.size = b := z
      have := kG b hb
      rw [← z', hsz] at this
      exact absurd this (Nat.not_lt.mpr (Nat.le_succ _))
  · exact Lp.mh J'.os J'.base J'.hok J'.bare fun b hb => ⟨(f3 b hb).2.2.2.1, (f3 b hb).2.1, (f3 b hb).2.2.2.2.1, (f3 b hb).2.2.2.2.2⟩
  · have := J'.bare.2
    have e : (GN X N' scope cl s3.heap.objs.size code (X.A.in4.in1.over (.compLoop (d6 elt tg iter ifs scope pos) 0 (.ref it) .none (genEnv scope cl s3.heap.objs.size code builtinsNs X.env)) []) { s3 with gens := s3.gens.push (.fresh (.compStart (d6 elt tg iter ifs scope pos) 0 (.ref it) .none (genEnv scope cl s3.heap.objs.size code builtinsNs X.env))) } (upd H2 P (.cu gq)) fp).s₀.gens.size = s3.gens.size + 1 := by
      show (s3.gens.push _).size = _
      rw [Array.size_push]
    rw [e] at this
    omega
theorem AV {prog : Program} {w : World} {A : Around} {a : Addr} {R' : Result → Shared → Prop} (In : Nat → Shared → Prop)
    (turn : ∀ n s, In n s → wpAny (model prog w) A.in1 (pyNext (.ref a)) (fun r s1 => match r with
      | none => R' (.ok (.ret (.bool true))) s1
      | some v => ∃ c, v = .bool c ∧ if c = true then ∃ m, m < n ∧ In m s1 else R' (.ok (.ret (.bool false))) s1) (fun e s' => R' (.error e) s') s) :
    ∀ (n : Nat) (s : Shared), In n s → codeAny (model prog w) A (.builtin "all.loop" ⟨[.ref a], []⟩) R' s := by
  intro n
  induction n using Nat.strongRecOn with
  | ind n ih =>
    intro s h
    refine codeAny_builtin F.entry_all_loop ?_
    rw [Around.under_plainId F.plain_all_loop _]
    show wpAny _ A.in1 (pyNext (.ref a) >>= _) _ _ s
    refine wpAny_bind (wpAny_mono (turn n s h) (fun r s1 q => ?_) fun _ _ z => z)
    cases r with
    | none => exact wpAny_bind (wpAny_rule (wpAny_pure q))
    | some v =>
      obtain ⟨c, e, q⟩ := q
      subst e
      refine wpAny_bind (wpAny_holding (wpAny_truthy_bool ?_))
      refine wpAny_bind (wpAny_letGo ?_)
      cases c with
      | true =>
        simp only [if_true] at q ⊢
        obtain ⟨m, hm, hI⟩ := q
        exact wpAny_pure ⟨plainId_quiet F.plain_all_loop _, ih m hm s1 hI⟩
      | false =>
        simp only [Bool.false_eq_true, if_false] at q ⊢
        exact wpAny_bind (wpAny_rule (wpAny_pure q))
theorem lb {s : Shared} {g : Nat} {x : GenState} {n : Nat} (h : Gn n s.gens) (hx : x.bare = true) : Gn s.gens.size (s.setGen g x).gens := by
  refine ⟨fun y hy => ?_, ?_⟩
  · have Ov : y ∈ s.gens.setIfInBounds g x := hy
    rcases Array.mem_or_eq_of_mem_setIfInBounds Ov with z | z
    · exact h.1 y z
    · rw [z]; exact hx
  · show s.gens.size ≤ (s.gens.setIfInBounds g x).size
    rw [Array.size_setIfInBounds]
    exact Nat.le_refl _
theorem yl {s : Shared} {g : Nat} {x : GenState} (h : g < s.gens.size) : (s.setGen g x).gens[g]? = some x := by
  show (s.gens.setIfInBounds g x)[g]? = _
  rw [Array.getElem?_setIfInBounds_self]
  simp [h]
theorem ym {Y : Cx} {A2 : Around} {R : GenEnd} {Yp : Protocol} {n : Nat} {s₀ s : Shared} {it : Addr} {J : It} {fp : List Addr} {dm : Nat → Heap → Prop} (T : Turn Y.prog Y.w Y.K tg J fp it dm) {i : Nat} (st : dm i s.heap)
    (loop : Seg (model Y.prog Y.w) A2 R Yp n s₀ (.compLoop (d6 elt tg iter ifs scope pos) 0 (.ref it) .none Y.env) ((model Y.prog Y.w).den (.compLoop (d6 elt tg iter ifs scope pos) 0 (.ref it) .none Y.env)) [] s) :
    Seg (model Y.prog Y.w) A2 R Yp n s₀ (.compStart (d6 elt tg iter ifs scope pos) 0 (.ref it) .none Y.env) ((model Y.prog Y.w).den (.compStart (d6 elt tg iter ifs scope pos) 0 (.ref it) .none Y.env)) [] s := by
  show Seg _ A2 _ _ _ s₀ _ ((compStart (d6 elt tg iter ifs scope pos) 0 (.ref it) .none Y.env).onRaise (leaving Y.env)) [] s
  unfold compStart
  rw [Sem.onRaise_eq_wrap]
  show Seg _ A2 _ _ _ s₀ _ ((ask >>= _).wrap _ _ _ _) [] s
  refine seg_bind_wrap (wpAny_askSetting ?_)
  split
  · exact seg_again rfl loop
  · first
      | exact seg_bind_wrap (wpAny_rule (seg_bind_wrap (wpAny_standAt (seg_bind_wrap (T.self _ i s _ _ st (seg_again rfl loop))))))
      | (refine seg_bind_wrap (wpAny_rule ?_); show Seg _ A2 _ _ _ s₀ _ ((standAt iter.pos >>= _).wrap _ _ _ _) [] s; exact seg_bind_wrap (wpAny_standAt (seg_bind_wrap (T.self _ i s _ _ st (seg_again rfl loop)))))
noncomputable def GP (P : Addr) (tn : Nat) (idx : List Nat) (wi : TI) (g : TG) (tt : TT) (te : TE) : TE := fun σ H Q => GO P wi (fun J H1 => ∃ W : Nat → Nat → St → Hp → Prop, (∃ m, W 0 m (bE tn idx σ) H1) ∧ GK J g tt te false (fun b H2 => Q (.bl b) H2) W) σ H
theorem GQ {p sh : Pos} (hr : bC (k + 1) X.A) (hc : X.calm = true) (B : aK X.N X.env.scope scope N' tn idx)
    (h0 : scope.names.lookup (".0" : Str) = some .local) (qg : scope.isCoroutine = false) (bM : X.env.code = .ref c) (hd : PySem.W.CodeHd X.base c P) (dH : ∃ bm ob, BMod X.base mainGlobals X.mg bm ob)
    (uY : Gl X "all") (hm : X.mg "all" = none) (hi : PI X tg iter wi) (hg : mY X N' scope k fun Y => PG Y tg g) (ht : mY X N' scope k fun Y => jO Y ifs tt) (he : mY X N' scope k fun Y => PE Y elt te)
    (hs : ∀ x, genFold iter X.env x = pure x := by intro _; rfl) : PE X (.Call (.Name "all" p) [d6 elt tg iter ifs scope sh] [] pos) (GP P tn idx wi g tt te) := by
  refine ⟨?_⟩
  intro pins s σ H Q I h
  refine wpAny_Call_Name_kw (gf I uY hm PyProof.Rows.boot_all ?_)
  refine PyProof.Rows.callWith_builtin1 ?_ rfl rfl
  show wpAny _ _ (spliced ((false, eval (d6 elt tg iter ifs scope sh) X.env) :: [])) _ _ s
  refine Calls.spliced_cons (AU hr hc B h0 qg bM hd dH hi hs I h ?_)
  intro J H3 a s5 Y it fp dm gn pp G ⟨W, ⟨m0, w0⟩, turn⟩
  refine Calls.spliced_nil ?_
  refine call_function_tree F.kind_all F.plain_all F.entry_all (F.args_all1 _) ?_
  unfold Builtin.«all»
  refine wpAny_bind (m := oneArg "all" _) (wpAny_pure ?_)
  refine wpAny_bind (wpAny_pyIter_gen (G.isg G.inv) ?_)
  refine wpAny_pure ⟨plainId_quiet F.plain_all_loop _, ?_⟩
  have GR := AR (A2 := X.A.in4.in1) (pp := pp) (R := fun n s₀ r au => r = .ok .next ∧ ∃ τ H, Inv Y pp τ H au ∧ Q (.bl true) H)
    (Yp := fun n s₀ v s se => ∃ c τ H, v = .bool c ∧ Inv Y pp τ H s ∧ (c = false → Q (.bl false) H) ∧ (c ≠ false → ∀ b8, mW s b8 → se (.send .none) b8)) G.A G.xe G.calm G.co G.T (G.blk _ hg) (G.blk _ ht) (G.blk _ he) G.stat turn
    (fun n s₀ au τ H J z => ⟨rfl, τ, H, J, z⟩) (fun n s₀ s se c τ H J z1 z2 => ⟨c, τ, H, rfl, J, z1, z2⟩)
  have hP := G.prog
  have hW := G.w
  rw [hP, hW] at GR
  refine AV (A := X.A) (fun n s => (∃ τ H, Inv Y pp τ H s) ∧ ∃ gs, s.gens[gn]? = some gs ∧ ∀ b8, mW s b8 → gs.Goes (model X.prog X.w) X.A.in4.in1 (fun n s₀ r au => r = .ok .next ∧ ∃ τ H, Inv Y pp τ H au ∧ Q (.bl true) H)
    (fun n s₀ v s se => ∃ c τ H, v = .bool c ∧ Inv Y pp τ H s ∧ (c = false → Q (.bl false) H) ∧ (c ≠ false → ∀ b8, mW s b8 → se (.send .none) b8)) n (.send .none) b8) ?_ (m0 + 1) s5 ?_
  · rintro n s6 ⟨⟨τ, H6, I6⟩, gs, Ow, sf⟩
    have QD := G.gsz I6
    refine wpAny_of_in1 (wpAny_of_in1 (wpAny_of_in1 ?_))
    show wpAny (model X.prog X.w) X.A.in4 (pyNext (.ref a)) _ _ s6
    refine wpAny_pyNext_genexpQ (A := X.A.in4) (P := fun n s₀ au => ∃ τ H, Inv Y pp τ H au ∧ Q (.bl true) H) hr.hd I6.nolimit hr.depth (G.isg I6) Ow (sf _ ⟨rfl, rfl, lb I6.bare rfl⟩) (fun v s1 Lq hb hv => ?_) (fun s1 hp h' hk => ?_)
    · obtain ⟨c, Lr, H1, e, I1, z1, z2⟩ := hv
      subst e
      refine ⟨c, rfl, ?_⟩
      have yn : mW s1 (s1.setGen gn Lq) := ⟨rfl, rfl, lb I1.bare hb⟩
      cases c with
      | false =>
        rw [if_neg Bool.false_ne_true]
        exact ⟨.bl false, H1, G.out (I1.mX yn), rfl, z1 rfl⟩
      | true =>
        rw [if_pos rfl]
        have z3 := z2 (by decide)
        cases n with
        | zero => exact (z3 s1 ⟨rfl, rfl, I1.bare.self⟩).elim
        | succ m =>
          refine ⟨m, Nat.lt_succ_self _, ⟨Lr, H1, I1.mX yn⟩, Lq, yl (G.gsz I1), fun b8 o => z3 b8 ⟨o.1, o.2.1, ?_⟩⟩
          exact yn.2.2.trans o.2.2
    · obtain ⟨Lr, H1, I1, z1⟩ := hp
      have I2 := I1.kept (t' := s1.toks) hk
      have Ox : mW { s1 with heap := h' } { s1.setGen gn .finished with heap := h' } := ⟨rfl, rfl, lb (s := s1) I1.bare rfl⟩
      exact ⟨.bl true, H1, G.out (I2.mX Ox), rfl, z1⟩
  · refine ⟨⟨_, _, G.inv⟩, _, G.st, fun b8 o => ⟨rfl, ?_⟩⟩
    have I7 := G.inv.mX o
    have Ls : dm 0 b8.heap := by rw [o.1]; exact G.tn0
    have q := ym (iter := iter) (ifs := ifs) (scope := scope) (pos := sh) (elt := elt) G.T Ls (by rw [hP, hW]; exact GR m0 (m0 + 1) 0 _ _ b8 b8 (Nat.lt_succ_self _) w0 I7 Ls G.fr)
    rw [hP, hW] at q
    exact q
end
section
variable {X : Cx} {tg l : Expr} {tl : TE}
theorem b9 {xs : List V} {us : List Value} (r : Vals xs us) {j : Nat} (h : j < us.toArray.size) : RelV (xs.getD j .ao) us.toArray[j] := by
  have hl := r.length
  have hj : j < xs.length := by simpa [hl] using h
  obtain ⟨u, e, q⟩ := r.get (i := j) (x := xs[j]) (List.getElem?_eq_getElem hj)
  have e2 : us.toArray[j] = u := by
    rw [List.getElem?_eq_some_iff] at e
    obtain ⟨h', e⟩ := e
    simpa using e
  rw [e2, List.getD_eq_getElem?_getD, List.getElem?_eq_getElem hj]
  exact q
theorem t7 : cL X (.builtin "isinstance") (fun xs H Q => ∃ x T t b, xs = [x, .ty T] ∧ fH X.K H x t ∧ PySem.W.kitOne X.K t (.type T) = some b ∧ Q (.bl b) H) := by
  intro pins s σ H xs us Q I r h
  obtain ⟨x, T, t, b, rfl, ty, e, q⟩ := h
  obtain ⟨u, w', rfl, r1, r2⟩ := vals2 r
  cases (show w' = Value.type T from r2)
  exact xR I r1 ty e fun tk => ⟨.bl b, H, I.tok tk, rfl, q⟩
theorem mK : ∀ {xs : List V} {us : List Value}, xs.length = us.length → (∀ (i : Nat) (v : V), xs[i]? = some v → ∃ u, us[i]? = some u ∧ RelV v u) → Vals xs us
  | [], [], _, _ => .nil
  | [], _ :: _, h, _ => by simp at h
  | _ :: _, [], h, _ => by simp at h
  | x :: xs, u :: us, h, g => by
    obtain ⟨u', e, r⟩ := g 0 x rfl
    have e' : u = u' := by simpa using e
    subst e'
    exact .cons r (mK (by simpa using h) fun i v hv => by
      obtain ⟨w, e2, r2⟩ := g (i + 1) v (by simpa using hv)
      exact ⟨w, by simpa using e2, r2⟩)
theorem si {e : Expr} {te : TE} {p p1 p2 pos : Pos} (hc : X.calm = true) (hg : Gl X "list") (hm : X.mg "list" = none) (GU : Gl X "range") (GV : X.mg "range" = none) (he : PE X e te) (hs : starEach [e] X.env = [(false, eval e X.env)] := by rfl) :
    PE X (.Call (.Name "list" p) [.Call (.Name "range" p1) [e] [] p2] [] pos) (fun σ H Q => te σ H fun x H1 => ∃ j : Int, x = .int j ∧ -(2 ^ 24) ≤ j ∧ j ≤ 2 ^ 24 ∧ ∀ l, H1 l = none → Q (.ref l) (upd H1 l (.lst ((List.range j.toNat).map fun i => V.int (i : Nat))))) := by
  refine ⟨?_⟩
  intro pins s σ H Q I h
  refine wpAny_Call_Name_kw (gf I hg hm (by decide +kernel : bootBuiltins "list" = some (.type "list")) ?_)
  refine PyProof.Rows.callWith_type1 ?_ rfl rfl
  show wpAny _ _ (spliced ((false, eval (.Call (.Name "range" p1) [e] [] p2) X.env) :: [])) _ _ s
  refine Calls.spliced_cons ?_
  refine Call_ (gf I GU GV boot_range (PyProof.Rows.callWith_type1 ?_ hs rfl))
  rw [hs]
  refine Calls.spliced_cons (thn (he pins s σ H _ I h) fun v s1 ⟨x, H1, I1, r1, q1⟩ => Calls.spliced_nil ?_)
  obtain ⟨j, rfl, b1, b2, q⟩ := q1
  obtain ⟨t, rfl⟩ := r1
  refine call_range_1 ?_
  refine Calls.spliced_nil ?_
  refine call_list_range (n := j.toNat) (I1.ok.hd hc) (IsRange.new ..) (small_one (by omega) (by omega) (by omega) (by omega)) (by rw [PyProof.Rows.rangeSize_nat]; simp) (by omega) fun h' tk h8 c' hk hS hit => ?_
  have I2 : Inv X pins σ H1 { s1 with heap := s1.heap.push { cls := .type "range", data := .fields #[.int 0 s1.toks, .int j t, .int 1 (s1.toks + 1)] }, toks := s1.toks + 1 + 1 } := I1.kept fun b o e => Heap.get?_push_of_some _ e
  obtain ⟨hsz, iS⟩ := hit
  have rv : Vals ((List.range j.toNat).map fun i => V.int (i : Nat)) h8.toList := by
    refine mK (by simpa using hsz.symm) fun i v e => ?_
    rw [List.getElem?_map] at e
    cases q2 : (List.range j.toNat)[i]? with
    | none => rw [q2] at e; cases e
    | some k =>
      rw [q2] at e
      have ek : k = i := by
        obtain ⟨_, e3⟩ := List.getElem?_eq_some_iff.mp q2
        simpa using e3.symm
      have hi : i < h8.size := by
        have := (List.getElem?_eq_some_iff.mp q2).1
        rw [List.length_range] at this
        omega
      obtain ⟨t2, e4⟩ := iS i h8[i] (by simp [hi])
      refine ⟨h8[i], by simp [hi], ?_⟩
      rw [e4]
      have e5 : v = V.int (k : Nat) := (Option.some.inj e).symm
      rw [e5, ek]
      exact ⟨t2, by simp⟩
  have ob : bw X.prog X.w (upd H1 (s1.heap.push { cls := .type "range", data := .fields #[.int 0 s1.toks, .int j t, .int 1 (s1.toks + 1)] }).objs.size (.lst ((List.range j.toNat).map fun i => V.int (i : Nat)))) h' (s1.heap.push { cls := .type "range", data := .fields #[.int 0 s1.toks, .int j t, .int 1 (s1.toks + 1)] }).objs.size (.lst ((List.range j.toNat).map fun i => V.int (i : Nat))) := by
    refine ⟨?_, h8.toList, c', rv, by simpa using hS⟩
    rw [List.length_map, List.length_range]
    exact Nat.le_trans (show j.toNat ≤ 2 ^ 24 by omega) (by decide)
  exact ⟨.ref _, _, I2.laid (t' := tk) hk (Nat.le_refl _) ob, rfl, q _ (I2.hok.fresh (Nat.le_refl _))⟩
end
theorem GW : bootBuiltins "int" = some (.type "int") := by decide +kernel
theorem D2 : bootBuiltins "bool" = some (.type "bool") := by decide +kernel
theorem iT : bootBuiltins "tuple" = some (.type "tuple") := by decide +kernel
theorem oW : bootBuiltins "list" = some (.type "list") := by decide +kernel
theorem yo : bootBuiltins "min" = some (.builtin "min") := by decide +kernel
theorem GX : bootBuiltins "max" = some (.builtin "max") := by decide +kernel
theorem GY : bootBuiltins "abs" = some (.builtin "abs") := by decide +kernel
theorem qQ : bootBuiltins "ValueError" = some (.type "ValueError") := by decide +kernel
theorem aB : bootBuiltins "isinstance" = some (.builtin "isinstance") := by decide +kernel
structure Bl (mg : Str → Option Value) : Prop where
  len_ : mg "len" = none
  range_ : mg "range" = none
  min_ : mg "min" = none
  max_ : mg "max" = none
  abs_ : mg "abs" = none
  list_ : mg "list" = none
  tuple_ : mg "tuple" = none
  int_ : mg "int" = none
  str_ : mg "str" = none
  bool_ : mg "bool" = none
  isinstance_ : mg "isinstance" = none
  all_ : mg "all" = none
  set_ : mg "set" = none
  sorted_ : mg "sorted" = none
  zip_ : mg "zip" = none
  enumerate_ : mg "enumerate" = none
  sum_ : mg "sum" = none
  reversed_ : mg "reversed" = none
  divmod_ : mg "divmod" = none
  any_ : mg "any" = none
  ValueError_ : mg "ValueError" = none
structure Df (K : PySem.W.Frag) (mg : Str → Option Value) (x : Str) (st : Stmt) (ps : List Str) (f : Addr) (fd : FuncData) : Prop where
  fn : qa K x x st f fd
  bd : Binds K fd ps []
  mg : mg x = some (.ref f)
structure qh (base : Heap) (fd : FuncData) (c P : Addr) : Prop where
  code : fd.code = .ref c
  hd : PySem.W.CodeHd base c P
section
variable {P : Program} {w : World} {K : PySem.W.Frag} {mg : Str → Option Value} {base : Heap}
theorem qa.Oy {x qual : Str} {st : Stmt} {f : Addr} {fd : FuncData} {N ps : List Str} {k : Nat} {sp : Sp} (F : qa K x qual st f fd) (S : aQ N ps (ai st)) (len : ∀ vs H Q E, sp vs H Q E → vs.length = ps.length)
    (ir : ∀ (A : Around) (outer : List Env) (s : Shared) (H : Hp) (vs : List V) (Q : VK) (E : XK), bC k (A.deeper (envOfC qual (ai st) s.heap.objs.size f fd.code)) → sp vs H Q E →
      ∃ t, eJ (fo bt P w K mg base N qual (ai st) f fd.code A outer s H E).rM (bD st) t ∧ t { nx := fun _ H' => Q .ao H', rt := Q } (start N vs) H) : FnOk P w K mg base bt (k + 1) f fd ps sp := by
  obtain ⟨oc, od, kV, doc, pm, an, bK, ct, gh, rfl, lk, dM⟩ := F.ex
  refine CL lk dM S len fun A outer s H vs Q E hr gV => ?_
  obtain ⟨t, h, q⟩ := ir A outer s H vs Q E hr gV
  exact ⟨t, h.rM, q⟩
end
noncomputable def QV : V → Bool | .int _ => true | _ => false
noncomputable def below (m : Int) : V → Bool | .int i => decide (0 ≤ i) && decide (i < m) | _ => false
structure iu (aq : List (List Int)) (w : Nat) : Prop where
  one : 1 ≤ aq.length
  nine : aq.length ≤ 9
  wid : w = 2 ∨ w = 3
  row : ∀ r ∈ aq, r.length = w ∧ ∀ g ∈ r, 0 ≤ g ∧ g < (aq.length : Int)
theorem iw {α β : Type} {F : α → β → Prop} : ∀ {xs : List α} {ys : List β} {i : Nat} {y : β}, Paired F xs ys → ys[i]? = some y → ∃ x, xs[i]? = some x ∧ F x y
  | _, _, _, _, .nil, e => by simp at e
  | _, _, 0, _, .cons f _, e => by simp at e; subst e; exact ⟨_, rfl, f⟩
  | _, _, i + 1, y, .cons _ t, e => by
    obtain ⟨x, h1, h2⟩ := iw (i := i) (y := y) t (by simpa using e)
    exact ⟨x, by simpa using h1, h2⟩
noncomputable def CQ (tb : List Addr) (H : Hp) : Prop := ∀ p ∈ tb, Tb p H
noncomputable def J7 (H : Hp) (b : Addr) : Prop := ∃ c m : Int, H b = some (.lst [.int c, .int m]) ∧ 0 ≤ c ∧ 0 ≤ m
noncomputable def Runs (J : It) (ys : List V) (H : Hp) : Prop := ∀ i, (i < ys.length → J.go i H ∧ ∀ x H', J.yld i H x H' → H' = H ∧ ys[i]? = some x) ∧ (ys.length ≤ i → J.stop i H)
theorem AW {K : PySem.W.Frag} {a : Addr} {ys : List V} {H : Hp} (h : bJ K H a ys) : Runs (F1 K a) ys H := fun i =>
  ⟨fun hi => ⟨⟨ys, ys[i], h, List.getElem?_eq_getElem hi⟩, fun x H' y => ⟨y.1, y.2 ys h⟩⟩, fun hi => ⟨ys, h, hi⟩⟩
theorem yp {K : PySem.W.Frag} {a : Addr} {ys : List V} {H : Hp} (h : bI K H a ys) : Runs (F0 K a) ys H := fun i =>
  ⟨fun hi => ⟨⟨ys, ys[i], h, List.getElem?_eq_getElem hi⟩, fun x H' y => ⟨y.1, y.2 ys h⟩⟩, fun hi => ⟨ys, h, hi⟩⟩
theorem nZ {lo : Int} {n : Nat} {H : Hp} : Runs (xG lo n) ((List.range n).map fun i => V.int (lo + (i : Nat))) H := fun i => by
  have el : ((List.range n).map fun i => V.int (lo + (i : Nat))).length = n := by simp
  rw [el]
  refine ⟨fun hi => ⟨hi, fun x H' y => ?_⟩, fun hi => hi⟩
  obtain ⟨e1, e2⟩ := y
  refine ⟨e1, ?_⟩
  rw [e2, List.getElem?_map, List.getElem?_range hi]
  rfl
section
variable {X : Cx} {K : PySem.W.Frag}
theorem uZ (h : X.K = K) : kX X (Lg K) := h ▸ Gx
theorem yq (h : X.K = K) : cL X (.builtin "len") (fun xs H Q => ∃ x n, xs = [x] ∧ Gf K x H n ∧ Q (.int n) H) := h ▸ AB
theorem qR (h : X.K = K) : cL X (.type "list") (fun xs H Q => ∃ p ys, xs = [.ref p] ∧ (bI K H p ys ∨ bJ K H p ys) ∧ ∀ l, H l = none → Q (.ref l) (upd H l (.lst ys))) := h ▸ rT
theorem oX (h : X.K = K) : cL X (.type "tuple") (fun xs H Q => ∃ p ys, xs = [.ref p] ∧ ((bI K H p ys ∧ ∀ l, H l = none → Q (.ref l) (upd H l (.tup ys))) ∨ (bJ K H p ys ∧ Q (.ref p) H))) := h ▸ qP
theorem sj (h : X.K = K) : cL X (.builtin "isinstance") (fun xs H Q => ∃ x T t b, xs = [x, .ty T] ∧ fH K H x t ∧ PySem.W.kitOne K t (.type T) = some b ∧ Q (.bl b) H) := h ▸ t7
theorem AX {tg l : Expr} {tl : TE} (h : X.K = K) (hl : PE X l tl) : PI X tg l (CD K tl) := h ▸ DL hl
theorem D3 {tg l : Expr} {tl : TE} (h : X.K = K) (hl : PE X l tl) : PI X tg l (F2 K tl) := h ▸ F3 hl
variable {o e : Expr} {es : List Expr} {to : TE} {t : TA} {name : Str} {apos bu : Pos} {T id : String} {r : V → List V → Hp → VK → Prop}
theorem GZ (h : X.K = K) (pa : PlainAttrs T) (slot : Slot T name id) (x8 : typeOf (.builtin id) = pure (.type "method_descriptor")) (hm : xY X id r) (ho : PE X o to) (ha : PA X (e :: es) t) (nR : attributeBase o name X.env (eval o X.env) = eval o X.env := by rfl)
    (rV : ((backTo bu (starEach (e :: es) X.env)).all (fun x => !x.1) && (backToKw bu (keywordEach [] X.env)).all (fun x => x.1.isSome)
      && decide ((e :: es).length + ([] : List Keyword).length + (if ([] : List Keyword).isEmpty then 0 else 1) < 30)) = true := by rfl)
    (hline : (apos.endLine == bu.line) = true := by rfl) (hs : starEach (e :: es) X.env = (false, eval e X.env) :: starEach es X.env := by rfl) (kY : (backTo bu (starEach es X.env)).any (·.1) = false := by rfl) :
    PE X (.Call (.Attribute o name apos) (e :: es) [] bu) (Lh K T r to t) := h ▸ JZ pa slot x8 hm ho ha nR rV hline hs kY
end
noncomputable abbrev bp (K : PySem.W.Frag) (x : Str) (st : Stmt) : Prop :=
  ∃ (f : Addr) (oc : Value) (od : Option Addr) (sl : Array (Option Value)) (kV dc pm : Value) (an : Option Addr) (cd ct : Value),
    PySem.W.nsIn K mainGlobals x = some (some (.ref f)) ∧ K.lookup f = some ⟨oc, od, .func (PySem.W.fnOf x x (cz st) (bD st) (ai st) .none kV dc pm an cd ct), sl⟩ ∧ PySem.W.codeIn K cd x = true ∧ PySem.W.keepIn K (.ref f) = true
theorem aM {K : PySem.W.Frag} {x : Str} {st : Stmt} {f : Addr} {oc : Value} {od : Option Addr} {sl : Array (Option Value)} {kV dc pm : Value} {an : Option Addr} {cd ct : Value} (a : PySem.W.nsIn K mainGlobals x = some (some (.ref f)))
    (l : K.lookup f = some ⟨oc, od, .func (PySem.W.fnOf x x (cz st) (bD st) (ai st) .none kV dc pm an cd ct), sl⟩) (c : PySem.W.codeIn K cd x = true) (k : PySem.W.keepIn K (.ref f) = true) : bp K x st := ⟨f, oc, od, sl, kV, dc, pm, an, cd, ct, a, l, c, k⟩
section
variable {K : PySem.W.Frag} {mg : Str → Option Value} {h base : Heap}
theorem bp.df {x : Str} {st : Stmt} (d : bp K x st) (X : K.In h) (G : h.Ns mainGlobals mg) (ps : List Str)
    (hb : ∀ (kV doc pm : Value) (an : Option Addr) (bK ct : Value) (us : List Value), us.length = ps.length → bindArgs (PySem.W.fnOf x x (cz st) (bD st) (ai st) .none kV doc pm an bK ct) ⟨us, []⟩ = pure (ps.zip us)) :
    ∃ f fd, Df K mg x st ps f fd := by
  obtain ⟨f, oc, od, sl, kV, dc, pm, an, cd, ct, a, l, c, k⟩ := d
  have F := GH (st := st) l c k
  exact ⟨f, _, F, F.binds hb, PySem.W.mg_of X G a⟩
theorem n5 {x : Str} {st : Stmt} {ps : List Str} {f p : Addr} {fd : FuncData} (D : Df K mg x st ps f fd) (X : K.In h)
    (t : ∃ f o fd c, mg x = some (.ref f) ∧ h.get? f = some o ∧ o.data = .func fd ∧ fd.code = .ref c ∧ PySem.W.CodeHd h c p) (tr : ∀ c p, PySem.W.CodeHd h c p → PySem.W.CodeHd base c p) : ∃ c, qh base fd c p := by
  obtain ⟨f', o, G0, c, e1, e2, e3, e4, e5⟩ := t
  obtain ⟨oc, od, kV, doc, pm, an, bK, ct, gh, rfl, lk, dM⟩ := D.fn.ex
  have e := D.mg.symm.trans e1
  cases e
  have q := (X _ _ lk).symm.trans e2
  cases q
  cases e3
  exact ⟨c, e4, tr _ _ e5⟩
theorem Df.bind1 {x y : Str} {st : Stmt} {f : Addr} {fd : FuncData} (D : Df K mg x st [y] f fd) (s : Shared) (v : Value)
    (hb : ∀ (kV doc pm : Value) (an : Option Addr) (bK ct : Value) (u : Value), bindArgs (PySem.W.fnOf x x (cz st) (bD st) (ai st) .none kV doc pm an bK ct) ⟨[u], []⟩ = pure [(y, u)]) : BindsTo s fd ⟨[v], []⟩ [(y, v)] := by
  obtain ⟨oc, od, kV, doc, pm, an, bK, ct, gh, rfl, lk, dM⟩ := D.fn.ex
  exact .of_eq (hb kV doc pm an bK ct v)
theorem gO {α β : Type} {F : α → β → Prop} {a : α} {r : List α} {t : List β} (h : Paired F (a :: r) t) : ∃ b t', t = b :: t' ∧ F a b ∧ Paired F r t' := by
  cases h with
  | cons x y => exact ⟨_, _, rfl, x, y⟩
theorem recs_of {q : Program} {kJ : List Str} (h : (kJ.all fun y => (recsOf q).any fun r => decide (r.name = y)) = true) : ∀ y ∈ kJ, ∃ r ∈ recsOf q, r.name = y := fun y hy => by
  have := List.all_eq_true.mp h y hy
  obtain ⟨r, hr, e⟩ := List.any_eq_true.mp this
  exact ⟨r, hr, of_decide_eq_true e⟩
end
noncomputable def jQ (xs : Array Nat) : Prop := xs.toList.Pairwise (· < ·)
theorem n6 {xs : Array Nat} (h : jQ xs) {i j : Nat} (Lv : i < j) (hj : j < xs.size) : xs[i] < xs[j] := by
  have := List.pairwise_iff_getElem.mp h i j (by simpa using Nat.lt_trans Lv hj) (by simpa using hj) Lv
  simpa using this
theorem below_go {xs : Array Nat} {v : Nat} (h : jQ xs) : ∀ (fuel lo hi : Nat), hi - lo ≤ fuel → lo ≤ hi → hi ≤ xs.size → (∀ i (ez : i < xs.size), i < lo → xs[i] < v) → (∀ i (ez : i < xs.size), hi ≤ i → v ≤ xs[i]) →
    SetTable.below.go xs v fuel lo hi ≤ xs.size ∧ (∀ i (ez : i < xs.size), i < SetTable.below.go xs v fuel lo hi → xs[i] < v) ∧ ∀ i (ez : i < xs.size), SetTable.below.go xs v fuel lo hi ≤ i → v ≤ xs[i]
  | 0, lo, hi, hf, h1, h2, ha, hb => by
    have e : lo = hi := by omega
    subst e
    exact ⟨h2, ha, hb⟩
  | fuel + 1, lo, hi, hf, h1, h2, ha, hb => by
    unfold SetTable.below.go
    by_cases bO : lo < hi
    · rw [if_pos bO]
      dsimp only
      have hm : (lo + hi) / 2 < xs.size := by omega
      have e : xs.getD ((lo + hi) / 2) v = xs[(lo + hi) / 2] := by simp [Array.getD, hm]
      rw [e]
      by_cases hc : xs[(lo + hi) / 2] < v
      · rw [if_pos hc]
        refine below_go h fuel _ _ (by omega) (by omega) h2 (fun i ez hl => ?_) hb
        by_cases ei : i = (lo + hi) / 2
        · subst ei; exact hc
        · exact Nat.lt_trans (n6 h (show i < (lo + hi) / 2 by omega) hm) hc
      · rw [if_neg hc]
        refine below_go h fuel _ _ (by omega) (by omega) (by omega) ha (fun i ez hl => ?_)
        by_cases ei : i = (lo + hi) / 2
        · subst ei; exact Nat.le_of_not_lt hc
        · exact Nat.le_trans (Nat.le_of_not_lt hc) (Nat.le_of_lt (n6 h (show (lo + hi) / 2 < i by omega) ez))
    · rw [if_neg bO]
      have e : lo = hi := by omega
      subst e
      exact ⟨h2, ha, hb⟩
theorem mZ {xs : Array Nat} (v : Nat) (h : jQ xs) : SetTable.below xs v ≤ xs.size ∧ (∀ i (ez : i < xs.size), i < SetTable.below xs v → xs[i] < v) ∧ ∀ i (ez : i < xs.size), SetTable.below xs v ≤ i → v ≤ xs[i] :=
  below_go h _ _ _ (by omega) (Nat.zero_le _) (Nat.le_refl _) (fun i _ z => absurd z (Nat.not_lt_zero _)) (fun i z z' => absurd z (Nat.not_lt.mpr z'))
theorem vV {xs : Array Nat} {v : Nat} (h : jQ xs) (hn : xs[SetTable.below xs v]? ≠ some v) : jQ (SetTable.insertAt xs (SetTable.below xs v) v) := by
  obtain ⟨b0, b1, b2⟩ := mZ v h
  generalize SetTable.below xs v = p at *
  unfold jQ SetTable.insertAt
  have e : ((xs.extract 0 p).push v ++ xs.extract p xs.size).toList = xs.toList.take p ++ [v] ++ xs.toList.drop p := by
    simp
    exact List.take_of_length_le (by simp)
  rw [e]
  have hl : ∀ y ∈ xs.toList.take p, y < v := fun y hy => by
    obtain ⟨i, hi, rfl⟩ := List.mem_take_iff_getElem.mp hy
    have qi : i < p ∧ i < xs.size := by simpa [Nat.lt_min] using hi
    simpa using b1 i qi.2 qi.1
  have hr : ∀ y ∈ xs.toList.drop p, v < y := fun y hy => by
    obtain ⟨i, hi, rfl⟩ := List.mem_drop_iff_getElem.mp hy
    have qi : p + i < xs.size := by rw [Nat.add_comm]; simpa using hi
    have h1 : v ≤ xs[p + i] := b2 (p + i) qi (Nat.le_add_right _ _)
    have h2 : v ≠ xs[p + i] := fun z => by
      by_cases Oz : i = 0
      · subst Oz
        exact hn (by rw [Nat.add_zero] at qi; rw [Array.getElem?_eq_getElem qi]; simpa using z.symm)
      · have q := n6 h (show p < p + i by omega) qi
        have q2 := b2 p (by omega) (Nat.le_refl _)
        omega
    have : xs.toList[p + i]'(by simpa using qi) = xs[p + i] := by simp
    rw [this]
    omega
  have hp := List.take_append_drop p xs.toList
  have OA : (xs.toList.take p ++ xs.toList.drop p).Pairwise (· < ·) := by rw [hp]; exact h
  obtain ⟨q1, q2, q3⟩ := List.pairwise_append.mp OA
  refine List.pairwise_append.mpr ⟨List.pairwise_append.mpr ⟨q1, List.pairwise_singleton _ _, fun a ha b hb => ?_⟩, q2, fun a ha b hb => ?_⟩
  · rw [List.mem_singleton] at hb; subst hb; exact hl a ha
  · rcases List.mem_append.mp ha with ha | ha
    · exact q3 a ha b hb
    · rw [List.mem_singleton] at ha; subst ha; exact hr b hb
structure bN (w : World) (t : SetTable) : Prop where
  dum : t.dummies = #[]
  ris : jQ t.place
  led : t.led = !w.params.followText "set-order"
theorem yr (n : Nat) : jQ (Array.range n) := by
  unfold jQ
  rw [Array.toList_range]
  exact List.pairwise_lt_range
theorem bN.standIn {w : World} {t : SetTable} (h : bN w t) (n : Nat) : bN w (t.standIn n) := ⟨rfl, yr n, h.led⟩
theorem bN.orStandIn {w : World} {t : SetTable} (h : bN w t) (n : Nat) : bN w (t.orStandIn n) := by
  unfold SetTable.orStandIn
  split
  · exact h
  · exact h.standIn n
theorem u0 (j : Nat) : SetTable.has #[] j = false := by
  unfold SetTable.has
  have : (#[] : Array Nat)[SetTable.below #[] j]? = none := by simp
  rw [this]
  rfl
theorem sk {w : World} {t : SetTable} (h : bN w t) {hashAt : Nat → Int} {hh : Int} {j : Nat} {d : Option Nat} : ∀ (fuel : Nat) (p : SetTable.Probe), p.dummy = none → SetTable.probe.go t hashAt hh fuel p = some (.empty j d) → t.slot j = .empty ∧ d = none
  | 0, p, _, e => by simp [SetTable.probe.go] at e
  | fuel + 1, p, hp, e => by
    unfold SetTable.probe.go at e
    have Nb : ∀ p : SetTable.Probe, (t.advance p).dummy = p.dummy := fun p => by
      unfold SetTable.advance
      split <;> rfl
    cases hs : t.slot p.j with
    | empty =>
      rw [hs] at e
      have e' := Option.some.inj e
      injection e' with e1 e2
      exact ⟨by rw [← e1]; exact hs, by rw [← e2]; exact hp⟩
    | dummy =>
      exfalso
      unfold SetTable.slot at hs
      dsimp only at hs
      rw [h.dum, u0] at hs
      split at hs <;> simp at hs
    | live i =>
      rw [hs] at e
      dsimp only at e
      split at e
      · simp at e
      · exact sk h fuel _ (by rw [Nb]; exact hp) e
theorem vW {w : World} {t : SetTable} (h : bN w t) {j : Nat} (e : t.slot j = .empty) : t.place[SetTable.below t.place j]? ≠ some j := fun z => by
  unfold SetTable.slot at e
  dsimp only at e
  rw [z] at e
  simp at e
theorem bN.put {w : World} {t : SetTable} (h : bN w t) {j : Nat} (e : t.slot j = .empty) : bN w (t.put j).1 := by
  unfold SetTable.put
  refine ⟨?_, vV h.ris (vW h e), h.led⟩
  show (if SetTable.has t.dummies j then _ else t.dummies) = #[]
  rw [h.dum, u0]
  rfl
theorem bN.layNew {w : World} {t : SetTable} (h : bN w t) (es : Array (Int × Value)) (hh : Int) (x : Value) : bN w (layNew t es hh x).2.1 := by
  unfold PySem.layNew
  split
  · rename_i slot m4 hf
    unfold SetTable.freeSlot at hf
    refine (bN.put h ?_).orStandIn _
    split at hf
    · rename_i j dummy hp
      obtain ⟨e1, e2⟩ := sk h _ _ rfl hp
      subst e2
      have := Option.some.inj hf
      injection this with z1 _
      rw [← z1]
      exact e1
    · cases hf
  · exact h.standIn _
theorem AY {α : Type} (f : Nat → Option α) (n : Nat) : jQ (((List.range n).filterMap fun j => (f j).map (j, ·)).map (·.1)).toArray := by
  unfold jQ
  have e : (((List.range n).filterMap fun j => (f j).map (j, ·)).map (·.1)).toArray.toList = (List.range n).filter fun j => (f j).isSome := by
    rw [List.toList_toArray]
    induction List.range n with
    | nil => rfl
    | cons a l ih =>
      cases hf : f a with
      | none => simp [List.filterMap_cons, hf, ih]
      | some b => simp [List.filterMap_cons, hf, ih]
  rw [e]
  exact List.Pairwise.filter _ List.pairwise_lt_range
theorem bN.J8 {w : World} {t : SetTable} (h : bN w t) (es : Array (Int × Value)) (wanted : Nat) : bN w (relayAll t es wanted).2.1 := by
  unfold relayAll
  split
  · rename_i t' order hr
    dsimp only
    split
    · unfold SetTable.relaid SetTable.laid at hr
      simp only [Option.bind_eq_bind, Option.bind_eq_some_iff, Option.pure_def] at hr
      obtain ⟨owner, _, hr⟩ := hr
      have := Option.some.inj hr
      injection this with z1 _
      subst z1
      exact ⟨rfl, AY (fun j => owner.getD j none) _, h.led⟩
    · exact h.standIn _
  · exact h.standIn _
theorem bN.AZ {w : World} {t : SetTable} (h : bN w t) (b : Bool) : bN w (if b = true then t else { t with plain := false }) := by
  split
  · exact h
  · exact ⟨h.dum, h.ris, h.led⟩
noncomputable def dB (e : Int × Value) : Int := match e.2 with | .int i _ => i | _ => 0
noncomputable def cm (P : Program) (w : World) (h : Heap) (a : Addr) (ns : List Int) : Prop :=
  ∃ o es ep t, h.get? a = some o ∧ o.ExactSet ∧ o.data = .set es ep t ∧ ElemsOf (intKind P w) es.toList ∧ (es.toList.map dB).Perm ns ∧ ns.Nodup ∧ es.size < scanBound ∧ t.fits es.size = true ∧ bN w t
theorem cm.bU {P : Program} {w : World} {h h' : Heap} {a : Addr} {ns : List Int} (x : cm P w h a ns) (k : ∀ o, h.get? a = some o → h'.get? a = some o) : cm P w h' a ns :=
  let ⟨o, es, ep, t, e, r⟩ := x; ⟨o, es, ep, t, k o e, r⟩
noncomputable def m5 (P : Program) (w : World) (a : Addr) (ns : List Int) : HO := .ext fun h => cm P w h a ns
noncomputable def eT (ns : List Int) (m : Int) : List Int := if m ∈ ns then ns else ns ++ [m]
theorem t8 {P : Program} {w : World} {es : List (Int × Value)} (h : ElemsOf (intKind P w) es) {k : Int} : (∃ e ∈ es, (intKind P w).is k e.2 = true) ↔ k ∈ es.map dB := by
  constructor
  · rintro ⟨e, he, hk⟩
    obtain ⟨t, e2⟩ := Value.isInt_shape (k := k) (v := e.2) hk
    exact List.mem_map.mpr ⟨e, he, by unfold dB; rw [e2]⟩
  · intro hm
    obtain ⟨e, he, q⟩ := List.mem_map.mp hm
    obtain ⟨⟨k', qj, _⟩, _⟩ := h e he
    obtain ⟨t, e2⟩ := Value.isInt_shape (k := k') (v := e.2) qj
    have : k' = k := by rw [← q]; unfold dB; rw [e2]
    exact ⟨e, he, this ▸ qj⟩
section
variable {P : Program} {w : World} {A : Around} {E : Value → Shared → Prop} {s : Shared}
theorem n8 {h : Heap} {a : Addr} {o : Obj} {es : Array (Int × Value)} {ep : Nat} {t : SetTable} (ho : h.get? a = some o) (hex : o.ExactSet) (hd : o.data = .set es ep t)
    {gS : Array (Int × Value)} {t' : SetTable} {ns : List Int} (jo : ElemsOf (intKind P w) gS.toList) (hp : (gS.toList.map dB).Perm ns) (hn : ns.Nodup) (hb : gS.size < scanBound) (hf : t'.fits gS.size = true) (ht : bN w t') :
    (h.update a (Obj.putSet gS t')).get? a = some { o with data := .set gS (ep + 1) t' } ∧ cm P w (h.update a (Obj.putSet gS t')) a ns := by
  have hg : (h.update a (Obj.putSet gS t')).get? a = some { o with data := .set gS (ep + 1) t' } := by
    have := Heap.get?_update_self (Obj.putSet gS t') ho (by rw [putSet_of gS t' hd]; rfl)
    rw [putSet_of gS t' hd] at this; exact this
  exact ⟨hg, _, gS, ep + 1, t', hg, hex, rfl, jo, hp, hn, hb, hf, ht⟩
theorem sm {g : Bool → Sem Unit} (hg : ∀ (b : Bool) (au : Shared) (Q' : Unit → Shared → Prop), Q' () au → wpAny (model P w) A (g b) Q' E au)
    {a : Addr} {o : Obj} {es : Array (Int × Value)} {ep : Nat} {t : SetTable} (ho : s.heap.get? a = some o) (hex : o.ExactSet) (hd : o.data = .set es ep t)
    {eA : Array (Int × Value)} {t2 : SetTable} {ns : List Int} (so : ElemsOf (intKind P w) eA.toList) (yt : (eA.toList.map dB).Perm ns) (hn : ns.Nodup)
    (u5 : eA.size < scanBound) (OB : t2.fits eA.size = true) (yu : bN w t2) {m4 : Bool} {R : Option Bool → Shared → Prop}
    (h : ∀ h', Heap.SameBut a s.heap h' → cm P w h' a ns → R (some true) { s with heap := h' }) :
    wpAny (model P w) A (do
        storeSet a eA t2
        if (!m4 && t2.tooFull) = true then do
            g (relayAll t2 eA (SetTable.grown eA.size)).2.2
            storeSet a (relayAll t2 eA (SetTable.grown eA.size)).1 (relayAll t2 eA (SetTable.grown eA.size)).2.1
            pure (some true)
          else pure (some true)) R E s := by
  refine wpAny_bind (wpAny_storeSet_of ho hd ?_ (fits_of_scanBound u5))
  obtain ⟨Lw, yw⟩ := n8 (P := P) (w := w) ho hex hd so yt hn u5 OB yu
  have G1 := Heap.SameBut.update s.heap a (Obj.putSet eA t2)
  split
  · have hp := relayAll_perm t2 eA (SetTable.grown eA.size)
    have yg := relayAll_fits t2 eA (SetTable.grown eA.size)
    have k9 := yu.J8 eA (SetTable.grown eA.size)
    generalize relayAll t2 eA (SetTable.grown eA.size) = Rl at hp yg k9 ⊢
    obtain ⟨Lx, t3, Qw⟩ := Rl
    dsimp only at hp yg k9 ⊢
    have hsz : Lx.size = eA.size := by rw [← Array.length_toList, hp.length_eq, Array.length_toList]
    have CT : Lx.size < scanBound := by rw [hsz]; exact u5
    refine wpAny_bind (hg _ _ _ (wpAny_bind (wpAny_storeSet_of Lw rfl ?_ (fits_of_scanBound CT))))
    obtain ⟨_, G2⟩ := n8 (P := P) (w := w) Lw hex rfl (so.perm hp) ((hp.map dB).trans yt) hn CT yg k9
    exact wpAny_pure (h _ (G1.trans (Heap.SameBut.update _ a _)) G2)
  · exact wpAny_pure (h _ G1 yw)
theorem yx {a : Addr} {ns : List Int} {m : Int} {tk : Tok} {Q : Bool → Shared → Prop} (hS : cm P w s.heap a ns) (nY : ns.length + 1 < scanBound)
    (h : ∀ h', Heap.SameBut a s.heap h' → cm P w h' a (eT ns m) → Q (decide (m ∉ ns)) { s with heap := h', toks := s.toks + 1 }) : wpAny (model P w) A (setAdd a (.int m tk)) Q E s := by
  unfold setAdd
  refine wpAny_holding (wpAny_bind ((intKind P w).pyHash (k := m) (intKind_is _ _ _ _) ?_))
  have vM : (intKind P w).is m (.int m tk) = true := intKind_is _ _ _ _
  obtain ⟨o, es, ep, t, ho, hex, hd, jo, hp, hn, hb, hf, ht⟩ := hS
  have G3 : ∀ k, (∃ e ∈ es.toList, (intKind P w).is k e.2 = true) ↔ k ∈ ns := fun k => (t8 jo).trans hp.mem_iff
  have hlen : es.size = ns.length := by rw [← Array.length_toList, ← hp.length_eq, List.length_map]
  unfold setAddHashed setAddHashedIn
  refine wpAny_holding (wpAny_bind (wpAny_setState_of (s := { s with toks := s.toks + 1 }) ho hd hf ?_))
  dsimp only
  rw [byScan_of (x := .int m tk) rfl hb jo]
  simp only [↓reduceIte]
  unfold setAddByScan
  refine wpAny_bind (wpAny_bind (wpAny_rule (wpAny_bind (wpAny_setScan_of vM ho hd hf jo ?_))))
  cases hr : List.findIdx? (fun e => (intKind P w).is m e.2) es.toList with
  | some j =>
    dsimp only
    obtain ⟨hj, OC, _⟩ := List.findIdx?_eq_some_iff_getElem.mp hr
    have hm : m ∈ ns := (G3 m).mp ⟨es.toList[j], List.getElem_mem hj, OC⟩
    have := h s.heap (Heap.SameBut.refl a s.heap) (by unfold eT; rw [if_pos hm]; exact ⟨o, es, ep, t, ho, hex, hd, jo, hp, hn, hb, hf, ht⟩)
    rw [decide_eq_false (fun z => z hm)] at this
    exact wpAny_pure (wpAny_pure this)
  | none =>
    dsimp only
    have hm : m ∉ ns := fun z => by
      obtain ⟨e, he, q⟩ := (G3 m).mpr z
      have := List.findIdx?_eq_none_iff.mp hr e he
      rw [q] at this; cases this
    have mi := layNew_perm t es ((intKind P w).hash m) (.int m tk)
    have og := layNew_fits t es ((intKind P w).hash m) (.int m tk)
    have iU := ht.layNew es ((intKind P w).hash m) (.int m tk)
    generalize layNew t es ((intKind P w).hash m) (.int m tk) = L at mi og iU ⊢
    obtain ⟨eA, t1, m4, QF⟩ := L
    dsimp only at mi og iU ⊢
    rw [Array.toList_push] at mi
    have so : ElemsOf (intKind P w) eA.toList := (jo.push vM rfl).perm mi
    have G4 : eT ns m = ns ++ [m] := by unfold eT; rw [if_neg hm]
    have yt : (eA.toList.map dB).Perm (eT ns m) := by
      rw [G4]
      refine (mi.map dB).trans ?_
      rw [List.map_append]
      exact List.Perm.append hp (.refl _)
    have u6 : (eT ns m).Nodup := by
      rw [G4]
      exact List.nodup_append.mpr ⟨hn, by simp, fun a ha b hb => by rw [List.mem_singleton] at hb; rw [hb]; exact fun z => hm (z ▸ ha)⟩
    have u5 : eA.size < scanBound := by rw [← Array.length_toList, mi.length_eq, List.length_append, Array.length_toList, hlen]; simpa using nY
    have G5 : ∀ (b : Bool) (au : Shared) (Q' : Unit → Shared → Prop), Q' () au → wpAny (model P w) A (match b with | true => rule "set.scan.the-table-gave-way" | false => pure ()) Q' E au :=
      fun b au Q' hq => by cases b <;> first | exact wpAny_pure hq | exact wpAny_rule hq
    have G6 : ∀ h', Heap.SameBut a s.heap h' → cm P w h' a (eT ns m) → Q true { s with heap := h', toks := s.toks + 1 } := by
      intro h' iR jR
      have := h h' iR jR
      rw [decide_eq_true hm] at this
      exact this
    refine wpAny_bind (G5 _ _ _ ?_)
    split
    · refine wpAny_bind ?_
      rw [hashByValue_scannable 8 (x := .int m tk) rfl]
      refine wpAny_pure (sm (P := P) (w := w) (s := { s with toks := s.toks + 1 }) G5 ho hex hd so yt u6 u5 ?_ (iU.AZ _) fun h' iR jR => wpAny_pure (G6 h' iR jR))
      split
      · exact og
      · exact SetTable.fits_plain_off og
    · refine wpAny_bind (wpAny_pure ?_)
      simp only [↓reduceIte]
      exact sm (P := P) (w := w) (s := { s with toks := s.toks + 1 }) G5 ho hex hd so yt u6 u5 og iU fun h' iR jR => wpAny_pure (G6 h' iR jR)
theorem vX {ns : List Int} (h : ns.Nodup) (m : Int) : (eT ns m).Nodup := by
  unfold eT
  split
  · exact h
  · rename_i hm
    exact List.nodup_append.mpr ⟨h, by simp, fun a ha b hb => by rw [List.mem_singleton] at hb; rw [hb]; exact fun z => hm (z ▸ ha)⟩
theorem A0 {ns : List Int} {m : Int} : (eT ns m).length ≤ ns.length + 1 := by
  unfold eT
  split
  · omega
  · simp
end
noncomputable def dC (ns : List Int) : List Int := ns.foldl eT []
theorem yy (ns : List Int) (m : Int) : dC (ns ++ [m]) = eT (dC ns) m := by
  unfold dC
  rw [List.foldl_append]
  rfl
theorem vY (ns : List Int) : (dC ns).Nodup := by
  unfold dC
  have : ∀ (l acc : List Int), acc.Nodup → (l.foldl eT acc).Nodup := fun l => by
    induction l with
    | nil => exact fun acc h => h
    | cons a l ih => exact fun acc h => ih _ (vX h a)
  exact this ns [] .nil
theorem sr (ns : List Int) : (dC ns).length ≤ ns.length := by
  unfold dC
  have : ∀ (l acc : List Int), (l.foldl eT acc).length ≤ acc.length + l.length := fun l => by
    induction l with
    | nil => intro acc; simp
    | cons a l ih =>
      intro acc
      rw [List.foldl_cons, List.length_cons]
      have h1 := ih (eT acc a)
      have h2 := @A0 acc a
      omega
  simpa using this ns []
section
variable {P : Program} {w : World} {A : Around} {R : Result → Shared → Prop} {I : Addr} {fp wr : List Addr} {G : Array GenState → Array GenState → Prop} {n : Nat} {St : Nat → Shared → Prop}
theorem A1 {vs : List Int} {Pv : Nat → Value → Prop} (W : WalksS P w A.in1 I fp wr G vs.length Pv St) (S : Addr) (su : S ∉ fp) (A6 : ∀ (i : Nat) (v : Value), Pv i v → ∃ m t, vs[i]? = some m ∧ v = .int m t) (hb : vs.length + 1 < scanBound) :
    ∀ (k i : Nat) (s : Shared), vs.length - i = k → i ≤ vs.length → St i s → cm P w s.heap S (dC (vs.take i)) →
      (∀ s', Moved (S :: wr) G s s' → cm P w s'.heap S (dC vs) → R (.ok (.ret .none)) s') →
      codeAny (model P w) A (.builtin "set.update.loop" ⟨[.ref S, .ref I], []⟩) R s := by
  have Ly : S ∉ wr := fun h => su (W.sub _ h)
  have j6 : ∀ b ∈ wr, b ∈ S :: wr := fun b hb => List.mem_cons_of_mem _ hb
  intro k
  induction k with
  | zero =>
    intro i s hk hi ig hS hR
    have qk : i = vs.length := by omega
    subst qk
    refine codeAny_builtin F.entry_set_update_loop ?_
    rw [Around.under_plainId F.plain_set_update_loop _]
    show wpAny _ A.in1 (pyNext (.ref I) >>= _) _ _ s
    refine wpAny_bind (W.done s _ _ ig fun s' hm => ?_)
    rw [List.take_length] at hS
    exact wpAny_pure (hR s' (hm.mono j6) (hS.bU fun o e => hm.heap S _ Ly e))
  | succ k ih =>
    intro i s hk hi ig hS hR
    have bO : i < vs.length := by omega
    refine codeAny_builtin F.entry_set_update_loop ?_
    rw [Around.under_plainId F.plain_set_update_loop _]
    show wpAny _ A.in1 (pyNext (.ref I) >>= _) _ _ s
    refine wpAny_bind (W.item i s _ _ bO ig fun v s' hP Nc hm => ?_)
    obtain ⟨m, t, jS, rfl⟩ := A6 i v hP
    have jR : cm P w s'.heap S (dC (vs.take i)) := hS.bU fun o e => hm.heap S _ Ly e
    show wpAny _ A.in1 (holding [Value.int m t] (setAdd S (.int m t)) >>= _) _ _ s'
    have nY : (dC (vs.take i)).length + 1 < scanBound := by
      have h1 := sr (vs.take i)
      rw [List.length_take] at h1
      omega
    refine wpAny_bind (wpAny_holding (yx jR nY fun h' iR G2 => ?_))
    have OD : cm P w h' S (dC (vs.take (i + 1))) := by
      rw [List.take_add_one, jS]
      show cm P w h' S (dC (vs.take i ++ [m]))
      rw [yy]
      exact G2
    refine wpAny_pure ⟨plainId_quiet F.plain_set_update_loop _, ih (i + 1) _ (by omega) bO (W.frame _ s' _ _ Nc (Nat.le_succ _) fun b hb o e => ?_) OD fun b8 Nf Ng => ?_⟩
    · rw [iR.2 b (fun h : b = S => su (by rw [← h]; exact hb))]; exact e
    · refine hR b8 (Moved.trans W.gtrans ((hm.mono j6).then_heap (Nat.le_succ _) fun b o hb e => ?_) Nf) Ng
      rw [iR.2 b (fun h : b = S => hb (by rw [h]; exact List.mem_cons_self))]; exact e
end
theorem sub_tuple_set : isSubtype (.type "tuple") (.type "set") = pure false := by rw [isSubtype_type]; kernel_rfl
theorem oY : isSubtype (.type "tuple") (.type "frozenset") = pure false := by rw [isSubtype_type]; kernel_rfl
section
variable {P : Program} {w : World} {A : Around} {E : Value → Shared → Prop} {s : Shared}
noncomputable abbrev gF (w : World) : Obj := { cls := .type "set", dict := none, data := .set #[] 0 (.fresh 0 0 (!w.params.followText "set-order")) }
theorem D4 {h : Heap} : cm P w (h.push (gF w)) h.objs.size [] := ⟨_, #[], 0, _, Heap.get?_push_size _ rfl, ⟨rfl, rfl, rfl⟩, rfl, fun e he => by simp at he, by simp, by simp, by decide, by rfl, rfl, List.Pairwise.nil, rfl⟩
theorem A7 (a : Value) {Q₁ : Value → Shared → Prop} (h : Q₁ (.ref s.heap.objs.size) { s with heap := s.heap.push (gF w) }) :
    codeAny (model P w) A (.call (.builtin "set.__new__") ⟨[.type "set", a], []⟩) (wants Q₁ E) s := by
  refine codeAny_of_tree ?_
  show wpAny _ A.in1 (do checkBuiltinCall "set.__new__" ⟨[.type "set", a], []⟩; again (.builtin "set.__new__" ⟨[.type "set", a], []⟩)) _ _ s
  refine wpAny_bind (wpAny_of_eq (F.newCall_set_1 a) (wpAny_pure ⟨plainId_quiet F.plain_set_new _, codeAny_builtin F.entry_set_new ?_⟩))
  rw [Around.under_plainId F.plain_set_new _]
  unfold Builtin.«set.__new__» Builtin.Frozenset.newClass
  have j6 := sub_set_self
  obtain ⟨hp, g, d, tk, os⟩ := s
  dsimp only
  wp_walk
  refine wpAny_askSetting (wpAny_pure ?_)
  dsimp only
  simp only [newObj]
  refine wpAny_bind (wpAny_alloc (wpAny_pure ?_))
  exact wpAny_pure h
theorem cm.typeIs {h : Heap} {a : Addr} {ns : List Int} {s : Shared} (x : cm P w s.heap a ns) : s.TypeIs (.ref a) "set" := let ⟨o, _, _, _, ho, hex, _⟩ := x; ⟨o, ho, hex.1⟩
theorem lg {T : String} {l : Addr} {itob : Obj} {vs : List Int} {Pv : Nat → Value → Prop} {St : Addr → Nat → Heap → Prop} {Q : Value → Shared → Prop} (hh : A.handled = none)
    (hl : ∃ o, s.heap.get? l = some o) (hT : ∀ s1 : Shared, (∀ o, s.heap.get? l = some o → s1.heap.get? l = some o) → s1.TypeIs (.ref l) T) (h1 : isSubtype (.type T) (.type "set") = pure false) (h2 : isSubtype (.type T) (.type "frozenset") = pure false) (h3 : (Value.type T == Value.type "dict") = false)
    (hit : ∀ (A' : Around) (s1 : Shared) (Q' : Value → Shared → Prop) (E' : Value → Shared → Prop), (∀ o, s.heap.get? l = some o → s1.heap.get? l = some o) → Q' (.ref s1.heap.objs.size) { s1 with heap := s1.heap.push itob } → wpAny (model P w) A' (pyIter (.ref l)) Q' E' s1)
    (hW : ∀ (A' : Around) (I : Addr), A'.handled = none → l ≠ I → Walks P w A' I [I, l] [I] vs.length Pv (St I)) (OG : ∀ h1 : Heap, (∀ o, s.heap.get? l = some o → h1.get? l = some o) → St h1.objs.size 0 (h1.push itob))
    (A6 : ∀ (i : Nat) (v : Value), Pv i v → ∃ m t, vs[i]? = some m ∧ v = .int m t) (hb : vs.length + 1 < scanBound)
    (h : ∀ (h' : Heap) (tk : Nat), cm P w h' s.heap.objs.size (dC vs) → (∀ b o, s.heap.get? b = some o → h'.get? b = some o) → Q (.ref s.heap.objs.size) { s with heap := h', toks := tk }) :
    wpAny (model P w) A (call (.type "set") [.ref l]) Q E s := by
  obtain ⟨c, tl, QH⟩ := F.called_set.mro
  have Qx := F.called_set.made
  have j6 := F.called_set.sub
  refine wpAny_call (codeAny_of_tree ?_)
  show wpAny _ _ (callAny (.type "set") _) _ _ _
  refine wpAny_pure ⟨Code.quiet_builtin _ (by decide +kernel), codeAny_builtin F.entry_type_call ?_⟩
  rw [Around.under_plain (weight_type_call_type "set" [.ref l] []) rfl]
  have k1 := F.called_set.notType
  have k2 := F.called_set.canCreate
  have QX := F.typeCall_set_1 (.ref l)
  repeat (any_goals (first | assumption | wp_step))
  refine codeAny_mono (A7 (P := P) (w := w) (.ref l) (E := E) (Q₁ := fun obj au => obj = .ref s.heap.objs.size ∧ au = { s with heap := s.heap.push (gF w) }) ⟨rfl, rfl⟩) fun r au hr => ?_
  cases r with
  | error e => exact hr
  | ok fl =>
    cases fl with
    | ret obj =>
      obtain ⟨rfl, rfl⟩ := hr
      have hS : (s.heap.push (gF w)).get? s.heap.objs.size = some { cls := .type "set", dict := none, data := .set #[] 0 (.fresh 0 0 (!w.params.followText "set-order")) } := Heap.get?_push_size _ rfl
      have OH : Shared.TypeIs { s with heap := s.heap.push (gF w) } (.ref s.heap.objs.size) "set" := ⟨_, hS, rfl⟩
      have kp : ∀ b o, s.heap.get? b = some o → (s.heap.push (gF w)).get? b = some o := fun b o e => Heap.get?_push_of_some _ e
      have sz : (s.heap.push (gF w)).objs.size = s.heap.objs.size + 1 := by rw [Heap.size_push]
      have u9 := F.called_set.init.lookup
      have QY := F.called_set.init.bind (.ref s.heap.objs.size)
      repeat (any_goals (first | assumption | wp_step))
      refine codeAny_mono (codeAny_call_builtin (R := wants (fun r jE => r = .none ∧ ∃ h' tk, jE = { s with heap := h', toks := tk } ∧ cm P w h' s.heap.objs.size (dC vs) ∧
          (∀ b o, s.heap.get? b = some o → h'.get? b = some o)) E) F.called_set.init.plain F.entry_set_init (check_set_init_1 OH ?_)) fun Nh jE vZ => ?_
      · have QZ := hT { s with heap := s.heap.push (gF w) } (fun o e => kp l o e)
        unfold Builtin.«set.__init__» noKeywords Builtin.Frozenset.updateFrom
        generalize OI : pyIter = PI
        wp_walk
        subst OI
        obtain ⟨ol, sv⟩ := hl
        have Lz : l < s.heap.objs.size := Heap.lt_size sv
        refine hit _ { s with heap := s.heap.push (gF w) } _ _ (fun o e => kp l o e) ?_
        refine wpAny_bind (wpAny_runValue ?_)
        have OJ : A.in1.in1.in1.handled = none := by simp [hh]
        have Ni : l ≠ (s.heap.push (gF w)).objs.size := by rw [sz]; exact Nat.ne_of_lt (Nat.lt_succ_of_lt Lz)
        have su : s.heap.objs.size ∉ [(s.heap.push (gF w)).objs.size, l] := by
          rw [sz]; simp only [List.mem_cons, List.not_mem_nil, or_false, not_or]
          exact ⟨Nat.ne_of_lt (Nat.lt_succ_self _), Nat.ne_of_gt Lz⟩
        refine A1 ((hW _ (s.heap.push (gF w)).objs.size OJ Ni).toS) s.heap.objs.size su A6 hb (vs.length - 0) 0 _ (by omega) (Nat.zero_le _) (OG (s.heap.push (gF w)) fun o e => kp l o e) (D4.bU fun o e => Heap.get?_push_of_some _ e) ?_
        intro s' hm jR
        obtain ⟨h', g', d', OM, CJ⟩ := s'
        have eg : g' = s.gens := hm.gens
        have ed : d' = s.drawn := hm.drawn
        have eo : CJ = s.os := hm.os
        subst eg; subst ed; subst eo
        show wpAny _ _ _ _ _ _
        refine wpAny_pure ?_
        show wpAny _ _ (ret Value.none) _ _ _
        refine wpAny_pure ⟨rfl, h', OM, rfl, jR, fun b o e => ?_⟩
        have CU : b < s.heap.objs.size := Heap.lt_size e
        refine hm.heap b o ?_ (Heap.get?_push_of_some _ (kp b o e))
        simp only [List.mem_cons, List.not_mem_nil, or_false, not_or]
        exact ⟨Nat.ne_of_lt CU, by rw [sz]; exact Nat.ne_of_lt (Nat.lt_succ_of_lt CU)⟩
      · cases Nh with
        | error e => exact vZ
        | ok J9 =>
          cases J9 with
          | ret r =>
            obtain ⟨rfl, h', tk, rfl, jR, qj⟩ := vZ
            repeat (any_goals (first | assumption | wp_step))
            exact h _ _ jR qj
          | _ => exact vZ.elim
    | _ => exact hr.elim
end
theorem yz : Manifest.owners.lookup (String.ofList ['r', 'o', 't', 'a', 'r', 'e', 't', 'i', '_', 't', 'e', 's'].reverse) = some Manifest.sig_set_iterator := by kernel_rfl
theorem bZ : Slot "set_iterator" "__next__" "set_iterator.__next__" :=
  .of (owner := "set_iterator") (n := "__next__") (by rw [typeLookup_type, builtinLookup_eq_fast]; kernel_rfl) (by decide +kernel) (by decide +kernel) (by decide +kernel)
    (by first | exact .inl (by decide +kernel) | exact .inr (by decide +kernel)) (by rw [isSubtype_type]; kernel_rfl)
theorem ix : entryFor table "set_iterator.__next__" = some Builtin.«set_iterator.__next__» := entryFor_of_tree (by kernel_rfl)
theorem iy (a : Value) : argsOk "set_iterator.__next__" ⟨[a], []⟩ := by
  unfold argsOk; rw [signature?_of (id := "set_iterator.__next__") (n := ['_', '_', 't', 'x', 'e', 'n', '_', '_']) (o := ['r', 'o', 't', 'a', 'r', 'e', 't', 'i', '_', 't', 'e', 's']) (by kernel_rfl) yz]; kernel_rfl
theorem oh : Slot "set_iterator" "__iter__" "set_iterator.__iter__" :=
  .of (owner := "set_iterator") (n := "__iter__") (by rw [typeLookup_type, builtinLookup_eq_fast]; kernel_rfl) (by decide +kernel) (by decide +kernel) (by decide +kernel)
    (by first | exact .inl (by decide +kernel) | exact .inr (by decide +kernel)) (by rw [isSubtype_type]; kernel_rfl)
theorem v3 : entryFor table "set_iterator.__iter__" = some Builtin.«dict_keyiterator.__iter__» :=
  entryFor_alias (id' := "dict_keyiterator.__iter__") (by kernel_rfl) (by first | rfl | decide +kernel | (unfold String.splitOn; simp +decide [String.splitOnAux])) (by decide +kernel) (by kernel_rfl)
theorem v7 (a : Value) : argsOk "set_iterator.__iter__" ⟨[a], []⟩ := by
  unfold argsOk; rw [signature?_of (id := "set_iterator.__iter__") (n := ['_', '_', 'r', 'e', 't', 'i', '_', '_']) (o := ['r', 'o', 't', 'a', 'r', 'e', 't', 'i', '_', 't', 'e', 's']) (by kernel_rfl) yz]; kernel_rfl
theorem t9 : entryFor table "set.__iter__" = some Builtin.«frozenset.__iter__» :=
  entryFor_alias (id' := "frozenset.__iter__") (by kernel_rfl) (by first | rfl | decide +kernel | (unfold String.splitOn; simp +decide [String.splitOnAux])) (by decide +kernel) (by kernel_rfl)
noncomputable def eB (h : Heap) (I a : Addr) (first : Value) (i n ep : Nat) : Prop := ∃ o, h.get? I = some o ∧ o.cls = .type "set_iterator" ∧ o.data = .fields #[first, .int i 0, .ref a, .int n 0, .int ep 0]
theorem eB.typeIs {s : Shared} {I a : Addr} {first : Value} {i n ep : Nat} (x : eB s.heap I a first i n ep) : s.TypeIs (.ref I) "set_iterator" := let ⟨o, ho, hc, _⟩ := x; ⟨o, ho, hc⟩
theorem eY {α : Type} : ∀ {l : List α} {i : Nat} (h : i < l.length), (l[i] :: l.eraseIdx i).Perm l
  | [], i, h => by simp at h
  | x :: l, 0, h => .refl _
  | x :: l, i + 1, h => by
    rw [List.eraseIdx_cons_succ, List.getElem_cons_succ]
    exact (List.Perm.swap _ _ _).trans (.cons _ (eY (by simpa using h)))
section
variable {P : Program} {w : World} {A : Around} {E : Value → Shared → Prop} {s : Shared}
theorem wp_choose {src : Source} {n : Nat} {Q : Nat → Shared → Prop} (hn : n ≠ 0) (h : ∀ i d, i < n → Q i { s with drawn := d }) : wpAny (model P w) A (choose src n) Q E s := fun Γ p _ => by
  refine ⟨hn, ?_⟩
  exact h _ _ (Nat.mod_lt _ (Nat.pos_of_ne_zero hn))
theorem lh {α : Type} : ∀ (n : Nat) (xs : List α) {s : Shared} {Q : List α → Shared → Prop}, n = xs.length → (∀ ys d, ys.Perm xs → Q ys { s with drawn := d }) → wpAny (model P w) A (drawOrder n xs) Q E s
  | 0, xs, s, Q, hn, h => by
    have : xs = [] := List.eq_nil_of_length_eq_zero hn.symm
    subst this
    exact wpAny_pure (h [] s.drawn .nil)
  | n + 1, [], s, Q, hn, h => by simp at hn
  | n + 1, x :: xs, s, Q, hn, h => by
    show wpAny _ _ (choose .order (x :: xs).length >>= _) _ _ s
    refine wpAny_bind (wp_choose (by simp) fun i d hi => ?_)
    have e : (x :: xs)[i]? = some (x :: xs)[i] := List.getElem?_eq_getElem hi
    rw [e]
    dsimp only
    refine wpAny_bind (lh n _ (by rw [List.length_eraseIdx_of_lt hi]; simp at hn ⊢; omega) fun ys d' hp => wpAny_pure (h _ _ ?_))
    exact (List.Perm.cons _ hp).trans (eY hi)
end
section
variable {P : Program} {w : World} {A : Around} {E : Value → Shared → Prop} {s : Shared}
structure iV (P : Program) (w : World) (h : Heap) (a : Addr) (es : Array (Int × Value)) (ep : Nat) (t : SetTable) : Prop where
  at_ : ∃ o, h.get? a = some o ∧ o.ExactSet ∧ o.data = .set es ep t
  fits : t.fits es.size = true
  tab : bN w t
theorem va {α : Type} (next : Nat → Nat) : ∀ (fuel k : Nat) (left : List α) (out : Array α), fuel = left.length → (pickOrder.go next fuel k left out).toList.Perm (out.toList ++ left)
  | 0, k, left, out, h => by
    have : left = [] := List.eq_nil_of_length_eq_zero h.symm
    subst this
    simp [pickOrder.go]
  | fuel + 1, k, left, out, h => by
    unfold pickOrder.go
    have hl : next k % left.length < left.length := Nat.mod_lt _ (by omega)
    rw [List.getElem?_eq_getElem hl]
    dsimp only
    refine (va next fuel (k + 1) _ _ (by rw [List.length_eraseIdx_of_lt hl]; omega)).trans ?_
    rw [Array.toList_push, List.append_assoc]
    exact List.Perm.append_left _ (eY hl)
theorem ql {α : Type} (next : Nat → Nat) (xs : Array α) : (pickOrder next xs).toList.Perm xs.toList := by
  unfold pickOrder
  exact (va next xs.size 0 xs.toList #[] (by simp)).trans (by simp)
theorem lj {Q : Bool → Shared → Prop} (h : Q (w.params.followText "set-order") s) : wpAny (model P w) A setsByText Q E s := by
  unfold setsByText
  exact wpAny_bind (wpAny_askSetting (wpAny_pure h))
theorem oi {a : Addr} {es : Array (Int × Value)} {ep : Nat} {t : SetTable} {slot given : Nat} {Q : Option (Value × Nat) → Shared → Prop} (hE : iV P w s.heap a es ep t)
    (hd : w.params.followText "set-order" = false → (!t.plain && decide (es.size > 1)) = false)
    (h1 : w.params.followText "set-order" = true → Q ((pickOrder (w.params.setOrder a ep) es)[given]?.map fun e => (e.2, slot)) s)
    (h2 : w.params.followText "set-order" = false → Q (match es[SetTable.below t.place slot]?, t.place[SetTable.below t.place slot]? with | some (_, x), some j => some (x, j + 1) | _, _ => none) s) :
    wpAny (model P w) A (setNext a slot given ep) Q E s := by
  obtain ⟨⟨o, ho, hex, mL⟩, hf, ht⟩ := hE
  unfold setNext
  refine wpAny_bind (wpAny_setState_of ho mL hf ?_)
  dsimp only
  refine wpAny_bind (lj ?_)
  cases hb : w.params.followText "set-order" with
  | true =>
    simp only [if_true, bne_self_eq_false, Bool.false_eq_true, if_false]
    unfold setWalk
    refine wpAny_bind (wpAny_bind (wpAny_setState_of ho mL hf ?_))
    dsimp only
    refine wpAny_bind (lj ?_)
    rw [hb]
    simp only [if_true]
    refine wpAny_bind (wpAny_askSetting (wpAny_pure (wpAny_pure ?_)))
    exact h1 hb
  | false =>
    simp only [Bool.false_eq_true, if_false]
    have jl := hd hb
    have Nj : t.led = true := by rw [ht.led, hb]; rfl
    show wpAny _ _ (if (!t.plain && decide (es.size > 1)) = true then _ else _) _ _ s
    rw [jl]
    simp only [Bool.false_eq_true, if_false]
    refine wpAny_bind ?_
    show wpAny _ _ (if (!t.led && !es.isEmpty) = true then _ else _) _ _ s
    rw [Nj]
    simp only [Bool.not_true, Bool.false_and, Bool.false_eq_true, if_false]
    exact wpAny_pure (wpAny_pure (h2 hb))
end
section
variable {P : Program} {w : World} {A : Around} {E : Value → Shared → Prop} {s : Shared}
theorem eB.G7 {h : Heap} {I a : Addr} {first x : Value} {i n ep : Nat} (hit : eB h I a first i n ep) : eB (h.update I (Obj.mapFields (·.setIfInBounds 0 x))) I a x i n ep := by
  obtain ⟨o, ho, hc, hd⟩ := hit
  exact ⟨_, Heap.get?_update_self _ ho (Obj.isFreed_of_fields (Obj.data_mapFields hd _)), (Obj.cls_mapFields ..).trans hc, by rw [Obj.data_mapFields hd]; simp⟩
theorem eB.sx {h : Heap} {I a : Addr} {first : Value} {i n ep : Nat} (hit : eB h I a first i n ep) : eB (h.update I (Obj.mapFields (·.setIfInBounds 1 (rawInt ((i : Int) + 1))))) I a first (i + 1) n ep := by
  obtain ⟨o, ho, hc, hd⟩ := hit
  exact ⟨_, Heap.get?_update_self _ ho (Obj.isFreed_of_fields (Obj.data_mapFields hd _)), (Obj.cls_mapFields ..).trans hc, by rw [Obj.data_mapFields hd]; simp [rawInt]⟩
theorem jT {I a : Addr} {first x : Value} {i n ep k : Nat} {Q : Unit → Shared → Prop} (hk : k < 5) (hit : eB s.heap I a first i n ep) (h : Q () { s with heap := s.heap.update I (Obj.mapFields (·.setIfInBounds k x)) }) : wpAny (model P w) A (setField (.ref I) k x) Q E s := by
  obtain ⟨o, ho, hc, hd⟩ := hit
  exact wpAny_setField ho hd (by simpa using hk) h
theorem vb {Q : Fin → Shared → Prop} (hh : A.handled = none) (h : ∀ e h', s.TypeIs e "StopIteration" ∨ True → (∀ b o, s.heap.get? b = some o → h'.get? b = some o) → Shared.TypeIs { s with heap := h' } e "StopIteration" → E e { s with heap := h' }) :
    wpAny (model P w) A (newExc (.type "StopIteration") [] >>= fun e => raiseNew e) Q E s := by
  refine wpAny_bind ?_
  simp only [newExc, newTuple]
  refine wpAny_bind (wpAny_newObj_type ?_ (by size_fits))
  refine wpAny_bind (m := firstArgMember _ _) (wpAny_of_eq (a := Value.none) (by first | rfl | (simp only [firstArgMember]; rfl)) ?_)
  refine wpAny_newObj_type ?_ (by size_fits)
  simp only [raiseNew]
  refine wpAny_bind (wpAny_handled ?_)
  rw [hh]
  refine wpAny_bind (wpAny_pure (wpAny_throw ?_))
  exact h _ _ (.inr trivial) (fun b o e => Heap.get?_push_of_some _ (Heap.get?_push_of_some _ e)) ⟨_, Heap.get?_push_size _ rfl, rfl⟩
theorem sy {Q : Option Value → Shared → Prop} {e : Value} (hT : s.TypeIs e "StopIteration") (h : Q none s) : wpAny (model P w) A (do let b ← isInstance e (.type "StopIteration"); if b = true then pure none else throw e) Q E s :=
  wpAny_bind (wpAny_isInstance (T := "StopIteration") (b := true) hT isSubtype_stop (wpAny_pure h))
theorem D5 {I a : Addr} {slot i ep next : Nat} {es : Array (Int × Value)} {t : SetTable} {x : Value} {Q : Option Value → Shared → Prop} (hit : eB s.heap I a (.int slot 0) i es.size ep) (hE : iV P w s.heap a es ep t)
    (hd : w.params.followText "set-order" = false → (!t.plain && decide (es.size > 1)) = false)
    (h1 : w.params.followText "set-order" = true → (pickOrder (w.params.setOrder a ep) es)[i]?.map (fun e => (e.2, slot)) = some (x, next))
    (h2 : w.params.followText "set-order" = false → (match es[SetTable.below t.place slot]?, t.place[SetTable.below t.place slot]? with | some (_, x), some j => some (x, j + 1) | _, _ => none) = some (x, next))
    (hQ : ∀ h', eB h' I a (.int next 0) (i + 1) es.size ep → Heap.SameBut I s.heap h' → Q (some x) { s with heap := h' }) : wpAny (model P w) A (pyNext (.ref I)) Q E s := by
  obtain ⟨o, ho, hc, jl⟩ := id hit
  obtain ⟨oa, qm, A8, qo⟩ := hE.at_
  unfold pyNext
  refine wpAny_bind (wpAny_attempt (wpAny_callSpecial?_slot (name := Str.ofString "__next__") hit.typeIs bZ (wpAny_call_entry bZ hit.typeIs ix ?_ (iy _))))
  unfold Builtin.«set_iterator.__next__»
  refine wpAny_bind (m := slotArgs "__next__" 0 _) (wpAny_pure ?_)
  dsimp only
  refine wpAny_bind (wpAny_fieldsOf ho jl ?_)
  dsimp only
  refine wpAny_bind (wpAny_setEntries_of qm qo hE.fits ?_)
  simp only [bne_self_eq_false, Bool.false_eq_true, if_false, Int.toNat_natCast]
  have fin : ∀ r, r = some (x, next) → wpAny (model P w) A.in1 (match r with
        | some (x, next) => do
          setField (Value.ref I) 0 (rawInt next)
          setField (Value.ref I) 1 (rawInt (↑i + 1))
          ret x
        | none => do
          setField (Value.ref I) 2 Value.none
          let __do_lift ← newExc (Value.type "StopIteration") []
          raiseNew __do_lift) (fun fin s' => ∃ v, fin = Fin.done (Flow.ret v) ∧ wpAny (model P w) A (pure (some v)) Q E s') (fun e s' => wpAny (model P w) A (do
          let __do_lift ← isInstance e (Value.type "StopIteration")
          if __do_lift = true then pure none else throw e) Q E s') s := fun r hr => by
    subst hr
    dsimp only
    refine wpAny_bind (jT (by decide) hit ?_)
    have G8 := hit.G7 (x := rawInt next)
    refine wpAny_bind (jT (by decide) G8 ?_)
    exact wpAny_pure ⟨x, rfl, wpAny_pure (hQ _ G8.sx ((Heap.SameBut.update ..).trans (Heap.SameBut.update ..)))⟩
  exact wpAny_bind (oi hE hd (fun hb => fin _ (h1 hb)) (fun hb => fin _ (h2 hb)))
theorem D6 {I a : Addr} {slot i ep : Nat} {es : Array (Int × Value)} {t : SetTable} {Q : Option Value → Shared → Prop} (hh : A.handled = none) (hit : eB s.heap I a (.int slot 0) i es.size ep) (hE : iV P w s.heap a es ep t)
    (hd : w.params.followText "set-order" = false → (!t.plain && decide (es.size > 1)) = false)
    (h1 : w.params.followText "set-order" = true → (pickOrder (w.params.setOrder a ep) es)[i]?.map (fun e => (e.2, slot)) = none)
    (h2 : w.params.followText "set-order" = false → (match es[SetTable.below t.place slot]?, t.place[SetTable.below t.place slot]? with | some (_, x), some j => some (x, j + 1) | _, _ => none) = none)
    (hQ : ∀ h', (∀ b o, b ≠ I → s.heap.get? b = some o → h'.get? b = some o) → Q none { s with heap := h' }) : wpAny (model P w) A (pyNext (.ref I)) Q E s := by
  obtain ⟨o, ho, hc, jl⟩ := id hit
  obtain ⟨oa, qm, A8, qo⟩ := hE.at_
  unfold pyNext
  refine wpAny_bind (wpAny_attempt (wpAny_callSpecial?_slot (name := Str.ofString "__next__") hit.typeIs bZ (wpAny_call_entry bZ hit.typeIs ix ?_ (iy _))))
  unfold Builtin.«set_iterator.__next__»
  refine wpAny_bind (m := slotArgs "__next__" 0 _) (wpAny_pure ?_)
  dsimp only
  refine wpAny_bind (wpAny_fieldsOf ho jl ?_)
  dsimp only
  refine wpAny_bind (wpAny_setEntries_of qm qo hE.fits ?_)
  simp only [bne_self_eq_false, Bool.false_eq_true, if_false, Int.toNat_natCast]
  have fin : ∀ r : Option (Value × Nat), r = none → wpAny (model P w) A.in1 (match r with
        | some (x, next) => do
          setField (Value.ref I) 0 (rawInt next)
          setField (Value.ref I) 1 (rawInt (↑i + 1))
          ret x
        | none => do
          setField (Value.ref I) 2 Value.none
          let __do_lift ← newExc (Value.type "StopIteration") []
          raiseNew __do_lift) (fun fin s' => ∃ v, fin = Fin.done (Flow.ret v) ∧ wpAny (model P w) A (pure (some v)) Q E s') (fun e s' => wpAny (model P w) A (do
          let __do_lift ← isInstance e (Value.type "StopIteration")
          if __do_lift = true then pure none else throw e) Q E s') s := fun r hr => by
    subst hr
    dsimp only
    refine wpAny_bind (jT (by decide) hit ?_)
    exact vb hh fun e h' _ k hT => sy hT (hQ h' fun b o hb q => k b o ((Heap.get?_update_other _ _ (Ne.symm hb)).trans q))
  exact wpAny_bind (oi hE hd (fun hb => fin _ (h1 hb)) (fun hb => fin _ (h2 hb)))
theorem D7 {I a T : Addr} {i ep j : Nat} {es : Array (Int × Value)} {t : SetTable} {ps : List Nat} {x : Int × Value} {Q : Option Value → Shared → Prop} (hit : eB s.heap I a (.ref T) i es.size ep) (hE : iV P w s.heap a es ep t)
    (hT : s.heap.IsTuple T (ps.map fun (i : Nat) => rawInt i).toArray) (hj : ps[i]? = some j) (hx : es[j]? = some x)
    (hQ : ∀ h', eB h' I a (.ref T) (i + 1) es.size ep → Heap.SameBut I s.heap h' → Q (some x.2) { s with heap := h' }) : wpAny (model P w) A (pyNext (.ref I)) Q E s := by
  obtain ⟨o, ho, hc, jl⟩ := id hit
  obtain ⟨oa, qm, A8, qo⟩ := hE.at_
  unfold pyNext
  refine wpAny_bind (wpAny_attempt (wpAny_callSpecial?_slot (name := Str.ofString "__next__") hit.typeIs bZ (wpAny_call_entry bZ hit.typeIs ix ?_ (iy _))))
  unfold Builtin.«set_iterator.__next__»
  refine wpAny_bind (m := slotArgs "__next__" 0 _) (wpAny_pure ?_)
  dsimp only
  refine wpAny_bind (wpAny_fieldsOf ho jl ?_)
  dsimp only
  refine wpAny_bind (wpAny_setEntries_of qm qo hE.fits ?_)
  simp only [bne_self_eq_false, Bool.false_eq_true, if_false, Int.toNat_natCast]
  obtain ⟨ot, G9, _, nt, mL⟩ := hT
  refine wpAny_bind (wpAny_seqItems G9 mL ?_)
  have e : (ps.map fun (i : Nat) => rawInt i).toArray[i]? = some (rawInt j) := by simp [hj]
  dsimp only
  rw [e]
  show wpAny _ _ (setNextDrawn a (Int.toNat (j : Int)) ep >>= _) _ _ s
  rw [Int.toNat_natCast]
  refine wpAny_bind ?_
  unfold setNextDrawn
  refine wpAny_bind (wpAny_setState_of qm qo hE.fits ?_)
  simp only [bne_self_eq_false, Bool.false_eq_true, if_false, hx]
  refine wpAny_pure ?_
  refine wpAny_bind (jT (by decide) hit ?_)
  exact wpAny_pure ⟨x.2, rfl, wpAny_pure (hQ _ hit.sx (Heap.SameBut.update ..))⟩
theorem D8 {I a T : Addr} {i ep : Nat} {es : Array (Int × Value)} {t : SetTable} {ps : List Nat} {Q : Option Value → Shared → Prop} (hh : A.handled = none) (hit : eB s.heap I a (.ref T) i es.size ep) (hE : iV P w s.heap a es ep t)
    (hT : s.heap.IsTuple T (ps.map fun (i : Nat) => rawInt i).toArray) (hj : ps.length ≤ i)
    (hQ : ∀ h', (∀ b o, b ≠ I → s.heap.get? b = some o → h'.get? b = some o) → Q none { s with heap := h' }) : wpAny (model P w) A (pyNext (.ref I)) Q E s := by
  obtain ⟨o, ho, hc, jl⟩ := id hit
  obtain ⟨oa, qm, A8, qo⟩ := hE.at_
  unfold pyNext
  refine wpAny_bind (wpAny_attempt (wpAny_callSpecial?_slot (name := Str.ofString "__next__") hit.typeIs bZ (wpAny_call_entry bZ hit.typeIs ix ?_ (iy _))))
  unfold Builtin.«set_iterator.__next__»
  refine wpAny_bind (m := slotArgs "__next__" 0 _) (wpAny_pure ?_)
  dsimp only
  refine wpAny_bind (wpAny_fieldsOf ho jl ?_)
  dsimp only
  refine wpAny_bind (wpAny_setEntries_of qm qo hE.fits ?_)
  simp only [bne_self_eq_false, Bool.false_eq_true, if_false, Int.toNat_natCast]
  obtain ⟨ot, G9, _, nt, mL⟩ := hT
  refine wpAny_bind (wpAny_seqItems G9 mL ?_)
  have e : (ps.map fun (i : Nat) => rawInt i).toArray[i]? = none := by simp [hj]
  dsimp only
  rw [e]
  dsimp only
  refine wpAny_bind (jT (by decide) hit ?_)
  refine wpAny_bind (jT (by decide) (hit.G7 (x := rawInt 0)) ?_)
  exact vb hh fun e h' _ k hT => sy hT (hQ h' fun b o hb q => k b o ((Heap.get?_update_other _ _ (Ne.symm hb)).trans ((Heap.get?_update_other _ _ (Ne.symm hb)).trans q)))
end
theorem eB.bU {h h' : Heap} {I a : Addr} {first : Value} {i n ep : Nat} (x : eB h I a first i n ep) (k : ∀ o, h.get? I = some o → h'.get? I = some o) : eB h' I a first i n ep := let ⟨o, ho, r⟩ := x; ⟨o, k o ho, r⟩
theorem iV.bU {P : Program} {w : World} {h h' : Heap} {a : Addr} {es : Array (Int × Value)} {ep : Nat} {t : SetTable} (x : iV P w h a es ep t) (k : ∀ o, h.get? a = some o → h'.get? a = some o) : iV P w h' a es ep t :=
  ⟨let ⟨o, ho, r⟩ := x.at_; ⟨o, k o ho, r⟩, x.fits, x.tab⟩
theorem v8 {xs : Array Nat} (h : jQ xs) {i : Nat} (hi : i < xs.size) : SetTable.below xs (xs[i] + 1) = i + 1 := by
  obtain ⟨b0, b1, b2⟩ := mZ (xs[i] + 1) h
  generalize SetTable.below xs (xs[i] + 1) = p at *
  have h1 : i < p := by
    refine Nat.lt_of_not_le fun hp => ?_
    have := b2 i hi hp
    omega
  refine Nat.le_antisymm (Nat.le_of_not_lt fun hp => ?_) h1
  have LA : i + 1 < xs.size := by omega
  have q := b1 (i + 1) LA hp
  have q2 := n6 h (show i < i + 1 by omega) LA
  omega
theorem wa {xs : Array Nat} (h : jQ xs) : SetTable.below xs 0 = 0 := by
  obtain ⟨b0, b1, b2⟩ := mZ 0 h
  generalize SetTable.below xs 0 = p at *
  by_cases hp : p = 0
  · exact hp
  · have := b1 0 (by omega) (by omega)
    omega
section
variable {P : Program} {w : World} {A : Around} {E : Value → Shared → Prop} {s : Shared}
theorem si_self {I a : Addr} {first : Value} {i n ep : Nat} {Q : Value → Shared → Prop} (hit : eB s.heap I a first i n ep) (h : Q (.ref I) s) : wpAny (model P w) A (pyIter (.ref I)) Q E s := by
  refine wpAny_pyIter_slot hit.typeIs oh (wpAny_call_entry oh hit.typeIs v3 ?_ (v7 _))
  show wpAny _ _ (ret (.ref I)) _ _ s
  exact wpAny_pure ⟨_, rfl, "set_iterator", _, hit.typeIs, bZ.lookup, h⟩
theorem sA {es : List (Int × Value)} (h : ElemsOf (intKind P w) es) {e : Int × Value} (he : e ∈ es) : ∃ t, e.2 = .int (dB e) t := by
  obtain ⟨⟨k', qj, _⟩, _⟩ := h e he
  obtain ⟨t, e2⟩ := Value.isInt_shape (k := k') (v := e.2) qj
  exact ⟨t, by unfold dB; rw [e2]⟩
noncomputable abbrev yA (xs : List Int) : Nat → Value → Prop := fun i v => ∃ m t, xs[i]? = some m ∧ v = .int m t
noncomputable def eZ (w : World) (a : Addr) (ep : Nat) (es : Array (Int × Value)) : List (Int × Value) := if w.params.followText "set-order" = true then (pickOrder (w.params.setOrder a ep) es).toList else es.toList
theorem iz (w : World) (a : Addr) (ep : Nat) (es : Array (Int × Value)) : (eZ w a ep es).Perm es.toList := by
  unfold eZ
  split
  · exact ql _ _
  · exact .refl _
theorem A9 {I a : Addr} {es : Array (Int × Value)} {ep : Nat} {t : SetTable} (hh : A.handled = none) (dY : a ≠ I) (jo : ElemsOf (intKind P w) es.toList) (hd : w.params.followText "set-order" = false → (!t.plain && decide (es.size > 1)) = false) :
    WalksS P w A I [I, a] [I] (fun a b => b = a) ((eZ w a ep es).map dB).length (yA ((eZ w a ep es).map dB))
      (fun i s => iV P w s.heap a es ep t ∧ ∃ slot : Nat, eB s.heap I a (.int slot 0) i es.size ep ∧ (w.params.followText "set-order" = false → SetTable.below t.place slot = i)) where
  sub := fun b hb => by simp at hb; simp [hb]
  grefl := fun _ => rfl
  gtrans := fun _ _ _ h1 h2 => h2.trans h1
  frame := fun i s h' _ st _ hk => ⟨st.1.bU fun o e => hk a (by simp) o e, let ⟨slot, h1, h2⟩ := st.2; ⟨slot, h1.bU fun o e => hk I (by simp) o e, h2⟩⟩
  item := fun i s Q E hi st hQ => by
    obtain ⟨hE, slot, hit, hb⟩ := st
    have hl : i < (eZ w a ep es).length := by simpa using hi
    have u9 : i < es.size := by rw [← Array.length_toList, ← (iz w a ep es).length_eq]; exact hl
    obtain ⟨tk, he⟩ := sA (P := P) (w := w) jo ((iz w a ep es).mem_iff.mp (List.getElem_mem hl))
    have cy : i < t.place.size := by
      have := hE.fits
      simp only [SetTable.fits, Bool.and_eq_true, beq_iff_eq] at this
      rw [this.1]; exact u9
    refine D5 (next := if w.params.followText "set-order" = true then slot else t.place[i] + 1) (x := ((eZ w a ep es)[i]).2) hit hE hd (fun cc => ?_) (fun cc => ?_) (fun h' Ba hs => hQ _ _ ⟨_, tk, by rw [List.getElem?_map, List.getElem?_eq_getElem hl]; rfl, he⟩ ⟨hE.bU fun o e => by rw [hs.2 a dY]; exact e, _, Ba, fun cc => ?_⟩ ⟨fun b o hb e => by rw [hs.2 b (fun z => hb (by simp [z]))]; exact e, rfl, rfl, rfl, Nat.le_refl _⟩)
    · rw [if_pos cc]
      have e1 : eZ w a ep es = (pickOrder (w.params.setOrder a ep) es).toList := by unfold eZ; rw [if_pos cc]
      have e2 : (pickOrder (w.params.setOrder a ep) es)[i]? = some (eZ w a ep es)[i] := by
        rw [← Array.getElem?_toList, ← e1]
        exact List.getElem?_eq_getElem hl
      rw [e2]
      rfl
    · rw [if_neg (by rw [cc]; decide), hb cc, Array.getElem?_eq_getElem u9, Array.getElem?_eq_getElem cy]
      have e1 : eZ w a ep es = es.toList := by unfold eZ; rw [if_neg (by rw [cc]; decide)]
      have e2 : (eZ w a ep es)[i] = es[i] := by simp [e1]
      rw [e2]
    · rw [if_neg (by rw [cc]; decide)]
      exact v8 hE.tab.ris cy
  done := fun s Q E st hQ => by
    obtain ⟨hE, slot, hit, hb⟩ := st
    have hl : ((eZ w a ep es).map dB).length = es.size := by rw [List.length_map, (iz w a ep es).length_eq, Array.length_toList]
    rw [hl] at hit hb
    refine D6 hh hit hE hd (fun cc => ?_) (fun cc => ?_) (fun h' k => hQ _ ⟨fun b o hb e => k b o (fun z => hb (by simp [z])) e, rfl, rfl, rfl, Nat.le_refl _⟩)
    · have e1 : (pickOrder (w.params.setOrder a ep) es)[es.size]? = none := by
        refine Array.getElem?_eq_none ?_
        rw [← Array.length_toList, (ql _ es).length_eq, Array.length_toList]
        exact Nat.le_refl _
      rw [e1]
      rfl
    · rw [hb cc, Array.getElem?_eq_none (Nat.le_refl _)]
  self := fun i s Q E st hQ => let ⟨_, slot, hit, _⟩ := st; si_self hit hQ
theorem wc {I a T : Addr} {es : Array (Int × Value)} {ep : Nat} {t : SetTable} {ps : List Nat} (hh : A.handled = none) (dY : a ≠ I) (Nk : T ≠ I) (jo : ElemsOf (intKind P w) es.toList) (yB : ∀ j ∈ ps, j < es.size) (cy : ps.length = es.size) :
    WalksS P w A I [I, a, T] [I] (fun a b => b = a) (ps.map fun j => dB (es.getD j (0, .none))).length (yA (ps.map fun j => dB (es.getD j (0, .none))))
      (fun i s => iV P w s.heap a es ep t ∧ s.heap.IsTuple T (ps.map fun (i : Nat) => rawInt i).toArray ∧ eB s.heap I a (.ref T) i es.size ep) where
  sub := fun b hb => by simp at hb; simp [hb]
  grefl := fun _ => rfl
  gtrans := fun _ _ _ h1 h2 => h2.trans h1
  frame := fun i s h' _ st _ hk => ⟨st.1.bU fun o e => hk a (by simp) o e, st.2.1.at fun o e => hk T (by simp) o e, st.2.2.bU fun o e => hk I (by simp) o e⟩
  item := fun i s Q E hi st hQ => by
    obtain ⟨hE, hT, hit⟩ := st
    have hl : i < ps.length := by simpa using hi
    have hj := yB _ (List.getElem_mem hl)
    have hx : es[ps[i]]? = some es[ps[i]] := Array.getElem?_eq_getElem hj
    have hg : es.getD ps[i] (0, .none) = es[ps[i]] := by simp [Array.getD, hj]
    obtain ⟨tk, he⟩ := sA (P := P) (w := w) jo (show es[ps[i]] ∈ es.toList by simp)
    refine D7 hit hE hT (List.getElem?_eq_getElem hl) hx fun h' Ba hs => hQ _ _ ⟨_, tk, by rw [List.getElem?_map, List.getElem?_eq_getElem hl]; rfl, by dsimp only; rw [hg]; exact he⟩ ⟨hE.bU fun o e => by rw [hs.2 a dY]; exact e, hT.at fun o e => by rw [hs.2 T Nk]; exact e, Ba⟩ ⟨fun b o hb e => by rw [hs.2 b (fun z => hb (by simp [z]))]; exact e, rfl, rfl, rfl, Nat.le_refl _⟩
  done := fun s Q E st hQ => by
    obtain ⟨hE, hT, hit⟩ := st
    have hl : (ps.map fun j => dB (es.getD j (0, .none))).length = ps.length := List.length_map _
    rw [hl] at hit
    exact D8 hh hit hE hT (Nat.le_refl _) fun h' k => hQ _ ⟨fun b o hb e => k b o (fun z => hb (by simp [z])) e, rfl, rfl, rfl, Nat.le_refl _⟩
  self := fun i s Q E st hQ => si_self st.2.2 hQ
theorem wd {a : Addr} {ns : List Int} {Q : Value → Shared → Prop} (hS : cm P w s.heap a ns)
    (hQ : ∀ (I : Addr) (h' : Heap) (d' : Drawn) (xs : List Int) (fp : List Addr) (St : Nat → Shared → Prop), xs.Perm ns → (∀ b o, s.heap.get? b = some o → h'.get? b = some o) → s.heap.objs.size ≤ I → (∀ b ∈ fp, b = a ∨ s.heap.objs.size ≤ b) →
      (∀ A' : Around, A'.handled = none → WalksS P w A' I fp [I] (fun a b => b = a) xs.length (yA xs) St) → St 0 { s with heap := h', drawn := d' } → Q (.ref I) { s with heap := h', drawn := d' }) : wpAny (model P w) A (pyIter (.ref a)) Q E s := by
  have uW := hS.typeIs (h := s.heap)
  obtain ⟨o, es, ep, t, ho, hex, hd, jo, hp, hn, hb, hf, ht⟩ := hS
  have hE : iV P w s.heap a es ep t := ⟨⟨o, ho, hex, hd⟩, hf, ht⟩
  have bO := Heap.lt_size ho
  refine wpAny_pyIter_slot uW F.slot_set_iter (wpAny_call_entry F.slot_set_iter uW t9 ?_ (F.args_set_iter_1 _))
  unfold Builtin.«frozenset.__iter__»
  refine wpAny_bind (m := Builtin.Frozenset.slot0 "__iter__" _) (wpAny_pure ?_)
  unfold Builtin.Frozenset.sizeOf
  refine wpAny_bind (wpAny_bind (wpAny_setEntries_of ho hd hf (wpAny_pure ?_)))
  refine wpAny_bind ?_
  unfold setDrawn
  refine wpAny_bind (wpAny_setState_of ho hd hf ?_)
  dsimp only
  refine wpAny_bind (lj ?_)
  refine wpAny_pure ?_
  by_cases qp : (!w.params.followText "set-order" && (!t.plain && decide (es.size > 1))) = true
  · show wpAny _ _ (if (!w.params.followText "set-order" && (!t.plain && decide (es.size > 1))) = true then _ else _) _ _ s
    rw [if_pos qp]
    refine wpAny_bind (lh _ _ (by simp) fun ps d yB => ?_)
    have cy : ps.length = es.size := by rw [yB.length_eq, List.length_range]
    refine wpAny_bind (wpAny_newTuple ?_ (by rw [List.length_map, cy]; exact fits_of_scanBound hb))
    refine wpAny_bind (wpAny_setEpoch_of (o := o) (Heap.get?_push_of_some _ ho) hd hf ?_)
    unfold newFields
    refine wpAny_bind (wpAny_newObj_type ?_ (by size_fits))
    have hsz : ∀ u : Obj, (s.heap.push u).objs.size = s.heap.objs.size + 1 := fun u => Heap.size_push _ _
    have hit : eB ((s.heap.push { cls := .type "tuple", data := .seq (ps.map fun (i : Nat) => rawInt i).toArray }).push { cls := .type "set_iterator", data := .fields #[.ref s.heap.objs.size, .int (0 : Nat) 0, .ref a, .int es.size 0, .int ep 0] }) (s.heap.push { cls := .type "tuple", data := .seq (ps.map fun (i : Nat) => rawInt i).toArray }).objs.size a (.ref s.heap.objs.size) 0 es.size ep := ⟨_, Heap.get?_push_size _ rfl, rfl, rfl⟩
    have OO : (ps.map fun j => dB (es.getD j (0, .none))).Perm ns := by
      refine ((yB.map _).trans ?_).trans hp
      have : (List.range es.size).map (fun j => dB (es.getD j (0, .none))) = es.toList.map dB := by
        refine List.ext_getElem (by simp) fun n h1 h2 => ?_
        have rJ : n < es.size := by simpa using h1
        simp [Array.getD, rJ]
      rw [this]
    refine wpAny_pure ⟨_, rfl, "set_iterator", _, eB.typeIs (s := { s with heap := _, drawn := d }) hit, bZ.lookup, ?_⟩
    refine hQ _ _ d _ [(s.heap.push { cls := .type "tuple", data := .seq (ps.map fun (i : Nat) => rawInt i).toArray }).objs.size, a, s.heap.objs.size] _ OO (fun b o e => Heap.get?_push_of_some _ (Heap.get?_push_of_some _ e)) (by rw [hsz]; exact Nat.le_succ _) (fun b hb => ?_) (fun A' hA => wc (t := t) (ep := ep) hA ?_ ?_ jo (fun j hj => by simpa using yB.mem_iff.mp hj) cy) ⟨hE.bU fun o e => Heap.get?_push_of_some _ (Heap.get?_push_of_some _ e), ⟨_, Heap.get?_push_of_some _ (Heap.get?_push_size _ rfl), rfl, _, rfl⟩, hit⟩
    · simp only [List.mem_cons, List.not_mem_nil, or_false] at hb
      rcases hb with rfl | rfl | rfl
      · exact .inr (by rw [hsz]; exact Nat.le_succ _)
      · exact .inl rfl
      · exact .inr (Nat.le_refl _)
    · rw [hsz]; exact Nat.ne_of_lt (Nat.lt_succ_of_lt bO)
    · rw [hsz]; exact Nat.ne_of_lt (Nat.lt_succ_self _)
  · show wpAny _ _ (if (!w.params.followText "set-order" && (!t.plain && decide (es.size > 1))) = true then _ else _) _ _ s
    rw [if_neg qp]
    refine wpAny_bind (wpAny_pure (wpAny_bind (wpAny_setEpoch_of ho hd hf ?_)))
    unfold newFields
    refine wpAny_bind (wpAny_newObj_type ?_ (by size_fits))
    have hit : eB (s.heap.push { cls := .type "set_iterator", data := .fields #[.int (0 : Nat) 0, .int (0 : Nat) 0, .ref a, .int es.size 0, .int ep 0] }) s.heap.objs.size a (.int (0 : Nat) 0) 0 es.size ep := ⟨_, Heap.get?_push_size _ rfl, rfl, rfl⟩
    refine wpAny_pure ⟨_, rfl, "set_iterator", _, eB.typeIs (s := { s with heap := _ }) hit, bZ.lookup, ?_⟩
    refine hQ _ _ s.drawn _ [s.heap.objs.size, a] _ (((iz w a ep es).map dB).trans hp) (fun b o e => Heap.get?_push_of_some _ e) (Nat.le_refl _) (fun b hb => ?_) (fun A' hA => A9 (t := t) (ep := ep) hA (Nat.ne_of_lt bO) jo fun hb => ?_) ⟨hE.bU fun o e => Heap.get?_push_of_some _ e, 0, hit, fun _ => wa ht.ris⟩
    · simp only [List.mem_cons, List.not_mem_nil, or_false] at hb
      rcases hb with rfl | rfl
      · exact .inr (Nat.le_refl _)
      · exact .inl rfl
    · rw [hb] at qp
      simpa using qp
end
section
variable {P : Program} {w : World} {A : Around} {E : Value → Shared → Prop} {s : Shared}
theorem ua {a : Addr} {Q : Bool → Shared → Prop} (hT : s.TypeIs (.ref a) "set") (h : Q false s) : wpAny (model P w) A (Builtin.List.listLengthHint (.ref a)) Q E s := by
  unfold Builtin.List.listLengthHint
  refine wpAny_bind (wpAny_specialOf hT F.slot_set_len.lookup ?_)
  have e : splitId "set.__len__" = some ("set", "__len__") := by kernel_rfl
  dsimp only
  rw [e]
  dsimp only
  refine wpAny_bind (wpAny_isInstance hT sub_set_self ?_)
  simp only [Bool.not_true, Bool.false_eq_true, if_false]
  show wpAny _ _ (if _ = true then _ else _) _ _ s
  rw [if_pos (by kernel_rfl)]
  exact wpAny_bind (wpAny_typeOf hT (wpAny_pure h))
theorem ints_of {xs : List Int} {acc : Array Value} (h : ItemsOf (yA xs) acc xs.length) : IntsAre acc.toList xs := by
  obtain ⟨hs, hi⟩ := h
  have : ∀ (vs : List Value) (xs : List Int), vs.length = xs.length → (∀ (j : Nat) (v : Value), vs[j]? = some v → yA xs j v) → IntsAre vs xs := by
    intro vs
    induction vs with
    | nil => intro xs hl _; cases xs with | nil => exact .nil | cons x xs => simp at hl
    | cons v vs ih =>
      intro xs hl hg
      cases xs with
      | nil => simp at hl
      | cons x xs =>
        obtain ⟨m, t, e1, rfl⟩ := hg 0 v rfl
        have e2 : x = m := by simpa using e1
        subst e2
        refine .cons _ _ (ih xs (by simpa using hl) fun j u hu => ?_)
        obtain ⟨m', t', e3, e4⟩ := hg (j + 1) u (by simpa using hu)
        exact ⟨m', t', by simpa using e3, e4⟩
  exact this acc.toList xs (by simpa using hs) fun j v hv => hi j v (by rw [← Array.getElem?_toList]; exact hv)
theorem ub {a : Addr} {ns : List Int} {QL : List Value → Shared → Prop} (hh : A.handled = none) (hS : cm P w s.heap a ns) (hz : ns.length ≤ sizeLine)
    (hQ : ∀ us xs h' d' tk, IntsAre us xs → xs.Perm ns → (∀ b o, s.heap.get? b = some o → h'.get? b = some o) → QL us { s with heap := h', drawn := d', toks := tk }) : wpAny (model P w) A (collect (.ref a)) QL E s := by
  have bO : a < s.heap.objs.size := let ⟨_, _, _, _, ho, _⟩ := hS; Heap.lt_size ho
  have LC : s.heap.objs.size ≠ a := Nat.ne_of_gt bO
  unfold collect
  refine wpAny_bind (wpAny_runValue (codeAny_builtin F.entry_proto_collect ?_))
  rw [Around.under_plainId F.plain_proto_collect _]
  show wpAny _ A.in1 (newList [] >>= fun l => again (.builtin "list.__iadd__" ⟨[l, .ref a], []⟩)) _ _ s
  refine wpAny_bind (wpAny_newObj_type ?_)
  refine wpAny_pure ⟨plainId_quiet F.plain_list_iadd _, codeAny_builtin F.entry_list_iadd ?_⟩
  rw [Around.under_plainId F.plain_list_iadd _]
  have yw : cm P w (s.heap.push { cls := .type "list", data := .seq ([] : List Value).toArray }) a ns := hS.bU fun o e => Heap.get?_push_of_some _ e
  have T1 : Shared.TypeIs { s with heap := s.heap.push { cls := .type "list", data := .seq ([] : List Value).toArray } } (.ref a) "set" := cm.typeIs (P := P) (w := w) (h := s.heap) (s := { s with heap := _ }) yw
  show wpAny _ A.in1 (Builtin.List.listExtendWith (.ref s.heap.objs.size) (.ref a) (.ref s.heap.objs.size)) _ _ _
  unfold Builtin.List.listExtendWith
  refine wpAny_bind (wpAny_typeOf T1 ?_)
  have h1 : Builtin.List.listSameRef (.ref s.heap.objs.size) (.ref a) = false := by simp [Builtin.List.listSameRef, LC]
  have h2 : (Value.type "set" == Value.type "list") = false := by decide
  have h3 : (Value.type "set" == Value.type "tuple") = false := by decide
  simp only [h1, h2, h3, Bool.or_false, Bool.false_eq_true, if_false]
  refine wpAny_bind (wd (s := { s with heap := s.heap.push { cls := .type "list", data := .seq ([] : List Value).toArray } }) yw ?_)
  intro I h' d' xs fp St hp hk hI OQ hW ig
  have T2 : Shared.TypeIs { s with heap := h', drawn := d' } (.ref a) "set" := cm.typeIs (P := P) (w := w) (h := s.heap) (s := { s with heap := _, drawn := d' }) (yw.bU fun o e => hk a o e)
  refine wpAny_bind (wpAny_holding (ua T2 ?_))
  show wpAny _ A.in1 (if _ = true then _ else _) _ _ _
  rw [if_pos (by kernel_rfl)]
  show wpAny _ A.in1 (rule "list.extend.makes-room" >>= fun _ => Builtin.List.listTouch (.ref s.heap.objs.size) >>= fun _ =>
    again (.builtin "list.extend.loop" ⟨[.ref s.heap.objs.size, .ref I, .ref s.heap.objs.size], []⟩)) _ _ _
  refine wpAny_bind (wpAny_rule ?_)
  have CV : h'.get? s.heap.objs.size = some { cls := .type "list", data := .seq ([] : List Value).toArray } := hk _ _ (Heap.get?_push_size _ rfl)
  refine wpAny_bind ?_
  show wpAny _ A.in1 (updateSeq s.heap.objs.size (·.push .none) >>= fun _ => updateSeq s.heap.objs.size (·.pop)) _ _ _
  refine wpAny_bind (wpAny_updateSeq CV rfl ?_)
  have CW := Heap.get?_update_self (Obj.mapSeq (·.push Value.none)) CV rfl
  refine wpAny_updateSeq CW rfl ?_
  have Ka := Heap.get?_update_self (Obj.mapSeq (·.pop)) CW rfl
  have yC : ∀ b o, b ≠ s.heap.objs.size → h'.get? b = some o → ((h'.update s.heap.objs.size (Obj.mapSeq (·.push Value.none))).update s.heap.objs.size (Obj.mapSeq (·.pop))).get? b = some o :=
    fun b o hb e => (Heap.get?_update_other _ _ (Ne.symm hb)).trans ((Heap.get?_update_other _ _ (Ne.symm hb)).trans e)
  have Ha : (s.heap.push { cls := .type "list", data := .seq ([] : List Value).toArray }).objs.size = s.heap.objs.size + 1 := Heap.size_push _ _
  have su : s.heap.objs.size ∉ fp := fun hm => by
    rcases OQ _ hm with z | z
    · exact LC z
    · have z' : s.heap.objs.size + 1 ≤ s.heap.objs.size := by rw [← Ha]; exact z
      exact absurd z' (Nat.not_succ_le_self _)
  have W := hW A.in1.in1 (by simp [hh])
  have hl : xs.length ≤ sizeLine := by rw [hp.length_eq]; exact hz
  refine wpAny_pure ⟨plainId_quiet F.plain_extend_loop _, codeAny_extend_loopS (W.of_in1) hl _ su _ xs.length 0 _ _ _ rfl (Nat.zero_le _) (W.frame 0 ({ s with heap := h', drawn := d' } : Shared) _ s.toks ig (Nat.le_refl _) fun b hb o e => yC b o (fun h => su (h ▸ hb)) e) Ka (ItemsOf.nil _) fun s' h8 c' hm jR Hb => ?_⟩
  show wpAny _ A (load s.heap.objs.size >>= _) _ _ s'
  refine wpAny_bind (wpAny_load jR ?_)
  refine wpAny_pure ?_
  obtain ⟨h2, g2, d2, OS, os2⟩ := s'
  have eg : g2 = s.gens := hm.gens
  have ed : d2 = d' := hm.drawn
  have eo : os2 = s.os := hm.os
  subst eg; subst ed; subst eo
  refine hQ _ xs h2 _ OS (ints_of Hb) hp fun b o e => hm.heap b o ?_ (yC b o (Nat.ne_of_lt (Heap.lt_size e)) (hk b o (Heap.get?_push_of_some _ e)))
  have hb : b < s.heap.objs.size := Heap.lt_size e
  simp only [List.mem_cons, List.not_mem_nil, or_false, not_or]
  refine ⟨Nat.ne_of_lt hb, fun z => ?_⟩
  have z' : s.heap.objs.size + 1 ≤ b := by rw [← Ha, z]; exact hI
  exact absurd (Nat.lt_of_lt_of_le (Nat.lt_succ_of_lt hb) z') (Nat.lt_irrefl _)
end
noncomputable def sortI (ns : List Int) : List Int := ns.mergeSort fun a b => decide (a ≤ b)
theorem sortI_perm (ns : List Int) : (sortI ns).Perm ns := List.mergeSort_perm _ _
theorem sC (ns : List Int) : (sortI ns).Pairwise (· ≤ ·) := by
  have := List.pairwise_mergeSort (le := fun a b : Int => decide (a ≤ b)) (fun a b c h1 h2 => by simp only [decide_eq_true_eq] at *; omega) (fun a b => by simp only [Bool.or_eq_true, decide_eq_true_eq]; omega) ns
  exact this.imp fun h => by simpa using h
theorem ud {a b : List Int} (p : a.Perm b) (ha : a.Pairwise (· ≤ ·)) (hb : b.Pairwise (· ≤ ·)) : a = b := List.Perm.eq_of_pairwise (le := (· ≤ ·)) (fun x y _ _ h1 h2 => Int.le_antisymm h1 h2) ha hb p
theorem Bb {ms ns : List Int} (p : ms.Perm ns) (h : ms.Pairwise (· ≤ ·)) : ms = sortI ns := ud (p.trans (sortI_perm ns).symm) h (sC ns)
theorem we : ∀ {ns : List Int} {us : List Value}, Vals (ns.map V.int) us → IntsAre us ns
  | [], _, .nil => .nil
  | n :: ns, _, .cons r t => by
    obtain ⟨k, rfl⟩ := r
    exact .cons _ _ (we t)
theorem ll : ∀ {ns : List Int} {us : List Value}, IntsAre us ns → Vals (ns.map V.int) us
  | _, _, .nil => .nil
  | _, _, .cons n t r => .cons ⟨t, rfl⟩ (ll r)
section
variable {P : Program} {w : World} {A : Around} {E : Value → Shared → Prop} {s : Shared}
theorem mM {T : String} {l : Addr} {vs : List Value} {Q : List Value → Shared → Prop} {o : Obj} {n : Nat} (ho : s.heap.get? l = some o) (hc : o.cls = .type T) (hd : o.data = .seq vs.toArray n) (hT : T = "list" ∨ T = "tuple")
    (h : ∀ h', (∀ b o, s.heap.get? b = some o → h'.get? b = some o) → Q vs { s with heap := h' }) (hsz : vs.length ≤ sizeLine) : wpAny (model P w) A (collect (.ref l)) Q E s := by
  unfold collect
  refine wpAny_bind (wpAny_runValue (codeAny_builtin F.entry_proto_collect ?_))
  rw [Around.under_plainId F.plain_proto_collect _]
  show wpAny _ A.in1 (newList [] >>= fun l' => again (.builtin "list.__iadd__" ⟨[l', .ref l], []⟩)) _ _ s
  refine wpAny_bind (wpAny_newList (wpAny_pure ⟨plainId_quiet F.plain_list_iadd _, codeAny_builtin F.entry_list_iadd ?_⟩))
  rw [Around.under_plainId F.plain_list_iadd _]
  show wpAny _ A.in1 (Builtin.List.listExtendWith (.ref s.heap.objs.size) (.ref l) (.ref s.heap.objs.size)) _ _ { s with heap := s.heap.push (seqObj "list" #[] 0) }
  unfold Builtin.List.listExtendWith
  have gA : (s.heap.push (seqObj "list" #[] 0)).get? l = some o := Heap.get?_push_of_some _ ho
  refine wpAny_bind (wpAny_typeOf (T := T) ⟨o, gA, hc⟩ ?_)
  rw [if_pos (by rcases hT with rfl | rfl <;> simp)]
  refine wpAny_bind (listItems_at gA hd ?_)
  refine wpAny_bind (listItems_at (xs := #[]) (n := 0) (Heap.get?_push_size _ rfl) rfl ?_)
  rw [if_neg (by simp)]
  refine wpAny_bind (listUpdate_at (xs := #[]) (n := 0) (Heap.get?_push_size _ rfl) rfl ?_ (Nat.zero_le _) (by show (#[] ++ vs.toArray).size ≤ sizeLine + 1; simp only [Array.size_append, List.size_toArray, List.length_nil]; omega))
  refine wpAny_pure ?_
  show wpAny (model P w) A (load s.heap.objs.size >>= _) Q E _
  refine wpAny_bind (wpAny_load (get?_update_seq (Heap.get?_push_size _ rfl) _) ?_)
  show wpAny _ _ (pure ((#[] : Array Value) ++ vs.toArray).toList) Q E _
  rw [show ((#[] : Array Value) ++ vs.toArray).toList = vs by simp]
  exact wpAny_pure (h _ fun b o e => (Heap.get?_update_other _ _ (Nat.ne_of_gt (Heap.lt_size e))).trans (Heap.get?_push_of_some _ e))
theorem wg {a : Value} {ns : List Int} {Q : Value → Shared → Prop} (Nm : ∀ QL : List Value → Shared → Prop, (∀ us xs h' d' tk, IntsAre us xs → xs.Perm ns → (∀ b o, s.heap.get? b = some o → h'.get? b = some o) → QL us { s with heap := h', drawn := d', toks := tk }) → wpAny (model P w) A.in1 (collect a) QL E s) (Hc : ns.length < 64)
    (h : ∀ (h1 h' : Heap) d' tk (us : List Value) e, IntsAre us (sortI ns) → (∀ b o, s.heap.get? b = some o → h1.get? b = some o) → (∀ b o, h1.get? b = some o → h'.get? b = some o) → h'.get? h1.objs.size = some { cls := .type "list", data := .seq us.toArray e } → Q (.ref h1.objs.size) { s with heap := h', drawn := d', toks := tk }) :
    wpAny (model P w) A (call (.builtin "sorted") [a]) Q E s := by
  refine Calls.call_function_entry kind_sorted plain_sorted entry_sorted (args_sorted1 _) ?_
  unfold Builtin.«sorted»
  refine wpAny_bind (m := checkCount "sorted" 1 1 _) (wpAny_pure ?_)
  refine wpAny_bind (Nm _ fun us xs h' d' tk hI hp hk => ?_)
  have Hd : us.length < 64 := by
    have : us.length = xs.length := (ll hI).length.symm.trans (List.length_map _)
    rw [this, hp.length_eq]
    exact Hc
  refine wpAny_bind (wpAny_newList ?_ (hsz := Nat.le_trans (Nat.le_of_lt Hd) (by decide)))
  have xA : (h'.push (seqObj "list" us.toArray 0)).get? h'.objs.size = some (seqObj "list" us.toArray 0) := Heap.get?_push_size _ rfl
  refine wpAny_bind (wpAny_holding (wpAny_call_entry slot_list_sort ⟨_, xA, rfl⟩ entry_list_sort (list_sort_tree xA hI Hd fun out Q0 a1 a2 a3 => ⟨_, rfl, ?_⟩) (args_list_sort _)))
  refine wpAny_pure ⟨_, rfl, ?_⟩
  obtain ⟨e, he⟩ := sortedHeap_at (out := out) xA
  refine h h' _ d' tk out.toList e (by rw [← Bb (a2.trans hp) a3]; exact a1) hk (fun b o hb => ?_) (by simpa using he)
  have bO := Heap.lt_size hb
  rw [sortedHeap_old (Nat.ne_of_lt bO) (by rw [Heap.size_push]; exact Nat.lt_succ_of_lt bO)]
  exact Heap.get?_push_of_some _ hb
end
theorem wj {P : Program} {w : World} {h : Heap} {a : Addr} {ns : List Int} (x : cm P w h a ns) : ∃ o, h.get? a = some o := let ⟨o, _, _, _, e, _⟩ := x; ⟨o, e⟩
theorem D9 {P : Program} {w : World} {H : Hp} {h : Heap} {a : Addr} {ns : List Int} (x : cm P w h a ns) : bw P w H h a (m5 P w a ns) := ⟨x, wj x, fun h1 h2 y k => y.bU k⟩
theorem Ea {X : Cx} {pins : List (Addr × Obj)} {σ : St} {H : Hp} {s : Shared} {a : Addr} {ns : List Int} (I : Inv X pins σ H s) (h : H a = some (m5 X.prog X.w a ns)) : cm X.prog X.w s.heap a ns := (I.hok a _ h).1
inductive Dt where
  | ao | bl (b : Bool) | int (i : Int) | str (x : Str) | lst (xs : List Dt) | tup (xs : List Dt)
inductive da (H : Hp) : V → Dt → Prop where
  | ao : da H .ao .ao
  | bl (b : Bool) : da H (.bl b) (.bl b)
  | int (i : Int) : da H (.int i) (.int i)
  | str (x : Str) : da H (.str x) (.str x)
  | lst {a : Addr} {xs : List V} {ds : List Dt} (e : H a = some (.lst xs)) (hl : xs.length = ds.length) (h : ∀ (i : Nat) (x : V) (d : Dt), xs[i]? = some x → ds[i]? = some d → da H x d) : da H (.ref a) (.lst ds)
  | tup {a : Addr} {xs : List V} {ds : List Dt} (e : H a = some (.tup xs)) (hl : xs.length = ds.length) (h : ∀ (i : Nat) (x : V) (d : Dt), xs[i]? = some x → ds[i]? = some d → da H x d) : da H (.ref a) (.tup ds)
mutual
noncomputable def cf : Dt → Dt → Bool
  | .ao, .ao => true
  | .bl a, .bl b => a == b
  | .bl a, .int b => (if a then 1 else 0) == b
  | .int a, .bl b => a == (if b then 1 else 0)
  | .int a, .int b => a == b
  | .str a, .str b => a == b
  | .lst xs, .lst ys => fq xs ys
  | .tup xs, .tup ys => fq xs ys
  | _, _ => false
noncomputable def fq : List Dt → List Dt → Bool
  | [], [] => true
  | x :: xs, y :: ys => cf x y && fq xs ys
  | _, _ => false
end
mutual
theorem j7 : ∀ d : Dt, cf d d = true
  | .ao => by simp [cf]
  | .bl b => by simp [cf]
  | .int i => by simp [cf]
  | .str x => by simp [cf]
  | .lst xs => by simp only [cf]; exact lq xs
  | .tup xs => by simp only [cf]; exact lq xs
theorem lq : ∀ ds : List Dt, fq ds ds = true
  | [] => by simp [fq]
  | d :: ds => by simp only [fq]; rw [j7 d, lq ds]; rfl
end
theorem d7 : ∀ (xs ys : List Dt), fq xs ys = ((List.range (min xs.length ys.length)).all (fun j => cf (xs.getD j .ao) (ys.getD j .ao)) && xs.length == ys.length)
  | [], [] => by simp [fq]
  | [], _ :: _ => by simp [fq]
  | _ :: _, [] => by simp [fq]
  | x :: xs, y :: ys => by
    rw [fq, d7 xs ys]
    have e : min (x :: xs).length (y :: ys).length = min xs.length ys.length + 1 := by simp [Nat.succ_min_succ]
    rw [e, List.range_succ_eq_map, List.all_cons, List.all_map]
    have e2 : ((x :: xs).length == (y :: ys).length) = (xs.length == ys.length) := by simp
    rw [e2, Bool.and_assoc]
    rfl
theorem da.inj {H : Hp} {v : V} {d : Dt} (h : da H v d) : ∀ {d' : Dt}, da H v d' → d = d' := by
  induction h with
  | ao => intro d' h'; cases h'; rfl
  | bl b => intro d' h'; cases h'; rfl
  | int i => intro d' h'; cases h'; rfl
  | str x => intro d' h'; cases h'; rfl
  | lst e hl h ih =>
    intro d' h'
    cases h' with
    | lst e' He h' =>
      rw [e] at e'; cases e'
      congr 1
      refine List.ext_getElem? fun i => ?_
      rename_i xs ds fT
      by_cases hi : i < xs.length
      · rw [List.getElem?_eq_getElem (by omega), List.getElem?_eq_getElem (by omega)]
        exact congrArg some (ih i _ _ (List.getElem?_eq_getElem hi) (List.getElem?_eq_getElem (by omega)) (h' i _ _ (List.getElem?_eq_getElem hi) (List.getElem?_eq_getElem (by omega))))
      · rw [List.getElem?_eq_none (by omega), List.getElem?_eq_none (by omega)]
    | tup e' He h' => rw [e] at e'; cases e'
  | tup e hl h ih =>
    intro d' h'
    cases h' with
    | lst e' He h' => rw [e] at e'; cases e'
    | tup e' He h' =>
      rw [e] at e'; cases e'
      congr 1
      refine List.ext_getElem? fun i => ?_
      rename_i xs ds fT
      by_cases hi : i < xs.length
      · rw [List.getElem?_eq_getElem (by omega), List.getElem?_eq_getElem (by omega)]
        exact congrArg some (ih i _ _ (List.getElem?_eq_getElem hi) (List.getElem?_eq_getElem (by omega)) (h' i _ _ (List.getElem?_eq_getElem hi) (List.getElem?_eq_getElem (by omega))))
      · rw [List.getElem?_eq_none (by omega), List.getElem?_eq_none (by omega)]
mutual
noncomputable def fU : Dt → Nat
  | .lst xs => ft xs + 1
  | .tup xs => ft xs + 1
  | _ => 0
noncomputable def ft : List Dt → Nat
  | [] => 0
  | x :: xs => max (fU x) (ft xs)
end
theorem iW : ∀ {ds : List Dt} {i : Nat} {d : Dt}, ds[i]? = some d → fU d ≤ ft ds
  | [], _, _, h => by simp at h
  | x :: xs, 0, d, h => by
    simp at h; subst h
    rw [ft]; exact Nat.le_max_left _ _
  | x :: xs, i + 1, d, h => by
    rw [ft]
    exact Nat.le_trans (iW (i := i) (by simpa using h)) (Nat.le_max_right _ _)
section
variable {X : Cx} {pins : List (Addr × Obj)} {σ : St} {H : Hp} {s : Shared}
theorem Inv.lists (I : Inv X pins σ H s) {a : Addr} {xs : List V} (h : H a = some (.lst xs)) : ∃ its : List Value, Vals xs its ∧ s.heap.IsList a its.toArray := by
  obtain ⟨its, rv, p, _⟩ := I.list (bI.of h)
  exact ⟨its, rv, p.isList⟩
theorem Inv.tups (I : Inv X pins σ H s) {a : Addr} {xs : List V} (h : H a = some (.tup xs)) : ∃ its : List Value, Vals xs its ∧ s.heap.IsTuple a its.toArray := by
  obtain ⟨its, rv, p, _⟩ := I.tuple (bJ.of h)
  exact ⟨its, rv, p⟩
theorem lr (I : Inv X pins σ H s) {x y : V} {d : Dt} (hx : da H x d) : ∀ {e : Dt} {u v : Value} {A : Around}, da H y e → RelV x u → RelV y v → A.units + fU d < cLine → SeqAt.EqAt A s u v (cf d e) := by
  have lists := fun {a : Addr} {xs : List V} (h : H a = some (.lst xs)) => I.lists h
  have tups := fun {a : Addr} {xs : List V} (h : H a = some (.tup xs)) => I.tups h
  induction hx generalizing y with
  | ao =>
    intro e u v A hy rx ry hu
    have aR : A.units < cLine := by omega
    cases rx
    cases hy with
    | ao => cases ry; exact SeqAt.EqAt.same _
    | bl b => cases ry; exact SeqAt.EqAt.none_bool _
    | int i => obtain ⟨t, rfl⟩ := ry; exact SeqAt.EqAt.none_int _ _
    | str z => obtain ⟨t, rfl⟩ := ry; exact SeqAt.EqAt.none_str _ _
    | lst e2 _ _ => cases ry; obtain ⟨_, _, p⟩ := lists e2; exact SeqAt.EqAt.none_list p aR
    | tup e2 _ _ => cases ry; obtain ⟨_, _, p⟩ := tups e2; exact SeqAt.EqAt.none_tuple p aR
  | bl a =>
    intro e u v A hy rx ry hu
    have aR : A.units < cLine := by omega
    cases rx
    cases hy with
    | ao => cases ry; exact SeqAt.EqAt.bool_none _
    | bl b => cases ry; exact SeqAt.EqAt.bool_bool _ _
    | int i => obtain ⟨t, rfl⟩ := ry; exact SeqAt.EqAt.bool_int _ _ _
    | str z => obtain ⟨t, rfl⟩ := ry; exact SeqAt.EqAt.bool_str _ _ _
    | lst e2 _ _ => cases ry; obtain ⟨_, _, p⟩ := lists e2; exact SeqAt.EqAt.bool_list _ p aR
    | tup e2 _ _ => cases ry; obtain ⟨_, _, p⟩ := tups e2; exact SeqAt.EqAt.bool_tuple _ p aR
  | int a =>
    intro e u v A hy rx ry hu
    have aR : A.units < cLine := by omega
    obtain ⟨ta, rfl⟩ := rx
    cases hy with
    | ao => cases ry; exact SeqAt.EqAt.int_none _ _
    | bl b => cases ry; exact SeqAt.EqAt.int_bool _ _ _
    | int i => obtain ⟨t, rfl⟩ := ry; exact SeqAt.EqAt.int_int _ _ _ _
    | str z => obtain ⟨t, rfl⟩ := ry; exact SeqAt.EqAt.int_str _ _ _ _
    | lst e2 _ _ => cases ry; obtain ⟨_, _, p⟩ := lists e2; exact SeqAt.EqAt.int_list _ _ p aR
    | tup e2 _ _ => cases ry; obtain ⟨_, _, p⟩ := tups e2; exact SeqAt.EqAt.int_tuple _ _ p aR
  | str a =>
    intro e u v A hy rx ry hu
    have aR : A.units < cLine := by omega
    obtain ⟨ta, rfl⟩ := rx
    cases hy with
    | ao => cases ry; exact SeqAt.EqAt.str_none _ _
    | bl b => cases ry; exact SeqAt.EqAt.str_bool _ _ _
    | int i => obtain ⟨t, rfl⟩ := ry; exact SeqAt.EqAt.str_int _ _ _ _
    | str z => obtain ⟨t, rfl⟩ := ry; exact SeqAt.EqAt.str_str _ _ _ _
    | lst e2 _ _ => cases ry; obtain ⟨_, _, p⟩ := lists e2; exact SeqAt.EqAt.str_list _ _ p aR
    | tup e2 _ _ => cases ry; obtain ⟨_, _, p⟩ := tups e2; exact SeqAt.EqAt.str_tuple _ _ p aR
  | lst e1 jU h1 ih =>
    rename_i a xs ds
    intro e u v A hy rx ry hu
    have aR : A.units < cLine := by omega
    have yD : A.units + ft ds + 1 < cLine := by rw [fU] at hu; omega
    cases rx
    obtain ⟨its, rv, p⟩ := lists e1
    cases hy with
    | ao => cases ry; exact SeqAt.EqAt.list_none p aR
    | bl b => cases ry; exact SeqAt.EqAt.list_bool _ p aR
    | int i => obtain ⟨t, rfl⟩ := ry; exact SeqAt.EqAt.list_int _ _ p aR
    | str z => obtain ⟨t, rfl⟩ := ry; exact SeqAt.EqAt.list_str _ _ p aR
    | lst e2 gB h2 =>
      rename_i b ys es
      cases ry
      by_cases yE : a = b
      · subst yE
        have := (da.lst e1 jU h1).inj (da.lst e2 gB h2)
        cases this
        rw [j7]
        exact SeqAt.EqAt.same _
      · obtain ⟨bP, gX, p2⟩ := lists e2
        have l1 := rv.length
        have l2 := gX.length
        have at_ : ∀ j (g1 : j < its.toArray.size) (g2 : j < bP.toArray.size), SeqAt.EqAt A.in1 s its.toArray[j] bP.toArray[j] (cf (ds.getD j .ao) (es.getD j .ao)) := fun j g1 g2 => by
          have gY : j < xs.length := by rw [l1]; simpa using g1
          have gZ : j < ys.length := by rw [l2]; simpa using g2
          have r1 := b9 rv g1
          have r2 := b9 gX g2
          rw [List.getD_eq_getElem?_getD, List.getElem?_eq_getElem gY] at r1
          rw [List.getD_eq_getElem?_getD, List.getElem?_eq_getElem gZ] at r2
          have d1 : ds[j]? = some ds[j] := List.getElem?_eq_getElem (by omega)
          have d2 : es[j]? = some es[j] := List.getElem?_eq_getElem (by omega)
          rw [List.getD_eq_getElem?_getD, List.getD_eq_getElem?_getD, d1, d2]
          have := iW d1
          exact ih j _ _ (List.getElem?_eq_getElem gY) d1 (h2 j _ _ (List.getElem?_eq_getElem gZ) d2) r1 r2 (by show A.units + 1 + _ < cLine; omega)
        refine SeqAt.EqAt.of_refs yE ?_
        rw [cf, d7]
        by_cases hsz : ds.length = es.length
        · have q := SeqAt.RcAt.lists p p2 (by simp only [List.size_toArray]; omega) aR at_
          have z : (ds.length == es.length) = true := by simpa using hsz
          rw [z, Bool.and_true, ← hsz, Nat.min_self]
          rw [List.size_toArray, ← l1, jU] at q
          exact q
        · have z : (ds.length == es.length) = false := by simpa using hsz
          rw [z, Bool.and_false]
          exact SeqAt.RcAt.lists_lengths p p2 (by simp only [List.size_toArray]; simpa [bne_iff_ne] using (show its.length ≠ bP.length by omega)) aR
    | tup e2 gB h2 => cases ry; obtain ⟨_, _, p2⟩ := tups e2; exact SeqAt.EqAt.list_tuple p p2 aR
  | tup e1 jU h1 ih =>
    rename_i a xs ds
    intro e u v A hy rx ry hu
    have aR : A.units < cLine := by omega
    have yD : A.units + ft ds + 1 < cLine := by rw [fU] at hu; omega
    cases rx
    obtain ⟨its, rv, p⟩ := tups e1
    cases hy with
    | ao => cases ry; exact SeqAt.EqAt.tuple_none p aR
    | bl b => cases ry; exact SeqAt.EqAt.tuple_bool _ p aR
    | int i => obtain ⟨t, rfl⟩ := ry; exact SeqAt.EqAt.tuple_int _ _ p aR
    | str z => obtain ⟨t, rfl⟩ := ry; exact SeqAt.EqAt.tuple_str _ _ p aR
    | lst e2 gB h2 => cases ry; obtain ⟨_, _, p2⟩ := lists e2; exact SeqAt.EqAt.tuple_list p p2 aR
    | tup e2 gB h2 =>
      rename_i b ys es
      cases ry
      by_cases yE : a = b
      · subst yE
        have := (da.tup e1 jU h1).inj (da.tup e2 gB h2)
        cases this
        rw [j7]
        exact SeqAt.EqAt.same _
      · obtain ⟨bP, gX, p2⟩ := tups e2
        have l1 := rv.length
        have l2 := gX.length
        have at_ : ∀ j (g1 : j < its.toArray.size) (g2 : j < bP.toArray.size), SeqAt.EqAt A.in1 s its.toArray[j] bP.toArray[j] (cf (ds.getD j .ao) (es.getD j .ao)) := fun j g1 g2 => by
          have gY : j < xs.length := by rw [l1]; simpa using g1
          have gZ : j < ys.length := by rw [l2]; simpa using g2
          have r1 := b9 rv g1
          have r2 := b9 gX g2
          rw [List.getD_eq_getElem?_getD, List.getElem?_eq_getElem gY] at r1
          rw [List.getD_eq_getElem?_getD, List.getElem?_eq_getElem gZ] at r2
          have d1 : ds[j]? = some ds[j] := List.getElem?_eq_getElem (by omega)
          have d2 : es[j]? = some es[j] := List.getElem?_eq_getElem (by omega)
          rw [List.getD_eq_getElem?_getD, List.getD_eq_getElem?_getD, d1, d2]
          have := iW d1
          exact ih j _ _ (List.getElem?_eq_getElem gY) d1 (h2 j _ _ (List.getElem?_eq_getElem gZ) d2) r1 r2 (by show A.units + 1 + _ < cLine; omega)
        refine SeqAt.EqAt.of_refs yE ?_
        rw [cf, d7]
        have q := SeqAt.RcAt.tuples p p2 aR at_
        rw [List.size_toArray, List.size_toArray, ← l1, ← l2, jU, gB] at q
        exact q
end
section
variable {X : Cx} {pins : List (Addr × Obj)} {σ : St} {H : Hp} {s : Shared}
theorem Hf (I : Inv X pins σ H s) {x y : V} {d e : Dt} {u v : Value} {A : Around} (hx : da H x d) (hy : da H y e) (rx : RelV x u) (ry : RelV y v) (hu : A.units + fU d < cLine) : SeqAt.RcAt A s u v (cf d e) := by
  have aR : A.units < cLine := by omega
  have lists := fun {a : Addr} {xs : List V} (h : H a = some (.lst xs)) => I.lists h
  have tups := fun {a : Addr} {xs : List V} (h : H a = some (.tup xs)) => I.tups h
  cases hx with
  | ao =>
    cases rx
    cases hy with
    | ao => cases ry; exact SeqAt.RcAt.none_none
    | bl b => cases ry; exact SeqAt.RcAt.none_bool _
    | int b => obtain ⟨t, rfl⟩ := ry; exact SeqAt.RcAt.none_int _ _
    | str b => obtain ⟨t, rfl⟩ := ry; exact SeqAt.RcAt.none_str _ _
    | lst e2 _ _ => cases ry; obtain ⟨_, _, p⟩ := lists e2; exact SeqAt.RcAt.none_list p aR
    | tup e2 _ _ => cases ry; obtain ⟨_, _, p⟩ := tups e2; exact SeqAt.RcAt.none_tuple p aR
  | bl a =>
    cases rx
    cases hy with
    | ao => cases ry; exact SeqAt.RcAt.bool_none _
    | bl b => cases ry; exact SeqAt.RcAt.bool_bool _ _
    | int b => obtain ⟨t, rfl⟩ := ry; exact SeqAt.RcAt.bool_int _ _ _
    | str b => obtain ⟨t, rfl⟩ := ry; exact SeqAt.RcAt.bool_str _ _ _
    | lst e2 _ _ => cases ry; obtain ⟨_, _, p⟩ := lists e2; exact SeqAt.RcAt.bool_list _ p aR
    | tup e2 _ _ => cases ry; obtain ⟨_, _, p⟩ := tups e2; exact SeqAt.RcAt.bool_tuple _ p aR
  | int a =>
    obtain ⟨ta, rfl⟩ := rx
    cases hy with
    | ao => cases ry; exact SeqAt.RcAt.int_none _ _
    | bl b => cases ry; exact SeqAt.RcAt.int_bool _ _ _
    | int b => obtain ⟨t, rfl⟩ := ry; exact SeqAt.RcAt.int_int _ _ _ _
    | str b => obtain ⟨t, rfl⟩ := ry; exact SeqAt.RcAt.int_str _ _ _ _
    | lst e2 _ _ => cases ry; obtain ⟨_, _, p⟩ := lists e2; exact SeqAt.RcAt.int_list _ _ p aR
    | tup e2 _ _ => cases ry; obtain ⟨_, _, p⟩ := tups e2; exact SeqAt.RcAt.int_tuple _ _ p aR
  | str a =>
    obtain ⟨ta, rfl⟩ := rx
    cases hy with
    | ao => cases ry; exact SeqAt.RcAt.str_none _ _
    | bl b => cases ry; exact SeqAt.RcAt.str_bool _ _ _
    | int b => obtain ⟨t, rfl⟩ := ry; exact SeqAt.RcAt.str_int _ _ _ _
    | str b => obtain ⟨t, rfl⟩ := ry; exact SeqAt.RcAt.str_str _ _ _ _
    | lst e2 _ _ => cases ry; obtain ⟨_, _, p⟩ := lists e2; exact SeqAt.RcAt.str_list _ _ p aR
    | tup e2 _ _ => cases ry; obtain ⟨_, _, p⟩ := tups e2; exact SeqAt.RcAt.str_tuple _ _ p aR
  | lst e1 jU h1 =>
    rename_i a xs ds
    have yD : A.units + ft ds + 1 < cLine := by rw [fU] at hu; omega
    cases rx
    obtain ⟨its, rv, p⟩ := lists e1
    cases hy with
    | ao => cases ry; exact SeqAt.RcAt.list_none p aR
    | bl b => cases ry; exact SeqAt.RcAt.list_bool _ p aR
    | int b => obtain ⟨t, rfl⟩ := ry; exact SeqAt.RcAt.list_int _ _ p aR
    | str b => obtain ⟨t, rfl⟩ := ry; exact SeqAt.RcAt.list_str _ _ p aR
    | lst e2 gB h2 =>
      rename_i b ys es
      cases ry
      obtain ⟨bP, gX, p2⟩ := lists e2
      have l1 := rv.length
      have l2 := gX.length
      have at_ : ∀ j (g1 : j < its.toArray.size) (g2 : j < bP.toArray.size), SeqAt.EqAt A.in1 s its.toArray[j] bP.toArray[j] (cf (ds.getD j .ao) (es.getD j .ao)) := fun j g1 g2 => by
        have gY : j < xs.length := by rw [l1]; simpa using g1
        have gZ : j < ys.length := by rw [l2]; simpa using g2
        have r1 := b9 rv g1
        have r2 := b9 gX g2
        rw [List.getD_eq_getElem?_getD, List.getElem?_eq_getElem gY] at r1
        rw [List.getD_eq_getElem?_getD, List.getElem?_eq_getElem gZ] at r2
        have d1 : ds[j]? = some ds[j] := List.getElem?_eq_getElem (by omega)
        have d2 : es[j]? = some es[j] := List.getElem?_eq_getElem (by omega)
        rw [List.getD_eq_getElem?_getD, List.getD_eq_getElem?_getD, d1, d2]
        have := iW d1
        exact lr I (h1 j _ _ (List.getElem?_eq_getElem gY) d1) (h2 j _ _ (List.getElem?_eq_getElem gZ) d2) r1 r2 (by show A.units + 1 + _ < cLine; omega)
      rw [cf, d7]
      by_cases hsz : ds.length = es.length
      · have q := SeqAt.RcAt.lists p p2 (by simp only [List.size_toArray]; omega) aR at_
        have z : (ds.length == es.length) = true := by simpa using hsz
        rw [z, Bool.and_true, ← hsz, Nat.min_self]
        rw [List.size_toArray, ← l1, jU] at q
        exact q
      · have z : (ds.length == es.length) = false := by simpa using hsz
        rw [z, Bool.and_false]
        exact SeqAt.RcAt.lists_lengths p p2 (by simp only [List.size_toArray]; simpa [bne_iff_ne] using (show its.length ≠ bP.length by omega)) aR
    | tup e2 gB h2 => cases ry; obtain ⟨_, _, p2⟩ := tups e2; exact SeqAt.RcAt.list_tuple p p2 aR
  | tup e1 jU h1 =>
    rename_i a xs ds
    have yD : A.units + ft ds + 1 < cLine := by rw [fU] at hu; omega
    cases rx
    obtain ⟨its, rv, p⟩ := tups e1
    cases hy with
    | ao => cases ry; exact SeqAt.RcAt.tuple_none p aR
    | bl b => cases ry; exact SeqAt.RcAt.tuple_bool _ p aR
    | int b => obtain ⟨t, rfl⟩ := ry; exact SeqAt.RcAt.tuple_int _ _ p aR
    | str b => obtain ⟨t, rfl⟩ := ry; exact SeqAt.RcAt.tuple_str _ _ p aR
    | lst e2 gB h2 => cases ry; obtain ⟨_, _, p2⟩ := lists e2; exact SeqAt.RcAt.tuple_list p p2 aR
    | tup e2 gB h2 =>
      rename_i b ys es
      cases ry
      obtain ⟨bP, gX, p2⟩ := tups e2
      have l1 := rv.length
      have l2 := gX.length
      have at_ : ∀ j (g1 : j < its.toArray.size) (g2 : j < bP.toArray.size), SeqAt.EqAt A.in1 s its.toArray[j] bP.toArray[j] (cf (ds.getD j .ao) (es.getD j .ao)) := fun j g1 g2 => by
        have gY : j < xs.length := by rw [l1]; simpa using g1
        have gZ : j < ys.length := by rw [l2]; simpa using g2
        have r1 := b9 rv g1
        have r2 := b9 gX g2
        rw [List.getD_eq_getElem?_getD, List.getElem?_eq_getElem gY] at r1
        rw [List.getD_eq_getElem?_getD, List.getElem?_eq_getElem gZ] at r2
        have d1 : ds[j]? = some ds[j] := List.getElem?_eq_getElem (by omega)
        have d2 : es[j]? = some es[j] := List.getElem?_eq_getElem (by omega)
        rw [List.getD_eq_getElem?_getD, List.getD_eq_getElem?_getD, d1, d2]
        have := iW d1
        exact lr I (h1 j _ _ (List.getElem?_eq_getElem gY) d1) (h2 j _ _ (List.getElem?_eq_getElem gZ) d2) r1 r2 (by show A.units + 1 + _ < cLine; omega)
      rw [cf, d7]
      have q := SeqAt.RcAt.tuples p p2 aR at_
      rw [List.size_toArray, List.size_toArray, ← l1, ← l2, jU, gB] at q
      exact q
theorem Hg (I : Inv X pins σ H s) {x y : V} {d e : Dt} {u v : Value} {A : Around} (hx : da H x d) (hy : da H y e) (rx : RelV x u) (ry : RelV y v) (hu : A.units + fU d < cLine) : SeqAt.RcNeAt A s u v (!(cf d e)) := by
  have aR : A.units < cLine := by omega
  have lists := fun {a : Addr} {xs : List V} (h : H a = some (.lst xs)) => I.lists h
  have tups := fun {a : Addr} {xs : List V} (h : H a = some (.tup xs)) => I.tups h
  cases hx with
  | ao =>
    cases rx
    cases hy with
    | ao => cases ry; exact SeqAt.RcNeAt.none_none
    | bl b => cases ry; exact SeqAt.RcNeAt.none_bool _
    | int b => obtain ⟨t, rfl⟩ := ry; exact SeqAt.RcNeAt.none_int _ _
    | str b => obtain ⟨t, rfl⟩ := ry; exact SeqAt.RcNeAt.none_str _ _
    | lst e2 _ _ => cases ry; obtain ⟨_, _, p⟩ := lists e2; exact SeqAt.RcNeAt.none_list p aR
    | tup e2 _ _ => cases ry; obtain ⟨_, _, p⟩ := tups e2; exact SeqAt.RcNeAt.none_tuple p aR
  | bl a =>
    cases rx
    cases hy with
    | ao => cases ry; exact SeqAt.RcNeAt.bool_none _
    | bl b => cases ry; exact SeqAt.RcNeAt.bool_bool _ _
    | int b => obtain ⟨t, rfl⟩ := ry; exact SeqAt.RcNeAt.bool_int _ _ _
    | str b => obtain ⟨t, rfl⟩ := ry; exact SeqAt.RcNeAt.bool_str _ _ _
    | lst e2 _ _ => cases ry; obtain ⟨_, _, p⟩ := lists e2; exact SeqAt.RcNeAt.bool_list _ p aR
    | tup e2 _ _ => cases ry; obtain ⟨_, _, p⟩ := tups e2; exact SeqAt.RcNeAt.bool_tuple _ p aR
  | int a =>
    obtain ⟨ta, rfl⟩ := rx
    cases hy with
    | ao => cases ry; exact SeqAt.RcNeAt.int_none _ _
    | bl b => cases ry; exact SeqAt.RcNeAt.int_bool _ _ _
    | int b => obtain ⟨t, rfl⟩ := ry; exact SeqAt.RcNeAt.int_int _ _ _ _
    | str b => obtain ⟨t, rfl⟩ := ry; exact SeqAt.RcNeAt.int_str _ _ _ _
    | lst e2 _ _ => cases ry; obtain ⟨_, _, p⟩ := lists e2; exact SeqAt.RcNeAt.int_list _ _ p aR
    | tup e2 _ _ => cases ry; obtain ⟨_, _, p⟩ := tups e2; exact SeqAt.RcNeAt.int_tuple _ _ p aR
  | str a =>
    obtain ⟨ta, rfl⟩ := rx
    cases hy with
    | ao => cases ry; exact SeqAt.RcNeAt.str_none _ _
    | bl b => cases ry; exact SeqAt.RcNeAt.str_bool _ _ _
    | int b => obtain ⟨t, rfl⟩ := ry; exact SeqAt.RcNeAt.str_int _ _ _ _
    | str b => obtain ⟨t, rfl⟩ := ry; exact SeqAt.RcNeAt.str_str _ _ _ _
    | lst e2 _ _ => cases ry; obtain ⟨_, _, p⟩ := lists e2; exact SeqAt.RcNeAt.str_list _ _ p aR
    | tup e2 _ _ => cases ry; obtain ⟨_, _, p⟩ := tups e2; exact SeqAt.RcNeAt.str_tuple _ _ p aR
  | lst e1 jU h1 =>
    rename_i a xs ds
    have yD : A.units + ft ds + 1 < cLine := by rw [fU] at hu; omega
    cases rx
    obtain ⟨its, rv, p⟩ := lists e1
    cases hy with
    | ao => cases ry; exact SeqAt.RcNeAt.list_none p aR
    | bl b => cases ry; exact SeqAt.RcNeAt.list_bool _ p aR
    | int b => obtain ⟨t, rfl⟩ := ry; exact SeqAt.RcNeAt.list_int _ _ p aR
    | str b => obtain ⟨t, rfl⟩ := ry; exact SeqAt.RcNeAt.list_str _ _ p aR
    | lst e2 gB h2 =>
      rename_i b ys es
      cases ry
      obtain ⟨bP, gX, p2⟩ := lists e2
      have l1 := rv.length
      have l2 := gX.length
      have at_ : ∀ j (g1 : j < its.toArray.size) (g2 : j < bP.toArray.size), SeqAt.EqAt A.in1 s its.toArray[j] bP.toArray[j] (cf (ds.getD j .ao) (es.getD j .ao)) := fun j g1 g2 => by
        have gY : j < xs.length := by rw [l1]; simpa using g1
        have gZ : j < ys.length := by rw [l2]; simpa using g2
        have r1 := b9 rv g1
        have r2 := b9 gX g2
        rw [List.getD_eq_getElem?_getD, List.getElem?_eq_getElem gY] at r1
        rw [List.getD_eq_getElem?_getD, List.getElem?_eq_getElem gZ] at r2
        have d1 : ds[j]? = some ds[j] := List.getElem?_eq_getElem (by omega)
        have d2 : es[j]? = some es[j] := List.getElem?_eq_getElem (by omega)
        rw [List.getD_eq_getElem?_getD, List.getD_eq_getElem?_getD, d1, d2]
        have := iW d1
        exact lr I (h1 j _ _ (List.getElem?_eq_getElem gY) d1) (h2 j _ _ (List.getElem?_eq_getElem gZ) d2) r1 r2 (by show A.units + 1 + _ < cLine; omega)
      rw [cf, d7]
      by_cases hsz : ds.length = es.length
      · have q := SeqAt.RcNeAt.lists p p2 (by simp only [List.size_toArray]; omega) aR at_
        have z : (ds.length == es.length) = true := by simpa using hsz
        rw [z, Bool.and_true, ← hsz, Nat.min_self]
        rw [List.size_toArray, ← l1, jU] at q
        exact q
      · have z : (ds.length == es.length) = false := by simpa using hsz
        rw [z, Bool.and_false]
        exact SeqAt.RcNeAt.lists_lengths p p2 (by simp only [List.size_toArray]; simpa [bne_iff_ne] using (show its.length ≠ bP.length by omega)) aR
    | tup e2 gB h2 => cases ry; obtain ⟨_, _, p2⟩ := tups e2; exact SeqAt.RcNeAt.list_tuple p p2 aR
  | tup e1 jU h1 =>
    rename_i a xs ds
    have yD : A.units + ft ds + 1 < cLine := by rw [fU] at hu; omega
    cases rx
    obtain ⟨its, rv, p⟩ := tups e1
    cases hy with
    | ao => cases ry; exact SeqAt.RcNeAt.tuple_none p aR
    | bl b => cases ry; exact SeqAt.RcNeAt.tuple_bool _ p aR
    | int b => obtain ⟨t, rfl⟩ := ry; exact SeqAt.RcNeAt.tuple_int _ _ p aR
    | str b => obtain ⟨t, rfl⟩ := ry; exact SeqAt.RcNeAt.tuple_str _ _ p aR
    | lst e2 gB h2 => cases ry; obtain ⟨_, _, p2⟩ := lists e2; exact SeqAt.RcNeAt.tuple_list p p2 aR
    | tup e2 gB h2 =>
      rename_i b ys es
      cases ry
      obtain ⟨bP, gX, p2⟩ := tups e2
      have l1 := rv.length
      have l2 := gX.length
      have at_ : ∀ j (g1 : j < its.toArray.size) (g2 : j < bP.toArray.size), SeqAt.EqAt A.in1 s its.toArray[j] bP.toArray[j] (cf (ds.getD j .ao) (es.getD j .ao)) := fun j g1 g2 => by
        have gY : j < xs.length := by rw [l1]; simpa using g1
        have gZ : j < ys.length := by rw [l2]; simpa using g2
        have r1 := b9 rv g1
        have r2 := b9 gX g2
        rw [List.getD_eq_getElem?_getD, List.getElem?_eq_getElem gY] at r1
        rw [List.getD_eq_getElem?_getD, List.getElem?_eq_getElem gZ] at r2
        have d1 : ds[j]? = some ds[j] := List.getElem?_eq_getElem (by omega)
        have d2 : es[j]? = some es[j] := List.getElem?_eq_getElem (by omega)
        rw [List.getD_eq_getElem?_getD, List.getD_eq_getElem?_getD, d1, d2]
        have := iW d1
        exact lr I (h1 j _ _ (List.getElem?_eq_getElem gY) d1) (h2 j _ _ (List.getElem?_eq_getElem gZ) d2) r1 r2 (by show A.units + 1 + _ < cLine; omega)
      rw [cf, d7]
      have q := SeqAt.RcNeAt.tuples p p2 aR at_
      rw [List.size_toArray, List.size_toArray, ← l1, ← l2, jU, gB] at q
      exact q
end
section
variable {X : Cx}
noncomputable def Bc (neg : Bool) : R2 := fun x y H Q => ∃ d e, da H x d ∧ da H y e ∧ fU d ≤ 60 ∧ Q (.bl (if neg then !cf d e else cf d e)) H
theorem Hh (hu : X.A.units + 64 < cLine) : OpR X (compareOp .Eq) (Bc false) := by
  intro pins s σ H x y v u Q I rx ry h
  obtain ⟨d, e, hx, hy, hd, q⟩ := h
  exact Hf I hx hy rx ry (by omega) X.prog X.w X.xe _ ⟨.bl _, H, I, rfl, q⟩
theorem Hi (hu : X.A.units + 64 < cLine) : OpR X (compareOp .NotEq) (Bc true) := by
  intro pins s σ H x y v u Q I rx ry h
  obtain ⟨d, e, hx, hy, hd, q⟩ := h
  exact Hg I hx hy rx ry (by omega) X.prog X.w X.xe _ ⟨.bl _, H, I, rfl, q⟩
end
theorem Hj : bootBuiltins "set" = some (.type "set") := by decide +kernel
theorem yF : bootBuiltins "sorted" = some (.builtin "sorted") := by decide +kernel
section
variable {X : Cx}
noncomputable def yG (K : PySem.W.Frag) (H : Hp) (p : Addr) (ns : List Int) : Prop := bI K H p (ns.map V.int) ∨ bJ K H p (ns.map V.int)
noncomputable def sD (P : Program) (w : World) (K : PySem.W.Frag) : List V → Hp → VK → Prop := fun xs H Q => ∃ p ns, xs = [.ref p] ∧ yG K H p ns ∧ ns.length + 1 < scanBound ∧ ∀ l, H l = none → Q (.ref l) (upd H l (m5 P w l (dC ns)))
theorem sE {ns : List Int} {us : List Value} (r : Vals (ns.map V.int) us) : ∀ (i : Nat) (v : Value), us.toArray[i]? = some v → ∃ m t, ns[i]? = some m ∧ v = .int m t := fun i v h => by
  have hl := r.length
  have h' : us[i]? = some v := by simpa using h
  have hi : i < us.length := (List.getElem?_eq_some_iff.mp h').1
  have ez : i < ns.length := by rw [List.length_map] at hl; omega
  obtain ⟨u, e, q⟩ := r.get (i := i) (x := V.int ns[i]) (by rw [List.getElem?_map, List.getElem?_eq_getElem ez]; rfl)
  rw [h'] at e; cases e
  obtain ⟨t, rfl⟩ := q
  exact ⟨_, t, List.getElem?_eq_getElem ez, rfl⟩
theorem yH (hc : X.calm = true) : cL X (.type "set") (sD X.prog X.w X.K) := by
  intro pins s σ H xs us Q I r h
  obtain ⟨p, ns, rfl, hq, hb, q⟩ := h
  obtain ⟨u, rfl, rx⟩ := vals1 r
  cases rx
  have fin : ∀ (h' : Heap) (tk : Nat), cm X.prog X.w h' s.heap.objs.size (dC ns) → (∀ b o, s.heap.get? b = some o → h'.get? b = some o) → EP X pins σ Q (.ref s.heap.objs.size) { s with heap := h', toks := tk } := fun h' tk hM hk =>
    ⟨.ref s.heap.objs.size, _, I.laid (t' := tk) hk (Nat.le_refl _) (D9 hM), rfl, q _ (I.hok.fresh (Nat.le_refl _))⟩
  have hh := I.ok.hd hc
  rcases hq with hq | hq
  · obtain ⟨its, rv, pl, hz⟩ := I.list hq
    have hl : its.toArray.size = ns.length := by rw [List.size_toArray, ← rv.length, List.length_map]
    obtain ⟨o, ho, c9, n, hd⟩ := pl.isList
    refine lg (T := "list") (vs := ns) (itob := { cls := .type "list_iterator", data := .fields #[.ref p, .int 0 0] }) (Pv := fun i v => its.toArray[i]? = some v) (St := fun I i h => h.IsListIter I p i ∧ h.IsList p its.toArray) hh ⟨o, ho⟩ (fun s1 k => ⟨o, k o ho, c9⟩) F.sub_list_set F.sub_list_frozenset (by decide)
      (fun A' s1 Q' E' k yI => wpAny_pyIter_list ⟨o, k o ho, c9, n, hd⟩ yI) (fun A' I' hA dY => hl ▸ Walks.list hA I' p dY its.toArray) (fun h1 k => ⟨⟨_, Heap.get?_push_size _ rfl, rfl, rfl⟩, ⟨o, Heap.get?_push_of_some _ (k o ho), c9, n, hd⟩⟩) (sE rv) hb fin
  · obtain ⟨its, rv, pl, hz⟩ := I.tuple hq
    have hl : its.toArray.size = ns.length := by rw [List.size_toArray, ← rv.length, List.length_map]
    obtain ⟨o, ho, c9, n, hd⟩ := pl
    refine lg (T := "tuple") (vs := ns) (itob := { cls := .type "tuple_iterator", data := .fields #[.ref p, .int 0 0] }) (Pv := fun i v => its.toArray[i]? = some v) (St := fun I i h => h.IsTupleIter I p i ∧ h.IsTuple p its.toArray) hh ⟨o, ho⟩ (fun s1 k => ⟨o, k o ho, c9⟩) sub_tuple_set oY (by decide)
      (fun A' s1 Q' E' k yI => wpAny_pyIter_tuple ⟨o, k o ho, c9, n, hd⟩ yI) (fun A' I' hA dY => hl ▸ Walks.tuple hA I' p dY its.toArray) (fun h1 k => ⟨⟨_, Heap.get?_push_size _ rfl, rfl, rfl⟩, ⟨o, Heap.get?_push_of_some _ (k o ho), c9, n, hd⟩⟩) (sE rv) hb fin
noncomputable def vc (P : Program) (w : World) (K : PySem.W.Frag) : List V → Hp → VK → Prop := fun xs H Q => ∃ p ns, xs = [.ref p] ∧ (H p = some (m5 P w p ns) ∨ yG K H p ns) ∧ ns.length < 64 ∧ ∀ l, H l = none → Q (.ref l) (upd H l (.lst ((sortI ns).map V.int)))
theorem sF (hc : X.calm = true) : cL X (.builtin "sorted") (vc X.prog X.w X.K) := by
  intro pins s σ H xs us Q I r h
  obtain ⟨p, ns, rfl, hq, Hc, q⟩ := h
  obtain ⟨u, rfl, rx⟩ := vals1 r
  cases rx
  have hh := I.ok.hd hc
  refine wg (ns := ns) (fun QL Hk => ?_) Hc (fun h1 h' d' tk us e hI k1 k2 he => ?_)
  · rcases hq with hq | hq | hq
    · exact ub (by simp [hh]) (Ea I hq) (by have : sizeLine = 16777216 := sizeLine_eq; omega) Hk
    · obtain ⟨its, rv, pl, hz⟩ := I.list hq
      have hl := rv.length
      obtain ⟨o, ho, c9, n, hd⟩ := pl.isList
      exact mM ho c9 hd (.inl rfl) (fun h' k => Hk its ns h' s.drawn s.toks (we rv) (.refl _) k) (by omega)
    · obtain ⟨its, rv, pl, hz⟩ := I.tuple hq
      have hl := rv.length
      obtain ⟨o, ho, c9, n, hd⟩ := pl
      exact mM ho c9 hd (.inr rfl) (fun h' k => Hk its ns h' s.drawn s.toks (we rv) (.refl _) k) (by omega)
  · have I1 : Inv X pins σ H { s with heap := h1, drawn := d' } := (I.kept (t' := s.toks) k1).mX ⟨rfl, rfl, I.bare.self⟩
    have hsz : sizeLine = 16777216 := sizeLine_eq
    have ob : bw X.prog X.w (upd H h1.objs.size (.lst ((sortI ns).map V.int))) h' h1.objs.size (.lst ((sortI ns).map V.int)) := ⟨by rw [List.length_map, (sortI_perm ns).length_eq]; omega, us, e, ll hI, he⟩
    exact ⟨.ref h1.objs.size, _, I1.laid (t' := tk) k2 (Nat.le_refl _) ob, rfl, q _ (I1.hok.fresh (Nat.le_refl _))⟩
end
section
variable {X : Cx}
theorem wk {K : PySem.W.Frag} (h : X.K = K) (hc : X.calm = true) : cL X (.type "set") (sD X.prog X.w K) := h ▸ yH hc
end
theorem bw.there {P : Program} {w : World} {H : Hp} {h : Heap} {a : Addr} {o : HO} (x : bw P w H h a o) : ∃ u, h.get? a = some u := by
  cases o with
  | lst xs => obtain ⟨_, _, _, _, e⟩ := x; exact ⟨_, e⟩
  | tup xs => obtain ⟨_, _, _, ob, e, _⟩ := x; exact ⟨_, e⟩
  | dK bW => obtain ⟨_, _, _, _, o, _, _, e, _⟩ := x; exact ⟨_, e⟩
  | dT bW => obtain ⟨_, _, _, _, o, _, _, e, _⟩ := x; exact ⟨_, e⟩
  | set S n => obtain ⟨o, _, _, _, e, _⟩ := x; exact ⟨_, e⟩
  | ins C dx fs => obtain ⟨_, _, _, e, _⟩ := x; exact ⟨_, e⟩
  | own y => obtain ⟨_, e⟩ := x; exact ⟨_, e⟩
  | xd fs => obtain ⟨_, ⟨_, _, _, e, _⟩, _⟩ := x; exact ⟨_, e⟩
  | Cy lo hi => obtain ⟨_, _, _, e⟩ := x; exact ⟨_, e⟩
  | cU ob u => obtain ⟨e, _⟩ := x; exact ⟨_, e⟩
  | cu ps => exact ⟨_, x⟩
  | lam ps => exact ⟨_, x⟩
  | met f y => exact ⟨_, x⟩
  | ext φ => obtain ⟨_, ⟨_, e⟩, _⟩ := x; exact ⟨_, e⟩
noncomputable def cN (P : Program) (w : World) : eu := fun outer H s E e s' => ∃ (a C t : Addr) (B : Heap) (H' : Hp), e = .ref a ∧ s'.os = s.os ∧ Gn s.gens.size s'.gens ∧ Heap.FlyingW B outer a (.ref C) (.ref t) s'.heap ∧
  (∀ b o, s.heap.get? b = some o → b ∉ dJ outer → ∃ o', B.get? b = some o') ∧ (∀ b u, H' b = some u → ∃ o', B.get? b = some o') ∧ Un (dJ outer) [] H H' s.heap s'.heap ∧ di P w H' s'.heap ∧ E (.ref C) none H'
section
variable {X : Cx} {pins : List (Addr × Obj)} {σ : St} {H H1 : Hp} {s s1 : Shared} {B h' : Heap}
theorem Inv.jV (I : Inv X pins σ H s) {b : Addr} (h1 : b ≠ X.env.locals) (h2 : b ∉ X.fs) : b ∉ dJ X.stack := fun z => by
  rcases List.mem_cons.mp (I.fu b z) with q | q
  · exact h1 q
  · exact h2 q
theorem Inv.jq (I : Inv X pins σ H s) {b : Addr} {o : Obj} (e : X.s₀.heap.get? b = some o) : b ≠ X.env.locals := fun z => by
  have l := Heap.lt_size e
  have := I.ok.above
  rw [← z] at this
  exact absurd l (Nat.not_lt.mpr this)
theorem Inv.yJ (I1 : Inv X pins σ H1 s1) (I : Inv X pins σ H s) (c1 : ∀ b o, s1.heap.get? b = some o → b ∉ dJ X.stack → ∃ o', B.get? b = some o') (c2 : ∀ b u, H b = some u → ∃ o', B.get? b = some o')
    (k : B.StaysIn s.heap) (k' : B.StaysIn h') (up : s.heap.UpToSlots h') : Inv X pins σ H { s with heap := h' } := by
  have same : ∀ b o', (∃ o2, B.get? b = some o2) → s.heap.get? b = some o' → h'.get? b = some o' := fun b o' ⟨o2, e⟩ q => by
    have z := k b o2 e
    rw [q] at z
    cases z
    exact k' b _ e
  refine ⟨I.ok, I.os, I.bare, ⟨fun b o q n hb hx => ?_, fun b o q n hb hx => ?_, I.base.free, fun b o q hx => ?_, I.base.tups, I.base.frzs, I.base.tbls⟩, ?_, fun x c e => ?_, I.free, I.freeC, fun p hp => ?_, fun a o e => ?_, I.len⟩
  · exact same b o (c1 b o (I1.base.keep b o q n hb hx) (I.jV (I.jq q) hb)) (I.base.keep b o q n hb hx)
  · obtain ⟨sl, e⟩ := I.base.slot b o q n hb hx
    obtain ⟨_, o2, e2, nf⟩ := I.funs.mem hb
    rw [e] at e2
    cases e2
    obtain ⟨pZ, e4⟩ := up b { o with slots := sl } e nf
    exact ⟨pZ, e4⟩
  · obtain ⟨o', e⟩ := I.base.there b o q hx
    by_cases hb : b ∈ X.fs
    · obtain ⟨_, o2, e2, nf⟩ := I.funs.mem hb
      obtain ⟨sl, e3⟩ := up b _ e2 nf
      exact ⟨_, e3⟩
    · obtain ⟨o1, q1⟩ := I1.base.there b o q hx
      exact ⟨o', same b o' (c1 b o1 q1 (I.jV (I.jq q) hb)) e⟩
  · obtain ⟨m, hn, hl⟩ := I.loc
    refine ⟨m, up.ns hn, fun i x v a b c => ?_⟩
    obtain ⟨u, r, l⟩ := hl i x v a b c
    refine ⟨u, r, ?_⟩
    rcases l with l | ⟨kd, c, ec, o, ho, hd⟩
    · exact .inl l
    · obtain ⟨sl, e⟩ := up c o ho fun vs z => by rw [hd] at z; cases z
      exact .inr ⟨kd, c, ec, _, e, hd⟩
  · obtain ⟨v, o, ho, hd⟩ := I.cell x c e
    obtain ⟨sl, e⟩ := up c o ho fun vs z => by rw [hd] at z; cases z
    exact ⟨v, _, e, hd⟩
  · obtain ⟨p1, p2, p3, p4, p5⟩ := I.pin p hp
    exact ⟨same p.1 p.2 (c1 p.1 p.2 (I1.pin p hp).1 (I.jV p3 p4)) p1, p2, p3, p4, p5⟩
  · refine (I.hok a o e).bU (fun b u hb q => ?_) (fun _ q => q) fun _ _ q => q
    rcases hb with z | z
    · exact same b u (c2 b o (by rw [z]; exact e)) q
    · exact same b u (c2 b _ z) q
end
section
variable {P : Program} {w : World} {K : PySem.W.Frag} {mg : Str → Option Value} {base : Heap} {N : List Str} {qual : Str} {scope : Scope} {f : Addr} {cd : Value} {A : Around} {outer : List Env} {s0 : Shared} {H0 : Hp} {E : XK}
theorem oj : Passes (cN P w) (fo (cN P w) P w K mg base N qual scope f cd A outer s0 H0 E) E := by
  intro pins σ H s e s' I h
  obtain ⟨a, C, t, B, H', rfl, os, gn, fl, c1, c2, un, hok, q⟩ := h
  have I' := I.mh (ch := []) os un hok gn (fun b z => absurd z (by simp))
  refine wpAny_leaves_onW (cls := .ref C) (a0 := .ref t) I.ok.frames rfl fl fun h' sG up => ?_
  have I2 := I.yJ I' c1 c2 fl.1 sG.1 up
  refine ⟨a, C, t, B, H', rfl, I2.os, I2.bare, sG, fun b o e n => ?_, c2, I2.base, I2.hok, q⟩
  obtain ⟨o1, e1⟩ := I.base.there b o e (fun z => absurd (show b ∈ ([] : List Addr) from z) (by simp))
  exact c1 b o1 e1 (I.jV (I.jq e) n)
noncomputable def Raises (X : Cx) (E : XK) : Prop := ∀ (pins : List (Addr × Obj)) (σ : St) (H : Hp) (s : Shared) (C : Addr) (h' : Heap) (a : Addr) (vs : List Value), Inv X pins σ H s → Heap.MadeExcOf s.heap h' a (.ref C) vs → E (.ref C) none H → X.xe (.ref a) { s with heap := h' }
theorem yK : Raises (fo (cN P w) P w K mg base N qual scope f cd A outer s0 H0 E) E := by
  intro pins σ H s C h' a vs I hx q
  have c1 : ∀ b o, s.heap.get? b = some o → b ∉ dJ (fo (cN P w) P w K mg base N qual scope f cd A outer s0 H0 E).stack → ∃ o', (PySem.W.hideAll s.heap (dJ (fo (cN P w) P w K mg base N qual scope f cd A outer s0 H0 E).stack)).get? b = some o' :=
    fun b o e n => ⟨o, PySem.W.hideAll_get _ e n⟩
  have c2 : ∀ b u, H b = some u → ∃ o', (PySem.W.hideAll s.heap (dJ (fo (cN P w) P w K mg base N qual scope f cd A outer s0 H0 E).stack)).get? b = some o' := fun b u hu => by
    obtain ⟨o, e⟩ := (I.hok b u hu).there
    exact c1 b o e fun z => by rw [I.jL b z] at hu; cases hu
  have st : (PySem.W.hideAll s.heap (dJ (fo (cN P w) P w K mg base N qual scope f cd A outer s0 H0 E).stack)).StaysIn s.heap := fun b o e => PySem.W.of_hideAll _ e
  refine wpAny_leaves_madeW (cls := .ref C) I.ok.frames rfl st (PySem.W.funFrames_hide I.stack fun env he b hb => List.mem_filterMap.mpr ⟨env, he, hb⟩) hx fun Q1 t fl _ _ up => ?_
  have I2 := I.yJ I c1 c2 st fl.1 ((Heap.UpToSlots.of_keeps hx.keeps).trans up)
  refine ⟨a, C, t, _, H, rfl, I2.os, I2.bare, fl, fun b o e n => ?_, c2, I2.base, I2.hok, q⟩
  obtain ⟨o1, e1⟩ := I.base.there b o e (fun z => absurd (show b ∈ ([] : List Addr) from z) (by simp))
  exact c1 b o1 e1 (I.jV (I.jq e) n)
end
theorem Eb {K : PySem.W.Frag} {h : Heap} {C : Addr} {qt : List Value} {newId : String} (X : K.In h) (q : PySem.W.excIn K C qt newId = true) :
    ∃ bm Nn nm qn bs hd sn sub ab col dd k0 k1 k2 k3 k5 mN, h.get? C = some (excClassObj nm qn C Nn bs bm hd sn sub ab col dd k0 k1 k2 k3 k5 newId) ∧ h.Ns Nn mN ∧ mN "__init__" = none ∧ OwnTail h qt bm := by
  unfold PySem.W.excIn at q
  split at q
  case h_2 => cases q
  case h_1 dd cd sl ho =>
    split at q
    case h_2 => cases q
    case h_1 C' bm k0 k1 k2 k3 n k5 hm hs =>
      rw [Bool.and_eq_true, Bool.and_eq_true, Bool.and_eq_true, Bool.and_eq_true, Bool.and_eq_true] at q
      obtain ⟨⟨⟨⟨⟨q1, q2⟩, q3⟩, q4⟩, q5⟩, q6⟩ := q
      have e1 : C' = C := beq_iff_eq.mp q1
      have e2 : n = newId := beq_iff_eq.mp q2
      have e3 : cd.hasDel = false := by simpa using q3
      subst e1 e2
      obtain ⟨nm, bs, mro, ns, qn, hd, sn, sub, ab, col, del⟩ := cd
      dsimp only at hm e3 q5 q6
      subst hm e3
      have es : sl = #[k0, k1, k2, k3, some (.builtin n), k5] := by
        cases sl with
        | mk l => exact congrArg Array.mk hs
      subst es
      exact ⟨bm, ns, nm, qn, bs, hd, sn, sub, ab, col, dd, k0, k1, k2, k3, k5, _, X _ _ ho, Heap.Ns.of_isNs (PySem.W.isNs_of_in X q5), PySem.W.nsMap_none_of_in X q5 (beq_iff_eq.mp q6), PySem.W.tail_of_in X q4⟩
section
variable {X : Cx} {x : Str} {C : Addr} {jG : Expr} {rest : List Expr} {t : TA} {qt : List Value} {B newId sH : String} {E : XK} {np bu pos : Pos}
noncomputable def Hl (C : Addr) (E : XK) (t : TA) : TS := fun _ σ H => t σ H fun vs H1 => vs.length ≤ sizeLine ∧ E (.ref C) none H1
theorem Bd (O : PySem.W.excIn X.K C qt newId = true) (FB : ExcBaseFacts B newId sH qt) (hc : X.calm = true) (hR : Raises X E) (hg : Gl X x) (hm : X.mg x = some (.ref C)) (ha : PA X (jG :: rest) t)
    (cV : (x == ("__debug__" : Str)) = false := by decide) (he : starEach (jG :: rest) X.env = (false, eval jG X.env) :: starEach rest X.env := by rfl) (cy : (backTo bu (starEach rest X.env)).any (·.1) = false := by rfl) :
    PS X (.Raise (some (.Call (.Name x np) (jG :: rest) [] bu)) none pos) (Hl C E t) := by
  refine ⟨fun pins s σ H D I h => ?_⟩
  obtain ⟨bm, Nn, nm, qn, bs, hd, sn, sub, ab, col, dd, k0, k1, k2, k3, k5, mN, hC, hN, OT, T⟩ := Eb I.ok.mod.kin O
  have hp : (backTo bu (starEach (jG :: rest) X.env)).any (·.1) = false := by
    rw [he]
    exact cy
  have jr := ha bu pins s σ H _ I h
  rw [he] at jr
  refine wpAny_Raise_call_subT (C := C) (nm := nm) (q := qn) (N := Nn) (bs := bs) (bm := bm) (hdct := hd) (sn := sn) (sub := sub) (ab := ab) (col := col) (dd := dd) (k0 := k0) (k1 := k1) (k2 := k2) (k3 := k3) (k5 := k5) FB (mN := mN)
    (T.hasType FB.hasBase) (I.ok.hd hc) hp OT (iG I hg hm ⟨rfl, ?_⟩ cV)
  rw [he]
  refine Calls.evalArgs_plain (thn jr fun us s2 ⟨vs, H2, I2, r, l, q⟩ => ?_)
  exact ⟨rfl, by rw [← r.length]; exact l, I2.bk _ _ hC, hN.keeps I2.bk, T.keeps I2.bk, fun h' a hx => hR pins σ H2 s2 C h' a us I2 hx q⟩
end
end L2
namespace L2
open PySem PySem.Spec PyProof.Rows PySem.W Builtin Builtin.ObjectAttr Builtin.Getset_descriptor
noncomputable def ExcAt (C a : Addr) (h : Heap) : Prop := ∃ o vs, h.get? a = some o ∧ o.cls = .ref C ∧ o.data = .fields vs
noncomputable def m6 (C a : Addr) : HO := .ext (ExcAt C a)
theorem ExcAt.bU {C a : Addr} {h h' : Heap} (x : ExcAt C a h) (k : ∀ o, h.get? a = some o → h'.get? a = some o) : ExcAt C a h' := let ⟨o, vs, e, c, d⟩ := x; ⟨o, vs, k o e, c, d⟩
theorem Ec {P : Program} {w : World} {H : Hp} {h : Heap} {C a : Addr} (x : ExcAt C a h) : bw P w H h a (m6 C a) := ⟨x, let ⟨o, _, e, _⟩ := x; ⟨o, e⟩, fun _ _ y k => y.bU k⟩
structure eC (K : Frag) (C : Addr) : Prop where
  cls : (clsIn K C).isSome = true
  ga : findIn K (.ref C) "__getattribute__" = some (some (.builtin "BaseException.__getattribute__"))
  gt : findIn K (.ref C) "__getattr__" = some none
  cl : findIn K (.ref C) "__class__" = some (some (.builtin "object.__class__"))
  gg : specialIn K (.builtin "object.__class__") "__get__" = some (some (.builtin "getset_descriptor.__get__"))
  tk : takesIn K (.builtin "object.__class__") = some true
  ob : mroIn K C (.type "object") = some true
  be : mroIn K C (.type "BaseException") = some true
section
variable {K : Frag} {C a : Addr} {M : Model} {h : Heap}
theorem iX (x : ExcAt C a h) : Looks M h (typeOf (.ref a)) (.ref C) := by
  obtain ⟨o, vs, h1, h2, h3⟩ := x
  exact h2 ▸ (Looks.ld h1).andThen .now
theorem Be (X : K.In h) (E : eC K C) : Looks M h (find (.ref a) (.ref C) "__class__") (.bind (.builtin "getset_descriptor.__get__") (.builtin "object.__class__")) := by
  refine (looks_findIn X E.cl).andThen (Looks.andThen (show Looks M h (getOf (some (.builtin "object.__class__"))) (some (.builtin "getset_descriptor.__get__")) from looks_specialIn X E.gg) ?_)
  have l3 : Looks M h (dataDescriptor? (some (.builtin "object.__class__")) (some (.builtin "getset_descriptor.__get__"))) (some (.builtin "getset_descriptor.__get__", .builtin "object.__class__")) := (looks_takesIn X E.tk).andThen .now
  exact l3.andThen (Looks.tag .now)
theorem wm (X : K.In h) (E : eC K C) : Looks M h (isType (.ref C)) true := by
  have z := E.cls
  unfold clsIn at z
  split at z
  case h_2 => cases z
  case h_1 ho =>
    intro A Q E s k q
    unfold isType loadHead
    exact wpAny_bind (m := loadPart _ _) (wpAny_loadPart (k _ _ (X _ _ ho)) (wpAny_pure q))
theorem yL (X : K.In h) (E : eC K C) {tp : Addr} {dd : Option Addr} {its : List Value} {n : Nat} {sl : Array (Option Value)} (e : h.get? tp = some ⟨.type "tuple", dd, .seq its.toArray n, sl⟩) : (Value.ref C == Value.ref tp) = false := by
  refine Bool.eq_false_iff.mpr fun q => ?_
  cases Value.ref.inj (beq_iff_eq.mp q)
  have z := E.cls
  unfold clsIn at z
  split at z
  case h_2 => cases z
  case h_1 ho => cases (X _ _ ho).symm.trans e
end
section
variable {K : Frag} {C a : Addr} {prog : Program} {w : World} {A : Around} {s : Shared} {R : Result → Shared → Prop} {EE : Value → Shared → Prop}
theorem qS {tp : Value} (X : K.In s.heap) (E : eC K C) (x : ExcAt C a s.heap) (q : R (.ok (.ret (.ref C))) s) : codeAny (model prog w) A (.call (.builtin "getset_descriptor.__get__") ⟨[.builtin "object.__class__", .ref a, tp], []⟩) R s := by
  obtain ⟨hh, g, dr, t, os⟩ := s
  have L0 := iX (M := model prog w) x
  have L1 := looks_mroIn (M := model prog w) X E.ob
  have ck := KF.slot_gs.check (model prog w)
  refine codeAny_call_builtin KF.slot_gs.plain KF.entry_gs (ck _ _ _ _ _ _ _ KF.type_class (KF.args_gs _ _ _) ?_)
  unfold Builtin.«getset_descriptor.__get__» descrGet
  rw [dga_obj]
  refine wpAny_bind (m := pure _) (wpAny_pure ?_)
  unfold descrGetter descrCheckInstance descrNameAndClass
  unfold isInstance
  simp only [KF.owner_class]
  repeat lk
  refine ⟨Code.quiet_builtin _ (by decide +kernel), codeAny_builtin KF.entry_class ?_⟩
  unfold Builtin.«object.__class__»
  unfold shownTypeOf
  repeat lk
  exact q
theorem sI {nv : Value} {Q : Unit → Shared → Prop} (X : K.In s.heap) (E : eC K C) (x : ExcAt C a s.heap) (q : Q () s) : wpAny (model prog w) A (checkBuiltinCall "BaseException.__getattribute__" ⟨[.ref a, nv], []⟩) Q EE s := by
  have e1 : builtinKind "BaseException.__getattribute__" = some .slot := by decide +kernel
  have e2 : splitId "BaseException.__getattribute__" = some ("BaseException", "__getattribute__") := by decide +kernel
  have Qy := F.args_bexc_ga (.ref a) nv
  have L0 := iX (M := model prog w) x
  have L1 := looks_mroIn (M := model prog w) X E.be
  obtain ⟨hh, g, dr, t, os⟩ := s
  simp only [checkBuiltinCall, e1, e2]
  refine wpAny_bind ?_
  unfold isInstance
  repeat lk
  exact q
theorem oZ {Q : Option Value → Shared → Prop} (X : K.In s.heap) (E : eC K C) (x : ExcAt C a s.heap) (q : Q (some (.ref C)) { s with toks := s.toks + 1 }) : wpAny (model prog w) A (getAttr? (.ref a) "__class__") Q EE s := by
  obtain ⟨hh, g, d, t, os⟩ := s
  have L0 := iX (M := model prog w) x
  have L1 := looks_findIn (M := model prog w) X E.ga
  have L2 := looks_findIn (M := model prog w) X E.gt
  have dY : (onTheHeap (Value.ref C) && Value.builtin "BaseException.__getattribute__" == Value.builtin "object.__getattribute__") = false := by
    rw [show (Value.builtin "BaseException.__getattribute__" == Value.builtin "object.__getattribute__") = false from by decide +kernel]
    rfl
  unfold getAttr? getAttrBy?
  refine wpAny_bind (wpAny_mkText (wpAny_bind (m := (getAttrBy _ _ _).attempt) (wpAny_attempt ?_)))
  unfold getAttrBy
  refine wpAny_holding (wpAny_bind (m := typeOf _) (L0.at (wpAny_bind (m := typeLookup _ _) (L1.at ?_))))
  simp only [dY, Bool.false_eq_true, if_false]
  unfold getAttrByItsOwn hookBefore
  refine wpAny_bind (L2.at ?_)
  refine wpAny_bind (wpAny_attempt (wpAny_holding ?_))
  unfold callGetattribute boundAndCalled
  simp only [Bool.false_and, Bool.false_eq_true, if_false]
  refine wpAny_bind (m := bindSpecial _ _) (wpAny_of_eq (F.attr_ValueError.ga.bind (.ref a)) ?_)
  have L3 := Be (M := model prog w) (a := a) X E
  refine wpAny_call (codeAny_call_builtin F.attr_ValueError.ga.plain F.entry_bexc_ga (sI X E x ?_))
  unfold Builtin.«object.__getattribute__»
  iterate 9 lk
  refine wpAny_bind (m := attrName _) (wpAny_pure (wpAny_bind (m := typeOf _) (L0.at (wpAny_bind (m := find _ _ _) (L3.at ?_)))))
  show wpAny _ _ (holding [Value.builtin "object.__class__"] (call (.builtin "getset_descriptor.__get__") [.builtin "object.__class__", .ref a, .ref C]) >>= ret) _ _ _
  refine wpAny_bind (m := holding _ _) (wpAny_holding (wpAny_call (qS X E x ?_)))
  exact wpAny_pure (handed_on rfl (wpAny_pure q))
end
theorem m7 {K : Frag} {C a : Addr} (E : eC K C) : KitX K (.ref a) (.ref C) (ExcAt C a) where
  ty := fun _ _ _ x => iX x
  it := fun _ _ X _ => wm X E
  ne := fun _ _ _ _ _ _ X e => yL X E e
  ca := fun X x q => oZ X E x q
theorem qu : ∀ {Ds : List Addr} {us : List Value}, Vals (Ds.map V.ref) us → us = Ds.map Value.ref
  | [], _, .nil => rfl
  | D :: Ds, _, .cons r t => by
    cases (show _ = Value.ref D from r)
    rw [qu t]
    rfl
section
variable {X : Cx}
noncomputable def Np (K : Frag) : List V → Hp → VK → Prop := fun xs H Q => ∃ a C b, H a = some (m6 C a) ∧ eC K C ∧
  ((∃ D, xs = [.ref a, .ref D] ∧ kitOne K (.ref C) (.ref D) = some b) ∨ (∃ T, xs = [.ref a, .ty T] ∧ kitOne K (.ref C) (.type T) = some b) ∨ ∃ (tp : Addr) (Ds : List Addr), xs = [.ref a, .ref tp] ∧ H tp = some (.tup (Ds.map V.ref)) ∧ kitAny K (.ref C) (Ds.map Value.ref) = some b) ∧ Q (.bl b) H
theorem Bf {K : Frag} (hK : X.K = K) : cL X (.builtin "isinstance") (Np K) := by
  subst hK
  intro pins s σ H xs us Q I r h
  obtain ⟨a, C, b, ha, E, h, q⟩ := h
  have x : ExcAt C a s.heap := (I.hok a _ ha).1
  have fin : ∀ tk, EP X pins σ Q (.bool b) { s with toks := tk } := fun tk => ⟨.bl b, H, I.tok tk, rfl, q⟩
  rcases h with ⟨D, rfl, e⟩ | ⟨T, rfl, e⟩ | ⟨tp, Ds, rfl, ht, e⟩
  · obtain ⟨u, w', rfl, r1, r2⟩ := vals2 r
    cases (show u = Value.ref a from r1)
    cases (show w' = Value.ref D from r2)
    exact kia_one (m7 E) I.ej x e (fun z => nomatch z) fin
  · obtain ⟨u, w', rfl, r1, r2⟩ := vals2 r
    cases (show u = Value.ref a from r1)
    cases (show w' = Value.type T from r2)
    exact kia_one (m7 E) I.ej x e (fun z => nomatch z) fin
  · obtain ⟨u, w', rfl, r1, r2⟩ := vals2 r
    cases (show u = Value.ref a from r1)
    cases (show w' = Value.ref tp from r2)
    obtain ⟨_, its, rv, ob, ho, hc, n, hd, _⟩ := I.hok tp _ ht
    have ei := qu rv
    subst ei
    obtain ⟨c, dd, dt, sl⟩ := ob
    dsimp only at hc hd
    subst hc hd
    exact kia_tup (m7 E) I.ej x ho e (fun z => nomatch z) fin
end
end L2
namespace L2
open PySem PySem.Spec PyProof.Rows PySem.W
noncomputable def blank (n : Nat) : St := List.replicate n none
theorem sJ {n i : Nat} {v : V} (h : (blank n)[i]? = some (some v)) : False := by
  unfold blank at h
  rw [List.getElem?_replicate] at h
  split at h <;> cases h
noncomputable abbrev Cx.j8 (X : Cx) (T : Value → Shared → Prop) (pn : List (Addr × Obj)) : Cx := { X with xe := T, pn := pn }
noncomputable abbrev Cx.suite (X : Cx) (a : Addr) : Cx := { X with A := X.A.mark (some (.ref a)), calm := false, xe := fun _ _ => False }
section
variable {X : Cx} {pins pins' : List (Addr × Obj)} {σ : St} {H : Hp} {s : Shared} {T : Value → Shared → Prop}
theorem Inv.j8 (I : Inv X pins σ H s) (T : Value → Shared → Prop) : Inv (X.j8 T (X.pn ++ pins)) [] σ H s :=
  ⟨⟨I.ok.mod, I.ok.kind, I.ok.glob, I.ok.blt, I.ok.above, I.ok.inj, I.ok.has, I.ok.cab, I.ok.hd, I.ok.frames, I.ok.stk, I.ok.exf, I.ok.bs, I.ok.bsz, I.ok.noex, I.ok.exfs, I.ok.funs, I.ok.frf⟩,
    I.os, I.bare, I.base, I.loc, I.cell, I.free, I.freeC, fun p hp => I.pin p (by simpa using hp), I.hok, I.len⟩
theorem Inv.lu (J : Inv (X.j8 T (X.pn ++ pins)) pins' σ H s) : Inv X pins σ H s :=
  ⟨⟨J.ok.mod, J.ok.kind, J.ok.glob, J.ok.blt, J.ok.above, J.ok.inj, J.ok.has, J.ok.cab, J.ok.hd, J.ok.frames, J.ok.stk, J.ok.exf, J.ok.bs, J.ok.bsz, J.ok.noex, J.ok.exfs, J.ok.funs, J.ok.frf⟩,
    J.os, J.bare, J.base, J.loc, J.cell, J.free, J.freeC, fun p hp => J.pin p (List.mem_append_left _ hp), J.hok, J.len⟩
theorem Inv.suite (I : Inv X pins σ H s) (a : Addr) : Inv (X.suite a) pins σ H s :=
  ⟨⟨I.ok.mod, I.ok.kind, I.ok.glob, I.ok.blt, I.ok.above, I.ok.inj, I.ok.has, I.ok.cab, (fun z => nomatch z), I.ok.frames, I.ok.stk, I.ok.exf, I.ok.bs, I.ok.bsz, I.ok.noex, I.ok.exfs, I.ok.funs, I.ok.frf⟩,
    I.os, I.bare, I.base, I.loc, I.cell, I.free, I.freeC, I.pin, I.hok, I.len⟩
theorem Inv.Ed {a : Addr} (ok : X.Ok) (J : Inv (X.suite a) pins σ H s) : Inv X pins σ H s :=
  ⟨ok, J.os, J.bare, J.base, J.loc, J.cell, J.free, J.freeC, J.pin, J.hok, J.len⟩
theorem Inv.blank (I : Inv X pins σ H s) : Inv X pins (blank X.N.length) H s := by
  refine ⟨I.ok, I.os, I.bare, I.base, ?_, I.cell, I.free, I.freeC, I.pin, I.hok, by unfold L2.blank; simp⟩
  obtain ⟨m, hn, _⟩ := I.loc
  exact ⟨m, hn, fun i x v _ e => (sJ e).elim⟩
theorem Inv.lost {h' : Heap} {m' : Str → Option Value} {t' : Nat} (I : Inv X pins σ H s) (hn : h'.Ns X.env.locals m') (sb : Heap.SameBut X.env.locals s.heap h') : Inv X pins (L2.blank X.N.length) H { s with heap := h', toks := t' } := by
  have mv : ∀ b o, b ≠ X.env.locals → s.heap.get? b = some o → h'.get? b = some o := fun b o n e => (sb.2 b n).trans e
  refine ⟨I.ok, I.os, I.bare, ⟨fun b o q n hb hx => mv b o (I.jq q) (I.base.keep b o q n hb hx), fun b o q n hb hx => ?_, I.base.free, fun b o q hx => ?_, I.base.tups, I.base.frzs, I.base.tbls⟩,
    ⟨m', hn, fun i x v _ e => (sJ e).elim⟩, fun x c e => ?_, I.free, I.freeC, fun p hp => ?_, fun a o e => ?_, by unfold L2.blank; simp⟩
  · obtain ⟨sl, e⟩ := I.base.slot b o q n hb hx
    exact ⟨sl, mv b _ (I.jq q) e⟩
  · obtain ⟨o', e⟩ := I.base.there b o q hx
    exact ⟨o', mv b _ (I.jq q) e⟩
  · obtain ⟨v, o, ho, hd⟩ := I.cell x c e
    exact ⟨v, o, mv c o (I.nF x c e) ho, hd⟩
  · obtain ⟨p1, p2, p3, p4, p5⟩ := I.pin p hp
    exact ⟨mv _ _ p3 p1, p2, p3, p4, p5⟩
  · refine (I.hok a o e).bU (fun b u hb q => mv b u (fun z => ?_) q) (fun _ q => q) fun _ _ q => q
    have fr := I.free
    rw [← z] at fr
    rcases hb with y | y
    · rw [y, e] at fr; cases fr
    · rw [y] at fr; cases fr
theorem Inv.CY {a : Addr} {o : HO} (I : Inv X pins σ H s) (n0 : H a = none) (n1 : X.s₀.heap.get? a = none) (n2 : a ≠ X.env.locals) (n3 : ∀ x c, X.env.cells.lookup x = some c → c ≠ a) (n4 : ∀ p ∈ X.pn ++ pins, p.1 ≠ a)
    (ob : bw X.prog X.w (upd H a o) s.heap a o) : Inv X pins σ (upd H a o) s := by
  have un : ∀ b u, H b = some u → upd H a o b = some u := fun b u e => by rw [ak (a9 e n0)]; exact e
  refine ⟨I.ok, I.os, I.bare, ⟨I.base.keep, I.base.slot, fun b u q n hx => ?_, I.base.there, fun b xs e => un _ _ (I.base.tups b xs e), fun b u v e => un _ _ (I.base.frzs b u v e), fun b ps e => ?_⟩, I.loc, I.cell, ?_, fun x c e => ?_, fun p hp => ?_, fun b u e => ?_, I.len⟩
  · rw [ak (fun z => by rw [z, n1] at q; cases q)]
    exact I.base.free b u q n hx
  · obtain ⟨more, z⟩ := I.base.tbls b ps e
    exact ⟨more, un _ _ z⟩
  · rw [ak (Ne.symm n2)]
    exact I.free
  · rw [ak (n3 x c e)]
    exact I.freeC x c e
  · obtain ⟨p1, p2, p3⟩ := I.pin p hp
    exact ⟨p1, by rw [ak (n4 p hp)]; exact p2, p3⟩
  · by_cases hb : b = a
    · subst hb
      rw [aC] at e
      cases e
      exact ob
    · rw [ak hb] at e
      exact (I.hok b u e).bU (fun _ _ _ q => q) (fun c q => un _ _ q) fun c xs q => un _ _ q
end
structure js (K : Frag) (C0 : Addr) : Prop where
  ty : typeIn K (.ref C0) = some (.type "type")
  be : subIn K (.ref C0) (.type "BaseException") = some true
  it : (clsIn K C0).isSome = true
theorem yM {K : Frag} {C C0 a : Addr} {M : Model} {A : Around} {E : Value → Shared → Prop} {s : Shared} {Q : Bool → Shared → Prop} (X : K.In s.heap) (O : js K C0) (e : subIn K (.ref C) (.ref C0) = some true) (x : ExcAt C a s.heap) (q : Q true s) :
    wpAny M A (excMatches (.ref a) (.ref C0)) Q E s := by
  obtain ⟨hh, g, d, t, os⟩ := s
  have L0 := iX (M := M) x
  have L1 := looks_typeIn (M := M) X O.ty
  have L2 := looks_subIn (M := M) X O.be
  have L3 := looks_subIn (M := M) X e
  have L4 : Looks M hh (isSubtype (.type "type") (.type "tuple")) false := Looks.of_pure tc_notTuple
  have L5 : Looks M hh (isType (.ref C0)) true := by
    have z := O.it
    unfold clsIn at z
    split at z
    case h_2 => cases z
    case h_1 ho =>
      intro A Q E s k q
      unfold isType loadHead
      exact wpAny_bind (m := loadPart _ _) (wpAny_loadPart (k _ _ (X _ _ ho)) (wpAny_pure q))
  unfold excMatches
  unfold isInstance isExcClass
  repeat lk
  exact q
noncomputable def Hm (K : Frag) (C0 : Addr) (i n : Nat) (th : TS) (D : Ends) : XK := fun cls _ H' => ∃ C, cls = .ref C ∧ subIn K (.ref C) (.ref C0) = some true ∧ ∀ a, H' a = none →
  th { nx := fun _ H2 => D.nx (blank n) H2, rt := D.rt, bk := fun _ H2 => D.bk (blank n) H2, ct := fun _ H2 => D.ct (blank n) H2 } ((blank n).set i (some (.ref a))) (upd H' a (m6 C a))
noncomputable def Nq (K : Frag) (C0 : Addr) (i n : Nat) (tb : XK → TS) (th : TS) : TS := fun D σ H => tb (Hm K C0 i n th D) D σ H
section
variable {X : Cx} {body suite : List Stmt} {x n : Str} {i : Nat} {np sL pos : Pos} {o3 : Stmt} {C0 : Addr} {tb : XK → TS} {th : TS}
theorem Hn (hN : X.N.Nodup) (hi : X.N[i]? = some n) (hl : X.env.scope.names.lookup n = some .local) (ig : X.stack = X.env :: X.outer ∧ X.env.frame = some X.env.locals) (hex : X.ex = []) (O : js X.K C0) (hg : Gl X x) (hm : X.mg x = some (.ref C0))
    (hb : ∀ (T : Value → Shared → Prop) (pn : List (Addr × Obj)) (E : XK), Passes (cN X.prog X.w) (X.j8 T pn) E → eJ (X.j8 T pn) body (tb E)) (hs : ∀ a : Addr, eJ (X.suite a) (o3 :: suite) th)
    (cV : (x == ("__debug__" : Str)) = false := by decide) :
    PS X (.Try body [.ExceptHandler (some (.Name x np)) (some n) (o3 :: suite) sL] [] [] pos) (Nq X.K C0 i X.N.length tb th) := by
  refine ⟨fun pins s σ H D I h => ?_⟩
  refine wpAny_Try_except ?_
  have hp : Passes (cN X.prog X.w) (X.j8 (fun e au => wpAny (model X.prog X.w) X.A (noteFrame e X.env) (fun _ jE => wpAny (model X.prog X.w) X.A (setFlight e none) (fun _ gE => wpAny (model X.prog X.w) X.A (handleBy e X.env [.ExceptHandler (some (.Name x np)) (some n) (o3 :: suite) sL]) (SP X pins D) X.xe gE) X.xe jE) X.xe au) (X.pn ++ pins)) (Hm X.K C0 i X.N.length th D) := by
    intro pins' mF H1 s1 e s' J1 OU
    obtain ⟨a, C, t, B, H', rfl, os, gn, fl, c1, c2, un, hok, C', ec, j6, q⟩ := OU
    cases ec
    have I1 := J1.lu
    have I' := I1.mh (ch := []) os un hok gn (fun b z => absurd z (by simp))
    have fr : X.A.frames = some (X.env :: X.outer) := I.ok.frames.trans (congrArg some ig.1)
    have sG : Heap.FlyingW B (X.env :: X.outer) a (.ref C) (.ref t) s'.heap := ig.1 ▸ fl
    refine wpAny_looks_onW fr ig.2 sG fun h4 held LD => ?_
    refine wpAny_landsW held fun h5 Ho LI => ?_
    have I5 := I1.yJ I' c1 c2 fl.1 Ho.1 (LD.trans LI)
    have Y5 := I5.suite a
    have OV : ExcAt C a h5 := let ⟨oe, vs, e1, e2, e3, _⟩ := Ho.first; ⟨oe, vs, e1, e2, e3⟩
    refine wpAny_handleBy_cons (codeAny_handlers_test (iG Y5 hg hm (yM Y5.ej O j6 OV ?_) cV)) (fun z => nomatch z)
    refine codeAny_handlers_suite_as (lands_againW Ho fun h6 LJ OW => ?_)
    have I6 := I1.yJ I' c1 c2 fl.1 LJ.1 ((LD.trans LI).trans OW)
    have LK : ExcAt C a h6 := let ⟨oe, vs, e1, e2, e3, _⟩ := LJ.first; ⟨oe, vs, e1, e2, e3⟩
    obtain ⟨oe, vs, e1, e2, e3⟩ := id LK
    have OX : a ∉ dJ X.stack := fun z => by
      obtain ⟨_, o2, q1, q2⟩ := I6.stack.mem z
      rw [e1] at q1
      cases q1
      exact q2 _ e3
    have nb : ∀ o, s1.heap.get? a ≠ some o := fun o z => by
      obtain ⟨o', z'⟩ := c1 a o z OX
      rw [fl.2.1] at z'
      cases z'
    have nH : H' a = none := by
      cases z : H' a with
      | none => rfl
      | some u =>
        obtain ⟨o', z'⟩ := c2 a u z
        rw [fl.2.1] at z'
        cases z'
    have nL : a ≠ X.env.locals := fun z => by
      obtain ⟨m, ⟨o, es, ep, ho, hd, _⟩, _⟩ := I6.loc
      rw [← z, e1] at ho
      cases ho
      rw [e3] at hd
      cases hd
    have I7 : Inv X pins (blank X.N.length) (upd H' a (m6 C a)) { s' with heap := h6 } := I6.blank.CY nH
      (by
        cases z : X.s₀.heap.get? a with
        | none => rfl
        | some o =>
          obtain ⟨o1, q1⟩ := I1.base.there a o z (by rw [hex]; simp)
          exact (nb _ q1).elim)
      nL
      (fun y c ec z => by
        obtain ⟨v, o, ho, hd⟩ := I6.cell y c ec
        rw [z, e1] at ho
        cases ho
        rw [e3] at hd
        cases hd)
      (fun p hp z => by
        have := (I1.pin p hp).1
        rw [z] at this
        exact (nb _ this).elim)
      (Ec LK)
    refine store_ok2 I7 hN hi (.inl hl) (v := .ref a) rfl (fun s8 I8 _ => ?_) (.inr hl)
    refine wpAny_mono ((hs a).run pins s8 _ _ _ (I8.suite a) (q a nH)) (fun f s9 r => ?_) (fun _ _ z => z.elim)
    have fin : ∀ {vd : St} {H9 : Hp}, Inv (X.suite a) pins vd H9 s9 → (∀ ve, Inv X pins (blank X.N.length) H9 ve → SP X pins D f ve) → wpAny (model X.prog X.w) X.A (do bindName X.env n .none; unbindBehindTheSuite X.env n sL) (fun _ Nr => SP X pins D f Nr) X.xe s9 := fun {vd H9} Y9 k => by
      have I9 := Y9.Ed I.ok
      obtain ⟨m, hn, _⟩ := id I9.loc
      exact wpAny_nameGoes hl hn (by rw [I.ok.kind]; rfl) fun h' m' rJ sb => k _ (I9.lost rJ sb)
    cases f with
    | next => obtain ⟨vd, H9, Y9, z⟩ := r; exact fin Y9 fun ve J => ⟨_, H9, J, z⟩
    | brk => obtain ⟨vd, H9, Y9, z⟩ := r; exact fin Y9 fun ve J => ⟨_, H9, J, z⟩
    | cont => obtain ⟨vd, H9, Y9, z⟩ := r; exact fin Y9 fun ve J => ⟨_, H9, J, z⟩
    | ret u => obtain ⟨v, vd, H9, Y9, rv, z⟩ := r; exact fin Y9 fun ve J => ⟨v, _, H9, J, rv, z⟩
  have cc := hb _ (X.pn ++ pins) _ hp
  refine wpAny_mono (cc.run [] s σ H D (I.j8 _) h) (fun f s1 q => ?_) (fun e s1 q => q)
  have q2 : SP X pins D f s1 := by
    cases f with
    | next => obtain ⟨aA, H', J, z⟩ := q; exact ⟨aA, H', J.lu, z⟩
    | brk => obtain ⟨aA, H', J, z⟩ := q; exact ⟨aA, H', J.lu, z⟩
    | cont => obtain ⟨aA, H', J, z⟩ := q; exact ⟨aA, H', J.lu, z⟩
    | ret u => obtain ⟨v, aA, H', J, r, z⟩ := q; exact ⟨v, aA, H', J.lu, r, z⟩
  cases f with
  | next => exact wpAny_pure q2
  | _ => exact q2
end
theorem qa.yn {P : Program} {w : World} {K : PySem.W.Frag} {mg : Str → Option Value} {base : Heap} {x qual : Str} {st : Stmt} {f : Addr} {fd : FuncData} {N ps : List Str} {k : Nat} {sp : Sp} (F : qa K x qual st f fd) (S : aQ N ps (ai st)) (len : ∀ vs H Q E, sp vs H Q E → vs.length = ps.length)
    (ir : ∀ (A : Around) (outer : List Env) (s : Shared) (H : Hp) (vs : List V) (Q : VK) (E : XK), bC k (A.deeper (envOfC qual (ai st) s.heap.objs.size f fd.code)) → sp vs H Q E →
      ∃ t, eJ (fo (cN P w) P w K mg base N qual (ai st) f fd.code A outer s H E) (bD st) t ∧ t { nx := fun _ H' => Q .ao H', rt := Q } (start N vs) H) : FnOk P w K mg base (cN P w) (k + 1) f fd ps sp := by
  obtain ⟨oc, od, kV, doc, pm, an, bK, ct, gh, rfl, lk, dM⟩ := F.ex
  exact CL lk dM S len fun A outer s H vs Q E hr gV => ir A outer s H vs Q E hr gV
noncomputable def LL : List Value := [.type "ValueError", .type "Exception", .type "BaseException", .type "object"]
noncomputable def Bg (K : Frag) (C0 C : Addr) : Bool := excIn K C LL "ValueError.__new__" && (clsIn K C).isSome && findIn K (.ref C) "__getattribute__" == some (some (.builtin "BaseException.__getattribute__")) && findIn K (.ref C) "__getattr__" == some none &&
  findIn K (.ref C) "__class__" == some (some (.builtin "object.__class__")) && mroIn K C (.type "object") == some true && mroIn K C (.type "BaseException") == some true && subIn K (.ref C) (.ref C0) == some true && kitOne K (.ref C) (.type "ValueError") == some true
noncomputable def wo (K : Frag) (C0 : Addr) (cs : List Addr) : Bool := cs.all (Bg K C0) && (cs.all fun C => cs.all fun D => kitOne K (.ref C) (.ref D) == some (decide (C = D))) && specialIn K (.builtin "object.__class__") "__get__" == some (some (.builtin "getset_descriptor.__get__")) && takesIn K (.builtin "object.__class__") == some true &&
  typeIn K (.ref C0) == some (.type "type") && subIn K (.ref C0) (.type "BaseException") == some true && (clsIn K C0).isSome
structure o4 (K : Frag) (C0 : Addr) (cs : List Addr) : Prop where
  ex : ∀ C ∈ cs, excIn K C LL "ValueError.__new__" = true
  cl : ∀ C ∈ cs, eC K C
  sub : ∀ C ∈ cs, subIn K (.ref C) (.ref C0) = some true
  one : ∀ C ∈ cs, ∀ D ∈ cs, kitOne K (.ref C) (.ref D) = some (decide (C = D))
  val : ∀ C ∈ cs, kitOne K (.ref C) (.type "ValueError") = some true
  top : js K C0
theorem Ee {K : Frag} {C0 : Addr} {cs : List Addr} (h : wo K C0 cs = true) : o4 K C0 cs := by
  unfold wo at h
  simp only [Bool.and_eq_true] at h
  obtain ⟨⟨⟨⟨⟨⟨h1, h2⟩, h3⟩, h4⟩, h5⟩, h6⟩, h7⟩ := h
  have all : ∀ C ∈ cs, Bg K C0 C = true := List.all_eq_true.mp h1
  have part : ∀ C ∈ cs, _ := fun C hC => by
    have z := all C hC
    unfold Bg at z
    simp only [Bool.and_eq_true] at z
    exact z
  refine ⟨fun C hC => (part C hC).1.1.1.1.1.1.1.1, fun C hC => ?_, fun C hC => beq_iff_eq.mp (part C hC).1.2, fun C hC D hD => beq_iff_eq.mp (List.all_eq_true.mp (List.all_eq_true.mp h2 C hC) D hD), fun C hC => beq_iff_eq.mp (part C hC).2, ⟨beq_iff_eq.mp h5, beq_iff_eq.mp h6, h7⟩⟩
  obtain ⟨⟨⟨⟨⟨⟨⟨⟨_, p1⟩, p2⟩, p3⟩, p4⟩, p5⟩, p6⟩, _⟩, _⟩ := part C hC
  exact ⟨p1, beq_iff_eq.mp p2, beq_iff_eq.mp p3, beq_iff_eq.mp p4, beq_iff_eq.mp h3, beq_iff_eq.mp h4, beq_iff_eq.mp p5, beq_iff_eq.mp p6⟩
end L2
namespace L2
open PySem PySem.Spec PyProof.Rows Builtin.SmallTypes
noncomputable def fI (k : Bool) (h : Heap) (it a : Addr) (i : Nat) : Prop := if k = true then h.IsListIter it a i else h.IsTupleIter it a i
noncomputable def m8 (k : Bool) (h : Heap) (a : Addr) (items : Array Value) : Prop := if k = true then h.IsList a items else h.IsTuple a items
theorem fI.at {k : Bool} {h h' : Heap} {it a : Addr} {i : Nat} (x : fI k h it a i) (q : ∀ o, h.get? it = some o → h'.get? it = some o) : fI k h' it a i := by
  cases k with
  | true => exact Heap.IsListIter.at (h := h) x q
  | false => exact Heap.IsTupleIter.at (h := h) x q
theorem fI.obj {k : Bool} {h : Heap} {it a : Addr} {i : Nat} (x : fI k h it a i) : ∃ o, h.get? it = some o ∧ ∃ vs, o.data = .fields vs := by
  cases k with
  | true => obtain ⟨o, e, _, d⟩ := (show h.IsListIter it a i from x); exact ⟨o, e, _, d⟩
  | false => obtain ⟨o, e, _, d⟩ := (show h.IsTupleIter it a i from x); exact ⟨o, e, _, d⟩
section
variable {prog : Program} {w : World} {A : Around} {E : Value → Shared → Prop} {s : Shared} {it a : Addr} {i : Nat} {items : Array Value} {x : Value} {k : Bool}
theorem Bh {Q : Option Value → Shared → Prop} (hit : s.heap.IsTupleIter it a i) (ha : s.heap.IsTuple a items) (hx : items[i]? = some x)
    (hQ : ∀ h', h'.IsTupleIter it a (i + 1) → Heap.SameBut it s.heap h' → Q (some x) { s with heap := h' }) : wpAny (model prog w) A (callSpecial? (.ref it) "__next__") Q E s := by
  obtain ⟨o, ho, hc, hd⟩ := id hit
  obtain ⟨ol, sv, _, nl, Hq⟩ := ha
  have sl := F.slot_tuple_iterator_next
  refine wpAny_callSpecial?_slot (name := Str.ofString "__next__") hit.typeIs sl (wpAny_call_entry sl hit.typeIs F.entry_tuple_iterator_next ?_ (F.args_tuple_iterator_next_1 _))
  have nn : ¬ ((Value.ref a == Value.none) = true) := Bool.false_ne_true
  refine wpAny_bind (m := field (.ref it) 0) (wpAny_field ho hd (x := .ref a) rfl ?_)
  rw [if_neg nn]
  refine wpAny_bind (m := field (.ref it) 1) (wpAny_field ho hd (x := .int i 0) rfl (wpAny_bind (m := seqItems? (.ref a)) (wpAny_seqItems sv Hq ?_)))
  simp only [Int.toNat_natCast, hx]
  refine wpAny_bind (m := setField _ _ _) (wpAny_setField ho hd (by simp) (wpAny_pure ⟨x, rfl, hQ _ ?_ (Heap.SameBut.update ..)⟩))
  refine ⟨_, Heap.get?_update_self _ ho (Obj.isFreed_of_fields (Obj.data_mapFields hd _)), (Obj.cls_mapFields ..).trans hc, ?_⟩
  rw [Obj.data_mapFields hd]
  simp [rawInt]
theorem Bi {Q : Option Value → Shared → Prop} (hh : A.handled = none) (hit : s.heap.IsTupleIter it a i) (ha : s.heap.IsTuple a items) (hx : items[i]? = none)
    (hE : ∀ h' e, Heap.ExtBut it s.heap h' → (∃ o, h'.get? e = some o ∧ o.cls = .type "StopIteration") → E (.ref e) { s with heap := h' }) : wpAny (model prog w) A (callSpecial? (.ref it) "__next__") Q E s := by
  obtain ⟨o, ho, hc, hd⟩ := id hit
  obtain ⟨ol, sv, _, nl, Hq⟩ := ha
  have sl := F.slot_tuple_iterator_next
  refine wpAny_callSpecial?_slot (name := Str.ofString "__next__") hit.typeIs sl (wpAny_call_entry sl hit.typeIs F.entry_tuple_iterator_next ?_ (F.args_tuple_iterator_next_1 _))
  have nn : ¬ ((Value.ref a == Value.none) = true) := Bool.false_ne_true
  refine wpAny_bind (m := field (.ref it) 0) (wpAny_field ho hd (x := .ref a) rfl ?_)
  rw [if_neg nn]
  refine wpAny_bind (m := field (.ref it) 1) (wpAny_field ho hd (x := .int i 0) rfl (wpAny_bind (m := seqItems? (.ref a)) (wpAny_seqItems sv Hq ?_)))
  simp only [Int.toNat_natCast, hx]
  refine wpAny_bind (wpAny_rule (wpAny_bind (m := setField _ _ _) (wpAny_setField ho hd (by simp) ?_)))
  refine wpAny_bind (m := newExc (.type "StopIteration") []) ?_
  unfold newExc newTuple
  refine wpAny_bind (wpAny_newObj_type ?_ (by size_fits))
  refine wpAny_bind (m := firstArgMember _ _) (wpAny_of_eq (a := Value.none) (by first | rfl | (simp only [firstArgMember]; rfl)) (wpAny_newObj_type ?_ (by size_fits)))
  refine wpAny_raiseNew_none hh ?_
  exact hE _ _ (((Heap.SameBut.update ..).extBut.push _).push _) ⟨_, Heap.get?_push_size _ rfl, rfl⟩
theorem Ef {Q : Value → Shared → Prop} (hit : fI k s.heap it a i) (ha : m8 k s.heap a items) (hx : items[i]? = some x)
    (hQ : ∀ h', fI k h' it a (i + 1) → Heap.SameBut it s.heap h' → Q x { s with heap := h' }) : wpAny (model prog w) A (nextOf (.ref it)) Q E s := by
  cases k with
  | true => exact wpAny_nextOf_list_item hit ha hx hQ
  | false =>
    unfold nextOf
    exact wpAny_bind (Bh hit ha hx fun h' a b => wpAny_pure (hQ h' a b))
theorem Eg {Q : Value → Shared → Prop} (hh : A.handled = none) (hit : fI k s.heap it a i) (ha : m8 k s.heap a items) (hx : items[i]? = none)
    (hE : ∀ h' e, Heap.ExtBut it s.heap h' → (∃ o, h'.get? e = some o ∧ o.cls = .type "StopIteration") → E (.ref e) { s with heap := h' }) : wpAny (model prog w) A (nextOf (.ref it)) Q E s := by
  cases k with
  | true => exact wpAny_nextOf_list_end hh hit ha hx hE
  | false =>
    unfold nextOf
    exact wpAny_bind (Bi hh hit ha hx hE)
end
section
variable {prog : Program} {w : World} {A : Around} {E : Value → Shared → Prop} {s : Shared} {e it a : Addr} {i : Nat} {items : Array Value} {x old : Value} {k : Bool}
theorem yN {Q : Value → Shared → Prop} (he : IsEnum s.heap e it i old) (dY : e ≠ it) (hit : fI k s.heap it a i) (ha : m8 k s.heap a items) (hx : items[i]? = some x)
    (hQ : ∀ h', IsEnumOut h' e it ((i : Int) + 1) x s.heap.objs.size → fI k h' it a (i + 1) → h'.get? s.heap.objs.size = some { cls := .type "tuple", data := .seq #[.int i s.toks, x] } →
      (∀ b o, b ≠ e → b ≠ it → s.heap.get? b = some o → h'.get? b = some o) → Q (.ref s.heap.objs.size) { s with heap := h', toks := s.toks + 1 }) :
    wpAny (model prog w) A (Builtin.«enumerate.__next__» ⟨[.ref e], []⟩) (fun fin s' => ∃ v, fin = .done (.ret v) ∧ Q v s') E s := by
  obtain ⟨hp, g, d, tk, os⟩ := s
  refine wpAny_bind (m := field (.ref e) 2) (wpAny_field he rfl (x := .ref it) rfl (wpAny_bind (m := nextOf (.ref it)) (Ef hit ha hx fun h1 Hr (Hs : Heap.SameBut it hp h1) => ?_)))
  have e1 : IsEnum h1 e it i old := (Hs.2 e dY).trans he
  refine wpAny_bind (m := field (.ref e) 3) (wpAny_field e1 rfl (x := rawInt i) rfl (wpAny_bind (m := field (.ref e) 4) (wpAny_field e1 rfl (x := .none) rfl (wpAny_bind (m := mkInt i) (wpAny_mkInt ?_)))))
  refine wpAny_bind (m := setField (.ref e) 3 _) (wpAny_setField_rec e1 (by simp) fun h2 (e2 : IsEnum h2 e it ((i : Int) + 1) old) (vf : Heap.SameBut e h1 h2) => ?_)
  refine wpAny_bind (m := setField (.ref e) 4 .none) (wpAny_setField_rec e2 (by simp) fun h3 (e3 : IsEnum h3 e it ((i : Int) + 1) old) (LN : Heap.SameBut e h2 h3) => ?_)
  refine wpAny_bind (m := newTuple [.int i tk, x]) (wpAny_newTuple ?_)
  have z3 : h3.objs.size = hp.objs.size := by rw [LN.1, vf.1, Hs.1]
  have el : e < hp.objs.size := Heap.lt_size he
  have e4 : IsEnum (h3.push { cls := .type "tuple", data := .seq #[.int i tk, x] }) e it ((i : Int) + 1) old := Heap.get?_push_of_some _ e3
  have t4 : (h3.push { cls := .type "tuple", data := .seq #[.int i tk, x] }).get? hp.objs.size = some { cls := .type "tuple", data := .seq #[.int i tk, x] } := z3 ▸ Heap.get?_push_size _ rfl
  have up : ∀ b o, b ≠ e → h1.get? b = some o → (h3.push { cls := .type "tuple", data := .seq #[.int i tk, x] }).get? b = some o := fun b o n q => Heap.get?_push_of_some _ (LN.extBut b o n (vf.extBut b o n q))
  generalize h3.push { cls := .type "tuple", data := .seq #[.int i tk, x] } = h4 at e4 t4 up
  rw [z3]
  refine wpAny_bind (m := ownedTupleIsFree (.ref e)) ?_
  unfold ownedTupleIsFree
  refine wpAny_bind (m := field (.ref e) 0) (wpAny_field e4 rfl (x := .none) rfl (wpAny_pure ?_))
  rw [if_pos rfl]
  refine wpAny_bind (wpAny_rule (wpAny_bind (m := field (.ref e) 5) (wpAny_field e4 rfl (x := old) rfl ?_)))
  refine wpAny_bind (m := setField (.ref e) 5 x) (wpAny_setField_rec e4 (by simp) fun h5 (e5 : IsEnum h5 e it ((i : Int) + 1) x) (OY : Heap.SameBut e h4 h5) => ?_)
  refine wpAny_bind (m := ownedTupleHandOut (.ref e) _) ?_
  unfold ownedTupleHandOut
  refine wpAny_bind (wpAny_setField_rec e5 (by simp) fun h6 (e6 : IsEnumOut h6 e it ((i : Int) + 1) x hp.objs.size) (OZ : Heap.SameBut e h5 h6) => ?_)
  refine wpAny_setField_rec e6 (by simp) fun h7 (e7 : IsEnumOut h7 e it ((i : Int) + 1) x hp.objs.size) (O0 : Heap.SameBut e h6 h7) => ?_
  have Ht : ∀ b o, b ≠ e → h4.get? b = some o → h7.get? b = some o := fun b o n q => O0.extBut b o n (OZ.extBut b o n (OY.extBut b o n q))
  refine wpAny_bind (wpAny_letGo (wpAny_pure ⟨_, rfl, hQ h7 e7 (Hr.at fun o q => Ht it o (Ne.symm dY) (up it o (Ne.symm dY) q)) (Ht _ _ (Nat.ne_of_gt el) t4) fun b o n1 n2 q => Ht b o n1 (up b o n1 ((Hs.2 b n2).trans q))⟩))
theorem yO {Q : Option Value → Shared → Prop} (he : IsEnum s.heap e it i old) (dY : e ≠ it) (hit : fI k s.heap it a i) (ha : m8 k s.heap a items) (hx : items[i]? = some x)
    (hQ : ∀ h', IsEnumOut h' e it ((i : Int) + 1) x s.heap.objs.size → fI k h' it a (i + 1) → h'.get? s.heap.objs.size = some { cls := .type "tuple", data := .seq #[.int i s.toks, x] } →
      (∀ b o, b ≠ e → b ≠ it → s.heap.get? b = some o → h'.get? b = some o) → Q (some (.ref s.heap.objs.size)) { s with heap := h', toks := s.toks + 1 }) :
    wpAny (model prog w) A (pyNext (.ref e)) Q E s := by
  have hT : s.TypeIs (.ref e) "enumerate" := ⟨_, he, rfl⟩
  have sl := F.slot_enumerate_next
  unfold pyNext
  exact wpAny_bind (wpAny_attempt (wpAny_callSpecial?_slot (name := Str.ofString "__next__") hT sl (wpAny_call_entry sl hT F.entry_enumerate_next (yN he dY hit ha hx fun h' a b c d => wpAny_pure (hQ h' a b c d)) (F.args_enumerate_next_1 _))))
theorem yP {Q : Option Value → Shared → Prop} (hh : A.handled = none) (he : IsEnum s.heap e it i old) (hit : fI k s.heap it a i) (ha : m8 k s.heap a items) (hx : items[i]? = none)
    (hQ : ∀ h', Heap.ExtBut it s.heap h' → Q none { s with heap := h' }) : wpAny (model prog w) A (pyNext (.ref e)) Q E s := by
  have hT : s.TypeIs (.ref e) "enumerate" := ⟨_, he, rfl⟩
  have sl := F.slot_enumerate_next
  unfold pyNext
  refine wpAny_bind (wpAny_attempt (wpAny_callSpecial?_slot (name := Str.ofString "__next__") hT sl (wpAny_call_entry sl hT F.entry_enumerate_next ?_ (F.args_enumerate_next_1 _))))
  refine wpAny_bind (m := field (.ref e) 2) (wpAny_field he rfl (x := .ref it) rfl (wpAny_bind (m := nextOf (.ref it)) (Eg hh hit ha hx fun h' y eb ⟨o, ho, hc⟩ => ?_)))
  exact wpAny_bind (wpAny_isInstance (T := "StopIteration") (b := true) ⟨o, ho, hc⟩ isSubtype_stop (wpAny_pure (hQ _ eb)))
end
end L2
namespace L2
open PySem PySem.Spec PyProof.Rows Builtin.SmallTypes AutoSeq1
theorem sM : bootBuiltins "enumerate" = some (.type "enumerate") := by decide +kernel
section
variable {X : Cx} {pins : List (Addr × Obj)} {σ : St} {H : Hp} {s : Shared} {h' : Heap}
theorem Inv.vg {t' : Nat} {ch : List Addr} (I : Inv X pins σ H s) (k : ∀ b o, b ∉ ch → s.heap.get? b = some o → h'.get? b = some o) (hf : ∀ b ∈ ch, dN X pins H b) : Inv X pins σ H { s with heap := h', toks := t' } := by
  have xx : ∀ b u, H b = some u → b ∉ ch := fun b u e z => by rw [(hf b z).1] at e; cases e
  refine I.step (g' := s.gens) (d' := s.drawn) (ch := ch) (fun b hb => ?_) (fun b o _ _ hc e _ => k b o hc e) (fun b o _ _ hc e _ => ⟨o.slots, k b o hc e⟩) (fun _ _ _ _ n => n)
    (fun b o hc e => ⟨o, k b o hc e⟩) (fun _ _ e => e) (fun _ _ _ e => e) (fun b ps e => ⟨#[], by rw [e]; simp⟩) (fun m hm => ?_) (fun b u e => ?_) I.bare.self
  · obtain ⟨_, f1, f2, f3, f4, f5⟩ := hf b hb
    exact ⟨f3, f1, f4, f5⟩
  · obtain ⟨o, es, ep, ho, r⟩ := hm
    exact ⟨o, es, ep, k _ o (fun z => (hf _ z).2.1 rfl) ho, r⟩
  · refine (I.hok b u e).bU (fun c v hc q => k c v ?_ q) (fun _ q => q) fun _ _ q => q
    rcases hc with z | z
    · rw [z]; exact xx b u e
    · exact xx c _ z
theorem Inv.pair {t : Addr} {a b : V} {u v : Value} {h1 : Heap} {tk tk0 : Nat} (I0 : Inv X pins σ H { s with toks := tk0 }) (ht : s.heap.objs.size ≤ t) (I : Inv X pins σ H { s with heap := h1, toks := tk }) (e : h1.get? t = some { cls := .type "tuple", data := .seq #[u, v] }) (ru : RelV a u) (rv : RelV b v) :
    Inv X pins σ (upd H t (.tup [a, b])) { s with heap := h1, toks := tk } := by
  have f := Inv.kR (H' := H) I0 (b := t) ht (I0.hok.fresh ht)
  refine I.CY f.1 ?_ f.2.1 f.2.2.2.2.1 f.2.2.2.2.2 ⟨by show 2 ≤ sizeLine; decide, [u, v], .cons ru (.cons rv .nil), ⟨_, e, rfl, _, rfl, rfl⟩⟩
  exact Heap.get?_none_of_le (Nat.le_trans I0.sz ht)
end
noncomputable def Sq (k : Bool) (K : PySem.W.Frag) (H : Hp) (a : Addr) (xs : List V) : Prop := if k = true then bI K H a xs else bJ K H a xs
theorem Inv.sq {X : Cx} {pins : List (Addr × Obj)} {σ : St} {H : Hp} {s : Shared} {k : Bool} {a : Addr} {xs : List V} (I : Inv X pins σ H s) (h : Sq k X.K H a xs) : ∃ its : List Value, Vals xs its ∧ m8 k s.heap a its.toArray := by
  cases k with
  | true => obtain ⟨its, rv, p, _⟩ := I.list (show bI X.K H a xs from h); exact ⟨its, rv, p.isList⟩
  | false => obtain ⟨its, rv, p, _⟩ := I.tuple (show bJ X.K H a xs from h); exact ⟨its, rv, p⟩
theorem Inv.Hu {X : Cx} {pins : List (Addr × Obj)} {σ : St} {H : Hp} {s : Shared} {k : Bool} {a : Addr} {xs ys : List V} (I : Inv X pins σ H s) (h : Sq k X.K H a xs) (h' : Sq k X.K H a ys) : xs = ys := by
  cases k with
  | true => exact I.rL (show bI X.K H a xs from h) h'
  | false => exact I.pP (show bJ X.K H a xs from h) h'
noncomputable def CZ (k : Bool) (K : PySem.W.Frag) (a : Addr) : It :=
  ⟨fun i H => ∃ xs x, Sq k K H a xs ∧ xs[i]? = some x, fun i H v H' => ∃ t x, H t = none ∧ v = .ref t ∧ H' = upd H t (.tup [.int (i : Nat), x]) ∧ ∀ xs, Sq k K H a xs → xs[i]? = some x, fun i H => ∃ xs, Sq k K H a xs ∧ xs.length ≤ i⟩
theorem yQ {P : Program} {w : World} {K : PySem.W.Frag} {elts : List Expr} {x1 : Nat} {pos : Pos} (k : Bool) (a it e : Addr) (dY : e ≠ it) :
    Turn P w K (.Tuple elts x1 pos) (CZ k K a) [e, it] e (fun i h => (∃ old, IsEnum h e it i old) ∧ fI k h it a i) where
  mem := by simp
  obj := fun i h st b hb => by
    obtain ⟨⟨old, he⟩, hit⟩ := st
    simp only [List.mem_cons, List.not_mem_nil, or_false] at hb
    rcases hb with rfl | rfl
    · exact ⟨_, he, fun v z => nomatch z⟩
    · obtain ⟨o, ho, vs, hd⟩ := hit.obj
      exact ⟨o, ho, fun v z => by rw [hd] at z; cases z⟩
  keep := fun i h h' st q => by
    obtain ⟨⟨old, he⟩, hit⟩ := st
    exact ⟨⟨old, q e (by simp) _ he⟩, hit.at fun o ho => q it (by simp) o ho⟩
  item := by
    intro X hP hw hK hc i pins s σ H E I hf st hg
    subst hP hw hK
    obtain ⟨⟨old, he⟩, hit⟩ := st
    obtain ⟨xs, x, hq, hx⟩ := hg
    obtain ⟨its, rv, p⟩ := I.sq hq
    obtain ⟨u, hu, ru⟩ := rv.get hx
    refine yO he dY hit p (x := u) (by simpa using hu) fun h1 eo Hr t1 kk => ?_
    refine ⟨_, rfl, wpAny_letOwnedTupleGo_enum eo fun h2 e2 (vf : Heap.SameBut e h1 h2) => ?_⟩
    have el : e < s.heap.objs.size := Heap.lt_size he
    have I2 : Inv X pins σ H { s with heap := h2, toks := s.toks + 1 } := I.vg (ch := [e, it]) (fun b o hb q => by
      simp only [List.mem_cons, List.not_mem_nil, or_false, not_or] at hb
      exact (vf.2 b hb.1).trans (kk b o hb.1 hb.2 q)) hf
    have t2 : h2.get? s.heap.objs.size = some { cls := .type "tuple", data := .seq #[.int i s.toks, u] } := (vf.2 _ (Nat.ne_of_gt el)).trans t1
    have hn : H s.heap.objs.size = none := I.hok.fresh (Nat.le_refl _)
    refine ⟨.ref s.heap.objs.size, _, Inv.pair (s := s) (tk0 := s.toks) I (Nat.le_refl _) I2 t2 (a := .int (i : Nat)) ⟨s.toks, rfl⟩ ru, rfl, ⟨_, x, hn, rfl, rfl, fun ys hy => by rw [I.Hu hy hq]; exact hx⟩, ⟨⟨u, ?_⟩, Hr.at fun o q => (vf.2 it (Ne.symm dY)).trans q⟩, fun b hb => ?_⟩
    · have c : ((i + 1 : Nat) : Int) = (i : Int) + 1 := by push_cast; rfl
      rw [c]
      exact e2
    · have l : b ≠ s.heap.objs.size := by
        simp only [List.mem_cons, List.not_mem_nil, or_false] at hb
        rcases hb with rfl | rfl
        · exact Nat.ne_of_lt el
        · obtain ⟨o, ho, _⟩ := hit.obj
          exact Nat.ne_of_lt (Heap.lt_size ho)
      rw [ak l]
      exact (hf b hb).1
  done := by
    intro X hP hw hK hc i pins s σ H E I hf st hg
    subst hP hw hK
    obtain ⟨⟨old, he⟩, hit⟩ := st
    obtain ⟨xs, hq, hx⟩ := hg
    obtain ⟨its, rv, p⟩ := I.sq hq
    have hl := rv.length
    exact yP (I.ok.hd hc) he hit p (by simp; omega) fun h1 eb => ⟨rfl, I.vg (t' := s.toks) (ch := [it]) (fun b o hb q => eb b o (by simpa using hb) q) fun b hb => hf b (by simp at hb; simp [hb])⟩
  self := fun _ _ _ _ _ st h => wpAny_pyIter_enum st.1.choose_spec h
noncomputable abbrev yR (a : Addr) : Obj := { cls := .type "tuple_iterator", data := .fields #[.ref a, .int 0 0] }
noncomputable abbrev Hv (it : Addr) : Obj := { cls := .type "enumerate", data := .fields #[.none, .bool false, .ref it, rawInt 0, .none, .none] }
theorem Eh (a : Addr) (items : Array Value) (n : Nat) (dct : Option Addr) (sl : Array (Option Value)) :
    Meets (Builtin.«enumerate.__new__» ⟨[.type "enumerate", .ref a], []⟩) (fun _ R s => s.heap.get? a = some { cls := .type "tuple", dict := dct, data := .seq items n, slots := sl } ∧
      R (.ok (.ret (.ref (s.heap.push (yR a)).objs.size))) { s with heap := (s.heap.push (yR a)).push (Hv s.heap.objs.size) }) :=
  .of_wp fun prog w A R s h => by
    obtain ⟨hp, g, d, tk, os⟩ := s
    obtain ⟨hl, h⟩ := h
    have j6 := sub_enumerate
    have hT : Heap.IsTuple (Shared.heap ⟨hp, g, d, tk, os⟩) a items := ⟨_, hl, rfl, n, rfl⟩
    wp_walk using wpAny_loadPart' hl
    refine wpAny_stack_any fun st => wpAny_pure ?_
    split
    case h_1 c _ _ _ _ _ => cases (c == Value.type "enumerate") <;> (wp_walk using wpAny_loadPart' hl, wpAny_pyIter_tuple hT; exact ⟨_, rfl, h⟩)
    case h_2 => wp_walk using wpAny_loadPart' hl, wpAny_pyIter_tuple hT; exact ⟨_, rfl, h⟩
section
variable {prog : Program} {w : World} {A : Around} {E : Value → Shared → Prop} {s : Shared}
theorem wq {a : Addr} {items : Array Value} {Q : Value → Shared → Prop} (hT : s.heap.IsTuple a items)
    (h : ∀ h', IsEnum h' (s.heap.objs.size + 1) s.heap.objs.size 0 .none → h'.IsTupleIter s.heap.objs.size a 0 → (∀ b o, s.heap.get? b = some o → h'.get? b = some o) → Q (.ref (s.heap.objs.size + 1)) { s with heap := h' }) :
    wpAny (model prog w) A (call (.type "enumerate") [.ref a]) Q E s := by
  obtain ⟨ob, ho, hc, n, hd⟩ := hT
  obtain ⟨c, dd, dt, sl⟩ := ob
  dsimp only at hc hd
  subst hc hd
  refine callType_new F.called_enumerate (by decide) (F.typeCall_enumerate_1 _) (F.newCall_enumerate_1 _) (fun obj => F.args_object_init_2 obj _) F.entry_enumerate_new (Eh a items n dd sl) ⟨ho, ?_⟩
  have z : (s.heap.push (yR a)).objs.size = s.heap.objs.size + 1 := Heap.size_push ..
  have he : ((s.heap.push (yR a)).push (Hv s.heap.objs.size)).get? (s.heap.objs.size + 1) = some (Hv s.heap.objs.size) := z ▸ Heap.get?_push_size (s.heap.push (yR a)) rfl
  show _ ∧ _
  rw [z]
  exact ⟨⟨_, he, rfl⟩, h _ he ⟨_, Heap.get?_push_of_some _ (Heap.get?_push_size _ rfl), rfl, rfl⟩ fun b o x => Heap.get?_push_of_some _ (Heap.get?_push_of_some _ x)⟩
theorem yS {k : Bool} {a : Addr} {items : Array Value} {Q : Value → Shared → Prop} (hT : m8 k s.heap a items)
    (h : ∀ h', IsEnum h' (s.heap.objs.size + 1) s.heap.objs.size 0 .none → fI k h' s.heap.objs.size a 0 → (∀ b o, s.heap.get? b = some o → h'.get? b = some o) → Q (.ref (s.heap.objs.size + 1)) { s with heap := h' }) :
    wpAny (model prog w) A (call (.type "enumerate") [.ref a]) Q E s := by
  cases k with
  | true => exact call_enumerate_list hT fun h' a b _ c => h h' a b c
  | false => exact wq hT h
end
section
variable {X : Cx} {l : Expr} {tl : TE} {elts : List Expr} {x1 : Nat} {tp p pos : Pos}
noncomputable def Kb (k : Bool) (K : PySem.W.Frag) (tl : TE) : TI := fun σ H R => tl σ H fun x H1 => ∃ a, x = .ref a ∧ (∃ xs, Sq k K H1 a xs) ∧ R (CZ k K a) H1
theorem Ei (k : Bool) {K : PySem.W.Frag} (hK : X.K = K) (hg : Gl X "enumerate") (hm : X.mg "enumerate" = none) (hl : PE X l tl) (hs : starEach [l] X.env = [(false, eval l X.env)] := by rfl) :
    PI X (.Tuple elts x1 tp) (.Call (.Name "enumerate" p) [l] [] pos) (Kb k K tl) := by
  subst hK
  intro pins s σ H R I h
  refine wpAny_Call_Name_kw (gf I hg hm sM ?_)
  refine PyProof.Rows.callWith_type1 ?_ hs rfl
  rw [hs]
  refine Calls.spliced_cons (thn (hl pins s σ H _ I h) fun v s1 ⟨x, H1, I1, r1, q1⟩ => Calls.spliced_nil ?_)
  obtain ⟨a, rfl, ⟨xs, hq⟩, q⟩ := q1
  cases (show v = Value.ref a from r1)
  obtain ⟨its, rv, sq⟩ := I1.sq hq
  refine yS sq fun h' he hit kk => ?_
  refine wpAny_pyIter_enum he ?_
  have I2 : Inv X pins σ H1 { s1 with heap := h' } := I1.kept (t' := s1.toks) kk
  have ne : s1.heap.objs.size + 1 ≠ s1.heap.objs.size := Nat.ne_of_gt (Nat.lt_succ_self _)
  refine ⟨_, [s1.heap.objs.size + 1, s1.heap.objs.size], _, CZ k X.K a, H1, rfl, I2, yQ k a _ _ ne, ⟨⟨_, he⟩, hit⟩, fun b hb => ?_, q⟩
  simp only [List.mem_cons, List.not_mem_nil, or_false] at hb
  rcases hb with rfl | rfl
  · exact I1.kR (Nat.le_succ _) (I1.hok.fresh (Nat.le_succ _))
  · exact I1.kR (Nat.le_refl _) (I1.hok.fresh (Nat.le_refl _))
end
noncomputable def C1 (J : It) (ys : List (V × V)) (H : Hp) : Prop := ∀ i, (i < ys.length → J.go i H ∧ ∀ x H', J.yld i H x H' → ∃ t p, H t = none ∧ x = .ref t ∧ ys[i]? = some p ∧ H' = upd H t (.tup [p.1, p.2])) ∧ (ys.length ≤ i → J.stop i H)
theorem qw {k : Bool} {K : PySem.W.Frag} {a : Addr} {ys : List V} {H : Hp} (h : Sq k K H a ys) : C1 (CZ k K a) ((List.range ys.length).map fun i => (V.int (i : Nat), ys.getD i .ao)) H := fun i => by
  have el : ((List.range ys.length).map fun i => (V.int (i : Nat), ys.getD i .ao)).length = ys.length := by simp
  rw [el]
  refine ⟨fun hi => ⟨⟨ys, ys[i], h, List.getElem?_eq_getElem hi⟩, fun x H' ⟨t, y, n, e1, e2, e3⟩ => ⟨t, (.int (i : Nat), y), n, e1, ?_, e2⟩⟩, fun hi => ⟨ys, h, hi⟩⟩
  rw [List.getElem?_map, List.getElem?_range hi]
  have := e3 ys h
  show some (V.int (i : Nat), ys.getD i .ao) = _
  rw [List.getD_eq_getElem?_getD, this]
  rfl
end L2
namespace L2
open PySem PySem.Spec PyProof.Rows AutoSeq1
theorem Bj (l b : Addr) (items Hw : Array Value) (n n2 : Nat) (dd uU : Option Addr) (sl pZ : Array (Option Value)) (h0 : items.isEmpty = true) :
    Meets (Builtin.«tuple.__add__» ⟨[.ref l, .ref b], []⟩) (fun _ R s => s.heap.get? l = some { cls := .type "tuple", dict := dd, data := .seq items n, slots := sl } ∧ s.heap.get? b = some { cls := .type "tuple", dict := uU, data := .seq Hw n2, slots := pZ } ∧ R (.ok (.ret (.ref b))) s) :=
  .of_wp fun prog w A R s h => by
    obtain ⟨hp, g, d, tk, os⟩ := s
    obtain ⟨hl, hb, h⟩ := h
    have f2 := AutoSeq1.sub_tuple_tuple
    wp_walk using wpAny_loadPart' hl, wpAny_loadPart' hb
    exact ⟨_, rfl, h⟩
section
variable {X : Cx}
noncomputable def Kc (K : PySem.W.Frag) : R2 := fun x y H Q => ∃ a b xs ys, x = .ref a ∧ y = .ref b ∧ bJ K H a xs ∧ bJ K H b ys ∧ xs.length + ys.length ≤ sizeLine ∧ (xs = [] → Q (.ref b) H) ∧ (xs ≠ [] → ys = [] → Q (.ref a) H) ∧ (xs ≠ [] → ys ≠ [] → ∀ p, H p = none → Q (.ref p) (upd H p (.tup (xs ++ ys))))
theorem Ej {K : PySem.W.Frag} (hK : X.K = K) : OpR X (binaryOp .Add) (Kc K) := by
  subst hK
  intro pins s σ H x y v u Q I rx ry h
  obtain ⟨a, b, xs, ys, rfl, rfl, ha, hb, hz, q0, q1, q2⟩ := h
  by_cases hx : xs = []
  · cases rx
    cases ry
    obtain ⟨its, r1, p1, _⟩ := I.tuple ha
    obtain ⟨bP, r2, p2, _⟩ := I.tuple hb
    obtain ⟨⟨cls, dd, data, sl⟩, ho, hc, n, hd⟩ := id p1
    obtain ⟨⟨MT, uU, data2, pZ⟩, nO, xW, n2, hd2⟩ := id p2
    dsimp only at hc hd xW hd2
    subst hc hd xW hd2
    exact concat_meets ⟨_, ho, rfl⟩ ⟨_, nO, rfl⟩ noFill_tuple_add seq_tuple_add PySem.F.slot_tuple_add PySem.F.entry_tuple_add (PySem.F.args_tuple_add_2 _ _) (Bj a b its.toArray bP.toArray n n2 dd uU sl pZ (by simp [r1.jN.mpr hx])) ⟨ho, nO, ⟨.ref b, H, I, rfl, q0 hx⟩⟩
  · exact DW pins s σ H _ _ v u Q I rx ry ⟨a, b, xs, ys, rfl, rfl, ha, hb, hx, hz, q1 hx, q2 hx⟩
theorem ue {prog : Program} {w : World} {A : Around} {E : Value → Shared → Prop} {s : Shared} {t sl : Addr} {items : Array Value} {vl vu : Value} {lo hi : Option Int} {Q : Value → Shared → Prop} (ht : IsTup s.heap t items) (hs : s.heap.IsSliceOf sl vl vu .none) (pl : IsPart vl lo) (pu : IsPart vu hi)
    (hw : HT.aT items.size 0 lo = 0 ∧ HT.aT items.size items.size hi = items.size) (h : Q (.ref t) s) : wpAny (model prog w) A (getItem (.ref t) (.ref sl)) Q E s := by
  obtain ⟨os, gi, kD, jn⟩ := id hs
  have uW : s.TypeIs (.ref sl) "slice" := ⟨os, gi, kD⟩
  have O1 : s.TypeIs (.ref t) "tuple" := ht.typeIs
  unfold getItem
  refine wpAny_holding ?_
  first | refine wpAny_bind (wpAny_pure ?_) | skip
  refine wpAny_bind (wpAny_sequenceKey ht.typeIs (by decide) ?_)
  have sg := PyProof.Rows.slot_tuple_getitem
  refine wpAny_bind (wpAny_callSpecial?_slot (name := Str.ofString "__getitem__") ht.typeIs sg (wpAny_call_entry sg ht.typeIs entry_tuple_getitem ?_ (args_tuple_getitem _ _)))
  refine wpAny_bind (m := Builtin.Tuple.tupleItemsOf (.ref t)) (tupleItemsOf_ ht (wpAny_bind (wpAny_typeOf uW ?_)))
  rw [if_pos (by decide)]
  refine wpAny_bind (HT.iP hs pl pu ?_)
  rw [hw.1, hw.2]
  show wpAny _ _ (if (((0 : Nat) : Int) == 0 && (1 : Int) == 1 && (items.size - 0) == items.size) = true then _ else _) _ _ s
  rw [if_pos (by simp)]
  refine wpAny_bind (m := Builtin.Tuple.tupleIsExact (.ref t)) ?_
  unfold Builtin.Tuple.tupleIsExact
  refine wpAny_bind (wpAny_typeOf O1 (wpAny_pure ?_))
  rw [if_pos (by decide)]
  exact wpAny_bind (wpAny_rule (wpAny_pure ⟨_, rfl, wpAny_pure h⟩))
noncomputable def Nt (K : PySem.W.Frag) : V → Option Int → Option Int → Hp → VK → Prop := fun x lo hi H Q => ∃ a xs, x = .ref a ∧ bJ K H a xs ∧
  ((HT.aT xs.length 0 lo = 0 ∧ HT.aT xs.length xs.length hi = xs.length) → Q (.ref a) H) ∧ (¬ (HT.aT xs.length 0 lo = 0 ∧ HT.aT xs.length xs.length hi = xs.length) → ∀ p, H p = none → Q (.ref p) (upd H p (.tup (hZ xs lo hi))))
theorem Ek {K : PySem.W.Frag} (hK : X.K = K) : xX X (Nt K) := by
  subst hK
  intro pins s σ H x v vl vu lo hi sl Q I rx hs pl pu h
  obtain ⟨a, xs, rfl, hx, q1, q2⟩ := h
  by_cases hw : HT.aT xs.length 0 lo = 0 ∧ HT.aT xs.length xs.length hi = xs.length
  · cases rx
    obtain ⟨its, r, ht, hz⟩ := I.tuple hx
    have hlen : its.toArray.size = xs.length := by rw [List.size_toArray]; exact r.length.symm
    exact ⟨"tuple", _, PyProof.Rows.slot_tuple_getitem.lookup, ht.typeIs, ue ht hs pl pu (by rw [hlen]; exact hw) ⟨.ref a, H, I, rfl, q1 hw⟩⟩
  · exact Gq pins s σ H _ v vl vu lo hi sl Q I rx hs pl pu ⟨a, xs, rfl, hx, hw, q2 hw⟩
theorem wt {xs : List V} {lo hi : Option Int} (h : HT.aT xs.length 0 lo = 0 ∧ HT.aT xs.length xs.length hi = xs.length) : hZ xs lo hi = xs := by
  unfold hZ
  rw [h.1, h.2, List.drop_zero, Nat.sub_zero, List.take_length]
end
end L2
namespace L2
open PySem PySem.Spec PyProof.Rows
section
variable {X : Cx} {st : Stmt} {ι : Type} {Pre : ι → St → Hp → Prop} {D : ι → Ends}
theorem qT {P : Program} {w : World} {K : PySem.W.Frag} (hP : X.prog = P) (hw : X.w = w) (h : X.K = K) (hc : X.calm = true) : cL X (.builtin "sorted") (vc P w K) := by
  subst hP hw h
  exact sF hc
end
structure M1 (X : Cx) (o : Expr) (m : Str) (apos : Pos) (e : Expr) (bu : Pos) : Prop where
  base : attributeBase o m X.env (eval o X.env) = eval o X.env
  few : ((backTo bu (starEach [e] X.env)).all (fun x => !x.1) && (backToKw bu (keywordEach [] X.env)).all (fun x => x.1.isSome)
    && decide (([e] : List Expr).length + ([] : List Keyword).length + (if ([] : List Keyword).isEmpty then 0 else 1) < 30)) = true
  line : (apos.endLine == bu.line) = true
  trees : backTo bu (starEach [e] X.env) = [(false, eval e X.env)]
structure M2 (X : Cx) (o : Expr) (m : Str) (apos : Pos) (e f : Expr) (bu : Pos) : Prop where
  base : attributeBase o m X.env (eval o X.env) = eval o X.env
  few : ((backTo bu (starEach [e, f] X.env)).all (fun x => !x.1) && (backToKw bu (keywordEach [] X.env)).all (fun x => x.1.isSome)
    && decide (([e, f] : List Expr).length + ([] : List Keyword).length + (if ([] : List Keyword).isEmpty then 0 else 1) < 30)) = true
  line : (apos.endLine == bu.line) = true
  trees : backTo bu (starEach [e, f] X.env) = [(false, eval e X.env), (false, eval f X.env)]
inductive Dv where
  | int (i : Int) | bl (b : Bool) | ao | str (z : Str) | tup (xs : List Dv) | lst (xs : List Dv) | set (ns : List Int) | ptr (a : Addr) | exc (C : Addr) | bz (ns : List Int) | raw (v : V) | dk (ks : List Key) (ds : List Dv) | dt (ks : List (List Key)) (ds : List Dv) | bX (f : Addr) (o : Obj) (c : Addr) (oc : Obj) (vs : List V) (ds : List Dv)
inductive Mo where
  | lst (xs : List Dv) | cY | dk (ks : List Key) (ds : List Dv) | dt (ks : List (List Key)) (ds : List Dv)
noncomputable abbrev Mh := Addr → Option Mo
structure cg where
  g : List Addr
  l : List (Addr × Str)
instance : Membership Addr cg := ⟨fun t a => a ∈ t.g⟩
noncomputable def C2 : HO → Bool
  | .cu _ => true
  | .lam _ => true
  | .dK _ => true
  | .dT _ => true
  | _ => false
noncomputable def yT : HO → Bool
  | .cu _ => false
  | _ => true
noncomputable def Bk : HO → Bool
  | .dK _ => true
  | .dT _ => true
  | _ => false
theorem Rd.map {H H' : Hp} {a : Addr} {u : HO} (e : Rd H a u) (k : ∀ x, H a = some x → H' a = some x) : Rd H' a u := e.imp (k _) fun ⟨o, h⟩ => ⟨o, k _ h⟩
theorem Rd.Hx {H H' : Hp} {a : Addr} {u : HO} (e : Rd H a u) (hu : Bk u = true) (k : ∀ x, yT x = true → H a = some x → H' a = some x) : Rd H' a u := e.imp (k _ (by cases u <;> first | rfl | cases hu)) fun ⟨o, h⟩ => ⟨o, k _ rfl h⟩
theorem Rd.there {H : Hp} {a : Addr} {u : HO} (e : Rd H a u) : ∃ x, H a = some x := e.elim (fun h => ⟨_, h⟩) fun ⟨o, h⟩ => ⟨_, h⟩
noncomputable def Tg (o o' : HO) : Prop := (∃ ps gq : Array Value, o = .cu ps ∧ o' = .cu gq ∧ TriplesOk gq.toList) ∨ (∃ ps gq : Array Value, o = .lam ps ∧ o' = .lam gq) ∨ (Bk o = true ∧ ∃ ob, o' = .cU ob o)
theorem Tg.trans {a b c : HO} (x : Tg a b) (y : Tg b c) : Tg a c := by
  rcases x with ⟨p, q, rfl, rfl, t⟩ | ⟨p, q, rfl, rfl⟩ | ⟨hd, ob, rfl⟩
  · rcases y with ⟨p2, q2, e, rfl, t2⟩ | ⟨p2, q2, e, _⟩ | ⟨e, _⟩
    · exact .inl ⟨p, q2, rfl, rfl, t2⟩
    · cases e
    · cases e
  · rcases y with ⟨p2, q2, e, _⟩ | ⟨p2, q2, e, rfl⟩ | ⟨e, _⟩
    · cases e
    · exact .inr (.inl ⟨p, q2, rfl, rfl⟩)
    · cases e
  · rcases y with ⟨p2, q2, e, _⟩ | ⟨p2, q2, e, _⟩ | ⟨e, _⟩ <;> cases e
theorem Tg.tab {a b : HO} (x : Tg a b) : C2 a = true := by
  rcases x with ⟨p, q, rfl, rfl, _⟩ | ⟨p, q, rfl, rfl⟩ | ⟨hd, ob, rfl⟩
  · rfl
  · rfl
  · cases a <;> first | rfl | cases hd
noncomputable def Nu (H : Hp) (q : Str) (cv : Value) : Prop := ∃ (c : Addr) (oc : Obj) (u : HO) (vs : Array Value) (t : Tok), cv = Value.ref c ∧ H c = some (.cU oc u) ∧ oc.data = .fields vs ∧ vs[1]? = some (Value.str q t)
noncomputable def Lm (H : Hp) (p : Addr × Str) : Prop := ∃ ps : Array Value, H p.1 = some (.lam ps) ∧ TriplesOk ps.toList ∧ ∀ pos cv, codeAmong pos ps.toList = some cv → Nu H p.2 cv
theorem Lm.keep {H H' : Hp} {p : Addr × Str} (h : Lm H p) (k1 : ∀ ps, H p.1 = some (.lam ps) → H' p.1 = some (.lam ps)) (k2 : ∀ c oc u, H c = some (.cU oc u) → H' c = some (.cU oc u)) : Lm H' p := by
  obtain ⟨ps, e, t, c⟩ := h
  refine ⟨ps, k1 _ e, t, fun pos cv q => ?_⟩
  obtain ⟨a, oc, u, vs, tk, e1, e2, r⟩ := c pos cv q
  exact ⟨a, oc, u, vs, tk, e1, k2 _ _ _ e2, r⟩
structure Bz where
  P : Program
  w : World
  K : PySem.W.Frag
  tb : cg
  hid : List Addr
noncomputable def Fz (β : Bz) (M : Mh) (a : Addr) : Prop := M a = none ∧ a ∉ β.hid
noncomputable def Kl (K : PySem.W.Frag) (a : Addr) (ns : List Int) : Prop := ∃ (o : Obj) (its : Array Value) (n : Nat), K.lookup a = some o ∧ o.cls = .type "list" ∧ o.dict = none ∧ o.data = .seq its n ∧ its.size ≤ sizeLine ∧ Vals (ns.map V.int) its.toList
inductive Rz (β : Bz) (M : Mh) (H : Hp) : V → Dv → Prop where
  | int (i : Int) : Rz β M H (.int i) (.int i)
  | bl (b : Bool) : Rz β M H (.bl b) (.bl b)
  | ao : Rz β M H .ao .ao
  | str (z : Str) : Rz β M H (.str z) (.str z)
  | tup {a : Addr} {vs : List V} {ds : List Dv} (m : Fz β M a) (e : H a = some (.tup vs)) (hl : vs.length = ds.length) (h : ∀ (i : Nat) (v : V) (d : Dv), vs[i]? = some v → ds[i]? = some d → Rz β M H v d) : Rz β M H (.ref a) (.tup ds)
  | lst {a : Addr} {vs : List V} {ds : List Dv} (m : Fz β M a) (e : H a = some (.lst vs)) (hl : vs.length = ds.length) (h : ∀ (i : Nat) (v : V) (d : Dv), vs[i]? = some v → ds[i]? = some d → Rz β M H v d) : Rz β M H (.ref a) (.lst ds)
  | set {a : Addr} {ns : List Int} (m : Fz β M a) (e : H a = some (m5 β.P β.w a ns)) : Rz β M H (.ref a) (.set ns)
  | ptr {a : Addr} (m : (M a).isSome = true) : Rz β M H (.ref a) (.ptr a)
  | exc {a C : Addr} (m : Fz β M a) (e : H a = some (m6 C a)) : Rz β M H (.ref a) (.exc C)
  | bz {a : Addr} {o : Obj} {ns : List Int} (m : Fz β M a) (e : H a = some (.cU o (.lst (ns.map V.int)))) : Rz β M H (.ref a) (.bz ns)
  | cF {a : Addr} {ns : List Int} (m : Fz β M a) (e : H a = some (.lst (ns.map V.int))) : Rz β M H (.ref a) (.bz ns)
  | cG {a : Addr} {ns : List Int} (e : Kl β.K a ns) : Rz β M H (.ref a) (.bz ns)
  | raw (v : V) : Rz β M H v (.raw v)
  | dk {a : Addr} {ks : List Key} {vs : List V} {ds : List Dv} (m : Fz β M a) (e : Rd H a (.dK (ks.zip vs))) (hk : ks.length = vs.length) (hl : vs.length = ds.length) (h : ∀ (i : Nat) (v : V) (d : Dv), vs[i]? = some v → ds[i]? = some d → Rz β M H v d) : Rz β M H (.ref a) (.dk ks ds)
  | dt {a : Addr} {ks : List (List Key)} {vs : List V} {ds : List Dv} (m : Fz β M a) (e : Rd H a (.dT (ks.zip vs))) (hk : ks.length = vs.length) (hl : vs.length = ds.length) (h : ∀ (i : Nat) (v : V) (d : Dv), vs[i]? = some v → ds[i]? = some d → Rz β M H v d) : Rz β M H (.ref a) (.dt ks ds)
  | bX {f c : Addr} {o oc : Obj} {u uc : HO} {vs : List V} {ds : List Dv} (m : Fz β M f) (e : H f = some (.cU o u)) (m2 : Fz β M c) (e2 : H c = some (.cU oc uc)) (hl : vs.length = ds.length) (h : ∀ (i : Nat) (v : V) (d : Dv), vs[i]? = some v → ds[i]? = some d → Rz β M H v d) : Rz β M H (.ref f) (.bX f o c oc vs ds)
structure aN (β : Bz) (M : Mh) (H : Hp) (vs : List V) (ds : List Dv) : Prop where
  len : vs.length = ds.length
  at' : ∀ (i : Nat) (v : V) (d : Dv), vs[i]? = some v → ds[i]? = some d → Rz β M H v d
noncomputable def il (β : Bz) (M : Mh) (H : Hp) (a : Addr) : Mo → Prop
  | .lst ds => ∃ vs, H a = some (.lst vs) ∧ aN β M H vs ds
  | .cY => J7 H a
  | .dk ks ds => ∃ vs, H a = some (.dK (ks.zip vs)) ∧ ks.length = vs.length ∧ aN β M H vs ds
  | .dt ks ds => ∃ vs, H a = some (.dT (ks.zip vs)) ∧ ks.length = vs.length ∧ aN β M H vs ds
noncomputable def m9 : HO → Bool
  | .lst _ => true
  | .set _ _ => true
  | .dK _ => true
  | .dT _ => true
  | .ext _ => true
  | .cu _ => true
  | _ => false
noncomputable def wu (H : Hp) (a : Addr) : Prop := ∃ o, H a = some o ∧ m9 o = true
theorem wu.upd {H : Hp} {a p : Addr} {o : HO} (h : wu H a) (d : H p = none ∨ m9 o = true) : wu (upd H p o) a := by
  obtain ⟨u, e, n⟩ := h
  by_cases z : a = p
  · subst z
    rcases d with d | d
    · rw [e] at d; cases d
    · exact ⟨o, aC, d⟩
  · exact ⟨u, by rw [ak z]; exact e, n⟩
structure Mz (β : Bz) (M : Mh) (H : Hp) : Prop where
  obj : ∀ a o, M a = some o → il β M H a o
  tabs : CQ β.tb.g H
  hids : ∀ a ∈ β.hid, wu H a
  apart : ∀ a o, M a = some o → a ∉ β.hid
  lams : ∀ p ∈ β.tb.l, Lm H p
structure Ey (M : Mh) (H : Hp) (M' : Mh) (H' : Hp) : Prop where
  keep : ∀ b o, M b = none → H b = some o → H' b = some o ∨ ∃ o', Tg o o' ∧ H' b = some o'
  dom : ∀ a, (M a).isSome = true → (M' a).isSome = true
  new : ∀ a o, M a = none → H a = some o → M' a = none
structure Ex (β : Bz) (M : Mh) (H : Hp) (M' : Mh) (H' : Hp) : Prop extends Ey M H M' H' where
  mz : Mz β M' H'
section
variable {β : Bz} {M M1 M2 : Mh} {H H1 H2 : Hp}
theorem Ey.refl : Ey M H M H := ⟨fun _ _ _ h => .inl h, fun _ h => h, fun _ _ h _ => h⟩
theorem Ex.refl (m : Mz β M H) : Ex β M H M H := ⟨.refl, m⟩
theorem Ey.trans (x : Ey M H M1 H1) (y : Ey M1 H1 M2 H2) : Ey M H M2 H2 := by
  refine ⟨fun b o hm h => ?_, fun a h => y.dom a (x.dom a h), fun a o hm h => ?_⟩
  · have jS := x.new b o hm h
    rcases x.keep b o hm h with q | ⟨o1, t, q⟩
    · exact y.keep b o jS q
    · rcases y.keep b _ jS q with q2 | ⟨o2, t2, q2⟩
      · exact .inr ⟨o1, t, q2⟩
      · exact .inr ⟨o2, t.trans t2, q2⟩
  · have jS := x.new a o hm h
    rcases x.keep a o hm h with q | ⟨o1, t, q⟩
    · exact y.new a _ jS q
    · exact y.new a _ jS q
theorem Ex.trans (x : Ex β M H M1 H1) (y : Ex β M1 H1 M2 H2) : Ex β M H M2 H2 := ⟨x.toEy.trans y.toEy, y.mz⟩
theorem Ey.get (x : Ey M H M1 H1) {b : Addr} {o : HO} (m : M b = none) (h : H b = some o) (n : C2 o = false) : H1 b = some o := by
  rcases x.keep b o m h with q | ⟨o', e, _⟩
  · exact q
  · rw [e.tab] at n; cases n
theorem Ey.rd (x : Ey M H M1 H1) {b : Addr} {u : HO} (m : M b = none) (h : Rd H b u) (hu : Bk u = true) : Rd H1 b u := by
  rcases h with h | ⟨o, h⟩
  · rcases x.keep b u m h with q | ⟨o', t, q⟩
    · exact .inl q
    · rcases t with ⟨_, _, rfl, _⟩ | ⟨_, _, rfl, _⟩ | ⟨_, ob, rfl⟩
      · cases hu
      · cases hu
      · exact .inr ⟨ob, q⟩
  · exact .inr ⟨o, x.get m h rfl⟩
theorem Ey.gone (x : Ey M H M1 H1) {b : Addr} (h : H1 b = none) : M b = none → H b = none := fun m => by
  cases e : H b with
  | none => rfl
  | some o =>
    rcases x.keep b o m e with q | ⟨_, _, q⟩ <;> (rw [h] at q; cases q)
theorem Rz.ey (x : Ey M H M1 H1) {v : V} {d : Dv} (h : Rz β M H v d) : Rz β M1 H1 v d := by
  induction h with
  | int i => exact .int i
  | bl b => exact .bl b
  | ao => exact .ao
  | str z => exact .str z
  | tup m e hl h ih => exact .tup ⟨x.new _ _ m.1 e, m.2⟩ (x.get m.1 e rfl) hl ih
  | lst m e hl h ih => exact .lst ⟨x.new _ _ m.1 e, m.2⟩ (x.get m.1 e rfl) hl ih
  | dk m e hk hl h ih => exact .dk ⟨x.new _ _ m.1 e.there.choose_spec, m.2⟩ (x.rd m.1 e rfl) hk hl ih
  | dt m e hk hl h ih => exact .dt ⟨x.new _ _ m.1 e.there.choose_spec, m.2⟩ (x.rd m.1 e rfl) hk hl ih
  | bX m e m2 e2 hl h ih => exact .bX ⟨x.new _ _ m.1 e, m.2⟩ (x.get m.1 e rfl) ⟨x.new _ _ m2.1 e2, m2.2⟩ (x.get m2.1 e2 rfl) hl ih
  | set m e => exact .set ⟨x.new _ _ m.1 e, m.2⟩ (x.get m.1 e rfl)
  | ptr m => exact .ptr (x.dom _ m)
  | exc m e => exact .exc ⟨x.new _ _ m.1 e, m.2⟩ (x.get m.1 e rfl)
  | bz m e => exact .bz ⟨x.new _ _ m.1 e, m.2⟩ (x.get m.1 e rfl)
  | cF m e => exact .cF ⟨x.new _ _ m.1 e, m.2⟩ (x.get m.1 e rfl)
  | cG e => exact .cG e
  | raw v => exact .raw v
theorem Rz.ex (x : Ex β M H M1 H1) {v : V} {d : Dv} (h : Rz β M H v d) : Rz β M1 H1 v d := h.ey x.toEy
theorem aN.ex (x : Ex β M H M1 H1) {vs : List V} {ds : List Dv} (h : aN β M H vs ds) : aN β M1 H1 vs ds := ⟨h.len, fun i v d a b => (h.at' i v d a b).ex x⟩
theorem aN.nil : aN β M H [] [] := ⟨rfl, fun i v d h => by simp at h⟩
theorem aN.cons {v : V} {d : Dv} {vs : List V} {ds : List Dv} (h : Rz β M H v d) (t : aN β M H vs ds) : aN β M H (v :: vs) (d :: ds) := ⟨by simp [t.len], fun i x y a b => by
  cases i with
  | zero => simp at a b; subst a b; exact h
  | succ i => rw [List.getElem?_cons_succ] at a b; exact t.at' i x y a b⟩
theorem aN.head {v : V} {d : Dv} {vs : List V} {ds : List Dv} (h : aN β M H (v :: vs) (d :: ds)) : Rz β M H v d := h.at' 0 v d rfl rfl
theorem aN.tail {v : V} {d : Dv} {vs : List V} {ds : List Dv} (h : aN β M H (v :: vs) (d :: ds)) : aN β M H vs ds := ⟨by simpa using h.len, fun i x y a b => h.at' (i + 1) x y (by rw [List.getElem?_cons_succ]; exact a) (by rw [List.getElem?_cons_succ]; exact b)⟩
theorem aN.append {vs yU : List V} {ds fT : List Dv} (h : aN β M H vs ds) (t : aN β M H yU fT) : aN β M H (vs ++ yU) (ds ++ fT) := ⟨by simp [h.len, t.len], fun i x y a b => by
  rw [List.getElem?_append] at a b
  rw [h.len] at a
  split at b
  · rename_i z
    rw [if_pos z] at a
    exact h.at' i x y a b
  · rename_i z
    rw [if_neg z] at a
    exact t.at' _ x y a b⟩
theorem aN.snoc {v : V} {d : Dv} {vs : List V} {ds : List Dv} (t : aN β M H vs ds) (h : Rz β M H v d) : aN β M H (vs ++ [v]) (ds ++ [d]) := t.append (.cons h .nil)
theorem aN.get {vs : List V} {ds : List Dv} (h : aN β M H vs ds) {i : Nat} {d : Dv} (e : ds[i]? = some d) : ∃ v, vs[i]? = some v ∧ Rz β M H v d := by
  have hi := (List.getElem?_eq_some_iff.mp e).1
  have ez : i < vs.length := by rw [h.len]; exact hi
  exact ⟨vs[i], List.getElem?_eq_getElem ez, h.at' i _ _ (List.getElem?_eq_getElem ez) e⟩
theorem aN.get' {vs : List V} {ds : List Dv} (h : aN β M H vs ds) {i : Nat} {v : V} (e : vs[i]? = some v) : ∃ d, ds[i]? = some d ∧ Rz β M H v d := by
  have hi := (List.getElem?_eq_some_iff.mp e).1
  have ez : i < ds.length := by rw [← h.len]; exact hi
  exact ⟨ds[i], List.getElem?_eq_getElem ez, h.at' i _ _ e (List.getElem?_eq_getElem ez)⟩
theorem aN.take {vs : List V} {ds : List Dv} (h : aN β M H vs ds) (n : Nat) : aN β M H (vs.take n) (ds.take n) := ⟨by simp [h.len], fun i x y a b => by
  rw [List.getElem?_take] at a b
  split at a
  · rename_i z; rw [if_pos z] at b; exact h.at' i x y a b
  · cases a⟩
theorem aN.drop {vs : List V} {ds : List Dv} (h : aN β M H vs ds) (n : Nat) : aN β M H (vs.drop n) (ds.drop n) := ⟨by simp [h.len], fun i x y a b => by
  rw [List.getElem?_drop] at a b
  exact h.at' _ x y a b⟩
theorem aN.set {vs : List V} {ds : List Dv} (h : aN β M H vs ds) (n : Nat) {v : V} {d : Dv} (r : Rz β M H v d) : aN β M H (vs.set n v) (ds.set n d) := ⟨by simp [h.len], fun i x y a b => by
  rw [List.getElem?_set] at a b
  rw [h.len] at a
  split at a
  · rename_i z
    rw [if_pos z] at b
    split at a
    · rename_i z2; rw [if_pos z2] at b; cases a; cases b; exact r
    · cases a
  · rename_i z; rw [if_neg z] at b; exact h.at' i x y a b⟩
theorem fv {a : Addr} {vs : List V} {ds : List Dv} (m : Fz β M a) (e : H a = some (.tup vs)) (h : aN β M H vs ds) : Rz β M H (.ref a) (.tup ds) := .tup m e h.len h.at'
theorem lx {a : Addr} {vs : List V} {ds : List Dv} (m : Fz β M a) (e : H a = some (.lst vs)) (h : aN β M H vs ds) : Rz β M H (.ref a) (.lst ds) := .lst m e h.len h.at'
theorem cw {v : V} {ds : List Dv} (h : Rz β M H v (.tup ds)) : ∃ a vs, v = .ref a ∧ Fz β M a ∧ H a = some (.tup vs) ∧ aN β M H vs ds := by
  cases h with
  | tup m e hl h => exact ⟨_, _, rfl, m, e, hl, h⟩
theorem dn {v : V} {ds : List Dv} (h : Rz β M H v (.lst ds)) : ∃ a vs, v = .ref a ∧ Fz β M a ∧ H a = some (.lst vs) ∧ aN β M H vs ds := by
  cases h with
  | lst m e hl h => exact ⟨_, _, rfl, m, e, hl, h⟩
theorem aL {v : V} {i : Int} (h : Rz β M H v (.int i)) : v = .int i := by cases h; rfl
theorem cH {v : V} {b : Bool} (h : Rz β M H v (.bl b)) : v = .bl b := by cases h; rfl
theorem eU {v : V} {z : Str} (h : Rz β M H v (.str z)) : v = .str z := by cases h; rfl
theorem g5 {v : V} (h : Rz β M H v .ao) : v = .ao := by cases h; rfl
theorem jt {v u : V} (h : Rz β M H v (.raw u)) : v = u := by cases h; rfl
theorem cO {v : V} {a : Addr} (h : Rz β M H v (.ptr a)) : v = .ref a ∧ (M a).isSome = true := by cases h with | ptr m => exact ⟨rfl, m⟩
theorem yV {v : V} {ns : List Int} (h : Rz β M H v (.set ns)) : ∃ a, v = .ref a ∧ Fz β M a ∧ H a = some (m5 β.P β.w a ns) := by cases h with | set m e => exact ⟨_, rfl, m, e⟩
theorem ly {v : V} {C : Addr} (h : Rz β M H v (.exc C)) : ∃ a, v = .ref a ∧ Fz β M a ∧ H a = some (m6 C a) := by cases h with | exc m e => exact ⟨_, rfl, m, e⟩
theorem qy {v : V} {ns : List Int} (h : Rz β M H v (.bz ns)) : ∃ a, v = .ref a ∧ bI β.K H a (ns.map V.int) := by
  cases h with
  | bz m e => exact ⟨_, rfl, .inl (.inr ⟨_, e⟩)⟩
  | cF m e => exact ⟨_, rfl, .inl (.inl e)⟩
  | cG e => exact ⟨_, rfl, .inr e⟩
noncomputable def sN : HO → Bool
  | .lst _ => true
  | .dK _ => true
  | .dT _ => true
  | _ => false
theorem Mz.own (m : Mz β M H) {a : Addr} {o : Mo} (e : M a = some o) : ∃ u, H a = some u ∧ sN u = true := by
  have q := m.obj a o e
  cases o with
  | lst ds => obtain ⟨vs, q, _⟩ := q; exact ⟨_, q, rfl⟩
  | dk ks ds => obtain ⟨vs, q, _⟩ := q; exact ⟨_, q, rfl⟩
  | dt ks ds => obtain ⟨vs, q, _⟩ := q; exact ⟨_, q, rfl⟩
  | cY => obtain ⟨_, _, q, _⟩ := q; exact ⟨_, q, rfl⟩
theorem Mz.lz (m : Mz β M H) {a : Addr} {u : HO} (h : H a = some u) (n : sN u = false) : M a = none := by
  cases e : M a with
  | none => rfl
  | some o => obtain ⟨u', q, w⟩ := m.own e; rw [h] at q; cases q; rw [n] at w; cases w
theorem Mz.Kd (m : Mz β M H) {p : Addr} (hp : p ∈ β.tb) : M p = none := let ⟨_, h, _⟩ := m.tabs p hp; m.lz h rfl
theorem Mz.Hy (m : Mz β M H) {p : Addr × Str} (hp : p ∈ β.tb.l) : M p.1 = none := let ⟨_, h, _⟩ := m.lams p hp; m.lz h rfl
theorem Mz.free (m : Mz β M H) {a : Addr} (h : H a = none) : M a = none := by
  cases e : M a with
  | none => rfl
  | some o => obtain ⟨xs, q, _⟩ := m.own e; rw [h] at q; cases q
theorem Mz.fz (m : Mz β M H) {a : Addr} (h : H a = none) : Fz β M a := ⟨m.free h, fun z => by
  obtain ⟨o, e, _⟩ := m.hids a z
  rw [h] at e
  cases e⟩
theorem Bm {p a : Addr} {o : HO} (h : ∃ u, H a = Option.some u) : ∃ u, upd H p o a = Option.some u := by
  unfold upd
  split
  · exact ⟨_, rfl⟩
  · exact h
theorem Ex.lay (m : Mz β M H) {p : Addr} (h : H p = none) (o : HO) : Ex β M H M (upd H p o) := by
  have pre : ∀ b u, H b = some u → upd H p o b = some u := fun b u q => by rw [ak (a9 q h)]; exact q
  have rz : ∀ {v : V} {d : Dv}, Rz β M H v d → Rz β M (upd H p o) v d := fun r => by
    induction r with
    | int i => exact .int i
    | bl b => exact .bl b
    | ao => exact .ao
    | str z => exact .str z
    | tup m e hl h ih => exact .tup m (pre _ _ e) hl ih
    | lst m e hl h ih => exact .lst m (pre _ _ e) hl ih
    | dk m e hk hl h ih => exact .dk m (e.map fun _ h => pre _ _ h) hk hl ih
    | dt m e hk hl h ih => exact .dt m (e.map fun _ h => pre _ _ h) hk hl ih
    | bX m e m2 e2 hl h ih => exact .bX m (pre _ _ e) m2 (pre _ _ e2) hl ih
    | set m e => exact .set m (pre _ _ e)
    | ptr m => exact .ptr m
    | exc m e => exact .exc m (pre _ _ e)
    | bz m e => exact .bz m (pre _ _ e)
    | cF m e => exact .cF m (pre _ _ e)
    | cG e => exact .cG e
    | raw v => exact .raw v
  refine ⟨⟨fun b u _ q => .inl (pre b u q), fun _ h => h, fun _ _ h _ => h⟩, fun a u e => ?_, fun q hq => ?_, fun a ha => (m.hids a ha).upd (.inl h), m.apart, fun q hq => (m.lams q hq).keep (fun _ e => pre _ _ e) fun _ _ _ e => pre _ _ e⟩
  · have z := m.obj a u e
    cases u with
    | lst ds => obtain ⟨vs, z, l, r⟩ := z; exact ⟨vs, pre _ _ z, l, fun i v d a b => rz (r i v d a b)⟩
    | dk ks ds => obtain ⟨vs, z, hk, l, r⟩ := z; exact ⟨vs, pre _ _ z, hk, l, fun i v d a b => rz (r i v d a b)⟩
    | dt ks ds => obtain ⟨vs, z, hk, l, r⟩ := z; exact ⟨vs, pre _ _ z, hk, l, fun i v d a b => rz (r i v d a b)⟩
    | cY => obtain ⟨c, n, z, r⟩ := z; exact ⟨c, n, pre _ _ z, r⟩
  · obtain ⟨ps, e, t⟩ := m.tabs q hq
    exact ⟨ps, pre _ _ e, t⟩
theorem Ex.grow (m : Mz β M H) {p : Addr} (hp : p ∈ β.tb) {ps : Array Value} (t : TriplesOk ps.toList) : Ex β M H M (upd H p (.cu ps)) := by
  obtain ⟨O2, LO, t0⟩ := m.tabs p hp
  have pre : ∀ b u, H b = some u → yT u = true → upd H p (.cu ps) b = some u := fun b u q n => by
    have : b ≠ p := fun z => by subst z; rw [LO] at q; cases q; cases n
    rw [ak this]; exact q
  have rz : ∀ {v : V} {d : Dv}, Rz β M H v d → Rz β M (upd H p (.cu ps)) v d := fun r => by
    induction r with
    | int i => exact .int i
    | bl b => exact .bl b
    | ao => exact .ao
    | str z => exact .str z
    | tup m e hl h ih => exact .tup m (pre _ _ e rfl) hl ih
    | lst m e hl h ih => exact .lst m (pre _ _ e rfl) hl ih
    | dk m e hk hl h ih => exact .dk m (e.Hx rfl fun x hx h => pre _ _ h hx) hk hl ih
    | dt m e hk hl h ih => exact .dt m (e.Hx rfl fun x hx h => pre _ _ h hx) hk hl ih
    | bX m e m2 e2 hl h ih => exact .bX m (pre _ _ e rfl) m2 (pre _ _ e2 rfl) hl ih
    | set m e => exact .set m (pre _ _ e rfl)
    | ptr m => exact .ptr m
    | exc m e => exact .exc m (pre _ _ e rfl)
    | bz m e => exact .bz m (pre _ _ e rfl)
    | cF m e => exact .cF m (pre _ _ e rfl)
    | cG e => exact .cG e
    | raw v => exact .raw v
  refine ⟨⟨fun b u _ q => ?_, fun _ h => h, fun _ _ h _ => h⟩, fun a u e => ?_, fun q hq => ?_, fun a ha => (m.hids a ha).upd (.inr rfl), m.apart, fun q hq => (m.lams q hq).keep (fun _ e => pre _ _ e rfl) fun _ _ _ e => pre _ _ e rfl⟩
  · by_cases e : b = p
    · subst e
      rw [LO] at q
      cases q
      exact .inr ⟨_, .inl ⟨O2, ps, rfl, rfl, t⟩, aC⟩
    · exact .inl (by rw [ak e]; exact q)
  · have z := m.obj a u e
    cases u with
    | lst ds => obtain ⟨vs, z, l, r⟩ := z; exact ⟨vs, pre _ _ z rfl, l, fun i v d a b => rz (r i v d a b)⟩
    | dk ks ds => obtain ⟨vs, z, hk, l, r⟩ := z; exact ⟨vs, pre _ _ z rfl, hk, l, fun i v d a b => rz (r i v d a b)⟩
    | dt ks ds => obtain ⟨vs, z, hk, l, r⟩ := z; exact ⟨vs, pre _ _ z rfl, hk, l, fun i v d a b => rz (r i v d a b)⟩
    | cY => obtain ⟨c, n, z, r⟩ := z; exact ⟨c, n, pre _ _ z rfl, r⟩
  · by_cases e : q = p
    · subst e; exact ⟨ps, aC, t⟩
    · obtain ⟨p2, e2, t2⟩ := m.tabs q hq
      exact ⟨p2, by rw [ak e]; exact e2, t2⟩
noncomputable def aF (M : Mh) (a : Addr) (o : Mo) : Mh := fun b => if b = a then Option.some o else M b
theorem updM_same {a : Addr} {o : Mo} : aF M a o a = Option.some o := by unfold aF; rw [if_pos rfl]
theorem ax {a b : Addr} {o : Mo} (h : b ≠ a) : aF M a o b = M b := by unfold aF; rw [if_neg h]
theorem updM_updM {a : Addr} {o u : Mo} : aF (aF M a o) a u = aF M a u := by funext b; unfold aF; split <;> rfl
theorem om {p : Addr} {o : Mo} {u : HO} (hp : (M p).isSome = true ∨ H p = none) {v : V} {d : Dv} (h : Rz β M H v d) : Rz β (aF M p o) (upd H p u) v d := by
  have ne : ∀ a x, M a = none → H a = Option.some x → a ≠ p := fun a x m e z => by
    subst z
    rcases hp with q | q
    · rw [m] at q; cases q
    · rw [q] at e; cases e
  induction h with
  | int i => exact .int i
  | bl b => exact .bl b
  | ao => exact .ao
  | str z => exact .str z
  | tup m e hl h ih => have n := ne _ _ m.1 e; exact .tup ⟨by rw [ax n]; exact m.1, m.2⟩ (by rw [ak n]; exact e) hl ih
  | lst m e hl h ih => have n := ne _ _ m.1 e; exact .lst ⟨by rw [ax n]; exact m.1, m.2⟩ (by rw [ak n]; exact e) hl ih
  | dk m e hk hl h ih => have n := ne _ _ m.1 e.there.choose_spec; exact .dk ⟨by rw [ax n]; exact m.1, m.2⟩ (e.map fun _ h => by rw [ak n]; exact h) hk hl ih
  | dt m e hk hl h ih => have n := ne _ _ m.1 e.there.choose_spec; exact .dt ⟨by rw [ax n]; exact m.1, m.2⟩ (e.map fun _ h => by rw [ak n]; exact h) hk hl ih
  | bX m e m2 e2 hl h ih => have n := ne _ _ m.1 e; have n2 := ne _ _ m2.1 e2; exact .bX ⟨by rw [ax n]; exact m.1, m.2⟩ (by rw [ak n]; exact e) ⟨by rw [ax n2]; exact m2.1, m2.2⟩ (by rw [ak n2]; exact e2) hl ih
  | set m e => have n := ne _ _ m.1 e; exact .set ⟨by rw [ax n]; exact m.1, m.2⟩ (by rw [ak n]; exact e)
  | ptr m =>
    refine .ptr ?_
    unfold aF
    split
    · rfl
    · exact m
  | exc m e => have n := ne _ _ m.1 e; exact .exc ⟨by rw [ax n]; exact m.1, m.2⟩ (by rw [ak n]; exact e)
  | bz m e => have n := ne _ _ m.1 e; exact .bz ⟨by rw [ax n]; exact m.1, m.2⟩ (by rw [ak n]; exact e)
  | cF m e => have n := ne _ _ m.1 e; exact .cF ⟨by rw [ax n]; exact m.1, m.2⟩ (by rw [ak n]; exact e)
  | cG e => exact .cG e
  | raw v => exact .raw v
theorem il.upd {p : Addr} {o' : Mo} {u : HO} (hp : (M p).isSome = true ∨ H p = none) {a : Addr} {o : Mo} (ha : a ≠ p) (z : il β M H a o) : il β (aF M p o') (L2.upd H p u) a o := by
  cases o with
  | lst ds => obtain ⟨vs, z, l, r⟩ := z; exact ⟨vs, by rw [ak ha]; exact z, l, fun i v d a b => om hp (r i v d a b)⟩
  | dk ks ds => obtain ⟨vs, z, hk, l, r⟩ := z; exact ⟨vs, by rw [ak ha]; exact z, hk, l, fun i v d a b => om hp (r i v d a b)⟩
  | dt ks ds => obtain ⟨vs, z, hk, l, r⟩ := z; exact ⟨vs, by rw [ak ha]; exact z, hk, l, fun i v d a b => om hp (r i v d a b)⟩
  | cY => obtain ⟨c, n, z, r⟩ := z; exact ⟨c, n, by rw [ak ha]; exact z, r⟩
theorem Ex.sN (m : Mz β M H) {p : Addr} {u : HO} {o' : Mo} (hp : (M p).isSome = true ∨ H p = none) (hu : m9 u = true) (r : il β (aF M p o') (upd H p u) p o') : Ex β M H (aF M p o') (upd H p u) := by
  have ne : ∀ a x, M a = none → H a = Option.some x → a ≠ p := fun a x m e z => by
    subst z
    rcases hp with q | q
    · rw [m] at q; cases q
    · rw [q] at e; cases e
  refine ⟨⟨fun b u hm q => .inl ?_, fun a h => ?_, fun a o hm h => ?_⟩, fun a o e => ?_, fun q hq => ?_, fun a ha => (m.hids a ha).upd (.inr hu), fun a o e z => ?_, fun q hq => ?_⟩
  · rw [ak (ne b _ hm q)]; exact q
  · unfold aF
    split
    · rfl
    · exact h
  · rw [ax (ne a _ hm h)]; exact hm
  · by_cases ha : a = p
    · subst ha
      rw [updM_same] at e
      cases e
      exact r
    · rw [ax ha] at e
      exact (m.obj a o e).upd hp ha
  · obtain ⟨ps, e, t⟩ := m.tabs q hq
    exact ⟨ps, by rw [ak (ne q _ (m.Kd hq) e)]; exact e, t⟩
  · by_cases ha : a = p
    · subst ha
      rcases hp with h | h
      · cases q : M a with
        | none => rw [q] at h; cases h
        | some u => exact m.apart a u q z
      · obtain ⟨u, hu, _⟩ := m.hids a z
        rw [h] at hu
        cases hu
    · rw [ax ha] at e
      exact m.apart a o e z
  · exact (m.lams q hq).keep (fun _ e => by rw [ak (ne q.1 _ (m.Hy hq) e)]; exact e) fun c _ _ e => by rw [ak (ne c _ (m.lz e rfl) e)]; exact e
theorem Ex.own (m : Mz β M H) {p : Addr} {vs : List V} {ds : List Dv} (hp : (M p).isSome = true ∨ H p = none) (r : aN β M H vs ds) : Ex β M H (aF M p (.lst ds)) (upd H p (.lst vs)) :=
  Ex.sN m hp rfl ⟨vs, aC, r.len, fun i v d a b => om hp (r.at' i v d a b)⟩
noncomputable abbrev Bz.add (β : Bz) (D : Addr) : Bz := { β with hid := D :: β.hid }
theorem Rz.enter {D : Addr} {o : HO} (hD : H D = none) {v : V} {d : Dv} (h : Rz β M H v d) : Rz (β.add D) M (upd H D o) v d := by
  have ne : ∀ a x, Fz β M a → H a = some x → Fz (β.add D) M a := fun a x m e => ⟨m.1, by
    intro z
    rcases List.mem_cons.mp z with z | z
    · subst z; rw [hD] at e; cases e
    · exact m.2 z⟩
  have pre : ∀ a x, H a = some x → upd H D o a = some x := fun a x e => by rw [ak (a9 e hD)]; exact e
  induction h with
  | int i => exact .int i
  | bl b => exact .bl b
  | ao => exact .ao
  | str z => exact .str z
  | tup m e hl h ih => exact .tup (ne _ _ m e) (pre _ _ e) hl ih
  | lst m e hl h ih => exact .lst (ne _ _ m e) (pre _ _ e) hl ih
  | dk m e hk hl h ih => exact .dk (ne _ _ m e.there.choose_spec) (e.map fun _ h => pre _ _ h) hk hl ih
  | dt m e hk hl h ih => exact .dt (ne _ _ m e.there.choose_spec) (e.map fun _ h => pre _ _ h) hk hl ih
  | bX m e m2 e2 hl h ih => exact .bX (ne _ _ m e) (pre _ _ e) (ne _ _ m2 e2) (pre _ _ e2) hl ih
  | set m e => exact .set (ne _ _ m e) (pre _ _ e)
  | ptr m => exact .ptr m
  | exc m e => exact .exc (ne _ _ m e) (pre _ _ e)
  | bz m e => exact .bz (ne _ _ m e) (pre _ _ e)
  | cF m e => exact .cF (ne _ _ m e) (pre _ _ e)
  | cG e => exact .cG e
  | raw v => exact .raw v
theorem Rz.sub {cx : Bz} (hP : cx.P = β.P) (hw : cx.w = β.w) (hK : cx.K = β.K) (hs : ∀ a, a ∈ cx.hid → a ∈ β.hid) {v : V} {d : Dv} (h : Rz β M H v d) : Rz cx M H v d := by
  have ne : ∀ a, Fz β M a → Fz cx M a := fun a m => ⟨m.1, fun z => m.2 (hs a z)⟩
  induction h with
  | int i => exact .int i
  | bl b => exact .bl b
  | ao => exact .ao
  | str z => exact .str z
  | tup m e hl h ih => exact .tup (ne _ m) e hl ih
  | lst m e hl h ih => exact .lst (ne _ m) e hl ih
  | dk m e hk hl h ih => exact .dk (ne _ m) e hk hl ih
  | dt m e hk hl h ih => exact .dt (ne _ m) e hk hl ih
  | bX m e m2 e2 hl h ih => exact .bX (ne _ m) e (ne _ m2) e2 hl ih
  | set m e => exact .set (ne _ m) (by rw [hP, hw]; exact e)
  | ptr m => exact .ptr m
  | exc m e => exact .exc (ne _ m) e
  | bz m e => exact .bz (ne _ m) e
  | cF m e => exact .cF (ne _ m) e
  | cG e => exact .cG (by rw [hK]; exact e)
  | raw v => exact .raw v
theorem Mz.sub {cx : Bz} (hP : cx.P = β.P) (hw : cx.w = β.w) (hK : cx.K = β.K) (ht : cx.tb = β.tb) (hs : ∀ a, a ∈ cx.hid → a ∈ β.hid) (m : Mz β M H) : Mz cx M H := ⟨fun a o e => by
  have z := m.obj a o e
  cases o with
  | lst ds => obtain ⟨vs, z, l, r⟩ := z; exact ⟨vs, z, l, fun i v d a b => (r i v d a b).sub hP hw hK hs⟩
  | dk ks ds => obtain ⟨vs, z, hk, l, r⟩ := z; exact ⟨vs, z, hk, l, fun i v d a b => (r i v d a b).sub hP hw hK hs⟩
  | dt ks ds => obtain ⟨vs, z, hk, l, r⟩ := z; exact ⟨vs, z, hk, l, fun i v d a b => (r i v d a b).sub hP hw hK hs⟩
  | cY => exact z, by rw [ht]; exact m.tabs, fun a ha => m.hids a (hs a ha), fun a o e z => m.apart a o e (hs a z), by rw [ht]; exact m.lams⟩
theorem Mz.enter {D : Addr} {o : HO} (hD : H D = none) (ho : m9 o = true) (m : Mz β M H) : Mz (β.add D) M (upd H D o) := ⟨fun a u e => by
  have pre : ∀ a x, H a = Option.some x → upd H D o a = Option.some x := fun a x e => by rw [ak (a9 e hD)]; exact e
  have z := m.obj a u e
  cases u with
  | lst ds => obtain ⟨vs, z, l, r⟩ := z; exact ⟨vs, pre _ _ z, l, fun i v d a b => (r i v d a b).enter hD⟩
  | dk ks ds => obtain ⟨vs, z, hk, l, r⟩ := z; exact ⟨vs, pre _ _ z, hk, l, fun i v d a b => (r i v d a b).enter hD⟩
  | dt ks ds => obtain ⟨vs, z, hk, l, r⟩ := z; exact ⟨vs, pre _ _ z, hk, l, fun i v d a b => (r i v d a b).enter hD⟩
  | cY => obtain ⟨c, n, z, r⟩ := z; exact ⟨c, n, pre _ _ z, r⟩, fun p hp => by
  obtain ⟨ps, e, t⟩ := m.tabs p hp
  exact ⟨ps, by rw [ak (a9 e hD)]; exact e, t⟩, fun a ha => by
  rcases List.mem_cons.mp ha with z | z
  · subst z; exact ⟨_, aC, ho⟩
  · exact (m.hids a z).upd (.inl hD), fun a o e ha => by
  rcases List.mem_cons.mp ha with z | z
  · subst z; rw [m.free hD] at e; cases e
  · exact m.apart a o e z, fun q hq => (m.lams q hq).keep (fun _ e => by rw [ak (a9 e hD)]; exact e) fun _ _ _ e => by rw [ak (a9 e hD)]; exact e⟩
theorem Rz.over {D : Addr} {o : HO} (hD : D ∈ β.hid) {v : V} {d : Dv} (h : Rz β M H v d) : Rz β M (upd H D o) v d := by
  have pre : ∀ a x, Fz β M a → H a = some x → upd H D o a = some x := fun a x m e => by
    have n : a ≠ D := fun z => by subst z; exact m.2 hD
    rw [ak n]; exact e
  induction h with
  | int i => exact .int i
  | bl b => exact .bl b
  | ao => exact .ao
  | str z => exact .str z
  | tup m e hl h ih => exact .tup m (pre _ _ m e) hl ih
  | lst m e hl h ih => exact .lst m (pre _ _ m e) hl ih
  | dk m e hk hl h ih => exact .dk m (e.map fun _ h => pre _ _ m h) hk hl ih
  | dt m e hk hl h ih => exact .dt m (e.map fun _ h => pre _ _ m h) hk hl ih
  | bX m e m2 e2 hl h ih => exact .bX m (pre _ _ m e) m2 (pre _ _ m2 e2) hl ih
  | set m e => exact .set m (pre _ _ m e)
  | ptr m => exact .ptr m
  | exc m e => exact .exc m (pre _ _ m e)
  | bz m e => exact .bz m (pre _ _ m e)
  | cF m e => exact .cF m (pre _ _ m e)
  | cG e => exact .cG e
  | raw v => exact .raw v
theorem Mz.over {D : Addr} {o : HO} (hD : D ∈ β.hid) (ho : m9 o = true) (hM : M D = none) (ht : D ∉ β.tb) (m : Mz β M H) : Mz β M (upd H D o) := ⟨fun a u e => by
  have na : a ≠ D := fun z => by subst z; rw [hM] at e; cases e
  have z := m.obj a u e
  cases u with
  | lst ds => obtain ⟨vs, z, l, r⟩ := z; exact ⟨vs, by rw [ak na]; exact z, l, fun i v d a b => (r i v d a b).over hD⟩
  | dk ks ds => obtain ⟨vs, z, hk, l, r⟩ := z; exact ⟨vs, by rw [ak na]; exact z, hk, l, fun i v d a b => (r i v d a b).over hD⟩
  | dt ks ds => obtain ⟨vs, z, hk, l, r⟩ := z; exact ⟨vs, by rw [ak na]; exact z, hk, l, fun i v d a b => (r i v d a b).over hD⟩
  | cY => obtain ⟨c, n, z, r⟩ := z; exact ⟨c, n, by rw [ak na]; exact z, r⟩, fun p hp => by
  obtain ⟨ps, e, t⟩ := m.tabs p hp
  have n : p ≠ D := fun z => by subst z; exact ht hp
  exact ⟨ps, by rw [ak n]; exact e, t⟩, fun a ha => (m.hids a ha).upd (.inr ho), m.apart, fun q hq => by
  obtain ⟨o', e', n⟩ := m.hids D hD
  exact (m.lams q hq).keep (fun _ e => by rw [ak (fun z => by subst z; rw [e'] at e; cases e; cases n)]; exact e) fun c _ _ e => by rw [ak (fun z => by subst z; rw [e'] at e; cases e; cases n)]; exact e⟩
theorem Ey.over {D : Addr} {o : HO} (x : Ey M H M1 H1) (hD : H D = none) : Ey M H M1 (upd H1 D o) := ⟨fun b u m h => by
  have nb : b ≠ D := a9 h hD
  rw [ak nb]
  exact x.keep b u m h, x.dom, x.new⟩
theorem Mz.Nv {D : Addr} (m : Mz β M H) (hD : H D = none) : D ∉ β.tb := fun z => by
  obtain ⟨_, e, _⟩ := m.tabs D z
  rw [hD] at e
  cases e
structure Bx (β cx : Bz) (H : Hp) : Prop where
  P : cx.P = β.P
  w : cx.w = β.w
  K : cx.K = β.K
  tb : cx.tb = β.tb
  old : ∀ a, a ∈ β.hid → a ∈ cx.hid
  new : ∀ a, a ∈ cx.hid → a ∈ β.hid ∨ H a = none
theorem Bx.refl : Bx β β H := ⟨rfl, rfl, rfl, rfl, fun _ h => h, fun _ h => .inl h⟩
theorem Bx.add {D : Addr} (hD : H D = none) : Bx β (β.add D) H := ⟨rfl, rfl, rfl, rfl, fun _ h => List.mem_cons_of_mem _ h, fun a h => by
  rcases List.mem_cons.mp h with z | z
  · exact .inr (z ▸ hD)
  · exact .inl z⟩
theorem Rz.bx {cx : Bz} (b : Bx β cx H) {v : V} {d : Dv} (h : Rz β M H v d) : Rz cx M H v d := by
  have ne : ∀ a x, Fz β M a → H a = some x → Fz cx M a := fun a x m e => ⟨m.1, fun z => by
    rcases b.new a z with q | q
    · exact m.2 q
    · rw [q] at e; cases e⟩
  induction h with
  | int i => exact .int i
  | bl b => exact .bl b
  | ao => exact .ao
  | str z => exact .str z
  | tup m e hl h ih => exact .tup (ne _ _ m e) e hl ih
  | lst m e hl h ih => exact .lst (ne _ _ m e) e hl ih
  | dk m e hk hl h ih => exact .dk (ne _ _ m e.there.choose_spec) e hk hl ih
  | dt m e hk hl h ih => exact .dt (ne _ _ m e.there.choose_spec) e hk hl ih
  | bX m e m2 e2 hl h ih => exact .bX (ne _ _ m e) e (ne _ _ m2 e2) e2 hl ih
  | set m e => exact .set (ne _ _ m e) (by rw [b.P, b.w]; exact e)
  | ptr m => exact .ptr m
  | exc m e => exact .exc (ne _ _ m e) e
  | bz m e => exact .bz (ne _ _ m e) e
  | cF m e => exact .cF (ne _ _ m e) e
  | cG e => exact .cG (by rw [b.K]; exact e)
  | raw v => exact .raw v
end
inductive Pin (M : Mh) : Dv → Prop where
  | int (i : Int) : Pin M (.int i)
  | bl (b : Bool) : Pin M (.bl b)
  | ao : Pin M .ao
  | str (z : Str) : Pin M (.str z)
  | tup {ds : List Dv} (h : ∀ d ∈ ds, Pin M d) : Pin M (.tup ds)
  | lst {ds : List Dv} (h : ∀ d ∈ ds, Pin M d) : Pin M (.lst ds)
  | set (ns : List Int) : Pin M (.set ns)
  | ptr {a : Addr} (h : (M a).isSome = true) : Pin M (.ptr a)
  | exc (C : Addr) : Pin M (.exc C)
  | bz (ns : List Int) : Pin M (.bz ns)
  | raw (v : V) : Pin M (.raw v)
  | dk {ks : List Key} {ds : List Dv} (h : ∀ d ∈ ds, Pin M d) : Pin M (.dk ks ds)
  | dt {ks : List (List Key)} {ds : List Dv} (h : ∀ d ∈ ds, Pin M d) : Pin M (.dt ks ds)
  | bX {f c : Addr} {o oc : Obj} {vs : List V} {ds : List Dv} (h : ∀ d ∈ ds, Pin M d) : Pin M (.bX f o c oc vs ds)
theorem Rz.pin {β : Bz} {M : Mh} {H : Hp} {v : V} {d : Dv} (h : Rz β M H v d) : Pin M d := by
  induction h with
  | int i => exact .int i
  | bl b => exact .bl b
  | ao => exact .ao
  | str z => exact .str z
  | tup m e hl h ih =>
    refine .tup fun d hd => ?_
    obtain ⟨i, hi⟩ := List.mem_iff_getElem?.mp hd
    have h1 := (List.getElem?_eq_some_iff.mp hi).1
    exact ih i _ d (List.getElem?_eq_getElem (by omega)) hi
  | lst m e hl h ih =>
    refine .lst fun d hd => ?_
    obtain ⟨i, hi⟩ := List.mem_iff_getElem?.mp hd
    have h1 := (List.getElem?_eq_some_iff.mp hi).1
    exact ih i _ d (List.getElem?_eq_getElem (by omega)) hi
  | dk m e hk hl h ih =>
    refine .dk fun d hd => ?_
    obtain ⟨i, hi⟩ := List.mem_iff_getElem?.mp hd
    have h1 := (List.getElem?_eq_some_iff.mp hi).1
    exact ih i _ d (List.getElem?_eq_getElem (by omega)) hi
  | dt m e hk hl h ih =>
    refine .dt fun d hd => ?_
    obtain ⟨i, hi⟩ := List.mem_iff_getElem?.mp hd
    have h1 := (List.getElem?_eq_some_iff.mp hi).1
    exact ih i _ d (List.getElem?_eq_getElem (by omega)) hi
  | bX m e m2 e2 hl h ih =>
    refine .bX fun d hd => ?_
    obtain ⟨i, hi⟩ := List.mem_iff_getElem?.mp hd
    have h1 := (List.getElem?_eq_some_iff.mp hi).1
    exact ih i _ d (List.getElem?_eq_getElem (by omega)) hi
  | set m e => exact .set _
  | ptr m => exact .ptr m
  | exc m e => exact .exc _
  | bz m e => exact .bz _
  | cF m e => exact .bz _
  | cG e => exact .bz _
  | raw v => exact .raw v
noncomputable def Mo.items : Mo → List Dv
  | .lst ds => ds
  | .dk _ ds => ds
  | .dt _ ds => ds
  | .cY => []
noncomputable def Wf (M : Mh) : Prop := ∀ b o, M b = some o → ∀ d ∈ o.items, Pin M d
theorem il.O3 {β : Bz} {M : Mh} {H : Hp} {a : Addr} {o : Mo} (h : il β M H a o) : ∃ vs, aN β M H vs o.items := by
  cases o with
  | lst ds => obtain ⟨vs, _, rs⟩ := h; exact ⟨vs, rs⟩
  | dk ks ds => obtain ⟨vs, _, _, rs⟩ := h; exact ⟨vs, rs⟩
  | dt ks ds => obtain ⟨vs, _, _, rs⟩ := h; exact ⟨vs, rs⟩
  | cY => exact ⟨[], .nil⟩
theorem Mz.wf {β : Bz} {M : Mh} {H : Hp} (m : Mz β M H) : Wf M := fun b o e d hd => by
  obtain ⟨vs, rs⟩ := (m.obj b _ e).O3
  obtain ⟨i, hi⟩ := List.mem_iff_getElem?.mp hd
  obtain ⟨v, _, r⟩ := rs.get hi
  exact r.pin
noncomputable abbrev ay := List (Option Dv)
noncomputable abbrev ZK := Dv → Mh → Prop
noncomputable abbrev aS := ay → Mh → ZK → Prop
noncomputable abbrev cZ := ay → Mh → (Bool → Mh → Prop) → Prop
noncomputable abbrev eL := ay → Mh → (List Dv → Mh → Prop) → Prop
structure gr where
  nx : ay → Mh → Prop
  rt : ZK
  bk : ay → Mh → Prop := fun _ _ => False
  ct : ay → Mh → Prop := fun _ _ => False
noncomputable abbrev bS := gr → ay → Mh → Prop
noncomputable abbrev cA := Dv → ay → Mh → (ay → Mh → Prop) → Prop
noncomputable abbrev lB := List Dv → ay → Mh → (ay → Mh → Prop) → Prop
noncomputable abbrev fV := ay → Mh → (List Dv → Mh → Prop) → Prop
structure Gz extends Bz where
  M0 : Mh
  H0 : Hp
structure Zr (Γ : Gz) (β : Bz) (M : Mh) (ρ : ay) (σ : St) (H : Hp) : Prop where
  eP : β.P = Γ.P
  ew : β.w = Γ.w
  eK : β.K = Γ.K
  et : β.tb = Γ.tb
  sub : ∀ a, a ∈ Γ.hid → a ∈ β.hid
  wf : Wf Γ.M0
  ent : Ey Γ.M0 Γ.H0 M H
  mz : Mz β M H
  len : ρ.length = σ.length
  at' : ∀ (i : Nat) (d : Dv), ρ[i]? = some (some d) → ∃ v, σ[i]? = some (some v) ∧ Rz β M H v d
section
variable {Γ : Gz} {β : Bz} {M M' : Mh} {ρ : ay} {σ : St} {H H' : Hp}
theorem Zr.step (z : Zr Γ β M ρ σ H) (x : Ex β M H M' H') : Zr Γ β M' ρ σ H' := ⟨z.eP, z.ew, z.eK, z.et, z.sub, z.wf, z.ent.trans x.toEy, x.mz, z.len, fun i d e => let ⟨v, h, r⟩ := z.at' i d e; ⟨v, h, r.ex x⟩⟩
theorem Zr.set (z : Zr Γ β M ρ σ H) (i : Nat) {v : V} {d : Dv} (r : Rz β M H v d) : Zr Γ β M (ρ.set i (some d)) (σ.set i (some v)) H := ⟨z.eP, z.ew, z.eK, z.et, z.sub, z.wf, z.ent, z.mz, by simp [z.len], fun j e h => by
  rw [List.getElem?_set] at h ⊢
  rw [z.len] at h
  split at h
  · rename_i q
    rw [if_pos q]
    split at h
    · rename_i q2
      rw [if_pos q2]
      cases h
      exact ⟨v, rfl, r⟩
    · cases h
  · rename_i q
    rw [if_neg q]
    exact z.at' j e h⟩
end
noncomputable def lE (Γ : Gz) (p : aS) : TE := fun σ H Q => ∃ (β : Bz) (ρ : ay) (M : Mh) (Q' : ZK), Zr Γ β M ρ σ H ∧ p ρ M Q' ∧ ∀ d M' v H', Ex β M H M' H' → Rz β M' H' v d → Q' d M' → Q v H'
noncomputable def lT (Γ : Gz) (p : cZ) : TT := fun σ H Q => ∃ (β : Bz) (ρ : ay) (M : Mh) (Q' : Bool → Mh → Prop), Zr Γ β M ρ σ H ∧ p ρ M Q' ∧ ∀ b M' H', Ex β M H M' H' → Q' b M' → Q b H'
noncomputable def lA (Γ : Gz) (p : eL) : TA := fun σ H Q => ∃ (β : Bz) (ρ : ay) (M : Mh) (Q' : List Dv → Mh → Prop), Zr Γ β M ρ σ H ∧ p ρ M Q' ∧ ∀ ds M' vs H', Ex β M H M' H' → aN β M' H' vs ds → Q' ds M' → Q vs H'
structure Ev (β : Bz) (M : Mh) (H : Hp) (M' : Mh) (H' : Hp) : Prop where
  keep : ∀ b o, M b = none → H b = some o → H' b = some o ∨ ∃ o', Tg o o' ∧ H' b = some o'
  new : ∀ a o, M a = none → H a = some o → M' a = none
  mz : Mz β M' H'
theorem Ex.ev {β : Bz} {M M' : Mh} {H H' : Hp} (x : Ex β M H M' H') : Ev β M H M' H' := ⟨x.keep, x.new, x.mz⟩
theorem Ev.refl {β : Bz} {M : Mh} {H : Hp} (m : Mz β M H) : Ev β M H M H := (Ex.refl m).ev
theorem Ev.trans {β : Bz} {M M1 M2 : Mh} {H H1 H2 : Hp} (x : Ev β M H M1 H1) (y : Ev β M1 H1 M2 H2) : Ev β M H M2 H2 := by
  refine ⟨fun b o hm h => ?_, fun a o hm h => ?_, y.mz⟩
  · have jS := x.new b o hm h
    rcases x.keep b o hm h with q | ⟨o1, t, q⟩
    · exact y.keep b o jS q
    · rcases y.keep b _ jS q with q2 | ⟨o2, t2, q2⟩
      · exact .inr ⟨o1, t, q2⟩
      · exact .inr ⟨o2, t.trans t2, q2⟩
  · have jS := x.new a o hm h
    rcases x.keep a o hm h with q | ⟨o1, t, q⟩
    · exact y.new a _ jS q
    · exact y.new a _ jS q
structure wx (Γ : Gz) (β : Bz) (M : Mh) (H : Hp) (D' : gr) (D : Ends) : Prop where
  nx : ∀ bA M' aA H', Ev β M H M' H' → Zr Γ β M' bA aA H' → D'.nx bA M' → D.nx aA H'
  rt : ∀ d M' v H', Ev β M H M' H' → Ey Γ.M0 Γ.H0 M' H' → Rz β M' H' v d → D'.rt d M' → D.rt v H'
  bk : ∀ bA M' aA H', Ev β M H M' H' → Zr Γ β M' bA aA H' → D'.bk bA M' → D.bk aA H'
  ct : ∀ bA M' aA H', Ev β M H M' H' → Zr Γ β M' bA aA H' → D'.ct bA M' → D.ct aA H'
theorem wx.step {Γ : Gz} {β : Bz} {M M1 : Mh} {H H1 : Hp} {D' : gr} {D : Ends} (r : wx Γ β M H D' D) (x : Ev β M H M1 H1) : wx Γ β M1 H1 D' D :=
  ⟨fun a b c d y => r.nx a b c d (x.trans y), fun a b c d y => r.rt a b c d (x.trans y), fun a b c d y => r.bk a b c d (x.trans y), fun a b c d y => r.ct a b c d (x.trans y)⟩
noncomputable def lS (Γ : Gz) (p : bS) : TS := fun D σ H => ∃ (β : Bz) (ρ : ay) (M : Mh) (D' : gr), Zr Γ β M ρ σ H ∧ p D' ρ M ∧ wx Γ β M H D' D
noncomputable def lG (Γ : Gz) (p : cA) : TG := fun x σ H N => ∃ (β : Bz) (d : Dv) (ρ : ay) (M : Mh) (N' : ay → Mh → Prop), Zr Γ β M ρ σ H ∧ Rz β M H x d ∧ p d ρ M N' ∧ ∀ bA M' aA H', Ex β M H M' H' → Zr Γ β M' bA aA H' → N' bA M' → N aA H'
noncomputable def O4 (Γ : Gz) (p : lB) : nJ := fun xs σ H N => ∃ (β : Bz) (ds : List Dv) (ρ : ay) (M : Mh) (N' : ay → Mh → Prop), Zr Γ β M ρ σ H ∧ aN β M H xs ds ∧ p ds ρ M N' ∧ ∀ bA M' aA H', Ex β M H M' H' → Zr Γ β M' bA aA H' → N' bA M' → N aA H'
noncomputable def yW (β : Bz) (J : It) (ds : List Dv) (M : Mh) (H : Hp) : Prop := ∀ cx M' H', Bx β cx H → Ey M H M' H' → Mz cx M' H' → ∀ i, (i < ds.length → J.go i H' ∧ ∀ x lC, J.yld i H' x lC → Ex cx M' H' M' lC ∧ ∃ d, ds[i]? = some d ∧ Rz cx M' lC x d) ∧ (ds.length ≤ i → J.stop i H')
noncomputable def lI (Γ : Gz) (p : fV) : TI := fun σ H R => ∃ (β : Bz) (ρ : ay) (M : Mh) (R' : List Dv → Mh → Prop), Zr Γ β M ρ σ H ∧ p ρ M R' ∧ ∀ ds M' H' J, Ex β M H M' H' → yW β J ds M' H' → R' ds M' → R J H'
noncomputable abbrev QE (Γ : Gz) (X : Cx) (e : Expr) (p : aS) : Prop := PE X e (lE Γ p)
noncomputable abbrev QT (Γ : Gz) (X : Cx) (e : Expr) (p : cZ) : Prop := PT X e (lT Γ p)
noncomputable abbrev QW (Γ : Gz) (X : Cx) (e : Expr) (p : cZ) : Prop := PW X e (lT Γ p)
noncomputable abbrev QA (Γ : Gz) (X : Cx) (es : List Expr) (p : eL) : Prop := PA X es (lA Γ p)
noncomputable abbrev QS (Γ : Gz) (X : Cx) (s : Stmt) (p : bS) : Prop := PS X s (lS Γ p)
noncomputable abbrev iY (Γ : Gz) (X : Cx) (s : List Stmt) (p : bS) : Prop := eJ X s (lS Γ p)
noncomputable abbrev QG (Γ : Gz) (X : Cx) (e : Expr) (p : cA) : Prop := PG X e (lG Γ p)
noncomputable abbrev C3 (Γ : Gz) (X : Cx) (e : List Expr) (p : lB) : Prop := pQ X e (O4 Γ p)
noncomputable abbrev QI (Γ : Gz) (X : Cx) (tg e : Expr) (p : fV) : Prop := PI X tg e (lI Γ p)
section
variable {X : Cx}
theorem PE.imp {e : Expr} {t t' : TE} (h : PE X e t) (i : ∀ σ H Q, t' σ H Q → t σ H Q) : PE X e t' := ⟨fun pins s σ H Q I q => h pins s σ H Q I (i _ _ _ q)⟩
theorem PT.imp {e : Expr} {t t' : TT} (h : PT X e t) (i : ∀ σ H Q, t' σ H Q → t σ H Q) : PT X e t' := ⟨fun pins s σ H Q I q => h pins s σ H Q I (i _ _ _ q)⟩
theorem PW.imp {e : Expr} {t t' : TT} (h : PW X e t) (i : ∀ σ H Q, t' σ H Q → t σ H Q) : PW X e t' := fun wh pins s σ H Q I q => h wh pins s σ H Q I (i _ _ _ q)
theorem PA.imp {e : List Expr} {t t' : TA} (h : PA X e t) (i : ∀ σ H Q, t' σ H Q → t σ H Q) : PA X e t' := ⟨fun pos pins s σ H Q I q => h pos pins s σ H Q I (i _ _ _ q)⟩
theorem PS.imp {e : Stmt} {t t' : TS} (h : PS X e t) (i : ∀ D σ H, t' D σ H → t D σ H) : PS X e t' := ⟨fun pins s σ H D I q => h pins s σ H D I (i _ _ _ q)⟩
theorem eJ.imp {e : List Stmt} {t t' : TS} (h : eJ X e t) (i : ∀ D σ H, t' D σ H → t D σ H) : eJ X e t' := ⟨fun pins s σ H D I q => h pins s σ H D I (i _ _ _ q)⟩
theorem PG.imp {e : Expr} {t t' : TG} (h : PG X e t) (i : ∀ v σ H Q, t' v σ H Q → t v σ H Q) : PG X e t' := fun pins s σ H v u Q I r q => h pins s σ H v u Q I r (i _ _ _ _ q)
theorem pQ.imp {e : List Expr} {t t' : nJ} (h : pQ X e t) (i : ∀ v σ H Q, t' v σ H Q → t v σ H Q) : pQ X e t' := fun pins s σ H v u Q I r q => h pins s σ H v u Q I r (i _ _ _ _ q)
theorem PI.imp {tg e : Expr} {t t' : TI} (h : PI X tg e t) (i : ∀ σ H Q, t' σ H Q → t σ H Q) : PI X tg e t' := fun pins s σ H Q I q => h pins s σ H Q I (i _ _ _ q)
theorem jO.imp {e : List Expr} {t t' : TT} (h : jO X e t) (i : ∀ σ H Q, t' σ H Q → t σ H Q) : jO X e t' := fun pins s σ H Q I q => h pins s σ H Q I (i _ _ _ q)
variable {Γ : Gz} {a b c : Expr} {pa pb pc : aS} {pos : Pos}
noncomputable def zVar (i : Nat) : aS := fun ρ M Q => match ρ[i]? with | some (some d) => Q d M | _ => False
noncomputable def zC (d : Dv) : aS := fun _ M Q => Q d M
theorem Hz {i : Nat} {x : Str} (hN : X.N[i]? = some x) (hv : nE X.env.scope x) (hd : (x == ("__debug__" : Str)) = false := by decide) (dM : (x == ("__classdict__" : Str)) = false := by decide) : QE Γ X (.Name x pos) (zVar i) :=
  (xB hN hv hd dM).imp fun σ H Q ⟨β, ρ, M, Q', z, h, q⟩ => by
    unfold zVar at h
    split at h
    · rename_i d e
      obtain ⟨v, e2, r⟩ := z.at' i d e
      exact ⟨v, e2, q d M v H (.refl z.mz) r h⟩
    · exact h.elim
theorem qc {e : Expr} {v : V} {d : Dv} (h : PE X e (tC v)) (r : ∀ β M H, Rz β M H v d) : QE Γ X e (zC d) := h.imp fun σ H Q ⟨β, ρ, M, Q', z, h, q⟩ => q d M v H (.refl z.mz) (r β M H) h
theorem af {i j pos} : QE Γ X (.Constant (.int i) j pos) (zC (.int i)) := qc FI fun _ _ _ => .int _
theorem dI {b j pos} : QE Γ X (.Constant (.bool b) j pos) (zC (.bl b)) := qc JE fun _ _ _ => .bl _
theorem jW {j pos} : QE Γ X (.Constant .none j pos) (zC .ao) := qc FJ fun _ _ _ => .ao
theorem aU {x j pos} : QE Γ X (.Constant (.str x) j pos) (zC (.str x)) := qc FK fun _ _ _ => .str _
theorem Bn {x : Str} {i : Int} {u : Value} (hg : Gl X x) (hm : X.mg x = some u) (r : RelV (.int i) u) (hd : (x == ("__debug__" : Str)) = false := by decide) : QE Γ X (.Name x pos) (zC (.int i)) := qc (uO hg hm r hd) fun _ _ _ => .int _
theorem bH {x : Str} {v : V} {u : Value} (hg : Gl X x) (hm : X.mg x = some u) (r : RelV v u) (hd : (x == ("__debug__" : Str)) = false := by decide) : QE Γ X (.Name x pos) (zC (.raw v)) := qc (uO hg hm r hd) fun _ _ _ => .raw _
theorem iH {x : Str} {v : V} {u : Value} (hg : Gl X x) (hm : X.mg x = none) (hv : bootBuiltins x = some u) (r : RelV v u) (hn : x ≠ "__name__" := by decide) (hd : (x == ("__debug__" : Str)) = false := by decide) : QE Γ X (.Name x pos) (zC (.raw v)) := qc (DE hg hm hv r hn hd) fun _ _ _ => .raw _
noncomputable abbrev dQ := Dv → Dv → Mh → ZK → Prop
noncomputable def qz (Γ : Gz) (r : R2) (z : dQ) : Prop := ∀ (β : Bz) x y d e M H Q Q', β.P = Γ.P → β.w = Γ.w → β.K = Γ.K → Mz β M H → Rz β M H x d → Rz β M H y e → z d e M Q' → (∀ d' M' v H', Ex β M H M' H' → Rz β M' H' v d' → Q' d' M' → Q v H') → r x y H Q
noncomputable def eO (Γ : Gz) (X : Cx) (f : Value → Value → Sem Value) (z : dQ) : Prop := ∃ r, OpR X f r ∧ qz Γ r z
noncomputable def zOp (z : dQ) (pa pb : aS) : aS := fun ρ M Q => pa ρ M fun d M1 => pb ρ M1 fun e M2 => z d e M2 Q
theorem wy {r : R2} {z : dQ} (hz : qz Γ r z) {σ : St} {H : Hp} {Q : VK} (h : lE Γ (zOp z pa pb) σ H Q) : xM r (lE Γ pa) (lE Γ pb) σ H Q := by
  obtain ⟨β, ρ, M, Q', zr, h, q⟩ := h
  exact ⟨β, ρ, M, _, zr, h, fun d M1 v H1 x1 r1 h1 => ⟨β, ρ, M1, _, zr.step x1, h1, fun e M2 u H2 x2 r2 h2 => hz β v u d e M2 H2 Q Q' zr.eP zr.ew zr.eK x2.mz (r1.ex x2) r2 h2 fun d' M' v' H' x3 r3 q3 => q _ _ _ _ (x1.trans (x2.trans x3)) r3 q3⟩⟩
theorem aD {op : Operator} {z : dQ} (ho : eO Γ X (binaryOp op) z) (ha : QE Γ X a pa) (hb : QE Γ X b pb) : QE Γ X (.BinOp a op b pos) (zOp z pa pb) := by
  obtain ⟨r, h1, h2⟩ := ho
  exact (JN h1 ha hb).imp fun σ H Q h => wy h2 h
theorem vh {op : CmpOp} {z : dQ} (ho : eO Γ X (compareOp op) z) (ha : QE Γ X a pa) (hb : QE Γ X b pb) (hm : behindInMarks op b = false) : QE Γ X (.Compare a [op] [b] pos) (zOp z pa pb) := by
  obtain ⟨r, h1, h2⟩ := ho
  exact (DN h1 ha hb hm).imp fun σ H Q h => wy h2 h
noncomputable def zBool (Q : Bool → Mh → Prop) : ZK := fun d M => match d with | .bl k => Q k M | _ => False
theorem iZ {Q : Bool → Mh → Prop} {d : Dv} {M : Mh} (h : zBool Q d M) : ∃ k, d = .bl k ∧ Q k M := by
  unfold zBool at h
  split at h
  · exact ⟨_, rfl, h⟩
  · exact h.elim
noncomputable def zTest (p : aS) : cZ := fun ρ M Q => p ρ M (zBool Q)
theorem sO {p : aS} {t : TE} (i : ∀ σ H Q, lE Γ p σ H Q → t σ H Q) {σ : St} {H : Hp} {Q : Bool → Hp → Prop} (h : lT Γ (zTest p) σ H Q) : vK t σ H Q := by
  obtain ⟨β, ρ, M, Q', zr, h, q⟩ := h
  refine i _ _ _ ⟨β, ρ, M, _, zr, h, fun d M1 v H1 x1 r1 h1 => ?_⟩
  obtain ⟨k, rfl, h2⟩ := iZ h1
  exact ⟨k, cH r1, q k M1 H1 x1 h2⟩
theorem bT {op : CmpOp} {z : dQ} (ho : eO Γ X (compareOp op) z) (ha : QE Γ X a pa) (hb : QE Γ X b pb) (hm : behindInMarks op b = false) : QT Γ X (.Compare a [op] [b] pos) (zTest (zOp z pa pb)) := by
  obtain ⟨r, h1, h2⟩ := ho
  exact (DP h1 ha hb hm).imp fun σ H Q h => sO (fun _ _ _ => wy h2) h
theorem i5 {e : Expr} {p : aS} (h : QE Γ X e p) (he : ∀ whole, isTrue e X.env whole = (do let v ← whole; standAt e.pos; holding [v] (truthy v)) := by intro _; rfl) : QT Γ X e (zTest p) :=
  (FL h he).imp fun σ H Q h => sO (fun _ _ _ h => h) h
noncomputable def zChain (z z' : dQ) (pa pb pc : aS) : aS := fun ρ M Q => pa ρ M fun x M1 => pb ρ M1 fun y M2 => z x y M2 (zBool fun k M3 => if k = true then pc ρ M3 fun u M4 => z' y u M4 Q else Q (.bl false) M3)
theorem vi {r r' : R2} {z z' : dQ} (hz : qz Γ r z) (O5 : qz Γ r' z') {σ : St} {H : Hp} {Q : VK} (h : lE Γ (zChain z z' pa pb pc) σ H Q) : rQ r r' (lE Γ pa) (lE Γ pb) (lE Γ pc) σ H Q := by
  obtain ⟨β, ρ, M, Q', zr, h, q⟩ := h
  refine ⟨β, ρ, M, _, zr, h, fun d M1 v H1 x1 r1 h1 => ⟨β, ρ, M1, _, zr.step x1, h1, fun e M2 u H2 x2 r2 h2 => hz β v u d e M2 H2 _ _ zr.eP zr.ew zr.eK x2.mz (r1.ex x2) r2 h2 fun d' M3 v' H3 x3 r3 h3 => ?_⟩⟩
  obtain ⟨k, rfl, h4⟩ := iZ h3
  have kM := x1.trans (x2.trans x3)
  refine ⟨k, cH r3, ?_⟩
  cases k with
  | true =>
    rw [if_pos rfl] at h4 ⊢
    exact ⟨β, ρ, M3, _, zr.step kM, h4, fun f M4 g H4 x4 r4 h5 => O5 β u g e f M4 H4 _ _ zr.eP zr.ew zr.eK x4.mz ((r2.ex x3).ex x4) r4 h5 fun d5 M5 v5 H5 x5 r5 q5 => q _ _ _ _ (kM.trans (x4.trans x5)) r5 q5⟩
  | false =>
    rw [if_neg Bool.false_ne_true] at h4 ⊢
    exact q _ _ _ _ kM (.bl _) h4
theorem Bo {op iO : CmpOp} {z z' : dQ} (ho : eO Γ X (compareOp op) z) (gA : eO Γ X (compareOp iO) z') (ha : QE Γ X a pa) (hb : QE Γ X b pb) (hc : QE Γ X c pc) (hm : lastMarks [op, iO] [b, c] = false := by with_unfolding_all rfl) :
    QE Γ X (.Compare a [op, iO] [b, c] pos) (zChain z z' pa pb pc) := by
  obtain ⟨r, h1, h2⟩ := ho
  obtain ⟨r', HA, HB⟩ := gA
  exact (Ay h1 HA ha hb hc hm).imp fun σ H Q h => vi h2 HB h
theorem sP {op iO : CmpOp} {z z' : dQ} (ho : eO Γ X (compareOp op) z) (gA : eO Γ X (compareOp iO) z') (ha : QE Γ X a pa) (hb : QE Γ X b pb) (hc : QE Γ X c pc) (hm : lastMarks [op, iO] [b, c] = false := by with_unfolding_all rfl) :
    QT Γ X (.Compare a [op, iO] [b, c] pos) (zTest (zChain z z' pa pb pc)) := by
  obtain ⟨r, h1, h2⟩ := ho
  obtain ⟨r', HA, HB⟩ := gA
  exact (Az h1 HA ha hb hc hm).imp fun σ H Q h => sO (fun _ _ _ => vi h2 HB) h
variable {tA nI : cZ} {rest : List Expr}
noncomputable def zAnd (t u : cZ) : cZ := fun ρ M Q => t ρ M fun c M1 => if c = true then u ρ M1 Q else Q false M1
noncomputable def zOr (t u : cZ) : cZ := fun ρ M Q => t ρ M fun c M1 => if c = true then Q true M1 else u ρ M1 Q
noncomputable def zNot (t : cZ) : cZ := fun ρ M Q => t ρ M fun c M1 => Q (!c) M1
theorem El (ha : QT Γ X a tA) : QW Γ X (.BoolOp .And [a] pos) tA := DF ha
theorem oo (ha : QT Γ X a tA) : QW Γ X (.BoolOp .Or [a] pos) tA := FN ha
theorem HC (ha : QT Γ X a tA) (hb : QW Γ X (.BoolOp .And (b :: rest) pos) nI) : QW Γ X (.BoolOp .And (a :: b :: rest) pos) (zAnd tA nI) :=
  (FO ha hb).imp fun σ H Q ⟨β, ρ, M, Q', zr, h, q⟩ => ⟨β, ρ, M, _, zr, h, fun k M1 H1 x1 h1 => by
    cases k with
    | true => rw [if_pos rfl] at h1 ⊢; exact ⟨β, ρ, M1, _, zr.step x1, h1, fun k2 M2 H2 x2 h2 => q _ _ _ (x1.trans x2) h2⟩
    | false => rw [if_neg Bool.false_ne_true] at h1 ⊢; exact q _ _ _ x1 h1⟩
theorem rj (ha : QT Γ X a tA) (hb : QW Γ X (.BoolOp .Or (b :: rest) pos) nI) : QW Γ X (.BoolOp .Or (a :: b :: rest) pos) (zOr tA nI) :=
  (JF ha hb).imp fun σ H Q ⟨β, ρ, M, Q', zr, h, q⟩ => ⟨β, ρ, M, _, zr, h, fun k M1 H1 x1 h1 => by
    cases k with
    | false => rw [if_neg Bool.false_ne_true] at h1 ⊢; exact ⟨β, ρ, M1, _, zr.step x1, h1, fun k2 M2 H2 x2 h2 => q _ _ _ (x1.trans x2) h2⟩
    | true => rw [if_pos rfl] at h1 ⊢; exact q _ _ _ x1 h1⟩
theorem i6 (ha : QT Γ X a tA) : QT Γ X (.UnaryOp .Not a pos) (zNot tA) := (FP ha).imp fun σ H Q ⟨β, ρ, M, Q', zr, h, q⟩ => ⟨β, ρ, M, _, zr, h, fun k M1 H1 x1 h1 => q _ _ _ x1 h1⟩
theorem QW.pt {e : Expr} {t : cZ} (h : QW Γ X e t) : QT Γ X e t := PW.pt h
noncomputable def zAndV (pa pb : aS) : aS := fun ρ M Q => pa ρ M (zBool fun c M1 => if c = true then pb ρ M1 Q else Q (.bl false) M1)
noncomputable def zNotV (pa : aS) : aS := fun ρ M Q => pa ρ M (zBool fun c M1 => Q (.bl (!c)) M1)
theorem oq {op} (h : QE Γ X a pa) : QE Γ X (.BoolOp op [a] pos) pa := FQ h
theorem ou (ha : QE Γ X a pa) (hb : QE Γ X (.BoolOp .And (b :: rest) pos) pb) : QE Γ X (.BoolOp .And (a :: b :: rest) pos) (zAndV pa pb) :=
  (FR ha hb).imp fun σ H Q ⟨β, ρ, M, Q', zr, h, q⟩ => ⟨β, ρ, M, _, zr, h, fun d M1 v H1 x1 r1 h1 => by
    obtain ⟨k, rfl, h2⟩ := iZ h1
    refine ⟨k, cH r1, ?_⟩
    cases k with
    | true => rw [if_pos rfl] at h2 ⊢; exact ⟨β, ρ, M1, _, zr.step x1, h2, fun d2 M2 v2 H2 x2 r2 h2 => q _ _ _ _ (x1.trans x2) r2 h2⟩
    | false => rw [if_neg Bool.false_ne_true] at h2 ⊢; exact q _ _ _ _ x1 (.bl _) h2⟩
theorem HD (ha : QE Γ X a pa) : QE Γ X (.UnaryOp .Not a pos) (zNotV pa) := (FT ha).imp fun σ H Q ⟨β, ρ, M, Q', zr, h, q⟩ => ⟨β, ρ, M, _, zr, h, fun d M1 v H1 x1 r1 h1 => by
    obtain ⟨k, rfl, h2⟩ := iZ h1
    exact ⟨k, cH r1, q _ _ _ _ x1 (.bl _) h2⟩⟩
noncomputable def zNil : eL := fun _ M Q => Q [] M
noncomputable def zCons (p : aS) (r : eL) : eL := fun ρ M Q => p ρ M fun d M1 => r ρ M1 fun ds M2 => Q (d :: ds) M2
variable {es : List Expr} {za : eL}
theorem ae : QA Γ X [] zNil := xS.imp fun σ H Q ⟨β, ρ, M, Q', zr, h, q⟩ => q [] M [] H (.refl zr.mz) .nil h
theorem aa {e : Expr} (ha : QE Γ X e pa) (hr : QA Γ X es za) (hs : starEach (e :: es) X.env = (false, eval e X.env) :: starEach es X.env := by rfl) : QA Γ X (e :: es) (zCons pa za) :=
  (uT ha hr hs).imp fun σ H Q ⟨β, ρ, M, Q', zr, h, q⟩ => ⟨β, ρ, M, _, zr, h, fun d M1 v H1 x1 r1 h1 => ⟨β, ρ, M1, _, zr.step x1, h1, fun ds M2 vs H2 x2 r2 h2 => q _ _ _ _ (x1.trans x2) (.cons (r1.ex x2) r2) h2⟩⟩
noncomputable def zTup (p : eL) : aS := fun ρ M Q => p ρ M fun ds M1 => ds.length ≤ sizeLine ∧ Q (.tup ds) M1
noncomputable def zLst (p : eL) : aS := fun ρ M Q => p ρ M fun ds M1 => ds.length ≤ sizeLine ∧ Q (.lst ds) M1
noncomputable def zLstP (p : eL) : aS := fun ρ M Q => p ρ M fun ds M1 => ds.length ≤ sizeLine ∧ ∀ a, M1 a = none → Q (.ptr a) (aF M1 a (.lst ds))
theorem aw {x1} (h : QA Γ X es za) : QE Γ X (.Tuple es x1 pos) (zTup za) := (Gh h).imp fun σ H Q ⟨β, ρ, M, Q', zr, h, q⟩ => ⟨β, ρ, M, _, zr, h, fun ds M1 vs H1 x1 r1 h1 => ⟨by rw [r1.len]; exact h1.1, fun p hp => by
    have x2 := Ex.lay x1.mz hp (.tup vs)
    exact q _ _ _ _ (x1.trans x2) (fv (x1.mz.fz hp) aC (r1.ex x2)) h1.2⟩⟩
theorem b5 (h : QA Γ X es za) : QE Γ X (.List es pos) (zLst za) := (xT h).imp fun σ H Q ⟨β, ρ, M, Q', zr, h, q⟩ => ⟨β, ρ, M, _, zr, h, fun ds M1 vs H1 x1 r1 h1 => ⟨by rw [r1.len]; exact h1.1, fun p hp => by
    have x2 := Ex.lay x1.mz hp (.lst vs)
    exact q _ _ _ _ (x1.trans x2) (lx (x1.mz.fz hp) aC (r1.ex x2)) h1.2⟩⟩
theorem vj (h : QA Γ X es za) : QE Γ X (.List es pos) (zLstP za) := (xT h).imp fun σ H Q ⟨β, ρ, M, Q', zr, h, q⟩ => ⟨β, ρ, M, _, zr, h, fun ds M1 vs H1 x1 r1 h1 => ⟨by rw [r1.len]; exact h1.1, fun p hp => by
    have x2 := Ex.own x1.mz (.inr hp) r1
    exact q _ _ _ _ (x1.trans x2) (.ptr (by rw [updM_same]; rfl)) (h1.2 p (x1.mz.free hp))⟩⟩
noncomputable abbrev ow := List Dv → Mh → ZK → Prop
noncomputable def C4 (Γ : Gz) (r : List V → Hp → VK → Prop) (z : ow) : Prop := ∀ (β : Bz) xs ds M H Q Q', β.P = Γ.P → β.w = Γ.w → β.K = Γ.K → Mz β M H → aN β M H xs ds → z ds M Q' → (∀ d' M' v H', Ex β M H M' H' → Rz β M' H' v d' → Q' d' M' → Q v H') → r xs H Q
noncomputable def fE (Γ : Gz) (X : Cx) (f : Value) (z : ow) : Prop := ∃ r, cL X f r ∧ C4 Γ r z
noncomputable def zCB (z : ow) (p : eL) : aS := fun ρ M Q => p ρ M fun ds M1 => z ds M1 Q
theorem HE {r : List V → Hp → VK → Prop} {z : ow} (hz : C4 Γ r z) {σ : St} {H : Hp} {Q : VK} (h : lE Γ (zCB z za) σ H Q) : Gk r (lA Γ za) σ H Q := by
  obtain ⟨β, ρ, M, Q', zr, h, q⟩ := h
  exact ⟨β, ρ, M, _, zr, h, fun ds M1 vs H1 x1 r1 h1 => hz β vs ds M1 H1 _ _ zr.eP zr.ew zr.eK x1.mz r1 h1 fun d' M' v' H' x2 r2 q2 => q _ _ _ _ (x1.trans x2) r2 q2⟩
variable {st : Stmt} {xE : List Stmt} {p p2 : bS} {e : Expr} {pe : aS}
noncomputable def zNext : bS := fun D ρ M => D.nx ρ M
noncomputable def zSeq (p q : bS) : bS := fun D ρ M => p { D with nx := q D } ρ M
theorem qss_nil : iY Γ X [] zNext := DG.imp fun D σ H ⟨β, ρ, M, D', zr, h, r⟩ => r.nx ρ M σ H (.refl zr.mz) zr h
theorem aj (h1 : QS Γ X st p) (h2 : iY Γ X xE p2) : iY Γ X (st :: xE) (zSeq p p2) := (Ap h1 h2).imp fun D σ H ⟨β, ρ, M, D', zr, h, r⟩ =>
  ⟨β, ρ, M, _, zr, h, fun bA M' aA H' x gu h' => ⟨β, bA, M', D', gu, h', r.step x⟩, r.rt, r.bk, r.ct⟩
theorem az (h1 : QS Γ X st p) : iY Γ X [st] p := DH h1
noncomputable def zDrop (p : aS) : bS := fun D ρ M => p ρ M fun _ M1 => D.nx ρ M1
theorem fW (he : QE Γ X e pe) (hs : swapsWith e none pos.line X.env = pure false := by rfl) : QS Γ X (.Expr e pos) (zDrop pe) := (DI he hs).imp fun D σ H ⟨β, ρ, M, D', zr, h, r⟩ =>
  ⟨β, ρ, M, _, zr, h, fun d M1 v H1 x1 r1 h1 => r.nx ρ M1 σ H1 x1.ev (zr.step x1) h1⟩
noncomputable def zRet (p : aS) : bS := fun D ρ M => p ρ M D.rt
theorem bg (he : QE Γ X e pe) : QS Γ X (.Return (some e) pos) (zRet pe) := (FU he).imp fun D σ H ⟨β, ρ, M, D', zr, h, r⟩ => ⟨β, ρ, M, _, zr, h, fun d M' v H' x r1 h1 => r.rt _ _ _ _ x.ev (zr.ent.trans x.toEy) r1 h1⟩
noncomputable def zIfS (c : cZ) (p q : bS) : bS := fun D ρ M => c ρ M fun b M1 => if b = true then p D ρ M1 else q D ρ M1
theorem cM {as bs : List Stmt} {pa pb : bS} (hc : QT Γ X c tA) (ha : iY Γ X as pa) (hb : iY Γ X bs pb) : QS Γ X (.If c as bs pos) (zIfS tA pa pb) := (JL hc ha hb).imp fun D σ H ⟨β, ρ, M, D', zr, h, r⟩ =>
  ⟨β, ρ, M, _, zr, h, fun k M1 H1 x1 h1 => by
    cases k with
    | true => rw [if_pos rfl] at h1 ⊢; exact ⟨β, ρ, M1, D', zr.step x1, h1, r.step x1.ev⟩
    | false => rw [if_neg Bool.false_ne_true] at h1 ⊢; exact ⟨β, ρ, M1, D', zr.step x1, h1, r.step x1.ev⟩⟩
noncomputable def zNever : bS := fun _ _ _ => False
theorem Nw : QS Γ X st zNever := Aq.imp fun D σ H ⟨β, ρ, M, D', zr, h, r⟩ => h
theorem lD : iY Γ X xE zNever := xD.imp fun D σ H ⟨β, ρ, M, D', zr, h, r⟩ => h
noncomputable def zgName (i : Nat) : cA := fun d ρ M N => N (ρ.set i (some d)) M
theorem bF {i : Nat} {x : Str} (hN : X.N.Nodup) (hi : X.N[i]? = some x) (hx : Loc X.env.scope x) (hf : X.fn x = true ∨ X.env.scope.names.lookup x = some .local := by first | exact .inl rfl | exact .inr rfl | assumption) : QG Γ X (.Name x pos) (zgName i) :=
  (DJ hN hi hx hf).imp fun v σ H N ⟨β, d, ρ, M, N', zr, r, h, q⟩ => q _ _ _ _ (.refl zr.mz) (zr.set i r) h
noncomputable def zgNil : lB := fun ds ρ M N => match ds with | [] => N ρ M | _ => False
noncomputable def zgCons (g : cA) (u : lB) : lB := fun ds ρ M N => match ds with | d :: r => g d ρ M fun bA M' => u r bA M' N | [] => False
theorem Em : C3 Γ X [] zgNil := DK.imp fun vs σ H N ⟨β, ds, ρ, M, N', zr, r, h, q⟩ => by
  unfold zgNil at h
  split at h
  · have e : vs = [] := List.length_eq_zero_iff.mp r.len
    exact ⟨e, q _ _ _ _ (.refl zr.mz) zr h⟩
  · exact h.elim
theorem sQ {g : cA} {u : lB} (h1 : QG Γ X e g) (h2 : C3 Γ X es u) (hs : (assignEach (e :: es) X.env).map (·.2) = assign e X.env :: (assignEach es X.env).map (·.2) := by rfl) : C3 Γ X (e :: es) (zgCons g u) :=
  (As h1 h2 hs).imp fun vs σ H N ⟨β, ds, ρ, M, N', zr, r, h, q⟩ => by
    unfold zgCons at h
    split at h
    · rename_i d rest
      cases vs with
      | nil => exact absurd r.len (by simp)
      | cons v vs => exact ⟨v, vs, rfl, β, d, ρ, M, _, zr, r.head, h, fun bA M' aA H' x gu h' => ⟨β, rest, bA, M', N', gu, r.tail.ex x, h', fun a b c d y => q a b c d (x.trans y)⟩⟩
    · exact h.elim
noncomputable def zgTup (n : Nat) (u : lB) : cA := fun d ρ M N => match d with | .tup ds => ds.length = n ∧ u ds ρ M N | _ => False
theorem HF {k : Nat} {u : lB} {n : Nat} (hc : X.calm = true) (h : C3 Γ X es u) (hn : (assignEach es X.env).length = n := by rfl) (ig : (assignEach es X.env).findIdx? (·.1) = none := by rfl) : QG Γ X (.Tuple es k pos) (zgTup n u) :=
  (FW hc h hn ig).imp fun v σ H N ⟨β, d, ρ, M, N', zr, r, h, q⟩ => by
    unfold zgTup at h
    split at h
    · obtain ⟨a, vs, rfl, m, e, rs⟩ := cw r
      exact ⟨a, vs, rfl, bJ.of e, by rw [rs.len]; exact h.1, β, _, ρ, M, N', zr, rs, h.2, q⟩
    · exact h.elim
noncomputable def zAsg (p : aS) (g : cA) : bS := fun D ρ M => p ρ M fun d M1 => g d ρ M1 D.nx
theorem Ke {g : cA} {D : Ends} {σ : St} {H : Hp} (h : lS Γ (zAsg pe g) D σ H) : oR (lE Γ pe) (lG Γ g) D σ H := by
  obtain ⟨β, ρ, M, D', zr, h, r⟩ := h
  exact ⟨β, ρ, M, _, zr, h, fun d M1 v H1 x1 r1 h1 => ⟨β, d, ρ, M1, D'.nx, zr.step x1, r1, h1, fun bA M' aA H' x gu h' => r.nx _ _ _ _ (x1.trans x).ev gu h'⟩⟩
theorem jX {tg : Expr} {g : cA} (he : QE Γ X e pe) (hg : QG Γ X tg g) (hs : swapsWithSole [tg] e pos.line X.env = pure false := by rfl) (hw : swappedStores [tg] e X.env = pure none := by rfl)
    (h1 : (assignEach [tg] X.env).map (·.2) = [assign tg X.env] := by rfl) : QS Γ X (.Assign [tg] e pos) (zAsg pe g) := (FY he hg hs hw h1).imp fun D σ H h => Ke h
theorem wz {t : TE} (i : ∀ σ H Q, lE Γ pe σ H Q → t σ H Q) {n : Nat} {D : Ends} {σ : St} {H : Hp} (h : lS Γ (zAsg pe (zgName n)) D σ H) : oR t (nK n) D σ H := by
  obtain ⟨β, ρ, M, D', zr, h, r⟩ := h
  exact i _ _ _ ⟨β, ρ, M, _, zr, h, fun d M1 v H1 x1 r1 h1 => r.nx _ _ _ _ x1.ev ((zr.step x1).set n r1) h1⟩
theorem aJ {i : Nat} {x : Str} {pos' : Pos} (hN : X.N.Nodup) (hi : X.N[i]? = some x) (hx : Loc X.env.scope x) (he : QE Γ X e pe) (hs : swapsWith e (some (.Name x pos')) pos.line X.env = pure false := by rfl) (hf : X.fn x = true ∨ X.env.scope.names.lookup x = some .local := by first | exact .inl rfl | exact .inr rfl | assumption) :
    QS Γ X (.Assign [.Name x pos'] e pos) (zAsg pe (zgName i)) := (FZ hN hi hx he hs hf).imp fun D σ H h => wz (fun _ _ _ h => h) h
end
section
variable {X : Cx} {Γ : Gz} {β : Bz}
noncomputable def ziTup (p : aS) : fV := fun ρ M R => p ρ M fun d M1 => match d with | .tup ds => R ds M1 | _ => False
noncomputable def ziLst (p : aS) : fV := fun ρ M R => p ρ M fun d M1 => match d with | .lst ds => R ds M1 | _ => False
noncomputable def dR (lo : Int) (n : Nat) : List Dv := (List.range n).map fun i => .int (lo + (i : Nat))
noncomputable def ziRng1 (p : eL) : fV := fun ρ M R => p ρ M fun ds M1 => match ds with | [.int j] => -(2 ^ 62) ≤ j ∧ j < 2 ^ 62 ∧ R (dR 0 j.toNat) M1 | _ => False
noncomputable def ziRng2 (p : eL) : fV := fun ρ M R => p ρ M fun ds M1 => match ds with | [.int i, .int j] => (-(2 ^ 62) ≤ i ∧ i < 2 ^ 62 ∧ -(2 ^ 62) ≤ j ∧ j < 2 ^ 62) ∧ R (dR i (j - i).toNat) M1 | _ => False
theorem j9 {J : It} {vs : List V} {ds : List Dv} {M : Mh} {H : Hp} (r : aN β M H vs ds) (h : ∀ M' H', Ey M H M' H' → Runs J vs H') : yW β J ds M H := fun cx M' H' bx x m i => by
  have q := h M' H' x i
  rw [← r.len]
  refine ⟨fun hi => ⟨(q.1 hi).1, fun v lC y => ?_⟩, q.2⟩
  obtain ⟨e, hv⟩ := (q.1 hi).2 v lC y
  subst e
  obtain ⟨d, hd, rd⟩ := r.get' hv
  exact ⟨.refl m, d, hd, (rd.bx bx).ey x⟩
variable {tg l : Expr} {p : aS} {pa : eL} {K : PySem.W.Frag}
theorem ox (hK : X.K = K) (hl : QE Γ X l p) : QI Γ X tg l (ziTup p) := (D3 hK hl).imp fun σ H R ⟨β, ρ, M, R', zr, h, q⟩ => ⟨β, ρ, M, _, zr, h, fun d M1 v H1 x1 r1 h1 => by
  revert h1
  split
  · intro h1
    obtain ⟨a, vs, rfl, m, e, rs⟩ := cw r1
    exact ⟨a, rfl, ⟨_, bJ.of e⟩, q _ _ _ _ x1 (j9 rs fun M' H' x => AW (bJ.of (x.get m.1 e rfl))) h1⟩
  · exact fun h => h.elim⟩
theorem o5 (hK : X.K = K) (hl : QE Γ X l p) : QI Γ X tg l (ziLst p) := (AX hK hl).imp fun σ H R ⟨β, ρ, M, R', zr, h, q⟩ => ⟨β, ρ, M, _, zr, h, fun d M1 v H1 x1 r1 h1 => by
  revert h1
  split
  · intro h1
    obtain ⟨a, vs, rfl, m, e, rs⟩ := dn r1
    exact ⟨a, rfl, ⟨_, bI.of e⟩, q _ _ _ _ x1 (j9 rs fun M' H' x => yp (bI.of (x.get m.1 e rfl))) h1⟩
  · exact fun h => h.elim⟩
theorem qA {lo : Int} {n : Nat} {M : Mh} {H : Hp} : aN β M H ((List.range n).map fun i => V.int (lo + (i : Nat))) (dR lo n) := ⟨by simp [dR], fun i v d a b => by
  unfold dR at b
  rw [List.getElem?_map] at a b
  cases e : (List.range n)[i]? with
  | none => rw [e] at a; cases a
  | some c => rw [e] at a b; cases a; cases b; exact .int _⟩
theorem dS {xs : List V} {d : Dv} {M : Mh} {H : Hp} (r : aN β M H xs [d]) : ∃ v, xs = [v] ∧ Rz β M H v d := by
  match xs, r with
  | [v], r => exact ⟨v, rfl, r.head⟩
  | [], r => exact absurd r.len (by simp)
  | _ :: _ :: _, r => exact absurd r.len (by simp)
theorem gG {xs : List V} {d e : Dv} {M : Mh} {H : Hp} (r : aN β M H xs [d, e]) : ∃ v u, xs = [v, u] ∧ Rz β M H v d ∧ Rz β M H u e := by
  match xs, r with
  | [v, u], r => exact ⟨v, u, rfl, r.head, r.tail.head⟩
  | [], r => exact absurd r.len (by simp)
  | [_], r => exact absurd r.len (by simp)
  | _ :: _ :: _ :: _, r => exact absurd r.len (by simp)
section
variable {e e1 e2 : Expr} {pr pos : Pos}
theorem HG {σ : St} {H : Hp} {R : It → Hp → Prop} (h : lI Γ (ziRng1 pa) σ H R) : CF (lA Γ pa) σ H R := by
  obtain ⟨β, ρ, M, R', zr, h, q⟩ := h
  refine ⟨β, ρ, M, _, zr, h, fun ds M1 vs H1 x1 r1 h1 => ?_⟩
  revert h1
  split
  · rintro ⟨b1, b2, h1⟩
    obtain ⟨v, rfl, r⟩ := dS r1
    rw [aL r]
    exact ⟨_, rfl, b1, b2, q _ _ _ _ x1 (j9 qA fun M' H' x => nZ) h1⟩
  · exact fun h => h.elim
theorem HH {σ : St} {H : Hp} {R : It → Hp → Prop} (h : lI Γ (ziRng2 pa) σ H R) : CG (lA Γ pa) σ H R := by
  obtain ⟨β, ρ, M, R', zr, h, q⟩ := h
  refine ⟨β, ρ, M, _, zr, h, fun ds M1 vs H1 x1 r1 h1 => ?_⟩
  revert h1
  split
  · rintro ⟨b1, h1⟩
    obtain ⟨v, u, rfl, r, r'⟩ := gG r1
    rw [aL r, aL r']
    exact ⟨_, _, rfl, b1, q _ _ _ _ x1 (j9 qA fun M' H' x => nZ) h1⟩
  · exact fun h => h.elim
end
noncomputable def zLoop (g : cA) (tb : bS) (D : gr) : List Dv → ay → Mh → Prop
  | [], ρ, M => D.nx ρ M
  | d :: ds, ρ, M => g d ρ M fun fw M2 => tb { D with nx := zLoop g tb D ds, ct := zLoop g tb D ds, bk := D.nx } fw M2
noncomputable def zFor (zi : fV) (g : cA) (tb : bS) : bS := fun D ρ M => zi ρ M fun ds M1 => zLoop g tb D ds ρ M1
noncomputable def zForM (zi : fV) (g : cA) (tb : Mh → bS) : bS := fun D ρ M => zi ρ M fun ds M1 => zLoop g (tb M1) D ds ρ M1
theorem Zr.root {M : Mh} {ρ : ay} {σ : St} {H : Hp} (z : Zr Γ β M ρ σ H) : Zr ⟨β, M, H⟩ β M ρ σ H := ⟨rfl, rfl, rfl, rfl, fun _ h => h, z.mz.wf, .refl, z.mz, z.len, z.at'⟩
theorem Zr.yX {M M1 : Mh} {ρ LQ : ay} {σ mF : St} {H H1 : Hp} (z : Zr Γ β M ρ σ H) (y : Zr ⟨β, M, H⟩ β M1 LQ mF H1) : Zr Γ β M1 LQ mF H1 := ⟨z.eP, z.ew, z.eK, z.et, z.sub, z.wf, z.ent.trans y.ent, y.mz, y.len, y.at'⟩
theorem Kf {zi : fV} {g : cA} {tb : Mh → bS} {t : TS} (hb : ∀ aV : Gz, aV.P = Γ.P → aV.w = Γ.w → aV.K = Γ.K → aV.tb = Γ.tb → ∀ D σ H, lS aV (tb aV.M0) D σ H → t D σ H) {tg : TG} (hg : ∀ aV : Gz, aV.P = Γ.P → aV.w = Γ.w → aV.K = Γ.K → aV.tb = Γ.tb → ∀ x σ H N, lG aV g x σ H N → tg x σ H N) {D : Ends} {σ : St} {H : Hp} (h : lS Γ (zForM zi g tb) D σ H) : F4 (lI Γ zi) tg t D σ H := by
  obtain ⟨β, ρ, M, D', zr, h, r⟩ := h
  refine ⟨β, ρ, M, _, zr, h, fun ds M1 H1 J x1 it h1 => ?_⟩
  have kN := zr.step x1
  refine ⟨fun i m aA H' => m = ds.length - i ∧ i ≤ ds.length ∧ ∃ bA M', Zr ⟨β, M1, H1⟩ β M' bA aA H' ∧ zLoop g (tb M1) D' (ds.drop i) bA M', ⟨ds.length, rfl, Nat.zero_le _, ρ, M1, kN.root, h1⟩, ?_⟩
  rintro i m aA H' ⟨rfl, hi, bA, M', gu, h'⟩
  have ev : ∀ {M2 : Mh} {fw : ay} {gU : St} {H2 : Hp}, Zr ⟨β, M1, H1⟩ β M2 fw gU H2 → Ev β M H M2 H2 := fun z => x1.ev.trans ⟨z.ent.keep, z.ent.new, z.mz⟩
  by_cases bO : i < ds.length
  · have q := (it β M' H' .refl gu.ent gu.mz i).1 bO
    refine .inr ⟨q.1, fun gU H2 => ∃ fw M2, Zr ⟨β, M1, H1⟩ β M2 fw gU H2 ∧ zLoop g (tb M1) D' (ds.drop (i + 1)) fw M2, fun gU H2 ⟨fw, M2, O6, h2⟩ => ⟨ds.length - (i + 1), by omega, rfl, bO, fw, M2, O6, h2⟩, fun v lC y => ?_⟩
    obtain ⟨x2, d, hd, rd⟩ := q.2 v lC y
    have e : ds.drop i = d :: ds.drop (i + 1) := by
      rw [List.drop_eq_getElem_cons bO]
      rw [List.getElem?_eq_getElem bO] at hd
      cases hd
      rfl
    rw [e] at h'
    refine hg ⟨β, M1, H1⟩ zr.eP zr.ew zr.eK zr.et _ _ _ _ ⟨β, d, bA, M', _, gu.step x2, rd, h', fun O7 M3 kz H3 x3 O8 h3 => hb ⟨β, M1, H1⟩ zr.eP zr.ew zr.eK zr.et _ _ _ ⟨β, O7, M3, _, O8, h3, ?_⟩⟩
    exact ⟨fun oy M4 yY H4 x4 kO h4 => ⟨oy, M4, kO, h4⟩, fun d4 M4 v4 H4 x4 e4 r4 h4 => r.rt _ _ _ _ (x1.ev.trans ⟨e4.keep, e4.new, x4.mz⟩) (kN.ent.trans e4) r4 h4, fun oy M4 yY H4 x4 kO h4 => r.nx _ _ _ _ (ev kO) (kN.yX kO) h4, fun oy M4 yY H4 x4 kO h4 => ⟨oy, M4, kO, h4⟩⟩
  · have e : i = ds.length := by omega
    subst e
    rw [List.drop_length] at h'
    exact .inl ⟨(it β M' H' .refl gu.ent gu.mz _).2 (Nat.le_refl _), r.nx _ _ _ _ (ev gu) (kN.yX gu) h'⟩
noncomputable def O9 (Γ : Gz) (p : Mh → bS) : TS := fun D σ H => ∃ aV : Gz, aV.P = Γ.P ∧ aV.w = Γ.w ∧ aV.K = Γ.K ∧ aV.tb = Γ.tb ∧ lS aV (p aV.M0) D σ H
noncomputable def Pa (Γ : Gz) (p : cA) : TG := fun x σ H N => ∃ aV : Gz, aV.P = Γ.P ∧ aV.w = Γ.w ∧ aV.K = Γ.K ∧ aV.tb = Γ.tb ∧ lG aV p x σ H N
theorem En {body : List Stmt} {iter : Expr} {zi : fV} {g : cA} {tb : Mh → bS} {pos : Pos} (hp : PassesOwn (model X.prog X.w) X.A X.env X.xe) (hc : X.calm = true) (hi : QI Γ X tg iter zi)
    (C5 : ∀ (aV : Gz) (M1 : Mh), aV.M0 = M1 → aV.P = Γ.P → aV.w = Γ.w → aV.K = Γ.K → aV.tb = Γ.tb → QG aV X tg g ∧ iY aV X body (tb M1))
    (hs : ∀ x, foldedSetIterable iter X.env x = pure x := by intro _; rfl) : QS Γ X (.For tg iter body [] pos) (zForM zi g tb) :=
  (F5 (g := Pa Γ g) (tb := O9 Γ tb) hp hc hi (fun pins s σ H v u Q I r h => by obtain ⟨aV, e1, e2, e3, e4, h⟩ := h; exact (C5 aV _ rfl e1 e2 e3 e4).1 pins s σ H v u Q I r h) ⟨fun pins s σ H D I h => by obtain ⟨aV, e1, e2, e3, e4, h⟩ := h; exact (C5 aV _ rfl e1 e2 e3 e4).2 pins s σ H D I h⟩ hs).imp
    fun D σ H h => Kf (fun aV e1 e2 e3 e4 D σ H h => ⟨aV, e1, e2, e3, e4, h⟩) (fun aV e1 e2 e3 e4 x σ H N h => ⟨aV, e1, e2, e3, e4, h⟩) h
theorem oz {body : List Stmt} {iter : Expr} {zi : fV} {g : cA} {tb : bS} {pos : Pos} (hp : PassesOwn (model X.prog X.w) X.A X.env X.xe) (hc : X.calm = true) (hi : QI Γ X tg iter zi)
    (C5 : ∀ aV : Gz, aV.P = Γ.P → aV.w = Γ.w → aV.K = Γ.K → aV.tb = Γ.tb → QG aV X tg g ∧ iY aV X body tb)
    (hs : ∀ x, foldedSetIterable iter X.env x = pure x := by intro _; rfl) : QS Γ X (.For tg iter body [] pos) (zFor zi g tb) := En (tb := fun _ => tb) hp hc hi (fun aV M1 _ e1 e2 e3 e4 => C5 aV e1 e2 e3 e4) hs
theorem dq {a : Expr} {p pos : Pos} (hg : Gl X "range") (hm : X.mg "range" = none) (ha : QA Γ X [a] pa) (hs : starEach [a] X.env = [(false, eval a X.env)] := by rfl) : QI Γ X tg (.Call (.Name "range" p) [a] [] pos) (ziRng1 pa) := (xI hg hm ha hs).imp fun σ H R h => HG h
theorem yZ {a b : Expr} {p pos : Pos} (hg : Gl X "range") (hm : X.mg "range" = none) (ha : QA Γ X [a, b] pa) (hs : starEach [a, b] X.env = [(false, eval a X.env), (false, eval b X.env)] := by rfl) (CH : starEach [b] X.env = [(false, eval b X.env)] := by rfl) :
    QI Γ X tg (.Call (.Name "range" p) [a, b] [] pos) (ziRng2 pa) := (xJ hg hm ha hs CH).imp fun σ H R h => HH h
noncomputable def y0 (c : cZ) (tb : bS) : bS := fun D ρ M => ∃ W : Nat → ay → Mh → Prop, (∃ m, W m ρ M) ∧ ∀ m ρ M, W m ρ M →
  c ρ M fun b M1 => if b = true then tb { D with nx := fun bA M' => ∃ m', m' < m ∧ W m' bA M', ct := fun bA M' => ∃ m', m' < m ∧ W m' bA M', bk := D.nx } ρ M1 else D.nx ρ M1
theorem Eo {c : cZ} {tb : bS} {D : Ends} {σ : St} {H : Hp} (h : lS Γ (y0 c tb) D σ H) : xF (lT Γ c) (lS Γ tb) D σ H := by
  obtain ⟨β, ρ, M, D', zr, ⟨W, ⟨m0, w0⟩, turn⟩, r⟩ := h
  refine ⟨fun m aA H' => ∃ bA M', Ev β M H M' H' ∧ Zr Γ β M' bA aA H' ∧ W m bA M', ⟨m0, ρ, M, .refl zr.mz, zr, w0⟩, ?_⟩
  rintro m aA H' ⟨bA, M', x', gu, w'⟩
  refine ⟨β, bA, M', _, gu, turn m bA M' w', fun k M1 H1 x1 h1 => ?_⟩
  have y1 := x'.trans x1.ev
  cases k with
  | true =>
    dsimp only at h1 ⊢
    rw [if_pos rfl] at h1 ⊢
    refine ⟨fun gU H2 => ∃ m', m' < m ∧ ∃ fw M2, Ev β M H M2 H2 ∧ Zr Γ β M2 fw gU H2 ∧ W m' fw M2, fun gU H2 h2 => h2, β, bA, M1, _, gu.step x1, h1, ?_⟩
    exact ⟨fun oy M4 yY H4 x4 kO ⟨m', hm, w4⟩ => ⟨m', hm, oy, M4, y1.trans x4, kO, w4⟩, fun d4 M4 v4 H4 x4 e4 r4 h4 => r.rt _ _ _ _ (y1.trans x4) e4 r4 h4, fun oy M4 yY H4 x4 kO h4 => r.nx _ _ _ _ (y1.trans x4) kO h4, fun oy M4 yY H4 x4 kO ⟨m', hm, w4⟩ => ⟨m', hm, oy, M4, y1.trans x4, kO, w4⟩⟩
  | false =>
    dsimp only at h1 ⊢
    rw [if_neg Bool.false_ne_true] at h1 ⊢
    exact r.nx _ _ _ _ y1 (gu.step x1) h1
theorem Bp {body : List Stmt} {c : Expr} {zc : cZ} {tb : bS} {pos : Pos} (hp : PassesOwn (model X.prog X.w) X.A X.env X.xe) (hc : QT Γ X c zc) (hb : iY Γ X body tb) : QS Γ X (.While c body [] pos) (y0 zc tb) := (Au hp hc hb).imp fun D σ H h => Eo h
theorem lF {g : cA} {tb : bS} {D : gr} (J : Nat → ay → Mh → Prop) {ds : List Dv} {ρ : ay} {M : Mh} (h0 : J 0 ρ M)
    (hs : ∀ i d ρ M (N : ay → Mh → Prop), ds[i]? = some d → J i ρ M → (∀ bA M', J (i + 1) bA M' → N bA M') → g d ρ M fun fw M2 => tb { D with nx := N, ct := N, bk := D.nx } fw M2)
    (hd : ∀ ρ M, J ds.length ρ M → D.nx ρ M) : zLoop g tb D ds ρ M := by
  have key : ∀ (n i : Nat) ρ M, n = ds.length - i → i ≤ ds.length → J i ρ M → zLoop g tb D (ds.drop i) ρ M := by
    intro n
    induction n with
    | zero =>
      intro i ρ M e hi h
      have : i = ds.length := by omega
      subst this
      rw [List.drop_length]
      exact hd _ _ h
    | succ n ih =>
      intro i ρ M e hi h
      have bO : i < ds.length := by omega
      rw [List.drop_eq_getElem_cons bO]
      exact hs i _ ρ M _ (List.getElem?_eq_getElem bO) h fun ρ M h => ih (i + 1) ρ M (by omega) bO h
  exact key _ 0 ρ M rfl (Nat.zero_le _) h0
end
section
variable {X : Cx} {Γ : Gz} {β : Bz}
noncomputable def zBlock (tn : Nat) (idx : List Nat) (ρ : ay) : ay := List.replicate tn none ++ idx.map fun i => (ρ[i]?).join
theorem Zr.block {M : Mh} {ρ : ay} {σ : St} {H : Hp} (z : Zr Γ β M ρ σ H) (tn : Nat) (idx : List Nat) : Zr Γ β M (zBlock tn idx ρ) (bE tn idx σ) H := ⟨z.eP, z.ew, z.eK, z.et, z.sub, z.wf, z.ent, z.mz, by simp [zBlock, bE], fun i d e => by
  unfold zBlock at e
  unfold bE
  rw [List.getElem?_append] at e ⊢
  rw [List.length_replicate] at e ⊢
  split at e
  · rw [List.getElem?_replicate] at e
    split at e <;> cases e
  · rename_i hi
    rw [if_neg hi]
    rw [List.getElem?_map] at e ⊢
    cases q : idx[i - tn]? with
    | none => rw [q] at e; cases e
    | some j =>
      rw [q] at e
      have e2 : ρ[j]? = some (some d) := by
        simp only [Option.map_some, Option.some.injEq] at e
        cases q2 : ρ[j]? with
        | none => rw [q2] at e; cases e
        | some o => rw [q2] at e; simp only [Option.join_some] at e; rw [e]
      obtain ⟨v, hv, r⟩ := z.at' j d e2
      exact ⟨v, by simp [hv], r⟩⟩
theorem Zr.enter {M : Mh} {ρ : ay} {σ : St} {H : Hp} {D : Addr} {o : HO} (z : Zr Γ β M ρ σ H) (hD : H D = none) (ho : m9 o = true) : Zr Γ (β.add D) M ρ σ (upd H D o) :=
  ⟨z.eP, z.ew, z.eK, z.et, fun a h => List.mem_cons_of_mem _ (z.sub a h), z.wf, z.ent.over (z.ent.gone hD (by
    cases e : Γ.M0 D with
    | none => rfl
    | some u => have := z.ent.dom D (by rw [e]; rfl); rw [z.mz.free hD] at this; cases this)), z.mz.enter hD ho, z.len, fun i d e => let ⟨v, h, r⟩ := z.at' i d e; ⟨v, h, r.enter hD⟩⟩
theorem Zr.over {M : Mh} {ρ : ay} {σ : St} {H : Hp} {D : Addr} {o : HO} (z : Zr Γ β M ρ σ H) (hD : D ∈ β.hid) (ho : m9 o = true) (hM : M D = none) (ht : D ∉ β.tb) (h0 : Γ.H0 D = none) : Zr Γ β M ρ σ (upd H D o) :=
  ⟨z.eP, z.ew, z.eK, z.et, z.sub, z.wf, z.ent.over h0, z.mz.over hD ho hM ht, z.len, fun i d e => let ⟨v, h, r⟩ := z.at' i d e; ⟨v, h, r.over hD⟩⟩
noncomputable abbrev sR (Γ : Gz) (X : Cx) (ifs : List Expr) (t : cZ) : Prop := jO X ifs (lT Γ t)
noncomputable def zNoIf : cZ := fun _ M Q => Q true M
theorem cR : sR Γ X [] zNoIf := D0.imp fun σ H Q ⟨β, ρ, M, Q', zr, h, q⟩ => q true M H (.refl zr.mz) h
theorem Ep {c : Expr} {tc : cZ} (h : QT Γ X c tc) : sR Γ X [c] tc := D1 h
noncomputable def gv (g : cA) (tt : cZ) (te : aS) : List Dv → ay → Mh → (List Dv → Mh → Prop) → Prop
  | [], _, M, Q => Q [] M
  | d :: ds, τ, M, Q => g d τ M fun aE M2 => tt aE M2 fun b M3 => if b = true then te aE M3 fun y M4 => gv g tt te ds aE M4 fun ys M5 => Q (y :: ys) M5 else gv g tt te ds aE M3 Q
structure Acc (Γ : Gz) (β : Bz) (D : Addr) (M1 : Mh) (H1 : Hp) (cK : ay) (M : Mh) (τ : St) (H : Hp) (acc : List V) (bV : List Dv) : Prop where
  ey : Ey M1 H1 M H
  m : M D = none
  zr : Zr Γ (β.add D) M cK τ H
  at' : H D = some (.lst acc)
  rs : aN (β.add D) M H acc bV
  h1 : H1 D = none
  h0 : Γ.H0 D = none
  nt : D ∉ β.tb
theorem Acc.start {D : Addr} {M1 : Mh} {H1 : Hp} {cK : ay} {τ : St} (zr : Zr Γ β M1 cK τ H1) (hD : H1 D = none) : Acc Γ β D M1 H1 cK M1 τ (upd H1 D (.lst [])) [] [] :=
  ⟨Ey.refl.over hD, zr.mz.free hD, zr.enter hD rfl, aC, .nil, hD, zr.ent.gone hD (by
    cases e : Γ.M0 D with
    | none => rfl
    | some u => have := zr.ent.dom D (by rw [e]; rfl); rw [zr.mz.free hD] at this; cases this), zr.mz.Nv hD⟩
section
variable {D : Addr} {M1 M M2 : Mh} {H1 H H2 : Hp} {cK HI : ay} {τ aE : St} {acc : List V} {bV : List Dv}
theorem Acc.step (A : Acc Γ β D M1 H1 cK M τ H acc bV) (x : Ex (β.add D) M H M2 H2) (z : Zr Γ (β.add D) M2 HI aE H2) : Acc Γ β D M1 H1 HI M2 aE H2 acc bV :=
  ⟨A.ey.trans x.toEy, x.new D _ A.m A.at', z, x.get A.m A.at' rfl, A.rs.ex x, A.h1, A.h0, A.nt⟩
theorem Acc.snoc (A : Acc Γ β D M1 H1 cK M τ H acc bV) {y : V} {d : Dv} (r : Rz (β.add D) M H y d) : Acc Γ β D M1 H1 cK M τ (upd H D (.lst (acc ++ [y]))) (acc ++ [y]) (bV ++ [d]) := by
  have hD : D ∈ (β.add D).hid := List.mem_cons_self
  exact ⟨A.ey.over A.h1, A.m, A.zr.over hD rfl A.m A.nt A.h0, aC, ⟨by simp [A.rs.len], fun i v d a b => ((A.rs.snoc r).at' i v d a b).over hD⟩, A.h1, A.h0, A.nt⟩
theorem Acc.fz (A : Acc Γ β D M1 H1 cK M τ H acc bV) (m1 : Mz β M1 H1) : Fz β M D := ⟨A.m, (m1.fz A.h1).2⟩
theorem Acc.mz (A : Acc Γ β D M1 H1 cK M τ H acc bV) : Mz β M H := Mz.sub (β := β.add D) (cx := β) rfl rfl rfl rfl (fun a h => List.mem_cons_of_mem _ h) A.zr.mz
theorem Acc.items (A : Acc Γ β D M1 H1 cK M τ H acc bV) : aN β M H acc bV := ⟨A.rs.len, fun i v d a b => Rz.sub (β := β.add D) (cx := β) rfl rfl rfl (fun a h => List.mem_cons_of_mem _ h) (A.rs.at' i v d a b)⟩
theorem Acc.ex (A : Acc Γ β D M1 H1 cK M τ H acc bV) : Ex β M1 H1 M H := ⟨A.ey, A.mz⟩
end
noncomputable def zComp (tn : Nat) (idx : List Nat) (zi : fV) (g : cA) (tt : cZ) (te : aS) : aS := fun ρ M Q => zi ρ M fun ds M1 => ds.length < sizeLine ∧ gv g tt te ds (zBlock tn idx ρ) M1 fun ys M2 => Q (.lst ys) M2
noncomputable def zCompP (tn : Nat) (idx : List Nat) (zi : fV) (g : cA) (tt : cZ) (te : aS) : aS := fun ρ M Q => zi ρ M fun ds M1 => ds.length < sizeLine ∧ gv g tt te ds (zBlock tn idx ρ) M1 fun ys M2 => ∀ a, M2 a = none → Q (.ptr a) (aF M2 a (.lst ys))
variable {zi : fV} {g : cA} {tt : cZ} {te : aS} {tn : Nat} {idx : List Nat}
noncomputable def lH (Γ : Gz) (β : Bz) (D : Addr) (M1 : Mh) (H1 : Hp) (g : cA) (tt : cZ) (te : aS) (ds : List Dv) (Q' : List Dv → Mh → Prop) (i m : Nat) (τ : St) (H : Hp) : Prop :=
  m = ds.length - i ∧ i ≤ ds.length ∧ ∃ cK M acc bV, Acc Γ β D M1 H1 cK M τ H acc bV ∧ acc.length ≤ i ∧ gv g tt te (ds.drop i) cK M fun ys M2 => Q' (bV ++ ys) M2
theorem qB {D : Addr} {M1 : Mh} {H1 : Hp} {ds : List Dv} {Q' : List Dv → Mh → Prop} {J : It} (it : yW β J ds M1 H1) (hlen : ds.length < sizeLine) {i m : Nat} {τ : St} {H : Hp} (w : lH Γ β D M1 H1 g tt te ds Q' i m τ H)
    {C : V → St → Hp → Prop} (hC : ∀ y aE H4 acc, H4 D = some (.lst acc) → acc.length < sizeLine → (∃ m', m' < m ∧ lH Γ β D M1 H1 g tt te ds Q' (i + 1) m' aE (upd H4 D (.lst (acc ++ [y])))) → C y aE H4) :
    (J.stop i H ∧ ∃ cK M acc bV, Acc Γ β D M1 H1 cK M τ H acc bV ∧ acc.length < sizeLine ∧ Q' bV M) ∨
    (J.go i H ∧ ∀ x H', J.yld i H x H' → lG Γ g x τ H' fun aE H2 => lT Γ tt aE H2 fun b H3 => if b = true then lE Γ te aE H3 fun y H4 => C y aE H4 else ∃ m', m' < m ∧ lH Γ β D M1 H1 g tt te ds Q' (i + 1) m' aE H3) := by
  obtain ⟨rfl, hi, cK, M, acc, bV, A, Hb, h⟩ := w
  have q := it (β.add D) M H (.add A.h1) A.ey A.zr.mz i
  by_cases bO : i < ds.length
  · refine .inr ⟨(q.1 bO).1, fun x H' y => ?_⟩
    obtain ⟨x2, d, hd, rd⟩ := (q.1 bO).2 x H' y
    have e : ds.drop i = d :: ds.drop (i + 1) := by
      rw [List.drop_eq_getElem_cons bO]
      rw [List.getElem?_eq_getElem bO] at hd
      cases hd
      rfl
    rw [e] at h
    have A2 := A.step x2 (A.zr.step x2)
    refine ⟨β.add D, d, cK, M, _, A2.zr, rd, h, fun ka M3 mO H3 x3 z3 h3 => ?_⟩
    have A3 := A2.step x3 z3
    refine ⟨β.add D, ka, M3, _, z3, h3, fun b M4 H4 x4 h4 => ?_⟩
    have A4 := A3.step x4 (z3.step x4)
    cases b with
    | false =>
      dsimp only at h4 ⊢
      rw [if_neg Bool.false_ne_true] at h4 ⊢
      exact ⟨ds.length - (i + 1), by omega, rfl, bO, ka, M4, acc, bV, A4, by omega, h4⟩
    | true =>
      dsimp only at h4 ⊢
      rw [if_pos rfl] at h4 ⊢
      refine ⟨β.add D, ka, M4, _, A4.zr, h4, fun yd M5 yv H5 x5 r5 h5 => ?_⟩
      have A5 := A4.step x5 (A4.zr.step x5)
      refine hC yv mO H5 acc A5.at' (by omega) ⟨ds.length - (i + 1), by omega, rfl, bO, ka, M5, acc ++ [yv], bV ++ [yd], A5.snoc r5, by simp; omega, ?_⟩
      have e2 : (fun ys M2 => Q' (bV ++ [yd] ++ ys) M2) = fun ys M2 => Q' (bV ++ yd :: ys) M2 := by
        funext ys M2
        rw [List.append_assoc]
        rfl
      rw [e2]
      exact h5
  · have e : i = ds.length := by omega
    subst e
    rw [List.drop_length] at h
    refine .inl ⟨q.2 (Nat.le_refl _), cK, M, acc, bV, A, by omega, ?_⟩
    have h' : Q' (bV ++ []) M := h
    rwa [List.append_nil] at h'
theorem oA {D : Addr} {M1 : Mh} {H1 : Hp} {ds : List Dv} {Q' : List Dv → Mh → Prop} {cK : ay} {τ : St} (zr : Zr Γ β M1 cK τ H1) (hD : H1 D = none) (h : gv g tt te ds cK M1 Q') : lH Γ β D M1 H1 g tt te ds Q' 0 ds.length τ (upd H1 D (.lst [])) :=
  ⟨rfl, Nat.zero_le _, cK, M1, [], [], .start zr hD, Nat.le_refl _, h⟩
theorem HJ {σ : St} {H : Hp} {Q : VK} (h : lE Γ (zComp tn idx zi g tt te) σ H Q) : nV tn idx (lI Γ zi) (lG Γ g) (lT Γ tt) (lE Γ te) σ H Q := by
  obtain ⟨β, ρ, M, Q', zr, h, q⟩ := h
  refine ⟨β, ρ, M, _, zr, h, fun ds M1 H1 J x1 it ⟨hlen, h1⟩ D hD => ?_⟩
  have kN := zr.step x1
  refine ⟨lH Γ β D M1 H1 g tt te ds fun ys M2 => Q' (.lst ys) M2, ⟨_, oA (kN.block tn idx) hD h1⟩, fun i m τ H' w => ?_⟩
  rcases qB it hlen w (C := fun y aE H4 => ∃ ys m', H4 D = some (.lst ys) ∧ ys.length < sizeLine ∧ m' < m ∧ lH Γ β D M1 H1 g tt te ds (fun ys M2 => Q' (.lst ys) M2) (i + 1) m' aE (upd H4 D (.lst (ys ++ [y])))) (fun y aE H4 acc e hl ⟨m', hm, w'⟩ => ⟨acc, m', e, hl, hm, w'⟩) with ⟨hs, cK, M', acc, bV, A, _, hq⟩ | z
  · exact .inl ⟨hs, q _ _ _ _ (x1.trans A.ex) (lx (A.fz kN.mz) A.at' A.items) hq⟩
  · exact .inr z
theorem o6 {σ : St} {H : Hp} {Q : VK} (h : lE Γ (zCompP tn idx zi g tt te) σ H Q) : nV tn idx (lI Γ zi) (lG Γ g) (lT Γ tt) (lE Γ te) σ H Q := by
  obtain ⟨β, ρ, M, Q', zr, h, q⟩ := h
  refine ⟨β, ρ, M, _, zr, h, fun ds M1 H1 J x1 it ⟨hlen, h1⟩ D hD => ?_⟩
  have kN := zr.step x1
  refine ⟨lH Γ β D M1 H1 g tt te ds fun ys M2 => ∀ a, M2 a = none → Q' (.ptr a) (aF M2 a (.lst ys)), ⟨_, oA (kN.block tn idx) hD h1⟩, fun i m τ H' w => ?_⟩
  rcases qB it hlen w (C := fun y aE H4 => ∃ ys m', H4 D = some (.lst ys) ∧ ys.length < sizeLine ∧ m' < m ∧ lH Γ β D M1 H1 g tt te ds (fun ys M2 => ∀ a, M2 a = none → Q' (.ptr a) (aF M2 a (.lst ys))) (i + 1) m' aE (upd H4 D (.lst (ys ++ [y])))) (fun y aE H4 acc e hl ⟨m', hm, w'⟩ => ⟨acc, m', e, hl, hm, w'⟩) with ⟨hs, cK, M', acc, bV, A, _, hq⟩ | z
  · refine .inl ⟨hs, ?_⟩
    have Pb : D ∉ β.hid := (A.fz kN.mz).2
    have hM : M' D = none := A.m
    have mz : Mz β (aF M' D (.lst bV)) H' := by
      have rz : ∀ {v : V} {d : Dv}, Rz (β.add D) M' H' v d → Rz β (aF M' D (.lst bV)) H' v d := fun r => by
        have ne : ∀ a, Fz (β.add D) M' a → Fz β (aF M' D (.lst bV)) a := fun a f => ⟨by rw [ax (fun z => f.2 (by rw [z]; exact List.mem_cons_self))]; exact f.1, fun z => f.2 (List.mem_cons_of_mem _ z)⟩
        induction r with
        | int i => exact .int i
        | bl b => exact .bl b
        | ao => exact .ao
        | str z => exact .str z
        | tup m e hl h ih => exact .tup (ne _ m) e hl ih
        | lst m e hl h ih => exact .lst (ne _ m) e hl ih
        | dk m e hk hl h ih => exact .dk (ne _ m) e hk hl ih
        | dt m e hk hl h ih => exact .dt (ne _ m) e hk hl ih
        | bX m e m2 e2 hl h ih => exact .bX (ne _ m) e (ne _ m2) e2 hl ih
        | set m e => exact .set (ne _ m) e
        | ptr m => exact .ptr (by unfold aF; split; rfl; exact m)
        | exc m e => exact .exc (ne _ m) e
        | bz m e => exact .bz (ne _ m) e
        | cF m e => exact .cF (ne _ m) e
        | cG e => exact .cG e
        | raw v => exact .raw v
      refine ⟨fun a o e => ?_, A.zr.mz.tabs, fun a ha => A.zr.mz.hids a (List.mem_cons_of_mem _ ha), fun a o e z => ?_, A.zr.mz.lams⟩
      by_cases ha : a = D
      · subst ha
        rw [updM_same] at e
        cases e
        exact ⟨acc, A.at', A.rs.len, fun i v d a b => rz (A.rs.at' i v d a b)⟩
      · rw [ax ha] at e
        have z := A.zr.mz.obj a o e
        cases o with
        | lst ds => obtain ⟨vs, z, l, r⟩ := z; exact ⟨vs, z, l, fun i v d a b => rz (r i v d a b)⟩
        | dk ks ds => obtain ⟨vs, z, hk, l, r⟩ := z; exact ⟨vs, z, hk, l, fun i v d a b => rz (r i v d a b)⟩
        | dt ks ds => obtain ⟨vs, z, hk, l, r⟩ := z; exact ⟨vs, z, hk, l, fun i v d a b => rz (r i v d a b)⟩
        | cY => exact z
      · by_cases ha : a = D
        · subst ha; exact Pb z
        · rw [ax ha] at e
          exact A.zr.mz.apart a o e (List.mem_cons_of_mem _ z)
    have ey : Ey M1 H1 (aF M' D (.lst bV)) H' := ⟨A.ey.keep, fun a h => by unfold aF; split; rfl; exact A.ey.dom a h, fun a o m e => by rw [ax (a9 e A.h1)]; exact A.ey.new a o m e⟩
    exact q _ _ _ _ (x1.trans ⟨ey, mz⟩) (.ptr (by rw [updM_same]; rfl)) (hq D hM)
  · exact .inr z
theorem Nx {P : Addr} {zi : fV} {R : It → Hp → Prop} {σ : St} {H : Hp} {ρ : ay} {M : Mh} {R' : List Dv → Mh → Prop} (hP : P ∈ Γ.tb) (zr : Zr Γ β M ρ σ H) (h : zi ρ M R') (q : ∀ ds M' H' J, Ex β M H M' H' → yW β J ds M' H' → R' ds M' → R J H') : GO P (lI Γ zi) R σ H := by
  refine ⟨β, ρ, M, _, zr, h, fun ds M1 H1 J x1 it h1 => ?_⟩
  have CO : P ∈ β.tb := by rw [zr.et]; exact hP
  refine ⟨x1.mz.tabs P CO, fun ps t => ?_⟩
  have x2 := Ex.grow x1.mz CO t
  refine q ds M1 _ J (x1.trans x2) (fun cx M' H' bx ey mz => it cx M' H' ⟨bx.P, bx.w, bx.K, bx.tb, bx.old, fun a ha => ?_⟩ (x2.toEy.trans ey) mz) h1
  rcases bx.new a ha with z | z
  · exact .inl z
  · right
    cases e : H1 a with
    | none => rfl
    | some o => obtain ⟨u, hu⟩ := Bm (p := P) (o := .cu ps) ⟨o, e⟩; rw [z] at hu; cases hu
noncomputable def ju (g : cA) (tt : cZ) (te : aS) : List Dv → ay → Mh → (Bool → Mh → Prop) → Prop
  | [], _, M, Q => Q true M
  | d :: ds, τ, M, Q => g d τ M fun aE M2 => tt aE M2 fun b M3 => if b = true then te aE M3 (zBool fun c M4 => if c = false then Q false M4 else ju g tt te ds aE M4 Q) else ju g tt te ds aE M3 Q
noncomputable def zAll (tn : Nat) (idx : List Nat) (zi : fV) (g : cA) (tt : cZ) (te : aS) : aS := fun ρ M Q => zi ρ M fun ds M1 => ju g tt te ds (zBlock tn idx ρ) M1 fun b M2 => Q (.bl b) M2
theorem Kg {P : Addr} (hP : P ∈ Γ.tb) {σ : St} {H : Hp} {Q : VK} (h : lE Γ (zAll tn idx zi g tt te) σ H Q) : GP P tn idx (lI Γ zi) (lG Γ g) (lT Γ tt) (lE Γ te) σ H Q := by
  obtain ⟨β, ρ, M, Q', zr, h, q⟩ := h
  refine Nx hP zr h fun ds M1 H1 J x1 it h1 => ?_
  have kN := zr.step x1
  refine ⟨fun i m τ H' => m = ds.length - i ∧ i ≤ ds.length ∧ ∃ cK M', Ex β M1 H1 M' H' ∧ Zr Γ β M' cK τ H' ∧ ju g tt te (ds.drop i) cK M' fun b M2 => Q' (.bl b) M2, ⟨_, rfl, Nat.zero_le _, _, M1, .refl x1.mz, kN.block tn idx, h1⟩, ?_⟩
  rintro i m τ H' ⟨rfl, hi, cK, M', x', gu, h'⟩
  have qq := it β M' H' .refl x'.toEy x'.mz i
  by_cases bO : i < ds.length
  · refine .inr ⟨(qq.1 bO).1, fun x lC y => ?_⟩
    obtain ⟨x2, d, hd, rd⟩ := (qq.1 bO).2 x lC y
    have e : ds.drop i = d :: ds.drop (i + 1) := by
      rw [List.drop_eq_getElem_cons bO]
      rw [List.getElem?_eq_getElem bO] at hd
      cases hd
      rfl
    rw [e] at h'
    refine ⟨β, d, cK, M', _, gu.step x2, rd, h', fun ka M3 mO H3 x3 z3 h3 => ⟨β, ka, M3, _, z3, h3, fun b M4 H4 x4 h4 => ?_⟩⟩
    have HK := x'.trans (x2.trans (x3.trans x4))
    cases b with
    | false =>
      dsimp only at h4 ⊢
      rw [if_neg Bool.false_ne_true] at h4 ⊢
      exact ⟨ds.length - (i + 1), by omega, rfl, bO, ka, M4, HK, z3.step x4, h4⟩
    | true =>
      dsimp only at h4 ⊢
      rw [if_pos rfl] at h4 ⊢
      refine ⟨β, ka, M4, _, z3.step x4, h4, fun yd M5 yv H5 x5 r5 h5 => ?_⟩
      obtain ⟨k, rfl, h6⟩ := iZ h5
      refine ⟨k, cH r5, ?_⟩
      cases k with
      | false =>
        rw [if_pos rfl] at h6 ⊢
        exact q _ _ _ _ (x1.trans (HK.trans x5)) (.bl _) h6
      | true =>
        rw [if_neg (by decide)] at h6 ⊢
        exact ⟨ds.length - (i + 1), by omega, rfl, bO, ka, M5, HK.trans x5, (z3.step x4).step x5, h6⟩
  · have e : i = ds.length := by omega
    subst e
    rw [List.drop_length] at h'
    exact .inl ⟨qq.2 (Nat.le_refl _), q _ _ _ _ (x1.trans x') (.bl _) h'⟩
end
section
variable {X : Cx} {Γ : Gz} {β : Bz} {K : PySem.W.Frag}
noncomputable def zII (f : Int → Int → Dv) : dQ := fun d e M Q => match d, e with | .int i, .int j => Q (f i j) M | _, _ => False
noncomputable def zIC (C : Int → Int → Prop) (f : Int → Int → Dv) : dQ := fun d e M Q => match d, e with | .int i, .int j => C i j ∧ Q (f i j) M | _, _ => False
theorem lJ {g : Int → Int → V} {f : Int → Int → Dv} (h : ∀ β M H i j, Rz β M H (g i j) (f i j)) : qz Γ (pT g) (zII f) := fun β x y d e M H Q Q' _ _ _ m rx ry z q => by
  unfold zII at z
  split at z
  · exact ⟨_, _, aL rx, aL ry, q _ _ _ _ (.refl m) (h ..) z⟩
  · exact z.elim
theorem oB {C : Int → Int → Prop} {g : Int → Int → V} {f : Int → Int → Dv} (h : ∀ β M H i j, Rz β M H (g i j) (f i j)) : qz Γ (rI C g) (zIC C f) := fun β x y d e M H Q Q' _ _ _ m rx ry z q => by
  unfold zIC at z
  split at z
  · exact ⟨_, _, aL rx, aL ry, z.1, q _ _ _ _ (.refl m) (h ..) z.2⟩
  · exact z.elim
theorem fF : eO Γ X (binaryOp .Add) (zII fun i j => .int (i + j)) := ⟨_, F8, lJ fun _ _ _ _ _ => .int _⟩
theorem rk : eO Γ X (binaryOp .Sub) (zII fun i j => .int (i - j)) := ⟨_, F9, lJ fun _ _ _ _ _ => .int _⟩
theorem mj : eO Γ X (binaryOp .Mult) (zIC vJ fun i j => .int (i * j)) := ⟨_, Ga, oB fun _ _ _ _ _ => .int _⟩
theorem y2 : eO Γ X (binaryOp .FloorDiv) (zIC F7 fun i j => .int (i / j)) := ⟨_, DM, oB fun _ _ _ _ _ => .int _⟩
theorem iA : eO Γ X (binaryOp .Mod) (zIC (fun _ j => 0 < j) fun i j => .int (i % j)) := ⟨_, Gb, oB fun _ _ _ _ _ => .int _⟩
theorem rn : eO Γ X (binaryOp .Pow) (zIC vI fun i j => .int (i ^ j.toNat)) := ⟨_, Gd, oB fun _ _ _ _ _ => .int _⟩
theorem o7 : eO Γ X (compareOp .Lt) (zII fun i j => .bl (decide (i < j))) := ⟨_, JR, lJ fun _ _ _ _ _ => .bl _⟩
theorem Bq : eO Γ X (compareOp .LtE) (zII fun i j => .bl (decide (i ≤ j))) := ⟨_, JS, lJ fun _ _ _ _ _ => .bl _⟩
theorem Ny : eO Γ X (compareOp .Gt) (zII fun i j => .bl (decide (j < i))) := ⟨_, JT, lJ fun _ _ _ _ _ => .bl _⟩
noncomputable def scalZ (d e : Dv) : Option Bool := match d with
  | .int i => (match e with | .int j => some (decide (i = j)) | .ao => some false | .str _ => some false | _ => none)
  | .bl i => (match e with | .bl j => some (decide (i = j)) | .ao => some false | .str _ => some false | _ => none)
  | .str i => (match e with | .str j => some (decide (i = j)) | .ao => some false | .int _ => some false | .bl _ => some false | _ => none)
  | .ao => (match e with | .ao => some true | .int _ => some false | .bl _ => some false | .str _ => some false | _ => none)
  | _ => none
noncomputable def zEq : dQ := fun d e M Q => match scalZ d e with | some b => Q (.bl b) M | none => False
noncomputable def zNe : dQ := fun d e M Q => match scalZ d e with | some b => Q (.bl (!b)) M | none => False
theorem sS {M : Mh} {H : Hp} {x y : V} {d e : Dv} {b : Bool} (rx : Rz β M H x d) (ry : Rz β M H y e) (h : scalZ d e = some b) : Ax x y = true ∧ decide (x = y) = b := by
  unfold scalZ at h
  split at h
  · rw [aL rx]
    split at h <;> cases h
    · rw [aL ry]; exact ⟨rfl, by simp⟩
    · rw [g5 ry]; exact ⟨rfl, by simp⟩
    · rw [eU ry]; exact ⟨rfl, by simp⟩
  · rw [cH rx]
    split at h <;> cases h
    · rw [cH ry]; exact ⟨rfl, by simp⟩
    · rw [g5 ry]; exact ⟨rfl, by simp⟩
    · rw [eU ry]; exact ⟨rfl, by simp⟩
  · rw [eU rx]
    split at h <;> cases h
    · rw [eU ry]; exact ⟨rfl, by simp⟩
    · rw [g5 ry]; exact ⟨rfl, by simp⟩
    · rw [aL ry]; exact ⟨rfl, by simp⟩
    · rw [cH ry]; exact ⟨rfl, by simp⟩
  · rw [g5 rx]
    split at h <;> cases h
    · rw [g5 ry]; exact ⟨rfl, by simp⟩
    · rw [aL ry]; exact ⟨rfl, by simp⟩
    · rw [cH ry]; exact ⟨rfl, by simp⟩
    · rw [eU ry]; exact ⟨rfl, by simp⟩
  · cases h
theorem kb : eO Γ X (compareOp .Eq) zEq := ⟨_, JP, fun β x y d e M H Q Q' _ _ _ m rx ry z q => by
  unfold zEq at z
  split at z
  · rename_i b hb
    obtain ⟨h1, h2⟩ := sS rx ry hb
    exact ⟨h1, by rw [h2]; exact q _ _ _ _ (.refl m) (.bl _) z⟩
  · exact z.elim⟩
theorem wA : eO Γ X (compareOp .NotEq) zNe := ⟨_, JQ, fun β x y d e M H Q Q' _ _ _ m rx ry z q => by
  unfold zNe at z
  split at z
  · rename_i b hb
    obtain ⟨h1, h2⟩ := sS rx ry hb
    exact ⟨h1, by rw [h2]; exact q _ _ _ _ (.refl m) (.bl _) z⟩
  · exact z.elim⟩
noncomputable def isNonD : Dv → Option Bool
  | .ao => some true
  | .raw _ => none
  | _ => some false
noncomputable def zIsN (neg : Bool) : dQ := fun d e M Q => match e, isNonD d with | .ao, some b => Q (.bl (if neg then !b else b)) M | _, _ => False
noncomputable def zSS (C : Str → Str → Prop) (f : Str → Str → Dv) : dQ := fun d e M Q => match d, e with | .str i, .str j => C i j ∧ Q (f i j) M | _, _ => False
mutual
noncomputable def bQ : Dv → Option Dt
  | .int i => some (.int i)
  | .bl b => some (.bl b)
  | .ao => some .ao
  | .str z => some (.str z)
  | .tup ds => (iB ds).map .tup
  | .lst ds => (iB ds).map .lst
  | _ => none
noncomputable def iB : List Dv → Option (List Dt)
  | [] => some []
  | d :: ds => match bQ d, iB ds with | some a, some as => some (a :: as) | _, _ => none
end
theorem ke : ∀ {ds : List Dv} {ts : List Dt}, iB ds = some ts → ds.length = ts.length ∧ ∀ (i : Nat) (d : Dv) (t : Dt), ds[i]? = some d → ts[i]? = some t → bQ d = some t
  | [], ts, h => by simp only [iB, Option.some.injEq] at h; subst h; exact ⟨rfl, fun i d t a => by simp at a⟩
  | d :: ds, ts, h => by
    simp only [iB] at h
    split at h
    · rename_i a as h1 h2
      cases h
      obtain ⟨hl, q⟩ := ke h2
      refine ⟨by simp [hl], fun i e t x y => ?_⟩
      cases i with
      | zero => simp at x y; subst x y; exact h1
      | succ i => rw [List.getElem?_cons_succ] at x y; exact q i e t x y
    · cases h
theorem y3 {M : Mh} {H : Hp} {v : V} {d : Dv} (h : Rz β M H v d) : ∀ {t : Dt}, bQ d = some t → da H v t := by
  induction h with
  | int i => intro t e; simp only [bQ, Option.some.injEq] at e; subst e; exact .int i
  | bl b => intro t e; simp only [bQ, Option.some.injEq] at e; subst e; exact .bl b
  | ao => intro t e; simp only [bQ, Option.some.injEq] at e; subst e; exact .ao
  | str z => intro t e; simp only [bQ, Option.some.injEq] at e; subst e; exact .str z
  | tup m e hl h ih =>
    intro t q
    simp only [bQ, Option.map_eq_some_iff] at q
    obtain ⟨ts, q, rfl⟩ := q
    obtain ⟨l2, at2⟩ := ke q
    refine .tup e (hl.trans l2) fun i x d hx hd => ?_
    have hi := (List.getElem?_eq_some_iff.mp hd).1
    have := List.getElem?_eq_getElem (l := _) (i := i) (show i < _ from l2 ▸ hi)
    exact ih i x _ hx this (at2 i _ _ this hd)
  | lst m e hl h ih =>
    intro t q
    simp only [bQ, Option.map_eq_some_iff] at q
    obtain ⟨ts, q, rfl⟩ := q
    obtain ⟨l2, at2⟩ := ke q
    refine .lst e (hl.trans l2) fun i x d hx hd => ?_
    have hi := (List.getElem?_eq_some_iff.mp hd).1
    have := List.getElem?_eq_getElem (l := _) (i := i) (show i < _ from l2 ▸ hi)
    exact ih i x _ hx this (at2 i _ _ this hd)
  | set m e => intro t q; simp [bQ] at q
  | ptr m => intro t q; simp [bQ] at q
  | exc m e => intro t q; simp [bQ] at q
  | bz m e => intro t q; simp [bQ] at q
  | cF m e => intro t q; simp [bQ] at q
  | cG e => intro t q; simp [bQ] at q
  | dk m e hk hl h ih => intro t q; simp [bQ] at q
  | dt m e hk hl h ih => intro t q; simp [bQ] at q
  | bX m e m2 e2 hl h ih => intro t q; simp [bQ] at q
  | raw v => intro t q; simp [bQ] at q
noncomputable def now (M : Mh) : Dv → Dv
  | .ptr a => match M a with | some (.lst ds) => .lst ds | _ => .ptr a
  | d => d
theorem mn {M : Mh} {H : Hp} {v : V} {d : Dv} (m : Mz β M H) (h : Rz β M H v d) {t : Dt} (e : bQ (now M d) = some t) : da H v t := by
  cases d with
  | ptr a =>
    simp only [now] at e
    obtain ⟨rfl, hs⟩ := cO h
    cases q : M a with
    | none => rw [q] at hs; cases hs
    | some o =>
      rw [q] at e
      cases o with
      | cY => simp [bQ] at e
      | dk ks es => simp [bQ] at e
      | dt ks es => simp [bQ] at e
      | lst ds =>
        obtain ⟨vs, hv, rs⟩ := m.obj a _ q
        simp only [bQ, Option.map_eq_some_iff] at e
        obtain ⟨ts, q, rfl⟩ := e
        obtain ⟨l2, at2⟩ := ke q
        refine .lst hv (rs.len.trans l2) fun i x d hx hd => ?_
        have hi := (List.getElem?_eq_some_iff.mp hd).1
        have := List.getElem?_eq_getElem (l := _) (i := i) (show i < _ from l2 ▸ hi)
        exact y3 (rs.at' i x _ hx this) (at2 i _ _ this hd)
  | _ => exact y3 h e
noncomputable def ng (neg : Bool) : dQ := fun d e M Q => match bQ (now M d), bQ (now M e) with | some a, some b => fU a ≤ 60 ∧ Q (.bl (if neg then !cf a b else cf a b)) M | _, _ => False
theorem vk {neg : Bool} : qz Γ (Bc neg) (ng neg) := fun β x y d e M H Q Q' _ _ _ m rx ry z q => by
  unfold ng at z
  split at z
  · rename_i a b h1 h2
    exact ⟨a, b, mn m rx h1, mn m ry h2, z.1, q _ _ _ _ (.refl m) (.bl _) z.2⟩
  · exact z.elim
theorem Kh (hu : X.A.units + 64 < cLine) : eO Γ X (compareOp .Eq) (ng false) := ⟨_, Hh hu, vk⟩
theorem Ki (hu : X.A.units + 64 < cLine) : eO Γ X (compareOp .NotEq) (ng true) := ⟨_, Hi hu, vk⟩
noncomputable def itemsM (M : Mh) : Dv → Option (List Dv)
  | .tup ds => some ds
  | .lst ds => some ds
  | .ptr a => match M a with | some (.lst ds) => some ds | _ => none
  | _ => none
theorem i7 {M : Mh} {H : Hp} {x : V} {d : Dv} {ds : List Dv} (m : Mz β M H) (r : Rz β M H x d) (h : itemsM M d = some ds) : ∃ a vs, x = .ref a ∧ (H a = some (.lst vs) ∨ H a = some (.tup vs)) ∧ aN β M H vs ds := by
  cases d with
  | tup es => cases h; obtain ⟨a, vs, e, _, h, rs⟩ := cw r; exact ⟨a, vs, e, .inr h, rs⟩
  | lst es => cases h; obtain ⟨a, vs, e, _, h, rs⟩ := dn r; exact ⟨a, vs, e, .inl h, rs⟩
  | ptr a =>
    obtain ⟨rfl, hs⟩ := cO r
    simp only [itemsM] at h
    split at h
    · rename_i es q
      cases h
      obtain ⟨vs, hv, rs⟩ := m.obj a _ q
      exact ⟨a, vs, rfl, .inl hv, rs⟩
    · cases h
  | _ => cases h
theorem Er {M : Mh} {H : Hp} {vs : List V} {ds : List Dv} (rs : aN β M H vs ds) {i : Int} {d : Dv} (h : cW ds i = some d) : ∃ v, cW vs i = some v ∧ Rz β M H v d := by
  unfold cW at h ⊢
  rw [rs.len]
  cases e : gW ds.length i with
  | none => rw [e] at h; cases h
  | some j =>
    rw [e] at h
    obtain ⟨v, hv, r⟩ := rs.get (i := j) (d := d) h
    exact ⟨v, hv, r⟩
noncomputable def HL (Γ : Gz) (X : Cx) (z : dQ) : Prop := ∃ r, kX X r ∧ qz Γ r z
noncomputable def zIx : dQ := fun d e M Q => match e with
  | .int i => (match d with
    | .str z => z.length ≤ sizeLine ∧ (match cW z.cps.toList i with | some c => Q (.str ⟨#[c]⟩) M | none => False)
    | _ => match itemsM M d with | some ds => (match cW ds i with | some r => Q r M | none => False) | none => False)
  | _ => False
theorem eH (hK : X.K = K) : HL Γ X zIx := ⟨_, uZ hK, fun β x y d e M H Q Q' _ _ _ m rx ry z q => by
  unfold zIx at z
  split at z
  · rename_i i
    have hy := aL ry
    split at z
    · rename_i s
      obtain ⟨hz, z⟩ := z
      split at z
      · rename_i c hc
        exact .inr (.inr ⟨s, i, c, eU rx, hy, hz, hc, q _ _ _ _ (.refl m) (.str _) z⟩)
      · exact z.elim
    · split at z
      · rename_i ds jn
        obtain ⟨a, vs, rfl, ha, rs⟩ := i7 m rx jn
        split at z
        · rename_i r hr
          obtain ⟨v, hv, rv⟩ := Er rs hr
          have z' := q _ _ _ _ (.refl m) rv z
          rcases ha with ha | ha
          · exact .inl ⟨a, vs, i, v, rfl, hy, bI.of ha, hv, z'⟩
          · exact .inr (.inl ⟨a, vs, i, v, rfl, hy, bJ.of ha, hv, z'⟩)
        · exact z.elim
      · exact z.elim
  · exact z.elim⟩
theorem cB {a b : Expr} {pa pb : aS} {z : dQ} {pos : Pos} (hr : HL Γ X z) (ha : QE Γ X a pa) (hb : QE Γ X b pb) (hs : uX b) : QE Γ X (.Subscript a b pos) (zOp z pa pb) := by
  obtain ⟨r, h1, h2⟩ := hr
  exact (JX h1 ha hb hs).imp fun σ H Q h => wy h2 h
noncomputable def cutD (xs : List Dv) (lo hi : Option Int) : List Dv := (xs.drop (HT.aT xs.length 0 lo)).take (HT.aT xs.length xs.length hi - HT.aT xs.length 0 lo)
noncomputable abbrev y4 := ay → Mh → (Option Int → Mh → Prop) → Prop
noncomputable def lO (Γ : Gz) (p : y4) : TO := fun σ H Q => ∃ (β : Bz) (ρ : ay) (M : Mh) (Q' : Option Int → Mh → Prop), Zr Γ β M ρ σ H ∧ p ρ M Q' ∧ ∀ o M' H', Ex β M H M' H' → Q' o M' → Q o H'
noncomputable def zoNone : y4 := fun _ M Q => Q none M
noncomputable def zoSome (p : aS) : y4 := fun ρ M Q => p ρ M fun d M1 => match d with | .int i => Q (some i) M1 | _ => False
theorem PO.imp {e : Option Expr} {t t' : TO} (h : PO X e t) (i : ∀ σ H Q, t' σ H Q → t σ H Q) : PO X e t' := fun pins s σ H Q I q => h pins s σ H Q I (i _ _ _ q)
theorem fX : PO X none (lO Γ zoNone) := PO.imp DU fun σ H Q ⟨β, ρ, M, Q', zr, h, q⟩ => q _ _ _ (.refl zr.mz) h
theorem fY {e : Expr} {p : aS} (h : QE Γ X e p) : PO X (some e) (lO Γ (zoSome p)) := PO.imp (DV h) fun σ H Q ⟨β, ρ, M, Q', zr, h, q⟩ => ⟨β, ρ, M, _, zr, h, fun d M1 v H1 x1 r1 h1 => by
  revert h1
  split
  · intro h1
    exact ⟨_, aL r1, q _ _ _ x1 h1⟩
  · exact fun z => z.elim⟩
noncomputable abbrev C6 := Dv → Option Int → Option Int → Mh → ZK → Prop
noncomputable def LR (Γ : Gz) (X : Cx) (z : C6) : Prop := ∃ r, xX X r ∧ ∀ (β : Bz) x d lo hi M H Q Q', β.P = Γ.P → β.w = Γ.w → β.K = Γ.K → Mz β M H → Rz β M H x d → z d lo hi M Q' → (∀ d' M' v H', Ex β M H M' H' → Rz β M' H' v d' → Q' d' M' → Q v H') → r x lo hi H Q
noncomputable def zSl (z : C6) (p : aS) (l h : y4) : aS := fun ρ M Q => p ρ M fun d M1 => l ρ M1 fun lo M2 => h ρ M2 fun hi M3 => z d lo hi M3 Q
theorem eV {z : C6} {e : Expr} {p : aS} {lo hi : Option Expr} {l h : y4} {p2 pos : Pos} (hr : LR Γ X z) (he : QE Γ X e p) (hl : PO X lo (lO Γ l)) (hu : PO X hi (lO Γ h)) : QE Γ X (.Subscript e (.Slice lo hi none p2) pos) (zSl z p l h) := by
  obtain ⟨r, h1, h2⟩ := hr
  exact (AH h1 he hl hu).imp fun σ H Q ⟨β, ρ, M, Q', zr, h, q⟩ => ⟨β, ρ, M, _, zr, h, fun d M1 v H1 x1 r1 h1 => ⟨β, ρ, M1, _, zr.step x1, h1, fun o M2 H2 x2 h3 => ⟨β, ρ, M2, _, (zr.step x1).step x2, h3, fun o2 M3 H3 x3 h4 =>
    h2 β v d o o2 M3 H3 _ _ zr.eP zr.ew zr.eK x3.mz ((r1.ex x2).ex x3) h4 fun d' M' v' H' x4 r4 q4 => q _ _ _ _ (x1.trans (x2.trans (x3.trans x4))) r4 q4⟩⟩⟩
noncomputable def zSlT : C6 := fun d lo hi M Q => match d with | .tup ds => Q (.tup (cutD ds lo hi)) M | _ => False
theorem vm {M : Mh} {H : Hp} {vs : List V} {ds : List Dv} (rs : aN β M H vs ds) (lo hi : Option Int) : aN β M H (hZ vs lo hi) (cutD ds lo hi) := by
  unfold hZ cutD
  rw [rs.len]
  exact (rs.drop _).take _
theorem jv (hK : X.K = K) : LR Γ X zSlT := ⟨_, Ek hK, fun β x d lo hi M H Q Q' _ _ _ m rx z q => by
  unfold zSlT at z
  split at z
  · obtain ⟨a, vs, rfl, f, ha, rs⟩ := cw rx
    refine ⟨a, vs, rfl, bJ.of ha, fun w => ?_, fun _ p hp => ?_⟩
    · have e := wt w
      have r2 := vm rs lo hi
      rw [e] at r2
      exact q _ _ _ _ (.refl m) (fv f ha r2) z
    · have x2 := Ex.lay m hp (.tup (hZ vs lo hi))
      exact q _ _ _ _ x2 (fv (m.fz hp) aC ((vm rs lo hi).ex x2)) z
  · exact z.elim⟩
noncomputable def zCatT : dQ := fun d e M Q => match d, e with | .tup xs, .tup ys => xs.length + ys.length ≤ sizeLine ∧ Q (.tup (xs ++ ys)) M | _, _ => False
theorem fx (hK : X.K = K) : eO Γ X (binaryOp .Add) zCatT := ⟨_, Ej hK, fun β x y d e M H Q Q' _ _ _ m rx ry z q => by
  unfold zCatT at z
  split at z
  · obtain ⟨a, vs, rfl, f, ha, rs⟩ := cw rx
    obtain ⟨b, us, rfl, f2, hb, cC⟩ := cw ry
    refine ⟨a, b, vs, us, rfl, rfl, bJ.of ha, bJ.of hb, by rw [rs.len, cC.len]; exact z.1, fun e => ?_, fun _ e => ?_, fun _ _ p hp => ?_⟩
    · subst e
      have r3 := rs.append cC
      exact q _ _ _ _ (.refl m) (fv f2 hb r3) z.2
    · subst e
      have r3 := rs.append cC
      rw [List.append_nil] at r3
      exact q _ _ _ _ (.refl m) (fv f ha r3) z.2
    · have x2 := Ex.lay m hp (.tup (vs ++ us))
      exact q _ _ _ _ x2 (fv (m.fz hp) aC ((rs.append cC).ex x2)) z.2
  · exact z.elim⟩
end
section
variable {X : Cx} {Γ : Gz} {β : Bz} {K : PySem.W.Frag}
section
variable {x : Str} {p pos : Pos} {e : Expr} {es : List Expr} {za : eL} {id T : String} {z : ow}
theorem av (hc : fE Γ X (.builtin id) z) (hg : Gl X x) (hm : X.mg x = none) (hv : bootBuiltins x = some (.builtin id)) (ha : QA Γ X (e :: es) za) (hn : x ≠ "__name__" := by decide) (cV : (x == ("__debug__" : Str)) = false := by decide)
    (he : starEach (e :: es) X.env = (false, eval e X.env) :: starEach es X.env := by rfl) (cy : (backTo pos (starEach es X.env)).any (·.1) = false := by rfl) : QE Γ X (.Call (.Name x p) (e :: es) [] pos) (zCB z za) := by
  obtain ⟨r, h1, h2⟩ := hc
  exact (AF h1 hg hm hv ha hn cV he cy).imp fun σ H Q h => HE h2 h
theorem fZ (hc : fE Γ X (.type T) z) (hg : Gl X x) (hm : X.mg x = none) (hv : bootBuiltins x = some (.type T)) (ha : QA Γ X (e :: es) za) (hn : x ≠ "__name__" := by decide) (cV : (x == ("__debug__" : Str)) = false := by decide)
    (he : starEach (e :: es) X.env = (false, eval e X.env) :: starEach es X.env := by rfl) (cy : (backTo pos (starEach es X.env)).any (·.1) = false := by rfl) : QE Γ X (.Call (.Name x p) (e :: es) [] pos) (zCB z za) := by
  obtain ⟨r, h1, h2⟩ := hc
  exact (xV h1 hg hm hv ha hn cV he cy).imp fun σ H Q h => HE h2 h
end
noncomputable def z1 (f : Dv → Mh → ZK → Prop) : ow := fun ds M Q => match ds with | [d] => f d M Q | _ => False
noncomputable def zLenD (d : Dv) (M : Mh) (Q : ZK) : Prop := match d with
  | .str s => s.length ≤ sizeLine ∧ Q (.int s.length) M
  | .bz ns => Q (.int ns.length) M
  | _ => match itemsM M d with | some ds => Q (.int ds.length) M | none => False
theorem d8 (hK : X.K = K) (hG : K = Γ.K) : fE Γ X (.builtin "len") (z1 zLenD) := ⟨_, yq hK, fun β xs ds M H Q Q' _ _ eK m rs z q => by
  rw [← hG] at eK
  unfold z1 at z
  split at z
  · rename_i d
    obtain ⟨x, rfl, r⟩ := dS rs
    unfold zLenD at z
    split at z
    · rename_i s
      have e := eU r
      subst e
      exact ⟨_, _, rfl, ⟨z.1, rfl⟩, q _ _ _ _ (.refl m) (.int _) z.2⟩
    · rename_i ns
      obtain ⟨a, rfl, h⟩ := qy r
      rw [eK] at h
      exact ⟨_, ns.length, rfl, .inl ⟨_, h, by simp⟩, q _ _ _ _ (.refl m) (.int _) z⟩
    · split at z
      · rename_i ds jn
        obtain ⟨a, vs, rfl, ha, cC⟩ := i7 m r jn
        have q' := q _ _ (.int ds.length) _ (.refl m) (.int _) z
        rcases ha with ha | ha
        · exact ⟨_, ds.length, rfl, .inl ⟨vs, bI.of ha, cC.len.symm⟩, q'⟩
        · exact ⟨_, ds.length, rfl, .inr ⟨vs, bJ.of ha, cC.len.symm⟩, q'⟩
      · exact z.elim
  · exact z.elim⟩
noncomputable def z2I (f : Int → Int → Int) : ow := fun ds M Q => match ds with | [.int i, .int j] => Q (.int (f i j)) M | _ => False
theorem HM (hc : X.calm = true) : fE Γ X (.builtin "max") (z2I fun i j => if j > i then j else i) := ⟨_, xO hc, fun β xs ds M H Q Q' _ _ _ m rs z q => by
  unfold z2I at z
  split at z
  · obtain ⟨x, y, rfl, r, r'⟩ := gG rs
    rw [aL r, aL r']
    exact ⟨_, _, rfl, q _ _ _ _ (.refl m) (.int _) z⟩
  · exact z.elim⟩
theorem y6 (hc : X.calm = true) : fE Γ X (.builtin "min") (z2I fun i j => if j < i then j else i) := ⟨_, xP hc, fun β xs ds M H Q Q' _ _ _ m rs z q => by
  unfold z2I at z
  split at z
  · obtain ⟨x, y, rfl, r, r'⟩ := gG rs
    rw [aL r, aL r']
    exact ⟨_, _, rfl, q _ _ _ _ (.refl m) (.int _) z⟩
  · exact z.elim⟩
noncomputable def zAbs (d : Dv) (M : Mh) (Q : ZK) : Prop := match d with | .int i => Q (.int (if i < 0 then -i else i)) M | _ => False
theorem Kj : fE Γ X (.builtin "abs") (z1 zAbs) := ⟨_, AA, fun β xs ds M H Q Q' _ _ _ m rs z q => by
  unfold z1 at z
  split at z
  · obtain ⟨x, rfl, r⟩ := dS rs
    unfold zAbs at z
    split at z
    · rw [aL r]
      exact ⟨_, rfl, q _ _ _ _ (.refl m) (.int _) z⟩
    · exact z.elim
  · exact z.elim⟩
noncomputable def zList (d : Dv) (M : Mh) (Q : ZK) : Prop := match itemsM M d with | some ds => Q (.lst ds) M | none => False
theorem sT (hK : X.K = K) : fE Γ X (.type "list") (z1 zList) := ⟨_, qR hK, fun β xs ds M H Q Q' _ _ _ m rs z q => by
  unfold z1 at z
  split at z
  · obtain ⟨x, rfl, r⟩ := dS rs
    unfold zList at z
    split at z
    · rename_i ds jn
      obtain ⟨a, vs, rfl, ha, cC⟩ := i7 m r jn
      refine ⟨a, vs, rfl, ha.imp bI.of bJ.of, fun l hl => ?_⟩
      have x2 := Ex.lay m hl (.lst vs)
      exact q _ _ _ _ x2 (lx (m.fz hl) aC (cC.ex x2)) z
    · exact z.elim
  · exact z.elim⟩
noncomputable def zTuple (d : Dv) (M : Mh) (Q : ZK) : Prop := match itemsM M d with | some ds => Q (.tup ds) M | none => False
theorem vn (hK : X.K = K) : fE Γ X (.type "tuple") (z1 zTuple) := ⟨_, oX hK, fun β xs ds M H Q Q' _ _ _ m rs z q => by
  unfold z1 at z
  split at z
  · rename_i d
    obtain ⟨x, rfl, r⟩ := dS rs
    unfold zTuple at z
    split at z
    · rename_i ds jn
      obtain ⟨a, vs, rfl, ha, cC⟩ := i7 m r jn
      refine ⟨a, vs, rfl, ?_⟩
      rcases ha with ha | ha
      · refine .inl ⟨bI.of ha, fun l hl => ?_⟩
        have x2 := Ex.lay m hl (.tup vs)
        exact q _ _ _ _ x2 (fv (m.fz hl) aC (cC.ex x2)) z
      · refine .inr ⟨bJ.of ha, ?_⟩
        have f : Fz β M a := by
          cases d with
          | tup es => obtain ⟨b, us, e, f, _⟩ := cw r; cases e; exact f
          | lst es => obtain ⟨b, us, e, f, _⟩ := dn r; cases e; exact f
          | ptr b =>
            obtain ⟨e, hs⟩ := cO r
            cases e
            cases q2 : M a with
            | none => rw [q2] at hs; cases hs
            | some o => have := m.lz ha rfl; rw [q2] at this; cases this
          | _ => cases jn
        exact q _ _ _ _ (.refl m) (fv f ha cC) z
    · exact z.elim
  · exact z.elim⟩
noncomputable def eQ : List Dv → Option (List Int)
  | [] => some []
  | .int i :: ds => (eQ ds).map (i :: ·)
  | _ :: _ => none
theorem sU : ∀ {ds : List Dv} {ns : List Int}, eQ ds = some ns → ds = ns.map Dv.int
  | [], ns, h => by simp only [eQ, Option.some.injEq] at h; subst h; rfl
  | d :: ds, ns, h => by
    cases d with
    | int i =>
      simp only [eQ, Option.map_eq_some_iff] at h
      obtain ⟨ms, h, rfl⟩ := h
      rw [sU h]
      rfl
    | _ => simp [eQ] at h
theorem g6 : ∀ ns : List Int, eQ (ns.map Dv.int) = some ns
  | [] => rfl
  | n :: ns => by simp [eQ, g6 ns]
theorem nh {M : Mh} {H : Hp} : ∀ {vs : List V} {ns : List Int}, aN β M H vs (ns.map Dv.int) → vs = ns.map V.int
  | [], [], _ => rfl
  | [], _ :: _, r => absurd r.len (by simp)
  | _ :: _, [], r => absurd r.len (by simp)
  | v :: vs, n :: ns, r => by
    rw [List.map_cons] at r
    rw [List.map_cons, aL r.head, nh r.tail]
theorem ni {M : Mh} {H : Hp} : ∀ {ns : List Int}, aN β M H (ns.map V.int) (ns.map Dv.int)
  | [] => .nil
  | n :: ns => .cons (.int _) ni
noncomputable def intsM (M : Mh) (d : Dv) : Option (List Int) := match d with | .set ns => some ns | _ => (itemsM M d).bind eQ
noncomputable def zSorted (d : Dv) (M : Mh) (Q : ZK) : Prop := match intsM M d with | some ns => ns.length < 64 ∧ Q (.lst ((sortI ns).map .int)) M | none => False
theorem qC {M : Mh} {H : Hp} {x : V} {d : Dv} {ns : List Int} (m : Mz β M H) (r : Rz β M H x d) (h : (itemsM M d).bind eQ = some ns) : ∃ a, x = .ref a ∧ (H a = some (.lst (ns.map V.int)) ∨ H a = some (.tup (ns.map V.int))) := by
  cases e : itemsM M d with
  | none => rw [e] at h; cases h
  | some ds =>
    rw [e] at h
    obtain ⟨a, vs, rfl, ha, rs⟩ := i7 m r e
    have e2 := sU (ns := ns) h
    subst e2
    have := nh rs
    subst this
    exact ⟨a, rfl, ha⟩
theorem Br (hP : X.prog = Γ.P) (hw : X.w = Γ.w) (hK : X.K = K) (hc : X.calm = true) : fE Γ X (.builtin "sorted") (z1 zSorted) := ⟨_, qT hP hw hK hc, fun β xs ds M H Q Q' eP ew _ m rs z q => by
  unfold z1 at z
  split at z
  · rename_i d
    obtain ⟨x, rfl, r⟩ := dS rs
    unfold zSorted at z
    split at z
    · rename_i ns fR
      have fin : ∀ l, H l = none → Q (.ref l) (upd H l (.lst ((sortI ns).map V.int))) := fun l hl => by
        have x2 := Ex.lay m hl (.lst ((sortI ns).map V.int))
        exact q _ _ _ _ x2 (lx (m.fz hl) aC ni) z.2
      unfold intsM at fR
      split at fR
      · cases fR
        obtain ⟨a, rfl, f, h⟩ := yV r
        rw [eP, ew] at h
        exact ⟨a, _, rfl, .inl h, z.1, fin⟩
      · obtain ⟨a, rfl, ha⟩ := qC m r fR
        exact ⟨a, _, rfl, .inr (ha.imp bI.of bJ.of), z.1, fin⟩
    · exact z.elim
  · exact z.elim⟩
noncomputable def zSet (d : Dv) (M : Mh) (Q : ZK) : Prop := match (itemsM M d).bind eQ with | some ns => ns.length + 1 < scanBound ∧ Q (.set (dC ns)) M | none => False
theorem Kk (hP : X.prog = Γ.P) (hw : X.w = Γ.w) (hK : X.K = K) (hc : X.calm = true) : fE Γ X (.type "set") (z1 zSet) := by
  refine ⟨sD Γ.P Γ.w K, by rw [← hP, ← hw]; exact wk hK hc, fun β xs ds M H Q Q' eP ew _ m rs z q => ?_⟩
  unfold z1 at z
  split at z
  · rename_i d
    obtain ⟨x, rfl, r⟩ := dS rs
    unfold zSet at z
    split at z
    · rename_i ns fR
      obtain ⟨a, rfl, ha⟩ := qC m r fR
      refine ⟨a, ns, rfl, ha.imp bI.of bJ.of, z.1, fun l hl => ?_⟩
      have x2 := Ex.lay m hl (m5 Γ.P Γ.w l (dC ns))
      exact q _ _ _ _ x2 (.set (m.fz hl) (by rw [eP, ew]; exact aC)) z.2
    · exact z.elim
  · exact z.elim
noncomputable def isD (T : String) (M : Mh) (d : Dv) : Option Bool := match d with
  | .int _ => some (T == "int") | .bl _ => some (T == "int" || T == "bool") | .ao => some false | .str _ => some (T == "str") | .tup _ => some (T == "tuple") | .lst _ => some (T == "list") | .ptr a => (match M a with | some (.lst _) => some (T == "list") | some .cY => some (T == "list") | some _ => some false | none => none) | _ => none
noncomputable def o8 : List String := ["int", "bool", "str", "tuple", "list"]
noncomputable def zIsInst : ow := fun ds M Q => match ds with | [d, .raw (.ty T)] => T ∈ o8 ∧ (match isD T M d with | some b => Q (.bl b) M | none => False) | _ => False
theorem HN {K : PySem.W.Frag} {M : Mh} {H : Hp} {x : V} {d : Dv} {T : String} {b : Bool} (m : Mz β M H) (hT : T ∈ o8) (r : Rz β M H x d) (h : isD T M d = some b) : ∃ t, fH K H x t ∧ PySem.W.kitOne K t (.type T) = some b := by
  have mP : T = "int" ∨ T = "bool" ∨ T = "str" ∨ T = "tuple" ∨ T = "list" := by simpa [o8] using hT
  cases r with
  | int i => cases h; exact ⟨_, .int i, by rcases mP with rfl | rfl | rfl | rfl | rfl <;> rfl⟩
  | bl i => cases h; exact ⟨_, .bl i, by rcases mP with rfl | rfl | rfl | rfl | rfl <;> rfl⟩
  | ao => cases h; exact ⟨_, .ao, by rcases mP with rfl | rfl | rfl | rfl | rfl <;> rfl⟩
  | str i => cases h; exact ⟨_, .str i, by rcases mP with rfl | rfl | rfl | rfl | rfl <;> rfl⟩
  | tup f e hl q => cases h; exact ⟨_, .tup e, by rcases mP with rfl | rfl | rfl | rfl | rfl <;> rfl⟩
  | lst f e hl q => cases h; exact ⟨_, .lst e, by rcases mP with rfl | rfl | rfl | rfl | rfl <;> rfl⟩
  | ptr hs =>
    rename_i a
    cases q2 : M a with
    | none => rw [q2] at hs; cases hs
    | some o =>
      simp only [isD, q2] at h
      have q := m.obj a o q2
      cases o with
      | lst ds => obtain ⟨vs, e, _⟩ := q; cases h; exact ⟨_, .lst e, by rcases mP with rfl | rfl | rfl | rfl | rfl <;> rfl⟩
      | cY => obtain ⟨_, _, e, _⟩ := q; cases h; exact ⟨_, .lst e, by rcases mP with rfl | rfl | rfl | rfl | rfl <;> rfl⟩
      | dk ks ds => obtain ⟨vs, e, _⟩ := q; cases h; exact ⟨_, .dK e, by rcases mP with rfl | rfl | rfl | rfl | rfl <;> rfl⟩
      | dt ks ds => obtain ⟨vs, e, _⟩ := q; cases h; exact ⟨_, .dT e, by rcases mP with rfl | rfl | rfl | rfl | rfl <;> rfl⟩
  | set f e => cases h
  | exc f e => cases h
  | bz f e => cases h
  | cF f e => cases h
  | cG e => cases h
  | raw v => cases h
  | dk f e _ _ _ => cases h
  | dt f e _ _ _ => cases h
  | bX _ _ _ _ _ _ => cases h
theorem i9 (hK : X.K = K) : fE Γ X (.builtin "isinstance") zIsInst := ⟨_, sj hK, fun β xs ds M H Q Q' _ _ _ m rs z q => by
  unfold zIsInst at z
  split at z
  · obtain ⟨x, y, rfl, r, r'⟩ := gG rs
    rw [jt r']
    obtain ⟨hT, z⟩ := z
    split at z
    · rename_i b hb
      obtain ⟨t, ht, hk⟩ := HN (K := K) m hT r hb
      exact ⟨_, _, t, b, rfl, ht, hk, q _ _ _ _ (.refl m) (.bl _) z⟩
    · exact z.elim
  · exact z.elim⟩
noncomputable abbrev qD := Dv → List Dv → Mh → ZK → Prop
noncomputable def y7 (Γ : Gz) (X : Cx) (T id : String) (K : PySem.W.Frag) (z : qD) : Prop := ∃ r, xY X id r ∧ ∀ (β : Bz) x xs d ds M H Q Q', β.P = Γ.P → β.w = Γ.w → β.K = Γ.K → Mz β M H → Rz β M H x d → aN β M H xs ds → z d ds M Q' → (∀ d' M' v H', Ex β M H M' H' → Rz β M' H' v d' → Q' d' M' → Q v H') → r x xs H Q
noncomputable def tyZ (T : String) (M : Mh) : Dv → Prop
  | .ptr a => match M a with | some (.lst _) => T = "list" | some .cY => T = "list" | some (.dk _ _) => T = "dict" | some (.dt _ _) => T = "dict" | none => False
  | .lst _ => T = "list"
  | .tup _ => T = "tuple"
  | .str _ => T = "str"
  | _ => False
theorem HP {M : Mh} {H : Hp} {x : V} {d : Dv} {T : String} (m : Mz β M H) (r : Rz β M H x d) (h : tyZ T M d) : GA K T x H := by
  cases r with
  | str => exact h
  | lst f e _ _ => exact .inl ⟨h, _, bI.of e⟩
  | tup f e _ _ => exact .inr (.inl ⟨h, .inr ⟨_, e⟩⟩)
  | ptr hs =>
    rename_i a
    cases q2 : M a with
    | none => rw [q2] at hs; cases hs
    | some o =>
      simp only [tyZ, q2] at h
      have q := m.obj a o q2
      cases o with
      | lst ds => obtain ⟨vs, e, _⟩ := q; exact .inl ⟨h, _, bI.of e⟩
      | cY => obtain ⟨_, _, e, _⟩ := q; exact .inl ⟨h, _, bI.of e⟩
      | dk ks ds => obtain ⟨vs, e, _⟩ := q; exact .inr (.inr (.inl ⟨h, .inl ⟨_, e⟩⟩))
      | dt ks ds => obtain ⟨vs, e, _⟩ := q; exact .inr (.inr (.inl ⟨h, .inr ⟨_, e⟩⟩))
  | _ => exact h.elim
noncomputable def zBM (T : String) (z : qD) (po : aS) (pa : eL) : aS := fun ρ M Q => po ρ M fun d M1 => tyZ T M1 d ∧ pa ρ M1 fun ds M2 => z d ds M2 Q
section
variable {o e : Expr} {es : List Expr} {po : aS} {pa : eL} {name : Str} {apos bu : Pos} {T id : String} {z : qD}
theorem oC (h : X.K = K) (pat : PlainAttrs T) (slot : Slot T name id) (x8 : typeOf (.builtin id) = pure (.type "method_descriptor")) (hm : y7 Γ X T id K z) (ho : QE Γ X o po) (ha : QA Γ X (e :: es) pa) (nR : attributeBase o name X.env (eval o X.env) = eval o X.env := by rfl)
    (rV : ((backTo bu (starEach (e :: es) X.env)).all (fun x => !x.1) && (backToKw bu (keywordEach [] X.env)).all (fun x => x.1.isSome)
      && decide ((e :: es).length + ([] : List Keyword).length + (if ([] : List Keyword).isEmpty then 0 else 1) < 30)) = true := by rfl)
    (hline : (apos.endLine == bu.line) = true := by rfl) (hs : starEach (e :: es) X.env = (false, eval e X.env) :: starEach es X.env := by rfl) (kY : (backTo bu (starEach es X.env)).any (·.1) = false := by rfl) :
    QE Γ X (.Call (.Attribute o name apos) (e :: es) [] bu) (zBM T z po pa) := by
  obtain ⟨r, h1, h2⟩ := hm
  exact (GZ h pat slot x8 h1 ho ha nR rV hline hs kY).imp fun σ H Q ⟨β, ρ, M, Q', zr, h, q⟩ => ⟨β, ρ, M, _, zr, h, fun d M1 v H1 x1 r1 ⟨ht, h1⟩ => ⟨HP x1.mz r1 ht, β, ρ, M1, _, zr.step x1, h1, fun ds M2 vs H2 x2 r2 h3 =>
    h2 β v vs d ds M2 H2 _ _ zr.eP zr.ew zr.eK x2.mz (r1.ex x2) r2 h3 fun d' M' v' H' x3 r3 q3 => q _ _ _ _ (x1.trans (x2.trans x3)) r3 q3⟩⟩
end
noncomputable def zAppend : qD := fun d ds M Q => match d, ds with | .ptr a, [y] => (match M a with | some (.lst xs) => xs.length < sizeLine ∧ Q .ao (aF M a (.lst (xs ++ [y]))) | _ => False) | _, _ => False
theorem sV : y7 Γ X "list" "list.append" K zAppend := ⟨_, k6, fun β x xs d ds M H Q Q' _ _ _ m r rs z q => by
  unfold zAppend at z
  split at z
  · rename_i a y
    split at z
    · rename_i es he
      obtain ⟨e, hs⟩ := cO r
      obtain ⟨v, e2, rv⟩ := dS rs
      subst e e2
      obtain ⟨vs, hv, cC⟩ := m.obj a _ he
      refine ⟨a, vs, v, rfl, rfl, hv, by rw [cC.len]; exact z.1, ?_⟩
      exact q _ _ _ _ (Ex.own m (.inl hs) (cC.snoc rv)) .ao z.2
    · exact z.elim
  · exact z.elim⟩
noncomputable def zPop : qD := fun d ds M Q => match d, ds with | .ptr a, [] => (match M a with | some (.lst xs) => (match xs[xs.length - 1]? with | some y => Q y (aF M a (.lst xs.dropLast)) | none => False) | _ => False) | _, _ => False
noncomputable def zPopAt : qD := fun d ds M Q => match d, ds with | .ptr a, [.int i] => (match M a with | some (.lst xs) => -(2 ^ 63) ≤ i ∧ i < 2 ^ 63 ∧ (match seqIndex? i xs.length with | some k => (match xs[k]? with | some y => Q y (aF M a (.lst (xs.eraseIdx k))) | none => False) | none => False) | _ => False) | _, _ => False
theorem aN.eraseIdx {M : Mh} {H : Hp} {vs : List V} {ds : List Dv} (h : aN β M H vs ds) (k : Nat) : aN β M H (vs.eraseIdx k) (ds.eraseIdx k) := by
  rw [List.eraseIdx_eq_take_drop_succ, List.eraseIdx_eq_take_drop_succ]
  exact (h.take _).append (h.drop _)
theorem Es : y7 Γ X "list" "list.pop" K zPopAt := ⟨_, AK, fun β x xs d ds M H Q Q' _ _ _ m r rs z q => by
  unfold zPopAt at z
  split at z
  · rename_i a i
    split at z
    · rename_i es he
      obtain ⟨b1, b2, z⟩ := z
      split at z
      · rename_i k hk
        split at z
        · rename_i y hy
          obtain ⟨e, hs⟩ := cO r
          obtain ⟨v0, e2, Pg⟩ := dS rs
          subst e e2
          rw [aL Pg]
          obtain ⟨vs, hv, cC⟩ := m.obj a _ he
          obtain ⟨v, Ph, rv⟩ := cC.get hy
          refine ⟨a, vs, i, k, v, rfl, rfl, hv, b1, b2, by rw [cC.len]; exact hk, Ph, ?_⟩
          have x2 := Ex.own m (.inl hs) (cC.eraseIdx k)
          exact q _ _ _ _ x2 (rv.ex x2) z
        · exact z.elim
      · exact z.elim
    · exact z.elim
  · exact z.elim⟩
noncomputable def zSetI : Dv → Dv → Dv → Mh → (Mh → Prop) → Prop := fun o i v M N => match o, i with | .ptr a, .int k => (match M a with | some (.lst xs) => (match gW xs.length k with | some j => N (aF M a (.lst (xs.set j v))) | none => False) | _ => False) | _, _ => False
noncomputable def zgSub (po pi : aS) : cA := fun d ρ M N => po ρ M fun o M1 => pi ρ M1 fun i M2 => zSetI o i d M2 fun M3 => N ρ M3
theorem jY {o i : Expr} {po pi : aS} {pos : Pos} (ho : QE Γ X o po) (hi : QE Γ X i pi)
    (ha : ∀ v, assign (.Subscript o i pos) X.env v = (do
      let ov ← holding [v] (eval o X.env)
      let iv ← holding [v, ov] (eval i X.env)
      standAt pos
      holding [v, ov, iv] (setItem ov iv v)
      release [v, ov, iv] []) := by intro _; rfl) : QG Γ X (.Subscript o i pos) (zgSub po pi) :=
  (FX ho hi set_list ha).imp fun v σ H N ⟨β, d, ρ, M, N', zr, r, h, q⟩ => ⟨β, ρ, M, _, zr, h, fun od M1 ov H1 x1 r1 h1 => ⟨β, ρ, M1, _, zr.step x1, h1, fun Q2 M2 iv H2 x2 r2 h2 => by
    unfold zSetI at h2
    split at h2
    · rename_i a k
      split at h2
      · rename_i es he
        split at h2
        · rename_i j hj
          obtain ⟨e, hs⟩ := cO (r1.ex x2)
          subst e
          rw [aL r2]
          obtain ⟨vs, hv, cC⟩ := x2.mz.obj a _ he
          have x3 := Ex.own x2.mz (.inl hs) (cC.set j ((r.ex x1).ex x2))
          exact ⟨a, vs, k, j, rfl, rfl, hv, by rw [cC.len]; exact hj, q _ _ _ _ (x1.trans (x2.trans x3)) (((zr.step x1).step x2).step x3) h2⟩
        · exact h2.elim
      · exact h2.elim
    · exact h2.elim⟩⟩
end
end L2
namespace L2
open PySem PySem.Spec PySem.W PyProof.Rows
noncomputable abbrev ZX := Addr → Mh → Prop
noncomputable abbrev cj := List Dv → Mh → ZK → ZX → Prop
noncomputable def aY (P : Program) (w : World) (K : PySem.W.Frag) (tb : cg) (S : cj) : Sp := fun vs H Q E => ∃ (β : Bz) (ds : List Dv) (M : Mh) (Q' : ZK) (E' : ZX), β.P = P ∧ β.w = w ∧ β.K = K ∧ β.tb = tb ∧ Mz β M H ∧ aN β M H vs ds ∧ S ds M Q' E' ∧
  (∀ d M' v H', Ex β M H M' H' → Rz β M' H' v d → Q' d M' → Q v H') ∧ ∀ C M' H', Ex β M H M' H' → E' C M' → E (.ref C) none H'
theorem Rz.mq {β : Bz} {M0 M : Mh} {H : Hp} (dom : ∀ a, (M0 a).isSome = true → (M a).isSome = true) {v : V} {d : Dv} (h : Rz β M H v d) : Pin M0 d → Rz β M0 H v d := by
  have ne : ∀ a, Fz β M a → Fz β M0 a := fun a m => ⟨(by
    cases e : M0 a with
    | none => rfl
    | some o => have := dom a (by rw [e]; rfl); rw [m.1] at this; cases this), m.2⟩
  induction h with
  | int i => exact fun _ => .int i
  | bl b => exact fun _ => .bl b
  | ao => exact fun _ => .ao
  | str z => exact fun _ => .str z
  | tup m e hl h ih =>
    intro p
    cases p with
    | tup p => exact .tup (ne _ m) e hl fun i v d a b => ih i v d a b (p d (List.mem_of_getElem? b))
  | lst m e hl h ih =>
    intro p
    cases p with
    | lst p => exact .lst (ne _ m) e hl fun i v d a b => ih i v d a b (p d (List.mem_of_getElem? b))
  | set m e => exact fun _ => .set (ne _ m) e
  | ptr m => intro p; cases p with | ptr p => exact .ptr p
  | exc m e => exact fun _ => .exc (ne _ m) e
  | bz m e => exact fun _ => .bz (ne _ m) e
  | cF m e => exact fun _ => .cF (ne _ m) e
  | cG e => exact fun _ => .cG e
  | dk m e hk hl h ih =>
    intro p
    cases p with
    | dk p => exact .dk (ne _ m) e hk hl fun i v d a b => ih i v d a b (p d (List.mem_of_getElem? b))
  | dt m e hk hl h ih =>
    intro p
    cases p with
    | dt p => exact .dt (ne _ m) e hk hl fun i v d a b => ih i v d a b (p d (List.mem_of_getElem? b))
  | bX m e m2 e2 hl h ih =>
    intro p
    cases p with
    | bX p => exact .bX (ne _ m) e (ne _ m2) e2 hl fun i v d a b => ih i v d a b (p d (List.mem_of_getElem? b))
  | raw v => exact fun _ => .raw v
inductive kP (M0 M : Mh) : Dv → Dv → Prop where
  | pin {d : Dv} (h : Pin M0 d) : kP M0 M d d
  | ptr {a : Addr} {ds fT : List Dv} (h0 : M0 a = none) (h : M a = some (.lst ds)) (hl : ds.length = fT.length) (r : ∀ (i : Nat) (d d' : Dv), ds[i]? = some d → fT[i]? = some d' → kP M0 M d d') : kP M0 M (.ptr a) (.lst fT)
  | tup {ds fT : List Dv} (hl : ds.length = fT.length) (r : ∀ (i : Nat) (d d' : Dv), ds[i]? = some d → fT[i]? = some d' → kP M0 M d d') : kP M0 M (.tup ds) (.tup fT)
  | dk {a : Addr} {ks : List Key} {ds fT : List Dv} (h0 : M0 a = none) (h : M a = some (.dk ks ds)) (hl : ds.length = fT.length) (r : ∀ (i : Nat) (d d' : Dv), ds[i]? = some d → fT[i]? = some d' → kP M0 M d d') : kP M0 M (.ptr a) (.dk ks fT)
  | dt {a : Addr} {ks : List (List Key)} {ds fT : List Dv} (h0 : M0 a = none) (h : M a = some (.dt ks ds)) (hl : ds.length = fT.length) (r : ∀ (i : Nat) (d d' : Dv), ds[i]? = some d → fT[i]? = some d' → kP M0 M d d') : kP M0 M (.ptr a) (.dt ks fT)
theorem kP.rz {β : Bz} {M0 M : Mh} {H : Hp} (mz : Mz β M H) (dom : ∀ a, (M0 a).isSome = true → (M a).isSome = true) {d d' : Dv} (h : kP M0 M d d') : ∀ {v : V}, Rz β M H v d → Rz β M0 H v d' := by
  induction h with
  | pin h => exact fun r => r.mq dom h
  | ptr h0 h hl r ih =>
    intro v r
    obtain ⟨rfl, _⟩ := cO r
    obtain ⟨vs, hv, rs⟩ := mz.obj _ _ h
    refine .lst ⟨h0, mz.apart _ _ h⟩ hv (rs.len.trans hl) fun i v d a b => ?_
    obtain ⟨d0, q, rd⟩ := rs.get' a
    exact ih i d0 d q b rd
  | dk h0 h hl r ih =>
    intro v r
    obtain ⟨rfl, _⟩ := cO r
    obtain ⟨vs, hv, hk, rs⟩ := mz.obj _ _ h
    refine .dk ⟨h0, mz.apart _ _ h⟩ (.inl hv) hk (rs.len.trans hl) fun i v d a b => ?_
    obtain ⟨d0, q, rd⟩ := rs.get' a
    exact ih i d0 d q b rd
  | dt h0 h hl r ih =>
    intro v r
    obtain ⟨rfl, _⟩ := cO r
    obtain ⟨vs, hv, hk, rs⟩ := mz.obj _ _ h
    refine .dt ⟨h0, mz.apart _ _ h⟩ (.inl hv) hk (rs.len.trans hl) fun i v d a b => ?_
    obtain ⟨d0, q, rd⟩ := rs.get' a
    exact ih i d0 d q b rd
  | tup hl r ih =>
    intro v r
    obtain ⟨a, vs, rfl, f, hv, rs⟩ := cw r
    refine .tup ⟨?_, f.2⟩ hv (rs.len.trans hl) fun i v d a b => ?_
    · cases e : M0 a with
      | none => rfl
      | some o => have := dom a (by rw [e]; rfl); rw [f.1] at this; cases this
    · obtain ⟨d0, q, rd⟩ := rs.get' a
      exact ih i d0 d q b rd
noncomputable def jH (M0 : Mh) (Q : ZK) : ZK := fun d M => Q d M ∨ ((∀ a o, M0 a = some o → M a = some o) ∧ ∃ d', kP M0 M d d' ∧ Q d' M0)
theorem mr {β : Bz} {M0 M : Mh} {H0 H : Hp} {Q' : ZK} {Q : VK} (m0 : Mz β M0 H0) (q : ∀ d M' v H', Ex β M0 H0 M' H' → Rz β M' H' v d → Q' d M' → Q v H') {d : Dv} {v : V} (x : Ex β M0 H0 M H) (r : Rz β M H v d) (h : jH M0 Q' d M) : Q v H := by
  rcases h with h | ⟨same, d', rv, h⟩
  · exact q _ _ _ _ x r h
  · refine q d' M0 v H ⟨⟨x.keep, fun _ h => h, fun _ _ h _ => h⟩, fun a o e => ?_, x.mz.tabs, x.mz.hids, m0.apart, x.mz.lams⟩ (rv.rz x.mz x.dom r) h
    have z := x.mz.obj a o (same a o e)
    have z0 := m0.obj a o e
    cases o with
    | lst ds =>
      obtain ⟨vs, z, rs⟩ := z
      obtain ⟨LU, _, y8⟩ := z0
      refine ⟨vs, z, rs.len, fun i v d a b => (rs.at' i v d a b).mq x.dom ?_⟩
      obtain ⟨v0, _, r0⟩ := y8.get b
      exact r0.pin
    | dk ks ds =>
      obtain ⟨vs, z, hk, rs⟩ := z
      obtain ⟨LU, _, _, y8⟩ := z0
      refine ⟨vs, z, hk, rs.len, fun i v d a b => (rs.at' i v d a b).mq x.dom ?_⟩
      obtain ⟨v0, _, r0⟩ := y8.get b
      exact r0.pin
    | dt ks ds =>
      obtain ⟨vs, z, hk, rs⟩ := z
      obtain ⟨LU, _, _, y8⟩ := z0
      refine ⟨vs, z, hk, rs.len, fun i v d a b => (rs.at' i v d a b).mq x.dom ?_⟩
      obtain ⟨v0, _, r0⟩ := y8.get b
      exact r0.pin
    | cY => exact z
noncomputable def zstart (N : List Str) (ds : List Dv) : ay := ds.map some ++ List.replicate (N.length - ds.length) none
theorem nj {Γ : Gz} {N : List Str} {vs : List V} {ds : List Dv} (m : Mz Γ.toBz Γ.M0 Γ.H0) (rs : aN Γ.toBz Γ.M0 Γ.H0 vs ds) : Zr Γ Γ.toBz Γ.M0 (zstart N ds) (start N vs) Γ.H0 := ⟨rfl, rfl, rfl, rfl, fun _ h => h, m.wf, .refl, m, by simp [zstart, start, rs.len], fun i d e => by
  unfold zstart at e
  unfold start
  rw [List.getElem?_append] at e ⊢
  rw [List.length_map] at e ⊢
  rw [rs.len]
  split at e
  · rename_i hi
    rw [if_pos hi]
    rw [List.getElem?_map, Option.map_eq_some_iff] at e
    obtain ⟨d2, e, e2⟩ := e
    cases e2
    obtain ⟨v, hv, r⟩ := rs.get e
    exact ⟨v, by rw [List.getElem?_map, hv]; rfl, r⟩
  · rw [List.getElem?_replicate] at e
    split at e <;> cases e⟩
noncomputable def zEndsOf (M0 : Mh) (Q : ZK) : gr := { nx := fun _ M => jH M0 Q .ao M, rt := jH M0 Q }
noncomputable def XR (Γ : Gz) (E' : ZX) (E : XK) : Prop := ∀ C M' H', Ex Γ.toBz Γ.M0 Γ.H0 M' H' → E' C M' → E (.ref C) none H'
section
variable {P : Program} {w : World} {K : PySem.W.Frag} {mg : Str → Option Value} {base : Heap} {tb : cg} {x : Str} {st : Stmt} {f : Addr} {fd : FuncData} {N ps : List Str} {k : Nat} {S : cj}
theorem o9 (len : ∀ ds M Q E, S ds M Q E → ds.length = ps.length) : ∀ vs H Q E, aY P w K tb S vs H Q E → vs.length = ps.length := fun vs H Q E hS => by
  obtain ⟨β, ds, M, Q', E', _, _, _, _, m, rs, s, _⟩ := hS
  exact rs.len.trans (len _ _ _ _ s)
theorem fJ (D : Df K mg x st ps f fd) (sc : aQ N ps (ai st)) (len : ∀ ds M Q E, S ds M Q E → ds.length = ps.length)
    (body : ∀ (A : Around) (outer : List Env) (s : Shared) (E : XK) (Γ : Gz) (ds : List Dv) (Q' : ZK) (E' : ZX), P = Γ.P → w = Γ.w → K = Γ.K → tb = Γ.tb → bC k (A.deeper (envOfC x (ai st) s.heap.objs.size f fd.code)) → S ds Γ.M0 Q' E' →
      ∃ p, iY Γ (fo bt P w K mg base N x (ai st) f fd.code A outer s Γ.H0 E).rM (bD st) p ∧ p (zEndsOf Γ.M0 Q') (zstart N ds) Γ.M0) : FnOk P w K mg base bt (k + 1) f fd ps (aY P w K tb S) := by
  refine D.fn.Oy sc (o9 len) fun A outer s H vs Q E hr h => ?_
  obtain ⟨β, ds, M, Q', E', eP, ew, eK, et, m, rs, hS, q, _⟩ := h
  obtain ⟨p, hp, hq⟩ := body A outer s E ⟨β, M, H⟩ ds Q' E' eP.symm ew.symm eK.symm et.symm hr hS
  refine ⟨_, hp, β, zstart N ds, M, zEndsOf M Q', nj (Γ := ⟨β, M, H⟩) m rs, hq, ?_⟩
  have fin : ∀ d M' v H', Ex β M H M' H' → Rz β M' H' v d → jH M Q' d M' → Q v H' := fun d M' v H' x r h => mr m q x r h
  exact ⟨fun bA M' aA H' x zr h => fin _ _ _ _ ⟨zr.ent, x.mz⟩ .ao h, fun d M' v H' x e r h => fin _ _ _ _ ⟨e, x.mz⟩ r h, fun _ _ _ _ _ _ h => h, fun _ _ _ _ _ _ h => h⟩
end
section
variable {P : Program} {w : World} {K : PySem.W.Frag} {mg : Str → Option Value} {base : Heap} {tb : cg} {x : Str} {st : Stmt} {f : Addr} {fd : FuncData} {N ps : List Str} {k : Nat} {S : cj}
theorem oD (D : Df K mg x st ps f fd) (sc : aQ N ps (ai st)) (len : ∀ ds M Q E, S ds M Q E → ds.length = ps.length)
    (body : ∀ (A : Around) (outer : List Env) (s : Shared) (E : XK) (Γ : Gz) (ds : List Dv) (Q' : ZK) (E' : ZX), P = Γ.P → w = Γ.w → K = Γ.K → tb = Γ.tb → XR Γ E' E → bC k (A.deeper (envOfC x (ai st) s.heap.objs.size f fd.code)) → S ds Γ.M0 Q' E' →
      ∃ p, iY Γ (fo (cN P w) P w K mg base N x (ai st) f fd.code A outer s Γ.H0 E) (bD st) p ∧ p (zEndsOf Γ.M0 Q') (zstart N ds) Γ.M0) : FnOk P w K mg base (cN P w) (k + 1) f fd ps (aY P w K tb S) := by
  refine D.fn.yn sc (o9 len) fun A outer s H vs Q E hr h => ?_
  obtain ⟨β, ds, M, Q', E', eP, ew, eK, et, m, rs, hS, q, qx⟩ := h
  obtain ⟨p, hp, hq⟩ := body A outer s E ⟨β, M, H⟩ ds Q' E' eP.symm ew.symm eK.symm et.symm qx hr hS
  refine ⟨_, hp, β, zstart N ds, M, zEndsOf M Q', nj (Γ := ⟨β, M, H⟩) m rs, hq, ?_⟩
  have fin : ∀ d M' v H', Ex β M H M' H' → Rz β M' H' v d → jH M Q' d M' → Q v H' := fun d M' v H' x r h => mr m q x r h
  exact ⟨fun bA M' aA H' x zr h => fin _ _ _ _ ⟨zr.ent, x.mz⟩ .ao h, fun d M' v H' x e r h => fin _ _ _ _ ⟨e, x.mz⟩ r h, fun _ _ _ _ _ _ h => h, fun _ _ _ _ _ _ h => h⟩
end
section
variable {X : Cx} {Γ : Gz} {β : Bz} {K : PySem.W.Frag}
noncomputable def zCall (S : cj) (E' : ZX) (za : eL) : aS := fun ρ M Q => za ρ M fun ds M1 => S ds M1 Q E'
theorem XR.none : XR Γ (fun _ _ => False) (fun _ _ _ => False) := fun _ _ _ _ h => h
theorem lK {M M1 M2 : Mh} {H H1 H2 : Hp} (ent : Ey M H M1 H1) (sub : ∀ a, a ∈ Γ.hid → a ∈ β.hid) (eP : β.P = Γ.P) (ew : β.w = Γ.w) (eK : β.K = Γ.K) (et : β.tb = Γ.tb) (x : Ex β M1 H1 M2 H2) : Ex Γ.toBz M H M2 H2 := ⟨ent.trans x.toEy, x.mz.sub eP.symm ew.symm eK.symm et.symm sub⟩
section
variable {CX : eu} {k : Nat} {f : Addr} {fd : FuncData} {ps : List Str} {S : cj} {E : XK} {E' : ZX} {x : Str} {p pos : Pos} {e : Expr} {es : List Expr} {za : eL} {P : Program} {w : World} {tb : cg}
theorem HQ (hP : P = Γ.P) (hw : w = Γ.w) (hK : K = Γ.K) (ht : tb = Γ.tb) (hE : XR Γ E' E) {σ : St} {H : Hp} {Q : VK} (h : lE Γ (zCall S E' za) σ H Q) : CK (aY P w K tb S) [] E (lA Γ za) σ H Q := by
  subst hP hw hK ht
  obtain ⟨β, ρ, M, Q', zr, h, q⟩ := h
  refine ⟨β, ρ, M, _, zr, h, fun ds M1 vs H1 x1 r1 h1 => ?_⟩
  show aY Γ.P Γ.w Γ.K Γ.tb S (vs ++ []) H1 Q E
  rw [List.append_nil]
  exact ⟨β, ds, M1, Q', E', zr.eP, zr.ew, zr.eK, zr.et, x1.mz, r1, h1, fun d M2 v H2 x2 r2 h2 => q _ _ _ _ (x1.trans x2) r2 h2, fun C M2 H2 x2 h2 => hE C M2 H2 (lK zr.ent zr.sub zr.eP zr.ew zr.eK zr.et (x1.trans x2)) h2⟩
theorem aG (F : FnOk X.prog X.w X.K X.mg X.base CX k f fd ps (aY P w K tb S)) (hr : bC k X.A) (hg : Gl X x) (hm : X.mg x = some (.ref f)) (hk : PySem.W.keepIn X.K (.ref f) = true) (hb : Binds X.K fd ps []) (hx : Passes CX X E) (hP : P = Γ.P) (hw : w = Γ.w) (hK : K = Γ.K) (ht : tb = Γ.tb) (hE : XR Γ E' E)
    (ha : QA Γ X (e :: es) za) (cV : (x == ("__debug__" : Str)) = false := by decide) (he : starEach (e :: es) X.env = (false, eval e X.env) :: starEach es X.env := by rfl) (cy : (backTo pos (starEach es X.env)).any (·.1) = false := by rfl) :
    QE Γ X (.Call (.Name x p) (e :: es) [] pos) (zCall S E' za) := (DR F hr hg hm hk hb .nil hx ha cV he cy).imp fun σ H Q h => HQ hP hw hK ht hE h
end
noncomputable def zRaise (C : Addr) (E' : ZX) (za : eL) : bS := fun _ ρ M => za ρ M fun ds M1 => ds.length ≤ sizeLine ∧ E' C M1
theorem sW {x : Str} {C : Addr} {jG : Expr} {rest : List Expr} {za : eL} {qt : List Value} {B newId sH : String} {E : XK} {E' : ZX} {np bu pos : Pos} (O : PySem.W.excIn X.K C qt newId = true) (FB : ExcBaseFacts B newId sH qt) (hc : X.calm = true) (hR : Raises X E) (hE : XR Γ E' E) (hg : Gl X x) (hm : X.mg x = some (.ref C)) (ha : QA Γ X (jG :: rest) za)
    (cV : (x == ("__debug__" : Str)) = false := by decide) (he : starEach (jG :: rest) X.env = (false, eval jG X.env) :: starEach rest X.env := by rfl) (cy : (backTo bu (starEach rest X.env)).any (·.1) = false := by rfl) :
    QS Γ X (.Raise (some (.Call (.Name x np) (jG :: rest) [] bu)) none pos) (zRaise C E' za) := (Bd O FB hc hR hg hm ha cV he cy).imp fun D σ H ⟨β, ρ, M, D', zr, h, r⟩ => ⟨β, ρ, M, _, zr, h, fun ds M1 vs H1 x1 r1 h1 =>
  ⟨by rw [r1.len]; exact h1.1, hE C M1 H1 (lK zr.ent zr.sub zr.eP zr.ew zr.eK zr.et x1) h1.2⟩⟩
noncomputable def zTry (K : PySem.W.Frag) (C0 : Addr) (i n : Nat) (pb : ZX → bS) (ph : bS) : bS := fun D ρ M => pb (fun C M' => subIn K (.ref C) (.ref C0) = some true ∧ ph { D with nx := fun _ M2 => D.nx (List.replicate n none) M2, bk := fun _ M2 => D.bk (List.replicate n none) M2, ct := fun _ M2 => D.ct (List.replicate n none) M2 } ((List.replicate n none).set i (some (.exc C))) M') D ρ M
theorem HR {body suite : List Stmt} {x n : Str} {i : Nat} {np sL pos : Pos} {o3 : Stmt} {C0 : Addr} {pb : ZX → bS} {ph : bS} {nn : Nat} (Pj : X.N.length = nn) (hN : X.N.Nodup) (hi : X.N[i]? = some n) (hl : X.env.scope.names.lookup n = some .local) (ig : X.stack = X.env :: X.outer ∧ X.env.frame = some X.env.locals) (hex : X.ex = []) (O : js X.K C0) (hg : Gl X x) (hm : X.mg x = some (.ref C0))
    (hb : ∀ (T : Value → Shared → Prop) (pn : List (Addr × Obj)) (E : XK) (E' : ZX) (aV : Gz), aV.P = Γ.P → aV.w = Γ.w → aV.K = Γ.K → aV.tb = Γ.tb → Passes (cN X.prog X.w) (X.j8 T pn) E → XR aV E' E → iY aV (X.j8 T pn) body (pb E')) (hs : ∀ a : Addr, iY Γ (X.suite a) (o3 :: suite) ph)
    (cV : (x == ("__debug__" : Str)) = false := by decide) :
    QS Γ X (.Try body [.ExceptHandler (some (.Name x np)) (some n) (o3 :: suite) sL] [] [] pos) (zTry X.K C0 i nn pb ph) := by
  subst Pj
  refine (Hn (tb := fun E => fun D σ H => ∃ (aV : Gz) (E' : ZX), aV.P = Γ.P ∧ aV.w = Γ.w ∧ aV.K = Γ.K ∧ aV.tb = Γ.tb ∧ XR aV E' E ∧ lS aV (pb E') D σ H) hN hi hl ig hex O hg hm (fun T pn E hp => ⟨fun pins s σ H D I h => ?_⟩) hs cV).imp fun D σ H ⟨β, ρ, M, D', zr, h, r⟩ => ⟨⟨β, M, H⟩, _, zr.eP, zr.ew, zr.eK, zr.et, ?_, β, ρ, M, D', ⟨rfl, rfl, rfl, rfl, fun _ h => h, zr.mz.wf, .refl, zr.mz, zr.len, zr.at'⟩, h, ?_⟩
  · obtain ⟨aV, E', e1, e2, e4, e3, hE, h⟩ := h
    exact (hb T pn E E' aV e1 e2 e4 e3 hp hE) pins s σ H D I h
  · intro C M' H' x' hC
    have x' : Ex β M H M' H' := x'
    obtain ⟨j6, Pk⟩ := hC
    refine ⟨C, rfl, j6, fun a ha => ?_⟩
    have x2 := Ex.lay x'.mz ha (m6 C a)
    have x3 := x'.trans x2
    have bare : ∀ {M2 : Mh} {H2 : Hp}, Ex β M H M2 H2 → Zr Γ β M2 (List.replicate X.N.length none) (blank X.N.length) H2 := fun x => ⟨zr.eP, zr.ew, zr.eK, zr.et, zr.sub, zr.wf, zr.ent.trans x.toEy, x.mz, by simp [blank], fun j d e => by
      rw [List.getElem?_replicate] at e
      split at e <;> cases e⟩
    refine ⟨β, _, M', _, (bare x3).set i (.exc (x'.mz.fz ha) aC), Pk, ?_⟩
    have wB : ∀ {M2 : Mh} {fw : ay} {gU : St} {H2 : Hp}, Zr Γ β M2 fw gU H2 → Zr Γ β M2 (List.replicate X.N.length none) (blank X.N.length) H2 := fun z => ⟨z.eP, z.ew, z.eK, z.et, z.sub, z.wf, z.ent, z.mz, by simp [blank], fun j d e => by
      rw [List.getElem?_replicate] at e
      split at e <;> cases e⟩
    exact ⟨fun fw M2 gU H2 y z h => r.nx _ _ _ _ (x3.ev.trans y) (wB z) h, fun d M2 v H2 y e z h => r.rt _ _ _ _ (x3.ev.trans y) e z h, fun fw M2 gU H2 y z h => r.bk _ _ _ _ (x3.ev.trans y) (wB z) h, fun fw M2 gU H2 y z h => r.ct _ _ _ _ (x3.ev.trans y) (wB z) h⟩
  · have up : ∀ {bA : ay} {M2 : Mh} {aA : St} {H2 : Hp}, Zr ⟨β, M, H⟩ β M2 bA aA H2 → Zr Γ β M2 bA aA H2 := fun z => ⟨zr.eP, zr.ew, zr.eK, zr.et, zr.sub, zr.wf, zr.ent.trans z.ent, z.mz, z.len, z.at'⟩
    exact ⟨fun fw M2 gU H2 y z h => r.nx _ _ _ _ y (up z) h, fun d M2 v H2 y e z h => r.rt _ _ _ _ y (zr.ent.trans e) z h, fun fw M2 gU H2 y z h => r.bk _ _ _ _ y (up z) h, fun fw M2 gU H2 y z h => r.ct _ _ _ _ y (up z) h⟩
noncomputable def zIsE (K : PySem.W.Frag) : ow := fun ds M Q => match ds with
  | [.exc C, .raw (.ref D)] => eC K C ∧ (match kitOne K (.ref C) (.ref D) with | some b => Q (.bl b) M | none => False)
  | [.exc C, .raw (.ty T)] => eC K C ∧ (match kitOne K (.ref C) (.type T) with | some b => Q (.bl b) M | none => False)
  | [.exc C, .tup es] => eC K C ∧ ∃ Ds : List Addr, es = Ds.map (fun D => .raw (.ref D)) ∧ (match kitAny K (.ref C) (Ds.map Value.ref) with | some b => Q (.bl b) M | none => False)
  | _ => False
theorem du (hK : X.K = K) : fE Γ X (.builtin "isinstance") (zIsE K) := ⟨_, Bf hK, fun β xs ds M H Q Q' _ _ _ m rs z q => by
  unfold zIsE at z
  split at z
  · rename_i C D
    obtain ⟨x, y, rfl, r, r'⟩ := gG rs
    obtain ⟨a, rfl, f, h⟩ := ly r
    have e := jt r'
    subst e
    obtain ⟨hC, z⟩ := z
    split at z
    · rename_i b hb
      exact ⟨a, C, b, h, hC, .inl ⟨D, rfl, hb⟩, q _ _ _ _ (.refl m) (.bl _) z⟩
    · exact z.elim
  · rename_i C T
    obtain ⟨x, y, rfl, r, r'⟩ := gG rs
    obtain ⟨a, rfl, f, h⟩ := ly r
    have e := jt r'
    subst e
    obtain ⟨hC, z⟩ := z
    split at z
    · rename_i b hb
      exact ⟨a, C, b, h, hC, .inr (.inl ⟨T, rfl, hb⟩), q _ _ _ _ (.refl m) (.bl _) z⟩
    · exact z.elim
  · rename_i C es
    obtain ⟨x, y, rfl, r, r'⟩ := gG rs
    obtain ⟨a, rfl, f, h⟩ := ly r
    obtain ⟨b2, vs, rfl, f2, h2, cC⟩ := cw r'
    obtain ⟨hC, Ds, rfl, z⟩ := z
    split at z
    · rename_i b hb
      have ev : vs = Ds.map V.ref := by
        refine List.ext_getElem? fun i => ?_
        cases e : vs[i]? with
        | none =>
          have := List.getElem?_eq_none_iff.mp e
          have l := cC.len
          simp at l
          rw [List.getElem?_map, List.getElem?_eq_none_iff.mpr (by omega)]
          rfl
        | some v =>
          obtain ⟨d, hd, rd⟩ := cC.get' e
          rw [List.getElem?_map] at hd
          cases e2 : Ds[i]? with
          | none => rw [e2] at hd; cases hd
          | some D => rw [e2] at hd; cases hd; rw [List.getElem?_map, e2, jt rd]; rfl
      subst ev
      exact ⟨a, C, b, h, hC, .inr (.inr ⟨b2, Ds, rfl, h2, hb⟩), q _ _ _ _ (.refl m) (.bl _) z⟩
    · exact z.elim
  · exact z.elim⟩
section
variable {tg elt iter : Expr} {ifs : List Expr} {scope : Scope} {pos : Pos} {N' : List Str} {tn : Nat} {idx : List Nat} {zi : fV} {g : cA} {tt : cZ} {te : aS} {c P : Addr} {k : Nat}
theorem eE (hc : X.calm = true) (B : aK X.N X.env.scope scope N' tn idx) (hi : QI Γ X tg iter zi)
    (hg : Blk X N' scope fun Y => QG Γ Y tg g) (ht : Blk X N' scope fun Y => sR Γ Y ifs tt) (he : Blk X N' scope fun Y => QE Γ Y elt te)
    (hs : ∀ x, foldedSetIterable iter X.env x = pure x := by intro _; rfl) : QE Γ X (.ListComp elt [⟨tg, iter, ifs, 0⟩] scope pos) (zComp tn idx zi g tt te) := (mI hc B hi hg ht he hs).imp fun σ H Q h => HJ h
theorem ja (hc : X.calm = true) (B : aK X.N X.env.scope scope N' tn idx) (hi : QI Γ X tg iter zi)
    (hg : Blk X N' scope fun Y => QG Γ Y tg g) (ht : Blk X N' scope fun Y => sR Γ Y ifs tt) (he : Blk X N' scope fun Y => QE Γ Y elt te)
    (hs : ∀ x, foldedSetIterable iter X.env x = pure x := by intro _; rfl) : QE Γ X (.ListComp elt [⟨tg, iter, ifs, 0⟩] scope pos) (zCompP tn idx zi g tt te) := (mI hc B hi hg ht he hs).imp fun σ H Q h => o6 h
theorem uf {i : Nat} {y : Str} {py iQ : Pos} (hN : X.N.Nodup) (ez : X.N[i]? = some y) (hy : X.env.scope.names.lookup y = some .local) (hc : X.calm = true) (B : aK X.N X.env.scope scope N' tn idx) (hi : QI Γ X tg iter zi)
    (hg : Blk X N' scope fun Y => QG Γ Y tg g) (ht : Blk X N' scope fun Y => sR Γ Y ifs tt) (he : Blk X N' scope fun Y => QE Γ Y elt te)
    (rZ : swapsWith (.ListComp elt [⟨tg, iter, ifs, 0⟩] scope pos) (some (.Name y py)) iQ.line X.env = pure true := by rfl)
    (hs : ∀ x, foldedSetIterable iter X.env x = pure x := by intro _; rfl) : QS Γ X (.Assign [.Name y py] (.ListComp elt [⟨tg, iter, ifs, 0⟩] scope pos) iQ) (zAsg (zCompP tn idx zi g tt te) (zgName i)) := (vU hN ez hy hc B hi hg ht he rZ hs).imp fun D σ H h => wz (fun _ _ _ h => o6 h) h
theorem sX {p sh : Pos} (hP : P ∈ Γ.tb) (hr : bC (k + 1) X.A) (hc : X.calm = true) (B : aK X.N X.env.scope scope N' tn idx)
    (h0 : scope.names.lookup (".0" : Str) = some .local) (qg : scope.isCoroutine = false) (bM : X.env.code = .ref c) (hd : PySem.W.CodeHd X.base c P) (dH : ∃ bm ob, BMod X.base mainGlobals X.mg bm ob)
    (uY : Gl X "all") (hm : X.mg "all" = none) (hi : QI Γ X tg iter zi) (hg : mY X N' scope k fun Y => QG Γ Y tg g) (ht : mY X N' scope k fun Y => sR Γ Y ifs tt) (he : mY X N' scope k fun Y => QE Γ Y elt te)
    (hs : ∀ x, genFold iter X.env x = pure x := by intro _; rfl) : QE Γ X (.Call (.Name "all" p) [d6 elt tg iter ifs scope sh] [] pos) (zAll tn idx zi g tt te) := (GQ hr hc B h0 qg bM hd dH uY hm hi hg ht he hs).imp fun σ H Q h => Kg hP h
end
end
section
variable {X : Cx} {Γ : Gz} {β : Bz} {K : PySem.W.Frag}
section
variable {tg elt iter : Expr} {ifs : List Expr} {scope : Scope} {pos : Pos} {N' : List Str} {tn : Nat} {idx : List Nat} {zi : fV} {g : cA} {tt : cZ} {te : aS} {c P : Addr} {k : Nat}
noncomputable def C7 (g : cA) (tt : cZ) (te : aS) : List Dv → ay → Mh → (List Int → Mh → Prop) → List Int → Prop
  | [], _, M, Q, acc => Q acc M
  | d :: ds, τ, M, Q, acc => g d τ M fun aE M2 => tt aE M2 fun b M3 => if b = true then te aE M3 fun y M4 => (match y with | .int k => acc.length + 1 < scanBound ∧ C7 g tt te ds aE M4 Q (eT acc k) | _ => False) else C7 g tt te ds aE M3 Q acc
end
noncomputable def fy (xs ys : List Dv) : List Dv := (xs.zip ys).map fun p => .tup [p.1, p.2]
noncomputable def jb (n : Nat) : List Dv := (List.range n).map fun i => .int (i : Nat)
theorem qE {J : It} {vs us : List V} {ds es : List Dv} {M : Mh} {H : Hp} (r : aN β M H vs ds) (r2 : aN β M H us es) (h : ∀ M' H', Ey M H M' H' → C1 J (vs.zip us) H') : yW β J (fy ds es) M H := fun cx M' H' bx x m i => by
  have q := h M' H' x i
  have hl : (fy ds es).length = (vs.zip us).length := by simp [fy, r.len, r2.len]
  rw [hl]
  refine ⟨fun hi => ⟨(q.1 hi).1, fun v lC y => ?_⟩, q.2⟩
  obtain ⟨t, p, ht, rfl, hp, rfl⟩ := (q.1 hi).2 v lC y
  rw [List.getElem?_zip_eq_some] at hp
  obtain ⟨d, hd, rd⟩ := r.get' hp.1
  obtain ⟨e, he, re⟩ := r2.get' hp.2
  have x2 := Ex.lay m ht (.tup [p.1, p.2])
  refine ⟨x2, .tup [d, e], ?_, fv (m.fz ht) aC (.cons (((rd.bx bx).ey x).ex x2) (.cons (((re.bx bx).ey x).ex x2) .nil))⟩
  unfold fy
  rw [List.getElem?_map, Option.map_eq_some_iff]
  exact ⟨(d, e), by rw [List.getElem?_zip_eq_some]; exact ⟨hd, he⟩, rfl⟩
theorem enum_zip (vs : List V) : ((List.range vs.length).map fun i => (V.int (i : Nat), vs.getD i .ao)) = ((List.range vs.length).map fun i => V.int (i : Nat)).zip vs := by
  refine List.ext_getElem? fun i => ?_
  by_cases hi : i < vs.length
  · rw [List.getElem?_map, List.getElem?_range hi]
    symm
    show _ = some (V.int (i : Nat), vs.getD i .ao)
    rw [List.getElem?_zip_eq_some, List.getElem?_map, List.getElem?_range hi, List.getD_eq_getElem?_getD, List.getElem?_eq_getElem hi]
    exact ⟨rfl, rfl⟩
  · rw [List.getElem?_eq_none_iff.mpr (by simp; omega), List.getElem?_eq_none_iff.mpr (by simp; omega)]
theorem pd {n : Nat} {M : Mh} {H : Hp} : aN β M H ((List.range n).map fun i => V.int (i : Nat)) (jb n) := ⟨by simp [jb], fun i v d a b => by
  unfold jb at b
  rw [List.getElem?_map] at a b
  cases e : (List.range n)[i]? with
  | none => rw [e] at a; cases a
  | some c => rw [e] at a b; cases a; cases b; exact .int _⟩
theorem Sq.LV {H : Hp} {a : Addr} {xs : List V} (h : H a = some (.lst xs)) : Sq true K H a xs := by
  unfold Sq
  exact bI.of h
theorem Sq.ofT {H : Hp} {a : Addr} {xs : List V} (h : H a = some (.tup xs)) : Sq false K H a xs := by
  unfold Sq
  exact bJ.of h
section
variable {elts : List Expr} {x1 : Nat} {tp p pos : Pos} {l l1 l2 : Expr} {pl p1 p2 : aS}
noncomputable def ziEnumK (k : Bool) (p : aS) : fV := fun ρ M R => p ρ M fun d M1 => match k, d with | false, .tup ds => R (fy (jb ds.length) ds) M1 | true, .lst ds => R (fy (jb ds.length) ds) M1 | _, _ => False
theorem Et (k : Bool) (hK : X.K = K) (hg : Gl X "enumerate") (hm : X.mg "enumerate" = none) (hl : QE Γ X l pl) (hs : starEach [l] X.env = [(false, eval l X.env)] := by rfl) :
    QI Γ X (.Tuple elts x1 tp) (.Call (.Name "enumerate" p) [l] [] pos) (ziEnumK k pl) := (Ei k hK hg hm hl hs).imp fun σ H R ⟨β, ρ, M, R', zr, h, q⟩ => ⟨β, ρ, M, _, zr, h, fun d M1 v H1 x1 r1 h1 => by
  revert h1
  split
  · intro h1
    obtain ⟨a, vs, rfl, f, e, rs⟩ := cw r1
    refine ⟨a, rfl, ⟨vs, Sq.ofT e⟩, q _ _ _ _ x1 ?_ h1⟩
    rw [← rs.len]
    exact qE pd rs fun M' H' x => by rw [← enum_zip]; exact qw (Sq.ofT (x.get f.1 e rfl))
  · intro h1
    obtain ⟨a, vs, rfl, f, e, rs⟩ := dn r1
    refine ⟨a, rfl, ⟨vs, Sq.LV e⟩, q _ _ _ _ x1 ?_ h1⟩
    rw [← rs.len]
    exact qE pd rs fun M' H' x => by rw [← enum_zip]; exact qw (Sq.LV (x.get f.1 e rfl))
  · exact fun h => h.elim⟩
end
noncomputable def zRangeP (p : aS) : aS := fun ρ M Q => p ρ M fun d M1 => match d with | .int j => -(2 ^ 24) ≤ j ∧ j ≤ 2 ^ 24 ∧ ∀ a, M1 a = none → Q (.ptr a) (aF M1 a (.lst (jb j.toNat))) | _ => False
section
variable {e : Expr} {pe : aS} {p p1 p2 pos : Pos}
theorem qU (hc : X.calm = true) (hg : Gl X "list") (hm : X.mg "list" = none) (GU : Gl X "range") (GV : X.mg "range" = none) (he : QE Γ X e pe) (hs : starEach [e] X.env = [(false, eval e X.env)] := by rfl) :
    QE Γ X (.Call (.Name "list" p) [.Call (.Name "range" p1) [e] [] p2] [] pos) (zRangeP pe) := (si hc hg hm GU GV he hs).imp fun σ H Q ⟨β, ρ, M, Q', zr, h, q⟩ => ⟨β, ρ, M, _, zr, h, fun d M1 v H1 x1 r1 h1 => by
  revert h1
  split
  · rename_i j
    rintro ⟨b1, b2, h1⟩
    refine ⟨_, aL r1, b1, b2, fun l hl => ?_⟩
    have x2 := Ex.own x1.mz (.inr hl) (pd (n := j.toNat) (β := β) (M := M1) (H := H1))
    exact q _ _ _ _ (x1.trans x2) (.ptr (by rw [updM_same]; rfl)) (h1 l (x1.mz.free hl))
  · exact fun h => h.elim⟩
noncomputable def zNeg (p : aS) : aS := fun ρ M Q => p ρ M fun d M1 => match d with | .int i => Q (.int (-i)) M1 | _ => False
theorem gw (ha : QE Γ X e pe) : QE Γ X (.UnaryOp .USub e pos) (zNeg pe) := (JO Ge ha).imp fun σ H Q ⟨β, ρ, M, Q', zr, h, q⟩ => ⟨β, ρ, M, _, zr, h, fun d M1 v H1 x1 r1 h1 => by
  revert h1
  split
  · intro h1
    exact ⟨_, aL r1, q _ _ _ _ x1 (.int _) h1⟩
  · exact fun h => h.elim⟩
end
theorem qv (i : Nat) {x : Str} {pos : Pos} (hN : X.N[i]? = some x := by rfl) (hv : nE X.env.scope x := by first | exact Or.inl rfl | exact Or.inr (Or.inl rfl) | exact Or.inr (Or.inr rfl)) (hd : (x == ("__debug__" : Str)) = false := by decide)
    (dM : (x == ("__classdict__" : Str)) = false := by decide) : QE Γ X (.Name x pos) (zVar i) := Hz hN hv hd dM
end
theorem Pl {c : Bool} {A B : Prop} (h : c = true) (a : A) : if c = true then A else B := by rw [if_pos h]; exact a
theorem Pm {c : Bool} {A B : Prop} (h : c = false) (b : B) : if c = true then A else B := by rw [h, if_neg Bool.false_ne_true]; exact b
theorem fm {c : Bool} {A B : Prop} (h1 : c = true → A) (h2 : c = false → B) : if c = true then A else B := by
  cases c
  · exact Pm rfl (h2 rfl)
  · exact Pl rfl (h1 rfl)
theorem mw {g : cA} {te : aS} {M : Mh} (p : Dv → Bool) (I : ay → Prop) : ∀ {ds : List Dv} {τ : ay} {Q : Bool → Mh → Prop}, I τ → (∀ d ∈ ds, ∀ τ, I τ → ∀ R : ay → ZK, (∀ aE, I aE → R aE (.bl (p d)) M) → g d τ M fun aE M2 => te aE M2 (R aE)) → Q (ds.all p) M → ju g zNoIf te ds τ M Q
  | [], τ, Q, _, _, q => q
  | d :: ds, τ, Q, i, h, q => by
    refine h d List.mem_cons_self τ i (fun aE => zBool fun c M4 => if c = false then Q false M4 else ju g zNoIf te ds aE M4 Q) fun aE i2 => ?_
    show if p d = false then Q false M else ju g zNoIf te ds aE M Q
    cases e : p d with
    | false =>
      rw [if_pos rfl]
      rw [List.all_cons, e] at q
      exact q
    | true =>
      rw [if_neg (by decide)]
      rw [List.all_cons, e, Bool.true_and] at q
      exact mw p I i2 (fun d' hd => h d' (List.mem_cons_of_mem _ hd)) q
theorem vo {g : cA} {te : aS} (f : Dv → Dv) (I : ay → Mh → Prop) : ∀ {ds : List Dv} {τ : ay} {M : Mh} {Q : List Dv → Mh → Prop}, I τ M → (∀ d ∈ ds, ∀ τ M, I τ M → ∀ R : ay → ZK, (∀ aE M2, I aE M2 → R aE (f d) M2) → g d τ M fun aE M2 => te aE M2 (R aE)) → (∀ τ M, I τ M → Q (ds.map f) M) → gv g zNoIf te ds τ M Q
  | [], τ, M, Q, i, _, q => q τ M i
  | d :: ds, τ, M, Q, i, h, q => by
    refine h d List.mem_cons_self τ M i (fun aE y M4 => gv g zNoIf te ds aE M4 fun ys M5 => Q (y :: ys) M5) fun aE M2 i2 => ?_
    exact vo f I i2 (fun d' hd => h d' (List.mem_cons_of_mem _ hd)) fun mO M3 i3 => q mO M3 i3
theorem pf {g : cA} {tt : cZ} {te : aS} (t : Dv → Bool) (f : Dv → Dv) (I : ay → Mh → Prop) : ∀ {ds : List Dv} {τ : ay} {M : Mh} {Q : List Dv → Mh → Prop}, I τ M →
    (∀ d ∈ ds, ∀ τ M, I τ M → ∀ (R0 : ay → Mh → Prop) (R : ay → ZK), (t d = true → ∀ aE M2, I aE M2 → R aE (f d) M2) → (t d = false → ∀ aE M2, I aE M2 → R0 aE M2) → g d τ M fun aE M2 => tt aE M2 fun b M3 => if b = true then te aE M3 (R aE) else R0 aE M3) →
    (∀ τ M, I τ M → Q ((ds.filter t).map f) M) → gv g tt te ds τ M Q
  | [], τ, M, Q, i, _, q => q τ M i
  | d :: ds, τ, M, Q, i, h, q => by
    refine h d List.mem_cons_self τ M i (fun aE M3 => gv g tt te ds aE M3 Q) (fun aE y M4 => gv g tt te ds aE M4 fun ys M5 => Q (y :: ys) M5) (fun e aE M2 i2 => ?_) fun e aE M2 i2 => ?_
    · refine pf t f I i2 (fun d' hd => h d' (List.mem_cons_of_mem _ hd)) fun mO M3 i3 => ?_
      have := q mO M3 i3
      rw [List.filter_cons, if_pos e] at this
      exact this
    · refine pf t f I i2 (fun d' hd => h d' (List.mem_cons_of_mem _ hd)) fun mO M3 i3 => ?_
      have := q mO M3 i3
      rw [List.filter_cons, if_neg (by rw [e]; decide)] at this
      exact this
noncomputable abbrev eI (ns : List Int) : Dv := .tup (ns.map .int)
noncomputable abbrev eN (aq : List (List Int)) : Dv := .tup (aq.map eI)
noncomputable abbrev jw (ns : List Int) : Dv := .lst (ns.map .int)
theorem sY : ∀ ns : List Int, iB (ns.map Dv.int) = some (ns.map Dt.int)
  | [] => rfl
  | n :: ns => by simp only [List.map_cons, iB, bQ, sY ns]
theorem oE : ∀ xs ys : List Int, fq (xs.map Dt.int) (ys.map Dt.int) = decide (xs = ys)
  | [], [] => by simp [fq]
  | [], _ :: _ => by simp [fq]
  | _ :: _, [] => by simp [fq]
  | x :: xs, y :: ys => by
    rw [List.map_cons, List.map_cons, fq, oE xs ys, cf]
    by_cases h1 : x = y <;> by_cases h2 : xs = ys <;> simp [h1, h2]
theorem sZ {n : Nat} : ∀ {ds : List Dt}, (∀ d ∈ ds, fU d ≤ n) → ft ds ≤ n
  | [], _ => by rw [ft]; exact Nat.zero_le _
  | d :: ds, h => by
    rw [ft]
    exact Nat.max_le.mpr ⟨h d List.mem_cons_self, sZ fun d' hd => h d' (List.mem_cons_of_mem _ hd)⟩
theorem Eu (ns : List Int) : ft (ns.map Dt.int) ≤ 0 := sZ fun d hd => by
  obtain ⟨i, _, rfl⟩ := List.mem_map.mp hd
  exact Nat.le_refl _
theorem gH {M : Mh} (ns : List Int) : ∀ d ∈ ns.map Dv.int, Pin M d := fun d hd => by
  obtain ⟨i, _, rfl⟩ := List.mem_map.mp hd
  exact .int i
theorem HS {M : Mh} (ns : List Int) : Pin M (eI ns) := .tup (gH ns)
theorem HU {M : Mh} (aq : List (List Int)) : Pin M (eN aq) := .tup fun d hd => by
  obtain ⟨r, _, rfl⟩ := List.mem_map.mp hd
  exact HS r
theorem Ew {α β : Type} {f : α → β} {xs : List α} {i : Int} {x : α} (h : cW xs i = some x) : cW (xs.map f) i = some (f x) := by
  unfold cW at h ⊢
  rw [List.length_map]
  cases e : gW xs.length i with
  | none => rw [e] at h; cases h
  | some j => rw [e] at h; simp only [Option.bind_some] at h ⊢; rw [List.getElem?_map, h]; rfl
theorem y9 {α : Type} {xs : List α} {k : Nat} (h : k < xs.length) : cW xs ((k : Nat) : Int) = some xs[k] := cQ (List.getElem?_eq_getElem h)
noncomputable def spLaw (K : PySem.W.Frag) (tb : cg) : Sp := fun vs H Q _ => ∃ (a : Addr) (ns : List Int), vs = [.ref a] ∧ bI K H a (ns.map V.int) ∧ ns.length ≤ 63 ∧ CQ tb.g H ∧ (∀ p ∈ tb.l, Lm H p) ∧ ∀ H', (∀ p ∈ tb.l, ∃ ps, H' p.1 = some (.lam ps)) → Q (.bl true) H'
noncomputable def HV : cj := fun ds M Q _ => ∃ ns : List Int, ds = [.bz ns] ∧ ns.length ≤ 63 ∧ (∀ a, M a = none) ∧ ∀ M', Q (.bl true) M'
theorem HW {P : Program} {w : World} {K : PySem.W.Frag} {mg : Str → Option Value} {base : Heap} {k : Nat} {f : Addr} {fd : FuncData} {x : Str} {tb : cg} (G : FnOk P w K mg base bt k f fd [x] (aY P w K tb HV)) : FnOk P w K mg base bt k f fd [x] (spLaw K tb) :=
  G.imp fun vs H Q E ⟨a, ns, e, hS, hl, hT, hL, q⟩ => by
    subst e
    have m : Mz ⟨P, w, K, tb, []⟩ (fun _ => none) H := ⟨(fun a o e => nomatch e), hT, (fun a ha => absurd ha (by simp)), (fun a o e => nomatch e), hL⟩
    refine ⟨⟨P, w, K, tb, []⟩, [.bz ns], fun _ => none, fun d _ => d = .bl true, fun _ _ => False, rfl, rfl, rfl, rfl, m, .cons ?_ .nil, ⟨ns, rfl, hl, fun _ => rfl, fun _ => rfl⟩, fun d M' v H' x r h => ?_, fun _ _ _ _ h => h.elim⟩
    · have fz : Fz ⟨P, w, K, tb, []⟩ (fun _ => none) a := ⟨rfl, by simp⟩
      rcases hS with (h | ⟨o, h⟩) | h
      · exact .cF fz h
      · exact .bz fz h
      · exact .cG h
    · subst h
      rw [cH r]
      exact q H' fun p hp => let ⟨ps, e, _⟩ := x.mz.lams p hp; ⟨ps, e⟩
noncomputable def Keeps (M0 M : Mh) : Prop := ∀ a o, M0 a = some o → M a = some o
theorem Keeps.refl {M0 : Mh} : Keeps M0 M0 := fun _ _ h => h
theorem Keeps.upd {M0 M : Mh} {a : Addr} {o : Mo} (ha : M0 a = none) (h : Keeps M0 M) : Keeps M0 (aF M a o) := fun b u e => by
  rw [ax (fun z => by rw [z, ha] at e; cases e)]
  exact h b u e
theorem qF {M0 M : Mh} {Q : ZK} {d : Dv} (h : Keeps M0 M) (p : Pin M0 d) (q : Q d M0) : jH M0 Q d M := .inr ⟨h, d, .pin p, q⟩
theorem g7 {lo : Int} {n i : Nat} {d : Dv} (h : (dR lo n)[i]? = some d) : d = .int (lo + (i : Nat)) ∧ i < n := by
  unfold dR at h
  rw [List.getElem?_map] at h
  cases e : (List.range n)[i]? with
  | none => rw [e] at h; cases h
  | some k =>
    rw [e] at h
    obtain ⟨h1, h2⟩ := List.getElem?_eq_some_iff.mp e
    rw [List.getElem_range] at h2
    subst h2
    exact ⟨(Option.some.inj h).symm, by simpa using h1⟩
theorem oF {lo : Int} {n : Nat} {d : Dv} (h : d ∈ dR lo n) : ∃ i : Nat, i < n ∧ d = .int (lo + (i : Nat)) := by
  obtain ⟨i, hi⟩ := List.mem_iff_getElem?.mp h
  obtain ⟨e, l⟩ := g7 hi
  exact ⟨i, l, e⟩
theorem rangeD_len (lo : Int) (n : Nat) : (dR lo n).length = n := by simp [dR]
theorem zb {xs ys : List Dv} {k : Nat} {d : Dv} (h : (fy xs ys)[k]? = some d) : ∃ x y, d = .tup [x, y] ∧ xs[k]? = some x ∧ ys[k]? = some y := by
  unfold fy at h
  rw [List.getElem?_map, Option.map_eq_some_iff] at h
  obtain ⟨p, h, rfl⟩ := h
  rw [List.getElem?_zip_eq_some] at h
  exact ⟨p.1, p.2, rfl, h.1, h.2⟩
theorem Ez {n k : Nat} {d : Dv} (h : (jb n)[k]? = some d) : d = .int (k : Nat) ∧ k < n := by
  unfold jb at h
  rw [List.getElem?_map] at h
  cases e : (List.range n)[k]? with
  | none => rw [e] at h; cases h
  | some j =>
    rw [e] at h
    obtain ⟨h1, h2⟩ := List.getElem?_eq_some_iff.mp e
    rw [List.getElem_range] at h2
    subst h2
    exact ⟨(Option.some.inj h).symm, by simpa using h1⟩
theorem EA {ds : List Dv} {k : Nat} {d : Dv} (h : (fy (jb ds.length) ds)[k]? = some d) : ∃ x, d = .tup [.int (k : Nat), x] ∧ ds[k]? = some x := by
  obtain ⟨x, y, rfl, h1, h2⟩ := zb h
  obtain ⟨rfl, _⟩ := Ez h1
  exact ⟨y, rfl, h2⟩
theorem atI_zero {α : Type} {x : α} {xs : List α} : cW (x :: xs) 0 = some x := cQ (j := 0) rfl
theorem zf {α : Type} {f : α → Dv} {xs : List α} {k : Nat} {d : Dv} (h : (xs.map f)[k]? = some d) : ∃ x, xs[k]? = some x ∧ d = f x := by
  rw [List.getElem?_map, Option.map_eq_some_iff] at h
  obtain ⟨x, h, e⟩ := h
  exact ⟨x, h, e.symm⟩
theorem vp (xs : List Dv) (lo hi : Option Int) : cutD xs lo hi = (xs.drop (HT.aT xs.length 0 lo)).take (HT.aT xs.length xs.length hi - HT.aT xs.length 0 lo) := rfl
theorem vq {n d k : Nat} : HT.aT n d (some (k : Nat)) = min k n := by
  unfold HT.aT
  simp only []
  split <;> omega
theorem EB {xs : List Dv} {k : Nat} : cutD xs none (some (k : Nat)) = xs.take k := by
  rw [vp, vq]
  show (xs.drop 0).take (min k xs.length - 0) = xs.take k
  rw [List.drop_zero, Nat.sub_zero]
  by_cases h : k ≤ xs.length
  · rw [Nat.min_eq_left h]
  · rw [Nat.min_eq_right (by omega), List.take_of_length_le (Nat.le_refl _), List.take_of_length_le (by omega)]
theorem zg {xs : List Dv} {k : Nat} : cutD xs (some (k : Nat)) none = xs.drop k := by
  rw [vp, vq]
  show (xs.drop (min k xs.length)).take (xs.length - min k xs.length) = xs.drop k
  by_cases h : k ≤ xs.length
  · rw [Nat.min_eq_left h, List.take_of_length_le (by rw [List.length_drop]; omega)]
  · rw [Nat.min_eq_right (by omega), List.drop_of_length_le (Nat.le_refl _), List.drop_of_length_le (by omega)]
    exact List.take_nil
end L2
namespace L2
open PySem PySem.Spec PyProof.Rows
theorem zh {M : Model} {A : Around} {E : Value → Shared → Prop} {s : Shared} {scope : Scope} {globals : Addr} {cl : List (Str × Addr)} {qual : Str} {env : Env} {Q : Env → Shared → Prop}
    (h : Q (newEnv scope s.heap.objs.size globals (cellsFrom (s.heap.objs.size + 1) scope.names cl) qual none .none (some env) builtinsNs) { s with heap := pushCells (s.heap.push { cls := .type "dict", data := .dict #[] }) scope.names }) :
    wpAny M A (newFunctionEnv scope globals cl [] qual none .none (some env)) Q E s := by
  simp only [newFunctionEnv, Option.isSome_some, if_true]
  refine wpAny_bind (wpAny_alloc ?_)
  refine wpAny_bind (wpAny_layCells _ (fun name kind cells => by cases Pn : kind == NameKind.cell <;> simp [Pn]) _ _ _ _ ?_)
  rw [show ({ s with heap := s.heap.push { cls := .type "dict", data := .dict #[] } } : Shared).heap.objs.size = s.heap.objs.size + 1 from Heap.size_push ..]
  exact wpAny_pure h
theorem jc : ∀ (names : List (Str × NameKind)) (h : Heap) (cl : List (Str × Addr)) (x : Str) (c : Addr), (cellsFrom h.objs.size names cl).lookup x = some c →
    ((x, NameKind.cell) ∈ names ∧ h.objs.size ≤ c ∧ (pushCells h names).IsCell c none) ∨ ((∀ k, (x, k) ∈ names → k ≠ .cell) ∧ cl.lookup x = some c)
  | [], h, cl, x, c, e => .inr ⟨fun k z => by simp at z, e⟩
  | (n, k) :: r, h, cl, x, c, e => by
    unfold cellsFrom at e
    unfold pushCells
    split at e
    · rename_i hk
      have qj : k = .cell := by simpa using hk
      subst qj
      rw [if_pos hk]
      have sz : (h.push { cls := .type "cell", data := .cell none }).objs.size = h.objs.size + 1 := Heap.size_push ..
      rw [← sz] at e
      rcases jc r _ _ x c e with ⟨a, b, d⟩ | ⟨a, b⟩
      · exact .inl ⟨List.mem_cons_of_mem _ a, by omega, d⟩
      · rw [List.lookup_cons] at b
        cases hx : x == n with
        | true =>
          rw [hx] at b
          cases b
          have e2 : x = n := by simpa using hx
          subst e2
          exact .inl ⟨List.mem_cons_self, Nat.le_refl _, ⟨_, pushCells_keeps r _ _ _ (Heap.get?_push_size _ rfl), rfl⟩⟩
        | false =>
          rw [hx] at b
          refine .inr ⟨fun k2 z => ?_, b⟩
          rcases List.mem_cons.mp z with q | q
          · cases q; simp at hx
          · exact a k2 q
    · rename_i hk
      rw [if_neg hk]
      rcases jc r h cl x c e with ⟨a, b, d⟩ | ⟨a, b⟩
      · exact .inl ⟨List.mem_cons_of_mem _ a, b, d⟩
      · refine .inr ⟨fun k2 z => ?_, b⟩
        rcases List.mem_cons.mp z with q | q
        · cases q; intro z; subst z; exact hk rfl
        · exact a k2 q
theorem cells_apart : ∀ (names : List (Str × NameKind)) (h : Heap) (cl : List (Str × Addr)) (x y : Str) (c : Addr), (∀ n c, cl.lookup n = some c → c < h.objs.size) → (∀ x y c, cl.lookup x = some c → cl.lookup y = some c → x = y) → (cellsFrom h.objs.size names cl).lookup x = some c → (cellsFrom h.objs.size names cl).lookup y = some c → x = y
  | [], h, cl, x, y, c, _, inj, e, e' => inj x y c e e'
  | (n, k) :: r, h, cl, x, y, c, lt, inj, e, e' => by
    unfold cellsFrom at e e'
    split at e
    · rename_i hk
      rw [if_pos hk] at e'
      have sz : (h.push { cls := .type "cell", data := .cell none }).objs.size = h.objs.size + 1 := Heap.size_push ..
      rw [← sz] at e e'
      refine cells_apart r _ _ x y c (fun m d z => ?_) (fun x y d a b => ?_) e e'
      · rw [sz]
        rw [List.lookup_cons] at z
        cases hm : m == n with
        | true => rw [hm] at z; cases z; exact Nat.lt_succ_self _
        | false => rw [hm] at z; exact Nat.lt_succ_of_lt (lt m d z)
      · rw [List.lookup_cons] at a b
        have old : ∀ z, cl.lookup z = some h.objs.size → False := fun z q => absurd (lt _ _ q) (Nat.lt_irrefl _)
        cases hx : x == n with
        | true =>
          rw [hx] at a
          cases a
          cases hy : y == n with
          | true => rw [show x = n by simpa using hx, show y = n by simpa using hy]
          | false => rw [hy] at b; exact (old y b).elim
        | false =>
          rw [hx] at a
          cases hy : y == n with
          | true => rw [hy] at b; cases b; exact (old x a).elim
          | false => rw [hy] at b; exact inj x y d a b
    · rename_i hk
      rw [if_neg hk] at e'
      exact cells_apart r h cl x y c lt inj e e'
theorem jx : ∀ (names : List (Str × NameKind)) (n : Nat) (cl : List (Str × Addr)) (x : Str), ((x, NameKind.cell) ∈ names ∨ ∃ c, cl.lookup x = some c) → ∃ c, (cellsFrom n names cl).lookup x = some c
  | [], n, cl, x, h => by
    rcases h with h | h
    · simp at h
    · exact h
  | (y, k) :: r, n, cl, x, h => by
    unfold cellsFrom
    split
    · rename_i hk
      refine jx r _ _ x ?_
      by_cases e : x = y
      · subst e
        exact .inr ⟨n, by rw [List.lookup_cons]; simp⟩
      · rcases h with h | ⟨c, h⟩
        · rcases List.mem_cons.mp h with q | q
          · cases q; exact absurd rfl e
          · exact .inl q
        · exact .inr ⟨c, by rw [List.lookup_cons, show (x == y) = false by simpa using e]; exact h⟩
    · rename_i hk
      refine jx r _ _ x ?_
      rcases h with h | h
      · rcases List.mem_cons.mp h with q | q
        · cases q; exact absurd rfl hk
        · exact .inl q
      · exact .inr h
theorem wC {X : Cx} {pins : List (Addr × Obj)} {σ : St} {H : Hp} {s : Shared} (I : Inv X pins σ H s) {x : Str} {c : Addr} (h : X.env.cells.lookup x = some c) : c < s.heap.objs.size := by
  obtain ⟨v, o, ho, _⟩ := I.cell x c h
  exact Heap.lt_size ho
noncomputable abbrev mQ (X : Cx) (N' : List Str) (scope : Scope) (cl : List (Str × Addr)) (C : Addr) (s : Shared) (H : Hp) (fp : List Addr) (own : Str → Bool) : Cx := { mH X N' scope cl C s H fp with fn := own }
noncomputable def dD (N : List Str) (sc scope : Scope) (N' : List Str) (tn : Nat) (idx : List Nat) : Prop :=
  scope.kind = .function ∧ (∀ y ∈ scope.names, (y.2 = .cell → scope.names.lookup y.1 = some .cell) ∧ (y.2 = .local → scope.names.lookup y.1 = some .local) ∧ (y.2 = .free → sc.names.lookup y.1 = some .cell ∨ sc.names.lookup y.1 = some .free)) ∧
    N'.length = tn + idx.length ∧ ∀ p ∈ idx.zip (N'.drop tn), N[p.1]? = some p.2 ∧ scope.names.lookup p.2 = some .free
instance (N : List Str) (sc scope : Scope) (N' : List Str) (tn : Nat) (idx : List Nat) : Decidable (dD N sc scope N' tn idx) := by unfold dD; infer_instance
theorem dD.at {N : List Str} {sc scope : Scope} {N' : List Str} {tn : Nat} {idx : List Nat} (B : dD N sc scope N' tn idx) {σ : St} {i : Nat} {x : Str} {v : V} (h1 : N'[i]? = some x) (h2 : (bE tn idx σ)[i]? = some (some v)) :
    scope.names.lookup x = some .free ∧ ∃ j : Nat, N[j]? = some x ∧ σ[j]? = some (some v) := by
  obtain ⟨_, _, b3, b4⟩ := B
  unfold bE at h2
  by_cases hi : i < tn
  · rw [List.getElem?_append_left (by simpa using hi), List.getElem?_replicate, if_pos hi] at h2
    cases h2
  · rw [List.getElem?_append_right (by simpa using hi), List.length_replicate, List.getElem?_map] at h2
    cases e : idx[i - tn]? with
    | none => rw [e] at h2; cases h2
    | some k =>
      rw [e] at h2
      have h3 : (σ[k]?).join = some v := Option.some.inj h2
      have e2 : (N'.drop tn)[i - tn]? = some x := by
        rw [List.getElem?_drop]
        have : tn + (i - tn) = i := by omega
        rw [this]; exact h1
      have m : (k, x) ∈ idx.zip (N'.drop tn) := by
        refine List.mem_of_getElem? (i := i - tn) ?_
        rw [List.getElem?_zip_eq_some]
        exact ⟨e, e2⟩
      obtain ⟨a, b⟩ := b4 _ m
      refine ⟨b, k, a, ?_⟩
      cases q : σ[k]? with
      | none => rw [q] at h3; cases h3
      | some w => rw [q] at h3; exact congrArg some h3
theorem dD.len {N : List Str} {sc scope : Scope} {N' : List Str} {tn : Nat} {idx : List Nat} (B : dD N sc scope N' tn idx) (σ : St) : (bE tn idx σ).length = N'.length := by
  rw [B.2.2.1]
  unfold bE
  simp
noncomputable def dE (scope : Scope) (x : Str) : Bool := scope.names.lookup x == some .cell
noncomputable abbrev kf (X : Cx) (N' : List Str) (scope : Scope) (P : Cx → Prop) : Prop := ∀ (cl : List (Str × Addr)) (C : Addr) (s : Shared) (H : Hp) (fp : List Addr), P (mQ X N' scope cl C s H fp (dE scope))
theorem wD {X : Cx} {pins : List (Addr × Obj)} {σ aA : St} {H H' : Hp} {s : Shared} {N' : List Str} {scope : Scope} {cs : List (Str × Addr)} {C : Addr} {ex : List Addr} {h1 : Heap} {m0 : Str → Option Value} {g' : Array GenState} {tk : Nat}
    (I : Inv X pins σ H s) (jm : scope.kind = .function)
    (c9 : ∀ n c, cs.lookup n = some c → (dE scope n = true ∧ C < c ∧ h1.IsCell c none ∧ H' c = none) ∨ (dE scope n = false ∧ X.env.cells.lookup n = some c))
    (Nz : ∀ x y c, cs.lookup x = some c → cs.lookup y = some c → x = y)
    (dO : ∀ x, ((relabel scope X.env).names.lookup x = some .cell ∨ (relabel scope X.env).names.lookup x = some .free) → ∃ c, cs.lookup x = some c)
    (hC : s.heap.objs.size ≤ C) (hf : ∀ b ∈ ex, dN X pins H b) (vR : ∀ b ∈ ex, b < s.heap.objs.size)
    (yh : Un (dJ X.stack) ex H H' s.heap h1) (hok : di X.prog X.w H' h1) (rW : H' C = none) (nU : ∀ b o, s.heap.get? b = some o → h1.get? b = some o) (fR : h1.Ns C m0)
    (rX : ∀ (i : Nat) (x : Str) (v : V), N'[i]? = some x → aA[i]? = some (some v) → dE scope x = false ∧ ((relabel scope X.env).names.lookup x = some .cell ∨ (relabel scope X.env).names.lookup x = some .free) ∧ nE X.env.scope x ∧ (X.env.kindOf x = some .cell ∨ X.env.kindOf x = some .free) ∧ ∃ j : Nat, X.N[j]? = some x ∧ σ[j]? = some (some v))
    (hlen : aA.length = N'.length) (hg : Gn s.gens.size g') : Inv (mQ X N' scope cs C s H ex (dE scope)) [] aA H' { s with heap := h1, gens := g', toks := tk } := by
  have yi : ∀ b ∈ ex, ∀ x c, X.env.cells.lookup x = some c → c ≠ b := fun b hb => (hf b hb).2.2.2.2.1
  have Pq : ∀ b ∈ ex, ∀ x c, cs.lookup x = some c → c ≠ b := fun b hb x c e z => by
    rcases c9 x c e with ⟨_, q, _⟩ | ⟨_, q⟩
    · subst z; exact absurd (Nat.lt_trans (Nat.lt_of_le_of_lt hC q) (vR _ hb)) (Nat.lt_irrefl _)
    · exact yi b hb x c q z
  refine ⟨⟨I.ok.mod, jm, I.ok.glob, I.ok.blt, hC, Nz, dO, fun x c hx e => ?_, fun z => I.ok.hd z, I.ok.frames, .inl rfl, fun b hb => ⟨Nat.ne_of_lt (Nat.lt_of_lt_of_le (vR b hb) hC), fun x c e => Pq b hb x c e⟩,
      I.bs, Nat.le_trans I.ok.bsz I.sz, fun b o e hb => ?_, fun b hb z => ?_, I.stack, I.jL⟩, rfl, hg, yh, ⟨m0, fR, fun i x v e1 e2 e3 => ?_⟩, fun x c e => ?_, rW, fun x c e => ?_, fun p hp => absurd (show p ∈ ([] : List (Addr × Obj)) from hp) (by simp), hok, hlen⟩
  · rcases c9 x c e with ⟨_, q, _⟩ | ⟨q, _⟩
    · exact Nat.le_of_lt (Nat.lt_of_le_of_lt hC q)
    · have k8 : dE scope x = true := hx
      rw [q] at k8; cases k8
  · rcases (hf b hb).2.2.2.1 with z | z
    · exact I.ok.noex b o e z
    · exact absurd (Nat.lt_of_lt_of_le (Heap.lt_size e) (Nat.le_trans I.ok.bsz z)) (Nat.lt_irrefl _)
  · rcases List.mem_cons.mp (I.fu b z) with q | q
    · exact (hf b hb).2.1 q
    · exact (hf b hb).2.2.1 q
  · obtain ⟨k0, k1, vx, k2, j, n1, n2⟩ := rX i x v e1 e2
    obtain ⟨m, hn, hl⟩ := I.loc
    obtain ⟨u, r, l⟩ := hl j x v n1 n2 vx
    refine ⟨u, r, .inr ⟨k1, ?_⟩⟩
    obtain ⟨c', yj⟩ := dO x k1
    rcases l with ⟨kl, _⟩ | ⟨_, c, ec, z⟩
    · rcases k2 with q | q <;> (rw [kl] at q; cases q)
    · rcases c9 x c' yj with ⟨q, _⟩ | ⟨_, q⟩
      · rw [k0] at q; cases q
      · have : c' = c := Option.some.inj (q.symm.trans ec)
        subst this
        exact ⟨c', yj, z.keeps nU⟩
  · rcases c9 x c e with ⟨_, _, q, _⟩ | ⟨_, q⟩
    · exact ⟨_, q⟩
    · obtain ⟨v, z⟩ := I.cell x c q
      exact ⟨v, z.keeps nU⟩
  · rcases c9 x c e with ⟨_, _, _, q⟩ | ⟨_, q⟩
    · exact q
    · obtain ⟨v, o, ho, hd⟩ := I.cell x c q
      exact yh.free c o ho (I.freeC x c q) fun z => yi c z x c q rfl
section
variable {X : Cx}
theorem wF {pins : List (Addr × Obj)} {σ : St} {H2 : Hp} {s2 : Shared} {tg elt iter : Expr} {ifs : List Expr} {scope : Scope} {pos : Pos} {N' : List Str} {tn : Nat} {idx : List Nat} {g : TG} {tt : TT} {te : TE} {it : Addr} {fp : List Addr} {dm : Nat → Heap → Prop} {J : It}
    {cl : List (Str × Addr)} {E : Value → Shared → Prop} {RR : Value → Addr → Result → Shared → Prop} {Q : VK}
    (hc : X.calm = true) (B : dD X.N X.env.scope scope N' tn idx)
    (hg : kf X N' scope fun Y => PG Y tg g) (ht : kf X N' scope fun Y => jO Y ifs tt) (he : kf X N' scope fun Y => PE Y elt te)
    (I : Inv X pins σ H2 s2) (T : Turn X.prog X.w X.K tg J fp it dm) (st : dm 0 s2.heap) (f2 : ∀ b ∈ fp, dN X pins H2 b)
    (dP : ∀ n c, cl.lookup n = some c → X.env.cells.lookup n = some c) (gm : ∀ n, (n, NameKind.free) ∈ scope.names → ∃ c, cl.lookup n = some c)
    (hq : ∀ D, H2 D = none → ∃ W : Nat → Nat → St → Hp → Prop, (∃ m, W 0 m (bE tn idx σ) (upd H2 D (.lst []))) ∧ vT J g tt te D Q W)
    (GI : ∀ D C m s' H', Inv X pins σ H' s' → dN X pins H' C → s'.heap.Ns C m → Q (.ref D) H' → RR (.ref D) C (.ok .next) s') :
    wpAny (model X.prog X.w) X.A (newList []) (fun acc gE => wpAny (model X.prog X.w) X.A (newFunctionEnv scope X.env.globals cl [] X.env.qual none .none (some X.env)) (fun rY AO =>
      codeAny (model X.prog X.w) X.A (.compStart (.ListComp elt [⟨tg, iter, ifs, 0⟩] scope pos) 0 (.ref it) acc { rY with scope := relabel scope X.env }) (RR acc rY.locals) AO) E gE) E s2 := by
  obtain ⟨b1, b2, b3, b4⟩ := id B
  refine wpAny_newObj_type (zh ?_)
  dsimp only
  generalize hG : s2.heap.push { cls := .type "list", dict := none, data := .seq ([] : List Value).toArray } = G
  have hC : G.objs.size = s2.heap.objs.size + 1 := by rw [← hG, Heap.size_push]
  generalize HX : pushCells (G.push { cls := .type "dict", data := .dict #[] }) scope.names = gp
  have k7 : gp.Ns G.objs.size fun _ => none := by rw [← HX]; exact (Heap.Ns.new G (.type "dict")).keeps (pushCells_keeps _ _)
  have LW : ∀ b o, G.get? b = some o → gp.get? b = some o := fun b o e => by rw [← HX]; exact pushCells_keeps _ _ b o (Heap.get?_push_of_some _ e)
  have CM : s2.heap.objs.size ≠ G.objs.size := by rw [hC]; exact Nat.ne_of_lt (Nat.lt_succ_self _)
  have j5 : s2.heap.objs.size ≤ G.objs.size := by rw [hC]; exact Nat.le_succ _
  have below : ∀ b, b < s2.heap.objs.size → b ≠ G.objs.size := fun b hb => by rw [hC]; exact Nat.ne_of_lt (Nat.lt_succ_of_lt hb)
  have old : ∀ b o, s2.heap.get? b = some o → gp.get? b = some o := fun b o e => LW b o (hG ▸ Heap.get?_push_of_some _ e)
  have GJ : gp.get? s2.heap.objs.size = some { cls := .type "list", data := .seq ([] : List Value).toArray } := LW _ _ (hG ▸ Heap.get?_push_size _ rfl)
  generalize kD : cellsFrom (G.objs.size + 1) scope.names cl = cs
  have C8 : (G.push { cls := .type "dict", data := .dict #[] }).objs.size = G.objs.size + 1 := Heap.size_push ..
  have HY : ∀ x, (x, NameKind.cell) ∈ scope.names → dE scope x = true := fun x hx => by
    unfold dE
    rw [(b2 _ hx).1 rfl]
    rfl
  have EC : ∀ x, (∀ k, (x, k) ∈ scope.names → k ≠ NameKind.cell) → dE scope x = false := fun x hx => by
    unfold dE
    cases q : scope.names.lookup x with
    | none => rfl
    | some k => have := hx k (PySem.mem_of_lookup q); simpa using this
  have look : ∀ x c, cs.lookup x = some c → (dE scope x = true ∧ G.objs.size < c ∧ gp.IsCell c none) ∨ (dE scope x = false ∧ cl.lookup x = some c) := fun x c e => by
    rw [← kD, ← C8] at e
    rcases jc scope.names _ cl x c e with ⟨a, b, d⟩ | ⟨a, b⟩
    · rw [HX] at d
      rw [C8] at b
      exact .inl ⟨HY x a, b, d⟩
    · exact .inr ⟨EC x a, b⟩
  have inj : ∀ x y c, cs.lookup x = some c → cs.lookup y = some c → x = y := fun x y c e e' => by
    rw [← kD, ← C8] at e e'
    refine cells_apart scope.names _ cl x y c (fun n d z => ?_) (fun x y d a b => I.ok.inj x y d (dP x d a) (dP y d b)) e e'
    rw [C8, hC]
    exact Nat.lt_succ_of_lt (Nat.lt_succ_of_lt (wC I (dP n d z)))
  have yk : H2 s2.heap.objs.size = none := I.hok.fresh (Nat.le_refl _)
  have rW : upd H2 s2.heap.objs.size (.lst []) G.objs.size = none := by rw [ak (Ne.symm CM)]; exact I.hok.fresh j5
  have AQ : di X.prog X.w (upd H2 s2.heap.objs.size (.lst [])) gp := I.hok.laid old (Nat.le_refl _) ⟨Nat.zero_le _, [], 0, .nil, GJ⟩
  have kG : ∀ b ∈ fp, b < s2.heap.objs.size := fun b hb => let ⟨o, e, _⟩ := T.obj _ _ st b hb; Heap.lt_size e
  obtain ⟨W, ⟨m0, w0⟩, turn⟩ := hq s2.heap.objs.size yk
  have I1 : Inv (mQ X N' scope cs G.objs.size s2 H2 fp (dE scope)) [] (bE tn idx σ) (upd H2 s2.heap.objs.size (.lst [])) { s2 with heap := gp, toks := s2.toks } := by
    refine wD (g' := s2.gens) (m0 := fun _ => none) I b1 (fun n c e => ?_) inj (fun x hx => ?_) j5 f2 kG (Un.laid old (Nat.le_refl _) yk) AQ rW old k7 (fun i x v e1 e2 => ?_) (B.len σ) I.bare.self
    · rcases look n c e with ⟨o, a, b⟩ | ⟨o, a⟩
      · refine .inl ⟨o, a, b, ?_⟩
        have : c ≠ s2.heap.objs.size := fun z => by rw [z, hC] at a; exact absurd (Nat.lt_trans a (Nat.lt_succ_self _)) (fun h => by omega)
        rw [ak this]
        exact I.hok.fresh (Nat.le_of_lt (Nat.lt_of_le_of_lt j5 a))
      · exact .inr ⟨o, dP n c a⟩
    · rw [eS] at hx
      rw [← kD]
      cases q : scope.names.lookup x with
      | none => rw [q] at hx; rcases hx with z | z <;> cases z
      | some k0 =>
        have hm := PySem.mem_of_lookup q
        rw [q] at hx
        by_cases hk : k0 = .free
        · subst hk; exact jx _ _ _ _ (.inr (gm x hm))
        · have nk : (k0 == NameKind.free) = false := by simpa using hk
          simp only [Option.map_some, nk, Bool.false_and, Bool.false_eq_true, if_false] at hx
          rcases hx with z | z
          · have e0 : k0 = .cell := Option.some.inj z
            subst e0
            exact jx _ _ _ _ (.inl hm)
          · exact absurd (Option.some.inj z) hk
    · obtain ⟨fr, j, e4, e5⟩ := B.at e1 e2
      have kx := (b2 _ (PySem.mem_of_lookup fr)).2.2 rfl
      refine ⟨by unfold dE; rw [fr]; rfl, ?_, .inr kx, kx, j, e4, e5⟩
      rw [eS, fr]
      simp only [Option.map_some]
      split
      · exact .inl rfl
      · exact .inr rfl
  have stat : ∀ {H' : Hp}, (∀ b ∈ fp, H' b = none) → ∀ b ∈ fp, dN (mQ X N' scope cs G.objs.size s2 H2 fp (dE scope)) [] H' b := fun hn b hb => by
    refine ⟨hn b hb, below b (kG b hb), fun z => ?_, .inl hb, (fun x c e => by
      rcases look x c e with ⟨_, a, _⟩ | ⟨_, a⟩
      · exact fun z => absurd (Nat.lt_trans (Nat.lt_of_le_of_lt j5 (z ▸ a)) (kG b hb)) (Nat.lt_irrefl _)
      · exact (f2 b hb).2.2.2.2.1 x c (dP x c a)), fun p hp => absurd (show p ∈ ([] : List (Addr × Obj)) from hp) (by simp)⟩
    rcases List.mem_cons.mp (I.fu b z) with q | q
    · exact (f2 b hb).2.1 q
    · exact (f2 b hb).2.2.1 q
  have loop : ∀ gE : Shared, gE = { s2 with heap := gp, toks := s2.toks } →
      codeAny (model X.prog X.w) X.A (.compLoop (.ListComp elt [⟨tg, iter, ifs, 0⟩] scope pos) 0 (.ref it) (.ref s2.heap.objs.size) (compEnvC scope cs G.objs.size X.env))
        (RR (.ref s2.heap.objs.size) G.objs.size) gE := by
    rintro gE rfl
    refine codeAny_loop rfl (fun n s' => ∃ i τ H', Inv (mQ X N' scope cs G.objs.size s2 H2 fp (dE scope)) [] τ H' s' ∧ dm i s'.heap ∧ (∀ b ∈ fp, H' b = none) ∧ W i n τ H') (fun n s hI => ?_) m0
      ⟨0, _, _, I1, T.keep _ _ _ st fun b _ o e => old b o e, fun b hb => by rw [ak (Nat.ne_of_lt (kG b hb))]; exact (f2 b hb).1, w0⟩
    show wpAny _ X.A ((compTurn (.ListComp elt [⟨tg, iter, ifs, 0⟩] scope pos) 0 (.ref it) (.ref s2.heap.objs.size) (compEnvC scope cs G.objs.size X.env)).onRaise (fun x => do noteFrame x (compEnvC scope cs G.objs.size X.env); theTreesLotGoes x)) _ _ s
    refine wpAny_noted ?_
    rw [compTurn_list]
    obtain ⟨i, τ, H3, I3, kT, pS, w3⟩ := hI
    rcases turn i n τ H3 w3 with ⟨stop, qn⟩ | ⟨go, step⟩
    · refine wpAny_bind (wpAny_standAt (wpAny_bind (wpAny_mono (T.done (mQ X N' scope cs G.objs.size s2 H2 fp (dE scope)) rfl rfl rfl hc i [] s τ H3 (fun _ _ => False) I3 (stat pS) kT stop) (fun r s4 ⟨hr, I4⟩ => ?_) fun _ _ z => z.elim)))
      subst hr
      refine wpAny_pure ?_
      have J2 : Inv X pins σ H3 s4 := I.mh I4.os I4.base I4.hok I4.bare fun b hb => ⟨(f2 b hb).2.2.2.1, (f2 b hb).2.1, (f2 b hb).2.2.2.2.1, (f2 b hb).2.2.2.2.2⟩
      obtain ⟨mm, hm, _⟩ := I4.loc
      exact GI _ _ mm s4 H3 J2 (I.kR j5 I4.free) hm qn
    · refine wpAny_bind (wpAny_standAt (wpAny_bind (wpAny_mono (T.item (mQ X N' scope cs G.objs.size s2 H2 fp (dE scope)) rfl rfl rfl hc i [] s τ H3 (fun _ _ => False) I3 (stat pS) kT go) (fun r s4 ⟨u, hr, h4⟩ => ?_) fun _ _ z => z.elim)))
      subst hr
      refine wpAny_bind (wpAny_mono h4 (fun _ s5 ⟨x, H5, I5, r5, y5, iN, rO⟩ => ?_) fun _ _ z => z.elim)
      have rP := I5.pinned (stat rO) (T.obj _ _ iN)
      have again : ∀ {kI : St} {H7 : Hp} {s7 : Shared}, Inv (mQ X N' scope cs G.objs.size s2 H2 fp (dE scope)) ([] ++ iM fp s5.heap) kI H7 s7 → (∃ m', m' < n ∧ W (i + 1) m' kI H7) →
          ∃ m, m < n ∧ ∃ i τ H', Inv (mQ X N' scope cs G.objs.size s2 H2 fp (dE scope)) [] τ H' s7 ∧ dm i s7.heap ∧ (∀ b ∈ fp, H' b = none) ∧ W i m τ H' := fun {kI H7 s7} I7 n7 => by
        obtain ⟨m', hm, w7⟩ := n7
        refine ⟨m', hm, i + 1, kI, H7, I7.eR, T.keep _ _ _ iN fun b hb o e => (I7.pin (b, o) (List.mem_append_right _ (List.mem_append_right _ (dj hb e)))).1, fun b hb => ?_, w7⟩
        obtain ⟨o, e, d⟩ := T.obj _ _ iN b hb
        exact (I7.pin (b, o) (List.mem_append_right _ (List.mem_append_right _ (dj hb e)))).2.1
      refine wpAny_bind (wpAny_mono (hg cs G.objs.size s2 H2 fp _ s5 τ H5 x u _ rP r5 (step x H5 y5)) (fun _ s6 ⟨jP, H6, I6, q6⟩ => ?_) fun _ _ z => z.elim)
      refine wpAny_bind (wpAny_mono (ht cs G.objs.size s2 H2 fp _ s6 jP H6 _ I6 q6) (fun ok s7 ⟨H7, I7, q7⟩ => ?_) fun _ _ z => z.elim)
      cases ok with
      | false => exact wpAny_pure ⟨rfl, again I7 q7⟩
      | true =>
        refine wpAny_bind (wpAny_bind (wpAny_mono (he cs G.objs.size s2 H2 fp _ s7 jP H7 _ I7 q7) (fun yv s8 ⟨y, H8, I8, r8, q8⟩ => ?_) fun _ _ z => z.elim))
        obtain ⟨ys, m', hD, hsz, nX, w8⟩ := q8
        refine wpAny_bind (wpAny_mono (k6 (X := mQ X N' scope cs G.objs.size s2 H2 fp (dE scope)) _ s8 jP H8 (.ref s2.heap.objs.size) [y] (.ref s2.heap.objs.size) [yv] (fun v H9 => v = .ao ∧ H9 = upd H8 s2.heap.objs.size (.lst (ys ++ [y]))) I8 rfl (.cons r8 .nil) ⟨_, ys, y, rfl, rfl, hD, hsz, rfl, rfl⟩) (fun rv s9 ⟨v9, H9, I9, _, _, e9⟩ => ?_) fun _ _ z => z.elim)
        subst e9
        exact wpAny_pure (wpAny_pure ⟨rfl, again I9 ⟨m', nX, w8⟩⟩)
  exact codeAny_compStart_list (loop _ rfl) (T.self _ 0 _ _ _ (T.keep _ _ _ st fun b _ o e => old b o e) (loop _ rfl))
variable {tg elt iter : Expr} {ifs : List Expr} {scope : Scope} {pos : Pos} {N' : List Str} {tn : Nat} {idx : List Nat} {wi : TI} {g : TG} {tt : TT} {te : TE}
variable {Γ : Gz}
theorem ug {i : Nat} {y : Str} {py iQ : Pos} (hN : X.N.Nodup) (ez : X.N[i]? = some y) (hy : X.env.scope.names.lookup y = some .local) (hc : X.calm = true) (B : dD X.N X.env.scope scope N' tn idx) (hi : PI X tg iter wi)
    (hg : kf X N' scope fun Y => PG Y tg g) (ht : kf X N' scope fun Y => jO Y ifs tt) (he : kf X N' scope fun Y => PE Y elt te)
    (rZ : swapsWith (.ListComp elt [⟨tg, iter, ifs, 0⟩] scope pos) (some (.Name y py)) iQ.line X.env = pure true := by rfl)
    (hs : ∀ x, foldedSetIterable iter X.env x = pure x := by intro _; rfl) : PS X (.Assign [.Name y py] (.ListComp elt [⟨tg, iter, ifs, 0⟩] scope pos) iQ) (oR (nV tn idx wi g tt te) (nK i)) := by
  refine ⟨?_⟩
  intro pins s σ H D I h
  obtain ⟨cl, gN, dP, gm⟩ := gj (scope := scope) (env := X.env) fun n hn => I.ok.has n ((B.2.1 _ hn).2.2 rfl)
  rw [exec_Assign_Name_used _ _ _ _ rZ]
  refine wpAny_bind (wpAny_standAt (wpAny_bind ?_))
  show wpAny _ X.A (do let _ ← comprehension (.ListComp elt [⟨tg, iter, ifs, 0⟩] scope pos) scope X.env _ (newList []) false (eval iter X.env) (some (assign (.Name y py) X.env))) _ _ s
  refine wpAny_bind (wpAny_mono (wpAny_comprehension_free (use := some (assign (.Name y py) X.env)) (Q := fun _ s' => SP X pins D .next s') rfl hs gN B.1 (fun y hy => (B.2.1 y hy).2.1)
    (wpAny_mono (hi pins s σ H _ I h) (fun xv s1 h1 => wpAny_mono h1 (fun uP s2 h2 => ?_) fun _ _ z => z) fun _ _ z => z)) (fun _ s' hq => wpAny_pure (wpAny_pure hq)) fun _ _ z => z)
  obtain ⟨it, fp, dm, J, H2, e, I2, T, nM, f2, q2⟩ := h2
  subst e
  refine wF (RR := fun acc C => compPost (model X.prog X.w) X.A X.xe (some (assign (.Name y py) X.env)) (fun _ s' => SP X pins D .next s') acc C) hc B hg ht he I2 T nM f2 dP gm q2 fun E C m s' H' J2 fC hm q => ?_
  show wpAny _ X.A (assign (.Name y py) X.env (.ref E)) _ _ s'
  refine wpAny_assign_Name (store_ok2 J2 hN ez (.inl hy) (v := .ref E) rfl (fun s3 J3 ⟨a, iR, ha⟩ => ?_) (.inr hy))
  have dY : C ≠ a := by
    rcases ha with z | z
    · rw [z]; exact fC.2.1
    · exact fun w => fC.2.2.2.2.1 _ _ z w.symm
  exact ⟨m, hm.sameBut iR dY, fun h' qf => ⟨_, H', fC.turn J3 qf, q⟩⟩
end
theorem Bs {scope : Scope} {env : Env} {x : Str} (h : scope.names.lookup x = some .cell ∨ scope.names.lookup x = some .free) : (relabel scope env).names.lookup x = some .cell ∨ (relabel scope env).names.lookup x = some .free := by
  rw [eS]
  rcases h with h | h
  · rw [h]; exact .inl rfl
  · rw [h]
    simp only [Option.map_some]
    split
    · exact .inl rfl
    · exact .inr rfl
theorem aK.rel {N : List Str} {sc scope : Scope} {env : Env} {N' : List Str} {tn : Nat} {idx : List Nat} (B : aK N sc scope N' tn idx) : aK N (relabel sc env) scope N' tn idx :=
  ⟨B.1, fun y hy => ⟨(B.2.1 y hy).1, (B.2.1 y hy).2.1, fun z => Bs ((B.2.1 y hy).2.2 z)⟩, B.2.2.1, B.2.2.2⟩
end L2
namespace L2
open PySem PySem.Spec PySem.W PyProof.Rows
section
variable {X : Cx} {Γ : Gz} {β : Bz} {K : PySem.W.Frag}
noncomputable def boolsD : List Dv → Option (List Bool)
  | [] => some []
  | .bl b :: ds => (boolsD ds).map (b :: ·)
  | _ :: _ => none
theorem qG : ∀ {ds : List Dv} {bs : List Bool}, boolsD ds = some bs → ds = bs.map Dv.bl
  | [], bs, h => by simp only [boolsD, Option.some.injEq] at h; subst h; rfl
  | d :: ds, bs, h => by
    cases d with
    | bl b =>
      simp only [boolsD, Option.map_eq_some_iff] at h
      obtain ⟨ms, h, rfl⟩ := h
      rw [qG h]
      rfl
    | _ => simp [boolsD] at h
theorem qH {M : Mh} {H : Hp} : ∀ {vs : List V} {bs : List Bool}, aN β M H vs (bs.map Dv.bl) → vs = bs.map V.bl
  | [], [], _ => rfl
  | [], _ :: _, r => absurd r.len (by simp)
  | _ :: _, [], r => absurd r.len (by simp)
  | v :: vs, n :: ns, r => by
    rw [List.map_cons] at r
    rw [List.map_cons, cH r.head, qH r.tail]
theorem Pin.mono {M M' : Mh} {d : Dv} (h : Pin M d) : (∀ a, (M a).isSome = true → (M' a).isSome = true) → Pin M' d := by
  intro k
  induction h with
  | int i => exact .int i
  | bl b => exact .bl b
  | ao => exact .ao
  | str z => exact .str z
  | tup h ih => exact .tup ih
  | lst h ih => exact .lst ih
  | dk h ih => exact .dk ih
  | dt h ih => exact .dt ih
  | bX h ih => exact .bX ih
  | set ns => exact .set ns
  | ptr h => exact .ptr (k _ h)
  | exc C => exact .exc C
  | bz ns => exact .bz ns
  | raw v => exact .raw v
noncomputable def c7 (M : Mh) (a : Addr) : Mh := fun b => if b = a then none else M b
theorem d9 {M : Mh} {a : Addr} : c7 M a a = none := by unfold c7; rw [if_pos rfl]
theorem cI {M : Mh} {a b : Addr} (h : b ≠ a) : c7 M a b = M b := by unfold c7; rw [if_neg h]
structure HZ (M1 M : Mh) (ρ : ay) : Prop where
  env : ∀ (i : Nat) (d : Dv), ρ[i]? = some (some d) → Pin M d
  obj : ∀ b o, M b = some o → M1 b = some o ∨ ∀ d ∈ o.items, Pin M d
theorem Zr.freeze {M : Mh} {ρ : ay} {σ : St} {H : Hp} {i : Nat} {a : Addr} {ds : List Dv} (z : Zr Γ β M ρ σ H) (hi : ρ[i]? = some (some (.ptr a))) (ha : M a = some (.lst ds)) (h0 : Γ.M0 a = none) (fr : HZ Γ.M0 (c7 M a) (ρ.set i (some (.lst ds)))) :
    Zr Γ β (c7 M a) (ρ.set i (some (.lst ds))) σ H ∧ Ev β M H (c7 M a) H := by
  have rz : ∀ {v : V} {d : Dv}, Rz β M H v d → Pin (c7 M a) d → Rz β (c7 M a) H v d := fun r p => r.mq (M0 := c7 M a) (fun b hb => by
    by_cases e : b = a
    · rw [e, d9] at hb; cases hb
    · rw [cI e] at hb; exact hb) p
  have qk : i < ρ.length := (List.getElem?_eq_some_iff.mp hi).1
  have Pr : ∀ d ∈ ds, Pin (c7 M a) d := fun d hd => by
    have := fr.env i (.lst ds) (by rw [List.getElem?_set_self qk])
    cases this with | lst h => exact h d hd
  have obj : ∀ b es, c7 M a b = some es → ∀ d ∈ es.items, Pin (c7 M a) d := fun b es e d hd => by
    rcases fr.obj b es e with q | q
    · refine (z.wf b es q d hd).mono fun c hc => ?_
      have nc : c ≠ a := fun w => by rw [w, h0] at hc; cases hc
      rw [cI nc]
      exact z.ent.dom c hc
    · exact q d hd
  have mz : Mz β (c7 M a) H := by
    refine ⟨fun b o e => ?_, z.mz.tabs, z.mz.hids, fun b o e => ?_, z.mz.lams⟩
    · have nb : b ≠ a := fun q => by rw [q, d9] at e; cases e
      have e' : M b = some o := by rw [cI nb] at e; exact e
      have q := z.mz.obj b o e'
      cases o with
      | lst es => obtain ⟨vs, hv, rs⟩ := q; exact ⟨vs, hv, rs.len, fun j v d x y => rz (rs.at' j v d x y) (obj b _ e d (List.mem_of_getElem? y))⟩
      | dk ks es => obtain ⟨vs, hv, hk, rs⟩ := q; exact ⟨vs, hv, hk, rs.len, fun j v d x y => rz (rs.at' j v d x y) (obj b _ e d (List.mem_of_getElem? y))⟩
      | dt ks es => obtain ⟨vs, hv, hk, rs⟩ := q; exact ⟨vs, hv, hk, rs.len, fun j v d x y => rz (rs.at' j v d x y) (obj b _ e d (List.mem_of_getElem? y))⟩
      | cY => exact q
    · have nb : b ≠ a := fun q => by rw [q, d9] at e; cases e
      rw [cI nb] at e
      exact z.mz.apart b o e
  refine ⟨⟨z.eP, z.ew, z.eK, z.et, z.sub, z.wf, ⟨z.ent.keep, fun b hb => ?_, fun b o m h => ?_⟩, mz, by simp [z.len], fun j d e => ?_⟩, ⟨fun b o _ h => .inl h, fun b o m h => ?_, mz⟩⟩
  · have nb : b ≠ a := fun q => by rw [q, h0] at hb; cases hb
    rw [cI nb]; exact z.ent.dom b hb
  · by_cases e : b = a
    · rw [e, d9]
    · rw [cI e]; exact z.ent.new b o m h
  · have p := fr.env j d e
    rw [List.getElem?_set] at e
    split at e
    · rename_i q
      subst q
      first
        | cases e
        | (rw [if_pos qk] at e; cases e)
      obtain ⟨v, hv, r⟩ := z.at' i _ hi
      obtain ⟨rfl, _⟩ := cO r
      obtain ⟨vs, hl, rs⟩ := z.mz.obj a _ ha
      refine ⟨_, hv, .lst ⟨d9, z.mz.apart a _ ha⟩ hl rs.len fun k v d x y => rz (rs.at' k v d x y) (Pr d (List.mem_of_getElem? y))⟩
    · obtain ⟨v, hv, r⟩ := z.at' j d e
      exact ⟨v, hv, rz r p⟩
  · by_cases e : b = a
    · rw [e, d9]
    · rw [cI e]; exact m
noncomputable def NA (i : Nat) (M0 : Mh) (p : bS) : bS := fun D ρ M => p D ρ M ∨ ∃ a ds, ρ[i]? = some (some (.ptr a)) ∧ M a = some (.lst ds) ∧ M0 a = none ∧ HZ M0 (c7 M a) (ρ.set i (some (.lst ds))) ∧ p D (ρ.set i (some (.lst ds))) (c7 M a)
theorem Ia (i : Nat) {M1 : Mh} {st : Stmt} {p : bS} (hM : Γ.M0 = M1) (h : QS Γ X st p) : QS Γ X st (NA i M1 p) := h.imp fun D σ H ⟨β, ρ, M, D', zr, h, r⟩ => by
  rcases h with h | ⟨a, ds, hi, ha, h0, fr, h⟩
  · exact ⟨β, ρ, M, D', zr, h, r⟩
  · obtain ⟨z2, e2⟩ := zr.freeze hi ha (by rw [hM]; exact h0) (by rw [hM]; exact fr)
    exact ⟨β, _, _, D', z2, h, r.step e2⟩
end
end L2
namespace L2
open PySem PySem.Spec PyProof.Rows
section
variable {κ : Type} [DecidableEq κ] {α : Type}
noncomputable def look : List κ → List α → κ → Option α
  | k :: ks, d :: ds, x => if k = x then some d else look ks ds x
  | _, _, _ => none
end
noncomputable def fK (X : Cx) : Str := X.env.qual ++ "<lambda>"
structure Ib (X : Cx) (params : Arguments) (body : Expr) (scope : Scope) (o : Obj) (c : Addr) (oc : Obj) (aO : List (Str × Addr)) : Prop where
  cells : ∀ n a, aO.lookup n = some a → X.env.cells.lookup n = some a
  has : ∀ n, (n, NameKind.free) ∈ scope.names → ∃ a, aO.lookup n = some a
  obj : ∃ gC, o = PySem.W.kla_obj "<lambda>" (fK X) params body scope aO ((X.mg "__name__").getD .none) c gC
  code : ∃ vs t, oc.data = .fields vs ∧ vs[1]? = some (Value.str (fK X) t)
structure Ic (X : Cx) (P : Addr) (H H2 : Hp) (f : Addr) (o : Obj) (c : Addr) (oc : Obj) : Prop where
  new : H f = none
  at' : ∃ u, H2 f = some (.cU o u)
  cd : ∃ u, H2 c = some (.cU oc u)
  lm : Lm H2 (P, fK X)
  keep : ∀ b u, H b = some u → b ≠ P → H2 b = some u
  tab : ∃ ps, H P = some (.lam ps)
noncomputable def NB (X : Cx) (P : Addr) (params : Arguments) (body : Expr) (scope : Scope) : TE := fun _ H Q => Lm H (P, fK X) ∧ ∀ f o c oc aO H2, Ib X params body scope o c oc aO → Ic X P H H2 f o c oc → Q (.ref f) H2
noncomputable def jd (a : Addr) (o : Obj) : HO := .cU o (.ext fun h => h.get? a = some o)
theorem td {P : Program} {w : World} {H : Hp} {h : Heap} {a : Addr} {o : Obj} (e : h.get? a = some o) : bw P w H h a (jd a o) := ⟨e, e, ⟨o, e⟩, fun _ _ x k => k o x⟩
theorem zj {a b c cv : Value} {pos : Pos} (l : List Value) (h : TriplesOk l) (e : codeAmong pos (l ++ [a, b, c]) = some cv) : codeAmong pos l = some cv ∨ cv = c := by
  induction l using TriplesOk.induct with
  | case1 =>
    right
    simp only [List.nil_append] at e
    unfold codeAmong at e
    split at e
    · rename_i heq
      cases heq
      split at e
      · exact (Option.some.inj e).symm
      · simp [codeAmong] at e
    · cases e
  | case2 x tx y ty z rest ih =>
    simp only [List.cons_append, codeAmong] at e ⊢
    split at e
    · rename_i q
      rw [if_pos q]; exact .inl e
    · rename_i q
      rw [if_neg q]; exact ih h e
  | case3 l n1 n2 =>
    exfalso
    unfold TriplesOk at h
    split at h
    · exact n1 rfl
    · exact n2 _ _ _ _ _ _ rfl
    · exact h
section
variable {X : Cx} {params : Arguments} {body : Expr} {scope : Scope} {pos : Pos} {P cX : Addr}
theorem wG {pins : List (Addr × Obj)} {s : Shared} {σ : St} {H : Hp} {h' : Heap} {o : Obj} (I : Inv X pins σ H s) (hk : ∀ b u, s.heap.get? b = some u → h'.get? b = some u) (hsz : s.heap.objs.size ≤ h'.objs.size) (hc : o.isFreed = false) (tk : Nat) :
    Inv X pins σ (upd H h'.objs.size (jd h'.objs.size o)) { s with heap := h'.push o, toks := tk } :=
  I.laid (a := h'.objs.size) (o := jd h'.objs.size o) (t' := tk) (fun b u e => Heap.get?_push_of_some _ (hk b u e)) hsz (td (Heap.get?_push_size _ hc))
theorem wH {pins : List (Addr × Obj)} {s : Shared} {σ : St} {H : Hp} {h' : Heap} {o oc : Obj} {c : Addr} {ps gq : Array Value} (I : Inv X pins σ H s) (hP : H P = some (.lam ps)) (hx : Heap.ExtBut P s.heap h') (tj : s.heap.objs.size ≤ c) (bO : c < h'.objs.size) (pO : h'.get? c = some oc)
    (C9 : h'.get? P = some { cls := .none, data := .fields gq }) (hc : o.isFreed = false) (tk : Nat) :
    Inv X pins σ (upd (upd (upd H P (.lam gq)) c (jd c oc)) h'.objs.size (jd h'.objs.size o)) { s with heap := h'.push o, toks := tk } := by
  have Ie : P < s.heap.objs.size := (I.hok P _ hP).lt
  have hsz : s.heap.objs.size ≤ h'.objs.size := Nat.le_of_lt (Nat.lt_of_le_of_lt tj bO)
  have old : ∀ b, b < s.heap.objs.size → b ≠ P → upd (upd (upd H P (.lam gq)) c (jd c oc)) h'.objs.size (jd h'.objs.size o) b = H b := fun b hb n => by
    rw [ak (Nat.ne_of_lt (Nat.lt_of_lt_of_le hb hsz)), ak (Nat.ne_of_lt (Nat.lt_of_lt_of_le hb tj)), ak n]
  have Q3 : upd (upd (upd H P (.lam gq)) c (jd c oc)) h'.objs.size (jd h'.objs.size o) P = some (.lam gq) := by
    rw [ak (Nat.ne_of_lt (Nat.lt_of_lt_of_le Ie hsz)), ak (Nat.ne_of_lt (Nat.lt_of_lt_of_le Ie tj)), aC]
  have k : ∀ b u, b ≠ P → s.heap.get? b = some u → (h'.push o).get? b = some u := fun b u n e => Heap.get?_push_of_some _ (hx b u n e)
  have zk : ∀ b u, H b = some u → b < s.heap.objs.size := fun b u e => (I.hok b u e).lt
  have nP : ∀ b, H b = none → b ≠ P := fun b e z => by rw [z, hP] at e; cases e
  have nT : ∀ b u, H b = some u → (∀ ps, u ≠ .lam ps) → b ≠ P := fun b u e n z => by rw [z, hP] at e; cases e; exact n _ rfl
  refine I.un ⟨fun b u q n _ _ => k b u (nP b n) q, fun b u q n _ _ => ⟨u.slots, k b u (nP b n) q⟩, fun b u q n _ => by rw [old b (Heap.lt_size q) (nP b n)]; exact n, fun b u q _ => ?_, fun b xs q => by rw [old b (zk b _ q) (nT b _ q (by intro _ z; cases z))]; exact q,
    fun b u xs q => by rw [old b (zk b _ q) (nT b _ q (by intro _ z; cases z))]; exact q, fun b qs q => ⟨#[], by rw [old b (zk b _ q) (nT b _ q (by intro _ z; cases z)), q]; simp⟩⟩ fun b u q => ?_
  · by_cases e : b = P
    · subst e; exact ⟨_, Heap.get?_push_of_some _ C9⟩
    · exact ⟨u, k b u e q⟩
  · by_cases e1 : b = h'.objs.size
    · subst e1
      rw [aC] at q; cases q
      exact td (Heap.get?_push_size _ hc)
    · rw [ak e1] at q
      by_cases e2 : b = c
      · subst e2
        rw [aC] at q; cases q
        exact td (Heap.get?_push_of_some _ pO)
      · rw [ak e2] at q
        by_cases e3 : b = P
        · subst e3
          rw [aC] at q; cases q
          exact Heap.get?_push_of_some _ C9
        · rw [ak e3] at q
          refine (I.hok b u q).bU (fun a v hc q => k a v ?_ q) (fun a z => ?_) fun a xs z => ?_
          · rcases hc with z | z
            · rw [z]; exact e3
            · exact nT a _ z (by intro _ w; cases w)
          · rw [old a (zk a _ z) (nT a _ z (by intro _ w; cases w))]; exact z
          · rw [old a (zk a _ z) (nT a _ z (by intro _ w; cases w))]; exact z
theorem Ig (bM : X.env.code = .ref cX) (hd : PySem.W.CodeHd X.base cX P) (dH : ∃ bm ob, BMod X.base mainGlobals X.mg bm ob) (rF : defaultsOf params X.env = ([], []))
    (me : ∀ n, (n, NameKind.free) ∈ scope.names → X.env.kindOf n = some .cell ∨ X.env.kindOf n = some .free) : PE X (.Lambda params body scope pos) (NB X P params body scope) := by
  refine ⟨?_⟩
  intro pins s σ H Q I ⟨⟨ps, hP, k9, kD⟩, q⟩
  obtain ⟨aO, gN, dP, gm⟩ := gj (scope := scope) (env := X.env) fun n hn => I.ok.has n (me n hn)
  have sd : s.heap.get? P = some (PySem.W.tabObj ps) := I.hok P _ hP
  obtain ⟨bm, ob, bmod⟩ := dH
  have fS := bmod.keeps I.bk
  have Pt : mainGlobals ≠ P := fun z => by
    obtain ⟨o, es, ep, e, hd, _⟩ := fS.ns
    rw [z, sd] at e; cases e; cases hd
  have Pu : bm ≠ P := fun z => by
    have e := fS.obj
    have e2 := fS.data
    rw [z, sd] at e; cases e; cases e2
  have Pw : bm ≠ mainGlobals := fun z => by
    obtain ⟨o, es, ep, e, hd, _⟩ := fS.ns
    have e1 := fS.obj
    have e2 := fS.data
    rw [z, e] at e1; cases e1; rw [hd] at e2; cases e2
  have hb : s.heap.BuiltinsAt X.mg P := ⟨bm, ob, fS.name, fS.ne, Pw, Pu, fS.obj, fS.cls, fS.dict, fS.data⟩
  refine PySem.W.kla_eval rF ?_
  cases hq : codeAmong pos ps.toList with
  | some cv =>
    obtain ⟨c, oc, uc, vs, t, rfl, ec, d1, d2⟩ := kD pos cv hq
    refine PySem.W.kla_makeFunctionHit (mg := X.mg) gN I.ok.glob (I.mod.glob.keeps I.bk) bM (hd.keeps I.bk) sd k9 hq hb fun gC h' tk hk hsz => ?_
    have hf : H h'.objs.size = none := I.hok.fresh hsz
    have pre : ∀ b u, H b = some u → upd H h'.objs.size (jd h'.objs.size (PySem.W.kla_obj "<lambda>" (fK X) params body scope aO ((X.mg "__name__").getD .none) c gC)) b = some u := fun b u e => by rw [ak (a9 e hf)]; exact e
    refine ⟨.ref h'.objs.size, _, wG I hk hsz (o := PySem.W.kla_obj "<lambda>" (fK X) params body scope aO ((X.mg "__name__").getD .none) c gC) rfl tk, rfl, q _ _ c oc aO _ ⟨dP, gm, ⟨gC, rfl⟩, ⟨vs, t, d1, d2⟩⟩ ⟨hf, ⟨_, aC⟩, ⟨uc, pre _ _ ec⟩, Lm.keep ⟨ps, hP, k9, kD⟩ (fun _ e => pre _ _ e) fun _ _ _ e => pre _ _ e, fun b u e _ => pre b u e, ⟨ps, hP⟩⟩⟩
  | none =>
    refine PySem.W.kla_makeFunction (mg := X.mg) gN I.ok.glob (I.mod.glob.keeps I.bk) bM (hd.keeps I.bk) sd k9 hq Pt hb fun c gC h' tk hx tj bO NC C9 => ?_
    obtain ⟨c2, oc, vs, t, e2, pO, d1, d2⟩ := NC
    cases e2
    have I2 := wH (o := PySem.W.kla_obj "<lambda>" (fK X) params body scope aO ((X.mg "__name__").getD .none) c gC) I hP hx tj bO pO C9 rfl tk
    have hsz : s.heap.objs.size ≤ h'.objs.size := Nat.le_of_lt (Nat.lt_of_le_of_lt tj bO)
    have hf : H h'.objs.size = none := I.hok.fresh hsz
    have LX : H c = none := I.hok.fresh tj
    have Px : c ≠ h'.objs.size := Nat.ne_of_lt bO
    have Py : P ≠ c := fun z => by rw [z, LX] at hP; cases hP
    have Pz : P ≠ h'.objs.size := fun z => by rw [z, hf] at hP; cases hP
    have PB : TriplesOk (ps ++ #[rawInt pos.line, rawInt pos.col, Value.ref c]).toList := by
      rw [Array.toList_append]
      exact TriplesOk_snoc _ _ _ _ k9
    have pre : ∀ b u, H b = some u → b ≠ P → upd (upd (upd H P (.lam (ps ++ #[rawInt pos.line, rawInt pos.col, Value.ref c]))) c (jd c oc)) h'.objs.size (jd h'.objs.size (PySem.W.kla_obj "<lambda>" (fK X) params body scope aO ((X.mg "__name__").getD .none) c gC)) b = some u := fun b u e n => by
      rw [ak (a9 e hf), ak (a9 e LX), ak n]; exact e
    have LY : upd (upd (upd H P (.lam (ps ++ #[rawInt pos.line, rawInt pos.col, Value.ref c]))) c (jd c oc)) h'.objs.size (jd h'.objs.size (PySem.W.kla_obj "<lambda>" (fK X) params body scope aO ((X.mg "__name__").getD .none) c gC)) c = some (jd c oc) := by rw [ak Px, aC]
    refine ⟨.ref h'.objs.size, _, I2, rfl, q _ _ c oc aO _ ⟨dP, gm, ⟨gC, rfl⟩, ⟨vs, t, d1, d2⟩⟩ ⟨hf, ⟨_, aC⟩, ⟨_, LY⟩, ⟨_, by rw [ak Pz, ak Py, aC], PB, fun p cv e => ?_⟩, pre, ⟨ps, hP⟩⟩⟩
    rw [Array.toList_append] at e
    rcases zj _ k9 e with e | e
    · obtain ⟨c3, PD, u3, PF, t3, a1, a2, a3⟩ := kD p cv e
      exact ⟨c3, PD, u3, PF, t3, a1, pre _ _ a2 (fun z => by rw [z, hP] at a2; cases a2), a3⟩
    · exact ⟨c, oc, _, vs, t, e, LY, d1, d2⟩
end
structure wI (X : Cx) (σ : St) (b' : Heap) : Prop where
  ext : ∀ b o, X.base.get? b = some o → b'.get? b = some o
  cell : ∀ (i : Nat) (x : Str) (v : V), X.N[i]? = some x → σ[i]? = some (some v) → X.env.scope.names.lookup x = some .cell → ∃ c u, X.env.cells.lookup x = some c ∧ RelV v u ∧ b'.IsCell c (some u)
  cells : ∀ x c, X.env.cells.lookup x = some c → ∃ v, b'.IsCell c v
  inj : ∀ x y c, X.env.cells.lookup x = some c → X.env.cells.lookup y = some c → x = y
theorem Mod.ext {K : PySem.W.Frag} {mg : Str → Option Value} {b b' : Heap} (m : Mod K mg b) (k : ∀ a o, b.get? a = some o → b'.get? a = some o) : Mod K mg b' :=
  ⟨m.kin.keeps k, m.glob.keeps k, let ⟨mb, h1, h2⟩ := m.blt; ⟨mb, h1.keeps k, h2⟩, m.nolimit.keeps k⟩
section
variable {X : Cx} {pins : List (Addr × Obj)} {σ : St} {H : Hp} {s : Shared}
theorem Inv.Km (I : Inv X pins σ H s) (nG : ∀ x, X.fn x = true) : ∃ b', wI X σ b' ∧ kW X.prog X.w X.K X.mg b' X.A X.stack s H := by
  let Dc : Addr → Prop := fun a => ∃ x, X.env.cells.lookup x = some a
  let l : List Addr := (List.range s.heap.objs.size).filter fun a => @decide ((X.base.get? a = none) ∧ ¬ Dc a) (Classical.propDecidable _)
  have ml : ∀ a, a ∈ l ↔ a < s.heap.objs.size ∧ X.base.get? a = none ∧ ¬ Dc a := fun a => by
    show a ∈ (List.range s.heap.objs.size).filter _ ↔ _
    rw [List.mem_filter, List.mem_range]
    simp only [decide_eq_true_eq]
  have ext : ∀ b o, X.base.get? b = some o → (PySem.W.hideAll s.heap l).get? b = some o := fun b o e => PySem.W.hideAll_get l (I.bk b o e) fun z => by
    have := ((ml b).mp z).2.1
    rw [e] at this; cases this
  have cls : ∀ x c o, X.env.cells.lookup x = some c → s.heap.get? c = some o → (PySem.W.hideAll s.heap l).get? c = some o := fun x c o e ho => PySem.W.hideAll_get l ho fun z => ((ml c).mp z).2.2 ⟨x, e⟩
  have only : ∀ b o, (PySem.W.hideAll s.heap l).get? b = some o → s.heap.get? b = some o ∧ ((∃ o', X.base.get? b = some o') ∨ Dc b) := fun b o e => by
    have e' := PySem.W.of_hideAll l e
    refine ⟨e', ?_⟩
    by_cases hc : Dc b
    · exact .inr hc
    · cases q : X.base.get? b with
      | some o' => exact .inl ⟨o', rfl⟩
      | none =>
        have : (PySem.W.hideAll s.heap l).get? b = none := PySem.W.hideAll_none l ((ml b).mpr ⟨Heap.lt_size e', q, hc⟩)
        rw [e] at this; cases this
  refine ⟨PySem.W.hideAll s.heap l, ⟨ext, fun i x v h1 h2 h3 => ?_, fun x c e => ?_, I.ok.inj⟩, I.ok.frames, I.ok.mod.ext ext, fun b o e => ?_, Nat.le_of_eq (PySem.W.hideAll_size _ _), ?_, I.jL, I.hok, I.bare.1⟩
  · obtain ⟨m, hn, hl⟩ := I.loc
    obtain ⟨u, r, lk⟩ := hl i x v h1 h2 (.inr (.inl h3))
    rcases lk with ⟨hk, _⟩ | ⟨_, c, ec, o, ho, hd⟩
    · have hk : X.env.scope.names.lookup x = some .local := hk
      rw [h3] at hk; cases hk
    · exact ⟨c, u, ec, r, o, cls x c o ec ho, hd⟩
  · obtain ⟨v, o, ho, hd⟩ := I.cell x c e
    exact ⟨v, o, cls x c o e ho, hd⟩
  · obtain ⟨e', q⟩ := only b o e
    refine ⟨e', ?_⟩
    rcases q with ⟨o', q⟩ | ⟨x, q⟩
    · exact (I.bs b o' q).2
    · exact I.freeC x b q
  · have fr : ∀ L ∈ dJ X.stack, (PySem.W.hideAll s.heap l).get? L = none := fun L hL => by
      cases q : (PySem.W.hideAll s.heap l).get? L with
      | none => rfl
      | some o =>
        exfalso
        obtain ⟨e', q⟩ := only L o q
        have nb := (I.stack.mem hL).1
        rcases q with ⟨o', q⟩ | ⟨x, q⟩
        · rw [nb] at q; cases q
        · rcases List.mem_cons.mp (I.fu L hL) with z | z
          · exact I.nF x L q z
          · have h1 := I.ok.cab x L (nG x) q
            obtain ⟨_, o2, nO, _⟩ := I.ok.funs.mem z
            exact absurd (Heap.lt_size nO) (Nat.not_lt.mpr h1)
    have go : ∀ (st : List Env), (∀ L ∈ dJ st, (PySem.W.hideAll s.heap l).get? L = none) → s.heap.FunFrames X.base st → s.heap.FunFrames (PySem.W.hideAll s.heap l) st := by
      intro st
      induction st with
      | nil => intro _ _; trivial
      | cons env r ih =>
        intro hs hl
        obtain ⟨hk, ⟨L, o, hf, hn, ho, hd⟩, hr⟩ := hl
        exact ⟨hk, ⟨L, o, hf, hs L (by unfold dJ; rw [List.filterMap_cons, hf]; exact List.mem_cons_self), ho, hd⟩, ih (fun b hb => hs b (by unfold dJ; rw [List.filterMap_cons, hf]; exact List.mem_cons_of_mem _ hb)) hr⟩
    exact go X.stack fr I.stack
end
section
variable {X : Cx} {CX : eu} {k : Nat} {f : Addr} {fd : FuncData} {ps : List Str} {ik : List V} {ds : List Value} {E : XK} {x : Str} {p pos : Pos} {e : Expr} {es : List Expr} {t : TA}
noncomputable def Ih (X : Cx) (sp : Heap → Sp) (ik : List V) (E : XK) (t : TA) : TE := fun σ H Q => t σ H fun vs H1 => ∀ b', wI X σ b' → sp b' (vs ++ ik) H1 Q E
theorem Bt {sp : Heap → Sp} (F : ∀ b', (∀ b o, X.base.get? b = some o → b'.get? b = some o) → FnOk X.prog X.w X.K X.mg b' CX k f fd ps (sp b')) (hr : bC k X.A) (nG : ∀ x, X.fn x = true) (hg : Gl X x) (hm : X.mg x = some (.ref f)) (hk : PySem.W.keepIn X.K (.ref f) = true) (hb : Binds X.K fd ps ds) (hd : Vals ik ds) (hx : Passes CX X E)
    (ha : PA X (e :: es) t) (cV : (x == ("__debug__" : Str)) = false := by decide) (he : starEach (e :: es) X.env = (false, eval e X.env) :: starEach es X.env := by rfl) (cy : (backTo pos (starEach es X.env)).any (·.1) = false := by rfl) :
    PE X (.Call (.Name x p) (e :: es) [] pos) (Ih X sp ik E t) := by
  refine ⟨?_⟩
  intro pins s σ H Q I h
  refine wpAny_Call_Name_kw (iG I hg hm ?_ cV)
  refine PySem.W.callWith_K (h₀ := X.base) I.ok.mod.kin hk (thn (ha pos pins s σ H _ I h) fun us s1 ⟨vs, H1, I1, r, q⟩ => ⟨I1.ej, ?_⟩) he cy
  obtain ⟨b', B, e0⟩ := I1.Km nG
  have r2 : Vals (vs ++ ik) (us ++ ds) := r.append hd
  have hl : (us ++ ds).length = ps.length := by rw [← r2.length]; exact (F b' B.ext).len _ _ _ _ (q b' B)
  refine wpAny_call (codeAny_mono ((F b' B.ext).run X.A X.stack s1 H1 ⟨us, []⟩ (us ++ ds) (vs ++ ik) Q E hr e0 (hb s1 us I1.ej hl) r2 (q b' B)) fun r s' hq => ?_)
  cases r with
  | error e => exact hx pins σ H1 s1 e s' I1 hq
  | ok fl =>
    cases fl with
    | ret u => exact I1.after hq
    | next => exact False.elim hq
    | brk => exact False.elim hq
    | cont => exact False.elim hq
end
noncomputable def rp (CX : eu) (P : Program) (w : World) (K : PySem.W.Frag) (mg : Str → Option Value) (base : Heap) (N : List Str) (qual : Str) (scope : Scope) (f : Addr) (cd : Value) (aO : List (Str × Addr)) (A : Around) (outer : List Env) (s : Shared) (H : Hp) (E : XK) : Cx where
  prog := P
  w := w
  K := K
  mg := mg
  base := base
  A := A.deeper (PySem.W.envX qual scope s.heap.objs.size f cd aO)
  N := N
  s₀ := s
  H₀ := H
  env := PySem.W.envX qual scope s.heap.objs.size f cd aO
  outer := outer
  stack := PySem.W.envX qual scope s.heap.objs.size f cd aO :: outer
  ex := []
  calm := true
  fn := fun _ => false
  pn := []
  xe := fun e s' => wpAny (model P w) (A.deeper (PySem.W.envX qual scope s.heap.objs.size f cd aO)) (leaving (PySem.W.envX qual scope s.heap.objs.size f cd aO) e) (fun _ b8 => CX outer H s E e b8) (fun e' b8 => CX outer H s E e' b8) s'
structure kg (ps fs : List Str) (sc : Scope) : Prop where
  kind : sc.kind = .function
  co : sc.isCoroutine = false
  gen : sc.isGenerator = false
  nd : (ps ++ fs).Nodup
  par : ∀ x ∈ ps, sc.names.lookup x = some .local
  fre : ∀ x ∈ fs, sc.names.lookup x = some .free
  nocell : ∀ y ∈ sc.names, y.2 ≠ .cell
structure tm (base : Heap) (fs : List Str) (aO : List (Str × Addr)) (vcs : List V) : Prop where
  inj : ∀ x y c, aO.lookup x = some c → aO.lookup y = some c → x = y
  all : ∀ x c, aO.lookup x = some c → ∃ v, base.IsCell c v
  cell : ∀ (j : Nat) (x : Str) (v : V), fs[j]? = some x → vcs[j]? = some v → ∃ c u, aO.lookup x = some c ∧ RelV v u ∧ base.IsCell c (some u)
theorem oG {x : Str} {v : Value} : ∀ {ps : List Str} {us : List Value} {i : Nat}, ps.Nodup → ps[i]? = some x → us[i]? = some v → (ps.zip us).reverse.lookup x = some v
  | [], _, _, _, h, _ => by simp at h
  | _ :: _, [], _, _, _, h => by simp at h
  | p :: ps, u :: us, i, nd, h1, h2 => by
    rw [List.zip_cons_cons, List.reverse_cons]
    have hn := List.nodup_cons.mp nd
    cases i with
    | zero =>
      simp at h1 h2
      subst h1 h2
      rw [List.lookup_append]
      have : (ps.zip us).reverse.lookup p = none := by
        rw [List.lookup_eq_none_iff]
        intro q hq
        have yI := List.mem_reverse.mp hq
        have := (List.of_mem_zip yI).1
        have ne : p ≠ q.1 := fun z => hn.1 (by rw [z]; exact this)
        simpa using ne
      rw [this]
      simp [List.lookup]
    | succ i =>
      rw [List.lookup_append, oG hn.2 (by simpa using h1) (by simpa using h2)]
      rfl
section
variable {CX : eu} {P : Program} {w : World} {K : PySem.W.Frag} {mg : Str → Option Value} {base : Heap} {ps fs : List Str} {qual : Str} {scope : Scope} {f c : Addr} {aO : List (Str × Addr)} {A : Around} {outer : List Env} {s : Shared} {H : Hp} {E : XK} {us : List Value} {vs vcs : List V}
theorem ED {h1 : Heap} {tk : Nat} (S : kg ps fs scope) (C : tm base fs aO vcs) (has : ∀ n, (n, NameKind.free) ∈ scope.names → ∃ a, aO.lookup n = some a) (hd : A.handled = none) (e0 : kW P w K mg base A outer s H) (hl : vs.length = ps.length) (hc : vcs.length = fs.length) (r : Vals vs us)
    (fR : h1.Ns s.heap.objs.size (fun y => (ps.zip us).reverse.lookup y)) (hk : ∀ b o, s.heap.get? b = some o → h1.get? b = some o) :
    Inv (rp CX P w K mg base (ps ++ fs) qual scope f (.ref c) aO A outer s H E) [] (vs.map some ++ vcs.map some) H { s with heap := h1, toks := tk } := by
  have bc : ∀ x a, aO.lookup x = some a → ∃ v o, s.heap.get? a = some o ∧ o.data = .cell v ∧ H a = none := fun x a e => by
    obtain ⟨v, o, ho, hd⟩ := C.all x a e
    obtain ⟨h1, h2⟩ := e0.bs a o ho
    exact ⟨v, o, h1, hd, h2⟩
  refine ⟨⟨e0.mod, S.kind, rfl, rfl, Nat.le_refl _, C.inj, fun y hy => ?_, fun _ _ z => (nomatch z), fun _ => hd, Around.frames_deeper e0.frames, .inr ⟨rfl, rfl⟩, fun b z => absurd (show b ∈ ([] : List Addr) from z) (by simp), e0.bs, e0.bsz, fun b _ _ z => absurd (show b ∈ ([] : List Addr) from z) (by simp), fun b z => absurd (show b ∈ ([] : List Addr) from z) (by simp), e0.funs, e0.frf⟩,
    rfl, ⟨e0.bare, Nat.le_refl _⟩, Un.kept hk, ⟨_, fR, fun i y v h1 h2 h3 => ?_⟩, fun y a e => ?_, e0.hok.fresh (Nat.le_refl _), fun y a e => ?_, fun p hp => absurd (show p ∈ ([] : List (Addr × Obj)) from hp) (by simp), e0.hok.kept hk, ?_⟩
  · have hy : scope.names.lookup y = some .cell ∨ scope.names.lookup y = some .free := hy
    rcases hy with hy | hy
    · exact absurd rfl (S.nocell _ (PySem.mem_of_lookup hy))
    · exact has y (PySem.mem_of_lookup hy)
  · have h1 : (ps ++ fs)[i]? = some y := h1
    by_cases hi : i < ps.length
    · rw [List.getElem?_append_left hi] at h1
      rw [List.getElem?_append_left (by simpa [hl] using hi), List.getElem?_map] at h2
      have ha : vs[i]? = some v := by
        cases e : vs[i]? with
        | none => rw [e] at h2; cases h2
        | some a => rw [e] at h2; cases h2; rfl
      obtain ⟨u, hu, rv⟩ := r.get ha
      have nd : ps.Nodup := S.nd.sublist (List.sublist_append_left _ _)
      exact ⟨u, rv, .inl ⟨S.par y (List.mem_of_getElem? h1), oG nd h1 hu⟩⟩
    · rw [List.getElem?_append_right (by omega)] at h1
      rw [List.getElem?_append_right (by simp only [List.length_map]; omega), List.length_map, hl, List.getElem?_map] at h2
      have ha : vcs[i - ps.length]? = some v := by
        cases e : vcs[i - ps.length]? with
        | none => rw [e] at h2; cases h2
        | some a => rw [e] at h2; cases h2; rfl
      obtain ⟨a, u, e1, rv, o, ho, hd⟩ := C.cell _ y v h1 ha
      exact ⟨u, rv, .inr ⟨.inr (S.fre y (List.mem_of_getElem? h1)), a, e1, o, hk _ _ (e0.bs a o ho).1, hd⟩⟩
  · obtain ⟨v, o, ho, hd, _⟩ := bc y a e
    exact ⟨v, o, hk _ _ ho, hd⟩
  · obtain ⟨v, o, ho, hd, hn⟩ := bc y a e
    exact hn
  · show _ = (ps ++ fs).length
    simp [hl, hc]
structure Ii (params : Arguments) (body : Expr) (scope : Scope) (qual : Str) (o : Obj) (c : Addr) (oc : Obj) (aO : List (Str × Addr)) (fd : FuncData) : Prop where
  has : ∀ n, (n, NameKind.free) ∈ scope.names → ∃ a, aO.lookup n = some a
  obj : ∃ name pm gC, fd = PySem.W.kla_fn name qual params body scope aO pm (.ref c) gC ∧ o = { cls := .type "function", data := .func fd }
  code : ∃ vs t, oc.data = .fields vs ∧ vs[1]? = some (Value.str qual t)
theorem Ij {params : Arguments} {body : Expr} {o oc : Obj} {fd : FuncData} {k : Nat} {sp : Sp} (L : Ii params body scope qual o c oc aO fd) (S : kg ps fs scope) (C : tm base fs aO vcs) (c9 : vcs.length = fs.length) (len : ∀ vs H Q E, sp vs H Q E → vs.length = ps.length)
    (at' : ∀ vs H Q E, sp vs H Q E → (∃ u, H f = some (.cU o u)) ∧ ∃ u, H c = some (.cU oc u))
    (ir : ∀ (A : Around) (outer : List Env) (s : Shared) (H : Hp) (vs : List V) (Q : VK) (E : XK), bC k (A.deeper (PySem.W.envX qual scope s.heap.objs.size f (.ref c) aO)) → sp vs H Q E →
      ∃ t, PE (rp CX P w K mg base (ps ++ fs) qual scope f (.ref c) aO A outer s H E) body t ∧ t (vs.map some ++ vcs.map some) H Q) : FnOk P w K mg base CX (k + 1) f fd ps sp := by
  obtain ⟨has, ⟨name, pm, gC, rfl, rfl⟩, ⟨PH, ct, d1, d2⟩⟩ := L
  refine ⟨len, fun A outer s H args us vs Q E hr e0 hb r gV => ?_⟩
  have hl := len _ _ _ _ gV
  obtain ⟨⟨u1, ef⟩, ⟨u2, ec⟩⟩ := at' _ _ _ _ gV
  have PJ := (e0.hok f _ ef).1
  have pO := (e0.hok c _ ec).1
  have lim : s.heap.NoLimit := e0.mod.nolimit.keeps fun b o e => (e0.bs b o e).1
  refine PySem.W.kla_callFunE hr.depth PJ rfl S.co S.gen rfl ⟨c, oc, PH, ct, rfl, pO, d1, d2⟩ (hb _ _ _ _ ?_)
  refine wpAny_newFunctionEnv S.nocell (fun y hy => S.par y.1 (List.of_mem_zip hy).1) (fun h1 fR iR => ⟨lim.fresh _ iR, ?_⟩) S.kind
  have hk : ∀ b o, s.heap.get? b = some o → h1.get? b = some o := fun b o e => iR.extBut b o (Nat.ne_of_lt (Heap.lt_size e)) (Heap.get?_push_of_some _ e)
  obtain ⟨t, ht, hq⟩ := ir A outer s H vs Q E (hr.deeper _) gV
  have I := ED (CX := CX) (qual := qual) (f := f) (c := c) (E := E) (tk := s.toks + (ps.zip us).length) S C has hr.hd e0 hl c9 r fR hk
  show codeAny _ _ (.expr body (PySem.W.envX qual scope s.heap.objs.size f (.ref c) aO)) _ _
  refine PySem.W.kla_codeExpr (wpAny_mono (ht [] _ _ H Q I hq) (fun u s' ⟨v, H', J, rv, q⟩ => ?_) fun e s' hs => hs)
  exact ⟨v, H', J.os, J.bare, J.base, J.hok, rv, q⟩
end
end L2
namespace L2
open PySem PySem.Spec PySem.W PyProof.Rows
structure PK (K : PySem.W.Frag) (mg : Str → Option Value) (x : Str) (st : Stmt) (ps : List Str) (ds : List Value) (f : Addr) (fd : FuncData) : Prop where
  ex : ∃ (oc : Value) (od : Option Addr) (dV kV doc pm : Value) (an : Option Addr) (bK ct : Value) (gh : Array (Option Value)),
    fd = PySem.W.fnOf x x (cz st) (bD st) (ai st) dV kV doc pm an bK ct ∧ K.lookup f = some ⟨oc, od, .func fd, gh⟩ ∧ PySem.W.codeIn K bK x = true
  kp : PySem.W.keepIn K (.ref f) = true
  bd : Binds K fd ps ds
  bd0 : Binds K fd ps []
  mg : mg x = some (.ref f)
section
variable {P : Program} {w : World} {K : PySem.W.Frag} {mg : Str → Option Value} {base : Heap} {tb : cg} {x : Str} {st : Stmt} {f : Addr} {fd : FuncData} {N ps : List Str} {ik : List Value} {k : Nat} {S : cj}
noncomputable def Ik (P : Program) (w : World) (K : PySem.W.Frag) (tb : cg) (f : Addr) (o : Obj) (c : Addr) (oc : Obj) (vcs : List V) (S : List Dv → cj) : Sp := fun vs H Q E => ∃ (β : Bz) (ds bB : List Dv) (M : Mh) (Q' : ZK) (E' : ZX), β.P = P ∧ β.w = w ∧ β.K = K ∧ β.tb = tb ∧ Mz β M H ∧ aN β M H vs ds ∧ Rz β M H (.ref f) (.bX f o c oc vcs bB) ∧ S bB ds M Q' E' ∧
  (∀ d M' v H', Ex β M H M' H' → Rz β M' H' v d → Q' d M' → Q v H') ∧ ∀ C M' H', Ex β M H M' H' → E' C M' → E (.ref C) none H'
theorem lL {β : Bz} {M : Mh} {H : Hp} {v : V} {f c : Addr} {o oc : Obj} {vs : List V} {ds : List Dv} (h : Rz β M H v (.bX f o c oc vs ds)) : v = .ref f ∧ (∃ u, H f = some (.cU o u)) ∧ (∃ u, H c = some (.cU oc u)) ∧ aN β M H vs ds := by
  cases h with
  | bX m e m2 e2 hl h => exact ⟨rfl, ⟨_, e⟩, ⟨_, e2⟩, hl, h⟩
theorem Il {Γ : Gz} {vs vcs : List V} {ds bB : List Dv} (m : Mz Γ.toBz Γ.M0 Γ.H0) (rs : aN Γ.toBz Γ.M0 Γ.H0 vs ds) (rc : aN Γ.toBz Γ.M0 Γ.H0 vcs bB) : Zr Γ Γ.toBz Γ.M0 (ds.map some ++ bB.map some) (vs.map some ++ vcs.map some) Γ.H0 :=
  ⟨rfl, rfl, rfl, rfl, fun _ h => h, m.wf, .refl, m, by simp [rs.len, rc.len], fun i d e => by
    rw [← List.map_append, List.getElem?_map, Option.map_eq_some_iff] at e
    obtain ⟨d2, e, e2⟩ := e
    cases e2
    obtain ⟨v, hv, r⟩ := (rs.append rc).get e
    exact ⟨v, by rw [← List.map_append, List.getElem?_map, hv]; rfl, r⟩⟩
end
section
variable {X : Cx} {Γ : Gz} {β : Bz} {CX : eu} {k : Nat} {f : Addr} {fd : FuncData} {ps : List Str} {E : XK} {E' : ZX} {x : Str} {p pos : Pos} {e : Expr} {es : List Expr} {za : eL} {P : Program} {w : World} {tb : cg} {K : PySem.W.Frag}
noncomputable def zCallL (f : Addr) (o : Obj) (c : Addr) (oc : Obj) (vcs : List V) (S : List Dv → cj) (E' : ZX) (i : Nat) (za : eL) : aS := fun ρ M Q => match ρ[i]? with
  | some (some (.bX f' o' c' zl wJ bB)) => (f' = f ∧ o' = o ∧ c' = c ∧ zl = oc ∧ wJ = vcs) ∧ za ρ M fun ds M1 => S bB ds M1 Q E'
  | _ => False
end
theorem Ex.ND {X : Cx} {P : Addr} {β : Bz} {M : Mh} {H H2 : Hp} {f c : Addr} {o oc : Obj} (m : Mz β M H) (hp : ∀ q ∈ β.tb.l, q.1 = P → q.2 = fK X) (n : Ic X P H H2 f o c oc) : Ex β M H M H2 := by
  obtain ⟨new, at', cd, lm, keep, ⟨ps, hP⟩⟩ := n
  obtain ⟨ps2, Im, _⟩ := id lm
  have nP : ∀ b u, H b = some u → (∀ ps, u ≠ .lam ps) → b ≠ P := fun b u e q z => by rw [z, hP] at e; cases e; exact q _ rfl
  have ey : Ey M H M H2 := ⟨fun b u _ e => by
    by_cases hb : b = P
    · subst hb
      rw [hP] at e; cases e
      exact .inr ⟨_, .inr (.inl ⟨ps, ps2, rfl, rfl⟩), Im⟩
    · exact .inl (keep b u e hb), fun _ h => h, fun _ _ h _ => h⟩
  refine ⟨ey, fun a u e => ?_, fun q hq => ?_, fun a ha => ?_, m.apart, fun q hq => ?_⟩
  · have z := m.obj a u e
    have k : ∀ u, H a = some u → L2.sN u = true → H2 a = some u := fun u h hu => keep a u h (nP a u h (by intro ps z; subst z; cases hu))
    cases u with
    | lst ds => obtain ⟨vs, z, l, r⟩ := z; exact ⟨vs, k _ z rfl, l, fun i v d a b => (r i v d a b).ey ey⟩
    | dk ks ds => obtain ⟨vs, z, hk, l, r⟩ := z; exact ⟨vs, k _ z rfl, hk, l, fun i v d a b => (r i v d a b).ey ey⟩
    | dt ks ds => obtain ⟨vs, z, hk, l, r⟩ := z; exact ⟨vs, k _ z rfl, hk, l, fun i v d a b => (r i v d a b).ey ey⟩
    | cY => obtain ⟨c, n, z, r⟩ := z; exact ⟨c, n, k _ z rfl, r⟩
  · obtain ⟨ps, e, t⟩ := m.tabs q hq
    exact ⟨ps, keep _ _ e (nP _ _ e (by intro ps z; cases z)), t⟩
  · obtain ⟨u, e, n⟩ := m.hids a ha
    exact ⟨u, keep _ _ e (nP _ _ e (by intro ps z; subst z; cases n)), n⟩
  · by_cases hb : q.1 = P
    · have : q = (P, fK X) := Prod.ext hb (hp q hq hb)
      rw [this]; exact lm
    · exact (m.lams q hq).keep (fun _ e => keep _ _ e hb) fun c' _ _ e => keep _ _ e (nP _ _ e (by intro ps z; cases z))
section
variable {X : Cx} {Γ : Gz} {β : Bz} {CX : eu} {k : Nat} {f : Addr} {fd : FuncData} {ps : List Str} {E : XK} {E' : ZX} {x : Str} {p pos wK : Pos} {e1 e2 : Expr} {rest : List Expr} {z1 z2 : aS} {zr : eL} {P : Program} {w : World} {tb : cg} {K : PySem.W.Frag}
noncomputable def gP : List Nat → ay → Option (List Dv)
  | [], _ => some []
  | i :: is, ρ => match ρ[i]?, gP is ρ with | some (some d), some ds => some (d :: ds) | _, _ => none
theorem vt {Γ : Gz} {M : Mh} {ρ : ay} {σ : St} {H : Hp} (z : Zr Γ β M ρ σ H) : ∀ {idx : List Nat} {bB : List Dv}, gP idx ρ = some bB → ∃ vcs, aN β M H vcs bB ∧ vcs.length = idx.length ∧ ∀ (j i : Nat) (v : V), idx[j]? = some i → vcs[j]? = some v → σ[i]? = some (some v)
  | [], bB, h => by cases h; exact ⟨[], .nil, rfl, fun j i v h => by simp at h⟩
  | i :: is, bB, h => by
    unfold gP at h
    split at h
    · rename_i d ds h1 h2
      cases h
      obtain ⟨v, hv, r⟩ := z.at' i d h1
      obtain ⟨vcs, rs, l, q⟩ := vt z h2
      refine ⟨v :: vcs, .cons r rs, by simp [l], fun j i' u a b => ?_⟩
      cases j with
      | zero => simp at a b; subst a b; exact hv
      | succ j => exact q j i' u (by simpa using a) (by simpa using b)
    · cases h
end
end L2
namespace L2
open PySem PySem.Spec PyProof.Rows
theorem zm {P : Program} {w : World} {K : PySem.W.Frag} {mg mb : Str → Option Value} {CX : eu} {k : Nat} {fa a : Addr} {fd : FuncData} {x : Str} {sp : Sp} {au : Shared} {vs : List Value} {ns : List Int} {tabs lts : List Addr}
    (KX : K.In au.heap) (fR : au.heap.Ns mainGlobals mg) (hb : au.heap.Ns builtinsNs mb) (PL : ∀ x : Str, x ≠ "__name__" → mb x = bootBuiltins x) (Io : au.heap.NoLimit) (hg : au.gens = #[])
    (ha : au.heap.get? a = some { cls := .type "list", data := .seq vs.toArray }) (hi : IntsAre vs ns) (hl : ns.length ≤ sizeLine) (hr : bC k callerA)
    (iU : ∀ p ∈ tabs ++ lts, au.heap.get? p = some (PySem.W.tabObj #[]) ∧ isCodeTable au.heap p) (NF : ∀ p ∈ tabs, p ∉ lts) (zo : PySem.W.kb_classed K = true) (dH : ∃ bm ob, BMod au.heap mainGlobals mg bm ob)
    (F : ∀ base : Heap, K.In base → base.Ns mainGlobals mg → (∃ bm ob, BMod base mainGlobals mg bm ob) → (∀ c p, PySem.W.CodeHd au.heap c p → PySem.W.CodeHd base c p) → FnOk P w K mg base CX k fa fd [x] sp)
    (Kn : ∀ (s : Shared) (u : Value), BindsTo s fd ⟨[u], []⟩ [(x, u)])
    (gV : ∀ H : Hp, (∀ p ∈ tabs, Tb p H) → (∀ p ∈ lts, H p = some (.lam #[])) → bI K H a (ns.map V.int) → sp [.ref a] H (fun v H' => v = .bl true ∧ ∀ p ∈ lts, ∃ ps, H' p = some (.lam ps)) fun _ _ _ => False)
    (Ip : ∀ H e s', CX [] H au (fun _ _ _ => False) e s' → False) :
    codeAny (model P w) callerA (.call (.ref fa) ⟨[.ref a], []⟩) (fun r s' => r = .ok (.ret (.bool true)) ∧ OldK au.heap s'.heap ∧ s'.os = au.os ∧ AllBare s'.gens) au := by
  have rv := p8 hi
  have NI := hi.length
  have iS : a ∉ tabs ++ lts := fun z => by
    have e := (iU a z).1
    rw [ha] at e
    cases e
  have core : ∀ H : Hp, (∀ b u, H b = some u → (b = a ∧ ∃ o xs, u = .cU o (.lst xs)) ∨ (b ∈ tabs ++ lts ∧ (u = .cu #[] ∧ b ∈ tabs ∨ u = .lam #[] ∧ b ∈ lts))) → (∀ p ∈ tabs, H p = some (.cu #[])) → (∀ p ∈ lts, H p = some (.lam #[])) → bI K H a (ns.map V.int) → di P w H au.heap → (H a ≠ none → K.lookup a = none) →
      codeAny (model P w) callerA (.call (.ref fa) ⟨[.ref a], []⟩) (fun r s' => r = .ok (.ret (.bool true)) ∧ OldK au.heap s'.heap ∧ s'.os = au.os ∧ AllBare s'.gens) au := by
    intro H hO PN PQ hS hok hK
    have mx : ∀ {b : Addr} {o : Obj}, au.heap.get? b = some o → H b = none → (iL au.heap H).get? b = some o := fun e n => An e n
    have no : ∀ {b : Addr} {o : Obj}, au.heap.get? b = some o → (∀ n, o.data ≠ .seq vs.toArray n) → o ≠ PySem.W.tabObj #[] → H b = none := fun {b o} e d1 d2 => by
      cases q : H b with
      | none => rfl
      | some u =>
        rcases hO b u q with ⟨e', _⟩ | ⟨cc, _⟩
        · subst e'
          rw [ha] at e; cases e
          exact absurd rfl (d1 _)
        · rw [(iU b cc).1] at e
          exact absurd (Option.some.inj e).symm d2
    have PR : ∀ {b : Addr} {o : Obj} {es : Array DictEntry} {ep : Nat}, au.heap.get? b = some o → o.data = .dict es ep → H b = none := fun {b o es ep} e d => no e (fun n z => by rw [d] at z; cases z) fun z => by rw [z] at d; cases d
    have zp : ∀ {b : Addr} {m : Str → Option Value}, au.heap.Ns b m → (iL au.heap H).Ns b m := fun {b m} hS => by obtain ⟨o, es, ep, e, d, r⟩ := hS; exact ⟨o, es, ep, mx e (PR e d), d, r⟩
    have LZ : K.In (iL au.heap H) := fun b o e => mx (KX b o e) (by
      cases q : H b with
      | none => rfl
      | some u =>
        rcases hO b u q with ⟨e', _⟩ | ⟨cc, _⟩
        · subst e'
          rw [hK (by rw [q]; simp)] at e; cases e
        · have e1 := KX b o e
          have e2 := (iU b cc).1
          rw [e1] at e2
          have e3 : o = PySem.W.tabObj #[] := Option.some.inj e2
          have q2 := List.all_eq_true.mp zo (b, o) (PySem.W.kb_mem e)
          simp only [Bool.or_eq_true, decide_eq_true_eq, beq_iff_eq] at q2
          rcases q2 with (q2 | q2) | q2
          · rw [e3] at q2; exact absurd rfl q2
          · obtain ⟨mc, ⟨oc, es, ep, ho, hd, _⟩, _⟩ := Io
            rw [← q2, e1] at ho
            cases ho
            rw [e3] at hd; cases hd
          · obtain ⟨oc, es, ep, ho, hd, _⟩ := id fR
            rw [← q2, e1] at ho
            cases ho
            rw [e3] at hd; cases hd)
    have hM : Mod K mg (iL au.heap H) := ⟨LZ, zp fR, ⟨mb, zp hb, PL⟩, let ⟨mc, h1, h2⟩ := Io; ⟨mc, zp h1, h2⟩⟩
    have hB : ∃ bm ob, BMod (iL au.heap H) mainGlobals mg bm ob := by
      obtain ⟨bm, ob, B⟩ := dH
      exact ⟨bm, ob, zp B.ns, B.name, B.ne, mx B.obj (no B.obj (fun n z => by rw [B.data] at z; cases z) fun z => by have := B.data; rw [z] at this; cases this), B.cls, B.dict, B.data⟩
    have hC : ∀ c p, PySem.W.CodeHd au.heap c p → PySem.W.CodeHd (iL au.heap H) c p := fun c p ⟨o, yU, file, tf, flags, tg, Iq, text, tt, e1, e2, e3, r⟩ =>
      ⟨o, yU, file, tf, flags, tg, Iq, text, tt, mx e1 (no e1 (fun n z => by rw [e3] at z; cases z) fun z => by rw [z] at e2; cases e2), e2, e3, r⟩
    have e0 : kW P w K mg (iL au.heap H) callerA [] au H := ⟨rfl, hM, fun b o e => DB e, Nat.le_of_eq (xt _ _), trivial, fun b hb => absurd (show b ∈ ([] : List Addr) from hb) (by simp), hok, .of_eq hg⟩
    refine codeAny_mono ((F _ LZ (zp fR) hB hC).run callerA [] au H ⟨[.ref a], []⟩ [.ref a] [.ref a] _ _ hr e0 (Kn au (.ref a)) (.cons rfl .nil) (gV H (fun p hp => ⟨#[], PN p hp, trivial⟩) PQ hS)) fun r s' h => ?_
    cases r with
    | error e => exact (Ip H e s' h).elim
    | ok fl =>
      cases fl with
      | next => exact False.elim h
      | brk => exact False.elim h
      | cont => exact False.elim h
      | ret u =>
        obtain ⟨v, H', os, bare, un, Bu, r', q⟩ := h
        obtain ⟨q', qL⟩ := q
        subst q'
        obtain rfl : u = Value.bool true := r'
        have all : ∀ b o, au.heap.get? b = some o → asItWas au.heap s'.heap b o ∧ ∃ o', s'.heap.get? b = some o' := fun b o e => by
          cases q : H b with
          | none =>
            have := un.keep b o e q (by intro z; exact absurd (show b ∈ ([] : List Addr) from z) (by simp)) (by simp)
            exact ⟨.inl this, _, this⟩
          | some u =>
            rcases hO b u q with ⟨_, ob, xs, z⟩ | ⟨cc, z⟩
            · subst z
              have z2 := un.frzs b ob _ q
              obtain ⟨e1, _⟩ := hok b _ q
              obtain ⟨e2, _⟩ := Bu b _ z2
              rw [e] at e1; cases e1
              exact ⟨.inl e2, _, e2⟩
            · have e2 : ∃ more, s'.heap.get? b = some { cls := .none, data := .fields (#[] ++ more) } := by
                rcases z with ⟨z, _⟩ | ⟨z, CT⟩
                · subst z
                  obtain ⟨more, z2⟩ := un.tbls b #[] q
                  exact ⟨more, Bu b _ z2⟩
                · obtain ⟨ps, z2⟩ := qL b CT
                  refine ⟨ps, ?_⟩
                  have := Bu b _ z2
                  rw [show (#[] : Array Value) ++ ps = ps by simp]
                  exact this
              obtain ⟨more, e2⟩ := e2
              have e1 := (iU b cc).1
              rw [e] at e1
              obtain rfl : o = PySem.W.tabObj #[] := Option.some.inj e1
              exact ⟨.inr (.inl ⟨(iU b cc).2, rfl, #[], more, rfl, e2⟩), _, e2⟩
        exact ⟨rfl, ⟨fun b o e => (all b o e).1, fun b o e => (all b o e).2⟩, os, bare.1⟩
  have Ir : ∀ p ∈ tabs ++ lts, ∀ H : Hp, ∀ u, (u = .cu #[] ∧ p ∈ tabs ∨ u = .lam #[] ∧ p ∈ lts) → bw P w H au.heap p u := fun p hp H u hu => by
    rcases hu with ⟨rfl, _⟩ | ⟨rfl, _⟩ <;> exact (iU p hp).1
  let T : Hp := fun b => if b ∈ lts then some (.lam #[]) else if b ∈ tabs then some (.cu #[]) else none
  have T1 : ∀ b u, T b = some u → b ∈ tabs ++ lts ∧ (u = .cu #[] ∧ b ∈ tabs ∨ u = .lam #[] ∧ b ∈ lts) := fun b u z => by
    by_cases h1 : b ∈ lts
    · have z' := (show T b = _ from if_pos h1).symm.trans z
      cases z'
      exact ⟨List.mem_append_right _ h1, .inr ⟨rfl, h1⟩⟩
    · by_cases h2 : b ∈ tabs
      · have z' := (show T b = _ from (if_neg h1).trans (if_pos h2)).symm.trans z
        cases z'
        exact ⟨List.mem_append_left _ h2, .inl ⟨rfl, h2⟩⟩
      · have z' := (show T b = _ from (if_neg h1).trans (if_neg h2)).symm.trans z
        cases z'
  have T2 : ∀ p ∈ tabs, T p = some (.cu #[]) := fun p hp => (if_neg (NF p hp)).trans (if_pos hp)
  have T3 : ∀ p ∈ lts, T p = some (.lam #[]) := fun p hp => if_pos hp
  have Ta : T a = none := (if_neg fun z => iS (List.mem_append_right _ z)).trans (if_neg fun z => iS (List.mem_append_left _ z))
  cases hk : K.lookup a with
  | some o =>
    have e := KX a o hk
    rw [ha] at e
    cases e
    exact core T (fun b u z => .inr (T1 b u z)) T2 T3 (.inr ⟨_, vs.toArray, _, hk, rfl, rfl, rfl, by rw [List.size_toArray, NI]; exact hl, by simpa using rv⟩) (fun b u z => Ir b (T1 b u z).1 _ u (T1 b u z).2) fun z => absurd Ta z
  | none =>
    have na : ∀ p ∈ tabs ++ lts, p ≠ a := fun p hp z => iS (z ▸ hp)
    refine core (upd T a (.cU { cls := .type "list", data := .seq vs.toArray } (.lst (ns.map V.int)))) (fun b u z => ?_) (fun p hp => by rw [ak (na p (List.mem_append_left _ hp))]; exact T2 p hp) (fun p hp => by rw [ak (na p (List.mem_append_right _ hp))]; exact T3 p hp) (.inl (.inr ⟨_, aC⟩)) (fun b u z => ?_) fun _ => hk
    · by_cases hb : b = a
      · subst hb
        rw [aC] at z
        cases z
        exact .inl ⟨rfl, _, _, rfl⟩
      · rw [ak hb] at z
        exact .inr (T1 b u z)
    · by_cases hb : b = a
      · subst hb
        rw [aC] at z
        cases z
        exact ⟨ha, by rw [List.length_map]; exact hl, vs, _, rv, ha⟩
      · rw [ak hb] at z
        exact Ir b (T1 b u z).1 _ u (T1 b u z).2
noncomputable def rq (K : PySem.W.Frag) (x : Str) : Option Addr := match PySem.W.nsIn K mainGlobals x with
  | some (some (.ref f)) => (match K.lookup f with
    | some ⟨_, _, .func fd, _⟩ => (match fd.code with
      | .ref c => (match K.lookup c with
        | some ⟨_, _, .fields vs, _⟩ => (match vs[11]? with | some (Value.ref p) => some p | _ => none)
        | _ => none)
      | _ => none)
    | _ => none)
  | _ => none
noncomputable abbrev TabOf (mg : Str → Option Value) (h : Heap) (y : Str) (p : Addr) : Prop := ∃ f o fd c, mg y = some (.ref f) ∧ h.get? f = some o ∧ o.data = .func fd ∧ fd.code = .ref c ∧ PySem.W.CodeHd h c p
theorem tq {K : PySem.W.Frag} {mg : Str → Option Value} {h : Heap} {y : Str} {p q : Addr} (X : K.In h) (G : h.Ns mainGlobals mg) (t : TabOf mg h y p) (e : rq K y = some q) : p = q := by
  obtain ⟨f, o, fd, c, e1, e2, e3, e4, oc, vs, _, _, _, _, _, _, _, g1, _, g3, g4, _⟩ := t
  unfold rq at e
  split at e
  · rename_i f' fR
    have := (PySem.W.mg_of X G fR).symm.trans e1
    cases this
    split at e
    · rename_i zl Q4 G0 La PU
      have := (X _ _ PU).symm.trans e2
      cases this
      cases e3
      rw [e4] at e
      dsimp only at e
      split at e
      · rename_i a1 a2 yU a3 PV
        have := (X _ _ PV).symm.trans g1
        cases this
        cases g3
        rw [g4] at e
        cases e
        rfl
      · cases e
    · cases e
  · cases e
noncomputable def pj (K : PySem.W.Frag) (gs ls : List Str) : Bool := gs.all fun x => ls.all fun y => match rq K x, rq K y with | some p, some q => decide (p ≠ q) | _, _ => false
theorem vv {α β : Type} {F : α → β → Prop} {l : List α} {m : List β} (h : Paired F l m) {b : β} (hb : b ∈ m) : ∃ a ∈ l, F a b := by
  induction h with
  | nil => simp at hb
  | cons x t ih =>
    rcases List.mem_cons.mp hb with e | e
    · subst e; exact ⟨_, List.mem_cons_self, x⟩
    · obtain ⟨a, ha, q⟩ := ih e
      exact ⟨a, List.mem_cons_of_mem _ ha, q⟩
theorem Bv {K : PySem.W.Frag} {mg : Str → Option Value} {h : Heap} {gs ls : List Str} {tabs lts : List Addr} (X : K.In h) (G : h.Ns mainGlobals mg) (d : pj K gs ls = true) (t1 : Paired (TabOf mg h) gs tabs) (t2 : Paired (TabOf mg h) ls lts) : ∀ p ∈ tabs, p ∉ lts := fun p hp hq => by
  obtain ⟨x, hx, tx⟩ := vv t1 hp
  obtain ⟨y, hy, ty⟩ := vv t2 hq
  have := List.all_eq_true.mp (List.all_eq_true.mp d x hx) y hy
  split at this
  · rename_i p' q' e1 e2
    have a := tq X G tx e1
    have b := tq X G ty e2
    exact (of_decide_eq_true this) (a.symm.trans b)
  · cases this
theorem Bw {l : PySem.W.OpenLaw} {n k : Nat} {q : Program} {loose : List Str} {XP : (Str → Option Value) → Heap → Prop} {YP : World → Heap → Prop} {d : DefRec} {K : Params → PySem.W.Frag} {CX : eu} {sp : PySem.W.Frag → List Addr → List Addr → Sp} {x : Str} {kJ zq : List Str}
    (hn : l.most = some n) (qI : n ≤ sizeLine) (ye : d.params.defaults = []) (hr : bC k callerA) (zo : ∀ w : World, PySem.W.kb_classed (K w.params) = true)
    (Dd : ∀ y ∈ kJ ++ zq, ∃ r ∈ recsOf q, r.name = y) (mL : ∀ w : World, pj (K w.params) kJ zq = true)
    (hY : ∀ (w : World) (h : Heap), YP w h → (K w.params).In h)
    (F : ∀ (w : World) (mg : Str → Option Value) (fa : Addr) (h : Heap) (tabs lts : List Addr), (K w.params).In h → h.Ns mainGlobals mg → mg d.name = some (.ref fa) →
      Paired (TabOf mg h) kJ tabs → Paired (TabOf mg h) zq lts →
      ∃ fd : FuncData, (∀ (s : Shared) (u : Value), BindsTo s fd ⟨[u], []⟩ [(x, u)]) ∧
        ∀ base : Heap, (K w.params).In base → base.Ns mainGlobals mg → (∃ bm ob, BMod base mainGlobals mg bm ob) → (∀ c p, PySem.W.CodeHd h c p → PySem.W.CodeHd base c p) → FnOk l.prog w (K w.params) mg base CX k fa fd [x] (sp (K w.params) tabs lts))
    (gV : ∀ (K : PySem.W.Frag) (tabs lts : List Addr) (H : Hp) (a : Addr) (ns : List Int), lts.length = zq.length → ns.length ≤ n → (∀ p ∈ tabs, Tb p H) → (∀ p ∈ lts, H p = some (.lam #[])) → bI K H a (ns.map V.int) → sp K tabs lts [.ref a] H (fun v H' => v = .bl true ∧ ∀ p ∈ lts, ∃ ps, H' p = some (.lam ps)) fun _ _ _ => False)
    (Ip : ∀ (H : Hp) (s : Shared) (e : Value) (s' : Shared), CX [] H s (fun _ _ _ => False) e s' → False) :
    PySem.W.WalkO q loose XP YP l.row.toRowW d [] (fun f vs => PySem.call f vs) := by
  refine Lj.t6 hn ye fun w s₀ au mg mb fa o pm cd doc a vs ns G Y ho hd dM yf gD hints hlen hg => ?_
  have KX := hY w _ Y
  have tb : ∀ kJ : List Str, (∀ y ∈ kJ, ∃ r ∈ recsOf q, r.name = y) → ∃ tabs, Paired (TabOf mg au.heap) kJ tabs ∧ ∀ p ∈ tabs, au.heap.get? p = some (PySem.W.tabObj #[]) ∧ isCodeTable au.heap p := by
    intro kJ
    induction kJ with
    | nil => intro _; exact ⟨[], .nil, fun p hp => absurd hp (by simp)⟩
    | cons y r ih =>
      intro hm
      obtain ⟨tabs, h1, h2⟩ := ih fun z hz => hm z (List.mem_cons_of_mem _ hz)
      obtain ⟨rr, PX, e⟩ := hm y List.mem_cons_self
      obtain ⟨f, o', fd, c, p, a1, a2, a3, a4, a5, a6⟩ := G.T.tab rr PX
      rw [e] at a1
      refine ⟨p :: tabs, .cons ⟨f, o', fd, c, a1, a2, a3, a4, .of a5 a6⟩ h1, fun z hz => ?_⟩
      rcases List.mem_cons.mp hz with rfl | hz
      · exact ⟨a6.2, a6.isCodeTable⟩
      · exact h2 z hz
  obtain ⟨tabs, t1, t2⟩ := tb kJ fun y hy => Dd y (List.mem_append_left _ hy)
  obtain ⟨lts, u1, u2⟩ := tb zq fun y hy => Dd y (List.mem_append_right _ hy)
  obtain ⟨fd, hb, hF⟩ := F w mg fa _ tabs lts KX G.T.g yf t1 u1
  exact zm (lts := lts) KX G.T.g G.T.b G.T.builtins G.T.nolimit hg gD hints (Nat.le_trans hlen qI) hr (fun p hp => (List.mem_append.mp hp).elim (t2 p) (u2 p)) (Bv KX G.T.g (mL w) t1 u1) (zo w) (PySem.W.bmod_of_top G.T) hF hb (fun H hO hL hS => gV _ tabs lts H a ns (Paired.length u1).symm hlen hO hL hS) fun H e s' => Ip H au e s'
noncomputable abbrev lM (K : PySem.W.Frag) (x : Str) (st : Stmt) (dv : Value) : Prop :=
  ∃ (f : Addr) (oc : Value) (od : Option Addr) (sl : Array (Option Value)) (T : Addr) (oT : Obj) (nT : Nat) (kV dc pm : Value) (an : Option Addr) (cd ct : Value),
    PySem.W.nsIn K mainGlobals x = some (some (.ref f)) ∧ K.lookup f = some ⟨oc, od, .func (PySem.W.fnOf x x (cz st) (bD st) (ai st) (.ref T) kV dc pm an cd ct), sl⟩ ∧ PySem.W.codeIn K cd x = true ∧ PySem.W.keepIn K (.ref f) = true ∧ K.lookup T = some oT ∧ oT.data = .seq #[dv] nT
theorem zt {K : PySem.W.Frag} {x : Str} {st : Stmt} {dv : Value} {f : Addr} {oc : Value} {od : Option Addr} {sl : Array (Option Value)} {T : Addr} {oT : Obj} {nT : Nat} {kV dc pm : Value} {an : Option Addr} {cd ct : Value} (a : PySem.W.nsIn K mainGlobals x = some (some (.ref f)))
    (l : K.lookup f = some ⟨oc, od, .func (PySem.W.fnOf x x (cz st) (bD st) (ai st) (.ref T) kV dc pm an cd ct), sl⟩) (c : PySem.W.codeIn K cd x = true) (k : PySem.W.keepIn K (.ref f) = true) (t : K.lookup T = some oT) (u : oT.data = .seq #[dv] nT) : lM K x st dv := ⟨f, oc, od, sl, T, oT, nT, kV, dc, pm, an, cd, ct, a, l, c, k, t, u⟩
theorem lM.df {K : PySem.W.Frag} {mg : Str → Option Value} {h : Heap} {x : Str} {st : Stmt} {dv : Value} (d : lM K x st dv) (X : K.In h) (G : h.Ns mainGlobals mg) (ps : List Str)
    (hb : ∀ (T : Addr) (kV doc pm : Value) (an : Option Addr) (bK ct : Value) (us : List Value), us.length + 1 = ps.length → ∃ k, bindArgs (PySem.W.fnOf x x (cz st) (bD st) (ai st) (.ref T) kV doc pm an bK ct) ⟨us, []⟩ = seqItems? (.ref T) >>= k ∧ k (some #[dv]) = pure (ps.zip (us ++ [dv])))
    (CU : ∀ (T : Addr) (kV doc pm : Value) (an : Option Addr) (bK ct : Value) (us : List Value), us.length = ps.length → ∃ k, bindArgs (PySem.W.fnOf x x (cz st) (bD st) (ai st) (.ref T) kV doc pm an bK ct) ⟨us, []⟩ = seqItems? (.ref T) >>= k ∧ k (some #[dv]) = pure (ps.zip us)) :
    ∃ f fd, PK K mg x st ps [dv] f fd := by
  obtain ⟨f, oc, od, sl, T, oT, nT, kV, dc, pm, an, cd, ct, a, l, c, k, t, u⟩ := d
  refine ⟨f, _, ⟨oc, od, .ref T, kV, dc, pm, an, cd, ct, sl, rfl, l, c⟩, k, fun s us hK hl => ?_, fun s us hK hl => ?_, PySem.W.mg_of X G a⟩
  · obtain ⟨kk, h1, h2⟩ := hb T kV dc pm an cd ct us (by rw [List.length_append] at hl; exact hl)
    exact PySem.W.binds_K hK rfl t u h1 h2
  · rw [List.append_nil] at hl ⊢
    obtain ⟨kk, h1, h2⟩ := CU T kV dc pm an cd ct us hl
    exact PySem.W.binds_K hK rfl t u h1 h2
theorem By {K : PySem.W.Frag} {tabs lts : List Addr} {qs : List Str} {H : Hp} {a : Addr} {ns : List Int} (hl : lts.length = qs.length) (hn : ns.length ≤ 63) (hT : ∀ p ∈ tabs, Tb p H) (hL : ∀ p ∈ lts, H p = some (.lam #[])) (hS : bI K H a (ns.map V.int)) :
    spLaw K ⟨tabs, lts.zip qs⟩ [.ref a] H (fun v H' => v = .bl true ∧ ∀ p ∈ lts, ∃ ps, H' p = some (.lam ps)) fun _ _ _ => False :=
  ⟨a, ns, rfl, hS, hn, hT, fun p hp => ⟨#[], hL p.1 (List.of_mem_zip hp).1, trivial, fun pos cv e => nomatch e⟩, fun H' h => ⟨rfl, fun p hp => by
    obtain ⟨i, hi⟩ := List.mem_iff_getElem?.mp hp
    have h1 := (List.getElem?_eq_some_iff.mp hi).1
    exact h (p, qs[i]) (List.mem_of_getElem? (i := i) (List.getElem?_zip_eq_some.mpr ⟨hi, List.getElem?_eq_getElem (by omega)⟩))⟩⟩
theorem zu {K : PySem.W.Frag} {x : Str} {st : Stmt} {i : Int} {tk : Tok} {f : Addr} {oc : Value} {od : Option Addr} {sl : Array (Option Value)} {T : Addr} {oT : Obj} {nT : Nat} {kV dc pm : Value} {an : Option Addr} {cd ct : Value} (a : PySem.W.nsIn K mainGlobals x = some (some (.ref f)))
    (l : K.lookup f = some ⟨oc, od, .func (PySem.W.fnOf x x (cz st) (bD st) (ai st) (.ref T) kV dc pm an cd ct), sl⟩) (c : PySem.W.codeIn K cd x = true) (k : PySem.W.keepIn K (.ref f) = true) (t : K.lookup T = some oT) (u : oT.data = .seq #[.int i tk] nT) : ∃ tk, lM K x st (.int i tk) := ⟨tk, zt a l c k t u⟩
end L2
namespace L2
open PySem PySem.Spec PySem.W PyProof.Rows
theorem BA : fillsNumberSlot (.type "tuple") "mul" = pure false :=
  PySem.fillsNumberSlot_seq (r := some (.builtin "tuple.__rmul__")) F.slot_tuple_mul.lookup (by decide +kernel) F.slot_tuple_rmul.lookup (by decide +kernel)
theorem Ko : seqRepeat? (.type "tuple") = pure (some (.builtin "tuple.__mul__")) := by
  unfold seqRepeat?
  rw [PySem.seqSlot_of (T := "tuple") (name := "__mul__") (id := "tuple.__mul__") F.slot_tuple_mul.lookup (by decide +kernel), PySem.seqSlot_of (T := "tuple") (name := "__rmul__") (id := "tuple.__rmul__") F.slot_tuple_rmul.lookup (by decide +kernel)]
  rfl
theorem Kp (a : Int) (t : Tok) (l : Addr) (items : Array Value) (n : Nat) (sl : Array (Option Value)) :
    Meets (Builtin.«int.__rmul__» ⟨[.int a t, .ref l], []⟩) (fun _ R s => s.heap.get? l = some { cls := .type "tuple", dict := none, data := .seq items n, slots := sl } ∧ R (.ok (.ret Value.notImplemented)) s) :=
  .of_wp fun prog w A R s h => by obtain ⟨hp, g, d, tk, os⟩ := s; obtain ⟨hl, h⟩ := h; wp_walk; exact ⟨_, rfl, h⟩
theorem qJ (its : List Value) (m : Nat) : List.foldl (fun x1 x2 => x1 ++ x2) #[] (List.replicate m its.toArray) = (List.replicate m its).flatten.toArray := by
  have := foldl_rep its m []
  rw [List.nil_append] at this
  exact this
theorem NK (l : Addr) (its : List Value) (n : Nat) (sl : Array (Option Value)) (x : Int) (u : Tok) (h1 : 2 ≤ x) (h2 : x < 1000) (dY : its ≠ []) (hz : its.length * x.toNat ≤ 10000) :
    Meets (Builtin.«tuple.__mul__» ⟨[.ref l, .int x u], []⟩) (fun _ R s => s.heap.get? l = some { cls := .type "tuple", dict := none, data := .seq its.toArray n, slots := sl } ∧
      R (.ok (.ret (Value.ref s.heap.objs.size))) { s with heap := s.heap.push { cls := Value.type "tuple", data := Data.seq (List.replicate x.toNat its).flatten.toArray }, toks := s.toks }) :=
  .of_wp fun prog w A R s h => by
    obtain ⟨hp, g, d, tk, os⟩ := s; obtain ⟨hl, h⟩ := h
    have f1 := PySem.AutoSeq1.idx_int
    have hs : its.toArray.size = its.length := by simp
    have qI : its.toArray.isEmpty = false := by cases its with | nil => exact absurd rfl dY | cons a b => rfl
    have e : ((its.length * x.toNat : Nat) : Int) = (its.toArray.size : Int) * x := by rw [hs, Int.natCast_mul, Int.toNat_of_nonneg (by omega)]
    have c0 : ¬ (decide (x < -(2 ^ 63)) || decide (x ≥ 2 ^ 63)) = true := by simp; omega
    have c1 : ¬ (its.toArray.isEmpty || x == 1) = true := by rw [qI]; simp; omega
    have c2 : ¬ (decide (x ≤ 0) || its.toArray.isEmpty) = true := by rw [qI]; simp; omega
    have c3 : ¬ (its.toArray.size : Int) * x > (2 ^ 63 - 1) / 8 := by rw [← e]; omega
    have c4 : ¬ Builtin.Tuple.tupleTooMany ((its.toArray.size : Int) * x) = true := by rw [← e]; unfold Builtin.Tuple.tupleTooMany; simp only [decide_eq_true_eq, show sizeLine = 16777216 from rfl]; omega
    have c5 : ¬ (List.foldl (fun x1 x2 => x1 ++ x2) #[] (List.replicate x.toNat its.toArray)).size > sizeLine := by
      rw [qJ, List.size_toArray, len_rep, Nat.mul_comm, show sizeLine = 16777216 from rfl]; omega
    wp_walk using wpAny_loadPart' hl
    rw [if_neg c0]
    wp_walk using wpAny_loadPart' hl
    rw [if_neg c1]
    wp_walk using wpAny_loadPart' hl
    rw [if_neg c2]
    wp_walk using wpAny_loadPart' hl
    rw [if_neg c3]
    wp_walk using wpAny_loadPart' hl
    rw [if_neg c4]
    wp_walk using wpAny_loadPart' hl
    rw [qJ]
    exact ⟨_, rfl, h⟩
section
variable {X : Cx} {Γ : Gz} {K : PySem.W.Frag}
noncomputable def Kq : R2 := fun x y H Q => ∃ l k xs, x = .ref l ∧ y = .int k ∧ H l = some (.tup xs) ∧ xs ≠ [] ∧ 2 ≤ k ∧ k < 1000 ∧ xs.length * k.toNat ≤ 10000 ∧ ∀ p, H p = none → Q (.ref p) (upd H p (.tup (List.replicate k.toNat xs).flatten))
theorem EF : OpR X (binaryOp .Mult) Kq := by
  intro pins s σ H x y v u Q I rx ry h
  obtain ⟨l, k, xs, rfl, rfl, hH, dY, h1, h2, hz, q⟩ := h
  cases rx
  obtain ⟨t, rfl⟩ := ry
  obtain ⟨z, its, r, o, e, c, n, d, hd⟩ := I.hok l _ hH
  obtain ⟨oc, od, Qz, gh⟩ := o
  simp only at c d hd
  subst c d hd
  have hl := r.length
  refine wpAny_binaryOp_repeat_ref (T := "tuple") (U := "int") (by decide) ⟨_, e, rfl⟩ (fun s' => typeIs_int s' k t) BA F.fills_int_mul F.slot_int_rmul Ko F.slot_int_index.lookup
    (call_meets F.slot_int_rmul (typeIs_int s k t) F.entry_int_rmul (F.args_int_rmul_2 _ _) (Kp k t l its.toArray n gh)
      ⟨e, rfl, ⟨_, e, rfl⟩, call_meets F.slot_tuple_mul ⟨_, e, rfl⟩ F.entry_tuple_mul (F.args_tuple_mul_2 _ _) (NK l its n gh k t h1 h2 (fun w => dY (r.jN.mp w)) (by rw [← hl]; exact hz)) ⟨e, ?_⟩⟩)
  refine ⟨.ref s.heap.objs.size, _, I.laid (t' := s.toks) (o := .tup (List.replicate k.toNat xs).flatten) (fun b ob q => Heap.get?_push_of_some _ q) (Nat.le_refl _) ?_, rfl, q _ (I.hok.fresh (Nat.le_refl _))⟩
  exact ⟨by rw [len_rep, Nat.mul_comm, show sizeLine = 16777216 from rfl]; omega, _, r.rep k.toNat, hV.new _ _⟩
noncomputable def zRepT : dQ := fun d e M Q => match d, e with | .tup ds, .int k => (ds ≠ [] ∧ 2 ≤ k ∧ k < 1000 ∧ ds.length * k.toNat ≤ 10000) ∧ Q (.tup (List.replicate k.toNat ds).flatten) M | _, _ => False
theorem aN.rep {β : Bz} {M : Mh} {H : Hp} {vs : List V} {ds : List Dv} (r : aN β M H vs ds) : ∀ k : Nat, aN β M H (List.replicate k vs).flatten (List.replicate k ds).flatten
  | 0 => ⟨rfl, fun i v d h => by simp at h⟩
  | k + 1 => by rw [List.replicate_succ, List.replicate_succ, List.flatten_cons, List.flatten_cons]; exact r.append (aN.rep r k)
theorem Iu : eO Γ X (binaryOp .Mult) zRepT := ⟨_, EF, fun β x y d e M H Q Q' _ _ _ m rx ry z q => by
  unfold zRepT at z
  split at z
  · rename_i ds k
    obtain ⟨a, vs, rfl, f, ha, rs⟩ := cw rx
    obtain ⟨⟨z0, z1, z2, z3⟩, z4⟩ := z
    refine ⟨a, _, vs, rfl, aL ry, ha, fun w => z0 (by have := rs.len; rw [w] at this; exact List.eq_nil_of_length_eq_zero this.symm), z1, z2, by rw [rs.len]; exact z3, fun p hp => ?_⟩
    have x2 := Ex.lay m hp (.tup (List.replicate k.toNat vs).flatten)
    exact q _ _ _ _ x2 (fv (m.fz hp) aC ((rs.rep _).ex x2)) z4
  · exact z.elim⟩
noncomputable def zRepL : dQ := fun d e M Q => match d, e with | .lst ds, .int k => (-(2 ^ 63) ≤ k ∧ k < 2 ^ 63 ∧ ds.length * k.toNat ≤ sizeLine) ∧ Q (.lst (List.replicate k.toNat ds).flatten) M | _, _ => False
noncomputable def zCatLD : dQ := fun d e M Q => match d, e with | .lst ds, .lst es => ds.length + es.length ≤ sizeLine ∧ Q (.lst (ds ++ es)) M | _, _ => False
theorem g8 (hK : X.K = K) : eO Γ X (binaryOp .Add) zCatLD := ⟨_, ya, fun β x y d e M H Q Q' _ _ _ m rx ry z q => by
  unfold zCatLD at z
  split at z
  · obtain ⟨a, vs, rfl, f, ha, rs⟩ := dn rx
    obtain ⟨b, us, rfl, f2, hb, cC⟩ := dn ry
    refine ⟨a, b, vs, us, rfl, rfl, ha, hb, by rw [rs.len, cC.len]; exact z.1, fun p hp => ?_⟩
    have x2 := Ex.lay m hp (.lst (vs ++ us))
    exact q _ _ _ _ x2 (lx (m.fz hp) aC ((rs.append cC).ex x2)) z.2
  · exact z.elim⟩
open Classical in
theorem EG {pins : List (Addr × Obj)} {σ : St} {H : Hp} {s : Shared} (I : Inv X pins σ H s) {x : V} {v : Value} {d : Dt} {xs : List V} {ds : List Dt} {its : List Value} (rx : RelV x v) (hx : da H x d) (rv : Vals xs its) (hl : xs.length = ds.length)
    (iS : ∀ (i : Nat) (v : V) (t : Dt), xs[i]? = some v → ds[i]? = some t → da H v t) (zv : ∀ t ∈ ds, fU t ≤ 60) (hu : X.A.units + 64 < cLine) :
    ∃ e : Value → Bool, (∀ y ∈ its, SeqAt.EqAt X.A.in1 s y v (e y)) ∧ ∀ (i : Nat) (y : Value) (t : Dt), its[i]? = some y → ds[i]? = some t → e y = cf t d := by
  have u9 := rv.length
  let e : Value → Bool := fun y => decide (∃ (i : Nat) (t : Dt), its[i]? = some y ∧ ds[i]? = some t ∧ cf t d = true)
  have key : ∀ (i : Nat) (y : Value) (t : Dt), its[i]? = some y → ds[i]? = some t → e y = cf t d := fun i y t hi ht => by
    cases hE : cf t d with
    | true => exact decide_eq_true ⟨i, t, hi, ht, hE⟩
    | false =>
      refine decide_eq_false fun ⟨j, t', hj, PY, he⟩ => ?_
      obtain ⟨a, ha, ra⟩ := iw rv hi
      obtain ⟨b, hb, rb⟩ := iw rv hj
      have PZ := ra.inj rb
      subst PZ
      have := (iS i a t ha ht).inj (iS j a t' hb PY)
      subst this
      rw [he] at hE
      cases hE
  refine ⟨e, fun y hy => ?_, key⟩
  obtain ⟨i, hi⟩ := List.mem_iff_getElem?.mp hy
  obtain ⟨a, ha, ra⟩ := iw rv hi
  have L6 : i < ds.length := by
    have := (List.getElem?_eq_some_iff.mp ha).1
    omega
  have ht := List.getElem?_eq_getElem L6
  rw [key i y _ hi ht]
  refine lr I (iS i a _ ha ht) hx ra rx ?_
  have := zv _ (List.getElem_mem L6)
  have : X.A.in1.units = X.A.units + 1 := rfl
  omega
noncomputable def pq (ts : List Dt) (d : Dt) (j : Nat) : Prop := (∃ t, ts[j]? = some t ∧ cf t d = true) ∧ ∀ m t, m < j → ts[m]? = some t → cf t d = false
noncomputable def EH : V → List V → Hp → VK → Prop := fun x vs H Q => ∃ (p : Addr) (xs : List V) (v : V) (d : Dt) (ds : List Dt) (j : Nat), x = .ref p ∧ vs = [v] ∧ H p = some (.lst xs) ∧ da H v d ∧ xs.length = ds.length ∧ (∀ (i : Nat) (v : V) (t : Dt), xs[i]? = some v → ds[i]? = some t → da H v t) ∧
  (∀ t ∈ ds, fU t ≤ 60) ∧ pq ds d j ∧ j < 16777216 ∧ Q (.int (j : Nat)) H
theorem zx (hu : X.A.units + 64 < cLine) : xY X "list.index" EH := by
  intro pins s σ H x vs v us Q I rx rv h
  obtain ⟨p, xs, v1, d, ds, j, rfl, rfl, hp, hx, hl, iS, zv, ⟨⟨t, ht, hE⟩, Gp⟩, hj, q⟩ := h
  cases rx
  obtain ⟨u, rfl, ru⟩ := rv.one
  obtain ⟨z, its, n, r, u9, e⟩ := I.kZ hp
  obtain ⟨ee, he, key⟩ := EG I ru hx r hl iS zv hu
  have hr := r.length
  have L7 : j < its.length := by
    have := (List.getElem?_eq_some_iff.mp ht).1
    omega
  refine call_meets F.slot_list_index ⟨_, e, rfl⟩ F.entry_list_index (F.args_list_index_2 _ _) (SeqAt.list_indexAt p its.toArray n _ _ _ ee j (by simpa using L7) (by omega) ?_ fun m hm P0 => ?_) ⟨e, fun y hy => he y (by simpa using hy), ⟨.int _, H, I.tok _, ⟨_, rfl⟩, q⟩⟩
  · rw [key j _ t (by simp [L7]) ht]; exact hE
  · have P1 : m < its.length := by simpa using hm
    have L8 : m < ds.length := by omega
    rw [key m _ _ (by simp [P1]) (List.getElem?_eq_getElem L8)]
    exact Gp m _ P0 (List.getElem?_eq_getElem L8)
noncomputable def vw : qD := fun d ds M Q => match now M d, ds with
  | .lst xs, [y] => (match bQ (now M y), iB xs with | some a, some ts => (∀ t ∈ ts, fU t ≤ 60) ∧ ∃ j, pq ts a j ∧ j < 16777216 ∧ Q (.int (j : Nat)) M | _, _ => False)
  | _, _ => False
theorem BC (hu : X.A.units + 64 < cLine) : y7 Γ X "list" "list.index" K vw := ⟨_, zx hu, fun β x xs d ds M H Q Q' _ _ _ m r rs z q => by
  unfold vw at z
  split at z
  · rename_i Q5 y h2
    split at z
    · rename_i a ts h1 P2
      obtain ⟨v, e2, rv⟩ := dS rs
      subst e2
      obtain ⟨zv, j, hF, hj, hq⟩ := z
      have hy : da H x (.lst ts) := mn m r (by rw [h2]; simp only [bQ, P2, Option.map_some])
      cases hy with
      | lst e hl iS => exact ⟨_, _, v, a, ts, j, rfl, rfl, e, mn m rv h1, hl, iS, zv, hF, hj, q _ _ _ _ (.refl m) (.int _) hq⟩
    · exact z.elim
  · exact z.elim⟩
end
end L2
namespace L2
open PySem PySem.Spec PyProof.Rows
section
variable {Γ : Gz} {X : Cx} {K : PySem.W.Frag}
noncomputable def zCatLP : dQ := fun d e M Q => match d, e with | .lst ds, .lst es => ds.length + es.length ≤ sizeLine ∧ ∀ a, M a = none → Q (.ptr a) (aF M a (.lst (ds ++ es))) | _, _ => False
theorem EI (hK : X.K = K) : eO Γ X (binaryOp .Add) zCatLP := ⟨_, ya, fun β x y d e M H Q Q' _ _ _ m rx ry z q => by
  unfold zCatLP at z
  split at z
  · obtain ⟨a, vs, rfl, f, ha, rs⟩ := dn rx
    obtain ⟨b, us, rfl, f2, hb, cC⟩ := dn ry
    refine ⟨a, b, vs, us, rfl, rfl, ha, hb, by rw [rs.len, cC.len]; exact z.1, fun p hp => ?_⟩
    have x2 := Ex.own m (.inr hp) (rs.append cC)
    exact q _ _ _ _ x2 (.ptr (by rw [updM_same]; rfl)) (z.2 p (m.free hp))
  · exact z.elim⟩
end
theorem fL {g : cA} {te : aS} (J : List Dv → ay → Mh → Prop) : ∀ {ds acc : List Dv} {τ : ay} {M : Mh} {Q : List Dv → Mh → Prop}, J acc τ M →
    (∀ i d h8 τ M, ds[i]? = some d → h8.length = acc.length + i → J h8 τ M → ∀ R : ay → ZK, (∀ y aE M2, J (h8 ++ [y]) aE M2 → R aE y M2) → g d τ M fun aE M2 => te aE M2 (R aE)) →
    (∀ ys τ M, ys.length = ds.length → J (acc ++ ys) τ M → Q ys M) → gv g zNoIf te ds τ M Q
  | [], acc, τ, M, Q, j, _, q => q [] τ M rfl (by rw [List.append_nil]; exact j)
  | d :: ds, acc, τ, M, Q, j, h, q => by
    refine h 0 d acc τ M rfl rfl j (fun aE y M4 => gv g zNoIf te ds aE M4 fun ys M5 => Q (y :: ys) M5) fun y aE M2 j2 => ?_
    refine fL J (acc := acc ++ [y]) j2 (fun i d' h8 cK M' e1 e2 j' R hR => ?_) fun ys mO M3 e3 j3 => ?_
    · exact h (i + 1) d' h8 cK M' e1 (by rw [e2, List.length_append]; simp; omega) j' R hR
    · exact q (y :: ys) mO M3 (by simp [e3]) (by rw [List.append_assoc] at j3; exact j3)
section
variable {X : Cx} {Γ : Gz} {tg elt iter : Expr} {ifs : List Expr} {scope : Scope} {pos : Pos} {N' : List Str} {tn : Nat} {idx : List Nat}
theorem tu {zi : fV} {g : cA} {tt : cZ} {te : aS} {i : Nat} {y : Str} {py iQ : Pos} (hN : X.N.Nodup) (ez : X.N[i]? = some y) (hy : X.env.scope.names.lookup y = some .local) (hc : X.calm = true) (B : dD X.N X.env.scope scope N' tn idx) (hi : QI Γ X tg iter zi)
    (hg : kf X N' scope fun Y => QG Γ Y tg g) (ht : kf X N' scope fun Y => sR Γ Y ifs tt) (he : kf X N' scope fun Y => QE Γ Y elt te)
    (rZ : swapsWith (.ListComp elt [⟨tg, iter, ifs, 0⟩] scope pos) (some (.Name y py)) iQ.line X.env = pure true := by rfl)
    (hs : ∀ x, foldedSetIterable iter X.env x = pure x := by intro _; rfl) : QS Γ X (.Assign [.Name y py] (.ListComp elt [⟨tg, iter, ifs, 0⟩] scope pos) iQ) (zAsg (zCompP tn idx zi g tt te) (zgName i)) := (ug hN ez hy hc B hi hg ht he rZ hs).imp fun D σ H h => wz (fun _ _ _ h => o6 h) h
end
theorem iC {a1 r : bS} {D : gr} {ρ : ay} {M : Mh} (I : ay → Mh → Prop) (h1 : ∀ N : ay → Mh → Prop, (∀ ρ M, I ρ M → N ρ M) → a1 { D with nx := N } ρ M) (h2 : ∀ ρ M, I ρ M → r D ρ M) : (zSeq a1 r) D ρ M := h1 _ h2
theorem Kr {a1 a2 r : bS} {D : gr} {ρ : ay} {M : Mh} (I : ay → Mh → Prop) (h1 : ∀ N : ay → Mh → Prop, (∀ ρ M, I ρ M → N ρ M) → (zSeq a1 a2) { D with nx := N } ρ M) (h2 : ∀ ρ M, I ρ M → r D ρ M) : (zSeq a1 (zSeq a2 r)) D ρ M := h1 _ h2
theorem Ks {a1 a2 a3 a4 r : bS} {D : gr} {ρ : ay} {M : Mh} (I : ay → Mh → Prop) (h1 : ∀ N : ay → Mh → Prop, (∀ ρ M, I ρ M → N ρ M) → (zSeq a1 (zSeq a2 (zSeq a3 a4))) { D with nx := N } ρ M) (h2 : ∀ ρ M, I ρ M → r D ρ M) : (zSeq a1 (zSeq a2 (zSeq a3 (zSeq a4 r)))) D ρ M := h1 _ h2
theorem Kt {a1 a2 a3 a4 a5 a6 a7 a8 r : bS} {D : gr} {ρ : ay} {M : Mh} (I : ay → Mh → Prop) (h1 : ∀ N : ay → Mh → Prop, (∀ ρ M, I ρ M → N ρ M) → (zSeq a1 (zSeq a2 (zSeq a3 (zSeq a4 (zSeq a5 (zSeq a6 (zSeq a7 a8))))))) { D with nx := N } ρ M) (h2 : ∀ ρ M, I ρ M → r D ρ M) : (zSeq a1 (zSeq a2 (zSeq a3 (zSeq a4 (zSeq a5 (zSeq a6 (zSeq a7 (zSeq a8 r)))))))) D ρ M := h1 _ h2
section
variable {β : Bz} {M M' : Mh} {H H' : Hp} {a : Addr} {o o' o2 mR : Mo}
theorem Rz.dom (hd : ∀ a, (M a).isSome = (M' a).isSome) {v : V} {d : Dv} (r : Rz β M H v d) : Rz β M' H v d :=
  r.mq (M0 := M') (fun a h => by rw [hd a]; exact h) (r.pin.mono fun a h => by rw [← hd a]; exact h)
theorem il.dom (hd : ∀ a, (M a).isSome = (M' a).isSome) (h : il β M H a o) : il β M' H a o := by
  cases o with
  | lst ds => obtain ⟨vs, h1, rs⟩ := h; exact ⟨vs, h1, rs.len, fun i v d x y => (rs.at' i v d x y).dom hd⟩
  | cY => exact h
  | dk ks ds => obtain ⟨vs, h1, h2, rs⟩ := h; exact ⟨vs, h1, h2, rs.len, fun i v d x y => (rs.at' i v d x y).dom hd⟩
  | dt ks ds => obtain ⟨vs, h1, h2, rs⟩ := h; exact ⟨vs, h1, h2, rs.len, fun i v d x y => (rs.at' i v d x y).dom hd⟩
theorem iI (M : Mh) (a : Addr) (o o2 : Mo) (b : Addr) : (aF M a o b).isSome = (aF M a o2 b).isSome := by
  by_cases e : b = a
  · subst e; rw [updM_same, updM_same]; rfl
  · rw [ax e, ax e]
theorem jy {b : Addr} (o2 : Mo) (h : aF M a o b = none) : aF M a o2 b = none := by
  by_cases e : b = a
  · subst e; rw [updM_same] at h; cases h
  · rw [ax e] at h ⊢; exact h
theorem Mz.chg (m : Mz β (aF M a o) H) (h2 : il β (aF M a o2) H a o2) : Mz β (aF M a o2) H := by
  refine ⟨fun b u e => ?_, m.tabs, m.hids, fun b u e => ?_, m.lams⟩
  · by_cases z : b = a
    · subst z; rw [updM_same] at e; cases e; exact h2
    · rw [ax z] at e
      exact il.dom (iI M a o o2) (m.obj b u (by rw [ax z]; exact e))
  · by_cases z : b = a
    · subst z; exact m.apart b o updM_same
    · rw [ax z] at e
      exact m.apart b u (by rw [ax z]; exact e)
theorem vy (h : M a = some o) : aF M a o = M := by
  funext b
  by_cases e : b = a
  · subst e; rw [updM_same, h]
  · rw [ax e]
theorem Ex.chg (x : Ex β (aF M a o) H (aF M a o') H') (h2 : il β (aF M a mR) H' a mR) : Ex β (aF M a o2) H (aF M a mR) H' :=
  ⟨⟨fun b u h e => x.keep b u (jy o h) e, fun b h => by rw [iI M a mR o']; exact x.dom b (by rw [iI M a o o2]; exact h), fun b u h e => jy mR (x.new b u (jy o h) e)⟩, x.mz.chg h2⟩
theorem Ex.sealed (hn : M a = none) (x : Ex β M H (aF M a o') H') (h2 : il β (aF M a mR) H' a mR) : Ex β M H (aF M a mR) H' :=
  ⟨⟨x.keep, fun b h => by rw [iI M a mR o']; exact x.dom b h, fun b u h e => jy mR (x.new b u h e)⟩, x.mz.chg h2⟩
theorem zy {c m : Int} (z : Mz β (aF M a (.lst [.int c, .int m])) H) (hc : 0 ≤ c) (hm : 0 ≤ m) : il β (aF M a .cY) H a .cY := by
  obtain ⟨vs, h, rs⟩ := z.obj a _ updM_same
  refine ⟨c, m, ?_, hc, hm⟩
  have := nh (ns := [c, m]) rs
  rw [h, this]
  rfl
theorem Iv (z : Mz β (aF M a .cY) H) : ∃ c m : Int, 0 ≤ c ∧ 0 ≤ m ∧ il β (aF M a (.lst [.int c, .int m])) H a (.lst [.int c, .int m]) := by
  obtain ⟨c, m, h, hc, hm⟩ := z.obj a _ updM_same
  exact ⟨c, m, hc, hm, _, h, ni (ns := [c, m])⟩
end
section
variable {X : Cx} {Γ : Gz} {K : PySem.W.Frag}
noncomputable def zIxS : dQ := fun d e M Q => match d, e with | .bz ns, .int i => (match cW ns i with | some x => Q (.int x) M | none => False) | _, _ => False
theorem De (hK : X.K = K) (hG : K = Γ.K) : HL Γ X zIxS := ⟨_, uZ hK, fun β x y d e M H Q Q' _ _ eK m rx ry z q => by
  unfold zIxS at z
  split at z
  · rename_i ns i
    split at z
    · rename_i v hv
      obtain ⟨a, rfl, hS⟩ := qy rx
      rw [eK, ← hG] at hS
      exact .inl ⟨a, _, i, .int v, rfl, aL ry, hS, Ew hv, q _ _ _ _ (.refl m) (.int _) z⟩
    · exact z.elim
  · exact z.elim⟩
end
noncomputable def P4 (k : Nat) : Str := ⟨#[97 + k]⟩
section
variable {κ : Type} [DecidableEq κ]
noncomputable def NM (step : κ → Nat → κ) (met : κ) (w : Str) (st : List κ × List Str) (a : Nat) : List κ × List Str := if step met a ∈ st.1 then st else (st.1 ++ [step met a], st.2 ++ [w ++ P4 a])
noncomputable def visit (step : κ → Nat → κ) (met : κ) (w : Str) (n : Nat) (st : List κ × List Str) : List κ × List Str := (List.range n).foldl (NM step met w) st
noncomputable def L9 (step : κ → Nat → κ) (n most : Nat) : Nat → Nat → List κ × List Str → List κ × List Str
  | 0, _, st => st
  | fuel + 1, i, st => match st.1[i]?, st.2[i]? with
    | some met, some w => if st.1.length ≤ most then L9 step n most fuel (i + 1) (visit step met w n st) else st
    | _, _ => st
noncomputable def met (step : κ → Nat → κ) (n most N : Nat) (s : κ) : List κ × List Str := L9 step n most (N + 1) 0 ([s], [""])
end
end L2
namespace L2
open PySem PySem.Spec PySem.W PyProof.Rows
section
variable {X : Cx} {CX : eu} {k : Nat} {f : Addr} {fd : FuncData} {E : XK} {x : Str} {p pos : Pos}
noncomputable def EJ (f : Addr) (o : Obj) (sp : Sp) (E : XK) (i : Nat) : TE := fun σ H Q => σ[i]? = some (some (.ref f)) ∧ (∃ u, H f = some (.cU o u)) ∧ sp [] H Q E
theorem zz {o : Obj} {sp : Sp} {i : Nat} (F : FnOk X.prog X.w X.K X.mg X.base CX k f fd [] sp) (ho : ∃ oc od fd sl, o = ⟨oc, od, .func fd, sl⟩) (hr : bC k X.A) (hN : X.N[i]? = some x) (hv : nE X.env.scope x) (hb : Binds X.K fd [] []) (hx : Passes CX X E)
    (cV : (x == ("__debug__" : Str)) = false := by decide) (dM : (x == ("__classdict__" : Str)) = false := by decide) :
    PE X (.Call (.Name x p) [] [] pos) (EJ f o sp E i) := by
  refine ⟨?_⟩
  intro pins s σ H Q I hh
  obtain ⟨hi, hf, h⟩ := hh
  obtain ⟨oc, od, G0, sl, rfl⟩ := ho
  refine wpAny_Call_Name_kw (thn ((xB hN hv cV dM) pins s σ H (fun v H' => v = .ref f ∧ H' = H) I ⟨_, hi, rfl, rfl⟩) fun u s0 hq => ?_)
  obtain ⟨v, H0, I0, r0, e1, e2⟩ := hq
  subst e1 e2
  cases (show u = Value.ref f from r0)
  have at_ : PySem.W.FnAt f s0.heap := by obtain ⟨u, hu⟩ := hf; exact ⟨oc, od, G0, sl, (I0.hok f _ hu).1⟩
  exact PySem.W.callWith_F0 at_ (xU (us := []) F hr hb .nil hx I0 .nil h)
end
section
variable {X : Cx} {Γ : Gz} {β : Bz} {CX : eu} {k : Nat} {f : Addr} {fd : FuncData} {E : XK} {E' : ZX} {x : Str} {p pos : Pos} {P : Program} {w : World} {tb : cg} {K : PySem.W.Frag}
noncomputable def zCallL0 (f : Addr) (o : Obj) (c : Addr) (oc : Obj) (vcs : List V) (S : List Dv → cj) (E' : ZX) (i : Nat) : aS := fun ρ M Q => match ρ[i]? with
  | some (some (.bX f' o' c' zl wJ bB)) => (f' = f ∧ o' = o ∧ c' = c ∧ zl = oc ∧ wJ = vcs) ∧ S bB [] M Q E'
  | _ => False
theorem zA {c : Addr} {o oc : Obj} {vcs : List V} {S : List Dv → cj} {i : Nat} (F : FnOk X.prog X.w X.K X.mg X.base CX k f fd [] (Ik P w K tb f o c oc vcs S)) (ho : ∃ oc od fd sl, o = ⟨oc, od, .func fd, sl⟩) (hr : bC k X.A) (hN : X.N[i]? = some x) (hv : nE X.env.scope x) (hb : Binds X.K fd [] [])
    (hx : Passes CX X E) (hP : P = Γ.P) (hw : w = Γ.w) (hK : K = Γ.K) (ht : tb = Γ.tb) (hE : XR Γ E' E) (cV : (x == ("__debug__" : Str)) = false := by decide) (dM : (x == ("__classdict__" : Str)) = false := by decide) : QE Γ X (.Call (.Name x p) [] [] pos) (zCallL0 f o c oc vcs S E' i) :=
  (zz F ho hr hN hv hb hx cV dM).imp fun σ H Q hh => by
    obtain ⟨β, ρ, M, Q', zr, h, q⟩ := hh
    subst hP hw hK ht
    unfold zCallL0 at h
    split at h
    · rename_i f' o' c' zl wJ bB hi
      obtain ⟨⟨rfl, rfl, rfl, rfl, rfl⟩, h⟩ := h
      obtain ⟨v, hv, r⟩ := zr.at' i _ hi
      obtain ⟨rfl, h1, _, _⟩ := lL r
      exact ⟨hv, h1, β, [], bB, M, Q', E', zr.eP, zr.ew, zr.eK, zr.et, zr.mz, .nil, r, h, fun d M2 v H2 x2 r2 h2 => q _ _ _ _ x2 r2 h2, fun C M2 H2 x2 h2 => hE C M2 H2 (lK zr.ent zr.sub zr.eP zr.ew zr.eK zr.et x2) h2⟩
    · exact h.elim
end
section
variable {P : Program} {w : World} {K : PySem.W.Frag} {mg : Str → Option Value} {base : Heap} {tb : cg} {f : Addr} {fd : FuncData} {ps : List Str} {k : Nat}
theorem oH {fs : List Str} {qual : Str} {scope : Scope} {params : Arguments} {body : Expr} {c : Addr} {o oc : Obj} {aO : List (Str × Addr)} {vcs : List V} {Sc : List Dv → cj} (L : Ii params body scope qual o c oc aO fd) (sc : kg ps fs scope) (C : tm base fs aO vcs) (c9 : vcs.length = fs.length)
    (len : ∀ bB ds M Q E, Sc bB ds M Q E → ds.length = ps.length)
    (hb : ∀ (A : Around) (outer : List Env) (s : Shared) (E : XK) (Γ : Gz) (bB ds : List Dv) (Q' : ZK) (E' : ZX), P = Γ.P → w = Γ.w → K = Γ.K → tb = Γ.tb → XR Γ E' E → bC k (A.deeper (PySem.W.envX qual scope s.heap.objs.size f (.ref c) aO)) → Sc bB ds Γ.M0 Q' E' →
      ∃ p, QE Γ (rp (cN P w) P w K mg base (ps ++ fs) qual scope f (.ref c) aO A outer s Γ.H0 E) body p ∧ p (ds.map some ++ bB.map some) Γ.M0 (jH Γ.M0 Q')) : FnOk P w K mg base (cN P w) (k + 1) f fd ps (Ik P w K tb f o c oc vcs Sc) := by
  refine Ij L sc C c9 (fun vs H Q E hS => by obtain ⟨β, ds, bB, M, Q', E', _, _, _, _, m, rs, rc, s, _⟩ := hS; exact rs.len.trans (len _ _ _ _ _ s)) (fun vs H Q E hS => by obtain ⟨β, ds, bB, M, Q', E', _, _, _, _, m, rs, rc, s, _⟩ := hS; obtain ⟨_, h1, h2, _⟩ := lL rc; exact ⟨h1, h2⟩) fun A outer s H vs Q E hr h => ?_
  obtain ⟨β, ds, bB, M, Q', E', eP, ew, eK, et, m, rs, rc, hS, q, qx⟩ := h
  obtain ⟨p, hp, hq⟩ := hb A outer s E ⟨β, M, H⟩ bB ds Q' E' eP.symm ew.symm eK.symm et.symm qx hr hS
  obtain ⟨_, _, _, Dg⟩ := lL rc
  exact ⟨_, hp, β, _, M, _, Il (Γ := ⟨β, M, H⟩) m rs Dg, hq, fun d M' v H' x r h => mr m q x r h⟩
end
section
variable {P : Program} {w : World} {K : PySem.W.Frag} {mg : Str → Option Value} {base : Heap} {N : List Str} {qual : Str} {scope : Scope} {f : Addr} {cd : Value} {aO : List (Str × Addr)} {A : Around} {outer : List Env} {s0 : Shared} {H0 : Hp} {E : XK}
theorem lN : Passes (cN P w) (rp (cN P w) P w K mg base N qual scope f cd aO A outer s0 H0 E) E := by
  intro pins σ H s e s' I h
  obtain ⟨a, C, t, B, H', rfl, os, gn, fl, c1, c2, un, hok, q⟩ := h
  have I' := I.mh (ch := []) os un hok gn (fun b z => absurd z (by simp))
  refine wpAny_leaves_onW (cls := .ref C) (a0 := .ref t) I.ok.frames rfl fl fun h' sG up => ?_
  have I2 := I.yJ I' c1 c2 fl.1 sG.1 up
  refine ⟨a, C, t, B, H', rfl, I2.os, I2.bare, sG, fun b o e n => ?_, c2, I2.base, I2.hok, q⟩
  obtain ⟨o1, e1⟩ := I.base.there b o e (fun z => absurd (show b ∈ ([] : List Addr) from z) (by simp))
  exact c1 b o1 e1 (I.jV (I.jq e) n)
end
theorem jZ {X : Cx} {scope : Scope} (h : ∀ y ∈ scope.names, y.2 = NameKind.free → X.env.scope.names.lookup y.1 = some .cell) (e : ∀ n, X.env.scope.names.lookup n = some .cell → X.env.kindOf n = some .cell := by intro n h; exact h) : ∀ n, (n, NameKind.free) ∈ scope.names → X.env.kindOf n = some .cell ∨ X.env.kindOf n = some .free := fun n hn => .inl (e n (h _ hn rfl))
theorem oI {scope : Scope} {N fs : List Str} {idx : List Nat} {lk : Str → Option NameKind} (h : ∀ j, j < fs.length → (fs.getD j "", NameKind.free) ∈ scope.names ∧ lk (fs.getD j "") = some .cell ∧ (idx[j]?.bind fun i => N[i]?) = some (fs.getD j "")) : ∀ (j : Nat) (n : Str), fs[j]? = some n → (n, NameKind.free) ∈ scope.names ∧ lk n = some .cell ∧ ∃ i, idx[j]? = some i ∧ N[i]? = some n := fun j n hj => by
  obtain ⟨hl, e⟩ := List.getElem?_eq_some_iff.mp hj
  obtain ⟨h1, h2, h3⟩ := h j hl
  rw [List.getD_eq_getElem?_getD, hj, Option.getD_some] at h1 h2 h3
  exact ⟨h1, h2, Option.bind_eq_some_iff.mp h3⟩
section
variable {X : Cx} {Γ : Gz} {β : Bz} {CX : eu} {k : Nat} {f : Addr} {fd : FuncData} {ps : List Str} {E : XK} {E' : ZX} {x : Str} {p pos wK : Pos} {P : Program} {w : World} {tb : cg} {K : PySem.W.Frag}
noncomputable def dZ (X : Cx) (params : Arguments) (body : Expr) (scope : Scope) (idx : List Nat) (fs : List Str) (S : Heap → cj) (E' : ZX) : aS := fun ρ M Q => match gP idx ρ with
  | some bB => ∀ f o c oc aO vcs, vcs.length = idx.length → Ib X params body scope o c oc aO → ∀ b', (∀ b o, X.base.get? b = some o → b'.get? b = some o) → tm b' fs aO vcs → S b' [.bX f o c oc vcs bB] M Q E'
  | none => False
theorem fA {params : Arguments} {body : Expr} {scope : Scope} {idx : List Nat} {fs : List Str} {S : Heap → cj} {PT cX : Addr} (bM : X.env.code = .ref cX) (dM : PySem.W.CodeHd X.base cX PT) (dH : ∃ bm ob, BMod X.base mainGlobals X.mg bm ob) (rF : defaultsOf params X.env = ([], []))
    (me : ∀ n, (n, NameKind.free) ∈ scope.names → X.env.kindOf n = some .cell ∨ X.env.kindOf n = some .free) (P5 : ∀ (j : Nat) (n : Str), fs[j]? = some n → (n, NameKind.free) ∈ scope.names ∧ X.env.scope.names.lookup n = some .cell ∧ ∃ i, idx[j]? = some i ∧ X.N[i]? = some n)
    (qk : (PT, fK X) ∈ Γ.tb.l) (Iw : ∀ q ∈ Γ.tb.l, q.1 = PT → q.2 = fK X)
    (F : ∀ b', (∀ b o, X.base.get? b = some o → b'.get? b = some o) → FnOk X.prog X.w X.K X.mg b' CX k f fd ps (aY P w K tb (S b'))) (hr : bC k X.A) (nG : ∀ x, X.fn x = true) (hg : Gl X x) (hm : X.mg x = some (.ref f)) (hk : PySem.W.keepIn X.K (.ref f) = true) (hb : Binds X.K fd ps [])
    (hx : Passes CX X E) (hP : P = Γ.P) (hw : w = Γ.w) (hK : K = Γ.K) (ht : tb = Γ.tb) (hE : XR Γ E' E) (cV : (x == ("__debug__" : Str)) = false := by decide)
    (s3 : starEach [.Lambda params body scope wK] X.env = (false, eval (.Lambda params body scope wK) X.env) :: starEach [] X.env := by rfl)
    (cy : (backTo pos (starEach [] X.env)).any (·.1) = false := by rfl) :
    QE Γ X (.Call (.Name x p) [.Lambda params body scope wK] [] pos) (dZ X params body scope idx fs S E') :=
  (Bt F hr nG hg hm hk hb .nil hx (uT (Ig bM dM dH rF me) xS s3) cV s3 cy).imp fun σ H Q hh => by
    obtain ⟨β, ρ, M, Q', ip, h, q⟩ := hh
    subst hP hw hK ht
    have NN : (PT, fK X) ∈ β.tb.l := by rw [ip.et]; exact qk
    have NP : ∀ q ∈ β.tb.l, q.1 = PT → q.2 = fK X := by rw [ip.et]; exact Iw
    refine ⟨ip.mz.lams _ NN, fun lf o c oc aO H3 hO hN => ?_⟩
    unfold dZ at h
    split at h
    · rename_i bB Ku
      obtain ⟨vcs, Dg, lcs, at'⟩ := vt ip Ku
      have x3 := Ex.ND ip.mz NP hN
      show ∀ b', wI X σ b' → aY Γ.P Γ.w Γ.K Γ.tb (S b') _ H3 Q E
      intro b' B
      obtain ⟨u1, a1⟩ := hN.at'
      obtain ⟨u2, a2⟩ := hN.cd
      have Ma := x3.mz
      have P6 : Fz β M lf := ip.mz.fz hN.new
      have NQ : ∀ a o u, H3 a = some (.cU o u) → a ∉ β.hid := fun a o u e z => by
        obtain ⟨w, e', n⟩ := Ma.hids a z
        rw [e] at e'; cases e'; cases n
      have NR : Rz β M H3 (.ref lf) (.bX lf o c oc vcs bB) := .bX P6 a1 ⟨Ma.lz a2 rfl, NQ _ _ _ a2⟩ a2 Dg.len fun i v d a b => (Dg.at' i v d a b).ex x3
      have NS : tm b' fs aO vcs := by
        refine ⟨fun n m a e e' => B.inj n m a (hO.cells n a e) (hO.cells m a e'), fun n a e => B.cells n a (hO.cells n a e), fun j n v hj hv => ?_⟩
        obtain ⟨fr, kc, i, hi, hn⟩ := P5 j n hj
        obtain ⟨a, u, e1, e2, e3⟩ := B.cell i n v hn (at' j i v hi hv) kc
        obtain ⟨a', e'⟩ := hO.has n fr
        have := (hO.cells n a' e').symm.trans e1
        cases this
        exact ⟨a, u, e', e2, e3⟩
      exact ⟨β, _, M, Q', E', ip.eP, ip.ew, ip.eK, ip.et, x3.mz, .cons NR .nil, h lf o c oc aO vcs lcs hO b' B.ext NS, fun d M5 v H5 x5 r5 h5 => q _ _ _ _ (x3.trans x5) r5 h5, fun C M5 H5 x5 h5 => hE C M5 H5 (lK ip.ent ip.sub ip.eP ip.ew ip.eK ip.et (x3.trans x5)) h5⟩
    · exact h.elim
end
noncomputable def Iy (b : Bool) : Value → Bool
  | .bool a => a == b
  | _ => false
theorem mS (b : Bool) : ∀ {bs : List Bool} {its : List Value}, Vals (bs.map V.bl) its → (∀ y ∈ its, ∃ a, y = .bool a) ∧ its.countP (Iy b) = bs.count b
  | [], _, .nil => ⟨(fun _ h => nomatch h), rfl⟩
  | n :: ns, _, .cons r t => by
    obtain rfl := r
    obtain ⟨h1, h2⟩ := mS b t
    refine ⟨fun y hy => ?_, ?_⟩
    · rcases List.mem_cons.mp hy with rfl | hy
      · exact ⟨_, rfl⟩
      · exact h1 y hy
    · rw [List.countP_cons, List.count_cons, h2]
      rfl
noncomputable def EK : V → List V → Hp → VK → Prop := fun x vs H Q => ∃ (p : Addr) (bs : List Bool) (b : Bool), x = .ref p ∧ vs = [.bl b] ∧ H p = some (.lst (bs.map V.bl)) ∧ Q (.int (bs.count b : Nat)) H
theorem zB {X : Cx} : xY X "list.count" EK := by
  intro pins s σ H x vs v us Q I rx rv h
  obtain ⟨p, bs, b, rfl, rfl, hp, q⟩ := h
  cases rx
  obtain ⟨u, rfl, ru⟩ := rv.one
  obtain rfl := ru
  obtain ⟨z, its, n, r, u9, e⟩ := I.kZ hp
  obtain ⟨h1, h2⟩ := mS b r
  refine call_meets F.slot_list_count ⟨_, e, rfl⟩ F.entry_list_count (F.args_list_count_2 _ _) (SeqAt.list_countAt p its.toArray n _ _ _ (Iy b)) ⟨e, fun y hy => ?_, ?_⟩
  · obtain ⟨a, rfl⟩ := h1 y (by simpa using hy)
    exact SeqAt.EqAt.bool_bool _ _
  · refine ⟨.int _, H, I.tok _, ⟨_, rfl⟩, ?_⟩
    rw [List.toList_toArray, h2]
    exact q
noncomputable def zCountB : qD := fun d ds M Q => match d, ds with | .lst xs, [.bl b] => (match boolsD xs with | some bs => Q (.int (bs.count b : Nat)) M | none => False) | _, _ => False
theorem BD {Γ : Gz} {X : Cx} {K : PySem.W.Frag} : y7 Γ X "list" "list.count" K zCountB := ⟨_, zB, fun β x xs d ds M H Q Q' _ _ _ m r rs z q => by
  unfold zCountB at z
  split at z
  · split at z
    · rename_i bs P7
      obtain ⟨v, e2, rv⟩ := dS rs
      subst e2
      obtain ⟨a, vs, rfl, f, hv, cC⟩ := dn r
      rw [qG P7] at cC
      rw [qH cC] at hv
      exact ⟨a, bs, _, rfl, by rw [cH rv], hv, q _ _ _ _ (.refl m) (.int _) z⟩
    · exact z.elim
  · exact z.elim⟩
structure dw (k : Nat) (A : Around) : Prop where
  dp : A.depth + 3 * k + 5 < recursionLimit
  un : A.units + 16 * k + 200 < cLine
theorem dw.mono {j k : Nat} {A : Around} (r : dw k A) (h : j ≤ k) : dw j A := ⟨by have := r.dp; omega, by have := r.un; omega⟩
theorem dw.deeper {k : Nat} {A : Around} (r : dw (k + 1) A) (env : Env) : dw k (A.deeper env) :=
  ⟨by have := r.dp; show A.depth + 1 + 3 * k + 5 < _; omega, by have := r.un; show A.units + 3 + 16 * k + 200 < _; omega⟩
theorem dw.depth {k : Nat} {A : Around} (r : dw k A) : A.depth < recursionLimit := by have := r.dp; omega
theorem dw.units {k : Nat} {A : Around} (r : dw k A) : A.units + 64 < cLine := by have := r.un; omega
theorem bC.Kv {k : Nat} {A : Around} {v : Option Value} (r : bC k A) : dw k (A.mark v) := ⟨r.dp, r.un⟩
structure FnOkN (P : Program) (w : World) (K : PySem.W.Frag) (mg : Str → Option Value) (base : Heap) (CX : eu) (k : Nat) (f : Addr) (fd : FuncData) (ps : List Str) (sp : Sp) : Prop where
  len : ∀ vs H Q E, sp vs H Q E → vs.length = ps.length
  run : ∀ (A : Around) (outer : List Env) (s : Shared) (H : Hp) (args : Args) (us : List Value) (vs : List V) (Q : VK) (E : XK), dw k A → kW P w K mg base A outer s H → BindsTo s fd args (ps.zip us) → Vals vs us → sp vs H Q E →
    codeAny (model P w) A (.call (.ref f) args) (CR CX outer P w H s Q E) s
noncomputable def zD (CX : eu) (P : Program) (w : World) (K : PySem.W.Frag) (mg : Str → Option Value) (base : Heap) (N : List Str) (qual : Str) (scope : Scope) (f : Addr) (cd : Value) (A : Around) (outer : List Env) (s : Shared) (H : Hp) (E : XK) : Cx := { fo CX P w K mg base N qual scope f cd A outer s H E with calm := false }
section
variable {CX : eu} {P : Program} {w : World} {K : PySem.W.Frag} {mg : Str → Option Value} {base : Heap} {k : Nat}
theorem wL {N ps : List Str} {qual : Str} {scope : Scope} {f : Addr} {cd : Value} {A : Around} {outer : List Env} {s s1 : Shared} {H : Hp} {E : XK} {us : List Value} {vs : List V}
    (S : aQ N ps scope) (e0 : kW P w K mg base A outer s H) (hl : vs.length = ps.length) (r : Vals vs us)
    (x : InCallC s s.heap.objs.size (bindL (envOfC qual scope s.heap.objs.size f cd).kindOf (ps.zip us) fun _ => none) (cellsFrom (s.heap.objs.size + 1) scope.names []) (bindC (envOfC qual scope s.heap.objs.size f cd).kindOf (ps.zip us) fun _ => none) s1) :
    Inv (zD CX P w K mg base N qual scope f cd A outer s H E) [] (start N vs) H s1 := by
  have I := pY (CX := CX) (E := E) (A := { A with handled := none }) S rfl ⟨e0.frames, e0.mod, e0.bs, e0.bsz, e0.funs, e0.frf, e0.hok, e0.bare⟩ hl r x
  exact ⟨⟨I.ok.mod, I.ok.kind, I.ok.glob, I.ok.blt, I.ok.above, I.ok.inj, I.ok.has, I.ok.cab, (fun z => nomatch z), Around.frames_deeper e0.frames, I.ok.stk, I.ok.exf, I.ok.bs, I.ok.bsz, I.ok.noex, I.ok.exfs, I.ok.funs, I.ok.frf⟩,
    I.os, I.bare, I.base, I.loc, I.cell, I.free, I.freeC, I.pin, I.hok, I.len⟩
theorem Iz {f : Addr} {name qual : Str} {params : Arguments} {body : List Stmt} {scope : Scope} {dV kV doc pm bK ct oc : Value} {an od : Option Addr}
    {gh : Array (Option Value)} {N ps : List Str} {sp : Sp} (lk : K.lookup f = some ⟨oc, od, .func (PySem.W.fnOf name qual params body scope dV kV doc pm an bK ct), gh⟩) (dM : PySem.W.codeIn K bK qual = true) (S : aQ N ps scope)
    (len : ∀ vs H Q E, sp vs H Q E → vs.length = ps.length)
    (ir : ∀ (A : Around) (outer : List Env) (s : Shared) (H : Hp) (vs : List V) (Q : VK) (E : XK), dw k (A.deeper (envOfC qual scope s.heap.objs.size f bK)) → sp vs H Q E →
      ∃ t, eJ (zD CX P w K mg base N qual scope f bK A outer s H E) body t ∧ t { nx := fun _ H' => Q .ao H', rt := Q } (start N vs) H) :
    FnOkN P w K mg base CX (k + 1) f (PySem.W.fnOf name qual params body scope dV kV doc pm an bK ct) ps sp := by
  refine ⟨len, fun A outer s H args us vs Q E hr e0 hb r gV => ?_⟩
  have hl := len _ _ _ _ gV
  have KX : K.In s.heap := e0.mod.kin.keeps fun b o e => (e0.bs b o e).1
  have lim : s.heap.NoLimit := e0.mod.nolimit.keeps fun b o e => (e0.bs b o e).1
  have jm : ∀ y ∈ ps.zip us, scope.names.lookup y.1 = some .local ∨ (scope.names.lookup y.1 = some .cell ∧ ((cellsFrom (s.heap.objs.size + 1) scope.names []).lookup y.1).isSome = true) := fun y hy => by
    obtain ⟨n, v⟩ := y
    rcases S.par n (List.of_mem_zip hy).1 with q | q
    · exact .inl q
    · exact .inr ⟨q, PySem.W.cellsFrom_some _ _ _ (.inl q)⟩
  refine codeAny_call_function hr.depth (KX _ _ lk) rfl S.co S.gen rfl (PySem.W.codeRec_of KX dM) (hb _ _ _ _ ?_)
  refine wpAny_newFunctionEnv_cells S.kind jm fun env he s1 x => ?_
  subst he
  refine ⟨lim.keeps x.toInCall.keep, codeAny_func ?_⟩
  obtain ⟨t, ht, hq⟩ := ir A outer s H vs Q E (hr.deeper _) gV
  have I : Inv (zD CX P w K mg base N qual scope f bK A outer s H E) [] (start N vs) H s1 := wL S e0 hl r x
  refine wpAny_mono (ht [] s1 (start N vs) H _ I hq) (fun fl s' hs => ?_) fun e s' hs => hs
  have fin : ∀ {aA : St} {H' : Hp} {v : V} {u : Value}, Inv (zD CX P w K mg base N qual scope f bK A outer s H E) [] aA H' s' → RelV v u → Q v H' → CE outer P w H s Q u s' :=
    fun {aA H' v u} J rv q => ⟨v, H', J.os, J.bare, J.base, J.hok, rv, q⟩
  cases fl with
  | ret u =>
    obtain ⟨v, aA, H', J, rv, q⟩ := hs
    exact fin J rv q
  | next =>
    obtain ⟨aA, H', J, q⟩ := hs
    exact fin (v := V.ao) (u := Value.none) J rfl q
  | brk =>
    obtain ⟨_, _, _, q⟩ := hs
    exact False.elim q
  | cont =>
    obtain ⟨_, _, _, q⟩ := hs
    exact False.elim q
theorem Kw {tb : cg} {x : Str} {st : Stmt} {f : Addr} {fd : FuncData} {N ps : List Str} {S : cj} (D : Df K mg x st ps f fd) (sc : aQ N ps (ai st)) (len : ∀ ds M Q E, S ds M Q E → ds.length = ps.length)
    (body : ∀ (A : Around) (outer : List Env) (s : Shared) (E : XK) (Γ : Gz) (ds : List Dv) (Q' : ZK) (E' : ZX), P = Γ.P → w = Γ.w → K = Γ.K → tb = Γ.tb → dw k (A.deeper (envOfC x (ai st) s.heap.objs.size f fd.code)) → S ds Γ.M0 Q' E' →
      ∃ p, iY Γ (zD bt P w K mg base N x (ai st) f fd.code A outer s Γ.H0 E).rM (bD st) p ∧ p (zEndsOf Γ.M0 Q') (zstart N ds) Γ.M0) : FnOkN P w K mg base bt (k + 1) f fd ps (aY P w K tb S) := by
  obtain ⟨oc, od, kV, doc, pm, an, bK, ct, gh, rfl, lk, dM⟩ := D.fn.ex
  refine Iz lk dM sc (o9 len) fun A outer s H vs Q E hr h => ?_
  obtain ⟨β, ds, M, Q', E', eP, ew, eK, et, m, rs, hS, q, _⟩ := h
  obtain ⟨p, hp, hq⟩ := body A outer s E ⟨β, M, H⟩ ds Q' E' eP.symm ew.symm eK.symm et.symm hr hS
  refine ⟨_, hp.rM, β, zstart N ds, M, zEndsOf M Q', nj (Γ := ⟨β, M, H⟩) m rs, hq, ?_⟩
  have fin : ∀ d M' v H', Ex β M H M' H' → Rz β M' H' v d → jH M Q' d M' → Q v H' := fun d M' v H' x r h => mr m q x r h
  exact ⟨fun bA M' aA H' x zr h => fin _ _ _ _ ⟨zr.ent, x.mz⟩ .ao h, fun d M' v H' x e r h => fin _ _ _ _ ⟨e, x.mz⟩ r h, fun _ _ _ _ _ _ h => h, fun _ _ _ _ _ _ h => h⟩
end
section
variable {X : Cx} {Γ : Gz} {CX : eu} {k : Nat} {f : Addr} {fd : FuncData} {ps : List Str} {sp : Sp} {S : cj} {E : XK} {E' : ZX} {x : Str} {p pos : Pos} {e : Expr} {es : List Expr} {t : TA} {za : eL} {P : Program} {w : World} {tb : cg} {K : PySem.W.Frag}
theorem EL {pins : List (Addr × Obj)} {σ : St} {H : Hp} {s : Shared} {Q : VK} {us : List Value} {vs : List V} (F : FnOkN X.prog X.w X.K X.mg X.base CX k f fd ps sp) (hr : dw k X.A) (hb : Binds X.K fd ps []) (hx : Passes CX X E)
    (I : Inv X pins σ H s) (r : Vals vs us) (h : sp vs H Q E) : wpAny (model X.prog X.w) X.A (call (.ref f) us) (EP X pins σ Q) X.xe s := by
  have hl : us.length = ps.length := by rw [← r.length]; exact F.len _ _ _ _ h
  have cc := hb s us I.ej (by rw [List.append_nil]; exact hl)
  rw [List.append_nil] at cc
  refine wpAny_call (codeAny_mono (F.run X.A X.stack s H ⟨us, []⟩ us vs Q E hr I.Gi cc r h) fun r s' hq => ?_)
  cases r with
  | error e => exact hx pins σ H s e s' I hq
  | ok fl =>
    cases fl with
    | ret u => exact I.after hq
    | next => exact False.elim hq
    | brk => exact False.elim hq
    | cont => exact False.elim hq
theorem BE (F : FnOkN X.prog X.w X.K X.mg X.base CX k f fd ps sp) (hr : dw k X.A) (hg : Gl X x) (hm : X.mg x = some (.ref f)) (hk : PySem.W.keepIn X.K (.ref f) = true) (hb : Binds X.K fd ps []) (hx : Passes CX X E)
    (ha : PA X (e :: es) t) (cV : (x == ("__debug__" : Str)) = false := by decide) (he : starEach (e :: es) X.env = (false, eval e X.env) :: starEach es X.env := by rfl) (cy : (backTo pos (starEach es X.env)).any (·.1) = false := by rfl) :
    PE X (.Call (.Name x p) (e :: es) [] pos) (fun σ H Q => t σ H fun vs H1 => sp vs H1 Q E) := by
  refine ⟨?_⟩
  intro pins s σ H Q I h
  refine wpAny_Call_Name_kw (iG I hg hm ?_ cV)
  refine PySem.W.callWith_K (h₀ := X.base) I.ok.mod.kin hk (thn (ha pos pins s σ H _ I h) fun us s1 hq => ?_) he cy
  obtain ⟨vs, H1, I1, r, q⟩ := hq
  exact ⟨I1.ej, EL F hr hb hx I1 r q⟩
theorem BF (F : FnOkN X.prog X.w X.K X.mg X.base CX k f fd ps (aY P w K tb S)) (hr : dw k X.A) (hg : Gl X x) (hm : X.mg x = some (.ref f)) (hk : PySem.W.keepIn X.K (.ref f) = true) (hb : Binds X.K fd ps []) (hx : Passes CX X E) (hP : P = Γ.P) (hw : w = Γ.w) (hK : K = Γ.K) (ht : tb = Γ.tb) (hE : XR Γ E' E)
    (ha : QA Γ X (e :: es) za) (cV : (x == ("__debug__" : Str)) = false := by decide) (he : starEach (e :: es) X.env = (false, eval e X.env) :: starEach es X.env := by rfl) (cy : (backTo pos (starEach es X.env)).any (·.1) = false := by rfl) :
    QE Γ X (.Call (.Name x p) (e :: es) [] pos) (zCall S E' za) := (BE F hr hg hm hk hb hx ha cV he cy).imp fun σ H Q hh => by
  subst hP hw hK ht
  obtain ⟨β, ρ, M, Q', zr, h, q⟩ := hh
  refine ⟨β, ρ, M, _, zr, h, fun ds M1 vs H1 x1 r1 h1 => ?_⟩
  exact ⟨β, ds, M1, Q', E', zr.eP, zr.ew, zr.eK, zr.et, x1.mz, r1, h1, fun d M2 v H2 x2 r2 h2 => q _ _ _ _ (x1.trans x2) r2 h2, fun C M2 H2 x2 h2 => hE C M2 H2 (lK zr.ent zr.sub zr.eP zr.ew zr.eK zr.et (x1.trans x2)) h2⟩
end
noncomputable def oJ (i j : Int) : Int := -(i ^ j.toNat)
theorem zE {X : Cx} {Γ : Gz} {e : Expr} {i j : Int} (h : QE Γ X e (zNeg (zOp (zIC vI fun i j => .int (i ^ j.toNat)) (zC (.int i)) (zC (.int j))))) (c : vI i j) : QE Γ X e (zC (.int (oJ i j))) := h.imp fun σ H Q hh => by
  obtain ⟨β, ρ, M, Q', zr, hq, q⟩ := hh
  exact ⟨β, ρ, M, Q', zr, ⟨c, hq⟩, q⟩
theorem pv {base b' : Heap} {fd : FuncData} {c p : Addr} (C : qh base fd c p) (h : ∀ b o, base.get? b = some o → b'.get? b = some o) : qh b' fd c p := by
  obtain ⟨co, o, vs, file, tf, flags, tg, Iq, text, tt, e, r⟩ := C
  exact ⟨co, o, vs, file, tf, flags, tg, Iq, text, tt, h _ _ e, r⟩
theorem vz {base b' : Heap} {mg : Str → Option Value} (C : ∃ bm ob, BMod base mainGlobals mg bm ob) (h : ∀ b o, base.get? b = some o → b'.get? b = some o) : ∃ bm ob, BMod b' mainGlobals mg bm ob := by
  obtain ⟨bm, ob, m⟩ := C
  exact ⟨bm, ob, { m with ns := m.ns.keeps h, obj := h _ _ m.obj }⟩
end L2
open PySem L2 PyProof.Rows
local macro_rules | `(tactic| simp! only [$xs,*] $[$l]?) => `(tactic| simp only [zVar, zC, zOp, zII, zIC, zEq, zNe, scalZ, zIsN, isNonD, zSS, zTest, zBool, zChain, zAnd, zOr, zNot, zAndV, zNotV, zNil, zCons, zTup, zLst, zLstP, zCB, z1, zLenD, z2I, zAbs, zList, zTuple, zSorted, zSet, intsM, itemsM, zIsInst, isD, zBM, tyZ, zAppend, zPop, zPopAt, zSetI, zgSub, zNext, zSeq, zDrop, zRet, zIfS, zgName, zgNil, zgCons, zgTup, zAsg, zFor, zForM, zComp, zCompP, zAll, zBlock, zCall, zTry, zRaise, zIsE, zstart, zEndsOf, ziTup, ziLst, ziRng1, ziRng2, ziEnumK, zoNone, zoSome, zSl, zSlT, zIx, zRangeP, zNeg, zCatT, zNoIf, zRepT, zRepL, zCatLD, zCatLP, zIxS, zNever, zCallL0, zCountB, boolsD, zCallL, List.getElem?_cons_zero, List.getElem?_cons_succ, List.map_cons, List.map_nil, List.nil_append, List.cons_append, List.length_cons, List.length_nil, List.replicate_succ, List.replicate_zero, List.set_cons_zero, List.set_cons_succ, Option.join_some, Nat.reduceAdd, Nat.reduceSub, Nat.sub_self, Nat.zero_add, if_true, if_false, Bool.false_eq_true, Bool.not_true, Bool.not_false, true_and, and_true, beq_self_eq_true, String.reduceBEq, zLoop, List.length_map, List.length_set, updM_same, updM_updM, List.append_nil, Int.zero_add, Int.toNat_natCast, rangeD_len, Nat.min_self, atI_zero, decide_true, decide_false, Bool.not_eq_true, bne_self_eq_false, $xs,*] $[$l]?)
local macro_rules | `(tactic| dsimp! only [$xs,*] $[$l]?) => `(tactic| simp only [zVar, zC, zOp, zII, zIC, zEq, zNe, scalZ, zIsN, isNonD, zSS, zTest, zBool, zChain, zAnd, zOr, zNot, zAndV, zNotV, zNil, zCons, zTup, zLst, zLstP, zCB, z1, zLenD, z2I, zAbs, zList, zTuple, zSorted, zSet, intsM, itemsM, zIsInst, isD, zBM, tyZ, zAppend, zPop, zPopAt, zSetI, zgSub, zNext, zSeq, zDrop, zRet, zIfS, zgName, zgNil, zgCons, zgTup, zAsg, zFor, zForM, zComp, zCompP, zAll, zBlock, zCall, zTry, zRaise, zIsE, zstart, zEndsOf, ziTup, ziLst, ziRng1, ziRng2, ziEnumK, zoNone, zoSome, zSl, zSlT, zIx, zRangeP, zNeg, zCatT, zNoIf, zRepT, zRepL, zCatLD, zCatLP, zIxS, zNever, zCallL0, zCountB, boolsD, zCallL, List.getElem?_cons_zero, List.getElem?_cons_succ, List.map_cons, List.map_nil, List.nil_append, List.cons_append, List.length_cons, List.length_nil, List.replicate_succ, List.replicate_zero, List.set_cons_zero, List.set_cons_succ, Option.join_some, Nat.reduceAdd, Nat.reduceSub, Nat.sub_self, Nat.zero_add, if_true, if_false, Bool.false_eq_true, Bool.not_true, Bool.not_false, true_and, and_true, beq_self_eq_true, String.reduceBEq, List.length_map, List.length_set, updM_same, updM_updM, List.append_nil, Int.zero_add, Int.toNat_natCast, rangeD_len, Nat.min_self, atI_zero, decide_true, decide_false, Bool.not_eq_true, bne_self_eq_false, $xs,*] $[$l]?)
namespace My
open PySem L2 PyProof.Rows
noncomputable def top (i : Nat) : Stmt := PySem.Challenge.pw_roadcall_k27_pairs_refused.main.body.getD i (.Pass ⟨0, 0, 0, 0⟩)
noncomputable abbrev dy : Stmt := top 19
noncomputable abbrev bR : Stmt := top 20
noncomputable abbrev je : Stmt := top 24
noncomputable abbrev jf : Stmt := top 25
noncomputable abbrev e8 : Stmt := top 26
noncomputable abbrev iD : Stmt := top 27
noncomputable abbrev uh : Stmt := top 30
noncomputable abbrev jg : Stmt := top 32
noncomputable abbrev jz : Stmt := top 33
noncomputable abbrev tv : Stmt := top 34
noncomputable abbrev tD : Stmt := top 35
noncomputable abbrev tE : Stmt := top 36
noncomputable abbrev fB : Stmt := top 38
noncomputable abbrev jA : Stmt := top 39
noncomputable abbrev gQ : Stmt := top 40
noncomputable abbrev ui : Stmt := top 41
noncomputable abbrev wM : Stmt := top 42
noncomputable abbrev pw : Stmt := top 43
noncomputable abbrev qV : Stmt := top 44
noncomputable abbrev fb : Stmt := top 45
noncomputable abbrev iE : Stmt := top 47
noncomputable abbrev cP : Stmt := top 48
noncomputable abbrev eW : Stmt := top 49
noncomputable abbrev b6 : Stmt := top 50
noncomputable abbrev gR : Stmt := top 51
noncomputable abbrev fc : Stmt := top 52
noncomputable abbrev eD : Stmt := top 53
noncomputable abbrev fe : Stmt := top 54
noncomputable abbrev fg : Stmt := top 55
section
variable {P : Program} {w : World} {K : PySem.W.Frag} {mg : Str → Option Value} {base : Heap} {tb : cg} {k : Nat} {f : Addr} {fd : FuncData} {ps : List Str}
theorem dF : aQ ["_law_script", "_law_at", "_law_cell", "_law_mix", "_law_k"] ["_law_script", "_law_at"] (ai iE) := ⟨rfl, rfl, rfl, by decide +kernel, rfl, by decide +kernel, by decide +kernel⟩
theorem dU : aQ ["_law_bag_here", "_law_many", "_law_digit", "_law_number", "_law_room"] ["_law_bag_here", "_law_many"] (ai cP) := ⟨rfl, rfl, rfl, by decide +kernel, rfl, by decide +kernel, by decide +kernel⟩
theorem kQ : aQ ["_law_bag_here", "_law_many", "_law_free"] ["_law_bag_here", "_law_many"] (ai eW) := ⟨rfl, rfl, rfl, by decide +kernel, rfl, by decide +kernel, by decide +kernel⟩
theorem bo : aQ ["_law_bag_here", "_law_most", "_law_many", "_law_ways", "_law_kind_here", "_law_rows", "_law_order_here", "_law_period", "_law_stays", "_law_k", "_law_place", "_law_onward", "_law_goals", "_law_turns"] ["_law_bag_here", "_law_most"] (ai b6) := ⟨rfl, rfl, rfl, by decide +kernel, rfl, by decide +kernel, by decide +kernel⟩
noncomputable def IA : cj := fun ds M Q _ => ∃ (ns : List Int) (t : Int), ds = [.bz ns, .int t] ∧ ns.length ≤ 63 ∧ 0 ≤ t ∧ t ≤ 63 ∧ ∀ b, M b = none → Q (.ptr b) (aF M b .cY)
noncomputable def Dh : cj := fun ds M Q _ => ∃ (ns : List Int) (t : Int), ds = [.bz ns, .int t] ∧ ns.length ≤ 63 ∧ 0 ≤ t ∧ t ≤ 63 ∧ ∀ b c m, M b = none → 0 ≤ c → 0 ≤ m → Q (.ptr b) (aF M b (.lst [.int c, .int m]))
theorem wN (D : Df K mg "_law_bag" iE ["_law_script", "_law_at"] f fd) (bl : Bl mg) : FnOk P w K mg base bt 1 f fd ["_law_script", "_law_at"] (aY P w K tb Dh) := by
  refine fJ D dF (fun ds M Q E hS => by obtain ⟨ns, t, e, _⟩ := hS; rw [e]; rfl) fun A outer s E Γ ds Q' E' hP hw hK ht hr hS => ?_
  obtain ⟨ns, t, e, hl, t0, t1, q⟩ := hS
  refine ⟨_, (aj (aJ (i := 2) dF.nd rfl (Or.inl rfl) af)
    (aj (cM (bT o7 (qv 1) (av (d8 (K := K) rfl hK) rfl bl.len_ PySem.boot_len (aa (qv 0) ae)) (bY _))
      (az (aJ (i := 2) dF.nd rfl (Or.inl rfl) (av Kj rfl bl.abs_ GY (aa (cB (De (K := K) rfl hK) (qv 0) (qv 1) (fun _ _ => rfl)) ae))))
      qss_nil)
    (aj (aJ (i := 3) dF.nd rfl (Or.inl rfl) (aD fF (aD mj af (qv 1)) af))
    (aj (oz PassesOwn.never rfl (dq rfl bl.range_ (aa (av (y6 rfl) rfl bl.min_ yo (aa (av (d8 (K := K) rfl hK) rfl bl.len_ PySem.boot_len (aa (qv 0) ae)) (aa af ae))) ae)) (fun Di eP ew eK et => by have hP := hP.trans eP.symm; have hw := hw.trans ew.symm; have hK := hK.trans eK.symm; have ht := ht.trans et.symm; exact ⟨(bF (i := 4) dF.nd rfl (Or.inl rfl)), (az (aJ (i := 3) dF.nd rfl (Or.inl rfl) (aD iA (aD fF (aD fF (aD mj (qv 3) af) (aD iA (cB (De (K := K) rfl hK) (qv 0) (qv 4) (fun _ _ => rfl)) af)) (qv 4)) af)))⟩))
    (aj (cM (bT o7 (qv 2) (aD rn af af) (bY _))
      (az (aJ (i := 2) dF.nd rfl (Or.inl rfl) af))
      qss_nil)
    (az (bg (vj (aa (qv 2) (aa (qv 3) ae)))))))))), ?_⟩
  subst e
  refine Ks (fun ρ M => M = Γ.M0 ∧ ∃ c m x : Int, ∃ x4, 0 ≤ c ∧ 0 ≤ m ∧ ρ = [some (.bz ns), some (.int t), some (.int c), some (.int m), x4]) (fun N hN => ?_) ?_
  · refine Kr (fun ρ M => M = Γ.M0 ∧ ∃ c : Int, 0 ≤ c ∧ ρ = [some (.bz ns), some (.int t), some (.int c), none, none]) (fun N hN => ?_) ?_
    · simp! only []
      refine fm (fun h => ?_) (fun _ => hN _ _ ⟨rfl, 0, by omega, rfl⟩)
      have ht : t < (ns.length : Int) := of_decide_eq_true h
      obtain ⟨k, rfl⟩ := Int.eq_ofNat_of_zero_le t0
      rw [y9 (show k < ns.length by omega)]
      exact hN _ _ ⟨rfl, _, by split <;> omega, rfl⟩
    rintro ρ M ⟨rfl, c, hc, rfl⟩
    simp! only []
    refine ⟨.inl ⟨by decide, by decide⟩, by split <;> omega, by split <;> omega, ?_⟩
    refine lF (fun i ρ M => M = Γ.M0 ∧ ∃ m : Int, ∃ x4, 0 ≤ m ∧ ρ = [some (.bz ns), some (.int t), some (.int c), some (.int m), x4]) ⟨rfl, _, _, by omega, rfl⟩ (fun i d ρ M N2 hd hJ Dj => ?_) (fun ρ M hJ => ?_)
    · obtain ⟨rfl, m, x4, hm, rfl⟩ := hJ
      obtain ⟨rfl, hi⟩ := g7 hd
      have hi : i < ns.length := by split at hi <;> omega
      simp! only [y9 hi]
      exact ⟨.inr ⟨by decide, by decide⟩, by decide, by decide, Dj _ _ ⟨rfl, _, _, Int.emod_nonneg _ (by decide), rfl⟩⟩
    · obtain ⟨rfl, m, x4, hm, rfl⟩ := hJ
      exact hN _ _ ⟨rfl, c, m, 0, x4, hc, hm, rfl⟩
  · rintro ρ M ⟨rfl, c, m, x, x4, hc, hm, rfl⟩
    simp! only []
    exact ⟨⟨by decide, by decide, by decide⟩, fm (fun _ => ⟨by decide, fun a ha => .inl (q a 0 m ha (by omega) hm)⟩) (fun _ => ⟨by decide, fun a ha => .inl (q a c m ha hc hm)⟩)⟩
theorem Kx (G : FnOk P w K mg base bt k f fd ps (aY P w K tb Dh)) : FnOk P w K mg base bt k f fd ps (aY P w K tb IA) := G.imp fun vs H Q E hS => by
  obtain ⟨β, ds, M, Q', E', eP, ew, eK, et, m, rs, ⟨ns, t, e, h1, h2, h3, h⟩, q, qe⟩ := hS
  refine ⟨β, ds, M, fun d M' => ∃ b c m, d = .ptr b ∧ M b = none ∧ 0 ≤ c ∧ 0 ≤ m ∧ M' = aF M b (.lst [.int c, .int m]), fun _ _ => False, eP, ew, eK, et, m, rs, ⟨ns, t, e, h1, h2, h3, fun b c m h4 h5 h6 => ⟨b, c, m, rfl, h4, h5, h6, rfl⟩⟩, fun d M' v H' x r hQ => ?_, fun _ _ _ _ h => h.elim⟩
  obtain ⟨b, c, m', rfl, hb, hc, hm, rfl⟩ := hQ
  have hB := zy x.mz hc hm
  exact q _ _ _ _ (Ex.sealed hb x hB) (r.dom (iI M b _ _)) (h b hb)
noncomputable def jB : cj := fun ds M Q _ => ∃ (b : Addr) (n : Int), ds = [.ptr b, .int n] ∧ M b = some .cY ∧ 1 ≤ n ∧ n < 1073741824 ∧ ∀ d : Nat, (d : Int) < n → Q (.int (d : Nat)) M
noncomputable def zF : cj := fun ds M Q _ => ∃ (b : Addr) (n c m : Int), ds = [.ptr b, .int n] ∧ M b = some (.lst [.int c, .int m]) ∧ 0 ≤ c ∧ 0 ≤ m ∧ 1 ≤ n ∧ n < 1073741824 ∧ ∀ (d : Nat) (c m : Int), (d : Int) < n → 0 ≤ c → 0 ≤ m → Q (.int (d : Nat)) (aF M b (.lst [.int c, .int m]))
theorem uj (D : Df K mg "_law_take" cP ["_law_bag_here", "_law_many"] f fd) : FnOk P w K mg base bt 1 f fd ["_law_bag_here", "_law_many"] (aY P w K tb zF) := by
  refine fJ D dU (fun ds M Q E hS => by obtain ⟨b, n, c, m, e, _⟩ := hS; rw [e]; rfl) fun A outer s E Γ ds Q' E' hP hw hK ht hr hS => ?_
  obtain ⟨b, n, c, m, e, hb, hc, hm, n1, n2, q⟩ := hS
  refine ⟨_, (aj (cM (bT Ny (cB (eH (K := K) rfl) (qv 0) af (fun _ _ => rfl)) af (bY _))
      (aj (aJ (i := 2) dU.nd rfl (Or.inl rfl) (aD iA (cB (eH (K := K) rfl) (qv 0) af (fun _ _ => rfl)) (qv 1)))
    (aj (jX (aD y2 (cB (eH (K := K) rfl) (qv 0) af (fun _ _ => rfl)) (qv 1)) (jY (qv 0) af))
    (az (bg (qv 2)))))
      qss_nil)
    (aj (aJ (i := 3) dU.nd rfl (Or.inl rfl) af)
    (aj (aJ (i := 4) dU.nd rfl (Or.inl rfl) af)
    (aj (Bp PassesOwn.never (bT o7 (qv 4) (qv 1) (bY _))
      (aj (jX (aD iA (aD fF (aD mj (cB (eH (K := K) rfl) (qv 0) af (fun _ _ => rfl)) af) af) af) (jY (qv 0) af))
    (aj (aJ (i := 3) dU.nd rfl (Or.inl rfl) (aD fF (aD mj (qv 3) af) (aD iA (aD mj (aD y2 (cB (eH (K := K) rfl) (qv 0) af (fun _ _ => rfl)) af) af) af)))
    (az (aJ (i := 4) dU.nd rfl (Or.inl rfl) (aD mj (qv 4) af))))))
    (az (bg (aD iA (qv 3) (qv 1)))))))), ?_⟩
  subst e
  have P8 : ∀ x y : Int, cW [Dv.int x, Dv.int y] 1 = some (.int y) := fun x y => cQ (j := 1) rfl
  have P9 : gW 2 0 = some 0 := rfl
  have Qa : gW 2 1 = some 1 := rfl
  have fin : ∀ {i c m : Int} {M : Mh}, 0 ≤ c → 0 ≤ m → M = aF Γ.M0 b (.lst [.int c, .int m]) → jH Γ.M0 Q' (.int (i % n)) M := fun {i c m M} hc hm e => by
    obtain ⟨d, hd⟩ := Int.eq_ofNat_of_zero_le (Int.emod_nonneg i (show n ≠ 0 by omega))
    have := Int.emod_lt_of_pos i (show 0 < n by omega)
    rw [hd, e]
    exact .inl (q d c m (by omega) hc hm)
  simp! only [hb, P9]
  refine fm (fun h => ?_) (fun h => ?_)
  · refine ⟨by omega, ⟨by omega, n2⟩, fin (Int.ediv_nonneg hc (by omega)) hm rfl⟩
  · refine ⟨fun k ρ M => ∃ num room c m x2, 0 ≤ num ∧ 1 ≤ room ∧ 0 ≤ c ∧ 0 ≤ m ∧ k = (n - room).toNat ∧ ρ = [some (.ptr b), some (.int n), x2, some (.int num), some (.int room)] ∧ M = aF Γ.M0 b (.lst [.int c, .int m]), ⟨_, 0, 1, c, m, _, by omega, by omega, hc, hm, rfl, rfl, (vy hb).symm⟩, ?_⟩
    rintro k ρ M ⟨num, room, c, m, x2, h1, h2, hc, hm, rfl, rfl, rfl⟩
    simp! only [P8, Qa, updM_same]
    refine fm (fun h => ?_) (fun h => ⟨by omega, fin hc hm rfl⟩)
    have h := of_decide_eq_true h
    have m3 : 0 ≤ (m * 48271 + 7919) % 2147483647 := Int.emod_nonneg _ (by decide)
    have n3 : 0 ≤ (m * 48271 + 7919) % 2147483647 / 8 * 69621 % 1073741789 := Int.emod_nonneg _ (by decide)
    refine ⟨.inr ⟨by decide, by decide⟩, by decide, .inr ⟨by decide, by decide⟩, ⟨by decide, by decide⟩, .inr ⟨by decide, by decide⟩, by decide, .inr ⟨by decide, by decide⟩, _, ?_, _, _, c, _, _, ?_, ?_, hc, m3, rfl, rfl, rfl⟩ <;> omega
theorem IB (G : FnOk P w K mg base bt k f fd ps (aY P w K tb zF)) : FnOk P w K mg base bt k f fd ps (aY P w K tb jB) := G.imp fun vs H Q E hS => by
  obtain ⟨β, ds, M, Q', E', eP, ew, eK, et, m, rs, ⟨b, n, e, hb, h1, h2, h⟩, q, qe⟩ := hS
  have eM := vy hb
  have d1 : ∀ o a, (M a).isSome = (aF M b o a).isSome := fun o a => by have := iI M b .cY o a; rwa [eM] at this
  rw [← eM] at m
  obtain ⟨c, m0, hc, hm, hO⟩ := Iv m
  refine ⟨β, ds, aF M b (.lst [.int c, .int m0]), fun d M' => ∃ (k : Nat) (c' m' : Int), d = .int (k : Nat) ∧ (k : Int) < n ∧ 0 ≤ c' ∧ 0 ≤ m' ∧ M' = aF M b (.lst [.int c', .int m']), fun _ _ => False, eP, ew, eK, et, m.chg hO, ⟨rs.len, fun i v d x y => (rs.at' i v d x y).dom (d1 _)⟩, ⟨b, n, c, m0, e, updM_same, hc, hm, h1, h2, fun d c' m' h3 h4 h5 => ⟨d, c', m', rfl, h3, h4, h5, updM_updM⟩⟩, fun d M' v H' x r hQ => ?_, fun _ _ _ _ h => h.elim⟩
  obtain ⟨k, c', m', rfl, hk, CC, nX, rfl⟩ := hQ
  have hB := zy x.mz CC nX
  have x2 := Ex.chg (o2 := .cY) x hB
  rw [eM] at x2
  exact q _ _ _ _ x2 (r.dom fun a => (d1 _ a).symm) (h k hk)
theorem qK {α β : Type} (f : α → β) : ∀ (l : List α) (i : Nat), (l.map f).eraseIdx i = (l.eraseIdx i).map f
  | [], _ => rfl
  | _ :: _, 0 => rfl
  | a :: l, i + 1 => by
    show f a :: (l.map f).eraseIdx i = f a :: (l.eraseIdx i).map f
    rw [qK f l i]
theorem eY {α : Type} : ∀ (l : List α) (i : Nat) (h : i < l.length), (l[i] :: l.eraseIdx i).Perm l
  | a :: l, 0, _ => .refl _
  | a :: l, i + 1, h => by
    have h' : i < l.length := by simpa using h
    show (l[i] :: a :: l.eraseIdx i).Perm (a :: l)
    exact (List.Perm.swap a l[i] _).trans ((eY l i h').cons a)
structure eF (n : Nat) (os : List Int) : Prop where
  perm : os.Perm ((List.range n).map fun i : Nat => (i : Int))
theorem eF.len {n : Nat} {os : List Int} (h : eF n os) : os.length = n := by
  have := h.perm.length_eq
  simpa using this
theorem eF.mem {n : Nat} {os : List Int} (h : eF n os) {x : Int} (hx : x ∈ os) : 0 ≤ x ∧ x < n := by
  have := h.perm.mem_iff.mp hx
  obtain ⟨i, hi, rfl⟩ := List.mem_map.mp this
  have := List.mem_range.mp hi
  omega
theorem eF.at {n : Nat} {os : List Int} (h : eF n os) {i : Nat} (hi : i < n) : ∃ x : Int, cW (os.map Dv.int) (i : Int) = some (.int x) ∧ 0 ≤ x ∧ x < n := by
  have hl : i < os.length := by rw [h.len]; exact hi
  exact ⟨os[i], cQ (by rw [List.getElem?_map, List.getElem?_eq_getElem hl]; rfl), h.mem (List.getElem_mem hl)⟩
noncomputable def zG : cj := fun ds M Q _ => ∃ (b : Addr) (n : Nat), ds = [.ptr b, .int (n : Nat)] ∧ M b = some .cY ∧ n ≤ 100 ∧ ∀ os, eF n os → Q (jw os) M
noncomputable def Dk : cj := fun ds M Q _ => ∃ (b : Addr) (most : Nat), ds = [.ptr b, .int (most : Nat)] ∧ M b = some .cY ∧ 1 ≤ most ∧ most ≤ 9 ∧ ∀ aq n, iu aq n → aq.length ≤ most → Q (eN aq) M
theorem ER {n d : Nat} (h : d < n) : seqIndex? (d : Int) n = some d := (oS (n := n) (i := (d : Int)) (j := d) (by unfold gW; rw [if_pos (by omega), if_pos (by omega)]; rfl)).1
theorem tF {f1 : Addr} {bG : FuncData} (D : Df K mg "_law_order" eW ["_law_bag_here", "_law_many"] f fd)
    (ah : Df K mg "_law_take" cP ["_law_bag_here", "_law_many"] f1 bG) (aP : FnOk P w K mg base bt 1 f1 bG ["_law_bag_here", "_law_many"] (aY P w K tb jB)) (bl : Bl mg) : FnOk P w K mg base bt 2 f fd ["_law_bag_here", "_law_many"] (aY P w K tb zG) := by
  refine fJ D kQ (fun ds M Q E hS => by obtain ⟨b, n, e, _⟩ := hS; rw [e]; rfl) fun A outer s E Γ ds Q' E' hP hw hK ht hr hS => ?_
  obtain ⟨b, n, e, hb, hn, q⟩ := hS
  refine ⟨_, (aj (aJ (i := 2) kQ.nd rfl (Or.inr rfl) (qU rfl rfl bl.list_ rfl bl.range_ (qv 1)))
    (az (bg (eE (N' := ["_law_k", "_law_free", "_law_bag_here", "_law_many"]) (tn := 1) (idx := [2, 0, 1]) rfl (show aK ["_law_bag_here", "_law_many", "_law_free"] (ai eW) _ ["_law_k", "_law_free", "_law_bag_here", "_law_many"] 1 [2, 0, 1] from by decide +kernel) (dq rfl bl.range_ (aa (qv 1) ae)) (fun _ _ _ _ _ => (bF (i := 0) (show List.Nodup [("_law_k" : Str), ("_law_free" : Str), ("_law_bag_here" : Str), ("_law_many" : Str)] from by decide +kernel) rfl (Or.inl rfl))) (fun _ _ _ _ _ => cR) (fun _ _ _ _ _ => (oC (K := K) rfl PySem.F.plainAttrs_list PySem.F.slot_list_pop PySem.F.type_list_pop Es (qv 1) (aa (aG aP (hr.mono (by decide)) rfl ah.mg ah.fn.kp ah.bd bb hP hw hK ht XR.none (aa (qv 2) (aa (aD rk (qv 3) (qv 0)) ae))) ae))))))), ?_⟩
  subst e
  simp! only []
  refine ⟨by omega, by omega, fun a ha => ⟨by omega, by omega, ?_⟩⟩
  have Qb : b ≠ a := fun z => by rw [z, ha] at hb; cases hb
  refine ⟨Nat.lt_of_le_of_lt hn (by decide), fL (acc := []) (fun acc τ M => ∃ rest got : List Int, acc = got.map Dv.int ∧ (∃ x, τ = [x, some (.ptr a), some (.ptr b), some (.int (n : Nat))]) ∧ M a = some (.lst (rest.map .int)) ∧ (∀ c, c ≠ a → M c = Γ.M0 c) ∧ (got ++ rest).Perm ((List.range n).map fun i : Nat => (i : Int))) ⟨(List.range n).map fun i : Nat => (i : Int), [], rfl, ⟨_, rfl⟩, by rw [updM_same, jb, List.map_map]; rfl, fun c hc => ax hc, .refl _⟩ (fun i d acc τ M hd hl ⟨rest, got, e1, ⟨x, e2⟩, h1, h2, h3⟩ R hR => ?_) (fun ys τ M hl ⟨rest, got, e1, ⟨x, e2⟩, h1, h2, h3⟩ => ?_)⟩
  · subst e1 e2
    obtain ⟨rfl, hi⟩ := g7 hd
    have hlen : got.length + rest.length = n := by have := h3.length_eq; simpa using this
    have hl : got.length = i := by simpa using hl
    simp! only []
    refine ⟨by rw [h1]; trivial, b, _, rfl, (by rw [h2 b Qb]; exact hb), by omega, by omega, fun d hd => ?_⟩
    have qp : d < rest.length := by omega
    simp only [h1, List.length_map, ER qp, List.getElem?_map, List.getElem?_eq_getElem qp, Option.map_some]
    refine ⟨by omega, by omega, hR _ _ _ ⟨rest.eraseIdx d, got ++ [rest[d]], by rw [List.map_append]; rfl, ⟨_, rfl⟩, by rw [updM_same, qK], fun c hc => by rw [ax hc]; exact h2 c hc, ?_⟩⟩
    refine List.Perm.trans ?_ h3
    rw [List.append_assoc]
    exact List.Perm.append_left got (eY rest d qp)
  · simp only [List.nil_append] at e1
    subst e1
    have hlen : got.length + rest.length = n := by have := h3.length_eq; simpa using this
    have hl : got.length = n := by simpa [rangeD_len] using hl
    have Qc : rest = [] := List.eq_nil_of_length_eq_zero (by omega)
    rw [Qc, List.append_nil] at h3
    exact qF (fun c o e => by rw [h2 c (fun z => by rw [z, ha] at e; cases e)]; exact e) (.lst (gH _)) (q got ⟨h3⟩)
end
section
variable {P : Program} {w : World} {K : PySem.W.Frag} {mg : Str → Option Value} {base : Heap} {tb : cg}
noncomputable def fh (n ways : Nat) (row : List Int) : Prop := row.length = ways ∧ ∀ x ∈ row, 0 ≤ x ∧ x < (n : Int)
structure cD (M0 M : Mh) (r : Addr) (as : List Addr) (n ways : Nat) : Prop where
  kp : Keeps M0 M
  r0 : M0 r = none
  rm : M r = some (.lst (as.map .ptr))
  fr : ∀ a ∈ as, M0 a = none ∧ a ≠ r
  len : as.length = n
  row : ∀ a ∈ as, ∃ row : List Int, M a = some (.lst (row.map .int)) ∧ fh n ways row
  pin : ∀ b o, M b = some o → M0 b = some o ∨ b = r ∨ (∃ row : List Int, o = .lst (row.map .int)) ∨ ∃ bs : List Addr, o = .lst (bs.map .ptr) ∧ ∀ c ∈ bs, c ≠ r ∧ ∃ o, M c = some o
theorem cD.sx {M0 M : Mh} {r : Addr} {as : List Addr} {n ways : Nat} (h : cD M0 M r as n ways) {a : Addr} (ha : a ∈ as) {row : List Int} (o : fh n ways row) : cD M0 (aF M a (.lst (row.map .int))) r as n ways := by
  obtain ⟨f0, f1⟩ := h.fr a ha
  refine ⟨.upd f0 h.kp, h.r0, by rw [ax (Ne.symm f1)]; exact h.rm, h.fr, h.len, fun c hc => ?_, fun b u e => ?_⟩
  · by_cases z : c = a
    · subst z; exact ⟨row, updM_same, o⟩
    · rw [ax z]; exact h.row c hc
  · by_cases z : b = a
    · subst z; rw [updM_same] at e; cases e; exact .inr (.inr (.inl ⟨row, rfl⟩))
    · rw [ax z] at e
      rcases h.pin b u e with q | q | q | ⟨bs, q1, q2⟩
      · exact .inl q
      · exact .inr (.inl q)
      · exact .inr (.inr (.inl q))
      · refine .inr (.inr (.inr ⟨bs, q1, fun c hc => ⟨(q2 c hc).1, ?_⟩⟩))
        by_cases z : c = a
        · subst z; exact ⟨_, updM_same⟩
        · rw [ax z]; exact (q2 c hc).2
theorem cD.put {M0 M : Mh} {r : Addr} {as : List Addr} {n ways : Nat} (h : cD M0 M r as n ways) {a : Addr} (ha : M a = none) {row : List Int} (o : fh n ways row) {i : Nat} (hi : i < n) : cD M0 (aF (aF M a (.lst (row.map .int))) r (.lst ((as.map .ptr).set i (.ptr a)))) r (as.set i a) n ways := by
  have nr : a ≠ r := fun z => by rw [z, h.rm] at ha; cases ha
  have a0 : M0 a = none := by
    cases e : M0 a with
    | none => rfl
    | some u => rw [h.kp a u e] at ha; cases ha
  have Qd : a ∉ as := fun z => by obtain ⟨row, e, _⟩ := h.row a z; rw [ha] at e; cases e
  refine ⟨.upd h.r0 (.upd a0 h.kp), h.r0, by rw [updM_same, List.map_set], fun c hc => ?_, by rw [List.length_set]; exact h.len, fun c hc => ?_, fun b u e => ?_⟩
  · rcases List.mem_or_eq_of_mem_set hc with z | z
    · exact h.fr c z
    · rw [z]; exact ⟨a0, nr⟩
  · rcases List.mem_or_eq_of_mem_set hc with z | z
    · have n1 := (h.fr c z).2
      have n2 : c ≠ a := fun e => Qd (e ▸ z)
      rw [ax n1, ax n2]; exact h.row c z
    · rw [z, ax nr, updM_same]; exact ⟨row, rfl, o⟩
  · by_cases z : b = r
    · exact .inr (.inl z)
    · rw [ax z] at e
      by_cases z2 : b = a
      · subst z2; rw [updM_same] at e; cases e; exact .inr (.inr (.inl ⟨row, rfl⟩))
      · rw [ax z2] at e
        rcases h.pin b u e with q | q | q | ⟨bs, q1, q2⟩
        · exact .inl q
        · exact .inr (.inl q)
        · exact .inr (.inr (.inl q))
        · refine .inr (.inr (.inr ⟨bs, q1, fun c hc => ⟨(q2 c hc).1, ?_⟩⟩))
          rw [ax (q2 c hc).1]
          by_cases z : c = a
          · subst z; exact ⟨_, updM_same⟩
          · rw [ax z]; exact (q2 c hc).2
structure jh (M0 M : Mh) : Prop where
  kp : Keeps M0 M
  pin : ∀ b o, M b = some o → M0 b = some o ∨ (∃ row : List Int, o = .lst (row.map .int)) ∨ ∃ bs : List Addr, o = .lst (bs.map .ptr) ∧ ∀ c ∈ bs, ∃ o, M c = some o
theorem jh.refl {M0 : Mh} : jh M0 M0 := ⟨.refl, fun b o e => .inl e⟩
theorem iF {M0 M : Mh} (h : Keeps M0 M) {a : Addr} (ha : M a = none) : M0 a = none := by
  cases e : M0 a with
  | none => rfl
  | some u => rw [h a u e] at ha; cases ha
theorem jh.row {M0 M : Mh} (h : jh M0 M) {a : Addr} (ha : M a = none) (row : List Int) : jh M0 (aF M a (.lst (row.map .int))) := by
  refine ⟨.upd (iF h.kp ha) h.kp, fun b o e => ?_⟩
  by_cases z : b = a
  · subst z; rw [updM_same] at e; cases e; exact .inr (.inl ⟨row, rfl⟩)
  · rw [ax z] at e
    rcases h.pin b o e with q | q | ⟨bs, q1, q2⟩
    · exact .inl q
    · exact .inr (.inl q)
    · refine .inr (.inr ⟨bs, q1, fun c hc => ?_⟩)
      by_cases z : c = a
      · subst z; exact ⟨_, updM_same⟩
      · rw [ax z]; exact q2 c hc
theorem cD.own {M0 M : Mh} {r : Addr} {as : List Addr} {n ways : Nat} (h : cD M0 M r as n ways) : jh M0 M := ⟨h.kp, fun b o e => by
  rcases h.pin b o e with q | q | q | ⟨bs, q1, q2⟩
  · exact .inl q
  · subst q; rw [h.rm] at e; cases e
    exact .inr (.inr ⟨as, rfl, fun c hc => let ⟨row, e, _⟩ := h.row c hc; ⟨_, e⟩⟩)
  · exact .inr (.inl q)
  · exact .inr (.inr ⟨bs, q1, fun c hc => (q2 c hc).2⟩)⟩
theorem cD.mk' {M0 M : Mh} {r : Addr} {as : List Addr} {n ways : Nat} (h : jh M0 M) (hr : M r = none) (hl : as.length = n) (ha : ∀ a ∈ as, M0 a = none ∧ ∃ row : List Int, M a = some (.lst (row.map .int)) ∧ fh n ways row) : cD M0 (aF M r (.lst (as.map .ptr))) r as n ways := by
  have ne : ∀ {c o}, M c = some o → c ≠ r := fun e z => by rw [z, hr] at e; cases e
  refine ⟨.upd (iF h.kp hr) h.kp, iF h.kp hr, updM_same, fun a h => ?_, hl, fun a h => ?_, fun b o e => ?_⟩
  · obtain ⟨h0, row, e, _⟩ := ha a h
    exact ⟨h0, ne e⟩
  · obtain ⟨h0, row, e, o⟩ := ha a h
    exact ⟨row, by rw [ax (ne e)]; exact e, o⟩
  · by_cases z : b = r
    · exact .inr (.inl z)
    · rw [ax z] at e
      rcases h.pin b o e with q | q | ⟨bs, q1, q2⟩
      · exact .inl q
      · exact .inr (.inr (.inl q))
      · refine .inr (.inr (.inr ⟨bs, q1, fun c hc => ?_⟩))
        obtain ⟨u, e⟩ := q2 c hc
        exact ⟨ne e, u, by rw [ax (ne e)]; exact e⟩
theorem rA {g : cA} {te : aS} {n : Nat} {M1 : Mh} (T : ay → Prop) {ds : List Dv} {τ : ay} {Q : List Dv → Mh → Prop} (h0 : T τ) (h : ∀ d ∈ ds, ∀ τ, T τ → ∀ R : ay → ZK, (∀ (x : Int) aE, 0 ≤ x → x < (n : Int) → T aE → R aE (.int x) M1) → g d τ M1 fun aE M2 => te aE M2 (R aE)) (q : ∀ row : List Int, row.length = ds.length → (∀ x ∈ row, 0 ≤ x ∧ x < (n : Int)) → Q (row.map .int) M1) : gv g zNoIf te ds τ M1 Q := by
  refine fL (acc := []) (fun acc τ M => ∃ row : List Int, acc = row.map Dv.int ∧ (∀ x ∈ row, 0 ≤ x ∧ x < (n : Int)) ∧ T τ ∧ M = M1) ⟨[], rfl, (fun _ h => nomatch h), h0, rfl⟩ (fun i d acc τ M hd _ ⟨row, e1, hr, ht, e2⟩ R hR => ?_) (fun ys τ M hl ⟨row, e1, hr, ht, e2⟩ => ?_)
  · subst e1 e2
    refine h d (List.mem_of_getElem? hd) τ ht R fun x aE x0 x1 t2 => hR _ _ _ ⟨row ++ [x], by rw [List.map_append]; rfl, fun y hy => ?_, t2, rfl⟩
    rcases List.mem_append.mp hy with z | z
    · exact hr y z
    · rw [List.mem_singleton] at z; rw [z]; exact ⟨x0, x1⟩
  · rw [List.nil_append] at e1
    subst e1 e2
    exact q row (by simpa using hl) hr
noncomputable def dW (x : Option Dv) : Prop := ∀ M d, x = some d → Pin M d
theorem dW.none : dW none := fun _ _ h => nomatch h
theorem dW.int (i : Int) : dW (some (.int i)) := fun _ _ h => by cases h; exact .int i
theorem dW.lI (ns : List Int) : dW (some (jw ns)) := fun _ _ h => by cases h; exact .lst (gH ns)
theorem qM {M0 M : Mh} {as : List Addr} {n ways : Nat} {T : Prop} (hO : jh M0 M) (ha : ∀ a ∈ as, M0 a = none ∧ ∃ row : List Int, M a = some (.lst (row.map .int)) ∧ fh n ways row) {a : Addr} (h : M a = none) {row : List Int} (o : fh n ways row) (t : T) :
    ∃ Mb : List Addr, as.map Dv.ptr ++ [Dv.ptr a] = Mb.map Dv.ptr ∧ T ∧ jh M0 (aF M a (.lst (row.map .int))) ∧ ∀ c ∈ Mb, M0 c = none ∧ ∃ wO : List Int, aF M a (.lst (row.map .int)) c = some (.lst (wO.map .int)) ∧ fh n ways wO := by
  refine ⟨as ++ [a], by rw [List.map_append]; rfl, t, hO.row h row, fun c hc => ?_⟩
  rcases List.mem_append.mp hc with z | z
  · obtain ⟨h0, wO, e, o'⟩ := ha c z
    have ne : c ≠ a := fun q => by rw [q, h] at e; cases e
    exact ⟨h0, wO, by rw [ax ne]; exact e, o'⟩
  · rw [List.mem_singleton] at z
    subst z
    exact ⟨iF hO.kp h, row, updM_same, o⟩
theorem my {n d : Nat} (h : d < n) : gW n (d : Int) = some d := by unfold gW; rw [if_pos (by omega), if_pos (by omega)]; rfl
theorem tG (row : List Int) (t : Nat) (x : Int) : (row.map Dv.int).set t (.int x) = (row.set t x).map Dv.int := by rw [List.map_set]
theorem fh.set {n ways : Nat} {row : List Int} (h : fh n ways row) {t : Nat} {x : Int} (x0 : 0 ≤ x) (x1 : x < (n : Int)) : fh n ways (row.set t x) := ⟨by rw [List.length_set]; exact h.1, fun y hy => by
  rcases List.mem_or_eq_of_mem_set hy with z | z
  · exact h.2 y z
  · rw [z]; exact ⟨x0, x1⟩⟩
noncomputable def oK (os : List Int) : Dv → Int | .int j => os.getD j.toNat 0 | _ => 0
theorem tH {os : List Int} {j : Nat} {x : Int} (h : cW (os.map Dv.int) (j : Int) = some (.int x)) : oK os (.int (j : Nat)) = x := by
  by_cases hj : j < os.length
  · rw [cQ (j := j) (v := Dv.int os[j]) (by rw [List.getElem?_map, List.getElem?_eq_getElem hj]; rfl)] at h
    cases h
    show os.getD (Int.toNat (j : Int)) 0 = _
    rw [Int.toNat_natCast, List.getD_eq_getElem?_getD, List.getElem?_eq_getElem hj]; rfl
  · unfold cW gW at h
    rw [if_pos (by omega), if_neg (by simp; omega)] at h
    cases h
noncomputable def BG (per i : Nat) : Dv → Bool | .int j => decide (j % (per : Int) = ((i : Int) + 1) % (per : Int)) | _ => false
theorem BH {n per i : Nat} {os : List Int} (gi : eF n os) (p1 : 1 ≤ per) (pn : per ≤ n) : ∃ gs : List Int, ((dR 0 n).filter (BG per i)).map (fun d => Dv.int (oK os d)) = gs.map Dv.int ∧ 1 ≤ gs.length ∧ gs.length ≤ n ∧ ∀ x ∈ gs, 0 ≤ x ∧ x < (n : Int) := by
  refine ⟨((dR 0 n).filter (BG per i)).map (oK os), by rw [List.map_map]; rfl, ?_, ?_, fun x hx => ?_⟩
  · rw [List.length_map]
    refine List.length_pos_of_mem (a := Dv.int (((i + 1) % per : Nat) : Int)) (List.mem_filter.mpr ⟨?_, ?_⟩)
    · have : (i + 1) % per < per := Nat.mod_lt _ (by omega)
      exact List.mem_of_getElem? (i := (i + 1) % per) (by rw [dR, List.getElem?_map, List.getElem?_range (by omega)]; simp)
    · show decide _ = true
      rw [decide_eq_true_eq]
      push_cast
      exact Int.emod_emod_of_dvd _ (Int.dvd_refl _)
  · rw [List.length_map]
    exact Nat.le_trans (List.length_filter_le _ _) (by rw [rangeD_len]; exact Nat.le_refl _)
  · obtain ⟨d, hd, rfl⟩ := List.mem_map.mp hx
    obtain ⟨j, hj, rfl⟩ := oF (List.mem_filter.mp hd).1
    rw [Int.zero_add]
    obtain ⟨gx, mU, g0, g1⟩ := gi.at hj
    rw [tH mU]
    exact ⟨g0, g1⟩
theorem wQ {f f1 f2 : Addr} {fd bG fd2 : FuncData} (D : Df K mg "_law_net" b6 ["_law_bag_here", "_law_most"] f fd)
    (ah : Df K mg "_law_take" cP ["_law_bag_here", "_law_many"] f1 bG) (aP : FnOk P w K mg base bt 1 f1 bG ["_law_bag_here", "_law_many"] (aY P w K tb jB))
    (b7 : Df K mg "_law_order" eW ["_law_bag_here", "_law_many"] f2 fd2) (lP : FnOk P w K mg base bt 2 f2 fd2 ["_law_bag_here", "_law_many"] (aY P w K tb zG)) (bl : Bl mg) : FnOk P w K mg base bt 3 f fd ["_law_bag_here", "_law_most"] (aY P w K tb Dk) := by
  refine fJ D bo (fun ds M Q E hS => by obtain ⟨b, n, e, _⟩ := hS; rw [e]; rfl) fun A outer s E Γ ds Q' E' hP hw hK ht hr hS => ?_
  obtain ⟨b, most, e, hb, h1, h9, q⟩ := hS
  refine ⟨_, (aj (aJ (i := 2) bo.nd rfl (Or.inr rfl) (aD fF af (aG aP (hr.mono (by decide)) rfl ah.mg ah.fn.kp ah.bd bb hP hw hK ht XR.none (aa (qv 0) (aa (qv 1) ae)))))
    (aj (aJ (i := 3) bo.nd rfl (Or.inr rfl) (aD fF af (aG aP (hr.mono (by decide)) rfl ah.mg ah.fn.kp ah.bd bb hP hw hK ht XR.none (aa (qv 0) (aa af ae)))))
    (aj (aJ (i := 4) bo.nd rfl (Or.inl rfl) (aG aP (hr.mono (by decide)) rfl ah.mg ah.fn.kp ah.bd bb hP hw hK ht XR.none (aa (qv 0) (aa af ae))))
    (aj (uf (i := 5) bo.nd rfl rfl (N' := ["_law_place", "_law_bag_here", "_law_many", "_law_ways"]) (tn := 1) (idx := [0, 2, 3]) rfl (show aK ["_law_bag_here", "_law_most", "_law_many", "_law_ways", "_law_kind_here", "_law_rows", "_law_order_here", "_law_period", "_law_stays", "_law_k", "_law_place", "_law_onward", "_law_goals", "_law_turns"] (ai b6) _ ["_law_place", "_law_bag_here", "_law_many", "_law_ways"] 1 [0, 2, 3] from by decide +kernel) (dq rfl bl.range_ (aa (qv 2) ae)) (fun _ _ _ _ _ => (bF (i := 0) (show List.Nodup [("_law_place" : Str), ("_law_bag_here" : Str), ("_law_many" : Str), ("_law_ways" : Str)] from by decide +kernel) rfl (Or.inl rfl))) (fun _ _ _ _ _ => cR) (fun _ _ _ _ _ => (ja (N' := ["_law_road", "_law_bag_here", "_law_many"]) (tn := 1) (idx := [1, 2]) rfl (aK.rel (show aK ["_law_place", "_law_bag_here", "_law_many", "_law_ways"] _ _ ["_law_road", "_law_bag_here", "_law_many"] 1 [1, 2] from by decide +kernel)) (dq rfl bl.range_ (aa (qv 3) ae)) (fun _ _ _ _ _ => (bF (i := 0) (show List.Nodup [("_law_road" : Str), ("_law_bag_here" : Str), ("_law_many" : Str)] from by decide +kernel) rfl (Or.inl rfl))) (fun _ _ _ _ _ => cR) (fun _ _ _ _ _ => (aG aP (hr.mono (by decide)) rfl ah.mg ah.fn.kp ah.bd bb hP hw hK ht XR.none (aa (qv 1) (aa (qv 2) ae)))))))
    (aj (aJ (i := 6) bo.nd rfl (Or.inr rfl) (aG lP (hr.mono (by decide)) rfl b7.mg b7.fn.kp b7.bd bb hP hw hK ht XR.none (aa (qv 0) (aa (qv 2) ae))))
    (aj (aJ (i := 7) bo.nd rfl (Or.inr rfl) (aD fF af (aG aP (hr.mono (by decide)) rfl ah.mg ah.fn.kp ah.bd bb hP hw hK ht XR.none (aa (qv 0) (aa (qv 2) ae)))))
    (aj (aJ (i := 8) bo.nd rfl (Or.inr rfl) (aG aP (hr.mono (by decide)) rfl ah.mg ah.fn.kp ah.bd bb hP hw hK ht XR.none (aa (qv 0) (aa af ae))))
    (aj (oz PassesOwn.never rfl (Et true (K := K) rfl rfl bl.enumerate_ (qv 6)) (fun Di eP ew eK et => by have hP := hP.trans eP.symm; have hw := hw.trans ew.symm; have hK := hK.trans eK.symm; have ht := ht.trans et.symm; exact ⟨(HF (n := 2) rfl (sQ (bF (i := 9) bo.nd rfl (Or.inr rfl)) (sQ (bF (i := 10) bo.nd rfl (Or.inr rfl)) Em))), (aj (aJ (i := 11) bo.nd rfl (Or.inr rfl) (cB (eH (K := K) rfl) (qv 6) (aD iA (aD fF (qv 9) af) (qv 2)) (fun _ _ => rfl)))
    (aj (cM (sP o7 o7 af (qv 4) af)
      (az (jX (qv 11) (jY (cB (eH (K := K) rfl) (qv 5) (qv 10) (fun _ _ => rfl)) (aG aP (hr.mono (by decide)) rfl ah.mg ah.fn.kp ah.bd bb hP hw hK ht XR.none (aa (qv 0) (aa (qv 3) ae))))))
      qss_nil)
    (aj (cM (bT kb (qv 4) af (bY _))
      (aj (aJ (i := 12) bo.nd rfl (Or.inr rfl) (eE (N' := ["_law_j", "_law_order_here", "_law_period", "_law_k"]) (tn := 1) (idx := [6, 7, 9]) rfl (show aK ["_law_bag_here", "_law_most", "_law_many", "_law_ways", "_law_kind_here", "_law_rows", "_law_order_here", "_law_period", "_law_stays", "_law_k", "_law_place", "_law_onward", "_law_goals", "_law_turns"] (ai b6) _ ["_law_j", "_law_order_here", "_law_period", "_law_k"] 1 [6, 7, 9] from by decide +kernel) (dq rfl bl.range_ (aa (qv 2) ae)) (fun _ _ _ _ _ => (bF (i := 0) (show List.Nodup [("_law_j" : Str), ("_law_order_here" : Str), ("_law_period" : Str), ("_law_k" : Str)] from by decide +kernel) rfl (Or.inl rfl))) (fun _ _ _ _ _ => (Ep (bT kb (aD iA (qv 0) (qv 2)) (aD iA (aD fF (qv 3) af) (qv 2)) (bY _)))) (fun _ _ _ _ _ => (cB (eH (K := K) rfl) (qv 1) (qv 0) (fun _ _ => rfl)))))
    (az (jX (ja (N' := ["_law_road", "_law_goals", "_law_bag_here"]) (tn := 1) (idx := [12, 0]) rfl (show aK ["_law_bag_here", "_law_most", "_law_many", "_law_ways", "_law_kind_here", "_law_rows", "_law_order_here", "_law_period", "_law_stays", "_law_k", "_law_place", "_law_onward", "_law_goals", "_law_turns"] (ai b6) _ ["_law_road", "_law_goals", "_law_bag_here"] 1 [12, 0] from by decide +kernel) (dq rfl bl.range_ (aa (qv 3) ae)) (fun _ _ _ _ _ => (bF (i := 0) (show List.Nodup [("_law_road" : Str), ("_law_goals" : Str), ("_law_bag_here" : Str)] from by decide +kernel) rfl (Or.inl rfl))) (fun _ _ _ _ _ => cR) (fun _ _ _ _ _ => (cB (eH (K := K) rfl) (qv 1) (aG aP (hr.mono (by decide)) rfl ah.mg ah.fn.kp ah.bd bb hP hw hK ht XR.none (aa (qv 2) (aa (av (d8 (K := K) rfl hK) rfl bl.len_ PySem.boot_len (aa (qv 1) ae)) ae))) (fun _ _ => rfl)))) (jY (qv 5) (qv 10)))))
      qss_nil)
    (az (cM (bT kb (qv 4) af (bY _))
      (az (jX (aD (EI (K := K) rfl) (b5 (aa (qv 11) ae)) (eE (N' := ["_law_road", "_law_stays", "_law_onward", "_law_place"]) (tn := 1) (idx := [8, 11, 10]) rfl (show aK ["_law_bag_here", "_law_most", "_law_many", "_law_ways", "_law_kind_here", "_law_rows", "_law_order_here", "_law_period", "_law_stays", "_law_k", "_law_place", "_law_onward", "_law_goals", "_law_turns"] (ai b6) _ ["_law_road", "_law_stays", "_law_onward", "_law_place"] 1 [8, 11, 10] from by decide +kernel) (yZ rfl bl.range_ (aa af (aa (qv 3) ae))) (fun _ _ _ _ _ => (bF (i := 0) (show List.Nodup [("_law_road" : Str), ("_law_stays" : Str), ("_law_onward" : Str), ("_law_place" : Str)] from by decide +kernel) rfl (Or.inl rfl))) (fun _ _ _ _ _ => cR) (fun _ _ _ _ _ => (cB (eH (K := K) rfl) (b5 (aa (qv 2) (aa (qv 3) ae))) (qv 1) (fun _ _ => rfl))))) (jY (qv 5) (qv 10))))
      qss_nil)))))⟩))
    (aj (cM (bT kb (qv 4) af (bY _))
      (aj (aJ (i := 13) bo.nd rfl (Or.inr rfl) (eE (N' := ["_law_road", "_law_bag_here", "_law_many"]) (tn := 1) (idx := [0, 2]) rfl (show aK ["_law_bag_here", "_law_most", "_law_many", "_law_ways", "_law_kind_here", "_law_rows", "_law_order_here", "_law_period", "_law_stays", "_law_k", "_law_place", "_law_onward", "_law_goals", "_law_turns"] (ai b6) _ ["_law_road", "_law_bag_here", "_law_many"] 1 [0, 2] from by decide +kernel) (dq rfl bl.range_ (aa (qv 3) ae)) (fun _ _ _ _ _ => (bF (i := 0) (show List.Nodup [("_law_road" : Str), ("_law_bag_here" : Str), ("_law_many" : Str)] from by decide +kernel) rfl (Or.inl rfl))) (fun _ _ _ _ _ => cR) (fun _ _ _ _ _ => (aG lP (hr.mono (by decide)) rfl b7.mg b7.fn.kp b7.bd bb hP hw hK ht XR.none (aa (qv 1) (aa (qv 2) ae))))))
    (az (tu (i := 5) bo.nd rfl rfl (N' := ["_law_place", "_law_turns"]) (tn := 1) (idx := [13]) rfl (show dD ["_law_bag_here", "_law_most", "_law_many", "_law_ways", "_law_kind_here", "_law_rows", "_law_order_here", "_law_period", "_law_stays", "_law_k", "_law_place", "_law_onward", "_law_goals", "_law_turns"] (ai b6) _ ["_law_place", "_law_turns"] 1 [13] from by decide +kernel) (dq rfl bl.range_ (aa (qv 2) ae)) (fun _ _ _ _ _ => (bF (i := 0) (show List.Nodup [("_law_place" : Str), ("_law_turns" : Str)] from by decide +kernel) rfl (Or.inr rfl))) (fun _ _ _ _ _ => cR) (fun _ _ _ _ _ => (ja (N' := ["_law_turn", "_law_place"]) (tn := 1) (idx := [0]) rfl (aK.rel (show aK ["_law_place", "_law_turns"] _ _ ["_law_turn", "_law_place"] 1 [0] from by decide +kernel)) (o5 (K := K) rfl (qv 1)) (fun _ _ _ _ _ => (bF (i := 0) (show List.Nodup [("_law_turn" : Str), ("_law_place" : Str)] from by decide +kernel) rfl (Or.inl rfl))) (fun _ _ _ _ _ => cR) (fun _ _ _ _ _ => (cB (eH (K := K) rfl) (qv 0) (qv 1) (fun _ _ => rfl))))))))
      qss_nil)
    (aj (cM (QW.pt (rj (bT kb (qv 4) af (bY _)) (oo (QW.pt (HC (bT kb (qv 4) af (bY _)) (El (bT kb (qv 8) af (bY _))))))))
      (az (jX (aG aP (hr.mono (by decide)) rfl ah.mg ah.fn.kp ah.bd bb hP hw hK ht XR.none (aa (qv 0) (aa (qv 2) ae))) (jY (cB (eH (K := K) rfl) (qv 5) (cB (eH (K := K) rfl) (qv 6) af (fun _ _ => rfl)) (fun _ _ => rfl)) (aG aP (hr.mono (by decide)) rfl ah.mg ah.fn.kp ah.bd bb hP hw hK ht XR.none (aa (qv 0) (aa (qv 3) ae))))))
      qss_nil)
    (az (Ia 5 rfl (bg (fZ (vn (K := K) rfl) rfl bl.tuple_ iT (aa (eE (N' := ["_law_row"]) (tn := 1) (idx := []) rfl (show aK ["_law_bag_here", "_law_most", "_law_many", "_law_ways", "_law_kind_here", "_law_rows", "_law_order_here", "_law_period", "_law_stays", "_law_k", "_law_place", "_law_onward", "_law_goals", "_law_turns"] (ai b6) _ ["_law_row"] 1 [] from by decide +kernel) (o5 (K := K) rfl (qv 5)) (fun _ _ _ _ _ => (bF (i := 0) (show List.Nodup [("_law_row" : Str)] from by decide +kernel) rfl (Or.inl rfl))) (fun _ _ _ _ _ => cR) (fun _ _ _ _ _ => (fZ (vn (K := K) rfl) rfl bl.tuple_ iT (aa (qv 0) ae)))) ae))))))))))))))), ?_⟩
  subst e
  have big : (100 : Nat) < sizeLine := by decide
  refine Kt (fun ρ M => ∃ (n ways kind stays : Nat) (r : Addr) (as : List Addr) (os : List Int) (x7 x9 lQ lR eX : Option Dv), (dW x7 ∧ dW x9 ∧ dW lQ ∧ dW lR ∧ dW eX) ∧ ρ = [some (.ptr b), some (.int (most : Nat)), some (.int (n : Nat)), some (.int (ways : Nat)), some (.int (kind : Nat)), some (.ptr r), some (jw os), x7, some (.int (stays : Nat)), x9, lQ, lR, eX, none] ∧ cD Γ.M0 M r as n ways ∧ eF n os ∧ 1 ≤ n ∧ n ≤ most ∧ (ways = 2 ∨ ways = 3)) (fun N hN => ?_) ?_
  · simp! only []
    refine ⟨b, _, rfl, hb, by omega, by omega, fun m hm => ?_⟩
    obtain ⟨n, hn⟩ : ∃ n : Nat, (1 + (m : Int)) = (n : Nat) := ⟨1 + m, by omega⟩
    have n1 : 1 ≤ n := by omega
    have n9 : n ≤ most := by omega
    simp! only [hn]
    refine ⟨b, _, rfl, hb, by omega, by omega, fun v hv => ?_⟩
    obtain ⟨ways, Ky⟩ : ∃ ways : Nat, (2 + (v : Int)) = (ways : Nat) := ⟨2 + v, by omega⟩
    have w2 : ways = 2 ∨ ways = 3 := by omega
    simp! only [Ky]
    refine ⟨b, _, rfl, hb, by omega, by omega, fun kind jm => ?_⟩
    simp! only []
    refine ⟨by omega, by omega, by omega, ?_⟩
    refine fL (acc := []) (fun acc τ M => ∃ as : List Addr, acc = as.map Dv.ptr ∧ (∃ x, τ = [x, some (.ptr b), some (.int (n : Nat)), some (.int (ways : Nat))]) ∧ jh Γ.M0 M ∧ ∀ a ∈ as, Γ.M0 a = none ∧ ∃ row : List Int, M a = some (.lst (row.map .int)) ∧ fh n ways row) ⟨[], rfl, ⟨_, rfl⟩, .refl, fun _ h => nomatch h⟩ (fun i d acc τ M hd _ ⟨as, e1, ⟨x, e2⟩, hO, ha⟩ R hR => ?_) (fun ys τ M hl ⟨as, e1, ⟨x, e2⟩, hO, ha⟩ => ?_)
    · subst e1 e2
      simp! only []
      refine ⟨by omega, by omega, by omega, rA (n := n) (fun τ => ∃ y, τ = [y, some (.ptr b), some (.int (n : Nat))]) ⟨_, rfl⟩ (fun d hd τ ⟨y, e⟩ R2 IC => ?_) (fun row hl ji a jr => ?_)⟩
      · subst e
        simp! only []
        exact ⟨b, _, rfl, hO.kp _ _ hb, by omega, by omega, fun d hd => IC _ _ (by omega) (by omega) ⟨_, rfl⟩⟩
      · exact hR _ _ _ (qM hO ha jr ⟨by simpa [rangeD_len] using hl, ji⟩ ⟨_, rfl⟩)
    · rw [List.nil_append] at e1
      subst e1 e2
      intro r Qe
      have RM := cD.mk' (n := n) (ways := ways) hO Qe (by simpa [rangeD_len] using hl) ha
      refine ⟨b, n, rfl, RM.kp _ _ hb, by omega, fun os gi => ?_⟩
      simp! only []
      refine ⟨b, _, rfl, RM.kp _ _ hb, by omega, by omega, fun pe Q6 => ?_⟩
      simp! only []
      refine ⟨b, _, rfl, RM.kp _ _ hb, by omega, by omega, fun stays ig => ?_⟩
      obtain ⟨per, NT⟩ : ∃ per : Nat, (1 + (pe : Int)) = (per : Nat) := ⟨1 + pe, by omega⟩
      simp! only [NT]
      have sv := gi.len
      refine lF (fun i ρ M => ∃ (as : List Addr) (x9 lQ lR eX : Option Dv), (dW x9 ∧ dW lQ ∧ dW lR ∧ dW eX) ∧ ρ = [some (.ptr b), some (.int (most : Nat)), some (.int (n : Nat)), some (.int (ways : Nat)), some (.int (kind : Nat)), some (.ptr r), some (jw os), some (.int (per : Nat)), some (.int (stays : Nat)), x9, lQ, lR, eX, none] ∧ cD Γ.M0 M r as n ways)
        ⟨as, _, _, _, _, ⟨.none, .none, .none, .none⟩, rfl, RM⟩ (fun i d ρ M N2 hd ⟨as, x9, lQ, lR, eX, ⟨p9, Dl, Dm, jC⟩, e1, RM⟩ Dj => ?_) (fun ρ M ⟨as, x9, lQ, lR, eX, ⟨p9, Dl, Dm, jC⟩, e1, RM⟩ => ?_)
      · subst e1
        have hd : (fy (jb (os.map Dv.int).length) (os.map Dv.int))[i]? = some d := by rw [List.length_map]; exact hd
        obtain ⟨y, rfl, hy⟩ := EA hd
        obtain ⟨place, cy, rfl⟩ := zf hy
        have hi : i < n := by have := (List.getElem?_eq_some_iff.mp cy).1; omega
        obtain ⟨Md, Qf⟩ := gi.mem (List.mem_of_getElem? cy)
        obtain ⟨pk, rfl⟩ := Int.eq_ofNat_of_zero_le Md
        have zH : pk < n := by omega
        have NU : ((i : Int) + 1) % (n : Int) = (((i + 1) % n : Nat) : Int) := by push_cast; rfl
        obtain ⟨on, Qg, Dn, IE⟩ := gi.at (i := (i + 1) % n) (Nat.mod_lt _ (by omega))
        obtain ⟨vA, rfl⟩ := Int.eq_ofNat_of_zero_le Dn
        have step : ∀ {as : List Addr} {M : Mh}, cD Γ.M0 M r as n ways → ∃ a, cW (as.map Dv.ptr) ((pk : Nat) : Int) = some (.ptr a) ∧ a ∈ as := fun {as M} RM => by
          have hl : pk < as.length := by rw [RM.len]; exact zH
          exact ⟨as[pk], cQ (by rw [List.getElem?_map, List.getElem?_eq_getElem hl]; rfl), List.getElem_mem hl⟩
        simp only [zgTup, zgCons, zgNil, zgName, List.set_cons_zero, List.set_cons_succ, List.length_cons, List.length_nil, Nat.reduceAdd, List.getElem?_cons_zero]
        refine ⟨trivial, ?_⟩
        refine iC (fun ρ M => ∃ (as : List Addr) (eX : Option Dv), dW eX ∧ ρ = [some (.ptr b), some (.int (most : Nat)), some (.int (n : Nat)), some (.int (ways : Nat)), some (.int (kind : Nat)), some (.ptr r), some (jw os), some (.int (per : Nat)), some (.int (stays : Nat)), some (.int (i : Nat)), some (.int (pk : Nat)), some (.int (vA : Nat)), eX, none] ∧ cD Γ.M0 M r as n ways) (fun N hN => ?_) ?_
        · simp! only [NU, Qg]
          exact ⟨by omega, hN _ _ ⟨as, _, jC, rfl, RM⟩⟩
        rintro ρ M ⟨as, eX, jC, rfl, RM⟩
        refine iC (fun ρ M => ∃ (as : List Addr) (eX : Option Dv), dW eX ∧ ρ = [some (.ptr b), some (.int (most : Nat)), some (.int (n : Nat)), some (.int (ways : Nat)), some (.int (kind : Nat)), some (.ptr r), some (jw os), some (.int (per : Nat)), some (.int (stays : Nat)), some (.int (i : Nat)), some (.int (pk : Nat)), some (.int (vA : Nat)), eX, none] ∧ cD Γ.M0 M r as n ways) (fun N hN => ?_) ?_
        · simp! only []
          refine fm (fun h => fm (fun h2 => ?_) (fun _ => hN _ _ ⟨as, _, jC, rfl, RM⟩)) (fun _ => hN _ _ ⟨as, _, jC, rfl, RM⟩)
          obtain ⟨a, ea, ha⟩ := step RM
          obtain ⟨row, em, ro⟩ := RM.row a ha
          simp only [RM.rm, ea]
          refine ⟨b, _, rfl, RM.kp _ _ hb, by omega, by omega, fun t ht => ?_⟩
          simp only [em, List.length_map, ro.1, my (show t < ways by omega)]
          rw [tG]
          exact hN _ _ ⟨as, _, jC, rfl, RM.sx ha (ro.set Dn IE)⟩
        rintro ρ M ⟨as, eX, jC, rfl, RM⟩
        refine iC (fun ρ M => ∃ (as : List Addr) (eX : Option Dv), dW eX ∧ ρ = [some (.ptr b), some (.int (most : Nat)), some (.int (n : Nat)), some (.int (ways : Nat)), some (.int (kind : Nat)), some (.ptr r), some (jw os), some (.int (per : Nat)), some (.int (stays : Nat)), some (.int (i : Nat)), some (.int (pk : Nat)), some (.int (vA : Nat)), eX, none] ∧ cD Γ.M0 M r as n ways) (fun N hN => ?_) ?_
        · simp! only []
          refine fm (fun h => ?_) (fun _ => hN _ _ ⟨as, _, jC, rfl, RM⟩)
          have Q7 : ∀ j : Nat, ((j : Int) % (per : Int)) = ((j % per : Nat) : Int) := fun j => by push_cast; rfl
          refine ⟨by omega, by omega, by omega, pf (BG per i) (fun d => .int (oK os d)) (fun τ M' => (∃ x, τ = [x, some (jw os), some (.int (per : Nat)), some (.int (i : Nat))]) ∧ M' = M) ⟨⟨_, rfl⟩, rfl⟩ (fun d hd τ M' ⟨⟨x, e⟩, eM⟩ R0 R h1 h2 => ?_) (fun τ M' ⟨⟨x, e⟩, eM⟩ => ?_)⟩
          · subst e eM
            obtain ⟨j, hj, rfl⟩ := oF hd
            simp only [Int.zero_add] at h1 h2 ⊢
            obtain ⟨gx, mU, g0, g1⟩ := gi.at hj
            have hg : oK os (.int (j : Nat)) = gx := tH mU
            simp! only [mU]
            refine ⟨by omega, by omega, fm (fun h => ?_) (fun h => ?_)⟩
            · rw [hg] at h1
              exact h1 h _ _ ⟨⟨_, rfl⟩, rfl⟩
            · exact h2 h _ _ ⟨⟨_, rfl⟩, rfl⟩
          · subst e eM
            obtain ⟨gs, Qh, Q8, Q9, Qi⟩ := BH (i := i) gi (per := per) (by omega) (by omega)
            rw [Qh]
            refine ⟨by omega, by omega, by omega, rA (n := n) (fun τ => ∃ y, τ = [y, some (jw gs), some (.ptr b)]) ⟨_, rfl⟩ (fun d hd τ ⟨y, e⟩ R hR => ?_) (fun row hl ji a jr => ?_)⟩
            · subst e
              simp! only []
              refine ⟨b, _, rfl, RM.kp _ _ hb, by omega, by omega, fun t ht => ?_⟩
              have Dp : t < gs.length := by omega
              simp only [show cW (gs.map Dv.int) (t : Int) = some (.int gs[t]) from cQ (by rw [List.getElem?_map, List.getElem?_eq_getElem Dp]; rfl)]
              obtain ⟨q0, q1⟩ := Qi _ (List.getElem_mem Dp)
              exact hR _ _ q0 q1 ⟨_, rfl⟩
            · have nr : r ≠ a := fun z => by rw [← z, RM.rm] at jr; cases jr
              simp only [ax nr, RM.rm, List.length_map, RM.len, my zH]
              exact hN _ _ ⟨_, _, .lI gs, rfl, RM.put jr ⟨by simpa [rangeD_len] using hl, ji⟩ zH⟩
        rintro ρ M ⟨as, eX, jC, rfl, RM⟩
        simp! only []
        refine fm (fun h => ?_) (fun _ => Dj _ _ ⟨as, _, _, _, _, ⟨.int _, .int _, .int _, jC⟩, rfl, RM⟩)
        refine ⟨by omega, ⟨by omega, by omega, by omega, by omega⟩, by omega, rA (n := n) (fun τ => ∃ y, τ = [y, some (.int (stays : Nat)), some (.int (vA : Nat)), some (.int (pk : Nat))]) ⟨_, rfl⟩ (fun d hd τ ⟨y, e⟩ R hR => ?_) (fun row hl ji => ⟨?_, fun a jr => ?_⟩)⟩
        · subst e
          simp! only []
          have Qj : stays = 0 ∨ stays = 1 := by omega
          rcases Qj with rfl | rfl
          · exact ⟨by omega, hR _ _ Dn IE ⟨_, rfl⟩⟩
          · exact ⟨by omega, hR _ _ Md Qf ⟨_, rfl⟩⟩
        · rw [List.length_map, hl, rangeD_len]; omega
        · have nr : r ≠ a := fun z => by rw [← z, RM.rm] at jr; cases jr
          have er : Dv.int (vA : Nat) :: row.map Dv.int = ((vA : Int) :: row).map Dv.int := rfl
          rw [er]
          simp only [ax nr, RM.rm, List.length_map, RM.len, my zH]
          refine Dj _ _ ⟨_, _, _, _, _, ⟨.int _, .int _, .int _, jC⟩, rfl, RM.put jr ⟨?_, fun x hx => ?_⟩ zH⟩
          · rw [List.length_cons, hl, rangeD_len]; omega
          · rcases List.mem_cons.mp hx with z | z
            · rw [z]; exact ⟨Dn, IE⟩
            · exact ji x z
      · exact hN _ _ ⟨n, ways, kind, stays, r, as, os, _, _, _, _, _, ⟨.int _, p9, Dl, Dm, jC⟩, e1, RM, gi, n1, n9, w2⟩
  · rintro ρ M ⟨n, ways, kind, stays, r, as, os, x7, x9, lQ, lR, eX, ⟨p7, p9, Dl, Dm, jC⟩, rfl, RM, gi, n1, n9, w2⟩
    have sv := gi.len
    refine iC (fun ρ M => ∃ (r : Addr) (as : List Addr) (kM : Option Dv), dW kM ∧ ρ = [some (.ptr b), some (.int (most : Nat)), some (.int (n : Nat)), some (.int (ways : Nat)), some (.int (kind : Nat)), some (.ptr r), some (jw os), x7, some (.int (stays : Nat)), x9, lQ, lR, eX, kM] ∧ cD Γ.M0 M r as n ways) (fun N hN => ?_) ?_
    · simp! only []
      refine fm (fun h => ?_) (fun _ => hN _ _ ⟨r, as, _, .none, rfl, RM⟩)
      refine ⟨by omega, by omega, by omega, fL (acc := []) (fun acc τ M' => ∃ ts : List (List Int), acc = ts.map jw ∧ (∃ x, τ = [x, some (.ptr b), some (.int (n : Nat))]) ∧ (∀ o ∈ ts, eF n o) ∧ M' = M) ⟨[], rfl, ⟨_, rfl⟩, (fun _ h => nomatch h), rfl⟩ (fun i d acc τ M' hd _ ⟨ts, e1, ⟨x, e2⟩, hT, eM⟩ R hR => ?_) (fun ys τ M' hl ⟨ts, e1, ⟨x, e2⟩, hT, eM⟩ => ?_)⟩
      · subst e1 e2 eM
        simp! only []
        refine ⟨b, n, rfl, RM.kp _ _ hb, by omega, fun o ho => hR _ _ _ ⟨ts ++ [o], by rw [List.map_append]; rfl, ⟨_, rfl⟩, fun c hc => ?_, rfl⟩⟩
        rcases List.mem_append.mp hc with z | z
        · exact hT c z
        · rw [List.mem_singleton] at z; rw [z]; exact ho
      · rw [List.nil_append] at e1
        subst e1 e2 eM
        have Dp : ts.length = ways := by simpa [rangeD_len] using hl
        refine ⟨by omega, by omega, by omega, fL (acc := []) (fun acc τ M => ∃ as : List Addr, acc = as.map Dv.ptr ∧ (∃ x, τ = [x, some (.lst (ts.map jw))]) ∧ jh Γ.M0 M ∧ ∀ a ∈ as, Γ.M0 a = none ∧ ∃ row : List Int, M a = some (.lst (row.map .int)) ∧ fh n ways row) ⟨[], rfl, ⟨_, rfl⟩, RM.own, fun _ h => nomatch h⟩ (fun i d acc τ M hd _ ⟨as, e1, ⟨x, e2⟩, hO, ha⟩ R hR => ?_) (fun ys τ M hl ⟨as, e1, ⟨x, e2⟩, hO, ha⟩ => ?_)⟩
        · subst e1 e2
          obtain ⟨rfl, hi⟩ := g7 hd
          simp! only []
          refine ⟨by omega, rA (n := n) (fun τ => ∃ y, τ = [y, some (.int (i : Nat))]) ⟨_, rfl⟩ (fun d hd τ ⟨y, e⟩ R2 IC => ?_) (fun row hl ji a jr => ?_)⟩
          · subst e
            obtain ⟨o, ho, rfl⟩ := List.mem_map.mp hd
            obtain ⟨gx, mU, g0, g1⟩ := (hT o ho).at hi
            simp! only [mU]
            exact IC _ _ g0 g1 ⟨_, rfl⟩
          · exact hR _ _ _ (qM hO ha jr ⟨by rw [hl, List.length_map]; exact Dp, ji⟩ ⟨_, rfl⟩)
        · rw [List.nil_append] at e1
          subst e1 e2
          intro r2 Qk
          refine hN _ _ ⟨r2, as, _, fun M d e => ?_, rfl, cD.mk' (n := n) (ways := ways) hO Qk (by simpa [rangeD_len] using hl) ha⟩
          cases e
          exact .lst fun d hd => by obtain ⟨o, _, rfl⟩ := List.mem_map.mp hd; exact .lst (gH o)
    rintro ρ M ⟨r, as, kM, zI, rfl, RM⟩
    refine iC (fun ρ M => ∃ (r : Addr) (as : List Addr) (kM : Option Dv), dW kM ∧ ρ = [some (.ptr b), some (.int (most : Nat)), some (.int (n : Nat)), some (.int (ways : Nat)), some (.int (kind : Nat)), some (.ptr r), some (jw os), x7, some (.int (stays : Nat)), x9, lQ, lR, eX, kM] ∧ cD Γ.M0 M r as n ways) (fun N hN => ?_) ?_
    · simp! only []
      obtain ⟨gx, mU, g0, g1⟩ := gi.at (i := 0) (by omega)
      obtain ⟨gk, rfl⟩ := Int.eq_ofNat_of_zero_le g0
      have mU : cW (os.map Dv.int) 0 = some (.int (gk : Nat)) := mU
      have uY : gk < as.length := by rw [RM.len]; omega
      have ea : cW (as.map Dv.ptr) (gk : Int) = some (.ptr as[gk]) := cQ (by rw [List.getElem?_map, List.getElem?_eq_getElem uY]; rfl)
      have ha := List.getElem_mem uY
      obtain ⟨row, em, ro⟩ := RM.row as[gk] ha
      simp only [mU]
      have put : jB [.ptr b, .int (n : Nat)] M (fun d M1 => match (match M1 r with | some (.lst ds) => some ds | _ => none) with
          | some ds => (match cW ds (gk : Int) with
            | some Ql => jB [.ptr b, .int (ways : Nat)] M1 (fun i M2 => match Ql, i with
              | .ptr a, .int k => (match M2 a with
                | some (.lst xs) => (match gW xs.length k with
                  | some j => N [some (.ptr b), some (.int (most : Nat)), some (.int (n : Nat)), some (.int (ways : Nat)), some (.int (kind : Nat)), some (.ptr r), some (jw os), x7, some (.int (stays : Nat)), x9, lQ, lR, eX, kM] (aF M2 a (.lst (xs.set j d)))
                  | none => False)
                | _ => False)
              | _, _ => False) fun _ _ => False
            | none => False)
          | none => False) fun _ _ => False := by
        refine ⟨b, _, rfl, RM.kp _ _ hb, by omega, by omega, fun u hu => ?_⟩
        simp only [RM.rm, ea]
        refine ⟨b, _, rfl, RM.kp _ _ hb, by omega, by omega, fun t ht => ?_⟩
        simp only [em, List.length_map, ro.1, my (show t < ways by omega)]
        rw [tG]
        exact hN _ _ ⟨r, as, _, zI, rfl, RM.sx ha (ro.set (by omega) (by omega))⟩
      exact fm (fun _ => put) (fun _ => fm (fun _ => fm (fun _ => put) (fun _ => hN _ _ ⟨r, as, _, zI, rfl, RM⟩)) (fun _ => hN _ _ ⟨r, as, _, zI, rfl, RM⟩))
    rintro ρ M ⟨r, as, kM, zI, rfl, RM⟩
    have nb : ∀ {c o}, Γ.M0 c = some o → c ≠ r := fun e z => by rw [z, RM.r0] at e; cases e
    have dk : Keeps Γ.M0 (c7 M r) := fun c o e => by rw [cI (nb e)]; exact RM.kp c o e
    refine .inr ⟨r, _, rfl, RM.rm, RM.r0, ⟨fun j d e => ?_, fun c o e => ?_⟩, ?_⟩
    · match j, e with
      | 0, e => cases e; exact .ptr (by rw [dk _ _ hb]; rfl)
      | 1, e => cases e; exact .int _
      | 2, e => cases e; exact .int _
      | 3, e => cases e; exact .int _
      | 4, e => cases e; exact .int _
      | 5, e => cases e; exact .lst fun d hd => by
                  obtain ⟨a, ha, rfl⟩ := List.mem_map.mp hd
                  obtain ⟨row, em, _⟩ := RM.row a ha
                  exact .ptr (by rw [cI (RM.fr a ha).2, em]; rfl)
      | 6, e => cases e; exact .lst (gH _)
      | 7, e => exact p7 _ _ (Option.some.inj e)
      | 8, e => cases e; exact .int _
      | 9, e => exact p9 _ _ (Option.some.inj e)
      | 10, e => exact Dl _ _ (Option.some.inj e)
      | 11, e => exact Dm _ _ (Option.some.inj e)
      | 12, e => exact jC _ _ (Option.some.inj e)
      | 13, e => exact zI _ _ (Option.some.inj e)
      | j + 14, e => exact nomatch e
    · have nc : c ≠ r := fun z => by rw [z, d9] at e; cases e
      rw [cI nc] at e
      rcases RM.pin c o e with q | q | ⟨row, rfl⟩ | ⟨bs, rfl, q2⟩
      · exact .inl q
      · exact absurd q nc
      · exact .inr (gH row)
      · refine .inr fun d hd => ?_
        obtain ⟨a, ha, rfl⟩ := List.mem_map.mp hd
        obtain ⟨h1, u, h2⟩ := q2 a ha
        exact .ptr (by rw [cI h1, h2]; rfl)
    · simp! only []
      refine ⟨by rw [RM.len]; omega, fL (acc := []) (fun acc τ M' => ∃ rs : List (List Int), acc = rs.map eI ∧ (∃ x, τ = [x]) ∧ (∀ row ∈ rs, fh n ways row) ∧ M' = c7 M r) ⟨[], rfl, ⟨_, rfl⟩, (fun _ h => nomatch h), rfl⟩ (fun i d acc τ M' hd _ ⟨rs, e1, ⟨x, e2⟩, Dq, eM⟩ R hR => ?_) (fun ys τ M' hl ⟨rs, e1, ⟨x, e2⟩, Dq, eM⟩ => ?_)⟩
      · subst e1 e2 eM
        obtain ⟨a, ha, rfl⟩ := zf hd
        have ha := List.mem_of_getElem? ha
        obtain ⟨row, em, ro⟩ := RM.row a ha
        simp! only [cI (RM.fr a ha).2, em]
        refine hR _ _ _ ⟨rs ++ [row], by rw [List.map_append]; rfl, ⟨_, rfl⟩, fun c hc => ?_, rfl⟩
        rcases List.mem_append.mp hc with z | z
        · exact Dq c z
        · rw [List.mem_singleton] at z; rw [z]; exact ro
      · rw [List.nil_append] at e1
        subst e1 e2 eM
        have Qm : rs.length = n := by rw [List.length_map, List.length_map, RM.len] at hl; exact hl
        exact qF dk (HU rs) (q rs ways ⟨by omega, by omega, w2, fun row hr => ⟨(Dq row hr).1, fun g hg => by rw [Qm]; exact (Dq row hr).2 g hg⟩⟩ (by omega))
end
section
variable {P : Program} {w : World} {K : PySem.W.Frag} {mg : Str → Option Value} {base : Heap} {tb : cg}
theorem uk : aQ ["thing"] ["thing"] (ai dy) := ⟨rfl, rfl, rfl, by decide +kernel, rfl, by decide +kernel, by decide +kernel⟩
theorem mD : aQ ["thing", "many"] ["thing", "many"] (ai bR) := ⟨rfl, rfl, rfl, by decide +kernel, rfl, by decide +kernel, by decide +kernel⟩
theorem zJ : aQ ["thing", "many", "width"] ["thing", "many", "width"] (ai je) := ⟨rfl, rfl, rfl, by decide +kernel, rfl, by decide +kernel, by decide +kernel⟩
theorem lU : aQ ["thing", "many", "width"] ["thing"] (ai jf) := ⟨rfl, rfl, rfl, by decide +kernel, rfl, by decide +kernel, by decide +kernel⟩
noncomputable def ia (d : Dv) : Bool := (isD "int" (fun _ => none) d).isSome
noncomputable def zK : Dv → Bool | .int _ => true | _ => false
noncomputable def aW (m : Int) : Dv → Bool | .int i => decide (0 ≤ i) && decide (i < m) | _ => false
noncomputable def IG : cj := fun ds M Q _ => ∃ d, ds = [d] ∧ ia d = true ∧ Q (.bl (zK d)) M
theorem um {f : Addr} {fd : FuncData} (D : Df K mg "is_whole" dy ["thing"] f fd) (bl : Bl mg) : FnOk P w K mg base bt 1 f fd ["thing"] (aY P w K tb IG) := by
  refine fJ D uk (fun ds M Q E hS => by obtain ⟨d, e, _⟩ := hS; rw [e]; rfl) fun A outer s E Γ ds Q' E' hP hw hK ht hr hS => ?_
  obtain ⟨d, e, hk, q⟩ := hS
  refine ⟨_, (az (bg (ou (av (i9 (K := K) rfl) rfl bl.isinstance_ aB (aa (qv 0) (aa (iH (v := .ty "int") rfl bl.int_ GW rfl) ae))) (oq (HD (av (i9 (K := K) rfl) rfl bl.isinstance_ aB (aa (qv 0) (aa (iH (v := .ty "bool") rfl bl.bool_ D2 rfl) ae)))))))), ?_⟩
  subst e
  cases d <;> first | exact ⟨by decide, ⟨by decide, .inl q⟩⟩ | exact ⟨by decide, .inl q⟩ | exact nomatch hk
noncomputable def IH : cj := fun ds M Q _ => ∃ d m, ds = [d, .int m] ∧ ia d = true ∧ Q (.bl (aW m d)) M
theorem iq {f f1 : Addr} {fd bG : FuncData} (D : Df K mg "is_whole_below" bR ["thing", "many"] f fd) (bq : Df K mg "is_whole" dy ["thing"] f1 bG) (bl : Bl mg) : FnOk P w K mg base bt 2 f fd ["thing", "many"] (aY P w K tb IH) := by
  have wR := um (P := P) (w := w) (base := base) (tb := tb) bq bl
  refine fJ D mD (fun ds M Q E hS => by obtain ⟨d, m, e, _⟩ := hS; rw [e]; rfl) fun A outer s E Γ ds Q' E' hP hw hK ht hr hS => ?_
  obtain ⟨d, m, e, hk, q⟩ := hS
  refine ⟨_, (az (bg (ou (aG wR (hr.mono (by decide)) rfl bq.mg bq.fn.kp bq.bd bb hP hw hK ht XR.none (aa (qv 0) ae)) (oq (Bo Bq o7 af (qv 0) (qv 1)))))), ?_⟩
  subst e
  refine ⟨d, rfl, hk, ?_⟩
  cases d with
  | int i =>
    simp! only [zK]
    refine fm (fun h => ?_) (fun h => ?_)
    · rw [show aW m (.int i) = decide (i < m) by simp only [aW, h, Bool.true_and]] at q
      exact .inl q
    · rw [show aW m (.int i) = false by simp only [aW, h, Bool.false_and]] at q
      exact .inl q
  | _ => exact .inl q
noncomputable def dG (m : Int) (w : Nat) : Dv → Bool | .tup ds => decide (ds.length = w) && ds.all (aW m) | _ => false
noncomputable def jj : Dv → Bool | .tup ds => ds.all ia | d => ia d
noncomputable def II : cj := fun ds M Q _ => ∃ d m w, ds = [d, .int m, .int (w : Nat)] ∧ jj d = true ∧ Q (.bl (dG m w d)) M
theorem zL {f f1 f2 : Addr} {fd bG fd2 : FuncData} {kh aX : Addr} (D : Df K mg "is_row" je ["thing", "many", "width"] f fd) (gI : qh base fd kh aX) (hp : aX ∈ tb) (dH : ∃ bm ob, BMod base mainGlobals mg bm ob)
    (aH : Df K mg "is_whole_below" bR ["thing", "many"] f1 bG) (bq : Df K mg "is_whole" dy ["thing"] f2 fd2) (bl : Bl mg) : FnOk P w K mg base bt 4 f fd ["thing", "many", "width"] (aY P w K tb II) := by
  have fM := iq (P := P) (w := w) (base := base) (tb := tb) aH bq bl
  refine fJ D zJ (fun ds M Q E hS => by obtain ⟨d, m, n, e, _⟩ := hS; rw [e]; rfl) fun A outer s E Γ ds Q' E' hP hw hK ht hr hS => ?_
  obtain ⟨d, m, n, e, hk, q⟩ := hS
  have wU : aX ∈ Γ.tb := ht ▸ hp
  refine ⟨_, (aj (cM (QW.pt (rj (i6 (i5 (av (i9 (K := K) rfl) rfl bl.isinstance_ aB (aa (qv 0) (aa (iH (v := .ty "tuple") rfl bl.tuple_ iT rfl) ae))))) (oo (bT wA (av (d8 (K := K) rfl hK) rfl bl.len_ PySem.boot_len (aa (qv 0) ae)) (qv 2) (bY _)))))
      (az (bg dI))
      qss_nil)
    (az (bg (sX (k := 2) (N' := ["goal", "many"]) (tn := 1) (idx := [1]) wU (hr.mono (by decide)) rfl (show aK ["thing", "many", "width"] (ai je) _ ["goal", "many"] 1 [1] from by decide +kernel) rfl rfl gI.code gI.hd dH rfl bl.all_ (ox (K := K) rfl (qv 0)) (fun _ _ _ _ _ _ _ hr => (bF (i := 0) (show List.Nodup [("goal" : Str), ("many" : Str)] from by decide +kernel) rfl (Or.inl rfl))) (fun _ _ _ _ _ _ _ hr => cR) (fun _ _ _ _ _ _ _ hr => (aG fM (hr.mono (by decide)) rfl aH.mg aH.fn.kp aH.bd bb hP hw hK ht XR.none (aa (qv 0) (aa (qv 1) ae)))))))), ?_⟩
  subst e
  cases d with
  | tup es =>
    refine ⟨by decide, fm (c := !decide ((es.length : Int) = (n : Nat))) (fun h => ?_) (fun h => ?_)⟩
    · rw [show dG m n (.tup es) = false by simp at h; simp [dG]; intro z; omega] at q
      exact .inl q
    · rw [show dG m n (.tup es) = es.all (aW m) by simp at h; simp [dG, show es.length = n by omega]] at q
      refine mw (aW m) (fun τ => ∃ x, τ = [x, some (.int m)]) ⟨none, rfl⟩ (fun d hd τ ⟨x, e⟩ R hR => ?_) (.inl q)
      subst e
      exact ⟨d, m, rfl, List.all_eq_true.mp hk d hd, hR _ ⟨_, rfl⟩⟩
  | _ => first | exact ⟨by decide, .inl q⟩ | exact nomatch hk
noncomputable def eh : Dv → Bool | .tup rs => decide (1 ≤ rs.length ∧ rs.length ≤ 9) && (rs.all (dG rs.length 2) || rs.all (dG rs.length 3)) | _ => false
noncomputable def ib : Dv → Bool | .tup rs => rs.all jj | d => ia d
noncomputable def BI : cj := fun ds M Q _ => ∃ d, ds = [d] ∧ ib d = true ∧ Q (.bl (eh d)) M
theorem zM {f f1 f2 f3 : Addr} {fd bG fd2 tI : FuncData} {kh aX tJ bh : Addr} (D : Df K mg "is_net" jf ["thing"] f fd) (ki : qh base fd tJ bh) (Qn : bh ∈ tb) (fN : Df K mg "is_row" je ["thing", "many", "width"] f3 tI) (gI : qh base tI kh aX) (hp : aX ∈ tb) (dH : ∃ bm ob, BMod base mainGlobals mg bm ob)
    (aH : Df K mg "is_whole_below" bR ["thing", "many"] f1 bG) (bq : Df K mg "is_whole" dy ["thing"] f2 fd2) (bl : Bl mg) {tk : Tok} (gJ : mg "MOST_PLACES" = some (.int 9 tk)) : FnOk P w K mg base bt 6 f fd ["thing"] (aY P w K tb BI) := by
  have BJ := zL (P := P) (w := w) (tb := tb) fN gI hp dH aH bq bl
  refine fJ D lU (fun ds M Q E hS => by obtain ⟨d, e, _⟩ := hS; rw [e]; rfl) fun A outer s E Γ ds Q' E' hP hw hK ht hr hS => ?_
  obtain ⟨d, e, hk, q⟩ := hS
  have kj : bh ∈ Γ.tb := ht ▸ Qn
  refine ⟨_, (aj (cM (QW.pt (rj (i6 (i5 (av (i9 (K := K) rfl) rfl bl.isinstance_ aB (aa (qv 0) (aa (iH (v := .ty "tuple") rfl bl.tuple_ iT rfl) ae))))) (oo (i6 (sP Bq Bq af (av (d8 (K := K) rfl hK) rfl bl.len_ PySem.boot_len (aa (qv 0) ae)) (Bn (i := 9) rfl gJ ⟨_, rfl⟩))))))
      (az (bg dI))
      qss_nil)
    (aj (aJ (i := 1) lU.nd rfl (Or.inr rfl) (av (d8 (K := K) rfl hK) rfl bl.len_ PySem.boot_len (aa (qv 0) ae)))
    (aj (oz PassesOwn.never rfl (ox (K := K) rfl (aw (aa af (aa af ae)))) (fun Di eP ew eK et => by have hP := hP.trans eP.symm; have hw := hw.trans ew.symm; have hK := hK.trans eK.symm; have ht := ht.trans et.symm; have kj := et.symm ▸ kj; exact ⟨(bF (i := 2) lU.nd rfl (Or.inr rfl)), (az (cM (i5 (sX (k := 4) (N' := ["row", "many", "width"]) (tn := 1) (idx := [1, 2]) kj (hr.mono (by decide)) rfl (show aK ["thing", "many", "width"] (ai jf) _ ["row", "many", "width"] 1 [1, 2] from by decide +kernel) rfl rfl ki.code ki.hd dH rfl bl.all_ (ox (K := K) rfl (qv 0)) (fun _ _ _ _ _ _ _ hr => (bF (i := 0) (show List.Nodup [("row" : Str), ("many" : Str), ("width" : Str)] from by decide +kernel) rfl (Or.inl rfl))) (fun _ _ _ _ _ _ _ hr => cR) (fun _ _ _ _ _ _ _ hr => (aG BJ (hr.mono (by decide)) rfl fN.mg fN.fn.kp fN.bd bb hP hw hK ht XR.none (aa (qv 0) (aa (qv 1) (aa (qv 2) ae)))))))
      (az (bg dI))
      qss_nil))⟩))
    (az (bg dI))))), ?_⟩
  subst e
  cases d with
  | tup rs =>
    refine ⟨by decide, ?_⟩
    have row : ∀ (n : Nat) (D : Bool → Mh → Prop), (D (rs.all (dG rs.length n)) Γ.M0) → ju (zgName 0) zNoIf (zCall II (fun _ _ => False) (zCons (zVar 0) (zCons (zVar 1) (zCons (zVar 2) zNil)))) rs [none, some (.int rs.length), some (.int (n : Nat))] Γ.M0 D := fun n D hD => by
      refine mw (dG rs.length n) (fun τ => ∃ x, τ = [x, some (.int rs.length), some (.int (n : Nat))]) ⟨none, rfl⟩ (fun d hd τ ⟨x, e⟩ R hR => ?_) hD
      subst e
      exact ⟨d, rs.length, n, rfl, List.all_eq_true.mp hk d hd, hR _ ⟨_, rfl⟩⟩
    simp! only []
    refine fm (fun h1 => fm (fun h2 => ?_) (fun h2 => ⟨by decide, ?_⟩)) (fun h1 => ?_)
    · rw [show eh (.tup rs) = false by simp at h1 h2; simp [eh]; intro z; omega] at q
      exact .inl q
    · have e : eh (.tup rs) = (rs.all (dG rs.length 2) || rs.all (dG rs.length 3)) := by
        simp at h1 h2
        simp only [eh]
        rw [decide_eq_true (by omega), Bool.true_and]
      rw [e] at q
      refine row 2 _ (fm (fun z => ?_) (fun z => row 3 _ (fm (fun z2 => ?_) (fun z2 => ?_))))
      · rw [z] at q; exact .inl q
      · rw [z, z2] at q; exact .inl q
      · rw [z, z2] at q; exact .inl q
    · rw [show eh (.tup rs) = false by simp at h1; simp [eh]; intro z; omega] at q
      exact .inl q
  | _ => first | exact ⟨by decide, .inl q⟩ | exact nomatch hk
theorem uo : aQ ["thing"] ["thing"] (ai e8) := ⟨rfl, rfl, rfl, by decide +kernel, rfl, by decide +kernel, by decide +kernel⟩
theorem zN {m : Int} {g : Int} (h : 0 ≤ g ∧ g < m) : aW m (.int g) = true := by simp [aW, h.1, h.2]
theorem vB {aq : List (List Int)} {n : Nat} (o : iu aq n) : eh (eN aq) = true := by
  have hr : ∀ d ∈ aq.map eI, dG (aq.map eI).length n d = true := fun d hd => by
    obtain ⟨r, hr, rfl⟩ := List.mem_map.mp hd
    obtain ⟨h1, h2⟩ := o.row r hr
    simp only [dG, List.length_map]
    rw [decide_eq_true h1, Bool.true_and, List.all_eq_true]
    intro d hd
    obtain ⟨g, hg, rfl⟩ := List.mem_map.mp hd
    exact zN (h2 g hg)
  have ho := o.one
  have hn := o.nine
  simp only [eh, eN]
  rw [decide_eq_true (by rw [List.length_map]; omega), Bool.true_and]
  have ha := List.all_eq_true.mpr hr
  rcases o.wid with rfl | rfl
  · rw [ha]; rfl
  · rw [ha, Bool.or_true]
theorem vC (aq : List (List Int)) : ib (eN aq) = true := by
  simp only [ib, eN]
  rw [List.all_eq_true]
  intro d hd
  obtain ⟨r, _, rfl⟩ := List.mem_map.mp hd
  simp only [jj, eI]
  rw [List.all_eq_true]
  intro d hd
  obtain ⟨g, hg, rfl⟩ := List.mem_map.mp hd
  rfl
noncomputable def rB (C : Addr) : cj := fun ds M Q E => ∃ d, ds = [d] ∧ ib d = true ∧ (eh d = true → Q .ao M) ∧ (eh d = false → E C M)
theorem uq {f f1 : Addr} {fd bG : FuncData} {C0 C_NoNet : Addr} {cs : List Addr} (D : Df K mg "need_net" e8 ["thing"] f fd) (fO : Df K mg "is_net" jf ["thing"] f1 bG) (BK : FnOk P w K mg base bt 6 f1 bG ["thing"] (aY P w K tb BI))
    (X_ : o4 K C0 cs) (gb : C_NoNet ∈ cs) (iJ : mg "NoNet" = some (.ref C_NoNet)) : FnOk P w K mg base (cN P w) 7 f fd ["thing"] (aY P w K tb (rB C_NoNet)) := by
  refine oD D uo (fun ds M Q E hS => by obtain ⟨d, e, _⟩ := hS; rw [e]; rfl) fun A outer s E Γ ds Q' E' hP hw hK ht hE hr hS => ?_
  obtain ⟨d, e, hk, q1, q2⟩ := hS
  refine ⟨_, (az (cM (i6 (i5 (aG BK (hr.mono (by decide)) rfl fO.mg fO.fn.kp fO.bd bb hP hw hK ht XR.none (aa (qv 0) ae))))
      (az (sW (X_.ex _ gb) PySem.F.excBase_ValueError rfl yK hE rfl iJ (aa aU ae)))
      qss_nil)), ?_⟩
  subst e
  simp! only []
  refine ⟨d, rfl, hk, fm (fun h => ?_) (fun h => ?_)⟩
  · exact ⟨by decide, q2 (by simpa using h)⟩
  · exact .inl (q1 (by simpa using h))
end
noncomputable def BL (ns : List Int) : List Int := sortI (dC ns)
theorem ur (ns : List Int) : (BL ns).Pairwise (· < ·) := by
  have h1 := sC (dC ns)
  have h2 : (BL ns).Nodup := (sortI_perm _).nodup_iff.mpr (vY ns)
  exact (List.Pairwise.and h1 h2).imp fun ⟨a, b⟩ => by omega
section
variable {P : Program} {w : World} {K : PySem.W.Frag} {mg : Str → Option Value} {base : Heap} {tb : cg} {C_NoNet C_NoWord C_NoSet C0 : Addr} {cs : List Addr}
noncomputable def IJ : cj := fun ds M Q _ => ∃ aq d, ds = [eN aq, d] ∧ ia d = true ∧ Q (.bl (aW (aq.length : Int) d)) M
theorem uv : aQ ["net", "thing"] ["net", "thing"] (ai iD) := ⟨rfl, rfl, rfl, by decide +kernel, rfl, by decide +kernel, by decide +kernel⟩
theorem zO : aQ ["net", "thing"] ["net", "thing"] (ai jg) := ⟨rfl, rfl, rfl, by decide +kernel, rfl, by decide +kernel, by decide +kernel⟩
theorem uw {f f1 f2 : Addr} {fd bG fd2 : FuncData} (D : Df K mg "is_place" iD ["net", "thing"] f fd) (aH : Df K mg "is_whole_below" bR ["thing", "many"] f1 bG) (bq : Df K mg "is_whole" dy ["thing"] f2 fd2) (bl : Bl mg) : FnOk P w K mg base bt 3 f fd ["net", "thing"] (aY P w K tb IJ) := by
  have fM := iq (P := P) (w := w) (base := base) (tb := tb) aH bq bl
  refine fJ D uv (fun ds M Q E hS => by obtain ⟨aq, d, e, _⟩ := hS; rw [e]; rfl) fun A outer s E Γ ds Q' E' hP hw hK ht hr hS => ?_
  obtain ⟨aq, d, e, hk, q⟩ := hS
  refine ⟨_, (az (bg (aG fM (hr.mono (by decide)) rfl aH.mg aH.fn.kp aH.bd bb hP hw hK ht XR.none (aa (qv 1) (aa (av (d8 (K := K) rfl hK) rfl bl.len_ PySem.boot_len (aa (qv 0) ae)) ae))))), ?_⟩
  subst e
  simp! only []
  exact ⟨d, _, rfl, hk, .inl q⟩
theorem zP {m : Int} {d : Dv} (h : aW m d = true) : ∃ i, d = .int i ∧ 0 ≤ i ∧ i < m := by
  cases d with
  | int i => simp only [aW, Bool.and_eq_true, decide_eq_true_eq] at h; exact ⟨i, rfl, h.1, h.2⟩
  | _ => cases h
theorem lV {m : Int} : ∀ {ds : List Dv}, ds.all (aW m) = true → ∃ ns : List Int, ds = ns.map Dv.int ∧ ∀ p ∈ ns, 0 ≤ p ∧ p < m
  | [], _ => ⟨[], rfl, fun _ h => nomatch h⟩
  | d :: ds, h => by
    rw [List.all_cons, Bool.and_eq_true] at h
    obtain ⟨i, rfl, h0, h1⟩ := zP h.1
    obtain ⟨ns, rfl, hn⟩ := lV h.2
    exact ⟨i :: ns, rfl, fun p hp => by rcases List.mem_cons.mp hp with rfl | hp; exact ⟨h0, h1⟩; exact hn p hp⟩
noncomputable def rC (ds : List Dv) : Bool := match eQ ds with | some ns => decide (ns = BL ns) | none => false
noncomputable def km (m : Nat) : Dv → Bool | .tup ds => !decide (ds.length = 0) && ds.all (aW m) && rC ds | _ => false
noncomputable def lW : Dv → Prop | .tup ds => (∀ d ∈ ds, ia d = true) ∧ ds.length ≤ 20 | d => ia d = true
theorem g6 : ∀ ns : List Int, eQ (ns.map Dv.int) = some ns
  | [] => rfl
  | n :: ns => by rw [List.map_cons, eQ, g6 ns]; rfl
noncomputable def tK : cj := fun ds M Q _ => ∃ aq n d, ds = [eN aq, d] ∧ iu aq n ∧ lW d ∧ Q (.bl (km aq.length d)) M
theorem zQ {f f1 f2 f3 : Addr} {fd bG fd2 tI : FuncData} {tL bj : Addr} (D : Df K mg "is_set" jg ["net", "thing"] f fd) (ko : qh base fd tL bj) (hp : bj ∈ tb) (dH : ∃ bm ob, BMod base mainGlobals mg bm ob)
    (fi : Df K mg "is_place" iD ["net", "thing"] f3 tI) (aH : Df K mg "is_whole_below" bR ["thing", "many"] f1 bG) (bq : Df K mg "is_whole" dy ["thing"] f2 fd2) (bl : Bl mg) : FnOk P w K mg base bt 5 f fd ["net", "thing"] (aY P w K tb tK) := by
  have wV := uw (P := P) (w := w) (base := base) (tb := tb) fi aH bq bl
  refine fJ D zO (fun ds M Q E hS => by obtain ⟨aq, n, d, e, _⟩ := hS; rw [e]; rfl) fun A outer s E Γ ds Q' E' hP hw hK ht hr hS => ?_
  obtain ⟨aq, n, d, e, o, hk, q⟩ := hS
  have wW : bj ∈ Γ.tb := ht ▸ hp
  refine ⟨_, (aj (cM (QW.pt (rj (i6 (i5 (av (i9 (K := K) rfl) rfl bl.isinstance_ aB (aa (qv 1) (aa (iH (v := .ty "tuple") rfl bl.tuple_ iT rfl) ae))))) (oo (bT kb (av (d8 (K := K) rfl hK) rfl bl.len_ PySem.boot_len (aa (qv 1) ae)) af (bY _)))))
      (az (bg dI))
      qss_nil)
    (az (bg (ou (sX (k := 3) (N' := ["place", "net"]) (tn := 1) (idx := [0]) wW (hr.mono (by decide)) rfl (show aK ["net", "thing"] (ai jg) _ ["place", "net"] 1 [0] from by decide +kernel) rfl rfl ko.code ko.hd dH rfl bl.all_ (ox (K := K) rfl (qv 1)) (fun _ _ _ _ _ _ _ hr => (bF (i := 0) (show List.Nodup [("place" : Str), ("net" : Str)] from by decide +kernel) rfl (Or.inl rfl))) (fun _ _ _ _ _ _ _ hr => cR) (fun _ _ _ _ _ _ _ hr => (aG wV (hr.mono (by decide)) rfl fi.mg fi.fn.kp fi.bd bb hP hw hK ht XR.none (aa (qv 1) (aa (qv 0) ae))))) (oq (vh (Kh hr.units) (fZ (sT (K := K) rfl) rfl bl.list_ oW (aa (qv 1) ae)) (av (Br hP hw (K := K) rfl rfl) rfl bl.sorted_ yF (aa (fZ (Kk hP hw (K := K) rfl rfl) rfl bl.set_ Hj (aa (qv 1) ae)) ae)) (bY _))))))), ?_⟩
  subst e
  cases d with
  | tup es =>
    obtain ⟨hk, hl⟩ := hk
    simp! only []
    refine ⟨by decide, fm (fun h => ?_) (fun h => ?_)⟩
    · simp only [km, show decide (es.length = 0) = true by simp at h ⊢; omega, Bool.not_true, Bool.false_and] at q
      exact .inl q
    · simp only [km, show decide (es.length = 0) = false by simp at h ⊢; omega, Bool.not_false, Bool.true_and] at q
      refine mw (aW (aq.length : Int)) (fun τ => ∃ x, τ = [x, some (eN aq)]) ⟨none, rfl⟩ (fun d hd τ ⟨x, e⟩ R hR => ?_) ?_
      · subst e
        exact ⟨aq, d, rfl, hk d hd, hR _ ⟨_, rfl⟩⟩
      · cases hb : es.all (aW (aq.length : Int)) with
        | false => rw [hb] at q; exact .inl q
        | true =>
          rw [hb] at q
          obtain ⟨ns, rfl, hn⟩ := lV hb
          rw [List.length_map] at hl
          simp! only [g6, Option.bind_some]
          have hd := (sr (ns := ns))
          refine ⟨Nat.lt_of_le_of_lt (show ns.length + 1 ≤ 21 by omega) (by decide), by omega, ?_⟩
          simp only [ng, now, bQ, sY, Option.map_some, cf, oE, Bool.false_eq_true, if_false]
          refine ⟨by rw [fU]; have := Eu ns; omega, ?_⟩
          simp only [rC, g6, Bool.true_and] at q
          exact .inl q
  | _ => first | exact ⟨by decide, .inl q⟩ | exact nomatch hk
theorem BM {m : Nat} {d : Dv} (hk : lW d) (h : km m d = true) : ∃ ns : List Int, d = eI ns ∧ (∀ p ∈ ns, 0 ≤ p ∧ p < (m : Int)) ∧ ns.length ≤ 20 := by
  cases d with
  | tup ds =>
    simp only [km, Bool.and_eq_true] at h
    obtain ⟨ns, rfl, hn⟩ := lV h.1.2
    exact ⟨ns, rfl, hn, by have := hk.2; rwa [List.length_map] at this⟩
  | _ => cases h
end
section
variable {P : Program} {w : World} {K : PySem.W.Frag} {mg : Str → Option Value} {base : Heap} {tb : cg} {C_RoadError C_NoNet C_NoPlace C_NoSign C_NoWord C_NoWhole C_NoNumber C_NoKin C_NoSet C_NoPair C_NoStep C_NoCall C_TooMany C_NoPaper C_NoText C_NoRow C_NoDeed : Addr} {cs : List Addr}
theorem c6 : aQ ["_law_e", "_law_kinds", "_law_names"] ["_law_e"] (ai gR) := ⟨rfl, rfl, rfl, by decide +kernel, rfl, by decide +kernel, by decide +kernel⟩
theorem jD : aQ ["_law_deed", "_law_e"] ["_law_deed"] (ai fc) := ⟨rfl, rfl, rfl, by decide +kernel, rfl, by decide +kernel, by decide +kernel⟩
noncomputable def rD : List Str := ["net", "place", "sign", "word", "whole", "number", "kin", "set", "pair", "step", "call", "many", "paper", "text", "row", "deed"]
theorem oM {C : Addr} : ∀ {L : List Addr}, L.Nodup → C ∈ L → (L.map fun D => decide (C = D)).count true = 1
  | D :: L, nd, h => by
    obtain ⟨h1, h2⟩ := List.nodup_cons.mp nd
    rw [List.map_cons, List.count_cons]
    by_cases e : C = D
    · subst e
      have : (L.map fun D => decide (C = D)).count true = 0 := List.count_eq_zero.mpr fun z => by
        obtain ⟨D, hD, e⟩ := List.mem_map.mp z
        rw [of_decide_eq_true e] at h1
        exact h1 hD
      rw [this]
      simp
    · rcases List.mem_cons.mp h with z | z
      · exact absurd z e
      · rw [oM h2 z, decide_eq_false e]
        rfl
theorem wX {C : Addr} {L : List Addr} (nd : L.Nodup) {j : Nat} (h : L[j]? = some C) : pq (L.map fun D => Dt.bl (decide (C = D))) (.bl true) j := by
  refine ⟨⟨.bl true, by rw [List.getElem?_map, h]; simp, by simp [cf]⟩, fun m t hm ht => ?_⟩
  rw [List.getElem?_map, Option.map_eq_some_iff] at ht
  obtain ⟨D, hD, rfl⟩ := ht
  have ne : C ≠ D := fun e => by
    subst e
    have h1 := (List.getElem?_eq_some_iff.mp h)
    have h2 := (List.getElem?_eq_some_iff.mp hD)
    obtain ⟨a1, b1⟩ := h1
    obtain ⟨a2, b2⟩ := h2
    exact List.pairwise_iff_getElem.mp nd m j a2 a1 hm (b2.trans b1.symm)
  rw [decide_eq_false ne]
  simp [cf]
structure Kinds (K : PySem.W.Frag) (C0 : Addr) (cs L : List Addr) : Prop where
  nd : L.Nodup
  one : ∀ C ∈ cs, ∀ D ∈ L, PySem.W.kitOne K (.ref C) (.ref D) = some (decide (C = D))
theorem kinds_of {C0 Cp : Addr} {cs L1 L2 : List Addr} (X_ : o4 K C0 cs) (nd : (L1 ++ L2).Nodup) (h : ∀ D ∈ L1 ++ L2, D ∈ cs) (pb : cs.all (fun C => PySem.W.kitOne K (.ref C) (.ref Cp) == some false) = true) : Kinds K C0 cs (L1 ++ Cp :: L2) := by
  have np : ∀ C ∈ cs, PySem.W.kitOne K (.ref C) (.ref Cp) = some false := fun C hC => by have := List.all_eq_true.mp pb C hC; simpa using this
  have ne : ∀ C ∈ cs, C ≠ Cp := fun C hC e => by
    subst e
    have := np C hC
    rw [X_.one _ hC _ hC] at this
    simp at this
  refine ⟨?_, fun C hC D hD => ?_⟩
  · rw [List.nodup_append] at nd ⊢
    obtain ⟨n1, n2, n3⟩ := nd
    refine ⟨n1, List.nodup_cons.mpr ⟨fun z => ne _ (h _ (List.mem_append_right _ z)) rfl, n2⟩, fun a ha b hb => ?_⟩
    rcases List.mem_cons.mp hb with rfl | hb
    · exact ne _ (h _ (List.mem_append_left _ ha))
    · exact n3 a ha b hb
  · have hD : D ∈ L1 ++ L2 ∨ D = Cp := by
      rcases List.mem_append.mp hD with z | z
      · exact .inl (List.mem_append_left _ z)
      · rcases List.mem_cons.mp z with z | z
        · exact .inr z
        · exact .inl (List.mem_append_right _ z)
    rcases hD with hD | rfl
    · exact X_.one _ hC _ (h D hD)
    · rw [np C hC, decide_eq_false (ne C hC)]
noncomputable def wY (cs L : List Addr) : cj := fun ds M Q _ => ∃ (C : Addr) (j : Nat) (nm : Str), ds = [.exc C] ∧ C ∈ cs ∧ L[j]? = some C ∧ rD[j]? = some nm ∧ Q (.str nm) M
theorem ux {f : Addr} {fd : FuncData} (D : Df K mg "_law_kind" gR ["_law_e"] f fd) (X_ : o4 K C_RoadError cs) (kn : Kinds K C_RoadError cs [C_NoNet, C_NoPlace, C_NoSign, C_NoWord, C_NoWhole, C_NoNumber, C_NoKin, C_NoSet, C_NoPair, C_NoStep, C_NoCall, C_TooMany, C_NoPaper, C_NoText, C_NoRow, C_NoDeed])
    (iJ : mg "NoNet" = some (.ref C_NoNet)) (lX : mg "NoPlace" = some (.ref C_NoPlace)) (nq : mg "NoSign" = some (.ref C_NoSign)) (nu : mg "NoWord" = some (.ref C_NoWord)) (lY : mg "NoWhole" = some (.ref C_NoWhole)) (kr : mg "NoNumber" = some (.ref C_NoNumber)) (px : mg "NoKin" = some (.ref C_NoKin)) (pz : mg "NoSet" = some (.ref C_NoSet)) (gK : mg "NoPair" = some (.ref C_NoPair)) (ny : mg "NoStep" = some (.ref C_NoStep)) (nz : mg "NoCall" = some (.ref C_NoCall)) (lZ : mg "TooMany" = some (.ref C_TooMany)) (l0 : mg "NoPaper" = some (.ref C_NoPaper)) (nA : mg "NoText" = some (.ref C_NoText)) (pC : mg "NoRow" = some (.ref C_NoRow)) (nB : mg "NoDeed" = some (.ref C_NoDeed)) (bl : Bl mg) :
    FnOkN P w K mg base bt 1 f fd ["_law_e"] (aY P w K tb (wY cs [C_NoNet, C_NoPlace, C_NoSign, C_NoWord, C_NoWhole, C_NoNumber, C_NoKin, C_NoSet, C_NoPair, C_NoStep, C_NoCall, C_TooMany, C_NoPaper, C_NoText, C_NoRow, C_NoDeed])) := by
  refine Kw D c6 (fun ds M Q E hS => by obtain ⟨C, j, nm, e, _⟩ := hS; rw [e]; rfl) fun A outer s E Γ ds Q' E' hP hw hK ht hr hS => ⟨_, (aj (cM (i6 (i5 (av (du (K := K) rfl) rfl bl.isinstance_ aB (aa (qv 0) (aa (iH (v := .ty "ValueError") rfl bl.ValueError_ qQ rfl) ae)))))
      (az (bg aU))
      qss_nil)
    (aj (aJ (i := 1) c6.nd rfl (Or.inl rfl) (b5 (aa (av (du (K := K) rfl) rfl bl.isinstance_ aB (aa (qv 0) (aa (bH (v := .ref C_NoNet) rfl iJ rfl) ae))) (aa (av (du (K := K) rfl) rfl bl.isinstance_ aB (aa (qv 0) (aa (bH (v := .ref C_NoPlace) rfl lX rfl) ae))) (aa (av (du (K := K) rfl) rfl bl.isinstance_ aB (aa (qv 0) (aa (bH (v := .ref C_NoSign) rfl nq rfl) ae))) (aa (av (du (K := K) rfl) rfl bl.isinstance_ aB (aa (qv 0) (aa (bH (v := .ref C_NoWord) rfl nu rfl) ae))) ae))))))
    (aj (aJ (i := 1) c6.nd rfl (Or.inl rfl) (aD (g8 (K := K) rfl) (qv 1) (b5 (aa (av (du (K := K) rfl) rfl bl.isinstance_ aB (aa (qv 0) (aa (bH (v := .ref C_NoWhole) rfl lY rfl) ae))) (aa (av (du (K := K) rfl) rfl bl.isinstance_ aB (aa (qv 0) (aa (bH (v := .ref C_NoNumber) rfl kr rfl) ae))) (aa (av (du (K := K) rfl) rfl bl.isinstance_ aB (aa (qv 0) (aa (bH (v := .ref C_NoKin) rfl px rfl) ae))) (aa (av (du (K := K) rfl) rfl bl.isinstance_ aB (aa (qv 0) (aa (bH (v := .ref C_NoSet) rfl pz rfl) ae))) ae)))))))
    (aj (aJ (i := 1) c6.nd rfl (Or.inl rfl) (aD (g8 (K := K) rfl) (qv 1) (b5 (aa (av (du (K := K) rfl) rfl bl.isinstance_ aB (aa (qv 0) (aa (bH (v := .ref C_NoPair) rfl gK rfl) ae))) (aa (av (du (K := K) rfl) rfl bl.isinstance_ aB (aa (qv 0) (aa (bH (v := .ref C_NoStep) rfl ny rfl) ae))) (aa (av (du (K := K) rfl) rfl bl.isinstance_ aB (aa (qv 0) (aa (bH (v := .ref C_NoCall) rfl nz rfl) ae))) (aa (av (du (K := K) rfl) rfl bl.isinstance_ aB (aa (qv 0) (aa (bH (v := .ref C_TooMany) rfl lZ rfl) ae))) ae)))))))
    (aj (aJ (i := 1) c6.nd rfl (Or.inl rfl) (aD (g8 (K := K) rfl) (qv 1) (b5 (aa (av (du (K := K) rfl) rfl bl.isinstance_ aB (aa (qv 0) (aa (bH (v := .ref C_NoPaper) rfl l0 rfl) ae))) (aa (av (du (K := K) rfl) rfl bl.isinstance_ aB (aa (qv 0) (aa (bH (v := .ref C_NoText) rfl nA rfl) ae))) (aa (av (du (K := K) rfl) rfl bl.isinstance_ aB (aa (qv 0) (aa (bH (v := .ref C_NoRow) rfl pC rfl) ae))) (aa (av (du (K := K) rfl) rfl bl.isinstance_ aB (aa (qv 0) (aa (bH (v := .ref C_NoDeed) rfl nB rfl) ae))) ae)))))))
    (aj (aJ (i := 2) c6.nd rfl (Or.inl rfl) (b5 (aa aU (aa aU (aa aU (aa aU (aa aU (aa aU (aa aU (aa aU (aa aU (aa aU (aa aU (aa aU (aa aU ae)))))))))))))))
    (aj (aJ (i := 2) c6.nd rfl (Or.inl rfl) (aD (g8 (K := K) rfl) (qv 2) (b5 (aa aU (aa aU (aa aU ae))))))
    (aj (cM (bT wA (oC (K := K) rfl PySem.F.plainAttrs_list PySem.F.slot_list_count PySem.F.type_list_count BD (qv 1) (aa dI ae)) af (bY _))
      (az (bg aU))
      qss_nil)
    (az (bg (cB (eH (K := K) rfl) (qv 2) (oC (K := K) rfl PySem.F.plainAttrs_list PySem.F.slot_list_index PySem.F.type_list_index (BC hr.units) (qv 1) (aa dI ae)) (fun _ _ => rfl)))))))))))), ?_⟩
  obtain ⟨C, j, nm, e, hC, hj, hn, q⟩ := hS
  subst e
  have cl := X_.cl _ hC
  have vl := X_.val _ hC
  have EV := kn.one C hC C_NoNet (by simp)
  have zR := kn.one C hC C_NoPlace (by simp)
  have BO := kn.one C hC C_NoSign (by simp)
  have BP := kn.one C hC C_NoWord (by simp)
  have zS := kn.one C hC C_NoWhole (by simp)
  have wZ := kn.one C hC C_NoNumber (by simp)
  have EW := kn.one C hC C_NoKin (by simp)
  have EX := kn.one C hC C_NoSet (by simp)
  have BQ := kn.one C hC C_NoPair (by simp)
  have BR := kn.one C hC C_NoStep (by simp)
  have BU := kn.one C hC C_NoCall (by simp)
  have zT := kn.one C hC C_TooMany (by simp)
  have zU := kn.one C hC C_NoPaper (by simp)
  have BV := kn.one C hC C_NoText (by simp)
  have EY := kn.one C hC C_NoRow (by simp)
  have BW := kn.one C hC C_NoDeed (by simp)
  simp! only [vl, EV, zR, BO, BP, zS, wZ, EW, EX, BQ, BR, BU, zT, zU, BV, EY, BW]
  have hc := oM (C := C) kn.nd (List.mem_of_getElem? hj)
  have hf := wX (C := C) kn.nd hj
  simp only [List.map_cons, List.map_nil] at hc hf
  refine ⟨cl, cl, cl, cl, cl, by decide, cl, cl, cl, cl, by decide, by decide, cl, cl, cl, cl, by decide, by decide, cl, cl, cl, cl, by decide, by decide, by decide, by decide, by decide, ?_⟩
  simp only [Option.map_some, hc]
  refine fm (fun h => absurd h (by decide)) (fun _ => ?_)
  have QJ : j < 16 := (List.getElem?_eq_some_iff.mp hj).1
  have en : cW (rD.map Dv.str) (j : Int) = some (.str nm) := cQ (by rw [List.getElem?_map, hn]; rfl)
  simp only [rD, List.map_cons, List.map_nil] at en
  refine ⟨fun t ht => ?_, j, hf, by omega, ?_⟩
  · simp only [List.mem_cons, List.not_mem_nil, or_false] at ht
    rcases ht with rfl | rfl | rfl | rfl | rfl | rfl | rfl | rfl | rfl | rfl | rfl | rfl | rfl | rfl | rfl | rfl <;> simp [fU]
  · simp only [en]
    exact .inl q
noncomputable def Kz (bB : List Dv) (C : Addr) : List Dv → cj := fun NV ds M _ E => NV = bB ∧ ds = [] ∧ E C M
noncomputable def tM (P : Program) (w : World) (K : PySem.W.Frag) (mg : Str → Option Value) (tb : cg) (cs L : List Addr) (base : Heap) : cj := fun ds M Q _ => ∃ (f : Addr) (fd : FuncData) (o : Obj) (c : Addr) (oc : Obj) (vcs : List V) (bB : List Dv) (C : Addr) (j : Nat) (nm : Str), ds = [.bX f o c oc vcs bB] ∧
  FnOk P w K mg base (cN P w) 12 f fd [] (Ik P w K tb f o c oc vcs (Kz bB C)) ∧ (∃ oc od fd sl, o = ⟨oc, od, .func fd, sl⟩) ∧ Binds K fd [] [] ∧ C ∈ cs ∧ L[j]? = some C ∧ rD[j]? = some nm ∧ Q (.str nm) M
theorem pD {f f1 : Addr} {fd bG : FuncData} {L : List Addr} (D : Df K mg "_law_refused" fc ["_law_deed"] f fd) (eG : Df K mg "_law_kind" gR ["_law_e"] f1 bG) (uy : FnOkN P w K mg base bt 1 f1 bG ["_law_e"] (aY P w K tb (wY cs L)))
    (X_ : o4 K C_RoadError cs) (jI : mg "RoadError" = some (.ref C_RoadError)) (bl : Bl mg) : FnOk P w K mg base bt 13 f fd ["_law_deed"] (aY P w K tb (tM P w K mg tb cs L base)) := by
  refine fJ D jD (fun ds M Q E hS => by obtain ⟨f, fd, o, c, oc, vcs, bB, C, j, nm, e, _⟩ := hS; rw [e]; rfl) fun A outer s E Γ ds Q' E' hP hw hK ht hr hS => ?_
  obtain ⟨f, fd, o, c, oc, vcs, bB, C, j, nm, e, uz, uA, uB, hC, hj, hn, q⟩ := hS
  refine ⟨_, (aj (HR (i := 1) (nn := 2) rfl jD.nd rfl rfl ⟨rfl, rfl⟩ rfl X_.top rfl jI (fun T pn EE E2 Di Im Qo Qp yu hp Qq => by
      have hP := hP.trans Im.symm
      have hw := hw.trans Qo.symm
      have hK := hK.trans Qp.symm
      have ht := ht.trans yu.symm
      exact (az (fW (zA (k := 12) (i := 0) uz uA (hr.mono (by decide)) rfl (Or.inl rfl) uB hp hP hw hK ht Qq))))
      (fun ea => (az (bg (BF uy (hr.Kv.mono (by decide)) rfl eG.mg eG.fn.kp eG.bd bb hP hw hK ht XR.none (aa (qv 1) ae))))))
    (az (bg aU))), ?_⟩
  subst e
  simp! only []
  refine ⟨rfl, rfl, X_.sub _ hC, C, j, nm, rfl, hC, hj, hn, .inl q⟩
end
section
variable {P : Program} {w : World} {K : PySem.W.Frag} {mg : Str → Option Value} {base : Heap} {tb : cg}
theorem cn : aQ ["_law_bag_here", "_law_net_here", "_law_at", "_law_row", "_law_odd", "_law_some"] ["_law_bag_here", "_law_net_here"] (ai eD) := ⟨rfl, rfl, rfl, by decide +kernel, rfl, by decide +kernel, by decide +kernel⟩
theorem EZ (r : List Int) : jj (eI r) = true := by
  simp only [jj, eI, List.all_eq_true]
  intro d hd
  obtain ⟨i, _, rfl⟩ := List.mem_map.mp hd
  rfl
theorem tN {rs : List Dv} {r : Dv} (hr : r ∈ rs) (h : ∀ w, w = 2 ∨ w = 3 → dG rs.length w r = false) : eh (.tup rs) = false := by
  have f : ∀ w, w = 2 ∨ w = 3 → rs.all (dG rs.length w) = false := fun w hw => by
    rw [List.all_eq_false]
    exact ⟨r, hr, by rw [h w hw]; exact Bool.false_ne_true⟩
  simp only [eh, f 2 (.inl rfl), f 3 (.inr rfl), Bool.or_self, Bool.and_false]
theorem uC {m : Nat} {ds : List Dv} {d : Dv} (hd : d ∈ ds) (h : aW m d = false) : ds.all (aW m) = false := by
  rw [List.all_eq_false]
  exact ⟨d, hd, by rw [h]; exact Bool.false_ne_true⟩
theorem IK {aq : List (List Int)} {k : Nat} (hk : k < aq.length) : cW (aq.map eI) (k : Int) = some (eI aq[k]) := cQ (by rw [List.getElem?_map, List.getElem?_eq_getElem hk]; rfl)
theorem BX {n w : Nat} {ds : List Dv} {d : Dv} (hd : d ∈ ds) (h : aW n d = false) : dG n w (.tup ds) = false := by
  simp only [dG, uC hd h, Bool.and_false]
theorem pE {xs : List Dv} {lo hi : Option Int} {d : Dv} (h : d ∈ L2.cutD xs lo hi) : d ∈ xs := List.mem_of_mem_drop (List.mem_of_mem_take h)
theorem pF {xs : List Dv} {lo hi : Option Int} : (L2.cutD xs lo hi).length ≤ xs.length := by
  unfold L2.cutD
  rw [List.length_take, List.length_drop]
  omega
theorem tO {aq : List (List Int)} : ∀ d ∈ aq.map eI, jj d = true := fun d hd => by
  obtain ⟨r, _, rfl⟩ := List.mem_map.mp hd
  exact EZ r
theorem vD {r : List Int} : ∀ d ∈ r.map Dv.int, ia d = true := fun d hd => by
  obtain ⟨i, _, rfl⟩ := List.mem_map.mp hd
  rfl
theorem zV {aq : List (List Int)} {r : Dv} {at_ : Nat} (iS : at_ < aq.length) (hk : jj r = true) (h : ∀ w, w = 2 ∨ w = 3 → dG aq.length w r = false) : ib (.tup (L2.cutD (aq.map eI) none (some (at_ : Nat)) ++ [r] ++ L2.cutD (aq.map eI) (some ((at_ : Nat) + 1)) none)) = true ∧ eh (.tup (L2.cutD (aq.map eI) none (some (at_ : Nat)) ++ [r] ++ L2.cutD (aq.map eI) (some ((at_ : Nat) + 1)) none)) = false := by
  have el : (L2.cutD (aq.map eI) none (some (at_ : Nat)) ++ [r] ++ L2.cutD (aq.map eI) (some ((at_ : Nat) + 1)) none).length = aq.length := by
    rw [show ((at_ : Nat) : Int) + 1 = ((at_ + 1 : Nat) : Int) by omega, EB, zg]
    simp only [List.length_append, List.length_singleton, List.length_take, List.length_drop, List.length_map]
    omega
  refine ⟨?_, tN (r := r) (by simp) fun w hw => by rw [el]; exact h w hw⟩
  simp only [ib, List.all_eq_true]
  intro d hd
  rcases List.mem_append.mp hd with hd | hd
  · rcases List.mem_append.mp hd with hd | hd
    · exact tO d (pE hd)
    · rw [List.mem_singleton] at hd; subst hd; exact hk
  · exact tO d (pE hd)
theorem vE {ds : List Dv} (h : ∀ d ∈ ds, ia d = true) : jj (.tup ds) = true := by
  simp only [jj, List.all_eq_true]
  exact h
noncomputable def jk (row : List Int) (m : Nat) : List Dv := [.ao, .tup (row.map Dv.int ++ [.int 0, .int 0]), .tup [], .lst (row.map Dv.int), .tup (L2.cutD (row.map Dv.int) none (some (-1)) ++ [.int (m : Nat)]), .tup (L2.cutD (row.map Dv.int) none (some (-1)) ++ [.int (-1)]), .int 5,
  .tup (L2.cutD (row.map Dv.int) none (some (-1)) ++ [.bl true]), .tup (L2.cutD (row.map Dv.int) none (some (-1)) ++ [.str (Str.ofString "0")]), .tup (L2.cutD (row.map Dv.int) none (some (-1)) ++ [.int (10 ^ Int.toNat 39)]), .tup (L2.cutD (row.map Dv.int) none (some (-1)) ++ [.tup [.int 0]])]
theorem zW {row : List Int} {m n : Nat} (h9 : m ≤ 9) (hw : n = 2 ∨ n = 3) (hr : row.length = n) : ∀ d ∈ jk row m, jj d = true ∧ ∀ w, w = 2 ∨ w = 3 → dG m w d = false := fun d hd => by
  have big : (10 : Int) ^ Int.toNat 39 = 1000000000000000000000000000000000000000 := by decide +kernel
  have cut : ∀ y : Dv, ia y = true → aW m y = false → jj (.tup (L2.cutD (row.map Dv.int) none (some (-1)) ++ [y])) = true ∧ ∀ w, w = 2 ∨ w = 3 → dG m w (.tup (L2.cutD (row.map Dv.int) none (some (-1)) ++ [y])) = false := fun y hk hb =>
    ⟨vE fun d hd => by
      rcases List.mem_append.mp hd with hd | hd
      · exact vD d (pE hd)
      · rw [List.mem_singleton] at hd; subst hd; exact hk, fun w _ => BX (d := y) (by simp) hb⟩
  simp only [jk, List.mem_cons, List.not_mem_nil, or_false] at hd
  rcases hd with rfl | rfl | rfl | rfl | rfl | rfl | rfl | rfl | rfl | rfl | rfl
  · exact ⟨rfl, fun _ _ => rfl⟩
  · refine ⟨vE fun d hd => ?_, fun w hw => ?_⟩
    · rcases List.mem_append.mp hd with hd | hd
      · exact vD d hd
      · simp at hd; rcases hd with rfl | rfl <;> rfl
    · simp only [dG, List.length_append, List.length_map, List.length_cons, List.length_nil, Bool.and_eq_false_iff, decide_eq_false_iff_not]
      left
      omega
  · exact ⟨rfl, fun w hw => by rcases hw with rfl | rfl <;> rfl⟩
  · exact ⟨rfl, fun _ _ => rfl⟩
  · exact cut _ rfl (by simp [aW])
  · exact cut _ rfl (by simp [aW])
  · exact ⟨rfl, fun _ _ => rfl⟩
  · exact cut _ rfl rfl
  · exact cut _ rfl rfl
  · exact cut _ rfl (by simp only [aW, Bool.and_eq_false_iff, decide_eq_false_iff_not]; right; omega)
  · exact cut _ rfl rfl
noncomputable def putAt (aq : List (List Int)) (at_ : Nat) (y : Dv) : Dv := .tup (L2.cutD (aq.map eI) none (some (at_ : Nat)) ++ [y] ++ L2.cutD (aq.map eI) (some ((at_ : Nat) + 1)) none)
noncomputable def gL (aq : List (List Int)) : List Dv := [.ao, .bl true, .int 0, .str (Str.ofString "00"), .str (Str.ofString ""), .tup [], .lst [], .lst (aq.map eI), .tup [.tup [.int 0]], .tup (List.replicate (Int.toNat 10) [Dv.tup [.int 0, .int 0]]).flatten, .tup (aq.map eI ++ [.tup [.int 0]]), .tup [.ao], .tup [.tup [.tup [.int 0, .int 0]]]]
theorem w5 {aq : List (List Int)} {n : Nat} (O : iu aq n) : ∀ d ∈ gL aq, ib d = true ∧ eh d = false := fun d hd => by
  simp only [gL, List.mem_cons, List.not_mem_nil, or_false] at hd
  rcases hd with rfl | rfl | rfl | rfl | rfl | rfl | rfl | rfl | rfl | rfl | rfl | rfl | rfl
  any_goals exact ⟨rfl, rfl⟩
  refine ⟨?_, tN (r := .tup [.int 0]) (by simp) fun w hw => by rcases hw with rfl | rfl <;> rfl⟩
  simp only [ib, List.all_eq_true]
  intro d hd
  rcases List.mem_append.mp hd with hd | hd
  · exact tO d hd
  · rw [List.mem_singleton] at hd; subst hd; rfl
noncomputable def zX : cj := fun ds M Q _ => ∃ (b : Addr) (aq : List (List Int)) (n : Nat), ds = [.ptr b, eN aq] ∧ M b = some .cY ∧ iu aq n ∧ ∀ d, ib d = true → eh d = false → Q d M
theorem qW {f f1 : Addr} {fd bG : FuncData} (D : Df K mg "_law_no_net" eD ["_law_bag_here", "_law_net_here"] f fd)
    (ah : Df K mg "_law_take" cP ["_law_bag_here", "_law_many"] f1 bG) (aP : FnOk P w K mg base bt 1 f1 bG ["_law_bag_here", "_law_many"] (aY P w K tb jB)) (bl : Bl mg) :
    FnOk P w K mg base bt 2 f fd ["_law_bag_here", "_law_net_here"] (aY P w K tb zX) := by
  refine fJ D cn (fun ds M Q E hS => by obtain ⟨b, aq, n, e, _⟩ := hS; rw [e]; rfl) fun A outer s E Γ ds Q' E' hP hw hK ht hr hS => ⟨_, (aj (aJ (i := 2) cn.nd rfl (Or.inr rfl) (aG aP (hr.mono (by decide)) rfl ah.mg ah.fn.kp ah.bd bb hP hw hK ht XR.none (aa (qv 0) (aa (av (d8 (K := K) rfl hK) rfl bl.len_ PySem.boot_len (aa (qv 1) ae)) ae))))
    (aj (aJ (i := 3) cn.nd rfl (Or.inl rfl) (cB (eH (K := K) rfl) (qv 1) (qv 2) (fun _ _ => rfl)))
    (aj (aJ (i := 4) cn.nd rfl (Or.inl rfl) (b5 (aa (aw (aa jW ae)) (aa (aw (aa (aD (fx (K := K) rfl) (qv 3) (aw (aa af (aa af ae)))) ae)) (aa (aw (aa (aw ae) ae)) (aa (aw (aa (fZ (sT (K := K) rfl) rfl bl.list_ oW (aa (qv 3) ae)) ae)) (aa (aw (aa (aD (fx (K := K) rfl) (eV (jv (K := K) rfl) (qv 3) fX (fY (gw af))) (aw (aa (av (d8 (K := K) rfl hK) rfl bl.len_ PySem.boot_len (aa (qv 1) ae)) ae))) ae)) (aa (aw (aa (aD (fx (K := K) rfl) (eV (jv (K := K) rfl) (qv 3) fX (fY (gw af))) (aw (aa (gw af) ae))) ae)) (aa (aw (aa af ae)) ae)))))))))
    (aj (aJ (i := 4) cn.nd rfl (Or.inl rfl) (aD (g8 (K := K) rfl) (qv 4) (b5 (aa (aw (aa (aD (fx (K := K) rfl) (eV (jv (K := K) rfl) (qv 3) fX (fY (gw af))) (aw (aa dI ae))) ae)) (aa (aw (aa (aD (fx (K := K) rfl) (eV (jv (K := K) rfl) (qv 3) fX (fY (gw af))) (aw (aa aU ae))) ae)) (aa (aw (aa (aD (fx (K := K) rfl) (eV (jv (K := K) rfl) (qv 3) fX (fY (gw af))) (aw (aa (aD rn af af) ae))) ae)) (aa (aw (aa (aD (fx (K := K) rfl) (eV (jv (K := K) rfl) (qv 3) fX (fY (gw af))) (aw (aa (aw (aa af ae)) ae))) ae)) ae)))))))
    (aj (aJ (i := 5) cn.nd rfl (Or.inl rfl) (b5 (aa jW (aa dI (aa af (aa aU (aa aU (aa (aw ae) (aa (b5 ae) (aa (fZ (sT (K := K) rfl) rfl bl.list_ oW (aa (qv 1) ae)) (aa (aw (aa (aw (aa af ae)) ae)) (aa (aD Iu (aw (aa (aw (aa af (aa af ae))) ae)) af) (aa (aD (fx (K := K) rfl) (qv 1) (aw (aa (aw (aa af ae)) ae))) (aa (aw (aa jW ae)) (aa (aw (aa (aw (aa (aw (aa af (aa af ae))) ae)) ae)) ae)))))))))))))))
    (aj (aJ (i := 5) cn.nd rfl (Or.inl rfl) (aD (g8 (K := K) rfl) (qv 5) (eE (N' := ["_law_one", "_law_net_here", "_law_at"]) (tn := 1) (idx := [1, 2]) rfl (show aK ["_law_bag_here", "_law_net_here", "_law_at", "_law_row", "_law_odd", "_law_some"] (ai eD) _ ["_law_one", "_law_net_here", "_law_at"] 1 [1, 2] from by decide +kernel) (o5 (K := K) rfl (qv 4)) (fun _ _ _ _ _ => (bF (i := 0) (show List.Nodup [("_law_one" : Str), ("_law_net_here" : Str), ("_law_at" : Str)] from by decide +kernel) rfl (Or.inl rfl))) (fun _ _ _ _ _ => cR) (fun _ _ _ _ _ => (aD (fx (K := K) rfl) (aD (fx (K := K) rfl) (eV (jv (K := K) rfl) (qv 1) fX (fY (qv 2))) (qv 0)) (eV (jv (K := K) rfl) (qv 1) (fY (aD fF (qv 2) af)) fX))))))
    (az (bg (cB (eH (K := K) rfl) (qv 5) (aG aP (hr.mono (by decide)) rfl ah.mg ah.fn.kp ah.bd bb hP hw hK ht XR.none (aa (qv 0) (aa (av (d8 (K := K) rfl hK) rfl bl.len_ PySem.boot_len (aa (qv 5) ae)) ae))) (fun _ _ => rfl)))))))))), ?_⟩
  obtain ⟨b, aq, n, e, hb, O, q⟩ := hS
  subst e
  have h9 := O.nine
  have h1 := O.one
  have Qr := O.wid
  have big : (1000 : Nat) < sizeLine := by decide
  dsimp! only []
  refine ⟨b, aq.length, rfl, hb, by omega, by omega, fun at_ iS => ?_⟩
  have BZ : at_ < aq.length := by omega
  have ji := O.row _ (List.getElem_mem BZ)
  dsimp! only [IK BZ, eI]
  have ml : (aq.map eI).length = aq.length := by simp
  have rl : (List.map Dv.int aq[at_]).length = n := by rw [List.length_map]; exact ji.1
  have kc := @pF (List.map Dv.int aq[at_]) none (some (-1))
  have k3 := @pF (aq.map eI) none (some (at_ : Nat))
  have k4 := @pF (aq.map eI) (some ((at_ : Nat) + 1)) none
  have Ra : aq[at_].length = n := ji.1
  repeat first | refine ⟨by omega, ?_⟩ | refine ⟨⟨by decide, by decide, by decide⟩, ?_⟩ | refine ⟨⟨by simp, by decide, by decide, by decide⟩, ?_⟩
  refine vo (fun d => match d with | .tup xs => .tup (L2.cutD (aq.map eI) none (some (at_ : Nat)) ++ xs ++ L2.cutD (aq.map eI) (some ((at_ : Nat) + 1)) none) | d => d) (fun τ M' => (∃ x, τ = [x, some (eN aq), some (.int (at_ : Nat))]) ∧ M' = Γ.M0) ⟨⟨_, rfl⟩, rfl⟩ (fun d hd τ M' hJ R hR => ?_) (fun τ M' hJ => ?_)
  · obtain ⟨⟨x, rfl⟩, rfl⟩ := hJ
    obtain ⟨y, rfl⟩ : ∃ y, d = .tup [y] := by
      simp only [List.mem_cons, List.not_mem_nil, or_false, List.cons_append, List.nil_append] at hd
      rcases hd with rfl | rfl | rfl | rfl | rfl | rfl | rfl | rfl | rfl | rfl | rfl <;> exact ⟨_, rfl⟩
    have h := hR [some (.tup [y]), some (eN aq), some (.int (at_ : Nat))] Γ.M0 ⟨⟨_, rfl⟩, rfl⟩
    simp! only [eI]
    refine ⟨by first | omega | (simp only [List.length_cons, List.length_nil]; omega), by first | omega | (simp only [List.length_append, List.length_cons, List.length_nil]; omega), h⟩
  obtain ⟨⟨x, rfl⟩, rfl⟩ := hJ
  refine ⟨by first | omega | (simp only [List.length_map, List.length_cons, List.length_nil]; omega), b, 24, rfl, hb, by decide, by decide, fun d hd => ?_⟩
  have IL : d < (gL aq ++ (jk aq[at_] aq.length).map (putAt aq at_)).length := by show d < 24; omega
  have e := cQ (List.getElem?_eq_getElem IL)
  have e2 : ib ((gL aq ++ (jk aq[at_] aq.length).map (putAt aq at_))[d]) = true ∧ eh ((gL aq ++ (jk aq[at_] aq.length).map (putAt aq at_))[d]) = false := by
    rcases List.mem_append.mp (List.getElem_mem IL) with z | z
    · exact w5 O _ z
    · obtain ⟨y, hy, ey⟩ := List.mem_map.mp z
      rw [← ey]
      obtain ⟨k1, k2⟩ := zW h9 Qr ji.1 y hy
      exact zV BZ k1 k2
  generalize (gL aq ++ (jk aq[at_] aq.length).map (putAt aq at_))[d] = r at e e2
  show (match cW (gL aq ++ (jk aq[at_] aq.length).map (putAt aq at_)) ((d : Nat) : Int) with | some r => jH Γ.M0 Q' r Γ.M0 | none => False)
  rw [e]
  exact .inl (q _ e2.1 e2.2)
end
section
variable {P : Program} {w : World} {K : PySem.W.Frag} {mg : Str → Option Value} {base : Heap} {tb : cg} {C_RoadError C_NoNet C_NoPair : Addr} {cs : List Addr}
theorem w6 : aQ ["net", "thing"] ["net", "thing"] (ai jz) := ⟨rfl, rfl, rfl, by decide +kernel, rfl, by decide +kernel, by decide +kernel⟩
theorem tP : aQ ["net", "thing"] ["net", "thing"] (ai fB) := ⟨rfl, rfl, rfl, by decide +kernel, rfl, by decide +kernel, by decide +kernel⟩
theorem w9 : aQ ["net", "pair"] ["net", "pair"] (ai jA) := ⟨rfl, rfl, rfl, by decide +kernel, rfl, by decide +kernel, by decide +kernel⟩
theorem tQ : aQ ["net", "pair"] ["net", "pair"] (ai gQ) := ⟨rfl, rfl, rfl, by decide +kernel, rfl, by decide +kernel, by decide +kernel⟩
theorem oN : aQ ["net", "ends", "called"] ["net"] (ai fb) := ⟨rfl, rfl, rfl, by decide +kernel, rfl, by decide +kernel, by decide +kernel⟩
theorem dz : aQ ["_law_bag_here", "_law_net_here", "_law_many", "_law_some"] ["_law_bag_here", "_law_net_here"] (ai fe) := ⟨rfl, rfl, rfl, by decide +kernel, rfl, by decide +kernel, by decide +kernel⟩
noncomputable def pairD (m : Nat) (d : Dv) : Bool := km m d && (match d with | .tup ds => decide (ds.length = 2) | _ => false)
noncomputable def zY : cj := fun ds M Q _ => ∃ aq n d, ds = [eN aq, d] ∧ iu aq n ∧ lW d ∧ Q (.bl (pairD aq.length d)) M
theorem xa {f f1 : Addr} {fd bG : FuncData} (D : Df K mg "is_pair" jz ["net", "thing"] f fd) (fP : Df K mg "is_set" jg ["net", "thing"] f1 bG) (B1 : FnOk P w K mg base bt 5 f1 bG ["net", "thing"] (aY P w K tb tK)) (bl : Bl mg) : FnOk P w K mg base bt 6 f fd ["net", "thing"] (aY P w K tb zY) := by
  refine fJ D w6 (fun ds M Q E hS => by obtain ⟨aq, n, d, e, _⟩ := hS; rw [e]; rfl) fun A outer s E Γ ds Q' E' hP hw hK ht hr hS => ⟨_, (az (bg (ou (aG B1 (hr.mono (by decide)) rfl fP.mg fP.fn.kp fP.bd bb hP hw hK ht XR.none (aa (qv 0) (aa (qv 1) ae))) (oq (vh kb (av (d8 (K := K) rfl hK) rfl bl.len_ PySem.boot_len (aa (qv 1) ae)) af (bY _)))))), ?_⟩
  obtain ⟨aq, n, d, e, O, hk, q⟩ := hS
  subst e
  refine ⟨aq, n, d, rfl, O, hk, ?_⟩
  cases hs : km aq.length d with
  | false =>
    simp only [pairD, hs, Bool.false_and] at q
    simp! only []
    exact .inl q
  | true =>
    obtain ⟨ns, rfl, _, _⟩ := BM hk hs
    simp only [pairD, hs, Bool.true_and, eI] at q
    simp! only [eI]
    rw [show decide ((((ns.length : Nat) : Int)) = 2) = decide ((List.map Dv.int ns).length = 2) by simp only [List.length_map]; exact decide_eq_decide.mpr (by omega)]
    exact .inl q
noncomputable def KA (CN CP : Addr) (d x : Dv) (C : Addr) : Prop := (ib d = true ∧ eh d = false ∧ C = CN) ∨ ∃ aq n, d = eN aq ∧ iu aq n ∧ lW x ∧ pairD aq.length x = false ∧ C = CP
noncomputable def ku (C : Addr) : cj := fun ds M Q E => ∃ aq n d, ds = [eN aq, d] ∧ iu aq n ∧ lW d ∧ pairD aq.length d = false ∧ E C M
theorem tR {f f1 : Addr} {fd bG : FuncData} (D : Df K mg "need_pair" fB ["net", "thing"] f fd) (gd : Df K mg "is_pair" jz ["net", "thing"] f1 bG) (zZ : FnOk P w K mg base bt 6 f1 bG ["net", "thing"] (aY P w K tb zY))
    (X_ : o4 K C_RoadError cs) (fQ : C_NoPair ∈ cs) (gK : mg "NoPair" = some (.ref C_NoPair)) : FnOk P w K mg base (cN P w) 8 f fd ["net", "thing"] (aY P w K tb (ku C_NoPair)) := by
  refine oD D tP (fun ds M Q E hS => by obtain ⟨aq, n, d, e, _⟩ := hS; rw [e]; rfl) fun A outer s E Γ ds Q' E' hP hw hK ht hE hr hS => ⟨_, (az (cM (i6 (i5 (aG zZ (hr.mono (by decide)) rfl gd.mg gd.fn.kp gd.bd bb hP hw hK ht XR.none (aa (qv 0) (aa (qv 1) ae)))))
      (az (sW (X_.ex _ fQ) PySem.F.excBase_ValueError rfl yK hE rfl gK (aa aU ae)))
      qss_nil)), ?_⟩
  obtain ⟨aq, n, d, e, O, hk, hp, q⟩ := hS
  subst e
  simp! only []
  refine ⟨aq, n, d, rfl, O, hk, ?_⟩
  simp! only [hp]
  exact ⟨by decide, q⟩
noncomputable def mB (CN CP : Addr) : cj := fun ds M _ E => ∃ d x C, ds = [d, x] ∧ KA CN CP d x C ∧ E C M
theorem xc {f f1 f2 : Addr} {fd bG fd2 : FuncData} (D : Df K mg "call_of" jA ["net", "pair"] f fd) (bf : Df K mg "need_net" e8 ["thing"] f1 bG) (gy : FnOk P w K mg base (cN P w) 7 f1 bG ["thing"] (aY P w K tb (rB C_NoNet)))
    (bL : Df K mg "need_pair" fB ["net", "thing"] f2 fd2) (jJ : FnOk P w K mg base (cN P w) 8 f2 fd2 ["net", "thing"] (aY P w K tb (ku C_NoPair))) : FnOk P w K mg base (cN P w) 9 f fd ["net", "pair"] (aY P w K tb (mB C_NoNet C_NoPair)) := by
  refine oD D w9 (fun ds M Q E hS => by obtain ⟨d, x, C, e, _⟩ := hS; rw [e]; rfl) fun A outer s E Γ ds Q' E' hP hw hK ht hE hr hS => ⟨_, (aj (fW (aG gy (hr.mono (by decide)) rfl bf.mg bf.fn.kp bf.bd oj hP hw hK ht hE (aa (qv 0) ae)))
    (aj (fW (aG jJ (hr.mono (by decide)) rfl bL.mg bL.fn.kp bL.bd oj hP hw hK ht hE (aa (qv 0) (aa (qv 1) ae)))) lD)), ?_⟩
  obtain ⟨d, x, C, e, hB, q⟩ := hS
  subst e
  simp! only []
  rcases hB with ⟨hk, hd, rfl⟩ | ⟨aq, n, rfl, O, hk, hp, rfl⟩
  · exact ⟨d, rfl, hk, fun h => (by rw [hd] at h; cases h), fun _ => q⟩
  · exact ⟨_, rfl, vC aq, fun _ => ⟨aq, n, x, rfl, O, hk, hp, q⟩, fun h => (by rw [vB O] at h; cases h)⟩
theorem tS {f f1 f2 : Addr} {fd bG fd2 : FuncData} (D : Df K mg "led_pairs" gQ ["net", "pair"] f fd) (bf : Df K mg "need_net" e8 ["thing"] f1 bG) (gy : FnOk P w K mg base (cN P w) 7 f1 bG ["thing"] (aY P w K tb (rB C_NoNet)))
    (bL : Df K mg "need_pair" fB ["net", "thing"] f2 fd2) (jJ : FnOk P w K mg base (cN P w) 8 f2 fd2 ["net", "thing"] (aY P w K tb (ku C_NoPair))) : FnOk P w K mg base (cN P w) 9 f fd ["net", "pair"] (aY P w K tb (mB C_NoNet C_NoPair)) := by
  refine oD D tQ (fun ds M Q E hS => by obtain ⟨d, x, C, e, _⟩ := hS; rw [e]; rfl) fun A outer s E Γ ds Q' E' hP hw hK ht hE hr hS => ⟨_, (aj (fW (aG gy (hr.mono (by decide)) rfl bf.mg bf.fn.kp bf.bd oj hP hw hK ht hE (aa (qv 0) ae)))
    (aj (fW (aG jJ (hr.mono (by decide)) rfl bL.mg bL.fn.kp bL.bd oj hP hw hK ht hE (aa (qv 0) (aa (qv 1) ae)))) lD)), ?_⟩
  obtain ⟨d, x, C, e, hB, q⟩ := hS
  subst e
  simp! only []
  rcases hB with ⟨hk, hd, rfl⟩ | ⟨aq, n, rfl, O, hk, hp, rfl⟩
  · exact ⟨d, rfl, hk, fun h => (by rw [hd] at h; cases h), fun _ => q⟩
  · exact ⟨_, rfl, vC aq, fun _ => ⟨aq, n, x, rfl, O, hk, hp, q⟩, fun h => (by rw [vB O] at h; cases h)⟩
noncomputable def tT (CN : Addr) : cj := fun ds M _ E => ∃ d, ds = [d] ∧ ib d = true ∧ eh d = false ∧ E CN M
theorem oO {f f1 : Addr} {fd bG : FuncData} (D : Df K mg "never_called" fb ["net"] f fd) (bf : Df K mg "need_net" e8 ["thing"] f1 bG) (gy : FnOk P w K mg base (cN P w) 7 f1 bG ["thing"] (aY P w K tb (rB C_NoNet))) : FnOk P w K mg base (cN P w) 8 f fd ["net"] (aY P w K tb (tT C_NoNet)) := by
  refine oD D oN (fun ds M Q E hS => by obtain ⟨d, e, _⟩ := hS; rw [e]; rfl) fun A outer s E Γ ds Q' E' hP hw hK ht hE hr hS => ⟨_, (aj (fW (aG gy (hr.mono (by decide)) rfl bf.mg bf.fn.kp bf.bd oj hP hw hK ht hE (aa (qv 0) ae))) lD), ?_⟩
  obtain ⟨d, e, hk, hd, q⟩ := hS
  subst e
  simp! only []
  exact ⟨d, rfl, hk, fun h => (by rw [hd] at h; cases h), fun _ => q⟩
theorem pG {m : Nat} {a b : Int} (h : ¬ a < b) : pairD m (.tup [.int a, .int b]) = false := by
  have e : rC [.int a, .int b] = false := by
    simp only [rC, show eQ [.int a, .int b] = some [a, b] from rfl]
    refine decide_eq_false fun z => h ?_
    have st := ur [a, b]
    rw [← z] at st
    exact (List.pairwise_cons.mp st).1 b List.mem_cons_self
  simp only [pairD, km, e, Bool.and_false, Bool.false_and]
theorem cJ {m : Nat} {ds : List Dv} {d : Dv} (hd : d ∈ ds) (h : aW m d = false) : pairD m (.tup ds) = false := by
  have e : ds.all (aW m) = false := by rw [List.all_eq_false]; exact ⟨d, hd, by rw [h]; exact Bool.false_ne_true⟩
  simp only [pairD, km, e, Bool.and_false, Bool.false_and]
theorem nC {m : Nat} {ds : List Dv} (h : ds.length ≠ 2) : pairD m (.tup ds) = false := by
  simp only [pairD, decide_eq_false h, Bool.and_false]
noncomputable def pA (m : Nat) : List Dv := [.ao, .bl true, .int 0, .str (Str.ofString "01"), .str (Str.ofString ""), .tup [], .lst [], .lst [.int 0, .int 1], .tup [.int 0], .tup [.int 0, .int 0], .tup [.int 0, .int (m : Nat)], .tup [.int (-1), .int 0], .tup [.int (m : Nat), .int ((m : Nat) + 1)], .tup [.int 0, .int 1, .int 2]]
noncomputable def pB (m : Nat) : List Dv := [.tup [.bl false, .int 1], .tup [.int 0, .bl true], .tup [.str (Str.ofString "0"), .str (Str.ofString "1")], .tup [.int 0, .int (10 ^ Int.toNat 39)], .tup [.tup [.int 0, .int 1]], .tup [.int 0, .ao], .tup [.ao, .int 1], .tup [.int ((m : Nat) - 1), .int 0]]
noncomputable def gM (m : Nat) : List Dv := pA m ++ pB m ++ [.tup [.int ((m : Nat) - 1), .int ((m : Nat) - 1)], .tup [.int 0, .tup [.int 1]], .tup [.tup [.int 0], .tup [.int 1]], .tup [.int (oJ 10 39), .int 0]]
theorem xf {m : Nat} (h1 : 1 ≤ m) (h9 : m ≤ 9) : ∀ d ∈ gM m, lW d ∧ pairD m d = false := fun d hd => by
  have big : (10 : Int) ^ Int.toNat 39 = 1000000000000000000000000000000000000000 := by decide +kernel
  have QK : oJ 10 39 = -1000000000000000000000000000000000000000 := by decide +kernel
  have kd : ∀ {ds : List Dv}, ds.all ia = true → ds.length ≤ 20 → lW (.tup ds) := fun h hl => ⟨fun d hd => List.all_eq_true.mp h d hd, hl⟩
  simp only [gM, pA, pB, List.cons_append, List.nil_append, List.mem_cons, List.not_mem_nil, or_false] at hd
  rcases hd with rfl | rfl | rfl | rfl | rfl | rfl | rfl | rfl | rfl | rfl | rfl | rfl | rfl | rfl | rfl | rfl | rfl | rfl | rfl | rfl | rfl | rfl | rfl | rfl | rfl | rfl
  · exact ⟨rfl, rfl⟩
  · exact ⟨rfl, rfl⟩
  · exact ⟨rfl, rfl⟩
  · exact ⟨rfl, rfl⟩
  · exact ⟨rfl, rfl⟩
  · exact ⟨kd rfl (by simp), rfl⟩
  · exact ⟨rfl, rfl⟩
  · exact ⟨rfl, rfl⟩
  · exact ⟨kd rfl (by simp), nC (by simp)⟩
  · exact ⟨kd rfl (by simp), pG (by omega)⟩
  · exact ⟨kd rfl (by simp), cJ (d := .int (m : Nat)) (by simp) (by simp [aW])⟩
  · exact ⟨kd rfl (by simp), cJ (d := .int (-1)) (by simp) (by simp [aW])⟩
  · exact ⟨kd rfl (by simp), cJ (d := .int (m : Nat)) (by simp) (by simp [aW])⟩
  · exact ⟨kd rfl (by simp), nC (by simp)⟩
  · exact ⟨kd rfl (by simp), cJ (d := .bl false) (by simp) rfl⟩
  · exact ⟨kd rfl (by simp), cJ (d := .bl true) (by simp) rfl⟩
  · exact ⟨kd rfl (by simp), cJ (d := .str (Str.ofString "0")) (by simp) rfl⟩
  · exact ⟨kd rfl (by simp), cJ (d := .int (10 ^ Int.toNat 39)) (by simp) (by simp only [aW, Bool.and_eq_false_iff, decide_eq_false_iff_not]; right; omega)⟩
  · exact ⟨kd rfl (by simp), nC (by simp)⟩
  · exact ⟨kd rfl (by simp), cJ (d := .ao) (by simp) rfl⟩
  · exact ⟨kd rfl (by simp), cJ (d := .ao) (by simp) rfl⟩
  · exact ⟨kd rfl (by simp), pG (by omega)⟩
  · exact ⟨kd rfl (by simp), pG (by omega)⟩
  · exact ⟨kd rfl (by simp), cJ (d := .tup [.int 1]) (by simp) rfl⟩
  · exact ⟨kd rfl (by simp), cJ (d := .tup [.int 1]) (by simp) rfl⟩
  · exact ⟨kd rfl (by simp), cJ (d := .int (oJ 10 39)) (by simp) (by simp only [aW, Bool.and_eq_false_iff, decide_eq_false_iff_not]; left; omega)⟩
noncomputable def qN : cj := fun ds M Q _ => ∃ (b : Addr) (aq : List (List Int)) (n : Nat), ds = [.ptr b, eN aq] ∧ M b = some .cY ∧ iu aq n ∧ ∀ d, lW d → pairD aq.length d = false → Q d M
theorem pH {f f1 : Addr} {fd bG : FuncData} (D : Df K mg "_law_no_pair" fe ["_law_bag_here", "_law_net_here"] f fd)
    (ah : Df K mg "_law_take" cP ["_law_bag_here", "_law_many"] f1 bG) (aP : FnOk P w K mg base bt 1 f1 bG ["_law_bag_here", "_law_many"] (aY P w K tb jB)) (bl : Bl mg) :
    FnOk P w K mg base bt 2 f fd ["_law_bag_here", "_law_net_here"] (aY P w K tb qN) := by
  refine fJ D dz (fun ds M Q E hS => by obtain ⟨b, aq, n, e, _⟩ := hS; rw [e]; rfl) fun A outer s E Γ ds Q' E' hP hw hK ht hr hS => ⟨_, (aj (aJ (i := 2) dz.nd rfl (Or.inl rfl) (av (d8 (K := K) rfl hK) rfl bl.len_ PySem.boot_len (aa (qv 1) ae)))
    (aj (aJ (i := 3) dz.nd rfl (Or.inl rfl) (b5 (aa jW (aa dI (aa af (aa aU (aa aU (aa (aw ae) (aa (b5 ae) (aa (b5 (aa af (aa af ae))) (aa (aw (aa af ae)) (aa (aw (aa af (aa af ae))) (aa (aw (aa af (aa (qv 2) ae))) (aa (aw (aa (gw af) (aa af ae))) (aa (aw (aa (qv 2) (aa (aD fF (qv 2) af) ae))) (aa (aw (aa af (aa af (aa af ae)))) ae))))))))))))))))
    (aj (aJ (i := 3) dz.nd rfl (Or.inl rfl) (aD (g8 (K := K) rfl) (qv 3) (b5 (aa (aw (aa dI (aa af ae))) (aa (aw (aa af (aa dI ae))) (aa (aw (aa aU (aa aU ae))) (aa (aw (aa af (aa (aD rn af af) ae))) (aa (aw (aa (aw (aa af (aa af ae))) ae)) (aa (aw (aa af (aa jW ae))) (aa (aw (aa jW (aa af ae))) (aa (aw (aa (aD rk (qv 2) af) (aa af ae))) ae)))))))))))
    (aj (aJ (i := 3) dz.nd rfl (Or.inl rfl) (aD (g8 (K := K) rfl) (qv 3) (b5 (aa (aw (aa (aD rk (qv 2) af) (aa (aD rk (qv 2) af) ae))) (aa (aw (aa af (aa (aw (aa af ae)) ae))) (aa (aw (aa (aw (aa af ae)) (aa (aw (aa af ae)) ae))) (aa (aw (aa (zE (gw (aD rn af af)) ⟨by decide, by decide, by decide⟩) (aa af ae))) ae)))))))
    (az (bg (cB (eH (K := K) rfl) (qv 3) (aG aP (hr.mono (by decide)) rfl ah.mg ah.fn.kp ah.bd bb hP hw hK ht XR.none (aa (qv 0) (aa (av (d8 (K := K) rfl hK) rfl bl.len_ PySem.boot_len (aa (qv 3) ae)) ae))) (fun _ _ => rfl)))))))), ?_⟩
  obtain ⟨b, aq, n, e, hb, O, q⟩ := hS
  subst e
  have h9 := O.nine
  have h1 := O.one
  have big : (1000 : Nat) < sizeLine := by decide
  refine iC (fun ρ M => ρ = [some (.ptr b), some (eN aq), some (.int aq.length), none] ∧ M = Γ.M0) (fun N hN => ?_) (fun ρ M h => ?_)
  · simp! only []
    exact hN _ _ ⟨rfl, rfl⟩
  obtain ⟨rfl, rfl⟩ := h
  refine iC (fun ρ M => ρ = [some (.ptr b), some (eN aq), some (.int aq.length), some (.lst (pA aq.length))] ∧ M = Γ.M0) (fun N hN => ?_) (fun ρ M h => ?_)
  · simp! only []
    iterate 9 refine ⟨by omega, ?_⟩
    exact ⟨by omega, hN _ _ ⟨rfl, rfl⟩⟩
  obtain ⟨rfl, rfl⟩ := h
  refine iC (fun ρ M => ρ = [some (.ptr b), some (eN aq), some (.int aq.length), some (.lst (pA aq.length ++ pB aq.length))] ∧ M = Γ.M0) (fun N hN => ?_) (fun ρ M h => ?_)
  · have la : (pA aq.length).length = 14 := rfl
    simp! only []
    exact ⟨by omega, by omega, by omega, ⟨by decide, by decide, by decide⟩, by omega, by omega, by omega, by omega, by omega, by omega, by omega, by omega, hN _ _ ⟨rfl, rfl⟩⟩
  obtain ⟨rfl, rfl⟩ := h
  refine iC (fun ρ M => ρ = [some (.ptr b), some (eN aq), some (.int aq.length), some (.lst (gM aq.length))] ∧ M = Γ.M0) (fun N hN => ?_) (fun ρ M h => ?_)
  · have la : (pA aq.length ++ pB aq.length).length = 22 := rfl
    simp! only []
    exact ⟨by omega, by omega, by omega, by omega, by omega, by omega, by omega, by omega, by omega, hN _ _ ⟨rfl, rfl⟩⟩
  obtain ⟨rfl, rfl⟩ := h
  simp! only []
  have lp : (gM aq.length).length = 26 := rfl
  refine ⟨b, (gM aq.length).length, rfl, hb, by omega, by omega, fun d hd => ?_⟩
  have IM : d < (gM aq.length).length := by omega
  have e := cQ (List.getElem?_eq_getElem IM)
  obtain ⟨e1, e2⟩ := xf h1 h9 _ (List.getElem_mem IM)
  generalize (gM aq.length)[d] = r at e e1 e2
  simp only [e]
  exact .inl (q _ e1 e2)
end
section
variable {P : Program} {w : World} {K : PySem.W.Frag} {mg : Str → Option Value} {base : Heap} {tb : cg} {C_RoadError C_NoNet C_NoPlace C_NoSign C_NoWord C_NoWhole C_NoNumber C_NoKin C_NoSet C_NoPair C_NoStep C_NoCall C_TooMany C_NoPaper C_NoText C_NoRow C_NoDeed : Addr} {cs : List Addr}
theorem g9 : aQ ["_law_script", "_law_k", "_law_bag_here", "_law_net_here", "_law_odd", "_law_none", "_law_other", "_law_deeds"] ["_law_script"] (ai fg) := ⟨rfl, rfl, rfl, by decide +kernel, rfl, by decide +kernel, by decide +kernel⟩
noncomputable abbrev qL : Str := "law.<locals>.<lambda>"
theorem E1 {a : Addr} {ds : List Dv} {t : Dt} {M : Mh} {Q : ZK} (ha : M a = some (.lst ds)) (h : bQ (.lst ds) = some t) (hp : fU t ≤ 60) (q : Q (.bl false) M) : ng true (.ptr a) (.lst ds) M Q := by
  unfold ng
  have e1 : now M (.ptr a) = .lst ds := by simp only [now, ha]
  have e2 : now M (.lst ds) = .lst ds := rfl
  rw [e1, e2, h]
  refine ⟨hp, ?_⟩
  rw [j7]
  exact q
theorem j0 {scope : Scope} {fs : List Str} (a : scope.kind = .function) (b : scope.isCoroutine = false) (c : scope.isGenerator = false) (d : ([] ++ fs).Nodup) (e : ∀ x ∈ fs, scope.names.lookup x = some .free) (f : ∀ y ∈ scope.names, y.2 ≠ .cell) : kg [] fs scope := ⟨a, b, c, d, (fun _ h => nomatch h), e, f⟩
theorem IP {f f1 f2 f3 f4 f5 f6 f7 f8 f9 : Addr} {fd bG fd2 tI Mf Mg Mi Mj Mk Ml : FuncData} {Dr cE : Addr} (D : Df K mg "law" fg ["_law_script"] f fd) (fG : qh base fd Dr cE) (dH : ∃ bm ob, BMod base mainGlobals mg bm ob) (qk : (cE, qL) ∈ tb.l) (Iw : ∀ q ∈ tb.l, q.1 = cE → q.2 = qL)
    (fj : Df K mg "_law_bag" iE ["_law_script", "_law_at"] f1 bG) (xg : FnOk P w K mg base bt 1 f1 bG ["_law_script", "_law_at"] (aY P w K tb IA))
    (fk : Df K mg "_law_net" b6 ["_law_bag_here", "_law_most"] f2 fd2) (xh : FnOk P w K mg base bt 3 f2 fd2 ["_law_bag_here", "_law_most"] (aY P w K tb Dk))
    (ah : Df K mg "_law_take" cP ["_law_bag_here", "_law_many"] f3 tI) (aP : FnOk P w K mg base bt 1 f3 tI ["_law_bag_here", "_law_many"] (aY P w K tb jB))
    (cS : Df K mg "_law_no_pair" fe ["_law_bag_here", "_law_net_here"] f4 Mf) (pI : FnOk P w K mg base bt 2 f4 Mf ["_law_bag_here", "_law_net_here"] (aY P w K tb qN))
    (de : Df K mg "_law_no_net" eD ["_law_bag_here", "_law_net_here"] f5 Mg) (qX : FnOk P w K mg base bt 2 f5 Mg ["_law_bag_here", "_law_net_here"] (aY P w K tb zX))
    (aI : Df K mg "_law_refused" fc ["_law_deed"] f6 Mi) (KC : ∀ b', (∀ b o, base.get? b = some o → b'.get? b = some o) → FnOk P w K mg b' bt 13 f6 Mi ["_law_deed"] (aY P w K tb (tM P w K mg tb cs [C_NoNet, C_NoPlace, C_NoSign, C_NoWord, C_NoWhole, C_NoNumber, C_NoKin, C_NoSet, C_NoPair, C_NoStep, C_NoCall, C_TooMany, C_NoPaper, C_NoText, C_NoRow, C_NoDeed] b')))
    (dA : Df K mg "call_of" jA ["net", "pair"] f7 Mj) (z5 : ∀ b', (∀ b o, base.get? b = some o → b'.get? b = some o) → FnOk P w K mg b' (cN P w) 9 f7 Mj ["net", "pair"] (aY P w K tb (mB C_NoNet C_NoPair)))
    (cq : Df K mg "led_pairs" gQ ["net", "pair"] f8 Mk) (Du : ∀ b', (∀ b o, base.get? b = some o → b'.get? b = some o) → FnOk P w K mg b' (cN P w) 9 f8 Mk ["net", "pair"] (aY P w K tb (mB C_NoNet C_NoPair)))
    (cT : Df K mg "never_called" fb ["net"] f9 Ml) (E3 : ∀ b', (∀ b o, base.get? b = some o → b'.get? b = some o) → FnOk P w K mg b' (cN P w) 8 f9 Ml ["net"] (aY P w K tb (tT C_NoNet)))
    (gb : C_NoNet ∈ cs) (fQ : C_NoPair ∈ cs) (bl : Bl mg) :
    FnOk P w K mg base bt 14 f fd ["_law_script"] (aY P w K tb HV) := by
  refine fJ D g9 (fun ds M Q E hS => by obtain ⟨ns, e, _⟩ := hS; rw [e]; rfl) fun A outer s E Γ ds Q' E' hP hw hK ht hr hS => ?_
  obtain ⟨ns, e, hl, hM, q⟩ := hS
  have dg : (cE, qL) ∈ Γ.tb.l := ht ▸ qk
  have dh : ∀ q ∈ Γ.tb.l, q.1 = cE → q.2 = qL := ht ▸ Iw
  have dX := KC
  refine ⟨_, (aj (oz PassesOwn.never rfl (dq rfl bl.range_ (aa (av (HM rfl) rfl bl.max_ GX (aa af (aa (av (y6 rfl) rfl bl.min_ yo (aa (av (d8 (K := K) rfl hK) rfl bl.len_ PySem.boot_len (aa (qv 0) ae)) (aa af ae))) ae))) ae)) (fun Di eP ew eK et => by have hP := hP.trans eP.symm; have hw := hw.trans ew.symm; have hK := hK.trans eK.symm; have ht := ht.trans et.symm; exact ⟨(bF (i := 1) g9.nd rfl (Or.inl rfl)), (aj (aJ (i := 2) g9.nd rfl (Or.inl rfl) (aG xg (hr.mono (by decide)) rfl fj.mg fj.fn.kp fj.bd bb hP hw hK ht XR.none (aa (qv 0) (aa (qv 1) ae))))
    (aj (aJ (i := 3) g9.nd rfl (Or.inr rfl) (aG xh (hr.mono (by decide)) rfl fk.mg fk.fn.kp fk.bd bb hP hw hK ht XR.none (aa (qv 2) (aa af ae))))
    (aj (aJ (i := 4) g9.nd rfl (Or.inr rfl) (aG pI (hr.mono (by decide)) rfl cS.mg cS.fn.kp cS.bd bb hP hw hK ht XR.none (aa (qv 2) (aa (qv 3) ae))))
    (aj (cM (bT wA (fA (idx := [3, 4]) (fs := ["_law_net_here", "_law_odd"]) fG.code fG.hd dH rfl (jZ (show ∀ y ∈ (_ : List (Str × NameKind)), y.2 = NameKind.free → (ai fg).names.lookup y.1 = some .cell from by decide +kernel)) (oI (N := ["_law_script", "_law_k", "_law_bag_here", "_law_net_here", "_law_odd", "_law_none", "_law_other", "_law_deeds"]) (lk := fun n => (ai fg).names.lookup n) (by decide +kernel)) (by first | exact dg | (rw [et]; exact dg)) (by first | exact dh | (rw [et]; exact dh)) dX (hr.mono (by decide)) (fun _ => rfl) rfl aI.mg aI.fn.kp aI.bd bb hP hw hK ht XR.none) aU (bY _))
      (az (bg dI))
      qss_nil)
    (aj (cM (bT wA (fA (idx := [3, 4]) (fs := ["_law_net_here", "_law_odd"]) fG.code fG.hd dH rfl (jZ (show ∀ y ∈ (_ : List (Str × NameKind)), y.2 = NameKind.free → (ai fg).names.lookup y.1 = some .cell from by decide +kernel)) (oI (N := ["_law_script", "_law_k", "_law_bag_here", "_law_net_here", "_law_odd", "_law_none", "_law_other", "_law_deeds"]) (lk := fun n => (ai fg).names.lookup n) (by decide +kernel)) (by first | exact dg | (rw [et]; exact dg)) (by first | exact dh | (rw [et]; exact dh)) dX (hr.mono (by decide)) (fun _ => rfl) rfl aI.mg aI.fn.kp aI.bd bb hP hw hK ht XR.none) aU (bY _))
      (az (bg dI))
      qss_nil)
    (aj (aJ (i := 5) g9.nd rfl (Or.inr rfl) (aG qX (hr.mono (by decide)) rfl de.mg de.fn.kp de.bd bb hP hw hK ht XR.none (aa (qv 2) (aa (qv 3) ae))))
    (aj (aJ (i := 6) g9.nd rfl (Or.inr rfl) (cB (eH (K := K) rfl) (b5 (aa (qv 4) (aa (aw (aa af (aa af ae))) ae))) (aG aP (hr.mono (by decide)) rfl ah.mg ah.fn.kp ah.bd bb hP hw hK ht XR.none (aa (qv 2) (aa af ae))) (fun _ _ => rfl)))
    (aj (aJ (i := 7) g9.nd rfl (Or.inl rfl) (vj (aa (fA (idx := [5, 6]) (fs := ["_law_none", "_law_other"]) fG.code fG.hd dH rfl (jZ (show ∀ y ∈ (_ : List (Str × NameKind)), y.2 = NameKind.free → (ai fg).names.lookup y.1 = some .cell from by decide +kernel)) (oI (N := ["_law_script", "_law_k", "_law_bag_here", "_law_net_here", "_law_odd", "_law_none", "_law_other", "_law_deeds"]) (lk := fun n => (ai fg).names.lookup n) (by decide +kernel)) (by first | exact dg | (rw [et]; exact dg)) (by first | exact dh | (rw [et]; exact dh)) dX (hr.mono (by decide)) (fun _ => rfl) rfl aI.mg aI.fn.kp aI.bd bb hP hw hK ht XR.none) ae)))
    (aj (fW (oC (K := K) rfl PySem.F.plainAttrs_list PySem.F.slot_list_append PySem.F.type_list_append sV (qv 7) (aa (fA (idx := [5, 6]) (fs := ["_law_none", "_law_other"]) fG.code fG.hd dH rfl (jZ (show ∀ y ∈ (_ : List (Str × NameKind)), y.2 = NameKind.free → (ai fg).names.lookup y.1 = some .cell from by decide +kernel)) (oI (N := ["_law_script", "_law_k", "_law_bag_here", "_law_net_here", "_law_odd", "_law_none", "_law_other", "_law_deeds"]) (lk := fun n => (ai fg).names.lookup n) (by decide +kernel)) (by first | exact dg | (rw [et]; exact dg)) (by first | exact dh | (rw [et]; exact dh)) dX (hr.mono (by decide)) (fun _ => rfl) rfl aI.mg aI.fn.kp aI.bd bb hP hw hK ht XR.none) ae)))
    (aj (fW (oC (K := K) rfl PySem.F.plainAttrs_list PySem.F.slot_list_append PySem.F.type_list_append sV (qv 7) (aa (fA (idx := [5]) (fs := ["_law_none"]) fG.code fG.hd dH rfl (jZ (show ∀ y ∈ (_ : List (Str × NameKind)), y.2 = NameKind.free → (ai fg).names.lookup y.1 = some .cell from by decide +kernel)) (oI (N := ["_law_script", "_law_k", "_law_bag_here", "_law_net_here", "_law_odd", "_law_none", "_law_other", "_law_deeds"]) (lk := fun n => (ai fg).names.lookup n) (by decide +kernel)) (by first | exact dg | (rw [et]; exact dg)) (by first | exact dh | (rw [et]; exact dh)) dX (hr.mono (by decide)) (fun _ => rfl) rfl aI.mg aI.fn.kp aI.bd bb hP hw hK ht XR.none) ae)))
    (az (cM (bT (Ki hr.units) (qv 7) (b5 (aa aU (aa aU (aa aU ae)))) (bY _))
      (az (bg dI))
      qss_nil))))))))))))⟩))
    (az (bg dI))), ?_⟩
  subst e
  have big : (10000 : Nat) < sizeLine := by decide
  dsimp! only []
  refine ⟨by split <;> split <;> omega, by split <;> split <;> omega, ?_⟩
  refine lF (fun k ρ M => (∃ x1 x2 x3 x4 x5 x6 x7, ρ = [some (.bz ns), x1, x2, x3, x4, x5, x6, x7])) ⟨_, _, _, _, _, _, _, rfl⟩ (fun k d ρ M N hd hJ hN => ?_) (fun ρ M _ => .inl (q _))
  obtain ⟨x1, x2, x3, x4, x5, x6, x7, rfl⟩ := hJ
  obtain ⟨rfl, hk⟩ := g7 hd
  have hk : k ≤ 16 := by split at hk <;> split at hk <;> omega
  dsimp! only []
  refine ⟨ns, _, rfl, hl, by omega, by omega, fun b hb => ?_⟩
  refine ⟨b, 9, rfl, updM_same, by omega, by omega, fun aq n O _ => ?_⟩
  refine ⟨b, aq, n, rfl, updM_same, O, fun odd IQ IU => ?_⟩
  have h9 := O.nine
  simp! only [dZ, gP]
  intro lf o c oc aO vcs lv hO b' cc hC
  obtain ⟨gz, dO, gD, bM⟩ := hO
  obtain ⟨gC, rfl⟩ := gD
  have hU := z5 b' cc
  refine ⟨lf, _, _, c, oc, vcs, [eN aq, odd], C_NoPair, 8, Str.ofString "pair", rfl, (oH (k := 11) (fs := ["_law_net_here", "_law_odd"]) (qual := qL) ⟨dO, ⟨_, _, _, rfl, rfl⟩, bM⟩ (j0 rfl rfl rfl (by decide +kernel) (by decide +kernel) (by decide +kernel)) hC lv (fun bB ds M Q E hS => by obtain ⟨_, e, _⟩ := hS; rw [e]; rfl) fun A outer s E Γ bB ds Q' E' hP hw hK ht hE hr hS => ⟨_, (aG hU (hr.mono (by decide)) rfl dA.mg dA.fn.kp dA.bd lN hP hw hK ht hE (aa (qv 0) (aa (qv 1) ae))), ?_⟩), ⟨_, _, _, _, rfl⟩, .all fun us hl => ?_, fQ, rfl, rfl, ?_⟩
  · obtain ⟨rfl, rfl, hq⟩ := hS
    simp! only []
    exact ⟨_, _, _, rfl, .inr ⟨aq, n, rfl, O, IQ, IU, rfl⟩, hq⟩
  · match us, hl with
    | [], _ => rfl
  clear hU gz dO bM cc hC
  simp! only [dZ, gP]
  intro lf o c oc aO vcs lv hO b' cc hC
  obtain ⟨gz, dO, gD, bM⟩ := hO
  obtain ⟨gC, rfl⟩ := gD
  have fD := Du b' cc
  refine ⟨lf, _, _, c, oc, vcs, [eN aq, odd], C_NoPair, 8, Str.ofString "pair", rfl, (oH (k := 11) (fs := ["_law_net_here", "_law_odd"]) (qual := qL) ⟨dO, ⟨_, _, _, rfl, rfl⟩, bM⟩ (j0 rfl rfl rfl (by decide +kernel) (by decide +kernel) (by decide +kernel)) hC lv (fun bB ds M Q E hS => by obtain ⟨_, e, _⟩ := hS; rw [e]; rfl) fun A outer s E Γ bB ds Q' E' hP hw hK ht hE hr hS => ⟨_, (aG fD (hr.mono (by decide)) rfl cq.mg cq.fn.kp cq.bd lN hP hw hK ht hE (aa (qv 0) (aa (qv 1) ae))), ?_⟩), ⟨_, _, _, _, rfl⟩, .all fun us hl => ?_, fQ, rfl, rfl, ?_⟩
  · obtain ⟨rfl, rfl, hq⟩ := hS
    simp! only []
    exact ⟨_, _, _, rfl, .inr ⟨aq, n, rfl, O, IQ, IU, rfl⟩, hq⟩
  · match us, hl with
    | [], _ => rfl
  clear fD gz dO bM cc hC
  simp! only [dZ, gP]
  refine ⟨b, aq, n, rfl, updM_same, O, fun ao u6 qI => ?_⟩
  dsimp! only []
  refine ⟨by omega, by omega, b, 2, rfl, updM_same, by decide, by decide, fun t yu => ?_⟩
  obtain ⟨yC, eo⟩ : ∃ r, cW [odd, Dv.tup [Dv.int 0, Dv.int 1]] ((t : Nat) : Int) = some r := by
    have Qs : t < [odd, Dv.tup [Dv.int 0, Dv.int 1]].length := by show t < 2; omega
    exact ⟨_, cQ (List.getElem?_eq_getElem Qs)⟩
  simp only [eo]
  intro lf o c oc aO vcs lv hO b' cc hC
  obtain ⟨gz, dO, gD, bM⟩ := hO
  obtain ⟨gC, rfl⟩ := gD
  have hU := z5 b' cc
  refine ⟨lf, _, _, c, oc, vcs, [ao, yC], C_NoNet, 0, Str.ofString "net", rfl, (oH (k := 11) (fs := ["_law_none", "_law_other"]) (qual := qL) ⟨dO, ⟨_, _, _, rfl, rfl⟩, bM⟩ (j0 rfl rfl rfl (by decide +kernel) (by decide +kernel) (by decide +kernel)) hC lv (fun bB ds M Q E hS => by obtain ⟨_, e, _⟩ := hS; rw [e]; rfl) fun A outer s E Γ bB ds Q' E' hP hw hK ht hE hr hS => ⟨_, (aG hU (hr.mono (by decide)) rfl dA.mg dA.fn.kp dA.bd lN hP hw hK ht hE (aa (qv 0) (aa (qv 1) ae))), ?_⟩), ⟨_, _, _, _, rfl⟩, .all fun us hl => ?_, gb, rfl, rfl, ?_⟩
  · obtain ⟨rfl, rfl, hq⟩ := hS
    simp! only []
    exact ⟨_, _, _, rfl, .inl ⟨u6, qI, rfl⟩, hq⟩
  · match us, hl with
    | [], _ => rfl
  clear hU gz dO bM cc hC
  simp! only [dZ, gP]
  refine ⟨by omega, fun a ha => ?_⟩
  intro lf o c oc aO vcs lv hO b' cc hC
  obtain ⟨gz, dO, gD, bM⟩ := hO
  obtain ⟨gC, rfl⟩ := gD
  have fD := Du b' cc
  refine ⟨lf, _, _, c, oc, vcs, [ao, yC], C_NoNet, 0, Str.ofString "net", rfl, (oH (k := 11) (fs := ["_law_none", "_law_other"]) (qual := qL) ⟨dO, ⟨_, _, _, rfl, rfl⟩, bM⟩ (j0 rfl rfl rfl (by decide +kernel) (by decide +kernel) (by decide +kernel)) hC lv (fun bB ds M Q E hS => by obtain ⟨_, e, _⟩ := hS; rw [e]; rfl) fun A outer s E Γ bB ds Q' E' hP hw hK ht hE hr hS => ⟨_, (aG fD (hr.mono (by decide)) rfl cq.mg cq.fn.kp cq.bd lN hP hw hK ht hE (aa (qv 0) (aa (qv 1) ae))), ?_⟩), ⟨_, _, _, _, rfl⟩, .all fun us hl => ?_, gb, rfl, rfl, ?_⟩
  · obtain ⟨rfl, rfl, hq⟩ := hS
    simp! only []
    exact ⟨_, _, _, rfl, .inl ⟨u6, qI, rfl⟩, hq⟩
  · match us, hl with
    | [], _ => rfl
  clear fD gz dO bM cc hC
  simp! only [dZ, gP]
  refine ⟨by omega, ?_⟩
  intro lf o c oc aO vcs lv hO b' cc hC
  obtain ⟨gz, dO, gD, bM⟩ := hO
  obtain ⟨gC, rfl⟩ := gD
  have j1 := E3 b' cc
  refine ⟨lf, _, _, c, oc, vcs, [ao], C_NoNet, 0, Str.ofString "net", rfl, (oH (k := 11) (fs := ["_law_none"]) (qual := qL) ⟨dO, ⟨_, _, _, rfl, rfl⟩, bM⟩ (j0 rfl rfl rfl (by decide +kernel) (by decide +kernel) (by decide +kernel)) hC lv (fun bB ds M Q E hS => by obtain ⟨_, e, _⟩ := hS; rw [e]; rfl) fun A outer s E Γ bB ds Q' E' hP hw hK ht hE hr hS => ⟨_, (aG j1 (hr.mono (by decide)) rfl cT.mg cT.fn.kp cT.bd lN hP hw hK ht hE (aa (qv 0) ae)), ?_⟩), ⟨_, _, _, _, rfl⟩, .all fun us hl => ?_, gb, rfl, rfl, ?_⟩
  · obtain ⟨rfl, rfl, hq⟩ := hS
    simp! only []
    exact ⟨_, rfl, u6, qI, hq⟩
  · match us, hl with
    | [], _ => rfl
  clear j1 gz dO bM cc hC
  simp! only [dZ, gP]
  refine ⟨by omega, by omega, E1 updM_same (t := .lst [.str "net", .str "net", .str "net"]) rfl (by decide) ?_⟩
  exact hN _ _ ⟨_, _, _, _, _, _, _, rfl⟩
end
theorem all_mk {l : PySem.W.OpenLaw} {w : World} {K : PySem.W.Frag} {h : Heap} {mg : Str → Option Value} {fa : Addr} {tabs lts : List Addr} {C_RoadError C_NoNet C_NoPlace C_NoSign C_NoWord C_NoWhole C_NoNumber C_NoKin C_NoSet C_NoPair C_NoStep C_NoCall C_TooMany C_NoText C_NoRow C_NoDeed C_NoPaper : Addr} (X : K.In h) (G : h.Ns mainGlobals mg) (Qt : mg "law" = some (.ref fa))
    (T : Paired (TabOf mg h) ["is_row", "is_net", "is_set"] tabs) (U : Paired (TabOf mg h) ["law"] lts)
    (uD : PySem.W.nsIn K mainGlobals "RoadError" = some (some (.ref C_RoadError)))
    (E4 : PySem.W.nsIn K mainGlobals "NoNet" = some (some (.ref C_NoNet)))
    (z6 : PySem.W.nsIn K mainGlobals "NoPlace" = some (some (.ref C_NoPlace)))
    (B2 : PySem.W.nsIn K mainGlobals "NoSign" = some (some (.ref C_NoSign)))
    (B3 : PySem.W.nsIn K mainGlobals "NoWord" = some (some (.ref C_NoWord)))
    (z7 : PySem.W.nsIn K mainGlobals "NoWhole" = some (some (.ref C_NoWhole)))
    (xi : PySem.W.nsIn K mainGlobals "NoNumber" = some (some (.ref C_NoNumber)))
    (E5 : PySem.W.nsIn K mainGlobals "NoKin" = some (some (.ref C_NoKin)))
    (E6 : PySem.W.nsIn K mainGlobals "NoSet" = some (some (.ref C_NoSet)))
    (B4 : PySem.W.nsIn K mainGlobals "NoPair" = some (some (.ref C_NoPair)))
    (B5 : PySem.W.nsIn K mainGlobals "NoStep" = some (some (.ref C_NoStep)))
    (B6 : PySem.W.nsIn K mainGlobals "NoCall" = some (some (.ref C_NoCall)))
    (z8 : PySem.W.nsIn K mainGlobals "TooMany" = some (some (.ref C_TooMany)))
    (B7 : PySem.W.nsIn K mainGlobals "NoText" = some (some (.ref C_NoText)))
    (E7 : PySem.W.nsIn K mainGlobals "NoRow" = some (some (.ref C_NoRow)))
    (B8 : PySem.W.nsIn K mainGlobals "NoDeed" = some (some (.ref C_NoDeed)))
    (eb : wo K C_RoadError [C_NoNet, C_NoPlace, C_NoSign, C_NoWord, C_NoWhole, C_NoNumber, C_NoKin, C_NoSet, C_NoPair, C_NoStep, C_NoCall, C_TooMany, C_NoText, C_NoRow, C_NoDeed] = true) (Qu : [C_NoNet, C_NoPlace, C_NoSign, C_NoWord, C_NoWhole, C_NoNumber, C_NoKin, C_NoSet, C_NoPair, C_NoStep, C_NoCall, C_TooMany, C_NoText, C_NoRow, C_NoDeed].Nodup)
    (z9 : PySem.W.nsIn K mainGlobals "NoPaper" = some (some (.ref C_NoPaper))) (xj : [C_NoNet, C_NoPlace, C_NoSign, C_NoWord, C_NoWhole, C_NoNumber, C_NoKin, C_NoSet, C_NoPair, C_NoStep, C_NoCall, C_TooMany, C_NoText, C_NoRow, C_NoDeed].all (fun C => PySem.W.kitOne K (.ref C) (.ref C_NoPaper) == some false) = true)
    (xk : bp K "is_whole" dy)
    (nD : bp K "is_whole_below" bR)
    (B9 : bp K "is_row" je)
    (Ca : bp K "is_net" jf)
    (xl : bp K "need_net" e8)
    (xm : bp K "is_place" iD)
    (jK : ∃ tk, lM K "first_met" uh (.int 511 tk))
    (Cb : bp K "is_set" jg)
    (Aa : bp K "is_pair" jz)
    (tU : bp K "sign_image" tv)
    (tV : bp K "images_met" tD)
    (tW : bp K "first_call" tE)
    (uE : bp K "need_pair" fB)
    (Ab : bp K "call_of" jA)
    (uF : bp K "led_pairs" gQ)
    (uG : bp K "all_pairs" ui)
    (xn : bp K "in_order" wM)
    (pJ : bp K "coming_pairs" pw)
    (qY : bp K "led_to_some" qV)
    (pK : bp K "never_called" fb)
    (xo : bp K "_law_bag" iE)
    (uH : bp K "_law_take" cP)
    (tX : bp K "_law_order" eW)
    (xq : bp K "_law_net" b6)
    (uI : bp K "_law_kind" gR)
    (pL : bp K "_law_refused" fc)
    (qZ : bp K "_law_no_net" eD)
    (pM : bp K "_law_no_pair" fe)
    (KD : bp K "law" fg)
    (KG : PySem.W.nsIn K mainGlobals "len" = some none)
    (E8 : PySem.W.nsIn K mainGlobals "range" = some none)
    (KH : PySem.W.nsIn K mainGlobals "min" = some none)
    (KI : PySem.W.nsIn K mainGlobals "max" = some none)
    (KJ : PySem.W.nsIn K mainGlobals "abs" = some none)
    (IV : PySem.W.nsIn K mainGlobals "list" = some none)
    (E9 : PySem.W.nsIn K mainGlobals "tuple" = some none)
    (KL : PySem.W.nsIn K mainGlobals "int" = some none)
    (KN : PySem.W.nsIn K mainGlobals "str" = some none)
    (IW : PySem.W.nsIn K mainGlobals "bool" = some none)
    (tY : PySem.W.nsIn K mainGlobals "isinstance" = some none)
    (KO : PySem.W.nsIn K mainGlobals "all" = some none)
    (KP : PySem.W.nsIn K mainGlobals "set" = some none)
    (Cd : PySem.W.nsIn K mainGlobals "sorted" = some none)
    (KQ : PySem.W.nsIn K mainGlobals "zip" = some none)
    (uJ : PySem.W.nsIn K mainGlobals "enumerate" = some none)
    (KR : PySem.W.nsIn K mainGlobals "sum" = some none)
    (xr : PySem.W.nsIn K mainGlobals "reversed" = some none)
    (Ce : PySem.W.nsIn K mainGlobals "divmod" = some none)
    (KS : PySem.W.nsIn K mainGlobals "any" = some none)
    (tZ : PySem.W.nsIn K mainGlobals "ValueError" = some none)
    (ie : ∃ tk, PySem.W.nsIn K mainGlobals "MOST_PLACES" = some (some (.int 9 tk)))
    : ∃ fd : FuncData, (∀ (s : Shared) (v : Value), BindsTo s fd ⟨[v], []⟩ [("_law_script", v)]) ∧ ∀ base : Heap, K.In base → base.Ns mainGlobals mg → (∃ bm ob, BMod base mainGlobals mg bm ob) → (∀ c p, PySem.W.CodeHd h c p → PySem.W.CodeHd base c p) → FnOk l.prog w K mg base bt 14 fa fd ["_law_script"] (spLaw K ⟨tabs, lts.zip [qL]⟩) := by
  obtain ⟨KU, Jm, bq⟩ := xk.df X G ["thing"] fun _ _ _ _ _ _ us hl => match us, hl with | [_], _ => rfl
  obtain ⟨Cg, Al, aH⟩ := nD.df X G ["thing", "many"] fun _ _ _ _ _ _ us hl => match us, hl with | [_, _], _ => rfl
  obtain ⟨NW, Mm, fN⟩ := B9.df X G ["thing", "many", "width"] fun _ _ _ _ _ _ us hl => match us, hl with | [_, _, _], _ => rfl
  obtain ⟨Ci, Ac, fO⟩ := Ca.df X G ["thing"] fun _ _ _ _ _ _ us hl => match us, hl with | [_], _ => rfl
  obtain ⟨KW, Jn, bf⟩ := xl.df X G ["thing"] fun _ _ _ _ _ _ us hl => match us, hl with | [_], _ => rfl
  obtain ⟨KY, Jo, fi⟩ := xm.df X G ["net", "thing"] fun _ _ _ _ _ _ us hl => match us, hl with | [_, _], _ => rfl
  obtain ⟨IX, jK⟩ := jK
  obtain ⟨Jp, IY, Jq⟩ := jK.df X G ["start", "width", "step", "most"] (fun _ _ _ _ _ _ _ us hl => match us, hl with | [_, _, _], _ => ⟨_, rfl, rfl⟩) fun _ _ _ _ _ _ _ us hl => match us, hl with | [_, _, _, _], _ => ⟨_, rfl, rfl⟩
  obtain ⟨Cj, Ad, fP⟩ := Cb.df X G ["net", "thing"] fun _ _ _ _ _ _ us hl => match us, hl with | [_, _], _ => rfl
  obtain ⟨Mp, KZ, gd⟩ := Aa.df X G ["net", "thing"] fun _ _ _ _ _ _ us hl => match us, hl with | [_, _], _ => rfl
  obtain ⟨IZ, Fl, Ja⟩ := tU.df X G ["net", "places", "at"] fun _ _ _ _ _ _ us hl => match us, hl with | [_, _, _], _ => rfl
  obtain ⟨Jb, Fm, Jc⟩ := tV.df X G ["net", "places"] fun _ _ _ _ _ _ us hl => match us, hl with | [_, _], _ => rfl
  obtain ⟨Jd, Fn, Je⟩ := tW.df X G ["net", "places"] fun _ _ _ _ _ _ us hl => match us, hl with | [_, _], _ => rfl
  obtain ⟨Jr, Jf, bL⟩ := uE.df X G ["net", "thing"] fun _ _ _ _ _ _ us hl => match us, hl with | [_, _], _ => rfl
  obtain ⟨Mq, K0, dA⟩ := Ab.df X G ["net", "pair"] fun _ _ _ _ _ _ us hl => match us, hl with | [_, _], _ => rfl
  obtain ⟨Js, Jg, cq⟩ := uF.df X G ["net", "pair"] fun _ _ _ _ _ _ us hl => match us, hl with | [_, _], _ => rfl
  obtain ⟨Jt, Jh, Ju⟩ := uG.df X G ["net"] fun _ _ _ _ _ _ us hl => match us, hl with | [_], _ => rfl
  obtain ⟨K1, Jv, K2⟩ := xn.df X G ["one", "other"] fun _ _ _ _ _ _ us hl => match us, hl with | [_, _], _ => rfl
  obtain ⟨Fb, Dw, Fc⟩ := pJ.df X G ["net"] fun _ _ _ _ _ _ us hl => match us, hl with | [_], _ => rfl
  obtain ⟨Fo, Fd, Fp⟩ := qY.df X G ["coming", "goals"] fun _ _ _ _ _ _ us hl => match us, hl with | [_, _], _ => rfl
  obtain ⟨Fe, Dx, cT⟩ := pK.df X G ["net"] fun _ _ _ _ _ _ us hl => match us, hl with | [_], _ => rfl
  obtain ⟨K3, Jw, fj⟩ := xo.df X G ["_law_script", "_law_at"] fun _ _ _ _ _ _ us hl => match us, hl with | [_, _], _ => rfl
  obtain ⟨Jx, Ji, ah⟩ := uH.df X G ["_law_bag_here", "_law_many"] fun _ _ _ _ _ _ us hl => match us, hl with | [_, _], _ => rfl
  obtain ⟨Jj, Fq, b7⟩ := tX.df X G ["_law_bag_here", "_law_many"] fun _ _ _ _ _ _ us hl => match us, hl with | [_, _], _ => rfl
  obtain ⟨K4, Jy, fk⟩ := xq.df X G ["_law_bag_here", "_law_most"] fun _ _ _ _ _ _ us hl => match us, hl with | [_, _], _ => rfl
  obtain ⟨uK, t5, eG⟩ := uI.df X G ["_law_e"] fun _ _ _ _ _ _ us hl => match us, hl with | [_], _ => rfl
  obtain ⟨Ff, Dy, aI⟩ := pL.df X G ["_law_deed"] fun _ _ _ _ _ _ us hl => match us, hl with | [_], _ => rfl
  obtain ⟨Fs, Fg, de⟩ := qZ.df X G ["_law_bag_here", "_law_net_here"] fun _ _ _ _ _ _ us hl => match us, hl with | [_, _], _ => rfl
  obtain ⟨Fh, Dz, cS⟩ := pM.df X G ["_law_bag_here", "_law_net_here"] fun _ _ _ _ _ _ us hl => match us, hl with | [_, _], _ => rfl
  obtain ⟨QB, Jk, rE⟩ := KD.df X G ["_law_script"] fun _ _ _ _ _ _ us hl => match us, hl with | [_], _ => rfl
  have jI := PySem.W.mg_of X G uD
  have iJ := PySem.W.mg_of X G E4
  have lX := PySem.W.mg_of X G z6
  have nq := PySem.W.mg_of X G B2
  have nu := PySem.W.mg_of X G B3
  have lY := PySem.W.mg_of X G z7
  have kr := PySem.W.mg_of X G xi
  have px := PySem.W.mg_of X G E5
  have pz := PySem.W.mg_of X G E6
  have gK := PySem.W.mg_of X G B4
  have ny := PySem.W.mg_of X G B5
  have nz := PySem.W.mg_of X G B6
  have lZ := PySem.W.mg_of X G z8
  have nA := PySem.W.mg_of X G B7
  have pC := PySem.W.mg_of X G E7
  have nB := PySem.W.mg_of X G B8
  have l0 := PySem.W.mg_of X G z9
  have X_ := Ee eb
  have gb : C_NoNet ∈ [C_NoNet, C_NoPlace, C_NoSign, C_NoWord, C_NoWhole, C_NoNumber, C_NoKin, C_NoSet, C_NoPair, C_NoStep, C_NoCall, C_TooMany, C_NoText, C_NoRow, C_NoDeed] := by simp
  have Mr : C_NoPlace ∈ [C_NoNet, C_NoPlace, C_NoSign, C_NoWord, C_NoWhole, C_NoNumber, C_NoKin, C_NoSet, C_NoPair, C_NoStep, C_NoCall, C_TooMany, C_NoText, C_NoRow, C_NoDeed] := by simp
  have NX : C_NoSign ∈ [C_NoNet, C_NoPlace, C_NoSign, C_NoWord, C_NoWhole, C_NoNumber, C_NoKin, C_NoSet, C_NoPair, C_NoStep, C_NoCall, C_TooMany, C_NoText, C_NoRow, C_NoDeed] := by simp
  have NY : C_NoWord ∈ [C_NoNet, C_NoPlace, C_NoSign, C_NoWord, C_NoWhole, C_NoNumber, C_NoKin, C_NoSet, C_NoPair, C_NoStep, C_NoCall, C_TooMany, C_NoText, C_NoRow, C_NoDeed] := by simp
  have Ms : C_NoWhole ∈ [C_NoNet, C_NoPlace, C_NoSign, C_NoWord, C_NoWhole, C_NoNumber, C_NoKin, C_NoSet, C_NoPair, C_NoStep, C_NoCall, C_TooMany, C_NoText, C_NoRow, C_NoDeed] := by simp
  have K5 : C_NoNumber ∈ [C_NoNet, C_NoPlace, C_NoSign, C_NoWord, C_NoWhole, C_NoNumber, C_NoKin, C_NoSet, C_NoPair, C_NoStep, C_NoCall, C_TooMany, C_NoText, C_NoRow, C_NoDeed] := by simp
  have N5 : C_NoKin ∈ [C_NoNet, C_NoPlace, C_NoSign, C_NoWord, C_NoWhole, C_NoNumber, C_NoKin, C_NoSet, C_NoPair, C_NoStep, C_NoCall, C_TooMany, C_NoText, C_NoRow, C_NoDeed] := by simp
  have N6 : C_NoSet ∈ [C_NoNet, C_NoPlace, C_NoSign, C_NoWord, C_NoWhole, C_NoNumber, C_NoKin, C_NoSet, C_NoPair, C_NoStep, C_NoCall, C_TooMany, C_NoText, C_NoRow, C_NoDeed] := by simp
  have fQ : C_NoPair ∈ [C_NoNet, C_NoPlace, C_NoSign, C_NoWord, C_NoWhole, C_NoNumber, C_NoKin, C_NoSet, C_NoPair, C_NoStep, C_NoCall, C_TooMany, C_NoText, C_NoRow, C_NoDeed] := by simp
  have NZ : C_NoStep ∈ [C_NoNet, C_NoPlace, C_NoSign, C_NoWord, C_NoWhole, C_NoNumber, C_NoKin, C_NoSet, C_NoPair, C_NoStep, C_NoCall, C_TooMany, C_NoText, C_NoRow, C_NoDeed] := by simp
  have N0 : C_NoCall ∈ [C_NoNet, C_NoPlace, C_NoSign, C_NoWord, C_NoWhole, C_NoNumber, C_NoKin, C_NoSet, C_NoPair, C_NoStep, C_NoCall, C_TooMany, C_NoText, C_NoRow, C_NoDeed] := by simp
  have Mt : C_TooMany ∈ [C_NoNet, C_NoPlace, C_NoSign, C_NoWord, C_NoWhole, C_NoNumber, C_NoKin, C_NoSet, C_NoPair, C_NoStep, C_NoCall, C_TooMany, C_NoText, C_NoRow, C_NoDeed] := by simp
  have N1 : C_NoText ∈ [C_NoNet, C_NoPlace, C_NoSign, C_NoWord, C_NoWhole, C_NoNumber, C_NoKin, C_NoSet, C_NoPair, C_NoStep, C_NoCall, C_TooMany, C_NoText, C_NoRow, C_NoDeed] := by simp
  have N7 : C_NoRow ∈ [C_NoNet, C_NoPlace, C_NoSign, C_NoWord, C_NoWhole, C_NoNumber, C_NoKin, C_NoSet, C_NoPair, C_NoStep, C_NoCall, C_TooMany, C_NoText, C_NoRow, C_NoDeed] := by simp
  have N3 : C_NoDeed ∈ [C_NoNet, C_NoPlace, C_NoSign, C_NoWord, C_NoWhole, C_NoNumber, C_NoKin, C_NoSet, C_NoPair, C_NoStep, C_NoCall, C_TooMany, C_NoText, C_NoRow, C_NoDeed] := by simp
  have e := Qt.symm.trans rE.mg
  cases e
  have bl : Bl mg := ⟨PySem.W.mg_none_of X G KG, PySem.W.mg_none_of X G E8, PySem.W.mg_none_of X G KH, PySem.W.mg_none_of X G KI, PySem.W.mg_none_of X G KJ, PySem.W.mg_none_of X G IV, PySem.W.mg_none_of X G E9, PySem.W.mg_none_of X G KL, PySem.W.mg_none_of X G KN, PySem.W.mg_none_of X G IW, PySem.W.mg_none_of X G tY, PySem.W.mg_none_of X G KO, PySem.W.mg_none_of X G KP, PySem.W.mg_none_of X G Cd, PySem.W.mg_none_of X G KQ, PySem.W.mg_none_of X G uJ, PySem.W.mg_none_of X G KR, PySem.W.mg_none_of X G xr, PySem.W.mg_none_of X G Ce, PySem.W.mg_none_of X G KS, PySem.W.mg_none_of X G tZ⟩
  obtain ⟨Fi, ie⟩ := ie
  have gJ := PySem.W.mg_of X G ie
  obtain ⟨aX, Mu, rfl, Ck, T⟩ := gO T
  obtain ⟨bh, Mv, rfl, Cm, T⟩ := gO T
  obtain ⟨bj, Mw, rfl, Cq, T⟩ := gO T
  cases T
  obtain ⟨cE, Qv, rfl, K6, U⟩ := gO U
  cases U
  refine ⟨Jk, fun s v => rE.bind1 s v (by intros; rfl), fun base _ _ dH tr => ?_⟩
  obtain ⟨kh, gI⟩ := n5 fN X Ck tr
  obtain ⟨tJ, ki⟩ := n5 fO X Cm tr
  obtain ⟨tL, ko⟩ := n5 fP X Cq tr
  obtain ⟨Dr, fG⟩ := n5 rE X K6 tr
  have Ae : aX ∈ (⟨[aX, bh, bj], [(cE, qL)]⟩ : cg) := by show _ ∈ [aX, bh, bj]; simp
  have Af : bh ∈ (⟨[aX, bh, bj], [(cE, qL)]⟩ : cg) := by show _ ∈ [aX, bh, bj]; simp
  have Ag : bj ∈ (⟨[aX, bh, bj], [(cE, qL)]⟩ : cg) := by show _ ∈ [aX, bh, bj]; simp
  have dg : (cE, qL) ∈ (⟨[aX, bh, bj], [(cE, qL)]⟩ : cg).l := by simp
  have dh : ∀ q ∈ (⟨[aX, bh, bj], [(cE, qL)]⟩ : cg).l, q.1 = cE → q.2 = qL := by simp
  have Cr : ∀ b', (∀ b o, base.get? b = some o → b'.get? b = some o) → FnOk l.prog w K mg b' bt 6 Ci Ac ["thing"] (aY l.prog w K (⟨[aX, bh, bj], [(cE, qL)]⟩ : cg) BI) := fun b' x => zM (P := l.prog) (w := w) (tb := (⟨[aX, bh, bj], [(cE, qL)]⟩ : cg)) fO (pv ki x) Af fN (pv gI x) Ae (vz dH x) aH bq bl gJ
  have ky := fun b' x => uq bf fO (Cr b' x) X_ gb iJ
  have Ct : ∀ b', (∀ b o, base.get? b = some o → b'.get? b = some o) → FnOk l.prog w K mg b' bt 5 Cj Ad ["net", "thing"] (aY l.prog w K (⟨[aX, bh, bj], [(cE, qL)]⟩ : cg) tK) := fun b' x => zQ (P := l.prog) (w := w) (tb := (⟨[aX, bh, bj], [(cE, qL)]⟩ : cg)) fP (pv ko x) Ag (vz dH x) fi aH bq bl
  have Ah := fun b' x => xa gd fP (Ct b' x) bl
  have mV := fun b' x => tR bL gd (Ah b' x) X_ fQ gK
  have Ai := fun b' x => xc dA bf (ky b' x) bL (mV b' x)
  have uL := fun b' x => tS cq bf (ky b' x) bL (mV b' x)
  have pN := fun b' x => oO cT bf (ky b' x)
  have md := IB (tb := (⟨[aX, bh, bj], [(cE, qL)]⟩ : cg)) (uj (P := l.prog) (w := w) (base := base) ah)
  have K7 := Kx (tb := (⟨[aX, bh, bj], [(cE, qL)]⟩ : cg)) (wN (P := l.prog) (w := w) (base := base) fj bl)
  have Fj := tF b7 ah md bl
  have K8 := wQ fk ah md b7 Fj bl
  have Aj := pH cS ah md bl
  have Cu := qW de ah md bl
  have kn : Kinds K C_RoadError [C_NoNet, C_NoPlace, C_NoSign, C_NoWord, C_NoWhole, C_NoNumber, C_NoKin, C_NoSet, C_NoPair, C_NoStep, C_NoCall, C_TooMany, C_NoText, C_NoRow, C_NoDeed] [C_NoNet, C_NoPlace, C_NoSign, C_NoWord, C_NoWhole, C_NoNumber, C_NoKin, C_NoSet, C_NoPair, C_NoStep, C_NoCall, C_TooMany, C_NoPaper, C_NoText, C_NoRow, C_NoDeed] := kinds_of (L1 := [C_NoNet, C_NoPlace, C_NoSign, C_NoWord, C_NoWhole, C_NoNumber, C_NoKin, C_NoSet, C_NoPair, C_NoStep, C_NoCall, C_TooMany]) (L2 := [C_NoText, C_NoRow, C_NoDeed]) X_ Qu (fun D h => h) xj
  have Jl : ∀ b' : Heap, FnOkN l.prog w K mg b' bt 1 uK t5 ["_law_e"] (aY l.prog w K (⟨[aX, bh, bj], [(cE, qL)]⟩ : cg) (wY [C_NoNet, C_NoPlace, C_NoSign, C_NoWord, C_NoWhole, C_NoNumber, C_NoKin, C_NoSet, C_NoPair, C_NoStep, C_NoCall, C_TooMany, C_NoText, C_NoRow, C_NoDeed] [C_NoNet, C_NoPlace, C_NoSign, C_NoWord, C_NoWhole, C_NoNumber, C_NoKin, C_NoSet, C_NoPair, C_NoStep, C_NoCall, C_TooMany, C_NoPaper, C_NoText, C_NoRow, C_NoDeed])) := fun b' => ux eG X_ kn iJ lX nq nu lY kr px pz gK ny nz lZ l0 nA pC nB bl
  have Ak := fun b' (x : ∀ b o, base.get? b = some o → b'.get? b = some o) => pD aI eG (Jl b') X_ jI bl
  exact HW (IP rE fG dH dg dh fj K7 fk K8 ah md cS Aj de Cu aI Ak dA Ai cq uL cT pN gb fQ bl)
theorem walk {l : PySem.W.OpenLaw} {q : Program} {loose : List Str} {XP : (Str → Option Value) → Heap → Prop} {YP : World → Heap → Prop} {d : DefRec} {K : Params → PySem.W.Frag} (hn : l.most = some 63) (ye : d.params.defaults = [])
    (zo : ∀ w : World, PySem.W.kb_classed (K w.params) = true) (Dd : ∀ y ∈ ((["is_row", "is_net", "is_set"] : List Str) ++ (["law"] : List Str)), ∃ r ∈ recsOf q, r.name = y) (mL : ∀ w : World, pj (K w.params) ["is_row", "is_net", "is_set"] ["law"] = true) (hY : ∀ (w : World) (h : Heap), YP w h → (K w.params).In h)
    (F : ∀ (w : World) (mg : Str → Option Value) (fa : Addr) (h : Heap) (tabs lts : List Addr), (K w.params).In h → h.Ns mainGlobals mg → mg d.name = some (.ref fa) →
      Paired (TabOf mg h) ["is_row", "is_net", "is_set"] tabs → Paired (TabOf mg h) ["law"] lts →
      ∃ fd : FuncData, (∀ (s : Shared) (u : Value), BindsTo s fd ⟨[u], []⟩ [("_law_script", u)]) ∧
        ∀ base : Heap, (K w.params).In base → base.Ns mainGlobals mg → (∃ bm ob, BMod base mainGlobals mg bm ob) → (∀ c p, PySem.W.CodeHd h c p → PySem.W.CodeHd base c p) → FnOk l.prog w (K w.params) mg base bt 14 fa fd ["_law_script"] (spLaw (K w.params) ⟨tabs, lts.zip [qL]⟩)) :
    PySem.W.WalkO q loose XP YP l.row.toRowW d [] (fun f vs => PySem.call f vs) :=
  L2.Bw (n := 63) (k := 14) (x := "_law_script") (CX := bt) (sp := fun K tabs lts => spLaw K ⟨tabs, lts.zip [qL]⟩) hn (by decide) ye ⟨rfl, by decide, by decide⟩ zo Dd mL hY F (fun _ _ _ _ a ns hl hn hT hL hS => By hl hn hT hL hS) fun _ _ _ _ z => z
end My
open PySem PySem.W PyProof.Rows L2
set_option maxRecDepth 100000 in
set_option maxHeartbeats 0 in
theorem PySem.Challenge.cw_roadcall_k27_pairs_refused_holds : PySem.Challenge.rw_roadcall_k27_pairs_refused.Holds := by
  w_on; o_law
  refine My.DA (q := My.kq) (loose := My.kL) (H := My.kH) My.left (by rfl) (by rfl) (by rfl) (by rfl) (by first | assumption | decide +kernel) (by decide +kernel) ⟨rfl, rfl, rfl, rfl, rfl, by decide +kernel⟩ ?hw ?hc
  (case hw => w_witness2)
  refine My.walk (l := PySem.Challenge.rw_roadcall_k27_pairs_refused) rfl rfl (fun w => by kernel_rfl) (recs_of (by decide +kernel)) (fun w => by kernel_rfl) (fun w h Y => Y) ?F
  intro w mg fa h tabs lts KX G yf T U
  exact My.all_mk (C_RoadError := 24) (C_NoNet := 37) (C_NoPlace := 49) (C_NoSign := 61) (C_NoWord := 73) (C_NoWhole := 85) (C_NoNumber := 97) (C_NoKin := 109) (C_NoSet := 121) (C_NoPair := 133) (C_NoStep := 145) (C_NoCall := 157) (C_TooMany := 169) (C_NoText := 203) (C_NoRow := 215) (C_NoDeed := 227) (C_NoPaper := 191) KX G yf T U
    (by kernel_rfl)
    (by kernel_rfl)
    (by kernel_rfl)
    (by kernel_rfl)
    (by kernel_rfl)
    (by kernel_rfl)
    (by kernel_rfl)
    (by kernel_rfl)
    (by kernel_rfl)
    (by kernel_rfl)
    (by kernel_rfl)
    (by kernel_rfl)
    (by kernel_rfl)
    (by kernel_rfl)
    (by kernel_rfl)
    (by kernel_rfl)
    (by kernel_rfl)
    (by decide)
    (by kernel_rfl)
    (by kernel_rfl)
    (L2.aM (f := 236) (oc := .type "function") (od := none) (sl := #[]) (kV := .none) (dc := .none) (pm := My.vS "roadcall.whole" 475) (an := none) (cd := .ref 235) (ct := .none) (by kernel_rfl) (by kernel_rfl) (by kernel_rfl) (by kernel_rfl))
    (L2.aM (f := 243) (oc := .type "function") (od := none) (sl := #[]) (kV := .none) (dc := .none) (pm := My.vS "roadcall.whole" 475) (an := none) (cd := .ref 242) (ct := .none) (by kernel_rfl) (by kernel_rfl) (by kernel_rfl) (by kernel_rfl))
    (L2.aM (f := 250) (oc := .type "function") (od := none) (sl := #[]) (kV := .none) (dc := .none) (pm := My.vS "roadcall.nets" 492) (an := none) (cd := .ref 249) (ct := .none) (by kernel_rfl) (by kernel_rfl) (by kernel_rfl) (by kernel_rfl))
    (L2.aM (f := 257) (oc := .type "function") (od := none) (sl := #[]) (kV := .none) (dc := .none) (pm := My.vS "roadcall.nets" 492) (an := none) (cd := .ref 256) (ct := .none) (by kernel_rfl) (by kernel_rfl) (by kernel_rfl) (by kernel_rfl))
    (L2.aM (f := 264) (oc := .type "function") (od := none) (sl := #[]) (kV := .none) (dc := .none) (pm := My.vS "roadcall.nets" 492) (an := none) (cd := .ref 263) (ct := .none) (by kernel_rfl) (by kernel_rfl) (by kernel_rfl) (by kernel_rfl))
    (L2.aM (f := 271) (oc := .type "function") (od := none) (sl := #[]) (kV := .none) (dc := .none) (pm := My.vS "roadcall.nets" 492) (an := none) (cd := .ref 270) (ct := .none) (by kernel_rfl) (by kernel_rfl) (by kernel_rfl) (by kernel_rfl))
    (L2.zu (f := 279) (oc := .type "function") (od := none) (sl := #[]) (T := 272) (oT := ⟨.type "tuple", none, .seq #[.int 511 534] 0, #[]⟩) (kV := .none) (dc := .none) (pm := My.vS "roadcall.ways" 532) (an := none) (cd := .ref 278) (ct := .none) (by kernel_rfl) (by kernel_rfl) (by kernel_rfl) (by kernel_rfl) (by kernel_rfl) rfl)
    (L2.aM (f := 286) (oc := .type "function") (od := none) (sl := #[]) (kV := .none) (dc := .none) (pm := My.vS "roadcall.words" 551) (an := none) (cd := .ref 285) (ct := .none) (by kernel_rfl) (by kernel_rfl) (by kernel_rfl) (by kernel_rfl))
    (L2.aM (f := 293) (oc := .type "function") (od := none) (sl := #[]) (kV := .none) (dc := .none) (pm := My.vS "roadcall.words" 551) (an := none) (cd := .ref 292) (ct := .none) (by kernel_rfl) (by kernel_rfl) (by kernel_rfl) (by kernel_rfl))
    (L2.aM (f := 298) (oc := .type "function") (od := none) (sl := #[]) (kV := .none) (dc := .none) (pm := My.vS "roadcall.words" 551) (an := none) (cd := .ref 297) (ct := .none) (by kernel_rfl) (by kernel_rfl) (by kernel_rfl) (by kernel_rfl))
    (L2.aM (f := 305) (oc := .type "function") (od := none) (sl := #[]) (kV := .none) (dc := .none) (pm := My.vS "roadcall.words" 551) (an := none) (cd := .ref 304) (ct := .none) (by kernel_rfl) (by kernel_rfl) (by kernel_rfl) (by kernel_rfl))
    (L2.aM (f := 312) (oc := .type "function") (od := none) (sl := #[]) (kV := .none) (dc := .none) (pm := My.vS "roadcall.words" 551) (an := none) (cd := .ref 311) (ct := .none) (by kernel_rfl) (by kernel_rfl) (by kernel_rfl) (by kernel_rfl))
    (L2.aM (f := 319) (oc := .type "function") (od := none) (sl := #[]) (kV := .none) (dc := .none) (pm := My.vS "roadcall.pairs" 595) (an := none) (cd := .ref 318) (ct := .none) (by kernel_rfl) (by kernel_rfl) (by kernel_rfl) (by kernel_rfl))
    (L2.aM (f := 326) (oc := .type "function") (od := none) (sl := #[]) (kV := .none) (dc := .none) (pm := My.vS "roadcall.pairs" 595) (an := none) (cd := .ref 325) (ct := .none) (by kernel_rfl) (by kernel_rfl) (by kernel_rfl) (by kernel_rfl))
    (L2.aM (f := 331) (oc := .type "function") (od := none) (sl := #[]) (kV := .none) (dc := .none) (pm := My.vS "roadcall.pairs" 595) (an := none) (cd := .ref 330) (ct := .none) (by kernel_rfl) (by kernel_rfl) (by kernel_rfl) (by kernel_rfl))
    (L2.aM (f := 336) (oc := .type "function") (od := none) (sl := #[]) (kV := .none) (dc := .none) (pm := My.vS "roadcall.pairs" 595) (an := none) (cd := .ref 335) (ct := .none) (by kernel_rfl) (by kernel_rfl) (by kernel_rfl) (by kernel_rfl))
    (L2.aM (f := 343) (oc := .type "function") (od := none) (sl := #[]) (kV := .none) (dc := .none) (pm := My.vS "roadcall.pairs" 595) (an := none) (cd := .ref 342) (ct := .none) (by kernel_rfl) (by kernel_rfl) (by kernel_rfl) (by kernel_rfl))
    (L2.aM (f := 350) (oc := .type "function") (od := none) (sl := #[]) (kV := .none) (dc := .none) (pm := My.vS "roadcall.pairs" 595) (an := none) (cd := .ref 349) (ct := .none) (by kernel_rfl) (by kernel_rfl) (by kernel_rfl) (by kernel_rfl))
    (L2.aM (f := 355) (oc := .type "function") (od := none) (sl := #[]) (kV := .none) (dc := .none) (pm := My.vS "roadcall.pairs" 595) (an := none) (cd := .ref 354) (ct := .none) (by kernel_rfl) (by kernel_rfl) (by kernel_rfl) (by kernel_rfl))
    (L2.aM (f := 360) (oc := .type "function") (od := none) (sl := #[]) (kV := .none) (dc := .none) (pm := My.vS "roadcall.pairs" 595) (an := none) (cd := .ref 359) (ct := .none) (by kernel_rfl) (by kernel_rfl) (by kernel_rfl) (by kernel_rfl))
    (L2.aM (f := 367) (oc := .type "function") (od := none) (sl := #[]) (kV := .none) (dc := .none) (pm := My.vS "law_roadcall_k27_pairs_refused" 657) (an := none) (cd := .ref 366) (ct := .none) (by kernel_rfl) (by kernel_rfl) (by kernel_rfl) (by kernel_rfl))
    (L2.aM (f := 374) (oc := .type "function") (od := none) (sl := #[]) (kV := .none) (dc := .none) (pm := My.vS "law_roadcall_k27_pairs_refused" 657) (an := none) (cd := .ref 373) (ct := .none) (by kernel_rfl) (by kernel_rfl) (by kernel_rfl) (by kernel_rfl))
    (L2.aM (f := 379) (oc := .type "function") (od := none) (sl := #[]) (kV := .none) (dc := .none) (pm := My.vS "law_roadcall_k27_pairs_refused" 657) (an := none) (cd := .ref 378) (ct := .none) (by kernel_rfl) (by kernel_rfl) (by kernel_rfl) (by kernel_rfl))
    (L2.aM (f := 384) (oc := .type "function") (od := none) (sl := #[]) (kV := .none) (dc := .none) (pm := My.vS "law_roadcall_k27_pairs_refused" 657) (an := none) (cd := .ref 383) (ct := .none) (by kernel_rfl) (by kernel_rfl) (by kernel_rfl) (by kernel_rfl))
    (L2.aM (f := 391) (oc := .type "function") (od := none) (sl := #[]) (kV := .none) (dc := .none) (pm := My.vS "law_roadcall_k27_pairs_refused" 657) (an := none) (cd := .ref 390) (ct := .none) (by kernel_rfl) (by kernel_rfl) (by kernel_rfl) (by kernel_rfl))
    (L2.aM (f := 398) (oc := .type "function") (od := none) (sl := #[]) (kV := .none) (dc := .none) (pm := My.vS "law_roadcall_k27_pairs_refused" 657) (an := none) (cd := .ref 397) (ct := .none) (by kernel_rfl) (by kernel_rfl) (by kernel_rfl) (by kernel_rfl))
    (L2.aM (f := 403) (oc := .type "function") (od := none) (sl := #[]) (kV := .none) (dc := .none) (pm := My.vS "law_roadcall_k27_pairs_refused" 657) (an := none) (cd := .ref 402) (ct := .none) (by kernel_rfl) (by kernel_rfl) (by kernel_rfl) (by kernel_rfl))
    (L2.aM (f := 410) (oc := .type "function") (od := none) (sl := #[]) (kV := .none) (dc := .none) (pm := My.vS "law_roadcall_k27_pairs_refused" 657) (an := none) (cd := .ref 409) (ct := .none) (by kernel_rfl) (by kernel_rfl) (by kernel_rfl) (by kernel_rfl))
    (L2.aM (f := 417) (oc := .type "function") (od := none) (sl := #[]) (kV := .none) (dc := .none) (pm := My.vS "law_roadcall_k27_pairs_refused" 657) (an := none) (cd := .ref 416) (ct := .none) (by kernel_rfl) (by kernel_rfl) (by kernel_rfl) (by kernel_rfl))
    (by kernel_rfl)
    (by kernel_rfl)
    (by kernel_rfl)
    (by kernel_rfl)
    (by kernel_rfl)
    (by kernel_rfl)
    (by kernel_rfl)
    (by kernel_rfl)
    (by kernel_rfl)
    (by kernel_rfl)
    (by kernel_rfl)
    (by kernel_rfl)
    (by kernel_rfl)
    (by kernel_rfl)
    (by kernel_rfl)
    (by kernel_rfl)
    (by kernel_rfl)
    (by kernel_rfl)
    (by kernel_rfl)
    (by kernel_rfl)
    (by kernel_rfl)
    ⟨496, by kernel_rfl⟩
