import PyProof.Rows.All
import Wide.All
import OpenK.AllK
import Wide.FinOn
import Lean
import PySem.Challenge.RW_roadcall_k32_lifting_refused
import PyProof.EqAt
import PyProof.EqKinds
import PyProof.TupleCall
import PyProof.NeKinds
import PyProof.EnumMake
import PyProof.EnumFor
import PyProof.ZipIter
import PyProof.Rows.ZipGen
import KE.KLam
import PyProof.DictItems
import KE.KTurnsDict
import KE.KPairComp
import KE.KDictList
set_option linter.all false
set_option Elab.async false
set_option maxRecDepth 100000
namespace My
open PySem PyProof.Rows
noncomputable def kA (s : Stmt) : Arguments := match s with
  | .FunctionDef _ a _ _ _ _ _ _ _ _ => a
  | _ => { posonlyargs := [], args := [], vararg := none, kwonlyargs := [], kw_defaults := [], kwarg := none, defaults := [] }
noncomputable def kB (s : Stmt) : List Stmt := match s with
  | .FunctionDef _ _ b _ _ _ _ _ _ _ => b
  | _ => []
noncomputable def kS (s : Stmt) : Scope := match s with
  | .FunctionDef _ _ _ _ _ _ sc _ _ _ => sc
  | _ => { kind := .function, names := [], isGenerator := false, isCoroutine := false }
noncomputable def vS (x : String) (t : Nat) : Value := .str (Str.ofString x) t
noncomputable def kE (P : Params) (x : String) (t : Nat) (v : Value) : DictEntry := ⟨PyData.keyHash P (Str.ofString x), vS x t, v⟩
noncomputable def kF (i : Nat) (x : String) (d m : Value) (c : Nat) : Obj := let st := PySem.Challenge.pw_roadcall_k32_lifting_refused.main.body.getD i (.Pass ⟨0, 0, 0, 0⟩); ⟨.type "function", none, .func (PySem.W.fnOf (Str.ofString x) (Str.ofString x) (kA st) (kB st) (kS st) d .none .none m none (.ref c) .none), #[]⟩
noncomputable def kC (x : String) (t : Nat) (l n f : Int) (a : Nat) (b : Bool) (m : Int) (p : Nat) (u z : Value) (q : Nat) (e : Int) (t2 : Nat) : Obj := ⟨.type "code", none, .fields #[vS x t, vS x (t + 1), vS "/claim/cut.py" (t + 2), .int l 0, .int n 0, .int 0 0, .int 0 0, .int f 0, .ref a, .bool b, .int m 0, .ref p, .none, u, z, .ref q, .int e 0, .int l 0, vS "/claim/cut.py" t2], #[]⟩
noncomputable def kK (P : Params) : PySem.W.Frag := [(2, ⟨.none, none, .dict [].toArray 0, #[]⟩),
  (3, ⟨.type "dict", none, .dict [kE P "__name__" 165 (vS "law_roadcall_k32_lifting_refused" 748), kE P "__doc__" 166 .none, kE P "__package__" 167 .none, kE P "__loader__" 168 (.builtin "__main__.__loader__#opaque"), kE P "__spec__" 169 .none, kE P "__annotations__" 170 (.ref 6), kE P "__builtins__" 171 (.ref 4), kE P "__file__" 173 (vS "/claim/cut.py" 172), kE P "__cached__" 174 .none, kE P "RoadError" 206 (.ref 24), kE P "NoNet" 222 (.ref 37), kE P "NoPlace" 238 (.ref 49), kE P "NoSign" 254 (.ref 61), kE P "NoWord" 270 (.ref 73), kE P "NoWhole" 286 (.ref 85), kE P "NoNumber" 302 (.ref 97), kE P "NoKin" 318 (.ref 109), kE P "NoSet" 334 (.ref 121), kE P "NoPair" 350 (.ref 133), kE P "NoStep" 366 (.ref 145), kE P "NoCall" 382 (.ref 157), kE P "TooMany" 398 (.ref 169), kE P "NoPaper" 426 (.ref 191), kE P "NoText" 442 (.ref 203), kE P "NoRow" 458 (.ref 215), kE P "NoDeed" 474 (.ref 227), kE P "is_whole" 483 (.ref 236), kE P "is_whole_below" 491 (.ref 243), kE P "SIGNS" 495 (vS "abc" 494), kE P "MOST_PLACES" 497 (.int 9 496), kE P "MOST_SIGNS_OF_WORD" 499 (.int 2000 498), kE P "is_row" 509 (.ref 250), kE P "is_net" 518 (.ref 257), kE P "need_net" 525 (.ref 264), kE P "signs_of" 532 (.ref 271), kE P "all_places" 539 (.ref 278), kE P "is_place" 547 (.ref 285), kE P "is_word" 556 (.ref 292), kE P "need_word" 564 (.ref 299), kE P "MOST_SETS" 568 (.int 511 567), kE P "end_of" 578 (.ref 306), kE P "first_met" 593 (.ref 314), kE P "is_set" 604 (.ref 321), kE P "need_set" 612 (.ref 328), kE P "is_pair" 620 (.ref 335), kE P "image" 626 (.ref 340), kE P "sign_image" 632 (.ref 345), kE P "images_met" 641 (.ref 352), kE P "first_call" 651 (.ref 359), kE P "need_pair" 661 (.ref 366), kE P "call_of" 669 (.ref 373), kE P "all_pairs" 675 (.ref 378), kE P "in_order" 683 (.ref 385), kE P "coming_pairs" 695 (.ref 392), kE P "led_to_some" 701 (.ref 397), kE P "never_called" 707 (.ref 402), kE P "stable_pairs" 715 (.ref 407), kE P "classes" 721 (.ref 412), kE P "net_of_classes" 727 (.ref 417), kE P "lifted" 741 (.ref 424), kE P "pairs_among" 747 (.ref 429), kE P "_law_bag" 760 (.ref 436), kE P "_law_take" 771 (.ref 443), kE P "_law_order" 777 (.ref 448), kE P "_law_net" 783 (.ref 453), kE P "_law_kind" 792 (.ref 460), kE P "_law_refused" 800 (.ref 467), kE P "_law_no_net" 806 (.ref 472), kE P "_law_no_word" 816 (.ref 479), kE P "law" 830 (.ref 486)].toArray 70, #[]⟩),
  (23, ⟨.type "dict", none, .dict [kE P "__module__" 196 (vS "roadcall.errors" 187), kE P "__firstlineno__" 200 (.int 2 199), kE P "__static_attributes__" 201 (.ref 22), kE P "__weakref__" 203 (.ref 25), kE P "__doc__" 204 .none].toArray 3, #[]⟩),
  (24, ⟨.type "type", none, .cls { name := Str.ofString "RoadError", bases := [.type "ValueError"], mro := [.ref 24, .type "ValueError", .type "Exception", .type "BaseException", .type "object"], ns := 23, qualname := Str.ofString "RoadError", subclasses := [.ref 37, .ref 49, .ref 61, .ref 73, .ref 85, .ref 97, .ref 109, .ref 121, .ref 133, .ref 145, .ref 157, .ref 169, .ref 191, .ref 203, .ref 215, .ref 227] }, #[some (.ref 15), none, some (vS "RoadError" 189), some (vS "RoadError" 197), some (.builtin "ValueError.__new__"), some (.bool true)]⟩),
  (36, ⟨.type "dict", none, .dict [kE P "__module__" 214 (vS "roadcall.errors" 187), kE P "__firstlineno__" 218 (.int 4 217), kE P "__static_attributes__" 219 (.ref 35), kE P "__doc__" 220 .none].toArray 2, #[]⟩),
  (37, ⟨.type "type", none, .cls { name := Str.ofString "NoNet", bases := [.ref 24], mro := [.ref 37, .ref 24, .type "ValueError", .type "Exception", .type "BaseException", .type "object"], ns := 36, qualname := Str.ofString "NoNet", subclasses := [] }, #[some (.ref 28), none, some (vS "NoNet" 207), some (vS "NoNet" 215), some (.builtin "ValueError.__new__"), some (.bool true)]⟩),
  (48, ⟨.type "dict", none, .dict [kE P "__module__" 230 (vS "roadcall.errors" 187), kE P "__firstlineno__" 234 (.int 6 233), kE P "__static_attributes__" 235 (.ref 47), kE P "__doc__" 236 .none].toArray 2, #[]⟩),
  (49, ⟨.type "type", none, .cls { name := Str.ofString "NoPlace", bases := [.ref 24], mro := [.ref 49, .ref 24, .type "ValueError", .type "Exception", .type "BaseException", .type "object"], ns := 48, qualname := Str.ofString "NoPlace", subclasses := [] }, #[some (.ref 40), none, some (vS "NoPlace" 223), some (vS "NoPlace" 231), some (.builtin "ValueError.__new__"), some (.bool true)]⟩),
  (60, ⟨.type "dict", none, .dict [kE P "__module__" 246 (vS "roadcall.errors" 187), kE P "__firstlineno__" 250 (.int 8 249), kE P "__static_attributes__" 251 (.ref 59), kE P "__doc__" 252 .none].toArray 2, #[]⟩),
  (61, ⟨.type "type", none, .cls { name := Str.ofString "NoSign", bases := [.ref 24], mro := [.ref 61, .ref 24, .type "ValueError", .type "Exception", .type "BaseException", .type "object"], ns := 60, qualname := Str.ofString "NoSign", subclasses := [] }, #[some (.ref 52), none, some (vS "NoSign" 239), some (vS "NoSign" 247), some (.builtin "ValueError.__new__"), some (.bool true)]⟩),
  (72, ⟨.type "dict", none, .dict [kE P "__module__" 262 (vS "roadcall.errors" 187), kE P "__firstlineno__" 266 (.int 10 265), kE P "__static_attributes__" 267 (.ref 71), kE P "__doc__" 268 .none].toArray 2, #[]⟩),
  (73, ⟨.type "type", none, .cls { name := Str.ofString "NoWord", bases := [.ref 24], mro := [.ref 73, .ref 24, .type "ValueError", .type "Exception", .type "BaseException", .type "object"], ns := 72, qualname := Str.ofString "NoWord", subclasses := [] }, #[some (.ref 64), none, some (vS "NoWord" 255), some (vS "NoWord" 263), some (.builtin "ValueError.__new__"), some (.bool true)]⟩),
  (84, ⟨.type "dict", none, .dict [kE P "__module__" 278 (vS "roadcall.errors" 187), kE P "__firstlineno__" 282 (.int 12 281), kE P "__static_attributes__" 283 (.ref 83), kE P "__doc__" 284 .none].toArray 2, #[]⟩),
  (85, ⟨.type "type", none, .cls { name := Str.ofString "NoWhole", bases := [.ref 24], mro := [.ref 85, .ref 24, .type "ValueError", .type "Exception", .type "BaseException", .type "object"], ns := 84, qualname := Str.ofString "NoWhole", subclasses := [] }, #[some (.ref 76), none, some (vS "NoWhole" 271), some (vS "NoWhole" 279), some (.builtin "ValueError.__new__"), some (.bool true)]⟩),
  (96, ⟨.type "dict", none, .dict [kE P "__module__" 294 (vS "roadcall.errors" 187), kE P "__firstlineno__" 298 (.int 14 297), kE P "__static_attributes__" 299 (.ref 95), kE P "__doc__" 300 .none].toArray 2, #[]⟩),
  (97, ⟨.type "type", none, .cls { name := Str.ofString "NoNumber", bases := [.ref 24], mro := [.ref 97, .ref 24, .type "ValueError", .type "Exception", .type "BaseException", .type "object"], ns := 96, qualname := Str.ofString "NoNumber", subclasses := [] }, #[some (.ref 88), none, some (vS "NoNumber" 287), some (vS "NoNumber" 295), some (.builtin "ValueError.__new__"), some (.bool true)]⟩),
  (108, ⟨.type "dict", none, .dict [kE P "__module__" 310 (vS "roadcall.errors" 187), kE P "__firstlineno__" 314 (.int 16 313), kE P "__static_attributes__" 315 (.ref 107), kE P "__doc__" 316 .none].toArray 2, #[]⟩),
  (109, ⟨.type "type", none, .cls { name := Str.ofString "NoKin", bases := [.ref 24], mro := [.ref 109, .ref 24, .type "ValueError", .type "Exception", .type "BaseException", .type "object"], ns := 108, qualname := Str.ofString "NoKin", subclasses := [] }, #[some (.ref 100), none, some (vS "NoKin" 303), some (vS "NoKin" 311), some (.builtin "ValueError.__new__"), some (.bool true)]⟩),
  (120, ⟨.type "dict", none, .dict [kE P "__module__" 326 (vS "roadcall.errors" 187), kE P "__firstlineno__" 330 (.int 18 329), kE P "__static_attributes__" 331 (.ref 119), kE P "__doc__" 332 .none].toArray 2, #[]⟩),
  (121, ⟨.type "type", none, .cls { name := Str.ofString "NoSet", bases := [.ref 24], mro := [.ref 121, .ref 24, .type "ValueError", .type "Exception", .type "BaseException", .type "object"], ns := 120, qualname := Str.ofString "NoSet", subclasses := [] }, #[some (.ref 112), none, some (vS "NoSet" 319), some (vS "NoSet" 327), some (.builtin "ValueError.__new__"), some (.bool true)]⟩),
  (132, ⟨.type "dict", none, .dict [kE P "__module__" 342 (vS "roadcall.errors" 187), kE P "__firstlineno__" 346 (.int 20 345), kE P "__static_attributes__" 347 (.ref 131), kE P "__doc__" 348 .none].toArray 2, #[]⟩),
  (133, ⟨.type "type", none, .cls { name := Str.ofString "NoPair", bases := [.ref 24], mro := [.ref 133, .ref 24, .type "ValueError", .type "Exception", .type "BaseException", .type "object"], ns := 132, qualname := Str.ofString "NoPair", subclasses := [] }, #[some (.ref 124), none, some (vS "NoPair" 335), some (vS "NoPair" 343), some (.builtin "ValueError.__new__"), some (.bool true)]⟩),
  (144, ⟨.type "dict", none, .dict [kE P "__module__" 358 (vS "roadcall.errors" 187), kE P "__firstlineno__" 362 (.int 22 361), kE P "__static_attributes__" 363 (.ref 143), kE P "__doc__" 364 .none].toArray 2, #[]⟩),
  (145, ⟨.type "type", none, .cls { name := Str.ofString "NoStep", bases := [.ref 24], mro := [.ref 145, .ref 24, .type "ValueError", .type "Exception", .type "BaseException", .type "object"], ns := 144, qualname := Str.ofString "NoStep", subclasses := [] }, #[some (.ref 136), none, some (vS "NoStep" 351), some (vS "NoStep" 359), some (.builtin "ValueError.__new__"), some (.bool true)]⟩),
  (156, ⟨.type "dict", none, .dict [kE P "__module__" 374 (vS "roadcall.errors" 187), kE P "__firstlineno__" 378 (.int 24 377), kE P "__static_attributes__" 379 (.ref 155), kE P "__doc__" 380 .none].toArray 2, #[]⟩),
  (157, ⟨.type "type", none, .cls { name := Str.ofString "NoCall", bases := [.ref 24], mro := [.ref 157, .ref 24, .type "ValueError", .type "Exception", .type "BaseException", .type "object"], ns := 156, qualname := Str.ofString "NoCall", subclasses := [] }, #[some (.ref 148), none, some (vS "NoCall" 367), some (vS "NoCall" 375), some (.builtin "ValueError.__new__"), some (.bool true)]⟩),
  (168, ⟨.type "dict", none, .dict [kE P "__module__" 390 (vS "roadcall.errors" 187), kE P "__firstlineno__" 394 (.int 26 393), kE P "__static_attributes__" 395 (.ref 167), kE P "__doc__" 396 .none].toArray 2, #[]⟩),
  (169, ⟨.type "type", none, .cls { name := Str.ofString "TooMany", bases := [.ref 24], mro := [.ref 169, .ref 24, .type "ValueError", .type "Exception", .type "BaseException", .type "object"], ns := 168, qualname := Str.ofString "TooMany", subclasses := [] }, #[some (.ref 160), none, some (vS "TooMany" 383), some (vS "TooMany" 391), some (.builtin "ValueError.__new__"), some (.bool true)]⟩),
  (180, ⟨.type "tuple", none, .seq #[.int 0 411] 0, #[]⟩),
  (190, ⟨.type "dict", none, .dict [kE P "__module__" 406 (vS "roadcall.errors" 187), kE P "__firstlineno__" 410 (.int 28 409), kE P "__init__" 420 (.ref 188), kE P "__static_attributes__" 422 (.ref 189), kE P "__doc__" 424 .none].toArray 3, #[]⟩),
  (191, ⟨.type "type", none, .cls { name := Str.ofString "NoPaper", bases := [.ref 24], mro := [.ref 191, .ref 24, .type "ValueError", .type "Exception", .type "BaseException", .type "object"], ns := 190, qualname := Str.ofString "NoPaper", subclasses := [] }, #[some (.ref 172), none, some (vS "NoPaper" 399), some (vS "NoPaper" 407), some (.builtin "ValueError.__new__"), some (.bool true)]⟩),
  (202, ⟨.type "dict", none, .dict [kE P "__module__" 434 (vS "roadcall.errors" 187), kE P "__firstlineno__" 438 (.int 33 437), kE P "__static_attributes__" 439 (.ref 201), kE P "__doc__" 440 .none].toArray 2, #[]⟩),
  (203, ⟨.type "type", none, .cls { name := Str.ofString "NoText", bases := [.ref 24], mro := [.ref 203, .ref 24, .type "ValueError", .type "Exception", .type "BaseException", .type "object"], ns := 202, qualname := Str.ofString "NoText", subclasses := [] }, #[some (.ref 194), none, some (vS "NoText" 427), some (vS "NoText" 435), some (.builtin "ValueError.__new__"), some (.bool true)]⟩),
  (214, ⟨.type "dict", none, .dict [kE P "__module__" 450 (vS "roadcall.errors" 187), kE P "__firstlineno__" 454 (.int 35 453), kE P "__static_attributes__" 455 (.ref 213), kE P "__doc__" 456 .none].toArray 2, #[]⟩),
  (215, ⟨.type "type", none, .cls { name := Str.ofString "NoRow", bases := [.ref 24], mro := [.ref 215, .ref 24, .type "ValueError", .type "Exception", .type "BaseException", .type "object"], ns := 214, qualname := Str.ofString "NoRow", subclasses := [] }, #[some (.ref 206), none, some (vS "NoRow" 443), some (vS "NoRow" 451), some (.builtin "ValueError.__new__"), some (.bool true)]⟩),
  (226, ⟨.type "dict", none, .dict [kE P "__module__" 466 (vS "roadcall.errors" 187), kE P "__firstlineno__" 470 (.int 37 469), kE P "__static_attributes__" 471 (.ref 225), kE P "__doc__" 472 .none].toArray 2, #[]⟩),
  (227, ⟨.type "type", none, .cls { name := Str.ofString "NoDeed", bases := [.ref 24], mro := [.ref 227, .ref 24, .type "ValueError", .type "Exception", .type "BaseException", .type "object"], ns := 226, qualname := Str.ofString "NoDeed", subclasses := [] }, #[some (.ref 218), none, some (vS "NoDeed" 459), some (vS "NoDeed" 467), some (.builtin "ValueError.__new__"), some (.bool true)]⟩),
  (235, kC "is_whole" 477 40 1 3 230 true 181 231 (.ref 232) (.ref 233) 234 481 482),
  (236, kF 19 "is_whole" .none (vS "roadcall.whole" 475) 235),
  (242, kC "is_whole_below" 484 42 2 3 237 true 181 238 (.ref 239) (.ref 240) 241 489 490),
  (243, kF 20 "is_whole_below" .none (vS "roadcall.whole" 475) 242),
  (249, kC "is_row" 500 48 3 3 244 true 181 245 (.ref 246) (.ref 247) 248 507 508),
  (250, kF 25 "is_row" .none (vS "roadcall.nets" 492) 249),
  (256, kC "is_net" 510 52 1 3 251 true 181 252 (.ref 253) (.ref 254) 255 516 517),
  (257, kF 26 "is_net" .none (vS "roadcall.nets" 492) 256),
  (263, kC "need_net" 519 60 1 3 258 true 181 259 (.ref 260) (.ref 261) 262 523 524),
  (264, kF 27 "need_net" .none (vS "roadcall.nets" 492) 263),
  (270, kC "signs_of" 526 63 1 3 265 true 181 266 (.ref 267) (.ref 268) 269 530 531),
  (271, kF 28 "signs_of" .none (vS "roadcall.nets" 492) 270),
  (277, kC "all_places" 533 66 1 3 272 true 181 273 (.ref 274) (.ref 275) 276 537 538),
  (278, kF 29 "all_places" .none (vS "roadcall.nets" 492) 277),
  (284, kC "is_place" 540 68 2 3 279 true 181 280 (.ref 281) (.ref 282) 283 545 546),
  (285, kF 30 "is_place" .none (vS "roadcall.nets" 492) 284),
  (291, kC "is_word" 548 70 2 3 286 true 181 287 (.ref 288) (.ref 289) 290 554 555),
  (292, kF 31 "is_word" .none (vS "roadcall.nets" 492) 291),
  (298, kC "need_word" 557 75 2 3 293 true 181 294 (.ref 295) (.ref 296) 297 562 563),
  (299, kF 32 "need_word" .none (vS "roadcall.nets" 492) 298),
  (305, kC "end_of" 569 80 3 3 300 true 181 301 (.ref 302) (.ref 303) 304 576 577),
  (306, kF 35 "end_of" .none (vS "roadcall.ways" 565) 305),
  (307, ⟨.type "tuple", none, .seq #[.int 511 567] 0, #[]⟩),
  (313, kC "first_met" 579 84 4 3 308 true 181 309 (.ref 310) (.ref 311) 312 591 592),
  (314, kF 36 "first_met" (.ref 307) (vS "roadcall.ways" 565) 313),
  (320, kC "is_set" 596 96 2 3 315 true 181 316 (.ref 317) (.ref 318) 319 602 603),
  (321, kF 38 "is_set" .none (vS "roadcall.words" 594) 320),
  (327, kC "need_set" 605 100 2 3 322 true 181 323 (.ref 324) (.ref 325) 326 610 611),
  (328, kF 39 "need_set" .none (vS "roadcall.words" 594) 327),
  (334, kC "is_pair" 613 103 2 3 329 true 181 330 (.ref 331) (.ref 332) 333 618 619),
  (335, kF 40 "is_pair" .none (vS "roadcall.words" 594) 334),
  (339, kC "image" 621 105 3 3 336 true 181 337 .none .none 338 624 625),
  (340, kF 41 "image" .none (vS "roadcall.words" 594) 339),
  (344, kC "sign_image" 627 110 3 3 341 true 181 342 .none .none 343 630 631),
  (345, kF 42 "sign_image" .none (vS "roadcall.words" 594) 344),
  (351, kC "images_met" 633 112 2 3 346 true 181 347 (.ref 348) (.ref 349) 350 639 640),
  (352, kF 43 "images_met" .none (vS "roadcall.words" 594) 351),
  (358, kC "first_call" 642 114 2 3 353 true 181 354 (.ref 355) (.ref 356) 357 649 650),
  (359, kF 44 "first_call" .none (vS "roadcall.words" 594) 358),
  (365, kC "need_pair" 654 120 2 3 360 true 181 361 (.ref 362) (.ref 363) 364 659 660),
  (366, kF 46 "need_pair" .none (vS "roadcall.pairs" 652) 365),
  (372, kC "call_of" 662 123 2 3 367 true 181 368 (.ref 369) (.ref 370) 371 667 668),
  (373, kF 47 "call_of" .none (vS "roadcall.pairs" 652) 372),
  (377, kC "all_pairs" 670 127 1 3 374 true 181 375 .none .none 376 673 674),
  (378, kF 48 "all_pairs" .none (vS "roadcall.pairs" 652) 377),
  (384, kC "in_order" 676 130 2 3 379 true 181 380 (.ref 381) (.ref 382) 383 681 682),
  (385, kF 49 "in_order" .none (vS "roadcall.pairs" 652) 384),
  (391, kC "coming_pairs" 684 132 1 3 386 true 181 387 (.ref 388) (.ref 389) 390 693 694),
  (392, kF 50 "coming_pairs" .none (vS "roadcall.pairs" 652) 391),
  (396, kC "led_to_some" 696 138 2 3 393 true 181 394 .none .none 395 699 700),
  (397, kF 51 "led_to_some" .none (vS "roadcall.pairs" 652) 396),
  (401, kC "never_called" 702 148 1 3 398 true 181 399 .none .none 400 705 706),
  (402, kF 52 "never_called" .none (vS "roadcall.pairs" 652) 401),
  (406, kC "stable_pairs" 710 154 1 3 403 true 181 404 .none .none 405 713 714),
  (407, kF 54 "stable_pairs" .none (vS "roadcall.stable" 708) 406),
  (411, kC "classes" 716 158 1 3 408 true 181 409 .none .none 410 719 720),
  (412, kF 55 "classes" .none (vS "roadcall.stable" 708) 411),
  (416, kC "net_of_classes" 722 166 1 3 413 true 181 414 .none .none 415 725 726),
  (417, kF 56 "net_of_classes" .none (vS "roadcall.stable" 708) 416),
  (423, kC "lifted" 730 171 2 3 418 true 181 419 (.ref 420) (.ref 421) 422 739 740),
  (424, kF 58 "lifted" .none (vS "roadcall.lifting" 728) 423),
  (428, kC "pairs_among" 742 183 2 3 425 true 181 426 .none .none 427 745 746),
  (429, kF 59 "pairs_among" .none (vS "roadcall.lifting" 728) 428),
  (435, kC "_law_bag" 750 186 2 3 430 true 181 431 (.ref 432) (.ref 433) 434 758 759),
  (436, kF 61 "_law_bag" .none (vS "law_roadcall_k32_lifting_refused" 748) 435),
  (442, kC "_law_take" 761 196 2 3 437 true 181 438 (.ref 439) (.ref 440) 441 769 770),
  (443, kF 62 "_law_take" .none (vS "law_roadcall_k32_lifting_refused" 748) 442),
  (447, kC "_law_order" 772 208 2 3 444 true 181 445 .none .none 446 775 776),
  (448, kF 63 "_law_order" .none (vS "law_roadcall_k32_lifting_refused" 748) 447),
  (452, kC "_law_net" 778 211 2 3 449 true 181 450 .none .none 451 781 782),
  (453, kF 64 "_law_net" .none (vS "law_roadcall_k32_lifting_refused" 748) 452),
  (459, kC "_law_kind" 784 234 1 3 454 true 181 455 (.ref 456) (.ref 457) 458 790 791),
  (460, kF 65 "_law_kind" .none (vS "law_roadcall_k32_lifting_refused" 748) 459),
  (466, kC "_law_refused" 793 246 1 3 461 true 181 462 (.ref 463) (.ref 464) 465 798 799),
  (467, kF 66 "_law_refused" .none (vS "law_roadcall_k32_lifting_refused" 748) 466),
  (471, kC "_law_no_net" 801 252 2 3 468 true 181 469 .none .none 470 804 805),
  (472, kF 67 "_law_no_net" .none (vS "law_roadcall_k32_lifting_refused" 748) 471),
  (478, kC "_law_no_word" 807 260 2 3 473 true 181 474 (.ref 475) (.ref 476) 477 814 815),
  (479, kF 68 "_law_no_word" .none (vS "law_roadcall_k32_lifting_refused" 748) 478),
  (485, kC "law" 817 265 1 3 480 true 181 481 (.ref 482) (.ref 483) 484 828 829),
  (486, kF 69 "law" .none (vS "law_roadcall_k32_lifting_refused" 748) 485)]
noncomputable def MS : List Addr := [2, 3, 23, 24, 36, 37, 48, 49, 60, 61, 72, 73, 84, 85, 96, 97, 108, 109, 120, 121, 132, 133, 144, 145, 156, 157, 168, 169, 180, 190, 191, 202, 203, 214, 215, 226, 227, 235, 236, 242, 243, 249, 250, 256, 257, 263, 264, 270, 271, 277, 278, 284, 285, 291, 292, 298, 299, 305, 306, 307, 313, 314, 320, 321, 327, 328, 334, 335, 339, 340, 344, 345, 351, 352, 358, 359, 365, 366, 372, 373, 377, 378, 384, 385, 391, 392, 396, 397, 401, 402, 406, 407, 411, 412, 416, 417, 423, 424, 428, 429, 435, 436, 442, 443, 447, 448, 452, 453, 459, 460, 466, 467, 471, 472, 478, 479, 485, 486]
noncomputable def kq : Program := PySem.W.view PySem.Challenge.pw_roadcall_k32_lifting_refused [1, 2, 3, 4, 5, 6, 7, 8, 9, 10, 11, 12, 13, 14, 15, 16, 17, 19, 20, 22, 23, 24, 25, 26, 27, 28, 29, 30, 31, 32, 34, 35, 38, 39, 40, 41, 42, 43, 44, 46, 47, 48, 49, 50, 51, 52, 54, 55, 56, 58, 59, 61, 62, 63, 64, 65, 66, 67, 68, 69]
noncomputable def kL : List Str := [Str.ofString "NoPaper", Str.ofString "first_met"]
noncomputable def kH : PySem.W.Hook := PySem.W.kHook kK MS fun _ => by kernel_rfl
theorem BW {r : PySem.W.OpenRow} {q : Program} {loose : List Str} {H : PySem.W.Hook} {d : DefRec} {DZ : List (Str × Expr)} {N : Nat} (left : PySem.W.LeftO r.prog q loose (fun s => PySem.W.xlAt q [] s && PySem.W.recOk r.records s) H.obs H.val N)
    (qz : PySem.W.defOf q r.name = some (d, DZ)) (hp : r.prog.theDef r.name = some (d.params, d.body, d.scope)) (hk : PySem.W.kwWritten? d.params.kwonlyargs d.params.kw_defaults = some DZ) (MT : (!r.writes || r.records.isEmpty) = true) (k1 : r.wellSaid = true)
    (ok : (PySem.W.chainsOk q && PySem.W.opensWell r.prog && (PySem.W.frees r.toRowW && r.within.isEmpty)) = true) (hb : r.prog.bare) (hw : r.toRowW.promised) (call : PySem.W.WalkO q loose (PySem.W.XL q []) H.says r.toRowW d DZ fun f vs => PySem.call f vs) : r.Holds :=
  PySem.W.holds_open left H.of H.keeps (fun s e => PySem.W.xl_of s (Bool.and_eq_true_iff.mp e).1) PySem.W.XL.keeps qz hp hk (fun s e => PySem.W.recFacts_of (Bool.and_eq_true_iff.mp e).2) MT k1 ok hb hw call
noncomputable def oeQ (p : Program) (w : World) (N : Nat) : Option Shared := ((PySem.W.Fast.tw10274390034422433532 PySem.W.Fast.tw14364793385576792824 (PySem.W.opening p) w N (PySem.W.Fast.tw1435165496053646825 (PySem.W.opening p)).1 (PySem.W.Fast.tw1435165496053646825 (PySem.W.opening p)).2).bind (PySem.W.Fast.tw14289696077712309145 p)).bind fun s₀ => match s₀.heap.isNs PySem.mainGlobals && s₀.gens.size == 0 with
  | true => (PySem.W.Fast.tw14082659384304107361 PySem.W.Fast.tw14364793385576792824 p w s₀.heap.objs.size (s₀.heap.nsMap PySem.mainGlobals "__annotations__") N s₀ (PySem.W.topStub p)).bind fun az => match PySem.W.staticsOk (importedModules p.main.body) s₀.heap az.heap && PySem.W.namesBound p az.heap && PySem.W.gensDone az && PySem.W.laidKept s₀.heap az.heap with
      | true => some az
      | false => none
  | false => none
theorem HS (p : Program) (w : World) (N : Nat) : PySem.W.openEnds treeTable p w N = oeQ p w N := by
  unfold oeQ
  rw [← PySem.W.Fast.te10274390034422433532, ← PySem.W.Fast.te14364793385576792824, ← PySem.W.Fast.te1435165496053646825, ← PySem.W.Fast.te14289696077712309145, ← PySem.W.Fast.te14082659384304107361]
  rfl
noncomputable def nsQ (q : Program) : List Str := (PySem.W.Fast.tw3399658132070893891 q).map (·.name)
theorem AY (q : Program) : (recsOf q).map (·.name) = nsQ q := by unfold nsQ; rw [← PySem.W.Fast.te3399658132070893891]
noncomputable def c1Q (s : Shared) := PySem.W.Fast.tw5160383126252970620 (nsQ kq) (PySem.W.Fast.tw5991557255702980513 kq) [] { s with gens := #[] }
theorem HU (s : Shared) : seen ((recsOf kq).map (·.name)) (ownsOf kq) [] { s with gens := #[] } = c1Q s := by unfold c1Q; rw [AY, ← PySem.W.Fast.te5160383126252970620, ← PySem.W.Fast.te5991557255702980513]
noncomputable def c2 (s : Shared) := (s.heap.bltView, s.heap.keysOk (PySem.W.looseW kq kL) ((recsOf kq).map (·.name)) ((litsOf kq).map (·.1)) ((clssOf kq (PySem.W.looseW kq kL)).map (·.name)) && s.heap.accountedOkI (importedModules PySem.Challenge.pw_roadcall_k32_lifting_refused.main.body) && s.heap.isNs mainGlobals && s.heap.isNs builtinsNs && tablesOk kq s.heap && (PySem.W.xlAt kq [] s && PySem.W.recOk [] s) && (s.gens.size == 0))
noncomputable def c2Q (s : Shared) := (s.heap.bltView, PySem.W.Fast.tw10880121769531294198 s.heap (PySem.W.Fast.tw821141287760084731 kq kL) (nsQ kq) ((PySem.W.Fast.tw7409074990110511671 kq).map (·.1)) ((PySem.W.Fast.tw13664370479719496447 kq (PySem.W.Fast.tw821141287760084731 kq kL)).map (·.name)) && PySem.W.Fast.tw14722251495701143533 s.heap (importedModules PySem.Challenge.pw_roadcall_k32_lifting_refused.main.body) && s.heap.isNs mainGlobals && s.heap.isNs builtinsNs && PySem.W.Fast.tw10994771534591457954 kq s.heap && (PySem.W.xlAt kq [] s && PySem.W.recOk [] s) && (s.gens.size == 0))
theorem HV (s : Shared) : c2 s = c2Q s := by unfold c2 c2Q; rw [AY, ← PySem.W.Fast.te10880121769531294198, ← PySem.W.Fast.te821141287760084731, ← PySem.W.Fast.te7409074990110511671, ← PySem.W.Fast.te13664370479719496447, ← PySem.W.Fast.te14722251495701143533, ← PySem.W.Fast.te10994771534591457954]
noncomputable def c3 (s : Shared) := tabsOk kq s
noncomputable def c5 (s : Shared) := plainSeenE kq (PySem.W.looseW kq kL) s
noncomputable def c4 (s : Shared) := (PySem.pinSeenD kq (drecsOf kq) s, plainSeenD kq kL s, PySem.W.wideSeen kq s, PySem.W.clsSeenW kq kL s)
noncomputable def c3Q (s : Shared) := PySem.W.Fast.tw479339242167458305 kq s
noncomputable def c5Q (s : Shared) := PySem.W.Fast.tw2386780881361962483 kq (PySem.W.Fast.tw821141287760084731 kq kL) s
noncomputable def c4Q (s : Shared) := (PySem.W.Fast.tw16090120013241838585 kq (PySem.W.Fast.tw3247288618530077131 kq) s, PySem.W.Fast.tw11698064438423848299 kq kL s, PySem.W.Fast.tw7317090234206586261 kq s, PySem.W.Fast.tw7369524293546568484 kq kL s)
theorem HW (s : Shared) : c3 s = c3Q s := by unfold c3 c3Q; rw [← PySem.W.Fast.te479339242167458305]
theorem c5_eq (s : Shared) : c5 s = c5Q s := by unfold c5 c5Q; rw [← PySem.W.Fast.te2386780881361962483, ← PySem.W.Fast.te821141287760084731]
theorem c4_eq (s : Shared) : c4 s = c4Q s := by unfold c4 c4Q; rw [← PySem.W.Fast.te16090120013241838585, ← PySem.W.Fast.te3247288618530077131, ← PySem.W.Fast.te11698064438423848299, ← PySem.W.Fast.te7317090234206586261, ← PySem.W.Fast.te7369524293546568484]
set_option maxHeartbeats 0 in
theorem left0 (w : World) : (oeQ PySem.Challenge.pw_roadcall_k32_lifting_refused w 10030).map (fun s => kH.obs s) = some (kH.val w) := by kernel_rfl
set_option maxHeartbeats 0 in
theorem left1 (w : World) : (oeQ PySem.Challenge.pw_roadcall_k32_lifting_refused w 10030).map c1Q = some (expectedOf kq) := by kernel_rfl
set_option maxHeartbeats 0 in
theorem left2 (w : World) : (oeQ PySem.Challenge.pw_roadcall_k32_lifting_refused w 10030).map c2Q = some (bltViewBooted, true) := by kernel_rfl
set_option maxHeartbeats 0 in
theorem left3 (w : World) : (oeQ PySem.Challenge.pw_roadcall_k32_lifting_refused w 10030).map c3Q = some true := by kernel_rfl
set_option maxHeartbeats 0 in
theorem left5 (w : World) : (oeQ PySem.Challenge.pw_roadcall_k32_lifting_refused w 10030).map c5Q = some (plainGoodE kq (PySem.W.looseW kq kL)) := by kernel_rfl
set_option maxHeartbeats 0 in
theorem left4 (w : World) : (oeQ PySem.Challenge.pw_roadcall_k32_lifting_refused w 10030).map c4Q = some (PySem.pinGoodD (drecsOf kq), plainGoodD kq kL, PySem.W.wideGood kq, PySem.W.clsGoodW kq kL) := by kernel_rfl
theorem left (w : World) : (PySem.W.openEnds treeTable PySem.Challenge.pw_roadcall_k32_lifting_refused w 10030).map (fun s => (PySem.W.openSeen kq kL (importedModules PySem.Challenge.pw_roadcall_k32_lifting_refused.main.body) (fun s => PySem.W.xlAt kq [] s && PySem.W.recOk [] s) true s, kH.obs s)) = some (PySem.W.openGood kq kL, kH.val w) := by
  rw [HS]
  have a0 := left0 w
  have a1 := left1 w
  have a2 := left2 w
  have a3 := left3 w
  have a4 := left4 w
  have a5 := left5 w
  revert a0 a1 a2 a3 a4 a5
  generalize oeQ PySem.Challenge.pw_roadcall_k32_lifting_refused w 10030 = o
  cases o with
  | none => intro a0; cases a0
  | some s =>
    intro a0 a1 a2 a3 a4 a5
    have a0 : kH.obs s = kH.val w := Option.some.inj a0
    have a1 := Option.some.inj a1
    have a2 := Option.some.inj a2
    have a3 := Option.some.inj a3
    have a4 := Option.some.inj a4
    have a5 := Option.some.inj a5
    rw [← HU] at a1
    rw [← HV] at a2
    rw [← HW] at a3
    rw [← c4_eq] at a4
    rw [← c5_eq] at a5
    show some ((seen ((recsOf kq).map (·.name)) (ownsOf kq) [] { s with gens := #[] }, (c2 s).1, (c2 s).2, c3 s, (c4 s).1, c5 s, (c4 s).2), kH.obs s) = _
    rw [a0, a1, a2, a3, a4, a5]
    rfl
end My
namespace L2
open PySem PySem.Spec PyProof.Rows
noncomputable abbrev Key := Sum Int Str
noncomputable def AZ : Key → Value → Bool
  | .inl k, v => Value.isInt k v
  | .inr x, v => Value.isStrOf x v
noncomputable def K5 (w : World) : Key → Int
  | .inl k => hashInt k
  | .inr x => hashStr w x
theorem cc : ∀ {k : Key} {v : Value}, AZ k v = true → (∃ i t, k = Sum.inl i ∧ v = Value.int i t) ∨ (∃ x t, k = Sum.inr x ∧ v = Value.str x t)
  | .inl i, v, h => by
    obtain ⟨t, e⟩ := Value.isInt_shape (k := i) (v := v) h
    exact .inl ⟨i, t, rfl, e⟩
  | .inr x, v, h => by
    obtain ⟨t, e⟩ := Value.isStrOf_shape (x := x) (v := v) h
    exact .inr ⟨x, t, rfl, e⟩
theorem D0 (a b : Int) : decide ((Sum.inl a : Key) = Sum.inl b) = (a == b) := by
  by_cases e : a = b
  · subst e; simp
  · have h : ¬ (Sum.inl a : Key) = Sum.inl b := fun q => e (Sum.inl.inj q)
    rw [decide_eq_false h]
    exact (beq_eq_false_iff_ne.mpr e).symm
theorem D1 (a b : Str) : decide ((Sum.inr a : Key) = Sum.inr b) = decide (a = b) := by
  by_cases e : a = b
  · subst e; simp
  · have h : ¬ (Sum.inr a : Key) = Sum.inr b := fun q => e (Sum.inr.inj q)
    rw [decide_eq_false h, decide_eq_false e]
theorem D2 (a : Int) (b : Str) : decide ((Sum.inl a : Key) = Sum.inr b) = false := decide_eq_false (fun q => nomatch q)
theorem D3 (a : Str) (b : Int) : decide ((Sum.inr a : Key) = Sum.inl b) = false := decide_eq_false (fun q => nomatch q)
noncomputable def nX (prog : Program) (w : World) : PySem.KeyKind prog w Key where
  is := AZ
  hash := K5 w
  inj := fun v a b ha hb => by
    rcases cc ha with ⟨i, t, rfl, rfl⟩ | ⟨x, t, rfl, rfl⟩
    · rcases cc hb with ⟨j, u, rfl, e⟩ | ⟨y, u, rfl, e⟩
      · injection e with e1 _; rw [e1]
      · exact nomatch e
    · rcases cc hb with ⟨j, u, rfl, e⟩ | ⟨y, u, rfl, e⟩
      · exact nomatch e
      · injection e with e1 _; rw [e1]
  byValue := fun k v h => by
    rcases cc h with ⟨i, t, rfl, rfl⟩ | ⟨x, t, rfl, rfl⟩ <;> rfl
  pyHash := fun hv h => by
    rcases cc hv with ⟨i, t, rfl, rfl⟩ | ⟨x, t, rfl, rfl⟩
    · exact wpAny_pyHash_int h
    · exact wpAny_pyHash_str h
  eqBool := fun hu hv h => by
    rcases cc hu with ⟨i, t, rfl, rfl⟩ | ⟨x, t, rfl, rfl⟩
    · rcases cc hv with ⟨j, u, rfl, rfl⟩ | ⟨y, u, rfl, rfl⟩
      · rw [D0] at h; exact wpAny_eqBool_int h
      · rw [D2] at h; exact SeqAt.EqAt.int_str i t y u _ _ _ _ h
    · rcases cc hv with ⟨j, u, rfl, rfl⟩ | ⟨y, u, rfl, rfl⟩
      · rw [D3] at h; exact SeqAt.EqAt.str_int x t j u _ _ _ _ h
      · rw [D1] at h; exact wpAny_eqBool_str h
  «strs» := fun k x t v h => by
    rcases cc h with ⟨i, u, rfl, e⟩ | ⟨y, u, rfl, e⟩
    · exact nomatch e
    · injection e with e1 _
      subst e1
      cases v <;> rfl
inductive V where
  | ao | bl (b : Bool) | int (i : Int) | str (x : Str) | ie (b : Array UInt8) | tG (b : UInt64) | ref (a : Addr) | ty (n : String)
  deriving DecidableEq
noncomputable def RelV : V → Value → Prop
  | .ao, u => u = Value.none
  | .bl b, u => u = Value.bool b
  | .int i, u => ∃ t, u = Value.int i t
  | .str x, u => ∃ t, u = Value.str x t
  | .ie b, u => ∃ t, u = Value.bytes b t
  | .tG b, u => ∃ t, u = Value.float b t
  | .ref a, u => u = Value.ref a
  | .ty n, u => u = Value.type n
noncomputable abbrev Vals : List V → List Value → Prop := Paired RelV
theorem Vals.length {xs : List V} {us : List Value} (r : Vals xs us) : xs.length = us.length := Paired.length r
theorem Vals.get : ∀ {xs : List V} {us : List Value} {i : Nat} {x : V}, Vals xs us → xs[i]? = some x → ∃ u, us[i]? = some u ∧ RelV x u
  | _, _, _, _, .nil, e => by simp at e
  | _, _, 0, _, .cons r _, e => by simp at e; subst e; exact ⟨_, rfl, r⟩
  | _, _, i + 1, x, .cons _ t, e => by
    obtain ⟨u, h1, h2⟩ := Vals.get (i := i) (x := x) t (by simpa using e)
    exact ⟨u, by simpa using h1, h2⟩
theorem Vals.set {x : V} {u : Value} (r : RelV x u) : ∀ {xs : List V} {us : List Value} (i : Nat), Vals xs us → Vals (xs.set i x) (us.set i u)
  | _, _, _, .nil => .nil
  | _, _, 0, .cons _ t => .cons r t
  | _, _, i + 1, .cons q t => .cons q (Vals.set r i t)
theorem Vals.append : ∀ {xs ys : List V} {us ws : List Value}, Vals xs us → Vals ys ws → Vals (xs ++ ys) (us ++ ws)
  | _, _, _, _, .nil, s => s
  | _, _, _, _, .cons r t, s => .cons r (Vals.append t s)
theorem Vals.take : ∀ {xs : List V} {us : List Value} (n : Nat), Vals xs us → Vals (xs.take n) (us.take n)
  | _, _, 0, _ => .nil
  | _, _, _ + 1, .nil => .nil
  | _, _, n + 1, .cons r t => .cons r (Vals.take n t)
theorem Vals.drop : ∀ {xs : List V} {us : List Value} (n : Nat), Vals xs us → Vals (xs.drop n) (us.drop n)
  | _, _, 0, r => r
  | _, _, _ + 1, .nil => .nil
  | _, _, n + 1, .cons _ t => Vals.drop n t
noncomputable def y1 : Option V → Option Value → Prop
  | some v, some u => RelV v u
  | none, none => True
  | _, _ => False
noncomputable def KV {κ : Type} : List (κ × V) → List (κ × Value) → Prop := Paired fun (p : κ × V) (q : κ × Value) => p.1 = q.1 ∧ RelV p.2 q.2
noncomputable def kV : Key → V
  | .inl i => .int i
  | .inr x => .str x
inductive HO where
  | lst (xs : List V)
  | tup (xs : List V)
  | dK (bR : List (Key × V)) | dT (bR : List (List Key × V))
  | set (S : Int → Bool) (n : Nat)
  | ins (C dx : Addr) (fs : List (Str × V))
  | own (x : Addr)
  | xd (fs : List (Str × V))
  | met (f x : Addr)
  | A0 (lo hi : Int)
  | cM (o : Obj) (u : HO)
  | cg (ps : Array Value)
  | lam (ps : Array Value)
  | ext (φ : Heap → Prop)
noncomputable abbrev Hp := Addr → Option HO
noncomputable def upd (H : Hp) (a : Addr) (o : HO) : Hp := fun b => if b = a then some o else H b
theorem aG {H : Hp} {a : Addr} {o : HO} : upd H a o a = some o := by unfold upd; rw [if_pos rfl]
theorem aj {H : Hp} {a b : Addr} {o : HO} (h : b ≠ a) : upd H a o b = H b := by unfold upd; rw [if_neg h]
theorem HX {H : Hp} {a b : Addr} {o u : HO} (h : H a = some o) (h' : H b = some u) (d : o ≠ u) : a ≠ b := by
  intro e; subst e; rw [h] at h'; exact d (Option.some.inj h')
theorem aZ {H : Hp} {a b : Addr} {o : HO} (h : H a = some o) (h' : H b = none) : a ≠ b := by
  intro e; subst e; rw [h] at h'; cases h'
section
variable (P : Program) (w : World)
noncomputable def gO (h : Heap) (a : Addr) (items : Array Value) : Prop := ∃ o, h.get? a = some o ∧ o.cls = .type "tuple" ∧ ∃ n, o.data = .seq items n ∧ o.dict = none
theorem gO.tup {h : Heap} {a : Addr} {items : Array Value} (x : gO h a items) : IsTup h a items := let ⟨o, e, c, n, d, _⟩ := x; ⟨o, e, c, n, d⟩
theorem gO.lt {h : Heap} {a : Addr} {items : Array Value} (x : gO h a items) : a < h.objs.size := x.tup.lt
theorem gO.new (h : Heap) (items : Array Value) : gO (h.push { cls := .type "tuple", data := .seq items }) h.objs.size items := ⟨_, Heap.get?_push_size _ rfl, rfl, _, rfl, rfl⟩
noncomputable def bA (H : Hp) (h : Heap) (a : Addr) : HO → Prop
  | .lst xs => xs.length ≤ sizeLine ∧ ∃ (its : List Value) (n : Nat), Vals xs its ∧ h.get? a = some { cls := .type "list", data := .seq its.toArray n }
  | .tup xs => xs.length ≤ sizeLine ∧ ∃ its : List Value, Vals xs its ∧ gO h a its.toArray
  | .dK bR => bR.length ≤ sizeLine ∧ (a == sysModules) = false ∧ ∃ vs, KV bR vs ∧ h.DictOf (nX P w) a vs
  | .dT bR => bR.length ≤ sizeLine ∧ (a == sysModules) = false ∧ ∃ xs : List (List Key × Addr × Value),
      Paired (fun (p : List Key × V) (q : List Key × Addr × Value) => p.1 = q.1 ∧ H q.2.1 = some (.tup (p.1.map kV)) ∧ RelV p.2 q.2.2) bR xs ∧
      ∃ o es ep, h.get? a = some o ∧ o.ExactDict ∧ o.data = .dict es ep ∧ es.toList = xs.map (entryOfKey (tupleKind (nX P w))) ∧ (xs.map (·.1)).Nodup
  | .set S n => h.SetOf (intKind P w) a S n
  | .ins C dx fs => H dx = some (.own a) ∧ fs.length ≤ 1000 ∧ dx ≠ a ∧ h.get? a = some (PySem.W.instObj C dx) ∧
      ∃ mA, h.Ns1 dx mA ∧ (∀ f, y1 (fs.lookup f) (mA f)) ∧ PySem.Within mA (fs.map (·.1))
  | .own _ => ∃ o, h.get? a = some o
  | .xd fs => ∃ mA, h.Ns1 a mA ∧ ∀ f, y1 (fs.lookup f) (mA f)
  | .A0 lo hi => ∃ t u v, h.get? a = some { cls := .type "range", data := .fields #[.int lo t, .int hi u, .int 1 v] }
  | .cM o u => h.get? a = some o ∧ bA H h a u
  | .cg ps => h.get? a = some { cls := .none, data := .fields ps }
  | .lam ps => h.get? a = some { cls := .none, data := .fields ps }
  | .met f x => h.get? a = some (PySem.W.methodObj (.ref f) (.ref x))
  | .ext φ => φ h ∧ (∃ o, h.get? a = some o) ∧ ∀ h1 h2 : Heap, φ h1 → (∀ o, h1.get? a = some o → h2.get? a = some o) → φ h2
noncomputable def c6 (H : Hp) (h : Heap) : Prop := ∀ a o, H a = some o → bA P w H h a o
end
section
variable {P : Program} {w : World} {H H' : Hp} {h h' : Heap} {a : Addr} {o : HO}
theorem bA.lt (x : bA P w H h a o) : a < h.objs.size := by
  cases o with
  | lst xs => obtain ⟨_, _, _, _, e⟩ := x; exact Heap.lt_size e
  | tup xs => obtain ⟨_, _, _, p⟩ := x; exact p.lt
  | dK bR => obtain ⟨_, _, _, _, o, _, _, e, _⟩ := x; exact Heap.lt_size e
  | dT bR => obtain ⟨_, _, _, _, o, _, _, e, _⟩ := x; exact Heap.lt_size e
  | set S n => obtain ⟨o, _, _, _, e, _⟩ := x; exact Heap.lt_size e
  | ins C dx fs => obtain ⟨_, _, _, e, _⟩ := x; exact Heap.lt_size e
  | own y => obtain ⟨_, e⟩ := x; exact Heap.lt_size e
  | xd fs => obtain ⟨_, ⟨_, _, _, e, _⟩, _⟩ := x; exact Heap.lt_size e
  | A0 lo hi => obtain ⟨_, _, _, e⟩ := x; exact Heap.lt_size e
  | cM ob u => obtain ⟨e, _⟩ := x; exact Heap.lt_size e
  | cg ps => exact Heap.lt_size (show h.get? a = some _ from x)
  | lam ps => exact Heap.lt_size (show h.get? a = some _ from x)
  | met f y => exact Heap.lt_size (show h.get? a = some _ from x)
  | ext φ => obtain ⟨_, ⟨_, e⟩, _⟩ := x; exact Heap.lt_size e
theorem Paired.D4 {α β : Type} {F G : α → β → Prop} : ∀ {D5 : List α} {D6 : List β}, Paired F D5 D6 → (∀ a b, F a b → G a b) → Paired G D5 D6
  | _, _, .nil, _ => .nil
  | _, _, .cons r t, f => .cons (f _ _ r) (Paired.D4 t f)
theorem bA.fY (x : bA P w H h a o) (k : ∀ b u, (b = a ∨ H b = some (.own a)) → h.get? b = some u → h'.get? b = some u)
    (ho : ∀ b, H b = some (.own a) → H' b = some (.own a)) (ht : ∀ b xs, H b = some (.tup xs) → H' b = some (.tup xs)) : bA P w H' h' a o := by
  induction o with
  | lst xs => obtain ⟨z, its, n, r, e⟩ := x; exact ⟨z, its, n, r, k _ _ (.inl rfl) e⟩
  | tup xs => obtain ⟨z, its, r, ob, e, c⟩ := x; exact ⟨z, its, r, ob, k _ _ (.inl rfl) e, c⟩
  | dK bR => obtain ⟨z, y, vs, r, ob, es, ep, e, c⟩ := x; exact ⟨z, y, vs, r, ob, es, ep, k _ _ (.inl rfl) e, c⟩
  | dT bR =>
    obtain ⟨z, y, xs, r, ob, es, ep, e, c⟩ := x
    exact ⟨z, y, xs, Paired.D4 r fun p q z => ⟨z.1, ht _ _ z.2.1, z.2.2⟩, ob, es, ep, k _ _ (.inl rfl) e, c⟩
  | set S n => obtain ⟨ob, es, ep, t, e, c⟩ := x; exact ⟨ob, es, ep, t, k _ _ (.inl rfl) e, c⟩
  | ins C dx fs =>
    obtain ⟨d, z, ne, e, mA, ⟨od, es, ep, e2, c⟩, r⟩ := x
    exact ⟨ho _ d, z, ne, k _ _ (.inl rfl) e, mA, ⟨od, es, ep, k _ _ (.inr d) e2, c⟩, r⟩
  | own y => obtain ⟨ob, e⟩ := x; exact ⟨ob, k _ _ (.inl rfl) e⟩
  | xd fs => obtain ⟨mA, ⟨od, es, ep, e, c⟩, r⟩ := x; exact ⟨mA, ⟨od, es, ep, k _ _ (.inl rfl) e, c⟩, r⟩
  | A0 lo hi => obtain ⟨t, u, v, e⟩ := x; exact ⟨t, u, v, k _ _ (.inl rfl) e⟩
  | cM ob u ih => obtain ⟨e, q⟩ := x; exact ⟨k _ _ (.inl rfl) e, ih q⟩
  | cg ps =>
    have e : h.get? a = some { cls := .none, data := .fields ps } := x
    show h'.get? a = some { cls := .none, data := .fields ps }
    exact k a _ (.inl rfl) e
  | lam ps =>
    have e : h.get? a = some { cls := .none, data := .fields ps } := x
    show h'.get? a = some { cls := .none, data := .fields ps }
    exact k a _ (.inl rfl) e
  | met f y =>
    have e : h.get? a = some (PySem.W.methodObj (.ref f) (.ref y)) := x
    show h'.get? a = some (PySem.W.methodObj (.ref f) (.ref y))
    exact k a _ (.inl rfl) e
  | ext φ => obtain ⟨p, ⟨o, e⟩, st⟩ := x; exact ⟨st _ _ p fun o q => k _ _ (.inl rfl) q, ⟨o, k _ _ (.inl rfl) e⟩, st⟩
theorem c6.lt (x : c6 P w H h) (e : H a = some o) : a < h.objs.size := (x a o e).lt
theorem c6.fresh (x : c6 P w H h) (e : h.objs.size ≤ a) : H a = none := by
  cases q : H a with
  | none => rfl
  | some u => exact absurd (Nat.lt_of_lt_of_le (x.lt q) e) (Nat.lt_irrefl _)
theorem c6.kept (x : c6 P w H h) (k : ∀ b u, h.get? b = some u → h'.get? b = some u) : c6 P w H h' := fun a o e =>
  (x a o e).fY (fun b u _ q => k b u q) (fun _ q => q) fun _ _ q => q
theorem c6.laid (x : c6 P w H h) (k : ∀ b u, h.get? b = some u → h'.get? b = some u) (hp : h.objs.size ≤ a) (new : bA P w (upd H a o) h' a o) : c6 P w (upd H a o) h' := fun b u e => by
  have hn := x.fresh hp
  by_cases hb : b = a
  · subst hb; rw [aG] at e; cases e; exact new
  · rw [aj hb] at e
    exact (x b u e).fY (fun c v _ q => k c v q) (fun c q => by rw [aj (aZ q hn)]; exact q) fun c xs q => by rw [aj (aZ q hn)]; exact q
end
noncomputable def Rd (H : Hp) (a : Addr) (u : HO) : Prop := H a = some u ∨ ∃ o, H a = some (.cM o u)
theorem Rd.ok {P : Program} {w : World} {H : Hp} {h : Heap} {a : Addr} {u : HO} (r : Rd H a u) (x : c6 P w H h) : bA P w H h a u := by
  rcases r with r | ⟨o, r⟩
  · exact x a u r
  · obtain ⟨_, q⟩ := x a _ r
    exact q
noncomputable def A1 : Option HO → Prop
  | some (.lst _) => True
  | some (.dK _) => True
  | some (.dT _) => True
  | some (.set _ _) => True
  | some (.ins _ _ _) => True
  | some (.ext _) => True
  | some (.lam _) => True
  | _ => False
section
variable {P : Program} {w : World} {H : Hp} {h h' : Heap} {x e : Addr} {o' : HO}
theorem c6.write (ok : c6 P w H h) (mu : A1 (H x)) (he : e = x ∨ H e = some (.own x)) (k : ∀ b u, b ≠ e → h.get? b = some u → h'.get? b = some u) (tH : ∃ u, h'.get? e = some u)
    (new : bA P w (upd H x o') h' x o') : c6 P w (upd H x o') h' := fun b u q => by
  have D7 : ∀ c y, H c = some (.own y) → c ≠ x := fun c y r z => by subst z; rw [r] at mu; exact mu
  have K6 : ∀ c xs, H c = some (.tup xs) → c ≠ x := fun c xs r z => by subst z; rw [r] at mu; exact mu
  by_cases hb : b = x
  · subst hb; rw [aG] at q; cases q; exact new
  · rw [aj hb] at q
    by_cases qA : b = e
    · have q' : H b = some (.own x) := by
        rcases he with z | z
        · exact absurd (qA.trans z) hb
        · rw [qA]; exact z
      rw [q] at q'; cases q'
      obtain ⟨v, hv⟩ := tH
      exact ⟨v, by rw [qA]; exact hv⟩
    · refine (ok b u q).fY (fun c v hc r => k c v ?_ r) (fun c r => by rw [aj (D7 c b r)]; exact r) fun c xs r => by rw [aj (K6 c xs r)]; exact r
      rcases hc with rfl | hc
      · exact qA
      · rintro rfl
        rcases he with z | z
        · exact D7 c b hc z
        · rw [hc] at z; cases z; exact hb rfl
end
structure Un (fs ex : List Addr) (H H' : Hp) (h h' : Heap) : Prop where
  keep : ∀ b o, h.get? b = some o → H b = none → b ∉ fs → b ∉ ex → h'.get? b = some o
  slot : ∀ b o, h.get? b = some o → H b = none → b ∈ fs → b ∉ ex → ∃ sl, h'.get? b = some { o with slots := sl }
  free : ∀ b o, h.get? b = some o → H b = none → b ∉ ex → H' b = none
  there : ∀ b o, h.get? b = some o → b ∉ ex → ∃ o', h'.get? b = some o'
  tups : ∀ b xs, H b = some (.tup xs) → H' b = some (.tup xs)
  frzs : ∀ b o u, H b = some (.cM o u) → H' b = some (.cM o u)
  tbls : ∀ b ps, H b = some (.cg ps) → ∃ more, H' b = some (.cg (ps ++ more))
section
variable {fs MU ex Pr : List Addr} {H H1 H2 : Hp} {h h1 h2 h' : Heap} {a x e : Addr} {o : HO}
theorem Un.any (u : Un fs ex H H1 h h1) {b : Addr} {ob : Obj} (q : h.get? b = some ob) (n : H b = none) (hx : b ∉ ex) : ∃ sl, h1.get? b = some { ob with slots := sl } := by
  by_cases hb : b ∈ fs
  · exact u.slot b ob q n hb hx
  · exact ⟨ob.slots, u.keep b ob q n hb hx⟩
theorem Un.kept (k : ∀ b u, h.get? b = some u → h'.get? b = some u) : Un fs ex H H h h' :=
  ⟨fun b ob q _ _ _ => k b ob q, fun b ob q _ _ _ => ⟨ob.slots, k b ob q⟩, fun _ _ _ n _ => n, fun b ob q _ => ⟨ob, k b ob q⟩, fun _ _ q => q, fun _ _ _ q => q, fun _ ps q => ⟨#[], by rw [q]; simp⟩⟩
theorem Un.refl : Un fs ex H H h h := Un.kept fun _ _ q => q
theorem Un.laid (k : ∀ b u, h.get? b = some u → h'.get? b = some u) (hp : h.objs.size ≤ a) (hn : H a = none) : Un fs ex H (upd H a o) h h' where
  keep := fun b u q _ _ _ => k b u q
  slot := fun b u q _ _ _ => ⟨u.slots, k b u q⟩
  free := fun b u q n _ => by rw [aj (Nat.ne_of_lt (Nat.lt_of_lt_of_le (Heap.lt_size q) hp))]; exact n
  there := fun b u q _ => ⟨u, k b u q⟩
  tups := fun b xs q => by rw [aj (aZ q hn)]; exact q
  frzs := fun b u xs q => by rw [aj (aZ q hn)]; exact q
  tbls := fun b ps q => ⟨#[], by rw [aj (aZ q hn), q]; simp⟩
theorem Un.write (mu : A1 (H x)) (he : e = x ∨ H e = some (.own x)) (k : ∀ b u, b ≠ e → h.get? b = some u → h'.get? b = some u) (tH : ∃ u, h'.get? e = some u) : Un fs ex H (upd H x o) h h' := by
  have hx : ∀ b, H b = none → b ≠ x := fun b n z => by subst z; rw [n] at mu; exact mu
  have hb : ∀ b, H b = none → b ≠ e := fun b n z => by
    subst z
    rcases he with r | r
    · exact hx b n r
    · rw [n] at r; cases r
  have hm : ∀ b u, H b = some u → ¬ A1 (some u) → b ≠ x := fun b u q nm z => by subst z; rw [q] at mu; exact nm mu
  refine ⟨fun b u q n _ _ => k b u (hb b n) q, fun b u q n _ _ => ⟨u.slots, k b u (hb b n) q⟩, fun b u q n _ => by rw [aj (hx b n)]; exact n, fun b u q _ => ?_,
    fun b xs q => by rw [aj (hm b _ q fun z => z)]; exact q, fun b u xs q => by rw [aj (hm b _ q fun z => z)]; exact q, fun b ps q => ⟨#[], by rw [aj (hm b _ q fun z => z), q]; simp⟩⟩
  by_cases qA : b = e
  · subst qA; exact tH
  · exact ⟨u, k b u qA q⟩
end
noncomputable def A6 (h : Heap) (H : Hp) : List Addr := (List.range h.objs.size).filter fun a => (H a).isSome
noncomputable def ig (h : Heap) (H : Hp) : Heap := PySem.W.hideAll h (A6 h H)
theorem vT (h : Heap) (H : Hp) : (ig h H).objs.size = h.objs.size := PySem.W.hideAll_size _ _
theorem y2 {h : Heap} {H : Hp} {b : Addr} {o : Obj} (e : h.get? b = some o) (n : H b = none) : (ig h H).get? b = some o :=
  PySem.W.hideAll_get _ e fun hm => by
    have q : (H b).isSome = true := (List.mem_filter.mp hm).2
    rw [n] at q; simp at q
theorem BX {h : Heap} {H : Hp} {b : Addr} {o : Obj} (e : (ig h H).get? b = some o) : h.get? b = some o ∧ H b = none := by
  have e' : h.get? b = some o := PySem.W.of_hideAll (A6 h H) e
  refine ⟨e', ?_⟩
  cases q : H b with
  | none => rfl
  | some x =>
    have hm : b ∈ A6 h H := List.mem_filter.mpr ⟨List.mem_range.mpr (Heap.lt_size e'), by simp [q]⟩
    have z : (ig h H).get? b = none := PySem.W.hideAll_none (A6 h H) hm
    rw [z] at e; cases e
noncomputable def BZ (g h : Heap) (L : Addr) : List (Addr × Obj) := (List.range h.objs.size).filterMap fun a => if a = L ∨ (g.get? a).isSome = true then none else (h.get? a).map fun o => (a, o)
noncomputable def rest (g h : Heap) (L d : Addr) : List (Addr × Obj) := (BZ g h L).filter fun p => decide (p.1 ≠ d)
structure Mod (K : PySem.W.Frag) (mg : Str → Option Value) (base : Heap) : Prop where
  kin : K.In base
  glob : base.Ns mainGlobals mg
  blt : ∃ mb, base.Ns builtinsNs mb ∧ ∀ x : Str, x ≠ "__name__" → mb x = bootBuiltins x
  nolimit : base.NoLimit
structure Cx where
  prog : Program
  w : World
  K : PySem.W.Frag
  mg : Str → Option Value
  base : Heap
  A : Around
  N : List Str
  s₀ : Shared
  H₀ : Hp
  env : Env
  outer : List Env
  stack : List Env
  ex : List Addr
  fn : Str → Bool
  calm : Bool
  pn : List (Addr × Obj)
  xe : Value → Shared → Prop
noncomputable def dz (l : List Env) : List Addr := l.filterMap (·.frame)
noncomputable abbrev Cx.fs (X : Cx) : List Addr := dz X.outer
noncomputable def mR (sc : Scope) (x : Str) : Prop := sc.names.lookup x = some .local ∨ sc.names.lookup x = some .cell ∨ sc.names.lookup x = some .free
noncomputable def Loc (sc : Scope) (x : Str) : Prop := sc.names.lookup x = some .local ∨ sc.names.lookup x = some .cell
noncomputable def Look (env : Env) (h : Heap) (m : Str → Option Value) (x : Str) (u : Value) : Prop :=
  (env.kindOf x = some .local ∧ m x = some u) ∨ ((env.kindOf x = some .cell ∨ env.kindOf x = some .free) ∧ ∃ c, env.cells.lookup x = some c ∧ h.IsCell c (some u))
structure Cx.Ok (X : Cx) : Prop where
  mod : Mod X.K X.mg X.base
  kind : X.env.scope.kind = .function
  glob : X.env.globals = mainGlobals
  blt : X.env.builtins = builtinsNs
  above : X.s₀.heap.objs.size ≤ X.env.locals
  inj : ∀ x y c, X.env.cells.lookup x = some c → X.env.cells.lookup y = some c → x = y
  has : ∀ x, (X.env.kindOf x = some .cell ∨ X.env.kindOf x = some .free) → ∃ c, X.env.cells.lookup x = some c
  cab : ∀ x c, X.fn x = true → X.env.cells.lookup x = some c → X.s₀.heap.objs.size ≤ c
  hd : X.calm = true → X.A.handled = none
  frames : X.A.frames = some X.stack
  stk : X.stack = X.outer ∨ (X.stack = X.env :: X.outer ∧ X.env.frame = some X.env.locals)
  exf : ∀ b ∈ X.ex, b ≠ X.env.locals ∧ ∀ x c, X.env.cells.lookup x = some c → c ≠ b
  bs : ∀ b o, X.base.get? b = some o → X.s₀.heap.get? b = some o ∧ X.H₀ b = none
  bsz : X.base.objs.size ≤ X.s₀.heap.objs.size
  noex : ∀ b o, X.base.get? b = some o → b ∉ X.ex
  exfs : ∀ b ∈ X.ex, b ∉ X.fs
  funs : X.s₀.heap.FunFrames X.base X.outer
  frf : ∀ b ∈ X.fs, X.H₀ b = none
noncomputable def Gn (n : Nat) (g : Array GenState) : Prop := AllBare g ∧ n ≤ g.size
theorem Gn.self {n : Nat} {g : Array GenState} (x : Gn n g) : Gn g.size g := ⟨x.1, Nat.le_refl _⟩
theorem Gn.trans {n : Nat} {g g' : Array GenState} (x : Gn n g) (y : Gn g.size g') : Gn n g' := ⟨y.1, Nat.le_trans x.2 y.2⟩
structure Inv (X : Cx) (pins : List (Addr × Obj)) (σ : List (Option V)) (H : Hp) (s : Shared) : Prop where
  ok : X.Ok
  os : s.os = X.s₀.os
  bare : Gn X.s₀.gens.size s.gens
  base : Un X.fs X.ex X.H₀ H X.s₀.heap s.heap
  loc : ∃ m, s.heap.Ns X.env.locals m ∧ ∀ (i : Nat) (x : Str) (v : V), X.N[i]? = some x → σ[i]? = some (some v) → mR X.env.scope x → ∃ u, RelV v u ∧ Look X.env s.heap m x u
  cell : ∀ x c, X.env.cells.lookup x = some c → ∃ v, s.heap.IsCell c v
  free : H X.env.locals = none
  freeC : ∀ x c, X.env.cells.lookup x = some c → H c = none
  pin : ∀ p ∈ X.pn ++ pins, s.heap.get? p.1 = some p.2 ∧ H p.1 = none ∧ p.1 ≠ X.env.locals ∧ p.1 ∉ X.fs ∧ ∀ v, p.2.data ≠ .cell v
  hok : c6 X.prog X.w H s.heap
  len : σ.length = X.N.length
section
variable {X : Cx} {pins : List (Addr × Obj)} {σ : List (Option V)} {H H' : Hp} {s : Shared} {h' : Heap}
theorem Cx.Ok.K7 (ok : X.Ok) {b : Addr} {o : Obj} (e : X.base.get? b = some o) : b ∉ X.fs := fun hb => by
  have := (ok.funs.mem hb).1
  rw [e] at this; cases this
theorem Inv.bs (I : Inv X pins σ H s) : ∀ b o, X.base.get? b = some o → s.heap.get? b = some o ∧ H b = none := fun b o e =>
  ⟨I.base.keep b o (I.ok.bs b o e).1 (I.ok.bs b o e).2 (I.ok.K7 e) (I.ok.noex b o e), I.base.free b o (I.ok.bs b o e).1 (I.ok.bs b o e).2 (I.ok.noex b o e)⟩
theorem Inv.bk (I : Inv X pins σ H s) : ∀ b o, X.base.get? b = some o → s.heap.get? b = some o := fun b o e => (I.bs b o e).1
theorem Inv.mod (I : Inv X pins σ H s) : Mod X.K X.mg X.base := I.ok.mod
theorem Inv.d7 (I : Inv X pins σ H s) : X.K.In s.heap := I.ok.mod.kin.keeps I.bk
theorem Inv.nolimit (I : Inv X pins σ H s) : s.heap.NoLimit := I.ok.mod.nolimit.keeps I.bk
theorem Inv.lt (I : Inv X pins σ H s) : X.env.locals < s.heap.objs.size := let ⟨_, hn, _⟩ := I.loc; hn.lt
theorem Inv.sz (I : Inv X pins σ H s) : X.s₀.heap.objs.size ≤ s.heap.objs.size := Nat.le_trans I.ok.above (Nat.le_of_lt I.lt)
theorem Inv.D8 (I : Inv X pins σ H s) {a : Addr} (h : s.heap.objs.size ≤ a) : a ∉ X.fs := fun hb => by
  obtain ⟨_, o, ho, _⟩ := I.ok.funs.mem hb
  exact absurd (Nat.lt_of_lt_of_le (Heap.lt_size ho) (Nat.le_trans I.sz h)) (Nat.lt_irrefl _)
theorem Inv.mS (I : Inv X pins σ H s) : ∀ x c, X.env.cells.lookup x = some c → c ≠ X.env.locals := fun x c e z => by
  obtain ⟨v, o, ho, hd⟩ := I.cell x c e
  obtain ⟨m, ⟨o', es, ep, ik, A7, _⟩, _⟩ := I.loc
  rw [z, ik] at ho; cases ho; rw [A7] at hd; cases hd
theorem Inv.funs (I : Inv X pins σ H s) : s.heap.FunFrames X.base X.outer := by
  have all : ∀ (l : List Env), (∀ b ∈ dz l, b ∈ X.fs) → X.s₀.heap.FunFrames X.base l → s.heap.FunFrames X.base l := by
    intro l
    induction l with
    | nil => intro _ _; trivial
    | cons env r ih =>
      intro hs hl
      obtain ⟨hk, ⟨L, o, hf, hn, ho, hd⟩, hr⟩ := hl
      have hL : L ∈ X.fs := hs L (by unfold dz; rw [List.filterMap_cons, hf]; exact List.mem_cons_self)
      obtain ⟨sl, e⟩ := I.base.slot L o ho (I.ok.frf L hL) hL fun z => I.ok.exfs L z hL
      exact ⟨hk, ⟨L, _, hf, hn, e, hd⟩, ih (fun b hb => hs b (by unfold dz; rw [List.filterMap_cons, hf]; exact List.mem_cons_of_mem _ hb)) hr⟩
  exact all X.outer (fun _ hb => hb) I.ok.funs
theorem Inv.stack (I : Inv X pins σ H s) : s.heap.FunFrames X.base X.stack := by
  rcases I.ok.stk with e | ⟨e, hf⟩
  · rw [e]; exact I.funs
  · rw [e]
    obtain ⟨m, hn, _⟩ := I.loc
    refine .cons (by rw [I.ok.kind]; decide) hf hn ?_ I.funs
    exact Heap.get?_none_of_le (Nat.le_trans I.ok.bsz I.ok.above)
theorem Inv.fi (I : Inv X pins σ H s) : ∀ b ∈ dz X.stack, b ∈ X.env.locals :: X.fs := fun b hb => by
  rcases I.ok.stk with e | ⟨e, hf⟩
  · rw [e] at hb; exact List.mem_cons_of_mem _ hb
  · rw [e] at hb
    unfold dz at hb
    rw [List.filterMap_cons, hf] at hb
    exact hb
theorem Inv.jt (I : Inv X pins σ H s) : ∀ b ∈ dz X.stack, H b = none := fun b hb => by
  rcases List.mem_cons.mp (I.fi b hb) with e | hb
  · rw [e]; exact I.free
  · obtain ⟨_, o, ho, _⟩ := I.ok.funs.mem hb
    exact I.base.free b o ho (I.ok.frf b hb) fun z => I.ok.exfs b z hb
theorem Inv.step {g' : Array GenState} {t' : Nat} {d' : Drawn} {ch : List Addr} (I : Inv X pins σ H s)
    (lP : ∀ b ∈ ch, (b ∈ X.ex ∨ X.s₀.heap.objs.size ≤ b) ∧ b ≠ X.env.locals ∧ (∀ x c, X.env.cells.lookup x = some c → c ≠ b) ∧ ∀ p ∈ X.pn ++ pins, p.1 ≠ b)
    (keep : ∀ b o, b ≠ X.env.locals → b ∉ X.fs → b ∉ ch → s.heap.get? b = some o → H b = none → h'.get? b = some o)
    (slot : ∀ b o, b ≠ X.env.locals → b ∈ X.fs → b ∉ ch → s.heap.get? b = some o → H b = none → ∃ sl, h'.get? b = some { o with slots := sl }) (free : ∀ b o, b ∉ ch → s.heap.get? b = some o → H b = none → H' b = none)
    (there : ∀ b o, b ∉ ch → s.heap.get? b = some o → ∃ o', h'.get? b = some o')
    (tups : ∀ b xs, H b = some (.tup xs) → H' b = some (.tup xs)) (frzs : ∀ b o u, H b = some (.cM o u) → H' b = some (.cM o u)) (tbls : ∀ b ps, H b = some (.cg ps) → ∃ more, H' b = some (.cg (ps ++ more)))
    (ns : ∀ m, s.heap.Ns X.env.locals m → h'.Ns X.env.locals m) (hok : c6 X.prog X.w H' h') (hg : Gn s.gens.size g') :
    Inv X pins σ H' { s with heap := h', gens := g', drawn := d', toks := t' } := by
  have JT : ∀ b o, X.s₀.heap.get? b = some o → b ≠ X.env.locals := fun b o e => Nat.ne_of_lt (Nat.lt_of_lt_of_le (Heap.lt_size e) I.ok.above)
  have A8 : ∀ b o, X.s₀.heap.get? b = some o → b ∉ X.ex → b ∉ ch := fun b o e hx hb => by
    rcases (lP b hb).1 with z | z
    · exact hx z
    · exact absurd (Nat.lt_of_lt_of_le (Heap.lt_size e) z) (Nat.lt_irrefl _)
  have cellK : ∀ x c, X.env.cells.lookup x = some c → ∀ v, s.heap.IsCell c v → h'.IsCell c v := fun x c e v ⟨o, ho, hd⟩ => by
    have vU : c ∉ ch := fun z => (lP c z).2.2.1 x c e rfl
    by_cases hc : c ∈ X.fs
    · obtain ⟨sl, q⟩ := slot c o (I.mS x c e) hc vU ho (I.freeC x c e)
      exact ⟨_, q, hd⟩
    · exact ⟨o, keep c o (I.mS x c e) hc vU ho (I.freeC x c e), hd⟩
  refine ⟨I.ok, I.os, I.bare.trans hg, ⟨fun b o e n hb hx => ?_, fun b o e n hb hx => ?_, fun b o e n hx => ?_, fun b o e hx => ?_, fun b xs e => tups b xs (I.base.tups b xs e), fun b o xs e => frzs b o xs (I.base.frzs b o xs e), fun b ps e => ?_⟩, ?_, fun x c e => ?_, ?_, fun x c e => ?_, fun p hp => ?_, hok, I.len⟩
  · exact keep b o (JT b o e) hb (A8 b o e hx) (I.base.keep b o e n hb hx) (I.base.free b o e n hx)
  · obtain ⟨sl, e1⟩ := I.base.slot b o e n hb hx
    obtain ⟨JU, e2⟩ := slot b _ (JT b o e) hb (A8 b o e hx) e1 (I.base.free b o e n hx)
    exact ⟨JU, e2⟩
  · obtain ⟨o', e1⟩ := I.base.there b o e hx
    exact free b o' (A8 b o e hx) e1 (I.base.free b o e n hx)
  · obtain ⟨o', e1⟩ := I.base.there b o e hx
    exact there b o' (A8 b o e hx) e1
  · obtain ⟨m1, e1⟩ := I.base.tbls b ps e
    obtain ⟨m2, e2⟩ := tbls b _ e1
    exact ⟨m1 ++ m2, by rw [e2, Array.append_assoc]⟩
  · obtain ⟨m, hn, hl⟩ := I.loc
    refine ⟨m, ns m hn, fun i x v e1 e2 e3 => ?_⟩
    obtain ⟨u, r, l⟩ := hl i x v e1 e2 e3
    refine ⟨u, r, ?_⟩
    rcases l with l | ⟨k, c, e, z⟩
    · exact .inl l
    · exact .inr ⟨k, c, e, cellK x c e _ z⟩
  · obtain ⟨v, z⟩ := I.cell x c e
    exact ⟨v, cellK x c e v z⟩
  · obtain ⟨m, ⟨o, _, _, ho, _⟩, _⟩ := I.loc
    exact free _ o (fun z => (lP _ z).2.1 rfl) ho I.free
  · obtain ⟨v, o, ho, hd⟩ := I.cell x c e
    exact free c o (fun z => (lP c z).2.2.1 x c e rfl) ho (I.freeC x c e)
  · obtain ⟨e, n, ne, nf, d⟩ := I.pin p hp
    have vU : p.1 ∉ ch := fun z => (lP p.1 z).2.2.2 p hp rfl
    exact ⟨keep p.1 p.2 ne nf vU e n, free p.1 p.2 vU e n, ne, nf, d⟩
theorem Inv.un {t' : Nat} (I : Inv X pins σ H s) (u : Un X.fs [] H H' s.heap h') (hok : c6 X.prog X.w H' h') : Inv X pins σ H' { s with heap := h', toks := t' } := by
  obtain ⟨m, ⟨o, es, ep, ho, r⟩, _⟩ := id I.loc
  obtain ⟨sl, hL⟩ := u.any ho I.free (by simp)
  exact I.step (g' := s.gens) (d' := s.drawn) (ch := []) (fun _ z => nomatch z) (fun b o _ hb _ e n => u.keep b o e n hb (by simp)) (fun b o _ hb _ e n => u.slot b o e n hb (by simp)) (fun b o _ e n => u.free b o e n (by simp)) (fun b o _ e => u.there b o e (by simp)) u.tups u.frzs u.tbls (fun m' hm => by
    obtain ⟨o', D9, Ea, ik, r'⟩ := hm
    rw [ho] at ik; cases ik
    exact ⟨_, D9, Ea, hL, r'⟩) hok I.bare.self
theorem Inv.call {g' : Array GenState} {t' : Nat} {d' : Drawn} {ch : List Addr} (I : Inv X pins σ H s) (u : Un (dz X.stack) ch H H' s.heap h') (hok : c6 X.prog X.w H' h') (hg : Gn s.gens.size g')
    (lP : ∀ b ∈ ch, (b ∈ X.ex ∨ X.s₀.heap.objs.size ≤ b) ∧ b ≠ X.env.locals ∧ (∀ x c, X.env.cells.lookup x = some c → c ≠ b) ∧ ∀ p ∈ X.pn ++ pins, p.1 ≠ b) :
    Inv X pins σ H' { s with heap := h', gens := g', drawn := d', toks := t' } := by
  obtain ⟨m, ⟨o, es, ep, ho, r⟩, _⟩ := id I.loc
  obtain ⟨sl, hL⟩ := u.any ho I.free fun z => (lP _ z).2.1 rfl
  exact I.step (ch := ch) lP (fun b o hL hb hc e n => u.keep b o e n (fun z => (List.mem_cons.mp (I.fi b z)).elim hL hb) hc) (fun b o _ _ hc e n => u.any e n hc) (fun b o hc e n => u.free b o e n hc) (fun b o hc e => u.there b o e hc) u.tups u.frzs u.tbls (fun m' hm => by
    obtain ⟨o', D9, Ea, ik, r'⟩ := hm
    rw [ho] at ik; cases ik
    exact ⟨_, D9, Ea, hL, r'⟩) hok hg
theorem Inv.turned {t' : Nat} {it : Addr} (I : Inv X pins σ H s) (k : ∀ b o, b ≠ it → s.heap.get? b = some o → h'.get? b = some o) (hn : H it = none) (hL : it ≠ X.env.locals)
    (h1 : it ∈ X.ex ∨ X.s₀.heap.objs.size ≤ it) (h2 : ∀ x c, X.env.cells.lookup x = some c → c ≠ it) (h3 : ∀ p ∈ X.pn ++ pins, p.1 ≠ it) : Inv X pins σ H { s with heap := h', toks := t' } := by
  have vV : ∀ b u, H b = some u → b ≠ it := fun b u e z => by rw [z, hn] at e; cases e
  refine I.step (g' := s.gens) (d' := s.drawn) (ch := [it]) (fun b hb => ?_) (fun b o _ _ hc e _ => k b o (fun z => hc (by simp [z])) e) (fun b o _ _ hc e _ => ⟨o.slots, k b o (fun z => hc (by simp [z])) e⟩) (fun _ _ _ _ n => n)
    (fun b o hc e => ⟨o, k b o (fun z => hc (by simp [z])) e⟩) (fun _ _ e => e) (fun _ _ _ e => e) (fun b ps e => ⟨#[], by rw [e]; simp⟩) (fun m hm => ?_) (fun b u e => ?_) I.bare.self
  · have e : b = it := by simpa using hb
    subst e
    exact ⟨h1, hL, h2, h3⟩
  · obtain ⟨o, es, ep, ho, r⟩ := hm
    exact ⟨o, es, ep, k _ o (Ne.symm hL) ho, r⟩
  · refine (I.hok b u e).fY (fun c v hc q => k c v ?_ q) (fun _ q => q) fun _ _ q => q
    rcases hc with z | z
    · rw [z]; exact vV b u e
    · exact vV c _ z
theorem Inv.tok (I : Inv X pins σ H s) (t : Nat) : Inv X pins σ H { s with toks := t } := I.un (h' := s.heap) (t' := t) Un.refl I.hok
theorem Inv.kept {t' : Nat} (I : Inv X pins σ H s) (k : ∀ b u, s.heap.get? b = some u → h'.get? b = some u) : Inv X pins σ H { s with heap := h', toks := t' } := I.un (Un.kept k) (I.hok.kept k)
theorem Inv.laid {a : Addr} {o : HO} {t' : Nat} (I : Inv X pins σ H s) (k : ∀ b u, s.heap.get? b = some u → h'.get? b = some u) (hp : s.heap.objs.size ≤ a) (new : bA X.prog X.w (upd H a o) h' a o) :
    Inv X pins σ (upd H a o) { s with heap := h', toks := t' } := I.un (Un.laid k hp (I.hok.fresh hp)) (I.hok.laid k hp new)
theorem Inv.write {x e : Addr} {o : HO} {t' : Nat} (I : Inv X pins σ H s) (mu : A1 (H x)) (he : e = x ∨ H e = some (.own x)) (k : ∀ b u, b ≠ e → s.heap.get? b = some u → h'.get? b = some u) (tH : ∃ u, h'.get? e = some u)
    (new : bA X.prog X.w (upd H x o) h' x o) : Inv X pins σ (upd H x o) { s with heap := h', toks := t' } := I.un (Un.write mu he k tH) (I.hok.write mu he k tH new)
theorem Inv.nY {pins' : List (Addr × Obj)} (I : Inv X pins σ H s) (h : ∀ p ∈ pins', s.heap.get? p.1 = some p.2 ∧ H p.1 = none ∧ p.1 ≠ X.env.locals ∧ p.1 ∉ X.fs ∧ ∀ v, p.2.data ≠ .cell v) : Inv X pins' σ H s :=
  ⟨I.ok, I.os, I.bare, I.base, I.loc, I.cell, I.free, I.freeC, fun p hp => (List.mem_append.mp hp).elim (fun z => I.pin p (List.mem_append_left _ z)) (h p), I.hok, I.len⟩
theorem qB {N : List Str} (hN : N.Nodup) {i j : Nat} {x : Str} (a : N[i]? = some x) (b : N[j]? = some x) : i = j := by
  obtain ⟨h1, e1⟩ := List.getElem?_eq_some_iff.mp a
  obtain ⟨h2, e2⟩ := List.getElem?_eq_some_iff.mp b
  exact (List.getElem_inj hN).mp (e1.trans e2.symm)
theorem store_ok2 {M : Model} {A : Around} {E : Value → Shared → Prop} {i : Nat} {x : Str} {v : V} {u : Value} {Q : Unit → Shared → Prop} (I : Inv X pins σ H s) (hN : X.N.Nodup) (hi : X.N[i]? = some x) (hx : Loc X.env.scope x) (r : RelV v u)
    (h : ∀ s', Inv X pins (σ.set i (some v)) H s' → (∃ a, Heap.SameBut a s.heap s'.heap ∧ (a = X.env.locals ∨ X.env.cells.lookup x = some a)) → Q () s') (hf : X.fn x = true ∨ X.env.scope.names.lookup x = some .local := by first | exact .inl rfl | exact .inr rfl | assumption) : wpAny M A (storeName X.env x u) Q E s := by
  obtain ⟨m, hn, hl⟩ := id I.loc
  have K8 : (X.env.scope.kind == .class || (X.env.scope.kind == .module && X.env.locals != X.env.globals)) = false := by rw [I.ok.kind]; rfl
  have Eb : i < σ.length := by rw [I.len]; exact (List.getElem?_eq_some_iff.mp hi).1
  have mS := I.mS
  have tracked : ∀ {a : Addr} {h' : Heap}, (∃ o, s.heap.get? a = some o ∧ H a = none) → Heap.SameBut a s.heap h' → c6 X.prog X.w H h' := fun {a h'} ha hs b ob e => by
    obtain ⟨_, _, lu⟩ := ha
    refine (I.hok b ob e).fY (fun c w' hc q => (hs.2 c ?_).trans q) (fun _ q => q) fun _ _ q => q
    rintro rfl
    rcases hc with rfl | hc
    · rw [lu] at e; cases e
    · rw [lu] at hc; cases hc
  rcases hx with hk | hk
  · refine wpAny_storeName_local hk hn (fun h' vW hs => ?_) K8
    obtain ⟨oL, _, _, MV, _⟩ := id hn
    refine h _ ⟨I.ok, I.os, I.bare, ⟨fun b o e n hb hx => ?_, fun b o e n hb hx => ?_, I.base.free, fun b o e hx => ?_, I.base.tups, I.base.frzs, I.base.tbls⟩, ⟨_, vW, fun j y v' e1 e2 e3 => ?_⟩, fun y c e => ?_, I.free, I.freeC, fun p hp => ?_, tracked ⟨oL, MV, I.free⟩ hs, by simpa using I.len⟩ ⟨_, hs, .inl rfl⟩
    · exact (hs.2 b (Nat.ne_of_lt (Nat.lt_of_lt_of_le (Heap.lt_size e) I.ok.above))).trans (I.base.keep b o e n hb hx)
    · obtain ⟨sl, e1⟩ := I.base.slot b o e n hb hx
      exact ⟨sl, (hs.2 b (Nat.ne_of_lt (Nat.lt_of_lt_of_le (Heap.lt_size e) I.ok.above))).trans e1⟩
    · obtain ⟨o', e1⟩ := I.base.there b o e hx
      exact ⟨o', (hs.2 b (Nat.ne_of_lt (Nat.lt_of_lt_of_le (Heap.lt_size e) I.ok.above))).trans e1⟩
    · by_cases hj : j = i
      · subst hj
        rw [hi] at e1; cases e1
        rw [List.getElem?_set_self Eb] at e2
        cases e2
        exact ⟨u, r, .inl ⟨hk, by simp⟩⟩
      · rw [List.getElem?_set_ne (Ne.symm hj)] at e2
        obtain ⟨u', r', q⟩ := hl j y v' e1 e2 e3
        refine ⟨u', r', ?_⟩
        rcases q with ⟨k, e⟩ | ⟨k, c, e, z⟩
        · refine .inl ⟨k, ?_⟩
          have : y ≠ x := fun e => hj (qB hN e1 (e ▸ hi))
          simp [this, e]
        · exact .inr ⟨k, c, e, z.sameBut hs (mS y c e)⟩
    · obtain ⟨w', z⟩ := I.cell y c e
      exact ⟨w', z.sameBut hs (mS y c e)⟩
    · obtain ⟨e, n, ne, nf, d⟩ := I.pin p hp
      exact ⟨(hs.2 p.1 ne).trans e, n, ne, nf, d⟩
  · have mU : X.fn x = true := by
      rcases hf with z | z
      · exact z
      · rw [z] at hk; cases hk
    obtain ⟨c, hc⟩ := I.ok.has x (.inl hk)
    obtain ⟨w', z⟩ := I.cell x c hc
    refine wpAny_storeName_cell I.ok.kind hk hc z (fun h' A9 hs => ?_)
    obtain ⟨oc, oW, K9⟩ := id z
    refine h { s with heap := h' } ⟨I.ok, I.os, I.bare, ⟨fun b o e n hb hx => ?_, fun b o e n hb hx => ?_, I.base.free, fun b o e hx => ?_, I.base.tups, I.base.frzs, I.base.tbls⟩, ⟨m, hn.sameBut hs (Ne.symm (mS x c hc)), fun j y v' e1 e2 e3 => ?_⟩, fun y c' e => ?_, I.free, I.freeC, fun p hp => ?_, tracked ⟨oc, oW, I.freeC x c hc⟩ hs, by simpa using I.len⟩ ⟨c, hs, .inr hc⟩
    · exact (hs.2 b (Nat.ne_of_lt (Nat.lt_of_lt_of_le (Heap.lt_size e) (I.ok.cab x c mU hc)))).trans (I.base.keep b o e n hb hx)
    · obtain ⟨sl, e1⟩ := I.base.slot b o e n hb hx
      exact ⟨sl, (hs.2 b (Nat.ne_of_lt (Nat.lt_of_lt_of_le (Heap.lt_size e) (I.ok.cab x c mU hc)))).trans e1⟩
    · obtain ⟨o', e1⟩ := I.base.there b o e hx
      exact ⟨o', (hs.2 b (Nat.ne_of_lt (Nat.lt_of_lt_of_le (Heap.lt_size e) (I.ok.cab x c mU hc)))).trans e1⟩
    · by_cases hj : j = i
      · subst hj
        rw [hi] at e1; cases e1
        rw [List.getElem?_set_self Eb] at e2
        cases e2
        exact ⟨u, r, .inr ⟨.inl hk, c, hc, A9⟩⟩
      · rw [List.getElem?_set_ne (Ne.symm hj)] at e2
        obtain ⟨u', r', q⟩ := hl j y v' e1 e2 e3
        refine ⟨u', r', ?_⟩
        rcases q with q | ⟨k, c', e, z'⟩
        · exact .inl q
        · refine .inr ⟨k, c', e, z'.sameBut hs ?_⟩
          rintro rfl
          exact hj (qB hN e1 (I.ok.inj _ _ _ e hc ▸ hi))
    · by_cases JV : c' = c
      · subst JV; exact ⟨_, A9⟩
      · obtain ⟨w2, z2⟩ := I.cell y c' e
        exact ⟨w2, z2.sameBut hs JV⟩
    · obtain ⟨e, n, ne, nf, d⟩ := I.pin p hp
      refine ⟨(hs.2 p.1 ?_).trans e, n, ne, nf, d⟩
      intro q
      rw [q, oW] at e
      have q' : oc = p.2 := Option.some.inj e
      exact d w' (by rw [← q']; exact K9)
theorem qC {M : Model} {A : Around} {E : Value → Shared → Prop} {i : Nat} {x : Str} {v : V} {u : Value} {Q : Unit → Shared → Prop} (I : Inv X pins σ H s) (hN : X.N.Nodup) (hi : X.N[i]? = some x) (hx : Loc X.env.scope x) (r : RelV v u)
    (h : ∀ s', Inv X pins (σ.set i (some v)) H s' → Q () s') (hf : X.fn x = true ∨ X.env.scope.names.lookup x = some .local := by first | exact .inl rfl | exact .inr rfl | assumption) : wpAny M A (storeName X.env x u) Q E s :=
  store_ok2 I hN hi hx r (fun s' I' _ => h s' I') hf
theorem Inv.lx {s' : Shared} {ch : List Addr} (I : Inv X pins σ H s) (ho : s'.os = s.os) (u : Un (dz X.stack) ch H H' s.heap s'.heap) (hok : c6 X.prog X.w H' s'.heap) (hg : Gn s.gens.size s'.gens)
    (lP : ∀ b ∈ ch, (b ∈ X.ex ∨ X.s₀.heap.objs.size ≤ b) ∧ b ≠ X.env.locals ∧ (∀ x c, X.env.cells.lookup x = some c → c ≠ b) ∧ ∀ p ∈ X.pn ++ pins, p.1 ≠ b) : Inv X pins σ H' s' := by
  obtain ⟨h', g', d', t', o'⟩ := s'
  have e : o' = s.os := ho
  subst e
  exact I.call (g' := g') (t' := t') (d' := d') u hok hg lP
end
noncomputable abbrev XK := Value → Option Addr → Hp → Prop
noncomputable abbrev St := List (Option V)
noncomputable abbrev VK := V → Hp → Prop
noncomputable abbrev TE := St → Hp → VK → Prop
noncomputable abbrev TT := St → Hp → (Bool → Hp → Prop) → Prop
noncomputable abbrev TA := St → Hp → (List V → Hp → Prop) → Prop
structure Ends where
  nx : St → Hp → Prop
  rt : VK
  bk : St → Hp → Prop := fun _ _ => False
  ct : St → Hp → Prop := fun _ _ => False
noncomputable abbrev TS := Ends → St → Hp → Prop
noncomputable def EP (X : Cx) (pins : List (Addr × Obj)) (σ : St) (Q : VK) (u : Value) (s' : Shared) : Prop := ∃ v H', Inv X pins σ H' s' ∧ RelV v u ∧ Q v H'
noncomputable def TP (X : Cx) (pins : List (Addr × Obj)) (σ : St) (Q : Bool → Hp → Prop) (b : Bool) (s' : Shared) : Prop := ∃ H', Inv X pins σ H' s' ∧ Q b H'
noncomputable def AP (X : Cx) (pins : List (Addr × Obj)) (σ : St) (Q : List V → Hp → Prop) (us : List Value) (s' : Shared) : Prop := ∃ vs H', Inv X pins σ H' s' ∧ Vals vs us ∧ Q vs H'
noncomputable def SP (X : Cx) (pins : List (Addr × Obj)) (D : Ends) (f : Flow) (s' : Shared) : Prop :=
  match f with
  | .next => ∃ aA H', Inv X pins aA H' s' ∧ D.nx aA H'
  | .brk => ∃ aA H', Inv X pins aA H' s' ∧ D.bk aA H'
  | .cont => ∃ aA H', Inv X pins aA H' s' ∧ D.ct aA H'
  | .ret u => ∃ v aA H', Inv X pins aA H' s' ∧ RelV v u ∧ D.rt v H'
structure PE (X : Cx) (e : Expr) (t : TE) : Prop where
  run : ∀ (pins : List (Addr × Obj)) (s : Shared) (σ : St) (H : Hp) (Q : VK), Inv X pins σ H s → t σ H Q → wpAny (model X.prog X.w) X.A (eval e X.env) (EP X pins σ Q) X.xe s
instance {X : Cx} {e : Expr} {t : TE} : CoeFun (PE X e t) (fun _ => ∀ (pins : List (Addr × Obj)) (s : Shared) (σ : St) (H : Hp) (Q : VK), Inv X pins σ H s → t σ H Q → wpAny (model X.prog X.w) X.A (eval e X.env) (EP X pins σ Q) X.xe s) := ⟨PE.run⟩
structure PT (X : Cx) (e : Expr) (t : TT) : Prop where
  run : ∀ (pins : List (Addr × Obj)) (s : Shared) (σ : St) (H : Hp) (Q : Bool → Hp → Prop), Inv X pins σ H s → t σ H Q → wpAny (model X.prog X.w) X.A (isTrue e X.env (eval e X.env)) (TP X pins σ Q) X.xe s
instance {X : Cx} {e : Expr} {t : TT} : CoeFun (PT X e t) (fun _ => ∀ (pins : List (Addr × Obj)) (s : Shared) (σ : St) (H : Hp) (Q : Bool → Hp → Prop), Inv X pins σ H s → t σ H Q → wpAny (model X.prog X.w) X.A (isTrue e X.env (eval e X.env)) (TP X pins σ Q) X.xe s) := ⟨PT.run⟩
noncomputable def PW (X : Cx) (e : Expr) (t : TT) : Prop :=
  ∀ (whole : Sem Value) (pins : List (Addr × Obj)) (s : Shared) (σ : St) (H : Hp) (Q : Bool → Hp → Prop), Inv X pins σ H s → t σ H Q → wpAny (model X.prog X.w) X.A (isTrue e X.env whole) (TP X pins σ Q) X.xe s
theorem PW.pt {X : Cx} {e : Expr} {t : TT} (h : PW X e t) : PT X e t := ⟨h _⟩
structure PA (X : Cx) (es : List Expr) (t : TA) : Prop where
  run : ∀ (pos : Pos) (pins : List (Addr × Obj)) (s : Shared) (σ : St) (H : Hp) (Q : List V → Hp → Prop), Inv X pins σ H s → t σ H Q → wpAny (model X.prog X.w) X.A (spliced (backTo pos (starEach es X.env))) (AP X pins σ Q) X.xe s
instance {X : Cx} {es : List Expr} {t : TA} : CoeFun (PA X es t) (fun _ => ∀ (pos : Pos) (pins : List (Addr × Obj)) (s : Shared) (σ : St) (H : Hp) (Q : List V → Hp → Prop), Inv X pins σ H s → t σ H Q → wpAny (model X.prog X.w) X.A (spliced (backTo pos (starEach es X.env))) (AP X pins σ Q) X.xe s) := ⟨PA.run⟩
structure PS (X : Cx) (st : Stmt) (t : TS) : Prop where
  run : ∀ (pins : List (Addr × Obj)) (s : Shared) (σ : St) (H : Hp) (D : Ends), Inv X pins σ H s → t D σ H → wpAny (model X.prog X.w) X.A (exec st X.env) (SP X pins D) X.xe s
instance {X : Cx} {st : Stmt} {t : TS} : CoeFun (PS X st t) (fun _ => ∀ (pins : List (Addr × Obj)) (s : Shared) (σ : St) (H : Hp) (D : Ends), Inv X pins σ H s → t D σ H → wpAny (model X.prog X.w) X.A (exec st X.env) (SP X pins D) X.xe s) := ⟨PS.run⟩
structure eA (X : Cx) (st : List Stmt) (t : TS) : Prop where
  run : ∀ (pins : List (Addr × Obj)) (s : Shared) (σ : St) (H : Hp) (D : Ends), Inv X pins σ H s → t D σ H → wpAny (model X.prog X.w) X.A (execs st X.env) (SP X pins D) X.xe s
instance {X : Cx} {st : List Stmt} {t : TS} : CoeFun (eA X st t) (fun _ => ∀ (pins : List (Addr × Obj)) (s : Shared) (σ : St) (H : Hp) (D : Ends), Inv X pins σ H s → t D σ H → wpAny (model X.prog X.w) X.A (execs st X.env) (SP X pins D) X.xe s) := ⟨eA.run⟩
theorem thn {α : Type} {t : Sem α} {Q Q' : α → Shared → Prop} {M : Model} {A : Around} {E : Value → Shared → Prop} {s : Shared} (h : wpAny M A t Q E s) (hQ : ∀ a s, Q a s → Q' a s) : wpAny M A t Q' E s := wpAny_mono h hQ fun _ _ x => x
section
variable {X : Cx}
theorem bin {a b : Expr} {ta tb : TE} (ha : PE X a ta) (hb : PE X b tb) {pins : List (Addr × Obj)} {s : Shared} {σ : St} {H : Hp} {R : V → V → Hp → Prop} (I : Inv X pins σ H s) (h : ta σ H fun x H1 => tb σ H1 fun y H2 => R x y H2)
    {α : Type} {Q : α → Shared → Prop} {f : Value → Value → Sem α}
    (hf : ∀ v u s2 x y H2, Inv X pins σ H2 s2 → RelV x v → RelV y u → R x y H2 → wpAny (model X.prog X.w) X.A (f v u) Q X.xe s2) :
    wpAny (model X.prog X.w) X.A (eval a X.env) (fun v az => wpAny (model X.prog X.w) X.A (eval b X.env) (fun u mn => wpAny (model X.prog X.w) X.A (f v u) Q X.xe mn) X.xe az) X.xe s := by
  refine thn (ha pins s σ H _ I h) fun v s1 ⟨x, H1, I1, r1, q1⟩ => ?_
  refine thn (hb pins s1 σ H1 _ I1 q1) fun u s2 ⟨y, H2, I2, r2, q2⟩ => ?_
  exact hf v u s2 x y H2 I2 r1 r2 q2
noncomputable def La (i : Nat) : TE := fun σ H Q => ∃ v, σ[i]? = some (some v) ∧ Q v H
noncomputable def tC (v : V) : TE := fun _ H Q => Q v H
theorem vX {i : Nat} {x : Str} {pos : Pos} (hN : X.N[i]? = some x) (hv : mR X.env.scope x) (hd : (x == ("__debug__" : Str)) = false := by decide) (dA : (x == ("__classdict__" : Str)) = false := by decide) : PE X (.Name x pos) (La i) := by
  refine ⟨?_⟩
  intro pins s σ H Q I h
  obtain ⟨v, e, h⟩ := h
  obtain ⟨m, hn, hl⟩ := I.loc
  obtain ⟨u, r, l⟩ := hl i x v hN e hv
  have fin : EP X pins σ Q u s := ⟨v, H, I, r, h⟩
  rcases l with ⟨hk, hm⟩ | ⟨hk, c, hc, qi⟩
  · exact wpAny_Name (wpAny_loadName_local I.ok.kind hk hn hm fin) hd
  · rcases hk with hk | hk
    · exact wpAny_Name (wpAny_loadName_cell I.ok.kind hk hc qi fin) hd
    · exact wpAny_Name (wpAny_loadName_free I.ok.kind hk hc qi fin dA) hd
theorem Ec {i j pos} : PE X (.Constant (.int i) j pos) (tC (.int i)) := ⟨fun _ _ _ H _ I h => wpAny_Constant_int ⟨.int i, H, I.tok _, ⟨_, rfl⟩, h⟩⟩
theorem HY {b j pos} : PE X (.Constant (.bool b) j pos) (tC (.bl b)) := ⟨fun _ _ _ H _ I h => Constant_bool ⟨.bl b, H, I, rfl, h⟩⟩
theorem Ed {j pos} : PE X (.Constant .none j pos) (tC .ao) := ⟨fun _ _ _ H _ I h => Constant_none ⟨.ao, H, I, rfl, h⟩⟩
theorem Ee {x j pos} : PE X (.Constant (.str x) j pos) (tC (.str x)) := ⟨fun _ _ _ H _ I h => Calls.Constant_str ⟨.str x, H, I.tok _, ⟨_, rfl⟩, h⟩⟩
noncomputable def Gl (X : Cx) (x : Str) : Prop := X.env.kindOf x = some .globalImplicit
theorem hZ {E : Value → Shared → Prop} {pins : List (Addr × Obj)} {s : Shared} {σ : St} {H : Hp} {x : Str} {u : Value} {pos : Pos} {Q : Value → Shared → Prop} (I : Inv X pins σ H s) (hg : Gl X x) (hm : X.mg x = some u) (h : Q u s)
    (hd : (x == ("__debug__" : Str)) = false := by decide) : wpAny (model X.prog X.w) X.A (eval (.Name x pos) X.env) Q E s :=
  Calls.Name_function_global I.ok.kind hg (Calls.loadGlobal_global (by rw [I.ok.glob]; exact I.mod.glob.keeps I.bk) hm h) hd
theorem fH {E : Value → Shared → Prop} {pins : List (Addr × Obj)} {s : Shared} {σ : St} {H : Hp} {x : Str} {u : Value} {pos : Pos} {Q : Value → Shared → Prop} (I : Inv X pins σ H s) (hg : Gl X x) (hm : X.mg x = none) (hv : bootBuiltins x = some u) (h : Q u s)
    (hn : x ≠ "__name__" := by decide) (hd : (x == ("__debug__" : Str)) = false := by decide) : wpAny (model X.prog X.w) X.A (eval (.Name x pos) X.env) Q E s := by
  obtain ⟨mb, h1, h2⟩ := I.mod.blt
  exact Calls.Name_function_global I.ok.kind hg (Calls.loadGlobal_builtin (by rw [I.ok.glob]; exact I.mod.glob.keeps I.bk) hm (by rw [I.ok.blt]; exact h1.keeps I.bk) ((h2 x hn).trans hv) h) hd
theorem nZ {x : Str} {v : V} {u : Value} {pos : Pos} (hg : Gl X x) (hm : X.mg x = some u) (r : RelV v u) (hd : (x == ("__debug__" : Str)) = false := by decide) : PE X (.Name x pos) (tC v) := ⟨fun _ _ _ H _ I h => hZ I hg hm ⟨v, H, I, r, h⟩ hd⟩
theorem B1 {x : Str} {v : V} {u : Value} {pos : Pos} (hg : Gl X x) (hm : X.mg x = none) (hv : bootBuiltins x = some u) (r : RelV v u) (hn : x ≠ "__name__" := by decide) (hd : (x == ("__debug__" : Str)) = false := by decide) : PE X (.Name x pos) (tC v) := ⟨fun _ _ _ H _ I h => fH I hg hm hv ⟨v, H, I, r, h⟩ hn hd⟩
variable {a b : Expr} {ta tb : TE} {pos : Pos}
noncomputable def PC (X : Cx) (op : CmpOp) (a b : Expr) (t : TE) : Prop :=
  ∀ (pins : List (Addr × Obj)) (s : Shared) (σ : St) (H : Hp) (Q : VK), Inv X pins σ H s → t σ H Q →
    wpAny (model X.prog X.w) X.A (eval a X.env) (fun v az => wpAny (model X.prog X.w) X.A (eval b X.env) (fun u mn => wpAny (model X.prog X.w) X.A (compareOp op v u) (EP X pins σ Q) X.xe mn) X.xe az) X.xe s
theorem y3 (b : Expr) {op : CmpOp} (h : op ≠ .In) (h2 : op ≠ .NotIn) : behindInMarks op b = false := by
  have e1 : (op == CmpOp.In) = false := by cases op <;> first | rfl | exact absurd rfl h
  have e2 : (op == CmpOp.NotIn) = false := by cases op <;> first | rfl | exact absurd rfl h2
  cases b <;> simp [behindInMarks, e1, e2]
noncomputable def tB (t : TE) : TT := fun σ H Q => t σ H fun x H1 => ∃ c, x = .bl c ∧ Q c H1
theorem MX {op : CmpOp} {t : TE} (h : PC X op a b t) (h1 : behindInMarks op b = false := by first | exact y3 _ (by decide) (by decide) | rfl) : PT X (.Compare a [op] [b] pos) (tB t) := by
  refine ⟨?_⟩
  intro pins s σ H Q I hw
  refine wpAny_isTrue_Compare1 (thn (h pins s σ H _ I hw) fun v s1 h1 => thn h1 fun u s2 h2 => thn h2 fun c s3 ⟨x, H1, I1, r1, q1⟩ => ?_) h1
  obtain ⟨d, rfl, q⟩ := q1
  cases r1
  exact wpAny_truthy_bool ⟨H1, I1, q⟩
theorem Ef {e : Expr} {t : TE} (h : PE X e t) (he : ∀ whole, isTrue e X.env whole = (do let v ← whole; standAt e.pos; holding [v] (truthy v)) := by intro _; rfl) : PT X e (tB t) := by
  refine ⟨?_⟩
  intro pins s σ H Q I hw
  refine isTrue_plain (thn (h pins s σ H _ I hw) fun v s1 ⟨x, H1, I1, r1, q1⟩ => ?_) (he _)
  obtain ⟨d, rfl, q⟩ := q1
  cases r1
  exact wpAny_truthy_bool ⟨H1, I1, q⟩
variable {tA mV : TT} {rest : List Expr}
noncomputable def Lb (t u : TT) : TT := fun σ H Q => t σ H fun c H1 => if c = true then u σ H1 Q else Q false H1
noncomputable def MY (t u : TT) : TT := fun σ H Q => t σ H fun c H1 => if c = true then Q true H1 else u σ H1 Q
noncomputable def Lc (t : TT) : TT := fun σ H Q => t σ H fun c H1 => Q (!c) H1
theorem B2 (ha : PT X a tA) : PW X (.BoolOp .And [a] pos) tA := by
  intro wh pins s σ H Q I h
  refine isTrue_and (thn (ha pins s σ H Q I h) fun c s1 e => ?_)
  cases c with
  | true => exact isTrue_and_nil e
  | false => exact e
theorem Eg (ha : PT X a tA) : PW X (.BoolOp .Or [a] pos) tA := by
  intro wh pins s σ H Q I h
  refine isTrue_or (thn (ha pins s σ H Q I h) fun c s1 e => ?_)
  cases c with
  | false => exact isTrue_or_nil e
  | true => exact e
theorem Eh (ha : PT X a tA) (hb : PW X (.BoolOp .And (b :: rest) pos) mV) : PW X (.BoolOp .And (a :: b :: rest) pos) (Lb tA mV) := by
  intro wh pins s σ H Q I h
  refine isTrue_and (thn (ha pins s σ H _ I h) fun c s1 ⟨H1, I1, q1⟩ => ?_)
  cases c with
  | true => exact hb wh pins s1 σ H1 Q I1 q1
  | false => exact ⟨H1, I1, q1⟩
theorem HZ (ha : PT X a tA) (hb : PW X (.BoolOp .Or (b :: rest) pos) mV) : PW X (.BoolOp .Or (a :: b :: rest) pos) (MY tA mV) := by
  intro wh pins s σ H Q I h
  refine isTrue_or (thn (ha pins s σ H _ I h) fun c s1 ⟨H1, I1, q1⟩ => ?_)
  cases c with
  | true => exact ⟨H1, I1, q1⟩
  | false => exact hb wh pins s1 σ H1 Q I1 q1
theorem Ei (ha : PT X a tA) : PT X (.UnaryOp .Not a pos) (Lc tA) := by
  refine ⟨?_⟩
  intro pins s σ H Q I h
  exact isTrue_not (ha pins s σ H (fun c H1 => Q (!c) H1) I h)
noncomputable def Ia (ta tb : TE) : TE := fun σ H Q => ta σ H fun x H1 => ∃ c, x = .bl c ∧ if c = true then tb σ H1 Q else Q (.bl false) H1
noncomputable def Ib (ta : TE) : TE := fun σ H Q => ta σ H fun x H1 => ∃ c, x = .bl c ∧ Q (.bl (!c)) H1
theorem Ej {op} {t : TE} (h : PE X a t) : PE X (.BoolOp op [a] pos) t := ⟨fun pins s σ H Q I hw => BoolOp_one (h pins s σ H Q I hw)⟩
theorem Ek (ha : PE X a ta) (hb : PE X (.BoolOp .And (b :: rest) pos) tb) : PE X (.BoolOp .And (a :: b :: rest) pos) (Ia ta tb) := by
  refine ⟨?_⟩
  intro pins s σ H Q I h
  refine BoolOp_and (thn (ha pins s σ H _ I h) fun v s1 ⟨x, H1, I1, r1, q1⟩ => ?_)
  obtain ⟨c, rfl, q1⟩ := q1
  cases r1
  refine wpAny_truthy_bool ?_
  cases c with
  | true => exact hb pins s1 σ H1 Q I1 q1
  | false => exact ⟨.bl false, H1, I1, rfl, q1⟩
theorem El (ha : PE X a ta) : PE X (.UnaryOp .Not a pos) (Ib ta) := by
  refine ⟨?_⟩
  intro pins s σ H Q I h
  refine UnaryOp_ (thn (ha pins s σ H _ I h) fun v s1 ⟨x, H1, I1, r1, q1⟩ => ?_)
  obtain ⟨c, rfl, q1⟩ := q1
  cases r1
  exact not_of (wpAny_truthy_bool ⟨.bl (!c), H1, I1, rfl, q1⟩)
end
noncomputable def bM (K : PySem.W.Frag) (H : Hp) (a : Addr) (xs : List V) : Prop :=
  Rd H a (.lst xs) ∨
    ∃ (o : Obj) (its : Array Value) (n : Nat), K.lookup a = some o ∧ o.cls = .type "list" ∧ o.dict = none ∧ o.data = .seq its n ∧ its.size ≤ sizeLine ∧ Vals xs its.toList
noncomputable def bN (K : PySem.W.Frag) (H : Hp) (a : Addr) (xs : List V) : Prop :=
  Rd H a (.tup xs) ∨
    ∃ (o : Obj) (its : Array Value) (n : Nat), K.lookup a = some o ∧ o.cls = .type "tuple" ∧ o.data = .seq its n ∧ its.size ≤ sizeLine ∧ Vals xs its.toList
noncomputable def Ld : Value → Option V
  | .none => some .ao
  | .bool b => some (.bl b)
  | .int i _ => some (.int i)
  | .str x _ => some (.str x)
  | .bytes b _ => some (.ie b)
  | .float b _ => some (.tG b)
  | .ref a => some (.ref a)
  | .type n => some (.ty n)
  | _ => none
theorem RelV.abs {x : V} {u : Value} (r : RelV x u) : Ld u = some x := by
  cases x with
  | ao => cases r; rfl
  | bl _ => cases r; rfl
  | int _ => obtain ⟨t, rfl⟩ := r; rfl
  | str _ => obtain ⟨t, rfl⟩ := r; rfl
  | ie _ => obtain ⟨t, rfl⟩ := r; rfl
  | tG _ => obtain ⟨t, rfl⟩ := r; rfl
  | ref _ => cases r; rfl
  | ty _ => cases r; rfl
theorem RelV.inj {x y : V} {u : Value} (r : RelV x u) (q : RelV y u) : x = y := Option.some.inj (r.abs.symm.trans q.abs)
theorem Vals.inj : ∀ {xs ys : List V} {us : List Value}, Vals xs us → Vals ys us → xs = ys
  | _, _, _, .nil, .nil => rfl
  | _, _, _, .cons r t, .cons r' t' => by rw [r.inj r', Vals.inj t t']
section
variable {X : Cx} {pins : List (Addr × Obj)} {σ : St} {H : Hp} {s : Shared} {a : Addr} {xs ys : List V}
theorem bM.of {K : PySem.W.Frag} (h : H a = some (.lst xs)) : bM K H a xs := .inl (.inl h)
theorem bN.of {K : PySem.W.Frag} (h : H a = some (.tup xs)) : bN K H a xs := .inl (.inl h)
theorem Inv.list (I : Inv X pins σ H s) (h : bM X.K H a xs) : ∃ its : List Value, Vals xs its ∧ PlainL s.heap a its.toArray ∧ xs.length ≤ sizeLine := by
  rcases h with h | ⟨o, its, n, hk, hc, hd, hs, hz, r⟩
  · obtain ⟨z, its, n, r, e⟩ := h.ok I.hok
    exact ⟨its, r, ⟨_, n, e, rfl, rfl, rfl⟩, z⟩
  · refine ⟨its.toList, r, ⟨o, n, I.d7 a o hk, hc, hd, by simpa using hs⟩, ?_⟩
    have e := r.length
    simp only [Array.length_toList] at e
    omega
theorem Inv.tuple (I : Inv X pins σ H s) (h : bN X.K H a xs) : ∃ its : List Value, Vals xs its ∧ IsTup s.heap a its.toArray ∧ xs.length ≤ sizeLine := by
  rcases h with h | ⟨o, its, n, hk, hc, hs, hz, r⟩
  · obtain ⟨z, its, r, p⟩ := h.ok I.hok
    exact ⟨its, r, gO.tup p, z⟩
  · refine ⟨its.toList, r, ⟨o, I.d7 a o hk, hc, n, by simpa using hs⟩, ?_⟩
    have e := r.length
    simp only [Array.length_toList] at e
    omega
theorem Inv.qD (I : Inv X pins σ H s) (h : bM X.K H a xs) (h' : bM X.K H a ys) : xs = ys := by
  obtain ⟨its, r, ⟨o, n, e, _, _, d⟩, _⟩ := I.list h
  obtain ⟨its', r', ⟨o', n', e', _, _, d'⟩, _⟩ := I.list h'
  rw [e] at e'; cases e'
  rw [d] at d'
  injection d' with d1 _
  have : its = its' := by simpa using congrArg Array.toList d1
  subst this
  exact r.inj r'
theorem Inv.oX (I : Inv X pins σ H s) (h : bN X.K H a xs) (h' : bN X.K H a ys) : xs = ys := by
  obtain ⟨its, r, ⟨o, e, _, n, d⟩, _⟩ := I.tuple h
  obtain ⟨its', r', ⟨o', e', _, n', d'⟩, _⟩ := I.tuple h'
  rw [e] at e'; cases e'
  rw [d] at d'
  injection d' with d1 _
  have : its = its' := by simpa using congrArg Array.toList d1
  subst this
  exact r.inj r'
end
noncomputable abbrev Cx.jl (X : Cx) (E : Value → Shared → Prop) : Cx := { X with xe := E }
noncomputable abbrev Cx.qE (X : Cx) : Cx := X.jl fun _ _ => False
theorem Cx.Ok.jl {X : Cx} (ok : X.Ok) (E : Value → Shared → Prop) : (X.jl E).Ok :=
  ⟨ok.mod, ok.kind, ok.glob, ok.blt, ok.above, ok.inj, ok.has, ok.cab, ok.hd, ok.frames, ok.stk, ok.exf, ok.bs, ok.bsz, ok.noex, ok.exfs, ok.funs, ok.frf⟩
theorem Cx.Ok.gB {X : Cx} {E : Value → Shared → Prop} (ok : (X.jl E).Ok) : X.Ok :=
  ⟨ok.mod, ok.kind, ok.glob, ok.blt, ok.above, ok.inj, ok.has, ok.cab, ok.hd, ok.frames, ok.stk, ok.exf, ok.bs, ok.bsz, ok.noex, ok.exfs, ok.funs, ok.frf⟩
section
variable {X : Cx} {pins : List (Addr × Obj)} {σ : St} {H : Hp} {s : Shared} {E : Value → Shared → Prop}
theorem Inv.jl (I : Inv X pins σ H s) (E : Value → Shared → Prop) : Inv (X.jl E) pins σ H s := ⟨I.ok.jl E, I.os, I.bare, I.base, I.loc, I.cell, I.free, I.freeC, I.pin, I.hok, I.len⟩
theorem Inv.gB (I : Inv (X.jl E) pins σ H s) : Inv X pins σ H s := ⟨I.ok.gB, I.os, I.bare, I.base, I.loc, I.cell, I.free, I.freeC, I.pin, I.hok, I.len⟩
theorem SP.gB {D : Ends} {f : Flow} {s' : Shared} (h : SP (X.jl E) pins D f s') : SP X pins D f s' := by
  cases f with
  | next => obtain ⟨aA, H', I, q⟩ := h; exact ⟨aA, H', I.gB, q⟩
  | brk => obtain ⟨aA, H', I, q⟩ := h; exact ⟨aA, H', I.gB, q⟩
  | cont => obtain ⟨aA, H', I, q⟩ := h; exact ⟨aA, H', I.gB, q⟩
  | ret u => obtain ⟨v, aA, H', I, r, q⟩ := h; exact ⟨v, aA, H', I.gB, r, q⟩
theorem eA.qE {st : List Stmt} {t : TS} (h : eA X.qE st t) : eA X st t := ⟨fun pins s σ H D I hw =>
  wpAny_mono (h pins s σ H D (I.jl _) hw) (fun _ _ q => q.gB) fun _ _ z => False.elim z⟩
end
section
variable {X : Cx} {st : Stmt} {rest : List Stmt} {t u : TS} {e : Expr} {te : TE} {pos : Pos}
noncomputable def Ic : TS := fun D σ H => D.nx σ H
noncomputable def Le (t u : TS) : TS := fun D σ H => t { D with nx := u D } σ H
theorem B3 : eA X [] Ic := ⟨fun _ _ σ H _ I h => wpAny_execs_nil ⟨σ, H, I, h⟩⟩
theorem y4 (h1 : PS X st t) (h2 : eA X rest u) : eA X (st :: rest) (Le t u) := by
  refine ⟨?_⟩
  intro pins s σ H D I h
  refine wpAny_execs_cons (thn (h1 pins s σ H { D with nx := u D } I h) fun f s1 q => ?_)
  cases f with
  | next =>
    obtain ⟨aA, H', I', q⟩ := q
    exact h2 pins s1 aA H' D I' q
  | ret v => exact q
  | brk => exact q
  | cont => exact q
theorem B4 (h1 : PS X st t) : eA X [st] t := by
  refine ⟨?_⟩
  intro pins s σ H D I h
  refine wpAny_execs_cons (thn (h1 pins s σ H D I h) fun f s1 q => ?_)
  cases f with
  | next => exact wpAny_execs_nil q
  | ret v => exact q
  | brk => exact q
  | cont => exact q
theorem Inv.quiet {pins : List (Addr × Obj)} {σ : St} {H : Hp} {s : Shared} (I : Inv X pins σ H s) : interactive X.env = false := by simp [interactive, I.ok.kind]
noncomputable def Ie (te : TE) : TS := fun D σ H => te σ H fun _ H1 => D.nx σ H1
theorem B5 (he : PE X e te) (hs : swapsWith e none pos.line X.env = pure false := by rfl) : PS X (.Expr e pos) (Ie te) := by
  refine ⟨?_⟩
  intro pins s σ H D I h
  exact wpAny_Expr_any (thn (he pins s σ H _ I h) fun v s1 ⟨x, H1, I1, r1, q1⟩ => ⟨σ, H1, I1, q1⟩) I.quiet hs
noncomputable def Lf (te : TE) : TS := fun D σ H => te σ H D.rt
theorem Em (he : PE X e te) : PS X (.Return (some e) pos) (Lf te) := by
  refine ⟨?_⟩
  intro pins s σ H D I h
  exact wpAny_Return_some (thn (he pins s σ H _ I h) fun v s1 ⟨x, H1, I1, r1, q1⟩ => ⟨x, σ, H1, I1, r1, q1⟩)
noncomputable def Lg (c : TT) (t u : TS) : TS := fun D σ H => c σ H fun b H1 => if b = true then t D σ H1 else u D σ H1
theorem Ig {c : Expr} {a b : List Stmt} {tc : TT} (hc : PT X c tc) (ha : eA X a t) (hb : eA X b u) : PS X (.If c a b pos) (Lg tc t u) := by
  refine ⟨?_⟩
  intro pins s σ H D I h
  refine wpAny_If (thn (hc pins s σ H _ I h) fun d s1 ⟨H1, I1, q1⟩ => ?_)
  cases d with
  | true => exact ha pins s1 σ H1 D I1 q1
  | false => exact hb pins s1 σ H1 D I1 q1
noncomputable def vY : TS := fun _ _ _ => False
theorem y6 : PS X st vY := ⟨fun _ _ _ _ _ _ h => h.elim⟩
theorem vZ {v3 : List Stmt} : eA X v3 vY := ⟨fun _ _ _ _ _ _ h => h.elim⟩
end
noncomputable abbrev TG := V → St → Hp → (St → Hp → Prop) → Prop
noncomputable abbrev mW := List V → St → Hp → (St → Hp → Prop) → Prop
noncomputable def PG (X : Cx) (target : Expr) (t : TG) : Prop :=
  ∀ (pins : List (Addr × Obj)) (s : Shared) (σ : St) (H : Hp) (v : V) (u : Value) (Q : St → Hp → Prop), Inv X pins σ H s → RelV v u → t v σ H Q →
    wpAny (model X.prog X.w) X.A (assign target X.env u) (fun _ s' => ∃ aA H', Inv X pins aA H' s' ∧ Q aA H') X.xe s
noncomputable def oY (X : Cx) (ts : List Expr) (t : mW) : Prop :=
  ∀ (pins : List (Addr × Obj)) (s : Shared) (σ : St) (H : Hp) (vs : List V) (us : List Value) (Q : St → Hp → Prop), Inv X pins σ H s → Vals vs us → t vs σ H Q →
    wpAny (model X.prog X.w) X.A (assignInOrder ((assignEach ts X.env).map (·.2)) us) (fun _ s' => ∃ aA H', Inv X pins aA H' s' ∧ Q aA H') X.xe s
noncomputable abbrev y7 := V → V → V → Hp → (Hp → Prop) → Prop
noncomputable def En (X : Cx) (t : y7) : Prop :=
  ∀ (pins : List (Addr × Obj)) (s : Shared) (σ : St) (H : Hp) (o i v : V) (ov iv u : Value) (Q : Hp → Prop), Inv X pins σ H s → RelV o ov → RelV i iv → RelV v u → t o i v H Q →
    wpAny (model X.prog X.w) X.A (setItem ov iv u) (fun _ s' => ∃ H', Inv X pins σ H' s' ∧ Q H') X.xe s
section
variable {X : Cx} {pos : Pos}
noncomputable def mX (i : Nat) : TG := fun v σ H Q => Q (σ.set i (some v)) H
theorem B6 {i : Nat} {x : Str} (hN : X.N.Nodup) (hi : X.N[i]? = some x) (hx : Loc X.env.scope x) (hf : X.fn x = true ∨ X.env.scope.names.lookup x = some .local := by first | exact .inl rfl | exact .inr rfl | assumption) : PG X (.Name x pos) (mX i) := by
  intro pins s σ H v u Q I r h
  exact wpAny_assign_Name (qC I hN hi hx r (fun s' I' => ⟨_, H, I', h⟩) hf)
noncomputable def Lh : mW := fun vs σ H Q => vs = [] ∧ Q σ H
noncomputable def Ih (t : TG) (u : mW) : mW := fun vs σ H Q => ∃ v r, vs = v :: r ∧ t v σ H fun aA H' => u r aA H' Q
theorem B7 : oY X [] Lh := by
  intro pins s σ H vs us Q I r h
  obtain ⟨e, h⟩ := h
  subst e
  cases r
  exact assignInOrder_nil ⟨σ, H, I, h⟩
theorem y8 {e : Expr} {es : List Expr} {t : TG} {u : mW} (h1 : PG X e t) (h2 : oY X es u)
    (hs : (assignEach (e :: es) X.env).map (·.2) = assign e X.env :: (assignEach es X.env).map (·.2) := by rfl) : oY X (e :: es) (Ih t u) := by
  intro pins s σ H vs us Q I r h
  obtain ⟨v, vr, e1, h⟩ := h
  subst e1
  cases r with
  | cons r rr =>
    rw [hs]
    refine assignInOrder_cons (thn (h1 pins s σ H _ _ _ I r h) fun _ s1 ⟨lQ, H1, I1, q1⟩ => ?_)
    exact h2 pins s1 lQ H1 _ _ Q I1 rr q1
noncomputable def Li (K : PySem.W.Frag) (n : Nat) (t : mW) : TG := fun v σ H Q => ∃ a xs, v = .ref a ∧ bN K H a xs ∧ xs.length = n ∧ t xs σ H Q
theorem Eo {es : List Expr} {k : Nat} {t : mW} {n : Nat} (hc : X.calm = true) (h : oY X es t)
    (hn : (assignEach es X.env).length = n := by rfl) (lR : (assignEach es X.env).findIdx? (·.1) = none := by rfl) : PG X (.Tuple es k pos) (Li X.K n t) := by
  intro pins s σ H v u Q I r hw
  obtain ⟨a, xs, e1, hq, hl, hw⟩ := hw
  subst e1
  cases r
  obtain ⟨its, rv, ht, hz⟩ := I.tuple hq
  refine assign_Tuple_tuple (I.ok.hd hc) ht (by simp [hn, ← hl, rv.length]) lR fun h' hx => ?_
  have I1 : Inv X pins σ H { s with heap := h' } := I.kept (t' := s.toks) fun b o e => hx b o (Nat.ne_of_lt (Heap.lt_size e)) e
  exact h pins _ σ H xs _ Q I1 (by simpa using rv) hw
noncomputable def Lj (to ti : TE) (t : y7) : TG := fun v σ H Q => to σ H fun o H1 => ti σ H1 fun i H2 => t o i v H2 fun H3 => Q σ H3
theorem Ep {o i : Expr} {to ti : TE} {t : y7} (ho : PE X o to) (hi : PE X i ti) (hs : En X t)
    (ha : ∀ v, assign (.Subscript o i pos) X.env v = (do
      let ov ← holding [v] (eval o X.env)
      let iv ← holding [v, ov] (eval i X.env)
      standAt pos
      holding [v, ov, iv] (setItem ov iv v)
      release [v, ov, iv] []) := by intro _; rfl) : PG X (.Subscript o i pos) (Lj to ti t) := by
  intro pins s σ H v u Q I r h
  rw [ha]
  refine wpAny_bind (wpAny_holding (thn (ho pins s σ H _ I h) fun ov s1 ⟨x, H1, I1, r1, q1⟩ => ?_))
  refine wpAny_bind (wpAny_holding (thn (hi pins s1 σ H1 _ I1 q1) fun iv s2 ⟨y, H2, I2, r2, q2⟩ => ?_))
  refine wpAny_bind (wpAny_standAt (wpAny_bind (wpAny_holding (thn (hs pins s2 σ H2 x y v ov iv u _ I2 r1 r2 r q2) fun _ s3 ⟨H3, I3, q3⟩ => ?_))))
  exact wpAny_release ⟨σ, H3, I3, q3⟩
noncomputable def n5 (te : TE) (g : TG) : TS := fun D σ H => te σ H fun x H1 => g x σ H1 D.nx
theorem Er {tg e : Expr} {te : TE} {g : TG} (he : PE X e te) (hg : PG X tg g) (hs : swapsWithSole [tg] e pos.line X.env = pure false := by rfl) (hw : swappedStores [tg] e X.env = pure none := by rfl)
    (h1 : (assignEach [tg] X.env).map (·.2) = [assign tg X.env] := by rfl) : PS X (.Assign [tg] e pos) (n5 te g) := by
  refine ⟨?_⟩
  intro pins s σ H D I h
  refine wpAny_Assign_stores (thn (he pins s σ H _ I h) fun v s1 ⟨x, H1, I1, r1, q1⟩ => ?_) hs hw
  rw [h1]
  exact thn (hg pins s1 σ H1 x v _ I1 r1 q1) fun _ s2 q => q
theorem Es {i : Nat} {x : Str} {e : Expr} {te : TE} {pos' : Pos} (hN : X.N.Nodup) (hi : X.N[i]? = some x) (hx : Loc X.env.scope x) (he : PE X e te) (hs : swapsWith e (some (.Name x pos')) pos.line X.env = pure false := by rfl) (hf : X.fn x = true ∨ X.env.scope.names.lookup x = some .local := by first | exact .inl rfl | exact .inr rfl | assumption) :
    PS X (.Assign [.Name x pos'] e pos) (n5 te (mX i)) := by
  refine ⟨?_⟩
  intro pins s σ H D I h
  refine wpAny_Assign_Name (thn (he pins s σ H _ I h) fun v s1 ⟨y, H1, I1, r1, q1⟩ => ?_) hs
  exact qC I1 hN hi hx r1 (fun s2 I2 => ⟨_, H1, I2, q1⟩) hf
end
section
variable {X : Cx} {pos : Pos}
noncomputable def v7 (c : TT) (tb : TS) : TS := fun D σ H => ∃ W : Nat → St → Hp → Prop, (∃ m, W m σ H) ∧ ∀ m σ H, W m σ H →
  c σ H fun b H1 => if b = true then ∃ N : St → Hp → Prop, (∀ aA H', N aA H' → ∃ m', m' < m ∧ W m' aA H') ∧ tb { D with nx := N, ct := N, bk := D.nx } σ H1 else D.nx σ H1
theorem y9 {c : Expr} {body : List Stmt} {tc : TT} {tb : TS} (hp : PassesOwn (model X.prog X.w) X.A X.env X.xe) (hc : PT X c tc) (hb : eA X body tb) : PS X (.While c body [] pos) (v7 tc tb) := by
  refine ⟨?_⟩
  intro pins s σ H D I h
  obtain ⟨W, ⟨m0, w0⟩, turn⟩ := h
  refine wpAny_While (codeAny_whileLoop (fun n s' => ∃ aA H', Inv X pins aA H' s' ∧ W n aA H') ?_ m0 ⟨σ, H, I, w0⟩)
  rintro n s1 ⟨lQ, H1, I1, w1⟩
  refine wpAny_passesOwn hp (thn (hc pins s1 lQ H1 _ I1 (turn n lQ H1 w1)) fun b s2 ⟨H2, I2, q2⟩ => ?_)
  cases b with
  | true =>
    obtain ⟨N, hN, q2⟩ := q2
    rw [if_pos rfl]
    refine wpAny_passesOwn hp (thn (hb pins s2 lQ H2 _ I2 q2) fun f s3 q3 => ?_)
    cases f with
    | next =>
      obtain ⟨j1, H3, I3, n3⟩ := q3
      obtain ⟨m', hm, w3⟩ := hN j1 H3 n3
      exact ⟨m', hm, j1, H3, I3, w3⟩
    | cont =>
      obtain ⟨j1, H3, I3, n3⟩ := q3
      obtain ⟨m', hm, w3⟩ := hN j1 H3 n3
      exact ⟨m', hm, j1, H3, I3, w3⟩
    | brk => exact q3
    | ret v => exact q3
  | false =>
    rw [if_neg Bool.false_ne_true]
    exact wpAny_execs_nil ⟨lQ, H2, I2, q2⟩
end
structure It where
  go : Nat → Hp → Prop
  yld : Nat → Hp → V → Hp → Prop
  stop : Nat → Hp → Prop
noncomputable def dB (X : Cx) (pins : List (Addr × Obj)) (H : Hp) (b : Addr) : Prop :=
  H b = none ∧ b ≠ X.env.locals ∧ b ∉ X.fs ∧ (b ∈ X.ex ∨ X.s₀.heap.objs.size ≤ b) ∧ (∀ x c, X.env.cells.lookup x = some c → c ≠ b) ∧ ∀ p ∈ X.pn ++ pins, p.1 ≠ b
theorem Inv.jH {X : Cx} {pins : List (Addr × Obj)} {σ : St} {H H' : Hp} {s : Shared} {b : Addr} (I : Inv X pins σ H s) (hb : s.heap.objs.size ≤ b) (hn : H' b = none) : dB X pins H' b := by
  refine ⟨hn, Nat.ne_of_gt (Nat.lt_of_lt_of_le I.lt hb), I.D8 hb, .inr (Nat.le_trans I.sz hb), fun x c e z => ?_, fun p hp z => ?_⟩
  · obtain ⟨v, q⟩ := I.cell x c e
    exact absurd (Nat.lt_of_lt_of_le q.lt (by rw [z]; exact hb)) (Nat.lt_irrefl _)
  · exact absurd (Nat.lt_of_lt_of_le (Heap.lt_size (I.pin p hp).1) (by rw [z]; exact hb)) (Nat.lt_irrefl _)
structure Turn (P : Program) (w : World) (K : PySem.W.Frag) (tg : Expr) (J : It) (fp : List Addr) (it : Addr) (tn : Nat → Heap → Prop) : Prop where
  mem : it ∈ fp
  obj : ∀ i h, tn i h → ∀ b ∈ fp, ∃ o, h.get? b = some o ∧ ∀ v, o.data ≠ .cell v
  keep : ∀ i h h', tn i h → (∀ b ∈ fp, ∀ o, h.get? b = some o → h'.get? b = some o) → tn i h'
  item : ∀ (X : Cx), X.prog = P → X.w = w → X.K = K → X.calm = true → ∀ (i : Nat) (pins : List (Addr × Obj)) (s : Shared) (σ : St) (H : Hp) (E : Value → Shared → Prop), Inv X pins σ H s → (∀ b ∈ fp, dB X pins H b) → tn i s.heap → J.go i H →
    wpAny (model P w) X.A (pyNext (.ref it)) (fun r s1 => ∃ u, r = some u ∧
      wpAny (model P w) X.A (letOwnedTupleGo tg (.ref it) u) (fun _ s2 => ∃ x H', Inv X pins σ H' s2 ∧ RelV x u ∧ J.yld i H x H' ∧ tn (i + 1) s2.heap ∧ ∀ b ∈ fp, H' b = none) E s1) E s
  done : ∀ (X : Cx), X.prog = P → X.w = w → X.K = K → X.calm = true → ∀ (i : Nat) (pins : List (Addr × Obj)) (s : Shared) (σ : St) (H : Hp) (E : Value → Shared → Prop), Inv X pins σ H s → (∀ b ∈ fp, dB X pins H b) → tn i s.heap → J.stop i H →
    wpAny (model P w) X.A (pyNext (.ref it)) (fun r s1 => r = none ∧ Inv X pins σ H s1) E s
  self : ∀ (A : Around) (i : Nat) (s : Shared) (Q : Value → Shared → Prop) (E : Value → Shared → Prop), tn i s.heap → Q (.ref it) s → wpAny (model P w) A (pyIter (.ref it)) Q E s
noncomputable abbrev TI := St → Hp → (It → Hp → Prop) → Prop
noncomputable def Et (X : Cx) (pins : List (Addr × Obj)) (σ : St) (tg : Expr) (R : It → Hp → Prop) (tI : Value) (s2 : Shared) : Prop :=
  ∃ (it : Addr) (fp : List Addr) (tn : Nat → Heap → Prop) (J : It) (H' : Hp), tI = .ref it ∧ Inv X pins σ H' s2 ∧ Turn X.prog X.w X.K tg J fp it tn ∧ tn 0 s2.heap ∧ (∀ b ∈ fp, dB X pins H' b) ∧ R J H'
noncomputable def PI (X : Cx) (tg iter : Expr) (wi : TI) : Prop :=
  ∀ (pins : List (Addr × Obj)) (s : Shared) (σ : St) (H : Hp) (R : It → Hp → Prop), Inv X pins σ H s → wi σ H R →
    wpAny (model X.prog X.w) X.A (eval iter X.env) (fun v s1 => wpAny (model X.prog X.w) X.A (pyIter v) (Et X pins σ tg R) X.xe s1) X.xe s
theorem qj {M : Model} {A : Around} {E : Value → Shared → Prop} {s : Shared} {tg : Expr} {it : Addr} {u : Value} {o : Obj} {n : String} {vs : Array Value} {Q : Unit → Shared → Prop} (ho : s.heap.get? it = some o) (hc : o.cls = .type n) (hd : o.data = .fields vs)
    (hn : ["enumerate", "zip", "dict_itemiterator", "dict_reverseitemiterator", "odict_iterator", "itertools.zip_longest", "itertools.pairwise"].contains n = false) (hQ : Q () s) : wpAny M A (letOwnedTupleGo tg (.ref it) u) Q E s := by
  unfold letOwnedTupleGo
  cases tg <;> first
    | exact wpAny_pure hQ
    | (cases u <;> first
        | exact wpAny_pure hQ
        | (refine wpAny_bind (wpAny_load ho ?_)
           rw [hc, hd]
           show wpAny M A (if (["enumerate", "zip", "dict_itemiterator", "dict_reverseitemiterator", "odict_iterator", "itertools.zip_longest", "itertools.pairwise"].contains n && vs[0]? == some (rawInt _)) = true then _ else _) Q E s
           rw [if_neg (by intro h; rw [hn, Bool.false_and] at h; cases h)]
           exact wpAny_pure hQ))
noncomputable def Eu (K : PySem.W.Frag) (a : Addr) : It :=
  ⟨fun i H => ∃ xs x, bM K H a xs ∧ xs[i]? = some x, fun i H x H' => H' = H ∧ ∀ xs, bM K H a xs → xs[i]? = some x, fun i H => ∃ xs, bM K H a xs ∧ xs.length ≤ i⟩
noncomputable def Ew (K : PySem.W.Frag) (a : Addr) : It :=
  ⟨fun i H => ∃ xs x, bN K H a xs ∧ xs[i]? = some x, fun i H x H' => H' = H ∧ ∀ xs, bN K H a xs → xs[i]? = some x, fun i H => ∃ xs, bN K H a xs ∧ xs.length ≤ i⟩
noncomputable def v8 (lo : Int) (n : Nat) : It := ⟨fun i _ => i < n, fun i H x H' => H' = H ∧ x = .int (lo + i), fun i _ => n ≤ i⟩
theorem wa {P : Program} {w : World} {K : PySem.W.Frag} {tg : Expr} (a it : Addr) : Turn P w K tg (Eu K a) [it] it (fun i h => h.IsListIter it a i) where
  mem := by simp
  obj := fun i h st b hb => by
    have e : b = it := by simpa using hb
    subst e
    obtain ⟨o, e, c, d⟩ := st
    exact ⟨o, e, fun v z => by rw [d] at z; cases z⟩
  keep := fun i h h' st k => st.at fun o e => k it (by simp) o e
  item := by
    intro X hP hw hK hc i pins s σ H E I hf st hg
    subst hP hw hK
    obtain ⟨xs, x, hq, hx⟩ := hg
    obtain ⟨its, rv, p, hz⟩ := I.list hq
    obtain ⟨u, hu, ru⟩ := rv.get hx
    obtain ⟨f0, f1, f2, f3, f4, f5⟩ := hf it (by simp)
    refine wpAny_pyNext_list_item st p.isList (x := u) (by simpa using hu) fun h' kf sb => ?_
    have I1 : Inv X pins σ H { s with heap := h' } := I.turned (t' := s.toks) (fun b o hb e => (sb.2 b hb).trans e) f0 f1 f3 f4 f5
    obtain ⟨o, e, c, d⟩ := id kf
    exact ⟨u, rfl, qj (s := { s with heap := h' }) e c d (by decide) ⟨x, H, I1, ru, ⟨rfl, fun ys hy => by rw [I.qD hy hq]; exact hx⟩, kf, fun b hb => (hf b hb).1⟩⟩
  done := by
    intro X hP hw hK hc i pins s σ H E I hf st hg
    subst hP hw hK
    obtain ⟨xs, hq, hx⟩ := hg
    obtain ⟨its, rv, p, hz⟩ := I.list hq
    obtain ⟨f0, f1, f2, f3, f4, f5⟩ := hf it (by simp)
    have hl := rv.length
    exact wpAny_pyNext_list_end (I.ok.hd hc) st p.isList (by simp; omega) fun h' eb => ⟨rfl, I.turned (t' := s.toks) (fun b o hb e => eb b o hb e) f0 f1 f3 f4 f5⟩
  self := fun _ _ _ _ _ st h => wpAny_pyIter_listiter st h
theorem uy {P : Program} {w : World} {K : PySem.W.Frag} {tg : Expr} (a it : Addr) : Turn P w K tg (Ew K a) [it] it (fun i h => h.IsTupleIter it a i) where
  mem := by simp
  obj := fun i h st b hb => by
    have e : b = it := by simpa using hb
    subst e
    obtain ⟨o, e, c, d⟩ := st
    exact ⟨o, e, fun v z => by rw [d] at z; cases z⟩
  keep := fun i h h' st k => st.at fun o e => k it (by simp) o e
  item := by
    intro X hP hw hK hc i pins s σ H E I hf st hg
    subst hP hw hK
    obtain ⟨xs, x, hq, hx⟩ := hg
    obtain ⟨its, rv, p, hz⟩ := I.tuple hq
    obtain ⟨u, hu, ru⟩ := rv.get hx
    obtain ⟨f0, f1, f2, f3, f4, f5⟩ := hf it (by simp)
    refine wpAny_pyNext_tuple_item st (show s.heap.IsTuple a its.toArray from p) (x := u) (by simpa using hu) fun h' kf sb => ?_
    have I1 : Inv X pins σ H { s with heap := h' } := I.turned (t' := s.toks) (fun b o hb e => (sb.2 b hb).trans e) f0 f1 f3 f4 f5
    obtain ⟨o, e, c, d⟩ := id kf
    exact ⟨u, rfl, qj (s := { s with heap := h' }) e c d (by decide) ⟨x, H, I1, ru, ⟨rfl, fun ys hy => by rw [I.oX hy hq]; exact hx⟩, kf, fun b hb => (hf b hb).1⟩⟩
  done := by
    intro X hP hw hK hc i pins s σ H E I hf st hg
    subst hP hw hK
    obtain ⟨xs, hq, hx⟩ := hg
    obtain ⟨its, rv, p, hz⟩ := I.tuple hq
    obtain ⟨f0, f1, f2, f3, f4, f5⟩ := hf it (by simp)
    have hl := rv.length
    exact wpAny_pyNext_tuple_end (I.ok.hd hc) st (show s.heap.IsTuple a its.toArray from p) (by simp; omega) fun h' eb => ⟨rfl, I.turned (t' := s.toks) (fun b o hb e => eb b o hb e) f0 f1 f3 f4 f5⟩
  self := fun _ _ _ _ _ st h => wpAny_pyIter_tupleiter st h
theorem uz {P : Program} {w : World} {K : PySem.W.Frag} {tg : Expr} (it : Addr) (lo : Int) (n : Nat) : Turn P w K tg (v8 lo n) [it] it (fun i h => IsRangeIter h it (lo + (i : Nat) * 1) ((n : Int) - (i : Nat)) 1) where
  mem := by simp
  obj := fun i h st b hb => by
    have e : b = it := by simpa using hb
    subst e
    exact ⟨_, st, fun v z => by
      have z' : Data.fields _ = Data.cell v := z
      cases z'⟩
  keep := fun i h h' st k => k it (by simp) _ st
  item := by
    intro X hP hw hK hc i pins s σ H E I hf st hg
    subst hP hw hK
    obtain ⟨f0, f1, f2, f3, f4, f5⟩ := hf it (by simp)
    have W := Walks.range (prog := X.prog) (w := X.w) (I.ok.hd hc) it lo 1 n
    refine W.item i s _ _ hg st fun v h' tk hv kf kk => ?_
    obtain ⟨t, rfl⟩ := hv
    have I1 : Inv X pins σ H { s with heap := h', toks := tk } := I.turned (fun b o hb e => kk b o (by simpa using hb) e) f0 f1 f3 f4 f5
    refine ⟨_, rfl, qj (s := { s with heap := h', toks := tk }) (n := "range_iterator") kf rfl rfl (by decide) ⟨.int (lo + i), H, I1, ⟨t, ?_⟩, ⟨rfl, rfl⟩, kf, fun b hb => (hf b hb).1⟩⟩
    rw [Int.mul_one]
  done := by
    intro X hP hw hK hc i pins s σ H E I hf st hg
    subst hP hw hK
    obtain ⟨f0, f1, f2, f3, f4, f5⟩ := hf it (by simp)
    exact wpAny_pyNext_range_end (I.ok.hd hc) st (by have : n ≤ i := hg; omega) fun h' eb => ⟨rfl, I.turned (t' := s.toks) (fun b o hb e => eb b o hb e) f0 f1 f3 f4 f5⟩
  self := fun _ _ _ _ _ st h => wpAny_pyIter_rangeiter st h
section
variable {X : Cx} {tg : Expr}
noncomputable def Ba (K : PySem.W.Frag) (tl : TE) : TI := fun σ H R => tl σ H fun x H1 => ∃ a, x = .ref a ∧ (∃ xs, bM K H1 a xs) ∧ R (Eu K a) H1
noncomputable def Ez (K : PySem.W.Frag) (tl : TE) : TI := fun σ H R => tl σ H fun x H1 => ∃ a, x = .ref a ∧ (∃ xs, bN K H1 a xs) ∧ R (Ew K a) H1
theorem B8 {l : Expr} {tl : TE} (hl : PE X l tl) : PI X tg l (Ba X.K tl) := by
  intro pins s σ H R I h
  refine thn (hl pins s σ H _ I h) fun v s1 ⟨x, H1, I1, r1, q1⟩ => ?_
  obtain ⟨a, e, ⟨xs, hq⟩, q⟩ := q1
  subst e
  cases r1
  obtain ⟨its, rv, p, hz⟩ := I1.list hq
  refine wpAny_pyIter_list p.isList ?_
  refine ⟨s1.heap.objs.size, [s1.heap.objs.size], _, _, H1, rfl, I1.kept (t' := s1.toks) fun b o e => Heap.get?_push_of_some _ e, wa a _, ⟨_, Heap.get?_push_size _ rfl, rfl, rfl⟩, fun b hb => ?_, q⟩
  have e : b = s1.heap.objs.size := by simpa using hb
  subst e
  exact I1.jH (Nat.le_refl _) (I1.hok.fresh (Nat.le_refl _))
theorem EA {l : Expr} {tl : TE} (hl : PE X l tl) : PI X tg l (Ez X.K tl) := by
  intro pins s σ H R I h
  refine thn (hl pins s σ H _ I h) fun v s1 ⟨x, H1, I1, r1, q1⟩ => ?_
  obtain ⟨a, e, ⟨xs, hq⟩, q⟩ := q1
  subst e
  cases r1
  obtain ⟨its, rv, p, hz⟩ := I1.tuple hq
  refine wpAny_pyIter_tuple (show s1.heap.IsTuple a its.toArray from p) ?_
  refine ⟨s1.heap.objs.size, [s1.heap.objs.size], _, _, H1, rfl, I1.kept (t' := s1.toks) fun b o e => Heap.get?_push_of_some _ e, uy a _, ⟨_, Heap.get?_push_size _ rfl, rfl, rfl⟩, fun b hb => ?_, q⟩
  have e : b = s1.heap.objs.size := by simpa using hb
  subst e
  exact I1.jH (Nat.le_refl _) (I1.hok.fresh (Nat.le_refl _))
theorem qF {pins : List (Addr × Obj)} {σ : St} {H : Hp} {s : Shared} {R : It → Hp → Prop} {E : Value → Shared → Prop} {lo hi : Int} {t u v : Tok} {tk : Nat} (I : Inv X pins σ H s) (h1 : -(2 ^ 62) ≤ lo) (h2 : lo < 2 ^ 62) (h3 : -(2 ^ 62) ≤ hi) (h4 : hi < 2 ^ 62)
    (q : R (v8 lo (hi - lo).toNat) H) : wpAny (model X.prog X.w) X.A (pyIter (.ref s.heap.objs.size)) (Et X pins σ tg R) E { s with heap := s.heap.push { cls := .type "range", data := .fields #[.int lo t, .int hi u, .int 1 v] }, toks := tk } := by
  refine wpAny_pyIter_range (IsRange.new ..) (small_one h1 h2 h3 h4) ?_
  have I1 : Inv X pins σ H { s with heap := s.heap.push { cls := .type "range", data := .fields #[.int lo t, .int hi u, .int 1 v] }, toks := tk } := I.kept fun b o e => Heap.get?_push_of_some _ e
  refine ⟨(s.heap.push { cls := .type "range", data := .fields #[.int lo t, .int hi u, .int 1 v] }).objs.size, [(s.heap.push { cls := .type "range", data := .fields #[.int lo t, .int hi u, .int 1 v] }).objs.size], _, _, H, rfl,
    I1.kept (t' := tk) fun b o e => Heap.get?_push_of_some _ e, uz _ lo (hi - lo).toNat, ?_, fun b hb => ?_, q⟩
  · have e1 : lo + ((0 : Nat) : Int) * 1 = lo := by simp
    have e2 : (((hi - lo).toNat : Nat) : Int) - ((0 : Nat) : Int) = Builtin.Range.rangeSize lo hi 1 := by rw [rangeSize_one]; split <;> omega
    show IsRangeIter _ _ (lo + ((0 : Nat) : Int) * 1) ((((hi - lo).toNat : Nat) : Int) - ((0 : Nat) : Int)) 1
    rw [e1, e2]
    exact Heap.get?_push_size _ rfl
  · have e : b = (s.heap.push { cls := .type "range", data := .fields #[.int lo t, .int hi u, .int 1 v] }).objs.size := by simpa using hb
    subst e
    exact I1.jH (Nat.le_refl _) (I1.hok.fresh (Nat.le_refl _))
noncomputable def Bb (ta : TA) : TI := fun σ H R => ta σ H fun vs H1 => ∃ j : Int, vs = [.int j] ∧ -(2 ^ 62) ≤ j ∧ j < 2 ^ 62 ∧ R (v8 0 j.toNat) H1
noncomputable def Bc (ta : TA) : TI := fun σ H R => ta σ H fun vs H1 => ∃ i j : Int, vs = [.int i, .int j] ∧ (-(2 ^ 62) ≤ i ∧ i < 2 ^ 62 ∧ -(2 ^ 62) ≤ j ∧ j < 2 ^ 62) ∧ R (v8 i (j - i).toNat) H1
theorem wc {a : Expr} {ta : TA} {p pos : Pos} (hg : Gl X "range") (hm : X.mg "range" = none) (ha : PA X [a] ta) (hs : starEach [a] X.env = [(false, eval a X.env)] := by rfl) : PI X tg (.Call (.Name "range" p) [a] [] pos) (Bb ta) := by
  intro pins s σ H R I h
  refine Call_ (fH I hg hm boot_range (PyProof.Rows.callWith_type1 (thn (ha pos pins s σ H _ I h) fun us s1 ⟨vs, H1, I1, r1, q1⟩ => ?_) hs rfl))
  obtain ⟨j, e, q1, q2, q⟩ := q1
  subst e
  cases r1 with
  | cons r rr =>
    cases rr
    obtain ⟨t, rfl⟩ := r
    exact call_range_1 (qF I1 (by omega) (by omega) q1 q2 (by simpa using q))
theorem wd {a b : Expr} {ta : TA} {p pos : Pos} (hg : Gl X "range") (hm : X.mg "range" = none) (ha : PA X [a, b] ta) (hs : starEach [a, b] X.env = [(false, eval a X.env), (false, eval b X.env)] := by rfl) (Bd : starEach [b] X.env = [(false, eval b X.env)] := by rfl) :
    PI X tg (.Call (.Name "range" p) [a, b] [] pos) (Bc ta) := by
  intro pins s σ H R I h
  refine Call_ (fH I hg hm boot_range (PyProof.Rows.callWith_type1 (thn (ha pos pins s σ H _ I h) fun us s1 ⟨vs, H1, I1, r1, q1⟩ => ?_) (by rw [hs, Bd]) (by rw [Bd]; rfl)))
  obtain ⟨i, j, e, ⟨q1, q2, q3, q4⟩, q⟩ := q1
  subst e
  cases r1 with
  | cons r rr =>
    cases rr with
    | cons r' rr =>
      cases rr
      obtain ⟨t, rfl⟩ := r
      obtain ⟨t', rfl⟩ := r'
      exact call_range_2 (qF I1 q1 q2 q3 q4 q)
noncomputable def EB (wi : TI) (g : TG) (tb : TS) : TS := fun D σ H => wi σ H fun J H1 => ∃ W : Nat → Nat → St → Hp → Prop, (∃ m, W 0 m σ H1) ∧ ∀ i m σ H, W i m σ H →
  (J.stop i H ∧ D.nx σ H) ∨ (J.go i H ∧ ∃ N : St → Hp → Prop, (∀ aA H', N aA H' → ∃ m', m' < m ∧ W (i + 1) m' aA H') ∧ ∀ x H', J.yld i H x H' → g x σ H' fun gC H2 => tb { D with nx := N, ct := N, bk := D.nx } gC H2)
noncomputable def il (fp : List Addr) (h : Heap) : List (Addr × Obj) := fp.filterMap fun b => (h.get? b).map fun o => (b, o)
theorem c7 {fp : List Addr} {h : Heap} {b : Addr} {o : Obj} (hb : b ∈ fp) (e : h.get? b = some o) : (b, o) ∈ il fp h := List.mem_filterMap.mpr ⟨b, hb, by rw [e]; rfl⟩
theorem we {fp : List Addr} {h : Heap} {p : Addr × Obj} (hp : p ∈ il fp h) : p.1 ∈ fp ∧ h.get? p.1 = some p.2 := by
  obtain ⟨b, hb, e⟩ := List.mem_filterMap.mp hp
  cases q : h.get? b with
  | none => rw [q] at e; cases e
  | some o =>
    rw [q] at e
    have e' : (b, o) = p := Option.some.inj e
    subst e'
    exact ⟨hb, q⟩
theorem Inv.pinned {pins : List (Addr × Obj)} {σ : St} {H : Hp} {s : Shared} {fp : List Addr} (I : Inv X pins σ H s) (hf : ∀ b ∈ fp, dB X pins H b) (ho : ∀ b ∈ fp, ∃ o, s.heap.get? b = some o ∧ ∀ v, o.data ≠ .cell v) : Inv X (pins ++ il fp s.heap) σ H s :=
  I.nY fun p hp => (List.mem_append.mp hp).elim (fun z => I.pin p (List.mem_append_right _ z)) fun z => by
    obtain ⟨hb, e⟩ := we z
    obtain ⟨f0, f1, f2, _⟩ := hf p.1 hb
    obtain ⟨o, e', d⟩ := ho p.1 hb
    rw [e] at e'; cases e'
    exact ⟨e, f0, f1, f2, d⟩
theorem Inv.eE {pins pl : List (Addr × Obj)} {σ : St} {H : Hp} {s : Shared} (I : Inv X (pins ++ pl) σ H s) : Inv X pins σ H s := I.nY fun p hp => I.pin p (List.mem_append_right _ (List.mem_append_left _ hp))
theorem EC {iter : Expr} {body : List Stmt} {wi : TI} {g : TG} {tb : TS} {pos : Pos} (hp : PassesOwn (model X.prog X.w) X.A X.env X.xe) (hc : X.calm = true) (hi : PI X tg iter wi) (hg : PG X tg g) (hb : eA X body tb)
    (hs : ∀ x, foldedSetIterable iter X.env x = pure x := by intro _; rfl) : PS X (.For tg iter body [] pos) (EB wi g tb) := by
  refine ⟨?_⟩
  intro pins s σ H D I h
  refine wpAny_For (thn (hi pins s σ H _ I h) fun v s1 h1 => thn h1 fun tI s2 h2 => ?_) hs
  obtain ⟨it, fp, tn, J, H2, e, I2, T, mY, f2, W, ⟨m0, w0⟩, turn⟩ := h2
  subst e
  have stat : ∀ {H' : Hp}, (∀ b ∈ fp, H' b = none) → ∀ b ∈ fp, dB X pins H' b := fun hn b hb => ⟨hn b hb, (f2 b hb).2⟩
  refine codeAny_forLoop_any (fun n s' => ∃ i aA H', Inv X pins aA H' s' ∧ tn i s'.heap ∧ (∀ b ∈ fp, H' b = none) ∧ W i n aA H') ?_ m0 ⟨0, σ, H2, I2, mY, fun b hb => (f2 b hb).1, w0⟩
  rintro n s3 ⟨i, j1, H3, I3, kg, oZ, w3⟩
  rcases turn i n j1 H3 w3 with ⟨stop, qn⟩ | ⟨go, N, hN, step⟩
  · refine wpAny_passesOwn hp (thn (T.done X rfl rfl rfl hc i pins s3 j1 H3 X.xe I3 (stat oZ) kg stop) fun r s4 ⟨hr, I4⟩ => ?_)
    subst hr
    exact wpAny_execs_nil ⟨j1, H3, I4, qn⟩
  · refine wpAny_passesOwn hp (thn (T.item X rfl rfl rfl hc i pins s3 j1 H3 X.xe I3 (stat oZ) kg go) fun r s4 ⟨u, hr, h4⟩ => ?_)
    subst hr
    refine wpAny_passesOwn hp (thn h4 fun _ s5 ⟨x, H5, I5, r5, y5, ip, qG⟩ => ?_)
    have qH := I5.pinned (stat qG) (T.obj _ _ ip)
    refine wpAny_passesOwn hp (thn (hg _ s5 j1 H5 x u _ qH r5 (step x H5 y5)) fun _ s6 ⟨MZ, H6, I6, q6⟩ => ?_)
    refine wpAny_passesOwn hp (thn (hb _ s6 MZ H6 _ I6 q6) fun f s7 q7 => ?_)
    have again : ∀ {kh : St} {H7 : Hp}, Inv X (pins ++ il fp s5.heap) kh H7 s7 → N kh H7 → ∃ m, m < n ∧ ∃ i aA H', Inv X pins aA H' s7 ∧ tn i s7.heap ∧ (∀ b ∈ fp, H' b = none) ∧ W i m aA H' := fun {kh H7} I7 n7 => by
      obtain ⟨m', hm, w7⟩ := hN kh H7 n7
      refine ⟨m', hm, i + 1, kh, H7, I7.eE, T.keep _ _ _ ip fun b hb o e => (I7.pin (b, o) (List.mem_append_right _ (List.mem_append_right _ (c7 hb e)))).1, fun b hb => ?_, w7⟩
      obtain ⟨o, e, d⟩ := T.obj _ _ ip b hb
      exact (I7.pin (b, o) (List.mem_append_right _ (List.mem_append_right _ (c7 hb e)))).2.1
    cases f with
    | next => obtain ⟨kh, H7, I7, n7⟩ := q7; exact again I7 n7
    | cont => obtain ⟨kh, H7, I7, n7⟩ := q7; exact again I7 n7
    | brk => obtain ⟨kh, H7, I7, q7⟩ := q7; exact ⟨kh, H7, I7.eE, q7⟩
    | ret v => obtain ⟨x7, kh, H7, I7, r7, q7⟩ := q7; exact ⟨x7, kh, H7, I7.eE, r7, q7⟩
end
noncomputable abbrev R2 := V → V → Hp → VK → Prop
noncomputable def OpR (X : Cx) (f : Value → Value → Sem Value) (r : R2) : Prop :=
  ∀ (pins : List (Addr × Obj)) (s : Shared) (σ : St) (H : Hp) (x y : V) (v u : Value) (Q : VK), Inv X pins σ H s → RelV x v → RelV y u → r x y H Q →
    wpAny (model X.prog X.w) X.A (f v u) (EP X pins σ Q) X.xe s
noncomputable def UnR (X : Cx) (f : Value → Sem Value) (r : V → Hp → VK → Prop) : Prop :=
  ∀ (pins : List (Addr × Obj)) (s : Shared) (σ : St) (H : Hp) (x : V) (v : Value) (Q : VK), Inv X pins σ H s → RelV x v → r x H Q →
    wpAny (model X.prog X.w) X.A (f v) (EP X pins σ Q) X.xe s
noncomputable def dQ (X : Cx) (f : Value) (r : List V → Hp → VK → Prop) : Prop :=
  ∀ (pins : List (Addr × Obj)) (s : Shared) (σ : St) (H : Hp) (xs : List V) (us : List Value) (Q : VK), Inv X pins σ H s → Vals xs us → r xs H Q →
    wpAny (model X.prog X.w) X.A (call f us) (EP X pins σ Q) X.xe s
noncomputable def Lk (X : Cx) (r : V → Hp → (Bool → Hp → Prop) → Prop) : Prop :=
  ∀ (pins : List (Addr × Obj)) (s : Shared) (σ : St) (H : Hp) (x : V) (v : Value) (Q : Bool → Hp → Prop), Inv X pins σ H s → RelV x v → r x H Q →
    wpAny (model X.prog X.w) X.A (truthy v) (TP X pins σ Q) X.xe s
noncomputable def wg (r : R2) (ta tb : TE) : TE := fun σ H Q => ta σ H fun x H1 => tb σ H1 fun y H2 => r x y H2 Q
noncomputable def M6 (r : V → Hp → VK → Prop) (ta : TE) : TE := fun σ H Q => ta σ H fun x H1 => r x H1 Q
noncomputable def rI (C : Int → Int → Prop) (g : Int → Int → V) : R2 := fun x y H Q => ∃ i j, x = .int i ∧ y = .int j ∧ C i j ∧ Q (g i j) H
noncomputable def o3 (g : Int → Int → V) : R2 := fun x y H Q => ∃ i j, x = .int i ∧ y = .int j ∧ Q (g i j) H
noncomputable def rU (g : Int → V) : V → Hp → VK → Prop := fun x H Q => ∃ i, x = .int i ∧ Q (g i) H
section
variable {X : Cx} {a b c : Expr} {ta tb tc : TE} {pos : Pos}
theorem zb (ha : PE X a ta) (hb : PE X b tb) {pins : List (Addr × Obj)} {s : Shared} {σ : St} {H : Hp} {R : V → V → Hp → Prop} (I : Inv X pins σ H s)
    (h : ta σ H fun x H1 => tb σ H1 fun y H2 => R x y H2) {Q : Value → Shared → Prop} {f : Value → Value → Sem Value}
    (hf : ∀ v u s2 x y H2, Inv X pins σ H2 s2 → RelV x v → RelV y u → R x y H2 → wpAny (model X.prog X.w) X.A (f v u) Q X.xe s2) :
    wpAny (model X.prog X.w) X.A (eval a X.env) (fun v az => wpAny (model X.prog X.w) X.A (eval b X.env) (fun u mn => wpAny (model X.prog X.w) X.A (f v u) Q X.xe mn) X.xe az) X.xe s := by
  refine thn (ha pins s σ H _ I h) fun v s1 ⟨x, H1, I1, r1, q1⟩ => ?_
  refine thn (hb pins s1 σ H1 _ I1 q1) fun u s2 ⟨y, H2, I2, r2, q2⟩ => ?_
  exact hf v u s2 x y H2 I2 r1 r2 q2
theorem Ii {op : Operator} {r : R2} (ho : OpR X (binaryOp op) r) (ha : PE X a ta) (hb : PE X b tb) : PE X (.BinOp a op b pos) (wg r ta tb) := by
  refine ⟨?_⟩
  intro pins s σ H Q I h
  exact wpAny_BinOp (zb ha hb I h fun v u s2 x y H2 I2 rx ry q => ho pins s2 σ H2 x y v u Q I2 rx ry q)
theorem Ij {op : UnaryOp} {r : V → Hp → VK → Prop} (ho : UnR X (unaryOp op) r) (ha : PE X a ta) : PE X (.UnaryOp op a pos) (M6 r ta) := by
  refine ⟨?_⟩
  intro pins s σ H Q I h
  exact UnaryOp_ (thn (ha pins s σ H _ I h) fun v s1 ⟨x, H1, I1, r1, q1⟩ => ho pins s1 σ H1 x v Q I1 r1 q1)
theorem Be {f : Value → Value → Sem Value} {C : Int → Int → Prop} {g : Int → Int → Int}
    (rule : ∀ (i j : Int) (t u : Tok) (s : Shared) (Q : Value → Shared → Prop) (E : Value → Shared → Prop), C i j → Q (.int (g i j) s.toks) { s with toks := s.toks + 1 } → wpAny (model X.prog X.w) X.A (f (.int i t) (.int j u)) Q E s) :
    OpR X f (rI C fun i j => .int (g i j)) := by
  intro pins s σ H x y v u Q I rx ry h
  obtain ⟨i, j, rfl, rfl, hc, q⟩ := h
  obtain ⟨t, rfl⟩ := rx
  obtain ⟨t', rfl⟩ := ry
  exact rule i j t t' s _ _ hc ⟨.int (g i j), H, I.tok _, ⟨_, rfl⟩, q⟩
theorem ED {f : Value → Value → Sem Value} {g : Int → Int → Int}
    (rule : ∀ (i j : Int) (t u : Tok) (s : Shared) (Q : Value → Shared → Prop) (E : Value → Shared → Prop), Q (.int (g i j) s.toks) { s with toks := s.toks + 1 } → wpAny (model X.prog X.w) X.A (f (.int i t) (.int j u)) Q E s) :
    OpR X f (o3 fun i j => .int (g i j)) := by
  intro pins s σ H x y v u Q I rx ry h
  obtain ⟨i, j, rfl, rfl, q⟩ := h
  obtain ⟨t, rfl⟩ := rx
  obtain ⟨t', rfl⟩ := ry
  exact rule i j t t' s _ _ ⟨.int (g i j), H, I.tok _, ⟨_, rfl⟩, q⟩
theorem zf {f : Value → Value → Sem Value} {g : Int → Int → Bool}
    (rule : ∀ (i j : Int) (t u : Tok) (s : Shared) (Q : Value → Shared → Prop) (E : Value → Shared → Prop), Q (.bool (g i j)) s → wpAny (model X.prog X.w) X.A (f (.int i t) (.int j u)) Q E s) :
    OpR X f (o3 fun i j => .bl (g i j)) := by
  intro pins s σ H x y v u Q I rx ry h
  obtain ⟨i, j, rfl, rfl, q⟩ := h
  obtain ⟨t, rfl⟩ := rx
  obtain ⟨t', rfl⟩ := ry
  exact rule i j t t' s _ _ ⟨.bl (g i j), H, I, rfl, q⟩
noncomputable def EF (i j : Int) : Prop := 0 < j ∧ j < 1073741824
noncomputable def EG (i j : Int) : Prop := 0 ≤ j ∧ j ≤ 1000000 ∧ i.natAbs < 2 ^ 64
noncomputable def uA (i j : Int) : Prop := (-(2 ^ 64) < i ∧ i < 2 ^ 64) ∨ (-(2 ^ 64) < j ∧ j < 2 ^ 64)
theorem uA.ok {i j : Int} (h : uA i j) : IntMulOk i j := by
  rcases h with ⟨h1, h2⟩ | ⟨h1, h2⟩
  · exact .of_left (intBits_le_64 h1 h2)
  · exact .of_right (intBits_le_64 h1 h2)
theorem EH : OpR X (binaryOp .Add) (o3 fun i j => .int (i + j)) := ED fun _ _ _ _ _ _ _ q => add_int q
theorem EI : OpR X (binaryOp .Sub) (o3 fun i j => .int (i - j)) := ED fun _ _ _ _ _ _ _ q => sub_int q
theorem EJ : OpR X (binaryOp .Mult) (rI uA fun i j => .int (i * j)) := Be fun _ _ _ _ _ _ _ hc q => mul_int q hc.ok
theorem B9 : OpR X (binaryOp .FloorDiv) (rI EF fun i j => .int (i / j)) := Be fun i j _ _ _ _ _ hc q => by
  have h1 : (0 : Int) < j := hc.1
  have h2 : j < 1073741824 := hc.2
  exact floordiv_int (by omega) (by rw [Int.fdiv_eq_ediv_of_nonneg i (by omega)]; exact q) (.inl (PyProof.noPylong_small (by omega)))
theorem EK : OpR X (binaryOp .Mod) (rI (fun _ j => 0 < j) fun i j => .int (i % j)) := Be fun i j _ _ _ _ _ hc q => by
  have h1 : (0 : Int) < j := hc
  exact mod_int' (by omega) (by rw [Int.fmod_eq_emod_of_nonneg i (by omega)]; exact q)
theorem EL : OpR X (binaryOp .Pow) (rI EG fun i j => .int (i ^ j.toNat)) := Be fun _ _ _ _ _ _ _ hc q => pow_int_small hc.1 hc.2.1 hc.2.2 q
theorem M7 {f : Value → Sem Value} {g : Int → Int}
    (rule : ∀ (i : Int) (t : Tok) (s : Shared) (Q : Value → Shared → Prop) (E : Value → Shared → Prop), Q (.int (g i) s.toks) { s with toks := s.toks + 1 } → wpAny (model X.prog X.w) X.A (f (.int i t)) Q E s) :
    UnR X f (rU fun i => .int (g i)) := by
  intro pins s σ H x v Q I rx h
  obtain ⟨i, rfl, q⟩ := h
  obtain ⟨t, rfl⟩ := rx
  exact rule i t s _ _ ⟨.int (g i), H, I.tok _, ⟨_, rfl⟩, q⟩
theorem ER : UnR X (unaryOp .USub) (rU fun i => .int (-i)) := M7 fun _ _ _ _ _ q => neg_int q
end
noncomputable def zg : V → V → Bool
  | .ao, .ao => true | .ao, .int _ => true | .int _, .ao => true | .ao, .bl _ => true | .bl _, .ao => true | .ao, .str _ => true | .str _, .ao => true
  | .int _, .int _ => true | .bl _, .bl _ => true | .str _, .str _ => true | .ie _, .ie _ => true
  | .int _, .str _ => true | .str _, .int _ => true | .bl _, .str _ => true | .str _, .bl _ => true
  | _, _ => false
noncomputable def M8 : R2 := fun x y H Q => zg x y = true ∧ Q (.bl (decide (x = y))) H
noncomputable def M9 : R2 := fun x y H Q => zg x y = true ∧ Q (.bl (!decide (x = y))) H
theorem tJ {i j : Int} : decide (V.int i = V.int j) = (i == j) := by
  rw [Bool.eq_iff_iff]
  simp
theorem wj {i j : Bool} : decide (V.bl i = V.bl j) = (i == j) := by
  rw [Bool.eq_iff_iff]
  simp
theorem tK {i j : Str} : decide (V.str i = V.str j) = (i == j) := by
  rw [Bool.eq_iff_iff]
  simp
theorem tL {i j : Array UInt8} : decide (V.ie i = V.ie j) = (i.toList == j.toList) := by
  rw [Bool.eq_iff_iff]
  cases i
  cases j
  simp
section
variable {X : Cx} {a b c : Expr} {ta tb tc : TE} {pos : Pos}
theorem aX {pins : List (Addr × Obj)} {σ : St} {H : Hp} {s : Shared} {Q : VK} {k k' : Bool} (I : Inv X pins σ H s) (q : Q (.bl k) H) (e : k = k') : EP X pins σ Q (.bool k') s := by
  subst e
  exact ⟨.bl k, H, I, rfl, q⟩
theorem Ik : OpR X (compareOp .Eq) M8 := by
  intro pins s σ H x y v u Q I rx ry h
  obtain ⟨hs, q⟩ := h
  cases x with
  | ao =>
    cases rx
    cases y with
    | ao => cases ry; exact PySem.EqNone.eq_none_none (aX I q (by simp))
    | bl j => cases ry; exact PySem.EqNone.eq_none_bool (aX I q (by simp))
    | int j => obtain ⟨t', rfl⟩ := ry; exact PySem.EqNone.eq_none_int (aX I q (by simp))
    | str j => obtain ⟨t', rfl⟩ := ry; exact PySem.EqNone.eq_none_str (aX I q (by simp))
    | _ => exact absurd (show false = true from hs) Bool.false_ne_true
  | bl i =>
    cases rx
    cases y with
    | ao => cases ry; exact PySem.EqNone.eq_bool_none (aX I q (by simp))
    | bl j => cases ry; exact eq_bool (aX I q wj)
    | str j => obtain ⟨t', rfl⟩ := ry; exact PySem.EqMixed.eq_bool_str (aX I q (by simp))
    | _ => exact absurd (show false = true from hs) Bool.false_ne_true
  | int i =>
    obtain ⟨t, rfl⟩ := rx
    cases y with
    | ao => cases ry; exact PySem.EqNone.eq_int_none (aX I q (by simp))
    | int j => obtain ⟨t', rfl⟩ := ry; exact eq_int (aX I q tJ)
    | str j => obtain ⟨t', rfl⟩ := ry; exact PySem.EqMixed.eq_int_str (aX I q (by simp))
    | _ => exact absurd (show false = true from hs) Bool.false_ne_true
  | str i =>
    obtain ⟨t, rfl⟩ := rx
    cases y with
    | ao => cases ry; exact PySem.EqNone.eq_str_none (aX I q (by simp))
    | bl j => cases ry; exact PySem.EqMixed.eq_str_bool (aX I q (by simp))
    | int j => obtain ⟨t', rfl⟩ := ry; exact PySem.EqMixed.eq_str_int (aX I q (by simp))
    | str j => obtain ⟨t', rfl⟩ := ry; exact eq_str (aX I q tK)
    | _ => exact absurd (show false = true from hs) Bool.false_ne_true
  | ie i =>
    obtain ⟨t, rfl⟩ := rx
    cases y with
    | ie j => obtain ⟨t', rfl⟩ := ry; exact PySem.W.eq_bytes (aX I q tL)
    | _ => exact absurd (show false = true from hs) Bool.false_ne_true
  | _ => cases y <;> exact absurd (show false = true from hs) Bool.false_ne_true
theorem Il : OpR X (compareOp .NotEq) M9 := by
  intro pins s σ H x y v u Q I rx ry h
  obtain ⟨hs, q⟩ := h
  cases x with
  | ao =>
    cases rx
    cases y with
    | ao => cases ry; exact PySem.EqNone.ne_none_none (aX I q (by simp))
    | bl j => cases ry; exact PySem.EqNone.ne_none_bool (aX I q (by simp))
    | int j => obtain ⟨t', rfl⟩ := ry; exact PySem.EqNone.ne_none_int (aX I q (by simp))
    | str j => obtain ⟨t', rfl⟩ := ry; exact PySem.EqNone.ne_none_str (aX I q (by simp))
    | _ => exact absurd (show false = true from hs) Bool.false_ne_true
  | bl i =>
    cases rx
    cases y with
    | ao => cases ry; exact PySem.EqNone.ne_bool_none (aX I q (by simp))
    | bl j => cases ry; exact ne_bool (aX I q (congrArg not wj))
    | str j => obtain ⟨t', rfl⟩ := ry; exact PySem.EqMixed.ne_bool_str (aX I q (by simp))
    | _ => exact absurd (show false = true from hs) Bool.false_ne_true
  | int i =>
    obtain ⟨t, rfl⟩ := rx
    cases y with
    | ao => cases ry; exact PySem.EqNone.ne_int_none (aX I q (by simp))
    | int j => obtain ⟨t', rfl⟩ := ry; exact ne_int (aX I q (congrArg not tJ))
    | str j => obtain ⟨t', rfl⟩ := ry; exact PySem.EqMixed.ne_int_str (aX I q (by simp))
    | _ => exact absurd (show false = true from hs) Bool.false_ne_true
  | str i =>
    obtain ⟨t, rfl⟩ := rx
    cases y with
    | ao => cases ry; exact PySem.EqNone.ne_str_none (aX I q (by simp))
    | bl j => cases ry; exact PySem.EqMixed.ne_str_bool (aX I q (by simp))
    | int j => obtain ⟨t', rfl⟩ := ry; exact PySem.EqMixed.ne_str_int (aX I q (by simp))
    | str j => obtain ⟨t', rfl⟩ := ry; exact ne_str (aX I q (congrArg not tK))
    | _ => exact absurd (show false = true from hs) Bool.false_ne_true
  | ie i =>
    obtain ⟨t, rfl⟩ := rx
    cases y with
    | ie j => obtain ⟨t', rfl⟩ := ry; exact PySem.W.ne_bytes (aX I q (congrArg not tL))
    | _ => exact absurd (show false = true from hs) Bool.false_ne_true
  | _ => cases y <;> exact absurd (show false = true from hs) Bool.false_ne_true
theorem Im : OpR X (compareOp .Lt) (o3 fun i j => .bl (decide (i < j))) := zf fun _ _ _ _ _ _ _ q => lt_int q
theorem Io : OpR X (compareOp .LtE) (o3 fun i j => .bl (decide (i ≤ j))) := zf fun _ _ _ _ _ _ _ q => le_int q
theorem Ip : OpR X (compareOp .Gt) (o3 fun i j => .bl (decide (j < i))) := zf fun _ _ _ _ _ _ _ q => gt_int q
theorem wk : OpR X (compareOp .In) (fun x y H Q => ∃ i j, x = .str i ∧ y = .str j ∧ Q (.bl (!(Builtin.Str.occurrences j i 0 j.length 1).isEmpty)) H) := by
  intro pins s σ H x y v u Q I rx ry h
  obtain ⟨i, j, rfl, rfl, q⟩ := h
  obtain ⟨t, rfl⟩ := rx
  obtain ⟨t', rfl⟩ := ry
  exact in_str (aX I q rfl)
theorem cE (b : Expr) {op : CmpOp} (h : op ≠ .In := by decide) (h2 : op ≠ .NotIn := by decide) : behindInMarks op b = false := by
  have e1 : (op == CmpOp.In) = false := by cases op <;> first | rfl | exact absurd rfl h
  have e2 : (op == CmpOp.NotIn) = false := by cases op <;> first | rfl | exact absurd rfl h2
  cases b <;> simp [behindInMarks, e1, e2]
theorem Ca {op : CmpOp} {r : R2} (ho : OpR X (compareOp op) r) (ha : PE X a ta) (hb : PE X b tb) (hm : behindInMarks op b = false) : PE X (.Compare a [op] [b] pos) (wg r ta tb) := by
  refine ⟨?_⟩
  intro pins s σ H Q I h
  exact wpAny_Compare1 (zb ha hb I h fun v u s2 x y H2 I2 rx ry q => ho pins s2 σ H2 x y v u Q I2 rx ry q) hm
noncomputable def uB (t : TE) : TT := fun σ H Q => t σ H fun x H' => ∃ k, x = .bl k ∧ Q k H'
theorem Cb {op : CmpOp} {r : R2} (ho : OpR X (compareOp op) r) (ha : PE X a ta) (hb : PE X b tb) (hm : behindInMarks op b = false) : PT X (.Compare a [op] [b] pos) (uB (wg r ta tb)) := by
  refine ⟨?_⟩
  intro pins s σ H Q I h
  refine wpAny_isTrue_Compare1 (thn (ha pins s σ H _ I h) fun v s1 ⟨x, H1, I1, r1, q1⟩ => thn (hb pins s1 σ H1 _ I1 q1) fun u s2 ⟨y, H2, I2, r2, q2⟩ =>
    thn (ho pins s2 σ H2 x y v u _ I2 r1 r2 q2) fun c s3 ⟨z, H3, I3, r3, k, e, q3⟩ => ?_) hm
  subst e
  cases r3
  exact wpAny_truthy_bool ⟨H3, I3, q3⟩
noncomputable def qI (r r' : R2) (ta tb tc : TE) : TE := fun σ H Q => ta σ H fun x H1 => tb σ H1 fun y H2 => r x y H2 fun z H3 => ∃ k, z = .bl k ∧
  (if k = true then tc σ H3 fun w' H4 => r' y w' H4 Q else Q (.bl false) H3)
theorem zh {op iq : CmpOp} {r r' : R2} (ho : OpR X (compareOp op) r) (ik : OpR X (compareOp iq) r') (ha : PE X a ta) (hb : PE X b tb) (hc : PE X c tc)
    (hm : lastMarks [op, iq] [b, c] = false := by with_unfolding_all rfl) : PE X (.Compare a [op, iq] [b, c] pos) (qI r r' ta tb tc) := by
  refine ⟨?_⟩
  intro pins s σ H Q I h
  refine Compare_chain (thn (ha pins s σ H _ I h) fun v s1 ⟨x, H1, I1, r1, q1⟩ => chain_link (thn (hb pins s1 σ H1 _ I1 q1) fun u s2 ⟨y, H2, I2, r2, q2⟩ =>
    thn (ho pins s2 σ H2 x y v u _ I2 r1 r2 q2) fun d s3 ⟨z, H3, I3, r3, k, e, q3⟩ => ?_)) hm
  subst e
  cases r3
  refine wpAny_truthy_bool ?_
  cases k with
  | false => exact ite_ff ⟨.bl false, H3, I3, rfl, q3⟩
  | true => exact ite_tt (chain_last (thn (hc pins s3 σ H3 _ I3 q3) fun w' s4 ⟨z', H4, I4, r4, q4⟩ => ik pins s4 σ H4 y z' u w' Q I4 r2 r4 q4))
theorem zj {op iq : CmpOp} {r r' : R2} (ho : OpR X (compareOp op) r) (ik : OpR X (compareOp iq) r') (ha : PE X a ta) (hb : PE X b tb) (hc : PE X c tc)
    (hm : lastMarks [op, iq] [b, c] = false := by with_unfolding_all rfl) : PT X (.Compare a [op, iq] [b, c] pos) (uB (qI r r' ta tb tc)) := by
  refine ⟨?_⟩
  intro pins s σ H Q I h
  refine isTrue_chain (thn (ha pins s σ H _ I h) fun v s1 ⟨x, H1, I1, r1, q1⟩ => test_link (thn (hb pins s1 σ H1 _ I1 q1) fun u s2 ⟨y, H2, I2, r2, q2⟩ =>
    thn (ho pins s2 σ H2 x y v u _ I2 r1 r2 q2) fun d s3 ⟨z, H3, I3, r3, k, e, q3⟩ => ?_)) hm
  subst e
  cases r3
  refine wpAny_truthy_bool ?_
  cases k with
  | false =>
    obtain ⟨k', e', q'⟩ := q3
    cases e'
    exact ite_ff ⟨H3, I3, q'⟩
  | true =>
    refine ite_tt (test_last (thn (hc pins s3 σ H3 _ I3 q3) fun w' s4 ⟨z', H4, I4, r4, q4⟩ => thn (ik pins s4 σ H4 y z' u w' _ I4 r2 r4 q4) fun d' s5 ⟨z2, H5, I5, r5, k2, e2, q5⟩ => ?_))
    subst e2
    cases r5
    exact wpAny_truthy_bool ⟨H5, I5, q5⟩
noncomputable def Ln (K : PySem.W.Frag) (x : V) (H : Hp) (k : Bool) : Prop :=
  match x with
  | .ao => k = false
  | .bl b => k = b
  | .int i => k = (i != 0)
  | .str y => y.length ≤ sizeLine ∧ k = ((y.length : Int) != 0)
  | .ie y => y.size ≤ sizeLine ∧ k = ((y.size : Int) != 0)
  | .ref p => (∃ xs, bM K H p xs ∧ k = !xs.isEmpty) ∨ (∃ xs, bN K H p xs ∧ k = !xs.isEmpty) ∨ ∃ bR, H p = some (.dK bR) ∧ k = !bR.isEmpty
  | _ => False
theorem uC {κ : Type} {bR : List (κ × V)} {vs : List (κ × Value)} (r : KV bR vs) : (!vs.isEmpty) = !bR.isEmpty := by
  cases r <;> rfl
theorem mZ {xs : List V} {its : List Value} (r : Vals xs its) : (!its.toArray.isEmpty) = !xs.isEmpty := by
  cases r <;> simp
theorem ju : (sizeLine : Nat) < 2 ^ 63 := by rw [sizeLine_eq]; decide
theorem Nb : Lk X (fun x H Q => ∃ k, Ln X.K x H k ∧ Q k H) := by
  intro pins s σ H x v Q I rx h
  obtain ⟨k, e, q⟩ := h
  have hl := ju
  have hs : sizeLine = 16777216 := sizeLine_eq
  cases x with
  | ao =>
    cases rx
    have e' : k = false := e
    subst e'
    exact truthy_none ⟨H, I, q⟩
  | bl b =>
    cases rx
    have e' : k = b := e
    subst e'
    exact wpAny_truthy_bool ⟨H, I, q⟩
  | int i =>
    obtain ⟨t, rfl⟩ := rx
    have e' : k = (i != 0) := e
    subst e'
    exact PySem.P.truthy_int ⟨H, I, q⟩
  | str y =>
    obtain ⟨t, rfl⟩ := rx
    obtain ⟨hy, e'⟩ : y.length ≤ sizeLine ∧ k = ((y.length : Int) != 0) := e
    subst e'
    exact PySem.P.truthy_str (by omega) ⟨H, I.tok _, q⟩
  | ie y =>
    obtain ⟨t, rfl⟩ := rx
    obtain ⟨hy, e'⟩ : y.size ≤ sizeLine ∧ k = ((y.size : Int) != 0) := e
    subst e'
    exact PySem.W.truthy_bytes (by omega) ⟨H, I.tok _, q⟩
  | ref p =>
    cases rx
    have e' : (∃ xs, bM X.K H p xs ∧ k = !xs.isEmpty) ∨ (∃ xs, bN X.K H p xs ∧ k = !xs.isEmpty) ∨ ∃ bR, H p = some (.dK bR) ∧ k = !bR.isEmpty := e
    rcases e' with ⟨xs, hx, e'⟩ | ⟨xs, hx, e'⟩ | ⟨bR, hx, e'⟩
    · subst e'
      obtain ⟨its, r, pl, hz⟩ := I.list hx
      have hlen := r.length
      exact wpAny_truthy_list pl.isList (by simp only [List.size_toArray]; omega) ⟨H, I.tok _, by rw [mZ r]; exact q⟩
    · subst e'
      obtain ⟨its, r, pl, hz⟩ := I.tuple hx
      have hlen := r.length
      exact truthy_tuple pl (by simp only [List.size_toArray]; omega) ⟨H, I.tok _, by rw [mZ r]; exact q⟩
    · subst e'
      obtain ⟨hz, hS, vs, r, m⟩ : bR.length ≤ sizeLine ∧ (p == sysModules) = false ∧ ∃ vs, KV bR vs ∧ s.heap.DictOf (nX X.prog X.w) p vs := I.hok p _ hx
      have hlen : bR.length = vs.length := Paired.length r
      exact wpAny_truthy_dict hS m (by omega) ⟨H, I.tok _, by rw [uC r]; exact q⟩
  | _ => exact (show False from e).elim
theorem uD : OpR X (binaryOp .Add) (fun x y H Q => ∃ i j, x = .str i ∧ y = .str j ∧ i.length + j.length ≤ sizeLine ∧ Q (.str (i ++ j)) H) := by
  intro pins s σ H x y v u Q I rx ry h
  obtain ⟨i, j, rfl, rfl, hz, q⟩ := h
  obtain ⟨t, rfl⟩ := rx
  obtain ⟨t', rfl⟩ := ry
  exact add_str (fun t' tk => ⟨.str (i ++ j), H, I.tok _, ⟨_, rfl⟩, q⟩) hz
theorem vals1 {x : V} {us : List Value} (r : Vals [x] us) : ∃ u, us = [u] ∧ RelV x u := by
  cases r with
  | cons r1 r2 => cases r2; exact ⟨_, rfl, r1⟩
theorem vals2 {x y : V} {us : List Value} (r : Vals [x, y] us) : ∃ u w', us = [u, w'] ∧ RelV x u ∧ RelV y w' := by
  cases r with
  | cons r1 r2 =>
    cases r2 with
    | cons r3 r4 => cases r4; exact ⟨_, _, rfl, r1, r3⟩
theorem zk : dQ X (.builtin "abs") (fun xs H Q => ∃ i, xs = [.int i] ∧ Q (.int (if i < 0 then -i else i)) H) := by
  intro pins s σ H xs us Q I r h
  obtain ⟨i, rfl, q⟩ := h
  obtain ⟨u, rfl, t, rfl⟩ := vals1 r
  exact call_abs_int fun u tk => ⟨.int (if i < 0 then -i else i), H, I.tok _, ⟨_, rfl⟩, q⟩
theorem wm (hc : X.calm = true) : dQ X (.builtin "max") (fun xs H Q => ∃ i j, xs = [.int i, .int j] ∧ Q (.int (if j > i then j else i)) H) := by
  intro pins s σ H xs us Q I r h
  obtain ⟨i, j, rfl, q⟩ := h
  obtain ⟨u, w', rfl, ⟨t, rfl⟩, ⟨t', rfl⟩⟩ := vals2 r
  refine max_two_ints (I.ok.hd hc) fun h' tk k => ⟨_, H, I.kept k, ?_, q⟩
  by_cases hj : j > i
  · rw [if_pos hj, if_pos hj]; exact ⟨_, rfl⟩
  · rw [if_neg hj, if_neg hj]; exact ⟨_, rfl⟩
theorem wo (hc : X.calm = true) : dQ X (.builtin "min") (fun xs H Q => ∃ i j, xs = [.int i, .int j] ∧ Q (.int (if j < i then j else i)) H) := by
  intro pins s σ H xs us Q I r h
  obtain ⟨i, j, rfl, q⟩ := h
  obtain ⟨u, w', rfl, ⟨t, rfl⟩, ⟨t', rfl⟩⟩ := vals2 r
  refine min_two_ints (I.ok.hd hc) fun h' tk k => ⟨_, H, I.kept k, ?_, q⟩
  by_cases hj : j < i
  · rw [if_pos hj, if_pos hj]; exact ⟨_, rfl⟩
  · rw [if_neg hj, if_neg hj]; exact ⟨_, rfl⟩
noncomputable def EV (K : PySem.W.Frag) (x : V) (H : Hp) (n : Nat) : Prop :=
  match x with
  | .str y => y.length ≤ sizeLine ∧ n = y.length
  | .ie y => y.size ≤ sizeLine ∧ n = y.size
  | .ref p => (∃ xs, bM K H p xs ∧ n = xs.length) ∨ ∃ xs, bN K H p xs ∧ n = xs.length
  | _ => False
theorem zl : dQ X (.builtin "len") (fun xs H Q => ∃ x n, xs = [x] ∧ EV X.K x H n ∧ Q (.int n) H) := by
  intro pins s σ H xs us Q I r h
  obtain ⟨x, n, rfl, e, q⟩ := h
  obtain ⟨u, rfl, rx⟩ := vals1 r
  have hl := ju
  have hs : sizeLine = 16777216 := sizeLine_eq
  cases x with
  | str y =>
    obtain ⟨t, rfl⟩ := rx
    obtain ⟨hy, e'⟩ : y.length ≤ sizeLine ∧ n = y.length := e
    subst e'
    exact len_str (by omega) ⟨.int _, H, I.tok _, ⟨_, rfl⟩, q⟩
  | ie y =>
    obtain ⟨t, rfl⟩ := rx
    obtain ⟨hy, e'⟩ : y.size ≤ sizeLine ∧ n = y.size := e
    subst e'
    exact PySem.W.len_bytes (by omega) ⟨.int _, H, I.tok _, ⟨_, rfl⟩, q⟩
  | ref p =>
    cases rx
    have e' : (∃ xs, bM X.K H p xs ∧ n = xs.length) ∨ ∃ xs, bN X.K H p xs ∧ n = xs.length := e
    rcases e' with ⟨xs, hx, e'⟩ | ⟨xs, hx, e'⟩
    · subst e'
      obtain ⟨its, r', pl, hz⟩ := I.list hx
      have hlen := r'.length
      exact Calls.call_len_list pl.isList (by simp only [List.size_toArray]; omega) ⟨.int xs.length, H, I.tok _, ⟨_, by simp only [List.size_toArray]; rw [hlen]⟩, q⟩
    · subst e'
      obtain ⟨its, r', pl, hz⟩ := I.tuple hx
      have hlen := r'.length
      exact len_tuple pl (by simp only [List.size_toArray]; omega) ⟨.int xs.length, H, I.tok _, ⟨_, by simp only [List.size_toArray]; rw [hlen]⟩, q⟩
  | _ => exact (show False from e).elim
end
structure zm (h : Heap) (x dx C : Addr) (mA : Str → Option Value) : Prop where
  obj : h.get? x = some (PySem.W.instObj C dx)
  ns : h.Ns1 dx mA
  ne : dx ≠ x
theorem wq {h : Heap} {dx : Addr} {mA : Str → Option Value} (n : h.Ns1 dx mA) : ∃ od, h.get? dx = some od ∧ ∀ name, PySem.W.lookIn name od = some (mA name) := by
  obtain ⟨o, es, ep, ho, hd, hk, _, hm⟩ := n
  refine ⟨o, ho, fun name => ?_⟩
  have e := hm name
  unfold nsFind findBy at e
  rw [← Array.find?_toList] at e
  unfold PySem.W.lookIn
  rw [hd]
  dsimp only
  split
  · rename_i y q
    rw [q] at e
    exact congrArg some e
  · rename_i q
    rw [q] at e
    have a : es.toList.any (·.refKey) = false := by
      rw [List.any_eq_false]
      intro y hy
      obtain ⟨z, t, Lp⟩ := hk y (Array.mem_toList_iff.mp hy)
      simp [DictEntry.refKey, Lp]
    have a' : ¬ es.toList.any (·.refKey) = true := by rw [a]; exact Bool.false_ne_true
    rw [if_neg a']
    exact congrArg some e
theorem zm.look {h : Heap} {x dx C : Addr} {mA : Str → Option Value} (I : zm h x dx C mA) : ∃ od, PySem.W.InstAt h x (PySem.W.instObj C dx) C (some od) ∧ ∀ name, PySem.W.lookIn name od = some (mA name) :=
  let ⟨od, ho, hl⟩ := wq I.ns
  ⟨od, ⟨I.obj, rfl, rfl, ho⟩, hl⟩
section
variable {P : Program} {w : World} {H H' : Hp} {h h' : Heap} {a C dx : Addr} {fs MU : List (Str × V)}
theorem Cd (hok : c6 P w H h) (e : H a = some (.ins C dx fs)) : ∃ mA, zm h a dx C mA ∧ (∀ f, y1 (fs.lookup f) (mA f)) ∧ PySem.Within mA (fs.map (·.1)) ∧ fs.length ≤ 1000 ∧ H dx = some (.own a) := by
  obtain ⟨d, z, ne, ob, mA, n, r, q⟩ := (show bA P w H h a (.ins C dx fs) from hok a _ e)
  exact ⟨mA, ⟨ob, n, ne⟩, r, q, z, d⟩
end
structure EW (K : PySem.W.Frag) (C : Addr) : Prop where
  pg : PySem.W.plainGet K C Str.empty = true
  hd : PySem.W.hasDictIn K C = true
  po : PySem.W.plainOver K C = true
  sa : PySem.W.findIn K (.ref C) "__setattr__" = some (some (.builtin "object.__setattr__"))
theorem EW.get {K : PySem.W.Frag} {C : Addr} (c : EW K C) (f : Str) : PySem.W.plainGet K C f = true := c.pg
section
variable {X : Cx} {pins : List (Addr × Obj)} {σ : St} {H : Hp} {s : Shared} {A : Around} {E : Value → Shared → Prop} {Q : Value → Shared → Prop} {c : Value} {b : Bool}
inductive fv (K : PySem.W.Frag) (H : Hp) : V → Value → Prop where
  | ao : fv K H .ao (.type "NoneType")
  | bl (x : Bool) : fv K H (.bl x) (.type "bool")
  | int (i : Int) : fv K H (.int i) (.type "int")
  | str (x : Str) : fv K H (.str x) (.type "str")
  | tG (x : UInt64) : fv K H (.tG x) (.type "float")
  | lst {a : Addr} {xs : List V} (e : H a = some (.lst xs)) : fv K H (.ref a) (.type "list")
  | cM {a : Addr} {o : Obj} {xs : List V} (e : H a = some (.cM o (.lst xs))) : fv K H (.ref a) (.type "list")
  | tup {a : Addr} {xs : List V} (e : H a = some (.tup xs)) : fv K H (.ref a) (.type "tuple")
  | dK {a : Addr} {bR : List (Key × V)} (e : H a = some (.dK bR)) : fv K H (.ref a) (.type "dict")
  | dT {a : Addr} {bR : List (List Key × V)} (e : H a = some (.dT bR)) : fv K H (.ref a) (.type "dict")
  | ins {a C dx : Addr} {fs : List (Str × V)} (e : H a = some (.ins C dx fs)) (cl : EW K C) (ha : PySem.W.findIn K (.ref C) "__class__" = some (some (.builtin "object.__class__")))
      (hn : PySem.W.specialIn K (.builtin "object.__class__") "__get__" = some (some (.builtin "getset_descriptor.__get__"))) (JW : PySem.W.takesIn K (.builtin "object.__class__") = some true)
      (hm : PySem.W.mroIn K C (.type "object") = some true) : fv K H (.ref a) (.ref C)
theorem wt {x : V} {u t : Value} (I : Inv X pins σ H s) (rx : RelV x u) (ty : fv X.K H x t) (e : PySem.W.kitOne X.K t c = some b) (h : ∀ tk, Q (.bool b) { s with toks := tk }) :
    wpAny (model X.prog X.w) A (call (.builtin "isinstance") [u, c]) Q E s := by
  cases ty with
  | ao => cases (show u = Value.none from rx); exact PySem.W.kia_one PySem.W.kitx_none I.d7 True.intro e (fun z => nomatch z) h
  | bl y => cases (show u = Value.bool y from rx); exact PySem.W.kia_one PySem.W.kitx_bool I.d7 True.intro e (fun z => nomatch z) h
  | int i => obtain ⟨t, q⟩ := (show ∃ t, u = Value.int i t from rx); cases q; exact PySem.W.kia_one PySem.W.kitx_int I.d7 True.intro e (fun z => nomatch z) h
  | str y => obtain ⟨t, q⟩ := (show ∃ t, u = Value.str y t from rx); cases q; exact PySem.W.kia_one PySem.W.kitx_str I.d7 True.intro e (fun z => nomatch z) h
  | tG y => obtain ⟨t, q⟩ := (show ∃ t, u = Value.float y t from rx); cases q; exact PySem.W.kia_one PySem.W.kitx_float I.d7 True.intro e (fun z => nomatch z) h
  | @lst a xs ea =>
    cases (show u = Value.ref a from rx)
    obtain ⟨_, _, n, _, h1⟩ := (show bA X.prog X.w H s.heap a (.lst xs) from I.hok a _ ea)
    exact PySem.W.kia_one PySem.W.kitx_list I.d7 ⟨_, h1, rfl⟩ e (fun z => nomatch z) h
  | @cM a ob xs ea =>
    cases (show u = Value.ref a from rx)
    obtain ⟨_, _, _, n, _, h1⟩ := (show bA X.prog X.w H s.heap a (.cM ob (.lst xs)) from I.hok a _ ea)
    exact PySem.W.kia_one PySem.W.kitx_list I.d7 ⟨_, h1, rfl⟩ e (fun z => nomatch z) h
  | @tup a xs ea =>
    cases (show u = Value.ref a from rx)
    obtain ⟨_, _, _, p⟩ := (show bA X.prog X.w H s.heap a (.tup xs) from I.hok a _ ea)
    obtain ⟨o, h1, h2, _⟩ := p
    exact PySem.W.kia_one PySem.W.kitx_tuple I.d7 ⟨o, h1, h2⟩ e (fun z => nomatch z) h
  | @dK a bR ea =>
    cases (show u = Value.ref a from rx)
    obtain ⟨_, _, vs, _, p⟩ := (show bA X.prog X.w H s.heap a (.dK bR) from I.hok a _ ea)
    obtain ⟨o, es, ep, h1, h2, _⟩ := p
    exact PySem.W.kia_one PySem.W.kitx_dict I.d7 ⟨o, h1, h2.1⟩ e (fun z => nomatch z) h
  | @dT a bR ea =>
    cases (show u = Value.ref a from rx)
    obtain ⟨_, _, xs, _, o, es, ep, h1, h2, _⟩ := (show bA X.prog X.w H s.heap a (.dT bR) from I.hok a _ ea)
    exact PySem.W.kia_one PySem.W.kitx_dict I.d7 ⟨o, h1, h2.1⟩ e (fun z => nomatch z) h
  | @ins a C dx fs ea cl ha hn JW hm =>
    cases (show u = Value.ref a from rx)
    obtain ⟨mA, O, _⟩ := Cd I.hok ea
    obtain ⟨od, J, _⟩ := O.look
    exact PySem.W.kia_one (PySem.W.kitx_own (cl.get _) cl.hd ha hn JW hm) I.d7 J e (fun z => nomatch z) h
end
structure bB (k : Nat) (A : Around) : Prop where
  hd : A.handled = none
  dp : A.depth + 3 * k + 5 < recursionLimit
  un : A.units + 16 * k + 200 < cLine
theorem bB.mono {j k : Nat} {A : Around} (r : bB k A) (h : j ≤ k) : bB j A := ⟨r.hd, by have := r.dp; omega, by have := r.un; omega⟩
theorem bB.deeper {k : Nat} {A : Around} (r : bB (k + 1) A) (env : Env) : bB k (A.deeper env) :=
  ⟨r.hd, by have := r.dp; show A.depth + 1 + 3 * k + 5 < _; omega, by have := r.un; show A.units + 3 + 16 * k + 200 < _; omega⟩
theorem bB.depth {k : Nat} {A : Around} (r : bB k A) : A.depth < recursionLimit := by have := r.dp; omega
theorem bB.units {k : Nat} {A : Around} (r : bB k A) : A.units + 64 < cLine := by have := r.un; omega
noncomputable def Lq : TA := fun _ H Q => Q [] H
noncomputable def Iq (ta : TE) (tr : TA) : TA := fun σ H Q => ta σ H fun x H1 => tr σ H1 fun xs H2 => Q (x :: xs) H2
section
variable {X : Cx} {e : Expr} {es : List Expr} {te : TE} {t : TA} {pos : Pos}
theorem wu : PA X [] Lq := ⟨fun _ _ _ _ H Q I h => Calls.spliced_nil ⟨[], H, I, .nil, h⟩⟩
theorem tM (ha : PE X e te) (hr : PA X es t) (hs : starEach (e :: es) X.env = (false, eval e X.env) :: starEach es X.env := by rfl) : PA X (e :: es) (Iq te t) := by
  refine ⟨?_⟩
  intro pos pins s σ H Q I h
  rw [hs]
  show wpAny _ _ (spliced ((false, eval e X.env) :: backTo pos (starEach es X.env))) _ _ s
  refine Calls.spliced_cons (thn (ha pins s σ H _ I h) fun u s1 ⟨x, H1, I1, r1, q1⟩ => ?_)
  exact thn (hr pos pins s1 σ H1 _ I1 q1) fun us s2 ⟨xs, H2, I2, r2, q2⟩ => ⟨x :: xs, H2, I2, .cons r1 r2, q2⟩
noncomputable def Lr (t : TA) : TE := fun σ H Q => t σ H fun xs H1 => xs.length ≤ sizeLine ∧ ∀ p, H1 p = none → Q (.ref p) (upd H1 p (.tup xs))
noncomputable def Ls (t : TA) : TE := fun σ H Q => t σ H fun xs H1 => xs.length ≤ sizeLine ∧ ∀ p, H1 p = none → Q (.ref p) (upd H1 p (.lst xs))
theorem EX {x1} (h : PA X es t) : PE X (.Tuple es x1 pos) (Lr t) := by
  refine ⟨?_⟩
  intro pins s σ H Q I hq
  refine wpAny_Tuple_spliced (thn (h pos pins s σ H _ I hq) fun us s1 ⟨xs, H1, I1, r, z, q⟩ => ⟨by rw [← r.length]; exact z, ?_⟩)
  have hf : H1 s1.heap.objs.size = none := I1.hok.fresh (Nat.le_refl _)
  refine ⟨.ref s1.heap.objs.size, upd H1 s1.heap.objs.size (.tup xs), I1.laid (t' := s1.toks) (fun b u e => Heap.get?_push_of_some _ e) (Nat.le_refl _) ?_, rfl, q _ hf⟩
  exact ⟨z, us, r, ⟨_, Heap.get?_push_size _ rfl, rfl, _, rfl, rfl⟩⟩
theorem wx (h : PA X es t) : PE X (.List es pos) (Ls t) := by
  refine ⟨?_⟩
  intro pins s σ H Q I hq
  refine wpAny_List_spliced (thn (h pos pins s σ H _ I hq) fun us s1 ⟨xs, H1, I1, r, z, q⟩ => ⟨by rw [← r.length]; exact z, ?_⟩)
  have hf : H1 s1.heap.objs.size = none := I1.hok.fresh (Nat.le_refl _)
  refine ⟨.ref s1.heap.objs.size, upd H1 s1.heap.objs.size (.lst xs), I1.laid (t' := s1.toks) (fun b u e => Heap.get?_push_of_some _ e) (Nat.le_refl _) ?_, rfl, q _ hf⟩
  exact ⟨z, us, 0, r, Heap.get?_push_size _ rfl⟩
end
noncomputable abbrev Sp := List V → Hp → VK → XK → Prop
noncomputable abbrev d8 := List Env → Hp → Shared → XK → Value → Shared → Prop
structure ki (P : Program) (w : World) (K : PySem.W.Frag) (mg : Str → Option Value) (base : Heap) (A : Around) (outer : List Env) (s : Shared) (H : Hp) : Prop where
  frames : A.frames = some outer
  mod : Mod K mg base
  bs : ∀ b o, base.get? b = some o → s.heap.get? b = some o ∧ H b = none
  bsz : base.objs.size ≤ s.heap.objs.size
  funs : s.heap.FunFrames base outer
  frf : ∀ b ∈ dz outer, H b = none
  hok : c6 P w H s.heap
  bare : AllBare s.gens
noncomputable def CE (outer : List Env) (P : Program) (w : World) (H : Hp) (s : Shared) (Q : VK) (u : Value) (s' : Shared) : Prop :=
  ∃ v H', s'.os = s.os ∧ Gn s.gens.size s'.gens ∧ Un (dz outer) [] H H' s.heap s'.heap ∧ c6 P w H' s'.heap ∧ RelV v u ∧ Q v H'
noncomputable def CR (CX : d8) (outer : List Env) (P : Program) (w : World) (H : Hp) (s : Shared) (Q : VK) (E : XK) (r : Result) (s' : Shared) : Prop :=
  match r with
  | .ok (.ret u) => CE outer P w H s Q u s'
  | .ok _ => False
  | .error e => CX outer H s E e s'
structure FnOk (P : Program) (w : World) (K : PySem.W.Frag) (mg : Str → Option Value) (base : Heap) (CX : d8) (k : Nat) (f : Addr) (fd : FuncData) (ps : List Str) (sp : Sp) : Prop where
  len : ∀ vs H Q E, sp vs H Q E → vs.length = ps.length
  run : ∀ (A : Around) (outer : List Env) (s : Shared) (H : Hp) (args : Args) (us : List Value) (vs : List V) (Q : VK) (E : XK), bB k A → ki P w K mg base A outer s H → BindsTo s fd args (ps.zip us) → Vals vs us → sp vs H Q E →
    codeAny (model P w) A (.call (.ref f) args) (CR CX outer P w H s Q E) s
theorem FnOk.imp {P : Program} {w : World} {K : PySem.W.Frag} {mg : Str → Option Value} {base : Heap} {CX : d8} {k : Nat} {f : Addr} {fd : FuncData} {ps : List Str} {sp JX : Sp} (F : FnOk P w K mg base CX k f fd ps sp)
    (h : ∀ vs H Q E, JX vs H Q E → sp vs H Q E) : FnOk P w K mg base CX k f fd ps JX :=
  ⟨fun vs H Q E q => F.len vs H Q E (h _ _ _ _ q), fun A outer s H args us vs Q E hr he hb hv hs => F.run A outer s H args us vs Q E hr he hb hv (h _ _ _ _ hs)⟩
section
variable {X : Cx} {pins : List (Addr × Obj)} {σ : St} {H : Hp} {s s' : Shared}
theorem Inv.EY (I : Inv X pins σ H s) : ki X.prog X.w X.K X.mg X.base X.A X.stack s H :=
  ⟨I.ok.frames, I.ok.mod, I.bs, Nat.le_trans I.ok.bsz I.sz, I.stack, I.jt, I.hok, I.bare.1⟩
theorem Inv.after {Q : VK} {u : Value} (I : Inv X pins σ H s) (h : CE X.stack X.prog X.w H s Q u s') : EP X pins σ Q u s' := by
  obtain ⟨v, H', os, bare, un, hok, r, q⟩ := h
  obtain ⟨hh, g, d, t, JY⟩ := s'
  obtain rfl : JY = s.os := os
  exact ⟨v, H', I.call (h' := hh) (g' := g) (d' := d) (t' := t) (ch := []) un hok bare (fun b z => absurd z (by simp)), r, q⟩
end
noncomputable def Bf (sp : Sp) (gU : List V) (E : XK) (t : TA) : TE := fun σ H Q => t σ H fun vs H1 => sp (vs ++ gU) H1 Q E
noncomputable def Binds (K : PySem.W.Frag) (fd : FuncData) (ps : List Str) (ds : List Value) : Prop :=
  ∀ (s : Shared) (us : List Value), K.In s.heap → (us ++ ds).length = ps.length → BindsTo s fd ⟨us, []⟩ (ps.zip (us ++ ds))
theorem Binds.all {K : PySem.W.Frag} {fd : FuncData} {ps : List Str} (h : ∀ us : List Value, us.length = ps.length → bindArgs fd ⟨us, []⟩ = pure (ps.zip us)) : Binds K fd ps [] := fun s us _ hl => by
  rw [List.append_nil] at hl ⊢
  exact .of_eq (h us hl)
noncomputable def Passes (CX : d8) (X : Cx) (E : XK) : Prop := ∀ (pins : List (Addr × Obj)) (σ : St) (H : Hp) (s : Shared) (e : Value) (s' : Shared), Inv X pins σ H s → CX X.stack H s E e s' → X.xe e s'
section
variable {X : Cx} {CX : d8} {k : Nat} {f C : Addr} {fd : FuncData} {ps : List Str} {sp : Sp} {gU : List V} {ds : List Value} {E : XK} {x m : Str} {p pos apos : Pos} {e o : Expr} {es : List Expr} {ta : TE} {t : TA}
theorem wy {pins : List (Addr × Obj)} {σ : St} {H : Hp} {s : Shared} {Q : VK} {us : List Value} {vs : List V} (F : FnOk X.prog X.w X.K X.mg X.base CX k f fd ps sp) (hr : bB k X.A) (hb : Binds X.K fd ps ds) (hd : Vals gU ds) (hx : Passes CX X E)
    (I : Inv X pins σ H s) (r : Vals vs us) (h : sp (vs ++ gU) H Q E) : wpAny (model X.prog X.w) X.A (call (.ref f) us) (EP X pins σ Q) X.xe s := by
  have r2 : Vals (vs ++ gU) (us ++ ds) := r.append hd
  have hl : (us ++ ds).length = ps.length := by rw [← r2.length]; exact F.len _ _ _ _ h
  refine wpAny_call (codeAny_mono (F.run X.A X.stack s H ⟨us, []⟩ (us ++ ds) (vs ++ gU) Q E hr I.EY (hb s us I.d7 hl) r2 h) fun r s' hq => ?_)
  cases r with
  | error e => exact hx pins σ H s e s' I hq
  | ok fl =>
    cases fl with
    | ret u => exact I.after hq
    | next => exact False.elim hq
    | brk => exact False.elim hq
    | cont => exact False.elim hq
theorem Ce (F : FnOk X.prog X.w X.K X.mg X.base CX k f fd ps sp) (hr : bB k X.A) (hg : Gl X x) (hm : X.mg x = some (.ref f)) (hk : PySem.W.keepIn X.K (.ref f) = true) (hb : Binds X.K fd ps ds) (hd : Vals gU ds) (hx : Passes CX X E)
    (ha : PA X (e :: es) t) (cN : (x == ("__debug__" : Str)) = false := by decide) (he : starEach (e :: es) X.env = (false, eval e X.env) :: starEach es X.env := by rfl) (dC : (backTo pos (starEach es X.env)).any (·.1) = false := by rfl) :
    PE X (.Call (.Name x p) (e :: es) [] pos) (Bf sp gU E t) := by
  refine ⟨?_⟩
  intro pins s σ H Q I h
  refine wpAny_Call_Name_kw (hZ I hg hm ?_ cN)
  refine PySem.W.callWith_K (h₀ := X.base) I.ok.mod.kin hk (thn (ha pos pins s σ H _ I h) fun us s1 ⟨vs, H1, I1, r, q⟩ => ⟨I1.d7, ?_⟩) he dC
  exact wy F hr hb hd hx I1 r q
end
structure aN (N P : List Str) (sc : Scope) : Prop where
  kind : sc.kind = .function
  co : sc.isCoroutine = false
  gen : sc.isGenerator = false
  nd : N.Nodup
  pre : N.take P.length = P
  par : ∀ x ∈ P, sc.names.lookup x = some .local ∨ sc.names.lookup x = some .cell
  nofree : ∀ y ∈ sc.names, y.2 ≠ .free
theorem o4 {kindOf : Str → Option NameKind} {x : Str} : ∀ {binds : List (Str × Value)} {m : Str → Option Value}, (∀ v, (x, v) ∉ binds) → bindL kindOf binds m x = m x
  | [], _, _ => rfl
  | (n, v) :: r, m, h => by
    unfold bindL
    rw [o4 fun w hw => h w (List.mem_cons_of_mem _ hw)]
    split
    · have : x ≠ n := by rintro rfl; exact h v List.mem_cons_self
      simp [this]
    · rfl
theorem o5 {kindOf : Str → Option NameKind} {x : Str} : ∀ {binds : List (Str × Value)} {m : Str → Option Value}, (∀ v, (x, v) ∉ binds) → bindC kindOf binds m x = m x
  | [], _, _ => rfl
  | (n, v) :: r, m, h => by
    unfold bindC
    rw [o5 fun w hw => h w (List.mem_cons_of_mem _ hw)]
    split
    · rfl
    · have : x ≠ n := by rintro rfl; exact h v List.mem_cons_self
      simp [this]
theorem o6 {kindOf : Str → Option NameKind} {x : Str} {v : Value} : ∀ {P : List Str} {vs : List Value} {i : Nat} {m : Str → Option Value}, P.Nodup → P[i]? = some x → vs[i]? = some v → kindOf x = some .local →
    bindL kindOf (P.zip vs) m x = some v
  | [], _, _, _, _, h, _, _ => by simp at h
  | _ :: _, [], _, _, _, _, h, _ => by simp at h
  | p :: P, w :: vs, 0, m, nd, h1, h2, hk => by
    simp at h1 h2; subst h1; subst h2
    show bindL kindOf ((p, w) :: P.zip vs) m p = _
    unfold bindL
    rw [o4 fun v hv => (List.nodup_cons.mp nd).1 (List.of_mem_zip hv).1, if_pos hk]
    simp
  | p :: P, w :: vs, i + 1, m, nd, h1, h2, hk => by
    show bindL kindOf ((p, w) :: P.zip vs) m x = _
    unfold bindL
    exact o6 (i := i) (List.nodup_cons.mp nd).2 (by simpa using h1) (by simpa using h2) hk
theorem o7 {kindOf : Str → Option NameKind} {x : Str} {v : Value} : ∀ {P : List Str} {vs : List Value} {i : Nat} {m : Str → Option Value}, P.Nodup → P[i]? = some x → vs[i]? = some v → kindOf x ≠ some .local →
    bindC kindOf (P.zip vs) m x = some v
  | [], _, _, _, _, h, _, _ => by simp at h
  | _ :: _, [], _, _, _, _, h, _ => by simp at h
  | p :: P, w :: vs, 0, m, nd, h1, h2, hk => by
    simp at h1 h2; subst h1; subst h2
    show bindC kindOf ((p, w) :: P.zip vs) m p = _
    unfold bindC
    rw [o5 fun v hv => (List.nodup_cons.mp nd).1 (List.of_mem_zip hv).1, if_neg hk]
    simp
  | p :: P, w :: vs, i + 1, m, nd, h1, h2, hk => by
    show bindC kindOf ((p, w) :: P.zip vs) m x = _
    unfold bindC
    exact o7 (i := i) (List.nodup_cons.mp nd).2 (by simpa using h1) (by simpa using h2) hk
noncomputable def start (N : List Str) (vs : List V) : St := vs.map some ++ List.replicate (N.length - vs.length) none
noncomputable def fh (CX : d8) (P : Program) (w : World) (K : PySem.W.Frag) (mg : Str → Option Value) (base : Heap) (N : List Str) (qual : Str) (scope : Scope) (f : Addr) (cd : Value) (A : Around) (outer : List Env) (s : Shared) (H : Hp) (E : XK) : Cx where
  prog := P
  w := w
  K := K
  mg := mg
  base := base
  A := A.deeper (envOfC qual scope s.heap.objs.size f cd)
  N := N
  s₀ := s
  H₀ := H
  env := envOfC qual scope s.heap.objs.size f cd
  outer := outer
  stack := envOfC qual scope s.heap.objs.size f cd :: outer
  ex := []
  calm := true
  fn := fun _ => true
  pn := []
  xe := fun e s' => wpAny (model P w) (A.deeper (envOfC qual scope s.heap.objs.size f cd)) (leaving (envOfC qual scope s.heap.objs.size f cd) e) (fun _ b8 => CX outer H s E e b8) (fun e' b8 => CX outer H s E e' b8) s'
theorem qJ {sc : Scope} {n : Nat} {x : Str} (h : sc.names.lookup x = some .cell) : ∃ c, (cellsFrom n sc.names []).lookup x = some c := by
  have q := PySem.W.cellsFrom_some sc.names n [] (.inl h)
  exact Option.isSome_iff_exists.mp q
theorem o8 {CX : d8} {P : Program} {w : World} {K : PySem.W.Frag} {mg : Str → Option Value} {base : Heap} {N ps : List Str} {qual : Str} {scope : Scope} {f : Addr} {cd : Value} {A : Around} {outer : List Env} {s s1 : Shared} {H : Hp} {E : XK} {us : List Value} {vs : List V}
    (S : aN N ps scope) (hd : A.handled = none) (e0 : ki P w K mg base A outer s H) (hl : vs.length = ps.length) (r : Vals vs us)
    (x : InCallC s s.heap.objs.size (bindL (envOfC qual scope s.heap.objs.size f cd).kindOf (ps.zip us) fun _ => none) (cellsFrom (s.heap.objs.size + 1) scope.names []) (bindC (envOfC qual scope s.heap.objs.size f cd).kindOf (ps.zip us) fun _ => none) s1) :
    Inv (fh CX P w K mg base N qual scope f cd A outer s H E) [] (start N vs) H s1 := by
  have dC : ps.length ≤ N.length := by have := congrArg List.length S.pre; rw [List.length_take] at this; omega
  obtain ⟨h1, tk, rfl, hk⟩ := x.done
  have EZ : ∀ b : Addr, b ∉ (fh CX P w K mg base N qual scope f cd A outer s H E).ex := fun b z => absurd (show b ∈ ([] : List Addr) from z) (by simp)
  refine ⟨⟨e0.mod, S.kind, rfl, rfl, Nat.le_refl _, fun y z c h1 h2 => ?_, fun y hy => ?_, fun y c _ h => ?_, fun _ => hd, Around.frames_deeper e0.frames, .inr ⟨rfl, rfl⟩, fun b z => absurd z (EZ b), e0.bs, e0.bsz, fun b _ _ => EZ b, fun b z => absurd z (EZ b), e0.funs, e0.frf⟩,
    rfl, ⟨e0.bare, Nat.le_refl _⟩, Un.kept hk, ⟨_, x.toInCall.ns, fun i y v h1 h2 h3 => ?_⟩, fun y c h => ⟨_, x.cell y c h⟩, e0.hok.fresh (Nat.le_refl _), fun y c h => ?_, fun p hp => absurd (show p ∈ ([] : List (Addr × Obj)) from hp) (by simp), e0.hok.kept hk, ?_⟩
  · exact name_of_addr x.apart (PySem.mem_of_lookup h1) (PySem.mem_of_lookup h2)
  · have hy : scope.names.lookup y = some .cell ∨ scope.names.lookup y = some .free := hy
    rcases hy with hy | hy
    · exact qJ hy
    · exact absurd rfl (S.nofree _ (PySem.mem_of_lookup hy))
  · exact Nat.le_of_lt (x.above y c (PySem.mem_of_lookup h))
  · have hi : i < vs.length := by
      unfold start at h2
      by_cases hi : i < vs.length
      · exact hi
      · rw [List.getElem?_append_right (by simpa using hi)] at h2
        rw [List.getElem?_replicate] at h2
        split at h2 <;> cases h2
    have ha : vs[i]? = some v := by
      unfold start at h2
      rw [List.getElem?_append_left (by simpa using hi), List.getElem?_map] at h2
      cases e : vs[i]? with
      | none => rw [e] at h2; cases h2
      | some a => rw [e] at h2; cases h2; rfl
    obtain ⟨u, hu, rv⟩ := r.get ha
    have hp : ps[i]? = some y := by
      rw [← S.pre, List.getElem?_take_of_lt (by omega)]; exact h1
    have JZ : ps.Nodup := by rw [← S.pre]; exact S.nd.sublist (List.take_sublist _ _)
    refine ⟨u, rv, ?_⟩
    rcases S.par y (List.mem_of_getElem? hp) with k | k
    · exact .inl ⟨k, o6 JZ hp hu k⟩
    · obtain ⟨c, e⟩ := qJ (n := s.heap.objs.size + 1) k
      refine .inr ⟨.inl k, c, e, ?_⟩
      have q := x.cell y c e
      rw [o7 JZ hp hu (by show scope.names.lookup y ≠ _; rw [k]; decide)] at q
      exact q
  · exact e0.hok.fresh (Nat.le_of_lt (x.above y c (PySem.mem_of_lookup h)))
  · unfold start
    show _ = N.length
    rw [List.length_append, List.length_map, List.length_replicate]
    omega
theorem Bg {CX : d8} {P : Program} {w : World} {K : PySem.W.Frag} {mg : Str → Option Value} {base : Heap} {k : Nat} {f : Addr} {name qual : Str} {params : Arguments} {body : List Stmt} {scope : Scope} {dV kV doc pm bG ct oc : Value} {an od : Option Addr}
    {fI : Array (Option Value)} {N ps : List Str} {sp : Sp} (lk : K.lookup f = some ⟨oc, od, .func (PySem.W.fnOf name qual params body scope dV kV doc pm an bG ct), fI⟩) (dA : PySem.W.codeIn K bG qual = true) (S : aN N ps scope)
    (len : ∀ vs H Q E, sp vs H Q E → vs.length = ps.length)
    (gY : ∀ (A : Around) (outer : List Env) (s : Shared) (H : Hp) (vs : List V) (Q : VK) (E : XK), bB k (A.deeper (envOfC qual scope s.heap.objs.size f bG)) → sp vs H Q E →
      ∃ t, eA (fh CX P w K mg base N qual scope f bG A outer s H E) body t ∧ t { nx := fun _ H' => Q .ao H', rt := Q } (start N vs) H) :
    FnOk P w K mg base CX (k + 1) f (PySem.W.fnOf name qual params body scope dV kV doc pm an bG ct) ps sp := by
  refine ⟨len, fun A outer s H args us vs Q E hr e0 hb r gD => ?_⟩
  have hl := len _ _ _ _ gD
  have KX : K.In s.heap := e0.mod.kin.keeps fun b o e => (e0.bs b o e).1
  have lim : s.heap.NoLimit := e0.mod.nolimit.keeps fun b o e => (e0.bs b o e).1
  have iW : ∀ y ∈ ps.zip us, scope.names.lookup y.1 = some .local ∨ (scope.names.lookup y.1 = some .cell ∧ ((cellsFrom (s.heap.objs.size + 1) scope.names []).lookup y.1).isSome = true) := fun ⟨n, v⟩ hy => by
    rcases S.par n (List.of_mem_zip hy).1 with q | q
    · exact .inl q
    · exact .inr ⟨q, PySem.W.cellsFrom_some _ _ _ (.inl q)⟩
  refine codeAny_call_function hr.depth (KX _ _ lk) rfl S.co S.gen rfl (PySem.W.codeRec_of KX dA) (hb _ _ _ _ ?_)
  refine wpAny_newFunctionEnv_cells S.kind iW fun env he s1 x => ?_
  subst he
  refine ⟨lim.keeps x.toInCall.keep, codeAny_func ?_⟩
  obtain ⟨t, ht, hq⟩ := gY A outer s H vs Q E (hr.deeper _) gD
  have I : Inv (fh CX P w K mg base N qual scope f bG A outer s H E) [] (start N vs) H s1 := o8 S hr.hd e0 hl r x
  refine wpAny_mono (ht [] s1 (start N vs) H _ I hq) (fun fl s' hs => ?_) fun e s' hs => hs
  have fin : ∀ {aA : St} {H' : Hp} {v : V} {u : Value}, Inv (fh CX P w K mg base N qual scope f bG A outer s H E) [] aA H' s' → RelV v u → Q v H' → CE outer P w H s Q u s' :=
    fun {aA H' v u} J rv q => ⟨v, H', J.os, J.bare, J.base, J.hok, rv, q⟩
  cases fl with
  | ret u =>
    obtain ⟨v, aA, H', J, rv, q⟩ := hs
    exact fin J rv q
  | next =>
    obtain ⟨aA, H', J, q⟩ := hs
    exact fin (v := V.ao) (u := Value.none) J rfl q
  | brk =>
    obtain ⟨_, _, _, q⟩ := hs
    exact False.elim q
  | cont =>
    obtain ⟨_, _, _, q⟩ := hs
    exact False.elim q
section
variable {X : Cx} {x : Str} {p pos : Pos} {e : Expr} {es : List Expr} {t : TA} {id T : String} {r : List V → Hp → VK → Prop}
noncomputable def E1 (r : List V → Hp → VK → Prop) (t : TA) : TE := fun σ H Q => t σ H fun vs H1 => r vs H1 Q
theorem zo (hc : dQ X (.builtin id) r) (hg : Gl X x) (hm : X.mg x = none) (hv : bootBuiltins x = some (.builtin id)) (ha : PA X (e :: es) t) (hn : x ≠ "__name__" := by decide) (cN : (x == ("__debug__" : Str)) = false := by decide)
    (he : starEach (e :: es) X.env = (false, eval e X.env) :: starEach es X.env := by rfl) (dC : (backTo pos (starEach es X.env)).any (·.1) = false := by rfl) : PE X (.Call (.Name x p) (e :: es) [] pos) (E1 r t) := by
  refine ⟨?_⟩
  intro pins s σ H Q I h
  refine wpAny_Call_Name_kw (fH I hg hm hv ?_ hn cN)
  exact PyProof.Rows.callWith_builtin1 (thn (ha pos pins s σ H _ I h) fun us s1 ⟨vs, H1, I1, r1, q1⟩ => hc pins s1 σ H1 vs us Q I1 r1 q1) he dC
theorem wz (hc : dQ X (.type T) r) (hg : Gl X x) (hm : X.mg x = none) (hv : bootBuiltins x = some (.type T)) (ha : PA X (e :: es) t) (hn : x ≠ "__name__" := by decide) (cN : (x == ("__debug__" : Str)) = false := by decide)
    (he : starEach (e :: es) X.env = (false, eval e X.env) :: starEach es X.env := by rfl) (dC : (backTo pos (starEach es X.env)).any (·.1) = false := by rfl) : PE X (.Call (.Name x p) (e :: es) [] pos) (E1 r t) := by
  refine ⟨?_⟩
  intro pins s σ H Q I h
  refine wpAny_Call_Name_kw (fH I hg hm hv ?_ hn cN)
  exact PyProof.Rows.callWith_type1 (thn (ha pos pins s σ H _ I h) fun us s1 ⟨vs, H1, I1, r1, q1⟩ => hc pins s1 σ H1 vs us Q I1 r1 q1) he dC
end
end L2
namespace HT
open PySem PyProof.Rows
section
variable {prog : Program} {w : World} {A : Around} {E : Value → Shared → Prop} {s : Shared}
theorem Cg {t b : Addr} {vs ws : List Value} {Q : Value → Shared → Prop} (ht : IsTup s.heap t vs.toArray) (hb : IsTup s.heap b ws.toArray) (hv : vs ≠ [])
    (h1 : ws = [] → Q (.ref t) s) (h2 : ws ≠ [] → Q (.ref s.heap.objs.size) { s with heap := s.heap.push { cls := .type "tuple", data := .seq (vs ++ ws).toArray } })
    (bY : vs.length + ws.length ≤ sizeLine) : wpAny (model prog w) A (binaryOp .Add (.ref t) (.ref b)) Q E s := by
  obtain ⟨⟨cls, dd, data, sl⟩, ho, hc, n, hd⟩ := id ht
  obtain ⟨⟨Lv, tN, data2, o9⟩, m4, wB, n2, hd2⟩ := id hb
  simp only at hc hd wB hd2
  subst hc hd wB hd2
  have e : vs.toArray ++ ws.toArray = (vs ++ ws).toArray := by simp
  by_cases hw : ws = []
  · exact concat_meets ⟨_, ho, rfl⟩ ⟨_, m4, rfl⟩ noFill_tuple_add seq_tuple_add PySem.F.slot_tuple_add PySem.F.entry_tuple_add (PySem.F.args_tuple_add_2 _ _)
      (tuple_addW1 t b vs.toArray ws.toArray n n2 dd tN sl o9 (by simpa using hv) (by simp [hw])) ⟨ho, m4, h1 hw⟩
  · refine concat_meets ⟨_, ho, rfl⟩ ⟨_, m4, rfl⟩ noFill_tuple_add seq_tuple_add PySem.F.slot_tuple_add PySem.F.entry_tuple_add (PySem.F.args_tuple_add_2 _ _)
      (tuple_addW2 t b vs.toArray ws.toArray n n2 dd tN sl o9 (by simpa using hv) (by simpa using hw) (by rw [List.size_toArray, List.size_toArray]; exact bY)) ⟨ho, m4, ?_⟩
    rw [e]
    exact h2 hw
noncomputable def aT (n d : Nat) : Option Int → Nat
  | none => d
  | some v => if v < 0 then (v + (n : Int)).toNat else min v.toNat n
theorem E3 (n d : Nat) (hd : d ≤ n) (o : Option Int) : aT n d o ≤ n := by
  cases o with
  | none => exact hd
  | some v =>
    show (if v < 0 then (v + (n : Int)).toNat else min v.toNat n) ≤ n
    by_cases hv : v < 0
    · rw [if_pos hv]; omega
    · rw [if_neg hv]; exact Nat.min_le_right _ _
theorem tO (v : Int) (n d : Nat) : (if v < 0 then max (v + (n : Int)) 0 else min v (n : Int)) = ((aT n d (some v) : Nat) : Int) := by
  show (if v < 0 then max (v + (n : Int)) 0 else min v (n : Int)) = (((if v < 0 then (v + (n : Int)).toNat else min v.toNat n) : Nat) : Int)
  by_cases hv : v < 0
  · simp only [if_pos hv]; omega
  · simp only [if_neg hv]; omega
theorem uE (lo hi : Option Int) (n : Nat) : Builtin.Slice.sliceAdjust lo hi 1 (n : Int) = (((aT n 0 lo : Nat) : Int), ((aT n n hi : Nat) : Int)) := by
  have h1 : ¬ ((1 : Int) < 0) := by omega
  unfold Builtin.Slice.sliceAdjust
  simp only [h1, if_false]
  refine Prod.ext ?_ ?_
  · cases lo with
    | none => rfl
    | some v => exact tO v n 0
  · cases hi with
    | none => rfl
    | some v => exact tO v n n
theorem uF (i j : Nat) : Builtin.Slice.slicePlaces (i : Int) (j : Int) 1 = j - i := by
  unfold Builtin.Slice.slicePlaces
  have h1 : (1 : Int) > 0 := by omega
  simp only [h1, if_true, Int.ediv_one]
  split <;> omega
theorem m5 {v : Value} {o : Option Int} {Q : Option Int → Shared → Prop} (p : IsPart v o) (h : Q o s) : wpAny (model prog w) A (Builtin.Slice.slicePartIndex v) Q E s := by
  cases p with
  | none => exact slicePart_none h
  | int i t => exact slicePart_int h
theorem ir {sl : Addr} {vl vu : Value} {lo hi : Option Int} {n : Nat} {Q : Int × Int × Nat → Shared → Prop} (hs : s.heap.IsSliceOf sl vl vu .none) (pl : IsPart vl lo) (pu : IsPart vu hi)
    (h : Q (((aT n 0 lo : Nat) : Int), 1, aT n n hi - aT n 0 lo) s) : wpAny (model prog w) A (Builtin.Slice.sliceApplied (.ref sl) (pure (n : Int))) Q E s := by
  obtain ⟨os, fJ, j4, iX⟩ := id hs
  unfold Builtin.Slice.sliceApplied Builtin.Slice.sliceFields
  refine wpAny_bind (wpAny_bind (wpAny_field fJ iX (x := vl) rfl (wpAny_bind (wpAny_field fJ iX (x := vu) rfl (wpAny_bind (wpAny_field fJ iX (x := .none) rfl (wpAny_pure ?_)))))))
  refine wpAny_bind (slicePart_none ?_)
  show wpAny _ _ (if ((1 : Int) == 0) = true then _ else _) _ _ s
  rw [if_neg (by decide)]
  refine wpAny_bind (m5 pl (wpAny_bind (m5 pu (wpAny_bind (wpAny_pure ?_)))))
  show wpAny _ _ (match Builtin.Slice.sliceAdjust lo hi 1 (n : Int) with | (lo, hi) => pure (lo, (1 : Int), Builtin.Slice.slicePlaces lo hi 1)) _ _ s
  rw [uE lo hi n]
  show wpAny _ _ (pure (((aT n 0 lo : Nat) : Int), (1 : Int), Builtin.Slice.slicePlaces ((aT n 0 lo : Nat) : Int) ((aT n n hi : Nat) : Int) 1)) _ _ s
  rw [uF]
  exact wpAny_pure h
theorem zp (xs : Array Value) (i k : Nat) : ((List.range k).filterMap fun (m : Nat) => xs[((i : Int) + (m : Int) * 1).toNat]?).toArray = ((xs.toList.drop i).take k).toArray := by
  have e : (fun (m : Nat) => xs[((i : Int) + (m : Int) * 1).toNat]?) = fun m => xs[i + m]? := by
    funext m
    have : ((i : Int) + (m : Int) * 1).toNat = i + m := by omega
    rw [this]
  rw [e]
  have := pick_run xs i k
  rw [List.filterMap_map] at this
  have e2 : ((fun x => xs[x]?) ∘ fun x => i + x) = fun m => xs[i + m]? := rfl
  rw [e2] at this
  rw [this]
theorem lK {t sl : Addr} {items : Array Value} {vl vu : Value} {lo hi : Option Int} {Q : Value → Shared → Prop} (ht : IsTup s.heap t items) (hs : s.heap.IsSliceOf sl vl vu .none) (pl : IsPart vl lo) (pu : IsPart vu hi)
    (hw : ¬ (aT items.size 0 lo = 0 ∧ aT items.size items.size hi = items.size))
    (h : Q (.ref s.heap.objs.size) { s with heap := s.heap.push { cls := .type "tuple", data := .seq ((items.toList.drop (aT items.size 0 lo)).take (aT items.size items.size hi - aT items.size 0 lo)).toArray } })
    (bY : items.size ≤ sizeLine) : wpAny (model prog w) A (getItem (.ref t) (.ref sl)) Q E s := by
  have qk : sizeOk (.seq ((items.toList.drop (aT items.size 0 lo)).take (aT items.size items.size hi - aT items.size 0 lo)).toArray) := by
    show ((items.toList.drop (aT items.size 0 lo)).take (aT items.size items.size hi - aT items.size 0 lo)).toArray.size ≤ sizeLine
    rw [List.size_toArray, List.length_take, List.length_drop, Array.length_toList]
    omega
  have hj : aT items.size items.size hi ≤ items.size := E3 _ _ (Nat.le_refl _) hi
  obtain ⟨os, fJ, j4, iX⟩ := id hs
  have E4 : s.TypeIs (.ref sl) "slice" := ⟨os, fJ, j4⟩
  unfold getItem
  try with_reducible refine wpAny_holding ?_
  first | refine wpAny_bind (wpAny_pure ?_) | skip
  refine wpAny_bind (wpAny_sequenceKey ht.typeIs (by decide) ?_)
  refine wpAny_bind (wpAny_callSpecial?_slot (name := Str.ofString "__getitem__") ht.typeIs PyProof.Rows.slot_tuple_getitem
    (wpAny_call_entry PyProof.Rows.slot_tuple_getitem ht.typeIs entry_tuple_getitem ?_ (args_tuple_getitem _ _)))
  show wpAny _ _ (Builtin.Tuple.tupleItemsOf (.ref t) >>= _) _ _ s
  refine wpAny_bind (tupleItemsOf_ ht ?_)
  refine wpAny_bind (wpAny_typeOf E4 ?_)
  rw [if_pos (by decide)]
  refine wpAny_bind (ir hs pl pu ?_)
  have E5 : ¬ ((((aT items.size 0 lo : Nat) : Int) == 0 && (1 : Int) == 1 && (aT items.size items.size hi - aT items.size 0 lo) == items.size) = true) := by
    intro q
    rw [Bool.and_eq_true, Bool.and_eq_true] at q
    have q1 : ((aT items.size 0 lo : Nat) : Int) = 0 := eq_of_beq q.1.1
    have q2 : aT items.size items.size hi - aT items.size 0 lo = items.size := eq_of_beq q.2
    exact hw ⟨by omega, by omega⟩
  show wpAny _ _ (if (((aT items.size 0 lo : Nat) : Int) == 0 && (1 : Int) == 1 && (aT items.size items.size hi - aT items.size 0 lo) == items.size) = true then _ else _) _ _ s
  rw [if_neg E5, zp]
  first
    | exact wpAny_bind (m := Builtin.Tuple.tupleExact _) (wpAny_newObj_type (wpAny_pure ⟨_, rfl, wpAny_pure h⟩) qk)
    | exact wpAny_bind (m := Builtin.Tuple.tupleExact _) (wpAny_newObj_type (wpAny_bind (wpAny_pure (wpAny_pure ⟨_, rfl, wpAny_pure h⟩))) qk)
    | exact wpAny_bind (wpAny_bind (m := Builtin.Tuple.tupleExact _) (wpAny_newObj_type (wpAny_pure (wpAny_pure ⟨_, rfl, wpAny_pure h⟩)) qk))
    | exact wpAny_bind (wpAny_bind (m := Builtin.Tuple.tupleExact _) (wpAny_newObj_type (wpAny_pure ⟨_, rfl, wpAny_pure h⟩) qk))
end
end HT
namespace L2
open PySem PySem.Spec PyProof.Rows
noncomputable abbrev TO := St → Hp → (Option Int → Hp → Prop) → Prop
noncomputable def PO (X : Cx) (e : Option Expr) (t : TO) : Prop :=
  ∀ (pins : List (Addr × Obj)) (s : Shared) (σ : St) (H : Hp) (Q : Option Int → Hp → Prop), Inv X pins σ H s → t σ H Q →
    wpAny (model X.prog X.w) X.A (evalPart e X.env) (fun u s' => ∃ o H', Inv X pins σ H' s' ∧ IsPart u o ∧ Q o H') X.xe s
noncomputable def Ci : TO := fun _ H Q => Q none H
noncomputable def Ir (t : TE) : TO := fun σ H Q => t σ H fun x H1 => ∃ i, x = .int i ∧ Q (some i) H1
section
variable {X : Cx} {e : Expr} {te : TE} {lo hi : Option Expr} {tl th : TO} {pos p2 : Pos}
theorem Cj : PO X none Ci := by
  intro pins s σ H Q I h
  rw [evalPart_none]
  exact wpAny_pure ⟨none, H, I, .none, h⟩
theorem Ck (h : PE X e te) : PO X (some e) (Ir te) := by
  intro pins s σ H Q I hw
  rw [evalPart_some]
  refine thn (h pins s σ H _ I hw) fun u s1 ⟨x, H1, I1, r1, q1⟩ => ?_
  obtain ⟨i, rfl, q⟩ := q1
  obtain ⟨t, rfl⟩ := r1
  exact ⟨some i, H1, I1, .int i t, q⟩
noncomputable def tP (X : Cx) (r : V → Option Int → Option Int → Hp → VK → Prop) : Prop :=
  ∀ (pins : List (Addr × Obj)) (s : Shared) (σ : St) (H : Hp) (x : V) (v vl vu : Value) (lo hi : Option Int) (sl : Addr) (Q : VK), Inv X pins σ H s → RelV x v → s.heap.IsSliceOf sl vl vu .none → IsPart vl lo → IsPart vu hi → r x lo hi H Q →
    ∃ T id, typeLookup (.type T) "__getitem__" = pure (some (.builtin id)) ∧ s.TypeIs v T ∧ wpAny (model X.prog X.w) X.A (getItem v (.ref sl)) (EP X pins σ Q) X.xe s
noncomputable def Nc (r : V → Option Int → Option Int → Hp → VK → Prop) (te : TE) (tl th : TO) : TE := fun σ H Q => te σ H fun x H1 => tl σ H1 fun l H2 => th σ H2 fun u H3 => r x l u H3 Q
theorem zq {r : V → Option Int → Option Int → Hp → VK → Prop} (hr : tP X r) (he : PE X e te) (hl : PO X lo tl) (hu : PO X hi th) : PE X (.Subscript e (.Slice lo hi none p2) pos) (Nc r te tl th) := by
  refine ⟨?_⟩
  intro pins s σ H Q I h
  refine Subscript_ (thn (he pins s σ H _ I h) fun v s1 ⟨x, H1, I1, r1, q1⟩ => ?_)
  refine wpAny_Slice (thn (hl pins s1 σ H1 _ I1 q1) fun vl s2 ⟨l, H2, I2, pl, q2⟩ => thn (hu pins s2 σ H2 _ I2 q2) fun vu s3 ⟨u, H3, I3, pu, q3⟩ => ?_)
  rw [evalPart_none]
  refine wpAny_pure ?_
  have I4 : Inv X pins σ H3 { s3 with heap := s3.heap.push { cls := .type "slice", data := .fields #[vl, vu, .none] } } := I3.kept (t' := s3.toks) fun b ob q => Heap.get?_push_of_some _ q
  obtain ⟨T, id, hT, ht, hg⟩ := hr pins { s3 with heap := s3.heap.push { cls := .type "slice", data := .fields #[vl, vu, .none] } } σ H3 x v vl vu l u s3.heap.objs.size Q I4 r1 (Heap.IsSliceOf.new ..) pl pu q3
  show wpAny (model X.prog X.w) X.A (subscriptTail e (.Slice lo hi none p2) v (.ref s3.heap.objs.size)) (EP X pins σ Q) X.xe { s3 with heap := s3.heap.push { cls := .type "slice", data := .fields #[vl, vu, .none] } }
  exact tail_any (ops := [.ref s3.heap.objs.size, v]) ht hT hg (by with_unfolding_all rfl)
noncomputable def gP (xs : List V) (lo hi : Option Int) : List V := (xs.drop (HT.aT xs.length 0 lo)).take (HT.aT xs.length xs.length hi - HT.aT xs.length 0 lo)
theorem lU (xs : List V) (lo hi : Option Int) : (gP xs lo hi).length ≤ xs.length := by
  unfold gP
  rw [List.length_take, List.length_drop]
  omega
noncomputable def Lw (K : PySem.W.Frag) : V → Option Int → Option Int → Hp → VK → Prop := fun x lo hi H Q => ∃ a xs, x = .ref a ∧ bN K H a xs ∧
  ¬ (HT.aT xs.length 0 lo = 0 ∧ HT.aT xs.length xs.length hi = xs.length) ∧ ∀ p, H p = none → Q (.ref p) (upd H p (.tup (gP xs lo hi)))
theorem E6 : tP X (Lw X.K) := by
  intro pins s σ H x v vl vu lo hi sl Q I rx hs pl pu h
  obtain ⟨a, xs, rfl, hx, hw, q⟩ := h
  cases rx
  obtain ⟨its, r, ht, hz⟩ := I.tuple hx
  have hlen : its.toArray.size = xs.length := by rw [List.size_toArray]; exact r.length.symm
  refine ⟨"tuple", _, PyProof.Rows.slot_tuple_getitem.lookup, ht.typeIs, ?_⟩
  refine HT.lK ht hs pl pu (by rw [hlen]; exact hw) ?_ (by rw [hlen]; exact hz)
  rw [hlen]
  refine ⟨.ref s.heap.objs.size, _, I.laid (t' := s.toks) (o := .tup (gP xs lo hi)) (fun b ob q => Heap.get?_push_of_some _ q) (Nat.le_refl _) ?_, rfl, q _ (I.hok.fresh (Nat.le_refl _))⟩
  exact ⟨Nat.le_trans (lU xs lo hi) hz, _, (r.drop (HT.aT xs.length 0 lo)).take (HT.aT xs.length xs.length hi - HT.aT xs.length 0 lo), gO.new _ _⟩
noncomputable def Iu (K : PySem.W.Frag) : R2 := fun x y H Q => ∃ a b xs ys, x = .ref a ∧ y = .ref b ∧ bN K H a xs ∧ bN K H b ys ∧ xs ≠ [] ∧ xs.length + ys.length ≤ sizeLine ∧
  (ys = [] → Q (.ref a) H) ∧ (ys ≠ [] → ∀ p, H p = none → Q (.ref p) (upd H p (.tup (xs ++ ys))))
theorem Vals.jv {xs : List V} {us : List Value} (r : Vals xs us) : us = [] ↔ xs = [] := by
  cases r with
  | nil => simp
  | cons _ _ => simp
theorem Cm : OpR X (binaryOp .Add) (Iu X.K) := by
  intro pins s σ H x y v u Q I rx ry h
  obtain ⟨a, b, xs, ys, rfl, rfl, ha, hb, hx, hz, q1, q2⟩ := h
  cases rx
  cases ry
  obtain ⟨its, r1, p1, _⟩ := I.tuple ha
  obtain ⟨bL, r2, p2, _⟩ := I.tuple hb
  refine HT.Cg p1 p2 (fun z => hx (r1.jv.mp z)) (fun z => ⟨.ref a, H, I, rfl, q1 (r2.jv.mp z)⟩) (fun z => ?_) (by rw [← r1.length, ← r2.length]; exact hz)
  refine ⟨.ref s.heap.objs.size, _, I.laid (t' := s.toks) (o := .tup (xs ++ ys)) (fun b ob q => Heap.get?_push_of_some _ q) (Nat.le_refl _) ?_, rfl, q2 (fun w => z (r2.jv.mpr w)) _ (I.hok.fresh (Nat.le_refl _))⟩
  exact ⟨by rw [List.length_append]; exact hz, _, r1.append r2, gO.new _ _⟩
end
noncomputable def gE (n : Nat) (i : Int) : Option Nat := if 0 ≤ i then (if i < n then some i.toNat else none) else if -(n : Int) ≤ i then some (i + n).toNat else none
noncomputable def cq {α : Type} (xs : List α) (i : Int) : Option α := (gE xs.length i).bind fun j => xs[j]?
theorem n6 {n : Nat} {i : Int} {j : Nat} (h : gE n i = some j) : seqIndex? i n = some j ∧ j < n ∧ -(n : Int) ≤ i ∧ i < n := by
  unfold gE at h
  by_cases h0 : 0 ≤ i
  · rw [if_pos h0] at h
    by_cases h1 : i < n
    · rw [if_pos h1] at h
      have e : i.toNat = j := Option.some.inj h
      exact ⟨by rw [seqIndex_of h0 h1, e], by omega, by omega, h1⟩
    · rw [if_neg h1] at h; cases h
  · rw [if_neg h0] at h
    by_cases h1 : -(n : Int) ≤ i
    · rw [if_pos h1] at h
      have e : (i + n).toNat = j := Option.some.inj h
      exact ⟨by rw [seqIndex_neg (by omega) h1, e], by omega, h1, by omega⟩
    · rw [if_neg h1] at h; cases h
theorem n8 {α : Type} {xs : List α} {i : Int} {v : α} (h : cq xs i = some v) : ∃ j, seqIndex? i xs.length = some j ∧ xs[j]? = some v ∧ j < xs.length ∧ -(xs.length : Int) ≤ i ∧ i < xs.length := by
  unfold cq at h
  cases e : gE xs.length i with
  | none => rw [e] at h; cases h
  | some j =>
    rw [e] at h
    obtain ⟨h1, h2, h3, h4⟩ := n6 e
    exact ⟨j, h1, h, h2, h3, h4⟩
theorem cu {α : Type} {xs : List α} {j : Nat} {v : α} (h : xs[j]? = some v) : cq xs (j : Int) = some v := by
  have hj : j < xs.length := (List.getElem?_eq_some_iff.mp h).1
  have e : gE xs.length (j : Int) = some j := by
    unfold gE
    rw [if_pos (by omega), if_pos (by omega)]; simp
  unfold cq; rw [e]; exact h
noncomputable def tQ (b : Expr) : Prop := ∀ o i, subscripted b false o i = operate [o, i] (getItem o i)
noncomputable def kj (X : Cx) (r : R2) : Prop :=
  ∀ (value slice : Expr) (pins : List (Addr × Obj)) (s : Shared) (σ : St) (H : Hp) (x y : V) (v u : Value) (Q : VK), Inv X pins σ H s → RelV x v → RelV y u → r x y H Q →
    subscripted slice false v u = operate [v, u] (getItem v u) → wpAny (model X.prog X.w) X.A (subscriptTail value slice v u) (EP X pins σ Q) X.xe s
noncomputable def wC (X : Cx) (id : String) (r : V → List V → Hp → VK → Prop) : Prop :=
  ∀ (pins : List (Addr × Obj)) (s : Shared) (σ : St) (H : Hp) (x : V) (xs : List V) (v : Value) (us : List Value) (Q : VK), Inv X pins σ H s → RelV x v → Vals xs us → r x xs H Q →
    wpAny (model X.prog X.w) X.A (call (.builtin id) (v :: us)) (EP X pins σ Q) X.xe s
section
variable {X : Cx} {a b : Expr} {ta tb : TE} {pos : Pos}
theorem kj.or {r r' : R2} (h : kj X r) (h' : kj X r') : kj X (fun x y H Q => r x y H Q ∨ r' x y H Q) := by
  intro value slice pins s σ H x y v u Q I rx ry q hs
  rcases q with q | q
  · exact h value slice pins s σ H x y v u Q I rx ry q hs
  · exact h' value slice pins s σ H x y v u Q I rx ry q hs
theorem Iv {r : R2} (hr : kj X r) (ha : PE X a ta) (hb : PE X b tb) (hs : tQ b) : PE X (.Subscript a b pos) (wg r ta tb) := by
  refine ⟨?_⟩
  intro pins s σ H Q I h
  exact Subscript_ (zb ha hb I h fun v u s2 x y H2 I2 rx ry q => hr a b pins s2 σ H2 x y v u Q I2 rx ry q (hs _ _))
noncomputable def E7 (K : PySem.W.Frag) : R2 := fun x y H Q => ∃ p xs i v, x = .ref p ∧ y = .int i ∧ bM K H p xs ∧ cq xs i = some v ∧ Q v H
noncomputable def E8 (K : PySem.W.Frag) : R2 := fun x y H Q => ∃ p xs i v, x = .ref p ∧ y = .int i ∧ bN K H p xs ∧ cq xs i = some v ∧ Q v H
noncomputable def E9 : R2 := fun x y H Q => ∃ z i c, x = .str z ∧ y = .int i ∧ z.length ≤ sizeLine ∧ cq z.cps.toList i = some c ∧ Q (.str ⟨#[c]⟩) H
theorem Cq : kj X (E7 X.K) := by
  intro value slice pins s σ H x y v u Q I rx ry h hs
  obtain ⟨p, xs, i, z, rfl, rfl, hq, he, q⟩ := h
  cases rx
  obtain ⟨t, rfl⟩ := ry
  obtain ⟨its, r, pl, hz⟩ := I.list hq
  obtain ⟨j, h1, h2, h3, h4, h5⟩ := n8 he
  obtain ⟨w, ew, wD⟩ := r.get h2
  have hl := r.length
  have hn := ju
  have fin : EP X pins σ Q w s := ⟨z, H, I, wD, q⟩
  by_cases h0 : 0 ≤ i
  · have hj : i.toNat = j := by
      rw [seqIndex_of h0 h5] at h1
      exact Option.some.inj h1
    exact item_listR pl.isList h0 (by omega) (by rw [hj]; simpa using ew) fin hs
  · have hj : (i + (its.toArray.size : Int)).toNat = j := by
      rw [seqIndex_neg (by omega) h4] at h1
      rw [List.size_toArray, ← hl]
      exact Option.some.inj h1
    exact subscriptTail_builtinR (x := w) pl.isList.typeIs slot_list_getitem.lookup
      (wpAny_getItem_list_neg (Q := fun r s' => r = w ∧ EP X pins σ Q r s') pl.isList (by omega) (by rw [List.size_toArray] <;> omega) (by omega) (by rw [hj]; simpa using ew) ⟨rfl, fin⟩) hs
theorem Fb : kj X (E8 X.K) := by
  intro value slice pins s σ H x y v u Q I rx ry h hs
  obtain ⟨p, xs, i, z, rfl, rfl, hq, he, q⟩ := h
  cases rx
  obtain ⟨t, rfl⟩ := ry
  obtain ⟨its, r, pl, hz⟩ := I.tuple hq
  obtain ⟨j, h1, h2, h3, h4, h5⟩ := n8 he
  obtain ⟨w, ew, wD⟩ := r.get h2
  have hl := r.length
  have hn := ju
  have fin : EP X pins σ Q w s := ⟨z, H, I, wD, q⟩
  exact subscriptTail_builtinR (x := w) pl.typeIs slot_tuple_getitem.lookup
    (getItem_tuple (j := j) (Q := fun r s' => r = w ∧ EP X pins σ Q r s') pl (by omega) (by omega) (by rw [List.size_toArray, ← hl]; exact h1) (by simpa using ew) ⟨rfl, fin⟩) hs
theorem Fc : kj X E9 := by
  intro value slice pins s σ H x y v u Q I rx ry h hs
  obtain ⟨z, i, c, rfl, rfl, hz, he, q⟩ := h
  obtain ⟨t, rfl⟩ := rx
  obtain ⟨t', rfl⟩ := ry
  obtain ⟨j, h1, h2, h3, h4, h5⟩ := n8 he
  have hl : z.cps.toList.length = z.length := by simp [Str.length]
  rw [hl] at h1 h4 h5
  have hn := ju
  exact tail_any (typeIs_str s z t) slot_str_getitem.lookup (getItem_str (c := c) (by
    have e1 : decide (i < -(2 ^ 63 : Int)) = false := decide_eq_false (by omega)
    have e2 : decide (i ≥ 2 ^ 63) = false := decide_eq_false (by omega)
    rw [e1, e2, Bool.or_false]) (by rw [h1]; simpa using h2) ⟨.str ⟨#[c]⟩, H, I.tok _, ⟨_, rfl⟩, q⟩) hs
noncomputable def J0 (K : PySem.W.Frag) : R2 := fun x y H Q => E7 K x y H Q ∨ E8 K x y H Q ∨ E9 x y H Q
theorem Fd : kj X (J0 X.K) := Cq.or (Fb.or Fc)
theorem uG (its : List Value) (n j : Nat) (u : Value) : Obj.mapSeq (·.setIfInBounds j u) { cls := .type "list", data := .seq its.toArray n } = { cls := .type "list", data := .seq (its.set j u).toArray n } := by
  simp [Obj.mapSeq]
theorem Inv.lst {pins : List (Addr × Obj)} {σ : St} {H : Hp} {s : Shared} {p : Addr} {xs : List V} (I : Inv X pins σ H s) (h : H p = some (.lst xs)) :
    ∃ (its : List Value) (n : Nat), Vals xs its ∧ s.heap.get? p = some { cls := .type "list", data := .seq its.toArray n } ∧ xs.length ≤ sizeLine := by
  obtain ⟨z, its, n, r, e⟩ := I.hok p _ h
  exact ⟨its, n, r, e, z⟩
theorem Inv.Fe {pins : List (Addr × Obj)} {σ : St} {H : Hp} {s : Shared} {p : Addr} {xs ys : List V} {its its' : List Value} {n n' : Nat} {f : Obj → Obj} (I : Inv X pins σ H s) (h : H p = some (.lst xs))
    (ho : s.heap.get? p = some { cls := .type "list", data := .seq its.toArray n }) (hf : f { cls := .type "list", data := .seq its.toArray n } = { cls := .type "list", data := .seq its'.toArray n' }) (r : Vals ys its') (hz : ys.length ≤ sizeLine) (t : Nat) :
    Inv X pins σ (upd H p (.lst ys)) { s with heap := s.heap.update p f, toks := t } := by
  have e : (s.heap.update p f).get? p = some { cls := .type "list", data := .seq its'.toArray n' } := by
    rw [Heap.get?_update_self f ho (by rw [hf] <;> rfl), hf]
  refine I.write (x := p) (e := p) (by rw [h]; trivial) (.inl rfl) (fun b u hb q => (Heap.get?_update_other _ _ (Ne.symm hb)).trans q) ⟨_, e⟩ ?_
  exact ⟨hz, its', n', r, e⟩
noncomputable def Iw : V → V → V → Hp → (Hp → Prop) → Prop := fun o i v H Q => ∃ p xs k j, o = .ref p ∧ i = .int k ∧ H p = some (.lst xs) ∧ gE xs.length k = some j ∧ Q (upd H p (.lst (xs.set j v)))
theorem set_list : En X Iw := by
  intro pins s σ H o i v ov iv u Q I ro ri rv h
  obtain ⟨p, xs, k, j, rfl, rfl, hp, hj, q⟩ := h
  cases ro
  obtain ⟨t, rfl⟩ := ri
  obtain ⟨its, n, r, ho, hz⟩ := I.lst hp
  obtain ⟨h1, h2, h3, h4⟩ := n6 hj
  have hl := r.length
  have hn := ju
  have I' : Inv X pins σ (upd H p (.lst (xs.set j v))) { s with heap := s.heap.update p (Obj.mapSeq (·.setIfInBounds j u)) } :=
    I.Fe hp ho (uG its n j u) (r.set rv j) (by rw [List.length_set]; exact hz) s.toks
  by_cases h0 : 0 ≤ k
  · have hk : k.toNat = j := by
      rw [seqIndex_of h0 h4] at h1
      exact Option.some.inj h1
    exact PySem.W.ki_setAt ho h0 (by omega) (by rw [List.size_toArray, ← hl]; exact h4) (by rw [hk]; exact ⟨_, I', q⟩)
  · have hk : (k + (its.toArray.size : Int)).toNat = j := by
      rw [seqIndex_neg (by omega) h3] at h1
      rw [List.size_toArray, ← hl]
      exact Option.some.inj h1
    exact PySem.W.ki_setBack ho (by omega) (by rw [List.size_toArray, ← hl]; exact h3) (by omega) (by rw [hk]; exact ⟨_, I', q⟩)
theorem qK (lo hi : Option Int) (n : Nat) : (sliceBounds lo hi none n).1 = ((HT.aT n 0 lo : Nat) : Int) ∧ (sliceBounds lo hi none n).2.1 = ((HT.aT n n hi : Nat) : Int) ∧ (sliceBounds lo hi none n).2.2 = 1 := by
  refine ⟨?_, ?_, rfl⟩
  · cases lo with
    | none => simp [sliceBounds, HT.aT]
    | some i =>
      simp only [sliceBounds, HT.aT, Option.getD_none, show (1 : Int) > 0 by decide, if_true]
      by_cases h : i < 0
      · simp only [h, if_true] <;> omega
      · simp only [h, if_false] <;> omega
  · cases hi with
    | none => simp [sliceBounds, HT.aT]
    | some i =>
      simp only [sliceBounds, HT.aT, Option.getD_none, show (1 : Int) > 0 by decide, if_true]
      by_cases h : i < 0
      · simp only [h, if_true] <;> omega
      · simp only [h, if_false] <;> omega
theorem pV (its : List Value) (lo hi : Option Int) : slicePick its.toArray lo hi none = ((its.drop (HT.aT its.length 0 lo)).take (HT.aT its.length its.length hi - HT.aT its.length 0 lo)).toArray := by
  obtain ⟨h1, h2, h3⟩ := qK lo hi its.toArray.size
  unfold slicePick
  rw [h1, h2, h3]
  simp only [sliceRange_one, pick_run, List.size_toArray] <;> rfl
noncomputable def Lx (K : PySem.W.Frag) : V → Option Int → Option Int → Hp → VK → Prop := fun x lo hi H Q => ∃ a xs, x = .ref a ∧ bM K H a xs ∧ ∀ p, H p = none → Q (.ref p) (upd H p (.lst (gP xs lo hi)))
theorem MM : tP X (Lx X.K) := by
  intro pins s σ H x v vl vu lo hi sl Q I rx hs pl pu h
  obtain ⟨a, xs, rfl, hx, q⟩ := h
  cases rx
  obtain ⟨its, r, ht, hz⟩ := I.list hx
  have hlen := r.length
  refine ⟨"list", _, slot_list_getitem.lookup, ht.isList.typeIs, ?_⟩
  refine wpAny_getItem_list_slice ht.isList hs pl pu .none (by simp) ?_ (by rw [List.size_toArray] <;> omega)
  rw [pV, ← hlen]
  refine ⟨.ref s.heap.objs.size, _, I.laid (t' := s.toks) (o := .lst (gP xs lo hi)) (fun b ob q => Heap.get?_push_of_some _ q) (Nat.le_refl _) ?_, rfl, q _ (I.hok.fresh (Nat.le_refl _))⟩
  exact ⟨Nat.le_trans (lU xs lo hi) hz, _, 0, (r.drop (HT.aT xs.length 0 lo)).take (HT.aT xs.length xs.length hi - HT.aT xs.length 0 lo), Heap.get?_push_size _ rfl⟩
theorem qM : dQ X (.type "list") (fun xs H Q => ∃ p ys, xs = [.ref p] ∧ (bM X.K H p ys ∨ bN X.K H p ys) ∧ ∀ l, H l = none → Q (.ref l) (upd H l (.lst ys))) := by
  intro pins s σ H xs us Q I r h
  obtain ⟨p, ys, rfl, hq, q⟩ := h
  obtain ⟨u, rfl, rx⟩ := vals1 r
  cases rx
  have fin : ∀ (its : List Value), Vals ys its → ys.length ≤ sizeLine → ∀ (h' : Heap) (c' : Nat), (∀ b o', s.heap.get? b = some o' → h'.get? b = some o') →
      h'.get? s.heap.objs.size = some { cls := .type "list", dict := none, data := .seq its.toArray c', slots := #[] } → EP X pins σ Q (.ref s.heap.objs.size) { s with heap := h' } := fun its r' hz h' c' kp e =>
    ⟨.ref s.heap.objs.size, _, I.laid (t' := s.toks) kp (Nat.le_refl _) (show bA X.prog X.w _ h' _ (.lst ys) from ⟨hz, its, c', r', e⟩), rfl, q _ (I.hok.fresh (Nat.le_refl _))⟩
  rcases hq with hq | hq
  · obtain ⟨its, r', pl, hz⟩ := I.list hq
    have hlen := r'.length
    obtain ⟨o, ho, hc, n, hd⟩ := pl.isList
    exact call_list_seq p (.inl rfl) ho hc hd (fun h' c' kp e => fin its r' hz h' c' kp e) (by simp only [List.size_toArray] <;> omega)
  · obtain ⟨its, r', pl, hz⟩ := I.tuple hq
    have hlen := r'.length
    obtain ⟨o, ho, hc, n, hd⟩ := pl
    exact call_list_seq p (.inr rfl) ho hc hd (fun h' c' kp e => fin its r' hz h' c' kp e) (by simp only [List.size_toArray] <;> omega)
theorem pW : dQ X (.type "tuple") (fun xs H Q => ∃ p ys, xs = [.ref p] ∧ ((bM X.K H p ys ∧ ∀ l, H l = none → Q (.ref l) (upd H l (.tup ys))) ∨ (bN X.K H p ys ∧ Q (.ref p) H))) := by
  intro pins s σ H xs us Q I r h
  obtain ⟨p, ys, rfl, h⟩ := h
  obtain ⟨u, rfl, rx⟩ := vals1 r
  cases rx
  rcases h with ⟨hq, q⟩ | ⟨hq, q⟩
  · obtain ⟨its, r', pl, hz⟩ := I.list hq
    have hlen := r'.length
    refine call_tuple_list pl.isList (fun h' kp => ?_) (by simp only [List.size_toArray] <;> omega)
    have I1 : Inv X pins σ H { s with heap := h' } := I.kept (t' := s.toks) kp
    have I2 : Inv X pins σ (upd H h'.objs.size (.tup ys)) { s with heap := h'.push { cls := .type "tuple", data := .seq its.toArray } } :=
      I1.laid (t' := s.toks) (fun b o e => Heap.get?_push_of_some _ e) (Nat.le_refl _) (show bA X.prog X.w _ _ _ (.tup ys) from ⟨hz, its, r', gO.new _ _⟩)
    exact ⟨.ref h'.objs.size, _, I2, rfl, q _ (I1.hok.fresh (Nat.le_refl _))⟩
  · obtain ⟨its, r', pl, hz⟩ := I.tuple hq
    exact call_tuple_same pl ⟨.ref p, H, I, rfl, q⟩
noncomputable def Ff (K : PySem.W.Frag) (T : String) (x : V) (H : Hp) : Prop := match x with
  | .str _ => T = "str"
  | .int _ => T = "int"
  | .ref p => (T = "list" ∧ ∃ xs, bM K H p xs) ∨ (T = "tuple" ∧ ((∃ o, K.lookup p = some o ∧ o.cls = .type "tuple" ∧ o.dict = none) ∨ ∃ xs, H p = some (.tup xs))) ∨
      (T = "dict" ∧ ((∃ bR, H p = some (.dK bR)) ∨ ∃ bR, H p = some (.dT bR))) ∨ (T = "set" ∧ ∃ S n, H p = some (.set S n))
  | _ => False
theorem Fg {pins : List (Addr × Obj)} {σ : St} {H : Hp} {s : Shared} {T : String} {x : V} {v : Value} (I : Inv X pins σ H s) (r : RelV x v) (ty : Ff X.K T x H) :
    s.TypeIs v T ∧ ∀ a, v = .ref a → ∃ ob, s.heap.get? a = some ob ∧ ob.dict = none := by
  cases x with
  | str z =>
    obtain ⟨t, rfl⟩ := r
    cases (show T = "str" from ty)
    exact ⟨typeIs_str s z t, fun _ e => nomatch e⟩
  | int i =>
    obtain ⟨t, rfl⟩ := r
    cases (show T = "int" from ty)
    exact ⟨typeIs_int s i t, fun _ e => nomatch e⟩
  | ref p =>
    cases r
    rcases ty with ⟨rfl, xs, hq⟩ | ⟨rfl, ⟨o, hk, hc, hd⟩ | ⟨xs, hk⟩⟩ | ⟨rfl, hk⟩ | ⟨rfl, S, n, hk⟩
    · obtain ⟨its, _, pl, _⟩ := I.list hq
      refine ⟨pl.isList.typeIs, fun a e => ?_⟩
      cases e
      obtain ⟨o, n, e, c, hd, _⟩ := pl
      exact ⟨o, e, hd⟩
    · refine ⟨⟨o, I.d7 p o hk, hc⟩, fun a e => ?_⟩
      cases e
      exact ⟨o, I.d7 _ o hk, hd⟩
    · obtain ⟨_, its, _, o, e, c, n, d, hd⟩ := I.hok p _ hk
      refine ⟨⟨o, e, c⟩, fun a e2 => ?_⟩
      cases e2
      exact ⟨o, e, hd⟩
    · have z : ∃ o, s.heap.get? p = some o ∧ o.ExactDict := by
        rcases hk with ⟨bR, hk⟩ | ⟨bR, hk⟩
        · obtain ⟨_, _, _, _, o, _, _, e, ex, _⟩ := I.hok p _ hk
          exact ⟨o, e, ex⟩
        · obtain ⟨_, _, _, _, o, _, _, e, ex, _⟩ := I.hok p _ hk
          exact ⟨o, e, ex⟩
      obtain ⟨o, e, ex⟩ := z
      refine ⟨⟨o, e, ex.1⟩, fun a e2 => ?_⟩
      cases e2
      exact ⟨o, e, ex.2.1⟩
    · obtain ⟨o, _, _, _, e, ex, _⟩ := I.hok p _ hk
      refine ⟨⟨o, e, ex.1⟩, fun a e2 => ?_⟩
      cases e2
      exact ⟨o, e, ex.2.1⟩
  | _ => exact False.elim ty
noncomputable def J4 (K : PySem.W.Frag) (T : String) (r : V → List V → Hp → VK → Prop) (to : TE) (t : TA) : TE := fun σ H Q => to σ H fun x H1 => Ff K T x H1 ∧ t σ H1 fun xs H2 => r x xs H2 Q
variable {o e : Expr} {es : List Expr} {to : TE} {t : TA} {name : Str} {apos bq : Pos} {T id : String} {r : V → List V → Hp → VK → Prop}
theorem Iy (pa : PlainAttrs T) (slot : Slot T name id) (qN : typeOf (.builtin id) = pure (.type "method_descriptor")) (hm : wC X id r) (ho : PE X o to) (ha : PA X (e :: es) t)
    (m6 : attributeBase o name X.env (eval o X.env) = eval o X.env := by rfl)
    (qO : ((backTo bq (starEach (e :: es) X.env)).all (fun x => !x.1) && (backToKw bq (keywordEach [] X.env)).all (fun x => x.1.isSome)
      && decide ((e :: es).length + ([] : List Keyword).length + (if ([] : List Keyword).isEmpty then 0 else 1) < 30)) = true := by rfl)
    (hline : (apos.endLine == bq.line) = true := by rfl) (hs : starEach (e :: es) X.env = (false, eval e X.env) :: starEach es X.env := by rfl) (km : (backTo bq (starEach es X.env)).any (·.1) = false := by rfl) :
    PE X (.Call (.Attribute o name apos) (e :: es) [] bq) (J4 X.K T r to t) := by
  refine ⟨?_⟩
  intro pins s σ H Q I h
  refine wpAny_Call_method_late m6 qO hline rfl (thn (ho pins s σ H _ I h) fun v s1 ⟨x, H1, I1, r1, ty, q1⟩ => ?_)
  obtain ⟨h1, h2⟩ := Fg I1 r1 ty
  refine ⟨T, id, pa, slot, qN, h1, h2, ?_⟩
  have hA := ha bq pins s1 σ H1 _ I1 q1
  rw [hs] at hA ⊢
  refine Calls.callWith_builtin (by show (false || (backTo bq (starEach es X.env)).any (·.1)) = false; rw [km] <;> rfl) (Calls.evalArgs_plain ?_)
  exact thn hA fun us s2 ⟨vs, H2, I2, r2, q2⟩ => hm pins s2 σ H2 x vs v us Q I2 r1 r2 q2
end
noncomputable def Fh (X : Cx) (id : String) (r : V → List V → Hp → VK → Prop) : Prop :=
  ∀ (pins : List (Addr × Obj)) (s : Shared) (σ : St) (H : Hp) (x : V) (xs : List V) (v : Value) (us : List Value) (Q : VK), Inv X pins σ H s → RelV x v → Vals xs us → r x xs H Q →
    wpAny (model X.prog X.w) X.A (call (.builtin id) (v :: us)) (EP X pins σ Q) X.xe s
theorem Vals.one : ∀ {x : V} {us : List Value}, Vals [x] us → ∃ u, us = [u] ∧ RelV x u
  | _, _, .cons r .nil => ⟨_, rfl, r⟩
theorem Vals.eraseIdx : ∀ {xs : List V} {us : List Value} (i : Nat), Vals xs us → Vals (xs.eraseIdx i) (us.eraseIdx i)
  | _, _, _, .nil => .nil
  | _, _, 0, .cons _ t => t
  | _, _, i + 1, .cons r t => .cons r (Vals.eraseIdx i t)
theorem Vals.rep {xs : List V} {us : List Value} (h : Vals xs us) : ∀ k : Nat, Vals (List.replicate k xs).flatten (List.replicate k us).flatten
  | 0 => .nil
  | k + 1 => by
    rw [List.replicate_succ, List.replicate_succ, List.flatten_cons, List.flatten_cons]
    exact Vals.append h (Vals.rep h k)
theorem pd {α : Type} : ∀ (l : List α) (i : Nat), (l.eraseIdx i).length ≤ l.length
  | [], _ => Nat.le_refl _
  | _ :: _, 0 => Nat.le_succ _
  | _ :: r, i + 1 => Nat.succ_le_succ (pd r i)
theorem foldl_rep (its : List Value) : ∀ (k : Nat) (acc : List Value),
    List.foldl (fun x1 x2 => x1 ++ x2) acc.toArray (List.replicate k its.toArray) = (acc ++ (List.replicate k its).flatten).toArray
  | 0, acc => by simp
  | k + 1, acc => by
    have e : acc.toArray ++ its.toArray = (acc ++ its).toArray := by simp
    have e2 : (acc ++ its) ++ (List.replicate k its).flatten = acc ++ (List.replicate (k + 1) its).flatten := by
      rw [List.replicate_succ, List.flatten_cons, List.append_assoc]
    rw [← e2, ← foldl_rep its k (acc ++ its), ← e, List.replicate_succ, List.foldl_cons]
section
variable {X : Cx} {pins : List (Addr × Obj)} {σ : St} {H : Hp} {s : Shared} {l b : Addr} {xs ys zs : List V}
theorem Inv.zt {its its' : List Value} {n : Nat} {f : Array Value → Array Value} {t' : Nat} (I : Inv X pins σ H s) (hH : H l = some (.lst xs))
    (e : s.heap.get? l = some { cls := .type "list", data := .seq its.toArray n }) (hf : f its.toArray = its'.toArray) (hv : Vals ys its') (hz : ys.length ≤ sizeLine) :
    Inv X pins σ (upd H l (.lst ys)) { s with heap := s.heap.update l (Obj.mapSeq f), toks := t' } := by
  have q := PySem.IsL.update e f
  rw [hf] at q
  refine I.write (x := l) (e := l) (by rw [hH]; exact trivial) (.inl rfl) (fun b' u hb hu => (Heap.get?_update_other s.heap (Obj.mapSeq f) (Ne.symm hb)).trans hu) ⟨_, q⟩ ?_
  exact ⟨hz, its', _, hv, q⟩
theorem Inv.Ly {its : List Value} {t' : Nat} (I : Inv X pins σ H s) (hv : Vals ys its) (hz : ys.length ≤ sizeLine) :
    Inv X pins σ (upd H s.heap.objs.size (.lst ys)) { s with heap := s.heap.push { cls := .type "list", data := .seq its.toArray }, toks := t' } :=
  I.laid (fun _ _ q => Heap.get?_push_of_some _ q) (Nat.le_refl _) ⟨hz, its, 0, hv, Heap.get?_push_size _ rfl⟩
theorem Inv.fresh (I : Inv X pins σ H s) : H s.heap.objs.size = none := I.hok.fresh (Nat.le_refl _)
theorem Inv.ko (I : Inv X pins σ H s) (hH : H l = some (.lst xs)) : xs.length ≤ sizeLine ∧ ∃ (its : List Value) (n : Nat), Vals xs its ∧ xs.length = its.length ∧ s.heap.get? l = some { cls := .type "list", data := .seq its.toArray n } := by
  obtain ⟨z, its, n, r, e⟩ := I.hok l _ hH
  exact ⟨z, its, n, r, r.length, e⟩
theorem zu {n : Nat} (h : n ≤ sizeLine) : Builtin.List.listTooLong n = false := by
  unfold Builtin.List.listTooLong
  exact decide_eq_false (by omega)
end
section
variable {X : Cx}
noncomputable def Cr : V → List V → Hp → VK → Prop := fun x vs H Q => ∃ l xs y, x = .ref l ∧ vs = [y] ∧ H l = some (.lst xs) ∧ xs.length < sizeLine ∧ Q .ao (upd H l (.lst (xs ++ [y])))
theorem kr : Fh X "list.append" Cr := by
  intro pins s σ H x vs v us Q I rx rv h
  obtain ⟨l, xs, y, rfl, rfl, hH, hz, q⟩ := h
  cases rx
  obtain ⟨u, rfl, ru⟩ := rv.one
  obtain ⟨z, its, n, r, hl, e⟩ := I.ko hH
  refine call_meets F.slot_list_append ⟨_, e, rfl⟩ F.entry_list_append (F.args_list_append_2 _ _) (PySem.list_append l its.toArray n u (by rw [List.size_toArray]; omega)) ⟨e, ?_⟩
  refine ⟨.ao, _, I.zt (its' := its ++ [u]) hH e (by simp) (r.append (.cons ru .nil)) ?_, rfl, q⟩
  rw [List.length_append, List.length_singleton]
  omega
noncomputable def Ct : V → List V → Hp → VK → Prop := fun x vs H Q => ∃ l b xs zs, x = .ref l ∧ vs = [.ref b] ∧ H l = some (.lst xs) ∧ H b = some (.lst zs) ∧ xs.length + zs.length ≤ sizeLine ∧ Q .ao (upd H l (.lst (xs ++ zs)))
theorem J5 : Fh X "list.extend" Ct := by
  intro pins s σ H x vs v us Q I rx rv h
  obtain ⟨l, b, xs, zs, rfl, rfl, hH, hB, hz, q⟩ := h
  cases rx
  obtain ⟨u, rfl, ru⟩ := rv.one
  cases ru
  obtain ⟨z, its, n, r, hl, e⟩ := I.ko hH
  obtain ⟨z2, bL, n2, r2, fU, e2⟩ := I.ko hB
  have bY : its.toArray.size + bL.toArray.size ≤ sizeLine := by rw [List.size_toArray, List.size_toArray]; omega
  have Iz : ¬ (!its.toArray.isEmpty && Builtin.List.listTooLong (its.toArray.size + bL.toArray.size)) = true := by
    rw [zu bY, Bool.and_false]
    exact Bool.false_ne_true
  refine call_meets F.slot_list_extend ⟨_, e, rfl⟩ F.entry_list_extend (F.args_list_extend_2 _ _)
    (AutoSeq1.list_extend_list_list_0 l its.toArray n b bL.toArray n2 Iz (by rw [List.size_toArray]; omega) (by omega)) ⟨e, e2, ?_⟩
  refine ⟨.ao, _, I.zt (its' := its ++ bL) hH e (by simp) (r.append r2) ?_, rfl, q⟩
  rw [List.length_append]
  omega
noncomputable def Fi : V → List V → Hp → VK → Prop := fun x vs H Q => ∃ l xs i k y, x = .ref l ∧ vs = [.int i] ∧ H l = some (.lst xs) ∧ -(2 ^ 63) ≤ i ∧ i < 2 ^ 63 ∧ seqIndex? i xs.length = some k ∧ xs[k]? = some y ∧ Q y (upd H l (.lst (xs.eraseIdx k)))
theorem zv : Fh X "list.pop" Fi := by
  intro pins s σ H x vs v us Q I rx rv h
  obtain ⟨l, xs, i, k, y, rfl, rfl, hH, h1, h2, hk, hy, q⟩ := h
  cases rx
  obtain ⟨u, rfl, ru⟩ := rv.one
  obtain ⟨t, rfl⟩ := ru
  obtain ⟨z, its, n, r, hl, e⟩ := I.ko hH
  obtain ⟨w, hw, wD⟩ := r.get hy
  refine call_meets F.slot_list_pop ⟨_, e, rfl⟩ F.entry_list_pop (F.args_list_pop_2 _ _)
    (MeetsSeq.list_pop_at l its.toArray n i t k w (fitsIndex_both h1 h2) (by rw [List.size_toArray, ← hl]; exact hk) (by rw [← Array.getElem?_toList]; exact hw) (by rw [List.size_toArray]; omega)) ⟨e, ?_⟩
  refine ⟨y, _, I.zt (its' := its.eraseIdx k) hH e ?_ (r.eraseIdx k) ?_, wD, q⟩
  · show its.toArray.eraseIdxIfInBounds k = (its.eraseIdx k).toArray
    rw [List.eraseIdxIfInBounds_toArray]
  · have := pd xs k
    omega
noncomputable def Lz : R2 := fun x y H Q => ∃ l b xs zs, x = .ref l ∧ y = .ref b ∧ H l = some (.lst xs) ∧ H b = some (.lst zs) ∧ xs.length + zs.length ≤ sizeLine ∧ ∀ p, H p = none → Q (.ref p) (upd H p (.lst (xs ++ zs)))
theorem wF : OpR X (binaryOp .Add) Lz := by
  intro pins s σ H x y v u Q I rx ry h
  obtain ⟨l, b, xs, zs, rfl, rfl, hH, hB, hz, q⟩ := h
  cases rx
  cases ry
  obtain ⟨z, its, n, r, hl, e⟩ := I.ko hH
  obtain ⟨z2, bL, n2, r2, fU, e2⟩ := I.ko hB
  refine PySem.P.add_list e e2 ?_ (by rw [List.size_toArray, List.size_toArray]; omega)
  have ea : its.toArray ++ bL.toArray = (its ++ bL).toArray := by simp
  rw [ea]
  exact ⟨.ref _, _, I.Ly (t' := s.toks) (r.append r2) (by rw [List.length_append]; omega), rfl, q _ I.fresh⟩
theorem len_rep {α : Type} (xs : List α) (k : Nat) : (List.replicate k xs).flatten.length = k * xs.length := by
  induction k with
  | zero => simp
  | succ k ih => rw [List.replicate_succ, List.flatten_cons, List.length_append, ih, Nat.succ_mul, Nat.add_comm]
end
end L2
namespace J6
open PySem PySem.W PySem.Calls PyProof.Rows
theorem m7 {P : Params} {h : Heap} : ∀ (ns : List Int) (vs : List Value), WellAll P h vs (ns.map WData.int) → IntsAre vs ns := by
  intro ns
  induction ns with
  | nil =>
    intro vs w
    rw [List.map_nil] at w
    cases w
    exact .nil
  | cons n ns ih =>
    intro vs w
    rw [List.map_cons] at w
    cases w with
    | cons a b =>
      cases a
      exact .cons _ _ (ih _ b)
theorem wG {l : OpenLaw} {n : Nat} (hn : l.most = some n) {P : Params} {h : Heap} {args : List WData} {vals : List Value}
    (uH : l.row.toRowW.claim.pre args = true) (Fj : WellAll P h vals args) :
    ∃ a vs ns, vals = [Value.ref a] ∧ args = [WData.list (ns.map WData.int)] ∧ h.get? a = some { cls := .type "list", data := .seq vs.toArray } ∧ IntsAre vs ns ∧ ns.length ≤ n := by
  have Nf : WShape.hasAll [] args [.list .int] = true := (pre_splitW uH).1
  have hc : l.pre.holds [] { args := args } = true := (pre_splitW uH).2
  obtain ⟨d, r, rfl, h1, h2⟩ := hasAllW_cons Nf
  obtain rfl := hasAllW_nil h2
  obtain ⟨xs, rfl, h3⟩ := hasW_list h1
  obtain ⟨ns, rfl⟩ := items_int h3
  have hlen : ns.length ≤ n := by
    unfold OpenLaw.pre at hc
    have h4 : (WTm.not (.lt (.lit (.int (n : Int))) (.len (.arg 0)))).holds [] { args := [.list (ns.map .int)] } = true := by
      have h4 := (holds_andW hc).1
      rw [hn] at h4
      exact h4
    have h5 := condW_of h4 (w_not (w_lt w_lit (w_len_list (w_arg rfl))))
    rw [List.length_map] at h5
    refine Nat.le_of_not_lt fun q => ?_
    have q' : (n : Int) < ((ns.length : Nat) : Int) := by omega
    first
      | (rw [decide_eq_true q'] at h5; exact absurd h5 (by decide))
      | (simp at h5; omega)
  cases Fj with
  | cons w1 w2 =>
    cases w2
    cases w1 with
    | list ho LA => exact ⟨_, _, ns, rfl, rfl, ho, m7 ns _ LA, hlen⟩
theorem wH (l : OpenLaw) (args : List WData) : l.row.toRowW.claim.post args (.bool true) args = true :=
  postW_of (r := l.row.toRowW) (X := (true == true))
    (show WShape.has [] (.bool true) .bool = true by first | rfl | decide | simp [WShape.has, WShape.arms, WShape.armsAll])
    (show (WTm.eq .res (.lit (.bool true))).value [] { args := args, res := some (.bool true), after := args } = some (.bool (true == true)) from w_eq_bool (w_res rfl) w_lit) rfl
theorem sC {l : OpenLaw} {n : Nat} {q : Program} {loose : List Str} {XP : (Str → Option Value) → Heap → Prop} {YP : World → Heap → Prop} {d : DefRec}
    (hn : l.most = some n) (wI : d.params.defaults = [])
    (call : ∀ (w : World) (s₀ az : Shared) (mg mb : Str → Option Value) (fa : Addr) (o : Obj) (pm cd doc : Value) (a : Addr) (vs : List Value) (ns : List Int),
      Ground q loose [] XP w s₀ mg mb az.heap → YP w az.heap →
      az.heap.get? fa = some o → o.data = .func (docDef d.name d.params d.body d.scope pm cd doc) → az.heap.CodeRec cd d.name → mg d.name = some (.ref fa) →
      az.heap.get? a = some { cls := .type "list", data := .seq vs.toArray } → IntsAre vs ns → ns.length ≤ n → az.gens = #[] →
      codeAny (model l.prog w) callerA (.call (.ref fa) ⟨[.ref a], []⟩) (fun r s' => r = .ok (.ret (.bool true)) ∧ OldK az.heap s'.heap ∧ s'.os = az.os ∧ AllBare s'.gens) az) :
    WalkO q loose XP YP l.row.toRowW d [] (fun f vs => PySem.call f vs) := by
  intro w s₀ az mg mb G Y fa o pm cd doc dV kV ho hd dA hD wJ hg args vals as uH Pl Pt Fj Pu
  obtain rfl : dV = .none := Dflts.none hD wI
  obtain rfl : kV = .none := Dflts.noKw hD
  obtain ⟨a, vs, ns, rfl, rfl, fZ, hints, hlen⟩ := wG hn uH Fj
  refine enter_call (codeAny_mono (call w s₀ az mg mb fa o pm cd doc a vs ns G Y ho (fd_plain hd) dA wJ fZ hints hlen hg) fun r s' hq => ?_)
  obtain ⟨rfl, h2, h3, h4⟩ := hq
  exact ⟨.inl ⟨.bool true, .bool true, [], rfl, fun _ => rfl, .bool true, wH l _, fun _ => ⟨List.Pairwise.nil, fun _ hm => (nomatch hm)⟩⟩, h2, h3, h4⟩
end J6
namespace L2
open PySem PySem.Spec PyProof.Rows
theorem pf : ∀ {vs : List Value} {ns : List Int}, IntsAre vs ns → Vals (ns.map V.int) vs
  | _, _, .nil => .nil
  | _, _, .cons n t h => .cons ⟨t, rfl⟩ (pf h)
noncomputable def cw (s : Stmt) : Arguments := match s with
  | .FunctionDef _ a _ _ _ _ _ _ _ _ => a
  | _ => { posonlyargs := [], args := [], vararg := none, kwonlyargs := [], kw_defaults := [], kwarg := none, defaults := [] }
noncomputable def bC (s : Stmt) : List Stmt := match s with
  | .FunctionDef _ _ b _ _ _ _ _ _ _ => b
  | _ => []
noncomputable def ah (s : Stmt) : Scope := match s with
  | .FunctionDef _ _ _ _ _ _ sc _ _ _ => sc
  | _ => { kind := .function, names := [], isGenerator := false, isCoroutine := false }
noncomputable abbrev bH : d8 := fun _ _ _ _ _ _ => False
noncomputable abbrev E0 : XK := fun _ _ _ => False
theorem bh {X : Cx} : Passes bH X E0 := fun _ _ _ _ _ _ _ h => h.elim
structure pj (K : PySem.W.Frag) (x qual : Str) (st : Stmt) (f : Addr) (fd : FuncData) : Prop where
  ex : ∃ (oc : Value) (od : Option Addr) (kV doc pm : Value) (an : Option Addr) (bG ct : Value) (fI : Array (Option Value)),
    fd = PySem.W.fnOf x qual (cw st) (bC st) (ah st) .none kV doc pm an bG ct ∧ K.lookup f = some ⟨oc, od, .func fd, fI⟩ ∧ PySem.W.codeIn K bG qual = true
  kp : PySem.W.keepIn K (.ref f) = true
section
variable {P : Program} {w : World} {K : PySem.W.Frag} {mg : Str → Option Value} {base : Heap}
theorem pj.binds {x qual : Str} {st : Stmt} {f : Addr} {fd : FuncData} {ps : List Str} (F : pj K x qual st f fd)
    (h : ∀ (kV doc pm : Value) (an : Option Addr) (bG ct : Value) (us : List Value), us.length = ps.length → bindArgs (PySem.W.fnOf x qual (cw st) (bC st) (ah st) .none kV doc pm an bG ct) ⟨us, []⟩ = pure (ps.zip us)) : Binds K fd ps [] := by
  obtain ⟨oc, od, kV, doc, pm, an, bG, ct, fI, rfl, lk, dA⟩ := F.ex
  exact .all (h kV doc pm an bG ct)
theorem Fl {x qual : Str} {st : Stmt} {f : Addr} {oc : Value} {od an : Option Addr} {fI : Array (Option Value)} {kV doc pm bG ct : Value} (l : K.lookup f = some ⟨oc, od, .func (PySem.W.fnOf x qual (cw st) (bC st) (ah st) .none kV doc pm an bG ct), fI⟩)
    (c : PySem.W.codeIn K bG qual = true) (k : PySem.W.keepIn K (.ref f) = true) : pj K x qual st f (PySem.W.fnOf x qual (cw st) (bC st) (ah st) .none kV doc pm an bG ct) := ⟨⟨oc, od, kV, doc, pm, an, bG, ct, fI, rfl, l, c⟩, k⟩
end
end L2
set_option maxHeartbeats 4000000
namespace L2
open PySem PySem.Spec PyProof.Rows
theorem jI {env : Env} : ∀ (names : List (Str × NameKind)) (acc : List (Str × Addr)), (∀ n, (n, NameKind.free) ∈ names → ∃ c, env.cells.lookup n = some c) →
    (∀ n c, acc.lookup n = some c → env.cells.lookup n = some c) →
    ∃ cl, (forIn names acc fun x r => if (x.2 == NameKind.free) = true then (do let a ← cellOf env x.1; pure (ForInStep.yield ((x.1, a) :: r))) else pure (ForInStep.yield r) : Sem (List (Str × Addr))) = pure cl ∧
      (∀ n c, cl.lookup n = some c → env.cells.lookup n = some c) ∧ (∀ n, (n, NameKind.free) ∈ names → ∃ c, cl.lookup n = some c) ∧ (∀ n c, acc.lookup n = some c → ∃ c', cl.lookup n = some c')
  | [], acc, _, h2 => ⟨acc, rfl, h2, fun n h => by simp at h, fun n c h => ⟨c, h⟩⟩
  | (n, k) :: r, acc, h1, h2 => by
    rw [List.forIn_cons]
    cases hk : (k == NameKind.free) with
    | true =>
      have ek : k = NameKind.free := by simpa using hk
      subst ek
      obtain ⟨c, hc⟩ := h1 n List.mem_cons_self
      have e1 : cellOf env n = pure c := by unfold cellOf; rw [hc]
      obtain ⟨cl, e, a1, a2, a3⟩ := jI r ((n, c) :: acc) (fun m hm => h1 m (List.mem_cons_of_mem _ hm)) (fun m c' hm => by
        rw [List.lookup_cons] at hm
        cases hb : m == n with
        | true =>
          rw [hb] at hm
          have e2 : m = n := by simpa using hb
          rw [e2, hc]; exact hm
        | false => rw [hb] at hm; exact h2 m c' hm)
      refine ⟨cl, ?_, a1, fun m hm => ?_, fun m c' hm => ?_⟩
      · simp only [if_true, e1]
        exact e
      · rcases List.mem_cons.mp hm with z | z
        · cases z
          exact a3 n c (by rw [List.lookup_cons]; simp)
        · exact a2 m z
      · by_cases hb : m = n
        · subst hb
          exact a3 m c (by rw [List.lookup_cons]; simp)
        · exact a3 m c' (by
            rw [List.lookup_cons]
            have : (m == n) = false := by simpa using hb
            rw [this]; exact hm)
    | false =>
      obtain ⟨cl, e, a1, a2, a3⟩ := jI r acc (fun m hm => h1 m (List.mem_cons_of_mem _ hm)) h2
      refine ⟨cl, ?_, a1, fun m hm => ?_, a3⟩
      · simp only [Bool.false_eq_true, if_false]
        exact e
      · rcases List.mem_cons.mp hm with z | z
        · cases z; simp at hk
        · exact a2 m z
theorem fK {scope : Scope} {env : Env} (h : ∀ n, (n, NameKind.free) ∈ scope.names → ∃ c, env.cells.lookup n = some c) :
    ∃ cl, closureFor scope env = pure cl ∧ (∀ n c, cl.lookup n = some c → env.cells.lookup n = some c) ∧ (∀ n, (n, NameKind.free) ∈ scope.names → ∃ c, cl.lookup n = some c) := by
  obtain ⟨cl, e, a1, a2, _⟩ := jI (env := env) scope.names [] h (fun n c hn => by simp at hn)
  refine ⟨cl, ?_, a1, a2⟩
  simp only [closureFor]
  rw [e]
  rfl
noncomputable def cxBlock (X : Cx) (N' : List Str) (env' : Env) (A' : Around) (stack' : List Env) (s : Shared) (H : Hp) (ex : List Addr) : Cx :=
  { X with N := N', s₀ := s, H₀ := H, env := env', A := A', outer := X.stack, stack := stack', ex := ex, fn := fun _ => false, pn := [], xe := fun _ _ => False }
theorem pq {X : Cx} {pins : List (Addr × Obj)} {σ aA : St} {H H' : Hp} {s : Shared} {N' : List Str} {env' : Env} {A' : Around} {stack' : List Env} {ex : List Addr} {h1 : Heap} {m0 : Str → Option Value} {g' : Array GenState} {tk : Nat}
    (I : Inv X pins σ H s) (iW : env'.scope.kind = .function) (IA : env'.globals = X.env.globals) (LC : env'.builtins = X.env.builtins)
    (fD : ∀ n c, env'.cells.lookup n = some c → X.env.cells.lookup n = some c)
    (dD : ∀ x, (env'.kindOf x = some .cell ∨ env'.kindOf x = some .free) → ∃ c, env'.cells.lookup x = some c)
    (hh : X.calm = true → A'.handled = none) (Ng : A'.frames = some stack') (LD : stack' = X.stack ∨ (stack' = env' :: X.stack ∧ env'.frame = some env'.locals))
    (hC : s.heap.objs.size ≤ env'.locals) (hf : ∀ b ∈ ex, dB X pins H b) (uI : ∀ b ∈ ex, b < s.heap.objs.size)
    (wK : Un (dz X.stack) ex H H' s.heap h1) (hok : c6 X.prog X.w H' h1) (qP : H' env'.locals = none) (m8 : ∀ b o, s.heap.get? b = some o → h1.get? b = some o) (jw : h1.Ns env'.locals m0)
    (qQ : ∀ (i : Nat) (x : Str) (v : V), N'[i]? = some x → aA[i]? = some (some v) → mR env'.scope x → (env'.kindOf x = some .cell ∨ env'.kindOf x = some .free) ∧ mR X.env.scope x ∧ (X.env.kindOf x = some .cell ∨ X.env.kindOf x = some .free) ∧ ∃ j : Nat, X.N[j]? = some x ∧ σ[j]? = some (some v))
    (hlen : aA.length = N'.length) (hg : Gn s.gens.size g') : Inv (cxBlock X N' env' A' stack' s H ex) [] aA H' { s with heap := h1, gens := g', toks := tk } := by
  have wL : ∀ b ∈ ex, ∀ x c, X.env.cells.lookup x = some c → c ≠ b := fun b hb => (hf b hb).2.2.2.2.1
  refine ⟨⟨I.ok.mod, iW, IA.trans I.ok.glob, LC.trans I.ok.blt, hC, fun x y c a b => I.ok.inj x y c (fD x c a) (fD y c b), dD, fun _ _ z => (nomatch z), hh, Ng, LD, fun b hb => ⟨Nat.ne_of_lt (Nat.lt_of_lt_of_le (uI b hb) hC), fun x c e => wL b hb x c (fD x c e)⟩,
      I.bs, Nat.le_trans I.ok.bsz I.sz, fun b o e hb => ?_, fun b hb z => ?_, I.stack, I.jt⟩, rfl, hg, wK, ⟨m0, jw, fun i x v e1 e2 e3 => ?_⟩, fun x c e => ?_, qP, fun x c e => ?_, fun p hp => absurd (show p ∈ ([] : List (Addr × Obj)) from hp) (by simp), hok, hlen⟩
  · rcases (hf b hb).2.2.2.1 with z | z
    · exact I.ok.noex b o e z
    · exact absurd (Nat.lt_of_lt_of_le (Heap.lt_size e) (Nat.le_trans I.ok.bsz z)) (Nat.lt_irrefl _)
  · rcases List.mem_cons.mp (I.fi b z) with q | q
    · exact (hf b hb).2.1 q
    · exact (hf b hb).2.2.1 q
  · obtain ⟨k1, vx, k2, j, n1, n2⟩ := qQ i x v e1 e2 e3
    obtain ⟨m, hn, hl⟩ := I.loc
    obtain ⟨u, r, l⟩ := hl j x v n1 n2 vx
    refine ⟨u, r, .inr ⟨k1, ?_⟩⟩
    obtain ⟨c', wM⟩ := dD x k1
    rcases l with ⟨kl, _⟩ | ⟨_, c, ec, z⟩
    · rcases k2 with q | q <;> (rw [kl] at q; cases q)
    · have : c' = c := Option.some.inj ((fD x c' wM).symm.trans ec)
      subst this
      exact ⟨c', wM, z.keeps m8⟩
  · obtain ⟨v, z⟩ := I.cell x c (fD x c e)
    exact ⟨v, z.keeps m8⟩
  · obtain ⟨v, o, ho, hd⟩ := I.cell x c (fD x c e)
    exact wK.free c o ho (I.freeC x c (fD x c e)) fun z => wL c z x c (fD x c e) rfl
theorem lookup_map2 {c : Str → NameKind → NameKind} : ∀ {names : List (Str × NameKind)} {x : Str}, (names.map fun (p : Str × NameKind) => (p.1, c p.1 p.2)).lookup x = (names.lookup x).map (c x)
  | [], x => rfl
  | (n, k') :: r, x => by
    have ih := @lookup_map2 c r x
    rw [List.map_cons, List.lookup_cons, List.lookup_cons]
    cases hx : x == n with
    | true =>
      have e : x = n := by simpa using hx
      subst e
      rfl
    | false => exact ih
theorem eF {scope : Scope} {env : Env} (x : Str) : (relabel scope env).names.lookup x = (scope.names.lookup x).map fun k => if (k == .free && env.scope.kind == .function && env.kindOf x == some .cell) = true then .cell else k := by
  have e : (relabel scope env).names = scope.names.map fun p => (p.1, (fun n k => if (k == NameKind.free && env.scope.kind == .function && env.kindOf n == some .cell) = true then NameKind.cell else k) p.1 p.2) := by
    unfold relabel
    dsimp only
    congr 1
    funext p
    obtain ⟨n, k⟩ := p
    dsimp only
    split <;> rfl
  rw [e]
  exact lookup_map2 (c := fun n k => if (k == NameKind.free && env.scope.kind == .function && env.kindOf n == some .cell) = true then NameKind.cell else k)
noncomputable def aL (N : List Str) (sc scope : Scope) (N' : List Str) (tn : Nat) (idx : List Nat) : Prop :=
  scope.kind = .function ∧ (∀ y ∈ scope.names, y.2 ≠ .cell ∧ (y.2 = .local → scope.names.lookup y.1 = some .local) ∧ (y.2 = .free → sc.names.lookup y.1 = some .cell ∨ sc.names.lookup y.1 = some .free)) ∧
    N'.length = tn + idx.length ∧ ∀ p ∈ idx.zip (N'.drop tn), N[p.1]? = some p.2 ∧ scope.names.lookup p.2 = some .free
instance (N : List Str) (sc scope : Scope) (N' : List Str) (tn : Nat) (idx : List Nat) : Decidable (aL N sc scope N' tn idx) := by unfold aL; infer_instance
noncomputable def bD (tn : Nat) (idx : List Nat) (σ : St) : St := List.replicate tn none ++ idx.map fun i => (σ[i]?).join
theorem aL.at {N : List Str} {sc scope : Scope} {N' : List Str} {tn : Nat} {idx : List Nat} (B : aL N sc scope N' tn idx) {σ : St} {i : Nat} {x : Str} {v : V} (h1 : N'[i]? = some x) (h2 : (bD tn idx σ)[i]? = some (some v)) :
    scope.names.lookup x = some .free ∧ ∃ j : Nat, N[j]? = some x ∧ σ[j]? = some (some v) := by
  obtain ⟨_, _, b3, b4⟩ := B
  unfold bD at h2
  by_cases hi : i < tn
  · rw [List.getElem?_append_left (by simpa using hi), List.getElem?_replicate, if_pos hi] at h2
    cases h2
  · rw [List.getElem?_append_right (by simpa using hi), List.length_replicate, List.getElem?_map] at h2
    cases e : idx[i - tn]? with
    | none => rw [e] at h2; cases h2
    | some k =>
      rw [e] at h2
      have h3 : (σ[k]?).join = some v := Option.some.inj h2
      have e2 : (N'.drop tn)[i - tn]? = some x := by
        rw [List.getElem?_drop]
        have : tn + (i - tn) = i := by omega
        rw [this]; exact h1
      have m : (k, x) ∈ idx.zip (N'.drop tn) := by
        refine List.mem_of_getElem? (i := i - tn) ?_
        rw [List.getElem?_zip_eq_some]
        exact ⟨e, e2⟩
      obtain ⟨a, b⟩ := b4 _ m
      refine ⟨b, k, a, ?_⟩
      cases q : σ[k]? with
      | none => rw [q] at h3; cases h3
      | some w => rw [q] at h3; exact congrArg some h3
theorem aL.len {N : List Str} {sc scope : Scope} {N' : List Str} {tn : Nat} {idx : List Nat} (B : aL N sc scope N' tn idx) (σ : St) : (bD tn idx σ).length = N'.length := by
  rw [B.2.2.1]
  unfold bD
  simp
section
variable {X : Cx}
noncomputable def jx (X : Cx) (ifs : List Expr) (tt : TT) : Prop :=
  ∀ (pins : List (Addr × Obj)) (s : Shared) (σ : St) (H : Hp) (Q : Bool → Hp → Prop), Inv X pins σ H s → tt σ H Q →
    wpAny (model X.prog X.w) X.A (forIn ifs true fun c r => if r = true then do let ok ← isTrue c X.env (eval c X.env); pure (ForInStep.yield ok) else pure (ForInStep.yield r)) (TP X pins σ Q) X.xe s
noncomputable def IB : TT := fun _ H Q => Q true H
theorem Cu : jx X [] IB := fun _ _ _ H _ I h => wpAny_tests_nil ⟨H, I, h⟩
theorem Cv {c : Expr} {tc : TT} (h : PT X c tc) : jx X [c] tc := fun pins s σ H Q I q => wpAny_tests_one (h pins s σ H Q I q)
noncomputable abbrev lV (X : Cx) (N' : List Str) (scope : Scope) (cl : List (Str × Addr)) (C : Addr) (s : Shared) (H : Hp) (fp : List Addr) : Cx := cxBlock X N' (compEnvC scope cl C X.env) X.A X.stack s H fp
noncomputable abbrev Blk (X : Cx) (N' : List Str) (scope : Scope) (P : Cx → Prop) : Prop := ∀ (cl : List (Str × Addr)) (C : Addr) (s : Shared) (H : Hp) (fp : List Addr), P (lV X N' scope cl C s H fp)
noncomputable def uJ (J : It) (g : TG) (tt : TT) (te : TE) (D : Addr) (Q : VK) (W : Nat → Nat → St → Hp → Prop) : Prop := ∀ i m τ H, W i m τ H →
  (J.stop i H ∧ Q (.ref D) H) ∨ (J.go i H ∧ ∀ x H', J.yld i H x H' → g x τ H' fun aE H2 => tt aE H2 fun b H3 => if b = true then te aE H3 fun y H4 => ∃ ys m', H4 D = some (.lst ys) ∧ ys.length < sizeLine ∧ m' < m ∧ W (i + 1) m' aE (upd H4 D (.lst (ys ++ [y]))) else ∃ m', m' < m ∧ W (i + 1) m' aE H3)
noncomputable def m9 (tn : Nat) (idx : List Nat) (wi : TI) (g : TG) (tt : TT) (te : TE) : TE := fun σ H Q => wi σ H fun J H1 => ∀ D, H1 D = none → ∃ W : Nat → Nat → St → Hp → Prop, (∃ m, W 0 m (bD tn idx σ) (upd H1 D (.lst []))) ∧ uJ J g tt te D Q W
theorem pv {pins : List (Addr × Obj)} {σ : St} {H2 : Hp} {s2 : Shared} {tg elt iter : Expr} {ifs : List Expr} {scope : Scope} {pos : Pos} {N' : List Str} {tn : Nat} {idx : List Nat} {g : TG} {tt : TT} {te : TE} {it : Addr} {fp : List Addr} {c9 : Nat → Heap → Prop} {J : It}
    {cl : List (Str × Addr)} {E : Value → Shared → Prop} {RR : Value → Addr → Result → Shared → Prop} {Q : VK}
    (hc : X.calm = true) (B : aL X.N X.env.scope scope N' tn idx)
    (hg : Blk X N' scope fun Y => PG Y tg g) (ht : Blk X N' scope fun Y => jx Y ifs tt) (he : Blk X N' scope fun Y => PE Y elt te)
    (I : Inv X pins σ H2 s2) (T : Turn X.prog X.w X.K tg J fp it c9) (st : c9 0 s2.heap) (f2 : ∀ b ∈ fp, dB X pins H2 b)
    (dE : ∀ n c, cl.lookup n = some c → X.env.cells.lookup n = some c) (fL : ∀ n, (n, NameKind.free) ∈ scope.names → ∃ c, cl.lookup n = some c)
    (hq : ∀ D, H2 D = none → ∃ W : Nat → Nat → St → Hp → Prop, (∃ m, W 0 m (bD tn idx σ) (upd H2 D (.lst []))) ∧ uJ J g tt te D Q W)
    (Fm : ∀ D C m s' H', Inv X pins σ H' s' → dB X pins H' C → s'.heap.Ns C m → Q (.ref D) H' → RR (.ref D) C (.ok .next) s') :
    wpAny (model X.prog X.w) X.A (newList []) (fun acc gb => wpAny (model X.prog X.w) X.A (newFunctionEnv scope X.env.globals cl [] X.env.qual none .none (some X.env)) (fun qR zx =>
      codeAny (model X.prog X.w) X.A (.compStart (.ListComp elt [⟨tg, iter, ifs, 0⟩] scope pos) 0 (.ref it) acc { qR with scope := relabel scope X.env }) (RR acc qR.locals) zx) E gb) E s2 := by
  obtain ⟨b1, b2, b3, b4⟩ := id B
  refine wpAny_newObj_type (wpAny_newFunctionEnv (fun y hy => (b2 y hy).1) (by intro y hy; simp at hy) (fun fM ku ng => ?_) b1)
  dsimp only at ku ng ⊢
  generalize hG : s2.heap.push { cls := .type "list", dict := none, data := .seq ([] : List Value).toArray } = G at ku ng ⊢
  have hC : G.objs.size = s2.heap.objs.size + 1 := by rw [← hG, Heap.size_push]
  have Bh : s2.heap.objs.size ≠ G.objs.size := by rw [hC]; exact Nat.ne_of_lt (Nat.lt_succ_self _)
  have jJ : s2.heap.objs.size ≤ G.objs.size := by rw [hC]; exact Nat.le_succ _
  have below : ∀ b, b < s2.heap.objs.size → b ≠ G.objs.size := fun b hb => by rw [hC]; exact Nat.ne_of_lt (Nat.lt_succ_of_lt hb)
  have old : ∀ b o, s2.heap.get? b = some o → fM.get? b = some o := fun b o e => ng.extBut b o (below b (Heap.lt_size e)) (Heap.get?_push_of_some _ (hG ▸ Heap.get?_push_of_some _ e))
  have Fn : fM.get? s2.heap.objs.size = some { cls := .type "list", data := .seq ([] : List Value).toArray } := ng.extBut _ _ Bh (Heap.get?_push_of_some _ (hG ▸ Heap.get?_push_size _ rfl))
  have wN : H2 s2.heap.objs.size = none := I.hok.fresh (Nat.le_refl _)
  have qP : upd H2 s2.heap.objs.size (.lst []) G.objs.size = none := by rw [aj (Ne.symm Bh)]; exact I.hok.fresh jJ
  have zy : c6 X.prog X.w (upd H2 s2.heap.objs.size (.lst [])) fM := I.hok.laid old (Nat.le_refl _) ⟨Nat.zero_le _, [], 0, .nil, Fn⟩
  have j5 : ∀ b ∈ fp, b < s2.heap.objs.size := fun b hb => let ⟨o, e, _⟩ := T.obj _ _ st b hb; Heap.lt_size e
  obtain ⟨W, ⟨m0, w0⟩, turn⟩ := hq s2.heap.objs.size wN
  have I1 : Inv (lV X N' scope cl G.objs.size s2 H2 fp) [] (bD tn idx σ) (upd H2 s2.heap.objs.size (.lst [])) { s2 with heap := fM, toks := s2.toks + ([] : List (Str × Value)).length } := by
    refine pq (g' := s2.gens) (m0 := fun x => ([] : List (Str × Value)).reverse.lookup x) I b1 rfl rfl dE (fun x hx => ?_) (fun z => I.ok.hd z) I.ok.frames (.inl rfl) jJ f2 j5 (Un.laid old (Nat.le_refl _) wN) zy qP old ku (fun i x v e1 e2 e3 => ?_) (B.len σ) I.bare.self
    · have ky : (relabel scope X.env).names.lookup x = some .cell ∨ (relabel scope X.env).names.lookup x = some .free := hx
      rw [eF] at ky
      cases q : scope.names.lookup x with
      | none => rw [q] at ky; rcases ky with z | z <;> cases z
      | some k0 =>
        have hm := PySem.mem_of_lookup q
        rw [q] at ky
        by_cases hk : k0 = .free
        · subst hk; exact fL x hm
        · have nk : (k0 == NameKind.free) = false := by simpa using hk
          have nc := (b2 _ hm).1
          simp only [Option.map_some, nk, Bool.false_and, Bool.false_eq_true, if_false] at ky
          rcases ky with z | z
          · exact absurd (Option.some.inj z) nc
          · exact absurd (Option.some.inj z) hk
    · obtain ⟨fr, j, e4, e5⟩ := B.at e1 e2
      have kx := (b2 _ (PySem.mem_of_lookup fr)).2.2 rfl
      refine ⟨?_, .inr kx, kx, j, e4, e5⟩
      show (relabel scope X.env).names.lookup x = some .cell ∨ (relabel scope X.env).names.lookup x = some .free
      rw [eF, fr]
      simp only [Option.map_some]
      split
      · exact .inl rfl
      · exact .inr rfl
  have stat : ∀ {H' : Hp}, (∀ b ∈ fp, H' b = none) → ∀ b ∈ fp, dB (lV X N' scope cl G.objs.size s2 H2 fp) [] H' b := fun hn b hb => by
    refine ⟨hn b hb, below b (j5 b hb), fun z => ?_, .inl hb, fun x c e => (f2 b hb).2.2.2.2.1 x c (dE x c e), fun p hp => absurd (show p ∈ ([] : List (Addr × Obj)) from hp) (by simp)⟩
    rcases List.mem_cons.mp (I.fi b z) with q | q
    · exact (f2 b hb).2.1 q
    · exact (f2 b hb).2.2.1 q
  have loop : ∀ gb : Shared, gb = { s2 with heap := fM, toks := s2.toks + ([] : List (Str × Value)).length } →
      codeAny (model X.prog X.w) X.A (.compLoop (.ListComp elt [⟨tg, iter, ifs, 0⟩] scope pos) 0 (.ref it) (.ref s2.heap.objs.size) (compEnvC scope cl G.objs.size X.env))
        (RR (.ref s2.heap.objs.size) G.objs.size) gb := by
    rintro gb rfl
    refine codeAny_loop rfl (fun n s' => ∃ i τ H', Inv (lV X N' scope cl G.objs.size s2 H2 fp) [] τ H' s' ∧ c9 i s'.heap ∧ (∀ b ∈ fp, H' b = none) ∧ W i n τ H') (fun n s hI => ?_) m0
      ⟨0, _, _, I1, T.keep _ _ _ st fun b _ o e => old b o e, fun b hb => by rw [aj (Nat.ne_of_lt (j5 b hb))]; exact (f2 b hb).1, w0⟩
    show wpAny _ X.A ((compTurn (.ListComp elt [⟨tg, iter, ifs, 0⟩] scope pos) 0 (.ref it) (.ref s2.heap.objs.size) (compEnvC scope cl G.objs.size X.env)).onRaise (fun x => do noteFrame x (compEnvC scope cl G.objs.size X.env); theTreesLotGoes x)) _ _ s
    refine wpAny_noted ?_
    rw [compTurn_list]
    obtain ⟨i, τ, H3, I3, kg, oZ, w3⟩ := hI
    rcases turn i n τ H3 w3 with ⟨stop, qn⟩ | ⟨go, step⟩
    · refine wpAny_bind (wpAny_standAt (wpAny_bind (wpAny_mono (T.done (lV X N' scope cl G.objs.size s2 H2 fp) rfl rfl rfl hc i [] s τ H3 (fun _ _ => False) I3 (stat oZ) kg stop) (fun r s4 ⟨hr, I4⟩ => ?_) fun _ _ z => z.elim)))
      subst hr
      refine wpAny_pure ?_
      have J2 : Inv X pins σ H3 s4 := I.lx I4.os I4.base I4.hok I4.bare fun b hb => ⟨(f2 b hb).2.2.2.1, (f2 b hb).2.1, (f2 b hb).2.2.2.2.1, (f2 b hb).2.2.2.2.2⟩
      obtain ⟨mm, hm, _⟩ := I4.loc
      exact Fm _ _ mm s4 H3 J2 (I.jH jJ I4.free) hm qn
    · refine wpAny_bind (wpAny_standAt (wpAny_bind (wpAny_mono (T.item (lV X N' scope cl G.objs.size s2 H2 fp) rfl rfl rfl hc i [] s τ H3 (fun _ _ => False) I3 (stat oZ) kg go) (fun r s4 ⟨u, hr, h4⟩ => ?_) fun _ _ z => z.elim)))
      subst hr
      refine wpAny_bind (wpAny_mono h4 (fun _ s5 ⟨x, H5, I5, r5, y5, ip, qG⟩ => ?_) fun _ _ z => z.elim)
      have qH := I5.pinned (stat qG) (T.obj _ _ ip)
      have again : ∀ {j6 : St} {H7 : Hp} {s7 : Shared}, Inv (lV X N' scope cl G.objs.size s2 H2 fp) ([] ++ il fp s5.heap) j6 H7 s7 → (∃ m', m' < n ∧ W (i + 1) m' j6 H7) →
          ∃ m, m < n ∧ ∃ i τ H', Inv (lV X N' scope cl G.objs.size s2 H2 fp) [] τ H' s7 ∧ c9 i s7.heap ∧ (∀ b ∈ fp, H' b = none) ∧ W i m τ H' := fun {j6 H7 s7} I7 n7 => by
        obtain ⟨m', hm, w7⟩ := n7
        refine ⟨m', hm, i + 1, j6, H7, I7.eE, T.keep _ _ _ ip fun b hb o e => (I7.pin (b, o) (List.mem_append_right _ (List.mem_append_right _ (c7 hb e)))).1, fun b hb => ?_, w7⟩
        obtain ⟨o, e, d⟩ := T.obj _ _ ip b hb
        exact (I7.pin (b, o) (List.mem_append_right _ (List.mem_append_right _ (c7 hb e)))).2.1
      refine wpAny_bind (wpAny_mono (hg cl G.objs.size s2 H2 fp _ s5 τ H5 x u _ qH r5 (step x H5 y5)) (fun _ s6 ⟨jy, H6, I6, q6⟩ => ?_) fun _ _ z => z.elim)
      refine wpAny_bind (wpAny_mono (ht cl G.objs.size s2 H2 fp _ s6 jy H6 _ I6 q6) (fun ok s7 ⟨H7, I7, q7⟩ => ?_) fun _ _ z => z.elim)
      cases ok with
      | false => exact wpAny_pure ⟨rfl, again I7 q7⟩
      | true =>
        refine wpAny_bind (wpAny_bind (wpAny_mono (he cl G.objs.size s2 H2 fp _ s7 jy H7 _ I7 q7) (fun yv s8 ⟨y, H8, I8, r8, q8⟩ => ?_) fun _ _ z => z.elim))
        obtain ⟨ys, m', hD, bY, nh, w8⟩ := q8
        refine wpAny_bind (wpAny_mono (kr (X := lV X N' scope cl G.objs.size s2 H2 fp) _ s8 jy H8 (.ref s2.heap.objs.size) [y] (.ref s2.heap.objs.size) [yv] (fun v H9 => v = .ao ∧ H9 = upd H8 s2.heap.objs.size (.lst (ys ++ [y]))) I8 rfl (.cons r8 .nil) ⟨_, ys, y, rfl, rfl, hD, bY, rfl, rfl⟩) (fun rv s9 ⟨v9, H9, I9, _, _, e9⟩ => ?_) fun _ _ z => z.elim)
        subst e9
        exact wpAny_pure (wpAny_pure ⟨rfl, again I9 ⟨m', nh, w8⟩⟩)
  exact codeAny_compStart_list (loop _ rfl) (T.self _ 0 _ _ _ (T.keep _ _ _ st fun b _ o e => old b o e) (loop _ rfl))
variable {tg elt iter : Expr} {ifs : List Expr} {scope : Scope} {pos : Pos} {N' : List Str} {tn : Nat} {idx : List Nat} {wi : TI} {g : TG} {tt : TT} {te : TE}
theorem dB.turn {pins : List (Addr × Obj)} {σ : St} {H : Hp} {s : Shared} {C : Addr} {h' : Heap} (f : dB X pins H C) (I : Inv X pins σ H s) (hs : Heap.SameBut C s.heap h') : Inv X pins σ H { s with heap := h' } :=
  I.turned (t' := s.toks) (fun b o hb e => (hs.2 b hb).trans e) f.1 f.2.1 f.2.2.2.1 f.2.2.2.2.1 f.2.2.2.2.2
theorem lW (hc : X.calm = true) (B : aL X.N X.env.scope scope N' tn idx) (hi : PI X tg iter wi)
    (hg : Blk X N' scope fun Y => PG Y tg g) (ht : Blk X N' scope fun Y => jx Y ifs tt) (he : Blk X N' scope fun Y => PE Y elt te)
    (hs : ∀ x, foldedSetIterable iter X.env x = pure x := by intro _; rfl) : PE X (.ListComp elt [⟨tg, iter, ifs, 0⟩] scope pos) (m9 tn idx wi g tt te) := by
  refine ⟨?_⟩
  intro pins s σ H Q I h
  obtain ⟨cl, gr, dE, fL⟩ := fK (scope := scope) (env := X.env) fun n hn => I.ok.has n ((B.2.1 _ hn).2.2 rfl)
  rw [eval_ListComp]
  refine wpAny_comprehension_free (use := none) rfl hs gr B.1 (fun y hy => (B.2.1 y hy).2.1) (wpAny_mono (hi pins s σ H _ I h) (fun xv s1 h1 => wpAny_mono h1 (fun tI s2 h2 => ?_) fun _ _ z => z) fun _ _ z => z)
  obtain ⟨it, fp, c9, J, H2, e, I2, T, mY, f2, q2⟩ := h2
  subst e
  refine pv (RR := fun acc C => compPost (model X.prog X.w) X.A X.xe none (EP X pins σ Q) acc C) hc B hg ht he I2 T mY f2 dE fL q2 fun D C m s' H' J2 fC hm q => ?_
  exact ⟨m, hm, fun h' pw => ⟨.ref D, H', fC.turn J2 pw, rfl, q⟩⟩
theorem uK {i : Nat} {y : Str} {py iu : Pos} (hN : X.N.Nodup) (jz : X.N[i]? = some y) (hy : X.env.scope.names.lookup y = some .local) (hc : X.calm = true) (B : aL X.N X.env.scope scope N' tn idx) (hi : PI X tg iter wi)
    (hg : Blk X N' scope fun Y => PG Y tg g) (ht : Blk X N' scope fun Y => jx Y ifs tt) (he : Blk X N' scope fun Y => PE Y elt te)
    (qS : swapsWith (.ListComp elt [⟨tg, iter, ifs, 0⟩] scope pos) (some (.Name y py)) iu.line X.env = pure true := by rfl)
    (hs : ∀ x, foldedSetIterable iter X.env x = pure x := by intro _; rfl) : PS X (.Assign [.Name y py] (.ListComp elt [⟨tg, iter, ifs, 0⟩] scope pos) iu) (n5 (m9 tn idx wi g tt te) (mX i)) := by
  refine ⟨?_⟩
  intro pins s σ H D I h
  obtain ⟨cl, gr, dE, fL⟩ := fK (scope := scope) (env := X.env) fun n hn => I.ok.has n ((B.2.1 _ hn).2.2 rfl)
  rw [exec_Assign_Name_used _ _ _ _ qS]
  refine wpAny_bind (wpAny_standAt (wpAny_bind ?_))
  show wpAny _ X.A (do let _ ← comprehension (.ListComp elt [⟨tg, iter, ifs, 0⟩] scope pos) scope X.env _ (newList []) false (eval iter X.env) (some (assign (.Name y py) X.env))) _ _ s
  refine wpAny_bind (wpAny_mono (wpAny_comprehension_free (use := some (assign (.Name y py) X.env)) (Q := fun _ s' => SP X pins D .next s') rfl hs gr B.1 (fun y hy => (B.2.1 y hy).2.1)
    (wpAny_mono (hi pins s σ H _ I h) (fun xv s1 h1 => wpAny_mono h1 (fun tI s2 h2 => ?_) fun _ _ z => z) fun _ _ z => z)) (fun _ s' hq => wpAny_pure (wpAny_pure hq)) fun _ _ z => z)
  obtain ⟨it, fp, c9, J, H2, e, I2, T, mY, f2, q2⟩ := h2
  subst e
  refine pv (RR := fun acc C => compPost (model X.prog X.w) X.A X.xe (some (assign (.Name y py) X.env)) (fun _ s' => SP X pins D .next s') acc C) hc B hg ht he I2 T mY f2 dE fL q2 fun E C m s' H' J2 fC hm q => ?_
  show wpAny _ X.A (assign (.Name y py) X.env (.ref E)) _ _ s'
  refine wpAny_assign_Name (store_ok2 J2 hN jz (.inl hy) (v := .ref E) rfl (fun s3 J3 ⟨a, tR, ha⟩ => ?_) (.inr hy))
  have fV : C ≠ a := by
    rcases ha with z | z
    · rw [z]; exact fC.2.1
    · exact fun w => fC.2.2.2.2.1 _ _ z w.symm
  exact ⟨m, hm.sameBut tR fV, fun h' pw => ⟨_, H', fC.turn J3 pw, q⟩⟩
end
noncomputable def Tb (P : Addr) (H : Hp) : Prop := ∃ ps, H P = some (.cg ps) ∧ TriplesOk ps.toList
section
variable {X : Cx} {pins : List (Addr × Obj)} {σ : St} {H : Hp} {s : Shared} {P : Addr} {ps more : Array Value} {h' : Heap}
theorem Inv.grown (I : Inv X pins σ H s) (hP : H P = some (.cg ps)) (k : ∀ b o, b ≠ P → s.heap.get? b = some o → h'.get? b = some o) (n : h'.get? P = some { cls := .none, data := .fields (ps ++ more) }) (t' : Nat) :
    Inv X pins σ (upd H P (.cg (ps ++ more))) { s with heap := h', toks := t' } := by
  have ne : ∀ b u, H b = some u → u ≠ .cg ps → b ≠ P := fun b u e d => HX e hP d
  have nn : ∀ b, H b = none → b ≠ P := fun b e z => by rw [z, hP] at e; cases e
  refine I.un ⟨fun b o e q _ _ => k b o (nn b q) e, fun b o e q _ _ => ⟨o.slots, k b o (nn b q) e⟩, fun b o e q _ => by rw [aj (nn b q)]; exact q, fun b o e _ => ?_, fun b xs e => by rw [aj (ne b _ e (by intro z; cases z))]; exact e,
    fun b o u e => by rw [aj (ne b _ e (by intro z; cases z))]; exact e, fun b qs e => ?_⟩ fun b u e => ?_
  · by_cases hb : b = P
    · subst hb; exact ⟨_, n⟩
    · exact ⟨o, k b o hb e⟩
  · by_cases hb : b = P
    · subst hb
      rw [hP] at e; cases e
      exact ⟨more, aG⟩
    · exact ⟨#[], by rw [aj hb, e]; simp⟩
  · by_cases hb : b = P
    · subst hb
      rw [aG] at e; cases e
      exact n
    · rw [aj hb] at e
      refine (I.hok b u e).fY (fun c v hc q => k c v ?_ q) (fun c q => ?_) fun c xs q => ?_
      · rcases hc with z | z
        · rw [z]; exact hb
        · exact ne c _ z (by intro w; cases w)
      · rw [aj (ne c _ q (by intro w; cases w))]; exact q
      · rw [aj (ne c _ q (by intro w; cases w))]; exact q
theorem oa {c : Addr} {pos : Pos} {qn : Str} {scope : Scope} {Q : Value → Shared → Prop} {A : Around} {E : Value → Shared → Prop} (I : Inv X pins σ H s) (hc : X.env.code = .ref c) (hd : PySem.W.CodeHd X.base c P) (hP : H P = some (.cg ps)) (ht : TriplesOk ps.toList)
    (h : ∀ code fN s', TriplesOk fN.toList → Inv X pins σ (upd H P (.cg fN)) s' → (∀ b o, b ≠ P → s.heap.get? b = some o → s'.heap.get? b = some o) → s'.gens = s.gens → Q code s') : wpAny (model X.prog X.w) A (genexprCode X.env pos qn scope) Q E s := by
  have qT : s.heap.get? P = some (PySem.W.tabObj ps) := I.hok P _ hP
  have A7 := hd.keeps I.bk
  have ic := A7.code qT ht
  cases q : codeAmong pos ps.toList with
  | some c' =>
    refine wpAny_genexprCode_hit hc ic q (h c' ps s ht ?_ (fun _ _ _ e => e) rfl)
    have e : upd H P (.cg ps) = H := by
      funext b
      by_cases hb : b = P
      · subst hb; rw [aG, hP]
      · rw [aj hb]
    rw [e]; exact I
  | none =>
    refine wpAny_genexprCodeX hc ic (A7.tab qT) q fun c' h' tk ex h1 h2 Pw _ ta _ => ?_
    obtain ⟨_, Bi⟩ := ta
    have tr : TriplesOk (ps ++ #[rawInt pos.line, rawInt pos.col, Value.ref c']).toList := by
      rw [Array.toList_append]
      exact TriplesOk_snoc _ _ _ _ ht
    exact h _ _ _ tr (I.grown hP (fun b o hb e => ex b o hb e) Bi tk) (fun b o hb e => ex b o hb e) rfl
end
noncomputable def mq (s b8 : Shared) : Prop := b8.heap = s.heap ∧ b8.os = s.os ∧ Gn s.gens.size b8.gens
theorem Inv.og {X : Cx} {pins : List (Addr × Obj)} {σ : St} {H : Hp} {s b8 : Shared} (I : Inv X pins σ H s) (o : mq s b8) : Inv X pins σ H b8 := by
  obtain ⟨h, g, d, t, os⟩ := s
  obtain ⟨h', g', d', t', JY⟩ := b8
  obtain ⟨e1, e2, e3⟩ := o
  cases e1
  cases e2
  exact ⟨I.ok, I.os, I.bare.trans e3, I.base, I.loc, I.cell, I.free, I.freeC, I.pin, I.hok, I.len⟩
section
variable {Y : Cx} {A2 : Around} {tg elt iter : Expr} {ifs : List Expr} {scope : Scope} {pos : Pos} {it : Addr} {fp : List Addr} {c9 : Nat → Heap → Prop} {J : It} {g : TG} {tt : TT} {te : TE} {pp : List (Addr × Obj)} {R : GenEnd} {Yp : Protocol}
noncomputable def Fo (J : It) (g : TG) (tt : TT) (te : TE) (stopAt : Bool) (Z : Bool → Hp → Prop) (W : Nat → Nat → St → Hp → Prop) : Prop := ∀ i m τ H, W i m τ H →
  (J.stop i H ∧ Z (!stopAt) H) ∨ (J.go i H ∧ ∀ x H', J.yld i H x H' → g x τ H' fun aE H2 => tt aE H2 fun b H3 => if b = true then te aE H3 fun y H4 => ∃ c, y = .bl c ∧ (if c = stopAt then Z stopAt H4 else ∃ m', m' < m ∧ W (i + 1) m' aE H4) else ∃ m', m' < m ∧ W (i + 1) m' aE H3)
theorem zz (hA : Y.A = A2.over (.compLoop (.GeneratorExp elt [⟨tg, iter, ifs, 0⟩] scope pos) 0 (.ref it) .none Y.env) []) (Fp : Y.xe = fun _ _ => False) (hc : Y.calm = true) (px : Y.env.scope.isCoroutine = false)
    (T : Turn Y.prog Y.w Y.K tg J fp it c9) (hg : PG Y tg g) (ht : jx Y ifs tt) (he : PE Y elt te) (stat : ∀ {H' : Hp}, (∀ b ∈ fp, H' b = none) → ∀ b ∈ fp, dB Y pp H' b)
    {W : Nat → Nat → St → Hp → Prop} {Z : Bool → Hp → Prop} {stopAt : Bool} (turn : Fo J g tt te stopAt Z W)
    (hR : ∀ n s₀ az τ H, Inv Y pp τ H az → Z (!stopAt) H → R n s₀ (.ok .next) az)
    (hY : ∀ n s₀ s qU c τ H, Inv Y pp τ H s → (c = stopAt → Z stopAt H) → (c ≠ stopAt → ∀ b8, mq s b8 → qU (.send .none) b8) → Yp n s₀ (.bool c) s qU) :
    ∀ (m n i : Nat) (τ : St) (H : Hp) (s s₀ : Shared), m < n → W i m τ H → Inv Y pp τ H s → c9 i s.heap → (∀ b ∈ fp, H b = none) →
      Seg (model Y.prog Y.w) A2 R Yp n s₀ (.compLoop (.GeneratorExp elt [⟨tg, iter, ifs, 0⟩] scope pos) 0 (.ref it) .none Y.env)
        ((model Y.prog Y.w).den (.compLoop (.GeneratorExp elt [⟨tg, iter, ifs, 0⟩] scope pos) 0 (.ref it) .none Y.env)) [] s := by
  intro m
  induction m using Nat.strongRecOn with
  | ind m ih =>
    intro n i τ H s s₀ Px w I st fr
    show Seg _ A2 _ _ _ s₀ _ ((compTurn (.GeneratorExp elt [⟨tg, iter, ifs, 0⟩] scope pos) 0 (.ref it) .none Y.env).onRaise (leaving Y.env)) [] s
    rw [compTurn_gen, Sem.onRaise_eq_wrap]
    rcases turn i m τ H w with ⟨stop, qn⟩ | ⟨go, step⟩
    · refine seg_bind_wrap (wpAny_standAt ?_)
      have d := T.done Y rfl rfl rfl hc i pp s τ H (fun _ _ => False) I (stat fr) st stop
      rw [hA] at d
      refine seg_bind_wrap (wpAny_mono d (fun r s1 ⟨hr, I1⟩ => ?_) fun _ _ z => z.elim)
      subst hr
      exact seg_end (.ok .next) (hR _ _ _ _ _ I1 qn)
    · refine seg_bind_wrap (wpAny_standAt ?_)
      have d := T.item Y rfl rfl rfl hc i pp s τ H (fun _ _ => False) I (stat fr) st go
      rw [hA] at d
      refine seg_bind_wrap (wpAny_mono d (fun r s4 ⟨u, hr, h4⟩ => ?_) fun _ _ z => z.elim)
      subst hr
      refine seg_bind_wrap (wpAny_mono h4 (fun _ s5 ⟨x, H5, I5, r5, y5, ip, qG⟩ => ?_) fun _ _ z => z.elim)
      have qH := I5.pinned (stat qG) (T.obj _ _ ip)
      have back : ∀ {j6 : St} {H7 : Hp} {s7 : Shared}, Inv Y (pp ++ il fp s5.heap) j6 H7 s7 → c9 (i + 1) s7.heap ∧ ∀ b ∈ fp, H7 b = none := fun {j6 H7 s7} I7 => by
        refine ⟨T.keep _ _ _ ip fun b hb o e => (I7.pin (b, o) (List.mem_append_right _ (List.mem_append_right _ (c7 hb e)))).1, fun b hb => ?_⟩
        obtain ⟨o, e, d⟩ := T.obj _ _ ip b hb
        exact (I7.pin (b, o) (List.mem_append_right _ (List.mem_append_right _ (c7 hb e)))).2.1
      have d2 := hg _ s5 τ H5 x u _ qH r5 (step x H5 y5)
      rw [hA, Fp] at d2
      refine seg_bind_wrap (wpAny_mono d2 (fun _ s6 ⟨jy, H6, I6, q6⟩ => ?_) fun _ _ z => z.elim)
      have d3 := ht _ s6 jy H6 _ I6 q6
      rw [hA, Fp] at d3
      refine seg_bind_wrap (wpAny_mono d3 (fun ok s7 ⟨H7, I7, q7⟩ => ?_) fun _ _ z => z.elim)
      have hy : ∀ v, yieldOut Y.env v = yieldValue v := fun v => by simp only [yieldOut, px, Bool.false_eq_true, if_false]
      cases ok with
      | false =>
        simp only [Bool.false_eq_true, if_false] at q7 ⊢
        obtain ⟨m', nh, w7⟩ := q7
        exact seg_again rfl (ih m' nh n (i + 1) jy H7 s7 s₀ (by omega) w7 I7.eE (back I7).1 (back I7).2)
      | true =>
        simp only [if_true] at q7 ⊢
        simp only [hy]
        rw [Sem.bind_eq_wrap', Sem.bind_eq_wrap', Sem.wrap_wrap, Sem.wrap_wrap]
        have d4 := he _ s7 jy H7 _ I7 q7
        rw [hA, Fp] at d4
        refine seg_wrap (wpAny_mono d4 (fun yv s8 ⟨y, H8, I8, r8, q8⟩ => ?_) fun _ _ z => z.elim)
        obtain ⟨c, ey, q8⟩ := q8
        subst ey
        cases (show yv = Value.bool c from r8)
        obtain ⟨n, rfl⟩ : ∃ n', n = n' + 1 := ⟨n - 1, by omega⟩
        refine seg_at (seg_yield rfl rfl rfl (hY _ _ _ _ c jy H8 I8.eE (fun e => by rw [if_pos e] at q8; exact q8) fun e b8 ok => ?_))
        rw [if_neg e] at q8
        obtain ⟨m', nh, w8⟩ := q8
        have I9 := I8.og ok
        exact seg_again rfl (ih m' nh n (i + 1) jy H8 b8 b8 (by omega) w8 I9.eE (back I9).1 (back I9).2)
end
noncomputable abbrev dR (elt tg iter : Expr) (ifs : List Expr) (scope : Scope) (pos : Pos) : Expr := .GeneratorExp elt [⟨tg, iter, ifs, 0⟩] scope pos
noncomputable abbrev Fq (X : Cx) (N' : List Str) (scope : Scope) (cl : List (Str × Addr)) (C : Addr) (code : Value) (A' : Around) (s : Shared) (H : Hp) (fp : List Addr) : Cx :=
  cxBlock X N' (genEnv scope cl C code builtinsNs X.env) A' (genEnv scope cl C code builtinsNs X.env :: X.stack) s H fp
noncomputable abbrev mr (X : Cx) (N' : List Str) (scope : Scope) (k : Nat) (P : Cx → Prop) : Prop := ∀ (cl : List (Str × Addr)) (C : Addr) (code : Value) (A' : Around) (s : Shared) (H : Hp) (fp : List Addr), bB k A' → P (Fq X N' scope cl C code A' s H fp)
structure LI (X : Cx) (pins : List (Addr × Obj)) (σ : St) (N' : List Str) (scope : Scope) (tn : Nat) (idx : List Nat) (k : Nat) (elt tg iter : Expr) (ifs : List Expr) (pos : Pos) (J : It) (H3 : Hp) (a : Addr) (s5 : Shared)
    (Y : Cx) (it : Addr) (fp : List Addr) (c9 : Nat → Heap → Prop) (g : Nat) (pp : List (Addr × Obj)) : Prop where
  inv : Inv Y pp (bD tn idx σ) H3 s5
  isg : ∀ {τ : St} {H' : Hp} {s' : Shared}, Inv Y pp τ H' s' → s'.heap.IsGen a g
  st : s5.gens[g]? = some (.fresh (.compStart (dR elt tg iter ifs scope pos) 0 (.ref it) .none Y.env))
  T : Turn Y.prog Y.w Y.K tg J fp it c9
  tn0 : c9 0 s5.heap
  fr : ∀ b ∈ fp, H3 b = none
  stat : ∀ {H' : Hp}, (∀ b ∈ fp, H' b = none) → ∀ b ∈ fp, dB Y pp H' b
  out : ∀ {τ : St} {H' : Hp} {s' : Shared}, Inv Y pp τ H' s' → Inv X pins σ H' s'
  A : Y.A = X.A.in4.in1.over (.compLoop (dR elt tg iter ifs scope pos) 0 (.ref it) .none Y.env) []
  xe : Y.xe = fun _ _ => False
  calm : Y.calm = true
  co : Y.env.scope.isCoroutine = false
  gsz : ∀ {τ : St} {H' : Hp} {s' : Shared}, Inv Y pp τ H' s' → g < s'.gens.size
  blk : ∀ P : Cx → Prop, mr X N' scope k P → P Y
  prog : Y.prog = X.prog
  w : Y.w = X.w
section
variable {X : Cx} {tg elt iter : Expr} {ifs : List Expr} {scope : Scope} {pos : Pos} {N' : List Str} {tn : Nat} {idx : List Nat} {wi : TI} {g : TG} {tt : TT} {te : TE} {c P : Addr} {k : Nat}
noncomputable def Fs (P : Addr) (wi : TI) (R : It → Hp → Prop) : St → Hp → Prop := fun σ H => wi σ H fun J H1 => Tb P H1 ∧ ∀ ps, TriplesOk ps.toList → R J (upd H1 P (.cg ps))
theorem zA {pins : List (Addr × Obj)} {s : Shared} {σ : St} {H : Hp} {QQ : Value → Shared → Prop} {R : It → Hp → Prop} (hr : bB (k + 1) X.A) (hc : X.calm = true) (B : aL X.N X.env.scope scope N' tn idx)
    (h0 : scope.names.lookup (".0" : Str) = some .local) (px : scope.isCoroutine = false) (bJ : X.env.code = .ref c) (hd : PySem.W.CodeHd X.base c P) (du : ∃ bm ob, BMod X.base mainGlobals X.mg bm ob)
    (hi : PI X tg iter wi) (hs : ∀ x, genFold iter X.env x = pure x) (I : Inv X pins σ H s) (h : Fs P wi R σ H)
    (q : ∀ J H3 a s5 Y it fp c9 gn pp, LI X pins σ N' scope tn idx k elt tg iter ifs pos J H3 a s5 Y it fp c9 gn pp → R J H3 → QQ (.ref a) s5) :
    wpAny (model X.prog X.w) X.A (eval (dR elt tg iter ifs scope pos) X.env) QQ X.xe s := by
  obtain ⟨cl, gr, dE, fL⟩ := fK (scope := scope) (env := X.env) fun n hn => I.ok.has n ((B.2.1 _ hn).2.2 rfl)
  refine wpAny_GeneratorExp_make px gr (fun y hy => (B.2.1 y hy).1) h0 B.1 hr.depth (thn (hi pins s σ H _ I h) fun xv s1 h1 => thn h1 fun tI s2 h2 => ?_) hs
  obtain ⟨it, fp, c9, J, H2, e, I2, T, mY, f2, ⟨ps, hP, qV⟩, q2⟩ := h2
  subst e
  refine ⟨I2.nolimit, oa I2 bJ hd hP qV fun code fN s3 Nh I3 kp Py => ?_⟩
  obtain ⟨bm, ob, bmod⟩ := du
  have fE := bmod.keeps I3.bk
  refine wpAny_builtinsFor (by rw [I3.ok.glob]; exact fE.ns) fE.name fE.ne fE.obj fE.cls fE.dict fE.data ?_
  intro h' vW pw
  have J7 : ∀ b ∈ fp, b ≠ P := fun b hb z => by have := (f2 b hb).1; rw [z, hP] at this; cases this
  have kg : c9 0 s3.heap := T.keep _ _ _ mY fun b hb o e => kp b o (J7 b hb) e
  have j5 : ∀ b ∈ fp, b < s3.heap.objs.size := fun b hb => let ⟨o, e, _⟩ := T.obj _ _ kg b hb; Heap.lt_size e
  have f3 : ∀ b ∈ fp, dB X pins (upd H2 P (.cg fN)) b := fun b hb => ⟨by rw [aj (J7 b hb)]; exact (f2 b hb).1, (f2 b hb).2⟩
  have bY : h'.objs.size = s3.heap.objs.size + 1 := by rw [pw.1, Heap.size_push]
  have IC : ∀ b o, s3.heap.get? b = some o → h'.get? b = some o := fun b o e => pw.extBut b o (Nat.ne_of_lt (Heap.lt_size e)) (Heap.get?_push_of_some _ e)
  have J8 : Gn s3.gens.size (s3.gens.push (.fresh (.compStart (dR elt tg iter ifs scope pos) 0 (.ref it) .none (genEnv scope cl s3.heap.objs.size code builtinsNs X.env)))) := ⟨AllBare.push I3.bare.1 rfl, by rw [Array.size_push]; exact Nat.le_succ _⟩
  have J9 : Inv X pins σ (upd H2 P (.cg fN)) { s3 with gens := s3.gens.push (.fresh (.compStart (dR elt tg iter ifs scope pos) 0 (.ref it) .none (genEnv scope cl s3.heap.objs.size code builtinsNs X.env))) } := I3.og ⟨rfl, rfl, J8⟩
  have hA : (X.A.in4.in1.over (.compLoop (dR elt tg iter ifs scope pos) 0 (.ref it) .none (genEnv scope cl s3.heap.objs.size code builtinsNs X.env)) []).frames = some (genEnv scope cl s3.heap.objs.size code builtinsNs X.env :: X.stack) := by
    show pushEnvs [_] (pushEnvs [] X.A.frames) = _
    rw [I.ok.frames]; rfl
  have IE : bB k (X.A.in4.in1.over (.compLoop (dR elt tg iter ifs scope pos) 0 (.ref it) .none (genEnv scope cl s3.heap.objs.size code builtinsNs X.env)) []) := by
    refine ⟨hr.hd, ?_, ?_⟩
    · show X.A.depth + 0 + 1 + 3 * k + 5 < recursionLimit
      have := hr.dp
      omega
    · show X.A.units + 1 + 1 + 1 + 1 + 1 + 0 + 3 + 16 * k + 200 < cLine
      have := hr.un
      omega
  generalize qW : ({ cls := .type "generator", data := .fields #[.int s3.gens.size 0, .str "<genexpr>" (s3.toks + 1), .str (X.env.qual ++ "<genexpr>") (s3.toks + 1 + 1)] } : Obj) = lX
  have ql : ∀ b o, s3.heap.get? b = some o → (h'.push lX).get? b = some o := fun b o e => Heap.get?_push_of_some _ (IC b o e)
  have LJ : lX.isFreed = false := by rw [← qW]; rfl
  have Ni : (h'.push lX).get? h'.objs.size = some lX := Heap.get?_push_size _ LJ
  have Nj : h'.objs.size ≠ s3.heap.objs.size := by rw [bY]; exact Nat.succ_ne_self _
  have Nk : upd H2 P (.cg fN) h'.objs.size = none := I3.hok.fresh (by rw [bY]; exact Nat.le_succ _)
  have I5 := pq (X := X) (N' := N') (A' := X.A.in4.in1.over (.compLoop (dR elt tg iter ifs scope pos) 0 (.ref it) .none (genEnv scope cl s3.heap.objs.size code builtinsNs X.env)) []) (env' := genEnv scope cl s3.heap.objs.size code builtinsNs X.env) (stack' := genEnv scope cl s3.heap.objs.size code builtinsNs X.env :: X.stack) (ex := fp) (h1 := h'.push lX) (m0 := fun y => if y = ".0" then some (.ref it) else none)
    (g' := s3.gens.push (.fresh (.compStart (dR elt tg iter ifs scope pos) 0 (.ref it) .none (genEnv scope cl s3.heap.objs.size code builtinsNs X.env)))) (tk := s3.toks + 1 + 1 + 1) (aA := bD tn idx σ) J9 B.1 rfl I3.ok.blt.symm dE (fun x hx => by
      have ky : scope.names.lookup x = some .cell ∨ scope.names.lookup x = some .free := hx
      rcases ky with z | z
      · exact absurd rfl ((B.2.1 _ (PySem.mem_of_lookup z)).1)
      · exact fL x (PySem.mem_of_lookup z)) (fun z => I.ok.hd z) hA (.inr ⟨rfl, rfl⟩) (Nat.le_refl _) f3 j5 (Un.kept ql) (I3.hok.kept ql) (I3.hok.fresh (Nat.le_refl _)) ql (vW.push _) (fun i x v e1 e2 e3 => by
      obtain ⟨fr, j, e4, e5⟩ := B.at e1 e2
      have kx := (B.2.1 _ (PySem.mem_of_lookup fr)).2.2 rfl
      exact ⟨.inr fr, .inr kx, kx, j, e4, e5⟩) (B.len σ) (Gn.self J8)
  have Nm : h'.objs.size ∉ dz X.stack := fun z => by
    rcases List.mem_cons.mp (I3.fi _ z) with q | q
    · exact Nat.ne_of_gt (Nat.lt_of_lt_of_le I3.lt (by rw [bY]; exact Nat.le_succ _)) q
    · exact I3.D8 (by rw [bY]; exact Nat.le_succ _) q
  have qi : ∀ v, lX.data ≠ .cell v := by rw [← qW]; intro v z; cases z
  have I6 := I5.nY (pins' := [(h'.objs.size, lX)]) (fun p hp => by
    rcases List.mem_singleton.mp hp with rfl
    exact ⟨Ni, Nk, Nj, Nm, qi⟩)
  refine q J _ _ _ (Fq X N' scope cl s3.heap.objs.size code _ _ _ fp) it fp c9 s3.gens.size [(h'.objs.size, lX)] ⟨I6, fun {τ H' s'} J' => ?_, ?_, T, T.keep _ _ _ kg fun b _ o e => ql b o e, fun b hb => (f3 b hb).1, fun {H'} hn b hb => ?_, fun {τ H' s'} J' => ?_, rfl, rfl, hc, px, fun {τ H' s'} J' => ?_, fun Pp hb => hb cl _ code _ _ _ fp IE, rfl, rfl⟩ (q2 fN Nh)
  · have := (J'.pin (h'.objs.size, lX) (List.mem_append_right _ (List.mem_singleton.mpr rfl))).1
    exact ⟨lX, _, _, this, by rw [← qW], by rw [← qW], by rw [← qW]⟩
  · exact Array.getElem?_push_size ..
  · refine ⟨hn b hb, Nat.ne_of_lt (j5 b hb), fun z => ?_, .inl hb, fun x c e => (f2 b hb).2.2.2.2.1 x c (dE x c e), fun p hp z => ?_⟩
    · rcases List.mem_cons.mp (I2.fi b z) with q | q
      · exact (f2 b hb).2.1 q
      · exact (f2 b hb).2.2.1 q
    · rcases List.mem_singleton.mp hp with rfl
      have z' : h'.objs.size = b := z
      have := j5 b hb
      rw [← z', bY] at this
      exact absurd this (Nat.not_lt.mpr (Nat.le_succ _))
  · exact J9.lx J'.os J'.base J'.hok J'.bare fun b hb => ⟨(f3 b hb).2.2.2.1, (f3 b hb).2.1, (f3 b hb).2.2.2.2.1, (f3 b hb).2.2.2.2.2⟩
  · have := J'.bare.2
    have e : (Fq X N' scope cl s3.heap.objs.size code (X.A.in4.in1.over (.compLoop (dR elt tg iter ifs scope pos) 0 (.ref it) .none (genEnv scope cl s3.heap.objs.size code builtinsNs X.env)) []) { s3 with gens := s3.gens.push (.fresh (.compStart (dR elt tg iter ifs scope pos) 0 (.ref it) .none (genEnv scope cl s3.heap.objs.size code builtinsNs X.env))) } (upd H2 P (.cg fN)) fp).s₀.gens.size = s3.gens.size + 1 := by
      show (s3.gens.push _).size = _
      rw [Array.size_push]
    rw [e] at this
    omega
theorem zB {prog : Program} {w : World} {A : Around} {a : Addr} {R' : Result → Shared → Prop} (In : Nat → Shared → Prop)
    (turn : ∀ n s, In n s → wpAny (model prog w) A.in1 (pyNext (.ref a)) (fun r s1 => match r with
      | none => R' (.ok (.ret (.bool true))) s1
      | some v => ∃ c, v = .bool c ∧ if c = true then ∃ m, m < n ∧ In m s1 else R' (.ok (.ret (.bool false))) s1) (fun e s' => R' (.error e) s') s) :
    ∀ (n : Nat) (s : Shared), In n s → codeAny (model prog w) A (.builtin "all.loop" ⟨[.ref a], []⟩) R' s := by
  intro n
  induction n using Nat.strongRecOn with
  | ind n ih =>
    intro s h
    refine codeAny_builtin F.entry_all_loop ?_
    rw [Around.under_plainId F.plain_all_loop _]
    show wpAny _ A.in1 (pyNext (.ref a) >>= _) _ _ s
    refine wpAny_bind (wpAny_mono (turn n s h) (fun r s1 q => ?_) fun _ _ z => z)
    cases r with
    | none => exact wpAny_bind (wpAny_rule (wpAny_pure q))
    | some v =>
      obtain ⟨c, e, q⟩ := q
      subst e
      refine wpAny_bind (wpAny_holding (wpAny_truthy_bool ?_))
      refine wpAny_bind (wpAny_letGo ?_)
      cases c with
      | true =>
        simp only [if_true] at q ⊢
        obtain ⟨m, hm, hI⟩ := q
        exact wpAny_pure ⟨plainId_quiet F.plain_all_loop _, ih m hm s1 hI⟩
      | false =>
        simp only [Bool.false_eq_true, if_false] at q ⊢
        exact wpAny_bind (wpAny_rule (wpAny_pure q))
theorem kz {s : Shared} {g : Nat} {x : GenState} {n : Nat} (h : Gn n s.gens) (hx : x.bare = true) : Gn s.gens.size (s.setGen g x).gens := by
  refine ⟨fun y hy => ?_, ?_⟩
  · have Np : y ∈ s.gens.setIfInBounds g x := hy
    rcases Array.mem_or_eq_of_mem_setIfInBounds Np with z | z
    · exact h.1 y z
    · rw [z]; exact hx
  · show s.gens.size ≤ (s.gens.setIfInBounds g x).size
    rw [Array.size_setIfInBounds]
    exact Nat.le_refl _
theorem wO {s : Shared} {g : Nat} {x : GenState} (h : g < s.gens.size) : (s.setGen g x).gens[g]? = some x := by
  show (s.gens.setIfInBounds g x)[g]? = _
  rw [Array.getElem?_setIfInBounds_self]
  simp [h]
theorem wQ {Y : Cx} {A2 : Around} {R : GenEnd} {Yp : Protocol} {n : Nat} {s₀ s : Shared} {it : Addr} {J : It} {fp : List Addr} {c9 : Nat → Heap → Prop} (T : Turn Y.prog Y.w Y.K tg J fp it c9) {i : Nat} (st : c9 i s.heap)
    (loop : Seg (model Y.prog Y.w) A2 R Yp n s₀ (.compLoop (dR elt tg iter ifs scope pos) 0 (.ref it) .none Y.env) ((model Y.prog Y.w).den (.compLoop (dR elt tg iter ifs scope pos) 0 (.ref it) .none Y.env)) [] s) :
    Seg (model Y.prog Y.w) A2 R Yp n s₀ (.compStart (dR elt tg iter ifs scope pos) 0 (.ref it) .none Y.env) ((model Y.prog Y.w).den (.compStart (dR elt tg iter ifs scope pos) 0 (.ref it) .none Y.env)) [] s := by
  show Seg _ A2 _ _ _ s₀ _ ((compStart (dR elt tg iter ifs scope pos) 0 (.ref it) .none Y.env).onRaise (leaving Y.env)) [] s
  unfold compStart
  rw [Sem.onRaise_eq_wrap]
  show Seg _ A2 _ _ _ s₀ _ ((ask >>= _).wrap _ _ _ _) [] s
  refine seg_bind_wrap (wpAny_askSetting ?_)
  split
  · exact seg_again rfl loop
  · first
      | exact seg_bind_wrap (wpAny_rule (seg_bind_wrap (wpAny_standAt (seg_bind_wrap (T.self _ i s _ _ st (seg_again rfl loop))))))
      | (refine seg_bind_wrap (wpAny_rule ?_); show Seg _ A2 _ _ _ s₀ _ ((standAt iter.pos >>= _).wrap _ _ _ _) [] s; exact seg_bind_wrap (wpAny_standAt (seg_bind_wrap (T.self _ i s _ _ st (seg_again rfl loop)))))
noncomputable def Ft (P : Addr) (tn : Nat) (idx : List Nat) (wi : TI) (g : TG) (tt : TT) (te : TE) : TE := fun σ H Q => Fs P wi (fun J H1 => ∃ W : Nat → Nat → St → Hp → Prop, (∃ m, W 0 m (bD tn idx σ) H1) ∧ Fo J g tt te false (fun b H2 => Q (.bl b) H2) W) σ H
theorem Fu {p qX : Pos} (hr : bB (k + 1) X.A) (hc : X.calm = true) (B : aL X.N X.env.scope scope N' tn idx)
    (h0 : scope.names.lookup (".0" : Str) = some .local) (px : scope.isCoroutine = false) (bJ : X.env.code = .ref c) (hd : PySem.W.CodeHd X.base c P) (du : ∃ bm ob, BMod X.base mainGlobals X.mg bm ob)
    (tS : Gl X "all") (hm : X.mg "all" = none) (hi : PI X tg iter wi) (hg : mr X N' scope k fun Y => PG Y tg g) (ht : mr X N' scope k fun Y => jx Y ifs tt) (he : mr X N' scope k fun Y => PE Y elt te)
    (hs : ∀ x, genFold iter X.env x = pure x := by intro _; rfl) : PE X (.Call (.Name "all" p) [dR elt tg iter ifs scope qX] [] pos) (Ft P tn idx wi g tt te) := by
  refine ⟨?_⟩
  intro pins s σ H Q I h
  refine wpAny_Call_Name_kw (fH I tS hm PyProof.Rows.boot_all ?_)
  refine PyProof.Rows.callWith_builtin1 ?_ rfl rfl
  show wpAny _ _ (spliced ((false, eval (dR elt tg iter ifs scope qX) X.env) :: [])) _ _ s
  refine Calls.spliced_cons (zA hr hc B h0 px bJ hd du hi hs I h ?_)
  intro J H3 a s5 Y it fp c9 gn pp G ⟨W, ⟨m0, w0⟩, turn⟩
  refine Calls.spliced_nil ?_
  refine call_function_tree F.kind_all F.plain_all F.entry_all (F.args_all1 _) ?_
  unfold Builtin.«all»
  refine wpAny_bind (m := oneArg "all" _) (wpAny_pure ?_)
  refine wpAny_bind (wpAny_pyIter_gen (G.isg G.inv) ?_)
  refine wpAny_pure ⟨plainId_quiet F.plain_all_loop _, ?_⟩
  have Fv := zz (A2 := X.A.in4.in1) (pp := pp) (R := fun n s₀ r az => r = .ok .next ∧ ∃ τ H, Inv Y pp τ H az ∧ Q (.bl true) H)
    (Yp := fun n s₀ v s qU => ∃ c τ H, v = .bool c ∧ Inv Y pp τ H s ∧ (c = false → Q (.bl false) H) ∧ (c ≠ false → ∀ b8, mq s b8 → qU (.send .none) b8)) G.A G.xe G.calm G.co G.T (G.blk _ hg) (G.blk _ ht) (G.blk _ he) G.stat turn
    (fun n s₀ az τ H J z => ⟨rfl, τ, H, J, z⟩) (fun n s₀ s qU c τ H J z1 z2 => ⟨c, τ, H, rfl, J, z1, z2⟩)
  have hP := G.prog
  have hW := G.w
  rw [hP, hW] at Fv
  refine zB (A := X.A) (fun n s => (∃ τ H, Inv Y pp τ H s) ∧ ∃ gs, s.gens[gn]? = some gs ∧ ∀ b8, mq s b8 → gs.Goes (model X.prog X.w) X.A.in4.in1 (fun n s₀ r az => r = .ok .next ∧ ∃ τ H, Inv Y pp τ H az ∧ Q (.bl true) H)
    (fun n s₀ v s qU => ∃ c τ H, v = .bool c ∧ Inv Y pp τ H s ∧ (c = false → Q (.bl false) H) ∧ (c ≠ false → ∀ b8, mq s b8 → qU (.send .none) b8)) n (.send .none) b8) ?_ (m0 + 1) s5 ?_
  · rintro n s6 ⟨⟨τ, H6, I6⟩, gs, Nq, qW⟩
    have Pm := G.gsz I6
    refine wpAny_of_in1 (wpAny_of_in1 (wpAny_of_in1 ?_))
    show wpAny (model X.prog X.w) X.A.in4 (pyNext (.ref a)) _ _ s6
    refine wpAny_pyNext_genexpQ (A := X.A.in4) (P := fun n s₀ az => ∃ τ H, Inv Y pp τ H az ∧ Q (.bl true) H) hr.hd I6.nolimit hr.depth (G.isg I6) Nq (qW _ ⟨rfl, rfl, kz I6.bare rfl⟩) (fun v s1 Ka hb hv => ?_) (fun s1 hp h' hk => ?_)
    · obtain ⟨c, Kb, H1, e, I1, z1, z2⟩ := hv
      subst e
      refine ⟨c, rfl, ?_⟩
      have wR : mq s1 (s1.setGen gn Ka) := ⟨rfl, rfl, kz I1.bare hb⟩
      cases c with
      | false =>
        rw [if_neg Bool.false_ne_true]
        exact ⟨.bl false, H1, G.out (I1.og wR), rfl, z1 rfl⟩
      | true =>
        rw [if_pos rfl]
        have z3 := z2 (by decide)
        cases n with
        | zero => exact (z3 s1 ⟨rfl, rfl, I1.bare.self⟩).elim
        | succ m =>
          refine ⟨m, Nat.lt_succ_self _, ⟨Kb, H1, I1.og wR⟩, Ka, wO (G.gsz I1), fun b8 o => z3 b8 ⟨o.1, o.2.1, ?_⟩⟩
          exact wR.2.2.trans o.2.2
    · obtain ⟨Kb, H1, I1, z1⟩ := hp
      have I2 := I1.kept (t' := s1.toks) hk
      have Nr : mq { s1 with heap := h' } { s1.setGen gn .finished with heap := h' } := ⟨rfl, rfl, kz (s := s1) I1.bare rfl⟩
      exact ⟨.bl true, H1, G.out (I2.og Nr), rfl, z1⟩
  · refine ⟨⟨_, _, G.inv⟩, _, G.st, fun b8 o => ⟨rfl, ?_⟩⟩
    have I7 := G.inv.og o
    have Kc : c9 0 b8.heap := by rw [o.1]; exact G.tn0
    have q := wQ (iter := iter) (ifs := ifs) (scope := scope) (pos := qX) (elt := elt) G.T Kc (by rw [hP, hW]; exact Fv m0 (m0 + 1) 0 _ _ b8 b8 (Nat.lt_succ_self _) w0 I7 Kc G.fr)
    rw [hP, hW] at q
    exact q
end
noncomputable def wU (x : Str) : It := ⟨fun i _ => i < x.length, fun i H v H' => H' = H ∧ ∃ c, x.cps[i]? = some c ∧ v = .str ⟨#[c]⟩, fun i _ => x.length ≤ i⟩
theorem qY {P : Program} {w : World} {K : PySem.W.Frag} {tg : Expr} (it : Addr) (x : Str) (t : Tok) (ty : String) (qN : ["enumerate", "zip", "dict_itemiterator", "dict_reverseitemiterator", "odict_iterator", "itertools.zip_longest", "itertools.pairwise"].contains ty = false)
    (W : ∀ A : Around, A.handled = none → Walks P w A it [it] [it] x.cps.size (SignAt x) (fun i h => h.IsStrIter it ty x t i))
    (self : ∀ (A : Around) (i : Nat) (s : Shared) (Q : Value → Shared → Prop) (E : Value → Shared → Prop), s.heap.IsStrIter it ty x t i → Q (.ref it) s → wpAny (model P w) A (pyIter (.ref it)) Q E s) :
    Turn P w K tg (wU x) [it] it (fun i h => h.IsStrIter it ty x t i ∧ i ≤ x.length) where
  mem := by simp
  obj := fun i h st b hb => by
    have e : b = it := by simpa using hb
    subst e
    obtain ⟨⟨o, ho, _, hd⟩, _⟩ := st
    exact ⟨o, ho, fun v z => by rw [hd] at z; cases z⟩
  keep := fun i h h' st k => ⟨let ⟨o, ho, r⟩ := st.1; ⟨o, k it (by simp) o ho, r⟩, st.2⟩
  item := by
    intro X hP hw hK hc i pins s σ H E I hf st hg
    subst hP hw hK
    obtain ⟨f0, f1, f2, f3, f4, f5⟩ := hf it (by simp)
    have Kd : i < x.cps.size := hg
    refine (W X.A (I.ok.hd hc)).item i s _ _ Kd st.1 fun v h' tk hv kf kk => ?_
    obtain ⟨c, u, Nt, rfl⟩ := hv
    have I1 : Inv X pins σ H { s with heap := h', toks := tk } := I.turned (fun b o hb e => kk b o (by simpa using hb) e) f0 f1 f3 f4 f5
    obtain ⟨o, ho, fD, hd⟩ := id kf
    exact ⟨_, rfl, qj (s := { s with heap := h', toks := tk }) (n := ty) ho fD hd qN ⟨.str ⟨#[c]⟩, H, I1, ⟨u, rfl⟩, ⟨rfl, c, Nt, rfl⟩, ⟨kf, Kd⟩, fun b hb => (hf b hb).1⟩⟩
  done := by
    intro X hP hw hK hc i pins s σ H E I hf st hg
    subst hP hw hK
    obtain ⟨f0, f1, f2, f3, f4, f5⟩ := hf it (by simp)
    have e : i = x.cps.size := Nat.le_antisymm st.2 hg
    subst e
    exact (W X.A (I.ok.hd hc)).done s _ _ st.1 fun h' tk kk => ⟨rfl, I.turned (fun b o hb e => kk b o (by simpa using hb) e) f0 f1 f3 f4 f5⟩
  self := fun A i s Q E st h => self A i s Q E st.1 h
section
variable {X : Cx} {tg l : Expr} {tl : TE}
noncomputable def LK (tl : TE) : TI := fun σ H R => tl σ H fun x H1 => ∃ z, x = .str z ∧ R (wU z) H1
theorem Fw (hl : PE X l tl) : PI X tg l (LK tl) := by
  intro pins s σ H R I h
  refine thn (hl pins s σ H _ I h) fun v s1 ⟨y, H1, I1, r1, q1⟩ => ?_
  obtain ⟨z, rfl, q⟩ := q1
  obtain ⟨t, rfl⟩ := r1
  have fin : ∀ (o : Obj) (ty : String), (∀ v, o.data ≠ .cell v) → (s1.heap.push o).IsStrIter s1.heap.objs.size ty z t 0 → Turn X.prog X.w X.K tg (wU z) [s1.heap.objs.size] s1.heap.objs.size (fun i h => h.IsStrIter s1.heap.objs.size ty z t i ∧ i ≤ z.length) → Et X pins σ tg R (.ref s1.heap.objs.size) { s1 with heap := s1.heap.push o } := fun o ty hd hit T =>
    ⟨_, [s1.heap.objs.size], _, wU z, H1, rfl, I1.kept (t' := s1.toks) (fun b u e => Heap.get?_push_of_some _ e), T, ⟨hit, Nat.zero_le _⟩, fun b hb => by
      have e : b = s1.heap.objs.size := by simpa using hb
      subst e
      exact I1.jH (Nat.le_refl _) (I1.hok.fresh (Nat.le_refl _)), q⟩
  cases ha : z.cps.all (· < 128)
  · exact wpAny_pyIter_wide ha (fin _ "str_iterator" (fun v e => by cases e) ⟨_, Heap.get?_push_size _ rfl, rfl, rfl⟩ (qY _ z t _ (by decide) (fun A' hA => Walks.strWide hA _ z t) fun A i s Q E st h => wpAny_pyIter_striter_wide st h))
  · exact wpAny_pyIter_ascii ha (fin _ "str_ascii_iterator" (fun v e => by cases e) ⟨_, Heap.get?_push_size _ rfl, rfl, rfl⟩ (qY _ z t _ (by decide) (fun A' hA => Walks.strAscii hA _ z t) fun A i s Q E st h => wpAny_pyIter_striter_ascii st h))
noncomputable def LL : V → Option Int → Option Int → Hp → VK → Prop := fun x lo hi H Q => ∃ z, x = .str z ∧ z.length ≤ sizeLine ∧ Q (.str (Txt.slice z lo hi)) H
theorem Fx : tP X LL := by
  intro pins s σ H x v vl vu lo hi sl Q I rx hs pl pu h
  obtain ⟨z, rfl, hz, q⟩ := h
  obtain ⟨t, rfl⟩ := rx
  refine ⟨"str", _, F.slot_str_getitem.lookup, typeIs_str _ _ _, ?_⟩
  have fin : ∀ (l u : Option (Int × Tok)), s.heap.IsSlice sl l u none → l.map (·.1) = lo → u.map (·.1) = hi → wpAny (model X.prog X.w) X.A (getItem (.str z t) (.ref sl)) (EP X pins σ Q) X.xe s := fun l u e e1 e2 => by
    refine wpAny_getItem_str_slice (l := l) (u := u) (st := none) e rfl ?_
    refine post_val_or_str ⟨?_, fun t' k => ?_⟩
    · exact (show (Txt.slice z (l.map (·.1)) (u.map (·.1))).length ≤ sizeLine from Nat.le_trans (Txt.slice_le z _ _) hz)
    · refine ⟨.str (Txt.slice z lo hi), H, I.tok k, ⟨t', ?_⟩, q⟩
      rw [← e1, ← e2]
      rfl
  obtain ⟨o, ho, hc, hd⟩ := hs
  cases pl with
  | none =>
    cases pu with
    | none => exact fin none none ⟨o, ho, hc, hd⟩ rfl rfl
    | int j uj => exact fin none (some (j, uj)) ⟨o, ho, hc, hd⟩ rfl rfl
  | int i ui =>
    cases pu with
    | none => exact fin (some (i, ui)) none ⟨o, ho, hc, hd⟩ rfl rfl
    | int j uj => exact fin (some (i, ui)) (some (j, uj)) ⟨o, ho, hc, hd⟩ rfl rfl
theorem uL : OpR X (binaryOp .Mult) (fun x y H Q => ∃ z n, x = .str z ∧ y = .int n ∧ MulOk z n ∧ Q (.str (Txt.mul z n)) H) := by
  intro pins s σ H x y v u Q I rx ry h
  obtain ⟨z, n, rfl, rfl, ok, q⟩ := h
  obtain ⟨t, rfl⟩ := rx
  obtain ⟨t', rfl⟩ := ry
  exact SB.mul ok fun Nu k => ⟨.str (Txt.mul z n), H, I.tok k, ⟨Nu, rfl⟩, q⟩
theorem bZ {xs : List V} {us : List Value} (r : Vals xs us) {j : Nat} (h : j < us.toArray.size) : RelV (xs.getD j .ao) us.toArray[j] := by
  have hl := r.length
  have hj : j < xs.length := by simpa [hl] using h
  obtain ⟨u, e, q⟩ := r.get (i := j) (x := xs[j]) (List.getElem?_eq_getElem hj)
  have e2 : us.toArray[j] = u := by
    rw [List.getElem?_eq_some_iff] at e
    obtain ⟨h', e⟩ := e
    simpa using e
  rw [e2, List.getD_eq_getElem?_getD, List.getElem?_eq_getElem hj]
  exact q
theorem sD : dQ X (.builtin "isinstance") (fun xs H Q => ∃ x T t b, xs = [x, .ty T] ∧ fv X.K H x t ∧ PySem.W.kitOne X.K t (.type T) = some b ∧ Q (.bl b) H) := by
  intro pins s σ H xs us Q I r h
  obtain ⟨x, T, t, b, rfl, ty, e, q⟩ := h
  obtain ⟨u, w', rfl, r1, r2⟩ := vals2 r
  cases (show w' = Value.type T from r2)
  exact wt I r1 ty e fun tk => ⟨.bl b, H, I.tok tk, rfl, q⟩
theorem lY : ∀ {xs : List V} {us : List Value}, xs.length = us.length → (∀ (i : Nat) (v : V), xs[i]? = some v → ∃ u, us[i]? = some u ∧ RelV v u) → Vals xs us
  | [], [], _, _ => .nil
  | [], _ :: _, h, _ => by simp at h
  | _ :: _, [], h, _ => by simp at h
  | x :: xs, u :: us, h, g => by
    obtain ⟨u', e, r⟩ := g 0 x rfl
    have e' : u = u' := by simpa using e
    subst e'
    exact .cons r (lY (by simpa using h) fun i v hv => by
      obtain ⟨w, e2, r2⟩ := g (i + 1) v (by simpa using hv)
      exact ⟨w, by simpa using e2, r2⟩)
theorem qZ {e : Expr} {te : TE} {p p1 p2 pos : Pos} (hc : X.calm = true) (hg : Gl X "list") (hm : X.mg "list" = none) (Fy : Gl X "range") (FA : X.mg "range" = none) (he : PE X e te) (hs : starEach [e] X.env = [(false, eval e X.env)] := by rfl) :
    PE X (.Call (.Name "list" p) [.Call (.Name "range" p1) [e] [] p2] [] pos) (fun σ H Q => te σ H fun x H1 => ∃ j : Int, x = .int j ∧ -(2 ^ 24) ≤ j ∧ j ≤ 2 ^ 24 ∧ ∀ l, H1 l = none → Q (.ref l) (upd H1 l (.lst ((List.range j.toNat).map fun i => V.int (i : Nat))))) := by
  refine ⟨?_⟩
  intro pins s σ H Q I h
  refine wpAny_Call_Name_kw (fH I hg hm (by decide +kernel : bootBuiltins "list" = some (.type "list")) ?_)
  refine PyProof.Rows.callWith_type1 ?_ rfl rfl
  show wpAny _ _ (spliced ((false, eval (.Call (.Name "range" p1) [e] [] p2) X.env) :: [])) _ _ s
  refine Calls.spliced_cons ?_
  refine Call_ (fH I Fy FA boot_range (PyProof.Rows.callWith_type1 ?_ hs rfl))
  rw [hs]
  refine Calls.spliced_cons (thn (he pins s σ H _ I h) fun v s1 ⟨x, H1, I1, r1, q1⟩ => Calls.spliced_nil ?_)
  obtain ⟨j, rfl, b1, b2, q⟩ := q1
  obtain ⟨t, rfl⟩ := r1
  refine call_range_1 ?_
  refine Calls.spliced_nil ?_
  refine call_list_range (n := j.toNat) (I1.ok.hd hc) (IsRange.new ..) (small_one (by omega) (by omega) (by omega) (by omega)) (by rw [PyProof.Rows.rangeSize_nat]; simp) (by omega) fun h' tk iw c' hk hS hit => ?_
  have I2 : Inv X pins σ H1 { s1 with heap := s1.heap.push { cls := .type "range", data := .fields #[.int 0 s1.toks, .int j t, .int 1 (s1.toks + 1)] }, toks := s1.toks + 1 + 1 } := I1.kept fun b o e => Heap.get?_push_of_some _ e
  obtain ⟨bY, ix⟩ := hit
  have rv : Vals ((List.range j.toNat).map fun i => V.int (i : Nat)) iw.toList := by
    refine lY (by simpa using bY.symm) fun i v e => ?_
    rw [List.getElem?_map] at e
    cases q2 : (List.range j.toNat)[i]? with
    | none => rw [q2] at e; cases e
    | some k =>
      rw [q2] at e
      have ek : k = i := by
        obtain ⟨_, e3⟩ := List.getElem?_eq_some_iff.mp q2
        simpa using e3.symm
      have hi : i < iw.size := by
        have := (List.getElem?_eq_some_iff.mp q2).1
        rw [List.length_range] at this
        omega
      obtain ⟨t2, e4⟩ := ix i iw[i] (by simp [hi])
      refine ⟨iw[i], by simp [hi], ?_⟩
      rw [e4]
      have e5 : v = V.int (k : Nat) := (Option.some.inj e).symm
      rw [e5, ek]
      exact ⟨t2, by simp⟩
  have ob : bA X.prog X.w (upd H1 (s1.heap.push { cls := .type "range", data := .fields #[.int 0 s1.toks, .int j t, .int 1 (s1.toks + 1)] }).objs.size (.lst ((List.range j.toNat).map fun i => V.int (i : Nat)))) h' (s1.heap.push { cls := .type "range", data := .fields #[.int 0 s1.toks, .int j t, .int 1 (s1.toks + 1)] }).objs.size (.lst ((List.range j.toNat).map fun i => V.int (i : Nat))) := by
    refine ⟨?_, iw.toList, c', rv, by simpa using hS⟩
    rw [List.length_map, List.length_range]
    exact Nat.le_trans (show j.toNat ≤ 2 ^ 24 by omega) (by decide)
  exact ⟨.ref _, _, I2.laid (t' := tk) hk (Nat.le_refl _) ob, rfl, q _ (I2.hok.fresh (Nat.le_refl _))⟩
end
theorem FC : bootBuiltins "int" = some (.type "int") := by decide +kernel
theorem FD : bootBuiltins "str" = some (.type "str") := by decide +kernel
theorem Cw : bootBuiltins "bool" = some (.type "bool") := by decide +kernel
theorem jK : bootBuiltins "tuple" = some (.type "tuple") := by decide +kernel
theorem tT : bootBuiltins "list" = some (.type "list") := by decide +kernel
theorem wV : bootBuiltins "min" = some (.builtin "min") := by decide +kernel
theorem FE : bootBuiltins "max" = some (.builtin "max") := by decide +kernel
theorem FG : bootBuiltins "abs" = some (.builtin "abs") := by decide +kernel
theorem pX : bootBuiltins "ValueError" = some (.type "ValueError") := by decide +kernel
theorem aD : bootBuiltins "isinstance" = some (.builtin "isinstance") := by decide +kernel
structure Bl (mg : Str → Option Value) : Prop where
  len_ : mg "len" = none
  range_ : mg "range" = none
  min_ : mg "min" = none
  max_ : mg "max" = none
  abs_ : mg "abs" = none
  list_ : mg "list" = none
  tuple_ : mg "tuple" = none
  int_ : mg "int" = none
  str_ : mg "str" = none
  bool_ : mg "bool" = none
  isinstance_ : mg "isinstance" = none
  all_ : mg "all" = none
  set_ : mg "set" = none
  sorted_ : mg "sorted" = none
  zip_ : mg "zip" = none
  enumerate_ : mg "enumerate" = none
  sum_ : mg "sum" = none
  reversed_ : mg "reversed" = none
  divmod_ : mg "divmod" = none
  any_ : mg "any" = none
  ValueError_ : mg "ValueError" = none
structure Df (K : PySem.W.Frag) (mg : Str → Option Value) (x : Str) (st : Stmt) (ps : List Str) (f : Addr) (fd : FuncData) : Prop where
  fn : pj K x x st f fd
  bd : Binds K fd ps []
  mg : mg x = some (.ref f)
structure pz (base : Heap) (fd : FuncData) (c P : Addr) : Prop where
  code : fd.code = .ref c
  hd : PySem.W.CodeHd base c P
section
variable {P : Program} {w : World} {K : PySem.W.Frag} {mg : Str → Option Value} {base : Heap}
theorem pj.Nv {x qual : Str} {st : Stmt} {f : Addr} {fd : FuncData} {N ps : List Str} {k : Nat} {sp : Sp} (F : pj K x qual st f fd) (S : aN N ps (ah st)) (len : ∀ vs H Q E, sp vs H Q E → vs.length = ps.length)
    (gY : ∀ (A : Around) (outer : List Env) (s : Shared) (H : Hp) (vs : List V) (Q : VK) (E : XK), bB k (A.deeper (envOfC qual (ah st) s.heap.objs.size f fd.code)) → sp vs H Q E →
      ∃ t, eA (fh bH P w K mg base N qual (ah st) f fd.code A outer s H E).qE (bC st) t ∧ t { nx := fun _ H' => Q .ao H', rt := Q } (start N vs) H) : FnOk P w K mg base bH (k + 1) f fd ps sp := by
  obtain ⟨oc, od, kV, doc, pm, an, bG, ct, fI, rfl, lk, dA⟩ := F.ex
  refine Bg lk dA S len fun A outer s H vs Q E hr gD => ?_
  obtain ⟨t, h, q⟩ := gY A outer s H vs Q E hr gD
  exact ⟨t, h.qE, q⟩
end
noncomputable def Pz : V → Bool | .int _ => true | _ => false
noncomputable def below (m : Int) : V → Bool | .int i => decide (0 ≤ i) && decide (i < m) | _ => false
structure gu (aq : List (List Int)) (w : Nat) : Prop where
  one : 1 ≤ aq.length
  nine : aq.length ≤ 9
  wid : w = 2 ∨ w = 3
  row : ∀ r ∈ aq, r.length = w ∧ ∀ g ∈ r, 0 ≤ g ∧ g < (aq.length : Int)
theorem gZ {α β : Type} {F : α → β → Prop} : ∀ {xs : List α} {ys : List β} {i : Nat} {y : β}, Paired F xs ys → ys[i]? = some y → ∃ x, xs[i]? = some x ∧ F x y
  | _, _, _, _, .nil, e => by simp at e
  | _, _, 0, _, .cons f _, e => by simp at e; subst e; exact ⟨_, rfl, f⟩
  | _, _, i + 1, y, .cons _ t, e => by
    obtain ⟨x, h1, h2⟩ := gZ (i := i) (y := y) t (by simpa using e)
    exact ⟨x, by simpa using h1, h2⟩
noncomputable def Bj (tb : List Addr) (H : Hp) : Prop := ∀ p ∈ tb, Tb p H
noncomputable def IG (H : Hp) (b : Addr) : Prop := ∃ c m : Int, H b = some (.lst [.int c, .int m]) ∧ 0 ≤ c ∧ 0 ≤ m
noncomputable def Runs (J : It) (ys : List V) (H : Hp) : Prop := ∀ i, (i < ys.length → J.go i H ∧ ∀ x H', J.yld i H x H' → H' = H ∧ ys[i]? = some x) ∧ (ys.length ≤ i → J.stop i H)
noncomputable def iy (z : Str) : List V := z.cps.toList.map fun c => .str ⟨#[c]⟩
theorem zD {K : PySem.W.Frag} {a : Addr} {ys : List V} {H : Hp} (h : bN K H a ys) : Runs (Ew K a) ys H := fun i =>
  ⟨fun hi => ⟨⟨ys, ys[i], h, List.getElem?_eq_getElem hi⟩, fun x H' y => ⟨y.1, y.2 ys h⟩⟩, fun hi => ⟨ys, h, hi⟩⟩
theorem wW {K : PySem.W.Frag} {a : Addr} {ys : List V} {H : Hp} (h : bM K H a ys) : Runs (Eu K a) ys H := fun i =>
  ⟨fun hi => ⟨⟨ys, ys[i], h, List.getElem?_eq_getElem hi⟩, fun x H' y => ⟨y.1, y.2 ys h⟩⟩, fun hi => ⟨ys, h, hi⟩⟩
theorem ni {lo : Int} {n : Nat} {H : Hp} : Runs (v8 lo n) ((List.range n).map fun i => V.int (lo + (i : Nat))) H := fun i => by
  have el : ((List.range n).map fun i => V.int (lo + (i : Nat))).length = n := by simp
  rw [el]
  refine ⟨fun hi => ⟨hi, fun x H' y => ?_⟩, fun hi => hi⟩
  obtain ⟨e1, e2⟩ := y
  refine ⟨e1, ?_⟩
  rw [e2, List.getElem?_map, List.getElem?_range hi]
  rfl
theorem nj (z : Str) : (iy z).length = z.length := by
  unfold iy
  rw [List.length_map]
  rfl
theorem zE {z : Str} {H : Hp} : Runs (wU z) (iy z) H := fun i =>
  ⟨fun hi => ⟨by rw [nj] at hi; exact hi, fun x H' y => by
    obtain ⟨e, c, hc, rfl⟩ := y
    refine ⟨e, ?_⟩
    unfold iy
    rw [List.getElem?_map, Array.getElem?_toList, hc]
    rfl⟩, fun hi => by rw [nj] at hi; exact hi⟩
section
variable {X : Cx} {K : PySem.W.Frag}
theorem tU (h : X.K = K) : kj X (J0 K) := h ▸ Fd
theorem wX (h : X.K = K) : dQ X (.builtin "len") (fun xs H Q => ∃ x n, xs = [x] ∧ EV K x H n ∧ Q (.int n) H) := h ▸ zl
theorem pY (h : X.K = K) : dQ X (.type "list") (fun xs H Q => ∃ p ys, xs = [.ref p] ∧ (bM K H p ys ∨ bN K H p ys) ∧ ∀ l, H l = none → Q (.ref l) (upd H l (.lst ys))) := h ▸ qM
theorem oh (h : X.K = K) : dQ X (.type "tuple") (fun xs H Q => ∃ p ys, xs = [.ref p] ∧ ((bM K H p ys ∧ ∀ l, H l = none → Q (.ref l) (upd H l (.tup ys))) ∨ (bN K H p ys ∧ Q (.ref p) H))) := h ▸ pW
theorem q9 (h : X.K = K) : dQ X (.builtin "isinstance") (fun xs H Q => ∃ x T t b, xs = [x, .ty T] ∧ fv K H x t ∧ PySem.W.kitOne K t (.type T) = some b ∧ Q (.bl b) H) := h ▸ sD
theorem zF {tg l : Expr} {tl : TE} (h : X.K = K) (hl : PE X l tl) : PI X tg l (Ba K tl) := h ▸ B8 hl
theorem Cy {tg l : Expr} {tl : TE} (h : X.K = K) (hl : PE X l tl) : PI X tg l (Ez K tl) := h ▸ EA hl
variable {o e : Expr} {es : List Expr} {to : TE} {t : TA} {name : Str} {apos bq : Pos} {T id : String} {r : V → List V → Hp → VK → Prop}
theorem FH (h : X.K = K) (pa : PlainAttrs T) (slot : Slot T name id) (qN : typeOf (.builtin id) = pure (.type "method_descriptor")) (hm : wC X id r) (ho : PE X o to) (ha : PA X (e :: es) t) (m6 : attributeBase o name X.env (eval o X.env) = eval o X.env := by rfl)
    (qO : ((backTo bq (starEach (e :: es) X.env)).all (fun x => !x.1) && (backToKw bq (keywordEach [] X.env)).all (fun x => x.1.isSome)
      && decide ((e :: es).length + ([] : List Keyword).length + (if ([] : List Keyword).isEmpty then 0 else 1) < 30)) = true := by rfl)
    (hline : (apos.endLine == bq.line) = true := by rfl) (hs : starEach (e :: es) X.env = (false, eval e X.env) :: starEach es X.env := by rfl) (km : (backTo bq (starEach es X.env)).any (·.1) = false := by rfl) :
    PE X (.Call (.Attribute o name apos) (e :: es) [] bq) (J4 K T r to t) := h ▸ Iy pa slot qN hm ho ha m6 qO hline hs km
end
noncomputable abbrev aR (K : PySem.W.Frag) (x : Str) (st : Stmt) : Prop :=
  ∃ (f : Addr) (oc : Value) (od : Option Addr) (sl : Array (Option Value)) (kV dc pm : Value) (an : Option Addr) (cd ct : Value),
    PySem.W.nsIn K mainGlobals x = some (some (.ref f)) ∧ K.lookup f = some ⟨oc, od, .func (PySem.W.fnOf x x (cw st) (bC st) (ah st) .none kV dc pm an cd ct), sl⟩ ∧ PySem.W.codeIn K cd x = true ∧ PySem.W.keepIn K (.ref f) = true
theorem ax {K : PySem.W.Frag} {x : Str} {st : Stmt} {f : Addr} {oc : Value} {od : Option Addr} {sl : Array (Option Value)} {kV dc pm : Value} {an : Option Addr} {cd ct : Value} (a : PySem.W.nsIn K mainGlobals x = some (some (.ref f)))
    (l : K.lookup f = some ⟨oc, od, .func (PySem.W.fnOf x x (cw st) (bC st) (ah st) .none kV dc pm an cd ct), sl⟩) (c : PySem.W.codeIn K cd x = true) (k : PySem.W.keepIn K (.ref f) = true) : aR K x st := ⟨f, oc, od, sl, kV, dc, pm, an, cd, ct, a, l, c, k⟩
section
variable {K : PySem.W.Frag} {mg : Str → Option Value} {h base : Heap}
theorem aR.df {x : Str} {st : Stmt} (d : aR K x st) (X : K.In h) (G : h.Ns mainGlobals mg) (ps : List Str)
    (hb : ∀ (kV doc pm : Value) (an : Option Addr) (bG ct : Value) (us : List Value), us.length = ps.length → bindArgs (PySem.W.fnOf x x (cw st) (bC st) (ah st) .none kV doc pm an bG ct) ⟨us, []⟩ = pure (ps.zip us)) :
    ∃ f fd, Df K mg x st ps f fd := by
  obtain ⟨f, oc, od, sl, kV, dc, pm, an, cd, ct, a, l, c, k⟩ := d
  have F := Fl (st := st) l c k
  exact ⟨f, _, F, F.binds hb, PySem.W.mg_of X G a⟩
theorem nq {x : Str} {st : Stmt} {ps : List Str} {f p : Addr} {fd : FuncData} (D : Df K mg x st ps f fd) (X : K.In h)
    (t : ∃ f o fd c, mg x = some (.ref f) ∧ h.get? f = some o ∧ o.data = .func fd ∧ fd.code = .ref c ∧ PySem.W.CodeHd h c p) (tr : ∀ c p, PySem.W.CodeHd h c p → PySem.W.CodeHd base c p) : ∃ c, pz base fd c p := by
  obtain ⟨f', o, FI, c, e1, e2, e3, e4, e5⟩ := t
  obtain ⟨oc, od, kV, doc, pm, an, bG, ct, fI, rfl, lk, dA⟩ := D.fn.ex
  have e := D.mg.symm.trans e1
  cases e
  have q := (X _ _ lk).symm.trans e2
  cases q
  cases e3
  exact ⟨c, e4, tr _ _ e5⟩
theorem Df.bind1 {x y : Str} {st : Stmt} {f : Addr} {fd : FuncData} (D : Df K mg x st [y] f fd) (s : Shared) (v : Value)
    (hb : ∀ (kV doc pm : Value) (an : Option Addr) (bG ct : Value) (u : Value), bindArgs (PySem.W.fnOf x x (cw st) (bC st) (ah st) .none kV doc pm an bG ct) ⟨[u], []⟩ = pure [(y, u)]) : BindsTo s fd ⟨[v], []⟩ [(y, v)] := by
  obtain ⟨oc, od, kV, doc, pm, an, bG, ct, fI, rfl, lk, dA⟩ := D.fn.ex
  exact .of_eq (hb kV doc pm an bG ct v)
theorem gv {α β : Type} {F : α → β → Prop} {a : α} {r : List α} {t : List β} (h : Paired F (a :: r) t) : ∃ b t', t = b :: t' ∧ F a b ∧ Paired F r t' := by
  cases h with
  | cons x y => exact ⟨_, _, rfl, x, y⟩
theorem recs_of {q : Program} {j7 : List Str} (h : (j7.all fun y => (recsOf q).any fun r => decide (r.name = y)) = true) : ∀ y ∈ j7, ∃ r ∈ recsOf q, r.name = y := fun y hy => by
  have := List.all_eq_true.mp h y hy
  obtain ⟨r, hr, e⟩ := List.any_eq_true.mp this
  exact ⟨r, hr, of_decide_eq_true e⟩
end
noncomputable def Nw (xs : Array Nat) : Prop := xs.toList.Pairwise (· < ·)
structure IH (w : World) (t : SetTable) : Prop where
  dum : t.dummies = #[]
  ris : Nw t.place
  led : t.led = !w.params.followText "set-order"
noncomputable def LN (e : Int × Value) : Int := match e.2 with | .int i _ => i | _ => 0
noncomputable def LO (P : Program) (w : World) (h : Heap) (a : Addr) (ns : List Int) : Prop :=
  ∃ o es ep t, h.get? a = some o ∧ o.ExactSet ∧ o.data = .set es ep t ∧ ElemsOf (intKind P w) es.toList ∧ (es.toList.map LN).Perm ns ∧ ns.Nodup ∧ es.size < scanBound ∧ t.fits es.size = true ∧ IH w t
noncomputable def LQ (P : Program) (w : World) (a : Addr) (ns : List Int) : HO := .ext fun h => LO P w h a ns
noncomputable def LR (ns : List Int) (m : Int) : List Int := if m ∈ ns then ns else ns ++ [m]
theorem g5 {α : Type} : ∀ {l : List α} {i : Nat} (h : i < l.length), (l[i] :: l.eraseIdx i).Perm l
  | [], i, h => by simp at h
  | x :: l, 0, h => .refl _
  | x :: l, i + 1, h => by
    rw [List.eraseIdx_cons_succ, List.getElem_cons_succ]
    exact (List.Perm.swap _ _ _).trans (.cons _ (g5 (by simpa using h)))
inductive Dt where
  | ao | bl (b : Bool) | int (i : Int) | str (x : Str) | lst (xs : List Dt) | tup (xs : List Dt)
inductive cU (H : Hp) : V → Dt → Prop where
  | ao : cU H .ao .ao
  | bl (b : Bool) : cU H (.bl b) (.bl b)
  | int (i : Int) : cU H (.int i) (.int i)
  | str (x : Str) : cU H (.str x) (.str x)
  | lst {a : Addr} {xs : List V} {ds : List Dt} (e : H a = some (.lst xs)) (hl : xs.length = ds.length) (h : ∀ (i : Nat) (x : V) (d : Dt), xs[i]? = some x → ds[i]? = some d → cU H x d) : cU H (.ref a) (.lst ds)
  | tup {a : Addr} {xs : List V} {ds : List Dt} (e : H a = some (.tup xs)) (hl : xs.length = ds.length) (h : ∀ (i : Nat) (x : V) (d : Dt), xs[i]? = some x → ds[i]? = some d → cU H x d) : cU H (.ref a) (.tup ds)
mutual
noncomputable def b9 : Dt → Dt → Bool
  | .ao, .ao => true
  | .bl a, .bl b => a == b
  | .bl a, .int b => (if a then 1 else 0) == b
  | .int a, .bl b => a == (if b then 1 else 0)
  | .int a, .int b => a == b
  | .str a, .str b => a == b
  | .lst xs, .lst ys => iz xs ys
  | .tup xs, .tup ys => iz xs ys
  | _, _ => false
noncomputable def iz : List Dt → List Dt → Bool
  | [], [] => true
  | x :: xs, y :: ys => b9 x y && iz xs ys
  | _, _ => false
end
mutual
theorem jL : ∀ d : Dt, b9 d d = true
  | .ao => by simp [b9]
  | .bl b => by simp [b9]
  | .int i => by simp [b9]
  | .str x => by simp [b9]
  | .lst xs => by simp only [b9]; exact kD xs
  | .tup xs => by simp only [b9]; exact kD xs
theorem kD : ∀ ds : List Dt, iz ds ds = true
  | [] => by simp [iz]
  | d :: ds => by simp only [iz]; rw [jL d, kD ds]; rfl
end
theorem dS : ∀ (xs ys : List Dt), iz xs ys = ((List.range (min xs.length ys.length)).all (fun j => b9 (xs.getD j .ao) (ys.getD j .ao)) && xs.length == ys.length)
  | [], [] => by simp [iz]
  | [], _ :: _ => by simp [iz]
  | _ :: _, [] => by simp [iz]
  | x :: xs, y :: ys => by
    rw [iz, dS xs ys]
    have e : min (x :: xs).length (y :: ys).length = min xs.length ys.length + 1 := by simp [Nat.succ_min_succ]
    rw [e, List.range_succ_eq_map, List.all_cons, List.all_map]
    have e2 : ((x :: xs).length == (y :: ys).length) = (xs.length == ys.length) := by simp
    rw [e2, Bool.and_assoc]
    rfl
theorem cU.inj {H : Hp} {v : V} {d : Dt} (h : cU H v d) : ∀ {d' : Dt}, cU H v d' → d = d' := by
  induction h with
  | ao => intro d' h'; cases h'; rfl
  | bl b => intro d' h'; cases h'; rfl
  | int i => intro d' h'; cases h'; rfl
  | str x => intro d' h'; cases h'; rfl
  | lst e hl h ih =>
    intro d' h'
    cases h' with
    | lst e' FJ h' =>
      rw [e] at e'; cases e'
      congr 1
      refine List.ext_getElem? fun i => ?_
      rename_i xs ds fF
      by_cases hi : i < xs.length
      · rw [List.getElem?_eq_getElem (by omega), List.getElem?_eq_getElem (by omega)]
        exact congrArg some (ih i _ _ (List.getElem?_eq_getElem hi) (List.getElem?_eq_getElem (by omega)) (h' i _ _ (List.getElem?_eq_getElem hi) (List.getElem?_eq_getElem (by omega))))
      · rw [List.getElem?_eq_none (by omega), List.getElem?_eq_none (by omega)]
    | tup e' FJ h' => rw [e] at e'; cases e'
  | tup e hl h ih =>
    intro d' h'
    cases h' with
    | lst e' FJ h' => rw [e] at e'; cases e'
    | tup e' FJ h' =>
      rw [e] at e'; cases e'
      congr 1
      refine List.ext_getElem? fun i => ?_
      rename_i xs ds fF
      by_cases hi : i < xs.length
      · rw [List.getElem?_eq_getElem (by omega), List.getElem?_eq_getElem (by omega)]
        exact congrArg some (ih i _ _ (List.getElem?_eq_getElem hi) (List.getElem?_eq_getElem (by omega)) (h' i _ _ (List.getElem?_eq_getElem hi) (List.getElem?_eq_getElem (by omega))))
      · rw [List.getElem?_eq_none (by omega), List.getElem?_eq_none (by omega)]
mutual
noncomputable def fW : Dt → Nat
  | .lst xs => gQ xs + 1
  | .tup xs => gQ xs + 1
  | _ => 0
noncomputable def gQ : List Dt → Nat
  | [] => 0
  | x :: xs => max (fW x) (gQ xs)
end
theorem iA : ∀ {ds : List Dt} {i : Nat} {d : Dt}, ds[i]? = some d → fW d ≤ gQ ds
  | [], _, _, h => by simp at h
  | x :: xs, 0, d, h => by
    simp at h; subst h
    rw [gQ]; exact Nat.le_max_left _ _
  | x :: xs, i + 1, d, h => by
    rw [gQ]
    exact Nat.le_trans (iA (i := i) (by simpa using h)) (Nat.le_max_right _ _)
section
variable {X : Cx} {pins : List (Addr × Obj)} {σ : St} {H : Hp} {s : Shared}
theorem Inv.lists (I : Inv X pins σ H s) {a : Addr} {xs : List V} (h : H a = some (.lst xs)) : ∃ its : List Value, Vals xs its ∧ s.heap.IsList a its.toArray := by
  obtain ⟨its, rv, p, _⟩ := I.list (bM.of h)
  exact ⟨its, rv, p.isList⟩
theorem Inv.tups (I : Inv X pins σ H s) {a : Addr} {xs : List V} (h : H a = some (.tup xs)) : ∃ its : List Value, Vals xs its ∧ s.heap.IsTuple a its.toArray := by
  obtain ⟨its, rv, p, _⟩ := I.tuple (bN.of h)
  exact ⟨its, rv, p⟩
theorem kG (I : Inv X pins σ H s) {x y : V} {d : Dt} (hx : cU H x d) : ∀ {e : Dt} {u v : Value} {A : Around}, cU H y e → RelV x u → RelV y v → A.units + fW d < cLine → SeqAt.EqAt A s u v (b9 d e) := by
  have lists := fun {a : Addr} {xs : List V} (h : H a = some (.lst xs)) => I.lists h
  have tups := fun {a : Addr} {xs : List V} (h : H a = some (.tup xs)) => I.tups h
  induction hx generalizing y with
  | ao =>
    intro e u v A hy rx ry hu
    have aS : A.units < cLine := by omega
    cases rx
    cases hy with
    | ao => cases ry; exact SeqAt.EqAt.same _
    | bl b => cases ry; exact SeqAt.EqAt.none_bool _
    | int i => obtain ⟨t, rfl⟩ := ry; exact SeqAt.EqAt.none_int _ _
    | str z => obtain ⟨t, rfl⟩ := ry; exact SeqAt.EqAt.none_str _ _
    | lst e2 _ _ => cases ry; obtain ⟨_, _, p⟩ := lists e2; exact SeqAt.EqAt.none_list p aS
    | tup e2 _ _ => cases ry; obtain ⟨_, _, p⟩ := tups e2; exact SeqAt.EqAt.none_tuple p aS
  | bl a =>
    intro e u v A hy rx ry hu
    have aS : A.units < cLine := by omega
    cases rx
    cases hy with
    | ao => cases ry; exact SeqAt.EqAt.bool_none _
    | bl b => cases ry; exact SeqAt.EqAt.bool_bool _ _
    | int i => obtain ⟨t, rfl⟩ := ry; exact SeqAt.EqAt.bool_int _ _ _
    | str z => obtain ⟨t, rfl⟩ := ry; exact SeqAt.EqAt.bool_str _ _ _
    | lst e2 _ _ => cases ry; obtain ⟨_, _, p⟩ := lists e2; exact SeqAt.EqAt.bool_list _ p aS
    | tup e2 _ _ => cases ry; obtain ⟨_, _, p⟩ := tups e2; exact SeqAt.EqAt.bool_tuple _ p aS
  | int a =>
    intro e u v A hy rx ry hu
    have aS : A.units < cLine := by omega
    obtain ⟨ta, rfl⟩ := rx
    cases hy with
    | ao => cases ry; exact SeqAt.EqAt.int_none _ _
    | bl b => cases ry; exact SeqAt.EqAt.int_bool _ _ _
    | int i => obtain ⟨t, rfl⟩ := ry; exact SeqAt.EqAt.int_int _ _ _ _
    | str z => obtain ⟨t, rfl⟩ := ry; exact SeqAt.EqAt.int_str _ _ _ _
    | lst e2 _ _ => cases ry; obtain ⟨_, _, p⟩ := lists e2; exact SeqAt.EqAt.int_list _ _ p aS
    | tup e2 _ _ => cases ry; obtain ⟨_, _, p⟩ := tups e2; exact SeqAt.EqAt.int_tuple _ _ p aS
  | str a =>
    intro e u v A hy rx ry hu
    have aS : A.units < cLine := by omega
    obtain ⟨ta, rfl⟩ := rx
    cases hy with
    | ao => cases ry; exact SeqAt.EqAt.str_none _ _
    | bl b => cases ry; exact SeqAt.EqAt.str_bool _ _ _
    | int i => obtain ⟨t, rfl⟩ := ry; exact SeqAt.EqAt.str_int _ _ _ _
    | str z => obtain ⟨t, rfl⟩ := ry; exact SeqAt.EqAt.str_str _ _ _ _
    | lst e2 _ _ => cases ry; obtain ⟨_, _, p⟩ := lists e2; exact SeqAt.EqAt.str_list _ _ p aS
    | tup e2 _ _ => cases ry; obtain ⟨_, _, p⟩ := tups e2; exact SeqAt.EqAt.str_tuple _ _ p aS
  | lst e1 jA h1 ih =>
    rename_i a xs ds
    intro e u v A hy rx ry hu
    have aS : A.units < cLine := by omega
    have wY : A.units + gQ ds + 1 < cLine := by rw [fW] at hu; omega
    cases rx
    obtain ⟨its, rv, p⟩ := lists e1
    cases hy with
    | ao => cases ry; exact SeqAt.EqAt.list_none p aS
    | bl b => cases ry; exact SeqAt.EqAt.list_bool _ p aS
    | int i => obtain ⟨t, rfl⟩ := ry; exact SeqAt.EqAt.list_int _ _ p aS
    | str z => obtain ⟨t, rfl⟩ := ry; exact SeqAt.EqAt.list_str _ _ p aS
    | lst e2 fU h2 =>
      rename_i b ys es
      cases ry
      by_cases wZ : a = b
      · subst wZ
        have := (cU.lst e1 jA h1).inj (cU.lst e2 fU h2)
        cases this
        rw [jL]
        exact SeqAt.EqAt.same _
      · obtain ⟨bL, gF, p2⟩ := lists e2
        have l1 := rv.length
        have l2 := gF.length
        have at_ : ∀ j (g1 : j < its.toArray.size) (g2 : j < bL.toArray.size), SeqAt.EqAt A.in1 s its.toArray[j] bL.toArray[j] (b9 (ds.getD j .ao) (es.getD j .ao)) := fun j g1 g2 => by
          have gG : j < xs.length := by rw [l1]; simpa using g1
          have gH : j < ys.length := by rw [l2]; simpa using g2
          have r1 := bZ rv g1
          have r2 := bZ gF g2
          rw [List.getD_eq_getElem?_getD, List.getElem?_eq_getElem gG] at r1
          rw [List.getD_eq_getElem?_getD, List.getElem?_eq_getElem gH] at r2
          have d1 : ds[j]? = some ds[j] := List.getElem?_eq_getElem (by omega)
          have d2 : es[j]? = some es[j] := List.getElem?_eq_getElem (by omega)
          rw [List.getD_eq_getElem?_getD, List.getD_eq_getElem?_getD, d1, d2]
          have := iA d1
          exact ih j _ _ (List.getElem?_eq_getElem gG) d1 (h2 j _ _ (List.getElem?_eq_getElem gH) d2) r1 r2 (by show A.units + 1 + _ < cLine; omega)
        refine SeqAt.EqAt.of_refs wZ ?_
        rw [b9, dS]
        by_cases bY : ds.length = es.length
        · have q := SeqAt.RcAt.lists p p2 (by simp only [List.size_toArray]; omega) aS at_
          have z : (ds.length == es.length) = true := by simpa using bY
          rw [z, Bool.and_true, ← bY, Nat.min_self]
          rw [List.size_toArray, ← l1, jA] at q
          exact q
        · have z : (ds.length == es.length) = false := by simpa using bY
          rw [z, Bool.and_false]
          exact SeqAt.RcAt.lists_lengths p p2 (by simp only [List.size_toArray]; simpa [bne_iff_ne] using (show its.length ≠ bL.length by omega)) aS
    | tup e2 fU h2 => cases ry; obtain ⟨_, _, p2⟩ := tups e2; exact SeqAt.EqAt.list_tuple p p2 aS
  | tup e1 jA h1 ih =>
    rename_i a xs ds
    intro e u v A hy rx ry hu
    have aS : A.units < cLine := by omega
    have wY : A.units + gQ ds + 1 < cLine := by rw [fW] at hu; omega
    cases rx
    obtain ⟨its, rv, p⟩ := tups e1
    cases hy with
    | ao => cases ry; exact SeqAt.EqAt.tuple_none p aS
    | bl b => cases ry; exact SeqAt.EqAt.tuple_bool _ p aS
    | int i => obtain ⟨t, rfl⟩ := ry; exact SeqAt.EqAt.tuple_int _ _ p aS
    | str z => obtain ⟨t, rfl⟩ := ry; exact SeqAt.EqAt.tuple_str _ _ p aS
    | lst e2 fU h2 => cases ry; obtain ⟨_, _, p2⟩ := lists e2; exact SeqAt.EqAt.tuple_list p p2 aS
    | tup e2 fU h2 =>
      rename_i b ys es
      cases ry
      by_cases wZ : a = b
      · subst wZ
        have := (cU.tup e1 jA h1).inj (cU.tup e2 fU h2)
        cases this
        rw [jL]
        exact SeqAt.EqAt.same _
      · obtain ⟨bL, gF, p2⟩ := tups e2
        have l1 := rv.length
        have l2 := gF.length
        have at_ : ∀ j (g1 : j < its.toArray.size) (g2 : j < bL.toArray.size), SeqAt.EqAt A.in1 s its.toArray[j] bL.toArray[j] (b9 (ds.getD j .ao) (es.getD j .ao)) := fun j g1 g2 => by
          have gG : j < xs.length := by rw [l1]; simpa using g1
          have gH : j < ys.length := by rw [l2]; simpa using g2
          have r1 := bZ rv g1
          have r2 := bZ gF g2
          rw [List.getD_eq_getElem?_getD, List.getElem?_eq_getElem gG] at r1
          rw [List.getD_eq_getElem?_getD, List.getElem?_eq_getElem gH] at r2
          have d1 : ds[j]? = some ds[j] := List.getElem?_eq_getElem (by omega)
          have d2 : es[j]? = some es[j] := List.getElem?_eq_getElem (by omega)
          rw [List.getD_eq_getElem?_getD, List.getD_eq_getElem?_getD, d1, d2]
          have := iA d1
          exact ih j _ _ (List.getElem?_eq_getElem gG) d1 (h2 j _ _ (List.getElem?_eq_getElem gH) d2) r1 r2 (by show A.units + 1 + _ < cLine; omega)
        refine SeqAt.EqAt.of_refs wZ ?_
        rw [b9, dS]
        have q := SeqAt.RcAt.tuples p p2 aS at_
        rw [List.size_toArray, List.size_toArray, ← l1, ← l2, jA, fU] at q
        exact q
end
section
variable {X : Cx} {pins : List (Addr × Obj)} {σ : St} {H : Hp} {s : Shared}
theorem FK (I : Inv X pins σ H s) {x y : V} {d e : Dt} {u v : Value} {A : Around} (hx : cU H x d) (hy : cU H y e) (rx : RelV x u) (ry : RelV y v) (hu : A.units + fW d < cLine) : SeqAt.RcAt A s u v (b9 d e) := by
  have aS : A.units < cLine := by omega
  have lists := fun {a : Addr} {xs : List V} (h : H a = some (.lst xs)) => I.lists h
  have tups := fun {a : Addr} {xs : List V} (h : H a = some (.tup xs)) => I.tups h
  cases hx with
  | ao =>
    cases rx
    cases hy with
    | ao => cases ry; exact SeqAt.RcAt.none_none
    | bl b => cases ry; exact SeqAt.RcAt.none_bool _
    | int b => obtain ⟨t, rfl⟩ := ry; exact SeqAt.RcAt.none_int _ _
    | str b => obtain ⟨t, rfl⟩ := ry; exact SeqAt.RcAt.none_str _ _
    | lst e2 _ _ => cases ry; obtain ⟨_, _, p⟩ := lists e2; exact SeqAt.RcAt.none_list p aS
    | tup e2 _ _ => cases ry; obtain ⟨_, _, p⟩ := tups e2; exact SeqAt.RcAt.none_tuple p aS
  | bl a =>
    cases rx
    cases hy with
    | ao => cases ry; exact SeqAt.RcAt.bool_none _
    | bl b => cases ry; exact SeqAt.RcAt.bool_bool _ _
    | int b => obtain ⟨t, rfl⟩ := ry; exact SeqAt.RcAt.bool_int _ _ _
    | str b => obtain ⟨t, rfl⟩ := ry; exact SeqAt.RcAt.bool_str _ _ _
    | lst e2 _ _ => cases ry; obtain ⟨_, _, p⟩ := lists e2; exact SeqAt.RcAt.bool_list _ p aS
    | tup e2 _ _ => cases ry; obtain ⟨_, _, p⟩ := tups e2; exact SeqAt.RcAt.bool_tuple _ p aS
  | int a =>
    obtain ⟨ta, rfl⟩ := rx
    cases hy with
    | ao => cases ry; exact SeqAt.RcAt.int_none _ _
    | bl b => cases ry; exact SeqAt.RcAt.int_bool _ _ _
    | int b => obtain ⟨t, rfl⟩ := ry; exact SeqAt.RcAt.int_int _ _ _ _
    | str b => obtain ⟨t, rfl⟩ := ry; exact SeqAt.RcAt.int_str _ _ _ _
    | lst e2 _ _ => cases ry; obtain ⟨_, _, p⟩ := lists e2; exact SeqAt.RcAt.int_list _ _ p aS
    | tup e2 _ _ => cases ry; obtain ⟨_, _, p⟩ := tups e2; exact SeqAt.RcAt.int_tuple _ _ p aS
  | str a =>
    obtain ⟨ta, rfl⟩ := rx
    cases hy with
    | ao => cases ry; exact SeqAt.RcAt.str_none _ _
    | bl b => cases ry; exact SeqAt.RcAt.str_bool _ _ _
    | int b => obtain ⟨t, rfl⟩ := ry; exact SeqAt.RcAt.str_int _ _ _ _
    | str b => obtain ⟨t, rfl⟩ := ry; exact SeqAt.RcAt.str_str _ _ _ _
    | lst e2 _ _ => cases ry; obtain ⟨_, _, p⟩ := lists e2; exact SeqAt.RcAt.str_list _ _ p aS
    | tup e2 _ _ => cases ry; obtain ⟨_, _, p⟩ := tups e2; exact SeqAt.RcAt.str_tuple _ _ p aS
  | lst e1 jA h1 =>
    rename_i a xs ds
    have wY : A.units + gQ ds + 1 < cLine := by rw [fW] at hu; omega
    cases rx
    obtain ⟨its, rv, p⟩ := lists e1
    cases hy with
    | ao => cases ry; exact SeqAt.RcAt.list_none p aS
    | bl b => cases ry; exact SeqAt.RcAt.list_bool _ p aS
    | int b => obtain ⟨t, rfl⟩ := ry; exact SeqAt.RcAt.list_int _ _ p aS
    | str b => obtain ⟨t, rfl⟩ := ry; exact SeqAt.RcAt.list_str _ _ p aS
    | lst e2 fU h2 =>
      rename_i b ys es
      cases ry
      obtain ⟨bL, gF, p2⟩ := lists e2
      have l1 := rv.length
      have l2 := gF.length
      have at_ : ∀ j (g1 : j < its.toArray.size) (g2 : j < bL.toArray.size), SeqAt.EqAt A.in1 s its.toArray[j] bL.toArray[j] (b9 (ds.getD j .ao) (es.getD j .ao)) := fun j g1 g2 => by
        have gG : j < xs.length := by rw [l1]; simpa using g1
        have gH : j < ys.length := by rw [l2]; simpa using g2
        have r1 := bZ rv g1
        have r2 := bZ gF g2
        rw [List.getD_eq_getElem?_getD, List.getElem?_eq_getElem gG] at r1
        rw [List.getD_eq_getElem?_getD, List.getElem?_eq_getElem gH] at r2
        have d1 : ds[j]? = some ds[j] := List.getElem?_eq_getElem (by omega)
        have d2 : es[j]? = some es[j] := List.getElem?_eq_getElem (by omega)
        rw [List.getD_eq_getElem?_getD, List.getD_eq_getElem?_getD, d1, d2]
        have := iA d1
        exact kG I (h1 j _ _ (List.getElem?_eq_getElem gG) d1) (h2 j _ _ (List.getElem?_eq_getElem gH) d2) r1 r2 (by show A.units + 1 + _ < cLine; omega)
      rw [b9, dS]
      by_cases bY : ds.length = es.length
      · have q := SeqAt.RcAt.lists p p2 (by simp only [List.size_toArray]; omega) aS at_
        have z : (ds.length == es.length) = true := by simpa using bY
        rw [z, Bool.and_true, ← bY, Nat.min_self]
        rw [List.size_toArray, ← l1, jA] at q
        exact q
      · have z : (ds.length == es.length) = false := by simpa using bY
        rw [z, Bool.and_false]
        exact SeqAt.RcAt.lists_lengths p p2 (by simp only [List.size_toArray]; simpa [bne_iff_ne] using (show its.length ≠ bL.length by omega)) aS
    | tup e2 fU h2 => cases ry; obtain ⟨_, _, p2⟩ := tups e2; exact SeqAt.RcAt.list_tuple p p2 aS
  | tup e1 jA h1 =>
    rename_i a xs ds
    have wY : A.units + gQ ds + 1 < cLine := by rw [fW] at hu; omega
    cases rx
    obtain ⟨its, rv, p⟩ := tups e1
    cases hy with
    | ao => cases ry; exact SeqAt.RcAt.tuple_none p aS
    | bl b => cases ry; exact SeqAt.RcAt.tuple_bool _ p aS
    | int b => obtain ⟨t, rfl⟩ := ry; exact SeqAt.RcAt.tuple_int _ _ p aS
    | str b => obtain ⟨t, rfl⟩ := ry; exact SeqAt.RcAt.tuple_str _ _ p aS
    | lst e2 fU h2 => cases ry; obtain ⟨_, _, p2⟩ := lists e2; exact SeqAt.RcAt.tuple_list p p2 aS
    | tup e2 fU h2 =>
      rename_i b ys es
      cases ry
      obtain ⟨bL, gF, p2⟩ := tups e2
      have l1 := rv.length
      have l2 := gF.length
      have at_ : ∀ j (g1 : j < its.toArray.size) (g2 : j < bL.toArray.size), SeqAt.EqAt A.in1 s its.toArray[j] bL.toArray[j] (b9 (ds.getD j .ao) (es.getD j .ao)) := fun j g1 g2 => by
        have gG : j < xs.length := by rw [l1]; simpa using g1
        have gH : j < ys.length := by rw [l2]; simpa using g2
        have r1 := bZ rv g1
        have r2 := bZ gF g2
        rw [List.getD_eq_getElem?_getD, List.getElem?_eq_getElem gG] at r1
        rw [List.getD_eq_getElem?_getD, List.getElem?_eq_getElem gH] at r2
        have d1 : ds[j]? = some ds[j] := List.getElem?_eq_getElem (by omega)
        have d2 : es[j]? = some es[j] := List.getElem?_eq_getElem (by omega)
        rw [List.getD_eq_getElem?_getD, List.getD_eq_getElem?_getD, d1, d2]
        have := iA d1
        exact kG I (h1 j _ _ (List.getElem?_eq_getElem gG) d1) (h2 j _ _ (List.getElem?_eq_getElem gH) d2) r1 r2 (by show A.units + 1 + _ < cLine; omega)
      rw [b9, dS]
      have q := SeqAt.RcAt.tuples p p2 aS at_
      rw [List.size_toArray, List.size_toArray, ← l1, ← l2, jA, fU] at q
      exact q
theorem FL (I : Inv X pins σ H s) {x y : V} {d e : Dt} {u v : Value} {A : Around} (hx : cU H x d) (hy : cU H y e) (rx : RelV x u) (ry : RelV y v) (hu : A.units + fW d < cLine) : SeqAt.RcNeAt A s u v (!(b9 d e)) := by
  have aS : A.units < cLine := by omega
  have lists := fun {a : Addr} {xs : List V} (h : H a = some (.lst xs)) => I.lists h
  have tups := fun {a : Addr} {xs : List V} (h : H a = some (.tup xs)) => I.tups h
  cases hx with
  | ao =>
    cases rx
    cases hy with
    | ao => cases ry; exact SeqAt.RcNeAt.none_none
    | bl b => cases ry; exact SeqAt.RcNeAt.none_bool _
    | int b => obtain ⟨t, rfl⟩ := ry; exact SeqAt.RcNeAt.none_int _ _
    | str b => obtain ⟨t, rfl⟩ := ry; exact SeqAt.RcNeAt.none_str _ _
    | lst e2 _ _ => cases ry; obtain ⟨_, _, p⟩ := lists e2; exact SeqAt.RcNeAt.none_list p aS
    | tup e2 _ _ => cases ry; obtain ⟨_, _, p⟩ := tups e2; exact SeqAt.RcNeAt.none_tuple p aS
  | bl a =>
    cases rx
    cases hy with
    | ao => cases ry; exact SeqAt.RcNeAt.bool_none _
    | bl b => cases ry; exact SeqAt.RcNeAt.bool_bool _ _
    | int b => obtain ⟨t, rfl⟩ := ry; exact SeqAt.RcNeAt.bool_int _ _ _
    | str b => obtain ⟨t, rfl⟩ := ry; exact SeqAt.RcNeAt.bool_str _ _ _
    | lst e2 _ _ => cases ry; obtain ⟨_, _, p⟩ := lists e2; exact SeqAt.RcNeAt.bool_list _ p aS
    | tup e2 _ _ => cases ry; obtain ⟨_, _, p⟩ := tups e2; exact SeqAt.RcNeAt.bool_tuple _ p aS
  | int a =>
    obtain ⟨ta, rfl⟩ := rx
    cases hy with
    | ao => cases ry; exact SeqAt.RcNeAt.int_none _ _
    | bl b => cases ry; exact SeqAt.RcNeAt.int_bool _ _ _
    | int b => obtain ⟨t, rfl⟩ := ry; exact SeqAt.RcNeAt.int_int _ _ _ _
    | str b => obtain ⟨t, rfl⟩ := ry; exact SeqAt.RcNeAt.int_str _ _ _ _
    | lst e2 _ _ => cases ry; obtain ⟨_, _, p⟩ := lists e2; exact SeqAt.RcNeAt.int_list _ _ p aS
    | tup e2 _ _ => cases ry; obtain ⟨_, _, p⟩ := tups e2; exact SeqAt.RcNeAt.int_tuple _ _ p aS
  | str a =>
    obtain ⟨ta, rfl⟩ := rx
    cases hy with
    | ao => cases ry; exact SeqAt.RcNeAt.str_none _ _
    | bl b => cases ry; exact SeqAt.RcNeAt.str_bool _ _ _
    | int b => obtain ⟨t, rfl⟩ := ry; exact SeqAt.RcNeAt.str_int _ _ _ _
    | str b => obtain ⟨t, rfl⟩ := ry; exact SeqAt.RcNeAt.str_str _ _ _ _
    | lst e2 _ _ => cases ry; obtain ⟨_, _, p⟩ := lists e2; exact SeqAt.RcNeAt.str_list _ _ p aS
    | tup e2 _ _ => cases ry; obtain ⟨_, _, p⟩ := tups e2; exact SeqAt.RcNeAt.str_tuple _ _ p aS
  | lst e1 jA h1 =>
    rename_i a xs ds
    have wY : A.units + gQ ds + 1 < cLine := by rw [fW] at hu; omega
    cases rx
    obtain ⟨its, rv, p⟩ := lists e1
    cases hy with
    | ao => cases ry; exact SeqAt.RcNeAt.list_none p aS
    | bl b => cases ry; exact SeqAt.RcNeAt.list_bool _ p aS
    | int b => obtain ⟨t, rfl⟩ := ry; exact SeqAt.RcNeAt.list_int _ _ p aS
    | str b => obtain ⟨t, rfl⟩ := ry; exact SeqAt.RcNeAt.list_str _ _ p aS
    | lst e2 fU h2 =>
      rename_i b ys es
      cases ry
      obtain ⟨bL, gF, p2⟩ := lists e2
      have l1 := rv.length
      have l2 := gF.length
      have at_ : ∀ j (g1 : j < its.toArray.size) (g2 : j < bL.toArray.size), SeqAt.EqAt A.in1 s its.toArray[j] bL.toArray[j] (b9 (ds.getD j .ao) (es.getD j .ao)) := fun j g1 g2 => by
        have gG : j < xs.length := by rw [l1]; simpa using g1
        have gH : j < ys.length := by rw [l2]; simpa using g2
        have r1 := bZ rv g1
        have r2 := bZ gF g2
        rw [List.getD_eq_getElem?_getD, List.getElem?_eq_getElem gG] at r1
        rw [List.getD_eq_getElem?_getD, List.getElem?_eq_getElem gH] at r2
        have d1 : ds[j]? = some ds[j] := List.getElem?_eq_getElem (by omega)
        have d2 : es[j]? = some es[j] := List.getElem?_eq_getElem (by omega)
        rw [List.getD_eq_getElem?_getD, List.getD_eq_getElem?_getD, d1, d2]
        have := iA d1
        exact kG I (h1 j _ _ (List.getElem?_eq_getElem gG) d1) (h2 j _ _ (List.getElem?_eq_getElem gH) d2) r1 r2 (by show A.units + 1 + _ < cLine; omega)
      rw [b9, dS]
      by_cases bY : ds.length = es.length
      · have q := SeqAt.RcNeAt.lists p p2 (by simp only [List.size_toArray]; omega) aS at_
        have z : (ds.length == es.length) = true := by simpa using bY
        rw [z, Bool.and_true, ← bY, Nat.min_self]
        rw [List.size_toArray, ← l1, jA] at q
        exact q
      · have z : (ds.length == es.length) = false := by simpa using bY
        rw [z, Bool.and_false]
        exact SeqAt.RcNeAt.lists_lengths p p2 (by simp only [List.size_toArray]; simpa [bne_iff_ne] using (show its.length ≠ bL.length by omega)) aS
    | tup e2 fU h2 => cases ry; obtain ⟨_, _, p2⟩ := tups e2; exact SeqAt.RcNeAt.list_tuple p p2 aS
  | tup e1 jA h1 =>
    rename_i a xs ds
    have wY : A.units + gQ ds + 1 < cLine := by rw [fW] at hu; omega
    cases rx
    obtain ⟨its, rv, p⟩ := tups e1
    cases hy with
    | ao => cases ry; exact SeqAt.RcNeAt.tuple_none p aS
    | bl b => cases ry; exact SeqAt.RcNeAt.tuple_bool _ p aS
    | int b => obtain ⟨t, rfl⟩ := ry; exact SeqAt.RcNeAt.tuple_int _ _ p aS
    | str b => obtain ⟨t, rfl⟩ := ry; exact SeqAt.RcNeAt.tuple_str _ _ p aS
    | lst e2 fU h2 => cases ry; obtain ⟨_, _, p2⟩ := lists e2; exact SeqAt.RcNeAt.tuple_list p p2 aS
    | tup e2 fU h2 =>
      rename_i b ys es
      cases ry
      obtain ⟨bL, gF, p2⟩ := tups e2
      have l1 := rv.length
      have l2 := gF.length
      have at_ : ∀ j (g1 : j < its.toArray.size) (g2 : j < bL.toArray.size), SeqAt.EqAt A.in1 s its.toArray[j] bL.toArray[j] (b9 (ds.getD j .ao) (es.getD j .ao)) := fun j g1 g2 => by
        have gG : j < xs.length := by rw [l1]; simpa using g1
        have gH : j < ys.length := by rw [l2]; simpa using g2
        have r1 := bZ rv g1
        have r2 := bZ gF g2
        rw [List.getD_eq_getElem?_getD, List.getElem?_eq_getElem gG] at r1
        rw [List.getD_eq_getElem?_getD, List.getElem?_eq_getElem gH] at r2
        have d1 : ds[j]? = some ds[j] := List.getElem?_eq_getElem (by omega)
        have d2 : es[j]? = some es[j] := List.getElem?_eq_getElem (by omega)
        rw [List.getD_eq_getElem?_getD, List.getD_eq_getElem?_getD, d1, d2]
        have := iA d1
        exact kG I (h1 j _ _ (List.getElem?_eq_getElem gG) d1) (h2 j _ _ (List.getElem?_eq_getElem gH) d2) r1 r2 (by show A.units + 1 + _ < cLine; omega)
      rw [b9, dS]
      have q := SeqAt.RcNeAt.tuples p p2 aS at_
      rw [List.size_toArray, List.size_toArray, ← l1, ← l2, jA, fU] at q
      exact q
end
section
variable {X : Cx}
noncomputable def zG (neg : Bool) : R2 := fun x y H Q => ∃ d e, cU H x d ∧ cU H y e ∧ fW d ≤ 60 ∧ Q (.bl (if neg then !b9 d e else b9 d e)) H
theorem Nx (hu : X.A.units + 64 < cLine) : OpR X (compareOp .Eq) (zG false) := by
  intro pins s σ H x y v u Q I rx ry h
  obtain ⟨d, e, hx, hy, hd, q⟩ := h
  exact FK I hx hy rx ry (by omega) X.prog X.w X.xe _ ⟨.bl _, H, I, rfl, q⟩
theorem FN (hu : X.A.units + 64 < cLine) : OpR X (compareOp .NotEq) (zG true) := by
  intro pins s σ H x y v u Q I rx ry h
  obtain ⟨d, e, hx, hy, hd, q⟩ := h
  exact FL I hx hy rx ry (by omega) X.prog X.w X.xe _ ⟨.bl _, H, I, rfl, q⟩
end
theorem bA.there {P : Program} {w : World} {H : Hp} {h : Heap} {a : Addr} {o : HO} (x : bA P w H h a o) : ∃ u, h.get? a = some u := by
  cases o with
  | lst xs => obtain ⟨_, _, _, _, e⟩ := x; exact ⟨_, e⟩
  | tup xs => obtain ⟨_, _, _, ob, e, _⟩ := x; exact ⟨_, e⟩
  | dK bR => obtain ⟨_, _, _, _, o, _, _, e, _⟩ := x; exact ⟨_, e⟩
  | dT bR => obtain ⟨_, _, _, _, o, _, _, e, _⟩ := x; exact ⟨_, e⟩
  | set S n => obtain ⟨o, _, _, _, e, _⟩ := x; exact ⟨_, e⟩
  | ins C dx fs => obtain ⟨_, _, _, e, _⟩ := x; exact ⟨_, e⟩
  | own y => obtain ⟨_, e⟩ := x; exact ⟨_, e⟩
  | xd fs => obtain ⟨_, ⟨_, _, _, e, _⟩, _⟩ := x; exact ⟨_, e⟩
  | A0 lo hi => obtain ⟨_, _, _, e⟩ := x; exact ⟨_, e⟩
  | cM ob u => obtain ⟨e, _⟩ := x; exact ⟨_, e⟩
  | cg ps => exact ⟨_, x⟩
  | lam ps => exact ⟨_, x⟩
  | met f y => exact ⟨_, x⟩
  | ext φ => obtain ⟨_, ⟨_, e⟩, _⟩ := x; exact ⟨_, e⟩
noncomputable def bK (P : Program) (w : World) : d8 := fun outer H s E e s' => ∃ (a C t : Addr) (B : Heap) (H' : Hp), e = .ref a ∧ s'.os = s.os ∧ Gn s.gens.size s'.gens ∧ Heap.FlyingW B outer a (.ref C) (.ref t) s'.heap ∧
  (∀ b o, s.heap.get? b = some o → b ∉ dz outer → ∃ o', B.get? b = some o') ∧ (∀ b u, H' b = some u → ∃ o', B.get? b = some o') ∧ Un (dz outer) [] H H' s.heap s'.heap ∧ c6 P w H' s'.heap ∧ E (.ref C) none H'
section
variable {X : Cx} {pins : List (Addr × Obj)} {σ : St} {H H1 : Hp} {s s1 : Shared} {B h' : Heap}
theorem Inv.jB (I : Inv X pins σ H s) {b : Addr} (h1 : b ≠ X.env.locals) (h2 : b ∉ X.fs) : b ∉ dz X.stack := fun z => by
  rcases List.mem_cons.mp (I.fi b z) with q | q
  · exact h1 q
  · exact h2 q
theorem Inv.iY (I : Inv X pins σ H s) {b : Addr} {o : Obj} (e : X.s₀.heap.get? b = some o) : b ≠ X.env.locals := fun z => by
  have l := Heap.lt_size e
  have := I.ok.above
  rw [← z] at this
  exact absurd l (Nat.not_lt.mpr this)
theorem Inv.w5 (I1 : Inv X pins σ H1 s1) (I : Inv X pins σ H s) (c1 : ∀ b o, s1.heap.get? b = some o → b ∉ dz X.stack → ∃ o', B.get? b = some o') (c2 : ∀ b u, H b = some u → ∃ o', B.get? b = some o')
    (k : B.StaysIn s.heap) (k' : B.StaysIn h') (up : s.heap.UpToSlots h') : Inv X pins σ H { s with heap := h' } := by
  have same : ∀ b o', (∃ o2, B.get? b = some o2) → s.heap.get? b = some o' → h'.get? b = some o' := fun b o' ⟨o2, e⟩ q => by
    have z := k b o2 e
    rw [q] at z
    cases z
    exact k' b _ e
  refine ⟨I.ok, I.os, I.bare, ⟨fun b o q n hb hx => ?_, fun b o q n hb hx => ?_, I.base.free, fun b o q hx => ?_, I.base.tups, I.base.frzs, I.base.tbls⟩, ?_, fun x c e => ?_, I.free, I.freeC, fun p hp => ?_, fun a o e => ?_, I.len⟩
  · exact same b o (c1 b o (I1.base.keep b o q n hb hx) (I.jB (I.iY q) hb)) (I.base.keep b o q n hb hx)
  · obtain ⟨sl, e⟩ := I.base.slot b o q n hb hx
    obtain ⟨_, o2, e2, nf⟩ := I.funs.mem hb
    rw [e] at e2
    cases e2
    obtain ⟨o9, e4⟩ := up b { o with slots := sl } e nf
    exact ⟨o9, e4⟩
  · obtain ⟨o', e⟩ := I.base.there b o q hx
    by_cases hb : b ∈ X.fs
    · obtain ⟨_, o2, e2, nf⟩ := I.funs.mem hb
      obtain ⟨sl, e3⟩ := up b _ e2 nf
      exact ⟨_, e3⟩
    · obtain ⟨o1, q1⟩ := I1.base.there b o q hx
      exact ⟨o', same b o' (c1 b o1 q1 (I.jB (I.iY q) hb)) e⟩
  · obtain ⟨m, hn, hl⟩ := I.loc
    refine ⟨m, up.ns hn, fun i x v a b c => ?_⟩
    obtain ⟨u, r, l⟩ := hl i x v a b c
    refine ⟨u, r, ?_⟩
    rcases l with l | ⟨kd, c, ec, o, ho, hd⟩
    · exact .inl l
    · obtain ⟨sl, e⟩ := up c o ho fun vs z => by rw [hd] at z; cases z
      exact .inr ⟨kd, c, ec, _, e, hd⟩
  · obtain ⟨v, o, ho, hd⟩ := I.cell x c e
    obtain ⟨sl, e⟩ := up c o ho fun vs z => by rw [hd] at z; cases z
    exact ⟨v, _, e, hd⟩
  · obtain ⟨p1, p2, p3, p4, p5⟩ := I.pin p hp
    exact ⟨same p.1 p.2 (c1 p.1 p.2 (I1.pin p hp).1 (I.jB p3 p4)) p1, p2, p3, p4, p5⟩
  · refine (I.hok a o e).fY (fun b u hb q => ?_) (fun _ q => q) fun _ _ q => q
    rcases hb with z | z
    · exact same b u (c2 b o (by rw [z]; exact e)) q
    · exact same b u (c2 b _ z) q
end
section
variable {P : Program} {w : World} {K : PySem.W.Frag} {mg : Str → Option Value} {base : Heap} {N : List Str} {qual : Str} {scope : Scope} {f : Addr} {cd : Value} {A : Around} {outer : List Env} {s0 : Shared} {H0 : Hp} {E : XK}
theorem g6 : Passes (bK P w) (fh (bK P w) P w K mg base N qual scope f cd A outer s0 H0 E) E := by
  intro pins σ H s e s' I h
  obtain ⟨a, C, t, B, H', rfl, os, gn, fl, c1, c2, un, hok, q⟩ := h
  have I' := I.lx (ch := []) os un hok gn (fun b z => absurd z (by simp))
  refine wpAny_leaves_onW (cls := .ref C) (a0 := .ref t) I.ok.frames rfl fl fun h' rg up => ?_
  have I2 := I.w5 I' c1 c2 fl.1 rg.1 up
  refine ⟨a, C, t, B, H', rfl, I2.os, I2.bare, rg, fun b o e n => ?_, c2, I2.base, I2.hok, q⟩
  obtain ⟨o1, e1⟩ := I.base.there b o e (fun z => absurd (show b ∈ ([] : List Addr) from z) (by simp))
  exact c1 b o1 e1 (I.jB (I.iY e) n)
noncomputable def Raises (X : Cx) (E : XK) : Prop := ∀ (pins : List (Addr × Obj)) (σ : St) (H : Hp) (s : Shared) (C : Addr) (h' : Heap) (a : Addr) (vs : List Value), Inv X pins σ H s → Heap.MadeExcOf s.heap h' a (.ref C) vs → E (.ref C) none H → X.xe (.ref a) { s with heap := h' }
theorem w6 : Raises (fh (bK P w) P w K mg base N qual scope f cd A outer s0 H0 E) E := by
  intro pins σ H s C h' a vs I hx q
  have c1 : ∀ b o, s.heap.get? b = some o → b ∉ dz (fh (bK P w) P w K mg base N qual scope f cd A outer s0 H0 E).stack → ∃ o', (PySem.W.hideAll s.heap (dz (fh (bK P w) P w K mg base N qual scope f cd A outer s0 H0 E).stack)).get? b = some o' :=
    fun b o e n => ⟨o, PySem.W.hideAll_get _ e n⟩
  have c2 : ∀ b u, H b = some u → ∃ o', (PySem.W.hideAll s.heap (dz (fh (bK P w) P w K mg base N qual scope f cd A outer s0 H0 E).stack)).get? b = some o' := fun b u hu => by
    obtain ⟨o, e⟩ := (I.hok b u hu).there
    exact c1 b o e fun z => by rw [I.jt b z] at hu; cases hu
  have st : (PySem.W.hideAll s.heap (dz (fh (bK P w) P w K mg base N qual scope f cd A outer s0 H0 E).stack)).StaysIn s.heap := fun b o e => PySem.W.of_hideAll _ e
  refine wpAny_leaves_madeW (cls := .ref C) I.ok.frames rfl st (PySem.W.funFrames_hide I.stack fun env he b hb => List.mem_filterMap.mpr ⟨env, he, hb⟩) hx fun PB t fl _ _ up => ?_
  have I2 := I.w5 I c1 c2 st fl.1 ((Heap.UpToSlots.of_keeps hx.keeps).trans up)
  refine ⟨a, C, t, _, H, rfl, I2.os, I2.bare, fl, fun b o e n => ?_, c2, I2.base, I2.hok, q⟩
  obtain ⟨o1, e1⟩ := I.base.there b o e (fun z => absurd (show b ∈ ([] : List Addr) from z) (by simp))
  exact c1 b o1 e1 (I.jB (I.iY e) n)
end
theorem Cz {K : PySem.W.Frag} {h : Heap} {C : Addr} {pA : List Value} {newId : String} (X : K.In h) (q : PySem.W.excIn K C pA newId = true) :
    ∃ bm Nn nm qn bs hd sn sub ab col dd k0 k1 k2 k3 k5 mN, h.get? C = some (excClassObj nm qn C Nn bs bm hd sn sub ab col dd k0 k1 k2 k3 k5 newId) ∧ h.Ns Nn mN ∧ mN "__init__" = none ∧ OwnTail h pA bm := by
  unfold PySem.W.excIn at q
  split at q
  case h_2 => cases q
  case h_1 dd cd sl ho =>
    split at q
    case h_2 => cases q
    case h_1 C' bm k0 k1 k2 k3 n k5 hm hs =>
      rw [Bool.and_eq_true, Bool.and_eq_true, Bool.and_eq_true, Bool.and_eq_true, Bool.and_eq_true] at q
      obtain ⟨⟨⟨⟨⟨q1, q2⟩, q3⟩, q4⟩, q5⟩, q6⟩ := q
      have e1 : C' = C := beq_iff_eq.mp q1
      have e2 : n = newId := beq_iff_eq.mp q2
      have e3 : cd.hasDel = false := by simpa using q3
      subst e1 e2
      obtain ⟨nm, bs, mro, ns, qn, hd, sn, sub, ab, col, del⟩ := cd
      dsimp only at hm e3 q5 q6
      subst hm e3
      have es : sl = #[k0, k1, k2, k3, some (.builtin n), k5] := by
        cases sl with
        | mk l => exact congrArg Array.mk hs
      subst es
      exact ⟨bm, ns, nm, qn, bs, hd, sn, sub, ab, col, dd, k0, k1, k2, k3, k5, _, X _ _ ho, Heap.Ns.of_isNs (PySem.W.isNs_of_in X q5), PySem.W.nsMap_none_of_in X q5 (beq_iff_eq.mp q6), PySem.W.tail_of_in X q4⟩
section
variable {X : Cx} {x : Str} {C : Addr} {jm : Expr} {rest : List Expr} {t : TA} {pA : List Value} {B newId rh : String} {E : XK} {np bq pos : Pos}
noncomputable def FO (C : Addr) (E : XK) (t : TA) : TS := fun _ σ H => t σ H fun vs H1 => vs.length ≤ sizeLine ∧ E (.ref C) none H1
theorem zH (O : PySem.W.excIn X.K C pA newId = true) (FB : ExcBaseFacts B newId rh pA) (hc : X.calm = true) (hR : Raises X E) (hg : Gl X x) (hm : X.mg x = some (.ref C)) (ha : PA X (jm :: rest) t)
    (cN : (x == ("__debug__" : Str)) = false := by decide) (he : starEach (jm :: rest) X.env = (false, eval jm X.env) :: starEach rest X.env := by rfl) (dC : (backTo bq (starEach rest X.env)).any (·.1) = false := by rfl) :
    PS X (.Raise (some (.Call (.Name x np) (jm :: rest) [] bq)) none pos) (FO C E t) := by
  refine ⟨fun pins s σ H D I h => ?_⟩
  obtain ⟨bm, Nn, nm, qn, bs, hd, sn, sub, ab, col, dd, k0, k1, k2, k3, k5, mN, hC, hN, Ny, T⟩ := Cz I.ok.mod.kin O
  have hp : (backTo bq (starEach (jm :: rest) X.env)).any (·.1) = false := by
    rw [he]
    exact dC
  have iZ := ha bq pins s σ H _ I h
  rw [he] at iZ
  refine wpAny_Raise_call_subT (C := C) (nm := nm) (q := qn) (N := Nn) (bs := bs) (bm := bm) (hdct := hd) (sn := sn) (sub := sub) (ab := ab) (col := col) (dd := dd) (k0 := k0) (k1 := k1) (k2 := k2) (k3 := k3) (k5 := k5) FB (mN := mN)
    (T.hasType FB.hasBase) (I.ok.hd hc) hp Ny (hZ I hg hm ⟨rfl, ?_⟩ cN)
  rw [he]
  refine Calls.evalArgs_plain (thn iZ fun us s2 ⟨vs, H2, I2, r, l, q⟩ => ?_)
  exact ⟨rfl, by rw [← r.length]; exact l, I2.bk _ _ hC, hN.keeps I2.bk, T.keeps I2.bk, fun h' a hx => hR pins σ H2 s2 C h' a us I2 hx q⟩
end
end L2
namespace L2
open PySem PySem.Spec PyProof.Rows PySem.W Builtin Builtin.ObjectAttr Builtin.Getset_descriptor
noncomputable def ExcAt (C a : Addr) (h : Heap) : Prop := ∃ o vs, h.get? a = some o ∧ o.cls = .ref C ∧ o.data = .fields vs
noncomputable def mw (C a : Addr) : HO := .ext (ExcAt C a)
theorem ExcAt.fY {C a : Addr} {h h' : Heap} (x : ExcAt C a h) (k : ∀ o, h.get? a = some o → h'.get? a = some o) : ExcAt C a h' := let ⟨o, vs, e, c, d⟩ := x; ⟨o, vs, k o e, c, d⟩
theorem CA {P : Program} {w : World} {H : Hp} {h : Heap} {C a : Addr} (x : ExcAt C a h) : bA P w H h a (mw C a) := ⟨x, let ⟨o, _, e, _⟩ := x; ⟨o, e⟩, fun _ _ y k => y.fY k⟩
structure d9 (K : Frag) (C : Addr) : Prop where
  cls : (clsIn K C).isSome = true
  ga : findIn K (.ref C) "__getattribute__" = some (some (.builtin "BaseException.__getattribute__"))
  gt : findIn K (.ref C) "__getattr__" = some none
  cl : findIn K (.ref C) "__class__" = some (some (.builtin "object.__class__"))
  gg : specialIn K (.builtin "object.__class__") "__get__" = some (some (.builtin "getset_descriptor.__get__"))
  tk : takesIn K (.builtin "object.__class__") = some true
  ob : mroIn K C (.type "object") = some true
  be : mroIn K C (.type "BaseException") = some true
section
variable {K : Frag} {C a : Addr} {M : Model} {h : Heap}
theorem iB (x : ExcAt C a h) : Looks M h (typeOf (.ref a)) (.ref C) := by
  obtain ⟨o, vs, h1, h2, h3⟩ := x
  exact h2 ▸ (Looks.ld h1).andThen .now
theorem zI (X : K.In h) (E : d9 K C) : Looks M h (find (.ref a) (.ref C) "__class__") (.bind (.builtin "getset_descriptor.__get__") (.builtin "object.__class__")) := by
  refine (looks_findIn X E.cl).andThen (Looks.andThen (show Looks M h (getOf (some (.builtin "object.__class__"))) (some (.builtin "getset_descriptor.__get__")) from looks_specialIn X E.gg) ?_)
  have l3 : Looks M h (dataDescriptor? (some (.builtin "object.__class__")) (some (.builtin "getset_descriptor.__get__"))) (some (.builtin "getset_descriptor.__get__", .builtin "object.__class__")) := (looks_takesIn X E.tk).andThen .now
  exact l3.andThen (Looks.tag .now)
theorem uM (X : K.In h) (E : d9 K C) : Looks M h (isType (.ref C)) true := by
  have z := E.cls
  unfold clsIn at z
  split at z
  case h_2 => cases z
  case h_1 ho =>
    intro A Q E s k q
    unfold isType loadHead
    exact wpAny_bind (m := loadPart _ _) (wpAny_loadPart (k _ _ (X _ _ ho)) (wpAny_pure q))
theorem w9 (X : K.In h) (E : d9 K C) {tp : Addr} {dd : Option Addr} {its : List Value} {n : Nat} {sl : Array (Option Value)} (e : h.get? tp = some ⟨.type "tuple", dd, .seq its.toArray n, sl⟩) : (Value.ref C == Value.ref tp) = false := by
  refine Bool.eq_false_iff.mpr fun q => ?_
  cases Value.ref.inj (beq_iff_eq.mp q)
  have z := E.cls
  unfold clsIn at z
  split at z
  case h_2 => cases z
  case h_1 ho => cases (X _ _ ho).symm.trans e
end
section
variable {K : Frag} {C a : Addr} {prog : Program} {w : World} {A : Around} {s : Shared} {R : Result → Shared → Prop} {EE : Value → Shared → Prop}
theorem pZ {tp : Value} (X : K.In s.heap) (E : d9 K C) (x : ExcAt C a s.heap) (q : R (.ok (.ret (.ref C))) s) : codeAny (model prog w) A (.call (.builtin "getset_descriptor.__get__") ⟨[.builtin "object.__class__", .ref a, tp], []⟩) R s := by
  obtain ⟨hh, g, dr, t, os⟩ := s
  have L0 := iB (M := model prog w) x
  have L1 := looks_mroIn (M := model prog w) X E.ob
  have ck := KF.slot_gs.check (model prog w)
  refine codeAny_call_builtin KF.slot_gs.plain KF.entry_gs (ck _ _ _ _ _ _ _ KF.type_class (KF.args_gs _ _ _) ?_)
  unfold Builtin.«getset_descriptor.__get__» descrGet
  rw [dga_obj]
  refine wpAny_bind (m := pure _) (wpAny_pure ?_)
  unfold descrGetter descrCheckInstance descrNameAndClass
  unfold isInstance
  simp only [KF.owner_class]
  repeat lk
  refine ⟨Code.quiet_builtin _ (by decide +kernel), codeAny_builtin KF.entry_class ?_⟩
  unfold Builtin.«object.__class__»
  unfold shownTypeOf
  repeat lk
  exact q
theorem rj {nv : Value} {Q : Unit → Shared → Prop} (X : K.In s.heap) (E : d9 K C) (x : ExcAt C a s.heap) (q : Q () s) : wpAny (model prog w) A (checkBuiltinCall "BaseException.__getattribute__" ⟨[.ref a, nv], []⟩) Q EE s := by
  have e1 : builtinKind "BaseException.__getattribute__" = some .slot := by decide +kernel
  have e2 : splitId "BaseException.__getattribute__" = some ("BaseException", "__getattribute__") := by decide +kernel
  have Ph := F.args_bexc_ga (.ref a) nv
  have L0 := iB (M := model prog w) x
  have L1 := looks_mroIn (M := model prog w) X E.be
  obtain ⟨hh, g, dr, t, os⟩ := s
  simp only [checkBuiltinCall, e1, e2]
  refine wpAny_bind ?_
  unfold isInstance
  repeat lk
  exact q
theorem oi {Q : Option Value → Shared → Prop} (X : K.In s.heap) (E : d9 K C) (x : ExcAt C a s.heap) (q : Q (some (.ref C)) { s with toks := s.toks + 1 }) : wpAny (model prog w) A (getAttr? (.ref a) "__class__") Q EE s := by
  obtain ⟨hh, g, d, t, os⟩ := s
  have L0 := iB (M := model prog w) x
  have L1 := looks_findIn (M := model prog w) X E.ga
  have L2 := looks_findIn (M := model prog w) X E.gt
  have fV : (onTheHeap (Value.ref C) && Value.builtin "BaseException.__getattribute__" == Value.builtin "object.__getattribute__") = false := by
    rw [show (Value.builtin "BaseException.__getattribute__" == Value.builtin "object.__getattribute__") = false from by decide +kernel]
    rfl
  unfold getAttr? getAttrBy?
  refine wpAny_bind (wpAny_mkText (wpAny_bind (m := (getAttrBy _ _ _).attempt) (wpAny_attempt ?_)))
  unfold getAttrBy
  refine wpAny_holding (wpAny_bind (m := typeOf _) (L0.at (wpAny_bind (m := typeLookup _ _) (L1.at ?_))))
  simp only [fV, Bool.false_eq_true, if_false]
  unfold getAttrByItsOwn hookBefore
  refine wpAny_bind (L2.at ?_)
  refine wpAny_bind (wpAny_attempt (wpAny_holding ?_))
  unfold callGetattribute boundAndCalled
  simp only [Bool.false_and, Bool.false_eq_true, if_false]
  refine wpAny_bind (m := bindSpecial _ _) (wpAny_of_eq (F.attr_ValueError.ga.bind (.ref a)) ?_)
  have L3 := zI (M := model prog w) (a := a) X E
  refine wpAny_call (codeAny_call_builtin F.attr_ValueError.ga.plain F.entry_bexc_ga (rj X E x ?_))
  unfold Builtin.«object.__getattribute__»
  iterate 9 lk
  refine wpAny_bind (m := attrName _) (wpAny_pure (wpAny_bind (m := typeOf _) (L0.at (wpAny_bind (m := find _ _ _) (L3.at ?_)))))
  show wpAny _ _ (holding [Value.builtin "object.__class__"] (call (.builtin "getset_descriptor.__get__") [.builtin "object.__class__", .ref a, .ref C]) >>= ret) _ _ _
  refine wpAny_bind (m := holding _ _) (wpAny_holding (wpAny_call (pZ X E x ?_)))
  exact wpAny_pure (handed_on rfl (wpAny_pure q))
end
theorem mx {K : Frag} {C a : Addr} (E : d9 K C) : KitX K (.ref a) (.ref C) (ExcAt C a) where
  ty := fun _ _ _ x => iB x
  it := fun _ _ X _ => uM X E
  ne := fun _ _ _ _ _ _ X e => w9 X E e
  ca := fun X x q => oi X E x q
theorem pB : ∀ {Ds : List Addr} {us : List Value}, Vals (Ds.map V.ref) us → us = Ds.map Value.ref
  | [], _, .nil => rfl
  | D :: Ds, _, .cons r t => by
    cases (show _ = Value.ref D from r)
    rw [pB t]
    rfl
section
variable {X : Cx}
noncomputable def LU (K : Frag) : List V → Hp → VK → Prop := fun xs H Q => ∃ a C b, H a = some (mw C a) ∧ d9 K C ∧
  ((∃ D, xs = [.ref a, .ref D] ∧ kitOne K (.ref C) (.ref D) = some b) ∨ (∃ T, xs = [.ref a, .ty T] ∧ kitOne K (.ref C) (.type T) = some b) ∨ ∃ (tp : Addr) (Ds : List Addr), xs = [.ref a, .ref tp] ∧ H tp = some (.tup (Ds.map V.ref)) ∧ kitAny K (.ref C) (Ds.map Value.ref) = some b) ∧ Q (.bl b) H
theorem zJ {K : Frag} (hK : X.K = K) : dQ X (.builtin "isinstance") (LU K) := by
  subst hK
  intro pins s σ H xs us Q I r h
  obtain ⟨a, C, b, ha, E, h, q⟩ := h
  have x : ExcAt C a s.heap := (I.hok a _ ha).1
  have fin : ∀ tk, EP X pins σ Q (.bool b) { s with toks := tk } := fun tk => ⟨.bl b, H, I.tok tk, rfl, q⟩
  rcases h with ⟨D, rfl, e⟩ | ⟨T, rfl, e⟩ | ⟨tp, Ds, rfl, ht, e⟩
  · obtain ⟨u, w', rfl, r1, r2⟩ := vals2 r
    cases (show u = Value.ref a from r1)
    cases (show w' = Value.ref D from r2)
    exact kia_one (mx E) I.d7 x e (fun z => nomatch z) fin
  · obtain ⟨u, w', rfl, r1, r2⟩ := vals2 r
    cases (show u = Value.ref a from r1)
    cases (show w' = Value.type T from r2)
    exact kia_one (mx E) I.d7 x e (fun z => nomatch z) fin
  · obtain ⟨u, w', rfl, r1, r2⟩ := vals2 r
    cases (show u = Value.ref a from r1)
    cases (show w' = Value.ref tp from r2)
    obtain ⟨_, its, rv, ob, ho, hc, n, hd, _⟩ := I.hok tp _ ht
    have ei := pB rv
    subst ei
    obtain ⟨c, dd, dt, sl⟩ := ob
    dsimp only at hc hd
    subst hc hd
    exact kia_tup (mx E) I.d7 x ho e (fun z => nomatch z) fin
end
end L2
namespace L2
open PySem PySem.Spec PyProof.Rows PySem.W
noncomputable def blank (n : Nat) : St := List.replicate n none
theorem rk {n i : Nat} {v : V} (h : (blank n)[i]? = some (some v)) : False := by
  unfold blank at h
  rw [List.getElem?_replicate] at h
  split at h <;> cases h
noncomputable abbrev Cx.jM (X : Cx) (T : Value → Shared → Prop) (pn : List (Addr × Obj)) : Cx := { X with xe := T, pn := pn }
noncomputable abbrev Cx.suite (X : Cx) (a : Addr) : Cx := { X with A := X.A.mark (some (.ref a)), calm := false, xe := fun _ _ => False }
section
variable {X : Cx} {pins pins' : List (Addr × Obj)} {σ : St} {H : Hp} {s : Shared} {T : Value → Shared → Prop}
theorem Inv.jM (I : Inv X pins σ H s) (T : Value → Shared → Prop) : Inv (X.jM T (X.pn ++ pins)) [] σ H s :=
  ⟨⟨I.ok.mod, I.ok.kind, I.ok.glob, I.ok.blt, I.ok.above, I.ok.inj, I.ok.has, I.ok.cab, I.ok.hd, I.ok.frames, I.ok.stk, I.ok.exf, I.ok.bs, I.ok.bsz, I.ok.noex, I.ok.exfs, I.ok.funs, I.ok.frf⟩,
    I.os, I.bare, I.base, I.loc, I.cell, I.free, I.freeC, fun p hp => I.pin p (by simpa using hp), I.hok, I.len⟩
theorem Inv.kI (J : Inv (X.jM T (X.pn ++ pins)) pins' σ H s) : Inv X pins σ H s :=
  ⟨⟨J.ok.mod, J.ok.kind, J.ok.glob, J.ok.blt, J.ok.above, J.ok.inj, J.ok.has, J.ok.cab, J.ok.hd, J.ok.frames, J.ok.stk, J.ok.exf, J.ok.bs, J.ok.bsz, J.ok.noex, J.ok.exfs, J.ok.funs, J.ok.frf⟩,
    J.os, J.bare, J.base, J.loc, J.cell, J.free, J.freeC, fun p hp => J.pin p (List.mem_append_left _ hp), J.hok, J.len⟩
theorem Inv.suite (I : Inv X pins σ H s) (a : Addr) : Inv (X.suite a) pins σ H s :=
  ⟨⟨I.ok.mod, I.ok.kind, I.ok.glob, I.ok.blt, I.ok.above, I.ok.inj, I.ok.has, I.ok.cab, (fun z => nomatch z), I.ok.frames, I.ok.stk, I.ok.exf, I.ok.bs, I.ok.bsz, I.ok.noex, I.ok.exfs, I.ok.funs, I.ok.frf⟩,
    I.os, I.bare, I.base, I.loc, I.cell, I.free, I.freeC, I.pin, I.hok, I.len⟩
theorem Inv.CB {a : Addr} (ok : X.Ok) (J : Inv (X.suite a) pins σ H s) : Inv X pins σ H s :=
  ⟨ok, J.os, J.bare, J.base, J.loc, J.cell, J.free, J.freeC, J.pin, J.hok, J.len⟩
theorem Inv.blank (I : Inv X pins σ H s) : Inv X pins (blank X.N.length) H s := by
  refine ⟨I.ok, I.os, I.bare, I.base, ?_, I.cell, I.free, I.freeC, I.pin, I.hok, by unfold L2.blank; simp⟩
  obtain ⟨m, hn, _⟩ := I.loc
  exact ⟨m, hn, fun i x v _ e => (rk e).elim⟩
theorem Inv.lost {h' : Heap} {m' : Str → Option Value} {t' : Nat} (I : Inv X pins σ H s) (hn : h'.Ns X.env.locals m') (sb : Heap.SameBut X.env.locals s.heap h') : Inv X pins (L2.blank X.N.length) H { s with heap := h', toks := t' } := by
  have mv : ∀ b o, b ≠ X.env.locals → s.heap.get? b = some o → h'.get? b = some o := fun b o n e => (sb.2 b n).trans e
  refine ⟨I.ok, I.os, I.bare, ⟨fun b o q n hb hx => mv b o (I.iY q) (I.base.keep b o q n hb hx), fun b o q n hb hx => ?_, I.base.free, fun b o q hx => ?_, I.base.tups, I.base.frzs, I.base.tbls⟩,
    ⟨m', hn, fun i x v _ e => (rk e).elim⟩, fun x c e => ?_, I.free, I.freeC, fun p hp => ?_, fun a o e => ?_, by unfold L2.blank; simp⟩
  · obtain ⟨sl, e⟩ := I.base.slot b o q n hb hx
    exact ⟨sl, mv b _ (I.iY q) e⟩
  · obtain ⟨o', e⟩ := I.base.there b o q hx
    exact ⟨o', mv b _ (I.iY q) e⟩
  · obtain ⟨v, o, ho, hd⟩ := I.cell x c e
    exact ⟨v, o, mv c o (I.mS x c e) ho, hd⟩
  · obtain ⟨p1, p2, p3, p4, p5⟩ := I.pin p hp
    exact ⟨mv _ _ p3 p1, p2, p3, p4, p5⟩
  · refine (I.hok a o e).fY (fun b u hb q => mv b u (fun z => ?_) q) (fun _ q => q) fun _ _ q => q
    have fr := I.free
    rw [← z] at fr
    rcases hb with y | y
    · rw [y, e] at fr; cases fr
    · rw [y] at fr; cases fr
theorem Inv.Bk {a : Addr} {o : HO} (I : Inv X pins σ H s) (n0 : H a = none) (n1 : X.s₀.heap.get? a = none) (n2 : a ≠ X.env.locals) (n3 : ∀ x c, X.env.cells.lookup x = some c → c ≠ a) (n4 : ∀ p ∈ X.pn ++ pins, p.1 ≠ a)
    (ob : bA X.prog X.w (upd H a o) s.heap a o) : Inv X pins σ (upd H a o) s := by
  have un : ∀ b u, H b = some u → upd H a o b = some u := fun b u e => by rw [aj (aZ e n0)]; exact e
  refine ⟨I.ok, I.os, I.bare, ⟨I.base.keep, I.base.slot, fun b u q n hx => ?_, I.base.there, fun b xs e => un _ _ (I.base.tups b xs e), fun b u v e => un _ _ (I.base.frzs b u v e), fun b ps e => ?_⟩, I.loc, I.cell, ?_, fun x c e => ?_, fun p hp => ?_, fun b u e => ?_, I.len⟩
  · rw [aj (fun z => by rw [z, n1] at q; cases q)]
    exact I.base.free b u q n hx
  · obtain ⟨more, z⟩ := I.base.tbls b ps e
    exact ⟨more, un _ _ z⟩
  · rw [aj (Ne.symm n2)]
    exact I.free
  · rw [aj (n3 x c e)]
    exact I.freeC x c e
  · obtain ⟨p1, p2, p3⟩ := I.pin p hp
    exact ⟨p1, by rw [aj (n4 p hp)]; exact p2, p3⟩
  · by_cases hb : b = a
    · subst hb
      rw [aG] at e
      cases e
      exact ob
    · rw [aj hb] at e
      exact (I.hok b u e).fY (fun _ _ _ q => q) (fun c q => un _ _ q) fun c xs q => un _ _ q
end
structure i5 (K : Frag) (C0 : Addr) : Prop where
  ty : typeIn K (.ref C0) = some (.type "type")
  be : subIn K (.ref C0) (.type "BaseException") = some true
  it : (clsIn K C0).isSome = true
theorem xa {K : Frag} {C C0 a : Addr} {M : Model} {A : Around} {E : Value → Shared → Prop} {s : Shared} {Q : Bool → Shared → Prop} (X : K.In s.heap) (O : i5 K C0) (e : subIn K (.ref C) (.ref C0) = some true) (x : ExcAt C a s.heap) (q : Q true s) :
    wpAny M A (excMatches (.ref a) (.ref C0)) Q E s := by
  obtain ⟨hh, g, d, t, os⟩ := s
  have L0 := iB (M := M) x
  have L1 := looks_typeIn (M := M) X O.ty
  have L2 := looks_subIn (M := M) X O.be
  have L3 := looks_subIn (M := M) X e
  have L4 : Looks M hh (isSubtype (.type "type") (.type "tuple")) false := Looks.of_pure tc_notTuple
  have L5 : Looks M hh (isType (.ref C0)) true := by
    have z := O.it
    unfold clsIn at z
    split at z
    case h_2 => cases z
    case h_1 ho =>
      intro A Q E s k q
      unfold isType loadHead
      exact wpAny_bind (m := loadPart _ _) (wpAny_loadPart (k _ _ (X _ _ ho)) (wpAny_pure q))
  unfold excMatches
  unfold isInstance isExcClass
  repeat lk
  exact q
noncomputable def FP (K : Frag) (C0 : Addr) (i n : Nat) (th : TS) (D : Ends) : XK := fun cls _ H' => ∃ C, cls = .ref C ∧ subIn K (.ref C) (.ref C0) = some true ∧ ∀ a, H' a = none →
  th { nx := fun _ H2 => D.nx (blank n) H2, rt := D.rt, bk := fun _ H2 => D.bk (blank n) H2, ct := fun _ H2 => D.ct (blank n) H2 } ((blank n).set i (some (.ref a))) (upd H' a (mw C a))
noncomputable def LV (K : Frag) (C0 : Addr) (i n : Nat) (tb : XK → TS) (th : TS) : TS := fun D σ H => tb (FP K C0 i n th D) D σ H
section
variable {X : Cx} {body suite : List Stmt} {x n : Str} {i : Nat} {np rn pos : Pos} {oj : Stmt} {C0 : Addr} {tb : XK → TS} {th : TS}
theorem FQ (hN : X.N.Nodup) (hi : X.N[i]? = some n) (hl : X.env.scope.names.lookup n = some .local) (lR : X.stack = X.env :: X.outer ∧ X.env.frame = some X.env.locals) (hex : X.ex = []) (O : i5 X.K C0) (hg : Gl X x) (hm : X.mg x = some (.ref C0))
    (hb : ∀ (T : Value → Shared → Prop) (pn : List (Addr × Obj)) (E : XK), Passes (bK X.prog X.w) (X.jM T pn) E → eA (X.jM T pn) body (tb E)) (hs : ∀ a : Addr, eA (X.suite a) (oj :: suite) th)
    (cN : (x == ("__debug__" : Str)) = false := by decide) :
    PS X (.Try body [.ExceptHandler (some (.Name x np)) (some n) (oj :: suite) rn] [] [] pos) (LV X.K C0 i X.N.length tb th) := by
  refine ⟨fun pins s σ H D I h => ?_⟩
  refine wpAny_Try_except ?_
  have hp : Passes (bK X.prog X.w) (X.jM (fun e az => wpAny (model X.prog X.w) X.A (noteFrame e X.env) (fun _ mn => wpAny (model X.prog X.w) X.A (setFlight e none) (fun _ gb => wpAny (model X.prog X.w) X.A (handleBy e X.env [.ExceptHandler (some (.Name x np)) (some n) (oj :: suite) rn]) (SP X pins D) X.xe gb) X.xe mn) X.xe az) (X.pn ++ pins)) (FP X.K C0 i X.N.length th D) := by
    intro pins' lQ H1 s1 e s' J1 Nz
    obtain ⟨a, C, t, B, H', rfl, os, gn, fl, c1, c2, un, hok, C', ec, uN, q⟩ := Nz
    cases ec
    have I1 := J1.kI
    have I' := I1.lx (ch := []) os un hok gn (fun b z => absurd z (by simp))
    have fr : X.A.frames = some (X.env :: X.outer) := I.ok.frames.trans (congrArg some lR.1)
    have rg : Heap.FlyingW B (X.env :: X.outer) a (.ref C) (.ref t) s'.heap := lR.1 ▸ fl
    refine wpAny_looks_onW fr lR.2 rg fun h4 held Ke => ?_
    refine wpAny_landsW held fun h5 FR Kf => ?_
    have I5 := I1.w5 I' c1 c2 fl.1 FR.1 (Ke.trans Kf)
    have Y5 := I5.suite a
    have NA : ExcAt C a h5 := let ⟨oe, vs, e1, e2, e3, _⟩ := FR.first; ⟨oe, vs, e1, e2, e3⟩
    refine wpAny_handleBy_cons (codeAny_handlers_test (hZ Y5 hg hm (xa Y5.d7 O uN NA ?_) cN)) (fun z => nomatch z)
    refine codeAny_handlers_suite_as (lands_againW FR fun h6 Kg NB => ?_)
    have I6 := I1.w5 I' c1 c2 fl.1 Kg.1 ((Ke.trans Kf).trans NB)
    have Kh : ExcAt C a h6 := let ⟨oe, vs, e1, e2, e3, _⟩ := Kg.first; ⟨oe, vs, e1, e2, e3⟩
    obtain ⟨oe, vs, e1, e2, e3⟩ := id Kh
    have NC : a ∉ dz X.stack := fun z => by
      obtain ⟨_, o2, q1, q2⟩ := I6.stack.mem z
      rw [e1] at q1
      cases q1
      exact q2 _ e3
    have nb : ∀ o, s1.heap.get? a ≠ some o := fun o z => by
      obtain ⟨o', z'⟩ := c1 a o z NC
      rw [fl.2.1] at z'
      cases z'
    have nH : H' a = none := by
      cases z : H' a with
      | none => rfl
      | some u =>
        obtain ⟨o', z'⟩ := c2 a u z
        rw [fl.2.1] at z'
        cases z'
    have nL : a ≠ X.env.locals := fun z => by
      obtain ⟨m, ⟨o, es, ep, ho, hd, _⟩, _⟩ := I6.loc
      rw [← z, e1] at ho
      cases ho
      rw [e3] at hd
      cases hd
    have I7 : Inv X pins (blank X.N.length) (upd H' a (mw C a)) { s' with heap := h6 } := I6.blank.Bk nH
      (by
        cases z : X.s₀.heap.get? a with
        | none => rfl
        | some o =>
          obtain ⟨o1, q1⟩ := I1.base.there a o z (by rw [hex]; simp)
          exact (nb _ q1).elim)
      nL
      (fun y c ec z => by
        obtain ⟨v, o, ho, hd⟩ := I6.cell y c ec
        rw [z, e1] at ho
        cases ho
        rw [e3] at hd
        cases hd)
      (fun p hp z => by
        have := (I1.pin p hp).1
        rw [z] at this
        exact (nb _ this).elim)
      (CA Kh)
    refine store_ok2 I7 hN hi (.inl hl) (v := .ref a) rfl (fun s8 I8 _ => ?_) (.inr hl)
    refine wpAny_mono ((hs a).run pins s8 _ _ _ (I8.suite a) (q a nH)) (fun f s9 r => ?_) (fun _ _ z => z.elim)
    have fin : ∀ {tV : St} {H9 : Hp}, Inv (X.suite a) pins tV H9 s9 → (∀ tW, Inv X pins (blank X.N.length) H9 tW → SP X pins D f tW) → wpAny (model X.prog X.w) X.A (do bindName X.env n .none; unbindBehindTheSuite X.env n rn) (fun _ LW => SP X pins D f LW) X.xe s9 := fun {tV H9} Y9 k => by
      have I9 := Y9.CB I.ok
      obtain ⟨m, hn, _⟩ := id I9.loc
      exact wpAny_nameGoes hl hn (by rw [I.ok.kind]; rfl) fun h' m' vW sb => k _ (I9.lost vW sb)
    cases f with
    | next => obtain ⟨tV, H9, Y9, z⟩ := r; exact fin Y9 fun tW J => ⟨_, H9, J, z⟩
    | brk => obtain ⟨tV, H9, Y9, z⟩ := r; exact fin Y9 fun tW J => ⟨_, H9, J, z⟩
    | cont => obtain ⟨tV, H9, Y9, z⟩ := r; exact fin Y9 fun tW J => ⟨_, H9, J, z⟩
    | ret u => obtain ⟨v, tV, H9, Y9, rv, z⟩ := r; exact fin Y9 fun tW J => ⟨v, _, H9, J, rv, z⟩
  have dN := hb _ (X.pn ++ pins) _ hp
  refine wpAny_mono (dN.run [] s σ H D (I.jM _) h) (fun f s1 q => ?_) (fun e s1 q => q)
  have q2 : SP X pins D f s1 := by
    cases f with
    | next => obtain ⟨aA, H', J, z⟩ := q; exact ⟨aA, H', J.kI, z⟩
    | brk => obtain ⟨aA, H', J, z⟩ := q; exact ⟨aA, H', J.kI, z⟩
    | cont => obtain ⟨aA, H', J, z⟩ := q; exact ⟨aA, H', J.kI, z⟩
    | ret u => obtain ⟨v, aA, H', J, r, z⟩ := q; exact ⟨v, aA, H', J.kI, r, z⟩
  cases f with
  | next => exact wpAny_pure q2
  | _ => exact q2
end
theorem pj.wR {P : Program} {w : World} {K : PySem.W.Frag} {mg : Str → Option Value} {base : Heap} {x qual : Str} {st : Stmt} {f : Addr} {fd : FuncData} {N ps : List Str} {k : Nat} {sp : Sp} (F : pj K x qual st f fd) (S : aN N ps (ah st)) (len : ∀ vs H Q E, sp vs H Q E → vs.length = ps.length)
    (gY : ∀ (A : Around) (outer : List Env) (s : Shared) (H : Hp) (vs : List V) (Q : VK) (E : XK), bB k (A.deeper (envOfC qual (ah st) s.heap.objs.size f fd.code)) → sp vs H Q E →
      ∃ t, eA (fh (bK P w) P w K mg base N qual (ah st) f fd.code A outer s H E) (bC st) t ∧ t { nx := fun _ H' => Q .ao H', rt := Q } (start N vs) H) : FnOk P w K mg base (bK P w) (k + 1) f fd ps sp := by
  obtain ⟨oc, od, kV, doc, pm, an, bG, ct, fI, rfl, lk, dA⟩ := F.ex
  exact Bg lk dA S len fun A outer s H vs Q E hr gD => gY A outer s H vs Q E hr gD
noncomputable def Ki : List Value := [.type "ValueError", .type "Exception", .type "BaseException", .type "object"]
noncomputable def zK (K : Frag) (C0 C : Addr) : Bool := excIn K C Ki "ValueError.__new__" && (clsIn K C).isSome && findIn K (.ref C) "__getattribute__" == some (some (.builtin "BaseException.__getattribute__")) && findIn K (.ref C) "__getattr__" == some none &&
  findIn K (.ref C) "__class__" == some (some (.builtin "object.__class__")) && mroIn K C (.type "object") == some true && mroIn K C (.type "BaseException") == some true && subIn K (.ref C) (.ref C0) == some true && kitOne K (.ref C) (.type "ValueError") == some true
noncomputable def uO (K : Frag) (C0 : Addr) (cs : List Addr) : Bool := cs.all (zK K C0) && (cs.all fun C => cs.all fun D => kitOne K (.ref C) (.ref D) == some (decide (C = D))) && specialIn K (.builtin "object.__class__") "__get__" == some (some (.builtin "getset_descriptor.__get__")) && takesIn K (.builtin "object.__class__") == some true &&
  typeIn K (.ref C0) == some (.type "type") && subIn K (.ref C0) (.type "BaseException") == some true && (clsIn K C0).isSome
structure om (K : Frag) (C0 : Addr) (cs : List Addr) : Prop where
  ex : ∀ C ∈ cs, excIn K C Ki "ValueError.__new__" = true
  cl : ∀ C ∈ cs, d9 K C
  sub : ∀ C ∈ cs, subIn K (.ref C) (.ref C0) = some true
  one : ∀ C ∈ cs, ∀ D ∈ cs, kitOne K (.ref C) (.ref D) = some (decide (C = D))
  val : ∀ C ∈ cs, kitOne K (.ref C) (.type "ValueError") = some true
  top : i5 K C0
theorem CC {K : Frag} {C0 : Addr} {cs : List Addr} (h : uO K C0 cs = true) : om K C0 cs := by
  unfold uO at h
  simp only [Bool.and_eq_true] at h
  obtain ⟨⟨⟨⟨⟨⟨h1, h2⟩, h3⟩, h4⟩, h5⟩, h6⟩, h7⟩ := h
  have all : ∀ C ∈ cs, zK K C0 C = true := List.all_eq_true.mp h1
  have part : ∀ C ∈ cs, _ := fun C hC => by
    have z := all C hC
    unfold zK at z
    simp only [Bool.and_eq_true] at z
    exact z
  refine ⟨fun C hC => (part C hC).1.1.1.1.1.1.1.1, fun C hC => ?_, fun C hC => beq_iff_eq.mp (part C hC).1.2, fun C hC D hD => beq_iff_eq.mp (List.all_eq_true.mp (List.all_eq_true.mp h2 C hC) D hD), fun C hC => beq_iff_eq.mp (part C hC).2, ⟨beq_iff_eq.mp h5, beq_iff_eq.mp h6, h7⟩⟩
  obtain ⟨⟨⟨⟨⟨⟨⟨⟨_, p1⟩, p2⟩, p3⟩, p4⟩, p5⟩, p6⟩, _⟩, _⟩ := part C hC
  exact ⟨p1, beq_iff_eq.mp p2, beq_iff_eq.mp p3, beq_iff_eq.mp p4, beq_iff_eq.mp h3, beq_iff_eq.mp h4, beq_iff_eq.mp p5, beq_iff_eq.mp p6⟩
section
open PySem.Builtin.Str
theorem lZ {α β : Type} (P : β → Prop) (f : α → β → Id (ForInStep β)) (hf : ∀ a b, P b → ∃ b', f a b = pure (.yield b') ∧ P b') : ∀ (l : List α) (b : β), P b → P (forIn (m := Id) l b f)
  | [], b, h => h
  | a :: l, b, h => by
    obtain ⟨b', e, h'⟩ := hf a b h
    rw [List.forIn_cons, e]
    exact lZ P f hf l b' h'
theorem CD {s sub : Str} {lo hi limit x : Nat} (h : x ∈ occurrences s sub lo hi limit) : subAt s sub x = true ∧ x + sub.length ≤ hi := by
  unfold occurrences at h
  simp only [Std.Legacy.Range.forIn_eq_forIn_range', Id.run] at h
  have z := lZ (P := fun (b : Array Nat × Nat) => ∀ x ∈ b.1.toList, subAt s sub x = true ∧ x + sub.length ≤ hi) (fun (i : Nat) (__s : Array Nat × Nat) => if (decide (__s.fst.size < limit) && decide (__s.snd ≤ i) && decide (i + sub.length ≤ hi) && subAt s sub i) = true then pure (ForInStep.yield (__s.fst.push i, i + sub.length)) else pure (ForInStep.yield (__s.fst, __s.snd))) (fun i b hb => by
    split
    · rename_i hc
      simp only [Bool.and_eq_true, decide_eq_true_eq] at hc
      refine ⟨_, rfl, fun y hy => ?_⟩
      simp only [Array.toList_push, List.mem_append, List.mem_singleton] at hy
      rcases hy with hy | rfl
      · exact hb y hy
      · exact ⟨hc.2, hc.1.2⟩
    · exact ⟨_, rfl, hb⟩) (List.range' lo [lo:hi + 1].size) (#[], lo) (by simp)
  exact z x h
theorem zL {s : Str} {c : Nat} (h : (occurrences s ⟨#[c]⟩ 0 s.length 1).isEmpty = false) : c ∈ s.cps.toList := by
  cases e : occurrences s ⟨#[c]⟩ 0 s.length 1 with
  | nil => rw [e] at h; cases h
  | cons x r =>
    obtain ⟨h1, h2⟩ := CD (x := x) (by rw [e]; exact List.mem_cons_self)
    unfold subAt at h1
    have h3 := beq_iff_eq.mp h1
    have hx : x < s.cps.size := h2
    have : c ∈ (s.cps.extract x (x + (⟨#[c]⟩ : Str).length)).toList := by rw [h3]; simp
    rw [Array.toList_extract] at this
    exact List.mem_of_mem_drop (List.mem_of_mem_take this)
end
end L2
namespace L2
open PySem PySem.Spec PyProof.Rows Builtin.SmallTypes
noncomputable def fw (k : Bool) (h : Heap) (it a : Addr) (i : Nat) : Prop := if k = true then h.IsListIter it a i else h.IsTupleIter it a i
noncomputable def my (k : Bool) (h : Heap) (a : Addr) (items : Array Value) : Prop := if k = true then h.IsList a items else h.IsTuple a items
theorem fw.at {k : Bool} {h h' : Heap} {it a : Addr} {i : Nat} (x : fw k h it a i) (q : ∀ o, h.get? it = some o → h'.get? it = some o) : fw k h' it a i := by
  cases k with
  | true => exact Heap.IsListIter.at (h := h) x q
  | false => exact Heap.IsTupleIter.at (h := h) x q
theorem fw.obj {k : Bool} {h : Heap} {it a : Addr} {i : Nat} (x : fw k h it a i) : ∃ o, h.get? it = some o ∧ ∃ vs, o.data = .fields vs := by
  cases k with
  | true => obtain ⟨o, e, _, d⟩ := (show h.IsListIter it a i from x); exact ⟨o, e, _, d⟩
  | false => obtain ⟨o, e, _, d⟩ := (show h.IsTupleIter it a i from x); exact ⟨o, e, _, d⟩
section
variable {prog : Program} {w : World} {A : Around} {E : Value → Shared → Prop} {s : Shared} {it a : Addr} {i : Nat} {items : Array Value} {x : Value} {k : Bool}
theorem zM {Q : Option Value → Shared → Prop} (hit : s.heap.IsTupleIter it a i) (ha : s.heap.IsTuple a items) (hx : items[i]? = some x)
    (hQ : ∀ h', h'.IsTupleIter it a (i + 1) → Heap.SameBut it s.heap h' → Q (some x) { s with heap := h' }) : wpAny (model prog w) A (callSpecial? (.ref it) "__next__") Q E s := by
  obtain ⟨o, ho, hc, hd⟩ := id hit
  obtain ⟨ol, xc, _, nl, FT⟩ := ha
  have sl := F.slot_tuple_iterator_next
  refine wpAny_callSpecial?_slot (name := Str.ofString "__next__") hit.typeIs sl (wpAny_call_entry sl hit.typeIs F.entry_tuple_iterator_next ?_ (F.args_tuple_iterator_next_1 _))
  have nn : ¬ ((Value.ref a == Value.none) = true) := Bool.false_ne_true
  refine wpAny_bind (m := field (.ref it) 0) (wpAny_field ho hd (x := .ref a) rfl ?_)
  rw [if_neg nn]
  refine wpAny_bind (m := field (.ref it) 1) (wpAny_field ho hd (x := .int i 0) rfl (wpAny_bind (m := seqItems? (.ref a)) (wpAny_seqItems xc FT ?_)))
  simp only [Int.toNat_natCast, hx]
  refine wpAny_bind (m := setField _ _ _) (wpAny_setField ho hd (by simp) (wpAny_pure ⟨x, rfl, hQ _ ?_ (Heap.SameBut.update ..)⟩))
  refine ⟨_, Heap.get?_update_self _ ho (Obj.isFreed_of_fields (Obj.data_mapFields hd _)), (Obj.cls_mapFields ..).trans hc, ?_⟩
  rw [Obj.data_mapFields hd]
  simp [rawInt]
theorem zN {Q : Option Value → Shared → Prop} (hh : A.handled = none) (hit : s.heap.IsTupleIter it a i) (ha : s.heap.IsTuple a items) (hx : items[i]? = none)
    (hE : ∀ h' e, Heap.ExtBut it s.heap h' → (∃ o, h'.get? e = some o ∧ o.cls = .type "StopIteration") → E (.ref e) { s with heap := h' }) : wpAny (model prog w) A (callSpecial? (.ref it) "__next__") Q E s := by
  obtain ⟨o, ho, hc, hd⟩ := id hit
  obtain ⟨ol, xc, _, nl, FT⟩ := ha
  have sl := F.slot_tuple_iterator_next
  refine wpAny_callSpecial?_slot (name := Str.ofString "__next__") hit.typeIs sl (wpAny_call_entry sl hit.typeIs F.entry_tuple_iterator_next ?_ (F.args_tuple_iterator_next_1 _))
  have nn : ¬ ((Value.ref a == Value.none) = true) := Bool.false_ne_true
  refine wpAny_bind (m := field (.ref it) 0) (wpAny_field ho hd (x := .ref a) rfl ?_)
  rw [if_neg nn]
  refine wpAny_bind (m := field (.ref it) 1) (wpAny_field ho hd (x := .int i 0) rfl (wpAny_bind (m := seqItems? (.ref a)) (wpAny_seqItems xc FT ?_)))
  simp only [Int.toNat_natCast, hx]
  refine wpAny_bind (wpAny_rule (wpAny_bind (m := setField _ _ _) (wpAny_setField ho hd (by simp) ?_)))
  refine wpAny_bind (m := newExc (.type "StopIteration") []) ?_
  unfold newExc newTuple
  refine wpAny_bind (wpAny_newObj_type ?_ (by size_fits))
  refine wpAny_bind (m := firstArgMember _ _) (wpAny_of_eq (a := Value.none) (by first | rfl | (simp only [firstArgMember]; rfl)) (wpAny_newObj_type ?_ (by size_fits)))
  refine wpAny_raiseNew_none hh ?_
  exact hE _ _ (((Heap.SameBut.update ..).extBut.push _).push _) ⟨_, Heap.get?_push_size _ rfl, rfl⟩
theorem CF {Q : Value → Shared → Prop} (hit : fw k s.heap it a i) (ha : my k s.heap a items) (hx : items[i]? = some x)
    (hQ : ∀ h', fw k h' it a (i + 1) → Heap.SameBut it s.heap h' → Q x { s with heap := h' }) : wpAny (model prog w) A (nextOf (.ref it)) Q E s := by
  cases k with
  | true => exact wpAny_nextOf_list_item hit ha hx hQ
  | false =>
    unfold nextOf
    exact wpAny_bind (zM hit ha hx fun h' a b => wpAny_pure (hQ h' a b))
theorem CG {Q : Value → Shared → Prop} (hh : A.handled = none) (hit : fw k s.heap it a i) (ha : my k s.heap a items) (hx : items[i]? = none)
    (hE : ∀ h' e, Heap.ExtBut it s.heap h' → (∃ o, h'.get? e = some o ∧ o.cls = .type "StopIteration") → E (.ref e) { s with heap := h' }) : wpAny (model prog w) A (nextOf (.ref it)) Q E s := by
  cases k with
  | true => exact wpAny_nextOf_list_end hh hit ha hx hE
  | false =>
    unfold nextOf
    exact wpAny_bind (zN hh hit ha hx hE)
end
section
variable {prog : Program} {w : World} {A : Around} {E : Value → Shared → Prop} {s : Shared} {e it a : Addr} {i : Nat} {items : Array Value} {x old : Value} {k : Bool}
theorem xf {Q : Value → Shared → Prop} (he : IsEnum s.heap e it i old) (fV : e ≠ it) (hit : fw k s.heap it a i) (ha : my k s.heap a items) (hx : items[i]? = some x)
    (hQ : ∀ h', IsEnumOut h' e it ((i : Int) + 1) x s.heap.objs.size → fw k h' it a (i + 1) → h'.get? s.heap.objs.size = some { cls := .type "tuple", data := .seq #[.int i s.toks, x] } →
      (∀ b o, b ≠ e → b ≠ it → s.heap.get? b = some o → h'.get? b = some o) → Q (.ref s.heap.objs.size) { s with heap := h', toks := s.toks + 1 }) :
    wpAny (model prog w) A (Builtin.«enumerate.__next__» ⟨[.ref e], []⟩) (fun fin s' => ∃ v, fin = .done (.ret v) ∧ Q v s') E s := by
  obtain ⟨hp, g, d, tk, os⟩ := s
  refine wpAny_bind (m := field (.ref e) 2) (wpAny_field he rfl (x := .ref it) rfl (wpAny_bind (m := nextOf (.ref it)) (CF hit ha hx fun h1 FU (FV : Heap.SameBut it hp h1) => ?_)))
  have e1 : IsEnum h1 e it i old := (FV.2 e fV).trans he
  refine wpAny_bind (m := field (.ref e) 3) (wpAny_field e1 rfl (x := rawInt i) rfl (wpAny_bind (m := field (.ref e) 4) (wpAny_field e1 rfl (x := .none) rfl (wpAny_bind (m := mkInt i) (wpAny_mkInt ?_)))))
  refine wpAny_bind (m := setField (.ref e) 3 _) (wpAny_setField_rec e1 (by simp) fun h2 (e2 : IsEnum h2 e it ((i : Int) + 1) old) (tX : Heap.SameBut e h1 h2) => ?_)
  refine wpAny_bind (m := setField (.ref e) 4 .none) (wpAny_setField_rec e2 (by simp) fun h3 (e3 : IsEnum h3 e it ((i : Int) + 1) old) (Kj : Heap.SameBut e h2 h3) => ?_)
  refine wpAny_bind (m := newTuple [.int i tk, x]) (wpAny_newTuple ?_)
  have z3 : h3.objs.size = hp.objs.size := by rw [Kj.1, tX.1, FV.1]
  have el : e < hp.objs.size := Heap.lt_size he
  have e4 : IsEnum (h3.push { cls := .type "tuple", data := .seq #[.int i tk, x] }) e it ((i : Int) + 1) old := Heap.get?_push_of_some _ e3
  have t4 : (h3.push { cls := .type "tuple", data := .seq #[.int i tk, x] }).get? hp.objs.size = some { cls := .type "tuple", data := .seq #[.int i tk, x] } := z3 ▸ Heap.get?_push_size _ rfl
  have up : ∀ b o, b ≠ e → h1.get? b = some o → (h3.push { cls := .type "tuple", data := .seq #[.int i tk, x] }).get? b = some o := fun b o n q => Heap.get?_push_of_some _ (Kj.extBut b o n (tX.extBut b o n q))
  generalize h3.push { cls := .type "tuple", data := .seq #[.int i tk, x] } = h4 at e4 t4 up
  rw [z3]
  refine wpAny_bind (m := ownedTupleIsFree (.ref e)) ?_
  unfold ownedTupleIsFree
  refine wpAny_bind (m := field (.ref e) 0) (wpAny_field e4 rfl (x := .none) rfl (wpAny_pure ?_))
  rw [if_pos rfl]
  refine wpAny_bind (wpAny_rule (wpAny_bind (m := field (.ref e) 5) (wpAny_field e4 rfl (x := old) rfl ?_)))
  refine wpAny_bind (m := setField (.ref e) 5 x) (wpAny_setField_rec e4 (by simp) fun h5 (e5 : IsEnum h5 e it ((i : Int) + 1) x) (ND : Heap.SameBut e h4 h5) => ?_)
  refine wpAny_bind (m := ownedTupleHandOut (.ref e) _) ?_
  unfold ownedTupleHandOut
  refine wpAny_bind (wpAny_setField_rec e5 (by simp) fun h6 (e6 : IsEnumOut h6 e it ((i : Int) + 1) x hp.objs.size) (NF : Heap.SameBut e h5 h6) => ?_)
  refine wpAny_setField_rec e6 (by simp) fun h7 (e7 : IsEnumOut h7 e it ((i : Int) + 1) x hp.objs.size) (NI : Heap.SameBut e h6 h7) => ?_
  have FW : ∀ b o, b ≠ e → h4.get? b = some o → h7.get? b = some o := fun b o n q => NI.extBut b o n (NF.extBut b o n (ND.extBut b o n q))
  refine wpAny_bind (wpAny_letGo (wpAny_pure ⟨_, rfl, hQ h7 e7 (FU.at fun o q => FW it o (Ne.symm fV) (up it o (Ne.symm fV) q)) (FW _ _ (Nat.ne_of_gt el) t4) fun b o n1 n2 q => FW b o n1 (up b o n1 ((FV.2 b n2).trans q))⟩))
theorem xg {Q : Option Value → Shared → Prop} (he : IsEnum s.heap e it i old) (fV : e ≠ it) (hit : fw k s.heap it a i) (ha : my k s.heap a items) (hx : items[i]? = some x)
    (hQ : ∀ h', IsEnumOut h' e it ((i : Int) + 1) x s.heap.objs.size → fw k h' it a (i + 1) → h'.get? s.heap.objs.size = some { cls := .type "tuple", data := .seq #[.int i s.toks, x] } →
      (∀ b o, b ≠ e → b ≠ it → s.heap.get? b = some o → h'.get? b = some o) → Q (some (.ref s.heap.objs.size)) { s with heap := h', toks := s.toks + 1 }) :
    wpAny (model prog w) A (pyNext (.ref e)) Q E s := by
  have hT : s.TypeIs (.ref e) "enumerate" := ⟨_, he, rfl⟩
  have sl := F.slot_enumerate_next
  unfold pyNext
  exact wpAny_bind (wpAny_attempt (wpAny_callSpecial?_slot (name := Str.ofString "__next__") hT sl (wpAny_call_entry sl hT F.entry_enumerate_next (xf he fV hit ha hx fun h' a b c d => wpAny_pure (hQ h' a b c d)) (F.args_enumerate_next_1 _))))
theorem xh {Q : Option Value → Shared → Prop} (hh : A.handled = none) (he : IsEnum s.heap e it i old) (hit : fw k s.heap it a i) (ha : my k s.heap a items) (hx : items[i]? = none)
    (hQ : ∀ h', Heap.ExtBut it s.heap h' → Q none { s with heap := h' }) : wpAny (model prog w) A (pyNext (.ref e)) Q E s := by
  have hT : s.TypeIs (.ref e) "enumerate" := ⟨_, he, rfl⟩
  have sl := F.slot_enumerate_next
  unfold pyNext
  refine wpAny_bind (wpAny_attempt (wpAny_callSpecial?_slot (name := Str.ofString "__next__") hT sl (wpAny_call_entry sl hT F.entry_enumerate_next ?_ (F.args_enumerate_next_1 _))))
  refine wpAny_bind (m := field (.ref e) 2) (wpAny_field he rfl (x := .ref it) rfl (wpAny_bind (m := nextOf (.ref it)) (CG hh hit ha hx fun h' y eb ⟨o, ho, hc⟩ => ?_)))
  exact wpAny_bind (wpAny_isInstance (T := "StopIteration") (b := true) ⟨o, ho, hc⟩ isSubtype_stop (wpAny_pure (hQ _ eb)))
end
end L2
namespace L2
open PySem PySem.Spec PyProof.Rows Builtin.SmallTypes AutoSeq1
theorem rp : bootBuiltins "enumerate" = some (.type "enumerate") := by decide +kernel
section
variable {X : Cx} {pins : List (Addr × Obj)} {σ : St} {H : Hp} {s : Shared} {h' : Heap}
theorem Inv.tY {t' : Nat} {ch : List Addr} (I : Inv X pins σ H s) (k : ∀ b o, b ∉ ch → s.heap.get? b = some o → h'.get? b = some o) (hf : ∀ b ∈ ch, dB X pins H b) : Inv X pins σ H { s with heap := h', toks := t' } := by
  have vV : ∀ b u, H b = some u → b ∉ ch := fun b u e z => by rw [(hf b z).1] at e; cases e
  refine I.step (g' := s.gens) (d' := s.drawn) (ch := ch) (fun b hb => ?_) (fun b o _ _ hc e _ => k b o hc e) (fun b o _ _ hc e _ => ⟨o.slots, k b o hc e⟩) (fun _ _ _ _ n => n)
    (fun b o hc e => ⟨o, k b o hc e⟩) (fun _ _ e => e) (fun _ _ _ e => e) (fun b ps e => ⟨#[], by rw [e]; simp⟩) (fun m hm => ?_) (fun b u e => ?_) I.bare.self
  · obtain ⟨_, f1, f2, f3, f4, f5⟩ := hf b hb
    exact ⟨f3, f1, f4, f5⟩
  · obtain ⟨o, es, ep, ho, r⟩ := hm
    exact ⟨o, es, ep, k _ o (fun z => (hf _ z).2.1 rfl) ho, r⟩
  · refine (I.hok b u e).fY (fun c v hc q => k c v ?_ q) (fun _ q => q) fun _ _ q => q
    rcases hc with z | z
    · rw [z]; exact vV b u e
    · exact vV c _ z
theorem Inv.pair {t : Addr} {a b : V} {u v : Value} {h1 : Heap} {tk tk0 : Nat} (I0 : Inv X pins σ H { s with toks := tk0 }) (ht : s.heap.objs.size ≤ t) (I : Inv X pins σ H { s with heap := h1, toks := tk }) (e : h1.get? t = some { cls := .type "tuple", data := .seq #[u, v] }) (ru : RelV a u) (rv : RelV b v) :
    Inv X pins σ (upd H t (.tup [a, b])) { s with heap := h1, toks := tk } := by
  have f := Inv.jH (H' := H) I0 (b := t) ht (I0.hok.fresh ht)
  refine I.Bk f.1 ?_ f.2.1 f.2.2.2.2.1 f.2.2.2.2.2 ⟨by show 2 ≤ sizeLine; decide, [u, v], .cons ru (.cons rv .nil), ⟨_, e, rfl, _, rfl, rfl⟩⟩
  exact Heap.get?_none_of_le (Nat.le_trans I0.sz ht)
end
noncomputable def Sq (k : Bool) (K : PySem.W.Frag) (H : Hp) (a : Addr) (xs : List V) : Prop := if k = true then bM K H a xs else bN K H a xs
theorem Inv.sq {X : Cx} {pins : List (Addr × Obj)} {σ : St} {H : Hp} {s : Shared} {k : Bool} {a : Addr} {xs : List V} (I : Inv X pins σ H s) (h : Sq k X.K H a xs) : ∃ its : List Value, Vals xs its ∧ my k s.heap a its.toArray := by
  cases k with
  | true => obtain ⟨its, rv, p, _⟩ := I.list (show bM X.K H a xs from h); exact ⟨its, rv, p.isList⟩
  | false => obtain ⟨its, rv, p, _⟩ := I.tuple (show bN X.K H a xs from h); exact ⟨its, rv, p⟩
theorem Inv.FX {X : Cx} {pins : List (Addr × Obj)} {σ : St} {H : Hp} {s : Shared} {k : Bool} {a : Addr} {xs ys : List V} (I : Inv X pins σ H s) (h : Sq k X.K H a xs) (h' : Sq k X.K H a ys) : xs = ys := by
  cases k with
  | true => exact I.qD (show bM X.K H a xs from h) h'
  | false => exact I.oX (show bN X.K H a xs from h) h'
noncomputable def Bm (k : Bool) (K : PySem.W.Frag) (a : Addr) : It :=
  ⟨fun i H => ∃ xs x, Sq k K H a xs ∧ xs[i]? = some x, fun i H v H' => ∃ t x, H t = none ∧ v = .ref t ∧ H' = upd H t (.tup [.int (i : Nat), x]) ∧ ∀ xs, Sq k K H a xs → xs[i]? = some x, fun i H => ∃ xs, Sq k K H a xs ∧ xs.length ≤ i⟩
theorem xi {P : Program} {w : World} {K : PySem.W.Frag} {elts : List Expr} {x1 : Nat} {pos : Pos} (k : Bool) (a it e : Addr) (fV : e ≠ it) :
    Turn P w K (.Tuple elts x1 pos) (Bm k K a) [e, it] e (fun i h => (∃ old, IsEnum h e it i old) ∧ fw k h it a i) where
  mem := by simp
  obj := fun i h st b hb => by
    obtain ⟨⟨old, he⟩, hit⟩ := st
    simp only [List.mem_cons, List.not_mem_nil, or_false] at hb
    rcases hb with rfl | rfl
    · exact ⟨_, he, fun v z => nomatch z⟩
    · obtain ⟨o, ho, vs, hd⟩ := hit.obj
      exact ⟨o, ho, fun v z => by rw [hd] at z; cases z⟩
  keep := fun i h h' st q => by
    obtain ⟨⟨old, he⟩, hit⟩ := st
    exact ⟨⟨old, q e (by simp) _ he⟩, hit.at fun o ho => q it (by simp) o ho⟩
  item := by
    intro X hP hw hK hc i pins s σ H E I hf st hg
    subst hP hw hK
    obtain ⟨⟨old, he⟩, hit⟩ := st
    obtain ⟨xs, x, hq, hx⟩ := hg
    obtain ⟨its, rv, p⟩ := I.sq hq
    obtain ⟨u, hu, ru⟩ := rv.get hx
    refine xg he fV hit p (x := u) (by simpa using hu) fun h1 eo FU t1 kk => ?_
    refine ⟨_, rfl, wpAny_letOwnedTupleGo_enum eo fun h2 e2 (tX : Heap.SameBut e h1 h2) => ?_⟩
    have el : e < s.heap.objs.size := Heap.lt_size he
    have I2 : Inv X pins σ H { s with heap := h2, toks := s.toks + 1 } := I.tY (ch := [e, it]) (fun b o hb q => by
      simp only [List.mem_cons, List.not_mem_nil, or_false, not_or] at hb
      exact (tX.2 b hb.1).trans (kk b o hb.1 hb.2 q)) hf
    have t2 : h2.get? s.heap.objs.size = some { cls := .type "tuple", data := .seq #[.int i s.toks, u] } := (tX.2 _ (Nat.ne_of_gt el)).trans t1
    have hn : H s.heap.objs.size = none := I.hok.fresh (Nat.le_refl _)
    refine ⟨.ref s.heap.objs.size, _, Inv.pair (s := s) (tk0 := s.toks) I (Nat.le_refl _) I2 t2 (a := .int (i : Nat)) ⟨s.toks, rfl⟩ ru, rfl, ⟨_, x, hn, rfl, rfl, fun ys hy => by rw [I.FX hy hq]; exact hx⟩, ⟨⟨u, ?_⟩, FU.at fun o q => (tX.2 it (Ne.symm fV)).trans q⟩, fun b hb => ?_⟩
    · have c : ((i + 1 : Nat) : Int) = (i : Int) + 1 := by push_cast; rfl
      rw [c]
      exact e2
    · have l : b ≠ s.heap.objs.size := by
        simp only [List.mem_cons, List.not_mem_nil, or_false] at hb
        rcases hb with rfl | rfl
        · exact Nat.ne_of_lt el
        · obtain ⟨o, ho, _⟩ := hit.obj
          exact Nat.ne_of_lt (Heap.lt_size ho)
      rw [aj l]
      exact (hf b hb).1
  done := by
    intro X hP hw hK hc i pins s σ H E I hf st hg
    subst hP hw hK
    obtain ⟨⟨old, he⟩, hit⟩ := st
    obtain ⟨xs, hq, hx⟩ := hg
    obtain ⟨its, rv, p⟩ := I.sq hq
    have hl := rv.length
    exact xh (I.ok.hd hc) he hit p (by simp; omega) fun h1 eb => ⟨rfl, I.tY (t' := s.toks) (ch := [it]) (fun b o hb q => eb b o (by simpa using hb) q) fun b hb => hf b (by simp at hb; simp [hb])⟩
  self := fun _ _ _ _ _ st h => wpAny_pyIter_enum st.1.choose_spec h
noncomputable abbrev xj (a : Addr) : Obj := { cls := .type "tuple_iterator", data := .fields #[.ref a, .int 0 0] }
noncomputable abbrev FY (it : Addr) : Obj := { cls := .type "enumerate", data := .fields #[.none, .bool false, .ref it, rawInt 0, .none, .none] }
theorem CH (a : Addr) (items : Array Value) (n : Nat) (dct : Option Addr) (sl : Array (Option Value)) :
    Meets (Builtin.«enumerate.__new__» ⟨[.type "enumerate", .ref a], []⟩) (fun _ R s => s.heap.get? a = some { cls := .type "tuple", dict := dct, data := .seq items n, slots := sl } ∧
      R (.ok (.ret (.ref (s.heap.push (xj a)).objs.size))) { s with heap := (s.heap.push (xj a)).push (FY s.heap.objs.size) }) :=
  .of_wp fun prog w A R s h => by
    obtain ⟨hp, g, d, tk, os⟩ := s
    obtain ⟨hl, h⟩ := h
    have uN := sub_enumerate
    have hT : Heap.IsTuple (Shared.heap ⟨hp, g, d, tk, os⟩) a items := ⟨_, hl, rfl, n, rfl⟩
    wp_walk using wpAny_loadPart' hl
    refine wpAny_stack_any fun st => wpAny_pure ?_
    split
    case h_1 c _ _ _ _ _ => cases (c == Value.type "enumerate") <;> (wp_walk using wpAny_loadPart' hl, wpAny_pyIter_tuple hT; exact ⟨_, rfl, h⟩)
    case h_2 => wp_walk using wpAny_loadPart' hl, wpAny_pyIter_tuple hT; exact ⟨_, rfl, h⟩
section
variable {prog : Program} {w : World} {A : Around} {E : Value → Shared → Prop} {s : Shared}
theorem uP {a : Addr} {items : Array Value} {Q : Value → Shared → Prop} (hT : s.heap.IsTuple a items)
    (h : ∀ h', IsEnum h' (s.heap.objs.size + 1) s.heap.objs.size 0 .none → h'.IsTupleIter s.heap.objs.size a 0 → (∀ b o, s.heap.get? b = some o → h'.get? b = some o) → Q (.ref (s.heap.objs.size + 1)) { s with heap := h' }) :
    wpAny (model prog w) A (call (.type "enumerate") [.ref a]) Q E s := by
  obtain ⟨ob, ho, hc, n, hd⟩ := hT
  obtain ⟨c, dd, dt, sl⟩ := ob
  dsimp only at hc hd
  subst hc hd
  refine callType_new F.called_enumerate (by decide) (F.typeCall_enumerate_1 _) (F.newCall_enumerate_1 _) (fun obj => F.args_object_init_2 obj _) F.entry_enumerate_new (CH a items n dd sl) ⟨ho, ?_⟩
  have z : (s.heap.push (xj a)).objs.size = s.heap.objs.size + 1 := Heap.size_push ..
  have he : ((s.heap.push (xj a)).push (FY s.heap.objs.size)).get? (s.heap.objs.size + 1) = some (FY s.heap.objs.size) := z ▸ Heap.get?_push_size (s.heap.push (xj a)) rfl
  show _ ∧ _
  rw [z]
  exact ⟨⟨_, he, rfl⟩, h _ he ⟨_, Heap.get?_push_of_some _ (Heap.get?_push_size _ rfl), rfl, rfl⟩ fun b o x => Heap.get?_push_of_some _ (Heap.get?_push_of_some _ x)⟩
theorem xk {k : Bool} {a : Addr} {items : Array Value} {Q : Value → Shared → Prop} (hT : my k s.heap a items)
    (h : ∀ h', IsEnum h' (s.heap.objs.size + 1) s.heap.objs.size 0 .none → fw k h' s.heap.objs.size a 0 → (∀ b o, s.heap.get? b = some o → h'.get? b = some o) → Q (.ref (s.heap.objs.size + 1)) { s with heap := h' }) :
    wpAny (model prog w) A (call (.type "enumerate") [.ref a]) Q E s := by
  cases k with
  | true => exact call_enumerate_list hT fun h' a b _ c => h h' a b c
  | false => exact uP hT h
end
section
variable {X : Cx} {l : Expr} {tl : TE} {elts : List Expr} {x1 : Nat} {tp p pos : Pos}
noncomputable def II (k : Bool) (K : PySem.W.Frag) (tl : TE) : TI := fun σ H R => tl σ H fun x H1 => ∃ a, x = .ref a ∧ (∃ xs, Sq k K H1 a xs) ∧ R (Bm k K a) H1
theorem CI (k : Bool) {K : PySem.W.Frag} (hK : X.K = K) (hg : Gl X "enumerate") (hm : X.mg "enumerate" = none) (hl : PE X l tl) (hs : starEach [l] X.env = [(false, eval l X.env)] := by rfl) :
    PI X (.Tuple elts x1 tp) (.Call (.Name "enumerate" p) [l] [] pos) (II k K tl) := by
  subst hK
  intro pins s σ H R I h
  refine wpAny_Call_Name_kw (fH I hg hm rp ?_)
  refine PyProof.Rows.callWith_type1 ?_ hs rfl
  rw [hs]
  refine Calls.spliced_cons (thn (hl pins s σ H _ I h) fun v s1 ⟨x, H1, I1, r1, q1⟩ => Calls.spliced_nil ?_)
  obtain ⟨a, rfl, ⟨xs, hq⟩, q⟩ := q1
  cases (show v = Value.ref a from r1)
  obtain ⟨its, rv, sq⟩ := I1.sq hq
  refine xk sq fun h' he hit kk => ?_
  refine wpAny_pyIter_enum he ?_
  have I2 : Inv X pins σ H1 { s1 with heap := h' } := I1.kept (t' := s1.toks) kk
  have ne : s1.heap.objs.size + 1 ≠ s1.heap.objs.size := Nat.ne_of_gt (Nat.lt_succ_self _)
  refine ⟨_, [s1.heap.objs.size + 1, s1.heap.objs.size], _, Bm k X.K a, H1, rfl, I2, xi k a _ _ ne, ⟨⟨_, he⟩, hit⟩, fun b hb => ?_, q⟩
  simp only [List.mem_cons, List.not_mem_nil, or_false] at hb
  rcases hb with rfl | rfl
  · exact I1.jH (Nat.le_succ _) (I1.hok.fresh (Nat.le_succ _))
  · exact I1.jH (Nat.le_refl _) (I1.hok.fresh (Nat.le_refl _))
end
noncomputable def Bn (J : It) (ys : List (V × V)) (H : Hp) : Prop := ∀ i, (i < ys.length → J.go i H ∧ ∀ x H', J.yld i H x H' → ∃ t p, H t = none ∧ x = .ref t ∧ ys[i]? = some p ∧ H' = upd H t (.tup [p.1, p.2])) ∧ (ys.length ≤ i → J.stop i H)
theorem pC {k : Bool} {K : PySem.W.Frag} {a : Addr} {ys : List V} {H : Hp} (h : Sq k K H a ys) : Bn (Bm k K a) ((List.range ys.length).map fun i => (V.int (i : Nat), ys.getD i .ao)) H := fun i => by
  have el : ((List.range ys.length).map fun i => (V.int (i : Nat), ys.getD i .ao)).length = ys.length := by simp
  rw [el]
  refine ⟨fun hi => ⟨⟨ys, ys[i], h, List.getElem?_eq_getElem hi⟩, fun x H' ⟨t, y, n, e1, e2, e3⟩ => ⟨t, (.int (i : Nat), y), n, e1, ?_, e2⟩⟩, fun hi => ⟨ys, h, hi⟩⟩
  rw [List.getElem?_map, List.getElem?_range hi]
  have := e3 ys h
  show some (V.int (i : Nat), ys.getD i .ao) = _
  rw [List.getD_eq_getElem?_getD, this]
  rfl
end L2
namespace L2
open PySem PySem.Spec PyProof.Rows AutoSeq1
theorem zO (l b : Addr) (items FZ : Array Value) (n n2 : Nat) (dd tN : Option Addr) (sl o9 : Array (Option Value)) (h0 : items.isEmpty = true) :
    Meets (Builtin.«tuple.__add__» ⟨[.ref l, .ref b], []⟩) (fun _ R s => s.heap.get? l = some { cls := .type "tuple", dict := dd, data := .seq items n, slots := sl } ∧ s.heap.get? b = some { cls := .type "tuple", dict := tN, data := .seq FZ n2, slots := o9 } ∧ R (.ok (.ret (.ref b))) s) :=
  .of_wp fun prog w A R s h => by
    obtain ⟨hp, g, d, tk, os⟩ := s
    obtain ⟨hl, hb, h⟩ := h
    have f2 := AutoSeq1.sub_tuple_tuple
    wp_walk using wpAny_loadPart' hl, wpAny_loadPart' hb
    exact ⟨_, rfl, h⟩
section
variable {X : Cx}
noncomputable def IJ (K : PySem.W.Frag) : R2 := fun x y H Q => ∃ a b xs ys, x = .ref a ∧ y = .ref b ∧ bN K H a xs ∧ bN K H b ys ∧ xs.length + ys.length ≤ sizeLine ∧ (xs = [] → Q (.ref b) H) ∧ (xs ≠ [] → ys = [] → Q (.ref a) H) ∧ (xs ≠ [] → ys ≠ [] → ∀ p, H p = none → Q (.ref p) (upd H p (.tup (xs ++ ys))))
theorem CJ {K : PySem.W.Frag} (hK : X.K = K) : OpR X (binaryOp .Add) (IJ K) := by
  subst hK
  intro pins s σ H x y v u Q I rx ry h
  obtain ⟨a, b, xs, ys, rfl, rfl, ha, hb, hz, q0, q1, q2⟩ := h
  by_cases hx : xs = []
  · cases rx
    cases ry
    obtain ⟨its, r1, p1, _⟩ := I.tuple ha
    obtain ⟨bL, r2, p2, _⟩ := I.tuple hb
    obtain ⟨⟨cls, dd, data, sl⟩, ho, hc, n, hd⟩ := id p1
    obtain ⟨⟨Lv, tN, data2, o9⟩, m4, wB, n2, hd2⟩ := id p2
    dsimp only at hc hd wB hd2
    subst hc hd wB hd2
    exact concat_meets ⟨_, ho, rfl⟩ ⟨_, m4, rfl⟩ noFill_tuple_add seq_tuple_add PySem.F.slot_tuple_add PySem.F.entry_tuple_add (PySem.F.args_tuple_add_2 _ _) (zO a b its.toArray bL.toArray n n2 dd tN sl o9 (by simp [r1.jv.mpr hx])) ⟨ho, m4, ⟨.ref b, H, I, rfl, q0 hx⟩⟩
  · exact Cm pins s σ H _ _ v u Q I rx ry ⟨a, b, xs, ys, rfl, rfl, ha, hb, hx, hz, q1 hx, q2 hx⟩
theorem sE {prog : Program} {w : World} {A : Around} {E : Value → Shared → Prop} {s : Shared} {t sl : Addr} {items : Array Value} {vl vu : Value} {lo hi : Option Int} {Q : Value → Shared → Prop} (ht : IsTup s.heap t items) (hs : s.heap.IsSliceOf sl vl vu .none) (pl : IsPart vl lo) (pu : IsPart vu hi)
    (hw : HT.aT items.size 0 lo = 0 ∧ HT.aT items.size items.size hi = items.size) (h : Q (.ref t) s) : wpAny (model prog w) A (getItem (.ref t) (.ref sl)) Q E s := by
  obtain ⟨os, fJ, j4, iX⟩ := id hs
  have E4 : s.TypeIs (.ref sl) "slice" := ⟨os, fJ, j4⟩
  have NK : s.TypeIs (.ref t) "tuple" := ht.typeIs
  unfold getItem
  refine wpAny_holding ?_
  first | refine wpAny_bind (wpAny_pure ?_) | skip
  refine wpAny_bind (wpAny_sequenceKey ht.typeIs (by decide) ?_)
  have sg := PyProof.Rows.slot_tuple_getitem
  refine wpAny_bind (wpAny_callSpecial?_slot (name := Str.ofString "__getitem__") ht.typeIs sg (wpAny_call_entry sg ht.typeIs entry_tuple_getitem ?_ (args_tuple_getitem _ _)))
  refine wpAny_bind (m := Builtin.Tuple.tupleItemsOf (.ref t)) (tupleItemsOf_ ht (wpAny_bind (wpAny_typeOf E4 ?_)))
  rw [if_pos (by decide)]
  refine wpAny_bind (HT.ir hs pl pu ?_)
  rw [hw.1, hw.2]
  show wpAny _ _ (if (((0 : Nat) : Int) == 0 && (1 : Int) == 1 && (items.size - 0) == items.size) = true then _ else _) _ _ s
  rw [if_pos (by simp)]
  refine wpAny_bind (m := Builtin.Tuple.tupleIsExact (.ref t)) ?_
  unfold Builtin.Tuple.tupleIsExact
  refine wpAny_bind (wpAny_typeOf NK (wpAny_pure ?_))
  rw [if_pos (by decide)]
  exact wpAny_bind (wpAny_rule (wpAny_pure ⟨_, rfl, wpAny_pure h⟩))
noncomputable def LX (K : PySem.W.Frag) : V → Option Int → Option Int → Hp → VK → Prop := fun x lo hi H Q => ∃ a xs, x = .ref a ∧ bN K H a xs ∧
  ((HT.aT xs.length 0 lo = 0 ∧ HT.aT xs.length xs.length hi = xs.length) → Q (.ref a) H) ∧ (¬ (HT.aT xs.length 0 lo = 0 ∧ HT.aT xs.length xs.length hi = xs.length) → ∀ p, H p = none → Q (.ref p) (upd H p (.tup (gP xs lo hi))))
theorem CK {K : PySem.W.Frag} (hK : X.K = K) : tP X (LX K) := by
  subst hK
  intro pins s σ H x v vl vu lo hi sl Q I rx hs pl pu h
  obtain ⟨a, xs, rfl, hx, q1, q2⟩ := h
  by_cases hw : HT.aT xs.length 0 lo = 0 ∧ HT.aT xs.length xs.length hi = xs.length
  · cases rx
    obtain ⟨its, r, ht, hz⟩ := I.tuple hx
    have hlen : its.toArray.size = xs.length := by rw [List.size_toArray]; exact r.length.symm
    exact ⟨"tuple", _, PyProof.Rows.slot_tuple_getitem.lookup, ht.typeIs, sE ht hs pl pu (by rw [hlen]; exact hw) ⟨.ref a, H, I, rfl, q1 hw⟩⟩
  · exact E6 pins s σ H _ v vl vu lo hi sl Q I rx hs pl pu ⟨a, xs, rfl, hx, hw, q2 hw⟩
theorem uQ {xs : List V} {lo hi : Option Int} (h : HT.aT xs.length 0 lo = 0 ∧ HT.aT xs.length xs.length hi = xs.length) : gP xs lo hi = xs := by
  unfold gP
  rw [h.1, h.2, List.drop_zero, Nat.sub_zero, List.take_length]
end
end L2
namespace L2
open PySem PySem.Spec PyProof.Rows
structure M1 (X : Cx) (o : Expr) (m : Str) (apos : Pos) (e : Expr) (bq : Pos) : Prop where
  base : attributeBase o m X.env (eval o X.env) = eval o X.env
  few : ((backTo bq (starEach [e] X.env)).all (fun x => !x.1) && (backToKw bq (keywordEach [] X.env)).all (fun x => x.1.isSome)
    && decide (([e] : List Expr).length + ([] : List Keyword).length + (if ([] : List Keyword).isEmpty then 0 else 1) < 30)) = true
  line : (apos.endLine == bq.line) = true
  trees : backTo bq (starEach [e] X.env) = [(false, eval e X.env)]
structure M2 (X : Cx) (o : Expr) (m : Str) (apos : Pos) (e f : Expr) (bq : Pos) : Prop where
  base : attributeBase o m X.env (eval o X.env) = eval o X.env
  few : ((backTo bq (starEach [e, f] X.env)).all (fun x => !x.1) && (backToKw bq (keywordEach [] X.env)).all (fun x => x.1.isSome)
    && decide (([e, f] : List Expr).length + ([] : List Keyword).length + (if ([] : List Keyword).isEmpty then 0 else 1) < 30)) = true
  line : (apos.endLine == bq.line) = true
  trees : backTo bq (starEach [e, f] X.env) = [(false, eval e X.env), (false, eval f X.env)]
inductive Dv where
  | int (i : Int) | bl (b : Bool) | ao | str (z : Str) | tup (xs : List Dv) | lst (xs : List Dv) | set (ns : List Int) | ptr (a : Addr) | exc (C : Addr) | bt (ns : List Int) | raw (v : V) | dk (ks : List Key) (ds : List Dv) | dt (ks : List (List Key)) (ds : List Dv) | bS (f : Addr) (o : Obj) (c : Addr) (oc : Obj) (vs : List V) (ds : List Dv)
inductive Mo where
  | lst (xs : List Dv) | cO | dk (ks : List Key) (ds : List Dv) | dt (ks : List (List Key)) (ds : List Dv)
noncomputable abbrev Mh := Addr → Option Mo
structure b0 where
  g : List Addr
  l : List (Addr × Str)
instance : Membership Addr b0 := ⟨fun t a => a ∈ t.g⟩
noncomputable def Bo : HO → Bool
  | .cg _ => true
  | .lam _ => true
  | .dK _ => true
  | .dT _ => true
  | _ => false
noncomputable def xl : HO → Bool
  | .cg _ => false
  | _ => true
noncomputable def zP : HO → Bool
  | .dK _ => true
  | .dT _ => true
  | _ => false
theorem Rd.map {H H' : Hp} {a : Addr} {u : HO} (e : Rd H a u) (k : ∀ x, H a = some x → H' a = some x) : Rd H' a u := e.imp (k _) fun ⟨o, h⟩ => ⟨o, k _ h⟩
theorem Rd.F0 {H H' : Hp} {a : Addr} {u : HO} (e : Rd H a u) (hu : zP u = true) (k : ∀ x, xl x = true → H a = some x → H' a = some x) : Rd H' a u := e.imp (k _ (by cases u <;> first | rfl | cases hu)) fun ⟨o, h⟩ => ⟨o, k _ rfl h⟩
theorem Rd.there {H : Hp} {a : Addr} {u : HO} (e : Rd H a u) : ∃ x, H a = some x := e.elim (fun h => ⟨_, h⟩) fun ⟨o, h⟩ => ⟨_, h⟩
noncomputable def Tg (o o' : HO) : Prop := (∃ ps fN : Array Value, o = .cg ps ∧ o' = .cg fN ∧ TriplesOk fN.toList) ∨ (∃ ps fN : Array Value, o = .lam ps ∧ o' = .lam fN) ∨ (zP o = true ∧ ∃ ob, o' = .cM ob o)
theorem Tg.trans {a b c : HO} (x : Tg a b) (y : Tg b c) : Tg a c := by
  rcases x with ⟨p, q, rfl, rfl, t⟩ | ⟨p, q, rfl, rfl⟩ | ⟨hd, ob, rfl⟩
  · rcases y with ⟨p2, q2, e, rfl, t2⟩ | ⟨p2, q2, e, _⟩ | ⟨e, _⟩
    · exact .inl ⟨p, q2, rfl, rfl, t2⟩
    · cases e
    · cases e
  · rcases y with ⟨p2, q2, e, _⟩ | ⟨p2, q2, e, rfl⟩ | ⟨e, _⟩
    · cases e
    · exact .inr (.inl ⟨p, q2, rfl, rfl⟩)
    · cases e
  · rcases y with ⟨p2, q2, e, _⟩ | ⟨p2, q2, e, _⟩ | ⟨e, _⟩ <;> cases e
theorem Tg.tab {a b : HO} (x : Tg a b) : Bo a = true := by
  rcases x with ⟨p, q, rfl, rfl, _⟩ | ⟨p, q, rfl, rfl⟩ | ⟨hd, ob, rfl⟩
  · rfl
  · rfl
  · cases a <;> first | rfl | cases hd
noncomputable def LY (H : Hp) (q : Str) (cv : Value) : Prop := ∃ (c : Addr) (oc : Obj) (u : HO) (vs : Array Value) (t : Tok), cv = Value.ref c ∧ H c = some (.cM oc u) ∧ oc.data = .fields vs ∧ vs[1]? = some (Value.str q t)
noncomputable def Lm (H : Hp) (p : Addr × Str) : Prop := ∃ ps : Array Value, H p.1 = some (.lam ps) ∧ TriplesOk ps.toList ∧ ∀ pos cv, codeAmong pos ps.toList = some cv → LY H p.2 cv
theorem Lm.keep {H H' : Hp} {p : Addr × Str} (h : Lm H p) (k1 : ∀ ps, H p.1 = some (.lam ps) → H' p.1 = some (.lam ps)) (k2 : ∀ c oc u, H c = some (.cM oc u) → H' c = some (.cM oc u)) : Lm H' p := by
  obtain ⟨ps, e, t, c⟩ := h
  refine ⟨ps, k1 _ e, t, fun pos cv q => ?_⟩
  obtain ⟨a, oc, u, vs, tk, e1, e2, r⟩ := c pos cv q
  exact ⟨a, oc, u, vs, tk, e1, k2 _ _ _ e2, r⟩
structure Bz where
  P : Program
  w : World
  K : PySem.W.Frag
  tb : b0
  hid : List Addr
noncomputable def Fz (β : Bz) (M : Mh) (a : Addr) : Prop := M a = none ∧ a ∉ β.hid
noncomputable def Kl (K : PySem.W.Frag) (a : Addr) (ns : List Int) : Prop := ∃ (o : Obj) (its : Array Value) (n : Nat), K.lookup a = some o ∧ o.cls = .type "list" ∧ o.dict = none ∧ o.data = .seq its n ∧ its.size ≤ sizeLine ∧ Vals (ns.map V.int) its.toList
inductive Rz (β : Bz) (M : Mh) (H : Hp) : V → Dv → Prop where
  | int (i : Int) : Rz β M H (.int i) (.int i)
  | bl (b : Bool) : Rz β M H (.bl b) (.bl b)
  | ao : Rz β M H .ao .ao
  | str (z : Str) : Rz β M H (.str z) (.str z)
  | tup {a : Addr} {vs : List V} {ds : List Dv} (m : Fz β M a) (e : H a = some (.tup vs)) (hl : vs.length = ds.length) (h : ∀ (i : Nat) (v : V) (d : Dv), vs[i]? = some v → ds[i]? = some d → Rz β M H v d) : Rz β M H (.ref a) (.tup ds)
  | lst {a : Addr} {vs : List V} {ds : List Dv} (m : Fz β M a) (e : H a = some (.lst vs)) (hl : vs.length = ds.length) (h : ∀ (i : Nat) (v : V) (d : Dv), vs[i]? = some v → ds[i]? = some d → Rz β M H v d) : Rz β M H (.ref a) (.lst ds)
  | set {a : Addr} {ns : List Int} (m : Fz β M a) (e : H a = some (LQ β.P β.w a ns)) : Rz β M H (.ref a) (.set ns)
  | ptr {a : Addr} (m : (M a).isSome = true) : Rz β M H (.ref a) (.ptr a)
  | exc {a C : Addr} (m : Fz β M a) (e : H a = some (mw C a)) : Rz β M H (.ref a) (.exc C)
  | bt {a : Addr} {o : Obj} {ns : List Int} (m : Fz β M a) (e : H a = some (.cM o (.lst (ns.map V.int)))) : Rz β M H (.ref a) (.bt ns)
  | cA {a : Addr} {ns : List Int} (m : Fz β M a) (e : H a = some (.lst (ns.map V.int))) : Rz β M H (.ref a) (.bt ns)
  | cB {a : Addr} {ns : List Int} (e : Kl β.K a ns) : Rz β M H (.ref a) (.bt ns)
  | raw (v : V) : Rz β M H v (.raw v)
  | dk {a : Addr} {ks : List Key} {vs : List V} {ds : List Dv} (m : Fz β M a) (e : Rd H a (.dK (ks.zip vs))) (hk : ks.length = vs.length) (hl : vs.length = ds.length) (h : ∀ (i : Nat) (v : V) (d : Dv), vs[i]? = some v → ds[i]? = some d → Rz β M H v d) : Rz β M H (.ref a) (.dk ks ds)
  | dt {a : Addr} {ks : List (List Key)} {vs : List V} {ds : List Dv} (m : Fz β M a) (e : Rd H a (.dT (ks.zip vs))) (hk : ks.length = vs.length) (hl : vs.length = ds.length) (h : ∀ (i : Nat) (v : V) (d : Dv), vs[i]? = some v → ds[i]? = some d → Rz β M H v d) : Rz β M H (.ref a) (.dt ks ds)
  | bS {f c : Addr} {o oc : Obj} {u uc : HO} {vs : List V} {ds : List Dv} (m : Fz β M f) (e : H f = some (.cM o u)) (m2 : Fz β M c) (e2 : H c = some (.cM oc uc)) (hl : vs.length = ds.length) (h : ∀ (i : Nat) (v : V) (d : Dv), vs[i]? = some v → ds[i]? = some d → Rz β M H v d) : Rz β M H (.ref f) (.bS f o c oc vs ds)
structure aM (β : Bz) (M : Mh) (H : Hp) (vs : List V) (ds : List Dv) : Prop where
  len : vs.length = ds.length
  at' : ∀ (i : Nat) (v : V) (d : Dv), vs[i]? = some v → ds[i]? = some d → Rz β M H v d
noncomputable def gV (β : Bz) (M : Mh) (H : Hp) (a : Addr) : Mo → Prop
  | .lst ds => ∃ vs, H a = some (.lst vs) ∧ aM β M H vs ds
  | .cO => IG H a
  | .dk ks ds => ∃ vs, H a = some (.dK (ks.zip vs)) ∧ ks.length = vs.length ∧ aM β M H vs ds
  | .dt ks ds => ∃ vs, H a = some (.dT (ks.zip vs)) ∧ ks.length = vs.length ∧ aM β M H vs ds
noncomputable def mB : HO → Bool
  | .lst _ => true
  | .set _ _ => true
  | .dK _ => true
  | .dT _ => true
  | .ext _ => true
  | .cg _ => true
  | _ => false
noncomputable def uR (H : Hp) (a : Addr) : Prop := ∃ o, H a = some o ∧ mB o = true
theorem uR.upd {H : Hp} {a p : Addr} {o : HO} (h : uR H a) (d : H p = none ∨ mB o = true) : uR (upd H p o) a := by
  obtain ⟨u, e, n⟩ := h
  by_cases z : a = p
  · subst z
    rcases d with d | d
    · rw [e] at d; cases d
    · exact ⟨o, aG, d⟩
  · exact ⟨u, by rw [aj z]; exact e, n⟩
structure Mz (β : Bz) (M : Mh) (H : Hp) : Prop where
  obj : ∀ a o, M a = some o → gV β M H a o
  tabs : Bj β.tb.g H
  hids : ∀ a ∈ β.hid, uR H a
  apart : ∀ a o, M a = some o → a ∉ β.hid
  lams : ∀ p ∈ β.tb.l, Lm H p
structure Ey (M : Mh) (H : Hp) (M' : Mh) (H' : Hp) : Prop where
  keep : ∀ b o, M b = none → H b = some o → H' b = some o ∨ ∃ o', Tg o o' ∧ H' b = some o'
  dom : ∀ a, (M a).isSome = true → (M' a).isSome = true
  new : ∀ a o, M a = none → H a = some o → M' a = none
structure Ex (β : Bz) (M : Mh) (H : Hp) (M' : Mh) (H' : Hp) : Prop extends Ey M H M' H' where
  mz : Mz β M' H'
section
variable {β : Bz} {M M1 M2 : Mh} {H H1 H2 : Hp}
theorem Ey.refl : Ey M H M H := ⟨fun _ _ _ h => .inl h, fun _ h => h, fun _ _ h _ => h⟩
theorem Ex.refl (m : Mz β M H) : Ex β M H M H := ⟨.refl, m⟩
theorem Ey.trans (x : Ey M H M1 H1) (y : Ey M1 H1 M2 H2) : Ey M H M2 H2 := by
  refine ⟨fun b o hm h => ?_, fun a h => y.dom a (x.dom a h), fun a o hm h => ?_⟩
  · have kJ := x.new b o hm h
    rcases x.keep b o hm h with q | ⟨o1, t, q⟩
    · exact y.keep b o kJ q
    · rcases y.keep b _ kJ q with q2 | ⟨o2, t2, q2⟩
      · exact .inr ⟨o1, t, q2⟩
      · exact .inr ⟨o2, t.trans t2, q2⟩
  · have kJ := x.new a o hm h
    rcases x.keep a o hm h with q | ⟨o1, t, q⟩
    · exact y.new a _ kJ q
    · exact y.new a _ kJ q
theorem Ex.trans (x : Ex β M H M1 H1) (y : Ex β M1 H1 M2 H2) : Ex β M H M2 H2 := ⟨x.toEy.trans y.toEy, y.mz⟩
theorem Ey.get (x : Ey M H M1 H1) {b : Addr} {o : HO} (m : M b = none) (h : H b = some o) (n : Bo o = false) : H1 b = some o := by
  rcases x.keep b o m h with q | ⟨o', e, _⟩
  · exact q
  · rw [e.tab] at n; cases n
theorem Ey.rd (x : Ey M H M1 H1) {b : Addr} {u : HO} (m : M b = none) (h : Rd H b u) (hu : zP u = true) : Rd H1 b u := by
  rcases h with h | ⟨o, h⟩
  · rcases x.keep b u m h with q | ⟨o', t, q⟩
    · exact .inl q
    · rcases t with ⟨_, _, rfl, _⟩ | ⟨_, _, rfl, _⟩ | ⟨_, ob, rfl⟩
      · cases hu
      · cases hu
      · exact .inr ⟨ob, q⟩
  · exact .inr ⟨o, x.get m h rfl⟩
theorem Ey.gone (x : Ey M H M1 H1) {b : Addr} (h : H1 b = none) : M b = none → H b = none := fun m => by
  cases e : H b with
  | none => rfl
  | some o =>
    rcases x.keep b o m e with q | ⟨_, _, q⟩ <;> (rw [h] at q; cases q)
theorem Rz.ey (x : Ey M H M1 H1) {v : V} {d : Dv} (h : Rz β M H v d) : Rz β M1 H1 v d := by
  induction h with
  | int i => exact .int i
  | bl b => exact .bl b
  | ao => exact .ao
  | str z => exact .str z
  | tup m e hl h ih => exact .tup ⟨x.new _ _ m.1 e, m.2⟩ (x.get m.1 e rfl) hl ih
  | lst m e hl h ih => exact .lst ⟨x.new _ _ m.1 e, m.2⟩ (x.get m.1 e rfl) hl ih
  | dk m e hk hl h ih => exact .dk ⟨x.new _ _ m.1 e.there.choose_spec, m.2⟩ (x.rd m.1 e rfl) hk hl ih
  | dt m e hk hl h ih => exact .dt ⟨x.new _ _ m.1 e.there.choose_spec, m.2⟩ (x.rd m.1 e rfl) hk hl ih
  | bS m e m2 e2 hl h ih => exact .bS ⟨x.new _ _ m.1 e, m.2⟩ (x.get m.1 e rfl) ⟨x.new _ _ m2.1 e2, m2.2⟩ (x.get m2.1 e2 rfl) hl ih
  | set m e => exact .set ⟨x.new _ _ m.1 e, m.2⟩ (x.get m.1 e rfl)
  | ptr m => exact .ptr (x.dom _ m)
  | exc m e => exact .exc ⟨x.new _ _ m.1 e, m.2⟩ (x.get m.1 e rfl)
  | bt m e => exact .bt ⟨x.new _ _ m.1 e, m.2⟩ (x.get m.1 e rfl)
  | cA m e => exact .cA ⟨x.new _ _ m.1 e, m.2⟩ (x.get m.1 e rfl)
  | cB e => exact .cB e
  | raw v => exact .raw v
theorem Rz.ex (x : Ex β M H M1 H1) {v : V} {d : Dv} (h : Rz β M H v d) : Rz β M1 H1 v d := h.ey x.toEy
theorem aM.ex (x : Ex β M H M1 H1) {vs : List V} {ds : List Dv} (h : aM β M H vs ds) : aM β M1 H1 vs ds := ⟨h.len, fun i v d a b => (h.at' i v d a b).ex x⟩
theorem aM.nil : aM β M H [] [] := ⟨rfl, fun i v d h => by simp at h⟩
theorem aM.cons {v : V} {d : Dv} {vs : List V} {ds : List Dv} (h : Rz β M H v d) (t : aM β M H vs ds) : aM β M H (v :: vs) (d :: ds) := ⟨by simp [t.len], fun i x y a b => by
  cases i with
  | zero => simp at a b; subst a b; exact h
  | succ i => rw [List.getElem?_cons_succ] at a b; exact t.at' i x y a b⟩
theorem aM.head {v : V} {d : Dv} {vs : List V} {ds : List Dv} (h : aM β M H (v :: vs) (d :: ds)) : Rz β M H v d := h.at' 0 v d rfl rfl
theorem aM.tail {v : V} {d : Dv} {vs : List V} {ds : List Dv} (h : aM β M H (v :: vs) (d :: ds)) : aM β M H vs ds := ⟨by simpa using h.len, fun i x y a b => h.at' (i + 1) x y (by rw [List.getElem?_cons_succ]; exact a) (by rw [List.getElem?_cons_succ]; exact b)⟩
theorem aM.append {vs xm : List V} {ds fF : List Dv} (h : aM β M H vs ds) (t : aM β M H xm fF) : aM β M H (vs ++ xm) (ds ++ fF) := ⟨by simp [h.len, t.len], fun i x y a b => by
  rw [List.getElem?_append] at a b
  rw [h.len] at a
  split at b
  · rename_i z
    rw [if_pos z] at a
    exact h.at' i x y a b
  · rename_i z
    rw [if_neg z] at a
    exact t.at' _ x y a b⟩
theorem aM.snoc {v : V} {d : Dv} {vs : List V} {ds : List Dv} (t : aM β M H vs ds) (h : Rz β M H v d) : aM β M H (vs ++ [v]) (ds ++ [d]) := t.append (.cons h .nil)
theorem aM.get {vs : List V} {ds : List Dv} (h : aM β M H vs ds) {i : Nat} {d : Dv} (e : ds[i]? = some d) : ∃ v, vs[i]? = some v ∧ Rz β M H v d := by
  have hi := (List.getElem?_eq_some_iff.mp e).1
  have jz : i < vs.length := by rw [h.len]; exact hi
  exact ⟨vs[i], List.getElem?_eq_getElem jz, h.at' i _ _ (List.getElem?_eq_getElem jz) e⟩
theorem aM.get' {vs : List V} {ds : List Dv} (h : aM β M H vs ds) {i : Nat} {v : V} (e : vs[i]? = some v) : ∃ d, ds[i]? = some d ∧ Rz β M H v d := by
  have hi := (List.getElem?_eq_some_iff.mp e).1
  have jz : i < ds.length := by rw [← h.len]; exact hi
  exact ⟨ds[i], List.getElem?_eq_getElem jz, h.at' i _ _ e (List.getElem?_eq_getElem jz)⟩
theorem aM.take {vs : List V} {ds : List Dv} (h : aM β M H vs ds) (n : Nat) : aM β M H (vs.take n) (ds.take n) := ⟨by simp [h.len], fun i x y a b => by
  rw [List.getElem?_take] at a b
  split at a
  · rename_i z; rw [if_pos z] at b; exact h.at' i x y a b
  · cases a⟩
theorem aM.drop {vs : List V} {ds : List Dv} (h : aM β M H vs ds) (n : Nat) : aM β M H (vs.drop n) (ds.drop n) := ⟨by simp [h.len], fun i x y a b => by
  rw [List.getElem?_drop] at a b
  exact h.at' _ x y a b⟩
theorem aM.set {vs : List V} {ds : List Dv} (h : aM β M H vs ds) (n : Nat) {v : V} {d : Dv} (r : Rz β M H v d) : aM β M H (vs.set n v) (ds.set n d) := ⟨by simp [h.len], fun i x y a b => by
  rw [List.getElem?_set] at a b
  rw [h.len] at a
  split at a
  · rename_i z
    rw [if_pos z] at b
    split at a
    · rename_i z2; rw [if_pos z2] at b; cases a; cases b; exact r
    · cases a
  · rename_i z; rw [if_neg z] at b; exact h.at' i x y a b⟩
theorem fj {a : Addr} {vs : List V} {ds : List Dv} (m : Fz β M a) (e : H a = some (.tup vs)) (h : aM β M H vs ds) : Rz β M H (.ref a) (.tup ds) := .tup m e h.len h.at'
theorem nu {a : Addr} {vs : List V} {ds : List Dv} (m : Fz β M a) (e : H a = some (.lst vs)) (h : aM β M H vs ds) : Rz β M H (.ref a) (.lst ds) := .lst m e h.len h.at'
theorem cj {v : V} {ds : List Dv} (h : Rz β M H v (.tup ds)) : ∃ a vs, v = .ref a ∧ Fz β M a ∧ H a = some (.tup vs) ∧ aM β M H vs ds := by
  cases h with
  | tup m e hl h => exact ⟨_, _, rfl, m, e, hl, h⟩
theorem da {v : V} {ds : List Dv} (h : Rz β M H v (.lst ds)) : ∃ a vs, v = .ref a ∧ Fz β M a ∧ H a = some (.lst vs) ∧ aM β M H vs ds := by
  cases h with
  | lst m e hl h => exact ⟨_, _, rfl, m, e, hl, h⟩
theorem aK {v : V} {i : Int} (h : Rz β M H v (.int i)) : v = .int i := by cases h; rfl
theorem cC {v : V} {b : Bool} (h : Rz β M H v (.bl b)) : v = .bl b := by cases h; rfl
theorem bI {v : V} {z : Str} (h : Rz β M H v (.str z)) : v = .str z := by cases h; rfl
theorem gI {v : V} (h : Rz β M H v .ao) : v = .ao := by cases h; rfl
theorem i6 {v u : V} (h : Rz β M H v (.raw u)) : v = u := by cases h; rfl
theorem cH {v : V} {a : Addr} (h : Rz β M H v (.ptr a)) : v = .ref a ∧ (M a).isSome = true := by cases h with | ptr m => exact ⟨rfl, m⟩
theorem kM {v : V} {C : Addr} (h : Rz β M H v (.exc C)) : ∃ a, v = .ref a ∧ Fz β M a ∧ H a = some (mw C a) := by cases h with | exc m e => exact ⟨_, rfl, m, e⟩
theorem pD {v : V} {ns : List Int} (h : Rz β M H v (.bt ns)) : ∃ a, v = .ref a ∧ bM β.K H a (ns.map V.int) := by
  cases h with
  | bt m e => exact ⟨_, rfl, .inl (.inr ⟨_, e⟩)⟩
  | cA m e => exact ⟨_, rfl, .inl (.inl e)⟩
  | cB e => exact ⟨_, rfl, .inr e⟩
noncomputable def rq : HO → Bool
  | .lst _ => true
  | .dK _ => true
  | .dT _ => true
  | _ => false
theorem Mz.own (m : Mz β M H) {a : Addr} {o : Mo} (e : M a = some o) : ∃ u, H a = some u ∧ rq u = true := by
  have q := m.obj a o e
  cases o with
  | lst ds => obtain ⟨vs, q, _⟩ := q; exact ⟨_, q, rfl⟩
  | dk ks ds => obtain ⟨vs, q, _⟩ := q; exact ⟨_, q, rfl⟩
  | dt ks ds => obtain ⟨vs, q, _⟩ := q; exact ⟨_, q, rfl⟩
  | cO => obtain ⟨_, _, q, _⟩ := q; exact ⟨_, q, rfl⟩
theorem Mz.kN (m : Mz β M H) {a : Addr} {u : HO} (h : H a = some u) (n : rq u = false) : M a = none := by
  cases e : M a with
  | none => rfl
  | some o => obtain ⟨u', q, w⟩ := m.own e; rw [h] at q; cases q; rw [n] at w; cases w
theorem Mz.IK (m : Mz β M H) {p : Addr} (hp : p ∈ β.tb) : M p = none := let ⟨_, h, _⟩ := m.tabs p hp; m.kN h rfl
theorem Mz.F1 (m : Mz β M H) {p : Addr × Str} (hp : p ∈ β.tb.l) : M p.1 = none := let ⟨_, h, _⟩ := m.lams p hp; m.kN h rfl
theorem Mz.free (m : Mz β M H) {a : Addr} (h : H a = none) : M a = none := by
  cases e : M a with
  | none => rfl
  | some o => obtain ⟨xs, q, _⟩ := m.own e; rw [h] at q; cases q
theorem Mz.fz (m : Mz β M H) {a : Addr} (h : H a = none) : Fz β M a := ⟨m.free h, fun z => by
  obtain ⟨o, e, _⟩ := m.hids a z
  rw [h] at e
  cases e⟩
theorem zQ {p a : Addr} {o : HO} (h : ∃ u, H a = Option.some u) : ∃ u, upd H p o a = Option.some u := by
  unfold upd
  split
  · exact ⟨_, rfl⟩
  · exact h
theorem Ex.lay (m : Mz β M H) {p : Addr} (h : H p = none) (o : HO) : Ex β M H M (upd H p o) := by
  have pre : ∀ b u, H b = some u → upd H p o b = some u := fun b u q => by rw [aj (aZ q h)]; exact q
  have rz : ∀ {v : V} {d : Dv}, Rz β M H v d → Rz β M (upd H p o) v d := fun r => by
    induction r with
    | int i => exact .int i
    | bl b => exact .bl b
    | ao => exact .ao
    | str z => exact .str z
    | tup m e hl h ih => exact .tup m (pre _ _ e) hl ih
    | lst m e hl h ih => exact .lst m (pre _ _ e) hl ih
    | dk m e hk hl h ih => exact .dk m (e.map fun _ h => pre _ _ h) hk hl ih
    | dt m e hk hl h ih => exact .dt m (e.map fun _ h => pre _ _ h) hk hl ih
    | bS m e m2 e2 hl h ih => exact .bS m (pre _ _ e) m2 (pre _ _ e2) hl ih
    | set m e => exact .set m (pre _ _ e)
    | ptr m => exact .ptr m
    | exc m e => exact .exc m (pre _ _ e)
    | bt m e => exact .bt m (pre _ _ e)
    | cA m e => exact .cA m (pre _ _ e)
    | cB e => exact .cB e
    | raw v => exact .raw v
  refine ⟨⟨fun b u _ q => .inl (pre b u q), fun _ h => h, fun _ _ h _ => h⟩, fun a u e => ?_, fun q hq => ?_, fun a ha => (m.hids a ha).upd (.inl h), m.apart, fun q hq => (m.lams q hq).keep (fun _ e => pre _ _ e) fun _ _ _ e => pre _ _ e⟩
  · have z := m.obj a u e
    cases u with
    | lst ds => obtain ⟨vs, z, l, r⟩ := z; exact ⟨vs, pre _ _ z, l, fun i v d a b => rz (r i v d a b)⟩
    | dk ks ds => obtain ⟨vs, z, hk, l, r⟩ := z; exact ⟨vs, pre _ _ z, hk, l, fun i v d a b => rz (r i v d a b)⟩
    | dt ks ds => obtain ⟨vs, z, hk, l, r⟩ := z; exact ⟨vs, pre _ _ z, hk, l, fun i v d a b => rz (r i v d a b)⟩
    | cO => obtain ⟨c, n, z, r⟩ := z; exact ⟨c, n, pre _ _ z, r⟩
  · obtain ⟨ps, e, t⟩ := m.tabs q hq
    exact ⟨ps, pre _ _ e, t⟩
theorem Ex.grow (m : Mz β M H) {p : Addr} (hp : p ∈ β.tb) {ps : Array Value} (t : TriplesOk ps.toList) : Ex β M H M (upd H p (.cg ps)) := by
  obtain ⟨NM, Kk, t0⟩ := m.tabs p hp
  have pre : ∀ b u, H b = some u → xl u = true → upd H p (.cg ps) b = some u := fun b u q n => by
    have : b ≠ p := fun z => by subst z; rw [Kk] at q; cases q; cases n
    rw [aj this]; exact q
  have rz : ∀ {v : V} {d : Dv}, Rz β M H v d → Rz β M (upd H p (.cg ps)) v d := fun r => by
    induction r with
    | int i => exact .int i
    | bl b => exact .bl b
    | ao => exact .ao
    | str z => exact .str z
    | tup m e hl h ih => exact .tup m (pre _ _ e rfl) hl ih
    | lst m e hl h ih => exact .lst m (pre _ _ e rfl) hl ih
    | dk m e hk hl h ih => exact .dk m (e.F0 rfl fun x hx h => pre _ _ h hx) hk hl ih
    | dt m e hk hl h ih => exact .dt m (e.F0 rfl fun x hx h => pre _ _ h hx) hk hl ih
    | bS m e m2 e2 hl h ih => exact .bS m (pre _ _ e rfl) m2 (pre _ _ e2 rfl) hl ih
    | set m e => exact .set m (pre _ _ e rfl)
    | ptr m => exact .ptr m
    | exc m e => exact .exc m (pre _ _ e rfl)
    | bt m e => exact .bt m (pre _ _ e rfl)
    | cA m e => exact .cA m (pre _ _ e rfl)
    | cB e => exact .cB e
    | raw v => exact .raw v
  refine ⟨⟨fun b u _ q => ?_, fun _ h => h, fun _ _ h _ => h⟩, fun a u e => ?_, fun q hq => ?_, fun a ha => (m.hids a ha).upd (.inr rfl), m.apart, fun q hq => (m.lams q hq).keep (fun _ e => pre _ _ e rfl) fun _ _ _ e => pre _ _ e rfl⟩
  · by_cases e : b = p
    · subst e
      rw [Kk] at q
      cases q
      exact .inr ⟨_, .inl ⟨NM, ps, rfl, rfl, t⟩, aG⟩
    · exact .inl (by rw [aj e]; exact q)
  · have z := m.obj a u e
    cases u with
    | lst ds => obtain ⟨vs, z, l, r⟩ := z; exact ⟨vs, pre _ _ z rfl, l, fun i v d a b => rz (r i v d a b)⟩
    | dk ks ds => obtain ⟨vs, z, hk, l, r⟩ := z; exact ⟨vs, pre _ _ z rfl, hk, l, fun i v d a b => rz (r i v d a b)⟩
    | dt ks ds => obtain ⟨vs, z, hk, l, r⟩ := z; exact ⟨vs, pre _ _ z rfl, hk, l, fun i v d a b => rz (r i v d a b)⟩
    | cO => obtain ⟨c, n, z, r⟩ := z; exact ⟨c, n, pre _ _ z rfl, r⟩
  · by_cases e : q = p
    · subst e; exact ⟨ps, aG, t⟩
    · obtain ⟨p2, e2, t2⟩ := m.tabs q hq
      exact ⟨p2, by rw [aj e]; exact e2, t2⟩
noncomputable def aH (M : Mh) (a : Addr) (o : Mo) : Mh := fun b => if b = a then Option.some o else M b
theorem updM_same {a : Addr} {o : Mo} : aH M a o a = Option.some o := by unfold aH; rw [if_pos rfl]
theorem au {a b : Addr} {o : Mo} (h : b ≠ a) : aH M a o b = M b := by unfold aH; rw [if_neg h]
theorem updM_updM {a : Addr} {o u : Mo} : aH (aH M a o) a u = aH M a u := by funext b; unfold aH; split <;> rfl
theorem ny {p : Addr} {o : Mo} {u : HO} (hp : (M p).isSome = true ∨ H p = none) {v : V} {d : Dv} (h : Rz β M H v d) : Rz β (aH M p o) (upd H p u) v d := by
  have ne : ∀ a x, M a = none → H a = Option.some x → a ≠ p := fun a x m e z => by
    subst z
    rcases hp with q | q
    · rw [m] at q; cases q
    · rw [q] at e; cases e
  induction h with
  | int i => exact .int i
  | bl b => exact .bl b
  | ao => exact .ao
  | str z => exact .str z
  | tup m e hl h ih => have n := ne _ _ m.1 e; exact .tup ⟨by rw [au n]; exact m.1, m.2⟩ (by rw [aj n]; exact e) hl ih
  | lst m e hl h ih => have n := ne _ _ m.1 e; exact .lst ⟨by rw [au n]; exact m.1, m.2⟩ (by rw [aj n]; exact e) hl ih
  | dk m e hk hl h ih => have n := ne _ _ m.1 e.there.choose_spec; exact .dk ⟨by rw [au n]; exact m.1, m.2⟩ (e.map fun _ h => by rw [aj n]; exact h) hk hl ih
  | dt m e hk hl h ih => have n := ne _ _ m.1 e.there.choose_spec; exact .dt ⟨by rw [au n]; exact m.1, m.2⟩ (e.map fun _ h => by rw [aj n]; exact h) hk hl ih
  | bS m e m2 e2 hl h ih => have n := ne _ _ m.1 e; have n2 := ne _ _ m2.1 e2; exact .bS ⟨by rw [au n]; exact m.1, m.2⟩ (by rw [aj n]; exact e) ⟨by rw [au n2]; exact m2.1, m2.2⟩ (by rw [aj n2]; exact e2) hl ih
  | set m e => have n := ne _ _ m.1 e; exact .set ⟨by rw [au n]; exact m.1, m.2⟩ (by rw [aj n]; exact e)
  | ptr m =>
    refine .ptr ?_
    unfold aH
    split
    · rfl
    · exact m
  | exc m e => have n := ne _ _ m.1 e; exact .exc ⟨by rw [au n]; exact m.1, m.2⟩ (by rw [aj n]; exact e)
  | bt m e => have n := ne _ _ m.1 e; exact .bt ⟨by rw [au n]; exact m.1, m.2⟩ (by rw [aj n]; exact e)
  | cA m e => have n := ne _ _ m.1 e; exact .cA ⟨by rw [au n]; exact m.1, m.2⟩ (by rw [aj n]; exact e)
  | cB e => exact .cB e
  | raw v => exact .raw v
theorem gV.upd {p : Addr} {o' : Mo} {u : HO} (hp : (M p).isSome = true ∨ H p = none) {a : Addr} {o : Mo} (ha : a ≠ p) (z : gV β M H a o) : gV β (aH M p o') (L2.upd H p u) a o := by
  cases o with
  | lst ds => obtain ⟨vs, z, l, r⟩ := z; exact ⟨vs, by rw [aj ha]; exact z, l, fun i v d a b => ny hp (r i v d a b)⟩
  | dk ks ds => obtain ⟨vs, z, hk, l, r⟩ := z; exact ⟨vs, by rw [aj ha]; exact z, hk, l, fun i v d a b => ny hp (r i v d a b)⟩
  | dt ks ds => obtain ⟨vs, z, hk, l, r⟩ := z; exact ⟨vs, by rw [aj ha]; exact z, hk, l, fun i v d a b => ny hp (r i v d a b)⟩
  | cO => obtain ⟨c, n, z, r⟩ := z; exact ⟨c, n, by rw [aj ha]; exact z, r⟩
theorem Ex.rq (m : Mz β M H) {p : Addr} {u : HO} {o' : Mo} (hp : (M p).isSome = true ∨ H p = none) (hu : mB u = true) (r : gV β (aH M p o') (upd H p u) p o') : Ex β M H (aH M p o') (upd H p u) := by
  have ne : ∀ a x, M a = none → H a = Option.some x → a ≠ p := fun a x m e z => by
    subst z
    rcases hp with q | q
    · rw [m] at q; cases q
    · rw [q] at e; cases e
  refine ⟨⟨fun b u hm q => .inl ?_, fun a h => ?_, fun a o hm h => ?_⟩, fun a o e => ?_, fun q hq => ?_, fun a ha => (m.hids a ha).upd (.inr hu), fun a o e z => ?_, fun q hq => ?_⟩
  · rw [aj (ne b _ hm q)]; exact q
  · unfold aH
    split
    · rfl
    · exact h
  · rw [au (ne a _ hm h)]; exact hm
  · by_cases ha : a = p
    · subst ha
      rw [updM_same] at e
      cases e
      exact r
    · rw [au ha] at e
      exact (m.obj a o e).upd hp ha
  · obtain ⟨ps, e, t⟩ := m.tabs q hq
    exact ⟨ps, by rw [aj (ne q _ (m.IK hq) e)]; exact e, t⟩
  · by_cases ha : a = p
    · subst ha
      rcases hp with h | h
      · cases q : M a with
        | none => rw [q] at h; cases h
        | some u => exact m.apart a u q z
      · obtain ⟨u, hu, _⟩ := m.hids a z
        rw [h] at hu
        cases hu
    · rw [au ha] at e
      exact m.apart a o e z
  · exact (m.lams q hq).keep (fun _ e => by rw [aj (ne q.1 _ (m.F1 hq) e)]; exact e) fun c _ _ e => by rw [aj (ne c _ (m.kN e rfl) e)]; exact e
theorem Ex.own (m : Mz β M H) {p : Addr} {vs : List V} {ds : List Dv} (hp : (M p).isSome = true ∨ H p = none) (r : aM β M H vs ds) : Ex β M H (aH M p (.lst ds)) (upd H p (.lst vs)) :=
  Ex.rq m hp rfl ⟨vs, aG, r.len, fun i v d a b => ny hp (r.at' i v d a b)⟩
noncomputable abbrev Bz.add (β : Bz) (D : Addr) : Bz := { β with hid := D :: β.hid }
theorem Rz.enter {D : Addr} {o : HO} (hD : H D = none) {v : V} {d : Dv} (h : Rz β M H v d) : Rz (β.add D) M (upd H D o) v d := by
  have ne : ∀ a x, Fz β M a → H a = some x → Fz (β.add D) M a := fun a x m e => ⟨m.1, by
    intro z
    rcases List.mem_cons.mp z with z | z
    · subst z; rw [hD] at e; cases e
    · exact m.2 z⟩
  have pre : ∀ a x, H a = some x → upd H D o a = some x := fun a x e => by rw [aj (aZ e hD)]; exact e
  induction h with
  | int i => exact .int i
  | bl b => exact .bl b
  | ao => exact .ao
  | str z => exact .str z
  | tup m e hl h ih => exact .tup (ne _ _ m e) (pre _ _ e) hl ih
  | lst m e hl h ih => exact .lst (ne _ _ m e) (pre _ _ e) hl ih
  | dk m e hk hl h ih => exact .dk (ne _ _ m e.there.choose_spec) (e.map fun _ h => pre _ _ h) hk hl ih
  | dt m e hk hl h ih => exact .dt (ne _ _ m e.there.choose_spec) (e.map fun _ h => pre _ _ h) hk hl ih
  | bS m e m2 e2 hl h ih => exact .bS (ne _ _ m e) (pre _ _ e) (ne _ _ m2 e2) (pre _ _ e2) hl ih
  | set m e => exact .set (ne _ _ m e) (pre _ _ e)
  | ptr m => exact .ptr m
  | exc m e => exact .exc (ne _ _ m e) (pre _ _ e)
  | bt m e => exact .bt (ne _ _ m e) (pre _ _ e)
  | cA m e => exact .cA (ne _ _ m e) (pre _ _ e)
  | cB e => exact .cB e
  | raw v => exact .raw v
theorem Rz.sub {cm : Bz} (hP : cm.P = β.P) (hw : cm.w = β.w) (hK : cm.K = β.K) (hs : ∀ a, a ∈ cm.hid → a ∈ β.hid) {v : V} {d : Dv} (h : Rz β M H v d) : Rz cm M H v d := by
  have ne : ∀ a, Fz β M a → Fz cm M a := fun a m => ⟨m.1, fun z => m.2 (hs a z)⟩
  induction h with
  | int i => exact .int i
  | bl b => exact .bl b
  | ao => exact .ao
  | str z => exact .str z
  | tup m e hl h ih => exact .tup (ne _ m) e hl ih
  | lst m e hl h ih => exact .lst (ne _ m) e hl ih
  | dk m e hk hl h ih => exact .dk (ne _ m) e hk hl ih
  | dt m e hk hl h ih => exact .dt (ne _ m) e hk hl ih
  | bS m e m2 e2 hl h ih => exact .bS (ne _ m) e (ne _ m2) e2 hl ih
  | set m e => exact .set (ne _ m) (by rw [hP, hw]; exact e)
  | ptr m => exact .ptr m
  | exc m e => exact .exc (ne _ m) e
  | bt m e => exact .bt (ne _ m) e
  | cA m e => exact .cA (ne _ m) e
  | cB e => exact .cB (by rw [hK]; exact e)
  | raw v => exact .raw v
theorem Mz.sub {cm : Bz} (hP : cm.P = β.P) (hw : cm.w = β.w) (hK : cm.K = β.K) (ht : cm.tb = β.tb) (hs : ∀ a, a ∈ cm.hid → a ∈ β.hid) (m : Mz β M H) : Mz cm M H := ⟨fun a o e => by
  have z := m.obj a o e
  cases o with
  | lst ds => obtain ⟨vs, z, l, r⟩ := z; exact ⟨vs, z, l, fun i v d a b => (r i v d a b).sub hP hw hK hs⟩
  | dk ks ds => obtain ⟨vs, z, hk, l, r⟩ := z; exact ⟨vs, z, hk, l, fun i v d a b => (r i v d a b).sub hP hw hK hs⟩
  | dt ks ds => obtain ⟨vs, z, hk, l, r⟩ := z; exact ⟨vs, z, hk, l, fun i v d a b => (r i v d a b).sub hP hw hK hs⟩
  | cO => exact z, by rw [ht]; exact m.tabs, fun a ha => m.hids a (hs a ha), fun a o e z => m.apart a o e (hs a z), by rw [ht]; exact m.lams⟩
theorem Mz.enter {D : Addr} {o : HO} (hD : H D = none) (ho : mB o = true) (m : Mz β M H) : Mz (β.add D) M (upd H D o) := ⟨fun a u e => by
  have pre : ∀ a x, H a = Option.some x → upd H D o a = Option.some x := fun a x e => by rw [aj (aZ e hD)]; exact e
  have z := m.obj a u e
  cases u with
  | lst ds => obtain ⟨vs, z, l, r⟩ := z; exact ⟨vs, pre _ _ z, l, fun i v d a b => (r i v d a b).enter hD⟩
  | dk ks ds => obtain ⟨vs, z, hk, l, r⟩ := z; exact ⟨vs, pre _ _ z, hk, l, fun i v d a b => (r i v d a b).enter hD⟩
  | dt ks ds => obtain ⟨vs, z, hk, l, r⟩ := z; exact ⟨vs, pre _ _ z, hk, l, fun i v d a b => (r i v d a b).enter hD⟩
  | cO => obtain ⟨c, n, z, r⟩ := z; exact ⟨c, n, pre _ _ z, r⟩, fun p hp => by
  obtain ⟨ps, e, t⟩ := m.tabs p hp
  exact ⟨ps, by rw [aj (aZ e hD)]; exact e, t⟩, fun a ha => by
  rcases List.mem_cons.mp ha with z | z
  · subst z; exact ⟨_, aG, ho⟩
  · exact (m.hids a z).upd (.inl hD), fun a o e ha => by
  rcases List.mem_cons.mp ha with z | z
  · subst z; rw [m.free hD] at e; cases e
  · exact m.apart a o e z, fun q hq => (m.lams q hq).keep (fun _ e => by rw [aj (aZ e hD)]; exact e) fun _ _ _ e => by rw [aj (aZ e hD)]; exact e⟩
theorem Rz.over {D : Addr} {o : HO} (hD : D ∈ β.hid) {v : V} {d : Dv} (h : Rz β M H v d) : Rz β M (upd H D o) v d := by
  have pre : ∀ a x, Fz β M a → H a = some x → upd H D o a = some x := fun a x m e => by
    have n : a ≠ D := fun z => by subst z; exact m.2 hD
    rw [aj n]; exact e
  induction h with
  | int i => exact .int i
  | bl b => exact .bl b
  | ao => exact .ao
  | str z => exact .str z
  | tup m e hl h ih => exact .tup m (pre _ _ m e) hl ih
  | lst m e hl h ih => exact .lst m (pre _ _ m e) hl ih
  | dk m e hk hl h ih => exact .dk m (e.map fun _ h => pre _ _ m h) hk hl ih
  | dt m e hk hl h ih => exact .dt m (e.map fun _ h => pre _ _ m h) hk hl ih
  | bS m e m2 e2 hl h ih => exact .bS m (pre _ _ m e) m2 (pre _ _ m2 e2) hl ih
  | set m e => exact .set m (pre _ _ m e)
  | ptr m => exact .ptr m
  | exc m e => exact .exc m (pre _ _ m e)
  | bt m e => exact .bt m (pre _ _ m e)
  | cA m e => exact .cA m (pre _ _ m e)
  | cB e => exact .cB e
  | raw v => exact .raw v
theorem Mz.over {D : Addr} {o : HO} (hD : D ∈ β.hid) (ho : mB o = true) (hM : M D = none) (ht : D ∉ β.tb) (m : Mz β M H) : Mz β M (upd H D o) := ⟨fun a u e => by
  have na : a ≠ D := fun z => by subst z; rw [hM] at e; cases e
  have z := m.obj a u e
  cases u with
  | lst ds => obtain ⟨vs, z, l, r⟩ := z; exact ⟨vs, by rw [aj na]; exact z, l, fun i v d a b => (r i v d a b).over hD⟩
  | dk ks ds => obtain ⟨vs, z, hk, l, r⟩ := z; exact ⟨vs, by rw [aj na]; exact z, hk, l, fun i v d a b => (r i v d a b).over hD⟩
  | dt ks ds => obtain ⟨vs, z, hk, l, r⟩ := z; exact ⟨vs, by rw [aj na]; exact z, hk, l, fun i v d a b => (r i v d a b).over hD⟩
  | cO => obtain ⟨c, n, z, r⟩ := z; exact ⟨c, n, by rw [aj na]; exact z, r⟩, fun p hp => by
  obtain ⟨ps, e, t⟩ := m.tabs p hp
  have n : p ≠ D := fun z => by subst z; exact ht hp
  exact ⟨ps, by rw [aj n]; exact e, t⟩, fun a ha => (m.hids a ha).upd (.inr ho), m.apart, fun q hq => by
  obtain ⟨o', e', n⟩ := m.hids D hD
  exact (m.lams q hq).keep (fun _ e => by rw [aj (fun z => by subst z; rw [e'] at e; cases e; cases n)]; exact e) fun c _ _ e => by rw [aj (fun z => by subst z; rw [e'] at e; cases e; cases n)]; exact e⟩
theorem Ey.over {D : Addr} {o : HO} (x : Ey M H M1 H1) (hD : H D = none) : Ey M H M1 (upd H1 D o) := ⟨fun b u m h => by
  have nb : b ≠ D := aZ h hD
  rw [aj nb]
  exact x.keep b u m h, x.dom, x.new⟩
theorem Mz.LZ {D : Addr} (m : Mz β M H) (hD : H D = none) : D ∉ β.tb := fun z => by
  obtain ⟨_, e, _⟩ := m.tabs D z
  rw [hD] at e
  cases e
structure Bx (β cm : Bz) (H : Hp) : Prop where
  P : cm.P = β.P
  w : cm.w = β.w
  K : cm.K = β.K
  tb : cm.tb = β.tb
  old : ∀ a, a ∈ β.hid → a ∈ cm.hid
  new : ∀ a, a ∈ cm.hid → a ∈ β.hid ∨ H a = none
theorem Bx.refl : Bx β β H := ⟨rfl, rfl, rfl, rfl, fun _ h => h, fun _ h => .inl h⟩
theorem Bx.add {D : Addr} (hD : H D = none) : Bx β (β.add D) H := ⟨rfl, rfl, rfl, rfl, fun _ h => List.mem_cons_of_mem _ h, fun a h => by
  rcases List.mem_cons.mp h with z | z
  · exact .inr (z ▸ hD)
  · exact .inl z⟩
theorem Rz.bx {cm : Bz} (b : Bx β cm H) {v : V} {d : Dv} (h : Rz β M H v d) : Rz cm M H v d := by
  have ne : ∀ a x, Fz β M a → H a = some x → Fz cm M a := fun a x m e => ⟨m.1, fun z => by
    rcases b.new a z with q | q
    · exact m.2 q
    · rw [q] at e; cases e⟩
  induction h with
  | int i => exact .int i
  | bl b => exact .bl b
  | ao => exact .ao
  | str z => exact .str z
  | tup m e hl h ih => exact .tup (ne _ _ m e) e hl ih
  | lst m e hl h ih => exact .lst (ne _ _ m e) e hl ih
  | dk m e hk hl h ih => exact .dk (ne _ _ m e.there.choose_spec) e hk hl ih
  | dt m e hk hl h ih => exact .dt (ne _ _ m e.there.choose_spec) e hk hl ih
  | bS m e m2 e2 hl h ih => exact .bS (ne _ _ m e) e (ne _ _ m2 e2) e2 hl ih
  | set m e => exact .set (ne _ _ m e) (by rw [b.P, b.w]; exact e)
  | ptr m => exact .ptr m
  | exc m e => exact .exc (ne _ _ m e) e
  | bt m e => exact .bt (ne _ _ m e) e
  | cA m e => exact .cA (ne _ _ m e) e
  | cB e => exact .cB (by rw [b.K]; exact e)
  | raw v => exact .raw v
end
inductive Pin (M : Mh) : Dv → Prop where
  | int (i : Int) : Pin M (.int i)
  | bl (b : Bool) : Pin M (.bl b)
  | ao : Pin M .ao
  | str (z : Str) : Pin M (.str z)
  | tup {ds : List Dv} (h : ∀ d ∈ ds, Pin M d) : Pin M (.tup ds)
  | lst {ds : List Dv} (h : ∀ d ∈ ds, Pin M d) : Pin M (.lst ds)
  | set (ns : List Int) : Pin M (.set ns)
  | ptr {a : Addr} (h : (M a).isSome = true) : Pin M (.ptr a)
  | exc (C : Addr) : Pin M (.exc C)
  | bt (ns : List Int) : Pin M (.bt ns)
  | raw (v : V) : Pin M (.raw v)
  | dk {ks : List Key} {ds : List Dv} (h : ∀ d ∈ ds, Pin M d) : Pin M (.dk ks ds)
  | dt {ks : List (List Key)} {ds : List Dv} (h : ∀ d ∈ ds, Pin M d) : Pin M (.dt ks ds)
  | bS {f c : Addr} {o oc : Obj} {vs : List V} {ds : List Dv} (h : ∀ d ∈ ds, Pin M d) : Pin M (.bS f o c oc vs ds)
theorem Rz.pin {β : Bz} {M : Mh} {H : Hp} {v : V} {d : Dv} (h : Rz β M H v d) : Pin M d := by
  induction h with
  | int i => exact .int i
  | bl b => exact .bl b
  | ao => exact .ao
  | str z => exact .str z
  | tup m e hl h ih =>
    refine .tup fun d hd => ?_
    obtain ⟨i, hi⟩ := List.mem_iff_getElem?.mp hd
    have h1 := (List.getElem?_eq_some_iff.mp hi).1
    exact ih i _ d (List.getElem?_eq_getElem (by omega)) hi
  | lst m e hl h ih =>
    refine .lst fun d hd => ?_
    obtain ⟨i, hi⟩ := List.mem_iff_getElem?.mp hd
    have h1 := (List.getElem?_eq_some_iff.mp hi).1
    exact ih i _ d (List.getElem?_eq_getElem (by omega)) hi
  | dk m e hk hl h ih =>
    refine .dk fun d hd => ?_
    obtain ⟨i, hi⟩ := List.mem_iff_getElem?.mp hd
    have h1 := (List.getElem?_eq_some_iff.mp hi).1
    exact ih i _ d (List.getElem?_eq_getElem (by omega)) hi
  | dt m e hk hl h ih =>
    refine .dt fun d hd => ?_
    obtain ⟨i, hi⟩ := List.mem_iff_getElem?.mp hd
    have h1 := (List.getElem?_eq_some_iff.mp hi).1
    exact ih i _ d (List.getElem?_eq_getElem (by omega)) hi
  | bS m e m2 e2 hl h ih =>
    refine .bS fun d hd => ?_
    obtain ⟨i, hi⟩ := List.mem_iff_getElem?.mp hd
    have h1 := (List.getElem?_eq_some_iff.mp hi).1
    exact ih i _ d (List.getElem?_eq_getElem (by omega)) hi
  | set m e => exact .set _
  | ptr m => exact .ptr m
  | exc m e => exact .exc _
  | bt m e => exact .bt _
  | cA m e => exact .bt _
  | cB e => exact .bt _
  | raw v => exact .raw v
noncomputable def Mo.items : Mo → List Dv
  | .lst ds => ds
  | .dk _ ds => ds
  | .dt _ ds => ds
  | .cO => []
noncomputable def Wf (M : Mh) : Prop := ∀ b o, M b = some o → ∀ d ∈ o.items, Pin M d
theorem gV.NN {β : Bz} {M : Mh} {H : Hp} {a : Addr} {o : Mo} (h : gV β M H a o) : ∃ vs, aM β M H vs o.items := by
  cases o with
  | lst ds => obtain ⟨vs, _, rs⟩ := h; exact ⟨vs, rs⟩
  | dk ks ds => obtain ⟨vs, _, _, rs⟩ := h; exact ⟨vs, rs⟩
  | dt ks ds => obtain ⟨vs, _, _, rs⟩ := h; exact ⟨vs, rs⟩
  | cO => exact ⟨[], .nil⟩
theorem Mz.wf {β : Bz} {M : Mh} {H : Hp} (m : Mz β M H) : Wf M := fun b o e d hd => by
  obtain ⟨vs, rs⟩ := (m.obj b _ e).NN
  obtain ⟨i, hi⟩ := List.mem_iff_getElem?.mp hd
  obtain ⟨v, _, r⟩ := rs.get hi
  exact r.pin
noncomputable abbrev av := List (Option Dv)
noncomputable abbrev ZK := Dv → Mh → Prop
noncomputable abbrev aQ := av → Mh → ZK → Prop
noncomputable abbrev cP := av → Mh → (Bool → Mh → Prop) → Prop
noncomputable abbrev eB := av → Mh → (List Dv → Mh → Prop) → Prop
structure fO where
  nx : av → Mh → Prop
  rt : ZK
  bk : av → Mh → Prop := fun _ _ => False
  ct : av → Mh → Prop := fun _ _ => False
noncomputable abbrev bO := fO → av → Mh → Prop
noncomputable abbrev cx := Dv → av → Mh → (av → Mh → Prop) → Prop
noncomputable abbrev kO := List Dv → av → Mh → (av → Mh → Prop) → Prop
noncomputable abbrev fk := av → Mh → (List Dv → Mh → Prop) → Prop
structure Gz extends Bz where
  M0 : Mh
  H0 : Hp
structure Zr (Γ : Gz) (β : Bz) (M : Mh) (ρ : av) (σ : St) (H : Hp) : Prop where
  eP : β.P = Γ.P
  ew : β.w = Γ.w
  eK : β.K = Γ.K
  et : β.tb = Γ.tb
  sub : ∀ a, a ∈ Γ.hid → a ∈ β.hid
  wf : Wf Γ.M0
  ent : Ey Γ.M0 Γ.H0 M H
  mz : Mz β M H
  len : ρ.length = σ.length
  at' : ∀ (i : Nat) (d : Dv), ρ[i]? = some (some d) → ∃ v, σ[i]? = some (some v) ∧ Rz β M H v d
section
variable {Γ : Gz} {β : Bz} {M M' : Mh} {ρ : av} {σ : St} {H H' : Hp}
theorem Zr.step (z : Zr Γ β M ρ σ H) (x : Ex β M H M' H') : Zr Γ β M' ρ σ H' := ⟨z.eP, z.ew, z.eK, z.et, z.sub, z.wf, z.ent.trans x.toEy, x.mz, z.len, fun i d e => let ⟨v, h, r⟩ := z.at' i d e; ⟨v, h, r.ex x⟩⟩
theorem Zr.set (z : Zr Γ β M ρ σ H) (i : Nat) {v : V} {d : Dv} (r : Rz β M H v d) : Zr Γ β M (ρ.set i (some d)) (σ.set i (some v)) H := ⟨z.eP, z.ew, z.eK, z.et, z.sub, z.wf, z.ent, z.mz, by simp [z.len], fun j e h => by
  rw [List.getElem?_set] at h ⊢
  rw [z.len] at h
  split at h
  · rename_i q
    rw [if_pos q]
    split at h
    · rename_i q2
      rw [if_pos q2]
      cases h
      exact ⟨v, rfl, r⟩
    · cases h
  · rename_i q
    rw [if_neg q]
    exact z.at' j e h⟩
end
noncomputable def lE (Γ : Gz) (p : aQ) : TE := fun σ H Q => ∃ (β : Bz) (ρ : av) (M : Mh) (Q' : ZK), Zr Γ β M ρ σ H ∧ p ρ M Q' ∧ ∀ d M' v H', Ex β M H M' H' → Rz β M' H' v d → Q' d M' → Q v H'
noncomputable def lT (Γ : Gz) (p : cP) : TT := fun σ H Q => ∃ (β : Bz) (ρ : av) (M : Mh) (Q' : Bool → Mh → Prop), Zr Γ β M ρ σ H ∧ p ρ M Q' ∧ ∀ b M' H', Ex β M H M' H' → Q' b M' → Q b H'
noncomputable def lA (Γ : Gz) (p : eB) : TA := fun σ H Q => ∃ (β : Bz) (ρ : av) (M : Mh) (Q' : List Dv → Mh → Prop), Zr Γ β M ρ σ H ∧ p ρ M Q' ∧ ∀ ds M' vs H', Ex β M H M' H' → aM β M' H' vs ds → Q' ds M' → Q vs H'
structure Ev (β : Bz) (M : Mh) (H : Hp) (M' : Mh) (H' : Hp) : Prop where
  keep : ∀ b o, M b = none → H b = some o → H' b = some o ∨ ∃ o', Tg o o' ∧ H' b = some o'
  new : ∀ a o, M a = none → H a = some o → M' a = none
  mz : Mz β M' H'
theorem Ex.ev {β : Bz} {M M' : Mh} {H H' : Hp} (x : Ex β M H M' H') : Ev β M H M' H' := ⟨x.keep, x.new, x.mz⟩
theorem Ev.refl {β : Bz} {M : Mh} {H : Hp} (m : Mz β M H) : Ev β M H M H := (Ex.refl m).ev
theorem Ev.trans {β : Bz} {M M1 M2 : Mh} {H H1 H2 : Hp} (x : Ev β M H M1 H1) (y : Ev β M1 H1 M2 H2) : Ev β M H M2 H2 := by
  refine ⟨fun b o hm h => ?_, fun a o hm h => ?_, y.mz⟩
  · have kJ := x.new b o hm h
    rcases x.keep b o hm h with q | ⟨o1, t, q⟩
    · exact y.keep b o kJ q
    · rcases y.keep b _ kJ q with q2 | ⟨o2, t2, q2⟩
      · exact .inr ⟨o1, t, q2⟩
      · exact .inr ⟨o2, t.trans t2, q2⟩
  · have kJ := x.new a o hm h
    rcases x.keep a o hm h with q | ⟨o1, t, q⟩
    · exact y.new a _ kJ q
    · exact y.new a _ kJ q
structure uS (Γ : Gz) (β : Bz) (M : Mh) (H : Hp) (D' : fO) (D : Ends) : Prop where
  nx : ∀ bw M' aA H', Ev β M H M' H' → Zr Γ β M' bw aA H' → D'.nx bw M' → D.nx aA H'
  rt : ∀ d M' v H', Ev β M H M' H' → Ey Γ.M0 Γ.H0 M' H' → Rz β M' H' v d → D'.rt d M' → D.rt v H'
  bk : ∀ bw M' aA H', Ev β M H M' H' → Zr Γ β M' bw aA H' → D'.bk bw M' → D.bk aA H'
  ct : ∀ bw M' aA H', Ev β M H M' H' → Zr Γ β M' bw aA H' → D'.ct bw M' → D.ct aA H'
theorem uS.step {Γ : Gz} {β : Bz} {M M1 : Mh} {H H1 : Hp} {D' : fO} {D : Ends} (r : uS Γ β M H D' D) (x : Ev β M H M1 H1) : uS Γ β M1 H1 D' D :=
  ⟨fun a b c d y => r.nx a b c d (x.trans y), fun a b c d y => r.rt a b c d (x.trans y), fun a b c d y => r.bk a b c d (x.trans y), fun a b c d y => r.ct a b c d (x.trans y)⟩
noncomputable def lS (Γ : Gz) (p : bO) : TS := fun D σ H => ∃ (β : Bz) (ρ : av) (M : Mh) (D' : fO), Zr Γ β M ρ σ H ∧ p D' ρ M ∧ uS Γ β M H D' D
noncomputable def lG (Γ : Gz) (p : cx) : TG := fun x σ H N => ∃ (β : Bz) (d : Dv) (ρ : av) (M : Mh) (N' : av → Mh → Prop), Zr Γ β M ρ σ H ∧ Rz β M H x d ∧ p d ρ M N' ∧ ∀ bw M' aA H', Ex β M H M' H' → Zr Γ β M' bw aA H' → N' bw M' → N aA H'
noncomputable def NP (Γ : Gz) (p : kO) : mW := fun xs σ H N => ∃ (β : Bz) (ds : List Dv) (ρ : av) (M : Mh) (N' : av → Mh → Prop), Zr Γ β M ρ σ H ∧ aM β M H xs ds ∧ p ds ρ M N' ∧ ∀ bw M' aA H', Ex β M H M' H' → Zr Γ β M' bw aA H' → N' bw M' → N aA H'
noncomputable def xn (β : Bz) (J : It) (ds : List Dv) (M : Mh) (H : Hp) : Prop := ∀ cm M' H', Bx β cm H → Ey M H M' H' → Mz cm M' H' → ∀ i, (i < ds.length → J.go i H' ∧ ∀ x kP, J.yld i H' x kP → Ex cm M' H' M' kP ∧ ∃ d, ds[i]? = some d ∧ Rz cm M' kP x d) ∧ (ds.length ≤ i → J.stop i H')
noncomputable def lI (Γ : Gz) (p : fk) : TI := fun σ H R => ∃ (β : Bz) (ρ : av) (M : Mh) (R' : List Dv → Mh → Prop), Zr Γ β M ρ σ H ∧ p ρ M R' ∧ ∀ ds M' H' J, Ex β M H M' H' → xn β J ds M' H' → R' ds M' → R J H'
noncomputable abbrev QE (Γ : Gz) (X : Cx) (e : Expr) (p : aQ) : Prop := PE X e (lE Γ p)
noncomputable abbrev QT (Γ : Gz) (X : Cx) (e : Expr) (p : cP) : Prop := PT X e (lT Γ p)
noncomputable abbrev QW (Γ : Gz) (X : Cx) (e : Expr) (p : cP) : Prop := PW X e (lT Γ p)
noncomputable abbrev QA (Γ : Gz) (X : Cx) (es : List Expr) (p : eB) : Prop := PA X es (lA Γ p)
noncomputable abbrev QS (Γ : Gz) (X : Cx) (s : Stmt) (p : bO) : Prop := PS X s (lS Γ p)
noncomputable abbrev iC (Γ : Gz) (X : Cx) (s : List Stmt) (p : bO) : Prop := eA X s (lS Γ p)
noncomputable abbrev QG (Γ : Gz) (X : Cx) (e : Expr) (p : cx) : Prop := PG X e (lG Γ p)
noncomputable abbrev Bp (Γ : Gz) (X : Cx) (e : List Expr) (p : kO) : Prop := oY X e (NP Γ p)
noncomputable abbrev QI (Γ : Gz) (X : Cx) (tg e : Expr) (p : fk) : Prop := PI X tg e (lI Γ p)
section
variable {X : Cx}
theorem PE.imp {e : Expr} {t t' : TE} (h : PE X e t) (i : ∀ σ H Q, t' σ H Q → t σ H Q) : PE X e t' := ⟨fun pins s σ H Q I q => h pins s σ H Q I (i _ _ _ q)⟩
theorem PT.imp {e : Expr} {t t' : TT} (h : PT X e t) (i : ∀ σ H Q, t' σ H Q → t σ H Q) : PT X e t' := ⟨fun pins s σ H Q I q => h pins s σ H Q I (i _ _ _ q)⟩
theorem PW.imp {e : Expr} {t t' : TT} (h : PW X e t) (i : ∀ σ H Q, t' σ H Q → t σ H Q) : PW X e t' := fun wh pins s σ H Q I q => h wh pins s σ H Q I (i _ _ _ q)
theorem PA.imp {e : List Expr} {t t' : TA} (h : PA X e t) (i : ∀ σ H Q, t' σ H Q → t σ H Q) : PA X e t' := ⟨fun pos pins s σ H Q I q => h pos pins s σ H Q I (i _ _ _ q)⟩
theorem PS.imp {e : Stmt} {t t' : TS} (h : PS X e t) (i : ∀ D σ H, t' D σ H → t D σ H) : PS X e t' := ⟨fun pins s σ H D I q => h pins s σ H D I (i _ _ _ q)⟩
theorem eA.imp {e : List Stmt} {t t' : TS} (h : eA X e t) (i : ∀ D σ H, t' D σ H → t D σ H) : eA X e t' := ⟨fun pins s σ H D I q => h pins s σ H D I (i _ _ _ q)⟩
theorem PG.imp {e : Expr} {t t' : TG} (h : PG X e t) (i : ∀ v σ H Q, t' v σ H Q → t v σ H Q) : PG X e t' := fun pins s σ H v u Q I r q => h pins s σ H v u Q I r (i _ _ _ _ q)
theorem oY.imp {e : List Expr} {t t' : mW} (h : oY X e t) (i : ∀ v σ H Q, t' v σ H Q → t v σ H Q) : oY X e t' := fun pins s σ H v u Q I r q => h pins s σ H v u Q I r (i _ _ _ _ q)
theorem PI.imp {tg e : Expr} {t t' : TI} (h : PI X tg e t) (i : ∀ σ H Q, t' σ H Q → t σ H Q) : PI X tg e t' := fun pins s σ H Q I q => h pins s σ H Q I (i _ _ _ q)
theorem jx.imp {e : List Expr} {t t' : TT} (h : jx X e t) (i : ∀ σ H Q, t' σ H Q → t σ H Q) : jx X e t' := fun pins s σ H Q I q => h pins s σ H Q I (i _ _ _ q)
variable {Γ : Gz} {a b c : Expr} {pa pb pc : aQ} {pos : Pos}
noncomputable def zVar (i : Nat) : aQ := fun ρ M Q => match ρ[i]? with | some (some d) => Q d M | _ => False
noncomputable def zC (d : Dv) : aQ := fun _ M Q => Q d M
theorem F2 {i : Nat} {x : Str} (hN : X.N[i]? = some x) (hv : mR X.env.scope x) (hd : (x == ("__debug__" : Str)) = false := by decide) (dA : (x == ("__classdict__" : Str)) = false := by decide) : QE Γ X (.Name x pos) (zVar i) :=
  (vX hN hv hd dA).imp fun σ H Q ⟨β, ρ, M, Q', z, h, q⟩ => by
    unfold zVar at h
    split at h
    · rename_i d e
      obtain ⟨v, e2, r⟩ := z.at' i d e
      exact ⟨v, e2, q d M v H (.refl z.mz) r h⟩
    · exact h.elim
theorem qc {e : Expr} {v : V} {d : Dv} (h : PE X e (tC v)) (r : ∀ β M H, Rz β M H v d) : QE Γ X e (zC d) := h.imp fun σ H Q ⟨β, ρ, M, Q', z, h, q⟩ => q d M v H (.refl z.mz) (r β M H) h
theorem ak {i j pos} : QE Γ X (.Constant (.int i) j pos) (zC (.int i)) := qc Ec fun _ _ _ => .int _
theorem eO {b j pos} : QE Γ X (.Constant (.bool b) j pos) (zC (.bl b)) := qc HY fun _ _ _ => .bl _
theorem nz {j pos} : QE Γ X (.Constant .none j pos) (zC .ao) := qc Ed fun _ _ _ => .ao
theorem ay {x j pos} : QE Γ X (.Constant (.str x) j pos) (zC (.str x)) := qc Ee fun _ _ _ => .str _
theorem rA {x : Str} {i : Int} {u : Value} (hg : Gl X x) (hm : X.mg x = some u) (r : RelV (.int i) u) (hd : (x == ("__debug__" : Str)) = false := by decide) : QE Γ X (.Name x pos) (zC (.int i)) := qc (nZ hg hm r hd) fun _ _ _ => .int _
theorem zR {x z : Str} {u : Value} (hg : Gl X x) (hm : X.mg x = some u) (r : RelV (.str z) u) (hd : (x == ("__debug__" : Str)) = false := by decide) : QE Γ X (.Name x pos) (zC (.str z)) := qc (nZ hg hm r hd) fun _ _ _ => .str _
theorem bF {x : Str} {v : V} {u : Value} (hg : Gl X x) (hm : X.mg x = some u) (r : RelV v u) (hd : (x == ("__debug__" : Str)) = false := by decide) : QE Γ X (.Name x pos) (zC (.raw v)) := qc (nZ hg hm r hd) fun _ _ _ => .raw _
theorem h8 {x : Str} {v : V} {u : Value} (hg : Gl X x) (hm : X.mg x = none) (hv : bootBuiltins x = some u) (r : RelV v u) (hn : x ≠ "__name__" := by decide) (hd : (x == ("__debug__" : Str)) = false := by decide) : QE Γ X (.Name x pos) (zC (.raw v)) := qc (B1 hg hm hv r hn hd) fun _ _ _ => .raw _
noncomputable abbrev dw := Dv → Dv → Mh → ZK → Prop
noncomputable def pE (Γ : Gz) (r : R2) (z : dw) : Prop := ∀ (β : Bz) x y d e M H Q Q', β.P = Γ.P → β.w = Γ.w → β.K = Γ.K → Mz β M H → Rz β M H x d → Rz β M H y e → z d e M Q' → (∀ d' M' v H', Ex β M H M' H' → Rz β M' H' v d' → Q' d' M' → Q v H') → r x y H Q
noncomputable def dO (Γ : Gz) (X : Cx) (f : Value → Value → Sem Value) (z : dw) : Prop := ∃ r, OpR X f r ∧ pE Γ r z
noncomputable def zOp (z : dw) (pa pb : aQ) : aQ := fun ρ M Q => pa ρ M fun d M1 => pb ρ M1 fun e M2 => z d e M2 Q
theorem uT {r : R2} {z : dw} (hz : pE Γ r z) {σ : St} {H : Hp} {Q : VK} (h : lE Γ (zOp z pa pb) σ H Q) : wg r (lE Γ pa) (lE Γ pb) σ H Q := by
  obtain ⟨β, ρ, M, Q', zr, h, q⟩ := h
  exact ⟨β, ρ, M, _, zr, h, fun d M1 v H1 x1 r1 h1 => ⟨β, ρ, M1, _, zr.step x1, h1, fun e M2 u H2 x2 r2 h2 => hz β v u d e M2 H2 Q Q' zr.eP zr.ew zr.eK x2.mz (r1.ex x2) r2 h2 fun d' M' v' H' x3 r3 q3 => q _ _ _ _ (x1.trans (x2.trans x3)) r3 q3⟩⟩
theorem aC {op : Operator} {z : dw} (ho : dO Γ X (binaryOp op) z) (ha : QE Γ X a pa) (hb : QE Γ X b pb) : QE Γ X (.BinOp a op b pos) (zOp z pa pb) := by
  obtain ⟨r, h1, h2⟩ := ho
  exact (Ii h1 ha hb).imp fun σ H Q h => uT h2 h
theorem CL {op : CmpOp} {z : dw} (ho : dO Γ X (compareOp op) z) (ha : QE Γ X a pa) (hb : QE Γ X b pb) (hm : behindInMarks op b = false) : QE Γ X (.Compare a [op] [b] pos) (zOp z pa pb) := by
  obtain ⟨r, h1, h2⟩ := ho
  exact (Ca h1 ha hb hm).imp fun σ H Q h => uT h2 h
noncomputable def zBool (Q : Bool → Mh → Prop) : ZK := fun d M => match d with | .bl k => Q k M | _ => False
theorem iD {Q : Bool → Mh → Prop} {d : Dv} {M : Mh} (h : zBool Q d M) : ∃ k, d = .bl k ∧ Q k M := by
  unfold zBool at h
  split at h
  · exact ⟨_, rfl, h⟩
  · exact h.elim
noncomputable def zTest (p : aQ) : cP := fun ρ M Q => p ρ M (zBool Q)
theorem rB {p : aQ} {t : TE} (i : ∀ σ H Q, lE Γ p σ H Q → t σ H Q) {σ : St} {H : Hp} {Q : Bool → Hp → Prop} (h : lT Γ (zTest p) σ H Q) : uB t σ H Q := by
  obtain ⟨β, ρ, M, Q', zr, h, q⟩ := h
  refine i _ _ _ ⟨β, ρ, M, _, zr, h, fun d M1 v H1 x1 r1 h1 => ?_⟩
  obtain ⟨k, rfl, h2⟩ := iD h1
  exact ⟨k, cC r1, q k M1 H1 x1 h2⟩
theorem bX {op : CmpOp} {z : dw} (ho : dO Γ X (compareOp op) z) (ha : QE Γ X a pa) (hb : QE Γ X b pb) (hm : behindInMarks op b = false) : QT Γ X (.Compare a [op] [b] pos) (zTest (zOp z pa pb)) := by
  obtain ⟨r, h1, h2⟩ := ho
  exact (Cb h1 ha hb hm).imp fun σ H Q h => rB (fun _ _ _ => uT h2) h
theorem iE {e : Expr} {p : aQ} (h : QE Γ X e p) (he : ∀ whole, isTrue e X.env whole = (do let v ← whole; standAt e.pos; holding [v] (truthy v)) := by intro _; rfl) : QT Γ X e (zTest p) :=
  (Ef h he).imp fun σ H Q h => rB (fun _ _ _ h => h) h
noncomputable def zChain (z z' : dw) (pa pb pc : aQ) : aQ := fun ρ M Q => pa ρ M fun x M1 => pb ρ M1 fun y M2 => z x y M2 (zBool fun k M3 => if k = true then pc ρ M3 fun u M4 => z' y u M4 Q else Q (.bl false) M3)
theorem tZ {r r' : R2} {z z' : dw} (hz : pE Γ r z) (NQ : pE Γ r' z') {σ : St} {H : Hp} {Q : VK} (h : lE Γ (zChain z z' pa pb pc) σ H Q) : qI r r' (lE Γ pa) (lE Γ pb) (lE Γ pc) σ H Q := by
  obtain ⟨β, ρ, M, Q', zr, h, q⟩ := h
  refine ⟨β, ρ, M, _, zr, h, fun d M1 v H1 x1 r1 h1 => ⟨β, ρ, M1, _, zr.step x1, h1, fun e M2 u H2 x2 r2 h2 => hz β v u d e M2 H2 _ _ zr.eP zr.ew zr.eK x2.mz (r1.ex x2) r2 h2 fun d' M3 v' H3 x3 r3 h3 => ?_⟩⟩
  obtain ⟨k, rfl, h4⟩ := iD h3
  have j8 := x1.trans (x2.trans x3)
  refine ⟨k, cC r3, ?_⟩
  cases k with
  | true =>
    rw [if_pos rfl] at h4 ⊢
    exact ⟨β, ρ, M3, _, zr.step j8, h4, fun f M4 g H4 x4 r4 h5 => NQ β u g e f M4 H4 _ _ zr.eP zr.ew zr.eK x4.mz ((r2.ex x3).ex x4) r4 h5 fun d5 M5 v5 H5 x5 r5 q5 => q _ _ _ _ (j8.trans (x4.trans x5)) r5 q5⟩
  | false =>
    rw [if_neg Bool.false_ne_true] at h4 ⊢
    exact q _ _ _ _ j8 (.bl _) h4
theorem zS {op iq : CmpOp} {z z' : dw} (ho : dO Γ X (compareOp op) z) (ik : dO Γ X (compareOp iq) z') (ha : QE Γ X a pa) (hb : QE Γ X b pb) (hc : QE Γ X c pc) (hm : lastMarks [op, iq] [b, c] = false := by with_unfolding_all rfl) :
    QE Γ X (.Compare a [op, iq] [b, c] pos) (zChain z z' pa pb pc) := by
  obtain ⟨r, h1, h2⟩ := ho
  obtain ⟨r', F3, F4⟩ := ik
  exact (zh h1 F3 ha hb hc hm).imp fun σ H Q h => tZ h2 F4 h
theorem rC {op iq : CmpOp} {z z' : dw} (ho : dO Γ X (compareOp op) z) (ik : dO Γ X (compareOp iq) z') (ha : QE Γ X a pa) (hb : QE Γ X b pb) (hc : QE Γ X c pc) (hm : lastMarks [op, iq] [b, c] = false := by with_unfolding_all rfl) :
    QT Γ X (.Compare a [op, iq] [b, c] pos) (zTest (zChain z z' pa pb pc)) := by
  obtain ⟨r, h1, h2⟩ := ho
  obtain ⟨r', F3, F4⟩ := ik
  exact (zj h1 F3 ha hb hc hm).imp fun σ H Q h => rB (fun _ _ _ => tZ h2 F4) h
variable {tA mV : cP} {rest : List Expr}
noncomputable def zAnd (t u : cP) : cP := fun ρ M Q => t ρ M fun c M1 => if c = true then u ρ M1 Q else Q false M1
noncomputable def zOr (t u : cP) : cP := fun ρ M Q => t ρ M fun c M1 => if c = true then Q true M1 else u ρ M1 Q
noncomputable def zNot (t : cP) : cP := fun ρ M Q => t ρ M fun c M1 => Q (!c) M1
theorem CM (ha : QT Γ X a tA) : QW Γ X (.BoolOp .And [a] pos) tA := B2 ha
theorem nA (ha : QT Γ X a tA) : QW Γ X (.BoolOp .Or [a] pos) tA := Eg ha
theorem F5 (ha : QT Γ X a tA) (hb : QW Γ X (.BoolOp .And (b :: rest) pos) mV) : QW Γ X (.BoolOp .And (a :: b :: rest) pos) (zAnd tA mV) :=
  (Eh ha hb).imp fun σ H Q ⟨β, ρ, M, Q', zr, h, q⟩ => ⟨β, ρ, M, _, zr, h, fun k M1 H1 x1 h1 => by
    cases k with
    | true => rw [if_pos rfl] at h1 ⊢; exact ⟨β, ρ, M1, _, zr.step x1, h1, fun k2 M2 H2 x2 h2 => q _ _ _ (x1.trans x2) h2⟩
    | false => rw [if_neg Bool.false_ne_true] at h1 ⊢; exact q _ _ _ x1 h1⟩
theorem qm (ha : QT Γ X a tA) (hb : QW Γ X (.BoolOp .Or (b :: rest) pos) mV) : QW Γ X (.BoolOp .Or (a :: b :: rest) pos) (zOr tA mV) :=
  (HZ ha hb).imp fun σ H Q ⟨β, ρ, M, Q', zr, h, q⟩ => ⟨β, ρ, M, _, zr, h, fun k M1 H1 x1 h1 => by
    cases k with
    | false => rw [if_neg Bool.false_ne_true] at h1 ⊢; exact ⟨β, ρ, M1, _, zr.step x1, h1, fun k2 M2 H2 x2 h2 => q _ _ _ (x1.trans x2) h2⟩
    | true => rw [if_pos rfl] at h1 ⊢; exact q _ _ _ x1 h1⟩
theorem iF (ha : QT Γ X a tA) : QT Γ X (.UnaryOp .Not a pos) (zNot tA) := (Ei ha).imp fun σ H Q ⟨β, ρ, M, Q', zr, h, q⟩ => ⟨β, ρ, M, _, zr, h, fun k M1 H1 x1 h1 => q _ _ _ x1 h1⟩
theorem QW.pt {e : Expr} {t : cP} (h : QW Γ X e t) : QT Γ X e t := PW.pt h
noncomputable def zAndV (pa pb : aQ) : aQ := fun ρ M Q => pa ρ M (zBool fun c M1 => if c = true then pb ρ M1 Q else Q (.bl false) M1)
noncomputable def zNotV (pa : aQ) : aQ := fun ρ M Q => pa ρ M (zBool fun c M1 => Q (.bl (!c)) M1)
theorem xo {op} (h : QE Γ X a pa) : QE Γ X (.BoolOp op [a] pos) pa := Ej h
theorem xq (ha : QE Γ X a pa) (hb : QE Γ X (.BoolOp .And (b :: rest) pos) pb) : QE Γ X (.BoolOp .And (a :: b :: rest) pos) (zAndV pa pb) :=
  (Ek ha hb).imp fun σ H Q ⟨β, ρ, M, Q', zr, h, q⟩ => ⟨β, ρ, M, _, zr, h, fun d M1 v H1 x1 r1 h1 => by
    obtain ⟨k, rfl, h2⟩ := iD h1
    refine ⟨k, cC r1, ?_⟩
    cases k with
    | true => rw [if_pos rfl] at h2 ⊢; exact ⟨β, ρ, M1, _, zr.step x1, h2, fun d2 M2 v2 H2 x2 r2 h2 => q _ _ _ _ (x1.trans x2) r2 h2⟩
    | false => rw [if_neg Bool.false_ne_true] at h2 ⊢; exact q _ _ _ _ x1 (.bl _) h2⟩
theorem F6 (ha : QE Γ X a pa) : QE Γ X (.UnaryOp .Not a pos) (zNotV pa) := (El ha).imp fun σ H Q ⟨β, ρ, M, Q', zr, h, q⟩ => ⟨β, ρ, M, _, zr, h, fun d M1 v H1 x1 r1 h1 => by
    obtain ⟨k, rfl, h2⟩ := iD h1
    exact ⟨k, cC r1, q _ _ _ _ x1 (.bl _) h2⟩⟩
noncomputable def zNil : eB := fun _ M Q => Q [] M
noncomputable def zCons (p : aQ) (r : eB) : eB := fun ρ M Q => p ρ M fun d M1 => r ρ M1 fun ds M2 => Q (d :: ds) M2
variable {es : List Expr} {za : eB}
theorem ae : QA Γ X [] zNil := wu.imp fun σ H Q ⟨β, ρ, M, Q', zr, h, q⟩ => q [] M [] H (.refl zr.mz) .nil h
theorem aa {e : Expr} (ha : QE Γ X e pa) (hr : QA Γ X es za) (hs : starEach (e :: es) X.env = (false, eval e X.env) :: starEach es X.env := by rfl) : QA Γ X (e :: es) (zCons pa za) :=
  (tM ha hr hs).imp fun σ H Q ⟨β, ρ, M, Q', zr, h, q⟩ => ⟨β, ρ, M, _, zr, h, fun d M1 v H1 x1 r1 h1 => ⟨β, ρ, M1, _, zr.step x1, h1, fun ds M2 vs H2 x2 r2 h2 => q _ _ _ _ (x1.trans x2) (.cons (r1.ex x2) r2) h2⟩⟩
noncomputable def zTup (p : eB) : aQ := fun ρ M Q => p ρ M fun ds M1 => ds.length ≤ sizeLine ∧ Q (.tup ds) M1
noncomputable def zLst (p : eB) : aQ := fun ρ M Q => p ρ M fun ds M1 => ds.length ≤ sizeLine ∧ Q (.lst ds) M1
noncomputable def zLstP (p : eB) : aQ := fun ρ M Q => p ρ M fun ds M1 => ds.length ≤ sizeLine ∧ ∀ a, M1 a = none → Q (.ptr a) (aH M1 a (.lst ds))
theorem aU {x1} (h : QA Γ X es za) : QE Γ X (.Tuple es x1 pos) (zTup za) := (EX h).imp fun σ H Q ⟨β, ρ, M, Q', zr, h, q⟩ => ⟨β, ρ, M, _, zr, h, fun ds M1 vs H1 x1 r1 h1 => ⟨by rw [r1.len]; exact h1.1, fun p hp => by
    have x2 := Ex.lay x1.mz hp (.tup vs)
    exact q _ _ _ _ (x1.trans x2) (fj (x1.mz.fz hp) aG (r1.ex x2)) h1.2⟩⟩
theorem bT (h : QA Γ X es za) : QE Γ X (.List es pos) (zLst za) := (wx h).imp fun σ H Q ⟨β, ρ, M, Q', zr, h, q⟩ => ⟨β, ρ, M, _, zr, h, fun ds M1 vs H1 x1 r1 h1 => ⟨by rw [r1.len]; exact h1.1, fun p hp => by
    have x2 := Ex.lay x1.mz hp (.lst vs)
    exact q _ _ _ _ (x1.trans x2) (nu (x1.mz.fz hp) aG (r1.ex x2)) h1.2⟩⟩
theorem t5 (h : QA Γ X es za) : QE Γ X (.List es pos) (zLstP za) := (wx h).imp fun σ H Q ⟨β, ρ, M, Q', zr, h, q⟩ => ⟨β, ρ, M, _, zr, h, fun ds M1 vs H1 x1 r1 h1 => ⟨by rw [r1.len]; exact h1.1, fun p hp => by
    have x2 := Ex.own x1.mz (.inr hp) r1
    exact q _ _ _ _ (x1.trans x2) (.ptr (by rw [updM_same]; rfl)) (h1.2 p (x1.mz.free hp))⟩⟩
noncomputable abbrev nB := List Dv → Mh → ZK → Prop
noncomputable def Bq (Γ : Gz) (r : List V → Hp → VK → Prop) (z : nB) : Prop := ∀ (β : Bz) xs ds M H Q Q', β.P = Γ.P → β.w = Γ.w → β.K = Γ.K → Mz β M H → aM β M H xs ds → z ds M Q' → (∀ d' M' v H', Ex β M H M' H' → Rz β M' H' v d' → Q' d' M' → Q v H') → r xs H Q
noncomputable def gw (Γ : Gz) (X : Cx) (f : Value) (z : nB) : Prop := ∃ r, dQ X f r ∧ Bq Γ r z
noncomputable def zCB (z : nB) (p : eB) : aQ := fun ρ M Q => p ρ M fun ds M1 => z ds M1 Q
theorem F7 {r : List V → Hp → VK → Prop} {z : nB} (hz : Bq Γ r z) {σ : St} {H : Hp} {Q : VK} (h : lE Γ (zCB z za) σ H Q) : E1 r (lA Γ za) σ H Q := by
  obtain ⟨β, ρ, M, Q', zr, h, q⟩ := h
  exact ⟨β, ρ, M, _, zr, h, fun ds M1 vs H1 x1 r1 h1 => hz β vs ds M1 H1 _ _ zr.eP zr.ew zr.eK x1.mz r1 h1 fun d' M' v' H' x2 r2 q2 => q _ _ _ _ (x1.trans x2) r2 q2⟩
variable {st : Stmt} {v3 : List Stmt} {p p2 : bO} {e : Expr} {pe : aQ}
noncomputable def zNext : bO := fun D ρ M => D.nx ρ M
noncomputable def zSeq (p q : bO) : bO := fun D ρ M => p { D with nx := q D } ρ M
theorem qss_nil : iC Γ X [] zNext := B3.imp fun D σ H ⟨β, ρ, M, D', zr, h, r⟩ => r.nx ρ M σ H (.refl zr.mz) zr h
theorem ai (h1 : QS Γ X st p) (h2 : iC Γ X v3 p2) : iC Γ X (st :: v3) (zSeq p p2) := (y4 h1 h2).imp fun D σ H ⟨β, ρ, M, D', zr, h, r⟩ =>
  ⟨β, ρ, M, _, zr, h, fun bw M' aA H' x fP h' => ⟨β, bw, M', D', fP, h', r.step x⟩, r.rt, r.bk, r.ct⟩
theorem aB (h1 : QS Γ X st p) : iC Γ X [st] p := B4 h1
noncomputable def zDrop (p : aQ) : bO := fun D ρ M => p ρ M fun _ M1 => D.nx ρ M1
theorem fG (he : QE Γ X e pe) (hs : swapsWith e none pos.line X.env = pure false := by rfl) : QS Γ X (.Expr e pos) (zDrop pe) := (B5 he hs).imp fun D σ H ⟨β, ρ, M, D', zr, h, r⟩ =>
  ⟨β, ρ, M, _, zr, h, fun d M1 v H1 x1 r1 h1 => r.nx ρ M1 σ H1 x1.ev (zr.step x1) h1⟩
noncomputable def zRet (p : aQ) : bO := fun D ρ M => p ρ M D.rt
theorem bo (he : QE Γ X e pe) : QS Γ X (.Return (some e) pos) (zRet pe) := (Em he).imp fun D σ H ⟨β, ρ, M, D', zr, h, r⟩ => ⟨β, ρ, M, _, zr, h, fun d M' v H' x r1 h1 => r.rt _ _ _ _ x.ev (zr.ent.trans x.toEy) r1 h1⟩
noncomputable def zIfS (c : cP) (p q : bO) : bO := fun D ρ M => c ρ M fun b M1 => if b = true then p D ρ M1 else q D ρ M1
theorem cS {as bs : List Stmt} {pa pb : bO} (hc : QT Γ X c tA) (ha : iC Γ X as pa) (hb : iC Γ X bs pb) : QS Γ X (.If c as bs pos) (zIfS tA pa pb) := (Ig hc ha hb).imp fun D σ H ⟨β, ρ, M, D', zr, h, r⟩ =>
  ⟨β, ρ, M, _, zr, h, fun k M1 H1 x1 h1 => by
    cases k with
    | true => rw [if_pos rfl] at h1 ⊢; exact ⟨β, ρ, M1, D', zr.step x1, h1, r.step x1.ev⟩
    | false => rw [if_neg Bool.false_ne_true] at h1 ⊢; exact ⟨β, ρ, M1, D', zr.step x1, h1, r.step x1.ev⟩⟩
noncomputable def zNever : bO := fun _ _ _ => False
theorem L6 : QS Γ X st zNever := y6.imp fun D σ H ⟨β, ρ, M, D', zr, h, r⟩ => h
theorem gJ : iC Γ X v3 zNever := vZ.imp fun D σ H ⟨β, ρ, M, D', zr, h, r⟩ => h
noncomputable def zgName (i : Nat) : cx := fun d ρ M N => N (ρ.set i (some d)) M
theorem bE {i : Nat} {x : Str} (hN : X.N.Nodup) (hi : X.N[i]? = some x) (hx : Loc X.env.scope x) (hf : X.fn x = true ∨ X.env.scope.names.lookup x = some .local := by first | exact .inl rfl | exact .inr rfl | assumption) : QG Γ X (.Name x pos) (zgName i) :=
  (B6 hN hi hx hf).imp fun v σ H N ⟨β, d, ρ, M, N', zr, r, h, q⟩ => q _ _ _ _ (.refl zr.mz) (zr.set i r) h
noncomputable def zgNil : kO := fun ds ρ M N => match ds with | [] => N ρ M | _ => False
noncomputable def zgCons (g : cx) (u : kO) : kO := fun ds ρ M N => match ds with | d :: r => g d ρ M fun bw M' => u r bw M' N | [] => False
theorem CO : Bp Γ X [] zgNil := B7.imp fun vs σ H N ⟨β, ds, ρ, M, N', zr, r, h, q⟩ => by
  unfold zgNil at h
  split at h
  · have e : vs = [] := List.length_eq_zero_iff.mp r.len
    exact ⟨e, q _ _ _ _ (.refl zr.mz) zr h⟩
  · exact h.elim
theorem rD {g : cx} {u : kO} (h1 : QG Γ X e g) (h2 : Bp Γ X es u) (hs : (assignEach (e :: es) X.env).map (·.2) = assign e X.env :: (assignEach es X.env).map (·.2) := by rfl) : Bp Γ X (e :: es) (zgCons g u) :=
  (y8 h1 h2 hs).imp fun vs σ H N ⟨β, ds, ρ, M, N', zr, r, h, q⟩ => by
    unfold zgCons at h
    split at h
    · rename_i d rest
      cases vs with
      | nil => exact absurd r.len (by simp)
      | cons v vs => exact ⟨v, vs, rfl, β, d, ρ, M, _, zr, r.head, h, fun bw M' aA H' x fP h' => ⟨β, rest, bw, M', N', fP, r.tail.ex x, h', fun a b c d y => q a b c d (x.trans y)⟩⟩
    · exact h.elim
noncomputable def zgTup (n : Nat) (u : kO) : cx := fun d ρ M N => match d with | .tup ds => ds.length = n ∧ u ds ρ M N | _ => False
theorem F8 {k : Nat} {u : kO} {n : Nat} (hc : X.calm = true) (h : Bp Γ X es u) (hn : (assignEach es X.env).length = n := by rfl) (lR : (assignEach es X.env).findIdx? (·.1) = none := by rfl) : QG Γ X (.Tuple es k pos) (zgTup n u) :=
  (Eo hc h hn lR).imp fun v σ H N ⟨β, d, ρ, M, N', zr, r, h, q⟩ => by
    unfold zgTup at h
    split at h
    · obtain ⟨a, vs, rfl, m, e, rs⟩ := cj r
      exact ⟨a, vs, rfl, bN.of e, by rw [rs.len]; exact h.1, β, _, ρ, M, N', zr, rs, h.2, q⟩
    · exact h.elim
noncomputable def zAsg (p : aQ) (g : cx) : bO := fun D ρ M => p ρ M fun d M1 => g d ρ M1 D.nx
theorem IL {g : cx} {D : Ends} {σ : St} {H : Hp} (h : lS Γ (zAsg pe g) D σ H) : n5 (lE Γ pe) (lG Γ g) D σ H := by
  obtain ⟨β, ρ, M, D', zr, h, r⟩ := h
  exact ⟨β, ρ, M, _, zr, h, fun d M1 v H1 x1 r1 h1 => ⟨β, d, ρ, M1, D'.nx, zr.step x1, r1, h1, fun bw M' aA H' x fP h' => r.nx _ _ _ _ (x1.trans x).ev fP h'⟩⟩
theorem jC {tg : Expr} {g : cx} (he : QE Γ X e pe) (hg : QG Γ X tg g) (hs : swapsWithSole [tg] e pos.line X.env = pure false := by rfl) (hw : swappedStores [tg] e X.env = pure none := by rfl)
    (h1 : (assignEach [tg] X.env).map (·.2) = [assign tg X.env] := by rfl) : QS Γ X (.Assign [tg] e pos) (zAsg pe g) := (Er he hg hs hw h1).imp fun D σ H h => IL h
theorem uU {t : TE} (i : ∀ σ H Q, lE Γ pe σ H Q → t σ H Q) {n : Nat} {D : Ends} {σ : St} {H : Hp} (h : lS Γ (zAsg pe (zgName n)) D σ H) : n5 t (mX n) D σ H := by
  obtain ⟨β, ρ, M, D', zr, h, r⟩ := h
  exact i _ _ _ ⟨β, ρ, M, _, zr, h, fun d M1 v H1 x1 r1 h1 => r.nx _ _ _ _ x1.ev ((zr.step x1).set n r1) h1⟩
theorem aF {i : Nat} {x : Str} {pos' : Pos} (hN : X.N.Nodup) (hi : X.N[i]? = some x) (hx : Loc X.env.scope x) (he : QE Γ X e pe) (hs : swapsWith e (some (.Name x pos')) pos.line X.env = pure false := by rfl) (hf : X.fn x = true ∨ X.env.scope.names.lookup x = some .local := by first | exact .inl rfl | exact .inr rfl | assumption) :
    QS Γ X (.Assign [.Name x pos'] e pos) (zAsg pe (zgName i)) := (Es hN hi hx he hs hf).imp fun D σ H h => uU (fun _ _ _ h => h) h
end
section
variable {X : Cx} {Γ : Gz} {β : Bz}
noncomputable def ziTup (p : aQ) : fk := fun ρ M R => p ρ M fun d M1 => match d with | .tup ds => R ds M1 | _ => False
noncomputable def ziLst (p : aQ) : fk := fun ρ M R => p ρ M fun d M1 => match d with | .lst ds => R ds M1 | _ => False
noncomputable def kQ (z : Str) : List Dv := z.cps.toList.map fun c => .str ⟨#[c]⟩
noncomputable def ziStr (p : aQ) : fk := fun ρ M R => p ρ M fun d M1 => match d with | .str z => R (kQ z) M1 | _ => False
noncomputable def dF (lo : Int) (n : Nat) : List Dv := (List.range n).map fun i => .int (lo + (i : Nat))
noncomputable def ziRng1 (p : eB) : fk := fun ρ M R => p ρ M fun ds M1 => match ds with | [.int j] => -(2 ^ 62) ≤ j ∧ j < 2 ^ 62 ∧ R (dF 0 j.toNat) M1 | _ => False
noncomputable def ziRng2 (p : eB) : fk := fun ρ M R => p ρ M fun ds M1 => match ds with | [.int i, .int j] => (-(2 ^ 62) ≤ i ∧ i < 2 ^ 62 ∧ -(2 ^ 62) ≤ j ∧ j < 2 ^ 62) ∧ R (dF i (j - i).toNat) M1 | _ => False
theorem iG {J : It} {vs : List V} {ds : List Dv} {M : Mh} {H : Hp} (r : aM β M H vs ds) (h : ∀ M' H', Ey M H M' H' → Runs J vs H') : xn β J ds M H := fun cm M' H' bx x m i => by
  have q := h M' H' x i
  rw [← r.len]
  refine ⟨fun hi => ⟨(q.1 hi).1, fun v kP y => ?_⟩, q.2⟩
  obtain ⟨e, hv⟩ := (q.1 hi).2 v kP y
  subst e
  obtain ⟨d, hd, rd⟩ := r.get' hv
  exact ⟨.refl m, d, hd, (rd.bx bx).ey x⟩
variable {tg l : Expr} {p : aQ} {pa : eB} {K : PySem.W.Frag}
theorem rE (hK : X.K = K) (hl : QE Γ X l p) : QI Γ X tg l (ziTup p) := (Cy hK hl).imp fun σ H R ⟨β, ρ, M, R', zr, h, q⟩ => ⟨β, ρ, M, _, zr, h, fun d M1 v H1 x1 r1 h1 => by
  revert h1
  split
  · intro h1
    obtain ⟨a, vs, rfl, m, e, rs⟩ := cj r1
    exact ⟨a, rfl, ⟨_, bN.of e⟩, q _ _ _ _ x1 (iG rs fun M' H' x => zD (bN.of (x.get m.1 e rfl))) h1⟩
  · exact fun h => h.elim⟩
theorem oo (hK : X.K = K) (hl : QE Γ X l p) : QI Γ X tg l (ziLst p) := (zF hK hl).imp fun σ H R ⟨β, ρ, M, R', zr, h, q⟩ => ⟨β, ρ, M, _, zr, h, fun d M1 v H1 x1 r1 h1 => by
  revert h1
  split
  · intro h1
    obtain ⟨a, vs, rfl, m, e, rs⟩ := da r1
    exact ⟨a, rfl, ⟨_, bM.of e⟩, q _ _ _ _ x1 (iG rs fun M' H' x => wW (bM.of (x.get m.1 e rfl))) h1⟩
  · exact fun h => h.elim⟩
theorem xr {z : Str} {M : Mh} {H : Hp} : aM β M H (iy z) (kQ z) := ⟨by simp [iy, kQ], fun i v d a b => by
  unfold iy at a
  unfold kQ at b
  rw [List.getElem?_map] at a b
  cases e : z.cps.toList[i]? with
  | none => rw [e] at a; cases a
  | some c => rw [e] at a b; cases a; cases b; exact .str _⟩
theorem F9 (hl : QE Γ X l p) : QI Γ X tg l (ziStr p) := (Fw hl).imp fun σ H R ⟨β, ρ, M, R', zr, h, q⟩ => ⟨β, ρ, M, _, zr, h, fun d M1 v H1 x1 r1 h1 => by
  revert h1
  split
  · intro h1
    exact ⟨_, bI r1, q _ _ _ _ x1 (iG xr fun M' H' x => zE) h1⟩
  · exact fun h => h.elim⟩
theorem pF {lo : Int} {n : Nat} {M : Mh} {H : Hp} : aM β M H ((List.range n).map fun i => V.int (lo + (i : Nat))) (dF lo n) := ⟨by simp [dF], fun i v d a b => by
  unfold dF at b
  rw [List.getElem?_map] at a b
  cases e : (List.range n)[i]? with
  | none => rw [e] at a; cases a
  | some c => rw [e] at a b; cases a; cases b; exact .int _⟩
theorem eQ {xs : List V} {d : Dv} {M : Mh} {H : Hp} (r : aM β M H xs [d]) : ∃ v, xs = [v] ∧ Rz β M H v d := by
  match xs, r with
  | [v], r => exact ⟨v, rfl, r.head⟩
  | [], r => exact absurd r.len (by simp)
  | _ :: _ :: _, r => exact absurd r.len (by simp)
theorem gd {xs : List V} {d e : Dv} {M : Mh} {H : Hp} (r : aM β M H xs [d, e]) : ∃ v u, xs = [v, u] ∧ Rz β M H v d ∧ Rz β M H u e := by
  match xs, r with
  | [v, u], r => exact ⟨v, u, rfl, r.head, r.tail.head⟩
  | [], r => exact absurd r.len (by simp)
  | [_], r => exact absurd r.len (by simp)
  | _ :: _ :: _ :: _, r => exact absurd r.len (by simp)
section
variable {e e1 e2 : Expr} {pr pos : Pos}
theorem Ga {σ : St} {H : Hp} {R : It → Hp → Prop} (h : lI Γ (ziRng1 pa) σ H R) : Bb (lA Γ pa) σ H R := by
  obtain ⟨β, ρ, M, R', zr, h, q⟩ := h
  refine ⟨β, ρ, M, _, zr, h, fun ds M1 vs H1 x1 r1 h1 => ?_⟩
  revert h1
  split
  · rintro ⟨b1, b2, h1⟩
    obtain ⟨v, rfl, r⟩ := eQ r1
    rw [aK r]
    exact ⟨_, rfl, b1, b2, q _ _ _ _ x1 (iG pF fun M' H' x => ni) h1⟩
  · exact fun h => h.elim
theorem Gb {σ : St} {H : Hp} {R : It → Hp → Prop} (h : lI Γ (ziRng2 pa) σ H R) : Bc (lA Γ pa) σ H R := by
  obtain ⟨β, ρ, M, R', zr, h, q⟩ := h
  refine ⟨β, ρ, M, _, zr, h, fun ds M1 vs H1 x1 r1 h1 => ?_⟩
  revert h1
  split
  · rintro ⟨b1, h1⟩
    obtain ⟨v, u, rfl, r, r'⟩ := gd r1
    rw [aK r, aK r']
    exact ⟨_, _, rfl, b1, q _ _ _ _ x1 (iG pF fun M' H' x => ni) h1⟩
  · exact fun h => h.elim
end
noncomputable def zLoop (g : cx) (tb : bO) (D : fO) : List Dv → av → Mh → Prop
  | [], ρ, M => D.nx ρ M
  | d :: ds, ρ, M => g d ρ M fun fm M2 => tb { D with nx := zLoop g tb D ds, ct := zLoop g tb D ds, bk := D.nx } fm M2
noncomputable def zFor (zi : fk) (g : cx) (tb : bO) : bO := fun D ρ M => zi ρ M fun ds M1 => zLoop g tb D ds ρ M1
noncomputable def zForM (zi : fk) (g : cx) (tb : Mh → bO) : bO := fun D ρ M => zi ρ M fun ds M1 => zLoop g (tb M1) D ds ρ M1
theorem Zr.root {M : Mh} {ρ : av} {σ : St} {H : Hp} (z : Zr Γ β M ρ σ H) : Zr ⟨β, M, H⟩ β M ρ σ H := ⟨rfl, rfl, rfl, rfl, fun _ h => h, z.mz.wf, .refl, z.mz, z.len, z.at'⟩
theorem Zr.xt {M M1 : Mh} {ρ Km : av} {σ lQ : St} {H H1 : Hp} (z : Zr Γ β M ρ σ H) (y : Zr ⟨β, M, H⟩ β M1 Km lQ H1) : Zr Γ β M1 Km lQ H1 := ⟨z.eP, z.ew, z.eK, z.et, z.sub, z.wf, z.ent.trans y.ent, y.mz, y.len, y.at'⟩
theorem IM {zi : fk} {g : cx} {tb : Mh → bO} {t : TS} (hb : ∀ aV : Gz, aV.P = Γ.P → aV.w = Γ.w → aV.K = Γ.K → aV.tb = Γ.tb → ∀ D σ H, lS aV (tb aV.M0) D σ H → t D σ H) {tg : TG} (hg : ∀ aV : Gz, aV.P = Γ.P → aV.w = Γ.w → aV.K = Γ.K → aV.tb = Γ.tb → ∀ x σ H N, lG aV g x σ H N → tg x σ H N) {D : Ends} {σ : St} {H : Hp} (h : lS Γ (zForM zi g tb) D σ H) : EB (lI Γ zi) tg t D σ H := by
  obtain ⟨β, ρ, M, D', zr, h, r⟩ := h
  refine ⟨β, ρ, M, _, zr, h, fun ds M1 H1 J x1 it h1 => ?_⟩
  have j9 := zr.step x1
  refine ⟨fun i m aA H' => m = ds.length - i ∧ i ≤ ds.length ∧ ∃ bw M', Zr ⟨β, M1, H1⟩ β M' bw aA H' ∧ zLoop g (tb M1) D' (ds.drop i) bw M', ⟨ds.length, rfl, Nat.zero_le _, ρ, M1, j9.root, h1⟩, ?_⟩
  rintro i m aA H' ⟨rfl, hi, bw, M', fP, h'⟩
  have ev : ∀ {M2 : Mh} {fm : av} {gC : St} {H2 : Hp}, Zr ⟨β, M1, H1⟩ β M2 fm gC H2 → Ev β M H M2 H2 := fun z => x1.ev.trans ⟨z.ent.keep, z.ent.new, z.mz⟩
  by_cases dy : i < ds.length
  · have q := (it β M' H' .refl fP.ent fP.mz i).1 dy
    refine .inr ⟨q.1, fun gC H2 => ∃ fm M2, Zr ⟨β, M1, H1⟩ β M2 fm gC H2 ∧ zLoop g (tb M1) D' (ds.drop (i + 1)) fm M2, fun gC H2 ⟨fm, M2, NR, h2⟩ => ⟨ds.length - (i + 1), by omega, rfl, dy, fm, M2, NR, h2⟩, fun v kP y => ?_⟩
    obtain ⟨x2, d, hd, rd⟩ := q.2 v kP y
    have e : ds.drop i = d :: ds.drop (i + 1) := by
      rw [List.drop_eq_getElem_cons dy]
      rw [List.getElem?_eq_getElem dy] at hd
      cases hd
      rfl
    rw [e] at h'
    refine hg ⟨β, M1, H1⟩ zr.eP zr.ew zr.eK zr.et _ _ _ _ ⟨β, d, bw, M', _, fP.step x2, rd, h', fun NS M3 j1 H3 x3 NT h3 => hb ⟨β, M1, H1⟩ zr.eP zr.ew zr.eK zr.et _ _ _ ⟨β, NS, M3, _, NT, h3, ?_⟩⟩
    exact ⟨fun nC M4 xu H4 x4 ka h4 => ⟨nC, M4, ka, h4⟩, fun d4 M4 v4 H4 x4 e4 r4 h4 => r.rt _ _ _ _ (x1.ev.trans ⟨e4.keep, e4.new, x4.mz⟩) (j9.ent.trans e4) r4 h4, fun nC M4 xu H4 x4 ka h4 => r.nx _ _ _ _ (ev ka) (j9.xt ka) h4, fun nC M4 xu H4 x4 ka h4 => ⟨nC, M4, ka, h4⟩⟩
  · have e : i = ds.length := by omega
    subst e
    rw [List.drop_length] at h'
    exact .inl ⟨(it β M' H' .refl fP.ent fP.mz _).2 (Nat.le_refl _), r.nx _ _ _ _ (ev fP) (j9.xt fP) h'⟩
noncomputable def NU (Γ : Gz) (p : Mh → bO) : TS := fun D σ H => ∃ aV : Gz, aV.P = Γ.P ∧ aV.w = Γ.w ∧ aV.K = Γ.K ∧ aV.tb = Γ.tb ∧ lS aV (p aV.M0) D σ H
noncomputable def NV (Γ : Gz) (p : cx) : TG := fun x σ H N => ∃ aV : Gz, aV.P = Γ.P ∧ aV.w = Γ.w ∧ aV.K = Γ.K ∧ aV.tb = Γ.tb ∧ lG aV p x σ H N
theorem CP {body : List Stmt} {iter : Expr} {zi : fk} {g : cx} {tb : Mh → bO} {pos : Pos} (hp : PassesOwn (model X.prog X.w) X.A X.env X.xe) (hc : X.calm = true) (hi : QI Γ X tg iter zi)
    (Br : ∀ (aV : Gz) (M1 : Mh), aV.M0 = M1 → aV.P = Γ.P → aV.w = Γ.w → aV.K = Γ.K → aV.tb = Γ.tb → QG aV X tg g ∧ iC aV X body (tb M1))
    (hs : ∀ x, foldedSetIterable iter X.env x = pure x := by intro _; rfl) : QS Γ X (.For tg iter body [] pos) (zForM zi g tb) :=
  (EC (g := NV Γ g) (tb := NU Γ tb) hp hc hi (fun pins s σ H v u Q I r h => by obtain ⟨aV, e1, e2, e3, e4, h⟩ := h; exact (Br aV _ rfl e1 e2 e3 e4).1 pins s σ H v u Q I r h) ⟨fun pins s σ H D I h => by obtain ⟨aV, e1, e2, e3, e4, h⟩ := h; exact (Br aV _ rfl e1 e2 e3 e4).2 pins s σ H D I h⟩ hs).imp
    fun D σ H h => IM (fun aV e1 e2 e3 e4 D σ H h => ⟨aV, e1, e2, e3, e4, h⟩) (fun aV e1 e2 e3 e4 x σ H N h => ⟨aV, e1, e2, e3, e4, h⟩) h
theorem nD {body : List Stmt} {iter : Expr} {zi : fk} {g : cx} {tb : bO} {pos : Pos} (hp : PassesOwn (model X.prog X.w) X.A X.env X.xe) (hc : X.calm = true) (hi : QI Γ X tg iter zi)
    (Br : ∀ aV : Gz, aV.P = Γ.P → aV.w = Γ.w → aV.K = Γ.K → aV.tb = Γ.tb → QG aV X tg g ∧ iC aV X body tb)
    (hs : ∀ x, foldedSetIterable iter X.env x = pure x := by intro _; rfl) : QS Γ X (.For tg iter body [] pos) (zFor zi g tb) := CP (tb := fun _ => tb) hp hc hi (fun aV M1 _ e1 e2 e3 e4 => Br aV e1 e2 e3 e4) hs
theorem de {a : Expr} {p pos : Pos} (hg : Gl X "range") (hm : X.mg "range" = none) (ha : QA Γ X [a] pa) (hs : starEach [a] X.env = [(false, eval a X.env)] := by rfl) : QI Γ X tg (.Call (.Name "range" p) [a] [] pos) (ziRng1 pa) := (wc hg hm ha hs).imp fun σ H R h => Ga h
theorem xx {a b : Expr} {p pos : Pos} (hg : Gl X "range") (hm : X.mg "range" = none) (ha : QA Γ X [a, b] pa) (hs : starEach [a, b] X.env = [(false, eval a X.env), (false, eval b X.env)] := by rfl) (Bd : starEach [b] X.env = [(false, eval b X.env)] := by rfl) :
    QI Γ X tg (.Call (.Name "range" p) [a, b] [] pos) (ziRng2 pa) := (wd hg hm ha hs Bd).imp fun σ H R h => Gb h
noncomputable def xA (c : cP) (tb : bO) : bO := fun D ρ M => ∃ W : Nat → av → Mh → Prop, (∃ m, W m ρ M) ∧ ∀ m ρ M, W m ρ M →
  c ρ M fun b M1 => if b = true then tb { D with nx := fun bw M' => ∃ m', m' < m ∧ W m' bw M', ct := fun bw M' => ∃ m', m' < m ∧ W m' bw M', bk := D.nx } ρ M1 else D.nx ρ M1
theorem CQ {c : cP} {tb : bO} {D : Ends} {σ : St} {H : Hp} (h : lS Γ (xA c tb) D σ H) : v7 (lT Γ c) (lS Γ tb) D σ H := by
  obtain ⟨β, ρ, M, D', zr, ⟨W, ⟨m0, w0⟩, turn⟩, r⟩ := h
  refine ⟨fun m aA H' => ∃ bw M', Ev β M H M' H' ∧ Zr Γ β M' bw aA H' ∧ W m bw M', ⟨m0, ρ, M, .refl zr.mz, zr, w0⟩, ?_⟩
  rintro m aA H' ⟨bw, M', x', fP, w'⟩
  refine ⟨β, bw, M', _, fP, turn m bw M' w', fun k M1 H1 x1 h1 => ?_⟩
  have xB := x'.trans x1.ev
  cases k with
  | true =>
    dsimp only at h1 ⊢
    rw [if_pos rfl] at h1 ⊢
    refine ⟨fun gC H2 => ∃ m', m' < m ∧ ∃ fm M2, Ev β M H M2 H2 ∧ Zr Γ β M2 fm gC H2 ∧ W m' fm M2, fun gC H2 h2 => h2, β, bw, M1, _, fP.step x1, h1, ?_⟩
    exact ⟨fun nC M4 xu H4 x4 ka ⟨m', hm, w4⟩ => ⟨m', hm, nC, M4, xB.trans x4, ka, w4⟩, fun d4 M4 v4 H4 x4 e4 r4 h4 => r.rt _ _ _ _ (xB.trans x4) e4 r4 h4, fun nC M4 xu H4 x4 ka h4 => r.nx _ _ _ _ (xB.trans x4) ka h4, fun nC M4 xu H4 x4 ka ⟨m', hm, w4⟩ => ⟨m', hm, nC, M4, xB.trans x4, ka, w4⟩⟩
  | false =>
    dsimp only at h1 ⊢
    rw [if_neg Bool.false_ne_true] at h1 ⊢
    exact r.nx _ _ _ _ xB (fP.step x1) h1
theorem zT {body : List Stmt} {c : Expr} {zc : cP} {tb : bO} {pos : Pos} (hp : PassesOwn (model X.prog X.w) X.A X.env X.xe) (hc : QT Γ X c zc) (hb : iC Γ X body tb) : QS Γ X (.While c body [] pos) (xA zc tb) := (y9 hp hc hb).imp fun D σ H h => CQ h
theorem kR {g : cx} {tb : bO} {D : fO} (J : Nat → av → Mh → Prop) {ds : List Dv} {ρ : av} {M : Mh} (h0 : J 0 ρ M)
    (hs : ∀ i d ρ M (N : av → Mh → Prop), ds[i]? = some d → J i ρ M → (∀ bw M', J (i + 1) bw M' → N bw M') → g d ρ M fun fm M2 => tb { D with nx := N, ct := N, bk := D.nx } fm M2)
    (hd : ∀ ρ M, J ds.length ρ M → D.nx ρ M) : zLoop g tb D ds ρ M := by
  have key : ∀ (n i : Nat) ρ M, n = ds.length - i → i ≤ ds.length → J i ρ M → zLoop g tb D (ds.drop i) ρ M := by
    intro n
    induction n with
    | zero =>
      intro i ρ M e hi h
      have : i = ds.length := by omega
      subst this
      rw [List.drop_length]
      exact hd _ _ h
    | succ n ih =>
      intro i ρ M e hi h
      have dy : i < ds.length := by omega
      rw [List.drop_eq_getElem_cons dy]
      exact hs i _ ρ M _ (List.getElem?_eq_getElem dy) h fun ρ M h => ih (i + 1) ρ M (by omega) dy h
  exact key _ 0 ρ M rfl (Nat.zero_le _) h0
end
section
variable {X : Cx} {Γ : Gz} {β : Bz}
noncomputable def zBlock (tn : Nat) (idx : List Nat) (ρ : av) : av := List.replicate tn none ++ idx.map fun i => (ρ[i]?).join
theorem Zr.block {M : Mh} {ρ : av} {σ : St} {H : Hp} (z : Zr Γ β M ρ σ H) (tn : Nat) (idx : List Nat) : Zr Γ β M (zBlock tn idx ρ) (bD tn idx σ) H := ⟨z.eP, z.ew, z.eK, z.et, z.sub, z.wf, z.ent, z.mz, by simp [zBlock, bD], fun i d e => by
  unfold zBlock at e
  unfold bD
  rw [List.getElem?_append] at e ⊢
  rw [List.length_replicate] at e ⊢
  split at e
  · rw [List.getElem?_replicate] at e
    split at e <;> cases e
  · rename_i hi
    rw [if_neg hi]
    rw [List.getElem?_map] at e ⊢
    cases q : idx[i - tn]? with
    | none => rw [q] at e; cases e
    | some j =>
      rw [q] at e
      have e2 : ρ[j]? = some (some d) := by
        simp only [Option.map_some, Option.some.injEq] at e
        cases q2 : ρ[j]? with
        | none => rw [q2] at e; cases e
        | some o => rw [q2] at e; simp only [Option.join_some] at e; rw [e]
      obtain ⟨v, hv, r⟩ := z.at' j d e2
      exact ⟨v, by simp [hv], r⟩⟩
theorem Zr.enter {M : Mh} {ρ : av} {σ : St} {H : Hp} {D : Addr} {o : HO} (z : Zr Γ β M ρ σ H) (hD : H D = none) (ho : mB o = true) : Zr Γ (β.add D) M ρ σ (upd H D o) :=
  ⟨z.eP, z.ew, z.eK, z.et, fun a h => List.mem_cons_of_mem _ (z.sub a h), z.wf, z.ent.over (z.ent.gone hD (by
    cases e : Γ.M0 D with
    | none => rfl
    | some u => have := z.ent.dom D (by rw [e]; rfl); rw [z.mz.free hD] at this; cases this)), z.mz.enter hD ho, z.len, fun i d e => let ⟨v, h, r⟩ := z.at' i d e; ⟨v, h, r.enter hD⟩⟩
theorem Zr.over {M : Mh} {ρ : av} {σ : St} {H : Hp} {D : Addr} {o : HO} (z : Zr Γ β M ρ σ H) (hD : D ∈ β.hid) (ho : mB o = true) (hM : M D = none) (ht : D ∉ β.tb) (h0 : Γ.H0 D = none) : Zr Γ β M ρ σ (upd H D o) :=
  ⟨z.eP, z.ew, z.eK, z.et, z.sub, z.wf, z.ent.over h0, z.mz.over hD ho hM ht, z.len, fun i d e => let ⟨v, h, r⟩ := z.at' i d e; ⟨v, h, r.over hD⟩⟩
noncomputable abbrev rF (Γ : Gz) (X : Cx) (ifs : List Expr) (t : cP) : Prop := jx X ifs (lT Γ t)
noncomputable def zNoIf : cP := fun _ M Q => Q true M
theorem cJ : rF Γ X [] zNoIf := Cu.imp fun σ H Q ⟨β, ρ, M, Q', zr, h, q⟩ => q true M H (.refl zr.mz) h
theorem CT {c : Expr} {tc : cP} (h : QT Γ X c tc) : rF Γ X [c] tc := Cv h
noncomputable def fQ (g : cx) (tt : cP) (te : aQ) : List Dv → av → Mh → (List Dv → Mh → Prop) → Prop
  | [], _, M, Q => Q [] M
  | d :: ds, τ, M, Q => g d τ M fun aE M2 => tt aE M2 fun b M3 => if b = true then te aE M3 fun y M4 => fQ g tt te ds aE M4 fun ys M5 => Q (y :: ys) M5 else fQ g tt te ds aE M3 Q
structure Acc (Γ : Gz) (β : Bz) (D : Addr) (M1 : Mh) (H1 : Hp) (cF : av) (M : Mh) (τ : St) (H : Hp) (acc : List V) (bQ : List Dv) : Prop where
  ey : Ey M1 H1 M H
  m : M D = none
  zr : Zr Γ (β.add D) M cF τ H
  at' : H D = some (.lst acc)
  rs : aM (β.add D) M H acc bQ
  h1 : H1 D = none
  h0 : Γ.H0 D = none
  nt : D ∉ β.tb
theorem Acc.start {D : Addr} {M1 : Mh} {H1 : Hp} {cF : av} {τ : St} (zr : Zr Γ β M1 cF τ H1) (hD : H1 D = none) : Acc Γ β D M1 H1 cF M1 τ (upd H1 D (.lst [])) [] [] :=
  ⟨Ey.refl.over hD, zr.mz.free hD, zr.enter hD rfl, aG, .nil, hD, zr.ent.gone hD (by
    cases e : Γ.M0 D with
    | none => rfl
    | some u => have := zr.ent.dom D (by rw [e]; rfl); rw [zr.mz.free hD] at this; cases this), zr.mz.LZ hD⟩
section
variable {D : Addr} {M1 M M2 : Mh} {H1 H H2 : Hp} {cF Gd : av} {τ aE : St} {acc : List V} {bQ : List Dv}
theorem Acc.step (A : Acc Γ β D M1 H1 cF M τ H acc bQ) (x : Ex (β.add D) M H M2 H2) (z : Zr Γ (β.add D) M2 Gd aE H2) : Acc Γ β D M1 H1 Gd M2 aE H2 acc bQ :=
  ⟨A.ey.trans x.toEy, x.new D _ A.m A.at', z, x.get A.m A.at' rfl, A.rs.ex x, A.h1, A.h0, A.nt⟩
theorem Acc.snoc (A : Acc Γ β D M1 H1 cF M τ H acc bQ) {y : V} {d : Dv} (r : Rz (β.add D) M H y d) : Acc Γ β D M1 H1 cF M τ (upd H D (.lst (acc ++ [y]))) (acc ++ [y]) (bQ ++ [d]) := by
  have hD : D ∈ (β.add D).hid := List.mem_cons_self
  exact ⟨A.ey.over A.h1, A.m, A.zr.over hD rfl A.m A.nt A.h0, aG, ⟨by simp [A.rs.len], fun i v d a b => ((A.rs.snoc r).at' i v d a b).over hD⟩, A.h1, A.h0, A.nt⟩
theorem Acc.fz (A : Acc Γ β D M1 H1 cF M τ H acc bQ) (m1 : Mz β M1 H1) : Fz β M D := ⟨A.m, (m1.fz A.h1).2⟩
theorem Acc.mz (A : Acc Γ β D M1 H1 cF M τ H acc bQ) : Mz β M H := Mz.sub (β := β.add D) (cm := β) rfl rfl rfl rfl (fun a h => List.mem_cons_of_mem _ h) A.zr.mz
theorem Acc.items (A : Acc Γ β D M1 H1 cF M τ H acc bQ) : aM β M H acc bQ := ⟨A.rs.len, fun i v d a b => Rz.sub (β := β.add D) (cm := β) rfl rfl rfl (fun a h => List.mem_cons_of_mem _ h) (A.rs.at' i v d a b)⟩
theorem Acc.ex (A : Acc Γ β D M1 H1 cF M τ H acc bQ) : Ex β M1 H1 M H := ⟨A.ey, A.mz⟩
end
noncomputable def zComp (tn : Nat) (idx : List Nat) (zi : fk) (g : cx) (tt : cP) (te : aQ) : aQ := fun ρ M Q => zi ρ M fun ds M1 => ds.length < sizeLine ∧ fQ g tt te ds (zBlock tn idx ρ) M1 fun ys M2 => Q (.lst ys) M2
noncomputable def zCompP (tn : Nat) (idx : List Nat) (zi : fk) (g : cx) (tt : cP) (te : aQ) : aQ := fun ρ M Q => zi ρ M fun ds M1 => ds.length < sizeLine ∧ fQ g tt te ds (zBlock tn idx ρ) M1 fun ys M2 => ∀ a, M2 a = none → Q (.ptr a) (aH M2 a (.lst ys))
variable {zi : fk} {g : cx} {tt : cP} {te : aQ} {tn : Nat} {idx : List Nat}
noncomputable def kT (Γ : Gz) (β : Bz) (D : Addr) (M1 : Mh) (H1 : Hp) (g : cx) (tt : cP) (te : aQ) (ds : List Dv) (Q' : List Dv → Mh → Prop) (i m : Nat) (τ : St) (H : Hp) : Prop :=
  m = ds.length - i ∧ i ≤ ds.length ∧ ∃ cF M acc bQ, Acc Γ β D M1 H1 cF M τ H acc bQ ∧ acc.length ≤ i ∧ fQ g tt te (ds.drop i) cF M fun ys M2 => Q' (bQ ++ ys) M2
theorem pG {D : Addr} {M1 : Mh} {H1 : Hp} {ds : List Dv} {Q' : List Dv → Mh → Prop} {J : It} (it : xn β J ds M1 H1) (hlen : ds.length < sizeLine) {i m : Nat} {τ : St} {H : Hp} (w : kT Γ β D M1 H1 g tt te ds Q' i m τ H)
    {C : V → St → Hp → Prop} (hC : ∀ y aE H4 acc, H4 D = some (.lst acc) → acc.length < sizeLine → (∃ m', m' < m ∧ kT Γ β D M1 H1 g tt te ds Q' (i + 1) m' aE (upd H4 D (.lst (acc ++ [y])))) → C y aE H4) :
    (J.stop i H ∧ ∃ cF M acc bQ, Acc Γ β D M1 H1 cF M τ H acc bQ ∧ acc.length < sizeLine ∧ Q' bQ M) ∨
    (J.go i H ∧ ∀ x H', J.yld i H x H' → lG Γ g x τ H' fun aE H2 => lT Γ tt aE H2 fun b H3 => if b = true then lE Γ te aE H3 fun y H4 => C y aE H4 else ∃ m', m' < m ∧ kT Γ β D M1 H1 g tt te ds Q' (i + 1) m' aE H3) := by
  obtain ⟨rfl, hi, cF, M, acc, bQ, A, Pn, h⟩ := w
  have q := it (β.add D) M H (.add A.h1) A.ey A.zr.mz i
  by_cases dy : i < ds.length
  · refine .inr ⟨(q.1 dy).1, fun x H' y => ?_⟩
    obtain ⟨x2, d, hd, rd⟩ := (q.1 dy).2 x H' y
    have e : ds.drop i = d :: ds.drop (i + 1) := by
      rw [List.drop_eq_getElem_cons dy]
      rw [List.getElem?_eq_getElem dy] at hd
      cases hd
      rfl
    rw [e] at h
    have A2 := A.step x2 (A.zr.step x2)
    refine ⟨β.add D, d, cF, M, _, A2.zr, rd, h, fun jN M3 l0 H3 x3 z3 h3 => ?_⟩
    have A3 := A2.step x3 z3
    refine ⟨β.add D, jN, M3, _, z3, h3, fun b M4 H4 x4 h4 => ?_⟩
    have A4 := A3.step x4 (z3.step x4)
    cases b with
    | false =>
      dsimp only at h4 ⊢
      rw [if_neg Bool.false_ne_true] at h4 ⊢
      exact ⟨ds.length - (i + 1), by omega, rfl, dy, jN, M4, acc, bQ, A4, by omega, h4⟩
    | true =>
      dsimp only at h4 ⊢
      rw [if_pos rfl] at h4 ⊢
      refine ⟨β.add D, jN, M4, _, A4.zr, h4, fun yd M5 yv H5 x5 r5 h5 => ?_⟩
      have A5 := A4.step x5 (A4.zr.step x5)
      refine hC yv l0 H5 acc A5.at' (by omega) ⟨ds.length - (i + 1), by omega, rfl, dy, jN, M5, acc ++ [yv], bQ ++ [yd], A5.snoc r5, by simp; omega, ?_⟩
      have e2 : (fun ys M2 => Q' (bQ ++ [yd] ++ ys) M2) = fun ys M2 => Q' (bQ ++ yd :: ys) M2 := by
        funext ys M2
        rw [List.append_assoc]
        rfl
      rw [e2]
      exact h5
  · have e : i = ds.length := by omega
    subst e
    rw [List.drop_length] at h
    refine .inl ⟨q.2 (Nat.le_refl _), cF, M, acc, bQ, A, by omega, ?_⟩
    have h' : Q' (bQ ++ []) M := h
    rwa [List.append_nil] at h'
theorem nE {D : Addr} {M1 : Mh} {H1 : Hp} {ds : List Dv} {Q' : List Dv → Mh → Prop} {cF : av} {τ : St} (zr : Zr Γ β M1 cF τ H1) (hD : H1 D = none) (h : fQ g tt te ds cF M1 Q') : kT Γ β D M1 H1 g tt te ds Q' 0 ds.length τ (upd H1 D (.lst [])) :=
  ⟨rfl, Nat.zero_le _, cF, M1, [], [], .start zr hD, Nat.le_refl _, h⟩
theorem Ge {σ : St} {H : Hp} {Q : VK} (h : lE Γ (zComp tn idx zi g tt te) σ H Q) : m9 tn idx (lI Γ zi) (lG Γ g) (lT Γ tt) (lE Γ te) σ H Q := by
  obtain ⟨β, ρ, M, Q', zr, h, q⟩ := h
  refine ⟨β, ρ, M, _, zr, h, fun ds M1 H1 J x1 it ⟨hlen, h1⟩ D hD => ?_⟩
  have j9 := zr.step x1
  refine ⟨kT Γ β D M1 H1 g tt te ds fun ys M2 => Q' (.lst ys) M2, ⟨_, nE (j9.block tn idx) hD h1⟩, fun i m τ H' w => ?_⟩
  rcases pG it hlen w (C := fun y aE H4 => ∃ ys m', H4 D = some (.lst ys) ∧ ys.length < sizeLine ∧ m' < m ∧ kT Γ β D M1 H1 g tt te ds (fun ys M2 => Q' (.lst ys) M2) (i + 1) m' aE (upd H4 D (.lst (ys ++ [y])))) (fun y aE H4 acc e hl ⟨m', hm, w'⟩ => ⟨acc, m', e, hl, hm, w'⟩) with ⟨hs, cF, M', acc, bQ, A, _, hq⟩ | z
  · exact .inl ⟨hs, q _ _ _ _ (x1.trans A.ex) (nu (A.fz j9.mz) A.at' A.items) hq⟩
  · exact .inr z
theorem oq {σ : St} {H : Hp} {Q : VK} (h : lE Γ (zCompP tn idx zi g tt te) σ H Q) : m9 tn idx (lI Γ zi) (lG Γ g) (lT Γ tt) (lE Γ te) σ H Q := by
  obtain ⟨β, ρ, M, Q', zr, h, q⟩ := h
  refine ⟨β, ρ, M, _, zr, h, fun ds M1 H1 J x1 it ⟨hlen, h1⟩ D hD => ?_⟩
  have j9 := zr.step x1
  refine ⟨kT Γ β D M1 H1 g tt te ds fun ys M2 => ∀ a, M2 a = none → Q' (.ptr a) (aH M2 a (.lst ys)), ⟨_, nE (j9.block tn idx) hD h1⟩, fun i m τ H' w => ?_⟩
  rcases pG it hlen w (C := fun y aE H4 => ∃ ys m', H4 D = some (.lst ys) ∧ ys.length < sizeLine ∧ m' < m ∧ kT Γ β D M1 H1 g tt te ds (fun ys M2 => ∀ a, M2 a = none → Q' (.ptr a) (aH M2 a (.lst ys))) (i + 1) m' aE (upd H4 D (.lst (ys ++ [y])))) (fun y aE H4 acc e hl ⟨m', hm, w'⟩ => ⟨acc, m', e, hl, hm, w'⟩) with ⟨hs, cF, M', acc, bQ, A, _, hq⟩ | z
  · refine .inl ⟨hs, ?_⟩
    have NW : D ∉ β.hid := (A.fz j9.mz).2
    have hM : M' D = none := A.m
    have mz : Mz β (aH M' D (.lst bQ)) H' := by
      have rz : ∀ {v : V} {d : Dv}, Rz (β.add D) M' H' v d → Rz β (aH M' D (.lst bQ)) H' v d := fun r => by
        have ne : ∀ a, Fz (β.add D) M' a → Fz β (aH M' D (.lst bQ)) a := fun a f => ⟨by rw [au (fun z => f.2 (by rw [z]; exact List.mem_cons_self))]; exact f.1, fun z => f.2 (List.mem_cons_of_mem _ z)⟩
        induction r with
        | int i => exact .int i
        | bl b => exact .bl b
        | ao => exact .ao
        | str z => exact .str z
        | tup m e hl h ih => exact .tup (ne _ m) e hl ih
        | lst m e hl h ih => exact .lst (ne _ m) e hl ih
        | dk m e hk hl h ih => exact .dk (ne _ m) e hk hl ih
        | dt m e hk hl h ih => exact .dt (ne _ m) e hk hl ih
        | bS m e m2 e2 hl h ih => exact .bS (ne _ m) e (ne _ m2) e2 hl ih
        | set m e => exact .set (ne _ m) e
        | ptr m => exact .ptr (by unfold aH; split; rfl; exact m)
        | exc m e => exact .exc (ne _ m) e
        | bt m e => exact .bt (ne _ m) e
        | cA m e => exact .cA (ne _ m) e
        | cB e => exact .cB e
        | raw v => exact .raw v
      refine ⟨fun a o e => ?_, A.zr.mz.tabs, fun a ha => A.zr.mz.hids a (List.mem_cons_of_mem _ ha), fun a o e z => ?_, A.zr.mz.lams⟩
      by_cases ha : a = D
      · subst ha
        rw [updM_same] at e
        cases e
        exact ⟨acc, A.at', A.rs.len, fun i v d a b => rz (A.rs.at' i v d a b)⟩
      · rw [au ha] at e
        have z := A.zr.mz.obj a o e
        cases o with
        | lst ds => obtain ⟨vs, z, l, r⟩ := z; exact ⟨vs, z, l, fun i v d a b => rz (r i v d a b)⟩
        | dk ks ds => obtain ⟨vs, z, hk, l, r⟩ := z; exact ⟨vs, z, hk, l, fun i v d a b => rz (r i v d a b)⟩
        | dt ks ds => obtain ⟨vs, z, hk, l, r⟩ := z; exact ⟨vs, z, hk, l, fun i v d a b => rz (r i v d a b)⟩
        | cO => exact z
      · by_cases ha : a = D
        · subst ha; exact NW z
        · rw [au ha] at e
          exact A.zr.mz.apart a o e (List.mem_cons_of_mem _ z)
    have ey : Ey M1 H1 (aH M' D (.lst bQ)) H' := ⟨A.ey.keep, fun a h => by unfold aH; split; rfl; exact A.ey.dom a h, fun a o m e => by rw [au (aZ e A.h1)]; exact A.ey.new a o m e⟩
    exact q _ _ _ _ (x1.trans ⟨ey, mz⟩) (.ptr (by rw [updM_same]; rfl)) (hq D hM)
  · exact .inr z
theorem L7 {P : Addr} {zi : fk} {R : It → Hp → Prop} {σ : St} {H : Hp} {ρ : av} {M : Mh} {R' : List Dv → Mh → Prop} (hP : P ∈ Γ.tb) (zr : Zr Γ β M ρ σ H) (h : zi ρ M R') (q : ∀ ds M' H' J, Ex β M H M' H' → xn β J ds M' H' → R' ds M' → R J H') : Fs P (lI Γ zi) R σ H := by
  refine ⟨β, ρ, M, _, zr, h, fun ds M1 H1 J x1 it h1 => ?_⟩
  have Bi : P ∈ β.tb := by rw [zr.et]; exact hP
  refine ⟨x1.mz.tabs P Bi, fun ps t => ?_⟩
  have x2 := Ex.grow x1.mz Bi t
  refine q ds M1 _ J (x1.trans x2) (fun cm M' H' bx ey mz => it cm M' H' ⟨bx.P, bx.w, bx.K, bx.tb, bx.old, fun a ha => ?_⟩ (x2.toEy.trans ey) mz) h1
  rcases bx.new a ha with z | z
  · exact .inl z
  · right
    cases e : H1 a with
    | none => rfl
    | some o => obtain ⟨u, hu⟩ := zQ (p := P) (o := .cg ps) ⟨o, e⟩; rw [z] at hu; cases hu
noncomputable def i7 (g : cx) (tt : cP) (te : aQ) : List Dv → av → Mh → (Bool → Mh → Prop) → Prop
  | [], _, M, Q => Q true M
  | d :: ds, τ, M, Q => g d τ M fun aE M2 => tt aE M2 fun b M3 => if b = true then te aE M3 (zBool fun c M4 => if c = false then Q false M4 else i7 g tt te ds aE M4 Q) else i7 g tt te ds aE M3 Q
noncomputable def zAll (tn : Nat) (idx : List Nat) (zi : fk) (g : cx) (tt : cP) (te : aQ) : aQ := fun ρ M Q => zi ρ M fun ds M1 => i7 g tt te ds (zBlock tn idx ρ) M1 fun b M2 => Q (.bl b) M2
theorem IP {P : Addr} (hP : P ∈ Γ.tb) {σ : St} {H : Hp} {Q : VK} (h : lE Γ (zAll tn idx zi g tt te) σ H Q) : Ft P tn idx (lI Γ zi) (lG Γ g) (lT Γ tt) (lE Γ te) σ H Q := by
  obtain ⟨β, ρ, M, Q', zr, h, q⟩ := h
  refine L7 hP zr h fun ds M1 H1 J x1 it h1 => ?_
  have j9 := zr.step x1
  refine ⟨fun i m τ H' => m = ds.length - i ∧ i ≤ ds.length ∧ ∃ cF M', Ex β M1 H1 M' H' ∧ Zr Γ β M' cF τ H' ∧ i7 g tt te (ds.drop i) cF M' fun b M2 => Q' (.bl b) M2, ⟨_, rfl, Nat.zero_le _, _, M1, .refl x1.mz, j9.block tn idx, h1⟩, ?_⟩
  rintro i m τ H' ⟨rfl, hi, cF, M', x', fP, h'⟩
  have qq := it β M' H' .refl x'.toEy x'.mz i
  by_cases dy : i < ds.length
  · refine .inr ⟨(qq.1 dy).1, fun x kP y => ?_⟩
    obtain ⟨x2, d, hd, rd⟩ := (qq.1 dy).2 x kP y
    have e : ds.drop i = d :: ds.drop (i + 1) := by
      rw [List.drop_eq_getElem_cons dy]
      rw [List.getElem?_eq_getElem dy] at hd
      cases hd
      rfl
    rw [e] at h'
    refine ⟨β, d, cF, M', _, fP.step x2, rd, h', fun jN M3 l0 H3 x3 z3 h3 => ⟨β, jN, M3, _, z3, h3, fun b M4 H4 x4 h4 => ?_⟩⟩
    have Gf := x'.trans (x2.trans (x3.trans x4))
    cases b with
    | false =>
      dsimp only at h4 ⊢
      rw [if_neg Bool.false_ne_true] at h4 ⊢
      exact ⟨ds.length - (i + 1), by omega, rfl, dy, jN, M4, Gf, z3.step x4, h4⟩
    | true =>
      dsimp only at h4 ⊢
      rw [if_pos rfl] at h4 ⊢
      refine ⟨β, jN, M4, _, z3.step x4, h4, fun yd M5 yv H5 x5 r5 h5 => ?_⟩
      obtain ⟨k, rfl, h6⟩ := iD h5
      refine ⟨k, cC r5, ?_⟩
      cases k with
      | false =>
        rw [if_pos rfl] at h6 ⊢
        exact q _ _ _ _ (x1.trans (Gf.trans x5)) (.bl _) h6
      | true =>
        rw [if_neg (by decide)] at h6 ⊢
        exact ⟨ds.length - (i + 1), by omega, rfl, dy, jN, M5, Gf.trans x5, (z3.step x4).step x5, h6⟩
  · have e : i = ds.length := by omega
    subst e
    rw [List.drop_length] at h'
    exact .inl ⟨qq.2 (Nat.le_refl _), q _ _ _ _ (x1.trans x') (.bl _) h'⟩
end
section
variable {X : Cx} {Γ : Gz} {β : Bz} {K : PySem.W.Frag}
noncomputable def zII (f : Int → Int → Dv) : dw := fun d e M Q => match d, e with | .int i, .int j => Q (f i j) M | _, _ => False
noncomputable def zIC (C : Int → Int → Prop) (f : Int → Int → Dv) : dw := fun d e M Q => match d, e with | .int i, .int j => C i j ∧ Q (f i j) M | _, _ => False
theorem kU {g : Int → Int → V} {f : Int → Int → Dv} (h : ∀ β M H i j, Rz β M H (g i j) (f i j)) : pE Γ (o3 g) (zII f) := fun β x y d e M H Q Q' _ _ _ m rx ry z q => by
  unfold zII at z
  split at z
  · exact ⟨_, _, aK rx, aK ry, q _ _ _ _ (.refl m) (h ..) z⟩
  · exact z.elim
theorem nF {C : Int → Int → Prop} {g : Int → Int → V} {f : Int → Int → Dv} (h : ∀ β M H i j, Rz β M H (g i j) (f i j)) : pE Γ (rI C g) (zIC C f) := fun β x y d e M H Q Q' _ _ _ m rx ry z q => by
  unfold zIC at z
  split at z
  · exact ⟨_, _, aK rx, aK ry, z.1, q _ _ _ _ (.refl m) (h ..) z.2⟩
  · exact z.elim
theorem fR : dO Γ X (binaryOp .Add) (zII fun i j => .int (i + j)) := ⟨_, EH, kU fun _ _ _ _ _ => .int _⟩
theorem uV : dO Γ X (binaryOp .Sub) (zII fun i j => .int (i - j)) := ⟨_, EI, kU fun _ _ _ _ _ => .int _⟩
theorem ly : dO Γ X (binaryOp .Mult) (zIC uA fun i j => .int (i * j)) := ⟨_, EJ, nF fun _ _ _ _ _ => .int _⟩
theorem xC : dO Γ X (binaryOp .FloorDiv) (zIC EF fun i j => .int (i / j)) := ⟨_, B9, nF fun _ _ _ _ _ => .int _⟩
theorem g7 : dO Γ X (binaryOp .Mod) (zIC (fun _ j => 0 < j) fun i j => .int (i % j)) := ⟨_, EK, nF fun _ _ _ _ _ => .int _⟩
theorem uW : dO Γ X (binaryOp .Pow) (zIC EG fun i j => .int (i ^ j.toNat)) := ⟨_, EL, nF fun _ _ _ _ _ => .int _⟩
theorem ot : dO Γ X (compareOp .Lt) (zII fun i j => .bl (decide (i < j))) := ⟨_, Im, kU fun _ _ _ _ _ => .bl _⟩
theorem zU : dO Γ X (compareOp .LtE) (zII fun i j => .bl (decide (i ≤ j))) := ⟨_, Io, kU fun _ _ _ _ _ => .bl _⟩
theorem Gg : dO Γ X (compareOp .Gt) (zII fun i j => .bl (decide (j < i))) := ⟨_, Ip, kU fun _ _ _ _ _ => .bl _⟩
noncomputable def scalZ (d e : Dv) : Option Bool := match d with
  | .int i => (match e with | .int j => some (decide (i = j)) | .ao => some false | .str _ => some false | _ => none)
  | .bl i => (match e with | .bl j => some (decide (i = j)) | .ao => some false | .str _ => some false | _ => none)
  | .str i => (match e with | .str j => some (decide (i = j)) | .ao => some false | .int _ => some false | .bl _ => some false | _ => none)
  | .ao => (match e with | .ao => some true | .int _ => some false | .bl _ => some false | .str _ => some false | _ => none)
  | _ => none
noncomputable def zEq : dw := fun d e M Q => match scalZ d e with | some b => Q (.bl b) M | none => False
noncomputable def zNe : dw := fun d e M Q => match scalZ d e with | some b => Q (.bl (!b)) M | none => False
theorem rG {M : Mh} {H : Hp} {x y : V} {d e : Dv} {b : Bool} (rx : Rz β M H x d) (ry : Rz β M H y e) (h : scalZ d e = some b) : zg x y = true ∧ decide (x = y) = b := by
  unfold scalZ at h
  split at h
  · rw [aK rx]
    split at h <;> cases h
    · rw [aK ry]; exact ⟨rfl, by simp⟩
    · rw [gI ry]; exact ⟨rfl, by simp⟩
    · rw [bI ry]; exact ⟨rfl, by simp⟩
  · rw [cC rx]
    split at h <;> cases h
    · rw [cC ry]; exact ⟨rfl, by simp⟩
    · rw [gI ry]; exact ⟨rfl, by simp⟩
    · rw [bI ry]; exact ⟨rfl, by simp⟩
  · rw [bI rx]
    split at h <;> cases h
    · rw [bI ry]; exact ⟨rfl, by simp⟩
    · rw [gI ry]; exact ⟨rfl, by simp⟩
    · rw [aK ry]; exact ⟨rfl, by simp⟩
    · rw [cC ry]; exact ⟨rfl, by simp⟩
  · rw [gI rx]
    split at h <;> cases h
    · rw [gI ry]; exact ⟨rfl, by simp⟩
    · rw [aK ry]; exact ⟨rfl, by simp⟩
    · rw [cC ry]; exact ⟨rfl, by simp⟩
    · rw [bI ry]; exact ⟨rfl, by simp⟩
  · cases h
theorem mC : dO Γ X (compareOp .Eq) zEq := ⟨_, Ik, fun β x y d e M H Q Q' _ _ _ m rx ry z q => by
  unfold zEq at z
  split at z
  · rename_i b hb
    obtain ⟨h1, h2⟩ := rG rx ry hb
    exact ⟨h1, by rw [h2]; exact q _ _ _ _ (.refl m) (.bl _) z⟩
  · exact z.elim⟩
theorem zV : dO Γ X (compareOp .NotEq) zNe := ⟨_, Il, fun β x y d e M H Q Q' _ _ _ m rx ry z q => by
  unfold zNe at z
  split at z
  · rename_i b hb
    obtain ⟨h1, h2⟩ := rG rx ry hb
    exact ⟨h1, by rw [h2]; exact q _ _ _ _ (.refl m) (.bl _) z⟩
  · exact z.elim⟩
noncomputable def isNonD : Dv → Option Bool
  | .ao => some true
  | .raw _ => none
  | _ => some false
noncomputable def zIsN (neg : Bool) : dw := fun d e M Q => match e, isNonD d with | .ao, some b => Q (.bl (if neg then !b else b)) M | _, _ => False
noncomputable def zSS (C : Str → Str → Prop) (f : Str → Str → Dv) : dw := fun d e M Q => match d, e with | .str i, .str j => C i j ∧ Q (f i j) M | _, _ => False
theorem kW : dO Γ X (binaryOp .Add) (zSS (fun i j => i.length + j.length ≤ sizeLine) fun i j => .str (i ++ j)) := ⟨_, uD, fun β x y d e M H Q Q' _ _ _ m rx ry z q => by
  unfold zSS at z
  split at z
  · exact ⟨_, _, bI rx, bI ry, z.1, q _ _ _ _ (.refl m) (.str _) z.2⟩
  · exact z.elim⟩
noncomputable def uX (i j : Str) : Bool := !(Builtin.Str.occurrences j i 0 j.length 1).isEmpty
theorem zW : dO Γ X (compareOp .In) (zSS (fun _ _ => True) fun i j => .bl (uX i j)) := ⟨_, wk, fun β x y d e M H Q Q' _ _ _ m rx ry z q => by
  unfold zSS at z
  split at z
  · exact ⟨_, _, bI rx, bI ry, q _ _ _ _ (.refl m) (.bl _) z.2⟩
  · exact z.elim⟩
mutual
noncomputable def bU : Dv → Option Dt
  | .int i => some (.int i)
  | .bl b => some (.bl b)
  | .ao => some .ao
  | .str z => some (.str z)
  | .tup ds => (jO ds).map .tup
  | .lst ds => (jO ds).map .lst
  | _ => none
noncomputable def jO : List Dv → Option (List Dt)
  | [] => some []
  | d :: ds => match bU d, jO ds with | some a, some as => some (a :: as) | _, _ => none
end
theorem jP : ∀ {ds : List Dv} {ts : List Dt}, jO ds = some ts → ds.length = ts.length ∧ ∀ (i : Nat) (d : Dv) (t : Dt), ds[i]? = some d → ts[i]? = some t → bU d = some t
  | [], ts, h => by simp only [jO, Option.some.injEq] at h; subst h; exact ⟨rfl, fun i d t a => by simp at a⟩
  | d :: ds, ts, h => by
    simp only [jO] at h
    split at h
    · rename_i a as h1 h2
      cases h
      obtain ⟨hl, q⟩ := jP h2
      refine ⟨by simp [hl], fun i e t x y => ?_⟩
      cases i with
      | zero => simp at x y; subst x y; exact h1
      | succ i => rw [List.getElem?_cons_succ] at x y; exact q i e t x y
    · cases h
theorem xD {M : Mh} {H : Hp} {v : V} {d : Dv} (h : Rz β M H v d) : ∀ {t : Dt}, bU d = some t → cU H v t := by
  induction h with
  | int i => intro t e; simp only [bU, Option.some.injEq] at e; subst e; exact .int i
  | bl b => intro t e; simp only [bU, Option.some.injEq] at e; subst e; exact .bl b
  | ao => intro t e; simp only [bU, Option.some.injEq] at e; subst e; exact .ao
  | str z => intro t e; simp only [bU, Option.some.injEq] at e; subst e; exact .str z
  | tup m e hl h ih =>
    intro t q
    simp only [bU, Option.map_eq_some_iff] at q
    obtain ⟨ts, q, rfl⟩ := q
    obtain ⟨l2, at2⟩ := jP q
    refine .tup e (hl.trans l2) fun i x d hx hd => ?_
    have hi := (List.getElem?_eq_some_iff.mp hd).1
    have := List.getElem?_eq_getElem (l := _) (i := i) (show i < _ from l2 ▸ hi)
    exact ih i x _ hx this (at2 i _ _ this hd)
  | lst m e hl h ih =>
    intro t q
    simp only [bU, Option.map_eq_some_iff] at q
    obtain ⟨ts, q, rfl⟩ := q
    obtain ⟨l2, at2⟩ := jP q
    refine .lst e (hl.trans l2) fun i x d hx hd => ?_
    have hi := (List.getElem?_eq_some_iff.mp hd).1
    have := List.getElem?_eq_getElem (l := _) (i := i) (show i < _ from l2 ▸ hi)
    exact ih i x _ hx this (at2 i _ _ this hd)
  | set m e => intro t q; simp [bU] at q
  | ptr m => intro t q; simp [bU] at q
  | exc m e => intro t q; simp [bU] at q
  | bt m e => intro t q; simp [bU] at q
  | cA m e => intro t q; simp [bU] at q
  | cB e => intro t q; simp [bU] at q
  | dk m e hk hl h ih => intro t q; simp [bU] at q
  | dt m e hk hl h ih => intro t q; simp [bU] at q
  | bS m e m2 e2 hl h ih => intro t q; simp [bU] at q
  | raw v => intro t q; simp [bU] at q
noncomputable def now (M : Mh) : Dv → Dv
  | .ptr a => match M a with | some (.lst ds) => .lst ds | _ => .ptr a
  | d => d
theorem lz {M : Mh} {H : Hp} {v : V} {d : Dv} (m : Mz β M H) (h : Rz β M H v d) {t : Dt} (e : bU (now M d) = some t) : cU H v t := by
  cases d with
  | ptr a =>
    simp only [now] at e
    obtain ⟨rfl, hs⟩ := cH h
    cases q : M a with
    | none => rw [q] at hs; cases hs
    | some o =>
      rw [q] at e
      cases o with
      | cO => simp [bU] at e
      | dk ks es => simp [bU] at e
      | dt ks es => simp [bU] at e
      | lst ds =>
        obtain ⟨vs, hv, rs⟩ := m.obj a _ q
        simp only [bU, Option.map_eq_some_iff] at e
        obtain ⟨ts, q, rfl⟩ := e
        obtain ⟨l2, at2⟩ := jP q
        refine .lst hv (rs.len.trans l2) fun i x d hx hd => ?_
        have hi := (List.getElem?_eq_some_iff.mp hd).1
        have := List.getElem?_eq_getElem (l := _) (i := i) (show i < _ from l2 ▸ hi)
        exact xD (rs.at' i x _ hx this) (at2 i _ _ this hd)
  | _ => exact xD h e
noncomputable def rH (neg : Bool) : dw := fun d e M Q => match bU (now M d), bU (now M e) with | some a, some b => fW a ≤ 60 ∧ Q (.bl (if neg then !b9 a b else b9 a b)) M | _, _ => False
theorem CU {neg : Bool} : pE Γ (zG neg) (rH neg) := fun β x y d e M H Q Q' _ _ _ m rx ry z q => by
  unfold rH at z
  split at z
  · rename_i a b h1 h2
    exact ⟨a, b, lz m rx h1, lz m ry h2, z.1, q _ _ _ _ (.refl m) (.bl _) z.2⟩
  · exact z.elim
theorem IQ (hu : X.A.units + 64 < cLine) : dO Γ X (compareOp .NotEq) (rH true) := ⟨_, FN hu, CU⟩
noncomputable def itemsM (M : Mh) : Dv → Option (List Dv)
  | .tup ds => some ds
  | .lst ds => some ds
  | .ptr a => match M a with | some (.lst ds) => some ds | _ => none
  | _ => none
theorem jQ {M : Mh} {H : Hp} {x : V} {d : Dv} {ds : List Dv} (m : Mz β M H) (r : Rz β M H x d) (h : itemsM M d = some ds) : ∃ a vs, x = .ref a ∧ (H a = some (.lst vs) ∨ H a = some (.tup vs)) ∧ aM β M H vs ds := by
  cases d with
  | tup es => cases h; obtain ⟨a, vs, e, _, h, rs⟩ := cj r; exact ⟨a, vs, e, .inr h, rs⟩
  | lst es => cases h; obtain ⟨a, vs, e, _, h, rs⟩ := da r; exact ⟨a, vs, e, .inl h, rs⟩
  | ptr a =>
    obtain ⟨rfl, hs⟩ := cH r
    simp only [itemsM] at h
    split at h
    · rename_i es q
      cases h
      obtain ⟨vs, hv, rs⟩ := m.obj a _ q
      exact ⟨a, vs, rfl, .inl hv, rs⟩
    · cases h
  | _ => cases h
theorem CV {M : Mh} {H : Hp} {vs : List V} {ds : List Dv} (rs : aM β M H vs ds) {i : Int} {d : Dv} (h : cq ds i = some d) : ∃ v, cq vs i = some v ∧ Rz β M H v d := by
  unfold cq at h ⊢
  rw [rs.len]
  cases e : gE ds.length i with
  | none => rw [e] at h; cases h
  | some j =>
    rw [e] at h
    obtain ⟨v, hv, r⟩ := rs.get (i := j) (d := d) h
    exact ⟨v, hv, r⟩
noncomputable def Gh (Γ : Gz) (X : Cx) (z : dw) : Prop := ∃ r, kj X r ∧ pE Γ r z
noncomputable def zIx : dw := fun d e M Q => match e with
  | .int i => (match d with
    | .str z => z.length ≤ sizeLine ∧ (match cq z.cps.toList i with | some c => Q (.str ⟨#[c]⟩) M | none => False)
    | _ => match itemsM M d with | some ds => (match cq ds i with | some r => Q r M | none => False) | none => False)
  | _ => False
theorem cV (hK : X.K = K) : Gh Γ X zIx := ⟨_, tU hK, fun β x y d e M H Q Q' _ _ _ m rx ry z q => by
  unfold zIx at z
  split at z
  · rename_i i
    have hy := aK ry
    split at z
    · rename_i s
      obtain ⟨hz, z⟩ := z
      split at z
      · rename_i c hc
        exact .inr (.inr ⟨s, i, c, bI rx, hy, hz, hc, q _ _ _ _ (.refl m) (.str _) z⟩)
      · exact z.elim
    · split at z
      · rename_i ds iX
        obtain ⟨a, vs, rfl, ha, rs⟩ := jQ m rx iX
        split at z
        · rename_i r hr
          obtain ⟨v, hv, rv⟩ := CV rs hr
          have z' := q _ _ _ _ (.refl m) rv z
          rcases ha with ha | ha
          · exact .inl ⟨a, vs, i, v, rfl, hy, bM.of ha, hv, z'⟩
          · exact .inr (.inl ⟨a, vs, i, v, rfl, hy, bN.of ha, hv, z'⟩)
        · exact z.elim
      · exact z.elim
  · exact z.elim⟩
theorem bP {a b : Expr} {pa pb : aQ} {z : dw} {pos : Pos} (hr : Gh Γ X z) (ha : QE Γ X a pa) (hb : QE Γ X b pb) (hs : tQ b) : QE Γ X (.Subscript a b pos) (zOp z pa pb) := by
  obtain ⟨r, h1, h2⟩ := hr
  exact (Iv h1 ha hb hs).imp fun σ H Q h => uT h2 h
noncomputable def cutD (xs : List Dv) (lo hi : Option Int) : List Dv := (xs.drop (HT.aT xs.length 0 lo)).take (HT.aT xs.length xs.length hi - HT.aT xs.length 0 lo)
noncomputable abbrev xE := av → Mh → (Option Int → Mh → Prop) → Prop
noncomputable def lO (Γ : Gz) (p : xE) : TO := fun σ H Q => ∃ (β : Bz) (ρ : av) (M : Mh) (Q' : Option Int → Mh → Prop), Zr Γ β M ρ σ H ∧ p ρ M Q' ∧ ∀ o M' H', Ex β M H M' H' → Q' o M' → Q o H'
noncomputable def zoNone : xE := fun _ M Q => Q none M
noncomputable def zoSome (p : aQ) : xE := fun ρ M Q => p ρ M fun d M1 => match d with | .int i => Q (some i) M1 | _ => False
theorem PO.imp {e : Option Expr} {t t' : TO} (h : PO X e t) (i : ∀ σ H Q, t' σ H Q → t σ H Q) : PO X e t' := fun pins s σ H Q I q => h pins s σ H Q I (i _ _ _ q)
theorem eR : PO X none (lO Γ zoNone) := PO.imp Cj fun σ H Q ⟨β, ρ, M, Q', zr, h, q⟩ => q _ _ _ (.refl zr.mz) h
theorem eS {e : Expr} {p : aQ} (h : QE Γ X e p) : PO X (some e) (lO Γ (zoSome p)) := PO.imp (Ck h) fun σ H Q ⟨β, ρ, M, Q', zr, h, q⟩ => ⟨β, ρ, M, _, zr, h, fun d M1 v H1 x1 r1 h1 => by
  revert h1
  split
  · intro h1
    exact ⟨_, aK r1, q _ _ _ x1 h1⟩
  · exact fun z => z.elim⟩
noncomputable abbrev xF := Dv → Option Int → Option Int → Mh → ZK → Prop
noncomputable def Gi (Γ : Gz) (X : Cx) (z : xF) : Prop := ∃ r, tP X r ∧ ∀ (β : Bz) x d lo hi M H Q Q', β.P = Γ.P → β.w = Γ.w → β.K = Γ.K → Mz β M H → Rz β M H x d → z d lo hi M Q' → (∀ d' M' v H', Ex β M H M' H' → Rz β M' H' v d' → Q' d' M' → Q v H') → r x lo hi H Q
noncomputable def zSl (z : xF) (p : aQ) (l h : xE) : aQ := fun ρ M Q => p ρ M fun d M1 => l ρ M1 fun lo M2 => h ρ M2 fun hi M3 => z d lo hi M3 Q
theorem dU {z : xF} {e : Expr} {p : aQ} {lo hi : Option Expr} {l h : xE} {p2 pos : Pos} (hr : Gi Γ X z) (he : QE Γ X e p) (hl : PO X lo (lO Γ l)) (hu : PO X hi (lO Γ h)) : QE Γ X (.Subscript e (.Slice lo hi none p2) pos) (zSl z p l h) := by
  obtain ⟨r, h1, h2⟩ := hr
  exact (zq h1 he hl hu).imp fun σ H Q ⟨β, ρ, M, Q', zr, h, q⟩ => ⟨β, ρ, M, _, zr, h, fun d M1 v H1 x1 r1 h1 => ⟨β, ρ, M1, _, zr.step x1, h1, fun o M2 H2 x2 h3 => ⟨β, ρ, M2, _, (zr.step x1).step x2, h3, fun o2 M3 H3 x3 h4 =>
    h2 β v d o o2 M3 H3 _ _ zr.eP zr.ew zr.eK x3.mz ((r1.ex x2).ex x3) h4 fun d' M' v' H' x4 r4 q4 => q _ _ _ _ (x1.trans (x2.trans (x3.trans x4))) r4 q4⟩⟩⟩
noncomputable def zSlT : xF := fun d lo hi M Q => match d with | .tup ds => Q (.tup (cutD ds lo hi)) M | _ => False
theorem t6 {M : Mh} {H : Hp} {vs : List V} {ds : List Dv} (rs : aM β M H vs ds) (lo hi : Option Int) : aM β M H (gP vs lo hi) (cutD ds lo hi) := by
  unfold gP cutD
  rw [rs.len]
  exact (rs.drop _).take _
theorem i9 (hK : X.K = K) : Gi Γ X zSlT := ⟨_, CK hK, fun β x d lo hi M H Q Q' _ _ _ m rx z q => by
  unfold zSlT at z
  split at z
  · obtain ⟨a, vs, rfl, f, ha, rs⟩ := cj rx
    refine ⟨a, vs, rfl, bN.of ha, fun w => ?_, fun _ p hp => ?_⟩
    · have e := uQ w
      have r2 := t6 rs lo hi
      rw [e] at r2
      exact q _ _ _ _ (.refl m) (fj f ha r2) z
    · have x2 := Ex.lay m hp (.tup (gP vs lo hi))
      exact q _ _ _ _ x2 (fj (m.fz hp) aG ((t6 rs lo hi).ex x2)) z
  · exact z.elim⟩
noncomputable def zSlS : xF := fun d lo hi M Q => match d with | .str s => s.length ≤ sizeLine ∧ Q (.str (Txt.slice s lo hi)) M | _ => False
theorem IU : Gi Γ X zSlS := ⟨_, Fx, fun β x d lo hi M H Q Q' _ _ _ m rx z q => by
  unfold zSlS at z
  split at z
  · exact ⟨_, bI rx, z.1, q _ _ _ _ (.refl m) (.str _) z.2⟩
  · exact z.elim⟩
noncomputable def zCatT : dw := fun d e M Q => match d, e with | .tup xs, .tup ys => xs.length + ys.length ≤ sizeLine ∧ Q (.tup (xs ++ ys)) M | _, _ => False
theorem fo (hK : X.K = K) : dO Γ X (binaryOp .Add) zCatT := ⟨_, CJ hK, fun β x y d e M H Q Q' _ _ _ m rx ry z q => by
  unfold zCatT at z
  split at z
  · obtain ⟨a, vs, rfl, f, ha, rs⟩ := cj rx
    obtain ⟨b, us, rfl, f2, hb, cy⟩ := cj ry
    refine ⟨a, b, vs, us, rfl, rfl, bN.of ha, bN.of hb, by rw [rs.len, cy.len]; exact z.1, fun e => ?_, fun _ e => ?_, fun _ _ p hp => ?_⟩
    · subst e
      have r3 := rs.append cy
      exact q _ _ _ _ (.refl m) (fj f2 hb r3) z.2
    · subst e
      have r3 := rs.append cy
      rw [List.append_nil] at r3
      exact q _ _ _ _ (.refl m) (fj f ha r3) z.2
    · have x2 := Ex.lay m hp (.tup (vs ++ us))
      exact q _ _ _ _ x2 (fj (m.fz hp) aG ((rs.append cy).ex x2)) z.2
  · exact z.elim⟩
end
section
variable {X : Cx} {Γ : Gz} {β : Bz} {K : PySem.W.Frag}
section
variable {x : Str} {p pos : Pos} {e : Expr} {es : List Expr} {za : eB} {id T : String} {z : nB}
theorem aw (hc : gw Γ X (.builtin id) z) (hg : Gl X x) (hm : X.mg x = none) (hv : bootBuiltins x = some (.builtin id)) (ha : QA Γ X (e :: es) za) (hn : x ≠ "__name__" := by decide) (cN : (x == ("__debug__" : Str)) = false := by decide)
    (he : starEach (e :: es) X.env = (false, eval e X.env) :: starEach es X.env := by rfl) (dC : (backTo pos (starEach es X.env)).any (·.1) = false := by rfl) : QE Γ X (.Call (.Name x p) (e :: es) [] pos) (zCB z za) := by
  obtain ⟨r, h1, h2⟩ := hc
  exact (zo h1 hg hm hv ha hn cN he dC).imp fun σ H Q h => F7 h2 h
theorem ja (hc : gw Γ X (.type T) z) (hg : Gl X x) (hm : X.mg x = none) (hv : bootBuiltins x = some (.type T)) (ha : QA Γ X (e :: es) za) (hn : x ≠ "__name__" := by decide) (cN : (x == ("__debug__" : Str)) = false := by decide)
    (he : starEach (e :: es) X.env = (false, eval e X.env) :: starEach es X.env := by rfl) (dC : (backTo pos (starEach es X.env)).any (·.1) = false := by rfl) : QE Γ X (.Call (.Name x p) (e :: es) [] pos) (zCB z za) := by
  obtain ⟨r, h1, h2⟩ := hc
  exact (wz h1 hg hm hv ha hn cN he dC).imp fun σ H Q h => F7 h2 h
end
noncomputable def z1 (f : Dv → Mh → ZK → Prop) : nB := fun ds M Q => match ds with | [d] => f d M Q | _ => False
noncomputable def zLenD (d : Dv) (M : Mh) (Q : ZK) : Prop := match d with
  | .str s => s.length ≤ sizeLine ∧ Q (.int s.length) M
  | .bt ns => Q (.int ns.length) M
  | _ => match itemsM M d with | some ds => Q (.int ds.length) M | none => False
theorem eC (hK : X.K = K) (hG : K = Γ.K) : gw Γ X (.builtin "len") (z1 zLenD) := ⟨_, wX hK, fun β xs ds M H Q Q' _ _ eK m rs z q => by
  rw [← hG] at eK
  unfold z1 at z
  split at z
  · rename_i d
    obtain ⟨x, rfl, r⟩ := eQ rs
    unfold zLenD at z
    split at z
    · rename_i s
      have e := bI r
      subst e
      exact ⟨_, _, rfl, ⟨z.1, rfl⟩, q _ _ _ _ (.refl m) (.int _) z.2⟩
    · rename_i ns
      obtain ⟨a, rfl, h⟩ := pD r
      rw [eK] at h
      exact ⟨_, ns.length, rfl, .inl ⟨_, h, by simp⟩, q _ _ _ _ (.refl m) (.int _) z⟩
    · split at z
      · rename_i ds iX
        obtain ⟨a, vs, rfl, ha, cy⟩ := jQ m r iX
        have q' := q _ _ (.int ds.length) _ (.refl m) (.int _) z
        rcases ha with ha | ha
        · exact ⟨_, ds.length, rfl, .inl ⟨vs, bM.of ha, cy.len.symm⟩, q'⟩
        · exact ⟨_, ds.length, rfl, .inr ⟨vs, bN.of ha, cy.len.symm⟩, q'⟩
      · exact z.elim
  · exact z.elim⟩
noncomputable def z2I (f : Int → Int → Int) : nB := fun ds M Q => match ds with | [.int i, .int j] => Q (.int (f i j)) M | _ => False
theorem Gj (hc : X.calm = true) : gw Γ X (.builtin "max") (z2I fun i j => if j > i then j else i) := ⟨_, wm hc, fun β xs ds M H Q Q' _ _ _ m rs z q => by
  unfold z2I at z
  split at z
  · obtain ⟨x, y, rfl, r, r'⟩ := gd rs
    rw [aK r, aK r']
    exact ⟨_, _, rfl, q _ _ _ _ (.refl m) (.int _) z⟩
  · exact z.elim⟩
theorem xG (hc : X.calm = true) : gw Γ X (.builtin "min") (z2I fun i j => if j < i then j else i) := ⟨_, wo hc, fun β xs ds M H Q Q' _ _ _ m rs z q => by
  unfold z2I at z
  split at z
  · obtain ⟨x, y, rfl, r, r'⟩ := gd rs
    rw [aK r, aK r']
    exact ⟨_, _, rfl, q _ _ _ _ (.refl m) (.int _) z⟩
  · exact z.elim⟩
noncomputable def zAbs (d : Dv) (M : Mh) (Q : ZK) : Prop := match d with | .int i => Q (.int (if i < 0 then -i else i)) M | _ => False
theorem IV : gw Γ X (.builtin "abs") (z1 zAbs) := ⟨_, zk, fun β xs ds M H Q Q' _ _ _ m rs z q => by
  unfold z1 at z
  split at z
  · obtain ⟨x, rfl, r⟩ := eQ rs
    unfold zAbs at z
    split at z
    · rw [aK r]
      exact ⟨_, rfl, q _ _ _ _ (.refl m) (.int _) z⟩
    · exact z.elim
  · exact z.elim⟩
noncomputable def zList (d : Dv) (M : Mh) (Q : ZK) : Prop := match itemsM M d with | some ds => Q (.lst ds) M | none => False
theorem xH (hK : X.K = K) : gw Γ X (.type "list") (z1 zList) := ⟨_, pY hK, fun β xs ds M H Q Q' _ _ _ m rs z q => by
  unfold z1 at z
  split at z
  · obtain ⟨x, rfl, r⟩ := eQ rs
    unfold zList at z
    split at z
    · rename_i ds iX
      obtain ⟨a, vs, rfl, ha, cy⟩ := jQ m r iX
      refine ⟨a, vs, rfl, ha.imp bM.of bN.of, fun l hl => ?_⟩
      have x2 := Ex.lay m hl (.lst vs)
      exact q _ _ _ _ x2 (nu (m.fz hl) aG (cy.ex x2)) z
    · exact z.elim
  · exact z.elim⟩
noncomputable def zTuple (d : Dv) (M : Mh) (Q : ZK) : Prop := match itemsM M d with | some ds => Q (.tup ds) M | none => False
theorem t7 (hK : X.K = K) : gw Γ X (.type "tuple") (z1 zTuple) := ⟨_, oh hK, fun β xs ds M H Q Q' _ _ _ m rs z q => by
  unfold z1 at z
  split at z
  · rename_i d
    obtain ⟨x, rfl, r⟩ := eQ rs
    unfold zTuple at z
    split at z
    · rename_i ds iX
      obtain ⟨a, vs, rfl, ha, cy⟩ := jQ m r iX
      refine ⟨a, vs, rfl, ?_⟩
      rcases ha with ha | ha
      · refine .inl ⟨bM.of ha, fun l hl => ?_⟩
        have x2 := Ex.lay m hl (.tup vs)
        exact q _ _ _ _ x2 (fj (m.fz hl) aG (cy.ex x2)) z
      · refine .inr ⟨bN.of ha, ?_⟩
        have f : Fz β M a := by
          cases d with
          | tup es => obtain ⟨b, us, e, f, _⟩ := cj r; cases e; exact f
          | lst es => obtain ⟨b, us, e, f, _⟩ := da r; cases e; exact f
          | ptr b =>
            obtain ⟨e, hs⟩ := cH r
            cases e
            cases q2 : M a with
            | none => rw [q2] at hs; cases hs
            | some o => have := m.kN ha rfl; rw [q2] at this; cases this
          | _ => cases iX
        exact q _ _ _ _ (.refl m) (fj f ha cy) z
    · exact z.elim
  · exact z.elim⟩
noncomputable def uY : List Dv → Option (List Int)
  | [] => some []
  | .int i :: ds => (uY ds).map (i :: ·)
  | _ :: _ => none
theorem xI : ∀ ns : List Int, uY (ns.map Dv.int) = some ns
  | [] => rfl
  | n :: ns => by simp [uY, xI ns]
theorem rJ {M : Mh} {H : Hp} : ∀ {vs : List V} {ns : List Int}, aM β M H vs (ns.map Dv.int) → vs = ns.map V.int
  | [], [], _ => rfl
  | [], _ :: _, r => absurd r.len (by simp)
  | _ :: _, [], r => absurd r.len (by simp)
  | v :: vs, n :: ns, r => by
    rw [List.map_cons] at r
    rw [List.map_cons, aK r.head, rJ r.tail]
theorem rK {M : Mh} {H : Hp} : ∀ {ns : List Int}, aM β M H (ns.map V.int) (ns.map Dv.int)
  | [] => .nil
  | n :: ns => .cons (.int _) rK
noncomputable def isD (T : String) (M : Mh) (d : Dv) : Option Bool := match d with
  | .int _ => some (T == "int") | .bl _ => some (T == "int" || T == "bool") | .ao => some false | .str _ => some (T == "str") | .tup _ => some (T == "tuple") | .lst _ => some (T == "list") | .ptr a => (match M a with | some (.lst _) => some (T == "list") | some .cO => some (T == "list") | some _ => some false | none => none) | _ => none
noncomputable def ou : List String := ["int", "bool", "str", "tuple", "list"]
noncomputable def zIsInst : nB := fun ds M Q => match ds with | [d, .raw (.ty T)] => T ∈ ou ∧ (match isD T M d with | some b => Q (.bl b) M | none => False) | _ => False
theorem Gk {K : PySem.W.Frag} {M : Mh} {H : Hp} {x : V} {d : Dv} {T : String} {b : Bool} (m : Mz β M H) (hT : T ∈ ou) (r : Rz β M H x d) (h : isD T M d = some b) : ∃ t, fv K H x t ∧ PySem.W.kitOne K t (.type T) = some b := by
  have md : T = "int" ∨ T = "bool" ∨ T = "str" ∨ T = "tuple" ∨ T = "list" := by simpa [ou] using hT
  cases r with
  | int i => cases h; exact ⟨_, .int i, by rcases md with rfl | rfl | rfl | rfl | rfl <;> rfl⟩
  | bl i => cases h; exact ⟨_, .bl i, by rcases md with rfl | rfl | rfl | rfl | rfl <;> rfl⟩
  | ao => cases h; exact ⟨_, .ao, by rcases md with rfl | rfl | rfl | rfl | rfl <;> rfl⟩
  | str i => cases h; exact ⟨_, .str i, by rcases md with rfl | rfl | rfl | rfl | rfl <;> rfl⟩
  | tup f e hl q => cases h; exact ⟨_, .tup e, by rcases md with rfl | rfl | rfl | rfl | rfl <;> rfl⟩
  | lst f e hl q => cases h; exact ⟨_, .lst e, by rcases md with rfl | rfl | rfl | rfl | rfl <;> rfl⟩
  | ptr hs =>
    rename_i a
    cases q2 : M a with
    | none => rw [q2] at hs; cases hs
    | some o =>
      simp only [isD, q2] at h
      have q := m.obj a o q2
      cases o with
      | lst ds => obtain ⟨vs, e, _⟩ := q; cases h; exact ⟨_, .lst e, by rcases md with rfl | rfl | rfl | rfl | rfl <;> rfl⟩
      | cO => obtain ⟨_, _, e, _⟩ := q; cases h; exact ⟨_, .lst e, by rcases md with rfl | rfl | rfl | rfl | rfl <;> rfl⟩
      | dk ks ds => obtain ⟨vs, e, _⟩ := q; cases h; exact ⟨_, .dK e, by rcases md with rfl | rfl | rfl | rfl | rfl <;> rfl⟩
      | dt ks ds => obtain ⟨vs, e, _⟩ := q; cases h; exact ⟨_, .dT e, by rcases md with rfl | rfl | rfl | rfl | rfl <;> rfl⟩
  | set f e => cases h
  | exc f e => cases h
  | bt f e => cases h
  | cA f e => cases h
  | cB e => cases h
  | raw v => cases h
  | dk f e _ _ _ => cases h
  | dt f e _ _ _ => cases h
  | bS _ _ _ _ _ _ => cases h
theorem iH (hK : X.K = K) : gw Γ X (.builtin "isinstance") zIsInst := ⟨_, q9 hK, fun β xs ds M H Q Q' _ _ _ m rs z q => by
  unfold zIsInst at z
  split at z
  · obtain ⟨x, y, rfl, r, r'⟩ := gd rs
    rw [i6 r']
    obtain ⟨hT, z⟩ := z
    split at z
    · rename_i b hb
      obtain ⟨t, ht, hk⟩ := Gk (K := K) m hT r hb
      exact ⟨_, _, t, b, rfl, ht, hk, q _ _ _ _ (.refl m) (.bl _) z⟩
    · exact z.elim
  · exact z.elim⟩
noncomputable abbrev pH := Dv → List Dv → Mh → ZK → Prop
noncomputable def xJ (Γ : Gz) (X : Cx) (T id : String) (K : PySem.W.Frag) (z : pH) : Prop := ∃ r, wC X id r ∧ ∀ (β : Bz) x xs d ds M H Q Q', β.P = Γ.P → β.w = Γ.w → β.K = Γ.K → Mz β M H → Rz β M H x d → aM β M H xs ds → z d ds M Q' → (∀ d' M' v H', Ex β M H M' H' → Rz β M' H' v d' → Q' d' M' → Q v H') → r x xs H Q
noncomputable def tyZ (T : String) (M : Mh) : Dv → Prop
  | .ptr a => match M a with | some (.lst _) => T = "list" | some .cO => T = "list" | some (.dk _ _) => T = "dict" | some (.dt _ _) => T = "dict" | none => False
  | .lst _ => T = "list"
  | .tup _ => T = "tuple"
  | .str _ => T = "str"
  | _ => False
theorem Gm {M : Mh} {H : Hp} {x : V} {d : Dv} {T : String} (m : Mz β M H) (r : Rz β M H x d) (h : tyZ T M d) : Ff K T x H := by
  cases r with
  | str => exact h
  | lst f e _ _ => exact .inl ⟨h, _, bM.of e⟩
  | tup f e _ _ => exact .inr (.inl ⟨h, .inr ⟨_, e⟩⟩)
  | ptr hs =>
    rename_i a
    cases q2 : M a with
    | none => rw [q2] at hs; cases hs
    | some o =>
      simp only [tyZ, q2] at h
      have q := m.obj a o q2
      cases o with
      | lst ds => obtain ⟨vs, e, _⟩ := q; exact .inl ⟨h, _, bM.of e⟩
      | cO => obtain ⟨_, _, e, _⟩ := q; exact .inl ⟨h, _, bM.of e⟩
      | dk ks ds => obtain ⟨vs, e, _⟩ := q; exact .inr (.inr (.inl ⟨h, .inl ⟨_, e⟩⟩))
      | dt ks ds => obtain ⟨vs, e, _⟩ := q; exact .inr (.inr (.inl ⟨h, .inr ⟨_, e⟩⟩))
  | _ => exact h.elim
noncomputable def zBM (T : String) (z : pH) (po : aQ) (pa : eB) : aQ := fun ρ M Q => po ρ M fun d M1 => tyZ T M1 d ∧ pa ρ M1 fun ds M2 => z d ds M2 Q
section
variable {o e : Expr} {es : List Expr} {po : aQ} {pa : eB} {name : Str} {apos bq : Pos} {T id : String} {z : pH}
theorem lB (h : X.K = K) (pat : PlainAttrs T) (slot : Slot T name id) (qN : typeOf (.builtin id) = pure (.type "method_descriptor")) (hm : xJ Γ X T id K z) (ho : QE Γ X o po) (ha : QA Γ X (e :: es) pa) (m6 : attributeBase o name X.env (eval o X.env) = eval o X.env := by rfl)
    (qO : ((backTo bq (starEach (e :: es) X.env)).all (fun x => !x.1) && (backToKw bq (keywordEach [] X.env)).all (fun x => x.1.isSome)
      && decide ((e :: es).length + ([] : List Keyword).length + (if ([] : List Keyword).isEmpty then 0 else 1) < 30)) = true := by rfl)
    (hline : (apos.endLine == bq.line) = true := by rfl) (hs : starEach (e :: es) X.env = (false, eval e X.env) :: starEach es X.env := by rfl) (km : (backTo bq (starEach es X.env)).any (·.1) = false := by rfl) :
    QE Γ X (.Call (.Attribute o name apos) (e :: es) [] bq) (zBM T z po pa) := by
  obtain ⟨r, h1, h2⟩ := hm
  exact (FH h pat slot qN h1 ho ha m6 qO hline hs km).imp fun σ H Q ⟨β, ρ, M, Q', zr, h, q⟩ => ⟨β, ρ, M, _, zr, h, fun d M1 v H1 x1 r1 ⟨ht, h1⟩ => ⟨Gm x1.mz r1 ht, β, ρ, M1, _, zr.step x1, h1, fun ds M2 vs H2 x2 r2 h3 =>
    h2 β v vs d ds M2 H2 _ _ zr.eP zr.ew zr.eK x2.mz (r1.ex x2) r2 h3 fun d' M' v' H' x3 r3 q3 => q _ _ _ _ (x1.trans (x2.trans x3)) r3 q3⟩⟩
end
noncomputable def zAppend : pH := fun d ds M Q => match d, ds with | .ptr a, [y] => (match M a with | some (.lst xs) => xs.length < sizeLine ∧ Q .ao (aH M a (.lst (xs ++ [y]))) | _ => False) | _, _ => False
theorem mD : xJ Γ X "list" "list.append" K zAppend := ⟨_, kr, fun β x xs d ds M H Q Q' _ _ _ m r rs z q => by
  unfold zAppend at z
  split at z
  · rename_i a y
    split at z
    · rename_i es he
      obtain ⟨e, hs⟩ := cH r
      obtain ⟨v, e2, rv⟩ := eQ rs
      subst e e2
      obtain ⟨vs, hv, cy⟩ := m.obj a _ he
      refine ⟨a, vs, v, rfl, rfl, hv, by rw [cy.len]; exact z.1, ?_⟩
      exact q _ _ _ _ (Ex.own m (.inl hs) (cy.snoc rv)) .ao z.2
    · exact z.elim
  · exact z.elim⟩
noncomputable def zPop : pH := fun d ds M Q => match d, ds with | .ptr a, [] => (match M a with | some (.lst xs) => (match xs[xs.length - 1]? with | some y => Q y (aH M a (.lst xs.dropLast)) | none => False) | _ => False) | _, _ => False
noncomputable def zPopAt : pH := fun d ds M Q => match d, ds with | .ptr a, [.int i] => (match M a with | some (.lst xs) => -(2 ^ 63) ≤ i ∧ i < 2 ^ 63 ∧ (match seqIndex? i xs.length with | some k => (match xs[k]? with | some y => Q y (aH M a (.lst (xs.eraseIdx k))) | none => False) | none => False) | _ => False) | _, _ => False
theorem aM.eraseIdx {M : Mh} {H : Hp} {vs : List V} {ds : List Dv} (h : aM β M H vs ds) (k : Nat) : aM β M H (vs.eraseIdx k) (ds.eraseIdx k) := by
  rw [List.eraseIdx_eq_take_drop_succ, List.eraseIdx_eq_take_drop_succ]
  exact (h.take _).append (h.drop _)
theorem CY : xJ Γ X "list" "list.pop" K zPopAt := ⟨_, zv, fun β x xs d ds M H Q Q' _ _ _ m r rs z q => by
  unfold zPopAt at z
  split at z
  · rename_i a i
    split at z
    · rename_i es he
      obtain ⟨b1, b2, z⟩ := z
      split at z
      · rename_i k hk
        split at z
        · rename_i y hy
          obtain ⟨e, hs⟩ := cH r
          obtain ⟨v0, e2, NX⟩ := eQ rs
          subst e e2
          rw [aK NX]
          obtain ⟨vs, hv, cy⟩ := m.obj a _ he
          obtain ⟨v, NY, rv⟩ := cy.get hy
          refine ⟨a, vs, i, k, v, rfl, rfl, hv, b1, b2, by rw [cy.len]; exact hk, NY, ?_⟩
          have x2 := Ex.own m (.inl hs) (cy.eraseIdx k)
          exact q _ _ _ _ x2 (rv.ex x2) z
        · exact z.elim
      · exact z.elim
    · exact z.elim
  · exact z.elim⟩
noncomputable def zSetI : Dv → Dv → Dv → Mh → (Mh → Prop) → Prop := fun o i v M N => match o, i with | .ptr a, .int k => (match M a with | some (.lst xs) => (match gE xs.length k with | some j => N (aH M a (.lst (xs.set j v))) | none => False) | _ => False) | _, _ => False
noncomputable def zgSub (po pi : aQ) : cx := fun d ρ M N => po ρ M fun o M1 => pi ρ M1 fun i M2 => zSetI o i d M2 fun M3 => N ρ M3
theorem jD {o i : Expr} {po pi : aQ} {pos : Pos} (ho : QE Γ X o po) (hi : QE Γ X i pi)
    (ha : ∀ v, assign (.Subscript o i pos) X.env v = (do
      let ov ← holding [v] (eval o X.env)
      let iv ← holding [v, ov] (eval i X.env)
      standAt pos
      holding [v, ov, iv] (setItem ov iv v)
      release [v, ov, iv] []) := by intro _; rfl) : QG Γ X (.Subscript o i pos) (zgSub po pi) :=
  (Ep ho hi set_list ha).imp fun v σ H N ⟨β, d, ρ, M, N', zr, r, h, q⟩ => ⟨β, ρ, M, _, zr, h, fun od M1 ov H1 x1 r1 h1 => ⟨β, ρ, M1, _, zr.step x1, h1, fun PD M2 iv H2 x2 r2 h2 => by
    unfold zSetI at h2
    split at h2
    · rename_i a k
      split at h2
      · rename_i es he
        split at h2
        · rename_i j hj
          obtain ⟨e, hs⟩ := cH (r1.ex x2)
          subst e
          rw [aK r2]
          obtain ⟨vs, hv, cy⟩ := x2.mz.obj a _ he
          have x3 := Ex.own x2.mz (.inl hs) (cy.set j ((r.ex x1).ex x2))
          exact ⟨a, vs, k, j, rfl, rfl, hv, by rw [cy.len]; exact hj, q _ _ _ _ (x1.trans (x2.trans x3)) (((zr.step x1).step x2).step x3) h2⟩
        · exact h2.elim
      · exact h2.elim
    · exact h2.elim⟩⟩
end
end L2
namespace L2
open PySem PySem.Spec PySem.W PyProof.Rows
noncomputable abbrev ZX := Addr → Mh → Prop
noncomputable abbrev b5 := List Dv → Mh → ZK → ZX → Prop
noncomputable def aW (P : Program) (w : World) (K : PySem.W.Frag) (tb : b0) (S : b5) : Sp := fun vs H Q E => ∃ (β : Bz) (ds : List Dv) (M : Mh) (Q' : ZK) (E' : ZX), β.P = P ∧ β.w = w ∧ β.K = K ∧ β.tb = tb ∧ Mz β M H ∧ aM β M H vs ds ∧ S ds M Q' E' ∧
  (∀ d M' v H', Ex β M H M' H' → Rz β M' H' v d → Q' d M' → Q v H') ∧ ∀ C M' H', Ex β M H M' H' → E' C M' → E (.ref C) none H'
theorem Rz.lC {β : Bz} {M0 M : Mh} {H : Hp} (dom : ∀ a, (M0 a).isSome = true → (M a).isSome = true) {v : V} {d : Dv} (h : Rz β M H v d) : Pin M0 d → Rz β M0 H v d := by
  have ne : ∀ a, Fz β M a → Fz β M0 a := fun a m => ⟨(by
    cases e : M0 a with
    | none => rfl
    | some o => have := dom a (by rw [e]; rfl); rw [m.1] at this; cases this), m.2⟩
  induction h with
  | int i => exact fun _ => .int i
  | bl b => exact fun _ => .bl b
  | ao => exact fun _ => .ao
  | str z => exact fun _ => .str z
  | tup m e hl h ih =>
    intro p
    cases p with
    | tup p => exact .tup (ne _ m) e hl fun i v d a b => ih i v d a b (p d (List.mem_of_getElem? b))
  | lst m e hl h ih =>
    intro p
    cases p with
    | lst p => exact .lst (ne _ m) e hl fun i v d a b => ih i v d a b (p d (List.mem_of_getElem? b))
  | set m e => exact fun _ => .set (ne _ m) e
  | ptr m => intro p; cases p with | ptr p => exact .ptr p
  | exc m e => exact fun _ => .exc (ne _ m) e
  | bt m e => exact fun _ => .bt (ne _ m) e
  | cA m e => exact fun _ => .cA (ne _ m) e
  | cB e => exact fun _ => .cB e
  | dk m e hk hl h ih =>
    intro p
    cases p with
    | dk p => exact .dk (ne _ m) e hk hl fun i v d a b => ih i v d a b (p d (List.mem_of_getElem? b))
  | dt m e hk hl h ih =>
    intro p
    cases p with
    | dt p => exact .dt (ne _ m) e hk hl fun i v d a b => ih i v d a b (p d (List.mem_of_getElem? b))
  | bS m e m2 e2 hl h ih =>
    intro p
    cases p with
    | bS p => exact .bS (ne _ m) e (ne _ m2) e2 hl fun i v d a b => ih i v d a b (p d (List.mem_of_getElem? b))
  | raw v => exact fun _ => .raw v
inductive kb (M0 M : Mh) : Dv → Dv → Prop where
  | pin {d : Dv} (h : Pin M0 d) : kb M0 M d d
  | ptr {a : Addr} {ds fF : List Dv} (h0 : M0 a = none) (h : M a = some (.lst ds)) (hl : ds.length = fF.length) (r : ∀ (i : Nat) (d d' : Dv), ds[i]? = some d → fF[i]? = some d' → kb M0 M d d') : kb M0 M (.ptr a) (.lst fF)
  | tup {ds fF : List Dv} (hl : ds.length = fF.length) (r : ∀ (i : Nat) (d d' : Dv), ds[i]? = some d → fF[i]? = some d' → kb M0 M d d') : kb M0 M (.tup ds) (.tup fF)
  | dk {a : Addr} {ks : List Key} {ds fF : List Dv} (h0 : M0 a = none) (h : M a = some (.dk ks ds)) (hl : ds.length = fF.length) (r : ∀ (i : Nat) (d d' : Dv), ds[i]? = some d → fF[i]? = some d' → kb M0 M d d') : kb M0 M (.ptr a) (.dk ks fF)
  | dt {a : Addr} {ks : List (List Key)} {ds fF : List Dv} (h0 : M0 a = none) (h : M a = some (.dt ks ds)) (hl : ds.length = fF.length) (r : ∀ (i : Nat) (d d' : Dv), ds[i]? = some d → fF[i]? = some d' → kb M0 M d d') : kb M0 M (.ptr a) (.dt ks fF)
theorem kb.rz {β : Bz} {M0 M : Mh} {H : Hp} (mz : Mz β M H) (dom : ∀ a, (M0 a).isSome = true → (M a).isSome = true) {d d' : Dv} (h : kb M0 M d d') : ∀ {v : V}, Rz β M H v d → Rz β M0 H v d' := by
  induction h with
  | pin h => exact fun r => r.lC dom h
  | ptr h0 h hl r ih =>
    intro v r
    obtain ⟨rfl, _⟩ := cH r
    obtain ⟨vs, hv, rs⟩ := mz.obj _ _ h
    refine .lst ⟨h0, mz.apart _ _ h⟩ hv (rs.len.trans hl) fun i v d a b => ?_
    obtain ⟨d0, q, rd⟩ := rs.get' a
    exact ih i d0 d q b rd
  | dk h0 h hl r ih =>
    intro v r
    obtain ⟨rfl, _⟩ := cH r
    obtain ⟨vs, hv, hk, rs⟩ := mz.obj _ _ h
    refine .dk ⟨h0, mz.apart _ _ h⟩ (.inl hv) hk (rs.len.trans hl) fun i v d a b => ?_
    obtain ⟨d0, q, rd⟩ := rs.get' a
    exact ih i d0 d q b rd
  | dt h0 h hl r ih =>
    intro v r
    obtain ⟨rfl, _⟩ := cH r
    obtain ⟨vs, hv, hk, rs⟩ := mz.obj _ _ h
    refine .dt ⟨h0, mz.apart _ _ h⟩ (.inl hv) hk (rs.len.trans hl) fun i v d a b => ?_
    obtain ⟨d0, q, rd⟩ := rs.get' a
    exact ih i d0 d q b rd
  | tup hl r ih =>
    intro v r
    obtain ⟨a, vs, rfl, f, hv, rs⟩ := cj r
    refine .tup ⟨?_, f.2⟩ hv (rs.len.trans hl) fun i v d a b => ?_
    · cases e : M0 a with
      | none => rfl
      | some o => have := dom a (by rw [e]; rfl); rw [f.1] at this; cases this
    · obtain ⟨d0, q, rd⟩ := rs.get' a
      exact ih i d0 d q b rd
noncomputable def jn (M0 : Mh) (Q : ZK) : ZK := fun d M => Q d M ∨ ((∀ a o, M0 a = some o → M a = some o) ∧ ∃ d', kb M0 M d d' ∧ Q d' M0)
theorem lD {β : Bz} {M0 M : Mh} {H0 H : Hp} {Q' : ZK} {Q : VK} (m0 : Mz β M0 H0) (q : ∀ d M' v H', Ex β M0 H0 M' H' → Rz β M' H' v d → Q' d M' → Q v H') {d : Dv} {v : V} (x : Ex β M0 H0 M H) (r : Rz β M H v d) (h : jn M0 Q' d M) : Q v H := by
  rcases h with h | ⟨same, d', rv, h⟩
  · exact q _ _ _ _ x r h
  · refine q d' M0 v H ⟨⟨x.keep, fun _ h => h, fun _ _ h _ => h⟩, fun a o e => ?_, x.mz.tabs, x.mz.hids, m0.apart, x.mz.lams⟩ (rv.rz x.mz x.dom r) h
    have z := x.mz.obj a o (same a o e)
    have z0 := m0.obj a o e
    cases o with
    | lst ds =>
      obtain ⟨vs, z, rs⟩ := z
      obtain ⟨Kn, _, xK⟩ := z0
      refine ⟨vs, z, rs.len, fun i v d a b => (rs.at' i v d a b).lC x.dom ?_⟩
      obtain ⟨v0, _, r0⟩ := xK.get b
      exact r0.pin
    | dk ks ds =>
      obtain ⟨vs, z, hk, rs⟩ := z
      obtain ⟨Kn, _, _, xK⟩ := z0
      refine ⟨vs, z, hk, rs.len, fun i v d a b => (rs.at' i v d a b).lC x.dom ?_⟩
      obtain ⟨v0, _, r0⟩ := xK.get b
      exact r0.pin
    | dt ks ds =>
      obtain ⟨vs, z, hk, rs⟩ := z
      obtain ⟨Kn, _, _, xK⟩ := z0
      refine ⟨vs, z, hk, rs.len, fun i v d a b => (rs.at' i v d a b).lC x.dom ?_⟩
      obtain ⟨v0, _, r0⟩ := xK.get b
      exact r0.pin
    | cO => exact z
noncomputable def zstart (N : List Str) (ds : List Dv) : av := ds.map some ++ List.replicate (N.length - ds.length) none
theorem mE {Γ : Gz} {N : List Str} {vs : List V} {ds : List Dv} (m : Mz Γ.toBz Γ.M0 Γ.H0) (rs : aM Γ.toBz Γ.M0 Γ.H0 vs ds) : Zr Γ Γ.toBz Γ.M0 (zstart N ds) (start N vs) Γ.H0 := ⟨rfl, rfl, rfl, rfl, fun _ h => h, m.wf, .refl, m, by simp [zstart, start, rs.len], fun i d e => by
  unfold zstart at e
  unfold start
  rw [List.getElem?_append] at e ⊢
  rw [List.length_map] at e ⊢
  rw [rs.len]
  split at e
  · rename_i hi
    rw [if_pos hi]
    rw [List.getElem?_map, Option.map_eq_some_iff] at e
    obtain ⟨d2, e, e2⟩ := e
    cases e2
    obtain ⟨v, hv, r⟩ := rs.get e
    exact ⟨v, by rw [List.getElem?_map, hv]; rfl, r⟩
  · rw [List.getElem?_replicate] at e
    split at e <;> cases e⟩
noncomputable def zEndsOf (M0 : Mh) (Q : ZK) : fO := { nx := fun _ M => jn M0 Q .ao M, rt := jn M0 Q }
noncomputable def XR (Γ : Gz) (E' : ZX) (E : XK) : Prop := ∀ C M' H', Ex Γ.toBz Γ.M0 Γ.H0 M' H' → E' C M' → E (.ref C) none H'
section
variable {P : Program} {w : World} {K : PySem.W.Frag} {mg : Str → Option Value} {base : Heap} {tb : b0} {x : Str} {st : Stmt} {f : Addr} {fd : FuncData} {N ps : List Str} {k : Nat} {S : b5}
theorem ow (len : ∀ ds M Q E, S ds M Q E → ds.length = ps.length) : ∀ vs H Q E, aW P w K tb S vs H Q E → vs.length = ps.length := fun vs H Q E hS => by
  obtain ⟨β, ds, M, Q', E', _, _, _, _, m, rs, s, _⟩ := hS
  exact rs.len.trans (len _ _ _ _ s)
theorem gR (D : Df K mg x st ps f fd) (sc : aN N ps (ah st)) (len : ∀ ds M Q E, S ds M Q E → ds.length = ps.length)
    (body : ∀ (A : Around) (outer : List Env) (s : Shared) (E : XK) (Γ : Gz) (ds : List Dv) (Q' : ZK) (E' : ZX), P = Γ.P → w = Γ.w → K = Γ.K → tb = Γ.tb → bB k (A.deeper (envOfC x (ah st) s.heap.objs.size f fd.code)) → S ds Γ.M0 Q' E' →
      ∃ p, iC Γ (fh bH P w K mg base N x (ah st) f fd.code A outer s Γ.H0 E).qE (bC st) p ∧ p (zEndsOf Γ.M0 Q') (zstart N ds) Γ.M0) : FnOk P w K mg base bH (k + 1) f fd ps (aW P w K tb S) := by
  refine D.fn.Nv sc (ow len) fun A outer s H vs Q E hr h => ?_
  obtain ⟨β, ds, M, Q', E', eP, ew, eK, et, m, rs, hS, q, _⟩ := h
  obtain ⟨p, hp, hq⟩ := body A outer s E ⟨β, M, H⟩ ds Q' E' eP.symm ew.symm eK.symm et.symm hr hS
  refine ⟨_, hp, β, zstart N ds, M, zEndsOf M Q', mE (Γ := ⟨β, M, H⟩) m rs, hq, ?_⟩
  have fin : ∀ d M' v H', Ex β M H M' H' → Rz β M' H' v d → jn M Q' d M' → Q v H' := fun d M' v H' x r h => lD m q x r h
  exact ⟨fun bw M' aA H' x zr h => fin _ _ _ _ ⟨zr.ent, x.mz⟩ .ao h, fun d M' v H' x e r h => fin _ _ _ _ ⟨e, x.mz⟩ r h, fun _ _ _ _ _ _ h => h, fun _ _ _ _ _ _ h => h⟩
end
section
variable {P : Program} {w : World} {K : PySem.W.Frag} {mg : Str → Option Value} {base : Heap} {tb : b0} {x : Str} {st : Stmt} {f : Addr} {fd : FuncData} {N ps : List Str} {k : Nat} {S : b5}
theorem g8 (D : Df K mg x st ps f fd) (sc : aN N ps (ah st)) (len : ∀ ds M Q E, S ds M Q E → ds.length = ps.length)
    (body : ∀ (A : Around) (outer : List Env) (s : Shared) (E : XK) (Γ : Gz) (ds : List Dv) (Q' : ZK) (E' : ZX), P = Γ.P → w = Γ.w → K = Γ.K → tb = Γ.tb → XR Γ E' E → bB k (A.deeper (envOfC x (ah st) s.heap.objs.size f fd.code)) → S ds Γ.M0 Q' E' →
      ∃ p, iC Γ (fh (bK P w) P w K mg base N x (ah st) f fd.code A outer s Γ.H0 E) (bC st) p ∧ p (zEndsOf Γ.M0 Q') (zstart N ds) Γ.M0) : FnOk P w K mg base (bK P w) (k + 1) f fd ps (aW P w K tb S) := by
  refine D.fn.wR sc (ow len) fun A outer s H vs Q E hr h => ?_
  obtain ⟨β, ds, M, Q', E', eP, ew, eK, et, m, rs, hS, q, qx⟩ := h
  obtain ⟨p, hp, hq⟩ := body A outer s E ⟨β, M, H⟩ ds Q' E' eP.symm ew.symm eK.symm et.symm qx hr hS
  refine ⟨_, hp, β, zstart N ds, M, zEndsOf M Q', mE (Γ := ⟨β, M, H⟩) m rs, hq, ?_⟩
  have fin : ∀ d M' v H', Ex β M H M' H' → Rz β M' H' v d → jn M Q' d M' → Q v H' := fun d M' v H' x r h => lD m q x r h
  exact ⟨fun bw M' aA H' x zr h => fin _ _ _ _ ⟨zr.ent, x.mz⟩ .ao h, fun d M' v H' x e r h => fin _ _ _ _ ⟨e, x.mz⟩ r h, fun _ _ _ _ _ _ h => h, fun _ _ _ _ _ _ h => h⟩
end
section
variable {X : Cx} {Γ : Gz} {β : Bz} {K : PySem.W.Frag}
noncomputable def zCall (S : b5) (E' : ZX) (za : eB) : aQ := fun ρ M Q => za ρ M fun ds M1 => S ds M1 Q E'
theorem XR.none : XR Γ (fun _ _ => False) (fun _ _ _ => False) := fun _ _ _ _ h => h
theorem kX {M M1 M2 : Mh} {H H1 H2 : Hp} (ent : Ey M H M1 H1) (sub : ∀ a, a ∈ Γ.hid → a ∈ β.hid) (eP : β.P = Γ.P) (ew : β.w = Γ.w) (eK : β.K = Γ.K) (et : β.tb = Γ.tb) (x : Ex β M1 H1 M2 H2) : Ex Γ.toBz M H M2 H2 := ⟨ent.trans x.toEy, x.mz.sub eP.symm ew.symm eK.symm et.symm sub⟩
section
variable {CX : d8} {k : Nat} {f : Addr} {fd : FuncData} {ps : List Str} {S : b5} {E : XK} {E' : ZX} {x : Str} {p pos : Pos} {e : Expr} {es : List Expr} {za : eB} {P : Program} {w : World} {tb : b0}
theorem Gp (hP : P = Γ.P) (hw : w = Γ.w) (hK : K = Γ.K) (ht : tb = Γ.tb) (hE : XR Γ E' E) {σ : St} {H : Hp} {Q : VK} (h : lE Γ (zCall S E' za) σ H Q) : Bf (aW P w K tb S) [] E (lA Γ za) σ H Q := by
  subst hP hw hK ht
  obtain ⟨β, ρ, M, Q', zr, h, q⟩ := h
  refine ⟨β, ρ, M, _, zr, h, fun ds M1 vs H1 x1 r1 h1 => ?_⟩
  show aW Γ.P Γ.w Γ.K Γ.tb S (vs ++ []) H1 Q E
  rw [List.append_nil]
  exact ⟨β, ds, M1, Q', E', zr.eP, zr.ew, zr.eK, zr.et, x1.mz, r1, h1, fun d M2 v H2 x2 r2 h2 => q _ _ _ _ (x1.trans x2) r2 h2, fun C M2 H2 x2 h2 => hE C M2 H2 (kX zr.ent zr.sub zr.eP zr.ew zr.eK zr.et (x1.trans x2)) h2⟩
theorem aI (F : FnOk X.prog X.w X.K X.mg X.base CX k f fd ps (aW P w K tb S)) (hr : bB k X.A) (hg : Gl X x) (hm : X.mg x = some (.ref f)) (hk : PySem.W.keepIn X.K (.ref f) = true) (hb : Binds X.K fd ps []) (hx : Passes CX X E) (hP : P = Γ.P) (hw : w = Γ.w) (hK : K = Γ.K) (ht : tb = Γ.tb) (hE : XR Γ E' E)
    (ha : QA Γ X (e :: es) za) (cN : (x == ("__debug__" : Str)) = false := by decide) (he : starEach (e :: es) X.env = (false, eval e X.env) :: starEach es X.env := by rfl) (dC : (backTo pos (starEach es X.env)).any (·.1) = false := by rfl) :
    QE Γ X (.Call (.Name x p) (e :: es) [] pos) (zCall S E' za) := (Ce F hr hg hm hk hb .nil hx ha cN he dC).imp fun σ H Q h => Gp hP hw hK ht hE h
end
noncomputable def zRaise (C : Addr) (E' : ZX) (za : eB) : bO := fun _ ρ M => za ρ M fun ds M1 => ds.length ≤ sizeLine ∧ E' C M1
theorem rL {x : Str} {C : Addr} {jm : Expr} {rest : List Expr} {za : eB} {pA : List Value} {B newId rh : String} {E : XK} {E' : ZX} {np bq pos : Pos} (O : PySem.W.excIn X.K C pA newId = true) (FB : ExcBaseFacts B newId rh pA) (hc : X.calm = true) (hR : Raises X E) (hE : XR Γ E' E) (hg : Gl X x) (hm : X.mg x = some (.ref C)) (ha : QA Γ X (jm :: rest) za)
    (cN : (x == ("__debug__" : Str)) = false := by decide) (he : starEach (jm :: rest) X.env = (false, eval jm X.env) :: starEach rest X.env := by rfl) (dC : (backTo bq (starEach rest X.env)).any (·.1) = false := by rfl) :
    QS Γ X (.Raise (some (.Call (.Name x np) (jm :: rest) [] bq)) none pos) (zRaise C E' za) := (zH O FB hc hR hg hm ha cN he dC).imp fun D σ H ⟨β, ρ, M, D', zr, h, r⟩ => ⟨β, ρ, M, _, zr, h, fun ds M1 vs H1 x1 r1 h1 =>
  ⟨by rw [r1.len]; exact h1.1, hE C M1 H1 (kX zr.ent zr.sub zr.eP zr.ew zr.eK zr.et x1) h1.2⟩⟩
noncomputable def zTry (K : PySem.W.Frag) (C0 : Addr) (i n : Nat) (pb : ZX → bO) (ph : bO) : bO := fun D ρ M => pb (fun C M' => subIn K (.ref C) (.ref C0) = some true ∧ ph { D with nx := fun _ M2 => D.nx (List.replicate n none) M2, bk := fun _ M2 => D.bk (List.replicate n none) M2, ct := fun _ M2 => D.ct (List.replicate n none) M2 } ((List.replicate n none).set i (some (.exc C))) M') D ρ M
theorem Gq {body suite : List Stmt} {x n : Str} {i : Nat} {np rn pos : Pos} {oj : Stmt} {C0 : Addr} {pb : ZX → bO} {ph : bO} {nn : Nat} (NZ : X.N.length = nn) (hN : X.N.Nodup) (hi : X.N[i]? = some n) (hl : X.env.scope.names.lookup n = some .local) (lR : X.stack = X.env :: X.outer ∧ X.env.frame = some X.env.locals) (hex : X.ex = []) (O : i5 X.K C0) (hg : Gl X x) (hm : X.mg x = some (.ref C0))
    (hb : ∀ (T : Value → Shared → Prop) (pn : List (Addr × Obj)) (E : XK) (E' : ZX) (aV : Gz), aV.P = Γ.P → aV.w = Γ.w → aV.K = Γ.K → aV.tb = Γ.tb → Passes (bK X.prog X.w) (X.jM T pn) E → XR aV E' E → iC aV (X.jM T pn) body (pb E')) (hs : ∀ a : Addr, iC Γ (X.suite a) (oj :: suite) ph)
    (cN : (x == ("__debug__" : Str)) = false := by decide) :
    QS Γ X (.Try body [.ExceptHandler (some (.Name x np)) (some n) (oj :: suite) rn] [] [] pos) (zTry X.K C0 i nn pb ph) := by
  subst NZ
  refine (FQ (tb := fun E => fun D σ H => ∃ (aV : Gz) (E' : ZX), aV.P = Γ.P ∧ aV.w = Γ.w ∧ aV.K = Γ.K ∧ aV.tb = Γ.tb ∧ XR aV E' E ∧ lS aV (pb E') D σ H) hN hi hl lR hex O hg hm (fun T pn E hp => ⟨fun pins s σ H D I h => ?_⟩) hs cN).imp fun D σ H ⟨β, ρ, M, D', zr, h, r⟩ => ⟨⟨β, M, H⟩, _, zr.eP, zr.ew, zr.eK, zr.et, ?_, β, ρ, M, D', ⟨rfl, rfl, rfl, rfl, fun _ h => h, zr.mz.wf, .refl, zr.mz, zr.len, zr.at'⟩, h, ?_⟩
  · obtain ⟨aV, E', e1, e2, e4, e3, hE, h⟩ := h
    exact (hb T pn E E' aV e1 e2 e4 e3 hp hE) pins s σ H D I h
  · intro C M' H' x' hC
    have x' : Ex β M H M' H' := x'
    obtain ⟨uN, N0⟩ := hC
    refine ⟨C, rfl, uN, fun a ha => ?_⟩
    have x2 := Ex.lay x'.mz ha (mw C a)
    have x3 := x'.trans x2
    have bare : ∀ {M2 : Mh} {H2 : Hp}, Ex β M H M2 H2 → Zr Γ β M2 (List.replicate X.N.length none) (blank X.N.length) H2 := fun x => ⟨zr.eP, zr.ew, zr.eK, zr.et, zr.sub, zr.wf, zr.ent.trans x.toEy, x.mz, by simp [blank], fun j d e => by
      rw [List.getElem?_replicate] at e
      split at e <;> cases e⟩
    refine ⟨β, _, M', _, (bare x3).set i (.exc (x'.mz.fz ha) aG), N0, ?_⟩
    have uZ : ∀ {M2 : Mh} {fm : av} {gC : St} {H2 : Hp}, Zr Γ β M2 fm gC H2 → Zr Γ β M2 (List.replicate X.N.length none) (blank X.N.length) H2 := fun z => ⟨z.eP, z.ew, z.eK, z.et, z.sub, z.wf, z.ent, z.mz, by simp [blank], fun j d e => by
      rw [List.getElem?_replicate] at e
      split at e <;> cases e⟩
    exact ⟨fun fm M2 gC H2 y z h => r.nx _ _ _ _ (x3.ev.trans y) (uZ z) h, fun d M2 v H2 y e z h => r.rt _ _ _ _ (x3.ev.trans y) e z h, fun fm M2 gC H2 y z h => r.bk _ _ _ _ (x3.ev.trans y) (uZ z) h, fun fm M2 gC H2 y z h => r.ct _ _ _ _ (x3.ev.trans y) (uZ z) h⟩
  · have up : ∀ {bw : av} {M2 : Mh} {aA : St} {H2 : Hp}, Zr ⟨β, M, H⟩ β M2 bw aA H2 → Zr Γ β M2 bw aA H2 := fun z => ⟨zr.eP, zr.ew, zr.eK, zr.et, zr.sub, zr.wf, zr.ent.trans z.ent, z.mz, z.len, z.at'⟩
    exact ⟨fun fm M2 gC H2 y z h => r.nx _ _ _ _ y (up z) h, fun d M2 v H2 y e z h => r.rt _ _ _ _ y (zr.ent.trans e) z h, fun fm M2 gC H2 y z h => r.bk _ _ _ _ y (up z) h, fun fm M2 gC H2 y z h => r.ct _ _ _ _ y (up z) h⟩
noncomputable def zIsE (K : PySem.W.Frag) : nB := fun ds M Q => match ds with
  | [.exc C, .raw (.ref D)] => d9 K C ∧ (match kitOne K (.ref C) (.ref D) with | some b => Q (.bl b) M | none => False)
  | [.exc C, .raw (.ty T)] => d9 K C ∧ (match kitOne K (.ref C) (.type T) with | some b => Q (.bl b) M | none => False)
  | [.exc C, .tup es] => d9 K C ∧ ∃ Ds : List Addr, es = Ds.map (fun D => .raw (.ref D)) ∧ (match kitAny K (.ref C) (Ds.map Value.ref) with | some b => Q (.bl b) M | none => False)
  | _ => False
theorem dg (hK : X.K = K) : gw Γ X (.builtin "isinstance") (zIsE K) := ⟨_, zJ hK, fun β xs ds M H Q Q' _ _ _ m rs z q => by
  unfold zIsE at z
  split at z
  · rename_i C D
    obtain ⟨x, y, rfl, r, r'⟩ := gd rs
    obtain ⟨a, rfl, f, h⟩ := kM r
    have e := i6 r'
    subst e
    obtain ⟨hC, z⟩ := z
    split at z
    · rename_i b hb
      exact ⟨a, C, b, h, hC, .inl ⟨D, rfl, hb⟩, q _ _ _ _ (.refl m) (.bl _) z⟩
    · exact z.elim
  · rename_i C T
    obtain ⟨x, y, rfl, r, r'⟩ := gd rs
    obtain ⟨a, rfl, f, h⟩ := kM r
    have e := i6 r'
    subst e
    obtain ⟨hC, z⟩ := z
    split at z
    · rename_i b hb
      exact ⟨a, C, b, h, hC, .inr (.inl ⟨T, rfl, hb⟩), q _ _ _ _ (.refl m) (.bl _) z⟩
    · exact z.elim
  · rename_i C es
    obtain ⟨x, y, rfl, r, r'⟩ := gd rs
    obtain ⟨a, rfl, f, h⟩ := kM r
    obtain ⟨b2, vs, rfl, f2, h2, cy⟩ := cj r'
    obtain ⟨hC, Ds, rfl, z⟩ := z
    split at z
    · rename_i b hb
      have ev : vs = Ds.map V.ref := by
        refine List.ext_getElem? fun i => ?_
        cases e : vs[i]? with
        | none =>
          have := List.getElem?_eq_none_iff.mp e
          have l := cy.len
          simp at l
          rw [List.getElem?_map, List.getElem?_eq_none_iff.mpr (by omega)]
          rfl
        | some v =>
          obtain ⟨d, hd, rd⟩ := cy.get' e
          rw [List.getElem?_map] at hd
          cases e2 : Ds[i]? with
          | none => rw [e2] at hd; cases hd
          | some D => rw [e2] at hd; cases hd; rw [List.getElem?_map, e2, i6 rd]; rfl
      subst ev
      exact ⟨a, C, b, h, hC, .inr (.inr ⟨b2, Ds, rfl, h2, hb⟩), q _ _ _ _ (.refl m) (.bl _) z⟩
    · exact z.elim
  · exact z.elim⟩
section
variable {tg elt iter : Expr} {ifs : List Expr} {scope : Scope} {pos : Pos} {N' : List Str} {tn : Nat} {idx : List Nat} {zi : fk} {g : cx} {tt : cP} {te : aQ} {c P : Addr} {k : Nat}
theorem eh (hc : X.calm = true) (B : aL X.N X.env.scope scope N' tn idx) (hi : QI Γ X tg iter zi)
    (hg : Blk X N' scope fun Y => QG Γ Y tg g) (ht : Blk X N' scope fun Y => rF Γ Y ifs tt) (he : Blk X N' scope fun Y => QE Γ Y elt te)
    (hs : ∀ x, foldedSetIterable iter X.env x = pure x := by intro _; rfl) : QE Γ X (.ListComp elt [⟨tg, iter, ifs, 0⟩] scope pos) (zComp tn idx zi g tt te) := (lW hc B hi hg ht he hs).imp fun σ H Q h => Ge h
theorem iI (hc : X.calm = true) (B : aL X.N X.env.scope scope N' tn idx) (hi : QI Γ X tg iter zi)
    (hg : Blk X N' scope fun Y => QG Γ Y tg g) (ht : Blk X N' scope fun Y => rF Γ Y ifs tt) (he : Blk X N' scope fun Y => QE Γ Y elt te)
    (hs : ∀ x, foldedSetIterable iter X.env x = pure x := by intro _; rfl) : QE Γ X (.ListComp elt [⟨tg, iter, ifs, 0⟩] scope pos) (zCompP tn idx zi g tt te) := (lW hc B hi hg ht he hs).imp fun σ H Q h => oq h
theorem sF {i : Nat} {y : Str} {py iu : Pos} (hN : X.N.Nodup) (jz : X.N[i]? = some y) (hy : X.env.scope.names.lookup y = some .local) (hc : X.calm = true) (B : aL X.N X.env.scope scope N' tn idx) (hi : QI Γ X tg iter zi)
    (hg : Blk X N' scope fun Y => QG Γ Y tg g) (ht : Blk X N' scope fun Y => rF Γ Y ifs tt) (he : Blk X N' scope fun Y => QE Γ Y elt te)
    (qS : swapsWith (.ListComp elt [⟨tg, iter, ifs, 0⟩] scope pos) (some (.Name y py)) iu.line X.env = pure true := by rfl)
    (hs : ∀ x, foldedSetIterable iter X.env x = pure x := by intro _; rfl) : QS Γ X (.Assign [.Name y py] (.ListComp elt [⟨tg, iter, ifs, 0⟩] scope pos) iu) (zAsg (zCompP tn idx zi g tt te) (zgName i)) := (uK hN jz hy hc B hi hg ht he qS hs).imp fun D σ H h => uU (fun _ _ _ h => oq h) h
theorem rM {p qX : Pos} (hP : P ∈ Γ.tb) (hr : bB (k + 1) X.A) (hc : X.calm = true) (B : aL X.N X.env.scope scope N' tn idx)
    (h0 : scope.names.lookup (".0" : Str) = some .local) (px : scope.isCoroutine = false) (bJ : X.env.code = .ref c) (hd : PySem.W.CodeHd X.base c P) (du : ∃ bm ob, BMod X.base mainGlobals X.mg bm ob)
    (tS : Gl X "all") (hm : X.mg "all" = none) (hi : QI Γ X tg iter zi) (hg : mr X N' scope k fun Y => QG Γ Y tg g) (ht : mr X N' scope k fun Y => rF Γ Y ifs tt) (he : mr X N' scope k fun Y => QE Γ Y elt te)
    (hs : ∀ x, genFold iter X.env x = pure x := by intro _; rfl) : QE Γ X (.Call (.Name "all" p) [dR elt tg iter ifs scope qX] [] pos) (zAll tn idx zi g tt te) := (Fu hr hc B h0 px bJ hd du tS hm hi hg ht he hs).imp fun σ H Q h => IP hP h
end
end
section
variable {X : Cx} {Γ : Gz} {β : Bz} {K : PySem.W.Frag}
section
variable {tg elt iter : Expr} {ifs : List Expr} {scope : Scope} {pos : Pos} {N' : List Str} {tn : Nat} {idx : List Nat} {zi : fk} {g : cx} {tt : cP} {te : aQ} {c P : Addr} {k : Nat}
noncomputable def Bs (g : cx) (tt : cP) (te : aQ) : List Dv → av → Mh → (List Int → Mh → Prop) → List Int → Prop
  | [], _, M, Q, acc => Q acc M
  | d :: ds, τ, M, Q, acc => g d τ M fun aE M2 => tt aE M2 fun b M3 => if b = true then te aE M3 fun y M4 => (match y with | .int k => acc.length + 1 < scanBound ∧ Bs g tt te ds aE M4 Q (LR acc k) | _ => False) else Bs g tt te ds aE M3 Q acc
end
noncomputable def fq (xs ys : List Dv) : List Dv := (xs.zip ys).map fun p => .tup [p.1, p.2]
noncomputable def iJ (n : Nat) : List Dv := (List.range n).map fun i => .int (i : Nat)
theorem pI {J : It} {vs us : List V} {ds es : List Dv} {M : Mh} {H : Hp} (r : aM β M H vs ds) (r2 : aM β M H us es) (h : ∀ M' H', Ey M H M' H' → Bn J (vs.zip us) H') : xn β J (fq ds es) M H := fun cm M' H' bx x m i => by
  have q := h M' H' x i
  have hl : (fq ds es).length = (vs.zip us).length := by simp [fq, r.len, r2.len]
  rw [hl]
  refine ⟨fun hi => ⟨(q.1 hi).1, fun v kP y => ?_⟩, q.2⟩
  obtain ⟨t, p, ht, rfl, hp, rfl⟩ := (q.1 hi).2 v kP y
  rw [List.getElem?_zip_eq_some] at hp
  obtain ⟨d, hd, rd⟩ := r.get' hp.1
  obtain ⟨e, he, re⟩ := r2.get' hp.2
  have x2 := Ex.lay m ht (.tup [p.1, p.2])
  refine ⟨x2, .tup [d, e], ?_, fj (m.fz ht) aG (.cons (((rd.bx bx).ey x).ex x2) (.cons (((re.bx bx).ey x).ex x2) .nil))⟩
  unfold fq
  rw [List.getElem?_map, Option.map_eq_some_iff]
  exact ⟨(d, e), by rw [List.getElem?_zip_eq_some]; exact ⟨hd, he⟩, rfl⟩
theorem enum_zip (vs : List V) : ((List.range vs.length).map fun i => (V.int (i : Nat), vs.getD i .ao)) = ((List.range vs.length).map fun i => V.int (i : Nat)).zip vs := by
  refine List.ext_getElem? fun i => ?_
  by_cases hi : i < vs.length
  · rw [List.getElem?_map, List.getElem?_range hi]
    symm
    show _ = some (V.int (i : Nat), vs.getD i .ao)
    rw [List.getElem?_zip_eq_some, List.getElem?_map, List.getElem?_range hi, List.getD_eq_getElem?_getD, List.getElem?_eq_getElem hi]
    exact ⟨rfl, rfl⟩
  · rw [List.getElem?_eq_none_iff.mpr (by simp; omega), List.getElem?_eq_none_iff.mpr (by simp; omega)]
theorem ox {n : Nat} {M : Mh} {H : Hp} : aM β M H ((List.range n).map fun i => V.int (i : Nat)) (iJ n) := ⟨by simp [iJ], fun i v d a b => by
  unfold iJ at b
  rw [List.getElem?_map] at a b
  cases e : (List.range n)[i]? with
  | none => rw [e] at a; cases a
  | some c => rw [e] at a b; cases a; cases b; exact .int _⟩
theorem Sq.Ko {H : Hp} {a : Addr} {xs : List V} (h : H a = some (.lst xs)) : Sq true K H a xs := by
  unfold Sq
  exact bM.of h
theorem Sq.ofT {H : Hp} {a : Addr} {xs : List V} (h : H a = some (.tup xs)) : Sq false K H a xs := by
  unfold Sq
  exact bN.of h
section
variable {elts : List Expr} {x1 : Nat} {tp p pos : Pos} {l l1 l2 : Expr} {pl p1 p2 : aQ}
noncomputable def ziEnumK (k : Bool) (p : aQ) : fk := fun ρ M R => p ρ M fun d M1 => match k, d with | false, .tup ds => R (fq (iJ ds.length) ds) M1 | true, .lst ds => R (fq (iJ ds.length) ds) M1 | _, _ => False
theorem CZ (k : Bool) (hK : X.K = K) (hg : Gl X "enumerate") (hm : X.mg "enumerate" = none) (hl : QE Γ X l pl) (hs : starEach [l] X.env = [(false, eval l X.env)] := by rfl) :
    QI Γ X (.Tuple elts x1 tp) (.Call (.Name "enumerate" p) [l] [] pos) (ziEnumK k pl) := (CI k hK hg hm hl hs).imp fun σ H R ⟨β, ρ, M, R', zr, h, q⟩ => ⟨β, ρ, M, _, zr, h, fun d M1 v H1 x1 r1 h1 => by
  revert h1
  split
  · intro h1
    obtain ⟨a, vs, rfl, f, e, rs⟩ := cj r1
    refine ⟨a, rfl, ⟨vs, Sq.ofT e⟩, q _ _ _ _ x1 ?_ h1⟩
    rw [← rs.len]
    exact pI ox rs fun M' H' x => by rw [← enum_zip]; exact pC (Sq.ofT (x.get f.1 e rfl))
  · intro h1
    obtain ⟨a, vs, rfl, f, e, rs⟩ := da r1
    refine ⟨a, rfl, ⟨vs, Sq.Ko e⟩, q _ _ _ _ x1 ?_ h1⟩
    rw [← rs.len]
    exact pI ox rs fun M' H' x => by rw [← enum_zip]; exact pC (Sq.Ko (x.get f.1 e rfl))
  · exact fun h => h.elim⟩
end
noncomputable def zRangeP (p : aQ) : aQ := fun ρ M Q => p ρ M fun d M1 => match d with | .int j => -(2 ^ 24) ≤ j ∧ j ≤ 2 ^ 24 ∧ ∀ a, M1 a = none → Q (.ptr a) (aH M1 a (.lst (iJ j.toNat))) | _ => False
section
variable {e : Expr} {pe : aQ} {p p1 p2 pos : Pos}
theorem p0 (hc : X.calm = true) (hg : Gl X "list") (hm : X.mg "list" = none) (Fy : Gl X "range") (FA : X.mg "range" = none) (he : QE Γ X e pe) (hs : starEach [e] X.env = [(false, eval e X.env)] := by rfl) :
    QE Γ X (.Call (.Name "list" p) [.Call (.Name "range" p1) [e] [] p2] [] pos) (zRangeP pe) := (qZ hc hg hm Fy FA he hs).imp fun σ H Q ⟨β, ρ, M, Q', zr, h, q⟩ => ⟨β, ρ, M, _, zr, h, fun d M1 v H1 x1 r1 h1 => by
  revert h1
  split
  · rename_i j
    rintro ⟨b1, b2, h1⟩
    refine ⟨_, aK r1, b1, b2, fun l hl => ?_⟩
    have x2 := Ex.own x1.mz (.inr hl) (ox (n := j.toNat) (β := β) (M := M1) (H := H1))
    exact q _ _ _ _ (x1.trans x2) (.ptr (by rw [updM_same]; rfl)) (h1 l (x1.mz.free hl))
  · exact fun h => h.elim⟩
noncomputable def zNeg (p : aQ) : aQ := fun ρ M Q => p ρ M fun d M1 => match d with | .int i => Q (.int (-i)) M1 | _ => False
theorem iK (ha : QE Γ X e pe) : QE Γ X (.UnaryOp .USub e pos) (zNeg pe) := (Ij ER ha).imp fun σ H Q ⟨β, ρ, M, Q', zr, h, q⟩ => ⟨β, ρ, M, _, zr, h, fun d M1 v H1 x1 r1 h1 => by
  revert h1
  split
  · intro h1
    exact ⟨_, aK r1, q _ _ _ _ x1 (.int _) h1⟩
  · exact fun h => h.elim⟩
end
theorem qv (i : Nat) {x : Str} {pos : Pos} (hN : X.N[i]? = some x := by rfl) (hv : mR X.env.scope x := by first | exact Or.inl rfl | exact Or.inr (Or.inl rfl) | exact Or.inr (Or.inr rfl)) (hd : (x == ("__debug__" : Str)) = false := by decide)
    (dA : (x == ("__classdict__" : Str)) = false := by decide) : QE Γ X (.Name x pos) (zVar i) := F2 hN hv hd dA
end
theorem N1 {c : Bool} {A B : Prop} (h : c = true) (a : A) : if c = true then A else B := by rw [if_pos h]; exact a
theorem N3 {c : Bool} {A B : Prop} (h : c = false) (b : B) : if c = true then A else B := by rw [h, if_neg Bool.false_ne_true]; exact b
theorem eG {c : Bool} {A B : Prop} (h1 : c = true → A) (h2 : c = false → B) : if c = true then A else B := by
  cases c
  · exact N3 rfl (h2 rfl)
  · exact N1 rfl (h1 rfl)
theorem lF {g : cx} {te : aQ} {M : Mh} (p : Dv → Bool) (I : av → Prop) : ∀ {ds : List Dv} {τ : av} {Q : Bool → Mh → Prop}, I τ → (∀ d ∈ ds, ∀ τ, I τ → ∀ R : av → ZK, (∀ aE, I aE → R aE (.bl (p d)) M) → g d τ M fun aE M2 => te aE M2 (R aE)) → Q (ds.all p) M → i7 g zNoIf te ds τ M Q
  | [], τ, Q, _, _, q => q
  | d :: ds, τ, Q, i, h, q => by
    refine h d List.mem_cons_self τ i (fun aE => zBool fun c M4 => if c = false then Q false M4 else i7 g zNoIf te ds aE M4 Q) fun aE i2 => ?_
    show if p d = false then Q false M else i7 g zNoIf te ds aE M Q
    cases e : p d with
    | false =>
      rw [if_pos rfl]
      rw [List.all_cons, e] at q
      exact q
    | true =>
      rw [if_neg (by decide)]
      rw [List.all_cons, e, Bool.true_and] at q
      exact lF p I i2 (fun d' hd => h d' (List.mem_cons_of_mem _ hd)) q
theorem t8 {g : cx} {te : aQ} (f : Dv → Dv) (I : av → Mh → Prop) : ∀ {ds : List Dv} {τ : av} {M : Mh} {Q : List Dv → Mh → Prop}, I τ M → (∀ d ∈ ds, ∀ τ M, I τ M → ∀ R : av → ZK, (∀ aE M2, I aE M2 → R aE (f d) M2) → g d τ M fun aE M2 => te aE M2 (R aE)) → (∀ τ M, I τ M → Q (ds.map f) M) → fQ g zNoIf te ds τ M Q
  | [], τ, M, Q, i, _, q => q τ M i
  | d :: ds, τ, M, Q, i, h, q => by
    refine h d List.mem_cons_self τ M i (fun aE y M4 => fQ g zNoIf te ds aE M4 fun ys M5 => Q (y :: ys) M5) fun aE M2 i2 => ?_
    exact t8 f I i2 (fun d' hd => h d' (List.mem_cons_of_mem _ hd)) fun l0 M3 i3 => q l0 M3 i3
theorem oy {g : cx} {tt : cP} {te : aQ} (t : Dv → Bool) (f : Dv → Dv) (I : av → Mh → Prop) : ∀ {ds : List Dv} {τ : av} {M : Mh} {Q : List Dv → Mh → Prop}, I τ M →
    (∀ d ∈ ds, ∀ τ M, I τ M → ∀ (R0 : av → Mh → Prop) (R : av → ZK), (t d = true → ∀ aE M2, I aE M2 → R aE (f d) M2) → (t d = false → ∀ aE M2, I aE M2 → R0 aE M2) → g d τ M fun aE M2 => tt aE M2 fun b M3 => if b = true then te aE M3 (R aE) else R0 aE M3) →
    (∀ τ M, I τ M → Q ((ds.filter t).map f) M) → fQ g tt te ds τ M Q
  | [], τ, M, Q, i, _, q => q τ M i
  | d :: ds, τ, M, Q, i, h, q => by
    refine h d List.mem_cons_self τ M i (fun aE M3 => fQ g tt te ds aE M3 Q) (fun aE y M4 => fQ g tt te ds aE M4 fun ys M5 => Q (y :: ys) M5) (fun e aE M2 i2 => ?_) fun e aE M2 i2 => ?_
    · refine oy t f I i2 (fun d' hd => h d' (List.mem_cons_of_mem _ hd)) fun l0 M3 i3 => ?_
      have := q l0 M3 i3
      rw [List.filter_cons, if_pos e] at this
      exact this
    · refine oy t f I i2 (fun d' hd => h d' (List.mem_cons_of_mem _ hd)) fun l0 M3 i3 => ?_
      have := q l0 M3 i3
      rw [List.filter_cons, if_neg (by rw [e]; decide)] at this
      exact this
noncomputable abbrev eI (ns : List Int) : Dv := .tup (ns.map .int)
noncomputable abbrev eN (aq : List (List Int)) : Dv := .tup (aq.map eI)
noncomputable abbrev jb (ns : List Int) : Dv := .lst (ns.map .int)
theorem gf {M : Mh} (ns : List Int) : ∀ d ∈ ns.map Dv.int, Pin M d := fun d hd => by
  obtain ⟨i, _, rfl⟩ := List.mem_map.mp hd
  exact .int i
theorem Gr {M : Mh} (ns : List Int) : Pin M (eI ns) := .tup (gf ns)
theorem Gs {M : Mh} (aq : List (List Int)) : Pin M (eN aq) := .tup fun d hd => by
  obtain ⟨r, _, rfl⟩ := List.mem_map.mp hd
  exact Gr r
theorem C1 {α β : Type} {f : α → β} {xs : List α} {i : Int} {x : α} (h : cq xs i = some x) : cq (xs.map f) i = some (f x) := by
  unfold cq at h ⊢
  rw [List.length_map]
  cases e : gE xs.length i with
  | none => rw [e] at h; cases h
  | some j => rw [e] at h; simp only [Option.bind_some] at h ⊢; rw [List.getElem?_map, h]; rfl
theorem xM {α : Type} {xs : List α} {k : Nat} (h : k < xs.length) : cq xs ((k : Nat) : Int) = some xs[k] := cu (List.getElem?_eq_getElem h)
noncomputable def spLaw (K : PySem.W.Frag) (tb : b0) : Sp := fun vs H Q _ => ∃ (a : Addr) (ns : List Int), vs = [.ref a] ∧ bM K H a (ns.map V.int) ∧ ns.length ≤ 63 ∧ Bj tb.g H ∧ (∀ p ∈ tb.l, Lm H p) ∧ ∀ H', (∀ p ∈ tb.l, ∃ ps, H' p.1 = some (.lam ps)) → Q (.bl true) H'
noncomputable def Gu : b5 := fun ds M Q _ => ∃ ns : List Int, ds = [.bt ns] ∧ ns.length ≤ 63 ∧ (∀ a, M a = none) ∧ ∀ M', Q (.bl true) M'
theorem Gv {P : Program} {w : World} {K : PySem.W.Frag} {mg : Str → Option Value} {base : Heap} {k : Nat} {f : Addr} {fd : FuncData} {x : Str} {tb : b0} (G : FnOk P w K mg base bH k f fd [x] (aW P w K tb Gu)) : FnOk P w K mg base bH k f fd [x] (spLaw K tb) :=
  G.imp fun vs H Q E ⟨a, ns, e, hS, hl, hT, hL, q⟩ => by
    subst e
    have m : Mz ⟨P, w, K, tb, []⟩ (fun _ => none) H := ⟨(fun a o e => nomatch e), hT, (fun a ha => absurd ha (by simp)), (fun a o e => nomatch e), hL⟩
    refine ⟨⟨P, w, K, tb, []⟩, [.bt ns], fun _ => none, fun d _ => d = .bl true, fun _ _ => False, rfl, rfl, rfl, rfl, m, .cons ?_ .nil, ⟨ns, rfl, hl, fun _ => rfl, fun _ => rfl⟩, fun d M' v H' x r h => ?_, fun _ _ _ _ h => h.elim⟩
    · have fz : Fz ⟨P, w, K, tb, []⟩ (fun _ => none) a := ⟨rfl, by simp⟩
      rcases hS with (h | ⟨o, h⟩) | h
      · exact .cA fz h
      · exact .bt fz h
      · exact .cB h
    · subst h
      rw [cC r]
      exact q H' fun p hp => let ⟨ps, e, _⟩ := x.mz.lams p hp; ⟨ps, e⟩
noncomputable def Keeps (M0 M : Mh) : Prop := ∀ a o, M0 a = some o → M a = some o
theorem Keeps.refl {M0 : Mh} : Keeps M0 M0 := fun _ _ h => h
theorem Keeps.upd {M0 M : Mh} {a : Addr} {o : Mo} (ha : M0 a = none) (h : Keeps M0 M) : Keeps M0 (aH M a o) := fun b u e => by
  rw [au (fun z => by rw [z, ha] at e; cases e)]
  exact h b u e
theorem pJ {M0 M : Mh} {Q : ZK} {d : Dv} (h : Keeps M0 M) (p : Pin M0 d) (q : Q d M0) : jn M0 Q d M := .inr ⟨h, d, .pin p, q⟩
theorem gK {lo : Int} {n i : Nat} {d : Dv} (h : (dF lo n)[i]? = some d) : d = .int (lo + (i : Nat)) ∧ i < n := by
  unfold dF at h
  rw [List.getElem?_map] at h
  cases e : (List.range n)[i]? with
  | none => rw [e] at h; cases h
  | some k =>
    rw [e] at h
    obtain ⟨h1, h2⟩ := List.getElem?_eq_some_iff.mp e
    rw [List.getElem_range] at h2
    subst h2
    exact ⟨(Option.some.inj h).symm, by simpa using h1⟩
theorem nG {lo : Int} {n : Nat} {d : Dv} (h : d ∈ dF lo n) : ∃ i : Nat, i < n ∧ d = .int (lo + (i : Nat)) := by
  obtain ⟨i, hi⟩ := List.mem_iff_getElem?.mp h
  obtain ⟨e, l⟩ := gK hi
  exact ⟨i, l, e⟩
theorem rangeD_len (lo : Int) (n : Nat) : (dF lo n).length = n := by simp [dF]
theorem xN {xs ys : List Dv} {k : Nat} {d : Dv} (h : (fq xs ys)[k]? = some d) : ∃ x y, d = .tup [x, y] ∧ xs[k]? = some x ∧ ys[k]? = some y := by
  unfold fq at h
  rw [List.getElem?_map, Option.map_eq_some_iff] at h
  obtain ⟨p, h, rfl⟩ := h
  rw [List.getElem?_zip_eq_some] at h
  exact ⟨p.1, p.2, rfl, h.1, h.2⟩
theorem C2 {n k : Nat} {d : Dv} (h : (iJ n)[k]? = some d) : d = .int (k : Nat) ∧ k < n := by
  unfold iJ at h
  rw [List.getElem?_map] at h
  cases e : (List.range n)[k]? with
  | none => rw [e] at h; cases h
  | some j =>
    rw [e] at h
    obtain ⟨h1, h2⟩ := List.getElem?_eq_some_iff.mp e
    rw [List.getElem_range] at h2
    subst h2
    exact ⟨(Option.some.inj h).symm, by simpa using h1⟩
theorem C3 {ds : List Dv} {k : Nat} {d : Dv} (h : (fq (iJ ds.length) ds)[k]? = some d) : ∃ x, d = .tup [.int (k : Nat), x] ∧ ds[k]? = some x := by
  obtain ⟨x, y, rfl, h1, h2⟩ := xN h
  obtain ⟨rfl, _⟩ := C2 h1
  exact ⟨y, rfl, h2⟩
theorem atI_zero {α : Type} {x : α} {xs : List α} : cq (x :: xs) 0 = some x := cu (j := 0) rfl
theorem xO {α : Type} {f : α → Dv} {xs : List α} {k : Nat} {d : Dv} (h : (xs.map f)[k]? = some d) : ∃ x, xs[k]? = some x ∧ d = f x := by
  rw [List.getElem?_map, Option.map_eq_some_iff] at h
  obtain ⟨x, h, e⟩ := h
  exact ⟨x, h, e.symm⟩
theorem t9 (xs : List Dv) (lo hi : Option Int) : cutD xs lo hi = (xs.drop (HT.aT xs.length 0 lo)).take (HT.aT xs.length xs.length hi - HT.aT xs.length 0 lo) := rfl
theorem ua {n d k : Nat} : HT.aT n d (some (k : Nat)) = min k n := by
  unfold HT.aT
  simp only []
  split <;> omega
theorem C4 {xs : List Dv} {k : Nat} : cutD xs none (some (k : Nat)) = xs.take k := by
  rw [t9, ua]
  show (xs.drop 0).take (min k xs.length - 0) = xs.take k
  rw [List.drop_zero, Nat.sub_zero]
  by_cases h : k ≤ xs.length
  · rw [Nat.min_eq_left h]
  · rw [Nat.min_eq_right (by omega), List.take_of_length_le (Nat.le_refl _), List.take_of_length_le (by omega)]
theorem xP {xs : List Dv} {k : Nat} : cutD xs (some (k : Nat)) none = xs.drop k := by
  rw [t9, ua]
  show (xs.drop (min k xs.length)).take (xs.length - min k xs.length) = xs.drop k
  by_cases h : k ≤ xs.length
  · rw [Nat.min_eq_left h, List.take_of_length_le (by rw [List.length_drop]; omega)]
  · rw [Nat.min_eq_right (by omega), List.drop_of_length_le (Nat.le_refl _), List.drop_of_length_le (by omega)]
    exact List.take_nil
end L2
namespace L2
open PySem PySem.Spec PyProof.Rows
theorem xQ {M : Model} {A : Around} {E : Value → Shared → Prop} {s : Shared} {scope : Scope} {globals : Addr} {cl : List (Str × Addr)} {qual : Str} {env : Env} {Q : Env → Shared → Prop}
    (h : Q (newEnv scope s.heap.objs.size globals (cellsFrom (s.heap.objs.size + 1) scope.names cl) qual none .none (some env) builtinsNs) { s with heap := pushCells (s.heap.push { cls := .type "dict", data := .dict #[] }) scope.names }) :
    wpAny M A (newFunctionEnv scope globals cl [] qual none .none (some env)) Q E s := by
  simp only [newFunctionEnv, Option.isSome_some, if_true]
  refine wpAny_bind (wpAny_alloc ?_)
  refine wpAny_bind (wpAny_layCells _ (fun name kind cells => by cases N4 : kind == NameKind.cell <;> simp [N4]) _ _ _ _ ?_)
  rw [show ({ s with heap := s.heap.push { cls := .type "dict", data := .dict #[] } } : Shared).heap.objs.size = s.heap.objs.size + 1 from Heap.size_push ..]
  exact wpAny_pure h
theorem iL : ∀ (names : List (Str × NameKind)) (h : Heap) (cl : List (Str × Addr)) (x : Str) (c : Addr), (cellsFrom h.objs.size names cl).lookup x = some c →
    ((x, NameKind.cell) ∈ names ∧ h.objs.size ≤ c ∧ (pushCells h names).IsCell c none) ∨ ((∀ k, (x, k) ∈ names → k ≠ .cell) ∧ cl.lookup x = some c)
  | [], h, cl, x, c, e => .inr ⟨fun k z => by simp at z, e⟩
  | (n, k) :: r, h, cl, x, c, e => by
    unfold cellsFrom at e
    unfold pushCells
    split at e
    · rename_i hk
      have N5 : k = .cell := by simpa using hk
      subst N5
      rw [if_pos hk]
      have sz : (h.push { cls := .type "cell", data := .cell none }).objs.size = h.objs.size + 1 := Heap.size_push ..
      rw [← sz] at e
      rcases iL r _ _ x c e with ⟨a, b, d⟩ | ⟨a, b⟩
      · exact .inl ⟨List.mem_cons_of_mem _ a, by omega, d⟩
      · rw [List.lookup_cons] at b
        cases hx : x == n with
        | true =>
          rw [hx] at b
          cases b
          have e2 : x = n := by simpa using hx
          subst e2
          exact .inl ⟨List.mem_cons_self, Nat.le_refl _, ⟨_, pushCells_keeps r _ _ _ (Heap.get?_push_size _ rfl), rfl⟩⟩
        | false =>
          rw [hx] at b
          refine .inr ⟨fun k2 z => ?_, b⟩
          rcases List.mem_cons.mp z with q | q
          · cases q; simp at hx
          · exact a k2 q
    · rename_i hk
      rw [if_neg hk]
      rcases iL r h cl x c e with ⟨a, b, d⟩ | ⟨a, b⟩
      · exact .inl ⟨List.mem_cons_of_mem _ a, b, d⟩
      · refine .inr ⟨fun k2 z => ?_, b⟩
        rcases List.mem_cons.mp z with q | q
        · cases q; intro z; subst z; exact hk rfl
        · exact a k2 q
theorem cells_apart : ∀ (names : List (Str × NameKind)) (h : Heap) (cl : List (Str × Addr)) (x y : Str) (c : Addr), (∀ n c, cl.lookup n = some c → c < h.objs.size) → (∀ x y c, cl.lookup x = some c → cl.lookup y = some c → x = y) → (cellsFrom h.objs.size names cl).lookup x = some c → (cellsFrom h.objs.size names cl).lookup y = some c → x = y
  | [], h, cl, x, y, c, _, inj, e, e' => inj x y c e e'
  | (n, k) :: r, h, cl, x, y, c, lt, inj, e, e' => by
    unfold cellsFrom at e e'
    split at e
    · rename_i hk
      rw [if_pos hk] at e'
      have sz : (h.push { cls := .type "cell", data := .cell none }).objs.size = h.objs.size + 1 := Heap.size_push ..
      rw [← sz] at e e'
      refine cells_apart r _ _ x y c (fun m d z => ?_) (fun x y d a b => ?_) e e'
      · rw [sz]
        rw [List.lookup_cons] at z
        cases hm : m == n with
        | true => rw [hm] at z; cases z; exact Nat.lt_succ_self _
        | false => rw [hm] at z; exact Nat.lt_succ_of_lt (lt m d z)
      · rw [List.lookup_cons] at a b
        have old : ∀ z, cl.lookup z = some h.objs.size → False := fun z q => absurd (lt _ _ q) (Nat.lt_irrefl _)
        cases hx : x == n with
        | true =>
          rw [hx] at a
          cases a
          cases hy : y == n with
          | true => rw [show x = n by simpa using hx, show y = n by simpa using hy]
          | false => rw [hy] at b; exact (old y b).elim
        | false =>
          rw [hx] at a
          cases hy : y == n with
          | true => rw [hy] at b; cases b; exact (old x a).elim
          | false => rw [hy] at b; exact inj x y d a b
    · rename_i hk
      rw [if_neg hk] at e'
      exact cells_apart r h cl x y c lt inj e e'
theorem jc : ∀ (names : List (Str × NameKind)) (n : Nat) (cl : List (Str × Addr)) (x : Str), ((x, NameKind.cell) ∈ names ∨ ∃ c, cl.lookup x = some c) → ∃ c, (cellsFrom n names cl).lookup x = some c
  | [], n, cl, x, h => by
    rcases h with h | h
    · simp at h
    · exact h
  | (y, k) :: r, n, cl, x, h => by
    unfold cellsFrom
    split
    · rename_i hk
      refine jc r _ _ x ?_
      by_cases e : x = y
      · subst e
        exact .inr ⟨n, by rw [List.lookup_cons]; simp⟩
      · rcases h with h | ⟨c, h⟩
        · rcases List.mem_cons.mp h with q | q
          · cases q; exact absurd rfl e
          · exact .inl q
        · exact .inr ⟨c, by rw [List.lookup_cons, show (x == y) = false by simpa using e]; exact h⟩
    · rename_i hk
      refine jc r _ _ x ?_
      rcases h with h | h
      · rcases List.mem_cons.mp h with q | q
        · cases q; exact absurd rfl hk
        · exact .inl q
      · exact .inr h
theorem u0 {X : Cx} {pins : List (Addr × Obj)} {σ : St} {H : Hp} {s : Shared} (I : Inv X pins σ H s) {x : Str} {c : Addr} (h : X.env.cells.lookup x = some c) : c < s.heap.objs.size := by
  obtain ⟨v, o, ho, _⟩ := I.cell x c h
  exact Heap.lt_size ho
noncomputable abbrev me (X : Cx) (N' : List Str) (scope : Scope) (cl : List (Str × Addr)) (C : Addr) (s : Shared) (H : Hp) (fp : List Addr) (own : Str → Bool) : Cx := { lV X N' scope cl C s H fp with fn := own }
noncomputable def dj (N : List Str) (sc scope : Scope) (N' : List Str) (tn : Nat) (idx : List Nat) : Prop :=
  scope.kind = .function ∧ (∀ y ∈ scope.names, (y.2 = .cell → scope.names.lookup y.1 = some .cell) ∧ (y.2 = .local → scope.names.lookup y.1 = some .local) ∧ (y.2 = .free → sc.names.lookup y.1 = some .cell ∨ sc.names.lookup y.1 = some .free)) ∧
    N'.length = tn + idx.length ∧ ∀ p ∈ idx.zip (N'.drop tn), N[p.1]? = some p.2 ∧ scope.names.lookup p.2 = some .free
instance (N : List Str) (sc scope : Scope) (N' : List Str) (tn : Nat) (idx : List Nat) : Decidable (dj N sc scope N' tn idx) := by unfold dj; infer_instance
theorem dj.at {N : List Str} {sc scope : Scope} {N' : List Str} {tn : Nat} {idx : List Nat} (B : dj N sc scope N' tn idx) {σ : St} {i : Nat} {x : Str} {v : V} (h1 : N'[i]? = some x) (h2 : (bD tn idx σ)[i]? = some (some v)) :
    scope.names.lookup x = some .free ∧ ∃ j : Nat, N[j]? = some x ∧ σ[j]? = some (some v) := by
  obtain ⟨_, _, b3, b4⟩ := B
  unfold bD at h2
  by_cases hi : i < tn
  · rw [List.getElem?_append_left (by simpa using hi), List.getElem?_replicate, if_pos hi] at h2
    cases h2
  · rw [List.getElem?_append_right (by simpa using hi), List.length_replicate, List.getElem?_map] at h2
    cases e : idx[i - tn]? with
    | none => rw [e] at h2; cases h2
    | some k =>
      rw [e] at h2
      have h3 : (σ[k]?).join = some v := Option.some.inj h2
      have e2 : (N'.drop tn)[i - tn]? = some x := by
        rw [List.getElem?_drop]
        have : tn + (i - tn) = i := by omega
        rw [this]; exact h1
      have m : (k, x) ∈ idx.zip (N'.drop tn) := by
        refine List.mem_of_getElem? (i := i - tn) ?_
        rw [List.getElem?_zip_eq_some]
        exact ⟨e, e2⟩
      obtain ⟨a, b⟩ := b4 _ m
      refine ⟨b, k, a, ?_⟩
      cases q : σ[k]? with
      | none => rw [q] at h3; cases h3
      | some w => rw [q] at h3; exact congrArg some h3
theorem dj.len {N : List Str} {sc scope : Scope} {N' : List Str} {tn : Nat} {idx : List Nat} (B : dj N sc scope N' tn idx) (σ : St) : (bD tn idx σ).length = N'.length := by
  rw [B.2.2.1]
  unfold bD
  simp
noncomputable def dm (scope : Scope) (x : Str) : Bool := scope.names.lookup x == some .cell
noncomputable abbrev jR (X : Cx) (N' : List Str) (scope : Scope) (P : Cx → Prop) : Prop := ∀ (cl : List (Str × Addr)) (C : Addr) (s : Shared) (H : Hp) (fp : List Addr), P (me X N' scope cl C s H fp (dm scope))
theorem u5 {X : Cx} {pins : List (Addr × Obj)} {σ aA : St} {H H' : Hp} {s : Shared} {N' : List Str} {scope : Scope} {cs : List (Str × Addr)} {C : Addr} {ex : List Addr} {h1 : Heap} {m0 : Str → Option Value} {g' : Array GenState} {tk : Nat}
    (I : Inv X pins σ H s) (iW : scope.kind = .function)
    (fD : ∀ n c, cs.lookup n = some c → (dm scope n = true ∧ C < c ∧ h1.IsCell c none ∧ H' c = none) ∨ (dm scope n = false ∧ X.env.cells.lookup n = some c))
    (L8 : ∀ x y c, cs.lookup x = some c → cs.lookup y = some c → x = y)
    (dD : ∀ x, ((relabel scope X.env).names.lookup x = some .cell ∨ (relabel scope X.env).names.lookup x = some .free) → ∃ c, cs.lookup x = some c)
    (hC : s.heap.objs.size ≤ C) (hf : ∀ b ∈ ex, dB X pins H b) (uI : ∀ b ∈ ex, b < s.heap.objs.size)
    (wK : Un (dz X.stack) ex H H' s.heap h1) (hok : c6 X.prog X.w H' h1) (qP : H' C = none) (m8 : ∀ b o, s.heap.get? b = some o → h1.get? b = some o) (jw : h1.Ns C m0)
    (qQ : ∀ (i : Nat) (x : Str) (v : V), N'[i]? = some x → aA[i]? = some (some v) → dm scope x = false ∧ ((relabel scope X.env).names.lookup x = some .cell ∨ (relabel scope X.env).names.lookup x = some .free) ∧ mR X.env.scope x ∧ (X.env.kindOf x = some .cell ∨ X.env.kindOf x = some .free) ∧ ∃ j : Nat, X.N[j]? = some x ∧ σ[j]? = some (some v))
    (hlen : aA.length = N'.length) (hg : Gn s.gens.size g') : Inv (me X N' scope cs C s H ex (dm scope)) [] aA H' { s with heap := h1, gens := g', toks := tk } := by
  have wL : ∀ b ∈ ex, ∀ x c, X.env.cells.lookup x = some c → c ≠ b := fun b hb => (hf b hb).2.2.2.2.1
  have N6 : ∀ b ∈ ex, ∀ x c, cs.lookup x = some c → c ≠ b := fun b hb x c e z => by
    rcases fD x c e with ⟨_, q, _⟩ | ⟨_, q⟩
    · subst z; exact absurd (Nat.lt_trans (Nat.lt_of_le_of_lt hC q) (uI _ hb)) (Nat.lt_irrefl _)
    · exact wL b hb x c q z
  refine ⟨⟨I.ok.mod, iW, I.ok.glob, I.ok.blt, hC, L8, dD, fun x c hx e => ?_, fun z => I.ok.hd z, I.ok.frames, .inl rfl, fun b hb => ⟨Nat.ne_of_lt (Nat.lt_of_lt_of_le (uI b hb) hC), fun x c e => N6 b hb x c e⟩,
      I.bs, Nat.le_trans I.ok.bsz I.sz, fun b o e hb => ?_, fun b hb z => ?_, I.stack, I.jt⟩, rfl, hg, wK, ⟨m0, jw, fun i x v e1 e2 e3 => ?_⟩, fun x c e => ?_, qP, fun x c e => ?_, fun p hp => absurd (show p ∈ ([] : List (Addr × Obj)) from hp) (by simp), hok, hlen⟩
  · rcases fD x c e with ⟨_, q, _⟩ | ⟨q, _⟩
    · exact Nat.le_of_lt (Nat.lt_of_le_of_lt hC q)
    · have ky : dm scope x = true := hx
      rw [q] at ky; cases ky
  · rcases (hf b hb).2.2.2.1 with z | z
    · exact I.ok.noex b o e z
    · exact absurd (Nat.lt_of_lt_of_le (Heap.lt_size e) (Nat.le_trans I.ok.bsz z)) (Nat.lt_irrefl _)
  · rcases List.mem_cons.mp (I.fi b z) with q | q
    · exact (hf b hb).2.1 q
    · exact (hf b hb).2.2.1 q
  · obtain ⟨k0, k1, vx, k2, j, n1, n2⟩ := qQ i x v e1 e2
    obtain ⟨m, hn, hl⟩ := I.loc
    obtain ⟨u, r, l⟩ := hl j x v n1 n2 vx
    refine ⟨u, r, .inr ⟨k1, ?_⟩⟩
    obtain ⟨c', wM⟩ := dD x k1
    rcases l with ⟨kl, _⟩ | ⟨_, c, ec, z⟩
    · rcases k2 with q | q <;> (rw [kl] at q; cases q)
    · rcases fD x c' wM with ⟨q, _⟩ | ⟨_, q⟩
      · rw [k0] at q; cases q
      · have : c' = c := Option.some.inj (q.symm.trans ec)
        subst this
        exact ⟨c', wM, z.keeps m8⟩
  · rcases fD x c e with ⟨_, _, q, _⟩ | ⟨_, q⟩
    · exact ⟨_, q⟩
    · obtain ⟨v, z⟩ := I.cell x c q
      exact ⟨v, z.keeps m8⟩
  · rcases fD x c e with ⟨_, _, _, q⟩ | ⟨_, q⟩
    · exact q
    · obtain ⟨v, o, ho, hd⟩ := I.cell x c q
      exact wK.free c o ho (I.freeC x c q) fun z => wL c z x c q rfl
section
variable {X : Cx}
theorem u6 {pins : List (Addr × Obj)} {σ : St} {H2 : Hp} {s2 : Shared} {tg elt iter : Expr} {ifs : List Expr} {scope : Scope} {pos : Pos} {N' : List Str} {tn : Nat} {idx : List Nat} {g : TG} {tt : TT} {te : TE} {it : Addr} {fp : List Addr} {c9 : Nat → Heap → Prop} {J : It}
    {cl : List (Str × Addr)} {E : Value → Shared → Prop} {RR : Value → Addr → Result → Shared → Prop} {Q : VK}
    (hc : X.calm = true) (B : dj X.N X.env.scope scope N' tn idx)
    (hg : jR X N' scope fun Y => PG Y tg g) (ht : jR X N' scope fun Y => jx Y ifs tt) (he : jR X N' scope fun Y => PE Y elt te)
    (I : Inv X pins σ H2 s2) (T : Turn X.prog X.w X.K tg J fp it c9) (st : c9 0 s2.heap) (f2 : ∀ b ∈ fp, dB X pins H2 b)
    (dE : ∀ n c, cl.lookup n = some c → X.env.cells.lookup n = some c) (fL : ∀ n, (n, NameKind.free) ∈ scope.names → ∃ c, cl.lookup n = some c)
    (hq : ∀ D, H2 D = none → ∃ W : Nat → Nat → St → Hp → Prop, (∃ m, W 0 m (bD tn idx σ) (upd H2 D (.lst []))) ∧ uJ J g tt te D Q W)
    (Fm : ∀ D C m s' H', Inv X pins σ H' s' → dB X pins H' C → s'.heap.Ns C m → Q (.ref D) H' → RR (.ref D) C (.ok .next) s') :
    wpAny (model X.prog X.w) X.A (newList []) (fun acc gb => wpAny (model X.prog X.w) X.A (newFunctionEnv scope X.env.globals cl [] X.env.qual none .none (some X.env)) (fun qR zx =>
      codeAny (model X.prog X.w) X.A (.compStart (.ListComp elt [⟨tg, iter, ifs, 0⟩] scope pos) 0 (.ref it) acc { qR with scope := relabel scope X.env }) (RR acc qR.locals) zx) E gb) E s2 := by
  obtain ⟨b1, b2, b3, b4⟩ := id B
  refine wpAny_newObj_type (xQ ?_)
  dsimp only
  generalize hG : s2.heap.push { cls := .type "list", dict := none, data := .seq ([] : List Value).toArray } = G
  have hC : G.objs.size = s2.heap.objs.size + 1 := by rw [← hG, Heap.size_push]
  generalize Gw : pushCells (G.push { cls := .type "dict", data := .dict #[] }) scope.names = fM
  have ku : fM.Ns G.objs.size fun _ => none := by rw [← Gw]; exact (Heap.Ns.new G (.type "dict")).keeps (pushCells_keeps _ _)
  have Kp : ∀ b o, G.get? b = some o → fM.get? b = some o := fun b o e => by rw [← Gw]; exact pushCells_keeps _ _ b o (Heap.get?_push_of_some _ e)
  have Bh : s2.heap.objs.size ≠ G.objs.size := by rw [hC]; exact Nat.ne_of_lt (Nat.lt_succ_self _)
  have jJ : s2.heap.objs.size ≤ G.objs.size := by rw [hC]; exact Nat.le_succ _
  have below : ∀ b, b < s2.heap.objs.size → b ≠ G.objs.size := fun b hb => by rw [hC]; exact Nat.ne_of_lt (Nat.lt_succ_of_lt hb)
  have old : ∀ b o, s2.heap.get? b = some o → fM.get? b = some o := fun b o e => Kp b o (hG ▸ Heap.get?_push_of_some _ e)
  have Fn : fM.get? s2.heap.objs.size = some { cls := .type "list", data := .seq ([] : List Value).toArray } := Kp _ _ (hG ▸ Heap.get?_push_size _ rfl)
  generalize j4 : cellsFrom (G.objs.size + 1) scope.names cl = cs
  have Bt : (G.push { cls := .type "dict", data := .dict #[] }).objs.size = G.objs.size + 1 := Heap.size_push ..
  have Gx : ∀ x, (x, NameKind.cell) ∈ scope.names → dm scope x = true := fun x hx => by
    unfold dm
    rw [(b2 _ hx).1 rfl]
    rfl
  have C5 : ∀ x, (∀ k, (x, k) ∈ scope.names → k ≠ NameKind.cell) → dm scope x = false := fun x hx => by
    unfold dm
    cases q : scope.names.lookup x with
    | none => rfl
    | some k => have := hx k (PySem.mem_of_lookup q); simpa using this
  have look : ∀ x c, cs.lookup x = some c → (dm scope x = true ∧ G.objs.size < c ∧ fM.IsCell c none) ∨ (dm scope x = false ∧ cl.lookup x = some c) := fun x c e => by
    rw [← j4, ← Bt] at e
    rcases iL scope.names _ cl x c e with ⟨a, b, d⟩ | ⟨a, b⟩
    · rw [Gw] at d
      rw [Bt] at b
      exact .inl ⟨Gx x a, b, d⟩
    · exact .inr ⟨C5 x a, b⟩
  have inj : ∀ x y c, cs.lookup x = some c → cs.lookup y = some c → x = y := fun x y c e e' => by
    rw [← j4, ← Bt] at e e'
    refine cells_apart scope.names _ cl x y c (fun n d z => ?_) (fun x y d a b => I.ok.inj x y d (dE x d a) (dE y d b)) e e'
    rw [Bt, hC]
    exact Nat.lt_succ_of_lt (Nat.lt_succ_of_lt (u0 I (dE n d z)))
  have wN : H2 s2.heap.objs.size = none := I.hok.fresh (Nat.le_refl _)
  have qP : upd H2 s2.heap.objs.size (.lst []) G.objs.size = none := by rw [aj (Ne.symm Bh)]; exact I.hok.fresh jJ
  have zy : c6 X.prog X.w (upd H2 s2.heap.objs.size (.lst [])) fM := I.hok.laid old (Nat.le_refl _) ⟨Nat.zero_le _, [], 0, .nil, Fn⟩
  have j5 : ∀ b ∈ fp, b < s2.heap.objs.size := fun b hb => let ⟨o, e, _⟩ := T.obj _ _ st b hb; Heap.lt_size e
  obtain ⟨W, ⟨m0, w0⟩, turn⟩ := hq s2.heap.objs.size wN
  have I1 : Inv (me X N' scope cs G.objs.size s2 H2 fp (dm scope)) [] (bD tn idx σ) (upd H2 s2.heap.objs.size (.lst [])) { s2 with heap := fM, toks := s2.toks } := by
    refine u5 (g' := s2.gens) (m0 := fun _ => none) I b1 (fun n c e => ?_) inj (fun x hx => ?_) jJ f2 j5 (Un.laid old (Nat.le_refl _) wN) zy qP old ku (fun i x v e1 e2 => ?_) (B.len σ) I.bare.self
    · rcases look n c e with ⟨o, a, b⟩ | ⟨o, a⟩
      · refine .inl ⟨o, a, b, ?_⟩
        have : c ≠ s2.heap.objs.size := fun z => by rw [z, hC] at a; exact absurd (Nat.lt_trans a (Nat.lt_succ_self _)) (fun h => by omega)
        rw [aj this]
        exact I.hok.fresh (Nat.le_of_lt (Nat.lt_of_le_of_lt jJ a))
      · exact .inr ⟨o, dE n c a⟩
    · rw [eF] at hx
      rw [← j4]
      cases q : scope.names.lookup x with
      | none => rw [q] at hx; rcases hx with z | z <;> cases z
      | some k0 =>
        have hm := PySem.mem_of_lookup q
        rw [q] at hx
        by_cases hk : k0 = .free
        · subst hk; exact jc _ _ _ _ (.inr (fL x hm))
        · have nk : (k0 == NameKind.free) = false := by simpa using hk
          simp only [Option.map_some, nk, Bool.false_and, Bool.false_eq_true, if_false] at hx
          rcases hx with z | z
          · have e0 : k0 = .cell := Option.some.inj z
            subst e0
            exact jc _ _ _ _ (.inl hm)
          · exact absurd (Option.some.inj z) hk
    · obtain ⟨fr, j, e4, e5⟩ := B.at e1 e2
      have kx := (b2 _ (PySem.mem_of_lookup fr)).2.2 rfl
      refine ⟨by unfold dm; rw [fr]; rfl, ?_, .inr kx, kx, j, e4, e5⟩
      rw [eF, fr]
      simp only [Option.map_some]
      split
      · exact .inl rfl
      · exact .inr rfl
  have stat : ∀ {H' : Hp}, (∀ b ∈ fp, H' b = none) → ∀ b ∈ fp, dB (me X N' scope cs G.objs.size s2 H2 fp (dm scope)) [] H' b := fun hn b hb => by
    refine ⟨hn b hb, below b (j5 b hb), fun z => ?_, .inl hb, (fun x c e => by
      rcases look x c e with ⟨_, a, _⟩ | ⟨_, a⟩
      · exact fun z => absurd (Nat.lt_trans (Nat.lt_of_le_of_lt jJ (z ▸ a)) (j5 b hb)) (Nat.lt_irrefl _)
      · exact (f2 b hb).2.2.2.2.1 x c (dE x c a)), fun p hp => absurd (show p ∈ ([] : List (Addr × Obj)) from hp) (by simp)⟩
    rcases List.mem_cons.mp (I.fi b z) with q | q
    · exact (f2 b hb).2.1 q
    · exact (f2 b hb).2.2.1 q
  have loop : ∀ gb : Shared, gb = { s2 with heap := fM, toks := s2.toks } →
      codeAny (model X.prog X.w) X.A (.compLoop (.ListComp elt [⟨tg, iter, ifs, 0⟩] scope pos) 0 (.ref it) (.ref s2.heap.objs.size) (compEnvC scope cs G.objs.size X.env))
        (RR (.ref s2.heap.objs.size) G.objs.size) gb := by
    rintro gb rfl
    refine codeAny_loop rfl (fun n s' => ∃ i τ H', Inv (me X N' scope cs G.objs.size s2 H2 fp (dm scope)) [] τ H' s' ∧ c9 i s'.heap ∧ (∀ b ∈ fp, H' b = none) ∧ W i n τ H') (fun n s hI => ?_) m0
      ⟨0, _, _, I1, T.keep _ _ _ st fun b _ o e => old b o e, fun b hb => by rw [aj (Nat.ne_of_lt (j5 b hb))]; exact (f2 b hb).1, w0⟩
    show wpAny _ X.A ((compTurn (.ListComp elt [⟨tg, iter, ifs, 0⟩] scope pos) 0 (.ref it) (.ref s2.heap.objs.size) (compEnvC scope cs G.objs.size X.env)).onRaise (fun x => do noteFrame x (compEnvC scope cs G.objs.size X.env); theTreesLotGoes x)) _ _ s
    refine wpAny_noted ?_
    rw [compTurn_list]
    obtain ⟨i, τ, H3, I3, kg, oZ, w3⟩ := hI
    rcases turn i n τ H3 w3 with ⟨stop, qn⟩ | ⟨go, step⟩
    · refine wpAny_bind (wpAny_standAt (wpAny_bind (wpAny_mono (T.done (me X N' scope cs G.objs.size s2 H2 fp (dm scope)) rfl rfl rfl hc i [] s τ H3 (fun _ _ => False) I3 (stat oZ) kg stop) (fun r s4 ⟨hr, I4⟩ => ?_) fun _ _ z => z.elim)))
      subst hr
      refine wpAny_pure ?_
      have J2 : Inv X pins σ H3 s4 := I.lx I4.os I4.base I4.hok I4.bare fun b hb => ⟨(f2 b hb).2.2.2.1, (f2 b hb).2.1, (f2 b hb).2.2.2.2.1, (f2 b hb).2.2.2.2.2⟩
      obtain ⟨mm, hm, _⟩ := I4.loc
      exact Fm _ _ mm s4 H3 J2 (I.jH jJ I4.free) hm qn
    · refine wpAny_bind (wpAny_standAt (wpAny_bind (wpAny_mono (T.item (me X N' scope cs G.objs.size s2 H2 fp (dm scope)) rfl rfl rfl hc i [] s τ H3 (fun _ _ => False) I3 (stat oZ) kg go) (fun r s4 ⟨u, hr, h4⟩ => ?_) fun _ _ z => z.elim)))
      subst hr
      refine wpAny_bind (wpAny_mono h4 (fun _ s5 ⟨x, H5, I5, r5, y5, ip, qG⟩ => ?_) fun _ _ z => z.elim)
      have qH := I5.pinned (stat qG) (T.obj _ _ ip)
      have again : ∀ {j6 : St} {H7 : Hp} {s7 : Shared}, Inv (me X N' scope cs G.objs.size s2 H2 fp (dm scope)) ([] ++ il fp s5.heap) j6 H7 s7 → (∃ m', m' < n ∧ W (i + 1) m' j6 H7) →
          ∃ m, m < n ∧ ∃ i τ H', Inv (me X N' scope cs G.objs.size s2 H2 fp (dm scope)) [] τ H' s7 ∧ c9 i s7.heap ∧ (∀ b ∈ fp, H' b = none) ∧ W i m τ H' := fun {j6 H7 s7} I7 n7 => by
        obtain ⟨m', hm, w7⟩ := n7
        refine ⟨m', hm, i + 1, j6, H7, I7.eE, T.keep _ _ _ ip fun b hb o e => (I7.pin (b, o) (List.mem_append_right _ (List.mem_append_right _ (c7 hb e)))).1, fun b hb => ?_, w7⟩
        obtain ⟨o, e, d⟩ := T.obj _ _ ip b hb
        exact (I7.pin (b, o) (List.mem_append_right _ (List.mem_append_right _ (c7 hb e)))).2.1
      refine wpAny_bind (wpAny_mono (hg cs G.objs.size s2 H2 fp _ s5 τ H5 x u _ qH r5 (step x H5 y5)) (fun _ s6 ⟨jy, H6, I6, q6⟩ => ?_) fun _ _ z => z.elim)
      refine wpAny_bind (wpAny_mono (ht cs G.objs.size s2 H2 fp _ s6 jy H6 _ I6 q6) (fun ok s7 ⟨H7, I7, q7⟩ => ?_) fun _ _ z => z.elim)
      cases ok with
      | false => exact wpAny_pure ⟨rfl, again I7 q7⟩
      | true =>
        refine wpAny_bind (wpAny_bind (wpAny_mono (he cs G.objs.size s2 H2 fp _ s7 jy H7 _ I7 q7) (fun yv s8 ⟨y, H8, I8, r8, q8⟩ => ?_) fun _ _ z => z.elim))
        obtain ⟨ys, m', hD, bY, nh, w8⟩ := q8
        refine wpAny_bind (wpAny_mono (kr (X := me X N' scope cs G.objs.size s2 H2 fp (dm scope)) _ s8 jy H8 (.ref s2.heap.objs.size) [y] (.ref s2.heap.objs.size) [yv] (fun v H9 => v = .ao ∧ H9 = upd H8 s2.heap.objs.size (.lst (ys ++ [y]))) I8 rfl (.cons r8 .nil) ⟨_, ys, y, rfl, rfl, hD, bY, rfl, rfl⟩) (fun rv s9 ⟨v9, H9, I9, _, _, e9⟩ => ?_) fun _ _ z => z.elim)
        subst e9
        exact wpAny_pure (wpAny_pure ⟨rfl, again I9 ⟨m', nh, w8⟩⟩)
  exact codeAny_compStart_list (loop _ rfl) (T.self _ 0 _ _ _ (T.keep _ _ _ st fun b _ o e => old b o e) (loop _ rfl))
variable {tg elt iter : Expr} {ifs : List Expr} {scope : Scope} {pos : Pos} {N' : List Str} {tn : Nat} {idx : List Nat} {wi : TI} {g : TG} {tt : TT} {te : TE}
variable {Γ : Gz}
theorem sG {i : Nat} {y : Str} {py iu : Pos} (hN : X.N.Nodup) (jz : X.N[i]? = some y) (hy : X.env.scope.names.lookup y = some .local) (hc : X.calm = true) (B : dj X.N X.env.scope scope N' tn idx) (hi : PI X tg iter wi)
    (hg : jR X N' scope fun Y => PG Y tg g) (ht : jR X N' scope fun Y => jx Y ifs tt) (he : jR X N' scope fun Y => PE Y elt te)
    (qS : swapsWith (.ListComp elt [⟨tg, iter, ifs, 0⟩] scope pos) (some (.Name y py)) iu.line X.env = pure true := by rfl)
    (hs : ∀ x, foldedSetIterable iter X.env x = pure x := by intro _; rfl) : PS X (.Assign [.Name y py] (.ListComp elt [⟨tg, iter, ifs, 0⟩] scope pos) iu) (n5 (m9 tn idx wi g tt te) (mX i)) := by
  refine ⟨?_⟩
  intro pins s σ H D I h
  obtain ⟨cl, gr, dE, fL⟩ := fK (scope := scope) (env := X.env) fun n hn => I.ok.has n ((B.2.1 _ hn).2.2 rfl)
  rw [exec_Assign_Name_used _ _ _ _ qS]
  refine wpAny_bind (wpAny_standAt (wpAny_bind ?_))
  show wpAny _ X.A (do let _ ← comprehension (.ListComp elt [⟨tg, iter, ifs, 0⟩] scope pos) scope X.env _ (newList []) false (eval iter X.env) (some (assign (.Name y py) X.env))) _ _ s
  refine wpAny_bind (wpAny_mono (wpAny_comprehension_free (use := some (assign (.Name y py) X.env)) (Q := fun _ s' => SP X pins D .next s') rfl hs gr B.1 (fun y hy => (B.2.1 y hy).2.1)
    (wpAny_mono (hi pins s σ H _ I h) (fun xv s1 h1 => wpAny_mono h1 (fun tI s2 h2 => ?_) fun _ _ z => z) fun _ _ z => z)) (fun _ s' hq => wpAny_pure (wpAny_pure hq)) fun _ _ z => z)
  obtain ⟨it, fp, c9, J, H2, e, I2, T, mY, f2, q2⟩ := h2
  subst e
  refine u6 (RR := fun acc C => compPost (model X.prog X.w) X.A X.xe (some (assign (.Name y py) X.env)) (fun _ s' => SP X pins D .next s') acc C) hc B hg ht he I2 T mY f2 dE fL q2 fun E C m s' H' J2 fC hm q => ?_
  show wpAny _ X.A (assign (.Name y py) X.env (.ref E)) _ _ s'
  refine wpAny_assign_Name (store_ok2 J2 hN jz (.inl hy) (v := .ref E) rfl (fun s3 J3 ⟨a, tR, ha⟩ => ?_) (.inr hy))
  have fV : C ≠ a := by
    rcases ha with z | z
    · rw [z]; exact fC.2.1
    · exact fun w => fC.2.2.2.2.1 _ _ z w.symm
  exact ⟨m, hm.sameBut tR fV, fun h' pw => ⟨_, H', fC.turn J3 pw, q⟩⟩
end
theorem zX {scope : Scope} {env : Env} {x : Str} (h : scope.names.lookup x = some .cell ∨ scope.names.lookup x = some .free) : (relabel scope env).names.lookup x = some .cell ∨ (relabel scope env).names.lookup x = some .free := by
  rw [eF]
  rcases h with h | h
  · rw [h]; exact .inl rfl
  · rw [h]
    simp only [Option.map_some]
    split
    · exact .inl rfl
    · exact .inr rfl
theorem aL.rel {N : List Str} {sc scope : Scope} {env : Env} {N' : List Str} {tn : Nat} {idx : List Nat} (B : aL N sc scope N' tn idx) : aL N (relabel sc env) scope N' tn idx :=
  ⟨B.1, fun y hy => ⟨(B.2.1 y hy).1, (B.2.1 y hy).2.1, fun z => zX ((B.2.1 y hy).2.2 z)⟩, B.2.2.1, B.2.2.2⟩
end L2
namespace L2
open PySem PySem.Spec PySem.W PyProof.Rows
section
variable {X : Cx} {Γ : Gz} {β : Bz} {K : PySem.W.Frag}
noncomputable def boolsD : List Dv → Option (List Bool)
  | [] => some []
  | .bl b :: ds => (boolsD ds).map (b :: ·)
  | _ :: _ => none
theorem pK : ∀ {ds : List Dv} {bs : List Bool}, boolsD ds = some bs → ds = bs.map Dv.bl
  | [], bs, h => by simp only [boolsD, Option.some.injEq] at h; subst h; rfl
  | d :: ds, bs, h => by
    cases d with
    | bl b =>
      simp only [boolsD, Option.map_eq_some_iff] at h
      obtain ⟨ms, h, rfl⟩ := h
      rw [pK h]
      rfl
    | _ => simp [boolsD] at h
theorem pL {M : Mh} {H : Hp} : ∀ {vs : List V} {bs : List Bool}, aM β M H vs (bs.map Dv.bl) → vs = bs.map V.bl
  | [], [], _ => rfl
  | [], _ :: _, r => absurd r.len (by simp)
  | _ :: _, [], r => absurd r.len (by simp)
  | v :: vs, n :: ns, r => by
    rw [List.map_cons] at r
    rw [List.map_cons, cC r.head, pL r.tail]
theorem Pin.mono {M M' : Mh} {d : Dv} (h : Pin M d) : (∀ a, (M a).isSome = true → (M' a).isSome = true) → Pin M' d := by
  intro k
  induction h with
  | int i => exact .int i
  | bl b => exact .bl b
  | ao => exact .ao
  | str z => exact .str z
  | tup h ih => exact .tup ih
  | lst h ih => exact .lst ih
  | dk h ih => exact .dk ih
  | dt h ih => exact .dt ih
  | bS h ih => exact .bS ih
  | set ns => exact .set ns
  | ptr h => exact .ptr (k _ h)
  | exc C => exact .exc C
  | bt ns => exact .bt ns
  | raw v => exact .raw v
noncomputable def cT (M : Mh) (a : Addr) : Mh := fun b => if b = a then none else M b
theorem dW {M : Mh} {a : Addr} : cT M a a = none := by unfold cT; rw [if_pos rfl]
theorem cD {M : Mh} {a b : Addr} (h : b ≠ a) : cT M a b = M b := by unfold cT; rw [if_neg h]
structure Gy (M1 M : Mh) (ρ : av) : Prop where
  env : ∀ (i : Nat) (d : Dv), ρ[i]? = some (some d) → Pin M d
  obj : ∀ b o, M b = some o → M1 b = some o ∨ ∀ d ∈ o.items, Pin M d
theorem Zr.freeze {M : Mh} {ρ : av} {σ : St} {H : Hp} {i : Nat} {a : Addr} {ds : List Dv} (z : Zr Γ β M ρ σ H) (hi : ρ[i]? = some (some (.ptr a))) (ha : M a = some (.lst ds)) (h0 : Γ.M0 a = none) (fr : Gy Γ.M0 (cT M a) (ρ.set i (some (.lst ds)))) :
    Zr Γ β (cT M a) (ρ.set i (some (.lst ds))) σ H ∧ Ev β M H (cT M a) H := by
  have rz : ∀ {v : V} {d : Dv}, Rz β M H v d → Pin (cT M a) d → Rz β (cT M a) H v d := fun r p => r.lC (M0 := cT M a) (fun b hb => by
    by_cases e : b = a
    · rw [e, dW] at hb; cases hb
    · rw [cD e] at hb; exact hb) p
  have ub : i < ρ.length := (List.getElem?_eq_some_iff.mp hi).1
  have N7 : ∀ d ∈ ds, Pin (cT M a) d := fun d hd => by
    have := fr.env i (.lst ds) (by rw [List.getElem?_set_self ub])
    cases this with | lst h => exact h d hd
  have obj : ∀ b es, cT M a b = some es → ∀ d ∈ es.items, Pin (cT M a) d := fun b es e d hd => by
    rcases fr.obj b es e with q | q
    · refine (z.wf b es q d hd).mono fun c hc => ?_
      have nc : c ≠ a := fun w => by rw [w, h0] at hc; cases hc
      rw [cD nc]
      exact z.ent.dom c hc
    · exact q d hd
  have mz : Mz β (cT M a) H := by
    refine ⟨fun b o e => ?_, z.mz.tabs, z.mz.hids, fun b o e => ?_, z.mz.lams⟩
    · have nb : b ≠ a := fun q => by rw [q, dW] at e; cases e
      have e' : M b = some o := by rw [cD nb] at e; exact e
      have q := z.mz.obj b o e'
      cases o with
      | lst es => obtain ⟨vs, hv, rs⟩ := q; exact ⟨vs, hv, rs.len, fun j v d x y => rz (rs.at' j v d x y) (obj b _ e d (List.mem_of_getElem? y))⟩
      | dk ks es => obtain ⟨vs, hv, hk, rs⟩ := q; exact ⟨vs, hv, hk, rs.len, fun j v d x y => rz (rs.at' j v d x y) (obj b _ e d (List.mem_of_getElem? y))⟩
      | dt ks es => obtain ⟨vs, hv, hk, rs⟩ := q; exact ⟨vs, hv, hk, rs.len, fun j v d x y => rz (rs.at' j v d x y) (obj b _ e d (List.mem_of_getElem? y))⟩
      | cO => exact q
    · have nb : b ≠ a := fun q => by rw [q, dW] at e; cases e
      rw [cD nb] at e
      exact z.mz.apart b o e
  refine ⟨⟨z.eP, z.ew, z.eK, z.et, z.sub, z.wf, ⟨z.ent.keep, fun b hb => ?_, fun b o m h => ?_⟩, mz, by simp [z.len], fun j d e => ?_⟩, ⟨fun b o _ h => .inl h, fun b o m h => ?_, mz⟩⟩
  · have nb : b ≠ a := fun q => by rw [q, h0] at hb; cases hb
    rw [cD nb]; exact z.ent.dom b hb
  · by_cases e : b = a
    · rw [e, dW]
    · rw [cD e]; exact z.ent.new b o m h
  · have p := fr.env j d e
    rw [List.getElem?_set] at e
    split at e
    · rename_i q
      subst q
      first
        | cases e
        | (rw [if_pos ub] at e; cases e)
      obtain ⟨v, hv, r⟩ := z.at' i _ hi
      obtain ⟨rfl, _⟩ := cH r
      obtain ⟨vs, hl, rs⟩ := z.mz.obj a _ ha
      refine ⟨_, hv, .lst ⟨dW, z.mz.apart a _ ha⟩ hl rs.len fun k v d x y => rz (rs.at' k v d x y) (N7 d (List.mem_of_getElem? y))⟩
    · obtain ⟨v, hv, r⟩ := z.at' j d e
      exact ⟨v, hv, rz r p⟩
  · by_cases e : b = a
    · rw [e, dW]
    · rw [cD e]; exact m
noncomputable def L9 (i : Nat) (M0 : Mh) (p : bO) : bO := fun D ρ M => p D ρ M ∨ ∃ a ds, ρ[i]? = some (some (.ptr a)) ∧ M a = some (.lst ds) ∧ M0 a = none ∧ Gy M0 (cT M a) (ρ.set i (some (.lst ds))) ∧ p D (ρ.set i (some (.lst ds))) (cT M a)
theorem GA (i : Nat) {M1 : Mh} {st : Stmt} {p : bO} (hM : Γ.M0 = M1) (h : QS Γ X st p) : QS Γ X st (L9 i M1 p) := h.imp fun D σ H ⟨β, ρ, M, D', zr, h, r⟩ => by
  rcases h with h | ⟨a, ds, hi, ha, h0, fr, h⟩
  · exact ⟨β, ρ, M, D', zr, h, r⟩
  · obtain ⟨z2, e2⟩ := zr.freeze hi ha (by rw [hM]; exact h0) (by rw [hM]; exact fr)
    exact ⟨β, _, _, D', z2, h, r.step e2⟩
end
end L2
namespace L2
open PySem PySem.Spec PyProof.Rows
section
variable {κ : Type} [DecidableEq κ] {α : Type}
noncomputable def look : List κ → List α → κ → Option α
  | k :: ks, d :: ds, x => if k = x then some d else look ks ds x
  | _, _, _ => none
end
noncomputable def fx (X : Cx) : Str := X.env.qual ++ "<lambda>"
structure GB (X : Cx) (params : Arguments) (body : Expr) (scope : Scope) (o : Obj) (c : Addr) (oc : Obj) (aO : List (Str × Addr)) : Prop where
  cells : ∀ n a, aO.lookup n = some a → X.env.cells.lookup n = some a
  has : ∀ n, (n, NameKind.free) ∈ scope.names → ∃ a, aO.lookup n = some a
  obj : ∃ fX, o = PySem.W.kla_obj "<lambda>" (fx X) params body scope aO ((X.mg "__name__").getD .none) c fX
  code : ∃ vs t, oc.data = .fields vs ∧ vs[1]? = some (Value.str (fx X) t)
structure GC (X : Cx) (P : Addr) (H H2 : Hp) (f : Addr) (o : Obj) (c : Addr) (oc : Obj) : Prop where
  new : H f = none
  at' : ∃ u, H2 f = some (.cM o u)
  cd : ∃ u, H2 c = some (.cM oc u)
  lm : Lm H2 (P, fx X)
  keep : ∀ b u, H b = some u → b ≠ P → H2 b = some u
  tab : ∃ ps, H P = some (.lam ps)
noncomputable def Ma (X : Cx) (P : Addr) (params : Arguments) (body : Expr) (scope : Scope) : TE := fun _ H Q => Lm H (P, fx X) ∧ ∀ f o c oc aO H2, GB X params body scope o c oc aO → GC X P H H2 f o c oc → Q (.ref f) H2
noncomputable def iM (a : Addr) (o : Obj) : HO := .cM o (.ext fun h => h.get? a = some o)
theorem rN {P : Program} {w : World} {H : Hp} {h : Heap} {a : Addr} {o : Obj} (e : h.get? a = some o) : bA P w H h a (iM a o) := ⟨e, e, ⟨o, e⟩, fun _ _ x k => k o x⟩
theorem xR {a b c cv : Value} {pos : Pos} (l : List Value) (h : TriplesOk l) (e : codeAmong pos (l ++ [a, b, c]) = some cv) : codeAmong pos l = some cv ∨ cv = c := by
  induction l using TriplesOk.induct with
  | case1 =>
    right
    simp only [List.nil_append] at e
    unfold codeAmong at e
    split at e
    · rename_i heq
      cases heq
      split at e
      · exact (Option.some.inj e).symm
      · simp [codeAmong] at e
    · cases e
  | case2 x tx y ty z rest ih =>
    simp only [List.cons_append, codeAmong] at e ⊢
    split at e
    · rename_i q
      rw [if_pos q]; exact .inl e
    · rename_i q
      rw [if_neg q]; exact ih h e
  | case3 l n1 n2 =>
    exfalso
    unfold TriplesOk at h
    split at h
    · exact n1 rfl
    · exact n2 _ _ _ _ _ _ rfl
    · exact h
section
variable {X : Cx} {params : Arguments} {body : Expr} {scope : Scope} {pos : Pos} {P cX : Addr}
theorem u9 {pins : List (Addr × Obj)} {s : Shared} {σ : St} {H : Hp} {h' : Heap} {o : Obj} (I : Inv X pins σ H s) (hk : ∀ b u, s.heap.get? b = some u → h'.get? b = some u) (bY : s.heap.objs.size ≤ h'.objs.size) (hc : o.isFreed = false) (tk : Nat) :
    Inv X pins σ (upd H h'.objs.size (iM h'.objs.size o)) { s with heap := h'.push o, toks := tk } :=
  I.laid (a := h'.objs.size) (o := iM h'.objs.size o) (t' := tk) (fun b u e => Heap.get?_push_of_some _ (hk b u e)) bY (rN (Heap.get?_push_size _ hc))
theorem va {pins : List (Addr × Obj)} {s : Shared} {σ : St} {H : Hp} {h' : Heap} {o oc : Obj} {c : Addr} {ps fN : Array Value} (I : Inv X pins σ H s) (hP : H P = some (.lam ps)) (hx : Heap.ExtBut P s.heap h') (rO : s.heap.objs.size ≤ c) (dy : c < h'.objs.size) (oW : h'.get? c = some oc)
    (Bu : h'.get? P = some { cls := .none, data := .fields fN }) (hc : o.isFreed = false) (tk : Nat) :
    Inv X pins σ (upd (upd (upd H P (.lam fN)) c (iM c oc)) h'.objs.size (iM h'.objs.size o)) { s with heap := h'.push o, toks := tk } := by
  have GD : P < s.heap.objs.size := (I.hok P _ hP).lt
  have bY : s.heap.objs.size ≤ h'.objs.size := Nat.le_of_lt (Nat.lt_of_le_of_lt rO dy)
  have old : ∀ b, b < s.heap.objs.size → b ≠ P → upd (upd (upd H P (.lam fN)) c (iM c oc)) h'.objs.size (iM h'.objs.size o) b = H b := fun b hb n => by
    rw [aj (Nat.ne_of_lt (Nat.lt_of_lt_of_le hb bY)), aj (Nat.ne_of_lt (Nat.lt_of_lt_of_le hb rO)), aj n]
  have PF : upd (upd (upd H P (.lam fN)) c (iM c oc)) h'.objs.size (iM h'.objs.size o) P = some (.lam fN) := by
    rw [aj (Nat.ne_of_lt (Nat.lt_of_lt_of_le GD bY)), aj (Nat.ne_of_lt (Nat.lt_of_lt_of_le GD rO)), aG]
  have k : ∀ b u, b ≠ P → s.heap.get? b = some u → (h'.push o).get? b = some u := fun b u n e => Heap.get?_push_of_some _ (hx b u n e)
  have xS : ∀ b u, H b = some u → b < s.heap.objs.size := fun b u e => (I.hok b u e).lt
  have nP : ∀ b, H b = none → b ≠ P := fun b e z => by rw [z, hP] at e; cases e
  have nT : ∀ b u, H b = some u → (∀ ps, u ≠ .lam ps) → b ≠ P := fun b u e n z => by rw [z, hP] at e; cases e; exact n _ rfl
  refine I.un ⟨fun b u q n _ _ => k b u (nP b n) q, fun b u q n _ _ => ⟨u.slots, k b u (nP b n) q⟩, fun b u q n _ => by rw [old b (Heap.lt_size q) (nP b n)]; exact n, fun b u q _ => ?_, fun b xs q => by rw [old b (xS b _ q) (nT b _ q (by intro _ z; cases z))]; exact q,
    fun b u xs q => by rw [old b (xS b _ q) (nT b _ q (by intro _ z; cases z))]; exact q, fun b qs q => ⟨#[], by rw [old b (xS b _ q) (nT b _ q (by intro _ z; cases z)), q]; simp⟩⟩ fun b u q => ?_
  · by_cases e : b = P
    · subst e; exact ⟨_, Heap.get?_push_of_some _ Bu⟩
    · exact ⟨u, k b u e q⟩
  · by_cases e1 : b = h'.objs.size
    · subst e1
      rw [aG] at q; cases q
      exact rN (Heap.get?_push_size _ hc)
    · rw [aj e1] at q
      by_cases e2 : b = c
      · subst e2
        rw [aG] at q; cases q
        exact rN (Heap.get?_push_of_some _ oW)
      · rw [aj e2] at q
        by_cases e3 : b = P
        · subst e3
          rw [aG] at q; cases q
          exact Heap.get?_push_of_some _ Bu
        · rw [aj e3] at q
          refine (I.hok b u q).fY (fun a v hc q => k a v ?_ q) (fun a z => ?_) fun a xs z => ?_
          · rcases hc with z | z
            · rw [z]; exact e3
            · exact nT a _ z (by intro _ w; cases w)
          · rw [old a (xS a _ z) (nT a _ z (by intro _ w; cases w))]; exact z
          · rw [old a (xS a _ z) (nT a _ z (by intro _ w; cases w))]; exact z
theorem GF (bJ : X.env.code = .ref cX) (hd : PySem.W.CodeHd X.base cX P) (du : ∃ bm ob, BMod X.base mainGlobals X.mg bm ob) (qz : defaultsOf params X.env = ([], []))
    (lu : ∀ n, (n, NameKind.free) ∈ scope.names → X.env.kindOf n = some .cell ∨ X.env.kindOf n = some .free) : PE X (.Lambda params body scope pos) (Ma X P params body scope) := by
  refine ⟨?_⟩
  intro pins s σ H Q I ⟨⟨ps, hP, qV, j4⟩, q⟩
  obtain ⟨aO, gr, dE, fL⟩ := fK (scope := scope) (env := X.env) fun n hn => I.ok.has n (lu n hn)
  have qT : s.heap.get? P = some (PySem.W.tabObj ps) := I.hok P _ hP
  obtain ⟨bm, ob, bmod⟩ := du
  have fE := bmod.keeps I.bk
  have N8 : mainGlobals ≠ P := fun z => by
    obtain ⟨o, es, ep, e, hd, _⟩ := fE.ns
    rw [z, qT] at e; cases e; cases hd
  have N9 : bm ≠ P := fun z => by
    have e := fE.obj
    have e2 := fE.data
    rw [z, qT] at e; cases e; cases e2
  have Oa : bm ≠ mainGlobals := fun z => by
    obtain ⟨o, es, ep, e, hd, _⟩ := fE.ns
    have e1 := fE.obj
    have e2 := fE.data
    rw [z, e] at e1; cases e1; rw [hd] at e2; cases e2
  have hb : s.heap.BuiltinsAt X.mg P := ⟨bm, ob, fE.name, fE.ne, Oa, N9, fE.obj, fE.cls, fE.dict, fE.data⟩
  refine PySem.W.kla_eval qz ?_
  cases hq : codeAmong pos ps.toList with
  | some cv =>
    obtain ⟨c, oc, uc, vs, t, rfl, ec, d1, d2⟩ := j4 pos cv hq
    refine PySem.W.kla_makeFunctionHit (mg := X.mg) gr I.ok.glob (I.mod.glob.keeps I.bk) bJ (hd.keeps I.bk) qT qV hq hb fun fX h' tk hk bY => ?_
    have hf : H h'.objs.size = none := I.hok.fresh bY
    have pre : ∀ b u, H b = some u → upd H h'.objs.size (iM h'.objs.size (PySem.W.kla_obj "<lambda>" (fx X) params body scope aO ((X.mg "__name__").getD .none) c fX)) b = some u := fun b u e => by rw [aj (aZ e hf)]; exact e
    refine ⟨.ref h'.objs.size, _, u9 I hk bY (o := PySem.W.kla_obj "<lambda>" (fx X) params body scope aO ((X.mg "__name__").getD .none) c fX) rfl tk, rfl, q _ _ c oc aO _ ⟨dE, fL, ⟨fX, rfl⟩, ⟨vs, t, d1, d2⟩⟩ ⟨hf, ⟨_, aG⟩, ⟨uc, pre _ _ ec⟩, Lm.keep ⟨ps, hP, qV, j4⟩ (fun _ e => pre _ _ e) fun _ _ _ e => pre _ _ e, fun b u e _ => pre b u e, ⟨ps, hP⟩⟩⟩
  | none =>
    refine PySem.W.kla_makeFunction (mg := X.mg) gr I.ok.glob (I.mod.glob.keeps I.bk) bJ (hd.keeps I.bk) qT qV hq N8 hb fun c fX h' tk hx rO dy Mb Bu => ?_
    obtain ⟨c2, oc, vs, t, e2, oW, d1, d2⟩ := Mb
    cases e2
    have I2 := va (o := PySem.W.kla_obj "<lambda>" (fx X) params body scope aO ((X.mg "__name__").getD .none) c fX) I hP hx rO dy oW Bu rfl tk
    have bY : s.heap.objs.size ≤ h'.objs.size := Nat.le_of_lt (Nat.lt_of_le_of_lt rO dy)
    have hf : H h'.objs.size = none := I.hok.fresh bY
    have Kq : H c = none := I.hok.fresh rO
    have Ob : c ≠ h'.objs.size := Nat.ne_of_lt dy
    have Oc : P ≠ c := fun z => by rw [z, Kq] at hP; cases hP
    have Od : P ≠ h'.objs.size := fun z => by rw [z, hf] at hP; cases hP
    have Oe : TriplesOk (ps ++ #[rawInt pos.line, rawInt pos.col, Value.ref c]).toList := by
      rw [Array.toList_append]
      exact TriplesOk_snoc _ _ _ _ qV
    have pre : ∀ b u, H b = some u → b ≠ P → upd (upd (upd H P (.lam (ps ++ #[rawInt pos.line, rawInt pos.col, Value.ref c]))) c (iM c oc)) h'.objs.size (iM h'.objs.size (PySem.W.kla_obj "<lambda>" (fx X) params body scope aO ((X.mg "__name__").getD .none) c fX)) b = some u := fun b u e n => by
      rw [aj (aZ e hf), aj (aZ e Kq), aj n]; exact e
    have Kr : upd (upd (upd H P (.lam (ps ++ #[rawInt pos.line, rawInt pos.col, Value.ref c]))) c (iM c oc)) h'.objs.size (iM h'.objs.size (PySem.W.kla_obj "<lambda>" (fx X) params body scope aO ((X.mg "__name__").getD .none) c fX)) c = some (iM c oc) := by rw [aj Ob, aG]
    refine ⟨.ref h'.objs.size, _, I2, rfl, q _ _ c oc aO _ ⟨dE, fL, ⟨fX, rfl⟩, ⟨vs, t, d1, d2⟩⟩ ⟨hf, ⟨_, aG⟩, ⟨_, Kr⟩, ⟨_, by rw [aj Od, aj Oc, aG], Oe, fun p cv e => ?_⟩, pre, ⟨ps, hP⟩⟩⟩
    rw [Array.toList_append] at e
    rcases xR _ qV e with e | e
    · obtain ⟨c3, Of, u3, Og, t3, a1, a2, a3⟩ := j4 p cv e
      exact ⟨c3, Of, u3, Og, t3, a1, pre _ _ a2 (fun z => by rw [z, hP] at a2; cases a2), a3⟩
    · exact ⟨c, oc, _, vs, t, e, Kr, d1, d2⟩
end
structure vb (X : Cx) (σ : St) (b' : Heap) : Prop where
  ext : ∀ b o, X.base.get? b = some o → b'.get? b = some o
  cell : ∀ (i : Nat) (x : Str) (v : V), X.N[i]? = some x → σ[i]? = some (some v) → X.env.scope.names.lookup x = some .cell → ∃ c u, X.env.cells.lookup x = some c ∧ RelV v u ∧ b'.IsCell c (some u)
  cells : ∀ x c, X.env.cells.lookup x = some c → ∃ v, b'.IsCell c v
  inj : ∀ x y c, X.env.cells.lookup x = some c → X.env.cells.lookup y = some c → x = y
theorem Mod.ext {K : PySem.W.Frag} {mg : Str → Option Value} {b b' : Heap} (m : Mod K mg b) (k : ∀ a o, b.get? a = some o → b'.get? a = some o) : Mod K mg b' :=
  ⟨m.kin.keeps k, m.glob.keeps k, let ⟨mb, h1, h2⟩ := m.blt; ⟨mb, h1.keeps k, h2⟩, m.nolimit.keeps k⟩
section
variable {X : Cx} {pins : List (Addr × Obj)} {σ : St} {H : Hp} {s : Shared}
theorem Inv.IW (I : Inv X pins σ H s) (mU : ∀ x, X.fn x = true) : ∃ b', vb X σ b' ∧ ki X.prog X.w X.K X.mg b' X.A X.stack s H := by
  let Bv : Addr → Prop := fun a => ∃ x, X.env.cells.lookup x = some a
  let l : List Addr := (List.range s.heap.objs.size).filter fun a => @decide ((X.base.get? a = none) ∧ ¬ Bv a) (Classical.propDecidable _)
  have ml : ∀ a, a ∈ l ↔ a < s.heap.objs.size ∧ X.base.get? a = none ∧ ¬ Bv a := fun a => by
    show a ∈ (List.range s.heap.objs.size).filter _ ↔ _
    rw [List.mem_filter, List.mem_range]
    simp only [decide_eq_true_eq]
  have ext : ∀ b o, X.base.get? b = some o → (PySem.W.hideAll s.heap l).get? b = some o := fun b o e => PySem.W.hideAll_get l (I.bk b o e) fun z => by
    have := ((ml b).mp z).2.1
    rw [e] at this; cases this
  have cls : ∀ x c o, X.env.cells.lookup x = some c → s.heap.get? c = some o → (PySem.W.hideAll s.heap l).get? c = some o := fun x c o e ho => PySem.W.hideAll_get l ho fun z => ((ml c).mp z).2.2 ⟨x, e⟩
  have only : ∀ b o, (PySem.W.hideAll s.heap l).get? b = some o → s.heap.get? b = some o ∧ ((∃ o', X.base.get? b = some o') ∨ Bv b) := fun b o e => by
    have e' := PySem.W.of_hideAll l e
    refine ⟨e', ?_⟩
    by_cases hc : Bv b
    · exact .inr hc
    · cases q : X.base.get? b with
      | some o' => exact .inl ⟨o', rfl⟩
      | none =>
        have : (PySem.W.hideAll s.heap l).get? b = none := PySem.W.hideAll_none l ((ml b).mpr ⟨Heap.lt_size e', q, hc⟩)
        rw [e] at this; cases this
  refine ⟨PySem.W.hideAll s.heap l, ⟨ext, fun i x v h1 h2 h3 => ?_, fun x c e => ?_, I.ok.inj⟩, I.ok.frames, I.ok.mod.ext ext, fun b o e => ?_, Nat.le_of_eq (PySem.W.hideAll_size _ _), ?_, I.jt, I.hok, I.bare.1⟩
  · obtain ⟨m, hn, hl⟩ := I.loc
    obtain ⟨u, r, lk⟩ := hl i x v h1 h2 (.inr (.inl h3))
    rcases lk with ⟨hk, _⟩ | ⟨_, c, ec, o, ho, hd⟩
    · have hk : X.env.scope.names.lookup x = some .local := hk
      rw [h3] at hk; cases hk
    · exact ⟨c, u, ec, r, o, cls x c o ec ho, hd⟩
  · obtain ⟨v, o, ho, hd⟩ := I.cell x c e
    exact ⟨v, o, cls x c o e ho, hd⟩
  · obtain ⟨e', q⟩ := only b o e
    refine ⟨e', ?_⟩
    rcases q with ⟨o', q⟩ | ⟨x, q⟩
    · exact (I.bs b o' q).2
    · exact I.freeC x b q
  · have fr : ∀ L ∈ dz X.stack, (PySem.W.hideAll s.heap l).get? L = none := fun L hL => by
      cases q : (PySem.W.hideAll s.heap l).get? L with
      | none => rfl
      | some o =>
        exfalso
        obtain ⟨e', q⟩ := only L o q
        have nb := (I.stack.mem hL).1
        rcases q with ⟨o', q⟩ | ⟨x, q⟩
        · rw [nb] at q; cases q
        · rcases List.mem_cons.mp (I.fi L hL) with z | z
          · exact I.mS x L q z
          · have h1 := I.ok.cab x L (mU x) q
            obtain ⟨_, o2, m4, _⟩ := I.ok.funs.mem z
            exact absurd (Heap.lt_size m4) (Nat.not_lt.mpr h1)
    have go : ∀ (st : List Env), (∀ L ∈ dz st, (PySem.W.hideAll s.heap l).get? L = none) → s.heap.FunFrames X.base st → s.heap.FunFrames (PySem.W.hideAll s.heap l) st := by
      intro st
      induction st with
      | nil => intro _ _; trivial
      | cons env r ih =>
        intro hs hl
        obtain ⟨hk, ⟨L, o, hf, hn, ho, hd⟩, hr⟩ := hl
        exact ⟨hk, ⟨L, o, hf, hs L (by unfold dz; rw [List.filterMap_cons, hf]; exact List.mem_cons_self), ho, hd⟩, ih (fun b hb => hs b (by unfold dz; rw [List.filterMap_cons, hf]; exact List.mem_cons_of_mem _ hb)) hr⟩
    exact go X.stack fr I.stack
end
section
variable {X : Cx} {CX : d8} {k : Nat} {f : Addr} {fd : FuncData} {ps : List Str} {gU : List V} {ds : List Value} {E : XK} {x : Str} {p pos : Pos} {e : Expr} {es : List Expr} {t : TA}
noncomputable def GH (X : Cx) (sp : Heap → Sp) (gU : List V) (E : XK) (t : TA) : TE := fun σ H Q => t σ H fun vs H1 => ∀ b', vb X σ b' → sp b' (vs ++ gU) H1 Q E
theorem zY {sp : Heap → Sp} (F : ∀ b', (∀ b o, X.base.get? b = some o → b'.get? b = some o) → FnOk X.prog X.w X.K X.mg b' CX k f fd ps (sp b')) (hr : bB k X.A) (mU : ∀ x, X.fn x = true) (hg : Gl X x) (hm : X.mg x = some (.ref f)) (hk : PySem.W.keepIn X.K (.ref f) = true) (hb : Binds X.K fd ps ds) (hd : Vals gU ds) (hx : Passes CX X E)
    (ha : PA X (e :: es) t) (cN : (x == ("__debug__" : Str)) = false := by decide) (he : starEach (e :: es) X.env = (false, eval e X.env) :: starEach es X.env := by rfl) (dC : (backTo pos (starEach es X.env)).any (·.1) = false := by rfl) :
    PE X (.Call (.Name x p) (e :: es) [] pos) (GH X sp gU E t) := by
  refine ⟨?_⟩
  intro pins s σ H Q I h
  refine wpAny_Call_Name_kw (hZ I hg hm ?_ cN)
  refine PySem.W.callWith_K (h₀ := X.base) I.ok.mod.kin hk (thn (ha pos pins s σ H _ I h) fun us s1 ⟨vs, H1, I1, r, q⟩ => ⟨I1.d7, ?_⟩) he dC
  obtain ⟨b', B, e0⟩ := I1.IW mU
  have r2 : Vals (vs ++ gU) (us ++ ds) := r.append hd
  have hl : (us ++ ds).length = ps.length := by rw [← r2.length]; exact (F b' B.ext).len _ _ _ _ (q b' B)
  refine wpAny_call (codeAny_mono ((F b' B.ext).run X.A X.stack s1 H1 ⟨us, []⟩ (us ++ ds) (vs ++ gU) Q E hr e0 (hb s1 us I1.d7 hl) r2 (q b' B)) fun r s' hq => ?_)
  cases r with
  | error e => exact hx pins σ H1 s1 e s' I1 hq
  | ok fl =>
    cases fl with
    | ret u => exact I1.after hq
    | next => exact False.elim hq
    | brk => exact False.elim hq
    | cont => exact False.elim hq
end
noncomputable def qo (CX : d8) (P : Program) (w : World) (K : PySem.W.Frag) (mg : Str → Option Value) (base : Heap) (N : List Str) (qual : Str) (scope : Scope) (f : Addr) (cd : Value) (aO : List (Str × Addr)) (A : Around) (outer : List Env) (s : Shared) (H : Hp) (E : XK) : Cx where
  prog := P
  w := w
  K := K
  mg := mg
  base := base
  A := A.deeper (PySem.W.envX qual scope s.heap.objs.size f cd aO)
  N := N
  s₀ := s
  H₀ := H
  env := PySem.W.envX qual scope s.heap.objs.size f cd aO
  outer := outer
  stack := PySem.W.envX qual scope s.heap.objs.size f cd aO :: outer
  ex := []
  calm := true
  fn := fun _ => false
  pn := []
  xe := fun e s' => wpAny (model P w) (A.deeper (PySem.W.envX qual scope s.heap.objs.size f cd aO)) (leaving (PySem.W.envX qual scope s.heap.objs.size f cd aO) e) (fun _ b8 => CX outer H s E e b8) (fun e' b8 => CX outer H s E e' b8) s'
structure jS (ps fs : List Str) (sc : Scope) : Prop where
  kind : sc.kind = .function
  co : sc.isCoroutine = false
  gen : sc.isGenerator = false
  nd : (ps ++ fs).Nodup
  par : ∀ x ∈ ps, sc.names.lookup x = some .local
  fre : ∀ x ∈ fs, sc.names.lookup x = some .free
  nocell : ∀ y ∈ sc.names, y.2 ≠ .cell
structure rP (base : Heap) (fs : List Str) (aO : List (Str × Addr)) (vcs : List V) : Prop where
  inj : ∀ x y c, aO.lookup x = some c → aO.lookup y = some c → x = y
  all : ∀ x c, aO.lookup x = some c → ∃ v, base.IsCell c v
  cell : ∀ (j : Nat) (x : Str) (v : V), fs[j]? = some x → vcs[j]? = some v → ∃ c u, aO.lookup x = some c ∧ RelV v u ∧ base.IsCell c (some u)
theorem nI {x : Str} {v : Value} : ∀ {ps : List Str} {us : List Value} {i : Nat}, ps.Nodup → ps[i]? = some x → us[i]? = some v → (ps.zip us).reverse.lookup x = some v
  | [], _, _, _, h, _ => by simp at h
  | _ :: _, [], _, _, _, h => by simp at h
  | p :: ps, u :: us, i, nd, h1, h2 => by
    rw [List.zip_cons_cons, List.reverse_cons]
    have hn := List.nodup_cons.mp nd
    cases i with
    | zero =>
      simp at h1 h2
      subst h1 h2
      rw [List.lookup_append]
      have : (ps.zip us).reverse.lookup p = none := by
        rw [List.lookup_eq_none_iff]
        intro q hq
        have Oh := List.mem_reverse.mp hq
        have := (List.of_mem_zip Oh).1
        have ne : p ≠ q.1 := fun z => hn.1 (by rw [z]; exact this)
        simpa using ne
      rw [this]
      simp [List.lookup]
    | succ i =>
      rw [List.lookup_append, nI hn.2 (by simpa using h1) (by simpa using h2)]
      rfl
section
variable {CX : d8} {P : Program} {w : World} {K : PySem.W.Frag} {mg : Str → Option Value} {base : Heap} {ps fs : List Str} {qual : Str} {scope : Scope} {f c : Addr} {aO : List (Str × Addr)} {A : Around} {outer : List Env} {s : Shared} {H : Hp} {E : XK} {us : List Value} {vs vcs : List V}
theorem C6 {h1 : Heap} {tk : Nat} (S : jS ps fs scope) (C : rP base fs aO vcs) (has : ∀ n, (n, NameKind.free) ∈ scope.names → ∃ a, aO.lookup n = some a) (hd : A.handled = none) (e0 : ki P w K mg base A outer s H) (hl : vs.length = ps.length) (hc : vcs.length = fs.length) (r : Vals vs us)
    (jw : h1.Ns s.heap.objs.size (fun y => (ps.zip us).reverse.lookup y)) (hk : ∀ b o, s.heap.get? b = some o → h1.get? b = some o) :
    Inv (qo CX P w K mg base (ps ++ fs) qual scope f (.ref c) aO A outer s H E) [] (vs.map some ++ vcs.map some) H { s with heap := h1, toks := tk } := by
  have bc : ∀ x a, aO.lookup x = some a → ∃ v o, s.heap.get? a = some o ∧ o.data = .cell v ∧ H a = none := fun x a e => by
    obtain ⟨v, o, ho, hd⟩ := C.all x a e
    obtain ⟨h1, h2⟩ := e0.bs a o ho
    exact ⟨v, o, h1, hd, h2⟩
  refine ⟨⟨e0.mod, S.kind, rfl, rfl, Nat.le_refl _, C.inj, fun y hy => ?_, fun _ _ z => (nomatch z), fun _ => hd, Around.frames_deeper e0.frames, .inr ⟨rfl, rfl⟩, fun b z => absurd (show b ∈ ([] : List Addr) from z) (by simp), e0.bs, e0.bsz, fun b _ _ z => absurd (show b ∈ ([] : List Addr) from z) (by simp), fun b z => absurd (show b ∈ ([] : List Addr) from z) (by simp), e0.funs, e0.frf⟩,
    rfl, ⟨e0.bare, Nat.le_refl _⟩, Un.kept hk, ⟨_, jw, fun i y v h1 h2 h3 => ?_⟩, fun y a e => ?_, e0.hok.fresh (Nat.le_refl _), fun y a e => ?_, fun p hp => absurd (show p ∈ ([] : List (Addr × Obj)) from hp) (by simp), e0.hok.kept hk, ?_⟩
  · have hy : scope.names.lookup y = some .cell ∨ scope.names.lookup y = some .free := hy
    rcases hy with hy | hy
    · exact absurd rfl (S.nocell _ (PySem.mem_of_lookup hy))
    · exact has y (PySem.mem_of_lookup hy)
  · have h1 : (ps ++ fs)[i]? = some y := h1
    by_cases hi : i < ps.length
    · rw [List.getElem?_append_left hi] at h1
      rw [List.getElem?_append_left (by simpa [hl] using hi), List.getElem?_map] at h2
      have ha : vs[i]? = some v := by
        cases e : vs[i]? with
        | none => rw [e] at h2; cases h2
        | some a => rw [e] at h2; cases h2; rfl
      obtain ⟨u, hu, rv⟩ := r.get ha
      have nd : ps.Nodup := S.nd.sublist (List.sublist_append_left _ _)
      exact ⟨u, rv, .inl ⟨S.par y (List.mem_of_getElem? h1), nI nd h1 hu⟩⟩
    · rw [List.getElem?_append_right (by omega)] at h1
      rw [List.getElem?_append_right (by simp only [List.length_map]; omega), List.length_map, hl, List.getElem?_map] at h2
      have ha : vcs[i - ps.length]? = some v := by
        cases e : vcs[i - ps.length]? with
        | none => rw [e] at h2; cases h2
        | some a => rw [e] at h2; cases h2; rfl
      obtain ⟨a, u, e1, rv, o, ho, hd⟩ := C.cell _ y v h1 ha
      exact ⟨u, rv, .inr ⟨.inr (S.fre y (List.mem_of_getElem? h1)), a, e1, o, hk _ _ (e0.bs a o ho).1, hd⟩⟩
  · obtain ⟨v, o, ho, hd, _⟩ := bc y a e
    exact ⟨v, o, hk _ _ ho, hd⟩
  · obtain ⟨v, o, ho, hd, hn⟩ := bc y a e
    exact hn
  · show _ = (ps ++ fs).length
    simp [hl, hc]
structure GI (params : Arguments) (body : Expr) (scope : Scope) (qual : Str) (o : Obj) (c : Addr) (oc : Obj) (aO : List (Str × Addr)) (fd : FuncData) : Prop where
  has : ∀ n, (n, NameKind.free) ∈ scope.names → ∃ a, aO.lookup n = some a
  obj : ∃ name pm fX, fd = PySem.W.kla_fn name qual params body scope aO pm (.ref c) fX ∧ o = { cls := .type "function", data := .func fd }
  code : ∃ vs t, oc.data = .fields vs ∧ vs[1]? = some (Value.str qual t)
theorem GJ {params : Arguments} {body : Expr} {o oc : Obj} {fd : FuncData} {k : Nat} {sp : Sp} (L : GI params body scope qual o c oc aO fd) (S : jS ps fs scope) (C : rP base fs aO vcs) (fD : vcs.length = fs.length) (len : ∀ vs H Q E, sp vs H Q E → vs.length = ps.length)
    (at' : ∀ vs H Q E, sp vs H Q E → (∃ u, H f = some (.cM o u)) ∧ ∃ u, H c = some (.cM oc u))
    (gY : ∀ (A : Around) (outer : List Env) (s : Shared) (H : Hp) (vs : List V) (Q : VK) (E : XK), bB k (A.deeper (PySem.W.envX qual scope s.heap.objs.size f (.ref c) aO)) → sp vs H Q E →
      ∃ t, PE (qo CX P w K mg base (ps ++ fs) qual scope f (.ref c) aO A outer s H E) body t ∧ t (vs.map some ++ vcs.map some) H Q) : FnOk P w K mg base CX (k + 1) f fd ps sp := by
  obtain ⟨has, ⟨name, pm, fX, rfl, rfl⟩, ⟨Oi, ct, d1, d2⟩⟩ := L
  refine ⟨len, fun A outer s H args us vs Q E hr e0 hb r gD => ?_⟩
  have hl := len _ _ _ _ gD
  obtain ⟨⟨u1, ef⟩, ⟨u2, ec⟩⟩ := at' _ _ _ _ gD
  have Oj := (e0.hok f _ ef).1
  have oW := (e0.hok c _ ec).1
  have lim : s.heap.NoLimit := e0.mod.nolimit.keeps fun b o e => (e0.bs b o e).1
  refine PySem.W.kla_callFunE hr.depth Oj rfl S.co S.gen rfl ⟨c, oc, Oi, ct, rfl, oW, d1, d2⟩ (hb _ _ _ _ ?_)
  refine wpAny_newFunctionEnv S.nocell (fun y hy => S.par y.1 (List.of_mem_zip hy).1) (fun h1 jw tR => ⟨lim.fresh _ tR, ?_⟩) S.kind
  have hk : ∀ b o, s.heap.get? b = some o → h1.get? b = some o := fun b o e => tR.extBut b o (Nat.ne_of_lt (Heap.lt_size e)) (Heap.get?_push_of_some _ e)
  obtain ⟨t, ht, hq⟩ := gY A outer s H vs Q E (hr.deeper _) gD
  have I := C6 (CX := CX) (qual := qual) (f := f) (c := c) (E := E) (tk := s.toks + (ps.zip us).length) S C has hr.hd e0 hl fD r jw hk
  show codeAny _ _ (.expr body (PySem.W.envX qual scope s.heap.objs.size f (.ref c) aO)) _ _
  refine PySem.W.kla_codeExpr (wpAny_mono (ht [] _ _ H Q I hq) (fun u s' ⟨v, H', J, rv, q⟩ => ?_) fun e s' hs => hs)
  exact ⟨v, H', J.os, J.bare, J.base, J.hok, rv, q⟩
end
end L2
namespace L2
open PySem PySem.Spec PySem.W PyProof.Rows
structure Ol (K : PySem.W.Frag) (mg : Str → Option Value) (x : Str) (st : Stmt) (ps : List Str) (ds : List Value) (f : Addr) (fd : FuncData) : Prop where
  ex : ∃ (oc : Value) (od : Option Addr) (dV kV doc pm : Value) (an : Option Addr) (bG ct : Value) (fI : Array (Option Value)),
    fd = PySem.W.fnOf x x (cw st) (bC st) (ah st) dV kV doc pm an bG ct ∧ K.lookup f = some ⟨oc, od, .func fd, fI⟩ ∧ PySem.W.codeIn K bG x = true
  kp : PySem.W.keepIn K (.ref f) = true
  bd : Binds K fd ps ds
  bd0 : Binds K fd ps []
  mg : mg x = some (.ref f)
section
variable {P : Program} {w : World} {K : PySem.W.Frag} {mg : Str → Option Value} {base : Heap} {tb : b0} {x : Str} {st : Stmt} {f : Addr} {fd : FuncData} {N ps : List Str} {gU : List Value} {k : Nat} {S : b5}
noncomputable def GK (P : Program) (w : World) (K : PySem.W.Frag) (tb : b0) (f : Addr) (o : Obj) (c : Addr) (oc : Obj) (vcs : List V) (S : List Dv → b5) : Sp := fun vs H Q E => ∃ (β : Bz) (ds bz : List Dv) (M : Mh) (Q' : ZK) (E' : ZX), β.P = P ∧ β.w = w ∧ β.K = K ∧ β.tb = tb ∧ Mz β M H ∧ aM β M H vs ds ∧ Rz β M H (.ref f) (.bS f o c oc vcs bz) ∧ S bz ds M Q' E' ∧
  (∀ d M' v H', Ex β M H M' H' → Rz β M' H' v d → Q' d M' → Q v H') ∧ ∀ C M' H', Ex β M H M' H' → E' C M' → E (.ref C) none H'
theorem kY {β : Bz} {M : Mh} {H : Hp} {v : V} {f c : Addr} {o oc : Obj} {vs : List V} {ds : List Dv} (h : Rz β M H v (.bS f o c oc vs ds)) : v = .ref f ∧ (∃ u, H f = some (.cM o u)) ∧ (∃ u, H c = some (.cM oc u)) ∧ aM β M H vs ds := by
  cases h with
  | bS m e m2 e2 hl h => exact ⟨rfl, ⟨_, e⟩, ⟨_, e2⟩, hl, h⟩
theorem GL {Γ : Gz} {vs vcs : List V} {ds bz : List Dv} (m : Mz Γ.toBz Γ.M0 Γ.H0) (rs : aM Γ.toBz Γ.M0 Γ.H0 vs ds) (rc : aM Γ.toBz Γ.M0 Γ.H0 vcs bz) : Zr Γ Γ.toBz Γ.M0 (ds.map some ++ bz.map some) (vs.map some ++ vcs.map some) Γ.H0 :=
  ⟨rfl, rfl, rfl, rfl, fun _ h => h, m.wf, .refl, m, by simp [rs.len, rc.len], fun i d e => by
    rw [← List.map_append, List.getElem?_map, Option.map_eq_some_iff] at e
    obtain ⟨d2, e, e2⟩ := e
    cases e2
    obtain ⟨v, hv, r⟩ := (rs.append rc).get e
    exact ⟨v, by rw [← List.map_append, List.getElem?_map, hv]; rfl, r⟩⟩
end
section
variable {X : Cx} {Γ : Gz} {β : Bz} {CX : d8} {k : Nat} {f : Addr} {fd : FuncData} {ps : List Str} {E : XK} {E' : ZX} {x : Str} {p pos : Pos} {e : Expr} {es : List Expr} {za : eB} {P : Program} {w : World} {tb : b0} {K : PySem.W.Frag}
noncomputable def zCallL (f : Addr) (o : Obj) (c : Addr) (oc : Obj) (vcs : List V) (S : List Dv → b5) (E' : ZX) (i : Nat) (za : eB) : aQ := fun ρ M Q => match ρ[i]? with
  | some (some (.bS f' o' c' xT vc bz)) => (f' = f ∧ o' = o ∧ c' = c ∧ xT = oc ∧ vc = vcs) ∧ za ρ M fun ds M1 => S bz ds M1 Q E'
  | _ => False
end
theorem Ex.Md {X : Cx} {P : Addr} {β : Bz} {M : Mh} {H H2 : Hp} {f c : Addr} {o oc : Obj} (m : Mz β M H) (hp : ∀ q ∈ β.tb.l, q.1 = P → q.2 = fx X) (n : GC X P H H2 f o c oc) : Ex β M H M H2 := by
  obtain ⟨new, at', cd, lm, keep, ⟨ps, hP⟩⟩ := n
  obtain ⟨ps2, GN, _⟩ := id lm
  have nP : ∀ b u, H b = some u → (∀ ps, u ≠ .lam ps) → b ≠ P := fun b u e q z => by rw [z, hP] at e; cases e; exact q _ rfl
  have ey : Ey M H M H2 := ⟨fun b u _ e => by
    by_cases hb : b = P
    · subst hb
      rw [hP] at e; cases e
      exact .inr ⟨_, .inr (.inl ⟨ps, ps2, rfl, rfl⟩), GN⟩
    · exact .inl (keep b u e hb), fun _ h => h, fun _ _ h _ => h⟩
  refine ⟨ey, fun a u e => ?_, fun q hq => ?_, fun a ha => ?_, m.apart, fun q hq => ?_⟩
  · have z := m.obj a u e
    have k : ∀ u, H a = some u → L2.rq u = true → H2 a = some u := fun u h hu => keep a u h (nP a u h (by intro ps z; subst z; cases hu))
    cases u with
    | lst ds => obtain ⟨vs, z, l, r⟩ := z; exact ⟨vs, k _ z rfl, l, fun i v d a b => (r i v d a b).ey ey⟩
    | dk ks ds => obtain ⟨vs, z, hk, l, r⟩ := z; exact ⟨vs, k _ z rfl, hk, l, fun i v d a b => (r i v d a b).ey ey⟩
    | dt ks ds => obtain ⟨vs, z, hk, l, r⟩ := z; exact ⟨vs, k _ z rfl, hk, l, fun i v d a b => (r i v d a b).ey ey⟩
    | cO => obtain ⟨c, n, z, r⟩ := z; exact ⟨c, n, k _ z rfl, r⟩
  · obtain ⟨ps, e, t⟩ := m.tabs q hq
    exact ⟨ps, keep _ _ e (nP _ _ e (by intro ps z; cases z)), t⟩
  · obtain ⟨u, e, n⟩ := m.hids a ha
    exact ⟨u, keep _ _ e (nP _ _ e (by intro ps z; subst z; cases n)), n⟩
  · by_cases hb : q.1 = P
    · have : q = (P, fx X) := Prod.ext hb (hp q hq hb)
      rw [this]; exact lm
    · exact (m.lams q hq).keep (fun _ e => keep _ _ e hb) fun c' _ _ e => keep _ _ e (nP _ _ e (by intro ps z; cases z))
section
variable {X : Cx} {Γ : Gz} {β : Bz} {CX : d8} {k : Nat} {f : Addr} {fd : FuncData} {ps : List Str} {E : XK} {E' : ZX} {x : Str} {p pos vd : Pos} {e1 e2 : Expr} {rest : List Expr} {z1 z2 : aQ} {zr : eB} {P : Program} {w : World} {tb : b0} {K : PySem.W.Frag}
noncomputable def gy : List Nat → av → Option (List Dv)
  | [], _ => some []
  | i :: is, ρ => match ρ[i]?, gy is ρ with | some (some d), some ds => some (d :: ds) | _, _ => none
theorem ud {Γ : Gz} {M : Mh} {ρ : av} {σ : St} {H : Hp} (z : Zr Γ β M ρ σ H) : ∀ {idx : List Nat} {bz : List Dv}, gy idx ρ = some bz → ∃ vcs, aM β M H vcs bz ∧ vcs.length = idx.length ∧ ∀ (j i : Nat) (v : V), idx[j]? = some i → vcs[j]? = some v → σ[i]? = some (some v)
  | [], bz, h => by cases h; exact ⟨[], .nil, rfl, fun j i v h => by simp at h⟩
  | i :: is, bz, h => by
    unfold gy at h
    split at h
    · rename_i d ds h1 h2
      cases h
      obtain ⟨v, hv, r⟩ := z.at' i d h1
      obtain ⟨vcs, rs, l, q⟩ := ud z h2
      refine ⟨v :: vcs, .cons r rs, by simp [l], fun j i' u a b => ?_⟩
      cases j with
      | zero => simp at a b; subst a b; exact hv
      | succ j => exact q j i' u (by simpa using a) (by simpa using b)
    · cases h
end
end L2
namespace L2
open PySem PySem.Spec PyProof.Rows
theorem xU {P : Program} {w : World} {K : PySem.W.Frag} {mg mb : Str → Option Value} {CX : d8} {k : Nat} {fa a : Addr} {fd : FuncData} {x : Str} {sp : Sp} {az : Shared} {vs : List Value} {ns : List Int} {tabs lts : List Addr}
    (KX : K.In az.heap) (jw : az.heap.Ns mainGlobals mg) (hb : az.heap.Ns builtinsNs mb) (Om : ∀ x : Str, x ≠ "__name__" → mb x = bootBuiltins x) (GO : az.heap.NoLimit) (hg : az.gens = #[])
    (ha : az.heap.get? a = some { cls := .type "list", data := .seq vs.toArray }) (hi : IntsAre vs ns) (hl : ns.length ≤ sizeLine) (hr : bB k callerA)
    (oz : ∀ p ∈ tabs ++ lts, az.heap.get? p = some (PySem.W.tabObj #[]) ∧ isCodeTable az.heap p) (Mf : ∀ p ∈ tabs, p ∉ lts) (xV : PySem.W.kb_classed K = true) (du : ∃ bm ob, BMod az.heap mainGlobals mg bm ob)
    (F : ∀ base : Heap, K.In base → base.Ns mainGlobals mg → (∃ bm ob, BMod base mainGlobals mg bm ob) → (∀ c p, PySem.W.CodeHd az.heap c p → PySem.W.CodeHd base c p) → FnOk P w K mg base CX k fa fd [x] sp)
    (IX : ∀ (s : Shared) (u : Value), BindsTo s fd ⟨[u], []⟩ [(x, u)])
    (gD : ∀ H : Hp, (∀ p ∈ tabs, Tb p H) → (∀ p ∈ lts, H p = some (.lam #[])) → bM K H a (ns.map V.int) → sp [.ref a] H (fun v H' => v = .bl true ∧ ∀ p ∈ lts, ∃ ps, H' p = some (.lam ps)) fun _ _ _ => False)
    (GP : ∀ H e s', CX [] H az (fun _ _ _ => False) e s' → False) :
    codeAny (model P w) callerA (.call (.ref fa) ⟨[.ref a], []⟩) (fun r s' => r = .ok (.ret (.bool true)) ∧ OldK az.heap s'.heap ∧ s'.os = az.os ∧ AllBare s'.gens) az := by
  have rv := pf hi
  have Mg := hi.length
  have ix : a ∉ tabs ++ lts := fun z => by
    have e := (oz a z).1
    rw [ha] at e
    cases e
  have core : ∀ H : Hp, (∀ b u, H b = some u → (b = a ∧ ∃ o xs, u = .cM o (.lst xs)) ∨ (b ∈ tabs ++ lts ∧ (u = .cg #[] ∧ b ∈ tabs ∨ u = .lam #[] ∧ b ∈ lts))) → (∀ p ∈ tabs, H p = some (.cg #[])) → (∀ p ∈ lts, H p = some (.lam #[])) → bM K H a (ns.map V.int) → c6 P w H az.heap → (H a ≠ none → K.lookup a = none) →
      codeAny (model P w) callerA (.call (.ref fa) ⟨[.ref a], []⟩) (fun r s' => r = .ok (.ret (.bool true)) ∧ OldK az.heap s'.heap ∧ s'.os = az.os ∧ AllBare s'.gens) az := by
    intro H hO Oo Oq hS hok hK
    have lH : ∀ {b : Addr} {o : Obj}, az.heap.get? b = some o → H b = none → (ig az.heap H).get? b = some o := fun e n => y2 e n
    have no : ∀ {b : Addr} {o : Obj}, az.heap.get? b = some o → (∀ n, o.data ≠ .seq vs.toArray n) → o ≠ PySem.W.tabObj #[] → H b = none := fun {b o} e d1 d2 => by
      cases q : H b with
      | none => rfl
      | some u =>
        rcases hO b u q with ⟨e', _⟩ | ⟨dN, _⟩
        · subst e'
          rw [ha] at e; cases e
          exact absurd rfl (d1 _)
        · rw [(oz b dN).1] at e
          exact absurd (Option.some.inj e).symm d2
    have Ot : ∀ {b : Addr} {o : Obj} {es : Array DictEntry} {ep : Nat}, az.heap.get? b = some o → o.data = .dict es ep → H b = none := fun {b o es ep} e d => no e (fun n z => by rw [d] at z; cases z) fun z => by rw [z] at d; cases d
    have xW : ∀ {b : Addr} {m : Str → Option Value}, az.heap.Ns b m → (ig az.heap H).Ns b m := fun {b m} hS => by obtain ⟨o, es, ep, e, d, r⟩ := hS; exact ⟨o, es, ep, lH e (Ot e d), d, r⟩
    have Ks : K.In (ig az.heap H) := fun b o e => lH (KX b o e) (by
      cases q : H b with
      | none => rfl
      | some u =>
        rcases hO b u q with ⟨e', _⟩ | ⟨dN, _⟩
        · subst e'
          rw [hK (by rw [q]; simp)] at e; cases e
        · have e1 := KX b o e
          have e2 := (oz b dN).1
          rw [e1] at e2
          have e3 : o = PySem.W.tabObj #[] := Option.some.inj e2
          have q2 := List.all_eq_true.mp xV (b, o) (PySem.W.kb_mem e)
          simp only [Bool.or_eq_true, decide_eq_true_eq, beq_iff_eq] at q2
          rcases q2 with (q2 | q2) | q2
          · rw [e3] at q2; exact absurd rfl q2
          · obtain ⟨mc, ⟨oc, es, ep, ho, hd, _⟩, _⟩ := GO
            rw [← q2, e1] at ho
            cases ho
            rw [e3] at hd; cases hd
          · obtain ⟨oc, es, ep, ho, hd, _⟩ := id jw
            rw [← q2, e1] at ho
            cases ho
            rw [e3] at hd; cases hd)
    have hM : Mod K mg (ig az.heap H) := ⟨Ks, xW jw, ⟨mb, xW hb, Om⟩, let ⟨mc, h1, h2⟩ := GO; ⟨mc, xW h1, h2⟩⟩
    have hB : ∃ bm ob, BMod (ig az.heap H) mainGlobals mg bm ob := by
      obtain ⟨bm, ob, B⟩ := du
      exact ⟨bm, ob, xW B.ns, B.name, B.ne, lH B.obj (no B.obj (fun n z => by rw [B.data] at z; cases z) fun z => by have := B.data; rw [z] at this; cases this), B.cls, B.dict, B.data⟩
    have hC : ∀ c p, PySem.W.CodeHd az.heap c p → PySem.W.CodeHd (ig az.heap H) c p := fun c p ⟨o, xm, file, tf, flags, tg, GQ, text, tt, e1, e2, e3, r⟩ =>
      ⟨o, xm, file, tf, flags, tg, GQ, text, tt, lH e1 (no e1 (fun n z => by rw [e3] at z; cases z) fun z => by rw [z] at e2; cases e2), e2, e3, r⟩
    have e0 : ki P w K mg (ig az.heap H) callerA [] az H := ⟨rfl, hM, fun b o e => BX e, Nat.le_of_eq (vT _ _), trivial, fun b hb => absurd (show b ∈ ([] : List Addr) from hb) (by simp), hok, .of_eq hg⟩
    refine codeAny_mono ((F _ Ks (xW jw) hB hC).run callerA [] az H ⟨[.ref a], []⟩ [.ref a] [.ref a] _ _ hr e0 (IX az (.ref a)) (.cons rfl .nil) (gD H (fun p hp => ⟨#[], Oo p hp, trivial⟩) Oq hS)) fun r s' h => ?_
    cases r with
    | error e => exact (GP H e s' h).elim
    | ok fl =>
      cases fl with
      | next => exact False.elim h
      | brk => exact False.elim h
      | cont => exact False.elim h
      | ret u =>
        obtain ⟨v, H', os, bare, un, zZ, r', q⟩ := h
        obtain ⟨q', qL⟩ := q
        subst q'
        obtain rfl : u = Value.bool true := r'
        have all : ∀ b o, az.heap.get? b = some o → asItWas az.heap s'.heap b o ∧ ∃ o', s'.heap.get? b = some o' := fun b o e => by
          cases q : H b with
          | none =>
            have := un.keep b o e q (by intro z; exact absurd (show b ∈ ([] : List Addr) from z) (by simp)) (by simp)
            exact ⟨.inl this, _, this⟩
          | some u =>
            rcases hO b u q with ⟨_, ob, xs, z⟩ | ⟨dN, z⟩
            · subst z
              have z2 := un.frzs b ob _ q
              obtain ⟨e1, _⟩ := hok b _ q
              obtain ⟨e2, _⟩ := zZ b _ z2
              rw [e] at e1; cases e1
              exact ⟨.inl e2, _, e2⟩
            · have e2 : ∃ more, s'.heap.get? b = some { cls := .none, data := .fields (#[] ++ more) } := by
                rcases z with ⟨z, _⟩ | ⟨z, Ou⟩
                · subst z
                  obtain ⟨more, z2⟩ := un.tbls b #[] q
                  exact ⟨more, zZ b _ z2⟩
                · obtain ⟨ps, z2⟩ := qL b Ou
                  refine ⟨ps, ?_⟩
                  have := zZ b _ z2
                  rw [show (#[] : Array Value) ++ ps = ps by simp]
                  exact this
              obtain ⟨more, e2⟩ := e2
              have e1 := (oz b dN).1
              rw [e] at e1
              obtain rfl : o = PySem.W.tabObj #[] := Option.some.inj e1
              exact ⟨.inr (.inl ⟨(oz b dN).2, rfl, #[], more, rfl, e2⟩), _, e2⟩
        exact ⟨rfl, ⟨fun b o e => (all b o e).1, fun b o e => (all b o e).2⟩, os, bare.1⟩
  have GR : ∀ p ∈ tabs ++ lts, ∀ H : Hp, ∀ u, (u = .cg #[] ∧ p ∈ tabs ∨ u = .lam #[] ∧ p ∈ lts) → bA P w H az.heap p u := fun p hp H u hu => by
    rcases hu with ⟨rfl, _⟩ | ⟨rfl, _⟩ <;> exact (oz p hp).1
  let T : Hp := fun b => if b ∈ lts then some (.lam #[]) else if b ∈ tabs then some (.cg #[]) else none
  have T1 : ∀ b u, T b = some u → b ∈ tabs ++ lts ∧ (u = .cg #[] ∧ b ∈ tabs ∨ u = .lam #[] ∧ b ∈ lts) := fun b u z => by
    by_cases h1 : b ∈ lts
    · have z' := (show T b = _ from if_pos h1).symm.trans z
      cases z'
      exact ⟨List.mem_append_right _ h1, .inr ⟨rfl, h1⟩⟩
    · by_cases h2 : b ∈ tabs
      · have z' := (show T b = _ from (if_neg h1).trans (if_pos h2)).symm.trans z
        cases z'
        exact ⟨List.mem_append_left _ h2, .inl ⟨rfl, h2⟩⟩
      · have z' := (show T b = _ from (if_neg h1).trans (if_neg h2)).symm.trans z
        cases z'
  have T2 : ∀ p ∈ tabs, T p = some (.cg #[]) := fun p hp => (if_neg (Mf p hp)).trans (if_pos hp)
  have T3 : ∀ p ∈ lts, T p = some (.lam #[]) := fun p hp => if_pos hp
  have Ta : T a = none := (if_neg fun z => ix (List.mem_append_right _ z)).trans (if_neg fun z => ix (List.mem_append_left _ z))
  cases hk : K.lookup a with
  | some o =>
    have e := KX a o hk
    rw [ha] at e
    cases e
    exact core T (fun b u z => .inr (T1 b u z)) T2 T3 (.inr ⟨_, vs.toArray, _, hk, rfl, rfl, rfl, by rw [List.size_toArray, Mg]; exact hl, by simpa using rv⟩) (fun b u z => GR b (T1 b u z).1 _ u (T1 b u z).2) fun z => absurd Ta z
  | none =>
    have na : ∀ p ∈ tabs ++ lts, p ≠ a := fun p hp z => ix (z ▸ hp)
    refine core (upd T a (.cM { cls := .type "list", data := .seq vs.toArray } (.lst (ns.map V.int)))) (fun b u z => ?_) (fun p hp => by rw [aj (na p (List.mem_append_left _ hp))]; exact T2 p hp) (fun p hp => by rw [aj (na p (List.mem_append_right _ hp))]; exact T3 p hp) (.inl (.inr ⟨_, aG⟩)) (fun b u z => ?_) fun _ => hk
    · by_cases hb : b = a
      · subst hb
        rw [aG] at z
        cases z
        exact .inl ⟨rfl, _, _, rfl⟩
      · rw [aj hb] at z
        exact .inr (T1 b u z)
    · by_cases hb : b = a
      · subst hb
        rw [aG] at z
        cases z
        exact ⟨ha, by rw [List.length_map]; exact hl, vs, _, rv, ha⟩
      · rw [aj hb] at z
        exact GR b (T1 b u z).1 _ u (T1 b u z).2
noncomputable def qp (K : PySem.W.Frag) (x : Str) : Option Addr := match PySem.W.nsIn K mainGlobals x with
  | some (some (.ref f)) => (match K.lookup f with
    | some ⟨_, _, .func fd, _⟩ => (match fd.code with
      | .ref c => (match K.lookup c with
        | some ⟨_, _, .fields vs, _⟩ => (match vs[11]? with | some (Value.ref p) => some p | _ => none)
        | _ => none)
      | _ => none)
    | _ => none)
  | _ => none
noncomputable abbrev TabOf (mg : Str → Option Value) (h : Heap) (y : Str) (p : Addr) : Prop := ∃ f o fd c, mg y = some (.ref f) ∧ h.get? f = some o ∧ o.data = .func fd ∧ fd.code = .ref c ∧ PySem.W.CodeHd h c p
theorem rQ {K : PySem.W.Frag} {mg : Str → Option Value} {h : Heap} {y : Str} {p q : Addr} (X : K.In h) (G : h.Ns mainGlobals mg) (t : TabOf mg h y p) (e : qp K y = some q) : p = q := by
  obtain ⟨f, o, fd, c, e1, e2, e3, e4, oc, vs, _, _, _, _, _, _, _, g1, _, g3, g4, _⟩ := t
  unfold qp at e
  split at e
  · rename_i f' jw
    have := (PySem.W.mg_of X G jw).symm.trans e1
    cases this
    split at e
    · rename_i xT PH FI JU Ov
      have := (X _ _ Ov).symm.trans e2
      cases this
      cases e3
      rw [e4] at e
      dsimp only at e
      split at e
      · rename_i a1 a2 xm a3 Ow
        have := (X _ _ Ow).symm.trans g1
        cases this
        cases g3
        rw [g4] at e
        cases e
        rfl
      · cases e
    · cases e
  · cases e
noncomputable def oA (K : PySem.W.Frag) (gs ls : List Str) : Bool := gs.all fun x => ls.all fun y => match qp K x, qp K y with | some p, some q => decide (p ≠ q) | _, _ => false
theorem ue {α β : Type} {F : α → β → Prop} {l : List α} {m : List β} (h : Paired F l m) {b : β} (hb : b ∈ m) : ∃ a ∈ l, F a b := by
  induction h with
  | nil => simp at hb
  | cons x t ih =>
    rcases List.mem_cons.mp hb with e | e
    · subst e; exact ⟨_, List.mem_cons_self, x⟩
    · obtain ⟨a, ha, q⟩ := ih e
      exact ⟨a, List.mem_cons_of_mem _ ha, q⟩
theorem z5 {K : PySem.W.Frag} {mg : Str → Option Value} {h : Heap} {gs ls : List Str} {tabs lts : List Addr} (X : K.In h) (G : h.Ns mainGlobals mg) (d : oA K gs ls = true) (t1 : Paired (TabOf mg h) gs tabs) (t2 : Paired (TabOf mg h) ls lts) : ∀ p ∈ tabs, p ∉ lts := fun p hp hq => by
  obtain ⟨x, hx, tx⟩ := ue t1 hp
  obtain ⟨y, hy, ty⟩ := ue t2 hq
  have := List.all_eq_true.mp (List.all_eq_true.mp d x hx) y hy
  split at this
  · rename_i p' q' e1 e2
    have a := rQ X G tx e1
    have b := rQ X G ty e2
    exact (of_decide_eq_true this) (a.symm.trans b)
  · cases this
theorem z6 {l : PySem.W.OpenLaw} {n k : Nat} {q : Program} {loose : List Str} {XP : (Str → Option Value) → Heap → Prop} {YP : World → Heap → Prop} {d : DefRec} {K : Params → PySem.W.Frag} {CX : d8} {sp : PySem.W.Frag → List Addr → List Addr → Sp} {x : Str} {j7 xX : List Str}
    (hn : l.most = some n) (nJ : n ≤ sizeLine) (wI : d.params.defaults = []) (hr : bB k callerA) (xV : ∀ w : World, PySem.W.kb_classed (K w.params) = true)
    (Bw : ∀ y ∈ j7 ++ xX, ∃ r ∈ recsOf q, r.name = y) (GU : ∀ w : World, oA (K w.params) j7 xX = true)
    (hY : ∀ (w : World) (h : Heap), YP w h → (K w.params).In h)
    (F : ∀ (w : World) (mg : Str → Option Value) (fa : Addr) (h : Heap) (tabs lts : List Addr), (K w.params).In h → h.Ns mainGlobals mg → mg d.name = some (.ref fa) →
      Paired (TabOf mg h) j7 tabs → Paired (TabOf mg h) xX lts →
      ∃ fd : FuncData, (∀ (s : Shared) (u : Value), BindsTo s fd ⟨[u], []⟩ [(x, u)]) ∧
        ∀ base : Heap, (K w.params).In base → base.Ns mainGlobals mg → (∃ bm ob, BMod base mainGlobals mg bm ob) → (∀ c p, PySem.W.CodeHd h c p → PySem.W.CodeHd base c p) → FnOk l.prog w (K w.params) mg base CX k fa fd [x] (sp (K w.params) tabs lts))
    (gD : ∀ (K : PySem.W.Frag) (tabs lts : List Addr) (H : Hp) (a : Addr) (ns : List Int), lts.length = xX.length → ns.length ≤ n → (∀ p ∈ tabs, Tb p H) → (∀ p ∈ lts, H p = some (.lam #[])) → bM K H a (ns.map V.int) → sp K tabs lts [.ref a] H (fun v H' => v = .bl true ∧ ∀ p ∈ lts, ∃ ps, H' p = some (.lam ps)) fun _ _ _ => False)
    (GP : ∀ (H : Hp) (s : Shared) (e : Value) (s' : Shared), CX [] H s (fun _ _ _ => False) e s' → False) :
    PySem.W.WalkO q loose XP YP l.row.toRowW d [] (fun f vs => PySem.call f vs) := by
  refine J6.sC hn wI fun w s₀ az mg mb fa o pm cd doc a vs ns G Y ho hd dA wJ fZ hints hlen hg => ?_
  have KX := hY w _ Y
  have tb : ∀ j7 : List Str, (∀ y ∈ j7, ∃ r ∈ recsOf q, r.name = y) → ∃ tabs, Paired (TabOf mg az.heap) j7 tabs ∧ ∀ p ∈ tabs, az.heap.get? p = some (PySem.W.tabObj #[]) ∧ isCodeTable az.heap p := by
    intro j7
    induction j7 with
    | nil => intro _; exact ⟨[], .nil, fun p hp => absurd hp (by simp)⟩
    | cons y r ih =>
      intro hm
      obtain ⟨tabs, h1, h2⟩ := ih fun z hz => hm z (List.mem_cons_of_mem _ hz)
      obtain ⟨rr, Ox, e⟩ := hm y List.mem_cons_self
      obtain ⟨f, o', fd, c, p, a1, a2, a3, a4, a5, a6⟩ := G.T.tab rr Ox
      rw [e] at a1
      refine ⟨p :: tabs, .cons ⟨f, o', fd, c, a1, a2, a3, a4, .of a5 a6⟩ h1, fun z hz => ?_⟩
      rcases List.mem_cons.mp hz with rfl | hz
      · exact ⟨a6.2, a6.isCodeTable⟩
      · exact h2 z hz
  obtain ⟨tabs, t1, t2⟩ := tb j7 fun y hy => Bw y (List.mem_append_left _ hy)
  obtain ⟨lts, u1, u2⟩ := tb xX fun y hy => Bw y (List.mem_append_right _ hy)
  obtain ⟨fd, hb, hF⟩ := F w mg fa _ tabs lts KX G.T.g wJ t1 u1
  exact xU (lts := lts) KX G.T.g G.T.b G.T.builtins G.T.nolimit hg fZ hints (Nat.le_trans hlen nJ) hr (fun p hp => (List.mem_append.mp hp).elim (t2 p) (u2 p)) (z5 KX G.T.g (GU w) t1 u1) (xV w) (PySem.W.bmod_of_top G.T) hF hb (fun H hO hL hS => gD _ tabs lts H a ns (Paired.length u1).symm hlen hO hL hS) fun H e s' => GP H az e s'
noncomputable abbrev kZ (K : PySem.W.Frag) (x : Str) (st : Stmt) (dv : Value) : Prop :=
  ∃ (f : Addr) (oc : Value) (od : Option Addr) (sl : Array (Option Value)) (T : Addr) (oT : Obj) (nT : Nat) (kV dc pm : Value) (an : Option Addr) (cd ct : Value),
    PySem.W.nsIn K mainGlobals x = some (some (.ref f)) ∧ K.lookup f = some ⟨oc, od, .func (PySem.W.fnOf x x (cw st) (bC st) (ah st) (.ref T) kV dc pm an cd ct), sl⟩ ∧ PySem.W.codeIn K cd x = true ∧ PySem.W.keepIn K (.ref f) = true ∧ K.lookup T = some oT ∧ oT.data = .seq #[dv] nT
theorem xY {K : PySem.W.Frag} {x : Str} {st : Stmt} {dv : Value} {f : Addr} {oc : Value} {od : Option Addr} {sl : Array (Option Value)} {T : Addr} {oT : Obj} {nT : Nat} {kV dc pm : Value} {an : Option Addr} {cd ct : Value} (a : PySem.W.nsIn K mainGlobals x = some (some (.ref f)))
    (l : K.lookup f = some ⟨oc, od, .func (PySem.W.fnOf x x (cw st) (bC st) (ah st) (.ref T) kV dc pm an cd ct), sl⟩) (c : PySem.W.codeIn K cd x = true) (k : PySem.W.keepIn K (.ref f) = true) (t : K.lookup T = some oT) (u : oT.data = .seq #[dv] nT) : kZ K x st dv := ⟨f, oc, od, sl, T, oT, nT, kV, dc, pm, an, cd, ct, a, l, c, k, t, u⟩
theorem kZ.df {K : PySem.W.Frag} {mg : Str → Option Value} {h : Heap} {x : Str} {st : Stmt} {dv : Value} (d : kZ K x st dv) (X : K.In h) (G : h.Ns mainGlobals mg) (ps : List Str)
    (hb : ∀ (T : Addr) (kV doc pm : Value) (an : Option Addr) (bG ct : Value) (us : List Value), us.length + 1 = ps.length → ∃ k, bindArgs (PySem.W.fnOf x x (cw st) (bC st) (ah st) (.ref T) kV doc pm an bG ct) ⟨us, []⟩ = seqItems? (.ref T) >>= k ∧ k (some #[dv]) = pure (ps.zip (us ++ [dv])))
    (Oy : ∀ (T : Addr) (kV doc pm : Value) (an : Option Addr) (bG ct : Value) (us : List Value), us.length = ps.length → ∃ k, bindArgs (PySem.W.fnOf x x (cw st) (bC st) (ah st) (.ref T) kV doc pm an bG ct) ⟨us, []⟩ = seqItems? (.ref T) >>= k ∧ k (some #[dv]) = pure (ps.zip us)) :
    ∃ f fd, Ol K mg x st ps [dv] f fd := by
  obtain ⟨f, oc, od, sl, T, oT, nT, kV, dc, pm, an, cd, ct, a, l, c, k, t, u⟩ := d
  refine ⟨f, _, ⟨oc, od, .ref T, kV, dc, pm, an, cd, ct, sl, rfl, l, c⟩, k, fun s us hK hl => ?_, fun s us hK hl => ?_, PySem.W.mg_of X G a⟩
  · obtain ⟨kk, h1, h2⟩ := hb T kV dc pm an cd ct us (by rw [List.length_append] at hl; exact hl)
    exact PySem.W.binds_K hK rfl t u h1 h2
  · rw [List.append_nil] at hl ⊢
    obtain ⟨kk, h1, h2⟩ := Oy T kV dc pm an cd ct us hl
    exact PySem.W.binds_K hK rfl t u h1 h2
theorem z7 {K : PySem.W.Frag} {tabs lts : List Addr} {qs : List Str} {H : Hp} {a : Addr} {ns : List Int} (hl : lts.length = qs.length) (hn : ns.length ≤ 63) (hT : ∀ p ∈ tabs, Tb p H) (hL : ∀ p ∈ lts, H p = some (.lam #[])) (hS : bM K H a (ns.map V.int)) :
    spLaw K ⟨tabs, lts.zip qs⟩ [.ref a] H (fun v H' => v = .bl true ∧ ∀ p ∈ lts, ∃ ps, H' p = some (.lam ps)) fun _ _ _ => False :=
  ⟨a, ns, rfl, hS, hn, hT, fun p hp => ⟨#[], hL p.1 (List.of_mem_zip hp).1, trivial, fun pos cv e => nomatch e⟩, fun H' h => ⟨rfl, fun p hp => by
    obtain ⟨i, hi⟩ := List.mem_iff_getElem?.mp hp
    have h1 := (List.getElem?_eq_some_iff.mp hi).1
    exact h (p, qs[i]) (List.mem_of_getElem? (i := i) (List.getElem?_zip_eq_some.mpr ⟨hi, List.getElem?_eq_getElem (by omega)⟩))⟩⟩
theorem xZ {K : PySem.W.Frag} {x : Str} {st : Stmt} {i : Int} {tk : Tok} {f : Addr} {oc : Value} {od : Option Addr} {sl : Array (Option Value)} {T : Addr} {oT : Obj} {nT : Nat} {kV dc pm : Value} {an : Option Addr} {cd ct : Value} (a : PySem.W.nsIn K mainGlobals x = some (some (.ref f)))
    (l : K.lookup f = some ⟨oc, od, .func (PySem.W.fnOf x x (cw st) (bC st) (ah st) (.ref T) kV dc pm an cd ct), sl⟩) (c : PySem.W.codeIn K cd x = true) (k : PySem.W.keepIn K (.ref f) = true) (t : K.lookup T = some oT) (u : oT.data = .seq #[.int i tk] nT) : ∃ tk, kZ K x st (.int i tk) := ⟨tk, xY a l c k t u⟩
end L2
namespace L2
open PySem PySem.Spec PySem.W PyProof.Rows
theorem z8 : fillsNumberSlot (.type "tuple") "mul" = pure false :=
  PySem.fillsNumberSlot_seq (r := some (.builtin "tuple.__rmul__")) F.slot_tuple_mul.lookup (by decide +kernel) F.slot_tuple_rmul.lookup (by decide +kernel)
theorem IY : seqRepeat? (.type "tuple") = pure (some (.builtin "tuple.__mul__")) := by
  unfold seqRepeat?
  rw [PySem.seqSlot_of (T := "tuple") (name := "__mul__") (id := "tuple.__mul__") F.slot_tuple_mul.lookup (by decide +kernel), PySem.seqSlot_of (T := "tuple") (name := "__rmul__") (id := "tuple.__rmul__") F.slot_tuple_rmul.lookup (by decide +kernel)]
  rfl
theorem IZ (a : Int) (t : Tok) (l : Addr) (items : Array Value) (n : Nat) (sl : Array (Option Value)) :
    Meets (Builtin.«int.__rmul__» ⟨[.int a t, .ref l], []⟩) (fun _ R s => s.heap.get? l = some { cls := .type "tuple", dict := none, data := .seq items n, slots := sl } ∧ R (.ok (.ret Value.notImplemented)) s) :=
  .of_wp fun prog w A R s h => by obtain ⟨hp, g, d, tk, os⟩ := s; obtain ⟨hl, h⟩ := h; wp_walk; exact ⟨_, rfl, h⟩
theorem pM (its : List Value) (m : Nat) : List.foldl (fun x1 x2 => x1 ++ x2) #[] (List.replicate m its.toArray) = (List.replicate m its).flatten.toArray := by
  have := foldl_rep its m []
  rw [List.nil_append] at this
  exact this
theorem Mi (l : Addr) (its : List Value) (n : Nat) (sl : Array (Option Value)) (x : Int) (u : Tok) (h1 : 2 ≤ x) (h2 : x < 1000) (fV : its ≠ []) (hz : its.length * x.toNat ≤ 10000) :
    Meets (Builtin.«tuple.__mul__» ⟨[.ref l, .int x u], []⟩) (fun _ R s => s.heap.get? l = some { cls := .type "tuple", dict := none, data := .seq its.toArray n, slots := sl } ∧
      R (.ok (.ret (Value.ref s.heap.objs.size))) { s with heap := s.heap.push { cls := Value.type "tuple", data := Data.seq (List.replicate x.toNat its).flatten.toArray }, toks := s.toks }) :=
  .of_wp fun prog w A R s h => by
    obtain ⟨hp, g, d, tk, os⟩ := s; obtain ⟨hl, h⟩ := h
    have f1 := PySem.AutoSeq1.idx_int
    have hs : its.toArray.size = its.length := by simp
    have nJ : its.toArray.isEmpty = false := by cases its with | nil => exact absurd rfl fV | cons a b => rfl
    have e : ((its.length * x.toNat : Nat) : Int) = (its.toArray.size : Int) * x := by rw [hs, Int.natCast_mul, Int.toNat_of_nonneg (by omega)]
    have c0 : ¬ (decide (x < -(2 ^ 63)) || decide (x ≥ 2 ^ 63)) = true := by simp; omega
    have c1 : ¬ (its.toArray.isEmpty || x == 1) = true := by rw [nJ]; simp; omega
    have c2 : ¬ (decide (x ≤ 0) || its.toArray.isEmpty) = true := by rw [nJ]; simp; omega
    have c3 : ¬ (its.toArray.size : Int) * x > (2 ^ 63 - 1) / 8 := by rw [← e]; omega
    have c4 : ¬ Builtin.Tuple.tupleTooMany ((its.toArray.size : Int) * x) = true := by rw [← e]; unfold Builtin.Tuple.tupleTooMany; simp only [decide_eq_true_eq, show sizeLine = 16777216 from rfl]; omega
    have c5 : ¬ (List.foldl (fun x1 x2 => x1 ++ x2) #[] (List.replicate x.toNat its.toArray)).size > sizeLine := by
      rw [pM, List.size_toArray, len_rep, Nat.mul_comm, show sizeLine = 16777216 from rfl]; omega
    wp_walk using wpAny_loadPart' hl
    rw [if_neg c0]
    wp_walk using wpAny_loadPart' hl
    rw [if_neg c1]
    wp_walk using wpAny_loadPart' hl
    rw [if_neg c2]
    wp_walk using wpAny_loadPart' hl
    rw [if_neg c3]
    wp_walk using wpAny_loadPart' hl
    rw [if_neg c4]
    wp_walk using wpAny_loadPart' hl
    rw [pM]
    exact ⟨_, rfl, h⟩
section
variable {X : Cx} {Γ : Gz} {K : PySem.W.Frag}
noncomputable def Ja : R2 := fun x y H Q => ∃ l k xs, x = .ref l ∧ y = .int k ∧ H l = some (.tup xs) ∧ xs ≠ [] ∧ 2 ≤ k ∧ k < 1000 ∧ xs.length * k.toNat ≤ 10000 ∧ ∀ p, H p = none → Q (.ref p) (upd H p (.tup (List.replicate k.toNat xs).flatten))
theorem C7 : OpR X (binaryOp .Mult) Ja := by
  intro pins s σ H x y v u Q I rx ry h
  obtain ⟨l, k, xs, rfl, rfl, hH, fV, h1, h2, hz, q⟩ := h
  cases rx
  obtain ⟨t, rfl⟩ := ry
  obtain ⟨z, its, r, o, e, c, n, d, hd⟩ := I.hok l _ hH
  obtain ⟨oc, od, Pj, fI⟩ := o
  simp only at c d hd
  subst c d hd
  have hl := r.length
  refine wpAny_binaryOp_repeat_ref (T := "tuple") (U := "int") (by decide) ⟨_, e, rfl⟩ (fun s' => typeIs_int s' k t) z8 F.fills_int_mul F.slot_int_rmul IY F.slot_int_index.lookup
    (call_meets F.slot_int_rmul (typeIs_int s k t) F.entry_int_rmul (F.args_int_rmul_2 _ _) (IZ k t l its.toArray n fI)
      ⟨e, rfl, ⟨_, e, rfl⟩, call_meets F.slot_tuple_mul ⟨_, e, rfl⟩ F.entry_tuple_mul (F.args_tuple_mul_2 _ _) (Mi l its n fI k t h1 h2 (fun w => fV (r.jv.mp w)) (by rw [← hl]; exact hz)) ⟨e, ?_⟩⟩)
  refine ⟨.ref s.heap.objs.size, _, I.laid (t' := s.toks) (o := .tup (List.replicate k.toNat xs).flatten) (fun b ob q => Heap.get?_push_of_some _ q) (Nat.le_refl _) ?_, rfl, q _ (I.hok.fresh (Nat.le_refl _))⟩
  exact ⟨by rw [len_rep, Nat.mul_comm, show sizeLine = 16777216 from rfl]; omega, _, r.rep k.toNat, gO.new _ _⟩
noncomputable def zRepT : dw := fun d e M Q => match d, e with | .tup ds, .int k => (ds ≠ [] ∧ 2 ≤ k ∧ k < 1000 ∧ ds.length * k.toNat ≤ 10000) ∧ Q (.tup (List.replicate k.toNat ds).flatten) M | _, _ => False
theorem aM.rep {β : Bz} {M : Mh} {H : Hp} {vs : List V} {ds : List Dv} (r : aM β M H vs ds) : ∀ k : Nat, aM β M H (List.replicate k vs).flatten (List.replicate k ds).flatten
  | 0 => ⟨rfl, fun i v d h => by simp at h⟩
  | k + 1 => by rw [List.replicate_succ, List.replicate_succ, List.flatten_cons, List.flatten_cons]; exact r.append (aM.rep r k)
theorem GV : dO Γ X (binaryOp .Mult) zRepT := ⟨_, C7, fun β x y d e M H Q Q' _ _ _ m rx ry z q => by
  unfold zRepT at z
  split at z
  · rename_i ds k
    obtain ⟨a, vs, rfl, f, ha, rs⟩ := cj rx
    obtain ⟨⟨z0, z1, z2, z3⟩, z4⟩ := z
    refine ⟨a, _, vs, rfl, aK ry, ha, fun w => z0 (by have := rs.len; rw [w] at this; exact List.eq_nil_of_length_eq_zero this.symm), z1, z2, by rw [rs.len]; exact z3, fun p hp => ?_⟩
    have x2 := Ex.lay m hp (.tup (List.replicate k.toNat vs).flatten)
    exact q _ _ _ _ x2 (fj (m.fz hp) aG ((rs.rep _).ex x2)) z4
  · exact z.elim⟩
noncomputable def zRepL : dw := fun d e M Q => match d, e with | .lst ds, .int k => (-(2 ^ 63) ≤ k ∧ k < 2 ^ 63 ∧ ds.length * k.toNat ≤ sizeLine) ∧ Q (.lst (List.replicate k.toNat ds).flatten) M | _, _ => False
noncomputable def zCatLD : dw := fun d e M Q => match d, e with | .lst ds, .lst es => ds.length + es.length ≤ sizeLine ∧ Q (.lst (ds ++ es)) M | _, _ => False
theorem iN (hK : X.K = K) : dO Γ X (binaryOp .Add) zCatLD := ⟨_, wF, fun β x y d e M H Q Q' _ _ _ m rx ry z q => by
  unfold zCatLD at z
  split at z
  · obtain ⟨a, vs, rfl, f, ha, rs⟩ := da rx
    obtain ⟨b, us, rfl, f2, hb, cy⟩ := da ry
    refine ⟨a, b, vs, us, rfl, rfl, ha, hb, by rw [rs.len, cy.len]; exact z.1, fun p hp => ?_⟩
    have x2 := Ex.lay m hp (.lst (vs ++ us))
    exact q _ _ _ _ x2 (nu (m.fz hp) aG ((rs.append cy).ex x2)) z.2
  · exact z.elim⟩
noncomputable def zMulS : dw := fun d e M Q => match d, e with | .str z, .int n => MulOk z n ∧ Q (.str (Txt.mul z n)) M | _, _ => False
theorem k6 : dO Γ X (binaryOp .Mult) zMulS := ⟨_, uL, fun β x y d e M H Q Q' _ _ _ m rx ry z q => by
  unfold zMulS at z
  split at z
  · exact ⟨_, _, bI rx, aK ry, z.1, q _ _ _ _ (.refl m) (.str _) z.2⟩
  · exact z.elim⟩
open Classical in
theorem C8 {pins : List (Addr × Obj)} {σ : St} {H : Hp} {s : Shared} (I : Inv X pins σ H s) {x : V} {v : Value} {d : Dt} {xs : List V} {ds : List Dt} {its : List Value} (rx : RelV x v) (hx : cU H x d) (rv : Vals xs its) (hl : xs.length = ds.length)
    (ix : ∀ (i : Nat) (v : V) (t : Dt), xs[i]? = some v → ds[i]? = some t → cU H v t) (x8 : ∀ t ∈ ds, fW t ≤ 60) (hu : X.A.units + 64 < cLine) :
    ∃ e : Value → Bool, (∀ y ∈ its, SeqAt.EqAt X.A.in1 s y v (e y)) ∧ ∀ (i : Nat) (y : Value) (t : Dt), its[i]? = some y → ds[i]? = some t → e y = b9 t d := by
  have Kt := rv.length
  let e : Value → Bool := fun y => decide (∃ (i : Nat) (t : Dt), its[i]? = some y ∧ ds[i]? = some t ∧ b9 t d = true)
  have key : ∀ (i : Nat) (y : Value) (t : Dt), its[i]? = some y → ds[i]? = some t → e y = b9 t d := fun i y t hi ht => by
    cases hE : b9 t d with
    | true => exact decide_eq_true ⟨i, t, hi, ht, hE⟩
    | false =>
      refine decide_eq_false fun ⟨j, t', hj, Oz, he⟩ => ?_
      obtain ⟨a, ha, ra⟩ := gZ rv hi
      obtain ⟨b, hb, rb⟩ := gZ rv hj
      have OA := ra.inj rb
      subst OA
      have := (ix i a t ha ht).inj (ix j a t' hb Oz)
      subst this
      rw [he] at hE
      cases hE
  refine ⟨e, fun y hy => ?_, key⟩
  obtain ⟨i, hi⟩ := List.mem_iff_getElem?.mp hy
  obtain ⟨a, ha, ra⟩ := gZ rv hi
  have Ku : i < ds.length := by
    have := (List.getElem?_eq_some_iff.mp ha).1
    omega
  have ht := List.getElem?_eq_getElem Ku
  rw [key i y _ hi ht]
  refine kG I (ix i a _ ha ht) hx ra rx ?_
  have := x8 _ (List.getElem_mem Ku)
  have : X.A.in1.units = X.A.units + 1 := rfl
  omega
noncomputable def oB (ts : List Dt) (d : Dt) (j : Nat) : Prop := (∃ t, ts[j]? = some t ∧ b9 t d = true) ∧ ∀ m t, m < j → ts[m]? = some t → b9 t d = false
noncomputable def C9 : V → List V → Hp → VK → Prop := fun x vs H Q => ∃ (p : Addr) (xs : List V) (v : V) (d : Dt) (ds : List Dt) (j : Nat), x = .ref p ∧ vs = [v] ∧ H p = some (.lst xs) ∧ cU H v d ∧ xs.length = ds.length ∧ (∀ (i : Nat) (v : V) (t : Dt), xs[i]? = some v → ds[i]? = some t → cU H v t) ∧
  (∀ t ∈ ds, fW t ≤ 60) ∧ oB ds d j ∧ j < 16777216 ∧ Q (.int (j : Nat)) H
theorem ya (hu : X.A.units + 64 < cLine) : wC X "list.index" C9 := by
  intro pins s σ H x vs v us Q I rx rv h
  obtain ⟨p, xs, v1, d, ds, j, rfl, rfl, hp, hx, hl, ix, x8, ⟨⟨t, ht, hE⟩, E5⟩, hj, q⟩ := h
  cases rx
  obtain ⟨u, rfl, ru⟩ := rv.one
  obtain ⟨z, its, n, r, Kt, e⟩ := I.ko hp
  obtain ⟨ee, he, key⟩ := C8 I ru hx r hl ix x8 hu
  have hr := r.length
  have Kv : j < its.length := by
    have := (List.getElem?_eq_some_iff.mp ht).1
    omega
  refine call_meets F.slot_list_index ⟨_, e, rfl⟩ F.entry_list_index (F.args_list_index_2 _ _) (SeqAt.list_indexAt p its.toArray n _ _ _ ee j (by simpa using Kv) (by omega) ?_ fun m hm OB => ?_) ⟨e, fun y hy => he y (by simpa using hy), ⟨.int _, H, I.tok _, ⟨_, rfl⟩, q⟩⟩
  · rw [key j _ t (by simp [Kv]) ht]; exact hE
  · have OC : m < its.length := by simpa using hm
    have Kw : m < ds.length := by omega
    rw [key m _ _ (by simp [OC]) (List.getElem?_eq_getElem Kw)]
    exact E5 m _ OB (List.getElem?_eq_getElem Kw)
noncomputable def uf : pH := fun d ds M Q => match now M d, ds with
  | .lst xs, [y] => (match bU (now M y), jO xs with | some a, some ts => (∀ t ∈ ts, fW t ≤ 60) ∧ ∃ j, oB ts a j ∧ j < 16777216 ∧ Q (.int (j : Nat)) M | _, _ => False)
  | _, _ => False
theorem z9 (hu : X.A.units + 64 < cLine) : xJ Γ X "list" "list.index" K uf := ⟨_, ya hu, fun β x xs d ds M H Q Q' _ _ _ m r rs z q => by
  unfold uf at z
  split at z
  · rename_i PJ y h2
    split at z
    · rename_i a ts h1 OD
      obtain ⟨v, e2, rv⟩ := eQ rs
      subst e2
      obtain ⟨x8, j, hF, hj, hq⟩ := z
      have hy : cU H x (.lst ts) := lz m r (by rw [h2]; simp only [bU, OD, Option.map_some])
      cases hy with
      | lst e hl ix => exact ⟨_, _, v, a, ts, j, rfl, rfl, e, lz m rv h1, hl, ix, x8, hF, hj, q _ _ _ _ (.refl m) (.int _) hq⟩
    · exact z.elim
  · exact z.elim⟩
end
end L2
namespace L2
open PySem PySem.Spec PyProof.Rows
section
variable {Γ : Gz} {X : Cx} {K : PySem.W.Frag}
noncomputable def zCatLP : dw := fun d e M Q => match d, e with | .lst ds, .lst es => ds.length + es.length ≤ sizeLine ∧ ∀ a, M a = none → Q (.ptr a) (aH M a (.lst (ds ++ es))) | _, _ => False
theorem Dc (hK : X.K = K) : dO Γ X (binaryOp .Add) zCatLP := ⟨_, wF, fun β x y d e M H Q Q' _ _ _ m rx ry z q => by
  unfold zCatLP at z
  split at z
  · obtain ⟨a, vs, rfl, f, ha, rs⟩ := da rx
    obtain ⟨b, us, rfl, f2, hb, cy⟩ := da ry
    refine ⟨a, b, vs, us, rfl, rfl, ha, hb, by rw [rs.len, cy.len]; exact z.1, fun p hp => ?_⟩
    have x2 := Ex.own m (.inr hp) (rs.append cy)
    exact q _ _ _ _ x2 (.ptr (by rw [updM_same]; rfl)) (z.2 p (m.free hp))
  · exact z.elim⟩
end
theorem fy {g : cx} {te : aQ} (J : List Dv → av → Mh → Prop) : ∀ {ds acc : List Dv} {τ : av} {M : Mh} {Q : List Dv → Mh → Prop}, J acc τ M →
    (∀ i d iw τ M, ds[i]? = some d → iw.length = acc.length + i → J iw τ M → ∀ R : av → ZK, (∀ y aE M2, J (iw ++ [y]) aE M2 → R aE y M2) → g d τ M fun aE M2 => te aE M2 (R aE)) →
    (∀ ys τ M, ys.length = ds.length → J (acc ++ ys) τ M → Q ys M) → fQ g zNoIf te ds τ M Q
  | [], acc, τ, M, Q, j, _, q => q [] τ M rfl (by rw [List.append_nil]; exact j)
  | d :: ds, acc, τ, M, Q, j, h, q => by
    refine h 0 d acc τ M rfl rfl j (fun aE y M4 => fQ g zNoIf te ds aE M4 fun ys M5 => Q (y :: ys) M5) fun y aE M2 j2 => ?_
    refine fy J (acc := acc ++ [y]) j2 (fun i d' iw cF M' e1 e2 j' R hR => ?_) fun ys l0 M3 e3 j3 => ?_
    · exact h (i + 1) d' iw cF M' e1 (by rw [e2, List.length_append]; simp; omega) j' R hR
    · exact q (y :: ys) l0 M3 (by simp [e3]) (by rw [List.append_assoc] at j3; exact j3)
section
variable {X : Cx} {Γ : Gz} {tg elt iter : Expr} {ifs : List Expr} {scope : Scope} {pos : Pos} {N' : List Str} {tn : Nat} {idx : List Nat}
theorem rR {zi : fk} {g : cx} {tt : cP} {te : aQ} {i : Nat} {y : Str} {py iu : Pos} (hN : X.N.Nodup) (jz : X.N[i]? = some y) (hy : X.env.scope.names.lookup y = some .local) (hc : X.calm = true) (B : dj X.N X.env.scope scope N' tn idx) (hi : QI Γ X tg iter zi)
    (hg : jR X N' scope fun Y => QG Γ Y tg g) (ht : jR X N' scope fun Y => rF Γ Y ifs tt) (he : jR X N' scope fun Y => QE Γ Y elt te)
    (qS : swapsWith (.ListComp elt [⟨tg, iter, ifs, 0⟩] scope pos) (some (.Name y py)) iu.line X.env = pure true := by rfl)
    (hs : ∀ x, foldedSetIterable iter X.env x = pure x := by intro _; rfl) : QS Γ X (.Assign [.Name y py] (.ListComp elt [⟨tg, iter, ifs, 0⟩] scope pos) iu) (zAsg (zCompP tn idx zi g tt te) (zgName i)) := (sG hN jz hy hc B hi hg ht he qS hs).imp fun D σ H h => uU (fun _ _ _ h => oq h) h
end
theorem jd {a1 r : bO} {D : fO} {ρ : av} {M : Mh} (I : av → Mh → Prop) (h1 : ∀ N : av → Mh → Prop, (∀ ρ M, I ρ M → N ρ M) → a1 { D with nx := N } ρ M) (h2 : ∀ ρ M, I ρ M → r D ρ M) : (zSeq a1 r) D ρ M := h1 _ h2
theorem Jb {a1 a2 r : bO} {D : fO} {ρ : av} {M : Mh} (I : av → Mh → Prop) (h1 : ∀ N : av → Mh → Prop, (∀ ρ M, I ρ M → N ρ M) → (zSeq a1 a2) { D with nx := N } ρ M) (h2 : ∀ ρ M, I ρ M → r D ρ M) : (zSeq a1 (zSeq a2 r)) D ρ M := h1 _ h2
theorem Jc {a1 a2 a3 a4 r : bO} {D : fO} {ρ : av} {M : Mh} (I : av → Mh → Prop) (h1 : ∀ N : av → Mh → Prop, (∀ ρ M, I ρ M → N ρ M) → (zSeq a1 (zSeq a2 (zSeq a3 a4))) { D with nx := N } ρ M) (h2 : ∀ ρ M, I ρ M → r D ρ M) : (zSeq a1 (zSeq a2 (zSeq a3 (zSeq a4 r)))) D ρ M := h1 _ h2
theorem Jd {a1 a2 a3 a4 a5 a6 a7 a8 r : bO} {D : fO} {ρ : av} {M : Mh} (I : av → Mh → Prop) (h1 : ∀ N : av → Mh → Prop, (∀ ρ M, I ρ M → N ρ M) → (zSeq a1 (zSeq a2 (zSeq a3 (zSeq a4 (zSeq a5 (zSeq a6 (zSeq a7 a8))))))) { D with nx := N } ρ M) (h2 : ∀ ρ M, I ρ M → r D ρ M) : (zSeq a1 (zSeq a2 (zSeq a3 (zSeq a4 (zSeq a5 (zSeq a6 (zSeq a7 (zSeq a8 r)))))))) D ρ M := h1 _ h2
section
variable {β : Bz} {M M' : Mh} {H H' : Hp} {a : Addr} {o o' o2 mh : Mo}
theorem Rz.dom (hd : ∀ a, (M a).isSome = (M' a).isSome) {v : V} {d : Dv} (r : Rz β M H v d) : Rz β M' H v d :=
  r.lC (M0 := M') (fun a h => by rw [hd a]; exact h) (r.pin.mono fun a h => by rw [← hd a]; exact h)
theorem gV.dom (hd : ∀ a, (M a).isSome = (M' a).isSome) (h : gV β M H a o) : gV β M' H a o := by
  cases o with
  | lst ds => obtain ⟨vs, h1, rs⟩ := h; exact ⟨vs, h1, rs.len, fun i v d x y => (rs.at' i v d x y).dom hd⟩
  | cO => exact h
  | dk ks ds => obtain ⟨vs, h1, h2, rs⟩ := h; exact ⟨vs, h1, h2, rs.len, fun i v d x y => (rs.at' i v d x y).dom hd⟩
  | dt ks ds => obtain ⟨vs, h1, h2, rs⟩ := h; exact ⟨vs, h1, h2, rs.len, fun i v d x y => (rs.at' i v d x y).dom hd⟩
theorem ia (M : Mh) (a : Addr) (o o2 : Mo) (b : Addr) : (aH M a o b).isSome = (aH M a o2 b).isSome := by
  by_cases e : b = a
  · subst e; rw [updM_same, updM_same]; rfl
  · rw [au e, au e]
theorem je {b : Addr} (o2 : Mo) (h : aH M a o b = none) : aH M a o2 b = none := by
  by_cases e : b = a
  · subst e; rw [updM_same] at h; cases h
  · rw [au e] at h ⊢; exact h
theorem Mz.chg (m : Mz β (aH M a o) H) (h2 : gV β (aH M a o2) H a o2) : Mz β (aH M a o2) H := by
  refine ⟨fun b u e => ?_, m.tabs, m.hids, fun b u e => ?_, m.lams⟩
  · by_cases z : b = a
    · subst z; rw [updM_same] at e; cases e; exact h2
    · rw [au z] at e
      exact gV.dom (ia M a o o2) (m.obj b u (by rw [au z]; exact e))
  · by_cases z : b = a
    · subst z; exact m.apart b o updM_same
    · rw [au z] at e
      exact m.apart b u (by rw [au z]; exact e)
theorem ug (h : M a = some o) : aH M a o = M := by
  funext b
  by_cases e : b = a
  · subst e; rw [updM_same, h]
  · rw [au e]
theorem Ex.chg (x : Ex β (aH M a o) H (aH M a o') H') (h2 : gV β (aH M a mh) H' a mh) : Ex β (aH M a o2) H (aH M a mh) H' :=
  ⟨⟨fun b u h e => x.keep b u (je o h) e, fun b h => by rw [ia M a mh o']; exact x.dom b (by rw [ia M a o o2]; exact h), fun b u h e => je mh (x.new b u (je o h) e)⟩, x.mz.chg h2⟩
theorem Ex.sealed (hn : M a = none) (x : Ex β M H (aH M a o') H') (h2 : gV β (aH M a mh) H' a mh) : Ex β M H (aH M a mh) H' :=
  ⟨⟨x.keep, fun b h => by rw [ia M a mh o']; exact x.dom b h, fun b u h e => je mh (x.new b u h e)⟩, x.mz.chg h2⟩
theorem yb {c m : Int} (z : Mz β (aH M a (.lst [.int c, .int m])) H) (hc : 0 ≤ c) (hm : 0 ≤ m) : gV β (aH M a .cO) H a .cO := by
  obtain ⟨vs, h, rs⟩ := z.obj a _ updM_same
  refine ⟨c, m, ?_, hc, hm⟩
  have := rJ (ns := [c, m]) rs
  rw [h, this]
  rfl
theorem GW (z : Mz β (aH M a .cO) H) : ∃ c m : Int, 0 ≤ c ∧ 0 ≤ m ∧ gV β (aH M a (.lst [.int c, .int m])) H a (.lst [.int c, .int m]) := by
  obtain ⟨c, m, h, hc, hm⟩ := z.obj a _ updM_same
  exact ⟨c, m, hc, hm, _, h, rK (ns := [c, m])⟩
end
section
variable {X : Cx} {Γ : Gz} {K : PySem.W.Frag}
noncomputable def zIxS : dw := fun d e M Q => match d, e with | .bt ns, .int i => (match cq ns i with | some x => Q (.int x) M | none => False) | _, _ => False
theorem By (hK : X.K = K) (hG : K = Γ.K) : Gh Γ X zIxS := ⟨_, tU hK, fun β x y d e M H Q Q' _ _ eK m rx ry z q => by
  unfold zIxS at z
  split at z
  · rename_i ns i
    split at z
    · rename_i v hv
      obtain ⟨a, rfl, hS⟩ := pD rx
      rw [eK, ← hG] at hS
      exact .inl ⟨a, _, i, .int v, rfl, aK ry, hS, C1 hv, q _ _ _ _ (.refl m) (.int _) z⟩
    · exact z.elim
  · exact z.elim⟩
end
noncomputable def OG (k : Nat) : Str := ⟨#[97 + k]⟩
theorem jT (a b : Str) : (a ++ b).length = a.length + b.length := by
  show (a.cps ++ b.cps).size = a.cps.size + b.cps.size
  exact Array.size_append
section
variable {κ : Type} [DecidableEq κ]
noncomputable def Mj (step : κ → Nat → κ) (met : κ) (w : Str) (st : List κ × List Str) (a : Nat) : List κ × List Str := if step met a ∈ st.1 then st else (st.1 ++ [step met a], st.2 ++ [w ++ OG a])
noncomputable def visit (step : κ → Nat → κ) (met : κ) (w : Str) (n : Nat) (st : List κ × List Str) : List κ × List Str := (List.range n).foldl (Mj step met w) st
noncomputable def Kx (step : κ → Nat → κ) (n most : Nat) : Nat → Nat → List κ × List Str → List κ × List Str
  | 0, _, st => st
  | fuel + 1, i, st => match st.1[i]?, st.2[i]? with
    | some met, some w => if st.1.length ≤ most then Kx step n most fuel (i + 1) (visit step met w n st) else st
    | _, _ => st
noncomputable def met (step : κ → Nat → κ) (n most N : Nat) (s : κ) : List κ × List Str := Kx step n most (N + 1) 0 ([s], [""])
end
end L2
namespace L2
open PySem PySem.Spec PySem.W PyProof.Rows
section
variable {X : Cx} {CX : d8} {k : Nat} {f : Addr} {fd : FuncData} {E : XK} {x : Str} {p pos : Pos}
noncomputable def Dd (f : Addr) (o : Obj) (sp : Sp) (E : XK) (i : Nat) : TE := fun σ H Q => σ[i]? = some (some (.ref f)) ∧ (∃ u, H f = some (.cM o u)) ∧ sp [] H Q E
theorem yc {o : Obj} {sp : Sp} {i : Nat} (F : FnOk X.prog X.w X.K X.mg X.base CX k f fd [] sp) (ho : ∃ oc od fd sl, o = ⟨oc, od, .func fd, sl⟩) (hr : bB k X.A) (hN : X.N[i]? = some x) (hv : mR X.env.scope x) (hb : Binds X.K fd [] []) (hx : Passes CX X E)
    (cN : (x == ("__debug__" : Str)) = false := by decide) (dA : (x == ("__classdict__" : Str)) = false := by decide) :
    PE X (.Call (.Name x p) [] [] pos) (Dd f o sp E i) := by
  refine ⟨?_⟩
  intro pins s σ H Q I hh
  obtain ⟨hi, hf, h⟩ := hh
  obtain ⟨oc, od, FI, sl, rfl⟩ := ho
  refine wpAny_Call_Name_kw (thn ((vX hN hv cN dA) pins s σ H (fun v H' => v = .ref f ∧ H' = H) I ⟨_, hi, rfl, rfl⟩) fun u s0 hq => ?_)
  obtain ⟨v, H0, I0, r0, e1, e2⟩ := hq
  subst e1 e2
  cases (show u = Value.ref f from r0)
  have at_ : PySem.W.FnAt f s0.heap := by obtain ⟨u, hu⟩ := hf; exact ⟨oc, od, FI, sl, (I0.hok f _ hu).1⟩
  exact PySem.W.callWith_F0 at_ (wy (us := []) F hr hb .nil hx I0 .nil h)
end
section
variable {X : Cx} {Γ : Gz} {β : Bz} {CX : d8} {k : Nat} {f : Addr} {fd : FuncData} {E : XK} {E' : ZX} {x : Str} {p pos : Pos} {P : Program} {w : World} {tb : b0} {K : PySem.W.Frag}
noncomputable def zCallL0 (f : Addr) (o : Obj) (c : Addr) (oc : Obj) (vcs : List V) (S : List Dv → b5) (E' : ZX) (i : Nat) : aQ := fun ρ M Q => match ρ[i]? with
  | some (some (.bS f' o' c' xT vc bz)) => (f' = f ∧ o' = o ∧ c' = c ∧ xT = oc ∧ vc = vcs) ∧ S bz [] M Q E'
  | _ => False
theorem ye {c : Addr} {o oc : Obj} {vcs : List V} {S : List Dv → b5} {i : Nat} (F : FnOk X.prog X.w X.K X.mg X.base CX k f fd [] (GK P w K tb f o c oc vcs S)) (ho : ∃ oc od fd sl, o = ⟨oc, od, .func fd, sl⟩) (hr : bB k X.A) (hN : X.N[i]? = some x) (hv : mR X.env.scope x) (hb : Binds X.K fd [] [])
    (hx : Passes CX X E) (hP : P = Γ.P) (hw : w = Γ.w) (hK : K = Γ.K) (ht : tb = Γ.tb) (hE : XR Γ E' E) (cN : (x == ("__debug__" : Str)) = false := by decide) (dA : (x == ("__classdict__" : Str)) = false := by decide) : QE Γ X (.Call (.Name x p) [] [] pos) (zCallL0 f o c oc vcs S E' i) :=
  (yc F ho hr hN hv hb hx cN dA).imp fun σ H Q hh => by
    obtain ⟨β, ρ, M, Q', zr, h, q⟩ := hh
    subst hP hw hK ht
    unfold zCallL0 at h
    split at h
    · rename_i f' o' c' xT vc bz hi
      obtain ⟨⟨rfl, rfl, rfl, rfl, rfl⟩, h⟩ := h
      obtain ⟨v, hv, r⟩ := zr.at' i _ hi
      obtain ⟨rfl, h1, _, _⟩ := kY r
      exact ⟨hv, h1, β, [], bz, M, Q', E', zr.eP, zr.ew, zr.eK, zr.et, zr.mz, .nil, r, h, fun d M2 v H2 x2 r2 h2 => q _ _ _ _ x2 r2 h2, fun C M2 H2 x2 h2 => hE C M2 H2 (kX zr.ent zr.sub zr.eP zr.ew zr.eK zr.et x2) h2⟩
    · exact h.elim
end
section
variable {P : Program} {w : World} {K : PySem.W.Frag} {mg : Str → Option Value} {base : Heap} {tb : b0} {f : Addr} {fd : FuncData} {ps : List Str} {k : Nat}
theorem nK {fs : List Str} {qual : Str} {scope : Scope} {params : Arguments} {body : Expr} {c : Addr} {o oc : Obj} {aO : List (Str × Addr)} {vcs : List V} {Sc : List Dv → b5} (L : GI params body scope qual o c oc aO fd) (sc : jS ps fs scope) (C : rP base fs aO vcs) (fD : vcs.length = fs.length)
    (len : ∀ bz ds M Q E, Sc bz ds M Q E → ds.length = ps.length)
    (hb : ∀ (A : Around) (outer : List Env) (s : Shared) (E : XK) (Γ : Gz) (bz ds : List Dv) (Q' : ZK) (E' : ZX), P = Γ.P → w = Γ.w → K = Γ.K → tb = Γ.tb → XR Γ E' E → bB k (A.deeper (PySem.W.envX qual scope s.heap.objs.size f (.ref c) aO)) → Sc bz ds Γ.M0 Q' E' →
      ∃ p, QE Γ (qo (bK P w) P w K mg base (ps ++ fs) qual scope f (.ref c) aO A outer s Γ.H0 E) body p ∧ p (ds.map some ++ bz.map some) Γ.M0 (jn Γ.M0 Q')) : FnOk P w K mg base (bK P w) (k + 1) f fd ps (GK P w K tb f o c oc vcs Sc) := by
  refine GJ L sc C fD (fun vs H Q E hS => by obtain ⟨β, ds, bz, M, Q', E', _, _, _, _, m, rs, rc, s, _⟩ := hS; exact rs.len.trans (len _ _ _ _ _ s)) (fun vs H Q E hS => by obtain ⟨β, ds, bz, M, Q', E', _, _, _, _, m, rs, rc, s, _⟩ := hS; obtain ⟨_, h1, h2, _⟩ := kY rc; exact ⟨h1, h2⟩) fun A outer s H vs Q E hr h => ?_
  obtain ⟨β, ds, bz, M, Q', E', eP, ew, eK, et, m, rs, rc, hS, q, qx⟩ := h
  obtain ⟨p, hp, hq⟩ := hb A outer s E ⟨β, M, H⟩ bz ds Q' E' eP.symm ew.symm eK.symm et.symm qx hr hS
  obtain ⟨_, _, _, BA⟩ := kY rc
  exact ⟨_, hp, β, _, M, _, GL (Γ := ⟨β, M, H⟩) m rs BA, hq, fun d M' v H' x r h => lD m q x r h⟩
end
section
variable {P : Program} {w : World} {K : PySem.W.Frag} {mg : Str → Option Value} {base : Heap} {N : List Str} {qual : Str} {scope : Scope} {f : Addr} {cd : Value} {aO : List (Str × Addr)} {A : Around} {outer : List Env} {s0 : Shared} {H0 : Hp} {E : XK}
theorem k7 : Passes (bK P w) (qo (bK P w) P w K mg base N qual scope f cd aO A outer s0 H0 E) E := by
  intro pins σ H s e s' I h
  obtain ⟨a, C, t, B, H', rfl, os, gn, fl, c1, c2, un, hok, q⟩ := h
  have I' := I.lx (ch := []) os un hok gn (fun b z => absurd z (by simp))
  refine wpAny_leaves_onW (cls := .ref C) (a0 := .ref t) I.ok.frames rfl fl fun h' rg up => ?_
  have I2 := I.w5 I' c1 c2 fl.1 rg.1 up
  refine ⟨a, C, t, B, H', rfl, I2.os, I2.bare, rg, fun b o e n => ?_, c2, I2.base, I2.hok, q⟩
  obtain ⟨o1, e1⟩ := I.base.there b o e (fun z => absurd (show b ∈ ([] : List Addr) from z) (by simp))
  exact c1 b o1 e1 (I.jB (I.iY e) n)
end
theorem jE {X : Cx} {scope : Scope} (h : ∀ y ∈ scope.names, y.2 = NameKind.free → X.env.scope.names.lookup y.1 = some .cell) (e : ∀ n, X.env.scope.names.lookup n = some .cell → X.env.kindOf n = some .cell := by intro n h; exact h) : ∀ n, (n, NameKind.free) ∈ scope.names → X.env.kindOf n = some .cell ∨ X.env.kindOf n = some .free := fun n hn => .inl (e n (h _ hn rfl))
theorem nM {scope : Scope} {N fs : List Str} {idx : List Nat} {lk : Str → Option NameKind} (h : ∀ j, j < fs.length → (fs.getD j "", NameKind.free) ∈ scope.names ∧ lk (fs.getD j "") = some .cell ∧ (idx[j]?.bind fun i => N[i]?) = some (fs.getD j "")) : ∀ (j : Nat) (n : Str), fs[j]? = some n → (n, NameKind.free) ∈ scope.names ∧ lk n = some .cell ∧ ∃ i, idx[j]? = some i ∧ N[i]? = some n := fun j n hj => by
  obtain ⟨hl, e⟩ := List.getElem?_eq_some_iff.mp hj
  obtain ⟨h1, h2, h3⟩ := h j hl
  rw [List.getD_eq_getElem?_getD, hj, Option.getD_some] at h1 h2 h3
  exact ⟨h1, h2, Option.bind_eq_some_iff.mp h3⟩
section
variable {X : Cx} {Γ : Gz} {β : Bz} {CX : d8} {k : Nat} {f : Addr} {fd : FuncData} {ps : List Str} {E : XK} {E' : ZX} {x : Str} {p pos vd : Pos} {P : Program} {w : World} {tb : b0} {K : PySem.W.Frag}
noncomputable def dP (X : Cx) (params : Arguments) (body : Expr) (scope : Scope) (idx : List Nat) (fs : List Str) (S : Heap → b5) (E' : ZX) : aQ := fun ρ M Q => match gy idx ρ with
  | some bz => ∀ f o c oc aO vcs, vcs.length = idx.length → GB X params body scope o c oc aO → ∀ b', (∀ b o, X.base.get? b = some o → b'.get? b = some o) → rP b' fs aO vcs → S b' [.bS f o c oc vcs bz] M Q E'
  | none => False
theorem ft {params : Arguments} {body : Expr} {scope : Scope} {idx : List Nat} {fs : List Str} {S : Heap → b5} {PT cX : Addr} (bJ : X.env.code = .ref cX) (dA : PySem.W.CodeHd X.base cX PT) (du : ∃ bm ob, BMod X.base mainGlobals X.mg bm ob) (qz : defaultsOf params X.env = ([], []))
    (lu : ∀ n, (n, NameKind.free) ∈ scope.names → X.env.kindOf n = some .cell ∨ X.env.kindOf n = some .free) (OH : ∀ (j : Nat) (n : Str), fs[j]? = some n → (n, NameKind.free) ∈ scope.names ∧ X.env.scope.names.lookup n = some .cell ∧ ∃ i, idx[j]? = some i ∧ X.N[i]? = some n)
    (ub : (PT, fx X) ∈ Γ.tb.l) (GX : ∀ q ∈ Γ.tb.l, q.1 = PT → q.2 = fx X)
    (F : ∀ b', (∀ b o, X.base.get? b = some o → b'.get? b = some o) → FnOk X.prog X.w X.K X.mg b' CX k f fd ps (aW P w K tb (S b'))) (hr : bB k X.A) (mU : ∀ x, X.fn x = true) (hg : Gl X x) (hm : X.mg x = some (.ref f)) (hk : PySem.W.keepIn X.K (.ref f) = true) (hb : Binds X.K fd ps [])
    (hx : Passes CX X E) (hP : P = Γ.P) (hw : w = Γ.w) (hK : K = Γ.K) (ht : tb = Γ.tb) (hE : XR Γ E' E) (cN : (x == ("__debug__" : Str)) = false := by decide)
    (s3 : starEach [.Lambda params body scope vd] X.env = (false, eval (.Lambda params body scope vd) X.env) :: starEach [] X.env := by rfl)
    (dC : (backTo pos (starEach [] X.env)).any (·.1) = false := by rfl) :
    QE Γ X (.Call (.Name x p) [.Lambda params body scope vd] [] pos) (dP X params body scope idx fs S E') :=
  (zY F hr mU hg hm hk hb .nil hx (tM (GF bJ dA du qz lu) wu s3) cN s3 dC).imp fun σ H Q hh => by
    obtain ⟨β, ρ, M, Q', gW, h, q⟩ := hh
    subst hP hw hK ht
    have Mk : (PT, fx X) ∈ β.tb.l := by rw [gW.et]; exact ub
    have Ml : ∀ q ∈ β.tb.l, q.1 = PT → q.2 = fx X := by rw [gW.et]; exact GX
    refine ⟨gW.mz.lams _ Mk, fun lf o c oc aO H3 hO hN => ?_⟩
    unfold dP at h
    split at h
    · rename_i bz Je
      obtain ⟨vcs, BA, lcs, at'⟩ := ud gW Je
      have x3 := Ex.Md gW.mz Ml hN
      show ∀ b', vb X σ b' → aW Γ.P Γ.w Γ.K Γ.tb (S b') _ H3 Q E
      intro b' B
      obtain ⟨u1, a1⟩ := hN.at'
      obtain ⟨u2, a2⟩ := hN.cd
      have Ky := x3.mz
      have OI : Fz β M lf := gW.mz.fz hN.new
      have Mm : ∀ a o u, H3 a = some (.cM o u) → a ∉ β.hid := fun a o u e z => by
        obtain ⟨w, e', n⟩ := Ky.hids a z
        rw [e] at e'; cases e'; cases n
      have Mp : Rz β M H3 (.ref lf) (.bS lf o c oc vcs bz) := .bS OI a1 ⟨Ky.kN a2 rfl, Mm _ _ _ a2⟩ a2 BA.len fun i v d a b => (BA.at' i v d a b).ex x3
      have Mq : rP b' fs aO vcs := by
        refine ⟨fun n m a e e' => B.inj n m a (hO.cells n a e) (hO.cells m a e'), fun n a e => B.cells n a (hO.cells n a e), fun j n v hj hv => ?_⟩
        obtain ⟨fr, kc, i, hi, hn⟩ := OH j n hj
        obtain ⟨a, u, e1, e2, e3⟩ := B.cell i n v hn (at' j i v hi hv) kc
        obtain ⟨a', e'⟩ := hO.has n fr
        have := (hO.cells n a' e').symm.trans e1
        cases this
        exact ⟨a, u, e', e2, e3⟩
      exact ⟨β, _, M, Q', E', gW.eP, gW.ew, gW.eK, gW.et, x3.mz, .cons Mp .nil, h lf o c oc aO vcs lcs hO b' B.ext Mq, fun d M5 v H5 x5 r5 h5 => q _ _ _ _ (x3.trans x5) r5 h5, fun C M5 H5 x5 h5 => hE C M5 H5 (kX gW.ent gW.sub gW.eP gW.ew gW.eK gW.et (x3.trans x5)) h5⟩
    · exact h.elim
end
noncomputable def GY (b : Bool) : Value → Bool
  | .bool a => a == b
  | _ => false
theorem mi (b : Bool) : ∀ {bs : List Bool} {its : List Value}, Vals (bs.map V.bl) its → (∀ y ∈ its, ∃ a, y = .bool a) ∧ its.countP (GY b) = bs.count b
  | [], _, .nil => ⟨(fun _ h => nomatch h), rfl⟩
  | n :: ns, _, .cons r t => by
    obtain rfl := r
    obtain ⟨h1, h2⟩ := mi b t
    refine ⟨fun y hy => ?_, ?_⟩
    · rcases List.mem_cons.mp hy with rfl | hy
      · exact ⟨_, rfl⟩
      · exact h1 y hy
    · rw [List.countP_cons, List.count_cons, h2]
      rfl
noncomputable def De : V → List V → Hp → VK → Prop := fun x vs H Q => ∃ (p : Addr) (bs : List Bool) (b : Bool), x = .ref p ∧ vs = [.bl b] ∧ H p = some (.lst (bs.map V.bl)) ∧ Q (.int (bs.count b : Nat)) H
theorem yf {X : Cx} : wC X "list.count" De := by
  intro pins s σ H x vs v us Q I rx rv h
  obtain ⟨p, bs, b, rfl, rfl, hp, q⟩ := h
  cases rx
  obtain ⟨u, rfl, ru⟩ := rv.one
  obtain rfl := ru
  obtain ⟨z, its, n, r, Kt, e⟩ := I.ko hp
  obtain ⟨h1, h2⟩ := mi b r
  refine call_meets F.slot_list_count ⟨_, e, rfl⟩ F.entry_list_count (F.args_list_count_2 _ _) (SeqAt.list_countAt p its.toArray n _ _ _ (GY b)) ⟨e, fun y hy => ?_, ?_⟩
  · obtain ⟨a, rfl⟩ := h1 y (by simpa using hy)
    exact SeqAt.EqAt.bool_bool _ _
  · refine ⟨.int _, H, I.tok _, ⟨_, rfl⟩, ?_⟩
    rw [List.toList_toArray, h2]
    exact q
noncomputable def zCountB : pH := fun d ds M Q => match d, ds with | .lst xs, [.bl b] => (match boolsD xs with | some bs => Q (.int (bs.count b : Nat)) M | none => False) | _, _ => False
theorem Aa {Γ : Gz} {X : Cx} {K : PySem.W.Frag} : xJ Γ X "list" "list.count" K zCountB := ⟨_, yf, fun β x xs d ds M H Q Q' _ _ _ m r rs z q => by
  unfold zCountB at z
  split at z
  · split at z
    · rename_i bs OJ
      obtain ⟨v, e2, rv⟩ := eQ rs
      subst e2
      obtain ⟨a, vs, rfl, f, hv, cy⟩ := da r
      rw [pK OJ] at cy
      rw [pL cy] at hv
      exact ⟨a, bs, _, rfl, by rw [cC rv], hv, q _ _ _ _ (.refl m) (.int _) z⟩
    · exact z.elim
  · exact z.elim⟩
structure dh (k : Nat) (A : Around) : Prop where
  dp : A.depth + 3 * k + 5 < recursionLimit
  un : A.units + 16 * k + 200 < cLine
theorem dh.mono {j k : Nat} {A : Around} (r : dh k A) (h : j ≤ k) : dh j A := ⟨by have := r.dp; omega, by have := r.un; omega⟩
theorem dh.deeper {k : Nat} {A : Around} (r : dh (k + 1) A) (env : Env) : dh k (A.deeper env) :=
  ⟨by have := r.dp; show A.depth + 1 + 3 * k + 5 < _; omega, by have := r.un; show A.units + 3 + 16 * k + 200 < _; omega⟩
theorem dh.depth {k : Nat} {A : Around} (r : dh k A) : A.depth < recursionLimit := by have := r.dp; omega
theorem dh.units {k : Nat} {A : Around} (r : dh k A) : A.units + 64 < cLine := by have := r.un; omega
theorem bB.Jf {k : Nat} {A : Around} {v : Option Value} (r : bB k A) : dh k (A.mark v) := ⟨r.dp, r.un⟩
structure FnOkN (P : Program) (w : World) (K : PySem.W.Frag) (mg : Str → Option Value) (base : Heap) (CX : d8) (k : Nat) (f : Addr) (fd : FuncData) (ps : List Str) (sp : Sp) : Prop where
  len : ∀ vs H Q E, sp vs H Q E → vs.length = ps.length
  run : ∀ (A : Around) (outer : List Env) (s : Shared) (H : Hp) (args : Args) (us : List Value) (vs : List V) (Q : VK) (E : XK), dh k A → ki P w K mg base A outer s H → BindsTo s fd args (ps.zip us) → Vals vs us → sp vs H Q E →
    codeAny (model P w) A (.call (.ref f) args) (CR CX outer P w H s Q E) s
noncomputable def yg (CX : d8) (P : Program) (w : World) (K : PySem.W.Frag) (mg : Str → Option Value) (base : Heap) (N : List Str) (qual : Str) (scope : Scope) (f : Addr) (cd : Value) (A : Around) (outer : List Env) (s : Shared) (H : Hp) (E : XK) : Cx := { fh CX P w K mg base N qual scope f cd A outer s H E with calm := false }
section
variable {CX : d8} {P : Program} {w : World} {K : PySem.W.Frag} {mg : Str → Option Value} {base : Heap} {k : Nat}
theorem ve {N ps : List Str} {qual : Str} {scope : Scope} {f : Addr} {cd : Value} {A : Around} {outer : List Env} {s s1 : Shared} {H : Hp} {E : XK} {us : List Value} {vs : List V}
    (S : aN N ps scope) (e0 : ki P w K mg base A outer s H) (hl : vs.length = ps.length) (r : Vals vs us)
    (x : InCallC s s.heap.objs.size (bindL (envOfC qual scope s.heap.objs.size f cd).kindOf (ps.zip us) fun _ => none) (cellsFrom (s.heap.objs.size + 1) scope.names []) (bindC (envOfC qual scope s.heap.objs.size f cd).kindOf (ps.zip us) fun _ => none) s1) :
    Inv (yg CX P w K mg base N qual scope f cd A outer s H E) [] (start N vs) H s1 := by
  have I := o8 (CX := CX) (E := E) (A := { A with handled := none }) S rfl ⟨e0.frames, e0.mod, e0.bs, e0.bsz, e0.funs, e0.frf, e0.hok, e0.bare⟩ hl r x
  exact ⟨⟨I.ok.mod, I.ok.kind, I.ok.glob, I.ok.blt, I.ok.above, I.ok.inj, I.ok.has, I.ok.cab, (fun z => nomatch z), Around.frames_deeper e0.frames, I.ok.stk, I.ok.exf, I.ok.bs, I.ok.bsz, I.ok.noex, I.ok.exfs, I.ok.funs, I.ok.frf⟩,
    I.os, I.bare, I.base, I.loc, I.cell, I.free, I.freeC, I.pin, I.hok, I.len⟩
theorem GZ {f : Addr} {name qual : Str} {params : Arguments} {body : List Stmt} {scope : Scope} {dV kV doc pm bG ct oc : Value} {an od : Option Addr}
    {fI : Array (Option Value)} {N ps : List Str} {sp : Sp} (lk : K.lookup f = some ⟨oc, od, .func (PySem.W.fnOf name qual params body scope dV kV doc pm an bG ct), fI⟩) (dA : PySem.W.codeIn K bG qual = true) (S : aN N ps scope)
    (len : ∀ vs H Q E, sp vs H Q E → vs.length = ps.length)
    (gY : ∀ (A : Around) (outer : List Env) (s : Shared) (H : Hp) (vs : List V) (Q : VK) (E : XK), dh k (A.deeper (envOfC qual scope s.heap.objs.size f bG)) → sp vs H Q E →
      ∃ t, eA (yg CX P w K mg base N qual scope f bG A outer s H E) body t ∧ t { nx := fun _ H' => Q .ao H', rt := Q } (start N vs) H) :
    FnOkN P w K mg base CX (k + 1) f (PySem.W.fnOf name qual params body scope dV kV doc pm an bG ct) ps sp := by
  refine ⟨len, fun A outer s H args us vs Q E hr e0 hb r gD => ?_⟩
  have hl := len _ _ _ _ gD
  have KX : K.In s.heap := e0.mod.kin.keeps fun b o e => (e0.bs b o e).1
  have lim : s.heap.NoLimit := e0.mod.nolimit.keeps fun b o e => (e0.bs b o e).1
  have iW : ∀ y ∈ ps.zip us, scope.names.lookup y.1 = some .local ∨ (scope.names.lookup y.1 = some .cell ∧ ((cellsFrom (s.heap.objs.size + 1) scope.names []).lookup y.1).isSome = true) := fun y hy => by
    obtain ⟨n, v⟩ := y
    rcases S.par n (List.of_mem_zip hy).1 with q | q
    · exact .inl q
    · exact .inr ⟨q, PySem.W.cellsFrom_some _ _ _ (.inl q)⟩
  refine codeAny_call_function hr.depth (KX _ _ lk) rfl S.co S.gen rfl (PySem.W.codeRec_of KX dA) (hb _ _ _ _ ?_)
  refine wpAny_newFunctionEnv_cells S.kind iW fun env he s1 x => ?_
  subst he
  refine ⟨lim.keeps x.toInCall.keep, codeAny_func ?_⟩
  obtain ⟨t, ht, hq⟩ := gY A outer s H vs Q E (hr.deeper _) gD
  have I : Inv (yg CX P w K mg base N qual scope f bG A outer s H E) [] (start N vs) H s1 := ve S e0 hl r x
  refine wpAny_mono (ht [] s1 (start N vs) H _ I hq) (fun fl s' hs => ?_) fun e s' hs => hs
  have fin : ∀ {aA : St} {H' : Hp} {v : V} {u : Value}, Inv (yg CX P w K mg base N qual scope f bG A outer s H E) [] aA H' s' → RelV v u → Q v H' → CE outer P w H s Q u s' :=
    fun {aA H' v u} J rv q => ⟨v, H', J.os, J.bare, J.base, J.hok, rv, q⟩
  cases fl with
  | ret u =>
    obtain ⟨v, aA, H', J, rv, q⟩ := hs
    exact fin J rv q
  | next =>
    obtain ⟨aA, H', J, q⟩ := hs
    exact fin (v := V.ao) (u := Value.none) J rfl q
  | brk =>
    obtain ⟨_, _, _, q⟩ := hs
    exact False.elim q
  | cont =>
    obtain ⟨_, _, _, q⟩ := hs
    exact False.elim q
theorem Jg {tb : b0} {x : Str} {st : Stmt} {f : Addr} {fd : FuncData} {N ps : List Str} {S : b5} (D : Df K mg x st ps f fd) (sc : aN N ps (ah st)) (len : ∀ ds M Q E, S ds M Q E → ds.length = ps.length)
    (body : ∀ (A : Around) (outer : List Env) (s : Shared) (E : XK) (Γ : Gz) (ds : List Dv) (Q' : ZK) (E' : ZX), P = Γ.P → w = Γ.w → K = Γ.K → tb = Γ.tb → dh k (A.deeper (envOfC x (ah st) s.heap.objs.size f fd.code)) → S ds Γ.M0 Q' E' →
      ∃ p, iC Γ (yg bH P w K mg base N x (ah st) f fd.code A outer s Γ.H0 E).qE (bC st) p ∧ p (zEndsOf Γ.M0 Q') (zstart N ds) Γ.M0) : FnOkN P w K mg base bH (k + 1) f fd ps (aW P w K tb S) := by
  obtain ⟨oc, od, kV, doc, pm, an, bG, ct, fI, rfl, lk, dA⟩ := D.fn.ex
  refine GZ lk dA sc (ow len) fun A outer s H vs Q E hr h => ?_
  obtain ⟨β, ds, M, Q', E', eP, ew, eK, et, m, rs, hS, q, _⟩ := h
  obtain ⟨p, hp, hq⟩ := body A outer s E ⟨β, M, H⟩ ds Q' E' eP.symm ew.symm eK.symm et.symm hr hS
  refine ⟨_, hp.qE, β, zstart N ds, M, zEndsOf M Q', mE (Γ := ⟨β, M, H⟩) m rs, hq, ?_⟩
  have fin : ∀ d M' v H', Ex β M H M' H' → Rz β M' H' v d → jn M Q' d M' → Q v H' := fun d M' v H' x r h => lD m q x r h
  exact ⟨fun bw M' aA H' x zr h => fin _ _ _ _ ⟨zr.ent, x.mz⟩ .ao h, fun d M' v H' x e r h => fin _ _ _ _ ⟨e, x.mz⟩ r h, fun _ _ _ _ _ _ h => h, fun _ _ _ _ _ _ h => h⟩
end
section
variable {X : Cx} {Γ : Gz} {CX : d8} {k : Nat} {f : Addr} {fd : FuncData} {ps : List Str} {sp : Sp} {S : b5} {E : XK} {E' : ZX} {x : Str} {p pos : Pos} {e : Expr} {es : List Expr} {t : TA} {za : eB} {P : Program} {w : World} {tb : b0} {K : PySem.W.Frag}
theorem Dg {pins : List (Addr × Obj)} {σ : St} {H : Hp} {s : Shared} {Q : VK} {us : List Value} {vs : List V} (F : FnOkN X.prog X.w X.K X.mg X.base CX k f fd ps sp) (hr : dh k X.A) (hb : Binds X.K fd ps []) (hx : Passes CX X E)
    (I : Inv X pins σ H s) (r : Vals vs us) (h : sp vs H Q E) : wpAny (model X.prog X.w) X.A (call (.ref f) us) (EP X pins σ Q) X.xe s := by
  have hl : us.length = ps.length := by rw [← r.length]; exact F.len _ _ _ _ h
  have dN := hb s us I.d7 (by rw [List.append_nil]; exact hl)
  rw [List.append_nil] at dN
  refine wpAny_call (codeAny_mono (F.run X.A X.stack s H ⟨us, []⟩ us vs Q E hr I.EY dN r h) fun r s' hq => ?_)
  cases r with
  | error e => exact hx pins σ H s e s' I hq
  | ok fl =>
    cases fl with
    | ret u => exact I.after hq
    | next => exact False.elim hq
    | brk => exact False.elim hq
    | cont => exact False.elim hq
theorem Ab (F : FnOkN X.prog X.w X.K X.mg X.base CX k f fd ps sp) (hr : dh k X.A) (hg : Gl X x) (hm : X.mg x = some (.ref f)) (hk : PySem.W.keepIn X.K (.ref f) = true) (hb : Binds X.K fd ps []) (hx : Passes CX X E)
    (ha : PA X (e :: es) t) (cN : (x == ("__debug__" : Str)) = false := by decide) (he : starEach (e :: es) X.env = (false, eval e X.env) :: starEach es X.env := by rfl) (dC : (backTo pos (starEach es X.env)).any (·.1) = false := by rfl) :
    PE X (.Call (.Name x p) (e :: es) [] pos) (fun σ H Q => t σ H fun vs H1 => sp vs H1 Q E) := by
  refine ⟨?_⟩
  intro pins s σ H Q I h
  refine wpAny_Call_Name_kw (hZ I hg hm ?_ cN)
  refine PySem.W.callWith_K (h₀ := X.base) I.ok.mod.kin hk (thn (ha pos pins s σ H _ I h) fun us s1 hq => ?_) he dC
  obtain ⟨vs, H1, I1, r, q⟩ := hq
  exact ⟨I1.d7, Dg F hr hb hx I1 r q⟩
theorem Ac (F : FnOkN X.prog X.w X.K X.mg X.base CX k f fd ps (aW P w K tb S)) (hr : dh k X.A) (hg : Gl X x) (hm : X.mg x = some (.ref f)) (hk : PySem.W.keepIn X.K (.ref f) = true) (hb : Binds X.K fd ps []) (hx : Passes CX X E) (hP : P = Γ.P) (hw : w = Γ.w) (hK : K = Γ.K) (ht : tb = Γ.tb) (hE : XR Γ E' E)
    (ha : QA Γ X (e :: es) za) (cN : (x == ("__debug__" : Str)) = false := by decide) (he : starEach (e :: es) X.env = (false, eval e X.env) :: starEach es X.env := by rfl) (dC : (backTo pos (starEach es X.env)).any (·.1) = false := by rfl) :
    QE Γ X (.Call (.Name x p) (e :: es) [] pos) (zCall S E' za) := (Ab F hr hg hm hk hb hx ha cN he dC).imp fun σ H Q hh => by
  subst hP hw hK ht
  obtain ⟨β, ρ, M, Q', zr, h, q⟩ := hh
  refine ⟨β, ρ, M, _, zr, h, fun ds M1 vs H1 x1 r1 h1 => ?_⟩
  exact ⟨β, ds, M1, Q', E', zr.eP, zr.ew, zr.eK, zr.et, x1.mz, r1, h1, fun d M2 v H2 x2 r2 h2 => q _ _ _ _ (x1.trans x2) r2 h2, fun C M2 H2 x2 h2 => hE C M2 H2 (kX zr.ent zr.sub zr.eP zr.ew zr.eK zr.et (x1.trans x2)) h2⟩
end
theorem oC {base b' : Heap} {fd : FuncData} {c p : Addr} (C : pz base fd c p) (h : ∀ b o, base.get? b = some o → b'.get? b = some o) : pz b' fd c p := by
  obtain ⟨co, o, vs, file, tf, flags, tg, GQ, text, tt, e, r⟩ := C
  exact ⟨co, o, vs, file, tf, flags, tg, GQ, text, tt, h _ _ e, r⟩
theorem uh {base b' : Heap} {mg : Str → Option Value} (C : ∃ bm ob, BMod base mainGlobals mg bm ob) (h : ∀ b o, base.get? b = some o → b'.get? b = some o) : ∃ bm ob, BMod b' mainGlobals mg bm ob := by
  obtain ⟨bm, ob, m⟩ := C
  exact ⟨bm, ob, { m with ns := m.ns.keeps h, obj := h _ _ m.obj }⟩
end L2
open PySem L2 PyProof.Rows
local macro_rules | `(tactic| simp! only [$xs,*] $[$l]?) => `(tactic| simp only [zVar, zC, zOp, zII, zIC, zEq, zNe, scalZ, zIsN, isNonD, zSS, zTest, zBool, zChain, zAnd, zOr, zNot, zAndV, zNotV, zNil, zCons, zTup, zLst, zLstP, zCB, z1, zLenD, z2I, zAbs, zList, zTuple, itemsM, zIsInst, isD, zBM, tyZ, zAppend, zPop, zPopAt, zSetI, zgSub, zNext, zSeq, zDrop, zRet, zIfS, zgName, zgNil, zgCons, zgTup, zAsg, zFor, zForM, zComp, zCompP, zAll, zBlock, zCall, zTry, zRaise, zIsE, zstart, zEndsOf, ziTup, ziLst, ziStr, ziRng1, ziRng2, ziEnumK, zoNone, zoSome, zSl, zSlT, zSlS, zIx, zRangeP, zNeg, zCatT, zNoIf, zRepT, zRepL, zCatLD, zCatLP, zIxS, zNever, zCallL0, zCountB, boolsD, zMulS, zCallL, List.getElem?_cons_zero, List.getElem?_cons_succ, List.map_cons, List.map_nil, List.nil_append, List.cons_append, List.length_cons, List.length_nil, List.replicate_succ, List.replicate_zero, List.set_cons_zero, List.set_cons_succ, Option.join_some, Nat.reduceAdd, Nat.reduceSub, Nat.sub_self, Nat.zero_add, if_true, if_false, Bool.false_eq_true, Bool.not_true, Bool.not_false, true_and, and_true, beq_self_eq_true, String.reduceBEq, zLoop, List.length_map, List.length_set, updM_same, updM_updM, List.append_nil, Int.zero_add, Int.toNat_natCast, rangeD_len, Nat.min_self, atI_zero, decide_true, decide_false, Bool.not_eq_true, bne_self_eq_false, $xs,*] $[$l]?)
local macro_rules | `(tactic| dsimp! only [$xs,*] $[$l]?) => `(tactic| simp only [zVar, zC, zOp, zII, zIC, zEq, zNe, scalZ, zIsN, isNonD, zSS, zTest, zBool, zChain, zAnd, zOr, zNot, zAndV, zNotV, zNil, zCons, zTup, zLst, zLstP, zCB, z1, zLenD, z2I, zAbs, zList, zTuple, itemsM, zIsInst, isD, zBM, tyZ, zAppend, zPop, zPopAt, zSetI, zgSub, zNext, zSeq, zDrop, zRet, zIfS, zgName, zgNil, zgCons, zgTup, zAsg, zFor, zForM, zComp, zCompP, zAll, zBlock, zCall, zTry, zRaise, zIsE, zstart, zEndsOf, ziTup, ziLst, ziStr, ziRng1, ziRng2, ziEnumK, zoNone, zoSome, zSl, zSlT, zSlS, zIx, zRangeP, zNeg, zCatT, zNoIf, zRepT, zRepL, zCatLD, zCatLP, zIxS, zNever, zCallL0, zCountB, boolsD, zMulS, zCallL, List.getElem?_cons_zero, List.getElem?_cons_succ, List.map_cons, List.map_nil, List.nil_append, List.cons_append, List.length_cons, List.length_nil, List.replicate_succ, List.replicate_zero, List.set_cons_zero, List.set_cons_succ, Option.join_some, Nat.reduceAdd, Nat.reduceSub, Nat.sub_self, Nat.zero_add, if_true, if_false, Bool.false_eq_true, Bool.not_true, Bool.not_false, true_and, and_true, beq_self_eq_true, String.reduceBEq, List.length_map, List.length_set, updM_same, updM_updM, List.append_nil, Int.zero_add, Int.toNat_natCast, rangeD_len, Nat.min_self, atI_zero, decide_true, decide_false, Bool.not_eq_true, bne_self_eq_false, $xs,*] $[$l]?)
namespace My
open PySem L2 PyProof.Rows
noncomputable def top (i : Nat) : Stmt := PySem.Challenge.pw_roadcall_k32_lifting_refused.main.body.getD i (.Pass ⟨0, 0, 0, 0⟩)
noncomputable abbrev eT : Stmt := top 19
noncomputable abbrev cQ : Stmt := top 20
noncomputable abbrev iO : Stmt := top 25
noncomputable abbrev iP : Stmt := top 26
noncomputable abbrev eU : Stmt := top 27
noncomputable abbrev g9 : Stmt := top 28
noncomputable abbrev rS : Stmt := top 29
noncomputable abbrev vf : Stmt := top 30
noncomputable abbrev gL : Stmt := top 31
noncomputable abbrev gz : Stmt := top 32
noncomputable abbrev Ad : Stmt := top 35
noncomputable abbrev sH : Stmt := top 36
noncomputable abbrev Ae : Stmt := top 38
noncomputable abbrev vg : Stmt := top 39
noncomputable abbrev yh : Stmt := top 40
noncomputable abbrev Dh : Stmt := top 41
noncomputable abbrev rT : Stmt := top 42
noncomputable abbrev rV : Stmt := top 43
noncomputable abbrev rW : Stmt := top 44
noncomputable abbrev sI : Stmt := top 46
noncomputable abbrev yi : Stmt := top 47
noncomputable abbrev sJ : Stmt := top 48
noncomputable abbrev vh : Stmt := top 49
noncomputable abbrev oD : Stmt := top 50
noncomputable abbrev p8 : Stmt := top 51
noncomputable abbrev eV : Stmt := top 52
noncomputable abbrev dG : Stmt := top 54
noncomputable abbrev gM : Stmt := top 55
noncomputable abbrev dX : Stmt := top 56
noncomputable abbrev jU : Stmt := top 58
noncomputable abbrev qa : Stmt := top 59
noncomputable abbrev hU : Stmt := top 61
noncomputable abbrev cI : Stmt := top 62
noncomputable abbrev eH : Stmt := top 63
noncomputable abbrev bV : Stmt := top 64
noncomputable abbrev gA : Stmt := top 65
noncomputable abbrev eW : Stmt := top 66
noncomputable abbrev ed : Stmt := top 67
noncomputable abbrev eX : Stmt := top 68
noncomputable abbrev eY : Stmt := top 69
section
variable {P : Program} {w : World} {K : PySem.W.Frag} {mg : Str → Option Value} {base : Heap} {tb : b0} {k : Nat} {f : Addr} {fd : FuncData} {ps : List Str}
theorem dn : aN ["_law_script", "_law_at", "_law_cell", "_law_mix", "_law_k"] ["_law_script", "_law_at"] (ah hU) := ⟨rfl, rfl, rfl, by decide +kernel, rfl, by decide +kernel, by decide +kernel⟩
theorem dH : aN ["_law_bag_here", "_law_many", "_law_digit", "_law_number", "_law_room"] ["_law_bag_here", "_law_many"] (ah cI) := ⟨rfl, rfl, rfl, by decide +kernel, rfl, by decide +kernel, by decide +kernel⟩
theorem ke : aN ["_law_bag_here", "_law_many", "_law_free"] ["_law_bag_here", "_law_many"] (ah eH) := ⟨rfl, rfl, rfl, by decide +kernel, rfl, by decide +kernel, by decide +kernel⟩
theorem bg : aN ["_law_bag_here", "_law_most", "_law_many", "_law_ways", "_law_kind_here", "_law_rows", "_law_order_here", "_law_period", "_law_stays", "_law_k", "_law_place", "_law_onward", "_law_goals", "_law_turns"] ["_law_bag_here", "_law_most"] (ah bV) := ⟨rfl, rfl, rfl, by decide +kernel, rfl, by decide +kernel, by decide +kernel⟩
noncomputable def G0 : b5 := fun ds M Q _ => ∃ (ns : List Int) (t : Int), ds = [.bt ns, .int t] ∧ ns.length ≤ 63 ∧ 0 ≤ t ∧ t ≤ 63 ∧ ∀ b, M b = none → Q (.ptr b) (aH M b .cO)
noncomputable def BC : b5 := fun ds M Q _ => ∃ (ns : List Int) (t : Int), ds = [.bt ns, .int t] ∧ ns.length ≤ 63 ∧ 0 ≤ t ∧ t ≤ 63 ∧ ∀ b c m, M b = none → 0 ≤ c → 0 ≤ m → Q (.ptr b) (aH M b (.lst [.int c, .int m]))
theorem vi (D : Df K mg "_law_bag" hU ["_law_script", "_law_at"] f fd) (bl : Bl mg) : FnOk P w K mg base bH 1 f fd ["_law_script", "_law_at"] (aW P w K tb BC) := by
  refine gR D dn (fun ds M Q E hS => by obtain ⟨ns, t, e, _⟩ := hS; rw [e]; rfl) fun A outer s E Γ ds Q' E' hP hw hK ht hr hS => ?_
  obtain ⟨ns, t, e, hl, t0, t1, q⟩ := hS
  refine ⟨_, (ai (aF (i := 2) dn.nd rfl (Or.inl rfl) ak)
    (ai (cS (bX ot (qv 1) (aw (eC (K := K) rfl hK) rfl bl.len_ PySem.boot_len (aa (qv 0) ae)) (cE _))
      (aB (aF (i := 2) dn.nd rfl (Or.inl rfl) (aw IV rfl bl.abs_ FG (aa (bP (By (K := K) rfl hK) (qv 0) (qv 1) (fun _ _ => rfl)) ae))))
      qss_nil)
    (ai (aF (i := 3) dn.nd rfl (Or.inl rfl) (aC fR (aC ly ak (qv 1)) ak))
    (ai (nD PassesOwn.never rfl (de rfl bl.range_ (aa (aw (xG rfl) rfl bl.min_ wV (aa (aw (eC (K := K) rfl hK) rfl bl.len_ PySem.boot_len (aa (qv 0) ae)) (aa ak ae))) ae)) (fun BD eP ew eK et => by have hP := hP.trans eP.symm; have hw := hw.trans ew.symm; have hK := hK.trans eK.symm; have ht := ht.trans et.symm; exact ⟨(bE (i := 4) dn.nd rfl (Or.inl rfl)), (aB (aF (i := 3) dn.nd rfl (Or.inl rfl) (aC g7 (aC fR (aC fR (aC ly (qv 3) ak) (aC g7 (bP (By (K := K) rfl hK) (qv 0) (qv 4) (fun _ _ => rfl)) ak)) (qv 4)) ak)))⟩))
    (ai (cS (bX ot (qv 2) (aC uW ak ak) (cE _))
      (aB (aF (i := 2) dn.nd rfl (Or.inl rfl) ak))
      qss_nil)
    (aB (bo (t5 (aa (qv 2) (aa (qv 3) ae)))))))))), ?_⟩
  subst e
  refine Jc (fun ρ M => M = Γ.M0 ∧ ∃ c m x : Int, ∃ x4, 0 ≤ c ∧ 0 ≤ m ∧ ρ = [some (.bt ns), some (.int t), some (.int c), some (.int m), x4]) (fun N hN => ?_) ?_
  · refine Jb (fun ρ M => M = Γ.M0 ∧ ∃ c : Int, 0 ≤ c ∧ ρ = [some (.bt ns), some (.int t), some (.int c), none, none]) (fun N hN => ?_) ?_
    · simp! only []
      refine eG (fun h => ?_) (fun _ => hN _ _ ⟨rfl, 0, by omega, rfl⟩)
      have ht : t < (ns.length : Int) := of_decide_eq_true h
      obtain ⟨k, rfl⟩ := Int.eq_ofNat_of_zero_le t0
      rw [xM (show k < ns.length by omega)]
      exact hN _ _ ⟨rfl, _, by split <;> omega, rfl⟩
    rintro ρ M ⟨rfl, c, hc, rfl⟩
    simp! only []
    refine ⟨.inl ⟨by decide, by decide⟩, by split <;> omega, by split <;> omega, ?_⟩
    refine kR (fun i ρ M => M = Γ.M0 ∧ ∃ m : Int, ∃ x4, 0 ≤ m ∧ ρ = [some (.bt ns), some (.int t), some (.int c), some (.int m), x4]) ⟨rfl, _, _, by omega, rfl⟩ (fun i d ρ M N2 hd hJ BE => ?_) (fun ρ M hJ => ?_)
    · obtain ⟨rfl, m, x4, hm, rfl⟩ := hJ
      obtain ⟨rfl, hi⟩ := gK hd
      have hi : i < ns.length := by split at hi <;> omega
      simp! only [xM hi]
      exact ⟨.inr ⟨by decide, by decide⟩, by decide, by decide, BE _ _ ⟨rfl, _, _, Int.emod_nonneg _ (by decide), rfl⟩⟩
    · obtain ⟨rfl, m, x4, hm, rfl⟩ := hJ
      exact hN _ _ ⟨rfl, c, m, 0, x4, hc, hm, rfl⟩
  · rintro ρ M ⟨rfl, c, m, x, x4, hc, hm, rfl⟩
    simp! only []
    exact ⟨⟨by decide, by decide, by decide⟩, eG (fun _ => ⟨by decide, fun a ha => .inl (q a 0 m ha (by omega) hm)⟩) (fun _ => ⟨by decide, fun a ha => .inl (q a c m ha hc hm)⟩)⟩
theorem Jh (G : FnOk P w K mg base bH k f fd ps (aW P w K tb BC)) : FnOk P w K mg base bH k f fd ps (aW P w K tb G0) := G.imp fun vs H Q E hS => by
  obtain ⟨β, ds, M, Q', E', eP, ew, eK, et, m, rs, ⟨ns, t, e, h1, h2, h3, h⟩, q, qe⟩ := hS
  refine ⟨β, ds, M, fun d M' => ∃ b c m, d = .ptr b ∧ M b = none ∧ 0 ≤ c ∧ 0 ≤ m ∧ M' = aH M b (.lst [.int c, .int m]), fun _ _ => False, eP, ew, eK, et, m, rs, ⟨ns, t, e, h1, h2, h3, fun b c m h4 h5 h6 => ⟨b, c, m, rfl, h4, h5, h6, rfl⟩⟩, fun d M' v H' x r hQ => ?_, fun _ _ _ _ h => h.elim⟩
  obtain ⟨b, c, m', rfl, hb, hc, hm, rfl⟩ := hQ
  have hB := yb x.mz hc hm
  exact q _ _ _ _ (Ex.sealed hb x hB) (r.dom (ia M b _ _)) (h b hb)
noncomputable def jf : b5 := fun ds M Q _ => ∃ (b : Addr) (n : Int), ds = [.ptr b, .int n] ∧ M b = some .cO ∧ 1 ≤ n ∧ n < 1073741824 ∧ ∀ d : Nat, (d : Int) < n → Q (.int (d : Nat)) M
noncomputable def yj : b5 := fun ds M Q _ => ∃ (b : Addr) (n c m : Int), ds = [.ptr b, .int n] ∧ M b = some (.lst [.int c, .int m]) ∧ 0 ≤ c ∧ 0 ≤ m ∧ 1 ≤ n ∧ n < 1073741824 ∧ ∀ (d : Nat) (c m : Int), (d : Int) < n → 0 ≤ c → 0 ≤ m → Q (.int (d : Nat)) (aH M b (.lst [.int c, .int m]))
theorem sL (D : Df K mg "_law_take" cI ["_law_bag_here", "_law_many"] f fd) : FnOk P w K mg base bH 1 f fd ["_law_bag_here", "_law_many"] (aW P w K tb yj) := by
  refine gR D dH (fun ds M Q E hS => by obtain ⟨b, n, c, m, e, _⟩ := hS; rw [e]; rfl) fun A outer s E Γ ds Q' E' hP hw hK ht hr hS => ?_
  obtain ⟨b, n, c, m, e, hb, hc, hm, n1, n2, q⟩ := hS
  refine ⟨_, (ai (cS (bX Gg (bP (cV (K := K) rfl) (qv 0) ak (fun _ _ => rfl)) ak (cE _))
      (ai (aF (i := 2) dH.nd rfl (Or.inl rfl) (aC g7 (bP (cV (K := K) rfl) (qv 0) ak (fun _ _ => rfl)) (qv 1)))
    (ai (jC (aC xC (bP (cV (K := K) rfl) (qv 0) ak (fun _ _ => rfl)) (qv 1)) (jD (qv 0) ak))
    (aB (bo (qv 2)))))
      qss_nil)
    (ai (aF (i := 3) dH.nd rfl (Or.inl rfl) ak)
    (ai (aF (i := 4) dH.nd rfl (Or.inl rfl) ak)
    (ai (zT PassesOwn.never (bX ot (qv 4) (qv 1) (cE _))
      (ai (jC (aC g7 (aC fR (aC ly (bP (cV (K := K) rfl) (qv 0) ak (fun _ _ => rfl)) ak) ak) ak) (jD (qv 0) ak))
    (ai (aF (i := 3) dH.nd rfl (Or.inl rfl) (aC fR (aC ly (qv 3) ak) (aC g7 (aC ly (aC xC (bP (cV (K := K) rfl) (qv 0) ak (fun _ _ => rfl)) ak) ak) ak)))
    (aB (aF (i := 4) dH.nd rfl (Or.inl rfl) (aC ly (qv 4) ak))))))
    (aB (bo (aC g7 (qv 3) (qv 1)))))))), ?_⟩
  subst e
  have OM : ∀ x y : Int, cq [Dv.int x, Dv.int y] 1 = some (.int y) := fun x y => cu (j := 1) rfl
  have OO : gE 2 0 = some 0 := rfl
  have OQ : gE 2 1 = some 1 := rfl
  have fin : ∀ {i c m : Int} {M : Mh}, 0 ≤ c → 0 ≤ m → M = aH Γ.M0 b (.lst [.int c, .int m]) → jn Γ.M0 Q' (.int (i % n)) M := fun {i c m M} hc hm e => by
    obtain ⟨d, hd⟩ := Int.eq_ofNat_of_zero_le (Int.emod_nonneg i (show n ≠ 0 by omega))
    have := Int.emod_lt_of_pos i (show 0 < n by omega)
    rw [hd, e]
    exact .inl (q d c m (by omega) hc hm)
  simp! only [hb, OO]
  refine eG (fun h => ?_) (fun h => ?_)
  · refine ⟨by omega, ⟨by omega, n2⟩, fin (Int.ediv_nonneg hc (by omega)) hm rfl⟩
  · refine ⟨fun k ρ M => ∃ num room c m x2, 0 ≤ num ∧ 1 ≤ room ∧ 0 ≤ c ∧ 0 ≤ m ∧ k = (n - room).toNat ∧ ρ = [some (.ptr b), some (.int n), x2, some (.int num), some (.int room)] ∧ M = aH Γ.M0 b (.lst [.int c, .int m]), ⟨_, 0, 1, c, m, _, by omega, by omega, hc, hm, rfl, rfl, (ug hb).symm⟩, ?_⟩
    rintro k ρ M ⟨num, room, c, m, x2, h1, h2, hc, hm, rfl, rfl, rfl⟩
    simp! only [OM, OQ, updM_same]
    refine eG (fun h => ?_) (fun h => ⟨by omega, fin hc hm rfl⟩)
    have h := of_decide_eq_true h
    have m3 : 0 ≤ (m * 48271 + 7919) % 2147483647 := Int.emod_nonneg _ (by decide)
    have n3 : 0 ≤ (m * 48271 + 7919) % 2147483647 / 8 * 69621 % 1073741789 := Int.emod_nonneg _ (by decide)
    refine ⟨.inr ⟨by decide, by decide⟩, by decide, .inr ⟨by decide, by decide⟩, ⟨by decide, by decide⟩, .inr ⟨by decide, by decide⟩, by decide, .inr ⟨by decide, by decide⟩, _, ?_, _, _, c, _, _, ?_, ?_, hc, m3, rfl, rfl, rfl⟩ <;> omega
theorem G1 (G : FnOk P w K mg base bH k f fd ps (aW P w K tb yj)) : FnOk P w K mg base bH k f fd ps (aW P w K tb jf) := G.imp fun vs H Q E hS => by
  obtain ⟨β, ds, M, Q', E', eP, ew, eK, et, m, rs, ⟨b, n, e, hb, h1, h2, h⟩, q, qe⟩ := hS
  have eM := ug hb
  have d1 : ∀ o a, (M a).isSome = (aH M b o a).isSome := fun o a => by have := ia M b .cO o a; rwa [eM] at this
  rw [← eM] at m
  obtain ⟨c, m0, hc, hm, hO⟩ := GW m
  refine ⟨β, ds, aH M b (.lst [.int c, .int m0]), fun d M' => ∃ (k : Nat) (c' m' : Int), d = .int (k : Nat) ∧ (k : Int) < n ∧ 0 ≤ c' ∧ 0 ≤ m' ∧ M' = aH M b (.lst [.int c', .int m']), fun _ _ => False, eP, ew, eK, et, m.chg hO, ⟨rs.len, fun i v d x y => (rs.at' i v d x y).dom (d1 _)⟩, ⟨b, n, c, m0, e, updM_same, hc, hm, h1, h2, fun d c' m' h3 h4 h5 => ⟨d, c', m', rfl, h3, h4, h5, updM_updM⟩⟩, fun d M' v H' x r hQ => ?_, fun _ _ _ _ h => h.elim⟩
  obtain ⟨k, c', m', rfl, hk, A9, nh, rfl⟩ := hQ
  have hB := yb x.mz A9 nh
  have x2 := Ex.chg (o2 := .cO) x hB
  rw [eM] at x2
  exact q _ _ _ _ x2 (r.dom fun a => (d1 _ a).symm) (h k hk)
theorem pN {α β : Type} (f : α → β) : ∀ (l : List α) (i : Nat), (l.map f).eraseIdx i = (l.eraseIdx i).map f
  | [], _ => rfl
  | _ :: _, 0 => rfl
  | a :: l, i + 1 => by
    show f a :: (l.map f).eraseIdx i = f a :: (l.eraseIdx i).map f
    rw [pN f l i]
theorem g5 {α : Type} : ∀ (l : List α) (i : Nat) (h : i < l.length), (l[i] :: l.eraseIdx i).Perm l
  | a :: l, 0, _ => .refl _
  | a :: l, i + 1, h => by
    have h' : i < l.length := by simpa using h
    show (l[i] :: a :: l.eraseIdx i).Perm (a :: l)
    exact (List.Perm.swap a l[i] _).trans ((g5 l i h').cons a)
structure ej (n : Nat) (os : List Int) : Prop where
  perm : os.Perm ((List.range n).map fun i : Nat => (i : Int))
theorem ej.len {n : Nat} {os : List Int} (h : ej n os) : os.length = n := by
  have := h.perm.length_eq
  simpa using this
theorem ej.mem {n : Nat} {os : List Int} (h : ej n os) {x : Int} (hx : x ∈ os) : 0 ≤ x ∧ x < n := by
  have := h.perm.mem_iff.mp hx
  obtain ⟨i, hi, rfl⟩ := List.mem_map.mp this
  have := List.mem_range.mp hi
  omega
theorem ej.at {n : Nat} {os : List Int} (h : ej n os) {i : Nat} (hi : i < n) : ∃ x : Int, cq (os.map Dv.int) (i : Int) = some (.int x) ∧ 0 ≤ x ∧ x < n := by
  have hl : i < os.length := by rw [h.len]; exact hi
  exact ⟨os[i], cu (by rw [List.getElem?_map, List.getElem?_eq_getElem hl]; rfl), h.mem (List.getElem_mem hl)⟩
noncomputable def yk : b5 := fun ds M Q _ => ∃ (b : Addr) (n : Nat), ds = [.ptr b, .int (n : Nat)] ∧ M b = some .cO ∧ n ≤ 100 ∧ ∀ os, ej n os → Q (jb os) M
noncomputable def BF : b5 := fun ds M Q _ => ∃ (b : Addr) (most : Nat), ds = [.ptr b, .int (most : Nat)] ∧ M b = some .cO ∧ 1 ≤ most ∧ most ≤ 9 ∧ ∀ aq n, gu aq n → aq.length ≤ most → Q (eN aq) M
theorem Di {n d : Nat} (h : d < n) : seqIndex? (d : Int) n = some d := (n6 (n := n) (i := (d : Int)) (j := d) (by unfold gE; rw [if_pos (by omega), if_pos (by omega)]; rfl)).1
theorem rX {f1 : Addr} {bp : FuncData} (D : Df K mg "_law_order" eH ["_law_bag_here", "_law_many"] f fd)
    (af : Df K mg "_law_take" cI ["_law_bag_here", "_law_many"] f1 bp) (aP : FnOk P w K mg base bH 1 f1 bp ["_law_bag_here", "_law_many"] (aW P w K tb jf)) (bl : Bl mg) : FnOk P w K mg base bH 2 f fd ["_law_bag_here", "_law_many"] (aW P w K tb yk) := by
  refine gR D ke (fun ds M Q E hS => by obtain ⟨b, n, e, _⟩ := hS; rw [e]; rfl) fun A outer s E Γ ds Q' E' hP hw hK ht hr hS => ?_
  obtain ⟨b, n, e, hb, hn, q⟩ := hS
  refine ⟨_, (ai (aF (i := 2) ke.nd rfl (Or.inr rfl) (p0 rfl rfl bl.list_ rfl bl.range_ (qv 1)))
    (aB (bo (eh (N' := ["_law_k", "_law_free", "_law_bag_here", "_law_many"]) (tn := 1) (idx := [2, 0, 1]) rfl (show aL ["_law_bag_here", "_law_many", "_law_free"] (ah eH) _ ["_law_k", "_law_free", "_law_bag_here", "_law_many"] 1 [2, 0, 1] from by decide +kernel) (de rfl bl.range_ (aa (qv 1) ae)) (fun _ _ _ _ _ => (bE (i := 0) (show List.Nodup [("_law_k" : Str), ("_law_free" : Str), ("_law_bag_here" : Str), ("_law_many" : Str)] from by decide +kernel) rfl (Or.inl rfl))) (fun _ _ _ _ _ => cJ) (fun _ _ _ _ _ => (lB (K := K) rfl PySem.F.plainAttrs_list PySem.F.slot_list_pop PySem.F.type_list_pop CY (qv 1) (aa (aI aP (hr.mono (by decide)) rfl af.mg af.fn.kp af.bd bh hP hw hK ht XR.none (aa (qv 2) (aa (aC uV (qv 3) (qv 0)) ae))) ae))))))), ?_⟩
  subst e
  simp! only []
  refine ⟨by omega, by omega, fun a ha => ⟨by omega, by omega, ?_⟩⟩
  have OS : b ≠ a := fun z => by rw [z, ha] at hb; cases hb
  refine ⟨Nat.lt_of_le_of_lt hn (by decide), fy (acc := []) (fun acc τ M => ∃ rest got : List Int, acc = got.map Dv.int ∧ (∃ x, τ = [x, some (.ptr a), some (.ptr b), some (.int (n : Nat))]) ∧ M a = some (.lst (rest.map .int)) ∧ (∀ c, c ≠ a → M c = Γ.M0 c) ∧ (got ++ rest).Perm ((List.range n).map fun i : Nat => (i : Int))) ⟨(List.range n).map fun i : Nat => (i : Int), [], rfl, ⟨_, rfl⟩, by rw [updM_same, iJ, List.map_map]; rfl, fun c hc => au hc, .refl _⟩ (fun i d acc τ M hd hl ⟨rest, got, e1, ⟨x, e2⟩, h1, h2, h3⟩ R hR => ?_) (fun ys τ M hl ⟨rest, got, e1, ⟨x, e2⟩, h1, h2, h3⟩ => ?_)⟩
  · subst e1 e2
    obtain ⟨rfl, hi⟩ := gK hd
    have hlen : got.length + rest.length = n := by have := h3.length_eq; simpa using this
    have hl : got.length = i := by simpa using hl
    simp! only []
    refine ⟨by rw [h1]; trivial, b, _, rfl, (by rw [h2 b OS]; exact hb), by omega, by omega, fun d hd => ?_⟩
    have G2 : d < rest.length := by omega
    simp only [h1, List.length_map, Di G2, List.getElem?_map, List.getElem?_eq_getElem G2, Option.map_some]
    refine ⟨by omega, by omega, hR _ _ _ ⟨rest.eraseIdx d, got ++ [rest[d]], by rw [List.map_append]; rfl, ⟨_, rfl⟩, by rw [updM_same, pN], fun c hc => by rw [au hc]; exact h2 c hc, ?_⟩⟩
    refine List.Perm.trans ?_ h3
    rw [List.append_assoc]
    exact List.Perm.append_left got (g5 rest d G2)
  · simp only [List.nil_append] at e1
    subst e1
    have hlen : got.length + rest.length = n := by have := h3.length_eq; simpa using this
    have hl : got.length = n := by simpa [rangeD_len] using hl
    have OT : rest = [] := List.eq_nil_of_length_eq_zero (by omega)
    rw [OT, List.append_nil] at h3
    exact pJ (fun c o e => by rw [h2 c (fun z => by rw [z, ha] at e; cases e)]; exact e) (.lst (gf _)) (q got ⟨h3⟩)
end
section
variable {P : Program} {w : World} {K : PySem.W.Frag} {mg : Str → Option Value} {base : Heap} {tb : b0}
noncomputable def eZ (n ways : Nat) (row : List Int) : Prop := row.length = ways ∧ ∀ x ∈ row, 0 ≤ x ∧ x < (n : Int)
structure cz (M0 M : Mh) (r : Addr) (as : List Addr) (n ways : Nat) : Prop where
  kp : Keeps M0 M
  r0 : M0 r = none
  rm : M r = some (.lst (as.map .ptr))
  fr : ∀ a ∈ as, M0 a = none ∧ a ≠ r
  len : as.length = n
  row : ∀ a ∈ as, ∃ row : List Int, M a = some (.lst (row.map .int)) ∧ eZ n ways row
  pin : ∀ b o, M b = some o → M0 b = some o ∨ b = r ∨ (∃ row : List Int, o = .lst (row.map .int)) ∨ ∃ bs : List Addr, o = .lst (bs.map .ptr) ∧ ∀ c ∈ bs, c ≠ r ∧ ∃ o, M c = some o
theorem cz.G3 {M0 M : Mh} {r : Addr} {as : List Addr} {n ways : Nat} (h : cz M0 M r as n ways) {a : Addr} (ha : a ∈ as) {row : List Int} (o : eZ n ways row) : cz M0 (aH M a (.lst (row.map .int))) r as n ways := by
  obtain ⟨f0, f1⟩ := h.fr a ha
  refine ⟨.upd f0 h.kp, h.r0, by rw [au (Ne.symm f1)]; exact h.rm, h.fr, h.len, fun c hc => ?_, fun b u e => ?_⟩
  · by_cases z : c = a
    · subst z; exact ⟨row, updM_same, o⟩
    · rw [au z]; exact h.row c hc
  · by_cases z : b = a
    · subst z; rw [updM_same] at e; cases e; exact .inr (.inr (.inl ⟨row, rfl⟩))
    · rw [au z] at e
      rcases h.pin b u e with q | q | q | ⟨bs, q1, q2⟩
      · exact .inl q
      · exact .inr (.inl q)
      · exact .inr (.inr (.inl q))
      · refine .inr (.inr (.inr ⟨bs, q1, fun c hc => ⟨(q2 c hc).1, ?_⟩⟩))
        by_cases z : c = a
        · subst z; exact ⟨_, updM_same⟩
        · rw [au z]; exact (q2 c hc).2
theorem cz.put {M0 M : Mh} {r : Addr} {as : List Addr} {n ways : Nat} (h : cz M0 M r as n ways) {a : Addr} (ha : M a = none) {row : List Int} (o : eZ n ways row) {i : Nat} (hi : i < n) : cz M0 (aH (aH M a (.lst (row.map .int))) r (.lst ((as.map .ptr).set i (.ptr a)))) r (as.set i a) n ways := by
  have nr : a ≠ r := fun z => by rw [z, h.rm] at ha; cases ha
  have a0 : M0 a = none := by
    cases e : M0 a with
    | none => rfl
    | some u => rw [h.kp a u e] at ha; cases ha
  have OU : a ∉ as := fun z => by obtain ⟨row, e, _⟩ := h.row a z; rw [ha] at e; cases e
  refine ⟨.upd h.r0 (.upd a0 h.kp), h.r0, by rw [updM_same, List.map_set], fun c hc => ?_, by rw [List.length_set]; exact h.len, fun c hc => ?_, fun b u e => ?_⟩
  · rcases List.mem_or_eq_of_mem_set hc with z | z
    · exact h.fr c z
    · rw [z]; exact ⟨a0, nr⟩
  · rcases List.mem_or_eq_of_mem_set hc with z | z
    · have n1 := (h.fr c z).2
      have n2 : c ≠ a := fun e => OU (e ▸ z)
      rw [au n1, au n2]; exact h.row c z
    · rw [z, au nr, updM_same]; exact ⟨row, rfl, o⟩
  · by_cases z : b = r
    · exact .inr (.inl z)
    · rw [au z] at e
      by_cases z2 : b = a
      · subst z2; rw [updM_same] at e; cases e; exact .inr (.inr (.inl ⟨row, rfl⟩))
      · rw [au z2] at e
        rcases h.pin b u e with q | q | q | ⟨bs, q1, q2⟩
        · exact .inl q
        · exact .inr (.inl q)
        · exact .inr (.inr (.inl q))
        · refine .inr (.inr (.inr ⟨bs, q1, fun c hc => ⟨(q2 c hc).1, ?_⟩⟩))
          rw [au (q2 c hc).1]
          by_cases z : c = a
          · subst z; exact ⟨_, updM_same⟩
          · rw [au z]; exact (q2 c hc).2
structure iQ (M0 M : Mh) : Prop where
  kp : Keeps M0 M
  pin : ∀ b o, M b = some o → M0 b = some o ∨ (∃ row : List Int, o = .lst (row.map .int)) ∨ ∃ bs : List Addr, o = .lst (bs.map .ptr) ∧ ∀ c ∈ bs, ∃ o, M c = some o
theorem iQ.refl {M0 : Mh} : iQ M0 M0 := ⟨.refl, fun b o e => .inl e⟩
theorem hV {M0 M : Mh} (h : Keeps M0 M) {a : Addr} (ha : M a = none) : M0 a = none := by
  cases e : M0 a with
  | none => rfl
  | some u => rw [h a u e] at ha; cases ha
theorem iQ.row {M0 M : Mh} (h : iQ M0 M) {a : Addr} (ha : M a = none) (row : List Int) : iQ M0 (aH M a (.lst (row.map .int))) := by
  refine ⟨.upd (hV h.kp ha) h.kp, fun b o e => ?_⟩
  by_cases z : b = a
  · subst z; rw [updM_same] at e; cases e; exact .inr (.inl ⟨row, rfl⟩)
  · rw [au z] at e
    rcases h.pin b o e with q | q | ⟨bs, q1, q2⟩
    · exact .inl q
    · exact .inr (.inl q)
    · refine .inr (.inr ⟨bs, q1, fun c hc => ?_⟩)
      by_cases z : c = a
      · subst z; exact ⟨_, updM_same⟩
      · rw [au z]; exact q2 c hc
theorem cz.own {M0 M : Mh} {r : Addr} {as : List Addr} {n ways : Nat} (h : cz M0 M r as n ways) : iQ M0 M := ⟨h.kp, fun b o e => by
  rcases h.pin b o e with q | q | q | ⟨bs, q1, q2⟩
  · exact .inl q
  · subst q; rw [h.rm] at e; cases e
    exact .inr (.inr ⟨as, rfl, fun c hc => let ⟨row, e, _⟩ := h.row c hc; ⟨_, e⟩⟩)
  · exact .inr (.inl q)
  · exact .inr (.inr ⟨bs, q1, fun c hc => (q2 c hc).2⟩)⟩
theorem cz.mk' {M0 M : Mh} {r : Addr} {as : List Addr} {n ways : Nat} (h : iQ M0 M) (hr : M r = none) (hl : as.length = n) (ha : ∀ a ∈ as, M0 a = none ∧ ∃ row : List Int, M a = some (.lst (row.map .int)) ∧ eZ n ways row) : cz M0 (aH M r (.lst (as.map .ptr))) r as n ways := by
  have ne : ∀ {c o}, M c = some o → c ≠ r := fun e z => by rw [z, hr] at e; cases e
  refine ⟨.upd (hV h.kp hr) h.kp, hV h.kp hr, updM_same, fun a h => ?_, hl, fun a h => ?_, fun b o e => ?_⟩
  · obtain ⟨h0, row, e, _⟩ := ha a h
    exact ⟨h0, ne e⟩
  · obtain ⟨h0, row, e, o⟩ := ha a h
    exact ⟨row, by rw [au (ne e)]; exact e, o⟩
  · by_cases z : b = r
    · exact .inr (.inl z)
    · rw [au z] at e
      rcases h.pin b o e with q | q | ⟨bs, q1, q2⟩
      · exact .inl q
      · exact .inr (.inr (.inl q))
      · refine .inr (.inr (.inr ⟨bs, q1, fun c hc => ?_⟩))
        obtain ⟨u, e⟩ := q2 c hc
        exact ⟨ne e, u, by rw [au (ne e)]; exact e⟩
theorem qt {g : cx} {te : aQ} {n : Nat} {M1 : Mh} (T : av → Prop) {ds : List Dv} {τ : av} {Q : List Dv → Mh → Prop} (h0 : T τ) (h : ∀ d ∈ ds, ∀ τ, T τ → ∀ R : av → ZK, (∀ (x : Int) aE, 0 ≤ x → x < (n : Int) → T aE → R aE (.int x) M1) → g d τ M1 fun aE M2 => te aE M2 (R aE)) (q : ∀ row : List Int, row.length = ds.length → (∀ x ∈ row, 0 ≤ x ∧ x < (n : Int)) → Q (row.map .int) M1) : fQ g zNoIf te ds τ M1 Q := by
  refine fy (acc := []) (fun acc τ M => ∃ row : List Int, acc = row.map Dv.int ∧ (∀ x ∈ row, 0 ≤ x ∧ x < (n : Int)) ∧ T τ ∧ M = M1) ⟨[], rfl, (fun _ h => nomatch h), h0, rfl⟩ (fun i d acc τ M hd _ ⟨row, e1, hr, ht, e2⟩ R hR => ?_) (fun ys τ M hl ⟨row, e1, hr, ht, e2⟩ => ?_)
  · subst e1 e2
    refine h d (List.mem_of_getElem? hd) τ ht R fun x aE x0 x1 t2 => hR _ _ _ ⟨row ++ [x], by rw [List.map_append]; rfl, fun y hy => ?_, t2, rfl⟩
    rcases List.mem_append.mp hy with z | z
    · exact hr y z
    · rw [List.mem_singleton] at z; rw [z]; exact ⟨x0, x1⟩
  · rw [List.nil_append] at e1
    subst e1 e2
    exact q row (by simpa using hl) hr
noncomputable def dI (x : Option Dv) : Prop := ∀ M d, x = some d → Pin M d
theorem dI.none : dI none := fun _ _ h => nomatch h
theorem dI.int (i : Int) : dI (some (.int i)) := fun _ _ h => by cases h; exact .int i
theorem dI.lI (ns : List Int) : dI (some (jb ns)) := fun _ _ h => by cases h; exact .lst (gf ns)
theorem pO {M0 M : Mh} {as : List Addr} {n ways : Nat} {T : Prop} (hO : iQ M0 M) (ha : ∀ a ∈ as, M0 a = none ∧ ∃ row : List Int, M a = some (.lst (row.map .int)) ∧ eZ n ways row) {a : Addr} (h : M a = none) {row : List Int} (o : eZ n ways row) (t : T) :
    ∃ Kz : List Addr, as.map Dv.ptr ++ [Dv.ptr a] = Kz.map Dv.ptr ∧ T ∧ iQ M0 (aH M a (.lst (row.map .int))) ∧ ∀ c ∈ Kz, M0 c = none ∧ ∃ vj : List Int, aH M a (.lst (row.map .int)) c = some (.lst (vj.map .int)) ∧ eZ n ways vj := by
  refine ⟨as ++ [a], by rw [List.map_append]; rfl, t, hO.row h row, fun c hc => ?_⟩
  rcases List.mem_append.mp hc with z | z
  · obtain ⟨h0, vj, e, o'⟩ := ha c z
    have ne : c ≠ a := fun q => by rw [q, h] at e; cases e
    exact ⟨h0, vj, by rw [au ne]; exact e, o'⟩
  · rw [List.mem_singleton] at z
    subst z
    exact ⟨hV hO.kp h, row, updM_same, o⟩
theorem lJ {n d : Nat} (h : d < n) : gE n (d : Int) = some d := by unfold gE; rw [if_pos (by omega), if_pos (by omega)]; rfl
theorem rY (row : List Int) (t : Nat) (x : Int) : (row.map Dv.int).set t (.int x) = (row.set t x).map Dv.int := by rw [List.map_set]
theorem eZ.set {n ways : Nat} {row : List Int} (h : eZ n ways row) {t : Nat} {x : Int} (x0 : 0 ≤ x) (x1 : x < (n : Int)) : eZ n ways (row.set t x) := ⟨by rw [List.length_set]; exact h.1, fun y hy => by
  rcases List.mem_or_eq_of_mem_set hy with z | z
  · exact h.2 y z
  · rw [z]; exact ⟨x0, x1⟩⟩
noncomputable def nN (os : List Int) : Dv → Int | .int j => os.getD j.toNat 0 | _ => 0
theorem rZ {os : List Int} {j : Nat} {x : Int} (h : cq (os.map Dv.int) (j : Int) = some (.int x)) : nN os (.int (j : Nat)) = x := by
  by_cases hj : j < os.length
  · rw [cu (j := j) (v := Dv.int os[j]) (by rw [List.getElem?_map, List.getElem?_eq_getElem hj]; rfl)] at h
    cases h
    show os.getD (Int.toNat (j : Int)) 0 = _
    rw [Int.toNat_natCast, List.getD_eq_getElem?_getD, List.getElem?_eq_getElem hj]; rfl
  · unfold cq gE at h
    rw [if_pos (by omega), if_neg (by simp; omega)] at h
    cases h
noncomputable def Af (per i : Nat) : Dv → Bool | .int j => decide (j % (per : Int) = ((i : Int) + 1) % (per : Int)) | _ => false
theorem Ag {n per i : Nat} {os : List Int} (fJ : ej n os) (p1 : 1 ≤ per) (pn : per ≤ n) : ∃ gs : List Int, ((dF 0 n).filter (Af per i)).map (fun d => Dv.int (nN os d)) = gs.map Dv.int ∧ 1 ≤ gs.length ∧ gs.length ≤ n ∧ ∀ x ∈ gs, 0 ≤ x ∧ x < (n : Int) := by
  refine ⟨((dF 0 n).filter (Af per i)).map (nN os), by rw [List.map_map]; rfl, ?_, ?_, fun x hx => ?_⟩
  · rw [List.length_map]
    refine List.length_pos_of_mem (a := Dv.int (((i + 1) % per : Nat) : Int)) (List.mem_filter.mpr ⟨?_, ?_⟩)
    · have : (i + 1) % per < per := Nat.mod_lt _ (by omega)
      exact List.mem_of_getElem? (i := (i + 1) % per) (by rw [dF, List.getElem?_map, List.getElem?_range (by omega)]; simp)
    · show decide _ = true
      rw [decide_eq_true_eq]
      push_cast
      exact Int.emod_emod_of_dvd _ (Int.dvd_refl _)
  · rw [List.length_map]
    exact Nat.le_trans (List.length_filter_le _ _) (by rw [rangeD_len]; exact Nat.le_refl _)
  · obtain ⟨d, hd, rfl⟩ := List.mem_map.mp hx
    obtain ⟨j, hj, rfl⟩ := nG (List.mem_filter.mp hd).1
    rw [Int.zero_add]
    obtain ⟨gx, mj, g0, g1⟩ := fJ.at hj
    rw [rZ mj]
    exact ⟨g0, g1⟩
theorem vk {f f1 f2 : Addr} {fd bp fd2 : FuncData} (D : Df K mg "_law_net" bV ["_law_bag_here", "_law_most"] f fd)
    (af : Df K mg "_law_take" cI ["_law_bag_here", "_law_many"] f1 bp) (aP : FnOk P w K mg base bH 1 f1 bp ["_law_bag_here", "_law_many"] (aW P w K tb jf))
    (bW : Df K mg "_law_order" eH ["_law_bag_here", "_law_many"] f2 fd2) (k8 : FnOk P w K mg base bH 2 f2 fd2 ["_law_bag_here", "_law_many"] (aW P w K tb yk)) (bl : Bl mg) : FnOk P w K mg base bH 3 f fd ["_law_bag_here", "_law_most"] (aW P w K tb BF) := by
  refine gR D bg (fun ds M Q E hS => by obtain ⟨b, n, e, _⟩ := hS; rw [e]; rfl) fun A outer s E Γ ds Q' E' hP hw hK ht hr hS => ?_
  obtain ⟨b, most, e, hb, h1, h9, q⟩ := hS
  refine ⟨_, (ai (aF (i := 2) bg.nd rfl (Or.inr rfl) (aC fR ak (aI aP (hr.mono (by decide)) rfl af.mg af.fn.kp af.bd bh hP hw hK ht XR.none (aa (qv 0) (aa (qv 1) ae)))))
    (ai (aF (i := 3) bg.nd rfl (Or.inr rfl) (aC fR ak (aI aP (hr.mono (by decide)) rfl af.mg af.fn.kp af.bd bh hP hw hK ht XR.none (aa (qv 0) (aa ak ae)))))
    (ai (aF (i := 4) bg.nd rfl (Or.inl rfl) (aI aP (hr.mono (by decide)) rfl af.mg af.fn.kp af.bd bh hP hw hK ht XR.none (aa (qv 0) (aa ak ae))))
    (ai (sF (i := 5) bg.nd rfl rfl (N' := ["_law_place", "_law_bag_here", "_law_many", "_law_ways"]) (tn := 1) (idx := [0, 2, 3]) rfl (show aL ["_law_bag_here", "_law_most", "_law_many", "_law_ways", "_law_kind_here", "_law_rows", "_law_order_here", "_law_period", "_law_stays", "_law_k", "_law_place", "_law_onward", "_law_goals", "_law_turns"] (ah bV) _ ["_law_place", "_law_bag_here", "_law_many", "_law_ways"] 1 [0, 2, 3] from by decide +kernel) (de rfl bl.range_ (aa (qv 2) ae)) (fun _ _ _ _ _ => (bE (i := 0) (show List.Nodup [("_law_place" : Str), ("_law_bag_here" : Str), ("_law_many" : Str), ("_law_ways" : Str)] from by decide +kernel) rfl (Or.inl rfl))) (fun _ _ _ _ _ => cJ) (fun _ _ _ _ _ => (iI (N' := ["_law_road", "_law_bag_here", "_law_many"]) (tn := 1) (idx := [1, 2]) rfl (aL.rel (show aL ["_law_place", "_law_bag_here", "_law_many", "_law_ways"] _ _ ["_law_road", "_law_bag_here", "_law_many"] 1 [1, 2] from by decide +kernel)) (de rfl bl.range_ (aa (qv 3) ae)) (fun _ _ _ _ _ => (bE (i := 0) (show List.Nodup [("_law_road" : Str), ("_law_bag_here" : Str), ("_law_many" : Str)] from by decide +kernel) rfl (Or.inl rfl))) (fun _ _ _ _ _ => cJ) (fun _ _ _ _ _ => (aI aP (hr.mono (by decide)) rfl af.mg af.fn.kp af.bd bh hP hw hK ht XR.none (aa (qv 1) (aa (qv 2) ae)))))))
    (ai (aF (i := 6) bg.nd rfl (Or.inr rfl) (aI k8 (hr.mono (by decide)) rfl bW.mg bW.fn.kp bW.bd bh hP hw hK ht XR.none (aa (qv 0) (aa (qv 2) ae))))
    (ai (aF (i := 7) bg.nd rfl (Or.inr rfl) (aC fR ak (aI aP (hr.mono (by decide)) rfl af.mg af.fn.kp af.bd bh hP hw hK ht XR.none (aa (qv 0) (aa (qv 2) ae)))))
    (ai (aF (i := 8) bg.nd rfl (Or.inr rfl) (aI aP (hr.mono (by decide)) rfl af.mg af.fn.kp af.bd bh hP hw hK ht XR.none (aa (qv 0) (aa ak ae))))
    (ai (nD PassesOwn.never rfl (CZ true (K := K) rfl rfl bl.enumerate_ (qv 6)) (fun BD eP ew eK et => by have hP := hP.trans eP.symm; have hw := hw.trans ew.symm; have hK := hK.trans eK.symm; have ht := ht.trans et.symm; exact ⟨(F8 (n := 2) rfl (rD (bE (i := 9) bg.nd rfl (Or.inr rfl)) (rD (bE (i := 10) bg.nd rfl (Or.inr rfl)) CO))), (ai (aF (i := 11) bg.nd rfl (Or.inr rfl) (bP (cV (K := K) rfl) (qv 6) (aC g7 (aC fR (qv 9) ak) (qv 2)) (fun _ _ => rfl)))
    (ai (cS (rC ot ot ak (qv 4) ak)
      (aB (jC (qv 11) (jD (bP (cV (K := K) rfl) (qv 5) (qv 10) (fun _ _ => rfl)) (aI aP (hr.mono (by decide)) rfl af.mg af.fn.kp af.bd bh hP hw hK ht XR.none (aa (qv 0) (aa (qv 3) ae))))))
      qss_nil)
    (ai (cS (bX mC (qv 4) ak (cE _))
      (ai (aF (i := 12) bg.nd rfl (Or.inr rfl) (eh (N' := ["_law_j", "_law_order_here", "_law_period", "_law_k"]) (tn := 1) (idx := [6, 7, 9]) rfl (show aL ["_law_bag_here", "_law_most", "_law_many", "_law_ways", "_law_kind_here", "_law_rows", "_law_order_here", "_law_period", "_law_stays", "_law_k", "_law_place", "_law_onward", "_law_goals", "_law_turns"] (ah bV) _ ["_law_j", "_law_order_here", "_law_period", "_law_k"] 1 [6, 7, 9] from by decide +kernel) (de rfl bl.range_ (aa (qv 2) ae)) (fun _ _ _ _ _ => (bE (i := 0) (show List.Nodup [("_law_j" : Str), ("_law_order_here" : Str), ("_law_period" : Str), ("_law_k" : Str)] from by decide +kernel) rfl (Or.inl rfl))) (fun _ _ _ _ _ => (CT (bX mC (aC g7 (qv 0) (qv 2)) (aC g7 (aC fR (qv 3) ak) (qv 2)) (cE _)))) (fun _ _ _ _ _ => (bP (cV (K := K) rfl) (qv 1) (qv 0) (fun _ _ => rfl)))))
    (aB (jC (iI (N' := ["_law_road", "_law_goals", "_law_bag_here"]) (tn := 1) (idx := [12, 0]) rfl (show aL ["_law_bag_here", "_law_most", "_law_many", "_law_ways", "_law_kind_here", "_law_rows", "_law_order_here", "_law_period", "_law_stays", "_law_k", "_law_place", "_law_onward", "_law_goals", "_law_turns"] (ah bV) _ ["_law_road", "_law_goals", "_law_bag_here"] 1 [12, 0] from by decide +kernel) (de rfl bl.range_ (aa (qv 3) ae)) (fun _ _ _ _ _ => (bE (i := 0) (show List.Nodup [("_law_road" : Str), ("_law_goals" : Str), ("_law_bag_here" : Str)] from by decide +kernel) rfl (Or.inl rfl))) (fun _ _ _ _ _ => cJ) (fun _ _ _ _ _ => (bP (cV (K := K) rfl) (qv 1) (aI aP (hr.mono (by decide)) rfl af.mg af.fn.kp af.bd bh hP hw hK ht XR.none (aa (qv 2) (aa (aw (eC (K := K) rfl hK) rfl bl.len_ PySem.boot_len (aa (qv 1) ae)) ae))) (fun _ _ => rfl)))) (jD (qv 5) (qv 10)))))
      qss_nil)
    (aB (cS (bX mC (qv 4) ak (cE _))
      (aB (jC (aC (Dc (K := K) rfl) (bT (aa (qv 11) ae)) (eh (N' := ["_law_road", "_law_stays", "_law_onward", "_law_place"]) (tn := 1) (idx := [8, 11, 10]) rfl (show aL ["_law_bag_here", "_law_most", "_law_many", "_law_ways", "_law_kind_here", "_law_rows", "_law_order_here", "_law_period", "_law_stays", "_law_k", "_law_place", "_law_onward", "_law_goals", "_law_turns"] (ah bV) _ ["_law_road", "_law_stays", "_law_onward", "_law_place"] 1 [8, 11, 10] from by decide +kernel) (xx rfl bl.range_ (aa ak (aa (qv 3) ae))) (fun _ _ _ _ _ => (bE (i := 0) (show List.Nodup [("_law_road" : Str), ("_law_stays" : Str), ("_law_onward" : Str), ("_law_place" : Str)] from by decide +kernel) rfl (Or.inl rfl))) (fun _ _ _ _ _ => cJ) (fun _ _ _ _ _ => (bP (cV (K := K) rfl) (bT (aa (qv 2) (aa (qv 3) ae))) (qv 1) (fun _ _ => rfl))))) (jD (qv 5) (qv 10))))
      qss_nil)))))⟩))
    (ai (cS (bX mC (qv 4) ak (cE _))
      (ai (aF (i := 13) bg.nd rfl (Or.inr rfl) (eh (N' := ["_law_road", "_law_bag_here", "_law_many"]) (tn := 1) (idx := [0, 2]) rfl (show aL ["_law_bag_here", "_law_most", "_law_many", "_law_ways", "_law_kind_here", "_law_rows", "_law_order_here", "_law_period", "_law_stays", "_law_k", "_law_place", "_law_onward", "_law_goals", "_law_turns"] (ah bV) _ ["_law_road", "_law_bag_here", "_law_many"] 1 [0, 2] from by decide +kernel) (de rfl bl.range_ (aa (qv 3) ae)) (fun _ _ _ _ _ => (bE (i := 0) (show List.Nodup [("_law_road" : Str), ("_law_bag_here" : Str), ("_law_many" : Str)] from by decide +kernel) rfl (Or.inl rfl))) (fun _ _ _ _ _ => cJ) (fun _ _ _ _ _ => (aI k8 (hr.mono (by decide)) rfl bW.mg bW.fn.kp bW.bd bh hP hw hK ht XR.none (aa (qv 1) (aa (qv 2) ae))))))
    (aB (rR (i := 5) bg.nd rfl rfl (N' := ["_law_place", "_law_turns"]) (tn := 1) (idx := [13]) rfl (show dj ["_law_bag_here", "_law_most", "_law_many", "_law_ways", "_law_kind_here", "_law_rows", "_law_order_here", "_law_period", "_law_stays", "_law_k", "_law_place", "_law_onward", "_law_goals", "_law_turns"] (ah bV) _ ["_law_place", "_law_turns"] 1 [13] from by decide +kernel) (de rfl bl.range_ (aa (qv 2) ae)) (fun _ _ _ _ _ => (bE (i := 0) (show List.Nodup [("_law_place" : Str), ("_law_turns" : Str)] from by decide +kernel) rfl (Or.inr rfl))) (fun _ _ _ _ _ => cJ) (fun _ _ _ _ _ => (iI (N' := ["_law_turn", "_law_place"]) (tn := 1) (idx := [0]) rfl (aL.rel (show aL ["_law_place", "_law_turns"] _ _ ["_law_turn", "_law_place"] 1 [0] from by decide +kernel)) (oo (K := K) rfl (qv 1)) (fun _ _ _ _ _ => (bE (i := 0) (show List.Nodup [("_law_turn" : Str), ("_law_place" : Str)] from by decide +kernel) rfl (Or.inl rfl))) (fun _ _ _ _ _ => cJ) (fun _ _ _ _ _ => (bP (cV (K := K) rfl) (qv 0) (qv 1) (fun _ _ => rfl))))))))
      qss_nil)
    (ai (cS (QW.pt (qm (bX mC (qv 4) ak (cE _)) (nA (QW.pt (F5 (bX mC (qv 4) ak (cE _)) (CM (bX mC (qv 8) ak (cE _))))))))
      (aB (jC (aI aP (hr.mono (by decide)) rfl af.mg af.fn.kp af.bd bh hP hw hK ht XR.none (aa (qv 0) (aa (qv 2) ae))) (jD (bP (cV (K := K) rfl) (qv 5) (bP (cV (K := K) rfl) (qv 6) ak (fun _ _ => rfl)) (fun _ _ => rfl)) (aI aP (hr.mono (by decide)) rfl af.mg af.fn.kp af.bd bh hP hw hK ht XR.none (aa (qv 0) (aa (qv 3) ae))))))
      qss_nil)
    (aB (GA 5 rfl (bo (ja (t7 (K := K) rfl) rfl bl.tuple_ jK (aa (eh (N' := ["_law_row"]) (tn := 1) (idx := []) rfl (show aL ["_law_bag_here", "_law_most", "_law_many", "_law_ways", "_law_kind_here", "_law_rows", "_law_order_here", "_law_period", "_law_stays", "_law_k", "_law_place", "_law_onward", "_law_goals", "_law_turns"] (ah bV) _ ["_law_row"] 1 [] from by decide +kernel) (oo (K := K) rfl (qv 5)) (fun _ _ _ _ _ => (bE (i := 0) (show List.Nodup [("_law_row" : Str)] from by decide +kernel) rfl (Or.inl rfl))) (fun _ _ _ _ _ => cJ) (fun _ _ _ _ _ => (ja (t7 (K := K) rfl) rfl bl.tuple_ jK (aa (qv 0) ae)))) ae))))))))))))))), ?_⟩
  subst e
  have big : (100 : Nat) < sizeLine := by decide
  refine Jd (fun ρ M => ∃ (n ways kind stays : Nat) (r : Addr) (as : List Addr) (os : List Int) (x7 x9 k9 lb eJ : Option Dv), (dI x7 ∧ dI x9 ∧ dI k9 ∧ dI lb ∧ dI eJ) ∧ ρ = [some (.ptr b), some (.int (most : Nat)), some (.int (n : Nat)), some (.int (ways : Nat)), some (.int (kind : Nat)), some (.ptr r), some (jb os), x7, some (.int (stays : Nat)), x9, k9, lb, eJ, none] ∧ cz Γ.M0 M r as n ways ∧ ej n os ∧ 1 ≤ n ∧ n ≤ most ∧ (ways = 2 ∨ ways = 3)) (fun N hN => ?_) ?_
  · simp! only []
    refine ⟨b, _, rfl, hb, by omega, by omega, fun m hm => ?_⟩
    obtain ⟨n, hn⟩ : ∃ n : Nat, (1 + (m : Int)) = (n : Nat) := ⟨1 + m, by omega⟩
    have n1 : 1 ≤ n := by omega
    have n9 : n ≤ most := by omega
    simp! only [hn]
    refine ⟨b, _, rfl, hb, by omega, by omega, fun v hv => ?_⟩
    obtain ⟨ways, Ji⟩ : ∃ ways : Nat, (2 + (v : Int)) = (ways : Nat) := ⟨2 + v, by omega⟩
    have w2 : ways = 2 ∨ ways = 3 := by omega
    simp! only [Ji]
    refine ⟨b, _, rfl, hb, by omega, by omega, fun kind iW => ?_⟩
    simp! only []
    refine ⟨by omega, by omega, by omega, ?_⟩
    refine fy (acc := []) (fun acc τ M => ∃ as : List Addr, acc = as.map Dv.ptr ∧ (∃ x, τ = [x, some (.ptr b), some (.int (n : Nat)), some (.int (ways : Nat))]) ∧ iQ Γ.M0 M ∧ ∀ a ∈ as, Γ.M0 a = none ∧ ∃ row : List Int, M a = some (.lst (row.map .int)) ∧ eZ n ways row) ⟨[], rfl, ⟨_, rfl⟩, .refl, fun _ h => nomatch h⟩ (fun i d acc τ M hd _ ⟨as, e1, ⟨x, e2⟩, hO, ha⟩ R hR => ?_) (fun ys τ M hl ⟨as, e1, ⟨x, e2⟩, hO, ha⟩ => ?_)
    · subst e1 e2
      simp! only []
      refine ⟨by omega, by omega, by omega, qt (n := n) (fun τ => ∃ y, τ = [y, some (.ptr b), some (.int (n : Nat))]) ⟨_, rfl⟩ (fun d hd τ ⟨y, e⟩ R2 G4 => ?_) (fun row hl iR a iZ => ?_)⟩
      · subst e
        simp! only []
        exact ⟨b, _, rfl, hO.kp _ _ hb, by omega, by omega, fun d hd => G4 _ _ (by omega) (by omega) ⟨_, rfl⟩⟩
      · exact hR _ _ _ (pO hO ha iZ ⟨by simpa [rangeD_len] using hl, iR⟩ ⟨_, rfl⟩)
    · rw [List.nil_append] at e1
      subst e1 e2
      intro r OV
      have RM := cz.mk' (n := n) (ways := ways) hO OV (by simpa [rangeD_len] using hl) ha
      refine ⟨b, n, rfl, RM.kp _ _ hb, by omega, fun os fJ => ?_⟩
      simp! only []
      refine ⟨b, _, rfl, RM.kp _ _ hb, by omega, by omega, fun pe PK => ?_⟩
      simp! only []
      refine ⟨b, _, rfl, RM.kp _ _ hb, by omega, by omega, fun stays lR => ?_⟩
      obtain ⟨per, Mr⟩ : ∃ per : Nat, (1 + (pe : Int)) = (per : Nat) := ⟨1 + pe, by omega⟩
      simp! only [Mr]
      have xc := fJ.len
      refine kR (fun i ρ M => ∃ (as : List Addr) (x9 k9 lb eJ : Option Dv), (dI x9 ∧ dI k9 ∧ dI lb ∧ dI eJ) ∧ ρ = [some (.ptr b), some (.int (most : Nat)), some (.int (n : Nat)), some (.int (ways : Nat)), some (.int (kind : Nat)), some (.ptr r), some (jb os), some (.int (per : Nat)), some (.int (stays : Nat)), x9, k9, lb, eJ, none] ∧ cz Γ.M0 M r as n ways)
        ⟨as, _, _, _, _, ⟨.none, .none, .none, .none⟩, rfl, RM⟩ (fun i d ρ M N2 hd ⟨as, x9, k9, lb, eJ, ⟨p9, BG, BH, jg⟩, e1, RM⟩ BE => ?_) (fun ρ M ⟨as, x9, k9, lb, eJ, ⟨p9, BG, BH, jg⟩, e1, RM⟩ => ?_)
      · subst e1
        have hd : (fq (iJ (os.map Dv.int).length) (os.map Dv.int))[i]? = some d := by rw [List.length_map]; exact hd
        obtain ⟨y, rfl, hy⟩ := C3 hd
        obtain ⟨place, dC, rfl⟩ := xO hy
        have hi : i < n := by have := (List.getElem?_eq_some_iff.mp dC).1; omega
        obtain ⟨KA, OW⟩ := fJ.mem (List.mem_of_getElem? dC)
        obtain ⟨pk, rfl⟩ := Int.eq_ofNat_of_zero_le KA
        have yl : pk < n := by omega
        have Ms : ((i : Int) + 1) % (n : Int) = (((i + 1) % n : Nat) : Int) := by push_cast; rfl
        obtain ⟨on, OX, BI, G5⟩ := fJ.at (i := (i + 1) % n) (Nat.mod_lt _ (by omega))
        obtain ⟨uk, rfl⟩ := Int.eq_ofNat_of_zero_le BI
        have step : ∀ {as : List Addr} {M : Mh}, cz Γ.M0 M r as n ways → ∃ a, cq (as.map Dv.ptr) ((pk : Nat) : Int) = some (.ptr a) ∧ a ∈ as := fun {as M} RM => by
          have hl : pk < as.length := by rw [RM.len]; exact yl
          exact ⟨as[pk], cu (by rw [List.getElem?_map, List.getElem?_eq_getElem hl]; rfl), List.getElem_mem hl⟩
        simp only [zgTup, zgCons, zgNil, zgName, List.set_cons_zero, List.set_cons_succ, List.length_cons, List.length_nil, Nat.reduceAdd, List.getElem?_cons_zero]
        refine ⟨trivial, ?_⟩
        refine jd (fun ρ M => ∃ (as : List Addr) (eJ : Option Dv), dI eJ ∧ ρ = [some (.ptr b), some (.int (most : Nat)), some (.int (n : Nat)), some (.int (ways : Nat)), some (.int (kind : Nat)), some (.ptr r), some (jb os), some (.int (per : Nat)), some (.int (stays : Nat)), some (.int (i : Nat)), some (.int (pk : Nat)), some (.int (uk : Nat)), eJ, none] ∧ cz Γ.M0 M r as n ways) (fun N hN => ?_) ?_
        · simp! only [Ms, OX]
          exact ⟨by omega, hN _ _ ⟨as, _, jg, rfl, RM⟩⟩
        rintro ρ M ⟨as, eJ, jg, rfl, RM⟩
        refine jd (fun ρ M => ∃ (as : List Addr) (eJ : Option Dv), dI eJ ∧ ρ = [some (.ptr b), some (.int (most : Nat)), some (.int (n : Nat)), some (.int (ways : Nat)), some (.int (kind : Nat)), some (.ptr r), some (jb os), some (.int (per : Nat)), some (.int (stays : Nat)), some (.int (i : Nat)), some (.int (pk : Nat)), some (.int (uk : Nat)), eJ, none] ∧ cz Γ.M0 M r as n ways) (fun N hN => ?_) ?_
        · simp! only []
          refine eG (fun h => eG (fun h2 => ?_) (fun _ => hN _ _ ⟨as, _, jg, rfl, RM⟩)) (fun _ => hN _ _ ⟨as, _, jg, rfl, RM⟩)
          obtain ⟨a, ea, ha⟩ := step RM
          obtain ⟨row, em, ro⟩ := RM.row a ha
          simp only [RM.rm, ea]
          refine ⟨b, _, rfl, RM.kp _ _ hb, by omega, by omega, fun t ht => ?_⟩
          simp only [em, List.length_map, ro.1, lJ (show t < ways by omega)]
          rw [rY]
          exact hN _ _ ⟨as, _, jg, rfl, RM.G3 ha (ro.set BI G5)⟩
        rintro ρ M ⟨as, eJ, jg, rfl, RM⟩
        refine jd (fun ρ M => ∃ (as : List Addr) (eJ : Option Dv), dI eJ ∧ ρ = [some (.ptr b), some (.int (most : Nat)), some (.int (n : Nat)), some (.int (ways : Nat)), some (.int (kind : Nat)), some (.ptr r), some (jb os), some (.int (per : Nat)), some (.int (stays : Nat)), some (.int (i : Nat)), some (.int (pk : Nat)), some (.int (uk : Nat)), eJ, none] ∧ cz Γ.M0 M r as n ways) (fun N hN => ?_) ?_
        · simp! only []
          refine eG (fun h => ?_) (fun _ => hN _ _ ⟨as, _, jg, rfl, RM⟩)
          have PL : ∀ j : Nat, ((j : Int) % (per : Int)) = ((j % per : Nat) : Int) := fun j => by push_cast; rfl
          refine ⟨by omega, by omega, by omega, oy (Af per i) (fun d => .int (nN os d)) (fun τ M' => (∃ x, τ = [x, some (jb os), some (.int (per : Nat)), some (.int (i : Nat))]) ∧ M' = M) ⟨⟨_, rfl⟩, rfl⟩ (fun d hd τ M' ⟨⟨x, e⟩, eM⟩ R0 R h1 h2 => ?_) (fun τ M' ⟨⟨x, e⟩, eM⟩ => ?_)⟩
          · subst e eM
            obtain ⟨j, hj, rfl⟩ := nG hd
            simp only [Int.zero_add] at h1 h2 ⊢
            obtain ⟨gx, mj, g0, g1⟩ := fJ.at hj
            have hg : nN os (.int (j : Nat)) = gx := rZ mj
            simp! only [mj]
            refine ⟨by omega, by omega, eG (fun h => ?_) (fun h => ?_)⟩
            · rw [hg] at h1
              exact h1 h _ _ ⟨⟨_, rfl⟩, rfl⟩
            · exact h2 h _ _ ⟨⟨_, rfl⟩, rfl⟩
          · subst e eM
            obtain ⟨gs, OY, PN, PQ, OZ⟩ := Ag (i := i) fJ (per := per) (by omega) (by omega)
            rw [OY]
            refine ⟨by omega, by omega, by omega, qt (n := n) (fun τ => ∃ y, τ = [y, some (jb gs), some (.ptr b)]) ⟨_, rfl⟩ (fun d hd τ ⟨y, e⟩ R hR => ?_) (fun row hl iR a iZ => ?_)⟩
            · subst e
              simp! only []
              refine ⟨b, _, rfl, RM.kp _ _ hb, by omega, by omega, fun t ht => ?_⟩
              have BJ : t < gs.length := by omega
              simp only [show cq (gs.map Dv.int) (t : Int) = some (.int gs[t]) from cu (by rw [List.getElem?_map, List.getElem?_eq_getElem BJ]; rfl)]
              obtain ⟨q0, q1⟩ := OZ _ (List.getElem_mem BJ)
              exact hR _ _ q0 q1 ⟨_, rfl⟩
            · have nr : r ≠ a := fun z => by rw [← z, RM.rm] at iZ; cases iZ
              simp only [au nr, RM.rm, List.length_map, RM.len, lJ yl]
              exact hN _ _ ⟨_, _, .lI gs, rfl, RM.put iZ ⟨by simpa [rangeD_len] using hl, iR⟩ yl⟩
        rintro ρ M ⟨as, eJ, jg, rfl, RM⟩
        simp! only []
        refine eG (fun h => ?_) (fun _ => BE _ _ ⟨as, _, _, _, _, ⟨.int _, .int _, .int _, jg⟩, rfl, RM⟩)
        refine ⟨by omega, ⟨by omega, by omega, by omega, by omega⟩, by omega, qt (n := n) (fun τ => ∃ y, τ = [y, some (.int (stays : Nat)), some (.int (uk : Nat)), some (.int (pk : Nat))]) ⟨_, rfl⟩ (fun d hd τ ⟨y, e⟩ R hR => ?_) (fun row hl iR => ⟨?_, fun a iZ => ?_⟩)⟩
        · subst e
          simp! only []
          have O0 : stays = 0 ∨ stays = 1 := by omega
          rcases O0 with rfl | rfl
          · exact ⟨by omega, hR _ _ BI G5 ⟨_, rfl⟩⟩
          · exact ⟨by omega, hR _ _ KA OW ⟨_, rfl⟩⟩
        · rw [List.length_map, hl, rangeD_len]; omega
        · have nr : r ≠ a := fun z => by rw [← z, RM.rm] at iZ; cases iZ
          have er : Dv.int (uk : Nat) :: row.map Dv.int = ((uk : Int) :: row).map Dv.int := rfl
          rw [er]
          simp only [au nr, RM.rm, List.length_map, RM.len, lJ yl]
          refine BE _ _ ⟨_, _, _, _, _, ⟨.int _, .int _, .int _, jg⟩, rfl, RM.put iZ ⟨?_, fun x hx => ?_⟩ yl⟩
          · rw [List.length_cons, hl, rangeD_len]; omega
          · rcases List.mem_cons.mp hx with z | z
            · rw [z]; exact ⟨BI, G5⟩
            · exact iR x z
      · exact hN _ _ ⟨n, ways, kind, stays, r, as, os, _, _, _, _, _, ⟨.int _, p9, BG, BH, jg⟩, e1, RM, fJ, n1, n9, w2⟩
  · rintro ρ M ⟨n, ways, kind, stays, r, as, os, x7, x9, k9, lb, eJ, ⟨p7, p9, BG, BH, jg⟩, rfl, RM, fJ, n1, n9, w2⟩
    have xc := fJ.len
    refine jd (fun ρ M => ∃ (r : Addr) (as : List Addr) (j8 : Option Dv), dI j8 ∧ ρ = [some (.ptr b), some (.int (most : Nat)), some (.int (n : Nat)), some (.int (ways : Nat)), some (.int (kind : Nat)), some (.ptr r), some (jb os), x7, some (.int (stays : Nat)), x9, k9, lb, eJ, j8] ∧ cz Γ.M0 M r as n ways) (fun N hN => ?_) ?_
    · simp! only []
      refine eG (fun h => ?_) (fun _ => hN _ _ ⟨r, as, _, .none, rfl, RM⟩)
      refine ⟨by omega, by omega, by omega, fy (acc := []) (fun acc τ M' => ∃ ts : List (List Int), acc = ts.map jb ∧ (∃ x, τ = [x, some (.ptr b), some (.int (n : Nat))]) ∧ (∀ o ∈ ts, ej n o) ∧ M' = M) ⟨[], rfl, ⟨_, rfl⟩, (fun _ h => nomatch h), rfl⟩ (fun i d acc τ M' hd _ ⟨ts, e1, ⟨x, e2⟩, hT, eM⟩ R hR => ?_) (fun ys τ M' hl ⟨ts, e1, ⟨x, e2⟩, hT, eM⟩ => ?_)⟩
      · subst e1 e2 eM
        simp! only []
        refine ⟨b, n, rfl, RM.kp _ _ hb, by omega, fun o ho => hR _ _ _ ⟨ts ++ [o], by rw [List.map_append]; rfl, ⟨_, rfl⟩, fun c hc => ?_, rfl⟩⟩
        rcases List.mem_append.mp hc with z | z
        · exact hT c z
        · rw [List.mem_singleton] at z; rw [z]; exact ho
      · rw [List.nil_append] at e1
        subst e1 e2 eM
        have BJ : ts.length = ways := by simpa [rangeD_len] using hl
        refine ⟨by omega, by omega, by omega, fy (acc := []) (fun acc τ M => ∃ as : List Addr, acc = as.map Dv.ptr ∧ (∃ x, τ = [x, some (.lst (ts.map jb))]) ∧ iQ Γ.M0 M ∧ ∀ a ∈ as, Γ.M0 a = none ∧ ∃ row : List Int, M a = some (.lst (row.map .int)) ∧ eZ n ways row) ⟨[], rfl, ⟨_, rfl⟩, RM.own, fun _ h => nomatch h⟩ (fun i d acc τ M hd _ ⟨as, e1, ⟨x, e2⟩, hO, ha⟩ R hR => ?_) (fun ys τ M hl ⟨as, e1, ⟨x, e2⟩, hO, ha⟩ => ?_)⟩
        · subst e1 e2
          obtain ⟨rfl, hi⟩ := gK hd
          simp! only []
          refine ⟨by omega, qt (n := n) (fun τ => ∃ y, τ = [y, some (.int (i : Nat))]) ⟨_, rfl⟩ (fun d hd τ ⟨y, e⟩ R2 G4 => ?_) (fun row hl iR a iZ => ?_)⟩
          · subst e
            obtain ⟨o, ho, rfl⟩ := List.mem_map.mp hd
            obtain ⟨gx, mj, g0, g1⟩ := (hT o ho).at hi
            simp! only [mj]
            exact G4 _ _ g0 g1 ⟨_, rfl⟩
          · exact hR _ _ _ (pO hO ha iZ ⟨by rw [hl, List.length_map]; exact BJ, iR⟩ ⟨_, rfl⟩)
        · rw [List.nil_append] at e1
          subst e1 e2
          intro r2 O1
          refine hN _ _ ⟨r2, as, _, fun M d e => ?_, rfl, cz.mk' (n := n) (ways := ways) hO O1 (by simpa [rangeD_len] using hl) ha⟩
          cases e
          exact .lst fun d hd => by obtain ⟨o, _, rfl⟩ := List.mem_map.mp hd; exact .lst (gf o)
    rintro ρ M ⟨r, as, j8, ym, rfl, RM⟩
    refine jd (fun ρ M => ∃ (r : Addr) (as : List Addr) (j8 : Option Dv), dI j8 ∧ ρ = [some (.ptr b), some (.int (most : Nat)), some (.int (n : Nat)), some (.int (ways : Nat)), some (.int (kind : Nat)), some (.ptr r), some (jb os), x7, some (.int (stays : Nat)), x9, k9, lb, eJ, j8] ∧ cz Γ.M0 M r as n ways) (fun N hN => ?_) ?_
    · simp! only []
      obtain ⟨gx, mj, g0, g1⟩ := fJ.at (i := 0) (by omega)
      obtain ⟨gk, rfl⟩ := Int.eq_ofNat_of_zero_le g0
      have mj : cq (os.map Dv.int) 0 = some (.int (gk : Nat)) := mj
      have tS : gk < as.length := by rw [RM.len]; omega
      have ea : cq (as.map Dv.ptr) (gk : Int) = some (.ptr as[gk]) := cu (by rw [List.getElem?_map, List.getElem?_eq_getElem tS]; rfl)
      have ha := List.getElem_mem tS
      obtain ⟨row, em, ro⟩ := RM.row as[gk] ha
      simp only [mj]
      have put : jf [.ptr b, .int (n : Nat)] M (fun d M1 => match (match M1 r with | some (.lst ds) => some ds | _ => none) with
          | some ds => (match cq ds (gk : Int) with
            | some O2 => jf [.ptr b, .int (ways : Nat)] M1 (fun i M2 => match O2, i with
              | .ptr a, .int k => (match M2 a with
                | some (.lst xs) => (match gE xs.length k with
                  | some j => N [some (.ptr b), some (.int (most : Nat)), some (.int (n : Nat)), some (.int (ways : Nat)), some (.int (kind : Nat)), some (.ptr r), some (jb os), x7, some (.int (stays : Nat)), x9, k9, lb, eJ, j8] (aH M2 a (.lst (xs.set j d)))
                  | none => False)
                | _ => False)
              | _, _ => False) fun _ _ => False
            | none => False)
          | none => False) fun _ _ => False := by
        refine ⟨b, _, rfl, RM.kp _ _ hb, by omega, by omega, fun u hu => ?_⟩
        simp only [RM.rm, ea]
        refine ⟨b, _, rfl, RM.kp _ _ hb, by omega, by omega, fun t ht => ?_⟩
        simp only [em, List.length_map, ro.1, lJ (show t < ways by omega)]
        rw [rY]
        exact hN _ _ ⟨r, as, _, ym, rfl, RM.G3 ha (ro.set (by omega) (by omega))⟩
      exact eG (fun _ => put) (fun _ => eG (fun _ => eG (fun _ => put) (fun _ => hN _ _ ⟨r, as, _, ym, rfl, RM⟩)) (fun _ => hN _ _ ⟨r, as, _, ym, rfl, RM⟩))
    rintro ρ M ⟨r, as, j8, ym, rfl, RM⟩
    have nb : ∀ {c o}, Γ.M0 c = some o → c ≠ r := fun e z => by rw [z, RM.r0] at e; cases e
    have dk : Keeps Γ.M0 (cT M r) := fun c o e => by rw [cD (nb e)]; exact RM.kp c o e
    refine .inr ⟨r, _, rfl, RM.rm, RM.r0, ⟨fun j d e => ?_, fun c o e => ?_⟩, ?_⟩
    · match j, e with
      | 0, e => cases e; exact .ptr (by rw [dk _ _ hb]; rfl)
      | 1, e => cases e; exact .int _
      | 2, e => cases e; exact .int _
      | 3, e => cases e; exact .int _
      | 4, e => cases e; exact .int _
      | 5, e => cases e; exact .lst fun d hd => by
                  obtain ⟨a, ha, rfl⟩ := List.mem_map.mp hd
                  obtain ⟨row, em, _⟩ := RM.row a ha
                  exact .ptr (by rw [cD (RM.fr a ha).2, em]; rfl)
      | 6, e => cases e; exact .lst (gf _)
      | 7, e => exact p7 _ _ (Option.some.inj e)
      | 8, e => cases e; exact .int _
      | 9, e => exact p9 _ _ (Option.some.inj e)
      | 10, e => exact BG _ _ (Option.some.inj e)
      | 11, e => exact BH _ _ (Option.some.inj e)
      | 12, e => exact jg _ _ (Option.some.inj e)
      | 13, e => exact ym _ _ (Option.some.inj e)
      | j + 14, e => exact nomatch e
    · have nc : c ≠ r := fun z => by rw [z, dW] at e; cases e
      rw [cD nc] at e
      rcases RM.pin c o e with q | q | ⟨row, rfl⟩ | ⟨bs, rfl, q2⟩
      · exact .inl q
      · exact absurd q nc
      · exact .inr (gf row)
      · refine .inr fun d hd => ?_
        obtain ⟨a, ha, rfl⟩ := List.mem_map.mp hd
        obtain ⟨h1, u, h2⟩ := q2 a ha
        exact .ptr (by rw [cD h1, h2]; rfl)
    · simp! only []
      refine ⟨by rw [RM.len]; omega, fy (acc := []) (fun acc τ M' => ∃ rs : List (List Int), acc = rs.map eI ∧ (∃ x, τ = [x]) ∧ (∀ row ∈ rs, eZ n ways row) ∧ M' = cT M r) ⟨[], rfl, ⟨_, rfl⟩, (fun _ h => nomatch h), rfl⟩ (fun i d acc τ M' hd _ ⟨rs, e1, ⟨x, e2⟩, BK, eM⟩ R hR => ?_) (fun ys τ M' hl ⟨rs, e1, ⟨x, e2⟩, BK, eM⟩ => ?_)⟩
      · subst e1 e2 eM
        obtain ⟨a, ha, rfl⟩ := xO hd
        have ha := List.mem_of_getElem? ha
        obtain ⟨row, em, ro⟩ := RM.row a ha
        simp! only [cD (RM.fr a ha).2, em]
        refine hR _ _ _ ⟨rs ++ [row], by rw [List.map_append]; rfl, ⟨_, rfl⟩, fun c hc => ?_, rfl⟩
        rcases List.mem_append.mp hc with z | z
        · exact BK c z
        · rw [List.mem_singleton] at z; rw [z]; exact ro
      · rw [List.nil_append] at e1
        subst e1 e2 eM
        have O3 : rs.length = n := by rw [List.length_map, List.length_map, RM.len] at hl; exact hl
        exact pJ dk (Gs rs) (q rs ways ⟨by omega, by omega, w2, fun row hr => ⟨(BK row hr).1, fun g hg => by rw [O3]; exact (BK row hr).2 g hg⟩⟩ (by omega))
end
section
variable {P : Program} {w : World} {K : PySem.W.Frag} {mg : Str → Option Value} {base : Heap} {tb : b0}
theorem sM : aN ["thing"] ["thing"] (ah eT) := ⟨rfl, rfl, rfl, by decide +kernel, rfl, by decide +kernel, by decide +kernel⟩
theorem lL : aN ["thing", "many"] ["thing", "many"] (ah cQ) := ⟨rfl, rfl, rfl, by decide +kernel, rfl, by decide +kernel, by decide +kernel⟩
theorem yn : aN ["thing", "many", "width"] ["thing", "many", "width"] (ah iO) := ⟨rfl, rfl, rfl, by decide +kernel, rfl, by decide +kernel, by decide +kernel⟩
theorem lg : aN ["thing", "many", "width"] ["thing"] (ah iP) := ⟨rfl, rfl, rfl, by decide +kernel, rfl, by decide +kernel, by decide +kernel⟩
noncomputable def jo (d : Dv) : Bool := (isD "int" (fun _ => none) d).isSome
noncomputable def yo : Dv → Bool | .int _ => true | _ => false
noncomputable def cn (m : Int) : Dv → Bool | .int i => decide (0 ≤ i) && decide (i < m) | _ => false
noncomputable def G6 : b5 := fun ds M Q _ => ∃ d, ds = [d] ∧ jo d = true ∧ Q (.bl (yo d)) M
theorem sN {f : Addr} {fd : FuncData} (D : Df K mg "is_whole" eT ["thing"] f fd) (bl : Bl mg) : FnOk P w K mg base bH 1 f fd ["thing"] (aW P w K tb G6) := by
  refine gR D sM (fun ds M Q E hS => by obtain ⟨d, e, _⟩ := hS; rw [e]; rfl) fun A outer s E Γ ds Q' E' hP hw hK ht hr hS => ?_
  obtain ⟨d, e, hk, q⟩ := hS
  refine ⟨_, (aB (bo (xq (aw (iH (K := K) rfl) rfl bl.isinstance_ aD (aa (qv 0) (aa (h8 (v := .ty "int") rfl bl.int_ FC rfl) ae))) (xo (F6 (aw (iH (K := K) rfl) rfl bl.isinstance_ aD (aa (qv 0) (aa (h8 (v := .ty "bool") rfl bl.bool_ Cw rfl) ae)))))))), ?_⟩
  subst e
  cases d <;> first | exact ⟨by decide, ⟨by decide, .inl q⟩⟩ | exact ⟨by decide, .inl q⟩ | exact nomatch hk
noncomputable def G7 : b5 := fun ds M Q _ => ∃ d m, ds = [d, .int m] ∧ jo d = true ∧ Q (.bl (cn m d)) M
theorem lM {f f1 : Addr} {fd bp : FuncData} (D : Df K mg "is_whole_below" cQ ["thing", "many"] f fd) (cf : Df K mg "is_whole" eT ["thing"] f1 bp) (bl : Bl mg) : FnOk P w K mg base bH 2 f fd ["thing", "many"] (aW P w K tb G7) := by
  have vm := sN (P := P) (w := w) (base := base) (tb := tb) cf bl
  refine gR D lL (fun ds M Q E hS => by obtain ⟨d, m, e, _⟩ := hS; rw [e]; rfl) fun A outer s E Γ ds Q' E' hP hw hK ht hr hS => ?_
  obtain ⟨d, m, e, hk, q⟩ := hS
  refine ⟨_, (aB (bo (xq (aI vm (hr.mono (by decide)) rfl cf.mg cf.fn.kp cf.bd bh hP hw hK ht XR.none (aa (qv 0) ae)) (xo (zS zU ot ak (qv 0) (qv 1)))))), ?_⟩
  subst e
  refine ⟨d, rfl, hk, ?_⟩
  cases d with
  | int i =>
    simp! only [yo]
    refine eG (fun h => ?_) (fun h => ?_)
    · rw [show cn m (.int i) = decide (i < m) by simp only [cn, h, Bool.true_and]] at q
      exact .inl q
    · rw [show cn m (.int i) = false by simp only [cn, h, Bool.false_and]] at q
      exact .inl q
  | _ => exact .inl q
noncomputable def dq (m : Int) (w : Nat) : Dv → Bool | .tup ds => decide (ds.length = w) && ds.all (cn m) | _ => false
noncomputable def iS : Dv → Bool | .tup ds => ds.all jo | d => jo d
noncomputable def G8 : b5 := fun ds M Q _ => ∃ d m w, ds = [d, .int m, .int (w : Nat)] ∧ iS d = true ∧ Q (.bl (dq m w d)) M
theorem yp {f f1 f2 : Addr} {fd bp fd2 : FuncData} {jV aY : Addr} (D : Df K mg "is_row" iO ["thing", "many", "width"] f fd) (gh : pz base fd jV aY) (hp : aY ∈ tb) (du : ∃ bm ob, BMod base mainGlobals mg bm ob)
    (bu : Df K mg "is_whole_below" cQ ["thing", "many"] f1 bp) (cf : Df K mg "is_whole" eT ["thing"] f2 fd2) (bl : Bl mg) : FnOk P w K mg base bH 4 f fd ["thing", "many", "width"] (aW P w K tb G8) := by
  have mF := lM (P := P) (w := w) (base := base) (tb := tb) bu cf bl
  refine gR D yn (fun ds M Q E hS => by obtain ⟨d, m, n, e, _⟩ := hS; rw [e]; rfl) fun A outer s E Γ ds Q' E' hP hw hK ht hr hS => ?_
  obtain ⟨d, m, n, e, hk, q⟩ := hS
  have vn : aY ∈ Γ.tb := ht ▸ hp
  refine ⟨_, (ai (cS (QW.pt (qm (iF (iE (aw (iH (K := K) rfl) rfl bl.isinstance_ aD (aa (qv 0) (aa (h8 (v := .ty "tuple") rfl bl.tuple_ jK rfl) ae))))) (nA (bX zV (aw (eC (K := K) rfl hK) rfl bl.len_ PySem.boot_len (aa (qv 0) ae)) (qv 2) (cE _)))))
      (aB (bo eO))
      qss_nil)
    (aB (bo (rM (k := 2) (N' := ["goal", "many"]) (tn := 1) (idx := [1]) vn (hr.mono (by decide)) rfl (show aL ["thing", "many", "width"] (ah iO) _ ["goal", "many"] 1 [1] from by decide +kernel) rfl rfl gh.code gh.hd du rfl bl.all_ (rE (K := K) rfl (qv 0)) (fun _ _ _ _ _ _ _ hr => (bE (i := 0) (show List.Nodup [("goal" : Str), ("many" : Str)] from by decide +kernel) rfl (Or.inl rfl))) (fun _ _ _ _ _ _ _ hr => cJ) (fun _ _ _ _ _ _ _ hr => (aI mF (hr.mono (by decide)) rfl bu.mg bu.fn.kp bu.bd bh hP hw hK ht XR.none (aa (qv 0) (aa (qv 1) ae)))))))), ?_⟩
  subst e
  cases d with
  | tup es =>
    refine ⟨by decide, eG (c := !decide ((es.length : Int) = (n : Nat))) (fun h => ?_) (fun h => ?_)⟩
    · rw [show dq m n (.tup es) = false by simp at h; simp [dq]; intro z; omega] at q
      exact .inl q
    · rw [show dq m n (.tup es) = es.all (cn m) by simp at h; simp [dq, show es.length = n by omega]] at q
      refine lF (cn m) (fun τ => ∃ x, τ = [x, some (.int m)]) ⟨none, rfl⟩ (fun d hd τ ⟨x, e⟩ R hR => ?_) (.inl q)
      subst e
      exact ⟨d, m, rfl, List.all_eq_true.mp hk d hd, hR _ ⟨_, rfl⟩⟩
  | _ => first | exact ⟨by decide, .inl q⟩ | exact nomatch hk
noncomputable def dY : Dv → Bool | .tup rs => decide (1 ≤ rs.length ∧ rs.length ≤ 9) && (rs.all (dq rs.length 2) || rs.all (dq rs.length 3)) | _ => false
noncomputable def gS : Dv → Bool | .tup rs => rs.all iS | d => jo d
noncomputable def Ah : b5 := fun ds M Q _ => ∃ d, ds = [d] ∧ gS d = true ∧ Q (.bl (dY d)) M
theorem yq {f f1 f2 f3 : Addr} {fd bp fd2 yr : FuncData} {jV aY sd bj : Addr} (D : Df K mg "is_net" iP ["thing"] f fd) (jW : pz base fd sd bj) (O4 : bj ∈ tb) (fA : Df K mg "is_row" iO ["thing", "many", "width"] f3 yr) (gh : pz base yr jV aY) (hp : aY ∈ tb) (du : ∃ bm ob, BMod base mainGlobals mg bm ob)
    (bu : Df K mg "is_whole_below" cQ ["thing", "many"] f1 bp) (cf : Df K mg "is_whole" eT ["thing"] f2 fd2) (bl : Bl mg) {tk : Tok} (gi : mg "MOST_PLACES" = some (.int 9 tk)) : FnOk P w K mg base bH 6 f fd ["thing"] (aW P w K tb Ah) := by
  have Ai := yp (P := P) (w := w) (tb := tb) fA gh hp du bu cf bl
  refine gR D lg (fun ds M Q E hS => by obtain ⟨d, e, _⟩ := hS; rw [e]; rfl) fun A outer s E Γ ds Q' E' hP hw hK ht hr hS => ?_
  obtain ⟨d, e, hk, q⟩ := hS
  have jX : bj ∈ Γ.tb := ht ▸ O4
  refine ⟨_, (ai (cS (QW.pt (qm (iF (iE (aw (iH (K := K) rfl) rfl bl.isinstance_ aD (aa (qv 0) (aa (h8 (v := .ty "tuple") rfl bl.tuple_ jK rfl) ae))))) (nA (iF (rC zU zU ak (aw (eC (K := K) rfl hK) rfl bl.len_ PySem.boot_len (aa (qv 0) ae)) (rA (i := 9) rfl gi ⟨_, rfl⟩))))))
      (aB (bo eO))
      qss_nil)
    (ai (aF (i := 1) lg.nd rfl (Or.inr rfl) (aw (eC (K := K) rfl hK) rfl bl.len_ PySem.boot_len (aa (qv 0) ae)))
    (ai (nD PassesOwn.never rfl (rE (K := K) rfl (aU (aa ak (aa ak ae)))) (fun BD eP ew eK et => by have hP := hP.trans eP.symm; have hw := hw.trans ew.symm; have hK := hK.trans eK.symm; have ht := ht.trans et.symm; have jX := et.symm ▸ jX; exact ⟨(bE (i := 2) lg.nd rfl (Or.inr rfl)), (aB (cS (iE (rM (k := 4) (N' := ["row", "many", "width"]) (tn := 1) (idx := [1, 2]) jX (hr.mono (by decide)) rfl (show aL ["thing", "many", "width"] (ah iP) _ ["row", "many", "width"] 1 [1, 2] from by decide +kernel) rfl rfl jW.code jW.hd du rfl bl.all_ (rE (K := K) rfl (qv 0)) (fun _ _ _ _ _ _ _ hr => (bE (i := 0) (show List.Nodup [("row" : Str), ("many" : Str), ("width" : Str)] from by decide +kernel) rfl (Or.inl rfl))) (fun _ _ _ _ _ _ _ hr => cJ) (fun _ _ _ _ _ _ _ hr => (aI Ai (hr.mono (by decide)) rfl fA.mg fA.fn.kp fA.bd bh hP hw hK ht XR.none (aa (qv 0) (aa (qv 1) (aa (qv 2) ae)))))))
      (aB (bo eO))
      qss_nil))⟩))
    (aB (bo eO))))), ?_⟩
  subst e
  cases d with
  | tup rs =>
    refine ⟨by decide, ?_⟩
    have row : ∀ (n : Nat) (D : Bool → Mh → Prop), (D (rs.all (dq rs.length n)) Γ.M0) → i7 (zgName 0) zNoIf (zCall G8 (fun _ _ => False) (zCons (zVar 0) (zCons (zVar 1) (zCons (zVar 2) zNil)))) rs [none, some (.int rs.length), some (.int (n : Nat))] Γ.M0 D := fun n D hD => by
      refine lF (dq rs.length n) (fun τ => ∃ x, τ = [x, some (.int rs.length), some (.int (n : Nat))]) ⟨none, rfl⟩ (fun d hd τ ⟨x, e⟩ R hR => ?_) hD
      subst e
      exact ⟨d, rs.length, n, rfl, List.all_eq_true.mp hk d hd, hR _ ⟨_, rfl⟩⟩
    simp! only []
    refine eG (fun h1 => eG (fun h2 => ?_) (fun h2 => ⟨by decide, ?_⟩)) (fun h1 => ?_)
    · rw [show dY (.tup rs) = false by simp at h1 h2; simp [dY]; intro z; omega] at q
      exact .inl q
    · have e : dY (.tup rs) = (rs.all (dq rs.length 2) || rs.all (dq rs.length 3)) := by
        simp at h1 h2
        simp only [dY]
        rw [decide_eq_true (by omega), Bool.true_and]
      rw [e] at q
      refine row 2 _ (eG (fun z => ?_) (fun z => row 3 _ (eG (fun z2 => ?_) (fun z2 => ?_))))
      · rw [z] at q; exact .inl q
      · rw [z, z2] at q; exact .inl q
      · rw [z, z2] at q; exact .inl q
    · rw [show dY (.tup rs) = false by simp at h1; simp [dY]; intro z; omega] at q
      exact .inl q
  | _ => first | exact ⟨by decide, .inl q⟩ | exact nomatch hk
theorem sO : aN ["thing"] ["thing"] (ah eU) := ⟨rfl, rfl, rfl, by decide +kernel, rfl, by decide +kernel, by decide +kernel⟩
theorem yt {m : Int} {g : Int} (h : 0 ≤ g ∧ g < m) : cn m (.int g) = true := by simp [cn, h.1, h.2]
theorem um {aq : List (List Int)} {n : Nat} (o : gu aq n) : dY (eN aq) = true := by
  have hr : ∀ d ∈ aq.map eI, dq (aq.map eI).length n d = true := fun d hd => by
    obtain ⟨r, hr, rfl⟩ := List.mem_map.mp hd
    obtain ⟨h1, h2⟩ := o.row r hr
    simp only [dq, List.length_map]
    rw [decide_eq_true h1, Bool.true_and, List.all_eq_true]
    intro d hd
    obtain ⟨g, hg, rfl⟩ := List.mem_map.mp hd
    exact yt (h2 g hg)
  have ho := o.one
  have hn := o.nine
  simp only [dY, eN]
  rw [decide_eq_true (by rw [List.length_map]; omega), Bool.true_and]
  have ha := List.all_eq_true.mpr hr
  rcases o.wid with rfl | rfl
  · rw [ha]; rfl
  · rw [ha, Bool.or_true]
theorem uo (aq : List (List Int)) : gS (eN aq) = true := by
  simp only [gS, eN]
  rw [List.all_eq_true]
  intro d hd
  obtain ⟨r, _, rfl⟩ := List.mem_map.mp hd
  simp only [iS, eI]
  rw [List.all_eq_true]
  intro d hd
  obtain ⟨g, hg, rfl⟩ := List.mem_map.mp hd
  rfl
noncomputable def qu (C : Addr) : b5 := fun ds M Q E => ∃ d, ds = [d] ∧ gS d = true ∧ (dY d = true → Q .ao M) ∧ (dY d = false → E C M)
theorem sP {f f1 : Addr} {fd bp : FuncData} {C0 C_NoNet : Addr} {cs : List Addr} (D : Df K mg "need_net" eU ["thing"] f fd) (fB : Df K mg "is_net" iP ["thing"] f1 bp) (Aj : FnOk P w K mg base bH 6 f1 bp ["thing"] (aW P w K tb Ah))
    (X_ : om K C0 cs) (e8 : C_NoNet ∈ cs) (ib : mg "NoNet" = some (.ref C_NoNet)) : FnOk P w K mg base (bK P w) 7 f fd ["thing"] (aW P w K tb (qu C_NoNet)) := by
  refine g8 D sO (fun ds M Q E hS => by obtain ⟨d, e, _⟩ := hS; rw [e]; rfl) fun A outer s E Γ ds Q' E' hP hw hK ht hE hr hS => ?_
  obtain ⟨d, e, hk, q1, q2⟩ := hS
  refine ⟨_, (aB (cS (iF (iE (aI Aj (hr.mono (by decide)) rfl fB.mg fB.fn.kp fB.bd bh hP hw hK ht XR.none (aa (qv 0) ae))))
      (aB (rL (X_.ex _ e8) PySem.F.excBase_ValueError rfl w6 hE rfl ib (aa ay ae)))
      qss_nil)), ?_⟩
  subst e
  simp! only []
  refine ⟨d, rfl, hk, eG (fun h => ?_) (fun h => ?_)⟩
  · exact ⟨by decide, q2 (by simpa using h)⟩
  · exact .inl (q1 (by simpa using h))
end
section
variable {P : Program} {w : World} {K : PySem.W.Frag} {mg : Str → Option Value} {base : Heap} {tb : b0} {C_NoNet C_NoWord C0 : Addr} {cs : List Addr}
theorem sQ : aN ["net"] ["net"] (ah g9) := ⟨rfl, rfl, rfl, by decide +kernel, rfl, by decide +kernel, by decide +kernel⟩
theorem nO : aN ["net", "thing", "signs"] ["net", "thing"] (ah gL) := ⟨rfl, rfl, rfl, by decide +kernel, rfl, by decide +kernel, by decide +kernel⟩
theorem se : aN ["net", "thing"] ["net", "thing"] (ah gz) := ⟨rfl, rfl, rfl, by decide +kernel, rfl, by decide +kernel, by decide +kernel⟩
noncomputable def sgn (w : Nat) : Str := Txt.slice "abc" none (some (w : Int))
theorem G9 {aq : List (List Int)} {n k : Nat} (h : k < aq.length) : cq (aq.map eI) ((k : Nat) : Int) = some (eI aq[k]) := cu (by rw [List.getElem?_map, List.getElem?_eq_getElem h]; rfl)
theorem uq {aq : List (List Int)} {n : Nat} (o : gu aq n) : ∃ r, cq (aq.map eI) 0 = some (eI r) ∧ r.length = n := by
  have := o.one
  exact ⟨aq[0], G9 (n := n) (k := 0) (by omega), (o.row _ (List.getElem_mem _)).1⟩
noncomputable def yu : b5 := fun ds M Q _ => ∃ aq n, ds = [eN aq] ∧ gu aq n ∧ Q (.str (sgn n)) M
theorem sR {f f1 : Addr} {fd bp : FuncData} (D : Df K mg "signs_of" g9 ["net"] f fd)
    (bb : Df K mg "need_net" eU ["thing"] f1 bp) (fS : FnOk P w K mg base (bK P w) 7 f1 bp ["thing"] (aW P w K tb (qu C_NoNet))) (bl : Bl mg) {tk : Tok} (mG : mg "SIGNS" = some (.str "abc" tk)) :
    FnOk P w K mg base (bK P w) 8 f fd ["net"] (aW P w K tb yu) := by
  refine g8 D sQ (fun ds M Q E hS => by obtain ⟨aq, n, e, _⟩ := hS; rw [e]; rfl) fun A outer s E Γ ds Q' E' hP hw hK ht hE hr hS => ?_
  obtain ⟨aq, n, e, o, q⟩ := hS
  refine ⟨_, (ai (fG (aI fS (hr.mono (by decide)) rfl bb.mg bb.fn.kp bb.bd g6 hP hw hK ht hE (aa (qv 0) ae)))
    (aB (bo (dU IU (zR (z := "abc") rfl mG ⟨_, rfl⟩) eR (eS (aw (eC (K := K) rfl hK) rfl bl.len_ PySem.boot_len (aa (bP (cV (K := K) rfl) (qv 0) ak (fun _ _ => rfl)) ae))))))), ?_⟩
  subst e
  obtain ⟨r, h0, hl⟩ := uq o
  refine ⟨_, rfl, uo aq, fun _ => ?_, fun h => by rw [um o] at h; cases h⟩
  simp! only [h0, hl]
  exact ⟨by decide, .inl q⟩
noncomputable def Ha (n : Nat) (z : Str) : Prop := ∀ c ∈ z.cps.toList, ∃ k : Nat, k < n ∧ c = 97 + k
noncomputable def Hb (n : Nat) : Dv → Bool | .str y => uX y (sgn n) | _ => false
theorem Dj {n c : Nat} (hn : n = 2 ∨ n = 3) (h : c ∈ (sgn n).cps.toList) : ∃ k : Nat, k < n ∧ c = 97 + k := by
  rcases hn with rfl | rfl
  · rw [show (sgn 2).cps.toList = [97, 98] from by decide +kernel] at h
    simp only [List.mem_cons, List.mem_singleton, List.not_mem_nil, or_false] at h
    rcases h with rfl | rfl
    · exact ⟨0, by decide, rfl⟩
    · exact ⟨1, by decide, rfl⟩
  · rw [show (sgn 3).cps.toList = [97, 98, 99] from by decide +kernel] at h
    simp only [List.mem_cons, List.mem_singleton, List.not_mem_nil, or_false] at h
    rcases h with rfl | rfl | rfl
    · exact ⟨0, by decide, rfl⟩
    · exact ⟨1, by decide, rfl⟩
    · exact ⟨2, by decide, rfl⟩
noncomputable def pP (d : Dv) : Prop := jo d = true ∧ ∀ z, d = .str z → z.length ≤ 10000
noncomputable def di (n : Nat) : Dv → Bool | .str z => decide (z.length ≤ 2000) && (kQ z).all (Hb n) | _ => false
theorem vo {n : Nat} {y : Dv} (hn : n = 2 ∨ n = 3) (h : di n y = true) : ∃ z, y = .str z ∧ Ha n z ∧ z.length ≤ 2000 := by
  cases y with
  | str z =>
    simp only [di, Bool.and_eq_true, decide_eq_true_eq, List.all_eq_true] at h
    refine ⟨z, rfl, fun c hc => ?_, h.1⟩
    have h2 := h.2 (.str ⟨#[c]⟩) (List.mem_map.mpr ⟨c, hc, rfl⟩)
    simp only [Hb, uX, Bool.not_eq_true'] at h2
    exact Dj hn (zL h2)
  | _ => cases h
theorem yw {n : Nat} {z : Str} (hn : n = 2 ∨ n = 3) {c : Nat} (hc : c ∈ z.cps.toList) (h : ∀ k < n, c ≠ 97 + k) : di n (.str z) = false := by
  cases e : di n (.str z) with
  | false => rfl
  | true =>
    obtain ⟨z', e1, hw, _⟩ := vo hn e
    cases e1
    obtain ⟨k, hk, e2⟩ := hw c hc
    exact absurd e2 (h k hk)
noncomputable def vp : b5 := fun ds M Q _ => ∃ aq n d, ds = [eN aq, d] ∧ gu aq n ∧ pP d ∧ Q (.bl (di n d)) M
theorem vq {f f1 : Addr} {fd bp : FuncData} {pQ a9 : Addr} (D : Df K mg "is_word" gL ["net", "thing"] f fd) (jh : pz base fd pQ a9) (hp : a9 ∈ tb) (du : ∃ bm ob, BMod base mainGlobals mg bm ob)
    (fb : Df K mg "signs_of" g9 ["net"] f1 bp) (vt : FnOk P w K mg base (bK P w) 8 f1 bp ["net"] (aW P w K tb yu)) (bl : Bl mg) {tk : Tok} (dJ : mg "MOST_SIGNS_OF_WORD" = some (.int 2000 tk)) :
    FnOk P w K mg base (bK P w) 9 f fd ["net", "thing"] (aW P w K tb vp) := by
  refine g8 D nO (fun ds M Q E hS => by obtain ⟨aq, n, z, e, _⟩ := hS; rw [e]; rfl) fun A outer s E Γ ds Q' E' hP hw hK ht hE hr hS => ?_
  obtain ⟨aq, n, d, e, o, ⟨hk, hz⟩, q⟩ := hS
  have sS : a9 ∈ Γ.tb := ht ▸ hp
  refine ⟨_, (ai (aF (i := 2) nO.nd rfl (Or.inr rfl) (aI vt (hr.mono (by decide)) rfl fb.mg fb.fn.kp fb.bd g6 hP hw hK ht hE (aa (qv 0) ae)))
    (ai (cS (QW.pt (qm (iF (iE (aw (iH (K := K) rfl) rfl bl.isinstance_ aD (aa (qv 1) (aa (h8 (v := .ty "str") rfl bl.str_ FD rfl) ae))))) (nA (bX Gg (aw (eC (K := K) rfl hK) rfl bl.len_ PySem.boot_len (aa (qv 1) ae)) (rA (i := 2000) rfl dJ ⟨_, rfl⟩) (cE _)))))
      (aB (bo eO))
      qss_nil)
    (aB (bo (rM (k := 0) (N' := ["sign", "signs"]) (tn := 1) (idx := [2]) sS (hr.mono (by decide)) rfl (show aL ["net", "thing", "signs"] (ah gL) _ ["sign", "signs"] 1 [2] from by decide +kernel) rfl rfl jh.code jh.hd du rfl bl.all_ (F9 (qv 1)) (fun _ _ _ _ _ _ _ hr => (bE (i := 0) (show List.Nodup [("sign" : Str), ("signs" : Str)] from by decide +kernel) rfl (Or.inl rfl))) (fun _ _ _ _ _ _ _ hr => cJ) (fun _ _ _ _ _ _ _ hr => (CL zW (qv 0) (qv 1) (by rfl)))))))), ?_⟩
  subst e
  have big : (10000 : Nat) < sizeLine := by decide
  refine ⟨aq, n, rfl, o, ?_⟩
  cases d with
  | str z =>
    have hl := hz z rfl
    simp! only []
    refine ⟨by decide, by omega, eG (fun h => ?_) (fun h => ?_)⟩
    · simp only [di, show decide (z.length ≤ 2000) = false by simp at h ⊢; omega, Bool.false_and] at q
      exact .inl q
    · refine lF (Hb n) (fun τ => ∃ x, τ = [x, some (.str (sgn n))]) ⟨none, rfl⟩ (fun d hd τ ⟨x, e⟩ R hR => ?_) ?_
      · subst e
        obtain ⟨c, hc, rfl⟩ := List.mem_map.mp hd
        exact ⟨trivial, hR _ ⟨_, rfl⟩⟩
      · simp only [di, show decide (z.length ≤ 2000) = true by simp at h ⊢; omega, Bool.true_and] at q
        exact .inl q
  | _ => first | exact ⟨by decide, .inl q⟩ | exact nomatch hk
noncomputable def pR (C : Addr) : b5 := fun ds M Q E => ∃ aq n d, ds = [eN aq, d] ∧ gu aq n ∧ pP d ∧ (di n d = true → Q .ao M) ∧ (di n d = false → E C M)
theorem sf {f f1 : Addr} {fd bp : FuncData} (D : Df K mg "need_word" gz ["net", "thing"] f fd) (eL : Df K mg "is_word" gL ["net", "thing"] f1 bp) (yx : FnOk P w K mg base (bK P w) 9 f1 bp ["net", "thing"] (aW P w K tb vp))
    (X_ : om K C0 cs) (gj : C_NoWord ∈ cs) (gm : mg "NoWord" = some (.ref C_NoWord)) : FnOk P w K mg base (bK P w) 10 f fd ["net", "thing"] (aW P w K tb (pR C_NoWord)) := by
  refine g8 D se (fun ds M Q E hS => by obtain ⟨aq, n, d, e, _⟩ := hS; rw [e]; rfl) fun A outer s E Γ ds Q' E' hP hw hK ht hE hr hS => ?_
  obtain ⟨aq, n, d, e, o, hk, q1, q2⟩ := hS
  refine ⟨_, (aB (cS (iF (iE (aI yx (hr.mono (by decide)) rfl eL.mg eL.fn.kp eL.bd g6 hP hw hK ht hE (aa (qv 0) (aa (qv 1) ae)))))
      (aB (rL (X_.ex _ gj) PySem.F.excBase_ValueError rfl w6 hE rfl gm (aa ay ae)))
      qss_nil)), ?_⟩
  subst e
  simp! only []
  refine ⟨aq, n, d, rfl, o, hk, eG (fun h => ?_) (fun h => ?_)⟩
  · exact ⟨by decide, q2 (by simpa using h)⟩
  · exact .inl (q1 (by simpa using h))
end
section
variable {P : Program} {w : World} {K : PySem.W.Frag} {mg : Str → Option Value} {base : Heap} {tb : b0} {C_RoadError C_NoNet C_NoPlace C_NoSign C_NoWord C_NoWhole C_NoNumber C_NoKin C_NoSet C_NoPair C_NoStep C_NoCall C_TooMany C_NoPaper C_NoText C_NoRow C_NoDeed : Addr} {cs : List Addr}
theorem cR : aN ["_law_e", "_law_kinds", "_law_names"] ["_law_e"] (ah gA) := ⟨rfl, rfl, rfl, by decide +kernel, rfl, by decide +kernel, by decide +kernel⟩
theorem ji : aN ["_law_deed", "_law_e"] ["_law_deed"] (ah eW) := ⟨rfl, rfl, rfl, by decide +kernel, rfl, by decide +kernel, by decide +kernel⟩
noncomputable def qw : List Str := ["net", "place", "sign", "word", "whole", "number", "kin", "set", "pair", "step", "call", "many", "paper", "text", "row", "deed"]
theorem nQ {C : Addr} : ∀ {L : List Addr}, L.Nodup → C ∈ L → (L.map fun D => decide (C = D)).count true = 1
  | D :: L, nd, h => by
    obtain ⟨h1, h2⟩ := List.nodup_cons.mp nd
    rw [List.map_cons, List.count_cons]
    by_cases e : C = D
    · subst e
      have : (L.map fun D => decide (C = D)).count true = 0 := List.count_eq_zero.mpr fun z => by
        obtain ⟨D, hD, e⟩ := List.mem_map.mp z
        rw [of_decide_eq_true e] at h1
        exact h1 hD
      rw [this]
      simp
    · rcases List.mem_cons.mp h with z | z
      · exact absurd z e
      · rw [nQ h2 z, decide_eq_false e]
        rfl
theorem vv {C : Addr} {L : List Addr} (nd : L.Nodup) {j : Nat} (h : L[j]? = some C) : oB (L.map fun D => Dt.bl (decide (C = D))) (.bl true) j := by
  refine ⟨⟨.bl true, by rw [List.getElem?_map, h]; simp, by simp [b9]⟩, fun m t hm ht => ?_⟩
  rw [List.getElem?_map, Option.map_eq_some_iff] at ht
  obtain ⟨D, hD, rfl⟩ := ht
  have ne : C ≠ D := fun e => by
    subst e
    have h1 := (List.getElem?_eq_some_iff.mp h)
    have h2 := (List.getElem?_eq_some_iff.mp hD)
    obtain ⟨a1, b1⟩ := h1
    obtain ⟨a2, b2⟩ := h2
    exact List.pairwise_iff_getElem.mp nd m j a2 a1 hm (b2.trans b1.symm)
  rw [decide_eq_false ne]
  simp [b9]
structure Kinds (K : PySem.W.Frag) (C0 : Addr) (cs L : List Addr) : Prop where
  nd : L.Nodup
  one : ∀ C ∈ cs, ∀ D ∈ L, PySem.W.kitOne K (.ref C) (.ref D) = some (decide (C = D))
theorem kinds_of {C0 Cp : Addr} {cs L1 L2 : List Addr} (X_ : om K C0 cs) (nd : (L1 ++ L2).Nodup) (h : ∀ D ∈ L1 ++ L2, D ∈ cs) (pb : cs.all (fun C => PySem.W.kitOne K (.ref C) (.ref Cp) == some false) = true) : Kinds K C0 cs (L1 ++ Cp :: L2) := by
  have np : ∀ C ∈ cs, PySem.W.kitOne K (.ref C) (.ref Cp) = some false := fun C hC => by have := List.all_eq_true.mp pb C hC; simpa using this
  have ne : ∀ C ∈ cs, C ≠ Cp := fun C hC e => by
    subst e
    have := np C hC
    rw [X_.one _ hC _ hC] at this
    simp at this
  refine ⟨?_, fun C hC D hD => ?_⟩
  · rw [List.nodup_append] at nd ⊢
    obtain ⟨n1, n2, n3⟩ := nd
    refine ⟨n1, List.nodup_cons.mpr ⟨fun z => ne _ (h _ (List.mem_append_right _ z)) rfl, n2⟩, fun a ha b hb => ?_⟩
    rcases List.mem_cons.mp hb with rfl | hb
    · exact ne _ (h _ (List.mem_append_left _ ha))
    · exact n3 a ha b hb
  · have hD : D ∈ L1 ++ L2 ∨ D = Cp := by
      rcases List.mem_append.mp hD with z | z
      · exact .inl (List.mem_append_left _ z)
      · rcases List.mem_cons.mp z with z | z
        · exact .inr z
        · exact .inl (List.mem_append_right _ z)
    rcases hD with hD | rfl
    · exact X_.one _ hC _ (h D hD)
    · rw [np C hC, decide_eq_false (ne C hC)]
noncomputable def vw (cs L : List Addr) : b5 := fun ds M Q _ => ∃ (C : Addr) (j : Nat) (nm : Str), ds = [.exc C] ∧ C ∈ cs ∧ L[j]? = some C ∧ qw[j]? = some nm ∧ Q (.str nm) M
theorem sT {f : Addr} {fd : FuncData} (D : Df K mg "_law_kind" gA ["_law_e"] f fd) (X_ : om K C_RoadError cs) (kn : Kinds K C_RoadError cs [C_NoNet, C_NoPlace, C_NoSign, C_NoWord, C_NoWhole, C_NoNumber, C_NoKin, C_NoSet, C_NoPair, C_NoStep, C_NoCall, C_TooMany, C_NoPaper, C_NoText, C_NoRow, C_NoDeed])
    (ib : mg "NoNet" = some (.ref C_NoNet)) (lh : mg "NoPlace" = some (.ref C_NoPlace)) (mH : mg "NoSign" = some (.ref C_NoSign)) (gm : mg "NoWord" = some (.ref C_NoWord)) (lj : mg "NoWhole" = some (.ref C_NoWhole)) (jY : mg "NoNumber" = some (.ref C_NoNumber)) (oE : mg "NoKin" = some (.ref C_NoKin)) (oF : mg "NoSet" = some (.ref C_NoSet)) (mI : mg "NoPair" = some (.ref C_NoPair)) (mJ : mg "NoStep" = some (.ref C_NoStep)) (mK : mg "NoCall" = some (.ref C_NoCall)) (ll : mg "TooMany" = some (.ref C_TooMany)) (lq : mg "NoPaper" = some (.ref C_NoPaper)) (mL : mg "NoText" = some (.ref C_NoText)) (oG : mg "NoRow" = some (.ref C_NoRow)) (mM : mg "NoDeed" = some (.ref C_NoDeed)) (bl : Bl mg) :
    FnOkN P w K mg base bH 1 f fd ["_law_e"] (aW P w K tb (vw cs [C_NoNet, C_NoPlace, C_NoSign, C_NoWord, C_NoWhole, C_NoNumber, C_NoKin, C_NoSet, C_NoPair, C_NoStep, C_NoCall, C_TooMany, C_NoPaper, C_NoText, C_NoRow, C_NoDeed])) := by
  refine Jg D cR (fun ds M Q E hS => by obtain ⟨C, j, nm, e, _⟩ := hS; rw [e]; rfl) fun A outer s E Γ ds Q' E' hP hw hK ht hr hS => ⟨_, (ai (cS (iF (iE (aw (dg (K := K) rfl) rfl bl.isinstance_ aD (aa (qv 0) (aa (h8 (v := .ty "ValueError") rfl bl.ValueError_ pX rfl) ae)))))
      (aB (bo ay))
      qss_nil)
    (ai (aF (i := 1) cR.nd rfl (Or.inl rfl) (bT (aa (aw (dg (K := K) rfl) rfl bl.isinstance_ aD (aa (qv 0) (aa (bF (v := .ref C_NoNet) rfl ib rfl) ae))) (aa (aw (dg (K := K) rfl) rfl bl.isinstance_ aD (aa (qv 0) (aa (bF (v := .ref C_NoPlace) rfl lh rfl) ae))) (aa (aw (dg (K := K) rfl) rfl bl.isinstance_ aD (aa (qv 0) (aa (bF (v := .ref C_NoSign) rfl mH rfl) ae))) (aa (aw (dg (K := K) rfl) rfl bl.isinstance_ aD (aa (qv 0) (aa (bF (v := .ref C_NoWord) rfl gm rfl) ae))) ae))))))
    (ai (aF (i := 1) cR.nd rfl (Or.inl rfl) (aC (iN (K := K) rfl) (qv 1) (bT (aa (aw (dg (K := K) rfl) rfl bl.isinstance_ aD (aa (qv 0) (aa (bF (v := .ref C_NoWhole) rfl lj rfl) ae))) (aa (aw (dg (K := K) rfl) rfl bl.isinstance_ aD (aa (qv 0) (aa (bF (v := .ref C_NoNumber) rfl jY rfl) ae))) (aa (aw (dg (K := K) rfl) rfl bl.isinstance_ aD (aa (qv 0) (aa (bF (v := .ref C_NoKin) rfl oE rfl) ae))) (aa (aw (dg (K := K) rfl) rfl bl.isinstance_ aD (aa (qv 0) (aa (bF (v := .ref C_NoSet) rfl oF rfl) ae))) ae)))))))
    (ai (aF (i := 1) cR.nd rfl (Or.inl rfl) (aC (iN (K := K) rfl) (qv 1) (bT (aa (aw (dg (K := K) rfl) rfl bl.isinstance_ aD (aa (qv 0) (aa (bF (v := .ref C_NoPair) rfl mI rfl) ae))) (aa (aw (dg (K := K) rfl) rfl bl.isinstance_ aD (aa (qv 0) (aa (bF (v := .ref C_NoStep) rfl mJ rfl) ae))) (aa (aw (dg (K := K) rfl) rfl bl.isinstance_ aD (aa (qv 0) (aa (bF (v := .ref C_NoCall) rfl mK rfl) ae))) (aa (aw (dg (K := K) rfl) rfl bl.isinstance_ aD (aa (qv 0) (aa (bF (v := .ref C_TooMany) rfl ll rfl) ae))) ae)))))))
    (ai (aF (i := 1) cR.nd rfl (Or.inl rfl) (aC (iN (K := K) rfl) (qv 1) (bT (aa (aw (dg (K := K) rfl) rfl bl.isinstance_ aD (aa (qv 0) (aa (bF (v := .ref C_NoPaper) rfl lq rfl) ae))) (aa (aw (dg (K := K) rfl) rfl bl.isinstance_ aD (aa (qv 0) (aa (bF (v := .ref C_NoText) rfl mL rfl) ae))) (aa (aw (dg (K := K) rfl) rfl bl.isinstance_ aD (aa (qv 0) (aa (bF (v := .ref C_NoRow) rfl oG rfl) ae))) (aa (aw (dg (K := K) rfl) rfl bl.isinstance_ aD (aa (qv 0) (aa (bF (v := .ref C_NoDeed) rfl mM rfl) ae))) ae)))))))
    (ai (aF (i := 2) cR.nd rfl (Or.inl rfl) (bT (aa ay (aa ay (aa ay (aa ay (aa ay (aa ay (aa ay (aa ay (aa ay (aa ay (aa ay (aa ay (aa ay ae)))))))))))))))
    (ai (aF (i := 2) cR.nd rfl (Or.inl rfl) (aC (iN (K := K) rfl) (qv 2) (bT (aa ay (aa ay (aa ay ae))))))
    (ai (cS (bX zV (lB (K := K) rfl PySem.F.plainAttrs_list PySem.F.slot_list_count PySem.F.type_list_count Aa (qv 1) (aa eO ae)) ak (cE _))
      (aB (bo ay))
      qss_nil)
    (aB (bo (bP (cV (K := K) rfl) (qv 2) (lB (K := K) rfl PySem.F.plainAttrs_list PySem.F.slot_list_index PySem.F.type_list_index (z9 hr.units) (qv 1) (aa eO ae)) (fun _ _ => rfl)))))))))))), ?_⟩
  obtain ⟨C, j, nm, e, hC, hj, hn, q⟩ := hS
  subst e
  have cl := X_.cl _ hC
  have vl := X_.val _ hC
  have Dk := kn.one C hC C_NoNet (by simp)
  have yy := kn.one C hC C_NoPlace (by simp)
  have Ak := kn.one C hC C_NoSign (by simp)
  have Al := kn.one C hC C_NoWord (by simp)
  have yz := kn.one C hC C_NoWhole (by simp)
  have vy := kn.one C hC C_NoNumber (by simp)
  have Dl := kn.one C hC C_NoKin (by simp)
  have Dm := kn.one C hC C_NoSet (by simp)
  have Am := kn.one C hC C_NoPair (by simp)
  have An := kn.one C hC C_NoStep (by simp)
  have Ao := kn.one C hC C_NoCall (by simp)
  have yA := kn.one C hC C_TooMany (by simp)
  have yB := kn.one C hC C_NoPaper (by simp)
  have Ap := kn.one C hC C_NoText (by simp)
  have Dn := kn.one C hC C_NoRow (by simp)
  have Aq := kn.one C hC C_NoDeed (by simp)
  simp! only [vl, Dk, yy, Ak, Al, yz, vy, Dl, Dm, Am, An, Ao, yA, yB, Ap, Dn, Aq]
  have hc := nQ (C := C) kn.nd (List.mem_of_getElem? hj)
  have hf := vv (C := C) kn.nd hj
  simp only [List.map_cons, List.map_nil] at hc hf
  refine ⟨cl, cl, cl, cl, cl, by decide, cl, cl, cl, cl, by decide, by decide, cl, cl, cl, cl, by decide, by decide, cl, cl, cl, cl, by decide, by decide, by decide, by decide, by decide, ?_⟩
  simp only [Option.map_some, hc]
  refine eG (fun h => absurd h (by decide)) (fun _ => ?_)
  have Pq : j < 16 := (List.getElem?_eq_some_iff.mp hj).1
  have en : cq (qw.map Dv.str) (j : Int) = some (.str nm) := cu (by rw [List.getElem?_map, hn]; rfl)
  simp only [qw, List.map_cons, List.map_nil] at en
  refine ⟨fun t ht => ?_, j, hf, by omega, ?_⟩
  · simp only [List.mem_cons, List.not_mem_nil, or_false] at ht
    rcases ht with rfl | rfl | rfl | rfl | rfl | rfl | rfl | rfl | rfl | rfl | rfl | rfl | rfl | rfl | rfl | rfl <;> simp [fW]
  · simp only [en]
    exact .inl q
noncomputable def Jj (bz : List Dv) (C : Addr) : List Dv → b5 := fun Mt ds M _ E => Mt = bz ∧ ds = [] ∧ E C M
noncomputable def sh (P : Program) (w : World) (K : PySem.W.Frag) (mg : Str → Option Value) (tb : b0) (cs L : List Addr) (base : Heap) : b5 := fun ds M Q _ => ∃ (f : Addr) (fd : FuncData) (o : Obj) (c : Addr) (oc : Obj) (vcs : List V) (bz : List Dv) (C : Addr) (j : Nat) (nm : Str), ds = [.bS f o c oc vcs bz] ∧
  FnOk P w K mg base (bK P w) 12 f fd [] (GK P w K tb f o c oc vcs (Jj bz C)) ∧ (∃ oc od fd sl, o = ⟨oc, od, .func fd, sl⟩) ∧ Binds K fd [] [] ∧ C ∈ cs ∧ L[j]? = some C ∧ qw[j]? = some nm ∧ Q (.str nm) M
theorem oH {f f1 : Addr} {fd bp : FuncData} {L : List Addr} (D : Df K mg "_law_refused" eW ["_law_deed"] f fd) (eu : Df K mg "_law_kind" gA ["_law_e"] f1 bp) (sU : FnOkN P w K mg base bH 1 f1 bp ["_law_e"] (aW P w K tb (vw cs L)))
    (X_ : om K C_RoadError cs) (jq : mg "RoadError" = some (.ref C_RoadError)) (bl : Bl mg) : FnOk P w K mg base bH 13 f fd ["_law_deed"] (aW P w K tb (sh P w K mg tb cs L base)) := by
  refine gR D ji (fun ds M Q E hS => by obtain ⟨f, fd, o, c, oc, vcs, bz, C, j, nm, e, _⟩ := hS; rw [e]; rfl) fun A outer s E Γ ds Q' E' hP hw hK ht hr hS => ?_
  obtain ⟨f, fd, o, c, oc, vcs, bz, C, j, nm, e, sV, sW, sX, hC, hj, hn, q⟩ := hS
  refine ⟨_, (ai (Gq (i := 1) (nn := 2) rfl ji.nd rfl rfl ⟨rfl, rfl⟩ rfl X_.top rfl jq (fun T pn EE E2 BD GN O5 O6 KC hp O7 => by
      have hP := hP.trans GN.symm
      have hw := hw.trans O5.symm
      have hK := hK.trans O6.symm
      have ht := ht.trans KC.symm
      exact (aB (fG (ye (k := 12) (i := 0) sV sW (hr.mono (by decide)) rfl (Or.inl rfl) sX hp hP hw hK ht O7))))
      (fun ea => (aB (bo (Ac sU (hr.Jf.mono (by decide)) rfl eu.mg eu.fn.kp eu.bd bh hP hw hK ht XR.none (aa (qv 1) ae))))))
    (aB (bo ay))), ?_⟩
  subst e
  simp! only []
  refine ⟨rfl, rfl, X_.sub _ hC, C, j, nm, rfl, hC, hj, hn, .inl q⟩
end
section
variable {P : Program} {w : World} {K : PySem.W.Frag} {mg : Str → Option Value} {base : Heap} {tb : b0}
theorem b6 : aN ["_law_bag_here", "_law_net_here", "_law_at", "_law_row", "_law_odd", "_law_some"] ["_law_bag_here", "_law_net_here"] (ah ed) := ⟨rfl, rfl, rfl, by decide +kernel, rfl, by decide +kernel, by decide +kernel⟩
theorem Dp (r : List Int) : iS (eI r) = true := by
  simp only [iS, eI, List.all_eq_true]
  intro d hd
  obtain ⟨i, _, rfl⟩ := List.mem_map.mp hd
  rfl
theorem si {rs : List Dv} {r : Dv} (hr : r ∈ rs) (h : ∀ w, w = 2 ∨ w = 3 → dq rs.length w r = false) : dY (.tup rs) = false := by
  have f : ∀ w, w = 2 ∨ w = 3 → rs.all (dq rs.length w) = false := fun w hw => by
    rw [List.all_eq_false]
    exact ⟨r, hr, by rw [h w hw]; exact Bool.false_ne_true⟩
  simp only [dY, f 2 (.inl rfl), f 3 (.inr rfl), Bool.or_self, Bool.and_false]
theorem sY {m : Nat} {ds : List Dv} {d : Dv} (hd : d ∈ ds) (h : cn m d = false) : ds.all (cn m) = false := by
  rw [List.all_eq_false]
  exact ⟨d, hd, by rw [h]; exact Bool.false_ne_true⟩
theorem Dq {aq : List (List Int)} {k : Nat} (hk : k < aq.length) : cq (aq.map eI) (k : Int) = some (eI aq[k]) := cu (by rw [List.getElem?_map, List.getElem?_eq_getElem hk]; rfl)
theorem Ar {n w : Nat} {ds : List Dv} {d : Dv} (hd : d ∈ ds) (h : cn n d = false) : dq n w (.tup ds) = false := by
  simp only [dq, sY hd h, Bool.and_false]
theorem oI {xs : List Dv} {lo hi : Option Int} {d : Dv} (h : d ∈ L2.cutD xs lo hi) : d ∈ xs := List.mem_of_mem_drop (List.mem_of_mem_take h)
theorem oJ {xs : List Dv} {lo hi : Option Int} : (L2.cutD xs lo hi).length ≤ xs.length := by
  unfold L2.cutD
  rw [List.length_take, List.length_drop]
  omega
theorem sj {aq : List (List Int)} : ∀ d ∈ aq.map eI, iS d = true := fun d hd => by
  obtain ⟨r, _, rfl⟩ := List.mem_map.mp hd
  exact Dp r
theorem ur {r : List Int} : ∀ d ∈ r.map Dv.int, jo d = true := fun d hd => by
  obtain ⟨i, _, rfl⟩ := List.mem_map.mp hd
  rfl
theorem yC {aq : List (List Int)} {r : Dv} {at_ : Nat} (ix : at_ < aq.length) (hk : iS r = true) (h : ∀ w, w = 2 ∨ w = 3 → dq aq.length w r = false) : gS (.tup (L2.cutD (aq.map eI) none (some (at_ : Nat)) ++ [r] ++ L2.cutD (aq.map eI) (some ((at_ : Nat) + 1)) none)) = true ∧ dY (.tup (L2.cutD (aq.map eI) none (some (at_ : Nat)) ++ [r] ++ L2.cutD (aq.map eI) (some ((at_ : Nat) + 1)) none)) = false := by
  have el : (L2.cutD (aq.map eI) none (some (at_ : Nat)) ++ [r] ++ L2.cutD (aq.map eI) (some ((at_ : Nat) + 1)) none).length = aq.length := by
    rw [show ((at_ : Nat) : Int) + 1 = ((at_ + 1 : Nat) : Int) by omega, C4, xP]
    simp only [List.length_append, List.length_singleton, List.length_take, List.length_drop, List.length_map]
    omega
  refine ⟨?_, si (r := r) (by simp) fun w hw => by rw [el]; exact h w hw⟩
  simp only [gS, List.all_eq_true]
  intro d hd
  rcases List.mem_append.mp hd with hd | hd
  · rcases List.mem_append.mp hd with hd | hd
    · exact sj d (oI hd)
    · rw [List.mem_singleton] at hd; subst hd; exact hk
  · exact sj d (oI hd)
theorem uv {ds : List Dv} (h : ∀ d ∈ ds, jo d = true) : iS (.tup ds) = true := by
  simp only [iS, List.all_eq_true]
  exact h
noncomputable def iT (row : List Int) (m : Nat) : List Dv := [.ao, .tup (row.map Dv.int ++ [.int 0, .int 0]), .tup [], .lst (row.map Dv.int), .tup (L2.cutD (row.map Dv.int) none (some (-1)) ++ [.int (m : Nat)]), .tup (L2.cutD (row.map Dv.int) none (some (-1)) ++ [.int (-1)]), .int 5,
  .tup (L2.cutD (row.map Dv.int) none (some (-1)) ++ [.bl true]), .tup (L2.cutD (row.map Dv.int) none (some (-1)) ++ [.str (Str.ofString "0")]), .tup (L2.cutD (row.map Dv.int) none (some (-1)) ++ [.int (10 ^ Int.toNat 39)]), .tup (L2.cutD (row.map Dv.int) none (some (-1)) ++ [.tup [.int 0]])]
theorem yD {row : List Int} {m n : Nat} (h9 : m ≤ 9) (hw : n = 2 ∨ n = 3) (hr : row.length = n) : ∀ d ∈ iT row m, iS d = true ∧ ∀ w, w = 2 ∨ w = 3 → dq m w d = false := fun d hd => by
  have big : (10 : Int) ^ Int.toNat 39 = 1000000000000000000000000000000000000000 := by decide +kernel
  have cut : ∀ y : Dv, jo y = true → cn m y = false → iS (.tup (L2.cutD (row.map Dv.int) none (some (-1)) ++ [y])) = true ∧ ∀ w, w = 2 ∨ w = 3 → dq m w (.tup (L2.cutD (row.map Dv.int) none (some (-1)) ++ [y])) = false := fun y hk hb =>
    ⟨uv fun d hd => by
      rcases List.mem_append.mp hd with hd | hd
      · exact ur d (oI hd)
      · rw [List.mem_singleton] at hd; subst hd; exact hk, fun w _ => Ar (d := y) (by simp) hb⟩
  simp only [iT, List.mem_cons, List.not_mem_nil, or_false] at hd
  rcases hd with rfl | rfl | rfl | rfl | rfl | rfl | rfl | rfl | rfl | rfl | rfl
  · exact ⟨rfl, fun _ _ => rfl⟩
  · refine ⟨uv fun d hd => ?_, fun w hw => ?_⟩
    · rcases List.mem_append.mp hd with hd | hd
      · exact ur d hd
      · simp at hd; rcases hd with rfl | rfl <;> rfl
    · simp only [dq, List.length_append, List.length_map, List.length_cons, List.length_nil, Bool.and_eq_false_iff, decide_eq_false_iff_not]
      left
      omega
  · exact ⟨rfl, fun w hw => by rcases hw with rfl | rfl <;> rfl⟩
  · exact ⟨rfl, fun _ _ => rfl⟩
  · exact cut _ rfl (by simp [cn])
  · exact cut _ rfl (by simp [cn])
  · exact ⟨rfl, fun _ _ => rfl⟩
  · exact cut _ rfl rfl
  · exact cut _ rfl rfl
  · exact cut _ rfl (by simp only [cn, Bool.and_eq_false_iff, decide_eq_false_iff_not]; right; omega)
  · exact cut _ rfl rfl
noncomputable def putAt (aq : List (List Int)) (at_ : Nat) (y : Dv) : Dv := .tup (L2.cutD (aq.map eI) none (some (at_ : Nat)) ++ [y] ++ L2.cutD (aq.map eI) (some ((at_ : Nat) + 1)) none)
noncomputable def gp (aq : List (List Int)) : List Dv := [.ao, .bl true, .int 0, .str (Str.ofString "00"), .str (Str.ofString ""), .tup [], .lst [], .lst (aq.map eI), .tup [.tup [.int 0]], .tup (List.replicate (Int.toNat 10) [Dv.tup [.int 0, .int 0]]).flatten, .tup (aq.map eI ++ [.tup [.int 0]]), .tup [.ao], .tup [.tup [.tup [.int 0, .int 0]]]]
theorem vz {aq : List (List Int)} {n : Nat} (O : gu aq n) : ∀ d ∈ gp aq, gS d = true ∧ dY d = false := fun d hd => by
  simp only [gp, List.mem_cons, List.not_mem_nil, or_false] at hd
  rcases hd with rfl | rfl | rfl | rfl | rfl | rfl | rfl | rfl | rfl | rfl | rfl | rfl | rfl
  any_goals exact ⟨rfl, rfl⟩
  refine ⟨?_, si (r := .tup [.int 0]) (by simp) fun w hw => by rcases hw with rfl | rfl <;> rfl⟩
  simp only [gS, List.all_eq_true]
  intro d hd
  rcases List.mem_append.mp hd with hd | hd
  · exact sj d hd
  · rw [List.mem_singleton] at hd; subst hd; rfl
noncomputable def yE : b5 := fun ds M Q _ => ∃ (b : Addr) (aq : List (List Int)) (n : Nat), ds = [.ptr b, eN aq] ∧ M b = some .cO ∧ gu aq n ∧ ∀ d, gS d = true → dY d = false → Q d M
theorem qb {f f1 : Addr} {fd bp : FuncData} (D : Df K mg "_law_no_net" ed ["_law_bag_here", "_law_net_here"] f fd)
    (af : Df K mg "_law_take" cI ["_law_bag_here", "_law_many"] f1 bp) (aP : FnOk P w K mg base bH 1 f1 bp ["_law_bag_here", "_law_many"] (aW P w K tb jf)) (bl : Bl mg) :
    FnOk P w K mg base bH 2 f fd ["_law_bag_here", "_law_net_here"] (aW P w K tb yE) := by
  refine gR D b6 (fun ds M Q E hS => by obtain ⟨b, aq, n, e, _⟩ := hS; rw [e]; rfl) fun A outer s E Γ ds Q' E' hP hw hK ht hr hS => ⟨_, (ai (aF (i := 2) b6.nd rfl (Or.inr rfl) (aI aP (hr.mono (by decide)) rfl af.mg af.fn.kp af.bd bh hP hw hK ht XR.none (aa (qv 0) (aa (aw (eC (K := K) rfl hK) rfl bl.len_ PySem.boot_len (aa (qv 1) ae)) ae))))
    (ai (aF (i := 3) b6.nd rfl (Or.inl rfl) (bP (cV (K := K) rfl) (qv 1) (qv 2) (fun _ _ => rfl)))
    (ai (aF (i := 4) b6.nd rfl (Or.inl rfl) (bT (aa (aU (aa nz ae)) (aa (aU (aa (aC (fo (K := K) rfl) (qv 3) (aU (aa ak (aa ak ae)))) ae)) (aa (aU (aa (aU ae) ae)) (aa (aU (aa (ja (xH (K := K) rfl) rfl bl.list_ tT (aa (qv 3) ae)) ae)) (aa (aU (aa (aC (fo (K := K) rfl) (dU (i9 (K := K) rfl) (qv 3) eR (eS (iK ak))) (aU (aa (aw (eC (K := K) rfl hK) rfl bl.len_ PySem.boot_len (aa (qv 1) ae)) ae))) ae)) (aa (aU (aa (aC (fo (K := K) rfl) (dU (i9 (K := K) rfl) (qv 3) eR (eS (iK ak))) (aU (aa (iK ak) ae))) ae)) (aa (aU (aa ak ae)) ae)))))))))
    (ai (aF (i := 4) b6.nd rfl (Or.inl rfl) (aC (iN (K := K) rfl) (qv 4) (bT (aa (aU (aa (aC (fo (K := K) rfl) (dU (i9 (K := K) rfl) (qv 3) eR (eS (iK ak))) (aU (aa eO ae))) ae)) (aa (aU (aa (aC (fo (K := K) rfl) (dU (i9 (K := K) rfl) (qv 3) eR (eS (iK ak))) (aU (aa ay ae))) ae)) (aa (aU (aa (aC (fo (K := K) rfl) (dU (i9 (K := K) rfl) (qv 3) eR (eS (iK ak))) (aU (aa (aC uW ak ak) ae))) ae)) (aa (aU (aa (aC (fo (K := K) rfl) (dU (i9 (K := K) rfl) (qv 3) eR (eS (iK ak))) (aU (aa (aU (aa ak ae)) ae))) ae)) ae)))))))
    (ai (aF (i := 5) b6.nd rfl (Or.inl rfl) (bT (aa nz (aa eO (aa ak (aa ay (aa ay (aa (aU ae) (aa (bT ae) (aa (ja (xH (K := K) rfl) rfl bl.list_ tT (aa (qv 1) ae)) (aa (aU (aa (aU (aa ak ae)) ae)) (aa (aC GV (aU (aa (aU (aa ak (aa ak ae))) ae)) ak) (aa (aC (fo (K := K) rfl) (qv 1) (aU (aa (aU (aa ak ae)) ae))) (aa (aU (aa nz ae)) (aa (aU (aa (aU (aa (aU (aa ak (aa ak ae))) ae)) ae)) ae)))))))))))))))
    (ai (aF (i := 5) b6.nd rfl (Or.inl rfl) (aC (iN (K := K) rfl) (qv 5) (eh (N' := ["_law_one", "_law_net_here", "_law_at"]) (tn := 1) (idx := [1, 2]) rfl (show aL ["_law_bag_here", "_law_net_here", "_law_at", "_law_row", "_law_odd", "_law_some"] (ah ed) _ ["_law_one", "_law_net_here", "_law_at"] 1 [1, 2] from by decide +kernel) (oo (K := K) rfl (qv 4)) (fun _ _ _ _ _ => (bE (i := 0) (show List.Nodup [("_law_one" : Str), ("_law_net_here" : Str), ("_law_at" : Str)] from by decide +kernel) rfl (Or.inl rfl))) (fun _ _ _ _ _ => cJ) (fun _ _ _ _ _ => (aC (fo (K := K) rfl) (aC (fo (K := K) rfl) (dU (i9 (K := K) rfl) (qv 1) eR (eS (qv 2))) (qv 0)) (dU (i9 (K := K) rfl) (qv 1) (eS (aC fR (qv 2) ak)) eR))))))
    (aB (bo (bP (cV (K := K) rfl) (qv 5) (aI aP (hr.mono (by decide)) rfl af.mg af.fn.kp af.bd bh hP hw hK ht XR.none (aa (qv 0) (aa (aw (eC (K := K) rfl hK) rfl bl.len_ PySem.boot_len (aa (qv 5) ae)) ae))) (fun _ _ => rfl)))))))))), ?_⟩
  obtain ⟨b, aq, n, e, hb, O, q⟩ := hS
  subst e
  have h9 := O.nine
  have h1 := O.one
  have BL := O.wid
  have big : (1000 : Nat) < sizeLine := by decide
  dsimp! only []
  refine ⟨b, aq.length, rfl, hb, by omega, by omega, fun at_ ix => ?_⟩
  have As : at_ < aq.length := by omega
  have iR := O.row _ (List.getElem_mem As)
  dsimp! only [Dq As, eI]
  have ml : (aq.map eI).length = aq.length := by simp
  have rl : (List.map Dv.int aq[at_]).length = n := by rw [List.length_map]; exact iR.1
  have kc := @oJ (List.map Dv.int aq[at_]) none (some (-1))
  have k3 := @oJ (aq.map eI) none (some (at_ : Nat))
  have k4 := @oJ (aq.map eI) (some ((at_ : Nat) + 1)) none
  have PR : aq[at_].length = n := iR.1
  repeat first | refine ⟨by omega, ?_⟩ | refine ⟨⟨by decide, by decide, by decide⟩, ?_⟩ | refine ⟨⟨by simp, by decide, by decide, by decide⟩, ?_⟩
  refine t8 (fun d => match d with | .tup xs => .tup (L2.cutD (aq.map eI) none (some (at_ : Nat)) ++ xs ++ L2.cutD (aq.map eI) (some ((at_ : Nat) + 1)) none) | d => d) (fun τ M' => (∃ x, τ = [x, some (eN aq), some (.int (at_ : Nat))]) ∧ M' = Γ.M0) ⟨⟨_, rfl⟩, rfl⟩ (fun d hd τ M' hJ R hR => ?_) (fun τ M' hJ => ?_)
  · obtain ⟨⟨x, rfl⟩, rfl⟩ := hJ
    obtain ⟨y, rfl⟩ : ∃ y, d = .tup [y] := by
      simp only [List.mem_cons, List.not_mem_nil, or_false, List.cons_append, List.nil_append] at hd
      rcases hd with rfl | rfl | rfl | rfl | rfl | rfl | rfl | rfl | rfl | rfl | rfl <;> exact ⟨_, rfl⟩
    have h := hR [some (.tup [y]), some (eN aq), some (.int (at_ : Nat))] Γ.M0 ⟨⟨_, rfl⟩, rfl⟩
    simp! only [eI]
    refine ⟨by first | omega | (simp only [List.length_cons, List.length_nil]; omega), by first | omega | (simp only [List.length_append, List.length_cons, List.length_nil]; omega), h⟩
  obtain ⟨⟨x, rfl⟩, rfl⟩ := hJ
  refine ⟨by first | omega | (simp only [List.length_map, List.length_cons, List.length_nil]; omega), b, 24, rfl, hb, by decide, by decide, fun d hd => ?_⟩
  have sk : d < (gp aq ++ (iT aq[at_] aq.length).map (putAt aq at_)).length := by show d < 24; omega
  have e := cu (List.getElem?_eq_getElem sk)
  have e2 : gS ((gp aq ++ (iT aq[at_] aq.length).map (putAt aq at_))[d]) = true ∧ dY ((gp aq ++ (iT aq[at_] aq.length).map (putAt aq at_))[d]) = false := by
    rcases List.mem_append.mp (List.getElem_mem sk) with z | z
    · exact vz O _ z
    · obtain ⟨y, hy, ey⟩ := List.mem_map.mp z
      rw [← ey]
      obtain ⟨k1, k2⟩ := yD h9 BL iR.1 y hy
      exact yC As k1 k2
  generalize (gp aq ++ (iT aq[at_] aq.length).map (putAt aq at_))[d] = r at e e2
  show (match cq (gp aq ++ (iT aq[at_] aq.length).map (putAt aq at_)) ((d : Nat) : Int) with | some r => jn Γ.M0 Q' r Γ.M0 | none => False)
  rw [e]
  exact .inl (q _ e2.1 e2.2)
end
section
variable {P : Program} {w : World} {K : PySem.W.Frag} {mg : Str → Option Value} {base : Heap} {tb : b0} {C_RoadError C_NoNet C_NoWord : Addr} {cs : List Addr}
theorem yF : aN ["net", "word", "pairs", "places", "together", "call"] ["net", "word"] (ah jU) := ⟨rfl, rfl, rfl, by decide +kernel, rfl, by decide +kernel, by decide +kernel⟩
theorem jj : aN ["net", "never", "shaken"] ["net"] (ah dG) := ⟨rfl, rfl, rfl, by decide +kernel, rfl, by decide +kernel, by decide +kernel⟩
theorem nR : aN ["net", "pairs", "told", "place", "group"] ["net"] (ah gM) := ⟨rfl, rfl, rfl, by decide +kernel, rfl, by decide +kernel, by decide +kernel⟩
theorem gX : aN ["net", "groups", "number"] ["net"] (ah dX) := ⟨rfl, rfl, rfl, by decide +kernel, rfl, by decide +kernel, by decide +kernel⟩
theorem nS : aN ["net", "ends", "called"] ["net"] (ah eV) := ⟨rfl, rfl, rfl, by decide +kernel, rfl, by decide +kernel, by decide +kernel⟩
theorem eD : aN ["_law_bag_here", "_law_net_here", "_law_ways", "_law_some"] ["_law_bag_here", "_law_net_here"] (ah eX) := ⟨rfl, rfl, rfl, by decide +kernel, rfl, by decide +kernel, by decide +kernel⟩
noncomputable def Jk (CN CW : Addr) (d x : Dv) (C : Addr) : Prop := (gS d = true ∧ dY d = false ∧ C = CN) ∨ ∃ aq n, d = eN aq ∧ gu aq n ∧ pP x ∧ di n x = false ∧ C = CW
noncomputable def uw (CN CW : Addr) : b5 := fun ds M _ E => ∃ d x C, ds = [d, x] ∧ Jk CN CW d x C ∧ E C M
theorem yG {f f1 f2 : Addr} {fd bp fd2 : FuncData} (D : Df K mg "lifted" jU ["net", "word"] f fd) (bb : Df K mg "need_net" eU ["thing"] f1 bp) (fS : FnOk P w K mg base (bK P w) 7 f1 bp ["thing"] (aW P w K tb (qu C_NoNet)))
    (ez : Df K mg "need_word" gz ["net", "thing"] f2 fd2) (sZ : FnOk P w K mg base (bK P w) 10 f2 fd2 ["net", "thing"] (aW P w K tb (pR C_NoWord))) : FnOk P w K mg base (bK P w) 11 f fd ["net", "word"] (aW P w K tb (uw C_NoNet C_NoWord)) := by
  refine g8 D yF (fun ds M Q E hS => by obtain ⟨d, x, C, e, _⟩ := hS; rw [e]; rfl) fun A outer s E Γ ds Q' E' hP hw hK ht hE hr hS => ⟨_, (ai (fG (aI fS (hr.mono (by decide)) rfl bb.mg bb.fn.kp bb.bd g6 hP hw hK ht hE (aa (qv 0) ae)))
    (ai (fG (aI sZ (hr.mono (by decide)) rfl ez.mg ez.fn.kp ez.bd g6 hP hw hK ht hE (aa (qv 0) (aa (qv 1) ae)))) gJ)), ?_⟩
  obtain ⟨d, x, C, e, hB, q⟩ := hS
  subst e
  simp! only []
  rcases hB with ⟨hk, hd, rfl⟩ | ⟨aq, n, rfl, O, hk, hp, rfl⟩
  · exact ⟨d, rfl, hk, fun h => (by rw [hd] at h; cases h), fun _ => q⟩
  · exact ⟨_, rfl, uo aq, fun _ => ⟨aq, n, x, rfl, O, hk, fun h => (by rw [hp] at h; cases h), fun _ => q⟩, fun h => (by rw [um O] at h; cases h)⟩
noncomputable def jr (CN : Addr) : b5 := fun ds M _ E => ∃ d, ds = [d] ∧ gS d = true ∧ dY d = false ∧ E CN M
theorem nU {f f1 : Addr} {fd bp : FuncData} (D : Df K mg "never_called" eV ["net"] f fd) (bb : Df K mg "need_net" eU ["thing"] f1 bp) (fS : FnOk P w K mg base (bK P w) 7 f1 bp ["thing"] (aW P w K tb (qu C_NoNet))) : FnOk P w K mg base (bK P w) 8 f fd ["net"] (aW P w K tb (jr C_NoNet)) := by
  refine g8 D nS (fun ds M Q E hS => by obtain ⟨d, e, _⟩ := hS; rw [e]; rfl) fun A outer s E Γ ds Q' E' hP hw hK ht hE hr hS => ⟨_, (ai (fG (aI fS (hr.mono (by decide)) rfl bb.mg bb.fn.kp bb.bd g6 hP hw hK ht hE (aa (qv 0) ae))) gJ), ?_⟩
  obtain ⟨d, e, hk, hd, q⟩ := hS
  subst e
  simp! only []
  exact ⟨d, rfl, hk, fun h => (by rw [hd] at h; cases h), fun _ => q⟩
theorem nV {f f1 : Addr} {fd bp : FuncData} (D : Df K mg "stable_pairs" dG ["net"] f fd) (cK : Df K mg "never_called" eV ["net"] f1 bp) (oK : FnOk P w K mg base (bK P w) 8 f1 bp ["net"] (aW P w K tb (jr C_NoNet))) : FnOk P w K mg base (bK P w) 9 f fd ["net"] (aW P w K tb (jr C_NoNet)) := by
  refine g8 D jj (fun ds M Q E hS => by obtain ⟨d, e, _⟩ := hS; rw [e]; rfl) fun A outer s E Γ ds Q' E' hP hw hK ht hE hr hS => ⟨_, (ai (aF (i := 1) jj.nd rfl (Or.inl rfl) (aI oK (hr.mono (by decide)) rfl cK.mg cK.fn.kp cK.bd g6 hP hw hK ht hE (aa (qv 0) ae))) gJ), ?_⟩
  obtain ⟨d, e, hk, hd, q⟩ := hS
  subst e
  simp! only []
  exact ⟨d, rfl, hk, hd, q⟩
theorem vA {f f1 : Addr} {fd bp : FuncData} (D : Df K mg "classes" gM ["net"] f fd) (bf : Df K mg "stable_pairs" dG ["net"] f1 bp) (fc : FnOk P w K mg base (bK P w) 9 f1 bp ["net"] (aW P w K tb (jr C_NoNet))) : FnOk P w K mg base (bK P w) 10 f fd ["net"] (aW P w K tb (jr C_NoNet)) := by
  refine g8 D nR (fun ds M Q E hS => by obtain ⟨d, e, _⟩ := hS; rw [e]; rfl) fun A outer s E Γ ds Q' E' hP hw hK ht hE hr hS => ⟨_, (ai (aF (i := 1) nR.nd rfl (Or.inr rfl) (aI fc (hr.mono (by decide)) rfl bf.mg bf.fn.kp bf.bd g6 hP hw hK ht hE (aa (qv 0) ae))) gJ), ?_⟩
  obtain ⟨d, e, hk, hd, q⟩ := hS
  subst e
  simp! only []
  exact ⟨d, rfl, hk, hd, q⟩
theorem lN {f f1 : Addr} {fd bp : FuncData} (D : Df K mg "net_of_classes" dX ["net"] f fd) (cp : Df K mg "classes" gM ["net"] f1 bp) (jk : FnOk P w K mg base (bK P w) 10 f1 bp ["net"] (aW P w K tb (jr C_NoNet))) : FnOk P w K mg base (bK P w) 11 f fd ["net"] (aW P w K tb (jr C_NoNet)) := by
  refine g8 D gX (fun ds M Q E hS => by obtain ⟨d, e, _⟩ := hS; rw [e]; rfl) fun A outer s E Γ ds Q' E' hP hw hK ht hE hr hS => ⟨_, (ai (aF (i := 1) gX.nd rfl (Or.inl rfl) (aI jk (hr.mono (by decide)) rfl cp.mg cp.fn.kp cp.bd g6 hP hw hK ht hE (aa (qv 0) ae))) gJ), ?_⟩
  obtain ⟨d, e, hk, hd, q⟩ := hS
  subst e
  simp! only []
  exact ⟨d, rfl, hk, hd, q⟩
theorem Jl {n : Nat} (hn : n = 2 ∨ n = 3) : cq ("cd" : Str).cps.toList ((n : Nat) - 2 : Int) = some (97 + n) := by
  rcases hn with rfl | rfl <;> decide +kernel
theorem yH {z y : Str} {c : Nat} (h : c ∈ z.cps.toList) : c ∈ (z ++ y).cps.toList := by
  rw [show (z ++ y).cps = z.cps ++ y.cps from rfl, Array.toList_append, List.mem_append]
  exact .inl h
theorem pS {z y : Str} {c : Nat} (h : c ∈ y.cps.toList) : c ∈ (z ++ y).cps.toList := by
  rw [show (z ++ y).cps = z.cps ++ y.cps from rfl, Array.toList_append, List.mem_append]
  exact .inr h
noncomputable def wA : List Dv := [.ao, .bl true, .int 0, .lst [], .tup [], .lst [.str (Str.ofString "a")], .tup [.str (Str.ofString "a"), .str (Str.ofString "b")], .str (Str.ofString "d"), .str (Str.ofString "A"), .str (Str.ofString " "), .str (Str.ofString "a b"), .str (Str.ofString "ab."), .str (Str.ofString "abcd"), .str (Str.ofString "-"), .str (Txt.mul "a" 2001), .str (Txt.mul "b" 4000)]
noncomputable def gq (n : Nat) : List Dv := wA ++ [.str ((Str.ofString "ab") ++ (⟨#[97 + n]⟩ : Str)), .str ((⟨#[97 + n]⟩ : Str) ++ (Str.ofString "a")), .int (10 ^ Int.toNat 39), .lst [.str (Str.ofString "ab")], .str (Str.ofString "?a"), .str (Str.ofString "aa|"), .str (Txt.mul "a" 1999 ++ Str.ofString "??"), .str (Str.ofString "_")]
theorem jZ {z : Str} {n : Int} (h1 : 1 ≤ n) (h2 : n ≤ 10000) (hz : z.length ≤ 100) : MulOk z n := by
  have hm : z.length * n.toNat ≤ 100 * 10000 := Nat.mul_le_mul hz (by omega)
  refine ⟨?_, fun _ _ => ?_, fun _ _ => ?_⟩
  · rw [decide_eq_false (by omega), decide_eq_false (by omega)]
    rfl
  · have : (2 ^ 63 - 1) / 10000 ≤ (2 ^ 63 - 1) / n := by
      refine Int.le_ediv_of_mul_le (by omega) ?_
      have := Int.mul_le_mul_of_nonneg_left h2 (show (0 : Int) ≤ (2 ^ 63 - 1) / 10000 by decide)
      exact Int.le_trans this (by decide)
    have h3 : (100 : Int) ≤ (2 ^ 63 - 1) / 10000 := by decide
    omega
  · unfold Builtin.Str.tooLong
    refine decide_eq_false ?_
    have : (1000000 : Nat) ≤ sizeLine := by decide
    omega
theorem vB {n : Nat} (hn : n = 2 ∨ n = 3) : ∀ d ∈ gq n, pP d ∧ di n d = false := fun d hd => by
  have st : ∀ {y : Str} {c : Nat}, y.length ≤ 10000 → c ∈ y.cps.toList → (∀ k < n, c ≠ 97 + k) → pP (.str y) ∧ di n (.str y) = false := fun hy hc h => ⟨⟨rfl, fun z e => by cases e; omega⟩, yw hn hc h⟩
  have nW : ∀ d : Dv, jo d = true → (∀ z, d ≠ .str z) → di n d = false → pP d ∧ di n d = false := fun d h1 h2 h3 => ⟨⟨h1, fun z e => absurd e (h2 z)⟩, h3⟩
  have lm : ∀ (x : Str) (k : Int), 0 < k → x.length = 1 → ((Txt.mul x k).length : Int) = k := fun x k hk hx => by
    have := PyProof.Rows.len_mul_k (x := x) (n := k) 1 hx
    rw [if_neg (by omega)] at this
    omega
  have long : ∀ (y : Str), 2000 < y.length → y.length ≤ 10000 → pP (.str y) ∧ di n (.str y) = false := fun y h1 h2 => ⟨⟨rfl, fun z e => by cases e; omega⟩, by
    simp only [di, Bool.and_eq_false_iff, decide_eq_false_iff_not]
    left
    omega⟩
  simp only [gq, wA, List.cons_append, List.nil_append, List.mem_cons, List.not_mem_nil, or_false] at hd
  rcases hd with rfl | rfl | rfl | rfl | rfl | rfl | rfl | rfl | rfl | rfl | rfl | rfl | rfl | rfl | rfl | rfl | rfl | rfl | rfl | rfl | rfl | rfl | rfl | rfl
  · exact nW _ rfl (fun z e => nomatch e) rfl
  · exact nW _ rfl (fun z e => nomatch e) rfl
  · exact nW _ rfl (fun z e => nomatch e) rfl
  · exact nW _ rfl (fun z e => nomatch e) rfl
  · exact nW _ rfl (fun z e => nomatch e) rfl
  · exact nW _ rfl (fun z e => nomatch e) rfl
  · exact nW _ rfl (fun z e => nomatch e) rfl
  · exact st (c := 100) (by decide +kernel) (by decide +kernel) (fun k hk => by omega)
  · exact st (c := 65) (by decide +kernel) (by decide +kernel) (fun k hk => by omega)
  · exact st (c := 32) (by decide +kernel) (by decide +kernel) (fun k hk => by omega)
  · exact st (c := 32) (by decide +kernel) (by decide +kernel) (fun k hk => by omega)
  · exact st (c := 46) (by decide +kernel) (by decide +kernel) (fun k hk => by omega)
  · exact st (c := 100) (by decide +kernel) (by decide +kernel) (fun k hk => by omega)
  · exact st (c := 45) (by decide +kernel) (by decide +kernel) (fun k hk => by omega)
  · have := lm (Str.ofString "a") 2001 (by omega) (by decide +kernel)
    exact long _ (by omega) (by omega)
  · have := lm (Str.ofString "b") 4000 (by omega) (by decide +kernel)
    exact long _ (by omega) (by omega)
  · exact st (c := 97 + n) (by rw [jT]; show 2 + 1 ≤ 10000; omega) (pS (by simp)) (fun k hk => by omega)
  · exact st (c := 97 + n) (by rw [jT]; show 1 + 1 ≤ 10000; omega) (yH (by simp)) (fun k hk => by omega)
  · exact nW _ rfl (fun z e => nomatch e) rfl
  · exact nW _ rfl (fun z e => nomatch e) rfl
  · exact st (c := 63) (by decide +kernel) (by decide +kernel) (fun k hk => by omega)
  · exact st (c := 124) (by decide +kernel) (by decide +kernel) (fun k hk => by omega)
  · have := lm (Str.ofString "a") 1999 (by omega) (by decide +kernel)
    have l2 : (Str.ofString "??").length = 2 := by decide +kernel
    exact st (c := 63) (by rw [jT]; omega) (pS (by decide +kernel)) (fun k hk => by omega)
  · exact st (c := 95) (by decide +kernel) (by decide +kernel) (fun k hk => by omega)
noncomputable def pT : b5 := fun ds M Q _ => ∃ (b : Addr) (aq : List (List Int)) (n : Nat), ds = [.ptr b, eN aq] ∧ M b = some .cO ∧ gu aq n ∧ ∀ d, pP d → di n d = false → Q d M
theorem oM {f f1 : Addr} {fd bp : FuncData} (D : Df K mg "_law_no_word" eX ["_law_bag_here", "_law_net_here"] f fd)
    (af : Df K mg "_law_take" cI ["_law_bag_here", "_law_many"] f1 bp) (aP : FnOk P w K mg base bH 1 f1 bp ["_law_bag_here", "_law_many"] (aW P w K tb jf)) (bl : Bl mg) :
    FnOk P w K mg base bH 2 f fd ["_law_bag_here", "_law_net_here"] (aW P w K tb pT) := by
  refine gR D eD (fun ds M Q E hS => by obtain ⟨b, aq, n, e, _⟩ := hS; rw [e]; rfl) fun A outer s E Γ ds Q' E' hP hw hK ht hr hS => ⟨_, (ai (aF (i := 2) eD.nd rfl (Or.inl rfl) (aw (eC (K := K) rfl hK) rfl bl.len_ PySem.boot_len (aa (bP (cV (K := K) rfl) (qv 1) ak (fun _ _ => rfl)) ae)))
    (ai (aF (i := 3) eD.nd rfl (Or.inl rfl) (bT (aa nz (aa eO (aa ak (aa (bT ae) (aa (aU ae) (aa (bT (aa ay ae)) (aa (aU (aa ay (aa ay ae))) (aa ay (aa ay (aa ay (aa ay (aa ay (aa ay (aa ay (aa (aC k6 ay ak) (aa (aC k6 ay ak) ae))))))))))))))))))
    (ai (aF (i := 3) eD.nd rfl (Or.inl rfl) (aC (iN (K := K) rfl) (qv 3) (bT (aa (aC kW ay (bP (cV (K := K) rfl) ay (aC uV (qv 2) ak) (fun _ _ => rfl))) (aa (aC kW (bP (cV (K := K) rfl) ay (aC uV (qv 2) ak) (fun _ _ => rfl)) ay) (aa (aC uW ak ak) (aa (bT (aa ay ae)) (aa ay (aa ay (aa (aC kW (aC k6 ay ak) ay) (aa ay ae)))))))))))
    (aB (bo (bP (cV (K := K) rfl) (qv 3) (aI aP (hr.mono (by decide)) rfl af.mg af.fn.kp af.bd bh hP hw hK ht XR.none (aa (qv 0) (aa (aw (eC (K := K) rfl hK) rfl bl.len_ PySem.boot_len (aa (qv 3) ae)) ae))) (fun _ _ => rfl))))))), ?_⟩
  obtain ⟨b, aq, n, e, hb, O, q⟩ := hS
  subst e
  have h9 := O.nine
  have h1 := O.one
  have BL := O.wid
  have big : (10000 : Nat) < sizeLine := by decide
  obtain ⟨r0, a0, al⟩ := uq O
  refine jd (fun ρ M => ρ = [some (.ptr b), some (eN aq), some (.int (n : Nat)), none] ∧ M = Γ.M0) (fun N hN => ?_) (fun ρ M h => ?_)
  · simp! only [a0, al]
    exact hN _ _ ⟨rfl, rfl⟩
  obtain ⟨rfl, rfl⟩ := h
  refine jd (fun ρ M => ρ = [some (.ptr b), some (eN aq), some (.int (n : Nat)), some (.lst wA)] ∧ M = Γ.M0) (fun N hN => ?_) (fun ρ M h => ?_)
  · simp! only []
    exact ⟨by omega, by omega, by omega, by omega, jZ (by decide) (by decide) (by decide +kernel), jZ (by decide) (by decide) (by decide +kernel), by omega, hN _ _ ⟨rfl, rfl⟩⟩
  obtain ⟨rfl, rfl⟩ := h
  refine jd (fun ρ M => ρ = [some (.ptr b), some (eN aq), some (.int (n : Nat)), some (.lst (gq n))] ∧ M = Γ.M0) (fun N hN => ?_) (fun ρ M h => ?_)
  · have la : wA.length = 16 := rfl
    have l1 : (Str.ofString "cd").length = 2 := by decide +kernel
    have l2 : (Str.ofString "ab").length = 2 := by decide +kernel
    have l3 : (Str.ofString "a").length = 1 := by decide +kernel
    have l4 : (Str.ofString "??").length = 2 := by decide +kernel
    have l5 : (⟨#[97 + n]⟩ : Str).length = 1 := rfl
    have l6 : ((Txt.mul (Str.ofString "a") 1999).length : Int) = 1999 := by
      have := PyProof.Rows.len_mul_k (x := Str.ofString "a") (n := 1999) 1 (by decide +kernel)
      rw [if_neg (by omega)] at this
      omega
    simp! only [Jl BL]
    exact ⟨by omega, by omega, by omega, by omega, ⟨by decide, by decide, by decide⟩, by omega, jZ (by decide) (by decide) (by decide +kernel), by omega, by omega, by omega, hN _ _ ⟨rfl, rfl⟩⟩
  obtain ⟨rfl, rfl⟩ := h
  simp! only []
  have lp : (gq n).length = 24 := rfl
  refine ⟨b, (gq n).length, rfl, hb, by omega, by omega, fun d hd => ?_⟩
  have sk : d < (gq n).length := by omega
  have e := cu (List.getElem?_eq_getElem sk)
  obtain ⟨e1, e2⟩ := vB BL _ (List.getElem_mem sk)
  generalize (gq n)[d] = r at e e1 e2
  simp only [e]
  exact .inl (q _ e1 e2)
end
section
variable {P : Program} {w : World} {K : PySem.W.Frag} {mg : Str → Option Value} {base : Heap} {tb : b0} {C_RoadError C_NoNet C_NoPlace C_NoSign C_NoWord C_NoWhole C_NoNumber C_NoKin C_NoSet C_NoPair C_NoStep C_NoCall C_TooMany C_NoPaper C_NoText C_NoRow C_NoDeed : Addr} {cs : List Addr}
theorem gN : aN ["_law_script", "_law_k", "_law_bag_here", "_law_net_here", "_law_odd", "_law_none", "_law_other", "_law_deeds"] ["_law_script"] (ah eY) := ⟨rfl, rfl, rfl, by decide +kernel, rfl, by decide +kernel, by decide +kernel⟩
noncomputable abbrev qL : Str := "law.<locals>.<lambda>"
theorem Dr {a : Addr} {ds : List Dv} {t : Dt} {M : Mh} {Q : ZK} (ha : M a = some (.lst ds)) (h : bU (.lst ds) = some t) (hp : fW t ≤ 60) (q : Q (.bl false) M) : rH true (.ptr a) (.lst ds) M Q := by
  unfold rH
  have e1 : now M (.ptr a) = .lst ds := by simp only [now, ha]
  have e2 : now M (.lst ds) = .lst ds := rfl
  rw [e1, e2, h]
  refine ⟨hp, ?_⟩
  rw [jL]
  exact q
theorem jF {scope : Scope} {fs : List Str} (a : scope.kind = .function) (b : scope.isCoroutine = false) (c : scope.isGenerator = false) (d : ([] ++ fs).Nodup) (e : ∀ x ∈ fs, scope.names.lookup x = some .free) (f : ∀ y ∈ scope.names, y.2 ≠ .cell) : jS [] fs scope := ⟨a, b, c, d, (fun _ h => nomatch h), e, f⟩
theorem Hc {f f1 f2 f3 f4 f5 f6 f7 f8 f9 KD : Addr} {fd bp fd2 yr KG KH KI KJ KL KN Hd : FuncData} {BM cG : Addr} (D : Df K mg "law" eY ["_law_script"] f fd) (fu : pz base fd BM cG) (du : ∃ bm ob, BMod base mainGlobals mg bm ob) (ub : (cG, qL) ∈ tb.l) (GX : ∀ q ∈ tb.l, q.1 = cG → q.2 = qL)
    (fe : Df K mg "_law_bag" hU ["_law_script", "_law_at"] f1 bp) (vC : FnOk P w K mg base bH 1 f1 bp ["_law_script", "_law_at"] (aW P w K tb G0))
    (fg : Df K mg "_law_net" bV ["_law_bag_here", "_law_most"] f2 fd2) (vD : FnOk P w K mg base bH 3 f2 fd2 ["_law_bag_here", "_law_most"] (aW P w K tb BF))
    (af : Df K mg "_law_take" cI ["_law_bag_here", "_law_many"] f3 yr) (aP : FnOk P w K mg base bH 1 f3 yr ["_law_bag_here", "_law_many"] (aW P w K tb jf))
    (cL : Df K mg "_law_no_word" eX ["_law_bag_here", "_law_net_here"] f4 KG) (oN : FnOk P w K mg base bH 2 f4 KG ["_law_bag_here", "_law_net_here"] (aW P w K tb pT))
    (cW : Df K mg "_law_no_net" ed ["_law_bag_here", "_law_net_here"] f5 KH) (qd : FnOk P w K mg base bH 2 f5 KH ["_law_bag_here", "_law_net_here"] (aW P w K tb yE))
    (aJ : Df K mg "_law_refused" eW ["_law_deed"] f6 KI) (Jm : ∀ b', (∀ b o, base.get? b = some o → b'.get? b = some o) → FnOk P w K mg b' bH 13 f6 KI ["_law_deed"] (aW P w K tb (sh P w K mg tb cs [C_NoNet, C_NoPlace, C_NoSign, C_NoWord, C_NoWhole, C_NoNumber, C_NoKin, C_NoSet, C_NoPair, C_NoStep, C_NoCall, C_TooMany, C_NoPaper, C_NoText, C_NoRow, C_NoDeed] b')))
    (dZ : Df K mg "lifted" jU ["net", "word"] f7 KJ) (yI : ∀ b', (∀ b o, base.get? b = some o → b'.get? b = some o) → FnOk P w K mg b' (bK P w) 11 f7 KJ ["net", "word"] (aW P w K tb (uw C_NoNet C_NoWord)))
    (bf : Df K mg "stable_pairs" dG ["net"] f8 KL) (He : ∀ b', (∀ b o, base.get? b = some o → b'.get? b = some o) → FnOk P w K mg b' (bK P w) 9 f8 KL ["net"] (aW P w K tb (jr C_NoNet)))
    (cp : Df K mg "classes" gM ["net"] f9 KN) (Hf : ∀ b', (∀ b o, base.get? b = some o → b'.get? b = some o) → FnOk P w K mg b' (bK P w) 10 f9 KN ["net"] (aW P w K tb (jr C_NoNet)))
    (b7 : Df K mg "net_of_classes" dX ["net"] KD Hd) (Hg : ∀ b', (∀ b o, base.get? b = some o → b'.get? b = some o) → FnOk P w K mg b' (bK P w) 11 KD Hd ["net"] (aW P w K tb (jr C_NoNet)))
    (e8 : C_NoNet ∈ cs) (gj : C_NoWord ∈ cs) (bl : Bl mg) :
    FnOk P w K mg base bH 14 f fd ["_law_script"] (aW P w K tb Gu) := by
  refine gR D gN (fun ds M Q E hS => by obtain ⟨ns, e, _⟩ := hS; rw [e]; rfl) fun A outer s E Γ ds Q' E' hP hw hK ht hr hS => ?_
  obtain ⟨ns, e, hl, hM, q⟩ := hS
  have cY : (cG, qL) ∈ Γ.tb.l := ht ▸ ub
  have cZ : ∀ q ∈ Γ.tb.l, q.1 = cG → q.2 = qL := ht ▸ GX
  have dM := Jm
  refine ⟨_, (ai (nD PassesOwn.never rfl (de rfl bl.range_ (aa (aw (Gj rfl) rfl bl.max_ FE (aa ak (aa (aw (xG rfl) rfl bl.min_ wV (aa (aw (eC (K := K) rfl hK) rfl bl.len_ PySem.boot_len (aa (qv 0) ae)) (aa ak ae))) ae))) ae)) (fun BD eP ew eK et => by have hP := hP.trans eP.symm; have hw := hw.trans ew.symm; have hK := hK.trans eK.symm; have ht := ht.trans et.symm; exact ⟨(bE (i := 1) gN.nd rfl (Or.inl rfl)), (ai (aF (i := 2) gN.nd rfl (Or.inl rfl) (aI vC (hr.mono (by decide)) rfl fe.mg fe.fn.kp fe.bd bh hP hw hK ht XR.none (aa (qv 0) (aa (qv 1) ae))))
    (ai (aF (i := 3) gN.nd rfl (Or.inr rfl) (aI vD (hr.mono (by decide)) rfl fg.mg fg.fn.kp fg.bd bh hP hw hK ht XR.none (aa (qv 2) (aa ak ae))))
    (ai (aF (i := 4) gN.nd rfl (Or.inr rfl) (aI oN (hr.mono (by decide)) rfl cL.mg cL.fn.kp cL.bd bh hP hw hK ht XR.none (aa (qv 2) (aa (qv 3) ae))))
    (ai (cS (bX zV (ft (idx := [3, 4]) (fs := ["_law_net_here", "_law_odd"]) fu.code fu.hd du rfl (jE (show ∀ y ∈ (_ : List (Str × NameKind)), y.2 = NameKind.free → (ah eY).names.lookup y.1 = some .cell from by decide +kernel)) (nM (N := ["_law_script", "_law_k", "_law_bag_here", "_law_net_here", "_law_odd", "_law_none", "_law_other", "_law_deeds"]) (lk := fun n => (ah eY).names.lookup n) (by decide +kernel)) (by first | exact cY | (rw [et]; exact cY)) (by first | exact cZ | (rw [et]; exact cZ)) dM (hr.mono (by decide)) (fun _ => rfl) rfl aJ.mg aJ.fn.kp aJ.bd bh hP hw hK ht XR.none) ay (cE _))
      (aB (bo eO))
      qss_nil)
    (ai (aF (i := 5) gN.nd rfl (Or.inr rfl) (aI qd (hr.mono (by decide)) rfl cW.mg cW.fn.kp cW.bd bh hP hw hK ht XR.none (aa (qv 2) (aa (qv 3) ae))))
    (ai (aF (i := 6) gN.nd rfl (Or.inr rfl) (bP (cV (K := K) rfl) (bT (aa (qv 4) (aa ay ae))) (aI aP (hr.mono (by decide)) rfl af.mg af.fn.kp af.bd bh hP hw hK ht XR.none (aa (qv 2) (aa ak ae))) (fun _ _ => rfl)))
    (ai (aF (i := 7) gN.nd rfl (Or.inl rfl) (t5 (aa (ft (idx := [5, 6]) (fs := ["_law_none", "_law_other"]) fu.code fu.hd du rfl (jE (show ∀ y ∈ (_ : List (Str × NameKind)), y.2 = NameKind.free → (ah eY).names.lookup y.1 = some .cell from by decide +kernel)) (nM (N := ["_law_script", "_law_k", "_law_bag_here", "_law_net_here", "_law_odd", "_law_none", "_law_other", "_law_deeds"]) (lk := fun n => (ah eY).names.lookup n) (by decide +kernel)) (by first | exact cY | (rw [et]; exact cY)) (by first | exact cZ | (rw [et]; exact cZ)) dM (hr.mono (by decide)) (fun _ => rfl) rfl aJ.mg aJ.fn.kp aJ.bd bh hP hw hK ht XR.none) ae)))
    (ai (fG (lB (K := K) rfl PySem.F.plainAttrs_list PySem.F.slot_list_append PySem.F.type_list_append mD (qv 7) (aa (ft (idx := [5]) (fs := ["_law_none"]) fu.code fu.hd du rfl (jE (show ∀ y ∈ (_ : List (Str × NameKind)), y.2 = NameKind.free → (ah eY).names.lookup y.1 = some .cell from by decide +kernel)) (nM (N := ["_law_script", "_law_k", "_law_bag_here", "_law_net_here", "_law_odd", "_law_none", "_law_other", "_law_deeds"]) (lk := fun n => (ah eY).names.lookup n) (by decide +kernel)) (by first | exact cY | (rw [et]; exact cY)) (by first | exact cZ | (rw [et]; exact cZ)) dM (hr.mono (by decide)) (fun _ => rfl) rfl aJ.mg aJ.fn.kp aJ.bd bh hP hw hK ht XR.none) ae)))
    (ai (fG (lB (K := K) rfl PySem.F.plainAttrs_list PySem.F.slot_list_append PySem.F.type_list_append mD (qv 7) (aa (ft (idx := [5]) (fs := ["_law_none"]) fu.code fu.hd du rfl (jE (show ∀ y ∈ (_ : List (Str × NameKind)), y.2 = NameKind.free → (ah eY).names.lookup y.1 = some .cell from by decide +kernel)) (nM (N := ["_law_script", "_law_k", "_law_bag_here", "_law_net_here", "_law_odd", "_law_none", "_law_other", "_law_deeds"]) (lk := fun n => (ah eY).names.lookup n) (by decide +kernel)) (by first | exact cY | (rw [et]; exact cY)) (by first | exact cZ | (rw [et]; exact cZ)) dM (hr.mono (by decide)) (fun _ => rfl) rfl aJ.mg aJ.fn.kp aJ.bd bh hP hw hK ht XR.none) ae)))
    (ai (fG (lB (K := K) rfl PySem.F.plainAttrs_list PySem.F.slot_list_append PySem.F.type_list_append mD (qv 7) (aa (ft (idx := [5]) (fs := ["_law_none"]) fu.code fu.hd du rfl (jE (show ∀ y ∈ (_ : List (Str × NameKind)), y.2 = NameKind.free → (ah eY).names.lookup y.1 = some .cell from by decide +kernel)) (nM (N := ["_law_script", "_law_k", "_law_bag_here", "_law_net_here", "_law_odd", "_law_none", "_law_other", "_law_deeds"]) (lk := fun n => (ah eY).names.lookup n) (by decide +kernel)) (by first | exact cY | (rw [et]; exact cY)) (by first | exact cZ | (rw [et]; exact cZ)) dM (hr.mono (by decide)) (fun _ => rfl) rfl aJ.mg aJ.fn.kp aJ.bd bh hP hw hK ht XR.none) ae)))
    (aB (cS (bX (IQ hr.units) (qv 7) (bT (aa ay (aa ay (aa ay (aa ay ae))))) (cE _))
      (aB (bo eO))
      qss_nil))))))))))))⟩))
    (aB (bo eO))), ?_⟩
  subst e
  have big : (10000 : Nat) < sizeLine := by decide
  dsimp! only []
  refine ⟨by split <;> split <;> omega, by split <;> split <;> omega, ?_⟩
  refine kR (fun k ρ M => (∃ x1 x2 x3 x4 x5 x6 x7, ρ = [some (.bt ns), x1, x2, x3, x4, x5, x6, x7])) ⟨_, _, _, _, _, _, _, rfl⟩ (fun k d ρ M N hd hJ hN => ?_) (fun ρ M _ => .inl (q _))
  obtain ⟨x1, x2, x3, x4, x5, x6, x7, rfl⟩ := hJ
  obtain ⟨rfl, hk⟩ := gK hd
  have hk : k ≤ 16 := by split at hk <;> split at hk <;> omega
  dsimp! only []
  refine ⟨ns, _, rfl, hl, by omega, by omega, fun b hb => ?_⟩
  refine ⟨b, 9, rfl, updM_same, by omega, by omega, fun aq n O _ => ?_⟩
  refine ⟨b, aq, n, rfl, updM_same, O, fun odd Mu Mv => ?_⟩
  have h9 := O.nine
  simp! only [dP, gy]
  intro lf o c oc aO vcs lv hO b' dN hC
  obtain ⟨fT, dD, fZ, bJ⟩ := hO
  obtain ⟨fX, rfl⟩ := fZ
  have iU := yI b' dN
  refine ⟨lf, _, _, c, oc, vcs, [eN aq, odd], C_NoWord, 3, Str.ofString "word", rfl, (nK (k := 11) (fs := ["_law_net_here", "_law_odd"]) (qual := qL) ⟨dD, ⟨_, _, _, rfl, rfl⟩, bJ⟩ (jF rfl rfl rfl (by decide +kernel) (by decide +kernel) (by decide +kernel)) hC lv (fun bz ds M Q E hS => by obtain ⟨_, e, _⟩ := hS; rw [e]; rfl) fun A outer s E Γ bz ds Q' E' hP hw hK ht hE hr hS => ⟨_, (aI iU (hr.mono (by decide)) rfl dZ.mg dZ.fn.kp dZ.bd k7 hP hw hK ht hE (aa (qv 0) (aa (qv 1) ae))), ?_⟩), ⟨_, _, _, _, rfl⟩, .all fun us hl => ?_, gj, rfl, rfl, ?_⟩
  · obtain ⟨rfl, rfl, hq⟩ := hS
    simp! only []
    exact ⟨_, _, _, rfl, .inr ⟨aq, n, rfl, O, Mu, Mv, rfl⟩, hq⟩
  · match us, hl with
    | [], _ => rfl
  clear iU fT dD bJ dN hC
  simp! only [dP, gy]
  refine ⟨b, aq, n, rfl, updM_same, O, fun ao BO nJ => ?_⟩
  dsimp! only []
  refine ⟨by omega, b, 2, rfl, updM_same, by decide, by decide, fun t KC => ?_⟩
  obtain ⟨O8, eo⟩ : ∃ r, cq [odd, Dv.str (Str.ofString "ab")] ((t : Nat) : Int) = some r := by
    have O9 : t < [odd, Dv.str (Str.ofString "ab")].length := by show t < 2; omega
    exact ⟨_, cu (List.getElem?_eq_getElem O9)⟩
  simp only [eo]
  intro lf o c oc aO vcs lv hO b' dN hC
  obtain ⟨fT, dD, fZ, bJ⟩ := hO
  obtain ⟨fX, rfl⟩ := fZ
  have iU := yI b' dN
  refine ⟨lf, _, _, c, oc, vcs, [ao, O8], C_NoNet, 0, Str.ofString "net", rfl, (nK (k := 11) (fs := ["_law_none", "_law_other"]) (qual := qL) ⟨dD, ⟨_, _, _, rfl, rfl⟩, bJ⟩ (jF rfl rfl rfl (by decide +kernel) (by decide +kernel) (by decide +kernel)) hC lv (fun bz ds M Q E hS => by obtain ⟨_, e, _⟩ := hS; rw [e]; rfl) fun A outer s E Γ bz ds Q' E' hP hw hK ht hE hr hS => ⟨_, (aI iU (hr.mono (by decide)) rfl dZ.mg dZ.fn.kp dZ.bd k7 hP hw hK ht hE (aa (qv 0) (aa (qv 1) ae))), ?_⟩), ⟨_, _, _, _, rfl⟩, .all fun us hl => ?_, e8, rfl, rfl, ?_⟩
  · obtain ⟨rfl, rfl, hq⟩ := hS
    simp! only []
    exact ⟨_, _, _, rfl, .inl ⟨BO, nJ, rfl⟩, hq⟩
  · match us, hl with
    | [], _ => rfl
  clear iU fT dD bJ dN hC
  simp! only [dP, gy]
  refine ⟨by omega, fun a ha => ?_⟩
  intro lf o c oc aO vcs lv hO b' dN hC
  obtain ⟨fT, dD, fZ, bJ⟩ := hO
  obtain ⟨fX, rfl⟩ := fZ
  have fc := He b' dN
  refine ⟨lf, _, _, c, oc, vcs, [ao], C_NoNet, 0, Str.ofString "net", rfl, (nK (k := 11) (fs := ["_law_none"]) (qual := qL) ⟨dD, ⟨_, _, _, rfl, rfl⟩, bJ⟩ (jF rfl rfl rfl (by decide +kernel) (by decide +kernel) (by decide +kernel)) hC lv (fun bz ds M Q E hS => by obtain ⟨_, e, _⟩ := hS; rw [e]; rfl) fun A outer s E Γ bz ds Q' E' hP hw hK ht hE hr hS => ⟨_, (aI fc (hr.mono (by decide)) rfl bf.mg bf.fn.kp bf.bd k7 hP hw hK ht hE (aa (qv 0) ae)), ?_⟩), ⟨_, _, _, _, rfl⟩, .all fun us hl => ?_, e8, rfl, rfl, ?_⟩
  · obtain ⟨rfl, rfl, hq⟩ := hS
    simp! only []
    exact ⟨_, rfl, BO, nJ, hq⟩
  · match us, hl with
    | [], _ => rfl
  clear fc fT dD bJ dN hC
  simp! only [dP, gy]
  refine ⟨by omega, ?_⟩
  intro lf o c oc aO vcs lv hO b' dN hC
  obtain ⟨fT, dD, fZ, bJ⟩ := hO
  obtain ⟨fX, rfl⟩ := fZ
  have jk := Hf b' dN
  refine ⟨lf, _, _, c, oc, vcs, [ao], C_NoNet, 0, Str.ofString "net", rfl, (nK (k := 11) (fs := ["_law_none"]) (qual := qL) ⟨dD, ⟨_, _, _, rfl, rfl⟩, bJ⟩ (jF rfl rfl rfl (by decide +kernel) (by decide +kernel) (by decide +kernel)) hC lv (fun bz ds M Q E hS => by obtain ⟨_, e, _⟩ := hS; rw [e]; rfl) fun A outer s E Γ bz ds Q' E' hP hw hK ht hE hr hS => ⟨_, (aI jk (hr.mono (by decide)) rfl cp.mg cp.fn.kp cp.bd k7 hP hw hK ht hE (aa (qv 0) ae)), ?_⟩), ⟨_, _, _, _, rfl⟩, .all fun us hl => ?_, e8, rfl, rfl, ?_⟩
  · obtain ⟨rfl, rfl, hq⟩ := hS
    simp! only []
    exact ⟨_, rfl, BO, nJ, hq⟩
  · match us, hl with
    | [], _ => rfl
  clear jk fT dD bJ dN hC
  simp! only [dP, gy]
  refine ⟨by omega, ?_⟩
  intro lf o c oc aO vcs lv hO b' dN hC
  obtain ⟨fT, dD, fZ, bJ⟩ := hO
  obtain ⟨fX, rfl⟩ := fZ
  have iV := Hg b' dN
  refine ⟨lf, _, _, c, oc, vcs, [ao], C_NoNet, 0, Str.ofString "net", rfl, (nK (k := 11) (fs := ["_law_none"]) (qual := qL) ⟨dD, ⟨_, _, _, rfl, rfl⟩, bJ⟩ (jF rfl rfl rfl (by decide +kernel) (by decide +kernel) (by decide +kernel)) hC lv (fun bz ds M Q E hS => by obtain ⟨_, e, _⟩ := hS; rw [e]; rfl) fun A outer s E Γ bz ds Q' E' hP hw hK ht hE hr hS => ⟨_, (aI iV (hr.mono (by decide)) rfl b7.mg b7.fn.kp b7.bd k7 hP hw hK ht hE (aa (qv 0) ae)), ?_⟩), ⟨_, _, _, _, rfl⟩, .all fun us hl => ?_, e8, rfl, rfl, ?_⟩
  · obtain ⟨rfl, rfl, hq⟩ := hS
    simp! only []
    exact ⟨_, rfl, BO, nJ, hq⟩
  · match us, hl with
    | [], _ => rfl
  clear iV fT dD bJ dN hC
  simp! only [dP, gy]
  refine ⟨by omega, by omega, Dr updM_same (t := .lst [.str "net", .str "net", .str "net", .str "net"]) rfl (by decide) ?_⟩
  exact hN _ _ ⟨_, _, _, _, _, _, _, rfl⟩
end
theorem all_mk {l : PySem.W.OpenLaw} {w : World} {K : PySem.W.Frag} {h : Heap} {mg : Str → Option Value} {fa : Addr} {tabs lts : List Addr} {C_RoadError C_NoNet C_NoPlace C_NoSign C_NoWord C_NoWhole C_NoNumber C_NoKin C_NoSet C_NoPair C_NoStep C_NoCall C_TooMany C_NoText C_NoRow C_NoDeed C_NoPaper : Addr} (X : K.In h) (G : h.Ns mainGlobals mg) (Pa : mg "law" = some (.ref fa))
    (T : Paired (TabOf mg h) ["is_row", "is_net", "is_word"] tabs) (U : Paired (TabOf mg h) ["law"] lts)
    (td : PySem.W.nsIn K mainGlobals "RoadError" = some (some (.ref C_RoadError)))
    (Du : PySem.W.nsIn K mainGlobals "NoNet" = some (some (.ref C_NoNet)))
    (yJ : PySem.W.nsIn K mainGlobals "NoPlace" = some (some (.ref C_NoPlace)))
    (Au : PySem.W.nsIn K mainGlobals "NoSign" = some (some (.ref C_NoSign)))
    (Av : PySem.W.nsIn K mainGlobals "NoWord" = some (some (.ref C_NoWord)))
    (yK : PySem.W.nsIn K mainGlobals "NoWhole" = some (some (.ref C_NoWhole)))
    (vE : PySem.W.nsIn K mainGlobals "NoNumber" = some (some (.ref C_NoNumber)))
    (Dw : PySem.W.nsIn K mainGlobals "NoKin" = some (some (.ref C_NoKin)))
    (Dx : PySem.W.nsIn K mainGlobals "NoSet" = some (some (.ref C_NoSet)))
    (Aw : PySem.W.nsIn K mainGlobals "NoPair" = some (some (.ref C_NoPair)))
    (Ax : PySem.W.nsIn K mainGlobals "NoStep" = some (some (.ref C_NoStep)))
    (Ay : PySem.W.nsIn K mainGlobals "NoCall" = some (some (.ref C_NoCall)))
    (yL : PySem.W.nsIn K mainGlobals "TooMany" = some (some (.ref C_TooMany)))
    (Az : PySem.W.nsIn K mainGlobals "NoText" = some (some (.ref C_NoText)))
    (Dy : PySem.W.nsIn K mainGlobals "NoRow" = some (some (.ref C_NoRow)))
    (AA : PySem.W.nsIn K mainGlobals "NoDeed" = some (some (.ref C_NoDeed)))
    (eb : uO K C_RoadError [C_NoNet, C_NoPlace, C_NoSign, C_NoWord, C_NoWhole, C_NoNumber, C_NoKin, C_NoSet, C_NoPair, C_NoStep, C_NoCall, C_TooMany, C_NoText, C_NoRow, C_NoDeed] = true) (Pb : [C_NoNet, C_NoPlace, C_NoSign, C_NoWord, C_NoWhole, C_NoNumber, C_NoKin, C_NoSet, C_NoPair, C_NoStep, C_NoCall, C_TooMany, C_NoText, C_NoRow, C_NoDeed].Nodup)
    (yM : PySem.W.nsIn K mainGlobals "NoPaper" = some (some (.ref C_NoPaper))) (vF : [C_NoNet, C_NoPlace, C_NoSign, C_NoWord, C_NoWhole, C_NoNumber, C_NoKin, C_NoSet, C_NoPair, C_NoStep, C_NoCall, C_TooMany, C_NoText, C_NoRow, C_NoDeed].all (fun C => PySem.W.kitOne K (.ref C) (.ref C_NoPaper) == some false) = true)
    (vG : aR K "is_whole" eT)
    (mO : aR K "is_whole_below" cQ)
    (AB : aR K "is_row" iO)
    (AD : aR K "is_net" iP)
    (vH : aR K "need_net" eU)
    (vI : aR K "signs_of" g9)
    (sm : aR K "all_places" rS)
    (vJ : aR K "is_place" vf)
    (yN : aR K "is_word" gL)
    (tj : aR K "need_word" gz)
    (AF : aR K "end_of" Ad)
    (js : ∃ tk, kZ K "first_met" sH (.int 511 tk))
    (AG : aR K "is_set" Ae)
    (vK : aR K "need_set" vg)
    (yO : aR K "is_pair" yh)
    (Dz : aR K "image" Dh)
    (so : aR K "sign_image" rT)
    (sr : aR K "images_met" rV)
    (su : aR K "first_call" rW)
    (tm : aR K "need_pair" sI)
    (yP : aR K "call_of" yi)
    (tq : aR K "all_pairs" sJ)
    (vL : aR K "in_order" vh)
    (oO : aR K "coming_pairs" oD)
    (qf : aR K "led_to_some" p8)
    (oP : aR K "never_called" eV)
    (oQ : aR K "stable_pairs" dG)
    (yQ : aR K "classes" gM)
    (mP : aR K "net_of_classes" dX)
    (AH : aR K "lifted" jU)
    (qg : aR K "pairs_among" qa)
    (vM : aR K "_law_bag" hU)
    (tu : aR K "_law_take" cI)
    (sv : aR K "_law_order" eH)
    (vN : aR K "_law_net" bV)
    (tv : aR K "_law_kind" gA)
    (oR : aR K "_law_refused" eW)
    (qh : aR K "_law_no_net" ed)
    (oS : aR K "_law_no_word" eX)
    (Jn : aR K "law" eY)
    (Jo : PySem.W.nsIn K mainGlobals "len" = some none)
    (DA : PySem.W.nsIn K mainGlobals "range" = some none)
    (Jp : PySem.W.nsIn K mainGlobals "min" = some none)
    (Jq : PySem.W.nsIn K mainGlobals "max" = some none)
    (Jr : PySem.W.nsIn K mainGlobals "abs" = some none)
    (Hh : PySem.W.nsIn K mainGlobals "list" = some none)
    (DB : PySem.W.nsIn K mainGlobals "tuple" = some none)
    (Js : PySem.W.nsIn K mainGlobals "int" = some none)
    (Jt : PySem.W.nsIn K mainGlobals "str" = some none)
    (Hi : PySem.W.nsIn K mainGlobals "bool" = some none)
    (sx : PySem.W.nsIn K mainGlobals "isinstance" = some none)
    (Ju : PySem.W.nsIn K mainGlobals "all" = some none)
    (Jv : PySem.W.nsIn K mainGlobals "set" = some none)
    (AI : PySem.W.nsIn K mainGlobals "sorted" = some none)
    (Jw : PySem.W.nsIn K mainGlobals "zip" = some none)
    (tD : PySem.W.nsIn K mainGlobals "enumerate" = some none)
    (Jx : PySem.W.nsIn K mainGlobals "sum" = some none)
    (vO : PySem.W.nsIn K mainGlobals "reversed" = some none)
    (AJ : PySem.W.nsIn K mainGlobals "divmod" = some none)
    (Jy : PySem.W.nsIn K mainGlobals "any" = some none)
    (sy : PySem.W.nsIn K mainGlobals "ValueError" = some none)
    (oU : ∃ tk, PySem.W.nsIn K mainGlobals "SIGNS" = some (some (.str "abc" tk)))
    (gT : ∃ tk, PySem.W.nsIn K mainGlobals "MOST_PLACES" = some (some (.int 9 tk)))
    (d6 : ∃ tk, PySem.W.nsIn K mainGlobals "MOST_SIGNS_OF_WORD" = some (some (.int 2000 tk)))
    : ∃ fd : FuncData, (∀ (s : Shared) (v : Value), BindsTo s fd ⟨[v], []⟩ [("_law_script", v)]) ∧ ∀ base : Heap, K.In base → base.Ns mainGlobals mg → (∃ bm ob, BMod base mainGlobals mg bm ob) → (∀ c p, PySem.W.CodeHd h c p → PySem.W.CodeHd base c p) → FnOk l.prog w K mg base bH 14 fa fd ["_law_script"] (spLaw K ⟨tabs, lts.zip [qL]⟩) := by
  obtain ⟨Jz, HB, cf⟩ := vG.df X G ["thing"] fun _ _ _ _ _ _ us hl => match us, hl with | [_], _ => rfl
  obtain ⟨AK, yZ, bu⟩ := mO.df X G ["thing", "many"] fun _ _ _ _ _ _ us hl => match us, hl with | [_, _], _ => rfl
  obtain ⟨Mw, KO, fA⟩ := AB.df X G ["thing", "many", "width"] fun _ _ _ _ _ _ us hl => match us, hl with | [_, _, _], _ => rfl
  obtain ⟨AO, yR, fB⟩ := AD.df X G ["thing"] fun _ _ _ _ _ _ us hl => match us, hl with | [_], _ => rfl
  obtain ⟨JA, HC, bb⟩ := vH.df X G ["thing"] fun _ _ _ _ _ _ us hl => match us, hl with | [_], _ => rfl
  obtain ⟨JB, HD, fb⟩ := vI.df X G ["net"] fun _ _ _ _ _ _ us hl => match us, hl with | [_], _ => rfl
  obtain ⟨Hj, DP, Hk⟩ := sm.df X G ["net"] fun _ _ _ _ _ _ us hl => match us, hl with | [_], _ => rfl
  obtain ⟨JC, HE, JD⟩ := vJ.df X G ["net", "thing"] fun _ _ _ _ _ _ us hl => match us, hl with | [_, _], _ => rfl
  obtain ⟨yS, vP, eL⟩ := yN.df X G ["net", "thing"] fun _ _ _ _ _ _ us hl => match us, hl with | [_, _], _ => rfl
  obtain ⟨HF, Hl, ez⟩ := tj.df X G ["net", "thing"] fun _ _ _ _ _ _ us hl => match us, hl with | [_, _], _ => rfl
  obtain ⟨Mx, KP, MA⟩ := AF.df X G ["net", "place", "word"] fun _ _ _ _ _ _ us hl => match us, hl with | [_, _, _], _ => rfl
  obtain ⟨Hm, js⟩ := js
  obtain ⟨HG, Hn, HH⟩ := js.df X G ["start", "width", "step", "most"] (fun _ _ _ _ _ _ _ us hl => match us, hl with | [_, _, _], _ => ⟨_, rfl, rfl⟩) fun _ _ _ _ _ _ _ us hl => match us, hl with | [_, _, _, _], _ => ⟨_, rfl, rfl⟩
  obtain ⟨MB, KQ, MC⟩ := AG.df X G ["net", "thing"] fun _ _ _ _ _ _ us hl => match us, hl with | [_, _], _ => rfl
  obtain ⟨JE, HI, JF⟩ := vK.df X G ["net", "thing"] fun _ _ _ _ _ _ us hl => match us, hl with | [_, _], _ => rfl
  obtain ⟨KR, JG, KS⟩ := yO.df X G ["net", "thing"] fun _ _ _ _ _ _ us hl => match us, hl with | [_, _], _ => rfl
  obtain ⟨MN, MD, MO⟩ := Dz.df X G ["net", "places", "word"] fun _ _ _ _ _ _ us hl => match us, hl with | [_, _, _], _ => rfl
  obtain ⟨Ho, DQ, Hq⟩ := so.df X G ["net", "places", "at"] fun _ _ _ _ _ _ us hl => match us, hl with | [_, _, _], _ => rfl
  obtain ⟨Hr, DR, Hs⟩ := sr.df X G ["net", "places"] fun _ _ _ _ _ _ us hl => match us, hl with | [_, _], _ => rfl
  obtain ⟨Ht, DS, Hu⟩ := su.df X G ["net", "places"] fun _ _ _ _ _ _ us hl => match us, hl with | [_, _], _ => rfl
  obtain ⟨HJ, Hv, HK⟩ := tm.df X G ["net", "thing"] fun _ _ _ _ _ _ us hl => match us, hl with | [_, _], _ => rfl
  obtain ⟨KU, JH, KW⟩ := yP.df X G ["net", "pair"] fun _ _ _ _ _ _ us hl => match us, hl with | [_, _], _ => rfl
  obtain ⟨HL, Hw, HM⟩ := tq.df X G ["net"] fun _ _ _ _ _ _ us hl => match us, hl with | [_], _ => rfl
  obtain ⟨JI, HN, JK⟩ := vL.df X G ["one", "other"] fun _ _ _ _ _ _ us hl => match us, hl with | [_, _], _ => rfl
  obtain ⟨DC, BP, DE⟩ := oO.df X G ["net"] fun _ _ _ _ _ _ us hl => match us, hl with | [_], _ => rfl
  obtain ⟨DT, DF, DU⟩ := qf.df X G ["coming", "goals"] fun _ _ _ _ _ _ us hl => match us, hl with | [_, _], _ => rfl
  obtain ⟨DG, BQ, cK⟩ := oP.df X G ["net"] fun _ _ _ _ _ _ us hl => match us, hl with | [_], _ => rfl
  obtain ⟨DH, BR, bf⟩ := oQ.df X G ["net"] fun _ _ _ _ _ _ us hl => match us, hl with | [_], _ => rfl
  obtain ⟨KY, JL, cp⟩ := yQ.df X G ["net"] fun _ _ _ _ _ _ us hl => match us, hl with | [_], _ => rfl
  obtain ⟨AQ, y0, b7⟩ := mP.df X G ["net"] fun _ _ _ _ _ _ us hl => match us, hl with | [_], _ => rfl
  obtain ⟨ME, KZ, dZ⟩ := AH.df X G ["net", "word"] fun _ _ _ _ _ _ us hl => match us, hl with | [_, _], _ => rfl
  obtain ⟨DV, DI, DW⟩ := qg.df X G ["pairs", "places"] fun _ _ _ _ _ _ us hl => match us, hl with | [_, _], _ => rfl
  obtain ⟨JM, HP, fe⟩ := vM.df X G ["_law_script", "_law_at"] fun _ _ _ _ _ _ us hl => match us, hl with | [_, _], _ => rfl
  obtain ⟨HQ, Hx, af⟩ := tu.df X G ["_law_bag_here", "_law_many"] fun _ _ _ _ _ _ us hl => match us, hl with | [_, _], _ => rfl
  obtain ⟨Hy, DX, bW⟩ := sv.df X G ["_law_bag_here", "_law_many"] fun _ _ _ _ _ _ us hl => match us, hl with | [_, _], _ => rfl
  obtain ⟨JN, HR, fg⟩ := vN.df X G ["_law_bag_here", "_law_most"] fun _ _ _ _ _ _ us hl => match us, hl with | [_, _], _ => rfl
  obtain ⟨tE, sA, eu⟩ := tv.df X G ["_law_e"] fun _ _ _ _ _ _ us hl => match us, hl with | [_], _ => rfl
  obtain ⟨DJ, BU, aJ⟩ := oR.df X G ["_law_deed"] fun _ _ _ _ _ _ us hl => match us, hl with | [_], _ => rfl
  obtain ⟨DY, DK, cW⟩ := qh.df X G ["_law_bag_here", "_law_net_here"] fun _ _ _ _ _ _ us hl => match us, hl with | [_, _], _ => rfl
  obtain ⟨DL, BV, cL⟩ := oS.df X G ["_law_bag_here", "_law_net_here"] fun _ _ _ _ _ _ us hl => match us, hl with | [_, _], _ => rfl
  obtain ⟨Pk, Hz, qy⟩ := Jn.df X G ["_law_script"] fun _ _ _ _ _ _ us hl => match us, hl with | [_], _ => rfl
  have jq := PySem.W.mg_of X G td
  have ib := PySem.W.mg_of X G Du
  have lh := PySem.W.mg_of X G yJ
  have mH := PySem.W.mg_of X G Au
  have gm := PySem.W.mg_of X G Av
  have lj := PySem.W.mg_of X G yK
  have jY := PySem.W.mg_of X G vE
  have oE := PySem.W.mg_of X G Dw
  have oF := PySem.W.mg_of X G Dx
  have mI := PySem.W.mg_of X G Aw
  have mJ := PySem.W.mg_of X G Ax
  have mK := PySem.W.mg_of X G Ay
  have ll := PySem.W.mg_of X G yL
  have mL := PySem.W.mg_of X G Az
  have oG := PySem.W.mg_of X G Dy
  have mM := PySem.W.mg_of X G AA
  have lq := PySem.W.mg_of X G yM
  have X_ := CC eb
  have e8 : C_NoNet ∈ [C_NoNet, C_NoPlace, C_NoSign, C_NoWord, C_NoWhole, C_NoNumber, C_NoKin, C_NoSet, C_NoPair, C_NoStep, C_NoCall, C_TooMany, C_NoText, C_NoRow, C_NoDeed] := by simp
  have K0 : C_NoPlace ∈ [C_NoNet, C_NoPlace, C_NoSign, C_NoWord, C_NoWhole, C_NoNumber, C_NoKin, C_NoSet, C_NoPair, C_NoStep, C_NoCall, C_TooMany, C_NoText, C_NoRow, C_NoDeed] := by simp
  have MF : C_NoSign ∈ [C_NoNet, C_NoPlace, C_NoSign, C_NoWord, C_NoWhole, C_NoNumber, C_NoKin, C_NoSet, C_NoPair, C_NoStep, C_NoCall, C_TooMany, C_NoText, C_NoRow, C_NoDeed] := by simp
  have gj : C_NoWord ∈ [C_NoNet, C_NoPlace, C_NoSign, C_NoWord, C_NoWhole, C_NoNumber, C_NoKin, C_NoSet, C_NoPair, C_NoStep, C_NoCall, C_TooMany, C_NoText, C_NoRow, C_NoDeed] := by simp
  have K1 : C_NoWhole ∈ [C_NoNet, C_NoPlace, C_NoSign, C_NoWord, C_NoWhole, C_NoNumber, C_NoKin, C_NoSet, C_NoPair, C_NoStep, C_NoCall, C_TooMany, C_NoText, C_NoRow, C_NoDeed] := by simp
  have JO : C_NoNumber ∈ [C_NoNet, C_NoPlace, C_NoSign, C_NoWord, C_NoWhole, C_NoNumber, C_NoKin, C_NoSet, C_NoPair, C_NoStep, C_NoCall, C_TooMany, C_NoText, C_NoRow, C_NoDeed] := by simp
  have MP : C_NoKin ∈ [C_NoNet, C_NoPlace, C_NoSign, C_NoWord, C_NoWhole, C_NoNumber, C_NoKin, C_NoSet, C_NoPair, C_NoStep, C_NoCall, C_TooMany, C_NoText, C_NoRow, C_NoDeed] := by simp
  have MQ : C_NoSet ∈ [C_NoNet, C_NoPlace, C_NoSign, C_NoWord, C_NoWhole, C_NoNumber, C_NoKin, C_NoSet, C_NoPair, C_NoStep, C_NoCall, C_TooMany, C_NoText, C_NoRow, C_NoDeed] := by simp
  have MG : C_NoPair ∈ [C_NoNet, C_NoPlace, C_NoSign, C_NoWord, C_NoWhole, C_NoNumber, C_NoKin, C_NoSet, C_NoPair, C_NoStep, C_NoCall, C_TooMany, C_NoText, C_NoRow, C_NoDeed] := by simp
  have MH : C_NoStep ∈ [C_NoNet, C_NoPlace, C_NoSign, C_NoWord, C_NoWhole, C_NoNumber, C_NoKin, C_NoSet, C_NoPair, C_NoStep, C_NoCall, C_TooMany, C_NoText, C_NoRow, C_NoDeed] := by simp
  have MI : C_NoCall ∈ [C_NoNet, C_NoPlace, C_NoSign, C_NoWord, C_NoWhole, C_NoNumber, C_NoKin, C_NoSet, C_NoPair, C_NoStep, C_NoCall, C_TooMany, C_NoText, C_NoRow, C_NoDeed] := by simp
  have K2 : C_TooMany ∈ [C_NoNet, C_NoPlace, C_NoSign, C_NoWord, C_NoWhole, C_NoNumber, C_NoKin, C_NoSet, C_NoPair, C_NoStep, C_NoCall, C_TooMany, C_NoText, C_NoRow, C_NoDeed] := by simp
  have MJ : C_NoText ∈ [C_NoNet, C_NoPlace, C_NoSign, C_NoWord, C_NoWhole, C_NoNumber, C_NoKin, C_NoSet, C_NoPair, C_NoStep, C_NoCall, C_TooMany, C_NoText, C_NoRow, C_NoDeed] := by simp
  have MR : C_NoRow ∈ [C_NoNet, C_NoPlace, C_NoSign, C_NoWord, C_NoWhole, C_NoNumber, C_NoKin, C_NoSet, C_NoPair, C_NoStep, C_NoCall, C_TooMany, C_NoText, C_NoRow, C_NoDeed] := by simp
  have MK : C_NoDeed ∈ [C_NoNet, C_NoPlace, C_NoSign, C_NoWord, C_NoWhole, C_NoNumber, C_NoKin, C_NoSet, C_NoPair, C_NoStep, C_NoCall, C_TooMany, C_NoText, C_NoRow, C_NoDeed] := by simp
  have e := Pa.symm.trans qy.mg
  cases e
  have bl : Bl mg := ⟨PySem.W.mg_none_of X G Jo, PySem.W.mg_none_of X G DA, PySem.W.mg_none_of X G Jp, PySem.W.mg_none_of X G Jq, PySem.W.mg_none_of X G Jr, PySem.W.mg_none_of X G Hh, PySem.W.mg_none_of X G DB, PySem.W.mg_none_of X G Js, PySem.W.mg_none_of X G Jt, PySem.W.mg_none_of X G Hi, PySem.W.mg_none_of X G sx, PySem.W.mg_none_of X G Ju, PySem.W.mg_none_of X G Jv, PySem.W.mg_none_of X G AI, PySem.W.mg_none_of X G Jw, PySem.W.mg_none_of X G tD, PySem.W.mg_none_of X G Jx, PySem.W.mg_none_of X G vO, PySem.W.mg_none_of X G AJ, PySem.W.mg_none_of X G Jy, PySem.W.mg_none_of X G sy⟩
  obtain ⟨ML, oU⟩ := oU
  have mG := PySem.W.mg_of X G oU
  obtain ⟨DM, gT⟩ := gT
  have gi := PySem.W.mg_of X G gT
  obtain ⟨ux, d6⟩ := d6
  have dJ := PySem.W.mg_of X G d6
  obtain ⟨aY, K3, rfl, AR, T⟩ := gv T
  obtain ⟨bj, K4, rfl, AU, T⟩ := gv T
  obtain ⟨a9, JP, rfl, yT, T⟩ := gv T
  cases T
  obtain ⟨cG, Pg, rfl, JQ, U⟩ := gv U
  cases U
  refine ⟨Hz, fun s v => qy.bind1 s v (by intros; rfl), fun base _ _ du tr => ?_⟩
  obtain ⟨jV, gh⟩ := nq fA X AR tr
  obtain ⟨sd, jW⟩ := nq fB X AU tr
  obtain ⟨pQ, jh⟩ := nq eL X yT tr
  obtain ⟨BM, fu⟩ := nq qy X JQ tr
  have yU : aY ∈ (⟨[aY, bj, a9], [(cG, qL)]⟩ : b0) := by show _ ∈ [aY, bj, a9]; simp
  have yV : bj ∈ (⟨[aY, bj, a9], [(cG, qL)]⟩ : b0) := by show _ ∈ [aY, bj, a9]; simp
  have vQ : a9 ∈ (⟨[aY, bj, a9], [(cG, qL)]⟩ : b0) := by show _ ∈ [aY, bj, a9]; simp
  have cY : (cG, qL) ∈ (⟨[aY, bj, a9], [(cG, qL)]⟩ : b0).l := by simp
  have cZ : ∀ q ∈ (⟨[aY, bj, a9], [(cG, qL)]⟩ : b0).l, q.1 = cG → q.2 = qL := by simp
  have AV : ∀ b', (∀ b o, base.get? b = some o → b'.get? b = some o) → FnOk l.prog w K mg b' bH 6 AO yR ["thing"] (aW l.prog w K (⟨[aY, bj, a9], [(cG, qL)]⟩ : b0) Ah) := fun b' x => yq (P := l.prog) (w := w) (tb := (⟨[aY, bj, a9], [(cG, qL)]⟩ : b0)) fB (oC jW x) yV fA (oC gh x) yU (uh du x) bu cf bl gi
  have j0 := fun b' x => sP bb fB (AV b' x) X_ e8 ib
  have vR := fun b' x => sR fb bb (j0 b' x) bl mG
  have yW : ∀ b', (∀ b o, base.get? b = some o → b'.get? b = some o) → FnOk l.prog w K mg b' (bK l.prog w) 9 yS vP ["net", "thing"] (aW l.prog w K (⟨[aY, bj, a9], [(cG, qL)]⟩ : b0) vp) := fun b' x => vq eL (oC jh x) vQ (uh du x) fb (vR b' x) bl dJ
  have tF := fun b' x => sf ez eL (yW b' x) X_ gj gm
  have AW := fun b' x => yG dZ bb (j0 b' x) ez (tF b' x)
  have oV := fun b' x => nU cK bb (j0 b' x)
  have jG := fun b' x => nV bf cK (oV b' x)
  have pU := fun b' x => vA cp bf (jG b' x)
  have mQ := fun b' x => lN b7 cp (pU b' x)
  have lr := G1 (tb := (⟨[aY, bj, a9], [(cG, qL)]⟩ : b0)) (sL (P := l.prog) (w := w) (base := base) af)
  have JR := Jh (tb := (⟨[aY, bj, a9], [(cG, qL)]⟩ : b0)) (vi (P := l.prog) (w := w) (base := base) fe bl)
  have DN := rX bW af lr bl
  have JS := vk fg af lr bW DN bl
  have yX := oM cL af lr bl
  have AX := qb cW af lr bl
  have kn : Kinds K C_RoadError [C_NoNet, C_NoPlace, C_NoSign, C_NoWord, C_NoWhole, C_NoNumber, C_NoKin, C_NoSet, C_NoPair, C_NoStep, C_NoCall, C_TooMany, C_NoText, C_NoRow, C_NoDeed] [C_NoNet, C_NoPlace, C_NoSign, C_NoWord, C_NoWhole, C_NoNumber, C_NoKin, C_NoSet, C_NoPair, C_NoStep, C_NoCall, C_TooMany, C_NoPaper, C_NoText, C_NoRow, C_NoDeed] := kinds_of (L1 := [C_NoNet, C_NoPlace, C_NoSign, C_NoWord, C_NoWhole, C_NoNumber, C_NoKin, C_NoSet, C_NoPair, C_NoStep, C_NoCall, C_TooMany]) (L2 := [C_NoText, C_NoRow, C_NoDeed]) X_ Pb (fun D h => h) vF
  have HA : ∀ b' : Heap, FnOkN l.prog w K mg b' bH 1 tE sA ["_law_e"] (aW l.prog w K (⟨[aY, bj, a9], [(cG, qL)]⟩ : b0) (vw [C_NoNet, C_NoPlace, C_NoSign, C_NoWord, C_NoWhole, C_NoNumber, C_NoKin, C_NoSet, C_NoPair, C_NoStep, C_NoCall, C_TooMany, C_NoText, C_NoRow, C_NoDeed] [C_NoNet, C_NoPlace, C_NoSign, C_NoWord, C_NoWhole, C_NoNumber, C_NoKin, C_NoSet, C_NoPair, C_NoStep, C_NoCall, C_TooMany, C_NoPaper, C_NoText, C_NoRow, C_NoDeed])) := fun b' => sT eu X_ kn ib lh mH gm lj jY oE oF mI mJ mK ll lq mL oG mM bl
  have yY := fun b' (x : ∀ b o, base.get? b = some o → b'.get? b = some o) => oH aJ eu (HA b') X_ jq bl
  exact Gv (Hc qy fu du cY cZ fe JR fg JS af lr cL yX cW AX aJ yY dZ AW bf jG cp pU b7 mQ e8 gj bl)
theorem walk {l : PySem.W.OpenLaw} {q : Program} {loose : List Str} {XP : (Str → Option Value) → Heap → Prop} {YP : World → Heap → Prop} {d : DefRec} {K : Params → PySem.W.Frag} (hn : l.most = some 63) (wI : d.params.defaults = [])
    (xV : ∀ w : World, PySem.W.kb_classed (K w.params) = true) (Bw : ∀ y ∈ ((["is_row", "is_net", "is_word"] : List Str) ++ (["law"] : List Str)), ∃ r ∈ recsOf q, r.name = y) (GU : ∀ w : World, oA (K w.params) ["is_row", "is_net", "is_word"] ["law"] = true) (hY : ∀ (w : World) (h : Heap), YP w h → (K w.params).In h)
    (F : ∀ (w : World) (mg : Str → Option Value) (fa : Addr) (h : Heap) (tabs lts : List Addr), (K w.params).In h → h.Ns mainGlobals mg → mg d.name = some (.ref fa) →
      Paired (TabOf mg h) ["is_row", "is_net", "is_word"] tabs → Paired (TabOf mg h) ["law"] lts →
      ∃ fd : FuncData, (∀ (s : Shared) (u : Value), BindsTo s fd ⟨[u], []⟩ [("_law_script", u)]) ∧
        ∀ base : Heap, (K w.params).In base → base.Ns mainGlobals mg → (∃ bm ob, BMod base mainGlobals mg bm ob) → (∀ c p, PySem.W.CodeHd h c p → PySem.W.CodeHd base c p) → FnOk l.prog w (K w.params) mg base bH 14 fa fd ["_law_script"] (spLaw (K w.params) ⟨tabs, lts.zip [qL]⟩)) :
    PySem.W.WalkO q loose XP YP l.row.toRowW d [] (fun f vs => PySem.call f vs) :=
  L2.z6 (n := 63) (k := 14) (x := "_law_script") (CX := bH) (sp := fun K tabs lts => spLaw K ⟨tabs, lts.zip [qL]⟩) hn (by decide) wI ⟨rfl, by decide, by decide⟩ xV Bw GU hY F (fun _ _ _ _ a ns hl hn hT hL hS => z7 hl hn hT hL hS) fun _ _ _ _ z => z
end My
open PySem PySem.W PyProof.Rows L2
set_option maxRecDepth 100000 in
set_option maxHeartbeats 0 in
theorem PySem.Challenge.cw_roadcall_k32_lifting_refused_holds : PySem.Challenge.rw_roadcall_k32_lifting_refused.Holds := by
  w_on; o_law
  refine My.BW (q := My.kq) (loose := My.kL) (H := My.kH) My.left (by rfl) (by rfl) (by rfl) (by rfl) (by first | assumption | decide +kernel) (by decide +kernel) ⟨rfl, rfl, rfl, rfl, rfl, by decide +kernel⟩ ?hw ?hc
  (case hw => w_witness2)
  refine My.walk (l := PySem.Challenge.rw_roadcall_k32_lifting_refused) rfl rfl (fun w => by kernel_rfl) (recs_of (by decide +kernel)) (fun w => by kernel_rfl) (fun w h Y => Y) ?F
  intro w mg fa h tabs lts KX G wJ T U
  exact My.all_mk (C_RoadError := 24) (C_NoNet := 37) (C_NoPlace := 49) (C_NoSign := 61) (C_NoWord := 73) (C_NoWhole := 85) (C_NoNumber := 97) (C_NoKin := 109) (C_NoSet := 121) (C_NoPair := 133) (C_NoStep := 145) (C_NoCall := 157) (C_TooMany := 169) (C_NoText := 203) (C_NoRow := 215) (C_NoDeed := 227) (C_NoPaper := 191) KX G wJ T U
    (by kernel_rfl)
    (by kernel_rfl)
    (by kernel_rfl)
    (by kernel_rfl)
    (by kernel_rfl)
    (by kernel_rfl)
    (by kernel_rfl)
    (by kernel_rfl)
    (by kernel_rfl)
    (by kernel_rfl)
    (by kernel_rfl)
    (by kernel_rfl)
    (by kernel_rfl)
    (by kernel_rfl)
    (by kernel_rfl)
    (by kernel_rfl)
    (by kernel_rfl)
    (by decide)
    (by kernel_rfl)
    (by kernel_rfl)
    (L2.ax (f := 236) (oc := .type "function") (od := none) (sl := #[]) (kV := .none) (dc := .none) (pm := My.vS "roadcall.whole" 475) (an := none) (cd := .ref 235) (ct := .none) (by kernel_rfl) (by kernel_rfl) (by kernel_rfl) (by kernel_rfl))
    (L2.ax (f := 243) (oc := .type "function") (od := none) (sl := #[]) (kV := .none) (dc := .none) (pm := My.vS "roadcall.whole" 475) (an := none) (cd := .ref 242) (ct := .none) (by kernel_rfl) (by kernel_rfl) (by kernel_rfl) (by kernel_rfl))
    (L2.ax (f := 250) (oc := .type "function") (od := none) (sl := #[]) (kV := .none) (dc := .none) (pm := My.vS "roadcall.nets" 492) (an := none) (cd := .ref 249) (ct := .none) (by kernel_rfl) (by kernel_rfl) (by kernel_rfl) (by kernel_rfl))
    (L2.ax (f := 257) (oc := .type "function") (od := none) (sl := #[]) (kV := .none) (dc := .none) (pm := My.vS "roadcall.nets" 492) (an := none) (cd := .ref 256) (ct := .none) (by kernel_rfl) (by kernel_rfl) (by kernel_rfl) (by kernel_rfl))
    (L2.ax (f := 264) (oc := .type "function") (od := none) (sl := #[]) (kV := .none) (dc := .none) (pm := My.vS "roadcall.nets" 492) (an := none) (cd := .ref 263) (ct := .none) (by kernel_rfl) (by kernel_rfl) (by kernel_rfl) (by kernel_rfl))
    (L2.ax (f := 271) (oc := .type "function") (od := none) (sl := #[]) (kV := .none) (dc := .none) (pm := My.vS "roadcall.nets" 492) (an := none) (cd := .ref 270) (ct := .none) (by kernel_rfl) (by kernel_rfl) (by kernel_rfl) (by kernel_rfl))
    (L2.ax (f := 278) (oc := .type "function") (od := none) (sl := #[]) (kV := .none) (dc := .none) (pm := My.vS "roadcall.nets" 492) (an := none) (cd := .ref 277) (ct := .none) (by kernel_rfl) (by kernel_rfl) (by kernel_rfl) (by kernel_rfl))
    (L2.ax (f := 285) (oc := .type "function") (od := none) (sl := #[]) (kV := .none) (dc := .none) (pm := My.vS "roadcall.nets" 492) (an := none) (cd := .ref 284) (ct := .none) (by kernel_rfl) (by kernel_rfl) (by kernel_rfl) (by kernel_rfl))
    (L2.ax (f := 292) (oc := .type "function") (od := none) (sl := #[]) (kV := .none) (dc := .none) (pm := My.vS "roadcall.nets" 492) (an := none) (cd := .ref 291) (ct := .none) (by kernel_rfl) (by kernel_rfl) (by kernel_rfl) (by kernel_rfl))
    (L2.ax (f := 299) (oc := .type "function") (od := none) (sl := #[]) (kV := .none) (dc := .none) (pm := My.vS "roadcall.nets" 492) (an := none) (cd := .ref 298) (ct := .none) (by kernel_rfl) (by kernel_rfl) (by kernel_rfl) (by kernel_rfl))
    (L2.ax (f := 306) (oc := .type "function") (od := none) (sl := #[]) (kV := .none) (dc := .none) (pm := My.vS "roadcall.ways" 565) (an := none) (cd := .ref 305) (ct := .none) (by kernel_rfl) (by kernel_rfl) (by kernel_rfl) (by kernel_rfl))
    (L2.xZ (f := 314) (oc := .type "function") (od := none) (sl := #[]) (T := 307) (oT := ⟨.type "tuple", none, .seq #[.int 511 567] 0, #[]⟩) (kV := .none) (dc := .none) (pm := My.vS "roadcall.ways" 565) (an := none) (cd := .ref 313) (ct := .none) (by kernel_rfl) (by kernel_rfl) (by kernel_rfl) (by kernel_rfl) (by kernel_rfl) rfl)
    (L2.ax (f := 321) (oc := .type "function") (od := none) (sl := #[]) (kV := .none) (dc := .none) (pm := My.vS "roadcall.words" 594) (an := none) (cd := .ref 320) (ct := .none) (by kernel_rfl) (by kernel_rfl) (by kernel_rfl) (by kernel_rfl))
    (L2.ax (f := 328) (oc := .type "function") (od := none) (sl := #[]) (kV := .none) (dc := .none) (pm := My.vS "roadcall.words" 594) (an := none) (cd := .ref 327) (ct := .none) (by kernel_rfl) (by kernel_rfl) (by kernel_rfl) (by kernel_rfl))
    (L2.ax (f := 335) (oc := .type "function") (od := none) (sl := #[]) (kV := .none) (dc := .none) (pm := My.vS "roadcall.words" 594) (an := none) (cd := .ref 334) (ct := .none) (by kernel_rfl) (by kernel_rfl) (by kernel_rfl) (by kernel_rfl))
    (L2.ax (f := 340) (oc := .type "function") (od := none) (sl := #[]) (kV := .none) (dc := .none) (pm := My.vS "roadcall.words" 594) (an := none) (cd := .ref 339) (ct := .none) (by kernel_rfl) (by kernel_rfl) (by kernel_rfl) (by kernel_rfl))
    (L2.ax (f := 345) (oc := .type "function") (od := none) (sl := #[]) (kV := .none) (dc := .none) (pm := My.vS "roadcall.words" 594) (an := none) (cd := .ref 344) (ct := .none) (by kernel_rfl) (by kernel_rfl) (by kernel_rfl) (by kernel_rfl))
    (L2.ax (f := 352) (oc := .type "function") (od := none) (sl := #[]) (kV := .none) (dc := .none) (pm := My.vS "roadcall.words" 594) (an := none) (cd := .ref 351) (ct := .none) (by kernel_rfl) (by kernel_rfl) (by kernel_rfl) (by kernel_rfl))
    (L2.ax (f := 359) (oc := .type "function") (od := none) (sl := #[]) (kV := .none) (dc := .none) (pm := My.vS "roadcall.words" 594) (an := none) (cd := .ref 358) (ct := .none) (by kernel_rfl) (by kernel_rfl) (by kernel_rfl) (by kernel_rfl))
    (L2.ax (f := 366) (oc := .type "function") (od := none) (sl := #[]) (kV := .none) (dc := .none) (pm := My.vS "roadcall.pairs" 652) (an := none) (cd := .ref 365) (ct := .none) (by kernel_rfl) (by kernel_rfl) (by kernel_rfl) (by kernel_rfl))
    (L2.ax (f := 373) (oc := .type "function") (od := none) (sl := #[]) (kV := .none) (dc := .none) (pm := My.vS "roadcall.pairs" 652) (an := none) (cd := .ref 372) (ct := .none) (by kernel_rfl) (by kernel_rfl) (by kernel_rfl) (by kernel_rfl))
    (L2.ax (f := 378) (oc := .type "function") (od := none) (sl := #[]) (kV := .none) (dc := .none) (pm := My.vS "roadcall.pairs" 652) (an := none) (cd := .ref 377) (ct := .none) (by kernel_rfl) (by kernel_rfl) (by kernel_rfl) (by kernel_rfl))
    (L2.ax (f := 385) (oc := .type "function") (od := none) (sl := #[]) (kV := .none) (dc := .none) (pm := My.vS "roadcall.pairs" 652) (an := none) (cd := .ref 384) (ct := .none) (by kernel_rfl) (by kernel_rfl) (by kernel_rfl) (by kernel_rfl))
    (L2.ax (f := 392) (oc := .type "function") (od := none) (sl := #[]) (kV := .none) (dc := .none) (pm := My.vS "roadcall.pairs" 652) (an := none) (cd := .ref 391) (ct := .none) (by kernel_rfl) (by kernel_rfl) (by kernel_rfl) (by kernel_rfl))
    (L2.ax (f := 397) (oc := .type "function") (od := none) (sl := #[]) (kV := .none) (dc := .none) (pm := My.vS "roadcall.pairs" 652) (an := none) (cd := .ref 396) (ct := .none) (by kernel_rfl) (by kernel_rfl) (by kernel_rfl) (by kernel_rfl))
    (L2.ax (f := 402) (oc := .type "function") (od := none) (sl := #[]) (kV := .none) (dc := .none) (pm := My.vS "roadcall.pairs" 652) (an := none) (cd := .ref 401) (ct := .none) (by kernel_rfl) (by kernel_rfl) (by kernel_rfl) (by kernel_rfl))
    (L2.ax (f := 407) (oc := .type "function") (od := none) (sl := #[]) (kV := .none) (dc := .none) (pm := My.vS "roadcall.stable" 708) (an := none) (cd := .ref 406) (ct := .none) (by kernel_rfl) (by kernel_rfl) (by kernel_rfl) (by kernel_rfl))
    (L2.ax (f := 412) (oc := .type "function") (od := none) (sl := #[]) (kV := .none) (dc := .none) (pm := My.vS "roadcall.stable" 708) (an := none) (cd := .ref 411) (ct := .none) (by kernel_rfl) (by kernel_rfl) (by kernel_rfl) (by kernel_rfl))
    (L2.ax (f := 417) (oc := .type "function") (od := none) (sl := #[]) (kV := .none) (dc := .none) (pm := My.vS "roadcall.stable" 708) (an := none) (cd := .ref 416) (ct := .none) (by kernel_rfl) (by kernel_rfl) (by kernel_rfl) (by kernel_rfl))
    (L2.ax (f := 424) (oc := .type "function") (od := none) (sl := #[]) (kV := .none) (dc := .none) (pm := My.vS "roadcall.lifting" 728) (an := none) (cd := .ref 423) (ct := .none) (by kernel_rfl) (by kernel_rfl) (by kernel_rfl) (by kernel_rfl))
    (L2.ax (f := 429) (oc := .type "function") (od := none) (sl := #[]) (kV := .none) (dc := .none) (pm := My.vS "roadcall.lifting" 728) (an := none) (cd := .ref 428) (ct := .none) (by kernel_rfl) (by kernel_rfl) (by kernel_rfl) (by kernel_rfl))
    (L2.ax (f := 436) (oc := .type "function") (od := none) (sl := #[]) (kV := .none) (dc := .none) (pm := My.vS "law_roadcall_k32_lifting_refused" 748) (an := none) (cd := .ref 435) (ct := .none) (by kernel_rfl) (by kernel_rfl) (by kernel_rfl) (by kernel_rfl))
    (L2.ax (f := 443) (oc := .type "function") (od := none) (sl := #[]) (kV := .none) (dc := .none) (pm := My.vS "law_roadcall_k32_lifting_refused" 748) (an := none) (cd := .ref 442) (ct := .none) (by kernel_rfl) (by kernel_rfl) (by kernel_rfl) (by kernel_rfl))
    (L2.ax (f := 448) (oc := .type "function") (od := none) (sl := #[]) (kV := .none) (dc := .none) (pm := My.vS "law_roadcall_k32_lifting_refused" 748) (an := none) (cd := .ref 447) (ct := .none) (by kernel_rfl) (by kernel_rfl) (by kernel_rfl) (by kernel_rfl))
    (L2.ax (f := 453) (oc := .type "function") (od := none) (sl := #[]) (kV := .none) (dc := .none) (pm := My.vS "law_roadcall_k32_lifting_refused" 748) (an := none) (cd := .ref 452) (ct := .none) (by kernel_rfl) (by kernel_rfl) (by kernel_rfl) (by kernel_rfl))
    (L2.ax (f := 460) (oc := .type "function") (od := none) (sl := #[]) (kV := .none) (dc := .none) (pm := My.vS "law_roadcall_k32_lifting_refused" 748) (an := none) (cd := .ref 459) (ct := .none) (by kernel_rfl) (by kernel_rfl) (by kernel_rfl) (by kernel_rfl))
    (L2.ax (f := 467) (oc := .type "function") (od := none) (sl := #[]) (kV := .none) (dc := .none) (pm := My.vS "law_roadcall_k32_lifting_refused" 748) (an := none) (cd := .ref 466) (ct := .none) (by kernel_rfl) (by kernel_rfl) (by kernel_rfl) (by kernel_rfl))
    (L2.ax (f := 472) (oc := .type "function") (od := none) (sl := #[]) (kV := .none) (dc := .none) (pm := My.vS "law_roadcall_k32_lifting_refused" 748) (an := none) (cd := .ref 471) (ct := .none) (by kernel_rfl) (by kernel_rfl) (by kernel_rfl) (by kernel_rfl))
    (L2.ax (f := 479) (oc := .type "function") (od := none) (sl := #[]) (kV := .none) (dc := .none) (pm := My.vS "law_roadcall_k32_lifting_refused" 748) (an := none) (cd := .ref 478) (ct := .none) (by kernel_rfl) (by kernel_rfl) (by kernel_rfl) (by kernel_rfl))
    (L2.ax (f := 486) (oc := .type "function") (od := none) (sl := #[]) (kV := .none) (dc := .none) (pm := My.vS "law_roadcall_k32_lifting_refused" 748) (an := none) (cd := .ref 485) (ct := .none) (by kernel_rfl) (by kernel_rfl) (by kernel_rfl) (by kernel_rfl))
    (by kernel_rfl)
    (by kernel_rfl)
    (by kernel_rfl)
    (by kernel_rfl)
    (by kernel_rfl)
    (by kernel_rfl)
    (by kernel_rfl)
    (by kernel_rfl)
    (by kernel_rfl)
    (by kernel_rfl)
    (by kernel_rfl)
    (by kernel_rfl)
    (by kernel_rfl)
    (by kernel_rfl)
    (by kernel_rfl)
    (by kernel_rfl)
    (by kernel_rfl)
    (by kernel_rfl)
    (by kernel_rfl)
    (by kernel_rfl)
    (by kernel_rfl)
    ⟨494, by kernel_rfl⟩
    ⟨496, by kernel_rfl⟩
    ⟨498, by kernel_rfl⟩
